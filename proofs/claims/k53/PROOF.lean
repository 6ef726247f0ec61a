import PyProof.Rows.All
import Wide.All
import OpenK.AllK
import Wide.FinOn
import Lean
import PyProof.EqAt
import PyProof.EqKinds
import PyProof.TupleCall
import KE.KIntText
import KE.KRevSl
import PyProof.Rows.SeqMore
import PyProof.WalkInts
import PyProof.Rows.MinMaxN
import PyProof.ExcInit
import OpenK.KMake
import PyProof.InstStoreFacts
import PyProof.FString2
import PyProof.Rows.FStr
import PyProof.Rows.SetFrom
import PyProof.SeqRoads2
import PyProof.RangeFor
import PyProof.WalksMore
import PyProof.StrBlock2
import PyProof.Rows.SortShell
import PyProof.TupleOfSeq
import KE.KDictList
import KE.KDictOf
import PyProof.IsiH_tuple
import PyProof.Rows.RuleN_abs
import PyProof.Rows.Range3
import KE.KRevIter
import PyProof.StrLawsRepr
import PyProof.ReprStr
import PyProof.IsiH_list
import PyProof.Rows.TupDisplay
import PySem.Challenge.RW_chordbed_k53_whole_same_machines
set_option compiler.extract_closed false
set_option genSizeOf false
set_option genInjectivity false
set_option Elab.async false
set_option linter.all false
set_option maxRecDepth 100000
abbrev av:=@if_pos
abbrev ax:=@if_neg
abbrev aE:=@decide_eq_true
abbrev aP:=@decide_eq_false
abbrev a4:=@of_decide_eq_true
abbrev a5:=@absurd
abbrev a6:=@Or.inl
abbrev a7:=@Or.inr
abbrev bb:=@List
abbrev bg:=@Option
abbrev br:=@PySem.Heap.get?_push_of_some
abbrev bP:=@PySem.Heap.lt_size
abbrev cj:=@PySem.Heap.get?_push_size
abbrev cn:=@PySem.Heap.get?_update_other
abbrev cv:=@PySem.Heap.get?_update_self
abbrev cw:=@PySem.Heap.size_push
abbrev cN:=@PySem.Heap.get?_none_of_le
abbrev da:=@PySem.Obj.data_mapFields
abbrev dk:=@PySem.Obj.isFreed_of_fields
abbrev dr:=@Ne.symm
abbrev dP:=@congrArg
abbrev d3:=@beq_self_eq_true
open Lean in
def cvP:Nat→TSyntax `term→MacroM (TSyntax `rcasesPat)
 |0,_=>Macro.throwUnsupported
 |n+1,t=>let f:=fun (a:Array Term)=>do
   let l←(←a.mapM (cvP n)).mapM fun p=>`(Lean.Parser.Tactic.rcasesPatLo|$p:rcasesPat)
   `(rcasesPat|⟨$l,*⟩)
  match t with
  |`(⟨$a,*⟩)=>f a
  |`(($a,$b,*))=>f (#[a]++b.getElems)
  |`($i:ident)=>`(rcasesPat|$i:ident)
  |`(_)=>`(rcasesPat|_)
  |_=>Macro.throwUnsupported
local macro_rules|`(tactic|let $d:letDecl)=>`(tactic|have $d:letDecl)
local macro_rules|`(tactic|let $p:term:=$e)=>if p.raw.isIdent then Lean.Macro.throwUnsupported else do let q←cvP 9 p;`(tactic|obtain $q:rcasesPat:=$e)
local macro_rules|`(tactic|left)=>`(tactic|decide+kernel)|`(tactic|change $e)=>`(tactic|with_reducible exact $e)|`(tactic|specialize $e)=>`(tactic|with_reducible refine $e)
local macro_rules|`(tactic|exists $e)=>`(tactic|with_reducible apply $e)|`(def $i:declId $s:optDeclSig $v:declVal)=>if v.raw[1].isOfKind ``Lean.Parser.Term.byTactic then `(theorem $i:declId $(⟨Lean.mkNode ``Lean.Parser.Command.declSig #[s.raw[0],s.raw[1][0]]⟩):declSig $v:declVal) else `(noncomputable def $i:declId $s:optDeclSig $v:declVal)|`(abbrev $i:declId $s:optDeclSig $v:declVal)=>`(noncomputable abbrev $i:declId $s:optDeclSig $v:declVal)
local macro_rules|`(tactic|ext)=>`(tactic|decide)
local macro_rules|`(tactic|ext)=>`(tactic|omega)
local macro_rules|`(tactic|ext)=>`(tactic|lia)
local macro_rules|`(tactic|show $e)=>`(tactic|refine $e)
local macro_rules|`(tactic|ext $i:ident)=>`(tactic|cases $i:ident)
local macro_rules|`(tactic|ext $i:ident)=>`(tactic|unfold $i:ident)
local macro_rules|`(#[$a,*])=>`(⟨$a,*⟩)|`(#v[$a,*])=>`(List.toArray [$a,*])
local macro_rules|`(())=>`(by ext)
open Option renaming some->lD,none->Vt,isSome_map->abE,getD_some->abP,isSome_iff_exists->acF,map_eq_some_iff->ac6,isSome_some->aee,toList_none->aeh,getD_none->aeL
open PySem renaming wpAny_bind->Ld,Value->Vu,PyData->VD,Addr->VF,Shared->VG,wpAny_pure->VH,sizeLine->VT,mainGlobals->V3,Program->V8,starEach->We,Around->Wl,wpAny_field->Wm,NameKind->Wn,World->Wv,wpAny_newObj_type->WG,Expr->WQ,FuncData->WY,wpAny_holding->W4,wpAny_callSpecial?_slot->W7,wpAny_setField->W8,bootBuiltins->Xb,wpAny_seqItems->Xh,sysModules->Xj,swapsWith->Xq,binaryOp->Xz,wpAny_call_entry->XG,mem_of_lookup->XJ,compareOp->XT,cellsFrom->XU,wpAny_Call_Name_kw->XY,Stmt->X2,sizeLine_eq->X5,wpAny_loadPart_at->X7,wpAny_standAt->Yc,wpAny_letGo->Yl,wpAny_setField_rec->Yn,wpAny_passesOwn->Yt,plainId_quiet->Yw,wpAny_truthy_bool->Yy,Scope->YH,wpAny_typeOf->YR,codeAny_builtin->Y2,wpAny_ite_split->Y3,DictEntry->Zb,ExcBaseFacts->Zm,builtinLookup_eq_fast->Zs,wpAny_rule->Zw,codeAny_call_builtin->ZG,wpAny_execs_nil->ZM,wpAny_pyIter_list->ZT,wpAny_isSubtype_exc->ZU,PassesOwn->aaa,call_meets->aah,IsPart->aaw,wpAny_comprehension_free->aaA,GenState->aaT,wpAny_isInstance->aaV,ItemsOf->aaW,BindsTo->aa3,wpAny_call->aa4,codeAny_mono->aa5,wpAny_specialOf->abj,typeLookup_type->abk,wpAny_updateSeq->abl,wpAny_pyIter_tuple->abr,Result->abH,wpAny_updateSeq_pair->abJ,wpAny_tryCatch->abK,wpAny_onRaise->ab8,typeIs_int->acd,tupleKind_room_in1->ace,Keyword->acv,wpAny_sequenceKey->acw,ZipApart->acx,call_meetsIn->acy,wpAny_Call_ofName->acz,eqIsQuiet_byValue->acA,plainObj_wpAny_Assign_Attribute->acE,noFill_tuple_add->acO,wpAny_of_eq->ac5,Within->adi,pushCells_keeps->adj,OsState->adA,Code->adH,ReadsAll->adI,IsZip->adJ,wpAny_binaryOp_repeat_ref->aef,seq_tuple_add->aeq,evalPart_none->aer,Drawn->aeI,Model->aeJ,concat_meets->ae0,wpAny_Assign_Subscript->ae1,wpAny_isTrue_Compare1->afy,wpAny_notOrdered_dict->afC,wpAny_loadName_local->afQ,Reads->afS,wpAny_mkInt->afU,wpAny_loadName_cell->agk,wpAny_raiseNew_none->agn,wpAny_Name->agH,wpAny_Constant_int->agI,wpAny_load->agK,wpAny_getItem_heap->agL,wpAny_setItem_heap->agM,wpAny_entryPlaceOf->agN,passOn->agO,wpAny_assign_Name->ahs,slot_list_getitem->aht,wpAny_Call_method->ahu,wpAny_frameOf_fun->ahv,OwnTail->ahw,wpAny_dictEntries->ahx,wpAny_pyHash_int->ahZ,wpAny_pyHash_str->ah0,wpAny_execs_cons->ah1,wpAny_lookBehind->ah7,pastItsLine_dict->ah8,call->aib,wpAny_pyIter_zip->aid,beq_builtin_none->aif,size_of_entries->ajn,wpAny_loadPart->akt,refuseLoop_ref->akB,HeapKind->akC,isSubtype_type->akD,callType_codes->akE,intBits_le_64->amD,call_list_seq->amE,eval_ListComp->amF,wpAny_attempt->amG,strLen_append->amH,wpAny_newList->amI
open PySem.W renaming Frag->Vs,nsIn->Wb,findIn->WH,mg_none_of->W5,emptyDict->Xk,fnOf->Xl,keepIn->Xv,mg_of->XN,instObj->XS,isFn->Yu,specialIn->YV,cellsFrom_some->YW,plainGet->Y4,codeIn->Zv,hasDictIn->ZK,methodCall_KW->aar,lookIn->aav,tailIn->aaB,plainGet_of->aaU,excIn->aaX,callWith_K->aa6,methodObj->abo,plainOver->abp,takerIn->abW,makesIn->abX,readsIn->ab0,findCls->ab1,nsOkIn->acf,pyHash_slot->adB,tail_of_in->adK,handedIn->aep,OpenLaw->aeM,typeIn->aeZ,clsIn->afA
open List renaming getElem?_eq_some_iff->Vv,length_map->Vw,length_append->Vy,getElem?_eq_getElem->Vz,range->VI,getElem?_map->VN,getElem?_append_left->VQ,replicate->VR,mem_of_getElem?->VS,mem_cons_self->VV,mem_singleton->VW,mem_cons_of_mem->VX,size_toArray->VY,length_cons->V0,map_cons->V1,length_range->V2,map_append->V4,lookup_cons->V5,append_assoc->V6,mem_cons->Wa,map_map->Wd,mem_map->Wh,append_nil->Wi,getElem?_append_right->Wk,mem_append->Wr,length_replicate->Wu,getElem?_set_ne->WB,find?_cons->WC,getElem?_set_self->WE,mem_range->WI,mem_append_right->WK,length_set->WL,Nodup->WM,mem_iff_getElem?->WT,replicate_succ->WW,length_take->W2,getElem?_set->W3,getElem?_eq_none->Xd,not_mem_nil->Xi,map_congr_left->Xn,nodup_cons->Xp,getElem_mem->Xt,mem_append_left->XB,reverse_cons->XH,length_nil->XI,flatten_cons->X0,take_add_one->X1,length_reverse->X6,getElem?_replicate->X8,take_length->X9,pairwise_singleton->Ya,lookup->Ye,mem_filter->Yj,lookup_cons_self->Ym,nodup_append->Yp,all_eq_true->Yz,prefix_refl->YA,drop_eq_getElem_cons->YB,pairwise_iff_getElem->YC,filterMap_cons->YF,nil_append->YS,map_inj_right->YT,map_nil->YZ,drop_eq_nil_of_le->Y0,length_singleton->Zf,length_drop->Zj,any_cons->Zl,of_mem_zip->Zq,range_succ->Zt,mem_filterMap->ZJ,pairwise_cons->ZL,length->ZV,ext_getElem?->ZX,pairwise_map->ZY,filter_cons->aam,foldl->aat,take_of_length_le->aau,foldl_cons->aax,forIn_cons->aaz,length_filter_le->aaN,nodup_nil->aaY,contains_cons->abF,foldl_append->abS,any_eq_true->ab9,forIn_nil->acG,take_zero->acJ,mem_of_find?_eq_some->acP,getElem?_eq_none_iff->acQ,filterMap_cons_none->ada,filterMap_cons_some->adb,getElem?_cons_succ->adk,getElem?_cons_zero->adl,pairwise_lt_range->adD,mem_iff_getElem->aeg,getElem_toArray->aei,pairwise_append->aek,getElem?_range->aes,filterMap_map->aeK,set_cons_zero->aeN,set_cons_succ->aeO,prefix_append->aeP,map_singleton->aeQ,zipIdx_cons->afz,cons_append->afB,map_reverse->afD,getElem_map->afE,cons_ne_nil->afF,zipIdx_nil->afT,length_zip->afW,drop_zero->agm,all_map->ahy,set->amK
open Bool renaming true->Vx,false->VO,false_ne_true->VU,and_eq_true->V9,and_self->Xy,false_eq_true->Yg,eq_iff_iff->YQ,false_and->YY,true_or->Y1,or_eq_true->Zr,false_or->aad,true_and->abt,and_true->abu,or_true->abQ,or_false->ac4,not_true->ac8,or_eq_false_iff->aej,eq_false_iff->ae3
open Nat renaming le_of_ble_eq_true->VJ,le_refl->VP,lt_of_lt_of_le->V7,ne_of_lt->Wc,le_trans->Wt,zero_le->Wx,zero_add->WO,ne_of_gt->WX,lt_irrefl->WZ,add_assoc->XA,lt_trans->Y5,lt_succ_self->Zk,le_of_lt->ZE,le_of_eq->ZF,le_of_succ_le->aab,lt_succ_of_lt->aac,lt_trichotomy->aaf,add_sub_cancel_left->aas,lt_or_ge->aaC,min_eq_left->aaO,not_lt_zero->aaP,mul_le_mul->aa7,lt_of_le_of_lt->abI,lt_of_le_of_ne->abL,add_comm->abY,min_le_right->acb,le_succ->acr,add_sub_cancel'->aeS,le_add_right->afV,strongRecOn->agp,succ_mul->aia,sub_zero->aie,sub_self->aih,max_le->akF
open Option.some renaming inj->VZ
open PyProof.Rows renaming envOfC->Wg,slot_tuple_getitem->Wz,callWith_type1->XD,callWith_builtin1->ajk,kws_cons->ajl,kws_nil->ajm
open Array renaming getElem?_eq_some_iff->Wj,length_toList->Ww,getElem?_setIfInBounds_self_of_lt->Xu,getElem?_setIfInBounds_ne->Y6,getElem?_toList->Zc,getElem?_eq_getElem->acI,toArray_toList->adL,find?_toList->aeo,forIn_toList->aet,toList->agJ
open Int renaming toNat_natCast->W0,le_refl->aae,toNat_of_nonneg->abq,ofNat->acg,fdiv_eq_ediv_of_nonneg->acN,toNat->adC,emod_lt_of_pos->ae2,le_antisymm->agl,emod_nonneg->ago,ediv_one->ah9,zero_add->aic
open PySem.F renaming plainAttrs_list->Xg,slot_list_append->Xr,type_list_append->Xs,excBase_ValueError->Yo,plainAttrs_dict->YK,args_tuple_add_2->ZN,slot_dict_values->ZO,entry_tuple_add->ZW,slot_tuple_add->aag,slot_dict_setdefault->ab2,slot_dict_getitem->acs,type_dict_values->acB,slot_list_index->acH,slot_dict_pop->ac7,slot_dict_len->ac9
open PySem.SeqAt renaming eqv_refl->Yi,compareEq_reads->aku,compareNe_reads->akv,in_list_reads->akx,in_tuple_reads->aky,notIn_list_reads->akz,notIn_tuple_reads->akA
open Nat.le renaming dest->Ys
open List.Pairwise renaming nil->aay,filterMap->aii,filter->aij,map->aik
open List.Perm renaming refl->abZ,swap->anV
open Int.ofNat renaming inj->aeR
open PySem.PassesOwn renaming never->agP
open PySem.EqMixed renaming eq_bool_str->ah2,eq_int_str->ah3,eq_str_bool->ah4,eq_str_int->ah5
open PySem.W.Looks renaming here->ah6
open PySem.EqNone renaming eq_none_none->ajc,eq_none_bool->ajd,eq_none_int->aje,eq_none_str->ajf,eq_bool_none->ajg,eq_int_none->ajh,eq_str_none->aji
open PySem.Within renaming cons->ajj
open List.Nodup renaming sublist->amJ
open PySem.IsL renaming update->anU
open List.cons renaming injEq->anW
abbrev W:=@rfl
abbrev G:=@List
abbrev I:=@Option
open Option renaming some->R,none->U
open Bool renaming true->P
open PySem renaming Addr->M,Value->B
namespace L2
open PySem PySem.Spec PyProof.Rows
abbrev c9:=Sum Int Str
def wQ:c9->B->Bool
 |.inl k,v=>Vu.isInt k v
 |.inr x,v=>Vu.isStrOf x v
def UF(w:Wv):c9->Int
 |.inl k=>hashInt k
 |.inr x=>hashStr w x
theorem dB:∀{k:c9} {v:B},wQ k v=P->(∃i t,k=Sum.inl i/\v=Vu.int i t)\/(∃x t,k=Sum.inr x/\v=Vu.str x t)
 |.inl i,v,h=>by let(t,e):=Vu.isInt_shape h;show .inl #[i,t,W,e]
 |.inr x,v,h=>by let(t,e):=Vu.isStrOf_shape h;show .inr #[x,t,W,e]
def FU(i:Int)(t:Tok):wQ (.inl i) (.int i t)=P:=by simp[wQ,Vu.isInt]
def FD(x:Str)(t:Tok):wQ (.inr x) (.str x t)=P:=by simp[wQ,Vu.isStrOf]
def Ro(a b:Int):decide ((Sum.inl a:c9)=Sum.inl b)=(a==b):=by
 by_cases e:a=b
 .subst e;simp
 .let h:¬(Sum.inl a:c9)=Sum.inl b:=λq=>e (Sum.inl.inj q);rw[aP h];show(beq_eq_false_iff_ne.mpr e).symm
def Sk(a b:Str):decide ((Sum.inr a:c9)=Sum.inr b)=decide (a=b):=by
 by_cases e:a=b
 .subst e;simp
 .let h:¬(Sum.inr a:c9)=Sum.inr b:=λq=>e (Sum.inr.inj q);rw[aP h,aP e]
theorem Ru(a:Int)(b:Str):decide ((Sum.inl a:c9)=Sum.inr b)=VO:=aP (λq=>nomatch q)
theorem QU(a:Str)(b:Int):decide ((Sum.inr a:c9)=Sum.inl b)=VO:=aP (λq=>nomatch q)
def dw(prog:V8)(w:Wv):PySem.KeyKind prog w c9 where
 is:=wQ
 hash:=UF w
 inj:=λv a b m g=>by
  rcases dB m with⟨i,t,rfl,rfl⟩|⟨x,t,rfl,rfl⟩
  .rcases dB g with⟨j,u,rfl,e⟩|⟨y,u,rfl,e⟩
   .injection e with e1 _;rw[e1]
   .show nomatch e
  .rcases dB g with⟨j,u,rfl,e⟩|⟨y,u,rfl,e⟩
   .show nomatch e
   .injection e with e1 _;rw[e1]
 byValue:=λk v h=>by rcases dB h with⟨i,t,rfl,rfl⟩|⟨x,t,rfl,rfl⟩<;>rfl
 pyHash:=λf h=>by
  rcases dB f with⟨i,t,rfl,rfl⟩|⟨x,t,rfl,rfl⟩
  .show ahZ h
  .show ah0 h
 eqBool:=λl f h=>by
  rcases dB l with⟨i,t,rfl,rfl⟩|⟨x,t,rfl,rfl⟩
  .rcases dB f with⟨j,u,rfl,rfl⟩|⟨y,u,rfl,rfl⟩
   .rw[Ro]at h;show wpAny_eqBool_int h
   .rw[Ru]at h;show SeqAt.EqAt.int_str i t y u _ _ _ _ h
  .rcases dB f with⟨j,u,rfl,rfl⟩|⟨y,u,rfl,rfl⟩
   .rw[QU]at h;show SeqAt.EqAt.str_int x t j u _ _ _ _ h
   .rw[Sk]at h;show wpAny_eqBool_str h
 «strs»:=λk x t v h=>by
  rcases dB h with⟨i,u,rfl,e⟩|⟨y,u,rfl,e⟩
  .show nomatch e
  .injection e with e1 _
   subst e1;ext v<;>rfl
theorem Ay(prog:V8)(w:Wv)(i:Int)(t:Tok):(dw prog w).is (.inl i) (.int i t)=P:=FU i t
theorem z5(prog:V8)(w:Wv)(x:Str)(t:Tok):(dw prog w).is (.inr x) (.str x t)=P:=FD x t
inductive V where
 |XX|bl (b:Bool)|int (i:Int)|str (x:Str)|byt (b:Array UInt8)|flt (b:UInt64)|ref (a:M)|ty (n:String)
 deriving DecidableEq
def RelV:V->B->Prop
 |.XX,u=>u=Vu.none
 |.bl b,u=>u=Vu.bool b
 |.int i,u=>∃t,u=Vu.int i t
 |.str x,u=>∃t,u=Vu.str x t
 |.byt b,u=>∃t,u=Vu.bytes b t
 |.flt b,u=>∃t,u=Vu.float b t
 |.ref a,u=>u=Vu.ref a
 |.ty n,u=>u=Vu.type n
abbrev Vals:G V->G B->Prop:=Paired RelV
theorem Vals.length(r:Vals xs us):xs.length=us.length:=Paired.length r
theorem Vals.get:∀{xs:G V} {us:G B} {i:Nat} {x:V},Vals xs us->xs[i]?=R x->∃u,us[i]?=R u/\RelV x u
 |_,_,_,_,.nil,e=>by simp at e
 |_,_,0,_,.cons r _,e=>by simp at e;subst e;show#[_,W,r]
 |_,_,i+1,x,.cons _ t,e=>by let(u,b,a):=Vals.get t (by simpa using e);show#[u,by simpa using b,a]
theorem Vals.append:∀{xs a:G V} {us ws:G B},Vals xs us->Vals a ws->Vals (xs++a) (us++ws)
 |_,_,_,_,.nil,s=>s
 |_,_,_,_,.cons r t,s=>.cons r (Vals.append t s)
theorem Vals.take:∀{xs:G V} {us:G B} (n:Nat),Vals xs us->Vals (xs.take n) (us.take n)
 |_,_,0,_=>.nil
 |_,_,_+1,.nil=>.nil
 |_,_,n+1,.cons r t=>.cons r (Vals.take n t)
theorem Vals.drop:∀{xs:G V} {us:G B} (n:Nat),Vals xs us->Vals (xs.drop n) (us.drop n)
 |_,_,0,r=>r
 |_,_,_+1,.nil=>.nil
 |_,_,n+1,.cons _ t=>Vals.drop n t
def Z8:I V->I B->Prop
 |some v,R u=>RelV v u
 |none,U=>True
 |_,_=>False
def KV:G (a×V)->G (a×B)->Prop:=Paired λ(p:a×V) (q:a×B)=>p.1=q.1/\RelV p.2 q.2
def kV:c9->V
 |.inl i=>.int i
 |.inr x=>.str x
inductive HO where
 |lst (xs:G V)
 |tup (xs:G V)
 |dK (Wf:G (c9×V))|dT (Wf:G (G c9×V))
 |set (S:Int->Bool) (n:Nat)
 |ins (C dx:M) (fs:G (Str×V))
 |own (x:M)
 |xd (fs:G (Str×V))
 |met (f x:M)
 |rng (lo hi:Int)
 |frz (o:Obj) (u:HO)
 |tbl (ps:Array B)
 |ext (φ:Heap->Prop)
 |exw (φ:Wv->Heap->Prop)
abbrev Hp:=M->I HO
def bL(H:Hp)(a:M)(o:HO):Hp:=λb=>if b=a then R o else H b
def aX:bL H a o a=R o:=by ext bL;rw[av W]
def aF(h:b≠a):bL H a o b=H b:=by ext bL;rw[ax h]
def TR{H:Hp}{a b:M}{o u:HO}(h:H a=R o)(c:H b=R u)(d:o≠u):a≠b:=by intro e;subst e;rw[h]at c;show d (VZ c)
def cB{H:Hp}(h:H a=R o)(c:H b=U):a≠b:=by intro e;subst e;rw[h]at c;ext c
def abM(h:Heap)(a:M)(items:Array B):Prop:=∃o,h.get? a=R o/\(o.cls=.type "tuple"/\∃n,o.data=.seq items n)/\o.dict=U
theorem abM.tup(x:abM h a items):IsTup h a items:=let#[o,e,c,_]:=x;#[o,e,c]
theorem abM.lt(x:abM h a items):a<h.objs.size:=let#[_,e,_]:=x;bP e
theorem abM.new(h:Heap)(xs:Array B):abM (h.push {cls:=.type "tuple",data:=.seq xs}) h.objs.size xs:=#[_,cj _ W,#[W,_,W],W]
section
variable(P:V8)(w:Wv)
def ObjOk(H:Hp)(h:Heap)(a:M):HO->Prop
 |.lst xs=>xs.length<=VT/\∃(b:G B) (n:Nat),Vals xs b/\h.get? a=R {cls:=.type "list",data:=.seq b.toArray n}
 |.tup xs=>xs.length<=VT/\∃b:G B,Vals xs b/\abM h a b.toArray
 |.dK l=>l.length<=VT/\(a==Xj)=VO/\∃r,KV l r/\h.DictOf (dw P w) a r
 |.dT l=>l.length<=VT/\(a==Xj)=VO/\∃xs:G (G c9×M×B),
   Paired (λ(p:G c9×V) (q:G c9×M×B)=>p.1=q.1/\H q.2.1=R (.tup (p.1.map kV))/\RelV p.2 q.2.2) l xs/\
   ∃o y E,h.get? a=R o/\o.ExactDict/\o.data=.dict y E/\y.toList=xs.map (entryOfKey (tupleKind (dw P w)))/\(xs.map (·.1)).Nodup
 |.set S n=>h.SetOf (intKind P w) a S n
 |.ins C m fs=>H m=R (.own a)/\fs.length<=1000/\m≠a/\h.get? a=R (XS C m)/\
   ∃g,h.Ns1 m g/\(∀f,Z8 (fs.lookup f) (g f))/\adi g (fs.map (·.1))
 |.own _=>∃o,h.get? a=R o
 |.xd fs=>∃g,h.Ns1 a g/\∀f,Z8 (fs.lookup f) (g f)
 |.rng lo A=>∃t u v,h.get? a=R {cls:=.type "range",data:=.fields #v[.int lo t,.int A u,.int 1 v]}
 |.frz o u=>h.get? a=R o/\ObjOk H h a u
 |.tbl z=>h.get? a=R {cls:=.none,data:=.fields z}
 |.met f x=>h.get? a=R (abo (.ref f) (.ref x))
 |.ext e=>e h/\(∃o,h.get? a=R o)/\∀j i:Heap,e j->(∀o,j.get? a=R o->i.get? a=R o)->e i
 |.exw e=>e w h/\(∃o,h.get? a=R o)/\∀j i:Heap,e w j->(∀o,j.get? a=R o->i.get? a=R o)->e w i
def HOk(H:Hp)(h:Heap):Prop:=∀a o,H a=R o->ObjOk P w H h a o
end
section
variable{P:V8}{w:Wv}{H Z:Hp}{h h':Heap}{a:VF}{o:HO}
def ObjOk.lt(x:ObjOk P w H h a o):a<h.objs.size:=by
 cases o with
 |lst xs=>let(_,_,_,_,e):=x;show bP e
 |tup xs=>let(_,_,_,p):=x;show p.lt
 |dK i=>let(_,_,_,_,o,_,_,e,_):=x;show bP e
 |dT i=>let(_,_,_,_,o,_,_,e,_):=x;show bP e
 |set S n=>let(o,_,_,_,e,_):=x;show bP e
 |ins C m fs=>let(_,_,_,e,_):=x;show bP e
 |own y=>let(_,e):=x;show bP e
 |xd fs=>let(_,(_,_,_,e,_),_):=x;show bP e
 |rng lo l=>let(_,_,_,e):=x;show bP e
 |frz b u=>let(e,_):=x;show bP e
 |tbl j=>show bP (show h.get? a=R _ from x)
 |met f y=>show bP (show h.get? a=R _ from x)
 |ext g=>let(_,(_,e),_):=x;show bP e
 |exw g=>let(_,(_,e),_):=x;show bP e
theorem Paired.ZR:∀{d:bb α} {c:bb β},Paired F d c->(∀a b,F a b->e a b)->Paired e d c
 |_,_,.nil,_=>.nil
 |_,_,.cons r t,f=>.cons (f _ _ r) (Paired.ZR t f)
def ObjOk.ZP(x:ObjOk P w H h a o)(k:∀b u,(b=a\/H b=R (.own a))->h.get? b=R u->h'.get? b=R u)
  (G:∀b,H b=R (.own a)->Z b=R (.own a)) (F:∀b xs,H b=R (.tup xs)->Z b=R (.tup xs)):ObjOk P w Z h' a o:=by
 induction o with
 |lst xs=>let(z,B,n,r,e):=x;show#[z,B,n,r,k _ _ (.inl W) e]
 |tup xs=>let(z,B,r,g,e,c):=x;show#[z,B,r,g,k _ _ (.inl W) e,c]
 |dK N=>let(z,y,L,r,g,i,j,e,c):=x;show#[z,y,L,r,g,i,j,k _ _ (.inl W) e,c]
 |dT N=>let(z,y,xs,r,g,i,j,e,c):=x;show#[z,y,xs,Paired.ZR r λp q z=>#[z.1,F _ _ z.2.1,z.2.2],g,i,j,k _ _ (.inl W) e,c]
 |set S n=>let(g,i,j,t,e,c):=x;show#[g,i,j,t,k _ _ (.inl W) e,c]
 |ins C Q fs=>let(d,z,ne,e,A,(m,i,j,I,c),r):=x;show#[G _ d,z,ne,k _ _ (.inl W) e,A,#[m,i,j,k _ _ (.inr d) I,c],r]
 |own y=>let(g,e):=x;show#[g,k _ _ (.inl W) e]
 |xd fs=>let(A,(m,i,j,e,c),r):=x;show#[A,#[m,i,j,k _ _ (.inl W) e,c],r]
 |rng lo O=>let(t,u,v,e):=x;show#[t,u,v,k _ _ (.inl W) e]
 |frz g u E=>let(e,q):=x;show#[k _ _ (.inl W) e,E q]
 |tbl J=>let e:h.get? a=R {cls:=.none,data:=.fields J}:=x;show h'.get? a=R {cls:=.none,data:=.fields J};show k a _ (.inl W) e
 |met f y=>let e:h.get? a=R (abo (.ref f) (.ref y)):=x;show h'.get? a=R (abo (.ref f) (.ref y));show k a _ (.inl W) e
 |ext K=>let(p,(o,e),l):=x;show#[l _ _ p λo q=>k _ _ (.inl W) q,#[o,k _ _ (.inl W) e],l]
 |exw K=>let(p,(o,e),l):=x;show#[l _ _ p λo q=>k _ _ (.inl W) q,#[o,k _ _ (.inl W) e],l]
theorem HOk.lt(x:HOk P w H h)(e:H a=R o):a<h.objs.size:=(x a o e).lt
def HOk.fresh(x:HOk P w H h)(e:h.objs.size<=a):H a=U:=by
 cases q:H a with
 |none=>rfl
 |some u=>show a5 (V7 (x.lt q) e) (WZ _)
theorem HOk.kept(x:HOk P w H h)(k:∀b u,h.get? b=R u->h'.get? b=R u):HOk P w H h':=λa o e=>
 (x a o e).ZP (λb u _ q=>k b u q) (λ_ q=>q) λ_ _ q=>q
theorem HOk.laid(x:HOk P w H h)(k:∀b u,h.get? b=R u->h'.get? b=R u)(g:h.objs.size<=a)(new:ObjOk P w (bL H a o) h' a o):HOk P w (bL H a o) h':=λb u e=>by
 let i:=x.fresh g;by_cases f:b=a
 .subst f;rw[aX]at e;ext e;show new
 .rw[aF f]at e;show(x b u e).ZP (λc v _ q=>k c v q) (λc q=>by rw[aF (cB q i)];show q) λc xs q=>by rw[aF (cB q i)];show q
end
def Rd(H:Hp)(a:M)(u:HO):Prop:=H a=R u\/∃o,H a=R (.frz o u)
def Rd.ok(r:Rd H a u)(x:HOk b w H h):ObjOk b w H h a u:=by
 rcases r with r|⟨o,r⟩
 .show x a u r
 .let(_,q):=x a _ r;show q
def SG:I HO->Prop
 |some (.lst _)=>True
 |some (.dK _)=>True
 |some (.dT _)=>True
 |some (.set _ _)=>True
 |some (.ins _ _ _)=>True
 |some (.ext _)=>True
 |some (.exw _)=>True
 |_=>False
section
variable{P:V8}{w:Wv}{H:Hp}{h h':Heap}{x e:VF}{Z:HO}
theorem HOk.write(ok:HOk P w H h)(g:SG (H x))(o:e=x\/H e=R (.own x))(k:∀b u,b≠e->h.get? b=R u->h'.get? b=R u)(l:∃u,h'.get? e=R u)
  (new:ObjOk P w (bL H x Z) h' x Z):HOk P w (bL H x Z) h':=λb u q=>by
 let f:∀c y,H c=R (.own y)->c≠x:=λc y r z=>by subst z;rw[r]at g;show g
 let m:∀c xs,H c=R (.tup xs)->c≠x:=λc xs r z=>by subst z;rw[r]at g;show g
 by_cases j:b=x
 .subst j;rw[aX]at q;ext q;show new
 .rw[aF j]at q
  by_cases a:b=e
  .let n:H b=R (.own x):=by
    rcases o with z|z
    .show a5 (a.trans z) j
    .rw[a];show z
   rw[q]at n;ext n;let(v,p):=l;show#[v,by rw[a];show p]
  .show(ok b u q).ZP (λc v i r=>k c v ?_ r) (λc r=>by rw[aF (f c b r)];show r) λc xs r=>by rw[aF (m c xs r)];show r
   rcases i with rfl|i
   .show a
   .rintro rfl
    rcases o with z|z
    .show f c b i z
    .rw[i]at z;ext z;show j W
end
structure Un(fs ex:G M)(H H':Hp)(h h':Heap):Prop where
 keep:∀b o,h.get? b=R o->H b=U->b∉fs->b∉ex->h'.get? b=R o
 slot:∀b o,h.get? b=R o->H b=U->b∈fs->b∉ex->∃sl,h'.get? b=R {o with slots:=sl}
 free:∀b o,h.get? b=R o->H b=U->b∉ex->H' b=U
 there:∀b o,h.get? b=R o->b∉ex->∃o',h'.get? b=R o'
 ab7:∀b xs,H b=R (.tup xs)->H' b=R (.tup xs)
 abO:∀b o u,H b=R (.frz o u)->H' b=R (.frz o u)
 ab6:∀b ps,H b=R (.tbl ps)->∃more,H' b=R (.tbl (ps++more))
section
variable{fs X Z T:bb VF}{H S Q:Hp}{h Y O h':Heap}{a x e:VF}{o:HO}
def Un.any(u:Un fs Z H S h Y)(q:h.get? b=R ob)(n:H b=U)(f:b∉Z):∃c,Y.get? b=R {ob with slots:=c}:=by
 by_cases g:b∈fs
 .show u.slot b ob q n g f
 .show#[ob.slots,u.keep b ob q n g f]
theorem Un.kept(k:∀b u,h.get? b=R u->h'.get? b=R u):Un fs Z H H h h':=
 #[λb f q _ _ _=>k b f q,λb f q _ _ _=>#[f.slots,k b f q],λ_ _ _ n _=>n,λb f q _=>#[f,k b f q],λ_ _ q=>q,λ_ _ _ q=>q,λ_ g q=>#[#v[],by rw[q];simp]]
theorem Un.refl:Un fs Z H H h h:=Un.kept λ_ _ q=>q
theorem Un.laid(k:∀b u,h.get? b=R u->h'.get? b=R u)(f:h.objs.size<=a)(c:H a=U):Un fs Z H (bL H a o) h h' where
 keep:=λb u q _ _ _=>k b u q
 slot:=λb u q _ _ _=>#[u.slots,k b u q]
 free:=λb u q n _=>by rw[aF (Wc (V7 (bP q) f))];show n
 there:=λb u q _=>#[u,k b u q]
 ab7:=λb xs q=>by rw[aF (cB q c)];show q
 abO:=λb u xs q=>by rw[aF (cB q c)];show q
 ab6:=λb g q=>#[#v[],by rw[aF (cB q c),q];simp]
def Un.write(g:SG (H x))(p:e=x\/H e=R (.own x))(k:∀b u,b≠e->h.get? b=R u->h'.get? b=R u)(i:∃u,h'.get? e=R u):Un fs Z H (bL H x o) h h':=by
 let j:∀b,H b=U->b≠x:=λb n z=>by subst z;rw[n]at g;show g
 let l:∀b,H b=U->b≠e:=λb n z=>by
  subst z;rcases p with r|r
  .show j b n r
  .rw[n]at r;ext r
 let hm:∀b u,H b=R u->¬SG (R u)->b≠x:=λb u q m z=>by subst z;rw[q]at g;show m g
 show#[λb u q n _ _=>k b u (l b n) q,λb u q n _ _=>#[u.slots,k b u (l b n) q],λb u q n _=>by rw[aF (j b n)];show n,λb u q _=>?_,
  λb xs q=>by rw[aF (hm b _ q λz=>z)];show q,λb u xs q=>by rw[aF (hm b _ q λz=>z)];show q,λb t q=>#[#v[],by rw[aF (hm b _ q λz=>z),q];simp]]
 by_cases f:b=e
 .subst f;show i
 .show#[u,k b u f q]
end
def Uj(h:Heap)(H:Hp):G M:=(VI h.objs.size).filter λa=>(H a).isSome
def yh(h:Heap)(H:Hp):Heap:=PySem.W.hideAll h (Uj h H)
theorem FC(h:Heap)(H:Hp):(yh h H).objs.size=h.objs.size:=PySem.W.hideAll_size _ _
theorem HU(e:h.get? b=R o)(n:H b=U):(yh h H).get? b=R o:=
 PySem.W.hideAll_get _ e λhm=>by let q:=(Yj.mp hm).2;rw[n]at q;simp at q
def LQ(e:(yh h H).get? b=R o):h.get? b=R o/\H b=U:=by
 let a:=PySem.W.of_hideAll (Uj h H) e;show#[a,?_];cases q:H b with
 |none=>rfl
 |some x=>let hm:b∈Uj h H:=Yj.mpr #[WI.mpr (bP a),by simp[q]];let z:(yh h H).get? b=U:=PySem.W.hideAll_none (Uj h H) hm;rw[z]at e;ext e
structure Mod(K:Vs)(mg:Str->I B)(base:Heap):Prop where
 kin:K.In base
 glob:base.Ns V3 mg
 blt:∃mb,base.Ns builtinsNs mb/\∀x:Str,x≠ "__name__"->mb x=Xb x
 nolimit:base.NoLimit
structure Cx where
 prog:V8
 w:Wv
 K:Vs
 mg:Str->I B
 base:Heap
 A:Wl
 N:G Str
 s₀:VG
 H₀:Hp
 env:Env
 outer:G Env
 stack:G Env
 ex:G M
 fn:Str->Bool
 calm:Bool
 pn:G (M×Obj)
 xe:B->VG->Prop
def zb(l:G Env):G M:=l.filterMap (·.frame)
abbrev Cx.fs(X:Cx):G M:=zb X.outer
def T3(sc:YH)(x:Str):Prop:=sc.names.lookup x=R .local\/sc.names.lookup x=R .cell\/sc.names.lookup x=R .free
def Tm(sc:YH)(x:Str):Prop:=sc.names.lookup x=R .local\/sc.names.lookup x=R .cell
def UH(env:Env)(h:Heap)(m:Str->I B)(x:Str)(u:B):Prop:=
 (env.kindOf x=R .local/\m x=R u)\/((env.kindOf x=R .cell\/env.kindOf x=R .free)/\∃c,env.cells.lookup x=R c/\h.IsCell c (R u))
structure Cx.Ok(X:Cx):Prop where
 mod:Mod X.K X.mg X.base
 kind:X.env.scope.kind=.function
 glob:X.env.globals=V3
 blt:X.env.builtins=builtinsNs
 above:X.s₀.heap.objs.size<=X.env.locals
 inj:∀x y c,X.env.cells.lookup x=R c->X.env.cells.lookup y=R c->x=y
 has:∀x,(X.env.kindOf x=R .cell\/X.env.kindOf x=R .free)->∃c,X.env.cells.lookup x=R c
 cab:∀x c,X.fn x=P->X.env.cells.lookup x=R c->X.s₀.heap.objs.size<=c
 hd:X.calm=P->X.A.handled=U
 frames:X.A.frames=R X.stack
 stk:X.stack=X.outer\/(X.stack=X.env::X.outer/\X.env.frame=R X.env.locals)
 exf:∀b∈X.ex,b≠X.env.locals/\∀x c,X.env.cells.lookup x=R c->c≠b
 bs:∀b o,X.base.get? b=R o->X.s₀.heap.get? b=R o/\X.H₀ b=U
 bsz:X.base.objs.size<=X.s₀.heap.objs.size
 adn:∀b o,X.base.get? b=R o->b∉X.ex
 ado:∀b∈X.ex,b∉X.fs
 abf:X.s₀.heap.FunFrames X.base X.outer
 frf:∀b∈X.fs,X.H₀ b=U
structure Inv(X:Cx)(pins:G (M×Obj))(σ:G (I V))(H:Hp)(s:VG):Prop where
 ok:X.Ok
 os:s.os=X.s₀.os
 bare:AllBare s.gens
 base:Un X.fs X.ex X.H₀ H X.s₀.heap s.heap
 loc:∃m,s.heap.Ns X.env.locals m/\∀(i:Nat) (x:Str) (v:V),X.N[i]?=R x->σ[i]?=R (R v)->T3 X.env.scope x->∃u,RelV v u/\UH X.env s.heap m x u
 cell:∀x c,X.env.cells.lookup x=R c->∃v,s.heap.IsCell c v
 free:H X.env.locals=U
 Zh:∀x c,X.env.cells.lookup x=R c->H c=U
 pin:∀p∈X.pn++pins,s.heap.get? p.1=R p.2/\H p.1=U/\p.1≠X.env.locals/\p.1∉X.fs/\∀v,p.2.data≠.cell v
 W6:HOk X.prog X.w H s.heap
 len:σ.length=X.N.length
section
variable{X:Cx}{Z:bb (VF×Obj)}{Y:bb (bg V)}{H H':Hp}{s:VG}{h':Heap}
theorem Cx.Ok.akP(ok:X.Ok)(e:X.base.get? b=R o):b∉X.fs:=λa=>by let:=(ok.abf.mem a).1;rw[e]at this;ext this
theorem Inv.bs(I:Inv X Z Y H s):∀b o,X.base.get? b=R o->s.heap.get? b=R o/\H b=U:=λb o e=>
 #[I.base.keep b o (I.ok.bs b o e).1 (I.ok.bs b o e).2 (I.ok.akP e) (I.ok.adn b o e),I.base.free b o (I.ok.bs b o e).1 (I.ok.bs b o e).2 (I.ok.adn b o e)]
theorem Inv.bk(I:Inv X Z Y H s):∀b o,X.base.get? b=R o->s.heap.get? b=R o:=λb o e=>(I.bs b o e).1
theorem Inv.mod(I:Inv X Z Y H s):Mod X.K X.mg X.base:=I.ok.mod
theorem Inv.kIn(I:Inv X Z Y H s):X.K.In s.heap:=I.ok.mod.kin.keeps I.bk
theorem Inv.lt(I:Inv X Z Y H s):X.env.locals<s.heap.objs.size:=let#[_,a,_]:=I.loc;a.lt
theorem Inv.sz(I:Inv X Z Y H s):X.s₀.heap.objs.size<=s.heap.objs.size:=Wt I.ok.above (ZE I.lt)
theorem Inv.al3(I:Inv X Z Y H s)(h:s.heap.objs.size<=a):a∉X.fs:=λe=>by let(_,o,b,_):=I.ok.abf.mem e;show a5 (V7 (bP b) (Wt I.sz h)) (WZ _)
theorem Inv.cne(I:Inv X Z Y H s):∀x c,X.env.cells.lookup x=R c->c≠X.env.locals:=λx c e z=>by let(v,o,f,g):=I.cell x c e;let(m,(h,i,j,a,b,_),_):=I.loc;rw[z,a]at f;ext f;rw[b]at g;ext g
def Inv.abf(I:Inv X Z Y H s):s.heap.FunFrames X.base X.outer:=by
 let all:∀(l:G Env),(∀b∈zb l,b∈X.fs)->X.s₀.heap.FunFrames X.base l->s.heap.FunFrames X.base l:=by
  intro l
  induction l with
  |nil=>intro _ _;trivial
  |cons t r i=>intro h n;let(p,(L,o,a,v,m,q),j):=n;let g:=h L (by ext zb;rw[YF,a];show VV);let(u,e):=I.base.slot L o m (I.ok.frf L g) g λz=>I.ok.ado L z g;show#[p,#[L,_,a,v,e,q],i (λb f=>h b (by ext zb;rw[YF,a];show VX _ f)) j]
 show all X.outer (λ_ f=>f) I.ok.abf
def Inv.stack(I:Inv X Z Y H s):s.heap.FunFrames X.base X.stack:=by
 rcases I.ok.stk with e|⟨e,hf⟩
 .rw[e];show I.abf
 .rw[e];let(m,a,_):=I.loc;show .cons (by rw[I.ok.kind];decide) hf a ?_ I.abf;show cN (Wt I.ok.bsz I.ok.above)
theorem Inv.abc(I:Inv X Z Y H s):∀b∈zb X.stack,b∈X.env.locals::X.fs:=λb a=>by
 rcases I.ok.stk with e|⟨e,hf⟩
 .rw[e]at a;show VX _ a
 .rw[e]at a;unfold zb at a;rw[YF,hf]at a;show a
theorem Inv.abz(I:Inv X Z Y H s):∀b∈zb X.stack,H b=U:=λb a=>by
 rcases Wa.mp (I.abc b a)with e|a
 .rw[e];show I.free
 .let(_,o,f,_):=I.ok.abf.mem a;show I.base.free b o f (I.ok.frf b a) λz=>I.ok.ado b z a
def Inv.step{g':Array aaT}{t':Nat}{d':aeI}{ch:bb VF}(I:Inv X Z Y H s)
  (g:∀b∈ch,(b∈X.ex\/X.s₀.heap.objs.size<=b)/\b≠X.env.locals/\(∀x c,X.env.cells.lookup x=lD c->c≠b)/\∀p∈X.pn++Z,p.1≠b)
  (keep:∀b o,b≠X.env.locals->b∉X.fs->b∉ch->s.heap.get? b=lD o->H b=Vt->h'.get? b=lD o)
  (y:∀b o,b≠X.env.locals->b∈X.fs->b∉ch->s.heap.get? b=lD o->H b=Vt->∃sl,h'.get? b=lD {o with slots:=sl}) (free:∀b o,b∉ch->s.heap.get? b=lD o->H b=Vt->H' b=Vt)
  (A:∀b o,b∉ch->s.heap.get? b=lD o->∃w,h'.get? b=lD w)
  (L:∀b xs,H b=lD (.tup xs)->H' b=lD (.tup xs)) (K:∀b o u,H b=lD (.frz o u)->H' b=lD (.frz o u)) (M:∀b D,H b=lD (.tbl D)->∃more,H' b=lD (.tbl (D++more)))
  (ns:∀m,s.heap.Ns X.env.locals m->h'.Ns X.env.locals m) (W6:HOk X.prog X.w H' h') (T:AllBare g'):
  Inv X Z Y H' {s with heap:=h',gens:=g',drawn:=d',toks:=t'}:=by
 let E:∀b o,X.s₀.heap.get? b=lD o->b≠X.env.locals:=λb o e=>Wc (V7 (bP e) I.ok.above);let j:∀b o,X.s₀.heap.get? b=lD o->b∉X.ex->b∉ch:=λb o e a B=>by
  rcases(g b B).1 with z|z
  .show a z
  .show a5 (V7 (bP e) z) (WZ _)
 let h:∀x c,X.env.cells.lookup x=lD c->∀v,s.heap.IsCell c v->h'.IsCell c v:=λx c e v #[o,C,J]=>by
  let f:c∉ch:=λz=>(g c z).2.2.1 x c e W;by_cases P:c∈X.fs
  .let(sl,q):=y c o (I.cne x c e) P f C (I.Zh x c e);show#[_,q,J]
  .show#[o,keep c o (I.cne x c e) P f C (I.Zh x c e),J]
 show#[I.ok,I.os,T,#[λb o e n B a=>?_,λb o e n B a=>?_,λb o e n a=>?_,λb o e a=>?_,λb xs e=>L b xs (I.base.ab7 b xs e),λb o xs e=>K b o xs (I.base.abO b o xs e),λb D e=>?_],?_,λx c e=>?_,?_,λx c e=>?_,λp O=>?_,W6,I.len]
 .show keep b o (E b o e) B (j b o e a) (I.base.keep b o e n B a) (I.base.free b o e n a)
 .let(sl,t):=I.base.slot b o e n B a;let(G,F):=y b _ (E b o e) B (j b o e a) t (I.base.free b o e n a);show#[G,F]
 .let(w,t):=I.base.there b o e a;show free b w (j b o e a) t (I.base.free b o e n a)
 .let(w,t):=I.base.there b o e a;show A b w (j b o e a) t
 .let(R,t):=I.base.ab6 b D e;let(Q,F):=M b _ t;show#[R++Q,by rw[F,Array.append_assoc]]
 .let(m,hn,S):=I.loc
  show#[m,ns m hn,λi x v t F U=>?_];let(u,r,l):=S i x v t F U;show#[u,r,?_];rcases l with l|⟨k,c,e,z⟩
  .show .inl l
  .show .inr #[k,c,e,h x c e _ z]
 .let(v,z):=I.cell x c e;show#[v,h x c e v z]
 .let(m,(o,_,_,C,_),_):=I.loc;show free _ o (λz=>(g _ z).2.1 W) C I.free
 .let(v,o,C,J):=I.cell x c e;show free c o (λz=>(g c z).2.2.1 x c e W) C (I.Zh x c e)
 .let(e,n,ne,N,d):=I.pin p O;let f:p.1∉ch:=λz=>(g p.1 z).2.2.2 p O W;show#[keep p.1 p.2 ne N f e n,free p.1 p.2 f e n,ne,N,d]
def Inv.un{t':Nat}(I:Inv X Z Y H s)(u:Un X.fs [] H H' s.heap h')(W6:HOk X.prog X.w H' h'):Inv X Z Y H' {s with heap:=h',toks:=t'}:=by let(m,(o,v,y,i,r),_):=id I.loc;let(p,l):=u.any i I.free (by simp);show I.step (g':=s.gens) (d':=s.drawn) (ch:=[]) (λ_ z=>nomatch z) (λb o _ f _ e n=>u.keep b o e n f (by simp)) (λb o _ f _ e n=>u.slot b o e n f (by simp)) (λb o _ e n=>u.free b o e n (by simp)) (λb o _ e=>u.there b o e (by simp)) u.ab7 u.abO u.ab6 (λt hm=>by let(q,g,h,a,j):=hm;rw[i]at a;ext a;show#[_,g,h,l,j]) W6 I.bare
def Inv.call{g':Array aaT}{t':Nat}{d':aeI}{ch:G M}(I:Inv X Z Y H s)(u:Un (zb X.stack) ch H H' s.heap h')(W6:HOk X.prog X.w H' h')(t:AllBare g')
  (g:∀b∈ch,(b∈X.ex\/X.s₀.heap.objs.size<=b)/\b≠X.env.locals/\(∀x c,X.env.cells.lookup x=R c->c≠b)/\∀p∈X.pn++Z,p.1≠b):
  Inv X Z Y H' {s with heap:=h',gens:=g',drawn:=d',toks:=t'}:=by
 let(m,(o,C,E,l,r),_):=id I.loc;let(y,h):=u.any l I.free λz=>(g _ z).2.1 W;show I.step (ch:=ch) g (λb o h v a e n=>u.keep b o e n (λz=>(Wa.mp (I.abc b z)).elim h v) a) (λb o _ _ a e n=>u.any e n a) (λb o a e n=>u.free b o e n a) (λb o a e=>u.there b o e a) u.ab7 u.abO u.ab6 (λB hm=>by let(A,i,j,f,q):=hm;rw[l]at f;ext f;show#[_,i,j,h,q]) W6 t
def Inv.turned{t':Nat}{it:M}(I:Inv X Z Y H s)(k:∀b o,b≠it->s.heap.get? b=R o->h'.get? b=R o)(d:H it=U)(g:it≠X.env.locals)
  (t:it∈X.ex\/X.s₀.heap.objs.size<=it) (l:∀x c,X.env.cells.lookup x=R c->c≠it) (j:∀p∈X.pn++Z,p.1≠it):Inv X Z Y H {s with heap:=h',toks:=t'}:=by
 let f:∀b u,H b=R u->b≠it:=λb u e z=>by rw[z,d]at e;ext e
 show I.step (g':=s.gens) (d':=s.drawn) (ch:=[it]) (λb i=>?_) (λb o _ _ a e _=>k b o (λz=>a (by simp[z])) e) (λb o _ _ a e _=>#[o.slots,k b o (λz=>a (by simp[z])) e]) (λ_ _ _ _ n=>n)
  (λb o a e=>#[o,k b o (λz=>a (by simp[z])) e]) (λ_ _ e=>e) (λ_ _ _ e=>e) (λb A e=>#[#v[],by rw[e];simp]) (λm hm=>?_) (λb u e=>?_) I.bare
 .let e:b=it:=by simpa using i
  subst e;show#[t,g,l,j]
 .let(o,w,y,h,r):=hm;show#[o,w,y,k _ o (dr g) h,r]
 .show(I.W6 b u e).ZP (λc v a q=>k c v ?_ q) (λ_ q=>q) λ_ _ q=>q
  rcases a with z|z
  .rw[z];show f b u e
  .show f c _ z
theorem Inv.tok(I:Inv X Z Y H s)(t:Nat):Inv X Z Y H {s with toks:=t}:=I.un Un.refl I.W6
theorem Inv.kept{t':Nat}(I:Inv X Z Y H s)(k:∀b u,s.heap.get? b=R u->h'.get? b=R u):Inv X Z Y H {s with heap:=h',toks:=t'}:=I.un (Un.kept k) (I.W6.kept k)
theorem Inv.laid{a:M}{o:HO}{t':Nat}(I:Inv X Z Y H s)(k:∀b u,s.heap.get? b=R u->h'.get? b=R u)(e:s.heap.objs.size<=a)(new:ObjOk X.prog X.w (bL H a o) h' a o):
  Inv X Z Y (bL H a o) {s with heap:=h',toks:=t'}:=I.un (Un.laid k e (I.W6.fresh e)) (I.W6.laid k e new)
theorem Inv.write{x e:M}{o:HO}{t':Nat}(I:Inv X Z Y H s)(f:SG (H x))(g:e=x\/H e=R (.own x))(k:∀b u,b≠e->s.heap.get? b=R u->h'.get? b=R u)(a:∃u,h'.get? e=R u)
  (new:ObjOk X.prog X.w (bL H x o) h' x o):Inv X Z Y (bL H x o) {s with heap:=h',toks:=t'}:=I.un (Un.write f g k a) (I.W6.write f g k a new)
theorem Inv.acV(I:Inv X Z Y H s)(h:∀p∈ai7,s.heap.get? p.1=R p.2/\H p.1=U/\p.1≠X.env.locals/\p.1∉X.fs/\∀v,p.2.data≠.cell v):Inv X ai7 Y H s:=
 #[I.ok,I.os,I.bare,I.base,I.loc,I.cell,I.free,I.Zh,λp a=>(Wr.mp a).elim (λz=>I.pin p (XB _ z)) (h p),I.W6,I.len]
def zK{N:G Str}(e:N.Nodup){i j:Nat}(a:N[i]?=R x)(b:N[j]?=R x):i=j:=by let(l,g):=Vv.mp a;let(h,f):=Vv.mp b;show(List.getElem_inj e).mp (g.trans f.symm)
def wW{M:aeJ}{A:Wl}{E:B->VG->Prop}{i:Nat}{x:Str}{v:V}{u:B}{Q:Unit->VG->Prop}(I:Inv X Z Y H s)(hN:X.N.Nodup)(D:X.N[i]?=R x)(t:Tm X.env.scope x)(r:RelV v u)
  (h:∀F,Inv X Z (Y.set i (R v)) H F->(∃a,Heap.SameBut a s.heap F.heap/\(a=X.env.locals\/X.env.cells.lookup x=R a))->Q ⟨⟩ F) (hf:X.fn x=P\/X.env.scope.names.lookup x=R .local:=by first|show .inl W|show .inr W|assumption):wpAny M A (storeName X.env x u) Q E s:=by
 let(m,hn,hl):=id I.loc;let aml:(X.env.scope.kind==.class||(X.env.scope.kind==.module&&X.env.locals !=X.env.globals))=VO:=by rw[I.ok.kind];rfl
 let J:i<Y.length:=by rw[I.len];show(Vv.mp D).1
 let cne:=I.cne;let tracked:∀{a:VF} {h':Heap},(∃o,s.heap.get? a=R o/\H a=U)->Heap.SameBut a s.heap h'->HOk X.prog X.w H h':=λ{a h'} ha f b ob e=>by
  let(_,_,S):=ha;show(I.W6 b ob e).ZP (λc T l q=>(f.2 c ?_).trans q) (λ_ q=>q) λ_ _ q=>q;rintro rfl;rcases l with rfl|l
  .rw[S]at e;ext e
  .rw[S]at l;ext l
 rcases t with C|C
 .show wpAny_storeName_local C hn (λh' hn' f=>?_) aml
  let(oL,_,_,hoL,_):=id hn;show h _ #[I.ok,I.os,I.bare,#[λb o e n L t=>?_,λb o e n L t=>?_,I.base.free,λb o e t=>?_,I.base.ab7,I.base.abO,I.base.ab6],#[_,hn',λj y v' g w e3=>?_],λy c e=>?_,I.free,I.Zh,λp hp=>?_,tracked #[oL,hoL,I.free] f,by simpa using I.len] #[_,f,.inl W]
  .show(f.2 b (Wc (V7 (bP e) I.ok.above))).trans (I.base.keep b o e n L t)
  .let(sl,g):=I.base.slot b o e n L t;show#[sl,(f.2 b (Wc (V7 (bP e) I.ok.above))).trans g]
  .let(o',g):=I.base.there b o e t;show#[o',(f.2 b (Wc (V7 (bP e) I.ok.above))).trans g]
  .by_cases hj:j=i
   .subst hj;rw[D]at g;ext g;rw[WE J]at w;ext w;show#[u,r,.inl #[C,by simp]]
   .rw[WB (dr hj)]at w
    let(u',r',q):=hl j y v' g w e3;show#[u',r',?_];rcases q with⟨k,e⟩|⟨k,c,e,z⟩
    .show .inl #[k,?_];let:y≠x:=λe=>hj (zK hN g (e▸D));simp[this,e]
    .show .inr #[k,c,e,z.sameBut f (cne y c e)]
  .let(T,z):=I.cell y c e;show#[T,z.sameBut f (cne y c e)]
  .let(e,n,ne,nf,d):=I.pin p hp;show#[(f.2 p.1 ne).trans e,n,ne,nf,d]
 .let K:X.fn x=P:=by
   rcases hf with z|z
   .show z
   .rw[z]at C;ext C
  let(c,l):=I.ok.has x (.inl C);let(T,z):=I.cell x c l;show wpAny_storeName_cell I.ok.kind C l z (λh' O f=>?_);let(oc,N,amk):=id z;show h {s with heap:=h'} #[I.ok,I.os,I.bare,#[λb o e n L t=>?_,λb o e n L t=>?_,I.base.free,λb o e t=>?_,I.base.ab7,I.base.abO,I.base.ab6],#[m,hn.sameBut f (dr (cne x c l)),λj y v' g w e3=>?_],λy c' e=>?_,I.free,I.Zh,λp hp=>?_,tracked #[oc,N,I.Zh x c l] f,by simpa using I.len] #[c,f,.inr l]
  .show(f.2 b (Wc (V7 (bP e) (I.ok.cab x c K l)))).trans (I.base.keep b o e n L t)
  .let(sl,g):=I.base.slot b o e n L t;show#[sl,(f.2 b (Wc (V7 (bP e) (I.ok.cab x c K l)))).trans g]
  .let(o',g):=I.base.there b o e t;show#[o',(f.2 b (Wc (V7 (bP e) (I.ok.cab x c K l)))).trans g]
  .by_cases hj:j=i
   .subst hj;rw[D]at g;ext g;rw[WE J]at w;ext w;show#[u,r,.inr #[.inl C,c,l,O]]
   .rw[WB (dr hj)]at w
    let(u',r',q):=hl j y v' g w e3;show#[u',r',?_];rcases q with q|⟨k,c',e,z'⟩
    .show .inl q
    .show .inr #[k,c',e,z'.sameBut f ?_];rintro rfl;show hj (zK hN g (I.ok.inj _ _ _ e l▸D))
  .by_cases hcc:c'=c
   .subst hcc;show#[_,O]
   .let(w2,z2):=I.cell y c' e;show#[w2,z2.sameBut f hcc]
  .let(e,n,ne,nf,d):=I.pin p hp;show#[(f.2 p.1 ?_).trans e,n,ne,nf,d];intro q;rw[q,N]at e;let q':oc=p.2:=VZ e;show d T (by rw[<-q'];show amk)
theorem tG{i:Nat}{v:V}{u:B}{Q:Unit->VG->Prop}(I:Inv X Z Y H s)(e:X.N.Nodup)(d:X.N[i]?=R x)(c:Tm X.env.scope x)(r:RelV v u)
  (h:∀b,Inv X Z (Y.set i (R v)) H b->Q ⟨⟩ b) (hf:X.fn x=P\/X.env.scope.names.lookup x=R .local:=by first|show .inl W|show .inr W|assumption):wpAny a A (storeName X.env x u) Q E s:=
 wW I e d c r (λb f _=>h b f) hf
def Inv.adt{a:VG}{ch:G M}(I:Inv X Z Y H s)(h:a.os=s.os)(u:Un (zb X.stack) ch H H' s.heap a.heap)(W6:HOk X.prog X.w H' a.heap)(i:AllBare a.gens)
  (f:∀b∈ch,(b∈X.ex\/X.s₀.heap.objs.size<=b)/\b≠X.env.locals/\(∀x c,X.env.cells.lookup x=R c->c≠b)/\∀p∈X.pn++Z,p.1≠b):Inv X Z Y H' a:=by
 let(h',l,m,j,g):=a;let e:g=s.os:=h;subst e;show I.call (g':=l) (t':=j) (d':=m) u W6 i f
end
abbrev XK:=B->I M->Hp->Prop
abbrev St:=G (I V)
abbrev VK:=V->Hp->Prop
abbrev TE:=St->Hp->VK->Prop
abbrev TT:=St->Hp->(Bool->Hp->Prop)->Prop
abbrev TA:=St->Hp->(G V->Hp->Prop)->Prop
structure Ends where
 nx:St->Hp->Prop
 rt:VK
 bk:St->Hp->Prop:=λ_ _=>False
 ct:St->Hp->Prop:=λ_ _=>False
abbrev TS:=Ends->St->Hp->Prop
def EP(X:Cx)(a:G (M×Obj))(b:St)(Q:VK)(u:B)(e:VG):Prop:=∃v f,Inv X a b f e/\RelV v u/\Q v f
def TP(X:Cx)(a:G (M×Obj))(e:St)(Q:Bool->Hp->Prop)(b:Bool)(f:VG):Prop:=∃g,Inv X a e g f/\Q b g
def AP(X:Cx)(a:G (M×Obj))(b:St)(Q:G V->Hp->Prop)(us:G B)(e:VG):Prop:=∃f g,Inv X a b g e/\Vals f us/\Q f g
def SP(X:Cx)(a:G (M×Obj))(D:Ends)(f:Flow)(b:VG):Prop:=
 match f with
 |.next=>∃e g,Inv X a e g b/\D.nx e g
 |.brk=>∃e g,Inv X a e g b/\D.bk e g
 |.cont=>∃e g,Inv X a e g b/\D.ct e g
 |.ret u=>∃v e g,Inv X a e g b/\RelV v u/\D.rt v g
def PE(X:Cx)(e:WQ)(t:TE):Prop:=
 ∀(a:G (M×Obj)) (s:VG) (b:St) (H:Hp) (Q:VK),Inv X a b H s->t b H Q->wpAny (model X.prog X.w) X.A (eval e X.env) (EP X a b Q) X.xe s
def PT(X:Cx)(e:WQ)(t:TT):Prop:=
 ∀(a:G (M×Obj)) (s:VG) (b:St) (H:Hp) (Q:Bool->Hp->Prop),Inv X a b H s->t b H Q->wpAny (model X.prog X.w) X.A (isTrue e X.env (eval e X.env)) (TP X a b Q) X.xe s
def PW(X:Cx)(e:WQ)(t:TT):Prop:=
 ∀(b:Sem B) (a:G (M×Obj)) (s:VG) (f:St) (H:Hp) (Q:Bool->Hp->Prop),Inv X a f H s->t f H Q->wpAny (model X.prog X.w) X.A (isTrue e X.env b) (TP X a f Q) X.xe s
theorem PW.pt(h:PW X e t):PT X e t:=h _
def PA(X:Cx)(c:G WQ)(t:TA):Prop:=
 ∀(e:Pos) (a:G (M×Obj)) (s:VG) (b:St) (H:Hp) (Q:G V->Hp->Prop),Inv X a b H s->t b H Q->wpAny (model X.prog X.w) X.A (spliced (backTo e (We c X.env))) (AP X a b Q) X.xe s
def PS(X:Cx)(e:X2)(t:TS):Prop:=
 ∀(a:G (M×Obj)) (s:VG) (b:St) (H:Hp) (D:Ends),Inv X a b H s->t D b H->wpAny (model X.prog X.w) X.A (exec e X.env) (SP X a D) X.xe s
def PSs(X:Cx)(e:G X2)(t:TS):Prop:=
 ∀(a:G (M×Obj)) (s:VG) (b:St) (H:Hp) (D:Ends),Inv X a b H s->t D b H->wpAny (model X.prog X.w) X.A (execs e X.env) (SP X a D) X.xe s
theorem cR{α:Type}{t:Sem α}{Q b:α->VG->Prop}{M:aeJ}{A:Wl}{E:B->VG->Prop}{s:VG}(h:wpAny M A t Q E s)(e:∀a s,Q a s->b a s):wpAny M A t b E s:=wpAny_mono h e λ_ _ x=>x
section
variable{X:Cx}
def vJ(i:Nat):TE:=λa H Q=>∃v,a[i]?=R (R v)/\Q v H
def tC(v:V):TE:=λ_ H Q=>Q v H
def Rg(t:X.N[i]?=R x)(p:T3 X.env.scope x)(hd:(x==("__debug__":Str))=VO:=by decide)(j:(x==("__classdict__":Str))=VO:=by decide):PE X (.Name x pos) (vJ i):=by
 intro f s o H Q I h;let(v,e,h):=h;let(m,w,q):=I.loc;let(u,r,l):=q i x v t e p;let b:EP X f o Q u s:=#[v,H,I,r,h];rcases l with⟨a,hm⟩|⟨a,c,n,g⟩
 .show agH (afQ I.ok.kind a w hm b) hd
 .rcases a with a|a
  .show agH (agk I.ok.kind a n g b) hd
  .show agH (wpAny_loadName_free I.ok.kind a n g b j) hd
theorem a8{i j pos}:PE X (.Constant (.int i) j pos) (tC (.int i)):=λ_ _ _ H _ I h=>agI #[.int i,H,I.tok _,#[_,W],h]
theorem OV{b j pos}:PE X (.Constant (.bool b) j pos) (tC (.bl b)):=λ_ _ _ H _ I h=>Constant_bool #[.bl b,H,I,W,h]
theorem mB{j pos}:PE X (.Constant .none j pos) (tC .XX):=λ_ _ _ H _ I h=>Constant_none #[.XX,H,I,W,h]
theorem k8{x j pos}:PE X (.Constant (.str x) j pos) (tC (.str x)):=λ_ _ _ H _ I h=>Calls.Constant_str #[.str x,H,I.tok _,#[_,W],h]
def Gl(X:Cx)(x:Str):Prop:=X.env.kindOf x=R .globalImplicit
theorem ng(I:Inv X pins σ H s)(a:Gl X x)(hm:X.mg x=R u)(h:Q u s)
  (hd:(x==("__debug__":Str))=VO:=by decide):wpAny (model X.prog X.w) X.A (eval (.Name x pos) X.env) Q E s:=
 Calls.Name_function_global I.ok.kind a (Calls.loadGlobal_global (by rw[I.ok.glob];show I.mod.glob.keeps I.bk) hm h) hd
def pz(I:Inv X pins σ H s)(b:Gl X x)(hm:X.mg x=U)(a:Xb x=R u)(h:Q u s)
  (c:x≠ "__name__":=by decide) (hd:(x==("__debug__":Str))=VO:=by decide):wpAny (model X.prog X.w) X.A (eval (.Name x pos) X.env) Q E s:=by
 let(g,f,e):=I.mod.blt;show Calls.Name_function_global I.ok.kind b (Calls.loadGlobal_builtin (by rw[I.ok.glob];show I.mod.glob.keeps I.bk) hm (by rw[I.ok.blt];show f.keeps I.bk) ((e x c).trans a) h) hd
theorem sO{x:Str}{v:V}{u:B}{a:Pos}(b:Gl X x)(hm:X.mg x=R u)(r:RelV v u)(hd:(x==("__debug__":Str))=VO:=by decide):PE X (.Name x a) (tC v):=
 λ_ _ _ H _ I h=>ng I b hm #[v,H,I,r,h] hd
variable{a b:WQ}{Y Z:TE}{O:Pos}
def PC(X:Cx)(i:CmpOp)(a b:WQ)(t:TE):Prop:=
 ∀(e:G (M×Obj)) (s:VG) (h:St) (H:Hp) (Q:VK),Inv X e h H s->t h H Q->
  wpAny (model X.prog X.w) X.A (eval a X.env) (λv g=>wpAny (model X.prog X.w) X.A (eval b X.env) (λu f=>wpAny (model X.prog X.w) X.A (XT i v u) (EP X e h Q) X.xe f) X.xe g) X.xe s
def tB(t:TE):TT:=λe H Q=>t e H λx f=>∃c,x=.bl c/\Q c f
def Jl(h:PC X op a b t)(f:behindInMarks op b=VO:=by first|show y _ () ()|rfl):PT X (.Compare a [op] [b] O) (tB t):=by intro e s g H Q I l;show afy (cR (h e s g H _ I l) λv w f=>cR f λu r m=>cR m λc p #[x,o,n,i,j]=>?_) f;let(d,rfl,q):=j;ext i;show Yy #[o,n,q]
def K6{e:WQ}{t:TE}(h:PE X e t)(m:∀whole,isTrue e X.env whole=(do let v<-whole;standAt e.pos;holding [v] (truthy v)):=by intro _;rfl):PT X e (tB t):=by intro f s g H Q I l;show isTrue_plain (cR (h f s g H _ I l) λv p #[x,o,n,i,j]=>?_) (m _);let(d,rfl,q):=j;ext i;show Yy #[o,n,q]
variable{T S:TT}{U:bb WQ}
def Sd(t u:TT):TT:=λe H Q=>t e H λc f=>if c=P then u e f Q else Q VO f
def Uu(t u:TT):TT:=λe H Q=>t e H λc f=>if c=P then Q P f else u e f Q
def Tc(t:TT):TT:=λe H Q=>t e H λc f=>Q (!c) f
def M9(d:PT X a T):PW X (.BoolOp .And [a] O) T:=by
 intro i f s g H Q I h;show isTrue_and (cR (d f s g H Q I h) λc j e=>?_);cases c with
 |true=>show isTrue_and_nil e
 |false=>show e
def BH(d:PT X a T):PW X (.BoolOp .Or [a] O) T:=by
 intro i f s g H Q I h;show isTrue_or (cR (d f s g H Q I h) λc j e=>?_);cases c with
 |false=>show isTrue_or_nil e
 |true=>show e
def Qw(d:PT X a T)(n:PW X (.BoolOp .And (b::U) O) S):PW X (.BoolOp .And (a::b::U) O) (Sd T S):=by
 intro l e s f H Q I h;show isTrue_and (cR (d e s f H _ I h) λc m #[j,i,g]=>?_);cases c with
 |true=>show n l e m f j Q i g
 |false=>show#[j,i,g]
def KI(d:PT X a T)(n:PW X (.BoolOp .Or (b::U) O) S):PW X (.BoolOp .Or (a::b::U) O) (Uu T S):=by
 intro l e s f H Q I h;show isTrue_or (cR (d e s f H _ I h) λc m #[j,i,g]=>?_);cases c with
 |true=>show#[j,i,g]
 |false=>show n l e m f j Q i g
def Rx(d:PT X a T):PT X (.UnaryOp .Not a O) (Tc T):=by intro e s f H Q I h;show isTrue_not (d e s f H (λc g=>Q (!c) g) I h)
def JD(Y Z:TE):TE:=λe H Q=>Y e H λx f=>∃c,x=.bl c/\if c=P then Z e f Q else Q (.bl VO) f
theorem Co{op}(h:PE X a t):PE X (.BoolOp op [a] O) t:=λe s f H Q I g=>BoolOp_one (h e s f H Q I g)
def CG(d:PE X a Y)(n:PE X (.BoolOp .And (b::U) O) Z):PE X (.BoolOp .And (a::b::U) O) (JD Y Z):=by
 intro e s g H Q I h;show BoolOp_and (cR (d e s g H _ I h) λv l #[x,j,i,m,f]=>?_);let(c,rfl,f):=f;ext m;show Yy ?_;cases c with
 |true=>show n e l g j Q i f
 |false=>show#[.bl VO,j,i,W,f]
def UO(t:TT)(Y Z:TE):TE:=λe H Q=>t e H λc f=>if c=P then Y e f Q else Z e f Q
def Hc(m:PT X c T)(k:PE X a Y)(n:PE X b Z):PE X (.IfExp c a b O) (UO T Y Z):=by
 intro e s f H Q I h;show wpAny_IfExp (cR (m e s f H _ I h) λd g #[l,j,i]=>?_);cases d with
 |true=>show k e g f l Q j i
 |false=>show n e g f l Q j i
end
def SqL(K:Vs)(H:Hp)(a:M)(xs:G V):Prop:=
 Rd H a (.lst xs)\/
  ∃(o:Obj) (b:Array B) (n:Nat),K.lookup a=R o/\o.cls=.type "list"/\o.dict=U/\o.data=.seq b n/\b.size<=VT/\Vals xs b.toList
def ZQ(K:Vs)(H:Hp)(a:M)(xs:G V):Prop:=
 Rd H a (.tup xs)\/
  ∃(o:Obj) (b:Array B) (n:Nat),K.lookup a=R o/\(o.cls=.type "tuple"/\o.dict=U)/\o.data=.seq b n/\b.size<=VT/\Vals xs b.toList
def UT:B->I V
 |.none=>R .XX
 |.bool b=>R (.bl b)
 |.int i _=>R (.int i)
 |.str x _=>R (.str x)
 |.bytes b _=>R (.byt b)
 |.float b _=>R (.flt b)
 |.ref a=>R (.ref a)
 |.type n=>R (.ty n)
 |_=>U
def RelV.abs(r:RelV x u):UT u=R x:=by
 cases x with
 |XX=>ext r;rfl
 |bl _=>ext r;rfl
 |int _=>let(t,rfl):=r;rfl
 |str _=>let(t,rfl):=r;rfl
 |byt _=>let(t,rfl):=r;rfl
 |flt _=>let(t,rfl):=r;rfl
 |ref _=>ext r;rfl
 |ty _=>ext r;rfl
theorem RelV.inj(r:RelV x u)(q:RelV y u):x=y:=VZ (r.abs.symm.trans q.abs)
theorem Vals.inj:∀{xs a:G V} {us:G B},Vals xs us->Vals a us->xs=a
 |_,_,_,.nil,.nil=>rfl
 |_,_,_,.cons r t,.cons e b=>by rw[r.inj e,Vals.inj t b]
section
variable{X:Cx}{Z:bb (VF×Obj)}{Y:St}{H:Hp}{s:VG}{a:VF}{T U:bb V}
theorem SqL.of{K:Vs}(h:H a=R (.lst T)):SqL K H a T:=.inl (.inl h)
theorem ZQ.of{K:Vs}(h:H a=R (.tup T)):ZQ K H a T:=.inl (.inl h)
def Inv.list(I:Inv X Z Y H s)(h:SqL X.K H a T):∃b:G B,Vals T b/\PlainL s.heap a b.toArray/\T.length<=VT:=by
 rcases h with h|⟨o,b,n,g,i,hd,f,j,r⟩
 .let(z,b,n,r,e):=h.ok I.W6;show#[b,r,#[_,n,e,W,W,W],z]
 .show#[b.toList,r,#[o,n,I.kIn a o g,i,hd,by simpa using f],?_];let e:=r.length;simp only[Ww]at e;ext
def Inv.tuple(I:Inv X Z Y H s)(h:ZQ X.K H a T):∃b:G B,Vals T b/\IsTup s.heap a b.toArray/\T.length<=VT:=by
 rcases h with h|⟨o,b,n,g,i,f,j,r⟩
 .let(z,b,r,p):=h.ok I.W6;show#[b,r,p.tup,z]
 .show#[b.toList,r,#[o,I.kIn a o g,i.1,n,by simpa using f],?_];let e:=r.length;simp only[Ww]at e;ext
def Inv.ag1(I:Inv X Z Y H s)(h:ZQ X.K H a T):∃b:G B,Vals T b/\abM s.heap a b.toArray/\T.length<=VT:=by
 rcases h with h|⟨o,b,n,i,f,g,j,r⟩
 .let(z,b,r,p):=h.ok I.W6;show#[b,r,p,z]
 .show#[b.toList,r,#[o,I.kIn a o i,#[f.1,n,by simpa using g],f.2],?_];let e:=r.length;simp only[Ww]at e;ext
def Inv.aff(I:Inv X Z Y H s)(h:SqL X.K H a T)(c:SqL X.K H a U):T=U:=by
 let(j,r,(o,n,e,_,_,d),_):=I.list h;let(b,i,(l,m,f,_,_,g),_):=I.list c;rw[e]at f;ext f;rw[d]at g;injection g with d1 _;let:j=b:=by simpa using dP agJ d1
 subst this;show r.inj i
def Inv.aeC(I:Inv X Z Y H s)(h:ZQ X.K H a T)(c:ZQ X.K H a U):T=U:=by
 let(j,r,(o,e,_,n,d),_):=I.tuple h;let(b,i,(l,f,_,m,g),_):=I.tuple c;rw[e]at f;ext f;rw[d]at g;injection g with d1 _;let:j=b:=by simpa using dP agJ d1
 subst this;show r.inj i
end
abbrev Cx.aaE(X:Cx)(E:B->VG->Prop):Cx:={X with xe:=E}
abbrev Cx.nox(X:Cx):Cx:=X.aaE λ_ _=>False
theorem Cx.Ok.aaE{X:Cx}(ok:X.Ok)(E:B->VG->Prop):(X.aaE E).Ok:=
 #[ok.mod,ok.kind,ok.glob,ok.blt,ok.above,ok.inj,ok.has,ok.cab,ok.hd,ok.frames,ok.stk,ok.exf,ok.bs,ok.bsz,ok.adn,ok.ado,ok.abf,ok.frf]
theorem Cx.Ok.Zn{X:Cx}(ok:(X.aaE E).Ok):X.Ok:=
 #[ok.mod,ok.kind,ok.glob,ok.blt,ok.above,ok.inj,ok.has,ok.cab,ok.hd,ok.frames,ok.stk,ok.exf,ok.bs,ok.bsz,ok.adn,ok.ado,ok.abf,ok.frf]
section
variable{X:Cx}{Z:bb (VF×Obj)}{Y:St}{H:Hp}{s:VG}{E:Vu->VG->Prop}
theorem Inv.aaE(I:Inv X Z Y H s)(E:B->VG->Prop):Inv (X.aaE E) Z Y H s:=#[I.ok.aaE E,I.os,I.bare,I.base,I.loc,I.cell,I.free,I.Zh,I.pin,I.W6,I.len]
theorem Inv.Zn(I:Inv (X.aaE E) Z Y H s):Inv X Z Y H s:=#[I.ok.Zn,I.os,I.bare,I.base,I.loc,I.cell,I.free,I.Zh,I.pin,I.W6,I.len]
def SP.Zn(h:SP (X.aaE E) Z D f s'):SP X Z D f s':=by
 cases f with
 |next=>let(a,b,I,q):=h;show#[a,b,I.Zn,q]
 |brk=>let(a,b,I,q):=h;show#[a,b,I.Zn,q]
 |cont=>let(a,b,I,q):=h;show#[a,b,I.Zn,q]
 |ret u=>let(v,a,b,I,r,q):=h;show#[v,a,b,I.Zn,r,q]
theorem PSs.nox{a:G X2}(h:PSs X.nox a t):PSs X a t:=λZ s Y H D I b=>
 wpAny_mono (h Z s Y H D (I.aaE _) b) (λ_ _ q=>q.Zn) λ_ _ z=>False.elim z
end
section
variable{X:Cx}{U:X2}{Y:bb X2}{t u:TS}{e:WQ}{Z:TE}{T:Pos}
def Hj:TS:=λD a H=>D.nx a H
def NB(t u:TS):TS:=λD a H=>t {D with nx:=u D} a H
theorem jD:PSs X [] Hj:=λ_ _ a H _ I h=>ZM #[a,H,I,h]
def aq(l:PS X U t)(j:PSs X Y u):PSs X (U::Y) (NB t u):=by
 intro a s g H D I h;show ah1 (cR (l a s g H {D with nx:=u D} I h) λf i q=>?_);cases f with
 |next=>let(b,n,m,q):=q;show j a i b n D m q
 |ret v=>show q
 |brk=>show q
 |cont=>show q
def aW(g:PS X U t):PSs X [U] t:=by
 intro a s b H D I h;show ah1 (cR (g a s b H D I h) λf i q=>?_);cases f with
 |next=>show ZM q
 |ret v=>show q
 |brk=>show q
 |cont=>show q
def Inv.quiet{a:G (M×Obj)}{b:St}{H:Hp}{s:VG}(I:Inv X a b H s):interactive X.env=VO:=by simp[interactive,I.ok.kind]
def EU(Z:TE):TS:=λD a H=>Z a H λ_ b=>D.nx a b
def hV(i:PE X e Z)(g:Xq e Vt T.line X.env=pure VO:=by rfl):PS X (.Expr e T) (EU Z):=by intro a s b H D I h;show wpAny_Expr_any (cR (i a s b H _ I h) λv m #[x,l,j,n,f]=>#[b,l,j,f]) I.quiet g
def Q7(Z:TE):TS:=λD a H=>Z a H D.rt
def cV(i:PE X e Z):PS X (.Return (R e) T) (Q7 Z):=by intro a s b H D I h;show wpAny_Return_some (cR (i a s b H _ I h) λv m #[x,l,j,f,g]=>#[x,b,l,j,f,g])
def Px:TS:=λD _ H=>D.rt .XX H
theorem NC:PS X (.Return Vt T) Px:=λ_ _ a H _ I h=>wpAny_Return_none #[.XX,a,H,I,W,h]
def Mf(c:TT)(t u:TS):TS:=λD a H=>c a H λb f=>if b=P then t D a f else u D a f
def p9(n:PT X c p)(k:PSs X a t)(o:PSs X b u):PS X (.If c a b T) (Mf p t u):=by
 intro f s g H D I h;show wpAny_If (cR (n f s g H _ I h) λd i #[m,l,j]=>?_);cases d with
 |true=>show k f i g m D l j
 |false=>show o f i g m D l j
def KS:TS:=λ_ _ _=>False
theorem A0:PS X U KS:=λ_ _ _ _ _ _ h=>h.elim
end
abbrev TG:=V->St->Hp->(St->Hp->Prop)->Prop
abbrev Sb:=G V->St->Hp->(St->Hp->Prop)->Prop
def PG(X:Cx)(a:WQ)(t:TG):Prop:=
 ∀(b:G (M×Obj)) (s:VG) (e:St) (H:Hp) (v:V) (u:B) (Q:St->Hp->Prop),Inv X b e H s->RelV v u->t v e H Q->
  wpAny (model X.prog X.w) X.A (assign a X.env u) (λ_ f=>∃g h,Inv X b g h f/\Q g h) X.xe s
def T4(X:Cx)(f:G WQ)(t:Sb):Prop:=
 ∀(a:G (M×Obj)) (s:VG) (b:St) (H:Hp) (i:G V) (e:G B) (Q:St->Hp->Prop),Inv X a b H s->Vals i e->t i b H Q->
  wpAny (model X.prog X.w) X.A (assignInOrder ((assignEach f X.env).map (·.2)) e) (λ_ g=>∃h j,Inv X a h j g/\Q h j) X.xe s
abbrev Uz:=V->V->Hp->VK->Prop
def Ux(X:Cx)(e:Operator)(t:Uz):Prop:=
 ∀(a:G (M×Obj)) (s:VG) (b:St) (H:Hp) (x y:V) (v u:B) (Q:VK),Inv X a b H s->RelV x v->RelV y u->t x y H Q->
  wpAny (model X.prog X.w) X.A (inplaceOp e v u) (EP X a b Q) X.xe s
section
variable{X:Cx}{Z:Pos}
def wg(i:Nat):TG:=λv a H Q=>Q (a.set i (R v)) H
def bK(c:X.N.Nodup)(b:X.N[i]?=R x)(a:Tm X.env.scope x)(hf:X.fn x=P\/X.env.scope.names.lookup x=R .local:=by first|show .inl W|show .inr W|assumption):PG X (.Name x Z) (wg i):=by intro pins s σ H v u Q I r h;show ahs (tG I c b a r (λf e=>#[_,H,e,h]) hf)
def PZ:Sb:=λb a H Q=>b=[]/\Q a H
def Ku(t:TG)(u:Sb):Sb:=λf b H Q=>∃v r,f=v::r/\t v b H λa e=>u r a e Q
def xt:T4 X [] PZ:=by intro a s b H g f Q I r h;let(e,h):=h;subst e;ext r;show assignInOrder_nil #[b,H,I,h]
def mq(n:PG X e t)(m:T4 X z u)
  (l:(assignEach (e::z) X.env).map (·.2)=assign e X.env::(assignEach z X.env).map (·.2):=by rfl):T4 X (e::z) (Ku t u):=by
 intro a s f H A y Q I r h;let(v,w,o,h):=h;subst o;cases r with
 |cons r i=>rw[l];show assignInOrder_cons (cR (n a s f H _ _ _ I r h) λ_ g #[b,q,p,j]=>?_);show m a g b q _ _ Q p i j
def Ry(K:Vs)(n:Nat)(t:Sb):TG:=λv b H Q=>∃a xs,v=.ref a/\ZQ K H a xs/\xs.length=n/\t xs b H Q
def BP(q:X.calm=P)(h:T4 X C t)
  (c:(assignEach C X.env).length=n:=by rfl) (d5:(assignEach C X.env).findIdx? (·.1)=U:=by rfl):PG X (.Tuple C k Z) (Ry X.K n t):=by
 intro f s i H v u Q I r g;let(a,xs,w,m,p,g):=g;subst w;ext r;let(B,E,l,z):=I.tuple m;show assign_Tuple_tuple (I.ok.hd q) l (by simp[c,<-p,E.length]) d5 λA j=>?_;let y:=I.kept (t':=s.toks) λb o e=>j b o (Wc (bP e)) e;show h f _ i H xs _ Q y (by simpa using E) g
def FP(b:TE)(g:TG):TS:=λD a H=>b a H λx e=>g x a e D.nx
def Qf(o:PE X e y)(n:PG X w g)(m:swapsWithSole [w] e Z.line X.env=pure VO:=by rfl)(l:swappedStores [w] e X.env=pure U:=by rfl)
  (p:(assignEach [w] X.env).map (·.2)=[assign w X.env]:=by rfl):PS X (.Assign [w] e Z) (FP y g):=by
 intro a s b H D I h;show wpAny_Assign_stores (cR (o a s b H _ I h) λv f #[x,t,r,i,j]=>?_) m l;rw[p];show cR (n a f b t x v _ r i j) λ_ u q=>q
def cC{i:Nat}{x:Str}{e:WQ}{a:TE}{pos':Pos}(j:X.N.Nodup)(g:X.N[i]?=R x)(c:Tm X.env.scope x)(he:PE X e a)(d:Xq e (R (.Name x pos')) Z.line X.env=pure VO:=by rfl)(hf:X.fn x=P\/X.env.scope.names.lookup x=R .local:=by first|show .inl W|show .inr W|assumption):
  PS X (.Assign [.Name x pos'] e Z) (FP a (wg i)):=by
 intro pins s σ H D I h;show wpAny_Assign_Name (cR (he pins s σ H _ I h) λv s1 #[y,H1,m,b,f]=>?_) d;show tG m j g c b (λs2 l=>#[_,H1,l,f]) hf
def SH(i:Nat)(e:TE)(b:Uz):TS:=λD a H=>∃x,a[i]?=R (R x)/\e a H λy g=>b x y g λz f=>D.nx (a.set i (R z)) f
def QV(F:X.N.Nodup)(n:X.N[i]?=R x)(d:Tm X.env.scope x)(he:PE X e p)(E:Ux X op o)(hf:X.fn x=P\/X.env.scope.names.lookup x=R .local:=by first|show .inl W|show .inr W|assumption):
  PS X (.AugAssign (.Name x pos') op e Z) (SH i p o):=by
 intro pins s σ H D I h;let(v,N,h):=h;let(m,J,K):=I.loc;let g:T3 X.env.scope x:=by rcases d with k|k;show .inl k;show .inr (.inl k)
 let(u,r,l):=K i x v n N g;show wpAny_AugAssign_Name ?_;let go:wpAny (model X.prog X.w) X.A (eval e X.env) (λw f=>wpAny (model X.prog X.w) X.A (inplaceOp op u w) (λr b=>wpAny (model X.prog X.w) X.A (storeName X.env x r) (λ_=>SP X pins D .next) X.xe b) X.xe f) X.xe s:=by show cR (he pins s σ H _ I h) λw s1 #[y,H1,S,t,C]=>?_;show cR (E pins s1 σ H1 v y u w _ S r t C) λz s2 #[Y,T,Q,q,A]=>?_;show tG Q F n d q (λs3 O=>#[_,T,O,A]) hf
 rcases l with⟨a,hm⟩|⟨a,c,L,j⟩
 .show afQ I.ok.kind a J hm go
 .rcases a with a|a
  .show agk I.ok.kind a L j go
  .rcases d with k|k
   .let:X.env.scope.names.lookup x=R .free:=a;rw[k]at this;ext this
   .let:X.env.scope.names.lookup x=R .free:=a;rw[k]at this;ext this
def U3(f:Int->Int->Int):Uz:=λx y H Q=>∃i j,x=.int i/\y=.int j/\Q (.int (f i j)) H
def RE:Ux X .Add (U3 λi j=>i+j):=by intro a s l H x y v u Q I e b h;let(i,j,g,f,q):=h;subst g;subst f;let(t,rfl):=e;let(m,rfl):=b;show iadd_int #[.int _,H,I.tok _,#[_,W],q]
end
section
variable{X:Cx}{Z:Pos}
def IP(c:TT)(f:TS):TS:=λD a H=>∃W:Nat->St->Hp->Prop,(∃m,W m a H)/\∀m a H,W m a H->
 c a H λb e=>if b=P then∃N:St->Hp->Prop,(∀g i,N g i->∃h,h<m/\W h g i)/\f {D with nx:=N,ct:=N,bk:=D.nx} a e else D.nx a e
def pV(r:aaa (model X.prog X.w) X.A X.env X.xe)(L:PT X c Q)(M:PSs X body S):PS X (.While c body [] Z) (IP Q S):=by
 intro e s B H D I h;let(W,(K,E),turn):=h;show wpAny_While (codeAny_whileLoop (λn J=>∃w A,Inv X e w A J/\W n w A) ?_ K #[B,H,I,E]);rintro n G ⟨g,z,O,C⟩;show Yt r (cR (L e G g z _ O (turn n g z C)) λb F #[y,u,l]=>?_);cases b with
 |true=>
  let(N,t,l):=l;rw[av rfl];show Yt r (cR (M e F g y _ u l) λf P j=>?_);cases f with
  |next=>let(a,i,q,o):=j;let(p,hm,m):=t a i o;show#[p,hm,a,i,q,m]
  |cont=>let(a,i,q,o):=j;let(p,hm,m):=t a i o;show#[p,hm,a,i,q,m]
  |brk=>show j
  |ret v=>show j
 |false=>rw[ax VU];show ZM #[g,y,u,l]
end
structure It where
 go:Nat->Hp->Prop
 yld:Nat->Hp->V->Hp->Prop
 stop:Nat->Hp->Prop
def qC(X:Cx)(a:G (M×Obj))(H:Hp)(b:M):Prop:=
 H b=U/\b≠X.env.locals/\b∉X.fs/\(b∈X.ex\/X.s₀.heap.objs.size<=b)/\(∀x c,X.env.cells.lookup x=R c->c≠b)/\∀p∈X.pn++a,p.1≠b
def Inv.acj(I:Inv X pins σ H s)(a:s.heap.objs.size<=b)(d:H' b=U):qC X pins H' b:=by
 show#[d,WX (V7 I.lt a),I.al3 a,.inr (Wt I.sz a),λx c e z=>?_,λp f z=>?_]
 .let(v,q):=I.cell x c e;show a5 (V7 q.lt (by rw[z];show a)) (WZ _)
 .show a5 (V7 (bP (I.pin p f).1) (by rw[z];show a)) (WZ _)
structure Turn(P:V8)(w:Wv)(K:Vs)(tg:WQ)(J:It)(fp:G M)(it:M)(tn:Nat->Heap->Prop):Prop where
 mem:it∈fp
 obj:∀i h,tn i h->∀b∈fp,∃o,h.get? b=R o/\∀v,o.data≠.cell v
 keep:∀i h h',tn i h->(∀b∈fp,∀o,h.get? b=R o->h'.get? b=R o)->tn i h'
 item:∀(X:Cx),X.prog=P->X.w=w->X.K=K->X.calm=Vx->∀(i:Nat) (pins:G (M×Obj)) (s:VG) (σ:St) (H:Hp) (E:B->VG->Prop),Inv X pins σ H s->(∀b∈fp,qC X pins H b)->tn i s.heap->J.go i H->
  wpAny (model P w) X.A (pyNext (.ref it)) (λr s1=>∃u,r=R u/\
   wpAny (model P w) X.A (letOwnedTupleGo tg (.ref it) u) (λ_ s2=>∃x H',Inv X pins σ H' s2/\RelV x u/\J.yld i H x H'/\tn (i+1) s2.heap/\∀b∈fp,H' b=U) E s1) E s
 done:∀(X:Cx),X.prog=P->X.w=w->X.K=K->X.calm=Vx->∀(i:Nat) (pins:G (M×Obj)) (s:VG) (σ:St) (H:Hp) (E:B->VG->Prop),Inv X pins σ H s->(∀b∈fp,qC X pins H b)->tn i s.heap->J.stop i H->
  wpAny (model P w) X.A (pyNext (.ref it)) (λr s1=>r=U/\Inv X pins σ H s1) E s
 self:∀(A:Wl) (i:Nat) (s:VG) (Q:B->VG->Prop) (E:B->VG->Prop),tn i s.heap->Q (.ref it) s->wpAny (model P w) A (pyIter (.ref it)) Q E s
abbrev TI:=St->Hp->(It->Hp->Prop)->Prop
def UY(X:Cx)(a:G (M×Obj))(l:St)(m:WQ)(R:It->Hp->Prop)(e:B)(h:VG):Prop:=
 ∃(i:M) (j:G M) (g:Nat->Heap->Prop) (J:It) (f:Hp),e=.ref i/\Inv X a l f h/\Turn X.prog X.w X.K m J j i g/\g 0 h.heap/\(∀b∈j,qC X a f b)/\R J f
def PI(X:Cx)(g b:WQ)(f:TI):Prop:=
 ∀(a:G (M×Obj)) (s:VG) (e:St) (H:Hp) (R:It->Hp->Prop),Inv X a e H s->f e H R->
  wpAny (model X.prog X.w) X.A (eval b X.env) (λv h=>wpAny (model X.prog X.w) X.A (pyIter v) (UY X a e g R) X.xe h) X.xe s
def Hh{M:aeJ}{A:Wl}{E:B->VG->Prop}{s:VG}{b:WQ}{it:VF}{u:B}{o:Obj}{n:String}{c:Array B}{Q:Unit->VG->Prop}(e:s.heap.get? it=R o)(f:o.cls=.type n)(hd:o.data=.fields c)
  (d:["enumerate","zip","dict_itemiterator","dict_reverseitemiterator","odict_iterator","itertools.zip_longest","itertools.pairwise"].contains n=VO) (a:Q ⟨⟩ s):wpAny M A (letOwnedTupleGo b (.ref it) u) Q E s:=by
 ext letOwnedTupleGo;ext b<;>first
  |show VH a
  |(ext u<;>first
    |show VH a
    |(show Ld (agK e ?_)
      rw[f,hd];show wpAny M A (if(["enumerate","zip","dict_itemiterator","dict_reverseitemiterator","odict_iterator","itertools.zip_longest","itertools.pairwise"].contains n&&c[0]? ==R (rawInt _))=P then _ else _) Q E s;rw[ax (by intro h;rw[d,YY]at h;ext h)];show VH a))
def UG(K:Vs)(a:M):It:=
 #[λi H=>∃xs x,SqL K H a xs/\xs[i]?=R x,λi H x b=>b=H/\∀xs,SqL K H a xs->xs[i]?=R x,λi H=>∃xs,SqL K H a xs/\xs.length<=i]
def Ut(K:Vs)(a:M):It:=
 #[λi H=>∃xs x,ZQ K H a xs/\xs[i]?=R x,λi H x b=>b=H/\∀xs,ZQ K H a xs->xs[i]?=R x,λi H=>∃xs,ZQ K H a xs/\xs.length<=i]
def Uh(lo:Int)(n:Nat):It:=#[λi _=>i<n,λi H x a=>a=H/\x=.int (lo+i),λi _=>n<=i]
theorem FK{K:Vs}(a it:VF):Turn Pz0 w K tg (UG K a) [it] it (λi h=>h.IsListIter it a i) where
 mem:=by simp
 obj:=λi h f b g=>by
  let e:b=it:=by simpa using g
  subst e;let(o,e,c,d):=f;show#[o,e,λv z=>by rw[d]at z;ext z]
 keep:=λi h M f k=>f.at λo e=>k it (by simp) o e
 item:=by intro X y r A L i l s N H E I n f t;subst y r A;let(xs,x,m,q):=t;let(Z,rv,p,R):=I.list m;let(u,T,Q):=rv.get q;let(J,G,U,F,C,B):=n it (by simp);show wpAny_pyNext_list_item f p.isList (by simpa using T) λM j O=>?_;let I1:=I.turned (t':=s.toks) (λb o g e=>(O.2 b g).trans e) J G F C B;let(o,e,c,d):=id j;show#[u,W,Hh e c d () #[x,H,I1,Q,#[W,λys S=>by rw[I.aff S m];show q],j,λb g=>(n b g).1]]
 done:=by intro X y r A L i l s N H E I n f t;subst y r A;let(xs,m,q):=t;let(Z,rv,p,R):=I.list m;let(J,G,U,F,C,B):=n it (by simp);let hl:=rv.length;show wpAny_pyNext_list_end (I.ok.hd L) f p.isList (by simp;ext) λM Y=>#[W,I.turned (λb o g e=>Y b o g e) J G F C B]
 self:=λ_ _ _ _ _ f h=>wpAny_pyIter_listiter f h
theorem B4{K:Vs}(a it:VF):Turn Pz0 w K tg (Ut K a) [it] it (λi h=>h.IsTupleIter it a i) where
 mem:=by simp
 obj:=λi h f b g=>by
  let e:b=it:=by simpa using g
  subst e;let(o,e,c,d):=f;show#[o,e,λv z=>by rw[d]at z;ext z]
 keep:=λi h N f k=>f.at λo e=>k it (by simp) o e
 item:=by intro X y r A M i l s O H E I n f t;subst y r A;let(xs,x,m,q):=t;let(L,rv,p,S):=I.tuple m;let(u,U,R):=rv.get q;let(J,G,Y,F,C,B):=n it (by simp);show wpAny_pyNext_tuple_item f (show s.heap.IsTuple a L.toArray from p) (by simpa using U) λN j Q=>?_;let I1:=I.turned (t':=s.toks) (λb o g e=>(Q.2 b g).trans e) J G F C B;let(o,e,c,d):=id j;show#[u,W,Hh e c d () #[x,H,I1,R,#[W,λys T=>by rw[I.aeC T m];show q],j,λb g=>(n b g).1]]
 done:=by intro X y r A M i l s O H E I n f t;subst y r A;let(xs,m,q):=t;let(L,rv,p,S):=I.tuple m;let(J,G,Y,F,C,B):=n it (by simp);let hl:=rv.length;show wpAny_pyNext_tuple_end (I.ok.hd M) f (show s.heap.IsTuple a L.toArray from p) (by simp;ext) λN Z=>#[W,I.turned (λb o g e=>Z b o g e) J G F C B]
 self:=λ_ _ _ _ _ f h=>wpAny_pyIter_tupleiter f h
theorem BE{K:Vs}(it:VF)(lo:Int)(n:Nat):Turn T w K Y (Uh lo n) [it] it (λi h=>IsRangeIter h it (lo+(i:Nat)*1) ((n:Int) - (i:Nat)) 1) where
 mem:=by simp
 obj:=λi h a b g=>by
  let e:b=it:=by simpa using g
  subst e;show#[_,a,λv z=>by let L:=z;ext L]
 keep:=λi h y a k=>k it (by simp) _ a
 item:=by intro X r m u q i f s J H E I l a p;subst r m u;let(G,F,Q,C,B,A):=l it (by simp);let W:=Walks.range (prog:=X.prog) (w:=X.w) (I.ok.hd q) it lo 1 n;show W.item i s _ _ p a λv y M O j N=>?_;let(t,rfl):=O;let S:Inv X f J H {s with heap:=y,toks:=M}:=I.turned (λb o g e=>N b o (by simpa using g) e) G F C B A;show#[_,rfl,Hh j rfl rfl () #[.int (lo+i),H,S,#[t,?_],#[rfl,rfl],j,λb g=>(l b g).1]];rw[Int.mul_one]
 done:=by intro X r m u q i f s J H E I l a p;subst r m u;let(G,F,Q,C,B,A):=l it (by simp);show wpAny_pyNext_range_end (I.ok.hd q) a (by let:n<=i:=p;ext) λy R=>#[rfl,I.turned (λb o g e=>R b o g e) G F C B A]
 self:=λ_ _ _ _ _ a h=>wpAny_pyIter_rangeiter a h
section
variable{X:Cx}{Z:WQ}
def Ha{a:G (M×Obj)}{f:St}{H:Hp}{s:VG}{R:It->Hp->Prop}{E:B->VG->Prop}{lo c:Int}{t u v:Tok}{g:Nat}(I:Inv X a f H s)(n: -(2^62)<=lo)(m:lo<2^62)(l: -(2^62)<=c)(j:c<2^62)
  (q:R (Uh lo (c - lo).toNat) H):wpAny (model X.prog X.w) X.A (pyIter (.ref s.heap.objs.size)) (UY X a f Z R) E {s with heap:=s.heap.push {cls:=.type "range",data:=.fields #v[.int lo t,.int c u,.int 1 v]},toks:=g}:=by
 show wpAny_pyIter_range (IsRange.new ..) (small_one n m l j) ?_;let h:Inv X a f H {s with heap:=s.heap.push {cls:=.type "range",data:=.fields #v[.int lo t,.int c u,.int 1 v]},toks:=g}:=I.kept λb o e=>br _ e;show#[(s.heap.push {cls:=.type "range",data:=.fields #v[.int lo t,.int c u,.int 1 v]}).objs.size,[(s.heap.push {cls:=.type "range",data:=.fields #v[.int lo t,.int c u,.int 1 v]}).objs.size],_,_,H,W,
  h.kept (t':=g) λb o e=>br _ e,BE _ lo (c - lo).toNat,?_,λb i=>?_,q]
 .let r:lo+((0:Nat):Int)*1=lo:=by simp
  let p:(((c - lo).toNat:Nat):Int) - ((0:Nat):Int)=Builtin.Range.rangeSize lo c 1:=by rw[rangeSize_one];split<;>ext
  show IsRangeIter _ _ (lo+((0:Nat):Int)*1) ((((c - lo).toNat:Nat):Int) - ((0:Nat):Int)) 1;rw[r,p];show cj _ W
 .let e:b=(s.heap.push {cls:=.type "range",data:=.fields #v[.int lo t,.int c u,.int 1 v]}).objs.size:=by simpa using i
  subst e;show h.acj (VP _) (h.W6.fresh (VP _))
def Lk(b:TA):TI:=λa H R=>b a H λf e=>∃j:Int,f=[.int j]/\ -(2^62)<=j/\j<2^62/\R (Uh 0 j.toNat) e
def fL(o:Gl X "range")(hm:X.mg "range"=U)(c:PA X [a] z)(n:We [a] X.env=[(VO,eval a X.env)]:=by rfl):PI X Z (.Call (.Name "range" p) [a] [] pos) (Lk z):=by
 intro b s g H R I h;show Call_ (pz I o hm boot_range (XD (cR (c pos b s g H _ I h) λv w #[A,y,u,l,f]=>?_) n W));let(j,e,f,m,q):=f;subst e;cases l with
 |cons r i=>ext i;let(t,rfl):=r;show call_range_1 (Ha u () () f m (by simpa using q))
def RT(e:TI)(g:TG)(f:TS):TS:=λD a H=>e a H λJ j=>∃W:Nat->Nat->St->Hp->Prop,(∃m,W 0 m a j)/\∀i m a H,W i m a H->
 (J.stop i H/\D.nx a H)\/(J.go i H/\∃N:St->Hp->Prop,(∀l n,N l n->∃o,o<m/\W (i+1) o l n)/\∀x n,J.yld i H x n->g x a n λb h=>f {D with nx:=N,ct:=N,bk:=D.nx} b h)
def tT(a:G M)(h:Heap):G (M×Obj):=a.filterMap λb=>(h.get? b).map λo=>(b,o)
theorem kS(a:b∈f)(e:h.get? b=R o):(b,o)∈tT f h:=ZJ.mpr #[b,a,by rw[e];rfl]
def Gy(a:p∈tT i h):p.1∈i/\h.get? p.1=R p.2:=by
 let(b,f,e):=ZJ.mp a;cases q:h.get? b with
 |none=>rw[q]at e;ext e
 |some o=>rw[q]at e;let g:=VZ e;subst g;show#[f,q]
theorem Inv.pinned(I:Inv X pins σ H s)(i:∀b∈fp,qC X pins H b)(h:∀b∈fp,∃o,s.heap.get? b=R o/\∀v,o.data≠.cell v):Inv X (pins++tT fp s.heap) σ H s:=
 I.acV λp g=>(Wr.mp g).elim (λz=>I.pin p (WK _ z)) λz=>by let(a,e):=Gy z;let(m,l,j,_):=i p.1 a;let(o,f,d):=h p.1 a;rw[e]at f;ext f;show#[e,m,l,j,d]
theorem Inv.abx(I:Inv X (pins++pl) σ H s):Inv X pins σ H s:=I.acV λp a=>I.pin p (WK _ (XB _ a))
def xm(L:aaa (model X.prog X.w) X.A X.env X.xe)(c:X.calm=Vx)(V:PI X Z iter wi)(hg:PG X Z g)(p:PSs X body tb)
  (k:∀x,foldedSetIterable iter X.env x=pure x:=by intro _;rfl):PS X (.For Z iter body [] pos) (RT wi g tb):=by
 intro j s σ H D I h;show wpAny_For (cR (V j s σ H _ I h) λv s1 h1=>cR h1 λitv s2 h2=>?_) k;let(it,O,tn,J,H2,e,I2,T,R,f2,W,(m0,w0),turn):=h2;subst e;let E:∀{z:Hp},(∀b∈O,z b=Vt)->∀b∈O,qC X j z b:=λhn b p=>#[hn b p,(f2 b p).2];show codeAny_forLoop_any (λn s'=>∃i A z,Inv X j A z s'/\tn i s'.heap/\(∀b∈O,z b=Vt)/\W i n A z) ?_ m0 #[0,σ,H2,I2,R,λb p=>(f2 b p).1,w0];rintro n s3 ⟨i,l,P,I3,G,M,w3⟩;rcases turn i n l P w3 with⟨F,qn⟩|⟨go,N,hN,step⟩
 .show Yt L (cR (T.done X rfl rfl rfl c i j s3 l P X.xe I3 (E M) G F) λr s4 #[w,I4]=>?_);subst w;show ZM #[l,P,I4,qn]
 .show Yt L (cR (T.item X rfl rfl rfl c i j s3 l P X.xe I3 (E M) G go) λr s4 #[u,w,h4]=>?_)
  subst w;show Yt L (cR h4 λ_ s5 #[x,H5,I5,r5,y5,C,Y]=>?_);let I5':=I5.pinned (E Y) (T.obj _ _ C);show Yt L (cR (hg _ s5 l H5 x u _ I5' r5 (step x H5 y5)) λ_ s6 #[Q,H6,I6,q6]=>?_);show Yt L (cR (p _ s6 Q H6 _ I6 q6) λf S B=>?_);let q:∀{a:St} {y:Hp},Inv X (j++tT O s5.heap) a y S->N a y->∃m,m<n/\∃i A z,Inv X j A z S/\tn i S.heap/\(∀b∈O,z b=Vt)/\W i m A z:=λ{a y} t K=>by let(m',hm,w7):=hN a y K;show#[m',hm,i+1,a,y,t.abx,T.keep _ _ _ C λb p o e=>(t.pin (b,o) (WK _ (WK _ (kS p e)))).1,λb p=>?_,w7];let(o,e,d):=T.obj _ _ C b p;show(t.pin (b,o) (WK _ (WK _ (kS p e)))).2.1
  cases f with
  |next=>let(a,y,t,K):=B;show q t K
  |cont=>let(a,y,t,K):=B;show q t K
  |brk=>let(a,y,t,B):=B;show#[a,y,t.abx,B]
  |ret v=>let(x7,a,y,t,r7,B):=B;show#[x7,a,y,t.abx,r7,B]
end
abbrev R2:=V->V->Hp->VK->Prop
def OpR(X:Cx)(f:B->B->Sem B)(r:R2):Prop:=
 ∀(a:G (M×Obj)) (s:VG) (b:St) (H:Hp) (x y:V) (v u:B) (Q:VK),Inv X a b H s->RelV x v->RelV y u->r x y H Q->
  wpAny (model X.prog X.w) X.A (f v u) (EP X a b Q) X.xe s
def US(X:Cx)(f:B->Sem B)(r:V->Hp->VK->Prop):Prop:=
 ∀(a:G (M×Obj)) (s:VG) (b:St) (H:Hp) (x:V) (v:B) (Q:VK),Inv X a b H s->RelV x v->r x H Q->
  wpAny (model X.prog X.w) X.A (f v) (EP X a b Q) X.xe s
def YM(X:Cx)(f:B)(r:G V->Hp->VK->Prop):Prop:=
 ∀(a:G (M×Obj)) (s:VG) (b:St) (H:Hp) (xs:G V) (e:G B) (Q:VK),Inv X a b H s->Vals xs e->r xs H Q->
  wpAny (model X.prog X.w) X.A (call f e) (EP X a b Q) X.xe s
def Pd(r:R2)(e b:TE):TE:=λa H Q=>e a H λx g=>b a g λy f=>r x y f Q
def Us(r:V->Hp->VK->Prop)(b:TE):TE:=λa H Q=>b a H λx e=>r x e Q
def rI(C:Int->Int->Prop)(g:Int->Int->V):R2:=λx y H Q=>∃i j,x=.int i/\y=.int j/\C i j/\Q (g i j) H
def Be(g:Int->Int->V):R2:=λx y H Q=>∃i j,x=.int i/\y=.int j/\Q (g i j) H
def rU(g:Int->V):V->Hp->VK->Prop:=λx H Q=>∃i,x=.int i/\Q (g i) H
section
variable{X:Cx}{a b c:WQ}{Z Y S:TE}{T:Pos}
def Sj(r:PE X a Z)(n:PE X b Y){R:V->V->Hp->Prop}(I:Inv X pins σ H s)
  (h:Z σ H λx H1=>Y σ H1 λy d=>R x y d) {f:B->B->Sem B}
  (m:∀v u s2 x y d,Inv X pins σ d s2->RelV x v->RelV y u->R x y d->wpAny (model X.prog X.w) X.A (f v u) Q X.xe s2):
  wpAny (model X.prog X.w) X.A (eval a X.env) (λv q=>wpAny (model X.prog X.w) X.A (eval b X.env) (λu k=>wpAny (model X.prog X.w) X.A (f v u) Q X.xe k) X.xe q) X.xe s:=by
 show cR (r pins s σ H _ I h) λv e #[x,H1,p,i,l]=>?_;show cR (n pins e σ H1 _ p l) λu s2 #[y,d,o,g,j]=>?_;show m v u s2 x y d o i g j
def ky(l:OpR X (Xz op) r)(d:PE X a Z)(m:PE X b Y):PE X (.BinOp a op b T) (Pd r Z Y):=by intro e s f H Q I h;show wpAny_BinOp (Sj d m I h λv u g x y o n j i q=>l e g f o x y v u Q n j i q)
def J4(l:US X (unaryOp op) r)(d:PE X a Z):PE X (.UnaryOp op a T) (Us r Z):=by intro e s f H Q I h;show UnaryOp_ (cR (d e s f H _ I h) λv g #[x,n,m,i,j]=>l e g f n x v Q m i j)
def SB{g:Int->Int->Int}
  (e:∀(i j:Int) (t u:Tok) (s:VG) (Q:B->VG->Prop) (E:B->VG->Prop),C i j->Q (.int (g i j) s.toks) {s with toks:=s.toks+1}->wpAny (model X.prog X.w) X.A (f (.int i t) (.int j u)) Q E s):
  OpR X f (rI C λi j=>.int (g i j)):=by
 intro l s r H x y v u Q I o n h;let(i,j,rfl,rfl,p,q):=h;let(t,rfl):=o;let(m,rfl):=n;show e i j t m s _ _ p #[.int (g i j),H,I.tok _,#[_,W],q]
def PM{g:Int->Int->Int}
  (e:∀(i j:Int) (t u:Tok) (s:VG) (Q:B->VG->Prop) (E:B->VG->Prop),Q (.int (g i j) s.toks) {s with toks:=s.toks+1}->wpAny (model X.prog X.w) X.A (f (.int i t) (.int j u)) Q E s):
  OpR X f (Be λi j=>.int (g i j)):=by
 intro l s p H x y v u Q I o n h;let(i,j,rfl,rfl,q):=h;let(t,rfl):=o;let(m,rfl):=n;show e i j t m s _ _ #[.int (g i j),H,I.tok _,#[_,W],q]
def Qg{g:Int->Int->Bool}
  (e:∀(i j:Int) (t u:Tok) (s:VG) (Q:B->VG->Prop) (E:B->VG->Prop),Q (.bool (g i j)) s->wpAny (model X.prog X.w) X.A (f (.int i t) (.int j u)) Q E s):
  OpR X f (Be λi j=>.bl (g i j)):=by
 intro l s p H x y v u Q I o n h;let(i,j,rfl,rfl,q):=h;let(t,rfl):=o;let(m,rfl):=n;show e i j t m s _ _ #[.bl (g i j),H,I,W,q]
def Im(i j:Int):Prop:=0<=j/\j<=1000000/\i.natAbs<2^64
def agd(i j:Int):Prop:=(-(2^64)<i/\i<2^64)\/(-(2^64)<j/\j<2^64)
def agd.ok(h:agd i j):IntMulOk i j:=by
 rcases h with⟨f,e⟩|⟨f,e⟩
 .show .of_left (amD f e)
 .show .of_right (amD f e)
def two_pow_nn(k:Nat):(0:Int)<=2^k:=by rw[two_pow_cast];show Int.natCast_nonneg _
theorem Qm:OpR X (Xz .Add) (Be λi j=>.int (i+j)):=PM λ_ _ _ _ _ _ _ q=>add_int q
theorem Qj:OpR X (Xz .Sub) (Be λi j=>.int (i - j)):=PM λ_ _ _ _ _ _ _ q=>sub_int q
theorem RA:OpR X (Xz .Mult) (rI agd λi j=>.int (i*j)):=SB λ_ _ _ _ _ _ _ e q=>mul_int q e.ok
theorem QD:OpR X (Xz .Mod) (rI (λ_ j=>0<j) λi j=>.int (i % j)):=SB λi j _ _ _ _ _ e q=>by let f:(0:Int)<j:=e;show mod_int' () (by rw[Int.fmod_eq_emod_of_nonneg i ()];show q)
theorem PN:OpR X (Xz .Pow) (rI Im λi j=>.int (i^j.toNat)):=SB λ_ _ _ _ _ _ _ e q=>pow_int_small e.1 e.2.1 e.2.2 q
theorem HK:OpR X (Xz .LShift) (rI Im λi j=>.int (i*2^j.toNat)):=SB λ_ _ _ _ _ _ _ e q=>lshift_int_small e.1 e.2.1 e.2.2 q
theorem IB:OpR X (Xz .RShift) (rI (λ_ j=>0<=j) λi j=>.int (i/2^j.toNat)):=SB λi j _ _ _ _ _ e q=>
 rshift_int e (by rw[acN i (two_pow_nn _)];show q)
theorem Ko:OpR X (Xz .BitAnd) (Be λi j=>.int (Builtin.bitAnd i j)):=PM λ_ _ _ _ _ _ _ q=>and_int q
def Vi{g:Int->Int}
  (e:∀(i:Int) (t:Tok) (s:VG) (Q:B->VG->Prop) (E:B->VG->Prop),Q (.int (g i) s.toks) {s with toks:=s.toks+1}->wpAny (model X.prog X.w) X.A (f (.int i t)) Q E s):
  US X f (rU λi=>.int (g i)):=by
 intro j s m H x v Q I l h;let(i,rfl,q):=h;let(t,rfl):=l;show e i t s _ _ #[.int (g i),H,I.tok _,#[_,W],q]
theorem Cv:US X (unaryOp .USub) (rU λi=>.int (-i)):=Vi λ_ _ _ _ _ q=>neg_int q
end
def yq:V->V->Bool
 |.XX,.XX=>P|.XX,.int _=>P|.int _,.XX=>P|.XX,.bl _=>P|.bl _,.XX=>P|.XX,.str _=>P|.str _,.XX=>P
 |.int _,.int _=>P|.bl _,.bl _=>P|.str _,.str _=>P|.byt _,.byt _=>P
 |.int _,.str _=>P|.str _,.int _=>P|.bl _,.str _=>P|.str _,.bl _=>P
 |_,_=>VO
def U0:R2:=λx y H Q=>yq x y=P/\Q (.bl (decide (x=y))) H
def LX:decide (V.int i=V.int j)=(i==j):=by rw[YQ];rw[decide_eq_true_iff,beq_iff_eq];show#[λh=>by ext h;rfl,λh=>by rw[h]]
def Q6:decide (V.bl i=V.bl j)=(i==j):=by rw[YQ];rw[decide_eq_true_iff,beq_iff_eq];show#[λh=>by ext h;rfl,λh=>by rw[h]]
def Mw:decide (V.str i=V.str j)=(i==j):=by rw[YQ];rw[decide_eq_true_iff,beq_iff_eq];show#[λh=>by ext h;rfl,λh=>by rw[h]]
def MM:decide (V.byt i=V.byt j)=(i.toList==j.toList):=by rw[YQ];rw[decide_eq_true_iff,beq_iff_eq];show#[λh=>by ext h;rfl,λh=>by rw[Array.toList_inj.mp h]]
section
variable{X:Cx}{a b c:WQ}{Y Z S:TE}{T:Pos}
def fC(I:Inv X pins σ H s)(q:Q (.bl k) H)(e:k=f):EP X pins σ Q (.bool f) s:=by subst e;show#[.bl k,H,I,W,q]
def Tz:OpR X (XT .Eq) U0:=by
 intro m s n H x y v u Q I l e h;let(g,q):=h;cases x with
 |XX=>
  ext l;cases y with
  |XX=>ext e;show ajc (fC I q (by simp))
  |bl j=>ext e;show ajd (fC I q (by simp))
  |int j=>let(f,rfl):=e;show aje (fC I q (by simp))
  |str j=>let(f,rfl):=e;show ajf (fC I q (by simp))
  |_=>show a5 (show VO=P from g) VU
 |bl i=>
  ext l;cases y with
  |XX=>ext e;show ajg (fC I q (by simp))
  |bl j=>ext e;show eq_bool (fC I q Q6)
  |str j=>let(f,rfl):=e;show ah2 (fC I q (by simp))
  |_=>show a5 (show VO=P from g) VU
 |int i=>
  let(t,rfl):=l;cases y with
  |XX=>ext e;show ajh (fC I q (by simp))
  |int j=>let(f,rfl):=e;show eq_int (fC I q LX)
  |str j=>let(f,rfl):=e;show ah3 (fC I q (by simp))
  |_=>show a5 (show VO=P from g) VU
 |str i=>
  let(t,rfl):=l;cases y with
  |XX=>ext e;show aji (fC I q (by simp))
  |bl j=>ext e;show ah4 (fC I q (by simp))
  |int j=>let(f,rfl):=e;show ah5 (fC I q (by simp))
  |str j=>let(f,rfl):=e;show eq_str (fC I q Mw)
  |_=>show a5 (show VO=P from g) VU
 |byt i=>
  let(t,rfl):=l;cases y with
  |byt j=>let(f,rfl):=e;show PySem.W.eq_bytes (fC I q MM)
  |_=>show a5 (show VO=P from g) VU
 |_=>ext y<;>show a5 (show VO=P from g) VU
theorem Jo:OpR X (XT .Lt) (Be λi j=>.bl (decide (i<j))):=Qg λ_ _ _ _ _ _ _ q=>lt_int q
theorem Hb:OpR X (XT .Gt) (Be λi j=>.bl (decide (j<i))):=Qg λ_ _ _ _ _ _ _ q=>gt_int q
theorem Py:OpR X (XT .GtE) (Be λi j=>.bl (decide (j<=i))):=Qg λ_ _ _ _ _ _ _ q=>ge_int q
def Rj:OpR X (XT .Is) (λx y H Q=>y=.XX/\Q (.bl (decide (x=.XX))) H):=by
 intro f s i H x y v u Q I e g h;let(rfl,q):=h;ext g;show is_none_gen (fC I q ?_);ext x<;>first
  |(ext e;rfl)
  |(let(t,rfl):=e;rfl)
def yT:OpR X (XT .IsNot) (λx y H Q=>y=.XX/\Q (.bl (!decide (x=.XX))) H):=by
 intro f s i H x y v u Q I e g h;let(rfl,q):=h;ext g;show isnot_none_gen (fC I q ?_);ext x<;>first
  |(ext e;rfl)
  |(let(t,rfl):=e;rfl)
def fE(b:WQ)(h:op≠.In:=by decide)(e:op≠.NotIn:=by decide):behindInMarks op b=VO:=by
 let g:(op==CmpOp.In)=VO:=by ext op<;>first|rfl|show a5 W h
 let f:(op==CmpOp.NotIn)=VO:=by ext op<;>first|rfl|show a5 W e
 ext b<;>simp[behindInMarks,g,f]
def kQ{f:CmpOp}{r:R2}(m:OpR X (XT f) r)(d:PE X a Y)(n:PE X b Z)(hm:behindInMarks f b=VO):PE X (.Compare a [f] [b] T) (Pd r Y Z):=by intro e s g H Q I h;show wpAny_Compare1 (Sj d n I h λv u i x y p o l j q=>m e i g p x y v u Q o l j q) hm
def EE(t:TE):TT:=λe H Q=>t e H λx f=>∃k,x=.bl k/\Q k f
def eB(t:OpR X (XT op) r)(d:PE X a Y)(w:PE X b Z)(hm:behindInMarks op b=VO):PT X (.Compare a [op] [b] T) (EE (Pd r Y Z)):=by
 intro f s g H Q I h;show afy (cR (d f s g H _ I h) λv j #[x,G,C,n,q]=>cR (w f j g G _ C q) λu i #[y,F,K,m,p]=>
  cR (t f i g F x y v u _ K n m p) λc J #[z,E,A,l,k,e,o]=>?_) hm
 subst e;ext l;show Yy #[E,A,o]
def xk:(VT:Nat)<2^63:=by rw[X5];decide
def lO(r:Vals [x] us):∃u,us=[u]/\RelV x u:=by
 cases r with
 |cons f e=>ext e;show#[_,W,f]
def Jk(r:Vals [x,y] us):∃u d,us=[u,d]/\RelV x u/\RelV y d:=by
 cases r with
 |cons h g=>
  cases g with
  |cons f e=>ext e;show#[_,_,W,h,f]
def GM(g:X.calm=P):YM X (.builtin "max") (λxs H Q=>∃i j,xs=[.int i,.int j]/\Q (.int (if j>i then j else i)) H):=by
 intro f s l H xs n Q I r h;let(i,j,rfl,q):=h;let(u,m,rfl,(t,rfl),(p,rfl)):=Jk r;show max_two_ints (I.ok.hd g) λv o k=>#[_,H,I.kept k,?_,q];by_cases e:j>i
 .rw[av e,av e];show#[_,W]
 .rw[ax e,ax e];show#[_,W]
def TF(K:Vs)(x:V)(H:Hp)(n:Nat):Prop:=
 match x with
 |.str y=>y.length<=VT/\n=y.length
 |.byt y=>y.size<=VT/\n=y.size
 |.ref p=>(∃xs,SqL K H p xs/\n=xs.length)\/∃xs,ZQ K H p xs/\n=xs.length
 |_=>False
def d4:YM X (.builtin "len") (λxs H Q=>∃x n,xs=[x]/\TF X.K x H n/\Q (.int n) H):=by
 intro m s z H xs A Q I r h;let(x,n,rfl,e,q):=h;let(u,rfl,i):=lO r;let C:=xk;let B:=X5;cases x with
 |str y=>let(t,rfl):=i;let(v,g):=e;subst g;show len_str () #[.int _,H,I.tok _,#[_,W],q]
 |byt y=>let(t,rfl):=i;let(v,g):=e;subst g;show PySem.W.len_bytes () #[.int _,H,I.tok _,#[_,W],q]
 |ref p=>
  ext i;let g:=e;rcases g with⟨xs,l,g⟩|⟨xs,l,g⟩
  .subst g;let(w,j,pl,o):=I.list l;let f:=j.length;show Calls.call_len_list pl.isList (by simp only[VY];ext) #[.int xs.length,H,I.tok _,#[_,by simp only[VY];rw[f]],q]
  .subst g;let(w,j,pl,o):=I.tuple l;let f:=j.length;show len_tuple pl (by simp only[VY];ext) #[.int xs.length,H,I.tok _,#[_,by simp only[VY];rw[f]],q]
 |_=>show(show False from e).elim
end
structure adT(h:Heap)(x dx C:M)(mA:Str->I B):Prop where
 obj:h.get? x=R (XS C dx)
 ns:h.Ns1 dx mA
 ne:dx≠x
def Fu{h:Heap}(n:h.Ns1 u r):∃c,h.get? u=R c/\∀name,aav name c=R (r name):=by
 let(o,f,p,i,l,j,_,hm):=n;show#[o,i,λname=>?_];let e:=hm name;unfold nsFind findBy at e;rw[<-aeo]at e;ext aav;rw[l];dsimp only;split
 .rename_i y q;rw[q]at e;show dP R e
 .rename_i q
  rw[q]at e;let a:f.toList.any (·.refKey)=VO:=by rw[List.any_eq_false];intro y g;let(z,t,b):=j y (Array.mem_toList_iff.mp g);simp[Zb.refKey,b]
  let m:¬f.toList.any (·.refKey)=P:=by rw[a];show VU
  rw[ax m];show dP R e
theorem adT.look(I:adT h x dx C mA):∃a,PySem.W.InstAt h x (XS C dx) C (R a)/\∀name,aav name a=R (mA name):=
 let#[a,b,e]:=Fu I.ns
 #[a,#[I.obj,W,W,b],e]
section
variable{T:V8}{w:Wv}{A:Wl}{E:Vu->VG->Prop}{s:VG}{K:Vs}{x S C f:VF}{Z:Str->bg Vu}{Y:Str}{v:Vu}
def MD(X:K.In s.heap)(I:adT s.heap x S C Z)(i:Y4 K C Y=P)(g:ZK K C=P)
  (c:WH K (.ref C) Y=R U) (b:Z Y=R v) (a:aep v=P) (h:Q v {s with toks:=s.toks+1}):
  wpAny (model T w) A (getAttr (.ref x) Y expr) Q E s:=by
 let(j,J,e):=I.look;show PySem.W.get_value X J (aaU i).1 (PySem.W.findObj_own g c W (by rw[e,b])) a h
def KH(X:K.In s.heap)(I:adT s.heap x S C Z)(a:Y4 K C Y=P)
  (j:WH K (.ref C) Y=R (R (.ref f))) (g:Yu K (.ref f)=P) (e:Z Y=U) (h:Q (.ref f,[.ref x]) s):
  wpAny (model T w) A (getMethod (.ref x) Y pl) Q E s:=by
 let(b,J,i):=I.look;show PySem.W.method_fn X J (aaU a).1 (aaU a).2 j (beq_iff_eq.mp g) (by show(aav Y b).map (·.isSome)=R VO;rw[i,e];rfl) h
def Mr(X:K.In s.heap)(I:adT s.heap x S C Z)
  (p:WH K (.ref C) "__setattr__"=R (R (.builtin "object.__setattr__"))) (q:abp K C=P) (o:abW K C Y=R U) (r:ZK K C=P)
  (n:adi Z ns) (d:ns.length<=VT)
  (h:∀c,adT c x S C (λy=>if y=Y then R v else Z y)->Heap.SameBut S s.heap c->Q ⟨⟩ {s with heap:=c,toks:=s.toks+2}):
  wpAny (model T w) A (setAttr (.ref x) Y v) Q E s:=by
 let(B,J,G):=I.look;show PySem.W.set_plain X J p (PySem.W.osa_open X J q o λb=>?_);let(H,t,j):=PySem.W.any_some r;let m:=I.obj;show Ld (VH (Ld (Ld (akt m (Ld (ah6 (PySem.W.looks_clsIn X t) ?_))))));rw[j];show VH (Ld (VH (Ld ?_)));show wpAny_nsSet1 I.ns λc e a=>?_;let(F,u,z,g,i,l):=e.count (ajj Y v n);show Ld (ah7 g (by rw[i];show ah8 (Wt l (by rw[V0];ext))) ?_);show VH (h _ #[(a.2 _ (dr I.ne)).trans I.obj,e,I.ne] a)
def KZ{R:abH->VG->Prop}{c:G B}{b:G (Str×B)}(X:K.In s.heap)(hm:abX K C=P)
  (k:WH K (.ref C) "__init__"=lD (lD (.ref f))) (e:aeZ K (.ref f)=lD (.type "function"))
  (h:codeAny (model T w) (A.under (.builtin "type.__call__" #[.ref C::c,b])) (.call (.ref f) #[.ref (s.heap.objs.size+1)::c,b]) (PySem.W.InitBack (s.heap.objs.size+1) R)
   {s with heap:=(s.heap.push Xk).push (XS C s.heap.objs.size)}):
  codeAny (model T w) A (.call (.ref C) #[c,b]) R s:=by
 let(j,g,d,t,i):=s;show PySem.W.make_core (PySem.W.makes_of X hm) (PySem.W.looks_findIn X k) (λa=>PySem.W.bind_fn X a e) (.inl W) h
end
def jR(f:Str)(v:V):G (Str×V)->G (Str×V)
 |[]=>[(f,v)]
 |(g,x)::r=>if g=f then(g,v)::r else(g,x)::jR f v r
theorem r9(f g:Str)(v:V):∀fs:G (Str×V),(jR f v fs).lookup g=if g=f then R v else fs.lookup g
 |[]=>by
  show Ye g [(f,v)]=_;by_cases h:g=f
  .let a:=beq_iff_eq.mpr h;simp only[Ye,a,av h]
  .let a:=beq_eq_false_iff_ne.mpr h;simp only[Ye,a,ax h]
 |(k,x)::r=>by
  let i:=r9 f g v r;rw[show jR f v ((k,x)::r)=(if k=f then(k,v)::r else(k,x)::jR f v r)from rfl];by_cases b:k=f
  .rw[av b]
   by_cases h:g=k
   .let a:=beq_iff_eq.mpr h;simp only[Ye,a,av (h.trans b)]
   .let a:=beq_eq_false_iff_ne.mpr h;simp only[Ye,a,ax (λe:g=f=>h (e.trans b.symm))]
  .rw[ax b]
   by_cases h:g=k
   .let a:=beq_iff_eq.mpr h;simp only[Ye,a,ax (λe:g=f=>b (h.symm.trans e))]
   .let a:=beq_eq_false_iff_ne.mpr h;simp only[Ye,a];show i
theorem ri(f:Str)(v:V):∀fs:G (Str×V),f∈(jR f v fs).map (·.1)/\∀g,g∈fs.map (·.1)->g∈(jR f v fs).map (·.1)
 |[]=>#[by simp[jR],λg h=>by simp at h]
 |(k,x)::r=>by
  let(i,b):=ri f v r;rw[show jR f v ((k,x)::r)=(if k=f then(k,v)::r else(k,x)::jR f v r)from rfl];by_cases a:k=f
  .rw[av a];subst a;show#[by simp,λg h=>by simpa using h]
  .rw[ax a]
   show#[?_,λg h=>?_]
   .rw[V1];show VX _ i
   .rw[V1]at h⊢
    rcases Wa.mp h with e|e
    .show Wa.mpr (.inl e)
    .show VX _ (b g e)
theorem r8(f:Str)(v:V):∀fs:G (Str×V),(jR f v fs).length<=fs.length+1
 |[]=>by simp[jR]
 |(k,x)::r=>by
  let b:=r8 f v r;rw[show jR f v ((k,x)::r)=(if k=f then(k,v)::r else(k,x)::jR f v r)from rfl];by_cases a:k=f
  .rw[av a,V0,V0];ext
  .rw[ax a,V0,V0];ext
def Z8.some_of(r:Z8 (R v) o):∃u,o=R u/\RelV v u:=by
 cases o with
 |none=>show(show False from r).elim
 |some u=>show#[u,W,r]
def Z8.none_of(r:Z8 U o):o=U:=by
 cases o with
 |none=>rfl
 |some u=>show(show False from r).elim
def Gk(r:RelV v u):aep u=P:=by
 cases v with
 |XX=>cases(show u=Vu.none from r);rfl
 |bl b=>cases(show u=Vu.bool b from r);rfl
 |int i=>let(t,e):=(show∃t,u=Vu.int i t from r);ext e;rfl
 |str x=>let(t,e):=(show∃t,u=Vu.str x t from r);ext e;rfl
 |byt b=>let(t,e):=(show∃t,u=Vu.bytes b t from r);ext e;rfl
 |flt b=>let(t,e):=(show∃t,u=Vu.float b t from r);ext e;rfl
 |ref a=>cases(show u=Vu.ref a from r);rfl
 |ty n=>cases(show u=Vu.type n from r);rfl
section
variable{P:V8}{w:Wv}{H X:Hp}{h T:Heap}{a C Z:VF}{fs Y:bb (Str×V)}
def xw(W6:HOk P w H h)(e:H a=R (.ins C Z fs)):∃c,adT h a Z C c/\(∀f,Z8 (fs.lookup f) (c f))/\adi c (fs.map (·.1))/\fs.length<=1000/\H Z=R (.own a):=by let(d,z,ne,b,c,n,r,q):=(show ObjOk P w H h a (.ins C Z fs)from W6 a _ e);show#[c,#[b,n,ne],r,q,z,d]
end
structure Cls(K:Vs)(C:M):Prop where
 pg:Y4 K C Str.empty=P
 hd:ZK K C=P
 po:abp K C=P
 sa:WH K (.ref C) "__setattr__"=R (R (.builtin "object.__setattr__"))
theorem Cls.get{K:Vs}(c:Cls K C)(f:Str):Y4 K C f=P:=c.pg
def ZS(K:Vs)(C:M)(f:Str):Prop:=WH K (.ref C) f=R U
def ZS.aiS{K:Vs}(n:ZS K C f):abW K C f=R U:=by ext abW;rw[show WH K (.ref C) f=R U from n];rfl
structure Con(K:Vs)(C:M)(f:Str)(v:V)(u:B):Prop where
 at_:WH K (.ref C) f=R (R u)
 rel:RelV v u
 get:YV K u "__get__"=R U
 cp:PySem.W.copiedNames.contains f=VO
structure Meth(K:Vs)(C:M)(m:Str)(f:M):Prop where
 at_:WH K (.ref C) m=R (R (.ref f))
 fn:Yu K (.ref f)=P
 kp:Xv K (.ref f)=P
section
variable{X:Cx}{Z:bb (VF×Obj)}{Y:St}{H:Hp}{s:VG}{a C T:VF}{fs:bb (Str×V)}{f:Str}{v:V}{A:Wl}{E:Vu->VG->Prop}
def Cl(I:Inv X Z Y H s)(e:H a=R (.ins C T fs))(c:Cls X.K C)(n:ZS X.K C f)(l:fs.lookup f=R v)
  (h:∀u d,Inv X Z Y H d->RelV v u->Q u d):wpAny (model X.prog X.w) A (getAttr (.ref a) f b) Q E s:=by
 let(j,O,r,_,_,_):=xw I.W6 e;let(u,i,g):=Z8.some_of (by rw[<-l];show r f);show MD I.kIn O (c.get f) c.hd n i (Gk g) (h u _ (I.tok _) g)
def uu(I:Inv X Z Y H s)(e:H a=R (.ins C T fs))(c:Cls X.K C)(k:Meth X.K C m g)(l:fs.lookup m=U)
  (h:Q (.ref g,[.ref a]) s):wpAny (model X.prog X.w) A (getMethod (.ref a) m pl) Q E s:=by
 let(b,O,r,_,_,_):=xw I.W6 e;let i:=Z8.none_of (by rw[<-l];show r m);show KH I.kIn O (c.get m) k.at_ k.fn i h
def Ck(I:Inv X Z Y H s)(e:H a=R (.ins C T fs))(c:Cls X.K C)(n:ZS X.K C f)(M:fs.length<1000)(t:RelV y u)
  (h:∀d,Inv X Z Y (bL H a (.ins C T (jR f y fs))) d->Q ⟨⟩ d):wpAny (model X.prog X.w) A (setAttr (.ref a) f u) Q E s:=by
 let(l,O,r,j,_,m):=xw I.W6 e;let B:(fs.map (·.1)).length<=VT:=by rw[Vw,X5];ext
 show Mr I.kIn O c.sa c.po n.aiS c.hd j B λL i p=>h _ ?_;let G:∃o,L.get? T=R o:=let#[o,_,_,w,_]:=i.ns;#[o,w]
 show I.write (by rw[e];show True.intro) (.inr m) (λb q J z=>(p.2 b J).trans z) G ?_;show#[by rw[aF O.ne];show m,?_,O.ne,i.obj,_,i.ns,λg=>?_,λg F=>?_]
 .let:=r8 f y fs;ext
 .show Z8 ((jR f y fs).lookup g) (if g=f then R u else l g)
  rw[r9];by_cases q:g=f
  .rw[av q,av q];show t
  .rw[ax q,ax q];show r g
 .by_cases q:g=f
  .rw[q];show(ri f y fs).1
  .show(ri f y fs).2 g (j g λz=>F ?_);show(if g=f then R u else l g)=U;rw[ax q];show z
def Inv.made(I:Inv X Z Y H s):Inv X Z Y (bL (bL H s.heap.objs.size (.own (s.heap.objs.size+1))) (s.heap.objs.size+1) (.ins C s.heap.objs.size []))
  {s with heap:=(s.heap.push Xk).push (XS C s.heap.objs.size)}:=by
 let g:(s.heap.push Xk).get? s.heap.objs.size=R Xk:=cj s.heap W;let l:((s.heap.push Xk).push (XS C s.heap.objs.size)).get? (s.heap.objs.size+1)=R (XS C s.heap.objs.size):=by let:=cj (s.heap.push Xk) (o:=XS C s.heap.objs.size) W;rwa [cw]at this
 let j:(s.heap.push Xk).Ns s.heap.objs.size (λ_=>U):=#[Xk,#v[],_,g,W,(λe i=>a5 i (by simp)),λ_=>W];let m:=I.laid (a:=s.heap.objs.size) (o:=.own (s.heap.objs.size+1)) (h':=s.heap.push Xk) (t':=s.toks) (λb u q=>br _ q) (VP _) #[_,g];show m.laid (a:=s.heap.objs.size+1) (o:=.ins C s.heap.objs.size []) (t':=s.toks) (λb u q=>br _ q) (ZF (cw _ _)) ?_;let ne:s.heap.objs.size≠s.heap.objs.size+1:=Wc (Zk _);show#[by rw[aF ne,aX],Wx _,ne,l,λ_=>U,(Heap.Ns1.of_empty j).at λo q=>br _ q,λ_=>True.intro,λy h=>a5 W h]
theorem Oc{prog:V8}{w:Wv}{env:Env}{e:WQ}{f:Str}{b:Pos}{s:VG}{Q:B->VG->Prop}(g:attributeBase e f env (eval e env)=eval e env)
  (h:wpAny (model prog w) A (eval e env) (λo c=>wpAny (model prog w) A (getAttr o f P) Q E c) E s):wpAny (model prog w) A (eval (.Attribute e f b) env) Q E s:=
 Attribute_any_ h (by rw[arm_eval_Attribute,g])
end
def RK(K:Vs)(g:TE)(f:Str):TE:=λe H Q=>g e H λx b=>∃a C h fs v,x=.ref a/\b a=R (.ins C h fs)/\Cls K C/\ZS K C f/\fs.lookup f=R v/\Q v b
def RO(K:Vs)(h g:TE)(f:Str):TS:=λD b H=>g b H λy i=>h b i λx e=>∃a C j fs,x=.ref a/\e a=R (.ins C j fs)/\Cls K C/\ZS K C f/\fs.length<1000/\
 D.nx b (bL e a (.ins C j (jR f y fs)))
section
variable{X:Cx}{o e Z:WQ}{f:Str}{T Y O:Pos}{U S:TE}
def b4(m:PE X e U)(p:attributeBase e f X.env (eval e X.env)=eval e X.env):PE X (.Attribute e f T) (RK X.K U f):=by intro b s g H Q I h;show Oc p (cR (m b s g H _ I h) λu E #[x,z,y,i,a,C,J,fs,v,r,t,c,n,l,q]=>?_);subst r;obtain rfl:=i;show Cl y t c n l λA B w j=>#[v,z,w,j,q]
def kR(d:PE X o U)(r:PE X Z S)(t:Xq Z (R (.Attribute o f Y)) T.line X.env=pure VO):PS X (.Assign [.Attribute o f Y] Z T) (RO X.K U S f):=by intro b s g H D I h;show acE (cR (r b s g H _ I h) λu i #[y,E,K,j,q]=>cR (d b i g E _ K q) λJ G #[x,L,A,m,a,C,N,fs,v,w,c,n,l,p]=>?_) t;subst v;obtain rfl:=m;show Ck A w c n l j λF z=>#[g,_,z,p]
end
section
variable{X:Cx}{Z:bb (VF×Obj)}{Y:St}{H:Hp}{s:VG}{A:Wl}{E:Vu->VG->Prop}{Q:Vu->VG->Prop}{c:Vu}{b:Bool}
inductive aci(K:Vs)(H:Hp):V->B->Prop where
 |XX:aci K H .XX (.type "NoneType")
 |bl (x:Bool):aci K H (.bl x) (.type "bool")
 |int (i:Int):aci K H (.int i) (.type "int")
 |str (x:Str):aci K H (.str x) (.type "str")
 |flt (x:UInt64):aci K H (.flt x) (.type "float")
 |lst {a:M} {xs:G V} (e:H a=R (.lst xs)):aci K H (.ref a) (.type "list")
 |frz {a:M} {o:Obj} {xs:G V} (e:H a=R (.frz o (.lst xs))):aci K H (.ref a) (.type "list")
 |tup {a:M} {xs:G V} (e:H a=R (.tup xs)):aci K H (.ref a) (.type "tuple")
 |dK {a:M} {Wf:G (c9×V)} (e:H a=R (.dK Wf)):aci K H (.ref a) (.type "dict")
 |dT {a:M} {Wf:G (G c9×V)} (e:H a=R (.dT Wf)):aci K H (.ref a) (.type "dict")
 |ins {a C dx:M} {fs:G (Str×V)} (e:H a=R (.ins C dx fs)) (cl:Cls K C) (ha:WH K (.ref C) "__class__"=R (R (.builtin "object.__class__")))
   (hn:YV K (.builtin "object.__class__") "__get__"=R (R (.builtin "getset_descriptor.__get__"))) (htk:PySem.W.takesIn K (.builtin "object.__class__")=R P)
   (hm:PySem.W.mroIn K C (.type "object")=R P):aci K H (.ref a) (.ref C)
end
structure X3(k:Nat)(A:Wl):Prop where
 hd:A.handled=U
 dp:A.depth+3*k+5<recursionLimit
 un:A.units+16*k+200<cLine
theorem X3.mono(r:X3 k A)(h:j<=k):X3 j A:=#[r.hd,by let:=r.dp;ext,by let:=r.un;ext]
theorem X3.deeper(r:X3 (k+1) A)(env:Env):X3 k (A.deeper env):=
 #[r.hd,by let:=r.dp;show A.depth+1+3*k+5<_;ext,by let:=r.un;show A.units+3+16*k+200<_;ext]
def Bs{A:Wl}:(A.under (.builtin "type.__call__" #[.ref C::us,kw])).depth=A.depth+1:=by
 first|rfl|simp[Wl.under,adH.weight,adH.isCreation,adH.isGuard,adH.isCaller,adH.frames,adH.isFrame,guardIds]
def CU{A:Wl}:(A.under (.builtin "type.__call__" #[.ref C::us,kw])).units=A.units+1:=by
 first|rfl|simp[Wl.under,adH.cUnits,adH.frames,adH.isFrame]
theorem X3.make(r:X3 (k+1) A)(C:M)(us:G B)(a:G (Str×B)):X3 k (A.under (.builtin "type.__call__" #[.ref C::us,a])):=
 #[r.hd,by let:=r.dp;rw[Bs];ext,by let:=r.un;rw[CU];ext]
def X3.depth(r:X3 k A):A.depth<recursionLimit:=by let:=r.dp;ext
def X3.units(r:X3 k A):A.units+64<cLine:=by let:=r.un;ext
def n9:TA:=λ_ H Q=>Q [] H
def iy(e:TE)(b:TA):TA:=λa H Q=>e a H λx g=>b a g λxs f=>Q (x::xs) f
section
variable{X:Cx}{e:WQ}{Y:bb WQ}{T:TE}{t:TA}{Z:Pos}
theorem aA:PA X [] n9:=λ_ _ _ _ H Q I h=>Calls.spliced_nil #[[],H,I,.nil,h]
def am(c:PE X e T)(n:PA X Y t)(m:We (e::Y) X.env=(VO,eval e X.env)::We Y X.env:=by rfl):PA X (e::Y) (iy T t):=by intro Z a s b H Q I h;rw[m];show Calls.spliced_cons (cR (c a s b H _ I h) λu f #[x,r,p,i,l]=>?_);show cR (n Z a f b r _ p l) λv w #[xs,q,o,g,j]=>#[x::xs,q,o,.cons i g,j]
def Sh(t:TA):TE:=λb H Q=>t b H λxs a=>xs.length<=VT/\∀p,a p=U->Q (.ref p) (bL a p (.tup xs))
def SI(t:TA):TE:=λb H Q=>t b H λxs a=>xs.length<=VT/\∀p,a p=U->Q (.ref p) (bL a p (.lst xs))
def gF{c}(h:PA X Y t):PE X (.Tuple Y c Z) (Sh t):=by intro a s i H Q I l;show wpAny_Tuple_spliced (cR (h Z a s i H _ I l) λj f #[xs,n,g,r,z,q]=>#[by rw[<-r.length];show z,?_]);let m:=g.W6.fresh (VP _);show#[.ref f.heap.objs.size,bL n f.heap.objs.size (.tup xs),g.laid (λb u e=>br _ e) (VP _) ?_,W,q _ m];show#[z,j,r,#[_,cj _ W,#[W,_,W],W]]
def jS(h:PA X Y t):PE X (.List Y Z) (SI t):=by intro a s i H Q I l;show wpAny_List_spliced (cR (h Z a s i H _ I l) λj f #[xs,n,g,r,z,q]=>#[by rw[<-r.length];show z,?_]);let m:=g.W6.fresh (VP _);show#[.ref f.heap.objs.size,bL n f.heap.objs.size (.lst xs),g.laid (λb u e=>br _ e) (VP _) ?_,W,q _ m];show#[z,j,0,r,cj _ W]
end
abbrev Sp:=G V->Hp->VK->XK->Prop
abbrev yW:=G Env->Hp->VG->XK->B->VG->Prop
structure Env0(P:V8)(w:Wv)(K:Vs)(mg:Str->I B)(base:Heap)(A:Wl)(outer:G Env)(s:VG)(H:Hp):Prop where
 frames:A.frames=R outer
 mod:Mod K mg base
 bs:∀b o,base.get? b=R o->s.heap.get? b=R o/\H b=U
 bsz:base.objs.size<=s.heap.objs.size
 abf:s.heap.FunFrames base outer
 frf:∀b∈zb outer,H b=U
 W6:HOk P w H s.heap
 bare:AllBare s.gens
def CE(outer:G Env)(P:V8)(w:Wv)(H:Hp)(s:VG)(Q:VK)(u:B)(a:VG):Prop:=
 ∃v b,a.os=s.os/\AllBare a.gens/\Un (zb outer) [] H b s.heap a.heap/\HOk P w b a.heap/\RelV v u/\Q v b
def CR(b:yW)(outer:G Env)(P:V8)(w:Wv)(H:Hp)(s:VG)(Q:VK)(E:XK)(r:abH)(a:VG):Prop:=
 match r with
 |.ok (.ret u)=>CE outer P w H s Q u a
 |.ok _=>False
 |.error e=>b outer H s E e a
structure FnOk(P:V8)(w:Wv)(K:Vs)(mg:Str->I B)(base:Heap)(CX:yW)(k:Nat)(f:M)(fd:WY)(ps:G Str)(sp:Sp):Prop where
 len:∀vs H Q E,sp vs H Q E->vs.length=ps.length
 run:∀(A:Wl) (outer:G Env) (s:VG) (H:Hp) (args:Args) (us:G B) (vs:G V) (Q:VK) (E:XK),X3 k A->Env0 P w K mg base A outer s H->aa3 s fd args (ps.zip us)->Vals vs us->sp vs H Q E->
  codeAny (model P w) A (.call (.ref f) args) (CR CX outer P w H s Q E) s
theorem FnOk.imp{P:V8}{w:Wv}{K:Vs}{p:Str->I B}{base:Heap}{g:yW}{k:Nat}{f:M}{fd:WY}{d:G Str}{sp b:Sp}(F:FnOk P w K p base g k f fd d sp)
  (h:∀c H Q E,b c H Q E->sp c H Q E):FnOk P w K p base g k f fd d b:=
 #[λc H Q E q=>F.len c H Q E (h _ _ _ _ q),λA a s H e i c Q E m n o j l=>F.run A a s H e i c Q E m n o j (h _ _ _ _ l)]
theorem Env0.make{K:Vs}(e:Env0 b w K mg base A outer s H)(C:M)(us:G B)(a:G (Str×B)):
  Env0 b w K mg base (A.under (.builtin "type.__call__" #[.ref C::us,a])) outer s H:=#[by first|show e.frames|(simpa [Wl.under,adH.envs,adH.isFrame,pushEnvs]using e.frames),e.mod,e.bs,e.bsz,e.abf,e.frf,e.W6,e.bare]
section
variable{X:Cx}{Z:bb (VF×Obj)}{Y:St}{H:Hp}{s U:VG}
theorem Inv.aho(I:Inv X Z Y H s):Env0 X.prog X.w X.K X.mg X.base X.A X.stack s H:=
 #[I.ok.frames,I.ok.mod,I.bs,Wt I.ok.bsz I.sz,I.stack,I.abz,I.W6,I.bare]
def Inv.after{Q:VK}{u:B}(I:Inv X Z Y H s)(h:CE X.stack X.prog X.w H s Q u U):EP X Z Y Q u U:=by let(v,j,f,a,un,W6,r,q):=h;let(i,g,d,t,e):=U;obtain rfl:e=s.os:=f;show#[v,j,I.call (h':=i) (g':=g) (d':=d) (t':=t) (ch:=[]) un W6 a (λb z=>a5 z (by simp)),r,q]
end
def lS(sp:Sp)(c:G V)(E:XK)(t:TA):TE:=λa H Q=>t a H λe b=>sp (e++c) b Q E
def wy(C:M)(m:Str)(sp:Sp)(c:G V)(E:XK)(f:TE)(t:TA):TE:=λb H Q=>f b H λx e=>∃a i fs,x=.ref a/\e a=R (.ins C i fs)/\fs.lookup m=U/\
 t b e λh g=>sp (x::(h++c)) g Q E
def A1(C:M)(sp:Sp)(c:G V)(E:XK)(t:TA):TE:=λb H Q=>t b H λg a=>∀x f,a x=U->a f=U->f≠x->
 sp (.ref x::(g++c)) (bL (bL a f (.own x)) x (.ins C f [])) (λv e=>v=.XX/\Q (.ref x) e) E
def Binds(K:Vs)(fd:WY)(b:G Str)(ds:G B):Prop:=
 ∀(s:VG) (a:G B),K.In s.heap->(a++ds).length=b.length->aa3 s fd #[a,[]] (b.zip (a++ds))
theorem Binds.all{K:Vs}{fd:WY}{b:G Str}(h:∀us:G B,us.length=b.length->bindArgs fd #[us,[]]=pure (b.zip us)):Binds K fd b []:=λs us _ a=>by rw[Wi]at a⊢;show .of_eq (h us a)
def gp(g:yW)(X:Cx)(E:XK):Prop:=∀(a:G (M×Obj)) (f:St) (H:Hp) (s:VG) (e:B) (b:VG),Inv X a f H s->g X.stack H s E e b->X.xe e b
section
variable{X:Cx}{Y:yW}{k:Nat}{f C:VF}{fd:WY}{ps:bb Str}{sp:Sp}{A:bb V}{ds:bb Vu}{E:XK}{x m:Str}{p T Z:Pos}{e o:WQ}{es:bb WQ}{U:TE}{t:TA}
def Cu{a:G (M×Obj)}{g:St}{H:Hp}{s:VG}{Q:VK}{us:G B}{vs:G V}(F:FnOk X.prog X.w X.K X.mg X.base Y k f fd ps sp)(n:X3 k X.A)(v:Binds X.K fd ps ds)(hd:Vals A ds)(l:gp Y X E)
  (I:Inv X a g H s) (r:Vals vs us) (h:sp (vs++A) H Q E):wpAny (model X.prog X.w) X.A (call (.ref f) us) (EP X a g Q) X.xe s:=by
 let i:Vals (vs++A) (us++ds):=r.append hd;let q:(us++ds).length=ps.length:=by rw[<-i.length];show F.len _ _ _ _ h
 show aa4 (aa5 (F.run X.A X.stack s H #[us,[]] (us++ds) (vs++A) Q E n I.aho (v s us I.kIn q) i h) λr j b=>?_);cases r with
 |error e=>show l a g H s e j I b
 |ok y=>
  cases y with
  |ret u=>show I.after b
  |next=>show False.elim b
  |brk=>show False.elim b
  |cont=>show False.elim b
def Ef(F:FnOk X.prog X.w X.K X.mg X.base Y k f fd ps sp)(n:X3 k X.A)(v:Gl X x)(hm:X.mg x=R (.ref f))(u:Xv X.K (.ref f)=P)(z:Binds X.K fd ps ds)(hd:Vals A ds)(l:gp Y X E)
  (c:PA X (e::es) t) (g:(x==("__debug__":Str))=VO:=by decide) (y:We (e::es) X.env=(VO,eval e X.env)::We es X.env:=by rfl) (b:(backTo T (We es X.env)).any (·.1)=VO:=by rfl):
  PE X (.Call (.Name x p) (e::es) [] T) (lS sp A E t):=by
 intro a s j H Q I h;show XY (ng I v hm ?_ g);show aa6 I.ok.mod.kin u (cR (c T a s j H _ I h) λB G #[w,J,i,r,q]=>#[i.kIn,?_]) y b;show Cu F n z hd l i r q
def Nr{pl:Sem Bool}(L:PE X o U)(c:Cls X.K C)(hm:Meth X.K C m f)(F:FnOk X.prog X.w X.K X.mg X.base Y k f fd ps sp)(J:X3 k X.A)(M:Binds X.K fd ps ds)(hd:Vals A ds)(B:gp Y X E)(d:PA X (e::es) t)
  (d5:We (e::es) X.env=(VO,eval e X.env)::We es X.env:=by rfl) (g:(backTo T (We es X.env)).any (·.1)=VO:=by rfl)
  (G:eval (.Call (.Attribute o m Z) (e::es) [] T) X.env=(do
   let K<-eval o X.env
   standAt Z.atName
   let(f,first)<-holding [K] (getMethod K m pl)
   callWith T f first (backTo T (We (e::es) X.env)) (backToKw T (keywordEach [] X.env))):=by rfl):
  PE X (.Call (.Attribute o m Z) (e::es) [] T) (wy C m sp A E U t):=by
 intro b s i H Q I h;show aar (pl:=pl) (cR (L b s i H _ I h) λu v #[x,w,n,y,a,dx,fs,N,O,l,q]=>?_) G;subst N;obtain rfl:u=Vu.ref a:=y;show uu n O c hm l ?_;show aa6 (first:=[.ref a]) (h₀:=X.base) I.ok.mod.kin hm.kp (cR (d T b v i w _ n q) λus R #[vs,S,j,r,z]=>#[j.kIn,?_]) d5 g;show Cu (us:=.ref a::us) (vs:=.ref a::vs) F J M hd B j (.cons W r) z
def Kx{pl:Sem Bool}(y:PE X o U)(c:Cls X.K C)(hm:Meth X.K C m f)(F:FnOk X.prog X.w X.K X.mg X.base Y k f fd ps sp)(v:X3 k X.A)(z:Binds X.K fd ps ds)(hd:Vals A ds)(n:gp Y X E)
  (r:eval (.Call (.Attribute o m Z) [] [] T) X.env=(do
   let K<-eval o X.env
   standAt Z.atName
   let(f,first)<-holding [K] (getMethod K m pl)
   callWith T f first (backTo T (We [] X.env)) (backToKw T (keywordEach [] X.env))):=by rfl):
  PE X (.Call (.Attribute o m Z) [] [] T) (wy C m sp A E U n9):=by
 intro b s i H Q I h;show aar (pl:=pl) (cR (y b s i H _ I h) λu J #[x,L,g,j,a,N,fs,w,G,l,q]=>?_) r;subst w;obtain rfl:u=Vu.ref a:=j;show uu g G c hm l ?_;show PySem.W.callWith_K0 (first:=[.ref a]) g.kIn hm.kp (Cu (us:=[.ref a]) (vs:=[.ref a]) F v z hd n g (.cons W .nil) q)
structure Mk(K:Vs)(C f:M):Prop where
 makes:abX K C=P
 init:WH K (.ref C) "__init__"=R (R (.ref f))
 fn:Yu K (.ref f)=P
 kp:Xv K (.ref C)=P
def Kv(M:Mk X.K C f)(F:FnOk X.prog X.w X.K X.mg X.base Y k f fd ps sp)(q:X3 (k+1) X.A)(z:Binds X.K fd ps ds)(hd:Vals A ds)
  (n:gp Y X E) (I:Inv X pins σ H s) (r:Vals w us)
  (h:∀x c,H x=Vt->H c=Vt->c≠x->sp (.ref x::(w++A)) (bL (bL H c (.own x)) x (.ins C c [])) (λv d=>v=.XX/\Q (.ref x) d) E):
  wpAny (model X.prog X.w) X.A (call (.ref C) us) (EP X pins σ Q) X.xe s:=by
 let i:=h (s.heap.objs.size+1) s.heap.objs.size (I.W6.fresh (acr _)) (I.W6.fresh (VP _)) (Wc (Zk _));let b:=Inv.made (C:=C) I;let g:Vals (V.ref (s.heap.objs.size+1)::(w++A)) (Vu.ref (s.heap.objs.size+1)::(us++ds)):=.cons W (r.append hd);let y:(Vu.ref (s.heap.objs.size+1)::us++ds).length=ps.length:=by let e:=g.length;rw[F.len _ _ _ _ i]at e;show e.symm
 show aa4 (KZ I.kIn M.makes M.init (beq_iff_eq.mp M.fn) (aa5 (F.run _ X.stack _ _ #[Vu.ref (s.heap.objs.size+1)::us,[]] (Vu.ref (s.heap.objs.size+1)::(us++ds)) _ _ E (q.make C us [])
  (b.aho.make C us []) (z _ (Vu.ref (s.heap.objs.size+1)::us) b.kIn y) g i) λr j a=>?_))
 cases r with
 |error e=>show n pins σ _ _ e j b a
 |ok B=>
  cases B with
  |ret u=>let(v,J,G,K,ev,l):=b.after a;subst ev;show#[K,#[V.ref (s.heap.objs.size+1),J,G,W,l]]
  |next=>show False.elim a
  |brk=>show False.elim a
  |cont=>show False.elim a
def Mp(M:Mk X.K C f)(F:FnOk X.prog X.w X.K X.mg X.base Y k f fd ps sp)(n:X3 (k+1) X.A)(u:Gl X x)(hm:X.mg x=R (.ref C))(y:Binds X.K fd ps ds)(hd:Vals A ds)(l:gp Y X E)
  (c:PA X (e::es) t) (g:(x==("__debug__":Str))=VO:=by decide) (v:We (e::es) X.env=(VO,eval e X.env)::We es X.env:=by rfl) (b:(backTo T (We es X.env)).any (·.1)=VO:=by rfl):
  PE X (.Call (.Name x p) (e::es) [] T) (A1 C sp A E t):=by
 intro a s j H Q I h;show XY (ng I u hm ?_ g);show aa6 I.ok.mod.kin M.kp (cR (c T a s j H _ I h) λz B #[w,G,i,r,q]=>#[i.kIn,?_]) v b;show Kv M F n y hd l i r q
end
section
variable{X:Cx}{Q:yW}{k:Nat}{f C:VF}{fd:WY}{ps ks:bb Str}{O:Sp}{E:XK}{x m:Str}{p Y Z T:Pos}{e o:WQ}{N:bb WQ}{S:bb acv}{L J:TE}{t H:TA}{A:bg Str}
structure akL(K:Vs)(fd:WY)(ps ks:G Str)(g:G B->G B->G B)(gV:G V->G V->G V):Prop where
 to:∀(s:VG) (us ws:G B),K.In s.heap->(g us ws).length=ps.length->aa3 s fd #[us,ks.zip ws] (ps.zip (g us ws))
 rel:∀{vs:G V} {us:G B} {zs:G V} {ws:G B},Vals vs us->Vals zs ws->Vals (gV vs zs) (g us ws)
variable{g:bb Vu->bb Vu->bb Vu}{K:bb V->bb V->bb V}
end
structure Yk(N P:G Str)(sc:YH):Prop where
 kind:sc.kind=.function
 co:sc.isCoroutine=VO
 gen:sc.isGenerator=VO
 nd:N.Nodup
 pre:N.take P.length=P
 par:∀x∈P,sc.names.lookup x=R .local\/sc.names.lookup x=R .cell
 ahh:∀y∈sc.names,y.2≠.free
theorem wL{a:Str->I Wn}:∀{binds:G (Str×B)} {m:Str->I B},(∀v,(x,v)∉binds)->bindL a binds m x=m x
 |[],_,_=>rfl
 |(n,v)::r,m,h=>by
  ext bindL;rw[wL λw b=>h w (VX _ b)];split
  .let:x≠n:=by rintro rfl;show h v VV
   simp[this]
  .rfl
theorem wu{a:Str->I Wn}:∀{binds:G (Str×B)} {m:Str->I B},(∀v,(x,v)∉binds)->bindC a binds m x=m x
 |[],_,_=>rfl
 |(n,v)::r,m,h=>by
  ext bindC;rw[wu λw b=>h w (VX _ b)];split
  .rfl
  .let:x≠n:=by rintro rfl;show h v VV
   simp[this]
theorem wP{kindOf:Str->I Wn}:∀{a:G Str} {b:G B} {i:Nat} {m:Str->I B},a.Nodup->a[i]?=R x->b[i]?=R v->kindOf x=R .local->
  bindL kindOf (a.zip b) m x=R v
 |[],_,_,_,_,h,_,_=>by simp at h
 |_::_,[],_,_,_,_,h,_=>by simp at h
 |p::a,w::b,0,m,nd,f,e,g=>by simp at f e;subst f;subst e;show bindL kindOf ((p,w)::a.zip b) m p=_;ext bindL;rw[wL λv j=>(Xp.mp nd).1 (Zq j).1,av g];simp
 |p::a,w::b,i+1,m,nd,f,e,g=>by ext bindL;show wP (Xp.mp nd).2 (by simpa using f) (by simpa using e) g
theorem wc{kindOf:Str->I Wn}:∀{a:G Str} {b:G B} {i:Nat} {m:Str->I B},a.Nodup->a[i]?=R x->b[i]?=R v->kindOf x≠R .local->
  bindC kindOf (a.zip b) m x=R v
 |[],_,_,_,_,h,_,_=>by simp at h
 |_::_,[],_,_,_,_,h,_=>by simp at h
 |p::a,w::b,0,m,nd,f,e,g=>by simp at f e;subst f;subst e;show bindC kindOf ((p,w)::a.zip b) m p=_;ext bindC;rw[wu λv j=>(Xp.mp nd).1 (Zq j).1,ax g];simp
 |p::a,w::b,i+1,m,nd,f,e,g=>by ext bindC;show wc (Xp.mp nd).2 (by simpa using f) (by simpa using e) g
def start(N:G Str)(a:G V):St:=a.map R++VR (N.length - a.length) U
def gw(i:yW)(P:V8)(w:Wv)(K:Vs)(c:Str->I B)(base:Heap)(N:G Str)(b:Str)(a:YH)(f:M)(h:B)(A:Wl)(outer:G Env)(s:VG)(H:Hp)(E:XK):Cx where
 prog:=P
 w:=w
 K:=K
 mg:=c
 base:=base
 A:=A.deeper (envOfC b a s.heap.objs.size f h)
 N:=N
 s₀:=s
 H₀:=H
 env:=envOfC b a s.heap.objs.size f h
 outer:=outer
 stack:=envOfC b a s.heap.objs.size f h::outer
 ex:=[]
 calm:=Vx
 fn:=λ_=>Vx
 pn:=[]
 xe:=λe j=>wpAny (model P w) (A.deeper (envOfC b a s.heap.objs.size f h)) (leaving (envOfC b a s.heap.objs.size f h) e) (λ_ g=>i outer H s E e g) (λl g=>i outer H s E l g) j
def Ba{a:YH}(h:a.names.lookup x=R .cell):∃c,(XU n a.names []).lookup x=R c:=by let q:=YW a.names n [] (.inl h);show acF.mp q
def Gw{K:Vs}
  (S:Yk N O scope) (hd:A.handled=U) (e0:Env0 J w K T base A outer s H) (G:L.length=O.length) (r:Vals L us)
  (x:InCallC s s.heap.objs.size (bindL (envOfC qual scope s.heap.objs.size f cd).kindOf (O.zip us) λ_=>U) (XU (s.heap.objs.size+1) scope.names []) (bindC (envOfC qual scope s.heap.objs.size f cd).kindOf (O.zip us) λ_=>U) s1):
  Inv (gw Z J w K T base N qual scope f cd A outer s H E) [] (start N L) H s1:=by
 let C:O.length<=N.length:=by let:=dP ZV S.pre;rw[W2]at this;ext
 let(o,F,rfl,B):=x.done;let j:∀b:M,b∉(gw Z J w K T base N qual scope f cd A outer s H E).ex:=λb z=>a5 (show b∈([]:bb M)from z) (by simp);show#[#[e0.mod,S.kind,W,W,VP _,λy z c o g=>?_,λy l=>?_,λy c _ h=>?_,λ_=>hd,Wl.frames_deeper e0.frames,.inr #[W,W],λb z=>a5 z (j b),e0.bs,e0.bsz,λb _ _=>j b,λb z=>a5 z (j b),e0.abf,e0.frf],
  W,e0.bare,Un.kept B,#[_,x.toInCall.ns,λi y v o g I=>?_],λy c h=>#[_,x.cell y c h],e0.W6.fresh (VP _),λy c h=>?_,λp n=>a5 (show p∈([]:bb (M×Obj))from n) (by simp),e0.W6.kept B,?_]
 .show name_of_addr x.apart (XJ o) (XJ g)
 .let l:=l
  rcases l with l|l
  .show Ba l
  .show a5 W (S.ahh _ (XJ l))
 .show ZE (x.above y c (XJ h))
 .let Q:i<L.length:=by
   unfold start at g;by_cases Q:i<L.length
   .show Q
   .rw[Wk (by simpa using Q)]at g;rw[X8]at g;split at g<;>ext g
  let Y:L[i]?=R v:=by
   unfold start at g;rw[VQ (by simpa using Q),VN]at g;cases e:L[i]? with
   |none=>rw[e]at g;ext g
   |some a=>rw[e]at g;ext g;rfl
  let(u,t,X):=r.get Y;let n:O[i]?=R y:=by rw[<-S.pre,List.getElem?_take_of_lt ()];show o
  let m:O.Nodup:=by rw[<-S.pre];show S.nd.sublist (List.take_sublist _ _)
  show#[u,X,?_];rcases S.par y (VS n)with k|k
  .show .inl #[k,wP m n t k]
  .let(c,e):=Ba k;show .inr #[.inl k,c,e,?_];let q:=x.cell y c e;rw[wc m n t (by show scope.names.lookup y≠_;rw[k];decide)]at q;show q
 .show e0.W6.fresh (ZE (x.above y c (XJ h)))
 .ext start;show _=N.length;rw[Vy,Vw,Wu];ext
def Il{m:yW}{P:V8}{w:Wv}{K:Vs}{l:Str->bg B}{base:Heap}{k:Nat}{f:M}{name qual:Str}{params:Arguments}{body:G X2}{scope:YH}{dV kV doc pm g ct T:B}{an F:bg M}
  {C:Array (bg B)} {N j:G Str} {sp:Sp} (X:K.lookup f=R #[T,F,.func (Xl name qual params body scope dV kV doc pm an g ct),C]) (D:Zv K g qual=Vx) (S:Yk N j scope)
  (len:∀c H Q E,sp c H Q E->c.length=j.length)
  (YE:∀(A:Wl) (outer:G Env) (s:VG) (H:Hp) (c:G V) (Q:VK) (E:XK),X3 k (A.deeper (envOfC qual scope s.heap.objs.size f g))->sp c H Q E->
   ∃t,PSs (gw m P w K l base N qual scope f g A outer s H E) body t/\t {nx:=λ_ d=>Q .XX d,rt:=Q} (start N c) H):
  FnOk P w K l base m (k+1) f (Xl name qual params body scope dV kV doc pm an g ct) j sp:=by
 show#[len,λA outer s H args us c Q E L e0 hb r i=>?_];let hl:=len _ _ _ _ i;let O:K.In s.heap:=e0.mod.kin.keeps λb o e=>(e0.bs b o e).1;let lim:s.heap.NoLimit:=e0.mod.nolimit.keeps λb o e=>(e0.bs b o e).1;let Zi:∀y∈j.zip us,scope.names.lookup y.1=R .local\/(scope.names.lookup y.1=R .cell/\((XU (s.heap.objs.size+1) scope.names []).lookup y.1).isSome=Vx):=λ#[n,v] Y=>by
  rcases S.par n (Zq Y).1 with q|q
  .show .inl q
  .show .inr #[q,YW _ _ _ (.inl q)]
 show codeAny_call_function L.depth (O _ _ X) W S.co S.gen W (PySem.W.codeRec_of O D) (hb _ _ _ _ ?_);show wpAny_newFunctionEnv_cells S.kind Zi λenv he s1 x=>?_;subst he;show#[lim.keeps x.toInCall.keep,codeAny_func ?_];let(t,Z,hq):=YE A outer s H c Q E (L.deeper _) i;let I:Inv (gw m P w K l base N qual scope f g A outer s H E) [] (start N c) H s1:=Gw S L.hd e0 hl r x;show wpAny_mono (Z [] s1 (start N c) H _ I hq) (λfl p h=>?_) λe p h=>h
 let fin:∀{a:St} {d:Hp} {v:V} {u:B},Inv (gw m P w K l base N qual scope f g A outer s H E) [] a d p->RelV v u->Q v d->CE outer P w H s Q u p:=
  λ{a d v u} J z q=>#[v,d,J.os,J.bare,J.base,J.W6,z,q]
 cases fl with
 |ret u=>let(v,a,d,J,z,q):=h;show fin J z q
 |next=>let(a,d,J,q):=h;show fin (v:=V.XX) (u:=Vu.none) J W q
 |brk=>let(_,_,_,q):=h;show False.elim q
 |cont=>let(_,_,_,q):=h;show False.elim q
section
variable{X:Cx}{x:Str}{p Z:Pos}{e:WQ}{Y:bb WQ}{t:TA}{S T:String}{r:bb V->Hp->VK->Prop}
def Oh(r:G V->Hp->VK->Prop)(t:TA):TE:=λa H Q=>t a H λf b=>r f b Q
def ce(u:YM X (.builtin S) r)(o:Gl X x)(hm:X.mg x=U)(n:Xb x=R (.builtin S))(d:PA X (e::Y) t)(c:x≠ "__name__":=by decide)(f:(x==("__debug__":Str))=VO:=by decide)
  (q:We (e::Y) X.env=(VO,eval e X.env)::We Y X.env:=by rfl) (b:(backTo Z (We Y X.env)).any (·.1)=VO:=by rfl):PE X (.Call (.Name x p) (e::Y) [] Z) (Oh r t):=by
 intro a s g H Q I h;show XY (pz I o hm n ?_ c f);show ajk (cR (d Z a s g H _ I h) λi j #[y,w,v,l,m]=>u a j g w y i Q v l m) q b
def di(u:YM X (.type T) r)(o:Gl X x)(hm:X.mg x=U)(n:Xb x=R (.type T))(d:PA X (e::Y) t)(c:x≠ "__name__":=by decide)(f:(x==("__debug__":Str))=VO:=by decide)
  (q:We (e::Y) X.env=(VO,eval e X.env)::We Y X.env:=by rfl) (b:(backTo Z (We Y X.env)).any (·.1)=VO:=by rfl):PE X (.Call (.Name x p) (e::Y) [] Z) (Oh r t):=by
 intro a s g H Q I h;show XY (pz I o hm n ?_ c f);show XD (cR (d Z a s g H _ I h) λi j #[y,w,v,l,m]=>u a j g w y i Q v l m) q b
end
end L2
namespace HT
open PySem PyProof.Rows
section
open PySem.SeqAt
open PySem.AutoSeq1 (wpAny_loadPart')
open PySem.MeetsSeq PySem.MeetsSeq2 PySem.MeetsSeq3
end
section
variable{Z:V8}{w:Wv}{A:Wl}{E:Vu->VG->Prop}{s:VG}
def cat_tup{t b:M}{c ws:G Vu}{Q:Vu->VG->Prop}(v:IsTup s.heap t c.toArray)(y:IsTup s.heap b ws.toArray)(q:c≠[])
  (B:ws=[]->Q (.ref t) s) (z:ws≠[]->Q (.ref s.heap.objs.size) {s with heap:=s.heap.push {cls:=.type "tuple",data:=.seq (c++ws).toArray}})
  (d:c.length+ws.length<=VT):wpAny (model Z w) A (Xz .Add (.ref t) (.ref b)) Q E s:=by
 let((cls,dd,data,o),l,u,n,r):=id v;let((C,i,m,f),a,h,p,g):=id y;simp only at u r h g;subst u r h g;let e:c.toArray++ws.toArray=(c++ws).toArray:=by simp
 by_cases j:ws=[]
 .show ae0 #[_,l,W] #[_,a,W] acO aeq aag ZW (ZN _ _)
   (tuple_addW1 t b c.toArray ws.toArray n p dd i o f (by simpa using q) (by simp[j])) #[l,a,B j]
 .show ae0 #[_,l,W] #[_,a,W] acO aeq aag ZW (ZN _ _)
   (tuple_addW2 t b c.toArray ws.toArray n p dd i o f (by simpa using q) (by simpa using j) (by rw[VY,VY];show d)) #[l,a,?_]
  rw[e];show z j
def sIx(n d:Nat):I Int->Nat
 |none=>d
 |some v=>if v<0 then(v+(n:Int)).toNat else min v.toNat n
theorem sIx_none(n d:Nat):sIx n d U=d:=W
def sIx_nat(n d k:Nat):sIx n d (R (k:Int))=min k n:=by show(if(k:Int)<0 then((k:Int)+(n:Int)).toNat else min (k:Int).toNat n)=min k n;rw[ax (),W0]
def R9(n d:Nat)(hd:d<=n)(o:I Int):sIx n d o<=n:=by
 cases o with
 |none=>show hd
 |some v=>
  show(if v<0 then(v+(n:Int)).toNat else min v.toNat n)<=n;by_cases a:v<0
  .rw[av a];ext
  .rw[ax a];show acb _ _
def DM(v:Int)(n d:Nat):(if v<0 then max (v+(n:Int)) 0 else min v (n:Int))=((sIx n d (R v):Nat):Int):=by
 show(if v<0 then max (v+(n:Int)) 0 else min v (n:Int))=(((if v<0 then(v+(n:Int)).toNat else min v.toNat n):Nat):Int);by_cases a:v<0
 .simp only[av a];ext
 .simp only[ax a];ext
def Ch(lo b:I Int)(n:Nat):Builtin.Slice.sliceAdjust lo b 1 (n:Int)=(((sIx n 0 lo:Nat):Int),((sIx n n b:Nat):Int)):=by
 let a:¬((1:Int)<0):=by ext
 ext Builtin.Slice.sliceAdjust;simp only[a,if_false];show Prod.ext ?_ ?_
 .cases lo with
  |none=>rfl
  |some v=>show DM v n 0
 .cases b with
  |none=>rfl
  |some v=>show DM v n n
def Dc(i j:Nat):Builtin.Slice.slicePlaces (i:Int) (j:Int) 1=j - i:=by
 ext Builtin.Slice.slicePlaces;let a:(1:Int)>0:=by ext
 simp only[a,if_true,ah9];split<;>ext
def jx(p:aaw v o)(h:Q o s):wpAny (model Z w) A (Builtin.Slice.slicePartIndex v) Q E s:=by
 cases p with
 |none=>show slicePart_none h
 |int i t=>show slicePart_int h
def kh{lo c:I Int}{Q:Int×Int×Nat->VG->Prop}(f:s.heap.IsSliceOf m l j .none)(pl:aaw l lo)(e:aaw j c)
  (h:Q (((sIx n 0 lo:Nat):Int),1,sIx n n c - sIx n 0 lo) s):wpAny (model Z w) A (Builtin.Slice.sliceApplied (.ref m) (pure (n:Int))) Q E s:=by
 let(i,a,g,b):=id f;unfold Builtin.Slice.sliceApplied Builtin.Slice.sliceFields;show Ld (Ld (Wm a b W (Ld (Wm a b W (Ld (Wm a b W (VH ?_)))))));show Ld (slicePart_none ?_);rw[ax ()];show Ld (jx pl (Ld (jx e (Ld (VH ?_)))));show wpAny _ _ (match Builtin.Slice.sliceAdjust lo c 1 (n:Int)with|(lo,c)=>pure (lo,(1:Int),Builtin.Slice.slicePlaces lo c 1)) _ _ s;rw[Ch lo c n];show wpAny _ _ (pure (((sIx n 0 lo:Nat):Int),(1:Int),Builtin.Slice.slicePlaces ((sIx n 0 lo:Nat):Int) ((sIx n n c:Nat):Int) 1)) _ _ s;rw[Dc];show VH h
def JJ(xs:Array B)(i k:Nat):((VI k).filterMap λ(m:Nat)=>xs[((i:Int)+(m:Int)*1).toNat]?).toArray=((xs.toList.drop i).take k).toArray:=by
 let e:(λ(m:Nat)=>xs[((i:Int)+(m:Int)*1).toNat]?)=λm=>xs[i+m]? :=by
  funext m;let:((i:Int)+(m:Int)*1).toNat=i+m:=by ext
  rw[this]
 rw[e];let:=pick_run xs i k;rw[aeK]at this;let a:((λx=>xs[x]?)∘λx=>i+x)=λm=>xs[i+m]? :=W;rw[a]at this;rw[this]
def getItem_tuple_cut{lo c:I Int}(b:IsTup s.heap t items)(j:s.heap.IsSliceOf v z y .none)(pl:aaw z lo)(l:aaw y c)
  (n:¬(sIx items.size 0 lo=0/\sIx items.size items.size c=items.size))
  (h:Q (.ref s.heap.objs.size) {s with heap:=s.heap.push {cls:=.type "tuple",data:=.seq ((items.toList.drop (sIx items.size 0 lo)).take (sIx items.size items.size c - sIx items.size 0 lo)).toArray}})
  (d:items.size<=VT):wpAny (model Z w) A (getItem (.ref t) (.ref v)) Q E s:=by
 let a:sizeOk (.seq ((items.toList.drop (sIx items.size 0 lo)).take (sIx items.size items.size c - sIx items.size 0 lo)).toArray):=by show((items.toList.drop (sIx items.size 0 lo)).take (sIx items.size items.size c - sIx items.size 0 lo)).toArray.size<=VT;rw[VY,W2,Zj,Ww];ext
 let u:sIx items.size items.size c<=items.size:=R9 _ _ (VP _) c;let(m,e,g,o):=id j;let i:s.TypeIs (.ref v) "slice":=#[m,e,g];ext getItem
 try specialize W4 ?_
 first|show Ld (VH ?_)|skip
 show Ld (acw b.typeIs () ?_);show Ld (W7 b.typeIs Wz
  (XG Wz b.typeIs entry_tuple_getitem ?_ (args_tuple_getitem _ _)))
 show wpAny _ _ (Builtin.Tuple.tupleItemsOf (.ref t)>>=_) _ _ s;show Ld (tupleItemsOf_ b ?_);show Ld (YR i ?_);rw[av ()];show Ld (kh j pl l ?_);let f:¬((((sIx items.size 0 lo:Nat):Int)==0&&(1:Int)==1&&(sIx items.size items.size c - sIx items.size 0 lo)==items.size)=P):=by intro q;rw[V9,V9]at q;let r:=eq_of_beq q.1.1;let p:=eq_of_beq q.2;show n #[by ext,by ext]
 show wpAny _ _ (if(((sIx items.size 0 lo:Nat):Int)==0&&(1:Int)==1&&(sIx items.size items.size c - sIx items.size 0 lo)==items.size)=P then _ else _) _ _ s;rw[ax f,JJ]
 first
  |show Ld (WG (VH #[_,W,VH h]) a)
  |show Ld (WG (Ld (VH (VH #[_,W,VH h]))) a)
  |show Ld (Ld (WG (VH (VH #[_,W,VH h])) a))
  |show Ld (Ld (WG (VH #[_,W,VH h]) a))
end
end HT
namespace L2
open PySem PySem.Spec PyProof.Rows
abbrev TO:=St->Hp->(I Int->Hp->Prop)->Prop
def PO(X:Cx)(e:I WQ)(t:TO):Prop:=
 ∀(a:G (M×Obj)) (s:VG) (b:St) (H:Hp) (Q:I Int->Hp->Prop),Inv X a b H s->t b H Q->
  wpAny (model X.prog X.w) X.A (evalPart e X.env) (λu f=>∃o g,Inv X a b g f/\aaw u o/\Q o g) X.xe s
def Fa:TO:=λ_ H Q=>Q U H
def Hz(t:TE):TO:=λa H Q=>t a H λx b=>∃i,x=.int i/\Q (R i) b
def kM:∀{us:G B},Vals (ns.map V.int) us->IntsAre us ns:=by
 induction ns with
 |nil=>intro us r;rw[YZ]at r;ext r;show .nil
 |cons n ns f=>
  intro us r;rw[V1]at r;cases r with
  |cons b a=>let(t,e):=b;subst e;show .cons n t (f a)
section
variable{X:Cx}{e:WQ}{U:TE}{Z Y:bg WQ}{S R:TO}{pos P:Pos}
def xG:PO X Vt Fa:=by intro a s b H Q I h;rw[aer];show VH #[Vt,H,I,.none,h]
def yA(h:PE X e U):PO X (lD e) (Hz U):=by intro a s b H Q I j;rw[evalPart_some];show cR (h a s b H _ I j) λu n #[x,m,l,f,g]=>?_;let(i,rfl,q):=g;let(t,rfl):=f;show#[lD i,m,l,.int i t,q]
def Sr(X:Cx)(r:V->I Int->I Int->Hp->VK->Prop):Prop:=
 ∀(a:G (M×Obj)) (s:VG) (b:St) (H:Hp) (x:V) (v g f:B) (Z Y:I Int) (h:M) (Q:VK),Inv X a b H s->RelV x v->s.heap.IsSliceOf h g f .none->aaw g Z->aaw f Y->r x Z Y H Q->
  ∃T id,typeLookup (.type T) "__getitem__"=pure (lD (.builtin id))/\s.TypeIs v T/\wpAny (model X.prog X.w) X.A (getItem v (.ref h)) (EP X a b Q) X.xe s
def U4(r:V->I Int->I Int->Hp->VK->Prop)(U:TE)(S R:TO):TE:=λa H Q=>U a H λx g=>S a g λl f=>R a f λu b=>r x l u b Q
def uJ{r:V->bg Int->bg Int->Hp->VK->Prop}(F:Sr X r)(K:PE X e U)(G:PO X Z S)(C:PO X Y R):PE X (.Subscript e (.Slice Z Y Vt P) pos) (U4 r U S R):=by intro a s g H Q I h;show Subscript_ (cR (K a s g H _ I h) λv o #[x,H1,A,p,z]=>?_);show wpAny_Slice (cR (G a o g H1 _ A z) λj n #[l,H2,O,pl,y]=>cR (C a n g H2 _ O y) λi f #[u,m,N,w,t]=>?_);rw[aer];show VH ?_;let M:Inv X a g m {f with heap:=f.heap.push {cls:=.type "slice",data:=.fields #v[j,i,.none]}}:=N.kept (t':=f.toks) λb ob q=>br _ q;let(T,id,L,E,J):=F a {f with heap:=f.heap.push {cls:=.type "slice",data:=.fields #v[j,i,.none]}} g m x v j i l u f.heap.objs.size Q M p (Heap.IsSliceOf.new ..) pl w t;show wpAny (model X.prog X.w) X.A (subscriptTail e (.Slice Z Y Vt P) v (.ref f.heap.objs.size)) (EP X a g Q) X.xe {f with heap:=f.heap.push {cls:=.type "slice",data:=.fields #v[j,i,.none]}};show tail_any (ops:=[.ref f.heap.objs.size,v]) E L J (by with_unfolding_all rfl)
def GB(xs:G V)(Z Y:I Int):G V:=(xs.drop (HT.sIx xs.length 0 Z)).take (HT.sIx xs.length xs.length Y - HT.sIx xs.length 0 Z)
def rZ(xs:G V)(Z Y:I Int):(GB xs Z Y).length<=xs.length:=by ext GB;rw[W2,Zj];ext
def Tt(K:Vs):V->I Int->I Int->Hp->VK->Prop:=λx Z Y H Q=>∃a xs,x=.ref a/\ZQ K H a xs/\
 ¬(HT.sIx xs.length 0 Z=0/\HT.sIx xs.length xs.length Y=xs.length)/\∀p,H p=Vt->Q (.ref p) (bL H p (.tup (GB xs Z Y)))
def QZ:Sr X (Tt X.K):=by
 intro g s u H x v y w Z Y z Q I l p pl m h;let(a,xs,rfl,n,o,q):=h;ext l;let(t,r,j,i):=I.tuple n;let f:t.toArray.size=xs.length:=by rw[VY];show r.length.symm
 show#["tuple",_,Wz.lookup,j.typeIs,?_];show HT.getItem_tuple_cut j p pl m (by rw[f];show o) ?_ (by rw[f];show i);rw[f];show#[.ref s.heap.objs.size,_,I.laid (λb A q=>br _ q) (VP _) ?_,W,q _ (I.W6.fresh (VP _))];show#[Wt (rZ xs Z Y) i,_,(r.drop (HT.sIx xs.length 0 Z)).take (HT.sIx xs.length xs.length Y - HT.sIx xs.length 0 Z),abM.new _ _]
def OO(K:Vs):R2:=λx y H Q=>∃a b xs f,x=.ref a/\y=.ref b/\ZQ K H a xs/\ZQ K H b f/\xs≠[]/\xs.length+f.length<=VT/\
 (f=[]->Q (.ref a) H)/\(f≠[]->∀p,H p=Vt->Q (.ref p) (bL H p (.tup (xs++f))))
def Vals.acW(r:Vals xs us):us=[]↔xs=[]:=by
 cases r with
 |nil=>simp
 |cons _ _=>simp
def Np:OpR X (Xz .Add) (OO X.K):=by intro i s B H x y v u Q I m l h;let(a,b,xs,C,rfl,rfl,J,t,r,j,o,n):=h;ext m;ext l;let(F,g,p,_):=I.tuple J;let(A,f,P,_):=I.tuple t;show HT.cat_tup p P (λz=>r (g.acW.mp z)) (λz=>#[.ref a,H,I,W,o (f.acW.mp z)]) (λz=>?_) (by rw[<-g.length,<-f.length];show j);show#[.ref s.heap.objs.size,_,I.laid (λb E q=>br _ q) (VP _) ?_,W,n (λw=>z (f.acW.mpr w)) _ (I.W6.fresh (VP _))];show#[by rw[Vy];show j,_,g.append f,abM.new _ _]
end
def Lq(n:Nat)(i:Int):I Nat:=if 0<=i then(if i<n then R i.toNat else U)else if -(n:Int)<=i then R (i+n).toNat else U
def og(xs:G α)(i:Int):I α:=(Lq xs.length i).bind λj=>xs[j]?
def LS(h:Lq n i=R j):seqIndex? i n=R j/\j<n/\ -(n:Int)<=i/\i<n:=by
 unfold Lq at h;by_cases b:0<=i
 .rw[av b]at h
  by_cases a:i<n
  .rw[av a]at h;let e:=VZ h;show#[by rw[seqIndex_of b a,e],by ext,by ext,a]
  .rw[ax a]at h;ext h
 .rw[ax b]at h
  by_cases a: -(n:Int)<=i
  .rw[av a]at h;let e:=VZ h;show#[by rw[seqIndex_neg () a,e],by ext,a,by ext]
  .rw[ax a]at h;ext h
def yo(h:og xs i=R v):∃j,seqIndex? i xs.length=R j/\xs[j]?=R v/\j<xs.length/\ -(xs.length:Int)<=i/\i<xs.length:=by
 unfold og at h;cases e:Lq xs.length i with
 |none=>rw[e]at h;ext h
 |some j=>rw[e]at h;let(g,f,b,a):=LS e;show#[j,g,h,f,b,a]
def El{j:Nat}(h:xs[j]?=R v):og xs (j:Int)=R v:=by
 let a:=(Vv.mp h).1;let e:Lq xs.length (j:Int)=R j:=by ext Lq;rw[av (),av ()];simp
 ext og;rw[e];show h
def uw(xs:G α)(v:α):og (xs++[v]) (-1)=R v:=by
 let a:(xs++[v]).length=xs.length+1:=by simp
 let e:Lq (xs++[v]).length (-1)=R xs.length:=by ext Lq;rw[a,ax (),av ()];congr 1;ext
 ext og;rw[e];simp
def MU(b:WQ):Prop:=∀o i,subscripted b VO o i=operate [o,i] (getItem o i)
def IxR(X:Cx)(r:R2):Prop:=
 ∀(e a:WQ) (b:G (M×Obj)) (s:VG) (f:St) (H:Hp) (x y:V) (v u:B) (Q:VK),Inv X b f H s->RelV x v->RelV y u->r x y H Q->
  subscripted a VO v u=operate [v,u] (getItem v u)->wpAny (model X.prog X.w) X.A (subscriptTail e a v u) (EP X b f Q) X.xe s
def Up(X:Cx)(f:String)(r:V->G V->Hp->VK->Prop):Prop:=
 ∀(a:G (M×Obj)) (s:VG) (b:St) (H:Hp) (x:V) (xs:G V) (v:B) (e:G B) (Q:VK),Inv X a b H s->RelV x v->Vals xs e->r x xs H Q->
  wpAny (model X.prog X.w) X.A (call (.builtin f) (v::e)) (EP X a b Q) X.xe s
section
variable{X:Cx}{a b:WQ}{ta tb:TE}{pos:Pos}
def IxR.or(h:IxR X r)(c:IxR X r'):IxR X (λx y H Q=>r x y H Q\/r' x y H Q):=by
 intro e f g s i H x y v u Q I l j q m;rcases q with q|q
 .show h e f g s i H x y v u Q I l j q m
 .show c e f g s i H x y v u Q I l j q m
def bW{r:R2}(m:IxR X r)(c:PE X a ta)(n:PE X b tb)(l:MU b):PE X (.Subscript a b pos) (Pd r ta tb):=by intro e s f H Q I h;show Subscript_ (Sj c n I h λv u g x y p o j i q=>m a b e g f p x y v u Q o j i q (l _ _))
def TX(K:Vs):R2:=λx y H Q=>∃p xs i v,x=.ref p/\y=.int i/\SqL K H p xs/\og xs i=R v/\Q v H
def TN(K:Vs):R2:=λx y H Q=>∃p xs i v,x=.ref p/\y=.int i/\ZQ K H p xs/\og xs i=R v/\Q v H
def TQ:R2:=λx y H Q=>∃z i c,x=.str z/\y=.int i/\z.length<=VT/\og z.cps.toList i=R c/\Q (.str #[#v[c]]) H
def Nh:IxR X (TX X.K):=by
 intro l m e s E H x y v u Q I G F h A;let(p,xs,i,z,rfl,rfl,J,M,q):=h;ext G;let(t,rfl):=F;let(R,r,pl,S):=I.list J;let(j,g,P,T,O,N):=yo M;let(w,C,n):=r.get P;let L:=r.length;let K:=xk;let f:EP X e E Q w s:=#[z,H,I,n,q];by_cases B:0<=i
 .let o:i.toNat=j:=by
   rw[seqIndex_of B N]at g;show VZ g
  show item_listR pl.isList B () (by rw[o];simpa using C) f A
 .let o:(i+(R.toArray.size:Int)).toNat=j:=by
   rw[seqIndex_neg () O]at g;rw[VY,<-L];show VZ g
  show subscriptTail_builtinR pl.isList.typeIs aht.lookup
   (wpAny_getItem_list_neg pl.isList () (by rw[VY]<;>ext) () (by rw[o];simpa using C) #[W,f]) A
def P7:IxR X (TN X.K):=by
 intro f g e s n H x y v u Q I A o h B;let(p,xs,i,z,rfl,rfl,C,F,q):=h;ext A;let(t,rfl):=o;let(R,r,pl,M):=I.tuple C;let(j,J,G,P,O,N):=yo F;let(w,L,l):=r.get G;let E:=r.length;let K:=xk;let m:EP X e n Q w s:=#[z,H,I,l,q];show subscriptTail_builtinR pl.typeIs slot_tuple_getitem.lookup
  (getItem_tuple pl () () (by rw[VY,<-E];show J) (by simpa using L) #[W,m]) B
def RJ:IxR X TQ:=by
 intro e f g s F H x y v u Q I n m h o;let(z,i,c,rfl,rfl,J,r,q):=h;let(t,rfl):=n;let(G,rfl):=m;let(j,l,B,K,A,w):=yo r;let p:z.cps.toList.length=z.length:=by simp[Str.length]
 rw[p]at l A w;let L:=xk;show tail_any (typeIs_str s z t) slot_str_getitem.lookup (getItem_str (by let E:decide (i< -(2^63:Int))=VO:=aP ();let C:decide (i≥2^63)=VO:=aP ();rw[E,C,ac4]) (by rw[l];simpa using B) #[.str #[#v[c]],H,I.tok _,#[_,W],q]) o
def Ue(K:Vs):R2:=λx y H Q=>TX K x y H Q\/TN K x y H Q\/TQ x y H Q
theorem bv:IxR X (Ue X.K):=Nh.or (P7.or RJ)
def xx(lo c:I Int)(n:Nat):(sliceBounds lo c U n).1=((HT.sIx n 0 lo:Nat):Int)/\(sliceBounds lo c U n).2.1=((HT.sIx n n c:Nat):Int)/\(sliceBounds lo c U n).2.2=1:=by
 show#[?_,?_,W]
 .cases lo with
  |none=>simp[sliceBounds,HT.sIx]
  |some i=>
   simp only[sliceBounds,HT.sIx,aeL,show(1:Int)>0 by decide,if_true];by_cases h:i<0
   .simp only[h,if_true]<;>ext
   .simp only[h,if_false]<;>ext
 .cases c with
  |none=>simp[sliceBounds,HT.sIx]
  |some i=>
   simp only[sliceBounds,HT.sIx,aeL,show(1:Int)>0 by decide,if_true];by_cases h:i<0
   .simp only[h,if_true]<;>ext
   .simp only[h,if_false]<;>ext
def vR(e:G B)(lo c:I Int):slicePick e.toArray lo c U=((e.drop (HT.sIx e.length 0 lo)).take (HT.sIx e.length e.length c - HT.sIx e.length 0 lo)).toArray:=by let(h,g,f):=xx lo c e.toArray.size;ext slicePick;rw[h,g,f];simp only[sliceRange_one,pick_run,VY]<;>rfl
def To(K:Vs):V->I Int->I Int->Hp->VK->Prop:=λx lo e H Q=>∃a xs,x=.ref a/\SqL K H a xs/\∀p,H p=U->Q (.ref p) (bL H p (.lst (GB xs lo e)))
def Ma:Sr X (To X.K):=by intro f s o H x v t p lo z u Q I i n pl j h;let(a,xs,rfl,m,q):=h;ext i;let(y,r,g,l):=I.list m;let e:=r.length;show#["list",_,aht.lookup,g.isList.typeIs,?_];show wpAny_getItem_list_slice g.isList n pl j .none (by simp) ?_ (by rw[VY]<;>ext);rw[vR,<-e];show#[.ref s.heap.objs.size,_,I.laid (λb w q=>br _ q) (VP _) ?_,W,q _ (I.W6.fresh (VP _))];show#[Wt (rZ xs lo z) l,_,0,(r.drop (HT.sIx xs.length 0 lo)).take (HT.sIx xs.length xs.length z - HT.sIx xs.length 0 lo),cj _ W]
def YM.or(h:YM X f r)(c:YM X f r'):YM X f (λxs H Q=>r xs H Q\/r' xs H Q):=by
 intro e s g H xs i Q I j q;rcases q with q|q
 .show h e s g H xs i Q I j q
 .show c e s g H xs i Q I j q
def yG:YM X (.type "list") (λxs H Q=>∃p c,xs=[.ref p]/\(SqL X.K H p c\/ZQ X.K H p c)/\∀l,H l=U->Q (.ref l) (bL H l (.lst c))):=by
 intro m s F H xs J Q I r h;let(p,c,rfl,y,q):=h;let(u,rfl,G):=lO r;ext G
 let A:∀(g:bb Vu),Vals c g->c.length<=VT->∀(f:Heap) (j:Nat),(∀b w,s.heap.get? b=R w->f.get? b=R w)->
   f.get? s.heap.objs.size=R {cls:=.type "list",dict:=U,data:=.seq g.toArray j,slots:= #v[]}->EP X m F Q (.ref s.heap.objs.size) {s with heap:=f}:=λg i v f j t e=>
  #[.ref s.heap.objs.size,_,I.laid t (VP _) (show ObjOk X.prog X.w _ f _ (.lst c)from#[v,g,j,i,e]),W,q _ (I.W6.fresh (VP _))]
 rcases y with y|y
 .let(g,i,pl,v):=I.list y;let z:=i.length;let(o,B,E,n,C):=pl.isList;show amE p (.inl W) B E C (λf j t e=>A g i v f j t e) (by simp only[VY]<;>ext)
 .let(g,i,pl,v):=I.tuple y;let z:=i.length;let(o,B,E,n,C):=pl;show amE p (.inr W) B E C (λf j t e=>A g i v f j t e) (by simp only[VY]<;>ext)
def b3:YM X (.type "tuple") (λxs H Q=>∃p c,xs=[.ref p]/\((SqL X.K H p c/\∀l,H l=U->Q (.ref l) (bL H l (.tup c)))\/(ZQ X.K H p c/\Q (.ref p) H))):=by
 intro i s B H xs C Q I r h;let(p,c,rfl,h):=h;let(u,rfl,v):=lO r;ext v;rcases h with⟨g,q⟩|⟨g,q⟩
 .let(n,f,pl,j):=I.list g
  let m:=f.length;show call_tuple_list pl.isList (λz y=>?_) (by simp only[VY]<;>ext);let t:=I.kept (t':=s.toks) y
  let A:=
   t.laid (t':=s.toks) (λb o e=>br _ e) (VP _) (show ObjOk X.prog X.w _ _ _ (.tup c)from#[j,n,f,abM.new _ _])
  show#[.ref z.objs.size,_,A,W,q _ (t.W6.fresh (VP _))]
 .let(n,f,pl,j):=I.tuple g;show call_tuple_same pl #[.ref p,H,I,W,q]
def Uw(K:Vs)(T:String)(x:V)(H:Hp):Prop:=match x with
 |.str _=>T= "str"
 |.int _=>T= "int"
 |.ref p=>(T= "list"/\∃xs,SqL K H p xs)\/(T= "tuple"/\∃o,K.lookup p=R o/\o.cls=.type "tuple"/\o.dict=U)\/
   (T= "dict"/\((∃e,H p=R (.dK e))\/∃e,H p=R (.dT e)))\/(T= "set"/\∃S n,H p=R (.set S n))
 |_=>False
def Ie(I:Inv X pins σ H s)(r:RelV x v)(ty:Uw X.K T x H):
  s.TypeIs v T/\∀a,v=.ref a->∃d,s.heap.get? a=R d/\d.dict=U:=by
 cases x with
 |str z=>let(t,rfl):=r;cases(show T= "str" from ty);show#[typeIs_str s z t,λ_ e=>nomatch e]
 |int i=>let(t,rfl):=r;cases(show T= "int" from ty);show#[acd s i t,λ_ e=>nomatch e]
 |ref p=>
  ext r;rcases ty with⟨rfl,xs,l⟩|⟨rfl,o,f,m,h⟩|⟨rfl,f⟩|⟨rfl,S,n,f⟩
  .let(q,_,pl,_):=I.list l;show#[pl.isList.typeIs,λa e=>?_];ext e;let(o,n,e,c,h,_):=pl;show#[o,e,h]
  .show#[#[o,I.kIn p o f,m],λa e=>?_];ext e;show#[o,I.kIn _ o f,h]
  .let z:∃o,s.heap.get? p=R o/\o.ExactDict:=by
    rcases f with⟨u,f⟩|⟨u,f⟩
    .let(_,_,_,_,o,_,_,e,g,_):=I.W6 p _ f;show#[o,e,g]
    .let(_,_,_,_,o,_,_,e,g,_):=I.W6 p _ f;show#[o,e,g]
   let(o,e,g):=z;show#[#[o,e,g.1],λa j=>?_];ext j;show#[o,e,g.2.1]
  .let(o,_,_,_,e,g,_):=I.W6 p _ f;show#[#[o,e,g.1],λa j=>?_];ext j;show#[o,e,g.2.1]
 |_=>show False.elim ty
def Tu(K:Vs)(T:String)(r:V->G V->Hp->VK->Prop)(to:TE):TE:=λf H Q=>to f H λx e=>Uw K T x e/\r x [] e Q
def Uc(K:Vs)(T:String)(r:V->G V->Hp->VK->Prop)(to:TE)(t:TA):TE:=λe H Q=>to e H λx f=>Uw K T x f/\t e f λxs g=>r x xs g Q
variable{o e:WQ}{es:bb WQ}{to:TE}{t:TA}{name:Str}{Z Y:Pos}{T U:String}{r:V->bb V->Hp->VK->Prop}
def Hv(c:PlainAttrs T)(g:Slot T name U)(i:typeOf (.builtin U)=pure (.type "method_descriptor"))(hm:Up X U r)(w:PE X o to)
  (l:attributeBase o name X.env (eval o X.env)=eval o X.env:=by rfl) (j:(Z.endLine==Y.line)=P:=by rfl):PE X (.Call (.Attribute o name Z) [] [] Y) (Tu X.K T r to):=by
 intro f s m H Q I h;show wpAny_Call_method0_late l j (cR (w f s m H _ I h) λv q #[x,A,p,n,ty,u]=>?_);let(z,y):=Ie p n ty;show#[T,U,c,g,i,z,y,Calls.callWith_builtin W (PySem.evalArgs_none (hm f q m A x [] v [] Q p n .nil u))]
def tU(c:PlainAttrs T)(g:Slot T name U)(j:typeOf (.builtin U)=pure (.type "method_descriptor"))(hm:Up X U r)(G:PE X o to)(d:PA X (e::es) t)
  (p:attributeBase o name X.env (eval o X.env)=eval o X.env:=by rfl)
  (l:((backTo Y (We (e::es) X.env)).all (λx=> !x.1)&&(backToKw Y (keywordEach [] X.env)).all (λx=>x.1.isSome)
   &&decide ((e::es).length+([]:bb acv).length+(if([]:bb acv).isEmpty then 0 else 1)<30))=P:=by rfl)
  (m:(Z.endLine==Y.line)=P:=by rfl) (F:We (e::es) X.env=(VO,eval e X.env)::We es X.env:=by rfl) (n:(backTo Y (We es X.env)).any (·.1)=VO:=by rfl):
  PE X (.Call (.Attribute o name Z) (e::es) [] Y) (Uc X.K T r to t):=by
 intro f s i H Q I h;show wpAny_Call_method_late p l m W (cR (G f s i H _ I h) λv A #[x,O,w,q,ty,E]=>?_);let(L,J):=Ie w q ty;show#[T,U,c,g,j,L,J,?_];let u:=d Y f A i O _ w E;rw[F]at u⊢;show Calls.callWith_builtin (by show(VO||(backTo Y (We es X.env)).any (·.1))=VO;rw[n]<;>rfl) (Calls.evalArgs_plain ?_);show cR u λy z #[vs,N,S,K,C]=>hm f z i N x vs v y Q S q K C
end
def Vg(X:Cx)(f:String)(r:V->G V->Hp->VK->Prop):Prop:=
 ∀(a:G (M×Obj)) (s:VG) (b:St) (H:Hp) (x:V) (xs:G V) (v:B) (e:G B) (Q:VK),Inv X a b H s->RelV x v->Vals xs e->r x xs H Q->
  wpAny (model X.prog X.w) X.A (call (.builtin f) (v::e)) (EP X a b Q) X.xe s
theorem Vals.one:∀{x:V} {us:G B},Vals [x] us->∃u,us=[u]/\RelV x u
 |_,_,.cons r .nil=>#[_,W,r]
theorem Vals.rep(h:Vals xs us):∀k:Nat,Vals (VR k xs).flatten (VR k us).flatten
 |0=>.nil
 |k+1=>by rw[WW,WW,X0,X0];show Vals.append h (Vals.rep h k)
theorem rp(b:G B):∀(k:Nat) (a:G B),
  aat (λd c=>d++c) a.toArray (VR k b.toArray)=(a++(VR k b).flatten).toArray
 |0,a=>by simp
 |k+1,a=>by
  let e:a.toArray++b.toArray=(a++b).toArray:=by simp
  let f:(a++b)++(VR k b).flatten=a++(VR (k+1) b).flatten:=by rw[WW,X0,V6]
  rw[<-f,<-rp b k (a++b),<-e,WW,aax]
section
variable{X:Cx}{Z:bb (VF×Obj)}{Y:St}{H:Hp}{s:VG}{l b:VF}{T U S:bb V}
def Inv.alc{g a:G B}(I:Inv X Z Y H s)(o:H l=R (.lst T))
  (e:s.heap.get? l=R {cls:=.type "list",data:=.seq g.toArray n}) (j:f g.toArray=a.toArray) (h:Vals U a) (c:U.length<=VT):
  Inv X Z Y (bL H l (.lst U)) {s with heap:=s.heap.update l (Obj.mapSeq f),toks:=t'}:=by
 let q:=anU e f;rw[j]at q;show I.write (by rw[o];show trivial) (.inl W) (λp u m i=>(cn s.heap (Obj.mapSeq f) (dr m)).trans i) #[_,q] ?_;show#[c,a,_,h,q]
theorem Inv.aja(I:Inv X Z Y H s)(a:Vals U WA)(c:U.length<=VT):
  Inv X Z Y (bL H s.heap.objs.size (.lst U)) {s with heap:=s.heap.push {cls:=.type "list",data:=.seq WA.toArray},toks:=t'}:=
 I.laid (λ_ _ q=>br _ q) (VP _) #[c,WA,0,a,cj _ W]
theorem Inv.fresh(I:Inv X Z Y H s):H s.heap.objs.size=Vt:=I.W6.fresh (VP _)
def Inv.aiv(I:Inv X Z Y H s)(f:H l=R (.lst T)):T.length<=VT/\∃(a:G B) (n:Nat),Vals T a/\T.length=a.length/\s.heap.get? l=R {cls:=.type "list",data:=.seq a.toArray n}:=by let(z,a,n,r,e):=I.W6 l _ f;show#[z,a,n,r,r.length,e]
def Ij(h:n<=VT):Builtin.List.listTooLong n=VO:=by ext Builtin.List.listTooLong;show aP ()
end
section
variable{X:Cx}
def xJ:V->G V->Hp->VK->Prop:=λx a H Q=>∃l xs y,x=.ref l/\a=[y]/\H l=R (.lst xs)/\xs.length<VT/\Q .XX (bL H l (.lst (xs++[y])))
def g8:Vg X "list.append" xJ:=by intro a s j H x w v m Q I f t h;let(l,xs,y,rfl,rfl,b,o,q):=h;ext f;let(u,rfl,g):=t.one;let(z,i,n,r,p,e):=I.aiv b;show aah F.slot_list_append #[_,e,W] F.entry_list_append (F.args_list_append_2 _ _) (PySem.list_append l i.toArray n u (by rw[VY];ext)) #[e,?_];show#[.XX,_,I.alc b e (by simp) (r.append (.cons g .nil)) ?_,W,q];rw[Vy,Zf];ext
def D4(xs:G α)(k:Nat):(VR k xs).flatten.length=k*xs.length:=by
 induction k with
 |zero=>simp
 |succ k a=>rw[WW,X0,Vy,a,aia,abY]
end
section
variable{Z:V8}{w:Wv}{A:Wl}{E:Vu->VG->Prop}{s:VG}
set_option maxRecDepth 100000 in
end
end L2
namespace Att
open PySem PySem.W PySem.Calls PyProof.Rows
def sM:∀(ns:G Int) (c:G B),WellAll f h c (ns.map WData.int)->IntsAre c ns:=by
 intro ns
 induction ns with
 |nil=>intro c w;rw[YZ]at w;ext w;show .nil
 |cons n ns e=>
  intro c w;rw[V1]at w;cases w with
  |cons a b=>ext a;show .cons _ _ (e _ b)
def GY{l:OpenLaw}(k:l.most=R n)
  (e:l.row.toRowW.claim.pre args=Vx) (i:WellAll A h vals args):
  ∃a c ns,vals=[Vu.ref a]/\args=[WData.list (ns.map WData.int)]/\h.get? a=R {cls:=.type "list",data:=.seq c.toArray}/\IntsAre c ns/\ns.length<=n:=by
 let j:=(pre_splitW e).1;let o:l.pre.holds [] {args:=args}=Vx:=(pre_splitW e).2;let(d,r,rfl,z,y):=hasAllW_cons j;obtain rfl:=hasAllW_nil y;let(xs,rfl,w):=hasW_list z;let(ns,rfl):=items_int w;let b:ns.length<=n:=by
  unfold OpenLaw.pre at o;let g:(WTm.not (.lt (.lit (.int (n:Int))) (.len (.arg 0)))).holds [] {args:=[.list (ns.map .int)]}=Vx:=by let g:=(holds_andW o).1;rw[k]at g;show g
  let f:=condW_of g (w_not (w_lt w_lit (w_len_list (w_arg W))));rw[Vw]at f;show Nat.le_of_not_lt λq=>?_;let u:(n:Int)<((ns.length:Nat):Int):=by ext
  first
   |(rw[aE u]at f;show a5 f ())
   |(simp at f;ext)
 cases i with
 |cons t p=>
  ext p;cases t with
  |list v m=>show#[_,_,ns,W,W,v,sM ns _ m,b]
theorem Gc(l:OpenLaw)(args:G WData):l.row.toRowW.claim.post args (.bool P) args=P:=
 postW_of
  (show WShape.has [] (.bool P) .bool=P by first|rfl|decide|simp[WShape.has,WShape.arms,WShape.armsAll])
  (show(WTm.eq .res (.lit (.bool P))).value [] {args:=args,res:=R (.bool P),after:=args}=R (.bool (P==P))from w_eq_bool (w_res W) w_lit) W
def attach_call{l:OpenLaw}{n:Nat}{q:V8}{e:bb Str}{H:(Str->bg Vu)->Heap->Prop}{F:Wv->Heap->Prop}{d:DefRec}
  (T:l.most=lD n) (v:d.params.defaults=[])
  (call:∀(w:Wv) (c b:VG) (D p:Str->bg Vu) (s:VF) (o:Obj) (m j h:Vu) (a:VF) (k:bb Vu) (ns:bb Int),
   Ground q e [] H w c D p b.heap->F w b.heap->
   b.heap.get? s=lD o->o.data=.func (docDef d.name d.params d.body d.scope m j h)->b.heap.CodeRec j d.name->D d.name=lD (.ref s)->
   b.heap.get? a=lD {cls:=.type "list",data:=.seq k.toArray}->IntsAre k ns->ns.length<=n->b.gens= #v[]->
   codeAny (model l.prog w) callerA (.call (.ref s) #[[.ref a],[]]) (λr x=>r=.ok (.ret (.bool Vx))/\OldK b.heap x.heap/\x.os=b.os/\AllBare x.gens) b):
  WalkO q e H F l.row.toRowW d [] (λf k=>aib f k):=by
 intro w c b D p G Y s o m j h dV kV K N y C u M E B S z R I t L;obtain rfl:dV=.none:=Dflts.none C v;obtain rfl:kV=.none:=Dflts.noKw C;let(a,k,ns,rfl,rfl,A,g,i):=GY T z t;show enter_call (aa5 (call w c b D p s o m j h a k ns G Y K (fd_plain N) y u A g i M) λr x J=>?_);let(rfl,Q,P,O):=J;show#[.inl #[.bool Vx,.bool Vx,[],W,λ_=>W,.bool Vx,Gc l _,λ_=>#[aay,λ_ hm=>(nomatch hm)]],Q,P,O]
end Att
namespace L2
open PySem PySem.Spec PyProof.Rows
theorem kA:∀{a:G B} {ns:G Int},IntsAre a ns->Vals (ns.map V.int) a
 |_,_,.nil=>.nil
 |_,_,.cons n t h=>.cons #[t,W] (kA h)
def SU(H:Hp):Prop:=∀b,H b=U\/∃o xs,H b=R (.frz o (.lst xs))
def JW{P:V8}{w:Wv}{K:Vs}{mg G:Str->bg Vu}{Z:yW}{k:Nat}{fa a:VF}{fd:WY}{x:Str}{sp:Sp}{f:VG}{D:bb Vu}{ns:bb Int}
  (Y:K.In f.heap) (p:f.heap.Ns V3 mg) (g:f.heap.Ns builtinsNs G) (J:∀x:Str,x≠ "__name__"->G x=Xb x) (Q:f.heap.NoLimit) (hg:f.gens= #v[])
  (ha:f.heap.get? a=lD {cls:=.type "list",data:=.seq D.toArray}) (hi:IntsAre D ns) (S:ns.length<=VT) (hr:X3 k callerA)
  (F:∀base:Heap,K.In base->base.Ns V3 mg->FnOk P w K mg base Z k fa fd [x] sp) (R:∀(s:VG) (u:Vu),aa3 s fd #[[u],[]] [(x,u)])
  (I:∀H:Hp,SU H->SqL K H a (ns.map V.int)->sp [.ref a] H (λv _=>v=.bl Vx) λ_ _ _=>False)
  (L:∀H e c,Z [] H f (λ_ _ _=>False) e c->False):
  codeAny (model P w) callerA (.call (.ref fa) #[[.ref a],[]]) (λr c=>r=.ok (.ret (.bool Vx))/\OldK f.heap c.heap/\c.os=f.os/\AllBare c.gens) f:=by
 let rv:=kA hi;let O:=hi.length
 let j:∀H:Hp,SU H->SqL K H a (ns.map V.int)->HOk P w H f.heap->(∀b,H b≠Vt->b=a)->(H a≠Vt->K.lookup a=Vt)->
   codeAny (model P w) callerA (.call (.ref fa) #[[.ref a],[]]) (λr c=>r=.ok (.ret (.bool Vx))/\OldK f.heap c.heap/\c.os=f.os/\AllBare c.gens) f:=by
  intro H T hS W6 U hK;let C:∀{b:VF} {o:Obj},f.heap.get? b=lD o->H b=Vt->(yh f.heap H).get? b=lD o:=λe n=>HU e n;let E:∀{b:VF} {o:Obj} {y:Array Zb} {A:Nat},f.heap.get? b=lD o->o.data=.dict y A->H b=Vt:=λ{b o y A} e d=>by
   cases q:H b with
   |none=>rfl
   |some u=>let M:b=a:=U b (by rw[q];simp);subst M;rw[ha]at e;ext e;let d':Data.seq D.toArray _=Data.dict y A:=d;ext d'
  let i:∀{b:VF} {m:Str->bg Vu},f.heap.Ns b m->(yh f.heap H).Ns b m:=λ{b m} #[o,y,A,e,d,r]=>#[o,y,A,C e (E e d),d,r];let t:K.In (yh f.heap H):=λb o e=>C (Y b o e) (by
   cases q:H b with
   |none=>rfl
   |some u=>let M:b=a:=U b (by rw[q];simp);subst M;rw[hK (by rw[q];simp)]at e;ext e)
  let hM:Mod K mg (yh f.heap H):=#[t,i p,#[G,i g,J],let#[mc,h1,h2]:=Q;#[mc,i h1,h2]];let e0:Env0 P w K mg (yh f.heap H) callerA [] f H:=#[W,hM,λb o e=>LQ e,ZF (FC _ _),trivial,λb g=>a5 (show b∈([]:bb VF)from g) (by simp),W6,.of_eq hg];show aa5 ((F _ t (i p)).run callerA [] f H #[[.ref a],[]] [.ref a] [.ref a] _ _ hr e0 (R f (.ref a)) (.cons W .nil) (I H T hS)) λr c h=>?_;cases r with
  |error e=>show(L H e c h).elim
  |ok fl=>
   cases fl with
   |next=>show False.elim h
   |brk=>show False.elim h
   |cont=>show False.elim h
   |ret u=>
    let(v,H',os,B,un,N,r',q):=h;let q':v=.bl Vx:=q;subst q';obtain rfl:u=Vu.bool Vx:=r';show#[W,OldK.of_keep λb o e=>?_,os,B];cases q:H b with
    |none=>show un.keep b o e q (by intro z;show a5 (show b∈([]:bb VF)from z) (by simp)) (by simp)
    |some u=>
     rcases T b with z|⟨ob,xs,z⟩
     .rw[q]at z;ext z
     .let z2:=un.abO b ob _ z;let(X,_):=W6 b _ z;let(e2,_):=N b _ z2;rw[e]at X;ext X;show e2
 cases hk:K.lookup a with
 |some o=>let e:=Y a o hk;rw[ha]at e;ext e;show j (λ_=>Vt) (λ_=>.inl W) (.inr #[_,D.toArray,_,hk,W,W,W,by rw[VY,O];show S,by simpa using rv]) (λb u z=>by let l:(Vt:bg HO)=lD u:=z;ext l) (λb z=>a5 W z) λz=>a5 W z
 |none=>
  show j (λb=>if b=a then lD (.frz {cls:=.type "list",data:=.seq D.toArray} (.lst (ns.map V.int)))else Vt) (λb=>?_) (.inl (.inr #[{cls:=.type "list",data:=.seq D.toArray},av W])) (λb u z=>?_) (λb z=>?_) λ_=>hk
  .by_cases g:b=a
   .show .inr #[_,_,av g]
   .show .inl (ax g)
  .by_cases g:b=a
   .let l:=(av g).symm.trans z;ext l;subst g;show#[ha,by rw[Vw];show S,D,_,rv,ha]
   .let l:=(ax g).symm.trans z;ext l
  .by_cases g:b=a
   .show g
   .show a5 (ax g) z
def bj(s:X2)(j:Nat):X2:=match s with
 |.ClassDef _ _ _ body _ _ _ _ _ _ _=>body.getD j (.Pass #[0,0,0,0])
 |_=>.Pass #[0,0,0,0]
def gK(s:X2):Arguments:=match s with
 |.FunctionDef _ a _ _ _ _ _ _ _ _=>a
 |_=>{posonlyargs:=[],args:=[],vararg:=U,kwonlyargs:=[],kw_defaults:=[],kwarg:=U,defaults:=[]}
def cJ(s:X2):G X2:=match s with
 |.FunctionDef _ _ b _ _ _ _ _ _ _=>b
 |_=>[]
def aD(s:X2):YH:=match s with
 |.FunctionDef _ _ _ _ _ _ sc _ _ _=>sc
 |_=>{kind:=.function,names:=[],isGenerator:=VO,isCoroutine:=VO}
abbrev dX:yW:=λ_ _ _ _ _ _=>False
abbrev E0:XK:=λ_ _ _=>False
theorem zG:gp dX X E0:=λ_ _ _ _ _ _ _ h=>h.elim
structure YN(K:Vs)(x qual:Str)(st:X2)(f:M)(fd:WY):Prop where
 ex:∃(oc:B) (od:I M) (kV doc pm:B) (an:I M) (Xf ct:B) (osl:Array (I B)),
  fd=Xl x qual (gK st) (cJ st) (aD st) .none kV doc pm an Xf ct/\K.lookup f=R #[oc,od,.func fd,osl]/\Zv K Xf qual=P
 kp:Xv K (.ref f)=P
section
variable{P:V8}{w:Wv}{K:Vs}{Z:Str->bg Vu}{base:Heap}
def YN.ok{x a:Str}{b:X2}{f:M}{fd:WY}{N d:G Str}{k:Nat}{sp:Sp}(F:YN K x a b f fd)(S:Yk N d (aD b))(len:∀c H Q E,sp c H Q E->c.length=d.length)
  (o:∀(e:B) (A:Wl) (outer:G Env) (s:VG) (H:Hp) (c:G V) (Q:VK) (E:XK),X3 k (A.deeper (envOfC a (aD b) s.heap.objs.size f e))->sp c H Q E->
   ∃t,PSs (gw dX P w K Z base N a (aD b) f e A outer s H E).nox (cJ b) t/\t {nx:=λ_ y=>Q .XX y,rt:=Q} (start N c) H):FnOk P w K Z base dX (k+1) f fd d sp:=by
 let(u,r,kV,n,p,v,e,ct,j,rfl,l,i):=F.ex;show Il l i S len λA outer s H c Q E m g=>?_;let(t,h,q):=o e A outer s H c Q E m g;show#[t,h.nox,q]
def YN.binds{x a:Str}{e:X2}{f:M}{fd:WY}{ps:G Str}(F:YN K x a e f fd)
  (h:∀(kV b g:B) (i:I M) (j ct:B) (us:G B),us.length=ps.length->bindArgs (Xl x a (gK e) (cJ e) (aD e) .none kV b g i j ct) #[us,[]]=pure (ps.zip us)):Binds K fd ps []:=by
 let(o,n,kV,b,g,i,j,ct,l,rfl,p,m):=F.ex;show .all (h kV b g i j ct)
theorem JE{a:X2}{kV b g e ct:B}(l:K.lookup f=R #[j,i,.func (Xl x qual (gK a) (cJ a) (aD a) .none kV b g an e ct),h])
  (c:Zv K e qual=Vx) (k:Xv K (.ref f)=Vx):YN K x qual a f (Xl x qual (gK a) (cJ a) (aD a) .none kV b g an e ct):=#[#[j,i,kV,b,g,an,e,ct,h,W,l,c],k]
end
theorem D8(a:X3 k A):A.units+1<cLine:=abI (Nat.add_le_add_left (by decide:1<=64) _) a.units
section
variable{X:Cx}
theorem pv(i:Nat)(e:X.N[i]?=R x:=by rfl)(b:T3 X.env.scope x:=by first|show a6 W|show a7 (a6 W)|show a7 (a7 W))(hd:(x==("__debug__":Str))=VO:=by decide)
  (a:(x==("__classdict__":Str))=VO:=by decide):PE X (.Name x pos) (vJ i):=Rg e b hd a
end
def XM(H a:Hp):Prop:=∀b o,H b=R o->a b=R o
theorem XM.refl(H:Hp):XM H H:=λ_ _ h=>h
theorem XM.trans(a:XM H H1)(b:XM H1 H2):XM H H2:=λc o h=>b c o (a c o h)
def XM.free(e:XM H H')(h:H' l=U):H l=U:=by
 cases q:H l with
 |none=>rfl
 |some o=>rw[e l o q]at h;ext h
end L2
set_option maxHeartbeats 4000000
namespace L2
open PySem PySem.Spec PyProof.Rows
section
variable{X:Cx}{Z:bb (VF×Obj)}{T:St}{H:Hp}{s:VG}{Y:Heap}
def Inv.ad3{ch:G M}(I:Inv X Z T H s)(i:∀b∈ch,qC X Z H b)
  (k:∀b u,b∉ch->s.heap.get? b=R u->Y.get? b=R u) (l:s.heap.objs.size<=p)
  (new:ObjOk X.prog X.w (bL H p o) Y p o):Inv X Z T (bL H p o) {s with heap:=Y,toks:=t'}:=by
 let w:=I.W6.fresh l;let f:∀b u,H b=R u->b∉ch:=λb u e z=>by rw[(i b z).1]at e;ext e
 let h:∀b u,s.heap.get? b=R u->b≠p:=λb u e=>Wc (V7 (bP e) l);show I.step (λb g=>?_) (λb u _ _ a e _=>k b u a e) (λb u _ _ a e _=>#[u.slots,k b u a e])
  (λb u _ e n=>by rw[aF (h b u e)];show n) (λb u a e=>#[u,k b u a e]) (λb xs e=>by rw[aF (cB e w)];show e)
  (λb u xs e=>by rw[aF (cB e w)];show e) (λb J e=>#[#v[],by rw[aF (cB e w),e];simp]) (λm hm=>?_) (λb u e=>?_) I.bare
 .let(_,C,_,B,A,y):=i b g;show#[B,C,A,y]
 .let(j,E,F,t,r):=hm;show#[j,E,F,k _ j (λz=>(i _ z).2.1 W) t,r]
 .by_cases g:b=p
  .subst g;rw[aX]at e;ext e;show new
  .rw[aF g]at e
   show(I.W6 b u e).ZP (λc v a q=>k c v ?_ q) (λc q=>by rw[aF (cB q w)];show q) λc xs q=>by rw[aF (cB q w)];show q
   rcases a with z|z
   .rw[z];show f b u e
   .show f c _ z
end
mutual
inductive DV(K:Vs)(H:Hp):V->VD->Prop
 |XX:DV K H .XX .none
 |bl (b:Bool):DV K H (.bl b) (.bool b)
 |int (i:Int):DV K H (.int i) (.int i)
 |str (x:Str):DV K H (.str x) (.str x)
 |tup {a:VF} {xs:bb V} {ds:bb VD}:ZQ K H a xs->Xx K H xs ds->DV K H (.ref a) (.tuple ds)
 |lst {a:VF} {xs:bb V} {ds:bb VD}:SqL K H a xs->Xx K H xs ds->DV K H (.ref a) (.list ds)
inductive Xx(K:Vs)(H:Hp):bb V->bb VD->Prop
 |nil:Xx K H [] []
 |cons {v:V} {vs:bb V} {d:VD} {ds:bb VD}:DV K H v d->Xx K H vs ds->Xx K H (v::vs) (d::ds)
end
section
variable{X:Cx}{Z:bb (VF×Obj)}{σ:St}{H:Hp}{s:VG}
mutual
theorem DV.reads(I:Inv X Z σ H s):∀{v:V} {d:VD} {u:Vu},DV X.K H v d->RelV v u->∃as,afS s.heap u d as
 |_,_,_,.XX,r=>by cases r;exact⟨_,.none⟩
 |_,_,_,.bl b,r=>by cases r;exact⟨_,.bool b⟩
 |_,_,_,.int i,r=>by obtain⟨t,rfl⟩:=r;exact⟨_,.int i t⟩
 |_,_,_,.str x,r=>by obtain⟨t,rfl⟩:=r;exact⟨_,.str x t⟩
 |_,_,_,.tup h hs,r=>by cases r;obtain⟨a,rv,⟨o,e,c,n,d⟩,_⟩:=I.tuple h;obtain⟨as,q⟩:=Xx.reads I hs rv;exact⟨_,.tuple e c d (by simpa using q)⟩
 |_,_,_,.lst h hs,r=>by cases r;obtain⟨a,rv,⟨o,n,e,c,_,d⟩,_⟩:=I.list h;obtain⟨as,q⟩:=Xx.reads I hs rv;exact⟨_,.list e c d (by simpa using q)⟩
theorem Xx.reads(I:Inv X Z σ H s):∀{vs:bb V} {ds:bb VD} {us:bb Vu},Xx X.K H vs ds->Vals vs us->∃as,adI s.heap us ds as
 |_,_,_,.nil,r=>by cases r;exact⟨_,.nil⟩
 |_,_,_,.cons h hs,r=>by
  cases r with
  |cons b a=>obtain⟨as,q⟩:=DV.reads I h b;obtain⟨bs,e⟩:=Xx.reads I hs a;exact⟨_,.cons q e⟩
end
end
def Oo(K:Vs)(neg:Bool):R2:=λx y H Q=>∃a b,DV K H x a/\DV K H y b/\a.canLay0=P/\b.canLay0=P/\a.depth<=64/\Q (.bl (if neg then !VD.eqv a b else VD.eqv a b)) H
section
variable{X:Cx}
def ra(o:X.A.units+64<cLine):OpR X (XT .Eq) (Oo X.K VO):=by intro a s n H x y v u Q I e b h;let(w,r,m,l,j,i,p,q):=h;let(t,g):=m.reads I e;let(bs,f):=l.reads I b;show aku g f j i () #[.bl _,H,I,W,q]
def ur(o:X.A.units+64<cLine):OpR X (XT .NotEq) (Oo X.K P):=by intro a s n H x y v u Q I e b h;let(w,r,m,l,j,i,p,q):=h;let(t,g):=m.reads I e;let(bs,f):=l.reads I b;show akv g f j i () #[.bl _,H,I,W,q]
theorem JQ:OpR X (Xz .FloorDiv) (rI (λ_ j=>0<j/\j.natAbs.log2<9000) λi j=>.int (i/j)):=SB λi j _ _ _ _ _ a q=>by let b:(0:Int)<j:=a.1;show floordiv_int () (by rw[acN i ()];show q) (.inl (PyProof.noPylong_of_log2 a.2))
end
def jB(env:Env):G (Str×Wn)->G (Str×M)->G (Str×M)
 |[],acc=>acc
 |(n,k)::r,acc=>if(k==Wn.free)=P then(match env.cells.lookup n with|some c=>jB env r ((n,c)::acc)|none=>jB env r acc)else jB env r acc
theorem pd{f:Str×Wn->G (Str×M)->Sem (ForInStep (G (Str×M)))}
  (i:∀n k a,(k==Wn.free)=VO->f (n,k) a=pure (.yield a)) (g:∀n c a,env.cells.lookup n=R c->f (n,.free) a=pure (.yield ((n,c)::a))):
  ∀(names:G (Str×Wn)) (a:G (Str×M)),(∀y∈names,y.2=.free->∃c,env.cells.lookup y.1=R c)->forIn names a f=pure (jB env names a)
 |[],a,_=>rfl
 |(n,k)::r,a,h=>by
  let j:=λy m=>h y (VX _ m);rw[aaz];cases o:(k==Wn.free)with
  |false=>rw[i n k a o,pure_bind];show forIn r a f=_;rw[pd i g r a j];simp only[jB,o,Yg,if_false]
  |true=>
   let e:k=.free:=by simpa using o
   subst e;let(c,l):=h _ VV W;rw[g n c a l,pure_bind];show forIn r ((n,c)::a) f=_;rw[pd i g r _ j];let b:=l;simp only[jB,o,if_true,b]
def pc(h:∀y∈scope.names,y.2=.free->∃c,env.cells.lookup y.1=R c):closureFor scope env=pure (jB env scope.names []):=by simp only[closureFor];rw[pd (λn k a b=>by simp only[b,Yg,if_false]) (λn c a e=>by simp only[d3,if_true,cellOf,e,pure_bind]) scope.names [] h,pure_bind]
theorem l8:∀(names:G (Str×Wn)) (a:G (Str×M)),(∀x c,a.lookup x=R c->env.cells.lookup x=R c)->∀x c,(jB env names a).lookup x=R c->env.cells.lookup x=R c
 |[],_,h,x,c,e=>h x c e
 |(n,k)::r,a,h,x,c,e=>by
  unfold jB at e;split at e
  .split at e
   .rename_i g b
    show l8 r _ (λy d q=>?_) x c e;rw[V5]at q;split at q
    .rename_i f;ext q;rw[eq_of_beq f];show b
    .show h y d q
   .show l8 r a h x c e
  .show l8 r a h x c e
theorem nK:∀(names:G (Str×Wn)) (a:G (Str×M)) (x:Str),(a.lookup x).isSome=P->((jB env names a).lookup x).isSome=P
 |[],_,_,h=>h
 |(n,k)::r,a,x,h=>by
  ext jB;split
  .split
   .show nK r _ x ?_
    rw[V5];split
    .rfl
    .show h
   .show nK r a x h
  .show nK r a x h
theorem qp:∀(names:G (Str×Wn)) (a:G (Str×M)) (x:Str) (c:M),(x,Wn.free)∈names->env.cells.lookup x=R c->((jB env names a).lookup x).isSome=P
 |[],_,_,_,h,_=>by ext h
 |(n,k)::r,a,x,c,h,b=>by
  rcases Wa.mp h with z|h
  .ext z;simp only[jB,d3,if_true,b];show nK r _ _ (by simp[V5])
  .ext jB
   split
   .split
    .show qp r _ x c h b
    .show qp r a x c h b
   .show qp r a x c h b
def zx(h:(x,Wn.free)∈names)(a:env.cells.lookup x=R c):(jB env names []).lookup x=R c:=by
 let q:=qp names [] x c h a;cases e:(jB env names []).lookup x with
 |none=>rw[e]at q;ext q
 |some d=>let z:=l8 names [] (λy d q=>by ext q) x d e;rw[a]at z;show z.symm
def AX{env:Env}{a:YH}{x:Str}{k:Wn}(h:(relabel a env).names.lookup x=R k):∃c,(x,c)∈a.names/\(k=c\/(c=.free/\k=.cell)):=by
 let((n,c),hm,e):=Wh.mp (XJ h);simp only at e;split at e
 .rename_i b
  ext e;let f:(c==Wn.free)=P:=by rw[V9,V9]at b;show b.1.1
  show#[c,hm,.inr #[by simpa using f,W]]
 .ext e;show#[_,hm,.inl W]
theorem lH{env:Env}:∀{names:G (Str×Wn)} {x:Str},names.lookup x=R .free->
  (names.map λ(n,k)=>if(k==Wn.free&&env.scope.kind==.function&&env.kindOf n==R .cell)then(n,Wn.cell)else(n,k)).lookup x=R .cell\/
  (names.map λ(n,k)=>if(k==Wn.free&&env.scope.kind==.function&&env.kindOf n==R .cell)then(n,Wn.cell)else(n,k)).lookup x=R .free
 |[],_,h=>by ext h
 |(n,k)::r,x,h=>by
  rw[V5]at h;rw[V1];dsimp only;by_cases a:(k==Wn.free&&env.scope.kind==.function&&env.kindOf n==R .cell)=P
  .rw[av a,V5]
   cases b:x==n with
   |true=>show .inl W
   |false=>rw[b]at h;show lH h
  .rw[ax a,V5]
   cases b:x==n with
   |true=>rw[b]at h;show .inr h
   |false=>rw[b]at h;show lH h
def fQ(own:G Str)(a:G (Str×Nat)):G Str:=own++a.map (·.1)
def jV(own:G Str)(b:G (Str×Nat))(a:St):St:=own.map (λ_=>U)++b.map λp=>(a[p.2]?).join
def adz(X:Cx)(a:YH):G (Str×Nat)->Prop
 |[]=>True
 |p::r=>(X.N[p.2]?=R p.1/\a.names.lookup p.1=R .free/\(X.env.scope.names.lookup p.1=R .cell\/X.env.scope.names.lookup p.1=R .free))/\adz X a r
theorem adz.mem:∀{a:G (Str×Nat)},adz X scope a->∀p∈a,X.N[p.2]?=R p.1/\scope.names.lookup p.1=R .free/\(X.env.scope.names.lookup p.1=R .cell\/X.env.scope.names.lookup p.1=R .free)
 |[],_,p,b=>by ext b
 |q::r,h,p,b=>by
  rcases Wa.mp b with z|b
  .rw[z];show h.1
  .show h.2.mem p b
def xX(X:Cx)(a:YH)(C:M):G (Str×M):=XU (C+1) a.names (jB X.env a.names [])
theorem uT:∀(names:G (Str×Wn)) (n:Nat) (b:G (Str×M)) (x:Str) (c:M),(XU n names b).lookup x=R c->(n<=c/\(x,Wn.cell)∈names)\/b.lookup x=R c
 |[],_,_,_,_,h=>.inr h
 |(y,k)::r,n,b,x,c,h=>by
  unfold XU at h;by_cases f:(k==Wn.cell)=P
  .rw[av f]at h
   let e:k=.cell:=by simpa using f
   rcases uT r _ _ x c h with⟨a,g⟩|a
   .show .inl #[aab a,VX _ g]
   .rw[V5]at a
    split at a
    .rename_i i;ext a;show .inl #[VP _,by rw[eq_of_beq i,e];show VV]
    .show .inr a
  .rw[ax f]at h
   rcases uT r _ _ x c h with⟨a,g⟩|a
   .show .inl #[a,VX _ g]
   .show .inr a
theorem KY:∀(names:G (Str×Wn)) (n:Nat) (a:G (Str×M)) (x:Str),(x,Wn.cell)∉names->(XU n names a).lookup x=a.lookup x
 |[],_,_,_,_=>rfl
 |(y,k)::r,n,a,x,h=>by
  let f:=λz=>h (VX _ z);ext XU;by_cases b:(k==Wn.cell)=P
  .let e:k=.cell:=by simpa using b
   rw[av b,KY r _ _ x f,V5];let g:(x==y)=VO:=by show beq_eq_false_iff_ne.mpr λz=>h ?_;rw[z,e];show VV
   rw[g]
  .rw[ax b];show KY r _ _ x f
theorem u9:∀(names:G (Str×Wn)) (h:Heap) (b:G (Str×M)) (x:Str) (c:M),(XU h.objs.size names b).lookup x=R c->(h.objs.size<=c/\(pushCells h names).IsCell c U)\/b.lookup x=R c
 |[],_,_,_,_,e=>.inr e
 |(y,k)::r,h,b,x,c,e=>by
  unfold XU at e;ext pushCells;by_cases f:(k==Wn.cell)=P
  .rw[av f]at e⊢
   rw[<-cw h {cls:=.type "cell",data:=.cell U}]at e;rcases u9 r _ _ x c e with⟨a,g⟩|a
   .rw[cw]at a;show .inl #[aab a,g]
   .rw[V5]at a
    split at a
    .ext a;show .inl #[VP _,_,adj _ _ _ _ (cj _ W),W]
    .show .inr a
  .rw[ax f]at e⊢;show u9 r _ _ x c e
theorem Ct:∀(names:G (Str×Wn)) (n:Nat) (e:G (Str×M)),(∀x c,e.lookup x=R c->c<n)->(∀x y c,e.lookup x=R c->e.lookup y=R c->x=y)->∀x y c,(XU n names e).lookup x=R c->(XU n names e).lookup y=R c->x=y
 |[],_,_,_,m,x,y,c,l,j=>m x y c l j
 |(z,k)::r,n,e,o,m,x,y,c,l,j=>by
  unfold XU at l j;by_cases h:(k==Wn.cell)=P
  .rw[av h]at l j
   show Ct r (n+1) ((z,n)::e) (λa d q=>?_) (λa b d g f=>?_) x y c l j
   .rw[V5]at q
    split at q
    .ext q;show Zk _
    .show aac (o a d q)
   .rw[V5]at g f
    split at g
    .rename_i p
     split at f
     .rename_i i;rw[eq_of_beq p,eq_of_beq i]
     .ext g;show a5 (o b _ f) (WZ _)
    .split at f
     .ext f;show a5 (o a _ g) (WZ _)
     .show m a b d g f
  .rw[ax h]at l j;show Ct r n e o m x y c l j
theorem Cp:∀{names:G (Str×Wn)} {x:Str} {k a:Wn},(names.map (·.1)).Nodup->names.lookup x=R k->(x,a)∈names->k=a
 |[],_,_,_,_,h,_=>by ext h
 |(y,j)::r,x,k,a,f,h,hm=>by
  rw[V1,Xp]at f;rw[V5]at h;rcases Wa.mp hm with e|b
  .ext e;rw[d3]at h;show(VZ h).symm
  .cases g:x==y with
   |true=>rw[eq_of_beq g]at b;show a5 (Wh.mpr #[_,b,W]) f.1
   |false=>rw[g]at h;show Cp f.2 h b
def cU(X:Cx)(s:VG)(H:Hp)(a:YH)(C:M)(N:G Str)(b:G M):Cx:=
 {X with N:=N,s₀:=s,H₀:=H,env:=compEnvC a (xX X a C) C X.env,outer:=X.stack,stack:=X.stack,ex:=b,fn:=λx=>((jB X.env a.names []).lookup x).isNone,pn:=[],xe:=λ_ _=>False}
section
variable{X:Cx}{Z:bb (VF×Obj)}{Y:St}{H:Hp}{s:VG}
def wl{a:YH}(I:Inv X Z Y H s)(e:(jB X.env a.names []).lookup x=R c):X.env.cells.lookup x=R c/\c<s.heap.objs.size:=by let h:=l8 _ _ (λ_ _ q=>by ext q) x c e;let(v,o,z,_):=I.cell x c h;show#[h,bP z]
theorem Fh(I:Inv X Z Y H s)(M:scope.kind=.function)(n:(scope.names.map (·.1)).Nodup)
  (v:∀y∈scope.names,y.2=.free->∃c,X.env.cells.lookup y.1=R c) (g:s.heap.objs.size<=C) (j:∀b∈Q,qC X Z H b) (f:∀b∈Q,b<s.heap.objs.size):(cU X s H scope C N Q).Ok where
 mod:=I.ok.mod
 kind:=M
 glob:=I.ok.glob
 blt:=I.ok.blt
 above:=g
 inj:=Ct _ _ _ (λx c e=>aac (V7 (wl I e).2 g)) λx y c B A=>I.ok.inj x y c (wl I B).1 (wl I A).1
 has:=λx G=>by
  let m:∃k,(relabel scope X.env).names.lookup x=R k/\(k=.cell\/k=.free):=by
   rcases G with z|z
   .show#[_,z,.inl W]
   .show#[_,z,.inr W]
  let(k,K,t):=m;let(E,hm,u):=AX K;let e:E=.free\/E=.cell:=by
   rcases u with z|⟨z,_⟩
   .subst z
    rcases t with z|z
    .show .inr z
    .show .inl z
   .show .inl z
  let q:((xX X scope C).lookup x).isSome=P:=by
   rcases e with e|e
   .subst e;let(c,L):=v _ hm W;show YW _ _ _ (.inr (by rw[zx hm L];rfl))
   .subst e
    show YW _ _ _ (.inl ?_);cases z:scope.names.lookup x with
    |none=>show a5 hm (λhm=>by
      let:∀{l:bb (Str×Wn)},l.lookup x=U->(x,Wn.cell)∉l:=λ{l}=>by
       induction l with
       |nil=>show λ_=>by simp
       |cons p r F=>
        intro h q;rw[V5]at h;rcases Wa.mp q with q|q
        .rw[<-q,d3]at h;ext h
        .split at h
         .ext h
         .show F h q
      show this z hm)
    |some O=>rw[Cp n z hm]
  show acF.mp q
 cab:=λx c B A=>by
  let i:((jB X.env scope.names []).lookup x).isNone=P:=B;let w:=A;rcases uT _ _ _ x c w with⟨z,_⟩|z
  .show Wt g (aab z)
  .rw[z]at i;ext i
 hd:=I.ok.hd
 frames:=I.ok.frames
 stk:=.inl W
 exf:=λb a=>#[Wc (V7 (f b a) g),λx c e=>by
  rcases uT _ _ _ x c e with⟨z,_⟩|z
  .show WX (V7 (V7 (f b a) g) (aab z))
  .show(j b a).2.2.2.2.1 x c (wl I z).1]
 bs:=I.bs
 bsz:=Wt I.ok.bsz I.sz
 adn:=λb o e a=>by
  rcases(j b a).2.2.2.1 with z|z
  .show I.ok.adn b o e z
  .show a5 (V7 (bP e) (Wt I.ok.bsz z)) (WZ _)
 ado:=λb a J=>by
  rcases Wa.mp (I.abc b J)with z|z
  .show(j b a).2.1 z
  .show(j b a).2.2.1 z
 abf:=I.stack
 frf:=I.abz
def Hl(I:Inv X Z Y H s)(Zi:scope.kind=.function)(d:(scope.names.map (·.1)).Nodup)
  (Q:∀y∈scope.names,y.2=.free->∃c,X.env.cells.lookup y.1=R c) (O:adz X scope h) (F:s.heap.objs.size<=D) (t:D<C) (hC:s.heap.objs.size<=C) (hf:∀b∈fp,qC X Z H b) (S:∀b∈fp,b<s.heap.objs.size)
  (N:J.Ns C m) (K:∀x c,(xX X scope C).lookup x=R c->C<c->∃v,J.IsCell c v) (A:∀b o,s.heap.get? b=R o->J.get? b=R o) (hd:∃n,J.get? D=R {cls:=.type "list",data:=.seq #v[] n}):
  Inv (cU X s H scope C (fQ own h) fp) [] (jV own h Y) (bL H D (.lst [])) {s with heap:=J,toks:=t1}:=by
 let hn:=I.W6.fresh F;let(n,hd):=hd;let T:=WX t;let j:∀x c,(xX X scope C).lookup x=R c->C<c\/(X.env.cells.lookup x=R c/\c<s.heap.objs.size):=λx c e=>by
  rcases uT _ _ _ x c e with⟨z,_⟩|z
  .show .inl z
  .show .inr (wl I z)
 show#[Fh I Zi d Q hC hf S,W,I.bare,Un.laid A F hn,#[m,N,λi x v e1 e2 e3=>?_],λx c e=>?_,?_,λx c e=>?_,λp hp=>a5 (show p∈([]:G (M×Obj))from hp) (by simp),?_,?_]
 .
  let f:(own++h.map (·.1))[i]?=R x:=e1;let a:(own.map (λ_=>(U:bg V))++h.map λp=>(Y[p.2]?).join)[i]?=R (R v):=e2;let E:own.length<=i:=by
   by_cases E:i<own.length
   .rw[VQ (by simpa using E),VN]at a
    cases q:own[i]? with
    |none=>rw[q]at a;ext a
    |some _=>rw[q]at a;ext a
   .omega
  rw[Wk E,VN]at f;rw[Wk (by simpa using E),VN,Vw]at a;cases q:h[i - own.length]? with
  |none=>rw[q]at f;ext f
  |some p=>
   rw[q]at f a;let ex:=VZ f;subst ex;let ev:(Y[p.2]?).join=R v:=VZ a;let(g1,g2,g3):=O.mem p (VS q);let ev2:Y[p.2]?=R (R v):=by
    cases z:Y[p.2]? with
    |none=>rw[z]at ev;ext ev
    |some y=>rw[z]at ev;show dP R ev
   let(m0,_,hl):=I.loc;let(u,r,l):=hl p.2 p.1 v g1 ev2 (.inr g3);show#[u,r,?_];let l2:∃c,X.env.cells.lookup p.1=R c/\s.heap.IsCell c (R u):=by
    rcases l with⟨k,_⟩|⟨_,c,e,z⟩
    .let w:X.env.scope.names.lookup p.1=R .local:=k
     rcases g3 with z|z
     .rw[z]at w;ext w
     .rw[z]at w;ext w
    .show#[c,e,z]
   let(c,e,o,L,g):=l2;show .inr #[?_,c,?_,o,A c o L,g]
   .show lH g2
   .show(xX X scope C).lookup p.1=R c;ext xX;rw[KY _ _ _ _ λz=>by cases Cp d g2 z];show zx (XJ g2) e
 .rcases j x c e with z|⟨z,_⟩
  .show K x c e z
  .let(v,o,L,g):=I.cell x c z;show#[v,o,A c o L,g]
 .show bL H D (.lst []) C=U;rw[aF T];show I.W6.fresh hC
 .show bL H D (.lst []) c=U
  rcases j x c e with z|⟨z1,z2⟩
  .rw[aF (WX (Y5 t z))];show I.W6.fresh (Wt hC (ZE z))
  .rw[aF (Wc (V7 z2 F))];show I.Zh x c z1
 .show I.W6.laid A F #[by show 0<=VT;show Wx _,[],n,.nil,hd]
 .show(own.map (λ_=>(U:bg V))++h.map λp=>(Y[p.2]?).join).length=(own++h.map (·.1)).length;simp
end
def GL(X:Cx)(e:G WQ)(t:TT):Prop:=
 ∀(a:G (M×Obj)) (s:VG) (b:St) (H:Hp) (Q:Bool->Hp->Prop),Inv X a b H s->t b H Q->
  wpAny (model X.prog X.w) X.A (forIn e P λc r=>if r=P then do let ok<-isTrue c X.env (eval c X.env);pure (ForInStep.yield ok)else pure (ForInStep.yield r)) (TP X a b Q) X.xe s
def JK:TT:=λ_ H Q=>Q P H
theorem cb:GL X [] JK:=λ_ _ _ H _ I h=>wpAny_tests_nil #[H,I,h]
theorem vj(h:PT X c f):GL X [c] f:=λa s b H Q I e=>wpAny_tests_one (h a s b H Q I e)
def J6(J:It)(D:M)(e:St)(g:TG)(l:TT)(j:TE)(o:Hp)(Fin:Hp->Prop):Prop:=
 ∃W:Nat->Nat->St->Hp->Prop,(∃m,W 0 m e (bL o D (.lst [])))/\∀i m σ H,W i m σ H->
  (J.stop i H/\Fin H)\/(J.go i H/\∃N:St->Hp->Prop,(∀p q,N p q->∃t,t<m/\W (i+1) t p q)/\
   ∀x q,J.yld i H x q->g x σ q λa n=>l a n λb h=>if b=P then j a h λy f=>∃r,f D=R (.lst r)/\r.length<VT/\N a (bL f D (.lst (r++[y])))else N a h)
section
variable{Y:V8}{w:Wv}{A:Wl}{s:VG}
def F0{i p f:WQ}{g:bb WQ}{b:YH}{l:Pos}{it j:Vu}{env:Env}{R:abH->VG->Prop}{XE:Vu->VG->Prop}(C:∀x s1,XE x s1->notedBy (model Y w) A env (λe s2=>R (.error e) s2) x s1)(I:Nat->VG->Prop)
  (turn:∀n s,I n s->wpAny (model Y w) A (pyNext it) (λr s1=>match r with
   |none=>R (.ok .next) s1
   |some v=>wpAny (model Y w) A (letOwnedTupleGo p it v) (λ_ s2=>wpAny (model Y w) A (assign p env v) (λ_ s3=>
     wpAny (model Y w) A (forIn g P λc r=>if r=P then do let ok<-isTrue c env (eval c env);pure (ForInStep.yield ok)else pure (ForInStep.yield r)) (λok s4=>
      if ok=P then wpAny (model Y w) A (eval i env) (λx s5=>
       wpAny (model Y w) A (call (.builtin "list.append") [j,x]) (λ_ d=>∃m,m<n/\I m d) (λ_ _=>False) s5) XE s4
      else∃m,m<n/\I m s4) (λ_ _=>False) s3) (λ_ _=>False) s2) (λ_ _=>False) s1) (λ_ _=>False) s)
  (n:Nat) (h:I n s):codeAny (model Y w) A (.compLoop (.ListComp i [#[p,f,g,0]] b l) 0 it j env) R s:=by
 show codeAny_loop W I (λn s F=>?_) n h;show wpAny _ A (Sem.onRaise (compTurn (.ListComp i [#[p,f,g,0]] b l) 0 it j env) (λx=>do noteFrame x env;theTreesLotGoes x)) _ _ s;show wpAny_noted ?_;rw[compTurn_list]
 let o:∀{α:Type} {t:Sem α} {Q B:α->VG->Prop} {E:Vu->VG->Prop} {s:VG},wpAny (model Y w) A t Q (λ_ _=>False) s->(∀a K,Q a K->B a K)->wpAny (model Y w) A t B E s:=
  λq u=>wpAny_mono q u λ_ _ z=>False.elim z
 show Ld (Yc (Ld (o (turn n s F) λr s1 q=>?_)));cases r with
 |none=>show VH q
 |some v=>
  show Ld (o q λ_ s2 u=>Ld (o u λ_ s3 J=>Ld (o J λok s4 y=>?_)));cases ok with
  |false=>show VH #[W,y]
  |true=>show Ld (Ld (wpAny_mono y (λx s5 H=>Ld (o H λ_ d G=>VH (VH #[W,G]))) C))
end
section
variable{X:Cx}{Z:bb (VF×Obj)}{Y:St}{H:Hp}{s:VG}
def yJ
  (h:Q (newEnv scope s.heap.objs.size globals (XU (s.heap.objs.size+1) scope.names closure) qual U .none (R env) builtinsNs) {s with heap:=pushCells (s.heap.push {cls:=.type "dict",data:=.dict #v[]}) scope.names}):
  wpAny f A (newFunctionEnv scope globals closure [] qual U .none (R env)) Q E s:=by
 simp only[newFunctionEnv,aee,if_true];show Ld (wpAny_alloc ?_);show Ld (wpAny_layCells _ (λe a b=>by cases g:a==Wn.cell<;>simp[g]) _ _ _ _ ?_);rw[show({s with heap:=s.heap.push {cls:=.type "dict",data:=.dict #v[]}}:VG).heap.objs.size=s.heap.objs.size+1 from cw ..];rw[acG];show Ld (VH (VH h))
def oO{P tg q:WQ}{F:bb WQ}{scope:YH}{pos:Pos}{own:bb Str}{h:bb (Str×Nat)}{g:TG}{tc:TT}{te:TE}{E:Vu->VG->Prop}{it:VF}{k:bb VF}{tn:Nat->Heap->Prop}{J:It}{Fin:VF->Hp->Prop}
  {RR:Vu->VF->abH->VG->Prop} (I:Inv X Z Y H s) (hc:X.calm=Vx) (Zi:scope.kind=.function) (hnd:(scope.names.map (·.1)).Nodup) (hfr:∀y∈scope.names,y.2=.free->∃c,X.env.cells.lookup y.1=lD c) (hfv:adz X scope h)
  (T:Turn X.prog X.w X.K tg J k it tn) (st:tn 0 s.heap) (L:∀b∈k,qC X Z H b)
  (hg:∀C,PG (cU X s H scope C (fQ own h) k) tg g) (ht:∀C,GL (cU X s H scope C (fQ own h) k) F tc) {W:VF->Vu->VG->Prop} (he:∀C,PE ((cU X s H scope C (fQ own h) k).aaE (W C)) P te) (hEE:∀D C x s1,s.heap.objs.size<=C->W C x s1->notedBy (model X.prog X.w) X.A (compEnvC scope (xX X scope C) C X.env) (λe s2=>RR (.ref D) C (.error e) s2) x s1)
  (hR:∀D,H D=Vt->J6 J D (jV own h Y) g tc te H (Fin D))
  (hRR:∀D C V s',Inv X Z Y V s'->Fin D V->(∃m,s'.heap.Ns C m)->s.heap.objs.size<=C->V C=Vt->RR (.ref D) C (.ok .next) s'):
  wpAny (model X.prog X.w) X.A (newList []) (λacc s3=>wpAny (model X.prog X.w) X.A (newFunctionEnv scope X.env.globals (jB X.env scope.names []) [] X.env.qual Vt .none (lD X.env)) (λad0 s4=>
   codeAny (model X.prog X.w) X.A (.compStart (.ListComp P [#[tg,q,F,0]] scope pos) 0 (.ref it) acc {ad0 with scope:=relabel scope X.env}) (RR acc ad0.locals) s4) E s3) E s:=by
 show WG ?_;generalize hH2:s.heap.push {cls:=.type "list",dict:=Vt,data:=.seq ([]:bb Vu).toArray}=h2;let hz:h2.objs.size=s.heap.objs.size+1:=by rw[<-hH2,cw]
 show yJ (s:={s with heap:=h2}) ?_;let M:s.heap.objs.size<h2.objs.size:=by rw[hz];show Zk _
 let hC:s.heap.objs.size<=h2.objs.size:=ZE M;generalize hH1:pushCells (h2.push {cls:=.type "dict",data:=.dict #v[]}) scope.names=h1;let kp2:∀b o,h2.get? b=lD o->h1.get? b=lD o:=λb o e=>by rw[<-hH1];show adj _ _ b o (br _ e)
 let kp:∀b o,s.heap.get? b=lD o->h1.get? b=lD o:=λb o e=>kp2 b o (by rw[<-hH2];show br _ e);let hns:h1.Ns h2.objs.size (λ_=>Vt):=by rw[<-hH1];show(Heap.Ns.new h2 (.type "dict")).keeps (adj _ _)
 let hoc:∀x c,(xX X scope h2.objs.size).lookup x=lD c->h2.objs.size<c->∃v,h1.IsCell c v:=λx c e ZH=>by
  let e':(XU (h2.push {cls:=.type "dict",data:=.dict #v[]}).objs.size scope.names (jB X.env scope.names [])).lookup x=lD c:=by rw[cw];show e
  rcases u9 _ _ _ x c e' with⟨_,z⟩|z
  .show#[Vt,by rw[<-hH1];show z]
  .show a5 (Y5 (wl I z).2 (Y5 M ZH)) (WZ _)
 let hd:∃n,h1.get? s.heap.objs.size=lD {cls:=.type "list",data:=.seq #v[] n}:=#[0,kp2 _ _ (by rw[<-hH2];show cj _ rfl)];let G:∀b∈k,b<s.heap.objs.size:=λb f=>by let(o,e,_):=T.obj 0 _ st b f;show bP e
 let hn:H s.heap.objs.size=Vt:=I.W6.fresh (VP _);let(W,(m0,w0),turn):=hR s.heap.objs.size hn;let O:∀{pl:bb (VF×Obj)} {V:Hp},(∀b∈k,V b=Vt)->(∀p∈pl,p.1∉k)->∀b∈k,qC (cU X s H scope h2.objs.size (fQ own h) k) pl V b:=λ{pl V} hn' hpl b f=>by let ok:=Fh (C:=h2.objs.size) (N:=fQ own h) I Zi hnd hfr hC L G;show#[hn' b f,(ok.exf b f).1,ok.ado b f,.inl f,(ok.exf b f).2,λp hp=>by let hp':p∈([]:bb (VF×Obj))++pl:=hp;intro z;show hpl p (by simpa using hp') (by rw[z];show f)]
 let l:∀s4:VG,s4={s with heap:=h1}->
   codeAny (model X.prog X.w) X.A (.compLoop (.ListComp P [#[tg,q,F,0]] scope pos) 0 (.ref it) (.ref s.heap.objs.size) (compEnvC scope (xX X scope h2.objs.size) h2.objs.size X.env)) (RR (.ref s.heap.objs.size) h2.objs.size) s4:=by
  rintro s4 rfl
  let I0:Inv (cU X s H scope h2.objs.size (fQ own h) k) [] (jV own h Y) (bL H s.heap.objs.size (.lst [])) {s with heap:=h1}:=
   Hl I Zi hnd hfr hfv (VP _) M hC L G hns hoc kp hd
  let st0:tn 0 h1:=T.keep 0 _ _ st λb _ o e=>kp b o e;let fr0:∀b∈k,(bL H s.heap.objs.size (.lst [])) b=Vt:=λb f=>by rw[aF (Wc (G b f))];show(L b f).1
  show F0 (λx s1 z=>hEE _ _ x s1 hC z) (λn s'=>∃i σ' V,Inv (cU X s H scope h2.objs.size (fQ own h) k) [] σ' V s'/\tn i s'.heap/\(∀b∈k,V b=Vt)/\W i n σ' V) ?_ m0 #[0,_,_,I0,st0,fr0,w0];rintro n s5 ⟨i,j,H5,I5,st5,fr5,w5⟩;rcases turn i n j H5 w5 with⟨stop,fin⟩|⟨go,N,hN,step⟩
  .show cR (T.done (cU X s H scope h2.objs.size (fQ own h) k) rfl rfl rfl hc i [] s5 j H5 (λ_ _=>False) I5 (O fr5 (by simp)) st5 stop) λr s6 #[hr,S]=>?_;subst hr;let(mm,hm,_):=S.loc;show hRR _ _ H5 s6 ?_ fin #[mm,hm] hC S.free;show I.adt (ch:=k) S.os S.base S.W6 S.bare λb f=>#[(L b f).2.2.2.1,(L b f).2.1,(L b f).2.2.2.2.1,(L b f).2.2.2.2.2]
  .show cR (T.item (cU X s H scope h2.objs.size (fQ own h) k) rfl rfl rfl hc i [] s5 j H5 (λ_ _=>False) I5 (O fr5 (by simp)) st5 go) λr s6 #[u,hr,h6]=>?_
   subst hr;show cR h6 λ_ s7 #[x,H7,I7,r7,y7,w,fr7]=>?_;let I7':=I7.pinned (fp:=k) (O fr7 (by simp)) (T.obj _ _ w);let t:∀{a:St} {Q:Hp} {A:VG},Inv (cU X s H scope h2.objs.size (fQ own h) k) ([]++tT k s7.heap) a Q A->N a Q->∃m,m<n/\∃i σ' V,Inv (cU X s H scope h2.objs.size (fQ own h) k) [] σ' V A/\tn i A.heap/\(∀b∈k,V b=Vt)/\W i m σ' V:=λ{a Q A} I8 n8=>by let(m',hm,w8):=hN a Q n8;show#[m',hm,i+1,a,Q,I8.abx,T.keep _ _ _ w λb f o e=>(I8.pin (b,o) (WK _ (WK _ (kS f e)))).1,λb f=>?_,w8];let(o,e,d):=T.obj _ _ w b f;show(I8.pin (b,o) (WK _ (WK _ (kS f e)))).2.1
   show cR (hg _ _ s7 j H7 x u _ I7' r7 (step x H7 y7)) λ_ A #[a,Q,I8,q8]=>?_;show cR (ht _ _ A a Q _ I8 q8) λok s9 #[H9,I9,q9]=>?_;cases ok with
   |false=>rw[ax VU]at q9⊢;show t I9 q9
   |true=>rw[av rfl]at q9⊢;show cR (he _ _ s9 a H9 _ (I9.aaE _) q9) λy s10 #[K,H10,amb,r10,ys,hy,hl,q10]=>?_;let I10:=amb.Zn;show cR (g8 _ s10 a H10 (.ref s.heap.objs.size) [K] (.ref s.heap.objs.size) [y] (λ_ H11=>N a H11) I10 rfl (.cons r10 .nil) #[_,ys,K,rfl,rfl,hy,hl,q10]) λ_ s11 #[v11,H11,I11,_,q11]=>?_;show t I11 q11
 show codeAny_compStart_list (l _ rfl) (T.self _ 0 _ _ _ (T.keep 0 _ _ st λb _ o e=>kp b o e) (l _ rfl))
def uZ(own:G Str)(h:G (Str×Nat))(b:TI)(g:TG)(f:TT)(e:TE):TE:=λY H Q=>b Y H λJ a=>∀D,a D=U->J6 J D (jV own h Y) g f e a λi=>Q (.ref D) i
theorem nU{a:YH}(ok:X.Ok)(h:∀y∈a.names,y.2=.free->(X.env.scope.names.lookup y.1=R .cell\/X.env.scope.names.lookup y.1=R .free)):∀y∈a.names,y.2=.free->∃c,X.env.cells.lookup y.1=R c:=
 λy b e=>ok.has y.1 (h y b e)
theorem Kr{a b:YH}(h:(a.names.all λy=> !(y.2==Wn.free)||(b.names.lookup y.1==R Wn.cell)||(b.names.lookup y.1==R Wn.free))=P):
  ∀y∈a.names,y.2=.free->(b.names.lookup y.1=R .cell\/b.names.lookup y.1=R .free):=λy f e=>by
 let q:=Yz.mp h y f;rw[e]at q
 simpa using q
def dD{elt d iter:WQ}{ifs:G WQ}{scope:YH}{pos:Pos}(own:G Str)(c:G (Str×Nat)){t:TI}{g:TG}{v:TT}{u:TE}(V:X.calm=P)(O:PI X d iter t)
  (S:∀s H C a,PG (cU X s H scope C (fQ own c) a) d g) (F:∀s H C a,GL (cU X s H scope C (fQ own c) a) ifs v) (he:∀s H C a,PE (cU X s H scope C (fQ own c) a) elt u) (l:adz X scope c)
  (n:(scope.names.all λy=> !(y.2==Wn.free)||(X.env.scope.names.lookup y.1==lD Wn.cell)||(X.env.scope.names.lookup y.1==lD Wn.free))=P)
  (w:scope.kind=.function:=by rfl) (k:(scope.names.map (·.1)).Nodup:=by left)
  (p:∀y∈scope.names,y.2=.local->scope.names.lookup y.1=lD .local:=by left) (L:∀x,foldedSetIterable iter X.env x=pure x:=by intro _;rfl):
  PE X (.ListComp elt [#[d,iter,ifs,0]] scope pos) (uZ own c t g v u):=by
 intro Z s Y H Q I h;let f:=Kr n;rw[amF];show aaA (use:=U) rfl L (pc (nU I.ok f)) w p (cR (O Z s Y H _ I h) λxv s1 h1=>cR h1 λK s2 h2=>?_);let(it,a,tn,J,H2,e,A,T,i,f2,R):=h2;subst e;show oO A V w k (nU I.ok f) l T i f2 (λC=>S _ _ C _) (λC=>F _ _ C _) (W:=λ_ _ _=>False) (λC=>he _ _ C _) (λ_ _ _ _ _ z=>z.elim) (Fin:=λD r=>Q (.ref D) r) R ?_;intro D C r E I' fin hm hC N;let(m,hm):=hm;show#[m,hm,λh' j=>#[.ref D,r,?_,rfl,fin]];let(f0,f1,_,f3,f4,f5):=A.acj hC N;show I'.turned (t':=E.toks) (λb o hb q=>(j.2 b hb).trans q) f0 f1 f3 f4 f5
def pW{elt d iter:WQ}{ifs:G WQ}{scope:YH}{pos k py:Pos}{i:Nat}{x:Str}(own:G Str)(j:G (Str×Nat)){S:TI}{g:TG}{tc:TT}{V:TE}(hN:X.N.Nodup)(w:X.N[i]?=lD x)(hx:X.env.scope.names.lookup x=lD .local)
  (hc:X.calm=P) (hi:PI X d iter S)
  (hg:∀s H C c,PG (cU X s H scope C (fQ own j) c) d g) (ht:∀s H C c,GL (cU X s H scope C (fQ own j) c) ifs tc) (he:∀s H C c,PE (cU X s H scope C (fQ own j) c) elt V) (A:adz X scope j)
  (F:(scope.names.all λy=> !(y.2==Wn.free)||(X.env.scope.names.lookup y.1==lD Wn.cell)||(X.env.scope.names.lookup y.1==lD Wn.free))=P)
  (r:Xq (.ListComp elt [#[d,iter,ifs,0]] scope pos) (lD (.Name x py)) k.line X.env=pure P:=by rfl)
  (Zi:scope.kind=.function:=by rfl) (u:(scope.names.map (·.1)).Nodup:=by left)
  (K:∀y∈scope.names,y.2=.local->scope.names.lookup y.1=lD .local:=by left) (hs:∀x,foldedSetIterable iter X.env x=pure x:=by intro _;rfl):
  PS X (.Assign [.Name x py] (.ListComp elt [#[d,iter,ifs,0]] scope pos) k) (FP (uZ own j S g tc V) (wg i)):=by
 intro Z s Y H D I h;let f:=Kr F;rw[exec_Assign_Name_used _ _ _ _ r];show Ld (Yc (Ld ?_));show wpAny _ _ (do let _<-comprehension (.ListComp elt [#[d,iter,ifs,0]] scope pos) scope X.env _ (newList []) VO (eval iter X.env) (lD (assign (.Name x py) X.env))) _ _ s;show Ld (cR (aaA (use:=lD (assign (.Name x py) X.env)) (Q:=λ_ l=>SP X Z D .next l) rfl hs (pc (nU I.ok f)) Zi K
  (cR (hi Z s Y H _ I h) λxv s1 h1=>cR h1 λitv s2 h2=>?_)) λ_ l q=>VH (VH q))
 let(it,c,tn,J,H2,e,I2,T,n,f2,R):=h2;subst e;show oO I2 hc Zi u (nU I.ok f) A T n f2 (λC=>hg _ _ C _) (λC=>ht _ _ C _) (W:=λ_ _ _=>False) (λC=>he _ _ C _) (λ_ _ _ _ _ z=>z.elim) (Fin:=λL O=>D.nx (Y.set i (lD (.ref L))) O) R ?_;intro L C O l I' fin hm hC hn;let(m,hm):=hm;let(f0,f1,f2',f3,f4,f5):=I2.acj hC hn;show wpAny _ _ (assign (.Name x py) X.env (.ref L)) _ _ l;show ahs (wW I' hN w (.inl hx) (v:=.ref L) rfl (λp N #[a,sb,ha]=>?_) (.inr hx));let E:C≠a:=by
  rcases ha with z|z
  .rw[z];show f1
  .show λq=>f4 x a z q.symm
 show#[m,hm.sameBut sb E,λh' t=>#[_,O,?_,fin]];show N.turned (t':=p.toks) (λb o hb q=>(t.2 b hb).trans q) f0 f1 f3 f4 f5
end
def zW(P:V8)(w:Wv)(K:Vs)(c:Str->I B)(base:Heap)(k:Nat)(x:Str)(b:G Str)(sp:Sp):Prop:=
 ∃(f:M) (a:WY),FnOk P w K c base dX k f a b sp/\Binds K a b []/\Xv K (.ref f)=Vx/\c x=R (.ref f)
def gD(C:zW X.prog X.w X.K X.mg X.base k x u sp)(l:X3 j X.A)(c:PA X (e::r) t)(g:k<=j:=by decide)(n:Gl X x:=by rfl)
  (h:(x==("__debug__":Str))=VO:=by decide) (o:We (e::r) X.env=(VO,eval e X.env)::We r X.env:=by rfl) (a:(backTo pos (We r X.env)).any (·.1)=VO:=by rfl):
  PE X (.Call (.Name x p) (e::r) [] pos) (lS sp [] E0 t):=by
 let(f,q,F,b,i,m):=C;show Ef F (l.mono g) n m i b .nil zG c h o a
section
variable{Z:St}{H:Hp}{Q:VK}{D:Ends}
theorem Si(h:t {D with nx:=u D} Z H):NB t u D Z H:=h
theorem Sg(h:a Z H λx H1=>g x Z H1 D.nx):FP a g D Z H:=h
theorem Oj{Q:St->Hp->Prop}(h:Q (Z.set i (R v)) H):wg i v Z H Q:=h
theorem UC(h:Q v H):tC v Z H Q:=h
theorem Tw(h:b Z H λx H1=>a Z H1 λy c=>r x y c Q):Pd r b a Z H Q:=h
theorem Th(c:yq x y=P)(h:Q (.bl (decide (x=y))) H):U0 x y H Q:=#[c,h]
theorem Mc(h:a Z H λ_ H1=>D.nx Z H1):EU a D Z H:=h
theorem Rb(h:c Z H λb H1=>if b=P then t D Z H1 else u D Z H1):Mf c t u D Z H:=h
theorem NG{Q:Bool->Hp->Prop}(h:t Z H λx a=>∃k,x=.bl k/\Q k a):EE t Z H Q:=h
theorem ST{Q:Bool->Prop}(h:Q b):∃k,V.bl b=.bl k/\Q k:=#[b,W,h]
end
def QM{α:Type}{xs:G α}{i:Int}{v:α}(a:0<=i)(h:xs[i.toNat]?=R v):og xs i=R v:=by let q:=El h;rwa [abq a]at q
def XM.tup{K:Vs}(e:XM H H')(h:ZQ K H a xs):ZQ K H' a xs:=by
 rcases h with(h|⟨o,h⟩)|h
 .show .inl (.inl (e _ _ h))
 .show .inl (.inr #[o,e _ _ h])
 .show .inr h
theorem cG(h:H p=U)(o:HO):XM H (bL H p o):=λb u q=>by rw[aF (cB q h)];show q
def zF:Xb "max"=R (.builtin "max"):=by left
def jF:Xb "len"=R (.builtin "len"):=by left
def AC:Xb "sorted"=R (.builtin "sorted"):=by left
def Kl:Xb "all"=R (.builtin "all"):=by left
def C7:Xb "list"=R (.type "list"):=by left
def gA:Xb "tuple"=R (.type "tuple"):=by left
section
variable{X:Cx}
def zw:YM X (.builtin "sorted") (λxs H Q=>∃(p:M) (ns:bb Int),xs=[.ref p]/\SqL X.K H p (ns.map V.int)/\ns.length<64/\∀(l:M) (a:bb Int),H l=U->a.Perm ns->a.Pairwise (·<=·)->Q (.ref l) (bL H l (.lst (a.map V.int)))):=by
 intro i s C H xs E Q I r h;let(p,ns,rfl,t,y,q):=h;let(u,rfl,m):=lO r;ext m;let(B,J,pl,G):=I.list t;let v:=J.length;rw[Vw]at v;show sorted_ints pl.isList (kM J) () λf a K j n=>?_;let(e,w):=sortedAll_at s.heap B f;let g:a.length=ns.length:=j.length_eq;let A:f.toList.length=a.length:=K.length;show#[.ref (s.heap.objs.size+1),_,I.laid (t':=s.toks) (o:=.lst (a.map V.int)) (λb F z=>sortedAll_old z) (acr _) ?_,W,q _ a (I.W6.fresh (acr _)) j n];show#[?_,f.toList,e,kA K,w];rw[Vw,g];let:(64:Nat)<=VT:=by decide
 ext
end
end L2
namespace L3
open PySem L2
abbrev D:=VD
inductive PV where
 |fz (d:D)
 |ow (ds:G D)
 |pl (i:Nat)
abbrev bt:=G (I PV)
structure Xc where
 cls:Str
 fs:G (Str×D)
inductive Res(α:Type) where
 |ok (a:α)
 |er (x:Xc)
 |bad
namespace Res
def bind(r:Res α)(f:α->Res β):Res β:=match r with
 |.ok a=>f a
 |.er x=>.er x
 |.bad=>.bad
def WN:I α->Res α
 |some a=>.ok a
 |none=>.bad
theorem bind_ok(a:α)(f:α->Res β):(Res.ok a).bind f=f a:=W
end Res
abbrev eg:=@Res.bind_ok
abbrev cH:=M->Prop
def dm(O:cH)(p:M):cH:=λb=>O b\/b=p
def Hd(O:cH)(p:M):cH:=λb=>O b/\b≠p
def noO:cH:=λ_=>False
def Ev(O:cH)(H:Hp)(a:cH)(c:Hp):Prop:=∀b o,H b=R o->¬O b->c b=R o/\¬a b
theorem Ev.refl:Ev O H O H:=λ_ _ h n=>#[h,n]
theorem Ev.trans(a:Ev O H O1 H1)(b:Ev O1 H1 O2 H2):Ev O H O2 H2:=λp o h n=>let#[f,e]:=a p o h n;b p o f e
theorem Ev.grow(s:XM H H'):Ev O H O H':=λb o h n=>#[s b o h,n]
theorem Ev.add(s:XM H H')(a:H p=U):Ev O H (dm O p) H':=λb o h n=>#[s b o h,λz=>z.elim n λe=>by subst e;rw[h]at a;ext a]
theorem Ev.sub(h:∀b,O' b->O b):Ev O H O' H:=λb o e n=>#[e,λz=>n (h b z)]
theorem Ev.mut(a:O p)(u:HO):Ev O H O (bL H p u):=λb o h n=>#[by rw[aF (λe=>n (by rw[e];show a))];show h,n]
def ZI(K:Vs)(H:Hp)(a:M)(xs:G V):Prop:=Rd H a (.lst xs)\/∃(b:G B) (n:Nat),K.lookup a=R {cls:=.type "list",data:=.seq b.toArray n}/\xs.length<=VT/\Vals xs b
def ZI.sq(h:ZI K H a xs):SqL K H a xs:=by
 rcases h with h|⟨g,n,f,e,b⟩
 .show .inl h
 .show .inr #[_,g.toArray,n,f,W,W,W,by rw[VY,<-b.length];show e,by simpa using b]
theorem ZI.of(h:H a=R (.lst xs)):ZI K H a xs:=.inl (.inl h)
def ZI.same(e:XM H H')(h:ZI K H a xs):ZI K H' a xs:=by
 rcases h with(h|⟨o,h⟩)|h
 .show .inl (.inl (e _ _ h))
 .show .inl (.inr #[o,e _ _ h])
 .show .inr h
theorem nv(H:Hp):XM (λ_=>U) H:=λ_ _ h=>by ext h
def ab3(O:cH)(K:Vs)(H:Hp)(a:M)(xs:G V):Prop:=ZI K H a xs/\(O a->ZI K (λ_=>U) a xs)
def aaI(O:cH)(K:Vs)(H:Hp)(a:M)(xs:G V):Prop:=ZQ K H a xs/\(O a->ZQ K (λ_=>U) a xs)
section
variable{O Z:cH}{K:Vs}{H Y:Hp}{a:VF}{X:bb V}
def ab3.ev(h:ab3 O K H a X)(e:Ev O H Z Y):ab3 Z K Y a X:=by
 let(h,k):=h;by_cases z:O a
 .show#[ZI.same (nv Y) (k z),λ_=>k z]
 .rcases h with(h|⟨o,h⟩)|h
  .let(f,b):=e a _ h z;show#[.inl (.inl f),λy=>a5 y b]
  .let(f,b):=e a _ h z;show#[.inl (.inr #[o,f]),λy=>a5 y b]
  .show#[.inr h,λ_=>.inr h]
def aaI.ev(h:aaI O K H a X)(e:Ev O H Z Y):aaI Z K Y a X:=by
 let(h,k):=h;by_cases z:O a
 .show#[(nv Y).tup (k z),λ_=>k z]
 .rcases h with(h|⟨o,h⟩)|h
  .let(f,b):=e a _ h z;show#[.inl (.inl f),λy=>a5 y b]
  .let(f,b):=e a _ h z;show#[.inl (.inr #[o,f]),λy=>a5 y b]
  .show#[.inr h,λ_=>.inr h]
end
mutual
inductive DV(O:cH)(K:Vs)(H:Hp):V->D->Prop
 |XX:DV O K H .XX .none
 |bl (b:Bool):DV O K H (.bl b) (.bool b)
 |int (i:Int):DV O K H (.int i) (.int i)
 |str (x:Str):DV O K H (.str x) (.str x)
 |tup {a:VF} {xs:bb V} {ds:bb D}:aaI O K H a xs->Xx O K H xs ds->DV O K H (.ref a) (.tuple ds)
 |lst {a:VF} {xs:bb V} {ds:bb D}:ab3 O K H a xs->Xx O K H xs ds->DV O K H (.ref a) (.list ds)
inductive Xx(O:cH)(K:Vs)(H:Hp):bb V->bb D->Prop
 |nil:Xx O K H [] []
 |cons {v:V} {vs:bb V} {d:D} {ds:bb D}:DV O K H v d->Xx O K H vs ds->Xx O K H (v::vs) (d::ds)
end
section
variable{O Z:cH}{K:Vs}{H H':Hp}
mutual
theorem DV.ev(e:Ev O H Z H'):∀{v:V} {d:D},DV O K H v d->DV Z K H' v d
 |_,_,.XX=>.XX
 |_,_,.bl b=>.bl b
 |_,_,.int i=>.int i
 |_,_,.str x=>.str x
 |_,_,.tup h hs=>.tup (h.ev e) (Xx.ev e hs)
 |_,_,.lst h hs=>.lst (h.ev e) (Xx.ev e hs)
theorem Xx.ev(e:Ev O H Z H'):∀{vs:bb V} {ds:bb D},Xx O K H vs ds->Xx Z K H' vs ds
 |_,_,.nil=>.nil
 |_,_,.cons h hs=>.cons (DV.ev e h) (Xx.ev e hs)
end
theorem Xx.length:∀{a:G V} {ds:G D},Xx O K H a ds->a.length=ds.length
 |_,_,.nil=>rfl
 |_,_,.cons _ t=>by rw[V0,V0,t.length]
theorem Xx.get:∀{c:G V} {ds:G D} {i:Nat} {d:D},Xx O K H c ds->ds[i]?=R d->∃v,c[i]?=R v/\DV O K H v d
 |_,_,_,_,.nil,e=>by simp at e
 |_,_,0,_,.cons h _,e=>by simp at e;subst e;show#[_,W,h]
 |_,_,i+1,d,.cons _ t,e=>by let(v,b,a):=Xx.get t (by simpa using e);show#[v,by simpa using b,a]
theorem Xx.ahk:∀{c:G V} {ds:G D} {i:Nat} {v:V},Xx O K H c ds->c[i]?=R v->∃d,ds[i]?=R d/\DV O K H v d
 |_,_,_,_,.nil,e=>by simp at e
 |_,_,0,_,.cons h _,e=>by simp at e;subst e;show#[_,W,h]
 |_,_,i+1,v,.cons _ t,e=>by let(d,b,a):=Xx.ahk t (by simpa using e);show#[d,by simpa using b,a]
theorem Xx.append:∀{a ws:G V} {ds b:G D},Xx O K H a ds->Xx O K H ws b->Xx O K H (a++ws) (ds++b)
 |_,_,_,_,.nil,h=>h
 |_,_,_,_,.cons h t,g=>.cons h (Xx.append t g)
theorem Xx.take:∀{a:G V} {ds:G D} (n:Nat),Xx O K H a ds->Xx O K H (a.take n) (ds.take n)
 |_,_,0,_=>.nil
 |_,_,_+1,.nil=>.nil
 |_,_,n+1,.cons h t=>.cons h (Xx.take n t)
theorem Xx.drop:∀{a:G V} {ds:G D} (n:Nat),Xx O K H a ds->Xx O K H (a.drop n) (ds.drop n)
 |_,_,0,h=>h
 |_,_,_+1,.nil=>.nil
 |_,_,n+1,.cons _ t=>Xx.drop n t
theorem Xx.flat(h:Xx O K H vs ds):∀n:Nat,Xx O K H (VR n vs).flatten (VR n ds).flatten
 |0=>.nil
 |n+1=>by rw[WW,WW,X0,X0];show h.append (Xx.flat h n)
mutual
theorem DV.plain:∀{v:V} {d:D},DV O K H v d->L2.DV K H v d
 |_,_,.XX=>.XX
 |_,_,.bl b=>.bl b
 |_,_,.int i=>.int i
 |_,_,.str x=>.str x
 |_,_,.tup h hs=>.tup h.1 (Xx.plain hs)
 |_,_,.lst h hs=>.lst h.1.sq (Xx.plain hs)
theorem Xx.plain:∀{vs:bb V} {ds:bb D},Xx O K H vs ds->L2.Xx K H vs ds
 |_,_,.nil=>.nil
 |_,_,.cons h hs=>.cons (DV.plain h) (Xx.plain hs)
end
end
def DX(O:cH)(K:Vs)(H:Hp)(v:V):D->Prop
 |.list ds=>∃a xs,v=.ref a/\ZI K H a xs/\Xx O K H xs ds
 |d=>DV O K H v d
def DV.x(h:DV O K H v d):DX O K H v d:=by
 cases h with
 |lst h a=>show#[_,_,W,h.1,a]
 |XX=>show .XX
 |bl b=>show .bl b
 |int i=>show .int i
 |str x=>show .str x
 |tup h a=>show .tup h a
def DX.plain(h:DX O K H v d):L2.DV K H v d:=by
 cases d with
 |list ds=>let(a,xs,rfl,f,e):=h;show .lst f.sq e.plain
 |none=>show DV.plain h
 |bool b=>show DV.plain h
 |int i=>show DV.plain h
 |str x=>show DV.plain h
 |tuple ds=>show DV.plain h
 |dict g=>show DV.plain h
def ac1(K:Vs)(b:Hp)(O:cH)(H:Hp)(v:V):PV->Prop
 |.fz d=>DV O K H v d
 |.ow ds=>∃a e,v=.ref a/\O a/\b a=U/\H a=R (.lst e)/\Xx O K H e ds
 |.pl _=>False
structure Rl(K:Vs)(B:cH)(H0:Hp)(O:cH)(σ:St)(H:Hp)(ρ:bt):Prop where
 same:XM H0 H
 bo:∀a,B a->O a
 bd:∀a,B a->H0 a≠U
 od:∀a,H a=U->¬O a
 len:σ.length=ρ.length
 slot:∀(i:Nat) (x:PV),ρ[i]?=R (R x)->∃v,σ[i]?=R (R v)/\ac1 K H0 O H v x
 one:∀(i j:Nat) (ds es:G D) (v:V),ρ[i]?=R (R (.ow ds))->ρ[j]?=R (R (.ow es))->σ[i]?=R (R v)->σ[j]?=R (R v)->i=j
def aaD(K:Vs)(f:Hp)(O:cH)(b:St)(H:Hp)(c:bt)(v:V):PV->Prop
 |.fz d=>DV O K H v d
 |.ow ds=>∃a g,v=.ref a/\O a/\f a=U/\H a=R (.lst g)/\Xx O K H g ds/\∀(i:Nat) (e:G D),c[i]?=R (R (.ow e))->b[i]?≠R (R (.ref a))
 |.pl i=>b[i]?=R (R v)
def nj:PV->Prop
 |.ow _=>False
 |_=>True
def eA:PV->PV
 |.ow ds=>.fz (.list ds)
 |p=>p
section
variable{K:Vs}{B O X:cH}{Z H H':Hp}{Y:St}{ρ ρ':bt}{v:V}
def ac1.grow(s:XM H H')(h:ac1 K Z O H v x):ac1 K Z O H' v x:=by
 cases x with
 |fz d=>show DV.ev (Ev.grow s) h
 |ow ds=>let(a,l,e,j,g,f,b):=h;show#[a,l,e,j,g,s _ _ f,b.ev (Ev.grow s)]
 |pl i=>show h
theorem Rl.grow(R:Rl K B Z O Y H ρ)(s:XM H H'):Rl K B Z O Y H' ρ:=
 #[R.same.trans s,R.bo,R.bd,λa h=>R.od a (s.free h),R.len,λi x h=>let#[v,e,b]:=R.slot i x h;#[v,e,b.grow s],R.one]
theorem Rl.agE(R:Rl K B Z O Y H ρ)(h:H p=U):Z p=U:=R.same.free h
def Rl.add(R:Rl K B Z O Y H ρ)(s:XM H H')(f:H p=U)(g:H' p≠U):Rl K B Z (dm O p) Y H' ρ:=by
 show#[R.same.trans s,λa h=>.inl (R.bo a h),R.bd,λa h z=>z.elim (R.od a (s.free h)) λe=>g (by rw[<-e];show h),R.len,λi x h=>?_,R.one];let(v,j,b):=R.slot i x h;show#[v,j,?_];cases x with
 |fz d=>show DV.ev (Ev.add s f) b
 |ow ds=>let(a,q,e,o,n,m,l):=b;show#[a,q,e,.inl o,n,s _ _ m,l.ev (Ev.add s f)]
 |pl i=>show b
theorem Rl.af0(R:Rl K B Z O Y H ρ)(h:Z a=U):¬B a:=λz=>R.bd a z h
def Rl.sub(R:Rl K B Z O Y H ρ){a:M}(m:Z a=U)(h:∀(i:Nat) (c:G D),ρ[i]?=lD (lD (.ow c))->Y[i]?≠lD (lD (.ref a))):Rl K B Z (Hd O a) Y H ρ:=by
 show#[R.same,λb f=>#[R.bo b f,λe=>R.af0 m (e▸f)],R.bd,λb f z=>R.od b f z.1,R.len,λi x j=>?_,R.one];let(v,l,g):=R.slot i x j;show#[v,l,?_];cases x with
 |fz d=>show DV.ev (Ev.sub λb z=>z.1) g
 |ow ds=>let(b,r,e,q,p,o,n):=g;subst e;show#[b,r,W,#[q,λe=>h i ds j (by rw[l,e])],p,o,n.ev (Ev.sub λb z=>z.1)]
 |pl i=>show g
theorem xl(h:H a=R (.lst b))(n:¬O a)(hd:Xx O K H b ds):DV O K H (.ref a) (.list ds):=.lst #[ZI.of h,λz=>a5 z n] hd
def km{pv:PV}(R:Rl K B Z O Y H ρ)(h:aaD K Z O Y H ρ v pv):∃X,Ev O H X H/\Rl K B Z X Y H ρ/\aaD K Z X Y H ρ v (eA pv):=by
 cases pv with
 |fz d=>show#[O,.refl,R,h]
 |pl i=>show#[O,.refl,R,h]
 |ow ds=>let(a,m,rfl,l,j,g,f,e):=h;show#[Hd O a,Ev.sub λb z=>z.1,R.sub j e,xl g (λz=>z.2 W) (f.ev (Ev.sub λb z=>z.1))]
def sW(pv:PV):nj (eA pv):=by ext pv<;>trivial
def aaD.keep{pv:PV}(a:nj pv)(e:Ev O H X H')(h:aaD K Z O Y H ρ v pv):aaD K Z X Y H' ρ' v pv:=by
 cases pv with
 |fz d=>show DV.ev e h
 |pl i=>show h
 |ow ds=>show a.elim
def U7:I (I PV)->I D
 |some (R (.fz d))=>R d
 |some (R (.ow ds))=>R (.list ds)
 |_=>U
def AL(ρ:bt):PV->I D
 |.fz d=>R d
 |.ow ds=>R (.list ds)
 |.pl i=>U7 ρ[i]?
def oB{pv:PV}(R:Rl K B Z O Y H ρ)(h:aaD K Z O Y H ρ v pv)(e:AL ρ pv=lD d):DX O K H v d:=by
 cases pv with
 |fz t=>ext e;show DV.x h
 |ow ds=>ext e;let(a,E,rfl,C,A,p,n,z):=h;show#[a,E,W,ZI.of p,n]
 |pl i=>
  let b:U7 ρ[i]?=lD d:=e;let r:=h;cases q:ρ[i]? with
  |none=>rw[q]at b;ext b
  |some o=>
   cases o with
   |none=>rw[q]at b;ext b
   |some x=>
    let(u,g,f):=R.slot i x q;rw[r]at g;ext g;rw[q]at b;cases x with
    |fz t=>ext b;show DV.x f
    |ow ds=>ext b;let(a,E,rfl,y,w,m,l):=f;show#[a,E,W,ZI.of m,l]
    |pl j=>show f.elim
def toS(ρ:bt)(i:Nat):I (I PV)->I (D×bt)
 |some (R (.fz d))=>R (d,ρ)
 |some (R (.ow ds))=>R (.list ds,ρ.set i (R (.fz (.list ds))))
 |_=>U
def zZ(ρ:bt):PV->I (D×bt)
 |.fz d=>R (d,ρ)
 |.ow ds=>R (.list ds,ρ)
 |.pl i=>toS ρ i ρ[i]?
def cP{l:G α}(h:(l.set i x)[j]?=R y):(j=i/\y=x)\/(j≠i/\l[j]?=R y):=by
 rw[W3]at h;by_cases e:i=j
 .rw[av e]at h
  split at h
  .ext h;show .inl #[e.symm,W]
  .ext h
 .rw[ax e]at h;show .inr #[λz=>e z.symm,h]
def we{pv:PV}(R:Rl K B Z O Y H ρ)(h:aaD K Z O Y H ρ v pv)(e:zZ ρ pv=lD (d,ρ')):∃X,Ev O H X H/\Rl K B Z X Y H ρ'/\DV X K H v d:=by
 cases pv with
 |fz d'=>ext e;show#[O,.refl,R,h]
 |ow ds=>ext e;let(a,vs,rfl,h1,h2,h3,h4,U):=h;show#[Hd O a,Ev.sub λb z=>z.1,R.sub h2 U,xl h3 (λz=>z.2 W) (h4.ev (Ev.sub λb z=>z.1))]
 |pl i=>
  let f:toS ρ i ρ[i]?=lD (d,ρ'):=e;let A:=h;cases q:ρ[i]? with
  |none=>rw[q]at f;ext f
  |some o=>
   cases o with
   |none=>rw[q]at f;ext f
   |some x=>
    let(u,F,C):=R.slot i x q;rw[A]at F;ext F;rw[q]at f;cases x with
    |fz d'=>ext f;show#[O,.refl,R,C]
    |pl j=>show C.elim
    |ow ds=>
     ext f;let(a,vs,rfl,k1,T,S,Q):=C;let n:Ev O H (Hd O a) H:=Ev.sub λb z=>z.1;let G:=xl S (λz=>z.2 W) (Q.ev n);show#[Hd O a,n,#[R.same,λb m=>#[R.bo b m,λe=>R.af0 T (e▸m)],R.bd,λb m z=>R.od b m z.1,by rw[WL];show R.len,λj x l=>?_,λj k xs I w y t=>?_],G]
     .rcases cP l with⟨rfl,g⟩|⟨r,l⟩
      .ext g;show#[_,A,G]
      .let(u,E,p):=R.slot j x l
       show#[u,E,?_];cases x with
       |fz d=>show DV.ev n p
       |pl i=>show p
       |ow xs=>let(b,J,rfl,P,N,M,L):=p;show#[b,J,W,#[P,λz=>r (R.one j i xs ds (.ref a) l q (by rw[E,z]) A)],N,M,L.ev n]
     .rcases cP y with⟨rfl,g⟩|⟨_,y⟩
      .ext g
      .rcases cP t with⟨rfl,g⟩|⟨_,t⟩
       .ext g
       .show R.one j k xs I w y t
end
def XOk(K:Vs)(B:cH)(H:Hp)(c:Vu)(b:I M)(x:Xc):Prop:=
 (∃a,c=.ref a/\Wb K V3 x.cls=R (R (.ref a)))/\∃fs,(∀p,b=R p->H p=R (.xd fs))/\∀f d,x.fs.lookup f=R d->b≠U/\∃v,fs.lookup f=R v/\DV B K H v d
def XE(K:Vs)(B:cH)(a:Hp)(E:XK)(x:Xc):Prop:=∀c b H',XM a H'->XOk K B H' c b x->E c b H'
def WR(K:Vs)(E:XK)(B:cH)(b:Hp)(P:α->Prop):Res α->Prop
 |.ok a=>P a
 |.er x=>XE K B b E x
 |.bad=>False
section
variable{K:Vs}{E:XK}{B:cH}{Z:Hp}
def WR.bind(h:WR K E B Z b (r.bind k)):WR K E B Z (λa=>WR K E B Z b (k a)) r:=by ext r<;>show h
def WR.WN(h:WR K E B Z b ((Res.WN o).bind k)):∃a,o=R a/\WR K E B Z b (k a):=by
 cases o with
 |none=>show h.elim
 |some a=>show#[a,W,h]
def WR.imp(h:WR K E B Z b r)(g:∀a,b a->P' a):WR K E B Z P' r:=by
 cases r with
 |ok a=>show g a h
 |er x=>show h
 |bad=>show h
end
abbrev FE:=bt->Res (PV×bt)
abbrev FT:=bt->Res (Bool×bt)
abbrev FA:=bt->Res (G PV×bt)
def EO(K:Vs)(E:XK)(t:TE)(f:FE):Prop:=
 ∀(B:cH) (b:Hp) (O:cH) (a:St) (H:Hp) (g:bt) (Q:VK),Rl K B b O a H g->WR K E B b (λr=>∀e v H',Ev O H e H'->Rl K B b e a H' r.2->aaD K b e a H' r.2 v r.1->Q v H') (f g)->t a H Q
def TTO(K:Vs)(E:XK)(t:TT)(f:FT):Prop:=
 ∀(B:cH) (b:Hp) (O:cH) (a:St) (H:Hp) (e:bt) (Q:Bool->Hp->Prop),Rl K B b O a H e->WR K E B b (λr=>∀g H',Ev O H g H'->Rl K B b g a H' r.2->Q r.1 H') (f e)->t a H Q
def AO(K:Vs)(E:XK)(t:TA)(f:FA):Prop:=
 ∀(B:cH) (b:Hp) (O:cH) (a:St) (H:Hp) (g:bt) (Q:G V->Hp->Prop),Rl K B b O a H g->WR K E B b (λr=>∀e h H',Ev O H e H'->Rl K B b e a H' r.2->Paired (λv pv=>aaD K b e a H' r.2 v pv/\nj pv) h r.1->Q h H') (f g)->t a H Q
inductive RV where
 |fz (d:D)
 |ow (ds:G D)
def RV.pv:RV->PV
 |.fz d=>.fz d
 |.ow ds=>.ow ds
def Fin(O:cH)(K:Vs)(H:Hp)(Q:VK):RV->Prop
 |.fz d=>∀v H',XM H H'->DV O K H' v d->Q v H'
 |.ow ds=>∀p a H',XM H H'->H p=U->H' p=R (.lst a)->Xx (dm O p) K H' a ds->Q (.ref p) H'
def p7(O:cH)(H:Hp):Prop:=∀a,H a=U->¬O a
section
variable{K:Vs}{E:XK}{B O X:cH}{Y H H':Hp}{Z:St}{ρ ρ':bt}{v:V}
def mF(R:Rl K B Y O Z H ρ)(h:∀X v H',Ev O H X H'->Rl K B Y X Z H' ρ->aaD K Y X Z H' ρ v rv.pv->Q v H'):Fin O K H Q rv:=by
 cases rv with
 |fz d=>show λv H' s f=>h O v H' (Ev.grow s) (R.grow s) f
 |ow ds=>intro p t H' s b e f;show h (dm O p) (.ref p) H' (Ev.add s b) (R.add s b (by rw[e];simp)) #[p,t,W,.inr W,R.agE b,e,f,λi r w z=>?_];let(u,g,a,m,l,q,o,j,n):=R.slot i _ w;rw[z]at g;ext g;ext l;rw[b]at j;ext j
theorem Fin.new(hd:Xx O K H vs ds)(h:Fin O K H Q (.ow ds)):∀p,H p=U->Q (.ref p) (bL H p (.lst vs)):=λp a=>
 h p vs _ (cG a _) a aX (hd.ev (Ev.add (cG a _) a))
theorem Fin.aeG(hd:Xx O K H vs ds)(b:p7 O H)(h:Fin O K H Q (.fz (.tuple ds))):∀p,H p=U->Q (.ref p) (bL H p (.tup vs)):=λp a=>
 h (.ref p) _ (cG a _) (.tup #[ZQ.of aX,λz=>a5 z (b p a)] (hd.ev (Ev.grow (cG a _))))
theorem Fin.at(h:Fin O K H Q (.fz d))(a:DV O K H v d):Q v H:=h v H (XM.refl H) a
def EC(ρ:bt)(i:Nat):I (I PV)->Res (PV×bt)
 |some (R (.fz d))=>.ok (.fz d,ρ)
 |some (R (.ow _))=>.ok (.pl i,ρ)
 |_=>.bad
def aa(i:Nat):FE:=λρ=>EC ρ i ρ[i]?
def au:EO K E (vJ i) (aa i):=by
 intro B Y O Z H ρ Q R w;unfold aa at w;cases q:ρ[i]? with
 |none=>rw[q]at w;show w.elim
 |some o=>
  cases o with
  |none=>rw[q]at w;show w.elim
  |some x=>
   rw[q]at w;let(v,a,b):=R.slot i x q;cases x with
   |fz d=>show#[v,a,w O v H .refl R b]
   |ow ds=>show#[v,a,w O v H .refl R a]
   |pl j=>show w.elim
def pC(d:D):FE:=λρ=>.ok (.fz d,ρ)
theorem vM(h:∀O H,DV O K H v d):EO K E (tC v) (pC d):=λB Y O Z H ρ Q R w=>w O v H .refl R (h O H)
theorem bc:EO K E (tC (.int i)) (pC (.int i)):=vM λ_ _=>.int i
theorem Pm:EO K E (tC (.bl b)) (pC (.bool b)):=vM λ_ _=>.bl b
theorem kW:EO K E (tC (.str x)) (pC (.str x)):=vM λ_ _=>.str x
theorem qZ:EO K E (tC .XX) (pC .none):=vM λ_ _=>.XX
def pB(K:Vs)(r:R2)(f:D->D->I RV):Prop:=∀(O:cH) (H:Hp) (x y:V) (e a:D) (b:RV) (Q:VK),p7 O H->DX O K H x e->DX O K H y a->f e a=R b->Fin O K H Q b->r x y H Q
def aL(f:D->D->I RV)(c fb:FE):FE:=λρ=>(c ρ).bind λa=>(fb a.2).bind λb=>(Res.WN (AL b.2 (eA a.1))).bind λh=>(Res.WN (AL b.2 b.1)).bind λe=>(Res.WN (f h e)).bind λg=>.ok (g.pv,b.2)
def bC(u:pB K r f)(c:EO K E ta fa)(z:EO K E tb fb):EO K E (Pd r ta tb) (aL f fa fb):=by intro B Y O Z H ρ Q R w;show c B Y O Z H ρ _ R (w.bind.imp λa j U x T F J t=>?_);let(N,C,R2,q):=km J t;show z B Y N Z T a.2 _ R2 (j.bind.imp λb e M y S i g p=>?_);let h:=q.keep (sW a.1) i (ρ':=b.2);let(dx,m,e):=e.WN;let(G,l,e):=e.WN;let(rv,n,e):=e.WN;show u M S x y dx G rv Q g.od (oB g h m) (oB g p l) n (mF g λL v P A I o=>?_);show e L v P (F.trans (C.trans (i.trans A))) I o
def UU(K:Vs)(r:V->Hp->VK->Prop)(f:D->I RV):Prop:=∀(O:cH) (H:Hp) (x:V) (b:D) (a:RV) (Q:VK),p7 O H->DX O K H x b->f b=R a->Fin O K H Q a->r x H Q
def DU(f:D->I RV)(c:FE):FE:=λρ=>(c ρ).bind λa=>(Res.WN (AL a.2 a.1)).bind λe=>(Res.WN (f e)).bind λb=>.ok (b.pv,a.2)
def K4(l:UU K r f)(c:EO K E y A):EO K E (Us r y) (DU f A):=by intro B Y O Z H ρ Q R w;show c B Y O Z H ρ _ R (w.bind.imp λa b q x u n e j=>?_);let(C,g,b):=b.WN;let(z,h,b):=b.WN;show l q u x C z Q e.od (oB e j g) h (mF e λp v t m o i=>b p v t (n.trans m) o i)
def UB:D->I Bool
 |.bool b=>R b
 |_=>U
def QA(h:DX O K H x d)(e:UB d=R b):x=.bl b:=by ext d<;>ext e;ext h;rfl
def aO(c:FE):bt->Res (Bool×bt):=λρ=>(c ρ).bind λa=>(Res.WN (AL a.2 a.1)).bind λd=>(Res.WN (UB d)).bind λb=>.ok (b,a.2)
def gI(c:EO K E n o):TTO K E (EE n) (aO o):=by intro B Y O Z H ρ Q R w;show c B Y O Z H ρ _ R (w.bind.imp λa e l x m j f i=>?_);let(d,g,e):=e.WN;let(b,h,e):=e.WN;show#[b,QA (oB f i g) h,e l m j f]
theorem OC(b:EO K E a e):TTO K E (tB a) (aO e):=gI b
def ye(b fb:FT):FT:=λρ=>(b ρ).bind λa=>if a.1=P then fb a.2 else .ok (VO,a.2)
def FW(b fb:FT):FT:=λρ=>(b ρ).bind λa=>if a.1=P then .ok (P,a.2)else fb a.2
theorem TTO.next(h:TTO K E t f)(R:Rl K B Y O1 Z H1 ρ)(a:Ev O H O1 H1)(w:WR K E B Y (λr=>∀X H',Ev O H X H'->Rl K B Y X Z H' r.2->Q r.1 H') (f ρ)):t Z H1 Q:=
 h B Y O1 Z H1 ρ Q R (w.imp λr q X H' b e=>q X H' (a.trans b) e)
theorem EO.next(h:EO K E t f)(R:Rl K B Y O1 Z H1 ρ)(b:Ev O H O1 H1)(w:WR K E B Y (λr=>∀X v H',Ev O H X H'->Rl K B Y X Z H' r.2->aaD K Y X Z H' r.2 v r.1->Q v H') (f ρ)):t Z H1 Q:=
 h B Y O1 Z H1 ρ Q R (w.imp λr q X v H' e g a=>q X v H' (b.trans e) g a)
def Mj(m:TTO K E t f)(l:TTO K E u g):TTO K E (Sd t u) (ye f g):=by
 intro B Y O Z H ρ Q R w;show m B Y O Z H ρ _ R (w.bind.imp λa e n o h i=>?_);let(b,j):=a;cases b with
 |true=>show l.next i h e
 |false=>show e n o h i
def Rv(m:TTO K E t f)(l:TTO K E u g):TTO K E (Uu t u) (FW f g):=by
 intro B Y O Z H ρ Q R w;show m B Y O Z H ρ _ R (w.bind.imp λa e n o h i=>?_);let(b,j):=a;cases b with
 |true=>show e n o h i
 |false=>show l.next i h e
def eU:FT:=λρ=>.ok (P,ρ)
theorem fZ:TTO K E JK eU:=λB Y O Z H ρ Q R w=>w O H .refl R
def KU(b fb:FE):FE:=λρ=>(aO b ρ).bind λa=>if a.1=P then fb a.2 else .ok (.fz (.bool VO),a.2)
def HV(d:EO K E n o)(j:EO K E m fb):EO K E (JD n m) (KU o fb):=by
 intro B Y O Z H ρ Q R w;show gI d B Y O Z H ρ (λc e=>if c=P then m Z e Q else Q (.bl VO) e) R (w.bind.imp λa f l e g h=>?_);let(b,i):=a;cases b with
 |true=>show j.next h g f
 |false=>show f l _ e g h (.bl VO)
def az:FA:=λρ=>.ok ([],ρ)
def ag(c:FE)(e:FA):FA:=λρ=>(c ρ).bind λa=>(e a.2).bind λb=>.ok (eA a.1::b.1,b.2)
theorem bx:AO K E n9 az:=λB Y O Z H ρ Q R w=>w O [] H .refl R .nil
def aU(c:EO K E C J)(m:AO K E A fr):AO K E (iy C A) (ag J fr):=by intro B Y O Z H ρ Q R w;show c B Y O Z H ρ _ R (w.bind.imp λa h z x y o q l=>?_);let(t,n,R2,j):=km q l;show m B Y t Z y a.2 _ R2 (h.bind.imp λb g r f u e p i=>?_);show g r (x::f) u (o.trans (n.trans e)) p (.cons #[j.keep (sW a.1) e,sW a.1] i)
def zt(ρ:bt):G PV->I (G D)
 |[]=>R []
 |p::r=>match AL ρ p with
  |some d=>(match zt ρ r with
   |some ds=>R (d::ds)
   |none=>U)
  |none=>U
theorem CL(R:Rl K B Y O Z H ρ):∀{g:G V} {c:G PV} {ds:G D},Paired (λv pv=>aaD K Y O Z H ρ v pv/\nj pv) g c->zt ρ c=lD ds->Paired (DX O K H) g ds
 |_,_,_,.nil,e=>by ext e;show .nil
 |_,_,_,.cons (l₂:=c) (b:=p) h t,e=>by
  unfold zt at e;cases q:AL ρ p with
  |none=>rw[q]at e;ext e
  |some d=>
   rw[q]at e;dsimp only at e;cases f:zt ρ c with
   |none=>rw[f]at e;ext e
   |some a=>rw[f]at e;ext e;show .cons (oB R h.1 q) (CL R t f)
def sH(ρ:bt):G PV->I (G D×bt)
 |[]=>R ([],ρ)
 |p::r=>match zZ ρ p with
  |some (d,b)=>(match sH b r with
   |some (ds,a)=>R (d::ds,a)
   |none=>U)
  |none=>U
theorem uK:∀{k:G V} {c:G PV} {ds:G D} {O:cH} {ρ ρ':bt},Rl K B Y O Z H ρ->Paired (λv pv=>aaD K Y O Z H ρ v pv/\nj pv) k c->sH ρ c=lD (ds,ρ')->∃X,Ev O H X H/\Rl K B Y X Z H ρ'/\Xx X K H k ds
 |_,_,_,O,_,_,C,.nil,e=>by ext e;show#[O,.refl,C,.nil]
 |_,_,_,O,ρ,ρ',C,.cons (l₁:=k) (l₂:=c) (b:=p) h t,e=>by
  unfold sH at e;cases q:zZ ρ p with
  |none=>rw[q]at e;ext e
  |some r=>
   let(d,a):=r;rw[q]at e;dsimp only at e;cases J:sH a c with
   |none=>rw[J]at e;ext e
   |some m=>let(o,j):=m;rw[J]at e;ext e;let(A,i,y,w):=we C h.1 q;let l:Paired (λv pv=>aaD K Y A Z H a v pv/\nj pv) k c:=Paired.ZR t λv pv #[n,f]=>#[n.keep f i,f];let(z,g,R2,u):=uK y l J;show#[z,i.trans g,R2,.cons (w.ev g) u]
abbrev FN:=G D->Res RV
def rX(K:Vs)(n:Nat)(F:FN):Sp:=λb H Q E=>b.length=n/\∃(B:cH) (ds:G D),(∀a,B a->H a≠U)/\Xx B K H b ds/\WR K E B H (Fin B K H Q) (F ds)
def cz(c:FA):FE:=λρ=>(c ρ).bind λa=>(Res.WN (sH a.2 a.1)).bind λb=>if b.1.length<=1000 then .ok (.fz (.tuple b.1),b.2)else .bad
def de(c:FA):FE:=λρ=>(c ρ).bind λa=>(Res.WN (sH a.2 a.1)).bind λb=>if b.1.length<=1000 then .ok (.ow b.1,b.2)else .bad
theorem BG(h:n<=1000):n<=VT:=Wt h ()
def oW(c:AO K E z A):EO K E (Sh z) (cz A):=by
 intro B Y O Z H ρ Q R w;show c B Y O Z H ρ _ R (w.bind.imp λa g u C y m o i=>?_);let((ds,f),q,b):=g.WN;let(t,l,R2,e):=uK o i q;dsimp only at b;by_cases hn:ds.length<=1000
 .rw[av hn]at b;show#[by rw[e.length];show BG hn,Fin.aeG e R2.od (mF R2 λp v r j n h=>b p v r (m.trans (l.trans j)) n h)]
 .rw[ax hn]at b;show b.elim
def jW(c:AO K E z A):EO K E (SI z) (de A):=by
 intro B Y O Z H ρ Q R w;show c B Y O Z H ρ _ R (w.bind.imp λa g u C y m o i=>?_);let((ds,f),q,b):=g.WN;let(t,l,R2,e):=uK o i q;dsimp only at b;by_cases hn:ds.length<=1000
 .rw[av hn]at b;show#[by rw[e.length];show BG hn,Fin.new e (mF R2 λp v r j n h=>b p v r (m.trans (l.trans j)) n h)]
 .rw[ax hn]at b;show b.elim
def HI(K:Vs)(r:G V->Hp->VK->Prop)(f:G D->I RV):Prop:=∀(O:cH) (H:Hp) (xs:G V) (ds:G D) (a:RV) (Q:VK),p7 O H->Paired (DX O K H) xs ds->f ds=R a->Fin O K H Q a->r xs H Q
def iC(f:G D->I RV)(c:FA):FE:=λρ=>(c ρ).bind λa=>(Res.WN (zt a.2 a.1)).bind λds=>(Res.WN (f ds)).bind λb=>.ok (b.pv,a.2)
def kI(l:HI K r f)(c:AO K E A J):EO K E (Oh r A) (iC f J):=by intro B Y O Z H ρ Q R w;show c B Y O Z H ρ _ R (w.bind.imp λa g t z y n e j=>?_);let(ds,q,b):=g.WN;let(C,h,b):=b.WN;show l t y z ds C Q e.od (CL e j q) h (mF e λp v u m o i=>b p v u (n.trans m) o i)
def Uy:D->I Int
 |.int i=>R i
 |_=>U
def Qo(h:DX O K H x d)(e:Uy d=R i):x=.int i:=by ext d<;>ext e;ext h;rfl
abbrev FO:=bt->Res (I Int×bt)
def Uk(K:Vs)(E:XK)(t:TO)(f:FO):Prop:=
 ∀(B:cH) (Y:Hp) (O:cH) (Z:St) (H:Hp) (ρ:bt) (Q:I Int->Hp->Prop),Rl K B Y O Z H ρ->WR K E B Y (λr=>∀X H',Ev O H X H'->Rl K B Y X Z H' r.2->Q r.1 H') (f ρ)->t Z H Q
def wz:FO:=λρ=>.ok (U,ρ)
def uI(b:FE):FO:=λρ=>(b ρ).bind λa=>(Res.WN (AL a.2 a.1)).bind λd=>(Res.WN (Uy d)).bind λi=>.ok (R i,a.2)
theorem uV:Uk K E Fa wz:=λB Y O Z H ρ Q R w=>w O H .refl R
def ui(c:EO K E n o):Uk K E (Hz n) (uI o):=by intro B Y O Z H ρ Q R w;show c B Y O Z H ρ _ R (w.bind.imp λa f l x m j e h=>?_);let(d,q,b):=f.WN;let(i,g,b):=b.WN;show#[i,Qo (oB e h q) g,b l m j e]
def UD(K:Vs)(r:V->I Int->I Int->Hp->VK->Prop)(f:D->I Int->I Int->I RV):Prop:=∀(O:cH) (H:Hp) (x:V) (lo b:I Int) (e:D) (a:RV) (Q:VK),p7 O H->DX O K H x e->f e lo b=R a->Fin O K H Q a->r x lo b H Q
def Rp(f:D->I Int->I Int->I RV)(c:FE)(b e:FO):FE:=λρ=>(c ρ).bind λa=>(b a.2).bind λl=>(e l.2).bind λh=>(Res.WN (AL h.2 (eA a.1))).bind λi=>(Res.WN (f i l.1 h.1)).bind λg=>.ok (g.pv,h.2)
def He(u:UD K r f)(c:EO K E ta fa)(y:Uk K E tl fl)(z:Uk K E th fh):EO K E (U4 r ta tl th) (Rp f fa fl fh):=by intro B Y O Z H ρ Q R w;show c B Y O Z H ρ _ R (w.bind.imp λa m O1 x H1 F J t=>?_);let(P,C,R2,q):=km J t;show y B Y P Z H1 a.2 _ R2 (m.bind.imp λl j N U i I=>?_);show z B Y N Z U l.2 _ I (j.bind.imp λh b M T g e=>?_);let(dx,n,b):=b.WN;let(rv,o,b):=b.WN;show u M T x l.1 h.1 dx rv Q e.od (oB e (q.keep (sW a.1) (i.trans g)) n) o (mF e λL v S A G p=>b L v S (F.trans (C.trans (i.trans (g.trans A)))) G p)
end
def yQ{l:G α}(h:(l.set i x)[i]?=R y):i<l.length:=by
 rw[W3]at h;rw[av W]at h;split at h
 .assumption
 .ext h
section
variable{K:Vs}{E:XK}{B O U:cH}{Z H H':Hp}{Y:St}{ρ ρ':bt}{v:V}
def Rl.mut{i:Nat}{ds g:bb D}{a:VF}{f:bb V}(R:Rl K B Z O Y H ρ)(c:ρ[i]?=lD (lD (.ow ds)))(J:Y[i]?=lD (lD (.ref a)))(L:O a)(M:Z a=Vt)(hd:Xx O K H f g):
  Rl K B Z O Y (bL H a (.lst f)) (ρ.set i (lD (.ow g))):=by
 let ev:Ev O H O (bL H a (.lst f)):=Ev.mut L _;show#[λb o e=>by rw[aF (cB e M)];show R.same b o e,R.bo,R.bd,λb m=>?_,by rw[WL];show R.len,λj x l=>?_,λj k xs G w hj X A t=>?_]
 .by_cases e:b=a
  .rw[e,aX]at m;ext m
  .rw[aF e]at m;show R.od b m
 .rcases cP l with⟨rfl,ee⟩|⟨r,l⟩
  .ext ee;show#[_,J,a,f,W,L,M,aX,hd.ev ev]
  .let(u,I,q):=R.slot j x l
   show#[u,I,?_];cases x with
   |fz d=>show DV.ev ev q
   |pl i=>show q
   |ow xs=>let(b,N,rfl,T,S,Q,P):=q;let F:b≠a:=λz=>r (R.one j i xs ds (.ref a) l c (by rw[I,z]) J);show#[b,N,W,T,S,by rw[aF F];show Q,P.ev ev]
 .let own:∀{j:Nat} {xs:bb D},(ρ.set i (lD (.ow g)))[j]?=lD (lD (.ow xs))->∃G,ρ[j]?=lD (lD (.ow G)):=λ{j xs} h=>by
   rcases cP h with⟨rfl,_⟩|⟨_,h⟩
   .show#[_,c]
   .show#[_,h]
  let(p,C):=own hj;let(n,y):=own X;show R.one j k p n w C y A t
theorem ub(h:n<1000000):n<VT:=V7 h ()
def KN:I (I PV)->I (G D)
 |some (R (.ow ds))=>R ds
 |_=>Vt
def DS(h:KN o=R ds):o=R (R (.ow ds)):=by
 unfold KN at h;split at h
 .ext h;rfl
 .ext h
def Gm(i:Nat)(c:FE):FE:=λρ=>(Res.WN (KN ρ[i]?)).bind λ_=>(c ρ).bind λa=>(Res.WN (zZ a.2 a.1)).bind λb=>(Res.WN (KN b.2[i]?)).bind λds=>
 if ds.length<1000000 then .ok (.fz .none,b.2.set i (R (.ow (ds++[b.1]))))else .bad
def HQ(z:EO K E te fe):EO K E (Uc K "list" xJ (vJ i) (iy te n9)) (Gm i fe):=by
 intro B Z O Y H ρ Q R w;let(J,q,w):=w.WN;let(v,j,a,vs,rfl,T,S,A,P):=R.slot i _ (DS q);show#[_,j,.inl #[W,_,SqL.of A],?_];show z B Z O Y H ρ _ R (w.bind.imp λb e O1 y H1 F L r=>?_);let((d,o),p,e):=e.WN;let(M,C,R2,I):=we L r p;let(ds,f,e):=e.WN;let f:=DS f;let(N,n,X,g,G,m,u,t,l):=R2.slot i _ f;subst G;rw[j]at n;ext n;dsimp only at e;by_cases h:ds.length<1000000
 .rw[av h]at e;show#[a,g,y,W,W,t,ub (by rw[l.length];show h),?_];show e M .XX _ (F.trans (C.trans (Ev.mut m _))) (R2.mut f j m u (l.append (.cons I .nil))) .XX
 .rw[ax h]at e;show e.elim
abbrev FG:=PV->bt->Res bt
abbrev Ti:=G D->bt->Res bt
def GO(K:Vs)(E:XK)(g:TG)(f:FG):Prop:=
 ∀(B:cH) (Z:Hp) (O:cH) (Y:St) (H:Hp) (ρ:bt) (v:V) (pv:PV) (Q:St->Hp->Prop),Rl K B Z O Y H ρ->aaD K Z O Y H ρ v pv->WR K E B Z (λρ'=>∀U a H',Ev O H U H'->Rl K B Z U a H' ρ'->Q a H') (f pv ρ)->g v Y H Q
def Uf(K:Vs)(E:XK)(g:Sb)(f:Ti):Prop:=
 ∀(B:cH) (Z:Hp) (O:cH) (Y:St) (H:Hp) (ρ:bt) (b:G V) (ds:G D) (Q:St->Hp->Prop),Rl K B Z O Y H ρ->Xx O K H b ds->WR K E B Z (λρ'=>∀U a H',Ev O H U H'->Rl K B Z U a H' ρ'->Q a H') (f ds ρ)->g b Y H Q
def Rl.aiJ(R:Rl K B Z O Y H ρ)(h:DV O K H v d):Rl K B Z O (Y.set i (lD v)) H (ρ.set i (lD (.fz d))):=by
 show#[R.same,R.bo,R.bd,R.od,by rw[WL,WL];show R.len,λj x f=>?_,λj k xs o w m l b a=>?_]
 .rcases cP f with⟨rfl,e⟩|⟨g,f⟩
  .ext e;let:=yQ f;show#[v,by rw[W3,av W,av (by rw[R.len];show this)],h]
  .let(u,t,r):=R.slot j x f;show#[u,by rw[W3,ax (λz=>g z.symm)];show t,r]
 .rcases cP m with⟨rfl,n⟩|⟨q,m⟩
  .ext n
  .rcases cP l with⟨rfl,n⟩|⟨p,l⟩
   .ext n
   .rw[W3,ax (λz=>q z.symm)]at b;rw[W3,ax (λz=>p z.symm)]at a;show R.one j k xs o w m l b a
def Rl.akT(R:Rl K B Z O Y H ρ)(h:aaD K Z O Y H ρ v (.ow ds)):Rl K B Z O (Y.set i (lD v)) H (ρ.set i (lD (.ow ds))):=by
 let(a,N,rfl,J,I,G,F,q):=h;show#[R.same,R.bo,R.bd,R.od,by rw[WL,WL];show R.len,λj x m=>?_,λj k xs p w C l f b=>?_]
 .rcases cP m with⟨rfl,e⟩|⟨o,m⟩
  .ext e;let:=yQ m;show#[.ref a,by rw[W3,av W,av (by rw[R.len];show this)],a,N,W,J,I,G,F]
  .let(u,y,t):=R.slot j x m;show#[u,by rw[W3,ax (λz=>o z.symm)];show y,t]
 .rcases cP C with⟨rfl,M⟩|⟨r,g⟩
  .rcases cP l with⟨rfl,L⟩|⟨n,l⟩
   .rfl
   .rw[W3,ax (λz=>n z.symm)]at b
    rcases cP f with⟨_,e⟩|⟨z,_⟩
    .ext e;show a5 b (q k p l)
    .show a5 W z
  .let A:=g
   rw[W3,ax (λz=>r z.symm)]at f;rcases cP l with⟨rfl,M⟩|⟨n,l⟩
   .rcases cP b with⟨_,e⟩|⟨z,_⟩
    .ext e;show a5 f (q j xs g)
    .show a5 W z
   .rw[W3,ax (λz=>n z.symm)]at b;show R.one j k xs p w g l f b
def gN(i:Nat):FG:=λpv ρ=>match pv with
 |.ow ds=>.ok (ρ.set i (R (.ow ds)))
 |.fz d=>.ok (ρ.set i (R (.fz d)))
 |.pl j=>(Res.WN (zZ ρ (.pl j))).bind λb=>.ok (b.2.set i (R (.fz b.1)))
def cF:GO K E (wg i) (gN i):=by
 intro B Z O Y H ρ v pv Q R p w;cases pv with
 |ow ds=>show w O _ H .refl (R.akT p)
 |fz d=>show w O _ H .refl (R.aiJ p)
 |pl j=>let((d,a),q,w):=WR.WN (show WR K E B Z _ ((Res.WN (zZ ρ (.pl j))).bind λb=>.ok (b.2.set i (lD (.fz b.1))))from w);let(g,e,R2,f):=we R p q;show w g _ H e (R2.aiJ f)
def TK:Ti:=λds ρ=>match ds with
 |[]=>.ok ρ
 |_=>.bad
def Ls(f:FG)(g:Ti):Ti:=λds ρ=>match ds with
 |[]=>.bad
 |d::r=>(f (.fz d) ρ).bind λa=>g r a
def IU:Uf K E PZ TK:=by
 intro B Z O Y H ρ b ds Q R a w;cases a with
 |nil=>show#[W,w O Y H .refl R]
 |cons _ _=>show w.elim
def xh(o:GO K E t f)(n:Uf K E u g):Uf K E (Ku t u) (Ls f g):=by
 intro B Z O Y H ρ J ds Q R r w;cases r with
 |nil=>show w.elim
 |cons m l=>rename_i v J d ds;show#[_,_,W,o B Z O Y H ρ _ (.fz d) _ R m (WR.imp (WR.bind w) λe j A b F h y=>?_)];show n B Z A b F e _ _ Q y (l.ev h) (j.imp λi q z a C p R2=>q z a C (h.trans p) R2)
def U9:D->I (G D)
 |.tuple ds=>R ds
 |_=>Vt
def Ka(h:DX O K H x d)(e:U9 d=R ds):∃a xs,x=.ref a/\aaI O K H a xs/\Xx O K H xs ds:=by
 ext d<;>ext e;cases h with
 |tup h b=>show#[_,_,W,h,b]
def gT(n:Nat)(f:Ti):FG:=λpv ρ=>(Res.WN (AL ρ pv)).bind λd=>(Res.WN (U9 d)).bind λds=>if ds.length=n then f ds ρ else .bad
def JI(h:Uf K E t f):GO K E (Ry K n t) (gT n f):=by
 intro B Z O Y H ρ v pv Q R p w;let(d,g,w):=w.WN;let(ds,e,w):=w.WN;let(a,xs,rfl,i,b):=Ka (oB R p g) e;by_cases hn:ds.length=n
 .rw[av hn]at w;show#[a,xs,W,i.1,b.length.trans hn,h B Z O Y H ρ xs ds Q R b w]
 .rw[ax hn]at w;show w.elim
inductive Fl where
 |nx (ρ:bt)
 |rt (rv:RV)
 |bk (ρ:bt)
 |ct (ρ:bt)
abbrev FS:=bt->Res Fl
def aew(K:Vs)(B:cH)(Z:Hp)(O:cH)(H:Hp)(D:Ends):Fl->Prop
 |.nx ρ'=>∀U a H',Ev O H U H'->Rl K B Z U a H' ρ'->D.nx a H'
 |.bk ρ'=>∀U a H',Ev O H U H'->Rl K B Z U a H' ρ'->D.bk a H'
 |.ct ρ'=>∀U a H',Ev O H U H'->Rl K B Z U a H' ρ'->D.ct a H'
 |.rt b=>Fin B K Z D.rt b
def SO(K:Vs)(E:XK)(t:TS)(g:FS):Prop:=
 ∀(B:cH) (Z:Hp) (O:cH) (Y:St) (H:Hp) (ρ:bt) (D:Ends),Rl K B Z O Y H ρ->WR K E B Z (aew K B Z O H D) (g ρ)->t D Y H
def aew.ev{D:Ends}(e:Ev O H O1 H1)(h:aew K B Z O H D fl):aew K B Z O1 H1 D fl:=by
 cases fl with
 |nx ρ'=>show λU a H' b f=>h U a H' (e.trans b) f
 |bk ρ'=>show λU a H' b f=>h U a H' (e.trans b) f
 |ct ρ'=>show λU a H' b f=>h U a H' (e.trans b) f
 |rt g=>show h
def d9:FS:=λρ=>.ok (.nx ρ)
def bU(f g:FS):FS:=λρ=>(f ρ).bind λa=>match a with
 |.nx b=>g b
 |a=>.ok a
def vh(f:FE):FS:=λρ=>(f ρ).bind λa=>.ok (.nx a.2)
def gG(f:FE)(g:FG):FS:=λρ=>(f ρ).bind λa=>(g a.1 a.2).bind λb=>.ok (.nx b)
def mn(c:FT)(f g:FS):FS:=λρ=>(c ρ).bind λa=>if a.1=P then f a.2 else g a.2
def Gu(ρ:bt):PV->I RV
 |.fz d=>R (.fz d)
 |.ow ds=>R (.ow ds)
 |.pl i=>match ρ[i]? with
  |some (R (.fz d))=>R (.fz d)
  |some (R (.ow ds))=>R (.ow ds)
  |_=>Vt
def d6(f:FE):FS:=λρ=>(f ρ).bind λa=>(Res.WN (Gu a.2 a.1)).bind λb=>.ok (.rt b)
theorem Oz:SO K E Hj d9:=λB Z O Y H ρ D R w=>w O Y H .refl R
def ci(j:SO K E t f)(i:SO K E u g):SO K E (NB t u) (bU f g):=by
 intro B Z O Y H ρ D R w;show j B Z O Y H ρ {D with nx:=u D} R (WR.imp (WR.bind w) λh b=>?_);cases h with
 |nx a=>show λn e o l m=>i B Z n e o a D m (WR.imp b λh q=>q.ev l)
 |rt p=>show b
 |bk a=>show b
 |ct a=>show b
def Dy(h:EO K E t f):SO K E (EU t) (vh f):=by intro B Z O Y H ρ D R w;show h B Z O Y H ρ _ R (w.bind.imp λa b i x j e g l=>b i Y j e g)
def oP(h:EO K E t f)(m:GO K E g z):SO K E (FP t g) (gG f z):=by intro B Z O Y H ρ D R w;show h B Z O Y H ρ _ R (w.bind.imp λa j r x y o p l=>?_);show m B Z r Y y a.2 x a.1 _ p l (j.bind.imp λe i q b u n R2=>i q b u (o.trans n) R2)
def TY(n:TTO K E c y)(p:SO K E t f)(o:SO K E u g):SO K E (Mf c t u) (mn y f g):=by
 intro B Z O Y H ρ D R w;show n B Z O Y H ρ _ R (w.bind.imp λa h l m i j=>?_);let(b,e):=a;cases b with
 |true=>show p B Z l Y m e D j (WR.imp h λr q=>q.ev i)
 |false=>show o B Z l Y m e D j (WR.imp h λr q=>q.ev i)
def QC{pv:PV}(R:Rl K B Z O Y H ρ)(p:aaD K Z O Y H ρ v pv)(e:Gu ρ pv=lD C)(w:Fin B K Z Q C):Q v H:=by
 let ow:∀{a:M} {A:G V} {ds:G D},O a->Z a=Vt->H a=lD (.lst A)->Xx O K H A ds->Fin B K Z Q (.ow ds)->Q (.ref a) H:=λ{a A ds} m l g f w=>
  w a A H R.same l g (f.ev (Ev.sub λb z=>z.elim (R.bo b) λe=>by rw[e];show m))
 let fz:∀{d:D},DV O K H v d->Fin B K Z Q (.fz d)->Q v H:=λ{d} h w=>w v H R.same (h.ev (Ev.sub R.bo));cases pv with
 |fz d=>ext e;show fz p w
 |ow ds=>ext e;let(a,A,rfl,m,l,g,f,y):=p;show ow m l g f w
 |pl i=>
  let t:=p;unfold Gu at e;dsimp only at e;cases q:ρ[i]? with
  |none=>rw[q]at e;ext e
  |some o=>
   cases o with
   |none=>rw[q]at e;ext e
   |some x=>
    let(u,r,n):=R.slot i x q;rw[t]at r;ext r;rw[q]at e;cases x with
    |fz d=>ext e;show fz n w
    |ow ds=>ext e;let(a,A,rfl,m,l,g,f):=n;show ow m l g f w
    |pl j=>show n.elim
def jT(h:EO K E t f):SO K E (Q7 t) (d6 f):=by intro B Z O Y H ρ D R w;show h B Z O Y H ρ _ R (w.bind.imp λa b j x l i g e=>?_);let(m,q,b):=b.WN;show QC g e q b
def Bp(K:Vs)(J:It)(O:cH)(H:Hp)(ds:G D):Prop:=∀U H',Ev O H U H'->p7 U H'->
 (∀i,i<ds.length->J.go i H'/\∀x a,J.yld i H' x a->XM H' a/\∃d,ds[i]?=R d/\DV U K a x d)/\J.stop ds.length H'
abbrev FI:=bt->Res (G D×bt)
def IO(K:Vs)(E:XK)(b:TI)(e:FI):Prop:=
 ∀(B:cH) (Z:Hp) (O:cH) (Y:St) (H:Hp) (ρ:bt) (a:It->Hp->Prop),Rl K B Z O Y H ρ->WR K E B Z (λr=>∀U J H',Ev O H U H'->Rl K B Z U Y H' r.2->Bp K J U H' r.1->a J H') (e ρ)->b Y H a
def sK(gt:FG)(b:FS):G D->FS
 |[],ρ=>.ok (.nx ρ)
 |d::r,ρ=>(gt (.fz d) ρ).bind λa=>(b a).bind λe=>match e with
  |.nx f=>sK gt b r f
  |.ct f=>sK gt b r f
  |.bk f=>.ok (.nx f)
  |.rt g=>.ok (.rt g)
def vW(e:FI)(gt:FG)(b:FS):FS:=λρ=>(e ρ).bind λa=>sK gt b a.1 a.2
def Cf(c:IO K E wi fi)(k:GO K E g gt)(s:SO K E tb b):SO K E (RT wi g tb) (vW fi gt b):=by
 intro B Z O Y H ρ D R w;show c B Z O Y H ρ _ R (w.bind.imp λa N G J X S T Q=>?_);let(ds,F):=a;dsimp only at N Q T;show#[λi m f H'=>m=ds.length - i/\i<=ds.length/\∃O2 ρ2,Ev G X O2 H'/\Rl K B Z O2 f H' ρ2/\WR K E B Z (aew K B Z O H D) (sK gt b (ds.drop i) ρ2),#[_,W,Wx _,G,F,.refl,T,N],?_];rintro i m n M ⟨rfl,c,O2,ρ2,e2,R2,w2⟩;let(go,o):=Q O2 M e2 R2.od;by_cases z:i<ds.length
 .let(g1,g2):=go i z
  show .inr #[g1,λf H'=>i+1<=ds.length/\∃O2 ρ2,Ev G X O2 H'/\Rl K B Z O2 f H' ρ2/\WR K E B Z (aew K B Z O H D) (sK gt b (ds.drop (i+1)) ρ2),λf H' #[h1,h2]=>#[ds.length - (i+1),by ext,W,h1,h2],λx L y=>?_];let(P,d,hd,dv):=g2 x L y;let ed:ds.drop i=d::ds.drop (i+1):=by let(_,q):=Vv.mp hd;rw[YB z,q]
  rw[ed]at w2;let e3:Ev O2 M O2 L:=Ev.grow P;show k B Z O2 n L ρ2 x (.fz d) _ (R2.grow P) dv (WR.imp (WR.bind w2) λC w3 O4 A H4 e4 R4=>?_);let l:=e2.trans (e3.trans e4);show s B Z O4 A H4 C _ R4 (WR.imp (WR.bind w3) λfl u=>?_);cases fl with
  |nx h=>show λt j I p r=>#[z,t,h,l.trans p,r,u]
  |ct h=>show λt j I p r=>#[z,t,h,l.trans p,r,u]
  |bk h=>show λt j I p r=>u t j I (S.trans (l.trans p)) r
  |rt rv=>show u
 .let e:i=ds.length:=by ext
  subst e;rw[Y0 (VP _)]at w2;show .inl #[o,w2 O2 n M (S.trans e2) R2]
def gv:D->I (G D)
 |.tuple ds=>R ds
 |.list ds=>R ds
 |_=>Vt
def Je(K:Vs)(e:TE):TI:=λY H R=>e Y H λx b=>∃a,x=.ref a/\(((∃xs,SqL K b a xs)/\R (UG K a) b)\/((∃xs,ZQ K b a xs)/\R (Ut K a) b))
def eR(y:PE X l z):PI X C l (Je X.K z):=by
 intro i s Y H R I h;show cR (y i s Y H _ I h) λv g #[x,r,f,t,u]=>?_;let(a,e,q):=u;subst e;ext t;rcases q with⟨⟨xs,j⟩,q⟩|⟨⟨xs,j⟩,q⟩
 .let(n,A,p,w):=f.list j
  show ZT p.isList ?_;show#[g.heap.objs.size,[g.heap.objs.size],_,_,r,W,f.kept λb o e=>br _ e,FK a _,#[_,cj _ W,W,W],λb m=>?_,q];let e:b=g.heap.objs.size:=by simpa using m
  subst e;show f.acj (VP _) (f.W6.fresh (VP _))
 .let(n,A,p,w):=f.tuple j
  show abr (show g.heap.IsTuple a n.toArray from p) ?_;show#[g.heap.objs.size,[g.heap.objs.size],_,_,r,W,f.kept λb o e=>br _ e,B4 a _,#[_,cj _ W,W,W],λb m=>?_,q];let e:b=g.heap.objs.size:=by simpa using m
  subst e;show f.acj (VP _) (f.W6.fresh (VP _))
def EA(h:ab3 O K H a xs)(hd:Xx O K H xs ds):Bp K (UG K a) O H ds:=by intro U H' e n;let f:=h.ev e;let b:=hd.ev e;show#[λi p=>?_,#[xs,f.1.sq,by rw[hd.length];show VP _]];let(x,l,_):=b.get (Vz p);show#[#[xs,x,f.1.sq,l],?_];rintro y m ⟨rfl,o⟩;let(d,j,g):=b.ahk (o xs f.1.sq);show#[XM.refl _,d,j,g]
def Ir(h:aaI O K H a xs)(hd:Xx O K H xs ds):Bp K (Ut K a) O H ds:=by intro U H' e n;let f:=h.ev e;let b:=hd.ev e;show#[λi p=>?_,#[xs,f.1,by rw[hd.length];show VP _]];let(x,l,_):=b.get (Vz p);show#[#[xs,x,f.1,l],?_];rintro y m ⟨rfl,o⟩;let(d,j,g):=b.ahk (o xs f.1);show#[XM.refl _,d,j,g]
def iq(c:FE):FI:=λρ=>(c ρ).bind λa=>(Res.WN (zZ a.2 a.1)).bind λb=>(Res.WN (gv b.1)).bind λds=>.ok (ds,b.2)
def iJ(h:EO K E u y):IO K E (Je K u) (iq y):=by
 intro B Z O Y H ρ r R w;show h B Z O Y H ρ _ R (w.bind.imp λa b t x l i p n=>?_);let((d,m),q,b):=b.WN;let(j,g,R2,o):=we p n q;let(ds,e,b):=b.WN;dsimp only at e;cases o with
 |tup h f=>ext e;show#[_,W,.inr #[#[_,h.1],b j _ l (i.trans g) R2 (Ir h f)]]
 |lst h f=>ext e;show#[_,W,.inl #[#[_,h.1.sq],b j _ l (i.trans g) R2 (EA h f)]]
 |_=>ext e
def gB(lo:Int)(n:Nat):G D:=(VI n).map λ(k:Nat)=>.int (lo+(k:Int))
def AE:Bp K (Uh lo n) O H (gB lo n):=by
 intro U H' e f;let a:(gB lo n).length=n:=by ext gB;rw[Vw,V2]
 show#[λi g=>?_,by show n<=_;rw[a];show VP _];rw[a]at g;show#[g,?_];rintro x b ⟨rfl,rfl⟩;show#[XM.refl _,.int (lo+i),by ext gB;rw[VN,aes g];rfl,.int _]
def lj(i:Int):Prop:= -(2^62)<=i/\i<2^62
noncomputable instance(i:Int):Decidable (lj i):=by ext lj;infer_instance
def ju:G D->I (G D)
 |[.int j]=>if lj j then R (gB 0 j.toNat)else Vt
 |_=>Vt
def pS(f:G D->I (G D))(b:FA):FI:=λρ=>(b ρ).bind λa=>(Res.WN (zt a.2 a.1)).bind λds=>(Res.WN (f ds)).bind λxs=>.ok (xs,a.2)
def jP(h:AO K E u y):IO K E (Lk u) (pS ju y):=by
 intro B Z O Y H ρ t R w;show h B Z O Y H ρ _ R (w.bind.imp λa e p z r o g l=>?_);let(ds,q,e):=e.WN;let(xs,b,e):=e.WN;let i:=CL g l q;unfold ju at b;split at b
 .rename_i j
  split at b
  .rename_i f
   ext b;cases i with
   |cons n m=>ext m;ext n;show#[j,W,f.1,f.2,e p _ r o g AE]
  .ext b
 .ext b
end
section
variable{K:Vs}{E:XK}{B O Y:cH}{X H H':Hp}{Z:St}{ρ ρ':bt}{v:V}
def IZ:I PV->I PV
 |some (.fz d)=>R (.fz d)
 |_=>U
def dW(ρ:bt):bt:=ρ.map IZ
def C2{i:Nat}(h:(dW ρ)[i]?=R (R x)):∃d,x=.fz d/\ρ[i]?=R (R (.fz d)):=by
 unfold dW at h;rw[VN]at h;cases q:ρ[i]? with
 |none=>rw[q]at h;ext h
 |some o=>
  rw[q]at h;let a:=VZ h;unfold IZ at a;split at a
  .ext a;show#[_,W,W]
  .ext a
def ww(ρ:bt):G Nat->I (G D×bt)
 |[]=>R ([],ρ)
 |j::r=>match zZ ρ (.pl j)with
  |some (d,b)=>(match ww b r with
   |some (c,a)=>R (d::c,a)
   |none=>U)
  |none=>U
def GP(R:Rl K B X O Z H ρ)(h:zZ ρ (.pl i)=lD (d,ρ')):∃v,Z[i]?=lD (lD v):=by
 let a:toS ρ i ρ[i]?=lD (d,ρ'):=h;cases q:ρ[i]? with
 |none=>rw[q]at a;ext a
 |some o=>
  cases o with
  |none=>rw[q]at a;ext a
  |some x=>let(v,b,_):=R.slot i x q;show#[v,b]
theorem zj:∀{f:G Nat} {ds:G D} {O:cH} {ρ ρ':bt},Rl K B X O Z H ρ->ww ρ f=lD (ds,ρ')->∃Y k,Ev O H Y H/\Rl K B X Y Z H ρ'/\Xx Y K H k ds/\f.map (λj=>(Z[j]?).join)=k.map lD
 |[],_,O,_,_,y,e=>by ext e;show#[O,[],.refl,y,.nil,W]
 |j::r,_,O,ρ,ρ',y,e=>by
  unfold ww at e;cases q:zZ ρ (.pl j)with
  |none=>rw[q]at e;ext e
  |some p=>
   let(d,a):=p;rw[q]at e;dsimp only at e;cases z:ww a r with
   |none=>rw[z]at e;ext e
   |some i=>let(c,h):=i;rw[z]at e;ext e;let(v,b):=GP y q;let(w,m,t,o):=we (pv:=.pl j) y b q;let(u,k,g,R2,n,l):=zj t z;show#[u,v::k,m.trans g,R2,.cons (o.ev g) n,by rw[V1,V1,l,b];rfl]
def eX(gt:FG)(c:FT)(f:FE):G D->bt->G D->Res (G D)
 |[],_,acc=>.ok acc
 |d::r,ρ,acc=>(gt (.fz d) ρ).bind λe=>(c e).bind λb=>if b.1=P then(f b.2).bind λa=>(Res.WN (zZ a.2 a.1)).bind λx=>
   if acc.length<1000000 then eX gt c f r (dW x.2) (acc++[x.1])else .bad
  else eX gt c f r (dW b.2) acc
def oi:Res α->Res α
 |.er _=>.bad
 |r=>r
def fR(n:Nat)(b:G Nat)(e:FI)(gt:FG)(f:FT)(g:FE):FE:=λρ=>(e ρ).bind λa=>(Res.WN (ww a.2 b)).bind λc=>
 (oi (eX gt f g a.1 (VR n U++c.1.map λd=>R (.fz d)) [])).bind λxs=>.ok (.ow xs,c.2)
def Dl{own:G Str}(h:own.length=n):own.map (λ_=>(U:I V))=VR n U:=by
 subst h
 induction own with
 |nil=>rfl
 |cons x r a=>rw[V1,a,V0,WW]
def Ei(h:WR K E B X b (oi r)):∃a,r=.ok a/\b a:=by
 cases r with
 |ok a=>show#[a,W,h]
 |er x=>show h.elim
 |bad=>show h.elim
def Tx(K:Vs)(J:It)(O:cH)(H:Hp)(ds:G D):Prop:=∀Y H',Ev O H Y H'->XM H H'->p7 Y H'->
 (∀i,i<ds.length->J.go i H'/\∀x a,J.yld i H' x a->XM H' a/\∃d,ds[i]?=R d/\DV Y K a x d)/\J.stop ds.length H'
def UV(K:Vs)(E:XK)(b:TI)(e:FI):Prop:=
 ∀(B:cH) (X:Hp) (O:cH) (Z:St) (H:Hp) (ρ:bt) (a:It->Hp->Prop),Rl K B X O Z H ρ->WR K E B X (λr=>∀Y J H',Ev O H Y H'->Rl K B X Y Z H' r.2->Tx K J Y H' r.1->a J H') (e ρ)->b Z H a
theorem IO.s(h:IO K E wi fi):UV K E wi fi:=λB X O Z H ρ f R w=>h B X O Z H ρ f R (w.imp λr q Y J H' e R a=>q Y J H' e R λg i b _ n=>a g i b n)
def Js(c:own.length=n)(hf:fv.map (·.2)=fj)
  (hi:UV K E wi fi) (hg:GO K E0 g gt) (ht:TTO K E0 tc ft) (he:EO K E0 te fe):EO K E (uZ own fv wi g tc te) (fR n fj fi gt ft fe):=by
 intro B X O Z H ρ Q R w;show hi B X O Z H ρ _ R (w.bind.imp λa w1 O1 J H1 e1 R1 it=>?_);let(ds,ρ1):=a;let((cs,ρ2),qc,w1):=w1.WN;dsimp only at qc it;let(I,vs,e2,R2,dvs,hvs):=zj R1 qc;let(xs,qx,w1):=Ei (WR.bind w1);intro l F;let hB:∀{H':Hp},XM H1 H'->H' l≠Vt->∀a,dm I l a->H' a≠Vt:=λ{H'} s nd a h z=>h.elim (λq=>R2.od a (s.free z) q) λe=>nd (by rw[<-e];show z);show#[λi m L H'=>m=ds.length - i/\i<=ds.length/\∃(A:bb D) (G:bb V) (t:bt),XM H1 H'/\H' l=lD (.lst G)/\Xx (dm I l) K H' G A/\L.length=t.length/\(∀(j:Nat) (x:PV),t[j]?=lD (lD x)->∃d u,x=PV.fz d/\L[j]?=lD (lD u)/\DV (dm I l) K H' u d)/\eX gt ft fe (ds.drop i) t A=.ok xs,
  #[_,W,Wx _,[],[],_,cG F _,aX,.nil,?_,λj x M=>?_,qx],?_]
 .ext jV;rw[Vy,Vy,Vw,Vw,Wu,Vw,c,<-dvs.length];let:=dP ZV hvs;rw[Vw,Vw,<-hf,Vw]at this;ext
 .let hm:fv.map (λp=>(Z[p.2]?).join)=vs.map lD:=by rw[<-hvs,<-hf,Wd];rfl
  ext jV;rw[Dl c,hm];by_cases hj:j<n
  .rw[VQ (by rw[Wu];show hj),X8,av hj]at M;ext M
  .rw[Wk (by rw[Wu];ext),Wu,VN]at M⊢
   cases qd:cs[j - n]? with
   |none=>rw[qd]at M;ext M
   |some d=>rw[qd]at M;ext M;let(u,hu,du):=dvs.get qd;show#[d,u,W,by rw[hu];rfl,du.ev (Ev.add (cG F _) F)]
 .rintro i m L H' ⟨rfl,hi,A,G,t,s,hD,dys,hl,hsl,f⟩
  let nD:H' l≠Vt:=by rw[hD];simp
  let no':=λa z h=>hB s nD a h z;let ev1:=e2.trans (Ev.add s F);let(go,stop):=it (dm I l) H' ev1 s no';by_cases ZH:i<ds.length
  .let(g1,g2):=go i ZH
   show .inr #[g1,λC N=>i+1<=ds.length/\∃(A:bb D) (G:bb V) (t:bt),XM H1 N/\N l=lD (.lst G)/\Xx (dm I l) K N G A/\C.length=t.length/\(∀(j:Nat) (x:PV),t[j]?=lD (lD x)->∃d u,x=PV.fz d/\C[j]?=lD (lD u)/\DV (dm I l) K N u d)/\eX gt ft fe (ds.drop (i+1)) t A=.ok xs,
    λC N #[Uz0,h2]=>#[ds.length - (i+1),by ext,W,Uz0,h2],λx H3 y=>?_]
   let(s3,d,hd,dv):=g2 x H3 y;let ed:ds.drop i=d::ds.drop (i+1):=by let(_,q):=Vv.mp hd;rw[YB ZH,q]
   rw[ed]at f;let hD3:=s3 _ _ hD;let nD3:H3 l≠Vt:=by rw[hD3];simp
   let sv:=s.trans s3;let RC:Rl K (dm I l) H3 (dm I l) L H3 t:=#[XM.refl _,λ_ h=>h,hB sv nD3,λa z h=>hB sv nD3 a h z,hl,λj x M=>by let(d,u,rfl,Uz0,h2):=hsl j x M;show#[u,Uz0,h2.ev (Ev.grow s3)],λj k xs G w hj=>by let(d,u,e,_):=hsl j _ hj;ext e];unfold eX at f;let back:∀{O5:cH} {C:St} {N:Hp} {Pz0:bt} {H6:Hp},Rl K (dm I l) H3 O5 C N Pz0->(∀b o,b≠l->N b=lD o->H6 b=lD o)->C.length=(dW Pz0).length/\∀(j:Nat) (x:PV),(dW Pz0)[j]?=lD (lD x)->∃d u,x=PV.fz d/\C[j]?=lD (lD u)/\DV (dm I l) K H6 u d:=λ{O5 C N Pz0 H6} T k=>by show#[by ext dW;rw[Vw];show T.len,λj x M=>?_];let(d,rfl,hxx):=C2 M;let(u,Uz0,h2):=T.slot j _ hxx;show#[d,u,W,Uz0,DV.ev (λb o h n=>#[k b o (λe=>n (.inr e)) h,n]) (DV.ev (Ev.sub T.bo) h2)]
   show hg _ _ _ L H3 t x (.fz d) _ RC dv ?_;cases qg:gt (.fz d) t with
   |er z=>rw[qg]at f;ext f
   |bad=>rw[qg]at f;ext f
   |ok ρ3=>
    rw[qg,eg]at f;intro O4 σ4 H4 e4 R4;show ht _ _ _ σ4 H4 ρ3 _ R4 ?_;cases qt:ft ρ3 with
    |er z=>rw[qt]at f;ext f
    |bad=>rw[qt]at f;ext f
    |ok b=>
     let(b,ρ4):=b;rw[qt,eg]at f;intro O5 N e5 T;cases b with
     |false=>rw[ax VU]at f⊢;let(l5,k5):=back T λb o _ h=>h;show#[ZH,A,G,dW ρ4,sv.trans T.same,T.same _ _ hD3,?_,l5,k5,f];show dys.ev (Ev.grow (s3.trans T.same))
     |true=>
      rw[av W]at f⊢;show he _ _ _ σ4 N ρ4 _ T ?_;cases qe:fe ρ4 with
      |er z=>rw[qe]at f;ext f
      |bad=>rw[qe]at f;ext f
      |ok r=>
       rw[qe,eg]at f;intro O6 yv H6 e6 R6 p6;cases q7:zZ r.2 r.1 with
       |none=>rw[q7]at f;ext f
       |some xr=>
        let(xd,ρ7):=xr;rw[q7]at f;let(O7,e7,R7,dv7):=we R6 p6 q7;let hD7:=R7.same _ _ hD3;let S:(if A.length<1000000 then eX gt ft fe (ds.drop (i+1)) (dW ρ7) (A++[xd])else .bad)=.ok xs:=f;by_cases hl6:A.length<1000000
        .rw[av hl6]at S
         let up:∀b o,b≠l->H6 b=lD o->bL H6 l (.lst (G++[yv])) b=lD o:=λb o hb h=>by rw[aF hb];show h
         let eS:Ev (dm I l) H6 (dm I l) (bL H6 l (.lst (G++[yv]))):=λb o h n=>#[up b o (λe=>n (.inr e)) h,n];let akW:=dys.ev (Ev.grow (s3.trans R7.same));let(l5,k5):=back R7 up;show#[G,hD7,ub (by rw[dys.length];show hl6),ZH,A++[xd],G++[yv],dW ρ7,λb o h=>?_,aX,?_,l5,k5,S]
         .rw[aF (cB h F)];show R7.same _ _ (sv _ _ h)
         .show(akW.append (.cons (DV.ev (Ev.sub R7.bo) dv7) .nil)).ev eS
        .rw[ax hl6]at S;ext S
  .let e:i=ds.length:=by ext
   subst e;rw[Y0 (VP _)]at f;let f:=f;ext f;show .inl #[stop,?_];show w1 (dm I l) (.ref l) H' (e1.trans ev1) (R2.add s F nD) #[l,G,W,.inr W,R2.agE F,hD,dys,λk es hk z=>?_];let(u,Uz0,b,us,e2,g1,g2,g3,g4):=R2.slot k _ hk;rw[z]at Uz0;ext Uz0;ext e2;rw[F]at g3;ext g3
theorem gc(c:own.length=n)(e:l.map (·.2)=o)
  (d:IO K E h p) (b:GO K E0 g gt) (a:TTO K E0 j m) (f:EO K E0 i q):EO K E (uZ own l h g j i) (fR n o p gt m q):=Js c e d.s b a f
def d7(F:FN)(n:Nat)(c:FA):FE:=λρ=>(c ρ).bind λa=>(Res.WN (sH a.2 a.1)).bind λb=>if b.1.length=n then(oi (F b.1)).bind λe=>.ok (e.pv,b.2)else .bad
def md(c:AO K E J L):EO K E (lS (rX K n F) [] E0 J) (d7 F n L):=by
 intro B X O Z H ρ Q R w;show c B X O Z H ρ _ R (w.bind.imp λa g C N G p t j=>?_);let((ds,f),q,b):=g.WN;let(y,o,R2,e):=uK t j q;dsimp only at b;by_cases hn:ds.length=n
 .rw[av hn]at b;let(S,h,b):=Ei (WR.bind b);rw[Wi];show#[e.length.trans hn,y,ds,λa z l=>R2.od a l z,e,?_];rw[h];show mF R2 λu v A m r i=>b u v A (p.trans (o.trans m)) r i
 .rw[ax hn]at b;show b.elim
end
def iE(N:Nat)(g:FS):FN:=λds=>(g (ds.map (λd=>R (.fz d))++VR (N - ds.length) U)).bind λa=>match a with
 |.rt b=>.ok b
 |.nx _=>.ok (.fz .none)
 |_=>.bad
def KC(g:∀a,t a->H a≠U)(l:Xx t K H y ds):Rl K t H t (L2.start N y) H (ds.map (λd=>R (.fz d))++VR (N.length - ds.length) U):=by
 let n:=l.length;show#[XM.refl _,λ_ h=>h,g,λa z h=>g a h z,?_,λi x m=>?_,λi j xs r w u=>?_]
 .ext L2.start;rw[Vy,Vy,Vw,Vw,Wu,Wu,n]
 all_goals
  let b:∀{i:Nat} {x:PV},(ds.map (λd=>R (PV.fz d))++VR (N.length - ds.length) U)[i]?=R (R x)->∃d,x=.fz d/\ds[i]?=R d:=λ{i x} h=>by
   by_cases u:i<ds.length
   .rw[VQ (by rw[Vw];show u),VN]at h
    cases q:ds[i]? with
    |none=>rw[q]at h;ext h
    |some d=>rw[q]at h;ext h;show#[d,W,W]
   .rw[Wk (by rw[Vw];ext),X8]at h;split at h<;>ext h
 .let(d,rfl,o):=b m;let(v,f,p):=l.get o;show#[v,?_,p];let u:=(Vv.mp f).1;ext L2.start;rw[VQ (by rw[Vw];show u),VN,f];rfl
 .let(d,e,_):=b u;ext e
def Vc(F:YN K x qual st f fd)(S:Yk N J (aD st))(c:J.length=n)
  (r:∀(a:Vu) (A:Wl) (outer:G Env) (s:VG) (H:Hp) (E:XK),X3 k (A.deeper (Wg qual (aD st) s.heap.objs.size f a))->
   ∃t,PSs (gw dX z w K T base N qual (aD st) f a A outer s H E).nox (cJ st) t/\SO K E t g):FnOk z w K T base dX (k+1) f fd J (rX K n (iE N.length g)):=by
 show F.ok S (λL H Q E h=>h.1.trans c.symm) (λa A outer s H L Q E l h=>?_);let(t,i,j):=r a A outer s H E l;let(v,B,ds,m,p,h):=h;show#[t,i,j B H B _ H _ _ (KC m p) (WR.imp (WR.bind h) λo q=>?_)];cases o with
 |rt X=>show q
 |nx C=>show λy b u e R=>q .XX u R.same .XX
 |bk C=>show q.elim
 |ct C=>show q.elim
end L3
namespace L3
open PySem PySem.Spec PyProof.Rows L2
def OpR.or(h:OpR X f r)(c:OpR X f r'):OpR X f (λx y H Q=>r x y H Q\/r' x y H Q):=by
 intro a s b H x y v u Q I g e q;rcases q with q|q
 .show h a s b H x y v u Q I g e q
 .show c a s b H x y v u Q I g e q
def RZ(I:Inv X pins σ H s)(h:ZI X.K H l xs):xs.length<=VT/\∃(a:G B) (n:Nat),Vals xs a/\xs.length=a.length/\s.heap.get? l=R {cls:=.type "list",data:=.seq a.toArray n}:=by
 rcases h with(h|⟨o,h⟩)|⟨a,n,g,f,b⟩
 .show I.aiv h
 .let(_,z,a,n,r,e):=I.W6 l _ h;show#[z,a,n,r,r.length,e]
 .show#[f,a,n,b,b.length,I.kIn _ _ g]
def Pp(K:Vs):R2:=λx y H Q=>∃l b xs zs,x=.ref l/\y=.ref b/\ZI K H l xs/\ZI K H b zs/\xs.length+zs.length<=VT/\∀p,H p=U->Q (.ref p) (bL H p (.lst (xs++zs)))
def Ox:OpR X (Xz .Add) (Pp X.K):=by
 intro f s B H x y v u Q I j i h;let(l,b,xs,C,rfl,rfl,p,t,G,q):=h;ext j;ext i;let(z,g,n,r,J,e):=RZ I p;let(E,a,F,m,o,A):=RZ I t;show PySem.P.add_list e A ?_ (by rw[VY,VY];ext);let w:g.toArray++a.toArray=(g++a).toArray:=by simp
 rw[w];show#[.ref _,_,I.aja (r.append m) (by rw[Vy];ext),W,q _ I.fresh]
def Pf(K:Vs):R2:=λx y H Q=>∃l k xs,x=.ref l/\y=.int k/\ZI K H l xs/\ -(2^63)<=k/\k<2^63/\xs.length*k.toNat<=VT/\
 ∀p,H p=U->Q (.ref p) (bL H p (.lst (VR k.toNat xs).flatten))
def Os:OpR X (Xz .Mult) (Pf X.K):=by
 intro p s P H x y v u Q I G E h;let(l,k,xs,rfl,rfl,L,N,M,w,q):=h;ext G;let(t,rfl):=E;let(z,b,n,r,J,e):=RZ I L;let f:b.toArray.size*k.toNat<=VT:=by rw[VY,<-J];show w
 let j:¬b.toArray.size*k.toNat>(2^63 - 1)/8:=by
  let:(VT:Nat)<=(2^63 - 1)/8:=by decide
  ext
 let i:¬(!Builtin.List.listFitsIndex k)=Vx:=by rw[fitsIndex_both N M];show VU
 let g:¬Builtin.List.listTooLong (b.toArray.size*k.toNat)=Vx:=by rw[Ij f];show VU
 let o:aat (λB A=>B++A) #v[] (VR (if b.toArray.isEmpty=Vx then 0 else k.toNat) b.toArray)=(VR k.toNat b).flatten.toArray:=by
  let O:=λm=>by let:=rp b m [];rw[YS]at this;show this
  rw[O];cases b with
  |nil=>simp
  |cons a R=>rw[ax (by simp)]
 show aef () #[_,e,W] (λC=>acd C k t) noFill_list_mul F.fills_int_mul F.slot_int_rmul repeat_list F.slot_int_index.lookup
  (aah F.slot_int_rmul (acd s k t) F.entry_int_rmul (F.args_int_rmul_2 _ _) (int___rmul___int_list k t l b.toArray n)
   #[e,W,#[_,e,W],aah F.slot_list_mul #[_,e,W] F.entry_list_mul (F.args_list_mul_2 _ _) (AutoListH.list___mul___list_int_3 l b.toArray n k t i j g) #[e,?_]])
 rw[o];show#[.ref _,_,I.aja (r.rep k.toNat) (by rw[D4,Nat.mul_comm];show w),W,q _ I.fresh]
section
variable{K:Vs}
def fI(g:Int->Int->Int):D->D->I RV
 |.int i,.int j=>R (.fz (.int (g i j)))
 |_,_=>U
def fB(g:Int->Int->Bool):D->D->I RV
 |.int i,.int j=>R (.fz (.bool (g i j)))
 |_,_=>U
def Qs(C:Int->Int->Bool)(g:Int->Int->Int):D->D->I RV
 |.int i,.int j=>if C i j=P then R (.fz (.int (g i j)))else U
 |_,_=>U
def AQ(h:fI g e b=R a):∃i j,e=.int i/\b=.int j/\a=.fz (.int (g i j)):=by
 unfold fI at h;split at h
 .ext h;show#[_,_,W,W,W]
 .ext h
def Pw:pB K (Be λi j=>.int (g i j)) (fI g):=by intro O H x y l f h Q n b a e q;let(i,j,rfl,rfl,rfl):=AQ e;ext b;ext a;show#[i,j,W,W,q.at (.int _)]
def HX:pB K (Be λi j=>.bl (g i j)) (fB g):=by
 intro O H x y l f h Q n b a e q;unfold fB at e;split at e
 .ext e;ext b;ext a;show#[_,_,W,W,q.at (.bl _)]
 .ext e
def uh(h:∀i j,C i j=P->m i j):pB K (rI m λi j=>.int (g i j)) (Qs C g):=by
 intro O H x y p l o Q n b a e q;unfold Qs at e;split at e
 .split at e
  .rename_i f;ext e;ext b;ext a;show#[_,_,W,W,h _ _ f,q.at (.int _)]
  .ext e
 .ext e
theorem GR(h:DX O K H x (.list ds)):∃a xs,x=.ref a/\ZI K H a xs/\Xx O K H xs ds:=h
theorem EL(h:DX O K H x (.tuple ds)):∃a xs,x=.ref a/\aaI O K H a xs/\Xx O K H xs ds:=Ka h W
def Ja(K:Vs):R2:=λx y H Q=>Be (λi j=>.int (i+j)) x y H Q\/Pp K x y H Q\/OO K x y H Q
theorem lu:OpR X (Xz .Add) (Ja X.K):=OpR.or Qm (OpR.or Ox Np)
def dQ:D->D->I RV
 |.int i,.int j=>R (.fz (.int (i+j)))
 |.list xs,.list a=>if xs.length+a.length<=1000000 then R (.ow (xs++a))else U
 |.tuple xs,.tuple a=>if xs≠[]/\xs.length+a.length<=1000000 then R (.fz (.tuple (xs++a)))else U
 |_,_=>U
theorem E4(h:n<=1000000):n<=VT:=Wt h ()
def Xx.ne(h:Xx O K H vs ds):vs=[]↔ds=[]:=by ext h<;>simp
def lB:pB K (Ja K) dQ:=by
 intro O H x y u r t Q n m l e q;unfold dQ at e;split at e
 .ext e;ext m;ext l;show .inl #[_,_,W,W,q.at (.int _)]
 .split at e
  .rename_i h;ext e;let(a,xs,rfl,i,f):=GR m;let(b,j,rfl,o,g):=GR l;show .inr (.inl #[a,b,xs,j,W,W,i,o,E4 (by rw[f.length,g.length];show h),Fin.new (f.append g) q])
  .ext e
 .split at e
  .rename_i h;ext e;let(a,xs,rfl,i,f):=EL m;let(b,j,rfl,o,g):=EL l;show .inr (.inr #[a,b,xs,j,W,W,i.1,o.1,λz=>h.1 (f.ne.mp z),E4 (by rw[f.length,g.length];show h.2),λz=>?_,λ_=>Fin.aeG (f.append g) n q]);let p:=g.ne.mp z;subst p;rw[Wi]at q;show q.at (.tup i f)
  .ext e
 .ext e
def KJ(K:Vs):R2:=λx y H Q=>rI agd (λi j=>.int (i*j)) x y H Q\/Pf K x y H Q
theorem LK:OpR X (Xz .Mult) (KJ X.K):=OpR.or RA Os
def i8(i:Int):Bool:=decide (-(2^64)<i/\i<2^64)
theorem vv(h:i8 i=P): -(2^64)<i/\i<2^64:=a4 h
def CC:D->D->I RV
 |.int i,.int j=>if(i8 i||i8 j)=P then R (.fz (.int (i*j)))else U
 |.list xs,.int k=>if xs.length*k.toNat<=1000000/\ -(2^63)<=k/\k<2^63 then R (.ow (VR k.toNat xs).flatten)else U
 |_,_=>U
def NM:pB K (KJ K) CC:=by
 intro O H x y m j l Q n g f e q;unfold CC at e;split at e
 .split at e
  .rename_i b
   ext e;ext g;ext f;show .inl #[_,_,W,W,?_,q.at (.int _)];rcases(Zr _ _).mp b with z|z
   .show .inl (vv z)
   .show .inr (vv z)
  .ext e
 .split at e
  .rename_i b;ext e;ext f;let(a,xs,rfl,i,h):=GR g;show .inr #[a,_,xs,W,W,i,b.2.1,b.2.2,E4 (by rw[h.length];show b.1),Fin.new (h.flat _) q]
  .ext e
 .ext e
def vQ:=fI λi j=>i - j
theorem NY:pB K (Be λi j=>.int (i - j)) vQ:=Pw
def QL(_ j:Int):Bool:=decide (0<j)
def qW:=Qs QL λi j=>i % j
theorem Oa:pB K (rI (λ_ j=>0<j) λi j=>.int (i % j)) qW:=uh λi j h=>a4 h
def QB(_ j:Int):Bool:=decide (0<j/\j<2^128)
def FM:=Qs QB λi j=>i/j
theorem LU:pB K (rI (λ_ j=>0<j/\j.natAbs.log2<9000) λi j=>.int (i/j)) FM:=uh λi j h=>by
 let a:=a4 h;show#[a.1,?_];let b:j.natAbs<2^128:=by let:=a.2;ext
 let e:=(Nat.log2_lt ()).mpr b;ext
def zn(i j:Int):Bool:=decide (0<=j/\j<=1000000/\i.natAbs<2^64)
def Eb(i j:Int)(h:zn i j=P):Im i j:=by unfold zn at h;show(show 0<=j/\j<=1000000/\i.natAbs<2^64 from a4 h)
def Oi:=Qs zn λi j=>i^j.toNat
theorem Nw:pB K (rI Im λi j=>.int (i^j.toNat)) Oi:=uh Eb
def PL:=Qs zn λi j=>i*2^j.toNat
theorem E6:pB K (rI Im λi j=>.int (i*2^j.toNat)) PL:=uh Eb
def UI(_ j:Int):Bool:=decide (0<=j)
def LY:=Qs UI λi j=>i/2^j.toNat
theorem Dm:pB K (rI (λ_ j=>0<=j) λi j=>.int (i/2^j.toNat)) LY:=uh λi j h=>a4 h
def DH:=fI λi j=>Builtin.bitAnd i j
theorem E3:pB K (Be λi j=>.int (Builtin.bitAnd i j)) DH:=Pw
def Qu:=fB λi j=>decide (i<j)
def Lw:=fB λi j=>decide (j<i)
def T9:=fB λi j=>decide (j<=i)
theorem B0:pB K (Be λi j=>.bl (decide (i<j))) Qu:=HX
theorem Bu:pB K (Be λi j=>.bl (decide (j<i))) Lw:=HX
theorem JS:pB K (Be λi j=>.bl (decide (j<=i))) T9:=HX
def l7(d:D):Bool:=d.canLay0&&decide (d.depth<=64)
def cT(d e:D):I RV:=if(l7 d&&e.canLay0)=P then R (.fz (.bool (VD.eqv d e)))else U
def rc(d e:D):I RV:=if(l7 d&&e.canLay0)=P then R (.fz (.bool (!VD.eqv d e)))else U
def rn:pB K (Oo K VO) cT:=by
 intro O H x y h g i Q n f b e q;unfold cT at e;split at e
 .rename_i a;ext e;unfold l7 at a;simp only[V9,decide_eq_true_eq]at a;show#[h,g,f.plain,b.plain,a.1.1,a.2,a.1.2,q.at (.bl _)]
 .ext e
def ut:pB K (Oo K P) rc:=by
 intro O H x y h g i Q n f b e q;unfold rc at e;split at e
 .rename_i a;ext e;unfold l7 at a;simp only[V9,decide_eq_true_eq]at a;show#[h,g,f.plain,b.plain,a.1.1,a.2,a.1.2,q.at (.bl _)]
 .ext e
def jU:D->D->I RV
 |.none,.none=>R (.fz (.bool P))
 |_,.none=>R (.fz (.bool VO))
 |_,_=>U
def oa:D->D->I RV
 |.none,.none=>R (.fz (.bool VO))
 |_,.none=>R (.fz (.bool P))
 |_,_=>U
def Kg(h:DX O K H x d)(hd:d≠.none):x≠.XX:=by
 cases d with
 |none=>show a5 W hd
 |list ds=>let(a,xs,rfl,_):=GR h;simp
 |tuple ds=>let(a,xs,rfl,_):=EL h;simp
 |bool b=>ext h;simp
 |int b=>ext h;simp
 |str b=>ext h;simp
 |dict b=>ext h
def MG:pB K (λx y H Q=>y=.XX/\Q (.bl (decide (x=.XX))) H) jU:=by
 intro O H x y i g h Q n b a e q;unfold jU at e;split at e
 .ext e;ext b;ext a;show#[W,q.at (.bl _)]
 .rename_i f;ext e;ext a;show#[W,?_];rw[aP (Kg b f)];show q.at (.bl _)
 .ext e
def yf:pB K (λx y H Q=>y=.XX/\Q (.bl (!decide (x=.XX))) H) oa:=by
 intro O H x y i g h Q n b a e q;unfold oa at e;split at e
 .ext e;ext b;ext a;show#[W,q.at (.bl _)]
 .rename_i f;ext e;ext a;show#[W,?_];rw[aP (Kg b f)];show q.at (.bl _)
 .ext e
def Ng(K:Vs)(neg:Bool):R2:=λx y H Q=>∃d ds,L2.DV K H x d/\(L2.DV K H y (.list ds)\/L2.DV K H y (.tuple ds))/\d.canLay0=P/\VD.canLayAll0 ds=P/\d.depth<=64/\Q (.bl (if neg then !(ds.any λe=>VD.eqv e d)else ds.any λe=>VD.eqv e d)) H
def xP(p:X.A.units+65<cLine):OpR X (XT .In) (Ng X.K VO):=by
 intro g s o H x y v u Q I l e h;let(d,ds,n,a,j,i,m,q):=h;let(r,f):=n.reads I l;let hm:min (VD.depthAll ds) d.depth<=64:=Wt (acb _ _) m;rcases a with a|a
 .let(bs,b):=a.reads I e;show akx b f i j () #[.bl _,H,I,W,q]
 .let(bs,b):=a.reads I e;show aky b f i j () #[.bl _,H,I,W,q]
def Ol(p:X.A.units+65<cLine):OpR X (XT .NotIn) (Ng X.K P):=by
 intro g s o H x y v u Q I l e h;let(d,ds,n,a,j,i,m,q):=h;let(r,f):=n.reads I l;let hm:min (VD.depthAll ds) d.depth<=64:=Wt (acb _ _) m;rcases a with a|a
 .let(bs,b):=a.reads I e;show akz b f i j () #[.bl _,H,I,W,q]
 .let(bs,b):=a.reads I e;show akA b f i j () #[.bl _,H,I,W,q]
def No(d e:D):I RV:=match gv e with
 |some ds=>if(l7 d&&VD.canLayAll0 ds)=P then R (.fz (.bool (ds.any λe=>VD.eqv e d)))else U
 |none=>U
def CB(d e:D):I RV:=match gv e with
 |some ds=>if(l7 d&&VD.canLayAll0 ds)=P then R (.fz (.bool (!ds.any λe=>VD.eqv e d)))else U
 |none=>U
def HA(a:DX O K H y e)(h:gv e=R ds):L2.DV K H y (.list ds)\/L2.DV K H y (.tuple ds):=by
 unfold gv at h;split at h
 .ext h;show .inr a.plain
 .ext h;show .inl a.plain
 .ext h
def xC:pB K (Ng K VO) No:=by
 intro O H x y i h j Q n f b e q;unfold No at e;split at e
 .rename_i ds g
  split at e
  .rename_i a;ext e;unfold l7 at a;simp only[V9,decide_eq_true_eq]at a;show#[i,ds,f.plain,HA b g,a.1.1,a.2,a.1.2,q.at (.bl _)]
  .ext e
 .ext e
def LV:pB K (Ng K P) CB:=by
 intro O H x y i h j Q n f b e q;unfold CB at e;split at e
 .rename_i ds g
  split at e
  .rename_i a;ext e;unfold l7 at a;simp only[V9,decide_eq_true_eq]at a;show#[i,ds,f.plain,HA b g,a.1.1,a.2,a.1.2,q.at (.bl _)]
  .ext e
 .ext e
def bq(d e:D):I RV:=match gv d,e with
 |some ds,.int i=>(og ds i).map .fz
 |_,_=>U
def K5(h:Xx O K H xs ds)(e:og ds i=R d):∃v,og xs i=R v/\DV O K H v d:=by
 unfold og at e⊢;rw[h.length];cases q:Lq ds.length i with
 |none=>rw[q]at e;ext e
 |some j=>rw[q]at e;show h.get e
def b5:pB K (Ue K) bq:=by
 intro O H x y t o r Q n l m e q;unfold bq at e;split at e
 .rename_i ds i b
  ext m;cases p:og ds i with
  |none=>rw[p]at e;ext e
  |some d=>
   rw[p]at e;ext e;unfold gv at b;split at b
   .ext b;let(a,xs,rfl,h,g):=EL l;let(v,f,j):=K5 g p;show .inr (.inl #[a,xs,i,v,W,W,h.1,f,q.at j])
   .ext b;let(a,xs,rfl,h,g):=GR l;let(v,f,j):=K5 g p;show .inl #[a,xs,i,v,W,W,h.sq,f,q.at j]
   .ext b
 .ext e
def oK(xs:G D)(lo a:I Int):G D:=(xs.drop (HT.sIx xs.length 0 lo)).take (HT.sIx xs.length xs.length a - HT.sIx xs.length 0 lo)
def Jp{lo a:I Int}(h:Xx O K H xs ds):Xx O K H (GB xs lo a) (oK ds lo a):=by unfold GB oK;rw[h.length];show(h.drop _).take _
def gO(n:Nat)(lo a:I Int):Bool:=decide (HT.sIx n 0 lo=0/\HT.sIx n n a=n)
def QP(K:Vs):V->I Int->I Int->Hp->VK->Prop:=λx lo a H Q=>To K x lo a H Q\/Tt K x lo a H Q
def yc:Sr X (QP X.K):=by
 intro a s b H x v f e lo m g Q I i l pl j h;rcases h with h|h
 .show Ma a s b H x v f e lo m g Q I i l pl j h
 .show QZ a s b H x v f e lo m g Q I i l pl j h
def Sy:D->I Int->I Int->I RV
 |.list ds,lo,a=>R (.ow (oK ds lo a))
 |.tuple ds,lo,a=>if gO ds.length lo a=P then U else R (.fz (.tuple (oK ds lo a)))
 |_,_,_=>U
def pI:UD K (QP K) Sy:=by
 intro O H x lo j l i Q n g e q;unfold Sy at e;split at e
 .ext e;let(a,xs,rfl,f,b):=GR g;show .inl #[a,xs,W,f.sq,Fin.new (Jp b) q]
 .split at e
  .ext e
  .rename_i h;ext e;let(a,xs,rfl,f,b):=EL g;show .inr #[a,xs,W,f.1,λz=>h ?_,Fin.aeG (Jp b) n q];ext gO;rw[<-b.length];show aE z
 .ext e
def u7:D->I RV
 |.int i=>R (.fz (.int (-i)))
 |_=>U
def yz:UU K (rU λi=>.int (-i)) u7:=by
 intro O H x f b Q n a e q;unfold u7 at e;split at e
 .ext e;ext a;show#[_,W,q.at (.int _)]
 .ext e
def dH:G D->I RV
 |[d]=>(match gv d with
  |some ds=>R (.fz (.int ds.length))
  |none=>U)
 |_=>U
def g7:HI K (λxs H Q=>∃x n,xs=[x]/\TF K x H n/\Q (.int n) H) dH:=by
 intro O H xs ds j Q n h e q;unfold dH at e;split at e
 .split at e
  .rename_i i f
   ext e;cases h with
   |cons b g=>
    ext g;unfold gv at f;split at f
    .ext f;let(a,xs,rfl,b,g):=EL b;show#[_,xs.length,W,.inr #[xs,b.1,W],by rw[g.length];show q.at (.int _)]
    .ext f;let(a,xs,rfl,b,g):=GR b;show#[_,xs.length,W,.inl #[xs,b.sq,W],by rw[g.length];show q.at (.int _)]
    .ext f
  .ext e
 .ext e
def gx:G D->I RV
 |[.tuple ds]=>R (.fz (.tuple ds))
 |[.list ds]=>R (.fz (.tuple ds))
 |_=>U
def fA:HI K (λxs H Q=>∃p c,xs=[.ref p]/\((SqL K H p c/\∀l,H l=U->Q (.ref l) (bL H l (.tup c)))\/(ZQ K H p c/\Q (.ref p) H))) gx:=by
 intro O H xs ds h Q n g e q;unfold gx at e;split at e
 .ext e
  cases g with
  |cons b f=>ext f;let(a,xs,rfl,b,f):=EL b;show#[a,xs,W,.inr #[b.1,q.at (.tup b f)]]
 .ext e
  cases g with
  |cons b f=>ext f;let(a,xs,rfl,b,f):=GR b;show#[a,xs,W,.inl #[b.sq,Fin.aeG f n q]]
 .ext e
def xq:G D->I RV
 |[d]=>(gv d).map .ow
 |_=>U
def N7:HI K (λxs H Q=>∃p c,xs=[.ref p]/\(SqL K H p c\/ZQ K H p c)/\∀l,H l=U->Q (.ref l) (bL H l (.lst c))) xq:=by
 intro O H xs ds j Q n g e q;unfold xq at e;split at e
 .rename_i d
  cases g with
  |cons b f=>
   ext f;cases i:gv d with
   |none=>rw[i]at e;ext e
   |some h=>
    rw[i]at e;ext e;unfold gv at i;split at i
    .ext i;let(a,xs,rfl,b,f):=EL b;show#[a,xs,W,.inr b.1,Fin.new f q]
    .ext i;let(a,xs,rfl,b,f):=GR b;show#[a,xs,W,.inl b.sq,Fin.new f q]
    .ext i
 .ext e
def EX:G D->I RV
 |[.int i,.int j]=>R (.fz (.int (if j>i then j else i)))
 |_=>U
def MZ:HI K (λxs H Q=>∃i j,xs=[.int i,.int j]/\Q (.int (if j>i then j else i)) H) EX:=by
 intro O H xs ds h Q n b e q;unfold EX at e;split at e
 .ext e
  cases b with
  |cons g a=>
   cases a with
   |cons a f=>ext f;ext g;ext a;show#[_,_,W,q.at (.int _)]
 .ext e
end
end L3
namespace PySem
open Sem (wp)
open AutoSeq1 (wpAny_loadPart')
open Builtin Builtin.Str
section
variable{Y:V8}{w:Wv}{A:Wl}{E:Vu->VG->Prop}{s:VG}
def pM(a:s.heap.IsTupleIter it t i)(j:s.heap.IsTuple t items)(h:items[i]?=R x)
  (m:∀c,c.IsTupleIter it t (i+1)->Heap.SameBut it s.heap c->Q x {s with heap:=c}):wpAny (model Y w) A (Builtin.SmallTypes.nextOf (.ref it)) Q E s:=by
 let(o,e,l,b):=id a;let(n,f,_,p,g):=j;ext Builtin.SmallTypes.nextOf;show Ld (W7 a.typeIs F.slot_tuple_iterator_next
  (XG F.slot_tuple_iterator_next a.typeIs F.entry_tuple_iterator_next ?_ (F.args_tuple_iterator_next_1 _)))
 show wpAny _ _ (field (.ref it) 0>>=_) _ _ s;show Ld (Wm e b W ?_);show wpAny _ _ (if(Vu.ref t==Vu.none)=P then _ else _) _ _ s;rw[ax (show¬((Vu.ref t==Vu.none)=P)from VU)];show Ld (Wm e b W ?_);show Ld (Xh f g ?_);simp only[W0,h];show Ld (W8 e b (by simp) (VH #[x,W,VH (m _ ?_ (Heap.SameBut.update ..))]));show#[_,cv _ e (dk (da b _)),(Obj.cls_mapFields ..).trans l,by rw[da b];simp[rawInt]]
def rA(j:A.handled=U)(a:s.heap.IsTupleIter it t i)(m:s.heap.IsTuple t items)(l:items[i]?=U)
  (n:∀c e,Heap.ExtBut it s.heap c->(∃o,c.get? e=R o/\o.cls=.type "StopIteration")->E (.ref e) {s with heap:=c}):wpAny (model Y w) A (Builtin.SmallTypes.nextOf (.ref it)) Q E s:=by
 let(o,f,r,h):=id a;let(p,b,_,q,g):=m;ext Builtin.SmallTypes.nextOf;show Ld (W7 a.typeIs F.slot_tuple_iterator_next
  (XG F.slot_tuple_iterator_next a.typeIs F.entry_tuple_iterator_next ?_ (F.args_tuple_iterator_next_1 _)))
 show wpAny _ _ (field (.ref it) 0>>=_) _ _ s;show Ld (Wm f h W ?_);show wpAny _ _ (if(Vu.ref t==Vu.none)=P then _ else _) _ _ s;rw[ax (show¬((Vu.ref t==Vu.none)=P)from VU)];show Ld (Wm f h W ?_);show Ld (Xh b g ?_);simp only[W0,l];show Ld (Zw (Ld (W8 f h (by simp) ?_)));show Ld ?_;simp only[newExc,newTuple];show Ld (WG ?_ (by size_fits));show Ld (ac5 (by first|rfl|(simp only[firstArgMember];rfl)) ?_);show WG ?_ (by size_fits);simp only[raiseNew];show Ld (wpAny_handled ?_)
 first|rw[show A.in1.handled=U from j]|rw[j]
 show Ld (VH (wpAny_throw ?_));show n _ _ (((Heap.SameBut.update ..).extBut.push _).push _) #[_,cj _ W,W]
end
end PySem
namespace L3
open PySem PySem.Spec PyProof.Rows L2
def Nm(I:Inv X pins σ H s)(l:ZQ X.K H a xs)(j:ZQ X.K H a u):xs=u:=by
 let(g,i,(o,m,_,n,p),_):=I.tuple l;let(b,h,(r,e,_,t,f),_):=I.tuple j;rw[m]at e;ext e;rw[p]at f;let:g=b:=by
  let q:g.toArray=b.toArray:=by injection f
  simpa using q
 subst this;show i.inj h
def FL{bs:G Bool}(r:Vals (bs.map V.bl) j){i:Nat}(h:j[i]?=R v):∃b,bs[i]?=R b/\v=.bool b:=by
 let e:=r.length;rw[Vw]at e;let g:i<bs.length:=by rw[e];show(Vv.mp h).1
 let(u,a,f):=r.get (by rw[VN,Vz g];rfl);rw[h]at a;ext a;show#[bs[i],Vz g,f]
def Cy(bs:G Bool):((VI bs.length).all λi=>(bs[i]?).getD P)=bs.all id:=by
 rw[YQ,Yz,Yz];constructor
 .intro h b a;let(i,f,e):=aeg.mp a;let:=h i (WI.mpr f);rw[Vz f,e]at this;show this
 .intro h i f;let f:=WI.mp f;rw[Vz f];show h _ (Xt f)
section
variable{X:Cx}
def tR(w:X.calm=P):YM X (.builtin "all") (λxs H Q=>∃(p:VF) (bs:bb Bool),xs=[.ref p]/\SqL X.K H p (bs.map V.bl)/\Q (.bl (bs.all id)) H):=by
 intro f s B H xs C Q I r h;let(l,bs,rfl,n,q):=h;let(u,rfl,m):=lO r;ext m;let(j,N,pl,G):=I.list n;let a:=N.length;rw[Vw]at a;let z:l<s.heap.objs.size:=by let(_,_,e,_):=pl;show bP e
 show call_all_walk (ZT pl.isList ?_);show#[s.heap.objs.size,[s.heap.objs.size,l],[s.heap.objs.size],j.toArray.size,_,_,λi=>(bs[i]?).getD P,W,Walks.list (A:=X.A.in1) (I.ok.hd w) _ l (Wc z) j.toArray,
  #[#[_,cj _ W,W,W],pl.isList.push _],λi v F L M y g=>?_,λJ E t=>?_]
 .let(b,e,rfl):=FL N (by simpa using y);simp only[e,abP]at g;show Yy g
 .rw[VY,<-a,Cy];show#[.bl _,H,I.kept λb o e=>t b o (λhm=>?_) (br _ e),W,q];rw[VW.mp hm]at e;show WZ _ (bP e)
end
section
variable{K:Vs}
def sL:G D->I (G Bool)
 |[]=>R []
 |.bool b::r=>(sL r).map (b::·)
 |_=>U
theorem ER:∀{xs:G V} {ds:G D} {bs:G Bool},Xx O K H xs ds->sL ds=R bs->xs=bs.map V.bl
 |_,_,_,.nil,e=>by ext e;rfl
 |_,_,bs,.cons (ds:=r) h t,e=>by
  cases h with
  |bl b=>
   let a:(sL r).map (b::·)=R bs:=e;cases q:sL r with
   |none=>rw[q]at a;ext a
   |some f=>rw[q]at a;ext a;rw[ER t q];rfl
  |_=>ext e
def BJ:G D->I RV
 |[.list ds]=>(sL ds).map λbs=>.fz (.bool (bs.all id))
 |_=>U
def CD:HI K (λxs H Q=>∃(p:M) (bs:G Bool),xs=[.ref p]/\SqL K H p (bs.map V.bl)/\Q (.bl (bs.all id)) H) BJ:=by
 intro O H xs ds l Q n g e q;unfold BJ at e;split at e
 .rename_i h
  cases j:sL h with
  |none=>rw[j]at e;ext e
  |some bs=>
   rw[j]at e;ext e;cases g with
   |cons f b=>ext b;let(a,i,rfl,f,b):=GR f;let:=ER b j;subst this;show#[a,bs,W,f.sq,q.at (.bl _)]
 .ext e
def lW:G D->I (G Int)
 |[]=>R []
 |.int b::r=>(lW r).map (b::·)
 |_=>U
theorem nV:∀{xs:G V} {ds:G D} {bs:G Int},Xx O K H xs ds->lW ds=R bs->xs=bs.map V.int
 |_,_,_,.nil,e=>by ext e;rfl
 |_,_,bs,.cons (ds:=r) h t,e=>by
  cases h with
  |int b=>
   let a:(lW r).map (b::·)=R bs:=e;cases q:lW r with
   |none=>rw[q]at a;ext a
   |some f=>rw[q]at a;ext a;rw[nV t q];rfl
  |_=>ext e
def jz(ns:G Int):lW (ns.map .int)=R ns:=by
 induction ns with
 |nil=>rfl
 |cons n r a=>show(lW (r.map .int)).map (n::·)=_;rw[a];rfl
def CA(x:Int):G Int->G Int
 |[]=>[x]
 |y::r=>if x<=y then x::y::r else y::CA x r
def mv:G Int->G Int
 |[]=>[]
 |x::r=>CA x (mv r)
theorem rh(x:Int):∀l,(CA x l).Perm (x::l)
 |[]=>abZ _
 |y::r=>by
  ext CA;split
  .show abZ _
  .show((rh x r).cons y).trans (anV x y r)
theorem gj:∀l,(mv l).Perm l
 |[]=>abZ _
 |x::r=>(rh x _).trans ((gj r).cons x)
theorem sj(x:Int):∀l:G Int,l.Pairwise (·<=·)->(CA x l).Pairwise (·<=·)
 |[],_=>by simp[CA]
 |y::r,h=>by
  ext CA;let(f,g):=ZL.mp h;split
  .rename_i a
   show ZL.mpr #[λz b=>?_,h];rcases Wa.mp b with e|e
   .rw[e];show a
   .let:=f z e;ext
  .rename_i a
   show ZL.mpr #[λz b=>?_,sj x r g];rcases Wa.mp ((rh x r).mem_iff.mp b)with e|e
   .rw[e];ext
   .show f z e
theorem fH:∀l,(mv l).Pairwise (·<=·)
 |[]=>aay
 |x::r=>sj x _ (fH r)
theorem nQ{l m:G Int}(e:l.Perm m)(f:l.Pairwise (·<=·))(hm:m.Pairwise (·<=·)):l=m:=e.eq_of_pairwise (λa b _ _ h g=>agl h g) f hm
def xN:G D->I RV
 |[.list ds]=>(match lW ds with
  |some a=>if a.length<64 then R (.ow ((mv a).map .int))else U
  |none=>U)
 |_=>U
def vp(ns:G Int):Xx O K H (ns.map V.int) (ns.map .int):=by
 induction ns with
 |nil=>show .nil
 |cons n r a=>show .cons (.int n) a
def wX:HI K (λxs H Q=>∃(p:M) (ns:G Int),xs=[.ref p]/\SqL K H p (ns.map V.int)/\ns.length<64/\∀(l:M) (b:G Int),H l=U->b.Perm ns->b.Pairwise (·<=·)->Q (.ref l) (bL H l (.lst (b.map V.int)))) xN:=by
 intro O H xs ds u Q n f e q;unfold xN at e;split at e
 .rename_i m
  cases t:lW m with
  |none=>rw[t]at e;ext e
  |some ns=>
   rw[t]at e;dsimp only at e;split at e
   .rename_i g
    ext e;cases f with
    |cons i h=>ext h;let(a,r,rfl,i,h):=GR i;let:=nV h t;subst this;show#[a,ns,W,i.sq,g,λl b g f j=>?_];let o:=nQ (f.trans (gj ns).symm) j (fH ns);subst o;show Fin.new (vp _) q l g
   .ext e
 .ext e
end
def GW{P:V8}{w:Wv}{K:Vs}{D l:Str->bg Vu}{k:Nat}{T a:VF}{fd:WY}{x:Str}{F:FN}{b:VG}{c:bb Vu}{ns:bb Int}
  (p:K.In b.heap) (f:b.heap.Ns V3 D) (B:b.heap.Ns builtinsNs l) (g:∀x:Str,x≠ "__name__"->l x=Xb x) (i:b.heap.NoLimit) (A:b.gens= #v[])
  (N:b.heap.get? a=R {cls:=.type "list",data:=.seq c.toArray}) (V:IntsAre c ns) (m:ns.length<=VT) (y:X3 k callerA)
  (J:∀base:Heap,K.In base->base.Ns V3 D->FnOk P w K D base dX k T fd [x] (rX K 1 F)) (j:∀(s:VG) (u:Vu),aa3 s fd #[[u],[]] [(x,u)])
  (G:F [.list (ns.map .int)]=.ok (.fz (.bool Vx))):
  codeAny (model P w) callerA (.call (.ref T) #[[.ref a],[]]) (λr d=>r=.ok (.ret (.bool Vx))/\OldK b.heap d.heap/\d.os=b.os/\AllBare d.gens) b:=by
 show JW (sp:=λc H Q E=>rX K 1 F c H Q E\/(c.length=1/\False)) p f B g i A N V m y (λbase t q=>(J base t q).imp λc H Q E h=>?_) j (λH L C=>?_) λ_ _ _ h=>h
 .rcases h with h|h
  .show h
  .show h.2.elim
 .show .inl #[W,noO,[.list (ns.map .int)],λa z=>z.elim,.cons (.lst #[?_,λz=>z.elim] (vp ns)) .nil,?_]
  .rcases C with h|⟨o,WA,n,S,h2,h3,Y,h5,X⟩
   .show .inl h
   .let e:=p a o S;rw[N]at e;ext e;ext Y;show .inr #[c,0,S,by rw[Vw];show m,by simpa using X]
  .rw[G];show λv M s I=>by ext I;rfl
def S8{l:aeM}{n k:Nat}{q:V8}{i:bb Str}{N:(Str->bg Vu)->Heap->Prop}{A:Wv->Heap->Prop}{d:DefRec}{K:Params->Vs}{F:FN}{x:Str}
  (D:l.most=lD n) (m:n<=VT) (r:d.params.defaults=[]) (C:X3 k callerA)
  (J:∀(w:Wv) (h:Heap),A w h->(K w.params).In h)
  (O:∀(w:Wv) (b:Str->bg Vu) (c:VF) (h:Heap),(K w.params).In h->h.Ns V3 b->b d.name=lD (.ref c)->
   ∃fd:WY,(∀(s:VG) (u:Vu),aa3 s fd #[[u],[]] [(x,u)])/\∀base:Heap,(K w.params).In base->base.Ns V3 b->FnOk l.prog w (K w.params) b base dX k c fd [x] (rX (K w.params) 1 F))
  (L:∀ns:bb Int,ns.length<=n->F [.list (ns.map .int)]=.ok (.fz (.bool Vx))):
  PySem.W.WalkO q i N A l.row.toRowW d [] (λf g=>aib f g):=by
 show Att.attach_call D r λw z y b Q c o P U M a g ns G Y R S H p v j e E=>?_;let B:=J w _ Y;let(fd,I,t):=O w b c _ B G.T.g p;show GW B G.T.g G.T.b G.T.builtins G.T.nolimit E v j (Wt e m) C t I (L ns e)
def Vf{P:V8}{w:Wv}{K:Vs}{d:Str->I B}{base:Heap}{x a:Str}{b:X2}{f:M}{fd:WY}{N c:G Str}{k n m:Nat}{g:FS}{h:FN}(F:YN K x a b f fd)(S:Yk N c (aD b))(l:c.length=n)(hm:N.length=m)(i:h=iE m g)
  (j:∀(e:B) (A:Wl) (outer:G Env) (s:VG) (H:Hp) (E:XK),X3 k (A.deeper (Wg a (aD b) s.heap.objs.size f e))->
   ∃t,PSs (gw dX P w K d base N a (aD b) f e A outer s H E).nox (cJ b) t/\SO K E t g):FnOk P w K d base dX (k+1) f fd c (rX K n h):=by
 subst i hm;show Vc F S l j
abbrev ip(P:V8)(w:Wv)(K:Vs)(b:Str->I B)(base:Heap)(k:Nat)(x:Str)(a:G Str)(n:Nat)(F:FN):Prop:=zW P w K b base k x a (rX K n F)
end L3
namespace L3
open PySem L2
abbrev nd(n:Nat):D:=.int (n:Int)
def bX(ns:G Nat):G D:=ns.map nd
def i7(ns:G Nat):(bX ns).length=ns.length:=by ext bX;rw[Vw]
def NU(xs a:G Nat):bX (xs++a)=bX xs++bX a:=by ext bX;rw[V4]
def yx{i:Nat}(h:(bX ns)[i]?=R d):∃n,ns[i]?=R n/\d=nd n:=by
 unfold bX at h;rw[VN]at h;cases e:ns[i]? with
 |none=>rw[e]at h;ext h
 |some n=>rw[e]at h;show#[n,W,(VZ h).symm]
theorem bu(a:α):Res.WN (R a)=.ok a:=W
theorem Bb(a:α):oi (Res.ok a)=.ok a:=W
theorem Bz(i:Nat)(a:bt):aa i a=EC a i a[i]? :=W
theorem Jb(a:bt)(i:Nat)(d:D):EC a i (R (R (.fz d)))=.ok (.fz d,a):=W
theorem K7(a:bt)(i:Nat)(ds:G D):EC a i (R (R (.ow ds)))=.ok (.pl i,a):=W
theorem rE(ds:G D):KN (R (R (.ow ds)))=R ds:=W
theorem Lm(i:Nat)(d:D)(a:bt):gN i (.fz d) a=.ok (a.set i (R (.fz d))):=W
theorem D3(i:Int):Uy (.int i)=R i:=W
theorem Ax(b:Bool):UB (.bool b)=R b:=W
theorem ka(ds:G D):dH [.tuple ds]=R (.fz (nd ds.length)):=W
theorem fV(ds:G D):dH [.list ds]=R (.fz (nd ds.length)):=W
theorem oY(i j:Int):Qu (.int i) (.int j)=R (.fz (.bool (decide (i<j)))):=W
theorem z6(i j:Int):Lw (.int i) (.int j)=R (.fz (.bool (decide (j<i)))):=W
theorem zr(i j:Int):T9 (.int i) (.int j)=R (.fz (.bool (decide (j<=i)))):=W
theorem hG(i j:Int):dQ (.int i) (.int j)=R (.fz (.int (i+j))):=W
theorem uD(i j:Int):vQ (.int i) (.int j)=R (.fz (.int (i - j))):=W
def vd(h:0<j):qW (.int i) (.int j)=R (.fz (.int (i % j))):=by show(if QL i j=P then _ else _)=_;rw[av (show QL i j=P from aE h)]
def HJ(h:0<j/\j<2^128):FM (.int i) (.int j)=R (.fz (.int (i/j))):=by show(if QB i j=P then _ else _)=_;rw[av (show QB i j=P from aE h)]
def NQ(h: -(2^64)<i/\i<2^64):CC (.int i) (.int j)=R (.fz (.int (i*j))):=by show(if(i8 i||i8 j)=P then _ else _)=_;rw[av (by rw[show i8 i=P from aE h,Y1])]
def N9(h: -(2^64)<j/\j<2^64):CC (.int i) (.int j)=R (.fz (.int (i*j))):=by show(if(i8 i||i8 j)=P then _ else _)=_;rw[av (by rw[show i8 j=P from aE h,abQ])]
def sS(h:lj j):ju [.int j]=R (gB 0 j.toNat):=by show(if lj j then _ else _)=_;rw[av h]
def Kf(n:Nat):gB 0 n=bX (VI n):=by unfold gB bX;apply Xn;intro k _;rw[aic]
def nA(h:n<=1000000):ju [nd n]=R (bX (VI n)):=by rw[sS (by ext lj;ext),Kf,W0]
def K8(h:f b=.ok (.nx a)):bU f g b=g a:=by ext bU;rw[h];rfl
def HL(h:f a=.ok (.rt b)):bU f g a=.ok (.rt b):=by ext bU;rw[h];rfl
def UK(h:c b=.ok (P,a)):mn c f g b=f a:=by ext mn;rw[h];rfl
def UJ(h:c b=.ok (VO,a)):mn c f g b=g a:=by ext mn;rw[h];rfl
def BQ(h:f e=.ok (ds,a)):vW f gt b e=sK gt b ds a:=by ext vW;rw[h];rfl
def RN(h:j<=1000000/\i.natAbs<2^64):Oi (.int i) (nd j)=R (.fz (.int (i^j))):=by show(if zn i (j:Int)=P then R (RV.fz (.int (i^((j:Nat):Int).toNat)))else U)=_;rw[av (by ext zn;show aE #[by ext,by ext,h.2]),W0]
theorem Ph:Oi (.int 10) (.int 18)=R (.fz (.int (10^18))):=RN #[by decide,by decide]
def mQ(gt:FG)(f:FT)(g:FE)(d:D)(c:bt):Res (I D×bt):=(gt (.fz d) c).bind λe=>(f e).bind λb=>if b.1=P then(g b.2).bind λa=>(Res.WN (zZ a.2 a.1)).bind λx=>.ok (R x.1,dW x.2)else .ok (U,dW b.2)
def tL(h:mQ gt p q d j=.ok (o,i))(g:acc.length<1000000):eX gt p q (d::r) j acc=eX gt p q r i (acc++o.toList):=by
 unfold mQ at h;show(gt (.fz d) j).bind _=_;cases n:gt (.fz d) j with
 |er x=>rw[n]at h;ext h
 |bad=>rw[n]at h;ext h
 |ok f=>
  rw[n,eg]at h;rw[eg];cases m:p f with
  |er x=>rw[m]at h;ext h
  |bad=>rw[m]at h;ext h
  |ok b=>
   let(b,e):=b;rw[m,eg]at h;rw[eg];cases b with
   |false=>rw[ax VU]at h⊢;ext h;rw[aeh,Wi]
   |true=>
    rw[av W]at h⊢;cases l:q e with
    |er x=>rw[l]at h;ext h
    |bad=>rw[l]at h;ext h
    |ok a=>
     rw[l,eg]at h;rw[eg];cases t:zZ a.2 a.1 with
     |none=>rw[t]at h;ext h
     |some x=>rw[t]at h;ext h;show(if acc.length<1000000 then _ else _)=_;rw[av g];rfl
def Nq(c:Nat)(h:c<=1000):PL (.int 1) (nd c)=R (.fz (nd (2^c))):=by show(if zn 1 (c:Int)=P then R (RV.fz (.int (1*2^((c:Nat):Int).toNat)))else U)=_;rw[av (by ext zn;show aE #[by ext,by ext,by decide]),Int.one_mul,W0];congr 3
def Qi(a b:Nat):decide ((a:Int)=(b:Int))=decide (a=b):=by
 by_cases h:a=b
 .rw[aE h,aE (by rw[h])]
 .rw[aP h,aP ()]
theorem Ky(a b:Nat):VD.eqv (nd a) (nd b)=decide (a=b):=Qi a b
def jN(a b:Int):cT (.int a) (.int b)=R (.fz (.bool (decide (a=b)))):=by rfl
def xB(a b:Int):rc (.int a) (.int b)=R (.fz (.bool (!decide (a=b)))):=by rfl
theorem nM:∀ns:G Nat,VD.canLayAll0 (bX ns)=P
 |[]=>rfl
 |n::r=>by show(VD.canLay0 (nd n)&&VD.canLayAll0 (bX r))=P;rw[nM r];rfl
theorem k6:∀ns:G Nat,VD.depthAll (bX ns)=0
 |[]=>rfl
 |n::r=>by show max (VD.depth (nd n)) (VD.depthAll (bX r))=0;rw[k6 r];rfl
theorem EF:∀xs a:G Nat,VD.eqvAll (bX xs) (bX a)=decide (xs=a)
 |[],[]=>rfl
 |[],_::_=>rfl
 |_::_,[]=>rfl
 |n::r,m::t=>by show(VD.eqv (nd n) (nd m)&&VD.eqvAll (bX r) (bX t))=_;rw[EF r t,Ky];rw[YQ];simp
def R0(ns:G Nat):l7 (.list (bX ns))=P:=by show(VD.canLayAll0 (bX ns)&&decide (VD.depthAll (bX ns)+1<=64))=P;rw[nM,k6];rfl
def xK(xs a:G Nat):cT (.list (bX xs)) (.list (bX a))=R (.fz (.bool (decide (xs=a)))):=by ext cT;rw[R0,show VD.canLay0 (.list (bX a))=P from nM a,Xy,av W,show VD.eqv (.list (bX xs)) (.list (bX a))=_ from EF xs a]
def Me(x:Nat)(xs:G Nat):((bX xs).any λe=>VD.eqv e (nd x))=decide (x∈xs):=by
 induction xs with
 |nil=>rfl
 |cons y r a=>
  show(VD.eqv (nd y) (nd x)||(bX r).any λe=>VD.eqv e (nd x))=_;rw[a,Ky];by_cases h:y=x
  .rw[aE h,aE (show x∈y::r by rw[h];show VV),Y1]
  .rw[aP h,aad]
   by_cases g:x∈r
   .rw[aE g,aE (VX _ g)]
   .rw[aP g,aP (λz=>(Wa.mp z).elim (λe=>h e.symm) g)]
def yH(x:Nat)(xs:G Nat):No (nd x) (.tuple (bX xs))=R (.fz (.bool (decide (x∈xs)))):=by show(if(l7 (nd x)&&VD.canLayAll0 (bX xs))=P then _ else _)=_;rw[nM,show l7 (nd x)=P from rfl,Xy,av W,Me]
theorem CK{i:Nat}(h:xs[i]?=R v):og xs (i:Int)=R v:=El h
def JT(h:ds[i]?=R d):bq (.tuple ds) (nd i)=R (.fz d):=by show(og ds (i:Int)).map RV.fz=_;rw[CK h];rfl
def zd(h:ds[i]?=R d):bq (.list ds) (nd i)=R (.fz d):=by show(og ds (i:Int)).map RV.fz=_;rw[CK h];rfl
section
variable{Y ρ1 X T:bt}{Q fb E S:FE}{pa L pv:PV}{dx J d:D}{rv:RV}{N:bb PV}{ds:bb D}
def ae(h:Y[i]?=R (R (.fz d))):aa i Y=.ok (.fz d,Y):=by rw[Bz,h,Jb]
def mz(h:Y[i]?=R (R (.ow ds))):aa i Y=.ok (.pl i,Y):=by rw[Bz,h,K7]
theorem aC:pC d Y=.ok (.fz d,Y):=W
def aB(c:Q Y=.ok (pa,ρ1))(g:fb ρ1=.ok (L,X))(b:AL X (eA pa)=R dx)(a:AL X L=R J)(e:f dx J=R rv):aL f Q fb Y=.ok (rv.pv,X):=by ext aL;rw[c,eg,g,eg,b,bu,eg,a,bu,eg,e,bu,eg]
def zP(c:Q Y=.ok (pa,ρ1))(a:AL ρ1 pa=R dx)(b:f dx=R rv):DU f Q Y=.ok (rv.pv,ρ1):=by ext DU;rw[c,eg,a,bu,eg,b,bu,eg]
def bE(c:Q Y=.ok (pa,ρ1))(a:AL ρ1 pa=R (.bool b)):aO Q Y=.ok (b,ρ1):=by ext aO;rw[c,eg,a,bu,eg,Ax,bu,eg]
def qh(c:f Y=.ok (a,ρ1))(e:a=P->g ρ1=.ok (b,ρ1)):ye f g Y=.ok (a&&b,ρ1):=by
 ext ye;rw[c,eg];cases a with
 |true=>rw[av W,e W,abt]
 |false=>rw[ax VU,YY]
def xp(c:f Y=.ok (a,ρ1))(e:a=VO->g ρ1=.ok (b,ρ1)):FW f g Y=.ok (a||b,ρ1):=by
 ext FW;rw[c,eg];cases a with
 |true=>rw[av W,Y1]
 |false=>rw[ax VU,e W,aad]
def yj(c:aO Q Y=.ok (a,ρ1))(e:a=P->fb ρ1=.ok (.fz (.bool b),ρ1)):KU Q fb Y=.ok (.fz (.bool (a&&b)),ρ1):=by
 ext KU;rw[c,eg];cases a with
 |true=>rw[av W,e W,abt]
 |false=>rw[ax VU,YY]
theorem aJ:az Y=.ok ([],Y):=W
def ai(b:Q Y=.ok (pa,ρ1))(a:fr ρ1=.ok (N,X)):ag Q fr Y=.ok (eA pa::N,X):=by ext ag;rw[b,eg,a,eg]
def fO(b:fr Y=.ok (N,ρ1))(hd:zt ρ1 N=R ds)(a:f ds=R rv):iC f fr Y=.ok (rv.pv,ρ1):=by ext iC;rw[b,eg,hd,bu,eg,a,bu,eg]
def ck(c:fr Y=.ok (N,ρ1))(hd:sH ρ1 N=R (ds,X))(b:ds.length=n)(a:F ds=.ok rv):d7 F n fr Y=.ok (rv.pv,X):=by ext d7;rw[c,eg,hd,bu,eg];dsimp only;rw[av b,a,Bb,eg]
def dJ(b:fr Y=.ok (N,ρ1))(hd:sH ρ1 N=R (ds,X))(a:ds.length<=1000):cz fr Y=.ok (.fz (.tuple ds),X):=by ext cz;rw[b,eg,hd,bu,eg];dsimp only;rw[av a]
def uU(b:fr Y=.ok (N,ρ1))(hd:sH ρ1 N=R (ds,X))(a:ds.length<=1000):de fr Y=.ok (.ow ds,X):=by ext de;rw[b,eg,hd,bu,eg];dsimp only;rw[av a]
theorem pT:wz Y=.ok (U,Y):=W
def qI(b:Q Y=.ok (pa,ρ1))(a:AL ρ1 pa=R (.int i)):uI Q Y=.ok (R i,ρ1):=by ext uI;rw[b,eg,a,bu,eg,D3,bu,eg]
def ED(c:Q Y=.ok (pa,ρ1))(b:i ρ1=.ok (lo,X))(e:j X=.ok (h,T))(a:AL T (eA pa)=R dx)(g:f dx lo h=R rv):Rp f Q i j Y=.ok (rv.pv,T):=by ext Rp;rw[c,eg,b,eg,e,eg,a,bu,eg,g,bu,eg]
def CW(g:Y[i]?=R (R (.ow h)))(c:S Y=.ok (pa,ρ1))(b:zZ ρ1 pa=R (d,X))(f:X[i]?=R (R (.ow ds)))(e:ds.length<1000000)(a:X.set i (R (.ow (ds++[d])))=x):Gm i S Y=.ok (.fz .none,x):=by ext Gm;rw[g,rE,bu,eg,c,eg,b,bu,eg];dsimp only;rw[f,rE,bu,eg,av e,a]
def gf(c:g Y=.ok (ds,ρ1))(b:ww ρ1 e=R (cs,X))(a:oi (eX gt f S ds (VR n U++cs.map λd=>R (.fz d)) [])=.ok xs):fR n e g gt f S Y=.ok (.ow xs,X):=by ext fR;rw[c,eg];dsimp only;rw[b,bu,eg];dsimp only;rw[a,eg]
theorem iz:bq (.tuple (a::r)) (.int 0)=R (.fz a):=JT W
theorem jt:bq (.tuple (a::b::r)) (.int 1)=R (.fz b):=JT W
theorem sF:bq (.tuple (a::b::c::r)) (.int 2)=R (.fz c):=JT W
def RH(b:k<=1000)(a:xs.length<=1000):CC (.list xs) (nd k)=R (.ow (VR k xs).flatten):=by show(if xs.length*((k:Nat):Int).toNat<=1000000/\ -(2^63)<=(k:Int)/\(k:Int)<2^63 then R (RV.ow (VR ((k:Nat):Int).toNat xs).flatten)else U)=_;rw[W0,av #[Wt (aa7 a b) (),by ext,by ext]]
def lA(c:S Y=.ok (pa,ρ1))(a:zZ ρ1 pa=R (d,X))(b:gv d=R e):iq S Y=.ok (e,X):=by ext iq;rw[c,eg,a,bu,eg];dsimp only;rw[b,bu,eg]
def Eh(b:fr Y=.ok (N,ρ1))(hd:zt ρ1 N=R ds)(a:f ds=R e):pS f fr Y=.ok (e,ρ1):=by ext pS;rw[b,eg,hd,bu,eg,a,bu,eg]
def BS(b:S Y=.ok (pv,ρ1))(a:g pv ρ1=.ok X)(c:X=T):gG S g Y=.ok (.nx T):=by ext gG;rw[b,eg];dsimp only;rw[a,eg,c]
def EW(a:S Y=.ok (pv,ρ1)):vh S Y=.ok (.nx ρ1):=by ext vh;rw[a,eg]
def x4(b:S Y=.ok (pv,ρ1))(a:Gu ρ1 pv=R rv):d6 S Y=.ok (.rt rv):=by ext d6;rw[b,eg];dsimp only;rw[a,bu,eg]
def Mb(e:gt (.fz d) Y=.ok ρ1)(b:j ρ1=.ok (P,X))(g:S X=.ok (pv,T))(a:zZ T pv=R (x,i))(f:dW i=h):mQ gt j S d Y=.ok (R x,h):=by ext mQ;rw[e,eg,b,eg,av W,g,eg,a,bu,eg,f]
def S9(b:gt (.fz d) Y=.ok ρ1)(a:g ρ1=.ok (VO,X))(e:dW X=f):mQ gt g S d Y=.ok (U,f):=by ext mQ;rw[b,eg,a,eg,ax VU,e]
end
end L3
namespace PySem
open Sem (wp)
open Builtin
open AutoSeq1 (wpAny_loadPart')
theorem re:fillsNumberSlot (.type "tuple") "mul"=pure VO:=
 fillsNumberSlot_seq F.slot_tuple_mul.lookup (by left) F.slot_tuple_rmul.lookup (by left)
def yy:seqRepeat? (.type "tuple")=pure (R (.builtin "tuple.__mul__")):=by unfold seqRepeat?;rw[seqSlot_of (name:= "__mul__") F.slot_tuple_mul.lookup (by left),seqSlot_of (name:= "__rmul__") F.slot_tuple_rmul.lookup (by left)];rfl
theorem vf(a:Int)(t:Tok)(l:M)(items:Array B)(n:Nat)(dct:I M)(e:Array (I B)):
  Meets (Builtin.«int.__rmul__» #[[.int a t,.ref l],[]]) (λ_ R s=>s.heap.get? l=lD {cls:=.type "tuple",dict:=dct,data:=.seq items n,slots:=e}/\R (.ok (.ret Vu.notImplemented)) s):=
 .of_wp λb w A R s h=>by let(j,g,d,f,i):=s;let(m,h):=h;wp_walk;show#[_,W,h]
theorem AG(l:M)(items:Array B)(n:Nat)(dct:I M)(b:Array (I B))(u:Tok):
  Meets (Builtin.«tuple.__mul__» #[[.ref l,.int 1 u],[]]) (λ_ R s=>s.heap.get? l=lD {cls:=.type "tuple",dict:=dct,data:=.seq items n,slots:=b}/\R (.ok (.ret (Vu.ref l))) s):=
 .of_wp λa w A R s h=>by
  let(i,g,d,e,f):=s;let(j,h):=h
  wp_walk
  show#[_,W,h]
theorem zB(l:M)(items:Array Vu)(n:Nat)(dct:bg M)(i:Array (bg Vu))(x:Int)(u:Tok)(H:2<=x)(q:x<=1000)(a:items.isEmpty=VO)(D:items.size<=1000):
  Meets (Builtin.«tuple.__mul__» #[[.ref l,.int x u],[]]) (λ_ R s=>s.heap.get? l=lD {cls:=.type "tuple",dict:=dct,data:=.seq items n,slots:=i}/\R (.ok (.ret (Vu.ref s.heap.objs.size))) {s with heap:=s.heap.push {cls:=Vu.type "tuple",data:=Data.seq (aat (λk c=>k++c) #v[] (VR x.toNat items))},toks:=s.toks}):=
 .of_wp λe w A R s h=>by
  let(F,g,d,C,E):=s;let(p,h):=h;let B:¬(decide (x< -(2^63))||decide (x≥2^63))=P:=by simp;ext
  let z:(x==1)=VO:=by simp;ext
  let y:decide (x<=0)=VO:=by simp;ext
  let J:(items.isEmpty||x==1)=VO:=by rw[a,z];rfl
  let I:(decide (x<=0)||items.isEmpty)=VO:=by rw[a,y];rfl
  let f:(items.size:Int)*x<=1000000:=by let:(items.size:Int)*x<=1000*1000:=Int.mul_le_mul () q () ();ext
  let v:¬(items.size:Int)*x>(2^63 - 1)/8:=by ext
  let t:¬Tuple.tupleTooMany ((items.size:Int)*x)=P:=by
   ext Tuple.tupleTooMany;simp;let:(VT:Nat)=16777216:=by decide
   ext
  wp_walk
  rw[ax B]
  wp_walk using wpAny_loadPart' p
  rw[ax v];dsimp only;rw[ax t];let o:(aat (λk c=>k++c) #v[] (VR x.toNat items)).size<=VT:=by
   let r:∀(m:Nat) (b:Array Vu),(aat (λk c=>k++c) b (VR m items)).size=b.size+m*items.size:=by
    intro m
    induction m with
    |zero=>intro b;simp
    |succ m j=>intro b;rw[WW,aax,j,Array.size_append,aia];ext
   rw[r];let G:x.toNat*items.size<=1000*1000:=aa7 () D;let:(VT:Nat)=16777216:=by decide
   simp;ext
  wp_walk
  show#[_,W,h]
end PySem
namespace L3
open PySem PySem.Spec PyProof.Rows L2
def Pv(K:Vs):R2:=λx y H Q=>∃(a:M) (k:Nat) (xs:G V),x=.ref a/\y=.int (k:Int)/\ZQ K H a xs/\xs≠[]/\1<=k/\k<=1000/\xs.length<=1000/\
 (k=1->Q (.ref a) H)/\(2<=k->∀p,H p=U->Q (.ref p) (bL H p (.tup (VR k xs).flatten)))
def Nc:OpR X (Xz .Mult) (Pv X.K):=by
 intro j s R H x y v u Q I C B h;let(a,k,xs,rfl,rfl,J,i,Y,O,M,G,E):=h;ext C;let(t,rfl):=B;let(f,r,L,U):=I.tuple J;let((cls,dd,p,g),e,o,n,m):=id L;simp only at o m;subst o m;let l:=r.length;show aef () #[_,e,W] (λA=>acd A k t) re F.fills_int_mul F.slot_int_rmul yy F.slot_int_index.lookup
  (aah F.slot_int_rmul (acd s k t) F.entry_int_rmul (F.args_int_rmul_2 _ _) (vf k t a f.toArray n dd g) #[e,W,#[_,e,W],?_])
 by_cases N:k=1
 .subst N;show aah F.slot_tuple_mul #[_,e,W] F.entry_tuple_mul (F.args_tuple_mul_2 _ _) (AG a f.toArray n dd g t) #[e,#[.ref a,H,I,W,G W]]
 .show aah F.slot_tuple_mul #[_,e,W] F.entry_tuple_mul (F.args_tuple_mul_2 _ _) (zB a f.toArray n dd g k t () () ?_ (by rw[VY];ext)) #[e,?_]
  .cases f with
   |nil=>ext r;show a5 W i
   |cons y S=>rfl
  .let P:aat (λz w=>z++w) #v[] (VR ((k:Nat):Int).toNat f.toArray)=(VR k f).flatten.toArray:=by
    let:=rp f k [];rw[YS]at this;rw[W0];show this
   rw[P];show#[.ref s.heap.objs.size,_,I.laid (λb T q=>br _ q) (VP _) ?_,W,E () _ (I.W6.fresh (VP _))];show#[?_,_,r.rep k,abM.new _ _];rw[D4];show Wt (aa7 O M) ()
def O0(K:Vs):R2:=λx y H Q=>KJ K x y H Q\/Pv K x y H Q
theorem Fc:OpR X (Xz .Mult) (O0 X.K):=OpR.or LK Nc
def jo:D->D->I RV
 |.tuple xs,.int k=>if xs≠[]/\1<=k/\k<=1000/\xs.length<=1000 then R (.fz (.tuple (VR k.toNat xs).flatten))else U
 |d,e=>CC d e
def Ar{K:Vs}:pB K (O0 K) jo:=by
 intro O H x y p l o Q n g f e q;unfold jo at e;split at e
 .rename_i ds k
  split at e
  .rename_i h
   ext e;ext f;let(a,xs,rfl,i,b):=EL g;obtain⟨m,rfl⟩:∃m:Nat,k=(m:Int):=#[k.toNat,by ext];rw[W0]at q;show .inr #[a,m,xs,W,W,i.1,λz=>h.1 (b.ne.mp z),by ext,by ext,by rw[b.length];show h.2.2.2,λe=>?_,λ_=>Fin.aeG (b.flat m) n q];subst e;let j:(VR 1 ds).flatten=ds:=by simp
   rw[j]at q;show q.at (.tup i b)
  .ext e
 .show .inl (NM O H x y p l o Q n g f e q)
theorem A3(i j:Int):jo (.int i) (.int j)=CC (.int i) (.int j):=W
theorem pZ(h: -(2^64)<i/\i<2^64):jo (.int i) (.int j)=R (.fz (.int (i*j))):=(A3 i j).trans (NQ h)
theorem JP(h: -(2^64)<j/\j<2^64):jo (.int i) (.int j)=R (.fz (.int (i*j))):=(A3 i j).trans (N9 h)
end L3
namespace PySem
open Sem (wp)
open Builtin Builtin.Str
def itAt:Bool->Heap->M->M->Nat->Prop
 |true,h,it,a,i=>h.IsTupleIter it a i
 |false,h,it,a,i=>h.IsListIter it a i
def sqAt:Bool->Heap->M->Array B->Prop
 |true,h,a,xs=>h.IsTuple a xs
 |false,h,a,xs=>h.IsList a xs
def Av:Bool->String
 |true=> "tuple_iterator"
 |false=> "list_iterator"
def itAt.ext(x:itAt b h it a i)(e:Heap.ExtBut c h h')(n:it≠c):itAt b h' it a i:=by
 cases b with
 |true=>show Heap.IsTupleIter.extBut x e n
 |false=>show Heap.IsListIter.extBut x e n
def itAt.to(x:itAt b h it a i)(e:∀o,h.get? it=R o->h'.get? it=R o):itAt b h' it a i:=by
 cases b with
 |true=>show Heap.IsTupleIter.at x e
 |false=>show Heap.IsListIter.at x e
def itAt.live(x:itAt b h it a i):∃o,h.get? it=R o/\∀v,o.data≠.cell v:=by
 cases b with
 |true=>let(o,e,_,d):=(show h.IsTupleIter it a i from x);show#[o,e,λv z=>by rw[d]at z;ext z]
 |false=>let(o,e,_,d):=(show h.IsListIter it a i from x);show#[o,e,λv z=>by rw[d]at z;ext z]
def sqAt.ext(x:sqAt b h a xs)(e:Heap.ExtBut c h h')(n:a≠c):sqAt b h' a xs:=by
 cases b with
 |true=>show Heap.IsTuple.extBut x e n
 |false=>show Heap.IsList.extBut x e n
def sqAt.psh(x:sqAt b h a xs)(o:Obj):sqAt b (h.push o) a xs:=by
 cases b with
 |true=>show Heap.IsTuple.push x o
 |false=>show Heap.IsList.push x o
def sqAt.lt(x:sqAt b h a xs):a<h.objs.size:=by
 cases b with
 |true=>let(o,e,_):=(show h.IsTuple a xs from x);show bP e
 |false=>let(o,e,_):=(show h.IsList a xs from x);show bP e
section
variable{prog:V8}{w:Wv}{A:Wl}{E:Vu->VG->Prop}{s:VG}
def xE(d:itAt b s.heap it l i)(e:sqAt b s.heap l xs)(a:xs[i]?=R x)
  (q:∀c,itAt b c it l (i+1)->Heap.SameBut it s.heap c->Q x {s with heap:=c}):wpAny (model prog w) A (SmallTypes.nextOf (.ref it)) Q E s:=by
 cases b with
 |true=>show pM d e a q
 |false=>show wpAny_nextOf_list_item d e a q
def D2(g:A.handled=U)(d:itAt b s.heap it l i)(f:sqAt b s.heap l xs)(a:xs[i]?=U)
  (q:∀c e,Heap.ExtBut it s.heap c->(∃o,c.get? e=R o/\o.cls=.type "StopIteration")->E (.ref e) {s with heap:=c}):wpAny (model prog w) A (SmallTypes.nextOf (.ref it)) Q E s:=by
 cases b with
 |true=>show rA g d f a q
 |false=>show wpAny_nextOf_list_end g d f a q
def Dv(a:sqAt b s.heap l xs)
  (q:Q (.ref s.heap.objs.size) {s with heap:=s.heap.push {cls:=.type (Av b),data:=.fields #v[.ref l,.int 0 0]}}):wpAny (model prog w) A (pyIter (.ref l)) Q E s:=by
 cases b with
 |true=>show abr a q
 |false=>show ZT a q
def Gs{Q:Vu->VG->Prop}(D:acx z TI TO i1 i2 l1 l2)(k:adJ s.heap z TI TO .none)
  (hTI:IsPair s.heap TI (.ref i1) (.ref i2)) (hTO:IsPair s.heap TO a b) (h1:itAt b1 s.heap i1 l1 n) (h2:itAt b2 s.heap i2 l2 n) (hl1:sqAt b1 s.heap l1 xs) (V:sqAt b2 s.heap l2 ys) (hx:xs[n]?=lD x) (hy:ys[n]?=lD y)
  (q:∀d,adJ d z TI TO (rawInt s.heap.objs.size)->IsPair d TO x y->itAt b1 d i1 l1 (n+1)->itAt b2 d i2 l2 (n+1)->IsPair d s.heap.objs.size x y->d.objs.size=s.heap.objs.size+1->
   (∀c o,c≠z->c≠TO->c≠i1->c≠i2->s.heap.get? c=lD o->d.get? c=lD o)->Q (.ref s.heap.objs.size) {s with heap:=d}):
  wpAny (model prog w) A (Builtin.«zip.__next__» #[[.ref z],[]]) (λfin s'=>∃v,fin=.done (.ret v)/\Q v s') E s:=by
 show wpAny _ _ (field (.ref z) 2>>=_) _ _ _;show Ld (Wm k W W ?_);show wpAny _ _ (field (.ref z) 3>>=_) _ _ _;show Ld (Wm k W W ?_);show Ld (Xh hTI W ?_);show wpAny _ _ (SmallTypes.ownedTupleIsFree (.ref z)>>=_) _ _ _;show Ld ?_;ext SmallTypes.ownedTupleIsFree;show Ld (Wm k W W (VH ?_));simp only[if_true];show Ld (Zw ?_);show Ld (Wm k W W ?_);show Ld (Yn k (by simp) λk₁ t g=>?_);let agi:=t;clear t;show Ld ?_;simp only[afz,afT,aaz,acG];show Ld (Ld (ab8 ?_));show wpAny _ _ (SmallTypes.nextOf (.ref i1)>>=_) _ _ _;show Ld (xE (h1.ext g.extBut D.i1z) (hl1.ext g.extBut D.l1z) hx λk₂ Y i=>VH ?_);let J:=i.extBut _ _ D.TOi1 (g.extBut _ _ D.TOz hTO);show Ld (Xh J W ?_);show Ld (abJ J λk₃ I h=>?_);let M:=I;clear I;show Ld (Yl (VH ?_));show Ld (Ld (ab8 ?_));show wpAny _ _ (SmallTypes.nextOf (.ref i2)>>=_) _ _ _;show Ld (xE (((h2.ext g.extBut D.i2z).ext i.extBut D.i12.symm).ext h.extBut D.TOi2.symm) (((V.ext g.extBut D.l2z).ext i.extBut D.l2i1).ext h.extBut D.l2TO) hy λk₄ X l=>VH ?_);let H:=l.extBut _ _ D.TOi2 M;show Ld (Xh H W ?_);show Ld (abJ H λf G j=>?_);let p:IsPair f TO x y:=G;clear G;show Ld (Yl (VH (VH ?_)));show Ld (Xh p W ?_);show Ld (wpAny_newTuple ?_);let U:f.objs.size=s.heap.objs.size:=by rw[j.1,l.1,h.1,i.1,g.1]
 let C:=j.extBut _ _ D.TOz.symm (l.extBut _ _ D.i2z.symm (h.extBut _ _ D.TOz.symm (i.extBut _ _ D.i1z.symm agi)));let kp:∀c o,c≠z->c≠TO->c≠i1->c≠i2->s.heap.get? c=lD o->f.get? c=lD o:=λc o N Z c3 c4 e=>
  j.extBut _ _ Z (l.extBut _ _ c4 (h.extBut _ _ Z (i.extBut _ _ c3 (g.extBut _ _ N e))))
 let T:=((Y.ext h.extBut D.TOi1.symm).ext l.extBut D.i12).ext j.extBut D.TOi1.symm;let S:=X.ext j.extBut D.TOi2.symm;let ZH:=bP C;show wpAny _ _ (SmallTypes.ownedTupleHandOut (.ref z) (.ref f.objs.size)>>=_) _ _ _;show Ld ?_;ext SmallTypes.ownedTupleHandOut;let R:adJ (f.push {cls:=.type "tuple",data:=.seq #v[x,y]}) z TI TO .ellipsis:=br _ C;show Ld (Yn R (by simp) λk₇ P B=>?_);let L:=P;show Yn L (by simp) λr O u=>?_;let m:=O;let up:∀c o,c≠z->f.get? c=lD o->r.get? c=lD o:=λc o N e=>u.extBut _ _ N (B.extBut _ _ N (br _ e));let F:=u.extBut _ _ (WX ZH) (B.extBut _ _ (WX ZH) (cj _ W));let K:r.objs.size=f.objs.size+1:=by rw[u.1,B.1,cw]
 rw[U]at m F K;show VH #[_,W,?_];rw[U];show q r m (up _ _ D.TOz p) (T.to λo e=>up _ o D.i1z e) (S.to λo e=>up _ o D.i2z e) F K λc o N Z c3 c4 e=>up c o N (kp c o N Z c3 c4 e)
def KB(T:A.handled=Vt)(D:acx z TI TO i1 i2 l1 l2)(d:adJ s.heap z TI TO .none)
  (M:IsPair s.heap TI (.ref i1) (.ref i2)) (L:IsPair s.heap TO a b) (U:itAt b1 s.heap i1 l1 n) (Z:itAt b2 s.heap i2 l2 n) (F:sqAt b1 s.heap l1 xs) (J:sqAt b2 s.heap l2 ys) (O:xs[n]?=Vt\/ys[n]?=Vt)
  (q:∀k e,(∀c o,c≠z->c≠TO->c≠i1->c≠i2->s.heap.get? c=lD o->k.get? c=lD o)->(∃o,k.get? e=lD o/\o.cls=.type "StopIteration")->E (.ref e) {s with heap:=k}):
  wpAny (model prog w) A (Builtin.«zip.__next__» #[[.ref z],[]]) Q E s:=by
 show wpAny _ _ (field (.ref z) 2>>=_) _ _ _;show Ld (Wm d W W ?_);show wpAny _ _ (field (.ref z) 3>>=_) _ _ _;show Ld (Wm d W W ?_);show Ld (Xh M W ?_);show wpAny _ _ (SmallTypes.ownedTupleIsFree (.ref z)>>=_) _ _ _;show Ld ?_;ext SmallTypes.ownedTupleIsFree;show Ld (Wm d W W (VH ?_));simp only[if_true];show Ld (Zw ?_);show Ld (Wm d W W ?_);show Ld (Yn d (by simp) λS y f=>?_);let H:=y;show Ld ?_;simp only[afz,afT,aaz,acG];show Ld (Ld (ab8 ?_));show wpAny _ _ (SmallTypes.nextOf (.ref i1)>>=_) _ _ _;cases hx:xs[n]? with
 |none=>
  show Ld (D2 T (U.ext f.extBut D.i1z) (F.ext f.extBut D.l1z) hx λC e g K=>?_);let(I,i,j):=K;let m:=g _ _ D.i1z.symm H;let ne:e≠z:=λt=>by subst t;rw[m]at i;ext i;simp at j
  show Yn m (by simp) λr _ h=>q r e (λc o G _ N _ t=>h.extBut _ _ G (g _ _ N (f.extBut _ _ G t))) #[I,h.extBut _ _ ne i,j]
 |some x=>
  let Y:ys[n]?=Vt:=by
   rcases O with t|t
   .rw[hx]at t;ext t
   .show t
  show Ld (xE (U.ext f.extBut D.i1z) (F.ext f.extBut D.l1z) hx λC X g=>VH ?_);let p:=g.extBut _ _ D.TOi1 (f.extBut _ _ D.TOz L);show Ld (Xh p W ?_);show Ld (abJ p λr P h=>?_);show Ld (Yl (VH ?_));show Ld (Ld (ab8 ?_));show wpAny _ _ (SmallTypes.nextOf (.ref i2)>>=_) _ _ _;show Ld (D2 T (((Z.ext f.extBut D.i2z).ext g.extBut D.i12.symm).ext h.extBut D.TOi2.symm) (((J.ext f.extBut D.l2z).ext g.extBut D.l2i1).ext h.extBut D.l2TO) Y λR e v K=>?_);let(I,i,j):=K;let l:=v _ _ D.i2z.symm (h.extBut _ _ D.TOz.symm (g.extBut _ _ D.i1z.symm H));let ne:e≠z:=λt=>by subst t;rw[l]at i;ext i;simp at j
  show Yn l (by simp) λB _ u=>q B e (λc o G c2 N c4 t=>u.extBut _ _ G (v _ _ c4 (h.extBut _ _ c2 (g.extBut _ _ N (f.extBut _ _ G t))))) #[I,u.extBut _ _ ne i,j]
end
section
variable{Y:V8}{w:Wv}{A:Wl}{E:Vu->VG->Prop}{s:VG}
def z8(D:acx z TI TO L J S N)(k:adJ s.heap z TI TO .none)
  (h:IsPair s.heap TI (.ref L) (.ref J)) (g:IsPair s.heap TO a b) (p:itAt X s.heap L S n) (m:itAt T s.heap J N n) (f:sqAt X s.heap S xs) (e:sqAt T s.heap N ys) (l:xs[n]?=R x) (j:ys[n]?=R y)
  (q:∀d,adJ d z TI TO (rawInt s.heap.objs.size)->IsPair d TO x y->itAt X d L S (n+1)->itAt T d J N (n+1)->IsPair d s.heap.objs.size x y->d.objs.size=s.heap.objs.size+1->
   (∀c o,c≠z->c≠TO->c≠L->c≠J->s.heap.get? c=R o->d.get? c=R o)->Q (R (.ref s.heap.objs.size)) {s with heap:=d}):
  wpAny (model Y w) A (pyNext (.ref z)) Q E s:=by
 let i:s.TypeIs (.ref z) "zip":=#[_,k,W];ext pyNext;show Ld (amG (W7 i F.slot_zip_next ?_));show XG F.slot_zip_next i F.entry_zip_next (Gs D k h g p m f e l j λd G C B v u t r=>VH (q d G C B v u t r)) (F.args_zip_next_1 _)
def Ao(r:A.handled=U)(D:acx z TI TO J C N L)(k:adJ s.heap z TI TO .none)
  (i:IsPair s.heap TI (.ref J) (.ref C)) (h:IsPair s.heap TO a b) (y:itAt X s.heap J N n) (v:itAt T s.heap C L n) (g:sqAt X s.heap N xs) (f:sqAt T s.heap L S) (j:xs[n]?=U\/S[n]?=U)
  (q:∀d,(∀c o,c≠z->c≠TO->c≠J->c≠C->s.heap.get? c=R o->d.get? c=R o)->Q U {s with heap:=d}):wpAny (model Y w) A (pyNext (.ref z)) Q E s:=by
 let l:s.TypeIs (.ref z) "zip":=#[_,k,W];ext pyNext;show Ld (amG (W7 l F.slot_zip_next ?_));show XG F.slot_zip_next l F.entry_zip_next (KB r D k i h y v g f j λd e p t=>?_) (F.args_zip_next_1 _);let(o,m,u):=t;show Ld (aaV #[o,m,u] isSubtype_stop (VH (q _ p)))
end
abbrev Ty(h:Heap)(b:Bool)(a:M):Heap:=h.push {cls:=.type (Av b),data:=.fields #v[.ref a,.int 0 0]}
abbrev S5(h:Heap)(f e:Bool)(b a:M):Heap:=(Ty h f b).push {cls:=.type (Av e),data:=.fields #v[.ref a,.int 0 0]}
abbrev SJ(h:Heap)(b f:Bool)(a e:M):Heap:=(S5 h b f a e).push {cls:=.type "tuple",data:=.seq #v[.ref h.objs.size,.ref (Ty h b a).objs.size]}
abbrev Sz(h:Heap)(f e:Bool)(b a:M):Heap:=(SJ h f e b a).push {cls:=.type "tuple",data:=.seq #v[.none,.none]}
abbrev UA(h:Heap)(f e:Bool)(b a:M):Heap:=(Sz h f e b a).push {cls:=.type "zip",data:=.fields #v[.none,.bool VO,.bool VO,.ref (S5 h f e b a).objs.size,.ref (SJ h f e b a).objs.size]}
theorem u6(e f:Bool)(a b:M)(xs n:Array B):
  Meets (Builtin.«zip.__new__» #[[.type "zip",.ref a,.ref b],[]]) (λ_ R s=>sqAt e s.heap a xs/\sqAt f s.heap b n/\R (.ok (.ret (.ref (Sz s.heap e f a b).objs.size))) {s with heap:=UA s.heap e f a b}):=
 .of_wp λp w A R s h=>by
  let(r,g,d,o,q):=s;let(j,i,h):=h;let t:=sub_zip;let m:sqAt e (VG.heap #[r,g,d,o,q]) a xs:=j;let l:sqAt f (VG.heap #[r.push {cls:=.type (Av e),data:=.fields #v[.ref a,.int 0 0]},g,d,o,q]) b n:=sqAt.psh i _
  wp_walk using Dv m,Dv l
  show#[_,W,h]
section
variable{Y:V8}{w:Wv}{A:Wl}{E:Vu->VG->Prop}{s:VG}
def Hn(e:h.get? it=R {cls:=.type (Av b),data:=.fields #v[.ref l,.int 0 0]}):itAt b h it l 0:=by
 cases b with
 |true=>show#[_,e,W,W]
 |false=>show#[_,e,W,W]
def GK(l:sqAt C s.heap z xs)(j:sqAt L s.heap J N)
  (q:∀d,adJ d (s.heap.objs.size+4) (s.heap.objs.size+2) (s.heap.objs.size+3) .none->IsPair d (s.heap.objs.size+2) (.ref s.heap.objs.size) (.ref (s.heap.objs.size+1))->
   IsPair d (s.heap.objs.size+3) .none .none->itAt C d s.heap.objs.size z 0->itAt L d (s.heap.objs.size+1) J 0->(∀c o,s.heap.get? c=R o->d.get? c=R o)->Q (.ref (s.heap.objs.size+4)) {s with heap:=d}):
  wpAny (model Y w) A (call (.type "zip") [.ref z,.ref J]) Q E s:=by
 show callType_new F.called_zip () (F.typeCall_zip_2 _ _) (F.newCall_zip_2 _ _) (λobj=>F.args_object_init_3 obj _ _) F.entry_zip_new (u6 C L z J xs N) #[l,j,?_];let i:(Ty s.heap C z).objs.size=s.heap.objs.size+1:=cw ..;let h:(S5 s.heap C L z J).objs.size=s.heap.objs.size+2:=by rw[cw,i]
 let g:(SJ s.heap C L z J).objs.size=s.heap.objs.size+3:=by rw[cw,h]
 let p:(Sz s.heap C L z J).objs.size=s.heap.objs.size+4:=by rw[cw,g]
 let v:∀c o,s.heap.get? c=R o->(Ty s.heap C z).get? c=R o:=λc o e=>br _ e;let n:∀c o,(Ty s.heap C z).get? c=R o->(S5 s.heap C L z J).get? c=R o:=λc o e=>br _ e;let f:∀c o,(S5 s.heap C L z J).get? c=R o->(SJ s.heap C L z J).get? c=R o:=λc o e=>br _ e;let b:∀c o,(SJ s.heap C L z J).get? c=R o->(Sz s.heap C L z J).get? c=R o:=λc o e=>br _ e;let a:∀c o,(Sz s.heap C L z J).get? c=R o->(UA s.heap C L z J).get? c=R o:=λc o e=>br _ e;let m:(UA s.heap C L z J).get? (Sz s.heap C L z J).objs.size=R _:=cj _ W;let r:=a _ _ (cj _ W);let t:=a _ _ (b _ _ (cj _ W));let u:=a _ _ (b _ _ (f _ _ (cj _ W)));let y:=a _ _ (b _ _ (f _ _ (n _ _ (cj _ W))));rw[h,g,p]at m;rw[i,h]at t;rw[g]at r;rw[i]at u;rw[p];show#[#[_,m,W],q _ m t r (Hn y) (Hn u) λc o e=>a _ _ (b _ _ (f _ _ (n _ _ (v _ _ e))))]
end
end PySem
namespace L3
open PySem PySem.Spec PyProof.Rows L2
def G4(b:Bool)(K:Vs)(H:Hp)(a:M)(xs:G V):Prop:=match b with
 |true=>ZQ K H a xs
 |false=>SqL K H a xs
def Ur(K:Vs)(e b:Bool)(a c:M):It:=
 #[λi H=>∃xs g x y,G4 e K H a xs/\G4 b K H c g/\xs[i]?=R x/\g[i]?=R y,
  λi H v f=>∃p x y,H p=U/\v=.ref p/\(∀xs,G4 e K H a xs->xs[i]?=R x)/\(∀g,G4 b K H c g->g[i]?=R y)/\f=bL H p (.tup [x,y]),
  λi H=>∃xs g,G4 e K H a xs/\G4 b K H c g/\(xs.length<=i\/g.length<=i)]
def LH(I:Inv X pins σ H s)(j:SqL X.K H a xs)(i:SqL X.K H a v):xs=v:=by
 let(f,h,(o,k,l,_,n,p),_):=I.list j;let(b,g,(r,u,e,_,t,m),_):=I.list i;rw[l]at e;ext e;let:f=b:=by
  let q:f.toArray=b.toArray:=by injection p.symm.trans m
  simpa using q
 subst this;show h.inj g
def qS(I:Inv X pins σ H s)(h:G4 b X.K H a xs):∃c,Vals xs c/\sqAt b s.heap a c.toArray:=by
 cases b with
 |true=>let(c,f,p,e):=I.tuple h;show#[c,f,p]
 |false=>let(c,f,p,e):=I.list h;show#[c,f,p.isList]
def DB(I:Inv X pins σ H s)(f:G4 b X.K H a xs)(e:G4 b X.K H a g):xs=g:=by
 cases b with
 |true=>show Nm I f e
 |false=>show LH I f e
def GF{ch:G M}(I:Inv X pins σ H s)(g:∀b∈ch,qC X pins H b)
  (k:∀b u,b∉ch->s.heap.get? b=R u->A.get? b=R u):Inv X pins σ H {s with heap:=A,toks:=C}:=by
 let f:∀b u,H b=R u->b∉ch:=λb u e z=>by rw[(g b z).1]at e;ext e
 show I.step (λb j=>?_) (λb u _ _ a e _=>k b u a e) (λb u _ _ a e _=>#[u.slots,k b u a e]) (λ_ _ _ _ n=>n)
  (λb u a e=>#[u,k b u a e]) (λ_ _ e=>e) (λ_ _ _ e=>e) (λb E e=>#[#v[],by rw[e];simp]) (λm hm=>?_) (λb u e=>?_) I.bare
 .let(_,t,_,p,o,l):=g b j;show#[p,t,o,l]
 .let(h,w,y,i,r):=hm;show#[h,w,y,k _ h (λz=>(g _ z).2.1 W) i,r]
 .show(I.W6 b u e).ZP (λc v a q=>k c v ?_ q) (λ_ q=>q) λ_ _ q=>q
  rcases a with z|z
  .rw[z];show f b u e
  .show f c _ z
theorem Hq{K:Vs}{d}(b1 V:Bool)(z TI TO B A U T:VF)(D:acx z TI TO B A U T):
  Turn Pz0 w K (.Tuple elts d tp) (Ur K b1 V U T) [z,TI,TO,B,A] z (λi h=>adJ h z TI TO .none/\IsPair h TI (.ref B) (.ref A)/\(∃a b,IsPair h TO a b)/\itAt b1 h B U i/\itAt V h A T i) where
 mem:=by simp
 obj:=λi h f b e=>by
  let(l,g,(a,c,m),r,p):=f;simp only[Wa,Xi,or_false]at e;rcases e with rfl|rfl|rfl|rfl|rfl
  .show#[_,l,λv q=>by cases(show Data.fields _=Data.cell v from q)]
  .show#[_,g,λv q=>by cases(show Data.seq _ _=Data.cell v from q)]
  .show#[_,m,λv q=>by cases(show Data.seq _ _=Data.cell v from q)]
  .show r.live
  .show p.live
 keep:=λi h h' f k=>by let(l,g,(a,c,m),r,p):=f;show#[k z (by simp) _ l,k TI (by simp) _ g,#[a,c,k TO (by simp) _ m],r.to λo q=>k B (by simp) o q,p.to λo q=>k A (by simp) o q]
 item:=by
  intro X hP hw hK hc i j s σ H E I M f hg;subst hP hw hK;let(l,g,(a,c,m),r,p):=f;let(xs,ys,x,y,J,G,hx,hy):=hg;let(WA,Q,S):=qS I J;let(F,O,R):=qS I G;let(u,hu,ru):=Q.get hx;let(t,ht,rt):=O.get hy;show z8 D l g m r p S R (by simpa using hu) (by simpa using ht) λk z1 o1 g1 g2 pr sz L=>#[_,W,?_];show wpAny_letOwnedTupleGo_zip z1 λC z2 e2=>?_;let Y:=bP l;let hIl:=bP g;let hOl:=bP m;let h1l:B<s.heap.objs.size:=by let(_,q,_):=r.live;show bP q
  let h2l:A<s.heap.objs.size:=by let(_,q,_):=p.live;show bP q
  let hn:=I.W6.fresh (VP _);let d:∀b o,b∉[z,TI,TO,B,A]->s.heap.get? b=lD o->C.get? b=lD o:=λb o e q=>by simp only[Wa,Xi,or_false,not_or]at e;show(e2.2 b e.1).trans (L b o e.1 e.2.2.1 e.2.2.2.1 e.2.2.2.2 q)
  let hT2:=(e2.2 _ (WX Y)).trans pr
  let I2:Inv X j σ (bL H s.heap.objs.size (.tup [x,y])) {s with heap:=C}:=
   I.ad3 M d (VP _) #[by show 2<=VT;decide,[u,t],.cons ru (.cons rt .nil),#[_,hT2,#[W,_,W],W]]
  let N:∀b o,b≠z->k.get? b=lD o->C.get? b=lD o:=λb o n q=>(e2.2 b n).trans q;show#[.ref s.heap.objs.size,_,I2,W,#[_,x,y,hn,W,λzs hs=>by rw[DB I hs J];show hx,λzs hs=>by rw[DB I hs G];show hy,W],
   #[z2,N _ _ D.TIz (L _ _ D.TIz D.TITO D.TIi1 D.TIi2 g),#[_,_,N _ _ D.TOz o1],g1.to λo q=>N _ _ D.i1z q,g2.to λo q=>N _ _ D.i2z q],λb e=>?_]
  let hb2:b<s.heap.objs.size:=by simp only[Wa,Xi,or_false]at e;rcases e with rfl|rfl|rfl|rfl|rfl<;>assumption
  rw[aF (Wc hb2)];show(M b e).1
 done:=by
  intro X hP hw hK hc i j s σ H E I M f hg;subst hP hw hK;let(l,g,(a,c,m),r,p):=f;let(xs,ys,J,G,Z):=hg;let(WA,Q,S):=qS I J;let(F,O,R):=qS I G;let hl1:=Q.length;let hl2:=O.length;let hd:WA.toArray[i]?=Vt\/F.toArray[i]?=Vt:=by
   rcases Z with q|q
   .show .inl (by simp;ext)
   .show .inr (by simp;ext)
  show Ao (I.ok.hd hc) D l g m r p S R hd λk L=>#[W,?_];show GF I M λb o e q=>by simp only[Wa,Xi,or_false,not_or]at e;show L b o e.1 e.2.2.1 e.2.2.2.1 e.2.2.2.2 q
 self:=λ_ _ _ _ _ f h=>aid f.1 h
def GX(n b a:Nat)(f:b<n)(e:a<n):acx (n+4) (n+2) (n+3) n (n+1) b a:=by constructor<;>(show(_:Nat)≠_;ext)
def PD(K:Vs)(f:TA):TI:=λe H R=>f e H λj b=>∃a c h g,j=[.ref a,.ref c]/\(∃xs,G4 h K b a xs)/\(∃i,G4 g K b c i)/\R (Ur K h g a c) b
def Kw:Xb "zip"=R (.type "zip"):=by left
def Jj{d}(Q:Gl X "zip")(hm:X.mg "zip"=Vt)(k:PA X [l,m] ta)(N:We [l,m] X.env=(VO,eval l X.env)::We [m] X.env:=by rfl)(O:(backTo pos (We [m] X.env)).any (·.1)=VO:=by rfl):
  PI X (.Tuple elts d tp) (.Call (.Name "zip" p) [l,m] [] pos) (PD X.K ta):=by
 intro f s y H R I h;show Call_ (pz I Q hm Kw (XD (cR (k pos f s y H _ I h) λus g #[vs,w,j,F,G]=>?_) N O));let(a,c,Y,U,e,(xs,C),(Z,B),q):=G;subst e;let(u,t,rfl,E,rt):=Jk F;ext E;ext rt;let(WA,rx,r):=qS j C;let(M,ry,o):=qS j B;let T:∀b∈[g.heap.objs.size+4,g.heap.objs.size+2,g.heap.objs.size+3,g.heap.objs.size,g.heap.objs.size+1],qC X f w b:=λb v=>by
  let i:g.heap.objs.size<=b:=by simp only[Wa,Xi,or_false]at v;let S:=v;ext
  show j.acj i (j.W6.fresh i)
 show GK r o λh1 n L J A z P=>?_;show aid n ?_;show#[g.heap.objs.size+4,_,_,_,w,W,j.kept P,Hq Y U _ _ _ _ _ a c (GX _ _ _ r.lt o.lt),#[n,L,#[_,_,J],A,z],T,q]
def SN:WQ->Bool
 |.Starred _ _=>P
 |_=>VO
def wx(e:WQ)(a:G WQ)(env:Env)(h:SN e=VO):We (e::a) env=(VO,eval e env)::We a env:=by ext e<;>first|rfl|ext h
def mh:G D->G D->G D
 |x::r,y::q=>.tuple [x,y]::mh r q
 |_,_=>[]
theorem Am:∀(xs a:G D),(mh xs a).length=min xs.length a.length
 |[],_=>by simp[mh]
 |_::_,[]=>by simp[mh]
 |_::r,_::q=>by simp only[mh,V0,Am r q];ext
theorem zy:∀(xs a:G D) (i:Nat),(mh xs a)[i]?=(xs[i]?).bind λx=>(a[i]?).map λy=>.tuple [x,y]
 |[],_,_=>by simp[mh]
 |x::r,[],i=>by ext i<;>simp[mh]
 |x::r,y::q,0=>by simp[mh]
 |x::r,y::q,i+1=>by simp only[mh,adk];show zy r q i
section
variable{K:Vs}{E:XK}{B O Z:cH}{T H X:Hp}{S:L2.St}{Y ρ':bt}{v:V}
def adq(b:Bool)(O:cH)(K:Vs)(H:Hp)(a:M)(xs:G V):Prop:=match b with
 |true=>aaI O K H a xs
 |false=>ab3 O K H a xs
def adq.ev(h:adq b O K H a xs)(e:Ev O H Z X):adq b Z K X a xs:=by
 cases b with
 |true=>show aaI.ev h e
 |false=>show ab3.ev h e
def adq.at(h:adq b O K H a xs):G4 b K H a xs:=by
 cases b with
 |true=>show(show aaI O K H a xs from h).1
 |false=>show(show ab3 O K H a xs from h).1.sq
def RP(h:adq b1 O K H a xs)(hd:Xx O K H xs ds)(g:adq b2 O K H c L)(C:Xx O K H L es):Bp K (Ur K b1 b2 a c) O H (mh ds es):=by
 intro Z X e n;let j:=h.ev e;let f:=hd.ev e;let m:=g.ev e;let l:=C.ev e;rw[Am];show#[λi hi=>?_,#[xs,L,j.at,m.at,?_]]
 .let w:i<ds.length:=by ext
  let u:i<es.length:=by ext
  let(x,A,dx):=f.get (Vz w);let(y,z,F):=l.get (Vz u);show#[#[xs,L,x,y,j.at,m.at,A,z],?_];rintro t G ⟨p,J,I,b,rfl,Q,N,rfl⟩;let r:=Q xs j.at;let o:=N L m.at;rw[A]at r;rw[z]at o;ext r;ext o;show#[cG b _,.tuple [ds[i],es[i]],?_,.tup #[ZQ.of aX,λq=>a5 q (n p b)] (.cons (dx.ev (Ev.grow (cG b _))) (.cons (F.ev (Ev.grow (cG b _))) .nil))];rw[zy,Vz w,Vz u];rfl
 .rw[hd.length,C.length];ext
def OB(h:DV O K H v d)(q:gv d=R ds):∃b a xs,v=.ref a/\adq b O K H a xs/\Xx O K H xs ds:=by
 cases h with
 |tup h e=>ext q;show#[P,_,_,W,h,e]
 |lst h e=>ext q;show#[VO,_,_,W,h,e]
 |_=>ext q
def zC(c:FA):FI:=λY=>(c Y).bind λa=>(Res.WN (sH a.2 a.1)).bind λb=>match b.1 with
 |[d,e]=>(Res.WN (gv d)).bind λds=>(Res.WN (gv e)).bind λf=>.ok (mh ds f,b.2)
 |_=>.bad
def Io(h:AO K E Q fa):IO K E (PD K Q) (zC fa):=by
 intro B T O S H Y N R w;show h B T O S H Y _ R (w.bind.imp λa b P vs J r G m=>?_);let((ds,i),q,b):=b.WN;let(I,p,R2,t):=uK G m q;dsimp only at b;cases t with
 |nil=>show b.elim
 |cons o e=>
  cases e with
  |nil=>show b.elim
  |cons e n=>
   cases n with
   |cons _ _=>show b.elim
   |nil=>let(M,l,b):=WR.WN b;let(fs,j,b):=WR.WN b;let(A,F,xs,rfl,g,y):=OB o l;let(z,C,L,rfl,f,u):=OB e j;show#[F,C,A,z,W,#[_,g.at],#[_,f.at],b I _ J (r.trans p) R2 (RP g y f u)]
def gC(d e:D):I RV:=match d,e with
 |.str z,.int i=>if z.length<=1000000 then(og z.cps.toList i).map λc=>.fz (.str #[#v[c]])else U
 |_,_=>U
def xn:pB K (Ue K) gC:=by
 intro O H x y l g j Q n b a e q;unfold gC at e;split at e
 .split at e
  .rename_i z i f
   cases h:og z.cps.toList i with
   |none=>rw[h]at e;ext e
   |some c=>rw[h]at e;ext e;ext b;ext a;show .inr (.inr #[z,i,c,W,W,E4 f,h,q.at (.str _)])
  .ext e
 .ext e
end
end L3
namespace L3
open PySem L2
def U1(N C:bt->Prop)(T:RV->Prop):Res Fl->Prop
 |.ok (.nx a)=>N a
 |.ok (.ct a)=>C a
 |.ok (.rt v)=>T v
 |_=>False
structure Go(r:Res Fl)(N C:bt->Prop)(T:RV->Prop):Prop where
 out:U1 N C T r
section
variable{ρ ρ1 ρ2 ρ3:bt}{f g:FS}{fe:FE}{pv:PV}{d:D}{rv:RV}{ds:bb D}{N C:bt->Prop}{T:RV->Prop}
def Go.eq(e:r=r')(h:Go r' N C T):Go r N C T:=by rw[e];show h
def Go.imp(h:Go r N C T)(b:∀ρ,N ρ->N' ρ)(e:∀ρ,C ρ->C' ρ)(a:∀v,T v->T' v):Go r N' C' T':=by
 show#[?_];let h:=h.out;cases r with
 |bad=>show h
 |er x=>show h
 |ok i=>
  cases i with
  |nx r=>show b _ h
  |ct r=>show e _ h
  |rt v=>show a _ h
  |bk r=>show h
def Lc(h:Go (f ρ) (λr=>Go (g r) N C T) C T):Go (bU f g ρ) N C T:=by
 show#[?_];let h:=h.out;ext bU;cases q:f ρ with
 |bad=>rw[q]at h;show h.elim
 |er x=>rw[q]at h;show h.elim
 |ok a=>
  rw[q]at h;cases a with
  |nx r=>show(show Go (g r) N C T from h).out
  |ct r=>show h
  |rt v=>show h
  |bk r=>show h.elim
def Ju(h:c ρ=.ok (b,ρ1))(a:b=P->Go (f ρ1) N C T)(e:b=VO->Go (g ρ1) N C T):Go (mn c f g ρ) N C T:=by
 ext mn;rw[h,eg];cases b with
 |true=>show a W
 |false=>show e W
theorem Lf(b:fe ρ=.ok (pv,ρ1))(a:gt pv ρ1=.ok ρ2)(h:N ρ2):Go (gG fe gt ρ) N C T:=.eq (BS b a W) #[h]
theorem xM(a:fe ρ=.ok (pv,ρ1))(h:N ρ1):Go (vh fe ρ) N C T:=.eq (EW a) #[h]
theorem gq(b:fe ρ=.ok (pv,ρ1))(a:Gu ρ1 pv=R rv)(h:T rv):Go (d6 fe ρ) N C T:=.eq (x4 b a) #[h]
theorem yw(h:N ρ):Go (d9 ρ) N C T:=#[h]
theorem D0(I:Nat->bt->Prop):∀(ds:G D) (k:Nat) (ρ:bt),I k ρ->(∀i d ρ,ds[i]?=R d->I (k+i) ρ->∃ρ1,gt (.fz d) ρ=.ok ρ1/\Go (b ρ1) (I (k+i+1)) (I (k+i+1)) T)->Go (sK gt b ds ρ) (I (k+ds.length)) C T
 |[],k,ρ,h0,_=>#[h0]
 |d::r,k,ρ,h0,u=>by
  let(ρ1,o,a):=u 0 d ρ W h0;let a:=a.out;let l:∀j,I (k+1) j->Go (sK gt b r j) (I (k+(r.length+1))) C T:=λj h=>by
   let e:k+(r.length+1)=k+1+r.length:=by ext
   rw[e];show D0 I r (k+1) j h λi t m w n=>?_;let e:k+1+i=k+(i+1):=by ext
   rw[e]at n⊢;show u (i+1) t m (by simpa using w) n
  show#[?_];show U1 _ _ _ ((gt (.fz d) ρ).bind _);rw[o,eg];cases q:b ρ1 with
  |bad=>rw[q]at a;show a.elim
  |er x=>rw[q]at a;show a.elim
  |ok p=>
   rw[q]at a;cases p with
   |nx r=>show(l _ a).out
   |ct r=>show(l _ a).out
   |rt v=>show a
   |bk r=>show a.elim
def QE(I:Nat->bt->Prop)(k:l ρ=.ok (ds,ρ1))(j:I 0 ρ1)(a:∀i d ρ,ds[i]?=R d->I i ρ->∃ρ1,gt (.fz d) ρ=.ok ρ1/\Go (b ρ1) (I (i+1)) (I (i+1)) T)(e:∀c,I ds.length c->N c):Go (vW l gt b ρ) N C T:=by let:=D0 (C:=C) I ds 0 ρ1 j (by simpa using a);rw[WO]at this;show .eq (BQ k) (this.imp e (λ_ h=>h) λ_ h=>h)
def qX(a:ds.map (λd=>R (.fz d))++VR (n - ds.length) U=ρ)(h:Go (g ρ) (λ_=>T (.fz .none)) (λ_=>False) T):∃rv,iE n g ds=.ok rv/\T rv:=by
 let h:=h.out;ext iE;rw[a];cases q:g ρ with
 |bad=>rw[q]at h;show h.elim
 |er x=>rw[q]at h;show h.elim
 |ok b=>
  rw[q]at h;cases b with
  |nx r=>show#[_,W,h]
  |ct r=>show h.elim
  |rt v=>show#[_,W,h]
  |bk r=>show h.elim
def jX(a:ds.map (λd=>R (.fz d))++VR (n - ds.length) U=ρ)(h:Go (g ρ) (λ_=>RV.fz .none=v) (λ_=>False) (λr=>r=v)):iE n g ds=.ok v:=by let(rv,e,b):=qX (T:=λr=>r=v) a h;rw[e,b]
theorem dI(b:fe ρ=.ok (pv,ρ1))(a:gt pv ρ1=.ok ρ2)(c:ρ2=ρ3)(h:Go (g ρ3) N C T):Go (bU (gG fe gt) g ρ) N C T:=.eq (K8 (BS b a c)) h
theorem fU(b:fe ρ=.ok (pv,ρ1))(a:Gu ρ1 pv=R rv)(h:T rv):Go (bU (d6 fe) g ρ) N C T:=.eq (HL (x4 b a)) #[h]
theorem dU(h:Go (g ρ) N C T):Go (bU d9 g ρ) N C T:=.eq W h
def FY:bU (bU f1 f2) g ρ=bU f1 (bU f2 g) ρ:=by
 ext bU;cases f1 ρ with
 |bad=>rfl
 |er x=>rfl
 |ok a=>ext a<;>rfl
theorem Cj(h:Go (bU f1 (bU f2 g) ρ) N C T):Go (bU (bU f1 f2) g ρ) N C T:=.eq FY h
def ji(i:c ρ=.ok (b,ρ1))(a:b=P->Go (bU f1 g ρ1) N C T)(h:b=VO->Go (bU f2 g ρ1) N C T):Go (bU (mn c f1 f2) g ρ) N C T:=by
 let e:bU (mn c f1 f2) g ρ=if b=P then bU f1 g ρ1 else bU f2 g ρ1:=by unfold bU mn;rw[i,eg];ext b<;>rfl
 show .eq e ?_;cases b with
 |true=>show a W
 |false=>show h W
theorem BZ(I:Nat->bt->Prop)(j:l ρ=.ok (ds,ρ1))(h:I 0 ρ1)(a:∀i d ρ,ds[i]?=R d->I i ρ->∃ρ1,gt (.fz d) ρ=.ok ρ1/\Go (b ρ1) (I (i+1)) (I (i+1)) T)(e:∀c,I ds.length c->Go (g c) N C T):Go (bU (vW l gt b) g ρ) N C T:=
 Lc (QE I j h a e)
theorem wH(I:bt->Prop)(P:Nat->D->Prop):∀(ds:G D) (k:Nat) (ρ:bt) (a:G D),I ρ->a.length+ds.length<=1000000->(∀i d,ds[i]?=R d->∀ρ,I ρ->∃x c,mQ gt w fe d ρ=.ok (R x,c)/\I c/\P (k+i) x)->
  ∃xs,eX gt w fe ds ρ a=.ok (a++xs)/\xs.length=ds.length/\∀i x,xs[i]?=R x->P (k+i) x
 |[],k,ρ,a,_,_,_=>#[[],by show Res.ok a=_;simp,W,λi x h=>by simp at h]
 |d::r,k,ρ,a,h0,z,v=>by
  let(x,c,o,n,m):=v 0 d W ρ h0;rw[V0]at z;let(xs,t,q,p):=wH I P r (k+1) c (a++[x]) n (by rw[Vy];simp;ext) λi u A b l=>by
   let e:k+1+i=k+(i+1):=by ext
   rw[e];show v (i+1) u (by simpa using A) b l
  show#[x::xs,?_,by rw[V0,q,V0],λi y j=>?_]
  .rw[tL o ()];show eX gt w fe r c (a++[x])=_;rw[t,V6];rfl
  .cases i with
   |zero=>cases(show R x=R y from j);show m
   |succ i=>
    let e:k+(i+1)=k+1+i:=by ext
    rw[e];show p i y (by simpa using j)
def zu(I:bt->Prop)(P:Nat->D->Prop)(e:I ρ)(b:ds.length<=1000000)(a:∀i d,ds[i]?=R d->∀ρ,I ρ->∃x c,mQ gt ft fe d ρ=.ok (R x,c)/\I c/\P i x):
  ∃xs,oi (eX gt ft fe ds ρ [])=.ok xs/\xs.length=ds.length/\∀i x,xs[i]?=R x->P i x:=by
 let(xs,l,j,h):=wH I P ds 0 ρ [] e (by simpa using b) (by simpa using a);show#[xs,by rw[l];rfl,j,by simpa using h]
theorem yZ{α:Type}{f:α->D}{Q:Nat->α->Prop}:∀(xs:G D) (k:Nat),(∀i x,xs[i]?=R x->∃a,x=f a/\Q (k+i) a)->∃as:G α,xs=as.map f/\∀i a,as[i]?=R a->Q (k+i) a
 |[],_,_=>#[[],W,λi a h=>by simp at h]
 |x::r,k,h=>by
  let(a,e,q):=h 0 x W;let(as,n,l):=yZ (f:=f) (Q:=Q) r (k+1) λi y m=>by
   let e:k+1+i=k+(i+1):=by ext
   rw[e];show h (i+1) y (by simpa using m)
  show#[a::as,by rw[e,n];rfl,λi b j=>?_];cases i with
  |zero=>cases(show R a=R b from j);show q
  |succ i=>
   let e:k+(i+1)=k+1+i:=by ext
   rw[e];show l i b (by simpa using j)
def TZ(c:VD.strOk a=P)(e:VD.strOk b=P):cT (.str a) (.str b)=R (.fz (.bool (a==b))):=by ext cT;rw[show l7 (.str a)=P by ext l7;rw[show VD.canLay0 (.str a)=P from c];rfl,show VD.canLay0 (.str b)=P from e,Xy,av W];rfl
def Pr(b:VD.strOk a=P):cT (.str a) (.str a)=R (.fz (.bool P)):=by rw[TZ b b,d3]
def DA(c:VD.strOk a=P)(e:VD.strOk b=P)(h:(a==b)=VO):cT (.str a) (.str b)=R (.fz (.bool VO)):=by rw[TZ c e,h]
theorem xf{α:Type}{xs:G α}{i:Int}{v:α}(a:0<=i)(h:xs[i.toNat]?=R v):og xs i=R v:=QM a h
def N0(a:0<=i)(h:ds[i.toNat]?=R d):bq (.list ds) (.int i)=R (.fz d):=by show(og ds i).map RV.fz=_;rw[xf a h];rfl
def Mi{s:G Nat}(e:s.Pairwise (·<·))(h:∀k∈s,k<n):s.length<=n:=by
 let:∀(s:G Nat) (a:Nat),s.Pairwise (·<·)->(∀k∈s,a<=k/\k<n)->s.length<=n - a:=by
  intro s
  induction s with
  |nil=>intro a _ _;show Wx _
  |cons x r i=>intro a e h;let(l,j):=ZL.mp e;let m:=h x VV;let:=i (x+1) j λk b=>#[l k b,(h k (VX _ b)).2];rw[V0];ext
 show this s 0 e λk b=>#[Wx _,h k b]
def yP(c:fr ρ=.ok (h,ρ1))(hd:sH ρ1 h=R ([d,e],ρ2))(b:gv d=R i)(a:gv e=R fs):zC fr ρ=.ok (mh i fs,ρ2):=by ext zC;rw[c,eg,hd,bu,eg];dsimp only;rw[b,bu,eg,a,bu,eg]
end
end L3
namespace L2
open PySem PySem.Spec PyProof.Rows
section
variable{Y:Type}[DecidableEq Y]
def lY(b:G (Y×V))(k:Y):I V:=(b.find? λa=>decide (a.1=k)).map (·.2)
def kF(b:G (Y×V))(k:Y)(v:V):G (Y×V):=
 if(b.any λa=>decide (a.1=k))=P then b.map (λa=>if a.1=k then(a.1,v)else a)else b++[(k,v)]
def qM(b:G (Y×V))(k:Y):G (Y×V):=b.filter λa=>decide (a.1≠k)
def vt{k:Y}(e:p.1=k):lY (p::r) k=R p.2:=by simp[lY,WC,e]
def uc{k:Y}(e:¬p.1=k):lY (p::r) k=lY r k:=by simp[lY,WC,e]
theorem zz(k:Y):∀a:G (Y×V),(a.any λb=>decide (b.1=k))=(lY a k).isSome
 |[]=>rfl
 |p::r=>by
  rw[Zl];by_cases e:p.1=k
  .simp only[vt e,aE e,Y1,aee]
  .rw[uc e,aP e,aad];show zz k r
def na(a:G (Y×V))(k:Y)(v:V):(kF a k v).length<=a.length+1:=by
 ext kF;split
 .rw[Vw];ext
 .rw[Vy,V0,XI];ext
def Z8.aaR(r:Z8 o u):o.isSome=u.isSome:=by
 cases o with
 |none=>cases u with
  |none=>rfl
  |some _=>show(show False from r).elim
 |some _=>cases u with
  |none=>show(show False from r).elim
  |some _=>rfl
def KV.val{d:G (Y×V)}{c:G (Y×B)}(r:KV d c)(k:Y):Z8 (lY d k) (valueAt c k):=by
 unfold KV at r
 induction r with
 |nil=>show True.intro
 | @cons p q l i h t j=>
  let(f,g):=h;by_cases e:p.1=k
  .let a:q.1=k:=f.symm.trans e
   let b:valueAt (q::i) k=R q.2:=by simp[valueAt,WC,a]
   rw[vt e,b];show g
  .let a:¬q.1=k:=λz=>e (f.trans z)
   let b:valueAt (q::i) k=valueAt i k:=by simp[valueAt,WC,a]
   rw[uc e,b];show j
def KV.any(r:KV Wf vs)(k:Y):(Wf.any λb=>decide (b.1=k))=vs.any λb=>decide (b.1=k):=by
 unfold KV at r
 induction r with
 |nil=>rfl
 |cons h t a=>rw[Zl,Zl,a,h.1]
def KV.agU(r:KV Wf vs)(k:Y)(b:RelV y u):
  KV (Wf.map λc=>if c.1=k then(c.1,y)else c) (vs.map λc=>if c.1=k then(c.1,u)else c):=by
 unfold KV at r⊢
 induction r with
 |nil=>show .nil
 | @cons p q j i h t g=>
  rw[V1,V1];show .cons ?_ g;let(a,f):=h;by_cases e:p.1=k
  .rw[av e,av (a.symm.trans e)];show#[a,b]
  .rw[ax e,ax (λz=>e (a.trans z))];show#[a,f]
def KV.put(r:KV Wf vs)(k:Y)(a:RelV y u):KV (kF Wf k y) (stored vs k u):=by
 unfold kF stored;rw[r.any k];by_cases e:(vs.any λb=>decide (b.1=k))=P
 .rw[av e,av e];show r.agU k a
 .rw[ax e,ax e];show Paired.snoc r #[W,a]
def KV.drop(r:KV Wf vs)(k:Y):KV (qM Wf k) (without vs k):=by
 unfold KV at r⊢;unfold qM without
 induction r with
 |nil=>show .nil
 | @cons p q m l h t j=>
  let(f,g):=h;rw[aam,aam];by_cases e:p.1=k
  .let a:¬decide (p.1≠k)=P:=by simp[e]
   let b:¬decide (q.1≠k)=P:=by simp[f.symm.trans e]
   rw[ax a,ax b];show j
  .let i:¬q.1=k:=λz=>e (f.trans z)
   let a:decide (p.1≠k)=P:=by simp[e]
   let b:decide (q.1≠k)=P:=by simp[i]
   rw[av a,av b];show .cons #[f,g] j
def KV.keys{b:G (Y×B)}(r:KV Wf b):Wf.map (·.1)=b.map (·.1):=by
 unfold KV at r
 induction r with
 |nil=>rfl
 |cons h t a=>rw[V1,V1,a,h.1]
theorem KV.length(r:KV Wf vs):Wf.length=vs.length:=Paired.length r
theorem Hu(a:G (Y×V))(k:Y):(qM a k).length<=a.length:=aaN _ _
end
def v5(r:RelV (kV k) u):(dw a w).is k u=Vx:=by
 cases k with
 |inl i=>let(t,e):=(show∃t,u=Vu.int i t from r);subst e;show Ay a w i t
 |inr x=>let(t,e):=(show∃t,u=Vu.str x t from r);subst e;show z5 a w x t
theorem wA:∀{b:G c9} {us:G B},Vals (b.map kV) us->ItemsAre (dw a w) b us
 |[],_,r=>by rw[YZ]at r;ext r;show .nil
 |k::b,_,r=>by
  rw[V1]at r;cases r with
  |cons h t=>show .cons (v5 h) (wA t)
abbrev KT(H:Hp):G (G c9×V)->G (G c9×M×B)->Prop:=Paired λp q=>p.1=q.1/\H q.2.1=R (.tup (p.1.map kV))/\RelV p.2 q.2.2
def KT.val(r:KT H Wf xs)(k:G c9):Z8 (lY Wf k) ((atKey xs k).map (·.2)):=by
 induction r with
 |nil=>show True.intro
 | @cons p q l i h t j=>
  let(f,_,g):=h;by_cases e:p.1=k
  .let a:=f.symm.trans e
   let b:atKey (q::i) k=R q.2:=by simp[atKey,WC,a]
   rw[vt e,b];show g
  .let a:¬q.1=k:=λz=>e (f.trans z)
   let b:atKey (q::i) k=atKey i k:=by simp[atKey,WC,a]
   rw[uc e,b];show j
def KT.agU(r:KT H Wf xs)(k:G c9)(f:RelV y u):
  KT H (Wf.map λc=>if c.1=k then(c.1,y)else c) (xs.map (putAt k u)):=by
 induction r with
 |nil=>show .nil
 | @cons p q l j h t i=>
  rw[V1,V1];show .cons ?_ i;let(a,b,g):=h;ext putAt;by_cases e:p.1=k
  .rw[av e,av (a.symm.trans e)];show#[a,b,f]
  .rw[ax e,ax (λz=>e (a.trans z))];show#[a,b,g]
def KT.put(r:KT H Wf xs)(k:G c9)(g:H b=R (.tup (k.map kV)))(a:RelV y u):
  KT H (kF Wf k y) (storedH xs k b u):=by
 let e:(Wf.any λf=>decide (f.1=k))=(atKey xs k).isSome:=by rw[zz,(r.val k).aaR,abE]
 unfold kF storedH;rw[e];by_cases q:(atKey xs k).isSome=P
 .rw[av q,av q];show r.agU k a
 .rw[ax q,ax q];show Paired.snoc r #[W,g,a]
theorem KT.keeps(r:KT H Wf xs)(a:∀b c,H b=R (.tup c)->H' b=R (.tup c)):KT H' Wf xs:=
 Paired.ZR r λ_ _ z=>#[z.1,a _ _ z.2.1,z.2.2]
section
variable{P:V8}{w:Wv}{H:Hp}{h:Heap}{a:VF}
theorem Pu(ok:HOk P w H h)(e:Rd H a u):ObjOk P w H h a u:=e.ok ok
theorem AZ(ok:HOk P w H h)(e:Rd H a (.dK b)):b.length<=VT/\(a==Xj)=VO/\∃c,KV b c/\h.DictOf (dw P w) a c:=
 show ObjOk P w H h a (.dK b)from Pu ok e
theorem A9(ok:HOk P w H h)(e:H a=R (.dK f)):f.length<=VT/\(a==Xj)=VO/\∃b,KV f b/\h.DictOf (dw P w) a b:=AZ ok (.inl e)
def xL{c:G c9}(ok:HOk P w H h)(e:H a=R (.tup (c.map kV))):(tupleKind (dw P w)).is h c a:=by let(_,i,r,o,g,(f,n,b),_):=(show ObjOk P w H h a (.tup (c.map kV))from ok a _ e);show#[o,i.toArray,n,g,f,b,by simpa using wA r]
def AU(ok:HOk P w H h)(e:Rd H a (.dT A)):A.length<=VT/\(a==Xj)=VO/\
  ∃xs,KT H A xs/\h.DictOfH (tupleKind (dw P w)) a xs:=by
 let(z,y,xs,r,o,u,v,n,j,i,g,f):=(show ObjOk P w H h a (.dT A)from Pu ok e);show#[z,y,xs,r,o,u,v,n,j,i,g,λx b=>?_,f];let all:∀{l:G (G c9×V)} {m:G (G c9×M×B)},KT H l m->∀x∈m,(tupleKind (dw P w)).is h x.1 x.2.1:=by
  intro l m q
  induction q with
  |nil=>intro x b;show nomatch b
  | @cons p q L J C t E=>
   intro x b;rcases Wa.mp b with e|b
   .subst e;show xL ok (by rw[<-C.1];show C.2.1)
   .show E x b
 show all r x b
theorem TC(ok:HOk P w H h)(e:H a=R (.dT b)):b.length<=VT/\(a==Xj)=VO/\
  ∃xs,KT H b xs/\h.DictOfH (tupleKind (dw P w)) a xs:=AU ok (.inl e)
end
def ac0(H:Hp)(a:M)(y:V)(r:I V):Prop:=
 (∃e k,Rd H a (.dK e)/\y=kV k/\r=lY e k)\/∃e k b,Rd H a (.dT e)/\y=.ref b/\H b=R (.tup (k.map kV))/\r=lY e k
def ae8(H:Hp)(a:M)(y v:V)(H':Hp):Prop:=
 (∃e k,H a=R (.dK e)/\y=kV k/\e.length<VT/\H'=bL H a (.dK (kF e k v)))\/
 ∃e k b,H a=R (.dT e)/\y=.ref b/\H b=R (.tup (k.map kV))/\e.length<VT/\H'=bL H a (.dT (kF e k v))
theorem ac0.k{k:c9}(e:H a=R (.dK Wf)):ac0 H a (kV k) (lY Wf k):=.inl #[Wf,k,.inl e,W,W]
theorem ae8.k{k:c9}(e:H a=R (.dK Wf))(b:Wf.length<VT):ae8 H a (kV k) v (bL H a (.dK (kF Wf k v))):=.inl #[Wf,k,e,W,b,W]
section
variable{X:Cx}{Z:bb (VF×Obj)}{Y:St}{H:Hp}{s:VG}{a:VF}{y v:V}{u r:Vu}{o:bg V}{A:Wl}{E:Vu->VG->Prop}
def Inv.big(I:Inv X Z Y H s):Xj<s.heap.objs.size:=by let h:=(I.mod.glob.keeps I.bk).lt;show Y5 () h
def FX{Q:Vu->VG->Prop}(t:A.units+1<cLine)(I:Inv X Z Y H s)(g:ac0 H a y (R v))(q:RelV y u)(h:∀c d,Inv X Z Y H d->RelV v c->Q c d):
  wpAny (model X.prog X.w) A (getItem (.ref a) u) Q E s:=by
 rcases g with⟨J,k,e,n,l⟩|⟨J,k,b,e,n,F,l⟩
 .subst n;let(z,C,w,i,dd):=AZ I.W6 e;let(c,j,f):=Z8.some_of (v:=v) (o:=valueAt w k) (by rw[l];show i.val k);show wpAny_getItem_of (v5 q) dd.mapOf j (h c _ (I.tok _) f)
 .subst n;cases(show u=Vu.ref b from q);let(z,C,xs,i,dd):=AU I.W6 e;let(c,j,f):=Z8.some_of (v:=v) (o:=(atKey xs k).map (·.2)) (by rw[l];show i.val k);let(p,B,m):=ac6.mp j;show agL (ace t) (xL I.W6 F) dd B ?_;rw[m];show h c _ (I.tok _) f
def Uv{Q:B->VG->Prop}(n:A.units+1<cLine)(I:Inv X Z Y H s)(g:ac0 H a y o)(m:RelV y u)(h:∀c,Inv X Z Y H c->Q (.bool o.isSome) c):
  wpAny (model X.prog X.w) A (XT .In u (.ref a)) Q E s:=by
 rcases g with⟨t,k,e,j,l⟩|⟨t,k,b,e,j,p,l⟩
 .subst j;let(z,i,w,f,dd):=AZ I.W6 e;show wpAny_in_of (v5 m) i dd.mapOf ?_;rw[<-(f.val k).aaR,<-l];show h _ (I.tok _)
 .subst j;cases(show u=Vu.ref b from m);let(z,i,xs,f,dd):=AU I.W6 e;show wpAny_in_heap (ace n) (xL I.W6 p) i dd ?_;let q:=(f.val k).aaR;rw[abE]at q;rw[<-q,<-l];show h _ (I.tok _)
theorem qE{c:Heap}{d:Nat}{f:HO}(I:Inv X Z Y H s)(g:SG (H a))(h:Heap.SameBut a s.heap c)(i:∃q,c.get? a=R q)(new:ObjOk X.prog X.w (bL H a f) c a f):
  Inv X Z Y (bL H a f) {s with heap:=c,toks:=d}:=
 I.write (x:=a) (e:=a) g (.inl W) (λb q j z=>(h.2 b j).trans z) i new
theorem Bo(z:g.length<=VT)(hd:(a==Xj)=VO)(b:KV g f)(dd:h.DictOf (dw e w) a f):
  ObjOk e w H' h a (.dK g):=#[z,hd,f,b,dd]
def Fw{H':Hp}{Q:Unit->VG->Prop}(L:A.units+1<cLine)(I:Inv X Z Y H s)(g:ae8 H a y v H')(F:RelV y u)(x:RelV v r)(h:∀d,Inv X Z Y H' d->Q ⟨⟩ d):
  wpAny (model X.prog X.w) A (setItem (.ref a) u r) Q E s:=by
 rcases g with⟨w,k,e,B,l,C⟩|⟨w,k,b,e,B,K,l,C⟩
 .subst B C
  let(z,t,vs,f,dd):=A9 I.W6 e;let m:vs.length<=VT:=by rw[<-f.length];show z
  let p:(kF w k v).length<=VT:=by let:=na w k v;ext
  show wpAny_setItem_pairs (hsz:=m) (v5 F) dd λG i n=>h _ ?_;let M:∃q,G.get? a=lD q:=let#[q,_,_,j,_]:=i;#[q,j]
  show qE I (by rw[e];show True.intro) n M (Bo p t (f.put k x) i)
 .subst B C
  cases(show u=Vu.ref b from F);let(z,t,xs,f,dd):=TC I.W6 e;let m:xs.length<=VT:=by rw[<-Paired.length f];show z
  let p:(kF w k v).length<=VT:=by let:=na w k v;ext
  show agM (hsz:=m) (ace L) (xL I.W6 K) dd λG i n=>h _ ?_;let(q,S,T,j,R,P,O,_,N):=i;show qE I (by rw[e];show True.intro) n #[q,j] #[p,t,_,(f.put k K x).keeps λc U J=>?_,q,S,T,j,R,P,O,N];rw[aF (TR J e (λz=>nomatch z))];show J
end
section
variable{X:Cx}{Z:bb (VF×Obj)}{T:St}{H:Hp}{s:VG}{a:VF}{Y:bb (c9×V)}{k:c9}{u:Vu}{A:Wl}{E:Vu->VG->Prop}
def S0{v:V}{b:G Vu}{Q:Vu->VG->Prop}(I:Inv X Z T H s)(e:H a=R (.dK Y))(j:RelV (kV k) u)(l:lY Y k=R v)(hm:b=[]\/∃x,b=[x])
  (h:∀c d,Inv X Z T (bL H a (.dK (qM Y k))) d->RelV v c->Q c d):wpAny (model X.prog X.w) A (call (.builtin "dict.pop") (.ref a::u::b)) Q E s:=by
 let(z,B,w,f,dd):=A9 I.W6 e;let(c,n,m):=Z8.some_of (v:=v) (o:=valueAt w k) (by rw[<-l];show f.val k);let r:(keyPart u).isSome=P:=by
  cases k with
  |inl i=>let(t,q):=(show∃t,u=Vu.int i t from j);subst q;rfl
  |inr x=>let(t,q):=(show∃t,u=Vu.str x t from j);subst q;rfl
 let L:argsOk "dict.pop" #[.ref a::u::b,[]]:=by
  rcases hm with q|⟨x,q⟩
  .subst q;show PySem.F.args_dict_pop_2 _ _
  .subst q;show PySem.F.args_dict_pop_3 _ _ _
 show acy ac7 dd.typeIs PySem.F.entry_dict_pop L (meets_dict_pop_there (dw X.prog X.w) a (v5 j) b hm r)
  #[w,c,dd,by rw[<-f.length];show z,n,λC g p=>h c _ ?_ m]
 let y:∃q,C.get? a=R q:=let#[q,_,_,J,_]:=g;#[q,J]
 show qE I (by rw[e];show True.intro) p y (Bo (Wt (Hu Y k) z) B (f.drop k) g)
end
def P5(i:WQ):Prop:=∀a b,subscripted i VO a b=operate [a,b] (getItem a b)
def Ds{T l:String}
  (n:typeLookup (.type T) "__getitem__"=pure (R (.builtin l))) (m:P5 slice)
  (h:wpAny (model prog w) A (eval value env) (λo d=>wpAny (model prog w) A (eval slice env) (λi c=>c.TypeIs o T/\wpAny (model prog w) A (getItem o i) Q E c) E d) E s):
  wpAny (model prog w) A (eval (.Subscript value slice pos) env) Q E s:=by
 show Subscript_ (wpAny_mono h (λo d g=>wpAny_mono g (λi c a=>?_) λ_ _ x=>x) λ_ _ x=>x);let(j,a):=a;ext subscriptTail;show Ld ?_;rw[getitemInPython_of_ne j.not_modules];show Ld (abj j n ?_);let e:wpAny (model prog w) A (subscripted slice VO o i) (λr b=>wpAny (model prog w) A (letTemporaryGo value o r>>=λ_=>pure r) Q E b) E c:=by rw[m o i];show wpAny_operating (wpAny_mono a (λr b f=>Ld (wpAny_letTemporaryGo (VH f))) λ_ _ x=>x)
 first
  |show VH (Ld e)
  |show Ld (VH (Ld e))
  |show Ld e
def AJ(I:Inv X pins σ H s)(g:ac0 H a y o):s.TypeIs (.ref a) "dict":=by
 rcases g with⟨f,k,e,_,_⟩|⟨f,k,b,e,_,_,_⟩
 .let(_,_,h,_,dd):=AZ I.W6 e;show dd.typeIs
 .let(_,_,xs,_,dd):=AU I.W6 e;show dd.typeIs
def Pj(f ty:TE):TE:=λb H Q=>f b H λx g=>ty b g λy e=>∃a v,x=.ref a/\ac0 e a y (R v)/\Q v e
def Tb(ty f:TE):TE:=λb H Q=>ty b H λy g=>f b g λx e=>∃a o,x=.ref a/\ac0 e a y o/\Q (.bl o.isSome) e
def O8(f ty e:TE):TS:=λD b H=>e b H λv i=>f b i λx h=>ty b h λy g=>∃a j,x=.ref a/\ae8 g a y v j/\D.nx b j
section
variable{X:Cx}{o i e Z:WQ}{pos Y amz:Pos}{T U tv:TE}
def Eo(t:X.A.units+1<cLine)(z:PE X o T)(c:PE X i U)(w:P5 i):PE X (.Subscript o i pos) (Pj T U):=by intro b s j H Q I h;show Ds acs.lookup w (cR (z b s j H _ I h) λu m #[x,G,E,p,r]=>cR (c b m j G _ E r) λM L #[y,F,l,n,a,v,A,g,q]=>?_);subst A;obtain rfl:=p;show#[AJ l g,FX t l g n λJ K C f=>#[v,F,C,f,q]]
def Ra(r:X.A.units+1<cLine)(c:PE X i U)(t:PE X o T):PC X .In i o (Tb U T):=by intro b s f H Q I h;show cR (c b s f H _ I h) λJ j #[y,E,A,l,p]=>cR (t b j f E _ A p) λu G #[x,C,z,m,a,q,v,g,n]=>?_;subst v;obtain rfl:=m;show Uv r z g l λF w=>#[.bl q.isSome,C,w,W,n]
def M5(z:X.A.units+1<cLine)(C:PE X o T)(c:PE X i U)(w:PE X Z tv)(B:Xq Z (lD (.Subscript o i Y)) pos.line X.env=pure VO):
  PS X (.Assign [.Subscript o i Y] Z pos) (O8 T U tv):=by
 intro b s f H D I h;show ae1 (cR (w b s f H _ I h) λr l #[v,N,K,rv,t]=>cR (C b l f N _ K t) λu j #[x,A,J,n,q]=>cR (c b j f A _ J q) λQ P #[y,S,G,m,a,L,E,g,p]=>?_) B;subst E;obtain rfl:=n;show Fw z G g m rv λO F=>#[f,L,F,p]
end
def rj(c a:G (c9×V)):G (c9×V):=a.foldl (λb e=>kF b e.1 e.2) c
def KV.merge:∀{a:G (c9×V)} {b:G (c9×B)} {d:G (c9×V)} {c:G (c9×B)},KV a b->KV d c->KV (rj d a) (merged c b):=by
 intro a b d c r;unfold KV at r
 induction r generalizing d c with
 |nil=>intro q;show q
 | @cons p q j i h t g=>
  intro f;let e:KV (kF d p.1 p.2) (stored c q.1 q.2):=by let:=f.put p.1 h.2;rw[<-h.1];show this
  show g e
theorem ou:∀(a c:G (c9×V)),(rj c a).length<=c.length+a.length
 |[],c=>by show c.length<=c.length+0;ext
 |p::r,c=>by let e:=ou r (kF c p.1 p.2);let b:=na c p.1 p.2;show(rj (kF c p.1 p.2) r).length<=_;rw[V0];ext
structure M1(X:Cx)(o:WQ)(m:Str)(apos:Pos)(e:WQ)(YD:Pos):Prop where
 base:attributeBase o m X.env (eval o X.env)=eval o X.env
 few:((backTo YD (We [e] X.env)).all (λx=> !x.1)&&(backToKw YD (keywordEach [] X.env)).all (λx=>x.1.isSome)
  &&decide (([e]:G WQ).length+([]:G acv).length+(if([]:G acv).isEmpty then 0 else 1)<30))=P
 line:(apos.endLine==YD.line)=P
 trees:backTo YD (We [e] X.env)=[(VO,eval e X.env)]
structure M2(X:Cx)(o:WQ)(m:Str)(apos:Pos)(e f:WQ)(YD:Pos):Prop where
 base:attributeBase o m X.env (eval o X.env)=eval o X.env
 few:((backTo YD (We [e,f] X.env)).all (λx=> !x.1)&&(backToKw YD (keywordEach [] X.env)).all (λx=>x.1.isSome)
  &&decide (([e,f]:G WQ).length+([]:G acv).length+(if([]:G acv).isEmpty then 0 else 1)<30))=P
 line:(apos.endLine==YD.line)=P
 trees:backTo YD (We [e,f] X.env)=[(VO,eval e X.env),(VO,eval f X.env)]
def U2(H:Hp)(a:M):Prop:=(∃b,Rd H a (.dK b))\/∃b,Rd H a (.dT b)
def QN(I:Inv X pins σ H s)(d:U2 H a):
  s.TypeIs (.ref a) "dict"/\(∀b,Vu.ref a=.ref b->∃c,s.heap.get? b=R c/\c.dict=U)/\(a==Xj)=VO:=by
 rcases d with⟨i,e⟩|⟨i,e⟩
 .let(_,f,j,_,dd):=AZ I.W6 e;show#[dd.typeIs,λb q=>?_,f];ext q;let(c,_,_,h,g,_):=dd;show#[c,h,g.2.1]
 .let(_,f,xs,_,dd):=AU I.W6 e;show#[dd.typeIs,λb q=>?_,f];ext q;let(c,_,_,h,g,_):=dd;show#[c,h,g.2.1]
def JX(g ty:TE):TE:=λb H Q=>g b H λx f=>∃a,x=.ref a/\U2 f a/\ty b f λy e=>∃h k v,e a=R (.dK h)/\y=kV k/\lY h k=R v/\Q v (bL e a (.dK (qM h k)))
section
variable{X:Cx}{o e f:WQ}{Z Y:Pos}{T ty S:TE}
def J9(A:PE X o T)(B:PE X e ty)(m:M1 X o "pop" Z e Y):PE X (.Call (.Attribute o "pop" Z) [e] [] Y) (JX T ty):=by intro b s i H Q I h;show ahu m.base m.few m.line YK ac7 PySem.F.type_dict_pop (cR (A b s i H _ I h) λu q #[x,L,j,t,a,E,d,z]=>?_);subst E;obtain rfl:=t;let(p,n,_):=QN j d;show#[p,n,?_];rw[m.trees];show Calls.callWith_builtin W (Calls.evalArgs_plain (Calls.spliced_cons (cR (B b q i L _ j z) λP O #[y,F,K,r,Wf,k,v,G,C,l,w]=>Calls.spliced_nil ?_)));subst C;show S0 K G r l (.inl W) λM N J g=>#[v,_,J,g,w]
end
end L2
namespace HT
open PySem PySem.Spec PyProof.Rows PySem.Calls
def BC(n:Nat):Builtin.Slice.sliceAdjust U U (-1) (n:Int)=((n:Int) - 1,-1):=by
 ext Builtin.Slice.sliceAdjust;let a:(-1:Int)<0:=by decide
 simp only[a,if_true]
def BT(n:Nat):Builtin.Slice.slicePlaces ((n:Int) - 1) (-1) (-1)=n:=by
 ext Builtin.Slice.slicePlaces;let a:¬((-1:Int)>0):=by decide
 simp only[a,if_false];by_cases h:(n:Int) - 1> -1
 .rw[av h,show(- -1:Int)=1 by decide,ah9];ext
 .rw[ax h];ext
def KG(xs:Array B):((VI xs.size).filterMap λ(m:Nat)=>xs[((xs.size:Int) - 1+(m:Int)*(-1)).toNat]?).toArray=xs.toList.reverse.toArray:=by
 let e:(VI xs.size).filterMap (λ(m:Nat)=>xs[((xs.size:Int) - 1+(m:Int)*(-1)).toNat]?)=((VI xs.size).map λk=>xs.size - 1 - k).filterMap (xs[·]?):=by
  rw[aeK];let a:∀l:G Nat,(∀m∈l,m<xs.size)->l.filterMap (λ(m:Nat)=>xs[((xs.size:Int) - 1+(m:Int)*(-1)).toNat]?)=l.filterMap ((xs[·]?)∘λk=>xs.size - 1 - k):=by
   intro l
   induction l with
   |nil=>intro _;rfl
   |cons m r b=>
    intro h;let hm:=h m (.head _);let g:((xs.size:Int) - 1+(m:Int)*(-1)).toNat=xs.size - 1 - m:=by ext
    rw[YF,YF,b λk f=>h k (.tail _ f),g];rfl
  show a _ λm hm=>WI.mp hm
 rw[e,PySem.W.krv_range,List.filterMap_reverse,PySem.W.krv_all]
section
variable{Y:V8}{w:Wv}{A:Wl}{E:Vu->VG->Prop}{s:VG}
def rB{f:M}{e:B}{n:Nat}{Q:Int×Int×Nat->VG->Prop}(i:s.heap.IsSliceOf f .none .none e)(g:aaw e (R (-1)))
  (h:Q ((n:Int) - 1,-1,n) s):wpAny (model Y w) A (Builtin.Slice.sliceApplied (.ref f) (pure (n:Int))) Q E s:=by
 let(l,a,j,b):=id i;unfold Builtin.Slice.sliceApplied Builtin.Slice.sliceFields;show Ld (Ld (Wm a b (x:=.none) W (Ld (Wm a b (x:=.none) W (Ld (Wm a b (x:=e) W (VH ?_)))))));show Ld (jx g ?_);show wpAny _ _ (if((-1:Int)==0)=P then _ else _) _ _ s;rw[ax ()];show Ld (jx .none (Ld (jx .none (Ld (VH ?_)))));show wpAny _ _ (match Builtin.Slice.sliceAdjust U U (-1) (n:Int)with|(lo,m)=>pure (lo,(-1:Int),Builtin.Slice.slicePlaces lo m (-1))) _ _ s;rw[BC n];show wpAny _ _ (pure ((n:Int) - 1,(-1:Int),Builtin.Slice.slicePlaces ((n:Int) - 1) (-1) (-1))) _ _ s;rw[BT];show VH h
def getItem_tuple_rev{t e:M}{items:Array B}{j:B}{Q:B->VG->Prop}(b:IsTup s.heap t items)(l:s.heap.IsSliceOf e .none .none j)(n:aaw j (R (-1)))
  (h:Q (.ref s.heap.objs.size) {s with heap:=s.heap.push {cls:=.type "tuple",data:=.seq items.toList.reverse.toArray}})
  (c:items.size<=VT):wpAny (model Y w) A (getItem (.ref t) (.ref e)) Q E s:=by
 let a:sizeOk (.seq items.toList.reverse.toArray):=by show items.toList.reverse.toArray.size<=VT;rw[VY,X6,Ww];show c
 let(o,f,g,p):=id l;let i:s.TypeIs (.ref e) "slice":=#[o,f,g];ext getItem
 try specialize W4 ?_
 first|show Ld (VH ?_)|skip
 show Ld (acw b.typeIs () ?_);show Ld (W7 (name:=Str.ofString "__getitem__") b.typeIs Wz
  (XG Wz b.typeIs entry_tuple_getitem ?_ (args_tuple_getitem _ _)))
 show wpAny _ _ (Builtin.Tuple.tupleItemsOf (.ref t)>>=_) _ _ s;show Ld (tupleItemsOf_ b ?_);show Ld (YR i ?_);rw[av ()];show Ld (rB l n ?_);show wpAny _ _ (if(((items.size:Int) - 1)==0&&(-1:Int)==1&&items.size==items.size)=P then _ else _) _ _ s;rw[ax (by rw[show((-1:Int)==1)=VO from by decide,Bool.and_false,YY];show VU),KG]
 first
  |show Ld (m:=Builtin.Tuple.tupleExact _) (WG (VH #[_,W,VH h]) a)
  |show Ld (m:=Builtin.Tuple.tupleExact _) (WG (Ld (VH (VH #[_,W,VH h]))) a)
  |show Ld (Ld (m:=Builtin.Tuple.tupleExact _) (WG (VH (VH #[_,W,VH h])) a))
  |show Ld (Ld (m:=Builtin.Tuple.tupleExact _) (WG (VH #[_,W,VH h]) a))
end
end HT
namespace L2
open PySem PySem.Spec PyProof.Rows
def KO{xs:G V}{a:G B}(h:Vals xs a):Vals xs.reverse a.reverse:=by
 induction h with
 |nil=>show .nil
 |cons h t b=>rw[XH,XH];show b.append (.cons h .nil)
def SK(K:Vs)(g:TE)(f:TO):TE:=λe H Q=>g e H λx h=>f e h λo b=>o=R (-1)/\∃a xs,x=.ref a/\ZQ K b a xs/\∀p,b p=U->Q (.ref p) (bL b p (.tup xs.reverse))
def P6{X:Cx}{e l:WQ}{y m:Pos}{u:TE}{t:TO}(O:PE X e u)(N:PO X (lD l) t):PE X (.Subscript e (.Slice Vt Vt (lD l) y) m) (SK X.K u t):=by
 intro f s j H Q I h;show Subscript_ (cR (O f s j H _ I h) λv C #[x,Z,Uz0,E,G]=>?_);show wpAny_Slice ?_;rw[aer];show VH ?_;show VH (cR (N f C j Z _ Uz0 G) λp g #[o,Y,T,J,R1,a,xs,A,w,F]=>?_);subst R1 A;ext E;let n:Inv X f j Y {g with heap:=g.heap.push {cls:=.type "slice",data:=.fields #v[.none,.none,p]}}:=T.kept (t':=g.toks) λb L q=>br _ q;let(S,r,B,z):=n.tuple w;let i:S.toArray.size=xs.length:=by rw[VY];show r.length.symm
 show wpAny (model X.prog X.w) X.A (subscriptTail e (.Slice Vt Vt (lD l) y) (.ref a) (.ref g.heap.objs.size)) (EP X f j Q) X.xe {g with heap:=g.heap.push {cls:=.type "slice",data:=.fields #v[.none,.none,p]}};show tail_any (ops:=[.ref a,.ref g.heap.objs.size]) B.typeIs Wz.lookup ?_ (by with_unfolding_all rfl);show HT.getItem_tuple_rev B (Heap.IsSliceOf.new ..) J ?_ (by rw[i];show z);show#[.ref _,_,n.laid (t':=g.toks) (o:=.tup xs.reverse) (λb L q=>br _ q) (VP _) ?_,W,F _ (n.W6.fresh (VP _))];show#[by rw[X6];show z,_,KO r,abM.new _ _]
end L2
namespace L3
open PySem PySem.Spec PyProof.Rows L2
def OD(K:Vs):R2:=λx y H Q=>∃(a b:M) (e:G V),x=.ref a/\y=.ref b/\ZQ K H a []/\ZQ K H b e/\Q (.ref b) H
def NW{X:Cx}:OpR X (Xz .Add) (OD X.K):=by
 intro o s M H x y v u Q I B A h;let(a,b,N,rfl,rfl,S,J,q):=h;ext B;ext A;let(P,C,F,_):=I.tuple S;let(m,O,E,_):=I.tuple J;ext C;let((cls,dd,w,z),p,t,n,r):=id F;let((L,j,l,i),e,g,G,f):=id E;simp only at t r g f;subst t r g f;show ae0 #[_,p,W] #[_,e,W] acO aeq aag ZW (ZN _ _)
  (tuple_addW0 a b _ m.toArray n G dd j z i W) #[p,e,#[.ref b,H,I,W,q]]
def OI(K:Vs):R2:=λx y H Q=>Ja K x y H Q\/OD K x y H Q
theorem tD{X:Cx}:OpR X (Xz .Add) (OI X.K):=OpR.or lu NW
def A2:D->D->I RV
 |.tuple [],.tuple a=>R (.fz (.tuple a))
 |d,e=>dQ d e
def pO{K:Vs}:pB K (OI K) A2:=by
 intro O H x y r o p Q n g f e q;unfold A2 at e;split at e
 .ext e;let(a,xs,rfl,l,j):=EL g;let(b,i,rfl,h,m):=EL f;ext j;show .inr #[a,b,i,W,W,l.1,h.1,q.at (.tup h m)]
 .show .inl (lB O H x y r o p Q n g f e q)
end L3
namespace L4
open PySem PySem.Spec PyProof.Rows L2 L3
def GZ(h:Heap)(e:M)(c:B)(d:I M)(a:B)(hd:I M):Prop:=
 ∃b fs,h.get? e=R b/\b.cls=c/\b.dict=d/\b.data=.fields fs/\fs[0]?=R a/\
  match hd with
  |none=>fs[1]?=R .none
  |some T=>fs[1]?=R (.ref T)/\T≠e/\∃g f,h.get? T=R g/\g.data=.fields f/\f[3]?=R .none
structure Lft(l:G Env)(e:M)(hd:I M)(h h':Heap):Prop where
 keep:∀b o,h.get? b=R o->b≠e->hd≠R b->b∉zb l->h'.get? b=R o
 slot:∀b o,h.get? b=R o->b≠e->hd≠R b->∃sl,h'.get? b=R {o with slots:=sl}
 here:∀b o,h.get? b=R o->∃o',h'.get? b=R o'
section
variable{M:aeJ}{A:Wl}{E:Vu->VG->Prop}{s:VG}
def jm
  (I:A.frames=R (env::outer)) (B:s.heap.FunFrames base (env::outer)) (H:env.frame=R L) (C:s.heap.get? e=R X) (p:X.data=.fields fs) (m:1<fs.size) (J:fs[0]?=R a0)
  (k:∀D T,s.heap.objs.size<=T->GZ D e X.cls X.dict a0 (R T)->Lft (env::outer) e U s.heap D->Q ⟨⟩ {s with heap:=D}):
  wpAny M A (frameOf env>>=λfr=>entryPlaceOf L nx>>=λpl=>EntryCells.newEntry Y fr .none (rawInt L) .none pl>>=λb=>setField (.ref e) 1 b) (λ_ V=>wpAny M A (setFlight (.ref e) U) Q E V) E s:=by
 let j:e∉(env::outer).filterMap (·.frame):=λz=>by let(_,o,q,n):=B.mem z;rw[C]at q;ext q;show n fs p
 show Ld (ahv I B H λa S=>?_);show Ld (agN λpl P=>?_);unfold EntryCells.newEntry newFields;show Ld (WG ?_ (P.sizeOk5 _ _ _ _ _));let y:=(S.2.1 e j).trans C;generalize hN:({cls:=.type "traceback",dict:=U,data:=.fields ([Y,.ref L,.none,rawInt L,.none]++(if pl.isEmpty then VR 6 Vu.none else pl)).toArray}:Obj)=N;let g:N.data=.fields ([Y,.ref L,.none,rawInt L,.none]++(if pl.isEmpty then VR 6 Vu.none else pl)).toArray:=by rw[<-hN]
 let K:=dk g;let w:=br N y;show W8 w p m ?_;let l:=WX (bP y);let r:=da p (·.setIfInBounds 1 (Vu.ref a.objs.size));let i:=cv (Obj.mapFields (·.setIfInBounds 1 (Vu.ref a.objs.size))) w (dk r)
 let u:=
  (cn (a.push N) (Obj.mapFields (·.setIfInBounds 1 (Vu.ref a.objs.size))) l.symm).trans (cj a K)
 ext setFlight;show Ld (Wm i r (x:=.ref a.objs.size) (by simp[m]) ?_);rw[av (show(Vu.ref a.objs.size !=Vu.none)=Vx from by simp)];let t:3<([Y,.ref L,.none,rawInt L,.none]++(if pl.isEmpty then VR 6 Vu.none else pl)).toArray.size:=by simp only[VY,Vy,V0,XI];ext
 show W8 u g t ?_;let v:=cn ((a.push N).update e (Obj.mapFields (·.setIfInBounds 1 (Vu.ref a.objs.size)))) (Obj.mapFields (·.setIfInBounds 3 ((U:bg VF).elim Vu.none λf=>rawInt f))) l;let F:=cv (Obj.mapFields (·.setIfInBounds 3 ((U:bg VF).elim Vu.none λf=>rawInt f))) u (dk (da g _));let ZP:∀b o,b≠e->a.get? b=R o->(((a.push N).update e (Obj.mapFields (·.setIfInBounds 1 (Vu.ref a.objs.size)))).update a.objs.size (Obj.mapFields (·.setIfInBounds 3 ((U:bg VF).elim Vu.none λf=>rawInt f)))).get? b=R o:=λb o ne q=>by rw[cn _ _ (WX (bP q)),cn _ _ ne.symm];show br N q
 show k _ a.objs.size (by rw[S.1];show VP _) #[_,_,v.trans i,Obj.cls_mapFields _ _,?_,r,?_,?_,l,_,_,F,da g _,?_] #[λb o q ne _ G=>ZP b o ne ((S.2.1 b G).trans q),λb o q ne _=>?_,λb o q=>?_]
 .cases X with
  |mk c d O h=>ext O<;>rfl
 .rw[Y6 ()];show J
 .simp[m]
 .rw[Xu t];rfl
 .let(h,z):=S.2.2 b o q;show#[h,ZP b _ ne z]
 .by_cases ne:b=e
  .subst ne;show#[_,v.trans i]
  .let(h,z):=S.2.2 b o q;show#[_,ZP b _ ne z]
def Gj
  (v:A.frames=R (env::outer)) (u:s.heap.FunFrames base (env::outer)) (h:env.frame=R L) (F:GZ s.heap e c X Y hd)
  (k:∀x T,s.heap.objs.size<=T->GZ x e c X Y (R T)->Lft (env::outer) e hd s.heap x->Q ⟨⟩ {s with heap:=x}):wpAny M A (leaving env (.ref e)) Q E s:=by
 let(N,fs,q,I,H,d,w,r):=F;subst I H;cases hd with
 |none=>let r:=r;unfold leaving noteFrame;simp only[h];show Ld (Ld (Wm q d r ?_));rw[ax ()];show jm v u h q d (Wj.mp r).1 w k
 |some T=>
  let(r,C,O,B,g,dT,p):=r;unfold leaving noteFrame;simp only[h];show Ld (Ld (Wm q d r ?_));rw[av (show(Vu.ref T !=Vu.none)=P from by simp)];show Ld (Wm g dT p ?_);rw[ax (show¬((Vu.none==rawInt L)=P)from by simp[rawInt])];show Ld (W8 g dT (Wj.mp p).1 ?_);let f:∀b,b≠T->(s.heap.update T (Obj.mapFields (·.setIfInBounds 3 Vu.none))).get? b=s.heap.get? b:=λb ne=>cn _ _ ne.symm;let a:=cv (Obj.mapFields (·.setIfInBounds 3 Vu.none)) g (dk (da dT _));let m:∀b o,s.heap.get? b=R o->(∀S,o.data≠.fields S)->b≠T:=λb o z n y=>by rw[y,g]at z;ext z;show n B dT
  show jm v (u.of_keeps λb o z n=>#[o,(f b (m b o z n)).trans z,W]) h ((f e C.symm).trans q) d (Wj.mp r).1 w λx J t K i=>k x J (by rw[Heap.size_after_update]at t;show t) K #[λb o z l j G=>?_,λb o z l j=>?_,λb o z=>?_]
  .show i.keep b o ((f b λy=>j (by rw[y])).trans z) l (by simp) G
  .show i.slot b o ((f b λy=>j (by rw[y])).trans z) l (by simp)
  .by_cases y:b=T
   .subst y;show i.here b _ a
   .show i.here b o ((f b y).trans z)
end
theorem Lft.W6{P:V8}{w:Wv}{l:G Env}{e:M}{hd:I M}{H:Hp}{h d:Heap}(L:Lft l e hd h d)(m:HOk P w H h)(ne:H e=U)(i:∀T,hd=R T->H T=U)(j:∀b∈zb l,H b=U):HOk P w H d:=λb u q=>by
 let free:∀c v,H c=R v->c≠e/\hd≠R c/\c∉zb l:=λc v z=>#[(λy=>by rw[y,ne]at z;ext z),(λy=>by rw[i c y]at z;ext z),(λy=>by rw[j c y]at z;ext z)];show(m b u q).ZP (λc v n z=>?_) (λ_ z=>z) λ_ _ z=>z;rcases n with y|y
 .rw[y]at z⊢;let(g,f,a):=free b u q;show L.keep b v z g f a
 .let(g,f,a):=free c _ y;show L.keep c v z g f a
def iW(P:V8)(w:Wv):yW:=λa H s E x b=>
 ∃e c f g T H',x=.ref e/\s.heap.get? e=U/\s.heap.get? T=U/\GZ b.heap e c f g (R T)/\H' e=U/\H' T=U/\
  b.os=s.os/\AllBare b.gens/\Un (zb a) [] H H' s.heap b.heap/\HOk P w H' b.heap/\E c f H'
def OE{P:V8}{w:Wv}{K:Vs}{k:Str->bg Vu}{base:Heap}{N:bb Str}{i:Str}{a:YH}{f:VF}{v:Vu}{A:Wl}{outer:bb Env}{g:VG}{G:Hp}{E:XK}
  {l:bb (VF×Obj)} {J:L2.St} {H:Hp} {s:VG} {e:VF} {c C:Vu} {d hd:bg VF} (I:L2.Inv (gw (iW P w) P w K k base N i a f v A outer g G E) l J H s)
  (F:GZ s.heap e c d C hd) (u:g.heap.get? e=Vt) (S:∀T,hd=lD T->g.heap.get? T=Vt) (ne:H e=Vt) (Q:∀T,hd=lD T->H T=Vt) (q:E c d H):
  (gw (iW P w) P w K k base N i a f v A outer g G E).xe (.ref e) s:=by
 let Z:=I.ok.frames;let Y:=I.stack;show Gj (L:=g.heap.objs.size) Z Y W F λh' T t F' L=>?_;let R:=L.W6 I.W6 ne Q I.abz;let X:H T=Vt:=I.W6.fresh t;let p:∀b o,g.heap.get? b=lD o->b<g.heap.objs.size:=λb o z=>bP z;let h:∀b o,g.heap.get? b=lD o->b≠e/\hd≠lD b:=λb o z=>#[(λy=>by rw[y,u]at z;ext z),(λy=>by rw[S b y]at z;ext z)];let sz:=I.sz;show#[e,c,d,C,T,H,W,u,cN (Wt sz t),F',ne,X,I.os,I.bare,?_,R,q];let B:=I.base;show#[λb o z n r _=>?_,λb o z n U _=>?_,λb o z n _=>?_,λb o z _=>?_,B.ab7,B.abO,B.ab6]
 .let j:=B.keep b o z n r (λy=>nomatch y)
  show L.keep b o j (h b o z).1 (h b o z).2 λy=>?_;rcases Wa.mp (I.abc b y)with y|y
  .let y:b=g.heap.objs.size:=y;show a5 (p b o z) (by rw[y];show WZ _)
  .show r y
 .let(sl,j):=B.slot b o z n U (λy=>nomatch y);let(m,M):=L.slot b _ j (h b o z).1 (h b o z).2;show#[m,M]
 .show B.free b o z n (λy=>nomatch y)
 .let(O,j):=B.there b o z (λy=>nomatch y);show L.here b O j
def jj{P:V8}{w:Wv}{K:Vs}{d:Str->bg Vu}{base:Heap}{N:G Str}{g:Str}{a:YH}{f:M}{l:Vu}{A:Wl}{outer:G Env}{h:VG}{p:Hp}{E:XK}:
  gp (iW P w) (gw (iW P w) P w K d base N g a f l A outer h p E) E:=by
 rintro j r H s x t I ⟨e,c,L,v,T,B,rfl,le,J,F,ne,C,os,bare,un,W6,q⟩;let n:=I.adt (ch:=[]) os un W6 bare (λb z=>nomatch z);let old:∀b,s.heap.get? b=U->h.heap.get? b=U:=λb z=>by
  cases y:h.heap.get? b with
  |none=>rfl
  |some o=>let(u,i):=I.base.there b o y (λy=>nomatch y);rw[z]at i;ext i
 show OE n F (old e le) (λm z=>by ext z;show old T J) ne (λm z=>by ext z;show C) q
def P8(x:ObjOk b w H h a o):∃c,h.get? a=R c:=by
 cases o with
 |lst xs=>let(_,_,_,_,e):=x;show#[_,e]
 |tup xs=>let(_,_,_,c,e,_):=x;show#[c,e]
 |dK i=>let(_,_,_,_,o,_,_,e,_):=x;show#[o,e]
 |dT i=>let(_,_,_,_,o,_,_,e,_):=x;show#[o,e]
 |set S n=>let(o,_,_,_,e,_):=x;show#[o,e]
 |ins C m fs=>let(_,_,_,e,_):=x;show#[_,e]
 |own y=>show x
 |xd fs=>let(_,(o,_,_,e,_),_):=x;show#[o,e]
 |rng lo l=>let(_,_,_,e):=x;show#[_,e]
 |frz c u=>show#[c,x.1]
 |tbl j=>show#[_,x]
 |met f y=>show#[_,x]
 |ext g=>show x.2.1
 |exw g=>show x.2.1
def A5(k:HOk e w H h)(n:h.get? a=U):H a=U:=by
 cases q:H a with
 |none=>rfl
 |some o=>let(b,z):=P8 (k a o q);rw[n]at z;ext z
section
variable{M:aeJ}{A:Wl}{E:Vu->VG->Prop}{s:VG}
def Nj{base:Heap}{env:Env}{outer:bb Env}{L e:VF}{c B:Vu}{D hd:bg VF}{Q:Unit->VG->Prop}
  (v:A.frames=R (env::outer)) (u:s.heap.FunFrames base (env::outer)) (h:env.frame=R L) (F:GZ s.heap e c D B hd)
  (k:∀x T,s.heap.objs.size<=T->GZ x e c D B (R T)->Lft (env::outer) e hd s.heap x->Q ⟨⟩ {s with heap:=x}):
  wpAny M A (noteFrame (.ref e) env) (λ_ s2=>wpAny M A (setFlight (.ref e) U) Q E s2) E s:=by
 let(O,fs,q,J,I,d,w,r):=F;subst J I;cases hd with
 |none=>let r:fs[1]?=R .none:=r;ext noteFrame;simp only[h];show Ld (Wm q d r ?_);rw[ax ()];show jm v u h q d (Wj.mp r).1 w k
 |some T=>
  let(r,G,P,C,g,dT,p):=r;ext noteFrame;simp only[h];show Ld (Wm q d r ?_);rw[av (show(Vu.ref T !=Vu.none)=Vx from by simp)];show Ld (Wm g dT p ?_);rw[ax (show¬((Vu.none==rawInt L)=Vx)from by simp[rawInt])];show Ld (W8 g dT (Wj.mp p).1 ?_);let f:∀b,b≠T->(s.heap.update T (Obj.mapFields (·.setIfInBounds 3 Vu.none))).get? b=s.heap.get? b:=λb ne=>cn _ _ ne.symm;let a:=cv (Obj.mapFields (·.setIfInBounds 3 Vu.none)) g (dk (da dT _));let m:∀b o,s.heap.get? b=R o->(∀S,o.data≠.fields S)->b≠T:=λb o z n y=>by rw[y,g]at z;ext z;show n C dT
  show jm v (u.of_keeps λb o z n=>#[o,(f b (m b o z n)).trans z,W]) h ((f e G.symm).trans q) d (Wj.mp r).1 w λx K t N i=>k x K (by rw[Heap.size_after_update]at t;show t) N #[λb o z l j H=>?_,λb o z l j=>?_,λb o z=>?_]
  .show i.keep b o ((f b λy=>j (by rw[y])).trans z) l (by simp) H
  .show i.slot b o ((f b λy=>j (by rw[y])).trans z) l (by simp)
  .by_cases y:b=T
   .subst y;show i.here b _ a
   .show i.here b o ((f b y).trans z)
def QT{e T:VF}{c j:B}{y:I VF}{Q:Unit->VG->Prop}(F:GZ s.heap e c y j (R T))
  (k:∀x,GZ x e c y j (R T)->(∀b,b≠T->x.get? b=s.heap.get? b)->(∃o,x.get? T=R o)->Q ⟨⟩ {s with heap:=x}):wpAny M A (setFlight (.ref e) U) Q E s:=by
 let(n,fs,q,t,p,d,u,r,i,w,v,h,dT,m):=F;ext setFlight;show Ld (Wm q d r ?_);rw[av (show(Vu.ref T !=Vu.none)=P from by simp)];let g:=(Wj.mp m).1;show W8 h dT g ?_;let l:∀b,b≠T->(s.heap.update T (Obj.mapFields (·.setIfInBounds 3 ((U:I VF).elim Vu.none λf=>rawInt f)))).get? b=s.heap.get? b:=λb ne=>cn _ _ ne.symm;let a:=cv (Obj.mapFields (·.setIfInBounds 3 ((U:I VF).elim Vu.none λf=>rawInt f))) h (dk (da dT _));show k _ #[n,fs,(l e i.symm).trans q,t,p,d,u,r,i,_,_,a,da dT _,?_] l #[_,a];rw[Xu g];rfl
end
section
variable{P:V8}{w:Wv}{K:Vs}{mg:Str->bg Vu}{base:Heap}{N:bb Str}{qual:Str}{scope:YH}{f:VF}{cd:Vu}{A:Wl}{outer:bb Env}{s0:VG}{H0:Hp}{E:XK}{CX:yW}
  {σ:L2.St} {H:Hp} {s:VG} {h':Heap} {X:Cx}
def u8(I:L2.Inv X [] σ H s)(S:VF->Prop)(L:X.ex=[])(F:∀p∈X.pn,¬S p.1)(keep:∀b o,s.heap.get? b=lD o->¬S b->b∉zb X.stack->h'.get? b=lD o)
  (a:∀b o,s.heap.get? b=lD o->¬S b->∃d,h'.get? b=lD {o with slots:=d}) (t:∀b o,s.heap.get? b=lD o->∃k,h'.get? b=lD k)
  (Y:∀b,S b->X.s₀.heap.get? b=Vt) (R:¬S X.env.locals) (U:∀x c,X.env.cells.lookup x=lD c->¬S c) (T:∀b,S b->H b=Vt):L2.Inv X [] σ H {s with heap:=h'}:=by
 let O:∀b o,X.s₀.heap.get? b=lD o->¬S b:=λb o z y=>by rw[Y b y]at z;ext z
 let j:∀b,b∉X.ex:=λb z=>by rw[L]at z;ext z
 let B:=I.base;let e:∀x c,X.env.cells.lookup x=lD c->∀v,s.heap.IsCell c v->h'.IsCell c v:=λx c z v #[o,J,Mz0]=>by let(d,q):=a c o J (U x c z);show#[_,q,Mz0]
 show#[I.ok,I.os,I.bare,#[λb o z n h _=>?_,λb o z n hf _=>?_,λb o z n x=>B.free b o z n x,λb o z x=>?_,B.ab7,B.abO,B.ab6],?_,λx c z=>?_,I.free,I.Zh,λp G=>?_,λb u q=>?_,I.len]
 .let g:=B.keep b o z n h (j b)
  show keep b o g (O b o z) λy=>?_;rcases Wa.mp (I.abc b y)with y|y
  .rw[y]at z;show a5 (bP z) (Nat.not_lt_of_le I.ok.above)
  .show h y
 .let(d,g):=B.slot b o z n hf (j b);let(C,Q):=a b _ g (O b o z);show#[C,Q]
 .let(k,g):=B.there b o z x;show t b k g
 .let(m,hn,Z):=I.loc
  let(o,es,ep,J,Mz0,r):=hn;let(d,q):=a _ o J R;show#[m,#[_,es,ep,q,Mz0,r],λi x v a1 a2 a3=>?_];let(u,rv,l):=Z i x v a1 a2 a3;show#[u,rv,?_];rcases l with l|⟨kd,c,z,y⟩
  .show .inl l
  .show .inr #[kd,c,z,e x c z _ y]
 .let(v,y):=I.cell x c z;show#[v,e x c z v y]
 .let(z,n,ne,h,dd):=I.pin p G
  rw[Wi]at G;show#[keep p.1 p.2 z (F p G) (λy=>?_),n,ne,h,dd];rcases Wa.mp (I.abc _ y)with y|y
  .show ne y
  .show h y
 .let free:∀c v,H c=lD v->¬S c/\c∉zb X.stack:=λc v z=>#[(λy=>by rw[T c y]at z;ext z),(λy=>by rw[I.abz c y]at z;ext z)]
  show(I.W6 b u q).ZP (λc v hc z=>?_) (λ_ z=>z) λ_ _ z=>z;rcases hc with y|y
  .rw[y]at z⊢;show keep b v z (free b u q).1 (free b u q).2
  .show keep c v z (free c _ y).1 (free c _ y).2
end
section
variable{M:aeJ}{A:Wl}{E:Vu->VG->Prop}{h:Heap}{g:Array aaT}{d:aeI}{t:Nat}{os:adA}
def IR{C U e:VF}{j:Obj}{z w y v:Str}{V D:VF}{x l s a:bb Vu}{Z Y:Bool}{u r:bb Str}{q p:bb Vu}{a1 a2:Bool}{k c:bg Bool}{o n:bg VF}{O N L K J I H G F B:bg Vu}{f b:String}{Q:Bool->VG->Prop}
  (X:h.get? C=lD (excClassObj z w C V x l Z u q a1 k o O N L K J f)) (m:h.get? U=lD (excClassObj y v U D s a Y r p a2 c n I H G F B b)) (R:h.get? e=lD j) (S:j.cls=.ref C)
  (T:a.contains (.type "BaseException")=Vx) (hm:(Vu.ref C::l).contains (.ref U)=Vx) (P:Q Vx #[h,g,d,t,os]):wpAny M A (excMatches (.ref e) (.ref U)) Q E #[h,g,d,t,os]:=by
 let i:(Vu.ref U::a).contains (.type "BaseException")=Vx:=by rw[abF,T,abQ]
 let ft:=tc_notTuple;ext excMatches
 repeat (first|(specialize X7 R ?_;rw[S])|specialize X7 m ?_|(specialize ZU m ?_;rw[i])|(specialize ZU X ?_;rw[hm])|wp_step)
 show P
end
abbrev Cx.marked(X:Cx)(e:M):Cx:={X with A:=X.A.mark (R (.ref e)),calm:=VO,xe:=λ_ _=>False}
section
variable{X:Cx}{Z:L2.St}{H:Hp}{s:VG}{Y:Heap}{e:VF}
theorem t8(I:L2.Inv X [] Z H s)(e:M):L2.Inv (Cx.marked X e) [] Z H s:=
 #[#[I.ok.mod,I.ok.kind,I.ok.glob,I.ok.blt,I.ok.above,I.ok.inj,I.ok.has,I.ok.cab,(λz=>nomatch z),I.ok.frames,I.ok.stk,I.ok.exf,I.ok.bs,I.ok.bsz,I.ok.adn,I.ok.ado,I.ok.abf,I.ok.frf],I.os,I.bare,I.base,I.loc,I.cell,I.free,I.Zh,I.pin,I.W6,I.len]
theorem Dh(ok:X.Ok)(I:L2.Inv (Cx.marked X e) [] Z H s):L2.Inv X [] Z H s:=
 #[ok,I.os,I.bare,I.base,I.loc,I.cell,I.free,I.Zh,I.pin,I.W6,I.len]
end
def Aj(K:Vs)(C:M)(m:G B):Prop:=∃nm q N bs hd sn sub h col dd g f e b a id,K.lookup C=R (excClassObj nm q C N bs m hd sn sub h col dd g f e b a id)
structure Apart(X:Cx)(a:M):Prop where
 n0:X.s₀.heap.get? a=U
 nL:a≠X.env.locals
 nC:∀y c,X.env.cells.lookup y=R c->c≠a
 nP:∀p∈X.pn,p.1≠a
def IE(X:Cx)(d:XK):B->VG->Prop:=λx a=>∃b H1 e c f g T,x=.ref e/\L2.Inv X [] b H1 a/\GZ a.heap e c f g (R T)/\Apart X e/\Apart X T/\H1 e=U/\H1 T=U/\d c f H1
def ue(I:L2.Inv X pins σ H s)(e:X.ex=[])(n:s.heap.get? a=U):Apart X a:=by
 let ne:∀b o,s.heap.get? b=R o->b≠a:=λb o z y=>by rw[y,n]at z;ext z
 show#[?_,?_,λy c z=>?_,λp h=>?_]
 .cases z:X.s₀.heap.get? a with
  |none=>rfl
  |some o=>let(g,y):=I.base.there a o z (by rw[e];simp);show a5 W (ne a g y)
 .let(m,(o,_,_,z,_),_):=I.loc;show(ne _ o z).symm
 .let(v,o,f,_):=I.cell y c z;show ne c o f
 .show ne _ _ (I.pin p (XB _ h)).1
def uO{X:Cx}(a:X.ex=[]):gp (iW X.prog X.w) (X.aaE (IE X t)) t:=by rintro g h H s x m I ⟨e,c,r,i,T,l,rfl,le,o,F,ne,n,os,bare,un,W6,q⟩;let f:=I.Zn;let j:=f.adt os un W6 bare (λb z=>nomatch z);show#[h,l,e,c,r,i,T,W,j.acV (λp z=>nomatch z),F,ue f a le,ue f a o,ne,n,q]
abbrev Cx.pinned(X:Cx)(l:G (M×Obj)):Cx:={X with pn:=l}
theorem NX(I:L2.Inv X pins σ H s):L2.Inv (Cx.pinned X (X.pn++pins)) [] σ H s:=
 #[#[I.ok.mod,I.ok.kind,I.ok.glob,I.ok.blt,I.ok.above,I.ok.inj,I.ok.has,I.ok.cab,I.ok.hd,I.ok.frames,I.ok.stk,I.ok.exf,I.ok.bs,I.ok.bsz,I.ok.adn,I.ok.ado,I.ok.abf,I.ok.frf],I.os,I.bare,I.base,I.loc,I.cell,I.free,I.Zh,(λp a=>I.pin p (by rw[Wi]at a;show a)),I.W6,I.len]
theorem kr(ok:X.Ok)(I:L2.Inv (Cx.pinned X (X.pn++pins)) [] σ H s):L2.Inv X pins σ H s:=
 #[ok,I.os,I.bare,I.base,I.loc,I.cell,I.free,I.Zh,(λp a=>I.pin p (by rw[Wi];show a)),I.W6,I.len]
end L4
namespace L4
open PySem PySem.Spec PySem.W PyProof.Rows L2 L3
section
variable{Y:V8}{w:Wv}{A:Wl}{E:Vu->VG->Prop}{h:Heap}{g:Array aaT}{d:aeI}{t:Nat}{T:adA}{a C:VF}{o:Obj}{K:Vs}
  {S Q:Str} {N:VF} {L J:bb Vu} {z:Bool} {y:bb Str} {v:bb Vu} {u:Bool} {r:bg Bool} {q:bg VF} {p n l j i:bg Vu} {X:String}
structure ak7(K:Vs)(C:M)(m:G B):Prop where
 cl:Aj K C m
 be:m.contains (.type "BaseException")=P
 ga:findIn K (.ref C) "__getattribute__"=R (R (.builtin "BaseException.__getattribute__"))
 gt:findIn K (.ref C) "__getattr__"=R U
 cs:findIn K (.ref C) "__class__"=R (R (.builtin "object.__class__"))
 ob:mroIn K C (.type "object")=R P
end
end L4
namespace L3
open PySem PySem.Spec PyProof.Rows L2
def Gp:G Int->Int
 |[]=>0
 |[a]=>a
 |a::r=>if Gp r<=a then a else Gp r
theorem ym:∀{ns:G Int},0<ns.length->Gp ns∈ns/\∀i,i∈ns->i<=Gp ns
 |[a],_=>#[VV,λi h=>by rw[VW.mp h];show aae _]
 |a::b::r,_=>by
  let(f,e):=ym (ns:=b::r) (by rw[V0];ext);show(if Gp (b::r)<=a then a else Gp (b::r))∈a::b::r/\∀i,i∈a::b::r->i<=(if Gp (b::r)<=a then a else Gp (b::r));by_cases q:Gp (b::r)<=a
  .rw[av q]
   show#[VV,λi h=>?_];rcases Wa.mp h with z|z
   .omega
   .let:=e i z;ext
  .rw[ax q]
   show#[VX _ f,λi h=>?_];rcases Wa.mp h with z|z
   .omega
   .show e i z
end L3
namespace HT
open PySem PySem.Spec PyProof.Rows
section
variable{Y:V8}{w:Wv}{A:Wl}{E:Vu->VG->Prop}{s:VG}
def getItem_tuple_all{t b:M}{items:Array B}{l j:B}{lo c:I Int}{Q:B->VG->Prop}(a:IsTup s.heap t items)(o:s.heap.IsSliceOf b l j .none)(pl:aaw l lo)(p:aaw j c)
  (n:sIx items.size 0 lo=0/\sIx items.size items.size c=items.size) (h:Q (.ref t) s):wpAny (model Y w) A (getItem (.ref t) (.ref b)) Q E s:=by
 let(q,e,f,r):=id o;let g:s.TypeIs (.ref b) "slice":=#[q,e,f];ext getItem
 try specialize W4 ?_
 first|show Ld (VH ?_)|skip
 show Ld (acw a.typeIs () ?_);show Ld (W7 (name:=Str.ofString "__getitem__") a.typeIs Wz
  (XG Wz a.typeIs entry_tuple_getitem ?_ (args_tuple_getitem _ _)))
 show wpAny _ _ (Builtin.Tuple.tupleItemsOf (.ref t)>>=_) _ _ s;show Ld (tupleItemsOf_ a ?_);show Ld (YR g ?_);rw[av ()];show Ld (kh o pl p ?_);let i:((((sIx items.size 0 lo:Nat):Int)==0&&(1:Int)==1&&(sIx items.size items.size c - sIx items.size 0 lo)==items.size)=P):=by rw[n.1,n.2];simp
 show wpAny _ _ (if(((sIx items.size 0 lo:Nat):Int)==0&&(1:Int)==1&&(sIx items.size items.size c - sIx items.size 0 lo)==items.size)=P then _ else _) _ _ s;rw[av i];show Ld (m:=Builtin.Tuple.tupleIsExact _) ?_;ext Builtin.Tuple.tupleIsExact;show Ld (YR a.typeIs (VH ?_));rw[av ()];show Ld (Zw ?_);show VH #[_,W,VH h]
end
end HT
namespace L3
open PySem PySem.Spec PyProof.Rows L2
def Ta(K:Vs):V->I Int->I Int->Hp->VK->Prop:=λx lo b H Q=>∃(a:M) (xs:G V),x=.ref a/\ZQ K H a xs/\(HT.sIx xs.length 0 lo=0/\HT.sIx xs.length xs.length b=xs.length)/\Q (.ref a) H
def JO{X:Cx}:Sr X (Ta X.K):=by
 intro e s o H x v t p lo y u Q I g m pl i h;let(a,xs,rfl,j,l,q):=h;ext g;let(n,r,f,w):=I.tuple j;let b:n.toArray.size=xs.length:=by rw[VY];show r.length.symm
 show#["tuple",_,Wz.lookup,f.typeIs,?_];show HT.getItem_tuple_all f m pl i (by rw[b];show l) #[.ref a,H,I,W,q]
def TL(K:Vs):V->I Int->I Int->Hp->VK->Prop:=λx lo a H Q=>QP K x lo a H Q\/Ta K x lo a H Q
def Ms{X:Cx}:Sr X (TL X.K):=by
 intro a s b H x v f e lo l g Q I h j pl i q;rcases q with q|q
 .show yc a s b H x v f e lo l g Q I h j pl i q
 .show JO a s b H x v f e lo l g Q I h j pl i q
def UE:D->I Int->I Int->I RV
 |.list ds,lo,a=>R (.ow (oK ds lo a))
 |.tuple ds,lo,a=>R (.fz (.tuple (oK ds lo a)))
 |_,_,_=>U
def NT{ds:G D}{lo a:I Int}(h:HT.sIx ds.length 0 lo=0/\HT.sIx ds.length ds.length a=ds.length):oK ds lo a=ds:=by ext oK;rw[h.1,h.2,agm,aie,X9]
def TJ{K:Vs}:UD K (TL K) UE:=by
 intro O H x lo i l j Q n b e q;cases l with
 |list ds=>show .inl (pI O H x lo i _ j Q n b e q)
 |tuple ds=>
  ext e;by_cases f:HT.sIx ds.length 0 lo=0/\HT.sIx ds.length ds.length i=ds.length
  .let(a,xs,rfl,h,g):=EL b;rw[NT f]at q;show .inr #[a,xs,W,h.1,by rw[g.length];show f,q.at (.tup h g)]
  .show .inl (pI O H x lo i (.tuple ds) _ Q n b ?_ q)
   show(if gO ds.length lo i=P then U else R (RV.fz (.tuple (oK ds lo i))))=_;let z:gO ds.length lo i=VO:=by ext gO;show aP f
   rw[z,ax VU]
 |_=>ext e
section
variable{K:Vs}{E:XK}
end
end L3
namespace L9
open PySem PySem.Spec PyProof.Rows
section
variable{M:aeJ}{A:Wl}{E:Vu->VG->Prop}{Y:Env}
variable{nm q:Str}{C N:VF}{bs Z:bb Vu}{hdct:Bool}{sn:bb Str}{sub:bb Vu}{ab:Bool}{col:bg Bool}{dd:bg VF}{k0 k1 k2 k3 k5:bg Vu}{newId:String}
def j7(i:Z.contains (.type "BaseException")=P)(o:A.handled=U)
  (h:wpAny M A x (λv c=>∃e k,v=.ref e/\c.heap.get? C=R (excClassObj nm q C N bs Z hdct sn sub ab col dd k0 k1 k2 k3 k5 newId)/\c.heap.get? e=R k/\k.cls=.ref C/\(∃fs,k.data=.fields fs/\fs[1]?=R Vu.none)/\E (.ref e) c) E s):
  wpAny M A (raiseStmt Y (R x) U) Q E s:=by
 let f:(Vu.ref C::Z).contains (.type "BaseException")=P:=by rw[abF,i,abQ]
 ext raiseStmt;show Ld (wpAny_mono h (λv c a=>?_) λ_ _ x=>x);let(e,k,rfl,m,p,l,(fs,j,b),r):=a;let(y,w,n):=k;dsimp only at l j;subst l j;let(z,g,d,t,u):=c
 repeat (first|specialize X7 p ?_|specialize X7 m ?_|(specialize ZU m ?_;rw[f])|wp_step)
 rw[b]
 repeat wp_step
 show agn o r
end
section
variable{J:V8}{w:Wv}{A:Wl}{E:Vu->VG->Prop}{h:Heap}{g:Array aaT}{d:aeI}{t:Nat}{os:adA}
variable{nm q:Str}{C N:VF}{bs S Z:bb Vu}{hdct:Bool}{sn:bb Str}{sub:bb Vu}{ab:Bool}{col:bg Bool}{dd:bg VF}{k0 k1 k2 k3 k5:bg Vu}{B P L Y R X:String}{U:bb Vu}
def su(y:Zm P L X U)(j:Z.contains (.type P)=Vx)(F:Zm B Y R Z)(T:ahw h Z S)
  (i:h.get? C=lD (excClassObj nm q C N bs S hdct sn sub ab col dd k0 k1 k2 k3 k5 L)) (s:h.Ns N mN) (D:mN "__init__"=lD (.ref fI)) (p:h.get? fI=lD oI) (n:oI.cls=.type "function")
  (G:∀k e,Heap.MadeExcOf h k e (.ref C) rest->wpAny (model J w) A (call (.ref fI) (.ref e::rest)) (λr c=>r=.none/\Q (.done (.ret (.ref e))) c) E #[k,g,d,t,os]) (hrest:rest.length<=VT):
  wpAny (model J w) A (Builtin.«type.__call__» #[.ref C::rest,[]]) Q E #[h,g,d,t,os]:=by
 repeat (first|specialize X7 i ?_|specialize wpAny_madeBy_exc i ?_|wp_step)
 show codeAny_call_builtin_code (adH.quiet_builtin _ y.quiet) (wpAny_check_new_subU y j T i ?_);show codeAny_exc_new_subU y j F T i ?_ hrest
 let a:=br {cls:=.ref C,data:=.fields #v[.ref h.objs.size,.none,.none,.none,.bool VO,.none]}
  (br {cls:=.type "tuple",data:=.seq rest.toArray} i)
 let v:=br {cls:=.ref C,data:=.fields #v[.ref h.objs.size,.none,.none,.none,.bool VO,.none]}
  (br {cls:=.type "tuple",data:=.seq rest.toArray} p)
 let f:((h.push {cls:=.type "tuple",data:=.seq rest.toArray}).push {cls:=.ref C,data:=.fields #v[.ref h.objs.size,.none,.none,.none,.bool VO,.none]}).Ns N mN:=
  let#[o,es,ep,e,r]:=s;#[o,es,ep,br _ (br _ e),r]
 let l:((h.push {cls:=.type "tuple",data:=.seq rest.toArray}).push
   {cls:=.ref C,data:=.fields #v[.ref h.objs.size,.none,.none,.none,.bool VO,.none]}).get? (h.objs.size+1)=lD
   {cls:=.ref C,data:=.fields #v[.ref h.objs.size,.none,.none,.none,.bool VO,.none]}:=by heap_get
 let u:(Vu.ref C::S).contains (.ref C)=Vx:=by simp
 let m:=T.keeps (h':=(h.push {cls:=.type "tuple",data:=.seq rest.toArray}).push {cls:=.ref C,data:=.fields #v[.ref h.objs.size,.none,.none,.none,.bool VO,.none]})
  λb o e=>br _ (br _ e)
 ext isInstance
 repeat (first|specialize X7 l ?_|(specialize ZU a ?_;rw[u])|wp_step)
 show wpAny_typeLookup_tail a f m F.mroIs F.init.lookup ?_;rw[D];show W4 (Ld ?_);ext bindSpecial;show Ld (YR #[_,v,n] ?_);rw[av ()];show VH (Ld (wpAny_mono (G _ (h.objs.size+1) #[λb o H=>br _ (br _ H),cN (acr _),h.objs.size,l,cN (VP _),?_]) (λr c z=>?_) λ_ _ x=>x))
 .show br _ (Heap.get?_push_at W W)
 .let(rfl,I):=z
  wp_walk
  show I
def BX(l:Zm P L X U)(i:Z.contains (.type P)=Vx)(F:Zm B Y R Z)(T:ahw h Z S)
  (a:h.get? C=lD (excClassObj nm q C N bs S hdct sn sub ab col dd k0 k1 k2 k3 k5 L)) (s:h.Ns N u) (v:u "__init__"=lD (.ref fI)) (f:h.get? fI=lD p) (b:p.cls=.type "function")
  (j:∀c e,Heap.MadeExcOf h c e (.ref C) rest->wpAny (model J w) (A.under (.builtin "type.__call__" #[.ref C::rest,[]])) (call (.ref fI) (.ref e::rest)) (λr k=>r=.none/\Q (.ref e) k) E #[c,g,d,t,os]) (hrest:rest.length<=VT):
  wpAny (model J w) A (call (.ref C) rest) Q E #[h,g,d,t,os]:=by
 let o:=tc_lookup;let n:=tc_bind (.ref C);let m:(#[h,g,d,t,os]:VG).TypeIs (.ref C) "type":=#[_,a,W];show aa4 (codeAny_of_tree ?_)
 repeat (any_goals (first|assumption|specialize X7 a ?_|wp_step))
 show#[W,?_];show codeAny_call_builtin_at (adH.quiet_builtin _ (by left)) entry_typeCall (wpAny_check_type_call_sub a (su (hrest:=hrest) l i F T a s v f b λc e hm=>?_));show j c e hm
end
section
variable{prog:V8}{w:Wv}{A:Wl}{E:Vu->VG->Prop}{s:VG}{env:Env}
variable{nm q:Str}{C N:VF}{bs Y Z:bb Vu}{hdct:Bool}{sn:bb Str}{sub:bb Vu}{ab:Bool}{col:bg Bool}{dd:bg VF}{k0 k1 k2 k3 k5:bg Vu}{B Bn newId X R U:String}{S:bb Vu}
def AF(Fn:Zm Bn newId U S)(u:Z.contains (.type Bn)=Vx)(F:Zm B X R Z)
  (m:Y.contains (.type "BaseException")=Vx) (p:A.handled=Vt) (y:(backTo YD (We args env)).any (·.1)=VO) (hi:mN "__init__"=lD (.ref fI)) (t:oI.cls=.type "function")
  (h:wpAny (model prog w) A (eval (.Name x np) env) (λf k=>f=.ref C/\wpAny (model prog w) A (evalArgs (.ref C) Vx (backTo YD (We args env)) [])
   (λa c=>a.kw=[]/\a.pos.length<=VT/\c.heap.get? C=lD (excClassObj nm q C N bs Y hdct sn sub ab col dd k0 k1 k2 k3 k5 newId)/\c.heap.Ns N mN/\c.heap.get? fI=lD oI/\ahw c.heap Z Y/\
    ∀h' e,Heap.MadeExcOf c.heap h' e (.ref C) a.pos->wpAny (model prog w) (A.under (.builtin "type.__call__" #[.ref C::a.pos,[]])) (call (.ref fI) (.ref e::a.pos)) (λr V=>r=.none/\∃D,V.heap.get? C=lD (excClassObj nm q C N bs Y hdct sn sub ab col dd k0 k1 k2 k3 k5 newId)/\V.heap.get? e=lD D/\D.cls=.ref C/\(∃fs,D.data=.fields fs/\fs[1]?=lD Vu.none)/\E (.ref e) V) E {c with heap:=h'}) E k) E s):
  wpAny (model prog w) A (exec (.Raise (lD (.Call (.Name x np) args [] YD)) Vt pos) env) Q E s:=by
 rw[arm_exec_Raise]
 first
  |show Ld (Yc (j7 m p (Ld (wpAny_mono (acz (wpAny_mono h (λf k i=>?_) λ_ _ x=>x)) (λv l b=>Ld (Yc (VH b))) λ_ _ x=>x))))
  |(simp only[evalOpt,Option.map];show Ld (Yc (j7 (C:=C) (nm:=nm) (q:=q) (N:=N) (bs:=bs) (hdct:=hdct) (sn:=sn) (sub:=sub) (ab:=ab) (col:=col) (dd:=dd) (k0:=k0) (k1:=k1) (k2:=k2) (k3:=k3) (k5:=k5) (newId:=newId) m p (Ld (wpAny_mono (acz (wpAny_mono h (λf k i=>?_) λ_ _ x=>x)) (λv l b=>Ld (Yc (VH b))) λ_ _ x=>x)))))
  |(show Ld (Yc (j7 m p ?_));show Ld (wpAny_mono (acz (wpAny_mono h (λf k i=>?_) λ_ _ x=>x)) (λv l b=>Ld (Yc (VH b))) λ_ _ x=>x))
 let(rfl,i):=i;ext callWith;show Ld (W4 (wpAny_mono i (λa c j=>Ld (Yc ?_)) λ_ _ x=>x));let(G,P):=a;let(o,n,z,hn,I,T,j):=j;obtain rfl:=o;let(hp,g,d,tk,os):=c;simp only[y];show Ld (wpAny_keeperOf_exc z ?_);show Ld (BX (hrest:=n) Fn u F T z hn hi I t λh' e hm=>wpAny_mono (j h' e hm) (λr V #[H,D,O,Mz0,L,K,J]=>#[H,Ld (W4 (wpAny_point (VH ?_)))]) λ_ _ x=>x);show#[e,D,W,O,Mz0,L,K,J]
end
end L9
namespace L9
open PySem PySem.W PyProof.Rows Builtin Builtin.ObjectAttr
abbrev Lx:G B:=[.type "ValueError",.type "Exception",.type "BaseException",.type "object"]
section
variable{prog:V8}{w:Wv}{A:Wl}{K:Frag}{B C x:VF}{s:VG}{R:abH->VG->Prop}{Z:ClassData}{name:Str}{Y:Tok}{v:Vu}{fs:Array Vu}
def MN(X:K.In s.heap)(z:clsIn K C=lD Z)(hm:Z.mro=.ref C:: .ref B::Lx)(hd:Z.hasDict=Vx)(D:findIn K (.ref C) name=lD Vt)(i:s.heap.get? x=lD #[.ref C,Vt,.fields fs,#v[]])
  (H:∀c k,c.get? x=lD #[.ref C,lD s.heap.objs.size,.fields fs,#v[]]->c.Ns1 s.heap.objs.size (λy=>if y=name then lD v else Vt)->(∀b o,b≠x->s.heap.get? b=lD o->c.get? b=lD o)->R (.ok (.ret .none)) {s with heap:=c,toks:=k}):
  codeAny (model prog w) A (.call (.builtin "object.__setattr__") #[[.ref x,.str name Y,v],[]]) R s:=by
 let I:InstAt s.heap x #[.ref C,Vt,.fields fs,#v[]] C Vt:=#[i,W,W,True.intro];let m:=PySem.F.store_object;let sub:Looks (model prog w) s.heap (isInstance (.ref x) (.type "object")) Vx:=I.type.andThen (looks_mroIn X (by ext mroIn;rw[z,Option.bind_some,hm,ax (by simp)];simp));show ZG m.slot.plain m.entry (@check_slot (model prog w) _ _ s "object.__setattr__" "object" "__setattr__" (.ref x) [.str name Y,v] [] _ m.kind m.split sub (m.args (.ref x) (.str name Y) v) ?_);let l:Looks (model prog w) s.heap (mroOf (.ref C)) Z.mro:=(looks_clsIn X z).andThen .now;rw[osa_eq,refuse_eq];show Ld (Ld (I.type.here (Ld (l.here ?_))));rw[hm,akB,akB,PySem.F.store_ValueError.passes];show VH (Ld (I.type.here (Ld ((looks_findIn X D).here (Ld (VH ?_))))));ext storeInOwnDict;show Ld (VH (Ld ?_));unfold ownDictForStores instanceDict;show Ld (akt i (Ld ((looks_clsIn X z).here ?_)));rw[hd,ax ()];show wpAny _ _ (if(!Vx|| !typeHasDict (.ref C))=Vx then pure Vt else(do
        let d<-alloc {cls:=Vu.type "dict",data:=Data.dict #v[]}
        update x λo=>{cls:=o.cls,dict:=lD d,data:=o.data,slots:=o.slots}
        dictMade (.ref C) x d)) _ _ _
 rw[ax (by simp[typeHasDict])];let(h,g,d,t,os):=s;dsimp only at X i H I sub l⊢;let f:(h.push {cls:=.type "dict",data:=.dict #v[]}).get? x=lD #[.ref C,Vt,.fields fs,#v[]]:=br _ i;let a:=Wc (bP i);show Ld (wpAny_alloc' ?_);show Ld (wpAny_update' f ?_);show VH ?_
 let q:((h.push {cls:=.type "dict",data:=.dict #v[]}).update x λo=>{cls:=o.cls,dict:=lD h.objs.size,data:=o.data,slots:=o.slots}).get? h.objs.size
   =lD {cls:=.type "dict",data:=.dict #v[]}:=
  (Heap.get?_update_ne _ _ _ _ a.symm).trans (Heap.get?_push_at W W)
 let p:((h.push {cls:=.type "dict",data:=.dict #v[]}).update x λo=>{cls:=o.cls,dict:=lD h.objs.size,data:=o.data,slots:=o.slots}).Ns h.objs.size (λ_=>Vt):=
  #[_,#v[],_,q,W,λe M=>a5 M (by simp),λ_=>W]
 unfold storeInDict newKeyGuard;show Ld (VH (Ld (wpAny_nsSet1 (Heap.Ns1.of_empty p) λc j G=>?_)));let(oD,O,Q,n,r,u):=j.count (Within.cons name v Within.nil);show Ld (ah7 n (by rw[r];show ah8 (Wt u (by rw[V0,XI,X5];ext))) ?_);show VH (H c _ ?_ ?_ λb ob E J=>?_)
 .show(G.2 x a).trans (cv _ f W)
 .let(L,P,S,e1,e2,U,N,T):=j;show#[L,P,S,e1,e2,U,N,λy=>by rw[T y]]
 .show(G.2 b (Wc (bP J))).trans ((Heap.get?_update_ne _ _ _ _ E).trans (br _ J))
theorem Od(X:K.In s.heap)(g:clsIn K C=lD Z)(hm:Z.mro=.ref C:: .ref B::Lx)(hd:Z.hasDict=P)(a:findIn K (.ref C) "__setattr__"=lD (lD (.builtin "object.__setattr__")))(h:findIn K (.ref C) name=lD U)(e:s.heap.get? x=lD #[.ref C,U,.fields fs,#v[]])
  (f:∀c d,c.get? x=lD #[.ref C,lD s.heap.objs.size,.fields fs,#v[]]->c.Ns1 s.heap.objs.size (λy=>if y=name then lD v else U)->(∀b o,b≠x->s.heap.get? b=lD o->c.get? b=lD o)->Q ⟨⟩ {s with heap:=c,toks:=d}):
  wpAny (model prog w) A (setAttr (.ref x) name v) Q E s:=
 set_plain X (#[e,W,W,True.intro]:InstAt s.heap x #[.ref C,U,.fields fs,#v[]] C U) a (MN X g hm hd h e f)
end
section
variable{L:V8}{w:Wv}{A:Wl}{E:Vu->VG->Prop}{h:Heap}{g:Array aaT}{d:aeI}{t:Nat}{y:adA}
variable{u q:Str}{C N:VF}{bs v Z:bb Vu}{J:Bool}{r:bb Str}{sub:bb Vu}{ab:Bool}{col:bg Bool}{dd:bg VF}{k0 k1 k2 k3 k5:bg Vu}{B S X Y:String}
def FJ(F:Zm B X Y Z)(T:ahw h Z v)
  (p:h.get? C=R (excClassObj u q C N bs v J r sub ab col dd k0 k1 k2 k3 k5 S)) (j:h.get? e=R #[.ref C,U,.fields fs,#v[]]) (l:fs[0]?=R (.ref t0))
  (m:∀s k,s.get? e=R #[.ref C,U,.fields k,#v[]]->k[0]?=R (.ref h.objs.size)->(∀i,i≠0->k[i]?=fs[i]?)->(∀b o,b≠e->h.get? b=R o->s.get? b=R o)->Q .none #[s,g,d,t,y]) (c:rest.length<=VT):
  wpAny (model L w) A (call (.builtin Y) (.ref e::rest)) Q E #[h,g,d,t,y]:=by
 show aa4 (ZG F.init.plain F.initEntry (wpAny_check_init_subU F T p j W ?_));unfold Builtin.«BaseException.__init__»;dsimp only;rw[ax (by simp)];unfold newTuple Builtin.BaseException.bexcPut;let f:=(Wj.mp l).1;let a:(h.push {cls:=.type "tuple",data:=.seq rest.toArray}).get? e=R #[.ref C,U,.fields fs,#v[]]:=br _ j;show Ld (WG (Ld (Ld (Wm a W l (Ld (W8 a W f ?_))))) (by show rest.toArray.size<=VT;rw[VY];show c));show Yl (VH (m _ (fs.setIfInBounds 0 (.ref h.objs.size)) ?_ (by simp[f]) (λi hi=>by rw[Y6 (dr hi)]) λb o n z=>?_))
 .show cv (Obj.mapFields (·.setIfInBounds 0 (.ref h.objs.size))) a W
 .show(cn _ _ (dr n)).trans (br _ z)
end
end L9
namespace L9
open PySem PySem.Spec PyProof.Rows L2
def Uo(v:V):Prop:=v=.XX\/∃i:Int,v=.int i/\i.natAbs.log2<1920
def M4{i:Int}(h:i.natAbs.log2<1920):(Str.ofString (toString i)).length<=5000:=by let e:=int_text_length_le () h;rw[PySem.ofString_length];ext
def RQ(I:Inv X pins σ H s)(r:RelV v u)(f:Uo v)
  (h:∀(y:Str) (t:Tok) (a:VG),y.length<=5000->Inv X pins σ H a->Q (.str y t) a):wpAny (model X.prog X.w) A (formatField u Str.empty) Q E s:=by
 rcases f with rfl|⟨i,rfl,b⟩
 .obtain rfl:=r;show wpAny_formatField_none (h _ _ _ () (I.tok _))
 .let(t,rfl):=r;show formatField_int_small b (h _ _ _ (M4 b) (I.tok _))
def PJ(X:Cx)(c:G WQ)(n:Nat)(t:L2.St->Hp->(Hp->Prop)->Prop):Prop:=
 ∀(a:G (M×Obj)) (s:VG) (e:L2.St) (H:Hp) (b:Str) (Q:Hp->Prop),Inv X a e H s->b.length+n<=1000000->t e H Q->
  wpAny (model X.prog X.w) X.A (joinParts b (evalEach c X.env)) (λv h=>∃(y:Str) (g:Tok) (f:Hp),v=.str y g/\Inv X a e f h/\Q f) X.xe s
section
variable{X:Cx}{e:WQ}{T:bb WQ}{n:Nat}{S:TE}{t:L2.St->Hp->(Hp->Prop)->Prop}{Y:Pos}
def PY:PJ X [] 0 (λ_ H Q=>Q H):=by intro a s f H b Q I g h;show joinParts_nil #[_,_,H,W,I.tok _,h] (by rw[X5];ext)
def QI(i:x.length<=5000)(g:PJ X T n t):PJ X (.Constant (.str x) k Y::T) (n+5000) t:=by intro a s f H b Q I j h;show joinParts_consE (joinParts_cons (Calls.Constant_str ?_));let e:=amH b x;show#[by rw[X5];ext,g a _ f H (b++x) Q (I.tok _) () h]
def Sa(i:PE X e S)(g:PJ X T n t):PJ X (.FormattedValue e (-1) U Y::T) (n+5000) (λσ H Q=>S σ H λv H1=>Uo v/\t σ H1 Q):=by intro a s σ H b Q I z h;show joinParts_consE (joinParts_cons (FormattedValue_plain (cR (i a s σ H _ I h) λu o #[v,H1,j,r,f,q]=>?_)));show RQ j r f λy m p w l=>?_;let e:=amH b y;show#[by rw[X5];ext,g a _ σ H1 (b++y) Q l () q]
def LN(h:PJ X (g::m::T) n t)(c:n<=900000):PE X (.JoinedStr (g::m::T) Y) (λσ H Q=>t σ H λH1=>∀y:Str,Q (.str y) H1):=by intro a s σ H Q I b;show JoinedStr_many (cR (h a s σ H Str.empty _ I (by show 0+n<=1000000;ext) b) λv l #[y,j,H1,f,i,q]=>?_);subst f;show#[.str y,H1,i,#[_,W],q y]
end
def Nx(C e:M):Heap->Prop:=λh=>∃fs t0,h.get? e=R #[.ref C,U,.fields fs,#v[]]/\fs[0]?=R (.ref t0)/\fs[1]?=R .none
def Tk(C e p:M):Heap->Prop:=λh=>∃fs a,h.get? e=R #[.ref C,R p,.fields fs,#v[]]/\fs[0]?=R a/\fs[1]?=R .none
structure XC(K:Vs)(C B fI:M):Prop where
 obj:∃nm q N bs sn sub ab col dd k0 k1 k2 k3 k5,K.lookup C=R (excClassObj nm q C N bs (.ref B::Lx) P sn sub ab col dd k0 k1 k2 k3 k5 "ValueError.__new__")/\acf K N=P/\Wb K N "__init__"=R (R (.ref fI))
 base:aaX K B Lx "ValueError.__new__"=P
 sa:WH K (.ref C) "__setattr__"=R (R (.builtin "object.__setattr__"))
def Af{K:Vs}(q:aaX K g Lx n=P):aaB K Lx (.ref g::Lx)=P:=by
 unfold aaX at q;split at q
 .rename_i dd f e b
  split at q
  .simp only[V9,beq_iff_eq,Bool.not_eq_true']at q;let(((((_,_),_),_),W6),a):=q;ext aaB;dsimp only;rw[b];dsimp only;rw[W6,a,show aaB K Lx Lx=P from by ext aaB;rw[d3,Y1],d3,Xy,Xy,abQ]
  .ext q
 .ext q
section
variable{X:Cx}{B C fI:VF}{pos S U:Pos}{Y:WQ}{Z:bb WQ}{t:TA}{b:Str}
def Kj(h:H a=R o):bL H a o=H:=by
 funext c;by_cases z:c=a
 .rw[z,aX,h]
 .rw[aF z]
def P9(C:M)(t:TA):TE:=λf H Q=>t f H λg a=>∃e y,g=[.ref e,.str y]/\a e=R (.ext (Nx C e))/\Q .XX a
def Lb{pl:Sem Bool}(V:Gl X b)(hm:X.mg b=lD (.ref B))(D:ab0 X.K B (.type "type")=Vx)(hf:ab1 X.K (.ref B) (.type "type") "__init__"=lD (.val (.builtin "ValueError.__init__")))
  (k:YV X.K (.ref B) "__getattribute__"=lD (lD (.builtin "type.__getattribute__"))) (E:XC X.K C B fI) (ha:PA X (Y::Z) t)
  (d5:We (Y::Z) X.env=(VO,eval Y X.env)::We Z X.env:=by rfl) (l:(backTo pos (We Z X.env)).any (·.1)=VO:=by rfl) (m:(b==("__debug__":Str))=VO:=by decide)
  (c:eval (.Call (.Attribute (.Name b S) "__init__" U) (Y::Z) [] pos) X.env=(do
   let ov<-eval (.Name b S) X.env
   standAt U.atName
   let(f,first)<-holding [ov] (getMethod ov "__init__" pl)
   callWith pos f first (backTo pos (We (Y::Z) X.env)) (backToKw pos (keywordEach [] X.env))):=by rfl):
  PE X (.Call (.Attribute (.Name b S) "__init__" U) (Y::Z) [] pos) (P9 C t):=by
 intro a s J H Q I h;show aar (pl:=pl) (ng I V hm ?_ m) c;show PySem.W.method_cls I.kIn k (PySem.W.cls_value I.kIn D hf () ?_);let F:=ha pos a {s with toks:=s.toks+1} J H _ (I.tok _) h;rw[d5]at F⊢;show Calls.callWith_builtin (by show(VO||(backTo pos (We Z X.env)).any (·.1))=VO;rw[l]<;>rfl) (Calls.evalArgs_plain (cR F λus A #[vs,G,i,r,e,y,ev,n,q]=>?_));subst ev;let(P,u2,rfl,r1,r2):=Jk r;obtain rfl:P=.ref e:=r1;let(tk,rfl):=r2;let((fs,t0,g1,g2,g3),_,gk):=(show ObjOk X.prog X.w G A.heap e (.ext (Nx C e))from i.W6 e _ n);let(nm,q',N,bs,sn,sub,ab,col,dd,k0,k1,k2,k3,k5,lk,W6,hin):=E.obj;let T:=adK i.kIn (Af E.base);let(h2,g,d,j,os):=A;show FJ Yo T (i.kIn _ _ lk) g1 g2 (λh' p v e2 e3 e4=>?_) (by show 1<=VT;decide);show#[.XX,G,?_,W,q];let w:=i.write (x:=e) (e:=e) (o:=.ext (Nx C e)) (h':=h') (t':=j) (by rw[n];show True.intro) (.inl W) (λb u hb z=>e4 b u hb z) #[_,v] #[#[p,_,v,e2,by rw[e3 1 ()];show g3],#[_,v],λh1 h2 #[f1,R1,O,Mz0,L] hk=>#[f1,R1,hk _ O,Mz0,L]];rw[Kj n]at w;show w
def Ts(C:M)(f:Str)(i h:TE):TS:=λD a H=>h a H λv j=>i a j λx g=>∃e,x=.ref e/\g e=R (.ext (Nx C e))/\∀p,g p=Vt->p≠e->D.nx a (bL (bL g e (.ext (Tk C e p))) p (.xd [(f,v)]))
def Mu(Q:XC X.K C B fI)(V:WH X.K (.ref C) f=lD Vt)(ha:PE X o ta)(c:PE X value tv)(d:Xq value (lD (.Attribute o f pos')) pos.line X.env=pure VO):PS X (.Assign [.Attribute o f pos'] value pos) (Ts C f ta tv):=by
 intro l s G H D I h;show acE (cR (c l s G H _ I h) λu s1 #[v,H1,I1,rv,q]=>cR (ha l s1 G H1 _ I1 q) λov p #[x,T,A,rx,e,ex,j,q2]=>?_) d;subst ex;obtain rfl:=rx;let((fs,t0,R,g2,g3),_,gk):=(show ObjOk X.prog X.w T p.heap e (.ext (Nx C e))from A.W6 e _ j);let(nm,q',N,bs,sn,sub,ab,col,dd,k0,k1,k2,k3,k5,lk,W6,hin):=Q.obj;obtain⟨F,hc,L,M⟩:∃F,afA X.K C=lD F/\F.mro=.ref C:: .ref B::Lx/\F.hasDict=Vx:=by ext afA;rw[lk];show#[_,W,W,W]
 show Od A.kIn hc L M Q.sa V R λh' tk' O e2 E=>?_;let pe:=WX (bP R);let r:=A.W6.fresh (VP _);show#[G,_,?_,q2 p.heap.objs.size r pe];let m:∀b o,p.heap.get? b=lD o->b≠p.heap.objs.size:=λb o z=>Wc (bP z);show A.un #[λb o z n _ _=>E b o (λy=>by rw[y,j]at n;ext n) z,λb o z n _ _=>#[o.slots,E b o (λy=>by rw[y,j]at n;ext n) z],λb o z n _=>?_,λb o z _=>?_,λb xs z=>?_,λb o u z=>?_,λb ps z=>#[#v[],?_]] ?_
 .rw[aF (m b o z),aF (λy=>by rw[y,j]at n;ext n)];show n
 .by_cases y:b=e
  .subst y;show#[_,O]
  .show#[o,E b o y z]
 .rw[aF (λy=>by rw[y,r]at z;ext z),aF (λy=>by rw[y,j]at z;ext z)];show z
 .rw[aF (λy=>by rw[y,r]at z;ext z),aF (λy=>by rw[y,j]at z;ext z)];show z
 .rw[aF (λy=>by rw[y,r]at z;ext z),aF (λy=>by rw[y,j]at z;ext z),z];simp
 .intro a o z
  by_cases P:a=p.heap.objs.size
  .subst P
   rw[aX]at z;ext z;show#[_,e2,λg=>?_];show Z8 (match g==f with|true=>lD v|false=>Ye g []) (if g=f then lD u else Vt);cases i:g==f with
   |true=>rw[av (beq_iff_eq.mp i)];show rv
   |false=>rw[ax (λw=>by rw[beq_iff_eq.mpr w]at i;ext i)];show True.intro
  .rw[aF P]at z
   by_cases J:a=e
   .subst J;rw[aX]at z;ext z;show#[#[fs,_,O,g2,g3],#[_,O],λh1 h2 #[f1,t1,z1,z2,z3] hk=>#[f1,t1,hk _ z1,z2,z3]]
   .rw[aF J]at z
    let own:∀b,T b=lD (.own a)->b≠e/\b≠p.heap.objs.size:=λb y=>#[(λk=>by rw[k,j]at y;ext y),(λk=>by rw[k,r]at y;ext y)];show(A.W6 a o z).ZP (λb w i y=>E b w (λk=>?_) y) (λb y=>by rw[aF (own b y).2,aF (own b y).1];show y) λb xs y=>by rw[aF (λk=>by rw[k,r]at y;ext y),aF (λk=>by rw[k,j]at y;ext y)];show y
    rcases i with i|i
    .show J (i.symm.trans k)
    .show(own b i).1 k
end
end L9
namespace L9
open PySem PySem.Spec PyProof.Rows L2 L4
def Su(H:Hp)(e:M):Hp:=λa=>if a=e then U else H a
theorem uv:Su H e e=U:=av W
theorem lJ(h:a≠e):Su H e a=H a:=ax h
def Bw{K:Vs}(X:K.In h)(G:h.Ns N t)(e:Wb K N n=R (R v)):t n=R v:=by
 let(o,p,q,f,j,_,g):=G;unfold Wb at e;split at e
 .rename_i l m b a
  let:=(X _ _ a).symm.trans f;ext this;ext j;split at e
  .rename_i r i;ext e;rw[<-g];unfold nsFind findBy;rw[<-aeo,i];rfl
  .split at e<;>ext e
 .ext e
def QW{K:Vs}(i:Yu K (.ref f)=P)(l:K.lookup f=R o):o.cls=.type "function":=by unfold Yu aeZ at i;dsimp only at i;rw[l]at i;show VZ (beq_iff_eq.mp i)
section
variable{X:Cx}{Z:bb (VF×Obj)}{Y:L2.St}{H:Hp}{s:VG}{T:Heap}{e:VF}{o:HO}
def NK(I:L2.Inv X Z Y H s)(k:∀b u,s.heap.get? b=R u->T.get? b=R u)(n:s.heap.get? e=U)(new:ObjOk X.prog X.w (bL H e o) T e o):L2.Inv X Z Y (bL H e o) {s with heap:=T,toks:=t'}:=by
 let f:=A5 I.W6 n;let ne:∀b u,s.heap.get? b=R u->b≠e:=λb u z y=>by rw[y,n]at z;ext z
 show I.un #[λb u z _ _ _=>k b u z,λb u z _ _ _=>#[u.slots,k b u z],λb u z q _=>by rw[aF (ne b u z)];show q,λb u z _=>#[u,k b u z],λb xs z=>?_,λb u v z=>?_,λb g z=>#[#v[],?_]] ?_
 .rw[aF (λy=>by rw[y,f]at z;ext z)];show z
 .rw[aF (λy=>by rw[y,f]at z;ext z)];show z
 .rw[aF (λy=>by rw[y,f]at z;ext z),z];simp
 .intro a u z
  by_cases y:a=e
  .subst y;rw[aX]at z;ext z;show new
  .rw[aF y]at z;show(I.W6 a u z).ZP (λb w _ q=>k b w q) (λb q=>by rw[aF (λw=>by rw[w,f]at q;ext q)];show q) λb xs q=>by rw[aF (λw=>by rw[w,f]at q;ext q)];show q
def NO(I:L2.Inv X Z Y H s)(f:H e=R (.ext g)):L2.Inv X Z Y (Su H e) s:=by
 let:=I.un (t':=s.toks) (H':=Su H e) #[λb u z _ _ _=>z,λb u z _ _ _=>#[u.slots,z],λb u z q _=>?_,λb u z _=>#[u,z],λb xs z=>?_,λb u v z=>?_,λb h z=>#[#v[],?_]] ?_
 .show this
 .by_cases y:b=e
  .rw[y];show uv
  .rw[lJ y];show q
 .rw[lJ (λy=>by rw[y,f]at z;ext z)];show z
 .rw[lJ (λy=>by rw[y,f]at z;ext z)];show z
 .rw[lJ (λy=>by rw[y,f]at z;ext z),z];simp
 .intro a u z
  let y:a≠e:=λy=>by rw[y,uv]at z;ext z
  rw[lJ y]at z;show(I.W6 a u z).ZP (λb w _ q=>q) (λb q=>by rw[lJ (λw=>by rw[w,f]at q;ext q)];show q) λb xs q=>by rw[lJ (λw=>by rw[w,f]at q;ext q)];show q
end
def DQ(C:M)(sp:Sp)(E:XK)(g:TA):TS:=λ_ f H=>g f H λh b=>h.length<=VT/\∀e,b e=U->sp (.ref e::(h++[])) (bL b e (.ext (Nx C e))) (λv a=>v=.XX/\∃p,a e=R (.ext (Tk C e p))/\E (.ref C) (R p) (Su a e)) E0
def Fx{K:Vs}
  (c:XC K C Bz0 fI) (U:K.lookup fI=lD oI) (d:Yu K (.ref fI)=Vx) (FI:FnOk Pz0 w K mg base dX k fI fdI ps sp) (bI:Binds K fdI ps [])
  (hr:X3 (k+1) (gw (iW Pz0 w) Pz0 w K mg base N qual scope f cd A outer s0 H0 E).A)
  (hg:Gl (gw (iW Pz0 w) Pz0 w K mg base N qual scope f cd A outer s0 H0 E) x) (hm:mg x=lD (.ref C)) (ha:PA (gw (iW Pz0 w) Pz0 w K mg base N qual scope f cd A outer s0 H0 E) (e0::es) ta)
  (J:(x==("__debug__":Str))=VO:=by decide)
  (Y:We (e0::es) (gw (iW Pz0 w) Pz0 w K mg base N qual scope f cd A outer s0 H0 E).env=(VO,eval e0 (gw (iW Pz0 w) Pz0 w K mg base N qual scope f cd A outer s0 H0 E).env)::We es (gw (iW Pz0 w) Pz0 w K mg base N qual scope f cd A outer s0 H0 E).env:=by rfl)
  (F:(backTo YD (We es (gw (iW Pz0 w) Pz0 w K mg base N qual scope f cd A outer s0 H0 E).env)).any (·.1)=VO:=by rfl):
  PS (gw (iW Pz0 w) Pz0 w K mg base N qual scope f cd A outer s0 H0 E) (.Raise (lD (.Call (.Name x np) (e0::es) [] YD)) Vt pos) (DQ C sp E ta):=by
 intro l s σ H D I h;let(nm,qn,Nn,bs,sn,sub,ab,col,dd,k0,k1,k2,k3,k5,S,W6,G):=c.obj;let a:=I.ok.mod.kin;let oC:=a _ _ S;let R:=Heap.Ns.of_isNs (PySem.W.isNs_of_in a W6);let ni:=Bw a R G;let oF:=a _ _ U;let T:=adK a (Af c.base);show AF (nm:=nm) (q:=qn) (N:=Nn) (bs:=bs) (hdct:=Vx) (sn:=sn) (sub:=sub) (ab:=ab) (col:=col) (dd:=dd) (k0:=k0) (k1:=k1) (k2:=k2) (k3:=k3) (k5:=k5) Yo (by left) Yo (T.hasType Yo.hasBase) (I.ok.hd W)
  (by rw[Y];show(aad _).trans F) ni (QW d U) (ng I hg hm #[W,?_] J)
 let go:=ha YD l s σ H _ I h;rw[Y]at go⊢;show Calls.evalArgs_plain (cR go λg j #[vs,H1,i,r,hl,q]=>?_);show#[W,by rw[<-r.length];show hl,i.bk _ _ oC,R.keeps i.bk,i.bk _ _ oF,T.keeps i.bk,λh' e m=>?_];let(t,y,y2,y3):=m.there;let hn:=A5 i.W6 m.new;let X:=q e hn;let M:=NK (t':=j.toks) (o:=.ext (Nx C e)) i m.keeps m.new #[#[_,t,y,W,W],#[_,y],λh1 h2 #[f1,t1,z1,z2,z3] hk=>#[f1,t1,hk _ z1,z2,z3]];let Q:Vals (V.ref e::(vs++[])) (Vu.ref e::(g++[])):=.cons W (r.append .nil);let n:(Vu.ref e::g++[]).length=ps.length:=by let z:=Q.length;rw[FI.len _ _ _ _ X]at z;show z.symm
 let old:s0.heap.get? e=Vt:=by
  cases z:s0.heap.get? e with
  |none=>rfl
  |some o=>let(o',O):=i.base.there e o z (λy=>nomatch y);rw[m.new]at O;ext O
 let bi:=bI {heap:=h',gens:=j.gens,drawn:=j.drawn,toks:=j.toks,os:=j.os} (Vu.ref e::g) M.kIn n;rw[afB]at bi;show aa4 (aa5 (FI.run _ (gw (iW Pz0 w) Pz0 w K mg base N qual scope f cd A outer s0 H0 E).stack _ _ #[Vu.ref e::g,[]] (Vu.ref e::(g++[])) _ _ E0 (hr.make C g []) (M.aho.make C g []) bi Q X) λr s' b=>?_);cases r with
 |error e=>show b.elim
 |ok fl=>
  cases fl with
  |ret u=>let(v,H',L,rv,ev,p,Z,q3):=M.after b;subst ev;let((fs,a0,g1,g2,g3),_,_):=(show ObjOk _ _ H' s'.heap e (.ext (Tk C e p))from L.W6 e _ Z);show#[rv,_,L.kIn _ _ S,g1,W,#[fs,W,g3],?_];show OE (hd:=Vt) (NO L Z) #[_,_,g1,W,W,W,g2,g3] old (λT z=>nomatch z) uv (λT z=>nomatch z) q3
  |next=>show False.elim b
  |brk=>show False.elim b
  |cont=>show False.elim b
end L9
namespace L9
open PySem PySem.Spec PySem.W PyProof.Rows L2 L3 L4
section
variable{Y:V8}{w:Wv}{A:Wl}{E:Vu->VG->Prop}{h:Heap}{g:Array aaT}{d:aeI}{t:Nat}{S:adA}{a C:VF}{o:Obj}{K:Vs}{Q:bg Obj}{X:Str}{v:Vu}
  {N L:Str} {J:VF} {z y:bb Vu} {u:Bool} {r:bb Str} {q:bb Vu} {p:Bool} {n:bg Bool} {m:bg VF} {l j i f e:bg Vu} {T:String}
end
def xD(C:M)(f:Str):Sp:=λa H Q _=>∃e v,a=[.ref e,v]/\Uo v/\H e=R (.ext (Nx C e))/\∀p,H p=U->p≠e->Q .XX (bL (bL H e (.ext (Tk C e p))) p (.xd [(f,v)]))
def SM:D->Bool
 |.none=>P
 |.int i=>decide (i.natAbs.log2<1920)
 |_=>VO
end L9
namespace L3
open PySem PySem.Spec PyProof.Rows L2
mutual
def UW:VD->Bool
 |.tuple ds=>Qn ds
 |.int _=>Vx
 |.str _=>Vx
 |.bool _=>Vx
 |.none=>Vx
 |_=>VO
def Qn:bb VD->Bool
 |[]=>Vx
 |d::r=>UW d&&Qn r
end
section
variable{K:Vs}{E:XK}{B:cH}{Y:Hp}{O Z:cH}{X:L2.St}{H T:Hp}{S:bt}
def MH(h:ZQ K H a xs)(l:H a=R (.lst b)):ZQ K (λ_=>U) a xs:=by
 rcases h with(h|⟨o,h⟩)|h
 .rw[l]at h;ext h
 .rw[l]at h;ext h
 .show .inr h
mutual
theorem Mq(f:∀b,O b->¬Z b->∃ys,H b=lD (.lst ys)):∀{v:V} {d:D},DV Z K H v d->UW d=Vx->DV O K H v d
 |_,_,.XX,_=>.XX
 |_,_,.bl b,_=>.bl b
 |_,_,.int i,_=>.int i
 |_,_,.str x,_=>.str x
 |_,_,.tup (a:=a) h hs,e=>.tup ⟨h.1,λz=>by
   by_cases y:Z a
   .exact h.2 y
   .obtain⟨ys,q⟩:=f a z y;exact MH h.1 q⟩ (zN f hs e)
 |_,_,.lst h hs,e=>by cases e
theorem zN(a:∀b,O b->¬Z b->∃ys,H b=lD (.lst ys)):∀{vs:bb V} {ds:bb D},Xx Z K H vs ds->Qn ds=Vx->Xx O K H vs ds
 |_,_,.nil,_=>.nil
 |_,_,.cons h hs,e=>by have f:=Bool.and_eq_true_iff.mp e;exact .cons (Mq a h f.1) (zN a hs f.2)
end
end
end L3
namespace PyProof.Rows
open PySem
section
variable{Y:V8}{w:Wv}{A:Wl}{E:Vu->VG->Prop}{s:VG}
def tH(b:h.get? a=R (seqObj "list" g.toArray n)):∃e,(sortedHeap h a g out).get? a=R (seqObj "list" out e):=by let f:=get?_update_seq b (λ_=> #v[]);show#[_,get?_update_seq (br _ (br _ f)) _]
theorem rR(f:b≠a)(e:h.get? b=R o):(sortedHeap h a g out).get? b=R o:=
 (cn _ _ (dr f)).trans (br _ (br _ ((cn _ _ (dr f)).trans e)))
def B1{l:M}{c:G Vu}{ns:G Int}{Q:Vu->VG->Prop}(j:s.heap.IsTuple l c.toArray)(v:IntsAre c ns)(i:c.length<64)
  (h:∀(a d:Heap) (out:Array Vu) (e:Nat) (f:G Int),(∀b o,s.heap.get? b=R o->a.get? b=R o)->d.get? a.objs.size=R (seqObj "list" out e)->(∀b o,a.get? b=R o->d.get? b=R o)->IntsAre out.toList f->f.Perm ns->f.Pairwise (·<=·)->Q (.ref a.objs.size) {s with heap:=d}):
  wpAny (model Y w) A (call (.builtin "sorted") [.ref l]) Q E s:=by
 let(o,p,u,n,t):=j;show Calls.call_function_entry kind_sorted plain_sorted entry_sorted (args_sorted1 _) (Ld (m:=checkCount "sorted" 1 1 _) (VH (Ld (wpAny_collect_seq l (.inr W) p u t (λa q=>Ld (amI ?_)) (by rw[VY,X5];ext)))));let g:(a.push (seqObj "list" c.toArray 0)).get? a.objs.size=R (seqObj "list" c.toArray 0):=cj _ W;show Ld (W4 (XG slot_list_sort #[_,g,W] entry_list_sort (list_sort_tree g v i λout f C B y=>#[_,W,VH #[_,W,?_]]) (args_list_sort _)));let(e,r):=tH (out:=out) g;show h a _ out e f q r (λb F z=>rR (Wc (bP z)) (br _ z)) C B y
end
end PyProof.Rows
namespace L9
open PySem PySem.Spec PyProof.Rows L2 L3
section
variable{K:Vs}{E:XK}
def xY:YM X (.builtin "sorted") (λxs H Q=>∃(p:M) (ns:bb Int),xs=[.ref p]/\ZQ X.K H p (ns.map V.int)/\ns.length<64/\∀(l:M) (a:bb Int),H l=U->a.Perm ns->a.Pairwise (·<=·)->Q (.ref l) (bL H l (.lst (a.map V.int)))):=by
 intro i s B H xs C Q I r h;let(p,ns,rfl,t,z,q):=h;let(u,rfl,n):=lO r;ext n;let(J,L,pl,F):=I.tuple t;let v:=L.length;rw[Vw]at v;show B1 pl (kM L) () λA G f e a w y g N j o=>?_;let b:=j.length_eq;let m:=I.kept (t':=s.toks) w;show#[.ref A.objs.size,_,m.laid g (VP _) ?_,W,q _ a (m.W6.fresh (VP _)) j o];show#[?_,f.toList,e,kA N,y];rw[Vw,b];let:(64:Nat)<=VT:=by decide
 ext
theorem xS:YM X (.builtin "sorted") (λxs H Q=>(∃(p:M) (ns:G Int),xs=[.ref p]/\SqL X.K H p (ns.map V.int)/\ns.length<64/\∀(l:M) (a:G Int),H l=U->a.Perm ns->a.Pairwise (·<=·)->Q (.ref l) (bL H l (.lst (a.map V.int))))\/
  (∃(p:M) (ns:G Int),xs=[.ref p]/\ZQ X.K H p (ns.map V.int)/\ns.length<64/\∀(l:M) (a:G Int),H l=U->a.Perm ns->a.Pairwise (·<=·)->Q (.ref l) (bL H l (.lst (a.map V.int))))):=L2.YM.or zw xY
def iZ:G D->I RV
 |[.tuple ds]=>(match lW ds with
  |some a=>if a.length<64 then R (.ow ((mv a).map .int))else U
  |none=>U)
 |ds=>xN ds
def CS:HI K (λxs H Q=>(∃(p:M) (ns:G Int),xs=[.ref p]/\SqL K H p (ns.map V.int)/\ns.length<64/\∀(l:M) (b:G Int),H l=U->b.Perm ns->b.Pairwise (·<=·)->Q (.ref l) (bL H l (.lst (b.map V.int))))\/
  (∃(p:M) (ns:G Int),xs=[.ref p]/\ZQ K H p (ns.map V.int)/\ns.length<64/\∀(l:M) (b:G Int),H l=U->b.Perm ns->b.Pairwise (·<=·)->Q (.ref l) (bL H l (.lst (b.map V.int))))) iZ:=by
 intro O H xs ds u Q n g e q;unfold iZ at e;split at e
 .split at e
  .rename_i ns i
   split at e
   .rename_i v
    ext e;cases g with
    |cons o m=>ext m;let(a,w,rfl,h,r):=EL o;rw[nV r i]at h;show .inr #[a,ns,W,h.1,v,λl b j f d5=>?_];let t:=nQ (f.trans (gj ns).symm) d5 (fH ns);subst t;show q.new (vp _) l j
   .ext e
  .ext e
 .show .inl (wX O H xs ds u Q n g e q)
end
end L9
namespace L9
open PySem PySem.W PyProof.Rows Builtin Builtin.ObjectAttr
open PySem.Spec L2
open L3 L4
def QX:D->I RV
 |.tuple ds=>R (.fz (.tuple ds.reverse))
 |_=>U
theorem DZ{K:Vs}{O:cH}{H:Hp}:∀{a:G V} {ds:G D},Xx O K H a ds->Xx O K H a.reverse ds.reverse
 |_,_,.nil=>.nil
 |_,_,.cons h t=>by rw[XH,XH];show(DZ t).append (.cons h .nil)
def RL{K:Vs}{E:XK}{h:TE}{c:FE}(k:EO K E h c):EO K E (SK K h (Hz (Us (rU λi=>.int (-i)) (tC (.int 1))))) (DU QX c):=by
 intro B z O j H J Q R w;show k B z O j H J _ R (w.bind.imp λa e A x C r g n=>?_);let(d,l,e):=e.WN;let(S,f,e):=e.WN;let N:=oB g n l;unfold QX at f;split at f
 .ext f;let(b,L,rfl,p,o):=EL N;show#[1,W,-1,W,W,b,L,W,p.1,?_];show Fin.aeG (DZ o) g.od (mF (rv:=.fz (.tuple _)) g λu v y q t m=>e u v y (r.trans q) t m)
 .ext f
end L9
namespace LD
open PySem PyProof.Rows L2 L3
mutual
def kd:VD->Bool
 |.none=>Vx
 |.int _=>Vx
 |.str x=>VD.strOk x
 |.tuple xs=>kds xs
 |_=>VO
def kds:bb VD->Bool
 |[]=>Vx
 |x::r=>kd x&&kds r
end
def keyD:VD->Bool
 |.tuple xs=>kds xs&&decide ((VD.tuple xs).depth<=8)
 |_=>VO
mutual
theorem kd_lay:∀d:VD,kd d=Vx->d.canLay0=Vx
 |.none,_=>rfl
 |.int _,_=>rfl
 |.str x,h=>by unfold VD.canLay0;unfold kd at h;exact h
 |.tuple xs,h=>by unfold VD.canLay0;unfold kd at h;exact Ep xs h
 |.bool _,h|.list _,h|.dict _,h=>by simp[kd]at h
theorem Ep:∀xs:bb VD,kds xs=Vx->VD.canLayAll0 xs=Vx
 |[],_=>rfl
 |x::r,h=>by unfold kds at h;rw[V9]at h;unfold VD.canLayAll0;rw[kd_lay x h.1,Ep r h.2];rfl
end
mutual
theorem kd_eqv:∀d e:VD,kd d=Vx->kd e=Vx->VD.eqv d e=Vx->d=e
 |.none,e,_,h,q=>by cases e<;>simp_all [kd,VD.eqv]
 |.int i,e,_,h,q=>by cases e<;>simp_all [kd,VD.eqv]
 |.str x,e,_,h,q=>by cases e<;>simp_all [kd,VD.eqv]
 |.tuple xs,e,g,h,q=>by
  cases e with
  |tuple a=>rw[VD.eqv]at q;unfold kd at g h;rw[kds_eqv xs a g h q]
  |_=>simp_all [kd,VD.eqv]
 |.bool _,_,h,_,_|.list _,_,h,_,_|.dict _,_,h,_,_=>by simp[kd]at h
theorem kds_eqv:∀xs ys:bb VD,kds xs=Vx->kds ys=Vx->VD.eqvAll xs ys=Vx->xs=ys
 |[],[],_,_,_=>rfl
 |[],_::_,_,_,q=>by simp[VD.eqvAll]at q
 |_::_,[],_,_,q=>by simp[VD.eqvAll]at q
 |x::xs,y::ys,g,h,q=>by unfold kds at g h;rw[VD.eqvAll]at q;rw[V9]at g h q;rw[kd_eqv x y g.1 h.1 q.1,kds_eqv xs ys g.2 h.2 q.2]
end
def Iv[Decidable (d=e)](hd:kd d=P)(a:kd e=P):VD.eqv d e=decide (d=e):=by
 by_cases q:d=e
 .subst q;rw[aE W];show SeqAt.eqv_refl d (kd_lay d hd)
 .rw[aP q]
  cases z:VD.eqv d e with
  |false=>rfl
  |true=>show a5 (kd_eqv d e hd a z) q
def keyD_kd(h:keyD d=P):kd d=P/\d.depth<=8:=by
 cases d with
 |tuple xs=>unfold keyD at h;rw[V9]at h;show#[by ext kd;show h.1,a4 h.2]
 |_=>simp[keyD]at h
mutual
def uH(w:Wv):VD->Int
 |.none=>reduceHash 0xFCA86420
 |.int i=>hashInt i
 |.str x=>hashStr w x
 |.tuple xs=>reduceHash (Builtin.Tuple.tupleHashOf (uS w xs))
 |_=>0
def uS(w:Wv):bb VD->bb Int
 |[]=>[]
 |x::r=>uH w x::uS w r
end
mutual
def Ud:VD->Nat
 |.tuple xs=>Nf xs+1
 |_=>1
def Nf:bb VD->Nat
 |[]=>0
 |x::r=>Ud x+Nf r
end
section
variable{prog:V8}{w:Wv}{E:Vu->VG->Prop}
mutual
theorem Dt:∀(d:VD) (v:Vu) (f:bb VF) (A:Wl) (s:VG) (Q:Int->VG->Prop),kd d=Vx->afS s.heap v d f->A.units+d.depth<cLine->Q (uH w d) {s with toks:=s.toks+Ud d}->wpAny (model prog w) A (pyHash v) Q E s
 |.none,_,_,A,s,Q,_,r,hu,h=>by cases r;exact adB (T:= "NoneType") rfl F.slot_NoneType_hash F.entry_NoneType_hash (F.args_NoneType_hash_1 _) (aif _) (.inr (by ext)) (Ld (VH (Ld (afU (VH ⟨_,_,rfl,h⟩)))))
 |.int i,_,_,A,s,Q,_,r,_,h=>by cases r;exact ahZ h
 |.str x,_,_,A,s,Q,_,r,_,h=>by cases r;exact ah0 h
 |.tuple xs,_,_,A,s,Q,hk,r,hu,h=>by
  cases r with
  | @tuple a o vs n _ _ h1 h2 h3 h4=>
   refine adB (T:= "tuple") ⟨_,h1,h2⟩ F.slot_tuple_hash F.entry_tuple_hash (F.args_tuple_hash_1 _) (aif _) (.inr (by ext)) ?_;show wpAny _ _ (Builtin.Tuple.tupleItemsOf (.ref a)>>=_) _ _ s;refine Ld (wpAny_tupleItemsOf h1 h3 ?_);refine Ld ?_;rw[<-aet];unfold kd at hk;refine v9 xs vs.toList _ A.in1 s #v[] _ hk h4 (by simp only[VD.depth,Wl.in1_units]at hu⊢;ext) λb e=>?_;show wpAny _ _ (retInt (Builtin.Tuple.tupleHashOf b.toList)) _ _ _;rw[e];refine Ld (afU (VH ⟨_,_,rfl,?_⟩));unfold uH Ud at h
   simpa [XA]using h
 |.bool _,_,_,_,_,_,h,_,_,_|.list _,_,_,_,_,_,h,_,_,_|.dict _,_,_,_,_,_,h,_,_,_=>by simp[kd]at h
theorem v9:∀(xs:bb VD) (vs:bb Vu) (g:bb VF) (A:Wl) (s:VG) (b:Array Int) (Q:Array Int->VG->Prop),kds xs=Vx->adI s.heap vs xs g->A.units+VD.depthAll xs<cLine->
  (∀b':Array Int,b'.toList=b.toList++uS w xs->Q b' {s with toks:=s.toks+Nf xs})->
  wpAny (model prog w) A (forIn vs b λx r=>do let h<-pyHash x;pure PUnit.unit;pure (ForInStep.yield (r.push h))) Q E s
 |[],_,_,A,s,b,Q,_,x,_,h=>by cases x;exact VH (h b (by simp[uS]))
 |k::xs,_,_,A,s,b,Q,hk,x,hu,h=>by
  cases x with
  |cons e a=>
   unfold kds at hk;simp only[V9,VD.depthAll]at hk hu;rw[aaz];refine Ld (Ld (Dt k _ _ A s _ hk.1 e (by ext) ?_));refine Ld (VH (VH ?_));refine v9 xs _ _ A _ _ Q hk.2 a (by ext) λb' f=>?_;have:=h b' (by simp[f,uS]);unfold Nf at this
   simpa [XA]using this
end
theorem Al:∀(n:Nat) (d:VD) (v:B) (j:G M) (A:Wl) (s:VG) (Q:Bool->VG->Prop),kd d=P->afS s.heap v d j->d.depth<=n->Q P s->wpAny (model prog w) A (eqIsQuiet n v) Q E s
 |n,.none,_,_,A,s,Q,_,r,_,h=>by ext r;rw[acA _ W];show VH h
 |n,.int i,_,_,A,s,Q,_,r,_,h=>by ext r;rw[acA _ W];show VH h
 |n,.str i,_,_,A,s,Q,_,r,_,h=>by ext r;rw[acA _ W];show VH h
 |0,.tuple xs,_,_,A,s,Q,C,r,z,h=>by simp only[VD.depth]at z;ext
 |n+1,.tuple xs,_,_,A,s,Q,C,r,z,h=>by
  cases r with
  | @tuple a o Y m _ _ J X T S=>
   let g:s.TypeIs (.ref a) "tuple":=#[_,J,X];simp only[VD.depth]at z;ext eqIsQuiet;show Ld (abj g F.slot_tuple_eq.lookup ?_);show Ld (aaV g isSubtype_tuple_tuple ?_);simp only[ac8,Yg,if_false];show Ld (Xh J T ?_);show Ld ?_;rw[<-aet];unfold kd at C;show wpAny_forIn_list _ (λb r e=>r.1=U/\e=s/\∃q bs,kds q=P/\adI s.heap b q bs/\VD.depthAll q<=n) _ ?_ ?_ _ _ #[W,W,xs,_,C,S,by ext]
   .rintro v b r e ⟨f,rfl,q,bs,t,N,L⟩
    cases N with
    | @cons _ _ y u _ _ g1 g2=>unfold kds at t;simp only[V9,VD.depthAll]at t L;show Ld (Al n y v _ A e _ t.1 g1 () ?_);simp only[ac8,Yg,if_false];show VH #[W,W,u,_,t.2,g2,by ext]
   .rintro⟨p,l⟩ e ⟨f,rfl,_⟩;simp only at f;subst f;show VH h
 |_,.bool _,_,_,_,_,_,h,_,_,_|_,.list _,_,_,_,_,_,h,_,_,_|_,.dict _,_,_,_,_,_,h,_,_,_=>by simp[kd]at h
end
mutual
theorem wa{h h':Heap}{x:VF}{e:Obj}{es:Array Zb}{l:Nat}(f:h.get? x=lD e)(i:e.data=.dict es l)(g:Heap.SameBut x h h'):∀(d:VD) (v:Vu) (j:bb VF),kd d=Vx->afS h v d j->afS h' v d j
 |.none,_,_,_,r=>by cases r;exact .none
 |.int _,_,_,_,r=>by cases r;exact .int _ _
 |.str _,_,_,_,r=>by cases r;exact .str _ _
 |.tuple xs,_,_,k,r=>by
  cases r with
  | @tuple a o vs n _ _ h1 h2 h3 h4=>
   have b:a≠x:=by rintro rfl;rw[f]at h1;cases h1;rw[i]at h3;exact nomatch h3
   unfold kd at k;exact .tuple ((g.2 a b).trans h1) h2 h3 (uF f i g xs _ _ k h4)
 |.bool _,_,_,h,_|.list _,_,_,h,_|.dict _,_,_,h,_=>by simp[kd]at h
theorem uF{h h':Heap}{x:VF}{a:Obj}{es:Array Zb}{l:Nat}(b:h.get? x=lD a)(f:a.data=.dict es l)(e:Heap.SameBut x h h'):∀(ds:bb VD) (vs:bb Vu) (g:bb VF),kds ds=Vx->adI h vs ds g->adI h' vs ds g
 |[],_,_,_,r=>by cases r;exact .nil
 |d::ds,_,_,k,r=>by
  cases r with
  |cons j i=>unfold kds at k;rw[V9]at k;exact .cons (wa b f e d _ _ k.1 j) (uF b f e ds _ _ k.2 i)
end
abbrev KD:={d:VD//keyD d=P}
noncomputable instance kdDec:DecidableEq KD:=λ_ _=>Classical.propDecidable _
def jq(prog:V8)(w:Wv):akC prog w KD where
 is:=λh k a=>∃as,afS h (.ref a) k.1 as
 hash:=λk=>uH w k.1
 draws:=λk=>Ud k.1
 room:=λA=>A.units+8<cLine
 inj:=λ#[_,r] #[_,f]=>Subtype.ext (afS.unique r _ _ f).1
 keeps:=λ{h l k a d o m n} #[as,r] j hd i=>#[as,wa j hd i k.1 _ _ (keyD_kd k.2).1 r]
 pyHash:=λ{A E s k a Q} g #[as,r] q=>Dt k.1 _ as A s Q (keyD_kd k.2).1 r (by let:=(keyD_kd k.2).2;ext) q
 eqBool:=λ{A E s x y a b Q} g #[as,r] #[bs,f] q=>SeqAt.eqAt_reads x.1 y.1 A s _ _ as bs r f (kd_lay _ (keyD_kd x.2).1) (kd_lay _ (keyD_kd y.2).1) (by let:=(keyD_kd x.2).2;ext) prog w E Q (by
  haveI:Decidable (x.1=y.1):=Classical.propDecidable _
  rw[Iv (keyD_kd x.2).1 (keyD_kd y.2).1];by_cases e:x=y
  .rw[aE e]at q;rw[aE (dP Subtype.val e)];show q
  .rw[aP e]at q;rw[aP λz=>e (Subtype.ext z)];show q)
 quiet:=λ{A E s k a Q} #[as,r] q=>Al 8 k.1 _ as A s Q (keyD_kd k.2).1 r (keyD_kd k.2).2 q
def Vb(a:M)(xs:G (KD×M×V))(w:Wv)(h:Heap):Prop:=
 (xs.length<=VT/\(a==Xj)=VO/\(xs.map (·.1)).Nodup)/\∃o b f,h.get? a=R o/\o.ExactDict/\o.data=.dict b f/\Paired (λ(x:KD×M×V) (e:Zb)=>e.hash=uH w x.1.1/\e.key=.ref x.2.1/\RelV x.2.2 e.val) xs b.toList
abbrev DkO(a:M)(xs:G (KD×M×V)):HO:=.exw (Vb a xs)
abbrev PrD(O:cH)(K:Vs)(H:Hp):G (KD×M×V)->G (D×D)->Prop:=
 Paired λx a=>x.1.1=a.1/\L3.DV O K H (.ref x.2.1) a.1/\L3.DV O K H x.2.2 a.2
end LD
namespace L10
open PySem L2 L3
inductive AV where
 |fz (d:D)
 |rf (i:Nat)
inductive SV where
 |fz (d:D)
 |rf (i:Nat)
 |tp (l:G AV)
def AV.sv:AV->SV
 |.fz d=>.fz d
 |.rf i=>.rf i
inductive Cell where
 |lst (xs:G SV)
 |dct (Wf:G (c9×SV))
 |obj (C:Str) (fs:G (Str×SV))
 |dd (Wf:G (D×D))
 |dead
abbrev bp:=G Cell
abbrev bz:=G (I SV)
inductive RS(α:Type) where
 |ok (a:α) (Z:bp)
 |er (x:Xc) (Z:bp)
 |bad
def RS.bind(r:RS α)(f:α->bp->RS β):RS β:=match r with
 |.ok a Z=>f a Z
 |.er x Z=>.er x Z
 |.bad=>.bad
def RS.WN(Z:bp):I α->RS α
 |some a=>.ok a Z
 |none=>.bad
theorem RS.bind_ok(a:α)(Z:bp)(f:α->bp->RS β):(RS.ok a Z).bind f=f a Z:=W
abbrev eh:=@RS.bind_ok
def Lv(α:G M)(Z:bp):cH:=λb=>∃(i:Nat) (c:Cell),α[i]?=R b/\Z[i]?=R c/\c≠Cell.dead
def ow(B:cH)(α:G M)(Z:bp):cH:=λb=>B b\/Lv α Z b
section
variable(O:cH)(K:Vs)(H:Hp)(Z:bb VF)
def AOk(v:V):AV->Prop
 |.fz d=>DV O K H v d
 |.rf i=>∃a,Z[i]?=R a/\v=.ref a
def YX(v:V):SV->Prop
 |.fz d=>DV O K H v d
 |.rf i=>∃a,Z[i]?=R a/\v=.ref a
 |.tp l=>∃a xs,v=.ref a/\aaI O K H a xs/\Paired (AOk O K H Z) xs l
abbrev Yx:G V->G SV->Prop:=Paired (YX O K H Z)
def COk(a:M):Cell->Prop
 |.lst xs=>∃e,H a=R (.lst e)/\Yx O K H Z e xs
 |.dct b=>∃ws:G (c9×V),H a=R (.dK ws)/\Paired (λ(p:c9×V) (q:c9×SV)=>p.1=q.1/\YX O K H Z p.2 q.2) ws b
 |.obj C fs=>∃f g ws,Wb K V3 C=R (R (.ref f))/\H a=R (.ins f g ws)/\Paired (λ(p:Str×V) (q:Str×SV)=>p.1=q.1/\YX O K H Z p.2 q.2) ws fs
 |.dd b=>∃xs,H a=R (LD.DkO a xs)/\LD.PrD O K H xs b
 |.dead=>True
def YJ(a:L2.St)(b:bz):Prop:=a.length=b.length/\∀(i:Nat) (x:SV),b[i]?=R (R x)->∃v,a[i]?=R (R v)/\YX O K H Z v x
end
structure Ws(B:cH)(K:Vs)(H:Hp)(α:G M)(Z:bp):Prop where
 len:α.length=Z.length
 nd:∀(i j:Nat) (a:M),α[i]?=R a->α[j]?=R a->i=j
 bn:∀a,B a->H a≠U
 ba:∀a,B a->∀i:Nat,α[i]?≠R a
 al:∀(i:Nat) (a:M),α[i]?=R a->H a≠U
 cel:∀(i:Nat) (a:M) (c:Cell),α[i]?=R a->Z[i]?=R c->COk (ow B α Z) K H α a c
structure XQ(α:G M)(Z:bp)(H:Hp)(α':G M)(Z':bp)(H':Hp):Prop where
 pre:∀(i:Nat) (a:M),α[i]?=R a->α'[i]?=R a
 kp:∀b o,H b=R o->¬Lv α Z b->H' b=R o
 lv:∀b,Lv α' Z' b->Lv α Z b\/H b=U
section
variable{B O Q:cH}{K:Vs}{E:XK}{H L R N:Hp}{Y X U S:bb VF}{Z T J M:bp}{t:L2.St}{ρ:bz}{v:V}
theorem XQ.refl:XQ Y Z H Y Z H:=#[λ_ _ h=>h,λ_ _ h _=>h,λ_ h=>.inl h]
def XQ.trans(a:XQ Y Z H U J R)(b:XQ U J R S M N):XQ Y Z H S M N:=by
 let e:∀b o,H b=lD o->¬Lv Y Z b->¬Lv U J b:=λb o h n z=>(a.lv b z).elim n λq=>by rw[h]at q;ext q
 show#[λi p h=>b.pre i p (a.pre i p h),λp o h n=>b.kp p o (a.kp p o h n) (e p o h n),λp h=>?_];rcases b.lv p h with h|h
 .show a.lv p h
 .cases q:H p with
  |none=>show .inr W
  |some o=>show .inl (Classical.byContradiction λn=>?_);rw[a.kp p o q n]at h;ext h
theorem XQ.same(s:XM H L):XQ Y Z H Y Z L:=#[λ_ _ h=>h,λb o h _=>s b o h,λ_ h=>.inl h]
theorem XQ.ev(e:XQ Y Z H X T L):Ev (ow B Y Z) H (ow B X T) L:=λb o h n=>
 #[e.kp b o h λz=>n (.inr z),λz=>z.elim (λq=>n (.inl q)) λq=>(e.lv b q).elim (λq=>n (.inr q)) λq=>by rw[h]at q;ext q]
def AOk.ev(e:Ev O H Q L)(p:∀(i:Nat) (a:VF),Y[i]?=lD a->X[i]?=lD a)(h:AOk O K H Y v x):AOk Q K L X v x:=by
 cases x with
 |fz d=>show DV.ev e h
 |rf i=>let(a,f,b):=h;show#[a,p i a f,b]
def YX.ev(e:Ev O H Q L)(p:∀(i:Nat) (a:VF),Y[i]?=lD a->X[i]?=lD a)(h:YX O K H Y v x):YX Q K L X v x:=by
 cases x with
 |fz d=>show DV.ev e h
 |rf i=>let(a,f,b):=h;show#[a,p i a f,b]
 |tp l=>let(a,xs,f,b,g):=h;show#[a,xs,f,b.ev e,Paired.ZR g λ_ _ q=>q.ev e p]
theorem YX.Yh(e:XQ Y Z H X T L)(h:YX (ow B Y Z) K H Y v x):YX (ow B X T) K L X v x:=h.ev e.ev e.pre
theorem Yx.Yh(e:XQ Y Z H X T L)(h:Yx (ow B Y Z) K H Y vs xs):Yx (ow B X T) K L X vs xs:=Paired.ZR h λ_ _ q=>q.Yh e
theorem YJ.Yh(e:XQ Y Z H X T L)(h:YJ (ow B Y Z) K H Y t ρ):YJ (ow B X T) K L X t ρ:=#[h.1,λi x q=>let#[v,b,a]:=h.2 i x q;#[v,b,a.Yh e]]
def COk.ev(e:Ev O H Q L)(p:∀(i:Nat) (a:VF),Y[i]?=lD a->X[i]?=lD a)(d:∀o,H a=lD o->L a=lD o)(h:COk O K H Y a c):COk Q K L X a c:=by
 cases c with
 |lst xs=>let(l,f,b):=h;show#[l,d _ f,Paired.ZR b λ_ _ q=>q.ev e p]
 |dct n=>let(ws,f,b):=h;show#[ws,d _ f,Paired.ZR b λ_ _ q=>#[q.1,q.2.ev e p]]
 |obj C fs=>let(j,m,ws,g,f,b):=h;show#[j,m,ws,g,d _ f,Paired.ZR b λ_ _ q=>#[q.1,q.2.ev e p]]
 |dd n=>let(xs,f,b):=h;show#[xs,d _ f,Paired.ZR b λ_ _ q=>#[q.1,q.2.1.ev e,q.2.2.ev e]]
 |dead=>trivial
theorem Ws.noO(s:Ws B K H Y Z):p7 (ow B Y Z) H:=λa h z=>z.elim (λq=>s.bn a q h) λ#[i,c,q,_]=>s.al i a q h
theorem Ws.owd(s:Ws B K H Y Z):∀a,ow B Y Z a->H a≠Vt:=λa z h=>s.noO a h z
def Ws.grow(s:Ws B K H Y Z)(e:XM H L):Ws B K L Y Z:=by let n:∀a,H a≠Vt->L a≠Vt:=λa h z=>h (e.free z);show#[s.len,s.nd,λa h=>n a (s.bn a h),s.ba,λi a h=>n a (s.al i a h),λi a c f b=>(s.cel i a c f b).ev (Ev.grow e) (λ_ _ h=>h) λo h=>e _ _ h]
def Ws.at(s:Ws B K H Y Z){i:Nat}(h:Z[i]?=lD c):∃a,Y[i]?=lD a:=by let:i<Z.length:=(Vv.mp h).1;rw[<-s.len]at this;show#[_,Vz this]
theorem Ws.af0(s:Ws B K H Y Z){i:Nat}(h:Y[i]?=lD a):¬B a:=λz=>s.ba a z i h
def BF{i:Nat}{c m:Cell}(h:Z[i]?=lD c)(n:c≠.dead)(g:m≠.dead){b:VF}:Lv Y (Z.set i m) b↔Lv Y Z b:=by
 constructor
 .rintro⟨j,d,f,a,l⟩
  rcases cP a with⟨rfl,rfl⟩|⟨_,a⟩
  .show#[j,c,f,h,n]
  .show#[j,d,f,a,l]
 .rintro⟨j,d,f,a,l⟩
  by_cases e:j=i
  .subst e;show#[j,m,f,by rw[WE (Vv.mp h).1],g]
  .show#[j,d,f,by rw[WB (λz=>e z.symm)];show a,l]
def QO(h:Z[i]?=lD c)(e:c≠.dead)(a:f≠.dead):ow B Y (Z.set i f)=ow B Y Z:=by funext b;show propext #[λz=>z.imp id (BF h e a).mp,λz=>z.imp id (BF h e a).mpr]
theorem XQ.put(d:Y[i]?=lD a)(h:Z[i]?=lD c)(g:c≠.dead)(f:c'≠.dead):XQ Y Z H Y (Z.set i c') (bL H a o):=
 #[λ_ _ h=>h,λb j q n=>by let z:b≠a:=λe=>n #[i,c,by rw[e];show d,h,g];rw[aF z];show q,λb z=>.inl ((BF h g f).mp z)]
def Ws.put(s:Ws B K H Y Z)(k:Y[i]?=lD a)(h:Z[i]?=lD c)(p:c≠.dead)(f:c'≠.dead)(new:COk (ow B Y Z) K (bL H a o) Y a c'):Ws B K (bL H a o) Y (Z.set i c'):=by
 let e:XQ Y Z H Y (Z.set i c') (bL H a o):=XQ.put k h p f;let n:∀b,H b≠Vt->bL H a o b≠Vt:=λb h=>by
  by_cases z:b=a
  .subst z;rw[aX];simp
  .rw[aF z];show h
 show#[by rw[WL];show s.len,s.nd,λb h=>n b (s.bn b h),s.ba,λj b h=>n b (s.al j b h),λj b d g m=>?_];rcases cP m with⟨rfl,rfl⟩|⟨l,m⟩
 .rw[k]at g;ext g;rw[QO h p f];show new
 .show(s.cel j b d g m).ev e.ev e.pre λu q=>by rw[aF (λz=>l (s.nd j i a (by rw[<-z];show g) k))];show q
theorem rK{i:Nat}{a:VF}{c:Cell}{o:HO}(d:Y[i]?=lD a)(h:Z[i]?=lD c)(b:c≠.dead):Ev (ow B Y Z) H (ow B Y Z) (bL H a o):=Ev.mut (.inr #[i,c,d,h,b]) o
def cK{Y:Type}{l:G Y}{x y:Y}{i:Nat}(h:(l++[x])[i]?=lD y):l[i]?=lD y\/(i=l.length/\y=x):=by
 by_cases hi:i<l.length
 .rw[VQ hi]at h;show .inl h
 .rw[Wk ()]at h
  cases q:i - l.length with
  |zero=>rw[q]at h;ext h;show .inr #[by ext,W]
  |succ n=>rw[q]at h;ext h
def jp{Y:Type}{l:G Y}{x y:Y}{i:Nat}(h:l[i]?=lD y):(l++[x])[i]?=lD y:=by rw[VQ (Vv.mp h).1];show h
def aQ:(l++[x])[l.length]?=lD x:=by simp
def w6(g:Y.length=Z.length)(h:Lv (Y++[p]) (Z++[c]) b):Lv Y Z b\/b=p:=by
 let(i,d,a,e,f):=h;rcases cK a with a|⟨l,j⟩
 .rcases cK e with e|⟨l,j⟩
  .show .inl #[i,d,a,e,f]
  .let:=(Vv.mp a).1;ext
 .show .inr j
theorem XQ.acD(g:Y.length=Z.length)(s:XM H L)(f:H p=Vt):XQ Y Z H (Y++[p]) (Z++[c]) L:=
 #[λi a h=>jp h,λb u q _=>s b u q,λb z=>(w6 g z).imp id λe=>by rw[e];show f]
def Ws.acD(s:Ws B K H Y Z)(e:XM H L)(l:H p=Vt)(m:L p≠Vt)(new:COk (ow B (Y++[p]) (Z++[c])) K L (Y++[p]) p c):Ws B K L (Y++[p]) (Z++[c]):=by
 let ev:XQ Y Z H (Y++[p]) (Z++[c]) L:=XQ.acD s.len e l;let n:∀b,H b≠Vt->L b≠Vt:=λb h z=>h (e.free z);show#[by rw[Vy,Vy,s.len];rfl,λi j a f g=>?_,λa h=>n a (s.bn a h),λa h i q=>?_,λi a h=>?_,λi a d f g=>?_]
 .rcases cK f with g1|⟨y,r⟩<;>rcases cK g with g2|⟨u,A⟩
  .show s.nd i j a g1 g2
  .show a5 (by rw[A];show l) (s.al i a g1)
  .show a5 (by rw[r];show l) (s.al j a g2)
  .omega
 .rcases cK q with q|⟨_,r⟩
  .show s.ba a h i q
  .subst r;show s.bn a h l
 .rcases cK h with h|⟨_,r⟩
  .show n a (s.al i a h)
  .subst r;show m
 .rcases cK g with g|⟨y,r⟩
  .rcases cK f with f|⟨y,_⟩
   .show(s.cel i a d f g).ev ev.ev ev.pre λo q=>e _ _ q
   .let:=(Vv.mp g).1;let:=s.len;ext
  .rcases cK f with f|⟨_,u⟩
   .let:=(Vv.mp f).1;let:=s.len;ext
   .subst r u;show new
def WS(K:Vs)(E:XK)(B:cH)(H:Hp)(Y:G VF)(Z:bp)(P:A->G VF->bp->Hp->Prop):RS A->Prop
 |.ok a T=>∀X L,XQ Y Z H X T L->Ws B K L X T->P a X T L
 |.er x T=>∀c b X L,XQ Y Z H X T L->Ws B K L X T->XOk K (ow B X T) L c b x->E c b L
 |.bad=>False
def WS.from(e:XQ Y Z H U J R)(h:WS K E B H Y Z g r):WS K E B R U J g r:=by
 cases r with
 |ok a M=>show λS N f b=>h S N (e.trans f) b
 |er x M=>show λc i S N f b=>h c i S N (e.trans f) b
 |bad=>show h
def WS.bind(h:WS K E B H Y Z e (r.bind k)):WS K E B H Y Z (λa U J R=>WS K E B R U J e (k a J)) r:=by
 cases r with
 |ok a J=>show λU R b _=>WS.from b h
 |er x J=>show h
 |bad=>show h
def WS.WN(h:WS K E B H Y Z b ((RS.WN Z o).bind k)):∃a,o=lD a/\WS K E B H Y Z b (k a Z):=by
 cases o with
 |none=>show h.elim
 |some a=>show#[a,W,h]
def WS.imp(h:WS K E B H Y Z f r)(g:∀a X T L,XQ Y Z H X T L->Ws B K L X T->f a X T L->P' a X T L):WS K E B H Y Z P' r:=by
 cases r with
 |ok a J=>show λU R e b=>g a U J R e b (h U R e b)
 |er x J=>show h
 |bad=>show h
theorem WS.now(s:Ws B K H Y Z)(h:WS K E B H Y Z b (.ok a Z)):b a Y Z H:=h Y H .refl s
end
abbrev dM:=bz->bp->RS SV
abbrev vK:=bz->bp->RS Bool
abbrev xi:=bz->bp->RS (G SV)
def cY(K:Vs)(E:XK)(t:TE)(f:dM):Prop:=
 ∀(B:cH) (b:L2.St) (H:Hp) (α:G M) (Z:bp) (h:bz) (Q:VK),Ws B K H α Z->YJ (ow B α Z) K H α b h->WS K E B H α Z (λx a g e=>∀v,YX (ow B a g) K e a v x->Q v e) (f h Z)->t b H Q
def wI(K:Vs)(E:XK)(t:TT)(f:vK):Prop:=
 ∀(B:cH) (a:L2.St) (H:Hp) (α:G M) (Z:bp) (g:bz) (Q:Bool->Hp->Prop),Ws B K H α Z->YJ (ow B α Z) K H α a g->WS K E B H α Z (λb _ _ e=>Q b e) (f g Z)->t a H Q
def x8(K:Vs)(E:XK)(t:TA)(f:xi):Prop:=
 ∀(B:cH) (b:L2.St) (H:Hp) (α:G M) (Z:bp) (h:bz) (Q:G V->Hp->Prop),Ws B K H α Z->YJ (ow B α Z) K H α b h->WS K E B H α Z (λxs a g e=>∀i,Yx (ow B a g) K e a i xs->Q i e) (f h Z)->t b H Q
section
variable{B O M:cH}{K:Vs}{E:XK}{H H' T H2:Hp}{Y N X J:bb VF}{Z Z' Z1 P:bp}{U:L2.St}{ρ:bz}{v:V}
def Ps:I SV->I PV
 |some (.fz d)=>R (.fz d)
 |_=>Vt
def b9(ρ:bz):bt:=ρ.map Ps
def wo{i:Nat}(h:(b9 ρ)[i]?=R (R x)):∃d,x=.fz d/\ρ[i]?=R (R (.fz d)):=by
 unfold b9 at h;rw[VN]at h;cases q:ρ[i]? with
 |none=>rw[q]at h;ext h
 |some o=>
  rw[q]at h;let a:=VZ h;unfold Ps at a;split at a
  .ext a;show#[_,W,W]
  .ext a
def Ji(s:Ws B K H Y Z)(a:YJ (ow B Y Z) K H Y U ρ):Rl K (ow B Y Z) H (ow B Y Z) U H (b9 ρ):=by
 show#[XM.refl _,λ_ h=>h,s.owd,s.noO,by ext b9;rw[Vw];show a.1,λi x h=>?_,λi j ds l w h=>?_]
 .let(d,rfl,b):=wo h;let(v,g,f):=a.2 i _ b;show#[v,g,f]
 .let(d,e,_):=wo h;ext e
def my(Z:bp):RV->RS SV
 |.fz d=>.ok (.fz d) Z
 |.ow ds=>.ok (.rf Z.length) (Z++[.lst (ds.map .fz)])
abbrev PQ(B:cH)(K:Vs)(Q:VK):SV->G VF->bp->Hp->Prop:=λx N Z' H'=>∀v,YX (ow B N Z') K H' N v x->Q v H'
theorem mw(O:cH)(Y:G VF):∀{a:G V} {ds:G D},Xx O K H a ds->Yx O K H Y a (ds.map .fz)
 |_,_,.nil=>.nil
 |_,_,.cons h t=>.cons h (mw O Y t)
theorem KQ:∀{a:G V} {ds:G D},Yx O K H Y a (ds.map .fz)->Xx O K H a ds
 |_,[],.nil=>.nil
 |_,_::_,.cons h t=>.cons h (KQ t)
def u0(s:Ws B K H Y Z)(w:WS K E B H Y Z (PQ B K Q) (my Z (.ow ds)))(e:XM H H')(a:H p=Vt)(h:H' p=R (.lst i))(hd:Xx M K H' i ds)(f:∀b,ow B Y Z b->M b)(g:M p):Q (.ref p) H':=by
 let sub:∀b,ow B (Y++[p]) (Z++[.lst (ds.map .fz)]) b->M b:=λb z=>z.elim (λq=>f b (.inl q)) λq=>(w6 s.len q).elim (λq=>f b (.inr q)) λq=>by rw[q];show g
 show w (Y++[p]) H' (XQ.acD s.len e a) (s.acD e a (by rw[h];simp) #[i,h,mw _ _ (hd.ev (Ev.sub sub))]) (.ref p) #[p,by rw[<-s.len];show aQ,W]
def KA(s:Ws B K H Y Z)(w:WS K E B H Y Z (PQ B K Q) (my Z g)):Fin (ow B Y Z) K H Q g:=by
 cases g with
 |fz d=>show λv H' e a=>w Y H' (XQ.same e) (s.grow e) v a
 |ow ds=>show λp i H' e f h a=>u0 s w e f h a (λb z=>.inl z) (.inr W)
def af(f:FE):dM:=λρ Z=>match f (b9 ρ)with
 |.ok (.fz d,_)=>.ok (.fz d) Z
 |.ok (.ow ds,_)=>my Z (.ow ds)
 |.ok (.pl _,_)=>.bad
 |.er x=>.er x Z
 |.bad=>.bad
def ar(h:EO K E t f):cY K E t (af f):=by
 intro B U H Y Z ρ Q s g w;show h (ow B Y Z) H (ow B Y Z) U H (b9 ρ) Q (Ji s g) ?_;unfold af at w;cases q:f (b9 ρ)with
 |bad=>rw[q]at w;show w.elim
 |er x=>rw[q]at w;show λc u H' e k=>w c u Y H' (XQ.same e) (s.grow e) k
 |ok r=>
  let(pv,b):=r;rw[q]at w;intro M v H' e R p;cases pv with
  |fz d=>show w Y H' (XQ.same R.same) (s.grow R.same) v (DV.ev (Ev.sub R.bo) p)
  |ow ds=>let(a,y,rfl,n,m,l,j,o):=p;show u0 s w R.same m l j R.bo n
  |pl i=>show w.elim
def bV(f:FT):vK:=λρ Z=>match f (b9 ρ)with
 |.ok (b,_)=>.ok b Z
 |.er x=>.er x Z
 |.bad=>.bad
def mW(h:TTO K E t f):wI K E t (bV f):=by
 intro B U H Y Z ρ Q s g w;show h (ow B Y Z) H (ow B Y Z) U H (b9 ρ) Q (Ji s g) ?_;unfold bV at w;cases q:f (b9 ρ)with
 |bad=>rw[q]at w;show w.elim
 |er x=>rw[q]at w;show λc i H' e k=>w c i Y H' (XQ.same e) (s.grow e) k
 |ok r=>let(b,a):=r;rw[q]at w;show λM H' e R=>w Y H' (XQ.same R.same) (s.grow R.same)
def aw(i:Nat):dM:=λρ Z=>match ρ[i]? with
 |some (R x)=>.ok x Z
 |_=>.bad
def aI:cY K E (vJ i) (aw i):=by
 intro B U H Y Z ρ Q s a w;unfold aw at w;cases q:ρ[i]? with
 |none=>rw[q]at w;show w.elim
 |some o=>
  cases o with
  |none=>rw[q]at w;show w.elim
  |some x=>rw[q]at w;let(v,e,b):=a.2 i x q;show#[v,e,WS.now s w v b]
def gy(K:Vs)(C:Str)(fs:G Str):Prop:=∃a,Wb K V3 C=R (R (.ref a))/\Cls K a/\∀f∈fs,ZS K a f
def aY(C f:Str)(e:dM):dM:=λρ Z=>(e ρ Z).bind λx Z1=>match x with
 |.rf i=>(match Z1[i]? with
  |some (.obj D fs)=>if D=C then RS.WN Z1 (fs.lookup f)else .bad
  |_=>.bad)
 |_=>.bad
theorem wJ:∀{ws:G (Str×V)} {fs:G (Str×SV)},Paired (λ(p:Str×V) (q:Str×SV)=>p.1=q.1/\YX O K H Y p.2 q.2) ws fs->fs.lookup f=R x->∃v,ws.lookup f=R v/\YX O K H Y v x
 |_,_,.nil,h=>by ext h
 |(a,v)::ws,(b,y)::fs,.cons #[g,e] t,h=>by
  ext g;rw[V5]at h⊢;split at h
  .ext h;show#[v,W,e]
  .show wJ t h
theorem wb:∀{ws:G (Str×V)} {fs:G (Str×SV)},Paired (λ(p:Str×V) (q:Str×SV)=>p.1=q.1/\YX O K H Y p.2 q.2) ws fs->fs.lookup f=Vt->ws.lookup f=Vt
 |_,_,.nil,h=>rfl
 |(a,v)::ws,(b,y)::fs,.cons #[e,g] t,h=>by
  ext e;rw[V5]at h⊢;split at h
  .ext h
  .show wb t h
def bB(p:gy K C L)(o:f∈L)(k:cY K E ta fa):cY K E (RK K ta f) (aY C f fa):=by
 intro B U H Y Z ρ Q s j w;show k B U H Y Z ρ _ s j (w.bind.imp λx X Z1 T I e b v m=>?_);cases x with
 |fz d=>show b.elim
 |tp l=>show b.elim
 |rf i=>
  let(a,k,rfl):=m;dsimp only at b;cases q:Z1[i]? with
  |none=>rw[q]at b;show b.elim
  |some c=>
   rw[q]at b;cases c with
   |obj D fs=>
    dsimp only at b;by_cases z:D=C
    .subst z
     rw[av W]at b;let(G,dx,ws,y,t,r):=e.cel i a _ k q;cases S:fs.lookup f with
     |none=>rw[S]at b;show b.elim
     |some x=>rw[S]at b;let(u,n,h):=wJ r S;let(R,g,F,A):=p;rw[y]at g;ext g;show#[a,G,dx,ws,u,W,t,F,A f o,n,WS.now e b u h]
    .rw[ax z]at b;show b.elim
   |_=>show b.elim
def aV{Y a:Type}(f:Y->I a):G Y->I (G a)
 |[]=>R []
 |x::r=>match f x with
  |some y=>(match aV f r with
   |some b=>R (y::b)
   |none=>Vt)
  |none=>Vt
def sg:Nat->bp->SV->I D
 |_,_,.fz d=>R d
 |0,_,_=>Vt
 |n+1,Z,.rf i=>match Z[i]? with
  |some (.lst xs)=>(aV (sg n Z) xs).map .list
  |_=>Vt
 |n+1,Z,.tp l=>(aV (λx=>sg n Z x.sv) l).map .tuple
theorem dY{Y a:Type}{f:Y->I a}{R:V->Y->Prop}{S:V->a->Prop}(h:∀v x y,R v x->f x=lD y->S v y):∀{c:G V} {xs:G Y} {g:G a},Paired R c xs->aV f xs=lD g->Paired S c g
 |_,_,_,.nil,e=>by ext e;show .nil
 |_,_,_,.cons (b:=x) (l₂:=xs) r t,e=>by
  unfold aV at e;cases q:f x with
  |none=>rw[q]at e;ext e
  |some y=>
   rw[q]at e;dsimp only at e;cases i:aV f xs with
   |none=>rw[i]at e;ext e
   |some g=>rw[i]at e;ext e;show .cons (h _ _ _ r q) (dY h t i)
theorem mE:∀{a:G V} {ds:G D},Paired (DV O K H) a ds->Xx O K H a ds
 |_,_,.nil=>.nil
 |_,_,.cons h t=>.cons h (mE t)
theorem Pg:Ev O H noO H:=Ev.sub λ_ z=>z.elim
theorem nu(s:Ws B K H Y Z):∀(n:Nat) {v:V} {x:SV} {d:D},YX (ow B Y Z) K H Y v x->sg n Z x=lD d->DV noO K H v d
 |n,v,.fz o,d,h,e=>by
  let g:lD o=lD d:=by ext n<;>show e
  ext g;show DV.ev Pg h
 |0,v,.rf i,d,h,e=>by ext e
 |0,v,.tp l,d,h,e=>by ext e
 |n+1,v,.rf i,d,h,e=>by
  let(a,m,rfl):=h;unfold sg at e;cases q:Z[i]? with
  |none=>rw[q]at e;ext e
  |some c=>
   rw[q]at e;cases c with
   |lst xs=>
    dsimp only at e;cases j:aV (sg n Z) xs with
    |none=>rw[j]at e;ext e
    |some ds=>rw[j]at e;ext e;let(p,f,b):=s.cel i a _ m q;show .lst #[ZI.of f,λz=>z.elim] (mE (dY (R:=YX (ow B Y Z) K H Y) (λv x y r e=>nu s n r e) b j))
   |_=>ext e
 |n+1,v,.tp l,d,h,e=>by
  let(a,xs,rfl,f,b):=h;unfold sg at e;cases j:aV (λx=>sg n Z x.sv) l with
  |none=>rw[j]at e;ext e
  |some ds=>rw[j]at e;ext e;show .tup (f.ev Pg) (mE (dY (λv x y r e=>nu s n (by ext x<;>show r) e) b j))
def Au:SV->I D
 |.fz d=>R d
 |_=>Vt
def sh(Z:bp):SV->I D
 |.fz d=>R d
 |.rf i=>match Z[i]? with
  |some (.lst xs)=>(aV Au xs).map .list
  |_=>Vt
 |.tp _=>Vt
def Hr(s:Ws B K H Y Z)(h:YX (ow B Y Z) K H Y v x)(e:sh Z x=R d):DX (ow B Y Z) K H v d:=by
 cases x with
 |fz g=>ext e;show DV.x h
 |tp l=>ext e
 |rf i=>
  let(a,n,rfl):=h;unfold sh at e;dsimp only at e;cases q:Z[i]? with
  |none=>rw[q]at e;ext e
  |some c=>
   rw[q]at e;cases c with
   |lst xs=>
    dsimp only at e;cases j:aV Au xs with
    |none=>rw[j]at e;ext e
    |some ds=>
     rw[j]at e;ext e;let(m,f,b):=s.cel i a _ n q;show#[a,m,W,ZI.of f,mE (dY (λv x y r e=>?_) b j)];cases x with
     |fz d=>ext e;show r
     |rf i=>ext e
     |tp l=>ext e
   |_=>ext e
def yq:D->Bool
 |.none=>Vx
 |.bool _=>Vx
 |.int _=>Vx
 |.str _=>Vx
 |_=>VO
def Ny(h:yq d=Vx)(a:DV O K H v d):DV M K H' v d:=by
 cases a with
 |XX=>show .XX
 |bl b=>show .bl b
 |int i=>show .int i
 |str x=>show .str x
 |tup _ _=>ext h
 |lst _ _=>ext h
def se(Z:bp):RV->RS SV
 |.fz d=>if yq d=Vx then .ok (.fz d) Z else .bad
 |.ow _=>.bad
def Kh(s:Ws B K H Y Z)(w:WS K E B H Y Z (PQ B K Q) (se Z b)):Fin noO K H Q b:=by
 cases b with
 |fz d=>
  let w:WS K E B H Y Z (PQ B K Q) (if yq d=Vx then RS.ok (SV.fz d) Z else RS.bad):=w;by_cases z:yq d=Vx
  .rw[av z]at w;show λv H' e a=>w Y H' (XQ.same e) (s.grow e) v (Ny z a)
  .rw[ax z]at w;show w.elim
 |ow ds=>show w.elim
theorem Iq:p7 noO H:=λ_ _ z=>z
def oj(f:D->D->I RV)(x y:SV)(Z:bp):RS SV:=match sh Z x,sh Z y with
 |some g,R a=>(RS.WN Z (f g a)).bind λe Z1=>my Z1 e
 |_,_=>(RS.WN Z (sg 6 Z x)).bind λg Z1=>(RS.WN Z1 (sg 6 Z1 y)).bind λa P=>(RS.WN P (f g a)).bind λe b=>se b e
def CV(n:pB K r f)(s:Ws B K H Y Z)(m:YX (ow B Y Z) K H Y x a)(l:YX (ow B Y Z) K H Y y b)(w:WS K E B H Y Z (PQ B K Q) (oj f a b Z)):r x y H Q:=by
 let e:WS K E B H Y Z (PQ B K Q) ((RS.WN Z (sg 6 Z a)).bind λq Z1=>(RS.WN Z1 (sg 6 Z1 b)).bind λi P=>(RS.WN P (f q i)).bind λp o=>se o p)->r x y H Q:=λw=>by let(q,g,w):=w.WN;let(i,h,w):=w.WN;let(p,j,w):=w.WN;show n noO H x y q i p Q Iq (DV.x (nu s 6 m g)) (DV.x (nu s 6 l h)) j (Kh s w)
 unfold oj at w;cases g:sh Z a with
 |none=>rw[g]at w;show e w
 |some q=>
  cases h:sh Z b with
  |none=>rw[g,h]at w;show e w
  |some i=>rw[g,h]at w;let(p,j,w):=w.WN;show n _ H x y q i p Q s.noO (Hr s m g) (Hr s l h) j (KA s w)
def lU(f:D->D->I RV)(a fb:dM):dM:=λρ Z=>(a ρ Z).bind λx Z1=>(fb ρ Z1).bind λy P=>oj f x y P
def gY(l:pB K r f)(c:cY K E q t)(m:cY K E p fb):cY K E (Pd r q p) (lU f t fb):=by intro B U H Y Z ρ Q s a w;show c B U H Y Z ρ _ s a (w.bind.imp λx X Z1 T o h e v i=>?_);show m B U T X Z1 ρ _ h (a.Yh o) (e.bind.imp λy J P H2 n g b u j=>?_);show CV l g (i.Yh n) j b
def NH:SV->I Bool
 |.fz (.bool b)=>R b
 |_=>Vt
def Ml(e:NH x=R b)(h:YX O K H Y v x):v=.bl b:=by
 unfold NH at e;split at e
 .ext e;ext h;rfl
 .ext e
def bS(a:dM):vK:=λρ Z=>(a ρ Z).bind λx Z1=>RS.WN Z1 (NH x)
def fW(c:cY K E i j):wI K E (EE i) (bS j):=by
 intro B U H Y Z ρ Q s e w;show c B U H Y Z ρ _ s e (w.bind.imp λx X Z1 T h f a v g=>?_);cases q:NH x with
 |none=>rw[q]at a;show a.elim
 |some b=>rw[q]at a;show#[b,Ml q g,WS.now f a]
theorem OT(b:cY K E a e):wI K E (tB a) (bS e):=fW b
def pN(a fb:vK):vK:=λρ Z=>(a ρ Z).bind λb Z1=>if b=Vx then fb ρ Z1 else .ok VO Z1
def Bt(a fb:vK):vK:=λρ Z=>(a ρ Z).bind λb Z1=>if b=Vx then .ok Vx Z1 else fb ρ Z1
def Ae(a:vK):vK:=λρ Z=>(a ρ Z).bind λb Z1=>.ok (!b) Z1
def M3(j:wI K E t f)(i:wI K E u g):wI K E (Sd t u) (pN f g):=by
 intro B U H Y Z ρ Q s e w;show j B U H Y Z ρ _ s e (w.bind.imp λb X Z1 T l h a=>?_);cases b with
 |true=>show i B U T X Z1 ρ Q h (e.Yh l) a
 |false=>show WS.now h a
def Cd(j:wI K E t f)(i:wI K E u g):wI K E (Uu t u) (Bt f g):=by
 intro B U H Y Z ρ Q s e w;show j B U H Y Z ρ _ s e (w.bind.imp λb X Z1 T l h a=>?_);cases b with
 |true=>show WS.now h a
 |false=>show i B U T X Z1 ρ Q h (e.Yh l) a
def Og(h:wI K E t f):wI K E (Tc t) (Ae f):=by intro B U H Y Z ρ Q s e w;show h B U H Y Z ρ _ s e (w.bind.imp λb X Z1 T i g a=>WS.now g a)
def cL:vK:=λ_ Z=>.ok Vx Z
theorem eZ:wI K E JK cL:=λB U H Y Z ρ Q s a w=>WS.now s w
def FB(a fb:dM):dM:=λρ Z=>(bS a ρ Z).bind λb Z1=>if b=Vx then fb ρ Z1 else .ok (.fz (.bool VO)) Z1
def Ek(d:cY K E j l)(g:cY K E i fb):cY K E (JD j i) (FB l fb):=by
 intro B U H Y Z ρ Q s e w;show fW d B U H Y Z ρ (λc T=>if c=Vx then i U T Q else Q (.bl VO) T) s e (w.bind.imp λb X Z1 T h f a=>?_);cases b with
 |true=>show g B U T X Z1 ρ Q f (e.Yh h) a
 |false=>show WS.now f a _ (.bl VO)
def QJ(c:vK)(a fb:dM):dM:=λρ Z=>(c ρ Z).bind λb Z1=>if b=Vx then a ρ Z1 else fb ρ Z1
def Sf(h:wI K E t c)(d:cY K E l m)(i:cY K E j fb):cY K E (UO t l j) (QJ c m fb):=by
 intro B U H Y Z ρ Q s a w;show h B U H Y Z ρ _ s a (w.bind.imp λb X Z1 T g f e=>?_);cases b with
 |true=>show d B U T X Z1 ρ Q f (a.Yh g) e
 |false=>show i B U T X Z1 ρ Q f (a.Yh g) e
def aH:xi:=λ_ Z=>.ok [] Z
def aj(b:dM)(a:xi):xi:=λρ Z=>(b ρ Z).bind λx Z1=>(a ρ Z1).bind λxs P=>.ok (x::xs) P
theorem aZ:x8 K E n9 aH:=λB U H Y Z ρ Q s a w=>WS.now s w [] .nil
def ay(c:cY K E p q)(j:x8 K E o fr):x8 K E (iy p o) (aj q fr):=by intro B U H Y Z ρ Q s b w;show c B U H Y Z ρ _ s b (w.bind.imp λx X Z1 T m h f v i=>?_);show j B U T X Z1 ρ _ h (b.Yh m) (f.bind.imp λxs J P H2 l g e n a=>?_);show WS.now g e (v::n) (.cons (i.Yh l) a)
def T8:SV->I AV
 |.fz d=>R (.fz d)
 |.rf i=>R (.rf i)
 |.tp _=>Vt
def Um(xs:G SV):I SV:=match aV Au xs with
 |some ds=>R (.fz (.tuple ds))
 |none=>(aV T8 xs).map .tp
def lV(a:xi):dM:=λρ Z=>(a ρ Z).bind λxs Z1=>if xs.length<=1000 then RS.WN Z1 (Um xs)else .bad
def Ci(r:YX O K H Y v x)(e:Au x=R d):DV O K H v d:=by
 cases x with
 |fz d=>ext e;show r
 |rf i=>ext e
 |tp l=>ext e
def Sc(r:YX O K H Y v x)(e:T8 x=R d):AOk O K H Y v d:=by
 cases x with
 |fz d=>ext e;show r
 |rf i=>ext e;show r
 |tp l=>ext e
def jI(c:x8 K E u A):cY K E (Sh u) (lV A):=by
 intro B U H Y Z ρ Q s m w;show c B U H Y Z ρ _ s m (w.bind.imp λxs X Z1 T n f a o g=>?_);by_cases hn:xs.length<=1000
 .rw[av hn]at a
  show#[by rw[g.length];show BG hn,λp j=>?_];let b:XM T (bL T p (.tup o)):=cG j _;let e:XQ X Z1 T X Z1 (bL T p (.tup o)):=XQ.same b;let i:aaI (ow B X Z1) K (bL T p (.tup o)) p o:=#[ZQ.of aX,λz=>a5 z (f.noO p j)];unfold Um at a;cases q:aV Au xs with
  |some ds=>rw[q]at a;show a X _ e (f.grow b) _ (.tup i (mE (dY (R:=YX (ow B X Z1) K T X) (λv x y r h=>(Ci r h).ev e.ev) g q)))
  |none=>
   rw[q]at a;dsimp only at a;cases t:aV T8 xs with
   |none=>rw[t]at a;show a.elim
   |some l=>rw[t]at a;show a X _ e (f.grow b) _ #[p,o,W,i,dY (R:=YX (ow B X Z1) K T X) (λv x y r h=>(Sc r h).ev e.ev e.pre) g t]
 .rw[ax hn]at a;show a.elim
def JH(f:G D->I RV)(xs:G SV)(Z:bp):RS SV:=match aV (sh Z) xs with
 |some ds=>(RS.WN Z (f ds)).bind λb Z1=>my Z1 b
 |_=>(RS.WN Z (aV (sg 6 Z) xs)).bind λds Z1=>(RS.WN Z1 (f ds)).bind λb a=>se a b
def kL(f:G D->I RV)(a:xi):dM:=λρ Z=>(a ρ Z).bind λxs Z1=>JH f xs Z1
def e9(i:HI K r f)(c:x8 K E q t):cY K E (Oh r q) (kL f t):=by
 intro B U H Y Z ρ Q s j w;show c B U H Y Z ρ _ s j (w.bind.imp λxs X Z1 T m b a p h=>?_);unfold JH at a;cases o:aV (sh Z1) xs with
 |none=>rw[o]at a;let(ds,l,a):=a.WN;let(n,g,a):=a.WN;show i noO T p ds n Q Iq (dY (R:=YX (ow B X Z1) K T X) (λv x y r e=>DV.x (nu b 6 r e)) h l) g (Kh b a)
 |some ds=>rw[o]at a;let(n,g,a):=a.WN;show i _ T p ds n Q b.noO (dY (R:=YX (ow B X Z1) K T X) (λv x y r e=>Hr b r e) h o) g (KA b a)
end
section
variable{B O O':cH}{K:Vs}{E:XK}{H H' M L:Hp}{Y J X U:bb VF}{Z N Z1 T:bp}{S:L2.St}{ρ:bz}{v:V}
theorem Br:∀{c:G V} {xs:G β} {i:Nat} {x:β},Paired f c xs->xs[i]?=lD x->∃v,c[i]?=lD v/\f v x
 |_,_,_,_,.nil,e=>by simp at e
 |_,_,0,_,.cons h _,e=>by simp at e;subst e;show#[_,W,h]
 |_,_,i+1,x,.cons _ t,e=>by let(v,b,a):=Br t (by simpa using e);show#[v,by simpa using b,a]
def OU{b:G V}(h:Paired a b xs)(e:og xs i=lD x):∃v,og b i=lD v/\a v x:=by
 unfold og at e⊢;rw[h.length];cases q:Lq xs.length i with
 |none=>rw[q]at e;ext e
 |some j=>rw[q]at e;show Br h e
def JV:SV->I Int
 |.fz (.int i)=>R i
 |_=>Vt
def Fm(e:JV x=R i)(h:YX O K H Y v x):v=.int i:=by
 unfold JV at e;split at e
 .ext e;ext h;rfl
 .ext e
def Rz(x y:SV)(Z:bp):RS SV:=match x with
 |.fz _=>oj bq x y Z
 |.rf j=>(match Z[j]? with
  |some (.lst xs)=>(RS.WN Z (JV y)).bind λi Z1=>RS.WN Z1 (og xs i)
  |_=>.bad)
 |.tp l=>(RS.WN Z (JV y)).bind λi Z1=>RS.WN Z1 ((og l i).map AV.sv)
def gC(a fb:dM):dM:=λρ Z=>(a ρ Z).bind λx Z1=>(fb ρ Z1).bind λy T=>Rz x y T
def gP(k:cY K E ta fa)(C:cY K E tb fb):cY K E (Pd (Ue K) ta tb) (gC fa fb):=by
 intro B S H Y Z ρ Q s r w;show k B S H Y Z ρ _ s r (w.bind.imp λx X Z1 M G A t v e=>?_);show C B S M X Z1 ρ _ A (r.Yh G) (t.bind.imp λy U T L F f b u n=>?_);let e:=e.Yh F;unfold Rz at b;cases x with
 |fz d=>show CV b5 f e n b
 |rf j=>
  let(a,k,rfl):=e;dsimp only at b;cases q:T[j]? with
  |none=>rw[q]at b;show b.elim
  |some c=>
   rw[q]at b;cases c with
   |lst xs=>
    let(i,h,b):=WS.WN b;cases qa:og xs i with
    |none=>rw[qa]at b;show b.elim
    |some x=>rw[qa]at b;let(vs,p,o):=f.cel j a _ k q;let(z,m,g):=OU o qa;show .inl #[a,vs,i,z,W,Fm h n,SqL.of p,m,WS.now f b z g]
   |_=>show b.elim
 |tp l=>
  let(a,xs,rfl,p,o):=e;let(i,h,b):=WS.WN b;cases qa:og l i with
  |none=>rw[qa]at b;show b.elim
  |some x=>rw[qa]at b;let(z,m,g):=OU o qa;show .inr (.inl #[a,xs,i,z,W,Fm h n,p.1,m,WS.now f b z (by ext x<;>show g)])
def LL(h:Lv Y (Z.set i .dead) b):Lv Y Z b:=by
 let(j,c,f,a,e):=h;rcases cP a with⟨rfl,rfl⟩|⟨_,a⟩
 .show a5 W e
 .show#[j,c,f,a,e]
theorem XQ.kill:XQ Y Z H Y (Z.set i .dead) H:=#[λ_ _ h=>h,λ_ _ h _=>h,λ_ h=>.inl (LL h)]
def Ws.kill(s:Ws B K H Y Z)(i:Nat):Ws B K H Y (Z.set i .dead):=by
 let e:XQ Y Z H Y (Z.set i .dead) H:=XQ.kill;show#[by rw[WL];show s.len,s.nd,s.bn,s.ba,s.al,λj b d g a=>?_];rcases cP a with⟨rfl,rfl⟩|⟨f,a⟩
 .show trivial
 .show(s.cel j b d g a).ev e.ev e.pre λu q=>q
def Ws.agZ(s:Ws B K H Y Z)(d:Y[i]?=R a):¬ow B Y (Z.set i .dead) a:=by
 rintro(z|⟨j,c,g,f,e⟩)
 .show s.af0 d z
 .let:=s.nd j i a g d
  subst this;rcases cP f with⟨_,rfl⟩|⟨b,_⟩
  .show e W
  .show b W
def i4(g:bp->SV->I (D×bp)):bp->G SV->I (G D×bp)
 |Z,[]=>R ([],Z)
 |Z,x::r=>match g Z x with
  |some (d,Z1)=>(match i4 g Z1 r with
   |some (ds,T)=>R (d::ds,T)
   |none=>Vt)
  |none=>Vt
def frz:Nat->bp->SV->I (D×bp)
 |_,Z,.fz d=>R (d,Z)
 |0,_,_=>Vt
 |n+1,Z,.rf i=>match Z[i]? with
  |some (.lst xs)=>(match i4 (frz n) Z xs with
   |some (ds,Z1)=>R (.list ds,Z1.set i .dead)
   |none=>Vt)
  |_=>Vt
 |n+1,Z,.tp l=>match i4 (frz n) Z (l.map AV.sv)with
  |some (ds,Z1)=>R (.tuple ds,Z1)
  |none=>Vt
theorem yi(a:∀{Z N:bp} {v:V} {x:SV} {d:D},Ws B K H Y Z->YX (ow B Y Z) K H Y v x->g Z x=R (d,N)->Ws B K H Y N/\XQ Y Z H Y N H/\L3.DV (ow B Y N) K H v d):
  ∀{c:G V} {xs:G SV} {ds:G D} {Z N:bp},Ws B K H Y Z->Yx (ow B Y Z) K H Y c xs->i4 g Z xs=R (ds,N)->Ws B K H Y N/\XQ Y Z H Y N H/\L3.Xx (ow B Y N) K H c ds
 |_,_,_,Z,N,s,.nil,e=>by ext e;show#[s,.refl,.nil]
 |_,_,_,Z,N,s,.cons (b:=x) (l₂:=xs) r t,e=>by
  unfold i4 at e;cases q:g Z x with
  |none=>rw[q]at e;ext e
  |some p=>
   let(d,Z1):=p;rw[q]at e;dsimp only at e;let(j,h,n):=a s r q;cases o:i4 g Z1 xs with
   |none=>rw[o]at e;ext e
   |some l=>let(ds,T):=l;rw[o]at e;ext e;let(i,f,m):=yi a j (Yx.Yh h t) o;show#[i,h.trans f,.cons (n.ev f.ev) m]
theorem xc:∀{a:G V} {l:G AV},Paired (AOk O K H Y) a l->Yx O K H Y a (l.map AV.sv)
 |_,_,.nil=>.nil
 |_,_,.cons (b:=x) h t=>.cons (by ext x<;>show h) (xc t)
theorem yB:∀(n:Nat) {Z N:bp} {v:V} {x:SV} {d:D},Ws B K H Y Z->YX (ow B Y Z) K H Y v x->frz n Z x=R (d,N)->Ws B K H Y N/\XQ Y Z H Y N H/\L3.DV (ow B Y N) K H v d
 |n,Z,N,v,.fz u,d,s,h,e=>by
  let o:R (u,Z)=R (d,N):=by ext n<;>show e
  ext o;show#[s,.refl,h]
 |0,_,_,v,.rf i,d,s,h,e=>by ext e
 |0,_,_,v,.tp l,d,s,h,e=>by ext e
 |n+1,Z,N,v,.rf i,d,s,h,e=>by
  let(a,t,rfl):=h;unfold frz at e;cases q:Z[i]? with
  |none=>rw[q]at e;ext e
  |some c=>
   rw[q]at e;cases c with
   |lst xs=>
    dsimp only at e;let(y,j,g):=s.cel i a _ t q;cases r:i4 (frz n) Z xs with
    |none=>rw[r]at e;ext e
    |some p=>let(ds,Z1):=p;rw[r]at e;ext e;let(b,f,m):=yi (λs h e=>yB n s h e) s g r;show#[b.kill i,f.trans XQ.kill,xl j (b.agZ t) (m.ev (XQ.kill).ev)]
   |_=>ext e
 |n+1,Z,N,v,.tp l,d,s,h,e=>by
  let(a,xs,rfl,j,g):=h;unfold frz at e;cases r:i4 (frz n) Z (l.map AV.sv)with
  |none=>rw[r]at e;ext e
  |some p=>let(ds,Z1):=p;rw[r]at e;ext e;let(b,f,m):=yi (λs h e=>yB n s h e) s (xc g) r;show#[b,f,.tup (j.ev f.ev) m]
def Mo(x:SV)(Z:bp):RS SV:=match frz 4 Z x with
 |some (d,Z1)=>.ok (.fz d) Z1
 |none=>.bad
def iL(f:dM):dM:=λρ Z=>(f ρ Z).bind λx Z1=>Mo x Z1
def ii(h:cY K E t f):cY K E t (iL f):=by
 intro B S H Y Z ρ Q s b w;show h B S H Y Z ρ _ s b (w.bind.imp λx X Z1 M m g a v i=>?_);unfold Mo at a;cases q:frz 4 Z1 x with
 |none=>rw[q]at a;show a.elim
 |some p=>let(d,T):=p;rw[q]at a;let(e,j,l):=yB 4 g i q;show a X M j e v l
def XOk.sub(h:∀b,O' b->O b)(k:XOk K O H c dx x):XOk K O' H c dx x:=by let(i,fs,g,a):=k;show#[i,fs,g,λf d e=>let#[g1,v,g2,g3]:=a f d e;#[g1,v,g2,g3.ev (Ev.sub h)]]
def zi(F:FN)(n:Nat)(xs:G SV)(Z:bp):RS SV:=if xs.length=n then(match aV Au xs with
 |some ds=>(match F ds with
  |.ok a=>my Z a
  |.er x=>.er x Z
  |.bad=>.bad)
 |none=>(RS.WN Z (aV (sg 6 Z) xs)).bind λds Z1=>(match F ds with
  |.ok a=>se Z1 a
  |_=>.bad))else .bad
def iS:RS A->RS A
 |.er _ _=>.bad
 |r=>r
def ke(F:FN)(n:Nat)(a:xi):dM:=λρ Z=>(a ρ Z).bind λxs Z1=>iS (zi F n xs Z1)
def WS.e0(h:WS K E B H Y Z b (iS r)):WS K E0 B H Y Z b r:=by
 cases r with
 |ok a Z=>show h
 |er x Z=>show h.elim
 |bad=>show h
def Nz(s:Ws B K H Y Z)(b:Yx (ow B Y Z) K H Y h xs)(w:WS K E B H Y Z (PQ B K Q) (zi F n xs Z)):rX K n F h H Q E:=by
 unfold zi at w;by_cases hn:xs.length=n
 .rw[av hn]at w
  show#[b.length.trans hn,?_];cases q:aV Au xs with
  |some ds=>
   rw[q]at w;show#[ow B Y Z,ds,s.owd,mE (dY (R:=YX (ow B Y Z) K H Y) (λv x y r e=>Ci r e) b q),?_];dsimp only at w;cases g:F ds with
   |ok i=>rw[g]at w;show KA s w
   |er x=>rw[g]at w;show λc j H' e k=>w c j Y H' (XQ.same e) (s.grow e) k
   |bad=>rw[g]at w;show w.elim
  |none=>
   rw[q]at w;let(ds,f,w):=WS.WN w;show#[noO,ds,λa z=>z.elim,mE (dY (R:=YX (ow B Y Z) K H Y) (λv x y r e=>nu s 6 r e) b f),?_];cases g:F ds with
   |ok i=>rw[g]at w;show Kh s w
   |er x=>rw[g]at w;show w.elim
   |bad=>rw[g]at w;show w.elim
 .rw[ax hn]at w;show w.elim
def DR(c:x8 K E h i):cY K E (lS (rX K n F) [] E0 h) (ke F n i):=by intro B S H Y Z ρ Q s b w;show c B S H Y Z ρ _ s b (w.bind.imp λxs X Z1 M g e a j f=>?_);rw[Wi];show Nz e f (WS.e0 a)
abbrev jh:=G SV->bp->RS SV
def db(K:Vs)(n:Nat)(F:jh):Sp:=λa H Q E=>a.length=n/\∃(B:cH) (Y:G VF) (Z:bp) (xs:G SV),Ws B K H Y Z/\Yx (ow B Y Z) K H Y a xs/\WS K E B H Y Z (PQ B K Q) (F xs Z)
def HN(F:jh)(n:Nat)(a:xi):dM:=λρ Z=>(a ρ Z).bind λxs Z1=>if xs.length=n then F xs Z1 else .bad
def jK(F:jh)(n:Nat)(a:xi):dM:=λρ Z=>(a ρ Z).bind λxs Z1=>if xs.length=n then iS (F xs Z1)else .bad
def Ad(c:x8 K E h i):cY K E (lS (db K n F) [] E h) (HN F n i):=by
 intro B S H Y Z ρ Q s e w;show c B S H Y Z ρ _ s e (w.bind.imp λxs X Z1 M g f a j b=>?_);rw[Wi];by_cases hn:xs.length=n
 .rw[av hn]at a;show#[b.length.trans hn,B,X,Z1,xs,f,b,a]
 .rw[ax hn]at a;show a.elim
def rD(c:x8 K E h i):cY K E (lS (db K n F) [] E0 h) (jK F n i):=by
 intro B S H Y Z ρ Q s e w;show c B S H Y Z ρ _ s e (w.bind.imp λxs X Z1 M g f a j b=>?_);rw[Wi];by_cases hn:xs.length=n
 .rw[av hn]at a;show#[b.length.trans hn,B,X,Z1,xs,f,b,WS.e0 a]
 .rw[ax hn]at a;show a.elim
def oz(Z:bp)(C m:Str):SV->Bool
 |.rf i=>match Z[i]? with
  |some (.obj D fs)=>decide (D=C)&&(fs.lookup m).isNone
  |_=>VO
 |_=>VO
def qJ(C m:Str)(F:jh)(n:Nat)(a:dM)(b:xi):dM:=λρ Z=>(a ρ Z).bind λx Z1=>if oz Z1 C m x=P then(b ρ Z1).bind λxs T=>(if(x::xs).length=n then F (x::xs) T else .bad)else .bad
def bf(C m:Str)(F:jh)(n:Nat)(a:dM)(b:xi):dM:=λρ Z=>(a ρ Z).bind λx Z1=>if oz Z1 C m x=P then(b ρ Z1).bind λxs T=>(if(x::xs).length=n then iS (F (x::xs) T)else .bad)else .bad
def JZ(g:Wb K V3 C=R (R (.ref u)))(s:Ws B K H Y Z)(f:YX (ow B Y Z) K H Y v x)(h:oz Z C m x=P):∃a k fs,v=.ref a/\H a=R (.ins u k fs)/\fs.lookup m=Vt:=by
 cases x with
 |fz d=>ext h
 |tp l=>ext h
 |rf i=>
  let(a,t,rfl):=f;unfold oz at h;dsimp only at h;cases q:Z[i]? with
  |none=>rw[q]at h;ext h
  |some c=>
   rw[q]at h;cases c with
   |obj D fs=>rw[V9]at h;let(n,j):=h;let e:=a4 n;subst e;let(r,k,ws,b,p,o):=s.cel i a _ t q;rw[g]at b;ext b;show#[a,k,ws,W,p,wb o (Option.isNone_iff_eq_none.mp j)]
   |_=>ext h
def J0(q:Wb K V3 C=R (R (.ref Ca)))(p:cY K E to fo)(c:x8 K E A fa):cY K E (wy Ca m (db K n F) [] E to A) (qJ C m F n fo fa):=by
 intro B S H Y Z ρ Q s g w;show p B S H Y Z ρ _ s g (w.bind.imp λx X Z1 M y i e v j=>?_);by_cases h:oz Z1 C m x=P
 .rw[av h]at e
  let(a,dx,fs,rfl,t,r):=JZ q i j h;show#[a,dx,fs,W,t,r,?_];show c B S M X Z1 ρ _ i (g.Yh y) (e.bind.imp λxs U T L u o b z f=>?_);rw[Wi];let l:Yx (ow B U T) K L U (.ref a::z) (x::xs):=.cons (j.Yh u) f;by_cases hn:(x::xs).length=n
  .rw[av hn]at b;show#[l.length.trans hn,B,U,T,_,o,l,b]
  .rw[ax hn]at b;show b.elim
 .rw[ax h]at e;show e.elim
def FQ(q:Wb K V3 C=R (R (.ref Ca)))(p:cY K E to fo)(c:x8 K E A fa):cY K E (wy Ca m (db K n F) [] E0 to A) (bf C m F n fo fa):=by
 intro B S H Y Z ρ Q s g w;show p B S H Y Z ρ _ s g (w.bind.imp λx X Z1 M y i e v j=>?_);by_cases h:oz Z1 C m x=P
 .rw[av h]at e
  let(a,dx,fs,rfl,t,r):=JZ q i j h;show#[a,dx,fs,W,t,r,?_];show c B S M X Z1 ρ _ i (g.Yh y) (e.bind.imp λxs U T L u o b z f=>?_);rw[Wi];let l:Yx (ow B U T) K L U (.ref a::z) (x::xs):=.cons (j.Yh u) f;by_cases hn:(x::xs).length=n
  .rw[av hn]at b;show#[l.length.trans hn,B,U,T,_,o,l,WS.e0 b]
  .rw[ax hn]at b;show b.elim
 .rw[ax h]at e;show e.elim
def Gg:SV->Bool
 |.fz .none=>P
 |_=>VO
def wM(C:Str)(F:jh)(n:Nat)(xs:G SV)(Z:bp):RS SV:=if(SV.rf Z.length::xs).length=n then(F (.rf Z.length::xs) (Z++[.obj C []])).bind λr T=>(if Gg r=P then .ok (.rf Z.length) T else .bad)else .bad
def Bk(C:Str)(F:jh)(n:Nat)(a:xi):dM:=λρ Z=>(a ρ Z).bind λxs Z1=>wM C F n xs Z1
def wN(C:Str)(F:jh)(n:Nat)(a:xi):dM:=λρ Z=>(a ρ Z).bind λxs Z1=>iS (wM C F n xs Z1)
def MP(h:Gg x=P)(a:YX O K H Y v x):v=.XX:=by
 unfold Gg at h;split at h
 .ext a;rfl
 .ext h
def Kn(q:Wb K V3 C=R (R (.ref u)))(s:Ws B K H Y Z)(p:Yx (ow B Y Z) K H Y y xs)(w:WS K E B H Y Z (PQ B K Q) (wM C F n xs Z)):
  ∀x c,H x=Vt->H c=Vt->c≠x->db K n F (.ref x::(y++[])) (bL (bL H c (.own x)) x (.ins u c [])) (λv L=>v=.XX/\Q (.ref x) L) E:=by
 intro x c f i h;rw[Wi];unfold wM at w;let j:XM H (bL (bL H c (.own x)) x (.ins u c [])):=(cG i _).trans (cG (by rw[aF (λz=>h z.symm)];show f) _);let e:XQ Y Z H (Y++[x]) (Z++[.obj C []]) (bL (bL H c (.own x)) x (.ins u c [])):=XQ.acD s.len j f;let o:Ws B K (bL (bL H c (.own x)) x (.ins u c [])) (Y++[x]) (Z++[.obj C []]):=s.acD j f (by rw[aX];simp) #[u,c,[],q,aX,.nil];let a:∀{J:G VF} {N:bp} {H':Hp},XQ (Y++[x]) (Z++[.obj C []]) (bL (bL H c (.own x)) x (.ins u c [])) J N H'->YX (ow B J N) K H' J (.ref x) (.rf Z.length):=λe=>#[x,e.pre _ _ (by rw[<-s.len];show aQ),W];by_cases hn:(SV.rf Z.length::xs).length=n
 .rw[av hn]at w
  let l:Yx (ow B (Y++[x]) (Z++[.obj C []])) K (bL (bL H c (.own x)) x (.ins u c [])) (Y++[x]) (.ref x::y) (.rf Z.length::xs):=.cons (a .refl) (Yx.Yh e p);show#[l.length.trans hn,B,_,_,_,o,l,?_];show WS.imp (WS.from e w.bind) λr U T L t m b v g=>?_;by_cases z:Gg r=P
  .rw[av z]at b;show#[MP z g,WS.now m b _ (a t)]
  .rw[ax z]at b;show b.elim
 .rw[ax hn]at w;show w.elim
def MR(g:Wb K V3 C=R (R (.ref l)))(c:x8 K E i j):cY K E (A1 l (db K n F) [] E i) (Bk C F n j):=by intro B S H Y Z ρ Q s b w;show c B S H Y Z ρ _ s b (w.bind.imp λxs X Z1 M h e a m f=>?_);show Kn g e f a
def Jf(g:Wb K V3 C=R (R (.ref l)))(c:x8 K E i j):cY K E (A1 l (db K n F) [] E0 i) (wN C F n j):=by intro B S H Y Z ρ Q s b w;show c B S H Y Z ρ _ s b (w.bind.imp λxs X Z1 M h e a m f=>?_);show Kn g e f (WS.e0 a)
def gL(Z:bp):SV->I (Nat×G SV)
 |.rf i=>match Z[i]? with
  |some (.lst xs)=>R (i,xs)
  |_=>Vt
 |_=>Vt
def yr(s:Ws B K H Y Z)(b:YX (ow B Y Z) K H Y v x)(h:gL Z x=R (i,xs)):Z[i]?=R (.lst xs)/\∃a k,Y[i]?=R a/\v=.ref a/\H a=R (.lst k)/\Yx (ow B Y Z) K H Y k xs:=by
 cases x with
 |fz d=>ext h
 |tp l=>ext h
 |rf j=>
  let(a,n,rfl):=b;unfold gL at h;dsimp only at h;cases q:Z[j]? with
  |none=>rw[q]at h;ext h
  |some c=>
   rw[q]at h;cases c with
   |lst m=>let e:=VZ h;ext e;let(k,g,f):=s.cel i a _ n q;show#[q,a,k,n,W,g,f]
   |_=>ext h
def wY(h:Paired e f xs)(r:e v x):Paired e (f++[v]) (xs++[x]):=by
 induction h with
 |nil=>show .cons r .nil
 |cons a _ b=>show .cons a b
def lG(b c:dM):dM:=λρ Z=>(b ρ Z).bind λo Z1=>(RS.WN Z1 (gL Z1 o)).bind λ_ Z1=>(c ρ Z1).bind λx T=>(RS.WN T (gL T o)).bind λp a=>
 if p.2.length<1000000 then .ok (.fz .none) (a.set p.1 (.lst (p.2++[x])))else .bad
def pE(F:cY K E to fo)(G:cY K E te fe):cY K E (Uc K "list" xJ to (iy te n9)) (lG fo fe):=by
 intro B S H Y Z ρ Q s j w;show F B S H Y Z ρ _ s j (w.bind.imp λo X Z1 M e1 m e v n=>?_);let((i0,y),A,e):=WS.WN e;let(_,t,f,_,rfl,P,_):=yr m n A;show#[.inl #[W,f,SqL.of P],?_];show G B S M X Z1 ρ _ m (j.Yh e1) (e.bind.imp λx U T L e2 l b u C=>?_);let((i,xs),q,b):=WS.WN b;let(g,a,vs,z,R,I,p):=yr l (n.Yh e2) q;ext R;dsimp only at b;by_cases hn:xs.length<1000000
 .rw[av hn]at b;let ev:Ev (ow B U T) L (ow B U T) (bL L t (.lst (vs++[u]))):=rK z g (by nofun);show#[t,vs,u,W,W,I,ub (by rw[p.length];show hn),?_];show b U _ (XQ.put z g (by nofun) (by nofun)) (l.put z g (by nofun) (by nofun) #[_,aX,wY (Paired.ZR p λ_ _ r=>r.ev ev λ_ _ h=>h) (C.ev ev λ_ _ h=>h)]) _ .XX
 .rw[ax hn]at b;show b.elim
end
inductive FlS where
 |nx (ρ:bz)
 |bk (ρ:bz)
 |ct (ρ:bz)
 |rt (x:SV)
abbrev fF:=bz->bp->RS FlS
abbrev Ce:=SV->bz->bp->RS bz
abbrev JC:=G SV->bz->bp->RS bz
def A4(B:cH)(K:Vs)(D:Ends):FlS->G M->bp->Hp->Prop
 |.nx a,α,Z,H=>∀σ,YJ (ow B α Z) K H α σ a->D.nx σ H
 |.bk a,α,Z,H=>∀σ,YJ (ow B α Z) K H α σ a->D.bk σ H
 |.ct a,α,Z,H=>∀σ,YJ (ow B α Z) K H α σ a->D.ct σ H
 |.rt x,α,Z,H=>∀v,YX (ow B α Z) K H α v x->D.rt v H
def pA(K:Vs)(E:XK)(t:TS)(g:fF):Prop:=
 ∀(B:cH) (a:L2.St) (H:Hp) (α:G M) (Z:bp) (b:bz) (D:Ends),Ws B K H α Z->YJ (ow B α Z) K H α a b->WS K E B H α Z (A4 B K D) (g b Z)->t D a H
def Lr(K:Vs)(E:XK)(g:TG)(f:Ce):Prop:=
 ∀(B:cH) (e:L2.St) (H:Hp) (α:G M) (Z:bp) (l:bz) (v:V) (x:SV) (Q:L2.St->Hp->Prop),Ws B K H α Z->YJ (ow B α Z) K H α e l->YX (ow B α Z) K H α v x->WS K E B H α Z (λb a i h=>∀j,YJ (ow B a i) K h a j b->Q j h) (f x l Z)->g v e H Q
def LP(K:Vs)(E:XK)(g:Sb)(f:JC):Prop:=
 ∀(B:cH) (e:L2.St) (H:Hp) (α:G M) (Z:bp) (l:bz) (m:G V) (xs:G SV) (Q:L2.St->Hp->Prop),Ws B K H α Z->YJ (ow B α Z) K H α e l->Yx (ow B α Z) K H α m xs->WS K E B H α Z (λb a i h=>∀j,YJ (ow B a i) K h a j b->Q j h) (f xs l Z)->g m e H Q
section
variable{B O O':cH}{K:Vs}{E:XK}{H H' P N:Hp}{U M T Y:bb VF}{Z Z' Z1 X:bp}{S:L2.St}{ρ:bz}{v:V}
def YJ.set(a:YJ O K H U S ρ)(h:YX O K H U v x):YJ O K H U (S.set i (R v)) (ρ.set i (R x)):=by
 show#[by rw[WL,WL];show a.1,λj y g=>?_];rcases cP g with⟨rfl,e⟩|⟨f,b⟩
 .ext e;show#[v,?_,h];rw[WE];let:=yQ g;rw[a.1];show this
 .let(u,m,l):=a.2 j y b;show#[u,by rw[WB (λz=>f z.symm)];show m,l]
def df(i:Nat):Ce:=λx ρ Z=>.ok (ρ.set i (R x)) Z
theorem a9:Lr K E (wg i) (df i):=λB S H U Z ρ v x Q s a h w=>WS.now s w _ (a.set h)
def Gz:JC:=λxs ρ Z=>match xs with
 |[]=>.ok ρ Z
 |_=>.bad
def uX(f:Ce)(g:JC):JC:=λxs ρ Z=>match xs with
 |x::r=>(f x ρ Z).bind λa Z1=>g r a Z1
 |[]=>.bad
def Du:LP K E PZ Gz:=by
 intro B S H U Z ρ b xs Q s a h w;cases h with
 |nil=>show#[W,WS.now s w _ a]
 |cons _ _=>show w.elim
def vo(p:Lr K E t f)(o:LP K E u g):LP K E (Ku t u) (uX f g):=by
 intro B S H U Z ρ r xs Q s m h w;cases h with
 |nil=>show w.elim
 |cons a b=>show#[_,_,W,p B S H U Z ρ _ _ _ s m a (WS.imp (WS.bind w) λi T Z1 P q n l e j=>?_)];show o B e P T Z1 i _ _ _ n j (Yx.Yh q b) l
def K9:SV->I (G SV)
 |.fz (.tuple ds)=>R (ds.map .fz)
 |.tp l=>R (l.map AV.sv)
 |_=>Vt
def Qp(h:YX O K H U v x)(e:K9 x=R xs):∃a c,v=.ref a/\aaI O K H a c/\Yx O K H U c xs:=by
 unfold K9 at e;split at e
 .ext e
  cases h with
  |tup h f=>show#[_,_,W,h,mw _ _ f]
 .ext e;let(a,b,rfl,i,g):=h;show#[a,b,W,i,xc g]
 .ext e
def So(n:Nat)(f:JC):Ce:=λx ρ Z=>(RS.WN Z (K9 x)).bind λxs Z1=>if xs.length=n then f xs ρ Z1 else .bad
def Dx(h:LP K E t f):Lr K E (Ry K n t) (So n f):=by
 intro B S H U Z ρ v x Q s e g w;let(xs,q,w):=WS.WN w;let(a,j,rfl,i,b):=Qp g q;by_cases hn:xs.length=n
 .rw[av hn]at w;show#[a,j,W,i.1,b.length.trans hn,h B S H U Z ρ j xs Q s e b w]
 .rw[ax hn]at w;show w.elim
def dg:fF:=λρ Z=>.ok (.nx ρ) Z
def aR(f g:fF):fF:=λρ Z=>(f ρ Z).bind λa Z1=>match a with
 |.nx b=>g b Z1
 |a=>.ok a Z1
def bT(f:dM):fF:=λρ Z=>(f ρ Z).bind λ_ Z1=>.ok (.nx ρ) Z1
def cI(f:dM)(g:Ce):fF:=λρ Z=>(f ρ Z).bind λx Z1=>(g x ρ Z1).bind λa X=>.ok (.nx a) X
def cS(c:vK)(f g:fF):fF:=λρ Z=>(c ρ Z).bind λb Z1=>if b=Vx then f ρ Z1 else g ρ Z1
def gQ(f:dM):fF:=λρ Z=>(f ρ Z).bind λx Z1=>.ok (.rt x) Z1
def wF:fF:=λ_ Z=>.ok (.rt (.fz .none)) Z
def Tl:fF:=λ_ _=>.bad
theorem iu:pA K E Hj dg:=λB S H U Z ρ D s a w=>WS.now s w S a
theorem v7:pA K E KS Tl:=λB S H U Z ρ D s a w=>w.elim
theorem HD:pA K E Px wF:=λB S H U Z ρ D s a w=>WS.now s w .XX .XX
def aK(m:pA K E t f)(l:pA K E u g):pA K E (NB t u) (aR f g):=by
 intro B S H U Z ρ D s j w;show m B S H U Z ρ {D with nx:=u D} s j (WS.imp (WS.bind w) λn T Z1 P o e b=>?_);cases n with
 |nx a=>show λh i=>l B h P T Z1 a D e i b
 |rt x=>show WS.now (E:=E) e b
 |bk a=>show WS.now (E:=E) e b
 |ct a=>show WS.now (E:=E) e b
def ir(h:cY K E t f):pA K E (EU t) (bT f):=by intro B S H U Z ρ D s a w;show h B S H U Z ρ _ s a (WS.imp (WS.bind w) λx T Z1 P g e b v i=>WS.now e b S (a.Yh g))
def cy(h:cY K E t f)(p:Lr K E g u):pA K E (FP t g) (cI f u):=by intro B S H U Z ρ D s e w;show h B S H U Z ρ _ s e (WS.imp (WS.bind w) λx T Z1 P q n l v o=>?_);show p B S P T Z1 ρ v x _ n (e.Yh q) o (WS.imp (WS.bind l) λi Y X N r m j a b=>WS.now m j a b)
def mX(j:wI K E c n)(m:pA K E t f)(l:pA K E u g):pA K E (Mf c t u) (cS n f g):=by
 intro B S H U Z ρ D s a w;show j B S H U Z ρ _ s a (WS.imp (WS.bind w) λb T Z1 P i h e=>?_);cases b with
 |true=>show m B S P T Z1 ρ D h (a.Yh i) e
 |false=>show l B S P T Z1 ρ D h (a.Yh i) e
def eW(h:cY K E t f):pA K E (Q7 t) (gQ f):=by intro B S H U Z ρ D s b w;show h B S H U Z ρ _ s b (WS.imp (WS.bind w) λx T Z1 P i e a v g=>WS.now e a v g)
def Kt(i:Nat)(f:D->D->I RV)(b:dM):fF:=λρ Z=>(aw i ρ Z).bind λx Z1=>(b ρ Z1).bind λy X=>(oj f x y X).bind λz a=>.ok (.nx (ρ.set i (R z))) a
def Nu(n:pB K r f)(p:cY K E J L):pA K E (SH i J r) (Kt i f L):=by
 intro B S H U Z ρ D s a w;unfold Kt aw at w;cases q:ρ[i]? with
 |none=>rw[q]at w;show w.elim
 |some o=>
  cases o with
  |none=>rw[q]at w;show w.elim
  |some x=>rw[q]at w;let(v,C,A):=a.2 i x q;show#[v,C,p B S H U Z ρ _ s a (WS.imp (WS.bind w) λy T Z1 P b j g u l=>?_)];show CV n j (A.Yh b) l (WS.imp (WS.bind g) λz Y X N F h e t m=>WS.now h e _ ((a.Yh (b.trans F)).set m))
def eY(f:Str)(x:SV):G (Str×SV)->G (Str×SV)
 |[]=>[(f,x)]
 |(g,y)::r=>if g=f then(g,x)::r else(g,y)::eY f x r
theorem tM(h:YX O K H U v x):∀{ws:G (Str×V)} {fs:G (Str×SV)},Paired (λ(p:Str×V) (q:Str×SV)=>p.1=q.1/\YX O K H U p.2 q.2) ws fs->Paired (λ(p:Str×V) (q:Str×SV)=>p.1=q.1/\YX O K H U p.2 q.2) (jR f v ws) (eY f x fs)
 |_,_,.nil=>.cons #[W,h] .nil
 |(g,u)::ws,(a,y)::fs,.cons #[e,k] t=>by
  ext e;unfold jR eY;by_cases z:g=f
  .rw[av z,av z];show .cons #[W,h] t
  .rw[ax z,ax z];show .cons #[W,k] (tM h t)
def HB(Z:bp)(C:Str):SV->I (Nat×G (Str×SV))
 |.rf i=>match Z[i]? with
  |some (.obj D fs)=>if D=C then R (i,fs)else Vt
  |_=>Vt
 |_=>Vt
def S6(s:Ws B K H U Z)(b:YX (ow B U Z) K H U v x)(h:HB Z C x=R (i,fs)):Z[i]?=R (.obj C fs)/\∃a k o ws,U[i]?=R a/\v=.ref a/\Wb K V3 C=R (R (.ref k))/\H a=R (.ins k o ws)/\Paired (λ(p:Str×V) (q:Str×SV)=>p.1=q.1/\YX (ow B U Z) K H U p.2 q.2) ws fs:=by
 cases x with
 |fz d=>ext h
 |tp l=>ext h
 |rf j=>
  let(a,r,rfl):=b;unfold HB at h;dsimp only at h;cases q:Z[j]? with
  |none=>rw[q]at h;ext h
  |some c=>
   rw[q]at h;cases c with
   |obj D n=>
    dsimp only at h;by_cases z:D=C
    .subst z;rw[av W]at h;let e:=VZ h;ext e;let(k,o,ws,m,g,f):=s.cel i a _ r q;show#[q,a,k,o,ws,r,W,m,g,f]
    .rw[ax z]at h;ext h
   |_=>ext h
def fu(C f:Str)(b c:dM):fF:=λρ Z=>(c ρ Z).bind λx Z1=>(b ρ Z1).bind λo X=>(RS.WN X (HB X C o)).bind λp a=>if p.2.length<100 then .ok (.nx ρ) (a.set p.1 (.obj C (eY f x p.2)))else .bad
def i9(c:gy K C L)(R:f∈L)(Q:cY K E to fo)(he:cY K E te fe):pA K E (RO K to te f) (fu C f fo fe):=by
 intro B S H U Z ρ D s g w;show he B S H U Z ρ _ s g (WS.imp (WS.bind w) λx T Z1 P A G F v I=>?_);show Q B S P T Z1 ρ _ G (g.Yh A) (WS.imp (WS.bind F) λo Y X N y l b u J=>?_);let((i,fs),q,b):=WS.WN b;let(j,a,e,z,ws,ha,rfl,n,h1,m):=S6 l J q;let(Cb,p,g1,g2):=c;rw[n]at p;ext p;dsimp only at b;by_cases hn:fs.length<100
 .rw[av hn]at b;let ev:Ev (ow B Y X) N (ow B Y X) (bL N a (.ins e z (jR f v ws))):=rK ha j (by nofun);let t:XQ Y X N Y (X.set i (.obj C (eY f x fs))) (bL N a (.ins e z (jR f v ws))):=XQ.put ha j (by nofun) (by nofun);let hl:=Paired.length m;show#[a,e,z,ws,W,h1,g1,g2 f R,by ext,?_];show b Y _ t (l.put ha j (by nofun) (by nofun) #[e,z,_,n,aX,tM ((I.Yh y).ev ev λ_ _ h=>h) (Paired.ZR m λ_ _ r=>#[r.1,r.2.ev ev λ_ _ h=>h])]) S ((g.Yh (A.trans y)).Yh t)
 .rw[ax hn]at b;show b.elim
abbrev ML:=bz->bp->RS (G D)
def Ss(K:Vs)(E:XK)(b:TI)(e:ML):Prop:=
 ∀(B:cH) (S:L2.St) (H:Hp) (U:G VF) (Z:bp) (ρ:bz) (a:It->Hp->Prop),Ws B K H U Z->YJ (ow B U Z) K H U S ρ->WS K E B H U Z (λds M Z' H'=>∀J,Bp K J (ow B M Z') H' ds->a J H') (e ρ Z)->b S H a
def gR(f:FI):ML:=λρ Z=>match f (b9 ρ)with
 |.ok (ds,_)=>.ok ds Z
 |.er x=>.er x Z
 |.bad=>.bad
def kJ(h:IO K E p f):Ss K E p (gR f):=by
 intro B S H U Z ρ l s g w;show h (ow B U Z) H (ow B U Z) S H (b9 ρ) l (Ji s g) ?_;unfold gR at w;cases q:f (b9 ρ)with
 |bad=>rw[q]at w;show w.elim
 |er x=>rw[q]at w;show λc t H' e k=>w c t U H' (XQ.same e) (s.grow e) k
 |ok r=>let(ds,a):=r;rw[q]at w;show λO' J H' e R i=>w U H' (XQ.same R.same) (s.grow R.same) J λm N j n=>i m N (λb o h z=>j b o h λy=>z (R.bo b y)) n
def fP(a:dM):ML:=λρ Z=>(a ρ Z).bind λx Z1=>(match frz 4 Z1 x with
 |some (d,X)=>RS.WN X (gv d)
 |none=>.bad)
def kO(h:cY K E r t):Ss K E (Je K r) (fP t):=by
 intro B S H U Z ρ n s g w;show h B S H U Z ρ _ s g (WS.imp (WS.bind w) λx T Z1 P m i a v j=>?_);cases q:frz 4 Z1 x with
 |none=>rw[q]at a;show a.elim
 |some p=>
  let(d,X):=p;rw[q]at a;let(e,f,l):=yB 4 i j q;dsimp only at a;cases o:gv d with
  |none=>rw[o]at a;show a.elim
  |some ds=>
   rw[o]at a;cases l with
   |tup h b=>ext o;show#[_,W,.inr #[#[_,h.1],a T P f e _ (Ir h b)]]
   |lst h b=>ext o;show#[_,W,.inl #[#[_,h.1.sq],a T P f e _ (EA h b)]]
   |_=>ext o
def mO(gt:Ce)(b:fF):G D->fF
 |[],ρ,Z=>.ok (.nx ρ) Z
 |d::r,ρ,Z=>(gt (.fz d) ρ Z).bind λa Z1=>(b a Z1).bind λe X=>match e with
  |.nx f=>mO gt b r f X
  |.ct f=>mO gt b r f X
  |.bk f=>.ok (.nx f) X
  |.rt x=>.ok (.rt x) X
def BU(a:ML)(gt:Ce)(b:fF):fF:=λρ Z=>(a ρ Z).bind λds Z1=>mO gt b ds ρ Z1
def Dq(c:Ss K E wi fi)(k:Lr K E g gt)(hb:pA K E tb b):pA K E (RT wi g tb) (BU fi gt b):=by
 intro B S H U Z ρ D s L w;show c B S H U Z ρ _ s L (WS.imp (WS.bind w) λds T Z1 P e1 s1 w1 J it=>?_);show#[λi m a H'=>m=ds.length - i/\i<=ds.length/\∃Y X ρ2,XQ T Z1 P Y X H'/\Ws B K H' Y X/\YJ (ow B Y X) K H' Y a ρ2/\WS K E B H' Y X (A4 B K D) (mO gt b (ds.drop i) ρ2 X),#[_,W,Wx _,T,Z1,ρ,.refl,s1,L.Yh e1,w1],?_];rintro i m j N ⟨rfl,c,Y,X,ρ2,e2,s2,sl2,w2⟩;let(go,n):=it (ow B Y X) N e2.ev s2.noO;by_cases t:i<ds.length
 .let(g1,g2):=go i t
  show .inr #[g1,λa H'=>i+1<=ds.length/\∃Y X ρ2,XQ T Z1 P Y X H'/\Ws B K H' Y X/\YJ (ow B Y X) K H' Y a ρ2/\WS K E B H' Y X (A4 B K D) (mO gt b (ds.drop (i+1)) ρ2 X),λa H' #[h1,h2]=>#[ds.length - (i+1),by ext,W,h1,h2],λx I y=>?_];let(Q,d,hd,dv):=g2 x I y;let ed:ds.drop i=d::ds.drop (i+1):=by let(_,q):=Vv.mp hd;rw[YB t,q]
  rw[ed]at w2;let G:XQ Y X N Y X I:=XQ.same Q;show k B j I Y X ρ2 x (.fz d) _ (s2.grow Q) (sl2.Yh G) dv (WS.imp (WS.bind (WS.from G w2)) λA C Z4 H4 e4 s4 w3 z F=>?_);show hb B z H4 C Z4 A _ s4 F (WS.imp (WS.bind w3) λfl l R H5 e5 r p=>?_);let o:=e2.trans (G.trans (e4.trans e5));cases fl with
  |nx f=>show λu h=>#[t,l,R,f,o,r,h,p]
  |ct f=>show λu h=>#[t,l,R,f,o,r,h,p]
  |bk f=>show WS.now (E:=E) r p
  |rt x=>show WS.now (E:=E) r p
 .let e:i=ds.length:=by ext
  subst e;rw[Y0 (VP _)]at w2;show .inl #[n,WS.now s2 w2 j sl2]
def vL(c:vK)(b:fF):Nat->fF
 |0,_,_=>.bad
 |n+1,ρ,Z=>(c ρ Z).bind λk Z1=>if k=Vx then(b ρ Z1).bind λa X=>match a with
  |.nx e=>vL c b n e X
  |.ct e=>vL c b n e X
  |.bk e=>.ok (.nx e) X
  |.rt x=>.ok (.rt x) X else .ok (.nx ρ) Z1
def mY(c:vK)(b:fF):fF:=vL c b 1000000
def nW(G:wI K E c fc)(I:pA K E tb b):pA K E (IP c tb) (mY fc b):=by
 intro B S H U Z ρ D s C w;show#[λm e H'=>∃Y X a,XQ U Z H Y X H'/\Ws B K H' Y X/\YJ (ow B Y X) K H' Y e a/\WS K E B H' Y X (A4 B K D) (vL fc b m a X),#[_,U,Z,ρ,.refl,s,C,w],?_];rintro m g N ⟨Y,X,a,Q,F,i,y⟩;cases m with
 |zero=>show y.elim
 |succ m=>
  show G B g N Y X a _ F i (WS.imp (WS.bind y) λk t R H3 u z o=>?_);cases k with
  |true=>
   rw[av W]at o⊢;show#[λe H'=>∃Y X a,XQ U Z H Y X H'/\Ws B K H' Y X/\YJ (ow B Y X) K H' Y e a/\WS K E B H' Y X (A4 B K D) (vL fc b m a X),λe H' q=>#[m,Zk m,q],?_];show I B g H3 t R a _ z (i.Yh u) (WS.imp (WS.bind o) λJ j A H5 L p n=>?_);let l:=Q.trans (u.trans L);cases J with
   |nx f=>show λr h=>#[j,A,f,l,p,h,n]
   |ct f=>show λr h=>#[j,A,f,l,p,h,n]
   |bk f=>show WS.now (E:=E) p n
   |rt x=>show WS.now (E:=E) p n
  |false=>rw[ax VU]at o⊢;show WS.now z o g (i.Yh u)
end
section
variable{B O O':cH}{K:Vs}{E:XK}{H H' S L:Hp}{U R X Y:bb VF}{Z Z' Z1 T:bp}{M:L2.St}{ρ:bz}{v:V}
def cD(gt:Ce)(c:vK)(f:dM):G D->bz->bp->G SV->RS (G SV)
 |[],_,Z,acc=>.ok acc Z
 |d::r,ρ,Z,acc=>(gt (.fz d) ρ Z).bind λa Z1=>(c a Z1).bind λb T=>if b=P then(f a T).bind λx e=>(if acc.length<1000000 then cD gt c f r a e (acc++[x])else .bad)else cD gt c f r a T acc
def fM(n:Nat)(a:G Nat)(ρ:bz):bz:=VR n Vt++a.map λj=>(ρ[j]?).join
def eO(n:Nat)(c:G Nat)(a:ML)(gt:Ce)(b:vK)(d:dM):dM:=λρ Z=>(a ρ Z).bind λds Z1=>(iS (cD gt b d ds (fM n c ρ) Z1 [])).bind λxs T=>.ok (.rf T.length) (T++[.lst xs])
def LM{own:G Str}{e:G (Str×Nat)}{n:Nat}{c:G Nat}(d:own.length=n)(h:e.map (·.2)=c)(i:YJ O K H U M ρ):YJ O K H U (jV own e M) (fM n c ρ):=by
 unfold jV fM;rw[Dl d];let l:e.length=c.length:=by rw[<-h,Vw]
 show#[by rw[Vy,Vy,Wu,Wu,Vw,Vw,l],λj x b=>?_];by_cases g:j<n
 .rw[VQ (by rw[Wu];show g),X8,av g]at b;ext b
 .rw[Wk (by rw[Wu];ext),Wu,VN]at b⊢
  subst h;rw[VN]at b;cases q:e[j - n]? with
  |none=>rw[q]at b;ext b
  |some p=>
   rw[q]at b;let a:(ρ[p.2]?).join=lD x:=VZ b;let f:ρ[p.2]?=lD (lD x):=by
    cases t:ρ[p.2]? with
    |none=>rw[t]at a;ext a
    |some o=>rw[t]at a;show dP lD a
   let(u,r,m):=i.2 p.2 x f;show#[u,by show lD ((M[p.2]?).join)=_;rw[r];rfl,m]
def JL{p:VF}{c:Cell}(a:U.length=Z.length)(e:c≠.dead):ow (dm B p) U Z=ow B (U++[p]) (Z++[c]):=by
 funext b;show propext #[λz=>?_,λz=>?_]
 .rcases z with(z|z)|⟨i,d,h,g,f⟩
  .show .inl z
  .show .inr #[U.length,c,by rw[z];show aQ,by rw[a];show aQ,e]
  .show .inr #[i,d,jp h,jp g,f]
 .rcases z with z|z
  .show .inl (.inl z)
  .rcases w6 a z with z|z
   .show .inr z
   .show .inl (.inr z)
def Ws.adopt{p:VF}{c:G V}{xs:G SV}(s:Ws (dm B p) K H U Z)(l:H p=lD (.lst c))(m:Yx (ow (dm B p) U Z) K H U c xs)(n:¬B p):Ws B K H (U++[p]) (Z++[.lst xs]):=by
 let t:ow (dm B p) U Z=ow B (U++[p]) (Z++[.lst xs]):=JL s.len (by nofun);let b:∀(i:Nat) (a:VF),U[i]?=lD a->(U++[p])[i]?=lD a:=λi a h=>jp h;let g:∀i:Nat,U[i]?≠lD p:=s.ba p (.inr W);show#[by rw[Vy,Vy,s.len];rfl,λi j a e f=>?_,λa h=>s.bn a (.inl h),λa h i q=>?_,λi a h=>?_,λi a d e f=>?_]
 .rcases cK e with g1|⟨z,u⟩<;>rcases cK f with g2|⟨y,A⟩
  .show s.nd i j a g1 g2
  .rw[A]at g1;show a5 g1 (g i)
  .rw[u]at g2;show a5 g2 (g j)
  .omega
 .rcases cK q with q|⟨_,u⟩
  .show s.ba a (.inl h) i q
  .subst u;show n h
 .rcases cK h with h|⟨_,u⟩
  .show s.al i a h
  .rw[u,l];simp
 .rw[<-t]
  rcases cK f with g2|⟨z,u⟩
  .rcases cK e with g1|⟨z,_⟩
   .show(s.cel i a d g1 g2).ev .refl b λo q=>q
   .let:=(Vv.mp g2).1;let:=s.len;ext
  .rcases cK e with g1|⟨_,y⟩
   .let:=(Vv.mp g1).1;let:=s.len;ext
   .rw[u,y];show#[c,l,Paired.ZR m λ_ _ r=>r.ev .refl b]
def Ws.hide{p:VF}{o:HO}(s:Ws B K H U Z)(j:H p=Vt):Ws (dm B p) K (bL H p o) U Z:=by let f:XM H (bL H p o):=cG j o;let g:=s.grow f;let ev:Ev (ow B U Z) H (ow (dm B p) U Z) (bL H p o):=λb u h n=>#[f b u h,λz=>z.elim (λz=>z.elim (λz=>n (.inl z)) λz=>by rw[z,j]at h;ext h) λz=>n (.inr z)];show#[g.len,g.nd,λa h=>h.elim (g.bn a) λe=>by rw[e,aX];simp,λa h i q=>h.elim (λh=>g.ba a h i q) λe=>by rw[e]at q;show s.al i p q j,g.al,λi a c m l=>?_];show(s.cel i a c m l).ev ev (λ_ _ h=>h) λo q=>f _ _ q
def Ws.amd{p:VF}{o e:HO}(s:Ws (dm B p) K H U Z)(j:H p=lD o):Ws (dm B p) K (bL H p e) U Z:=by
 let ev:Ev (ow (dm B p) U Z) H (ow (dm B p) U Z) (bL H p e):=Ev.mut (.inl (.inr W)) e;let n:∀b,H b≠Vt->bL H p e b≠Vt:=λb h=>by
  by_cases z:b=p
  .subst z;rw[aX];simp
  .rw[aF z];show h
 show#[s.len,s.nd,λa h=>n a (s.bn a h),s.ba,λi a h=>n a (s.al i a h),λi a c f g=>(s.cel i a c f g).ev ev (λ_ _ h=>h) λu q=>?_];let:a≠p:=λz=>s.ba p (.inr W) i (by rw[<-z];show f);rw[aF this];show q
theorem XQ.dd{p:VF}{o:HO}(e:XQ X Z1 S U Z H)(a:S p=Vt):XQ X Z1 S U Z (bL H p o):=#[e.pre,λb u h n=>by rw[aF (cB h a)];show e.kp b u h n,e.lv]
theorem Ws.ag4{p:VF}(s:Ws (dm B p) K H U Z):Ws B K H U Z:=
 #[s.len,s.nd,λa h=>s.bn a (.inl h),λa h=>s.ba a (.inl h),s.al,λi a c f e=>(s.cel i a c f e).ev (λb o h n=>#[h,λy=>n (y.elim (λy=>.inl (.inl y)) .inr)]) (λ_ _ h=>h) λ_ h=>h]
def uz{own:bb Str}{fv:bb (Str×Nat)}{g:TG}{tc:TT}{te:TE}{gt:Ce}{s:vK}{k:dM}{n:Nat}{fj:bb Nat}{J:It}{Q:VK}{ds:bb D}(hn:own.length=n)(hf:fv.map (·.2)=fj)
  (hg:Lr K E g gt) (ht:wI K E tc s) (he:cY K E te k) (s1:Ws B K S X Z1) (sl1:YJ (ow B X Z1) K S X M ρ) (it:Bp K J (ow B X Z1) S ds) (w1:WS K E B S X Z1 (PQ B K Q) ((cD gt s k ds (fM n fj ρ) Z1 []).bind λxs T=>.ok (.rf T.length) (T++[.lst xs]))):
  ∀D,S D=Vt->J6 J D (jV own fv M) g tc te S λH'=>Q (.ref D) H':=by
 intro p P;let slc:YJ (ow B X Z1) K S X (jV own fv M) (fM n fj ρ):=LM hn hf sl1;generalize qr:cD gt s k ds (fM n fj ρ) Z1 []=rr at w1;by_cases w:rr=.bad
 .subst w;show w1.elim
 .
  let hB:¬B p:=λz=>s1.bn p z P;let evH:∀{Y:bb VF} {T:bp} {H':Hp},XQ X Z1 S Y T H'->Ev (ow B X Z1) S (ow (dm B p) Y T) H':=λe b o h n=>#[e.kp b o h λz=>n (.inr z),λz=>by
   rcases z with(z|z)|z
   .show n (.inl z)
   .rw[z,P]at h;ext h
   .show(e.lv b z).elim (λq=>n (.inr q)) λq=>by rw[h]at q;ext q]
  show#[λi m σ' H'=>m=ds.length - i/\i<=ds.length/\∃Y T ρc acc ys,XQ X Z1 S Y T H'/\Ws (dm B p) K H' Y T/\YJ (ow (dm B p) Y T) K H' Y σ' ρc/\H' p=lD (.lst ys)/\Yx (ow (dm B p) Y T) K H' Y ys acc/\cD gt s k (ds.drop i) ρc T acc=rr,
   #[_,W,Wx _,X,Z1,fM n fj ρ,[],[],XQ.same (cG P _),s1.hide P,?_,aX,.nil,qr],?_]
  .show#[slc.1,λj x hx=>let#[v,h1,h2]:=slc.2 j x hx;#[v,h1,h2.ev (evH (XQ.same (cG P _))) λ_ _ h=>h]]
  .rintro i m σ2 L ⟨rfl,hi,Y,T,ρ2,acc,ys,e2,s2,sl2,hy,vy,f⟩
   let(go,stop):=it (ow (dm B p) Y T) L (evH e2) s2.noO;by_cases ZH:i<ds.length
   .let(g1,g2):=go i ZH
    show .inr #[g1,λσ5 C=>i+1<=ds.length/\∃Y T ρc acc ys,XQ X Z1 S Y T C/\Ws (dm B p) K C Y T/\YJ (ow (dm B p) Y T) K C Y σ5 ρc/\C p=lD (.lst ys)/\Yx (ow (dm B p) Y T) K C Y ys acc/\cD gt s k (ds.drop (i+1)) ρc T acc=rr,
     λσ5 C #[h1,h2]=>#[ds.length - (i+1),by ext,W,h1,h2],λx H3 y=>?_]
    let(s3,d,hd,dv):=g2 x H3 y;let ed:ds.drop i=d::ds.drop (i+1):=by let(_,q):=Vv.mp hd;rw[YB ZH,q]
    rw[ed]at f;unfold cD at f;let e3:XQ Y T L Y T H3:=XQ.same s3;let kD:∀{αx αy:bb VF} {Zx Zy:bp} {Hx Hy:Hp} {o:HO},Ws (dm B p) K Hx αx Zx->XQ αx Zx Hx αy Zy Hy->Hx p=lD o->Hy p=lD o:=λsx ex h=>ex.kp _ _ h λ#[i,c,q,_]=>sx.ba p (.inr W) i q;let t:∀{G:bb VF} {Z3:bp} {H3:Hp} {z:Xc} {A:bp},XQ X Z1 S G Z3 H3->RS.er z A=rr->∀c dx R H',XQ G Z3 H3 R A H'->Ws (dm B p) K H' R A->XOk K (ow (dm B p) R A) H' c dx z->E c dx H':=λ{G Z3 H3 z A} e3 q c dx R H' e s' x'=>by subst q;show w1 c dx R H' (e3.trans e) s'.ag4 (XOk.sub (λb y=>y.elim (λy=>.inl (.inl y)) .inr) x')
    show hg (dm B p) σ2 H3 Y T ρ2 x (.fz d) _ (s2.grow s3) (sl2.Yh e3) dv ?_;cases qg:gt (.fz d) ρ2 T with
    |er z A=>rw[qg]at f;show t (e2.trans e3) f
    |bad=>rw[qg]at f;show w f.symm
    |ok l Z4=>
     rw[qg]at f;intro α4 H4 e4 s4 σ4 sl4;show ht (dm B p) σ4 H4 α4 Z4 l _ s4 sl4 ?_;let f:((s l Z4).bind λb T=>if b=Vx then(k l T).bind λx Z3=>(if acc.length<1000000 then cD gt s k (ds.drop (i+1)) l Z3 (acc++[x])else .bad)else cD gt s k (ds.drop (i+1)) l T acc)=rr:=f;cases qt:s l Z4 with
     |er z A=>rw[qt]at f;show t (e2.trans (e3.trans e4)) f
     |bad=>rw[qt]at f;show w f.symm
     |ok b Z5=>
      rw[qt]at f;intro α5 C e5 s5;let I:=sl4.Yh e5;let u:=e3.trans (e4.trans e5);cases b with
      |false=>let f:cD gt s k (ds.drop (i+1)) l Z5 acc=rr:=f;show#[ZH,α5,Z5,l,acc,ys,e2.trans u,s5,I,kD s2 u hy,Yx.Yh u vy,f]
      |true=>
       let f:((k l Z5).bind λx Z3=>(if acc.length<1000000 then cD gt s k (ds.drop (i+1)) l Z3 (acc++[x])else .bad))=rr:=f;rw[av W];show he (dm B p) σ4 C α5 Z5 l _ s5 I ?_;cases qe:k l Z5 with
       |er z A=>rw[qe]at f;show t (e2.trans u) f
       |bad=>rw[qe]at f;show w f.symm
       |ok x6 Z6=>
        rw[qe]at f;intro F H6 e6 s6 v6 hv6;let f:(if acc.length<1000000 then cD gt s k (ds.drop (i+1)) l Z6 (acc++[x6])else .bad)=rr:=f;by_cases N:acc.length<1000000
        .rw[av N]at f;let e36:=u.trans e6;let hy6:H6 p=lD (.lst ys):=kD s2 e36 hy;let vy6:=Yx.Yh e36 vy;let em:Ev (ow (dm B p) F Z6) H6 (ow (dm B p) F Z6) (bL H6 p (.lst (ys++[v6]))):=Ev.mut (.inl (.inr W)) _;let sl6:=I.Yh e6;show#[ys,hy6,ub (by rw[vy6.length];show N),ZH,F,Z6,l,acc++[x6],ys++[v6],(e2.trans e36).dd P,s6.amd hy6,#[sl6.1,λj x hx=>let#[v,h1,h2]:=sl6.2 j x hx;#[v,h1,h2.ev em λ_ _ h=>h]],aX,wY (Paired.ZR vy6 λ_ _ r=>r.ev em λ_ _ h=>h) (hv6.ev em λ_ _ h=>h),f]
        .rw[ax N]at f;show a5 f.symm w
   .let e:i=ds.length:=by ext
    subst e;rw[Y0 (VP _)]at f;let f:RS.ok acc T=rr:=f;subst f;show .inl #[stop,?_];show w1 (Y++[p]) L #[λi a h=>jp (e2.pre i a h),e2.kp,λb z=>(w6 s2.len z).elim (e2.lv b) λz=>.inr (by rw[z];show P)] (s2.adopt hy vy hB) (.ref p) #[p,by rw[<-s2.len];show aQ,W]
def Q2{A C:Type}{P:C->G VF->bp->Hp->Prop}{r:RS A}{k:A->bp->C}{m:A->bp->bp}(w:WS K E B H U Z P ((iS r).bind λa o=>.ok (k a o) (m a o))):WS K E0 B H U Z P (r.bind λa o=>.ok (k a o) (m a o)):=by
 cases r with
 |ok a o=>show w
 |er x o=>show w.elim
 |bad=>show w
def fX{own:G Str}{h:G (Str×Nat)}{a:TI}{g:TG}{e:TT}{b:TE}{i:ML}{gt:Ce}{c:vK}{k:dM}{n:Nat}{d:G Nat}(u:own.length=n)(q:h.map (·.2)=d)
  (x:Ss K E a i) (p:Lr K E0 g gt) (o:wI K E0 e c) (r:cY K E0 b k):cY K E (uZ own h a g e b) (eO n d i gt c k):=by
 intro B M H U Z ρ Q s f w;show x B M H U Z ρ _ s f (WS.imp (WS.bind w) λds X Z1 S t l j J m=>?_);show uz u q p o r l (f.Yh t) m (Q2 j)
def dc(N:Nat)(g:fF):jh:=λxs Z=>(g (xs.map lD++VR (N - xs.length) Vt) Z).bind λa Z1=>match a with
 |.rt x=>.ok x Z1
 |.nx _=>.ok (.fz .none) Z1
 |_=>.bad
def IS{N:G Str}{c:G V}{xs:G SV}(h:Yx O K H U c xs):YJ O K H U (L2.start N c) (xs.map lD++VR (N.length - xs.length) Vt):=by
 let b:c.length=xs.length:=Paired.length h;ext L2.start;show#[by rw[Vy,Vy,Vw,Vw,Wu,Wu,b],λi x a=>?_];by_cases hi:i<xs.length
 .rw[VQ (by rw[Vw];show hi),VN]at a
  cases q:xs[i]? with
  |none=>rw[q]at a;ext a
  |some d=>rw[q]at a;ext a;let(v,e,f):=Br h q;show#[v,?_,f];rw[VQ (by rw[Vw,b];show hi),VN,e];rfl
 .rw[Wk (by rw[Vw];ext),X8]at a;split at a<;>ext a
def B5{N:G Str}{c:G V}{xs:G SV}{g:fF}{t:TS}{Q:VK}{n:Nat}(f:pA K E t g)(h:db K n (dc N.length g) c H Q E):t {nx:=λ_ H'=>Q .XX H',rt:=Q} (L2.start N c) H:=by
 let(l,B,U,Z,xs,s,e,w):=h;show f B _ H U Z _ _ s (IS e) (WS.imp (WS.bind w) λi X Z1 S m b a=>?_);cases i with
 |rt x=>show WS.now (E:=E) b a
 |nx ρ=>show λM j=>WS.now (E:=E) b a .XX .XX
 |bk ρ=>show a.elim
 |ct ρ=>show a.elim
end
def Vh{P:V8}{w:Wv}{K:Vs}{d:Str->I B}{base:Heap}{x a:Str}{b:X2}{f:M}{fd:WY}{N c:G Str}{k n m:Nat}{g:fF}{i:jh}(F:YN K x a b f fd)(S:Yk N c (aD b))(u:c.length=n)(hm:N.length=m)(p:i=dc m g)
  (q:∀(e:B) (A:Wl) (outer:G Env) (s:VG) (H:Hp) (E:XK),X3 k (A.deeper (Wg a (aD b) s.heap.objs.size f e))->
   ∃t,PSs (gw dX P w K d base N a (aD b) f e A outer s H E).nox (cJ b) t/\pA K E t g):FnOk P w K d base dX (k+1) f fd c (db K n i):=by
 subst p hm;show F.ok S (λr H Q E h=>h.1.trans u.symm) (λe A outer s H r Q E o h=>?_);let(t,j,l):=q e A outer s H E o;show#[t,j,B5 (xs:=[]) l h]
def UQ{P:V8}{w:Wv}{K:Vs}{d:Str->bg Vu}{base:Heap}{x a:Str}{b:X2}{f:M}{fd:WY}{N c:bb Str}{k n m:Nat}{g:fF}{l:jh}(F:YN K x a b f fd)(S:Yk N c (aD b))(D:c.length=n)(hm:N.length=m)(v:l=dc m g)
  (z:∀(e:Vu) (A:Wl) (outer:bb Env) (s:VG) (H:Hp) (E:XK),X3 k (A.deeper (Wg a (aD b) s.heap.objs.size f e))->
   ∃t,PSs (gw (L4.iW P w) P w K d base N a (aD b) f e A outer s H E) (cJ b) t/\pA K E t g):FnOk P w K d base (L4.iW P w) (k+1) f fd c (db K n l):=by
 subst v hm;let(G,C,kV,y,B,I,e,ct,o,rfl,p,j):=F.ex;show Il p j S (λJ H Q E h=>h.1.trans D.symm) λA outer s H J Q E u i=>?_;let(t,q,r):=z e A outer s H E u;show#[t,q,B5 (xs:=[]) r i]
abbrev Ly(P:V8)(w:Wv)(K:Vs)(b:Str->I B)(base:Heap)(k:Nat)(x:Str)(a:G Str)(n:Nat)(F:jh):Prop:=zW P w K b base k x a (db K n F)
end L10
namespace PySem.W
open PySem PySem.Calls PyProof.Rows PyProof.V PySem.Spec
section
variable{Y:V8}{w:Wv}{A:Wl}{E:Vu->VG->Prop}{s:VG}{T:String}{r d:VF}{n:Nat}{P:Nat->Vu->Prop}{X:Heap->Prop}
def collect_kdl(K:KdlSrc Y w T r d n P X)(l:A.handled=U)(W6:X s.heap)(u:n<=VT)
  (p:∀c k acc,(∀b o,s.heap.get? b=lD o->c.get? b=lD o)->aaW P acc n->Q acc.toList {s with heap:=c,toks:=k}):wpAny (model Y w) A (collect (.ref r)) Q E s:=by
 let h:=K.there _ W6;ext collect;show Ld (wpAny_runValue (Y2 F.entry_proto_collect ?_));rw[Wl.under_plainId F.plain_proto_collect _];show Ld (WG ?_);show VH #[Yw F.plain_list_iadd _,Y2 F.entry_list_iadd ?_];rw[Wl.under_plainId F.plain_list_iadd _];let m:(s.heap.push {cls:=.type "list",data:=.seq ([]:G B).toArray}).get? s.heap.objs.size=lD {cls:=.type "list",data:=.seq ([]:G B).toArray}:=cj _ W;show kdl_extend (R:=wants (λv i=>wpAny (model Y w) A (match v with|.ref a=>(load a>>=λo=>match o.data with|.seq xs _=>pure xs.toList|_=>unsupported "internal:collect")|_=>unsupported "internal:collect") Q E i) E) (s:={s with heap:=s.heap.push {cls:=.type "list",data:=.seq ([]:G B).toArray}}) K l (K.keep _ _ W6 λb _ o e=>br _ e) _ (WX h.1) (WX h.2) _ 0 m (λc k q t j f g=>?_) u;show Ld (agK f ?_);show VH (p c k q (λb o e=>j b o (Wc (bP e)) (br _ e)) g)
end
end PySem.W
namespace PyProof.Rows
open PySem
section
variable{Y:V8}{w:Wv}{A:Wl}{E:Vu->VG->Prop}{s:VG}{T:String}{r d:VF}{n:Nat}{P:Nat->Vu->Prop}{X:Heap->Prop}
def Bj(K:PySem.W.KdlSrc Y w T r d n P X)(p:A.handled=U)(W6:X s.heap)(l:n<64)(t:∀acc:Array Vu,aaW P acc n->IntsAre acc.toList ns)
  (h:∀(a c:Heap) (g:Nat) (out:Array Vu) (e:Nat) (f:G Int),(∀b o,s.heap.get? b=R o->a.get? b=R o)->c.get? a.objs.size=R (seqObj "list" out e)->(∀b o,a.get? b=R o->c.get? b=R o)->IntsAre out.toList f->f.Perm ns->f.Pairwise (·<=·)->Q (.ref a.objs.size) {s with heap:=c,toks:=g}):
  wpAny (model Y w) A (call (.builtin "sorted") [.ref r]) Q E s:=by
 show Calls.call_function_entry kind_sorted plain_sorted entry_sorted (args_sorted1 _) (Ld (VH (Ld (PySem.W.collect_kdl K p W6 (by rw[X5];ext) (λa g acc m C=>Ld (amI ?_ (hsz:=by rw[Ww,C.1,X5];ext)))))));let i:(a.push (seqObj "list" acc.toList.toArray 0)).get? a.objs.size=R (seqObj "list" acc.toList.toArray 0):=cj _ W;let j:=t acc C;show Ld (W4 (XG slot_list_sort #[_,i,W] entry_list_sort (list_sort_tree i j (by rw[Ww,C.1];show l) λout f y v u=>#[_,W,VH #[_,W,?_]]) (args_list_sort _)));let(e,q):=tH i;show h a _ g out e f m q (λb B z=>rR (Wc (bP z)) (br _ z)) y v u
end
end PyProof.Rows
namespace L10
open PySem PySem.Spec PyProof.Rows L2 L3
def Ug(p d:M):HO:=.ext λh=>h.IsValuesView p d
theorem TU(x:h.IsValuesView p d):ObjOk g w H h p (Ug p d):=#[x,let#[o,a,_]:=x;#[o,a],λf e #[o,a,b] k=>#[o,k o a,b]]
def Pa:V->G V->Hp->VK->Prop:=λx b H Q=>∃a e,x=.ref a/\b=[]/\H a=R (.dK e)/\∀p,H p=U->Q (.ref p) (bL H p (Ug p a))
def wj:Up X "dict.values" Pa:=by intro g s m H x xs v n Q I i f h;let(a,r,rfl,rfl,e,q):=h;ext i;ext f;let(z,l,p,j,dd):=A9 I.W6 e;show acy ZO dd.typeIs PySem.F.entry_dict_values (PySem.F.args_dict_values_1 _) (meets_dict_values (dw X.prog X.w) a l) #[#[p,dd],?_];show#[.ref s.heap.objs.size,_,I.laid (λb o e=>br _ e) (VP _) (TU #[_,cj _ W,W,W]),W,q _ (I.W6.fresh (VP _))]
def Iy:G V->Hp->VK->Prop:=λxs H Q=>∃p a b,xs=[.ref p]/\H p=R (Ug p a)/\H a=R (.dK b)/\∀l,H l=U->Q (.ref l) (bL H l (.lst (b.map (·.2))))
theorem DJ:∀{b:G (e×V)} {a:G (e×B)},KV b a->Vals (b.map (·.2)) (a.map (·.2))
 |_,_,.nil=>.nil
 |_,_,.cons h t=>.cons h.2 (DJ t)
def uG(n:X.calm=P):YM X (.type "list") Iy:=by intro g s C H xs E Q I r h;let(p,a,N,rfl,w,e,q):=h;let(u,rfl,l):=lO r;ext l;let(z,G,S,b,dd):=A9 I.W6 e;let(K,B):=dd.dictAt;let(i,_,_):=I.W6 p _ w;show PySem.W.kdl_call (PySem.W.kdl_values) (I.ok.hd n) #[i,B] (by rw[<-b.length];show z) λJ F f c m t L=>?_;let A:=PySem.W.kdl_vals_eq f.toList (by rw[Ww];show L.1) λj v y=>L.2 j v (by rw[<-Zc];show y);show#[.ref s.heap.objs.size,_,I.laid (o:=.lst (N.map (·.2))) m (VP _) #[by rw[Vw];show z,f.toList,c,by rw[A];show DJ b,by rw[adL];show t],W,q _ (I.W6.fresh (VP _))]
def IJ:G V->Hp->VK->Prop:=λxs H Q=>∃(p:M) (e:G (c9×V)) (a:G Int),xs=[.ref p]/\H p=R (.dK e)/\e.map (·.1)=a.map Sum.inl/\a.length<64/\∀(l:M) (b:G Int),H l=U->b.Perm a->b.Pairwise (·<=·)->Q (.ref l) (bL H l (.lst (b.map V.int)))
theorem tS:∀{c:G (c9×B)} {ns:G Int} {us:G B},c.map (·.1)=ns.map Sum.inl->us.length=c.length->(∀(j:Nat) (u:B),us[j]?=R u->∃k x,c[j]?=R (k,x)/\(dw prog w).is k u=P)->IntsAre us ns
 |[],[],[],_,_,_=>.nil
 |[],[],_::_,_,h,_=>by simp at h
 |[],_::_,_,h,_,_=>by simp at h
 |_::_,[],_,h,_,_=>by simp at h
 |_::_,_::_,[],_,h,_=>by simp at h
 |(k,y)::c,n::ns,u::us,i,m,l=>by rw[V1,V1,anW]at i;let(g,x,e,b):=l 0 u W;ext e;let f:=i.1;subst f;let(t,rfl):=Vu.isInt_shape (show Vu.isInt n u=P from b);show .cons _ _ (tS i.2 (by simpa using m) λj a e=>l (j+1) a (by simpa using e))
def uQ(E:X.calm=Vx):YM X (.builtin "sorted") IJ:=by
 intro i s O H xs P Q I r h;let(p,Wf,l,rfl,e,J,F,q):=h;let(u,rfl,t):=lO r;ext t;let(z,C,vs,b,dd):=A9 I.W6 e;let(U,M):=dd.dictAt;let m:vs.map (·.1)=l.map Sum.inl:=by rw[<-b.keys];show J
 let S:vs.length=l.length:=by let:=dP ZV m;simpa using this
 show Bj (PySem.W.kdl_dict C) (I.ok.hd E) M () (λN Y=>tS m (by rw[Ww];show Y.1) λj v K=>Y.2 j v (by rw[<-Zc];show K)) λG T R f L w A B g Y n y=>?_;let a:=n.length_eq;let o:=I.kept (t':=s.toks) A;show#[.ref G.objs.size,_,o.laid g (VP _) ?_,W,q _ w (o.W6.fresh (VP _)) n y];show#[?_,f.toList,L,kA Y,B];rw[Vw,a];let:(64:Nat)<=VT:=by decide
 ext
end L10
namespace PySem
open Sem (wp)
namespace F
def lk_tuple_keys:typeLookup (.type "tuple") "keys"=pure U:=by rw[abk,Zs];kernel_rfl
def lk_tuple_hook:typeLookup (.type "tuple") "__getattr__"=pure U:=by rw[abk,Zs];kernel_rfl
def sub_ae:isSubtype (.type "AttributeError") (.type "AttributeError")=pure P:=by rw[akD];kernel_rfl
end F
section
variable{Y:V8}{w:Wv}{A:Wl}{E:Vu->VG->Prop}{h:Heap}{g:Array aaT}{d:aeI}{t:Nat}{X:adA}{a:VF}{o:Obj}
def Cm{α:Type}{name f:Str}{Q:α->VG->Prop}{E:B->VG->Prop}(hm:f.length<=VT)(l:A.handled=U)(i:∀e c k,(∀b o,h.get? b=R o->c.get? b=R o)->(#[c,g,d,k,X]:VG).TypeIs e "AttributeError"->E e #[c,g,d,k,X]):
  wpAny (model Y w) A (raiseAttrError (.ref a) name f:Sem α) Q E #[h,g,d,t,X]:=by
 let j:¬f.length>VT:=Nat.not_lt.mpr hm;unfold raiseAttrError newExc newTuple
 repeat (any_goals (first|assumption|wp_step))
 show ac5 (a:=P) F.sub_ae ?_
 repeat (any_goals (first|assumption|wp_step))
 show agn l (i _ _ _ (λb o e=>?_) ?_)
 .show(cn _ _ (dr (Wc (bP (br _ e))))).trans (br _ (br _ e))
 .show#[_,cv _ (cj _ W) W,W]
def rJ{f:Tok}{Q:Fin->VG->Prop}{E:B->VG->Prop}{p:Array B}{n:Nat}{i:Array (I B)}(j:h.get? a=R #[.type "tuple",U,.seq p n,i])(m:A.handled=U)(l:∀e c k,(∀b o,h.get? b=R o->c.get? b=R o)->(#[c,g,d,k,X]:VG).TypeIs e "AttributeError"->E e #[c,g,d,k,X]):
  wpAny (model Y w) A (Builtin.«object.__getattribute__» #[[.ref a,.str "keys" f],[]]) Q E #[h,g,d,t,X]:=by
 let q:(#[h,g,d,t,X]:VG).TypeIs (.ref a) "tuple":=#[_,j,W];let r:=F.lk_tuple_keys
 repeat (any_goals (first|assumption|wp_step))
 show Cm (by left) m l
def vY{f:Tok}{Q:B->VG->Prop}{E:B->VG->Prop}{u:Array B}{n:Nat}{l:Array (I B)}(i:h.get? a=R #[.type "tuple",U,.seq u n,l])(q:A.handled=U)(m:∀e c k,(∀b o,h.get? b=R o->c.get? b=R o)->(#[c,g,d,k,X]:VG).TypeIs e "AttributeError"->E e #[c,g,d,k,X]):
  wpAny (model Y w) A (getAttrBy (.ref a) (.str "keys" f) VO) Q E #[h,g,d,t,X]:=by
 let r:(#[h,g,d,t,X]:VG).TypeIs (.ref a) "tuple":=#[_,i,W];let z:=F.slot_tuple_getattribute.lookup;let y:=F.slot_tuple_getattribute.bind (.ref a);let v:=F.lk_tuple_hook
 repeat (any_goals (first|assumption|wp_step))
 show ZG F.slot_tuple_getattribute.plain F.entry_tuple_ga (F.slot_tuple_getattribute.check _ _ _ _ _ _ _ _ r (F.args_tuple_getattribute_2 _ _) (rJ i q λe c k p j=>?_));let fs:=F.sub_ae;show wpAny (model Y w) A (getattributeRaised (Vu.ref a) (Vu.str (Str.ofString "keys") f) (Vu.type "tuple") e U VO VO) Q E _;ext getattributeRaised;show Ld (aaV j fs ?_)
 repeat (any_goals (first|assumption|wp_step))
 show m e c k p j
def sI(f:h.get? a=R #[.type "tuple",U,.seq q n,p])(l:A.handled=U)(i:∀c k,(∀b o,h.get? b=R o->c.get? b=R o)->Q U #[c,g,d,k,X]):
  wpAny (model Y w) A (getAttr? (.ref a) "keys") Q E #[h,g,d,t,X]:=by
 unfold getAttr? getAttrBy?;let fs:=F.sub_ae;show Ld ?_
 repeat (any_goals (first|assumption|(specialize vY f l λe c k j m=>?_)|wp_step))
 show i c k j
namespace F
theorem entry_upd_loop:entryFor table "dict.update.loop"=R Builtin.«dict.update.loop»:=entryFor_of_tree (by kernel_rfl)
def plain_upd_loop:plainId "dict.update.loop"=P:=by left
end F
end
section
variable{prog:V8}{w:Wv}{A:Wl}{E:Vu->VG->Prop}{s:VG}{K:Type}[DecidableEq K]{knd:KeyKind prog w K}{I dd Z:VF}{items:Array Vu}{ks:bb (K×Vu)}{R:abH->VG->Prop}
def Cs(a:G (K×B))(k:K)(v:B):(stored a k v).length<=a.length+1:=by
 ext stored;split
 .rw[Vw];ext
 .rw[Vy];show VP _
theorem rY:∀(a c:G (K×B)),(merged c a).length<=c.length+a.length
 |[],c=>VP _
 |p::r,c=>by let e:=rY r (stored c p.1 p.2);let b:=Cs c p.1 p.2;show(merged (stored c p.1 p.2) r).length<=_;rw[V0];ext
def Bl(a:G (K×B)):(merged [] a).length<=a.length:=by let:=rY a [];simpa using this
def Hi{Q:Heap}(D:A.handled=Vt)(H:Z≠I)(P:I≠dd)(O:Z≠dd)(d:∀(i:Nat) (v:Vu),items[i]?=lD v->∃q key k x,v=.ref q/\q≠dd/\q≠I/\ks[i]?=lD (k,x)/\knd.is k key=Vx/\Q.IsTuple q #v[key,x])(hs:ks.length=items.size)(hz:items.size<=VT)
  (V:∀c l,c.DictOf knd dd (merged [] ks)->(∀b o,b≠dd->b≠I->Q.get? b=lD o->c.get? b=lD o)->R (.ok (.ret .none)) {s with heap:=c,toks:=l}):
  ∀(m i:Nat) (h:Heap) (l:Nat),items.size - i=m->i<=items.size->h.IsTupleIter I Z i->h.IsTuple Z items->h.DictOf knd dd (merged [] (ks.take i))->(∀b o,b≠dd->b≠I->Q.get? b=lD o->h.get? b=lD o)->
   codeAny (model prog w) A (.builtin "dict.update.loop" #[[.ref dd,.ref I,rawInt i,.none],[]]) R {s with heap:=h,toks:=l}:=by
 let W:=Walks.tuple (prog:=prog) (w:=w) (A:=A.in1) D I Z H items;intro m
 induction m with
 |zero=>
  intro i h l hm hi B u t r;let e:i=items.size:=by ext
  subst e;show Y2 F.entry_upd_loop ?_;rw[Wl.under_plainId F.plain_upd_loop _];show Ld (W.done _ _ _ #[B,u] λc f g=>?_);rw[aau ()]at t;show Ld (VH (VH ?_));show V c f (t.at λo e=>g dd o (by simp;show λz=>P z.symm) e) λb o j a e=>g b o (by simp;show a) (r b o j a e)
 |succ m ih=>
  intro i h l hm hi B u t r;let X:i<items.size:=by ext
  show Y2 F.entry_upd_loop ?_;rw[Wl.under_plainId F.plain_upd_loop _];show Ld (W.item i _ _ _ X #[B,u] λv c f hv U g=>?_);let(q,key,k,x,rfl,G,n,L,J,ht):=d i v hv;let C:=ht.at λo e=>g q o (by simp;show n) (r q o G n e);let T:=t.at λo e=>g dd o (by simp;show λz=>P z.symm) e;let y:=λb o j a e=>g b o (by simp;show a) (r b o j a e);let(oq,p,N,nq,M):=C;let(cq,dq,dtq,Y):=oq;ext N;ext M;let hT:({s with heap:=c,toks:=f}:VG).TypeIs (.ref q) "tuple":=#[_,p,rfl];show Ld (W4 (Ld ?_));show abK ?_;ext Builtin.Dict.pairItems;show Ld (YR hT ?_);rw[av ()];show Ld ?_;unfold seqItems?;show Ld (agK p (VH (VH ?_)));show W4 (wpAny_dictSet_pairs J T (λa d2 s2=>?_) ?_)
  .show VH #[Yw F.plain_upd_loop _,?_];let S:∀b o,b≠dd->c.get? b=lD o->a.get? b=lD o:=λb o hb e=>(s2.2 b hb).trans e;show ih (i+1) a (f+1) () X (U.1.at λo e=>S I o P e) (U.2.at λo e=>S Z o O e) ?_ λb o j a e=>S b o j (y b o j a e);rw[merged_take_succ [] ks i (k,x) L];show d2
  .let:(merged [] (ks.take i)).length<=(ks.take i).length:=Bl _;rw[W2]at this;ext
end
end PySem
namespace PySem
open Sem (wp)
open PyProof.Rows
section
variable{T:V8}{w:Wv}{A:Wl}{E:Vu->VG->Prop}{s:VG}{K:Type}[DecidableEq K]{X:KeyKind T w K}{Z:VF}{Y:Array Vu}{S:bb (K×Vu)}{R:abH->VG->Prop}
def sD(B:A.handled=U)(z:s.heap.get? Z=lD #[.type "tuple",U,.seq Y n,sl])(H:S.length=Y.size)(D:Y.size<=VT)
  (I:∀(i:Nat) (v:Vu),Y[i]?=lD v->∃q key k x,v=.ref q/\S[i]?=lD (k,x)/\X.is k key=P/\s.heap.IsTuple q #v[key,x])
  (h:∀c d,c.DictOf X s.heap.objs.size (merged [] S)->(∀b o,s.heap.get? b=lD o->c.get? b=lD o)->Q (.ref s.heap.objs.size) {s with heap:=c,toks:=d}):
  wpAny (model T w) A (call (.type "dict") [.ref Z]) Q E s:=by
 show akE (Q₁:=λobj f=>obj=.ref s.heap.objs.size/\f={s with heap:=s.heap.push {cls:=.type "dict",data:=.dict #v[]}}) F.kt_called_dict (F.kt_typeCall_dict_1 _) F.entry_dict_init (kt_code_dict_new _ #[W,W]) ?_;rintro obj f ⟨rfl,rfl⟩;let a:(s.heap.push {cls:=.type "dict",data:=.dict #v[]}).DictOf X s.heap.objs.size []:=Heap.DictOf.new s.heap;let g:(s.heap.push {cls:=.type "dict",data:=.dict #v[]}).get? Z=lD #[.type "tuple",U,.seq Y n,sl]:=br _ z;let J:({s with heap:=s.heap.push {cls:=.type "dict",data:=.dict #v[]}}:VG).TypeIs (.ref Z) "tuple":=#[_,g,W];show#[a.typeIs,F.args_dict_init_2 _ _,?_];unfold Builtin.«dict.__init__»;show Ld ?_;ext Builtin.Dict.selfAndRest;show Ld (afC a.typeIs ?_);show VH ?_;show wpAny _ _ (Builtin.Dict.updateFrom "dict.__init__" s.heap.objs.size (.ref Z) [] .none) _ _ _;ext Builtin.Dict.updateFrom;show Ld (YR J ?_);rw[av ()];show Ld (sI g B λc C m=>?_);rw[av (show(U:bg Vu).isNone=P from rfl)];show Ld (Zw ?_);let l:=m _ _ g;let t:c.IsTuple Z Y:=#[_,l,W,n,W];show Ld (abr t ?_);show VH #[Yw F.plain_upd_loop _,?_];let Sv:s.heap.objs.size<c.objs.size:=by let(o,_,_,p,_):=a;show bP (m _ _ p)
 let j:=bP z;show Hi (A:=A.in1) (knd:=X) B (Wc (Y5 j Sv)) (WX Sv) (Wc j) (λi v e=>?_) H D (λu r N G=>?_) Y.size 0 _ C () (Wx _) #[_,cj _ W,W,W] #[_,br _ l,W,n,W] ?_ λb o _ _ e=>e
 .let(q,key,k,x,rfl,M,u,o,p,L):=I i v e;let y:=bP p;show#[q,key,k,x,W,Wc y,Wc (Y5 y Sv),M,u,o,br _ (m _ _ (br _ p)),L]
 .show#[W,h u r N λb o e=>?_];let lb:=bP e;show G b o (Wc lb) (Wc (Y5 lb Sv)) (br _ (m _ _ (br _ e)))
 .let:=a.at (h':=c.push {cls:=.type "tuple_iterator",data:=.fields #v[.ref Z,.int 0 0]}) λo e=>br _ (m _ _ e);show this
end
end PySem
namespace L10
open PySem PySem.Spec PyProof.Rows L2 L3
inductive acL(K:Vs)(H:Hp):G V->G (c9×V)->Prop
 |nil:acL K H [] []
 |cons {q:M} {k:c9} {v:V} {vs:G V} {Wf:G (c9×V)}:ZQ K H q [kV k,v]->acL K H vs Wf->acL K H (.ref q::vs) ((k,v)::Wf)
def Iz(K:Vs):G V->Hp->VK->Prop:=λxs H Q=>∃p a b,xs=[.ref p]/\ZQ K H p a/\acL K H a b/\∀d,H d=U->Q (.ref d) (bL H d (.dK (rj [] b)))
theorem Jg(I:Inv X pins σ H s):∀{j:G V} {z:G (c9×V)} {us:G B},acL X.K H j z->Vals j us->∃d:G (c9×B),KV z d/\d.length=us.length/\∀(i:Nat) (v:B),us[i]?=R v->∃q key k x,v=.ref q/\d[i]?=R (k,x)/\(dw X.prog X.w).is k key=P/\s.heap.IsTuple q #v[key,x]
 |_,_,_,.nil,.nil=>#[[],.nil,W,λi v e=>by simp at e]
 |_,_,_,.cons (q:=q) (k:=k) (v:=v) h t,.cons r rs=>by
  let(d,p,o,n):=Jg I t rs;let(y,A,pl,_):=I.tuple h;ext r;obtain⟨g,f,rfl,m,l⟩:∃g f,y=[g,f]/\RelV (kV k) g/\RelV v f:=by
   cases A with
   |cons a b=>cases b with
    |cons b c=>ext c;show#[_,_,W,a,b]
  show#[(k,f)::d,.cons #[W,l] p,by rw[V0,V0,o],λi u e=>?_];cases i with
  |zero=>ext e;show#[q,g,k,f,W,W,v5 m,pl]
  |succ i=>show n i u (by simpa using e)
def C6(J:X.calm=Vx):YM X (.type "dict") (Iz X.K):=by
 intro f s L H xs N Q I r h;let(p,M,Wf,rfl,z,A,q):=h;let(u,rfl,j):=lO r;ext j;let(U,Y,(o,B,(b,n,G),a),y):=I.ag1 z;let(S,g,w,t):=Jg I A Y;let(R,P,m,l):=o;ext b;ext G;ext a;let C:=Y.length;let E:=g.length;show sD (I.ok.hd J) B (by rw[VY];show w) (by rw[VY,<-C];show y) (λi v e=>t i v (by simpa using e)) λT O dd F=>?_;show#[.ref s.heap.objs.size,_,I.laid F (VP _) ?_,W,q _ (I.W6.fresh (VP _))];show Bo ?_ ?_ (KV.merge g .nil) dd
 .let:=ou Wf [];rw[XI]at this;ext
 .show beq_eq_false_iff_ne.mpr (WX I.big)
end L10
namespace L10
open PySem PyProof.Rows L2 L3
def Qv:Xb "dict"=R (.type "dict"):=by left
section
variable{B O O':cH}{K:Vs}{E:XK}{H H' R P:Hp}{Y α' U T:bb VF}{Z Z' Z1 X:bp}{S:L2.St}{ρ:bz}{v:V}
def vV:SV->I c9
 |.fz (.int i)=>lD (.inl i)
 |.fz (.str x)=>lD (.inr x)
 |_=>Vt
def sZ(e:vV x=lD k)(h:YX O K H Y v x):v=kV k:=by
 unfold vV at e;split at e
 .ext e;ext h;rfl
 .ext e;ext h;rfl
 .ext e
abbrev xu(O:cH)(K:Vs)(H:Hp)(Y:G M):G (c9×V)->G (c9×SV)->Prop:=Paired (λ(p:c9×V) (q:c9×SV)=>p.1=q.1/\YX O K H Y p.2 q.2)
def jr(Z:bp):SV->I (Nat×G (c9×SV))
 |.rf i=>match Z[i]? with
  |some (.dct a)=>lD (i,a)
  |_=>Vt
 |_=>Vt
def oG(s:Ws B K H Y Z)(b:YX (ow B Y Z) K H Y v x)(h:jr Z x=lD (i,o)):Z[i]?=lD (.dct o)/\∃a ws,Y[i]?=lD a/\v=.ref a/\H a=lD (.dK ws)/\xu (ow B Y Z) K H Y ws o:=by
 cases x with
 |fz d=>ext h
 |tp l=>ext h
 |rf j=>
  let(a,n,rfl):=b;unfold jr at h;dsimp only at h;cases q:Z[j]? with
  |none=>rw[q]at h;ext h
  |some c=>
   rw[q]at h;cases c with
   |dct m=>let e:=VZ h;ext e;let(ws,g,f):=s.cel i a _ n q;show#[q,a,ws,n,W,g,f]
   |_=>ext h
def kN(b:G (c9×SV))(k:c9):I SV:=(b.find? λa=>decide (a.1=k)).map (·.2)
def lR(b:G (c9×SV))(k:c9)(x:SV):G (c9×SV):=
 if(b.any λa=>decide (a.1=k))=Vx then b.map (λa=>if a.1=k then(a.1,x)else a)else b++[(k,x)]
def oM(b:G (c9×SV))(k:c9):G (c9×SV):=b.filter λa=>decide (a.1≠k)
theorem tq:∀{ws:G (c9×V)} {c:G (c9×SV)},xu O K H Y ws c->(∀x,kN c k=lD x->∃v,lY ws k=lD v/\YX O K H Y v x)/\(kN c k=Vt->lY ws k=Vt)
 |_,_,.nil=>#[λx e=>(by ext e),λ_=>W]
 |(a,u)::ws,(b,y)::c,.cons #[g,f] t=>by
  ext g;unfold kN lY;rw[WC,WC];by_cases e:a=k
  .simp only[aE e];show#[λx h=>#[u,W,by ext h;show f],λh=>by ext h]
  .simp only[aP e];show tq t
theorem S4:∀{ws:G (c9×V)} {d:G (c9×SV)},xu O K H Y ws d->(ws.any λc=>decide (c.1=k))=d.any λc=>decide (c.1=k)
 |_,_,.nil=>rfl
 |(a,u)::ws,(b,y)::d,.cons #[e,f] t=>by ext e;rw[Zl,Zl,S4 t]
theorem Qx(f:YX O K H Y v x):∀{ws:G (c9×V)} {d:G (c9×SV)},xu O K H Y ws d->xu O K H Y (ws.map (λc=>if c.1=k then(c.1,v)else c)) (d.map (λc=>if c.1=k then(c.1,x)else c))
 |_,_,.nil=>.nil
 |(a,u)::ws,(b,y)::d,.cons #[h,g] t=>by
  ext h;rw[V1,V1];by_cases e:a=k
  .rw[av e,av e];show .cons #[W,f] (Qx f t)
  .rw[ax e,ax e];show .cons #[W,g] (Qx f t)
def Hs(h:xu O K H Y ws e)(r:p.1=q.1/\YX O K H Y p.2 q.2):xu O K H Y (ws++[p]) (e++[q]):=by
 induction h with
 |nil=>show .cons r .nil
 |cons a _ b=>show .cons a b
def Ew(a:YX O K H Y v x)(h:xu O K H Y ws b):xu O K H Y (kF ws k v) (lR b k x):=by
 unfold kF lR;rw[S4 h];split
 .show Qx a h
 .show Hs h #[W,a]
theorem tX:∀{ws:G (c9×V)} {c:G (c9×SV)},xu O K H Y ws c->xu O K H Y (qM ws k) (oM c k)
 |_,_,.nil=>.nil
 |(a,u)::ws,(b,y)::c,.cons #[g,f] t=>by
  ext g;unfold qM oM;rw[aam,aam];by_cases e:a=k
  .let z:decide (a≠k)=VO:=aP λn=>n e;simp only[z];show tX t
  .let z:=aE e;simp only[z];show .cons #[W,f] (tX t)
def Az(neg:Bool)(a fd:dM):dM:=λρ Z=>(a ρ Z).bind λx Z1=>(fd ρ Z1).bind λo X=>(RS.WN X (vV x)).bind λk X=>(RS.WN X (jr X o)).bind λp X=>.ok (.fz (.bool ((kN p.2 k).isSome !=neg))) X
def Ki(h:xu O K H Y ws f):(lY ws k).isSome=(kN f k).isSome:=by
 let(b,a):=tq h;cases q:kN f k with
 |none=>rw[a q];rfl
 |some x=>let(u,e,_):=b x q;rw[e];rfl
def MQ(p:cY K E z C)(hd:cY K E A fd):cY K E (Tb z A) (Az VO C fd):=by intro B S H Y Z ρ Q s e w;show p B S H Y Z ρ _ s e (w.bind.imp λx U Z1 R t h g v m=>?_);show hd B S R U Z1 ρ _ h (e.Yh t) (g.bind.imp λo T X P y f b u n=>?_);let(k,l,b):=WS.WN b;let((i,L),j,b):=WS.WN b;let(_,a,ws,J,rfl,r,q):=oG f n j;show#[a,lY ws k,W,by rw[sZ l m];show ac0.k r,?_];rw[Ki q];show WS.now f b _ ?_;rw[Bool.bne_false];show .bl _
def v8(fd a:dM):dM:=λρ Z=>(fd ρ Z).bind λo Z1=>(a ρ Z1).bind λx X=>(RS.WN X (vV x)).bind λk X=>(RS.WN X (jr X o)).bind λp X=>RS.WN X (kN p.2 k)
def zL(hd:cY K E L fd)(t:cY K E J N):cY K E (Pj L J) (v8 fd N):=by
 intro B S H Y Z ρ Q s e w;show hd B S H Y Z ρ _ s e (w.bind.imp λo U Z1 R G j g u r=>?_);show t B S R U Z1 ρ _ j (e.Yh G) (g.bind.imp λx T X P F f b v p=>?_);let(k,m,b):=WS.WN b;let((i,Wf),l,b):=WS.WN b;let(_,a,ws,ha,rfl,C,A):=oG f (r.Yh F) l;dsimp only at b;cases q:kN Wf k with
 |none=>rw[q]at b;show b.elim
 |some y=>rw[q]at b;let(z,n,h):=(tq A).1 y q;show#[a,z,W,by rw[sZ m p,<-n];show ac0.k C,WS.now f b z h]
def ze(fd e b:dM):fF:=λρ Z=>(b ρ Z).bind λy Z1=>(fd ρ Z1).bind λo X=>(e ρ X).bind λx a=>(RS.WN a (vV x)).bind λk a=>(RS.WN a (jr a o)).bind λp a=>if p.2.length<1000000 then .ok (.nx ρ) (a.set p.1 (.dct (lR p.2 k y)))else .bad
def Ke(hd:cY K E td fd)(d:cY K E tk fk)(c:cY K E tv fv):pA K E (O8 td tk tv) (ze fd fk fv):=by
 intro B S H Y Z ρ D s f w;show c B S H Y Z ρ _ s f (WS.imp (WS.bind w) λy U Z1 R q L I t m=>?_);show hd B S R U Z1 ρ _ L (f.Yh q) (WS.imp (WS.bind I) λo T X P p J G u hu=>?_);show d B S P T X ρ _ J (f.Yh (q.trans p)) (WS.imp (WS.bind G) λx b g j n A e z Q=>?_);let(k,N,e):=WS.WN e;let((i,Wf),M,e):=WS.WN e;let(l,a,ws,ha,rfl,g1,C):=oG A (hu.Yh n) M;dsimp only at e;by_cases hn:Wf.length<1000000
 .rw[av hn]at e;let ev:Ev (ow B b g) j (ow B b g) (bL j a (.dK (kF ws k t))):=rK ha l (by nofun);let F:XQ b g j b (g.set i (.dct (lR Wf k y))) (bL j a (.dK (kF ws k t))):=XQ.put ha l (by nofun) (by nofun);let hl:=Paired.length C;show#[a,_,W,by rw[sZ N Q];show ae8.k g1 (ub ()),?_];show e b _ F (A.put ha l (by nofun) (by nofun) #[_,aX,Ew ((m.Yh (p.trans n)).ev ev λ_ _ h=>h) (Paired.ZR C λ_ _ r=>#[r.1,r.2.ev ev λ_ _ h=>h])]) S ((f.Yh (q.trans (p.trans n))).Yh F)
 .rw[ax hn]at e;show e.elim
def Ak(fd a:dM):dM:=λρ Z=>(fd ρ Z).bind λo Z1=>(RS.WN Z1 (jr Z1 o)).bind λ_ Z1=>(a ρ Z1).bind λx X=>(RS.WN X (vV x)).bind λk X=>(RS.WN X (jr X o)).bind λp X=>(RS.WN X (kN p.2 k)).bind λy X=>.ok y (X.set p.1 (.dct (oM p.2 k)))
def Jq(hd:cY K E td fd)(L:cY K E tk fk):cY K E (JX td tk) (Ak fd fk):=by intro B S H Y Z ρ Q s j w;show hd B S H Y Z ρ _ s j (w.bind.imp λo U Z1 R e1 m f u n=>?_);let((i0,ai4),G,f):=WS.WN f;let(_,a,e,_,rfl,N,_):=oG m n G;show#[a,W,.inl #[e,.inl N],?_];show L B S R U Z1 ρ _ m (j.Yh e1) (f.bind.imp λx T X P e2 l b v J=>?_);let(k,F,b):=WS.WN b;let((i,Wf),C,b):=WS.WN b;let(g,a',ws,ha,ea,M,p):=oG l (n.Yh e2) C;ext ea;dsimp only at b;let(y,q,b):=WS.WN b;let(z,I,A):=(tq p).1 y q;let ev:Ev (ow B T X) P (ow B T X) (bL P a (.dK (qM ws k))):=rK ha g (by nofun);let t:XQ T X P T (X.set i (.dct (oM Wf k))) (bL P a (.dK (qM ws k))):=XQ.put ha g (by nofun) (by nofun);show#[ws,k,z,M,sZ F J,I,?_];show b T _ t (l.put ha g (by nofun) (by nofun) #[_,aX,tX (Paired.ZR p λ_ _ r=>#[r.1,r.2.ev ev λ_ _ h=>h])]) z (A.Yh t)
def qB(s:Ws B K H Y Z)(a:H p=Vt)(w:WS K E B H Y Z (PQ B K Q) (.ok (.rf Z.length) (Z++[c])))(f:∀e:XQ Y Z H (Y++[p]) (Z++[c]) (bL H p o),COk (ow B (Y++[p]) (Z++[c])) K (bL H p o) (Y++[p]) p c):Q (.ref p) (bL H p o):=by let b:XM H (bL H p o):=cG a _;let e:XQ Y Z H (Y++[p]) (Z++[c]) (bL H p o):=XQ.acD s.len b a;show w _ _ e (s.acD b a (by rw[aX];simp) (f e)) _ #[p,by rw[<-s.len];show aQ,W]
def Fj(fd:dM):dM:=λρ Z=>(fd ρ Z).bind λo Z1=>(RS.WN Z1 (jr Z1 o)).bind λp Z1=>.ok (.rf Z1.length) (Z1++[.lst (p.2.map (·.2))])
theorem zD:∀{ws:G (c9×V)} {a:G (c9×SV)},xu O K H Y ws a->Yx O K H Y (ws.map (·.2)) (a.map (·.2))
 |_,_,.nil=>.nil
 |_,_,.cons h t=>.cons h.2 (zD t)
def z7(hd:cY K E J fd):cY K E (Oh Iy (iy (Tu K "dict" Pa J) n9)) (Fj fd):=by intro B S H Y Z ρ Q s m w;show hd B S H Y Z ρ _ s m (w.bind.imp λo U Z1 R F h f u t=>?_);let((i,N),q,f):=WS.WN f;let(C,a,ws,L,rfl,g,A):=oG h t q;show#[.inr (.inr (.inl #[W,.inl #[ws,g]])),a,ws,W,W,g,λp y=>?_];let b:XM R (bL R p (Ug p a)):=cG y _;let n:=h.grow b;let j:=WS.from (XQ.same b) f;show#[p,a,ws,W,aX,b _ _ g,λl z=>?_];show qB n z j λe=>#[_,aX,zD (Paired.ZR A λ_ _ r=>#[r.1,(r.2.Yh (XQ.same b)).Yh e])]
def Dg:c9->I Int
 |.inl i=>lD i
 |.inr _=>Vt
def wE(fd:dM):dM:=λρ Z=>(fd ρ Z).bind λo Z1=>(RS.WN Z1 (jr Z1 o)).bind λp Z1=>(RS.WN Z1 (aV Dg (p.2.map (·.1)))).bind λa Z1=>if a.length<64 then .ok (.rf Z1.length) (Z1++[.lst ((mv a).map λi=>SV.fz (.int i))])else .bad
theorem vD:∀{b:G c9} {ns:G Int},aV Dg b=lD ns->b=ns.map Sum.inl
 |[],_,e=>by ext e;rfl
 |k::r,ns,e=>by
  unfold aV at e;cases k with
  |inr x=>ext e
  |inl i=>
   dsimp only[Dg]at e;cases q:aV Dg r with
   |none=>rw[q]at e;ext e
   |some a=>rw[q]at e;ext e;rw[V1,<-vD q]
theorem zU:∀{ws:G (c9×V)} {a:G (c9×SV)},xu O K H Y ws a->ws.map (·.1)=a.map (·.1)
 |_,_,.nil=>rfl
 |_,_,.cons h t=>by rw[V1,V1,h.1,zU t]
theorem Dw(O:cH)(K:Vs)(H:Hp)(Y:G M):∀ns:G Int,Yx O K H Y (ns.map V.int) (ns.map λi=>SV.fz (.int i))
 |[]=>.nil
 |n::r=>.cons (.int n) (Dw O K H Y r)
def zm(hd:cY K E J fd):cY K E (Oh IJ (iy J n9)) (wE fd):=by
 intro B S H Y Z ρ Q s h w;show hd B S H Y Z ρ _ s h (w.bind.imp λo U Z1 R F g b u n=>?_);let((i,N),m,b):=WS.WN b;let(A,a,ws,L,rfl,y,t):=oG g n m;let(f,j,b):=WS.WN b;by_cases hn:f.length<64
 .rw[av hn]at b;show#[a,ws,f,W,y,by rw[zU t];show vD j,hn,λl C r q p=>?_];let z:=nQ (q.trans (gj f).symm) p (fH f);subst z;show qB g r b λe=>#[_,aX,Dw _ _ _ _ _]
 .rw[ax hn]at b;show b.elim
def vq:D->I (c9×SV)
 |.tuple [.int i,d]=>lD (.inl i,.fz d)
 |.tuple [.str x,d]=>lD (.inr x,.fz d)
 |_=>Vt
def xU:SV->I (G (c9×SV))
 |.fz (.tuple ds)=>aV vq ds
 |_=>Vt
def GV(e:xU x=lD a):∃ds,x=.fz (.tuple ds)/\aV vq ds=lD a:=by
 unfold xU at e;split at e
 .show#[_,W,e]
 .ext e
def pp(c a:G (c9×SV)):G (c9×SV):=a.foldl (λb e=>lR b e.1 e.2) c
def AY(b:dM):dM:=λρ Z=>(b ρ Z).bind λx Z1=>(RS.WN Z1 (xU x)).bind λa Z1=>.ok (.rf Z1.length) (Z1++[.dct (pp [] a)])
theorem AM:∀{m:G V} {ds:G D} {k:G (c9×SV)},L3.Xx O K H m ds->aV vq ds=lD k->∃j,acL K H m j/\xu O K H Y j k
 |_,_,_,.nil,e=>by ext e;show#[[],.nil,.nil]
 |_,_,_,.cons (d:=d) (ds:=ds) h t,e=>by
  unfold aV at e;cases q:vq d with
  |none=>rw[q]at e;ext e
  |some p=>
   rw[q]at e;dsimp only at e;cases l:aV vq ds with
   |none=>rw[l]at e;ext e
   |some k=>
    rw[l]at e;ext e;let(j,i,g):=AM t l;unfold vq at q;split at q
    .ext q
     cases h with
     |tup h f=>cases f with
      |cons a b=>cases b with
       |cons b c=>ext c;ext a;show#[(.inl _,_)::j,.cons h.1 i,.cons #[W,b] g]
    .ext q
     cases h with
     |tup h f=>cases f with
      |cons a b=>cases b with
       |cons b c=>ext c;ext a;show#[(.inr _,_)::j,.cons h.1 i,.cons #[W,b] g]
    .ext q
theorem Et:∀{e:G (c9×V)} {f:G (c9×SV)} {ws:G (c9×V)} {c:G (c9×SV)},xu O K H Y e f->xu O K H Y ws c->xu O K H Y (rj ws e) (pp c f)
 |_,_,_,_,.nil,h=>h
 |(a,u)::e,(b,y)::f,_,_,.cons r t,h=>by let(i,g):=r;ext i;show xu O K H Y (rj (kF _ a u) e) (pp (lR _ a y) f);show Et t (Ew g h)
def Iw(n:cY K E t y):cY K E (Oh (Iz K) (iy t n9)) (AY y):=by
 intro B S H Y Z ρ Q s f w;show n B S H Y Z ρ _ s f (w.bind.imp λx U Z1 R p g b u l=>?_);let(A,q,a):=WS.WN b;let(ds,rfl,q):=GV q;let a:=a;cases l with
 |tup h m=>let(z,j,i):=AM m q;show#[_,_,z,W,h.1,j,λd o=>qB g o a λe=>#[_,aX,Et (Paired.ZR i λ_ _ r=>#[r.1,r.2.Yh e]) .nil]]
end
end L10
namespace PySem
open PyProof.Rows
def n6:I Int->Int->I Int
 |none,x=>R x
 |some m,x=>R (if x>m then x else m)
def SX:I (Int×Tok)->Array B
 |none=> #v[]
 |some (m,t)=> #v[.int m t,.int m t]
def Pi(d:B):I (Int×Tok)->B
 |none=>d
 |some (m,t)=>.int m t
namespace F
def args_maxd(a b:B):checkBuiltinCall "max" #[[a],[("default",b)]]=pure ⟨⟩:=by kernel_rfl
end F
section
variable{prog:V8}{w:Wv}{A:Wl}{E:Vu->VG->Prop}{R:abH->VG->Prop}{I l S:VF}{vs:bb Vu}{d:Vu}
def Nb(hh:A.handled=Vt)(D:l≠I)(r:S≠I)(Q:S≠l){s:VG}:
  ∀{B:bb Vu} {ns:bb Int},IntsAre B ns->∀(i:Nat) (h:Heap) (M:Nat) (b:bg (Int×Tok)) (c:Nat),vs=vs.take i++B->i<=vs.length->h.IsListIter I l i->h.IsList l vs.toArray->h.get? S=lD {cls:=.type "list",dict:=Vt,data:=.seq (SX b) c,slots:= #v[]}->
  (∀x M V,V.map (·.1)=ns.foldl n6 (b.map (·.1))->(∀a o,a≠I->a≠S->h.get? a=lD o->x.get? a=lD o)->R (.ok (.ret (Pi d V))) {s with heap:=x,toks:=M})->
  codeAny (model prog w) A (.builtin "max.loop" #[[.ref I,.none,.ref S],[("default",d)]]) R {s with heap:=h,toks:=M}:=by
 let W:=Walks.list (prog:=prog) (w:=w) (A:=A.in1) hh I l D vs.toArray;intro B ns hi
 induction hi with
 |nil=>
  intro i h M b c u hi it li T L;let e:i=vs.toArray.size:=by rw[Wi]at u;let:=dP ZV u;rw[W2]at this;rw[VY];ext
  show Y2 F.entry_max_loop ?_;rw[Wl.under_plainId F.plain_max_loop _];show Ld (Xh T rfl ?_);show Ld (abK (W.done _ _ _ (e▸#[it,li]) λx g y=>?_));let f:=y S _ (by simpa using r) T;cases b with
  |none=>show Ld (Zw (VH ?_));show L x g Vt rfl λa o j z e=>y a o (by simpa using j) e
  |some p=>let(m,t):=p;show Ld (abl f rfl (Ld (Yl (VH ?_))) (hz:=by show 2<=VT;decide));show L _ g (lD (m,t)) rfl λa o j z e=>(cn _ _ (dr z)).trans (y a o (by simpa using j) e)
 | @cons n t alV aim hr ih=>
  intro i h M b c u hi it li T L;let ZH:i<vs.toArray.size:=by let:=dP ZV u;rw[Vy,W2,V0]at this;rw[VY];ext
  let O:vs[i]?=lD (.int n t):=by rw[u,Wk (by rw[W2];ext),W2,aaO hi,aih];rfl
  let C:vs=vs.take (i+1)++alV:=by rw[X1,O];rw[V6];show u
  let G:i+1<=vs.length:=by rw[VY]at ZH;show ZH
  show Y2 F.entry_max_loop ?_;rw[Wl.under_plainId F.plain_max_loop _];show Ld (Xh T rfl ?_);show Ld (abK (W.item i _ _ _ ZH #[it,li] λv x g hP K y=>?_));let ev:v=.int n t:=by let U:=hP;rw[List.getElem?_toArray,O]at U;show(VZ U).symm
  subst ev;let f:=y S _ (by simpa using r) T;let J:(toString "max"++toString ".loop":String)= "max.loop":=by decide
  cases b with
  |none=>
   show wpAny _ A.in1 (updateSeq S (λ_=> #v[Vu.int n t,Vu.int n t])>>=_) _ _ _;show Ld (abl f rfl ?_);rw[J];show VH #[Yw F.plain_max_loop _,ih (i+1) _ g (lD (n,t)) _ C G (K.1.at λo e=>?_) (K.2.at λo e=>?_) (cv _ f rfl) λz q Y X N=>L z q Y X λa o j H e=>N a o j H ((cn _ _ (dr H)).trans (y a o (by simpa using j) e))]
   .show(cn _ _ r).trans e
   .show(cn _ _ Q).trans e
  |some p=>
   let(m,Z):=p;show wpAny _ A.in1 (tryCatch (holding [Vu.int n t,Vu.int n t] (richCompare .Gt (Vu.int n t) (Vu.int m Z)>>=_)) _>>=_) _ _ _;let alk:=CmpOf.ints_gt (prog:=prog) (w:=w) (A:=A.in1) (P:=λ(k:Nat) v=>(k=0/\v=Vu.int n t)\/(k=1/\v=Vu.int m Z)) (λk=>if k=0 then n else m) λk v u=>by
    rcases u with⟨rfl,rfl⟩|⟨rfl,rfl⟩
    .show#[t,rfl]
    .show#[Z,rfl]
   show Ld (abK (W4 (Ld (alk 0 1 _ _ _ _ _ (.inl #[rfl,rfl]) (.inr #[rfl,rfl]) ?_))));show Ld (W4 (Yy ?_));show Ld (Yl (VH ?_));show wpAny _ A.in1 (if decide (n>m)=Vx then _ else _) _ _ _;by_cases hb:n>m
   .rw[av (aE hb)]
    show Ld (abl f rfl (Ld (Yl ?_)) (hz:=by show 2<=VT;decide));rw[J];show VH #[Yw F.plain_max_loop _,ih (i+1) _ g (lD (n,t)) _ C G (K.1.at λo e=>?_) (K.2.at λo e=>?_) (cv _ f rfl) λz q Y X N=>L z q Y ?_ λa o j H e=>N a o j H ((cn _ _ (dr H)).trans (y a o (by simpa using j) e))]
    .show(cn _ _ r).trans e
    .show(cn _ _ Q).trans e
    .rw[X];show _=aim.foldl n6 (lD (if n>m then n else m));rw[av hb];rfl
   .rw[ax (by rw[aP hb];show VU)];show Ld (Yl ?_);rw[J];show VH #[Yw F.plain_max_loop _,ih (i+1) _ g (lD (m,Z)) c C G K.1 K.2 f λz q Y X N=>L z q Y ?_ λa o j H e=>N a o j H (y a o (by simpa using j) e)];rw[X];show _=aim.foldl n6 (lD (if n>m then n else m));rw[ax hb];rfl
def Gq(n:A.handled=U)(g:s.heap.IsList l vs.toArray)(r:IntsAre vs ns)
  (q:∀c k b,b.map (·.1)=ns.foldl n6 U->(∀a o,s.heap.get? a=lD o->c.get? a=lD o)->Q (Pi d b) {s with heap:=c,toks:=k}):
  wpAny (model prog w) A (call (.builtin "max") [.ref l] [("default",d)]) Q E s:=by
 let j:l<s.heap.objs.size:=by let(_,e,_):=g;show bP e
 let h:(toString "max"++toString ".loop":String)= "max.loop":=by decide
 show aa4 (ZG F.plain_max F.entry_max (ac5 (F.args_maxd _ _) ?_));show Ld (ac5 (show Builtin.Builtins.bindParams "max" ["key","default"] 0 #[[],[("default",d)]]=pure [U,lD d]from rfl) ?_);show Ld (VH ?_);show Ld (ZT g ?_);show Ld (WG ?_);rw[h];let f:(s.heap.push {cls:=.type "list_iterator",data:=.fields #v[.ref l,.int 0 0]}).objs.size=s.heap.objs.size+1:=cw _ _;show VH #[Yw F.plain_max_loop _,Nb n (Wc j) (by rw[f];show Nat.succ_ne_self _) (by rw[f];show WX (aac j)) r 0 _ s.toks U 0 W (Wx _) #[_,br _ (cj _ W),W,W] ((g.push _).push _) (cj _ W) λc k b p m=>?_];show q c k b p λa o e=>?_;let i:=bP e;show m a o (Wc i) (by rw[f];show Wc (aac i)) (br _ (br _ e))
end
end PySem
namespace L10
open PySem PySem.Spec PyProof.Rows L2 L3
def OH(K:Vs)(i:Int):G V->Hp->VK->Prop:=λxs H Q=>∃(p:M) (a:G Int),xs=[.ref p]/\SqL K H p (a.map V.int)/\Q (.int ((a.foldl n6 U).getD i)) H
def DF(C:X.calm=P)(B:Gl X "max")(hm:X.mg "max"=U)(c:PA X [l] S)(g:SN l=VO:=by rfl):
  PE X (.Call (.Name "max" p) [l] [#[R "default",.Constant (.int i) j p1,p2]] pos) (Oh (OH X.K i) S):=by
 intro e s n H Q I h;show XY (pz I B hm zF (callWith_kw (cR (c pos e s n H _ I h) λG o #[Y,F,f,v,w]=>?_) (by rw[wx _ _ _ g];rfl) (by rw[wx _ _ _ g];rfl) W W));let(a,y,rfl,z,q):=w;let(u,rfl,r):=lO v;ext r;let(N,T,pl,L):=f.list z;show ajl (agI (ajm ?_));let O:=f.tok (o.toks+1);show Gq (f.ok.hd C) pl.isList (kM T) λM J b E A=>?_;show#[.int ((y.foldl n6 U).getD i),F,f.kept A,?_,q];rw[<-E];cases b with
 |none=>show#[_,W]
 |some p=>let(m,t):=p;show#[t,W]
def J8(i:Int):G D->I RV
 |[.list ds]=>(lW ds).map λa=>.fz (.int ((a.foldl n6 U).getD i))
 |_=>U
def Ee{K:Vs}:HI K (OH K i) (J8 i):=by
 intro O H xs ds r Q n f e q;unfold J8 at e;split at e
 .rename_i m
  cases f with
  |cons l j=>
   ext j;cases o:lW m with
   |none=>rw[o]at e;ext e
   |some b=>rw[o]at e;ext e;let(a,p,rfl,h,g):=GR l;obtain rfl:=nV g o;show#[a,b,W,h.sq,q.at (.int _)]
 .ext e
end L10
namespace L10
open PySem L2 L3
section
variable{B O O':cH}{K:Vs}{E:XK}{H H' H1 H2:Hp}{X Y T α2:bb VF}{Z U Z1 Z2:bp}{σ:L2.St}{ρ:bz}{v:V}
def i6{l r:G A}(h:(l++r)[i]?=R y):l[i]?=R y\/∃j,i=l.length+j/\r[j]?=R y:=by
 by_cases hi:i<l.length
 .rw[VQ hi]at h;show .inl h
 .rw[Wk ()]at h;show .inr #[i - l.length,by ext,h]
def NJ{l r:G A}{i:Nat}(h:l[i]?=R y):(l++r)[i]?=R y:=by rw[VQ (Vv.mp h).1];show h
def Ht{l r:G A}(h:r[i]?=R y):(l++r)[l.length+i]?=R y:=by rw[Wk (),aas];show h
def Ks(g:X.length=Z.length)(h:Lv (X++l) (Z++cs) b):Lv X Z b\/b∈l:=by
 let(i,d,f,e,a):=h;rcases i6 f with g1|⟨j,n,g1⟩
 .rcases i6 e with g2|⟨k,m,g2⟩
  .show .inl #[i,d,g1,g2,a]
  .let:=(Vv.mp g1).1;ext
 .show .inr (VS g1)
theorem XQ.acZ(s:Ws B K H X Z)(e:XM H H')(f:∀p∈ps,H p=Vt):XQ X Z H (X++ps) (Z++cs) H':=
 #[λi a h=>NJ h,λb u q _=>e b u q,λb z=>(Ks s.len z).imp id λz=>f b z]
def Ws.acZ(s:Ws B K H X Z)(e:XM H H')(f:∀p∈ps,H p=Vt)(m:∀p∈ps,H' p≠Vt)(nd:∀(i j:Nat) (a:M),ps[i]?=R a->ps[j]?=R a->i=j)(t:ps.length=cs.length)
  (new:∀(i:Nat) (a:M) (c:Cell),ps[i]?=R a->cs[i]?=R c->COk (ow B (X++ps) (Z++cs)) K H' (X++ps) a c):Ws B K H' (X++ps) (Z++cs):=by
 let ev:XQ X Z H (X++ps) (Z++cs) H':=XQ.acZ s e f;let n:∀b,H b≠Vt->H' b≠Vt:=λb h z=>h (e.free z);show#[by rw[Vy,Vy,s.len,t],λi j a g l=>?_,λa h=>n a (s.bn a h),λa h i q=>?_,λi a h=>?_,λi a d g l=>?_]
 .rcases i6 g with g1|⟨A,u,g1⟩<;>rcases i6 l with g2|⟨y,C,g2⟩
  .show s.nd i j a g1 g2
  .show a5 (f a (VS g2)) (s.al i a g1)
  .show a5 (f a (VS g1)) (s.al j a g2)
  .let:=nd A y a g1 g2;ext
 .rcases i6 q with q|⟨j,_,q⟩
  .show s.ba a h i q
  .show s.bn a h (f a (VS q))
 .rcases i6 h with h|⟨j,_,h⟩
  .show n a (s.al i a h)
  .show m a (VS h)
 .let r:=s.len
  rcases i6 l with g2|⟨j,C,g2⟩
  .rcases i6 g with g1|⟨k,u,g1⟩
   .show(s.cel i a d g1 g2).ev ev.ev ev.pre λo q=>e _ _ q
   .let:=(Vv.mp g2).1;ext
  .rcases i6 g with g1|⟨k,u,g1⟩
   .let:=(Vv.mp g1).1;ext
   .let:k=j:=by ext
    subst this;show new k a d g1 g2
def G2(U:bp):Nat->G AV->I (G AV×G (G D)×G Nat)
 |_,[]=>R ([],[],[])
 |n,.fz d::r=>match G2 U n r with
  |some (l,cs,a)=>R (.fz d::l,cs,a)
  |none=>Vt
 |n,.rf i::r=>match sh U (.rf i)with
  |some (.list ds)=>(match G2 U (n+1) r with
   |some (l,cs,a)=>R (.rf n::l,ds::cs,i::a)
   |none=>Vt)
  |_=>Vt
def Ui(ds:G D):Cell:=.lst (ds.map .fz)
def sU(x:SV)(U Z:bp):RS SV:=match x with
 |.fz d=>.ok (.fz d) Z
 |.rf i=>(match sh U (.rf i)with
  |some (.list ds)=>my Z (.ow ds)
  |_=>.bad)
 |.tp l=>(match G2 U Z.length l with
  |some (a,cs,b)=>if b.Nodup then .ok (.tp a) (Z++cs.map Ui)else .bad
  |none=>.bad)
def xj(h:sh Z (.rf i)=R (.list ds)):∃xs,Z[i]?=R (.lst xs)/\aV Au xs=R ds:=by
 unfold sh at h;dsimp only at h;cases q:Z[i]? with
 |none=>rw[q]at h;ext h
 |some c=>
  rw[q]at h;cases c with
  |lst xs=>
   dsimp only at h;cases b:aV Au xs with
   |none=>rw[b]at h;ext h
   |some a=>rw[b]at h;ext h;show#[xs,W,b]
  |_=>ext h
def pi(s:Ws B K H X Z)(h:sh Z (.rf i)=lD (.list ds)):∃a c,X[i]?=lD a/\H a=lD (.lst c)/\L3.Xx (ow B X Z) K H c ds/\ow B X Z a:=by let(xs,b,f):=xj h;let(a,l):=s.at b;let(c,j,g):=s.cel i a _ l b;show#[a,c,l,j,mE (dY (R:=YX (ow B X Z) K H X) (λv x y r e=>Ci r e) g f),.inr #[i,_,l,b,by intro z;ext z]]
theorem JF{o:cH}(s:Ws o K H' Y U):∀{n:Nat} {l u:bb AV} {cs:bb (bb D)} {g:bb Nat} {xs:bb V},G2 U n l=R (u,cs,g)->Paired (AOk (ow o Y U) K H' Y) xs l->
  ∃c:bb VF,c.length=g.length/\cs.length=g.length/\(∀(k j:Nat),g[k]?=R j->∃a ds x,c[k]?=R a/\cs[k]?=R ds/\Y[j]?=R a/\H' a=R (.lst x)/\L3.Xx (ow o Y U) K H' x ds/\ow o Y U a)/\
   ∀(b:bb VF),b.length=n->Paired (AOk (ow o Y U) K H' (b++c)) xs u
 |_,[],_,_,_,_,e,.nil=>by ext e;show#[[],W,W,λk j h=>by simp at h,λb _=>.nil]
 |n,.fz d::r,u,cs,g,_,e,.cons h t=>by
  unfold G2 at e;cases q:G2 U n r with
  |none=>rw[q]at e;ext e
  |some p=>let(I,F,w):=p;rw[q]at e;ext e;let(c,C,A,z,y):=JF s q t;show#[c,C,A,z,λb f=>.cons h (y b f)]
 |n,.rf i::r,u,cs,g,_,e,.cons h t=>by
  unfold G2 at e;cases Q:sh U (.rf i)with
  |none=>rw[Q]at e;ext e
  |some d=>
   rw[Q]at e;cases d with
   |list ds=>
    dsimp only at e;cases q:G2 U (n+1) r with
    |none=>rw[q]at e;ext e
    |some p=>
     let(I,F,w):=p;rw[q]at e;ext e;let(c,C,A,z,y):=JF s q t;let(a,x,S,J,M,L):=pi s Q;show#[a::c,by rw[V0,V0,C],by rw[V0,V0,A],λk j G=>?_,λb f=>?_]
     .cases k with
      |zero=>ext G;show#[a,ds,x,W,W,S,J,M,L]
      |succ k=>show z k j (by simpa using G)
     .let N:b++a::c=(b++[a])++c:=by simp
      let(P,m,rfl):=h;rw[S]at m;ext m;show .cons #[a,by rw[<-f];show Ht (l:=b) (r:=a::c) (i:=0) W,W] ?_;rw[N];show y (b++[a]) (by rw[Vy,f];rfl)
   |_=>ext e
def GC(s:Ws B K H X Z)(w:WS K E B H X Z (PQ B K Q) (sU x U Z))(D:XQ [] [] H Y U H')(G:Ws (ow B X Z) K H' Y U)(J:YX (ow (ow B X Z) Y U) K H' Y v x):Q v H':=by
 let C:=λb o h=>D.kp b o h λ#[i,c,q,_]=>by simp at q
 let sub:∀b,ow B X Z b->ow (ow B X Z) Y U b:=λb z=>.inl z;let fr:=λi a c R h2 h3=>(D.lv a #[i,c,R,h2,h3]).elim (λ#[i,c,q,_]=>by simp at q) id;cases x with
 |fz d=>show w X H' (XQ.same C) (s.grow C) v (DV.ev (Ev.sub sub) J)
 |rf i=>
  unfold sU at w;dsimp only at w;cases qs:sh U (.rf i)with
  |none=>rw[qs]at w;show w.elim
  |some d=>
   rw[qs]at w;cases d with
   |list ds=>let(a,vs,ha,R,hd,M):=pi G qs;let(xs,e,_):=xj qs;let(a',F,rfl):=J;rw[ha]at F;ext F;show u0 s w C (fr i a _ ha e (by nofun)) R hd sub M
   |_=>show w.elim
 |tp l=>
  unfold sU at w;dsimp only at w;cases qg:G2 U Z.length l with
  |none=>rw[qg]at w;show w.elim
  |some p=>
   let(l',cs,I):=p;rw[qg]at w;dsimp only at w;by_cases hn:I.Nodup
   .rw[av hn]at w
    let(a,xs,rfl,ht,hl):=J;let(ps,g1,g2,g3,g4):=JF G qg hl;let A:∀(k:Nat) (b:VF),ps[k]?=lD b->∃j ds vs,I[k]?=lD j/\cs[k]?=lD ds/\Y[j]?=lD b/\H' b=lD (.lst vs)/\L3.Xx (ow (ow B X Z) Y U) K H' vs ds/\ow (ow B X Z) Y U b:=λk b hb=>by
     let f:k<I.length:=by rw[<-g1];show(Vv.mp hb).1
     let(b',ds,vs,e,y,u,m,t,g):=g3 k _ (Vz f);rw[hb]at e;ext e;show#[_,ds,vs,Vz f,y,u,m,t,g]
    let nB:∀(j:Nat) (b:VF),Y[j]?=lD b->ow (ow B X Z) Y U b->H b=Vt:=λj b N M=>by
     rcases M with z|⟨i,c,z1,z2,z3⟩
     .show a5 N (G.ba b z j)
     .show fr i b c z1 z2 z3
    let fp:∀p∈ps,H p=Vt:=λp L=>by let(k,f):=WT.mp L;let(j,ds,vs,e,y,u,m,t,g):=A k p f;show nB j p u g
    let n:∀b,ow B (X++ps) (Z++cs.map Ui) b->ow (ow B X Z) Y U b:=λb z=>by
     rcases z with z|z
     .show .inl (.inl z)
     .rcases Ks s.len z with z|z
      .show .inl (.inr z)
      .let(k,f):=WT.mp z;let(j,ds,vs,e,y,u,m,t,g):=A k b f;show g
    let ev:=XQ.acZ (cs:=cs.map Ui) s C fp;show w (X++ps) H' ev (s.acZ C fp (λp L=>?_) (λi j b hi N=>?_) (by rw[Vw,g1,g2]) λi b c hi hc=>?_) (.ref a) #[a,xs,W,ht.ev (Ev.sub n),Paired.ZR (g4 X s.len) λ_ _ r=>r.ev (Ev.sub n) λ_ _ h=>h]
    .let(k,f):=WT.mp L;let(j,ds,vs,e,y,u,m,t,g):=A k p f;rw[m];simp
    .let(j1,_,_,S,_,p3,_):=A i b hi;let(j2,_,_,r1,_,r3,_):=A j b N;let:=G.nd j1 j2 b p3 r3;subst this;let P:=(Vv.mp S).1;show(List.getElem?_inj P hn).mp (S.trans r1.symm)
    .let(j,ds,vs,e,y,u,m,t,g):=A i b hi;rw[VN,y]at hc;ext hc;show#[vs,m,mw _ _ (t.ev (Ev.sub n))]
   .rw[ax hn]at w;show w.elim
def uY(F:jh)(n:Nat)(xs:G SV)(Z:bp):RS SV:=if xs.length=n then(match aV Au xs with
 |some ds=>(match F (ds.map .fz) []with
  |.ok x U=>sU x U Z
  |.er x _=>.er x Z
  |.bad=>.bad)
 |none=>.bad)else .bad
def oo(F:jh)(n:Nat)(a:xi):dM:=λρ Z=>(a ρ Z).bind λxs Z1=>iS (uY F n xs Z1)
theorem Hf(h:∀a,B a->H a≠Vt):Ws B K H [] []:=#[W,λi j a h=>by simp at h,h,λa h i=>by simp,λi a h=>by simp at h,λi a c h=>by simp at h]
theorem Fg:∀{xs:G SV} {ds:G D},aV Au xs=R ds->xs=ds.map .fz
 |[],_,e=>by ext e;rfl
 |x::r,ds,e=>by
  unfold aV at e;cases x with
  |fz d=>
   dsimp only[Au]at e;cases q:aV Au r with
   |none=>rw[q]at e;ext e
   |some a=>rw[q]at e;ext e;rw[V1,<-Fg q]
  |rf i=>ext e
  |tp l=>ext e
def IA(s:Ws B K H X Z)(e:Yx (ow B X Z) K H X p xs)(w:WS K E B H X Z (PQ B K Q) (uY F n xs Z)):db K n F p H Q E:=by
 unfold uY at w;by_cases hn:xs.length=n
 .rw[av hn]at w
  show#[e.length.trans hn,?_];cases q:aV Au xs with
  |none=>rw[q]at w;show w.elim
  |some ds=>
   rw[q]at w;dsimp only at w;let l:=Fg q;show#[ow B X Z,[],[],ds.map .fz,Hf s.owd,?_,?_]
   .rw[l]at e;show mw _ _ ((KQ e).ev (Ev.sub λb z=>z.elim id λ#[i,c,q,_]=>by simp at q))
   .cases m:F (ds.map .fz) []with
    |bad=>rw[m]at w;show w.elim
    |ok x U=>rw[m]at w;show λY H' f j v a=>GC s w f j a
    |er x U=>
     rw[m]at w;intro c r Y H' f j k;let g:=λb o h=>f.kp b o h λ#[i,c,q,_]=>by simp at q
     show w c r X H' (XQ.same g) (s.grow g) (XOk.sub (λb z=>.inl z) k)
 .rw[ax hn]at w;show w.elim
def nI(c:x8 K E h i):cY K E (lS (db K n F) [] E0 h) (oo F n i):=by intro B σ H X Z ρ Q s b w;show c B σ H X Z ρ _ s b (w.bind.imp λxs T Z1 H1 g e a j f=>?_);rw[Wi];show IA e f (WS.e0 a)
def S7(F:jh):FN:=λds=>match F (ds.map .fz) []with
 |.ok (.fz d) _=>.ok (.fz d)
 |.ok (.rf i) Z=>(match sh Z (.rf i)with
  |some (.list ds)=>.ok (.ow ds)
  |_=>.bad)
 |.ok (.tp _) _=>.bad
 |.er x _=>.er x
 |.bad=>.bad
def Rs(h:rX K n (S7 F) vs H Q E):db K n F vs H Q E:=by
 let(u,B,ds,A,G,w):=h;show#[u,B,[],[],ds.map .fz,Hf A,mw _ _ (G.ev (Ev.sub λb z=>z.elim id λ#[i,c,q,_]=>by simp at q)),?_];unfold S7 at w;cases N:F (ds.map .fz) []with
 |bad=>rw[N]at w;show w.elim
 |er x U=>rw[N]at w;intro c dx Y H' f j k;show w c dx H' (λb o h=>f.kp b o h λ#[i,c,q,_]=>by simp at q) (XOk.sub (λb z=>.inl z) k)
 |ok x U=>
  rw[N]at w;intro Y H' f j v m;let g:=λb o h=>f.kp b o h λ#[i,c,q,_]=>by simp at q
  cases x with
  |fz d=>show w v H' g (DV.ev (Ev.sub λb z=>.inl z) m)
  |tp l=>show w.elim
  |rf i=>
   dsimp only at w;cases L:sh U (.rf i)with
   |none=>rw[L]at w;show w.elim
   |some d=>
    rw[L]at w;cases d with
    |list I=>let(a,p,S,C,y,t):=pi j L;let(xs,r,_):=xj L;let(J,e,rfl):=m;rw[S]at e;ext e;show w a p H' g ((f.lv a #[i,_,S,r,by intro z;ext z]).elim (λ#[i,c,q,_]=>by simp at q) id) C (y.ev (Ev.sub λb z=>z.elim (λz=>.inl z) λz=>by rw[z];show t))
    |_=>show w.elim
end
def b7(P:V8)(w:Wv)(K:Vs)(d:Str->I B)(base:Heap)(a:yW)(k:Nat)(C m:Str)(c:G Str)(sp:Sp):Prop:=
 ∃b f fd,Wb K V3 C=R (R (.ref b))/\Cls K b/\Meth K b m f/\FnOk P w K d base a k f fd c sp/\Binds K fd c []
def uL(P:V8)(w:Wv)(K:Vs)(d:Str->I B)(base:Heap)(a:yW)(k:Nat)(C:Str)(c:G Str)(sp:Sp):Prop:=
 ∃b f fd,Wb K V3 C=R (R (.ref b))/\d C=R (.ref b)/\Mk K b f/\FnOk P w K d base a k f fd c sp/\Binds K fd c []
def x9(K:Vs)(C m:Str)(sp:Sp)(E:XK)(b:TE)(t:TA):TE:=λa H Q=>∃e,Wb K V3 C=R (R (.ref e))/\wy e m sp [] E b t a H Q
def C1(K:Vs)(C:Str)(sp:Sp)(E:XK)(t:TA):TE:=λa H Q=>∃b,Wb K V3 C=R (R (.ref b))/\A1 b sp [] E t a H Q
section
variable{X:Cx}{Y:yW}{E:XK}{k j:Nat}{C m:Str}{ps:bb Str}{A:Sp}{o e:WQ}{S:bb WQ}{U:TE}{t:TA}{Z T p:Pos}
def wD(M:b7 X.prog X.w X.K X.mg X.base Y k C m ps A)(n:gp Y X E)(r:X3 j X.A)(u:PE X o U)(c:PA X (e::S) t)(g:k<=j:=by decide)
  (d5:We (e::S) X.env=(VO,eval e X.env)::We S X.env:=by rfl) (b:(backTo T (We S X.env)).any (·.1)=VO:=by rfl)
  (q:eval (.Call (.Attribute o m Z) (e::S) [] T) X.env=(do
   let N<-eval o X.env
   standAt Z.atName
   let(f,first)<-holding [N] (getMethod N m pl)
   callWith T f first (backTo T (We (e::S) X.env)) (backToKw T (keywordEach [] X.env))):=by rfl):PE X (.Call (.Attribute o m Z) (e::S) [] T) (x9 X.K C m A E U t):=by
 let(L,f,G,F,B,z,y,v):=M;intro a s l H Q I #[J,i,h];rw[F]at i;ext i;show Nr u B z y (r.mono g) v .nil n c d5 b q a s l H Q I h
def JY(M:b7 X.prog X.w X.K X.mg X.base Y k C m ps A)(l:gp Y X E)(q:X3 j X.A)(r:PE X o U)(b:k<=j:=by decide)
  (n:eval (.Call (.Attribute o m Z) [] [] T) X.env=(do
   let L<-eval o X.env
   standAt Z.atName
   let(f,first)<-holding [L] (getMethod L m pl)
   callWith T f first (backTo T (We [] X.env)) (backToKw T (keywordEach [] X.env))):=by rfl):PE X (.Call (.Attribute o m Z) [] [] T) (x9 X.K C m A E U n9):=by
 let(J,f,F,B,z,y,v,u):=M;intro a s i H Q I #[G,g,h];rw[B]at g;ext g;show Kx r z y v (q.mono b) u .nil l n a s i H Q I h
def Dz(M:uL X.prog X.w X.K X.mg X.base Y k C ps A)(q:gp Y X E)(r:X3 j X.A)(c:PA X (e::S) t)(g:k+1<=j:=by decide)(u:Gl X C:=by rfl)
  (i:(C==("__debug__":Str))=VO:=by decide) (v:We (e::S) X.env=(VO,eval e X.env)::We S X.env:=by rfl) (b:(backTo T (We S X.env)).any (·.1)=VO:=by rfl):
  PE X (.Call (.Name C p) (e::S) [] T) (C1 X.K C A E t):=by
 let(N,f,J,G,F,B,z,y):=M;intro a s n H Q I #[L,l,h];rw[G]at l;ext l;show Mp B z (r.mono g) u F y .nil q c i v b a s n H Q I h
end
section
variable{K:Vs}{E:XK}{C m:Str}{F:jh}{n:Nat}{to:TE}{Y:TA}{T:dM}{X:xi}{L:bb Str}
def Cg(a:gy K C L)(f:cY K E to T)(c:x8 K E Y X):cY K E (x9 K C m (db K n F) E to Y) (qJ C m F n T X):=by let(g,a,_):=a;show λB b H α Z h Q s e w=>#[g,a,J0 a f c B b H α Z h Q s e w]
def sR(a:gy K C L)(f:cY K E to T)(c:x8 K E Y X):cY K E (x9 K C m (db K n F) E0 to Y) (bf C m F n T X):=by let(g,a,_):=a;show λB b H α Z h Q s e w=>#[g,a,FQ a f c B b H α Z h Q s e w]
def B6(a:gy K C L)(c:x8 K E Y X):cY K E (C1 K C (db K n F) E Y) (Bk C F n X):=by let(f,a,_):=a;show λB b H α Z g Q s e w=>#[f,a,MR a c B b H α Z g Q s e w]
def N3(a:gy K C L)(c:x8 K E Y X):cY K E (C1 K C (db K n F) E0 Y) (wN C F n X):=by let(f,a,_):=a;show λB b H α Z g Q s e w=>#[f,a,Jf a c B b H α Z g Q s e w]
end
section
variable{ρ ρ1 S:bz}{Z X Y T Q:bp}{x y z:SV}{i n:Nat}{d dx dy:D}{ds:bb D}{b:Bool}
def bh(h:ρ[i]?=R (R x)):aw i ρ Z=.ok x Z:=by ext aw;rw[h]
def ah(h:f (b9 ρ)=.ok (.fz d,ρ')):af f ρ Z=.ok (.fz d) Z:=by ext af;rw[h]
def dA(h:f (b9 ρ)=.ok (.ow ds,ρ')):af f ρ Z=.ok (.rf Z.length) (Z++[.lst (ds.map .fz)]):=by ext af;rw[h];rfl
def bN(h:f (b9 ρ)=.ok (b,a)):bV f ρ Z=.ok b Z:=by ext bV;rw[h]
def kG(h:f (b9 ρ)=.ok (ds,a)):gR f ρ Z=.ok ds Z:=by ext gR;rw[h]
def dL(g:e ρ Z=.ok (.rf i) X)(h:X[i]?=R (.obj C fs))(a:fs.lookup f=R x):aY C f e ρ Z=.ok x X:=by ext aY;rw[g,eh];dsimp only;rw[h];dsimp only;rw[av W,a];rfl
def dz(c:g ρ Z=.ok x X)(e:fb ρ X=.ok y Y)(a:oj f x y Y=.ok z T):lU f g fb ρ Z=.ok z T:=by ext lU;rw[c,eh,e,eh,a]
def cM(h:f dx dy=R (.fz d)):oj f (.fz dx) (.fz dy) Z=.ok (.fz d) Z:=by ext oj;show((RS.WN Z (f dx dy)).bind λa X=>my X a)=_;rw[h];rfl
def yk(e:sh Z x=R dx)(a:sh Z y=R dy)(h:f dx dy=R (.fz d)):oj f x y Z=.ok (.fz d) Z:=by ext oj;rw[e,a];show((RS.WN Z (f dx dy)).bind λg X=>my X g)=_;rw[h];rfl
def RY(a:sh Z x=U\/sh Z y=U)(j:sg 6 Z x=R dx)(g:sg 6 Z y=R dy)(h:f dx dy=R (.fz d))(hd:yq d=P):oj f x y Z=.ok (.fz d) Z:=by
 let e:((RS.WN Z (sg 6 Z x)).bind λdx X=>(RS.WN X (sg 6 X y)).bind λdy Y=>(RS.WN Y (f dx dy)).bind λl T=>se T l)=.ok (.fz d) Z:=by rw[j];show((RS.WN Z (sg 6 Z y)).bind λdy Y=>(RS.WN Y (f dx dy)).bind λl T=>se T l)=_;rw[g];show((RS.WN Z (f dx dy)).bind λl T=>se T l)=_;rw[h];show(if yq d=P then RS.ok (SV.fz d) Z else RS.bad)=_;rw[av hd]
 ext oj;rcases a with a|a
 .rw[a];show e
 .rw[a];cases sh Z x<;>show e
theorem qG:∀ds:G D,aV Au (ds.map .fz)=R ds
 |[]=>rfl
 |d::r=>by rw[V1];ext aV;rw[qG r];rfl
def dh(h:Z[i]?=R (.lst (ds.map .fz))):sh Z (.rf i)=R (.list ds):=by ext sh;dsimp only;rw[h];dsimp only;rw[qG];rfl
def bw(h:a ρ Z=.ok (.fz (.bool b)) X):bS a ρ Z=.ok b X:=by ext bS;rw[h];rfl
def kB(h:a ρ Z=.ok P X)(k:fb ρ X=r):pN a fb ρ Z=r:=by ext pN;rw[h,eh,av W,k]
def jc(h:a ρ Z=.ok VO X):pN a fb ρ Z=.ok VO X:=by ext pN;rw[h,eh,ax VU]
def pP(h:a ρ Z=.ok P X):Bt a fb ρ Z=.ok P X:=by ext Bt;rw[h,eh,av W]
def ku(h:a ρ Z=.ok VO X)(k:fb ρ X=r):Bt a fb ρ Z=r:=by ext Bt;rw[h,eh,ax VU,k]
def yM(h:a ρ Z=.ok b X):Ae a ρ Z=.ok (!b) X:=by ext Ae;rw[h];rfl
def Gf(h:bS a ρ Z=.ok P X)(k:fb ρ X=r):FB a fb ρ Z=r:=by ext FB;rw[h,eh,av W,k]
def GI(h:bS a ρ Z=.ok VO X):FB a fb ρ Z=.ok (.fz (.bool VO)) X:=by ext FB;rw[h,eh,ax VU]
def MC(h:c ρ Z=.ok P X)(k:a ρ X=r):QJ c a fb ρ Z=r:=by ext QJ;rw[h,eh,av W,k]
def LG(h:c ρ Z=.ok VO X)(k:fb ρ X=r):QJ c a fb ρ Z=r:=by ext QJ;rw[h,eh,ax VU,k]
theorem aN:aH ρ Z=.ok [] Z:=W
def ao(c:e ρ Z=.ok x X)(a:fr ρ X=.ok xs Y):aj e fr ρ Z=.ok (x::xs) Y:=by ext aj;rw[c,eh,a,eh]
def rq(c:e ρ Z=.ok (ds.map .fz) X)(a:ds.length<=1000):lV e ρ Z=.ok (.fz (.tuple ds)) X:=by ext lV;rw[c,eh,Vw,av a];ext Um;rw[qG];rfl
def DG(c:g ρ Z=.ok xs X)(a:xs.length<=1000)(f:aV Au xs=U)(e:aV T8 xs=R l):lV g ρ Z=.ok (.tp l) X:=by ext lV;rw[c,eh,av a];ext Um;rw[f];dsimp only;rw[e];rfl
def lQ(c:g ρ Z=.ok xs X)(a:aV (sh X) xs=R ds)(h:f ds=R (.fz d)):kL f g ρ Z=.ok (.fz d) X:=by ext kL;rw[c,eh];ext JH;rw[a];show((RS.WN X (f ds)).bind λe X=>my X e)=_;rw[h];rfl
def Da(e:f ρ Z=.ok (ds.map .fz) X)(c:ds.length=n)(a:F ds=.ok (.fz d)):ke F n f ρ Z=.ok (.fz d) X:=by ext ke;rw[e,eh];ext zi;rw[Vw,av c,qG];dsimp only;rw[a];rfl
def xg(e:f ρ Z=.ok (ds.map .fz) X)(c:ds.length=n)(a:F ds=.ok (.ow g)):ke F n f ρ Z=.ok (.rf X.length) (X++[.lst (g.map .fz)]):=by ext ke;rw[e,eh];ext zi;rw[Vw,av c,qG];dsimp only;rw[a];rfl
theorem Ai:iS (RS.ok a Z)=.ok a Z:=W
def yF(e:j ρ Z=.ok (.rf i) X)(f:X[i]?=R (.obj C fs))(hm:fs.lookup m=U)(h:l ρ X=.ok xs Y)(c:(SV.rf i::xs).length=n)(g:F (.rf i::xs) Y=.ok x T):bf C m F n j l ρ Z=.ok x T:=by
 let a:oz X C m (.rf i)=P:=by ext oz;dsimp only;rw[f];dsimp only;rw[hm,aE W];rfl
 ext bf;rw[e,eh,av a,h,eh,av c,g];rfl
def Rr(e:f ρ Z=.ok xs X)(c:(SV.rf X.length::xs).length=n)(a:F (.rf X.length::xs) (X++[.obj C []])=.ok (.fz .none) Y):wN C F n f ρ Z=.ok (.rf X.length) Y:=by ext wN;rw[e,eh];ext wM;rw[av c,a,eh,av (show Gg (.fz .none)=P from rfl)];rfl
def cQ(c:e ρ Z=.ok (.fz dx) X)(a:fb ρ X=.ok (.fz dy) Y)(h:bq dx dy=R (.fz d)):gC e fb ρ Z=.ok (.fz d) Y:=by ext gC;rw[c,eh,a,eh];show cM h
def vi(a:fo ρ Z=.ok (.rf i) X)(h:X[i]?=R (.lst xs))(f:fe ρ X=.ok x Y)(g:Y[i]?=R (.lst m))(e:m.length<1000000):lG fo fe ρ Z=.ok (.fz .none) (Y.set i (.lst (m++[x]))):=by
 let l:gL X (.rf i)=R (i,xs):=by ext gL;dsimp only;rw[h]
 let j:gL Y (.rf i)=R (i,m):=by ext gL;dsimp only;rw[g]
 ext lG;rw[a,eh,l];show((fe ρ X).bind _)=_;rw[f,eh,j];show(if m.length<1000000 then _ else _)=_;rw[av e]
def ph(h:Z[i]?=R (.dct a)):jr Z (.rf i)=R (i,a):=by ext jr;dsimp only;rw[h]
def BK(a:g ρ Z=.ok x X)(hd:fd ρ X=.ok (.rf i) Y)(f:vV x=R k)(e:Y[i]?=R (.dct h)):Az neg g fd ρ Z=.ok (.fz (.bool ((kN h k).isSome !=neg))) Y:=by ext Az;rw[a,eh,hd,eh,f];show((RS.WN Y (jr Y (.rf i))).bind _)=_;rw[ph e];rfl
def N8(hd:fd ρ Z=.ok (.rf i) X)(a:j ρ X=.ok x Y)(g:vV x=R k)(f:Y[i]?=R (.dct h))(e:kN h k=R y):v8 fd j ρ Z=.ok y Y:=by ext v8;rw[hd,eh,a,eh,g];show((RS.WN Y (jr Y (.rf i))).bind _)=_;rw[ph f];show RS.WN Y (kN h k)=_;rw[e];rfl
def Om(a:l ρ Z=.ok y X)(hd:fd ρ X=.ok (.rf i) Y)(f:m ρ Y=.ok x T)(h:vV x=R k)(g:T[i]?=R (.dct j))(e:j.length<1000000):ze fd m l ρ Z=.ok (.nx ρ) (T.set i (.dct (lR j k y))):=by ext ze;rw[a,eh,hd,eh,f,eh,h];show((RS.WN T (jr T (.rf i))).bind _)=_;rw[ph g];show(if j.length<1000000 then _ else _)=_;rw[av e]
def M8(hd:fd ρ Z=.ok (.rf i) X)(h:X[i]?=R (.dct m))(a:l ρ X=.ok x Y)(g:vV x=R k)(f:Y[i]?=R (.dct j))(e:kN j k=R y):Ak fd l ρ Z=.ok y (Y.set i (.dct (oM j k))):=by ext Ak;rw[hd,eh,ph h];show((l ρ X).bind _)=_;rw[a,eh,g];show((RS.WN Y (jr Y (.rf i))).bind _)=_;rw[ph f];show((RS.WN Y (kN j k)).bind _)=_;rw[e];rfl
def MY(hd:fd ρ Z=.ok (.rf i) X)(h:X[i]?=R (.dct a)):Fj fd ρ Z=.ok (.rf X.length) (X++[.lst (a.map (·.2))]):=by ext Fj;rw[hd,eh,ph h];rfl
def Oq(hd:fd ρ Z=.ok (.rf i) X)(h:X[i]?=R (.dct f))(e:aV Dg (f.map (·.1))=R ns)(a:ns.length<64):wE fd ρ Z=.ok (.rf X.length) (X++[.lst ((mv ns).map λi=>SV.fz (.int i))]):=by ext wE;rw[hd,eh,ph h];show((RS.WN X (aV Dg (f.map (·.1)))).bind _)=_;rw[e];show(if ns.length<64 then _ else _)=_;rw[av a]
def MW(a:f ρ Z=.ok x X)(h:xU x=R e):AY f ρ Z=.ok (.rf X.length) (X++[.dct (pp [] e)]):=by ext AY;rw[a,eh,h];rfl
variable{L:FlS}{r:RS FlS}
def cZ(h:f ρ Z=.ok (.nx ρ1) X)(k:g ρ1 X=r):aR f g ρ Z=r:=by ext aR;rw[h,eh];show k
def rd(h:f ρ Z=.ok (.rt x) X):aR f g ρ Z=.ok (.rt x) X:=by ext aR;rw[h];rfl
def iB(h:c ρ Z=.ok P X)(k:f ρ X=r):cS c f g ρ Z=r:=by ext cS;rw[h,eh,av W,k]
def kg(h:c ρ Z=.ok VO X)(k:g ρ X=r):cS c f g ρ Z=r:=by ext cS;rw[h,eh,ax VU,k]
def iO(h:f ρ Z=.ok x X):gQ f ρ Z=.ok (.rt x) X:=by ext gQ;rw[h];rfl
def iY(h:f ρ Z=.ok x X):bT f ρ Z=.ok (.nx ρ) X:=by ext bT;rw[h];rfl
def m9(h:f ρ Z=.ok x X)(e:ρ.set i (R x)=ρ1):cI f (df i) ρ Z=.ok (.nx ρ1) X:=by subst e;ext cI;rw[h];rfl
theorem jM:dg ρ Z=.ok (.nx ρ) Z:=W
def kT(h:m ρ Z=.ok x X)(a:l ρ X=.ok (.rf i) Y)(j:Y[i]?=R (.obj C fs))(g:fs.length<100):fu C f l m ρ Z=.ok (.nx ρ) (Y.set i (.obj C (eY f x fs))):=by
 let e:HB Y C (.rf i)=R (i,fs):=by ext HB;dsimp only;rw[j];dsimp only;rw[av W]
 ext fu;rw[h,eh,a,eh,e];show(if fs.length<100 then _ else _)=_;rw[av g]
def gZ(h:f ρ Z=.ok x X)(k:frz 4 X x=R (d,Y)):iL f ρ Z=.ok (.fz d) Y:=by ext iL;rw[h,eh];ext Mo;rw[k]
def jg(e:xs.map R++VR (N - xs.length) U=ρ)(h:g ρ Z=.ok (.rt x) X):dc N g xs Z=.ok x X:=by subst e;ext dc;rw[h];rfl
def qN(e:xs.map R++VR (N - xs.length) U=ρ)(h:g ρ Z=.ok (.nx ρ1) X):dc N g xs Z=.ok (.fz .none) X:=by subst e;ext dc;rw[h];rfl
end
section
variable{ρ S L:bz}{Z X Y J A:bp}{x y z:SV}{i n:Nat}{d u t:D}{ds:bb D}{b:Bool}
theorem g9(e:α->D)(f:α->SV)(Z:bp)(I:bz->Prop):∀(xs:G α) (ρ:bz) (a:G SV),I ρ->a.length+xs.length<=1000000->(∀x∈xs,∀ρ,I ρ->∃c,gt (.fz (e x)) ρ Z=.ok c Z/\ft c Z=.ok P Z/\fe c Z=.ok (f x) Z/\I c)->cD gt ft fe (xs.map e) ρ Z a=.ok (a++xs.map f) Z
 |[],ρ,a,_,_,_=>by show RS.ok a Z=_;rw[YZ,Wi]
 |x::r,ρ,a,h0,p,o=>by let(c,m,l,j,h):=o x VV ρ h0;rw[V0]at p;show((gt (.fz (e x)) ρ Z).bind _)=_;rw[m,eh,l,eh,av W,j,eh,av (),g9 e f Z I r c _ h (by rw[Vy,Zf];ext) λy g=>o y (VX _ g),V6];rfl
def hW(c:f ρ Z=.ok ds X)(a:cD gt e g ds (fM n fj ρ) X []=.ok xs Y):eO n fj f gt e g ρ Z=.ok (.rf Y.length) (Y++[.lst xs]):=by ext eO;rw[c,eh,a,Ai,eh]
theorem pX(m:Nat):∀(ds:G D),i4 (frz m) Z (ds.map .fz)=R (ds,Z)
 |[]=>rfl
 |d::r=>by rw[V1];ext i4;rw[show frz m Z (.fz d)=R (d,Z) by ext m<;>rfl];dsimp only;rw[pX m r]
def jJ(h:Z[i]?=R (.lst (ds.map .fz))):frz 4 Z (.rf i)=R (.list ds,Z.set i .dead):=by ext frz;rw[h];dsimp only;rw[pX]
def CJ(h:e ρ Z=.ok (.rf i) X)(a:X[i]?=R (.lst (ds.map .fz))):fP e ρ Z=.ok ds (X.set i .dead):=by ext fP;rw[h,eh,jJ a];rfl
def UP(N C:bz->bp->Prop)(T:SV->bp->Prop):RS FlS->Prop
 |.ok (.nx ρ) Z=>N ρ Z
 |.ok (.ct ρ) Z=>C ρ Z
 |.ok (.rt v) Z=>T v Z
 |_=>False
structure ZC(r:RS FlS)(N C:bz->bp->Prop)(T:SV->bp->Prop):Prop where
 out:UP N C T r
variable{f g:fF}{Q:dM}{N C:bz->bp->Prop}{T:SV->bp->Prop}
def ZC.eq(e:r=r')(h:ZC r' N C T):ZC r N C T:=by rw[e];show h
def t7(h:ZC (f ρ Z) (λr o=>ZC (g r o) N C T) C T):ZC (aR f g ρ Z) N C T:=by
 show#[?_];let h:=h.out;ext aR;cases q:f ρ Z with
 |bad=>rw[q]at h;show h.elim
 |er x o=>rw[q]at h;show h.elim
 |ok a o=>
  rw[q]at h;cases a with
  |nx r=>show(show ZC (g r o) N C T from h).out
  |ct r=>show h
  |rt v=>show h
  |bk r=>show h.elim
def zH(h:c ρ Z=.ok b X)(a:b=P->ZC (f ρ X) N C T)(e:b=VO->ZC (g ρ X) N C T):ZC (cS c f g ρ Z) N C T:=by
 ext cS;rw[h,eh];cases b with
 |true=>show a W
 |false=>show e W
theorem tZ(e:c ρ Z=.ok P X)(a:ZC (f ρ X) N C T):ZC (cS c f g ρ Z) N C T:=zH e (λ_=>a) λh=>by ext h
theorem fq(e:c ρ Z=.ok VO X)(a:ZC (g ρ X) N C T):ZC (cS c f g ρ Z) N C T:=zH e (λh=>by ext h) λ_=>a
def P0(e:Q ρ Z=.ok x X)(a:gt x ρ X=.ok S Y)(h:N S Y):ZC (cI Q gt ρ Z) N C T:=by show#[?_];ext cI;rw[e,eh,a,eh];show h
theorem qL(a:f ρ Z=.ok (.nx S) X)(h:N S X):ZC (f ρ Z) N C T:=#[by rw[a];show h]
theorem TW(a:f ρ Z=.ok (.rt x) X)(h:T x X):ZC (f ρ Z) N C T:=#[by rw[a];show h]
theorem jC(a:Q ρ Z=.ok x X)(h:N ρ X):ZC (bT Q ρ Z) N C T:=qL (iY a) h
theorem RU(a:Q ρ Z=.ok x X)(h:T x X):ZC (gQ Q ρ Z) N C T:=TW (iO a) h
theorem Nk(h:T (.fz .none) Z):ZC (wF ρ Z) N C T:=#[h]
theorem nJ(h:N ρ Z):ZC (dg ρ Z) N C T:=#[h]
theorem lh{gt:Ce}(e:Q ρ Z=.ok x X)(a:gt x ρ X=.ok S Y)(h:ZC (g S Y) N C T):ZC (aR (cI Q gt) g ρ Z) N C T:=t7 (P0 e a h)
theorem DC(a:f ρ Z=.ok (.nx S) X)(h:ZC (g S X) N C T):ZC (aR f g ρ Z) N C T:=t7 (qL a h)
theorem nk(a:Q ρ Z=.ok x X)(h:ZC (g ρ X) N C T):ZC (aR (bT Q) g ρ Z) N C T:=t7 (jC a h)
def Bc{h a:fF}(m:c ρ Z=.ok b X)(j:b=P->ZC (aR h g ρ X) N C T)(l:b=VO->ZC (aR a g ρ X) N C T):ZC (aR (cS c h a) g ρ Z) N C T:=by
 let e:aR (cS c h a) g ρ Z=if b=P then aR h g ρ X else aR a g ρ X:=by unfold aR cS;rw[m,eh];ext b<;>rfl
 show .eq e ?_;cases b with
 |true=>show j W
 |false=>show l W
theorem yK{a l:fF}(j:c ρ Z=.ok P X)(e:ZC (aR a g ρ X) N C T):ZC (aR (cS c a l) g ρ Z) N C T:=Bc j (λ_=>e) λh=>by ext h
theorem tK{l a:fF}(j:c ρ Z=.ok VO X)(e:ZC (aR a g ρ X) N C T):ZC (aR (cS c l a) g ρ Z) N C T:=Bc j (λh=>by ext h) λ_=>e
theorem xT(h:T (.fz .none) Z):ZC (aR wF g ρ Z) N C T:=t7 (Nk h)
theorem qO(h:ZC (g ρ Z) N C T):ZC (aR dg g ρ Z) N C T:=t7 (nJ h)
def QY{a e:fF}(h:ZC (aR a (aR e g) ρ Z) N C T):ZC (aR (aR a e) g ρ Z) N C T:=by
 show .eq ?_ h;ext aR;cases a ρ Z with
 |bad=>rfl
 |er x o=>rfl
 |ok j o=>ext j<;>rfl
def Qk(a:xs.map R++VR (n - xs.length) U=ρ)(h:ZC (g ρ Z) (λ_ c=>T (.fz .none) c) (λ_ _=>False) T):∃x c,dc n g xs Z=.ok x c/\T x c:=by
 let h:=h.out;ext dc;rw[a];cases q:g ρ Z with
 |bad=>rw[q]at h;show h.elim
 |er x o=>rw[q]at h;show h.elim
 |ok e o=>
  rw[q]at h;cases e with
  |nx r=>show#[_,_,W,h]
  |ct r=>show h.elim
  |rt v=>show#[_,_,W,h]
  |bk r=>show h.elim
def j4{W:bp->Prop}(a:xs.map R++VR (n - xs.length) U=ρ)(h:ZC (g ρ Z) (λ_ c=>SV.fz .none=v/\W c) (λ_ _=>False) (λr c=>r=v/\W c)):∃c,dc n g xs Z=.ok v c/\W c:=by let(x,c,l,j,e):=Qk (T:=λr c=>r=v/\W c) a h;show#[c,by rw[l,j],e]
end
end L10
namespace L10
open PySem PySem.SeqAt PySem.Spec PySem.W PyProof.Rows L2 L3
section
variable{K:Vs}{E:XK}
def t6(k:Int):G Int->I Nat
 |[]=>U
 |n::r=>if n=k then R 0 else(t6 k r).map (·+1)
theorem yg{k:Int}:∀{ns:G Int} {j:Nat},t6 k ns=R j->ns[j]?=R k/\∀m,m<j->ns[m]?≠R k
 |[],_,h=>by ext h
 |n::r,j,h=>by
  unfold t6 at h;split at h
  .rename_i e;ext h;show#[by rw[<-e];rfl,λm hm=>by ext]
  .rename_i e
   cases q:t6 k r with
   |none=>rw[q]at h;ext h
   |some i=>
    rw[q]at h;ext h;let(b,a):=yg q;show#[b,λm hm=>?_];cases m with
    |zero=>intro z;show e (VZ z)
    |succ m=>show a m (by let hm:m+1<i+1:=hm;ext)
def OJ(K:Vs):V->G V->Hp->VK->Prop:=λx xs H Q=>∃(l:M) (a:G Int) (k:Int) (j:Nat),x=.ref l/\SqL K H l (a.map V.int)/\xs=[.int k]/\a[j]?=R k/\(∀m,m<j->a[m]?≠R k)/\j<1000/\Q (.int (j:Nat)) H
def Fz{X:Cx}:Up X "list.index" (OJ X.K):=by
 rintro C s U H x xs v Y Q I N f ⟨l,w,k,j,rfl,hl,rfl,hj,hno,hs,q⟩;obtain rfl:v=.ref l:=N;let(u,rfl,g):=f.one;let(t,rfl):=g;let(b,r,(o,n,J,T,hd,A),_):=I.list hl;let L:b.length=w.length:=by let:=r.length;rw[Vw]at this;show this.symm
 let a:∀(m:Nat) (hm:m<b.length),∃t,b[m]=.int (w[m]'()) t:=λm hm=>by let(u,G,g):=r.get (i:=m) (x:=.int (w[m]'())) (by rw[VN,Vz ()];rfl);let(t,rfl):=g;rw[Vz hm]at G;show#[t,VZ G]
 let(Z,R):=Vv.mp hj;let(P,O,p,h):=o;obtain rfl:P=.type "list":=T;obtain rfl:p=.seq b.toArray n:=A;show aah acH #[_,J,W] PySem.F.entry_list_index (PySem.F.args_list_index_2 _ _) (list_indexAt l b.toArray n O h (.int k t) (Vu.isInt k) j (by rw[VY];ext) () ?_ λm hm lt=>?_) #[J,λy S=>?_,?_]
 .let(t,e):=a j ();rw[aei,e,R];simp[Vu.isInt]
 .let B:m<b.length:=by rw[VY]at hm;show hm
  let(t,e):=a m B;rw[aei,e];let:=hno m lt;rw[Vz ()]at this;simp only[Vu.isInt];show beq_eq_false_iff_ne.mpr λz=>this (by rw[z])
 .let(m,hm,rfl):=aeg.mp (by simpa using S:y∈b);let(M,e):=a m hm;rw[e];show(MeetsSeq.EqGives.int _ k M t).at _ _
 .show#[.int (j:Nat),H,I.tok _,#[_,W],q]
def IH(ds:G D)(d:D):I Nat:=match lW ds,d with
 |some ns,.int k=>(match t6 k ns with
  |some j=>if j<1000 then R j else U
  |none=>U)
 |_,_=>U
def IT(c:FE)(b:bt):I (I PV)->Res (PV×bt)
 |some (R (.fz (.list ds)))=>(c b).bind λa=>(Res.WN (AL a.2 a.1)).bind λd=>(Res.WN (IH ds d)).bind λj=>.ok (.fz (nd j),a.2)
 |_=>.bad
def JU(i:Nat)(b:FE):FE:=λa=>IT b a a[i]?
def RB{i:Nat}{p:TE}{c:FE}(G:EO K E p c):EO K E (Uc K "list" (OJ K) (vJ i) (iy p n9)) (JU i c):=by
 intro B S O u H ρ Q R w;unfold JU at w;cases T:ρ[i]? with
 |none=>rw[T]at w;show w.elim
 |some o=>
  cases o with
  |none=>rw[T]at w;show w.elim
  |some pv=>
   cases pv with
   |ow ds=>rw[T]at w;show w.elim
   |pl j=>rw[T]at w;show w.elim
   |fz J=>
    cases J with
    |list ds=>
     rw[T]at w;let(v,I,n):=R.slot i _ T;let n:L3.DV O K H v (.list ds):=n;cases n with
     |lst e m=>
      show#[_,I,.inl #[W,_,e.1.sq],?_];show G B S O u H ρ _ R (WR.imp (WR.bind w) λb g N y P r t C=>?_);let(d,A,g):=g.WN;let(j,a,z):=g.WN;let h:=oB t C A;unfold IH at a;cases Y:lW ds with
      |none=>rw[Y]at a;ext a
      |some q=>
       rw[Y]at a;cases d with
       |int k=>
        dsimp only at a;cases X:t6 k q with
        |none=>rw[X]at a;ext a
        |some F=>
         rw[X]at a;dsimp only at a;by_cases l:F<1000
         .rw[av l]at a
          ext a;let h:y=.int k:=by ext h;rfl
          subst h;let(M,L):=yg X;let f:=e.ev r;let ev:=nV m Y;rw[ev]at f;show#[_,q,k,_,W,f.1.sq,W,M,L,l,z N _ P r t (.int _)]
         .rw[ax l]at a;ext a
       |_=>ext a
    |_=>rw[T]at w;show w.elim
end
end L10
namespace L10
open PySem PyProof.Rows L2 L3
section
variable{B O L:cH}{K:Vs}{E:XK}{H J C A:Hp}{u S Q N:bb VF}{Z t T Y:bp}{r:L2.St}{X:bz}{v:V}
def oQ{c fb:dM}{y z:SV}{i:Nat}{n:Int}{xs:G SV}(f:c X Z=.ok (.rf i) T)(e:fb X T=.ok y Y)(d:JV y=R n)(a:Y[i]?=R (.lst xs))(b:og xs n=R z):gC c fb X Z=.ok z Y:=by ext gC;rw[f,eh,e,eh];ext Rz;simp only[a,d];show RS.WN Y (og xs n)=_;rw[b];rfl
end
end L10
namespace L10
open PySem PyProof.Rows L2 L3
section
variable{O Z:cH}{K:Vs}{H X:Hp}{a b:VF}{T:bb V}{Y:Heap->Prop}
def T5(a:M)(O:cH)(H:Hp)(Z:cH)(X:Hp):Prop:=∀b o,b≠a->H b=R o->¬O b->X b=R o/\¬Z b
def ab3.evx(i:H a=R (.ext Y))(h:ab3 O K H b T)(e:T5 a O H Z X):ab3 Z K X b T:=by
 let(h,k):=h;by_cases z:O b
 .show#[ZI.same (nv X) (k z),λ_=>k z]
 .rcases h with(h|⟨o,h⟩)|h
  .let(g,f):=e b _ (λy=>by rw[y,i]at h;ext h) h z;show#[.inl (.inl g),λy=>a5 y f]
  .let(g,f):=e b _ (λy=>by rw[y,i]at h;ext h) h z;show#[.inl (.inr #[o,g]),λy=>a5 y f]
  .show#[.inr h,λ_=>.inr h]
def aaI.evx(i:H a=R (.ext Y))(h:aaI O K H b T)(e:T5 a O H Z X):aaI Z K X b T:=by
 let(h,k):=h;by_cases z:O b
 .show#[(nv X).tup (k z),λ_=>k z]
 .rcases h with(h|⟨o,h⟩)|h
  .let(g,f):=e b _ (λy=>by rw[y,i]at h;ext h) h z;show#[.inl (.inl g),λy=>a5 y f]
  .let(g,f):=e b _ (λy=>by rw[y,i]at h;ext h) h z;show#[.inl (.inr #[o,g]),λy=>a5 y f]
  .show#[.inr h,λ_=>.inr h]
mutual
theorem DV.evx(f:H a=lD (.ext Y))(e:T5 a O H Z X):∀{v:V} {d:D},L3.DV O K H v d->L3.DV Z K X v d
 |_,_,.XX=>.XX
 |_,_,.bl b=>.bl b
 |_,_,.int i=>.int i
 |_,_,.str x=>.str x
 |_,_,.tup h hs=>.tup (aaI.evx f h e) (Xx.evx f e hs)
 |_,_,.lst h hs=>.lst (ab3.evx f h e) (Xx.evx f e hs)
theorem Xx.evx(f:H a=lD (.ext Y))(e:T5 a O H Z X):∀{vs:bb V} {ds:bb D},L3.Xx O K H vs ds->L3.Xx Z K X vs ds
 |_,_,.nil=>.nil
 |_,_,.cons h hs=>.cons (DV.evx f e h) (Xx.evx f e hs)
end
end
end L10
namespace PySem
open Sem (wp)
open PyProof.Rows
section
variable{Y:V8}{w:Wv}{A:Wl}{E:Vu->VG->Prop}{s:VG}{t:VF}{X:Array (Int×Tok)}
def HW{k:G B}{ns:G Int}{Q:B->VG->Prop}(r:A.handled=U)(l:s.heap.IsList t k.toArray)(x:IntsAre k ns)(i:0<ns.length)
  (h:∀d M (u:Tok) c,(∀b o,s.heap.get? b=R o->d.get? b=R o)->M∈ns->(∀a,a∈ns->a<=M)->Q (.int M u) {s with heap:=d,toks:=c}):
  wpAny (model Y w) A (call (.builtin "max") [.ref t]) Q E s:=by
 let(X,e):=x.allInts.items;let f:ns=X.toList.map (·.1):=by rw[<-x.numsOf,<-nums_intItems,<-e]
 let g:0<X.size:=by let m:=i;rw[f,Vw,Ww]at m;show m
 rw[e]at l;show max_intList r l g λv d c n p=>?_;let(t,rfl):=intItems_at n;let(z,y):=argBest_gt (numAt X) (X.size - 1);show h _ _ t c p ?_ λa C=>?_
 .rw[f,numAt_eq];show getD_mem (by rw[Vw,Ww];ext)
 .rw[f]at C;let(j,q,rfl):=mem_getD C;rw[Vw,Ww]at q;rw[<-numAt_eq];show y j ()
end
end PySem
namespace L10
open PySem PySem.Spec PyProof.Rows L2 L3
def OZ(K:Vs):G V->Hp->VK->Prop:=λxs H Q=>∃(a:VF) (b:G Int),xs=[.ref a]/\SqL K H a (b.map V.int)/\0<b.length/\∀M,M∈b->(∀i,i∈b->i<=M)->Q (.int M) H
def nc{X:Cx}(l:X.calm=P):YM X (.builtin "max") (OZ X.K):=by intro b s o H xs p Q I r h;let(a,v,rfl,g,z,q):=h;let(u,rfl,f):=lO r;ext f;let(y,e,i,_):=I.list g;show HW (I.ok.hd l) i.isList (kM e) z λw M u t j n m=>#[.int M,H,I.kept j,#[_,W],q M n m]
def jf:G D->I RV
 |[.list ds]=>(match lW ds with
  |some a=>if 0<a.length then R (.fz (.int (Gp a)))else U
  |none=>U)
 |_=>U
def tj{K:Vs}:HI K (OZ K) jf:=by
 intro O H xs ds v Q n m e q;unfold jf at e;split at e
 .split at e
  .rename_i b l
   split at e
   .rename_i t
    ext e;cases m with
    |cons p o=>ext o;let(a,u,rfl,f,r):=GR p;rw[nV r l]at f;show#[a,b,W,f.sq,t,λM h g=>?_];let(j,i):=ym t;let:M=Gp b:=agl (i M h) (g _ j);subst this;show q.at (.int _)
   .ext e
  .ext e
 .ext e
end L10
namespace L3
open PySem L2
structure NI(K:Vs)(f:M)(n:Str)(t:X2):Prop where
 a:Wb K V3 n=R (R (.ref f))
 F:∃fd,YN K n n t f fd
structure MI(K:Vs)(C f:M)(m q:Str)(t:X2):Prop where
 a:WH K (.ref C) m=R (R (.ref f))
 i:Yu K (.ref f)=P
 F:∃fd,YN K m q t f fd
structure CI(K:Vs)(C:M)(n:Str)(fs:G Str):Prop where
 a:Wb K V3 n=R (R (.ref C))
 pg:Y4 K C Str.empty=P
 hd:ZK K C=P
 po:abp K C=P
 sa:WH K (.ref C) "__setattr__"=R (R (.builtin "object.__setattr__"))
 mm:abX K C=P
 kc:Xv K (.ref C)=P
 fl:∀x∈fs,ZS K C x
def BA(n q:Str)(t:X2)(c:G Str):Prop:=∀(kV b e:B) (f:I M) (g ct:B) (a:G B),a.length=c.length->bindArgs (Xl n q (gK t) (cJ t) (aD t) .none kV b e f g ct) #[a,[]]=pure (c.zip a)
section
variable{P:V8}{w:Wv}{K:Vs}{Y:Str->bg Vu}{base h:Heap}{f C:VF}{n m q:Str}{t:X2}{T fs:bb Str}{Z k:Nat}{Q L:Sp}
theorem CI.cls(c:CI K C n fs):Cls K C:=#[c.pg,c.hd,c.po,c.sa]
theorem CI.cf(c:CI K C n fs):L10.gy K n fs:=#[C,c.a,c.cls,c.fl]
theorem NI.cal(i:NI K f n t)(X:K.In h)(G:h.Ns V3 Y)(b:BA n n t T)(ok:∀fd,YN K n n t f fd->FnOk P w K Y base dX Z f fd T Q):zW P w K Y base Z n T Q:=
 let#[fd,z]:=i.F;#[f,fd,ok fd z,z.binds b,z.kp,XN X G i.a]
def NI.law(i:NI K f "law" t)(X:K.In h)(G:h.Ns V3 Y)(b:Y "law"=R (.ref fa))(p:BA "law" "law" t [x])(ok:∀base fd,YN K "law" "law" t f fd->FnOk P w K Y base dX Z f fd [x] Q):∃fd:WY,(∀(s:VG) (v:Vu),aa3 s fd #[[v],[]] [(x,v)])/\∀base:Heap,K.In base->base.Ns V3 Y->FnOk P w K Y base dX Z fa fd [x] Q:=by let e:=b.symm.trans (XN X G i.a);ext e;let(fd,z):=i.F;let(A,y,kV,g,j,r,u,ct,l,rfl,B,o):=z.ex;show#[_,λs v=>.of_eq (p kV g j r u ct [v] W),λbase _ _=>ok base _ z]
def Ft(a:X3 k A):A.units+65<cLine:=by let:=a.un;ext
theorem GS(p:SO K E u g)(h:PSs X b u):∃t,PSs X b t/\SO K E t g:=#[_,h,p]
theorem zc(p:L10.pA K E u g)(h:PSs X b u):∃t,PSs X b t/\L10.pA K E t g:=#[_,h,p]
theorem pY{x a:Str}{b:X2}{fd:WY}{N:G Str}{n m:Nat}{g:FS}{j:FN}(F:YN K x a b f fd)(S:Yk N T (aD b))(c:T.length=n)(hm:N.length=m)(l:j=iE m g)
  (o:∀(e:B) (A:Wl) (outer:G Env) (s:VG) (H:Hp) (E:XK),N.Nodup->X3 k (A.deeper (Wg a (aD b) s.heap.objs.size f e))->(A.deeper (Wg a (aD b) s.heap.objs.size f e)).units+64<cLine->(A.deeper (Wg a (aD b) s.heap.objs.size f e)).units+1<cLine->(A.deeper (Wg a (aD b) s.heap.objs.size f e)).units+65<cLine->
   ∃t,PSs (gw dX P w K Y base N a (aD b) f e A outer s H E).nox (cJ b) t/\SO K E t g):FnOk P w K Y base dX (k+1) f fd T (rX K n j):=
 Vf F S c hm l λe A outer s H E i=>o e A outer s H E S.nd i i.units (D8 i) (Ft i)
theorem lL{n m:Nat}(F:YN K x qual st f fd)(S:Yk N T (aD st))(c:T.length=n)(hm:N.length=m)(e:j=L10.dc m g)
  (i:∀(a:B) (A:Wl) (outer:G Env) (s:VG) (H:Hp) (E:XK),N.Nodup->X3 k (A.deeper (Wg qual (aD st) s.heap.objs.size f a))->(A.deeper (Wg qual (aD st) s.heap.objs.size f a)).units+64<cLine->(A.deeper (Wg qual (aD st) s.heap.objs.size f a)).units+1<cLine->(A.deeper (Wg qual (aD st) s.heap.objs.size f a)).units+65<cLine->
   ∃t,PSs (gw dX P w K Y base N qual (aD st) f a A outer s H E).nox (cJ st) t/\L10.pA K E t g):FnOk P w K Y base dX (k+1) f fd T (L10.db K n j):=
 L10.Vh F S c hm e λa A outer s H E b=>i a A outer s H E S.nd b b.units (D8 b) (Ft b)
theorem Nt{W:M}{a:Array B}{g:Nat}{ss:Array (I B)}{xs:G V}{ds:G D}(l:K.lookup W=R #[.type "tuple",U,.seq a g,ss])(e:a.size<=VT)(b:Vals xs a.toList)(hd:∀O H,Xx O K H xs ds):∀O H,DV O K H (.ref W) (.tuple ds):=λO H=>
 .tup (xs:=xs) #[.inr #[_,_,_,l,#[rfl,rfl],rfl,e,b],λ_=>.inr #[_,_,_,l,#[rfl,rfl],rfl,e,b]] (hd O H)
end
end L3
namespace L10R
open PySem PySem.Calls PyProof.Rows
def Rk:typeLookup (.type "list_reverseiterator") "__len__"=pure U:=by rw[abk,Zs];kernel_rfl
def GQ:typeLookup (.type "list_reverseiterator") "__length_hint__"=pure (R (.builtin "list_reverseiterator.__length_hint__")):=by rw[abk,Zs];kernel_rfl
section
variable{Y:V8}{w:Wv}{A:Wl}{E:Vu->VG->Prop}{s:VG}{r l:VF}{items:Array Vu}
def Kp{Q:Bool->VG->Prop}(e:s.TypeIs (.ref r) "list_reverseiterator")(h:Q VO s):wpAny (model Y w) A (Builtin.List.listLengthHint (.ref r)) Q E s:=by
 ext Builtin.List.listLengthHint;show Ld (abj e Rk ?_);dsimp only;show Y3 (λa=>a5 a ()) (λ_=>?_);show Y3 (λa=>a5 a ()) (λ_=>?_);show Ld (abj e GQ ?_);generalize f:("list_reverseiterator.__length_hint__":String)=g
 wp_delta
 rw[show splitId g=R ("list_reverseiterator","__length_hint__")from by subst f;left];subst f;show Ld (aaV (T:= "list_reverseiterator") (b:=P) e (by rw[akD];kernel_rfl) ?_);show Y3 (λa=>a5 a ()) (λ_=>?_);show Y3 (λ_=>?_) (λa=>a5 (by left) a);show Y3 (λa=>a5 a (by left)) (λ_=>?_);show VH h
def CQ{R:abH->VG->Prop}(G:A.handled=U)(n:l≠r)(C:s.heap.IsList l items)(j:s.heap.IsRevIter r l ((items.size:Int) - 1))(S:VF)(h:S≠r)(u:S≠l)(res:Vu)(a:Nat)(I:s.heap.get? S=lD {cls:=.type "list",data:=.seq #v[] a})
  (J:∀x D k d,(∀b o,b≠S->b≠r->s.heap.get? b=lD o->x.get? b=lD o)->x.get? S=lD {cls:=.type "list",dict:=U,data:=.seq k d,slots:= #v[]}->aaW (λi v=>items[items.size - 1 - i]?=lD v) k items.size->R (.ok (.ret res)) {s with heap:=x,toks:=D}) (F:items.size<=VT):
  wpAny (model Y w) A.in1 (Builtin.List.listExtendWith (.ref S) (.ref r) res)
   (λfin c=>match fin with|.done f=>R (.ok f) c|.again d=>d.quiet=P/\codeAny (model Y w) A d R c) (λe c=>R (.error e) c) s:=by
 let t:S∉[r,l]:=by simp only[Wa,Xi,or_false,not_or];show#[h,u]
 let W:=Walks.listRev (prog:=Y) (w:=w) (A:=A.in1) G r l n items;let B:0<=items.size/\s.heap.IsRevIter r l ((items.size:Int) - 1 - ((0:Nat):Int))/\s.heap.IsList l items:=#[Wx _,by rw[show(items.size:Int) - 1 - ((0:Nat):Int)=(items.size:Int) - 1 by ext];show j,C];let m:codeAny (model Y w) A (.builtin "list.extend.loop" #[[.ref S,.ref r,res],[]]) R s:=by
  show codeAny_extend_loopS W.toS F S t res items.size 0 _ #v[] a rfl (Wx _) B I (aaW.nil _) λc k d hm y z=>?_;rw[Moved.eq_with hm];show J c.heap c.toks k d (λb o H p e=>hm.heap b o (λg=>?_) e) y z;rcases Wa.mp g with N|g
  .show H N
  .show p (VW.mp g)
 ext Builtin.List.listExtendWith;show Ld (YR (T:= "list_reverseiterator") j.typeIs ?_);let M:Builtin.List.listSameRef (.ref S) (.ref r)=VO:=by simp[Builtin.List.listSameRef,h]
 let L:(Vu.type "list_reverseiterator"==Vu.type "list")=VO:=by left
 let K:(Vu.type "list_reverseiterator"==Vu.type "tuple")=VO:=by left
 simp only[M,L,K,ac4,Yg,if_false];show Ld (wpAny_pyIter_revIter j ?_);show Ld (W4 (Kp j.typeIs ?_));show Y3 (λq=>a5 q (by left)) (λ_=>VH #[Yw PySem.F.plain_extend_loop _,m])
def Kd{R:abH->VG->Prop}(C:A.handled=U)(m:l≠r)(z:s.heap.IsList l items)(y:s.heap.IsRevIter r l ((items.size:Int) - 1))(S:M)(g:S≠r)(h:S≠l)(q:s.heap.get? S=lD {cls:=.type "list",data:=.seq #v[]})
  (F:∀d D x c,(∀b o,b≠S->b≠r->s.heap.get? b=lD o->d.get? b=lD o)->d.get? S=lD {cls:=.type "list",dict:=U,data:=.seq x c,slots:= #v[]}->aaW (λi v=>items[items.size - 1 - i]?=lD v) x items.size->R (.ok (.ret .none)) {s with heap:=d,toks:=D}) (J:items.size<=VT):
  wpAny (model Y w) A.in1 (Builtin.«list.__init__» #[[.ref S,.ref r],[]])
   (λfin k=>match fin with|.done f=>R (.ok f) k|.again c=>c.quiet=P/\codeAny (model Y w) A c R k) (λe k=>R (.error e) k) s:=by
 show wpAny _ _ (do let old<-Builtin.List.listItems (.ref S);Builtin.List.listUpdate (.ref S) (λ_=> #v[]);letGo old.toList.reverse;Builtin.List.listExtendWith (.ref S) (.ref r) .none) _ _ s;show Ld ?_;ext Builtin.List.listItems;show Ld (Xh q W (VH ?_));show wpAny _ _ (updateSeq S (λ_=> #v[])>>=λ_=>letGo (#v[]:Array Vu).toList.reverse>>=λ_=>Builtin.List.listExtendWith (.ref S) (.ref r) .none) _ _ s;show Ld (abl q W ?_);let a:=cv (Obj.mapSeq (λ_=>(#v[]:Array Vu))) q W
 let u:∀b o,b≠S->s.heap.get? b=lD o->(s.heap.update S (Obj.mapSeq (λ_=>(#v[]:Array Vu)))).get? b=lD o:=
  λb o j e=>(cn _ _ (dr j)).trans e
 show Ld (Yl ?_);show CQ C m (z.at λo e=>u l o h.symm e) (y.at λo e=>u r o g.symm e) S g h .none _ a (λd D x c B p t=>?_) J;show F d D x c (λb o j n e=>B b o j n (u b o j e)) p t
def afv{Q:Vu->VG->Prop}(y:A.handled=U)(g:l≠r)(n:s.heap.IsList l items)(m:s.heap.IsRevIter r l ((items.size:Int) - 1))(C:items.size<=VT)
  (B:∀c k d x,(∀b o,b≠r->s.heap.get? b=R o->c.get? b=R o)->c.get? s.heap.objs.size=R {cls:=.type "list",dict:=U,data:=.seq d x,slots:= #v[]}->aaW (λi v=>items[items.size - 1 - i]?=R v) d items.size->Q (.ref s.heap.objs.size) {s with heap:=c,toks:=k}):
  wpAny (model Y w) A (call (.type "list") [.ref r]) Q E s:=by
 show akE (Q₁:=λobj a=>obj=.ref s.heap.objs.size/\a={s with heap:=s.heap.push {cls:=.type "list",data:=.seq #v[]}}) PySem.F.called_list (PySem.F.typeCall_list_1 _) PySem.F.entry_list_init
  (code_list_new _ #[W,W]) λobj a f=>?_
 let(rfl,rfl):=f;let p:(s.heap.push {cls:=.type "list",data:=.seq #v[]}).get? s.heap.objs.size=R {cls:=.type "list",data:=.seq #v[]}:=cj _ W;let q:r<s.heap.objs.size:=by let(o,e,_):=m;show bP e
 let t:l<s.heap.objs.size:=by let(o,e,_):=n;show bP e
 show#[#[_,p,W],PySem.F.args_list_init_2 _ _,Kd (A:=A.in1) y g (n.at λo e=>br _ e) (m.at λo e=>br _ e) _ (WX q) (WX t) p (λc k d x u h j=>?_) C];show#[W,B c k d x (λb o z e=>u b o (Wc (bP e)) z (br _ e)) h j]
end
end L10R
namespace L2
open PySem PySem.Spec PyProof.Rows
section
variable{X:Cx}{e:WQ}{Z:TE}{p q p1 Y:Pos}
def zO(K:Vs)(Z:TE):TE:=λf H Q=>Z f H λx b=>∃a xs,x=.ref a/\SqL K b a xs/\∀l,b l=U->Q (.ref l) (bL b l (.lst xs.reverse))
def BL:Xb "reversed"=R (.type "reversed"):=by rfl
def Fv{xs:G V}{us:G B}(h:Vals xs us):Vals xs.reverse us.reverse:=by
 induction h with
 |nil=>show .nil
 |cons h _ a=>rw[XH,XH];show a.append (.cons h .nil)
def GH{items a:Array B}(h:aaW (λi v=>items[items.size - 1 - i]?=R v) a items.size):a.toList=items.toList.reverse:=by
 apply ZX;intro j;by_cases b:j<items.size
 .let f:j<a.size:=by rw[h.1];show b
  let e:=h.2 j _ (acI f);rw[Zc,acI f,List.getElem?_reverse (by rw[Ww];show b),Ww,Zc];show e.symm
 .rw[Xd (by rw[Ww,h.1];ext),Xd (by rw[X6,Ww];ext)]
def G8{a:G (M×Obj)}{j:St}{H:Hp}{s:VG}{e:M}{o:HO}(I:Inv X a j H s)(f:qC X a H e)(A:X.s₀.heap.get? e=U)(new:ObjOk X.prog X.w (bL H e o) s.heap e o):Inv X a j (bL H e o) s:=by
 let(ne,t,_,_,v,i):=f;let m:∀b o,X.s₀.heap.get? b=R o->b≠e:=λb o z y=>by rw[y,A]at z;ext z
 let g:∀b o,H b=R o->b≠e:=λb o z y=>by rw[y,ne]at z;ext z
 let B:=I.base;show#[I.ok,I.os,I.bare,#[B.keep,B.slot,λb o z n x=>?_,B.there,λb xs z=>?_,λb o u z=>?_,λb C z=>?_],I.loc,I.cell,?_,λx c z=>?_,λp l=>?_,λb u z=>?_,I.len]
 .rw[aF (m b o z)];show B.free b o z n x
 .let:=B.ab7 b xs z;rw[aF (g b _ this)];show this
 .let:=B.abO b o u z;rw[aF (g b _ this)];show this
 .let(h,y):=B.ab6 b C z;show#[h,by rw[aF (g b _ y)];show y]
 .rw[aF t.symm];show I.free
 .rw[aF (v x c z)];show I.Zh x c z
 .let(z,n,r):=I.pin p l;show#[z,by rw[aF (i p l)];show n,r]
 .by_cases y:b=e
  .subst y;rw[aX]at z;ext z;show new
  .rw[aF y]at z;show(I.W6 b u z).ZP (λ_ _ _ y=>y) (λc y=>by rw[aF (g c _ y)];show y) λc xs y=>by rw[aF (g c _ y)];show y
def Bv(d:X.calm=Vx)(C:Gl X "list")(A:X.mg "list"=Vt)(B:Gl X "reversed")(y:X.mg "reversed"=Vt)(U:PE X e Z)
  (L:We [.Call (.Name "reversed" q) [e] [] Y] X.env=[(VO,eval (.Call (.Name "reversed" q) [e] [] Y) X.env)]:=by rfl) (J:We [e] X.env=[(VO,eval e X.env)]:=by rfl):
  PE X (.Call (.Name "list" p) [.Call (.Name "reversed" q) [e] [] Y] [] p1) (zO X.K Z):=by
 intro g s v H Q I h;show XY (pz I C A C7 ?_);show XD ?_ L W;rw[L];show wpAny _ _ (spliced ((VO,eval (.Call (.Name "reversed" q) [e] [] Y) X.env)::[])) _ _ s;show Calls.spliced_cons ?_;show XY (pz I B y BL ?_);show XD ?_ J W;rw[J];show wpAny _ _ (spliced ((VO,eval e X.env)::[])) _ _ s;show Calls.spliced_cons (cR (U g s v H _ I h) λu f #[x,t,m,N,a,xs,ex,S,O]=>Calls.spliced_nil ?_);subst ex;obtain rfl:u=Vu.ref a:=N;let(i,rv,pl,G):=m.list S;let w:=pl.isList;show call_reversed_list w (Calls.spliced_nil ?_);let R:a<f.heap.objs.size:=by let(o,e,_):=w;show bP e
 let n:Inv X g v t {f with heap:=f.heap.push (revObj a ((i.toArray.size:Int) - 1))}:=m.kept (t':=f.toks) λb o e=>br _ e;let j:i.toArray.size<=VT:=by rw[VY,<-rv.length];show G
 show L10R.afv (r:=f.heap.objs.size) (l:=a) (items:=i.toArray) (m.ok.hd d) (Wc R) (w.at λo e=>br _ e) #[_,cj _ W,W,W] j λh' F E c T hL hi=>?_;let(f0,f1,M,f3,f4,f5):=m.acj (VP f.heap.objs.size) (m.W6.fresh (VP _));let I3:Inv X g v t {f with heap:=h',toks:=F}:=Inv.turned (s:={f with heap:=f.heap.push (revObj a ((i.toArray.size:Int) - 1))}) (t':=F) (it:=f.heap.objs.size) n (λb o hb e=>T b o hb e) f0 f1 f3 f4 f5;let ea:=GH hi;let hn:t (f.heap.push (revObj a ((i.toArray.size:Int) - 1))).objs.size=Vt:=n.W6.fresh (VP _);show#[.ref (f.heap.push (revObj a ((i.toArray.size:Int) - 1))).objs.size,_,?_,W,O _ hn];let M:=n.acj (H':=t) (VP (f.heap.push (revObj a ((i.toArray.size:Int) - 1))).objs.size) hn;let P:X.s₀.heap.get? (f.heap.push (revObj a ((i.toArray.size:Int) - 1))).objs.size=Vt:=by
  cases z:X.s₀.heap.get? (f.heap.push (revObj a ((i.toArray.size:Int) - 1))).objs.size with
  |none=>rfl
  |some o=>show a5 (V7 (bP z) n.sz) (WZ _)
 show G8 I3 M P #[by rw[X6];show G,E.toList,c,by rw[ea];show Fv rv,by rw[adL];show hL]
end
end L2
namespace L10
open PySem PySem.Spec PyProof.Rows L2 L3
section
variable{B O A:cH}{K:Vs}{E:XK}{H H' U H2:Hp}{N J Y C:bb VF}{Z Z' T X:bp}{L:L2.St}{S:bz}{v:V}
def Fo(a:dM):dM:=λS Z=>(a S Z).bind λx T=>(RS.WN T (gL T x)).bind λp X=>.ok (.rf X.length) (X++[.lst p.2.reverse])
def Qb{a:Type}{R:V->a->Prop}{c:G V}{xs:G a}(h:Paired R c xs):Paired R c.reverse xs.reverse:=by
 induction h with
 |nil=>show .nil
 |cons h t b=>rw[XH,XH];show wY b h
def JB{h:TE}{c:dM}(o:cY K E h c):cY K E (zO K h) (Fo c):=by intro B L H N Z S Q s m w;show o B L H N Z S _ s m (w.bind.imp λx Y T U y b f u n=>?_);let((i,xs),q,f):=WS.WN f;let(t,a,z,ha,rfl,r,p):=yr b n q;show#[a,z,W,SqL.of r,λl g=>?_];let j:XM U (bL U l (.lst z.reverse)):=cG g _;let e:XQ Y T U (Y++[l]) (T++[.lst xs.reverse]) (bL U l (.lst z.reverse)):=XQ.acD b.len j g;show f _ _ e (b.acD j g (by rw[aX];simp) #[_,aX,Paired.ZR (Qb p) λ_ _ d=>d.Yh e]) _ #[l,by rw[<-b.len];show aQ,W]
def M7{i:Nat}{c:dM}{xs:G SV}(h:c S Z=.ok (.rf i) T)(a:T[i]?=R (.lst xs)):Fo c S Z=.ok (.rf T.length) (T++[.lst xs.reverse]):=by
 let b:gL T (.rf i)=R (i,xs):=by ext gL;dsimp only;rw[a]
 ext Fo;rw[h,eh,b];rfl
def Rn{i:Nat}{f:D->D->I RV}{c:dM}{x y:SV}{z:SV}{Z3:bp}(a:S[i]?=R (R x))(e:c S Z=.ok y T)(b:oj f x y T=.ok z X):Kt i f c S Z=.ok (.nx (S.set i (R z))) X:=by ext Kt;rw[bh a,eh,e,eh,b,eh]
end
end L10
namespace LD
open PySem PyProof.Rows L2 L3
def mL(xs:G (KD×M×V))(k:KD):I V:=(xs.find? λx=>decide (x.1=k)).map (·.2.2)
def oh(xs:G (KD×M×V))(k:KD)(b:M)(v:V):G (KD×M×V):=
 if(xs.find? λx=>decide (x.1=k)).isSome=P then xs.map (λx=>if x.1=k then(x.1,x.2.1,v)else x)else xs++[(k,b,v)]
abbrev RX:G (KD×M×V)->G (KD×M×B)->Prop:=Paired λx y=>x.1=y.1/\x.2.1=y.2.1/\RelV x.2.2 y.2.2
theorem yX:∀{xs:G (KD×M×V)} {a:G (KD×M×B)},RX xs a->xs.map (·.1)=a.map (·.1)
 |_,_,.nil=>rfl
 |_,_,.cons h t=>by rw[V1,V1,h.1,yX t]
theorem yp:∀{xs:G (KD×M×V)} {a:G (KD×M×B)},RX xs a->Z8 (mL xs k) ((atKey a k).map (·.2))
 |_,_,.nil=>by unfold mL atKey;show trivial
 |x::xs,y::a,.cons h t=>by
  unfold mL atKey;rw[WC,WC,h.1];by_cases e:y.1=k
  .rw[aE e];show h.2.2
  .rw[aP e];show yp t
theorem DN:∀{xs:G (KD×M×V)} {a:G (KD×M×B)},RX xs a->(xs.find? λx=>decide (x.1=k)).isSome=(atKey a k).isSome
 |_,_,.nil=>rfl
 |x::xs,y::a,.cons h t=>by
  ext atKey;rw[WC,WC,h.1];by_cases e:y.1=k
  .rw[aE e];rfl
  .rw[aP e];show DN t
theorem IC(r:RelV v u):∀{xs:G (KD×M×V)} {a:G (KD×M×B)},RX xs a->RX (xs.map λx=>if x.1=k then(x.1,x.2.1,v)else x) (a.map (putAt k u))
 |_,_,.nil=>.nil
 |x::xs,y::a,.cons h t=>by
  rw[V1,V1];show .cons ?_ (IC r t);ext putAt;by_cases e:y.1=k
  .rw[av (h.1.trans e),av e];show#[h.1,h.2.1,r]
  .rw[ax (by rw[h.1];show e),ax e];show h
theorem Fi(h:x.1=y.1/\x.2.1=y.2.1/\RelV x.2.2 y.2.2):∀{xs:G (KD×M×V)} {a:G (KD×M×B)},RX xs a->RX (xs++[x]) (a++[y])
 |_,_,.nil=>.cons h .nil
 |_,_,.cons g t=>.cons g (Fi h t)
def HP(r:RelV v u)(h:RX xs a):RX (oh xs k b v) (storedH a k b u):=by
 unfold oh storedH;rw[DN h];split
 .show IC r h
 .show Fi #[W,W,r] h
def si(xs:G (KD×M×V))(k:KD)(b:M)(v:V):(oh xs k b v).length<=xs.length+1:=by
 ext oh;split
 .rw[Vw];ext
 .rw[Vy];show VP _
def vC(K:Vs)(H:Hp)(xs:G (KD×M×V)):Prop:=∀x∈xs,L2.DV K H (.ref x.2.1) x.1.1
section
variable{X:Cx}{Z:bb (VF×Obj)}{Y:L2.St}{H:Hp}{s:VG}{a b:VF}{T:bb (KD×VF×V)}{k:KD}{v:V}{u r:Vu}{A:Wl}{E:Vu->VG->Prop}
theorem Pk:∀{T:G (KD×M×V)} {d:G Zb},Paired (λ(x:KD×M×V) (e:Zb)=>e.hash=uH w x.1.1/\e.key=.ref x.2.1/\RelV x.2.2 e.val) T d->∃c,RX T c/\d=c.map (entryOfKey (jq j w))
 |_,_,.nil=>#[[],.nil,W]
 |x::_,e::_,.cons #[m,l,n] t=>by let(c,g,f):=Pk t;show#[(x.1,x.2.1,e.val)::c,.cons #[W,W,n] g,?_];rw[V1,<-f];let(i,h,ev):=e;dsimp only at m l;subst m l;rfl
theorem OX:∀{T:G (KD×M×V)} {f:G (KD×M×B)},RX T f->Paired (λ(x:KD×M×V) (e:Zb)=>e.hash=uH w x.1.1/\e.key=.ref x.2.1/\RelV x.2.2 e.val) T (f.map (entryOfKey (jq g w)))
 |_,_,.nil=>.nil
 |_,_,.cons h t=>.cons #[by rw[h.1];rfl,by rw[h.2.1];rfl,h.2.2] (OX t)
theorem vF(I:L2.Inv X Z Y H s)(h:L2.DV X.K H (.ref b) k.1):(jq X.prog X.w).is s.heap k b:=L2.DV.reads I h W
def zp(I:L2.Inv X Z Y H s)(e:H a=R (DkO a T))(j:vC X.K H T):T.length<=VT/\(a==Xj)=VO/\∃c,RX T c/\s.heap.DictOfH (jq X.prog X.w) a c:=by
 let(((z,n,nd),o,L,M,G,F,C,B),_):=(show ObjOk X.prog X.w H s.heap a (DkO a T)from I.W6 a _ e);let(c,h,J):=Pk B;show#[z,n,c,h,o,L,M,G,F,C,J,?_,by rw[<-yX h];show nd];let all:∀{l:bb (KD×VF×V)} {m:bb (KD×VF×Vu)},RX l m->(∀x∈l,L2.DV X.K H (.ref x.2.1) x.1.1)->∀y∈m,(jq X.prog X.w).is s.heap y.1 y.2.1:=by
  intro l m q
  induction q with
  |nil=>intro _ y f;show nomatch f
  | @cons p q ps S N t Q=>
   intro g y f;rcases Wa.mp f with e|f
   .subst e;let:=vF I (g p (VV ..));rw[N.1,N.2.1]at this;show this
   .show Q (λx i=>g x (VX _ i)) y f
 show all h j
def CH(z:T.length<=VT)(hd:(a==Xj)=VO)(e:RX T J)(dd:L.DictOfH (jq F w) a J):ObjOk F w H' L a (DkO a T):=by let(o,f,g,h,n,m,l,y,j):=dd;show#[#[#[z,hd,by rw[yX e];show j],o,f,g,h,n,m,by rw[l];show OX e],#[o,h],?_];rintro C B ⟨q,o,f,g,t,p⟩ i;show#[q,o,f,g,i o t,p]
def tm(e:A.units+64<cLine):(jq X.prog X.w).room A.in1:=by show A.in1.units+8<cLine;rw[Wl.in1_units];ext
def RD(m:A.units+64<cLine)(I:L2.Inv X Z Y H s)(e:H a=R (DkO a T))(o:vC X.K H T)(q:L2.DV X.K H (.ref b) k.1)(g:mL T k=R v)(h:∀c d,L2.Inv X Z Y H d->RelV v c->Q c d):
  wpAny (model X.prog X.w) A (getItem (.ref a) (.ref b)) Q E s:=by
 let(z,y,t,i,dd):=zp I e o;let(c,l,f):=Z8.some_of (by rw[<-g];show yp i);let(p,n,j):=ac6.mp l;show agL (tm m) (vF I q) dd n ?_;rw[j];show h c _ (I.tok _) f
def RF(g:A.units+64<cLine)(I:L2.Inv X Z Y H s)(e:H a=R (DkO a T))(i:vC X.K H T)(l:L2.DV X.K H (.ref b) k.1)(h:∀c,L2.Inv X Z Y H c->Q (.bool (!(mL T k).isSome)) c):
  wpAny (model X.prog X.w) A (XT .NotIn (.ref b) (.ref a)) Q E s:=by
 let(z,j,m,f,dd):=zp I e i;show wpAny_notIn_heap (tm g) (vF I l) j dd ?_;let q:=(yp (k:=k) f).aaR;rw[abE]at q;rw[<-q];show h _ (I.tok _)
def Qe(m:A.units+64<cLine)(I:L2.Inv X Z Y H s)(e:H a=R (DkO a T))(o:vC X.K H T)(y:L2.DV X.K H (.ref b) k.1)(d:RelV v r)(C:T.length<VT)(h:∀c,L2.Inv X Z Y (bL H a (DkO a (oh T k b v))) c->Q ⟨⟩ c):
  wpAny (model X.prog X.w) A (setItem (.ref a) (.ref b) r) Q E s:=by
 let(z,t,j,f,dd):=zp I e o;let l:j.length<=VT:=by rw[<-Paired.length f];show z
 let i:(oh T k b v).length<=VT:=by let:=si T k b v;ext
 show agM (hsz:=l) (tm m) (vF I y) dd λB g n=>h _ ?_;let p:∃q,B.get? a=R q:=let#[q,_,_,J,_]:=g;#[q,J]
 show qE I (by rw[e];show True.intro) n p (CH i t (HP d f) g)
def D9(I:L2.Inv X Z Y H s)(e:H a=R (DkO a T)):s.TypeIs (.ref a) "dict"/\(∀b,Vu.ref a=.ref b->∃c,s.heap.get? b=R c/\c.dict=U)/\(a==Xj)=VO:=by let(((z,h,nd),o,l,m,g,f,j,i),_):=(show ObjOk X.prog X.w H s.heap a (DkO a T)from I.W6 a _ e);show#[#[o,g,f.1],λb q=>?_,h];ext q;show#[o,g,f.2.1]
end
section
variable(K:Vs)
def OQ(neg:Bool)(ty g:TE):TE:=λf H Q=>ty f H λy h=>g f h λx e=>∃a b xs k,x=.ref a/\y=.ref b/\e a=R (DkO a xs)/\vC K e xs/\L2.DV K e (.ref b) k.1/\Q (.bl ((mL xs k).isSome !=neg)) e
def KF(g ty:TE):TE:=λf H Q=>g f H λx h=>ty f h λy e=>∃a b xs k v,x=.ref a/\y=.ref b/\e a=R (DkO a xs)/\vC K e xs/\L2.DV K e (.ref b) k.1/\mL xs k=R v/\Q v e
def Jv(h ty g:TE):TS:=λD e H=>g e H λv j=>h e j λx i=>ty e i λy f=>∃a b xs k,x=.ref a/\y=.ref b/\f a=R (DkO a xs)/\vC K f xs/\L2.DV K f (.ref b) k.1/\xs.length<VT/\D.nx e (bL f a (DkO a (oh xs k b v)))
def IW:TE:=λ_ H Q=>∀p,H p=U->Q (.ref p) (bL H p (DkO p []))
end
section
variable{X:Cx}{o i e f Z:WQ}{T U tx tv:TE}{pos Y apos YD:Pos}
def ae9(v:X.A.units+64<cLine)(c:PE X i U)(w:PE X o T):PC X .NotIn i o (OQ X.K P U T):=by intro g s j H Q I h;show cR (c g s j H _ I h) λN m #[y,J,F,n,q]=>cR (w g m j J _ F q) λu M #[x,G,E,p,a,b,xs,k,A,z,e,r,t,l]=>?_;subst A z;obtain rfl:=p;obtain rfl:=n;rw[Bool.bne_true]at l;show RF v E e r t λL C=>#[.bl _,G,C,W,l]
def afq(C:X.A.units+64<cLine)(F:PE X o T)(c:PE X i U)(E:P5 i):PE X (.Subscript o i pos) (KF X.K T U):=by intro j s m H Q I h;show Ds acs.lookup E (cR (F j s m H _ I h) λu p #[x,O,Mz0,r,w]=>cR (c j p m O _ Mz0 w) λiv S #[y,N,n,q,a,b,xs,k,v,J,G,e,z,A,g,t]=>?_);subst J G;obtain rfl:=r;obtain rfl:=q;show#[(D9 n e).1,RD C n e z A g λP R L l=>#[v,N,L,l,t]]
def afe(E:X.A.units+64<cLine)(G:PE X o T)(c:PE X i U)(C:PE X Z tv)(F:Xq Z (lD (.Subscript o i Y)) pos.line X.env=pure VO):
  PS X (.Assign [.Subscript o i Y] Z pos) (Jv X.K T U tv):=by
 intro g s j H D I h;show ae1 (cR (C g s j H _ I h) λr m #[v,S,Q,rv,w]=>cR (G g m j S _ Q w) λu l #[x,R1,Pz0,p,t]=>cR (c g l j R1 _ Pz0 t) λiv s3 #[y,H3,O,n,a,b,xs,k,Mz0,L,e,z,A,J,q]=>?_) F;subst Mz0 L;obtain rfl:=p;obtain rfl:=n;show Qe E O e z A rv J λs4 N=>#[j,_,N,q]
theorem adw:PE X (.Dict [] [] pos) IW:=λa s b H Q I h=>
 wpAny_Dict_empty #[.ref s.heap.objs.size,_,I.laid (λ_ _ q=>br _ q) (VP _) (CH (Wx _) (beq_eq_false_iff_ne.mpr (dr (Wc I.big))) .nil (Heap.DictOfH.new s.heap)),W,h _ (I.W6.fresh (VP _))]
end
mutual
def Sv:VD->VD->bg Bool
 |.int i,.int j=>lD (decide (i<j))
 |.str x,.str y=>lD (decide (x.cps.toList<y.cps.toList))
 |.tuple xs,.tuple ys=>SQ xs ys
 |_,_=>Vt
def SQ:bb VD->bb VD->bg Bool
 |[],[]=>lD VO
 |[],_::_=>lD Vx
 |_::_,[]=>lD VO
 |x::xs,y::ys=>if VD.eqv x y=Vx then SQ xs ys else Sv x y
end
end LD
namespace LD
open PySem PyProof.Rows
structure VE(es:G Zb)(Wf:G (Unit×B)):Prop where
 vals:es.map (·.val)=Wf.map (·.2)
end LD
namespace L10
open PySem PyProof.Rows L2 L3 LD
def l9:SV->I D
 |.fz d=>if keyD d=P then R d else U
 |_=>U
def Sw:SV->I D
 |.fz d=>R d
 |_=>U
def qU(Z:bp):SV->I (Nat×G (D×D))
 |.rf i=>match Z[i]? with
  |some (.dd a)=>R (i,a)
  |_=>U
 |_=>U
def iR(b:G (D×D))(k:D):I D:=(b.find? λa=>VD.eqv a.1 k).map (·.2)
def qD(b:G (D×D))(k v:D):G (D×D):=if(b.find? λa=>VD.eqv a.1 k).isSome=P then b.map (λa=>if VD.eqv a.1 k=P then(a.1,v)else a)else b++[(k,v)]
section
variable{B O O':cH}{K:Vs}{E:XK}{H H' R P:Hp}{X α' U S:bb VF}{Z Z' Z1 Y:bp}{T:L2.St}{ρ:bz}{v:V}{k:KD}
def pH(e:l9 x=lD d)(h:YX O K H X v x):∃(k:KD) (b:M),k.1=d/\v=.ref b/\L3.DV O K H (.ref b) d:=by
 cases x with
 |fz z=>
  let e:(if keyD z=Vx then lD z else Vt)=lD d:=e;by_cases a:keyD z=Vx
  .rw[av a]at e
   ext e;let h:=h;cases d with
   |tuple xs=>cases h with
    |tup g f=>show#[#[_,a],_,W,W,.tup g f]
   |_=>simp[keyD]at a
  .rw[ax a]at e;ext e
 |rf i=>ext e
 |tp l=>ext e
def wq(s:Ws B K H X Z)(b:YX (ow B X Z) K H X v x)(h:qU Z x=lD (i,o)):Z[i]?=lD (.dd o)/\∃a xs,X[i]?=lD a/\v=.ref a/\H a=lD (DkO a xs)/\PrD (ow B X Z) K H xs o:=by
 cases x with
 |fz d=>ext h
 |tp l=>ext h
 |rf j=>
  let(a,n,rfl):=b;unfold qU at h;dsimp only at h;cases q:Z[j]? with
  |none=>rw[q]at h;ext h
  |some c=>
   rw[q]at h;cases c with
   |dd m=>let e:=VZ h;ext e;let(ws,g,f):=s.cel i a _ n q;show#[q,a,ws,n,W,g,f]
   |_=>ext h
theorem wU:∀{xs:G (KD×M×V)} {b:G (D×D)},PrD O K H xs b->vC K H xs
 |_,_,.nil=>λ_ h=>nomatch h
 |x::xs,f::b,.cons h t=>λy a=>by
  rcases Wa.mp a with e|a
  .subst e;rw[h.1];show h.2.1.plain
  .show wU t y a
def yt{x:KD×M×V}{a:D×D}(h:x.1.1=a.1):decide (x.1=k)=VD.eqv a.1 k.1:=by
 rw[<-h]
 haveI:Decidable (x.1.1=k.1):=Classical.propDecidable _
 rw[Iv (keyD_kd x.1.2).1 (keyD_kd k.2).1];by_cases e:x.1=k
 .rw[aE e,aE (dP Subtype.val e)]
 .rw[aP e,aP λz=>e (Subtype.ext z)]
theorem qK:∀{xs:G (KD×M×V)} {a:G (D×D)},PrD O K H xs a->(∀d,iR a k.1=lD d->∃v,mL xs k=lD v/\L3.DV O K H v d)/\(iR a k.1=Vt->mL xs k=Vt)
 |_,_,.nil=>#[λx e=>(by ext e),λ_=>W]
 |x::xs,b::a,.cons h t=>by
  unfold iR mL;rw[WC,WC,yt h.1];cases VD.eqv b.1 k.1 with
  |true=>show#[λd e=>#[x.2.2,W,by ext e;show h.2.2],λe=>by ext e]
  |false=>show qK t
def Cz(h:PrD O K H xs f):(mL xs k).isSome=(iR f k.1).isSome:=by
 let(b,a):=qK h;cases q:iR f k.1 with
 |none=>rw[a q];rfl
 |some x=>let(u,e,_):=b x q;rw[e];rfl
theorem Ih:∀{xs:G (KD×M×V)} {b:G (D×D)},PrD O K H xs b->(xs.find? λx=>decide (x.1=k)).isSome=(b.find? λa=>VD.eqv a.1 k.1).isSome
 |_,_,.nil=>rfl
 |x::xs,a::b,.cons h t=>by
  rw[WC,WC,yt h.1];cases VD.eqv a.1 k.1 with
  |true=>rfl
  |false=>show Ih t
theorem Pq(a:L3.DV O K H v d):∀{xs:G (KD×M×V)} {c:G (D×D)},PrD O K H xs c->PrD O K H (xs.map λx=>if x.1=k then(x.1,x.2.1,v)else x) (c.map λb=>if VD.eqv b.1 k.1=Vx then(b.1,d)else b)
 |_,_,.nil=>.nil
 |x::xs,b::c,.cons h t=>by
  rw[V1,V1];show .cons ?_ (Pq a t);let e:=yt (k:=k) h.1;by_cases z:x.1=k
  .rw[av z,av (by rw[<-e];show aE z)];show#[h.1,h.2.1,a]
  .rw[ax z,ax (by rw[<-e,aP z];simp)];show h
theorem zY(r:x.1.1=a.1/\L3.DV O K H (.ref x.2.1) a.1/\L3.DV O K H x.2.2 a.2):∀{xs:G (KD×M×V)} {b:G (D×D)},PrD O K H xs b->PrD O K H (xs++[x]) (b++[a])
 |_,_,.nil=>.cons r .nil
 |_,_,.cons g t=>.cons g (zY r t)
def Ap(e:L3.DV O K H (.ref b) k.1)(a:L3.DV O K H v d)(h:PrD O K H xs f):PrD O K H (oh xs k b v) (qD f k.1 d):=by
 unfold oh qD;rw[Ih h];split
 .show Pq a h
 .show zY #[W,e,a] h
theorem Lj(e:Ev O H O' H')(h:PrD O K H xs a):PrD O' K H' xs a:=Paired.ZR h λ_ _ q=>#[q.1,q.2.1.ev e,q.2.2.ev e]
def EJ(neg:Bool)(a fd:dM):dM:=λρ Z=>(a ρ Z).bind λx Z1=>(fd ρ Z1).bind λo Y=>(RS.WN Y (l9 x)).bind λk Y=>(RS.WN Y (qU Y o)).bind λp Y=>.ok (.fz (.bool ((iR p.2 k).isSome !=neg))) Y
def Kb(r:cY K E C L)(hd:cY K E J fd):cY K E (OQ K neg C J) (EJ neg L fd):=by intro B T H X Z ρ Q s f w;show r B T H X Z ρ _ s f (w.bind.imp λx U Z1 R A l j v p=>?_);show hd B T R U Z1 ρ _ l (f.Yh A) (j.bind.imp λo S Y P z g e u q=>?_);let(d,n,e):=WS.WN e;let((i,Wf),m,e):=WS.WN e;let(_,a,xs,N,rfl,y,h):=wq g q m;let(k,b,rfl,rfl,t):=pH n (p.Yh z);show#[a,b,xs,k,W,W,y,wU h,t.plain,?_];rw[Cz h];show WS.now g e _ (.bl _)
def t9(fd a:dM):dM:=λρ Z=>(fd ρ Z).bind λo Z1=>(a ρ Z1).bind λx Y=>(RS.WN Y (l9 x)).bind λk Y=>(RS.WN Y (qU Y o)).bind λp Y=>(RS.WN Y (iR p.2 k)).bind λd Y=>.ok (.fz d) Y
def G0(hd:cY K E N fd)(C:cY K E L fk):cY K E (KF K N L) (t9 fd fk):=by intro B T H X Z ρ Q s f w;show hd B T H X Z ρ _ s f (w.bind.imp λo U Z1 R J m j u A=>?_);show C B T R U Z1 ρ _ m (f.Yh J) (j.bind.imp λx S Y P I g e v t=>?_);let(d,q,e):=WS.WN e;let((i,Wf),p,e):=WS.WN e;let(_,a,xs,ha,rfl,G,h):=wq g (A.Yh I) p;let(k,b,rfl,rfl,F):=pH q t;let(y,n,e):=WS.WN e;let(z,r,l):=(qK h).1 y n;show#[a,b,xs,k,z,W,W,G,wU h,F.plain,r,WS.now g e z l]
def yE(fd e b:dM):fF:=λρ Z=>(b ρ Z).bind λy Z1=>(fd ρ Z1).bind λo Y=>(e ρ Y).bind λx a=>(RS.WN a (l9 x)).bind λk a=>(RS.WN a (qU a o)).bind λp a=>(RS.WN a (Sw y)).bind λd a=>if p.2.length<1000000 then .ok (.nx ρ) (a.set p.1 (.dd (qD p.2 k d)))else .bad
def QR(e:Sw x=lD d)(h:YX O K H X v x):L3.DV O K H v d:=by
 cases x with
 |fz z=>ext e;show h
 |rf i=>ext e
 |tp l=>ext e
def Gr(hd:cY K E td fd)(hk:cY K E tk fk)(c:cY K E tv fv):pA K E (Jv K td tk tv) (yE fd fk fv):=by
 intro B T H X Z ρ D s g w;show c B T H X Z ρ _ s g (WS.imp (WS.bind w) λy U Z1 R r L I t m=>?_);show hd B T R U Z1 ρ _ L (g.Yh r) (WS.imp (WS.bind I) λo S Y P q J G u hu=>?_);show hk B T P S Y ρ _ J (g.Yh (r.trans q)) (WS.imp (WS.bind G) λx e h j p A f z hz=>?_);let(kd,Q,f):=WS.WN f;let((i,Wf),N,f):=WS.WN f;let(d,M,f):=WS.WN f;let(l,a,xs,ha,rfl,g1,n):=wq A (hu.Yh p) N;let(k,b,rfl,rfl,C):=pH Q hz;let hy:=QR M (m.Yh (q.trans p));dsimp only at f;by_cases hn:Wf.length<1000000
 .rw[av hn]at f;let ev:Ev (ow B e h) j (ow B e h) (bL j a (DkO a (oh xs k b t))):=rK ha l (by nofun);let F:XQ e h j e (h.set i (.dd (qD Wf k.1 d))) (bL j a (DkO a (oh xs k b t))):=XQ.put ha l (by nofun) (by nofun);let hl:=Paired.length n;show#[a,b,xs,k,W,W,g1,wU n,C.plain,ub (),?_];show f e _ F (A.put ha l (by nofun) (by nofun) #[_,aX,Ap (C.ev ev) (hy.ev ev) (Lj ev n)]) T ((g.Yh (r.trans (q.trans p))).Yh F)
 .rw[ax hn]at f;show f.elim
def yC:dM:=λ_ Z=>.ok (.rf Z.length) (Z++[.dd []])
def wS:cY K E IW yC:=by intro B T H X Z ρ Q s b w;show λp a=>qB s a w λ_=>#[[],aX,.nil]
end
end L10
namespace L3
open PySem PyProof.Rows L2
structure aco(K:Vs)(x qual:Str)(st:X2)(f:M)(fd:WY)(T:M)(WA:Array B):Prop where
 ex:∃(oc:B) (od:I M) (kV doc pm:B) (an:I M) (Xf ct:B) (osl:Array (I B)),
  fd=Xl x qual (gK st) (cJ st) (aD st) (.ref T) kV doc pm an Xf ct/\K.lookup f=R #[oc,od,.func fd,osl]/\Zv K Xf qual=P
 kp:Xv K (.ref f)=P
 tp:∃o n,K.lookup T=R o/\o.data=.seq WA n
section
variable{P:V8}{w:Wv}{K:Vs}{J:Str->bg Vu}{base:Heap}{x Z:Str}{Y:X2}{f:VF}{S:WY}{T:VF}{A:Array Vu}{N ps:bb Str}{k n m:Nat}{L:Sp}{Q:bb Vu}
def aco.binds(F:aco K x Z Y f S T A)
  (h:∀(kV a b:B) (e:I M) (g ct:B) (us:G B),(us++Q).length=ps.length->∃k:I (Array B)->Sem (G (Str×B)),bindArgs (Xl x Z (gK Y) (cJ Y) (aD Y) (.ref T) kV a b e g ct) #[us,[]]=seqItems? (.ref T)>>=k/\k (R A)=pure (ps.zip (us++Q))):Binds K S ps Q:=by
 let(v,u,kV,a,b,e,g,ct,i,rfl,y,l):=F.ex;let(o,n,q,p):=F.tp;intro s us X j;let(k,t,r):=h kV a b e g ct us j;show aa3.of_defaults (fd:=Xl x Z (gK Y) (cJ Y) (aD Y) (.ref T) kV a b e g ct) W (X _ _ q) p t r
def qA(P:V8)(w:Wv)(K:Vs)(J:Str->I B)(base:Heap)(a:yW)(k:Nat)(x:Str)(ps:G Str)(b:G V)(L:Sp):Prop:=
 ∃(f:M) (S:WY) (Q:G B),FnOk P w K J base a k f S ps L/\Binds K S ps Q/\Vals b Q/\Xv K (.ref f)=Vx/\J x=R (.ref f)
def nG(C:qA X.prog X.w X.K X.mg X.base z k x ps y L)(o:X3 j X.A)(l:gp z X E)(c:PA X (e::u) t)(g:k<=j:=by decide)(q:Gl X x:=by rfl)
  (h:(x==("__debug__":Str))=VO:=by decide) (r:We (e::u) X.env=(VO,eval e X.env)::We u X.env:=by rfl) (a:(backTo pos (We u X.env)).any (·.1)=VO:=by rfl):
  PE X (.Call (.Name x p) (e::u) [] pos) (lS L y E t):=by
 let(f,S,Q,F,b,v,i,m):=C;show Ef F (o.mono g) q m i b v l c h r a
end
end L3
namespace L10
open PySem PyProof.Rows L2 L3
section
variable{P:V8}{w:Wv}{K:Vs}{L:Str->bg Vu}{base:Heap}{x Z:Str}{Y:X2}{f:VF}{J:WY}{T:VF}{WA:Array Vu}{N X:bb Str}{k n m:Nat}{g:fF}{C:jh}
def Tg(F:aco K x Z Y f J T WA)(S:Yk N X (aD Y))(c:X.length=n)(hm:N.length=m)(q:C=dc m g)
  (u:∀(a:Vu) (A:Wl) (outer:G Env) (s:VG) (H:Hp) (E:XK),X3 k (A.deeper (Wg Z (aD Y) s.heap.objs.size f a))->
   ∃t,PSs (gw (L4.iW P w) P w K L base N Z (aD Y) f a A outer s H E) (cJ Y) t/\pA K E t g):FnOk P w K L base (L4.iW P w) (k+1) f J X (db K n C):=by
 subst q hm;let(z,y,kV,r,v,B,a,ct,i,rfl,j,e):=F.ex;show Il j e S (λvs H Q E h=>h.1.trans c.symm) λA outer s H vs Q E p b=>?_;let(t,l,o):=u a A outer s H E p;show#[t,l,B5 (xs:=[]) o b]
end
section
variable{K:Vs}{E:XK}
def zl(F:jh)(n:Nat)(b:G D)(c:xi):dM:=λe Z=>(c e Z).bind λxs a=>if(xs++b.map SV.fz).length=n then F (xs++b.map SV.fz) a else .bad
theorem Cr:∀{c ws:G V} {xs b:G SV},Yx O K H α c xs->Yx O K H α ws b->Yx O K H α (c++ws) (xs++b)
 |_,_,_,_,.nil,h=>h
 |_,_,_,_,.cons a t,h=>.cons a (Cr t h)
def wk(hd:∀O H,L3.Xx O K H o p)(c:x8 K E r t):cY K E (lS (db K n F) o E r) (zl F n p t):=by
 intro B g H α Z q Q s h w;show c B g H α Z q _ s h (w.bind.imp λxs a f l m i e u j=>?_);by_cases hn:(xs++p.map SV.fz).length=n
 .rw[av hn]at e;let b:=Cr j (mw (ow B a f) a (hd (ow B a f) l));show#[b.length.trans hn,B,a,f,_,i,b,e]
 .rw[ax hn]at e;show e.elim
end
end L10
namespace L4
open PySem PyProof.Rows L2 L3
def acn(h:Heap)(e:M)(c:B)(d:I M)(a:B)(T:M)(v:B):Prop:=
 ∃b fs,h.get? e=R b/\b.cls=c/\b.dict=d/\b.data=.fields fs/\fs[0]?=R a/\fs[1]?=R (.ref T)/\T≠e/\∃g f,h.get? T=R g/\g.data=.fields f/\f[3]?=R v
section
variable{M:aeJ}{A:Wl}{E:Vu->VG->Prop}{s:VG}
def uA
  (C:A.frames=R (env::outer)) (r:s.heap.FunFrames base (env::outer)) (B:env.frame=R L) (t:s.heap.get? e=R J) (h:J.data=.fields fs) (p:1<fs.size) (F:fs[0]?=R a0)
  (k:∀x T,s.heap.objs.size<=T->acn x e J.cls J.dict a0 T (rawInt L)->Lft (env::outer) e U s.heap x->Q ⟨⟩ {s with heap:=x}):
  wpAny M A (frameOf env>>=λfr=>entryPlaceOf L nx>>=λpl=>EntryCells.newEntry X fr .none (rawInt L) .none pl>>=λb=>setField (.ref e) 1 b) Q E s:=by
 let g:e∉(env::outer).filterMap (·.frame):=λz=>by let(_,o,q,n):=r.mem z;rw[t]at q;ext q;show n fs h
 show Ld (ahv C r B λa S=>?_);show Ld (agN λpl P=>?_);unfold EntryCells.newEntry newFields;show Ld (WG ?_ (P.sizeOk5 _ _ _ _ _));let l:=(S.2.1 e g).trans t;generalize Y:({cls:=.type "traceback",dict:=U,data:=.fields ([X,.ref L,.none,rawInt L,.none]++(if pl.isEmpty then VR 6 Vu.none else pl)).toArray}:Obj)=N;let u:N.data=.fields ([X,.ref L,.none,rawInt L,.none]++(if pl.isEmpty then VR 6 Vu.none else pl)).toArray:=by rw[<-Y]
 let G:=dk u;let j:=br N l;show W8 j h p ?_;let m:=WX (bP l);let v:=da h (·.setIfInBounds 1 (Vu.ref a.objs.size));let i:=cv (Obj.mapFields (·.setIfInBounds 1 (Vu.ref a.objs.size))) j (dk v)
 let w:=
  (cn (a.push N) (Obj.mapFields (·.setIfInBounds 1 (Vu.ref a.objs.size))) m.symm).trans (cj a G)
 let ZP:∀b o,b≠e->a.get? b=R o->((a.push N).update e (Obj.mapFields (·.setIfInBounds 1 (Vu.ref a.objs.size)))).get? b=R o:=λb o ne q=>by rw[cn _ _ ne.symm];show br N q
 show k _ a.objs.size (by rw[S.1];show VP _) #[_,_,i,Obj.cls_mapFields _ _,?_,v,?_,?_,m,_,_,w,u,?_] #[λb o q ne _ y=>ZP b o ne ((S.2.1 b y).trans q),λb o q ne _=>?_,λb o q=>?_]
 .cases J with
  |mk c d H f=>ext H<;>rfl
 .rw[Y6 ()];show F
 .simp[p]
 .rfl
 .let(f,z):=S.2.2 b o q;show#[f,ZP b _ ne z]
 .by_cases ne:b=e
  .subst ne;show#[_,i]
  .let(f,z):=S.2.2 b o q;show#[_,ZP b _ ne z]
def Q9{base:Heap}{env:Env}{outer:bb Env}{L e:VF}{c B:Vu}{D hd:bg VF}{Q:Unit->VG->Prop}
  (v:A.frames=R (env::outer)) (u:s.heap.FunFrames base (env::outer)) (h:env.frame=R L) (F:GZ s.heap e c D B hd)
  (k:∀x T,s.heap.objs.size<=T->acn x e c D B T (rawInt L)->Lft (env::outer) e hd s.heap x->Q ⟨⟩ {s with heap:=x}):wpAny M A (noteFrame (.ref e) env) Q E s:=by
 let(O,fs,q,J,I,d,w,r):=F;subst J I;cases hd with
 |none=>let r:fs[1]?=R .none:=r;ext noteFrame;simp only[h];show Ld (Wm q d r ?_);rw[ax ()];show uA v u h q d (Wj.mp r).1 w k
 |some T=>
  let(r,G,P,C,g,dT,p):=r;ext noteFrame;simp only[h];show Ld (Wm q d r ?_);rw[av (show(Vu.ref T !=Vu.none)=Vx from by simp)];show Ld (Wm g dT p ?_);rw[ax (show¬((Vu.none==rawInt L)=Vx)from by simp[rawInt])];show Ld (W8 g dT (Wj.mp p).1 ?_);let f:∀b,b≠T->(s.heap.update T (Obj.mapFields (·.setIfInBounds 3 Vu.none))).get? b=s.heap.get? b:=λb ne=>cn _ _ ne.symm;let a:=cv (Obj.mapFields (·.setIfInBounds 3 Vu.none)) g (dk (da dT _));let m:∀b o,s.heap.get? b=R o->(∀S,o.data≠.fields S)->b≠T:=λb o z n y=>by rw[y,g]at z;ext z;show n C dT
  show uA v (u.of_keeps λb o z n=>#[o,(f b (m b o z n)).trans z,W]) h ((f e G.symm).trans q) d (Wj.mp r).1 w λx K t N i=>k x K (by rw[Heap.size_after_update]at t;show t) N #[λb o z l j H=>?_,λb o z l j=>?_,λb o z=>?_]
  .show i.keep b o ((f b λy=>j (by rw[y])).trans z) l (by simp) H
  .show i.slot b o ((f b λy=>j (by rw[y])).trans z) l (by simp)
  .by_cases y:b=T
   .subst y;show i.here b _ a
   .show i.here b o ((f b y).trans z)
def GD{base:Heap}{env:Env}{outer:bb Env}{L e T:VF}{c G v:Vu}{V:bg VF}{Q:Unit->VG->Prop}
  (P:A.frames=lD (env::outer)) (O:s.heap.FunFrames base (env::outer)) (B:env.frame=lD L) (F:acn s.heap e c V G T v)
  (k:∀x D,(D=T\/s.heap.objs.size<=D)->GZ x e c V G (lD D)->Lft (env::outer) e (lD T) s.heap x->Q ⟨⟩ {s with heap:=x}):wpAny M A (leaving env (.ref e)) Q E s:=by
 let(I,fs,q,N,K,d,C,r,m,S,H,h,dT,t):=F;subst N K;let f:∀b,b≠T->(s.heap.update T (Obj.mapFields (·.setIfInBounds 3 Vu.none))).get? b=s.heap.get? b:=λb ne=>cn _ _ ne.symm;let a:=cv (Obj.mapFields (·.setIfInBounds 3 Vu.none)) h (dk (da dT _));let l:=(Wj.mp t).1;unfold leaving noteFrame;simp only[B];show Ld (Ld (Wm q d r ?_));rw[av (show(Vu.ref T !=Vu.none)=Vx from by simp)];show Ld (Wm h dT t ?_);by_cases u:(v==rawInt L)=Vx
 .rw[av u]
  show VH ?_;ext setFlight;show Ld (Wm q d r ?_);rw[av (show(Vu.ref T !=Vu.none)=Vx from by simp)];show W8 h dT l ?_;show k _ T (.inl W) #[I,fs,(f e m.symm).trans q,W,W,d,C,r,m,_,_,a,da dT _,?_] #[λb o z i g _=>?_,λb o z i g=>#[o.slots,?_],λb o z=>?_]
  .rw[Xu l]
  .show(f b λy=>g (by rw[y])).trans z
  .show(f b λy=>g (by rw[y])).trans z
  .by_cases y:b=T
   .subst y;show#[_,a]
   .show#[o,(f b y).trans z]
 .rw[ax u]
  show Ld (W8 h dT l ?_);let p:∀b o,s.heap.get? b=lD o->(∀X,o.data≠.fields X)->b≠T:=λb o z n y=>by rw[y,h]at z;ext z;show n H dT
  show jm P (O.of_keeps λb o z n=>#[o,(f b (p b o z n)).trans z,W]) B ((f e m.symm).trans q) d (Wj.mp r).1 C λx D w R j=>k x D (.inr (by rw[Heap.size_after_update]at w;show w)) R #[λb o z i g J=>?_,λb o z i g=>?_,λb o z=>?_]
  .show j.keep b o ((f b λy=>g (by rw[y])).trans z) i (by simp) J
  .show j.slot b o ((f b λy=>g (by rw[y])).trans z) i (by simp)
  .by_cases y:b=T
   .subst y;show j.here b _ a
   .show j.here b o ((f b y).trans z)
def Jy{g:Env}{h:String}{e T:VF}{c m v:Vu}{D:I VF}{Q:Vu->VG->Prop}(F:acn s.heap e c D m T v)
  (k:∀x J,acn x e c D m T J->(∀b o,b≠T->s.heap.get? b=R o->x.get? b=R o)->(∃o,x.get? T=R o)->E (.ref e) {s with heap:=x}):wpAny M A (agO h (.ref e) g:Sem Vu) Q E s:=by
 let(t,fs,q,w,u,d,y,r,l,C,B,j,dT,p):=F;subst w u;let i:=(Wj.mp p).1;ext agO;show Ld (Wm q d r ?_);rw[ax (show¬((Vu.ref T==Vu.none)=P)from by simp)];ext setFlight;show Ld (Ld (Wm q d r ?_));rw[av (show(Vu.ref T !=Vu.none)=P from by simp)];show W8 j dT i (wpAny_throw ?_);let n:∀b,b≠T->(s.heap.update T (Obj.mapFields (·.setIfInBounds 3 (g.frame.elim Vu.none λf=>rawInt f)))).get? b=s.heap.get? b:=λb ne=>cn _ _ ne.symm;let a:=cv (Obj.mapFields (·.setIfInBounds 3 (g.frame.elim Vu.none λf=>rawInt f))) j (dk (da dT _));show k _ _ #[t,fs,(n e l.symm).trans q,W,W,d,y,r,l,_,_,a,da dT _,Xu i] (λb o ne z=>(n b ne).trans z) #[_,a]
end
end L4
namespace L2
open PySem PySem.Spec PyProof.Rows
def U6(Y:Cx)(E:XK):B->VG->Prop:=λx a=>∃pins b H1 e c f g hd,x=.ref e/\Inv Y pins b H1 a/\L4.GZ a.heap e c f g hd/\(Y.s₀.heap.get? e=U\/e∈Y.ex)/\(∀T,hd=R T->Y.s₀.heap.get? T=U\/T∈Y.ex)/\H1 e=U/\(∀T,hd=R T->H1 T=U)/\E c f H1
end L2
namespace L4
open PySem PyProof.Rows L2 L3
def Qc{P:V8}{w:Wv}{K:Vs}{k:Str->bg Vu}{base:Heap}{N:bb Str}{i:Str}{a:YH}{f:VF}{M:Vu}{A:Wl}{outer:bb Env}{g:VG}{Q:Hp}{E:XK}
  {m:bb (VF×Obj)} {R:L2.St} {H:Hp} {s:VG} {e T:VF} {c O v:Vu} {d:bg VF} (I:L2.Inv (gw (iW P w) P w K k base N i a f M A outer g Q E) m R H s)
  (F:acn s.heap e c d O T v) (J:g.heap.get? e=Vt) (G:g.heap.get? T=Vt) (ne:H e=Vt) (u:H T=Vt) (q:E c d H):
  (gw (iW P w) P w K k base N i a f M A outer g Q E).xe (.ref e) s:=by
 let hA:=I.ok.frames;let hF:=I.stack;show GD (L:=g.heap.objs.size) hA hF W F λh' t j F' L=>?_;let X:=L.W6 I.W6 ne (λT1 z=>by ext z;show u) I.abz;let sz:=I.sz;let Z:H t=Vt:=by
  rcases j with e|j
  .rw[e];show u
  .show I.W6.fresh j
 let gT:g.heap.get? t=Vt:=by
  rcases j with e|j
  .rw[e];show G
  .show cN (Wt sz j)
 let r:∀b o,g.heap.get? b=lD o->b<g.heap.objs.size:=λb o z=>bP z;let h:∀b o,g.heap.get? b=lD o->b≠e/\lD T≠lD b:=λb o z=>#[(λy=>by rw[y,J]at z;ext z),(λy=>by ext y;rw[G]at z;ext z)];show#[e,c,d,O,t,H,W,J,gT,F',ne,Z,I.os,I.bare,?_,X,q];let B:=I.base;show#[λb o z n C _=>?_,λb o z n Y _=>?_,λb o z n _=>?_,λb o z _=>?_,B.ab7,B.abO,B.ab6]
 .let l:=B.keep b o z n C (λy=>nomatch y)
  show L.keep b o l (h b o z).1 (h b o z).2 λy=>?_;rcases Wa.mp (I.abc b y)with y|y
  .let y:b=g.heap.objs.size:=y;show a5 (r b o z) (by rw[y];show WZ _)
  .show C y
 .let(sl,l):=B.slot b o z n Y (λy=>nomatch y);let(p,S):=L.slot b _ l (h b o z).1 (h b o z).2;show#[p,S]
 .show B.free b o z n (λy=>nomatch y)
 .let(U,l):=B.there b o z (λy=>nomatch y);show L.here b U l
def Pc(X:Cx)(E:XK):Prop:=∀(a:L2.St) (H:Hp) (s:VG) (e T:M) (c b v:B) (f:I M),L2.Inv X [] a H s->acn s.heap e c f b T v->X.s₀.heap.get? e=U->X.s₀.heap.get? T=U->H e=U->H T=U->E c f H->X.xe (.ref e) s
theorem Lz{P:V8}{w:Wv}{K:Vs}{d:Str->bg B}{base:Heap}{N:G Str}{b:Str}{a:YH}{f:M}{m:B}{A:Wl}{outer:G Env}{g:VG}{n:Hp}{E:XK}:
  Pc (gw (iW P w) P w K d base N b a f m A outer g n E) E:=λo H s e T c p v r I F l j i h q=>Qc I F l j i h q
def IG{X:Cx}{g:VG}{j:Hp}{a:YH}{C:M}{N:G Str}{d:G M}{E:XK}:
  gp (iW X.prog X.w) ((cU X g j a C N d).aaE (U6 (cU X g j a C N d) E)) E:=by
 rintro f l H s x t I ⟨e,c,J,m,T,r,rfl,le,A,F,ne,v,os,bare,un,W6,q⟩;let p:=I.adt (ch:=[]) os un W6 bare (λb z=>nomatch z);let old:∀b,s.heap.get? b=U->g.heap.get? b=U\/b∈d:=λb z=>by
  by_cases i:b∈d
  .show .inr i
  .show .inl ?_
   cases y:g.heap.get? b with
   |none=>rfl
   |some o=>let(u,h):=I.base.there b o y i;rw[z]at h;ext h
 show#[f,l,r,e,c,J,m,R T,W,p.Zn,F,old e le,(λn z=>by ext z;show old T A),ne,(λn z=>by ext z;show v),q]
def acn.at{h h':Heap}{e T:M}{c a v:B}{s:I M}(F:acn h e c s a T v)(k:∀b o,b=e\/b=T->h.get? b=R o->h'.get? b=R o):acn h' e c s a T v:=by let(j,fs,q,p,n,d,t,r,m,l,f,i,dT,g):=F;show#[j,fs,k _ _ (.inl W) q,p,n,d,t,r,m,l,f,k _ _ (.inr W) i,dT,g]
end L4
namespace L2
open PySem PySem.Spec PyProof.Rows
theorem Inv.aiB{X:Cx}{a:G (M×Obj)}{b:St}{H:Hp}{s:VG}(I:Inv X a b H s):Inv X [] b H s:=
 #[I.ok,I.os,I.bare,I.base,I.loc,I.cell,I.free,I.Zh,λp e=>I.pin p (by rw[Wi]at e;show XB _ e),I.W6,I.len]
def IM{X:Cx}{elt V iter:WQ}{ifs:G WQ}{scope:YH}{pos:Pos}(own:G Str)(u:G (Str×Nat)){wi:TI}{g:TG}{tc:TT}{te:TE}{EK:XK}(d5:X.stack=X.env::X.outer/\X.env.frame=lD X.env.locals)(hex:X.ex=[])(k:X.pn=[])(PX:L4.Pc X EK)(hc:X.calm=P)(hi:PI X V iter wi)
  (hg:∀s H C i,PG (cU X s H scope C (fQ own u) i) V g) (ht:∀s H C i,GL (cU X s H scope C (fQ own u) i) ifs tc) (he:∀s H C i,PE ((cU X s H scope C (fQ own u) i).aaE (U6 (cU X s H scope C (fQ own u) i) EK)) elt te) (hfv:adz X scope u)
  (afx:(scope.names.all λy=> !(y.2==Wn.free)||(X.env.scope.names.lookup y.1==lD Wn.cell)||(X.env.scope.names.lookup y.1==lD Wn.free))=P)
  (Zi:scope.kind=.function:=by rfl) (hnd:(scope.names.map (·.1)).Nodup:=by left)
  (ack:∀y∈scope.names,y.2=.local->scope.names.lookup y.1=lD .local:=by left) (hs:∀x,foldedSetIterable iter X.env x=pure x:=by intro _;rfl):
  PE X (.ListComp elt [#[V,iter,ifs,0]] scope pos) (uZ own u wi g tc te):=by
 intro pins s σ H Q I h;let S:=Kr afx;rw[amF];show aaA (use:=U) W hs (pc (nU I.ok S)) Zi ack (cR (hi pins s σ H _ I h) λxv s1 h1=>cR h1 λitv s2 h2=>?_);let(it,i,tn,J,H2,e,j,T,st2,f2,R):=h2;subst e;show oO j hc Zi hnd (nU I.ok S) hfv T st2 f2 (λC=>hg _ _ C _) (λC=>ht _ _ C _) (λC=>he _ _ C _) ?_ (Fin:=λD H'=>Q (.ref D) H') R ?_
 .rintro D C x s3 hC ⟨anM,σ3,l,e,c,dx,a0,hd,rfl,f,F,fe,fT,ne,nT,q⟩
  let hsz:s2.heap.objs.size<=s3.heap.objs.size:=f.sz;show wpAny (model X.prog X.w) X.A (noteFrame (.ref e) X.env) _ _ s3;show L4.Q9 (env:=X.env) (outer:=X.outer) (base:=X.base) (L:=X.env.locals) (by rw[<-d5.1];show f.ok.frames) (by rw[<-d5.1];show f.stack) d5.2 F λh' T' Y F' L=>?_;rw[<-d5.1]at L;let(m,hm,_):=f.loc;let hm:s3.heap.Ns C m:=hm;let hn3:l C=U:=f.free;let fo:∀b,b=e\/hd=lD b->s2.heap.get? b=U\/b∈i:=λb z=>by
   rcases z with z|z
   .rw[z];show fe
   .show fT b z
  let akX:∀b,b=e\/hd=lD b->∃o vs,s3.heap.get? b=lD o/\o.data=.fields vs:=λb z=>by
   let(ob,fs,q1,_,_,d,_,r):=F;rcases z with z|z
   .rw[z];show#[ob,fs,q1,d]
   .subst z;let(_,_,oT,ts,qT,dT,_):=r;show#[oT,ts,qT,dT]
  let nC:¬(C=e\/hd=lD C):=λz=>by let(o,vs,q1,d):=akX C z;let(o',es,ep,q2,d2,_):=hm;rw[q1]at q2;ext q2;rw[d]at d2;ext d2
  let nfr:C∉zb X.stack:=λz=>by let(_,o,t,_):=j.stack.mem z;show a5 (V7 (bP t) hC) (WZ _)
  let IX:Inv X [] σ l s3:=(j.adt (ch:=i) f.os f.base f.W6 f.bare λb a=>#[(f2 b a).2.2.2.1,(f2 b a).2.1,(f2 b a).2.2.2.2.1,(f2 b a).2.2.2.2.2]).aiB;let n0:∀b,b=e\/hd=lD b->X.s₀.heap.get? b=U:=λb z=>by
   rcases fo b z with y|y
   .cases z0:X.s₀.heap.get? b with
    |none=>rfl
    |some o=>let(o',z1):=j.base.there b o z0 (by rw[hex];show λy=>nomatch y);rw[y]at z1;ext z1
   .rcases(f2 b y).2.2.2.1 with w|w
    .rw[hex]at w;ext w
    .show cN w
  let Ia:Inv X [] σ l {s3 with heap:=h'}:=by
   show L4.u8 IX (λb=>b=e\/hd=lD b) hex (by rw[k];show λp N=>nomatch N) (λb o z n nf=>L.keep b o z (λy=>n (.inl y)) (λy=>n (.inr y)) nf) (λb o z n=>L.slot b o z (λy=>n (.inl y)) (λy=>n (.inr y))) L.here n0 (λz=>?_) (λx cc z y=>?_) (λb z=>?_)
   .rcases fo _ z with y|y
    .let(mm,hn,_):=j.loc;let(o,_,_,t,_):=hn;rw[y]at t;ext t
    .show(f2 _ y).2.1 W
   .rcases fo _ y with w|w
    .let(v,o,t,_):=j.cell x cc z;rw[w]at t;ext t
    .show(f2 _ w).2.2.2.2.1 x cc z W
   .rcases z with z|z
    .rw[z];show ne
    .show nT b z
  let A:l T'=U:=f.W6.fresh Y;show#[m,hm.at' λo z=>L.keep C o z (λy=>nC (.inl y)) (λy=>nC (.inr y)) nfr,λh4 sb ad0 _=>?_];let CT:C<s3.heap.objs.size:=hm.lt;let F4:L4.acn h4 e c dx a0 T' (rawInt X.env.locals):=F'.at λb o z y=>by
   show(sb.2 b λw=>?_).trans y;rcases z with z|z
   .show nC (.inl (w.symm.trans z))
   .let this:T'=C:=z.symm.trans w;rw[this]at Y;show a5 (V7 CT Y) (WZ _)
  show L4.Jy F4 λh5 v' F5 k5 t5=>?_;let(f0,f1,_,f3,f4,f5):=j.acj (H':=l) hC hn3;let Ib:Inv X [] σ l {s3 with heap:=h4}:=Ia.turned (t':=s3.toks) (λb o a z=>(sb.2 b a).trans z) f0 f1 f3 f4 (by rw[k];show λp N=>nomatch N);let(g0,g1,_,g3,g4,g5):=j.acj (H':=l) (Wt hsz Y) A;let Ic:Inv X [] σ l {s3 with heap:=h5}:=Ib.turned (t':=s3.toks) (λb o a z=>k5 b o a z) g0 g1 g3 g4 (by rw[k];show λp N=>nomatch N);show PX σ l _ e T' c a0 v' dx Ic F5 (n0 e (.inl W)) ?_ ne A q;rcases g3 with w|w
  .rw[hex]at w;ext w
  .show cN w
 .intro D C H' s' I' fin hm hC hn;let(m,hm):=hm;show#[m,hm,λh' hs'=>#[.ref D,H',?_,W,fin]];let(f0,f1,_,f3,f4,f5):=j.acj hC hn;show I'.turned (t':=s'.toks) (λb o a q=>(hs'.2 b a).trans q) f0 f1 f3 f4 f5
end L2
namespace L10
open PySem PyProof.Rows L2 L3
section
variable{B O z:cH}{K:Vs}{E:XK}{H y L u:Hp}{X C U A:bb VF}{Z Z' N T:bp}{Y:L2.St}{S:bz}{v:V}
theorem Qa{g:TG}{gt:Ce}(h:Lr K E0 g gt):Lr K E g (λx S Z=>iS (gt x S Z)):=λB Y H X Z S v x Q s a r w=>h B Y H X Z S v x Q s a r (WS.e0 w)
theorem Q5{t:TT}{b:vK}(h:wI K E0 t b):wI K E t (λS Z=>iS (b S Z)):=λB Y H X Z S Q s a w=>h B Y H X Z S Q s a (WS.e0 w)
def tY(n:Nat)(c:G Nat)(a:ML)(gt:Ce)(b:vK)(d:dM):dM:=λS Z=>(a S Z).bind λds N=>(cD (λx S Z=>iS (gt x S Z)) (λS Z=>iS (b S Z)) d ds (fM n c S) N []).bind λxs T=>.ok (.rf T.length) (T++[.lst xs])
def Gd{own:G Str}{h:G (Str×Nat)}{a:TI}{g:TG}{e:TT}{b:TE}{i:ML}{gt:Ce}{c:vK}{k:dM}{n:Nat}{d:G Nat}(x:own.length=n)(q:h.map (·.2)=d)
  (D:Ss K E a i) (p:Lr K E0 g gt) (o:wI K E0 e c) (r:cY K E b k):cY K E (uZ own h a g e b) (tY n d i gt c k):=by
 intro B Y H X Z S Q s f w;show D B Y H X Z S _ s f (WS.imp (WS.bind w) λds U N L t l j J m=>?_);show uz x q (Qa p) (Q5 o) r l (f.Yh t) m j
end
end L10
namespace L3
open PySem L2
section
variable{P:V8}{w:Wv}{K:Vs}{S:Str->bg Vu}{base h:Heap}{f C:VF}{n m q:Str}{t:X2}{T fs:bb Str}{Z k:Nat}{Q N:Sp}{Y:yW}
theorem MI.aio(i:MI K C f m q t)(c:CI K C n fs)(b:BA m q t T)(ok:∀fd,YN K m q t f fd->FnOk P w K S base Y Z f fd T Q):L10.b7 P w K S base Y Z n m T Q:=
 let#[fd,z]:=i.F;#[C,f,fd,c.a,c.cls,#[i.a,i.i,z.kp],ok fd z,z.binds b]
theorem MI.akQ(i:MI K C f "__init__" q t)(c:CI K C n fs)(X:K.In h)(G:h.Ns V3 S)(b:BA "__init__" q t T)(ok:∀fd,YN K "__init__" q t f fd->FnOk P w K S base Y Z f fd T Q):L10.uL P w K S base Y Z n T Q:=
 let#[fd,z]:=i.F;#[C,f,fd,c.a,XN X G c.a,#[c.mm,i.a,i.i,c.kc],ok fd z,z.binds b]
end
end L3
namespace L10
open PySem PySem.Spec PyProof.Rows L2 L3
section
variable{B O O':cH}{K:Vs}{E:XK}{H H' X H2:Hp}{α α' Y α2:bb VF}{Z Z' S Z2:bp}{σ:L2.St}{T:bz}{v:V}
def sT(c f:Str)(a:dM):fF:=λT Z=>(a T Z).bind λx S=>match x with
 |.fz d=>if L9.SM d=P then .er #[c,[(f,d)]] S else .bad
 |_=>.bad
def CZ(M:Wb K V3 c=R (R (.ref C)))(L:cY K E te fe):pA K E (L9.DQ C (L9.xD C f) E (iy te n9)) (sT c f fe):=by
 intro B σ H α Z T D s G w;show L B σ H α Z T _ s G (WS.imp (WS.bind w) λx Y S X Q I a v h=>?_)
 match x,h,a with
 |.fz d,h,a=>
  let h:=h;dsimp only at a;by_cases r:L9.SM d=Vx
  .rw[av r]at a
   let j:L9.Uo v/\∀(O':cH) (H':Hp),L3.DV O' K H' v d:=by
    cases d with
    |none=>ext h;show#[.inl W,λ_ _=>.XX]
    |int i=>ext h;show#[.inr #[i,W,a4 r],λ_ _=>.int i]
    |_=>ext r
   show#[by show 1<=VT;decide,λe hn=>#[e,v,W,j.1,aX,λp F g=>#[W,p,?_,?_]]]
   .rw[aF (dr g),aX]
   .let u:X p=U:=by rw[aF g]at F;show F
    let A:XM X (L9.Su (bL (bL (bL X e (.ext (L9.Nx C e))) e (.ext (L9.Tk C e p))) p (.xd [(f,v)])) e):=λb o z=>by
     let t:b≠e:=λy=>by rw[y,hn]at z;ext z
     let J:b≠p:=λy=>by rw[y,u]at z;ext z
     rw[L9.lJ t,aF J,aF t,aF t];show z
    show a (.ref C) (R p) Y _ (XQ.same A) (I.grow A) #[#[C,W,M],[(f,v)],λP q=>?_,λm N l=>#[(λz=>nomatch z),?_]]
    .ext q;rw[L9.lJ g,aX]
    .let n:(match m==f with|true=>R d|false=>Ye m [])=R N:=l
     cases hb:m==f with
     |true=>rw[hb]at n;ext n;show#[v,?_,j.2 _ _];show(match m==f with|true=>R v|false=>Ye m [])=R v;rw[hb]
     |false=>rw[hb]at n;ext n
  .rw[ax r]at a;show a.elim
 |.rf _,_,a=>show a.elim
 |.tp _,_,a=>show a.elim
end
end L10
namespace L10
open PySem L2 L3
section
variable{P:V8}{w:Wv}{K:Vs}{L:Str->bg Vu}{base:Heap}{x Z:Str}{Y:X2}{f:VF}{J:WY}{T:VF}{C:Array Vu}{N Q:bb Str}{k n m:Nat}{g:fF}{X:jh}
theorem Ez(F:YN K x Z Y f J)(S:Yk N Q (aD Y))(c:Q.length=n)(hm:N.length=m)(e:X=dc m g)
  (h:∀(a:B) (A:Wl) (outer:G Env) (s:VG) (H:Hp) (E:XK),N.Nodup->X3 k (A.deeper (Wg Z (aD Y) s.heap.objs.size f a))->(A.deeper (Wg Z (aD Y) s.heap.objs.size f a)).units+64<cLine->(A.deeper (Wg Z (aD Y) s.heap.objs.size f a)).units+1<cLine->(A.deeper (Wg Z (aD Y) s.heap.objs.size f a)).units+65<cLine->
   ∃t,PSs (gw (L4.iW P w) P w K L base N Z (aD Y) f a A outer s H E) (cJ Y) t/\pA K E t g):FnOk P w K L base (L4.iW P w) (k+1) f J Q (db K n X):=
 UQ F S c hm e λa A outer s H E b=>h a A outer s H E S.nd b b.units (D8 b) (Ft b)
theorem C8(F:aco K x Z Y f J T C)(S:Yk N Q (aD Y))(c:Q.length=n)(hm:N.length=m)(e:X=dc m g)
  (h:∀(a:B) (A:Wl) (outer:G Env) (s:VG) (H:Hp) (E:XK),N.Nodup->X3 k (A.deeper (Wg Z (aD Y) s.heap.objs.size f a))->(A.deeper (Wg Z (aD Y) s.heap.objs.size f a)).units+64<cLine->(A.deeper (Wg Z (aD Y) s.heap.objs.size f a)).units+1<cLine->(A.deeper (Wg Z (aD Y) s.heap.objs.size f a)).units+65<cLine->
   ∃t,PSs (gw (L4.iW P w) P w K L base N Z (aD Y) f a A outer s H E) (cJ Y) t/\pA K E t g):FnOk P w K L base (L4.iW P w) (k+1) f J Q (db K n X):=
 Tg F S c hm e λa A outer s H E b=>h a A outer s H E S.nd b b.units (D8 b) (Ft b)
end
end L10
namespace L3
open PySem L2
theorem Hm{X:Cx}{P:V8}{w:Wv}:gp (L4.iW P w) X E0:=λ_ _ _ _ _ _ _ #[_,_,_,_,_,_,_,_,_,_,_,_,_,_,_,_,h]=>h.elim
end L3
namespace L10
open PySem PyProof.Rows L2 L3
section
variable{B O A:cH}{K:Vs}{E:XK}{H z S y:Hp}{N J Y C:bb VF}{Z u X t:bp}{L:L2.St}{T:bz}{v:V}
def uC(F:jh)(n:Nat)(a:G D)(b:xi):dM:=λT Z=>(b T Z).bind λxs X=>if(xs++a.map SV.fz).length=n then iS (F (xs++a.map SV.fz) X)else .bad
def vx(hd:∀O H,L3.Xx O K H i j)(c:x8 K E l m):cY K E (lS (db K n F) i E0 l) (uC F n j m):=by
 intro B L H N Z T Q s e w;show c B L H N Z T _ s e (w.bind.imp λxs Y X S h f b o g=>?_);by_cases hn:(xs++j.map SV.fz).length=n
 .rw[av hn]at b;let a:=Cr g (mw (ow B Y X) Y (hd (ow B Y X) S));show#[a.length.trans hn,B,Y,X,_,f,a,WS.e0 b]
 .rw[ax hn]at b;show b.elim
end
end L10
namespace L10
open PySem L2 L3
def UL(T:A->bp->Prop)(X:Xc->Prop):RS A->Prop
 |.ok a Z=>T a Z
 |.er x _=>X x
 |.bad=>False
structure Out{A:Type}(r:RS A)(T:A->bp->Prop)(X:Xc->Prop):Prop where
 out:UL T X r
section
variable{A B:Type}{r r':RS A}{T Y:A->bp->Prop}{U:B->bp->Prop}{X:Xc->Prop}{Z:bp}
def Out.eq(e:r=r')(h:Out r' T X):Out r T X:=by rw[e];show h
def Out.imp(h:Out r T X)(k:∀a Z,T a Z->Y a Z):Out r Y X:=by
 show#[?_];let h:=h.out;cases r with
 |bad=>show h
 |er x o=>show h
 |ok a o=>show k a o h
def Out.bind(h:Out r (λa o=>Out (f a o) U X) X):Out (r.bind f) U X:=by
 show#[?_];let h:=h.out;cases r with
 |bad=>show h
 |er x o=>show h
 |ok a o=>show(show Out (f a o) U X from h).out
def Out.all(h:Out r T λ_=>False):∃a o,r=.ok a o/\T a o:=by
 let h:=h.out;cases r with
 |bad=>show h.elim
 |er x o=>show h.elim
 |ok a o=>show#[a,o,W,h]
end
section
variable{ρ ρ1 Q:bz}{Z S Y J:bp}{x y z:SV}{i n:Nat}{d:D}{L:bb D}{b:Bool}{f g:fF}{fe:dM}{N:bz->bp->Prop}{T:SV->bp->Prop}{X:Xc->Prop}
def Ve(N:bz->bp->Prop)(T:SV->bp->Prop):FlS->bp->Prop
 |.nx ρ,Z=>N ρ Z
 |.rt v,Z=>T v Z
 |_,_=>False
abbrev kj(r:RS FlS)(N:bz->bp->Prop)(T:SV->bp->Prop)(X:Xc->Prop):Prop:=Out r (Ve N T) X
def kZ(h:kj (f ρ Z) (λr o=>kj (g r o) N T X) T X):kj (aR f g ρ Z) N T X:=by
 show Out.bind (h.imp λa o k=>?_);cases a with
 |nx r=>show k
 |rt v=>show#[k]
 |ct r=>show k.elim
 |bk r=>show k.elim
theorem uP(a:f ρ Z=.ok (.nx ρ1) S)(h:kj (g ρ1 S) N T X):kj (aR f g ρ Z) N T X:=kZ (.eq a #[h])
theorem x0(a:f ρ Z=.ok (.nx ρ1) S)(h:N ρ1 S):kj (f ρ Z) N T X:=.eq a #[h]
theorem c8(e:fe ρ Z=.ok x S)(a:gt x ρ S=.ok ρ1 Y)(h:kj (g ρ1 Y) N T X):kj (aR (cI fe gt) g ρ Z) N T X:=uP (by ext cI;rw[e,eh,a,eh]) h
theorem yR(a:Out (fe ρ Z) (λx S=>kj (g (ρ.set i (R x)) S) N T X) X):kj (aR (cI fe (df i)) g ρ Z) N T X:=kZ (Out.bind (a.imp λ_ _ k=>#[k]))
theorem Kc(a:Out (fe ρ Z) (λ_ S=>kj (g ρ S) N T X) X):kj (aR (bT fe) g ρ Z) N T X:=kZ (Out.bind (a.imp λ_ _ k=>#[k]))
theorem G9(a:Out (fe ρ Z) (λ_ S=>N ρ S) X):kj (bT fe ρ Z) N T X:=Out.bind (a.imp λ_ _ k=>#[k])
def Db{a j:fF}(e:c ρ Z=.ok P S)(h:kj (aR a g ρ S) N T X):kj (aR (cS c a j) g ρ Z) N T X:=by show .eq ?_ h;unfold aR cS;rw[e,eh,av W]
def uE{j a:fF}(e:c ρ Z=.ok VO S)(h:kj (aR a g ρ S) N T X):kj (aR (cS c j a) g ρ Z) N T X:=by show .eq ?_ h;unfold aR cS;rw[e,eh,ax VU]
theorem qv(h:kj (g ρ Z) N T X):kj (aR dg g ρ Z) N T X:=kZ #[h]
def Re{a e:fF}(h:kj (aR a (aR e g) ρ Z) N T X):kj (aR (aR a e) g ρ Z) N T X:=by
 show .eq ?_ h;ext aR;cases a ρ Z with
 |bad=>rfl
 |er x o=>rfl
 |ok j o=>ext j<;>rfl
theorem rF(a:fe ρ Z=.ok x S)(h:T x S):kj (gQ fe ρ Z) N T X:=.eq (iO a) #[h]
theorem Ea(a:fe ρ Z=.ok x S)(h:T x S):kj (aR (gQ fe) g ρ Z) N T X:=kZ (rF a h)
theorem On(a:Out (fe ρ Z) T X):kj (gQ fe ρ Z) N T X:=Out.bind (a.imp λ_ _ k=>#[k])
def oH(a:xs.map R++VR (n - xs.length) U=ρ)(h:kj (g ρ Z) (λ_ c=>T (.fz .none) c) T X):Out (dc n g xs Z) T X:=by
 ext dc;rw[a];show Out.bind (h.imp λe o k=>?_);cases e with
 |nx r=>show#[k]
 |rt v=>show#[k]
 |ct r=>show k.elim
 |bk r=>show k.elim
theorem IL{b:fF}(I:Nat->bz->bp->Prop)(M:Nat)(j:∀n ρ Z,I n ρ Z->(∃S,c ρ Z=.ok VO S/\N ρ S)\/(n<M/\∃S,c ρ Z=.ok P S/\kj (b ρ S) (I (n+1)) T X)):∀(m n:Nat) (ρ:bz) (Z:bp),M - n<m->I n ρ Z->kj (vL c b m ρ Z) N T X
 |0,n,_,_,h,_=>by ext
 |m+1,n,ρ,Z,h,h0=>by
  rcases j n ρ Z h0 with⟨S,e,p⟩|⟨q,S,e,l⟩
  .show .eq (show vL c b (m+1) ρ Z=.ok (.nx ρ) S from ?_) #[p];show((c ρ Z).bind _)=_;rw[e,eh,ax VU]
  .show .eq (show vL c b (m+1) ρ Z=(b ρ S).bind λa Y=>match a with
    |.nx Q=>vL c b m Q Y
    |.ct Q=>vL c b m Q Y
    |.bk Q=>.ok (.nx Q) Y
    |.rt x=>.ok (.rt x) Y from ?_) (Out.bind (l.imp λa o k=>?_))
   .show((c ρ Z).bind _)=_
    rw[e,eh,av W]
    all_goals (cases b ρ S with
     |bad=>rfl
     |er x o=>rfl
     |ok a o=>ext a<;>rfl)
   .cases a with
    |nx r=>show IL I M j m (n+1) r o () k
    |rt v=>show#[k]
    |ct r=>show k.elim
    |bk r=>show k.elim
theorem pJ{b:fF}(I:Nat->bz->bp->Prop)(M:Nat)(h:M<1000000)(e:I 0 ρ Z)(a:∀n ρ Z,I n ρ Z->(∃S,c ρ Z=.ok VO S/\N ρ S)\/(n<M/\∃S,c ρ Z=.ok P S/\kj (b ρ S) (I (n+1)) T X)):kj (mY c b ρ Z) N T X:=IL I M a 1000000 0 ρ Z () e
theorem D1{b:fF}(I:Nat->bz->bp->Prop):∀(L:G D) (k:Nat) (ρ:bz) (Z:bp),I k ρ Z->(∀i d ρ Z,L[i]?=R d->I (k+i) ρ Z->∃ρ1 S,gt (.fz d) ρ Z=.ok ρ1 S/\kj (b ρ1 S) (I (k+i+1)) T X)->kj (mO gt b L ρ Z) (I (k+L.length)) T X
 |[],k,ρ,Z,h0,_=>#[h0]
 |d::r,k,ρ,Z,h0,C=>by
  let(ρ1,S,w,u):=C 0 d ρ Z W h0;let l:∀a p,I (k+1) a p->kj (mO gt b r a p) (I (k+(r.length+1))) T X:=λa p h=>by
   let e:k+(r.length+1)=k+1+r.length:=by ext
   rw[e];show D1 I r (k+1) a p h λi A j q hi t=>?_;let e:k+1+i=k+(i+1):=by ext
   rw[e]at t⊢;show C (i+1) A j q (by simpa using hi) t
  show .eq (show mO gt b (d::r) ρ Z=(b ρ1 S).bind λm Y=>match m with
   |.nx Q=>mO gt b r Q Y
   |.ct Q=>mO gt b r Q Y
   |.bk Q=>.ok (.nx Q) Y
   |.rt x=>.ok (.rt x) Y from ?_) (Out.bind (u.imp λm o k=>?_))
  .show((gt (.fz d) ρ Z).bind _)=_
   rw[w,eh]
   all_goals (cases b ρ1 S with
    |bad=>rfl
    |er x o=>rfl
    |ok m o=>ext m<;>rfl)
  .cases m with
   |nx r=>show l _ _ k
   |rt v=>show#[k]
   |ct r=>show k.elim
   |bk r=>show k.elim
def PU{b:fF}(I:Nat->bz->bp->Prop)(m:p ρ Z=.ok L S)(h:I 0 ρ S)(a:∀i d ρ Z,L[i]?=R d->I i ρ Z->∃ρ1 S,gt (.fz d) ρ Z=.ok ρ1 S/\kj (b ρ1 S) (I (i+1)) T X)(e:∀c l,I L.length c l->N c l):kj (BU p gt b ρ Z) N T X:=by
 let:=D1 I L 0 ρ S h (by simpa using a);rw[WO]at this;show .eq ?_ (this.imp λj o k=>?_)
 .ext BU;rw[m,eh]
 .cases j with
  |nx r=>show e _ _ k
  |rt v=>show k
  |ct r=>show k.elim
  |bk r=>show k.elim
theorem jd(I:Nat->bz->bp->G SV->Prop):∀(L:G D) (k:Nat) (ρ:bz) (Z:bp) (a:G SV),I k ρ Z a->(∀i d ρ Z a,L[i]?=R d->I (k+i) ρ Z a->a.length<1000000/\∃ρ1,gt (.fz d) ρ Z=.ok ρ1 Z/\ft ρ1 Z=.ok P Z/\Out (fe ρ1 Z) (λx Y=>I (k+i+1) ρ1 Y (a++[x])) X)->Out (cD gt ft fe L ρ Z a) (λxs s=>∃c,I (k+L.length) c s xs) X
 |[],k,ρ,Z,a,h0,_=>#[ρ,h0]
 |d::r,k,ρ,Z,a,h0,A=>by
  let(p,ρ1,u,t,q):=A 0 d ρ Z a W h0;show .eq (show cD gt ft fe (d::r) ρ Z a=(fe ρ1 Z).bind λx J=>cD gt ft fe r ρ1 J (a++[x])from ?_) (Out.bind (q.imp λx o m=>?_))
  .show((gt (.fz d) ρ Z).bind _)=_
   rw[u,eh,t,eh,av W];cases fe ρ1 Z with
   |bad=>rfl
   |er x o=>rfl
   |ok x o=>show(if a.length<1000000 then _ else _)=_;rw[av p];rfl
  .let e:k+(d::r).length=k+1+r.length:=by rw[V0];ext
   rw[e];show jd I r (k+1) ρ1 o _ m λi v h j w C l=>?_;let e:k+1+i=k+(i+1):=by ext
   rw[e]at l⊢;show A (i+1) v h j w (by simpa using C) l
def C0(c:j ρ Z=.ok L S)(a:Out (cD (λx ρ Z=>iS (gt x ρ Z)) (λρ Z=>iS (e ρ Z)) fe L (fM n h ρ) S []) (λxs Y=>T (.rf Y.length) (Y++[.lst xs])) X):Out (tY n h j gt e fe ρ Z) T X:=by ext tY;rw[c,eh];show Out.bind (a.imp λ_ _ k=>#[k])
def yU(a:fo ρ Z=.ok (.rf i) S)(h:S[i]?=R (.obj C fs))(hm:fs.lookup m=U)(j:fa ρ S=.ok xs Y)(c:(SV.rf i::xs).length=n):qJ C m F n fo fa ρ Z=F (.rf i::xs) Y:=by
 let e:oz S C m (.rf i)=P:=by ext oz;dsimp only;rw[h];dsimp only;rw[hm];simp
 ext qJ;rw[a,eh,av e,j,eh,av c]
def CN(c:fa ρ Z=.ok xs S)(a:(SV.rf S.length::xs).length=n):Bk C F n fa ρ Z=(F (.rf S.length::xs) (S++[.obj C []])).bind λr Y=>(if Gg r=P then .ok (.rf S.length) Y else .bad):=by ext Bk;rw[c,eh];ext wM;rw[av a]
def AW(c:fa ρ Z=.ok xs S)(a:(xs++es.map SV.fz).length=n):zl F n es fa ρ Z=F (xs++es.map SV.fz) S:=by ext zl;rw[c,eh,av a]
def wf(e:fa ρ Z=.ok xs S)(c:(xs++es.map SV.fz).length=n)(a:F (xs++es.map SV.fz) S=.ok x Y):uC F n es fa ρ Z=.ok x Y:=by ext uC;rw[e,eh,av c,a];rfl
def Gi{c f:Str}(h:fe ρ Z=.ok (.fz d) S)(hd:L9.SM d=P):sT c f fe ρ Z=.er #[c,[(f,d)]] S:=by ext sT;rw[h,eh];dsimp only;rw[av hd]
end
end L10
namespace L3
open PySem PyProof.Rows L2
section
variable{P:V8}{w:Wv}{K:Vs}{Q:Str->bg Vu}{base h:Heap}{f T:VF}{n:Str}{t:X2}{S:bb Str}{Y:Nat}{N:Sp}{U:yW}{Z:Array Vu}
theorem NI.amr(i:NI K f n t)(X:K.In h)(G:h.Ns V3 Q)(b:BA n n t S)(ok:∀fd,YN K n n t f fd->FnOk P w K Q base U Y f fd S N):qA P w K Q base U Y n S [] N:=
 let#[fd,z]:=i.F;#[f,fd,[],ok fd z,z.binds b,.nil,z.kp,XN X G i.a]
structure DI(K:Vs)(f T:M)(n:Str)(t:X2)(Z:Array B):Prop where
 a:Wb K V3 n=R (R (.ref f))
 F:∃fd,aco K n n t f fd T Z
theorem Ot{x a:Str}{b:X2}{r:B}{q:I M}{kV e j:B}{l:I M}{i ct:B}{g:Array (I B)}{p:B}{o:I M}{k:Nat}{m:Array (I B)}
  (u:K.lookup f=R #[r,q,.func (Xl x a (gK b) (cJ b) (aD b) (.ref T) kV e j l i ct),g]) (y:Zv K i a=Vx) (v:Xv K (.ref f)=Vx) (lt:K.lookup T=R #[p,o,.seq Z k,m]):aco K x a b f (Xl x a (gK b) (cJ b) (aD b) (.ref T) kV e j l i ct) T Z:=
 #[#[_,_,_,_,_,_,_,_,_,W,u,y],v,_,_,lt,W]
def BD(n:Str)(t:X2)(T:M)(Z:Array B)(S:G Str)(ds:G B):Prop:=∀(kV b e:B) (g:I M) (i ct:B) (a:G B),(a++ds).length=S.length->∃k:I (Array B)->Sem (G (Str×B)),bindArgs (Xl n n (gK t) (cJ t) (aD t) (.ref T) kV b e g i ct) #[a,[]]=seqItems? (.ref T)>>=k/\k (R Z)=pure (S.zip (a++ds))
theorem DI.cal{ds:bb B}{a:bb V}(i:DI K f T n t Z)(X:K.In h)(G:h.Ns V3 Q)(e:BD n t T Z S ds)(b:Vals a ds)(ok:∀fd,aco K n n t f fd T Z->FnOk P w K Q base U Y f fd S N):qA P w K Q base U Y n S a N:=
 let#[fd,z]:=i.F;#[f,fd,ds,ok fd z,z.binds e,b,z.kp,XN X G i.a]
end
structure Tp(P:V8)(w:Wv)(K:Vs)(mg:Str->I B)(base h:Heap):Prop where
 X:K.In h
 G:h.Ns V3 mg
section
variable{P:V8}{w:Wv}{K:Vs}{X:Str->bg Vu}{base h:Heap}{f C T:VF}{n m q:Str}{t:X2}{S fs:bb Str}{Z:Nat}{Q:Sp}{Y:yW}{U:Array Vu}
theorem NI.c(i:NI K f n t)(W:Tp P w K X base h)(ok:∀fd,YN K n n t f fd->FnOk P w K X base dX Z f fd S Q)(a:BA n n t S:=by ext:16):zW P w K X base Z n S Q:=i.cal W.X W.G a ok
theorem NI.d(i:NI K f n t)(W:Tp P w K X base h)(ok:∀fd,YN K n n t f fd->FnOk P w K X base Y Z f fd S Q)(a:BA n n t S:=by ext:16):qA P w K X base Y Z n S [] Q:=i.amr W.X W.G a ok
theorem MI.mt(i:MI K C f m q t)(c:CI K C n fs)(W:Tp P w K X base h)(ok:∀fd,YN K m q t f fd->FnOk P w K X base Y Z f fd S Q)(a:BA m q t S:=by ext:16):L10.b7 P w K X base Y Z n m S Q:=i.aio c a ok
theorem MI.k(i:MI K C f "__init__" q t)(c:CI K C n fs)(W:Tp P w K X base h)(ok:∀fd,YN K "__init__" q t f fd->FnOk P w K X base Y Z f fd S Q)(a:BA "__init__" q t S:=by ext:16):L10.uL P w K X base Y Z n S Q:=i.akQ c W.X W.G a ok
theorem DI.c{ds:G B}{dvs:G V}(i:DI K f T n t U)(W:Tp P w K X base h)(a:Vals dvs ds)(ok:∀fd,aco K n n t f fd T U->FnOk P w K X base Y Z f fd S Q)(b:BD n t T U S ds:=by ext:32):qA P w K X base Y Z n S dvs Q:=i.cal W.X W.G b a ok
end
end L3
namespace LD
open PySem PySem.Spec PyProof.Rows L2 L3
section
variable{X:V8}{w:Wv}{K:Type}[DecidableEq K]{Y:akC X w K}{A:Wl}{E:Vu->VG->Prop}{s:VG}
def GN(t:Y.room A)(g:Y.is s.heap k a)(hm:s.heap.DictOfH Y d xs)(D:xs.length<=VT)
  (F:∀p,atKey xs k=R p->Q p.2 {s with toks:=s.toks+Y.draws k})
  (C:atKey xs k=U->∀c,c.DictOfH Y d (storedH xs k a v)->Heap.SameBut d s.heap c->Q v {s with heap:=c,toks:=s.toks+Y.draws k}):wpAny (model X w) A (dictSetDefault d (.ref a) v) Q E s:=by
 let(o,H,G,h,B,f,n,m,J):=hm;ext dictSetDefault
 try specialize W4 ?_
 show Ld (Y.pyHash t g (Ld (wpAny_dictFind_heap t g h f n m J (λi=>?_) λj p u=>?_)))
 .let l:=atKey_none_of_get i
  let q:=C l;rw[storedH_new l]at q;let r:=not_mem_keys_of_get i;show Ld (Zw (Ld (wpAny_updateDictKeys (hz:=by let e:=ajn n;ext) h f (VH (q _ #[_,_,G+1,cv _ h (Obj.isFreed_of_dict (Obj.data_mapDictKeys f _)),B.mapDictKeys _,Obj.data_mapDictKeys f _,by simp[n,entryOfKey],λx b=>?_,?_] (Heap.SameBut.update ..))))))
  .rcases Wr.mp b with b|b
   .show Y.keeps (m x b) h f (Heap.SameBut.update ..)
   .rw[VW.mp b];show Y.keeps g h f (Heap.SameBut.update ..)
  .rw[V4,Yp];show#[J,by simp,λx b y z e=>r (by rw[VW.mp z]at e;rw[show k=x from e.symm];show b)]
 .let q:=F p (atKey_of_get J u);show Ld (ahx h f ?_);rw[entry_at n j,u];show Ld (Zw (VH q))
theorem Ah(d a:M)(hd:(d==Xj)=VO)(v:B):MeetsIn X w (Builtin.«dict.setdefault» #[[.ref d,.ref a,v],[]]) (λA R s=>Y.room A.in1/\∃k xs,Y.is s.heap k a/\s.heap.DictOfH Y d xs/\xs.length<=VT/\
  (∀p,atKey xs k=lD p->R (.ok (.ret p.2)) {s with toks:=s.toks+Y.draws k})/\(atKey xs k=U->∀c,c.DictOfH Y d (storedH xs k a v)->Heap.SameBut d s.heap c->R (.ok (.ret v)) {s with heap:=c,toks:=s.toks+Y.draws k})):=
 .of_wp λA R s #[h,k,xs,g,hm,b,l,j]=>by show Ld ?_;show Ld (afC hm.typeIs ?_);show VH ?_;show wpAny _ _ (if(d==Xj)=P then _ else(dictSetDefault d (.ref a) v>>=_)) _ _ s;rw[ax (by rw[hd];show VU)];show Ld (GN h g hm b (λp i=>VH #[p.2,W,l p i]) λm c f e=>VH #[v,W,j m c f e])
end
section
variable{X:Cx}{Z:bb (VF×Obj)}{Y:L2.St}{H:Hp}{s:VG}{A:Wl}{E:Vu->VG->Prop}{a b:VF}{T:bb (KD×VF×V)}{k:KD}{v:V}{r:Vu}
def MS(M:A.units+64<cLine)(I:L2.Inv X Z Y H s)(e:H a=R (DkO a T))(y:vC X.K H T)(C:L2.DV X.K H (.ref b) k.1)(x:RelV v r)(N:T.length<VT)
  (J:∀u d c,mL T k=R u->L2.Inv X Z Y H c->RelV u d->Q d c) (G:mL T k=U->∀c,L2.Inv X Z Y (bL H a (DkO a (oh T k b v))) c->Q r c):
  wpAny (model X.prog X.w) A (call (.builtin "dict.setdefault") [.ref a,.ref b,r]) Q E s:=by
 let(z,m,l,h,dd):=zp I e y;let n:l.length<=VT:=by rw[<-Paired.length h];show z
 let j:(oh T k b v).length<=VT:=by let:=si T k b v;ext
 let f:=yp (k:=k) h;show acy ab2 dd.typeIs PySem.F.entry_dict_setdefault (PySem.F.args_dict_setdefault_3 _ _ _) (Ah a b m r) #[tm (),k,l,vF I C,dd,n,λp t=>?_,λhn L i o=>?_]
 .rw[t]at f
  cases g:mL T k with
  |none=>rw[g]at f;show f.elim
  |some u=>rw[g]at f;show J u p.2 _ g (I.tok _) f
 .rw[hn]at f
  cases g:mL T k with
  |some u=>rw[g]at f;show f.elim
  |none=>
   show G g _ ?_;let B:∃q,L.get? a=R q:=let#[q,_,_,S,_]:=i;#[q,S]
   show qE I (by rw[e];show True.intro) o B (CH j m (HP x h) i)
def Pt(K:Vs)(h ty g:TE):TE:=λY H Q=>h Y H λx f=>∃a j,x=.ref a/\f a=R (DkO a j)/\ty Y f λy i=>g Y i λz e=>∃b T k,y=.ref b/\e a=R (DkO a T)/\vC K e T/\L2.DV K e (.ref b) k.1/\T.length<VT/\
 (∀u,mL T k=R u->Q u e)/\(mL T k=U->Q z (bL e a (DkO a (oh T k b z))))
end
section
variable{X:Cx}{o e f:WQ}{td ty tx:TE}{Z YD:Pos}
def aga(R:X.A.units+64<cLine)(S:PE X o td)(Y:PE X e ty)(U:PE X f tx)(m:M2 X o "setdefault" Z e f YD):PE X (.Call (.Attribute o "setdefault" Z) [e,f] [] YD) (Pt X.K td ty tx):=by
 intro i s j H Q I h;show ahu m.base m.few m.line YK ab2 PySem.F.type_dict_setdefault (cR (S i s j H _ I h) λu C #[x,H1,q,G,a,r,ex,e0,N]=>?_);subst ex;obtain rfl:=G;let(v,t,_):=D9 q e0;show#[v,t,?_];rw[m.trees];show Calls.callWith_builtin W (Calls.evalArgs_plain (Calls.spliced_cons (cR (Y i C j H1 _ q N) λiv B #[y,H2,I2,E,A]=>
  Calls.spliced_cons (cR (U i B j H2 _ I2 A) λfv s3 #[z,H3,I3,p,b,xs,k,ey,e3,O,F,T,L,J]=>Calls.spliced_nil ?_))))
 subst ey;obtain rfl:=E;show MS R I3 e3 O F p T (λu w' w g n l=>#[u,H3,n,l,L u g]) λg w n=>#[z,_,n,p,J g]
end
end LD
namespace L10
open PySem PyProof.Rows L2 L3 LD
section
variable{B O O':cH}{K:Vs}{E:XK}{H H' H1 H2:Hp}{α α' X Y:bb VF}{Z Z' Z1 T Z3:bp}{U:L2.St}{ρ:bz}{v:V}
def An(fd b a:dM):dM:=λρ Z=>(fd ρ Z).bind λo Z1=>(RS.WN Z1 (qU Z1 o)).bind λ_ Z1=>(b ρ Z1).bind λx T=>(a ρ T).bind λz Z3=>(RS.WN Z3 (l9 x)).bind λk Z3=>(RS.WN Z3 (Sw z)).bind λe Z3=>(RS.WN Z3 (qU Z3 o)).bind λp Z3=>
 if p.2.length<1000000 then(match iR p.2 k with
  |some d=>.ok (.fz d) Z3
  |none=>.ok (.fz e) (Z3.set p.1 (.dd (qD p.2 k e))))else .bad
def KR(hd:cY K E td fd)(D:cY K E tk fk)(c:cY K E tx fx):cY K E (Pt K td tk tx) (An fd fk fx):=by
 intro B U H α Z ρ Q s t w;show hd B U H α Z ρ _ s t (w.bind.imp λo X Z1 H1 e1 L r u N=>?_);let((i0,ai4),q0,r):=WS.WN r;let(_,a,p,_,rfl,g0,_):=wq L N q0;show#[a,p,W,g0,?_];show D B U H1 X Z1 ρ _ L (t.Yh e1) (r.bind.imp λx Y T H2 e2 s2 w2 v hv=>?_);show c B U H2 Y T ρ _ s2 (t.Yh (e1.trans e2)) (w2.bind.imp λz f Z3 j e3 A g l hz=>?_);let(d,q1,g):=WS.WN g;let(e,C,g):=WS.WN g;let((i,Wf),q2,g):=WS.WN g;let(F,a',xs,ha,ea,g1,n):=wq A (N.Yh (e2.trans e3)) q2;ext ea;let(k,b,rfl,rfl,P):=pH q1 (hv.Yh e3);let h:L3.DV (ow B f Z3) K j l e:=by
  cases z with
  |fz d=>ext C;show hz
  |rf _=>ext C
  |tp _=>ext C
 by_cases I:Wf.length<1000000
 .rw[av I]at g
  let G:xs.length<VT:=ub (by rw[Paired.length n];show I);let(M,p2):=qK n;show#[b,xs,k,W,g1,wU n,P.plain,G,λu m=>?_,λR=>?_]
  .cases q:iR Wf k.1 with
   |none=>rw[p2 q]at m;ext m
   |some y=>rw[q]at g;let(u',J,h'):=M y q;rw[J]at m;ext m;show WS.now A g _ h'
  .cases q:iR Wf k.1 with
   |some y=>let(u',J,_):=M y q;rw[J]at R;ext R
   |none=>rw[q]at g;let ev:Ev (ow B f Z3) j (ow B f Z3) (bL j a (DkO a (oh xs k b l))):=rK ha F (by nofun);let S:XQ f Z3 j f (Z3.set i (.dd (qD Wf k.1 e))) (bL j a (DkO a (oh xs k b l))):=XQ.put ha F (by nofun) (by nofun);show g f _ S (A.put ha F (by nofun) (by nofun) #[_,aX,Ap (P.ev ev) (h.ev ev) (Lj ev n)]) l (YX.Yh S h)
 .rw[ax I]at g;show g.elim
end
end L10
namespace LD
open PySem PySem.Spec PyProof.Rows L2 L3
section
variable{Y:V8}{w:Wv}{K:Type}[DecidableEq K]{X:akC Y w K}{A:Wl}{E:Vu->VG->Prop}{s:VG}
theorem B9(d:M)(hd:(d==Xj)=VO):MeetsIn Y w (Builtin.«dict.__len__» #[[.ref d],[]]) (λ_ R s=>∃xs,s.heap.DictOfH X d xs/\R (.ok (.ret (.int xs.length s.toks))) {s with toks:=s.toks+1}):=
 .of_wp λA R s #[xs,hm,h]=>by let(o,i,j,b,g,a,f,e,l):=hm;show wpAny _ _ (dictSize d>>=_) _ _ s;show Ld (Ld (ahx b a (VH ?_)));show Ld (wpAny_pendingCount_other hd ?_);show wpAny_ret_mkInt ?_;rw[Nat.add_zero,ajn f];show h
def HZ(hd:(d==Xj)=VO)(hm:s.heap.DictOfH X d xs)(a:(xs.length:Int)<2^63)
  (h:Q (.int xs.length (s.toks+1)) {s with toks:=s.toks+1+1}):wpAny (model Y w) A (call (.builtin "len") [.ref d]) Q E s:=by
 show Calls.call_function_entry kind_len plain_len entry_len (args_len1 _) ?_;show Ld (VH ?_);show Ld (W7 hm.typeIs ac9
  (acy ac9 hm.typeIs PySem.F.entry_dict_len (PySem.F.args_dict_len_1 _) (B9 d hd) #[xs,hm,?_]))
 show Ld (W4 (VH ?_));show Ld (Yl ?_);rw[ax ()];rw[ax ()];show Ld (afU (VH #[_,W,h]))
end
def II(K:Vs):G V->Hp->(V->Hp->Prop)->Prop:=λxs H Q=>∃a b,xs=[V.ref a]/\H a=R (DkO a b)/\vC K H b/\Q (.int b.length) H
def adO:YM X (.builtin "len") (II X.K):=by intro e s j H xs m Q I r h;let(a,o,rfl,n,g,q):=h;let(u,rfl,f):=lO r;ext f;let(z,i,l,b,dd):=zp I n g;show HZ i dd (by rw[<-Paired.length b];rw[X5]at z;ext) ?_;rw[<-Paired.length b];show#[.int o.length,H,I.tok _,#[_,W],q]
end LD
namespace L10
open PySem PyProof.Rows L2 L3 LD
section
variable{B O Y:cH}{K:Vs}{E:XK}
def rO(fd:dM):dM:=λb Z=>(fd b Z).bind λo a=>(RS.WN a (qU a o)).bind λp a=>.ok (.fz (.int p.2.length)) a
def Fy(hd:cY K E v fd):cY K E (Oh (II K) (iy v n9)) (rO fd):=by intro B h H α Z t Q s j w;show hd B h H α Z t _ s j (w.bind.imp λo b q r p f e u m=>?_);let((i,z),l,e):=WS.WN e;let(_,a,xs,y,rfl,n,g):=wq f m l;show#[a,xs,W,n,wU g,?_];rw[Paired.length g];show e b _ .refl f _ (.int _)
def mZ(c:dM):ML:=λb Z=>(c b Z).bind λx a=>(RS.WN a (Sw x)).bind λd a=>RS.WN a (ju [d])
def Ig(h:cY K E y z):Ss K E (Lk (iy y n9)) (mZ z):=by
 intro B i H α Z u r s l w;show h B i H α Z u _ s l (WS.imp (WS.bind w) λx b p g q m a v n=>?_);let(d,e,a):=WS.WN a;cases t:ju [d]with
 |none=>rw[t]at a;show a.elim
 |some ds=>
  rw[t]at a;let o:L3.DV (ow B b p) K g v d:=by
   cases x with
   |fz d=>ext e;show n
   |rf _=>ext e
   |tp _=>ext e
  cases d with
  |int j=>
   unfold ju at t;dsimp only at t;split at t
   .rename_i f;ext t;ext o;show#[j,W,f.1,f.2,a b g .refl m _ AE]
   .ext t
  |_=>ext t
end
end L10
namespace L4
open PySem PySem.Spec PyProof.Rows L2 L3
def ON(d:XK)(f e:TS):TS:=λD b H=>f D b H/\∀c g H1,d c g H1->∀(a:L2.St),a.length=b.length->e {nx:=D.nx,rt:=λ_ _=>False} a H1
def Na{X:Cx}{G P:bb X2}{b0:X2}{tb ts:TS}{E2:XK}{U:VF}{x:Str}{np akK pos:Pos}{mU:bb Vu}
  (hex:X.ex=[]) (d5:X.stack=X.env::X.outer) (V:X.env.frame=lD X.env.locals) (hg:Gl X x) (hm:X.mg x=lD (.ref U)) (hU:Aj X.K U mU) (hbU:mU.contains (.type "BaseException")=Vx)
  (hb:∀l,PSs ((Cx.pinned X l).aaE (IE (Cx.pinned X l) E2)) G tb) (hs:∀l e,PSs (Cx.marked (Cx.pinned X l) e) (b0::P) ts)
  (hE:∀c d H,E2 c d H->∃C m,c=.ref C/\Aj X.K C m/\(Vu.ref C::m).contains (.ref U)=Vx) (hdb:(x==("__debug__":Str))=VO:=by decide):
  PS X (.Try G [.ExceptHandler (lD (.Name x np)) Vt (b0::P) akK] [] [] pos) (ON E2 tb ts):=by
 intro g s σ H D I #[h,hc];let IY:=NX I;let M:(Cx.pinned X (X.pn++g)).ex=[]:=hex;show wpAny_Try_except (wpAny_mono (hb (X.pn++g) [] s σ H D (IY.aaE _) h) (λf O n=>?_) (λv O hx=>?_))
 .let n:=SP.Zn n
  cases f with
  |next=>let(a,j,i,E):=n;show ZM #[a,j,kr I.ok i,E]
  |brk=>let(a,j,i,E):=n;show#[a,j,kr I.ok i,E]
  |cont=>let(a,j,i,E):=n;show#[a,j,kr I.ok i,E]
  |ret u=>let(v,a,j,i,r,E):=n;show#[v,a,j,kr I.ok i,r,E]
 .let(a,j,e,c,d,a0,T,rfl,i,F,S,R,ne,nT,q):=hx
  let(C,mC,hcC,(n1,E,N1,b1,d1,t1,u1,a1,l1,x1,i0,i1,i2,i3,i5,id1,kC),hup):=hE c d j q;let(n2,q2,N2,b2,d2,t2,u2,a2,l2,x2,j0,j1,j2,j3,j5,id2,kU):=hU;let fr:X.A.frames=lD (X.env::X.outer):=by rw[<-d5];show I.ok.frames
  let ff:O.heap.FunFrames X.base (X.env::X.outer):=by rw[<-d5];show i.stack
  show Nj fr ff V F λh2 Y z2 F2 N=>?_
  let A:L2.Inv (Cx.pinned X (X.pn++g)) [] a j {O with heap:=h2}:=u8 i (λb=>b=e\/b=T) M (λp Q y=>y.elim (S.nP p Q) (R.nP p Q))
   (λb o z t nf=>N.keep b o z (λy=>t (.inl y)) (λy=>t (.inr (VZ y).symm)) (by rw[<-d5];show nf))
   (λb o z t=>N.slot b o z (λy=>t (.inl y)) (λy=>t (.inr (VZ y).symm))) N.here
   (λb y=>y.elim (λy=>by rw[y];show S.n0) (λy=>by rw[y];show R.n0)) (λy=>y.elim (λy=>S.nL y.symm) (λy=>R.nL y.symm))
   (λy k z w=>w.elim (S.nC y k z) (R.nC y k z)) (λb y=>y.elim (λy=>by rw[y];show ne) (λy=>by rw[y];show nT))
  let B:Apart (Cx.pinned X (X.pn++g)) Y:=ue i M (cN z2);let nT2:j Y=Vt:=i.W6.fresh z2;show wpAny_handleBy_cons (codeAny_handlers_test (ng (X:=Cx.marked (Cx.pinned X (X.pn++g)) e) (t8 A e) hg hm ?_ hdb)) (by nofun);let F2':=F2;let(ob,fs,qe,cE,dE,dF,_):=F2';show IR (A.kIn _ _ kC) (A.kIn _ _ kU) qe (cE.trans hcC) hbU hup ?_;show codeAny_handlers_suite (QT F2 λh3 F3 ZD hT3=>?_)
  let I3:L2.Inv (Cx.pinned X (X.pn++g)) [] a j {O with heap:=h3}:=u8 (s:={O with heap:=h2}) A (λb=>b=Y) M (λp Q y=>B.nP p Q y)
   (λb o z t _=>(ZD b t).trans z) (λb o z t=>#[o.slots,(ZD b t).trans z])
   (λb o z=>(Classical.em (b=Y)).elim (λy=>by rw[y];show hT3) (λy=>#[o,(ZD b y).trans z])) (λb y=>by rw[y];show B.n0) (λy=>B.nL y.symm) (λy k z w=>B.nC y k z w) (λb y=>by rw[y];show nT2)
  let w:=hc c d j q a (i.len.trans I.len.symm);show wpAny_mono (hs (X.pn++g) e [] _ _ _ _ (t8 I3 e) w) (λf s5 n=>?_) (λy s5 z=>z.elim);cases f with
  |next=>let(J,H2,Z,L):=n;show#[_,_,kr I.ok (Dh IY.ok Z),L]
  |brk=>let(J,H2,Z,L):=n;show L.elim
  |cont=>let(J,H2,Z,L):=n;show L.elim
  |ret u=>let(v,J,H2,Z,r,L):=n;show L.elim
end L4
namespace L10
open PySem PySem.Spec PyProof.Rows L2 L3
def Tn:D->D->I RV:=fI λi j=>i+j
def OP:R2:=U3 λi j=>i+j
theorem MO{X:Cx}:Ux X .Add OP:=RE
def F1{K:Vs}:pB K OP Tn:=by intro O H x y h f g Q n b a e q;let(i,j,rfl,rfl,rfl):=AQ e;ext b;ext a;show#[_,_,W,W,q.at (.int _)]
end L10
namespace M02
inductive Con(E:G (Nat×Nat))(r0:Nat):Bool->Nat->Prop
 |base:Con E r0 P r0
 |col {r c:Nat}:Con E r0 P r->(r,c)∈E->Con E r0 VO c
 |row {r c:Nat}:Con E r0 VO c->(r,c)∈E->Con E r0 P r
def has(n c:Nat):Prop:=n.testBit c=P
structure Nums(E:G (Nat×Nat))(R C:Nat)(ns:G Nat):Prop where
 len:ns.length=R
 lt:∀n∈ns,n<2^C
 own:∀r c,(r,c)∈E->has (ns.getD r 0) c
 snd:∀r,r<R->∀c,has (ns.getD r 0) c->Con E r VO c
abbrev NF:=G Nat×G Nat
structure arn(E:G (Nat×Nat))(r0:Nat)(s:NF):Prop where
 a:r0∈s.1
 n:∀x∈s.1,Con E r0 P x
 f:∀x∈s.2,Con E r0 VO x
 d:s.2.Nodup
 d1:s.1.Nodup
structure aq9(R C:Nat)(ss:G (Nat×Nat)):Prop where
 r1:1<=R
 r6:R<=6
 c1:1<=C
 c6:C<=6
 l1:1<=ss.length
 l12:ss.length<=12
 nd:ss.Nodup
 inn:∀s∈ss,s.1<R/\s.2<C
end M02
local macro_rules(kind:=«term{_}»)|`({$a})=>`(L3.ag $a L3.az)|`({$a,$b})=>`(L3.ag $a (L3.ag $b L3.az))|`({$a,$b,$c})=>`(L3.ag $a (L3.ag $b (L3.ag $c L3.az)))|`({$a,$b,$c,$d})=>`(L3.ag $a (L3.ag $b (L3.ag $c (L3.ag $d L3.az))))
local macro_rules|`(~~~$n)=>`(L3.pC (.int $n))
namespace STP
open PySem L2 L3
def o0:FS:=(bU (mn (aO (aL oa (aL bq (aa 0) (~~~2)) (pC .none))) (d6 (aL bq (aa 0) (~~~2))) d9)
 (d6 (iC (L10.J8 0) {fR 2 [] (iq (aL bq (aa 0) (~~~0))) (gT 2 (Ls (gN 0) (Ls (gN 1) TK))) (aO (aL cT (aL bq (aa 1) (~~~0)) (pC (.str "layer")))) (aL bq (aa 1) (~~~1))})))
def eD:FN:=iE 1 o0
def mP:FS:=(bU (gG (aL bq (aL bq (aL bq (aa 0) (~~~1)) (aa 1)) (aa 2)) (gN 3))
 (bU (mn (aO (aL cT (aL bq (aa 3) (~~~0)) (pC (.str "below")))) (d6 (aL bq (aL bq (aL bq (aa 0) (~~~1)) (~~~0)) (aa 2))) d9)
 (d6 (aa 3))))
def jH:FN:=iE 4 mP
def j6:FS:=(d6 (fR 1 [1] (iq (aL bq (aa 0) (~~~2))) (gN 0) (aO (iC BJ {fR 1 [0] (iq (aa 1)) (gN 0) eU (aL No (aa 0) (aL bq (aa 1) (~~~0)))})) (aa 0)))
def bO:FN:=iE 2 j6
def lz:FS:=(bU (vW (iq (aL bq (aa 0) (~~~2))) (gN 2) (mn (aO (aL cT (iC xq {aL bq (aa 2) (~~~0)}) (iC L9.iZ {aa 1}))) (d6 (aL dQ (de {cz {pC (.str "letter"),aL bq (aa 2) (~~~1)}}) (aL jo (de {pC (.tuple [(.str "none")])}) (aL vQ (iC dH {aa 1}) (~~~1))))) d9))
 (d6 (fR 1 [0] (iq (aa 1)) (gN 0) eU (aL bq (aL bq (aL bq (aa 1) (~~~1)) (~~~0)) (aa 0)))))
def gM:FN:=iE 3 lz
open L10
def lM:fF:=(aR (fu "Hand" "bed" (aw 0) (af (aa 1)))
 (aR (fu "Hand" "acts" (aw 0) (AY (af (aL bq (aa 2) (~~~0)))))
 (aR (fu "Hand" "waiting" (aw 0) (af (aL bq (aa 2) (~~~1))))
 (aR (fu "Hand" "once" (aw 0) (af (aL bq (aa 2) (~~~2))))
 (fu "Hand" "sent" (aw 0) (af (de az)))))))
def eK:jh:=dc 3 lM
def oE:fF:=(gQ (lV (aj (kL gx (aj (eO 1 [0] (fP (wE (aY "Hand" "acts" (aw 0)))) (df 0) cL (lV (aj (af (aa 0)) (aj (v8 (aY "Hand" "acts" (aw 1)) (af (aa 0))) aH)))) aH)) (aj (aY "Hand" "waiting" (aw 0)) (aj (aY "Hand" "once" (aw 0)) aH)))))
def bQ:jh:=dc 1 oE
def jO:fF:=(gQ (FB (lU oa (aY "Hand" "waiting" (aw 0)) (af (pC .none))) (lU No (af (aa 1)) (gC (aY "Hand" "waiting" (aw 0)) (af (~~~0))))))
def cA:jh:=dc 2 jO
def mJ:fF:=(gQ (lU No (af (aa 1)) (Fj (aY "Hand" "acts" (aw 0)))))
def b6:jh:=dc 2 mJ
def mj:fF:=(aR (cS (pN (bV (aO (aL cT (aL bq (aa 2) (~~~0)) (pC (.str "letter"))))) (Ae (bS (bf "Hand" "has_act" b6 2 (aw 0) (aj (af (aa 2)) aH))))) (bT (lG (aY "Hand" "sent" (aw 0)) (af (cz {aL bq (aa 2) (~~~1),pC (.str "down")})))) dg)
 (ze (aY "Hand" "acts" (aw 0)) (af (aa 1)) (af (aa 2))))
def bG:jh:=dc 3 mj
def rL:fF:=(aR (cI (Ak (aY "Hand" "acts" (aw 0)) (af (aa 1))) (df 2))
 (cS (pN (bV (aO (aL cT (aL bq (aa 2) (~~~0)) (pC (.str "letter"))))) (Ae (bS (bf "Hand" "has_act" b6 2 (aw 0) (aj (af (aa 2)) aH))))) (bT (lG (aY "Hand" "sent" (aw 0)) (af (cz {aL bq (aa 2) (~~~1),pC (.str "up")})))) dg))
def ki:jh:=dc 3 rL
def ox:fF:=(aR (cI (gC (aY "Hand" "waiting" (aw 0)) (af (~~~0))) (df 1))
 (aR (cI (gC (aY "Hand" "waiting" (aw 0)) (af (~~~2))) (df 2))
 (aR (fu "Hand" "waiting" (aw 0) (af (pC .none)))
 (aR (cI (iL (QJ (bV (aO (aL cT (aa 2) (pC (.tuple [(.str "chord")]))))) (ke gM 2 (aj (aY "Hand" "bed" (aw 0)) (aj (af (aa 1)) aH))) (af (de {cz {pC (.str "layer"),aL bq (aa 2) (~~~2)}})))) (df 3))
 (BU (gR (zC {aa 1,aa 3})) (So 2 (uX (df 4) (uX (df 5) Gz))) (bT (bf "Hand" "come" bG 3 (aw 0) (aj (af (aa 4)) (aj (af (aa 5)) aH)))))))))
def cr:jh:=dc 6 ox
def gl:fF:=(aR (cS (Bt (bS (lU jU (aY "Hand" "waiting" (aw 0)) (af (pC .none)))) (Bt (bS (lU rc (gC (aY "Hand" "waiting" (aw 0)) (af (~~~2))) (af (pC (.tuple [(.str "chord")]))))) (bS (lU rc (ke eD 1 (aj (bf "Hand" "stands" bQ 1 (aw 0) aH) aH)) (af (~~~0)))))) (gQ (af (pC (.bool VO)))) dg)
 (gQ (lU rc (ke bO 2 (aj (aY "Hand" "bed" (aw 0)) (aj (lU dQ (gC (aY "Hand" "waiting" (aw 0)) (af (~~~0))) (af (cz {aa 1}))) aH))) (af (de az)))))
def eC:jh:=dc 2 gl
def iU:fF:=(aR (cI (lU dQ (gC (aY "Hand" "waiting" (aw 0)) (af (~~~0))) (af (cz {aa 1}))) (df 2))
 (aR (fu "Hand" "waiting" (aw 0) (lV (aj (af (aa 2)) (aj (gC (aY "Hand" "waiting" (aw 0)) (af (~~~1))) (aj (af (pC (.tuple [(.str "chord")]))) aH)))))
 (cS (bS (lU cT (eO 1 [] (fP (ke bO 2 (aj (aY "Hand" "bed" (aw 0)) (aj (af (aa 2)) aH)))) (df 0) cL (af (iC dH {aL bq (aa 0) (~~~0)}))) (af (de {iC dH {aa 2}})))) (bT (bf "Hand" "decide" cr 1 (aw 0) aH)) dg)))
def dS:jh:=dc 3 iU
def lC:fF:=(aR (cI (ke eD 1 (aj (bf "Hand" "stands" bQ 1 (aw 0) aH) aH)) (df 2))
 (aR (cI (ke jH 3 (aj (aY "Hand" "bed" (aw 0)) (aj (af (aa 2)) (aj (af (aa 1)) aH)))) (df 3))
 (aR (cI (af (aL bq (aa 3) (~~~0))) (df 4))
 (aR (cS (bV (aO (aL CB (aa 4) (cz {pC (.str "layer"),pC (.str "once")})))) (fu "Hand" "once" (aw 0) (af (pC .none))) dg)
 (cS (bV (aO (aL cT (aa 4) (pC (.str "tap"))))) (fu "Hand" "waiting" (aw 0) (af (cz {cz {aa 1},~~~0,aa 3}))) (cS (pN (bV (aO (aL cT (aa 4) (pC (.str "letter"))))) (pN (bV (aO (aL cT (aa 2) (~~~0)))) (bS (lU rc (ke bO 2 (aj (aY "Hand" "bed" (aw 0)) (aj (af (cz {aa 1})) aH))) (af (de az)))))) (fu "Hand" "waiting" (aw 0) (af (cz {cz {aa 1},~~~0,pC (.tuple [(.str "chord")])}))) (cS (bV (aO (aL cT (aa 4) (pC (.str "once"))))) (aR (bT (bf "Hand" "come" bG 3 (aw 0) (aj (af (aa 1)) (aj (af (pC (.tuple [(.str "none")]))) aH))))
 (fu "Hand" "once" (aw 0) (af (aL bq (aa 3) (~~~1))))) (bT (bf "Hand" "come" bG 3 (aw 0) (aj (af (aa 1)) (aj (af (aa 3)) aH)))))))))))
def gH:jh:=dc 5 lC
def k9:fF:=(aR (cS (Bt (bS (Az VO (af (aa 1)) (aY "Hand" "acts" (aw 0)))) (bS (bf "Hand" "is_waiting" cA 2 (aw 0) (aj (af (aa 1)) aH)))) wF dg)
 (aR (cS (bS (bf "Hand" "makes_chord" eC 2 (aw 0) (aj (af (aa 1)) aH))) (aR (bT (bf "Hand" "put_to_chord" dS 2 (aw 0) (aj (af (aa 1)) aH)))
 wF) dg)
 (aR (cS (bS (lU oa (aY "Hand" "waiting" (aw 0)) (af (pC .none)))) (bT (bf "Hand" "decide" cr 1 (aw 0) aH)) dg)
 (bT (bf "Hand" "begin" gH 2 (aw 0) (aj (af (aa 1)) aH))))))
def iV:jh:=dc 2 k9
def j8:fF:=(aR (cI (gC (aY "Hand" "waiting" (aw 0)) (af (~~~2))) (df 2))
 (cS (bV (aO (aL cT (aa 2) (pC (.tuple [(.str "chord")]))))) (bT (bf "Hand" "decide" cr 1 (aw 0) aH)) (aR (fu "Hand" "waiting" (aw 0) (af (pC .none)))
 (bT (bf "Hand" "come" bG 3 (aw 0) (aj (af (aa 1)) (aj (af (cz {pC (.str "letter"),aL bq (aa 2) (~~~1)})) aH)))))))
def ic:jh:=dc 3 j8
def mi:fF:=(aR (cS (bS (bf "Hand" "is_waiting" cA 2 (aw 0) (aj (af (aa 1)) aH))) (bT (bf "Hand" "settle" ic 2 (aw 0) (aj (af (aa 1)) aH))) dg)
 (cS (bS (Az VO (af (aa 1)) (aY "Hand" "acts" (aw 0)))) (bT (bf "Hand" "go" ki 2 (aw 0) (aj (af (aa 1)) aH))) dg))
def jL:jh:=dc 2 mi
def jw:fF:=(aR (cS (bS (lU jU (aY "Hand" "waiting" (aw 0)) (af (pC .none)))) wF dg)
 (aR (cI (lU dQ (gC (aY "Hand" "waiting" (aw 0)) (af (~~~1))) (af (~~~1))) (df 1))
 (aR (fu "Hand" "waiting" (aw 0) (lV (aj (gC (aY "Hand" "waiting" (aw 0)) (af (~~~0))) (aj (af (aa 1)) (aj (gC (aY "Hand" "waiting" (aw 0)) (af (~~~2))) aH)))))
 (cS (bS (lU cT (af (aa 1)) (gC (aY "Hand" "bed" (aw 0)) (af (~~~3))))) (bT (bf "Hand" "decide" cr 1 (aw 0) aH)) dg))))
def gJ:jh:=dc 2 jw
def C3:fF:=(aR (cI (wN "Hand" eK 3 (aj (af (aa 0)) (aj (af (aa 1)) aH))) (df 3))
 (aR (cS (bV (aO (aL cT (aL bq (aa 2) (~~~0)) (pC (.str "turn"))))) (bT (bf "Hand" "wait_on" gJ 1 (aw 3) aH)) (cS (bV (aO (aL cT (aL bq (aa 2) (~~~0)) (pC (.str "down"))))) (bT (bf "Hand" "press" iV 2 (aw 3) (aj (af (aL bq (aa 2) (~~~1))) aH))) (bT (bf "Hand" "lift" jL 2 (aw 3) (aj (af (aL bq (aa 2) (~~~1))) aH)))))
 (gQ (lV (aj (aY "Hand" "sent" (aw 3)) (aj (bf "Hand" "stands" bQ 1 (aw 3) aH) aH))))))
def iQ:jh:=dc 4 C3
end STP
local macro_rules| `(tactic|ext:20)=> `(tactic|·first|((simp only[aeN,aeO]);rfl)|rfl)| `(tactic|ext:17)=> `(tactic|first|with_reducible assumption|change L3.hG _ _|change L3.uD _ _|change L3.oY _ _|change L3.ai5 _ _|change L3.z6 _ _|change L3.zr _ _|change L3.amy _ _|change L3.akY _ _|change L3.jN _ _|change L3.xB _ _|change L3.afl _ _|change L3.ae7 _ _|change L3.ajW _ _|change L3.ajS _ _|change L3.xK _ _|change L3.aj9 _ _|change L3.ajJ _ _|change L3.aiq _ _|change L3.yH _ _|change L3.aiK _ _|change L3.aiM _ _|change L3.ako _ _|change L3.akN _ _|change L3.iz|change L3.jt|change L3.sF|change L3.aoK|change L3.aoZ|change L3.Ph|change L3.ka _|change L3.fV _|(with_reducible rfl))| `(tactic|ext:0)=> `(tactic|first
 |change L3.aC
 |((exists L3.ae);rfl)
 |((exists L3.mz);rfl)
 |change L3.aJ
 |change L3.pT
 |((exists L3.aB);(·ext:0);(·ext:0);(·rfl);(·rfl);(·ext:17))
 |((exists L3.zP);(·ext:0);(·rfl);(·rfl))
 |((exists L3.ai);(·ext:0);(·ext:0))
 |((exists L3.bE);(·ext:0);(·rfl))
 |((exists L3.fO);(·ext:0);(·rfl);(·first|ext:17|rfl))
 |((exists L3.ck);(·ext:0);(·rfl);(·rfl);(·with_reducible assumption))
 |((exists L3.dJ);(·ext:0);(·rfl);(·exact VJ rfl))
 |((exists L3.uU);(·ext:0);(·rfl);(·exact VJ rfl))
 |((exists L3.alf);(·ext:0);(·rfl);(·rfl))
 |((exists L3.qI);(·ext:0);(·rfl))
 |((exists L3.ED);(·ext:0);(·ext:0);(·ext:0);(·rfl);(·first|with_reducible assumption|rfl))
 |((exists L3.ajH);(·ext:0))
 |((exists L3.qh);(·ext:0);(·intro _;ext:0))
 |((exists L3.xp);(·ext:0);(·intro _;ext:0))
 |((exists L3.ajp);(·ext:0))
 |((exists L3.yj);(·ext:0);(·intro _;ext:0))
 |((exists L3.agQ);(·ext:0);(·intro _;ext:0))
 |((exists L3.Eh);(·ext:0);(·rfl);(·first|with_reducible assumption|rfl))
 |((exists L3.lA);(·ext:0);(·rfl);(·rfl))
 |((exists L3.ai9);(·ext:0);(·rfl);(·rfl))
 |((exists L3.CW);(·rfl);(·ext:0);(·rfl);(·rfl);(·first|with_reducible assumption|(simp only[XI,V0,L3.i7] at*;ext));ext:20)
 |((exists L3.alT);(·rfl);(·ext:0);(·rfl);(·rfl);(·with_reducible assumption);(·with_reducible assumption);(·with_reducible assumption);ext:20)
 |((exists L3.BS);(·ext:0);(·rfl);ext:20)
 |((exists L3.EW);(·ext:0))
 |((exists L3.x4);(·ext:0);(·rfl)))
local macro_rules| `(tactic|ext:28)=> `(tactic|first
 |((exists L3.al4);(·ext:0);(·ext:0);(·rfl);(·rfl);(·ext:17))
 |((exists L3.ajR);(·ext:0);(·rfl);(·rfl);(·with_reducible assumption))
 |((exists L3.alw);(·ext:0);(·rfl);(·first|ext:17|rfl))
 |ext:0)
local macro_rules| `(tactic|ext:0)=> `(tactic|first
 |with_reducible assumption
 |((exists L3.yj);(·ext:0);(·intro _;ext:28))
 |((exists L3.agQ);(·ext:0);(·intro _;ext:28))
 |((exists L3.aiN);(·ext:0);(·ext:0);(·ext:0);(·rfl);(·rfl);(·rfl);(·ext:17);(·intro _;ext:17))
 |((exists L3.yP);(·ext:0);(·rfl);(·rfl);(·rfl)))
local macro_rules| `(tactic|ext:14)=> `(tactic|first
 |((exists L3.dI);(·ext:0);(·rfl);ext:20;try ext:14)
 |((exists L3.aka);(·ext:0);try ext:14)
 |((exists L3.Cj);try ext:14)
 |((exists L3.dU);try ext:14)
 |((exists L3.fU);(·ext:0);(·rfl))
 |((exists L3.ji);(·ext:0))
 |((exists L3.ak4);(·ext:0);(·rfl);ext:20)
 |((exists L3.xM);(·ext:0))
 |((exists L3.gq);(·ext:0);(·rfl))
 |((exists L3.Ju);(·ext:0))
 |(exists L3.yw))
namespace STP
open PySem L2 L3
def kH(c:Nat):Str:=#[#v[97+c]]
inductive Mn where
 |Wo (c:Nat)
 |Yq (n:Int)
 |tap (c:Nat) (n:Int)
 |once (n:Int)
 |none
 |below
 deriving DecidableEq
def mD:Mn->D
 |.Wo c=>.tuple [.str "letter",.str (kH c)]
 |.Yq n=>.tuple [.str "layer",.int n]
 |.tap c n=>.tuple [.str "tap",.str (kH c),.int n]
 |.once n=>.tuple [.str "once",.int n]
 |.none=>.tuple [.str "none"]
 |.below=>.tuple [.str "below"]
def VM(L a:Int):Mn->Prop
 |.Wo c=>c<26
 |.Yq n=>1<=n/\n<a
 |.tap c n=>c<26/\1<=n/\n<a
 |.once n=>1<=n/\n<a
 |.none=>True
 |.below=>L≠0
def Mn.isL:Mn->Bool
 |.Wo _=>P
 |_=>VO
structure Bd where
 n:Int
 ls:G (G Mn)
 cs:G (G Nat×Nat)
 wt:Int
def eP(l:G Mn):D:=.tuple (l.map mD)
def eV(c:G Nat×Nat):D:=.tuple [.tuple (bX c.1),.str (kH c.2)]
def bD(b:Bd):D:=.tuple [.int b.n,.tuple (b.ls.map eP),.tuple (b.cs.map eV),.int b.wt]
def VL(n a:Int)(b:G (G Mn)):Prop:=∀(i:Nat) l,b[i]?=R l->(l.length:Int)=n/\∀m∈l,VM i a m
def Bh(a:G Mn)(k:Nat):Bool:=(a[k]?.map Mn.isL).getD VO
def VC(a:G Mn)(c:G Nat×Nat):Prop:=2<=c.1.length/\c.1.Pairwise (·<·)/\(∀k∈c.1,Bh a k=P)/\c.2<26
structure VB(b:Bd):Prop where
 n1:1<=b.n
 n5:b.n<=5
 l1:1<=b.ls.length
 l3:b.ls.length<=3
 vl:VL b.n b.ls.length b.ls
 c4:b.cs.length<=4
 vc:∀c∈b.cs,VC (b.ls.headD []) c
 cu:b.cs.Pairwise λa c=>a.1≠c.1
 w1:1<=b.wt
 w4:b.wt<=4
def wn:Mn->Nat
 |.Wo _=>0
 |.Yq _=>1
 |.tap _ _=>2
 |.once _=>3
 |.none=>4
 |.below=>5
def ws:Nat->Str
 |0=> "letter"
 |1=> "layer"
 |2=> "tap"
 |3=> "once"
 |4=> "none"
 |_=> "below"
def wd(m:Mn):Str:=ws (wn m)
def rV(m:Mn):wn m<6:=by ext m<;>show VJ W
def pG(m:Mn):bq (mD m) (.int 0)=R (.fz (.str (wd m))):=by ext m<;>show iz
theorem Pn(m:Mn):VD.strOk (wd m)=P:=(by left:∀i,i<6->VD.strOk (ws i)=P) _ (rV m)
def Ab:∀i,i<6->∀j,j<6->(ws i==ws j)=decide (i=j):=by left
def zR(m:Mn)(j:Nat)(a:j<6):cT (.str (wd m)) (.str (ws j))=R (.fz (.bool (decide (wn m=j)))):=by rw[TZ (Pn m) ((by left:∀i,i<6->VD.strOk (ws i)=P) j a)];ext wd;rw[Ab _ (rV m) _ a]
def Mn.isB:Mn->Bool
 |.below=>P
 |_=>VO
def Mn.aev:Mn->Bool
 |.Yq _=>P
 |_=>VO
def Mn.isT:Mn->Bool
 |.tap _ _=>P
 |_=>VO
def Mn.isO:Mn->Bool
 |.once _=>P
 |_=>VO
theorem kz(m:Mn):cT (.str (wd m)) (.str "letter")=R (.fz (.bool m.isL)):=(zR m 0 ()).trans (by ext m<;>rfl)
theorem Jw(m:Mn):cT (.str (wd m)) (.str "below")=R (.fz (.bool m.isB)):=(zR m 5 ()).trans (by ext m<;>rfl)
theorem La(m:Mn):cT (.str (wd m)) (.str "layer")=R (.fz (.bool m.aev)):=(zR m 1 ()).trans (by ext m<;>rfl)
theorem QK(m:Mn):cT (.str (wd m)) (.str "tap")=R (.fz (.bool m.isT)):=(zR m 2 ()).trans (by ext m<;>rfl)
theorem LZ(m:Mn):cT (.str (wd m)) (.str "once")=R (.fz (.bool m.isO)):=(zR m 3 ()).trans (by ext m<;>rfl)
def Te(m:Mn):CB (.str (wd m)) (.tuple [.str "layer",.str "once"])=R (.fz (.bool (!(m.aev||m.isO)))):=by
 let h:∀a:Str,VD.strOk a=P->CB (.str a) (.tuple [.str "layer",.str "once"])=R (.fz (.bool (!(("layer":Str)==a||("once":Str)==a)))):=λa b=>by show(if(l7 (.str a)&&(VD.strOk "layer"&&(VD.strOk "once"&&P)))=P then R (RV.fz (.bool (!(VD.eqv (.str "layer") (.str a)||(VD.eqv (.str "once") (.str a)||false)))))else U)=_;rw[show l7 (.str a)=P by ext l7;rw[show VD.canLay0 (.str a)=P from b];rfl,show VD.strOk "layer"=P by left,show VD.strOk "once"=P by left,ac4];rfl
 rw[h _ (Pn m)];ext wd;rw[show(("layer":Str)==ws (wn m))=_ from Ab 1 () _ (rV m),show(("once":Str)==ws (wn m))=_ from Ab 3 () _ (rV m)];ext m<;>rfl
def LB:Mn->Prop
 |.Wo c=>c<26
 |.tap c _=>c<26
 |_=>True
def VM.lb(h:VM L nL m):LB m:=by
 cases m with
 |Wo c=>show h
 |tap c n=>show h.1
 |_=>trivial
def mf(h:c<26):VD.strOk (kH c)=P:=by show((#v[97+c]:Array Nat).all λc=>decide (c<0x110000))=P;simp;ext
def tt(h:kH c=kH d):c=d:=by
 let:(97+c)=97+d:=by let a:=dP (λz:Str=>z.cps.toList) h;show List.head_eq_of_cons_eq a
 ext
def C5(h:LB m):VD.canLay0 (mD m)=P:=by
 cases m with
 |Wo c=>show(VD.strOk "letter"&&(VD.strOk (kH c)&&P))=P;rw[mf h,show VD.strOk "letter"=P by left];rfl
 |Yq n=>show(VD.strOk "layer"&&(P&&P))=P;left
 |tap c n=>show(VD.strOk "tap"&&(VD.strOk (kH c)&&(P&&P)))=P;rw[mf h,show VD.strOk "tap"=P by left];rfl
 |once n=>show(VD.strOk "once"&&(P&&P))=P;left
 |none=>show(VD.strOk "none"&&P)=P;left
 |below=>show(VD.strOk "below"&&P)=P;left
def Jh(h:LB m):l7 (mD m)=P:=by ext l7;rw[C5 h];ext m<;>rfl
def mR:Mn->G D
 |.Wo c=>[.str (kH c)]
 |.Yq n=>[.int n]
 |.tap c n=>[.str (kH c),.int n]
 |.once n=>[.int n]
 |.none=>[]
 |.below=>[]
def Po(m:Mn):mD m=.tuple (.str (wd m)::mR m):=by ext m<;>rfl
def Tv(a b:Mn):decide (wd a=wd b)=decide (wn a=wn b):=by let h:=Ab _ (rV a) _ (rV b);ext wd;rw[<-h];rfl
theorem D6(c d:Nat):decide (kH c=kH d)=decide (c=d):=decide_eq_decide.mpr #[tt,λh=>by rw[h]]
def RI(a b:Mn)(h:wn a=wn b):VD.eqvAll (mR a) (mR b)=decide (a=b):=by
 ext a<;>ext b<;>first|ext h|skip
 .show(decide (kH _=kH _)&&P)=_;rw[D6,abu];show decide_eq_decide.mpr #[λh=>by rw[h],λh=>by ext h;rfl]
 .show(decide (_=_)&&P)=_;rw[abu];show decide_eq_decide.mpr #[λh=>by rw[h],λh=>by ext h;rfl]
 .show(decide (kH _=kH _)&&(decide (_=_)&&P))=_;rw[D6,abu,<-Bool.decide_and];show decide_eq_decide.mpr #[λh=>by rw[h.1,h.2],λh=>by ext h;show#[W,W]]
 .show(decide (_=_)&&P)=_;rw[abu];show decide_eq_decide.mpr #[λh=>by rw[h],λh=>by ext h;rfl]
 .rfl
 .rfl
def Ri(a b:Mn):VD.eqv (mD a) (mD b)=decide (a=b):=by
 rw[Po,Po];show(decide (wd a=wd b)&&VD.eqvAll (mR a) (mR b))=_;rw[Tv];by_cases h:wn a=wn b
 .rw[aE h,abt,RI a b h]
 .rw[aP h,YY,aP λz=>h (by rw[z])]
theorem Fs:∀{l:G Mn},(∀m∈l,LB m)->VD.canLayAll0 (l.map mD)=P
 |[],_=>rfl
 |m::r,h=>by show(VD.canLay0 (mD m)&&VD.canLayAll0 (r.map mD))=P;rw[C5 (h m VV),Fs λx a=>h x (VX _ a)];rfl
theorem DL(a:Mn):∀l:G Mn,((l.map mD).any λe=>VD.eqv e (mD a))=decide (a∈l)
 |[]=>rfl
 |m::r=>by rw[V1,Zl,DL a r,Ri,<-Bool.decide_or];show decide_eq_decide.mpr (by rw[Wa];show#[λh=>h.imp (λz=>z.symm) id,λh=>h.imp (λz=>z.symm) id])
def MJ{l:G Mn}(c:LB a)(b:∀m∈l,LB m):No (mD a) (.list (l.map mD))=R (.fz (.bool (decide (a∈l)))):=by show(if(l7 (mD a)&&VD.canLayAll0 (l.map mD))=P then _ else _)=_;rw[Jh c,Fs b,Xy,av W,DL]
def Ff(e:α->D)(g:α->bg D)(I:bt->Prop)(xs:G α)(p:I d)(i:xs.length<=1000)(b:∀x∈xs,∀d,I d->∃c,mQ gt t u (e x) d=.ok (g x,c)/\I c):oi (eX gt t u (xs.map e) d [])=.ok (xs.filterMap g):=by
 let h:∀(xs:G α) (a:G D) (d:bt),I d->a.length+xs.length<=1000->(∀x∈xs,∀d,I d->∃c,mQ gt t u (e x) d=.ok (g x,c)/\I c)->eX gt t u (xs.map e) d a=.ok (a++xs.filterMap g):=by
  intro xs
  induction xs with
  |nil=>intro a d _ _ _;show Res.ok a=_;rw[List.filterMap_nil,Wi]
  |cons x r j=>
   intro a d m i b;rw[V0]at i;let(c,o,n):=b x VV d m;rw[V1,tL o ()];let f:(a++(g x).toList).length+r.length<=1000:=by
    rw[Vy];cases g x with
    |none=>rw[aeh,XI];ext
    |some y=>rw[Option.toList_some,Zf];ext
   rw[j _ c n f λy l=>b y (VX _ l),V6];cases q:g x with
   |none=>rw[ada q];rfl
   |some y=>rw[adb q];rfl
 rw[h xs [] d p (by simpa using i) b];rfl
def Fk(a:dW b=b):dW (R (PV.fz d)::b)=R (.fz d)::b:=by show IZ _::dW b=_;rw[a];rfl
def xA{α:Type}{d:FT}{k:FE}{c:bt}(e f:α->D)(p:α->Bool)(xs:G α)(i:xs.length<=1000)(l:dW c=c)(g:∀x∈xs,d (R (.fz (e x))::c)=.ok (p x,R (.fz (e x))::c))(j:∀x∈xs,p x=P->k (R (.fz (e x))::c)=.ok (.fz (f x),R (.fz (e x))::c)):oi (eX (gN 0) d k (xs.map e) (U::c) [])=.ok ((xs.filter p).map f):=by
 rw[Ff e (λx=>if p x=P then R (f x)else U) (λm=>∃o,m=o::c) xs #[U,W] i ?_]
 .congr 1
  clear i g j
  induction xs with
  |nil=>rfl
  |cons x r h=>
   cases q:p x with
   |true=>rw[adb (b:=f x) (by rw[av q]),List.filter_cons_of_pos q,h];rfl
   |false=>rw[ada (by rw[ax (by rw[q];simp)]),List.filter_cons_of_neg (by rw[q];simp),h]
 .rintro x a m ⟨o,rfl⟩
  cases q:p x with
  |true=>show#[_,Mb W ((g x a).trans (by rw[q])) (j x a q) W (Fk l),_,W]
  |false=>show#[_,S9 W ((g x a).trans (by rw[q])) (Fk l),_,W]
theorem BV(xs:G α):xs.filter (λ_=>P)=xs:=List.filter_eq_self.mpr λ_ _=>W
def lg{α:Type}(e f:α->D)(xs:G α)(b:xs.length<=1000)(h:dW cp=cp)(g:∀x∈xs,i (R (.fz (e x))::cp)=.ok (.fz (f x),R (.fz (e x))::cp)):oi (eX (gN 0) eU i (xs.map e) (U::cp) [])=.ok (xs.map f):=by rw[xA e f (λ_=>P) xs b h (λ_ _=>W) λx a _=>g x a,BV]
theorem mH(p:α->Bool):∀l:G α,sL (l.map λc=>VD.bool (p c))=R (l.map p)
 |[]=>rfl
 |c::r=>by show(sL (r.map λc=>VD.bool (p c))).map (p c::·)=_;rw[mH p r];rfl
def uW(p:α->Bool)(l:G α):BJ [.list (l.map λc=>VD.bool (p c))]=R (.fz (.bool (l.all p))):=by show(sL _).map (λbs=>RV.fz (.bool (bs.all id)))=_;rw[mH];show R (RV.fz (.bool _))=_;rw[ahy];rfl
theorem jz:∀ns:G Int,lW (ns.map VD.int)=R ns
 |[]=>rfl
 |n::r=>by show(lW (r.map VD.int)).map (n::·)=_;rw[jz r];rfl
abbrev Ac:=Nat->I Mn
abbrev Wq:=I (G Nat×Int×I (Nat×Int))
structure Yf where
 ac:Ac
 wt:Wq
 oc:I Int
def jb(ac:Ac):G (Nat×Mn):=(VI 5).filterMap λk=>(ac k).map λa=>(k,a)
def pD(p:Nat×Mn):D:=.tuple [nd p.1,mD p.2]
def vT:I (Nat×Int)->D
 |some (c,n)=>mD (.tap c n)
 |none=>.tuple [.str "chord"]
def kY:Wq->D
 |some (b,a,w)=>.tuple [.tuple (bX b),.int a,vT w]
 |none=>.none
def vH:I Int->D
 |some o=>.int o
 |none=>.none
def cO(s:Yf):D:=.tuple [.tuple ((jb s.ac).map pD),kY s.wt,vH s.oc]
inductive YU where
 |down (k:Nat)
 |up (k:Nat)
 |turn
def eS:YU->D
 |.down k=>.tuple [.str "down",nd k]
 |.up k=>.tuple [.str "up",nd k]
 |.turn=>.tuple [.str "turn",.int 0]
def ig:p∈jb ac↔p.1<5/\ac p.1=R p.2:=by
 ext jb;rw[ZJ];constructor
 .rintro⟨k,e,b⟩
  cases q:ac k with
  |none=>rw[q]at b;ext b
  |some a=>rw[q]at b;ext b;show#[WI.mp e,q]
 .rintro⟨e,b⟩;show#[p.1,WI.mpr e,by rw[b];rfl]
theorem yu(ac:Ac):(jb ac).length<=5:=List.length_filterMap_le _ _
def Qd:Nat×Mn->I Int
 |(_,.Yq n)=>R n
 |_=>U
def Ag(ac:Ac):Int:=(((jb ac).filterMap Qd).foldl n6 U).getD 0
def sr(ac:Ac):I Int->Int
 |some o=>o
 |none=>Ag ac
def Ii(ac:Ac):oi (eX (gT 2 (Ls (gN 0) (Ls (gN 1) TK))) (aO (aL cT (aL bq (aa 1) (~~~0)) (pC (.str "layer")))) (aL bq (aa 1) (~~~1)) ((jb ac).map pD) [U,U] [])=.ok (((jb ac).filterMap Qd).map .int):=by
 rw[Ff pD (λp=>(Qd p).map .int) (λi=>∃e b,i=[e,b]) (jb ac) #[U,U,W] (Wt (yu ac) ()) ?_,List.map_filterMap];rintro⟨k,a⟩ _ i ⟨e,b,rfl⟩;let h:=pG a;let g:=La a;let f:aO (aL cT (aL bq (aa 1) (~~~0)) (pC (.str "layer"))) [R (.fz (nd k)),R (.fz (mD a))]=.ok (a.aev,[R (.fz (nd k)),R (.fz (mD a))]):=by ext:0
 show#[[R (.fz (nd k)),R (.fz (mD a))],?_,_,_,W];cases a with
 |Yq n=>show Mb W f (aB (ae W) aC W W jt) W W
 |_=>show S9 W f W
def A6(s:Yf):eD [cO s]=.ok (.fz (.int (sr s.ac s.oc))):=by
 show jX W ?_;let a:bq (cO s) (.int 2)=R (.fz (vH s.oc)):=sF;let e0:bq (cO s) (.int 0)=R (.fz (.tuple ((jb s.ac).map pD))):=iz;ext o0;cases q:s.oc with
 |some o=>
  rw[q]at a;let b:oa (vH (R o)) .none=R (.fz (.bool P)):=W;ext:14
  .intro _;show fU (by ext:0) W W
  .intro h;ext h
 |none=>
  rw[q]at a;let b:oa (vH U) .none=R (.fz (.bool VO)):=W;ext:14
  .intro h;ext h
  .intro _;show dU (gq (fO (rv:=.fz (.int (Ag s.ac))) (ai (gf (by ext:0) W (Ii s.ac)) aJ) W ?_) W W);show(lW _).map _=_;rw[jz];rfl
def vU(b:Bd)(L k:Nat):Mn:=((b.ls[L]?.getD [])[k]?).getD .none
def look(b:Bd)(L:Int)(k:Nat):Mn:=if(vU b L.toNat k).isB=P then vU b 0 k else vU b L.toNat k
section
variable{b:Bd}(Z:VB b)
include Z
def OW{L k:Nat}(a:L<b.ls.length)(f:(k:Int)<b.n):∃l,b.ls[L]?=R l/\l[k]?=R (vU b L k):=by
 let g:=Z.vl L _ (Vz a);let e:k<(b.ls[L]).length:=by ext
 show#[_,Vz a,?_];ext vU;rw[Vz a,abP,Vz e];rfl
def B3{L k:Nat}(e:L<b.ls.length)(a:(k:Int)<b.n):VM L b.ls.length (vU b L k):=by let(l,g,f):=OW Z e a;show(Z.vl L l g).2 _ (VS f)
def JG{L k:Nat}(e:L<b.ls.length)(a:(k:Int)<b.n):∃d,bq (.tuple (b.ls.map eP)) (nd L)=R (.fz d)/\bq d (nd k)=R (.fz (mD (vU b L k))):=by let(l,g,f):=OW Z e a;show#[eP l,JT (by rw[VN,g];rfl),JT (by rw[VN,f];rfl)]
def Mg{L:Int}{k:Nat}(r:0<=L)(p:L<b.ls.length)(e:(k:Int)<b.n):jH [bD b,.int L,nd k]=.ok (.fz (mD (look b L k))):=by
 obtain⟨n,rfl⟩:∃n:Nat,L=(n:Int):=#[L.toNat,by ext];let o:=Z.l1;let(d,u,j):=JG Z (L:=n) () e;let(l,i,h):=JG Z (L:=0) () e;let v:bq (bD b) (.int 1)=R (.fz (.tuple (b.ls.map eP))):=jt;let g:=pG (vU b n k);let f:=Jw (vU b n k);let t:bq (.tuple (b.ls.map eP)) (.int 0)=R (.fz l):=i;let a:look b (n:Int) k=if(vU b n k).isB=P then vU b 0 k else vU b n k:=W
 rw[a];generalize vU b n k=m at j g f a;generalize vU b 0 k=m0 at h a;show jX W ?_;ext mP;ext:14
 .intro q;rw[av q];show fU (by ext:0) W W
 .intro q;rw[ax (by rw[q];simp)];show dU (gq (by ext:0) W W)
def xb{L:Int}{k:Nat}(g:0<=L)(i:L<b.ls.length)(f:(k:Int)<b.n):VM L b.ls.length (look b L k)/\look b L k≠.below:=by
 let h:=Z.l1;let a:=B3 Z (L:=0) (k:=k) () f;let v:=B3 Z (L:=L.toNat) (k:=k) () f;let e:vU b 0 k≠.below:=λz=>by rw[z]at a;show a W
 rw[abq g]at v;ext look;split
 .show#[?_,e]
  generalize vU b 0 k=m at a e;cases m with
  |below=>show a5 W e
  |_=>show a
 .rename_i q;show#[v,λz=>?_];rw[z]at q;show q W
omit Z in
theorem Lp(ks:bb Nat)(a:ks.length<=5)(c:bb Nat×Nat):aO (iC BJ {fR 1 [0] (iq (aa 1)) (gN 0) eU (aL No (aa 0) (aL bq (aa 1) (~~~0)))}) [lD (.fz (eV c)),lD (.fz (.tuple (bX ks)))]=.ok (ks.all λk=>decide (k∈c.1),[lD (.fz (eV c)),lD (.fz (.tuple (bX ks)))]):=by
 have e:oi (eX (gN 0) eU (aL No (aa 0) (aL bq (aa 1) (~~~0))) (bX ks) [Vt,lD (.fz (eV c))] [])=.ok (ks.map λk=>.bool (decide (k∈c.1))):=lg nd (λk=>.bool (decide (k∈c.1))) ks (by ext) rfl λk _=>by have e0:bq (eV c) (.int 0)=lD (.fz (.tuple (bX c.1))):=iz;exact aB (rv:=.fz (.bool (decide (k∈c.1)))) (ae rfl) (by ext:0) rfl rfl (yH _ _)
 exact bE (fO (rv:=.fz (.bool (ks.all λk=>decide (k∈c.1)))) (ds:=[.list (ks.map λk=>.bool (decide (k∈c.1)))]) (ai (gf (cs:=[eV c]) (ds:=bX ks) (by ext:0) rfl e) aJ) rfl (uW _ _)) rfl
def gz(b:Bd)(a:G Nat):G (G Nat×Nat):=b.cs.filter λc=>a.all λk=>decide (k∈c.1)
def Ex(a:g.length<=5):bO [bD b,.tuple (bX g)]=.ok (.ow ((gz b g).map eV)):=by let f:bq (bD b) (.int 2)=R (.fz (.tuple (b.cs.map eV))):=sF;let e:=Z.c4;show jX W ?_;ext j6;show gq (gf (cs:=[.tuple (bX g)]) (by ext:0) W (xA eV eV (λc=>g.all λk=>decide (k∈c.1)) b.cs () W (λc _=>Lp g a c) λc _ _=>ae W)) W W
def sk(a:G Nat):G Nat:=(mv (a.map acg)).map adC
omit Z in
theorem uj(ks:bb Nat):(sk ks).Perm ks:=by have h:=(gj (ks.map acg)).map adC;rw[Wd]at h;exact h.trans (by rw[show(adC∘acg)=id from funext λx=>rfl,List.map_id])
omit Z in
theorem NA(ks:bb Nat):(mv (ks.map acg)).map VD.int=bX (sk ks):=by unfold sk bX;rw[Wd];refine Xn λx a=>?_;obtain⟨n,_,rfl⟩:=Wh.mp ((gj _).mem_iff.mp a);rfl
omit Z in
theorem Df(ks:bb Nat):(sk ks).Pairwise (·<=·):=by
 have h:∀l:bb Int,l.Pairwise (·<=·)->(l.map adC).Pairwise (·<=·):=λl h=>by rw[ZY];exact h.imp λh=>by ext
 exact h _ (fH _)
omit Z in
theorem LC(ks:bb Nat):(sk ks).length=ks.length:=(uj ks).length_eq
omit Z in
theorem z4{ks:bb Nat}(h:ks.length<64):L9.iZ [.tuple (bX ks)]=lD (.ow (bX (sk ks))):=by
 have e:bX ks=(ks.map acg).map VD.int:=by rw[Wd];rfl
 show(match lW (bX ks)with
  |some a=>if a.length<64 then lD (RV.ow ((mv a).map .int))else Vt
  |none=>Vt)=_
 rw[e,jz];dsimp only;rw[av (by rw[Vw];exact h),NA]
def Tf(b:Bd)(a:G Nat):G Mn:=match b.cs.find? λc=>decide (c.1=sk a)with
 |some c=>.Wo c.2::VR (a.length - 1) .none
 |none=>a.map (vU b 0)
omit Z in
omit Z in
theorem Tq(n:Nat)(d:D):(VR n [d]).flatten=VR n d:=by
 induction n with
 |zero=>rfl
 |succ n a=>rw[WW,X0,a];rfl
def Qh{n:bb Nat}(G:1<=n.length)(F:n.length<=5)(B:∀k∈n,(k:Int)<b.n):gM [bD b,.tuple (bX n)]=.ok (.ow ((Tf b n).map mD)):=by
 let H:bq (bD b) (.int 2)=R (.fz (.tuple (b.cs.map eV))):=sF;let I:bq (bD b) (.int 1)=R (.fz (.tuple (b.ls.map eP))):=jt;let E:=Z.l1;let i:=z4 (ks:=n) ();show jX W ?_;ext lz;let rt:∀c:bb Nat×Nat,(aL dQ (de {cz {pC (.str "letter"),aL bq (aa 2) (~~~1)}}) (aL jo (de {pC (.tuple [(.str "none")])}) (aL vQ (iC dH {aa 1}) (~~~1)))) [R (.fz (bD b)),R (.fz (.tuple (bX n))),R (.fz (eV c))]=.ok (.ow ((Mn.Wo c.2::VR (n.length - 1) Mn.none).map mD),[R (.fz (bD b)),R (.fz (.tuple (bX n))),R (.fz (eV c))]):=λc=>by
  let l:bq (eV c) (.int 1)=R (.fz (.str (kH c.2))):=jt;let j:jo (.list [.tuple [.str "none"]]) (.int (((bX n).length:Int) - 1))=R (.ow (VR (n.length - 1) (.tuple [.str "none"]))):=by rw[i7,show((n.length:Int) - 1)=((n.length - 1:Nat):Int) by ext];show(RH () ()).trans (by rw[Tq])
  let y:dQ (.list [mD (.Wo c.2)]) (.list (VR (n.length - 1) (.tuple [.str "none"])))=R (.ow ((Mn.Wo c.2::VR (n.length - 1) Mn.none).map mD)):=by show(if 1+(VR (n.length - 1) (VD.tuple [.str "none"])).length<=1000000 then R (RV.ow ([mD (.Wo c.2)]++VR (n.length - 1) (VD.tuple [.str "none"])))else U)=_;rw[Wu,av (),V1,List.map_replicate];rfl
  show aB (by ext:0) (aB (by ext:0) (aB (by ext:0) aC W W (uD _ _)) W W j) W W y
 let f:∀(e:bb (bb Nat×Nat)) (o:bg PV),(∀c,e.find? (λc=>decide (c.1=sk n))=R c->sK (gN 2) (mn (aO (aL cT (iC xq {aL bq (aa 2) (~~~0)}) (iC L9.iZ {aa 1}))) (d6 (aL dQ (de {cz {pC (.str "letter"),aL bq (aa 2) (~~~1)}}) (aL jo (de {pC (.tuple [(.str "none")])}) (aL vQ (iC dH {aa 1}) (~~~1))))) d9) (e.map eV) [R (.fz (bD b)),R (.fz (.tuple (bX n))),o]=.ok (.rt (.ow ((Mn.Wo c.2::VR (n.length - 1) Mn.none).map mD))))/\
   (e.find? (λc=>decide (c.1=sk n))=U->∃u,sK (gN 2) (mn (aO (aL cT (iC xq {aL bq (aa 2) (~~~0)}) (iC L9.iZ {aa 1}))) (d6 (aL dQ (de {cz {pC (.str "letter"),aL bq (aa 2) (~~~1)}}) (aL jo (de {pC (.tuple [(.str "none")])}) (aL vQ (iC dH {aa 1}) (~~~1))))) d9) (e.map eV) [R (.fz (bD b)),R (.fz (.tuple (bX n))),o]=.ok (.nx [R (.fz (bD b)),R (.fz (.tuple (bX n))),u])):=by
  intro e
  induction e with
  |nil=>show λo=>#[λc h=>(by ext h),λ_=>#[o,W]]
  |cons c r A=>
   intro o;let C:bq (eV c) (.int 0)=R (.fz (.tuple (bX c.1))):=iz
   let a:aO (aL cT (iC xq {aL bq (aa 2) (~~~0)}) (iC L9.iZ {aa 1})) [R (.fz (bD b)),R (.fz (.tuple (bX n))),R (.fz (eV c))]=.ok (decide (c.1=sk n),[R (.fz (bD b)),R (.fz (.tuple (bX n))),R (.fz (eV c))]):=
    bE (aB (fO (by ext:0) W W) (fO (by ext:0) W i) W W (xK _ _)) W
   rw[WC];by_cases h:c.1=sk n
   .rw[aE h]at a⊢;show#[λJ t=>?_,λt=>(by ext t)];ext t;show((gN 2 (.fz (eV c)) [R (.fz (bD b)),R (.fz (.tuple (bX n))),o]).bind λg=>_)=_;rw[Lm,eg];show((mn _ _ _ [R (.fz (bD b)),R (.fz (.tuple (bX n))),R (.fz (eV c))]).bind _)=_;rw[UK a,x4 (rt c) W];rfl
   .rw[aP h]at a⊢
    let w:sK (gN 2) (mn (aO (aL cT (iC xq {aL bq (aa 2) (~~~0)}) (iC L9.iZ {aa 1}))) (d6 (aL dQ (de {cz {pC (.str "letter"),aL bq (aa 2) (~~~1)}}) (aL jo (de {pC (.tuple [(.str "none")])}) (aL vQ (iC dH {aa 1}) (~~~1))))) d9) ((c::r).map eV) [R (.fz (bD b)),R (.fz (.tuple (bX n))),o]=sK (gN 2) (mn (aO (aL cT (iC xq {aL bq (aa 2) (~~~0)}) (iC L9.iZ {aa 1}))) (d6 (aL dQ (de {cz {pC (.str "letter"),aL bq (aa 2) (~~~1)}}) (aL jo (de {pC (.tuple [(.str "none")])}) (aL vQ (iC dH {aa 1}) (~~~1))))) d9) (r.map eV) [R (.fz (bD b)),R (.fz (.tuple (bX n))),R (.fz (eV c))]:=by show((gN 2 (.fz (eV c)) [R (.fz (bD b)),R (.fz (.tuple (bX n))),o]).bind λg=>_)=_;rw[Lm,eg];show((mn _ _ _ [R (.fz (bD b)),R (.fz (.tuple (bX n))),R (.fz (eV c))]).bind _)=_;rw[UJ a];rfl
    rw[w];show A _
 let(z,m):=f b.cs U;let v:iq (aL bq (aa 0) (~~~2)) [R (.fz (bD b)),R (.fz (.tuple (bX n))),U]=.ok (b.cs.map eV,[R (.fz (bD b)),R (.fz (.tuple (bX n))),U]):=by ext:0
 ext Tf;cases q:b.cs.find? λc=>decide (c.1=sk n)with
 |some c=>show .eq (HL ((BQ v).trans (z c q))) #[W]
 |none=>let(u,m):=m q;show .eq (K8 ((BQ v).trans m)) ?_;show gq (gf (by ext:0) W ?_) W W;rw[Wd];show lg nd (mD∘vU b 0) n () W λk p=>?_;let(d,l,j):=JG Z (L:=0) () (B k p);let l:bq (.tuple (b.ls.map eP)) (.int 0)=R (.fz d):=l;show aB (by ext:0) (ae W) W W j
end
end STP
local macro_rules|`(-($x))=>`(Option.some (.fz $x))
namespace STP
open PySem L2 L3
open L10
def lZ(p:Nat×Mn):c9×SV:=(.inl (p.1:Int),.fz (mD p.2))
def oy(ac:Ac)(k:Nat)(o:I Mn):Ac:=λj=>if j=k then o else ac j
def gb:oy ac k o k=o:=by ext oy;rw[av W]
def iM(h:j≠k):oy ac k o j=ac j:=by ext oy;rw[ax h]
def J7(ac:Ac):(jb ac).Pairwise λp q=>p.1<q.1:=by
 ext jb;show aii _ (λa g h p f q b=>?_) (adD);cases e:ac a with
 |none=>rw[e]at f;ext f
 |some x=>
  cases i:ac g with
  |none=>rw[i]at b;ext b
  |some y=>rw[e]at f;rw[i]at b;ext f;ext b;show h
def tV(ac:Ac):((jb ac).map (·.1)).Nodup:=by rw[WM,ZY];show(J7 ac).imp λh=>Wc h
def Dr{l:G (Nat×Mn)}(h:(l.map (·.1)).Nodup):l.Nodup:=by rw[WM,ZY]at h;show h.imp λh e=>h (by rw[e])
theorem uR{l:G (Nat×Mn)}(h:(l.map (·.1)).Nodup)(hm:∀p,p∈l↔p.1<5/\ac p.1=R p.2):l.Perm (jb ac):=
 (List.perm_ext_iff_of_nodup (Dr h) (Dr (tV ac))).mpr λp=>(hm p).trans ig.symm
section
variable{Y:bb (Nat×Mn)}{X:Ac}(Z:Y.Perm (jb X))
include Z
theorem mM:p∈Y↔p.1<5/\X p.1=R p.2:=Z.mem_iff.trans ig
theorem HC:(Y.map (·.1)).Nodup:=(Z.map (·.1)).nodup_iff.mpr (tV X)
def IV:Y.length<=5:=by rw[Z.length_eq];show yu X
def qu{k:Nat}(f:k<5):kN (Y.map lZ) (.inl (k:Int))=(X k).map λa=>SV.fz (mD a):=by
 ext kN;cases q:(Y.map lZ).find? λb=>decide (b.1=(.inl (k:Int):c9))with
 |none=>
  cases e:X k with
  |none=>rfl
  |some a=>let:=List.find?_eq_none.mp q (lZ (k,a)) (Wh.mpr #[(k,a),(mM Z).mpr #[f,e],W]);show a5 (aE W) this
 |some b=>
  let(p,i,rfl):=Wh.mp (acP q);let h:=a4 (List.find?_some (p:=λb:c9×SV=>decide (b.1=(.inl (k:Int):c9))) q);let g:p.1=k:=by let:=Sum.inl.inj h;ext
  rw[<-g,((mM Z).mp i).2];rfl
def MK{k:Nat}(o:k<5):∃c:G (Nat×Mn),lR (Y.map lZ) (.inl (k:Int)) (.fz (mD a))=c.map lZ/\c.Perm (jb (oy X k (R a))):=by
 ext lR;let g:∀p:Nat×Mn,((lZ p).1=(.inl (k:Int):c9))↔p.1=k:=λp=>#[λh=>by let:=Sum.inl.inj h;ext,λh=>by rw[<-h];rfl];split
 .rename_i h
  show#[Y.map λp=>if p.1=k then(k,a)else p,?_,uR ?_ λp=>?_]
  .rw[Wd,Wd]
   show Xn λp _=>?_;show(if(lZ p).1=(.inl (k:Int):c9)then((lZ p).1,SV.fz (mD a))else lZ p)=lZ (if p.1=k then(k,a)else p);by_cases e:p.1=k
   .rw[av ((g p).mpr e),av e,(g p).mpr e];rfl
   .rw[ax (λz=>e ((g p).mp z)),ax e]
  .rw[Wd,show Y.map ((·.1)∘λp:Nat×Mn=>if p.1=k then(k,a)else p)=Y.map (·.1)from Xn λp _=>by
    show(if p.1=k then(k,a)else p).1=p.1;split
    .rename_i e;show e.symm
    .rfl]
   show HC Z
  .let(w,l,j):=ab9.mp h
   let(n,v,rfl):=Wh.mp l;let b:=(g n).mp (a4 j);rw[Wh];constructor
   .rintro⟨r,u,rfl⟩
    split
    .show#[o,gb]
    .rename_i e;let:=(mM Z).mp u;show#[this.1,by rw[iM e];show this.2]
   .rintro⟨f,i⟩
    by_cases e:p.1=k
    .rw[e,gb]at i;show#[n,v,?_];rw[av b,<-e,VZ i]
    .rw[iM e]at i;show#[p,(mM Z).mpr #[f,i],by rw[ax e]]
 .rename_i h
  let A:=λp m e=>h (ab9.mpr #[lZ p,Wh.mpr #[p,m,W],aE ((g p).mpr e)]);show#[Y++[(k,a)],by rw[V4];rfl,uR ?_ λp=>?_]
  .rw[V4,Yp];show#[HC Z,Xp.mpr #[Xi,aaY],λx t y q=>?_];let(p,b,rfl):=Wh.mp t;rw[VW.mp q];show A p b
  .rw[Wr,VW]
   constructor
   .rintro(b|rfl)
    .let:=(mM Z).mp b;show#[this.1,by rw[iM (A p b)];show this.2]
    .show#[o,gb]
   .rintro⟨b,f⟩
    by_cases e:p.1=k
    .rw[e,gb]at f;show .inr (by rw[<-e,VZ f])
    .rw[iM e]at f;show .inl ((mM Z).mpr #[b,f])
def Kz{k:Nat}:∃c:G (Nat×Mn),oM (Y.map lZ) (.inl (k:Int))=c.map lZ/\c.Perm (jb (oy X k U)):=by
 let g:∀p:Nat×Mn,((lZ p).1=(.inl (k:Int):c9))↔p.1=k:=λp=>#[λh=>by let:=Sum.inl.inj h;ext,λh=>by rw[<-h];rfl];show#[Y.filter λp=>decide (p.1≠k),?_,uR ?_ λp=>?_]
 .ext oM;rw[List.filter_map];congr 1;show List.filter_congr λp _=>?_;show decide_eq_decide.mpr (not_congr (g p))
 .show amJ ((List.filter_sublist).map _) (HC Z)
 .rw[Yj,mM Z,decide_eq_true_eq]
  constructor
  .rintro⟨⟨b,a⟩,f⟩;show#[b,by rw[iM f];show a]
  .rintro⟨b,a⟩
   by_cases e:p.1=k
   .rw[e,gb]at a;ext a
   .rw[iM e]at a;show#[#[b,a],e]
def Kk:aV Dg ((Y.map lZ).map (·.1))=R (Y.map λp=>(p.1:Int)):=by
 clear Z
 induction Y with
 |nil=>rfl
 |cons p r a=>rw[V1,V1];ext aV;rw[a];rfl
def Hg:mv (Y.map λp=>(p.1:Int))=(jb X).map λp=>(p.1:Int):=by show nQ ((gj _).trans (Z.map _)) (fH _) ?_;rw[ZY];show(J7 X).imp λh=>by ext
end
abbrev Sn:=G (Nat×Bool)
def pU(ac:Ac)(a:Mn):Bool:=decide (a∈(jb ac).map (·.2))
def ud(ac:Ac):Mn->Sn
 |.Wo c=>if pU ac (.Wo c)=P then[]else[(c,P)]
 |_=>[]
def QG(ac:Ac):Mn->Sn
 |.Wo c=>if pU ac (.Wo c)=P then[]else[(c,VO)]
 |_=>[]
def im(p:Yf×Sn)(k:Nat)(a:Mn):Yf×Sn:=({p.1 with ac:=oy p.1.ac k (R a)},p.2++ud p.1.ac a)
def go(p:Yf×Sn)(k:Nat):Yf×Sn:=match p.1.ac k with
 |some a=>({p.1 with ac:=oy p.1.ac k U},p.2++QG (oy p.1.ac k U) a)
 |none=>p
def lP(p:Yf×Sn)(a:G (Nat×Mn)):Yf×Sn:=a.foldl (λp q=>im p q.1 q.2) p
def iH(b:Bd)(a:G Nat):I (Nat×Int)->G Mn
 |some (_,n)=>[.Yq n]
 |none=>Tf b a
def d8(b:Bd)(p:Yf×Sn):Yf×Sn:=match p.1.wt with
 |none=>p
 |some (a,_,w)=>lP ({p.1 with wt:=U},p.2) (a.zip (iH b a w))
def FH:Wq->Nat->Bool
 |some (a,_,_),k=>decide (k∈a)
 |none,_=>VO
def HF(b:Bd)(s:Yf)(k:Nat):Bool:=match s.wt with
 |some (a,_,U)=>decide (sr s.ac s.oc=0)&& !(gz b (a++[k])).isEmpty
 |_=>VO
def w9(b:Bd)(p:Yf×Sn)(k:Nat):Yf×Sn:=match p.1.wt with
 |some (a,g,_)=>if(gz b (a++[k])).map (·.1.length)=[(a++[k]).length]then d8 b ({p.1 with wt:=R (a++[k],g,U)},p.2)else({p.1 with wt:=R (a++[k],g,U)},p.2)
 |none=>p
def iK(s:Yf)(m:Mn):Yf:=if(m.aev||m.isO)=P then s else{s with oc:=U}
def zX(b:Bd)(L:Int)(p:Yf×Sn)(k:Nat):Mn->Yf×Sn
 |.tap c n=>({p.1 with wt:=R ([k],0,R (c,n))},p.2)
 |.Wo c=>if(decide (L=0)&& !(gz b [k]).isEmpty)=P then({p.1 with wt:=R ([k],0,U)},p.2)else im p k (.Wo c)
 |.once n=>({(im p k .none).1 with oc:=R n},(im p k .none).2)
 |m=>im p k m
def Lu(b:Bd)(p:Yf×Sn)(k:Nat):Yf×Sn:=
 zX b (sr p.1.ac p.1.oc) (iK p.1 (look b (sr p.1.ac p.1.oc) k),p.2) k (look b (sr p.1.ac p.1.oc) k)
def pQ(b:Bd)(p:Yf×Sn)(k:Nat):Yf×Sn:=
 if((p.1.ac k).isSome||FH p.1.wt k)=P then p else if HF b p.1 k=P then w9 b p k else Lu b (d8 b p) k
def eA(b:Bd)(p:Yf×Sn)(k:Nat):Yf×Sn:=match p.1.wt with
 |some (_,_,U)=>d8 b p
 |some (_,_,R (c,_))=>im ({p.1 with wt:=U},p.2) k (.Wo c)
 |none=>p
def zE(b:Bd)(p:Yf×Sn)(k:Nat):Yf×Sn:=go (if FH p.1.wt k=P then eA b p k else p) k
def oA(b:Bd)(p:Yf×Sn):Yf×Sn:=match p.1.wt with
 |none=>p
 |some (a,g,w)=>if g+1=b.wt then d8 b ({p.1 with wt:=R (a,g+1,w)},p.2)else({p.1 with wt:=R (a,g+1,w)},p.2)
def aG(b:Bd)(s:Yf):YU->Yf×Sn
 |.down k=>pQ b (s,[]) k
 |.up k=>zE b (s,[]) k
 |.turn=>oA b (s,[])
def wO(b:Bd)(s:Yf):G (Str×SV):=[("bed",.fz (bD b)),("acts",.rf 1),("waiting",.fz (kY s.wt)),("once",.fz (vH s.oc)),("sent",.rf 2)]
def gX(p:Nat×Bool):D:=.tuple [.str (kH p.1),.str (if p.2=P then "down" else "up")]
def d5(b:Bd)(s:Yf)(sn:Sn)(a:G (Nat×Mn))(J:bp):bp:=.obj "Hand" (wO b s):: .dct (a.map lZ):: .lst ((sn.map gX).map .fz)::J
def HS(b:Bd)(p:Yf×Sn)(Z:bp):Prop:=∃a J,a.Perm (jb p.1.ac)/\Z=d5 b p.1 p.2 a J
section
variable{b:Bd}{s:Yf}{sn:Sn}{Y:bb (Nat×Mn)}{J:bp}{ρ:bz}{i:Nat}{Z:bp}{p:Yf×Sn}{k:Nat}{a:Mn}
def P3:(wO b s).lookup ("bed":Str)=-(bD b):=by ext wO;rw[Ym]
def Op:(wO b s).lookup ("acts":Str)=R (.rf 1):=by ext wO;rw[V5,show(("acts":Str)== "bed")=VO by left];dsimp only;rw[Ym]
def OA:(wO b s).lookup ("waiting":Str)=-(kY s.wt):=by ext wO;rw[V5,show(("waiting":Str)== "bed")=VO by left];dsimp only;rw[V5,show(("waiting":Str)== "acts")=VO by left];dsimp only;rw[Ym]
def Oe:(wO b s).lookup ("once":Str)=-(vH s.oc):=by ext wO;rw[V5,show(("once":Str)== "bed")=VO by left];dsimp only;rw[V5,show(("once":Str)== "acts")=VO by left];dsimp only;rw[V5,show(("once":Str)== "waiting")=VO by left];dsimp only;rw[Ym]
def N6:(wO b s).lookup ("sent":Str)=R (.rf 2):=by ext wO;rw[V5,show(("sent":Str)== "bed")=VO by left];dsimp only;rw[V5,show(("sent":Str)== "acts")=VO by left];dsimp only;rw[V5,show(("sent":Str)== "waiting")=VO by left];dsimp only;rw[V5,show(("sent":Str)== "once")=VO by left];dsimp only;rw[Ym]
def UM(m:Str):Bool:=(m== "bed"||m== "acts"||m== "waiting"||m== "once"||m== "sent")==VO
def SR(h:UM m=P):(wO b s).lookup m=U:=by unfold UM at h;simp only[beq_iff_eq,aej]at h;let((((l,j),g),f),e):=h;ext wO;rw[V5,l];dsimp only;rw[V5,j];dsimp only;rw[V5,g];dsimp only;rw[V5,f];dsimp only;rw[V5,e];rfl
theorem rG(h:ρ[i]?=R (R (.rf 0))):aY "Hand" "bed" (aw i) ρ (d5 b s sn Y J)=.ok (.fz (bD b)) (d5 b s sn Y J):=dL (bh h) W P3
theorem iX(h:ρ[i]?=R (R (.rf 0))):aY "Hand" "acts" (aw i) ρ (d5 b s sn Y J)=.ok (.rf 1) (d5 b s sn Y J):=dL (bh h) W Op
theorem cg(h:ρ[i]?=R (R (.rf 0))):aY "Hand" "waiting" (aw i) ρ (d5 b s sn Y J)=.ok (.fz (kY s.wt)) (d5 b s sn Y J):=dL (bh h) W OA
theorem Fp(h:ρ[i]?=R (R (.rf 0))):aY "Hand" "once" (aw i) ρ (d5 b s sn Y J)=.ok (.fz (vH s.oc)) (d5 b s sn Y J):=dL (bh h) W Oe
theorem wZ(h:ρ[i]?=R (R (.rf 0))):aY "Hand" "sent" (aw i) ρ (d5 b s sn Y J)=.ok (.rf 2) (d5 b s sn Y J):=dL (bh h) W N6
def Lo(w:Wq):eY "waiting" (.fz (kY w)) (wO b s)=wO b {s with wt:=w}:=by ext wO;ext eY;rw[ax (by left)];ext eY;rw[ax (by left)];ext eY;rw[av W]
def Ln(o:I Int):eY "once" (.fz (vH o)) (wO b s)=wO b {s with oc:=o}:=by ext wO;ext eY;rw[ax (by left)];ext eY;rw[ax (by left)];ext eY;rw[ax (by left)];ext eY;rw[av W]
theorem ny(w:Wq)(h:ρ[i]?=R (R (.rf 0)))(e:f ρ Z=.ok (.fz (kY w)) (d5 b s sn Y J)):fu "Hand" "waiting" (aw i) f ρ Z=.ok (.nx ρ) (d5 b {s with wt:=w} sn Y J):=
 (kT e (bh h) W (by show VJ W)).trans (by rw[Lo];rfl)
theorem E1(o:I Int)(h:ρ[i]?=R (R (.rf 0)))(e:f ρ Z=.ok (.fz (vH o)) (d5 b s sn Y J)):fu "Hand" "once" (aw i) f ρ Z=.ok (.nx ρ) (d5 b {s with oc:=o} sn Y J):=
 (kT e (bh h) W (by show VJ W)).trans (by rw[Ln];rfl)
def cx(e:HS b p Z)(hm:UM m=P)(h:ρ[i]?=R (R (.rf 0)))(d:fa ρ Z=.ok xs Z)(c:(SV.rf 0::xs).length=n)(f:F (.rf 0::xs) Z=.ok x j):bf "Hand" m F n (aw i) fa ρ Z=.ok x j:=by let(Y,J,g,rfl):=e;show yF (bh h) W (SR hm) d c f
def KM(Y:G (Nat×Mn)):(Y.map lZ).map (·.2)=((Y.map (·.2)).map mD).map SV.fz:=by rw[Wd,Wd,Wd];rfl
def AK(ac:Ac):Prop:=∀k a,ac k=R a->k<5/\LB a
def IQ(f:HS b p Z)(g:AK p.1.ac)(d:LB a):∃c,b6 [.rf 0,.fz (mD a)] Z=.ok (.fz (.bool (pU p.1.ac a))) c/\HS b p c:=by
 let(Y,J,e,rfl):=f;let j:pU p.1.ac a=decide (a∈Y.map (·.2)):=decide_eq_decide.mpr (e.map (·.2)).symm.mem_iff;let lb:∀m∈Y.map (·.2),LB m:=λm hm=>by let(q,h,rfl):=Wh.mp hm;show(g _ _ ((mM e).mp h).2).2
 show#[d5 b p.1 p.2 Y (J++[.lst ((Y.map lZ).map (·.2))]),?_,Y,_,e,W];rw[j];show jg W (iO (dz (ah (ae W)) (MY (iX W) W) (yk W (dh (by rw[KM];show aQ)) (MJ d lb))))
theorem Dj(f:sn.length<1000)(h:ρ[i]?=R (R (.rf 0)))(e:g ρ (d5 b s sn Y J)=.ok (.fz (gX (c,d))) (d5 b s sn Y J)):lG (aY "Hand" "sent" (aw i)) g ρ (d5 b s sn Y J)=.ok (.fz .none) (d5 b s (sn++[(c,d)]) Y J):=
 (vi (wZ h) W e W (by rw[Vw,Vw];ext)).trans (by ext d5;rw[V4,V4];rfl)
def vB(e:Y.Perm (jb s.ac))(h:k<5)(o:ρ[0]?=R (R (.rf 0)))(n:ρ[1]?=R (-(nd k)))(m:ρ[2]?=R (-(mD a))):∃c:G (Nat×Mn),c.Perm (jb (oy s.ac k (R a)))/\ze (aY "Hand" "acts" (aw 0)) (af (aa 1)) (af (aa 2)) ρ (d5 b s sn Y J)=.ok (.nx ρ) (d5 b {s with ac:=oy s.ac k (R a)} sn c J):=by let(c,l,j):=MK e h;let g:aa 1 (b9 ρ)=.ok (.fz (nd k),b9 ρ):=ae (by ext b9;rw[VN,n];rfl);let f:aa 2 (b9 ρ)=.ok (.fz (mD a),b9 ρ):=ae (by ext b9;rw[VN,m];rfl);show#[c,j,(Om (ah f) (iX o) (ah g) W W (by rw[Vw];let:=IV e;ext)).trans ?_];rw[l];rfl
def sV(m:HS b p Z)(w:AK p.1.ac)(x:LB a)(n:k<5)(v:p.2.length<1000):∃d,bG [.rf 0,.fz (nd k),.fz (mD a)] Z=.ok (.fz .none) d/\HS b (im p k a) d:=by
 let e0:=pG a;let u:=kz a;cases q:a.isL with
 |false=>
  let(Y,J,h,rfl):=m;rw[q]at u;let(f,j,y):=vB (ρ:=[R (.rf 0),-(nd k),-(mD a)]) h n W W W;show#[_,qN W (cZ (kg (jc (bN (by ext:0))) jM) y),f,J,j,?_];let:ud p.1.ac a=[]:=by ext a<;>first|rfl|ext q
  ext im;rw[this,Wi]
 |true=>
  rw[q]at u;let(z,j,l):=IQ m w x;let g:∀t,pU p.1.ac a=t->(pN (bV (aO (aL cT (aL bq (aa 2) (~~~0)) (pC (.str "letter"))))) (Ae (bS (bf "Hand" "has_act" b6 2 (aw 0) (aj (af (aa 2)) aH))))) [R (.rf 0),-(nd k),-(mD a)] Z=.ok (!t) z:=λt e=>by rw[e]at j;show kB (bN (by ext:0)) (yM (bw (cx m (by left) W (ao (ah (ae W)) aN) W j)))
  let(Y,J,h,rfl):=l;cases C:pU p.1.ac a with
  |true=>
   let(f,r,o):=vB (ρ:=[R (.rf 0),-(nd k),-(mD a)]) h n W W W;show#[_,qN W (cZ (kg (g P C) jM) o),f,J,r,?_];let:ud p.1.ac a=[]:=by
    ext a<;>first|ext q|skip
    show(if pU p.1.ac _=P then _ else _)=_;rw[av C]
   ext im;rw[this,Wi]
  |false=>
   ext a<;>first|ext q|skip
   rename_i c;let(f,r,o):=vB (ρ:=[R (.rf 0),-(nd k),-(mD (.Wo c))]) (sn:=p.2++[(c,P)]) h n W W W;let A:bq (mD (.Wo c)) (.int 1)=-(.str (kH c)):=jt;show#[_,qN W (cZ (iB (g VO C) (iY (Dj v W (ah (show _=Res.ok (PV.fz (.tuple [.str (kH c),.str "down"]),_) by ext:0))))) o),f,J,r,?_];let:ud p.1.ac (.Wo c)=[(c,P)]:=by show(if pU p.1.ac _=P then _ else _)=_;rw[ax (by rw[C];simp)]
   ext im;rw[this]
end
end STP
namespace STP
open PySem L2 L3 L10
def VA(a:Int):Mn->Prop
 |.Wo c=>c<26
 |.Yq n=>1<=n/\n<a
 |.none=>True
 |_=>False
def VA.lb(h:VA nL m):LB m:=by
 cases m with
 |Wo c=>show h
 |tap c n=>show h.elim
 |_=>trivial
structure SA(b:Bd)(s:Yf):Prop where
 ac:∀k a,s.ac k=R a->(k:Int)<b.n/\VA b.ls.length a
 oc:∀o,s.oc=R o->1<=o/\o<b.ls.length
structure WV(b:Bd)(ac:Ac)(ks:G Nat)(g:Int)(w:I (Nat×Int)):Prop where
 ne:ks≠[]
 nd:ks.Nodup
 kn:∀k∈ks,(k:Int)<b.n
 kf:∀k∈ks,ac k=U
 g0:0<=g
 tp:∀c n,w=R (c,n)->c<26/\(1<=n/\n<b.ls.length)/\ks.length=1
 ch:w=U->∀k∈ks,Bh (b.ls.headD []) k=P
structure SW(b:Bd)(s:Yf):Prop where
 sa:SA b s
 wt:∀ks g w,s.wt=R (ks,g,w)->WV b s.ac ks g w/\g<b.wt
def De{c:G Nat}(hd:c.Nodup)(h:∀k∈c,k<n):c.length<=n:=by rw[<-LC c];let b:=(uj c).nodup_iff.mpr hd;show Mi (((Df c).and b).imp λh=>by ext) λk a=>h k ((uj c).mem_iff.mp a)
section
variable{b:Bd}(Z:VB b){s:Yf}{p:Yf×Sn}{Y:bb Nat}{g:Int}{w:bg (Nat×Int)}{X:Ac}{k:Nat}{a:Mn}
include Z
theorem WV.len(h:WV b X Y g w):Y.length<=5:=De h.nd λk e=>by let:=h.kn k e;let:=Z.n5;ext
omit Z in
theorem WV.akO(h:WV b X Y g w):1<=Y.length:=List.length_pos_iff.mpr h.ne
theorem SA.ak(h:SA b s):AK s.ac:=λk a e=>by let:=h.ac k a e;let:=Z.n5;show#[by ext,(h.ac k a e).2.lb]
omit Z in
theorem SA.cm(h:SA b p.1)(f:(k:Int)<b.n)(ha:VA b.ls.length a):SA b (im p k a).1:=by
 refine⟨λj x e=>?_,h.oc⟩;by_cases z:j=k
 .subst z;have i:lD a=lD x:=(gb (ac:=p.1.ac) (k:=j) (o:=lD a)).symm.trans e;cases i;exact⟨f,ha⟩
 .exact h.ac j x ((iM z).symm.trans e)
omit Z in
theorem SA.gg(h:SA b p.1):SA b (go p k).1:=by
 unfold go;split
 .refine⟨λj x e=>?_,h.oc⟩
  by_cases z:j=k
  .subst z;exact a5 ((gb (ac:=p.1.ac) (k:=j) (o:=Vt)).symm.trans e) (by simp)
  .exact h.ac j x ((iM z).symm.trans e)
 .exact h
omit Z in
theorem tI:(im p k a).2.length<=p.2.length+1:=by
 show(p.2++ud p.1.ac a).length<=_;rw[Vy];have:(ud p.1.ac a).length<=1:=by
  cases a with
  |Wo c=>show(if _ then _ else _:Sn).length<=1;split<;>simp
  |_=>simp[ud]
 ext
omit Z in
theorem FR(e:bb (Nat×Mn)):∀p:Yf×Sn,(lP p e).2.length<=p.2.length+e.length:=by
 induction e with
 |nil=>exact λp=>VP _
 |cons q r f=>intro p;have i:=f (im p q.1 q.2);have h:=tI (p:=p) (k:=q.1) (a:=q.2);show(lP (im p q.1 q.2) r).2.length<=_;rw[V0];ext
omit Z in
theorem SA.cms(e:bb (Nat×Mn)):∀{p:Yf×Sn},SA b p.1->(∀q∈e,(q.1:Int)<b.n/\VA b.ls.length q.2)->SA b (lP p e).1/\(lP p e).1.wt=p.1.wt/\(lP p e).1.oc=p.1.oc:=by
 induction e with
 |nil=>exact λh _=>⟨h,rfl,rfl⟩
 |cons q r j=>intro p h f;have i:=f q VV;exact j (h.cm i.1 i.2) λx l=>f x (VX _ l)
def Q0(h:Bh (b.ls.headD []) k=P):∃c,vU b 0 k=.Wo c:=by
 let i:=Z.l1;obtain⟨f,r,e⟩:∃f r,b.ls=f::r:=by
  cases q:b.ls with
  |nil=>rw[q]at i;ext i
  |cons l r=>show#[l,r,W]
 unfold Bh at h;ext vU;rw[e]at h⊢;rw[adl,abP];rw[List.headD_cons]at h;cases q:f[k]? with
 |none=>rw[q]at h;ext h
 |some m=>
  rw[q]at h;cases m with
  |Wo c=>show#[c,W]
  |_=>ext h
def Ov(f:(k:Int)<b.n)(h:Bh (b.ls.headD []) k=P):VA b.ls.length (vU b 0 k):=by let i:=Z.l1;let(c,e):=Q0 Z h;let:=B3 Z (L:=0) () f;rw[e]at this⊢;show this
def R8(h:WV b X Y g U):∀m∈Tf b Y,VA b.ls.length m:=by
 intro m hm;unfold Tf at hm;split at hm
 .rename_i c f
  rcases Wa.mp hm with rfl|hm
  .show(Z.vc c (acP f)).2.2.2
  .rw[(List.mem_replicate.mp hm).2];trivial
 .let(j,e,rfl):=Wh.mp hm;show Ov Z (h.kn j e) (h.ch W j e)
def yD(h:WV b X Y g w):∀q∈Y.zip (iH b Y w),(q.1:Int)<b.n/\VA b.ls.length q.2:=by
 intro q f;let e:=Zq f;show#[h.kn _ e.1,?_];cases w with
 |none=>show R8 Z h _ e.2
 |some i=>let(c,n):=i;rw[VW.mp e.2];show(h.tp c n W).2.1
def WD(b:Bd)(s:Yf):Prop:=∀Y g w,s.wt=R (Y,g,w)->WV b s.ac Y g w
def kE(h:SA b p.1)(i:WD b p.1):SW b (d8 b p).1/\(d8 b p).1.wt=U/\(d8 b p).2.length<=p.2.length+5/\(d8 b p).1.oc=p.1.oc:=by
 ext d8;split
 .rename_i q;show#[#[h,λY g w e=>by rw[q]at e;ext e],q,afV _ _,W]
 .rename_i Y g w q
  let v:=i Y g w q;let(l,f,j):=SA.cms (Y.zip (iH b Y w)) (p:=({p.1 with wt:=U},p.2)) #[h.ac,h.oc] (yD Z v);show#[#[l,λ_ _ _ e=>?_],f,?_,j]
  .rw[f]at e;ext e
  .let:=FR (Y.zip (iH b Y w)) ({p.1 with wt:=U},p.2);let m:=v.len Z;rw[afW]at this;let:(lP ({p.1 with wt:=U},p.2) (Y.zip (iH b Y w))).2.length<=p.2.length+min Y.length (iH b Y w).length:=this;ext
omit Z in
theorem Dk:∀(l:bb Int) (m:bg Int),l.foldl n6 m=m\/∃x∈l,l.foldl n6 m=lD x
 |[],m=>.inl rfl
 |x::r,m=>by
  rw[aax];rcases Dk r (n6 m x)with h|⟨y,hy,h⟩
  .rw[h]
   cases m with
   |none=>exact .inr ⟨x,VV,rfl⟩
   |some z=>
    show lD (if x>z then x else z)=lD z\/_;split
    .exact .inr ⟨x,VV,by show lD (if x>z then x else z)=_;rename_i q;rw[av q]⟩
    .exact .inl rfl
  .exact .inr ⟨y,VX _ hy,h⟩
omit Z in
theorem DT:∀(l:bb Int) (m:bg Int),(∀x∈l,∃y,l.foldl n6 m=lD y/\x<=y)/\∀z,m=lD z->∃y,l.foldl n6 m=lD y/\z<=y
 |[],m=>⟨λx i=>(by cases i),λz h=>⟨z,h,aae _⟩⟩
 |x::r,m=>by
  rw[aax];obtain⟨q,o⟩:=DT r (n6 m x);have n:∃z,n6 m x=lD z/\x<=z/\∀u,m=lD u->u<=z:=by
   cases m with
   |none=>exact⟨x,rfl,aae _,λu h=>by cases h⟩
   |some u=>
    refine⟨if x>u then x else u,rfl,?_,λv h=>?_⟩
    .split<;>ext
    .cases h;split<;>ext
  obtain⟨z,A,C,t⟩:=n;obtain⟨y,f,B⟩:=o z A;refine⟨λv e=>?_,λu j=>⟨y,f,by have:=t u j;ext⟩⟩;rcases Wa.mp e with rfl|e
  .exact⟨y,f,by ext⟩
  .exact q v e
omit Z in
theorem DK{X:Ac}{n:Int}:n∈(jb X).filterMap Qd↔∃k,k<5/\X k=lD (.Yq n):=by
 rw[ZJ];constructor
 .rintro⟨⟨k,m⟩,f,e⟩
  have h:=ig.mp f;cases m with
  |Yq x=>have:x=n:=VZ e;subst this;exact⟨k,h.1,h.2⟩
  |_=>cases e
 .rintro⟨k,f,e⟩;exact⟨(k,.Yq n),ig.mpr ⟨f,e⟩,rfl⟩
def Mz(h:SA b s):0<=Ag s.ac/\Ag s.ac<b.ls.length/\(∀k n,s.ac k=R (.Yq n)->n<=Ag s.ac)/\(Ag s.ac=0\/∃k,s.ac k=R (.Yq (Ag s.ac))):=by
 let o:=Z.l1;let q:=Z.n5;ext Ag;generalize hm:((jb s.ac).filterMap Qd).foldl n6 U=m;let j:=(DT ((jb s.ac).filterMap Qd) U).1;let f:=Dk ((jb s.ac).filterMap Qd) U;rw[hm]at j f;let up:∀k n,s.ac k=R (.Yq n)->∃y,m=R y/\n<=y:=λk n e=>j n (DK.mpr #[k,by let:=(h.ac k _ e).1;ext,e]);cases m with
 |none=>show#[aae _,by show(0:Int)<_;ext,λk n e=>?_,.inl W];let(y,i,_):=up k n e;ext i
 |some x=>
  rcases f with f|⟨y,r,f⟩
  .ext f
  .ext f;let(k,_,e):=DK.mp r;let:=(h.ac k _ e).2;let:1<=x/\x<b.ls.length:=this;show#[by show 0<=x;ext,by show x<_;ext,λk n e=>?_,.inr #[k,e]];let(y,i,l):=up k n e;ext i;show l
def Cq(h:SA b s):0<=sr s.ac s.oc/\sr s.ac s.oc<b.ls.length:=by
 cases q:s.oc with
 |none=>let:=Mz Z h;show#[this.1,this.2.1]
 |some o=>let:=h.oc o q;show#[by show 0<=o;ext,this.2]
end
section
variable{b:Bd}{s:Yf}{T:Sn}{Y:bb (Nat×Mn)}{J:bp}{X:bz}{i:Nat}{Z:bp}{p:Yf×Sn}{k:Nat}{a:Mn}
def C4(h:f x=R y):aV f [x]=R [y]:=by ext aV;rw[h];rfl
def eF:(l++[c]).set l.length e=l++[e]:=by simp
def rQ(f:HS b p Z):∃c,bQ [.rf 0] Z=.ok (.fz (cO p.1)) c/\HS b p c:=by
 let(Y,J,e,rfl):=f;let h:=IV e;let j:fP (wE (aY "Hand" "acts" (aw 0))) [R (.rf 0)] (d5 b p.1 p.2 Y J)=.ok ((jb p.1.ac).map λq=>nd q.1) (d5 b p.1 p.2 Y (J++[.dead])):=by
  show(CJ (ds:=(jb p.1.ac).map λq=>nd q.1) (Oq (iX W) W (Kk e) (by rw[Vw];ext)) ?_).trans ?_
  .rw[Hg e];show aQ.trans ?_;rw[Wd,Wd];rfl
  .rw[eF];rfl
 let l:cD (df 0) cL (lV (aj (af (aa 0)) (aj (v8 (aY "Hand" "acts" (aw 1)) (af (aa 0))) aH))) ((jb p.1.ac).map λq=>nd q.1) [U,R (.rf 0)] (d5 b p.1 p.2 Y (J++[.dead])) []=.ok (((jb p.1.ac).map pD).map .fz) (d5 b p.1 p.2 Y (J++[.dead])):=by show(g9 (λq:Nat×Mn=>nd q.1) (λq=>.fz (pD q)) _ (λX=>∃o,X=[o,R (.rf 0)]) (jb p.1.ac) _ [] #[U,W] (by let:=yu p.1.ac;rw[XI];ext) ?_).trans (by rw[Wd];rfl);rintro q g X ⟨o,rfl⟩;let hm:=ig.mp g;show#[[-(nd q.1),R (.rf 0)],W,W,?_,_,W];show rq (ao (ah (ae W)) (ao (N8 (iX W) (ah (ae W)) W W (by rw[qu e hm.1,hm.2];rfl)) aN)) (VJ W)
 let tp:kL gx (aj (eO 1 [0] (fP (wE (aY "Hand" "acts" (aw 0)))) (df 0) cL (lV (aj (af (aa 0)) (aj (v8 (aY "Hand" "acts" (aw 1)) (af (aa 0))) aH)))) aH) [R (.rf 0)] (d5 b p.1 p.2 Y J)=.ok (.fz (.tuple ((jb p.1.ac).map pD))) (d5 b p.1 p.2 Y (J++[.dead]++[.lst (((jb p.1.ac).map pD).map .fz)])):=
  lQ (ao (hW j l) aN) (C4 (dh aQ)) W
 show#[_,jg W (iO (rq (ao tp (ao (cg W) (ao (Fp W) aN))) (VJ W))),Y,_,e,W]
def Jd(h:HS b p Z):cA [.rf 0,.fz (nd k)] Z=.ok (.fz (.bool (FH p.1.wt k))) Z:=by
 let(Y,J,l,rfl):=h;show jg W (iO ?_);cases q:p.1.wt with
 |none=>
  let e:oa (kY p.1.wt) .none=-(.bool VO):=by rw[q];rfl
  show GI (bw (dz (cg W) (ah aC) (cM e)))
 |some x=>
  let(f,g,w):=x;let e:oa (kY p.1.wt) .none=-(.bool P):=by rw[q];rfl
  let j:bq (kY p.1.wt) (.int 0)=-(.tuple (bX f)):=by rw[q];show iz
  show Gf (bw (dz (cg W) (ah aC) (cM e))) (dz (ah (ae W)) (cQ (cg W) (ah aC) j) (cM (yH _ _)))
def Tr(F:HS b p Z)(t:AK p.1.ac)(S:p.1.ac k=R a)(G:p.2.length<1000):∃D,ki [.rf 0,.fz (nd k)] Z=.ok (.fz .none) D/\HS b (go p k) D:=by
 let(Y,J,B,rfl):=F;let H:=(t k a S).1;let lb:=(t k a S).2;let(f,L,w):=Kz B
 let m:Ak (aY "Hand" "acts" (aw 0)) (af (aa 1)) [R (.rf 0),-(nd k),U] (d5 b p.1 p.2 Y J)=.ok (.fz (mD a)) (d5 b {p.1 with ac:=oy p.1.ac k U} p.2 f J):=
  (M8 (iX W) W (ah (ae W)) W W (by rw[qu B H,S];rfl)).trans (by rw[L];rfl)
 let I:go p k=({p.1 with ac:=oy p.1.ac k U},p.2++QG (oy p.1.ac k U) a):=by ext go;rw[S]
 rw[I];let o:AK (oy p.1.ac k U):=λj x e=>by
  by_cases z:j=k
  .subst z;rw[gb]at e;ext e
  .rw[iM z]at e;show t j x e
 let e0:=pG a;let N:=kz a;let h:aO (aL cT (aL bq (aa 2) (~~~0)) (pC (.str "letter"))) (b9 [R (.rf 0),-(nd k),-(mD a)])=.ok (a.isL,b9 [R (.rf 0),-(nd k),-(mD a)]):=by ext:0
 let v:ZC (cS (pN (bV (aO (aL cT (aL bq (aa 2) (~~~0)) (pC (.str "letter"))))) (Ae (bS (bf "Hand" "has_act" b6 2 (aw 0) (aj (af (aa 2)) aH))))) (bT (lG (aY "Hand" "sent" (aw 0)) (af (cz {aL bq (aa 2) (~~~1),pC (.str "up")})))) dg [R (.rf 0),-(nd k),-(mD a)] (d5 b {p.1 with ac:=oy p.1.ac k U} p.2 f J)) (λ_ D=>SV.fz .none=.fz .none/\HS b ({p.1 with ac:=oy p.1.ac k U},p.2++QG (oy p.1.ac k U) a) D) (λ_ _=>False) (λr D=>r=.fz .none/\HS b ({p.1 with ac:=oy p.1.ac k U},p.2++QG (oy p.1.ac k U) a) D):=by
  cases q:a.isL with
  |false=>
   rw[q]at h;show fq (jc (bN h)) (nJ #[W,f,J,w,?_]);let:QG (oy p.1.ac k U) a=[]:=by ext a<;>first|rfl|ext q
   rw[this,Wi]
  |true=>
   rw[q]at h;let(C,u,n):=IQ (p:=({p.1 with ac:=oy p.1.ac k U},p.2)) #[f,J,w,W] o lb;let g:∀l,pU (oy p.1.ac k U) a=l->(pN (bV (aO (aL cT (aL bq (aa 2) (~~~0)) (pC (.str "letter"))))) (Ae (bS (bf "Hand" "has_act" b6 2 (aw 0) (aj (af (aa 2)) aH))))) [R (.rf 0),-(nd k),-(mD a)] (d5 b {p.1 with ac:=oy p.1.ac k U} p.2 f J)=.ok (!l) C:=λl e=>by
    let u:b6 [.rf 0,.fz (mD a)] (d5 b {p.1 with ac:=oy p.1.ac k U} p.2 f J)=.ok (.fz (.bool l)) C:=by rw[<-e];show u
    show kB (bN h) (yM (bw (cx (p:=({p.1 with ac:=oy p.1.ac k U},p.2)) #[f,J,w,W] (by left) W (ao (ah (ae W)) aN) W u)))
   let(y,E,A,K):=n;rw[K]at g;cases Q:pU (oy p.1.ac k U) a with
   |true=>
    show fq (g P Q) (nJ #[W,y,E,A,?_]);let:QG (oy p.1.ac k U) a=[]:=by
     ext a<;>first|ext q|skip
     show(if pU (oy p.1.ac k U) _=P then _ else _)=_;rw[av Q]
    rw[this,Wi]
   |false=>
    ext a<;>first|ext q|skip
    rename_i c;let M:bq (mD (.Wo c)) (.int 1)=-(.str (kH c)):=jt;show tZ (g VO Q) (jC (Dj (d:=VO) G W (ah (show _=Res.ok (PV.fz (.tuple [.str (kH c),.str "up"]),_) by ext:0))) #[W,y,E,A,?_]);let:QG (oy p.1.ac k U) (.Wo c)=[(c,VO)]:=by show(if pU (oy p.1.ac k U) _=P then _ else _)=_;rw[ax (by rw[Q];simp)]
    rw[this]
 show j4 W (lh m W v)
end
section
variable{b:Bd}(Y:VB b){s:Yf}{Q:Sn}{T:bb (Nat×Mn)}{J:bp}{S:bz}{i:Nat}{Z:bp}{p:Yf×Sn}{k:Nat}{a:Mn}{X:bb Nat}{g:Int}{w:bg (Nat×Int)}
theorem Jz:∀(X:G Nat) (e:G Mn),mh (bX X) (e.map mD)=(X.zip e).map pD
 |[],_=>by cases ‹G Mn›<;>rfl
 |_::_,[]=>rfl
 |k::r,a::t=>by show VD.tuple [nd k,mD a]::mh (bX r) (t.map mD)=_;rw[Jz r t];rfl
def CO(h:∀c n,w=R (c,n)->c<26):cT (vT w) (.tuple [.str "chord"])=-(.bool w.isNone)/\rc (vT w) (.tuple [.str "chord"])=-(.bool w.isSome):=by
 cases w with
 |none=>
  let l:l7 (.tuple [.str "chord"])=P:=by left
  let j:VD.canLay0 (.tuple [.str "chord"])=P:=by left
  let f:VD.eqv (.tuple [.str "chord"]) (.tuple [.str "chord"])=P:=by left
  constructor
  .show(if(l7 (.tuple [.str "chord"])&&VD.canLay0 (.tuple [.str "chord"]))=P then R (RV.fz (.bool (VD.eqv (.tuple [.str "chord"]) (.tuple [.str "chord"]))))else U)=_;rw[l,j,f];rfl
  .show(if(l7 (.tuple [.str "chord"])&&VD.canLay0 (.tuple [.str "chord"]))=P then R (RV.fz (.bool (!VD.eqv (.tuple [.str "chord"]) (.tuple [.str "chord"]))))else U)=_;rw[l,j,f];rfl
 |some m=>
  let(c,n):=m;let lb:LB (.tap c n):=h c n W;let e:VD.eqv (mD (.tap c n)) (.tuple [.str "chord"])=VO:=by show(decide (("tap":Str)= "chord")&&VD.eqvAll [.str (kH c),.int n] [])=VO;rw[show decide (("tap":Str)= "chord")=VO by left];rfl
  constructor
  .show(if(l7 (mD (.tap c n))&&VD.canLay0 (.tuple [.str "chord"]))=P then R (RV.fz (.bool (VD.eqv (mD (.tap c n)) (.tuple [.str "chord"]))))else U)=_;rw[Jh lb,show VD.canLay0 (.tuple [.str "chord"])=P by left,e];rfl
  .show(if(l7 (mD (.tap c n))&&VD.canLay0 (.tuple [.str "chord"]))=P then R (RV.fz (.bool (!VD.eqv (mD (.tap c n)) (.tuple [.str "chord"]))))else U)=_;rw[Jh lb,show VD.canLay0 (.tuple [.str "chord"])=P by left,e];rfl
theorem zh(X:G Nat)(w:I (Nat×Int))(f:G Mn):∀(h:G (Nat×Mn)) (p:Yf×Sn) (Z:bp) (n m:I SV),HS b p Z->AK p.1.ac->(∀q∈h,q.1<5/\LB q.2)->p.2.length+h.length<1000->
  ∃c d,mO (So 2 (uX (df 4) (uX (df 5) Gz))) (bT (bf "Hand" "come" bG 3 (aw 0) (aj (af (aa 4)) (aj (af (aa 5)) aH)))) (h.map pD) [R (.rf 0),-(.tuple (bX X)),-(vT w),-(.list (f.map mD)),n,m] Z=.ok (.nx c) d/\HS b (lP p h) d
 |[],p,Z,n,m,L,_,_,_=>#[_,Z,W,L]
 |q::r,p,Z,n,m,L,hA,N,hl=>by
  rw[V0]at hl;let l:=N q VV;let(v,C,t):=sV L hA l.2 l.1 ();let u:AK (im p q.1 q.2).1.ac:=λj x e=>by
   by_cases z:j=q.1
   .let E:R q.2=R x:=by rw[z]at e;show(gb).symm.trans e
    ext E;show#[by rw[z];show l.1,l.2]
   .show hA j x ((iM z).symm.trans e)
  let:=tI (p:=p) (k:=q.1) (a:=q.2);let(c,d,B,o):=zh X w f r (im p q.1 q.2) v (-(nd q.1)) (-(mD q.2)) t u (λx A=>N x (VX _ A)) ();show#[c,d,?_,o]
  let y:bT (bf "Hand" "come" bG 3 (aw 0) (aj (af (aa 4)) (aj (af (aa 5)) aH))) [R (.rf 0),-(.tuple (bX X)),-(vT w),-(.list (f.map mD)),-(nd q.1),-(mD q.2)] Z=.ok (.nx [R (.rf 0),-(.tuple (bX X)),-(vT w),-(.list (f.map mD)),-(nd q.1),-(mD q.2)]) v:=
   iY (cx L (by left) W (ao (ah (ae W)) (ao (ah (ae W)) aN)) W C)
  show((bT (bf "Hand" "come" bG 3 (aw 0) (aj (af (aa 4)) (aj (af (aa 5)) aH))) [R (.rf 0),-(.tuple (bX X)),-(vT w),-(.list (f.map mD)),-(nd q.1),-(mD q.2)] Z).bind _)=_;rw[y,eh];show B
include Y
def nz(u:HS b p Z)(o:SA b p.1)(f:p.1.wt=R (X,g,w))(v:WV b p.1.ac X g w)(K:p.2.length<900):∃d,cr [.rf 0] Z=.ok (.fz .none) d/\HS b (d8 b p) d:=by
 let(T,J,z,rfl):=u;let e0:bq (kY p.1.wt) (.int 0)=-(.tuple (bX X)):=by rw[f];show iz
 let F:bq (kY p.1.wt) (.int 2)=-(vT w):=by rw[f];show sF
 let r:=v.len Y;let t:=v.akO;let E:=CO λc n h=>(v.tp c n h).1;let C:d8 b p=lP ({p.1 with wt:=U},p.2) (X.zip (iH b X w)):=by ext d8;rw[f]
 rw[C];let m:aO (aL cT (aa 2) (pC (.tuple [.str "chord"]))) (b9 [R (.rf 0),-(.tuple (bX X)),-(vT w),U,U,U])=.ok (w.isNone,b9 [R (.rf 0),-(.tuple (bX X)),-(vT w),U,U,U]):=bE (aB (ae W) aC W W E.1) W;let l:iL (QJ (bV (aO (aL cT (aa 2) (pC (.tuple [(.str "chord")]))))) (ke gM 2 (aj (aY "Hand" "bed" (aw 0)) (aj (af (aa 1)) aH))) (af (de {cz {pC (.str "layer"),aL bq (aa 2) (~~~2)}}))) [R (.rf 0),-(.tuple (bX X)),-(vT w),U,U,U] (d5 b {p.1 with wt:=U} p.2 T J)=.ok (.fz (.list ((iH b X w).map mD))) (d5 b {p.1 with wt:=U} p.2 T (J++[.dead])):=by
  cases w with
  |none=>let H:=Qh Y t r v.kn;show(gZ (MC (bN m) (xg (ao (rG W) (ao (ah (ae W)) aN)) W H)) (jJ aQ)).trans (by rw[eF];rfl)
  |some G=>let(c,n):=G;let I:bq (vT (R (c,n))) (.int 2)=-(.int n):=sF;show(gZ (LG (bN m) (dA (show _=Res.ok (PV.ow [.tuple [.str "layer",.int n]],_) by ext:0))) (jJ aQ)).trans (by rw[eF];rfl)
 let lp:∃e d,BU (gR (zC {aa 1,aa 3})) (So 2 (uX (df 4) (uX (df 5) Gz))) (bT (bf "Hand" "come" bG 3 (aw 0) (aj (af (aa 4)) (aj (af (aa 5)) aH)))) [R (.rf 0),-(.tuple (bX X)),-(vT w),-(.list ((iH b X w).map mD)),U,U] (d5 b {p.1 with wt:=U} p.2 T (J++[.dead]))=.ok (.nx e) d/\HS b (lP ({p.1 with wt:=U},p.2) (X.zip (iH b X w))) d:=by
  let L:=Y.n5;let(e,d,B,A):=zh X w (iH b X w) (X.zip (iH b X w)) ({p.1 with wt:=U},p.2) (d5 b {p.1 with wt:=U} p.2 T (J++[.dead])) U U #[T,_,z,W] (SA.ak Y #[o.ac,o.oc]) (λq y=>by
   let:=yD Y v q y;show#[by ext,this.2.lb]) (by
   rw[afW];show p.2.length+_<1000;ext)
  show#[e,d,?_,A];ext BU;rw[kG (yP (ai (ae W) (ai (ae W) aJ)) W W W),eh,Jz];show B
 let(e,d,lp,j):=lp;show#[d,qN (ρ1:=e) W ?_,j];show cZ (m9 (cQ (cg W) (ah aC) e0) W) (cZ (m9 (cQ (cg W) (ah aC) F) W) (cZ (ny U W (ah aC)) (cZ (m9 l W) lp)))
omit Y in
theorem Oy{c:bb Nat×Nat}(h:c.2<26):VD.canLay0 (eV c)=Vx:=by show(VD.canLayAll0 (bX c.1)&&(VD.strOk (kH c.2)&&Vx))=Vx;rw[nM,mf h];rfl
omit Y in
theorem Rh:∀{cs:bb (bb Nat×Nat)},(∀c∈cs,c.2<26)->rc (.list (cs.map eV)) (.list [])=-(.bool (!cs.isEmpty)):=by
 intro cs h;have j:∀cs:bb (bb Nat×Nat),(∀c∈cs,c.2<26)->VD.canLayAll0 (cs.map eV)=Vx:=by
  intro cs
  induction cs with
  |nil=>exact λ_=>rfl
  |cons c r e=>intro h;show(VD.canLay0 (eV c)&&VD.canLayAll0 (r.map eV))=Vx;rw[Oy (h c VV),e λx l=>h x (VX _ l)];rfl
 have f:∀cs:bb (bb Nat×Nat),VD.depthAll (cs.map eV)<=2:=by
  intro cs
  induction cs with
  |nil=>exact Wx _
  |cons c r e=>show max (VD.depth (eV c)) (VD.depthAll (r.map eV))<=2;refine akF.mpr ⟨?_,e⟩;show max (VD.depthAll (bX c.1)+1) (max 0 0)+1<=2;rw[k6];decide
 show(if((VD.canLayAll0 (cs.map eV)&&decide (VD.depthAll (cs.map eV)+1<=64))&&Vx)=Vx then lD (RV.fz (.bool (!VD.eqvAll (cs.map eV) [])))else Vt)=_;rw[j cs h,aE (show VD.depthAll (cs.map eV)+1<=64 by have:=f cs;ext)];cases cs<;>rfl
theorem Ou(h:c∈gz b X):c.2<26:=(Y.vc c (Yj.mp h).1).2.2.2
omit Y in
theorem E8(h:X≠[])(e:X.length<=5):dQ (.tuple (bX X)) (.tuple [nd k])=-(.tuple (bX (X++[k]))):=by
 show(if bX X≠[]/\(bX X).length+1<=1000000 then lD (RV.fz (.tuple (bX X++[nd k])))else Vt)=_;rw[av ⟨by cases X with
  |nil=>exact a5 rfl h
  |cons x r=>simp[bX],by rw[i7];ext⟩,NU]
 rfl
def En{d:dM}{Z1:bp}(e:∃T J,Z1=d5 b s Q T J)(l:S[0]?=R (R (.rf 0)))(f:X.length<=5)(h:d S Z1=.ok (.fz (.tuple (bX X))) Z1):lU rc (ke bO 2 (aj (aY "Hand" "bed" (aw 0)) (aj d aH))) (af (de az)) S Z1=.ok (.fz (.bool (!(gz b X).isEmpty))) (Z1++[.lst (((gz b X).map eV).map .fz)]++[.lst []]):=by let(T,J,rfl):=e;show dz (xg (ds:=[bD b,.tuple (bX X)]) (ao (rG l) (ao h aN)) W (Ex Y f)) (dA (ds:=[]) (ρ':=b9 S) (uU aJ W (Wx _))) ?_;show yk (dh (jp aQ)) (dh (ds:=[]) aQ) (Rh λc j=>Ou Y j)
def P4(m:HS b p Z)(sw:SW b p.1)(L:(k:Int)<b.n)(d:FH p.1.wt k=VO):∃D,eC [.rf 0,.fz (nd k)] Z=.ok (.fz (.bool (HF b p.1 k))) D/\HS b p D:=by
 cases q:p.1.wt with
 |none=>
  let o:HF b p.1 k=VO:=by ext HF;rw[q]
  rw[o];let(T,J,j,rfl):=m;let r:jU (kY p.1.wt) .none=-(.bool P):=by rw[q];rfl
  show#[_,jg W (rd (iB (pP (bw (dz (cg W) (ah aC) (cM r)))) (iO (ah aC)))),T,J,j,W]
 |some x=>
  let(X,g,w):=x;let v:=(sw.wt X g w q).1;let F:=v.len Y;let r:jU (kY p.1.wt) .none=-(.bool VO):=by rw[q];rfl
  let E:bq (kY p.1.wt) (.int 2)=-(vT w):=by rw[q];show sF
  let e0:bq (kY p.1.wt) (.int 0)=-(.tuple (bX X)):=by rw[q];show iz
  let C:=(CO λc n h=>(v.tp c n h).1).2;cases w with
  |some N=>
   let o:HF b p.1 k=VO:=by ext HF;rw[q]
   rw[o];let(T,J,j,rfl):=m;show#[_,jg W (rd (iB (ku (bw (dz (cg W) (ah aC) (cM r))) (pP (bw (dz (cQ (cg W) (ah aC) E) (ah aC) (cM C))))) (iO (ah aC)))),T,J,j,W]
  |none=>
   let o:HF b p.1 k=(decide (sr p.1.ac p.1.oc=0)&& !(gz b (X++[k])).isEmpty):=by ext HF;rw[q]
   rw[o];let(A,I,l):=rQ m;let f:(Bt (bS (lU jU (aY "Hand" "waiting" (aw 0)) (af (pC .none)))) (Bt (bS (lU rc (gC (aY "Hand" "waiting" (aw 0)) (af (~~~2))) (af (pC (.tuple [(.str "chord")]))))) (bS (lU rc (ke eD 1 (aj (bf "Hand" "stands" bQ 1 (aw 0) aH) aH)) (af (~~~0)))))) [R (.rf 0),-(nd k)] Z=.ok (!decide (sr p.1.ac p.1.oc=0)) A:=by
    let K:bS (lU rc (ke eD 1 (aj (bf "Hand" "stands" bQ 1 (aw 0) aH) aH)) (af (~~~0))) [R (.rf 0),-(nd k)] Z=.ok (!decide (sr p.1.ac p.1.oc=0)) A:=
     bw (dz (Da (ao (cx m (by left) W aN W I) aN) W (A6 p.1)) (ah aC) (cM (xB _ _)))
    let(T,J,j,rfl):=m;show ku (bw (dz (cg W) (ah aC) (cM r))) (ku (bw (dz (cQ (cg W) (ah aC) E) (ah aC) (cM C))) K)
   by_cases B:sr p.1.ac p.1.oc=0
   .rw[aE B]at f⊢
    let(T,J,j,rfl):=l;let z:k∉X:=by rw[q]at d;show of_decide_eq_false d
    let t:(X++[k]).Nodup:=by rw[Yp];show#[v.nd,Xp.mpr #[Xi,aaY],λx u y G e=>z (by rw[<-VW.mp G,<-e];show u)]
    let H:(X++[k]).length<=5:=De t λx u=>by
     let M:=Y.n5;rcases Wr.mp u with h|h
     .let:=v.kn x h;ext
     .rw[VW.mp h];ext
    show#[_,jg W (cZ (kg f jM) (iO (En Y #[T,J,W] W H (dz (cQ (cg W) (ah aC) e0) (ah (dJ (ai (ae W) aJ) W (VJ W))) (cM (E8 v.ne F)))))),T,_,j,W]
   .rw[aP B]at f⊢;show#[A,jg W (rd (iB f (iO (ah aC)))),l]
end
section
variable{b:Bd}(Y:VB b){s:Yf}{sn:Sn}{ps:bb (Nat×Mn)}{J:bp}{ρ:bz}{i:Nat}{Z:bp}{p:Yf×Sn}{k:Nat}{a:Mn}{ks:bb Nat}{g:Int}{w:bg (Nat×Int)}
include Y
def Rt(v:WV b p.1.ac ks g w)(c:k∉ks)(m:(k:Int)<b.n):(ks++[k]).Nodup/\(ks++[k]).length<=5:=by
 let f:(ks++[k]).Nodup:=by rw[Yp];show#[v.nd,Xp.mpr #[Xi,aaY],λx j y l e=>c (by rw[<-VW.mp l,<-e];show j)]
 show#[f,De f λx j=>?_];let o:=Y.n5;rcases Wr.mp j with h|h
 .let:=v.kn x h;ext
 .rw[VW.mp h];ext
def BN(sw:SW b p.1)(m:(k:Int)<b.n)(C:p.1.ac k=U)(d:FH p.1.wt k=VO)(hm:HF b p.1 k=P):∃ks g,p.1.wt=R (ks,g,U)/\k∉ks/\WV b p.1.ac (ks++[k]) g U/\g<b.wt:=by
 unfold HF at hm;split at hm
 .rename_i ks g q
  rw[V9]at hm;let(v,o):=sw.wt ks g U q;let f:k∉ks:=by rw[q]at d;show of_decide_eq_false d
  let(l,z):=Rt Y v f m;show#[ks,g,q,f,#[by simp,l,λx e=>?_,λx e=>?_,v.g0,λc n h=>(by ext h),λ_ x e=>?_],o]
  .rcases Wr.mp e with h|h
   .show v.kn x h
   .rw[VW.mp h];show m
  .rcases Wr.mp e with h|h
   .show v.kf x h
   .rw[VW.mp h];show C
  .let j:=hm.2
   cases A:gz b (ks++[k])with
   |nil=>rw[A]at j;ext j
   |cons c r=>
    let t:c∈gz b (ks++[k]):=by rw[A];show VV
    let(y,u):=Yj.mp t;let:=Yz.mp u x e;show(Y.vc c y).2.2.1 x (a4 this)
 .ext hm
def MF(t:HS b p Z)(sw:SW b p.1)(h:p.1.wt=R (ks,g,U))(v:WV b p.1.ac (ks++[k]) g U)(j:WV b p.1.ac ks g U)(u:p.2.length<900):∃d,dS [.rf 0,.fz (nd k)] Z=.ok (.fz .none) d/\HS b (w9 b p k) d:=by
 let(ps,J,l,rfl):=t;let m:=v.len Y;let e0:bq (kY p.1.wt) (.int 0)=-(.tuple (bX ks)):=by rw[h];show iz
 let C:bq (kY p.1.wt) (.int 1)=-(.int g):=by rw[h];show jt
 let B:w9 b p k=if(gz b (ks++[k])).map (·.1.length)=[(ks++[k]).length]then d8 b ({p.1 with wt:=R (ks++[k],g,U)},p.2)else({p.1 with wt:=R (ks++[k],g,U)},p.2):=by ext w9;rw[h]
 let r:HS b ({p.1 with wt:=R (ks++[k],g,U)},p.2) (d5 b {p.1 with wt:=R (ks++[k],g,U)} p.2 ps J):=#[ps,J,l,W];let E:cD (df 0) cL (af (iC dH {aL bq (aa 0) (~~~0)})) ((gz b (ks++[k])).map eV) [U] (d5 b {p.1 with wt:=R (ks++[k],g,U)} p.2 ps (J++[.dead])) []=.ok ((bX ((gz b (ks++[k])).map (·.1.length))).map .fz) (d5 b {p.1 with wt:=R (ks++[k],g,U)} p.2 ps (J++[.dead])):=by
  show(g9 eV (λc=>.fz (nd c.1.length)) _ (λρ=>∃o,ρ=[o]) (gz b (ks++[k])) _ [] #[U,W] ?_ ?_).trans (by ext bX;rw[Wd,Wd];rfl)
  .let:=aaN (λc:G Nat×Nat=>(ks++[k]).all λk=>decide (k∈c.1)) b.cs;let:=Y.c4;show 0+(gz b (ks++[k])).length<=_;ext gz;ext
  .rintro c _ ρ ⟨o,rfl⟩;let n:bq (eV c) (.int 0)=-(.tuple (bX c.1)):=iz;show#[[-(eV c)],W,W,ah (fO (ai (aB (ae W) aC W W n) aJ) W ((ka _).trans (by rw[i7]))),_,W]
 let A:fP (ke bO 2 (aj (aY "Hand" "bed" (aw 0)) (aj (af (aa 2)) aH))) [R (.rf 0),-(nd k),-(.tuple (bX (ks++[k])))] (d5 b {p.1 with wt:=R (ks++[k],g,U)} p.2 ps J)=.ok ((gz b (ks++[k])).map eV) (d5 b {p.1 with wt:=R (ks++[k],g,U)} p.2 ps (J++[.dead])):=
  (CJ (xg (ao (rG W) (ao (ah (ae W)) aN)) W (Ex Y m)) aQ).trans (by rw[eF];rfl)
 let rt:de {iC dH {aa 2}} (b9 [R (.rf 0),-(nd k),-(.tuple (bX (ks++[k])))])=.ok (.ow (bX [(ks++[k]).length]),b9 [R (.rf 0),-(nd k),-(.tuple (bX (ks++[k])))]):=by show uU (ai (fO (ai (ae W) aJ) W ((ka _).trans (by rw[i7]))) aJ) W (VJ W)
 let f:bS (lU cT (eO 1 [] (fP (ke bO 2 (aj (aY "Hand" "bed" (aw 0)) (aj (af (aa 2)) aH)))) (df 0) cL (af (iC dH {aL bq (aa 0) (~~~0)}))) (af (de {iC dH {aa 2}}))) [R (.rf 0),-(nd k),-(.tuple (bX (ks++[k])))] (d5 b {p.1 with wt:=R (ks++[k],g,U)} p.2 ps J)=.ok (decide ((gz b (ks++[k])).map (·.1.length)=[(ks++[k]).length])) (d5 b {p.1 with wt:=R (ks++[k],g,U)} p.2 ps (J++[.dead])++[.lst ((bX ((gz b (ks++[k])).map (·.1.length))).map .fz)]++[.lst ((bX [(ks++[k]).length]).map .fz)]):=
  bw (dz (hW A E) (dA rt) (yk (dh (jp aQ)) (dh aQ) (xK _ _)))
 let e:HS b ({p.1 with wt:=R (ks++[k],g,U)},p.2) (d5 b {p.1 with wt:=R (ks++[k],g,U)} p.2 ps (J++[.dead])++[.lst ((bX ((gz b (ks++[k])).map (·.1.length))).map .fz)]++[.lst ((bX [(ks++[k]).length]).map .fz)]):=#[ps,_,l,W];generalize (d5 b {p.1 with wt:=R (ks++[k],g,U)} p.2 ps (J++[.dead])++[.lst ((bX ((gz b (ks++[k])).map (·.1.length))).map .fz)]++[.lst ((bX [(ks++[k]).length]).map .fz)]:bp)=L at f e;rw[B];show j4 W (lh (dz (cQ (cg W) (ah aC) e0) (ah (dJ (ai (ae W) aJ) W (VJ W))) (cM (E8 j.ne (j.len Y)))) W (DC (ny (R (ks++[k],g,U)) W (rq (ao (ah (ae W)) (ao (cQ (cg W) (ah aC) C) (ao (ah aC) aN))) (VJ W))) (zH f (λq=>?_) λq=>?_)))
 .rw[av (a4 q)];let(F,z,y):=nz Y e #[sw.sa.ac,sw.sa.oc] W v u;show jC (cx e (by left) W aN W z) #[W,y]
 .rw[ax (of_decide_eq_false q)];show nJ #[W,e]
def L6(sw:SW b p.1)(f:p.1.wt=R (ks,g,U))(v:WV b p.1.ac (ks++[k]) g U)(h:g<b.wt):SW b (w9 b p k).1:=by
 let j:w9 b p k=if(gz b (ks++[k])).map (·.1.length)=[(ks++[k]).length]then d8 b ({p.1 with wt:=R (ks++[k],g,U)},p.2)else({p.1 with wt:=R (ks++[k],g,U)},p.2):=by ext w9;rw[f]
 rw[j];split
 .show(kE Y (p:=({p.1 with wt:=R (ks++[k],g,U)},p.2)) #[sw.sa.ac,sw.sa.oc] λ_ _ _ e=>by ext e;show v).1
 .show#[#[sw.sa.ac,sw.sa.oc],λ_ _ _ e=>by ext e;show#[v,h]]
omit Y in
theorem Di(s:Yf)(m:Mn):(iK s m).ac=s.ac/\(iK s m).wt=s.wt:=by unfold iK;split<;>exact⟨rfl,rfl⟩
omit Y in
theorem D7{m:Mn}(h:SA b s):SA b (iK s m):=by
 unfold iK;split
 .exact h
 .exact⟨h.ac,λo e=>by cases e⟩
def Rc(E:HS b p Z)(S:SA b p.1)(hw:p.1.wt=Vt)(U:(k:Int)<b.n)(V:p.2.length<900):∃D,gH [.rf 0,.fz (nd k)] Z=.ok (.fz .none) D/\HS b (Lu b p k) D:=by
 let(Q,P):=Cq Y S;let K:=Mg Y Q P U;let(v,I):=xb Y Q P U;let(Z1,h1,N):=rQ E;let h5:=Y.n5;let eb:Lu b p k=zX b (sr p.1.ac p.1.oc) (iK p.1 (look b (sr p.1.ac p.1.oc) k),p.2) k (look b (sr p.1.ac p.1.oc) k):=W;rw[eb];let T:ke eD 1 (aj (bf "Hand" "stands" bQ 1 (aw 0) aH) aH) [lD (.rf 0),-(nd k),Vt,Vt,Vt] Z=.ok (.fz (.int (sr p.1.ac p.1.oc))) Z1:=Da (ao (cx E (by left) W aN W h1) aN) W (A6 p.1);generalize sr p.1.ac p.1.oc=L at K v I T Q P;generalize look b L k=m at K v I;let(ps,J,hp,rfl):=N;let lb:=v.lb;let c0:=pG m;let c1:=Te m;let c2:=QK m;let c3:=kz m;let c4:=LZ m;let eL:cT (.int L) (.int 0)=-(.bool (decide (L=0))):=jN _ _;let A:(aR (cS (bV (aO (aL CB (aa 4) (cz {pC (.str "layer"),pC (.str "once")})))) (fu "Hand" "once" (aw 0) (af (pC .none))) dg) dg) [lD (.rf 0),-(nd k),-(.int L),-(mD m),-(.str (wd m))] (d5 b p.1 p.2 ps J)=.ok (.nx [lD (.rf 0),-(nd k),-(.int L),-(mD m),-(.str (wd m))]) (d5 b (iK p.1 m) p.2 ps J):=by
  let t:bV (aO (aL CB (aa 4) (cz {pC (.str "layer"),pC (.str "once")}))) [lD (.rf 0),-(nd k),-(.int L),-(mD m),-(.str (wd m))] (d5 b p.1 p.2 ps J)=.ok (!(m.aev||m.isO)) (d5 b p.1 p.2 ps J):=bN (by ext:0);ext iK;cases q:(m.aev||m.isO)with
  |true=>rw[q]at t;rw[av W];show cZ (kg t jM) jM
  |false=>rw[q]at t;rw[ax VU];show cZ (iB t (E1 Vt W (ah aC))) jM
 let R:=Di p.1 m;let H:SA b (iK p.1 m):=D7 S;let j:ps.Perm (jb (iK p.1 m).ac):=by rw[R.1];show hp
 let e:HS b (iK p.1 m,p.2) (d5 b (iK p.1 m) p.2 ps J):=#[ps,J,j,W];generalize iK p.1 m=s2 at A R H j e;let O:ZC ((cS (bV (aO (aL cT (aa 4) (pC (.str "tap"))))) (fu "Hand" "waiting" (aw 0) (af (cz {cz {aa 1},~~~0,aa 3}))) (cS (pN (bV (aO (aL cT (aa 4) (pC (.str "letter"))))) (pN (bV (aO (aL cT (aa 2) (~~~0)))) (bS (lU rc (ke bO 2 (aj (aY "Hand" "bed" (aw 0)) (aj (af (cz {aa 1})) aH))) (af (de az)))))) (fu "Hand" "waiting" (aw 0) (af (cz {cz {aa 1},~~~0,pC (.tuple [(.str "chord")])}))) (cS (bV (aO (aL cT (aa 4) (pC (.str "once"))))) (aR (bT (bf "Hand" "come" bG 3 (aw 0) (aj (af (aa 1)) (aj (af (pC (.tuple [(.str "none")]))) aH))))
 (fu "Hand" "once" (aw 0) (af (aL bq (aa 3) (~~~1))))) (bT (bf "Hand" "come" bG 3 (aw 0) (aj (af (aa 1)) (aj (af (aa 3)) aH))))))) [lD (.rf 0),-(nd k),-(.int L),-(mD m),-(.str (wd m))] (d5 b s2 p.2 ps J)) (λ_ D=>SV.fz .none=.fz .none/\HS b (zX b L (s2,p.2) k m) D) (λ_ _=>False) (λr D=>r=.fz .none/\HS b (zX b L (s2,p.2) k m) D):=by
  let z:∀{Z:bp},bV (aO (aL cT (aa 4) (pC (.str "tap")))) [lD (.rf 0),-(nd k),-(.int L),-(mD m),-(.str (wd m))] Z=.ok m.isT Z:=bN (by ext:0);let C:∀{Z:bp},bV (aO (aL cT (aa 4) (pC (.str "letter")))) [lD (.rf 0),-(nd k),-(.int L),-(mD m),-(.str (wd m))] Z=.ok m.isL Z:=bN (by ext:0);let B:∀{Z:bp},bV (aO (aL cT (aa 4) (pC (.str "once")))) [lD (.rf 0),-(nd k),-(.int L),-(mD m),-(.str (wd m))] Z=.ok m.isO Z:=bN (by ext:0);let F:∀{Z:bp},bV (aO (aL cT (aa 2) (~~~0))) [lD (.rf 0),-(nd k),-(.int L),-(mD m),-(.str (wd m))] Z=.ok (decide (L=0)) Z:=bN (by ext:0);let kt:∀{Z:bp},af (cz {aa 1}) [lD (.rf 0),-(nd k),-(.int L),-(mD m),-(.str (wd m))] Z=.ok (.fz (.tuple (bX [k]))) Z:=ah (dJ (ai (ae W) aJ) W (VJ W));let cm:∀{Z:bp},HS b (s2,p.2) Z->VA b.ls.length m->∃D,bT (bf "Hand" "come" bG 3 (aw 0) (aj (af (aa 1)) (aj (af (aa 3)) aH))) [lD (.rf 0),-(nd k),-(.int L),-(mD m),-(.str (wd m))] Z=.ok (.nx [lD (.rf 0),-(nd k),-(.int L),-(mD m),-(.str (wd m))]) D/\HS b (im (s2,p.2) k m) D:=λ{Z} E va=>by let(D,u,l):=sV (k:=k) E (H.ak Y) va.lb () (show p.2.length<1000 by ext);show#[D,iY (cx E (by left) W (ao (ah (ae W)) (ao (ah (ae W)) aN)) W u),l]
  cases m with
  |below=>show a5 W I
  |tap c n=>show tZ z (qL (ny (lD ([k],0,lD (c,n))) W (ah (ρ':=b9 [lD (.rf 0),-(nd k),-(.int L),-(mD (.tap c n)),-(.str (wd (.tap c n)))]) ?_)) #[W,ps,J,j,W]);show _=Res.ok (PV.fz (.tuple [.tuple [nd k],.int 0,mD (.tap c n)]),_);ext:0
  |Wo c=>
   obtain⟨d1,d2⟩:VA b.ls.length (.Wo c)/\True:=#[v,trivial];by_cases G:L=0
   .rw[aE G]at F
    let ov:=En Y (Z1:=d5 b s2 p.2 ps J) #[ps,J,W] W (VJ W) kt;let M:HS b (s2,p.2) (d5 b s2 p.2 ps J++[.lst (((gz b [k]).map eV).map .fz)]++[.lst []]):=#[ps,_,j,W];let y:zX b L (s2,p.2) k (.Wo c)=if(!(gz b [k]).isEmpty)=Vx then({s2 with wt:=lD ([k],0,Vt)},p.2)else im (s2,p.2) k (.Wo c):=by show(if(decide (L=0)&& !(gz b [k]).isEmpty)=Vx then _ else _)=_;rw[aE G,abt]
    rw[y];show fq z (zH (kB C (kB F (bw ov))) (λq=>?_) λq=>?_)
    .rw[av q];show qL (ny (lD ([k],0,Vt)) W (ah (ρ':=b9 [lD (.rf 0),-(nd k),-(.int L),-(mD (.Wo c)),-(.str (wd (.Wo c)))]) ?_)) #[W,ps,_,j,W];show _=Res.ok (PV.fz (.tuple [.tuple [nd k],.int 0,.tuple [.str "chord"]]),_);ext:0
    .rw[ax (by rw[q];simp)];let(D,u,l):=cm M v;show fq B (qL u #[W,l])
   .rw[aP G]at F
    let y:zX b L (s2,p.2) k (.Wo c)=im (s2,p.2) k (.Wo c):=by show(if(decide (L=0)&& !(gz b [k]).isEmpty)=Vx then _ else _)=_;rw[aP G,YY,ax VU]
    rw[y];let(D,u,l):=cm e v;show fq z (fq (kB C (jc F)) (fq B (qL u #[W,l])))
  |Yq n=>let(D,u,l):=cm e v;show fq z (fq (jc C) (fq B (qL u #[W,l])))
  |none=>let(D,u,l):=cm e trivial;show fq z (fq (jc C) (fq B (qL u #[W,l])))
  |once n=>let(D,u,l):=sV (k:=k) (a:=.none) e (H.ak Y) trivial () (show p.2.length<1000 by ext);let i1:bq (mD (.once n)) (.int 1)=-(.int n):=jt;let(qs,J2,hq,rfl):=l;show fq z (fq (jc C) (tZ B (DC (iY (cx e (by left) W (ao (ah (ae W)) (ao (ah aC) aN)) W u)) (qL (E1 (lD n) W (ah (ρ':=b9 [lD (.rf 0),-(nd k),-(.int L),-(mD (.once n)),-(.str (wd (.once n)))]) ?_)) #[W,qs,J2,hq,W]))));show _=Res.ok (PV.fz (.int n),_);show aB (rv:=.fz (.int n)) (ae W) aC W W i1
 show j4 (ρ:=[lD (.rf 0),-(nd k),Vt,Vt,Vt]) W (lh T W (lh (Da (ds:=[bD b,.int L,nd k]) (ao (rG W) (ao (ah (ae W)) (ao (ah (ae W)) aN))) W K) W (lh (ah (d:=.str (wd m)) (ρ':=b9 [lD (.rf 0),-(nd k),-(.int L),-(mD m),Vt]) (aB (rv:=.fz (.str (wd m))) (ae W) aC W W c0)) W ?_)));show .eq ?_ O;let X:∀{f g:fF} {ρ:bz} {Z D:bp},aR f dg ρ Z=.ok (.nx ρ) D->aR f g ρ Z=g ρ D:=λ{f g ρ Z D} h=>by
  unfold aR at h⊢;cases q:f ρ Z with
  |bad=>rw[q]at h;ext h
  |er x o=>rw[q]at h;ext h
  |ok fl o=>
   rw[q]at h;cases fl with
   |nx r=>ext h;rfl
   |_=>ext h
 show X A
end
section
variable{b:Bd}(Y:VB b){s:Yf}{sn:Sn}{ps:bb (Nat×Mn)}{J:bp}{ρ:bz}{i:Nat}{Z:bp}{p:Yf×Sn}{k:Nat}{a:Mn}{X:bb Nat}{g:Int}{w:bg (Nat×Int)}
include Y
omit Y in
theorem Ey(h:SA b s)(f:s.wt=Vt):SW b s:=⟨h,λ_ _ _ e=>by rw[f]at e;cases e⟩
def QF(A:SA b p.1)(M:p.1.wt=U)(y:(k:Int)<b.n)(d:p.1.ac k=U):SW b (Lu b p k).1:=by
 let(H,G):=Cq Y A;let(f,v):=xb Y H G y;let O:Lu b p k=zX b (sr p.1.ac p.1.oc) (iK p.1 (look b (sr p.1.ac p.1.oc) k),p.2) k (look b (sr p.1.ac p.1.oc) k):=W;rw[O];generalize sr p.1.ac p.1.oc=L at f v H G;generalize look b L k=m at f v;let z:=Di p.1 m;let l:SA b (iK p.1 m):=D7 A;let j:=z.2.trans M;let u:(iK p.1 m).ac k=U:=by rw[z.1];show d
 generalize iK p.1 m=s2 at l j u;let S:=Y.w1;let C:[k].Nodup:=Xp.mpr #[Xi,aaY];let E:∀x∈[k],(x:Int)<b.n:=λx t=>by rw[VW.mp t];show y
 let F:∀x∈[k],s2.ac x=U:=λx t=>by rw[VW.mp t];show u
 let cm:∀m,VA b.ls.length m->SW b (im (s2,p.2) k m).1:=λm I=>Ey (l.cm y I) j;cases m with
 |below=>show a5 W v
 |tap c n=>show#[#[l.ac,l.oc],λ_ _ _ e=>?_];ext e;show#[#[by simp,C,E,F,aae _,λR K e=>by ext e;show#[f.1,f.2,W],λe=>by ext e],by ext]
 |Wo c=>
  show SW b (if(decide (L=0)&& !(gz b [k]).isEmpty)=Vx then({s2 with wt:=lD ([k],0,U)},p.2)else im (s2,p.2) k (.Wo c)).1;split
  .rename_i q
   show#[#[l.ac,l.oc],λ_ _ _ e=>?_];ext e;show#[#[by simp,C,E,F,aae _,λR K e=>(by ext e),λ_ x t=>?_],by ext];let B:=(V9 _ _▸q:_/\_).2;cases T:gz b [k]with
   |nil=>rw[T]at B;ext B
   |cons c r=>
    let N:c∈gz b [k]:=by rw[T];show VV
    let(Q,P):=Yj.mp N;show(Y.vc c Q).2.2.1 x (a4 (Yz.mp P x t))
  .show cm _ f
 |Yq n=>show cm _ f
 |none=>show cm _ trivial
 |once n=>let h:=cm .none trivial;show#[#[h.sa.ac,λo e=>by ext e;show f],λX g w e=>by let e:s2.wt=lD (X,g,w):=e;rw[j]at e;ext e]
theorem SW.wd(h:SW b s):WD b s:=λX g w e=>(h.wt X g w e).1
omit Y in
theorem BM(e:bb (Nat×Mn)):∀{p:Yf×Sn},p.1.ac k=Vt->k∉e.map (·.1)->(lP p e).1.ac k=Vt:=by
 induction e with
 |nil=>exact λh _=>h
 |cons q r f=>intro p h hn;rw[V1,Wa,not_or]at hn;exact f (p:=im p q.1 q.2) ((iM hn.1).trans h) hn.2
omit Y in
theorem BR(ha:p.1.ac k=Vt)(hn:FH p.1.wt k=VO):(d8 b p).1.ac k=Vt:=by
 unfold d8;split
 .exact ha
 .rename_i X g w q;refine BM _ (p:=({p.1 with wt:=Vt},p.2)) ha λz=>?_;rw[q]at hn;obtain⟨x,e,rfl⟩:=Wh.mp z;exact of_decide_eq_false hn (Zq e).1
def Kq(sw:SW b p.1)(e:(k:Int)<b.n):SW b (pQ b p k).1:=by
 ext pQ;split
 .show sw
 .rename_i q
  rw[Zr,not_or]at q;let o:p.1.ac k=U:=by
   cases z:p.1.ac k with
   |none=>rfl
   |some x=>rw[z]at q;show a5 W q.1
  let n:FH p.1.wt k=VO:=by
   cases z:FH p.1.wt k with
   |false=>rfl
   |true=>show a5 z q.2
  split
  .rename_i f;let(X,g,l,m,j,h):=BN Y sw e o n f;show L6 Y sw l j h
  .let d:=kE Y sw.sa (SW.wd Y sw);show QF Y d.1.sa d.2.1 e (BR o n)
def JA(h:HS b p Z)(sw:SW b p.1)(A:(k:Int)<b.n)(P:p.2.length<800):∃c,iV [.rf 0,.fz (nd k)] Z=.ok (.fz .none) c/\HS b (pQ b p k) c:=by
 let Q:=Y.n5;let y:k<5:=by ext
 let N:Bt (bS (Az VO (af (aa 1)) (aY "Hand" "acts" (aw 0)))) (bS (bf "Hand" "is_waiting" cA 2 (aw 0) (aj (af (aa 1)) aH))) [lD (.rf 0),-(nd k)] Z=.ok ((p.1.ac k).isSome||FH p.1.wt k) Z:=by
  let H:=cx (ρ:=[lD (.rf 0),-(nd k)]) (i:=0) (m:= "is_waiting") (fa:=aj (af (aa 1)) aH) h (by left) W (ao (ah (ae W)) aN) W (Jd h);let(ps,J,v,rfl):=h
  let t:Az VO (af (aa 1)) (aY "Hand" "acts" (aw 0)) [lD (.rf 0),-(nd k)] (d5 b p.1 p.2 ps J)=.ok (.fz (.bool (p.1.ac k).isSome)) (d5 b p.1 p.2 ps J):=
   (BK (ah (ae W)) (iX W) W W).trans (by rw[show kN (ps.map lZ) (.inl (k:Int))=_ from qu v y];cases p.1.ac k<;>rfl)
  cases q:(p.1.ac k).isSome with
  |true=>rw[q]at t;rw[Y1];show pP (bw t)
  |false=>rw[q]at t;rw[aad];show ku (bw t) (bw H)
 show j4 W (Bc N (λq=>?_) λq=>qO ?_)
 .ext pQ;rw[av q];show xT #[W,h]
 rw[aej]at q;let ha:p.1.ac k=U:=by
  cases z:p.1.ac k with
  |none=>rfl
  |some x=>rw[z]at q;show a5 q.1 (by simp)
 let K:pQ b p k=if HF b p.1 k=Vx then w9 b p k else Lu b (d8 b p) k:=by ext pQ;rw[ax (by rw[q.1,q.2];simp)]
 rw[K];let(O,G,e):=P4 Y h sw A q.2;show Bc (bw (cx h (by left) W (ao (ah (ae W)) aN) W G)) (λo=>?_) λo=>qO ?_
 .rw[av o];let(X,g,j,S,M,R):=BN Y sw A ha q.2 o;let(l,B,f):=MF Y e sw j M (sw.wt _ _ _ j).1 ();show QY (nk (cx e (by left) W (ao (ah (ae W)) aN) W B) (xT #[W,f]))
 .rw[ax (by rw[o];simp)]
  let d:=kE Y sw.sa (SW.wd Y sw);let E:∀l,HS b (d8 b p) l->ZC (bT (bf "Hand" "begin" gH 2 (aw 0) (aj (af (aa 1)) aH)) [lD (.rf 0),-(nd k)] l) (λ_ c=>SV.fz .none=.fz .none/\HS b (Lu b (d8 b p) k) c) (λ_ _=>False) (λr c=>r=.fz .none/\HS b (Lu b (d8 b p) k) c):=λl f=>by let(T,I,u):=Rc Y f d.1.sa d.2.1 A (by let:=d.2.2.1;ext);show jC (cx f (by left) W (ao (ah (ae W)) aN) W I) #[W,u]
  cases n:p.1.wt with
  |none=>
   let L:d8 b p=p:=by ext d8;rw[n]
   let j:oa (kY p.1.wt) .none=-(.bool VO):=by rw[n];rfl
   let C:=E O (by rw[L];show e);let(ps,J,v,rfl):=e;show tK (bw (dz (cg W) (ah aC) (cM j))) (qO C)
  |some x=>
   let(X,g,w):=x;let j:oa (kY p.1.wt) .none=-(.bool Vx):=by rw[n];rfl
   let(l,B,f):=nz Y e sw.sa n (sw.wt _ _ _ n).1 ();let F:=cx (ρ:=[lD (.rf 0),-(nd k)]) (i:=0) (m:= "decide") e (by left) W aN W B;let(ps,J,v,rfl):=e;show yK (bw (dz (cg W) (ah aC) (cM j))) (nk F (E l f))
def rH(sw:SW b p.1)(e:FH p.1.wt k=P):SW b (eA b p k).1/\(eA b p k).2.length<=p.2.length+5:=by
 ext eA;split
 .let d:=kE Y sw.sa (SW.wd Y sw);show#[d.1,d.2.2.1]
 .rename_i X g c n q;let v:=(sw.wt _ _ _ q).1;rw[q]at e;let f:=v.kn k (a4 e);let h:=(v.tp c n W).1;show#[Ey (SA.cm #[sw.sa.ac,sw.sa.oc] f h) W,?_];let:=tI (p:=({p.1 with wt:=U},p.2)) (k:=k) (a:=.Wo c);let:(im ({p.1 with wt:=U},p.2) k (.Wo c)).2.length<=p.2.length+1:=this;ext
 .show#[sw,afV _ _]
def km(l:HS b p Z)(sw:SW b p.1)(j:FH p.1.wt k=P)(H:p.2.length<800):∃d,ic [.rf 0,.fz (nd k)] Z=.ok (.fz .none) d/\HS b (eA b p k) d:=by
 let K:=Y.n5;cases q:p.1.wt with
 |none=>rw[q]at j;ext j
 |some x=>
  let(X,g,w):=x;let v:=(sw.wt _ _ _ q).1;let o:k∈X:=by rw[q]at j;show a4 j
  let z:bq (kY p.1.wt) (.int 2)=-(vT w):=by rw[q];show sF
  let E:=(CO λc n h=>(v.tp c n h).1).1;let u:∀{Z:bp},bV (aO (aL cT (aa 2) (pC (.tuple [.str "chord"])))) [R (.rf 0),-(nd k),-(vT w)] Z=.ok w.isNone Z:=bN (bE (aB (ae W) aC W W E) W);cases w with
  |none=>
   let t:eA b p k=d8 b p:=by ext eA;rw[q]
   rw[t];let(G,r,e):=nz Y l sw.sa q v ();let A:=cx (ρ:=[R (.rf 0),-(nd k),-(vT U)]) (i:=0) (m:= "decide") l (by left) W aN W r;let(ps,J,y,rfl):=l;show j4 W (lh (cQ (cg W) (ah aC) z) W (tZ u (jC A #[W,e])))
  |some F=>
   let(c,n):=F;let t:eA b p k=im ({p.1 with wt:=U},p.2) k (.Wo c):=by ext eA;rw[q]
   rw[t];let C:=(v.tp c n W).1;let I:=v.kn k o;let(ps,J,y,rfl):=l;let f:HS b ({p.1 with wt:=U},p.2) (d5 b {p.1 with wt:=U} p.2 ps J):=#[ps,J,y,W];let(G,r,e):=sV (k:=k) (a:=.Wo c) f (SA.ak Y #[sw.sa.ac,sw.sa.oc]) C () (show p.2.length<1000 by ext);let B:bq (vT (R (c,n))) (.int 1)=-(.str (kH c)):=jt;show j4 W (lh (cQ (cg W) (ah aC) z) W (fq u (DC (ny U W (ah aC)) (jC (cx f (by left) W (ao (ah (ae W)) (ao (ah (dJ (ai aC (ai (aB (ae W) aC W W B) aJ)) W (VJ W))) aN)) W r) #[W,e]))))
omit Y in
theorem Pz(sw:SW b p.1):SW b (go p k).1:=by
 refine⟨sw.sa.gg,?_⟩;unfold go;split
 .intro X g w e;obtain⟨v,h⟩:=sw.wt X g w e;exact⟨⟨v.ne,v.nd,v.kn,λx f=>by
   by_cases z:x=k
   .rw[z];exact gb
   .exact(iM z).trans (v.kf x f),v.g0,v.tp,v.ch⟩,h⟩
 .exact sw.wt
def N4(sw:SW b p.1):SW b (zE b p k).1:=by
 ext zE;split
 .rename_i q;show Pz (rH Y sw q).1
 .show Pz sw
def NV(e:HS b p Z)(sw:SW b p.1)(B:(k:Int)<b.n)(u:p.2.length<700):∃c,jL [.rf 0,.fz (nd k)] Z=.ok (.fz .none) c/\HS b (zE b p k) c:=by
 let C:=Y.n5;let h:k<5:=by ext
 let f:∀{p:Yf×Sn} {Z:bp},HS b p Z->SW b p.1->p.2.length<800->ZC (cS (bS (Az VO (af (aa 1)) (aY "Hand" "acts" (aw 0)))) (bT (bf "Hand" "go" ki 2 (aw 0) (aj (af (aa 1)) aH))) dg [R (.rf 0),-(nd k)] Z) (λ_ c=>SV.fz .none=.fz .none/\HS b (go p k) c) (λ_ _=>False) (λr c=>r=.fz .none/\HS b (go p k) c):=λ{p Z} e sw u=>by
  cases n:p.1.ac k with
  |none=>
   let A:go p k=p:=by ext go;rw[n]
   rw[A];let(ps,J,j,rfl):=e;show fq (bw ((BK (ah (ae W)) (iX W) W W).trans (by rw[show kN (ps.map lZ) (.inl (k:Int))=_ from qu j h,n];rfl))) (nJ #[W,ps,J,j,W])
  |some a=>let(E,v,l):=Tr e (sw.sa.ak Y) n ();let t:=cx (ρ:=[R (.rf 0),-(nd k)]) (i:=0) (m:= "go") (fa:=aj (af (aa 1)) aH) e (by left) W (ao (ah (ae W)) aN) W v;let(ps,J,j,rfl):=e;show tZ (bw ((BK (ah (ae W)) (iX W) W W).trans (by rw[show kN (ps.map lZ) (.inl (k:Int))=_ from qu j h,n];rfl))) (jC t #[W,l])
 show j4 W (Bc (bw (cx e (by left) W (ao (ah (ae W)) aN) W (Jd e))) (λq=>?_) λq=>?_)
 .ext zE;rw[av q];let(F,y,o):=km Y e sw q ();let z:=rH Y sw q;show nk (cx e (by left) W (ao (ah (ae W)) aN) W y) (f o z.1 ())
 .ext zE;rw[ax (by rw[q];simp)];show qO (f e sw ())
def L5(sw:SW b p.1):SW b (oA b p).1:=by
 ext oA;split
 .show sw
 .rename_i X g w q
  let(v,j):=sw.wt X g w q;let f:WV b p.1.ac X (g+1) w:=#[v.ne,v.nd,v.kn,v.kf,by let:=v.g0;ext,v.tp,v.ch];split
  .show(kE Y (p:=({p.1 with wt:=R (X,g+1,w)},p.2)) #[sw.sa.ac,sw.sa.oc] λ_ _ _ e=>by ext e;show f).1
  .rename_i h;show#[#[sw.sa.ac,sw.sa.oc],λ_ _ _ e=>by ext e;show#[f,by ext]]
def LR(n:HS b p Z)(sw:SW b p.1)(y:p.2.length<800):∃c,gJ [.rf 0] Z=.ok (.fz .none) c/\HS b (oA b p) c:=by
 let(ps,J,l,rfl):=n;cases q:p.1.wt with
 |none=>
  let h:oA b p=p:=by ext oA;rw[q]
  rw[h];let j:jU (kY p.1.wt) .none=-(.bool P):=by rw[q];rfl
  show j4 W (yK (bw (dz (cg W) (ah aC) (cM j))) (xT #[W,ps,J,l,W]))
 |some x=>
  let(X,g,w):=x;let v:=(sw.wt _ _ _ q).1;let m:WV b p.1.ac X (g+1) w:=#[v.ne,v.nd,v.kn,v.kf,by let:=v.g0;ext,v.tp,v.ch];let h:oA b p=if g+1=b.wt then d8 b ({p.1 with wt:=R (X,g+1,w)},p.2)else({p.1 with wt:=R (X,g+1,w)},p.2):=by ext oA;rw[q]
  rw[h];let j:jU (kY p.1.wt) .none=-(.bool VO):=by rw[q];rfl
  let e0:bq (kY p.1.wt) (.int 0)=-(.tuple (bX X)):=by rw[q];show iz
  let u:bq (kY p.1.wt) (.int 2)=-(vT w):=by rw[q];show sF
  let t:bq (kY p.1.wt) (.int 1)=-(.int g):=by rw[q];show jt
  let r:bq (bD b) (.int 3)=-(.int b.wt):=JT W;let e:HS b ({p.1 with wt:=R (X,g+1,w)},p.2) (d5 b {p.1 with wt:=R (X,g+1,w)} p.2 ps J):=#[ps,J,l,W];show j4 W (tK (bw (dz (cg W) (ah aC) (cM j))) (qO (lh (dz (cQ (cg W) (ah aC) t) (ah aC) (cM (hG _ _))) W (DC (ny (R (X,g+1,w)) W (rq (ao (cQ (cg W) (ah aC) e0) (ao (ah (ae W)) (ao (cQ (cg W) (ah aC) u) aN))) (VJ W))) (zH (bw (dz (ah (ae W)) (cQ (rG W) (ah aC) r) (cM (jN _ _)))) (λz=>?_) λz=>?_)))))
  .rw[av (a4 z)];let(A,o,f):=nz Y e #[sw.sa.ac,sw.sa.oc] W m (show p.2.length<900 by ext);show jC (cx e (by left) W aN W o) #[W,f]
  .rw[ax (of_decide_eq_false z)];show nJ #[W,e]
def YU.afa:YU->Bool
 |.turn=>P
 |_=>VO
def YU.isDown:YU->Bool
 |.down _=>P
 |_=>VO
def EV(b:Bd):YU->Prop
 |.down k=>(k:Int)<b.n
 |.up k=>(k:Int)<b.n
 |.turn=>True
def ja(sw:SW b s)(f:EV b e):SW b (aG b s e).1:=by
 cases e with
 |down k=>show Kq Y sw f
 |up k=>show N4 Y sw
 |turn=>show L5 Y sw
omit Y in
theorem wT:∀l:bb (Nat×Mn),aV vq (l.map pD)=lD (l.map lZ)
 |[]=>rfl
 |q::r=>by rw[V1];unfold aV;rw[wT r];rfl
omit Y in
theorem zg:∀(l f:bb (Nat×Mn)),((f++l).map (·.1)).Nodup->pp (f.map lZ) (l.map lZ)=(f++l).map lZ
 |[],f,_=>by rw[Wi];rfl
 |q::r,f,h=>by
  have hn:∀x∈f,x.1≠q.1:=λx j e=>by rw[V4,Yp]at h;exact h.2.2 _ (Wh.mpr ⟨x,j,rfl⟩) q.1 VV e
  have t:lR (f.map lZ) (lZ q).1 (lZ q).2=(f++[q]).map lZ:=by
   unfold lR;rw[ax ?_,V4]
   .rfl
   .intro z;obtain⟨u,o,n⟩:=ab9.mp z;obtain⟨x,m,rfl⟩:=Wh.mp o;have:=Sum.inl.inj (a4 n);exact hn x m (by ext)
  show pp (lR (f.map lZ) (lZ q).1 (lZ q).2) (r.map lZ)=_;rw[t,zg r (f++[q]) (by rw[V6];exact h),V6];rfl
omit Y in
theorem LA:eK [.rf 0,.fz (bD b),.fz (cO s)] [.obj "Hand" []]=.ok (.fz .none) (d5 b s [] (jb s.ac) []):=by
 have e0:bq (cO s) (.int 0)=-(.tuple ((jb s.ac).map pD)):=iz;have y:bq (cO s) (.int 1)=-(kY s.wt):=jt;have v:bq (cO s) (.int 2)=-(vH s.oc):=sF;have z:eY "bed" (.fz (bD b)) []=([("bed",.fz (bD b))]:bb (Str×SV)):=rfl;have q:eY "acts" (.rf 1) ([("bed",.fz (bD b))]:bb (Str×SV))=([("bed",.fz (bD b)),("acts",.rf 1)]:bb (Str×SV)):=by unfold eY;rw[ax (by left)];rfl
 have o:eY "waiting" (.fz (kY s.wt)) ([("bed",.fz (bD b)),("acts",.rf 1)]:bb (Str×SV))=([("bed",.fz (bD b)),("acts",.rf 1),("waiting",.fz (kY s.wt))]:bb (Str×SV)):=by unfold eY;rw[ax (by left)];unfold eY;rw[ax (by left)];rfl
 have n:eY "once" (.fz (vH s.oc)) ([("bed",.fz (bD b)),("acts",.rf 1),("waiting",.fz (kY s.wt))]:bb (Str×SV))=([("bed",.fz (bD b)),("acts",.rf 1),("waiting",.fz (kY s.wt)),("once",.fz (vH s.oc))]:bb (Str×SV)):=by unfold eY;rw[ax (by left)];unfold eY;rw[ax (by left)];unfold eY;rw[ax (by left)];rfl
 have m:eY "sent" (.rf 2) ([("bed",.fz (bD b)),("acts",.rf 1),("waiting",.fz (kY s.wt)),("once",.fz (vH s.oc))]:bb (Str×SV))=wO b s:=by unfold eY;rw[ax (by left)];unfold eY;rw[ax (by left)];unfold eY;rw[ax (by left)];unfold eY;rw[ax (by left)];rfl
 have r:pp [] ((jb s.ac).map lZ)=(jb s.ac).map lZ:=zg (jb s.ac) [] (tV s.ac);have e:∀{x:SV} {ρ:bz} {fs:bb (Str×SV)} {Z:bp} {j:dM} {f:Str} {c:Cell} {l:bp},ρ[0]?=lD (lD (.rf 0))->j ρ Z=.ok x (.obj "Hand" fs::l)->fs.length<100->fu "Hand" f (aw 0) j ρ Z=.ok (.nx ρ) (.obj "Hand" (eY f x fs)::l):=λh u t=>(kT u (bh h) rfl t).trans rfl
 have ha:AY (af (aL bq (aa 2) (~~~0))) [lD (.rf 0),-(bD b),-(cO s)] [.obj "Hand" ([("bed",.fz (bD b))]:bb (Str×SV))]=.ok (.rf 1) [.obj "Hand" ([("bed",.fz (bD b))]:bb (Str×SV)),.dct ((jb s.ac).map lZ)]:=
  (MW (ah (d:=.tuple ((jb s.ac).map pD)) (aB (rv:=.fz (.tuple ((jb s.ac).map pD))) (ae rfl) aC rfl rfl e0)) (wT _)).trans (by rw[r];rfl)
 refine qN (ρ:=[lD (.rf 0),-(bD b),-(cO s)]) (ρ1:=[lD (.rf 0),-(bD b),-(cO s)]) rfl (cZ (e rfl (c:=.dead) (ah (d:=bD b) (ae rfl)) (VJ rfl)) (cZ (e rfl (c:=.dead) ha (VJ rfl)) (cZ (e rfl (c:=.dead) (ah (d:=kY s.wt) (aB (rv:=.fz (kY s.wt)) (ae rfl) aC rfl rfl y)) (VJ rfl)) (cZ (e rfl (c:=.dead) (ah (d:=vH s.oc) (aB (rv:=.fz (vH s.oc)) (ae rfl) aC rfl rfl v)) (VJ rfl)) ?_))));rw[q,o,n];refine(e (fs:=([("bed",.fz (bD b)),("acts",.rf 1),("waiting",.fz (kY s.wt)),("once",.fz (vH s.oc))]:bb (Str×SV))) rfl (c:=.dead) (dA (ds:=[]) (uU aJ rfl (Wx _))) (VJ rfl)).trans ?_;show RS.ok _ (Cell.obj "Hand" (eY "sent" (.rf 2) ([("bed",.fz (bD b)),("acts",.rf 1),("waiting",.fz (kY s.wt)),("once",.fz (vH s.oc))]:bb (Str×SV)))::_)=_;rw[m];rfl
omit Y in
theorem Mm(e:YU):∃x:Str,bq (eS e) (.int 0)=-(.str x)/\cT (.str x) (.str "turn")=-(.bool (e.afa))/\cT (.str x) (.str "down")=-(.bool (e.isDown)):=by
 have h:VD.strOk "down"=Vx:=by left
 have j:VD.strOk "up"=Vx:=by left
 have f:VD.strOk "turn"=Vx:=by left
 cases e with
 |down k=>exact⟨"down",iz,DA h f (by left),Pr h⟩
 |up k=>exact⟨"up",iz,DA j f (by left),DA j h (by left)⟩
 |turn=>exact⟨"turn",iz,Pr f,DA f h (by left)⟩
def Mv(sw:SW b s)(v:EV b e):∃c,iQ [.fz (bD b),.fz (cO s),.fz (eS e)] []=.ok (.tp [.rf 2,.fz (cO (aG b s e).1)]) c/\sh c (.rf 2)=R (.list ((aG b s e).2.map gX)):=by
 let h:HS b (s,[]) (d5 b s [] (jb s.ac) []):=#[jb s.ac,[],.refl _,W];let(x,t,z,y):=Mm e;let n:∀{Z:bp},bV (aO (aL cT (aL bq (aa 2) (~~~0)) (pC (.str "turn")))) [-(bD b),-(cO s),-(eS e),R (.rf 0)] Z=.ok (e.afa) Z:=bN (bE (aB (aB (ae W) aC W W t) aC W W z) W);let u:∀{Z:bp},bV (aO (aL cT (aL bq (aa 2) (~~~0)) (pC (.str "down")))) [-(bD b),-(cO s),-(eS e),R (.rf 0)] Z=.ok (e.isDown) Z:=bN (bE (aB (aB (ae W) aC W W t) aC W W y) W);let l:∀{Z:bp},HS b (aG b s e) Z->ZC (gQ (lV (aj (aY "Hand" "sent" (aw 3)) (aj (bf "Hand" "stands" bQ 1 (aw 3) aH) aH))) [-(bD b),-(cO s),-(eS e),R (.rf 0)] Z) (λ_ c=>SV.fz .none=.tp [.rf 2,.fz (cO (aG b s e).1)]/\sh c (.rf 2)=R (.list ((aG b s e).2.map gX))) (λ_ _=>False) (λr c=>r=.tp [.rf 2,.fz (cO (aG b s e).1)]/\sh c (.rf 2)=R (.list ((aG b s e).2.map gX))):=λ{Z} L=>by let(q,j,f):=rQ L;let m:=cx (ρ:=[-(bD b),-(cO s),-(eS e),R (.rf 0)]) (i:=3) (m:= "stands") L (by left) W aN W j;let(ps,J,E,rfl):=L;let(B,F,C,rfl):=f;show RU (DG (ao (wZ W) (ao m aN)) (VJ W) W W) #[W,dh W]
 let A:wN "Hand" eK 3 (aj (af (aa 0)) (aj (af (aa 1)) aH)) [-(bD b),-(cO s),-(eS e),U] []=.ok (.rf 0) (d5 b s [] (jb s.ac) []):=Rr (ao (ah (ae W)) (ao (ah (ae W)) aN)) W LA;show j4 W (lh A W ?_);cases e with
 |turn=>let(q,j,f):=LR Y h sw (show 0<800 by decide);show yK n (nk (cx h (by left) W aN W j) (l f))
 |down k=>let(q,j,f):=JA Y h sw v (show 0<800 by decide);let o:bq (eS (.down k)) (.int 1)=-(nd k):=jt;show tK n (yK u (nk (cx h (by left) W (ao (ah (aB (ae W) aC W W o)) aN) W j) (l f)))
 |up k=>let(q,j,f):=NV Y h sw v (show 0<700 by decide);let o:bq (eS (.up k)) (.int 1)=-(nd k):=jt;show tK n (tK u (nk (cx h (by left) W (ao (ah (aB (ae W) aC W W o)) aN) W j) (l f)))
def OM{e:YU}(sw:SW b s)(j:EV b e):uY iQ 3 [.fz (bD b),.fz (cO s),.fz (eS e)] Z=.ok (.tp [.rf Z.length,.fz (cO (aG b s e).1)]) (Z++[.lst (((aG b s e).2.map gX).map .fz)]):=by
 let(f,m,l):=Mv Y sw j;ext uY;rw[av (show([.fz (bD b),.fz (cO s),.fz (eS e)]:G SV).length=3 from rfl),show aV Au [.fz (bD b),.fz (cO s),.fz (eS e)]=R [bD b,cO s,eS e]from rfl];dsimp only;rw[show[bD b,cO s,eS e].map SV.fz=[.fz (bD b),.fz (cO s),.fz (eS e)]from rfl,m];show(match G2 f Z.length [.rf 2,.fz (cO (aG b s e).1)]with
  |some (n,cs,o)=>if o.Nodup then RS.ok (SV.tp n) (Z++cs.map Ui)else .bad
  |none=>.bad)=_
 let h:G2 f Z.length [.rf 2,.fz (cO (aG b s e).1)]=R ([.rf Z.length,.fz (cO (aG b s e).1)],[(aG b s e).2.map gX],[2]):=by ext G2;rw[l];rfl
 rw[h];dsimp only;rw[av ()];rfl
end
def xo:Yf:=#[λ_=>U,U,U]
theorem lw(b:Bd):SW b xo:=#[#[λk a e=>(by ext e),λo e=>(by ext e)],λf g w e=>(by ext e)]
theorem ES{α:Type}{f:α->D}:∀{l:G α},(∀a∈l,VD.canLay0 (f a)=P)->VD.canLayAll0 (l.map f)=P
 |[],_=>rfl
 |a::r,h=>by show(VD.canLay0 (f a)&&VD.canLayAll0 (r.map f))=P;rw[h a VV,ES λx b=>h x (VX _ b)];rfl
theorem k7{α:Type}{f:α->D}{n:Nat}:∀{l:G α},(∀a∈l,VD.depth (f a)<=n)->VD.depthAll (l.map f)<=n
 |[],_=>Wx _
 |a::r,h=>akF.mpr #[h a VV,k7 λx b=>h x (VX _ b)]
def Dp{d:D}(b:VD.canLay0 d=P)(a:VD.depth d<=64):l7 d=P:=by ext l7;rw[b,aE a];rfl
def rC{d:D}(h:l7 d=P):VD.canLay0 d=P:=by unfold l7 at h;show(V9 _ _▸h:_/\_).1
def yd{d:D}(h:l7 d=P):rc d d=-(.bool VO):=by ext rc;rw[h,rC h,Xy,av W,Yi d (rC h)];rfl
def Ed{d:D}(h:l7 d=P):cT d d=-(.bool P):=by ext cT;rw[h,rC h,Xy,av W,Yi d (rC h)]
def Zp(sn:Sn):Prop:=∀q∈sn,q.1<26
def ME{q:Nat×Bool}(h:q.1<26):VD.canLay0 (gX q)=P:=by show(VD.strOk (kH q.1)&&(VD.strOk (if q.2=P then "down" else "up")&&P))=P;rw[mf h];cases q.2<;>left
theorem Eu(q:Nat×Bool):VD.depth (gX q)<=1:=VJ W
def CP{sn:Sn}(h:Zp sn):l7 (.list (sn.map gX))=P:=by show Dp (ES λq a=>ME (h q a)) ?_;show VD.depthAll (sn.map gX)+1<=64;let:=k7 (f:=gX) (l:=sn) λq _=>Eu q;ext
section
variable{b:Bd}(Z:VB b){s:Yf}{p:Yf×Sn}{k:Nat}{a:Mn}
theorem Zp.app{x y:Sn}(f:Zp x)(e:Zp y):Zp (x++y):=λq g=>(Wr.mp g).elim (f q) (e q)
def nO(h:Zp p.2)(d:LB a):Zp (im p k a).2:=by
 show h.app λq e=>?_;cases a with
 |Wo c=>
  let e:q∈(if pU p.1.ac (.Wo c)=P then[]else[(c,P)]:Sn):=e;split at e
  .ext e
  .rw[VW.mp e];show d
 |_=>ext e
def KK(e:G (Nat×Mn)):∀{p:Yf×Sn},Zp p.2->(∀q∈e,LB q.2)->Zp (lP p e).2:=by
 induction e with
 |nil=>show λh _=>h
 |cons q r g=>show λh f=>g (nO h (f q VV)) λx i=>f x (VX _ i)
def OG(h:Zp p.2)(d:SA b p.1):Zp (go p k).2:=by
 ext go;split
 .rename_i a q
  let lb:=(d.ac k a q).2.lb;show h.app λx e=>?_;cases a with
  |Wo c=>
   let e:x∈(if pU (oy p.1.ac k U) (.Wo c)=P then[]else[(c,VO)]:Sn):=e;split at e
   .ext e
   .rw[VW.mp e];show lb
  |_=>ext e
 .show h
include Z
def qH(h:Zp p.2)(i:WD b p.1):Zp (d8 b p).2:=by
 ext d8;split
 .show h
 .rename_i e g w q;show KK _ (p:=({p.1 with wt:=U},p.2)) h λx f=>(yD Z (i e g w q) x f).2.lb
def P1(h:Zp p.2)(g:SA b p.1)(i:(k:Int)<b.n):Zp (Lu b p k).2:=by
 let(o,l):=Cq Z g;let(e,f):=xb Z (k:=k) o l i;let j:Lu b p k=zX b (sr p.1.ac p.1.oc) (iK p.1 (look b (sr p.1.ac p.1.oc) k),p.2) k (look b (sr p.1.ac p.1.oc) k):=W;rw[j];generalize look b (sr p.1.ac p.1.oc) k=m at e f;generalize sr p.1.ac p.1.oc=L at e;let lb:=e.lb;cases m with
 |tap c n=>show h
 |Wo c=>
  show Zp (if(decide (L=0)&& !(gz b [k]).isEmpty)=P then({iK p.1 (.Wo c)with wt:=R ([k],0,U)},p.2)else im (iK p.1 (.Wo c),p.2) k (.Wo c)).2;split
  .show h
  .show nO (p:=(iK p.1 (.Wo c),p.2)) h lb
 |Yq n=>show nO (p:=(iK p.1 (.Yq n),p.2)) h lb
 |once n=>show nO (p:=(iK p.1 (.once n),p.2)) (k:=k) (a:=.none) h trivial
 |none=>show nO (p:=(iK p.1 .none,p.2)) h lb
 |below=>show a5 W f
def yI{e:YU}(sw:SW b s)(j:EV b e):Zp (aG b s e).2:=by
 let f:Zp []:=λq m=>by ext m
 cases e with
 |turn=>
  show Zp (oA b (s,[])).2;ext oA;split
  .show f
  .rename_i h g w q
   let v:=(sw.wt h g w q).1;split
   .show qH Z (p:=({s with wt:=R (h,g+1,w)},[])) f λ_ _ _ e=>by ext e;show#[v.ne,v.nd,v.kn,v.kf,by let:=v.g0;ext,v.tp,v.ch]
   .show f
 |up k=>
  show Zp (zE b (s,[]) k).2;ext zE;split
  .rename_i q
   let z:=rH Z (p:=(s,[])) sw q;show OG ?_ z.1.sa;ext eA;split
   .show qH Z (p:=(s,[])) f (SW.wd Z sw)
   .rename_i c n e;let o:c<26:=((sw.wt _ _ _ e).1.tp c n W).1;show nO (p:=({s with wt:=U},[])) f o
   .show f
  .show OG (p:=(s,[])) f sw.sa
 |down k=>
  show Zp (pQ b (s,[]) k).2;ext pQ;split
  .show f
  .rename_i q
   rw[Zr,not_or]at q;let A:s.ac k=U:=by
    cases z:s.ac k with
    |none=>rfl
    |some x=>show a5 (show(s.ac k).isSome=P by rw[z];rfl) q.1
   let y:FH s.wt k=VO:=by
    cases z:FH s.wt k with
    |false=>rfl
    |true=>show a5 z q.2
   split
   .rename_i l
    let(h,g,i,u,r,t):=BN Z (p:=(s,[])) sw j A y l;let i:s.wt=R (h,g,U):=i;ext w9;dsimp only;rw[i];dsimp only;split
    .show qH Z (p:=({s with wt:=R (h++[k],g,U)},[])) f λ_ _ _ e=>by ext e;show r
    .show f
   .let d:=kE Z (p:=(s,[])) sw.sa (SW.wd Z sw);show P1 Z (qH Z (p:=(s,[])) f (SW.wd Z sw)) d.1.sa j
end
end STP
namespace K53
open PySem L2 L3 STP
def rT:FS:=(bU (mn (aO (aL Qu (aa 1) (iC dH {aa 0}))) (d6 (aL bq (aa 0) (aa 1))) d9)
 (d6 (~~~0)))
def bM:FN:=iE 2 rT
def iA:FS:=(bU (mn (FW (aO (aL Qu (aa 0) (~~~0))) (aO (aL T9 (aa 0) (aL Oi (~~~10) (~~~18))))) (bU (vW (pS ju {aa 1}) (gN 3) (gG (aL FM (aa 0) (~~~1000)) (gN 0)))
 (d6 (aL qW (aa 0) (aa 2)))) d9)
 (bU (gG (aL jo (aL dQ (aL dQ (aL qW (aa 0) (~~~1000033)) (aL jo (~~~77) (aa 1))) (~~~5)) (aL dQ (aL jo (aa 1) (aa 1)) (~~~40009))) (gN 4))
 (d6 (aL qW (aL FM (aL qW (aL dQ (aL jo (aL qW (aa 4) (~~~998857)) (~~~30011)) (aa 1)) (~~~999983)) (~~~3)) (aa 2)))))
def aM:FN:=iE 5 iA
def on:FS:=(d6 (aL gC (pC (.str "abz")) (d7 aM 3 {aa 0,aa 1,~~~3})))
def dG:FN:=iE 2 on
def fy:FS:=(bU (gG (d7 aM 3 {aa 0,~~~11,~~~12}) (gN 3))
 (bU (mn (aO (aL cT (aa 2) (~~~1))) (gG (aL bq (de {~~~1,~~~1,~~~1,~~~8}) (d7 aM 3 {aa 0,~~~12,~~~4})) (gN 3)) d9)
 (bU (gG (aL dQ (~~~1) (d7 aM 3 {aa 0,~~~13,iC EX {~~~1,aL vQ (aa 2) (~~~1)}})) (gN 4))
 (bU (mn (FW (aO (aL cT (aa 3) (~~~4))) (aO (aL cT (aa 3) (~~~5)))) (d6 (cz {pC (.str "layer"),aa 4})) d9)
 (bU (mn (FW (aO (aL cT (aa 3) (~~~6))) (aO (aL cT (aa 3) (~~~7)))) (d6 (cz {pC (.str "tap"),d7 dG 2 {aa 0,~~~14},aa 4})) d9)
 (bU (mn (aO (aL cT (aa 3) (~~~8))) (d6 (cz {pC (.str "none")})) d9)
 (bU (mn (aO (aL cT (aa 3) (~~~9))) (d6 (cz {pC (.str "once"),aa 4})) d9)
 (bU (mn (ye (aO (aL Lw (aa 3) (~~~9))) (aO (aL Lw (aa 1) (~~~0)))) (d6 (cz {pC (.str "below")})) d9)
 (d6 (cz {pC (.str "letter"),d7 dG 2 {aa 0,~~~15}}))))))))))
def fD:FN:=iE 5 fy
def hJ:FS:=(bU (gG (de az) (gN 3))
 (bU (vW (pS ju {aL PL (~~~1) (aa 1)}) (gN 4) (bU (gG (iC gx {fR 1 [4] (pS ju {aa 1}) (gN 0) (aO (aL cT (aL DH (aL LY (aa 1) (aa 0)) (~~~1)) (~~~1))) (aa 0)}) (gN 5))
 (bU (gG (KU (aL Lw (iC dH {aa 5}) (~~~1)) (iC BJ {fR 1 [2] (iq (aa 5)) (gN 0) eU (aL cT (aL bq (aL bq (aa 1) (aa 0)) (~~~0)) (pC (.str "letter")))})) (gN 6))
 (mn (ye (aO (aa 6)) (ye (aO (aL Qu (iC dH {aa 3}) (~~~4))) (aO (aL cT (d7 aM 3 {aa 0,aL dQ (~~~20) (aa 4),~~~3}) (~~~0))))) (vh (Gm 3 (cz {aa 5,aL gC (pC (.str "abcz")) (d7 aM 3 {aa 0,aL dQ (~~~40) (aa 4),~~~4})}))) d9))))
 (d6 (iC gx {aa 3}))))
def ib:FN:=iE 7 hJ
def kX:FS:=(bU (gG (d7 bM 2 {aa 0,aa 1}) (gN 3))
 (bU (gG (aL bq (de (ag (~~~1) {~~~2,~~~2,~~~2,~~~3})) (d7 aM 3 {aa 3,~~~5,~~~5})) (gN 4))
 (bU (gG (de az) (gN 5))
 (bU (vW (pS ju {aa 4}) (gN 6) (bU (gG (fR 1 [0,1,2,6] (pS ju {aa 2}) (gN 0) eU (d7 bM 2 {aa 1,aL dQ (aL dQ (aL dQ (aa 2) (~~~1)) (aL jo (aa 3) (aa 4))) (aa 0)})) (gN 7))
 (vh (Gm 5 (iC gx {fR 1 [6,4] (iq (aa 7)) (gN 0) eU (d7 fD 3 {aa 0,aa 1,aa 2})})))))
 (bU (gG (d7 ib 3 {d7 bM 2 {aa 0,aL dQ (aa 1) (~~~10)},aa 2,aL bq (aa 5) (~~~0)}) (gN 8))
 (d6 (cz {aa 2,iC gx {aa 5},aa 8,aL dQ (~~~1) (d7 aM 3 {aa 3,~~~6,aL bq (de {~~~4,~~~4,~~~2}) (aL vQ (aa 2) (~~~1))})})))))))
def gm:FN:=iE 9 kX
def rS:FS:=(d6 (aL bq (de {~~~1,~~~2,~~~2,~~~3}) (d7 aM 3 {d7 bM 2 {aa 0,~~~0},~~~1,~~~4})))
def jE:FN:=iE 1 rS
def tP:FS:=(d6 (aL A2 (aL A2 (Rp Sy (aa 0) wz (uI (aa 1))) (cz {aa 2})) (Rp Sy (aa 0) (uI (aL A2 (aa 1) (~~~1))) wz)))
def ez:FN:=iE 3 tP
def fG:FS:=(bU (gG (aa 1) (gT 4 (Ls (gN 2) (Ls (gN 3) (Ls (gN 4) (Ls (gN 5) TK))))))
 (bU (gG (d7 bM 2 {aa 0,~~~12}) (gN 6))
 (bU (gG (d7 aM 3 {aa 6,~~~70,~~~8}) (gN 7))
 (bU (gG (d7 aM 3 {aa 6,~~~71,iC dH {aa 3}}) (gN 8))
 (bU (gG (d7 aM 3 {aa 6,~~~72,aa 2}) (gN 9))
 (bU (gG (aL bq (aL bq (aa 3) (aa 8)) (aa 9)) (gN 10))
 (bU (mn (aO (aL cT (aa 7) (~~~1))) (d6 (cz {aa 2,aa 3,DU L9.QX (aa 4),aa 5})) d9)
 (bU (mn (ye (aO (aL cT (aa 7) (~~~2))) (aO (aL cT (aa 10) (cz {pC (.str "below")})))) (d6 (cz {aa 2,d7 ez 3 {aa 3,aa 8,d7 ez 3 {aL bq (aa 3) (aa 8),aa 9,aL bq (aL bq (aa 3) (~~~0)) (aa 9)}},aa 4,aa 5})) d9)
 (bU (mn (ye (aO (aL cT (aa 7) (~~~3))) (aO (aL cT (aL bq (aa 10) (~~~0)) (pC (.str "letter"))))) (bU (gG (cz {pC (.str "letter"),aL gC (pC (.str "abz")) (d7 aM 3 {aa 6,~~~73,~~~3})}) (gN 11))
 (d6 (cz {aa 2,d7 ez 3 {aa 3,aa 8,d7 ez 3 {aL bq (aa 3) (aa 8),aa 9,aa 11}},aa 4,aa 5}))) d9)
 (bU (mn (aO (aL cT (aa 7) (~~~4))) (d6 (cz {aa 2,aa 3,aa 4,aL dQ (~~~1) (aL qW (aa 5) (~~~2))})) d9)
 (bU (mn (aO (aL cT (aa 7) (~~~5))) (d6 (cz {aa 2,aa 3,Rp UE (aa 4) (uI (~~~1)) wz,aa 5})) d9)
 (bU (mn (aO (aL Lw (aa 7) (~~~5))) (d6 (d7 gm 3 {aa 0,~~~13,aa 2})) d9)
 (d6 (aa 1))))))))))))))
def fK:FN:=iE 12 fG
def mG:FS:=(bU (gG (fR 1 [] (pS ju {aL bq (aa 0) (~~~0)}) (gN 0) eU (cz {pC (.str "down"),aa 0})) (gN 1))
 (bU (gG (fR 1 [] (pS ju {aL bq (aa 0) (~~~0)}) (gN 0) eU (cz {pC (.str "up"),aa 0})) (gN 2))
 (d6 (aL dQ (aL dQ (aa 1) (aa 2)) (de {cz {pC (.str "turn"),~~~0}})))))
def ef:FN:=iE 3 mG
end K53
namespace K53
open PySem L2 L3 L10 STP
def dZ:fF:=(aR (cS (bS (EJ P (af (aa 1)) (aY "Places" "numbers" (aw 0)))) (aR (cS (bS (lU T9 (kL dH (aj (aY "Places" "found" (aw 0)) aH)) (aY "Places" "most" (aw 0)))) (sT "TooMany" "most" (aY "Places" "most" (aw 0))) dg)
 (aR (yE (aY "Places" "numbers" (aw 0)) (af (aa 1)) (kL dH (aj (aY "Places" "found" (aw 0)) aH)))
 (bT (lG (aY "Places" "found" (aw 0)) (af (cz {aa 1,aa 2,aa 3})))))) dg)
 (gQ (t9 (aY "Places" "numbers" (aw 0)) (af (aa 1)))))
def bA:jh:=dc 4 dZ
def dC:fF:=(aR (fu "Places" "most" (aw 0) (af (aa 2)))
 (aR (fu "Places" "found" (aw 0) (af (de az)))
 (aR (fu "Places" "numbers" (aw 0) yC)
 (bT (qJ "Places" "enter" bA 4 (aw 0) (aj (af (aa 1)) (aj (af (pC .none)) (aj (af (pC .none)) aH))))))))
def bZ:jh:=dc 3 dC
def iG:fF:=(aR (cI (af (de az)) (df 2))
 (aR (cI (gC (aY "Places" "found" (aw 0)) (af (aa 1))) (df 3))
 (aR (mY (bV (aO (aL oa (aL bq (aa 3) (~~~1)) (pC .none)))) (aR (bT (lG (aw 2) (af (aL bq (aa 3) (~~~2)))))
 (cI (gC (aY "Places" "found" (aw 0)) (af (aL bq (aa 3) (~~~1)))) (df 3))))
 (gQ (Fo (aw 2))))))
def dj:jh:=dc 4 iG
def Bx:fF:=(aR (cS (bV (aO (aL rc (aL bq (aa 0) (~~~0)) (aL bq (aa 1) (~~~0))))) Tl dg)
 (aR (cI (iL (af (d7 ef 1 {aa 0}))) (df 3))
 (aR (cI (Bk "Places" bZ 3 (aj (af (cz {pC (.tuple [(.tuple []),.none,.none]),pC (.tuple [(.tuple []),.none,.none])})) (aj (af (aa 2)) aH))) (df 4))
 (aR (cI (af (~~~0)) (df 5))
 (aR (mY (bS (lU Qu (af (aa 5)) (kL dH (aj (aY "Places" "found" (aw 4)) aH)))) (aR (cI (gC (gC (aY "Places" "found" (aw 4)) (af (aa 5))) (af (~~~0))) (df 6))
 (aR (BU (gR (iq (aa 3))) (df 7) (aR (cI (iL (oo STP.iQ 3 (aj (af (aa 0)) (aj (af (aL bq (aa 6) (~~~0))) (aj (af (aa 7)) aH))))) (df 8))
 (aR (cI (iL (oo STP.iQ 3 (aj (af (aa 1)) (aj (af (aL bq (aa 6) (~~~1))) (aj (af (aa 7)) aH))))) (df 9))
 (aR (cS (bV (aO (aL rc (aL bq (aa 8) (~~~0)) (aL bq (aa 9) (~~~0))))) (gQ (lV (aj (af (pC (.str "apart"))) (aj (lU dQ (bf "Places" "way_to" dj 2 (aw 4) (aj (af (aa 5)) aH)) (af (de {aa 7}))) aH)))) dg)
 (bT (qJ "Places" "enter" bA 4 (aw 4) (aj (af (cz {aL bq (aa 8) (~~~1),aL bq (aa 9) (~~~1)})) (aj (af (aa 5)) (aj (af (aa 7)) aH)))))))))
 (Kt 5 Tn (af (~~~1))))))
 (gQ (lV (aj (af (pC (.str "same"))) (aj (eO 1 [] (fP (aY "Places" "found" (aw 4))) (df 0) cL (af (aL bq (aa 0) (~~~0)))) aH)))))))))
def gh:jh:=dc 10 Bx
def tN:fF:=(aR (cI (iL (af (d7 ef 1 {aa 0}))) (df 2))
 (aR (cI (Bk "Places" bZ 3 (aj (af (pC (.tuple [(.tuple []),.none,.none]))) (aj (af (aa 1)) aH))) (df 3))
 (aR (cI (af (de az)) (df 4))
 (aR (cI (af (de az)) (df 5))
 (aR (mY (bS (lU Qu (kL dH (aj (aw 4) aH)) (kL dH (aj (aY "Places" "found" (aw 3)) aH)))) (aR (cI (kL dH (aj (aw 4) aH)) (df 6))
 (aR (cI (gC (gC (aY "Places" "found" (aw 3)) (af (aa 6))) (af (~~~0))) (df 7))
 (aR (cI (iL (eO 1 [0,7] (gR (iq (aa 2))) (df 0) cL (oo STP.iQ 3 (aj (af (aa 1)) (aj (af (aa 2)) (aj (af (aa 0)) aH)))))) (df 8))
 (aR (bT (lG (aw 4) (kL gx (aj (tY 2 [3,6] (gR (zC {aa 2,aa 8})) (So 2 (uX (df 0) (uX (df 1) Gz))) cL (qJ "Places" "enter" bA 4 (aw 2) (aj (af (aL bq (aa 1) (~~~1))) (aj (af (aa 3)) (aj (af (aa 0)) aH))))) aH))))
 (bT (lG (aw 5) (af (iC gx {fR 1 [] (iq (aa 8)) (gN 0) eU (iC gx {aL bq (aa 0) (~~~0)})})))))))))
 (gQ (lV (aj (aY "Places" "found" (aw 3)) (aj (aw 4) (aj (aw 5) aH))))))))))
def iw:jh:=dc 9 tN
def xy:fF:=(gQ (gC (zl iw 2 [] (aj (af (aa 0)) (aj (af (aa 1)) aH))) (af (~~~0))))
def nX:jh:=dc 2 xy
def pf:fF:=(aR (cI yC (df 1))
 (gQ (eO 1 [1] (fP (aw 0)) (df 0) cL (An (aw 1) (af (aa 0)) (rO (aw 1))))))
def eE:jh:=dc 2 pf
def jQ:fF:=(aR (cI (gC (aY "Sorting" "rounds" (aw 0)) (af (DU u7 (~~~1)))) (df 2))
 (gQ (lV (aj (gC (aw 2) (af (aa 1))) (aj (kL gx (aj (eO 1 [2] (fP (gC (aY "Sorting" "steps" (aw 0)) (af (aa 1)))) (df 0) cL (gC (aw 1) (af (aa 0)))) aH)) aH)))))
def bH:jh:=dc 3 jQ
def jv:fF:=(aR (cI (iL (zl iw 2 [] (aj (af (aa 1)) (aj (af (aa 2)) aH)))) (df 3))
 (aR (fu "Sorting" "steps" (aw 0) (af (aL bq (aa 3) (~~~1))))
 (aR (fu "Sorting" "sends" (aw 0) (af (aL bq (aa 3) (~~~2))))
 (aR (fu "Sorting" "rounds" (aw 0) (af (de az)))
 (aR (cI (jK eE 1 (aj (aY "Sorting" "sends" (aw 0)) aH)) (df 4))
 (mY (Bt (bS (lU cT (aY "Sorting" "rounds" (aw 0)) (af (de az)))) (bS (lU Lw (kL jf (aj (aw 4) aH)) (kL jf (aj (gC (aY "Sorting" "rounds" (aw 0)) (af (DU u7 (~~~1)))) aH))))) (aR (bT (lG (aY "Sorting" "rounds" (aw 0)) (aw 4)))
 (cI (jK eE 1 (aj (eO 1 [0] (mZ (kL dH (aj (aY "Sorting" "steps" (aw 0)) aH))) (df 0) cL (bf "Sorting" "mark_of" bH 2 (aw 1) (aj (af (aa 0)) aH))) aH)) (df 4)))))))))
def c7:jh:=dc 5 jv
def wR:fF:=(aR (cI (Bk "Sorting" c7 3 (aj (af (aa 0)) (aj (af (aa 1)) aH))) (df 2))
 (aR (cI (iL (gC (aY "Sorting" "rounds" (aw 2)) (af (DU u7 (~~~1))))) (df 3))
 (aR (cI (iL (af (fR 1 [3] (pS ju {aL dQ (iC L10.jf {aa 3}) (~~~1)}) (gN 0) eU (L10.JU 1 (aa 0))))) (df 4))
 (aR (cI (kL gx (aj (eO 1 [2,3] (gR (iq (aa 4))) (df 0) cL (kL gx (aj (eO 1 [2] (fP (gC (aY "Sorting" "steps" (aw 1)) (af (aa 0)))) (df 0) cL (af (aL bq (aa 1) (aa 0)))) aH))) aH)) (df 5))
 (gQ (lV (aj (af (aa 5)) (aj (kL gx (aj (eO 1 [2] (gR (iq (aa 4))) (df 0) cL (gC (aY "Sorting" "sends" (aw 1)) (af (aa 0)))) aH)) aH))))))))
def cW:jh:=dc 6 wR
def Se:RS SV->RS SV
 |.ok x Z=>.ok x Z
 |.er x Z=>if x.cls=("TooMany":Str)then .ok (.fz .none) Z else .bad
 |_=>.bad
def bJ:jh
 |[.fz b,.fz c,.fz (.int w)],Z=>if w=0 then Se (cW [.fz b,.fz (.int 80)] Z)else Se (gh [.fz b,.fz c,.fz (.int 80)] Z)
 |_,_=>.bad
def Hk:fF:=(aR (cI (af (d7 gm 3 {aa 0,~~~1,d7 jE 1 {aa 0}})) (df 1))
 (aR (cI (af (d7 fK 2 {aa 0,aa 1})) (df 2))
 (aR (cI (iL (jK bJ 3 (aj (af (aa 1)) (aj (af (aa 1)) (aj (af (~~~0)) aH))))) (df 3))
 (aR (cI (iL (jK bJ 3 (aj (af (aa 2)) (aj (af (aa 2)) (aj (af (~~~0)) aH))))) (df 4))
 (aR (cI (iL (jK bJ 3 (aj (af (aa 1)) (aj (af (aa 2)) (aj (af (~~~1)) aH))))) (df 5))
 (aR (cS (bV (aO (aL oa (aa 3) (pC .none)))) (aR (cI (iL (uC gh 3 [] (aj (af (aa 1)) (aj (af (aa 1)) (aj (af (~~~80)) aH))))) (df 6))
 (cS (Bt (bV (aO (aL rc (aL bq (aa 6) (~~~0)) (pC (.str "same"))))) (bS (lU rc (af (iC dH {aL bq (aa 6) (~~~1)})) (kL dH (aj (uC nX 2 [] (aj (af (aa 1)) (aj (af (~~~80)) aH))) aH))))) (gQ (af (pC (.bool VO)))) dg)) dg)
 (aR (cS (bV (FW (aO (aL jU (aa 3) (pC .none))) (FW (aO (aL jU (aa 4) (pC .none))) (aO (aL jU (aa 5) (pC .none)))))) (gQ (af (pC (.bool P)))) dg)
 (gQ (af (aL cT (aL cT (aL bq (aa 5) (~~~0)) (pC (.str "same"))) (aL cT (aa 3) (aa 4))))))))))))
def F_law:jh:=dc 7 Hk
abbrev zf(d:D):I PV:=-(d)
abbrev zo(l:G D):I PV:=R (.ow l)
def pR(ns:G Int)(k:Nat):∃c:Int,bM [.list (ns.map .int),nd k]=.ok (.fz (.int c)):=by
 let a:dH [.list (ns.map .int)]=-(nd ns.length):=(fV _).trans (by rw[Vw]);let lt:=oY (k:Int) (ns.length:Int);by_cases h:k<ns.length
 .rw[aE ()]at lt;let e:bq (.list (ns.map .int)) (nd k)=-(.int ns[k]):=zd (by rw[VN,Vz h];rfl);show#[ns[k],jX (ρ:=[zf (.list (ns.map .int)),zf (nd k)]) W (ji (b:=P) (bE (aB (rv:=.fz (.bool P)) (ae W) (fO (rv:=.fz (nd ns.length)) (ai (ae W) aJ) W a) W W lt) W) (λ_=>fU (pv:=.fz (.int ns[k])) (rv:=.fz (.int ns[k])) (aB (rv:=.fz (.int ns[k])) (ae W) (ae W) W W e) W W) λq=>nomatch q)]
 .rw[aP ()]at lt;show#[0,jX (ρ:=[zf (.list (ns.map .int)),zf (nd k)]) W (ji (b:=VO) (bE (aB (rv:=.fz (.bool VO)) (ae W) (fO (rv:=.fz (nd ns.length)) (ai (ae W) aJ) W a) W W lt) W) (λq=>nomatch q) λ_=>dU (gq (pv:=.fz (.int 0)) (rv:=.fz (.int 0)) aC W W))]
abbrev ET(c:Int)(k m:Nat)(a b:I PV):bt:=[zf (.int c),zf (nd k),zf (nd m),a,b]
def fJ(c:Int)(k m:Nat)(o:k<=1000)(hm:0<m):∃r:Nat,aM [.int c,nd k,nd m]=.ok (.fz (nd r))/\r<m:=by
 let a:∀x:Int,∃r:Nat,qW (.int x) (nd m)=-(nd r)/\r<m:=λx=>by let A:0<=x % (m:Int):=ago _ ();let J:x % (m:Int)<m:=ae2 _ ();show#[(x % (m:Int)).toNat,?_,by ext];rw[vd (),nd,abq A]
 let g:∃L,iE 5 iA [.int c,nd k,nd m]=.ok L/\∃r:Nat,L=.fz (nd r)/\r<m:=by
  show qX (T:=λL=>∃r:Nat,L=.fz (nd r)/\r<m) (ρ:=ET c k m U U) W ?_;ext iA;let f:=Ph;show ji (b:=decide (c<0)||decide ((10:Int)^18<=c)) (ρ1:=ET c k m U U) (xp (bE (aB (rv:=.fz (.bool (decide (c<0)))) (ae W) aC W W (oY _ _)) W) λ_=>bE (aB (rv:=.fz (.bool (decide ((10:Int)^18<=c)))) (ae W) (aB (rv:=.fz (.int ((10:Int)^18))) aC aC W W f) W W (zr _ _)) W) (λ_=>Cj ?_) (λ_=>dU ?_)
  .let B:=nA (n:=k) ()
   show BZ (λ_ N=>∃(x:Int) (t:bg PV),N=ET x k m t U) (ds:=bX (VI k)) (ρ1:=ET c k m U U) (by ext:0) #[c,U,W] ?_ ?_
   .rintro i d N S ⟨x,t,rfl⟩;let e:FM (.int x) (.int 1000)=-(.int (x/1000)):=HJ #[by decide,by decide];show#[_,W,Lf (ρ2:=ET (x/1000) k m (zf d) U) (aB (rv:=.fz (.int (x/1000))) (ae W) aC W W e) W #[_,_,W]]
   .rintro N ⟨x,t,rfl⟩;let(r,l,j):=a x;show fU (pv:=.fz (nd r)) (rv:=.fz (nd r)) (ρ1:=ET x k m t U) (aB (rv:=.fz (nd r)) (ae W) (ae W) W W l) W #[r,W,j]
  .let K:0<=c % 1000033/\c % 1000033<1000033:=#[ago _ (),ae2 _ ()]
   let I:(k:Int)*k<=1000000:=by
    let:k*k<=1000*1000:=aa7 o o;let e:(k:Int)*k=((k*k:Nat):Int):=by rw[Int.natCast_mul]
    ext
   let v:0<=(k:Int)*k:=Int.mul_nonneg () ();let H:qW (.int c) (.int 1000033)=-(.int (c % 1000033)):=vd ();let G:jo (.int 77) (nd k)=-(.int (77*k)):=pZ #[by ext,by ext];let F:jo (nd k) (nd k)=-(.int (k*k)):=pZ #[by ext,by ext];let u:jo (.int (c % 1000033+77*k+5)) (.int (k*k+40009))=-(.int ((c % 1000033+77*k+5)*(k*k+40009))):=pZ #[by ext,by ext];generalize Q:(c % 1000033+77*(k:Int)+5)*(k*k+40009)=x at u;let E:qW (.int x) (.int 998857)=-(.int (x % 998857)):=vd ();let q:jo (.int (x % 998857)) (.int 30011)=-(.int (x % 998857*30011)):=JP #[by ext,by ext];generalize x % 998857*30011=y at q;let p:qW (.int (y+k)) (.int 999983)=-(.int ((y+k) % 999983)):=vd ();generalize (y+(k:Int)) % 999983=z at p;let C:FM (.int z) (.int 3)=-(.int (z/3)):=HJ #[by ext,by ext];let(r,l,j):=a (z/3);show dI (ρ3:=ET c k m U (zf (.int x))) (by ext:0) W W ?_;show gq (pv:=.fz (nd r)) (rv:=.fz (nd r)) (ρ1:=ET c k m U (zf (.int x))) (aB (rv:=.fz (nd r)) (by ext:0) (ae W) W W l) W #[r,W,j]
 let(L,h,r,rfl,w):=g;show#[r,h,w]
def Ql{z:Str}{cs:G Nat}(d:z.cps.toList=cs.map (97+·))(a:z.length<=1000000){r:Int}{c:Nat}(b:0<=r)(h:cs[r.toNat]?=R c):L3.gC (.str z) (.int r)=-(.str (kH c)):=by show(if z.length<=1000000 then(og z.cps.toList r).map (λc=>RV.fz (.str #[#v[c]]))else U)=_;rw[av a,d,xf (v:=97+c) b (by rw[VN,h];rfl)];rfl
def CF{z:Str}(cs:G Nat)(d:z.cps.toList=cs.map (97+·))(b:z.length<=1000000)(e:∀c∈cs,c<26){r:Int}(f:0<=r)(g:r<cs.length):∃c,c<26/\L3.gC (.str z) (.int r)=-(.str (kH c)):=by
 let a:r.toNat<cs.length:=by ext
 show#[cs[r.toNat],e _ (Xt a),Ql d b f (Vz a)]
def AA{n i k:Nat}(h:(VI n)[i]?=R k):k=i/\i<n:=by let(b,a):=Vv.mp h;rw[List.getElem_range]at a;rw[V2]at b;show#[a.symm,b]
def Ow{n a:Int}{e:G (G Mn)}{b:G Mn}(h:VL n a e)(g:(b.length:Int)=n)(f:∀m∈b,VM e.length a m):VL n a (e++[b]):=by
 intro i l j;rcases L10.cK j with o|⟨rfl,rfl⟩
 .show h i l o
 .show#[g,f]
def wG(c:Int)(k:Nat)(e:k<=1000):∃l,l<26/\dG [.int c,nd k]=.ok (.fz (.str (kH l))):=by let(r,er,g):=fJ c k 3 e ();let a:aM [.int c,nd k,.int 3]=.ok (.fz (nd r)):=er;let(l,b,f):=CF (z:= "abz") [0,1,25] (by left) (by left) () (show(0:Int)<=(r:Int) by ext) (show(r:Int)<3 by ext);show#[l,b,jX (ρ:=[zf (.int c),zf (nd k)]) W (gq (pv:=.fz (.str (kH l))) (rv:=.fz (.str (kH l))) (ρ1:=[zf (.int c),zf (nd k)]) (aB (rv:=.fz (.str (kH l))) aC (ck (rv:=.fz (nd r)) (ds:=[.int c,nd k,.int 3]) (ai (ae W) (ai (ae W) (ai aC aJ))) W W a) W W f) W W)]
def PK{a:Nat}(b:1<=a):∃M:Nat,EX [.int 1,.int ((a:Int) - 1)]=-(nd M)/\1<=M/\(1<a->M=a - 1):=by
 by_cases h:1<a
 .show#[a - 1,?_,by ext,λ_=>W];show R (RV.fz (.int (if(1:Int)<(a:Int) - 1 then(a:Int) - 1 else 1)))=R (RV.fz (.int ((a - 1:Nat):Int)));congr 3;split<;>ext
 .obtain rfl:a=1:=by ext
  show#[1,W,by ext,λh=>by ext]
abbrev E5(c:Int)(L e:Nat)(a b:I PV):bt:=[zf (.int c),zf (nd L),zf (nd e),a,b]
def LW(c:Int)(L a:Nat)(o:1<=a)(Q:a<=1000):∃m:Mn,VM L a m/\fD [.int c,nd L,nd a]=.ok (.fz (mD m)):=by
 let(j,e0,F):=fJ c 11 12 () ();let(g,v,E):=fJ c 12 4 () ();let(M,O,M1,M2):=PK o;let(f,u,G):=fJ c 13 M () ();let(n,I,A):=wG c 14 ();let(l,H,y):=wG c 15 ();let e0:aM [.int c,.int 11,.int 12]=.ok (.fz (nd j)):=e0;let v:aM [.int c,.int 12,.int 4]=.ok (.fz (nd g)):=v;let u:aM [.int c,.int 13,nd M]=.ok (.fz (nd f)):=u;let A:dG [.int c,.int 14]=.ok (.fz (.str (kH n))):=A;let y:dG [.int c,.int 15]=.ok (.fz (.str (kH l))):=y;let p:∃S,iE 5 fy [.int c,nd L,nd a]=.ok S/\∃m:Mn,VM L a m/\S=.fz (mD m):=by
  show qX (T:=λS=>∃m:Mn,VM L a m/\S=.fz (mD m)) (ρ:=E5 c L a U U) W ?_;ext fy;show dI (ρ3:=E5 c L a (zf (nd j)) U) (ck (rv:=.fz (nd j)) (ds:=[.int c,.int 11,.int 12]) (ai (ae W) (ai aC (ai aC aJ))) W W e0) W W ?_;show Lc (Go.imp (N:=λr=>∃w:Int,(a=1->w=1\/w=8)/\r=E5 c L a (zf (.int w)) U) (Ju (b:=decide ((a:Int)=1)) (ρ1:=E5 c L a (zf (nd j)) U) (bE (aB (rv:=.fz (.bool (decide ((a:Int)=1)))) (ae W) aC W W (jN _ _)) W) (λq=>?_) (λq=>?_)) (λr #[w,t,e]=>?_) (λ_ h=>h) (λ_ h=>h))
  .obtain⟨x,C,K⟩:∃x:Int,(x=1\/x=8)/\bq (.list [.int 1,.int 1,.int 1,.int 8]) (nd g)=-(.int x):=by
    let:g=0\/g=1\/g=2\/g=3:=by ext
    rcases this with rfl|rfl|rfl|rfl
    .show#[1,.inl W,zd W]
    .show#[1,.inl W,zd W]
    .show#[1,.inl W,zd W]
    .show#[8,.inr W,zd W]
   show Lf (pv:=.fz (.int x)) (ρ2:=E5 c L a (zf (.int x)) U) (aB (rv:=.fz (.int x)) (by ext:0) (ck (rv:=.fz (nd g)) (ds:=[.int c,.int 12,.int 4]) (ai (ae W) (ai aC (ai aC aJ))) W W v) W W K) W #[x,λ_=>C,W]
  .let q:=of_decide_eq_false q;show yw #[j,λz=>by ext,W]
  subst e;show dI (ρ3:=E5 c L a (zf (.int w)) (zf (.int (1+(f:Int))))) (aB (rv:=.fz (.int (1+(f:Int)))) aC (ck (rv:=.fz (nd f)) (ds:=[.int c,.int 13,nd M]) (ai (ae W) (ai aC (ai (fO (rv:=.fz (nd M)) (ds:=[.int 1,.int ((a:Int) - 1)]) (ai aC (ai (aB (rv:=.fz (.int ((a:Int) - 1))) (ae W) aC W W (uD _ _)) aJ)) W O) aJ))) W W u) W W (hG _ _)) W W ?_;let i:1<a->(1:Int)<=1+(f:Int)/\1+(f:Int)<a:=λz=>by let:=M2 z;ext
  show ji (b:=decide (w=4)||decide (w=5)) (ρ1:=E5 c L a (zf (.int w)) (zf (.int (1+(f:Int))))) (by ext:0) (λq=>?_) (λ_=>dU ?_)
  .show fU (pv:=.fz (mD (.Yq (1+(f:Int))))) (rv:=.fz (mD (.Yq (1+(f:Int))))) (ρ1:=E5 c L a (zf (.int w)) (zf (.int (1+(f:Int))))) (show _=Res.ok (PV.fz (.tuple [.str "layer",.int (1+(f:Int))]),_) by ext:0) W #[_,?_,W];rw[Zr,decide_eq_true_eq,decide_eq_true_eq]at q;show i (abL o λz=>by let:=t z.symm;ext)
  show ji (b:=decide (w=6)||decide (w=7)) (ρ1:=E5 c L a (zf (.int w)) (zf (.int (1+(f:Int))))) (by ext:0) (λq=>?_) (λ_=>dU ?_)
  .show fU (pv:=.fz (mD (.tap n (1+(f:Int))))) (rv:=.fz (mD (.tap n (1+(f:Int))))) (ρ1:=E5 c L a (zf (.int w)) (zf (.int (1+(f:Int))))) (show _=Res.ok (PV.fz (.tuple [.str "tap",.str (kH n),.int (1+(f:Int))]),_) by ext:0) W #[_,?_,W];rw[Zr,decide_eq_true_eq,decide_eq_true_eq]at q;show#[I,i (abL o λz=>by let:=t z.symm;ext)]
  show ji (b:=decide (w=8)) (ρ1:=E5 c L a (zf (.int w)) (zf (.int (1+(f:Int))))) (by ext:0) (λq=>?_) (λ_=>dU ?_)
  .show fU (pv:=.fz (mD .none)) (rv:=.fz (mD .none)) (ρ1:=E5 c L a (zf (.int w)) (zf (.int (1+(f:Int))))) (show _=Res.ok (PV.fz (.tuple [.str "none"]),_) by ext:0) W #[.none,trivial,W]
  show ji (b:=decide (w=9)) (ρ1:=E5 c L a (zf (.int w)) (zf (.int (1+(f:Int))))) (by ext:0) (λq=>?_) (λ_=>dU ?_)
  .show fU (pv:=.fz (mD (.once (1+(f:Int))))) (rv:=.fz (mD (.once (1+(f:Int))))) (ρ1:=E5 c L a (zf (.int w)) (zf (.int (1+(f:Int))))) (show _=Res.ok (PV.fz (.tuple [.str "once",.int (1+(f:Int))]),_) by ext:0) W #[_,?_,W];rw[decide_eq_true_eq]at q;show i (abL o λz=>by let:=t z.symm;ext)
  let J:Lw (nd L) (.int 0)=-(.bool (decide ((0:Int)<L))):=W;show ji (b:=(decide (9<w)&&decide ((0:Int)<L))) (ρ1:=E5 c L a (zf (.int w)) (zf (.int (1+(f:Int))))) (by ext:0) (λq=>?_) (λ_=>dU ?_)
  .rw[V9]at q;let P:=a4 q.2;show fU (pv:=.fz (mD .below)) (rv:=.fz (mD .below)) (ρ1:=E5 c L a (zf (.int w)) (zf (.int (1+(f:Int))))) (show _=Res.ok (PV.fz (.tuple [.str "below"]),_) by ext:0) W #[.below,by show(L:Int)≠0;ext,W]
  show gq (pv:=.fz (mD (.Wo l))) (rv:=.fz (mD (.Wo l))) (ρ1:=E5 c L a (zf (.int w)) (zf (.int (1+(f:Int))))) (show _=Res.ok (PV.fz (.tuple [.str "letter",.str (kH l)]),_) by ext:0) W #[.Wo l,H,W]
 let(S,h,m,B,rfl):=p;show#[m,B,h]
structure CsV(l0:G Mn)(cs:G (G Nat×Nat)):Prop where
 vc:∀c∈cs,VC l0 c
 un:cs.Pairwise λa c=>a.1≠c.1
theorem CsV.nil(b:G Mn):CsV b []:=#[λc a=>(by ext a),aay]
def CsV.add(h:CsV l0 cs)(j:2<=s.length)(f:s.Pairwise (·<·))(i:∀k∈s,Bh l0 k=P)(g:l<26)(e:s∉cs.map (·.1)):CsV l0 (cs++[(s,l)]):=by
 show#[λc b=>(Wr.mp b).elim (h.vc c) λz=>?_,aek.mpr #[h.un,Ya _ _,λa m c b=>?_]]
 .rw[VW.mp z];show#[j,f,i,g]
 .rw[VW.mp b];show λz=>e (Wh.mpr #[a,m,z])
def Q1(a:k<l0.length):∃d,bq (eP l0) (nd k)=-(d)/\∃w,bq d (.int 0)=-(.str w)/\cT (.str w) (.str "letter")=-(.bool (Bh l0 k)):=by
 let b:Bh l0 k=l0[k].isL:=by ext Bh;rw[Vz a];rfl
 rw[b];show#[mD l0[k],JT (by rw[VN,Vz a];rfl),_,pG _,kz _]
def SZ(i:Int)(k:Nat):LY (.int i) (nd k)=-(.int (i/2^k)):=by show(if UI i (k:Int)=P then R (RV.fz (.int (i/2^((k:Nat):Int).toNat)))else U)=_;rw[av (by ext UI;show aE ()),W0]
def Qq(x:Int)(k:Nat):Bool:=decide (Builtin.bitAnd (x/2^k) 1=1)
def sC(n m:Nat):G Nat:=(VI n).filter (Qq m)
def M0:∀n,n<4->∀a,a<2^n->∀b,b<2^n->sC n a=sC n b->a=b:=by left
theorem mH(p:α->Bool):∀l:G α,sL (l.map λc=>VD.bool (p c))=R (l.map p)
 |[]=>rfl
 |c::r=>by show(sL (r.map λc=>VD.bool (p c))).map (p c::·)=_;rw[mH p r];rfl
def uW(p:α->Bool)(l:G α):BJ [.list (l.map λc=>VD.bool (p c))]=-(.bool (l.all p)):=by show(sL _).map (λbs=>RV.fz (.bool (bs.all id)))=_;rw[mH];show R (RV.fz (.bool _))=_;rw[ahy];rfl
abbrev E7(c:Int)(n:Nat)(e:G Mn)(cs:G (G Nat×Nat))(a b d:I PV):bt:=[zf (.int c),zf (nd n),zf (eP e),zo (cs.map eV),a,b,d]
def FV(c:Int)(n:Nat)(V:n<4)(D:bb Mn)(hl:D.length=n):∃cs,CsV D cs/\cs.length<=4/\ib [.int c,nd n,eP D]=.ok (.fz (.tuple (cs.map eV))):=by
 let p8:2^n<=8:=Wt (Nat.pow_le_pow_right () (show n<=3 by ext)) ();let rgm:ju [nd (2^n)]=lD (bX (VI (2^n))):=nA ();let rgn:ju [nd n]=lD (bX (VI n)):=nA ();let X:=Nq n ();let E:∃rv,iE 7 hJ [.int c,nd n,eP D]=.ok rv/\∃cs,CsV D cs/\cs.length<=4/\rv=.fz (.tuple (cs.map eV)):=by
  show qX W ?_;ext hJ;show dI (ρ3:=E7 c n D [] Vt Vt Vt) (by ext:0) W W ?_;show BZ (λi ρ=>∃(cs:bb (bb Nat×Nat)) (A p o:bg PV),CsV D cs/\cs.length<=4/\(∀s∈cs.map (·.1),∃m,m<i/\m<2^n/\s=sC n m)/\ρ=E7 c n D cs A p o) (by ext:0) #[[],Vt,Vt,Vt,CsV.nil _,Wx _,(λs F=>by ext F),W] ?_ ?_
  .rintro i d ρ hi ⟨cs,A,p,o,g,y,v,rfl⟩
   let(k,hk,rfl):=yx hi;let(rfl,e):=AA hk;show#[E7 c n D cs (zf (nd k)) p o,W,?_];let f:oi (eX (gN 0) (aO (aL cT (aL DH (aL LY (aa 1) (aa 0)) (~~~1)) (~~~1))) (aa 0) (bX (VI n)) [Vt,-(nd k)] [])=.ok ((sC n k).map nd):=xA nd nd (Qq k) (VI n) (by rw[V2];ext) W (λj r=>by let Z:=SZ (k:Int) j;let Y:DH (.int ((k:Int)/2^j)) (.int 1)=-(.int (Builtin.bitAnd ((k:Int)/2^j) 1)):=W;show bE (aB (aB (aB (ae W) (ae W) W W Z) aC W W Y) aC W W (jN _ _)) W) λj _ _=>ae W;let N:(sC n k).Pairwise (·<·):=aij _ adD;let P:∀j∈sC n k,j<n:=λj r=>WI.mp (Yj.mp r).1;let U:(sC n k).length<=n:=by let:=aaN (Qq k) (VI n);rw[V2]at this;show this
   let O:sC n k∉cs.map (·.1):=λz=>by let(m,m1,C,B):=v _ z;let:=M0 n V k e m C B;ext
   let b:∀s∈cs.map (·.1),∃m,m<k+1/\m<2^n/\s=sC n m:=λs F=>by let(m,m1,C,B):=v s F;show#[m,by ext,C,B]
   let Q:∃m,m<k+1/\m<2^n/\sC n k=sC n m:=#[k,by ext,e,W];generalize sC n k=s at f N P U O Q;show dI (fO (ai (gf (by ext:0) W f) aJ) W W) W W ?_;let G:dH [.tuple (bX s)]=-(nd s.length):=(ka _).trans (by rw[i7]);let L:oi (eX (gN 0) eU (aL cT (aL bq (aL bq (aa 1) (aa 0)) (~~~0)) (pC (.str "letter"))) (bX s) [Vt,-(eP D)] [])=.ok (s.map λj=>.bool (Bh D j)):=lg nd (λj=>.bool (Bh D j)) s () W (λj r=>by let(d,e1,w,e2,e3):=Q1 (l0:=D) (k:=j) (by let:=P j r;ext);show aB (aB (aB (ae W) (ae W) W W e1) aC W W e2) aC W W e3);show dI (yj (bE (aB (fO (ai (ae W) aJ) W G) aC W W (z6 _ _)) W) λ_=>fO (ai (gf (by ext:0) W L) aJ) W (uW _ _)) W W ?_;let(t,K,ht):=fJ c (20+k) 3 () ();let K:=K;let(u,J,hu):=fJ c (40+k) 4 () ();let J:=J;let(l,M,el):=CF (z:= "abcz") [0,1,2,25] (by left) (by left) () (show(0:Int)<=(u:Int) by ext) (show(u:Int)<4 by ext);let H:dH [.list (cs.map eV)]=-(nd cs.length):=(fV _).trans (by rw[Vw]);generalize hg:(decide ((1:Int)<(s.length:Int))&&s.all (Bh D))=gd;show Ju
    (qh (bE (ae W) W) λ_=>qh (bE (aB (fO (ai (mz W) aJ) W H) aC W W (oY _ _)) W) λ_=>bE (aB (ck (ai (ae W) (ai (aB aC (ae W) W W (hG _ _)) (ai aC aJ))) W W K) aC W W (jN _ _)) W) (λq=>?_) λ_=>yw #[cs,_,_,_,g,y,b,W]
   rw[V9,V9]at q;let(I,R,_):=q;let R:=a4 R;rw[<-hg,V9,Yz]at I;let g3:=a4 I.1;show xM (CW W (dJ (ai (ae W) (ai (aB aC (ck (ai (ae W) (ai (aB aC (ae W) W W (hG _ _)) (ai aC aJ))) W W J) W W el) aJ)) W (VJ W)) W W (by rw[Vw];ext) (by show _=[zf (.int c),zf (nd n),zf (eP D),zo ((cs++[(s,l)]).map eV),_,_,_];rw[V4];rfl)) #[cs++[(s,l)],_,_,_,g.add () N I.2 M O,by rw[Vy];show cs.length+1<=4;ext,λx a=>by
    rw[V4,Wr]at a;rcases a with a|a
    .show b x a
    .rw[VW.mp a];show Q,W]
  .rintro ρ ⟨cs,A,p,o,g,y,v,rfl⟩;show gq (fO (ai (mz W) aJ) W W) W #[cs,g,y,W]
 let(rv,h,cs,T,S,rfl):=E;show#[cs,T,S,h]
def Td(h:1<=n)(g:n<=5)(j:rs.length<=3)(b:rs[0]?=R m)(i:VL n rs.length rs)(a:CsV m cs)(l:cs.length<=4)(f:1<=w)(e:w<=4):VB #[n,rs,cs,w]:=by
 cases rs with
 |nil=>ext b
 |cons x r=>cases VZ b;show#[h,g,by show 1<=r.length+1;ext,j,i,l,a.vc,a.un,f,e]
abbrev E9(ns:G Int)(a n:Nat)(c:Int)(b:Nat)(e g f d:I PV):bt:=[zf (.list (ns.map .int)),zf (nd a),zf (nd n),zf (.int c),zf (nd b),e,g,f,d]
def Vj{n:Nat}(a:n=1\/n=2\/n=3):∃w:Nat,0<w/\w<=4/\bq (.list [.int 4,.int 4,.int 2]) (.int ((n:Int) - 1))=-(nd w):=by
 rcases a with rfl|rfl|rfl
 .show#[4,by decide,by decide,N0 () W]
 .show#[4,by decide,by decide,N0 () W]
 .show#[2,by decide,by decide,N0 () W]
def Vk{r:Nat}(a:r<5):∃w:Nat,1<=w/\w<=3/\bq (.list [.int 1,.int 2,.int 2,.int 2,.int 3]) (nd r)=-(nd w):=by
 let:r=0\/r=1\/r=2\/r=3\/r=4:=by ext
 rcases this with rfl|rfl|rfl|rfl|rfl
 .show#[1,by decide,by decide,zd W]
 .show#[2,by decide,by decide,zd W]
 .show#[2,by decide,by decide,zd W]
 .show#[2,by decide,by decide,zd W]
 .show#[3,by decide,by decide,zd W]
def L7(ns:G Int):∃n:Nat,(n=1\/n=2\/n=3)/\jE [.list (ns.map .int)]=.ok (.fz (nd n)):=by
 let(c,a):=pR ns 0;let a:bM [.list (ns.map .int),.int 0]=.ok (.fz (.int c)):=a;let(r,er,e):=fJ c 1 4 () ();let er:aM [.int c,.int 1,.int 4]=.ok (.fz (nd r)):=er;obtain⟨n,f,b⟩:∃n:Nat,(n=1\/n=2\/n=3)/\bq (.list [.int 1,.int 2,.int 2,.int 3]) (nd r)=-(nd n):=by
  let:r=0\/r=1\/r=2\/r=3:=by ext
  rcases this with rfl|rfl|rfl|rfl
  .show#[1,by decide,zd W]
  .show#[2,by decide,zd W]
  .show#[2,by decide,zd W]
  .show#[3,by decide,zd W]
 show#[n,f,jX (ρ:=[zf (.list (ns.map .int))]) W (gq (pv:=.fz (nd n)) (rv:=.fz (nd n)) (ρ1:=[zf (.list (ns.map .int))]) (aB (rv:=.fz (nd n)) (by ext:0) (ck (rv:=.fz (nd r)) (ds:=[.int c,.int 1,.int 4]) (ai (ck (rv:=.fz (.int c)) (ds:=[.list (ns.map .int),.int 0]) (ai (ae W) (ai aC aJ)) W W a) (ai aC (ai aC aJ))) W W er) W W b) W W)]
def JM(ns:bb Int)(a n:Nat)(s:n=1\/n=2\/n=3):∃b:Bd,VB b/\b.n=n/\gm [.list (ns.map .int),nd a,nd n]=.ok (.fz (bD b)):=by
 let(l,e0):=pR ns a;let(S,R,h5):=fJ l 5 5 () ();let R:aM [.int l,.int 5,.int 5]=.ok (.fz (nd S)):=R;let(g,l1,l3,el):=Vk h5;let(w,X,w4,ew):=Vj s;let(A,P,h6):=fJ l 6 w () X;let P:aM [.int l,.int 6,nd w]=.ok (.fz (nd A)):=P;let(I,z):=pR ns (a+10);let z:bM [.list (ns.map .int),.int ((a:Int)+10)]=.ok (.fz (.int I)):=z;let n1:(1:Int)<=(n:Int):=by rcases s with rfl|rfl|rfl<;>decide
 let n3:(n:Int)<=3:=by rcases s with rfl|rfl|rfl<;>decide
 let Z:ju [nd n]=lD (bX (VI n)):=nA ();let rgl:ju [nd g]=lD (bX (VI g)):=nA ();let M:∃rv,iE 9 kX [.list (ns.map .int),nd a,nd n]=.ok rv/\∃b:Bd,(VB b/\b.n=n)/\rv=.fz (bD b):=by
  show qX (T:=λrv=>∃b:Bd,(VB b/\b.n=n)/\rv=.fz (bD b)) (ρ:=[zf (.list (ns.map .int)),zf (nd a),zf (nd n),Vt,Vt,Vt,Vt,Vt,Vt]) W ?_;ext kX;show dI (ρ3:=[zf (.list (ns.map .int)),zf (nd a),zf (nd n),zf (.int l),Vt,Vt,Vt,Vt,Vt]) (by ext:0) W W ?_;show dI (ρ3:=E9 ns a n l g Vt Vt Vt Vt) (aB (rv:=.fz (nd g)) (by ext:0) (ck (rv:=.fz (nd S)) (ds:=[.int l,.int 5,.int 5]) (ai (ae W) (ai aC (ai aC aJ))) W W R) W W el) W W ?_;show dI (ρ3:=E9 ns a n l g (zo []) Vt Vt Vt) (by ext:0) W W ?_;show BZ (λi ρ=>∃(e:bb (bb Mn)) (E C:bg PV),e.length=i/\VL n g e/\ρ=E9 ns a n l g (zo (e.map eP)) E C Vt) (ds:=bX (VI g)) (ρ1:=E9 ns a n l g (zo []) Vt Vt Vt) (by ext:0) #[[],Vt,Vt,W,(λj r h=>by ext h),W] ?_ ?_
  .rintro i d ρ hi ⟨e,E,C,F,H,rfl⟩
   let(L,hL,rfl):=yx hi;let(rfl,hin):=AA hL;show#[E9 ns a n l g (zo (e.map eP)) (zf (nd L)) C Vt,W,?_];let mu:jo (nd n) (nd L)=-(.int ((n:Int)*L)):=pZ #[by ext,by ext];let(xs,c1,c2,c3):=zu (gt:=gN 0) (ft:=eU) (fe:=d7 bM 2 {aa 1,aL dQ (aL dQ (aL dQ (aa 2) (~~~1)) (aL jo (aa 3) (aa 4))) (aa 0)}) (ds:=bX (VI n)) (ρ:=[Vt,zf (.list (ns.map .int)),zf (nd a),zf (nd n),zf (nd L)]) (λρ=>∃o,ρ=[o,zf (.list (ns.map .int)),zf (nd a),zf (nd n),zf (nd L)]) (λ_ x=>∃y:Int,x=.int y/\True) #[Vt,W] (by rw[i7,V2];ext) (by rintro j d v ρ ⟨o,rfl⟩;let(k,hk,rfl):=yx v;let(c,G):=pR ns (a+1+n*L+k);let G:bM [.list (ns.map .int),.int ((a:Int)+1+(n:Int)*L+k)]=.ok (.fz (.int c)):=G;show#[.int c,_,Mb (ρ1:=[zf (nd k),zf (.list (ns.map .int)),zf (nd a),zf (nd n),zf (nd L)]) W W (ck (rv:=.fz (.int c)) (ds:=[.list (ns.map .int),.int ((a:Int)+1+(n:Int)*L+k)]) (ai (ae W) (ai (aB (rv:=.fz (.int ((a:Int)+1+(n:Int)*L+k))) (aB (rv:=.fz (.int ((a:Int)+1+(n:Int)*L))) (aB (rv:=.fz (.int ((a:Int)+1))) (ae W) aC W W (hG _ _)) (aB (rv:=.fz (.int ((n:Int)*L))) (ae W) (ae W) W W mu) W W (hG _ _)) (ae W) W W (hG _ _)) aJ)) W W G) W W,#[_,W],c,W,trivial]);let(cs,rfl,_):=yZ (f:=VD.int) (Q:=λ_ (_:Int)=>True) xs 0 c3;rw[i7,V2,Vw]at c2;show dI (pv:=.ow (cs.map .int)) (ρ3:=E9 ns a n l g (zo (e.map eP)) (zf (nd L)) (zo (cs.map .int)) Vt) (gf (cs:=[.list (ns.map .int),nd a,nd n,nd L]) (ds:=bX (VI n)) (by ext:0) W c1) W W ?_;let(U,c4,c5,c6):=zu (gt:=gN 0) (ft:=eU) (fe:=d7 fD 3 {aa 0,aa 1,aa 2}) (ds:=cs.map .int) (ρ:=[Vt,zf (nd L),zf (nd g)]) (λρ=>∃o,ρ=[o,zf (nd L),zf (nd g)]) (λ_ x=>∃y:Mn,x=mD y/\VM L g y) #[Vt,W] (by rw[Vw];ext) (by
    rintro j d v ρ ⟨o,rfl⟩;obtain⟨c,rfl⟩:∃c:Int,d=.int c:=by
     rw[VN]at v;cases q:cs[j]? with
     |none=>rw[q]at v;ext v
     |some x=>rw[q]at v;show#[x,(VZ v).symm]
    let(m,J,em):=LW c L g l1 ();show#[mD m,_,Mb (ρ1:=[zf (.int c),zf (nd L),zf (nd g)]) W W (ck (rv:=.fz (mD m)) (ds:=[.int c,nd L,nd g]) (ai (ae W) (ai (ae W) (ai (ae W) aJ))) W W em) W W,#[_,W],m,W,J])
   let(p,rfl,q6):=yZ (f:=mD) (Q:=λ_ y=>VM L g y) U 0 c6;rw[Vw,Vw]at c5;let K:gx [.list (p.map mD)]=-(eP p):=W;let N:(e.map eP).length<1000000:=by rw[Vw];ext
   show xM (pv:=.fz .none) (ρ1:=E9 ns a n l g (zo (e.map eP++[eP p])) (zf (nd L)) (zf (.list (cs.map .int))) Vt) (CW (pa:=.fz (eP p)) (d:=eP p) W (fO (rv:=.fz (eP p)) (ds:=[.list (p.map mD)]) (ai (gf (cs:=[nd L,nd g]) (ds:=cs.map .int) (lA (mz W) W W) W c4) aJ) W K) W W N W) #[e++[p],_,_,by rw[Vy,F];rfl,Ow H () (λm hm=>?_),by rw[V4];rfl];let(t,ht):=WT.mp hm;rw[F];show q6 t m ht
  .rintro ρ ⟨e,E,C,F,H,rfl⟩;rw[i7,V2]at F;obtain⟨u,O⟩:∃u,e[0]?=lD u:=#[_,Vz (show 0<e.length by ext)];let hl0:=(H 0 u O).1;let(cs,J,Y,G):=FV I n () u ();let i0:bq (.list (e.map eP)) (.int 0)=-(eP u):=N0 () (by show(e.map eP)[0]?=_;rw[VN,O];rfl);show dI (ρ3:=E9 ns a n l g (zo (e.map eP)) E C (zf (.tuple (cs.map eV)))) (ck (rv:=.fz (.tuple (cs.map eV))) (ds:=[.int I,nd n,eP u]) (ai (ck (rv:=.fz (.int I)) (ds:=[.list (ns.map .int),.int ((a:Int)+10)]) (ai (ae W) (ai (aB (rv:=.fz (.int ((a:Int)+10))) (ae W) aC W W (hG _ _)) aJ)) W W z) (ai (ae W) (ai (aB (rv:=.fz (eP u)) (dx:=.list (e.map eP)) (mz W) aC W W i0) aJ))) W W G) W W ?_;let K:gx [.list (e.map eP)]=-(.tuple (e.map eP)):=W;show gq (pv:=.fz (bD #[n,e,cs,1+(A:Int)])) (rv:=.fz (bD #[n,e,cs,1+(A:Int)])) (ρ1:=E9 ns a n l g (zo (e.map eP)) E C (zf (.tuple (cs.map eV)))) (dJ (ds:=[nd n,.tuple (e.map eP),.tuple (cs.map eV),.int (1+(A:Int))]) (ai (ae W) (ai (fO (rv:=.fz (.tuple (e.map eP))) (ds:=[.list (e.map eP)]) (ai (mz W) aJ) W K) (ai (ae W) (ai (aB (rv:=.fz (.int (1+(A:Int)))) aC (ck (rv:=.fz (nd A)) (ds:=[.int l,.int 6,nd w]) (ai (ae W) (ai aC (ai (aB (rv:=.fz (nd w)) (dx:=.list [.int 4,.int 4,.int 2]) (by ext:0) (aB (rv:=.fz (.int ((n:Int) - 1))) (ae W) aC W W (uD _ _)) W W ew) aJ))) W W P) W W (hG _ _)) aJ)))) W (VJ W)) W #[_,#[Td n1 (Int.le_trans n3 ()) () O (by rw[F];show H) J Y () (),W],W]
 let(rv,h,b,(B,hb),rfl):=M;show#[b,B,hb,h]
section
variable{T N:bz}{Z S Y Q:bp}{x y z:SV}{i:Nat}{d:D}{X:bb (D×D)}
def wV(h:Z[i]?=R (.dd X)):qU Z (.rf i)=R (i,X):=by ext qU;dsimp only;rw[h]
def LF(a:f T Z=.ok x S)(hd:fd T S=.ok (.rf i) Y)(e:l9 x=R k)(b:Y[i]?=R (.dd X)):EJ neg f fd T Z=.ok (.fz (.bool ((iR X k).isSome !=neg))) Y:=by ext EJ;rw[a,eh,hd,eh,e];show((RS.WN Y (qU Y (.rf i))).bind _)=_;rw[wV b];rfl
def J3(hd:fd T Z=.ok (.rf i) S)(a:g T S=.ok x Y)(f:l9 x=R k)(e:Y[i]?=R (.dd X))(b:iR X k=R d):t9 fd g T Z=.ok (.fz d) Y:=by ext t9;rw[hd,eh,a,eh,f];show((RS.WN Y (qU Y (.rf i))).bind _)=_;rw[wV e];show((RS.WN Y (iR X k)).bind _)=_;rw[b];rfl
def K3(a:h T Z=.ok (.fz d) S)(hd:fd T S=.ok (.rf i) Y)(e:j T Y=.ok x Q)(g:l9 x=R k)(f:Q[i]?=R (.dd X))(b:X.length<1000000):yE fd j h T Z=.ok (.nx T) (Q.set i (.dd (qD X k d))):=by ext yE;rw[a,eh,hd,eh,e,eh,g];show((RS.WN Q (qU Q (.rf i))).bind _)=_;rw[wV f];show(if X.length<1000000 then _ else _)=_;rw[av b]
def nw(c:e T Z=.ok xs S)(b:xs.length=n)(a:F xs S=.ok x Y):jK F n e T Z=.ok x Y:=by ext jK;rw[c,eh,av b,a,Ai]
end
def mr{l r:bp}:(l++r)[l.length+t]?=r[t]? :=by rw[Wk (),aas]
def tW{l r:bp}:(l++r).set (l.length+t) c=l++r.set t c:=by rw[List.set_append_right _ _ (),aas]
structure Pl where
 p:D
 b:D
 e:D
def sJ(q:Pl):D:=.tuple [q.p,q.b,q.e]
def cX:G Pl->D->I Nat
 |[],_=>U
 |q::r,p=>if VD.eqv q.p p=P then R 0 else(cX r p).map (·+1)
def eN:Nat->G Pl->G (D×D)
 |_,[]=>[]
 |k,q::r=>(q.p,nd k)::eN (k+1) r
theorem mV:∀(k:Nat) (fs:G Pl) (p:D),iR (eN k fs) p=(cX fs p).map λi=>nd (k+i)
 |_,[],_=>rfl
 |k,q::r,p=>by
  let a:=mV (k+1) r p;unfold iR at a⊢;unfold eN cX;rw[WC];cases VD.eqv q.p p with
  |true=>rfl
  |false=>dsimp only;rw[a,ax VU,Option.map_map];congr 1;funext i;show nd (k+1+i)=nd (k+(i+1));rw[XA,abY 1 i]
theorem zQ:∀(k:Nat) (fs:G Pl) (q:Pl),eN k (fs++[q])=eN k fs++[(q.p,nd (k+fs.length))]
 |k,[],q=>rfl
 |k,a::r,q=>by show(a.p,nd k)::eN (k+1) (r++[q])=(a.p,nd k)::(eN (k+1) r++[(q.p,nd (k+(r.length+1)))]);rw[zQ (k+1) r q,XA,abY 1 r.length]
theorem sQ:∀(k:Nat) (fs:G Pl),(eN k fs).length=fs.length
 |_,[]=>rfl
 |k,q::r=>dP (·+1) (sQ (k+1) r)
def Fe(h:cX fs p=U):qD (eN 0 fs) p (nd fs.length)=eN 0 (fs++[#[p,b,e]]):=by
 let g:=mV 0 fs p;rw[h]at g;unfold iR at g;let f:((eN 0 fs).find? λa=>VD.eqv a.1 p)=U:=by
  cases q:(eN 0 fs).find? λa=>VD.eqv a.1 p with
  |none=>rfl
  |some x=>rw[q]at g;ext g
 ext qD;rw[f,zQ,WO];rfl
def tQ(h:cX fs q.p=U)(f:VD.eqv q.p q.p=P):cX (fs++[q]) q.p=R fs.length:=by
 induction fs with
 |nil=>show(if VD.eqv q.p q.p=P then R 0 else _)=_;rw[av f];rfl
 |cons a r b=>
  unfold cX at h;show(if VD.eqv a.p q.p=P then R 0 else(cX (r++[q]) q.p).map (·+1))=_;by_cases e:VD.eqv a.p q.p=P
  .rw[av e]at h;ext h
  .rw[ax e]at h⊢;rw[b (by cases k:cX r q.p with|none=>rfl|some _=>rw[k]at h;ext h)];rfl
def pL(h:LD.keyD p=P):VD.eqv p p=P:=by
 show Yi p (LD.kd_lay p ?_);cases p with
 |tuple xs=>unfold LD.keyD at h;rw[V9]at h;ext LD.kd;show h.1
 |_=>simp[LD.keyD]at h
def pF(m:Int)(j k:Nat):G (Str×SV):=[("most",.fz (.int m)),("found",.rf j),("numbers",.rf k)]
structure PSt(i j k:Nat)(m:Int)(fs:G Pl)(Z:bp):Prop where
 o:Z[i]?=R (.obj "Places" (pF m j k))
 f:Z[j]?=R (.lst ((fs.map sJ).map .fz))
 n:Z[k]?=R (.dd (eN 0 fs))
 jk:j≠k
 ij:i≠j
 ik:i≠k
 lt:fs.length<100000
def vS(j k:Nat)(fs:G Pl)(Z:bp):bp:=(Z.set k (.dd (eN 0 fs))).set j (.lst ((fs.map sJ).map .fz))
section
variable{i j k:Nat}{m:Int}{fs:bb Pl}{Z:bp}{p b e:D}
def PSt.ent(h:PSt i j k m fs Z)(l:fs.length+1<100000):PSt i j k m (fs++[q]) (vS j k (fs++[q]) Z):=by
 let g:=(Vv.mp h.f).1;let a:=(Vv.mp h.n).1;show#[?_,?_,?_,h.jk,h.ij,h.ik,by rw[Vy];show l]
 .ext vS;rw[WB (dr h.ij),WB (dr h.ik)];show h.o
 .ext vS;rw[WE (by rw[WL];show g)]
 .ext vS;rw[WB h.jk,WE a]
def HG:(pF m j k).lookup ("most":Str)=-(.int m):=by rfl
def nr:(pF m j k).lookup ("found":Str)=R (.rf j):=by rfl
def zJ:(pF m j k).lookup ("numbers":Str)=R (.rf k):=by rfl
def qV:(pF m j k).lookup ("enter":Str)=U:=by rfl
theorem Jc(a:LD.keyD p=P):l9 (.fz p)=R p:=av a
def qQ(h:PSt i j k m fs Z)(hm:L9.SM (.int m)=Vx)(N:m<=1000)(C:LD.keyD p=Vx):bA [.rf i,.fz p,.fz b,.fz e] Z=(match cX fs p with
  |some t=>.ok (.fz (nd t)) Z
  |none=>if m<=(fs.length:Int)then .er #["TooMany",[("most",.int m)]] Z else .ok (.fz (nd fs.length)) (vS j k (fs++[#[p,b,e]]) Z)):=by
 let w:=Jc C;let fn:∀{a:bp},a[i]?=R (.obj "Places" (pF m j k))->aY "Places" "numbers" (aw 0) [R (.rf i),-(p),-(b),-(e)] a=.ok (.rf k) a:=λz=>dL (bh W) z zJ;let E:∀{a:bp},a[i]?=R (.obj "Places" (pF m j k))->aY "Places" "found" (aw 0) [R (.rf i),-(p),-(b),-(e)] a=.ok (.rf j) a:=λz=>dL (bh W) z nr;let A:∀{a:bp},a[i]?=R (.obj "Places" (pF m j k))->aY "Places" "most" (aw 0) [R (.rf i),-(p),-(b),-(e)] a=.ok (.fz (.int m)) a:=λz=>dL (bh W) z HG;let u:∀{a:bp},af (aa 1) [R (.rf i),-(p),-(b),-(e)] a=.ok (.fz p) a:=ah (ae W);let g:=LF (neg:=Vx) u (fn h.o) w h.n;rw[mV]at g;let get:∀{l:bb Pl} {a:bp} {t:Nat},a[i]?=R (.obj "Places" (pF m j k))->a[k]?=R (.dd (eN 0 l))->cX l p=R t->gQ (t9 (aY "Places" "numbers" (aw 0)) (af (aa 1))) [R (.rf i),-(p),-(b),-(e)] a=.ok (.rt (.fz (nd t))) a:=λJ I H=>by show iO (J3 (fn J) u w I ?_);rw[mV,H];show R (nd (0+_))=_;rw[WO]
 let v:=lQ (ao (E h.o) aN) (by ext aV;rw[dh h.f];rfl) ((fV _).trans (by rw[Vw]));cases q:cX fs p with
 |some t=>rw[q]at g;show jg W ?_;show cZ (kg (bw g) jM) (get h.o h.n q)
 |none=>
  rw[q]at g;dsimp only;by_cases r:m<=(fs.length:Int)
  .rw[av r]
   let y:=bw (dz v (A h.o) (cM ((zr _ _).trans (by rw[aE r]))));show dc 4 dZ _ _=_;ext dc;show((dZ [R (.rf i),-(p),-(b),-(e)] Z).bind _)=_;let M:dZ [R (.rf i),-(p),-(b),-(e)] Z=.er #["TooMany",[("most",.int m)]] Z:=by ext dZ;ext aR;rw[iB (bw g) W,iB y W,Gi (A h.o) hm];rfl
   rw[M];rfl
  .rw[ax r]
   let y:=bw (dz v (A h.o) (cM ((zr _ _).trans (by rw[aP r]))));let B:=K3 v (fn h.o) u w h.n (by rw[sQ];let:=h.lt;ext);rw[Fe q]at B;let K:(Z.set k (.dd (eN 0 (fs++[#[p,b,e]]))))[i]?=R (.obj "Places" (pF m j k)):=(WB (dr h.ik)).trans h.o;let F:(Z.set k (.dd (eN 0 (fs++[#[p,b,e]]))))[j]?=R (.lst ((fs.map sJ).map .fz)):=(WB (dr h.jk)).trans h.f;let G:=vi (fe:=af (cz {aa 1,aa 2,aa 3})) (x:=.fz (sJ #[p,b,e])) (E K) F (ah (dJ (ai (ae W) (ai (ae W) (ai (ae W) aJ))) W (VJ W))) F (by rw[Vw,Vw];let:=h.lt;ext);let L:(Z.set k (.dd (eN 0 (fs++[#[p,b,e]])))).set j (.lst ((fs.map sJ).map SV.fz++[.fz (sJ #[p,b,e])]))=vS j k (fs++[#[p,b,e]]) Z:=by ext vS;rw[V4,V4];rfl
   rw[L]at G;let P:=h.ent (q:=#[p,b,e]) ();show jg W ?_;show cZ (iB (bw g) (cZ (kg y jM) (cZ B (iY G)))) (get P.o P.n (tQ q (pL C)))
end
def gU(Z:bp)(m:Int)(fs:G Pl)(J:bp):bp:=Z++(Cell.obj "Places" (pF m (Z.length+1) (Z.length+2)):: .lst ((fs.map sJ).map .fz):: .dd (eN 0 fs)::J)
theorem xI(h:fs.length<100000):PSt Z.length (Z.length+1) (Z.length+2) m fs (gU Z m fs J):=
 #[by let:=mr (l:=Z) (r:=Cell.obj "Places" (pF m (Z.length+1) (Z.length+2)):: .lst ((fs.map sJ).map .fz):: .dd (eN 0 fs)::J) (t:=0);show this,mr,mr,by ext,by ext,by ext,h]
def yY:vS (Z.length+1) (Z.length+2) a (gU Z m fs J)=gU Z m a J:=by unfold vS gU;rw[tW,tW];rfl
def TM(m:Int):Xc:=#["TooMany",[("most",.int m)]]
def uB(a:0<=m)(h:m<=1000):L9.SM (.int m)=P:=by show aE (abI (Nat.log2_le_self m.natAbs) ?_);ext
def AD(l:LD.keyD p=Vx)(j:0<=m)(f:m<=1000):bZ [.rf Z.length,.fz p,.fz (.int m)] (Z++[.obj "Places" []])=if m<=0 then .er (TM m) (gU Z m [] [])else .ok (.fz .none) (gU Z m [#[p,.none,.none]] []):=by
 let i:fu "Places" "most" (aw 0) (af (aa 2)) [R (.rf Z.length),-(p),-(.int m)] (Z++[.obj "Places" []])=.ok (.nx [R (.rf Z.length),-(p),-(.int m)]) (Z++[.obj "Places" [("most",.fz (.int m))]]):=
  (kT (ah (ae W)) (bh W) aQ ()).trans (by rw[eF];rfl)
 let h:fu "Places" "found" (aw 0) (af (de az)) [R (.rf Z.length),-(p),-(.int m)] (Z++[.obj "Places" [("most",.fz (.int m))]])=.ok (.nx [R (.rf Z.length),-(p),-(.int m)]) (Z++[.obj "Places" [("most",.fz (.int m)),("found",.rf (Z.length+1))],.lst []]):=by show(kT (dA (by ext:0)) (bh W) (by rw[V6];show mr (t:=0)) (VJ W)).trans ?_;rw[V6,show Z.length=Z.length+0 from rfl,tW,Vy];rfl
 let g:fu "Places" "numbers" (aw 0) yC [R (.rf Z.length),-(p),-(.int m)] (Z++[.obj "Places" [("most",.fz (.int m)),("found",.rf (Z.length+1))],.lst []])=.ok (.nx [R (.rf Z.length),-(p),-(.int m)]) (gU Z m [] []):=by show(kT W (bh W) (by rw[V6];show mr (t:=0)) (VJ W)).trans ?_;rw[V6,show Z.length=Z.length+0 from rfl,tW,Vy];rfl
 let P:PSt Z.length (Z.length+1) (Z.length+2) m [] (gU Z m [] []):=xI ();let n:=qQ (b:=.none) (e:=.none) P (uB j f) f l;let a:=yU (F:=bA) (fo:=aw 0) (fa:=aj (af (aa 1)) (aj (af (pC .none)) (aj (af (pC .none)) aH))) (ρ:=[R (.rf Z.length),-(p),-(.int m)]) (bh W) P.o qV (ao (ah (ae W)) (ao (ah aC) (ao (ah aC) aN))) W;rw[n]at a;let a:qJ "Places" "enter" bA 4 (aw 0) (aj (af (aa 1)) (aj (af (pC .none)) (aj (af (pC .none)) aH))) [R (.rf Z.length),-(p),-(.int m)] (gU Z m [] [])=if m<=0 then .er (TM m) (gU Z m [] [])else .ok (.fz (nd 0)) (vS (Z.length+1) (Z.length+2) [#[p,.none,.none]] (gU Z m [] [])):=a
 rw[yY]at a;show dc 3 dC _ _=_;ext dc;show((dC [R (.rf Z.length),-(p),-(.int m)] (Z++[.obj "Places" []])).bind _)=_;ext dC;rw[cZ i W,cZ h W,cZ g W];ext bT;rw[a];split<;>rfl
theorem jG:∀{l:G α},(∀a∈l,LD.kd (f a)=P)->LD.kds (l.map f)=P
 |[],_=>by rw[YZ,LD.kds]
 |a::r,h=>by rw[V1,LD.kds,h a VV,jG λx b=>h x (VX _ b)];rfl
theorem yn:∀b:G Nat,LD.kds (bX b)=P:=λb=>jG λa _=>by show LD.kd (.int a)=P;rw[LD.kd]
def Ip(h:LB m):LD.kd (mD m)=P:=by
 cases m with
 |Wo c=>show LD.kd (.tuple [.str "letter",.str (kH c)])=P;simp only[LD.kd,LD.kds];rw[mf h,show VD.strOk "letter"=P by left];rfl
 |Yq n=>show LD.kd (.tuple [.str "layer",.int n])=P;simp only[LD.kd,LD.kds];rw[show VD.strOk "layer"=P by left];rfl
 |tap c n=>show LD.kd (.tuple [.str "tap",.str (kH c),.int n])=P;simp only[LD.kd,LD.kds];rw[mf h,show VD.strOk "tap"=P by left];rfl
 |once n=>show LD.kd (.tuple [.str "once",.int n])=P;simp only[LD.kd,LD.kds];rw[show VD.strOk "once"=P by left];rfl
 |none=>show LD.kd (.tuple [.str "none"])=P;simp only[LD.kd,LD.kds];rw[show VD.strOk "none"=P by left];rfl
 |below=>show LD.kd (.tuple [.str "below"])=P;simp only[LD.kd,LD.kds];rw[show VD.strOk "below"=P by left];rfl
def J5(h:SW b s):LD.kd (cO s)=P/\VD.depth (cO s)<=4:=by
 let j:LD.kds ((jb s.ac).map pD)=P:=jG λq l=>by show LD.kd (.tuple [nd q.1,mD q.2])=P;simp only[LD.kd,LD.kds];rw[Ip (h.sa.ac _ _ (ig.mp l).2).2.lb];rfl
 let o:∀m:Mn,VD.depth (mD m)<=1:=λm=>by ext m<;>show VJ W
 let p:VD.depthAll ((jb s.ac).map pD)<=2:=k7 λq _=>by show max 0 (max (VD.depth (mD q.2)) 0)+1<=2;let:=o q.2;ext
 let f:LD.kd (kY s.wt)=P/\VD.depth (kY s.wt)<=2:=by
  cases q:s.wt with
  |none=>show#[by show LD.kd .none=P;rw[LD.kd],Wx _]
  |some x=>
   let(a,g,w):=x;let v:=(h.wt a g w q).1;constructor
   .show LD.kd (.tuple [.tuple (bX a),.int g,vT w])=P
    simp only[LD.kd,LD.kds];rw[yn];cases w with
    |none=>show(P&&(P&&(LD.kd (.tuple [.str "chord"])&&P)))=P;simp only[LD.kd,LD.kds];rw[show VD.strOk "chord"=P by left];rfl
    |some i=>let(c,n):=i;let lb:LB (.tap c n):=(v.tp c n W).1;show(P&&(P&&(LD.kd (mD (.tap c n))&&P)))=P;rw[Ip lb];rfl
   .show max (VD.depthAll (bX a)+1) (max 0 (max (VD.depth (vT w)) 0))+1<=2
    rw[k6];cases w with
    |none=>show VJ W
    |some i=>show VJ W
 let e:LD.kd (vH s.oc)=P/\VD.depth (vH s.oc)=0:=by cases s.oc<;>show#[by show LD.kd _=P;ext vH;simp only[LD.kd],W]
 constructor
 .show LD.kd (.tuple [.tuple ((jb s.ac).map pD),kY s.wt,vH s.oc])=P;simp only[LD.kd,LD.kds];rw[j,f.1,e.1];rfl
 .show max (VD.depthAll ((jb s.ac).map pD)+1) (max (VD.depth (kY s.wt)) (max (VD.depth (vH s.oc)) 0))+1<=4;rw[e.2];let:=f.2;ext
def rM(h:SW b s):LD.keyD (cO s)=P:=by let(a,e):=J5 h;unfold cO at a e⊢;rw[LD.kd]at a;rw[LD.keyD];rw[a,aE (show _<=8 by ext)];rfl
def ei(n:Nat):G YU:=(VI n).map .down++(VI n).map .up++[.turn]
def jZ{b:Bd}{n:Nat}(c:b.n=n):∀e∈ei n,EV b e:=by
 intro e a;rcases Wr.mp a with a|a
 .rcases Wr.mp a with a|a
  .let(k,f,rfl):=Wh.mp a;let:=WI.mp f;show(k:Int)<b.n;ext
  .let(k,f,rfl):=Wh.mp a;let:=WI.mp f;show(k:Int)<b.n;ext
 .rw[VW.mp a];trivial
theorem PF(h:xs.length+a.length<=1000000):dQ (.list xs) (.list a)=R (.ow (xs++a)):=av h
theorem QH(b:Bd):bq (bD b) (.int 0)=-(.int b.n):=iz
def Iu{b:Bd}{n:Nat}(c:b.n=n)(l:n<=5):ef [bD b]=.ok (.ow ((ei n).map eS)):=by
 let i:ju [.int b.n]=R (bX (VI n)):=by rw[c];show nA ()
 let j:=QH b;let a:(VI n).length<=1000:=by rw[V2];ext
 let f:oi (eX (gN 0) eU (cz {pC (.str "down"),aa 0}) (bX (VI n)) [U] [])=.ok ((VI n).map λk=>eS (.down k)):=lg nd (λk=>eS (.down k)) (VI n) a W λk _=>dJ (ai aC (ai (ae W) aJ)) W (VJ W);let e:oi (eX (gN 0) eU (cz {pC (.str "up"),aa 0}) (bX (VI n)) [U] [])=.ok ((VI n).map λk=>eS (.up k)):=lg nd (λk=>eS (.up k)) (VI n) a W λk _=>dJ (ai aC (ai (ae W) aJ)) W (VJ W);let h:dQ (.list ((VI n).map λk=>eS (.down k))) (.list ((VI n).map λk=>eS (.up k)))=R (.ow (((VI n).map λk=>eS (.down k))++(VI n).map λk=>eS (.up k))):=PF (by rw[Vw,Vw];ext);let g:dQ (.list (((VI n).map λk=>eS (.down k))++(VI n).map λk=>eS (.up k))) (.list [eS .turn])=R (.ow ((ei n).map eS)):=(PF (by rw[Vy,Vw,Vw];show _+1<=_;ext)).trans (by ext ei;rw[V4,V4,Wd,Wd];rfl);show jX W ?_;ext mG;show dI (gf (by ext:0) W f) W W ?_;show dI (gf (by ext:0) W e) W W ?_;show gq (aB (aB (mz W) (mz W) W W h) (uU (ai (dJ (ai aC (ai aC aJ)) W (VJ W)) aJ) W (VJ W)) W W g) W W
section
variable{Y:bz}{Z Q:bp}{i:Nat}{S:dM}{T:SV->bp->Prop}{X:Xc->Prop}
def AN(h:Z[i]?=R (.lst xs)):gL Z (.rf i)=R (i,xs):=by ext gL;dsimp only;rw[h]
def MA(a:l Y Z=.ok (.rf i) Z)(h:Z[i]?=R (.lst xs))(b:Out (S Y Z) (λx c=>∃d,c[i]?=R (.lst d)/\d.length<1000000/\T (.fz .none) (c.set i (.lst (d++[x])))) X):Out (lG l S Y Z) T X:=by
 show .eq (show lG l S Y Z=(S Y Z).bind λx c=>(RS.WN c (gL c (.rf i))).bind λp j=>if p.2.length<1000000 then .ok (.fz .none) (j.set p.1 (.lst (p.2++[x])))else .bad from ?_) (Out.bind (b.imp λx c k=>?_))
 .ext lG;rw[a,eh,AN h];rfl
 .let(d,g,f,e):=k;show .eq (r':=RS.ok (SV.fz .none) (c.set i (.lst (d++[x])))) ?_ #[e];rw[AN g];show(if d.length<1000000 then _ else _)=_;rw[av f]
def My(a:Out (S Y Z) (λx c=>∃ds,sh c x=R (.list ds)/\T (.fz (.tuple ds)) c) X):Out (kL gx (aj S aH) Y Z) T X:=by
 show .eq (show kL gx (aj S aH) Y Z=(S Y Z).bind λx c=>JH gx [x] c from ?_) (Out.bind (a.imp λx c k=>?_))
 .unfold kL aj;cases S Y Z<;>rfl
 .let(ds,e,b):=k;show .eq (r':=RS.ok (SV.fz (.tuple ds)) c) ?_ #[b];unfold JH aV aV;rw[e];rfl
end
structure Rm where
 s:Yf
 b:D
 e:D
def jY(r:Rm):Pl:=#[cO r.s,r.b,r.e]
def lK(fs:G Rm)(s:Yf)(b e:D):G Rm:=if(cX (fs.map jY) (cO s)).isSome=P then fs else fs++[#[s,b,e]]
def fS(fs:G Rm)(s:Yf):Nat:=(cX (fs.map jY) (cO s)).getD fs.length
def gr(b:Bd)(s:Yf)(r:Nat)(fs:G Rm)(a:G YU):G Rm:=a.foldl (λfs e=>lK fs (aG b s e).1 (nd r) (eS e)) fs
def zk{a:G YU}(h:a[i]?=R e):gr b s r fs (a.take (i+1))=lK (gr b s r fs (a.take i)) (aG b s e).1 (nd r) (eS e):=by ext gr;rw[X1,h,abS];rfl
def MX(fs:G Rm)(s:Yf)(b e:D):fs<+:lK fs s b e:=by
 ext lK;split
 .show YA _
 .show aeP _ _
theorem sX:∀(a:G YU) (fs:G Rm),fs<+:gr b s r fs a
 |[],fs=>YA _
 |e::a,fs=>(MX fs _ _ _).trans (sX a _)
def AB(a:G YU)(fs:G Rm)(i:Nat):gr b s r fs (a.take i)<+:gr b s r fs a:=by
 let e:gr b s r fs a=gr b s r (gr b s r fs (a.take i)) (a.drop i):=by ext gr;rw[<-abS,List.take_append_drop]
 rw[e];show sX _ _
theorem sN:∀{fs b:G Pl},cX fs p=R t->cX (fs++b) p=R t
 |[],_,h=>by ext h
 |a::r,b,h=>by
  unfold cX at h;show(if VD.eqv a.p p=P then R 0 else(cX (r++b) p).map (·+1))=_;split
  .rename_i e;rw[av e]at h;show h
  .rename_i e
   rw[ax e]at h;cases q:cX r p with
   |none=>rw[q]at h;ext h
   |some j=>rw[q]at h;rw[sN q];show h
def DW(h:fs<+:b)(a:cX (fs.map jY) (cO s)=R t):fS b s=t:=by let(l,rfl):=h;ext fS;rw[V4,sN a];rfl
theorem Rq(h:SW b s):VD.eqv (cO s) (cO s)=P:=pL (rM h)
def sY(h:SW b s)(x y:D):cX ((lK fs s x y).map jY) (cO s)=R (fS fs s):=by
 unfold lK fS;cases q:cX (fs.map jY) (cO s)with
 |some t=>show cX (fs.map jY) (cO s)=_;rw[q];rfl
 |none=>show cX ((fs++[(#[s,x,y]:Rm)]).map jY) (cO s)=R fs.length;rw[V4];let:=tQ (q:=#[cO s,x,y]) q (Rq h);rw[Vw]at this;show this
def Qt(h:SW b s)(e:∀r∈fs,SW b r.s):∀r∈lK fs s x y,SW b r.s:=by
 ext lK;split
 .show e
 .intro r a
  rcases Wr.mp a with a|a
  .show e r a
  .rw[VW.mp a];show h
theorem Bq(a:VB b)(f:SW b s):∀(c:G YU) (fs:G Rm),(∀e∈c,EV b e)->(∀r∈fs,SW b r.s)->∀q∈gr b s r fs c,SW b q.s
 |[],fs,_,hf=>hf
 |e::c,fs,he,hf=>Bq a f c _ (λx g=>he x (VX _ g)) (Qt (ja a f (he e VV)) hf)
def b8(b:Bd)(a:G YU):Nat->G Rm
 |0=>[#[xo,.none,.none]]
 |i+1=>match(b8 b a i)[i]? with
  |some r=>gr b r.s i (b8 b a i) a
  |none=>b8 b a i
def oJ(h:(b8 b a i)[i]?=R r):b8 b a (i+1)=gr b r.s i (b8 b a i) a:=by show(match(b8 b a i)[i]? with|some r=>gr b r.s i (b8 b a i) a|none=>b8 b a i)=_;rw[h]
def tJ(h:(b8 b a i).length<=i):b8 b a (i+1)=b8 b a i:=by show(match(b8 b a i)[i]? with|some r=>gr b r.s i (b8 b a i) a|none=>b8 b a i)=_;rw[Xd h]
def zM(b:Bd)(a:G YU)(i:Nat):b8 b a i<+:b8 b a (i+1):=by
 by_cases h:i<(b8 b a i).length
 .rw[oJ (Vz h)];show sX _ _
 .rw[tJ ()];show YA _
def nt(b:Bd)(c:G YU)(i k:Nat):b8 b c i<+:b8 b c (i+k):=by
 induction k with
 |zero=>show YA _
 |succ k a=>show a.trans (zM b c (i+k))
def NL(h:(b8 b e N).length<=N)(k:Nat):b8 b e (N+k)=b8 b e N:=by
 induction k with
 |zero=>rfl
 |succ k a=>rw[<-XA,tJ (by rw[a];ext),a]
def uf(h:(b8 b a N).length<=N)(i:Nat):(b8 b a i).length<=(b8 b a N).length:=by
 by_cases hi:i<=N
 .let(k,rfl):=Ys hi;show(nt b a i k).length_le
 .let(k,rfl):=Ys (show N<=i by ext);rw[NL h];show VP _
def Md(h:(b8 b g N).length=N)(c:(b8 b g f).length=f):N=f:=by let e:=uf (ZF h) f;let a:=uf (ZF c) N;ext
theorem lx(a:VB b)(f:∀e∈j,EV b e):∀i,∀r∈b8 b j i,SW b r.s
 |0=>λr g=>by rw[VW.mp g];show lw b
 |i+1=>by
  by_cases h:i<(b8 b j i).length
  .rw[oJ (Vz h)];show Bq a (lx a f i _ (Xt h)) j _ f (lx a f i)
  .rw[tJ ()];show lx a f i
def yl(b:Bd)(a:G YU)(i:Nat):1<=(b8 b a i).length:=by let:=(nt b a 0 i).length_le;rw[WO]at this;show this
theorem PH(h:i<(b8 b a i).length):i+1<=(b8 b a (i+1)).length:=Wt h (zM b a i).length_le
def jA(b:Bd)(s:Yf)(e:YU):D:=.tuple [.list ((aG b s e).2.map gX),cO (aG b s e).1]
def oZ(b:Bd)(s:Yf)(e:YU):Cell:=.lst (((aG b s e).2.map gX).map .fz)
def Ec(b:Bd)(s:Yf):Nat->G YU->G SV
 |_,[]=>[]
 |n,e::r=>.tp [.rf n,.fz (cO (aG b s e).1)]::Ec b s (n+1) r
theorem zS(b:Bd)(s:Yf):∀(c:G YU) (n:Nat) (e:YU),Ec b s n (c++[e])=Ec b s n c++[.tp [.rf (n+c.length),.fz (cO (aG b s e).1)]]
 |[],n,e=>rfl
 |a::r,n,e=>by show _::Ec b s (n+1) (r++[e])=_::(Ec b s (n+1) r++_);rw[zS b s r (n+1) e,XA,abY 1 r.length];rfl
theorem Fq(b:Bd)(s:Yf):∀(a:G YU) (n:Nat),(Ec b s n a).length=a.length
 |[],_=>rfl
 |_::r,n=>dP (·+1) (Fq b s r (n+1))
theorem EZ(b:Bd)(s:Yf):∀(k:G YU) (Z j:bp),i4 (frz 3) (Z++(k.map (oZ b s)++j)) (Ec b s Z.length k)=lD (k.map (jA b s),Z++(VR k.length .dead++j))
 |[],Z,j=>rfl
 |e::r,Z,j=>by
  let g:(Z++(oZ b s e::(r.map (oZ b s)++j)))[Z.length]?=lD (oZ b s e):=mr (t:=0);let i:frz 2 (Z++(oZ b s e::(r.map (oZ b s)++j))) (.rf Z.length)=lD (.list ((aG b s e).2.map gX),Z++(.dead::(r.map (oZ b s)++j))):=by ext frz;rw[g];ext oZ;dsimp only;rw[pX];dsimp only;let:=tW (l:=Z) (r:=oZ b s e::(r.map (oZ b s)++j)) (t:=0) (c:=.dead);show dP (λz=>lD (VD.list ((aG b s e).2.map gX),z)) this
  let h:frz 3 (Z++(oZ b s e::(r.map (oZ b s)++j))) (.tp [.rf Z.length,.fz (cO (aG b s e).1)])=lD (jA b s e,Z++(.dead::(r.map (oZ b s)++j))):=by
   let f:i4 (frz 2) (Z++(oZ b s e::(r.map (oZ b s)++j))) [.rf Z.length,.fz (cO (aG b s e).1)]=lD ([.list ((aG b s e).2.map gX),cO (aG b s e).1],Z++(.dead::(r.map (oZ b s)++j))):=by ext i4;rw[i];rfl
   ext frz;rw[show([AV.rf Z.length,AV.fz (cO (aG b s e).1)].map AV.sv)=[.rf Z.length,.fz (cO (aG b s e).1)]from rfl,f];rfl
  let a:=EZ b s r (Z++[.dead]) j;rw[Vy,V6,V6]at a;show(match frz 3 (Z++(oZ b s e::(r.map (oZ b s)++j))) (.tp [.rf Z.length,.fz (cO (aG b s e).1)])with
   |some (d,n)=>(match i4 (frz 3) n (Ec b s (Z.length+1) r)with
    |some (ds,m)=>lD (d::ds,m)
    |none=>U)
   |none=>U)=_
  rw[h];dsimp only;rw[show Z++(Cell.dead::(r.map (oZ b s)++j))=Z++([Cell.dead]++(r.map (oZ b s)++j))from rfl,show Z.length+1=Z.length+[Cell.dead].length from rfl,a];rfl
def BO(m:VB b)(sw:SW b s){c:G YU}(p:∀e∈c,EV b e)(y:c.length<=1000)(v:ρ[0]?=R (-(bD b)))(u:ρ[2]?=R (-(.list (c.map eS))))(t:ρ[7]?=R (-(cO s))):
  ∃J,iL (eO 1 [0,7] (gR (iq (aa 2))) (df 0) cL (oo STP.iQ 3 (aj (af (aa 1)) (aj (af (aa 2)) (aj (af (aa 0)) aH))))) ρ Z=.ok (.fz (.list (c.map (jA b s)))) (Z++J):=by
 let A:gR (iq (aa 2)) ρ Z=.ok (c.map eS) Z:=kG (lA (ae (by ext b9;rw[VN,u];rfl)) W W);let h:fM 1 [0,7] ρ=[U,-(bD b),-(cO s)]:=by ext fM;show U::[(ρ[0]?).join,(ρ[7]?).join]=_;rw[v,t];rfl
 let r:=jd (X:=λ_=>False) (gt:=df 0) (ft:=cL) (fe:=oo STP.iQ 3 (aj (af (aa 1)) (aj (af (aa 2)) (aj (af (aa 0)) aH)))) (λi a l g=>∃o,a=[o,-(bD b),-(cO s)]/\l=Z++(c.take i).map (oZ b s)/\g=Ec b s Z.length (c.take i)) (c.map eS) 0 (fM 1 [0,7] ρ) Z [] #[U,h,by rw[acJ,YZ,Wi],W] (by
  rintro i d a l g f ⟨o,rfl,rfl,rfl⟩;rw[WO];rw[VN]at f;cases q:c[i]? with
  |none=>rw[q]at f;ext f
  |some e=>
   rw[q]at f;cases VZ f;let w:=(Vv.mp q).1;show#[by rw[Fq,W2];ext,[-(eS e),-(bD b),-(cO s)],W,W,?_];let n:uY STP.iQ 3 [.fz (bD b),.fz (cO s),.fz (eS e)] (Z++(c.take i).map (oZ b s))=.ok (.tp [.rf (Z++(c.take i).map (oZ b s)).length,.fz (cO (aG b s e).1)]) ((Z++(c.take i).map (oZ b s))++[oZ b s e]):=OM m sw (p e (VS q));show .eq (r':=RS.ok (SV.tp [.rf (Z++(c.take i).map (oZ b s)).length,.fz (cO (aG b s e).1)]) ((Z++(c.take i).map (oZ b s))++[oZ b s e])) ?_ #[_,W,?_,?_]
   .ext oo;rw[ao (ah (ae W)) (ao (ah (ae W)) (ao (ah (ae W)) aN)),eh,n];rfl
   .rw[X1,q,V4,V6];rfl
   .rw[X1,q];show Ec b s Z.length (c.take i)++_=Ec b s Z.length (c.take i++[e]);rw[zS,Vy,Vw])
 let(xs,z,j,a,o,_,rfl,rfl):=r.all;rw[WO,Vw,X9]at j;let cm:=hW A j;let fz:frz 4 ((Z++c.map (oZ b s))++[Cell.lst (Ec b s Z.length c)]) (.rf (Z++c.map (oZ b s)).length)=R (.list (c.map (jA b s)),(Z++(VR c.length Cell.dead++[Cell.lst (Ec b s Z.length c)])).set (Z++c.map (oZ b s)).length .dead):=by ext frz;rw[aQ];dsimp only;rw[V6,EZ b s c Z [Cell.lst (Ec b s Z.length c)]]
 rw[Vy,tW]at fz;show#[_,gZ cm (by rw[Vy];show fz)]
theorem Fd(f g:α->D):∀l:G α,mh (l.map f) (l.map g)=l.map λx=>.tuple [f x,g x]
 |[]=>rfl
 |x::r=>by show VD.tuple [f x,g x]::mh (r.map f) (r.map g)=_;rw[Fd f g r];rfl
def Gb{b:Bd}(B:VB b){s:Yf}(sw:SW b s){c:bb YU}(E:∀e∈c,EV b e)(D:c.length<=1000){ρ:bz}{Z J:bp}{m:Int}{r:Nat}{fs:bb Rm}(I:0<=m)(C:m<=1000)(T:(fs.length:Int)<=m)
  (R:ρ[2]?=lD (-(.list (c.map eS)))) (Q:ρ[3]?=lD (lD (.rf Z.length))) (O:ρ[6]?=lD (-(nd r))) (N:ρ[8]?=lD (-(.list (c.map (jA b s))))):
  Out (tY 2 [3,6] (gR (zC {aa 2,aa 8})) (So 2 (uX (df 0) (uX (df 1) Gz))) cL (qJ "Places" "enter" bA 4 (aw 2) (aj (af (aL bq (aa 1) (~~~1))) (aj (af (aa 3)) (aj (af (aa 0)) aH)))) ρ (gU Z m (fs.map jY) J))
   (λx k=>x=.rf (gU Z m ((gr b s r fs c).map jY) J).length/\k=gU Z m ((gr b s r fs c).map jY) (J++[.lst ((c.map λe=>nd (fS (gr b s r fs c) (aG b s e).1)).map .fz)])/\((gr b s r fs c).length:Int)<=m)
   (λx=>x=TM m/\m<((gr b s r fs c).length:Int)):=by
 let hi:gR (zC {aa 2,aa 8}) ρ (gU Z m (fs.map jY) J)=.ok (c.map λe=>.tuple [eS e,jA b s e]) (gU Z m (fs.map jY) J):=by
  let H:(b9 ρ)[2]?=lD (-(.list (c.map eS))):=by ext b9;rw[VN,R];rfl
  let G:(b9 ρ)[8]?=lD (-(.list (c.map (jA b s)))):=by ext b9;rw[VN,N];rfl
  rw[<-Fd];show kG (yP (d:=.list (c.map eS)) (e:=.list (c.map (jA b s))) (ai (ae H) (ai (ae G) aJ)) W W W)
 let A:fM 2 [3,6] ρ=[Vt,Vt,lD (.rf Z.length),-(nd r)]:=by ext fM;show Vt::Vt::[(ρ[3]?).join,(ρ[6]?).join]=_;rw[Q,O];rfl
 show C0 hi (Out.imp (jd (λi f k l=>∃v u,f=[v,u,lD (.rf Z.length),-(nd r)]/\k=gU Z m ((gr b s r fs (c.take i)).map jY) J/\l=((c.take i).map λe=>nd (fS (gr b s r fs c) (aG b s e).1)).map .fz/\((gr b s r fs (c.take i)).length:Int)<=m) (c.map λe=>.tuple [eS e,jA b s e]) 0 (fM 2 [3,6] ρ) (gU Z m (fs.map jY) J) [] #[Vt,Vt,A,W,W,T] ?_) ?_)
 .rintro i d f k l j ⟨v,u,rfl,rfl,rfl,hle⟩
  rw[WO]at hle⊢;rw[VN]at j;cases q:c[i]? with
  |none=>rw[q]at j;ext j
  |some e=>
   rw[q]at j;cases VZ j;let Y:=(Vv.mp q).1;let y:=E e (VS q);let g:=ja B sw y;let rt:=zk (b:=b) (s:=s) (r:=r) (fs:=fs) q;let h:=AB (b:=b) (s:=s) (r:=r) c fs (i+1);let S:=Bq B sw (r:=r) (c.take i) fs (λx M=>E x (List.mem_of_mem_take M));generalize hF:gr b s r fs (c.take i)=F at hle rt;show#[by rw[Vw,Vw,W2];ext,[-(eS e),-(jA b s e),lD (.rf Z.length),-(nd r)],W,W,?_];let K:(F.map jY).length<100000:=by rw[Vw];ext
   let P:PSt Z.length (Z.length+1) (Z.length+2) m (F.map jY) (gU Z m (F.map jY) J):=xI K;let U:=qQ (b:=nd r) (e:=eS e) P (uB I C) C (rM g);let L:bq (jA b s e) (.int 1)=-(cO (aG b s e).1):=jt;let a:=yU (n:=4) (m:= "enter") (F:=bA) (fo:=aw 2) (fa:=aj (af (aL bq (aa 1) (~~~1))) (aj (af (aa 3)) (aj (af (aa 0)) aH))) (ρ:=[-(eS e),-(jA b s e),lD (.rf Z.length),-(nd r)]) (xs:=[.fz (cO (aG b s e).1),.fz (nd r),.fz (eS e)]) (bh W) P.o qV (ao (ah (aB (rv:=.fz (cO (aG b s e).1)) (ae W) aC W W L)) (ao (ah (ae W)) (ao (ah (ae W)) aN))) W;rw[U]at a;let w:=DW h (s:=(aG b s e).1) (t:=fS F (aG b s e).1) (by rw[rt];show sY g _ _);let X:((c.take (i+1)).map λe=>nd (fS (gr b s r fs c) (aG b s e).1)).map SV.fz=((c.take i).map λe=>nd (fS (gr b s r fs c) (aG b s e).1)).map .fz++[.fz (nd (fS F (aG b s e).1))]:=by rw[X1,q,V4,V4];show _++[SV.fz (nd (fS (gr b s r fs c) (aG b s e).1))]=_;rw[w]
   rw[X,rt];cases o:cX (F.map jY) (cO (aG b s e).1)with
   |some t=>
    rw[o]at a;let p:lK F (aG b s e).1 (nd r) (eS e)=F:=by ext lK;rw[o];rfl
    let z:fS F (aG b s e).1=t:=by ext fS;rw[o];rfl
    rw[p,z];show .eq a #[_,_,W,W,W,hle]
   |none=>
    rw[o]at a;let p:lK F (aG b s e).1 (nd r) (eS e)=F++[#[(aG b s e).1,nd r,eS e]]:=by ext lK;rw[o];rfl
    let z:fS F (aG b s e).1=F.length:=by ext fS;rw[o];rfl
    dsimp only at a;rw[Vw]at a;by_cases hm:m<=(F.length:Int)
    .rw[av hm]at a;show .eq a #[W,?_];let:=h.length_le;rw[rt,p,Vy]at this;let this:F.length+1<=_:=this;ext
    .rw[ax hm,yY]at a;rw[p,z];show .eq a #[_,_,W,by rw[V4];rfl,W,?_];rw[Vy];show((F.length+1:Nat):Int)<=m;ext
 .rintro xs k ⟨f,v,u,_,rfl,rfl,hle⟩;rw[WO,Vw,X9] at*;show#[W,?_,hle];ext gU;rw[V6];rfl
def ve(h:Out r T X)(k:∀a Z,T a Z->T' a Z)(b:∀x,X x->X' x):Out r T' X':=by
 show#[?_];let h:=h.out;cases r with
 |bad=>show h
 |er x o=>show b x h
 |ok a o=>show k a o h
def HY(b:Bd)(a:G YU)(j:Nat):D:=match(b8 b a j)[j]? with
 |some r=>.tuple (a.map λe=>nd (fS (b8 b a (j+1)) (aG b r.s e).1))
 |none=>.none
def zV(b:Bd)(a:G YU)(j:Nat):D:=match(b8 b a j)[j]? with
 |some r=>.tuple (a.map λe=>.tuple ((aG b r.s e).2.map gX))
 |none=>.none
def jy(b:Bd)(a:G YU)(n:Nat):G D:=(VI n).map (HY b a)
def bF(b:Bd)(a:G YU)(n:Nat):G D:=(VI n).map (zV b a)
def vI(Z:bp)(m:Int)(b:Bd)(a:G YU)(n:Nat)(J:bp):bp:=gU Z m ((b8 b a n).map jY) (.lst ((jy b a n).map .fz):: .lst ((bF b a n).map .fz)::J)
def nF:gU Z m fs (J++K)=gU Z m fs J++K:=by ext gU;rw[V6];rfl
def DD:(gU Z m fs J).length=Z.length+3+J.length:=by ext gU;rw[Vy];show Z.length+(J.length+1+1+1)=_;ext
theorem UR{n:Nat}{v:SV}(h:xs[n]?=R v):og xs (n:Int)=R v:=xf () (by rw[W0];show h)
abbrev W9(b:Bd)(m:Int)(e:G YU)(l:Nat)(d c a:I SV):bz:=[-(bD b),-(.int m),-(.list (e.map eS)),R (.rf l),R (.rf (l+3)),R (.rf (l+4)),d,c,a]
def uo(A:VB b){n:Nat}(k:b.n=n)(s:n<=5)(S:0<=m)(R:m<=1000)(a:bp):Out (iw [.fz (bD b),.fz (.int m)] a) (λv c=>∃N J,(b8 b (ei n) N).length=N/\(N:Int)<=m/\v=.tp [.rf (a.length+2),.rf (a.length+4),.rf (a.length+5)]/\c=vI (a++[.dead]) m b (ei n) N J) (λx=>x=TM m/\∃i,m<((b8 b (ei n) i).length:Int)):=by
 let p:(ei n).length<=1000:=by ext ei;rw[Vy,Vy,Vw,Vw,V2];show n+n+1<=_;ext
 let l:=jZ k;let ev:=Iu k s;generalize ei n=f at p l ev;show oH W ?_;ext tN;let e1:iL (af (d7 ef 1 {aa 0})) [-(bD b),-(.int m),Vt,Vt,Vt,Vt,Vt,Vt,Vt] a=.ok (.fz (.list (f.map eS))) (a++[.dead]):=by show gZ (dA (ck (ai (ae W) aJ) W W ev)) ?_;rw[jJ aQ,eF]
 show c8 e1 W ?_;let U:(a++[Cell.dead]).length=a.length+1:=by rw[Vy];rfl
 let r2:a.length+2=(a++[Cell.dead]).length+1:=by ext
 let r4:a.length+4=(a++[Cell.dead]).length+3:=by ext
 let r5:a.length+5=(a++[Cell.dead]).length+4:=by ext
 rw[r2,r4,r5];generalize a++[Cell.dead]=base;let Q:=CN (C:= "Places") (F:=bZ) (fa:=aj (af (pC (.tuple [(.tuple []),.none,.none]))) (aj (af (aa 1)) aH)) (ρ:=[-(bD b),-(.int m),-(.list (f.map eS)),Vt,Vt,Vt,Vt,Vt,Vt]) (Z:=base) (ao (ah (d:=cO xo) (show _=Res.ok (PV.fz (.tuple [.tuple [],.none,.none]),_)from aC)) (ao (ah (ae W)) aN)) W;rw[AD (rM (lw b)) S R]at Q;show yR (.eq Q ?_);by_cases hm:m<=0
 .rw[av hm];show#[W,0,by show m<1;ext]
 rw[ax hm];show Out.eq W #[?_];show kj _ _ _ _;show c8 (ρ1:=[-(bD b),-(.int m),-(.list (f.map eS)),lD (.rf base.length),lD (.rf (base.length+3)),Vt,Vt,Vt,Vt]) ((dA (by ext:0)).trans (by rw[DD,<-nF];rfl)) W ?_;show c8 (ρ1:=W9 b m f base.length Vt Vt Vt) ((dA (by ext:0)).trans (by rw[DD,<-nF];rfl)) W ?_;show kZ (pJ (λn o Z=>∃J j h g,o=W9 b m f base.length j h g/\Z=vI base m b f n J/\n<=(b8 b f n).length/\((b8 b f n).length:Int)<=m) 1000 () #[[],Vt,Vt,Vt,W,W,Wx _,by show(1:Int)<=m;ext] ?_);rintro n o Z ⟨J,j,h,g,rfl,rfl,hle,hlm⟩;let K:=lx A l n;let lF:((b8 b f n).map jY).length<100000:=by rw[Vw];ext
 let P:PSt base.length (base.length+1) (base.length+2) m ((b8 b f n).map jY) (vI base m b f n J):=xI lF;let g3:(vI base m b f n J)[base.length+3]?=lD (.lst ((jy b f n).map .fz)):=mr;let O:(jy b f n).length=n:=by ext jy;rw[Vw,V2]
 let dl:(bF b f n).length=n:=by ext bF;rw[Vw,V2]
 let y:∀{j h g:bg SV},kL dH (aj (aw 4) aH) (W9 b m f base.length j h g) (vI base m b f n J)=.ok (.fz (nd n)) (vI base m b f n J):=lQ (ao (bh W) aN) (by ext aV;rw[dh g3];rfl) ((fV _).trans (by rw[O]));let H:∀{j h g:bg SV},aY "Places" "found" (aw 3) (W9 b m f base.length j h g) (vI base m b f n J)=.ok (.rf (base.length+1)) (vI base m b f n J):=dL (bh W) P.o nr;let L:kL dH (aj (aY "Places" "found" (aw 3)) aH) (W9 b m f base.length j h g) (vI base m b f n J)=.ok (.fz (nd (b8 b f n).length)) (vI base m b f n J):=lQ (ao H aN) (by ext aV;rw[dh P.f];rfl) ((fV _).trans (by rw[Vw,Vw]));let q:=bw (dz y L (cM (oY (n:Int) ((b8 b f n).length:Int))));by_cases Y:n<(b8 b f n).length
 case neg=>
  rw[aP ()]at q;show .inl #[_,q,?_];let nN:(b8 b f n).length=n:=by ext
  show rF (DG (ao H (ao (bh W) (ao (bh W) aN))) (VJ W) W W) #[n,J,nN,by ext,W,W]
 case pos=>
  rw[aE ()]at q;show .inr #[by ext,_,q,?_];obtain⟨r,w⟩:∃r,(b8 b f n)[n]?=lD r:=#[_,Vz Y];let u:=K r (VS w);show c8 (x:=.fz (nd n)) (ρ1:=W9 b m f base.length (-(nd n)) h g) y W ?_;let st:gC (gC (aY "Places" "found" (aw 3)) (af (aa 6))) (af (~~~0)) (W9 b m f base.length (-(nd n)) h g) (vI base m b f n J)=.ok (.fz (cO r.s)) (vI base m b f n J):=cQ (dx:=sJ (jY r)) (oQ H (ah (d:=nd n) (ae W)) W P.f (UR (by rw[VN,VN,VN,w];rfl))) (ah aC) iz;show c8 (x:=.fz (cO r.s)) (ρ1:=W9 b m f base.length (-(nd n)) (-(cO r.s)) g) st W ?_;let(M,ha):=BO A u l p (ρ:=W9 b m f base.length (-(nd n)) (-(cO r.s)) g) (Z:=vI base m b f n J) W W W;show c8 (x:=.fz (.list (f.map (jA b r.s)))) (ρ1:=W9 b m f base.length (-(nd n)) (-(cO r.s)) (-(.list (f.map (jA b r.s))))) ha W ?_;let eJ:vI base m b f n J++M=vI base m b f n (J++M):=by ext vI;rw[<-nF];rfl
  rw[eJ];generalize J++M=J;let z:=Gb A u l p (ρ:=W9 b m f base.length (-(nd n)) (-(cO r.s)) (-(.list (f.map (jA b r.s))))) (Z:=base) (J:=.lst ((jy b f n).map .fz):: .lst ((bF b f n).map .fz)::J) (m:=m) (r:=n) (fs:=b8 b f n) S R hlm W W W W;rw[<-oJ w]at z;let E:HY b f n=.tuple (f.map λe=>nd (fS (b8 b f (n+1)) (aG b r.s e).1)):=by ext HY;rw[w]
  let G:zV b f n=.tuple (f.map λe=>.tuple ((aG b r.s e).2.map gX)):=by ext zV;rw[w]
  let B:jy b f (n+1)=jy b f n++[HY b f n]:=by ext jy;rw[Zt,V4];rfl
  let I:bF b f (n+1)=bF b f n++[zV b f n]:=by ext bF;rw[Zt,V4];rfl
  let z:=ve z (T':=λx c=>∃ds,sh c x=lD (.list ds)/\(∃ys,c[base.length+3]?=lD (.lst ys)/\ys.length<1000000/\kj (bT (lG (aw 5) (af (iC gx {fR 1 [] (iq (aa 8)) (gN 0) eU (iC gx {aL bq (aa 0) (~~~0)})}))) (W9 b m f base.length (-(nd n)) (-(cO r.s)) (-(.list (f.map (jA b r.s))))) (c.set (base.length+3) (.lst (ys++[.fz (.tuple ds)])))) (λo Z=>∃J j h g,o=W9 b m f base.length j h g/\Z=vI base m b f (n+1) J/\n+1<=(b8 b f (n+1)).length/\((b8 b f (n+1)).length:Int)<=m) (λv c=>∃N J,(b8 b f N).length=N/\(N:Int)<=m/\v=.tp [.rf (base.length+1),.rf (base.length+3),.rf (base.length+4)]/\c=vI base m b f N J) (λx=>x=TM m/\∃i,m<((b8 b f i).length:Int)))) (X':=λx=>x=TM m/\∃i,m<((b8 b f i).length:Int)) ?_ (λx T=>#[T.1,n+1,T.2])
  .show Kc (MA (i:=base.length+3) (bh W) (mr (t:=3)) (My z))
  rintro x c ⟨rfl,rfl,hm'⟩;show#[f.map λe=>nd (fS (b8 b f (n+1)) (aG b r.s e).1),?_,(jy b f n).map .fz,mr (t:=3),by rw[Vw,O];ext,?_]
  .show dh ?_;rw[nF];show aQ
  .let w1:(gU base m ((b8 b f (n+1)).map jY) ((.lst ((jy b f n).map .fz):: .lst ((bF b f n).map .fz)::J)++[.lst ((f.map λe=>nd (fS (b8 b f (n+1)) (aG b r.s e).1)).map .fz)])).set (base.length+3) (.lst ((jy b f n).map SV.fz++[.fz (.tuple (f.map λe=>nd (fS (b8 b f (n+1)) (aG b r.s e).1)))]))=gU base m ((b8 b f (n+1)).map jY) (.lst ((jy b f (n+1)).map .fz):: .lst ((bF b f n).map .fz)::(J++[.lst ((f.map λe=>nd (fS (b8 b f (n+1)) (aG b r.s e).1)).map .fz)])):=by
    ext gU;rw[tW,B,E,V4];rfl
   rw[w1];generalize J++[Cell.lst ((f.map λe=>nd (fS (b8 b f (n+1)) (aG b r.s e).1)).map .fz)]=J;let cm:oi (eX (gN 0) eU (iC gx {aL bq (aa 0) (~~~0)}) (f.map (jA b r.s)) [Vt] [])=.ok (f.map λe=>.tuple ((aG b r.s e).2.map gX)):=lg (cp:=[]) (jA b r.s) (λe=>.tuple ((aG b r.s e).2.map gX)) f p W λe _=>by let i0:bq (jA b r.s e) (.int 0)=-(.list ((aG b r.s e).2.map gX)):=iz;show fO (rv:=.fz (.tuple ((aG b r.s e).2.map gX))) (ds:=[.list ((aG b r.s e).2.map gX)]) (ai (aB (rv:=.fz (.list ((aG b r.s e).2.map gX))) (ae W) aC W W i0) aJ) W W
   let X:(gU base m ((b8 b f (n+1)).map jY) (.lst ((jy b f (n+1)).map .fz):: .lst ((bF b f n).map .fz)::J))[base.length+4]?=lD (.lst ((bF b f n).map .fz)):=mr (t:=4);let ap:=vi (ρ:=W9 b m f base.length (-(nd n)) (-(cO r.s)) (-(.list (f.map (jA b r.s))))) (fo:=aw 5) (fe:=af (iC gx {fR 1 [] (iq (aa 8)) (gN 0) eU (iC gx {aL bq (aa 0) (~~~0)})})) (x:=.fz (zV b f n)) (bh W) X (by rw[G];show ah (fO (rv:=.fz (.tuple (f.map λe=>.tuple ((aG b r.s e).2.map gX)))) (ds:=[.list (f.map λe=>.tuple ((aG b r.s e).2.map gX))]) (ai (gf (cs:=[]) (ds:=f.map (jA b r.s)) (lA (d:=.list (f.map (jA b r.s))) (ae W) W W) W cm) aJ) W W)) X (by rw[Vw,dl];ext);show x0 (iY ap) #[J,_,_,_,W,?_,PH Y,hm'];unfold vI gU;rw[tW,I,V4];rfl
def Gx(e:VB b){n:Nat}(d:b.n=n)(j:n<=5)(g:0<=m)(f:m<=1000)(a:bp):Out (nX [.fz (bD b),.fz (.int m)] a) (λv c=>∃N i K,(b8 b (ei n) N).length=N/\(N:Int)<=m/\v=.rf (a.length+i)/\c=a++K/\K[i]?=R (.lst ((((b8 b (ei n) N).map jY).map sJ).map .fz))) (λx=>x=TM m/\∃i,m<((b8 b (ei n) i).length:Int)):=by show oH W ?_;ext xy;show On ?_;let p:=AW (F:=iw) (es:=[]) (fa:=aj (af (aa 0)) (aj (af (aa 1)) aH)) (ρ:=[-(bD b),-(.int m)]) (Z:=a) (ao (ah (ae W)) (ao (ah (ae W)) aN)) W;show Out.bind (.eq p ((uo e d j g f a).imp λv c h=>?_));let(N,J,o,l,rfl,rfl):=h;show .eq (r':=RS.ok (SV.rf (a.length+2)) (vI (a++[.dead]) m b (ei n) N J)) ?_ #[N,2,_,o,l,W,(by unfold vI gU;rw[V6]),W];rw[ah aC,eh];rfl
def Cn(c:Nat->Nat):Nat->Nat
 |0=>0
 |l+1=>max (Cn c l) (c l+1)
def RG(c:Nat->Nat)(n:Nat):Prop:=∀i,i<n->c i<=Cn c i
section
variable{c f:Nat->Nat}{n:Nat}
theorem rN(l:Nat):Cn c (l+1)=max (Cn c l) (c l+1):=W
def yS(k:Nat):Cn c i<=Cn c (i+k):=by
 induction k with
 |zero=>show VP _
 |succ k a=>rw[<-XA,rN];ext
def KL(h:i<=j):Cn c i<=Cn c j:=by let(k,rfl):=Ys h;show yS k
def ko(h:i<l):c i<Cn c l:=by let:=KL (c:=c) h;rw[rN]at this;ext
theorem Gv(h:RG c n):∀l,l<=n->Cn c l<=l
 |0,_=>VP _
 |l+1,e=>by let b:=Gv h l ();let a:=h l ();rw[rN];ext
theorem mK(h:RG c n):∀l,l<=n->k<Cn c l->∃i,i<l/\c i=k/\Cn c i=k
 |0,_,j=>a5 j (aaP _)
 |l+1,m,j=>by
  by_cases e:k<Cn c l
  .let(i,a,b):=mK h l () e;show#[i,by ext,b]
  .let g:=h l ();rw[rN]at j;show#[l,by ext,by ext,by ext]
def NS(p:RG c n)(a:RG f n)(o:∀i j,i<n->j<n->f i=f j->c i=c j)(s:Cn f n<=Cn c n):∀i,i<n->f i=c i:=by
 let new:∀l,l<n->c l=Cn c l->f l=Cn f l:=λl g e=>by
  by_cases q:f l<Cn f l
  .let(j,h,b,_):=mK a l () q;let:=o j l () g b;let:=ko (c:=c) h;ext
  .let:=a l g;ext
 let d:∀l k,l+k<=n->Cn f l+Cn c (l+k)<=Cn f (l+k)+Cn c l:=by
  intro l k
  induction k with
  |zero=>intro _;show VP _
  |succ k m=>
   intro A;let z:=m ();rw[<-XA,rN,rN];let v:=p (l+k) ();let r:=a (l+k) ();by_cases q:c (l+k)=Cn c (l+k)
   .let:=new (l+k) () q;ext
   .omega
 let e:∀l,l<=n->Cn f l=Cn c l:=λl g=>by let(k,rfl):=Ys g;let u:=d 0 l ();let B:=d l k (VP _);rw[WO]at u;let y:Cn f 0=0:=W;let w:Cn c 0=0:=W;ext
 intro i
 induction i using agp with
 |ind i m=>
  intro C;let e0:=e i ();let t:=e (i+1) ();rw[rN,rN]at t;let v:=p i C;let r:=a i C;by_cases q:f i<Cn f i
  .let(j,h,b,_):=mK a i () q;rw[<-b,m j h (),o j i () C b]
  .omega
def Lh:Nat->G Nat->Prop
 |_,[]=>True
 |m,s::r=>s<=m/\Lh (max m (s+1)) r
def Bg(m:Nat)(r:G Nat):Nat:=r.foldl (λm s=>max m (s+1)) m
theorem Nv(m s:Nat)(r:G Nat):Bg m (s::r)=Bg (max m (s+1)) r:=W
theorem EI:∀{m:Nat} (r:G Nat),(∀s∈r,s<m)->Bg m r=m
 |_,[],_=>rfl
 |m,s::r,h=>by let b:=h s VV;rw[Nv,show max m (s+1)=m by ext];show EI r λx a=>h x (VX _ a)
theorem AR:∀{m:Nat} (r:G Nat),m<=Bg m r/\∀s∈r,s<Bg m r
 |m,[]=>#[VP _,λ_ h=>nomatch h]
 |m,s::r=>by
  let(e,b):=AR (m:=max m (s+1)) r;rw[Nv];show#[by ext,λx a=>?_];rcases Wa.mp a with rfl|a
  .omega
  .show b x a
theorem EG(a:RG c n):∀(r:G Nat) (l:Nat),Lh l r->Bg l r<=n->Lh (Cn c l) (r.map c)/\Bg (Cn c l) (r.map c)=Cn c (Bg l r)
 |[],l,_,_=>#[True.intro,W]
 |s::r,l,#[o,j],i=>by
  rw[Nv]at i;let(g,b):=EG a r _ j i;let h:=(AR (m:=max l (s+1)) r).1;let e:max (Cn c l) (c s+1)=Cn c (max l (s+1))/\c s<=Cn c l:=by
   by_cases q:s<l
   .let:=ko (c:=c) q;rw[show max l (s+1)=l by ext];show#[by ext,by ext]
   .obtain rfl:s=l:=by ext
    rw[show max s (s+1)=s+1 by ext];show#[W,a s ()]
  show#[#[e.2,by rw[e.1];show g],?_];show Bg (max (Cn c l) (c s+1)) (r.map c)=_;rw[e.1,b,Nv]
def GU{S:Nat->bb Nat}{L:Nat->Nat}(r:RG c n)(B:∀a,a<n->a<L a/\L (a+1)<=n/\Lh (L a) (S a)/\Bg (L a) (S a)=L (a+1))(P:∀a x,a<n->x<n->c a=c x->(S a).map c=(S x).map c)(R:L 0=1)(Q:L n=n)(w:0<n):
  ∃m:Nat->Nat,m 0=1/\m (Cn c n)=Cn c n/\∀k a,a<n->c a=k->Cn c a=k->k<m k/\Lh (m k) ((S a).map c)/\Bg (m k) ((S a).map c)=m (k+1):=by
 let row:∀a,a<n->Lh (Cn c (L a)) ((S a).map c)/\Bg (Cn c (L a)) ((S a).map c)=Cn c (L (a+1)):=λa ha=>by let(_,b,t,C):=B a ha;let:=EG r (S a) (L a) t ();rw[C]at this;show this
 let H:∀a k,a+k<=n->Cn c (L a)<=Cn c (L (a+k)):=by
  intro a k
  induction k with
  |zero=>intro _;show VP _
  |succ k y=>intro h;let i1:=y ();let i2:=(row (a+k) ()).2;let Z:=(AR (m:=Cn c (L (a+k))) ((S (a+k)).map c)).1;rw[<-XA];ext
 let old:∀a,a<n->c a<Cn c a->Cn c (L (a+1))=Cn c (L a):=λa ha q=>by let(x,g,b,_):=mK r a () q;let e:=P a x ha () b.symm;let(_,u):=row a ha;let(_,T):=row x ();let(k,rfl):=Ys g;let p:=H (x+1) k (by show x+1+k<=n;show ZE ha);rw[<-u];show EI _ λs l=>?_;rw[e]at l;let:=(AR (m:=Cn c (L x)) ((S x).map c)).2 s l;let p:Cn c (L (x+1))<=Cn c (L (x.succ+k)):=p;ext
 let j:∀a d,a+d<=n->Cn c (a+d)=Cn c a->Cn c (L (a+d))=Cn c (L a):=by
  intro a d
  induction d with
  |zero=>intro _ _;rfl
  |succ d y=>
   intro g b;let X:=yS (c:=c) (i:=a) d;let U:Cn c (a+d)<=Cn c (a+d+1):=yS 1;rw[<-XA]at b⊢;let q:c (a+d)<Cn c (a+d):=by let:Cn c (a+d+1)=max (Cn c (a+d)) (c (a+d)+1):=W;ext
   rw[old (a+d) () q];show y () ()
 let o:∀k,∃a,k<Cn c n->a<n/\c a=k/\Cn c a=k:=λk=>by
  by_cases q:k<Cn c n
  .let(i,h):=mK r n (VP _) q;show#[i,λ_=>h]
  .show#[0,λh=>a5 h q]
 let F:c 0=0:=by let:=r 0 w;let z:Cn c 0=0:=W;ext
 let A:∀k a x,a<n->x<n->c a=k->Cn c a=k->c x=k->Cn c x=k->a=x:=λk a x _ _ g b t C=>by
  rcases aaf a x with q|q|q
  .let:=ko (c:=c) q;ext
  .show q
  .let:=ko (c:=c) q;ext
 show#[λk=>if k<Cn c n then Cn c (L (Classical.choose (o k)))else Cn c n,?_,?_,?_]
 .let q:0<Cn c n:=abI (Wx _) (ko w);dsimp only;rw[av q];let(g,b,t):=Classical.choose_spec (o 0) q;rw[A 0 _ 0 g w b t F W,R,rN,F];rfl
 .dsimp only;rw[ax (WZ _)]
 .intro k a ha g b
  let q:k<Cn c n:=by rw[<-g];show ko ha
  let(K,J,I):=Classical.choose_spec (o k) q;let e:=A k _ a K ha J I g b;let(G,u):=row a ha;let(p,Y,_):=B a ha;dsimp only;rw[av q,e];show#[by let:=ko (c:=c) p;ext,G,?_];rw[u];let ca:Cn c (a+1)=k+1:=by rw[rN];ext
  by_cases v:k+1<Cn c n
  .rw[av v]
   let(O,N,M):=Classical.choose_spec (o (k+1)) v;generalize Classical.choose (o (k+1))=a2 at O N M;let lt:a+1<=a2:=by
    rcases aaC a2 (a+1)with z|z
    .let:=KL (c:=c) (show a2<=a by ext);ext
    .show z
   let(d,rfl):=Ys lt;show(j (a+1) d () ()).symm
  .rw[ax v];let(d,E):=Ys (show a+1<=n from ha);let hm:=KL (c:=c) (show a+1<=n from ha);let:=j (a+1) d () (by rw[E];ext);rw[E,Q]at this;show this.symm
end
def vE(fs:G Pl)(d:D):G Pl:=if(cX fs d).isSome=P then fs else fs++[#[d,.none,.none]]
def vP(fs:G Pl)(d:D):Nat:=(cX fs d).getD fs.length
def gW(ds:G D):G Pl:=ds.foldl vE []
def za(ds:G D)(i:Nat):Nat:=vP (gW (ds.take i)) (ds[i]?.getD .none)
def SD(ds:G D):G Nat:=(VI ds.length).map (za ds)
theorem oS:∀{fs:G Pl} {d:D} {t:Nat},cX fs d=R t->∃q,fs[t]?=R q/\VD.eqv q.p d=P
 |[],_,_,h=>by ext h
 |a::r,d,t,h=>by
  unfold cX at h;split at h
  .rename_i e;ext h;show#[a,W,e]
  .cases q:cX r d with
   |none=>rw[q]at h;ext h
   |some j=>rw[q]at h;ext h;let(x,f,b):=oS q;show#[x,by simpa using f,b]
def rm(h:ds[i]?=R d):gW (ds.take (i+1))=vE (gW (ds.take i)) d/\za ds i=vP (gW (ds.take i)) d:=by
 show#[?_,?_]
 .ext gW;rw[X1,h,abS];rfl
 .ext za;rw[h];rfl
def EH(fs:G Pl)(d:D):(vE fs d).length=max fs.length (vP fs d+1)/\vP fs d<=fs.length:=by
 unfold vE vP;cases q:cX fs d with
 |none=>rw[ax (by nofun),Vy];show fs.length+1=max fs.length (fs.length+1)/\fs.length<=fs.length;ext
 |some t=>let(x,a,_):=oS q;let:=(Vv.mp a).1;rw[av (show(R t).isSome=P from rfl)];show fs.length=max fs.length (t+1)/\t<=fs.length;ext
theorem ug(ds:G D):∀i,i<=ds.length->(gW (ds.take i)).length=Cn (za ds) i
 |0,_=>by rw[acJ];rfl
 |i+1,h=>by let e:=Vz (show i<ds.length by ext);let(b,a):=rm e;rw[b,(EH _ _).1,ug ds i (),rN,a]
theorem IK(ds:G D):RG (za ds) ds.length:=λi h=>by rw[<-ug ds i (),(rm (Vz h)).2];show(EH _ _).2
def HH(fs:G Pl)(d:D):fs<+:vE fs d:=by
 ext vE;split
 .show YA _
 .show aeP _ _
def Jr(ds:G D)(i k:Nat):gW (ds.take i)<+:gW (ds.take (i+k)):=by
 induction k with
 |zero=>show YA _
 |succ k a=>
  rw[<-XA];cases q:ds[i+k]? with
  |none=>let b:=acQ.mp q;rw[show ds.take (i+k+1)=ds.take (i+k) by rw[aau (),aau b]];show a
  |some d=>rw[(rm q).1];show a.trans (HH _ _)
def xF(h:fs<+:a)(q:cX fs p=R t):cX a p=R t:=by let(l,rfl):=h;show sN q
def G5(h:LD.keyD d=P):cX (vE fs d) d=R (vP fs d):=by
 unfold vE vP;cases q:cX fs d with
 |none=>rw[ax (by nofun)];show tQ q (pL h)
 |some t=>rw[av (show(R t).isSome=P from rfl),q];rfl
theorem wv(Z:bp)(a:A):RS.WN Z (R a)=.ok a Z:=W
def J1(a:∀d∈ds,LD.keyD d=P)(h:ds[i]?=R d)(k:Nat):cX (gW (ds.take (i+1+k))) d=R (za ds i):=by let(e,b):=rm h;show xF (Jr ds (i+1) k) ?_;rw[e,b];show G5 (a d (VS h))
def tO(h:LD.keyD d=P):LD.kd d=P:=by
 cases d with
 |tuple xs=>unfold LD.keyD at h;rw[V9]at h;show h.1
 |_=>simp[LD.keyD]at h
theorem yN{ds:G D}(a:∀d∈ds,LD.keyD d=P):∀i,i<=ds.length->∀q∈gW (ds.take i),LD.keyD q.p=P
 |0,_,q,b=>by rw[acJ]at b;ext b
 |i+1,h,q,b=>by
  let e:=Vz (show i<ds.length by ext);rw[(rm e).1]at b;unfold vE at b;split at b
  .show yN a i () q b
  .rcases Wr.mp b with b|b
   .show yN a i () q b
   .rw[VW.mp b];show a _ (Xt _)
def Jm(a:∀d∈ds,LD.keyD d=P)(c:ds[i]?=R d)(m:ds[j]?=R e):za ds i=za ds j↔d=e:=by
 let t:=(Vv.mp c).1;let r:=(Vv.mp m).1;let(k,v):=Ys (show i+1<=ds.length from t);let(l,u):=Ys (show j+1<=ds.length from r);let f:=J1 a c k;let b:=J1 a m l;rw[v]at f;rw[u]at b;constructor
 .intro z;rw[z]at f;let(q,p,y):=oS f;let(A,o,w):=oS b;rw[p]at o;ext o;let n:=tO (yN a _ (VP _) q (VS p));let h:=tO (a d (VS c));let g:=tO (a e (VS m));rw[<-LD.kd_eqv _ _ n h y,<-LD.kd_eqv _ _ n g w]
 .rintro rfl;rw[f]at b;show VZ b
def N5(h:LD.keyD d=P):l9 (.fz d)=R d:=by
 cases d with
 |tuple xs=>ext l9;dsimp only;rw[av h]
 |_=>simp[LD.keyD]at h
def sf(u:frz 4 (Z++[.dd []]) x=R (.list ds,Z1++[.dd []]))(j:Z1.length=Z.length)(r:∀d∈ds,LD.keyD d=P)(s:ds.length<=1000):
  eE [x] Z=.ok (.rf (Z.length+1)) (Z1++[.dd (eN 0 (gW ds)),.lst ((SD ds).map λc=>.fz (nd c))]):=by
 let n:fP (aw 0) [R x,R (.rf Z.length)] (Z++[.dd []])=.ok ds (Z1++[.dd []]):=by ext fP;rw[bh W,eh,u];rfl
 let h:Out (cD (df 0) cL (An (aw 1) (af (aa 0)) (rO (aw 1))) ds [U,R (.rf Z.length)] (Z1++[.dd []]) []) (λxs f=>∃a:bz,(∃o,a=[o,R (.rf Z.length)])/\f=Z1++[.dd (eN 0 (gW (ds.take (0+ds.length))))]/\xs=((VI (0+ds.length)).map (za ds)).map λc=>.fz (nd c)) λ_=>False:=by
  show jd (λk C f b=>(∃o,C=[o,R (.rf Z.length)])/\f=Z1++[.dd (eN 0 (gW (ds.take k)))]/\b=((VI k).map (za ds)).map λc=>.fz (nd c)) ds 0 _ _ _ #[#[U,W],W,W] ?_;rintro i d C f b z ⟨⟨o,rfl⟩,rfl,rfl⟩;rw[WO];let A:=(Vv.mp z).1;show#[by rw[Vw,Vw,V2];ext,[-(d),R (.rf Z.length)],W,W,?_];let kd:=r d (VS z);let(w,v):=rm z;let l:=ug ds i ();let B:=Gv (IK ds) i ();rw[w];let y:((VI (i+1)).map (za ds)).map (λc=>SV.fz (nd c))=((VI i).map (za ds)).map (λc=>SV.fz (nd c))++[.fz (nd (vP (gW (ds.take i)) d))]:=by rw[Zt,V4,V4,aeQ,aeQ,v]
  rw[y];generalize gW (ds.take i)=fs at l⊢;let g:(Z1++[Cell.dd (eN 0 fs)])[Z.length]?=R (.dd (eN 0 fs)):=by rw[<-j];show aQ
  let m:rO (aw 1) [-(d),R (.rf Z.length)] (Z1++[Cell.dd (eN 0 fs)])=.ok (.fz (nd fs.length)) (Z1++[Cell.dd (eN 0 fs)]):=by ext rO;rw[bh W,eh,wV g];show RS.ok (SV.fz (.int (eN 0 fs).length)) _=_;rw[sQ]
  let p:(eN 0 fs).length<1000000:=by rw[sQ];ext
  let ev:An (aw 1) (af (aa 0)) (rO (aw 1)) [-(d),R (.rf Z.length)] (Z1++[Cell.dd (eN 0 fs)])=.ok (.fz (nd (vP fs d))) (Z1++[Cell.dd (eN 0 (vE fs d))]):=by
   ext An;rw[bh W,eh,wV g,wv,eh,ah (ae W),eh,m,eh,N5 kd,wv,eh,show Sw (.fz (nd fs.length))=R (nd fs.length)from rfl,wv,eh,wV g,wv,eh];rw[av p,mV];unfold vP vE;cases q:cX fs d with
   |some t=>rw[av (show(R t).isSome=P from rfl)];show RS.ok (SV.fz (nd (0+t))) _=_;rw[WO];rfl
   |none=>rw[ax (by nofun)];rw[Fe q,<-j,eF];rfl
  show .eq ev #[#[_,W],W,W]
 let(xs,f,e,a,_,rfl,rfl):=h.all;rw[WO,X9]at e;show jg W ?_;ext pf;rw[cZ (m9 W W)];show(iO (hW n e)).trans ?_;rw[V6,Vy,j];rfl
def Ga(St:Nat->G Nat)(r:Nat):D:=.tuple ((St r).map nd)
def tf(c:Nat->Nat)(St:Nat->G Nat)(r:Nat):D:=.tuple [nd (c r),.tuple ((St r).map λs=>nd (c s))]
abbrev Aw(St:Nat->G Nat)(N:Nat)(a:D)(q:Nat):G (Str×SV):=[("steps",.fz (.list ((VI N).map (Ga St)))),("sends",.fz a),("rounds",.rf q)]
def BW(c:Nat->Nat)(N:Nat):Cell:=.lst ((VI N).map λi=>SV.fz (nd (c i)))
section
variable{N:Nat}{St:Nat->bb Nat}{c:Nat->Nat}{Z:bp}{o q t r:Nat}{Y:bb SV}{X:D}
def eT(h:r<N):((VI N).map f)[r]?=R (f r):=by rw[VN,aes h];rfl
theorem O9(a:Z[t]?=R (BW c N))(h:r<N)(d:f e Z=.ok (.rf t) Z)(b:fb e Z=.ok (.fz (nd r)) Z):gC f fb e Z=.ok (.fz (nd (c r))) Z:=
 oQ d b W a (CK (eT h))
def L8(f:Z[o]?=R (.obj "Sorting" (Aw St N X q)))(i:Z[q]?=R (.lst (Y++[.rf t])))(b:Z[t]?=R (BW c N))(e:r<N)(h:∀s∈St r,s<N)(l:(St r).length<=1000):
  ∃C,bH [.rf o,.fz (nd r)] Z=.ok (.fz (tf c St r)) (Z++[C]):=by
 show#[.lst (((St r).map λs=>nd (c s)).map .fz),jg W ?_];let e0:gC (aY "Sorting" "rounds" (aw 0)) (af (DU u7 (~~~1))) [R (.rf o),-(nd r),U] Z=.ok (.rf t) Z:=oQ (dL (bh W) f W) (ah (zP (rv:=.fz (.int (-1))) aC W W)) W i (uw _ _);show cZ (m9 e0 W) ?_;let g:fP (gC (aY "Sorting" "steps" (aw 0)) (af (aa 1))) [R (.rf o),-(nd r),R (.rf t)] Z=.ok ((St r).map nd) Z:=by ext fP;rw[cQ (dL (bh W) f W) (ah (ae W)) (zd (eT e)),eh];rfl
 let cm:cD (df 0) cL (gC (aw 1) (af (aa 0))) ((St r).map nd) [U,R (.rf t)] Z []=.ok ([]++(St r).map λs=>SV.fz (nd (c s))) Z:=by show g9 nd (λs=>SV.fz (nd (c s))) Z (λm=>∃o,m=[o,R (.rf t)]) (St r) _ [] #[_,W] (by show 0+_<=_;ext) ?_;rintro s a m ⟨x,rfl⟩;show#[[-(nd s),R (.rf t)],W,W,O9 b (h s a) (bh W) (ah (ae W)),_,W]
 rw[YS]at cm;let j:=hW (n:=1) (fj:=[2]) g cm;show iO (rq (ao (O9 b e (bh W) (ah (ae W))) (ao (lQ (ds:=[.list ((St r).map λs=>nd (c s))]) (ao (by rw[Wd];show j) aN) ?_ W) aN)) (by show 2<=1000;ext));let:sh (Z++[.lst (((St r).map λs=>nd (c s)).map .fz)]) (.rf Z.length)=R (.list ((St r).map λs=>nd (c s))):=dh aQ;ext aV;rw[this];rfl
def sS(h:N<=1000):ju [nd N]=R ((VI N).map nd):=by show(if lj (N:Int)then R (L3.gB 0 (N:Int).toNat)else U)=_;rw[av #[by ext,by ext],W0];congr 1;show Xn λk _=>?_;rw[aic]
def Ho(p:Z[o]?=R (.obj "Sorting" (Aw St N X q)))(y:Z[q]?=R (.lst (Y++[.rf t])))(w:Z[t]?=R (BW c N))(u:∀r,r<N->(St r).length<=1000/\∀s∈St r,s<N)(z:N<=1000)(f:ρ[0]?=R (R (.rf o))):
  ∃K,eO 1 [0] (mZ (kL dH (aj (aY "Sorting" "steps" (aw 0)) aH))) (df 0) cL (bf "Sorting" "mark_of" bH 2 (aw 1) (aj (af (aa 0)) aH)) ρ Z=.ok (.rf (Z++K).length) (Z++K++[.lst (((VI N).map (tf c St)).map .fz)]):=by
 let v:mZ (kL dH (aj (aY "Sorting" "steps" (aw 0)) aH)) ρ Z=.ok ((VI N).map nd) Z:=by ext mZ;rw[lQ (ao (dL (bh f) p W) aN) W (by show R (RV.fz (.int ((VI N).map (Ga St)).length))=_;rw[Vw,V2]),eh,show Sw (.fz (nd N))=R (nd N)from rfl,wv,eh,sS z,wv]
 let n:Out (cD (df 0) cL (bf "Sorting" "mark_of" bH 2 (aw 1) (aj (af (aa 0)) aH)) ((VI N).map nd) [U,R (.rf o)] Z []) (λxs l=>∃a:bz,(∃x,a=[x,R (.rf o)])/\(∃K,l=Z++K)/\xs=((VI (0+((VI N).map nd).length)).map (tf c St)).map .fz) λ_=>False:=by
  show jd (λk ρ l g=>(∃x,ρ=[x,R (.rf o)])/\(∃K,l=Z++K)/\g=((VI k).map (tf c St)).map .fz) _ 0 _ _ _ #[#[U,W],#[[],by rw[Wi]],W] ?_;rintro i d ρ l g A ⟨⟨x,rfl⟩,⟨K,rfl⟩,rfl⟩;rw[WO];let b:=(Vv.mp A).1;rw[Vw,V2]at b;rw[eT b]at A;ext A;let m:∀{j:Nat} {C:Cell},Z[j]?=R C->(Z++K)[j]?=R C:=λ{j C} h=>by rw[VQ (Vv.mp h).1];show h
  let(C,e):=L8 (m p) (m y) (m w) b (u i b).2 (u i b).1;show#[by rw[Vw,Vw,V2];ext,[-(nd i),R (.rf o)],W,W,?_];show .eq (yF (bh W) (m p) W (ao (ah (ae W)) aN) W e) #[#[_,W],#[K++[C],by rw[V6]],?_];rw[Zt,V4,V4];rfl
 let(xs,l,e,a,_,(K,rfl),rfl):=n.all;rw[WO,Vw,V2]at e;show#[K,hW v ?_];let:fM 1 [0] ρ=[U,R (.rf o)]:=by ext fM;show[U]++[(ρ[0]?).join]=_;rw[f];rfl
 rw[this];show e
end
def KP(c:Nat->Nat)(St:Nat->G Nat)(r:Nat):LD.keyD (tf c St r)=P:=by
 let e:(St r).map (λs=>nd (c s))=bX ((St r).map c):=by ext bX;rw[Wd];rfl
 ext tf;rw[e,LD.keyD];simp only[LD.kd,LD.kds];rw[yn];show(V9 _ _).mpr #[W,aE ?_];show max 0 (max (VD.depthAll (bX ((St r).map c))+1) 0)+1<=8;rw[k6];ext
def B8(h:nd a=nd b):a=b:=by
 let:(a:Int)=b:=by injection h
 ext
def C9{xs a:G Nat}(h:xs.map (λs=>nd (c s))=a.map λs=>nd (c s)):xs.map c=a.map c:=by
 let e:∀l:G Nat,l.map (λs=>nd (c s))=(l.map c).map nd:=λl=>by rw[Wd];rfl
 rw[e,e]at h;show YT (λ_ _=>B8)|>.mp h
section
variable{N:Nat}{St:Nat->bb Nat}{c f:Nat->Nat}{Z:bp}{o q t:Nat}{Y:bb SV}{sd:D}{ρ:bz}{fa:dM}
def Eg:BW c N=.lst (((VI N).map λi=>nd (c i)).map .fz):=by ext BW;rw[Wd];rfl
def OY(n:0<N)(h:RG c N)(g:Z[t]?=R (BW c N))(d:fa ρ Z=.ok (.rf t) Z):kL jf (aj fa aH) ρ Z=.ok (.fz (.int ((Cn c N:Int) - 1))) Z:=by
 let e:(VI N).map (λi=>nd (c i))=((VI N).map λi=>((c i:Nat):Int)).map VD.int:=by rw[Wd];rfl
 let a:0<((VI N).map λi=>((c i:Nat):Int)).length:=by rw[Vw,V2];show n
 let hm:Gp ((VI N).map λi=>((c i:Nat):Int))=(Cn c N:Int) - 1:=by let(m,l):=ym a;let(i,u,r):=Wh.mp m;let:=ko (c:=c) (WI.mp u);let(j,b,p,_):=mK h (k:=Cn c N - 1) N (VP _) ();let:=l (c j:Nat) (Wh.mpr #[j,WI.mpr b,W]);ext
 show lQ (ds:=[.list ((VI N).map λi=>nd (c i))]) (ao d aN) ?_ ?_
 .ext aV;rw[dh (by rw[g,Eg])];rfl
 .ext jf;dsimp only;rw[e,L3.jz];dsimp only;rw[av a,hm]
def Rf(q N:Nat)(Z:bp)(x:SV):Prop:=∃t c,x=.rf t/\q<t/\Z[t]?=R (BW c N)
theorem KW:∀{Y:G SV},(∀x∈Y,Rf q N Z x)->∃ds,aV (sg 5 Z) Y=R ds/\ds.length=Y.length/\VD.canLayAll0 ds=P/\VD.depthAll ds<=1
 |[],_=>#[[],W,W,W,Wx _]
 |x::r,h=>by
  let(ds,p,n,m,u):=KW λy g=>h y (VX _ g);let(t,c,rfl,_,j):=h x VV;let e:sg 5 Z (.rf t)=R (.list (bX ((VI N).map c))):=by
   ext sg;rw[j,Eg];show(aV (sg 4 Z) (((VI N).map λi=>nd (c i)).map .fz)).map VD.list=_;let:∀l:G D,aV (sg 4 Z) (l.map .fz)=R l:=λl=>by
    induction l with
    |nil=>rfl
    |cons a l b=>rw[V1];ext aV;rw[show sg 4 Z (.fz a)=R a from rfl,b]
   rw[this];ext bX;rw[Wd];rfl
  show#[.list (bX ((VI N).map c))::ds,?_,by rw[V0,V0,n],?_,?_]
  .ext aV;rw[e,p]
  .ext VD.canLayAll0;rw[m,show VD.canLay0 (.list (bX ((VI N).map c)))=P by ext VD.canLay0;show nM _];rfl
  .show max (VD.depthAll (bX ((VI N).map c))+1) (VD.depthAll ds)<=1;rw[k6];ext
def HM(g:ρ[0]?=R (R (.rf o)))(p:Z[o]?=R (.obj "Sorting" (Aw St N sd q)))(i:Z[q]?=R (.lst Y))(l:∀x∈Y,Rf q N Z x):
  bS (lU cT (aY "Sorting" "rounds" (aw 0)) (af (de az))) ρ Z=.ok Y.isEmpty (Z++[.lst []]):=by
 let e:∀{j:Nat} {C:Cell},Z[j]?=R C->(Z++[Cell.lst []])[j]?=R C:=λ{j C} h=>by rw[VQ (Vv.mp h).1];show h
 show bw (dz (dL (bh g) p W) (dA (by ext:0)) ?_);show oj cT (.rf q) (.rf Z.length) (Z++[Cell.lst []])=_;cases Y with
 |nil=>show yk (dh (ds:=[]) (e i)) (dh (ds:=[]) aQ) W
 |cons x r=>
  let(ds,v,m,u,w):=KW λy n=>let#[t,c,a,b,d]:=l y n;#[t,c,a,b,e d]
  let(t,c,rfl,_,_):=l x VV;show RY (dx:=.list ds) (dy:=.list []) (.inl ?_) ?_ ?_ ?_ W
  .ext sh;dsimp only;rw[e i];rfl
  .ext sg;rw[e i];dsimp only;rw[v];rfl
  .ext sg;rw[aQ];rfl
  .cases ds with
   |nil=>rw[V0]at m;ext m
   |cons d ds=>
    ext cT;rw[av]
    .rfl
    .rw[Dp (by ext VD.canLay0;show u) (by show VD.depthAll (d::ds)+1<=64;ext)];rfl
def sq(E:G D)(St:Nat->G Nat)(N:Nat):Nat->Nat->Nat
 |0=>za E
 |k+1=>za ((VI N).map (tf (sq E St N k) St))
def EN:((VI N).map (tf c St)).length=N:=by rw[Vw,V2]
theorem wC(a:E.length=N):∀k,RG (sq E St N k) N
 |0=>by rw[<-a];show IK E
 |k+1=>by let:=IK ((VI N).map (tf (sq E St N k) St));rw[EN]at this;show this
theorem xW(e:i<N)(a:j<N):za ((VI N).map (tf c St)) i=za ((VI N).map (tf c St)) j↔tf c St i=tf c St j:=
 Jm (λd b=>by let(i,_,rfl):=Wh.mp b;show KP _ _ _) (eT e) (eT a)
def FZ(b:E.length=N)(h:Cn (sq E St N (k+1)) N<=Cn (sq E St N k) N)(d:i<N)(a:j<N)(e:sq E St N k i=sq E St N k j):(St i).map (sq E St N k)=(St j).map (sq E St N k):=by
 let g:=NS (wC b k) (wC b (k+1)) (λi j d a z=>by
  let:=(xW d a).mp z;injection this with h
  injection h with h1 _
  show B8 h1) h
 let:=(xW d a).mp ((g i d).trans (e.trans (g j a).symm));injection this with h
 injection h with _ h2
 injection h2 with h3 _
 injection h3 with h4
 show C9 h4
def LI(o q N:Nat)(St:Nat->G Nat)(E:G D)(e b a:I SV)(n:Nat)(ρ:bz)(Z:bp):Prop:=∃Y t,ρ=[R (.rf o),e,b,a,R (.rf t)]/\Z[o]?=R (.obj "Sorting" (Aw St N (.list E) q))/\Z[q]?=R (.lst Y)/\q<t/\Z[t]?=R (BW (sq E St N n) N)/\(∀x∈Y,Rf q N Z x)/\Y.length=n/\(∀j,j+1<n->Cn (sq E St N j) N<Cn (sq E St N (j+1)) N)/\(n=0/\Y=[]\/∃k g h,n=k+1/\Y=g++[.rf h]/\Z[h]?=R (BW (sq E St N k) N)/\k+1<=Cn (sq E St N k) N)
def SE(o q N:Nat)(St:Nat->G Nat)(E:G D)(Z:bp):Prop:=∃Y t k,Z[o]?=R (.obj "Sorting" (Aw St N (.list E) q))/\Z[q]?=R (.lst (Y++[.rf t]))/\Z[t]?=R (BW (sq E St N k) N)/\Cn (sq E St N (k+1)) N<=Cn (sq E St N k) N/\∀j,j<k->Cn (sq E St N j) N<Cn (sq E St N (j+1)) N
def F8(hN:∀ρ Z',SE o q N St E Z'->Nn ρ Z')(V:E.length=N)(R:0<N)(h9:N<=1000)(hs:∀r,r<N->(St r).length<=1000/\∀s∈St r,s<N)(hi:LI o q N St E x1 x2 x3 0 ρ Z):
  kj (mY (Bt (bS (lU cT (aY "Sorting" "rounds" (aw 0)) (af (de az)))) (bS (lU Lw (kL jf (aj (aw 4) aH)) (kL jf (aj (gC (aY "Sorting" "rounds" (aw 0)) (af (DU u7 (~~~1)))) aH))))) (aR (bT (lG (aY "Sorting" "rounds" (aw 0)) (aw 4)))
 (cI (jK eE 1 (aj (eO 1 [0] (mZ (kL dH (aj (aY "Sorting" "steps" (aw 0)) aH))) (df 0) cL (bf "Sorting" "mark_of" bH 2 (aw 1) (aj (af (aa 0)) aH))) aH)) (df 4))) ρ Z) Nn T X:=by
 show pJ (LI o q N St E x1 x2 x3) 2000 () hi ?_;rintro n ρ Z ⟨Y,t,rfl,ho,hq,qt,ht,J,hrl,hup,Q⟩;let P:=wC (St:=St) V n;let H:sq E St N (n+1)=za ((VI N).map (tf (sq E St N n) St)):=W;generalize hfn:sq E St N n=f at ht P H;let l:∀{j:Nat} {C:Cell},Z[j]?=lD C->(Z++[Cell.lst []])[j]?=lD C:=λ{j C} h=>by rw[VQ (Vv.mp h).1];show h
 let S:=HM (ρ:=[lD (.rf o),x1,x2,x3,lD (.rf t)]) W ho hq J;let fp:1<=Cn f N:=by let:=ko (c:=f) R;ext
 let fN:=Gv P N (VP _)
 let u:n+1<=Cn f N->(∀j,j+1<n+1->Cn (sq E St N j) N<Cn (sq E St N (j+1)) N)->kj (aR (bT (lG (aY "Sorting" "rounds" (aw 0)) (aw 4)))
   (cI (jK eE 1 (aj (eO 1 [0] (mZ (kL dH (aj (aY "Sorting" "steps" (aw 0)) aH))) (df 0) cL (bf "Sorting" "mark_of" bH 2 (aw 1) (aj (af (aa 0)) aH))) aH)) (df 4)) [lD (.rf o),x1,x2,x3,lD (.rf t)] (Z++[.lst []])) (LI o q N St E x1 x2 x3 (n+1)) T X:=λO U=>by
  replace ho:=l ho;replace hq:=l hq;replace ht:=l ht;let J:∀x∈Y,Rf q N (Z++[.lst []]) x:=λy hy=>let#[t,c,a,b,d]:=J y hy;#[t,c,a,b,l d]
  generalize Z++[Cell.lst []]=Z at ho hq ht J;let ql:=(Vv.mp hq).1;let oq:q≠o:=λz=>by rw[z,ho]at hq;ext hq
  let rl:Y.length<1000000:=by ext
  show uP (iY (vi (dL (bh W) ho W) hq (bh W) hq rl)) ?_;let ne:∀{j:Nat} {C C':Cell},q≠j->Z[j]?=lD C->(Z.set q C')[j]?=lD C:=λh e=>by rw[WB h];show e
  let B:=ne (C':=.lst (Y++[.rf t])) oq ho;let A:(Z.set q (.lst (Y++[.rf t])))[q]?=lD (.lst (Y++[.rf t])):=WE ql;let p:=ne (C':=.lst (Y++[.rf t])) (Wc qt) ht;let I:∀x∈Y++[.rf t],Rf q N (Z.set q (.lst (Y++[.rf t]))) x:=λx w=>by
   rcases Wr.mp w with w|w
   .let(F,c,a,b,d):=J x w;show#[F,c,a,b,ne (Wc b) d]
   .rw[VW.mp w];show#[t,f,W,qt,p]
  let M:q<(Z.set q (.lst (Y++[.rf t]))).length:=by rw[WL];show ql
  generalize Z.set q (.lst (Y++[.rf t]))=Z1 at B A p I M;let(K,cm):=Ho (ρ:=[lD (.rf o),x1,x2,x3,lD (.rf t)]) B A p hs h9 W;let ml:((VI N).map (tf f St)).length=N:=EN;let nb:=sf (by
   let g:(Z1++K++[Cell.lst (((VI N).map (tf f St)).map .fz)]++[Cell.dd []])[(Z1++K).length]?=lD (.lst (((VI N).map (tf f St)).map .fz)):=by rw[VQ (by rw[Vy (bs:=[_])];show _<_+1;ext)];show aQ
   rw[jJ g,List.set_append_left _ _ (by rw[Vy (bs:=[_])];show _<_+1;ext),eF]) (by rw[Vy,Vy (bs:=[_])];rfl) (λd hd=>by let(i,_,rfl):=Wh.mp hd;show KP _ _ _) (by rw[ml];show h9)
  generalize hZ2:Z1++K++[Cell.lst (((VI N).map (tf f St)).map .fz)]=Z2 at cm nb;let l2:Z2.length=(Z1++K++[Cell.dead]).length:=by rw[<-hZ2,Vy (bs:=[_]),Vy (bs:=[_])];rfl
  show x0 (m9 (nw (ao cm aN) W nb) W) ?_;let m:∀{j:Nat} {C:Cell},Z1[j]?=lD C->(Z1++K++[Cell.dead]++[Cell.dd (eN 0 (gW ((VI N).map (tf f St)))),.lst ((SD ((VI N).map (tf f St))).map λc=>.fz (nd c))])[j]?=lD C:=λ{j C} h=>by rw[V6,V6,VQ (Vv.mp h).1];show h
  let cl:(Z1++K++[Cell.dead]++[Cell.dd (eN 0 (gW ((VI N).map (tf f St)))),.lst ((SD ((VI N).map (tf f St))).map λc=>.fz (nd c))])[Z2.length+1]?=lD (BW (za ((VI N).map (tf f St))) N):=by rw[l2,mr (t:=1)];show lD (Cell.lst _)=_;unfold BW SD;rw[ml,Wd];rfl
  rw[<-H]at cl;show#[Y++[.rf t],_,W,m B,m A,?_,cl,λx w=>?_,by rw[Vy,hrl];rfl,U,.inr #[n,Y,t,W,W,by rw[hfn];show m p,by rw[hfn];show O]]
  .rw[l2,Vy,Vy];ext
  .let(F,c,a,b,d):=I x w;show#[F,c,a,b,m d]
 rcases Q with⟨rfl,rfl⟩|⟨k,v,F,rfl,rfl,G,hnc⟩
 .show .inr #[by decide,_,pP S,u fp λj hj=>by ext]
 .let ie:(v++[SV.rf F]).isEmpty=VO:=by ext v<;>rfl
  let Q:=wC (St:=St) V k;rw[ie]at S;let m1:=OY (fa:=aw 4) (ρ:=[lD (.rf o),x1,x2,x3,lD (.rf t)]) R P (l ht) (bh W);let m2:=OY (fa:=gC (aY "Sorting" "rounds" (aw 0)) (af (DU u7 (~~~1)))) (ρ:=[lD (.rf o),x1,x2,x3,lD (.rf t)]) R Q (l G) (oQ (n:= -1) (dL (bh W) (l ho) W) (ah (d:=.int (-1)) (zP (rv:=.fz (.int (-1))) aC W W)) W (l hq) (uw _ _));let L:=ku S (bw (dz m1 m2 (cM (z6 _ _))));by_cases g:Cn (sq E St N k) N<Cn f N
  .rw[aE ()]at L
   show .inr #[by ext,_,L,u () λj hj=>?_];by_cases e:j=k
   .subst e;rw[hfn];show g
   .show hup j ()
  .rw[aP ()]at L;show .inl #[_,L,hN _ _ #[v,F,k,l ho,l hq,l G,by rw[hfn];ext,λj hj=>hup j ()]]
end
def gS(b:Bd)(c:G YU)(a:Nat):G Nat:=match(b8 b c a)[a]? with
 |some r=>c.map λe=>fS (b8 b c (a+1)) (aG b r.s e).1
 |none=>[]
def Ix(fs:G Rm)(s:Yf)(x y:D):(lK fs s x y).length=max fs.length (fS fs s+1)/\fS fs s<=fs.length:=by
 unfold lK fS;cases q:cX (fs.map jY) (cO s)with
 |none=>rw[ax (by nofun),Vy];show fs.length+1=max fs.length (fs.length+1)/\fs.length<=fs.length;ext
 |some t=>let(z,a,_):=oS q;let:=(Vv.mp a).1;rw[Vw]at this;rw[av (show(R t).isSome=P from rfl)];show fs.length=max fs.length (t+1)/\t<=fs.length;ext
theorem zT(a:VB b)(h:SW b s):∀(c:bb YU) (fs G:bb Rm),(∀e∈c,EV b e)->gr b s r fs c=G->Lh fs.length (c.map λe=>fS G (aG b s e).1)/\Bg fs.length (c.map λe=>fS G (aG b s e).1)=G.length
 |[],fs,G,_,e=>by ext e;show#[True.intro,W]
 |e::c,fs,G,he,n=>by let sw:=ja a h (he e VV);let(g,f):=zT a h c (lK fs (aG b s e).1 (nd r) (eS e)) G (λx l=>he x (VX _ l)) n;let m:fS G (aG b s e).1=fS fs (aG b s e).1:=DW (by rw[<-n];show sX c _) (sY sw _ _);let(j,i):=Ix fs (aG b s e).1 (nd r) (eS e);rw[j]at g f;rw[V1,m];show#[#[i,g],f]
def kK(g:VB b)(i:∀e∈n,EV b e)(j:(b8 b n N).length=N)(c:a<N):a<(b8 b n a).length/\(b8 b n (a+1)).length<=N/\Lh (b8 b n a).length (gS b n a)/\Bg (b8 b n a).length (gS b n a)=(b8 b n (a+1)).length:=by
 let lt:a<(b8 b n a).length:=by
  rcases aaC a (b8 b n a).length with h|h
  .show h
  .let:=uf h N;ext
 let le:=uf (ZF j) (a+1);let f:=Vz lt;let(m,l):=zT g (lx g i a _ (Xt lt)) n _ _ i (oJ f).symm;show#[lt,by ext,?_];ext gS;rw[f];show#[m,l]
def OS(f:VB b)(i:∀e∈o,EV b e)(h:o.length<=1000)(j:(b8 b o N).length=N)(c:a<N):(gS b o a).length<=1000/\∀s∈gS b o a,s<N:=by
 let(_,n,_,l):=kK f i j c;constructor
 .ext gS
  split
  .rw[Vw];show h
  .show Wx _
 .intro s g;let:=(AR (m:=(b8 b o a).length) (gS b o a)).2 s g;ext
def AH(f:VB b)(g:∀e∈i,EV b e)(h:(b8 b i N).length=N):jy b i N=(VI N).map (Ga (gS b i)):=by show Xn λa j=>?_;let(lt,_):=kK f g h (WI.mp j);unfold HY Ga gS;rw[Vz lt];rw[Wd];rfl
def SL(h:q.1<26):LD.kd (gX q)=P:=by
 ext gX;simp only[LD.kd,LD.kds];rw[mf h];cases q.2
 .rw[ax VU,show VD.strOk "up"=P by left];rfl
 .rw[av W,show VD.strOk "down"=P by left];rfl
theorem xO(g:VB b)(i:∀e∈o,EV b e)(n:(b8 b o N).length=N):∀d∈bF b o N,LD.keyD d=P:=λd m=>by
 let(a,p,rfl):=Wh.mp m;let(lt,_):=kK g i n (WI.mp p);let sw:=lx g i a _ (Xt lt);ext zV;rw[Vz lt];rw[LD.keyD];show(V9 _ _).mpr #[jG λe h=>?_,aE ?_]
 .rw[LD.kd];show jG λq j=>SL (yI g sw (i e h) q j)
 .show VD.depthAll (o.map λe=>VD.tuple ((aG b (b8 b o a)[a].s e).2.map gX))+1<=8
  let:=k7 (f:=λe=>VD.tuple ((aG b (b8 b o a)[a].s e).2.map gX)) (l:=o) λe _=>by show VD.depthAll ((aG b (b8 b o a)[a].s e).2.map gX)+1<=2;let:=k7 (l:=(aG b (b8 b o a)[a].s e).2) λq _=>Eu q;ext
  ext
def EB(m:Nat)(h:Z[i]?=R (.lst (ds.map .fz))):frz (m+1) Z (.rf i)=R (.list ds,Z.set i .dead):=by ext frz;rw[h];dsimp only;rw[pX]
def K0:frz 4 (base++(A:: .lst (F.map .fz)::C:: .lst (S.map .fz):: .lst (E.map .fz)::J)) (.tp [.rf (base.length+1),.rf (base.length+3),.rf (base.length+4)])=R (.tuple [.list F,.list S,.list E],base++(A:: .dead::C:: .dead:: .dead::J)):=by
 let e:=EB (Z:=base++(A:: .lst (F.map .fz)::C:: .lst (S.map .fz):: .lst (E.map .fz)::J)) 2 (mr (t:=1));rw[tW]at e;let b:=EB (Z:=base++(A:: .dead::C:: .lst (S.map .fz):: .lst (E.map .fz)::J)) 2 (mr (t:=3));rw[tW]at b;let a:=EB (Z:=base++(A:: .dead::C:: .dead:: .lst (E.map .fz)::J)) 2 (mr (t:=4));rw[tW]at a;show(match i4 (frz 3) _ [.rf (base.length+1),.rf (base.length+3),.rf (base.length+4)]with|some (ds,g)=>R (VD.tuple ds,g)|none=>U)=_;let f:i4 (frz 3) (base++(A:: .lst (F.map .fz)::C:: .lst (S.map .fz):: .lst (E.map .fz)::J)) [.rf (base.length+1),.rf (base.length+3),.rf (base.length+4)]=R ([.list F,.list S,.list E],base++(A:: .dead::C:: .dead:: .dead::J)):=by ext i4;rw[e];dsimp only;ext i4;rw[show amK (A::Cell.lst (F.map .fz)::C::Cell.lst (S.map .fz)::Cell.lst (E.map .fz)::J) 1 Cell.dead=A:: .dead::C:: .lst (S.map .fz):: .lst (E.map .fz)::J from rfl,b];dsimp only;ext i4;rw[show amK (A::Cell.dead::C::Cell.lst (S.map .fz)::Cell.lst (E.map .fz)::J) 3 Cell.dead=A:: .dead::C:: .dead:: .lst (E.map .fz)::J from rfl,a];rfl
 rw[f]
def F6{St:Nat->bb Nat}(z:∀D k,(∃q,SE o q N St E k)->L D k)(i:Z[o]?=R (.obj "Sorting" []))(B:0<N)(A:N<=1000)(w:∀r,r<N->(St r).length<=1000/\∀s∈St r,s<N)(G:∀d∈E,LD.keyD d=P)(t:E.length=N):
  kj ((aR (fu "Sorting" "steps" (aw 0) (af (aL bq (aa 3) (~~~1))))
 (aR (fu "Sorting" "sends" (aw 0) (af (aL bq (aa 3) (~~~2))))
 (aR (fu "Sorting" "rounds" (aw 0) (af (de az)))
 (aR (cI (jK eE 1 (aj (aY "Sorting" "sends" (aw 0)) aH)) (df 4))
 (mY (Bt (bS (lU cT (aY "Sorting" "rounds" (aw 0)) (af (de az)))) (bS (lU Lw (kL jf (aj (aw 4) aH)) (kL jf (aj (gC (aY "Sorting" "rounds" (aw 0)) (af (DU u7 (~~~1)))) aH))))) (aR (bT (lG (aY "Sorting" "rounds" (aw 0)) (aw 4)))
 (cI (jK eE 1 (aj (eO 1 [0] (mZ (kL dH (aj (aY "Sorting" "steps" (aw 0)) aH))) (df 0) cL (bf "Sorting" "mark_of" bH 2 (aw 1) (aj (af (aa 0)) aH))) aH)) (df 4)))))))) [R (.rf o),-(bd),-(.int m),-(.tuple [F,.list ((VI N).map (Ga St)),.list E]),U] Z) L T X:=by
 let f:=(Vv.mp i).1;show uP (kT (ah (aB (ae W) aC W W jt)) (bh W) i ()) ?_;let e:(Z.set o (.obj "Sorting" (eY "steps" (.fz (.list ((VI N).map (Ga St)))) [])))[o]?=R (.obj "Sorting" [("steps",.fz (.list ((VI N).map (Ga St))))]):=WE f;generalize Z.set o (.obj "Sorting" (eY "steps" (.fz (.list ((VI N).map (Ga St)))) []))=Z at e⊢;let f:=(Vv.mp e).1;show uP (kT (ah (aB (ae W) aC W W sF)) (bh W) e (VJ W)) ?_;let b:(Z.set o (.obj "Sorting" (eY "sends" (.fz (.list E)) [("steps",.fz (.list ((VI N).map (Ga St))))])))[o]?=R (.obj "Sorting" [("steps",.fz (.list ((VI N).map (Ga St)))),("sends",.fz (.list E))]):=WE f;generalize Z.set o (.obj "Sorting" (eY "sends" (.fz (.list E)) [("steps",.fz (.list ((VI N).map (Ga St))))]))=Z at b⊢;let f:=(Vv.mp b).1;let n:(Z++[Cell.lst []])[o]?=R (.obj "Sorting" [("steps",.fz (.list ((VI N).map (Ga St)))),("sends",.fz (.list E))]):=by rw[VQ f];show b
 show uP (kT (dA (ds:=[]) (by ext:0)) (bh W) n (VJ W)) ?_;show kj (aR _ _ _ ((Z++[Cell.lst []]).set o (.obj "Sorting" (Aw St N (.list E) Z.length)))) _ _ _;let a:((Z++[Cell.lst []]).set o (.obj "Sorting" (Aw St N (.list E) Z.length)))[o]?=R (.obj "Sorting" (Aw St N (.list E) Z.length)):=WE (by rw[Vy];ext);let l:((Z++[Cell.lst []]).set o (.obj "Sorting" (Aw St N (.list E) Z.length)))[Z.length]?=R (.lst []):=by rw[WB ()];show aQ
 let p:Z.length<((Z++[Cell.lst []]).set o (.obj "Sorting" (Aw St N (.list E) Z.length))).length:=by rw[WL,Vy];show _<_+1;ext
 generalize (Z++[Cell.lst []]).set o (.obj "Sorting" (Aw St N (.list E) Z.length))=J at a l p⊢;generalize Z.length=q at a l p;let u:=sf (x:=.fz (.list E)) (Z1:=J) W W G ();show uP (m9 (nw (ao (dL (bh W) a W) aN) W u) W) ?_;let g:∀{j:Nat} {C:Cell},J[j]?=R C->(J++[Cell.dd (eN 0 (gW E)),.lst ((SD E).map λc=>.fz (nd c))])[j]?=R C:=λ{j C} h=>by rw[VQ (Vv.mp h).1];show h
 show F8 (λD k h=>z D k #[q,h]) t B A w #[[],J.length+1,W,g a,g l,by ext,?_,(λx v=>nomatch v),W,(λj y=>a5 y (aaP _)),.inl #[W,W]];rw[mr];unfold BW SD sq;rw[t,Wd];rfl
def HE(e:VB b){n:Nat}(d:b.n=n)(H:n<=5)(z:0<=m)(y:m<=1000)(p:Q[o]?=R (.obj "Sorting" [])):Out (c7 [.rf o,.fz (bD b),.fz (.int m)] Q) (λv c=>v=.fz .none/\∃N q,(b8 b (ei n) N).length=N/\(N:Int)<=m/\SE o q N (gS b (ei n)) (bF b (ei n) N) c) (λx=>x=TM m/\∃i,m<((b8 b (ei n) i).length:Int)):=by
 let j:(ei n).length<=1000:=by ext ei;rw[Vy,Vy,Vw,Vw,V2];show n+n+1<=_;ext
 let a:=jZ d;show oH W ?_;show yR ?_;let L:=AW (F:=iw) (es:=[]) (fa:=aj (af (aa 1)) (aj (af (aa 2)) aH)) (ρ:=[R (.rf o),-(bD b),-(.int m),U,U]) (Z:=Q) (ao (ah (ae W)) (ao (ah (ae W)) aN)) W;show Out.bind (.eq L ((uo e d H z y Q).imp λv c B=>?_));let(N,J,g,I,rfl,rfl):=B;let t:=K0 (base:=Q++[.dead]) (A:=.obj "Places" (pF m ((Q++[Cell.dead]).length+1) ((Q++[Cell.dead]).length+2))) (C:=.dd (eN 0 ((b8 b (ei n) N).map jY))) (F:=((b8 b (ei n) N).map jY).map sJ) (S:=jy b (ei n) N) (E:=bF b (ei n) N) (J:=J);let M:(Q++[Cell.dead]).length=Q.length+1:=by rw[Vy];rfl
 rw[AH e a g]at t;show .eq (r':=RS.ok (SV.fz (.tuple [.list (((b8 b (ei n) N).map jY).map sJ),.list ((VI N).map (Ga (gS b (ei n)))),.list (bF b (ei n) N)])) (Q++[Cell.dead]++(.obj "Places" (pF m ((Q++[Cell.dead]).length+1) ((Q++[Cell.dead]).length+2)):: .dead:: .dd (eN 0 ((b8 b (ei n) N).map jY)):: .dead:: .dead::J))) ?_ #[?_]
 .unfold Mo vI gU;rw[AH e a g,show Q.length+2=(Q++[Cell.dead]).length+1 by ext,show Q.length+4=(Q++[Cell.dead]).length+3 by ext,show Q.length+5=(Q++[Cell.dead]).length+4 by ext,t]
 let K:0<N:=by let:=yl b (ei n) N;ext
 let f:(Q++[Cell.dead]++(.obj "Places" (pF m ((Q++[Cell.dead]).length+1) ((Q++[Cell.dead]).length+2)):: .dead:: .dd (eN 0 ((b8 b (ei n) N).map jY)):: .dead:: .dead::J))[o]?=R (.obj "Sorting" []):=by rw[V6,VQ (Vv.mp p).1];show p
 generalize Q++[Cell.dead]++(Cell.obj "Places" (pF m ((Q++[Cell.dead]).length+1) ((Q++[Cell.dead]).length+2)):: .dead:: .dd (eN 0 ((b8 b (ei n) N).map jY)):: .dead:: .dead::J)=Z at f;let l:∀r,r<N->(gS b (ei n) r).length<=1000/\∀s∈gS b (ei n) r,s<N:=λr G=>OS e a j g G;let w:=xO e a g;let u:(bF b (ei n) N).length=N:=by ext bF;rw[Vw,V2]
 generalize gS b (ei n)=St at l⊢;generalize X:bF b (ei n) N=E at w u⊢;generalize ((b8 b (ei n) N).map jY).map sJ=F;generalize bD b=bd;show F6 (λY c h=>#[W,N,let#[q,T]:=h;#[q,g,I,by rw[X];show T]]) f K () l w u
section
variable{N:Nat}{St:Nat->bb Nat}{c:Nat->Nat}{E:bb D}{Z:bp}{o q t:Nat}
def lX(c:Nat->Nat)(N:Nat):G Int:=(VI N).map λi=>((c i:Nat):Int)
def l6(c:Nat->Nat)(N k:Nat):Nat:=(t6 (k:Int) (lX c N)).getD 0
theorem wK:∀{ns:G Int},k∈ns->∃j,t6 k ns=R j
 |n::r,h=>by
  ext t6;by_cases e:n=k
  .show#[0,av e]
  .rw[ax e];let(j,a):=wK ((Wa.mp h).resolve_left λz=>e z.symm);show#[j+1,by rw[a];rfl]
def tF(n:RG c N)(m:k<Cn c N):t6 (k:Int) (lX c N)=R (l6 c N k)/\l6 c N k<N/\c (l6 c N k)=k/\Cn c (l6 c N k)=k:=by
 let(i,h,g,p):=mK n N (VP _) m;let(j,b):=wK (ns:=lX c N) (Wh.mpr #[i,WI.mpr h,by rw[g]]);let e:l6 c N k=j:=by ext l6;rw[b];rfl
 rw[e];let(a,u):=yg b;let f:j<N:=by let:=(Vv.mp a).1;unfold lX at this;rw[Vw,V2]at this;show this
 unfold lX at a;rw[eT f]at a;let r:c j=k:=by let:=VZ a;ext
 let l:i=j:=by
  rcases aaf i j with z|z|z
  .show a5 ?_ (u i z);ext lX;rw[eT h,g]
  .show z
  .let:=ko (c:=c) z;ext
 show#[b,f,r,by rw[<-l];show p]
def ND(St:Nat->G Nat)(c:Nat->Nat)(N k:Nat):D:=.tuple ((St (l6 c N k)).map λs=>nd (c s))
def Gn(E:G D)(c:Nat->Nat)(N k:Nat):D:=(E[l6 c N k]?).getD .none
def GJ(St:Nat->G Nat)(E:G D)(c:Nat->Nat)(N:Nat):D:=.tuple [.tuple ((VI (Cn c N)).map (ND St c N)),.tuple ((VI (Cn c N)).map (Gn E c N))]
def F7(r:0<N)(y:N<=400)(e:RG c N):fR 1 [3] (pS ju {aL dQ (iC L10.jf {aa 3}) (~~~1)}) (gN 0) eU (L10.JU 1 (aa 0)) [a,b,s,-(.list ((lX c N).map .int)),U,C]=.ok (.ow ((VI (Cn c N)).map λk=>nd (l6 c N k)),[a,b,s,-(.list ((lX c N).map .int)),U,C]):=by
 let f:0<(lX c N).length:=by ext lX;rw[Vw,V2];show r
 let B:=Gv e N (VP _);let hm:Gp (lX c N)=(Cn c N:Int) - 1:=by let(p,n):=ym f;let(i,J,A):=Wh.mp p;let:=ko (c:=c) (WI.mp J);let(j,h,w,_):=mK e (k:=Cn c N - 1) N (VP _) ();let:=n (c j:Nat) (Wh.mpr #[j,WI.mpr h,W]);ext
 let g:L10.jf [.list ((lX c N).map .int)]=-(.int ((Cn c N:Int) - 1)):=by ext jf;dsimp only;rw[L3.jz];dsimp only;rw[av f,hm]
 let v:dQ (.int ((Cn c N:Int) - 1)) (.int 1)=-(nd (Cn c N)):=by rw[hG,show(Cn c N:Int) - 1+1=(Cn c N:Int) by ext]
 show gf (Eh (ai (aB (fO (ai (ae W) aJ) W g) aC W W v) aJ) W (sS ())) W ?_;show lg nd (λk=>nd (l6 c N k)) (VI (Cn c N)) (by rw[V2];ext) W λk m=>?_;let(u,z,_):=tF e (WI.mp m);let l:IH ((lX c N).map .int) (nd k)=R (l6 c N k):=by ext IH;rw[L3.jz];show(match t6 (k:Int) (lX c N)with|some j=>if j<1000 then R j else U|none=>U)=_;rw[u];show av ()
 show IT (aa 0) [-(nd k),-(.list ((lX c N).map .int))] (R (-(.list ((lX c N).map .int))))=_;ext IT;rw[show aa 0 [R (PV.fz (nd k)),-(.list ((lX c N).map .int))]=.ok (.fz (nd k),[-(nd k),-(.list ((lX c N).map .int))])from ae W];show((Res.WN (IH ((lX c N).map .int) (nd k))).bind λj=>Res.ok (PV.fz (nd j),[R (PV.fz (nd k)),-(.list ((lX c N).map .int))]))=_;rw[l];rfl
def Gh(p:RG c N)(I:N<=400)(z:∀r,r<N->(St r).length<=1000/\∀s∈St r,s<N)(m:Z[o]?=R (.obj "Sorting" (Aw St N (.list E) q)))(C:ρ[2]?=R (R (.rf o)))(B:ρ[3]?=R (-(.list ((lX c N).map .int))))(A:(b9 ρ)[4]?=R (-(.list ((VI (Cn c N)).map λk=>nd (l6 c N k))))):
  ∃K,kL gx (aj (eO 1 [2,3] (gR (iq (aa 4))) (df 0) cL (kL gx (aj (eO 1 [2] (fP (gC (aY "Sorting" "steps" (aw 1)) (af (aa 0)))) (df 0) cL (af (aL bq (aa 1) (aa 0)))) aH))) aH) ρ Z=.ok (.fz (.tuple ((VI (Cn c N)).map (ND St c N)))) (Z++K):=by
 let y:gR (iq (aa 4)) ρ Z=.ok ((VI (Cn c N)).map λk=>nd (l6 c N k)) Z:=kG (lA (ae A) W W);let J:=Gv p N (VP _);let g:Out (cD (df 0) cL (kL gx (aj (eO 1 [2] (fP (gC (aY "Sorting" "steps" (aw 1)) (af (aa 0)))) (df 0) cL (af (aL bq (aa 1) (aa 0)))) aH)) ((VI (Cn c N)).map λk=>nd (l6 c N k)) [U,R (.rf o),-(.list ((lX c N).map .int))] Z []) (λxs f=>∃a:bz,(∃x,a=[x,R (.rf o),-(.list ((lX c N).map .int))])/\(∃K,f=Z++K)/\xs=((VI (0+((VI (Cn c N)).map λk=>nd (l6 c N k)).length)).map (ND St c N)).map .fz) λ_=>False:=by
  show jd (λk ρ f b=>(∃x,ρ=[x,R (.rf o),-(.list ((lX c N).map .int))])/\(∃K,f=Z++K)/\b=((VI k).map (ND St c N)).map .fz) _ 0 _ _ _ #[#[U,W],#[[],by rw[Wi]],W] ?_;rintro i d ρ f b L ⟨⟨x,rfl⟩,⟨K,rfl⟩,rfl⟩;rw[WO];let h:=(Vv.mp L).1;rw[Vw,V2]at h;rw[eT h]at L;ext L;let(_,u,_):=tF p h;let(H,v):=z _ u;let l:(Z++K)[o]?=R (.obj "Sorting" (Aw St N (.list E) q)):=by rw[VQ (Vv.mp m).1];show m
  show#[by rw[Vw,Vw,V2];ext,[-(nd (l6 c N i)),R (.rf o),-(.list ((lX c N).map .int))],W,W,?_];let w:fP (gC (aY "Sorting" "steps" (aw 1)) (af (aa 0))) [-(nd (l6 c N i)),R (.rf o),-(.list ((lX c N).map .int))] (Z++K)=.ok ((St (l6 c N i)).map nd) (Z++K):=by ext fP;rw[cQ (dL (bh W) l W) (ah (ae W)) (zd (eT u)),eh];rfl
  let cm:cD (df 0) cL (af (aL bq (aa 1) (aa 0))) ((St (l6 c N i)).map nd) [U,-(.list ((lX c N).map .int))] (Z++K) []=.ok ([]++(St (l6 c N i)).map λs=>SV.fz (nd (c s))) (Z++K):=by show g9 nd (λs=>SV.fz (nd (c s))) (Z++K) (λρ=>∃x,ρ=[x,-(.list ((lX c N).map .int))]) (St (l6 c N i)) _ [] #[_,W] (by show 0+_<=_;ext) ?_;rintro s j ρ ⟨x,rfl⟩;show#[[-(nd s),-(.list ((lX c N).map .int))],W,W,ah (aB (ae W) (ae W) W W (zd ?_)),_,W];ext lX;rw[Wd];show eT (v s j)
  rw[YS]at cm;let G:=hW (n:=1) (fj:=[2]) w cm;show .eq (lQ (ds:=[.list ((St (l6 c N i)).map λs=>nd (c s))]) (ao G aN) ?_ W) #[#[_,W],#[K++[_],V6 _ _ _],?_]
  .let:sh (Z++K++[.lst ((St (l6 c N i)).map λs=>SV.fz (nd (c s)))]) (.rf (Z++K).length)=R (.list ((St (l6 c N i)).map λs=>nd (c s))):=dh (by rw[Wd];show aQ);ext aV;rw[this];rfl
  .rw[Zt,V4,V4];rfl
 let(xs,f,e,a,_,(K,rfl),rfl):=g.all;rw[WO,Vw,V2]at e;let F:fM 1 [2,3] ρ=[U,R (.rf o),-(.list ((lX c N).map .int))]:=by ext fM;show[U]++[(ρ[2]?).join,(ρ[3]?).join]=_;rw[C,B];rfl
 rw[<-F]at e;show#[K++[_],(lQ (ds:=[.list ((VI (Cn c N)).map (ND St c N))]) (ao (hW y e) aN) ?_ W).trans (by rw[V6])];let:sh (Z++K++[.lst (((VI (Cn c N)).map (ND St c N)).map .fz)]) (.rf (Z++K).length)=R (.list ((VI (Cn c N)).map (ND St c N))):=dh aQ;ext aV;rw[this];rfl
def GA(a:RG c N)(l:N<=400)(j:E.length=N)(e:Z[o]?=R (.obj "Sorting" (Aw St N (.list E) q)))(h:ρ[2]?=R (R (.rf o)))(g:(b9 ρ)[4]?=R (-(.list ((VI (Cn c N)).map λk=>nd (l6 c N k))))):
  ∃K,kL gx (aj (eO 1 [2] (gR (iq (aa 4))) (df 0) cL (gC (aY "Sorting" "sends" (aw 1)) (af (aa 0)))) aH) ρ Z=.ok (.fz (.tuple ((VI (Cn c N)).map (Gn E c N)))) (Z++K):=by
 let b:gR (iq (aa 4)) ρ Z=.ok ((VI (Cn c N)).map λk=>nd (l6 c N k)) Z:=kG (lA (ae g) W W);let n:=Gv a N (VP _);let cm:cD (df 0) cL (gC (aY "Sorting" "sends" (aw 1)) (af (aa 0))) ((VI (Cn c N)).map λk=>nd (l6 c N k)) [U,R (.rf o)] Z []=.ok ([]++(VI (Cn c N)).map λk=>SV.fz (Gn E c N k)) Z:=by show g9 (λk=>nd (l6 c N k)) (λk=>SV.fz (Gn E c N k)) Z (λρ=>∃x,ρ=[x,R (.rf o)]) (VI (Cn c N)) _ [] #[_,W] (by show 0+_<=_;rw[V2];ext) ?_;rintro k f ρ ⟨x,rfl⟩;let(_,m,_):=tF a (WI.mp f);show#[[-(nd (l6 c N k)),R (.rf o)],W,W,cQ (dL (bh W) e W) (ah (ae W)) (zd ?_),_,W];ext Gn;rw[Vz ()];rfl
 rw[YS]at cm;let i:fM 1 [2] ρ=[U,R (.rf o)]:=by ext fM;show[U]++[(ρ[2]?).join]=_;rw[h];rfl
 rw[<-i]at cm;show#[[_],lQ (ds:=[.list ((VI (Cn c N)).map (Gn E c N))]) (ao (hW b cm) aN) ?_ W];let:sh (Z++[.lst ((VI (Cn c N)).map λk=>SV.fz (Gn E c N k))]) (.rf Z.length)=R (.list ((VI (Cn c N)).map (Gn E c N))):=dh (by rw[Wd];show aQ);ext aV;rw[this];rfl
end
def LJ:BW c N=.lst (((lX c N).map VD.int).map .fz):=by unfold BW lX;rw[Wd,Wd];rfl
def SC(E:G D)(St:Nat->G Nat)(N k:Nat):Prop:=Cn (sq E St N (k+1)) N<=Cn (sq E St N k) N/\∀j,j<k->Cn (sq E St N j) N<Cn (sq E St N (j+1)) N
def zA(B:VB b){n:Nat}(d:b.n=n)(R:n<=5)(L:0<=m)(D:m<=400)(A:bp):Out (cW [.fz (bD b),.fz (.int m)] A) (λv _=>∃N k,(b8 b (ei n) N).length=N/\(N:Int)<=m/\SC (bF b (ei n) N) (gS b (ei n)) N k/\v=.fz (GJ (gS b (ei n)) (bF b (ei n) N) (sq (bF b (ei n) N) (gS b (ei n)) N k) N)) (λx=>x=TM m/\∃i,m<((b8 b (ei n) i).length:Int)):=by
 let w:(ei n).length<=1000:=by ext ei;rw[Vy,Vy,Vw,Vw,V2];show n+n+1<=_;ext
 let u:=jZ d;show oH W ?_;let J:=CN (C:= "Sorting") (F:=c7) (fa:=aj (af (aa 0)) (aj (af (aa 1)) aH)) (ρ:=[-(bD b),-(.int m),Vt,Vt,Vt,Vt]) (Z:=A) (ao (ah (ae W)) (ao (ah (ae W)) aN)) W;show yR (.eq J (Out.bind ((HE B d R L () aQ).imp λv Z M=>?_)));let(rfl,N,q,H,S,rs,t,k,h,P,j,Q):=M;show .eq W #[?_];let G:∀r,r<N->(gS b (ei n) r).length<=1000/\∀s∈gS b (ei n) r,s<N:=λr O=>OS B u w H O;let y:(bF b (ei n) N).length=N:=by ext bF;rw[Vw,V2]
 let T:0<N:=by let:=yl b (ei n) N;ext
 let p:=wC (St:=gS b (ei n)) y k;let f:∀v,v=SV.fz (GJ (gS b (ei n)) (bF b (ei n) N) (sq (bF b (ei n) N) (gS b (ei n)) N k) N)->∃N k,(b8 b (ei n) N).length=N/\(N:Int)<=m/\SC (bF b (ei n) N) (gS b (ei n)) N k/\v=.fz (GJ (gS b (ei n)) (bF b (ei n) N) (sq (bF b (ei n) N) (gS b (ei n)) N k) N):=λv e=>#[N,k,H,S,Q,e];generalize sq (bF b (ei n) N) (gS b (ei n)) N k=c at j p f;generalize gS b (ei n)=St at h G f;generalize bF b (ei n) N=E at h y f;generalize A.length=o at h;generalize bD b=bd;let I:t≠o:=λz=>by rw[z,h]at j;ext j
 rw[LJ]at j;let e1:iL (gC (aY "Sorting" "rounds" (aw 2)) (af (DU u7 (~~~1)))) [-(bd),-(.int m),lD (.rf o),Vt,Vt,Vt] Z=.ok (.fz (.list ((lX c N).map .int))) (Z.set t .dead):=gZ (oQ (dL (bh W) h W) (ah (zP (rv:=.fz (.int (-1))) aC W W)) W P (uw _ _)) (jJ j);show c8 e1 W ?_;let g:(Z.set t .dead)[o]?=lD (.obj "Sorting" (Aw St N (.list E) q)):=by rw[WB I];show h
 generalize Z.set t .dead=Z1 at g;let Y:iL (af (fR 1 [3] (pS ju {aL dQ (iC L10.jf {aa 3}) (~~~1)}) (gN 0) eU (L10.JU 1 (aa 0)))) [-(bd),-(.int m),lD (.rf o),-(.list ((lX c N).map .int)),Vt,Vt] Z1=.ok (.fz (.list ((VI (Cn c N)).map λk=>nd (l6 c N k)))) (Z1++[.dead]):=by show gZ (dA (F7 T () p)) ?_;rw[jJ aQ,eF]
 show c8 Y W ?_;let a:(Z1++[Cell.dead])[o]?=lD (.obj "Sorting" (Aw St N (.list E) q)):=by rw[VQ (Vv.mp g).1];show g
 generalize Z1++[Cell.dead]=Z2 at a;let(K,X):=Gh (ρ:=[-(bd),-(.int m),lD (.rf o),-(.list ((lX c N).map .int)),-(.list ((VI (Cn c N)).map λk=>nd (l6 c N k))),Vt]) p () G a W W W;show c8 X W ?_;let l:(Z2++K)[o]?=lD (.obj "Sorting" (Aw St N (.list E) q)):=by rw[VQ (Vv.mp a).1];show a
 generalize Z2++K=Z3 at l;let(K2,U):=GA (ρ:=[-(bd),-(.int m),lD (.rf o),-(.list ((lX c N).map .int)),-(.list ((VI (Cn c N)).map λk=>nd (l6 c N k))),-(.tuple ((VI (Cn c N)).map (ND St c N)))]) p () y l W W;show rF (rq (ao (ah (ae W)) (ao U aN)) (by show 2<=1000;ext)) (f _ W)
theorem Fr(h:bX a=bX b):a=b:=(YT λx y e=>by injection e with e;show aeR e).mp h
def B7(h:mD m=mD n):m=n:=by
 let e:=(pG m).symm.trans ((dP (λz=>bq z (.int 0)) h).trans (pG n));injection e with e;injection e with e;injection e with e
 let w:=Ab _ (rV m) _ (rV n);rw[show ws (wn m)=ws (wn n)from e,d3]at w;ext m<;>ext n<;>first|rfl|(exfalso;revert w;simp[wn];done)|(injection h with h;injection h with _ h;injection h with h g;injection h with h)
 .rw[tt h]
 .rw[h]
 .injection g with g;injection g with g;rw[tt h,g]
 .rw[h]
def B2(o:VB b)(l:VB c)(C:SW b s)(B:SW c t)(h:cO s=cO t):s=t:=by
 injection h with h
 injection h with h1 h
 injection h with h2 h
 injection h with h3 _
 injection h1 with h1
 let j:=(YT λx y e=>by
  injection e with e;injection e with f e;injection e with e2 _;injection f with f
  show Prod.ext (aeR f) (B7 e2)).mp h1
 let G:=funext λk=>Option.ext λa=>#[λe=>by
   let:=(ig (p:=(k,a))).mpr #[(SA.ak o C.sa k a e).1,e];rw[j]at this;show(ig.mp this).2,λe=>by
   let:=(ig (p:=(k,a))).mpr #[(SA.ak l B.sa k a e).1,e];rw[<-j]at this;show(ig.mp this).2]
 let E:s.wt=t.wt:=by
  revert h2;cases s.wt with
  |none=>cases t.wt with
   |none=>show λ_=>W
   |some y=>show λe=>by ext e
  |some x=>cases t.wt with
   |none=>show λe=>by ext e
   |some y=>
    let(H,g,w):=x;let(I,i,v):=y;intro e;injection e with e;injection e with f e;injection e with e2 e;injection e with e3 _;injection f with f;injection e2 with e2;let f:=Fr f;let:w=v:=by
     revert e3;cases w with
     |none=>cases v with
      |none=>show λ_=>W
      |some q=>show λe=>by injection e with e;injection e with _ e;ext e
     |some p=>cases v with
      |none=>show λe=>by injection e with e;injection e with _ e;ext e
      |some q=>let(A,z):=p;let(u,r):=q;show λe=>by let:=B7 (m:=.tap A z) (n:=.tap u r) e;injection this with a b;rw[a,b]
    rw[f,e2,this]
 let F:s.oc=t.oc:=by
  revert h3;cases s.oc<;>cases t.oc<;>intro e
  .rfl
  .ext e
  .ext e
  .injection e with e;rw[e]
 ext s;ext t;ext G;ext E;ext F;rfl
abbrev PP:=Yf×Yf
def kP(p:PP):D:=.tuple [cO p.1,cO p.2]
def D5(b c:Bd)(p:PP)(e:YU):PP:=((aG b p.1 e).1,(aG c p.2 e).1)
def Bm(b c:Bd)(p:PP)(e:YU):Prop:=(aG b p.1 e).2=(aG c p.2 e).2
def G3:PP:=(xo,xo)
def RW(b c:Bd)(a:G YU):Nat->PP->Prop
 |0,p=>p=G3
 |k+1,p=>∃q e,RW b c a k q/\e∈a/\p=D5 b c q e
def PW(b c:Bd)(p:PP):Prop:=SW b p.1/\SW c p.2
structure BB(b c:Bd)(es:G YU):Prop where
 vb:VB b
 vc:VB c
 eb:∀e∈es,EV b e
 ec:∀e∈es,EV c e
section
variable{b c:Bd}{es:bb YU}
theorem BB.sw(h:BB b c es):BB c b es:=#[h.vc,h.vb,h.ec,h.eb]
theorem BB.nx(h:BB b c es)(a:PW b c p)(f:e∈es):PW b c (D5 b c p e):=#[ja h.vb a.1 (h.eb e f),ja h.vc a.2 (h.ec e f)]
theorem BB.rw(h:BB b c es):∀{k p},RW b c es k p->PW b c p
 |0,p,e=>by rw[show p=G3 from e];show#[lw b,lw c]
 |k+1,p,#[q,e,a,he,f]=>by rw[f];show h.nx (h.rw a) he
def Q8(h:BB b c es)(f:PW b c p)(a:PW b c q)(e:kP p=kP q):p=q:=by
 injection e with e;injection e with e1 e;injection e with e2 _
 show Prod.ext (B2 h.vb h.vb f.1 a.1 e1) (B2 h.vc h.vc f.2 a.2 e2)
theorem RW.swp:∀{k p},RW b c es k p->RW c b es k p.swap
 |0,p,e=>by rw[show p=G3 from e];rfl
 |k+1,p,#[q,e,a,he,f]=>#[q.swap,e,a.swp,he,by rw[f];rfl]
def vg(a:PW b c p):LD.keyD (kP p)=P:=by let(f,h):=J5 a.1;let(e,g):=J5 a.2;ext kP;rw[LD.keyD];simp only[LD.kds];rw[f,e,aE (show VD.depth (.tuple [cO p.1,cO p.2])<=8 by show max (VD.depth (cO p.1)) (max (VD.depth (cO p.2)) 0)+1<=8;ext)];rfl
structure ApD(b c:Bd)(es:G YU)(d:Nat):Prop where
 x:∃p e,RW b c es d p/\e∈es/\¬Bm b c p e
 n:∀k p e,k<d->RW b c es k p->e∈es->Bm b c p e
def ApD.one(h:ApD b c es d)(k:ApD b c es d'):d=d':=by
 let(p,e,o,m,l):=h.x;let(j,r,g,f,a):=k.x;by_cases q:d<d'
 .show a5 (k.n d p e q o m) l
 by_cases i:d'<d
 .show a5 (h.n d' j r i g f) a
 ext
def ApD.swp(h:ApD b c es d):ApD c b es d:=by let(p,e,m,l,j):=h.x;show#[#[p.swap,e,m.swp,l,λz=>j z.symm],λk q f g a i=>(h.n k q.swap f g a.swp i).symm]
structure AllP(b c:Bd)(es:G YU)(l:G PP):Prop where
 u:l.Nodup
 r:∀p∈l,∃k,RW b c es k p
 c:∀k p,RW b c es k p->p∈l
theorem uy:∀{m l:G PP},m.Nodup->(∀x∈m,x∈l)->m.length<=l.length
 |[],_,_,_=>Wx _
 |a::r,l,h,i=>by
  let(g,f,rfl):=List.append_of_mem (i a VV);rw[Xp]at h;let:=uy (m:=r) (l:=g++f) h.2 λx e=>by
   rcases Wr.mp (i x (VX _ e))with q|q
   .show XB _ q
   .rcases Wa.mp q with rfl|q
    .show a5 e h.1
    .show WK _ q
  rw[Vy]at this⊢;rw[V0,V0];ext
def AllP.len(h:AllP b c es l){m:G PP}(a:m.Nodup)(e:∀p∈m,∃k,RW b c es k p):m.length<=l.length:=by show uy a λp f=>?_;let(k,g):=e p f;show h.c k p g
theorem NP{l:G PP}(h:l.Nodup):(l.map Prod.swap).Nodup:=aik _ (λa b n e=>n (by let:=dP Prod.swap e;rwa [Prod.swap_swap,Prod.swap_swap]at this)) h
def AllP.swp(h:AllP b c es l):AllP c b es (l.map Prod.swap):=by
 show#[NP h.u,λp f=>?_,λk p a=>?_]
 .let(q,e,rfl):=Wh.mp f;let(k,a):=h.r q e;show#[k,a.swp]
 .show Wh.mpr #[p.swap,h.c k p.swap a.swp,Prod.swap_swap p]
end
structure Pe where
 p:PP
 b:D
 e:D
 d:Nat
def j9(q:Pe):Pl:=#[kP q.p,q.b,q.e]
def Sx:Pe:=#[G3,.none,.none,0]
def Dn(b c:Bd)(fs:G Pe)(q:Pe)(e:YU):Prop:=Bm b c q.p e/\∃r∈fs,r.p=D5 b c q.p e/\r.d<=q.d+1
structure BI(b c:Bd)(es:G YU)(fs:G Pe)(n:Nat):Prop where
 z:fs[0]?=R Sx
 bk:∀i q,fs[i]?=R q->0<i->∃j r,j<i/\fs[j]?=R r/\q.b=nd j/\q.d=r.d+1
 rw:∀q∈fs,RW b c es q.d q.p
 mo:fs.Pairwise λq r=>q.d<=r.d
 up:∀q,fs[n]?=R q->∀r∈fs,r.d<=q.d+1
 un:(fs.map (·.p)).Nodup
 dn:∀j q,j<n->fs[j]?=R q->∀e∈es,Dn b c fs q e
section
variable{b c:Bd}{Y:bb YU}{fs:bb Pe}{n:Nat}
def Vd:BI b c Y [Sx] 0:=by
 show#[W,λi q h g=>?_,λq a=>?_,Ya _ _,λq a r e=>?_,Ya _ _,λj q f=>a5 f (aaP _)]
 .match i,g,h with
  |i+1,_,h=>ext h
 .rw[VW.mp a];rfl
 .rw[VW.mp e];show Wx _
def Dn.mono(h:Dn b c fs q e)(l:G Pe):Dn b c (fs++l) q e:=by let(a,r,f,x):=h;show#[a,r,XB _ f,x]
def BI.old(B:BB b c Y)(h:BI b c Y fs n)(j:fs[n]?=R q)(l:e∈Y)(k:Bm b c q.p e)(d:cX (fs.map j9) (kP (D5 b c q.p e))=R t):Dn b c fs q e:=by
 let(r,a,m):=oS d;rw[VN]at a;cases z:fs[t]? with
 |none=>rw[z]at a;ext a
 |some u=>rw[z]at a;ext a;let f:=VS z;let g:=B.rw (h.rw u f);let i:=B.nx (B.rw (h.rw q (VS j))) l;show#[k,u,f,Q8 B g i (LD.kd_eqv _ _ (LD.keyD_kd (vg g)).1 (LD.keyD_kd (vg i)).1 m),h.up q j u f]
theorem Aa:∀{fs:G Pl} {d:D},cX fs d=U->∀q∈fs,VD.eqv q.p d=VO
 |[],_,_,_,f=>by ext f
 |a::r,d,h,q,f=>by
  unfold cX at h;by_cases e:VD.eqv a.p d=P
  .rw[av e]at h;ext h
  .rw[ax e]at h
   rcases Wa.mp f with rfl|f
   .show ae3.mpr e
   .show Aa (by cases z:cX r d with|none=>rfl|some _=>rw[z]at h;ext h) q f
def BI.new(B:BB b c Y)(h:BI b c Y fs n)(l:fs[n]?=R q)(v:e∈Y)(d:cX (fs.map j9) (kP (D5 b c q.p e))=U):BI b c Y (fs++[#[D5 b c q.p e,nd n,eS e,q.d+1]]) n:=by
 let w:=(Vv.mp l).1;let t:=VS l;let old:∀{i:Nat} {r:Pe},fs[i]?=R r->(fs++[#[D5 b c q.p e,L3.nd n,eS e,q.d+1]])[i]?=R r:=λx=>(VQ (Vv.mp x).1).trans x;show#[old h.z,λi r a o=>?_,λr a=>?_,?_,λr a u g=>?_,?_,λj r E a f F=>?_]
 .by_cases A:i<fs.length
  .rw[VQ A]at a;let(j,u,J,I,H):=h.bk i r a o;show#[j,u,J,old I,H]
  .rw[Wk ()]at a
   let z:i - fs.length=0:=by let:=(Vv.mp a).1;rw[Zf]at this;ext
   rw[z]at a;ext a;show#[n,q,by ext,old l,W,W]
 .rcases Wr.mp a with a|a
  .show h.rw r a
  .rw[VW.mp a];show#[q.p,e,h.rw q t,v,W]
 .rw[aek];show#[h.mo,Ya _ _,λr a u g=>?_];rw[VW.mp g];show h.up q l r a
 .rw[VQ w,l]at a
  ext a;rcases Wr.mp g with g|g
  .show h.up q l u g
  .rw[VW.mp g];show VP _
 .rw[V4,Yp];show#[h.un,Ya _ _,λx C y m G=>?_];let(r,a,rfl):=Wh.mp C;let m:y=D5 b c q.p e:=VW.mp m;let:=Aa d (j9 r) (Wh.mpr #[r,a,W]);rw[show(j9 r).p=kP (D5 b c q.p e) by show kP r.p=_;rw[G,m],pL (vg (B.nx (B.rw (h.rw q t)) v))]at this;ext this
 .rw[VQ ()]at a;show(h.dn j r E a f F).mono _
def BI.next(h:BI b c Y fs n)(f:fs[n]?=R q)(hd:∀e∈Y,Dn b c fs q e):BI b c Y fs (n+1):=by
 show#[h.z,h.bk,h.rw,h.mo,λr a u o=>?_,h.un,λj r p a e l=>?_]
 .let i:=(Vv.mp f);let g:=(Vv.mp a);let:=YC.mp h.mo n (n+1) i.1 g.1 ();rw[i.2,g.2]at this;let:=h.up q f u o;ext
 .by_cases m:j<n
  .show h.dn j r m a e l
  .let:j=n:=by ext
   subst this;rw[f]at a;ext a;show hd e l
theorem BI.all(h:BI b c Y fs n)(f:fs[n]?=R q):∀k p,k<=q.d->RW b c Y k p->∃r∈fs,r.p=p/\r.d<=k
 |0,p,_,C=>#[Sx,VS h.z,(show p=G3 from C).symm,VP _]
 |k+1,p,L,#[u,e,J,he,C]=>by
  let(r,v,t,A):=h.all f k u () J;let(j,a):=WT.mp v;let o:j<n:=Decidable.byContradiction λz=>by
   let i:=(Vv.mp f);let g:=(Vv.mp a);by_cases e:n=j
   .subst e;rw[f]at a;ext a;ext
   .let:=YC.mp h.mo n j i.1 g.1 ();rw[i.2,g.2]at this;ext
  let(_,w,m,l,y):=h.dn j r o a e he;show#[w,m,by rw[l,C,t],by ext]
def BI.apart(h:BI b c Y fs n)(a:fs[n]?=R q)(u:e∈Y)(d:¬Bm b c q.p e):ApD b c Y q.d:=by
 show#[#[q.p,e,h.rw q (VS a),u,d],λk p f y o t=>?_];let(r,w,v,A):=h.all a k p () o;let(j,g):=WT.mp w;let m:j<n:=Decidable.byContradiction λz=>by
  let l:=(Vv.mp a);let i:=(Vv.mp g);by_cases e:n=j
  .subst e;rw[a]at g;ext g;ext
  .let:=YC.mp h.mo n j l.1 i.1 ();rw[l.2,i.2]at this;ext
 rw[<-v];show(h.dn j r m g f t).1
def BI.same(h:BI b c Y fs n)(d:fs.length<=n):AllP b c Y (fs.map (·.p))/\∀k p e,RW b c Y k p->e∈Y->Bm b c p e:=by
 let m:∀q∈fs,∀e∈Y,Dn b c fs q e:=λq C e f=>by let(j,l):=WT.mp C;show h.dn j q (V7 (Vv.mp l).1 d) l e f
 let o:∀k p,RW b c Y k p->∃r∈fs,r.p=p:=by
  intro k
  induction k with
  |zero=>show λp a=>#[Sx,VS h.z,(show p=G3 from a).symm]
  |succ k y=>rintro p ⟨u,e,A,f,a⟩;let(r,i,g):=y u A;let(_,w,v,t,_):=m r i e f;show#[w,v,by rw[t,a,g]]
 show#[#[h.un,λp a=>?_,λk p a=>?_],λk p e a f=>?_]
 .let(r,B,rfl):=Wh.mp a;show#[r.d,h.rw r B]
 .let(r,i,g):=o k p a;show Wh.mpr #[r,i,g]
 .let(r,i,g):=o k p a;rw[<-g];show(m r i e f).1
end
section
variable{ρ:bz}{Z Y X:bp}{x:SV}
def Hw(b:e ρ Z=.ok xs Y)(a:uY F n xs Y=.ok x X):oo F n e ρ Z=.ok x X:=by ext oo;rw[b,eh,a];rfl
def Ik(sn:G D)(a:D):frz 4 (Z++[.lst (sn.map .fz)]) (.tp [.rf Z.length,.fz a])=R (.tuple [.list sn,a],Z++[.dead]):=by
 let e:frz 3 (Z++[.lst (sn.map .fz)]) (.rf Z.length)=R (.list sn,Z++[.dead]):=by ext frz;rw[aQ];dsimp only;rw[pX];dsimp only;rw[eF]
 let b:i4 (frz 3) (Z++[.lst (sn.map .fz)]) [.rf Z.length,.fz a]=R ([.list sn,a],Z++[.dead]):=by ext i4;rw[e];rfl
 ext frz;rw[show([AV.rf Z.length,AV.fz a].map AV.sv)=[.rf Z.length,.fz a]from rfl,b]
theorem EY(a:VB b)(sw:SW b s)(f:EV b e)(i:fa ρ Z=.ok (.fz (bD b)) Z)(h:fb ρ Z=.ok (.fz (cO s)) Z)(g:fc ρ Z=.ok (.fz (eS e)) Z):iL (oo STP.iQ 3 (aj fa (aj fb (aj fc aH)))) ρ Z=.ok (.fz (.tuple [.list ((aG b s e).2.map gX),cO (aG b s e).1])) (Z++[.dead]):=
 gZ (Hw (ao i (ao h (ao g aN))) (OM a sw f)) (Ik _ _)
end
def Qy{b c:Bd}{d:bb YU}{fs:bb Pe}{n t i j k:Nat}{q:Pe}{m:Int}{Z:bp}(B:BI b c d fs t)(h:PSt i j k m (fs.map j9) Z)(C:fs[n]?=R q):∃(J:bp) (row:bb D),dj [.rf i,.fz (nd n)] Z=.ok (.rf (Z.length+1)) (Z++J)/\J[1]?=R (.lst (row.map .fz))/\row.length=q.d:=by
 let lt:=h.lt;rw[Vw]at lt;let A:Out (dj [.rf i,.fz (nd n)] Z) (λv g=>∃row:bb D,v=.rf (Z.length+1)/\g=Z++[.lst (row.reverse.map .fz),.lst (row.map .fz)]/\row.length=q.d) (λ_=>False):=by
  show oH W ?_;ext iG;show c8 (ρ1:=[R (.rf i),-(nd n),R (.rf Z.length),U]) (dA (by ext:0)) W ?_;let G:∀{X:bp},PSt i j k m (fs.map j9) (Z++X):=λ{X}=>by let M:=(Vv.mp h.o).1;let L:=(Vv.mp h.f).1;let K:=(Vv.mp h.n).1;show#[(VQ M).trans h.o,(VQ L).trans h.f,(VQ K).trans h.n,h.jk,h.ij,h.ik,h.lt]
  let F:∀{X:bp} {e:bz} {f:dM} {a:Nat} {r:Pe},e[0]?=R (R (.rf i))->f e (Z++X)=.ok (.fz (nd a)) (Z++X)->fs[a]?=R r->gC (aY "Places" "found" (aw 0)) f e (Z++X)=.ok (.fz (sJ (j9 r))) (Z++X):=λ{X e f a r} h0 w u=>oQ (dL (bh h0) G.o nr) w W G.f (UR (by rw[VN,VN,VN,u];rfl));show c8 (x:=.fz (sJ (j9 q))) (ρ1:=[R (.rf i),-(nd n),R (.rf Z.length),-(sJ (j9 q))]) (F W (ah (ae W)) C) W ?_;show kZ (pJ (λs e g=>∃(row:bb D) (a:Nat) (r:Pe),e=[R (.rf i),-(nd n),R (.rf Z.length),-(sJ (j9 r))]/\g=Z++[.lst (row.map .fz)]/\fs[a]?=R r/\row.length=s/\a+s<=n/\row.length+r.d=q.d) 100000 () #[[],n,q,W,W,C,W,VP _,WO _] ?_);rintro s e g ⟨row,a,r,rfl,rfl,o,z,Q,hd⟩;let O:=(Vv.mp C).1;by_cases N:a=0
  .subst N;rw[B.z]at o;ext o;let E:bV (aO (aL oa (aL bq (aa 3) (~~~1)) (pC .none))) [R (.rf i),-(nd n),R (.rf Z.length),-(sJ (j9 Sx))] (Z++[.lst (row.map .fz)])=.ok VO (Z++[.lst (row.map .fz)]):=bN (bE (aB (rv:=.fz (.bool VO)) (aB (rv:=.fz .none) (ae W) aC W W jt) aC W W W) W);show .inl #[_,E,?_];show rF ((M7 (xs:=row.map .fz) (bh W) aQ).trans (by rw[Vy,V6,<-afD];rfl)) #[row.reverse,W,by rw[List.reverse_reverse];rfl,by rw[X6];show hd]
  .let(I,y,w,u,p,P):=B.bk a r o ();let E:bV (aO (aL oa (aL bq (aa 3) (~~~1)) (pC .none))) [R (.rf i),-(nd n),R (.rf Z.length),-(sJ (j9 r))] (Z++[.lst (row.map .fz)])=.ok Vx (Z++[.lst (row.map .fz)]):=bN (bE (aB (rv:=.fz (.bool Vx)) (aB (rv:=.fz r.b) (ae W) aC W W jt) aC W W (by rw[p];rfl)) W);show .inr #[by ext,_,E,?_];let H:=vi (ρ:=[R (.rf i),-(nd n),R (.rf Z.length),-(sJ (j9 r))]) (fo:=aw 2) (fe:=af (aL bq (aa 3) (~~~2))) (x:=.fz r.e) (bh W) (aQ (l:=Z) (x:=Cell.lst (row.map .fz))) (ah (aB (rv:=.fz r.e) (ae W) aC W W sF)) aQ (by rw[Vw];ext);rw[eF,show row.map SV.fz++[.fz r.e]=(row++[r.e]).map SV.fz by rw[V4];rfl]at H;show uP (iY H) ?_;show x0 (ρ1:=[R (.rf i),-(nd n),R (.rf Z.length),-(sJ (j9 y))]) (m9 (F W (ah (aB (rv:=.fz (nd I)) (ae W) aC W W (by rw[<-p];show jt))) u) W) #[row++[r.e],I,y,W,W,u,by rw[Vy,z];rfl,by ext,by rw[Vy];show row.length+1+y.d=_;ext]
 let(v,g,w,row,rfl,rfl,p):=A.all;show#[_,row,w,W,p]
theorem Lg{x y:Sn}(h:x.map gX=y.map gX):x=y:=(YT λp q e=>by
 injection e with e;injection e with e1 e;injection e with e2 _;injection e1 with e1;injection e2 with e2
 show Prod.ext (tt e1) ?_;revert e2;cases p.2<;>cases q.2
 .show λ_=>W
 .show λe=>a5 e (by left)
 .show λe=>a5 e (by left)
 .show λ_=>W).mp h
theorem Km{x:Sn}(h:Zp x):LD.kds (x.map gX)=P:=jG λp a=>by show LD.kd (.tuple [.str (kH p.1),.str (if p.2=P then "down" else "up")])=P;simp only[LD.kd,LD.kds];rw[mf (h p a)];cases p.2<;>left
def SS{x y:Sn}(a:Zp x)(b:Zp y):rc (.list (x.map gX)) (.list (y.map gX))=-(.bool (decide (x≠y))):=by
 let e:VD.eqv (.list (x.map gX)) (.list (y.map gX))=decide (x=y):=by
  rw[VD.eqv];by_cases q:x=y
  .subst q;rw[aE W];let:=Yi _ (rC (CP a));rw[VD.eqv]at this;show this
  .rw[aP q]
   cases z:VD.eqvAll (x.map gX) (y.map gX)with
   |false=>rfl
   |true=>show a5 (Lg (LD.kds_eqv _ _ (Km a) (Km b) z)) q
 ext rc;rw[CP a,rC (CP b),Xy,av W,e];by_cases q:x=y
 .rw[aE q,aP (not_not_intro q)];rfl
 .rw[aP q,aE q];rfl
def QQ{Z:bp}{x y:SV}{f:D->D->I RV}{d c:D}{ds:G D}(b:sh Z x=R d)(a:sh Z y=R c)(h:f d c=R (.ow ds)):oj f x y Z=.ok (.rf Z.length) (Z++[.lst (ds.map .fz)]):=by ext oj;rw[b,a];show((RS.WN Z (f d c)).bind λg e=>my e g)=_;rw[h];rfl
abbrev Bf(b c:Bd)(m:Int)(g:G YU)(l n:Nat)(f e d a:I SV):bz:=[-(bD b),-(bD c),-(.int m),-(.list (g.map eS)),R (.rf l),-(nd n),f,e,d,a]
def U5(b c:Bd)(f:G YU)(v:SV)(a:bp):Prop:=
 (∃(i:Nat) (row:G D) (d:Nat),v=.tp [.fz (.str "apart"),.rf i]/\a[i]?=R (.lst (row.map .fz))/\row.length=d+1/\ApD b c f d)\/
 ∃(i:Nat) (l:G PP),v=.tp [.fz (.str "same"),.rf i]/\a[i]?=R (.lst ((l.map kP).map .fz))/\AllP b c f l/\∀k p e,RW b c f k p->e∈f->Bm b c p e
def Va(b c:Bd)(a:G YU)(m:Int)(x:Xc):Prop:=x=TM m/\∃l:G PP,l.Nodup/\(∀p∈l,∃k,RW b c a k p)/\m<(l.length:Int)
def A8{b c:Bd}(Y:VB b)(U:VB c){n:Nat}(s:b.n=n)(T:c.n=n)(D:n<=5){m:Int}(m0:0<m)(k:m<=1000)(H:bp):Out (gh [.fz (bD b),.fz (bD c),.fz (.int m)] H) (U5 b c (ei n)) (Va b c (ei n) m):=by
 let ell:(ei n).length<=1000:=by ext ei;rw[Vy,Vy,Vw,Vw,V2];show n+n+1<=_;ext
 let ev:=Iu s D;let BB:BB b c (ei n):=#[Y,U,jZ s,jZ T];generalize ei n=es at ell ev BB;show oH W ?_;ext Bx;let t1:bV (aO (aL rc (aL bq (aa 0) (~~~0)) (aL bq (aa 1) (~~~0)))) [-(bD b),-(bD c),-(.int m),Vt,Vt,Vt,Vt,Vt,Vt,Vt] H=.ok VO H:=bN (bE (aB (rv:=.fz (.bool VO)) (aB (rv:=.fz (.int b.n)) (ae W) aC W W (QH b)) (aB (rv:=.fz (.int c.n)) (ae W) aC W W (QH c)) W W (by rw[s,T];show yd W)) W);show uE t1 (qv ?_);let e1:iL (af (d7 ef 1 {aa 0})) [-(bD b),-(bD c),-(.int m),Vt,Vt,Vt,Vt,Vt,Vt,Vt] H=.ok (.fz (.list (es.map eS))) (H++[.dead]):=by show gZ (dA (ck (ai (ae W) aJ) W W ev)) ?_;rw[jJ aQ,eF]
 show c8 e1 W ?_;generalize H++[Cell.dead]=base;let mk:=CN (C:= "Places") (F:=bZ) (fa:=aj (af (cz {pC (.tuple [(.tuple []),.none,.none]),pC (.tuple [(.tuple []),.none,.none])})) (aj (af (aa 2)) aH)) (ρ:=[-(bD b),-(bD c),-(.int m),-(.list (es.map eS)),Vt,Vt,Vt,Vt,Vt,Vt]) (Z:=base) (ao (ah (d:=kP G3) (dJ (ai aC (ai aC aJ)) W (VJ W))) (ao (ah (ae W)) aN)) W;rw[AD (vg (b:=b) (c:=c) #[lw b,lw c]) () k,ax ()]at mk;show c8 (ρ1:=[-(bD b),-(bD c),-(.int m),-(.list (es.map eS)),lD (.rf base.length),Vt,Vt,Vt,Vt,Vt]) mk W ?_;show c8 (ρ1:=Bf b c m es base.length 0 Vt Vt Vt Vt) (ah aC) W ?_;show kZ (pJ (λn ρ Z=>∃(fs:bb Pe) (J:bp) (o6 o7 o8 o9:bg SV),ρ=Bf b c m es base.length n o6 o7 o8 o9/\Z=gU base m (fs.map j9) J/\BI b c es fs n/\n<=fs.length/\(fs.length:Int)<=m) 1000 () #[[Sx],[],Vt,Vt,Vt,Vt,W,W,Vd,Wx _,by show(1:Int)<=m;ext] ?_);rintro n ρ Z ⟨fs,J,o6,o7,o8,o9,rfl,rfl,bi,hle,hlm⟩;let P:∀{fs:bb Pe} {J:bp},(fs.length:Int)<=m->PSt base.length (base.length+1) (base.length+2) m (fs.map j9) (gU base m (fs.map j9) J):=λ{fs J} h=>xI (by rw[Vw];ext);let ff:∀{fs:bb Pe} {J:bp} {o6 o7 o8 o9:bg SV},(fs.length:Int)<=m->aY "Places" "found" (aw 4) (Bf b c m es base.length n o6 o7 o8 o9) (gU base m (fs.map j9) J)=.ok (.rf (base.length+1)) (gU base m (fs.map j9) J):=λh=>dL (bh W) (P h).o nr;let N:kL dH (aj (aY "Places" "found" (aw 4)) aH) (Bf b c m es base.length n o6 o7 o8 o9) (gU base m (fs.map j9) J)=.ok (.fz (nd fs.length)) (gU base m (fs.map j9) J):=lQ (ao (ff hlm) aN) (by ext aV;rw[dh (P hlm).f];rfl) ((fV _).trans (by rw[Vw,Vw]));let w:=bw (dz (ah (f:=aa 5) (ae W)) N (cM (oY (n:Int) (fs.length:Int))));by_cases ZH:n<fs.length
 case neg=>
  rw[aP ()]at w;show .inl #[_,w,?_];let S:=bi.same ();let is:=CJ (ff (o6:=o6) (o7:=o7) (o8:=o8) (o9:=o9) (J:=J) hlm) (P hlm).f;let T:=g9 (gt:=df 0) (ft:=cL) (fe:=af (aL bq (aa 0) (~~~0))) (λq:Pe=>sJ (j9 q)) (λq=>SV.fz (kP q.p)) ((gU base m (fs.map j9) J).set (base.length+1) .dead) (λρ=>∃o,ρ=[o]) fs [Vt] [] #[Vt,W] (by rw[XI];ext) (λq _ ρ #[o,ho]=>by subst ho;show#[[-(sJ (j9 q))],W,W,ah (aB (rv:=.fz (kP q.p)) (ae W) aC W W iz),_,W]);let cs:eO 1 [] (fP (aY "Places" "found" (aw 4))) (df 0) cL (af (aL bq (aa 0) (~~~0))) (Bf b c m es base.length n o6 o7 o8 o9) (gU base m (fs.map j9) J)=.ok (.rf ((gU base m (fs.map j9) J).set (base.length+1) .dead).length) ((gU base m (fs.map j9) J).set (base.length+1) .dead++[.lst (fs.map λq=>SV.fz (kP q.p))]):=hW is (by rw[Wd];show T);show rF (DG (ao (ah aC) (ao cs aN)) (VJ W) W W) (.inr #[_,fs.map (·.p),W,?_,S]);rw[aQ,Wd,Wd];rfl
 case pos=>
  rw[aE ()]at w;show .inr #[by ext,_,w,?_];obtain⟨q,a⟩:∃q,fs[n]?=lD q:=#[_,Vz ZH];let st:gC (gC (aY "Places" "found" (aw 4)) (af (aa 5))) (af (~~~0)) (Bf b c m es base.length n o6 o7 o8 o9) (gU base m (fs.map j9) J)=.ok (.fz (kP q.p)) (gU base m (fs.map j9) J):=cQ (dx:=sJ (j9 q)) (oQ (ff hlm) (ah (d:=nd n) (ae W)) W (P hlm).f (UR (by rw[VN,VN,VN,a];rfl))) (ah aC) iz;show c8 (x:=.fz (kP q.p)) (ρ1:=Bf b c m es base.length n (-(kP q.p)) o7 o8 o9) st W ?_;show kZ (PU (λi ρ Z=>∃(fs:bb Pe) (J:bp) (o7 o8 o9:bg SV),ρ=Bf b c m es base.length n (-(kP q.p)) o7 o8 o9/\Z=gU base m (fs.map j9) J/\BI b c es fs n/\fs[n]?=lD q/\(fs.length:Int)<=m/\∀e∈es.take i,Dn b c fs q e) (kG (lA (d:=.list (es.map eS)) (ae W) W W)) #[fs,J,o7,o8,o9,W,W,bi,a,hlm,λe he=>by ext he] ?_ ?_)
  .clear w N st ZH a hle bi hlm
   rintro i d ρ Z M ⟨fs,J,o7,o8,o9,rfl,rfl,bi,a,hlm,dn⟩;rw[VN]at M;cases qe:es[i]? with
   |none=>rw[qe]at M;ext M
   |some e=>
    rw[qe]at M;cases VZ M;let B:=VS qe;let I:=BB.rw (bi.rw q (VS a));show#[Bf b c m es base.length n (-(kP q.p)) (-(eS e)) o8 o9,_,W,?_];let s1:=EY (ρ:=Bf b c m es base.length n (-(kP q.p)) (-(eS e)) o8 o9) (Z:=gU base m (fs.map j9) J) Y I.1 (BB.eb e B) (fa:=af (aa 0)) (fb:=af (aL bq (aa 6) (~~~0))) (fc:=af (aa 7)) (ah (ae W)) (ah (aB (rv:=.fz (cO q.p.1)) (ae W) aC W W iz)) (ah (ae W));rw[<-nF]at s1;let k1:=yI Y I.1 (BB.eb e B);let k2:=yI U I.2 (BB.ec e B);let E:kP (D5 b c q.p e)=.tuple [cO (aG b q.p.1 e).1,cO (aG c q.p.2 e).1]:=W;let A:Bm b c q.p e↔(aG b q.p.1 e).2=(aG c q.p.2 e).2:=Iff.rfl;show c8 (ρ1:=Bf b c m es base.length n (-(kP q.p)) (-(eS e)) (-(.tuple [.list ((aG b q.p.1 e).2.map gX),cO (aG b q.p.1 e).1])) o9) s1 W ?_;let Q:=EY (ρ:=Bf b c m es base.length n (-(kP q.p)) (-(eS e)) (-(.tuple [.list ((aG b q.p.1 e).2.map gX),cO (aG b q.p.1 e).1])) o9) (Z:=gU base m (fs.map j9) (J++[.dead])) U I.2 (BB.ec e B) (fa:=af (aa 1)) (fb:=af (aL bq (aa 6) (~~~1))) (fc:=af (aa 7)) (ah (ae W)) (ah (aB (rv:=.fz (cO q.p.2)) (ae W) aC W W jt)) (ah (ae W));rw[<-nF]at Q;clear s1;generalize aG b q.p.1 e=u at Q k1 E A;generalize aG c q.p.2 e=v at Q k2 E A;show c8 (ρ1:=Bf b c m es base.length n (-(kP q.p)) (-(eS e)) (-(.tuple [.list (u.2.map gX),cO u.1])) (-(.tuple [.list (v.2.map gX),cO v.1]))) Q W ?_;generalize J++[Cell.dead]++[Cell.dead]=J;let O:bV (aO (aL rc (aL bq (aa 8) (~~~0)) (aL bq (aa 9) (~~~0)))) (Bf b c m es base.length n (-(kP q.p)) (-(eS e)) (-(.tuple [.list (u.2.map gX),cO u.1])) (-(.tuple [.list (v.2.map gX),cO v.1]))) (gU base m (fs.map j9) J)=.ok (decide (u.2≠v.2)) (gU base m (fs.map j9) J):=bN (bE (aB (rv:=.fz (.bool (decide (u.2≠v.2)))) (aB (rv:=.fz (.list (u.2.map gX))) (ae W) aC W W iz) (aB (rv:=.fz (.list (v.2.map gX))) (ae W) aC W W iz) W W (SS k1 k2)) W);by_cases G:u.2=v.2
    .rw[aP (not_not_intro G)]at O
     let G:=A.mpr G;show uE O (qv ?_);let l:=yU (F:=bA) (fo:=aw 4) (fa:=aj (af (cz {aL bq (aa 8) (~~~1),aL bq (aa 9) (~~~1)})) (aj (af (aa 5)) (aj (af (aa 7)) aH))) (ρ:=Bf b c m es base.length n (-(kP q.p)) (-(eS e)) (-(.tuple [.list (u.2.map gX),cO u.1])) (-(.tuple [.list (v.2.map gX),cO v.1]))) (Z:=gU base m (fs.map j9) J) (m:= "enter") (n:=4) (bh W) (P hlm).o qV (ao (ah (d:=kP (D5 b c q.p e)) (by rw[E];show dJ (ai (aB (rv:=.fz (cO u.1)) (ae W) aC W W jt) (ai (aB (rv:=.fz (cO v.1)) (ae W) aC W W jt) aJ)) W (VJ W))) (ao (ah (ae W)) (ao (ah (ae W)) aN))) W;rw[qQ (P hlm) (uB () k) k (vg (BB.nx I B))]at l;show G9 ?_;let tk:es.take (i+1)=es.take i++[e]:=by rw[X1,qe];rfl
     cases qi:cX (fs.map j9) (kP (D5 b c q.p e))with
     |some t=>
      rw[qi]at l;show .eq l #[fs,J,_,_,_,W,W,bi,a,hlm,λf g=>?_];rw[tk]at g;rcases Wr.mp g with g|g
      .show dn f g
      .rw[VW.mp g];show bi.old BB a B G qi
     |none=>
      rw[qi]at l;dsimp only at l;rw[Vw]at l;let bn:=bi.new BB a B qi;by_cases hm:m<=(fs.length:Int)
      .rw[av hm]at l
       show .eq l #[W,_,bn.un,λp hp=>?_,?_]
       .let(r,L,rfl):=Wh.mp hp;show#[r.d,bn.rw r L]
       .rw[Vw,Vy];show m<((fs.length+1:Nat):Int);ext
      .rw[ax hm,yY]at l
       let R:=(Vv.mp a).1;show .eq l #[fs++[#[D5 b c q.p e,nd n,eS e,q.d+1]],J,_,_,_,W,by rw[V4];rfl,bn,(VQ R).trans a,?_,λf g=>?_]
       .rw[Vy];show((fs.length+1:Nat):Int)<=m;ext
       .rw[tk]at g
        rcases Wr.mp g with g|g
        .show(dn f g).mono _
        .rw[VW.mp g];show#[G,_,WK _ VV,W,VP _]
    .rw[aE G]at O
     let nal:¬Bm b c q.p e:=λz=>G (A.mp z);show Db O ?_;let(K,row,w1,w2,w3):=Qy bi (P (J:=J) hlm) a;let l:bf "Places" "way_to" dj 2 (aw 4) (aj (af (aa 5)) aH) (Bf b c m es base.length n (-(kP q.p)) (-(eS e)) (-(.tuple [.list (u.2.map gX),cO u.1])) (-(.tuple [.list (v.2.map gX),cO v.1]))) (gU base m (fs.map j9) J)=.ok (.rf ((gU base m (fs.map j9) J).length+1)) (gU base m (fs.map j9) J++K):=yF (bh W) (P hlm).o (by rfl) (ao (ah (ae W)) aN) W w1;let g1:∀{X:bp},(gU base m (fs.map j9) J++K++X)[(gU base m (fs.map j9) J).length+1]?=lD (.lst (row.map .fz)):=λ{X}=>by rw[V6,mr,VQ (Vv.mp w2).1];show w2
     let dl:row.length<=1000:=by
      let:∀(t:Nat) (r:Pe),fs[t]?=lD r->r.d<=t:=by
       intro t
       induction t using agp with
       |ind t ih=>
        intro r L;by_cases t0:t=0
        .subst t0;rw[bi.z]at L;ext L;show VP _
        .let(j,r',h1,h2,_,h4):=bi.bk t r L ();let:=ih j h1 r' h2;ext
      let:=this n q a;let R:=(Vv.mp a).1;ext
     let ad:=dz (f:=dQ) l (dA (f:=de {aa 7}) (ds:=[eS e]) (by ext:0)) (QQ (dh g1) (dh aQ) (PF (by show row.length+1<=_;ext)));show Ea (DG (ao (ah aC) (ao ad aN)) (VJ W) W W) (.inl #[_,row++[eS e],q.d,W,aQ,by rw[Vy,w3];rfl,bi.apart a B nal])
  .rintro ρ Z ⟨fs,J,o7,o8,o9,rfl,rfl,bi,a,hlm,dn⟩;rw[Vw,X9]at dn;let R:=(Vv.mp a).1;show x0 (Rn (Z3:=[]) (i:=5) (x:=.fz (nd n)) (y:=.fz (.int 1)) (z:=.fz (nd (n+1))) W (ah aC) (cM W)) #[fs,J,_,_,_,_,W,W,bi.next a dn,R,hlm]
def QS(g:VB b){n N:Nat}(d:b.n=n)(a:n<=5)(l:0<=m)(j:m<=1000)(f:(b8 b (ei n) N).length=N)(h:(N:Int)<=m)(Z:bp):∃i c,nX [.fz (bD b),.fz (.int m)] Z=.ok (.rf i) c/\c[i]?=R (.lst ((((b8 b (ei n) N).map jY).map sJ).map .fz)):=by let(v,o,e,t,i,K,q,r,rfl,rfl,a):=(ve (Gx g d a l j Z) (λv c p=>p) λx #[_,i,u]=>by let:=uf (ZF f) i;ext).all;rw[Md q f]at a;show#[_,_,e,mr.trans a]
def UN(fs:G Rm):Prop:=∀j r,fs[j]?=R r->cX (fs.map jY) (cO r.s)=R j
def Qr(h:UN fs)(sw:SW b s)(x y:D):UN (lK fs s x y):=by
 let e:=sY (fs:=fs) sw x y;unfold lK fS at*;cases q:cX (fs.map jY) (cO s)with
 |some t=>show h
 |none=>
  rw[q]at e;rw[ax (show¬(U:I Nat).isSome=P by nofun)]at e⊢;intro j r a;by_cases f:j<fs.length
  .rw[VQ f]at a;rw[V4];show sN (h j r a)
  .rw[Wk ()]at a
   let g:j - fs.length=0:=by let:=(Vv.mp a).1;simp at this;ext
   rw[g]at a;ext a;let:j=fs.length:=by ext
   subst this;show e
theorem Jt(a:VB b)(f:SW b s):∀(c:G YU) (fs:G Rm),(∀e∈c,EV b e)->UN fs->UN (gr b s r fs c)
 |[],_,_,h=>h
 |e::c,fs,he,h=>Jt a f c _ (λx g=>he x (VX _ g)) (Qr h (ja a f (he e VV)) _ _)
theorem Bi(a:VB b)(f:∀e∈m,EV b e):∀i,UN (b8 b m i)
 |0=>λj r g=>by
  let l:j=0:=by let:=(Vv.mp g).1;let h:(b8 b m 0).length=1:=W;ext
  subst l;ext g;show av (pL (rM (lw b)))
 |i+1=>by
  cases q:(b8 b m i)[i]? with
  |none=>rw[tJ (by simpa using q)];show Bi a f i
  |some r=>rw[oJ q];show Jt a (lx a f i r (VS q)) m _ f (Bi a f i)
def MV(a:VB b)(f:SW b s)(g:∀e∈j,EV b e){i:Nat}(h:j[i]?=R e):∃t,cX ((gr b s r fs j).map jY) (cO (aG b s e).1)=R t:=by let:=AB (b:=b) (s:=s) (r:=r) j fs (i+1);rw[zk h]at this;show#[_,xF (this.map jY) (sY (ja a f (g e (VS h))) _ _)]
def tE(f:VB b)(g:∀e∈y,EV b e)(u:(b8 b y N).length=N)(c:a<N):∃r:Rm,(b8 b y N)[a]?=R r/\SW b r.s/\zV b y a=.tuple (y.map λe=>.tuple ((aG b r.s e).2.map gX))/\(gS b y a).length=y.length/\∀(i:Nat) e,y[i]?=R e->∃t q,(gS b y a)[i]?=R t/\t<N/\(b8 b y N)[t]?=R q/\q.s=(aG b r.s e).1/\cX ((b8 b y N).map jY) (cO (aG b r.s e).1)=R t:=by
 let(lt,_):=kK f g u c;let p:b8 b y a<+:b8 b y N:=by let:=nt b y a (N - a);rwa [aeS ()]at this
 let l:b8 b y (a+1)<+:b8 b y N:=by let:=nt b y (a+1) (N - (a+1));rwa [aeS ()]at this
 let q:(b8 b y a)[a]?=R ((b8 b y a)[a]'lt):=Vz lt;generalize (b8 b y a)[a]'lt=r at q;let sw:=lx f g a r (VS q);show#[r,?_,sw,?_,?_,λi e C=>?_]
 .let(t,e):=p;rw[<-e,VQ lt];show q
 .ext zV;rw[q]
 .ext gS;rw[q];show Vw ..
 .let(t,m):=MV (r:=a) (fs:=b8 b y a) f sw g C
  rw[<-oJ q]at m;let o:=xF (l.map jY) m;let(z,j,v):=oS o;rw[VN]at j;cases A:(b8 b y N)[t]? with
  |none=>rw[A]at j;ext j
  |some n=>rw[A]at j;cases VZ j;let w:=(Vv.mp A).1;let h:=lx f g N n (VS A);show#[t,n,?_,by ext,A,B2 f f h (ja f sw (g e (VS C))) (LD.kd_eqv _ _ (tO (rM h)) (tO (rM (ja f sw (g e (VS C))))) v),o];ext gS;rw[q];show(y.map _)[i]?=_;rw[VN,C];show R (fS _ _)=_;ext fS;rw[m];rfl
theorem Ej{St:Nat->G Nat}(g:E.length=N)(a:∀d∈E,LD.keyD d=P)(c:i<N)(b:j<N):∀k,sq E St N k i=sq E St N k j->E[i]?=E[j]?
 |0,h=>by let f:E[i]?=R (E[i]'()):=Vz _;let e:E[j]?=R (E[j]'()):=Vz _;rw[f,e,(Jm a f e).mp h]
 |k+1,h=>Ej g a c b k (by
  let:=(xW c b).mp h;injection this with this
  injection this with this
  show B8 this)
theorem wB{B:Nat->Nat->Prop}(fn:∀i j d,B i j->B i d->j=d)(a:∀i k j,B i j->B k j->i=k):∀(r t:G Nat) (u:Nat),(∀i,i<u->B i i)->Lh u r->Lh u t->r.length=t.length->(∀x s c:Nat,r[x]?=R s->t[x]?=R c->B s c)->r=t/\∀i,i<Bg u r->B i i
 |[],[],_,h,_,_,_,_=>#[W,h]
 |s::r,[],_,_,_,_,o,_=>nomatch o
 |[],s::r,_,_,_,_,o,_=>nomatch o
 |s::r,c::t,u,h,#[a1,a2],#[C,z],o,y=>by
  let b:=y 0 s c W W;let e:s=c:=by
   rcases aaC s u with q|q
   .show fn s s c (h s q) b
   .rcases aaC c u with v|v
    .show a s c c b (h c v)
    .omega
  subst e;let(l,g):=wB fn a r t (max u (s+1)) (λi A=>by
   rcases aaC i u with q|q
   .show h i q
   .rw[show i=s by ext];show b) a2 z (Nat.succ.inj o) λx p f n m=>y (x+1) p f n m
  show#[by rw[l],g]
structure CM(R:G (G Nat))(S:G D)(E:Nat):Prop where
 ls:S.length=R.length
 le:∀r∈R,r.length=E
 m:∃m:Nat->Nat,m 0=1/\m R.length=R.length/\∀(k:Nat) r,R[k]?=lD r->k<m k/\Lh (m k) r/\Bg (m k) r=m (k+1)
def Q4{R a:bb (bb Nat)}{S p:bb D}{B:Nat->Nat->Prop}(h:CM R S E)(c:CM a p E)(fn:∀i j V,B i j->B i V->j=V)(K:∀i i' j,B i j->B i' j->i=i')(O:B 0 0)(bs:∀i j,B i j->S[i]?=p[j]?)
  (N:∀(i j:Nat) r d,B i j->R[i]?=lD r->a[j]?=lD d->∀(x s v:Nat),r[x]?=lD s->d[x]?=lD v->B s v):R=a/\S=p:=by
 let(m,G,P,w):=h.m;let(H,g,F,e):=c.m;let b:∀k,k<=R.length->k<=a.length->m k=H k/\(∀i,i<m k->B i i)/\∀j,j<k->R[j]?=a[j]? :=by
  intro k
  induction k with
  |zero=>show λ_ _=>#[G.trans g.symm,λi hi=>by rw[show i=0 by ext];show O,λj C=>a5 C (aaP _)]
  |succ k L=>
   intro Y X;let(M,f,o):=L () ();let n:=Vz (show k<R.length by ext);let l:=Vz (show k<a.length by ext);let(J,I,y):=w k _ n;let(U,A,z):=e k _ l;rw[<-M]at A z;let(u,t):=wB fn K _ _ (m k) f I A ((h.le _ (Xt _)).trans (c.le _ (Xt _)).symm) (N k k _ _ (f k J) n l);rw[y]at t;show#[by rw[<-y,<-z,u],t,λj C=>?_];by_cases q:j<k
   .show o j q
   .rw[show j=k by ext,n,l,u]
 let le:R.length=a.length:=by
  rcases aaf R.length a.length with q|q|q
  .let:=(b R.length (VP _) ()).1;let:=(e R.length _ (Vz q)).1;ext
  .show q
  .let:=(b a.length () (VP _)).1;let:=(w a.length _ (Vz q)).1;ext
 let(_,f,o):=b R.length (VP _) ();let T:=h.ls;let Q:=c.ls;show#[ZX λj=>?_,ZX λj=>?_]
 .by_cases q:j<R.length
  .show o j q
  .rw[Xd (),Xd ()]
 .by_cases q:j<R.length
  .show bs j j (f j ())
  .rw[Xd (),Xd ()]
def dR(b:Bd)(a:G YU)(s:Yf):D:=.tuple (a.map λe=>.tuple ((aG b s e).2.map gX))
def xH:dR b f s=dR c f t↔∀e∈f,(aG b s e).2=(aG c t e).2:=by
 constructor
 .intro h e a
  injection h with h
  let:=List.map_inj_left.mp h e a;injection this with this
  show Lg this
 .intro h;ext dR;rw[Xn λe a=>by rw[h e a]]
structure MB(b:Bd)(es:G YU)(N:Nat)(c:Nat->Nat)(st:Nat->Yf)(T:Nat->G Nat)(R:G (G Nat))(S:G D):Prop where
 z:0<N/\st 0=xo/\c 0=0
 ln:∀a,a<N->(T a).length=es.length
 nx:∀(a i:Nat) e,a<N->es[i]?=lD e->∃t,t<N/\(T a)[i]?=lD t/\st t=(aG b (st a) e).1
 r:∀a,a<N->R[c a]?=lD ((T a).map c)
 s:∀a,a<N->S[c a]?=lD (dR b es (st a))
 bi:∀Q:Nat->Nat->Prop,(∀a a',Q a a'->a<N/\a'<N/\dR b es (st a)=dR b es (st a')/\∀i t t':Nat,(T a)[i]?=lD t->(T a')[i]?=lD t'->Q t t')->∀a a',Q a a'->c a=c a'
section
variable{b U:Bd}{es:bb YU}{N P:Nat}{c O:Nat->Nat}{Q Z:Nat->Yf}{T T':Nat->bb Nat}{R L:bb (bb Nat)}{S M:bb D}
def MB.at{a i t:Nat}(X:MB b es N c Q T R S)(d:a<N)(h:(T a)[i]?=lD t):∃e,es[i]?=lD e/\e∈es/\t<N/\Q t=(aG b (Q a) e).1:=by let g:=(Vv.mp h).1;rw[X.ln a d]at g;let j:=Vz g;let(u,m,f,l):=X.nx a i _ d j;rw[h]at f;ext f;show#[_,j,Xt _,m,l]
def MB.cl{a f i t d:Nat}(X:MB b es N c Q T R S)(k:a<N)(g:f<N)(e:c a=c f)(h:(T a)[i]?=lD t)(m:(T f)[i]?=lD d):c t=c d:=by let j:=X.r a k;rw[e,X.r f g]at j;let:=dP (λl:G Nat=>l[i]?) (VZ j);rw[VN,VN,h,m]at this;show(VZ this).symm
def MB.fn(X:MB b es N c Q T R S)(Y:MB U es P O Z T' L M)(A:∀k p e,RW b U es k p->e∈es->Bm b U p e)(d:a<N)(f:a2<N)(h:x<P)(g:y<P)(e:c a=c a2)(l:RW b U es k (Q a,Z x))(j:RW b U es k2 (Q a2,Z y)):O x=O y:=by show Y.bi (λx y=>∃a a2 k k2,a<N/\a2<N/\x<P/\y<P/\c a=c a2/\RW b U es k (Q a,Z x)/\RW b U es k2 (Q a2,Z y)) ?_ x y #[a,a2,k,k2,d,f,h,g,e,l,j];rintro x y ⟨a,a2,k,k2,d,f,h,g,e,l,j⟩;let d1:dR b es (Q a)=dR U es (Z x):=xH.mpr λe v=>A k _ e l v;let d2:dR b es (Q a2)=dR U es (Z y):=xH.mpr λe v=>A k2 _ e j v;let B:=X.s a d;rw[e,X.s a2 f]at B;show#[h,g,by rw[<-d1,<-d2,VZ B],λi t t' ht r=>?_];let(ev,m,z,G,F):=Y.at h ht;let(ev',w,w2,E,C):=Y.at g r;rw[m]at w;ext w;let(u,J,I,H):=X.nx a i _ d m;let(K,q,o,n):=X.nx a2 i _ f m;show#[u,K,k+1,k2+1,J,q,G,E,X.cl d f e I o,#[_,ev,l,z,by rw[H,F];rfl],#[_,ev,j,z,by rw[n,C];rfl]]
def NN(X:MB b es N c Q T R S)(Y:MB U es P O Z T' L M)(C:CM R S es.length)(d:CM L M es.length)(m:∀k p e,RW b U es k p->e∈es->Bm b U p e):R=L/\S=M:=by
 let l:∀k p e,RW U b es k p->e∈es->Bm U b p e:=λk p e h n=>(m k p.swap e h.swp n).symm;show Q4 (B:=λi j=>∃a a' k,a<N/\a'<P/\c a=i/\O a'=j/\RW b U es k (Q a,Z a')) C d ?_ ?_ #[0,0,0,X.z.1,Y.z.1,X.z.2.2,Y.z.2.2,by rw[X.z.2.1,Y.z.2.1];rfl] ?_ ?_
 .rintro i j G ⟨a,x,k,g,f,H,rfl,h5⟩ ⟨a2,y,k2,g1,g2,g3,rfl,g5⟩;show X.fn Y m g g1 f g2 (H.trans g3.symm) h5 g5
 .rintro i j G ⟨a,x,k,g,f,rfl,h4,h5⟩ ⟨a2,y,k2,g1,g2,rfl,g4,g5⟩;show Y.fn X l f g2 g g1 (h4.trans g4.symm) h5.swp g5.swp
 .rintro i j ⟨a,x,k,g,f,rfl,rfl,h5⟩;rw[X.s a g,Y.s x f,xH.mpr λe n=>m k _ e h5 n]
 .rintro i j r J ⟨a,x,k,g,f,rfl,rfl,h5⟩ hr hr' z s s' hs hs'
  rw[X.r a g]at hr;rw[Y.r x f]at hr';ext hr;ext hr';rw[VN]at hs hs';cases q1:(T a)[z]? with
  |none=>rw[q1]at hs;ext hs
  |some t=>
   cases q2:(T' x)[z]? with
   |none=>rw[q2]at hs';ext hs'
   |some F=>rw[q1]at hs;rw[q2]at hs';ext hs;ext hs';let(e,E,A,w,v):=X.at g q1;let(K,o,I,u,q):=Y.at f q2;rw[E]at o;ext o;show#[t,F,k+1,w,u,W,W,#[_,e,h5,A,by rw[v,q];rfl]]
theorem MB.to(X:MB b es N c Q T R S):∀k p,RW b U es k p->∃a,a<N/\Q a=p.1
 |0,p,h=>#[0,X.z.1,by rw[show p=G3 from h,X.z.2.1];rfl]
 |k+1,p,#[q,e,m,he,n]=>by let(a,l,j):=X.to k q m;let(i,o):=WT.mp he;let(t,g,_,f):=X.nx a i e l o;show#[t,g,by rw[f,j,n];rfl]
theorem OL(X:MB b es N c Q T R S)(Y:MB U es P O Z T' R S):∀k p,RW b U es k p->∃a d,a<N/\d<P/\Q a=p.1/\Z d=p.2/\c a=O d
 |0,p,h=>#[0,0,X.z.1,Y.z.1,by rw[show p=G3 from h,X.z.2.1];rfl,by rw[show p=G3 from h,Y.z.2.1];rfl,by rw[X.z.2.2,Y.z.2.2]]
 |k+1,p,#[q,e,J,he,r]=>by let(a,d,o,n,C,B,A):=OL X Y k q J;let(i,z):=WT.mp he;let(t,w,v,u):=X.nx a i e o z;let(y,j,g,f):=Y.nx d i e n z;let m:=X.r a o;rw[A,Y.r d n]at m;let:=dP (λl:G Nat=>l[i]?) (VZ m);rw[VN,VN,v,g]at this;show#[t,y,w,j,by rw[u,C,r];rfl,by rw[f,B,r];rfl,(VZ this).symm]
def Nd(X:MB b es N c Q T R S)(Y:MB U es P O Z T' R S)(h:RW b U es k p)(g:e∈es):Bm b U p e:=by let(a,o,n,m,l,j,i):=OL X Y k p h;let f:=X.s a n;rw[i,Y.s o m,l,j]at f;show(xH.mp (VZ f) e g).symm
end
theorem RW.eq:∀{k p},RW b b es k p->p.1=p.2
 |0,p,h=>by rw[show p=G3 from h];rfl
 |k+1,p,#[q,e,a,_,f]=>by rw[f];ext D5;rw[RW.eq a]
theorem DY{P:Yf->Prop}:∀(c:G YU) (fs:G Rm),(∀e∈c,P (aG b s e).1)->(∀r∈fs,P r.s)->∀q∈gr b s r fs c,P q.s
 |[],_,_,h=>h
 |e::c,fs,he,h=>DY c _ (λx f=>he x (VX _ f)) (by
  show∀q∈lK fs (aG b s e).1 (nd r) (eS e),P q.s;ext lK;split
  .show h
  .intro q a
   rcases Wr.mp a with a|a
   .show h q a
   .rw[VW.mp a];show he e VV)
theorem xz:∀i,∀r∈b8 b h i,∃k,RW b b h k (r.s,r.s)
 |0,r,g=>#[0,by rw[VW.mp g];rfl]
 |i+1,r,g=>by
  cases q:(b8 b h i)[i]? with
  |none=>rw[tJ (by simpa using q)]at g;show xz i r g
  |some z=>rw[oJ q]at g;let(k,a):=xz i z (VS q);show DY (P:=λs=>∃k,RW b b h k (s,s)) h _ (λe f=>#[k+1,_,e,a,f,W]) (xz i) r g
def Uq(b:Bd)(c:G YU)(N a:Nat):Yf:=(((b8 b c N)[a]?).map (·.s)).getD xo
def mR(St:Nat->G Nat)(c:Nat->Nat)(N:Nat):G (G Nat):=(VI (Cn c N)).map λk=>(St (l6 c N k)).map c
def mS(E:G D)(c:Nat->Nat)(N:Nat):G D:=(VI (Cn c N)).map (Gn E c N)
def GG{St:Nat->G Nat}:GJ St E c N=.tuple [.tuple ((mR St c N).map λr=>.tuple (bX r)),.tuple (mS E c N)]:=by
 let e:(VI (Cn c N)).map (ND St c N)=(VI (Cn c N)).map ((λr=>VD.tuple (bX r))∘λk=>(St (l6 c N k)).map c):=Xn λk _=>by show VD.tuple _=VD.tuple (((St (l6 c N k)).map c).map nd);rw[Wd];rfl
 unfold GJ mR mS;rw[Wd,e]
def PR{St a:Nat->G Nat}(h:GJ St E c N=GJ a g b f):mR St c N=mR a b f/\mS E c N=mS g b f:=by
 rw[GG,GG]at h;injection h with h;injection h with h1 h;injection h with h2 _
 injection h1 with h1;injection h2 with h2
 show#[(YT λx y e=>by injection e with e;show Fr e).mp h1,h2]
def PB{St:Nat->G Nat}(g:∀d∈E,LD.keyD d=P):LD.kd (GJ St E c N)=P/\l7 (GJ St E c N)=P:=by
 let a:∀k,LD.kd (Gn E c N k)=P/\VD.depth (Gn E c N k)<=8:=λk=>by
  ext Gn;cases q:E[l6 c N k]? with
  |none=>show#[by rw[show(U:I D).getD .none=.none from rfl,LD.kd],Wx _]
  |some d=>show LD.keyD_kd (g d (VS q))
 let e:LD.kds ((mR St c N).map λr=>.tuple (bX r))=P:=jG λr _=>by rw[LD.kd];show yn r
 let b:LD.kds (mS E c N)=P:=jG λk _=>(a k).1;let kd:LD.kd (GJ St E c N)=P:=by rw[GG];simp only[LD.kd,LD.kds];rw[e,b];rfl
 show#[kd,Dp (LD.kd_lay _ kd) ?_];let i:=k7 (f:=λr:G Nat=>VD.tuple (bX r)) (n:=1) (l:=mR St c N) λr _=>by show VD.depthAll (bX r)+1<=1;rw[k6];ext
 let h:VD.depthAll (mS E c N)<=8:=k7 λk _=>(a k).2;rw[GG];show max (VD.depthAll ((mR St c N).map λr=>VD.tuple (bX r))+1) (max (VD.depthAll (mS E c N)+1) 0)+1<=64;ext
theorem Jn{St:Nat->G Nat}(j:E.length=N)(f:∀d∈E,LD.keyD d=P){Q:Nat->Nat->Prop}(b:∀a c,Q a c->a<N/\c<N/\E[a]?=E[c]?/\(St a).length=(St c).length/\∀i t x:Nat,(St a)[i]?=R t->(St c)[i]?=R x->Q t x):∀k a c,Q a c->sq E St N k a=sq E St N k c
 |0,a,c,h=>by let(n,m,l,_):=b a c h;let p:E[a]?=R (E[a]'()):=Vz _;show(Jm f p (l.symm.trans p)).mpr W
 |k+1,a,c,h=>by
  let(n,m,l,w,u):=b a c h;let e:(St a).map (sq E St N k)=(St c).map (sq E St N k):=by
   show ZX λi=>?_;rw[VN,VN];cases q:(St a)[i]? with
   |none=>rw[Xd (by let:=acQ.mp q;ext)]
   |some t=>let v:=(Vv.mp q).1;let g:=Vz (show i<(St c).length by ext);rw[g];show R _=R _;rw[Jn j f b k _ _ (u i _ _ q g)]
  let o:∀r,(St r).map (λs=>nd (sq E St N k s))=((St r).map (sq E St N k)).map nd:=λr=>by rw[Wd];rfl
  show(xW n m).mpr ?_;ext tf;rw[Jn j f b k a c h,o,o,e]
def JN(u:VB b)(w:∀e∈es,EV b e)(p:(b8 b es N).length=N)(E:SC (bF b es N) (gS b es) N k):MB b es N (sq (bF b es N) (gS b es) N k) (Uq b es N) (gS b es) (mR (gS b es) (sq (bF b es N) (gS b es) N k) N) (mS (bF b es N) (sq (bF b es N) (gS b es) N k) N)/\CM (mR (gS b es) (sq (bF b es N) (gS b es) N k) N) (mS (bF b es N) (sq (bF b es N) (gS b es) N k) N) es.length:=by
 let C:(bF b es N).length=N:=by ext bF;rw[Vw,V2]
 let K:0<N:=by let:=yl b es N;ext
 let g:=wC (St:=gS b es) C k;let P:=xO u w p;let A:∀{a r},(b8 b es N)[a]?=lD r->Uq b es N a=r.s:=λh=>by ext Uq;rw[h];rfl
 let L:∀a,a<N->(bF b es N)[a]?=lD (dR b es (Uq b es N a)):=λa ha=>by let(r,F,r2,r3,_):=tE u w p ha;ext bF;rw[eT ha,r3,A F];rfl
 let B:∀a,a<N->(gS b es a).length=es.length:=λa ha=>by let(r,_,_,_,Z,_):=tE u w p ha;show Z
 let f:∀i j,i<N->j<N->_:=λi j hi v=>FZ (St:=gS b es) (k:=k) C E.1 hi v;let y:∀i j,i<N->j<N->_:=λi j hi v=>Ej (St:=gS b es) C P hi v k;let R:∀Q:Nat->Nat->Prop,_->∀a n,Q a n->_:=λQ H=>Jn (St:=gS b es) C P H k;let(m,m0,O,M):=GU g (λa ha=>kK u w p ha) f W p K;generalize sq (bF b es N) (gS b es) N k=c at g f y R O M;let Rl:(mR (gS b es) c N).length=Cn c N:=by ext mR;rw[Vw,V2]
 show#[#[#[K,?_,?_],B,λa i e ha hi=>?_,λa ha=>?_,λa ha=>?_,λQ H a n h=>?_],#[?_,λr o=>?_,m,m0,by rw[Rl];show O,λk r o=>?_]]
 .let(t,e):=nt b es 0 N;rw[WO]at e;show A (r:=#[xo,.none,.none]) (by rw[<-e];rfl)
 .let:=g 0 K;show Nat.le_zero.mp this
 .let(r,F,_,_,_,Y):=tE u w p ha;let(t,q,X,U,T,S,_):=Y i e hi;show#[t,U,X,by rw[A T,A F,S]]
 .let cl:=ko (c:=c) ha;let(_,l,z,_):=tF g cl;ext mR;rw[eT cl,f _ a l ha z]
 .let cl:=ko (c:=c) ha;let(_,l,z,_):=tF g cl;ext mS;rw[eT cl];ext Gn;rw[y _ a l ha z,L a ha];rfl
 .show R Q (λa n h=>?_) a n h;let(J,I,h3,h4):=H a n h;show#[J,I,by rw[L a J,L n I,h3],(B a J).trans (B n I).symm,h4]
 .unfold mS mR;rw[Vw,Vw]
 .let(j,v,rfl):=Wh.mp o;let(_,l,_):=tF g (WI.mp v);rw[Vw];show B _ l
 .let G:=(Vv.mp o).1;rw[Rl]at G;unfold mR at o;rw[eT G]at o;ext o;let(_,l,z,f4):=tF g G;show M k _ l z f4
def Fb(w:VB b)(C:∀e∈J,EV b e)(o:(b8 b J N).length=N)(l:bb PP)(G:l.Nodup)(F:∀p∈l,∃k,RW b b J k p):l.length<=N:=by
 let:=uy (l:=(b8 b J N).map λr=>(r.s,r.s)) G λp j=>by
  let(k,n):=F p j;let e:=n.eq
  suffices H:∀k (p:PP),RW b b J k p->∃r∈b8 b J N,r.s=p.1 by let(r,g,f):=H k p n;show Wh.mpr #[r,g,Prod.ext f (f.trans e)]
  intro k
  induction k with
  |zero=>intro p h;let(t,e):=nt b J 0 N;rw[WO]at e;show#[#[xo,.none,.none],by rw[<-e];show XB _ VV,by rw[show p=G3 from h];rfl]
  |succ k A=>rintro p ⟨q,e,B,E,j⟩;let(r,g,f):=A q B;let(a,L):=WT.mp g;let(i,Q):=WT.mp E;let(I,m,_,_,_,v):=tE (a:=a) w C o (by let:=(Vv.mp L).1;ext);rw[L]at m;ext m;let(t,u,_,_,z,y,_):=v i e Q;show#[u,VS z,by rw[y,f,j];rfl]
 rw[Vw,o]at this;show this
def M6(g:VB b)(t:∀e∈y,EV b e)(u:(b8 b y N).length=N)(h:AllP b b y l):N<=l.length:=by
 let:=h.len (m:=(b8 b y N).map λr=>(r.s,r.s)) ?_ λp q=>by let(r,o,rfl):=Wh.mp q;show xz N r o
 .rw[Vw,u]at this;show this
 .let un:=Bi g t N;show YC.mpr λi j z f v e=>?_;rw[afE,afE]at e;rw[Vw]at z f;let e:=dP Prod.fst e;dsimp only at e;let a:=un i _ (Vz z);let n:=un j _ (Vz f);rw[e,n]at a;ext a;ext
def tM(ds:G D)(k:Nat)(x:D)(h:k<ds.length)(m:ds.length<=1000):ez [.tuple ds,nd k,x]=.ok (.fz (.tuple (ds.set k x))):=by
 let a:min k ds.length=k:=aaO ();let b:min (k+1) ds.length=k+1:=aaO ();let g:Sy (.tuple ds) U (R (k:Int))=-(.tuple (ds.take k)):=by show(if gO ds.length U (R (k:Int))=P then U else R (RV.fz (.tuple (oK ds U (R (k:Int))))))=_;rw[ax (by ext gO;rw[HT.sIx_nat,a,HT.sIx_none,aP ()];show VU)];ext oK;rw[HT.sIx_nat,a,HT.sIx_none,agm,aie]
 let f:Sy (.tuple ds) (R ((k:Int)+1)) U=-(.tuple (ds.drop (k+1))):=by show(if gO ds.length (R ((k+1:Nat):Int)) U=P then U else R (RV.fz (.tuple (oK ds (R ((k+1:Nat):Int)) U))))=_;rw[ax (by ext gO;rw[HT.sIx_nat,b,HT.sIx_none,aP ()];show VU)];ext oK;rw[HT.sIx_nat,b,HT.sIx_none,<-Zj,X9]
 let l:A2 (.tuple (ds.take k)) (.tuple [x])=-(.tuple (ds.take k++[x])):=by
  cases e:ds.take k with
  |nil=>rfl
  |cons y r=>show(if y::r≠[]/\(y::r).length+[x].length<=1000000 then R (RV.fz (.tuple (y::r++[x])))else U)=_;let:=dP ZV e;rw[W2,a]at this;rw[av #[afF _ _,by rw[<-this];show k+1<=_;ext]]
 let j:A2 (.tuple (ds.take k++[x])) (.tuple (ds.drop (k+1)))=-(.tuple (ds.set k x)):=by
  rw[List.set_eq_take_append_cons_drop,av h,show ds.take k++x::ds.drop (k+1)=ds.take k++[x]++ds.drop (k+1) by rw[V6];rfl];let z:(ds.take k++[x]).length=k+1:=by rw[Vy,W2,a];rfl
  let w:(ds.drop (k+1)).length<=1000:=by rw[Zj];ext
  generalize ds.drop (k+1)=t at w;cases e:ds.take k++[x]with
  |nil=>rw[e]at z;ext z
  |cons y r=>rw[e]at z;show(if y::r≠[]/\(y::r).length+t.length<=1000000 then R (RV.fz (.tuple (y::r++t)))else U)=_;rw[av #[afF _ _,by ext]]
 let i:A2 (nd k) (.int 1)=-(.int ((k:Int)+1)):=W;show jX (ρ:=[zf (.tuple ds),zf (nd k),zf x]) W (gq (rv:=.fz (.tuple (ds.set k x))) (aB (rv:=.fz (.tuple (ds.set k x))) (aB (rv:=.fz (.tuple (ds.take k++[x]))) (ED (rv:=.fz (.tuple (ds.take k))) (ae W) pT (qI (ae W) W) W g) (dJ (ds:=[x]) (ai (ae W) aJ) W (VJ W)) W W l) (ED (rv:=.fz (.tuple (ds.drop (k+1)))) (ae W) (qI (aB (rv:=.fz (.int ((k:Int)+1))) (ae W) aC W W i) W) pT W f) W W j) W W)
def Jx{m:Mn}(h:LB m):cT (mD m) (.tuple [.str "below"])=-(.bool m.isB):=by
 let o:l7 (mD m)=P:=Dp (C5 h) (Wt (show VD.depth (mD m)<=1 by ext m<;>show VJ W) ());let a:VD.canLay0 (.tuple [.str "below"])=P:=by left
 ext cT;rw[o,a,Xy,av W];congr 3;cases z:VD.eqv (mD m) (.tuple [.str "below"])with
 |true=>let:=B7 (n:=.below) (LD.kd_eqv _ _ (Ip h) (by left) z);rw[this];rfl
 |false=>
  cases m with
  |below=>show a5 z (by left)
  |_=>rfl
def Li{b:Bd}(f:VB b){L k:Nat}{l:G Mn}{m m':Mn}(g:b.ls[L]?=R l)(t:l[k]?=R m)(A:VM L b.ls.length m')(C:L=0->m'.isL=m.isL):VB {b with ls:=b.ls.set L (l.set k m')}:=by
 let E:=(Vv.mp g).1;let u:=(Vv.mp t).1;show#[f.n1,f.n5,by rw[WL];show f.l1,by rw[WL];show f.l3,λi q n=>?_,f.c4,λx z=>?_,f.cu,f.w1,f.w4]
 .show _/\∀m∈q,VM i ((b.ls.set L (l.set k m')).length:Nat) m
  rw[WL];by_cases e:i=L
  .subst e
   rw[WE E]at n;ext n;let:=f.vl i l g;show#[by rw[WL];show this.1,λy w=>?_];rcases List.mem_or_eq_of_mem_set w with h|rfl
   .show this.2 y h
   .show A
  .rw[WB (dr e)]at n;show f.vl i q n
 .let v:=f.vc x z
  show#[v.1,v.2.1,λj B=>?_,v.2.2.2];let o:=v.2.2.1 j B;show Bh ((b.ls.set L (l.set k m')).headD []) j=P;cases e:b.ls with
  |nil=>rw[e]at g;ext g
  |cons a r=>
   rw[e]at o g;cases L with
   |zero=>
    cases VZ g;show Bh (l.set k m') j=P;let o:Bh l j=P:=o;unfold Bh at o⊢;by_cases p:j=k
    .subst p;rw[WE u];rw[t]at o;show(C W).trans o
    .rw[WB (dr p)];show o
   |succ L=>show o
abbrev T0(ns:G Int)(b:Bd)(a:Int)(w L k:Nat)(m:Mn)(o:I PV):bt:=[zf (.list (ns.map .int)),zf (bD b),zf (.int b.n),zf (.tuple (b.ls.map eP)),zf (.tuple (b.cs.map eV)),zf (.int b.wt),zf (.int a),zf (nd w),zf (nd L),zf (nd k),zf (mD m),o]
def K1(ns:bb Int){b:Bd}(g:VB b){n:Nat}(d:b.n=n)(s:n=1\/n=2\/n=3):∃c:Bd,VB c/\c.n=n/\fK [.list (ns.map .int),bD b]=.ok (.fz (bD c)):=by
 let(j,e0):=pR ns 12;let e0:bM [.list (ns.map .int),.int 12]=.ok (.fz (.int j)):=e0;let(w,U,hw):=fJ j 70 8 () ();let U:aM [.int j,.int 70,.int 8]=.ok (.fz (nd w)):=U;let ll:=g.l1;let l3:=g.l3;let(L,Z,hL):=fJ j 71 b.ls.length () ();let Z:aM [.int j,.int 71,nd b.ls.length]=.ok (.fz (nd L)):=Z;let(k,Y,hk):=fJ j 72 n () ();let Y:aM [.int j,.int 72,.int b.n]=.ok (.fz (nd k)):=by rw[d];show Y
 obtain⟨l,G⟩:∃l,b.ls[L]?=lD l:=#[_,Vz hL];let K:=g.vl L l G;let kl:k<l.length:=by let:=K.1;ext
 obtain⟨m,hm⟩:∃m,l[k]?=lD m:=#[_,Vz kl];let J:=K.2 m (VS hm);let(r,er,hr):=fJ j 73 3 () ();let er:aM [.int j,.int 73,.int 3]=.ok (.fz (nd r)):=er;let(t,S,X):=CF (z:= "abz") [0,1,25] (by left) (by left) () (show(0:Int)<=(r:Int) by ext) (show(r:Int)<3 by ext);let(H,M,Q,v):=JM ns 13 n s;let v:gm [.list (ns.map .int),.int 13,.int b.n]=.ok (.fz (bD H)):=by rw[d];show v
 let R:dH [.tuple (b.ls.map eP)]=-(nd b.ls.length):=(ka _).trans (by rw[Vw]);let O:bq (.tuple (b.ls.map eP)) (nd L)=-(eP l):=JT (by rw[VN,G];rfl);let i2:bq (eP l) (nd k)=-(mD m):=JT (by rw[VN,hm];rfl);let l5:l.length<=5:=by let:=K.1;let:=g.n5;ext
 let put:∀m':Mn,ez [eP l,nd k,mD m']=.ok (.fz (eP (l.set k m')))/\ez [.tuple (b.ls.map eP),nd L,eP (l.set k m')]=.ok (.fz (.tuple ((b.ls.set L (l.set k m')).map eP))):=λm'=>by let p1:=tM (l.map mD) k (mD m') (by rw[Vw];show kl) (by rw[Vw];ext);let p2:=tM (b.ls.map eP) L (eP (l.set k m')) (by rw[Vw];show hL) (by rw[Vw];ext);rw[<-List.map_set]at p1 p2;show#[p1,p2]
 let N:∃rv,iE 12 fG [.list (ns.map .int),bD b]=.ok rv/\∃c:Bd,(VB c/\c.n=n)/\rv=.fz (bD c):=by
  show qX (T:=λrv=>∃c:Bd,(VB c/\c.n=n)/\rv=.fz (bD c)) W ?_;ext fG;show dI (ρ3:=[zf (.list (ns.map .int)),zf (bD b),zf (.int b.n),zf (.tuple (b.ls.map eP)),zf (.tuple (b.cs.map eV)),zf (.int b.wt),Vt,Vt,Vt,Vt,Vt,Vt]) (ae W) W W ?_;show dI (ρ3:=[zf (.list (ns.map .int)),zf (bD b),zf (.int b.n),zf (.tuple (b.ls.map eP)),zf (.tuple (b.cs.map eV)),zf (.int b.wt),zf (.int j),Vt,Vt,Vt,Vt,Vt]) (ck (rv:=.fz (.int j)) (ai (ae W) (ai aC aJ)) W W e0) W W ?_;show dI (ρ3:=[zf (.list (ns.map .int)),zf (bD b),zf (.int b.n),zf (.tuple (b.ls.map eP)),zf (.tuple (b.cs.map eV)),zf (.int b.wt),zf (.int j),zf (nd w),Vt,Vt,Vt,Vt]) (ck (rv:=.fz (nd w)) (ai (ae W) (ai aC (ai aC aJ))) W W U) W W ?_;show dI (ρ3:=[zf (.list (ns.map .int)),zf (bD b),zf (.int b.n),zf (.tuple (b.ls.map eP)),zf (.tuple (b.cs.map eV)),zf (.int b.wt),zf (.int j),zf (nd w),zf (nd L),Vt,Vt,Vt]) (ck (rv:=.fz (nd L)) (ai (ae W) (ai aC (ai (fO (rv:=.fz (nd b.ls.length)) (ai (ae W) aJ) W R) aJ))) W W Z) W W ?_;show dI (ρ3:=[zf (.list (ns.map .int)),zf (bD b),zf (.int b.n),zf (.tuple (b.ls.map eP)),zf (.tuple (b.cs.map eV)),zf (.int b.wt),zf (.int j),zf (nd w),zf (nd L),zf (nd k),Vt,Vt]) (ck (rv:=.fz (nd k)) (ai (ae W) (ai aC (ai (ae W) aJ))) W W Y) W W ?_;show dI (ρ3:=T0 ns b j w L k m Vt) (aB (rv:=.fz (mD m)) (aB (rv:=.fz (eP l)) (ae W) (ae W) W W O) (ae W) W W i2) W W ?_;let F:∀{i:Int} {o:bg PV},aO (aL cT (aa 7) (pC (.int i))) (T0 ns b j w L k m o)=.ok (decide ((w:Int)=i),T0 ns b j w L k m o):=bE (aB (ae W) aC W W (jN _ _)) W;show ji F (λ_=>fU (rv:=.fz (bD {b with cs:=b.cs.reverse})) (dJ (ds:=[.int b.n,.tuple (b.ls.map eP),.tuple (b.cs.reverse.map eV),.int b.wt]) (ai (ae W) (ai (ae W) (ai (zP (rv:=.fz (.tuple (b.cs.reverse.map eV))) (ae W) W (by rw[afD];rfl)) (ai (ae W) aJ)))) W (VJ W)) W #[{b with cs:=b.cs.reverse},#[#[g.n1,g.n5,g.l1,g.l3,g.vl,by rw[X6];show g.c4,λx P=>g.vc x (List.mem_reverse.mp P),List.pairwise_reverse.mpr (g.cu.imp λh e=>h e.symm),g.w1,g.w4],d],W]) (λ_=>dU ?_);show ji (b:=decide ((w:Int)=2)&&m.isB) (qh F λ_=>bE (aB (ae W) (dJ (ds:=[.str "below"]) (ai aC aJ) W (VJ W)) W W (Jx J.lb)) W) (λq=>?_) (λ_=>dU ?_)
  .rw[V9]at q
   let mb:m=.below:=by revert q;ext m<;>simp[Mn.isB]
   let L0:L≠0:=by rw[mb]at J;intro z;show J (by rw[z];rfl)
   obtain⟨u,E⟩:∃u,b.ls[0]?=lD u:=#[_,Vz ()];let A:=g.vl 0 u E;obtain⟨p,B⟩:∃p,u[k]?=lD p:=#[_,Vz (by let:=A.1;ext)];let y:=A.2 p (VS B);let j1:bq (.tuple (b.ls.map eP)) (.int 0)=-(eP u):=JT (by rw[VN,E];rfl);let j2:bq (eP u) (nd k)=-(mD p):=JT (by rw[VN,B];rfl);let I:VM L b.ls.length p:=by
    cases p with
    |below=>show a5 W y
    |_=>show y
   show fU (rv:=.fz (bD {b with ls:=b.ls.set L (l.set k p)})) (dJ (ds:=[.int b.n,.tuple ((b.ls.set L (l.set k p)).map eP),.tuple (b.cs.map eV),.int b.wt]) (ai (ae W) (ai (ck (rv:=.fz (.tuple ((b.ls.set L (l.set k p)).map eP))) (ds:=[.tuple (b.ls.map eP),nd L,eP (l.set k p)]) (ai (ae W) (ai (ae W) (ai (ck (rv:=.fz (eP (l.set k p))) (ds:=[eP l,nd k,mD p]) (ai (aB (rv:=.fz (eP l)) (ae W) (ae W) W W O) (ai (ae W) (ai (aB (rv:=.fz (mD p)) (aB (rv:=.fz (eP u)) (ae W) aC W W j1) (ae W) W W j2) aJ))) W W (put p).1) aJ))) W W (put p).2) (ai (ae W) (ai (ae W) aJ)))) W (VJ W)) W #[_,#[Li g G hm I λz=>a5 z L0,d],W]
  show ji (b:=decide ((w:Int)=3)&&m.isL) (qh F λ_=>bE (aB (aB (rv:=.fz (.str (wd m))) (ae W) aC W W (pG m)) aC W W (kz m)) W) (λq=>Cj ?_) (λ_=>dU ?_)
  .rw[V9]at q;show dI (ρ3:=T0 ns b j w L k m (zf (mD (.Wo t)))) (dJ (ds:=[.str "letter",.str (kH t)]) (ai aC (ai (aB (rv:=.fz (.str (kH t))) aC (ck (rv:=.fz (nd r)) (ds:=[.int j,.int 73,.int 3]) (ai (ae W) (ai aC (ai aC aJ))) W W er) W W X) aJ)) W (VJ W)) W W ?_;show fU (rv:=.fz (bD {b with ls:=b.ls.set L (l.set k (.Wo t))})) (dJ (ds:=[.int b.n,.tuple ((b.ls.set L (l.set k (.Wo t))).map eP),.tuple (b.cs.map eV),.int b.wt]) (ai (ae W) (ai (ck (rv:=.fz (.tuple ((b.ls.set L (l.set k (.Wo t))).map eP))) (ds:=[.tuple (b.ls.map eP),nd L,eP (l.set k (.Wo t))]) (ai (ae W) (ai (ae W) (ai (ck (rv:=.fz (eP (l.set k (.Wo t)))) (ds:=[eP l,nd k,mD (.Wo t)]) (ai (aB (rv:=.fz (eP l)) (ae W) (ae W) W W O) (ai (ae W) (ai (ae W) aJ))) W W (put (.Wo t)).1) aJ))) W W (put (.Wo t)).2) (ai (ae W) (ai (ae W) aJ)))) W (VJ W)) W #[_,#[Li (m':=.Wo t) g G hm S λ_=>q.2.symm,d],W]
  let wm:qW (.int b.wt) (.int 2)=-(.int (b.wt % 2)):=vd ();show ji F (λ_=>fU (rv:=.fz (bD {b with wt:=1+b.wt % 2})) (dJ (ds:=[.int b.n,.tuple (b.ls.map eP),.tuple (b.cs.map eV),.int (1+b.wt % 2)]) (ai (ae W) (ai (ae W) (ai (ae W) (ai (aB (rv:=.fz (.int (1+b.wt % 2))) aC (aB (rv:=.fz (.int (b.wt % 2))) (ae W) aC W W wm) W W (hG _ _)) aJ)))) W (VJ W)) W #[{b with wt:=1+b.wt % 2},#[#[g.n1,g.n5,g.l1,g.l3,g.vl,g.c4,g.vc,g.cu,by show 1<=1+b.wt % 2;ext,by show 1+b.wt % 2<=4;ext],d],W]) (λ_=>dU ?_);let s1:UE (.tuple (b.cs.map eV)) (lD 1) Vt=-(.tuple ((b.cs.drop 1).map eV)):=by
   show lD (RV.fz (.tuple (oK (b.cs.map eV) (lD ((1:Nat):Int)) Vt)))=_;ext oK;rw[HT.sIx_nat,HT.sIx_none,Vw,List.map_drop];congr 3;cases b.cs with
   |nil=>rfl
   |cons a r=>rw[V0,aaO ()];show List.take (r.length+1 - 1) (r.map eV)=r.map eV;rw[Nat.add_sub_cancel,<-Vw (f:=eV),X9]
  show ji F (λ_=>fU (rv:=.fz (bD {b with cs:=b.cs.drop 1})) (dJ (ds:=[.int b.n,.tuple (b.ls.map eP),.tuple ((b.cs.drop 1).map eV),.int b.wt]) (ai (ae W) (ai (ae W) (ai (ED (rv:=.fz (.tuple ((b.cs.drop 1).map eV))) (ae W) (qI aC W) pT W s1) (ai (ae W) aJ)))) W (VJ W)) W #[{b with cs:=b.cs.drop 1},#[#[g.n1,g.n5,g.l1,g.l3,g.vl,by rw[Zj];let:=g.c4;ext,λx P=>g.vc x (List.mem_of_mem_drop P),g.cu.drop,g.w1,g.w4],d],W]) (λ_=>dU ?_);show ji (b:=decide ((5:Int)<w)) (bE (aB (ae W) aC W W (z6 _ _)) W) (λ_=>fU (rv:=.fz (bD H)) (ck (rv:=.fz (bD H)) (ai (ae W) (ai aC (ai (ae W) aJ))) W W v) W #[H,#[M,Q],W]) (λ_=>dU ?_);show gq (rv:=.fz (bD b)) (ae W) W #[b,#[g,d],W]
 let(rv,h,c,(C,hc),rfl):=N;show#[c,C,hc,h]
def Er{Z:bp}{i:Nat}{ds:G D}{x:D}(h:Z[i]?=R (.lst (ds.map .fz))):frz 4 Z (.tp [.fz x,.rf i])=R (.tuple [x,.list ds],Z.set i .dead):=by
 let a:i4 (frz 3) Z [.fz x,.rf i]=R ([x,.list ds],Z.set i .dead):=by
  show(match i4 (frz 3) Z [.rf i]with
    |some (ds,b)=>R (x::ds,b)
    |none=>U)=_
  ext i4;rw[EB 2 h];rfl
 ext frz;rw[show([AV.fz x,AV.rf i].map AV.sv)=[.fz x,.rf i]from rfl,a]
def Ua(b c:Bd)(a:G YU)(d:D):Prop:=
 (∃row,d=.tuple [.str "apart",.list row]/\∃k p e,RW b c a k p/\e∈a/\¬Bm b c p e)\/
 ∃l:G PP,d=.tuple [.str "same",.list (l.map kP)]/\AllP b c a l/\∀k p e,RW b c a k p->e∈a->Bm b c p e
def HR(h:U5 b c o v Z):∃d k,frz 4 Z v=R (d,k)/\Ua b c o d:=by
 rcases h with⟨i,row,d,rfl,g,f,a⟩|⟨i,l,rfl,g,f,a⟩
 .let(p,e,n,m,j):=a.x;show#[_,_,Er g,.inl #[row,W,d,p,e,n,m,j]]
 .show#[_,_,Er g,.inr #[l,W,f,a]]
def Ob{b c:Bd}(j:VB b)(i:VB c){n:Nat}(r:b.n=n)(l:c.n=n)(o:n<=5){ρ:bz}{fa:xi}{Z:bp}(q:fa ρ Z=.ok [.fz (bD b),.fz (bD c),.fz (.int 1)] Z):∃d k,iL (jK bJ 3 fa) ρ Z=.ok (.fz d) k/\(d=.none\/Ua b c (ei n) d):=by
 let a:=(A8 j i r l o (m:=80) () () Z).out;let f:bJ [.fz (bD b),.fz (bD c),.fz (.int 1)] Z=Se (gh [.fz (bD b),.fz (bD c),.fz (.int 80)] Z):=by ext bJ;dsimp only;rw[ax ()]
 cases e:gh [.fz (bD b),.fz (bD c),.fz (.int 80)] Z with
 |bad=>rw[e]at a;show a.elim
 |er x k=>rw[e]at a f;let(rfl,_):=a;show#[.none,k,gZ (nw q W (f.trans (by ext Se;show av W))) W,.inl W]
 |ok v k=>rw[e]at a f;let(d,p,h,g):=HR a;show#[d,p,gZ (nw q W f) h,.inr g]
def SY(b:Bd)(a:G YU)(d:D):Prop:=∃N k,(b8 b a N).length=N/\N<=80/\SC (bF b a N) (gS b a) N k/\d=GJ (gS b a) (bF b a N) (sq (bF b a N) (gS b a) N k) N
def Es{b:Bd}(g:VB b){n:Nat}(p:b.n=n)(h:n<=5){ρ:bz}{fa:xi}{Z:bp}{x:D}(o:fa ρ Z=.ok [.fz (bD b),.fz x,.fz (.int 0)] Z):∃d c,iL (jK bJ 3 fa) ρ Z=.ok (.fz d) c/\(d=.none\/SY b (ei n) d):=by
 let a:=(zA g p h (m:=80) () () Z).out;let f:bJ [.fz (bD b),.fz x,.fz (.int 0)] Z=Se (cW [.fz (bD b),.fz (.int 80)] Z):=by ext bJ;dsimp only;rw[av W]
 cases e:cW [.fz (bD b),.fz (.int 80)] Z with
 |bad=>rw[e]at a;show a.elim
 |er x c=>rw[e]at a f;let(rfl,_):=a;show#[.none,c,gZ (nw o W (f.trans (by ext Se;show av W))) W,.inl W]
 |ok v c=>rw[e]at a f;let(N,k,j,l,i,rfl):=a;show#[_,c,gZ (nw o W f) W,.inr #[N,k,j,by ext,i,W]]
def TV(h:LD.kd d=P/\l7 d=P)(a:LD.kd e=P/\l7 e=P):cT d e=-(.bool (VD.eqv d e))/\(VD.eqv d e=P↔d=e):=by
 constructor
 .ext cT;rw[h.2,LD.kd_lay _ a.1,Xy,av W]
 .show#[LD.kd_eqv _ _ h.1 a.1,λq=>by rw[q];show Yi _ (LD.kd_lay _ a.1)]
def JR{b c:Bd}{x:bb YU}{d y v:D}(m:VB b)(i:VB c)(t:∀e∈x,EV b e)(u:∀e∈x,EV c e)(S:Ua b c x d)(I:SY b x y)(H:SY c x v):∃w s,bq d (.int 0)=-(.str w)/\cT (.str w) (.str "same")=-(.bool s)/\cT y v=-(.bool s):=by
 let(N,k,q,L,F,rfl):=I;let(M,j,r,O,G,rfl):=H;let(X,K):=JN m t q F;let(Y,J):=JN i u r G;let(o,n):=TV (PB (St:=gS b x) (c:=sq (bF b x N) (gS b x) N k) (N:=N) (xO m t q)) (PB (St:=gS c x) (c:=sq (bF c x M) (gS c x) M j) (N:=M) (xO i u r));generalize sq (bF b x N) (gS b x) N k=f at*;generalize sq (bF c x M) (gS c x) M j=g at*;rcases S with⟨row,rfl,k,p,e,E,C,B⟩|⟨l,rfl,_,A⟩
 .show#["apart",VO,iz,(TZ (by left) (by left)).trans (by rw[show(("apart":Str)== "same")=VO by left]),o.trans ?_]
  cases z:VD.eqv (GJ (gS b x) (bF b x N) f N) (GJ (gS c x) (bF c x M) g M)with
  |false=>rfl
  |true=>let(h,a):=PR (n.mp z);rw[h,a]at X;show a5 (Nd X Y E C) B
 .show#["same",P,iz,STP.Ed (by left),o.trans ?_];let(h,a):=NN X Y K J A;rw[n.mpr (by rw[GG,GG,h,a])]
abbrev G7(ns:G Int)(b c:Bd)(f e a d:I SV):bz:=[-(.list (ns.map .int)),-(bD b),-(bD c),f,e,a,d]
def main(ns:bb Int)(D:ns.length<=63):L10.S7 F_law [.list (ns.map .int)]=.ok (.fz (.bool Vx)):=by
 let(n,r,ek):=L7 ns;let(b,j,y,eb):=JM ns 1 n r;let(c,O,R,ec):=K1 ns j y r;let F:n<=5:=by ext
 let Q:Out (F_law [.fz (.list (ns.map .int))] []) (λx _=>x=.fz (.bool Vx)) (λ_=>False):=by
  show oH W ?_;ext Hk;show c8 (ρ1:=[-(.list (ns.map .int)),-(bD b),Vt,Vt,Vt,Vt,Vt]) (ah (ck (ai (ae W) (ai aC (ai (ck (ai (ae W) aJ) W W ek) aJ))) W W eb)) W ?_;show c8 (ρ1:=G7 ns b c Vt Vt Vt Vt) (ah (ck (ai (ae W) (ai (ae W) aJ)) W W ec)) W ?_;let(g,Z1,Y,S1):=Es j y F (x:=bD b) (ρ:=G7 ns b c Vt Vt Vt Vt) (fa:=aj (af (aa 1)) (aj (af (aa 1)) (aj (af (~~~0)) aH))) (Z:=[]) (ao (ah (ae W)) (ao (ah (ae W)) (ao (ah aC) aN)));show c8 (ρ1:=G7 ns b c (-(g)) Vt Vt Vt) Y W ?_;let(o,Z2,X,S2):=Es O R F (x:=bD c) (ρ:=G7 ns b c (-(g)) Vt Vt Vt) (fa:=aj (af (aa 2)) (aj (af (aa 2)) (aj (af (~~~0)) aH))) (Z:=Z1) (ao (ah (ae W)) (ao (ah (ae W)) (ao (ah aC) aN)));show c8 (ρ1:=G7 ns b c (-(g)) (-(o)) Vt Vt) X W ?_;let(A,Z3,U,u):=Ob j O y R F (ρ:=G7 ns b c (-(g)) (-(o)) Vt Vt) (fa:=aj (af (aa 1)) (aj (af (aa 2)) (aj (af (~~~1)) aH))) (Z:=Z2) (ao (ah (ae W)) (ao (ah (ae W)) (ao (ah aC) aN)));show c8 (ρ1:=G7 ns b c (-(g)) (-(o)) (-(A)) Vt) U W ?_;clear Y X U;let i1:∃f,jU g .none=-(.bool f)/\oa g .none=-(.bool !f)/\(f=VO->SY b (ei n) g):=by
   rcases S1 with rfl|⟨N,k,h,J,I,rfl⟩
   .show#[Vx,W,W,λz=>nomatch z]
   .show#[VO,W,W,λ_=>#[N,k,h,J,I,W]]
  let i2:∃f,jU o .none=-(.bool f)/\(f=VO->SY c (ei n) o):=by
   rcases S2 with rfl|⟨N,k,h,J,I,rfl⟩
   .show#[Vx,W,λz=>nomatch z]
   .show#[VO,W,λ_=>#[N,k,h,J,I,W]]
  let i3:∃f,jU A .none=-(.bool f)/\(f=VO->Ua b c (ei n) A):=by
   rcases u with rfl|S
   .show#[Vx,W,λz=>nomatch z]
   .show#[VO,?_,λ_=>S];rcases S with⟨_,rfl,_⟩|⟨_,rfl,_⟩<;>rfl
  clear S1 S2 u;let(E,a1,H,a2):=i1;let(C,b1,b2):=i2;let(B,c1,c2):=i3;let G:∀(P:bg SV) (Z:bp) (N:bz->bp->Prop),kj (aR (cS (bV (FW (aO (aL jU (aa 3) (pC .none))) (FW (aO (aL jU (aa 4) (pC .none))) (aO (aL jU (aa 5) (pC .none)))))) (gQ (af (pC (.bool Vx)))) dg) (gQ (af (aL cT (aL cT (aL bq (aa 5) (~~~0)) (pC (.str "same"))) (aL cT (aa 3) (aa 4))))) (G7 ns b c (-(g)) (-(o)) (-(A)) P) Z) N (λx _=>x=.fz (.bool Vx)) (λ_=>False):=λP Z N=>by
   let t:bV (FW (aO (aL jU (aa 3) (pC .none))) (FW (aO (aL jU (aa 4) (pC .none))) (aO (aL jU (aa 5) (pC .none))))) (G7 ns b c (-(g)) (-(o)) (-(A)) P) Z=.ok (E||(C||B)) Z:=bN (xp (a:=E) (b:=C||B) (bE (aB (rv:=.fz (.bool E)) (ae W) aC W W a1) W) λ_=>xp (a:=C) (b:=B) (bE (aB (rv:=.fz (.bool C)) (ae W) aC W W b1) W) λ_=>bE (aB (rv:=.fz (.bool B)) (ae W) aC W W c1) W);by_cases q:(E||(C||B))=Vx
   .rw[q]at t;show Db t (Ea (ah aC) W)
   .rw[ae3.mpr q]at t
    obtain⟨M,L,z3⟩:E=VO/\C=VO/\B=VO:=by revert q;ext E<;>ext C<;>ext B<;>decide
    let(w,s,w1,w2,w3):=JR j O (jZ y) (jZ R) (c2 z3) (a2 M) (b2 L);show uE t (qv (rF (ah (aB (rv:=.fz (.bool Vx)) (aB (rv:=.fz (.bool s)) (aB (rv:=.fz (.str w)) (ae W) aC W W w1) aC W W w2) (aB (rv:=.fz (.bool s)) (ae W) (ae W) W W w3) W W (STP.Ed W))) W))
  cases E with
  |true=>show uE (bN (bE (aB (rv:=.fz (.bool VO)) (ae W) aC W W H) W)) (qv (G _ _ _))
  |false=>
   show Db (bN (bE (aB (rv:=.fz (.bool Vx)) (ae W) aC W W H) W)) (Re ?_);let(N,k,h,J,I,_):=a2 W;let(v,Z4,e4,S):=(ve (A8 j j y y F (m:=80) () () Z3) (λv Z' hv=>hv) λx #[_,l,l1,l2,l3]=>by let:=Fb j (jZ y) h l l1 l2;ext).all;let(d,K,M,L):=HR S;show c8 (ρ1:=G7 ns b c (-(g)) (-(o)) (-(A)) (-(d))) (gZ (wf (ao (ah (ae W)) (ao (ah (ae W)) (ao (ah aC) aN))) W e4) M) W ?_;rcases L with⟨_,_,k',p,e,r1,_,r3⟩|⟨l,rfl,T,_⟩
   .show a5 (show(aG b p.1 e).2=(aG b p.2 e).2 by rw[r1.eq]) r3
   let ll:l.length=N:=by let:=Fb j (jZ y) h l T.u T.r;let:=M6 j (jZ y) h T;ext
   let(i,Z6,e6,g6):=QS j y F (m:=80) () () h () K;let nn:rc (nd N) (nd N)=-(.bool VO):=yd W;let t1:bV (aO (aL rc (aL bq (aa 6) (~~~0)) (pC (.str "same")))) (G7 ns b c (-(g)) (-(o)) (-(A)) (-(.tuple [.str "same",.list (l.map kP)]))) K=.ok VO K:=bN (bE (aB (rv:=.fz (.bool VO)) (aB (rv:=.fz (.str "same")) (ae W) aC W W iz) aC W W (yd (by left))) W);let t2:=dz (f:=rc) (ρ:=G7 ns b c (-(g)) (-(o)) (-(A)) (-(.tuple [.str "same",.list (l.map kP)]))) (ah (Z:=K) (f:=iC dH {aL bq (aa 6) (~~~1)}) (d:=nd N) (fO (rv:=.fz (nd N)) (ds:=[.list (l.map kP)]) (ai (aB (rv:=.fz (.list (l.map kP))) (ae W) aC W W jt) aJ) W ((fV _).trans (by rw[Vw,ll])))) (lQ (f:=dH) (d:=nd N) (ao (wf (fa:=aj (af (aa 1)) (aj (af (~~~80)) aH)) (es:=[]) (ao (ah (ae W)) (ao (ah aC) aN)) W e6) aN) (by ext aV;rw[dh g6];rfl) ((fV _).trans (by rw[Vw,Vw,h]))) (cM nn);show uE (ku t1 (bw t2)) (qv (G _ _ _))
 let(x,Z',h,rfl):=Q.all;ext L10.S7;rw[show[VD.list (ns.map .int)].map SV.fz=[.fz (.list (ns.map .int))]from rfl,h]
end K53
local macro_rules| `(tactic|ext:3)=> `(tactic|exact⟨rfl,rfl,rfl,by left,rfl,by left,by left⟩)| `(tactic|ext:22)=> `(tactic|first
 |exact .head _
 |(apply List.Mem.tail;ext:22))
local macro_rules| `(tactic|ext:23)=> `(tactic|first
 |change L3.rn
 |change L3.ut
 |change L3.B0
 |change L3.Bu
 |change L3.JS
 |change L3.xC
 |change L3.LV
 |change L3.MG
 |change L3.yf)
local macro_rules| `(tactic|ext:18)=> `(tactic|·first
 |ext:23
 |change L3.b5
 |change L3.lB
 |change L3.NY
 |change L3.xn
 |change L3.Ar
 |change L3.Oa
 |change L3.LU
 |change L3.E3
 |change L3.Dm
 |change L3.Nw
 |change L3.E6
 |change L3.g7
 |change L3.fA
 |change L3.N7
 |change L3.wX
 |change L3.CD
 |change L3.MZ
 |change L3.tj
 |change L3.pI
 |change L3.TJ
 |change L3.yz
 |change L9.CS
 |change L10.Ee
 |change L3.pO
 |change L3.xn)
local macro_rules| `(tactic|ext:7)=> `(tactic|·first
 |change L3.au
 |change L3.bc
 |(exists L3.bC);ext:18;ext:7;ext:7
 |change L3.kW
 |(exists L3.md);ext:15
 |(exists L3.kI);ext:18;ext:15
 |(exists L3.oW);ext:15
 |(exists L3.jW);ext:15
 |(exists L3.HQ);ext:7
 |change L3.qZ
 |change L3.Pm
 |(exists L3.He);ext:18;ext:7;ext:29;ext:29
 |(exists L3.HV);ext:7;ext:7
 |(exists L3.K4);ext:18;ext:7
 |(exists L9.RL);ext:7
 |(exists L3.vM);(·assumption))
local macro_rules| `(tactic|ext:15)=> `(tactic|·first
 |(exists L3.aU);ext:7;ext:15
 |change L3.bx)
local macro_rules| `(tactic|ext:19)=> `(tactic|·first
 |(exists L3.gI);(exists L3.bC);(·ext:23);ext:7;ext:7
 |(exists L3.Mj);ext:19;ext:19
 |(exists L3.Rv);ext:19;ext:19
 |(exists L3.OC);ext:7
 |change L3.fZ)
local macro_rules| `(tactic|ext:9)=> `(tactic|·first
 |change L3.cF
 |(exists L3.xh);ext:9;ext:9
 |change L3.IU
 |(exists L3.JI);ext:9
 |change L10.a9
 |(exists L10.vo);ext:9;ext:9
 |change L10.Du
 |(exists L10.Dx);ext:9)
local macro_rules| `(tactic|ext:24)=> `(tactic|·first
 |(exists L3.jP);ext:15
 |(exists L3.iJ);ext:7
 |(exists L3.Io);ext:15
 |(exists L10.kJ);ext:24
 |(exists L10.kO);ext:5)
local macro_rules| `(tactic|ext:29)=> `(tactic|·first
 |(exists L3.ui);ext:7
 |change L3.uV)
local macro_rules| `(tactic|ext:5)=> `(tactic|·first
 |(exists L10.ar);ext:7
 |change L10.aI
 |(exists L10.zL);ext:5;ext:5
 |(exists L10.gY);ext:18;ext:5;ext:5
 |(exists L10.bB);(·assumption);(·ext:22);ext:5
 |(exists L10.rD);ext:11
 |(exists L10.nI);ext:11
 |(exists L10.DR);ext:11
 |(exists L10.pE);ext:5;ext:5
 |(exists L10.jI);ext:11
 |(exists L10.gP);ext:5;ext:5
 |(exists L10.sR);(·assumption);ext:5;ext:11
 |(exists L10.z7);ext:5
 |(exists L10.zm);ext:5
 |(exists L10.Jq);ext:5;ext:5
 |(exists L10.MQ);ext:5;ext:5
 |(exists L10.e9);ext:18;ext:11
 |(exists L10.ii);ext:5
 |(exists L10.Ek);ext:5;ext:5
 |(exists L10.Sf);ext:12;ext:5;ext:5
 |(exists L10.N3);(·assumption);ext:11
 |(exists L10.Iw);ext:5)
local macro_rules| `(tactic|ext:11)=> `(tactic|·first
 |(exists L10.ay);ext:5;ext:11
 |change L10.aZ)
local macro_rules| `(tactic|ext:12)=> `(tactic|·first
 |(exists L10.fW);(exists L10.gY);(·ext:23);ext:5;ext:5
 |(exists L10.mW);ext:19
 |(exists L10.M3);ext:12;ext:12
 |(exists L10.Cd);ext:12;ext:12
 |(exists L10.Og);ext:12
 |(exists L10.OT);ext:5)
local macro_rules| `(tactic|ext:1)=> `(tactic|·first
 |(exists L3.ci);ext:1;ext:1
 |(exists L3.oP);ext:7;ext:9
 |(exists L3.TY);ext:19;ext:1;ext:1
 |(exists L3.jT);ext:7
 |(exists L3.Dy);ext:7
 |change L3.Oz
 |(exists L3.Cf);ext:24;ext:9;ext:1
 |(exists L10.aK);ext:1;ext:1
 |(exists L10.cy);ext:5;ext:9
 |(exists L10.mX);ext:12;ext:1;ext:1
 |(exists L10.ir);ext:5
 |(exists L10.eW);ext:5
 |(exists L10.Ke);ext:5;ext:5;ext:5
 |(exists L10.i9);(·assumption);(·ext:22);ext:5;ext:5
 |change L10.iu
 |(exists L10.Dq);ext:24;ext:9;ext:1
 |(exists L10.nW);ext:12;ext:1
 |change L10.HD
 |change L10.v7)
local macro_rules| `(tactic|ext:6)=> `(tactic|·first
 |exact L2.bv
 |exact L2.ra (by assumption)
 |exact L2.ur (by assumption)
 |exact L3.xP (by assumption)
 |exact L3.Ol (by assumption)
 |exact L9.xS
 |exact L3.lu
 |exact L3.tD
 |exact L3.Ms
 |exact L2.Qj
 |exact L2.Hb
 |exact L2.Jo
 |exact L3.Fc
 |exact L2.QD
 |exact L2.JQ
 |exact L2.Rj
 |exact L2.yT
 |exact L2.Py
 |exact L2.PN
 |exact L2.IB
 |exact L2.Ko
 |exact L2.HK
 |exact L2.d4
 |exact L2.b3
 |exact L2.yG
 |exact L2.g8
 |exact L10.wj
 |exact L2.Cv
 |exact L3.yc
 |exact L2.zG
 |exact agP
 |exact L2.jF
 |exact L2.gA
 |exact L2.C7
 |exact L2.zF
 |exact L2.AC
 |exact L2.Kl
 |exact L10.Qv
 |change Xg
 |change Xr
 |change Xs
 |change PySem.F.slot_list_insert
 |change PySem.F.type_list_insert
 |change PySem.F.slot_list_extend
 |change PySem.F.type_list_extend
 |change YK
 |change ZO
 |change acB
 |exact L2.GM rfl
 |exact L3.tR rfl
 |exact L10.uG rfl
 |exact L10.uQ rfl
 |exact L10.C6 rfl
 |exact L10.nc rfl
 |rfl)
local macro_rules| `(tactic|ext:4)=> `(tactic|·first
 |(exists L2.pv);(·rfl);(·(first|exact a6 rfl|exact a7 (a6 rfl)|exact a7 (a7 rfl)));(·decide);(·decide)
 |change L2.a8
 |(exists L2.bW);ext:6;ext:4;ext:4;(·exact λ_ _=>rfl)
 |change L2.k8
 |(exists L2.ky);ext:6;ext:4;ext:4
 |(exists L2.Eo);(·assumption);ext:4;ext:4;(·exact λ_ _=>rfl)
 |(exists L2.gD);(·assumption);(·assumption);ext:8;(·decide);(·rfl);(·decide);(·rfl);(·rfl)
 |(exists L2.gF);ext:8
 |change L2.mB
 |(exists L2.jS);ext:8
 |(exists L2.ce);ext:6;(·rfl);(·assumption);ext:6;ext:8;(·decide);(·decide);(·rfl);(·rfl)
 |(exists L2.di);ext:6;(·rfl);(·assumption);ext:6;ext:8;(·decide);(·decide);(·rfl);(·rfl)
 |(exists L2.sO);(·rfl);(·assumption);(·(first|rfl|exact⟨_,rfl⟩));(·decide)
 |change L2.OV
 |(exists L2.kQ);ext:6;ext:4;ext:4;(·(first|rfl|with_unfolding_all rfl))
 |(apply L2.b4);ext:4;(·rfl)
 |(apply L2.tU);ext:6;ext:6;ext:6;ext:6;ext:4;ext:8;(·rfl);(·rfl);(·decide);(·rfl);(·rfl)
 |(exists L2.Hc);ext:13;ext:4;ext:4
 |(apply L2.Hv);ext:6;ext:6;ext:6;ext:6;ext:4;(·rfl);(·decide)
 |(exists L2.Co);ext:4
 |(exists L2.CG);ext:4;ext:4
 |(exists L2.J4);ext:6;ext:4
 |(apply L2.uJ);ext:6;ext:4;ext:25;ext:25
 |(apply L2.P6);ext:4;ext:25
 |(apply L2.J9);ext:4;ext:4;(·exact⟨rfl,rfl,rfl,rfl⟩)
 |(apply L10.wD);(·assumption);ext:6;(·assumption);ext:4;ext:8;(·decide);(·rfl);(·rfl);(·rfl)
 |(apply L10.JY);(·assumption);ext:6;(·assumption);ext:4;(·decide);(·rfl)
 |(apply L10.Dz);(·assumption);ext:6;(·assumption);ext:8;(·decide);(·rfl);(·decide);(·rfl);(·rfl)
 |(apply L10.DF);(·rfl);(·rfl);(·assumption);ext:8;(·rfl))
local macro_rules| `(tactic|ext:8)=> `(tactic|·first
 |(exists L2.am);ext:4;ext:8;(·rfl)
 |change L2.aA)
local macro_rules| `(tactic|ext:13)=> `(tactic|·first
 |(exists L2.eB);ext:6;ext:4;ext:4;(·(first|rfl|with_unfolding_all rfl))
 |(exists L2.Rx);ext:13
 |(exists L2.Jl);ext:33;(·(first|rfl|with_unfolding_all rfl))
 |(exists L2.PW.pt);ext:26
 |(exists L2.K6);ext:4;(·(intro _;rfl)))
local macro_rules| `(tactic|ext:26)=> `(tactic|·first
 |(exists L2.M9);ext:13
 |(exists L2.Qw);ext:13;ext:26
 |(exists L2.BH);ext:13
 |(exists L2.KI);ext:13;ext:26)
local macro_rules| `(tactic|ext:33)=> `(tactic|·first
 |(exists L2.Ra);(·assumption);ext:4;ext:4)
local macro_rules| `(tactic|ext:21)=> `(tactic|·first
 |(exists L2.bK);(·(first|assumption|left));(·rfl);(·(first|exact a6 rfl|exact a7 rfl|assumption|rfl));(·(first|exact a6 rfl|exact a7 rfl|assumption|rfl))
 |(exists L2.mq);ext:21;ext:21;(·rfl)
 |change L2.xt
 |(apply L2.BP);(·rfl);ext:21;(·rfl);(·rfl))
local macro_rules| `(tactic|ext:34)=> `(tactic|·first
 |(exists L2.fL);(·rfl);(·assumption);ext:8;(·rfl)
 |(apply L3.Jj);(·rfl);(·assumption);ext:8;(·rfl);(·rfl)
 |(apply L3.eR);ext:4)
local macro_rules| `(tactic|ext:25)=> `(tactic|·first
 |change L2.xG
 |(exists L2.yA);ext:4)
local macro_rules| `(tactic|ext:2)=> `(tactic|·first
 |(exists L2.aW);ext:2
 |change L2.jD
 |(exists L2.aq);ext:2;ext:2
 |(exists L2.cC);(·(first|assumption|left));(·rfl);(·(first|exact a6 rfl|exact a7 rfl|assumption|rfl));ext:4;(·rfl);(·(first|exact a6 rfl|exact a7 rfl|assumption|rfl))
 |(exists L2.hV);ext:4;(·rfl)
 |(exists L2.cV);ext:4
 |(exists L2.p9);ext:13;ext:2;ext:2
 |(exists L2.xm);ext:6;(·rfl);ext:34;ext:21;ext:2;(·(intro _;rfl))
 |(apply L2.kR);ext:4;ext:4;(·rfl)
 |(exists L2.M5);(·assumption);ext:4;ext:4;ext:4;(·rfl)
 |(exists L2.Qf);ext:4;ext:21;(·rfl);(·rfl);(·rfl)
 |change L2.NC
 |(exists L2.pV);ext:6;ext:13;ext:2
 |change L2.A0)
local macro_rules| `(tactic|ext:10)=> `(tactic|(intros;refine L3.zc (by ext:1) ?_;first|(apply L2.aq);ext:2;ext:2|(apply L2.aW);ext:2))| `(tactic|ext:30)=> `(tactic|(intros;refine L3.GS (by ext:1) ?_;first|(apply L2.aq);ext:2;ext:2|(apply L2.aW);ext:2))
namespace K53
open PySem L2 L3 STP
def top(i:Nat):X2:=PySem.Challenge.pw_chordbed_k53_whole_same_machines.main.body.getD i (.Pass ⟨0,0,0,0⟩)
def fb:X2->G X2
 |.For _ _ b _ _=>b
 |.If _ b _ _=>b
 |_=>[]
def ss:WQ->WQ
 |.Subscript _ v _=>v
 |e=>e
def lp:WQ->Pos
 |.List _ p=>p
 |_=>⟨0,0,0,0⟩
def fI:X2->WQ
 |.For _ i _ _ _=>i
 |_=>.Name "" ⟨0,0,0,0⟩
def nP:X2->Pos
 |.Assign [.Name _ p] _ _=>p
 |_=>⟨0,0,0,0⟩
def sv:WQ->WQ
 |.Subscript v _ _=>v
 |e=>e
def le:WQ->G WQ
 |.List l _=>l
 |_=>[]
def bl:WQ->WQ
 |.BinOp a _ _ _=>a
 |e=>e
def dK:WQ->G (I WQ)
 |.Dict k _ _=>k
 |_=>[]
def dV:WQ->G WQ
 |.Dict _ v _=>v
 |_=>[]
section
variable{P:V8}{w:Wv}{K:Vs}{Y:Str->bg Vu}{base:Heap}{f:VF}{X:WY}
theorem Aq(F:YN K "layer_of" "layer_of" (top 9) f X)(b:Y "max"=U):FnOk P w K Y base dX 1 f X ["standing"] (rX K 1 eD):=pY (N:=["standing"]) (g:=o0) F (by ext:3) W W W λm A a s H E nd l h e j=>GS (ci (by ext:1)
   (jT (kI L10.Ee (aU (gc W W (iJ (bC b5 au bc)) (JI (xh cF (xh cF IU))) (gI (bC rn (bC b5 au bc) kW)) (bC b5 au bc)) bx)))) (aq (by ext:2)
   (aW (cV (L10.DF W W b (am (dD ["key","act"] [] W (eR (bW bv (pv 0) a8 (λ_ _=>W))) (λ_ _ _ _=>(BP W (mq (bK (i:=0) (show WM (["key","act"]:G Str) by left) W (a6 W)) (mq (bK (i:=1) (show WM (["key","act"]:G Str) by left) W (a6 W)) xt)))) (λ_ _ _ _=>(vj (eB (ra h) (bW bv (pv 1) a8 (λ_ _=>W)) k8 (fE _)))) (λ_ _ _ _=>(bW bv (pv 1) a8 (λ_ _=>W))) trivial W) aA)))))
theorem yO(F:YN K "looked_up" "looked_up" (top 12) f X):FnOk P w K Y base dX 1 f X ["bed","layer","key"] (rX K 3 jH):=pY (N:=["bed","layer","key","meaning"]) (g:=mP) F (by ext:3) W W W λj A a s H E nd i h b e=>GS (ci (by ext:1)
   (ci (by ext:1)
   (jT au))) (aq (by ext:2)
   (aq (by ext:2)
   (aW (cV (pv 3)))))
theorem uN(F:YN K "chords_over" "chords_over" (top 13) f X)(b:Y "all"=U):FnOk P w K Y base dX 1 f X ["bed","keys"] (rX K 2 bO):=pY (N:=["bed","keys"]) (g:=j6) F (by ext:3) W W W λm A a s H E nd l j h e=>GS (jT (gc W W (iJ (bC b5 au bc)) cF (OC (kI CD (aU (gc W W (iJ au) cF fZ (bC xC au (bC b5 au bc))) bx))) au)) (aW (cV (dD ["chord"] [("keys",1)] W (eR (bW bv (pv 0) a8 (λ_ _=>W))) (λ_ _ _ _=>(bK (i:=0) (show WM (["chord","keys"]:G Str) by left) W (a7 W))) (λ_ _ _ _=>(vj (K6 (ce (tR W) W b Kl (am (dD ["key"] [("chord",0)] W (eR (pv 1)) (λ_ _ _ _=>(bK (i:=0) (show WM (["key","chord"]:G Str) by left) W (a6 W))) (λ_ _ _ _=>cb) (λ_ _ _ _=>(kQ (xP e) (pv 0) (bW bv (pv 1) a8 (λ_ _=>W)) (by with_unfolding_all rfl))) ⟨⟨W,W,a6 W⟩,trivial⟩ W) aA))))) (λ_ _ _ _=>(pv 0)) ⟨⟨W,W,a6 W⟩,trivial⟩ W)))
theorem vZ(F:YN K "chord_acts" "chord_acts" (top 14) f X)(l:Y "list"=U)(m:Y "sorted"=U)(q:Y "len"=U){a:M}(j:Y "NONE"=R (.ref a))(h:∀O H,DV O K H (.ref a) (.tuple [(.str "none")])):FnOk P w K Y base dX 1 f X ["bed","keys"] (rX K 2 gM):=pY (N:=["bed","keys","chord"]) (g:=lz) F (by ext:3) W W W λr A b s H E nd p o e n=>GS (ci (by ext:1)
   (jT (gc W W (iJ au) cF fZ (bC b5 (bC b5 (bC b5 au bc) bc) au)))) (aq (by ext:2)
   (aW (cV (dD ["key"] [("bed",0)] W (eR (pv 1)) (λ_ _ _ _=>(bK (i:=0) (show WM (["key","bed"]:G Str) by left) W (a6 W))) (λ_ _ _ _=>cb) (λ_ _ _ _=>(bW bv (bW bv (bW bv (pv 1) a8 (λ_ _=>W)) a8 (λ_ _=>W)) (pv 0) (λ_ _=>W))) ⟨⟨W,W,a6 W⟩,trivial⟩ W))))
theorem yL(F:YN K "_law_cell" "_law_cell" (top 27) f X)(j:Y "len"=U):FnOk P w K Y base dX 1 f X ["_law_script","_law_k"] (rX K 2 bM):=pY (N:=["_law_script","_law_k"]) (g:=rT) F (by ext:3) W W W λl A a s H E nd i h b e=>GS (ci (by ext:1)
   (jT bc)) (aq (by ext:2)
   (aW (cV a8)))
theorem xa(F:YN K "_law_take" "_law_take" (top 28) f X)(a:Y "range"=U):FnOk P w K Y base dX 1 f X ["_law_cell_here","_law_salt","_law_many"] (rX K 3 aM):=pY (N:=["_law_cell_here","_law_salt","_law_many","_law_turn","_law_number"]) (g:=iA) F (by ext:3) W W W (by delta iA;ext:30)
theorem vn(F:YN K "_law_letter" "_law_letter" (top 29) f X)(h:ip P w K Y base 1 "_law_take" ["_law_cell_here","_law_salt","_law_many"] 3 aM):FnOk P w K Y base dX 2 f X ["_law_cell_here","_law_salt"] (rX K 2 dG):=pY (N:=["_law_cell_here","_law_salt"]) (g:=on) F (by ext:3) W W W λl A a s H E nd e j b i=>GS (jT (bC xn kW (md (aU au (aU au (aU bc bx)))))) (aW (cV (bW bv k8 (gD h e (am (pv 0) (am (pv 1) (am a8 aA)))) (λ_ _=>W))))
theorem sE(F:YN K "_law_meaning" "_law_meaning" (top 30) f X)(e:ip P w K Y base 1 "_law_take" ["_law_cell_here","_law_salt","_law_many"] 3 aM)(b:ip P w K Y base 2 "_law_letter" ["_law_cell_here","_law_salt"] 2 dG)(a:Y "max"=U):FnOk P w K Y base dX 3 f X ["_law_cell_here","_law_layer","_law_many"] (rX K 3 fD):=pY (N:=["_law_cell_here","_law_layer","_law_many","_law_way","_law_level"]) (g:=fy) F (by ext:3) W W W (by delta fy;ext:30)
theorem vG(F:YN K "_law_chords" "_law_chords" (top 31) f X)(q:ip P w K Y base 1 "_law_take" ["_law_cell_here","_law_salt","_law_many"] 3 aM)(h:Y "range"=U)(m:Y "tuple"=U)(l:Y "len"=U)(b:Y "all"=U):FnOk P w K Y base dX 2 f X ["_law_cell_here","_law_keys_here","_law_first"] (rX K 3 ib):=pY (N:=["_law_cell_here","_law_keys_here","_law_first","_law_found","_law_mask","_law_some","_law_good"]) (g:=hJ) F (by ext:3) W W W λp A a s H E nd o e j n=>GS (ci (by ext:1)
   (ci (Cf (jP (aU (bC E6 bc au) bx)) cF (ci (oP (kI fA (aU (gc W W (jP (aU au bx)) cF (gI (bC rn (bC E3 (bC Dm au au) bc) bc)) au) bx)) cF)
   (ci (oP (HV (bC Bu (kI g7 (aU au bx)) bc) (kI CD (aU (gc W W (iJ au) cF fZ (bC rn (bC b5 (bC b5 au au) bc) kW)) bx))) cF)
   (by ext:1))))
   (by ext:1))) (aq (by ext:2)
   (aq (xm aaa.never W (fL W h (am (ky HK a8 (pv 1)) aA)) (bK (i:=4) nd W (a7 W)) (aq (cC (i:=5) nd W (a6 W) (di b3 W m gA (am (dD ["_law_key"] [("_law_mask",4)] W (fL W h (am (pv 1) aA)) (λ_ _ _ _=>(bK (i:=0) (show WM (["_law_key","_law_mask"]:G Str) by left) W (a6 W))) (λ_ _ _ _=>(vj (eB (ra e) (ky Ko (ky IB (pv 1) (pv 0)) a8) a8 (fE _)))) (λ_ _ _ _=>(pv 0)) ⟨⟨W,W,a6 W⟩,trivial⟩ W) aA)))
   (aq (cC (i:=6) nd W (a6 W) (CG (kQ Hb (ce d4 W l jF (am (pv 5) aA)) a8 (fE _)) (Co (ce (tR W) W b Kl (am (dD ["_law_key"] [("_law_first",2)] W (eR (pv 5)) (λ_ _ _ _=>(bK (i:=0) (show WM (["_law_key","_law_first"]:G Str) by left) W (a6 W))) (λ_ _ _ _=>cb) (λ_ _ _ _=>(kQ (ra e) (bW bv (bW bv (pv 1) (pv 0) (λ_ _=>W)) a8 (λ_ _=>W)) k8 (fE _))) ⟨⟨W,W,a6 W⟩,trivial⟩ W) aA)))))
   (aW (by ext:2)))))
   (aW (by ext:2))))
theorem AI(F:YN K "_law_bed" "_law_bed" (top 32) f X)(m:ip P w K Y base 1 "_law_cell" ["_law_script","_law_k"] 2 bM)(r:ip P w K Y base 1 "_law_take" ["_law_cell_here","_law_salt","_law_many"] 3 aM)(l:ip P w K Y base 3 "_law_meaning" ["_law_cell_here","_law_layer","_law_many"] 3 fD)(j:ip P w K Y base 2 "_law_chords" ["_law_cell_here","_law_keys_here","_law_first"] 3 ib)(e:Y "range"=U)(n:Y "tuple"=U):FnOk P w K Y base dX 4 f X ["_law_script","_law_at","_law_keys_here"] (rX K 3 gm):=pY (N:=["_law_script","_law_at","_law_keys_here","_law_cell_here","_law_many","_law_layers","_law_layer","_law_cells","_law_chords_here"]) (g:=kX) F (by ext:3) W W W λq A a s H E nd b p h o=>GS (ci (by ext:1)
   (ci (by ext:1)
   (ci (oP (jW bx) cF)
   (ci (Cf (jP (aU au bx)) cF (ci (oP (gc W W (jP (aU au bx)) cF fZ (md (aU au (aU (bC lB (bC lB (bC lB au bc) (bC Ar au au)) au) bx)))) cF)
   (Dy (HQ (kI fA (aU (gc W W (iJ au) cF fZ (md (aU au (aU au (aU au bx))))) bx))))))
   (ci (by ext:1)
   (by ext:1)))))) (aq (by ext:2)
   (aq (by ext:2)
   (aq (cC (i:=5) nd W (a6 W) (jS aA))
   (aq (xm aaa.never W (fL W e (am (pv 4) aA)) (bK (i:=6) nd W (a7 W)) (aq (pW (i:=7) ["_law_key"] [("_law_script",0),("_law_at",1),("_law_keys_here",2),("_law_layer",6)] nd W W W (fL W e (am (pv 2) aA)) (λ_ _ _ _=>(bK (i:=0) (show WM (["_law_key","_law_script","_law_at","_law_keys_here","_law_layer"]:G Str) by left) W (a6 W))) (λ_ _ _ _=>cb) (λ_ _ _ _=>(gD m b (am (pv 1) (am (ky lu (ky lu (ky lu (pv 2) a8) (ky Fc (pv 3) (pv 4))) (pv 0)) aA)))) ⟨⟨W,W,a6 W⟩,⟨⟨W,W,a6 W⟩,⟨⟨W,W,a6 W⟩,⟨⟨W,W,a6 W⟩,trivial⟩⟩⟩⟩ W)
   (aW (hV (tU Xg Xr Xs g8 (pv 5) (am (di b3 W n gA (am (dD ["_law_one"] [("_law_layer",6),("_law_many",4)] W (eR (pv 7)) (λ_ _ _ _=>(bK (i:=0) (show WM (["_law_one","_law_layer","_law_many"]:G Str) by left) W (a6 W))) (λ_ _ _ _=>cb) (λ_ _ _ _=>(gD l b (am (pv 0) (am (pv 1) (am (pv 2) aA))))) ⟨⟨W,W,a6 W⟩,⟨⟨W,W,a6 W⟩,trivial⟩⟩ W) aA)) aA))))))
   (aq (by ext:2)
   (aW (by ext:2)))))))
theorem xZ(F:YN K "_law_keys" "_law_keys" (top 33) f X)(h:ip P w K Y base 1 "_law_cell" ["_law_script","_law_k"] 2 bM)(i:ip P w K Y base 1 "_law_take" ["_law_cell_here","_law_salt","_law_many"] 3 aM):FnOk P w K Y base dX 2 f X ["_law_script"] (rX K 1 jE):=pY (N:=["_law_script"]) (g:=rS) F (by ext:3) W W W λm A a s H E nd b l e j=>GS (jT (bC b5 (jW (aU bc (aU bc (aU bc (aU bc bx))))) (md (aU (md (aU au (aU bc bx))) (aU bc (aU bc bx)))))) (aW (cV (bW bv (jS (am a8 (am a8 (am a8 (am a8 aA))))) (gD i b (am (gD h b (am (pv 0) (am a8 aA))) (am a8 (am a8 aA)))) (λ_ _=>W))))
theorem A7(F:YN K "_law_put" "_law_put" (top 34) f X):FnOk P w K Y base dX 1 f X ["_law_row","_law_at","_law_thing"] (rX K 3 ez):=pY (N:=["_law_row","_law_at","_law_thing"]) (g:=tP) F (by ext:3) W W W λj A a s H E nd i h b e=>GS (jT (bC pO (bC pO (He pI au uV (ui au)) (oW (aU au bx))) (He pI au (ui (bC pO au bc)) uV))) (aW (cV (ky tD (ky tD (uJ yc (pv 0) xG (yA (pv 1))) (gF (am (pv 2) aA))) (uJ yc (pv 0) (yA (ky tD (pv 1) a8)) xG))))
theorem pK(F:YN K "_law_other_bed" "_law_other_bed" (top 35) f X)(m:ip P w K Y base 1 "_law_cell" ["_law_script","_law_k"] 2 bM)(p:ip P w K Y base 1 "_law_take" ["_law_cell_here","_law_salt","_law_many"] 3 aM)(e:ip P w K Y base 1 "_law_put" ["_law_row","_law_at","_law_thing"] 3 ez)(h:ip P w K Y base 4 "_law_bed" ["_law_script","_law_at","_law_keys_here"] 3 gm)(n:Y "len"=U):FnOk P w K Y base dX 5 f X ["_law_script","_law_bed_here"] (rX K 2 fK):=pY (N:=["_law_script","_law_bed_here","_law_keys_here","_law_layers","_law_chords_here","_law_wait","_law_cell_here","_law_way","_law_layer","_law_key","_law_meaning_here","_law_letter_here"]) (g:=fG) F (by ext:3) W W W λo A a s H E nd l j b i=>GS (ci (by ext:1)
   (ci (by ext:1)
   (ci (by ext:1)
   (ci (by ext:1)
   (ci (by ext:1)
   (ci (by ext:1)
   (ci (by ext:1)
   (ci (by ext:1)
   (ci (by ext:1)
   (ci (by ext:1)
   (ci (by ext:1)
   (ci (by ext:1)
   (jT au))))))))))))) (aq (by ext:2)
   (aq (by ext:2)
   (aq (by ext:2)
   (aq (by ext:2)
   (aq (by ext:2)
   (aq (by ext:2)
   (aq (by ext:2)
   (aq (by ext:2)
   (aq (by ext:2)
   (aq (by ext:2)
   (aq (by ext:2)
   (aq (by ext:2)
   (aW (cV (pv 1)))))))))))))))
theorem xQ(F:YN K "events_of" "events_of" (top 16) f X)(b:Y "range"=U):FnOk P w K Y base dX 1 f X ["bed"] (rX K 1 ef):=pY (N:=["bed","downs","ups"]) (g:=mG) F (by ext:3) W W W λm A a s H E nd l j e h=>GS (ci (oP (gc W W (jP (aU (bC b5 au bc) bx)) cF fZ (oW (aU kW (aU au bx)))) cF)
   (ci (oP (gc W W (jP (aU (bC b5 au bc) bx)) cF fZ (oW (aU kW (aU au bx)))) cF)
   (by ext:1))) (aq (pW (i:=1) ["key"] [] nd W W W (fL W b (am (bW bv (pv 0) a8 (λ_ _=>W)) aA)) (λ_ _ _ _=>(bK (i:=0) (show WM (["key"]:G Str) by left) W (a6 W))) (λ_ _ _ _=>cb) (λ_ _ _ _=>(gF (am k8 (am (pv 0) aA)))) trivial W)
   (aq (pW (i:=2) ["key"] [] nd W W W (fL W b (am (bW bv (pv 0) a8 (λ_ _=>W)) aA)) (λ_ _ _ _=>(bK (i:=0) (show WM (["key"]:G Str) by left) W (a6 W))) (λ_ _ _ _=>cb) (λ_ _ _ _=>(gF (am k8 (am (pv 0) aA)))) trivial W)
   (aW (by ext:2))))
end
end K53
namespace K53
open PySem L2 L3 L10 STP
section
variable{P:V8}{w:Wv}{K:Vs}{Y:Str->bg Vu}{base:Heap}{f:VF}{X:WY}
theorem rb(F:YN K "__init__" "Hand.__init__" (bj (top 11) 0) f X)(h:gy K "Hand" ["bed","acts","waiting","once","sent"])(e:Y "dict"=U):FnOk P w K Y base dX 3 f X ["self","bed","standing"] (db K 3 eK):=lL (N:=["self","bed","standing"]) (g:=lM) F (by ext:3) W W W λm A a s H E nd l j b i=>zc (aK (i9 h (.head _) aI (ar au))
   (aK (by ext:1)
   (aK (by ext:1)
   (aK (by ext:1)
   (by ext:1))))) (aq (kR (pv 0) (pv 1) W)
   (aq (by ext:2)
   (aq (by ext:2)
   (aq (by ext:2)
   (aW (by ext:2))))))
theorem vA(F:YN K "stands" "Hand.stands" (bj (top 11) 1) f X)(a:gy K "Hand" ["bed","acts","waiting","once","sent"])(j:Y "tuple"=U)(h:Y "sorted"=U):FnOk P w K Y base dX 3 f X ["self"] (db K 1 bQ):=lL (N:=["self"]) (g:=oE) F (by ext:3) W W W λo A b s H E nd n m e l=>zc (eW (jI (ay (e9 fA (ay (fX W W (kO (zm (bB a (.tail _ (.head _)) aI))) a9 eZ (jI (ay (ar au) (ay (zL (bB a (.tail _ (.head _)) aI) (ar au)) aZ)))) aZ)) (ay (bB a (.tail _ (.tail _ (.head _))) aI) (ay (bB a (.tail _ (.tail _ (.tail _ (.head _)))) aI) aZ))))) (aW (cV (gF (am (di b3 W j gA (am (dD ["key"] [("self",0)] W (eR (ce (uQ W) W h AC (am (b4 (pv 0) W) aA))) (λ_ _ _ _=>(bK (i:=0) (show WM (["key","self"]:G Str) by left) W (a6 W))) (λ_ _ _ _=>cb) (λ_ _ _ _=>(gF (am (pv 0) (am (Eo e (b4 (pv 1) W) (pv 0) (λ_ _=>W)) aA)))) ⟨⟨W,W,a6 W⟩,trivial⟩ W) aA)) (am (b4 (pv 0) W) (am (b4 (pv 0) W) aA))))))
theorem oV(F:YN K "is_waiting" "Hand.is_waiting" (bj (top 11) 2) f X)(b:gy K "Hand" ["bed","acts","waiting","once","sent"]):FnOk P w K Y base dX 3 f X ["self","key"] (db K 2 cA):=lL (N:=["self","key"]) (g:=jO) F (by ext:3) W W W λl A a s H E nd j i h e=>zc (eW (Ek (gY yf (bB b (.tail _ (.tail _ (.head _))) aI) (ar qZ)) (gY xC (ar au) (gP (bB b (.tail _ (.tail _ (.head _))) aI) (ar bc))))) (aW (cV (CG (kQ yT (b4 (pv 0) W) mB (fE _)) (Co (kQ (xP e) (pv 1) (bW bv (b4 (pv 0) W) a8 (λ_ _=>W)) (by with_unfolding_all rfl))))))
theorem sG(F:YN K "has_act" "Hand.has_act" (bj (top 11) 13) f X)(i:gy K "Hand" ["bed","acts","waiting","once","sent"])(b:Y "list"=U):FnOk P w K Y base dX 3 f X ["self","act"] (db K 2 b6):=lL (N:=["self","act"]) (g:=mJ) F (by ext:3) W W W λm A a s H E nd l j h e=>zc (eW (gY xC (ar au) (z7 (bB i (.tail _ (.head _)) aI)))) (aW (cV (kQ (xP e) (pv 1) (di (uG W) W b C7 (am (Hv YK ZO acB wj (b4 (pv 0) W)) aA)) (by with_unfolding_all rfl))))
theorem yV(F:YN K "come" "Hand.come" (bj (top 11) 11) f X)(b:gy K "Hand" ["bed","acts","waiting","once","sent"])(a:b7 P w K Y base dX 3 "Hand" "has_act" ["self","act"] (db K 2 b6)):FnOk P w K Y base dX 4 f X ["self","key","act"] (db K 3 bG):=lL (N:=["self","key","act"]) (g:=mj) F (by ext:3) W W W (by delta mj;ext:10)
theorem Cc(F:YN K "go" "Hand.go" (bj (top 11) 12) f X)(b:gy K "Hand" ["bed","acts","waiting","once","sent"])(a:b7 P w K Y base dX 3 "Hand" "has_act" ["self","act"] (db K 2 b6)):FnOk P w K Y base dX 4 f X ["self","key"] (db K 2 ki):=lL (N:=["self","key","act"]) (g:=rL) F (by ext:3) W W W (by delta rL;ext:10)
theorem ul(F:YN K "decide" "Hand.decide" (bj (top 11) 10) f X)(j:gy K "Hand" ["bed","acts","waiting","once","sent"])(q:b7 P w K Y base dX 4 "Hand" "come" ["self","key","act"] (db K 3 bG))(i:ip P w K Y base 1 "chord_acts" ["bed","keys"] 2 gM)(h:Y "zip"=U){b:M}(o:Y "CHORD"=R (.ref b))(p:∀O H,L3.DV O K H (.ref b) (.tuple [(.str "chord")])):FnOk P w K Y base dX 5 f X ["self"] (db K 1 cr):=lL (N:=["self","keys","what","acts","key","act"]) (g:=ox) F (by ext:3) W W W λr A a s H E nd n m e l=>zc (aK (by ext:1)
   (aK (by ext:1)
   (aK (i9 j (.tail _ (.tail _ (.head _))) aI (ar qZ))
   (aK (by ext:1)
   (by ext:1))))) (aq (by ext:2)
   (aq (by ext:2)
   (aq (kR (pv 0) mB W)
   (aq (by ext:2)
   (aW (by ext:2))))))
theorem nY(F:YN K "makes_chord" "Hand.makes_chord" (bj (top 11) 4) f X)(l:gy K "Hand" ["bed","acts","waiting","once","sent"])(j:b7 P w K Y base dX 3 "Hand" "stands" ["self"] (db K 1 bQ))(b:ip P w K Y base 1 "layer_of" ["standing"] 1 eD)(i:ip P w K Y base 1 "chords_over" ["bed","keys"] 2 bO){a:M}(e:Y "CHORD"=R (.ref a))(h:∀O H,L3.DV O K H (.ref a) (.tuple [(.str "chord")])):FnOk P w K Y base dX 4 f X ["self","key"] (db K 2 eC):=lL (N:=["self","key"]) (g:=gl) F (by ext:3) W W W (by delta gl;ext:10)
theorem mI(F:YN K "put_to_chord" "Hand.put_to_chord" (bj (top 11) 5) f X)(j:gy K "Hand" ["bed","acts","waiting","once","sent"])(n:b7 P w K Y base dX 5 "Hand" "decide" ["self"] (db K 1 cr))(o:ip P w K Y base 1 "chords_over" ["bed","keys"] 2 bO)(e:Y "len"=U){h:M}(q:Y "CHORD"=R (.ref h))(r:∀O H,L3.DV O K H (.ref h) (.tuple [(.str "chord")])):FnOk P w K Y base dX 6 f X ["self","key"] (db K 2 dS):=lL (N:=["self","key","keys"]) (g:=iU) F (by ext:3) W W W λt A a s H E nd b m l p=>zc (aK (by ext:1)
   (aK (by ext:1)
   (mX (fW (gY rn (fX W W (kO (DR (ay (bB j (.head _) aI) (ay (ar au) aZ)))) a9 eZ (ar (kI g7 (aU (bC b5 au bc) bx)))) (ar (jW (aU (kI g7 (aU au bx)) bx))))) (ir (sR j aI aZ)) iu))) (aq (by ext:2)
   (aq (by ext:2)
   (aW (p9 (eB (ra m) (dD ["chord"] [] W (eR (gD o b (am (b4 (pv 0) W) (am (pv 2) aA)))) (λ_ _ _ _=>(bK (i:=0) (show WM (["chord"]:G Str) by left) W (a6 W))) (λ_ _ _ _=>cb) (λ_ _ _ _=>(ce d4 W e jF (am (bW bv (pv 0) a8 (λ_ _=>W)) aA))) trivial W) (jS (am (ce d4 W e jF (am (pv 2) aA)) aA)) (fE _)) (aW (hV (JY n zG b (pv 0)))) jD))))
theorem vX(F:YN K "begin" "Hand.begin" (bj (top 11) 6) f X)(q:gy K "Hand" ["bed","acts","waiting","once","sent"])(p:b7 P w K Y base dX 3 "Hand" "stands" ["self"] (db K 1 bQ))(n:b7 P w K Y base dX 4 "Hand" "come" ["self","key","act"] (db K 3 bG))(j:ip P w K Y base 1 "layer_of" ["standing"] 1 eD)(i:ip P w K Y base 1 "looked_up" ["bed","layer","key"] 3 jH)(o:ip P w K Y base 1 "chords_over" ["bed","keys"] 2 bO){b:M}(l:Y "CHORD"=R (.ref b))(m:∀O H,L3.DV O K H (.ref b) (.tuple [(.str "chord")])){a:M}(h:Y "NONE"=R (.ref a))(e:∀O H,L3.DV O K H (.ref a) (.tuple [(.str "none")])):FnOk P w K Y base dX 5 f X ["self","key"] (db K 2 gH):=lL (N:=["self","key","layer","meaning","word"]) (g:=lC) F (by ext:3) W W W (by delta lC;ext:10)
theorem vN(F:YN K "press" "Hand.press" (bj (top 11) 3) f X)(j:gy K "Hand" ["bed","acts","waiting","once","sent"])(h:b7 P w K Y base dX 3 "Hand" "is_waiting" ["self","key"] (db K 2 cA))(b:b7 P w K Y base dX 4 "Hand" "makes_chord" ["self","key"] (db K 2 eC))(e:b7 P w K Y base dX 6 "Hand" "put_to_chord" ["self","key"] (db K 2 dS))(i:b7 P w K Y base dX 5 "Hand" "decide" ["self"] (db K 1 cr))(a:b7 P w K Y base dX 5 "Hand" "begin" ["self","key"] (db K 2 gH)):FnOk P w K Y base dX 7 f X ["self","key"] (db K 2 iV):=lL (N:=["self","key"]) (g:=k9) F (by ext:3) W W W (by delta k9;ext:10)
theorem uM(F:YN K "settle" "Hand.settle" (bj (top 11) 8) f X)(j:gy K "Hand" ["bed","acts","waiting","once","sent"])(i:b7 P w K Y base dX 5 "Hand" "decide" ["self"] (db K 1 cr))(h:b7 P w K Y base dX 4 "Hand" "come" ["self","key","act"] (db K 3 bG)){a:M}(b:Y "CHORD"=R (.ref a))(e:∀O H,L3.DV O K H (.ref a) (.tuple [(.str "chord")])):FnOk P w K Y base dX 6 f X ["self","key"] (db K 2 ic):=lL (N:=["self","key","what"]) (g:=j8) F (by ext:3) W W W (by delta j8;ext:10)
theorem xV(F:YN K "lift" "Hand.lift" (bj (top 11) 7) f X)(h:gy K "Hand" ["bed","acts","waiting","once","sent"])(e:b7 P w K Y base dX 3 "Hand" "is_waiting" ["self","key"] (db K 2 cA))(b:b7 P w K Y base dX 6 "Hand" "settle" ["self","key"] (db K 2 ic))(a:b7 P w K Y base dX 4 "Hand" "go" ["self","key"] (db K 2 ki)):FnOk P w K Y base dX 7 f X ["self","key"] (db K 2 jL):=lL (N:=["self","key"]) (g:=mi) F (by ext:3) W W W (by delta mi;ext:10)
theorem sB(F:YN K "wait_on" "Hand.wait_on" (bj (top 11) 9) f X)(b:gy K "Hand" ["bed","acts","waiting","once","sent"])(a:b7 P w K Y base dX 5 "Hand" "decide" ["self"] (db K 1 cr)):FnOk P w K Y base dX 6 f X ["self"] (db K 1 gJ):=lL (N:=["self","age"]) (g:=jw) F (by ext:3) W W W (by delta jw;ext:10)
theorem LO(F:YN K "step" "step" (top 10) f X)(j:gy K "Hand" ["bed","acts","waiting","once","sent"])(a:uL P w K Y base dX 3 "Hand" ["self","bed","standing"] (db K 3 eK))(e:b7 P w K Y base dX 6 "Hand" "wait_on" ["self"] (db K 1 gJ))(h:b7 P w K Y base dX 7 "Hand" "press" ["self","key"] (db K 2 iV))(b:b7 P w K Y base dX 7 "Hand" "lift" ["self","key"] (db K 2 jL))(i:b7 P w K Y base dX 3 "Hand" "stands" ["self"] (db K 1 bQ)):FnOk P w K Y base dX 8 f X ["bed","standing","event"] (db K 3 STP.iQ):=lL (N:=["bed","standing","event","hand"]) (g:=C3) F (by ext:3) W W W (by delta C3;ext:10)
theorem sA(F:YN K "enter" "Places.enter" (bj (top 19) 1) f X)(b:gy K "Places" ["most","found","numbers"]){h l a:M}{e:WY}{q:Obj}(m:L9.XC K h l a)(r:K.lookup a=R q)(u:Yu K (.ref a)=Vx)(p:FnOk P w K Y base dX 1 a e ["self","most"] (L9.xD h "most"))(t:Binds K e ["self","most"] [])(o:Wb K V3 "TooMany"=R (R (.ref h)))(n:Y "TooMany"=R (.ref h))(v:Y "len"=U):FnOk P w K Y base (L4.iW P w) 3 f X ["self","place","back","event"] (db K 4 bA):=Ez (N:=["self","place","back","event"]) (g:=dZ) F (by ext:3) W W W λC A i s H E nd z j y B=>zc (aK (mX (OT (Kb (ar au) (bB b (.tail _ (.tail _ (.head _))) aI))) (aK (mX (fW (gY JS (e9 g7 (ay (bB b (.tail _ (.head _)) aI) aZ)) (bB b (.head _) aI))) (CZ o (bB b (.head _) aI)) iu)
   (aK (Gr (bB b (.tail _ (.tail _ (.head _))) aI) (ar au) (e9 g7 (ay (bB b (.tail _ (.head _)) aI) aZ)))
   (ir (pE (bB b (.tail _ (.head _)) aI) (ar (oW (aU au (aU au (aU au bx))))))))) iu)
   (eW (G0 (bB b (.tail _ (.tail _ (.head _))) aI) (ar au)))) (aq (p9 (Jl (LD.ae9 j (pv 1) (b4 (pv 0) W)) (by with_unfolding_all rfl)) (aq (p9 (eB Py (ce d4 W v jF (am (b4 (pv 0) W) aA)) (b4 (pv 0) W) (fE _)) (aW (L9.Fx m r u p t (z.mono ()) W n (am (b4 (pv 0) W) aA))) jD)
   (aq (LD.afe j (b4 (pv 0) W) (pv 1) (ce d4 W v jF (am (b4 (pv 0) W) aA)) W)
   (aW (hV (tU Xg Xr Xs g8 (b4 (pv 0) W) (am (gF (am (pv 1) (am (pv 2) (am (pv 3) aA)))) aA)))))) jD)
   (aW (cV (LD.afq j (b4 (pv 0) W) (pv 1) (λ_ _=>W)))))
theorem oU(F:YN K "__init__" "Places.__init__" (bj (top 19) 0) f X)(a:gy K "Places" ["most","found","numbers"])(i:b7 P w K Y base (L4.iW P w) 3 "Places" "enter" ["self","place","back","event"] (db K 4 bA)):FnOk P w K Y base (L4.iW P w) 4 f X ["self","first","most"] (db K 3 bZ):=Ez (N:=["self","first","most"]) (g:=dC) F (by ext:3) W W W λm A b s H E nd h l e j=>zc (aK (i9 a (.head _) aI (ar au))
   (aK (i9 a (.tail _ (.head _)) aI (ar (jW bx)))
   (aK (i9 a (.tail _ (.tail _ (.head _))) aI wS)
   (ir (Cg a aI (ay (ar au) (ay (ar qZ) (ay (ar qZ) aZ)))))))) (aq (kR (pv 0) (pv 2) W)
   (aq (kR (pv 0) (jS aA) W)
   (aq (kR (pv 0) LD.adw W)
   (aW (hV (wD i L4.jj h (pv 0) (am (pv 1) (am mB (am mB aA)))))))))
theorem qY(F:YN K "way_to" "Places.way_to" (bj (top 19) 2) f X)(n:gy K "Places" ["most","found","numbers"])(e:Y "list"=U)(b:Y "reversed"=U):FnOk P w K Y base dX 3 f X ["self","number"] (db K 2 dj):=lL (N:=["self","number","row","place"]) (g:=iG) F (by ext:3) W W W λm A a s H E nd l j h i=>zc (aK (by ext:1)
   (aK (by ext:1)
   (aK (by ext:1)
   (eW (JB aI))))) (aq (by ext:2)
   (aq (by ext:2)
   (aq (by ext:2)
   (aW (cV (Bv W W e W b (pv 2)))))))
theorem NZ{z:M}{j:Array Vu}(F:aco K "same" "same" (top 21) f X z j)(b:gy K "Places" ["most","found","numbers"])(q:uL P w K Y base (L4.iW P w) 4 "Places" ["self","first","most"] (db K 3 bZ))(t:b7 P w K Y base dX 3 "Places" "way_to" ["self","number"] (db K 2 dj))(y:b7 P w K Y base (L4.iW P w) 3 "Places" "enter" ["self","place","back","event"] (db K 4 bA))(e:Ly P w K Y base 8 "step" ["bed","standing","event"] 3 STP.iQ)(r:ip P w K Y base 1 "events_of" ["bed"] 1 ef)(u:Y "len"=U){n:M}(o:Y "AT_REST"=R (.ref n))(m:∀O H,L3.DV O K H (.ref n) (.tuple [(.tuple []),.none,.none])):FnOk P w K Y base (L4.iW P w) 9 f X ["one","other","most"] (db K 3 gh):=C8 (N:=["one","other","most","events","pairs","number","standings","event","first","second"]) (g:=Bx) F (by ext:3) W W W λC A h s H E nd a l p B=>zc (aK (mX (mW (gI (bC ut (bC b5 au bc) (bC b5 au bc)))) v7 iu)
   (aK (cy (ii (ar (md (aU au bx)))) a9)
   (aK (cy (B6 b (ay (ar (oW (aU (vM m) (aU (vM m) bx)))) (ay (ar au) aZ))) a9)
   (aK (cy (ar bc) a9)
   (aK (nW (fW (gY B0 (ar au) (e9 g7 (ay (bB b (.tail _ (.head _)) aI) aZ)))) (aK (cy (gP (gP (bB b (.tail _ (.head _)) aI) (ar au)) (ar bc)) a9)
   (aK (Dq (kJ (iJ au)) a9 (aK (cy (ii (nI (ay (ar au) (ay (ar (bC b5 au bc)) (ay (ar au) aZ))))) a9)
   (aK (cy (ii (nI (ay (ar au) (ay (ar (bC b5 au bc)) (ay (ar au) aZ))))) a9)
   (aK (mX (mW (gI (bC ut (bC b5 au bc) (bC b5 au bc)))) (eW (jI (ay (ar kW) (ay (gY lB (sR b aI (ay (ar au) aZ)) (ar (jW (aU au bx)))) aZ)))) iu)
   (ir (Cg b aI (ay (ar (oW (aU (bC b5 au bc) (aU (bC b5 au bc) bx)))) (ay (ar au) (ay (ar au) aZ)))))))))
   (Nu F1 (ar bc)))))
   (eW (jI (ay (ar kW) (ay (fX W W (kO (bB b (.tail _ (.head _)) aI)) a9 eZ (ar (bC b5 au bc))) aZ))))))))) (aq (p9 (eB (ur l) (bW bv (pv 0) a8 (λ_ _=>W)) (bW bv (pv 1) a8 (λ_ _=>W)) (fE _)) (aW A0) jD)
   (aq (cC (i:=3) nd W (a6 W) (gD r a (am (pv 0) aA)))
   (aq (cC (i:=4) nd W (a6 W) (Dz q L4.jj a (am (gF (am (sO (v:=.ref _) W o W) (am (sO (v:=.ref _) W o W) aA))) (am (pv 2) aA))))
   (aq (cC (i:=5) nd W (a6 W) a8)
   (aq (pV aaa.leaving (eB Jo (pv 5) (ce d4 W u jF (am (b4 (pv 4) W) aA)) (fE _)) (aq (cC (i:=6) nd W (a6 W) (bW bv (bW bv (b4 (pv 4) W) (pv 5) (λ_ _=>W)) a8 (λ_ _=>W)))
   (aq (xm aaa.leaving W (eR (pv 3)) (bK (i:=7) nd W (a6 W)) (aq (cC (i:=8) nd W (a6 W) (gD e a (am (pv 0) (am (bW bv (pv 6) a8 (λ_ _=>W)) (am (pv 7) aA)))))
   (aq (cC (i:=9) nd W (a6 W) (gD e a (am (pv 1) (am (bW bv (pv 6) a8 (λ_ _=>W)) (am (pv 7) aA)))))
   (aq (p9 (eB (ur l) (bW bv (pv 8) a8 (λ_ _=>W)) (bW bv (pv 9) a8 (λ_ _=>W)) (fE _)) (aW (cV (gF (am k8 (am (ky lu (wD t zG a (pv 4) (am (pv 5) aA)) (jS (am (pv 7) aA))) aA))))) jD)
   (aW (hV (wD y L4.jj a (pv 4) (am (gF (am (bW bv (pv 8) a8 (λ_ _=>W)) (am (bW bv (pv 9) a8 (λ_ _=>W)) aA))) (am (pv 5) (am (pv 7) aA))))))))))
   (aW (QV (i:=5) nd W (a6 W) a8 MO)))))
   (aW (cV (gF (am k8 (am (dD ["pair"] [] W (eR (b4 (pv 4) W)) (λ_ _ _ _=>(bK (i:=0) (show WM (["pair"]:G Str) by left) W (a6 W))) (λ_ _ _ _=>cb) (λ_ _ _ _=>(bW bv (pv 0) a8 (λ_ _=>W))) trivial W) aA))))))))))
theorem F9(F:YN K "walked" "walked" (top 18) f X)(a:gy K "Places" ["most","found","numbers"])(p:uL P w K Y base (L4.iW P w) 4 "Places" ["self","first","most"] (db K 3 bZ))(u:b7 P w K Y base (L4.iW P w) 3 "Places" "enter" ["self","place","back","event"] (db K 4 bA))(j:Ly P w K Y base 8 "step" ["bed","standing","event"] 3 STP.iQ)(r:ip P w K Y base 1 "events_of" ["bed"] 1 ef)(l:Y "len"=U)(m:Y "tuple"=U)(h:Y "zip"=U){n:M}(t:Y "AT_REST"=R (.ref n))(q:∀O H,L3.DV O K H (.ref n) (.tuple [(.tuple []),.none,.none])):FnOk P w K Y base (L4.iW P w) 9 f X ["bed","most"] (db K 2 iw):=Ez (N:=["bed","most","events","places","steps","sends","room","standing","answers"]) (g:=tN) F (by ext:3) W W W λB A e s H E nd b z o y=>zc (aK (cy (ii (ar (md (aU au bx)))) a9)
   (aK (cy (B6 a (ay (ar (vM q)) (ay (ar au) aZ))) a9)
   (aK (cy (ar (jW bx)) a9)
   (aK (cy (ar (jW bx)) a9)
   (aK (nW (fW (gY B0 (e9 g7 (ay aI aZ)) (e9 g7 (ay (bB a (.tail _ (.head _)) aI) aZ)))) (aK (cy (e9 g7 (ay aI aZ)) a9)
   (aK (cy (gP (gP (bB a (.tail _ (.head _)) aI) (ar au)) (ar bc)) a9)
   (aK (cy (ii (fX W W (kJ (iJ au)) a9 eZ (nI (ay (ar au) (ay (ar au) (ay (ar au) aZ)))))) a9)
   (aK (ir (pE aI (e9 fA (ay (Gd W W (kJ (Io (aU au (aU au bx)))) (Dx (vo a9 (vo a9 Du))) eZ (Cg a aI (ay (ar (bC b5 au bc)) (ay (ar au) (ay (ar au) aZ))))) aZ))))
   (ir (pE aI (ar (kI fA (aU (gc W W (iJ au) cF fZ (kI fA (aU (bC b5 au bc) bx))) bx))))))))))
   (eW (jI (ay (bB a (.tail _ (.head _)) aI) (ay aI (ay aI aZ)))))))))) (aq (cC (i:=2) nd W (a6 W) (gD r b (am (pv 0) aA)))
   (aq (cC (i:=3) nd W (a7 W) (Dz p L4.jj b (am (sO (v:=.ref _) W t W) (am (pv 1) aA))))
   (aq (cC (i:=4) nd W (a6 W) (jS aA))
   (aq (cC (i:=5) nd W (a6 W) (jS aA))
   (aq (pV aaa.leaving (eB Jo (ce d4 W l jF (am (pv 4) aA)) (ce d4 W l jF (am (b4 (pv 3) W) aA)) (fE _)) (aq (cC (i:=6) nd W (a7 W) (ce d4 W l jF (am (pv 4) aA)))
   (aq (cC (i:=7) nd W (a7 W) (bW bv (bW bv (b4 (pv 3) W) (pv 6) (λ_ _=>W)) a8 (λ_ _=>W)))
   (aq (pW (i:=8) ["event"] [("bed",0),("standing",7)] nd W W W (eR (pv 2)) (λ_ _ _ _=>(bK (i:=0) (show WM (["event","bed","standing"]:G Str) by left) W (a6 W))) (λ_ _ _ _=>cb) (λ_ _ _ _=>(gD j b (am (pv 1) (am (pv 2) (am (pv 0) aA))))) ⟨⟨W,W,a6 W⟩,⟨⟨W,W,a6 W⟩,trivial⟩⟩ W)
   (aq (hV (tU Xg Xr Xs g8 (pv 4) (am (di b3 W m gA (am (IM ["event","answer"] [("places",3),("room",6)] ⟨W,W⟩ W W L4.Lz W (Jj W h (am (pv 2) (am (pv 8) aA))) (λ_ _ _ _=>(BP W (mq (bK (i:=0) (show WM (["event","answer","places","room"]:G Str) by left) W (a6 W)) (mq (bK (i:=1) (show WM (["event","answer","places","room"]:G Str) by left) W (a6 W)) xt)))) (λ_ _ _ _=>cb) (λ_ _ _ _=>(wD u L4.IG b (pv 2) (am (bW bv (pv 1) a8 (λ_ _=>W)) (am (pv 3) (am (pv 0) aA))))) ⟨⟨W,W,a6 W⟩,⟨⟨W,W,a6 W⟩,trivial⟩⟩ W) aA)) aA)))
   (aW (hV (tU Xg Xr Xs g8 (pv 5) (am (di b3 W m gA (am (dD ["answer"] [] W (eR (pv 8)) (λ_ _ _ _=>(bK (i:=0) (show WM (["answer"]:G Str) by left) W (a6 W))) (λ_ _ _ _=>cb) (λ_ _ _ _=>(di b3 W m gA (am (bW bv (pv 0) a8 (λ_ _=>W)) aA))) trivial W) aA)) aA)))))))))
   (aW (cV (gF (am (b4 (pv 3) W) (am (pv 4) (am (pv 5) aA)))))))))))
theorem G6{j:M}{b:Array B}(F:aco K "rooms" "rooms" (top 17) f X j b)(i:qA P w K Y base (L4.iW P w) 9 "walked" ["bed","most"] [] (db K 2 iw)):FnOk P w K Y base (L4.iW P w) 10 f X ["bed","most"] (db K 2 nX):=C8 (N:=["bed","most"]) (g:=xy) F (by ext:3) W W W λn A a s H E nd h m e l=>zc (eW (gP (wk (λ_ _=>.nil) (ay (ar au) (ay (ar au) aZ))) (ar bc))) (aW (cV (bW bv (nG i h L4.jj (am (pv 0) (am (pv 1) aA))) a8 (λ_ _=>W))))
theorem z9(F:YN K "numbered" "numbered" (top 25) f X)(h:Y "len"=U):FnOk P w K Y base dX 3 f X ["marks"] (db K 1 eE):=lL (N:=["marks","numbers"]) (g:=pf) F (by ext:3) W W W λm A a s H E nd l e b j=>zc (aK (cy wS a9)
   (eW (fX W W (kO aI) a9 eZ (KR aI (ar au) (Fy aI))))) (aq (cC (i:=1) nd W (a7 W) LD.adw)
   (aW (cV (dD ["mark"] [("numbers",1)] W (eR (pv 0)) (λ_ _ _ _=>(bK (i:=0) (show WM (["mark","numbers"]:G Str) by left) W (a6 W))) (λ_ _ _ _=>cb) (λ_ _ _ _=>(LD.aga e (pv 1) (pv 0) (ce LD.adO W h jF (am (pv 1) aA)) ⟨W,W,W,W⟩)) ⟨⟨W,W,a6 W⟩,trivial⟩ W))))
theorem oX(F:YN K "mark_of" "Sorting.mark_of" (bj (top 24) 1) f X)(h:gy K "Sorting" ["steps","sends","rounds"])(e:Y "tuple"=U):FnOk P w K Y base dX 3 f X ["self","room"] (db K 2 bH):=lL (N:=["self","room","alike"]) (g:=jQ) F (by ext:3) W W W λn A a s H E nd m l b j=>zc (aK (by ext:1)
   (eW (jI (ay (gP aI (ar au)) (ay (e9 fA (ay (fX W W (kO (gP (bB h (.head _) aI) (ar au))) a9 eZ (gP aI (ar au))) aZ)) aZ))))) (aq (by ext:2)
   (aW (cV (gF (am (bW bv (pv 2) (pv 1) (λ_ _=>W)) (am (di b3 W e gA (am (dD ["there"] [("alike",2)] W (eR (bW bv (b4 (pv 0) W) (pv 1) (λ_ _=>W))) (λ_ _ _ _=>(bK (i:=0) (show WM (["there","alike"]:G Str) by left) W (a6 W))) (λ_ _ _ _=>cb) (λ_ _ _ _=>(bW bv (pv 1) (pv 0) (λ_ _=>W))) ⟨⟨W,W,a6 W⟩,trivial⟩ W) aA)) aA))))))
theorem nZ(F:YN K "__init__" "Sorting.__init__" (bj (top 24) 0) f X)(a:gy K "Sorting" ["steps","sends","rounds"])(o:qA P w K Y base (L4.iW P w) 9 "walked" ["bed","most"] [] (db K 2 iw))(n:b7 P w K Y base dX 3 "Sorting" "mark_of" ["self","room"] (db K 2 bH))(e:Ly P w K Y base 3 "numbered" ["marks"] 1 eE)(b:Y "max"=U)(q:Y "range"=U)(p:Y "len"=U):FnOk P w K Y base (L4.iW P w) 10 f X ["self","bed","most"] (db K 3 c7):=Ez (N:=["self","bed","most","walk","finer"]) (g:=jv) F (by ext:3) W W W λt A j s H E nd h m l r=>zc (aK (cy (ii (wk (λ_ _=>.nil) (ay (ar au) (ay (ar au) aZ)))) a9)
   (aK (i9 a (.head _) aI (ar (bC b5 au bc)))
   (aK (i9 a (.tail _ (.head _)) aI (ar (bC b5 au bc)))
   (aK (i9 a (.tail _ (.tail _ (.head _))) aI (ar (jW bx)))
   (aK (cy (rD (ay (bB a (.tail _ (.head _)) aI) aZ)) a9)
   (nW (Cd (fW (gY rn (bB a (.tail _ (.tail _ (.head _))) aI) (ar (jW bx)))) (fW (gY Bu (e9 tj (ay aI aZ)) (e9 tj (ay (gP (bB a (.tail _ (.tail _ (.head _))) aI) (ar (K4 yz bc))) aZ))))) (aK (ir (pE (bB a (.tail _ (.tail _ (.head _))) aI) aI))
   (cy (rD (ay (fX W W (Ig (e9 g7 (ay (bB a (.head _) aI) aZ))) a9 eZ (sR a aI (ay (ar au) aZ))) aZ)) a9)))))))) (aq (cC (i:=3) nd W (a6 W) (nG o h L4.jj (am (pv 1) (am (pv 2) aA))))
   (aq (kR (pv 0) (bW bv (pv 3) a8 (λ_ _=>W)) W)
   (aq (kR (pv 0) (bW bv (pv 3) a8 (λ_ _=>W)) W)
   (aq (kR (pv 0) (jS aA) W)
   (aq (cC (i:=4) nd W (a6 W) (gD e h (am (b4 (pv 0) W) aA)))
   (aW (pV aaa.leaving (PW.pt (KI (eB (ra m) (b4 (pv 0) W) (jS aA) (fE _)) (BH (eB Hb (ce (nc W) W b zF (am (pv 4) aA)) (ce (nc W) W b zF (am (bW bv (b4 (pv 0) W) (J4 Cv a8) (λ_ _=>W)) aA)) (fE _))))) (aq (hV (tU Xg Xr Xs g8 (b4 (pv 0) W) (am (pv 4) aA)))
   (aW (cC (i:=4) nd W (a6 W) (gD e h (am (dD ["room"] [("self",0)] W (fL W q (am (ce d4 W p jF (am (b4 (pv 0) W) aA)) aA)) (λ_ _ _ _=>(bK (i:=0) (show WM (["room","self"]:G Str) by left) W (a6 W))) (λ_ _ _ _=>cb) (λ_ _ _ _=>(wD n zG h (pv 1) (am (pv 0) aA))) ⟨⟨W,W,a6 W⟩,trivial⟩ W) aA))))))))))))
theorem Cw{p:M}{e:Array B}(F:aco K "machine" "machine" (top 23) f X p e)(a:gy K "Sorting" ["steps","sends","rounds"])(h:uL P w K Y base (L4.iW P w) 10 "Sorting" ["self","bed","most"] (db K 3 c7))(o:Y "range"=U)(j:Y "max"=U)(l:Y "tuple"=U):FnOk P w K Y base (L4.iW P w) 12 f X ["bed","most"] (db K 2 cW):=C8 (N:=["bed","most","sorting","state_of","firsts","steps"]) (g:=wR) F (by ext:3) W W W λt A b s H E nd n r m q=>zc (aK (cy (B6 a (ay (ar au) (ay (ar au) aZ))) a9)
   (aK (cy (ii (gP (bB a (.tail _ (.tail _ (.head _))) aI) (ar (K4 yz bc)))) a9)
   (aK (cy (ii (ar (gc W W (jP (aU (bC lB (kI L10.tj (aU au bx)) bc) bx)) cF fZ (L10.RB au)))) a9)
   (aK (cy (e9 fA (ay (fX W W (kJ (iJ au)) a9 eZ (e9 fA (ay (fX W W (kO (gP (bB a (.head _) aI) (ar au))) a9 eZ (ar (bC b5 au au))) aZ))) aZ)) a9)
   (eW (jI (ay (ar au) (ay (e9 fA (ay (fX W W (kJ (iJ au)) a9 eZ (gP (bB a (.tail _ (.head _)) aI) (ar au))) aZ)) aZ)))))))) (aq (cC (i:=2) nd W (a7 W) (Dz h L4.jj n (am (pv 0) (am (pv 1) aA))))
   (aq (cC (i:=3) nd W (a7 W) (bW bv (b4 (pv 2) W) (J4 Cv a8) (λ_ _=>W)))
   (aq (pW (i:=4) ["state"] [("state_of",3)] nd W W W (fL W o (am (ky lu (ce (L10.nc W) W j zF (am (pv 3) aA)) a8) aA)) (λ_ _ _ _=>(bK (i:=0) (show WM (["state","state_of"]:G Str) by left) W (a6 W))) (λ_ _ _ _=>cb) (λ_ _ _ _=>(tU Xg acH PySem.F.type_list_index L10.Fz (pv 1) (am (pv 0) aA))) ⟨⟨W,W,a6 W⟩,trivial⟩ W)
   (aq (cC (i:=5) nd W (a6 W) (di b3 W l gA (am (dD ["first"] [("sorting",2),("state_of",3)] W (eR (pv 4)) (λ_ _ _ _=>(bK (i:=0) (show WM (["first","sorting","state_of"]:G Str) by left) W (a6 W))) (λ_ _ _ _=>cb) (λ_ _ _ _=>(di b3 W l gA (am (dD ["room"] [("state_of",2)] W (eR (bW bv (b4 (pv 1) W) (pv 0) (λ_ _=>W))) (λ_ _ _ _=>(bK (i:=0) (show WM (["room","state_of"]:G Str) by left) W (a6 W))) (λ_ _ _ _=>cb) (λ_ _ _ _=>(bW bv (pv 1) (pv 0) (λ_ _=>W))) ⟨⟨W,W,a6 W⟩,trivial⟩ W) aA))) ⟨⟨W,W,a6 W⟩,⟨⟨W,W,a6 W⟩,trivial⟩⟩ W) aA)))
   (aW (cV (gF (am (pv 5) (am (di b3 W l gA (am (dD ["first"] [("sorting",2)] W (eR (pv 4)) (λ_ _ _ _=>(bK (i:=0) (show WM (["first","sorting"]:G Str) by left) W (a6 W))) (λ_ _ _ _=>cb) (λ_ _ _ _=>(bW bv (b4 (pv 1) W) (pv 0) (λ_ _=>W))) ⟨⟨W,W,a6 W⟩,trivial⟩ W) aA)) aA)))))))))
theorem Sm(F:YN K "law" "law" (top 37) f X)(p:qA P w K Y base (L4.iW P w) 9 "same" ["one","other","most"] [] (db K 3 gh))(b:qA P w K Y base (L4.iW P w) 10 "rooms" ["bed","most"] [] (db K 2 nX))(n:Ly P w K Y base 13 "_law_asked" ["_law_one","_law_other","_law_way"] 3 bJ)(m:ip P w K Y base 2 "_law_keys" ["_law_script"] 1 jE)(o:ip P w K Y base 4 "_law_bed" ["_law_script","_law_at","_law_keys_here"] 3 gm)(r:ip P w K Y base 5 "_law_other_bed" ["_law_script","_law_bed_here"] 2 fK)(j:Y "len"=U):FnOk P w K Y base dX 14 f X ["_law_script"] (db K 1 F_law):=lL (N:=["_law_script","_law_one","_law_other","_law_first","_law_second","_law_found","_law_alone"]) (g:=Hk) F (by ext:3) W W W λt A a s H E nd h e l q=>zc (aK (by ext:1)
   (aK (by ext:1)
   (aK (by ext:1)
   (aK (by ext:1)
   (aK (by ext:1)
   (aK (mX (mW (gI (bC yf au qZ))) (aK (cy (ii (vx (λ_ _=>.nil) (ay (ar au) (ay (ar au) (ay (ar bc) aZ))))) a9)
   (mX (Cd (mW (gI (bC ut (bC b5 au bc) kW))) (fW (gY ut (ar (kI g7 (aU (bC b5 au bc) bx))) (e9 g7 (ay (vx (λ_ _=>.nil) (ay (ar au) (ay (ar bc) aZ))) aZ))))) (eW (ar Pm)) iu)) iu)
   (aK (by ext:1)
   (by ext:1)))))))) (aq (by ext:2)
   (aq (by ext:2)
   (aq (by ext:2)
   (aq (by ext:2)
   (aq (by ext:2)
   (aq (p9 (eB yT (pv 3) mB (fE _)) (aq (cC (i:=6) nd W (a6 W) (nG p h Hm (am (pv 1) (am (pv 1) (am a8 aA)))))
   (aW (p9 (PW.pt (KI (eB (ur e) (bW bv (pv 6) a8 (λ_ _=>W)) k8 (fE _)) (BH (eB (ur e) (ce d4 W j jF (am (bW bv (pv 6) a8 (λ_ _=>W)) aA)) (ce d4 W j jF (am (nG b h Hm (am (pv 1) (am a8 aA))) aA)) (fE _))))) (aW (cV OV)) jD))) jD)
   (aq (by ext:2)
   (aW (by ext:2)))))))))
end
end K53
namespace L2
open PySem PySem.Spec PyProof.Rows
section
variable{Z:St}{H:Hp}{Q:VK}{D:Ends}
theorem Mh{K:Vs}{e b:TE}{f:Str}(h:b Z H λy H1=>e Z H1 λx d=>∃a C c fs,x=.ref a/\d a=R (.ins C c fs)/\Cls K C/\ZS K C f/\fs.length<1000/\D.nx Z (bL d a (.ins C c (jR f y fs)))):RO K e b f D Z H:=h
theorem Sl{c:TT}{t u:TE}(h:c Z H λb H1=>if b=P then t Z H1 Q else u Z H1 Q):UO c t u Z H Q:=h
theorem P2{K:Vs}{b:TE}{f:Str}(h:b Z H λx H1=>∃a C c fs v,x=.ref a/\H1 a=R (.ins C c fs)/\Cls K C/\ZS K C f/\fs.lookup f=R v/\Q v H1):RK K b f Z H Q:=h
theorem Nl{C:M}{m:Str}{sp:Sp}{E:XK}{b:TE}{t:TA}(h:b Z H λx H1=>∃a d fs,x=.ref a/\H1 a=R (.ins C d fs)/\fs.lookup m=U/\t Z H1 λc e=>sp (x::(c++[])) e Q E):wy C m sp [] E b t Z H Q:=h
theorem Ni{C:M}{sp:Sp}{E:XK}{t:TA}(h:t Z H λb H1=>∀x a,H1 x=U->H1 a=U->a≠x->sp (.ref x::(b++[])) (bL (bL H1 a (.own x)) x (.ins C a [])) (λv c=>v=.XX/\Q (.ref x) c) E):A1 C sp [] E t Z H Q:=h
end
end L2
local macro_rules| `(tactic|ext:27)=> `(tactic|repeat (first
 |specialize L2.Si ?_
 |specialize L2.Sg ?_
 |specialize L2.Mh ?_
 |specialize L2.Sl ?_
 |specialize L2.P2 ?_
 |specialize L2.Nl ?_
 |specialize L2.Ni ?_
 |specialize L2.Oj ?_
 |((with_reducible show L2.vJ _ _ _ _);refine⟨_,rfl,?_⟩)
 |specialize L2.UC ?_
 |specialize L2.Tw ?_
 |specialize L2.anr ?_
 |specialize L2.amM ?_
 |specialize L2.aq4 ?_
 |((specialize L2.aqS ?_ ?_);first|exact⟨by decide,by decide⟩|exact⟨by decide,by decide,by decide⟩|exact(show(0:Int)<_ by decide)|exact⟨by decide,by left⟩)
 |((specialize L2.Th ?_ ?_);exact rfl)
 |((specialize L2.ang ?_ ?_);exact rfl)
 |specialize L2.alp ?_
 |specialize L2.Mc ?_
 |specialize L2.Rb ?_
 |specialize L2.ajL ?_
 |specialize L2.aiY ?_
 |specialize L2.ajY ?_
 |specialize L2.NG ?_
 |specialize L2.ars ?_
 |specialize L2.ST ?_
 |specialize L2.alX ?_
 |specialize L2.ana ?_
 |specialize L2.amh ?_
 |specialize L2.ajy ?_
 |specialize L2.alD ?_
 |specialize L2.aj7 ?_
 |specialize L2.ak5 ?_
 |specialize L2.ajK ?_
 |specialize L2.anP ?_
 |specialize L2.ajI ?_
 |specialize L2.ala ?_
 |specialize L2.alS ?_
 |specialize L2.ane ?_
 |specialize L2.anz ?_
 |specialize L2.ahU ?_
 |specialize L2.ajD ?_
 |specialize L2.akI ?_
 |specialize L2.ais ?_
 |specialize L2.aiE ?_
 |specialize L2.ajo ?_
 |specialize L2.akm ?_
 |specialize L2.al9 ?_
 |specialize L2.akk ?_
 |specialize L2.ajO ?_
 |specialize L2.aiC ?_
 |specialize L2.ajN ?_
 |specialize L2.ai0 ?_
 |specialize L2.aj1 ?_
 |specialize L2.akr ?_))
namespace K53
open PySem L2
section
open L3 L4
variable{P:V8}{w:Wv}{K:Vs}{mg:Str->bg Vu}{base:Heap}{f:VF}{Y:WY}
theorem om:Yk ["self","most"] ["self","most"] (aD (bj (top 3) 0)):=⟨W,W,W,by left,W,by left,by left⟩
def G1{C B fI:M}(F:YN K "__init__" "TooMany.__init__" (bj (top 3) 0) f Y)(o:L9.XC K C B fI)(l:mg "BedError"=R (.ref B))(g:ab0 K B (.type "type")=Vx)(m:ab1 K (.ref B) (.type "type") "__init__"=R (.val (.builtin "ValueError.__init__")))
  (b:YV K (.ref B) "__getattribute__"=R (R (.builtin "type.__getattribute__"))) (j:WH K (.ref C) "most"=R U):FnOk P w K mg base dX 1 f Y ["self","most"] (L9.xD C "most"):=by
 show F.ok om (λz H Q E h=>?_) (λu A a s H z Q E t h=>?_)
 .let(_,_,rfl,_):=h;rfl
 let(e,v,rfl,r,n,q):=h;show⟨_,(aq (hV (L9.Lb W l g m b o (am (pv 0) (am (L9.LN (L9.QI () (L9.Sa (pv 1) L9.PY)) ()) aA)))) (aW (L9.Mu o j (pv 0) (pv 1) W))),?_⟩;ext:27;show⟨V.ref e,W,v,W,r,λy=>⟨e,y,W,n,?_⟩⟩;show⟨v,W,V.ref e,W,e,W,n,λp j i=>q p j i⟩
end
end K53
namespace K53
open PySem L2
section
variable{P:V8}{w:Wv}{K:Vs}{mg:Str->bg Vu}{base:Heap}{f:VF}{fd:WY}
theorem fY:Yk ["_law_one","_law_other","_law_way","_law_found"] ["_law_one","_law_other","_law_way"] (aD (top 36)):=⟨W,W,W,by left,W,by left,by left⟩
def vO{C:VF}{m:bb Vu}(F:YN K "_law_asked" "_law_asked" (top 36) f fd)(D:L3.qA P w K mg base (L4.iW P w) 12 "machine" ["bed","most"] [] (L10.db K 2 cW))(ZZ:L3.qA P w K mg base (L4.iW P w) 9 "same" ["one","other","most"] [] (L10.db K 3 gh))
  (k:mg "TooMany"=lD (.ref C)) (V:L4.Aj K C m) (bR:m.contains (.type "BaseException")=Vx) (nR:Wb K V3 "TooMany"=lD (lD (.ref C))):
  FnOk P w K mg base dX 13 f fd ["_law_one","_law_other","_law_way"] (L10.db K 3 bJ):=by
 show F.ok fY (λvs H Q E h=>h.1) (λXf A R s H vs Q E S h=>?_);let hu:=S.units;let(hl,B,α,Z,xs,so,G,o):=h;let X:∀{E2:XK},L10.cY K E2 (lS (L10.db K 2 cW) [] E2 (iy (vJ 0) (iy (tC (.int 80)) n9))) (L10.HN cW 2 (L10.aj (L10.aw 0) (L10.aj (L10.af (L3.pC (.int 80))) L10.aH))):=L10.Ad (L10.ay L10.aI (L10.ay (L10.ar (L3.vM λ_ _=>.int _)) L10.aZ));let U:∀{E2:XK},L10.cY K E2 (lS (L10.db K 3 gh) [] E2 (iy (vJ 0) (iy (vJ 1) (iy (tC (.int 80)) n9)))) (L10.HN gh 3 (L10.aj (L10.aw 0) (L10.aj (L10.aw 1) (L10.aj (L10.af (L3.pC (.int 80))) L10.aH)))):=L10.Ad (L10.ay L10.aI (L10.ay L10.aI (L10.ay (L10.ar (L3.vM λ_ _=>.int _)) L10.aZ)));obtain⟨b,c,i,rfl⟩:∃b c i,xs=[.fz b,.fz c,.fz (.int i)]:=by
  unfold bJ at o;split at o
  .show⟨_,_,_,W⟩
  .show o.elim
 obtain⟨u,t,rfl,d0,d1⟩:∃u t,vs=[u,t,.int i]/\L3.DV (L10.ow B α Z) K H u b/\L3.DV (L10.ow B α Z) K H t c:=by
  cases G with
  |cons d0 r0=>cases r0 with
   |cons d1 r1=>cases r1 with
    |cons d2 r2=>ext r2;ext d2;show⟨_,_,W,d0,d1⟩
 let sl:L10.YJ (L10.ow B α Z) K H α [lD u,lD t,lD (.int i),lD .XX] [-(b),-(c),-(.int i),-(.none)]:=⟨W,λj x h=>by
  match j,h with
  |0,h=>ext h;show⟨u,W,d0⟩
  |1,h=>ext h;show⟨t,W,d1⟩
  |2,h=>ext h;show⟨.int i,W,.int _⟩
  |3,h=>ext h;show⟨.XX,W,.XX⟩
  |j+4,h=>ext h⟩
 let e0:bJ [.fz b,.fz c,.fz (.int i)] Z=Se (if i=0 then cW [.fz b,.fz (.int 80)] Z else gh [.fz b,.fz c,.fz (.int 80)] Z):=by ext bJ;dsimp only;split<;>rfl
 rw[e0]at o
 suffices key:∃E2:XK,(∀c dx g,E2 c dx g->c=Vu.ref C)/\L10.WS K E2 B H α Z (L10.PQ B K Q) (if i=0 then cW [.fz b,.fz (.int 80)] Z else gh [.fz b,.fz c,.fz (.int 80)] Z)/\∀c dx g,E2 c dx g->Q .XX g by
  let(E2,k1,J,k3):=key;show⟨_,(aq (cC (i:=3) fY.nd W (a6 W) mB)
   (aq (L4.Na (E2:=E2) W W W W k V bR
    (λl=>aW (p9 (eB Tz (pv 2) a8 (fE _)) (aW (cC (i:=3) fY.nd W (a6 W) (L3.nG D S (L4.uO W) (am (pv 0) (am a8 aA)))))
     (aW (cC (i:=3) fY.nd W (a6 W) (L3.nG ZZ S (L4.uO W) (am (pv 0) (am (pv 1) (am a8 aA))))))))
    (λl e=>aW (cC (i:=3) fY.nd W (a6 W) mB))
    (λc dx g h=>⟨C,m,k1 c dx g h,V,by rw[abF,d3,Y1]⟩))
   (aW (cV (pv 3))))),?_⟩
  ext:27;ext L4.ON;show⟨?_,λc dx g h2 q hs=>?_⟩
  .ext:27
   by_cases z:i=0
   .rw[av z]at J;rw[av (aE (by rw[z]))];show X B _ H α Z _ _ so sl (L10.WS.imp (show L10.WS K E2 B H α Z (L10.PQ B K Q) (L10.HN cW 2 (L10.aj (L10.aw 0) (L10.aj (L10.af (L3.pC (.int 80))) L10.aH)) [-(b),-(c),-(.int i),-(.none)] Z)from J) λx M Z1 g I p N v G=>⟨v,W,N v G⟩)
   .rw[ax z]at J;rw[ax (λy=>z (by let:=a4 y;injection this))];show U B _ H α Z _ _ so sl (L10.WS.imp (show L10.WS K E2 B H α Z (L10.PQ B K Q) (L10.HN gh 3 (L10.aj (L10.aw 0) (L10.aj (L10.aw 1) (L10.aj (L10.af (L3.pC (.int 80))) L10.aH))) [-(b),-(c),-(.int i),-(.none)] Z)from J) λx M Z1 g I p N v G=>⟨v,W,N v G⟩)
  .obtain⟨s0,p,s2,s3,rfl⟩:∃s0 p s2 s3,q=[s0,p,s2,s3]:=by
    match q,hs with
    |[a,c,d,e],_=>show⟨a,c,d,e,W⟩
   show⟨.XX,W,k3 c dx g h2⟩
 generalize (if i=0 then cW [.fz b,.fz (.int 80)] Z else gh [.fz b,.fz c,.fz (.int 80)] Z)=r at o;cases r with
 |bad=>show o.elim
 |er x L=>
  let o:L10.WS K E B H α Z (L10.PQ B K Q) (if x.cls=("TooMany":Str)then .ok (.fz .none) L else .bad):=o;by_cases T:x.cls=("TooMany":Str)
  .rw[av T]at o;show⟨λc dx g=>∃n,L10.XQ α Z H n L g/\L10.Ws B K g n L/\c=.ref C,λc dx g ⟨_,_,_,h⟩=>h,?_,λc dx g ⟨n,I,p,_⟩=>o n g I p .XX .XX⟩;rintro c dx n H' Y O ⟨⟨a',I,e2⟩,_⟩;rw[T]at e2;let e3:=nR.symm.trans e2;ext e3;show⟨n,Y,O,I⟩
  .rw[ax T]at o;show o.elim
 |ok x L=>show⟨λ_ _ _=>False,λ_ _ _ h=>h.elim,o,λ_ _ _ h=>h.elim⟩
end
end K53
theorem UZ{α:Type}:∀{l:G α},l.length=1->∃a,l=[a]
 |[a],_=>⟨a,W⟩
theorem UX{α:Type}:∀{l:G α},l.length=2->∃a b,l=[a,b]
 |[a,b],_=>⟨a,b,W⟩
theorem U8{α:Type}:∀{l:G α},l.length=3->∃a b c,l=[a,b,c]
 |[a,b,c],_=>⟨a,b,c,W⟩
theorem Vl{α:Type}:∀{l:G α},l.length=4->∃a b c d,l=[a,b,c,d]
 |[a,b,c,d],_=>⟨a,b,c,d,W⟩
local macro_rules| `(tactic|ext:16)=> `(tactic|(intro _ _ _ _ _ _ us hl;first|(obtain⟨_,h⟩:=UZ hl;subst h;rfl)|(obtain⟨_,_,h⟩:=UX hl;subst h;rfl)|(obtain⟨_,_,_,h⟩:=U8 hl;subst h;rfl)|(obtain⟨_,_,_,_,h⟩:=Vl hl;subst h;rfl)|(match us,hl with|[_,_,_,_,_],_=>rfl)|(match us,hl with|[],_=>rfl)))| `(tactic|ext:32)=> `(tactic|(intro _ _ _ _ _ _ us hl;first|((have h1:us.length=1:=by simpa using hl);obtain⟨_,h⟩:=UZ h1;subst h;exact⟨_,rfl,rfl⟩)|((have h1:us.length=2:=by simpa using hl);obtain⟨_,_,h⟩:=UX h1;subst h;exact⟨_,rfl,rfl⟩)|((have h1:us.length=3:=by simpa using hl);obtain⟨_,_,_,h⟩:=U8 h1;subst h;exact⟨_,rfl,rfl⟩)|((have h1:us.length=4:=by simpa using hl);(match us,h1 with|[_,_,_,_],_=>exact⟨_,rfl,rfl⟩))))| `(tactic|ext:31)=> `(tactic|first|exact List.forall_mem_nil _|(refine List.forall_mem_cons.mpr ⟨?_,?_⟩;(·(show WH _ _ _=_;k_is));ext:31))| `(tactic|ext:35)=> `(tactic|first|(refine' L3.NI.mk ?a' ⟨_,L2.JE ?b' ?c' ?d'⟩;(case a'=>k_is);(case b'=>k_is);(case c'=>k_is);(case d'=>k_is))|(refine' L3.MI.mk ?a' ?e' ⟨_,L2.JE ?b' ?c' ?d'⟩;(case a'=>k_is);(case e'=>k_is);(case b'=>k_is);(case c'=>k_is);(case d'=>k_is))|(refine' L3.CI.mk ?a' ?b' ?c' ?d' ?e' ?f' ?g' ?i';(case a'=>k_is);(case b'=>k_is);(case c'=>k_is);(case d'=>k_is);(case e'=>k_is);(case f'=>k_is);(case g'=>k_is);(case i'=>ext:31))|(refine' L3.DI.mk ?a' ⟨_,L3.Ot ?b' ?c' ?d' ?e'⟩;(case a'=>k_is);(case b'=>k_is);(case c'=>k_is);(case d'=>k_is);(case e'=>k_is))|k_is|k_exc|rfl|left|(rw[<-Array.all_toList];rfl))
namespace K53
open PySem L2 L3
def F_lawH:FN:=L10.S7 F_law
def all_mk{l:aeM}{w:Wv}{K:Vs}{h:Heap}{c:Str->bg Vu}{fa:VF}
  {ae5:Tok}
  {d:VF} {agf:Nat} {af3:Array (bg Vu)}
  {aex:Tok}
  {XW:VF} {aft:Nat} {afc:Array (bg Vu)}
  {B:VF} {ac3:Nat} {ac2:Array (bg Vu)}
  {YO:VF} {aec:Nat} {ad4:Array (bg Vu)}
  {agW:VF} {aez:Tok}
  {agg:VF} {adW:Tok}
  {aeu:VF} {acY:Tok}
  {f0 f1 f2 f3 f4 f5 f6 f7 f8 f9 f10 f11 f12 f13 f14 f15 f16 f17 f18 f19 f20 f21 b f23 f24 f25 f26 f27 f28 f29 f30 f31 f32 f33 f34 f35 f36 m f38 f39 f40 u f42 f43 t:VF}
  {p o:VF}
  {nmR qR:Str} {k:VF} {bsR:bb Vu} {D:bb Str} {alK:bb Vu} {abR:Bool} {alP:bg Bool} {ddR:bg VF} {k0R k1R k2R k3R k5R:bg Vu}
  {ocN:Vu} {odN:bg VF} {L:Array Zb} {nN:Nat} {F:Array (bg Vu)} (X:K.In h) (G:h.Ns V3 c) (hfa:c "law"=lD (.ref fa))
  (h0:NI K f0 "layer_of" (top 9))
  (h1:NI K f1 "looked_up" (top 12))
  (h2:NI K f2 "chords_over" (top 13))
  (h3:NI K f3 "chord_acts" (top 14))
  (h4:NI K f4 "_law_cell" (top 27))
  (h5:NI K f5 "_law_take" (top 28))
  (h6:NI K f6 "_law_letter" (top 29))
  (h7:NI K f7 "_law_meaning" (top 30))
  (h8:NI K f8 "_law_chords" (top 31))
  (h9:NI K f9 "_law_bed" (top 32))
  (h10:NI K f10 "_law_keys" (top 33))
  (h11:NI K f11 "_law_put" (top 34))
  (h12:NI K f12 "_law_other_bed" (top 35))
  (h13:NI K f13 "events_of" (top 16))
  (h14:NI K f14 "step" (top 10))
  (h15:DI K f15 agW "same" (top 21) #v[.int 400 aez])
  (h16:NI K f16 "walked" (top 18))
  (h17:DI K f17 agg "rooms" (top 17) #v[.int 400 adW])
  (h18:NI K f18 "numbered" (top 25))
  (h19:DI K f19 aeu "machine" (top 23) #v[.int 400 acY])
  (h20:NI K f20 "_law_asked" (top 36))
  (h21:NI K f21 "law" (top 37))
  (a:CI K b "Hand" ["bed","acts","waiting","once","sent"])
  (h23:MI K b f23 "__init__" "Hand.__init__" (bj (top 11) 0))
  (h24:MI K b f24 "stands" "Hand.stands" (bj (top 11) 1))
  (h25:MI K b f25 "is_waiting" "Hand.is_waiting" (bj (top 11) 2))
  (h26:MI K b f26 "has_act" "Hand.has_act" (bj (top 11) 13))
  (h27:MI K b f27 "come" "Hand.come" (bj (top 11) 11))
  (h28:MI K b f28 "go" "Hand.go" (bj (top 11) 12))
  (h29:MI K b f29 "decide" "Hand.decide" (bj (top 11) 10))
  (h30:MI K b f30 "makes_chord" "Hand.makes_chord" (bj (top 11) 4))
  (h31:MI K b f31 "put_to_chord" "Hand.put_to_chord" (bj (top 11) 5))
  (h32:MI K b f32 "begin" "Hand.begin" (bj (top 11) 6))
  (h33:MI K b f33 "press" "Hand.press" (bj (top 11) 3))
  (h34:MI K b f34 "settle" "Hand.settle" (bj (top 11) 8))
  (h35:MI K b f35 "lift" "Hand.lift" (bj (top 11) 7))
  (h36:MI K b f36 "wait_on" "Hand.wait_on" (bj (top 11) 9))
  (j:CI K m "Places" ["most","found","numbers"])
  (h38:MI K m f38 "enter" "Places.enter" (bj (top 19) 1))
  (h39:MI K m f39 "__init__" "Places.__init__" (bj (top 19) 0))
  (h40:MI K m f40 "way_to" "Places.way_to" (bj (top 19) 2))
  (r:CI K u "Sorting" ["steps","sends","rounds"])
  (h42:MI K u f42 "mark_of" "Sorting.mark_of" (bj (top 24) 1))
  (h43:MI K u f43 "__init__" "Sorting.__init__" (bj (top 24) 0))
  (y:Wb K V3 "TooMany"=lD (lD (.ref p)))
  (adm:Wb K V3 "BedError"=lD (lD (.ref o)))
  (xR:K.lookup p=lD (excClassObj nmR qR p k bsR (.ref o::[.type "ValueError",.type "Exception",.type "BaseException",.type "object"]) Vx D alK abR alP ddR k0R k1R k2R k3R k5R "ValueError.__new__"))
  (eI:aaX K o [.type "ValueError",.type "Exception",.type "BaseException",.type "object"] "ValueError.__new__"=Vx)
  (lN:K.lookup k=lD ⟨ocN,odN,.dict L nN,F⟩)
  (q:(L.all λe=>match e.key with|.str _ _=>Vx|_=>VO)=Vx)
  (inN:Wb K k "__init__"=lD (lD (.ref t)))
  (V:WH K (.ref p) "__setattr__"=lD (lD (.builtin "object.__setattr__")))
  (jY:WH K (.ref p) "most"=lD Vt)
  (rdB:ab0 K o (.type "type")=Vx)
  (fcB:ab1 K (.ref o) (.type "type") "__init__"=lD (.val (.builtin "ValueError.__init__")))
  (x:YV K (.ref o) "__getattribute__"=lD (lD (.builtin "type.__getattribute__")))
  (J:MI K p t "__init__" "TooMany.__init__" (bj (top 3) 0))
  (afY:Wb K V3 "NONE"=lD (lD (.ref d)))
  (ae4:Wb K V3 "CHORD"=lD (lD (.ref XW)))
  (aeb:Wb K V3 "AT_REST"=lD (lD (.ref YO)))
  (adP:K.lookup YO=lD ⟨.type "tuple",Vt,.seq #v[.ref B,.none,.none] aec,ad4⟩)
  (acX:K.lookup B=lD ⟨.type "tuple",Vt,.seq #v[] ac3,ac2⟩)
  (afk:K.lookup XW=lD ⟨.type "tuple",Vt,.seq #v[.str "chord" aex] aft,afc⟩)
  (af4:K.lookup d=lD ⟨.type "tuple",Vt,.seq #v[.str "none" ae5] agf,af3⟩)
  (y0:Wb K V3 "max"=lD Vt)
  (y1:Wb K V3 "all"=lD Vt)
  (y2:Wb K V3 "list"=lD Vt)
  (y3:Wb K V3 "sorted"=lD Vt)
  (y4:Wb K V3 "len"=lD Vt)
  (y5:Wb K V3 "range"=lD Vt)
  (y6:Wb K V3 "tuple"=lD Vt)
  (y7:Wb K V3 "dict"=lD Vt)
  (y8:Wb K V3 "zip"=lD Vt)
  (y9:Wb K V3 "reversed"=lD Vt):
  ∃fd:WY,(∀(s:VG) (v:Vu),aa3 s fd ⟨[v],[]⟩ [("_law_script",v)])/\∀base:Heap,K.In base->base.Ns V3 c->FnOk l.prog w K c base dX 14 fa fd ["_law_script"] (L3.rX K 1 F_lawH):=by
 let n:=W5 X G y0;let S:=W5 X G y1;let A:=W5 X G y2;let i:=W5 X G y3;let g:=W5 X G y4;let I:=W5 X G y5;let C:=W5 X G y6;let afu:=W5 X G y7;let M:=W5 X G y8;let aba:=W5 X G y9;let Q:=Nt (xs:=[.str "none"]) (ds:=[(.str "none")]) af4 (by show 1<=VT;decide) (.cons ⟨_,rfl⟩ .nil) λO H=>(.cons (.str _) .nil);let Zd:=Nt (xs:=[.str "chord"]) (ds:=[(.str "chord")]) afk (by show 1<=VT;decide) (.cons ⟨_,rfl⟩ .nil) λO H=>(.cons (.str _) .nil);let ads:=Nt (xs:=[]) (ds:=[]) acX (by show 0<=VT;decide) .nil λO H=>.nil;let Za:=Nt (xs:=[.ref B,.XX,.XX]) (ds:=[(.tuple []),.none,.none]) adP (by show 3<=VT;decide) (.cons rfl (.cons rfl (.cons rfl .nil))) λO H=>(.cons (ads O H) (.cons .XX (.cons .XX .nil)));let R:=XN X G afY;let Ze:=XN X G ae4;let Y7:=XN X G aeb;show h21.law X G hfa (by ext:16) λbase fd ahr=>?_;let W:Tp l.prog w K c base h:=⟨X,G⟩;let U:=h0.c W λ_ z=>Aq z n;let abU:=h1.c W λ_ z=>yO z;let XZ:=h2.c W λ_ z=>uN z S;let abw:=h3.c W λ_ z=>vZ z A i g R Q;let Yb:=h4.c W λ_ z=>yL z g;let E:=h5.c W λ_ z=>xa z I;let aa2:=h6.c W λ_ z=>vn z E;let ZA:=h7.c W λ_ z=>sE z E aa2 n;let aa1:=h8.c W λ_ z=>vG z E I C g S;let Y:=h9.c W λ_ z=>AI z Yb E ZA aa1 I C;let abT:=h10.c W λ_ z=>xZ z Yb E;let acq:=h11.c W λ_ z=>A7 z;let Z7:=h12.c W λ_ z=>pK z Yb E acq Y g;let YL:=h13.c W λ_ z=>xQ z I;let f:=a.cf;let Wy:=j.cf;let WU:=r.cf;let q:acf K k=Vx:=by ext acf;rw[lN];show q
 let XR:L4.Aj K p (.ref o::[.type "ValueError",.type "Exception",.type "BaseException",.type "object"]):=⟨_,_,_,_,_,_,_,_,_,_,_,_,_,_,_,_,xR⟩;let N:L9.XC K p o t:=⟨⟨_,_,_,_,_,_,_,_,_,_,_,_,_,_,xR,q,inN⟩,eI,V⟩;let Z:=XN X G y;let adM:=XN X G adm;let(fdI,zI):=J.F;let(_,_,_,_,_,_,_,_,_,rfl,abd,_):=zI.ex;let aa8:=J.i;let abh:=G1 (P:=l.prog) (w:=w) (mg:=c) (base:=base) zI N adM rdB fcB x jY;let abb:=zI.binds (ps:=["self","most"]) (by ext:16);let aen:=h23.k a W λ_ z=>rb z f afu;let X4:=h24.mt a W λ_ z=>vA z f C i;let Yd:=h25.mt a W λ_ z=>oV z f;let YG:=h26.mt a W λ_ z=>sG z f A;let Yv:=h27.mt a W λ_ z=>yV z f YG;let acp:=h28.mt a W λ_ z=>Cc z f YG;let Xm:=h29.mt a W λ_ z=>ul z f Yv abw M Ze Zd;let Zo:=h30.mt a W λ_ z=>nY z f X4 U XZ Ze Zd;let Zg:=h31.mt a W λ_ z=>mI z f Xm XZ g Ze Zd;let aaZ:=h32.mt a W λ_ z=>vX z f X4 Yv U abU XZ Ze Zd R Q;let aa0:=h33.mt a W λ_ z=>vN z f Yd Zo Zg Xm aaZ;let aaL:=h34.mt a W λ_ z=>uM z f Xm Yv Ze Zd;let abB:=h35.mt a W λ_ z=>xV z f Yd aaL acp;let aap:=h36.mt a W λ_ z=>sB z f Xm;let T:=h14.c W λ_ z=>LO z f aen aap aa0 abB X4;let Xe:=h38.mt j W λ_ z=>sA z Wy N abd aa8 abh abb y Z g;let Zu:=h39.k j W λ_ z=>oU z Wy Xe;let Y8:=h40.mt j W λ_ z=>qY z Wy A aba;let ZZ:L3.qA l.prog w K c base (L4.iW l.prog w) 9 "same" ["one","other","most"] [] (L10.db K 3 gh):=h15.c (ds:=[]) (dvs:=[]) W .nil λ_ z=>NZ z Wy Zu Y8 Xe T YL g Y7 Za;let Y9:=h16.d W λ_ z=>F9 z Wy Zu Xe T YL g C M Y7 Za;let abN:L3.qA l.prog w K c base (L4.iW l.prog w) 10 "rooms" ["bed","most"] [] (L10.db K 2 nX):=h17.c (ds:=[]) (dvs:=[]) W .nil λ_ z=>G6 z Y9;let aak:=h18.c W λ_ z=>z9 z g;let YI:=h42.mt r W λ_ z=>oX z WU C;let abe:=h43.k r W λ_ z=>nZ z WU Y9 YI aak n I g;let aaK:L3.qA l.prog w K c base (L4.iW l.prog w) 12 "machine" ["bed","most"] [] (L10.db K 2 cW):=h19.c (ds:=[]) (dvs:=[]) W .nil λ_ z=>Cw z WU abe I n C;let abC:=h20.c W λ_ z=>vO z aaK ZZ Z XR rfl y;show(Sm ahr ZZ abN abC abT Y Z7 g).imp (λ_ _ _ _ h=>L10.Rs h)
end K53
local macro_rules|`(universe $i*)=>do
 let t:=fun (c:Lean.Name)=>`(theorem $(Lean.mkIdent ((`PySem.W.Fast).str ("tw"++toString c.hash))):ident:True:=trivial)
 let b:=`PySem.Challenge.cw_chordbed_k53_whole_same_machines_holds
 let o←(List.range 517).mapM fun n=>t (b.str ("o_"++toString n))
 let l←i.mapM fun j=>t (b++j.getId)
 return Lean.mkNullNode (((o.toArray++l).push (←t `PySem.Challenge.pw_chordbed_k53_whole_same_machines)))
universe heap_517 heap_39 tree_516 view_39 tree_455 tree_403 tree_354 tree_233 sts_456 tree_314 sts_124 sts_355 sts_318 sts_404 tree_123 sts_93 tree_92 tree_70 sts_71 sts_49 heap_46 tree_47 env_41
open PySem PySem.W PyProof.Rows
set_option maxRecDepth 100000 in
set_option maxHeartbeats 0 in
theorem PySem.Challenge.cw_chordbed_k53_whole_same_machines_holds : PySem.Challenge.rw_chordbed_k53_whole_same_machines.Holds := by
 w_on;o_law;k_head;(case hw=>w_witness2)
 k_fill
 refine L3.S8 (l:=PySem.Challenge.rw_chordbed_k53_whole_same_machines) (n:=63) (k:=14) (x:= "_law_script") (F:=K53.F_lawH) rfl (by decide) rfl ⟨rfl,by decide,by decide⟩ (λw h Y=>PySem.W.kIn_of Y) ?F K53.main
 case F=>
  intro w e f h b G a
  apply K53.all_mk b G a
  all_goals ext:35
