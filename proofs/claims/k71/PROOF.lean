import PyProof.Rows.All
import Wide.All
import OpenK.AllK
import Wide.FinOn
import Lean
import PyProof.EqAt
import PyProof.EqKinds
import PyProof.TupleCall
import KE.KIntText
import KE.KRevSl
import PyProof.Rows.SeqMore
import PyProof.WalkInts
import PyProof.Rows.MinMaxN
import PyProof.ExcInit
import OpenK.KMake
import PyProof.InstStoreFacts
import PyProof.FString2
import PyProof.Rows.FStr
import PyProof.Rows.SetFrom
import PyProof.SeqRoads2
import PyProof.RangeFor
import PyProof.WalksMore
import PyProof.StrBlock2
import PyProof.Rows.SortShell
import PyProof.TupleOfSeq
import KE.KDictList
import KE.KDictOf
import PyProof.IsiH_tuple
import PyProof.Rows.RuleN_abs
import PyProof.Rows.Range3
import KE.KRevIter
import PyProof.StrLawsRepr
import PyProof.ReprStr
import PyProof.IsiH_list
import PyProof.Rows.TupDisplay
import PyProof.SetKind
import PyProof.SetScanFacts
import PyProof.CollectIter
import PyProof.Rows.SortStr
import PySem.Challenge.RW_chordbed_k71_typing_rooms
set_option compiler.extract_closed false
set_option genSizeOf false
set_option genInjectivity false
set_option Elab.async false
set_option linter.all false
set_option maxRecDepth 100000
abbrev ax:=@if_pos
abbrev a4:=@if_neg
abbrev a5:=@decide_eq_true
abbrev a6:=@decide_eq_false
abbrev a7:=@of_decide_eq_true
abbrev bb:=@absurd
abbrev bg:=@List
abbrev bt:=@Option
abbrev b3:=@PySem.Heap.get?_push_of_some
abbrev b4:=@PySem.Heap.lt_size
abbrev b5:=@PySem.Heap.get?_push_size
abbrev b7:=@PySem.Heap.get?_update_other
abbrev b9:=@PySem.Heap.get?_update_self
abbrev cc:=@PySem.Heap.size_push
abbrev ck:=@PySem.Heap.get?_none_of_le
abbrev cn:=@PySem.Obj.data_mapFields
abbrev cv:=@PySem.Obj.isFreed_of_fields
abbrev c9:=@Ne.symm
abbrev dw:=@congrArg
abbrev dN:=@beq_self_eq_true
open Lean in
def cvP:Nat→TSyntax `term→MacroM (TSyntax `rcasesPat)
 |0,_=>Macro.throwUnsupported
 |n+1,t=>let f:=fun (a:Array Term)=>do
   let l←(←a.mapM (cvP n)).mapM fun p=>`(Lean.Parser.Tactic.rcasesPatLo|$p:rcasesPat)
   `(rcasesPat|⟨$l,*⟩)
  match t with
  |`(⟨$a,*⟩)=>f a
  |`(($a,$b,*))=>f (#[a]++b.getElems)
  |`($i:ident)=>`(rcasesPat|$i:ident)
  |`(_)=>`(rcasesPat|_)
  |_=>Macro.throwUnsupported
local macro_rules|`(tactic|let $d:letDecl)=>`(tactic|have $d:letDecl)
local macro_rules|`(tactic|let $p:term:=$e)=>if p.raw.isIdent then Lean.Macro.throwUnsupported else do let q←cvP 99 p;`(tactic|obtain $q:rcasesPat:=$e)
local macro_rules|`(tactic|left)=>`(tactic|decide+kernel)|`(tactic|change $e)=>`(tactic|with_reducible exact $e)|`(tactic|specialize $e)=>`(tactic|with_reducible refine $e)
local macro_rules|`(def $i:declId $s:optDeclSig $v:declVal)=>if v.raw[1].isOfKind ``Lean.Parser.Term.byTactic then `(theorem $i:declId $(⟨Lean.mkNode ``Lean.Parser.Command.declSig #[s.raw[0],s.raw[1][0]]⟩):declSig $v:declVal) else `(noncomputable def $i:declId $s:optDeclSig $v:declVal)|`(abbrev $i:declId $s:optDeclSig $v:declVal)=>`(noncomputable abbrev $i:declId $s:optDeclSig $v:declVal)
local macro_rules|`(tactic|ext)=>`(tactic|decide)
local macro_rules|`(tactic|ext)=>`(tactic|omega)
local macro_rules|`(tactic|ext)=>`(tactic|lia)
local macro_rules|`(tactic|show $e)=>`(tactic|refine $e)
local macro_rules|`(tactic|ext $i:ident)=>`(tactic|cases $i:ident)
local macro_rules|`(tactic|ext $i:ident)=>`(tactic|unfold $i:ident)
local macro_rules|`(#[$a,*])=>`(⟨$a,*⟩)|`(#v[$a,*])=>`(List.toArray [$a,*])
local macro_rules|`(())=>`(by ext)
open Option renaming some->cL,none->Ld,bind_eq_some_iff->Yb,isSome_iff_exists->YI,isNone_iff_eq_none->ZD,map_eq_some_iff->ZU,isSome_map->aav,getD_some->abS,isSome_some->aeg,toList_none->aei,getD_none->aeL,map->ahp
open PySem renaming wpAny_bind->lD,Value->W2,wpAny_pure->W9,Addr->Xa,Shared->Xd,PyData->Xe,sizeLine->Xl,starEach->Xu,Program->Xx,mainGlobals->Xy,NameKind->Xz,Expr->XA,Around->XO,Builtin->XS,World->XU,wpAny_field->X9,bootBuiltins->Ya,wpAny_newObj_type->Yc,FuncData->Yj,wpAny_callSpecial?_slot->Yn,wpAny_holding->Ys,wpAny_call_entry->Yt,sysModules->Yv,wpAny_seqItems->YG,Stmt->YQ,compareOp->YR,sizeLine_eq->YU,mem_of_lookup->YV,wpAny_setField->YW,wpAny_loadPart_at->YY,wpAny_dictEntries->YZ,DictEntry->Y7,cellsFrom->Y8,Scope->Zc,wpAny_standAt->Zk,binaryOp->Zp,wpAny_typeNameOfWhole_keyiter->Zt,wpAny_Call_Name_kw->Zu,wpAny_setField_rec->Zv,wpAny_passesOwn->Zz,swapsWith->ZC,wpAny_truthy_bool->ZF,wpAny_letGo->ZO,codeAny_call_builtin->ZP,wpAny_isSubtype_exc->ZT,wpAny_pyIter_list->ZV,plainId_quiet->ZW,codeAny_builtin->ZX,wpAny_getItem_str_slice->Z2,ExcBaseFacts->aab,wpAny_isInstance->aai,Comprehension->aan,wpAny_execs_nil->aau,wpAny_dictEpoch->aaw,codeAny_mono->aay,wpAny_typeOf->aaA,wpAny_call->aaL,call_meets->aaM,Keyword->aaS,GenState->abd,BindsTo->abk,wpAny_rule->abl,post_val_or_str->abr,wpAny_pyIter_tuple->abw,wpAny_notOrdered_dict->abA,IsPart->abH,ReadsAll->abI,wpAny_of_eq->abJ,wpAny_updateSeq_pair->abK,wpAny_tryCatch->abL,wpAny_onRaise->aca,wpAny_attempt->acb,typeIs_int->ack,tupleKind_room_in1->acm,ZipApart->acy,call_meetsIn->acz,wpAny_Call_ofName->acA,eqIsQuiet_byValue->acB,plainObj_wpAny_Assign_Attribute->acI,PassesOwn->acO,Result->acP,Within->ac9,pushCells_keeps->ada,wpAny_updateSeq->ade,size_of_entries->adf,OsState->adz,Model->adI,Operator->adJ,Code->adK,typeIs_str->adL,Reads->adN,IsZip->adO,wpAny_binaryOp_repeat_ref->aeh,wpAny_comprehension_free->aet,Drawn->aeJ,CmpOp->aeK,wpAny_pyNext_list_item->aeX,JoinOk->ae1,wpAny_Assign_Subscript->ae2,wpAny_isTrue_Compare1->afw,wpAny_pyNext_list_end->afx,wpAny_pyIter_listiter->afy,builtinLookup_eq_fast->afE,wpAny_isOneOf_keyiter->afF,wpAny_loadName_local->afM,wpAny_mkInt->afQ,wpAny_loadName_cell->age,wpAny_raiseNew_none->agf,wpAny_Name->agA,wpAny_Constant_int->agB,wpAny_load->agD,wpAny_getItem_heap->agF,wpAny_setItem_heap->agG,wpAny_assign_Name->ahk,wpAny_sequenceKey->ahl,slot_list_getitem->ahm,wpAny_Call_method->ahn,OwnTail->aho,wpAny_pyHash_int->ahQ,wpAny_pyHash_str->ahR,wpAny_execs_cons->ahS,wpAny_lookBehind->ahU,pastItsLine_dict->ahV,noFill_tuple_add->ahX,call->ahZ,wpAny_pyIter_zip->ah0,beq_builtin_none->ah1,wpAny_forIn_list->ah2,wpAny_specialOf->aja,typeLookup_type->ajb,wpAny_Compare1->akc,wpAny_loadPart->ake,isSubtype_stop->akl,refuseLoop_ref->akm,HeapKind->akn,wpAny_fieldsOf->ako,rangeSize_one->amf,intBits_le_64->amg,seq_tuple_add->amh,evalPart_none->ami,call_list_seq->amj,wpAny_handled->amk,wpAny_in_heap->aml,strLen_append->amm,wpAny_newList->amn,ItemsOf->amo
open PySem.W renaming Frag->CL,nsIn->XJ,findIn->XW,emptyDict->YB,fnOf->YC,keepIn->YM,mg_of->YX,instObj->Y6,isFn->Zj,hasDictIn->Zq,kia_one->ZL,specialIn->ZR,cellsFrom_some->ZS,plainGet->ZZ,excIn->Z3,callWith_K->aag,codeIn->aah,methodCall_KW->aaO,lookIn->aaY,InstAt->aaZ,tailIn->aa2,plainGet_of->abe,methodObj->abu,plainOver->abv,takerIn->abX,makesIn->abY,readsIn->ab0,findCls->ab1,nsOkIn->acn,pyHash_slot->adA,tail_of_in->adQ,handedIn->aes,OpenLaw->aeN,typeIn->aeY,kitOne->ae0,notCls->ae3,mroIn->afz,clsIn->afC
open Bool renaming and_eq_true->W0,true->W3,false->W7,false_ne_true->Xs,or_eq_true->Yz,false_eq_true->YJ,and_self->Y1,not_eq_true'->Zw,true_or->aam,or_true->aaU,and_eq_true_iff->abh,false_or->abx,true_and->aby,not_true->abz,and_true->abB,eq_false_iff->abV,noConfusion->ace,false_and->acH,or_eq_false_iff->aej,eq_iff_iff->afO,bne_false->agg,or_false->agE
open List renaming length_map->W5,getElem?_eq_some_iff->W6,mem_cons_self->Xb,mem_cons_of_mem->Xf,getElem?_append_left->Xh,length_append->Xi,getElem?_map->Xj,replicate->Xk,length_cons->Xn,mem_singleton->Xo,getElem?_eq_getElem->Xp,range->Xq,size_toArray->Xr,map_cons->Xt,mem_map->Xv,mem_cons->Xw,getElem?_set_ne->XH,mem_of_getElem?->XI,mem_append_right->XM,map_map->XN,map_append->XQ,getElem?_append_right->XT,length_range->XY,find?_cons->XZ,append_assoc->X2,mem_append->X3,lookup_cons->X4,append_nil->X5,isEmpty_iff->X7,mem_iff_getElem?->Yd,length_take->Ye,length_set->Yf,mem_append_left->Yg,getElem?_set_self->Yh,all_eq_true->Yl,getElem?_set->Ym,replicate_succ->Yp,pairwise_singleton->Yu,length_replicate->Yx,nodup_cons->Yy,pairwise_cons->YA,drop_eq_nil_of_le->YD,drop_eq_getElem_cons->YF,not_mem_nil->YK,mem_flatMap->YL,mem_filter->YT,getElem?_concat_length->Y0,all_cons->Y2,length_nil->Y9,lookup->Za,flatten_cons->Zb,mem_range->Zf,getElem?_replicate->Zg,of_mem_zip->Zr,nodup_append->Zy,length_drop->ZG,filter_cons->ZH,mem_of_find?_eq_some->ZK,map_congr_left->ZM,mem_map_of_mem->ZN,take_add_one->ZY,length_singleton->Z4,length_filter_le->Z5,take_length->Z9,any_cons->aaa,forIn_cons->aae,map_nil->aal,mem_filterMap->aaq,contains_cons->aar,length->aaz,pairwise_map->aaC,getElem?_take_of_lt->aaG,filterMap_cons_none->aaJ,filterMap_cons_some->aaK,foldl->aaT,take_of_length_le->aaV,foldl_cons->aa0,contains_iff_mem->aa8,set_append_right->aa9,forIn_nil->abg,nodup_nil->abi,mem_of_mem_take->abj,filterMap_cons->abq,mem_replicate->abF,map_inj_right->abG,getElem?_inj->abU,any_eq_true->acf,nil_append->acv,drop_zero->acK,filterMap_eq_nil_iff->acS,pairwise_iff_getElem->acT,getElem?_cons_succ->adb,getElem?_cons_zero->adh,filter_cons_of_pos->adi,filter_cons_of_neg->adj,mem_singleton_self->adk,pairwise_lt_range->adC,mem_of_mem_drop->aek,pairwise_append->ael,getElem_range->aeO,set_cons_zero->aeP,set_cons_succ->aeQ,getElem_mem->afA,zipIdx_cons->afB,cons_append->afD,zipIdx_nil->afP,headD_cons->afR,filterMap->agi,map->agj,take_zero->agk,take_nil->agH,map_id->ah3,Nodup->aje,find?->ajf
open Nat renaming le_of_ble_eq_true->W8,le_refl->Xg,ne_of_lt->XB,lt_of_lt_of_le->XD,le_trans->XX,zero_le->X1,ne_of_gt->Yw,lt_irrefl->YN,add_sub_cancel_left->Zl,lt_succ_self->ZI,zero_add->ZJ,lt_trans->Z0,le_succ->aac,le_of_succ_le->aaH,lt_succ_of_lt->aaI,le_of_lt->aaX,add_assoc->abE,sub_self->ab2,min_le_right->acj,not_lt_zero->acF,mul_le_mul->acR,add_comm->adM,sub_zero->adP,lt_of_le_of_lt->aeZ,min_eq_left->agh,le_of_eq->ahW,succ_mul->ahY,max_le->akq
open Option.some renaming inj->Xm
open PyProof.Rows renaming envOfC->X0,slot_tuple_getitem->Yo,callWith_type1->Z1,callWith_builtin1->ai9,kws_cons->ajc,kws_nil->ajd
open Array renaming length_toList->Yi,getElem?_eq_some_iff->Yk,getElem?_toList->Zs,getElem?_setIfInBounds_self_of_lt->aa7,getElem?_setIfInBounds_ne->abT,find?_toList->aer,forIn_toList->aeu,all_toList->ae4,toList->agC
open Int renaming toNat_natCast->Yr,le_refl->abm,ofNat->aco,toNat->adB,toNat_of_nonneg->aeM,emod_lt_of_pos->ae5,emod_nonneg->agl
open PySem.F renaming excBase_ValueError->Zx,plainAttrs_dict->aaB,attrBase_ValueError->acd,slot_dict_getitem->acw,args_tuple_add_2->acx,slot_dict_values->acC,slot_list_append->acD,type_list_append->acE,entry_tuple_add->acJ,slot_tuple_add->acQ,slot_dict_pop->ac5,slot_dict_get->ac6,slot_dict_len->ac7,slot_dict_ne->adg
open PySem.SeqAt renaming eqv_refl->aaN,compareEq_reads->akf,compareNe_reads->akg,in_list_reads->akh,in_tuple_reads->aki,notIn_list_reads->akj,notIn_tuple_reads->akk
open List.Pairwise renaming nil->aa1,filterMap->ah4,filter->ah9
open List.Perm renaming refl->abZ,swap->aob
open PySem.Str renaming join->ab3
open Int.ofNat renaming inj->acp
open PySem.W.Looks renaming here->ahT
open PySem.StrLaws renaming sliced_plain->ah5,strSliceIndices_plain->ah6,joinFits->ah7,glued_eq_join->ah8
open PySem.Within renaming cons->ai8
open List.Nodup renaming sublist->amq
open PySem.IsL renaming update->aoa
open List.cons renaming injEq->aoc
abbrev W:=@rfl
abbrev G:=@List
abbrev I:=@Option
open Option renaming some->M,none->P
open Bool renaming true->S,false->R
open PySem renaming Addr->J,Value->U
namespace L2
open PySem PySem.Spec PyProof.Rows
abbrev ci:=Sum Int Str
def tt:ci->U->Bool
 |.inl k,v=>W2.isInt k v
 |.inr x,v=>W2.isStrOf x v
def Vn(w:XU):ci->Int
 |.inl k=>hashInt k
 |.inr x=>hashStr w x
theorem cF:∀{k:ci} {v:U},tt k v=S->(∃i t,k=Sum.inl i/\v=W2.int i t)\/(∃x t,k=Sum.inr x/\v=W2.str x t)
 |.inl i,v,h=>by let(t,e):=W2.isInt_shape h;show .inl #[i,t,W,e]
 |.inr x,v,h=>by let(t,e):=W2.isStrOf_shape h;show .inr #[x,t,W,e]
def CY(i:Int)(t:Tok):tt (.inl i) (.int i t)=S:=by simp[tt,W2.isInt]
def Dl(x:Str)(t:Tok):tt (.inr x) (.str x t)=S:=by simp[tt,W2.isStrOf]
def Px(a b:Int):decide ((Sum.inl a:ci)=Sum.inl b)=(a==b):=by
 by_cases e:a=b
 .subst e;simp
 .let h:¬(Sum.inl a:ci)=Sum.inl b:=λq=>e (Sum.inl.inj q);rw[a6 h];show(beq_eq_false_iff_ne.mpr e).symm
def OY(a b:Str):decide ((Sum.inr a:ci)=Sum.inr b)=decide (a=b):=by
 by_cases e:a=b
 .subst e;simp
 .let h:¬(Sum.inr a:ci)=Sum.inr b:=λq=>e (Sum.inr.inj q);rw[a6 h,a6 e]
theorem Q2(a:Int)(b:Str):decide ((Sum.inl a:ci)=Sum.inr b)=R:=a6 (λq=>nomatch q)
theorem QF(a:Str)(b:Int):decide ((Sum.inr a:ci)=Sum.inl b)=R:=a6 (λq=>nomatch q)
def cC(prog:Xx)(w:XU):PySem.KeyKind prog w ci where
 is:=tt
 hash:=Vn w
 inj:=λv a b m g=>by
  rcases cF m with⟨i,t,rfl,rfl⟩|⟨x,t,rfl,rfl⟩
  .rcases cF g with⟨j,u,rfl,e⟩|⟨y,u,rfl,e⟩
   .injection e with e1 _;rw[e1]
   .show nomatch e
  .rcases cF g with⟨j,u,rfl,e⟩|⟨y,u,rfl,e⟩
   .show nomatch e
   .injection e with e1 _;rw[e1]
 byValue:=λk v h=>by rcases cF h with⟨i,t,rfl,rfl⟩|⟨x,t,rfl,rfl⟩<;>rfl
 pyHash:=λf h=>by
  rcases cF f with⟨i,t,rfl,rfl⟩|⟨x,t,rfl,rfl⟩
  .show ahQ h
  .show ahR h
 eqBool:=λl f h=>by
  rcases cF l with⟨i,t,rfl,rfl⟩|⟨x,t,rfl,rfl⟩
  .rcases cF f with⟨j,u,rfl,rfl⟩|⟨y,u,rfl,rfl⟩
   .rw[Px]at h;show wpAny_eqBool_int h
   .rw[Q2]at h;show SeqAt.EqAt.int_str i t y u _ _ _ _ h
  .rcases cF f with⟨j,u,rfl,rfl⟩|⟨y,u,rfl,rfl⟩
   .rw[QF]at h;show SeqAt.EqAt.str_int x t j u _ _ _ _ h
   .rw[OY]at h;show wpAny_eqBool_str h
 «strs»:=λk x t v h=>by
  rcases cF h with⟨i,u,rfl,e⟩|⟨y,u,rfl,e⟩
  .show nomatch e
  .injection e with e1 _
   subst e1;ext v<;>rfl
theorem xb(prog:Xx)(w:XU)(i:Int)(t:Tok):(cC prog w).is (.inl i) (.int i t)=S:=CY i t
theorem wI(prog:Xx)(w:XU)(x:Str)(t:Tok):(cC prog w).is (.inr x) (.str x t)=S:=Dl x t
inductive V where
 |Zo|bl (b:Bool)|int (i:Int)|str (x:Str)|byt (b:Array UInt8)|flt (b:UInt64)|ref (a:J)|ty (n:String)
 deriving DecidableEq
def RelV:V->U->Prop
 |.Zo,u=>u=W2.none
 |.bl b,u=>u=W2.bool b
 |.int i,u=>∃t,u=W2.int i t
 |.str x,u=>∃t,u=W2.str x t
 |.byt b,u=>∃t,u=W2.bytes b t
 |.flt b,u=>∃t,u=W2.float b t
 |.ref a,u=>u=W2.ref a
 |.ty n,u=>u=W2.type n
abbrev Vals:G V->G U->Prop:=Paired RelV
theorem Vals.length(r:Vals xs us):xs.length=us.length:=Paired.length r
theorem Vals.get:∀{xs:G V} {us:G U} {i:Nat} {x:V},Vals xs us->xs[i]?=M x->∃u,us[i]?=M u/\RelV x u
 |_,_,_,_,.nil,e=>by simp at e
 |_,_,0,_,.cons r _,e=>by simp at e;subst e;show#[_,W,r]
 |_,_,i+1,x,.cons _ t,e=>by let(u,b,a):=Vals.get t (by simpa using e);show#[u,by simpa using b,a]
theorem Vals.append:∀{xs ys:G V} {us ws:G U},Vals xs us->Vals ys ws->Vals (xs++ys) (us++ws)
 |_,_,_,_,.nil,s=>s
 |_,_,_,_,.cons r t,s=>.cons r (Vals.append t s)
theorem Vals.take:∀{xs:G V} {us:G U} (n:Nat),Vals xs us->Vals (xs.take n) (us.take n)
 |_,_,0,_=>.nil
 |_,_,_+1,.nil=>.nil
 |_,_,n+1,.cons r t=>.cons r (Vals.take n t)
theorem Vals.drop:∀{xs:G V} {us:G U} (n:Nat),Vals xs us->Vals (xs.drop n) (us.drop n)
 |_,_,0,r=>r
 |_,_,_+1,.nil=>.nil
 |_,_,n+1,.cons _ t=>Vals.drop n t
def aad:I V->I U->Prop
 |some v,M u=>RelV v u
 |none,P=>True
 |_,_=>False
def KV:G (o×V)->G (o×U)->Prop:=Paired λ(p:o×V) (q:o×U)=>p.1=q.1/\RelV p.2 q.2
def kV:ci->V
 |.inl i=>.int i
 |.inr x=>.str x
inductive HO where
 |lst (xs:G V)
 |tup (xs:G V)
 |dK (XF:G (ci×V))|dT (XF:G (G ci×V))
 |set (S:Int->Bool) (n:Nat)
 |ins (C dx:J) (fs:G (Str×V))
 |own (x:J)
 |xd (fs:G (Str×V))
 |met (f x:J)
 |rng (lo hi:Int)
 |frz (o:Obj) (u:HO)
 |tbl (ps:Array U)
 |ext (φ:Heap->Prop)
 |exw (φ:XU->Heap->Prop)
abbrev Hp:=J->I HO
def aR(H:Hp)(a:J)(o:HO):Hp:=λb=>if b=a then M o else H b
def ay:aR H a o a=M o:=by ext aR;rw[ax W]
def ar(h:b≠a):aR H a o b=H b:=by ext aR;rw[a4 h]
def Sk{H:Hp}{a b:J}{o u:HO}(h:H a=M o)(c:H b=M u)(d:o≠u):a≠b:=by intro e;subst e;rw[h]at c;show d (Xm c)
def bH{H:Hp}(h:H a=M o)(c:H b=P):a≠b:=by intro e;subst e;rw[h]at c;ext c
def ab5(h:Heap)(a:J)(b:Array U):Prop:=∃o,h.get? a=M o/\(o.cls=.type "tuple"/\∃n,o.data=.seq b n)/\o.dict=P
theorem ab5.tup(x:ab5 h a items):IsTup h a items:=let#[o,e,c,_]:=x;#[o,e,c]
theorem ab5.lt(x:ab5 h a items):a<h.objs.size:=let#[_,e,_]:=x;b4 e
theorem ab5.new(h:Heap)(xs:Array U):ab5 (h.push {cls:=.type "tuple",data:=.seq xs}) h.objs.size xs:=#[_,b5 _ W,#[W,_,W],W]
section
variable(P:Xx)(w:XU)
def ObjOk(H:Hp)(h:Heap)(a:J):HO->Prop
 |.lst xs=>xs.length<=Xl/\∃(b:G U) (n:Nat),Vals xs b/\h.get? a=M {cls:=.type "list",data:=.seq b.toArray n}
 |.tup xs=>xs.length<=Xl/\∃b:G U,Vals xs b/\ab5 h a b.toArray
 |.dK l=>l.length<=Xl/\(a==Yv)=R/\∃r,KV l r/\h.DictOf (cC P w) a r
 |.dT l=>l.length<=Xl/\(a==Yv)=R/\∃xs:G (G ci×J×U),
   Paired (λ(p:G ci×V) (q:G ci×J×U)=>p.1=q.1/\H q.2.1=M (.tup (p.1.map kV))/\RelV p.2 q.2.2) l xs/\
   ∃o es B,h.get? a=M o/\o.ExactDict/\o.data=.dict es B/\es.toList=xs.map (entryOfKey (tupleKind (cC P w)))/\(xs.map (·.1)).Nodup
 |.set e n=>h.SetOf (intKind P w) a e n
 |.ins C m fs=>H m=M (.own a)/\fs.length<=1000/\m≠a/\h.get? a=M (Y6 C m)/\
   ∃i,h.Ns1 m i/\(∀f,aad (fs.lookup f) (i f))/\ac9 i (fs.map (·.1))
 |.own _=>∃o,h.get? a=M o
 |.xd fs=>∃i,h.Ns1 a i/\∀f,aad (fs.lookup f) (i f)
 |.rng lo A=>∃t u v,h.get? a=M {cls:=.type "range",data:=.fields #v[.int lo t,.int A u,.int 1 v]}
 |.frz o u=>h.get? a=M o/\ObjOk H h a u
 |.tbl y=>h.get? a=M {cls:=.none,data:=.fields y}
 |.met f x=>h.get? a=M (abu (.ref f) (.ref x))
 |.ext g=>g h/\(∃o,h.get? a=M o)/\∀h1 j:Heap,g h1->(∀o,h1.get? a=M o->j.get? a=M o)->g j
 |.exw g=>g w h/\(∃o,h.get? a=M o)/\∀h1 j:Heap,g w h1->(∀o,h1.get? a=M o->j.get? a=M o)->g w j
def HOk(H:Hp)(h:Heap):Prop:=∀a o,H a=M o->ObjOk P w H h a o
end
section
variable{P:Xx}{w:XU}{H Z:Hp}{h h':Heap}{a:Xa}{o:HO}
def ObjOk.lt(x:ObjOk P w H h a o):a<h.objs.size:=by
 cases o with
 |lst xs=>let(_,_,_,_,e):=x;show b4 e
 |tup xs=>let(_,_,_,p):=x;show p.lt
 |dK i=>let(_,_,_,_,o,_,_,e,_):=x;show b4 e
 |dT i=>let(_,_,_,_,o,_,_,e,_):=x;show b4 e
 |set S n=>let(o,_,_,_,e,_):=x;show b4 e
 |ins C m fs=>let(_,_,_,e,_):=x;show b4 e
 |own y=>let(_,e):=x;show b4 e
 |xd fs=>let(_,(_,_,_,e,_),_):=x;show b4 e
 |rng lo l=>let(_,_,_,e):=x;show b4 e
 |frz b u=>let(e,_):=x;show b4 e
 |tbl j=>show b4 (show h.get? a=M _ from x)
 |met f y=>show b4 (show h.get? a=M _ from x)
 |ext g=>let(_,(_,e),_):=x;show b4 e
 |exw g=>let(_,(_,e),_):=x;show b4 e
theorem Paired.Z8:∀{d:bg α} {c:bg β},Paired F d c->(∀a b,F a b->e a b)->Paired e d c
 |_,_,.nil,_=>.nil
 |_,_,.cons r t,f=>.cons (f _ _ r) (Paired.Z8 t f)
def ObjOk.aaQ(x:ObjOk P w H h a o)(k:∀b u,(b=a\/H b=M (.own a))->h.get? b=M u->h'.get? b=M u)
  (F:∀b,H b=M (.own a)->Z b=M (.own a)) (E:∀b xs,H b=M (.tup xs)->Z b=M (.tup xs)):ObjOk P w Z h' a o:=by
 induction o with
 |lst xs=>let(z,A,n,r,e):=x;show#[z,A,n,r,k _ _ (.inl W) e]
 |tup xs=>let(z,A,r,g,e,c):=x;show#[z,A,r,g,k _ _ (.inl W) e,c]
 |dK O=>let(z,y,N,r,g,es,i,e,c):=x;show#[z,y,N,r,g,es,i,k _ _ (.inl W) e,c]
 |dT O=>let(z,y,xs,r,g,es,i,e,c):=x;show#[z,y,xs,Paired.Z8 r λp q z=>#[z.1,E _ _ z.2.1,z.2.2],g,es,i,k _ _ (.inl W) e,c]
 |set S n=>let(g,es,i,t,e,c):=x;show#[g,es,i,t,k _ _ (.inl W) e,c]
 |ins C T fs=>let(d,z,ne,e,m,(l,es,i,e2,c),r):=x;show#[F _ d,z,ne,k _ _ (.inl W) e,m,#[l,es,i,k _ _ (.inr d) e2,c],r]
 |own y=>let(g,e):=x;show#[g,k _ _ (.inl W) e]
 |xd fs=>let(m,(l,es,i,e,c),r):=x;show#[m,#[l,es,i,k _ _ (.inl W) e,c],r]
 |rng lo Q=>let(t,u,v,e):=x;show#[t,u,v,k _ _ (.inl W) e]
 |frz g u B=>let(e,q):=x;show#[k _ _ (.inl W) e,B q]
 |tbl K=>let e:h.get? a=M {cls:=.none,data:=.fields K}:=x;show h'.get? a=M {cls:=.none,data:=.fields K};show k a _ (.inl W) e
 |met f y=>let e:h.get? a=M (abu (.ref f) (.ref y)):=x;show h'.get? a=M (abu (.ref f) (.ref y));show k a _ (.inl W) e
 |ext L=>let(p,(o,e),j):=x;show#[j _ _ p λo q=>k _ _ (.inl W) q,#[o,k _ _ (.inl W) e],j]
 |exw L=>let(p,(o,e),j):=x;show#[j _ _ p λo q=>k _ _ (.inl W) q,#[o,k _ _ (.inl W) e],j]
theorem HOk.lt(x:HOk P w H h)(e:H a=M o):a<h.objs.size:=(x a o e).lt
def HOk.fresh(x:HOk P w H h)(e:h.objs.size<=a):H a=Ld:=by
 cases q:H a with
 |none=>rfl
 |some u=>show bb (XD (x.lt q) e) (YN _)
theorem HOk.kept(x:HOk P w H h)(k:∀b u,h.get? b=M u->h'.get? b=M u):HOk P w H h':=λa o e=>
 (x a o e).aaQ (λb u _ q=>k b u q) (λ_ q=>q) λ_ _ q=>q
theorem HOk.laid(x:HOk P w H h)(k:∀b u,h.get? b=M u->h'.get? b=M u)(g:h.objs.size<=a)(new:ObjOk P w (aR H a o) h' a o):HOk P w (aR H a o) h':=λb u e=>by
 let i:=x.fresh g;by_cases f:b=a
 .subst f;rw[ay]at e;ext e;show new
 .rw[ar f]at e;show(x b u e).aaQ (λc v _ q=>k c v q) (λc q=>by rw[ar (bH q i)];show q) λc xs q=>by rw[ar (bH q i)];show q
end
def Rd(H:Hp)(a:J)(u:HO):Prop:=H a=M u\/∃o,H a=M (.frz o u)
def Rd.ok(r:Rd H a u)(x:HOk b w H h):ObjOk b w H h a u:=by
 rcases r with r|⟨o,r⟩
 .show x a u r
 .let(_,q):=x a _ r;show q
def Sb:I HO->Prop
 |some (.lst _)=>True
 |some (.dK _)=>True
 |some (.dT _)=>True
 |some (.set _ _)=>True
 |some (.ins _ _ _)=>True
 |some (.ext _)=>True
 |some (.exw _)=>True
 |_=>False
section
variable{P:Xx}{w:XU}{H:Hp}{h h':Heap}{x e:Xa}{Z:HO}
theorem HOk.write(ok:HOk P w H h)(g:Sb (H x))(o:e=x\/H e=M (.own x))(k:∀b u,b≠e->h.get? b=M u->h'.get? b=M u)(l:∃u,h'.get? e=M u)
  (new:ObjOk P w (aR H x Z) h' x Z):HOk P w (aR H x Z) h':=λb u q=>by
 let f:∀c y,H c=M (.own y)->c≠x:=λc y r z=>by subst z;rw[r]at g;show g
 let m:∀c xs,H c=M (.tup xs)->c≠x:=λc xs r z=>by subst z;rw[r]at g;show g
 by_cases j:b=x
 .subst j;rw[ay]at q;ext q;show new
 .rw[ar j]at q
  by_cases a:b=e
  .let n:H b=M (.own x):=by
    rcases o with z|z
    .show bb (a.trans z) j
    .rw[a];show z
   rw[q]at n;ext n;let(v,p):=l;show#[v,by rw[a];show p]
  .show(ok b u q).aaQ (λc v i r=>k c v ?_ r) (λc r=>by rw[ar (f c b r)];show r) λc xs r=>by rw[ar (m c xs r)];show r
   rcases i with rfl|i
   .show a
   .rintro rfl
    rcases o with z|z
    .show f c b i z
    .rw[i]at z;ext z;show j W
end
structure Un(fs ex:G J)(H H':Hp)(h h':Heap):Prop where
 keep:∀b o,h.get? b=M o->H b=P->b∉fs->b∉ex->h'.get? b=M o
 slot:∀b o,h.get? b=M o->H b=P->b∈fs->b∉ex->∃sl,h'.get? b=M {o with slots:=sl}
 free:∀b o,h.get? b=M o->H b=P->b∉ex->H' b=P
 there:∀b o,h.get? b=M o->b∉ex->∃o',h'.get? b=M o'
 ab4:∀b xs,H b=M (.tup xs)->H' b=M (.tup xs)
 abQ:∀b o u,H b=M (.frz o u)->H' b=M (.frz o u)
 ab6:∀b ps,H b=M (.tbl ps)->∃more,H' b=M (.tbl (ps++more))
section
variable{fs X Z T:bg Xa}{H Q O:Hp}{h Y N h':Heap}{a x e:Xa}{o:HO}
def Un.any(u:Un fs Z H Q h Y)(q:h.get? b=M ob)(n:H b=P)(f:b∉Z):∃c,Y.get? b=M {ob with slots:=c}:=by
 by_cases g:b∈fs
 .show u.slot b ob q n g f
 .show#[ob.slots,u.keep b ob q n g f]
theorem Un.kept(k:∀b u,h.get? b=M u->h'.get? b=M u):Un fs Z H H h h':=
 #[λb f q _ _ _=>k b f q,λb f q _ _ _=>#[f.slots,k b f q],λ_ _ _ n _=>n,λb f q _=>#[f,k b f q],λ_ _ q=>q,λ_ _ _ q=>q,λ_ g q=>#[#v[],by rw[q];simp]]
theorem Un.refl:Un fs Z H H h h:=Un.kept λ_ _ q=>q
theorem Un.laid(k:∀b u,h.get? b=M u->h'.get? b=M u)(f:h.objs.size<=a)(c:H a=P):Un fs Z H (aR H a o) h h' where
 keep:=λb u q _ _ _=>k b u q
 slot:=λb u q _ _ _=>#[u.slots,k b u q]
 free:=λb u q n _=>by rw[ar (XB (XD (b4 q) f))];show n
 there:=λb u q _=>#[u,k b u q]
 ab4:=λb xs q=>by rw[ar (bH q c)];show q
 abQ:=λb u xs q=>by rw[ar (bH q c)];show q
 ab6:=λb g q=>#[#v[],by rw[ar (bH q c),q];simp]
def Un.write(g:Sb (H x))(p:e=x\/H e=M (.own x))(k:∀b u,b≠e->h.get? b=M u->h'.get? b=M u)(i:∃u,h'.get? e=M u):Un fs Z H (aR H x o) h h':=by
 let j:∀b,H b=P->b≠x:=λb n z=>by subst z;rw[n]at g;show g
 let l:∀b,H b=P->b≠e:=λb n z=>by
  subst z;rcases p with r|r
  .show j b n r
  .rw[n]at r;ext r
 let hm:∀b u,H b=M u->¬Sb (M u)->b≠x:=λb u q m z=>by subst z;rw[q]at g;show m g
 show#[λb u q n _ _=>k b u (l b n) q,λb u q n _ _=>#[u.slots,k b u (l b n) q],λb u q n _=>by rw[ar (j b n)];show n,λb u q _=>?_,
  λb xs q=>by rw[ar (hm b _ q λz=>z)];show q,λb u xs q=>by rw[ar (hm b _ q λz=>z)];show q,λb t q=>#[#v[],by rw[ar (hm b _ q λz=>z),q];simp]]
 by_cases f:b=e
 .subst f;show i
 .show#[u,k b u f q]
end
def UJ(h:Heap)(H:Hp):G J:=(Xq h.objs.size).filter λa=>(H a).isSome
def v5(h:Heap)(H:Hp):Heap:=PySem.W.hideAll h (UJ h H)
theorem Cw(h:Heap)(H:Hp):(v5 h H).objs.size=h.objs.size:=PySem.W.hideAll_size _ _
theorem DS(e:h.get? b=M o)(n:H b=P):(v5 h H).get? b=M o:=
 PySem.W.hideAll_get _ e λhm=>by let q:=(YT.mp hm).2;rw[n]at q;simp at q
def Me(e:(v5 h H).get? b=M o):h.get? b=M o/\H b=P:=by
 let a:=PySem.W.of_hideAll (UJ h H) e;show#[a,?_];cases q:H b with
 |none=>rfl
 |some x=>let hm:b∈UJ h H:=YT.mpr #[Zf.mpr (b4 a),by simp[q]];let z:(v5 h H).get? b=P:=PySem.W.hideAll_none (UJ h H) hm;rw[z]at e;ext e
structure Mod(K:CL)(mg:Str->I U)(base:Heap):Prop where
 kin:K.In base
 glob:base.Ns Xy mg
 blt:∃mb,base.Ns builtinsNs mb/\∀x:Str,x≠ "__name__"->mb x=Ya x
 nolimit:base.NoLimit
structure Cx where
 prog:Xx
 w:XU
 K:CL
 mg:Str->I U
 base:Heap
 A:XO
 N:G Str
 s₀:Xd
 H₀:Hp
 env:Env
 outer:G Env
 stack:G Env
 ex:G J
 fn:Str->Bool
 calm:Bool
 pn:G (J×Obj)
 xe:U->Xd->Prop
def wN(l:G Env):G J:=l.filterMap (·.frame)
abbrev Cx.fs(X:Cx):G J:=wN X.outer
def Ua(sc:Zc)(x:Str):Prop:=sc.names.lookup x=M .local\/sc.names.lookup x=M .cell\/sc.names.lookup x=M .free
def Qx(sc:Zc)(x:Str):Prop:=sc.names.lookup x=M .local\/sc.names.lookup x=M .cell
def U9(env:Env)(h:Heap)(m:Str->I U)(x:Str)(u:U):Prop:=
 (env.kindOf x=M .local/\m x=M u)\/((env.kindOf x=M .cell\/env.kindOf x=M .free)/\∃c,env.cells.lookup x=M c/\h.IsCell c (M u))
structure Cx.Ok(X:Cx):Prop where
 mod:Mod X.K X.mg X.base
 kind:X.env.scope.kind=.function
 glob:X.env.globals=Xy
 blt:X.env.builtins=builtinsNs
 above:X.s₀.heap.objs.size<=X.env.locals
 inj:∀x y c,X.env.cells.lookup x=M c->X.env.cells.lookup y=M c->x=y
 has:∀x,(X.env.kindOf x=M .cell\/X.env.kindOf x=M .free)->∃c,X.env.cells.lookup x=M c
 cab:∀x c,X.fn x=S->X.env.cells.lookup x=M c->X.s₀.heap.objs.size<=c
 hd:X.calm=S->X.A.handled=P
 frames:X.A.frames=M X.stack
 stk:X.stack=X.outer\/(X.stack=X.env::X.outer/\X.env.frame=M X.env.locals)
 exf:∀b∈X.ex,b≠X.env.locals/\∀x c,X.env.cells.lookup x=M c->c≠b
 bs:∀b o,X.base.get? b=M o->X.s₀.heap.get? b=M o/\X.H₀ b=P
 bsz:X.base.objs.size<=X.s₀.heap.objs.size
 adt:∀b o,X.base.get? b=M o->b∉X.ex
 adm:∀b∈X.ex,b∉X.fs
 abo:X.s₀.heap.FunFrames X.base X.outer
 frf:∀b∈X.fs,X.H₀ b=P
structure Inv(X:Cx)(pins:G (J×Obj))(σ:G (I V))(H:Hp)(s:Xd):Prop where
 ok:X.Ok
 os:s.os=X.s₀.os
 bare:AllBare s.gens
 base:Un X.fs X.ex X.H₀ H X.s₀.heap s.heap
 loc:∃m,s.heap.Ns X.env.locals m/\∀(i:Nat) (x:Str) (v:V),X.N[i]?=M x->σ[i]?=M (M v)->Ua X.env.scope x->∃u,RelV v u/\U9 X.env s.heap m x u
 cell:∀x c,X.env.cells.lookup x=M c->∃v,s.heap.IsCell c v
 free:H X.env.locals=P
 Z7:∀x c,X.env.cells.lookup x=M c->H c=P
 pin:∀p∈X.pn++pins,s.heap.get? p.1=M p.2/\H p.1=P/\p.1≠X.env.locals/\p.1∉X.fs/\∀v,p.2.data≠.cell v
 Yq:HOk X.prog X.w H s.heap
 len:σ.length=X.N.length
section
variable{X:Cx}{Z:bg (Xa×Obj)}{Y:bg (bt V)}{H H':Hp}{s:Xd}{h':Heap}
theorem Cx.Ok.ak0(ok:X.Ok)(e:X.base.get? b=M o):b∉X.fs:=λa=>by let:=(ok.abo.mem a).1;rw[e]at this;ext this
theorem Inv.bs(I:Inv X Z Y H s):∀b o,X.base.get? b=M o->s.heap.get? b=M o/\H b=P:=λb o e=>
 #[I.base.keep b o (I.ok.bs b o e).1 (I.ok.bs b o e).2 (I.ok.ak0 e) (I.ok.adt b o e),I.base.free b o (I.ok.bs b o e).1 (I.ok.bs b o e).2 (I.ok.adt b o e)]
theorem Inv.bk(I:Inv X Z Y H s):∀b o,X.base.get? b=M o->s.heap.get? b=M o:=λb o e=>(I.bs b o e).1
theorem Inv.mod(I:Inv X Z Y H s):Mod X.K X.mg X.base:=I.ok.mod
theorem Inv.kIn(I:Inv X Z Y H s):X.K.In s.heap:=I.ok.mod.kin.keeps I.bk
theorem Inv.lt(I:Inv X Z Y H s):X.env.locals<s.heap.objs.size:=let#[_,a,_]:=I.loc;a.lt
theorem Inv.sz(I:Inv X Z Y H s):X.s₀.heap.objs.size<=s.heap.objs.size:=XX I.ok.above (aaX I.lt)
theorem Inv.alg(I:Inv X Z Y H s)(h:s.heap.objs.size<=a):a∉X.fs:=λe=>by let(_,o,b,_):=I.ok.abo.mem e;show bb (XD (b4 b) (XX I.sz h)) (YN _)
theorem Inv.cne(I:Inv X Z Y H s):∀x c,X.env.cells.lookup x=M c->c≠X.env.locals:=λx c e z=>by let(v,o,f,g):=I.cell x c e;let(m,(h,es,i,a,b,_),_):=I.loc;rw[z,a]at f;ext f;rw[b]at g;ext g
def Inv.abo(I:Inv X Z Y H s):s.heap.FunFrames X.base X.outer:=by
 let all:∀(l:G Env),(∀b∈wN l,b∈X.fs)->X.s₀.heap.FunFrames X.base l->s.heap.FunFrames X.base l:=by
  intro l
  induction l with
  |nil=>intro _ _;trivial
  |cons t r i=>intro h n;let(p,(L,o,a,v,m,q),j):=n;let g:=h L (by ext wN;rw[abq,a];show Xb);let(u,e):=I.base.slot L o m (I.ok.frf L g) g λz=>I.ok.adm L z g;show#[p,#[L,_,a,v,e,q],i (λb f=>h b (by ext wN;rw[abq,a];show Xf _ f)) j]
 show all X.outer (λ_ f=>f) I.ok.abo
def Inv.stack(I:Inv X Z Y H s):s.heap.FunFrames X.base X.stack:=by
 rcases I.ok.stk with e|⟨e,hf⟩
 .rw[e];show I.abo
 .rw[e];let(m,a,_):=I.loc;show .cons (by rw[I.ok.kind];decide) hf a ?_ I.abo;show ck (XX I.ok.bsz I.ok.above)
theorem Inv.abO(I:Inv X Z Y H s):∀b∈wN X.stack,b∈X.env.locals::X.fs:=λb a=>by
 rcases I.ok.stk with e|⟨e,hf⟩
 .rw[e]at a;show Xf _ a
 .rw[e]at a;unfold wN at a;rw[abq,hf]at a;show a
theorem Inv.aci(I:Inv X Z Y H s):∀b∈wN X.stack,H b=P:=λb a=>by
 rcases Xw.mp (I.abO b a)with e|a
 .rw[e];show I.free
 .let(_,o,f,_):=I.ok.abo.mem a;show I.base.free b o f (I.ok.frf b a) λz=>I.ok.adm b z a
def Inv.step{g':Array abd}{t':Nat}{d':aeJ}{ch:bg Xa}(I:Inv X Z Y H s)
  (g:∀b∈ch,(b∈X.ex\/X.s₀.heap.objs.size<=b)/\b≠X.env.locals/\(∀x c,X.env.cells.lookup x=cL c->c≠b)/\∀p∈X.pn++Z,p.1≠b)
  (keep:∀b o,b≠X.env.locals->b∉X.fs->b∉ch->s.heap.get? b=cL o->H b=P->h'.get? b=cL o)
  (slot:∀b o,b≠X.env.locals->b∈X.fs->b∉ch->s.heap.get? b=cL o->H b=P->∃O,h'.get? b=cL {o with slots:=O}) (free:∀b o,b∉ch->s.heap.get? b=cL o->H b=P->H' b=P)
  (there:∀b o,b∉ch->s.heap.get? b=cL o->∃w,h'.get? b=cL w)
  (ab4:∀b xs,H b=cL (.tup xs)->H' b=cL (.tup xs)) (Q:∀b o u,H b=cL (.frz o u)->H' b=cL (.frz o u)) (T:∀b D,H b=cL (.tbl D)->∃more,H' b=cL (.tbl (D++more)))
  (J:∀m,s.heap.Ns X.env.locals m->h'.Ns X.env.locals m) (Yq:HOk X.prog X.w H' h') (N:AllBare g'):
  Inv X Z Y H' {s with heap:=h',gens:=g',drawn:=d',toks:=t'}:=by
 let A:∀b o,X.s₀.heap.get? b=cL o->b≠X.env.locals:=λb o e=>XB (XD (b4 e) I.ok.above);let j:∀b o,X.s₀.heap.get? b=cL o->b∉X.ex->b∉ch:=λb o e a t=>by
  rcases(g b t).1 with z|z
  .show a z
  .show bb (XD (b4 e) z) (YN _)
 let h:∀x c,X.env.cells.lookup x=cL c->∀v,s.heap.IsCell c v->h'.IsCell c v:=λx c e v #[o,y,C]=>by
  let f:c∉ch:=λz=>(g c z).2.2.1 x c e W;by_cases G:c∈X.fs
  .let(O,q):=slot c o (I.cne x c e) G f y (I.Z7 x c e);show#[_,q,C]
  .show#[o,keep c o (I.cne x c e) G f y (I.Z7 x c e),C]
 show#[I.ok,I.os,N,#[λb o e n t a=>?_,λb o e n t a=>?_,λb o e n a=>?_,λb o e a=>?_,λb xs e=>ab4 b xs (I.base.ab4 b xs e),λb o xs e=>Q b o xs (I.base.abQ b o xs e),λb D e=>?_],?_,λx c e=>?_,?_,λx c e=>?_,λp F=>?_,Yq,I.len]
 .show keep b o (A b o e) t (j b o e a) (I.base.keep b o e n t a) (I.base.free b o e n a)
 .let(O,e1):=I.base.slot b o e n t a;let(B,e2):=slot b _ (A b o e) t (j b o e a) e1 (I.base.free b o e n a);show#[B,e2]
 .let(w,e1):=I.base.there b o e a;show free b w (j b o e a) e1 (I.base.free b o e n a)
 .let(w,e1):=I.base.there b o e a;show there b w (j b o e a) e1
 .let(L,e1):=I.base.ab6 b D e;let(K,e2):=T b _ e1;show#[L++K,by rw[e2,Array.append_assoc]]
 .let(m,hn,M):=I.loc
  show#[m,J m hn,λi x v e1 e2 e3=>?_];let(u,r,l):=M i x v e1 e2 e3;show#[u,r,?_];rcases l with l|⟨k,c,e,z⟩
  .show .inl l
  .show .inr #[k,c,e,h x c e _ z]
 .let(v,z):=I.cell x c e;show#[v,h x c e v z]
 .let(m,(o,_,_,y,_),_):=I.loc;show free _ o (λz=>(g _ z).2.1 W) y I.free
 .let(v,o,y,C):=I.cell x c e;show free c o (λz=>(g c z).2.2.1 x c e W) y (I.Z7 x c e)
 .let(e,n,ne,E,d):=I.pin p F;let f:p.1∉ch:=λz=>(g p.1 z).2.2.2 p F W;show#[keep p.1 p.2 ne E f e n,free p.1 p.2 f e n,ne,E,d]
def Inv.un{t':Nat}(I:Inv X Z Y H s)(u:Un X.fs [] H H' s.heap h')(Yq:HOk X.prog X.w H' h'):Inv X Z Y H' {s with heap:=h',toks:=t'}:=by let(m,(o,es,v,i,r),_):=id I.loc;let(p,l):=u.any i I.free (by simp);show I.step (g':=s.gens) (d':=s.drawn) (ch:=[]) (λ_ z=>nomatch z) (λb o _ f _ e n=>u.keep b o e n f (by simp)) (λb o _ f _ e n=>u.slot b o e n f (by simp)) (λb o _ e n=>u.free b o e n (by simp)) (λb o _ e=>u.there b o e (by simp)) u.ab4 u.abQ u.ab6 (λt hm=>by let(q,g,h,a,j):=hm;rw[i]at a;ext a;show#[_,g,h,l,j]) Yq I.bare
def Inv.call{g':Array abd}{t':Nat}{d':aeJ}{ch:G J}(I:Inv X Z Y H s)(u:Un (wN X.stack) ch H H' s.heap h')(Yq:HOk X.prog X.w H' h')(t:AllBare g')
  (g:∀b∈ch,(b∈X.ex\/X.s₀.heap.objs.size<=b)/\b≠X.env.locals/\(∀x c,X.env.cells.lookup x=M c->c≠b)/\∀p∈X.pn++Z,p.1≠b):
  Inv X Z Y H' {s with heap:=h',gens:=g',drawn:=d',toks:=t'}:=by
 let(m,(o,es,C,l,r),_):=id I.loc;let(y,h):=u.any l I.free λz=>(g _ z).2.1 W;show I.step (ch:=ch) g (λb o h v a e n=>u.keep b o e n (λz=>(Xw.mp (I.abO b z)).elim h v) a) (λb o _ _ a e n=>u.any e n a) (λb o a e n=>u.free b o e n a) (λb o a e=>u.there b o e a) u.ab4 u.abQ u.ab6 (λB hm=>by let(A,i,j,f,q):=hm;rw[l]at f;ext f;show#[_,i,j,h,q]) Yq t
def Inv.turned{t':Nat}{a:J}(I:Inv X Z Y H s)(k:∀b o,b≠a->s.heap.get? b=M o->h'.get? b=M o)(d:H a=P)(h:a≠X.env.locals)
  (w:a∈X.ex\/X.s₀.heap.objs.size<=a) (t:∀x c,X.env.cells.lookup x=M c->c≠a) (l:∀p∈X.pn++Z,p.1≠a):Inv X Z Y H {s with heap:=h',toks:=t'}:=by
 let g:∀b u,H b=M u->b≠a:=λb u e z=>by rw[z,d]at e;ext e
 show I.step (g':=s.gens) (d':=s.drawn) (ch:=[a]) (λb j=>?_) (λb o _ _ f e _=>k b o (λz=>f (by simp[z])) e) (λb o _ _ f e _=>#[o.slots,k b o (λz=>f (by simp[z])) e]) (λ_ _ _ _ n=>n)
  (λb o f e=>#[o,k b o (λz=>f (by simp[z])) e]) (λ_ _ e=>e) (λ_ _ _ e=>e) (λb A e=>#[#v[],by rw[e];simp]) (λm hm=>?_) (λb u e=>?_) I.bare
 .let e:b=a:=by simpa using j
  subst e;show#[w,h,t,l]
 .let(o,es,y,i,r):=hm;show#[o,es,y,k _ o (c9 h) i,r]
 .show(I.Yq b u e).aaQ (λc v f q=>k c v ?_ q) (λ_ q=>q) λ_ _ q=>q
  rcases f with z|z
  .rw[z];show g b u e
  .show g c _ z
theorem Inv.tok(I:Inv X Z Y H s)(t:Nat):Inv X Z Y H {s with toks:=t}:=I.un Un.refl I.Yq
theorem Inv.kept{t':Nat}(I:Inv X Z Y H s)(k:∀b u,s.heap.get? b=M u->h'.get? b=M u):Inv X Z Y H {s with heap:=h',toks:=t'}:=I.un (Un.kept k) (I.Yq.kept k)
theorem Inv.laid{a:J}{o:HO}{t':Nat}(I:Inv X Z Y H s)(k:∀b u,s.heap.get? b=M u->h'.get? b=M u)(e:s.heap.objs.size<=a)(new:ObjOk X.prog X.w (aR H a o) h' a o):
  Inv X Z Y (aR H a o) {s with heap:=h',toks:=t'}:=I.un (Un.laid k e (I.Yq.fresh e)) (I.Yq.laid k e new)
theorem Inv.write{x e:J}{o:HO}{t':Nat}(I:Inv X Z Y H s)(f:Sb (H x))(g:e=x\/H e=M (.own x))(k:∀b u,b≠e->s.heap.get? b=M u->h'.get? b=M u)(a:∃u,h'.get? e=M u)
  (new:ObjOk X.prog X.w (aR H x o) h' x o):Inv X Z Y (aR H x o) {s with heap:=h',toks:=t'}:=I.un (Un.write f g k a) (I.Yq.write f g k a new)
theorem Inv.acZ(I:Inv X Z Y H s)(h:∀p∈aiv,s.heap.get? p.1=M p.2/\H p.1=P/\p.1≠X.env.locals/\p.1∉X.fs/\∀v,p.2.data≠.cell v):Inv X aiv Y H s:=
 #[I.ok,I.os,I.bare,I.base,I.loc,I.cell,I.free,I.Z7,λp a=>(X3.mp a).elim (λz=>I.pin p (Yg _ z)) (h p),I.Yq,I.len]
def sg{N:G Str}(e:N.Nodup){i j:Nat}(a:N[i]?=M x)(b:N[j]?=M x):i=j:=by let(g,e1):=W6.mp a;let(f,e2):=W6.mp b;show(List.getElem_inj e).mp (e1.trans e2.symm)
def tG{M:adI}{A:XO}{E:U->Xd->Prop}{i:Nat}{x:Str}{v:V}{u:U}{Q:Unit->Xd->Prop}(I:Inv X Z Y H s)(hN:X.N.Nodup)(D:X.N[i]?=cL x)(l:Qx X.env.scope x)(r:RelV v u)
  (h:∀F,Inv X Z (Y.set i (cL v)) H F->(∃a,Heap.SameBut a s.heap F.heap/\(a=X.env.locals\/X.env.cells.lookup x=cL a))->Q ⟨⟩ F) (hf:X.fn x=S\/X.env.scope.names.lookup x=cL .local:=by first|show .inl W|show .inr W|assumption):wpAny M A (storeName X.env x u) Q E s:=by
 let(m,hn,hl):=id I.loc;let aha:(X.env.scope.kind==.class||(X.env.scope.kind==.module&&X.env.locals !=X.env.globals))=R:=by rw[I.ok.kind];rfl
 let w:i<Y.length:=by rw[I.len];show(W6.mp D).1
 let cne:=I.cne;let tracked:∀{a:J} {h':Heap},(∃o,s.heap.get? a=cL o/\H a=P)->Heap.SameBut a s.heap h'->HOk X.prog X.w H h':=λ{a h'} ha f b ob e=>by
  let(_,_,N):=ha;show(I.Yq b ob e).aaQ (λc O g q=>(f.2 c ?_).trans q) (λ_ q=>q) λ_ _ q=>q;rintro rfl;rcases g with rfl|g
  .rw[N]at e;ext e
  .rw[N]at g;ext g
 rcases l with t|t
 .show wpAny_storeName_local t hn (λh' hn' f=>?_) aha
  let(oL,_,_,hoL,_):=id hn;show h _ #[I.ok,I.os,I.bare,#[λb o e n C l=>?_,λb o e n C l=>?_,I.base.free,λb o e l=>?_,I.base.ab4,I.base.abQ,I.base.ab6],#[_,hn',λj y v' e1 e2 e3=>?_],λy c e=>?_,I.free,I.Z7,λp hp=>?_,tracked #[oL,hoL,I.free] f,by simpa using I.len] #[_,f,.inl W]
  .show(f.2 b (XB (XD (b4 e) I.ok.above))).trans (I.base.keep b o e n C l)
  .let(sl,e1):=I.base.slot b o e n C l;show#[sl,(f.2 b (XB (XD (b4 e) I.ok.above))).trans e1]
  .let(o',e1):=I.base.there b o e l;show#[o',(f.2 b (XB (XD (b4 e) I.ok.above))).trans e1]
  .by_cases hj:j=i
   .subst hj;rw[D]at e1;ext e1;rw[Yh w]at e2;ext e2;show#[u,r,.inl #[t,by simp]]
   .rw[XH (c9 hj)]at e2
    let(u',r',q):=hl j y v' e1 e2 e3;show#[u',r',?_];rcases q with⟨k,e⟩|⟨k,c,e,z⟩
    .show .inl #[k,?_];let:y≠x:=λe=>hj (sg hN e1 (e▸D));simp[this,e]
    .show .inr #[k,c,e,z.sameBut f (cne y c e)]
  .let(O,z):=I.cell y c e;show#[O,z.sameBut f (cne y c e)]
  .let(e,n,ne,nf,d):=I.pin p hp;show#[(f.2 p.1 ne).trans e,n,ne,nf,d]
 .let B:X.fn x=S:=by
   rcases hf with z|z
   .show z
   .rw[z]at t;ext t
  let(c,g):=I.ok.has x (.inl t);let(O,z):=I.cell x c g;show wpAny_storeName_cell I.ok.kind t g z (λh' L f=>?_);let(oc,K,alH):=id z;show h {s with heap:=h'} #[I.ok,I.os,I.bare,#[λb o e n C l=>?_,λb o e n C l=>?_,I.base.free,λb o e l=>?_,I.base.ab4,I.base.abQ,I.base.ab6],#[m,hn.sameBut f (c9 (cne x c g)),λj y v' e1 e2 e3=>?_],λy T e=>?_,I.free,I.Z7,λp hp=>?_,tracked #[oc,K,I.Z7 x c g] f,by simpa using I.len] #[c,f,.inr g]
  .show(f.2 b (XB (XD (b4 e) (I.ok.cab x c B g)))).trans (I.base.keep b o e n C l)
  .let(sl,e1):=I.base.slot b o e n C l;show#[sl,(f.2 b (XB (XD (b4 e) (I.ok.cab x c B g)))).trans e1]
  .let(o',e1):=I.base.there b o e l;show#[o',(f.2 b (XB (XD (b4 e) (I.ok.cab x c B g)))).trans e1]
  .by_cases hj:j=i
   .subst hj;rw[D]at e1;ext e1;rw[Yh w]at e2;ext e2;show#[u,r,.inr #[.inl t,c,g,L]]
   .rw[XH (c9 hj)]at e2
    let(u',r',q):=hl j y v' e1 e2 e3;show#[u',r',?_];rcases q with q|⟨k,T,e,z'⟩
    .show .inl q
    .show .inr #[k,T,e,z'.sameBut f ?_];rintro rfl;show hj (sg hN e1 (I.ok.inj _ _ _ e g▸D))
  .by_cases hcc:T=c
   .subst hcc;show#[_,L]
   .let(w2,z2):=I.cell y T e;show#[w2,z2.sameBut f hcc]
  .let(e,n,ne,nf,d):=I.pin p hp;show#[(f.2 p.1 ?_).trans e,n,ne,nf,d];intro q;rw[q,K]at e;let q':oc=p.2:=Xm e;show d O (by rw[<-q'];show alH)
theorem mV{i:Nat}{v:V}{u:U}{Q:Unit->Xd->Prop}(I:Inv X Z Y H s)(e:X.N.Nodup)(d:X.N[i]?=cL x)(c:Qx X.env.scope x)(r:RelV v u)
  (h:∀b,Inv X Z (Y.set i (cL v)) H b->Q ⟨⟩ b) (hf:X.fn x=S\/X.env.scope.names.lookup x=cL .local:=by first|show .inl W|show .inr W|assumption):wpAny a A (storeName X.env x u) Q E s:=
 tG I e d c r (λb f _=>h b f) hf
def Inv.afh{a:Xd}{ch:G J}(I:Inv X Z Y H s)(h:a.os=s.os)(u:Un (wN X.stack) ch H H' s.heap a.heap)(Yq:HOk X.prog X.w H' a.heap)(i:AllBare a.gens)
  (f:∀b∈ch,(b∈X.ex\/X.s₀.heap.objs.size<=b)/\b≠X.env.locals/\(∀x c,X.env.cells.lookup x=M c->c≠b)/\∀p∈X.pn++Z,p.1≠b):Inv X Z Y H' a:=by
 let(h',l,m,j,g):=a;let e:g=s.os:=h;subst e;show I.call (g':=l) (t':=j) (d':=m) u Yq i f
end
abbrev XK:=U->I J->Hp->Prop
abbrev St:=G (I V)
abbrev VK:=V->Hp->Prop
abbrev TE:=St->Hp->VK->Prop
abbrev TT:=St->Hp->(Bool->Hp->Prop)->Prop
abbrev TA:=St->Hp->(G V->Hp->Prop)->Prop
structure Ends where
 nx:St->Hp->Prop
 rt:VK
 bk:St->Hp->Prop:=λ_ _=>False
 ct:St->Hp->Prop:=λ_ _=>False
abbrev TS:=Ends->St->Hp->Prop
def EP(X:Cx)(a:G (J×Obj))(b:St)(Q:VK)(u:U)(e:Xd):Prop:=∃v f,Inv X a b f e/\RelV v u/\Q v f
def TP(X:Cx)(a:G (J×Obj))(e:St)(Q:Bool->Hp->Prop)(b:Bool)(f:Xd):Prop:=∃g,Inv X a e g f/\Q b g
def AP(X:Cx)(a:G (J×Obj))(b:St)(Q:G V->Hp->Prop)(us:G U)(e:Xd):Prop:=∃f g,Inv X a b g e/\Vals f us/\Q f g
def SP(X:Cx)(a:G (J×Obj))(D:Ends)(f:Flow)(b:Xd):Prop:=
 match f with
 |.next=>∃e g,Inv X a e g b/\D.nx e g
 |.brk=>∃e g,Inv X a e g b/\D.bk e g
 |.cont=>∃e g,Inv X a e g b/\D.ct e g
 |.ret u=>∃v e g,Inv X a e g b/\RelV v u/\D.rt v g
def PE(X:Cx)(e:XA)(t:TE):Prop:=
 ∀(a:G (J×Obj)) (s:Xd) (b:St) (H:Hp) (Q:VK),Inv X a b H s->t b H Q->wpAny (model X.prog X.w) X.A (eval e X.env) (EP X a b Q) X.xe s
def PT(X:Cx)(e:XA)(t:TT):Prop:=
 ∀(a:G (J×Obj)) (s:Xd) (b:St) (H:Hp) (Q:Bool->Hp->Prop),Inv X a b H s->t b H Q->wpAny (model X.prog X.w) X.A (isTrue e X.env (eval e X.env)) (TP X a b Q) X.xe s
def PW(X:Cx)(e:XA)(t:TT):Prop:=
 ∀(b:Sem U) (a:G (J×Obj)) (s:Xd) (f:St) (H:Hp) (Q:Bool->Hp->Prop),Inv X a f H s->t f H Q->wpAny (model X.prog X.w) X.A (isTrue e X.env b) (TP X a f Q) X.xe s
theorem PW.pt(h:PW X e t):PT X e t:=h _
def PA(X:Cx)(es:G XA)(t:TA):Prop:=
 ∀(e:Pos) (a:G (J×Obj)) (s:Xd) (b:St) (H:Hp) (Q:G V->Hp->Prop),Inv X a b H s->t b H Q->wpAny (model X.prog X.w) X.A (spliced (backTo e (Xu es X.env))) (AP X a b Q) X.xe s
def PS(X:Cx)(st:YQ)(t:TS):Prop:=
 ∀(a:G (J×Obj)) (s:Xd) (b:St) (H:Hp) (D:Ends),Inv X a b H s->t D b H->wpAny (model X.prog X.w) X.A (exec st X.env) (SP X a D) X.xe s
def PSs(X:Cx)(st:G YQ)(t:TS):Prop:=
 ∀(a:G (J×Obj)) (s:Xd) (b:St) (H:Hp) (D:Ends),Inv X a b H s->t D b H->wpAny (model X.prog X.w) X.A (execs st X.env) (SP X a D) X.xe s
theorem bV{α:Type}{t:Sem α}{Q b:α->Xd->Prop}{M:adI}{A:XO}{E:U->Xd->Prop}{s:Xd}(h:wpAny M A t Q E s)(e:∀a s,Q a s->b a s):wpAny M A t b E s:=wpAny_mono h e λ_ _ x=>x
section
variable{X:Cx}
def nY(i:Nat):TE:=λa H Q=>∃v,a[i]?=M (M v)/\Q v H
def tC(v:V):TE:=λ_ H Q=>Q v H
def E4(t:X.N[i]?=M x)(p:Ua X.env.scope x)(hd:(x==("__debug__":Str))=R:=by decide)(j:(x==("__classdict__":Str))=R:=by decide):PE X (.Name x pos) (nY i):=by
 intro f s o H Q I h;let(v,e,h):=h;let(m,w,q):=I.loc;let(u,r,l):=q i x v t e p;let b:EP X f o Q u s:=#[v,H,I,r,h];rcases l with⟨a,hm⟩|⟨a,c,n,g⟩
 .show agA (afM I.ok.kind a w hm b) hd
 .rcases a with a|a
  .show agA (age I.ok.kind a n g b) hd
  .show agA (wpAny_loadName_free I.ok.kind a n g b j) hd
theorem Rk{i j pos}:PE X (.Constant (.int i) j pos) (tC (.int i)):=λ_ _ _ H _ I h=>agB #[.int i,H,I.tok _,#[_,W],h]
theorem TL{b j pos}:PE X (.Constant (.bool b) j pos) (tC (.bl b)):=λ_ _ _ H _ I h=>Constant_bool #[.bl b,H,I,W,h]
theorem zG{j pos}:PE X (.Constant .none j pos) (tC .Zo):=λ_ _ _ H _ I h=>Constant_none #[.Zo,H,I,W,h]
theorem G5{x j pos}:PE X (.Constant (.str x) j pos) (tC (.str x)):=λ_ _ _ H _ I h=>Calls.Constant_str #[.str x,H,I.tok _,#[_,W],h]
def Gl(X:Cx)(x:Str):Prop:=X.env.kindOf x=M .globalImplicit
theorem jp(I:Inv X pins σ H s)(a:Gl X x)(hm:X.mg x=M u)(h:Q u s)
  (hd:(x==("__debug__":Str))=R:=by decide):wpAny (model X.prog X.w) X.A (eval (.Name x pos) X.env) Q E s:=
 Calls.Name_function_global I.ok.kind a (Calls.loadGlobal_global (by rw[I.ok.glob];show I.mod.glob.keeps I.bk) hm h) hd
def oi(I:Inv X pins σ H s)(b:Gl X x)(hm:X.mg x=P)(a:Ya x=M u)(h:Q u s)
  (c:x≠ "__name__":=by decide) (hd:(x==("__debug__":Str))=R:=by decide):wpAny (model X.prog X.w) X.A (eval (.Name x pos) X.env) Q E s:=by
 let(g,f,e):=I.mod.blt;show Calls.Name_function_global I.ok.kind b (Calls.loadGlobal_builtin (by rw[I.ok.glob];show I.mod.glob.keeps I.bk) hm (by rw[I.ok.blt];show f.keeps I.bk) ((e x c).trans a) h) hd
theorem J3{x:Str}{v:V}{u:U}{a:Pos}(b:Gl X x)(hm:X.mg x=M u)(r:RelV v u)(hd:(x==("__debug__":Str))=R:=by decide):PE X (.Name x a) (tC v):=
 λ_ _ _ H _ I h=>jp I b hm #[v,H,I,r,h] hd
theorem Ae(b:Gl X x)(hm:X.mg x=P)(a:Ya x=M u)(r:RelV v u)(c:x≠ "__name__":=by decide)(hd:(x==("__debug__":Str))=R:=by decide):PE X (.Name x pos) (tC v):=
 λ_ _ _ H _ I h=>oi I b hm a #[v,H,I,r,h] c hd
variable{a b:XA}{Z N:TE}{O:Pos}
def PC(X:Cx)(op:aeK)(a b:XA)(t:TE):Prop:=
 ∀(e:G (J×Obj)) (s:Xd) (h:St) (H:Hp) (Q:VK),Inv X e h H s->t h H Q->
  wpAny (model X.prog X.w) X.A (eval a X.env) (λv g=>wpAny (model X.prog X.w) X.A (eval b X.env) (λu f=>wpAny (model X.prog X.w) X.A (YR op v u) (EP X e h Q) X.xe f) X.xe g) X.xe s
def tB(t:TE):TT:=λe H Q=>t e H λx f=>∃c,x=.bl c/\Q c f
theorem yU(h:PC X op a b t)(i:behindInMarks op b=R:=by first|show o _ () ()|rfl):PE X (.Compare a [op] [b] O) t:=λe s f H Q I g=>akc (h e s f H Q I g) i
def yB(h:PC X op a b t)(f:behindInMarks op b=R:=by first|show C _ () ()|rfl):PT X (.Compare a [op] [b] O) (tB t):=by intro e s g H Q I l;show afw (bV (h e s g H _ I l) λv w f=>bV f λu r m=>bV m λc p a=>?_) f;let(x,o,n,i,j):=a;let(d,rfl,q):=j;ext i;show ZF #[o,n,q]
def OA{e:XA}{t:TE}(h:PE X e t)(m:∀whole,isTrue e X.env whole=(do let v<-whole;standAt e.pos;holding [v] (truthy v)):=by intro _;rfl):PT X e (tB t):=by intro f s g H Q I l;show isTrue_plain (bV (h f s g H _ I l) λv p #[x,o,n,i,j]=>?_) (m _);let(d,rfl,q):=j;ext i;show ZF #[o,n,q]
variable{U T:TT}{Y:bg XA}
def Ru(t u:TT):TT:=λe H Q=>t e H λc f=>if c=S then u e f Q else Q R f
def V2(t u:TT):TT:=λe H Q=>t e H λc f=>if c=S then Q S f else u e f Q
def ML(t:TT):TT:=λe H Q=>t e H λc f=>Q (!c) f
def B1(d:PT X a U):PW X (.BoolOp .And [a] O) U:=by
 intro i f s g H Q I h;show isTrue_and (bV (d f s g H Q I h) λc j e=>?_);cases c with
 |true=>show isTrue_and_nil e
 |false=>show e
def Oi(d:PT X a U):PW X (.BoolOp .Or [a] O) U:=by
 intro i f s g H Q I h;show isTrue_or (bV (d f s g H Q I h) λc j e=>?_);cases c with
 |false=>show isTrue_or_nil e
 |true=>show e
def D9(d:PT X a U)(n:PW X (.BoolOp .And (b::Y) O) T):PW X (.BoolOp .And (a::b::Y) O) (Ru U T):=by
 intro l e s f H Q I h;show isTrue_and (bV (d e s f H _ I h) λc m a=>?_);let(j,i,g):=a;cases c with
 |true=>show n l e m f j Q i g
 |false=>show#[j,i,g]
def Td(d:PT X a U)(n:PW X (.BoolOp .Or (b::Y) O) T):PW X (.BoolOp .Or (a::b::Y) O) (V2 U T):=by
 intro l e s f H Q I h;show isTrue_or (bV (d e s f H _ I h) λc m a=>?_);let(j,i,g):=a;cases c with
 |true=>show#[j,i,g]
 |false=>show n l e m f j Q i g
def Rz(d:PT X a U):PT X (.UnaryOp .Not a O) (ML U):=by intro e s f H Q I h;show isTrue_not (d e s f H (λc g=>Q (!c) g) I h)
def MY(Z N:TE):TE:=λe H Q=>Z e H λx f=>∃c,x=.bl c/\if c=S then N e f Q else Q (.bl R) f
theorem Qz{op}(h:PE X a t):PE X (.BoolOp op [a] O) t:=λe s f H Q I g=>BoolOp_one (h e s f H Q I g)
def OV(d:PE X a Z)(n:PE X (.BoolOp .And (b::Y) O) N):PE X (.BoolOp .And (a::b::Y) O) (MY Z N):=by
 intro e s g H Q I h;show BoolOp_and (bV (d e s g H _ I h) λv l a=>?_);let(x,j,i,m,f):=a;let(c,rfl,f):=f;ext m;show ZF ?_;cases c with
 |true=>show n e l g j Q i f
 |false=>show#[.bl R,j,i,W,f]
def TB(t:TT)(Z N:TE):TE:=λe H Q=>t e H λc f=>if c=S then Z e f Q else N e f Q
def GD(m:PT X c U)(k:PE X a Z)(n:PE X b N):PE X (.IfExp c a b O) (TB U Z N):=by
 intro e s f H Q I h;show wpAny_IfExp (bV (m e s f H _ I h) λd g a=>?_);let(l,j,i):=a;cases d with
 |true=>show k e g f l Q j i
 |false=>show n e g f l Q j i
end
def SqL(K:CL)(H:Hp)(a:J)(xs:G V):Prop:=
 Rd H a (.lst xs)\/
  ∃(o:Obj) (b:Array U) (n:Nat),K.lookup a=M o/\o.cls=.type "list"/\o.dict=P/\o.data=.seq b n/\b.size<=Xl/\Vals xs b.toList
def SqT(K:CL)(H:Hp)(a:J)(xs:G V):Prop:=
 Rd H a (.tup xs)\/
  ∃(o:Obj) (b:Array U) (n:Nat),K.lookup a=M o/\(o.cls=.type "tuple"/\o.dict=P)/\o.data=.seq b n/\b.size<=Xl/\Vals xs b.toList
def U2:U->I V
 |.none=>M .Zo
 |.bool b=>M (.bl b)
 |.int i _=>M (.int i)
 |.str x _=>M (.str x)
 |.bytes b _=>M (.byt b)
 |.float b _=>M (.flt b)
 |.ref a=>M (.ref a)
 |.type n=>M (.ty n)
 |_=>P
def RelV.abs(r:RelV x u):U2 u=M x:=by
 cases x with
 |Zo=>ext r;rfl
 |bl _=>ext r;rfl
 |int _=>let(t,rfl):=r;rfl
 |str _=>let(t,rfl):=r;rfl
 |byt _=>let(t,rfl):=r;rfl
 |flt _=>let(t,rfl):=r;rfl
 |ref _=>ext r;rfl
 |ty _=>ext r;rfl
theorem RelV.inj(r:RelV x u)(q:RelV y u):x=y:=Xm (r.abs.symm.trans q.abs)
theorem Vals.inj:∀{xs ys:G V} {us:G U},Vals xs us->Vals ys us->xs=ys
 |_,_,_,.nil,.nil=>rfl
 |_,_,_,.cons r t,.cons b a=>by rw[r.inj b,Vals.inj t a]
section
variable{X:Cx}{Z:bg (Xa×Obj)}{Y:St}{H:Hp}{s:Xd}{a:Xa}{T Q:bg V}
theorem SqL.of{K:CL}(h:H a=M (.lst T)):SqL K H a T:=.inl (.inl h)
theorem SqT.of{K:CL}(h:H a=M (.tup T)):SqT K H a T:=.inl (.inl h)
def Inv.list(I:Inv X Z Y H s)(h:SqL X.K H a T):∃b:G U,Vals T b/\PlainL s.heap a b.toArray/\T.length<=Xl:=by
 rcases h with h|⟨o,b,n,g,i,hd,f,j,r⟩
 .let(z,b,n,r,e):=h.ok I.Yq;show#[b,r,#[_,n,e,W,W,W],z]
 .show#[b.toList,r,#[o,n,I.kIn a o g,i,hd,by simpa using f],?_];let e:=r.length;simp only[Yi]at e;ext
def Inv.tuple(I:Inv X Z Y H s)(h:SqT X.K H a T):∃b:G U,Vals T b/\IsTup s.heap a b.toArray/\T.length<=Xl:=by
 rcases h with h|⟨o,b,n,g,i,f,j,r⟩
 .let(z,b,r,p):=h.ok I.Yq;show#[b,r,p.tup,z]
 .show#[b.toList,r,#[o,I.kIn a o g,i.1,n,by simpa using f],?_];let e:=r.length;simp only[Yi]at e;ext
def Inv.ag8(I:Inv X Z Y H s)(h:SqT X.K H a T):∃b:G U,Vals T b/\ab5 s.heap a b.toArray/\T.length<=Xl:=by
 rcases h with h|⟨o,b,n,i,f,g,j,r⟩
 .let(z,b,r,p):=h.ok I.Yq;show#[b,r,p,z]
 .show#[b.toList,r,#[o,I.kIn a o i,#[f.1,n,by simpa using g],f.2],?_];let e:=r.length;simp only[Yi]at e;ext
def Inv.afn(I:Inv X Z Y H s)(h:SqL X.K H a T)(c:SqL X.K H a Q):T=Q:=by
 let(j,r,(o,n,e,_,_,d),_):=I.list h;let(b,i,(l,m,f,_,_,g),_):=I.list c;rw[e]at f;ext f;rw[d]at g;injection g with d1 _;let:j=b:=by simpa using dw agC d1
 subst this;show r.inj i
def Inv.aeG(I:Inv X Z Y H s)(h:SqT X.K H a T)(c:SqT X.K H a Q):T=Q:=by
 let(j,r,(o,e,_,n,d),_):=I.tuple h;let(b,i,(l,f,_,m,g),_):=I.tuple c;rw[e]at f;ext f;rw[d]at g;injection g with d1 _;let:j=b:=by simpa using dw agC d1
 subst this;show r.inj i
end
abbrev Cx.abf(X:Cx)(E:U->Xd->Prop):Cx:={X with xe:=E}
abbrev Cx.nox(X:Cx):Cx:=X.abf λ_ _=>False
theorem Cx.Ok.abf{X:Cx}(ok:X.Ok)(E:U->Xd->Prop):(X.abf E).Ok:=
 #[ok.mod,ok.kind,ok.glob,ok.blt,ok.above,ok.inj,ok.has,ok.cab,ok.hd,ok.frames,ok.stk,ok.exf,ok.bs,ok.bsz,ok.adt,ok.adm,ok.abo,ok.frf]
theorem Cx.Ok.aaj{X:Cx}(ok:(X.abf E).Ok):X.Ok:=
 #[ok.mod,ok.kind,ok.glob,ok.blt,ok.above,ok.inj,ok.has,ok.cab,ok.hd,ok.frames,ok.stk,ok.exf,ok.bs,ok.bsz,ok.adt,ok.adm,ok.abo,ok.frf]
section
variable{X:Cx}{Z:bg (Xa×Obj)}{Y:St}{H:Hp}{s:Xd}{E:W2->Xd->Prop}
theorem Inv.abf(I:Inv X Z Y H s)(E:U->Xd->Prop):Inv (X.abf E) Z Y H s:=#[I.ok.abf E,I.os,I.bare,I.base,I.loc,I.cell,I.free,I.Z7,I.pin,I.Yq,I.len]
theorem Inv.aaj(I:Inv (X.abf E) Z Y H s):Inv X Z Y H s:=#[I.ok.aaj,I.os,I.bare,I.base,I.loc,I.cell,I.free,I.Z7,I.pin,I.Yq,I.len]
def SP.aaj(h:SP (X.abf E) Z D f s'):SP X Z D f s':=by
 cases f with
 |next=>let(a,b,I,q):=h;show#[a,b,I.aaj,q]
 |brk=>let(a,b,I,q):=h;show#[a,b,I.aaj,q]
 |cont=>let(a,b,I,q):=h;show#[a,b,I.aaj,q]
 |ret u=>let(v,a,b,I,r,q):=h;show#[v,a,b,I.aaj,r,q]
theorem PSs.nox{st:G YQ}(h:PSs X.nox st t):PSs X st t:=λZ s Y H D I a=>
 wpAny_mono (h Z s Y H D (I.abf _) a) (λ_ _ q=>q.aaj) λ_ _ z=>False.elim z
end
section
variable{X:Cx}{Q:YQ}{Z:bg YQ}{t u:TS}{e:XA}{T:TE}{Y:Pos}
def Ix:TS:=λD a H=>D.nx a H
def Ii(t u:TS):TS:=λD a H=>t {D with nx:=u D} a H
theorem BX:PSs X [] Ix:=λ_ _ a H _ I h=>aau #[a,H,I,h]
def wo(l:PS X Q t)(j:PSs X Z u):PSs X (Q::Z) (Ii t u):=by
 intro a s g H D I h;show ahS (bV (l a s g H {D with nx:=u D} I h) λf i q=>?_);cases f with
 |next=>let(b,n,m,q):=q;show j a i b n D m q
 |ret v=>show q
 |brk=>show q
 |cont=>show q
def mX(g:PS X Q t):PSs X [Q] t:=by
 intro a s b H D I h;show ahS (bV (g a s b H D I h) λf i q=>?_);cases f with
 |next=>show aau q
 |ret v=>show q
 |brk=>show q
 |cont=>show q
def Inv.quiet{a:G (J×Obj)}{b:St}{H:Hp}{s:Xd}(I:Inv X a b H s):interactive X.env=R:=by simp[interactive,I.ok.kind]
def wq(T:TE):TS:=λD a H=>T a H λ_ b=>D.nx a b
def Bf(i:PE X e T)(g:ZC e P Y.line X.env=pure R:=by rfl):PS X (.Expr e Y) (wq T):=by intro a s b H D I h;show wpAny_Expr_any (bV (i a s b H _ I h) λv m #[x,l,j,n,f]=>#[b,l,j,f]) I.quiet g
def DB(T:TE):TS:=λD a H=>T a H D.rt
def zw(i:PE X e T):PS X (.Return (M e) Y) (DB T):=by intro a s b H D I h;show wpAny_Return_some (bV (i a s b H _ I h) λv m #[x,l,j,f,g]=>#[x,b,l,j,f,g])
def N3:TS:=λD _ H=>D.rt .Zo H
theorem Mu:PS X (.Return P Y) N3:=λ_ _ a H _ I h=>wpAny_Return_none #[.Zo,a,H,I,W,h]
def JG(c:TT)(t u:TS):TS:=λD a H=>c a H λb f=>if b=S then t D a f else u D a f
def SI(n:PT X c C)(k:PSs X a t)(o:PSs X b u):PS X (.If c a b Y) (JG C t u):=by
 intro f s g H D I h;show wpAny_If (bV (n f s g H _ I h) λd i a=>?_);let(m,l,j):=a;cases d with
 |true=>show k f i g m D l j
 |false=>show o f i g m D l j
end
abbrev TG:=V->St->Hp->(St->Hp->Prop)->Prop
abbrev x9:=G V->St->Hp->(St->Hp->Prop)->Prop
def PG(X:Cx)(a:XA)(t:TG):Prop:=
 ∀(b:G (J×Obj)) (s:Xd) (e:St) (H:Hp) (v:V) (u:U) (Q:St->Hp->Prop),Inv X b e H s->RelV v u->t v e H Q->
  wpAny (model X.prog X.w) X.A (assign a X.env u) (λ_ f=>∃g h,Inv X b g h f/\Q g h) X.xe s
def TN(X:Cx)(f:G XA)(t:x9):Prop:=
 ∀(a:G (J×Obj)) (s:Xd) (b:St) (H:Hp) (i:G V) (e:G U) (Q:St->Hp->Prop),Inv X a b H s->Vals i e->t i b H Q->
  wpAny (model X.prog X.w) X.A (assignInOrder ((assignEach f X.env).map (·.2)) e) (λ_ g=>∃h j,Inv X a h j g/\Q h j) X.xe s
abbrev US:=V->V->Hp->VK->Prop
def UC(X:Cx)(op:adJ)(t:US):Prop:=
 ∀(a:G (J×Obj)) (s:Xd) (b:St) (H:Hp) (x y:V) (v u:U) (Q:VK),Inv X a b H s->RelV x v->RelV y u->t x y H Q->
  wpAny (model X.prog X.w) X.A (inplaceOp op v u) (EP X a b Q) X.xe s
section
variable{X:Cx}{Z:Pos}
def oV(i:Nat):TG:=λv a H Q=>Q (a.set i (M v)) H
def Lg(c:X.N.Nodup)(b:X.N[i]?=M x)(a:Qx X.env.scope x)(hf:X.fn x=S\/X.env.scope.names.lookup x=M .local:=by first|show .inl W|show .inr W|assumption):PG X (.Name x Z) (oV i):=by intro pins s σ H v u Q I r h;show ahk (mV I c b a r (λf e=>#[_,H,e,h]) hf)
def Mm:x9:=λb a H Q=>b=[]/\Q a H
def BI(t:TG)(u:x9):x9:=λf b H Q=>∃v r,f=v::r/\t v b H λa e=>u r a e Q
def KP:TN X [] Mm:=by intro a s b H g f Q I r h;let(e,h):=h;subst e;ext r;show assignInOrder_nil #[b,H,I,h]
def D6(n:PG X e t)(m:TN X es u)
  (l:(assignEach (e::es) X.env).map (·.2)=assign e X.env::(assignEach es X.env).map (·.2):=by rfl):TN X (e::es) (BI t u):=by
 intro a s f H y w Q I r h;let(v,q,e1,h):=h;subst e1;cases r with
 |cons r i=>rw[l];show assignInOrder_cons (bV (n a s f H _ _ _ I r h) λ_ g a=>?_);let(b,p,o,j):=a;show m a g b p _ _ Q o i j
def KM(K:CL)(n:Nat)(t:x9):TG:=λv b H Q=>∃a xs,v=.ref a/\SqT K H a xs/\xs.length=n/\t xs b H Q
def P4(q:X.calm=S)(h:TN X es t)
  (c:(assignEach es X.env).length=n:=by rfl) (dg:(assignEach es X.env).findIdx? (·.1)=P:=by rfl):PG X (.Tuple es k Z) (KM X.K n t):=by
 intro f s i H v u Q I r g;let(a,xs,e1,m,p,g):=g;subst e1;ext r;let(B,C,l,y):=I.tuple m;show assign_Tuple_tuple (I.ok.hd q) l (by simp[c,<-p,C.length]) dg λA j=>?_;let w:=I.kept (t':=s.toks) λb o e=>j b o (XB (b4 e)) e;show h f _ i H xs _ Q w (by simpa using C) g
def wu(c:TE)(g:TG):TS:=λD a H=>c a H λx b=>g x a b D.nx
def QP(o:PE X e te)(n:PG X C g)(m:swapsWithSole [C] e Z.line X.env=pure R:=by rfl)(l:swappedStores [C] e X.env=pure P:=by rfl)
  (p:(assignEach [C] X.env).map (·.2)=[assign C X.env]:=by rfl):PS X (.Assign [C] e Z) (wu te g):=by
 intro a s b H D I h;show wpAny_Assign_stores (bV (o a s b H _ I h) λv f a=>?_) m l;let(x,t,r,i,j):=a;rw[p];show bV (n a f b t x v _ r i j) λ_ u q=>q
def GJ{i:Nat}{x:Str}{e:XA}{a:TE}{pos':Pos}(j:X.N.Nodup)(g:X.N[i]?=M x)(c:Qx X.env.scope x)(he:PE X e a)(d:ZC e (M (.Name x pos')) Z.line X.env=pure R:=by rfl)(hf:X.fn x=S\/X.env.scope.names.lookup x=M .local:=by first|show .inl W|show .inr W|assumption):
  PS X (.Assign [.Name x pos'] e Z) (wu a (oV i)):=by
 intro pins s σ H D I h;show wpAny_Assign_Name (bV (he pins s σ H _ I h) λv s1 a=>?_) d;let(y,H1,m,b,f):=a;show mV m j g c b (λs2 l=>#[_,H1,l,f]) hf
def S6(i:Nat)(d:TE)(c:US):TS:=λD a H=>∃x,a[i]?=M (M x)/\d a H λy e=>c x y e λz b=>D.nx (a.set i (M z)) b
def PM(F:X.N.Nodup)(n:X.N[i]?=M x)(d:Qx X.env.scope x)(he:PE X e C)(B:UC X op o)(hf:X.fn x=S\/X.env.scope.names.lookup x=M .local:=by first|show .inl W|show .inr W|assumption):
  PS X (.AugAssign (.Name x pos') op e Z) (S6 i C o):=by
 intro pins s σ H D I h;let(v,e1,h):=h;let(m,E,K):=I.loc;let g:Ua X.env.scope x:=by rcases d with k|k;show .inl k;show .inr (.inl k)
 let(u,r,l):=K i x v n e1 g;show wpAny_AugAssign_Name ?_;let go:wpAny (model X.prog X.w) X.A (eval e X.env) (λw f=>wpAny (model X.prog X.w) X.A (inplaceOp op u w) (λr b=>wpAny (model X.prog X.w) X.A (storeName X.env x r) (λ_=>SP X pins D .next) X.xe b) X.xe f) X.xe s:=by show bV (he pins s σ H _ I h) λw s1 #[y,H1,O,q,A]=>?_;show bV (B pins s1 σ H1 v y u w _ O r q A) λz s2 a=>?_;let(T,Q,N,p,t):=a;show mV N F n d p (λs3 I3=>#[_,Q,I3,t]) hf
 rcases l with⟨a,hm⟩|⟨a,c,L,j⟩
 .show afM I.ok.kind a E hm go
 .rcases a with a|a
  .show age I.ok.kind a L j go
  .rcases d with k|k
   .let:X.env.scope.names.lookup x=M .free:=a;rw[k]at this;ext this
   .let:X.env.scope.names.lookup x=M .free:=a;rw[k]at this;ext this
def Wa(f:Int->Int->Int):US:=λx y H Q=>∃i j,x=.int i/\y=.int j/\Q (.int (f i j)) H
def OE:UC X .Add (Wa λi j=>i+j):=by intro a s f H x y v u Q I e b h;let(i,j,e1,e2,q):=h;subst e1;subst e2;let(t,rfl):=e;let(g,rfl):=b;show iadd_int #[.int _,H,I.tok _,#[_,W],q]
end
section
variable{X:Cx}{Z:Pos}
def Gc(c:TT)(d:TS):TS:=λD a H=>∃W:Nat->St->Hp->Prop,(∃m,W m a H)/\∀m a H,W m a H->
 c a H λb e=>if b=S then∃N:St->Hp->Prop,(∀f h,N f h->∃g,g<m/\W g f h)/\d {D with nx:=N,ct:=N,bk:=D.nx} a e else D.nx a e
def Ei(q:acO (model X.prog X.w) X.A X.env X.xe)(L:PT X c tc)(M:PSs X body tb):PS X (.While c body [] Z) (Gc tc tb):=by
 intro e s B H D I h;let(W,(K,E),turn):=h;show wpAny_While (codeAny_whileLoop (λn J=>∃w A,Inv X e w A J/\W n w A) ?_ K #[B,H,I,E]);rintro n G ⟨g,y,O,C⟩;show Zz q (bV (L e G g y _ O (turn n g y C)) λb F a=>?_);let(u,t,l):=a;cases b with
 |true=>
  let(N,r,l):=l;rw[ax rfl];show Zz q (bV (M e F g u _ t l) λf P j=>?_);cases f with
  |next=>let(a,i,I3,o):=j;let(p,hm,m):=r a i o;show#[p,hm,a,i,I3,m]
  |cont=>let(a,i,I3,o):=j;let(p,hm,m):=r a i o;show#[p,hm,a,i,I3,m]
  |brk=>show j
  |ret v=>show j
 |false=>rw[a4 Xs];show aau #[g,u,t,l]
end
structure It where
 go:Nat->Hp->Prop
 yld:Nat->Hp->V->Hp->Prop
 stop:Nat->Hp->Prop
def oz(X:Cx)(a:G (J×Obj))(H:Hp)(b:J):Prop:=
 H b=P/\b≠X.env.locals/\b∉X.fs/\(b∈X.ex\/X.s₀.heap.objs.size<=b)/\(∀x c,X.env.cells.lookup x=M c->c≠b)/\∀p∈X.pn++a,p.1≠b
def Inv.ad0(I:Inv X pins σ H s)(a:s.heap.objs.size<=b)(d:H' b=P):oz X pins H' b:=by
 show#[d,Yw (XD I.lt a),I.alg a,.inr (XX I.sz a),λx c e z=>?_,λp f z=>?_]
 .let(v,q):=I.cell x c e;show bb (XD q.lt (by rw[z];show a)) (YN _)
 .show bb (XD (b4 (I.pin p f).1) (by rw[z];show a)) (YN _)
structure Turn(P:Xx)(w:XU)(K:CL)(tg:XA)(J:It)(fp:G Xa)(it:Xa)(tn:Nat->Heap->Prop):Prop where
 mem:it∈fp
 obj:∀i h,tn i h->∀b∈fp,∃o,h.get? b=M o/\∀v,o.data≠.cell v
 keep:∀i h h',tn i h->(∀b∈fp,∀o,h.get? b=M o->h'.get? b=M o)->tn i h'
 item:∀(X:Cx),X.prog=P->X.w=w->X.K=K->X.calm=S->∀(i:Nat) (pins:G (Xa×Obj)) (s:Xd) (σ:St) (H:Hp) (E:U->Xd->Prop),Inv X pins σ H s->(∀b∈fp,oz X pins H b)->tn i s.heap->J.go i H->
  wpAny (model P w) X.A (pyNext (.ref it)) (λr s1=>∃u,r=M u/\
   wpAny (model P w) X.A (letOwnedTupleGo tg (.ref it) u) (λ_ s2=>∃x H',Inv X pins σ H' s2/\RelV x u/\J.yld i H x H'/\tn (i+1) s2.heap/\∀b∈fp,H' b=Ld) E s1) E s
 done:∀(X:Cx),X.prog=P->X.w=w->X.K=K->X.calm=S->∀(i:Nat) (pins:G (Xa×Obj)) (s:Xd) (σ:St) (H:Hp) (E:U->Xd->Prop),Inv X pins σ H s->(∀b∈fp,oz X pins H b)->tn i s.heap->J.stop i H->
  wpAny (model P w) X.A (pyNext (.ref it)) (λr s1=>r=Ld/\Inv X pins σ H s1) E s
 self:∀(A:XO) (i:Nat) (s:Xd) (Q:U->Xd->Prop) (E:U->Xd->Prop),tn i s.heap->Q (.ref it) s->wpAny (model P w) A (pyIter (.ref it)) Q E s
abbrev TI:=St->Hp->(It->Hp->Prop)->Prop
def VQ(X:Cx)(a:G (Xa×Obj))(l:St)(m:XA)(R:It->Hp->Prop)(e:U)(h:Xd):Prop:=
 ∃(i:Xa) (j:G Xa) (g:Nat->Heap->Prop) (J:It) (f:Hp),e=.ref i/\Inv X a l f h/\Turn X.prog X.w X.K m J j i g/\g 0 h.heap/\(∀b∈j,oz X a f b)/\R J f
def PI(X:Cx)(f iter:XA)(e:TI):Prop:=
 ∀(a:G (J×Obj)) (s:Xd) (b:St) (H:Hp) (R:It->Hp->Prop),Inv X a b H s->e b H R->
  wpAny (model X.prog X.w) X.A (eval iter X.env) (λv g=>wpAny (model X.prog X.w) X.A (pyIter v) (VQ X a b f R) X.xe g) X.xe s
def zW{M:adI}{A:XO}{E:U->Xd->Prop}{s:Xd}{b:XA}{e:J}{u:U}{o:Obj}{n:String}{c:Array U}{Q:Unit->Xd->Prop}(f:s.heap.get? e=cL o)(g:o.cls=.type n)(hd:o.data=.fields c)
  (d:["enumerate","zip","dict_itemiterator","dict_reverseitemiterator","odict_iterator","itertools.zip_longest","itertools.pairwise"].contains n=R) (a:Q ⟨⟩ s):wpAny M A (letOwnedTupleGo b (.ref e) u) Q E s:=by
 ext letOwnedTupleGo;ext b<;>first
  |show W9 a
  |(ext u<;>first
    |show W9 a
    |(show lD (agD f ?_)
      rw[g,hd];show wpAny M A (if(["enumerate","zip","dict_itemiterator","dict_reverseitemiterator","odict_iterator","itertools.zip_longest","itertools.pairwise"].contains n&&c[0]? ==cL (rawInt _))=S then _ else _) Q E s;rw[a4 (by intro h;rw[d,acH]at h;ext h)];show W9 a))
def Vw(K:CL)(a:J):It:=
 #[λi H=>∃xs x,SqL K H a xs/\xs[i]?=M x,λi H x b=>b=H/\∀xs,SqL K H a xs->xs[i]?=M x,λi H=>∃xs,SqL K H a xs/\xs.length<=i]
def U1(K:CL)(a:J):It:=
 #[λi H=>∃xs x,SqT K H a xs/\xs[i]?=M x,λi H x b=>b=H/\∀xs,SqT K H a xs->xs[i]?=M x,λi H=>∃xs,SqT K H a xs/\xs.length<=i]
def UO(lo:Int)(n:Nat):It:=#[λi _=>i<n,λi H x a=>a=H/\x=.int (lo+i),λi _=>n<=i]
theorem CW{K:CL}(a g:Xa):Turn Pz0 w K tg (Vw K a) [g] g (λi h=>h.IsListIter g a i) where
 mem:=by simp
 obj:=λi h f b j=>by
  let e:b=g:=by simpa using j
  subst e;let(o,e,c,d):=f;show#[o,e,λv z=>by rw[d]at z;ext z]
 keep:=λi h N f k=>f.at λo e=>k g (by simp) o e
 item:=by intro X A t B M i m s O H E I q f y;subst A t B;let(xs,x,n,r):=y;let(X6,rv,p,S):=I.list n;let(u,U,R):=rv.get r;let(L,J,Y,G,F,C):=q g (by simp);show aeX f p.isList (by simpa using U) λN l Q=>?_;let I1:=I.turned (t':=s.toks) (λb o j e=>(Q.2 b j).trans e) L J G F C;let(o,e,c,d):=id l;show#[u,W,zW e c d () #[x,H,I1,R,#[W,λys T=>by rw[I.afn T n];show r],l,λb j=>(q b j).1]]
 done:=by intro X A t B M i m s O H E I q f y;subst A t B;let(xs,n,r):=y;let(X6,rv,p,S):=I.list n;let(L,J,Y,G,F,C):=q g (by simp);let hl:=rv.length;show afx (I.ok.hd M) f p.isList (by simp;ext) λN Z=>#[W,I.turned (λb o j e=>Z b o j e) L J G F C]
 self:=λ_ _ _ _ _ f h=>afy f h
theorem y8{K:CL}(a g:Xa):Turn Pz0 w K tg (U1 K a) [g] g (λi h=>h.IsTupleIter g a i) where
 mem:=by simp
 obj:=λi h f b j=>by
  let e:b=g:=by simpa using j
  subst e;let(o,e,c,d):=f;show#[o,e,λv z=>by rw[d]at z;ext z]
 keep:=λi h O f k=>f.at λo e=>k g (by simp) o e
 item:=by intro X A t B N i m s Q H E I q f y;subst A t B;let(xs,x,n,r):=y;let(M,rv,p,T):=I.tuple n;let(u,Y,S):=rv.get r;let(L,J,Z,G,F,C):=q g (by simp);show wpAny_pyNext_tuple_item f (show s.heap.IsTuple a M.toArray from p) (by simpa using Y) λO l R=>?_;let I1:=I.turned (t':=s.toks) (λb o j e=>(R.2 b j).trans e) L J G F C;let(o,e,c,d):=id l;show#[u,W,zW e c d () #[x,H,I1,S,#[W,λys U=>by rw[I.aeG U n];show r],l,λb j=>(q b j).1]]
 done:=by intro X A t B N i m s Q H E I q f y;subst A t B;let(xs,n,r):=y;let(M,rv,p,T):=I.tuple n;let(L,J,Z,G,F,C):=q g (by simp);let hl:=rv.length;show wpAny_pyNext_tuple_end (I.ok.hd N) f (show s.heap.IsTuple a M.toArray from p) (by simp;ext) λO eb=>#[W,I.turned (λb o j e=>eb b o j e) L J G F C]
 self:=λ_ _ _ _ _ f h=>wpAny_pyIter_tupleiter f h
theorem zc{K:CL}(g:Xa)(lo:Int)(n:Nat):Turn Y w K tg (UO lo n) [g] g (λi h=>IsRangeIter h g (lo+(i:Nat)*1) ((n:Int) - (i:Nat)) 1) where
 mem:=by simp
 obj:=λi h a b j=>by
  let e:b=g:=by simpa using j
  subst e;show#[_,a,λv z=>by let M:=z;ext M]
 keep:=λi h A a k=>k g (by simp) _ a
 item:=by intro X u p y r i f s L H E I m a q;subst u p y;let(J,G,R,F,C,B):=m g (by simp);let W:=Walks.range (prog:=X.prog) (w:=X.w) (I.ok.hd r) g lo 1 n;show W.item i s _ _ q a λv A N Q l O=>?_;let(t,rfl):=Q;let T:Inv X f L H {s with heap:=A,toks:=N}:=I.turned (λb o j e=>O b o (by simpa using j) e) J G F C B;show#[_,rfl,zW l rfl rfl () #[.int (lo+i),H,T,#[t,?_],#[rfl,rfl],l,λb j=>(m b j).1]];rw[Int.mul_one]
 done:=by intro X u p y r i f s L H E I m a q;subst u p y;let(J,G,R,F,C,B):=m g (by simp);show wpAny_pyNext_range_end (I.ok.hd r) a (by let:n<=i:=q;ext) λA S=>#[rfl,I.turned (λb o j e=>S b o j e) J G F C B]
 self:=λ_ _ _ _ _ a h=>wpAny_pyIter_rangeiter a h
section
variable{X:Cx}{Z:XA}
def Eg{a:G (J×Obj)}{f:St}{H:Hp}{s:Xd}{R:It->Hp->Prop}{E:U->Xd->Prop}{lo c:Int}{t u v:Tok}{g:Nat}(I:Inv X a f H s)(n: -(2^62)<=lo)(m:lo<2^62)(l: -(2^62)<=c)(j:c<2^62)
  (q:R (UO lo (c - lo).toNat) H):wpAny (model X.prog X.w) X.A (pyIter (.ref s.heap.objs.size)) (VQ X a f Z R) E {s with heap:=s.heap.push {cls:=.type "range",data:=.fields #v[.int lo t,.int c u,.int 1 v]},toks:=g}:=by
 show wpAny_pyIter_range (IsRange.new ..) (small_one n m l j) ?_;let h:Inv X a f H {s with heap:=s.heap.push {cls:=.type "range",data:=.fields #v[.int lo t,.int c u,.int 1 v]},toks:=g}:=I.kept λb o e=>b3 _ e;show#[(s.heap.push {cls:=.type "range",data:=.fields #v[.int lo t,.int c u,.int 1 v]}).objs.size,[(s.heap.push {cls:=.type "range",data:=.fields #v[.int lo t,.int c u,.int 1 v]}).objs.size],_,_,H,W,
  h.kept (t':=g) λb o e=>b3 _ e,zc _ lo (c - lo).toNat,?_,λb i=>?_,q]
 .let e1:lo+((0:Nat):Int)*1=lo:=by simp
  let e2:(((c - lo).toNat:Nat):Int) - ((0:Nat):Int)=XS.Range.rangeSize lo c 1:=by rw[amf];split<;>ext
  show IsRangeIter _ _ (lo+((0:Nat):Int)*1) ((((c - lo).toNat:Nat):Int) - ((0:Nat):Int)) 1;rw[e1,e2];show b5 _ W
 .let e:b=(s.heap.push {cls:=.type "range",data:=.fields #v[.int lo t,.int c u,.int 1 v]}).objs.size:=by simpa using i
  subst e;show h.ad0 (Xg _) (h.Yq.fresh (Xg _))
def N7(c:TA):TI:=λa H R=>c a H λe b=>∃j:Int,e=[.int j]/\ -(2^62)<=j/\j<2^62/\R (UO 0 j.toNat) b
def Cr(o:Gl X "range")(hm:X.mg "range"=P)(c:PA X [a] C)(n:Xu [a] X.env=[(W7,eval a X.env)]:=by rfl):PI X Z (.Call (.Name "range" p) [a] [] pos) (N7 C):=by
 intro b s g H R I h;show Call_ (oi I o hm boot_range (Z1 (bV (c pos b s g H _ I h) λv w #[A,y,u,l,f]=>?_) n W));let(j,e,f,m,q):=f;subst e;cases l with
 |cons r i=>ext i;let(t,rfl):=r;show call_range_1 (Eg u () () f m (by simpa using q))
def C0(e:TI)(g:TG)(c:TS):TS:=λD a H=>e a H λJ h=>∃W:Nat->Nat->St->Hp->Prop,(∃m,W 0 m a h)/\∀i m a H,W i m a H->
 (J.stop i H/\D.nx a H)\/(J.go i H/\∃N:St->Hp->Prop,(∀j l,N j l->∃n,n<m/\W (i+1) n j l)/\∀x l,J.yld i H x l->g x a l λb f=>c {D with nx:=N,ct:=N,bk:=D.nx} b f)
def rX(a:G J)(h:Heap):G (J×Obj):=a.filterMap λb=>(h.get? b).map λo=>(b,o)
theorem jo(a:b∈C)(e:h.get? b=M o):(b,o)∈rX C h:=aaq.mpr #[b,a,by rw[e];rfl]
def C9(a:p∈rX C h):p.1∈C/\h.get? p.1=M p.2:=by
 let(b,f,e):=aaq.mp a;cases q:h.get? b with
 |none=>rw[q]at e;ext e
 |some o=>rw[q]at e;let g:=Xm e;subst g;show#[f,q]
theorem Inv.pinned(I:Inv X pins σ H s)(i:∀b∈fp,oz X pins H b)(h:∀b∈fp,∃o,s.heap.get? b=M o/\∀v,o.data≠.cell v):Inv X (pins++rX fp s.heap) σ H s:=
 I.acZ λp g=>(X3.mp g).elim (λz=>I.pin p (XM _ z)) λz=>by let(a,e):=C9 z;let(m,l,j,_):=i p.1 a;let(o,f,d):=h p.1 a;rw[e]at f;ext f;show#[e,m,l,j,d]
theorem Inv.abC(I:Inv X (pins++pl) σ H s):Inv X pins σ H s:=I.acZ λp a=>I.pin p (XM _ (Yg _ a))
def DQ(M:acO (model X.prog X.w) X.A X.env X.xe)(c:X.calm=W3)(z:PI X Z iter wi)(V:PG X Z g)(p:PSs X body tb)
  (k:∀x,foldedSetIterable iter X.env x=pure x:=by intro _;rfl):PS X (.For Z iter body [] pos) (C0 wi g tb):=by
 intro j s σ H D I h;show wpAny_For (bV (z j s σ H _ I h) λv s1 h1=>bV h1 λitv s2 h2=>?_) k;let(it,P,tn,J,H2,e,I2,T,S,f2,W,(m0,w0),turn):=h2;subst e;let F:∀{B:Hp},(∀b∈P,B b=Ld)->∀b∈P,oz X j B b:=λhn b p=>#[hn b p,(f2 b p).2];show codeAny_forLoop_any (λn s'=>∃i A B,Inv X j A B s'/\tn i s'.heap/\(∀b∈P,B b=Ld)/\W i n A B) ?_ m0 #[0,σ,H2,I2,S,λb p=>(f2 b p).1,w0];rintro n s3 ⟨i,l,Q,I3,K,O,w3⟩;rcases turn i n l Q w3 with⟨G,qn⟩|⟨go,N,hN,step⟩
 .show Zz M (bV (T.done X rfl rfl rfl c i j s3 l Q X.xe I3 (F O) K G) λr s4 #[Y,I4]=>?_);subst Y;show aau #[l,Q,I4,qn]
 .show Zz M (bV (T.item X rfl rfl rfl c i j s3 l Q X.xe I3 (F O) K go) λr s4 #[u,Y,h4]=>?_)
  subst Y;show Zz M (bV h4 λ_ s5 a=>?_);let(x,H5,I5,r5,y5,E,fr5):=a;let I5':=I5.pinned (F fr5) (T.obj _ _ E);show Zz M (bV (V _ s5 l H5 x u _ I5' r5 (step x H5 y5)) λ_ s6 a=>?_);let(w,H6,I6,q6):=a;show Zz M (bV (p _ s6 w H6 _ I6 q6) λf U C=>?_);let q:∀{a:St} {y:Hp},Inv X (j++rX P s5.heap) a y U->N a y->∃m,m<n/\∃i A B,Inv X j A B U/\tn i U.heap/\(∀b∈P,B b=Ld)/\W i m A B:=λ{a y} t L=>by let(m',hm,w7):=hN a y L;show#[m',hm,i+1,a,y,t.abC,T.keep _ _ _ E λb p o e=>(t.pin (b,o) (XM _ (XM _ (jo p e)))).1,λb p=>?_,w7];let(o,e,d):=T.obj _ _ E b p;show(t.pin (b,o) (XM _ (XM _ (jo p e)))).2.1
  cases f with
  |next=>let(a,y,t,L):=C;show q t L
  |cont=>let(a,y,t,L):=C;show q t L
  |brk=>let(a,y,t,C):=C;show#[a,y,t.abC,C]
  |ret v=>let(x7,a,y,t,r7,C):=C;show#[x7,a,y,t.abC,r7,C]
end
abbrev R2:=V->V->Hp->VK->Prop
def OpR(X:Cx)(f:U->U->Sem U)(r:R2):Prop:=
 ∀(a:G (J×Obj)) (s:Xd) (b:St) (H:Hp) (x y:V) (v u:U) (Q:VK),Inv X a b H s->RelV x v->RelV y u->r x y H Q->
  wpAny (model X.prog X.w) X.A (f v u) (EP X a b Q) X.xe s
def Zi(X:Cx)(f:U)(r:G V->Hp->VK->Prop):Prop:=
 ∀(a:G (J×Obj)) (s:Xd) (b:St) (H:Hp) (xs:G V) (e:G U) (Q:VK),Inv X a b H s->Vals xs e->r xs H Q->
  wpAny (model X.prog X.w) X.A (call f e) (EP X a b Q) X.xe s
def DJ(r:R2)(d c:TE):TE:=λa H Q=>d a H λx e=>c a e λy b=>r x y b Q
def rI(C:Int->Int->Prop)(g:Int->Int->V):R2:=λx y H Q=>∃i j,x=.int i/\y=.int j/\C i j/\Q (g i j) H
def An(g:Int->Int->V):R2:=λx y H Q=>∃i j,x=.int i/\y=.int j/\Q (g i j) H
section
variable{X:Cx}{a b c:XA}{Z Y O:TE}{T:Pos}
def QQ(r:PE X a Z)(n:PE X b Y){R:V->V->Hp->Prop}(I:Inv X pins σ H s)
  (h:Z σ H λx H1=>Y σ H1 λy d=>R x y d) {f:U->U->Sem U}
  (m:∀v u s2 x y d,Inv X pins σ d s2->RelV x v->RelV y u->R x y d->wpAny (model X.prog X.w) X.A (f v u) Q X.xe s2):
  wpAny (model X.prog X.w) X.A (eval a X.env) (λv q=>wpAny (model X.prog X.w) X.A (eval b X.env) (λu k=>wpAny (model X.prog X.w) X.A (f v u) Q X.xe k) X.xe q) X.xe s:=by
 show bV (r pins s σ H _ I h) λv e a=>?_;let(x,H1,p,i,l):=a;show bV (n pins e σ H1 _ p l) λu s2 a=>?_;let(y,d,o,g,j):=a;show m v u s2 x y d o i g j
def Sq(l:OpR X (Zp op) r)(d:PE X a Z)(m:PE X b Y):PE X (.BinOp a op b T) (DJ r Z Y):=by intro e s f H Q I h;show wpAny_BinOp (QQ d m I h λv u g x y o n j i q=>l e g f o x y v u Q n j i q)
def U4{g:Int->Int->Int}
  (e:∀(i j:Int) (t u:Tok) (s:Xd) (Q:U->Xd->Prop) (E:U->Xd->Prop),C i j->Q (.int (g i j) s.toks) {s with toks:=s.toks+1}->wpAny (model X.prog X.w) X.A (f (.int i t) (.int j u)) Q E s):
  OpR X f (rI C λi j=>.int (g i j)):=by
 intro l s r H x y v u Q I o n h;let(i,j,rfl,rfl,p,q):=h;let(t,rfl):=o;let(m,rfl):=n;show e i j t m s _ _ p #[.int (g i j),H,I.tok _,#[_,W],q]
def SQ{g:Int->Int->Int}
  (e:∀(i j:Int) (t u:Tok) (s:Xd) (Q:U->Xd->Prop) (E:U->Xd->Prop),Q (.int (g i j) s.toks) {s with toks:=s.toks+1}->wpAny (model X.prog X.w) X.A (f (.int i t) (.int j u)) Q E s):
  OpR X f (An λi j=>.int (g i j)):=by
 intro l s p H x y v u Q I o n h;let(i,j,rfl,rfl,q):=h;let(t,rfl):=o;let(m,rfl):=n;show e i j t m s _ _ #[.int (g i j),H,I.tok _,#[_,W],q]
def Ph{g:Int->Int->Bool}
  (e:∀(i j:Int) (t u:Tok) (s:Xd) (Q:U->Xd->Prop) (E:U->Xd->Prop),Q (.bool (g i j)) s->wpAny (model X.prog X.w) X.A (f (.int i t) (.int j u)) Q E s):
  OpR X f (An λi j=>.bl (g i j)):=by
 intro l s p H x y v u Q I o n h;let(i,j,rfl,rfl,q):=h;let(t,rfl):=o;let(m,rfl):=n;show e i j t m s _ _ #[.bl (g i j),H,I,W,q]
def af1(i j:Int):Prop:=(-(2^64)<i/\i<2^64)\/(-(2^64)<j/\j<2^64)
def af1.ok(h:af1 i j):IntMulOk i j:=by
 rcases h with⟨f,e⟩|⟨f,e⟩
 .show .of_left (amg f e)
 .show .of_right (amg f e)
theorem QL:OpR X (Zp .Add) (An λi j=>.int (i+j)):=SQ λ_ _ _ _ _ _ _ q=>add_int q
theorem OW:OpR X (Zp .Sub) (An λi j=>.int (i - j)):=SQ λ_ _ _ _ _ _ _ q=>sub_int q
theorem Pd:OpR X (Zp .Mult) (rI af1 λi j=>.int (i*j)):=U4 λ_ _ _ _ _ _ _ e q=>mul_int q e.ok
theorem Rn:OpR X (Zp .Mod) (rI (λ_ j=>0<j) λi j=>.int (i % j)):=U4 λi j _ _ _ _ _ e q=>by let f:(0:Int)<j:=e;show mod_int' () (by rw[Int.fmod_eq_emod_of_nonneg i ()];show q)
end
section
variable{X:Cx}{a b c:XA}{Z T O:TE}{Y:Pos}
def G8(I:Inv X pins σ H s)(q:Q (.bl k) H)(e:k=o):EP X pins σ Q (.bool o) s:=by subst e;show#[.bl k,H,I,W,q]
theorem SC:OpR X (YR .Lt) (An λi j=>.bl (decide (i<j))):=Ph λ_ _ _ _ _ _ _ q=>lt_int q
theorem SL:OpR X (YR .Gt) (An λi j=>.bl (decide (j<i))):=Ph λ_ _ _ _ _ _ _ q=>gt_int q
theorem Ui:OpR X (YR .GtE) (An λi j=>.bl (decide (j<=i))):=Ph λ_ _ _ _ _ _ _ q=>ge_int q
def zp:OpR X (YR .Is) (λx y H Q=>y=.Zo/\Q (.bl (decide (x=.Zo))) H):=by
 intro f s i H x y v u Q I e g h;let(rfl,q):=h;ext g;show is_none_gen (G8 I q ?_);ext x<;>first
  |(ext e;rfl)
  |(let(t,rfl):=e;rfl)
def Mq:OpR X (YR .IsNot) (λx y H Q=>y=.Zo/\Q (.bl (!decide (x=.Zo))) H):=by
 intro f s i H x y v u Q I e g h;let(rfl,q):=h;ext g;show isnot_none_gen (G8 I q ?_);ext x<;>first
  |(ext e;rfl)
  |(let(t,rfl):=e;rfl)
def vI{op:aeK}{r:R2}(l:OpR X (YR op) r)(d:PE X a Z)(m:PE X b T)(hm:behindInMarks op b=R):PE X (.Compare a [op] [b] Y) (DJ r Z T):=by intro e s f H Q I h;show akc (QQ d m I h λv u g x y o n j i q=>l e g f o x y v u Q n j i q) hm
def tU(t:TE):TT:=λe H Q=>t e H λx f=>∃k,x=.bl k/\Q k f
def v4(t:OpR X (YR op) r)(d:PE X a Z)(w:PE X b T)(hm:behindInMarks op b=R):PT X (.Compare a [op] [b] Y) (tU (DJ r Z T)):=by
 intro f s g H Q I h;show afw (bV (d f s g H _ I h) λv j #[x,F,B,n,q]=>bV (w f j g F _ B q) λu i #[y,E,A,m,p]=>
  bV (t f i g E x y v u _ A n m p) λc G a=>?_) hm;let(z,C,I3,l,k,e,o):=a
 subst e;ext l;show ZF #[C,I3,o]
def uS:(Xl:Nat)<2^63:=by rw[YU];decide
def hW(r:Vals [x] us):∃u,us=[u]/\RelV x u:=by
 cases r with
 |cons f e=>ext e;show#[_,W,f]
def zU(r:Vals [x,y] us):∃u d,us=[u,d]/\RelV x u/\RelV y d:=by
 cases r with
 |cons h g=>
  cases g with
  |cons f e=>ext e;show#[_,_,W,h,f]
def Ci(g:X.calm=S):Zi X (.builtin "max") (λxs H Q=>∃i j,xs=[.int i,.int j]/\Q (.int (if j>i then j else i)) H):=by
 intro f s l H xs n Q I r h;let(i,j,rfl,q):=h;let(u,m,rfl,(t,rfl),(p,rfl)):=zU r;show max_two_ints (I.ok.hd g) λv o k=>#[_,H,I.kept k,?_,q];by_cases e:j>i
 .rw[ax e,ax e];show#[_,W]
 .rw[a4 e,a4 e];show#[_,W]
def Ln(K:CL)(x:V)(H:Hp)(n:Nat):Prop:=
 match x with
 |.str y=>y.length<=Xl/\n=y.length
 |.byt y=>y.size<=Xl/\n=y.size
 |.ref p=>(∃xs,SqL K H p xs/\n=xs.length)\/∃xs,SqT K H p xs/\n=xs.length
 |_=>False
def rT:Zi X (.builtin "len") (λxs H Q=>∃x n,xs=[x]/\Ln X.K x H n/\Q (.int n) H):=by
 intro m s A H xs B Q I r h;let(x,n,rfl,e,q):=h;let(u,rfl,i):=hW r;let E:=uS;let C:=YU;cases x with
 |str y=>let(t,rfl):=i;let(v,g):=e;subst g;show len_str () #[.int _,H,I.tok _,#[_,W],q]
 |byt y=>let(t,rfl):=i;let(v,g):=e;subst g;show PySem.W.len_bytes () #[.int _,H,I.tok _,#[_,W],q]
 |ref p=>
  ext i;let g:=e;rcases g with⟨xs,l,g⟩|⟨xs,l,g⟩
  .subst g;let(w,j,pl,o):=I.list l;let f:=j.length;show Calls.call_len_list pl.isList (by simp only[Xr];ext) #[.int xs.length,H,I.tok _,#[_,by simp only[Xr];rw[f]],q]
  .subst g;let(w,j,pl,o):=I.tuple l;let f:=j.length;show len_tuple pl (by simp only[Xr];ext) #[.int xs.length,H,I.tok _,#[_,by simp only[Xr];rw[f]],q]
 |_=>show(show False from e).elim
end
structure ad5(h:Heap)(x dx C:J)(mA:Str->I U):Prop where
 obj:h.get? x=M (Y6 C dx)
 ns:h.Ns1 dx mA
 ne:dx≠x
def tT{h:Heap}(n:h.Ns1 dx C):∃c,h.get? dx=M c/\∀name,aaY name c=M (C name):=by
 let(o,es,m,g,j,i,_,hm):=n;show#[o,g,λname=>?_];let e:=hm name;unfold nsFind findBy at e;rw[<-aer]at e;ext aaY;rw[j];dsimp only;split
 .rename_i y q;rw[q]at e;show dw M e
 .rename_i q
  rw[q]at e;let a:es.toList.any (·.refKey)=R:=by rw[List.any_eq_false];intro y f;let(z,t,b):=i y (Array.mem_toList_iff.mp f);simp[Y7.refKey,b]
  let l:¬es.toList.any (·.refKey)=S:=by rw[a];show Xs
  rw[a4 l];show dw M e
theorem ad5.look(I:ad5 h x dx C mA):∃a,aaZ h x (Y6 C dx) C (M a)/\∀name,aaY name a=M (mA name):=
 let#[a,b,e]:=tT I.ns
 #[a,#[I.obj,W,W,b],e]
section
variable{T:Xx}{w:XU}{A:XO}{E:W2->Xd->Prop}{s:Xd}{K:CL}{x O C f:Xa}{Z:Str->bt W2}{Y:Str}{v:W2}
def KO(X:K.In s.heap)(I:ad5 s.heap x O C Z)(i:ZZ K C Y=S)(g:Zq K C=S)
  (c:XW K (.ref C) Y=M P) (b:Z Y=M v) (a:aes v=S) (h:Q v {s with toks:=s.toks+1}):
  wpAny (model T w) A (getAttr (.ref x) Y expr) Q E s:=by
 let(j,J,e):=I.look;show PySem.W.get_value X J (abe i).1 (PySem.W.findObj_own g c W (by rw[e,b])) a h
def GG(X:K.In s.heap)(I:ad5 s.heap x O C Z)(a:ZZ K C Y=S)
  (j:XW K (.ref C) Y=M (M (.ref f))) (g:Zj K (.ref f)=S) (e:Z Y=P) (h:Q (.ref f,[.ref x]) s):
  wpAny (model T w) A (getMethod (.ref x) Y pl) Q E s:=by
 let(b,J,i):=I.look;show PySem.W.method_fn X J (abe a).1 (abe a).2 j (beq_iff_eq.mp g) (by show(aaY Y b).map (·.isSome)=M R;rw[i,e];rfl) h
def Jh(X:K.In s.heap)(I:ad5 s.heap x O C Z)
  (p:XW K (.ref C) "__setattr__"=M (M (.builtin "object.__setattr__"))) (q:abv K C=S) (o:abX K C Y=M P) (r:Zq K C=S)
  (n:ac9 Z ns) (d:ns.length<=Xl)
  (h:∀c,ad5 c x O C (λy=>if y=Y then M v else Z y)->Heap.SameBut O s.heap c->Q ⟨⟩ {s with heap:=c,toks:=s.toks+2}):
  wpAny (model T w) A (setAttr (.ref x) Y v) Q E s:=by
 let(F,J,H):=I.look;show PySem.W.set_plain X J p (PySem.W.osa_open X J q o λb=>?_);let(L,t,j):=PySem.W.any_some r;let m:=I.obj;show lD (W9 (lD (lD (ake m (lD (ahT (PySem.W.looks_clsIn X t) ?_))))));rw[j];show W9 (lD (W9 (lD ?_)));show wpAny_nsSet1 I.ns λc e a=>?_;let(G,u,B,g,i,l):=e.count (ai8 Y v n);show lD (ahU g (by rw[i];show ahV (XX l (by rw[Xn];ext))) ?_);show W9 (h _ #[(a.2 _ (c9 I.ne)).trans I.obj,e,I.ne] a)
def HH{R:acP->Xd->Prop}{c:G U}{b:G (Str×U)}(X:K.In s.heap)(hm:abY K C=S)
  (k:XW K (.ref C) "__init__"=M (M (.ref f))) (e:aeY K (.ref f)=M (.type "function"))
  (h:codeAny (model T w) (A.under (.builtin "type.__call__" #[.ref C::c,b])) (.call (.ref f) #[.ref (s.heap.objs.size+1)::c,b]) (PySem.W.InitBack (s.heap.objs.size+1) R)
   {s with heap:=(s.heap.push YB).push (Y6 C s.heap.objs.size)}):
  codeAny (model T w) A (.call (.ref C) #[c,b]) R s:=by
 let(j,g,d,t,i):=s;show PySem.W.make_core (PySem.W.makes_of X hm) (PySem.W.looks_findIn X k) (λa=>PySem.W.bind_fn X a e) (.inl W) h
end
def iE(f:Str)(v:V):G (Str×V)->G (Str×V)
 |[]=>[(f,v)]
 |(g,x)::r=>if g=f then(g,v)::r else(g,x)::iE f v r
theorem oP(f g:Str)(v:V):∀fs:G (Str×V),(iE f v fs).lookup g=if g=f then M v else fs.lookup g
 |[]=>by
  show Za g [(f,v)]=_;by_cases h:g=f
  .let a:=beq_iff_eq.mpr h;simp only[Za,a,ax h]
  .let a:=beq_eq_false_iff_ne.mpr h;simp only[Za,a,a4 h]
 |(k,x)::r=>by
  let i:=oP f g v r;rw[show iE f v ((k,x)::r)=(if k=f then(k,v)::r else(k,x)::iE f v r)from rfl];by_cases b:k=f
  .rw[ax b]
   by_cases h:g=k
   .let a:=beq_iff_eq.mpr h;simp only[Za,a,ax (h.trans b)]
   .let a:=beq_eq_false_iff_ne.mpr h;simp only[Za,a,a4 (λe:g=f=>h (e.trans b.symm))]
  .rw[a4 b]
   by_cases h:g=k
   .let a:=beq_iff_eq.mpr h;simp only[Za,a,a4 (λe:g=f=>b (h.symm.trans e))]
   .let a:=beq_eq_false_iff_ne.mpr h;simp only[Za,a];show i
theorem nJ(f:Str)(v:V):∀fs:G (Str×V),f∈(iE f v fs).map (·.1)/\∀g,g∈fs.map (·.1)->g∈(iE f v fs).map (·.1)
 |[]=>#[by simp[iE],λg h=>by simp at h]
 |(k,x)::r=>by
  let(i,b):=nJ f v r;rw[show iE f v ((k,x)::r)=(if k=f then(k,v)::r else(k,x)::iE f v r)from rfl];by_cases a:k=f
  .rw[ax a];subst a;show#[by simp,λg h=>by simpa using h]
  .rw[a4 a]
   show#[?_,λg h=>?_]
   .rw[Xt];show Xf _ i
   .rw[Xt]at h⊢
    rcases Xw.mp h with e|e
    .show Xw.mpr (.inl e)
    .show Xf _ (b g e)
theorem pd(f:Str)(v:V):∀fs:G (Str×V),(iE f v fs).length<=fs.length+1
 |[]=>by simp[iE]
 |(k,x)::r=>by
  let b:=pd f v r;rw[show iE f v ((k,x)::r)=(if k=f then(k,v)::r else(k,x)::iE f v r)from rfl];by_cases a:k=f
  .rw[ax a,Xn,Xn];ext
  .rw[a4 a,Xn,Xn];ext
def aad.some_of(r:aad (M v) o):∃u,o=M u/\RelV v u:=by
 cases o with
 |none=>show(show False from r).elim
 |some u=>show#[u,W,r]
def aad.none_of(r:aad P o):o=P:=by
 cases o with
 |none=>rfl
 |some u=>show(show False from r).elim
def t8(r:RelV v u):aes u=S:=by
 cases v with
 |Zo=>cases(show u=W2.none from r);rfl
 |bl b=>cases(show u=W2.bool b from r);rfl
 |int i=>let(t,e):=(show∃t,u=W2.int i t from r);ext e;rfl
 |str x=>let(t,e):=(show∃t,u=W2.str x t from r);ext e;rfl
 |byt b=>let(t,e):=(show∃t,u=W2.bytes b t from r);ext e;rfl
 |flt b=>let(t,e):=(show∃t,u=W2.float b t from r);ext e;rfl
 |ref a=>cases(show u=W2.ref a from r);rfl
 |ty n=>cases(show u=W2.type n from r);rfl
section
variable{P:Xx}{w:XU}{H X:Hp}{h T:Heap}{a C Z:Xa}{fs Y:bg (Str×V)}
def vH(Yq:HOk P w H h)(e:H a=M (.ins C Z fs)):∃c,ad5 h a Z C c/\(∀f,aad (fs.lookup f) (c f))/\ac9 c (fs.map (·.1))/\fs.length<=1000/\H Z=M (.own a):=by let(d,z,ne,b,c,n,r,q):=(show ObjOk P w H h a (.ins C Z fs)from Yq a _ e);show#[c,#[b,n,ne],r,q,z,d]
end
structure Cls(K:CL)(C:J):Prop where
 pg:ZZ K C Str.empty=S
 hd:Zq K C=S
 po:abv K C=S
 sa:XW K (.ref C) "__setattr__"=M (M (.builtin "object.__setattr__"))
theorem Cls.get{K:CL}(c:Cls K C)(f:Str):ZZ K C f=S:=c.pg
def aax(K:CL)(C:J)(f:Str):Prop:=XW K (.ref C) f=M P
def aax.aiP{K:CL}(n:aax K C f):abX K C f=M P:=by ext abX;rw[show XW K (.ref C) f=M P from n];rfl
structure Con(K:CL)(C:J)(f:Str)(v:V)(u:U):Prop where
 at_:XW K (.ref C) f=M (M u)
 rel:RelV v u
 get:ZR K u "__get__"=M P
 cp:PySem.W.copiedNames.contains f=R
structure Meth(K:CL)(C:J)(m:Str)(f:J):Prop where
 at_:XW K (.ref C) m=M (M (.ref f))
 fn:Zj K (.ref f)=S
 kp:YM K (.ref f)=S
section
variable{X:Cx}{Z:bg (Xa×Obj)}{Y:St}{H:Hp}{s:Xd}{a C T:Xa}{fs:bg (Str×V)}{f:Str}{v:V}{A:XO}{E:W2->Xd->Prop}
def yh(I:Inv X Z Y H s)(e:H a=M (.ins C T fs))(c:Cls X.K C)(n:aax X.K C f)(l:fs.lookup f=M v)
  (h:∀u d,Inv X Z Y H d->RelV v u->Q u d):wpAny (model X.prog X.w) A (getAttr (.ref a) f b) Q E s:=by
 let(j,O,r,_,_,_):=vH I.Yq e;let(u,i,g):=aad.some_of (by rw[<-l];show r f);show KO I.kIn O (c.get f) c.hd n i (t8 g) (h u _ (I.tok _) g)
def qJ(I:Inv X Z Y H s)(e:H a=M (.ins C T fs))(c:Cls X.K C)(k:Meth X.K C m g)(l:fs.lookup m=P)
  (h:Q (.ref g,[.ref a]) s):wpAny (model X.prog X.w) A (getMethod (.ref a) m pl) Q E s:=by
 let(b,O,r,_,_,_):=vH I.Yq e;let i:=aad.none_of (by rw[<-l];show r m);show GG I.kIn O (c.get m) k.at_ k.fn i h
def yG(I:Inv X Z Y H s)(e:H a=cL (.ins C T fs))(c:Cls X.K C)(n:aax X.K C f)(M:fs.length<1000)(t:RelV y u)
  (h:∀d,Inv X Z Y (aR H a (.ins C T (iE f y fs))) d->Q ⟨⟩ d):wpAny (model X.prog X.w) A (setAttr (.ref a) f u) Q E s:=by
 let(l,O,r,j,_,m):=vH I.Yq e;let B:(fs.map (·.1)).length<=Xl:=by rw[W5,YU];ext
 show Jh I.kIn O c.sa c.po n.aiP c.hd j B λL i p=>h _ ?_;let G:∃o,L.get? T=cL o:=let#[o,_,_,w,_]:=i.ns;#[o,w]
 show I.write (by rw[e];show True.intro) (.inr m) (λb q J z=>(p.2 b J).trans z) G ?_;show#[by rw[ar O.ne];show m,?_,O.ne,i.obj,_,i.ns,λg=>?_,λg F=>?_]
 .let:=pd f y fs;ext
 .show aad ((iE f y fs).lookup g) (if g=f then cL u else l g)
  rw[oP];by_cases q:g=f
  .rw[ax q,ax q];show t
  .rw[a4 q,a4 q];show r g
 .by_cases q:g=f
  .rw[q];show(nJ f y fs).1
  .show(nJ f y fs).2 g (j g λz=>F ?_);show(if g=f then cL u else l g)=P;rw[a4 q];show z
def Inv.made(I:Inv X Z Y H s):Inv X Z Y (aR (aR H s.heap.objs.size (.own (s.heap.objs.size+1))) (s.heap.objs.size+1) (.ins C s.heap.objs.size []))
  {s with heap:=(s.heap.push YB).push (Y6 C s.heap.objs.size)}:=by
 let e1:(s.heap.push YB).get? s.heap.objs.size=M YB:=b5 s.heap W;let e2:((s.heap.push YB).push (Y6 C s.heap.objs.size)).get? (s.heap.objs.size+1)=M (Y6 C s.heap.objs.size):=by let:=b5 (s.heap.push YB) (o:=Y6 C s.heap.objs.size) W;rwa [cc]at this
 let e3:(s.heap.push YB).Ns s.heap.objs.size (λ_=>P):=#[YB,#v[],_,e1,W,(λe h=>bb h (by simp)),λ_=>W];let i:=I.laid (a:=s.heap.objs.size) (o:=.own (s.heap.objs.size+1)) (h':=s.heap.push YB) (t':=s.toks) (λb u q=>b3 _ q) (Xg _) #[_,e1];show i.laid (a:=s.heap.objs.size+1) (o:=.ins C s.heap.objs.size []) (t':=s.toks) (λb u q=>b3 _ q) (ahW (cc _ _)) ?_;let ne:s.heap.objs.size≠s.heap.objs.size+1:=XB (ZI _);show#[by rw[ar ne,ay],X1 _,ne,e2,λ_=>P,(Heap.Ns1.of_empty e3).at λo q=>b3 _ q,λ_=>True.intro,λy g=>bb W g]
theorem Aq{prog:Xx}{w:XU}{env:Env}{e:XA}{f:Str}{b:Pos}{s:Xd}{Q:U->Xd->Prop}(g:attributeBase e f env (eval e env)=eval e env)
  (h:wpAny (model prog w) A (eval e env) (λo c=>wpAny (model prog w) A (getAttr o f S) Q E c) E s):wpAny (model prog w) A (eval (.Attribute e f b) env) Q E s:=
 Attribute_any_ h (by rw[arm_eval_Attribute,g])
end
def Rb(K:CL)(c:TE)(f:Str):TE:=λe H Q=>c e H λx b=>∃a C g fs v,x=.ref a/\b a=M (.ins C g fs)/\Cls K C/\aax K C f/\fs.lookup f=M v/\Q v b
def PY(K:CL)(c g:TE)(f:Str):TS:=λD b H=>g b H λy h=>c b h λx e=>∃a C i fs,x=.ref a/\e a=M (.ins C i fs)/\Cls K C/\aax K C f/\fs.length<1000/\
 D.nx b (aR e a (.ins C i (iE f y fs)))
section
variable{X:Cx}{o e Z:XA}{f:Str}{T Y N:Pos}{U O:TE}
def Fp(m:PE X e U)(p:attributeBase e f X.env (eval e X.env)=eval e X.env):PE X (.Attribute e f T) (Rb X.K U f):=by intro b s g H Q I h;show Aq p (bV (m b s g H _ I h) λu F a=>?_);let(x,A,y,i,a,C,K,fs,v,r,t,c,n,l,q):=a;subst r;obtain rfl:=i;show yh y t c n l λB E w j=>#[v,A,w,j,q]
def OJ(d:PE X o U)(r:PE X Z O)(t:ZC Z (M (.Attribute o f Y)) T.line X.env=pure R):PS X (.Assign [.Attribute o f Y] Z T) (PY X.K U O f):=by intro b s g H D I h;show acI (bV (r b s g H _ I h) λu i #[y,E,B,j,q]=>bV (d b i g E _ B q) λJ G a=>?_) t;let(x,L,A,m,a,C,K,fs,v,w,c,n,l,p):=a;subst v;obtain rfl:=m;show yG A w c n l j λF I3=>#[g,_,I3,p]
end
section
variable{X:Cx}{Z:bg (Xa×Obj)}{Y:St}{H:Hp}{s:Xd}{A:XO}{E:W2->Xd->Prop}{Q:W2->Xd->Prop}{c:W2}{b:Bool}
inductive acq(K:CL)(H:Hp):V->U->Prop where
 |Zo:acq K H .Zo (.type "NoneType")
 |bl (x:Bool):acq K H (.bl x) (.type "bool")
 |int (i:Int):acq K H (.int i) (.type "int")
 |str (x:Str):acq K H (.str x) (.type "str")
 |flt (x:UInt64):acq K H (.flt x) (.type "float")
 |lst {a:J} {xs:G V} (e:H a=M (.lst xs)):acq K H (.ref a) (.type "list")
 |frz {a:J} {o:Obj} {xs:G V} (e:H a=M (.frz o (.lst xs))):acq K H (.ref a) (.type "list")
 |tup {a:J} {xs:G V} (e:H a=M (.tup xs)):acq K H (.ref a) (.type "tuple")
 |dK {a:J} {XF:G (ci×V)} (e:H a=M (.dK XF)):acq K H (.ref a) (.type "dict")
 |dT {a:J} {XF:G (G ci×V)} (e:H a=M (.dT XF)):acq K H (.ref a) (.type "dict")
 |ins {a C dx:J} {fs:G (Str×V)} (e:H a=M (.ins C dx fs)) (cl:Cls K C) (ha:XW K (.ref C) "__class__"=M (M (.builtin "object.__class__")))
   (hn:ZR K (.builtin "object.__class__") "__get__"=M (M (.builtin "getset_descriptor.__get__"))) (htk:PySem.W.takesIn K (.builtin "object.__class__")=M S)
   (hm:afz K C (.type "object")=M S):acq K H (.ref a) (.ref C)
end
structure Y4(k:Nat)(A:XO):Prop where
 hd:A.handled=P
 dp:A.depth+3*k+5<recursionLimit
 un:A.units+16*k+200<cLine
theorem Y4.mono(r:Y4 k A)(h:j<=k):Y4 j A:=#[r.hd,by let:=r.dp;ext,by let:=r.un;ext]
theorem Y4.deeper(r:Y4 (k+1) A)(env:Env):Y4 k (A.deeper env):=
 #[r.hd,by let:=r.dp;show A.depth+1+3*k+5<_;ext,by let:=r.un;show A.units+3+16*k+200<_;ext]
def yJ{A:XO}:(A.under (.builtin "type.__call__" #[.ref C::us,kw])).depth=A.depth+1:=by
 first|rfl|simp[XO.under,adK.weight,adK.isCreation,adK.isGuard,adK.isCaller,adK.frames,adK.isFrame,guardIds]
def yN{A:XO}:(A.under (.builtin "type.__call__" #[.ref C::us,kw])).units=A.units+1:=by
 first|rfl|simp[XO.under,adK.cUnits,adK.frames,adK.isFrame]
theorem Y4.make(r:Y4 (k+1) A)(C:J)(us:G U)(a:G (Str×U)):Y4 k (A.under (.builtin "type.__call__" #[.ref C::us,a])):=
 #[r.hd,by let:=r.dp;rw[yJ];ext,by let:=r.un;rw[yN];ext]
def Y4.depth(r:Y4 k A):A.depth<recursionLimit:=by let:=r.dp;ext
def Y4.units(r:Y4 k A):A.units+64<cLine:=by let:=r.un;ext
def gJ:TA:=λ_ H Q=>Q [] H
def df(c:TE)(b:TA):TA:=λa H Q=>c a H λx f=>b a f λxs e=>Q (x::xs) e
section
variable{X:Cx}{e:XA}{es:bg XA}{te:TE}{t:TA}{Z:Pos}
theorem gy:PA X [] gJ:=λ_ _ _ _ H Q I h=>Calls.spliced_nil #[[],H,I,.nil,h]
def cj(c:PE X e te)(n:PA X es t)(m:Xu (e::es) X.env=(R,eval e X.env)::Xu es X.env:=by rfl):PA X (e::es) (df te t):=by intro Z a s b H Q I h;rw[m];show Calls.spliced_cons (bV (c a s b H _ I h) λu f a=>?_);let(x,r,p,i,l):=a;show bV (n Z a f b r _ p l) λv w #[xs,q,o,g,j]=>#[x::xs,q,o,.cons i g,j]
def Ic(t:TA):TE:=λb H Q=>t b H λxs a=>xs.length<=Xl/\∀p,a p=P->Q (.ref p) (aR a p (.tup xs))
def QY(t:TA):TE:=λb H Q=>t b H λxs a=>xs.length<=Xl/\∀p,a p=P->Q (.ref p) (aR a p (.lst xs))
def Fa{c}(h:PA X es t):PE X (.Tuple es c Z) (Ic t):=by intro a s i H Q I l;show wpAny_Tuple_spliced (bV (h Z a s i H _ I l) λj f #[xs,n,g,r,z,q]=>#[by rw[<-r.length];show z,?_]);let m:=g.Yq.fresh (Xg _);show#[.ref f.heap.objs.size,aR n f.heap.objs.size (.tup xs),g.laid (λb u e=>b3 _ e) (Xg _) ?_,W,q _ m];show#[z,j,r,#[_,b5 _ W,#[W,_,W],W]]
def Qu(h:PA X es t):PE X (.List es Z) (QY t):=by intro a s i H Q I l;show wpAny_List_spliced (bV (h Z a s i H _ I l) λj f #[xs,n,g,r,z,q]=>#[by rw[<-r.length];show z,?_]);let m:=g.Yq.fresh (Xg _);show#[.ref f.heap.objs.size,aR n f.heap.objs.size (.lst xs),g.laid (λb u e=>b3 _ e) (Xg _) ?_,W,q _ m];show#[z,j,0,r,b5 _ W]
end
abbrev Sp:=G V->Hp->VK->XK->Prop
abbrev vd:=G Env->Hp->Xd->XK->U->Xd->Prop
structure Env0(P:Xx)(w:XU)(K:CL)(mg:Str->I U)(base:Heap)(A:XO)(outer:G Env)(s:Xd)(H:Hp):Prop where
 frames:A.frames=M outer
 mod:Mod K mg base
 bs:∀b o,base.get? b=M o->s.heap.get? b=M o/\H b=Ld
 bsz:base.objs.size<=s.heap.objs.size
 abo:s.heap.FunFrames base outer
 frf:∀b∈wN outer,H b=Ld
 Yq:HOk P w H s.heap
 bare:AllBare s.gens
def CE(outer:G Env)(P:Xx)(w:XU)(H:Hp)(s:Xd)(Q:VK)(u:U)(a:Xd):Prop:=
 ∃v b,a.os=s.os/\AllBare a.gens/\Un (wN outer) [] H b s.heap a.heap/\HOk P w b a.heap/\RelV v u/\Q v b
def CR(b:vd)(outer:G Env)(P:Xx)(w:XU)(H:Hp)(s:Xd)(Q:VK)(E:XK)(r:acP)(a:Xd):Prop:=
 match r with
 |.ok (.ret u)=>CE outer P w H s Q u a
 |.ok _=>False
 |.error e=>b outer H s E e a
structure FnOk(P:Xx)(w:XU)(K:CL)(mg:Str->I U)(base:Heap)(CX:vd)(k:Nat)(f:J)(fd:Yj)(ps:G Str)(sp:Sp):Prop where
 len:∀vs H Q E,sp vs H Q E->vs.length=ps.length
 run:∀(A:XO) (outer:G Env) (s:Xd) (H:Hp) (args:Args) (us:G U) (vs:G V) (Q:VK) (E:XK),Y4 k A->Env0 P w K mg base A outer s H->abk s fd args (ps.zip us)->Vals vs us->sp vs H Q E->
  codeAny (model P w) A (.call (.ref f) args) (CR CX outer P w H s Q E) s
theorem FnOk.imp{P:Xx}{w:XU}{K:CL}{p:Str->I U}{base:Heap}{g:vd}{k:Nat}{f:J}{fd:Yj}{d:G Str}{sp b:Sp}(F:FnOk P w K p base g k f fd d sp)
  (h:∀c H Q E,b c H Q E->sp c H Q E):FnOk P w K p base g k f fd d b:=
 #[λc H Q E q=>F.len c H Q E (h _ _ _ _ q),λA a s H e i c Q E m n o j l=>F.run A a s H e i c Q E m n o j (h _ _ _ _ l)]
theorem Env0.make{K:CL}(e:Env0 b w K mg base A outer s H)(C:J)(us:G U)(a:G (Str×U)):
  Env0 b w K mg base (A.under (.builtin "type.__call__" #[.ref C::us,a])) outer s H:=#[by first|show e.frames|(simpa [XO.under,adK.envs,adK.isFrame,pushEnvs]using e.frames),e.mod,e.bs,e.bsz,e.abo,e.frf,e.Yq,e.bare]
section
variable{X:Cx}{Z:bg (Xa×Obj)}{Y:St}{H:Hp}{s U:Xd}
theorem Inv.afT(I:Inv X Z Y H s):Env0 X.prog X.w X.K X.mg X.base X.A X.stack s H:=
 #[I.ok.frames,I.ok.mod,I.bs,XX I.ok.bsz I.sz,I.stack,I.aci,I.Yq,I.bare]
def Inv.after{Q:VK}{u:W2}(I:Inv X Z Y H s)(h:CE X.stack X.prog X.w H s Q u U):EP X Z Y Q u U:=by let(v,j,f,a,un,Yq,r,q):=h;let(i,g,d,t,e):=U;obtain rfl:e=s.os:=f;show#[v,j,I.call (h':=i) (g':=g) (d':=d) (t':=t) (ch:=[]) un Yq a (λb z=>bb z (by simp)),r,q]
end
def jz(sp:Sp)(a:G V)(E:XK)(t:TA):TE:=λb H Q=>t b H λf e=>sp (f++a) e Q E
def ue(C:J)(m:Str)(sp:Sp)(b:G V)(E:XK)(c:TE)(t:TA):TE:=λe H Q=>c e H λx f=>∃a i fs,x=.ref a/\f a=M (.ins C i fs)/\fs.lookup m=P/\
 t e f λh g=>sp (x::(h++b)) g Q E
def xS(C:J)(sp:Sp)(a:G V)(E:XK)(t:TA):TE:=λe H Q=>t e H λh b=>∀x g,b x=P->b g=P->g≠x->
 sp (.ref x::(h++a)) (aR (aR b g (.own x)) x (.ins C g [])) (λv f=>v=.Zo/\Q (.ref x) f) E
def Binds(K:CL)(fd:Yj)(b:G Str)(ds:G U):Prop:=
 ∀(s:Xd) (a:G U),K.In s.heap->(a++ds).length=b.length->abk s fd #[a,[]] (b.zip (a++ds))
theorem Binds.all{K:CL}{fd:Yj}{b:G Str}(h:∀us:G U,us.length=b.length->bindArgs fd #[us,[]]=pure (b.zip us)):Binds K fd b []:=λs us _ a=>by rw[X5]at a⊢;show .of_eq (h us a)
def dW(g:vd)(X:Cx)(E:XK):Prop:=∀(a:G (J×Obj)) (f:St) (H:Hp) (s:Xd) (e:U) (b:Xd),Inv X a f H s->g X.stack H s E e b->X.xe e b
section
variable{X:Cx}{U:vd}{k:Nat}{f C:Xa}{fd:Yj}{ps:bg Str}{sp:Sp}{Z:bg V}{ds:bg W2}{E:XK}{x m:Str}{p pos Y:Pos}{e o:XA}{es:bg XA}{T:TE}{t:TA}
def zC{a:G (J×Obj)}{g:St}{H:Hp}{s:Xd}{Q:VK}{us:G W2}{vs:G V}(F:FnOk X.prog X.w X.K X.mg X.base U k f fd ps sp)(n:Y4 k X.A)(v:Binds X.K fd ps ds)(hd:Vals Z ds)(l:dW U X E)
  (I:Inv X a g H s) (r:Vals vs us) (h:sp (vs++Z) H Q E):wpAny (model X.prog X.w) X.A (call (.ref f) us) (EP X a g Q) X.xe s:=by
 let i:Vals (vs++Z) (us++ds):=r.append hd;let q:(us++ds).length=ps.length:=by rw[<-i.length];show F.len _ _ _ _ h
 show aaL (aay (F.run X.A X.stack s H #[us,[]] (us++ds) (vs++Z) Q E n I.afT (v s us I.kIn q) i h) λr j b=>?_);cases r with
 |error e=>show l a g H s e j I b
 |ok y=>
  cases y with
  |ret u=>show I.after b
  |next=>show False.elim b
  |brk=>show False.elim b
  |cont=>show False.elim b
def Aa(F:FnOk X.prog X.w X.K X.mg X.base U k f fd ps sp)(n:Y4 k X.A)(v:Gl X x)(hm:X.mg x=M (.ref f))(u:YM X.K (.ref f)=S)(B:Binds X.K fd ps ds)(hd:Vals Z ds)(l:dW U X E)
  (c:PA X (e::es) t) (g:(x==("__debug__":Str))=R:=by decide) (y:Xu (e::es) X.env=(R,eval e X.env)::Xu es X.env:=by rfl) (b:(backTo pos (Xu es X.env)).any (·.1)=R:=by rfl):
  PE X (.Call (.Name x p) (e::es) [] pos) (jz sp Z E t):=by
 intro a s j H Q I h;show Zu (jp I v hm ?_ g);show aag I.ok.mod.kin u (bV (c pos a s j H _ I h) λG J #[w,L,i,r,q]=>#[i.kIn,?_]) y b;show zC F n B hd l i r q
def MJ{pl:Sem Bool}(M:PE X o T)(c:Cls X.K C)(hm:Meth X.K C m f)(F:FnOk X.prog X.w X.K X.mg X.base U k f fd ps sp)(L:Y4 k X.A)(N:Binds X.K fd ps ds)(hd:Vals Z ds)(G:dW U X E)(d:PA X (e::es) t)
  (dg:Xu (e::es) X.env=(W7,eval e X.env)::Xu es X.env:=by rfl) (g:(backTo pos (Xu es X.env)).any (·.1)=W7:=by rfl)
  (J:eval (.Call (.Attribute o m Y) (e::es) [] pos) X.env=(do
   let ov<-eval o X.env
   standAt Y.atName
   let(f,first)<-holding [ov] (getMethod ov m pl)
   callWith pos f first (backTo pos (Xu (e::es) X.env)) (backToKw pos (keywordEach [] X.env))):=by rfl):
  PE X (.Call (.Attribute o m Y) (e::es) [] pos) (ue C m sp Z E T t):=by
 intro b s i H Q I h;show aaO (pl:=pl) (bV (M b s i H _ I h) λu v a=>?_) J;let(x,A,n,y,a,dx,fs,O,w,l,q):=a;subst O;obtain rfl:u=W2.ref a:=y;show qJ n w c hm l ?_;show aag (first:=[.ref a]) (h₀:=X.base) I.ok.mod.kin hm.kp (bV (d pos b v i A _ n q) λus S #[K,H2,j,r,B]=>#[j.kIn,?_]) dg g;show zC (us:=.ref a::us) (vs:=.ref a::K) F L N hd G j (.cons W r) B
def HG{pl:Sem Bool}(y:PE X o T)(c:Cls X.K C)(hm:Meth X.K C m f)(F:FnOk X.prog X.w X.K X.mg X.base U k f fd ps sp)(v:Y4 k X.A)(B:Binds X.K fd ps ds)(hd:Vals Z ds)(n:dW U X E)
  (r:eval (.Call (.Attribute o m Y) [] [] pos) X.env=(do
   let ov<-eval o X.env
   standAt Y.atName
   let(f,first)<-holding [ov] (getMethod ov m pl)
   callWith pos f first (backTo pos (Xu [] X.env)) (backToKw pos (keywordEach [] X.env))):=by rfl):
  PE X (.Call (.Attribute o m Y) [] [] pos) (ue C m sp Z E T gJ):=by
 intro b s i H Q I h;show aaO (pl:=pl) (bV (y b s i H _ I h) λu L a=>?_) r;let(x,A,g,j,a,K,fs,G,w,l,q):=a;subst G;obtain rfl:u=W2.ref a:=j;show qJ g w c hm l ?_;show PySem.W.callWith_K0 (first:=[.ref a]) g.kIn hm.kp (zC (us:=[.ref a]) (vs:=[.ref a]) F v B hd n g (.cons W .nil) q)
structure Mk(K:CL)(C f:J):Prop where
 makes:abY K C=S
 init:XW K (.ref C) "__init__"=M (M (.ref f))
 fn:Zj K (.ref f)=S
 kp:YM K (.ref C)=S
def Il(M:Mk X.K C f)(F:FnOk X.prog X.w X.K X.mg X.base U k f fd ps sp)(q:Y4 (k+1) X.A)(B:Binds X.K fd ps ds)(hd:Vals Z ds)
  (n:dW U X E) (I:Inv X pins σ H s) (r:Vals vs us)
  (h:∀x c,H x=P->H c=P->c≠x->sp (.ref x::(vs++Z)) (aR (aR H c (.own x)) x (.ins C c [])) (λv d=>v=.Zo/\Q (.ref x) d) E):
  wpAny (model X.prog X.w) X.A (call (.ref C) us) (EP X pins σ Q) X.xe s:=by
 let i:=h (s.heap.objs.size+1) s.heap.objs.size (I.Yq.fresh (aac _)) (I.Yq.fresh (Xg _)) (XB (ZI _));let b:=Inv.made (C:=C) I;let g:Vals (V.ref (s.heap.objs.size+1)::(vs++Z)) (W2.ref (s.heap.objs.size+1)::(us++ds)):=.cons W (r.append hd);let y:(W2.ref (s.heap.objs.size+1)::us++ds).length=ps.length:=by let e:=g.length;rw[F.len _ _ _ _ i]at e;show e.symm
 show aaL (HH I.kIn M.makes M.init (beq_iff_eq.mp M.fn) (aay (F.run _ X.stack _ _ #[W2.ref (s.heap.objs.size+1)::us,[]] (W2.ref (s.heap.objs.size+1)::(us++ds)) _ _ E (q.make C us [])
  (b.afT.make C us []) (B _ (W2.ref (s.heap.objs.size+1)::us) b.kIn y) g i) λr j a=>?_))
 cases r with
 |error e=>show n pins σ _ _ e j b a
 |ok G=>
  cases G with
  |ret u=>let(v,J,I3,w,ev,l):=b.after a;subst ev;show#[w,#[V.ref (s.heap.objs.size+1),J,I3,W,l]]
  |next=>show False.elim a
  |brk=>show False.elim a
  |cont=>show False.elim a
def Jn(M:Mk X.K C f)(F:FnOk X.prog X.w X.K X.mg X.base U k f fd ps sp)(n:Y4 (k+1) X.A)(u:Gl X x)(hm:X.mg x=cL (.ref C))(y:Binds X.K fd ps ds)(hd:Vals Z ds)(l:dW U X E)
  (c:PA X (e::es) t) (g:(x==("__debug__":Str))=R:=by decide) (v:Xu (e::es) X.env=(R,eval e X.env)::Xu es X.env:=by rfl) (b:(backTo pos (Xu es X.env)).any (·.1)=R:=by rfl):
  PE X (.Call (.Name x p) (e::es) [] pos) (xS C sp Z E t):=by
 intro a s j H Q I h;show Zu (jp I u hm ?_ g);show aag I.ok.mod.kin M.kp (bV (c pos a s j H _ I h) λB G #[A,w,i,r,q]=>#[i.kIn,?_]) v b;show Il M F n y hd l i r q
end
section
variable{X:Cx}{O:vd}{k:Nat}{f C:Xa}{fd:Yj}{ps ks:bg Str}{N:Sp}{E:XK}{x m:Str}{p Y Z T:Pos}{e o:XA}{es:bg XA}{Q:bg aaS}{L H:TE}{t B:TA}{A:bt Str}
structure akK(K:CL)(fd:Yj)(ps ks:G Str)(g:G U->G U->G U)(gV:G V->G V->G V):Prop where
 to:∀(s:Xd) (us ws:G U),K.In s.heap->(g us ws).length=ps.length->abk s fd #[us,ks.zip ws] (ps.zip (g us ws))
 rel:∀{vs:G V} {us:G U} {zs:G V} {ws:G U},Vals vs us->Vals zs ws->Vals (gV vs zs) (g us ws)
variable{g:bg W2->bg W2->bg W2}{K:bg V->bg V->bg V}
end
structure Zm(N P:G Str)(sc:Zc):Prop where
 kind:sc.kind=.function
 co:sc.isCoroutine=R
 gen:sc.isGenerator=R
 nd:N.Nodup
 pre:N.take P.length=P
 par:∀x∈P,sc.names.lookup x=M .local\/sc.names.lookup x=M .cell
 ahd:∀y∈sc.names,y.2≠.free
theorem sY{a:Str->I Xz}:∀{binds:G (Str×U)} {m:Str->I U},(∀v,(x,v)∉binds)->bindL a binds m x=m x
 |[],_,_=>rfl
 |(n,v)::r,m,h=>by
  ext bindL;rw[sY λw b=>h w (Xf _ b)];split
  .let:x≠n:=by rintro rfl;show h v Xb
   simp[this]
  .rfl
theorem sV{a:Str->I Xz}:∀{binds:G (Str×U)} {m:Str->I U},(∀v,(x,v)∉binds)->bindC a binds m x=m x
 |[],_,_=>rfl
 |(n,v)::r,m,h=>by
  ext bindC;rw[sV λw b=>h w (Xf _ b)];split
  .rfl
  .let:x≠n:=by rintro rfl;show h v Xb
   simp[this]
theorem tO{kindOf:Str->I Xz}:∀{a:G Str} {b:G U} {i:Nat} {m:Str->I U},a.Nodup->a[i]?=M x->b[i]?=M v->kindOf x=M .local->
  bindL kindOf (a.zip b) m x=M v
 |[],_,_,_,_,h,_,_=>by simp at h
 |_::_,[],_,_,_,_,h,_=>by simp at h
 |p::a,w::b,0,m,nd,h1,e,f=>by simp at h1 e;subst h1;subst e;show bindL kindOf ((p,w)::a.zip b) m p=_;ext bindL;rw[sY λv g=>(Yy.mp nd).1 (Zr g).1,ax f];simp
 |p::a,w::b,i+1,m,nd,h1,e,f=>by ext bindL;show tO (Yy.mp nd).2 (by simpa using h1) (by simpa using e) f
theorem t6{kindOf:Str->I Xz}:∀{a:G Str} {b:G U} {i:Nat} {m:Str->I U},a.Nodup->a[i]?=M x->b[i]?=M v->kindOf x≠M .local->
  bindC kindOf (a.zip b) m x=M v
 |[],_,_,_,_,h,_,_=>by simp at h
 |_::_,[],_,_,_,_,h,_=>by simp at h
 |p::a,w::b,0,m,nd,h1,e,f=>by simp at h1 e;subst h1;subst e;show bindC kindOf ((p,w)::a.zip b) m p=_;ext bindC;rw[sV λv g=>(Yy.mp nd).1 (Zr g).1,a4 f];simp
 |p::a,w::b,i+1,m,nd,h1,e,f=>by ext bindC;show t6 (Yy.mp nd).2 (by simpa using h1) (by simpa using e) f
def start(N:G Str)(a:G V):St:=a.map M++Xk (N.length - a.length) P
def fC(i:vd)(P:Xx)(w:XU)(K:CL)(c:Str->I U)(base:Heap)(N:G Str)(b:Str)(a:Zc)(f:J)(h:U)(A:XO)(outer:G Env)(s:Xd)(H:Hp)(E:XK):Cx where
 prog:=P
 w:=w
 K:=K
 mg:=c
 base:=base
 A:=A.deeper (envOfC b a s.heap.objs.size f h)
 N:=N
 s₀:=s
 H₀:=H
 env:=envOfC b a s.heap.objs.size f h
 outer:=outer
 stack:=envOfC b a s.heap.objs.size f h::outer
 ex:=[]
 calm:=S
 fn:=λ_=>S
 pn:=[]
 xe:=λe j=>wpAny (model P w) (A.deeper (envOfC b a s.heap.objs.size f h)) (leaving (envOfC b a s.heap.objs.size f h) e) (λ_ g=>i outer H s E e g) (λl g=>i outer H s E l g) j
def wm{sc:Zc}(h:sc.names.lookup x=M .cell):∃c,(Y8 n sc.names []).lookup x=M c:=by let q:=ZS sc.names n [] (.inl h);show YI.mp q
def DC{K:CL}
  (S:Zm N ps scope) (hd:A.handled=Ld) (e0:Env0 L w K mg base A outer s H) (G:vs.length=ps.length) (r:Vals vs us)
  (x:InCallC s s.heap.objs.size (bindL (envOfC qual scope s.heap.objs.size f cd).kindOf (ps.zip us) λ_=>Ld) (Y8 (s.heap.objs.size+1) scope.names []) (bindC (envOfC qual scope s.heap.objs.size f cd).kindOf (ps.zip us) λ_=>Ld) s1):
  Inv (fC CX L w K mg base N qual scope f cd A outer s H E) [] (start N vs) H s1:=by
 let C:ps.length<=N.length:=by let:=dw aaz S.pre;rw[Ye]at this;ext
 let(o,F,rfl,B):=x.done;let j:∀b:J,b∉(fC CX L w K mg base N qual scope f cd A outer s H E).ex:=λb z=>bb (show b∈([]:bg J)from z) (by simp);show#[#[e0.mod,S.kind,W,W,Xg _,λy z c o g=>?_,λy l=>?_,λy c _ h=>?_,λ_=>hd,XO.frames_deeper e0.frames,.inr #[W,W],λb z=>bb z (j b),e0.bs,e0.bsz,λb _ _=>j b,λb z=>bb z (j b),e0.abo,e0.frf],
  W,e0.bare,Un.kept B,#[_,x.toInCall.ns,λi y v o g I=>?_],λy c h=>#[_,x.cell y c h],e0.Yq.fresh (Xg _),λy c h=>?_,λp n=>bb (show p∈([]:bg (J×Obj))from n) (by simp),e0.Yq.kept B,?_]
 .show name_of_addr x.apart (YV o) (YV g)
 .let l:=l
  rcases l with l|l
  .show wm l
  .show bb W (S.ahd _ (YV l))
 .show aaX (x.above y c (YV h))
 .let O:i<vs.length:=by
   unfold start at g;by_cases O:i<vs.length
   .show O
   .rw[XT (by simpa using O)]at g;rw[Zg]at g;split at g<;>ext g
  let T:vs[i]?=M v:=by
   unfold start at g;rw[Xh (by simpa using O),Xj]at g;cases e:vs[i]? with
   |none=>rw[e]at g;ext g
   |some a=>rw[e]at g;ext g;rfl
  let(u,t,Q):=r.get T;let n:ps[i]?=M y:=by rw[<-S.pre,aaG ()];show o
  let m:ps.Nodup:=by rw[<-S.pre];show S.nd.sublist (List.take_sublist _ _)
  show#[u,Q,?_];rcases S.par y (XI n)with k|k
  .show .inl #[k,tO m n t k]
  .let(c,e):=wm k;show .inr #[.inl k,c,e,?_];let q:=x.cell y c e;rw[t6 m n t (by show scope.names.lookup y≠_;rw[k];decide)]at q;show q
 .show e0.Yq.fresh (aaX (x.above y c (YV h)))
 .ext start;show _=N.length;rw[Xi,W5,Yx];ext
def Et{m:vd}{P:Xx}{w:XU}{K:CL}{l:Str->bt U}{base:Heap}{k:Nat}{f:Xa}{name qual:Str}{params:Arguments}{body:G YQ}{scope:Zc}{F kV doc pm g ct X:U}{an T:bt Xa}
  {z:Array (bt U)} {N j:G Str} {sp:Sp} (Y:K.lookup f=M #[X,T,.func (YC name qual params body scope F kV doc pm an g ct),z]) (D:aah K g qual=W3) (S:Zm N j scope)
  (len:∀c H Q E,sp c H Q E->c.length=j.length)
  (Z6:∀(A:XO) (outer:G Env) (s:Xd) (H:Hp) (c:G V) (Q:VK) (E:XK),Y4 k (A.deeper (envOfC qual scope s.heap.objs.size f g))->sp c H Q E->
   ∃t,PSs (fC m P w K l base N qual scope f g A outer s H E) body t/\t {nx:=λ_ d=>Q .Zo d,rt:=Q} (start N c) H):
  FnOk P w K l base m (k+1) f (YC name qual params body scope F kV doc pm an g ct) j sp:=by
 show#[len,λA outer s H args us c Q E C e0 hb r i=>?_];let hl:=len _ _ _ _ i;let O:K.In s.heap:=e0.mod.kin.keeps λb o e=>(e0.bs b o e).1;let lim:s.heap.NoLimit:=e0.mod.nolimit.keeps λb o e=>(e0.bs b o e).1;let L:∀y∈j.zip us,scope.names.lookup y.1=M .local\/(scope.names.lookup y.1=M .cell/\((Y8 (s.heap.objs.size+1) scope.names []).lookup y.1).isSome=W3):=λ#[n,v] Z=>by
  rcases S.par n (Zr Z).1 with q|q
  .show .inl q
  .show .inr #[q,ZS _ _ _ (.inl q)]
 show codeAny_call_function C.depth (O _ _ Y) W S.co S.gen W (PySem.W.codeRec_of O D) (hb _ _ _ _ ?_);show wpAny_newFunctionEnv_cells S.kind L λenv he s1 x=>?_;subst he;show#[lim.keeps x.toInCall.keep,codeAny_func ?_];let(t,ht,hq):=Z6 A outer s H c Q E (C.deeper _) i;let I:Inv (fC m P w K l base N qual scope f g A outer s H E) [] (start N c) H s1:=DC S C.hd e0 hl r x;show wpAny_mono (ht [] s1 (start N c) H _ I hq) (λfl p h=>?_) λe p h=>h
 let fin:∀{a:St} {d:Hp} {v:V} {u:U},Inv (fC m P w K l base N qual scope f g A outer s H E) [] a d p->RelV v u->Q v d->CE outer P w H s Q u p:=
  λ{a d v u} J B q=>#[v,d,J.os,J.bare,J.base,J.Yq,B,q]
 cases fl with
 |ret u=>let(v,a,d,J,B,q):=h;show fin J B q
 |next=>let(a,d,J,q):=h;show fin (v:=V.Zo) (u:=W2.none) J W q
 |brk=>let(_,_,_,q):=h;show False.elim q
 |cont=>let(_,_,_,q):=h;show False.elim q
section
variable{X:Cx}{x:Str}{p Z:Pos}{e:XA}{es:bg XA}{t:TA}{Y T:String}{r:bg V->Hp->VK->Prop}
def tR(r:G V->Hp->VK->Prop)(t:TA):TE:=λa H Q=>t a H λf b=>r f b Q
def xO(u:Zi X (.builtin Y) r)(o:Gl X x)(hm:X.mg x=P)(n:Ya x=M (.builtin Y))(d:PA X (e::es) t)(c:x≠ "__name__":=by decide)(f:(x==("__debug__":Str))=R:=by decide)
  (q:Xu (e::es) X.env=(R,eval e X.env)::Xu es X.env:=by rfl) (b:(backTo Z (Xu es X.env)).any (·.1)=R:=by rfl):PE X (.Call (.Name x p) (e::es) [] Z) (tR r t):=by
 intro a s g H Q I h;show Zu (oi I o hm n ?_ c f);show ai9 (bV (d Z a s g H _ I h) λi j #[y,w,v,l,m]=>u a j g w y i Q v l m) q b
def CF(u:Zi X (.type T) r)(o:Gl X x)(hm:X.mg x=P)(n:Ya x=M (.type T))(d:PA X (e::es) t)(c:x≠ "__name__":=by decide)(f:(x==("__debug__":Str))=R:=by decide)
  (q:Xu (e::es) X.env=(R,eval e X.env)::Xu es X.env:=by rfl) (b:(backTo Z (Xu es X.env)).any (·.1)=R:=by rfl):PE X (.Call (.Name x p) (e::es) [] Z) (tR r t):=by
 intro a s g H Q I h;show Zu (oi I o hm n ?_ c f);show Z1 (bV (d Z a s g H _ I h) λi j #[y,w,v,l,m]=>u a j g w y i Q v l m) q b
end
end L2
namespace HT
open PySem PyProof.Rows
section
open PySem.SeqAt
open PySem.AutoSeq1 (wpAny_loadPart')
open PySem.MeetsSeq PySem.MeetsSeq2 PySem.MeetsSeq3
end
section
variable{Z:Xx}{w:XU}{A:XO}{E:W2->Xd->Prop}{s:Xd}
def cat_tup{t b:J}{c ws:G U}{Q:U->Xd->Prop}(v:IsTup s.heap t c.toArray)(y:IsTup s.heap b ws.toArray)(q:c≠[])
  (C:ws=[]->Q (.ref t) s) (B:ws≠[]->Q (.ref s.heap.objs.size) {s with heap:=s.heap.push {cls:=.type "tuple",data:=.seq (c++ws).toArray}})
  (d:c.length+ws.length<=Xl):wpAny (model Z w) A (Zp .Add (.ref t) (.ref b)) Q E s:=by
 let((cls,dd,data,o),l,u,n,r):=id v;let((F,i,m,f),a,h,p,g):=id y;simp only at u r h g;subst u r h g;let e:c.toArray++ws.toArray=(c++ws).toArray:=by simp
 by_cases j:ws=[]
 .show concat_meets #[_,l,W] #[_,a,W] ahX amh acQ acJ (acx _ _)
   (tuple_addW1 t b c.toArray ws.toArray n p dd i o f (by simpa using q) (by simp[j])) #[l,a,C j]
 .show concat_meets #[_,l,W] #[_,a,W] ahX amh acQ acJ (acx _ _)
   (tuple_addW2 t b c.toArray ws.toArray n p dd i o f (by simpa using q) (by simpa using j) (by rw[Xr,Xr];show d)) #[l,a,?_]
  rw[e];show B j
def sIx(n d:Nat):I Int->Nat
 |none=>d
 |some v=>if v<0 then(v+(n:Int)).toNat else min v.toNat n
theorem sIx_none(n d:Nat):sIx n d P=d:=W
def sIx_nat(n d k:Nat):sIx n d (M (k:Int))=min k n:=by show(if(k:Int)<0 then((k:Int)+(n:Int)).toNat else min (k:Int).toNat n)=min k n;rw[a4 (),Yr]
def Os(n d:Nat)(hd:d<=n)(o:I Int):sIx n d o<=n:=by
 cases o with
 |none=>show hd
 |some v=>
  show(if v<0 then(v+(n:Int)).toNat else min v.toNat n)<=n;by_cases a:v<0
  .rw[ax a];ext
  .rw[a4 a];show acj _ _
def AF(v:Int)(n d:Nat):(if v<0 then max (v+(n:Int)) 0 else min v (n:Int))=((sIx n d (M v):Nat):Int):=by
 show(if v<0 then max (v+(n:Int)) 0 else min v (n:Int))=(((if v<0 then(v+(n:Int)).toNat else min v.toNat n):Nat):Int);by_cases a:v<0
 .simp only[ax a];ext
 .simp only[a4 a];ext
def yI(lo b:I Int)(n:Nat):XS.Slice.sliceAdjust lo b 1 (n:Int)=(((sIx n 0 lo:Nat):Int),((sIx n n b:Nat):Int)):=by
 let a:¬((1:Int)<0):=by ext
 ext XS.Slice.sliceAdjust;simp only[a,if_false];show Prod.ext ?_ ?_
 .cases lo with
  |none=>rfl
  |some v=>show AF v n 0
 .cases b with
  |none=>rfl
  |some v=>show AF v n n
def yl(i j:Nat):XS.Slice.slicePlaces (i:Int) (j:Int) 1=j - i:=by
 ext XS.Slice.slicePlaces;let a:(1:Int)>0:=by ext
 simp only[a,if_true,Int.ediv_one];split<;>ext
def qA(p:abH v o)(h:Q o s):wpAny (model Z w) A (XS.Slice.slicePartIndex v) Q E s:=by
 cases p with
 |none=>show slicePart_none h
 |int i t=>show slicePart_int h
def iR{lo c:I Int}{Q:Int×Int×Nat->Xd->Prop}(f:s.heap.IsSliceOf sl C o .none)(pl:abH C lo)(e:abH o c)
  (h:Q (((sIx n 0 lo:Nat):Int),1,sIx n n c - sIx n 0 lo) s):wpAny (model Z w) A (XS.Slice.sliceApplied (.ref sl) (pure (n:Int))) Q E s:=by
 let(i,a,g,b):=id f;unfold XS.Slice.sliceApplied XS.Slice.sliceFields;show lD (lD (X9 a b W (lD (X9 a b W (lD (X9 a b W (W9 ?_)))))));show lD (slicePart_none ?_);rw[a4 ()];show lD (qA pl (lD (qA e (lD (W9 ?_)))));show wpAny _ _ (match XS.Slice.sliceAdjust lo c 1 (n:Int)with|(lo,c)=>pure (lo,(1:Int),XS.Slice.slicePlaces lo c 1)) _ _ s;rw[yI lo c n];show wpAny _ _ (pure (((sIx n 0 lo:Nat):Int),(1:Int),XS.Slice.slicePlaces ((sIx n 0 lo:Nat):Int) ((sIx n n c:Nat):Int) 1)) _ _ s;rw[yl];show W9 h
def Fq(xs:Array U)(i k:Nat):((Xq k).filterMap λ(m:Nat)=>xs[((i:Int)+(m:Int)*1).toNat]?).toArray=((xs.toList.drop i).take k).toArray:=by
 let e:(λ(m:Nat)=>xs[((i:Int)+(m:Int)*1).toNat]?)=λm=>xs[i+m]? :=by
  funext m;let:((i:Int)+(m:Int)*1).toNat=i+m:=by ext
  rw[this]
 rw[e];let:=pick_run xs i k;rw[List.filterMap_map]at this;let e2:((λx=>xs[x]?)∘λx=>i+x)=λm=>xs[i+m]? :=W;rw[e2]at this;rw[this]
def getItem_tuple_cut{lo c:I Int}(b:IsTup s.heap t items)(j:s.heap.IsSliceOf C vl vu .none)(pl:abH vl lo)(l:abH vu c)
  (n:¬(sIx items.size 0 lo=0/\sIx items.size items.size c=items.size))
  (h:Q (.ref s.heap.objs.size) {s with heap:=s.heap.push {cls:=.type "tuple",data:=.seq ((items.toList.drop (sIx items.size 0 lo)).take (sIx items.size items.size c - sIx items.size 0 lo)).toArray}})
  (d:items.size<=Xl):wpAny (model Z w) A (getItem (.ref t) (.ref C)) Q E s:=by
 let a:sizeOk (.seq ((items.toList.drop (sIx items.size 0 lo)).take (sIx items.size items.size c - sIx items.size 0 lo)).toArray):=by show((items.toList.drop (sIx items.size 0 lo)).take (sIx items.size items.size c - sIx items.size 0 lo)).toArray.size<=Xl;rw[Xr,Ye,ZG,Yi];ext
 let u:sIx items.size items.size c<=items.size:=Os _ _ (Xg _) c;let(m,e,g,o):=id j;let i:s.TypeIs (.ref C) "slice":=#[m,e,g];ext getItem
 try specialize Ys ?_
 first|show lD (W9 ?_)|skip
 show lD (ahl b.typeIs () ?_);show lD (Yn b.typeIs Yo
  (Yt Yo b.typeIs entry_tuple_getitem ?_ (args_tuple_getitem _ _)))
 show wpAny _ _ (XS.Tuple.tupleItemsOf (.ref t)>>=_) _ _ s;show lD (tupleItemsOf_ b ?_);show lD (aaA i ?_);rw[ax ()];show lD (iR j pl l ?_);let f:¬((((sIx items.size 0 lo:Nat):Int)==0&&(1:Int)==1&&(sIx items.size items.size c - sIx items.size 0 lo)==items.size)=S):=by intro q;rw[W0,W0]at q;let r:=eq_of_beq q.1.1;let p:=eq_of_beq q.2;show n #[by ext,by ext]
 show wpAny _ _ (if(((sIx items.size 0 lo:Nat):Int)==0&&(1:Int)==1&&(sIx items.size items.size c - sIx items.size 0 lo)==items.size)=S then _ else _) _ _ s;rw[a4 f,Fq]
 first
  |show lD (Yc (W9 #[_,W,W9 h]) a)
  |show lD (Yc (lD (W9 (W9 #[_,W,W9 h]))) a)
  |show lD (lD (Yc (W9 (W9 #[_,W,W9 h])) a))
  |show lD (lD (Yc (W9 #[_,W,W9 h]) a))
end
end HT
namespace L2
open PySem PySem.Spec PyProof.Rows
abbrev TO:=St->Hp->(I Int->Hp->Prop)->Prop
def PO(X:Cx)(e:I XA)(t:TO):Prop:=
 ∀(a:G (J×Obj)) (s:Xd) (b:St) (H:Hp) (Q:I Int->Hp->Prop),Inv X a b H s->t b H Q->
  wpAny (model X.prog X.w) X.A (evalPart e X.env) (λu f=>∃o g,Inv X a b g f/\abH u o/\Q o g) X.xe s
def AG:TO:=λ_ H Q=>Q P H
def ND(t:TE):TO:=λa H Q=>t a H λx b=>∃i,x=.int i/\Q (M i) b
def lC:∀{us:G U},Vals (ns.map V.int) us->IntsAre us ns:=by
 induction ns with
 |nil=>intro us r;rw[aal]at r;ext r;show .nil
 |cons n ns f=>
  intro us r;rw[Xt]at r;cases r with
  |cons b a=>let(t,e):=b;subst e;show .cons n t (f a)
section
variable{X:Cx}{e:XA}{te:TE}{Z Y:bt XA}{U S:TO}{pos R:Pos}
def K4:PO X P AG:=by intro a s b H Q I h;rw[ami];show W9 #[P,H,I,.none,h]
def KB(h:PE X e te):PO X (M e) (ND te):=by intro a s b H Q I j;rw[evalPart_some];show bV (h a s b H _ I j) λu n a=>?_;let(x,m,l,f,g):=a;let(i,rfl,q):=g;let(t,rfl):=f;show#[M i,m,l,.int i t,q]
def Nw(X:Cx)(r:V->I Int->I Int->Hp->VK->Prop):Prop:=
 ∀(a:G (J×Obj)) (s:Xd) (b:St) (H:Hp) (x:V) (v g f:W2) (Z Y:I Int) (h:J) (Q:VK),Inv X a b H s->RelV x v->s.heap.IsSliceOf h g f .none->abH g Z->abH f Y->r x Z Y H Q->
  ∃T id,typeLookup (.type T) "__getitem__"=pure (M (.builtin id))/\s.TypeIs v T/\wpAny (model X.prog X.w) X.A (getItem v (.ref h)) (EP X a b Q) X.xe s
def VJ(r:V->I Int->I Int->Hp->VK->Prop)(te:TE)(U S:TO):TE:=λa H Q=>te a H λx g=>U a g λl f=>S a f λu b=>r x l u b Q
def Fg{r:V->bt Int->bt Int->Hp->VK->Prop}(G:Nw X r)(L:PE X e te)(J:PO X Z U)(E:PO X Y S):PE X (.Subscript e (.Slice Z Y Ld R) pos) (VJ r te U S):=by intro a s g H Q I h;show Subscript_ (bV (L a s g H _ I h) λv o a=>?_);let(x,H1,w,p,B):=a;show wpAny_Slice (bV (J a o g H1 _ w B) λj n #[l,A,O,pl,y]=>bV (E a n g A _ O y) λi f a=>?_);let(u,m,I3,C,t):=a;rw[ami];show W9 ?_;let N:Inv X a g m {f with heap:=f.heap.push {cls:=.type "slice",data:=.fields #v[j,i,.none]}}:=I3.kept (t':=f.toks) λb ob q=>b3 _ q;let(T,id,M,F,K):=G a {f with heap:=f.heap.push {cls:=.type "slice",data:=.fields #v[j,i,.none]}} g m x v j i l u f.heap.objs.size Q N p (Heap.IsSliceOf.new ..) pl C t;show wpAny (model X.prog X.w) X.A (subscriptTail e (.Slice Z Y Ld R) v (.ref f.heap.objs.size)) (EP X a g Q) X.xe {f with heap:=f.heap.push {cls:=.type "slice",data:=.fields #v[j,i,.none]}};show tail_any (ops:=[.ref f.heap.objs.size,v]) F M K (by with_unfolding_all rfl)
def Dw(xs:G V)(Z Y:I Int):G V:=(xs.drop (HT.sIx xs.length 0 Z)).take (HT.sIx xs.length xs.length Y - HT.sIx xs.length 0 Z)
def pc(xs:G V)(Z Y:I Int):(Dw xs Z Y).length<=xs.length:=by ext Dw;rw[Ye,ZG];ext
def T5(K:CL):V->I Int->I Int->Hp->VK->Prop:=λx Z Y H Q=>∃a xs,x=.ref a/\SqT K H a xs/\
 ¬(HT.sIx xs.length 0 Z=0/\HT.sIx xs.length xs.length Y=xs.length)/\∀p,H p=P->Q (.ref p) (aR H p (.tup (Dw xs Z Y)))
def Rt:Nw X (T5 X.K):=by
 intro g s u H x v y w Z Y A Q I l p pl m h;let(a,xs,rfl,n,o,q):=h;ext l;let(t,r,j,i):=I.tuple n;let f:t.toArray.size=xs.length:=by rw[Xr];show r.length.symm
 show#["tuple",_,Yo.lookup,j.typeIs,?_];show HT.getItem_tuple_cut j p pl m (by rw[f];show o) ?_ (by rw[f];show i);rw[f];show#[.ref s.heap.objs.size,_,I.laid (λb B q=>b3 _ q) (Xg _) ?_,W,q _ (I.Yq.fresh (Xg _))];show#[XX (pc xs Z Y) i,_,(r.drop (HT.sIx xs.length 0 Z)).take (HT.sIx xs.length xs.length Y - HT.sIx xs.length 0 Z),ab5.new _ _]
def NY(K:CL):R2:=λx y H Q=>∃a b xs ys,x=.ref a/\y=.ref b/\SqT K H a xs/\SqT K H b ys/\xs≠[]/\xs.length+ys.length<=Xl/\
 (ys=[]->Q (.ref a) H)/\(ys≠[]->∀p,H p=P->Q (.ref p) (aR H p (.tup (xs++ys))))
def Vals.acX(r:Vals xs us):us=[]↔xs=[]:=by
 cases r with
 |nil=>simp
 |cons _ _=>simp
def Js:OpR X (Zp .Add) (NY X.K):=by intro i s B H x y v u Q I m l h;let(a,b,xs,C,rfl,rfl,K,t,r,j,o,n):=h;ext m;ext l;let(F,g,p,_):=I.tuple K;let(A,f,R,_):=I.tuple t;show HT.cat_tup p R (λz=>r (g.acX.mp z)) (λz=>#[.ref a,H,I,W,o (f.acX.mp z)]) (λz=>?_) (by rw[<-g.length,<-f.length];show j);show#[.ref s.heap.objs.size,_,I.laid (λb E q=>b3 _ q) (Xg _) ?_,W,n (λw=>z (f.acX.mpr w)) _ (I.Yq.fresh (Xg _))];show#[by rw[Xi];show j,_,g.append f,ab5.new _ _]
end
def Nb(n:Nat)(i:Int):I Nat:=if 0<=i then(if i<n then M i.toNat else P)else if -(n:Int)<=i then M (i+n).toNat else P
def lh(xs:G α)(i:Int):I α:=(Nb xs.length i).bind λj=>xs[j]?
def KQ(h:Nb n i=M j):seqIndex? i n=M j/\j<n/\ -(n:Int)<=i/\i<n:=by
 unfold Nb at h;by_cases b:0<=i
 .rw[ax b]at h
  by_cases a:i<n
  .rw[ax a]at h;let e:=Xm h;show#[by rw[seqIndex_of b a,e],by ext,by ext,a]
  .rw[a4 a]at h;ext h
 .rw[a4 b]at h
  by_cases a: -(n:Int)<=i
  .rw[ax a]at h;let e:=Xm h;show#[by rw[seqIndex_neg () a,e],by ext,a,by ext]
  .rw[a4 a]at h;ext h
def uM(h:lh xs i=M v):∃j,seqIndex? i xs.length=M j/\xs[j]?=M v/\j<xs.length/\ -(xs.length:Int)<=i/\i<xs.length:=by
 unfold lh at h;cases e:Nb xs.length i with
 |none=>rw[e]at h;ext h
 |some j=>rw[e]at h;let(g,f,b,a):=KQ e;show#[j,g,h,f,b,a]
def Av{j:Nat}(h:xs[j]?=M v):lh xs (j:Int)=M v:=by
 let a:=(W6.mp h).1;let e:Nb xs.length (j:Int)=M j:=by ext Nb;rw[ax (),ax ()];simp
 ext lh;rw[e];show h
def BV(b:XA):Prop:=∀o i,subscripted b R o i=operate [o,i] (getItem o i)
def IxR(X:Cx)(r:R2):Prop:=
 ∀(e a:XA) (b:G (J×Obj)) (s:Xd) (f:St) (H:Hp) (x y:V) (v u:U) (Q:VK),Inv X b f H s->RelV x v->RelV y u->r x y H Q->
  subscripted a R v u=operate [v,u] (getItem v u)->wpAny (model X.prog X.w) X.A (subscriptTail e a v u) (EP X b f Q) X.xe s
def RU(X:Cx)(id:String)(r:V->G V->Hp->VK->Prop):Prop:=
 ∀(a:G (J×Obj)) (s:Xd) (b:St) (H:Hp) (x:V) (xs:G V) (v:U) (e:G U) (Q:VK),Inv X a b H s->RelV x v->Vals xs e->r x xs H Q->
  wpAny (model X.prog X.w) X.A (call (.builtin id) (v::e)) (EP X a b Q) X.xe s
section
variable{X:Cx}{a b:XA}{ta tb:TE}{pos:Pos}
def IxR.or(h:IxR X r)(c:IxR X r'):IxR X (λx y H Q=>r x y H Q\/r' x y H Q):=by
 intro e f g s i H x y v u Q I l j q m;rcases q with q|q
 .show h e f g s i H x y v u Q I l j q m
 .show c e f g s i H x y v u Q I l j q m
def Ni{r:R2}(m:IxR X r)(c:PE X a ta)(n:PE X b tb)(l:BV b):PE X (.Subscript a b pos) (DJ r ta tb):=by intro e s f H Q I h;show Subscript_ (QQ c n I h λv u g x y p o j i q=>m a b e g f p x y v u Q o j i q (l _ _))
def S0(K:CL):R2:=λx y H Q=>∃p xs i v,x=.ref p/\y=.int i/\SqL K H p xs/\lh xs i=M v/\Q v H
def Sl(K:CL):R2:=λx y H Q=>∃p xs i v,x=.ref p/\y=.int i/\SqT K H p xs/\lh xs i=M v/\Q v H
def Ur:R2:=λx y H Q=>∃z i c,x=.str z/\y=.int i/\z.length<=Xl/\lh z.cps.toList i=M c/\Q (.str #[#v[c]]) H
def L8:IxR X (S0 X.K):=by
 intro l m e s E H x y v u Q I G F h A;let(p,xs,i,z,rfl,rfl,J,M,q):=h;ext G;let(t,rfl):=F;let(R,r,pl,S):=I.list J;let(j,g,P,T,O,N):=uM M;let(w,C,n):=r.get P;let L:=r.length;let K:=uS;let f:EP X e E Q w s:=#[z,H,I,n,q];by_cases B:0<=i
 .let o:i.toNat=j:=by
   rw[seqIndex_of B N]at g;show Xm g
  show item_listR pl.isList B () (by rw[o];simpa using C) f A
 .let o:(i+(R.toArray.size:Int)).toNat=j:=by
   rw[seqIndex_neg () O]at g;rw[Xr,<-L];show Xm g
  show subscriptTail_builtinR pl.isList.typeIs ahm.lookup
   (wpAny_getItem_list_neg pl.isList () (by rw[Xr]<;>ext) () (by rw[o];simpa using C) #[W,f]) A
def QH:IxR X (Sl X.K):=by
 intro f g e s n H x y v u Q I A o h B;let(p,xs,i,z,rfl,rfl,C,F,q):=h;ext A;let(t,rfl):=o;let(R,r,pl,M):=I.tuple C;let(j,J,G,P,O,N):=uM F;let(w,L,l):=r.get G;let E:=r.length;let K:=uS;let m:EP X e n Q w s:=#[z,H,I,l,q];show subscriptTail_builtinR pl.typeIs slot_tuple_getitem.lookup
  (getItem_tuple pl () () (by rw[Xr,<-E];show J) (by simpa using L) #[W,m]) B
def QR:IxR X Ur:=by
 intro e f g s C H x y v u Q I n m h o;let(z,i,c,rfl,rfl,F,r,q):=h;let(t,rfl):=n;let(E,rfl):=m;let(j,l,B,G,A,w):=uM r;let p:z.cps.toList.length=z.length:=by simp[Str.length]
 rw[p]at l A w;let K:=uS;show tail_any (adL s z t) slot_str_getitem.lookup (getItem_str (by let e1:decide (i< -(2^63:Int))=R:=a6 ();let e2:decide (i≥2^63)=R:=a6 ();rw[e1,e2,agE]) (by rw[l];simpa using B) #[.str #[#v[c]],H,I.tok _,#[_,W],q]) o
def S3(K:CL):R2:=λx y H Q=>S0 K x y H Q\/Sl K x y H Q\/Ur x y H Q
theorem FZ:IxR X (S3 X.K):=L8.or (QH.or QR)
def vh(lo c:I Int)(n:Nat):(sliceBounds lo c P n).1=((HT.sIx n 0 lo:Nat):Int)/\(sliceBounds lo c P n).2.1=((HT.sIx n n c:Nat):Int)/\(sliceBounds lo c P n).2.2=1:=by
 show#[?_,?_,W]
 .cases lo with
  |none=>simp[sliceBounds,HT.sIx]
  |some i=>
   simp only[sliceBounds,HT.sIx,aeL,show(1:Int)>0 by decide,if_true];by_cases h:i<0
   .simp only[h,if_true]<;>ext
   .simp only[h,if_false]<;>ext
 .cases c with
  |none=>simp[sliceBounds,HT.sIx]
  |some i=>
   simp only[sliceBounds,HT.sIx,aeL,show(1:Int)>0 by decide,if_true];by_cases h:i<0
   .simp only[h,if_true]<;>ext
   .simp only[h,if_false]<;>ext
def sJ(e:G U)(lo c:I Int):slicePick e.toArray lo c P=((e.drop (HT.sIx e.length 0 lo)).take (HT.sIx e.length e.length c - HT.sIx e.length 0 lo)).toArray:=by let(h,g,f):=vh lo c e.toArray.size;ext slicePick;rw[h,g,f];simp only[sliceRange_one,pick_run,Xr]<;>rfl
def TU(K:CL):V->I Int->I Int->Hp->VK->Prop:=λx lo e H Q=>∃a xs,x=.ref a/\SqL K H a xs/\∀p,H p=P->Q (.ref p) (aR H p (.lst (Dw xs lo e)))
def Mp:Nw X (TU X.K):=by intro f s o H x v t p lo A u Q I i n pl j h;let(a,xs,rfl,m,q):=h;ext i;let(y,r,g,l):=I.list m;let e:=r.length;show#["list",_,ahm.lookup,g.isList.typeIs,?_];show wpAny_getItem_list_slice g.isList n pl j .none (by simp) ?_ (by rw[Xr]<;>ext);rw[sJ,<-e];show#[.ref s.heap.objs.size,_,I.laid (λb w q=>b3 _ q) (Xg _) ?_,W,q _ (I.Yq.fresh (Xg _))];show#[XX (pc xs lo A) l,_,0,(r.drop (HT.sIx xs.length 0 lo)).take (HT.sIx xs.length xs.length A - HT.sIx xs.length 0 lo),b5 _ W]
def Zi.or(h:Zi X f r)(c:Zi X f r'):Zi X f (λxs H Q=>r xs H Q\/r' xs H Q):=by
 intro e s g H xs i Q I j q;rcases q with q|q
 .show h e s g H xs i Q I j q
 .show c e s g H xs i Q I j q
def ut:Zi X (.type "list") (λxs H Q=>∃p ys,xs=[.ref p]/\(SqL X.K H p ys\/SqT X.K H p ys)/\∀l,H l=P->Q (.ref l) (aR H l (.lst ys))):=by
 intro m s G H xs L Q I r h;let(p,ys,rfl,y,q):=h;let(u,rfl,J):=hW r;ext J
 let B:∀(g:bg U),Vals ys g->ys.length<=Xl->∀(f:Heap) (j:Nat),(∀b w,s.heap.get? b=M w->f.get? b=M w)->
   f.get? s.heap.objs.size=M {cls:=.type "list",dict:=P,data:=.seq g.toArray j,slots:= #v[]}->EP X m G Q (.ref s.heap.objs.size) {s with heap:=f}:=λg i v f j t e=>
  #[.ref s.heap.objs.size,_,I.laid t (Xg _) (show ObjOk X.prog X.w _ f _ (.lst ys)from#[v,g,j,i,e]),W,q _ (I.Yq.fresh (Xg _))]
 rcases y with y|y
 .let(g,i,pl,v):=I.list y;let A:=i.length;let(o,C,F,n,E):=pl.isList;show amj p (.inl W) C F E (λf j t e=>B g i v f j t e) (by simp only[Xr]<;>ext)
 .let(g,i,pl,v):=I.tuple y;let A:=i.length;let(o,C,F,n,E):=pl;show amj p (.inr W) C F E (λf j t e=>B g i v f j t e) (by simp only[Xr]<;>ext)
def sP:Zi X (.type "tuple") (λxs H Q=>∃p ys,xs=[.ref p]/\((SqL X.K H p ys/\∀l,H l=P->Q (.ref l) (aR H l (.tup ys)))\/(SqT X.K H p ys/\Q (.ref p) H))):=by
 intro i s C H xs E Q I r h;let(p,ys,rfl,h):=h;let(u,rfl,v):=hW r;ext v;rcases h with⟨g,q⟩|⟨g,q⟩
 .let(n,f,pl,j):=I.list g
  let m:=f.length;show call_tuple_list pl.isList (λA y=>?_) (by simp only[Xr]<;>ext);let t:=I.kept (t':=s.toks) y
  let B:=
   t.laid (t':=s.toks) (λb o e=>b3 _ e) (Xg _) (show ObjOk X.prog X.w _ _ _ (.tup ys)from#[j,n,f,ab5.new _ _])
  show#[.ref A.objs.size,_,B,W,q _ (t.Yq.fresh (Xg _))]
 .let(n,f,pl,j):=I.tuple g;show call_tuple_same pl #[.ref p,H,I,W,q]
def Vr(K:CL)(T:String)(x:V)(H:Hp):Prop:=match x with
 |.str _=>T= "str"
 |.int _=>T= "int"
 |.ref p=>(T= "list"/\∃xs,SqL K H p xs)\/(T= "tuple"/\∃o,K.lookup p=M o/\o.cls=.type "tuple"/\o.dict=P)\/
   (T= "dict"/\((∃e,H p=M (.dK e))\/∃e,H p=M (.dT e)))\/(T= "set"/\∃S n,H p=M (.set S n))
 |_=>False
def FY(I:Inv X pins σ H s)(r:RelV x v)(ty:Vr X.K T x H):
  s.TypeIs v T/\∀a,v=.ref a->∃d,s.heap.get? a=M d/\d.dict=P:=by
 cases x with
 |str z=>let(t,rfl):=r;cases(show T= "str" from ty);show#[adL s z t,λ_ e=>nomatch e]
 |int i=>let(t,rfl):=r;cases(show T= "int" from ty);show#[ack s i t,λ_ e=>nomatch e]
 |ref p=>
  ext r;rcases ty with⟨rfl,xs,j⟩|⟨rfl,o,f,l,h⟩|⟨rfl,f⟩|⟨rfl,S,n,f⟩
  .let(m,_,pl,_):=I.list j;show#[pl.isList.typeIs,λa e=>?_];ext e;let(o,n,e,c,h,_):=pl;show#[o,e,h]
  .show#[#[o,I.kIn p o f,l],λa e=>?_];ext e;show#[o,I.kIn _ o f,h]
  .let z:∃o,s.heap.get? p=M o/\o.ExactDict:=by
    rcases f with⟨q,f⟩|⟨q,f⟩
    .let(_,_,_,_,o,_,_,e,g,_):=I.Yq p _ f;show#[o,e,g]
    .let(_,_,_,_,o,_,_,e,g,_):=I.Yq p _ f;show#[o,e,g]
   let(o,e,g):=z;show#[#[o,e,g.1],λa e2=>?_];ext e2;show#[o,e,g.2.1]
  .let(o,_,_,_,e,g,_):=I.Yq p _ f;show#[#[o,e,g.1],λa e2=>?_];ext e2;show#[o,e,g.2.1]
 |_=>show False.elim ty
def Ut(K:CL)(T:String)(r:V->G V->Hp->VK->Prop)(to:TE):TE:=λf H Q=>to f H λx e=>Vr K T x e/\r x [] e Q
def RI(K:CL)(T:String)(r:V->G V->Hp->VK->Prop)(to:TE)(t:TA):TE:=λe H Q=>to e H λx f=>Vr K T x f/\t e f λxs g=>r x xs g Q
variable{o e:XA}{es:bg XA}{to:TE}{t:TA}{name:Str}{Z Y:Pos}{T U:String}{r:V->bg V->Hp->VK->Prop}
def Pi(c:PlainAttrs T)(slot:Slot T name U)(g:typeOf (.builtin U)=pure (.type "method_descriptor"))(hm:RU X U r)(u:PE X o to)
  (j:attributeBase o name X.env (eval o X.env)=eval o X.env:=by rfl) (i:(Z.endLine==Y.line)=S:=by rfl):PE X (.Call (.Attribute o name Z) [] [] Y) (Ut X.K T r to):=by
 intro f s l H Q I h;show wpAny_Call_method0_late j i (bV (u f s l H _ I h) λv p a=>?_);let(x,A,n,m,ty,q):=a;let(y,w):=FY n m ty;show#[T,U,c,slot,g,y,w,Calls.callWith_builtin W (PySem.evalArgs_none (hm f p l A x [] v [] Q n m .nil q))]
def NZ(c:PlainAttrs T)(slot:Slot T name U)(i:typeOf (.builtin U)=pure (.type "method_descriptor"))(hm:RU X U r)(G:PE X o to)(d:PA X (e::es) t)
  (n:attributeBase o name X.env (eval o X.env)=eval o X.env:=by rfl)
  (j:((backTo Y (Xu (e::es) X.env)).all (λx=> !x.1)&&(backToKw Y (keywordEach [] X.env)).all (λx=>x.1.isSome)
   &&decide ((e::es).length+([]:bg aaS).length+(if([]:bg aaS).isEmpty then 0 else 1)<30))=S:=by rfl)
  (l:(Z.endLine==Y.line)=S:=by rfl) (F:Xu (e::es) X.env=(R,eval e X.env)::Xu es X.env:=by rfl) (m:(backTo Y (Xu es X.env)).any (·.1)=R:=by rfl):
  PE X (.Call (.Attribute o name Z) (e::es) [] Y) (RI X.K T r to t):=by
 intro f s g H Q I h;show wpAny_Call_method_late n j l W (bV (G f s g H _ I h) λv A a=>?_);let(x,O,u,p,ty,E):=a;let(L,J):=FY u p ty;show#[T,U,c,slot,i,L,J,?_];let q:=d Y f A g O _ u E;rw[F]at q⊢;show Calls.callWith_builtin (by show(R||(backTo Y (Xu es X.env)).any (·.1))=R;rw[m]<;>rfl) (Calls.evalArgs_plain ?_);show bV q λw y #[vs,N,K,B,C]=>hm f y g N x vs v w Q K p B C
end
def Wu(X:Cx)(id:String)(r:V->G V->Hp->VK->Prop):Prop:=
 ∀(a:G (J×Obj)) (s:Xd) (b:St) (H:Hp) (x:V) (xs:G V) (v:U) (e:G U) (Q:VK),Inv X a b H s->RelV x v->Vals xs e->r x xs H Q->
  wpAny (model X.prog X.w) X.A (call (.builtin id) (v::e)) (EP X a b Q) X.xe s
theorem Vals.one:∀{x:V} {us:G U},Vals [x] us->∃u,us=[u]/\RelV x u
 |_,_,.cons r .nil=>#[_,W,r]
theorem Vals.rep(h:Vals xs us):∀k:Nat,Vals (Xk k xs).flatten (Xk k us).flatten
 |0=>.nil
 |k+1=>by rw[Yp,Yp,Zb,Zb];show Vals.append h (Vals.rep h k)
theorem nK(a:G U):∀(k:Nat) (acc:G U),
  aaT (λc b=>c++b) acc.toArray (Xk k a.toArray)=(acc++(Xk k a).flatten).toArray
 |0,acc=>by simp
 |k+1,acc=>by
  let e:acc.toArray++a.toArray=(acc++a).toArray:=by simp
  let e2:(acc++a)++(Xk k a).flatten=acc++(Xk (k+1) a).flatten:=by rw[Yp,Zb,X2]
  rw[<-e2,<-nK a k (acc++a),<-e,Yp,aa0]
section
variable{X:Cx}{Z:bg (Xa×Obj)}{Y:St}{H:Hp}{s:Xd}{l b:Xa}{Q T O:bg V}
def Inv.alX{g a:G U}(I:Inv X Z Y H s)(o:H l=M (.lst Q))
  (e:s.heap.get? l=M {cls:=.type "list",data:=.seq g.toArray n}) (j:f g.toArray=a.toArray) (h:Vals T a) (c:T.length<=Xl):
  Inv X Z Y (aR H l (.lst T)) {s with heap:=s.heap.update l (Obj.mapSeq f),toks:=t'}:=by
 let q:=aoa e f;rw[j]at q;show I.write (by rw[o];show trivial) (.inl W) (λp u m i=>(b7 s.heap (Obj.mapSeq f) (c9 m)).trans i) #[_,q] ?_;show#[c,a,_,h,q]
theorem Inv.aij(I:Inv X Z Y H s)(a:Vals T X6)(c:T.length<=Xl):
  Inv X Z Y (aR H s.heap.objs.size (.lst T)) {s with heap:=s.heap.push {cls:=.type "list",data:=.seq X6.toArray},toks:=t'}:=
 I.laid (λ_ _ q=>b3 _ q) (Xg _) #[c,X6,0,a,b5 _ W]
theorem Inv.fresh(I:Inv X Z Y H s):H s.heap.objs.size=P:=I.Yq.fresh (Xg _)
def Inv.aiF(I:Inv X Z Y H s)(f:H l=M (.lst Q)):Q.length<=Xl/\∃(a:G U) (n:Nat),Vals Q a/\Q.length=a.length/\s.heap.get? l=M {cls:=.type "list",data:=.seq a.toArray n}:=by let(z,a,n,r,e):=I.Yq l _ f;show#[z,a,n,r,r.length,e]
def Iz(h:n<=Xl):XS.List.listTooLong n=R:=by ext XS.List.listTooLong;show a6 ()
end
section
variable{X:Cx}
def uq:V->G V->Hp->VK->Prop:=λx a H Q=>∃l xs y,x=.ref l/\a=[y]/\H l=M (.lst xs)/\xs.length<Xl/\Q .Zo (aR H l (.lst (xs++[y])))
def om:Wu X "list.append" uq:=by intro a s j H x w v m Q I f t h;let(l,xs,y,rfl,rfl,b,o,q):=h;ext f;let(u,rfl,g):=t.one;let(z,i,n,r,p,e):=I.aiF b;show aaM F.slot_list_append #[_,e,W] F.entry_list_append (F.args_list_append_2 _ _) (PySem.list_append l i.toArray n u (by rw[Xr];ext)) #[e,?_];show#[.Zo,_,I.alX b e (by simp) (r.append (.cons g .nil)) ?_,W,q];rw[Xi,Z4];ext
def zK(xs:G α)(k:Nat):(Xk k xs).flatten.length=k*xs.length:=by
 induction k with
 |zero=>simp
 |succ k a=>rw[Yp,Zb,Xi,a,ahY,adM]
end
section
variable{Z:Xx}{w:XU}{A:XO}{E:W2->Xd->Prop}{s:Xd}
set_option maxRecDepth 100000 in
end
end L2
namespace Att
open PySem PySem.W PySem.Calls PyProof.Rows
def pL:∀(e:G Int) (c:G U),WellAll g h c (e.map WData.int)->IntsAre c e:=by
 intro e
 induction e with
 |nil=>intro c w;rw[aal]at w;ext w;show .nil
 |cons n e f=>
  intro c w;rw[Xt]at w;cases w with
  |cons a b=>ext a;show .cons _ _ (f _ b)
def Cj{l:OpenLaw}(k:l.most=M n)
  (e:l.row.toRowW.claim.pre args=S) (i:WellAll B h vals args):
  ∃a c ns,vals=[W2.ref a]/\args=[WData.list (ns.map WData.int)]/\h.get? a=M {cls:=.type "list",data:=.seq c.toArray}/\IntsAre c ns/\ns.length<=n:=by
 let j:=(pre_splitW e).1;let o:l.pre.holds [] {args:=args}=S:=(pre_splitW e).2;let(d,r,rfl,A,y):=hasAllW_cons j;obtain rfl:=hasAllW_nil y;let(xs,rfl,w):=hasW_list A;let(ns,rfl):=items_int w;let b:ns.length<=n:=by
  unfold OpenLaw.pre at o;let g:(WTm.not (.lt (.lit (.int (n:Int))) (.len (.arg 0)))).holds [] {args:=[.list (ns.map .int)]}=S:=by let g:=(holds_andW o).1;rw[k]at g;show g
  let f:=condW_of g (w_not (w_lt w_lit (w_len_list (w_arg W))));rw[W5]at f;show Nat.le_of_not_lt λq=>?_;let u:(n:Int)<((ns.length:Nat):Int):=by ext
  first
   |(rw[a5 u]at f;show bb f ())
   |(simp at f;ext)
 cases i with
 |cons t p=>
  ext p;cases t with
  |list v m=>show#[_,_,ns,W,W,v,pL ns _ m,b]
theorem CV(l:OpenLaw)(args:G WData):l.row.toRowW.claim.post args (.bool S) args=S:=
 postW_of
  (show WShape.has [] (.bool S) .bool=S by first|rfl|decide|simp[WShape.has,WShape.arms,WShape.armsAll])
  (show(WTm.eq .res (.lit (.bool S))).value [] {args:=args,res:=M (.bool S),after:=args}=M (.bool (S==S))from w_eq_bool (w_res W) w_lit) W
def attach_call{l:OpenLaw}{n:Nat}{q:Xx}{e:bg Str}{J:(Str->bt W2)->Heap->Prop}{I:XU->Heap->Prop}{d:DefRec}
  (D:l.most=cL n) (y:d.params.defaults=[])
  (call:∀(w:XU) (c b:Xd) (z t:Str->bt W2) (s:Xa) (o:Obj) (p m h:W2) (a:Xa) (k:bg W2) (j:bg Int),
   Ground q e [] J w c z t b.heap->I w b.heap->
   b.heap.get? s=cL o->o.data=.func (docDef d.name d.params d.body d.scope p m h)->b.heap.CodeRec m d.name->z d.name=cL (.ref s)->
   b.heap.get? a=cL {cls:=.type "list",data:=.seq k.toArray}->IntsAre k j->j.length<=n->b.gens= #v[]->
   codeAny (model l.prog w) callerA (.call (.ref s) #[[.ref a],[]]) (λr x=>r=.ok (.ret (.bool W3))/\OldK b.heap x.heap/\x.os=b.os/\AllBare x.gens) b):
  WalkO q e J I l.row.toRowW d [] (λf k=>ahZ f k):=by
 intro w c b z t G Y s o p m h T kV M P A F v O H E as C U K u N;obtain rfl:T=.none:=Dflts.none F y;obtain rfl:kV=.none:=Dflts.noKw F;let(a,k,j,rfl,rfl,B,g,i):=Cj D C u;show enter_call (aay (call w c b z t s o p m h a k j G Y M (fd_plain P) A v B g i O) λr x L=>?_);let(rfl,S,R,Q):=L;show#[.inl #[.bool W3,.bool W3,[],W,λ_=>W,.bool W3,CV l _,λ_=>#[aa1,λ_ hm=>(nomatch hm)]],S,R,Q]
end Att
namespace L2
open PySem PySem.Spec PyProof.Rows
theorem iS:∀{b:G U} {a:G Int},IntsAre b a->Vals (a.map V.int) b
 |_,_,.nil=>.nil
 |_,_,.cons n t h=>.cons #[t,W] (iS h)
def Tl(H:Hp):Prop:=∀b,H b=P\/∃o xs,H b=M (.frz o (.lst xs))
def GB{P:Xx}{w:XU}{K:CL}{mg E:Str->bt W2}{X:vd}{k:Nat}{fa a:Xa}{fd:Yj}{x:Str}{sp:Sp}{f:Xd}{D:bg W2}{p:bg Int}
  (U:K.In f.heap) (t:f.heap.Ns Xy mg) (g:f.heap.Ns builtinsNs E) (I:∀x:Str,x≠ "__name__"->E x=Ya x) (O:f.heap.NoLimit) (hg:f.gens= #v[])
  (ha:f.heap.get? a=cL {cls:=.type "list",data:=.seq D.toArray}) (hi:IntsAre D p) (R:p.length<=Xl) (hr:Y4 k callerA)
  (F:∀base:Heap,K.In base->base.Ns Xy mg->FnOk P w K mg base X k fa fd [x] sp) (Q:∀(s:Xd) (u:W2),abk s fd #[[u],[]] [(x,u)])
  (G:∀H:Hp,Tl H->SqL K H a (p.map V.int)->sp [.ref a] H (λv _=>v=.bl W3) λ_ _ _=>False)
  (J:∀H e c,X [] H f (λ_ _ _=>False) e c->False):
  codeAny (model P w) callerA (.call (.ref fa) #[[.ref a],[]]) (λr c=>r=.ok (.ret (.bool W3))/\OldK f.heap c.heap/\c.os=f.os/\AllBare c.gens) f:=by
 let rv:=iS hi;let M:=hi.length
 let j:∀H:Hp,Tl H->SqL K H a (p.map V.int)->HOk P w H f.heap->(∀b,H b≠Ld->b=a)->(H a≠Ld->K.lookup a=Ld)->
   codeAny (model P w) callerA (.call (.ref fa) #[[.ref a],[]]) (λr c=>r=.ok (.ret (.bool W3))/\OldK f.heap c.heap/\c.os=f.os/\AllBare c.gens) f:=by
  intro H S hS Yq T hK;let fQ:∀{b:Xa} {o:Obj},f.heap.get? b=cL o->H b=Ld->(v5 f.heap H).get? b=cL o:=λe n=>DS e n;let C:∀{b:Xa} {o:Obj} {es:Array Y7} {A:Nat},f.heap.get? b=cL o->o.data=.dict es A->H b=Ld:=λ{b o es A} e d=>by
   cases q:H b with
   |none=>rfl
   |some u=>let L:b=a:=T b (by rw[q];simp);subst L;rw[ha]at e;ext e;let d':Data.seq D.toArray _=Data.dict es A:=d;ext d'
  let i:∀{b:Xa} {m:Str->bt W2},f.heap.Ns b m->(v5 f.heap H).Ns b m:=λ{b m} #[o,es,A,e,d,r]=>#[o,es,A,fQ e (C e d),d,r];let y:K.In (v5 f.heap H):=λb o e=>fQ (U b o e) (by
   cases q:H b with
   |none=>rfl
   |some u=>let L:b=a:=T b (by rw[q];simp);subst L;rw[hK (by rw[q];simp)]at e;ext e)
  let hM:Mod K mg (v5 f.heap H):=#[y,i t,#[E,i g,I],let#[mc,h1,h2]:=O;#[mc,i h1,h2]];let e0:Env0 P w K mg (v5 f.heap H) callerA [] f H:=#[W,hM,λb o e=>Me e,ahW (Cw _ _),trivial,λb g=>bb (show b∈([]:bg Xa)from g) (by simp),Yq,.of_eq hg];show aay ((F _ y (i t)).run callerA [] f H #[[.ref a],[]] [.ref a] [.ref a] _ _ hr e0 (Q f (.ref a)) (.cons W .nil) (G H S hS)) λr c h=>?_;cases r with
  |error e=>show(J H e c h).elim
  |ok fl=>
   cases fl with
   |next=>show False.elim h
   |brk=>show False.elim h
   |cont=>show False.elim h
   |ret u=>
    let(v,H',os,B,un,N,Z,q):=h;let q':v=.bl W3:=q;subst q';obtain rfl:u=W2.bool W3:=Z;show#[W,OldK.of_keep λb o e=>?_,os,B];cases q:H b with
    |none=>show un.keep b o e q (by intro z;show bb (show b∈([]:bg Xa)from z) (by simp)) (by simp)
    |some u=>
     rcases S b with z|⟨ob,xs,z⟩
     .rw[q]at z;ext z
     .let Y:=un.abQ b ob _ z;let(e1,_):=Yq b _ z;let(e2,_):=N b _ Y;rw[e]at e1;ext e1;show e2
 cases hk:K.lookup a with
 |some o=>let e:=U a o hk;rw[ha]at e;ext e;show j (λ_=>Ld) (λ_=>.inl W) (.inr #[_,D.toArray,_,hk,W,W,W,by rw[Xr,M];show R,by simpa using rv]) (λb u z=>by let l:(Ld:bt HO)=cL u:=z;ext l) (λb z=>bb W z) λz=>bb W z
 |none=>
  show j (λb=>if b=a then cL (.frz {cls:=.type "list",data:=.seq D.toArray} (.lst (p.map V.int)))else Ld) (λb=>?_) (.inl (.inr #[{cls:=.type "list",data:=.seq D.toArray},ax W])) (λb u z=>?_) (λb z=>?_) λ_=>hk
  .by_cases g:b=a
   .show .inr #[_,_,ax g]
   .show .inl (a4 g)
  .by_cases g:b=a
   .let l:=(ax g).symm.trans z;ext l;subst g;show#[ha,by rw[W5];show R,D,_,rv,ha]
   .let l:=(a4 g).symm.trans z;ext l
  .by_cases g:b=a
   .show g
   .show bb (a4 g) z
def aO(s:YQ)(j:Nat):YQ:=match s with
 |.ClassDef _ _ _ body _ _ _ _ _ _ _=>body.getD j (.Pass #[0,0,0,0])
 |_=>.Pass #[0,0,0,0]
def eZ(s:YQ):Arguments:=match s with
 |.FunctionDef _ a _ _ _ _ _ _ _ _=>a
 |_=>{posonlyargs:=[],args:=[],vararg:=P,kwonlyargs:=[],kw_defaults:=[],kwarg:=P,defaults:=[]}
def bW(s:YQ):G YQ:=match s with
 |.FunctionDef _ _ b _ _ _ _ _ _ _=>b
 |_=>[]
def au(s:YQ):Zc:=match s with
 |.FunctionDef _ _ _ _ _ _ sc _ _ _=>sc
 |_=>{kind:=.function,names:=[],isGenerator:=R,isCoroutine:=R}
abbrev kQ:vd:=λ_ _ _ _ _ _=>False
abbrev E0:XK:=λ_ _ _=>False
theorem GA:dW kQ X E0:=λ_ _ _ _ _ _ _ h=>h.elim
structure Fun(K:CL)(x qual:Str)(st:YQ)(f:J)(fd:Yj):Prop where
 ex:∃(oc:U) (od:I J) (kV doc pm:U) (an:I J) (Y3 ct:U) (osl:Array (I U)),
  fd=YC x qual (eZ st) (bW st) (au st) .none kV doc pm an Y3 ct/\K.lookup f=M #[oc,od,.func fd,osl]/\aah K Y3 qual=S
 kp:YM K (.ref f)=S
section
variable{P:Xx}{w:XU}{K:CL}{Z:Str->bt W2}{base:Heap}
def Fun.ok{x a:Str}{st:YQ}{f:J}{fd:Yj}{N d:G Str}{k:Nat}{sp:Sp}(F:Fun K x a st f fd)(S:Zm N d (au st))(len:∀c H Q E,sp c H Q E->c.length=d.length)
  (n:∀(b:U) (A:XO) (outer:G Env) (s:Xd) (H:Hp) (c:G V) (Q:VK) (E:XK),Y4 k (A.deeper (envOfC a (au st) s.heap.objs.size f b))->sp c H Q E->
   ∃t,PSs (fC kQ P w K Z base N a (au st) f b A outer s H E).nox (bW st) t/\t {nx:=λ_ v=>Q .Zo v,rt:=Q} (start N c) H):FnOk P w K Z base kQ (k+1) f fd d sp:=by
 let(r,p,kV,m,o,u,b,ct,i,rfl,j,g):=F.ex;show Et j g S len λA outer s H c Q E l e=>?_;let(t,h,q):=n b A outer s H c Q E l e;show#[t,h.nox,q]
def Fun.binds{x a:Str}{st:YQ}{f:J}{fd:Yj}{ps:G Str}(F:Fun K x a st f fd)
  (h:∀(kV b e:U) (g:I J) (i ct:U) (us:G U),us.length=ps.length->bindArgs (YC x a (eZ st) (bW st) (au st) .none kV b e g i ct) #[us,[]]=pure (ps.zip us)):Binds K fd ps []:=by
 let(n,m,kV,b,e,g,i,ct,j,rfl,o,l):=F.ex;show .all (h kV b e g i ct)
theorem G1{st:YQ}{kV a e b ct:U}(l:K.lookup f=M #[oc,C,.func (YC x qual (eZ st) (bW st) (au st) .none kV a e an b ct),o])
  (c:aah K b qual=S) (k:YM K (.ref f)=S):Fun K x qual st f (YC x qual (eZ st) (bW st) (au st) .none kV a e an b ct):=#[#[oc,C,kV,a,e,an,b,ct,o,W,l,c],k]
end
theorem HE(a:Y4 k A):A.units+1<cLine:=aeZ (Nat.add_le_add_left (by decide:1<=64) _) a.units
section
variable{X:Cx}
theorem pv(i:Nat)(e:X.N[i]?=M x:=by rfl)(b:Ua X.env.scope x:=by first|show Or.inl W|show Or.inr (Or.inl W)|show Or.inr (Or.inr W))(hd:(x==("__debug__":Str))=R:=by decide)
  (a:(x==("__classdict__":Str))=R:=by decide):PE X (.Name x pos) (nY i):=E4 e b hd a
end
def YS(H a:Hp):Prop:=∀b o,H b=M o->a b=M o
theorem YS.refl(H:Hp):YS H H:=λ_ _ h=>h
theorem YS.trans(a:YS H H1)(b:YS H1 H2):YS H H2:=λc o h=>b c o (a c o h)
def YS.free(e:YS H H')(h:H' l=P):H l=P:=by
 cases q:H l with
 |none=>rfl
 |some o=>rw[e l o q]at h;ext h
end L2
set_option maxHeartbeats 4000000
namespace L2
open PySem PySem.Spec PyProof.Rows
section
variable{X:Cx}{Z:bg (Xa×Obj)}{T:St}{H:Hp}{s:Xd}{Y:Heap}
def Inv.ad2{ch:G J}(I:Inv X Z T H s)(i:∀b∈ch,oz X Z H b)
  (k:∀b u,b∉ch->s.heap.get? b=M u->Y.get? b=M u) (l:s.heap.objs.size<=p)
  (new:ObjOk X.prog X.w (aR H p o) Y p o):Inv X Z T (aR H p o) {s with heap:=Y,toks:=t'}:=by
 let w:=I.Yq.fresh l;let f:∀b u,H b=M u->b∉ch:=λb u e z=>by rw[(i b z).1]at e;ext e
 let h:∀b u,s.heap.get? b=M u->b≠p:=λb u e=>XB (XD (b4 e) l);show I.step (λb g=>?_) (λb u _ _ a e _=>k b u a e) (λb u _ _ a e _=>#[u.slots,k b u a e])
  (λb u _ e n=>by rw[ar (h b u e)];show n) (λb u a e=>#[u,k b u a e]) (λb xs e=>by rw[ar (bH e w)];show e)
  (λb u xs e=>by rw[ar (bH e w)];show e) (λb K e=>#[#v[],by rw[ar (bH e w),e];simp]) (λm hm=>?_) (λb u e=>?_) I.bare
 .let(_,C,_,B,A,y):=i b g;show#[B,C,A,y]
 .let(j,es,E,t,r):=hm;show#[j,es,E,k _ j (λz=>(i _ z).2.1 W) t,r]
 .by_cases g:b=p
  .subst g;rw[ay]at e;ext e;show new
  .rw[ar g]at e
   show(I.Yq b u e).aaQ (λc v a q=>k c v ?_ q) (λc q=>by rw[ar (bH q w)];show q) λc xs q=>by rw[ar (bH q w)];show q
   rcases a with z|z
   .rw[z];show f b u e
   .show f c _ z
end
mutual
inductive DV(K:CL)(H:Hp):V->Xe->Prop
 |Zo:DV K H .Zo .none
 |bl (b:Bool):DV K H (.bl b) (.bool b)
 |int (i:Int):DV K H (.int i) (.int i)
 |str (x:Str):DV K H (.str x) (.str x)
 |tup {a:Xa} {xs:bg V} {ds:bg Xe}:SqT K H a xs->YH K H xs ds->DV K H (.ref a) (.tuple ds)
 |lst {a:Xa} {xs:bg V} {ds:bg Xe}:SqL K H a xs->YH K H xs ds->DV K H (.ref a) (.list ds)
inductive YH(K:CL)(H:Hp):bg V->bg Xe->Prop
 |nil:YH K H [] []
 |cons {v:V} {vs:bg V} {d:Xe} {ds:bg Xe}:DV K H v d->YH K H vs ds->YH K H (v::vs) (d::ds)
end
section
variable{X:Cx}{Z:bg (Xa×Obj)}{σ:St}{H:Hp}{s:Xd}
mutual
theorem DV.reads(I:Inv X Z σ H s):∀{v:V} {d:Xe} {u:W2},DV X.K H v d->RelV v u->∃as,adN s.heap u d as
 |_,_,_,.Zo,r=>by cases r;exact⟨_,.none⟩
 |_,_,_,.bl b,r=>by cases r;exact⟨_,.bool b⟩
 |_,_,_,.int i,r=>by obtain⟨t,rfl⟩:=r;exact⟨_,.int i t⟩
 |_,_,_,.str x,r=>by obtain⟨t,rfl⟩:=r;exact⟨_,.str x t⟩
 |_,_,_,.tup h hs,r=>by cases r;obtain⟨a,rv,⟨o,e,c,n,d⟩,_⟩:=I.tuple h;obtain⟨as,q⟩:=YH.reads I hs rv;exact⟨_,.tuple e c d (by simpa using q)⟩
 |_,_,_,.lst h hs,r=>by cases r;obtain⟨a,rv,⟨o,n,e,c,_,d⟩,_⟩:=I.list h;obtain⟨as,q⟩:=YH.reads I hs rv;exact⟨_,.list e c d (by simpa using q)⟩
theorem YH.reads(I:Inv X Z σ H s):∀{vs:bg V} {ds:bg Xe} {us:bg W2},YH X.K H vs ds->Vals vs us->∃as,abI s.heap us ds as
 |_,_,_,.nil,r=>by cases r;exact⟨_,.nil⟩
 |_,_,_,.cons h hs,r=>by
  cases r with
  |cons b a=>obtain⟨as,q⟩:=DV.reads I h b;obtain⟨bs,e⟩:=YH.reads I hs a;exact⟨_,.cons q e⟩
end
end
def MB(K:CL)(neg:Bool):R2:=λx y H Q=>∃a b,DV K H x a/\DV K H y b/\a.canLay0=S/\b.canLay0=S/\a.depth<=64/\Q (.bl (if neg then !Xe.eqv a b else Xe.eqv a b)) H
section
variable{X:Cx}
def Pt(o:X.A.units+64<cLine):OpR X (YR .Eq) (MB X.K R):=by intro a s n H x y v u Q I e b h;let(t,r,m,l,j,i,p,q):=h;let(as,g):=m.reads I e;let(bs,f):=l.reads I b;show akf g f j i () #[.bl _,H,I,W,q]
def RB(o:X.A.units+64<cLine):OpR X (YR .NotEq) (MB X.K S):=by intro a s n H x y v u Q I e b h;let(t,r,m,l,j,i,p,q):=h;let(as,g):=m.reads I e;let(bs,f):=l.reads I b;show akg g f j i () #[.bl _,H,I,W,q]
theorem IB:OpR X (Zp .FloorDiv) (rI (λ_ j=>0<j/\j.natAbs.log2<9000) λi j=>.int (i/j)):=U4 λi j _ _ _ _ _ a q=>by let b:(0:Int)<j:=a.1;show floordiv_int () (by rw[Int.fdiv_eq_ediv_of_nonneg i ()];show q) (.inl (PyProof.noPylong_of_log2 a.2))
end
def gz(env:Env):G (Str×Xz)->G (Str×J)->G (Str×J)
 |[],acc=>acc
 |(n,k)::r,acc=>if(k==Xz.free)=S then(match env.cells.lookup n with|some c=>gz env r ((n,c)::acc)|none=>gz env r acc)else gz env r acc
theorem lH{f:Str×Xz->G (Str×J)->Sem (ForInStep (G (Str×J)))}
  (g:∀n k acc,(k==Xz.free)=R->f (n,k) acc=pure (.yield acc)) (b:∀n c acc,env.cells.lookup n=M c->f (n,.free) acc=pure (.yield ((n,c)::acc))):
  ∀(names:G (Str×Xz)) (acc:G (Str×J)),(∀y∈names,y.2=.free->∃c,env.cells.lookup y.1=M c)->forIn names acc f=pure (gz env names acc)
 |[],acc,_=>rfl
 |(n,k)::r,acc,h=>by
  let i:=λy l=>h y (Xf _ l);rw[aae];cases m:(k==Xz.free)with
  |false=>rw[g n k acc m,pure_bind];show forIn r acc f=_;rw[lH g b r acc i];simp only[gz,m,YJ,if_false]
  |true=>
   let e:k=.free:=by simpa using m
   subst e;let(c,j):=h _ Xb W;rw[b n c acc j,pure_bind];show forIn r ((n,c)::acc) f=_;rw[lH g b r _ i];let a:=j;simp only[gz,m,if_true,a]
def qQ(h:∀y∈scope.names,y.2=.free->∃c,env.cells.lookup y.1=M c):closureFor scope env=pure (gz env scope.names []):=by simp only[closureFor];rw[lH (λn k a b=>by simp only[b,YJ,if_false]) (λn c a e=>by simp only[dN,if_true,cellOf,e,pure_bind]) scope.names [] h,pure_bind]
theorem jY:∀(names:G (Str×Xz)) (acc:G (Str×J)),(∀x c,acc.lookup x=M c->env.cells.lookup x=M c)->∀x c,(gz env names acc).lookup x=M c->env.cells.lookup x=M c
 |[],_,h,x,c,e=>h x c e
 |(n,k)::r,acc,h,x,c,e=>by
  unfold gz at e;split at e
  .split at e
   .rename_i f a
    show jY r _ (λy d q=>?_) x c e;rw[X4]at q;split at q
    .rename_i b;ext q;rw[eq_of_beq b];show a
    .show h y d q
   .show jY r acc h x c e
  .show jY r acc h x c e
theorem j9:∀(names:G (Str×Xz)) (acc:G (Str×J)) (x:Str),(acc.lookup x).isSome=S->((gz env names acc).lookup x).isSome=S
 |[],_,_,h=>h
 |(n,k)::r,acc,x,h=>by
  ext gz;split
  .split
   .show j9 r _ x ?_
    rw[X4];split
    .rfl
    .show h
   .show j9 r acc x h
  .show j9 r acc x h
theorem my:∀(names:G (Str×Xz)) (acc:G (Str×J)) (x:Str) (c:J),(x,Xz.free)∈names->env.cells.lookup x=M c->((gz env names acc).lookup x).isSome=S
 |[],_,_,_,h,_=>by ext h
 |(n,k)::r,acc,x,c,h,a=>by
  rcases Xw.mp h with z|h
  .ext z;simp only[gz,dN,if_true,a];show j9 r _ _ (by simp[X4])
  .ext gz
   split
   .split
    .show my r _ x c h a
    .show my r acc x c h a
   .show my r acc x c h a
def xJ(h:(x,Xz.free)∈names)(a:env.cells.lookup x=M c):(gz env names []).lookup x=M c:=by
 let q:=my names [] x c h a;cases e:(gz env names []).lookup x with
 |none=>rw[e]at q;ext q
 |some d=>let z:=jY names [] (λy d q=>by ext q) x d e;rw[a]at z;show z.symm
def xo{env:Env}{a:Zc}{x:Str}{k:Xz}(h:(relabel a env).names.lookup x=M k):∃c,(x,c)∈a.names/\(k=c\/(c=.free/\k=.cell)):=by
 let((n,c),hm,e):=Xv.mp (YV h);simp only at e;split at e
 .rename_i b
  ext e;let f:(c==Xz.free)=S:=by rw[W0,W0]at b;show b.1.1
  show#[c,hm,.inr #[by simpa using f,W]]
 .ext e;show#[_,hm,.inl W]
theorem jc{env:Env}:∀{names:G (Str×Xz)} {x:Str},names.lookup x=M .free->
  (names.map λ(n,k)=>if(k==Xz.free&&env.scope.kind==.function&&env.kindOf n==M .cell)then(n,Xz.cell)else(n,k)).lookup x=M .cell\/
  (names.map λ(n,k)=>if(k==Xz.free&&env.scope.kind==.function&&env.kindOf n==M .cell)then(n,Xz.cell)else(n,k)).lookup x=M .free
 |[],_,h=>by ext h
 |(n,k)::r,x,h=>by
  rw[X4]at h;rw[Xt];dsimp only;by_cases a:(k==Xz.free&&env.scope.kind==.function&&env.kindOf n==M .cell)=S
  .rw[ax a,X4]
   cases b:x==n with
   |true=>show .inl W
   |false=>rw[b]at h;show jc h
  .rw[a4 a,X4]
   cases b:x==n with
   |true=>rw[b]at h;show .inr h
   |false=>rw[b]at h;show jc h
def dS(own:G Str)(a:G (Str×Nat)):G Str:=own++a.map (·.1)
def iK(own:G Str)(b:G (Str×Nat))(a:St):St:=own.map (λ_=>P)++b.map λp=>(a[p.2]?).join
def acU(X:Cx)(a:Zc):G (Str×Nat)->Prop
 |[]=>True
 |p::r=>(X.N[p.2]?=M p.1/\a.names.lookup p.1=M .free/\(X.env.scope.names.lookup p.1=M .cell\/X.env.scope.names.lookup p.1=M .free))/\acU X a r
theorem acU.mem:∀{b:G (Str×Nat)},acU X scope b->∀p∈b,X.N[p.2]?=M p.1/\scope.names.lookup p.1=M .free/\(X.env.scope.names.lookup p.1=M .cell\/X.env.scope.names.lookup p.1=M .free)
 |[],_,p,a=>by ext a
 |q::r,h,p,a=>by
  rcases Xw.mp a with z|a
  .rw[z];show h.1
  .show h.2.mem p a
def vM(X:Cx)(a:Zc)(C:J):G (Str×J):=Y8 (C+1) a.names (gz X.env a.names [])
theorem qD:∀(names:G (Str×Xz)) (n:Nat) (acc:G (Str×J)) (x:Str) (c:J),(Y8 n names acc).lookup x=M c->(n<=c/\(x,Xz.cell)∈names)\/acc.lookup x=M c
 |[],_,_,_,_,h=>.inr h
 |(y,k)::r,n,acc,x,c,h=>by
  unfold Y8 at h;by_cases b:(k==Xz.cell)=S
  .rw[ax b]at h
   let e:k=.cell:=by simpa using b
   rcases qD r _ _ x c h with⟨a,f⟩|a
   .show .inl #[aaH a,Xf _ f]
   .rw[X4]at a
    split at a
    .rename_i g;ext a;show .inl #[Xg _,by rw[eq_of_beq g,e];show Xb]
    .show .inr a
  .rw[a4 b]at h
   rcases qD r _ _ x c h with⟨a,f⟩|a
   .show .inl #[a,Xf _ f]
   .show .inr a
theorem Fi:∀(names:G (Str×Xz)) (n:Nat) (acc:G (Str×J)) (x:Str),(x,Xz.cell)∉names->(Y8 n names acc).lookup x=acc.lookup x
 |[],_,_,_,_=>rfl
 |(y,k)::r,n,acc,x,h=>by
  let b:=λz=>h (Xf _ z);ext Y8;by_cases a:(k==Xz.cell)=S
  .let e:k=.cell:=by simpa using a
   rw[ax a,Fi r _ _ x b,X4];let f:(x==y)=R:=by show beq_eq_false_iff_ne.mpr λz=>h ?_;rw[z,e];show Xb
   rw[f]
  .rw[a4 a];show Fi r _ _ x b
theorem rG:∀(names:G (Str×Xz)) (h:Heap) (acc:G (Str×J)) (x:Str) (c:J),(Y8 h.objs.size names acc).lookup x=M c->(h.objs.size<=c/\(pushCells h names).IsCell c P)\/acc.lookup x=M c
 |[],_,_,_,_,e=>.inr e
 |(y,k)::r,h,acc,x,c,e=>by
  unfold Y8 at e;ext pushCells;by_cases b:(k==Xz.cell)=S
  .rw[ax b]at e⊢
   rw[<-cc h {cls:=.type "cell",data:=.cell P}]at e;rcases rG r _ _ x c e with⟨a,f⟩|a
   .rw[cc]at a;show .inl #[aaH a,f]
   .rw[X4]at a
    split at a
    .ext a;show .inl #[Xg _,_,ada _ _ _ _ (b5 _ W),W]
    .show .inr a
  .rw[a4 b]at e⊢;show rG r _ _ x c e
theorem x8:∀(names:G (Str×Xz)) (n:Nat) (acc:G (Str×J)),(∀x c,acc.lookup x=M c->c<n)->(∀x y c,acc.lookup x=M c->acc.lookup y=M c->x=y)->∀x y c,(Y8 n names acc).lookup x=M c->(Y8 n names acc).lookup y=M c->x=y
 |[],_,_,_,i,x,y,c,e1,e2=>i x y c e1 e2
 |(z,k)::r,n,acc,h1,i,x,y,c,e1,e2=>by
  unfold Y8 at e1 e2;by_cases g:(k==Xz.cell)=S
  .rw[ax g]at e1 e2
   show x8 r (n+1) ((z,n)::acc) (λa d q=>?_) (λa b d f e=>?_) x y c e1 e2
   .rw[X4]at q
    split at q
    .ext q;show ZI _
    .show aaI (h1 a d q)
   .rw[X4]at f e
    split at f
    .rename_i j
     split at e
     .rename_i h;rw[eq_of_beq j,eq_of_beq h]
     .ext f;show bb (h1 b _ e) (YN _)
    .split at e
     .ext e;show bb (h1 a _ f) (YN _)
     .show i a b d f e
  .rw[a4 g]at e1 e2;show x8 r n acc h1 i x y c e1 e2
theorem yK:∀{names:G (Str×Xz)} {x:Str} {k a:Xz},(names.map (·.1)).Nodup->names.lookup x=M k->(x,a)∈names->k=a
 |[],_,_,_,_,h,_=>by ext h
 |(y,j)::r,x,k,a,f,h,hm=>by
  rw[Xt,Yy]at f;rw[X4]at h;rcases Xw.mp hm with e|b
  .ext e;rw[dN]at h;show(Xm h).symm
  .cases g:x==y with
   |true=>rw[eq_of_beq g]at b;show bb (Xv.mpr #[_,b,W]) f.1
   |false=>rw[g]at h;show yK f.2 h b
def cA(X:Cx)(s:Xd)(H:Hp)(a:Zc)(C:J)(N:G Str)(b:G J):Cx:=
 {X with N:=N,s₀:=s,H₀:=H,env:=compEnvC a (vM X a C) C X.env,outer:=X.stack,stack:=X.stack,ex:=b,fn:=λx=>((gz X.env a.names []).lookup x).isNone,pn:=[],xe:=λ_ _=>False}
section
variable{X:Cx}{Z:bg (Xa×Obj)}{Y:St}{H:Hp}{s:Xd}
def tW{a:Zc}(I:Inv X Z Y H s)(e:(gz X.env a.names []).lookup x=M c):X.env.cells.lookup x=M c/\c<s.heap.objs.size:=by let h:=jY _ _ (λ_ _ q=>by ext q) x c e;let(v,o,z,_):=I.cell x c h;show#[h,b4 z]
theorem A1(I:Inv X Z Y H s)(E:scope.kind=.function)(n:(scope.names.map (·.1)).Nodup)
  (v:∀y∈scope.names,y.2=.free->∃c,X.env.cells.lookup y.1=cL c) (g:s.heap.objs.size<=C) (j:∀b∈fp,oz X Z H b) (f:∀b∈fp,b<s.heap.objs.size):(cA X s H scope C N fp).Ok where
 mod:=I.ok.mod
 kind:=E
 glob:=I.ok.glob
 blt:=I.ok.blt
 above:=g
 inj:=x8 _ _ _ (λx c e=>aaI (XD (tW I e).2 g)) λx y c B A=>I.ok.inj x y c (tW I B).1 (tW I A).1
 has:=λx J=>by
  let m:∃k,(relabel scope X.env).names.lookup x=cL k/\(k=.cell\/k=.free):=by
   rcases J with z|z
   .show#[_,z,.inl W]
   .show#[_,z,.inr W]
  let(k,L,t):=m;let(F,hm,u):=xo L;let e:F=.free\/F=.cell:=by
   rcases u with z|⟨z,_⟩
   .subst z
    rcases t with z|z
    .show .inr z
    .show .inl z
   .show .inl z
  let q:((vM X scope C).lookup x).isSome=S:=by
   rcases e with e|e
   .subst e;let(c,M):=v _ hm W;show ZS _ _ _ (.inr (by rw[xJ hm M];rfl))
   .subst e
    show ZS _ _ _ (.inl ?_);cases z:scope.names.lookup x with
    |none=>show bb hm (λhm=>by
      let:∀{l:bg (Str×Xz)},l.lookup x=P->(x,Xz.cell)∉l:=λ{l}=>by
       induction l with
       |nil=>show λ_=>by simp
       |cons p r G=>
        intro h q;rw[X4]at h;rcases Xw.mp q with q|q
        .rw[<-q,dN]at h;ext h
        .split at h
         .ext h
         .show G h q
      show this z hm)
    |some O=>rw[yK n z hm]
  show YI.mp q
 cab:=λx c B A=>by
  let i:((gz X.env scope.names []).lookup x).isNone=S:=B;let w:=A;rcases qD _ _ _ x c w with⟨z,_⟩|z
  .show XX g (aaH z)
  .rw[z]at i;ext i
 hd:=I.ok.hd
 frames:=I.ok.frames
 stk:=.inl W
 exf:=λb a=>#[XB (XD (f b a) g),λx c e=>by
  rcases qD _ _ _ x c e with⟨z,_⟩|z
  .show Yw (XD (XD (f b a) g) (aaH z))
  .show(j b a).2.2.2.2.1 x c (tW I z).1]
 bs:=I.bs
 bsz:=XX I.ok.bsz I.sz
 adt:=λb o e a=>by
  rcases(j b a).2.2.2.1 with z|z
  .show I.ok.adt b o e z
  .show bb (XD (b4 e) (XX I.ok.bsz z)) (YN _)
 adm:=λb a K=>by
  rcases Xw.mp (I.abO b K)with z|z
  .show(j b a).2.1 z
  .show(j b a).2.2.1 z
 abo:=I.stack
 frf:=I.aci
def GX(I:Inv X Z Y H s)(aas:scope.kind=.function)(d:(scope.names.map (·.1)).Nodup)
  (N:∀y∈scope.names,y.2=.free->∃c,X.env.cells.lookup y.1=M c) (L:acU X scope fv) (B:s.heap.objs.size<=D) (j:D<C) (T:s.heap.objs.size<=C) (hf:∀b∈fp,oz X Z H b) (O:∀b∈fp,b<s.heap.objs.size)
  (F:h1.Ns C m) (E:∀x c,(vM X scope C).lookup x=M c->C<c->∃v,h1.IsCell c v) (w:∀b o,s.heap.get? b=M o->h1.get? b=M o) (hd:∃n,h1.get? D=M {cls:=.type "list",data:=.seq #v[] n}):
  Inv (cA X s H scope C (dS own fv) fp) [] (iK own fv Y) (aR H D (.lst [])) {s with heap:=h1,toks:=t1}:=by
 let hn:=I.Yq.fresh B;let(n,hd):=hd;let Q:=Yw j;let h:∀x c,(vM X scope C).lookup x=M c->C<c\/(X.env.cells.lookup x=M c/\c<s.heap.objs.size):=λx c e=>by
  rcases qD _ _ _ x c e with⟨z,_⟩|z
  .show .inl z
  .show .inr (tW I z)
 show#[A1 I aas d N T hf O,W,I.bare,Un.laid w B hn,#[m,F,λi x v e1 e2 e3=>?_],λx c e=>?_,?_,λx c e=>?_,λp hp=>bb (show p∈([]:G (J×Obj))from hp) (by simp),?_,?_]
 .
  let f:(own++fv.map (·.1))[i]?=M x:=e1;let a:(own.map (λ_=>(P:bt V))++fv.map λp=>(Y[p.2]?).join)[i]?=M (M v):=e2;let A:own.length<=i:=by
   by_cases A:i<own.length
   .rw[Xh (by simpa using A),Xj]at a
    cases q:own[i]? with
    |none=>rw[q]at a;ext a
    |some _=>rw[q]at a;ext a
   .omega
  rw[XT A,Xj]at f;rw[XT (by simpa using A),Xj,W5]at a;cases q:fv[i - own.length]? with
  |none=>rw[q]at f;ext f
  |some p=>
   rw[q]at f a;let ex:=Xm f;subst ex;let ev:(Y[p.2]?).join=M v:=Xm a;let(g1,g2,g3):=L.mem p (XI q);let ev2:Y[p.2]?=M (M v):=by
    cases z:Y[p.2]? with
    |none=>rw[z]at ev;ext ev
    |some y=>rw[z]at ev;show dw M ev
   let(m0,_,hl):=I.loc;let(u,r,l):=hl p.2 p.1 v g1 ev2 (.inr g3);show#[u,r,?_];let l2:∃c,X.env.cells.lookup p.1=M c/\s.heap.IsCell c (M u):=by
    rcases l with⟨k,_⟩|⟨_,c,e,z⟩
    .let t:X.env.scope.names.lookup p.1=M .local:=k
     rcases g3 with z|z
     .rw[z]at t;ext t
     .rw[z]at t;ext t
    .show#[c,e,z]
   let(c,e,o,K,g):=l2;show .inr #[?_,c,?_,o,w c o K,g]
   .show jc g2
   .show(vM X scope C).lookup p.1=M c;ext vM;rw[Fi _ _ _ _ λz=>by cases yK d g2 z];show xJ (YV g2) e
 .rcases h x c e with z|⟨z,_⟩
  .show E x c e z
  .let(v,o,K,g):=I.cell x c z;show#[v,o,w c o K,g]
 .show aR H D (.lst []) C=P;rw[ar Q];show I.Yq.fresh T
 .show aR H D (.lst []) c=P
  rcases h x c e with z|⟨z1,z2⟩
  .rw[ar (Yw (Z0 j z))];show I.Yq.fresh (XX T (aaX z))
  .rw[ar (XB (XD z2 B))];show I.Z7 x c z1
 .show I.Yq.laid w B #[by show 0<=Xl;show X1 _,[],n,.nil,hd]
 .show(own.map (λ_=>(P:bt V))++fv.map λp=>(Y[p.2]?).join).length=(own++fv.map (·.1)).length;simp
end
def yC(X:Cx)(e:G XA)(t:TT):Prop:=
 ∀(a:G (J×Obj)) (s:Xd) (b:St) (H:Hp) (Q:Bool->Hp->Prop),Inv X a b H s->t b H Q->
  wpAny (model X.prog X.w) X.A (forIn e S λc r=>if r=S then do let ok<-isTrue c X.env (eval c X.env);pure (ForInStep.yield ok)else pure (ForInStep.yield r)) (TP X a b Q) X.xe s
def Fs:TT:=λ_ H Q=>Q S H
theorem wB:yC X [] Fs:=λ_ _ _ H _ I h=>wpAny_tests_nil #[H,I,h]
theorem GZ(h:PT X c o):yC X [c] o:=λa s b H Q I e=>wpAny_tests_one (h a s b H Q I e)
def D8(J:It)(D:Xa)(e:St)(g:TG)(j:TT)(c:TE)(n:Hp)(Fin:Hp->Prop):Prop:=
 ∃W:Nat->Nat->St->Hp->Prop,(∃m,W 0 m e (aR n D (.lst [])))/\∀i m σ H,W i m σ H->
  (J.stop i H/\Fin H)\/(J.go i H/\∃N:St->Hp->Prop,(∀o p,N o p->∃q,q<m/\W (i+1) q o p)/\
   ∀x p,J.yld i H x p->g x σ p λa l=>j a l λb h=>if b=S then c a h λy f=>∃ys,f D=M (.lst ys)/\ys.length<Xl/\N a (aR f D (.lst (ys++[y])))else N a h)
section
variable{Y:Xx}{w:XU}{A:XO}{s:Xd}
def Dx{g l iter:XA}{f:bg XA}{b:Zc}{i:Pos}{o acc:U}{env:Env}{R:acP->Xd->Prop}{XE:U->Xd->Prop}(B:∀x s1,XE x s1->notedBy (model Y w) A env (λe s2=>R (.error e) s2) x s1)(I:Nat->Xd->Prop)
  (turn:∀n s,I n s->wpAny (model Y w) A (pyNext o) (λr s1=>match r with
   |none=>R (.ok .next) s1
   |some v=>wpAny (model Y w) A (letOwnedTupleGo l o v) (λ_ s2=>wpAny (model Y w) A (assign l env v) (λ_ s3=>
     wpAny (model Y w) A (forIn f S λc r=>if r=S then do let ok<-isTrue c env (eval c env);pure (ForInStep.yield ok)else pure (ForInStep.yield r)) (λok s4=>
      if ok=S then wpAny (model Y w) A (eval g env) (λx s5=>
       wpAny (model Y w) A (call (.builtin "list.append") [acc,x]) (λ_ d=>∃m,m<n/\I m d) (λ_ _=>False) s5) XE s4
      else∃m,m<n/\I m s4) (λ_ _=>False) s3) (λ_ _=>False) s2) (λ_ _=>False) s1) (λ_ _=>False) s)
  (n:Nat) (h:I n s):codeAny (model Y w) A (.compLoop (.ListComp g [#[l,iter,f,0]] b i) 0 o acc env) R s:=by
 show codeAny_loop W I (λn s C=>?_) n h;show wpAny _ A (Sem.onRaise (compTurn (.ListComp g [#[l,iter,f,0]] b i) 0 o acc env) (λx=>do noteFrame x env;theTreesLotGoes x)) _ _ s;show wpAny_noted ?_;rw[compTurn_list]
 let j:∀{α:Type} {t:Sem α} {Q y:α->Xd->Prop} {E:U->Xd->Prop} {s:Xd},wpAny (model Y w) A t Q (λ_ _=>False) s->(∀a K,Q a K->y a K)->wpAny (model Y w) A t y E s:=
  λp q=>wpAny_mono p q λ_ _ z=>False.elim z
 show lD (Zk (lD (j (turn n s C) λr s1 p=>?_)));cases r with
 |none=>show W9 p
 |some v=>
  show lD (j p λ_ s2 q=>lD (j q λ_ s3 H=>lD (j H λok s4 u=>?_)));cases ok with
  |false=>show W9 #[W,u]
  |true=>show lD (lD (wpAny_mono u (λx s5 G=>lD (j G λ_ d F=>W9 (W9 #[W,F]))) B))
end
section
variable{X:Cx}{Z:bg (Xa×Obj)}{Y:St}{H:Hp}{s:Xd}
def vi
  (h:Q (newEnv scope s.heap.objs.size globals (Y8 (s.heap.objs.size+1) scope.names closure) qual P .none (cL env) builtinsNs) {s with heap:=pushCells (s.heap.push {cls:=.type "dict",data:=.dict #v[]}) scope.names}):
  wpAny f A (newFunctionEnv scope globals closure [] qual P .none (cL env)) Q E s:=by
 simp only[newFunctionEnv,aeg,if_true];show lD (wpAny_alloc ?_);show lD (wpAny_layCells _ (λe a b=>by cases g:a==Xz.cell<;>simp[g]) _ _ _ _ ?_);rw[show({s with heap:=s.heap.push {cls:=.type "dict",data:=.dict #v[]}}:Xd).heap.objs.size=s.heap.objs.size+1 from cc ..];rw[abg];show lD (W9 (W9 h))
def qL{M tg iter:XA}{t:bg XA}{scope:Zc}{pos:Pos}{own:bg Str}{fv:bg (Str×Nat)}{g:TG}{tc:TT}{te:TE}{E:W2->Xd->Prop}{it:Xa}{k:bg Xa}{S:Nat->Heap->Prop}{J:It}{Fin:Xa->Hp->Prop}
  {RR:W2->Xa->acP->Xd->Prop} (I:Inv X Z Y H s) (hc:X.calm=W3) (aas:scope.kind=.function) (hnd:(scope.names.map (·.1)).Nodup) (hfr:∀y∈scope.names,y.2=.free->∃c,X.env.cells.lookup y.1=cL c) (hfv:acU X scope fv)
  (T:Turn X.prog X.w X.K tg J k it S) (st:S 0 s.heap) (F:∀b∈k,oz X Z H b)
  (hg:∀C,PG (cA X s H scope C (dS own fv) k) tg g) (ht:∀C,yC (cA X s H scope C (dS own fv) k) t tc) {W:Xa->W2->Xd->Prop} (he:∀C,PE ((cA X s H scope C (dS own fv) k).abf (W C)) M te) (hEE:∀D C x s1,s.heap.objs.size<=C->W C x s1->notedBy (model X.prog X.w) X.A (compEnvC scope (vM X scope C) C X.env) (λe s2=>RR (.ref D) C (.error e) s2) x s1)
  (hR:∀D,H D=Ld->D8 J D (iK own fv Y) g tc te H (Fin D))
  (hRR:∀D C V s',Inv X Z Y V s'->Fin D V->(∃m,s'.heap.Ns C m)->s.heap.objs.size<=C->V C=Ld->RR (.ref D) C (.ok .next) s'):
  wpAny (model X.prog X.w) X.A (newList []) (λacc s3=>wpAny (model X.prog X.w) X.A (newFunctionEnv scope X.env.globals (gz X.env scope.names []) [] X.env.qual Ld .none (cL X.env)) (λair s4=>
   codeAny (model X.prog X.w) X.A (.compStart (.ListComp M [#[tg,iter,t,0]] scope pos) 0 (.ref it) acc {air with scope:=relabel scope X.env}) (RR acc air.locals) s4) E s3) E s:=by
 show Yc ?_;generalize hH2:s.heap.push {cls:=.type "list",dict:=Ld,data:=.seq ([]:bg W2).toArray}=K;let hz:K.objs.size=s.heap.objs.size+1:=by rw[<-hH2,cc]
 show vi (s:={s with heap:=K}) ?_;let G:s.heap.objs.size<K.objs.size:=by rw[hz];show ZI _
 let hC:s.heap.objs.size<=K.objs.size:=aaX G;generalize hH1:pushCells (K.push {cls:=.type "dict",data:=.dict #v[]}) scope.names=h1;let kp2:∀b o,K.get? b=cL o->h1.get? b=cL o:=λb o e=>by rw[<-hH1];show ada _ _ b o (b3 _ e)
 let kp:∀b o,s.heap.get? b=cL o->h1.get? b=cL o:=λb o e=>kp2 b o (by rw[<-hH2];show b3 _ e);let hns:h1.Ns K.objs.size (λ_=>Ld):=by rw[<-hH1];show(Heap.Ns.new K (.type "dict")).keeps (ada _ _)
 let hoc:∀x c,(vM X scope K.objs.size).lookup x=cL c->K.objs.size<c->∃v,h1.IsCell c v:=λx c e hlt=>by
  let e':(Y8 (K.push {cls:=.type "dict",data:=.dict #v[]}).objs.size scope.names (gz X.env scope.names [])).lookup x=cL c:=by rw[cc];show e
  rcases rG _ _ _ x c e' with⟨_,z⟩|z
  .show#[Ld,by rw[<-hH1];show z]
  .show bb (Z0 (tW I z).2 (Z0 G hlt)) (YN _)
 let hd:∃n,h1.get? s.heap.objs.size=cL {cls:=.type "list",data:=.seq #v[] n}:=#[0,kp2 _ _ (by rw[<-hH2];show b5 _ rfl)];let B:∀b∈k,b<s.heap.objs.size:=λb f=>by let(o,e,_):=T.obj 0 _ st b f;show b4 e
 let hn:H s.heap.objs.size=Ld:=I.Yq.fresh (Xg _);let(W,(m0,w0),turn):=hR s.heap.objs.size hn;let L:∀{pl:bg (Xa×Obj)} {V:Hp},(∀b∈k,V b=Ld)->(∀p∈pl,p.1∉k)->∀b∈k,oz (cA X s H scope K.objs.size (dS own fv) k) pl V b:=λ{pl V} hn' hpl b f=>by let ok:=A1 (C:=K.objs.size) (N:=dS own fv) I aas hnd hfr hC F B;show#[hn' b f,(ok.exf b f).1,ok.adm b f,.inl f,(ok.exf b f).2,λp hp=>by let hp':p∈([]:bg (Xa×Obj))++pl:=hp;intro z;show hpl p (by simpa using hp') (by rw[z];show f)]
 let j:∀s4:Xd,s4={s with heap:=h1}->
   codeAny (model X.prog X.w) X.A (.compLoop (.ListComp M [#[tg,iter,t,0]] scope pos) 0 (.ref it) (.ref s.heap.objs.size) (compEnvC scope (vM X scope K.objs.size) K.objs.size X.env)) (RR (.ref s.heap.objs.size) K.objs.size) s4:=by
  rintro s4 rfl
  let I0:Inv (cA X s H scope K.objs.size (dS own fv) k) [] (iK own fv Y) (aR H s.heap.objs.size (.lst [])) {s with heap:=h1}:=
   GX I aas hnd hfr hfv (Xg _) G hC F B hns hoc kp hd
  let st0:S 0 h1:=T.keep 0 _ _ st λb _ o e=>kp b o e;let fr0:∀b∈k,(aR H s.heap.objs.size (.lst [])) b=Ld:=λb f=>by rw[ar (XB (B b f))];show(F b f).1
  show Dx (λx s1 z=>hEE _ _ x s1 hC z) (λn s'=>∃i σ' V,Inv (cA X s H scope K.objs.size (dS own fv) k) [] σ' V s'/\S i s'.heap/\(∀b∈k,V b=Ld)/\W i n σ' V) ?_ m0 #[0,_,_,I0,st0,fr0,w0];rintro n s5 ⟨i,h,H5,I5,st5,fr5,w5⟩;rcases turn i n h H5 w5 with⟨U,fin⟩|⟨go,N,hN,step⟩
  .show bV (T.done (cA X s H scope K.objs.size (dS own fv) k) rfl rfl rfl hc i [] s5 h H5 (λ_ _=>False) I5 (L fr5 (by simp)) st5 U) λr s6 #[hr,Q]=>?_;subst hr;let(mm,hm,_):=Q.loc;show hRR _ _ H5 s6 ?_ fin #[mm,hm] hC Q.free;show I.afh (ch:=k) Q.os Q.base Q.Yq Q.bare λb f=>#[(F b f).2.2.2.1,(F b f).2.1,(F b f).2.2.2.2.1,(F b f).2.2.2.2.2]
  .show bV (T.item (cA X s H scope K.objs.size (dS own fv) k) rfl rfl rfl hc i [] s5 h H5 (λ_ _=>False) I5 (L fr5 (by simp)) st5 go) λr s6 #[u,hr,h6]=>?_
   subst hr;show bV h6 λ_ s7 a=>?_;let(x,H7,I7,r7,y7,q,fr7):=a;let I7':=I7.pinned (fp:=k) (L fr7 (by simp)) (T.obj _ _ q);let l:∀{a:St} {O:Hp} {w:Xd},Inv (cA X s H scope K.objs.size (dS own fv) k) ([]++rX k s7.heap) a O w->N a O->∃m,m<n/\∃i σ' V,Inv (cA X s H scope K.objs.size (dS own fv) k) [] σ' V w/\S i w.heap/\(∀b∈k,V b=Ld)/\W i m σ' V:=λ{a O w} I8 n8=>by let(m',hm,w8):=hN a O n8;show#[m',hm,i+1,a,O,I8.abC,T.keep _ _ _ q λb f o e=>(I8.pin (b,o) (XM _ (XM _ (jo f e)))).1,λb f=>?_,w8];let(o,e,d):=T.obj _ _ q b f;show(I8.pin (b,o) (XM _ (XM _ (jo f e)))).2.1
   show bV (hg _ _ s7 h H7 x u _ I7' r7 (step x H7 y7)) λ_ w a=>?_;let(a,O,I8,q8):=a;show bV (ht _ _ w a O _ I8 q8) λok s9 a=>?_;let(H9,I9,q9):=a;cases ok with
   |false=>rw[a4 Xs]at q9⊢;show l I9 q9
   |true=>rw[ax rfl]at q9⊢;show bV (he _ _ s9 a H9 _ (I9.abf _) q9) λy s10 a=>?_;let(A,H10,alN,r10,ys,hy,hl,q10):=a;let I10:=alN.aaj;show bV (om _ s10 a H10 (.ref s.heap.objs.size) [A] (.ref s.heap.objs.size) [y] (λ_ H11=>N a H11) I10 rfl (.cons r10 .nil) #[_,ys,A,rfl,rfl,hy,hl,q10]) λ_ s11 a=>?_;let(v11,H11,I11,_,q11):=a;show l I11 q11
 show codeAny_compStart_list (j _ rfl) (T.self _ 0 _ _ _ (T.keep 0 _ _ st λb _ o e=>kp b o e) (j _ rfl))
def ub(own:G Str)(d:G (Str×Nat))(b:TI)(g:TG)(e:TT)(c:TE):TE:=λY H Q=>b Y H λJ a=>∀D,a D=P->D8 J D (iK own d Y) g e c a λf=>Q (.ref D) f
theorem pZ{a:Zc}(ok:X.Ok)(h:∀y∈a.names,y.2=.free->(X.env.scope.names.lookup y.1=M .cell\/X.env.scope.names.lookup y.1=M .free)):∀y∈a.names,y.2=.free->∃c,X.env.cells.lookup y.1=M c:=
 λy b e=>ok.has y.1 (h y b e)
theorem NS{a sc:Zc}(h:(a.names.all λy=> !(y.2==Xz.free)||(sc.names.lookup y.1==M Xz.cell)||(sc.names.lookup y.1==M Xz.free))=S):
  ∀y∈a.names,y.2=.free->(sc.names.lookup y.1=M .cell\/sc.names.lookup y.1=M .free):=λy b e=>by
 let q:=Yl.mp h y b;rw[e]at q
 simpa using q
def AU{elt i iter:XA}{ifs:G XA}{scope:Zc}{pos:Pos}(own:G Str)(c:G (Str×Nat)){u:TI}{g:TG}{w:TT}{v:TE}(V:X.calm=S)(N:PI X i iter u)
  (O:∀s H C a,PG (cA X s H scope C (dS own c) a) i g) (F:∀s H C a,yC (cA X s H scope C (dS own c) a) ifs w) (he:∀s H C a,PE (cA X s H scope C (dS own c) a) elt v) (n:acU X scope c)
  (p:(scope.names.all λy=> !(y.2==Xz.free)||(X.env.scope.names.lookup y.1==M Xz.cell)||(X.env.scope.names.lookup y.1==M Xz.free))=S)
  (d:scope.kind=.function:=by rfl) (k:(scope.names.map (·.1)).Nodup:=by left)
  (r:∀y∈scope.names,y.2=.local->scope.names.lookup y.1=M .local:=by left) (K:∀x,foldedSetIterable iter X.env x=pure x:=by intro _;rfl):
  PE X (.ListComp elt [#[i,iter,ifs,0]] scope pos) (ub own c u g w v):=by
 intro Z s Y H Q I h;let f:=NS p;rw[eval_ListComp];show aet (use:=P) rfl K (qQ (pZ I.ok f)) d r (bV (N Z s Y H _ I h) λxv s1 h1=>bV h1 λE s2 h2=>?_);let(it,a,tn,J,H2,e,A,T,j,f2,R):=h2;subst e;show qL A V d k (pZ I.ok f) n T j f2 (λC=>O _ _ C _) (λC=>F _ _ C _) (W:=λ_ _ _=>False) (λC=>he _ _ C _) (λ_ _ _ _ _ z=>z.elim) (Fin:=λD t=>Q (.ref D) t) R ?_;intro D C t B I' fin hm hC L;let(m,hm):=hm;show#[m,hm,λh' l=>#[.ref D,t,?_,rfl,fin]];let(f0,f1,_,f3,f4,f5):=A.ad0 hC L;show I'.turned (t':=B.toks) (λb o hb q=>(l.2 b hb).trans q) f0 f1 f3 f4 f5
def Mo{elt d iter:XA}{ifs:G XA}{scope:Zc}{pos k py:Pos}{i:Nat}{x:Str}(own:G Str)(j:G (Str×Nat)){V:TI}{g:TG}{tc:TT}{te:TE}(hN:X.N.Nodup)(A:X.N[i]?=M x)(hx:X.env.scope.names.lookup x=M .local)
  (hc:X.calm=S) (hi:PI X d iter V)
  (hg:∀s H C c,PG (cA X s H scope C (dS own j) c) d g) (ht:∀s H C c,yC (cA X s H scope C (dS own j) c) ifs tc) (he:∀s H C c,PE (cA X s H scope C (dS own j) c) elt te) (B:acU X scope j)
  (F:(scope.names.all λy=> !(y.2==Xz.free)||(X.env.scope.names.lookup y.1==M Xz.cell)||(X.env.scope.names.lookup y.1==M Xz.free))=S)
  (t:ZC (.ListComp elt [#[d,iter,ifs,0]] scope pos) (M (.Name x py)) k.line X.env=pure S:=by rfl)
  (l:scope.kind=.function:=by rfl) (w:(scope.names.map (·.1)).Nodup:=by left)
  (K:∀y∈scope.names,y.2=.local->scope.names.lookup y.1=M .local:=by left) (hs:∀x,foldedSetIterable iter X.env x=pure x:=by intro _;rfl):
  PS X (.Assign [.Name x py] (.ListComp elt [#[d,iter,ifs,0]] scope pos) k) (wu (ub own j V g tc te) (oV i)):=by
 intro Z s Y H D I h;let f:=NS F;rw[exec_Assign_Name_used _ _ _ _ t];show lD (Zk (lD ?_));show wpAny _ _ (do let _<-comprehension (.ListComp elt [#[d,iter,ifs,0]] scope pos) scope X.env _ (newList []) W7 (eval iter X.env) (M (assign (.Name x py) X.env))) _ _ s;show lD (bV (aet (use:=M (assign (.Name x py) X.env)) (Q:=λ_ n=>SP X Z D .next n) rfl hs (qQ (pZ I.ok f)) l K
  (bV (hi Z s Y H _ I h) λxv s1 h1=>bV h1 λitv s2 h2=>?_)) λ_ n q=>W9 (W9 q))
 let(it,c,tn,J,H2,e,I2,T,p,f2,R):=h2;subst e;show qL I2 hc l w (pZ I.ok f) B T p f2 (λC=>hg _ _ C _) (λC=>ht _ _ C _) (W:=λ_ _ _=>False) (λC=>he _ _ C _) (λ_ _ _ _ _ z=>z.elim) (Fin:=λL O=>D.nx (Y.set i (M (.ref L))) O) R ?_;intro L C O n I' fin hm hC hn;let(m,hm):=hm;let(f0,f1,f2',f3,f4,f5):=I2.ad0 hC hn;show wpAny _ _ (assign (.Name x py) X.env (.ref L)) _ _ n;show ahk (tG I' hN A (.inl hx) (v:=.ref L) rfl (λr N #[a,sb,ha]=>?_) (.inr hx));let E:C≠a:=by
  rcases ha with z|z
  .rw[z];show f1
  .show λq=>f4 x a z q.symm
 show#[m,hm.sameBut sb E,λh' u=>#[_,O,?_,fin]];show N.turned (t':=r.toks) (λb o hb q=>(u.2 b hb).trans q) f0 f1 f3 f4 f5
end
def wS(P:Xx)(w:XU)(K:CL)(c:Str->I U)(base:Heap)(k:Nat)(x:Str)(b:G Str)(sp:Sp):Prop:=
 ∃(f:J) (a:Yj),FnOk P w K c base kQ k f a b sp/\Binds K a b []/\YM K (.ref f)=S/\c x=M (.ref f)
def vf(C:wS X.prog X.w X.K X.mg X.base k x ps sp)(l:Y4 j X.A)(c:PA X (e::es) t)(g:k<=j:=by decide)(n:Gl X x:=by rfl)
  (h:(x==("__debug__":Str))=R:=by decide) (o:Xu (e::es) X.env=(R,eval e X.env)::Xu es X.env:=by rfl) (a:(backTo pos (Xu es X.env)).any (·.1)=R:=by rfl):
  PE X (.Call (.Name x p) (e::es) [] pos) (jz sp [] E0 t):=by
 let(f,q,F,b,i,m):=C;show Aa F (l.mono g) n m i b .nil GA c h o a
section
variable{Z:St}{H:Hp}{Q:VK}{D:Ends}
theorem QW(h:t {D with nx:=u D} Z H):Ii t u D Z H:=h
theorem Vg(h:Q v H):tC v Z H Q:=h
theorem Qp(h:o Z H D.rt):DB o D Z H:=h
theorem Jw(h:o Z H λ_ H1=>D.nx Z H1):wq o D Z H:=h
theorem Om{Q:G V->Hp->Prop}(h:Q [] H):gJ Z H Q:=h
theorem Lk{Q:G V->Hp->Prop}(h:o Z H λx H1=>tr Z H1 λxs a=>Q (x::xs) a):df o tr Z H Q:=h
theorem Uo(h:t Z H λa H1=>r a H1 Q):tR r t Z H Q:=h
theorem Ko(h:t Z H λa H1=>sp (a++[]) H1 Q E):jz sp [] E t Z H Q:=h
theorem PP(h:t Z H λxs H1=>xs.length<=Xl/\∀p,H1 p=P->Q (.ref p) (aR H1 p (.tup xs))):Ic t Z H Q:=h
end
def Pu{α:Type}{xs:G α}{i:Int}{v:α}(a:0<=i)(h:xs[i.toNat]?=M v):lh xs i=M v:=by let q:=Av h;rwa [aeM a]at q
def YS.tup{K:CL}(e:YS H H')(h:SqT K H a xs):SqT K H' a xs:=by
 rcases h with(h|⟨o,h⟩)|h
 .show .inl (.inl (e _ _ h))
 .show .inl (.inr #[o,e _ _ h])
 .show .inr h
theorem bj(h:H p=P)(o:HO):YS H (aR H p o):=λb u q=>by rw[ar (bH q h)];show q
def M4:Ya "max"=M (.builtin "max"):=by left
def nc:Ya "isinstance"=M (.builtin "isinstance"):=by left
def Bv:Ya "len"=M (.builtin "len"):=by left
def wy:Ya "sorted"=M (.builtin "sorted"):=by left
def Tc:Ya "all"=M (.builtin "all"):=by left
def uY:Ya "list"=M (.type "list"):=by left
def JV:Ya "tuple"=M (.type "tuple"):=by left
section
variable{X:Cx}
def xj:Zi X (.builtin "sorted") (λxs H Q=>∃(p:Xa) (g:bg Int),xs=[.ref p]/\SqL X.K H p (g.map V.int)/\g.length<64/\∀(l:Xa) (a:bg Int),H l=P->a.Perm g->a.Pairwise (·<=·)->Q (.ref l) (aR H l (.lst (a.map V.int)))):=by
 intro j s E H xs F Q I r h;let(p,g,rfl,v,A,q):=h;let(u,rfl,n):=hW r;ext n;let(C,K,pl,J):=I.list v;let w:=K.length;rw[W5]at w;show sorted_ints pl.isList (lC K) () λf a L m t=>?_;let(e,y):=sortedAll_at s.heap C f;let i:a.length=g.length:=m.length_eq;let B:f.toList.length=a.length:=L.length;show#[.ref (s.heap.objs.size+1),_,I.laid (t':=s.toks) (o:=.lst (a.map V.int)) (λb G z=>sortedAll_old z) (aac _) ?_,W,q _ a (I.Yq.fresh (aac _)) m t];show#[?_,f.toList,e,iS L,y];rw[W5,i];let:(64:Nat)<=Xl:=by decide
 ext
end
end L2
namespace L3
open PySem L2
abbrev D:=Xe
inductive PV where
 |fz (d:D)
 |ow (ds:G D)
 |pl (i:Nat)
abbrev aQ:=G (I PV)
structure Xc where
 cls:Str
 fs:G (Str×D)
inductive Res(α:Type) where
 |ok (a:α)
 |er (x:Xc)
 |bad
namespace Res
def bind(r:Res α)(f:α->Res β):Res β:=match r with
 |.ok a=>f a
 |.er x=>.er x
 |.bad=>.bad
def X8:I α->Res α
 |some a=>.ok a
 |none=>.bad
theorem bind_ok(a:α)(f:α->Res β):(Res.ok a).bind f=f a:=W
end Res
abbrev d0:=@Res.bind_ok
abbrev bA:=J->Prop
def bK(O:bA)(p:J):bA:=λb=>O b\/b=p
def GI(O:bA)(p:J):bA:=λb=>O b/\b≠p
def noO:bA:=λ_=>False
def Ev(O:bA)(H:Hp)(a:bA)(c:Hp):Prop:=∀b o,H b=M o->¬O b->c b=M o/\¬a b
theorem Ev.refl:Ev O H O H:=λ_ _ h n=>#[h,n]
theorem Ev.trans(a:Ev O H O1 H1)(b:Ev O1 H1 O2 H2):Ev O H O2 H2:=λp o h n=>let#[h1,e]:=a p o h n;b p o h1 e
theorem Ev.grow(s:YS H H'):Ev O H O H':=λb o h n=>#[s b o h,n]
theorem Ev.add(s:YS H H')(a:H p=P):Ev O H (bK O p) H':=λb o h n=>#[s b o h,λz=>z.elim n λe=>by simp_all]
theorem Ev.sub(h:∀b,O' b->O b):Ev O H O' H:=λb o e n=>#[e,λz=>n (h b z)]
theorem Ev.mut(a:O p)(u:HO):Ev O H O (aR H p u):=λb o h n=>#[by rw[ar (λe=>n (by simp_all))];show h,n]
def aap(K:CL)(H:Hp)(a:J)(xs:G V):Prop:=Rd H a (.lst xs)\/∃(b:G U) (n:Nat),K.lookup a=M {cls:=.type "list",data:=.seq b.toArray n}/\xs.length<=Xl/\Vals xs b
def aap.sq(h:aap K H a xs):SqL K H a xs:=by
 rcases h with h|⟨f,n,h1,e,b⟩
 .show .inl h
 .show .inr #[_,f.toArray,n,h1,W,W,W,by rw[Xr,<-b.length];show e,by ext]
theorem aap.of(h:H a=M (.lst xs)):aap K H a xs:=.inl (.inl h)
def aap.same(e:YS H H')(h:aap K H a xs):aap K H' a xs:=by
 rcases h with(h|⟨o,h⟩)|h
 .show .inl (.inl (e _ _ h))
 .show .inl (.inr #[o,e _ _ h])
 .show .inr h
theorem kz(H:Hp):YS (λ_=>P) H:=λ_ _ h=>by ext h
def ab7(O:bA)(K:CL)(H:Hp)(a:J)(xs:G V):Prop:=aap K H a xs/\(O a->aap K (λ_=>P) a xs)
def aaR(O:bA)(K:CL)(H:Hp)(a:J)(xs:G V):Prop:=SqT K H a xs/\(O a->SqT K (λ_=>P) a xs)
section
variable{O Z:bA}{K:CL}{H Y:Hp}{a:Xa}{X:bg V}
def ab7.ev(h:ab7 O K H a X)(e:Ev O H Z Y):ab7 Z K Y a X:=by
 let(h,k):=h;by_cases z:O a
 .show#[aap.same (kz Y) (k z),λ_=>k z]
 .rcases h with(h|⟨o,h⟩)|h
  .let(f,b):=e a _ h z;show#[.inl (.inl f),λy=>bb y b]
  .let(f,b):=e a _ h z;show#[.inl (.inr #[o,f]),λy=>bb y b]
  .show#[.inr h,λ_=>.inr h]
def aaR.ev(h:aaR O K H a X)(e:Ev O H Z Y):aaR Z K Y a X:=by
 let(h,k):=h;by_cases z:O a
 .show#[(kz Y).tup (k z),λ_=>k z]
 .rcases h with(h|⟨o,h⟩)|h
  .let(f,b):=e a _ h z;show#[.inl (.inl f),λy=>bb y b]
  .let(f,b):=e a _ h z;show#[.inl (.inr #[o,f]),λy=>bb y b]
  .show#[.inr h,λ_=>.inr h]
end
mutual
inductive DV(O:bA)(K:CL)(H:Hp):V->D->Prop
 |Zo:DV O K H .Zo .none
 |bl (b:Bool):DV O K H (.bl b) (.bool b)
 |int (i:Int):DV O K H (.int i) (.int i)
 |str (x:Str):DV O K H (.str x) (.str x)
 |tup {a:Xa} {xs:bg V} {ds:bg D}:aaR O K H a xs->YH O K H xs ds->DV O K H (.ref a) (.tuple ds)
 |lst {a:Xa} {xs:bg V} {ds:bg D}:ab7 O K H a xs->YH O K H xs ds->DV O K H (.ref a) (.list ds)
inductive YH(O:bA)(K:CL)(H:Hp):bg V->bg D->Prop
 |nil:YH O K H [] []
 |cons {v:V} {vs:bg V} {d:D} {ds:bg D}:DV O K H v d->YH O K H vs ds->YH O K H (v::vs) (d::ds)
end
section
variable{O Z:bA}{K:CL}{H H':Hp}
mutual
theorem DV.ev(e:Ev O H Z H'):∀{v:V} {d:D},DV O K H v d->DV Z K H' v d
 |_,_,.Zo=>.Zo
 |_,_,.bl b=>.bl b
 |_,_,.int i=>.int i
 |_,_,.str x=>.str x
 |_,_,.tup h hs=>.tup (h.ev e) (YH.ev e hs)
 |_,_,.lst h hs=>.lst (h.ev e) (YH.ev e hs)
theorem YH.ev(e:Ev O H Z H'):∀{vs:bg V} {ds:bg D},YH O K H vs ds->YH Z K H' vs ds
 |_,_,.nil=>.nil
 |_,_,.cons h hs=>.cons (DV.ev e h) (YH.ev e hs)
end
theorem YH.length:∀{a:G V} {ds:G D},YH O K H a ds->a.length=ds.length
 |_,_,.nil=>rfl
 |_,_,.cons _ t=>by rw[Xn,Xn,t.length]
theorem YH.get:∀{c:G V} {ds:G D} {i:Nat} {d:D},YH O K H c ds->ds[i]?=M d->∃v,c[i]?=M v/\DV O K H v d
 |_,_,_,_,.nil,e=>by simp at e
 |_,_,0,_,.cons h _,e=>by simp_all
 |_,_,i+1,d,.cons _ t,e=>by let(v,b,a):=YH.get t (by simpa using e);simp_all
theorem YH.aga:∀{c:G V} {ds:G D} {i:Nat} {v:V},YH O K H c ds->c[i]?=M v->∃d,ds[i]?=M d/\DV O K H v d
 |_,_,_,_,.nil,e=>by simp at e
 |_,_,0,_,.cons h _,e=>by simp_all
 |_,_,i+1,v,.cons _ t,e=>by let(d,b,a):=YH.aga t (by simpa using e);simp_all
theorem YH.append:∀{a ws:G V} {ds es:G D},YH O K H a ds->YH O K H ws es->YH O K H (a++ws) (ds++es)
 |_,_,_,_,.nil,h=>h
 |_,_,_,_,.cons h t,g=>.cons h (YH.append t g)
theorem YH.take:∀{a:G V} {ds:G D} (n:Nat),YH O K H a ds->YH O K H (a.take n) (ds.take n)
 |_,_,0,_=>.nil
 |_,_,_+1,.nil=>.nil
 |_,_,n+1,.cons h t=>.cons h (YH.take n t)
theorem YH.drop:∀{a:G V} {ds:G D} (n:Nat),YH O K H a ds->YH O K H (a.drop n) (ds.drop n)
 |_,_,0,h=>h
 |_,_,_+1,.nil=>.nil
 |_,_,n+1,.cons _ t=>YH.drop n t
theorem YH.flat(h:YH O K H vs ds):∀n:Nat,YH O K H (Xk n vs).flatten (Xk n ds).flatten
 |0=>.nil
 |n+1=>by rw[Yp,Yp,Zb,Zb];show h.append (YH.flat h n)
mutual
theorem DV.plain:∀{v:V} {d:D},DV O K H v d->L2.DV K H v d
 |_,_,.Zo=>.Zo
 |_,_,.bl b=>.bl b
 |_,_,.int i=>.int i
 |_,_,.str x=>.str x
 |_,_,.tup h hs=>.tup h.1 (YH.plain hs)
 |_,_,.lst h hs=>.lst h.1.sq (YH.plain hs)
theorem YH.plain:∀{vs:bg V} {ds:bg D},YH O K H vs ds->L2.YH K H vs ds
 |_,_,.nil=>.nil
 |_,_,.cons h hs=>.cons (DV.plain h) (YH.plain hs)
end
end
def DX(O:bA)(K:CL)(H:Hp)(v:V):D->Prop
 |.list ds=>∃a xs,v=.ref a/\aap K H a xs/\YH O K H xs ds
 |d=>DV O K H v d
def DV.x(h:DV O K H v d):DX O K H v d:=by
 cases h with
 |lst h a=>show#[_,_,W,h.1,a]
 |Zo=>show .Zo
 |bl b=>show .bl b
 |int i=>show .int i
 |str x=>show .str x
 |tup h a=>show .tup h a
def DX.plain(h:DX O K H v d):L2.DV K H v d:=by
 cases d with
 |list ds=>let(a,xs,rfl,f,e):=h;show .lst f.sq e.plain
 |none=>show DV.plain h
 |bool b=>show DV.plain h
 |int i=>show DV.plain h
 |str x=>show DV.plain h
 |tuple ds=>show DV.plain h
 |dict g=>show DV.plain h
def acV(K:CL)(b:Hp)(O:bA)(H:Hp)(v:V):PV->Prop
 |.fz d=>DV O K H v d
 |.ow ds=>∃a e,v=.ref a/\O a/\b a=P/\H a=M (.lst e)/\YH O K H e ds
 |.pl _=>False
structure Rl(K:CL)(B:bA)(H0:Hp)(O:bA)(σ:St)(H:Hp)(ρ:aQ):Prop where
 same:YS H0 H
 bo:∀a,B a->O a
 bd:∀a,B a->H0 a≠P
 od:∀a,H a=P->¬O a
 len:σ.length=ρ.length
 slot:∀(i:Nat) (x:PV),ρ[i]?=M (M x)->∃v,σ[i]?=M (M v)/\acV K H0 O H v x
 one:∀(i j:Nat) (ds es:G D) (v:V),ρ[i]?=M (M (.ow ds))->ρ[j]?=M (M (.ow es))->σ[i]?=M (M v)->σ[j]?=M (M v)->i=j
def aaP(K:CL)(e:Hp)(O:bA)(b:St)(H:Hp)(c:aQ)(v:V):PV->Prop
 |.fz d=>DV O K H v d
 |.ow ds=>∃a f,v=.ref a/\O a/\e a=P/\H a=M (.lst f)/\YH O K H f ds/\∀(i:Nat) (es:G D),c[i]?=M (M (.ow es))->b[i]?≠M (M (.ref a))
 |.pl i=>b[i]?=M (M v)
def kH:PV->Prop
 |.ow _=>False
 |_=>True
def bN:PV->PV
 |.ow ds=>.fz (.list ds)
 |p=>p
section
variable{K:CL}{B O X:bA}{Z H H':Hp}{Y:St}{ρ ρ':aQ}{v:V}
def acV.grow(s:YS H H')(h:acV K Z O H v x):acV K Z O H' v x:=by
 cases x with
 |fz d=>show DV.ev (Ev.grow s) h
 |ow ds=>let(a,l,e,j,g,f,b):=h;show#[a,l,e,j,g,s _ _ f,b.ev (Ev.grow s)]
 |pl i=>show h
theorem Rl.grow(R:Rl K B Z O Y H ρ)(s:YS H H'):Rl K B Z O Y H' ρ:=
 #[R.same.trans s,R.bo,R.bd,λa h=>R.od a (s.free h),R.len,λi x h=>let#[v,h1,b]:=R.slot i x h;#[v,h1,b.grow s],R.one]
theorem Rl.ago(R:Rl K B Z O Y H ρ)(h:H p=P):Z p=P:=R.same.free h
def Rl.add(R:Rl K B Z O Y H ρ)(s:YS H H')(f:H p=P)(g:H' p≠P):Rl K B Z (bK O p) Y H' ρ:=by
 show#[R.same.trans s,λa h=>.inl (R.bo a h),R.bd,λa h z=>z.elim (R.od a (s.free h)) λe=>g (by simp_all),R.len,λi x h=>?_,R.one];let(v,j,b):=R.slot i x h;show#[v,j,?_];cases x with
 |fz d=>show DV.ev (Ev.add s f) b
 |ow ds=>let(a,q,e,o,n,m,l):=b;show#[a,q,e,.inl o,n,s _ _ m,l.ev (Ev.add s f)]
 |pl i=>show b
theorem Rl.afS(R:Rl K B Z O Y H ρ)(h:Z a=P):¬B a:=λz=>R.bd a z h
def Rl.sub(R:Rl K B Z O Y H ρ){a:J}(m:Z a=P)(h:∀(i:Nat) (es:G D),ρ[i]?=M (M (.ow es))->Y[i]?≠M (M (.ref a))):Rl K B Z (GI O a) Y H ρ:=by
 show#[R.same,λb f=>#[R.bo b f,λe=>R.afS m (e▸f)],R.bd,λb f z=>R.od b f z.1,R.len,λi x j=>?_,R.one];let(v,l,g):=R.slot i x j;show#[v,l,?_];cases x with
 |fz d=>show DV.ev (Ev.sub λb z=>z.1) g
 |ow ds=>let(b,r,e,q,p,o,n):=g;subst e;show#[b,r,W,#[q,λe=>h i ds j (by rw[l,e])],p,o,n.ev (Ev.sub λb z=>z.1)]
 |pl i=>show g
theorem vt(h:H a=M (.lst o))(n:¬O a)(hd:YH O K H o ds):DV O K H (.ref a) (.list ds):=.lst #[aap.of h,λz=>bb z n] hd
def iO{pv:PV}(R:Rl K B Z O Y H ρ)(h:aaP K Z O Y H ρ v pv):∃X,Ev O H X H/\Rl K B Z X Y H ρ/\aaP K Z X Y H ρ v (bN pv):=by
 cases pv with
 |fz d=>show#[O,.refl,R,h]
 |pl i=>show#[O,.refl,R,h]
 |ow ds=>let(a,m,rfl,l,j,g,f,e):=h;show#[GI O a,Ev.sub λb z=>z.1,R.sub j e,vt g (λz=>z.2 W) (f.ev (Ev.sub λb z=>z.1))]
def pS(pv:PV):kH (bN pv):=by ext pv<;>trivial
def aaP.keep{pv:PV}(a:kH pv)(e:Ev O H X H')(h:aaP K Z O Y H ρ v pv):aaP K Z X Y H' ρ' v pv:=by
 cases pv with
 |fz d=>show DV.ev e h
 |pl i=>show h
 |ow ds=>show a.elim
def VW:I (I PV)->I D
 |some (M (.fz d))=>M d
 |some (M (.ow ds))=>M (.list ds)
 |_=>P
def x5(ρ:aQ):PV->I D
 |.fz d=>M d
 |.ow ds=>M (.list ds)
 |.pl i=>VW ρ[i]?
def oZ{pv:PV}(R:Rl K B Z O Y H ρ)(h:aaP K Z O Y H ρ v pv)(e:x5 ρ pv=M d):DX O K H v d:=by
 cases pv with
 |fz p=>ext e;show DV.x h
 |ow ds=>ext e;let(a,y,rfl,w,t,m,l,r):=h;show#[a,y,W,aap.of m,l]
 |pl i=>
  let b:VW ρ[i]?=M d:=e;let n:=h;cases q:ρ[i]? with
  |none=>rw[q]at b;ext b
  |some o=>
   cases o with
   |none=>rw[q]at b;ext b
   |some x=>
    let(u,g,f):=R.slot i x q;rw[n]at g;ext g;rw[q]at b;cases x with
    |fz p=>ext b;show DV.x f
    |ow ds=>ext b;let(a,y,rfl,k1,k2,k3,k4):=f;show#[a,y,W,aap.of k3,k4]
    |pl j=>show f.elim
def Vc(ρ:aQ)(i:Nat):I (I PV)->I (D×aQ)
 |some (M (.fz d))=>M (d,ρ)
 |some (M (.ow ds))=>M (.list ds,ρ.set i (M (.fz (.list ds))))
 |_=>P
def xA(ρ:aQ):PV->I (D×aQ)
 |.fz d=>M (d,ρ)
 |.ow ds=>M (.list ds,ρ)
 |.pl i=>Vc ρ i ρ[i]?
def bC{l:G α}(h:(l.set i x)[j]?=M y):(j=i/\y=x)\/(j≠i/\l[j]?=M y):=by
 rw[Ym]at h;by_cases e:i=j
 .rw[ax e]at h
  split at h
  .ext h;show .inl #[e.symm,W]
  .ext h
 .rw[a4 e]at h;show .inr #[λz=>e z.symm,h]
def ug{pv:PV}(R:Rl K B Z O Y H ρ)(h:aaP K Z O Y H ρ v pv)(e:xA ρ pv=cL (d,ρ')):∃X,Ev O H X H/\Rl K B Z X Y H ρ'/\DV X K H v d:=by
 cases pv with
 |fz U=>ext e;show#[O,.refl,R,h]
 |ow ds=>ext e;let(a,vs,rfl,h1,T,S,Q,P):=h;show#[GI O a,Ev.sub λb z=>z.1,R.sub T P,vt S (λz=>z.2 W) (Q.ev (Ev.sub λb z=>z.1))]
 |pl i=>
  let f:Vc ρ i ρ[i]?=cL (d,ρ'):=e;let y:=h;cases q:ρ[i]? with
  |none=>rw[q]at f;ext f
  |some o=>
   cases o with
   |none=>rw[q]at f;ext f
   |some x=>
    let(u,E,A):=R.slot i x q;rw[y]at E;ext E;rw[q]at f;cases x with
    |fz U=>ext f;show#[O,.refl,R,A]
    |pl j=>show A.elim
    |ow ds=>
     ext f;let(a,vs,rfl,k1,k2,k3,k4):=A;let es:Ev O H (GI O a) H:=Ev.sub λb z=>z.1;let F:=vt k3 (λz=>z.2 W) (k4.ev es);show#[GI O a,es,#[R.same,λb m=>#[R.bo b m,λe=>R.afS k2 (e▸m)],R.bd,λb m z=>R.od b m z.1,by rw[Yf];show R.len,λj x l=>?_,λj k xs G w t r=>?_],F]
     .rcases bC l with⟨rfl,g⟩|⟨p,l⟩
      .ext g;show#[_,y,F]
      .let(u,C,n):=R.slot j x l
       show#[u,C,?_];cases x with
       |fz d=>show DV.ev es n
       |pl i=>show n
       |ow xs=>let(b,I,rfl,N,M,L,J):=n;show#[b,I,W,#[N,λz=>p (R.one j i xs ds (.ref a) l q (by rw[C,z]) y)],M,L,J.ev es]
     .rcases bC t with⟨rfl,g⟩|⟨_,t⟩
      .ext g
      .rcases bC r with⟨rfl,g⟩|⟨_,r⟩
       .ext g
       .show R.one j k xs G w t r
end
def XOk(K:CL)(B:bA)(H:Hp)(c:U)(b:I J)(x:Xc):Prop:=
 (∃a,c=.ref a/\XJ K Xy x.cls=M (M (.ref a)))/\∃fs,(∀p,b=M p->H p=M (.xd fs))/\∀f d,x.fs.lookup f=M d->b≠P/\∃v,fs.lookup f=M v/\DV B K H v d
def XE(K:CL)(B:bA)(a:Hp)(E:XK)(x:Xc):Prop:=∀c b H',YS a H'->XOk K B H' c b x->E c b H'
def WR(K:CL)(E:XK)(B:bA)(b:Hp)(P:α->Prop):Res α->Prop
 |.ok a=>P a
 |.er x=>XE K B b E x
 |.bad=>False
section
variable{K:CL}{E:XK}{B:bA}{Z:Hp}
def WR.bind(h:WR K E B Z b (r.bind k)):WR K E B Z (λa=>WR K E B Z b (k a)) r:=by ext r<;>show h
def WR.X8(h:WR K E B Z b ((Res.X8 o).bind k)):∃a,o=M a/\WR K E B Z b (k a):=by
 cases o with
 |none=>show h.elim
 |some a=>show#[a,W,h]
def WR.imp(h:WR K E B Z b r)(g:∀a,b a->P' a):WR K E B Z P' r:=by
 cases r with
 |ok a=>show g a h
 |er x=>show h
 |bad=>show h
end
abbrev FE:=aQ->Res (PV×aQ)
abbrev FT:=aQ->Res (Bool×aQ)
abbrev FA:=aQ->Res (G PV×aQ)
def EO(K:CL)(E:XK)(t:TE)(f:FE):Prop:=
 ∀(B:bA) (b:Hp) (O:bA) (a:St) (H:Hp) (g:aQ) (Q:VK),Rl K B b O a H g->WR K E B b (λr=>∀e v H',Ev O H e H'->Rl K B b e a H' r.2->aaP K b e a H' r.2 v r.1->Q v H') (f g)->t a H Q
def TTO(K:CL)(E:XK)(t:TT)(f:FT):Prop:=
 ∀(B:bA) (b:Hp) (O:bA) (a:St) (H:Hp) (e:aQ) (Q:Bool->Hp->Prop),Rl K B b O a H e->WR K E B b (λr=>∀g H',Ev O H g H'->Rl K B b g a H' r.2->Q r.1 H') (f e)->t a H Q
def AO(K:CL)(E:XK)(t:TA)(f:FA):Prop:=
 ∀(B:bA) (b:Hp) (O:bA) (a:St) (H:Hp) (g:aQ) (Q:G V->Hp->Prop),Rl K B b O a H g->WR K E B b (λr=>∀e h H',Ev O H e H'->Rl K B b e a H' r.2->Paired (λv pv=>aaP K b e a H' r.2 v pv/\kH pv) h r.1->Q h H') (f g)->t a H Q
inductive RV where
 |fz (d:D)
 |ow (ds:G D)
def RV.pv:RV->PV
 |.fz d=>.fz d
 |.ow ds=>.ow ds
def Fin(O:bA)(K:CL)(H:Hp)(Q:VK):RV->Prop
 |.fz d=>∀v H',YS H H'->DV O K H' v d->Q v H'
 |.ow ds=>∀p a H',YS H H'->H p=P->H' p=M (.lst a)->YH (bK O p) K H' a ds->Q (.ref p) H'
def mx(O:bA)(H:Hp):Prop:=∀a,H a=P->¬O a
section
variable{K:CL}{E:XK}{B O X:bA}{Y H H':Hp}{Z:St}{T ρ':aQ}{v:V}
def lR(R:Rl K B Y O Z H T)(h:∀X v H',Ev O H X H'->Rl K B Y X Z H' T->aaP K Y X Z H' T v C.pv->Q v H'):Fin O K H Q C:=by
 cases C with
 |fz d=>show λv H' s f=>h O v H' (Ev.grow s) (R.grow s) f
 |ow ds=>intro p q H' s b e f;show h (bK O p) (.ref p) H' (Ev.add s b) (R.add s b (by rw[e];simp)) #[p,q,W,.inr W,R.ago b,e,f,λi es r z=>?_];let(u,g,a,l,e2,o,n,j,m):=R.slot i _ r;rw[z]at g;ext g;ext e2;rw[b]at j;ext j
theorem Fin.new(hd:YH O K H vs ds)(h:Fin O K H Q (.ow ds)):∀p,H p=P->Q (.ref p) (aR H p (.lst vs)):=λp a=>
 h p vs _ (bj a _) a ay (hd.ev (Ev.add (bj a _) a))
theorem Fin.afj(hd:YH O K H vs ds)(b:mx O H)(h:Fin O K H Q (.fz (.tuple ds))):∀p,H p=P->Q (.ref p) (aR H p (.tup vs)):=λp a=>
 h (.ref p) _ (bj a _) (.tup #[SqT.of ay,λz=>bb z (b p a)] (hd.ev (Ev.grow (bj a _))))
theorem Fin.at(h:Fin O K H Q (.fz d))(a:DV O K H v d):Q v H:=h v H (YS.refl H) a
def Ax(T:aQ)(i:Nat):I (I PV)->Res (PV×aQ)
 |some (M (.fz d))=>.ok (.fz d,T)
 |some (M (.ow _))=>.ok (.pl i,T)
 |_=>.bad
def ad(i:Nat):FE:=λT=>Ax T i T[i]?
def Q9:EO K E (nY i) (ad i):=by
 intro B Y O Z H T Q R w;unfold ad at w;cases q:T[i]? with
 |none=>rw[q]at w;show w.elim
 |some o=>
  cases o with
  |none=>rw[q]at w;show w.elim
  |some x=>
   rw[q]at w;let(v,a,b):=R.slot i x q;cases x with
   |fz d=>show#[v,a,w O v H .refl R b]
   |ow ds=>show#[v,a,w O v H .refl R a]
   |pl j=>show w.elim
def pC(d:D):FE:=λT=>.ok (.fz d,T)
theorem D1(h:∀O H,DV O K H v d):EO K E (tC v) (pC d):=λB Y O Z H T Q R w=>w O v H .refl R (h O H)
theorem Rj:EO K E (tC (.int i)) (pC (.int i)):=D1 λ_ _=>.int i
theorem Ud:EO K E (tC (.bl b)) (pC (.bool b)):=D1 λ_ _=>.bl b
theorem Py:EO K E (tC (.str x)) (pC (.str x)):=D1 λ_ _=>.str x
theorem Qj:EO K E (tC .Zo) (pC .none):=D1 λ_ _=>.Zo
def kZ(K:CL)(r:R2)(f:D->D->I RV):Prop:=∀(O:bA) (H:Hp) (x y:V) (e a:D) (b:RV) (Q:VK),mx O H->DX O K H x e->DX O K H y a->f e a=M b->Fin O K H Q b->r x y H Q
def aA(f:D->D->I RV)(c fb:FE):FE:=λT=>(c T).bind λa=>(fb a.2).bind λb=>(Res.X8 (x5 b.2 (bN a.1))).bind λh=>(Res.X8 (x5 b.2 b.1)).bind λe=>(Res.X8 (f h e)).bind λg=>.ok (g.pv,b.2)
def NJ(t:kZ K r f)(c:EO K E ta fa)(u:EO K E tb fb):EO K E (DJ r ta tb) (aA f fa fb):=by intro B Y O Z H T Q R w;show c B Y O Z H T _ R (w.bind.imp λa i P x N e1 F q=>?_);let(J,e2,R2,p):=iO F q;show u B Y J Z N a.2 _ R2 (i.bind.imp λb e I y M e3 g o=>?_);let h:=p.keep (pS a.1) e3 (ρ':=b.2);let(dx,l,e):=e.X8;let(A,j,e):=e.X8;let(rv,m,e):=e.X8;show t I M x y dx A rv Q g.od (oZ g h l) (oZ g o j) m (lR g λG v L e4 C n=>?_);show e G v L (e1.trans (e2.trans (e3.trans e4))) C n
def Vx:D->I Bool
 |.bool b=>M b
 |_=>P
def Pf(h:DX O K H x d)(e:Vx d=M b):x=.bl b:=by ext d<;>ext e;ext h;rfl
def az(c:FE):aQ->Res (Bool×aQ):=λT=>(c T).bind λa=>(Res.X8 (x5 a.2 a.1)).bind λd=>(Res.X8 (Vx d)).bind λb=>.ok (b,a.2)
def xY(c:EO K E o C):TTO K E (tU o) (az C):=by intro B Y O Z H T Q R w;show c B Y O Z H T _ R (w.bind.imp λa e j x l e1 f i=>?_);let(d,g,e):=e.X8;let(b,h,e):=e.X8;show#[b,Pf (oZ f i g) h,e j l e1 f]
theorem S5(a:EO K E o C):TTO K E (tB o) (az C):=xY a
def sM(b fb:FT):FT:=λT=>(b T).bind λa=>if a.1=S then fb a.2 else .ok (R,a.2)
def C1(b:FT):FT:=λT=>(b T).bind λa=>.ok (!a.1,a.2)
theorem TTO.next(h:TTO K E t f)(R:Rl K B Y O1 Z H1 T)(e1:Ev O H O1 H1)(w:WR K E B Y (λr=>∀X H',Ev O H X H'->Rl K B Y X Z H' r.2->Q r.1 H') (f T)):t Z H1 Q:=
 h B Y O1 Z H1 T Q R (w.imp λr q X H' a b=>q X H' (e1.trans a) b)
theorem EO.next(h:EO K E t f)(R:Rl K B Y O1 Z H1 T)(e1:Ev O H O1 H1)(w:WR K E B Y (λr=>∀X v H',Ev O H X H'->Rl K B Y X Z H' r.2->aaP K Y X Z H' r.2 v r.1->Q v H') (f T)):t Z H1 Q:=
 h B Y O1 Z H1 T Q R (w.imp λr q X v H' b e a=>q X v H' (e1.trans b) e a)
def Ls(l:TTO K E t f)(j:TTO K E u g):TTO K E (Ru t u) (sM f g):=by
 intro B Y O Z H T Q R w;show l B Y O Z H T _ R (w.bind.imp λa e m n e1 h=>?_);let(b,i):=a;cases b with
 |true=>show j.next h e1 e
 |false=>show e m n e1 h
def Ku(e:TTO K E t f):TTO K E (ML t) (C1 f):=by intro B Y O Z H T Q R w;show e B Y O Z H T _ R (w.bind.imp λa b h i e1 g=>b h i e1 g)
def cS:FT:=λT=>.ok (S,T)
theorem En:TTO K E Fs cS:=λB Y O Z H T Q R w=>w O H .refl R
def NA(c:FT)(b fb:FE):FE:=λT=>(c T).bind λa=>if a.1=S then b a.2 else fb a.2
def Ti(h:TTO K E t c)(d:EO K E C fa)(i:EO K E o fb):EO K E (TB t C o) (NA c fa fb):=by
 intro B Y O Z H T Q R w;show h B Y O Z H T _ R (w.bind.imp λa e j l e1 f=>?_);let(b,g):=a;cases b with
 |true=>show d.next f e1 e
 |false=>show i.next f e1 e
def am:FA:=λT=>.ok ([],T)
def aa(c:FE)(fr:FA):FA:=λT=>(c T).bind λa=>(fr a.2).bind λb=>.ok (bN a.1::b.1,b.2)
theorem PB:AO K E gJ am:=λB Y O Z H T Q R w=>w O [] H .refl R .nil
def MM(c:EO K E C fa)(l:AO K E tr fr):AO K E (df C tr) (aa fa fr):=by intro B Y O Z H T Q R w;show c B Y O Z H T _ R (w.bind.imp λa g t x r e1 n j=>?_);let(p,e2,R2,i):=iO n j;show l B Y p Z r a.2 _ R2 (g.bind.imp λb f o e q e3 m h=>?_);show f o (x::e) q (e1.trans (e2.trans e3)) m (.cons #[i.keep (pS a.1) e3,pS a.1] h)
def sD(T:aQ):G PV->I (G D)
 |[]=>M []
 |p::r=>match x5 T p with
  |some d=>(match sD T r with
   |some ds=>M (d::ds)
   |none=>P)
  |none=>P
theorem vV(R:Rl K B Y O Z H T):∀{f:G V} {c:G PV} {ds:G D},Paired (λv pv=>aaP K Y O Z H T v pv/\kH pv) f c->sD T c=M ds->Paired (DX O K H) f ds
 |_,_,_,.nil,e=>by ext e;show .nil
 |_,_,_,.cons (l₂:=c) (b:=p) h t,e=>by
  unfold sD at e;cases q:x5 T p with
  |none=>simp_all
  |some d=>
   rw[q]at e;dsimp only at e;cases g:sD T c with
   |none=>simp_all
   |some a=>rw[g]at e;ext e;show .cons (oZ R h.1 q) (vV R t g)
def pJ(T:aQ):G PV->I (G D×aQ)
 |[]=>M ([],T)
 |p::r=>match xA T p with
  |some (d,b)=>(match pJ b r with
   |some (ds,a)=>M (d::ds,a)
   |none=>P)
  |none=>P
theorem r8:∀{k:G V} {c:G PV} {ds:G D} {O:bA} {T ρ':aQ},Rl K B Y O Z H T->Paired (λv pv=>aaP K Y O Z H T v pv/\kH pv) k c->pJ T c=M (ds,ρ')->∃X,Ev O H X H/\Rl K B Y X Z H ρ'/\YH X K H k ds
 |_,_,_,O,_,_,A,.nil,e=>by ext e;show#[O,.refl,A,.nil]
 |_,_,_,O,T,ρ',A,.cons (l₁:=k) (l₂:=c) (b:=p) h t,e=>by
  unfold pJ at e;cases q:xA T p with
  |none=>simp_all
  |some r=>
   let(d,a):=r;rw[q]at e;dsimp only at e;cases C:pJ a c with
   |none=>simp_all
   |some j=>let(m,g):=j;rw[C]at e;ext e;let(y,e1,u,o):=ug A h.1 q;let i:Paired (λv pv=>aaP K Y y Z H a v pv/\kH pv) k c:=Paired.Z8 t λv pv #[l,f]=>#[l.keep f e1,f];let(w,e2,R2,n):=r8 u i C;show#[w,e1.trans e2,R2,.cons (o.ev e2) n]
abbrev FN:=G D->Res RV
def Cu(K:CL)(n:Nat)(F:FN):Sp:=λb H Q E=>b.length=n/\∃(B:bA) (ds:G D),(∀a,B a->H a≠P)/\YH B K H b ds/\WR K E B H (Fin B K H Q) (F ds)
def aU(c:FA):FE:=λT=>(c T).bind λa=>(Res.X8 (pJ a.2 a.1)).bind λb=>if b.1.length<=1000 then .ok (.fz (.tuple b.1),b.2)else .bad
def dC(c:FA):FE:=λT=>(c T).bind λa=>(Res.X8 (pJ a.2 a.1)).bind λb=>if b.1.length<=1000 then .ok (.ow b.1,b.2)else .bad
theorem y0(h:n<=1000):n<=Xl:=XX h ()
def QI(c:AO K E C fa):EO K E (Ic C) (aU fa):=by
 intro B Y O Z H T Q R w;show c B Y O Z H T _ R (w.bind.imp λa g p t r e1 l i=>?_);let((ds,f),q,b):=g.X8;let(o,e2,R2,e):=r8 l i q;dsimp only at b;by_cases hn:ds.length<=1000
 .rw[ax hn]at b;show#[by rw[e.length];show y0 hn,Fin.afj e R2.od (lR R2 λm v n e3 j h=>b m v n (e1.trans (e2.trans e3)) j h)]
 .rw[a4 hn]at b;show b.elim
def Rs(c:AO K E C fa):EO K E (QY C) (dC fa):=by
 intro B Y O Z H T Q R w;show c B Y O Z H T _ R (w.bind.imp λa g p t r e1 l i=>?_);let((ds,f),q,b):=g.X8;let(o,e2,R2,e):=r8 l i q;dsimp only at b;by_cases hn:ds.length<=1000
 .rw[ax hn]at b;show#[by rw[e.length];show y0 hn,Fin.new e (lR R2 λm v n e3 j h=>b m v n (e1.trans (e2.trans e3)) j h)]
 .rw[a4 hn]at b;show b.elim
def AI(K:CL)(r:G V->Hp->VK->Prop)(f:G D->I RV):Prop:=∀(O:bA) (H:Hp) (xs:G V) (ds:G D) (a:RV) (Q:VK),mx O H->Paired (DX O K H) xs ds->f ds=M a->Fin O K H Q a->r xs H Q
def hG(f:G D->I RV)(c:FA):FE:=λT=>(c T).bind λa=>(Res.X8 (sD a.2 a.1)).bind λds=>(Res.X8 (f ds)).bind λb=>.ok (b.pv,a.2)
def GS(l:AI K r f)(c:AO K E C fa):EO K E (tR r C) (hG f fa):=by intro B Y O Z H T Q R w;show c B Y O Z H T _ R (w.bind.imp λa g o u t e1 e j=>?_);let(ds,q,b):=g.X8;let(y,h,b):=b.X8;show l o t u ds y Q e.od (vV e j q) h (lR e λn v p e4 m i=>b n v p (e1.trans e4) m i)
def Vz:D->I Int
 |.int i=>M i
 |_=>P
def P9(h:DX O K H x d)(e:Vz d=M i):x=.int i:=by ext d<;>ext e;ext h;rfl
abbrev FO:=aQ->Res (I Int×aQ)
def S4(K:CL)(E:XK)(t:TO)(f:FO):Prop:=
 ∀(B:bA) (Y:Hp) (O:bA) (Z:St) (H:Hp) (T:aQ) (Q:I Int->Hp->Prop),Rl K B Y O Z H T->WR K E B Y (λr=>∀X H',Ev O H X H'->Rl K B Y X Z H' r.2->Q r.1 H') (f T)->t Z H Q
def o0:FO:=λT=>.ok (P,T)
def gY(b:FE):FO:=λT=>(b T).bind λa=>(Res.X8 (x5 a.2 a.1)).bind λd=>(Res.X8 (Vz d)).bind λi=>.ok (M i,a.2)
theorem HD:S4 K E AG o0:=λB Y O Z H T Q R w=>w O H .refl R
def DW(c:EO K E o C):S4 K E (ND o) (gY C):=by intro B Y O Z H T Q R w;show c B Y O Z H T _ R (w.bind.imp λa f j x l e1 e h=>?_);let(d,q,b):=f.X8;let(i,g,b):=b.X8;show#[i,P9 (oZ e h q) g,b j l e1 e]
def So(K:CL)(r:V->I Int->I Int->Hp->VK->Prop)(f:D->I Int->I Int->I RV):Prop:=∀(O:bA) (H:Hp) (x:V) (lo b:I Int) (e:D) (a:RV) (Q:VK),mx O H->DX O K H x e->f e lo b=M a->Fin O K H Q a->r x lo b H Q
def DH(f:D->I Int->I Int->I RV)(c:FE)(b e:FO):FE:=λT=>(c T).bind λa=>(b a.2).bind λl=>(e l.2).bind λh=>(Res.X8 (x5 h.2 (bN a.1))).bind λi=>(Res.X8 (f i l.1 h.1)).bind λg=>.ok (g.pv,h.2)
def Tk(q:So K r f)(c:EO K E ta fa)(t:S4 K E tl fl)(u:S4 K E th fh):EO K E (VJ r ta tl th) (DH f fa fl fh):=by intro B Y O Z H T Q R w;show c B Y O Z H T _ R (w.bind.imp λa i S x P e1 C p=>?_);let(J,e2,R2,o):=iO C p;show t B Y J Z P a.2 _ R2 (i.bind.imp λl g I N e3 A=>?_);show u B Y I Z N l.2 _ A (g.bind.imp λh b G M e4 e=>?_);let(dx,j,b):=b.X8;let(rv,m,b):=b.X8;show q G M x l.1 h.1 dx rv Q e.od (oZ e (o.keep (pS a.1) (e3.trans e4)) j) m (lR e λF v L e5 y n=>b F v L (e1.trans (e2.trans (e3.trans (e4.trans e5)))) y n)
end
def vA{l:G α}(h:(l.set i x)[i]?=M y):i<l.length:=by
 rw[Ym]at h;rw[ax W]at h;split at h
 .assumption
 .ext h
section
variable{K:CL}{E:XK}{B O U:bA}{Z H H':Hp}{Y:St}{ρ ρ':aQ}{v:V}
def Rl.mut{i:Nat}{ds g:bg D}{a:Xa}{f:bg V}(R:Rl K B Z O Y H ρ)(c:ρ[i]?=cL (cL (.ow ds)))(J:Y[i]?=cL (cL (.ref a)))(L:O a)(M:Z a=Ld)(hd:YH O K H f g):
  Rl K B Z O Y (aR H a (.lst f)) (ρ.set i (cL (.ow g))):=by
 let ev:Ev O H O (aR H a (.lst f)):=Ev.mut L _;show#[λb o e=>by rw[ar (bH e M)];show R.same b o e,R.bo,R.bd,λb m=>?_,by rw[Yf];show R.len,λj x l=>?_,λj k xs G w hj X A t=>?_]
 .by_cases e:b=a
  .rw[e,ay]at m;ext m
  .rw[ar e]at m;show R.od b m
 .rcases bC l with⟨rfl,ee⟩|⟨r,l⟩
  .ext ee;show#[_,J,a,f,W,L,M,ay,hd.ev ev]
  .let(u,I,q):=R.slot j x l
   show#[u,I,?_];cases x with
   |fz d=>show DV.ev ev q
   |pl i=>show q
   |ow xs=>let(b,N,rfl,T,S,Q,P):=q;let F:b≠a:=λz=>r (R.one j i xs ds (.ref a) l c (by rw[I,z]) J);show#[b,N,W,T,S,by rw[ar F];show Q,P.ev ev]
 .let own:∀{j:Nat} {xs:bg D},(ρ.set i (cL (.ow g)))[j]?=cL (cL (.ow xs))->∃G,ρ[j]?=cL (cL (.ow G)):=λ{j xs} h=>by
   rcases bC h with⟨rfl,_⟩|⟨_,h⟩
   .show#[_,c]
   .show#[_,h]
  let(p,C):=own hj;let(n,y):=own X;show R.one j k p n w C y A t
theorem tD(h:n<1000000):n<Xl:=XD h ()
def FJ:I (I PV)->I (G D)
 |some (M (.ow ds))=>M ds
 |_=>P
def AJ(h:FJ o=M ds):o=M (M (.ow ds)):=by
 unfold FJ at h;split at h
 .ext h;rfl
 .ext h
def Ch(i:Nat)(c:FE):FE:=λρ=>(Res.X8 (FJ ρ[i]?)).bind λ_=>(c ρ).bind λa=>(Res.X8 (xA a.2 a.1)).bind λb=>(Res.X8 (FJ b.2[i]?)).bind λds=>
 if ds.length<1000000 then .ok (.fz .none,b.2.set i (M (.ow (ds++[b.1]))))else .bad
def Rf(p:EO K E te fe):EO K E (RI K "list" uq (nY i) (df te gJ)) (Ch i fe):=by
 intro B Z O Y H ρ Q R w;let(u,n,w):=w.X8;let(v,j,a,T,rfl,J,I,q,G):=R.slot i _ (AJ n);show#[_,j,.inl #[W,_,SqL.of q],?_];show p B Z O Y H ρ _ R (w.bind.imp λb e M y N e1 A o=>?_);let((d,l),m,e):=e.X8;let(C,e2,R2,t):=ug A o m;let(ds,f,e):=e.X8;let f:=AJ f;let(F,k1,L,g,r,k2,k3,k4,k5):=R2.slot i _ f;subst r;rw[j]at k1;ext k1;dsimp only at e;by_cases h:ds.length<1000000
 .rw[ax h]at e;show#[a,g,y,W,W,k4,tD (by rw[k5.length];show h),?_];show e C .Zo _ (e1.trans (e2.trans (Ev.mut k2 _))) (R2.mut f j k2 k3 (k5.append (.cons t .nil))) .Zo
 .rw[a4 h]at e;show e.elim
abbrev FG:=PV->aQ->Res aQ
abbrev Sa:=G D->aQ->Res aQ
def GO(K:CL)(E:XK)(g:TG)(f:FG):Prop:=
 ∀(B:bA) (Z:Hp) (O:bA) (Y:St) (H:Hp) (ρ:aQ) (v:V) (pv:PV) (Q:St->Hp->Prop),Rl K B Z O Y H ρ->aaP K Z O Y H ρ v pv->WR K E B Z (λρ'=>∀U a H',Ev O H U H'->Rl K B Z U a H' ρ'->Q a H') (f pv ρ)->g v Y H Q
def Uf(K:CL)(E:XK)(g:x9)(f:Sa):Prop:=
 ∀(B:bA) (Z:Hp) (O:bA) (Y:St) (H:Hp) (ρ:aQ) (b:G V) (ds:G D) (Q:St->Hp->Prop),Rl K B Z O Y H ρ->YH O K H b ds->WR K E B Z (λρ'=>∀U a H',Ev O H U H'->Rl K B Z U a H' ρ'->Q a H') (f ds ρ)->g b Y H Q
def Rl.aib(R:Rl K B Z O Y H ρ)(h:DV O K H v d):Rl K B Z O (Y.set i (M v)) H (ρ.set i (M (.fz d))):=by
 show#[R.same,R.bo,R.bd,R.od,by rw[Yf,Yf];show R.len,λj x f=>?_,λj k xs o w m l b a=>?_]
 .rcases bC f with⟨rfl,e⟩|⟨g,f⟩
  .ext e;let:=vA f;show#[v,by rw[Ym,ax W,ax (by rw[R.len];show this)],h]
  .let(u,t,r):=R.slot j x f;show#[u,by rw[Ym,a4 (λz=>g z.symm)];show t,r]
 .rcases bC m with⟨rfl,n⟩|⟨q,m⟩
  .ext n
  .rcases bC l with⟨rfl,n⟩|⟨p,l⟩
   .ext n
   .rw[Ym,a4 (λz=>q z.symm)]at b;rw[Ym,a4 (λz=>p z.symm)]at a;show R.one j k xs o w m l b a
def Rl.alY(R:Rl K B Z O Y H ρ)(h:aaP K Z O Y H ρ v (.ow ds)):Rl K B Z O (Y.set i (cL v)) H (ρ.set i (cL (.ow ds))):=by
 let(a,N,rfl,J,I,G,F,q):=h;show#[R.same,R.bo,R.bd,R.od,by rw[Yf,Yf];show R.len,λj x m=>?_,λj k xs p w C l f b=>?_]
 .rcases bC m with⟨rfl,e⟩|⟨o,m⟩
  .ext e;let:=vA m;show#[.ref a,by rw[Ym,ax W,ax (by rw[R.len];show this)],a,N,W,J,I,G,F]
  .let(u,y,t):=R.slot j x m;show#[u,by rw[Ym,a4 (λz=>o z.symm)];show y,t]
 .rcases bC C with⟨rfl,M⟩|⟨r,g⟩
  .rcases bC l with⟨rfl,L⟩|⟨n,l⟩
   .rfl
   .rw[Ym,a4 (λz=>n z.symm)]at b
    rcases bC f with⟨_,e⟩|⟨z,_⟩
    .ext e;show bb b (q k p l)
    .show bb W z
  .let A:=g
   rw[Ym,a4 (λz=>r z.symm)]at f;rcases bC l with⟨rfl,M⟩|⟨n,l⟩
   .rcases bC b with⟨_,e⟩|⟨z,_⟩
    .ext e;show bb f (q j xs g)
    .show bb W z
   .rw[Ym,a4 (λz=>n z.symm)]at b;show R.one j k xs p w g l f b
def gN(i:Nat):FG:=λpv ρ=>match pv with
 |.ow ds=>.ok (ρ.set i (M (.ow ds)))
 |.fz d=>.ok (ρ.set i (M (.fz d)))
 |.pl j=>(Res.X8 (xA ρ (.pl j))).bind λb=>.ok (b.2.set i (M (.fz b.1)))
def uA:GO K E (oV i) (gN i):=by
 intro B Z O Y H ρ v pv Q R p w;cases pv with
 |ow ds=>show w O _ H .refl (R.alY p)
 |fz d=>show w O _ H .refl (R.aib p)
 |pl j=>let((d,a),q,w):=WR.X8 (show WR K E B Z _ ((Res.X8 (xA ρ (.pl j))).bind λb=>.ok (b.2.set i (M (.fz b.1))))from w);let(f,e2,R2,e):=ug R p q;show w f _ H e2 (R2.aib e)
def N4:Sa:=λds ρ=>match ds with
 |[]=>.ok ρ
 |_=>.bad
def Cf(f:FG)(g:Sa):Sa:=λds ρ=>match ds with
 |[]=>.bad
 |d::r=>(f (.fz d) ρ).bind λa=>g r a
def OT:Uf K E Mm N4:=by
 intro B Z O Y H ρ b ds Q R a w;cases a with
 |nil=>show#[W,w O Y H .refl R]
 |cons _ _=>show w.elim
def JT(n:GO K E t f)(m:Uf K E u g):Uf K E (BI t u) (Cf f g):=by
 intro B Z O Y H ρ L ds Q R o w;cases o with
 |nil=>show w.elim
 |cons l j=>rename_i v L d ds;show#[_,_,W,n B Z O Y H ρ _ (.fz d) _ R l (WR.imp (WR.bind w) λe i y b C e1 p=>?_)];show m B Z y b C e _ _ Q p (j.ev e1) (i.imp λh q r a A e2 R2=>q r a A (e1.trans e2) R2)
def VU:D->I (G D)
 |.tuple ds=>M ds
 |_=>P
def Fw(h:DX O K H x d)(e:VU d=M ds):∃a xs,x=.ref a/\aaR O K H a xs/\YH O K H xs ds:=by
 ext d<;>ext e;cases h with
 |tup h b=>show#[_,_,W,h,b]
def gT(n:Nat)(f:Sa):FG:=λpv ρ=>(Res.X8 (x5 ρ pv)).bind λd=>(Res.X8 (VU d)).bind λds=>if ds.length=n then f ds ρ else .bad
def PN(h:Uf K E t f):GO K E (KM K n t) (gT n f):=by
 intro B Z O Y H ρ v pv Q R p w;let(d,g,w):=w.X8;let(ds,e,w):=w.X8;let(a,xs,rfl,i,b):=Fw (oZ R p g) e;by_cases hn:ds.length=n
 .rw[ax hn]at w;show#[a,xs,W,i.1,b.length.trans hn,h B Z O Y H ρ xs ds Q R b w]
 .rw[a4 hn]at w;show w.elim
inductive Fl where
 |nx (ρ:aQ)
 |rt (rv:RV)
 |bk (ρ:aQ)
 |ct (ρ:aQ)
abbrev FS:=aQ->Res Fl
def aew(K:CL)(B:bA)(Z:Hp)(O:bA)(H:Hp)(D:Ends):Fl->Prop
 |.nx ρ'=>∀U a H',Ev O H U H'->Rl K B Z U a H' ρ'->D.nx a H'
 |.bk ρ'=>∀U a H',Ev O H U H'->Rl K B Z U a H' ρ'->D.bk a H'
 |.ct ρ'=>∀U a H',Ev O H U H'->Rl K B Z U a H' ρ'->D.ct a H'
 |.rt b=>Fin B K Z D.rt b
def SO(K:CL)(E:XK)(t:TS)(g:FS):Prop:=
 ∀(B:bA) (Z:Hp) (O:bA) (Y:St) (H:Hp) (ρ:aQ) (D:Ends),Rl K B Z O Y H ρ->WR K E B Z (aew K B Z O H D) (g ρ)->t D Y H
def aew.ev{D:Ends}(e:Ev O H O1 H1)(h:aew K B Z O H D fl):aew K B Z O1 H1 D fl:=by
 cases fl with
 |nx ρ'=>show λU a H' b f=>h U a H' (e.trans b) f
 |bk ρ'=>show λU a H' b f=>h U a H' (e.trans b) f
 |ct ρ'=>show λU a H' b f=>h U a H' (e.trans b) f
 |rt g=>show h
def eO:FS:=λρ=>.ok (.nx ρ)
def bM(f g:FS):FS:=λρ=>(f ρ).bind λa=>match a with
 |.nx b=>g b
 |a=>.ok a
def sA(f:FE):FS:=λρ=>(f ρ).bind λa=>.ok (.nx a.2)
def dX(f:FE)(g:FG):FS:=λρ=>(f ρ).bind λa=>(g a.1 a.2).bind λb=>.ok (.nx b)
def nk(c:FT)(f g:FS):FS:=λρ=>(c ρ).bind λa=>if a.1=S then f a.2 else g a.2
def Dm(ρ:aQ):PV->I RV
 |.fz d=>M (.fz d)
 |.ow ds=>M (.ow ds)
 |.pl i=>match ρ[i]? with
  |some (M (.fz d))=>M (.fz d)
  |some (M (.ow ds))=>M (.ow ds)
  |_=>P
def dA(f:FE):FS:=λρ=>(f ρ).bind λa=>(Res.X8 (Dm a.2 a.1)).bind λb=>.ok (.rt b)
theorem K1:SO K E Ix eO:=λB Z O Y H ρ D R w=>w O Y H .refl R
def O0(j:SO K E t f)(i:SO K E u g):SO K E (Ii t u) (bM f g):=by
 intro B Z O Y H ρ D R w;show j B Z O Y H ρ {D with nx:=u D} R (WR.imp (WR.bind w) λh b=>?_);cases h with
 |nx a=>show λm e n e1 l=>i B Z m e n a D l (WR.imp b λh q=>q.ev e1)
 |rt o=>show b
 |bk a=>show b
 |ct a=>show b
def Kn(h:EO K E t f):SO K E (wq t) (sA f):=by intro B Z O Y H ρ D R w;show h B Z O Y H ρ _ R (w.bind.imp λa b g x i e1 e j=>b g Y i e1 e)
def GL(h:EO K E t f)(m:GO K E g C):SO K E (wu t g) (dX f C):=by intro B Z O Y H ρ D R w;show h B Z O Y H ρ _ R (w.bind.imp λa j p x r e1 n l=>?_);show m B Z p Y r a.2 x a.1 _ n l (j.bind.imp λe i o b q e2 R2=>i o b q (e1.trans e2) R2)
def T6(m:TTO K E c C)(o:SO K E t f)(n:SO K E u g):SO K E (JG c t u) (nk C f g):=by
 intro B Z O Y H ρ D R w;show m B Z O Y H ρ _ R (w.bind.imp λa h j l e1 i=>?_);let(b,e):=a;cases b with
 |true=>show o B Z j Y l e D i (WR.imp h λp q=>q.ev e1)
 |false=>show n B Z j Y l e D i (WR.imp h λp q=>q.ev e1)
def PX{pv:PV}(R:Rl K B Z O Y H ρ)(p:aaP K Z O Y H ρ v pv)(e:Dm ρ pv=M C)(w:Fin B K Z Q C):Q v H:=by
 let ow:∀{a:J} {A:G V} {ds:G D},O a->Z a=P->H a=M (.lst A)->YH O K H A ds->Fin B K Z Q (.ow ds)->Q (.ref a) H:=λ{a A ds} m l g f w=>
  w a A H R.same l g (f.ev (Ev.sub λb z=>z.elim (R.bo b) λe=>by simp_all))
 let fz:∀{d:D},DV O K H v d->Fin B K Z Q (.fz d)->Q v H:=λ{d} h w=>w v H R.same (h.ev (Ev.sub R.bo));cases pv with
 |fz d=>ext e;show fz p w
 |ow ds=>ext e;let(a,A,rfl,m,l,g,f,y):=p;show ow m l g f w
 |pl i=>
  let t:=p;unfold Dm at e;dsimp only at e;cases q:ρ[i]? with
  |none=>simp_all
  |some o=>
   cases o with
   |none=>simp_all
   |some x=>
    let(u,r,n):=R.slot i x q;rw[t]at r;ext r;rw[q]at e;cases x with
    |fz d=>ext e;show fz n w
    |ow ds=>ext e;let(a,A,rfl,m,l,g,f):=n;show ow m l g f w
    |pl j=>show n.elim
def OH(h:EO K E t f):SO K E (DB t) (dA f):=by intro B Z O Y H ρ D R w;show h B Z O Y H ρ _ R (w.bind.imp λa b i x j e1 g e=>?_);let(l,q,b):=b.X8;show PX g e q b
def vS(K:CL)(J:It)(O:bA)(H:Hp)(ds:G D):Prop:=∀U H',Ev O H U H'->mx U H'->
 (∀i,i<ds.length->J.go i H'/\∀x a,J.yld i H' x a->YS H' a/\∃d,ds[i]?=M d/\DV U K a x d)/\J.stop ds.length H'
abbrev FI:=aQ->Res (G D×aQ)
def IO(K:CL)(E:XK)(b:TI)(e:FI):Prop:=
 ∀(B:bA) (Z:Hp) (O:bA) (Y:St) (H:Hp) (ρ:aQ) (a:It->Hp->Prop),Rl K B Z O Y H ρ->WR K E B Z (λr=>∀U J H',Ev O H U H'->Rl K B Z U Y H' r.2->vS K J U H' r.1->a J H') (e ρ)->b Y H a
def pK(gt:FG)(b:FS):G D->FS
 |[],ρ=>.ok (.nx ρ)
 |d::r,ρ=>(gt (.fz d) ρ).bind λa=>(b a).bind λe=>match e with
  |.nx f=>pK gt b r f
  |.ct f=>pK gt b r f
  |.bk f=>.ok (.nx f)
  |.rt g=>.ok (.rt g)
def sL(e:FI)(gt:FG)(b:FS):FS:=λρ=>(e ρ).bind λa=>pK gt b a.1 a.2
def Qw(c:IO K E wi fi)(k:GO K E g gt)(s:SO K E tb b):SO K E (C0 wi g tb) (sL fi gt b):=by
 intro B Z O Y H ρ D R w;show c B Z O Y H ρ _ R (w.bind.imp λa N G J T e1 S Q=>?_);let(ds,F):=a;dsimp only at N Q S;show#[λi m f H'=>m=ds.length - i/\i<=ds.length/\∃O2 ρ2,Ev G T O2 H'/\Rl K B Z O2 f H' ρ2/\WR K E B Z (aew K B Z O H D) (pK gt b (ds.drop i) ρ2),#[_,W,X1 _,G,F,.refl,S,N],?_];rintro i m o M ⟨rfl,c,O2,ρ2,e2,R2,w2⟩;let(go,p):=Q O2 M e2 R2.od;by_cases j:i<ds.length
 .let(g1,g2):=go i j
  show .inr #[g1,λf H'=>i+1<=ds.length/\∃O2 ρ2,Ev G T O2 H'/\Rl K B Z O2 f H' ρ2/\WR K E B Z (aew K B Z O H D) (pK gt b (ds.drop (i+1)) ρ2),λf H' #[h1,h2]=>#[ds.length - (i+1),by ext,W,h1,h2],λx L y=>?_];let(P,d,hd,dv):=g2 x L y;let ed:ds.drop i=d::ds.drop (i+1):=by let(_,q):=W6.mp hd;rw[YF j,q]
  rw[ed]at w2;let e3:Ev O2 M O2 L:=Ev.grow P;show k B Z O2 o L ρ2 x (.fz d) _ (R2.grow P) dv (WR.imp (WR.bind w2) λC X O4 A H4 e4 R4=>?_);let n:=e2.trans (e3.trans e4);show s B Z O4 A H4 C _ R4 (WR.imp (WR.bind X) λfl u=>?_);cases fl with
  |nx h=>show λt l I e5 r=>#[j,t,h,n.trans e5,r,u]
  |ct h=>show λt l I e5 r=>#[j,t,h,n.trans e5,r,u]
  |bk h=>show λt l I e5 r=>u t l I (e1.trans (n.trans e5)) r
  |rt rv=>show u
 .let e:i=ds.length:=by ext
  subst e;rw[YD (Xg _)]at w2;show .inl #[p,w2 O2 o M (e1.trans e2) R2]
def eP:D->I (G D)
 |.tuple ds=>M ds
 |.list ds=>M ds
 |_=>P
def Hb(K:CL)(e:TE):TI:=λY H R=>e Y H λx b=>∃a,x=.ref a/\(((∃xs,SqL K b a xs)/\R (Vw K a) b)\/((∃xs,SqT K b a xs)/\R (U1 K a) b))
def IE(y:PE X l C):PI X tg l (Hb X.K C):=by
 intro i s Y H R I h;show bV (y i s Y H _ I h) λv g a=>?_;let(x,r,f,t,u):=a;let(a,e,q):=u;subst e;ext t;rcases q with⟨⟨xs,j⟩,q⟩|⟨⟨xs,j⟩,q⟩
 .let(n,A,p,w):=f.list j
  show ZV p.isList ?_;show#[g.heap.objs.size,[g.heap.objs.size],_,_,r,W,f.kept λb o e=>b3 _ e,CW a _,#[_,b5 _ W,W,W],λb m=>?_,q];let e:b=g.heap.objs.size:=by simpa using m
  subst e;show f.ad0 (Xg _) (f.Yq.fresh (Xg _))
 .let(n,A,p,w):=f.tuple j
  show abw (show g.heap.IsTuple a n.toArray from p) ?_;show#[g.heap.objs.size,[g.heap.objs.size],_,_,r,W,f.kept λb o e=>b3 _ e,y8 a _,#[_,b5 _ W,W,W],λb m=>?_,q];let e:b=g.heap.objs.size:=by simpa using m
  subst e;show f.ad0 (Xg _) (f.Yq.fresh (Xg _))
def AZ(h:ab7 O K H a xs)(hd:YH O K H xs ds):vS K (Vw K a) O H ds:=by intro U H' e n;let f:=h.ev e;let b:=hd.ev e;show#[λi p=>?_,#[xs,f.1.sq,by rw[hd.length];show Xg _]];let(x,l,_):=b.get (Xp p);show#[#[xs,x,f.1.sq,l],?_];rintro y m ⟨rfl,o⟩;let(d,j,g):=b.aga (o xs f.1.sq);show#[YS.refl _,d,j,g]
def DT(h:aaR O K H a xs)(hd:YH O K H xs ds):vS K (U1 K a) O H ds:=by intro U H' e n;let f:=h.ev e;let b:=hd.ev e;show#[λi p=>?_,#[xs,f.1,by rw[hd.length];show Xg _]];let(x,l,_):=b.get (Xp p);show#[#[xs,x,f.1,l],?_];rintro y m ⟨rfl,o⟩;let(d,j,g):=b.aga (o xs f.1);show#[YS.refl _,d,j,g]
def iW(c:FE):FI:=λρ=>(c ρ).bind λa=>(Res.X8 (xA a.2 a.1)).bind λb=>(Res.X8 (eP b.1)).bind λds=>.ok (ds,b.2)
def QZ(h:EO K E C fe):IO K E (Hb K C) (iW fe):=by
 intro B Z O Y H ρ o R w;show h B Z O Y H ρ _ R (w.bind.imp λa b p x i e1 n l=>?_);let((d,j),q,b):=b.X8;let(g,e2,R2,m):=ug n l q;let(ds,e,b):=b.X8;dsimp only at e;cases m with
 |tup h f=>ext e;show#[_,W,.inr #[#[_,h.1],b g _ i (e1.trans e2) R2 (DT h f)]]
 |lst h f=>ext e;show#[_,W,.inl #[#[_,h.1.sq],b g _ i (e1.trans e2) R2 (AZ h f)]]
 |_=>ext e
def gu(lo:Int)(n:Nat):G D:=(Xq n).map λ(k:Nat)=>.int (lo+(k:Int))
def Fb:vS K (UO lo n) O H (gu lo n):=by
 intro U H' e f;let a:(gu lo n).length=n:=by ext gu;simp_all
 show#[λi g=>?_,by show n<=_;rw[a];show Xg _];rw[a]at g;show#[g,?_];rintro x b ⟨rfl,rfl⟩;show#[YS.refl _,.int (lo+i),by ext gu;simp_all,.int _]
def kr(i:Int):Prop:= -(2^62)<=i/\i<2^62
noncomputable instance(i:Int):Decidable (kr i):=by ext kr;infer_instance
def kR:G D->I (G D)
 |[.int j]=>if kr j then M (gu 0 j.toNat)else P
 |_=>P
def pI(f:G D->I (G D))(b:FA):FI:=λρ=>(b ρ).bind λa=>(Res.X8 (sD a.2 a.1)).bind λds=>(Res.X8 (f ds)).bind λxs=>.ok (xs,a.2)
def Ml(h:AO K E C fa):IO K E (N7 C) (pI kR fa):=by
 intro B Z O Y H ρ r R w;show h B Z O Y H ρ _ R (w.bind.imp λa e o t p e1 g l=>?_);let(ds,q,e):=e.X8;let(xs,b,e):=e.X8;let i:=vV g l q;unfold kR at b;split at b
 .rename_i j
  split at b
  .rename_i f
   ext b;cases i with
   |cons n m=>ext m;ext n;show#[j,W,f.1,f.2,e o _ p e1 g Fb]
  .ext b
 .ext b
end
section
variable{K:CL}{E:XK}{B O Y:bA}{X H H':Hp}{Z:St}{ρ ρ':aQ}{v:V}
def Hu:I PV->I PV
 |some (.fz d)=>M (.fz d)
 |_=>P
def cH(ρ:aQ):aQ:=ρ.map Hu
def zg{i:Nat}(h:(cH ρ)[i]?=M (M x)):∃d,x=.fz d/\ρ[i]?=M (M (.fz d)):=by
 unfold cH at h;rw[Xj]at h;cases q:ρ[i]? with
 |none=>simp_all
 |some o=>
  rw[q]at h;let a:=Xm h;unfold Hu at a;split at a
  .ext a;show#[_,W,W]
  .ext a
def tj(ρ:aQ):G Nat->I (G D×aQ)
 |[]=>M ([],ρ)
 |j::r=>match xA ρ (.pl j)with
  |some (d,b)=>(match tj b r with
   |some (c,a)=>M (d::c,a)
   |none=>P)
  |none=>P
def CZ(R:Rl K B X O Z H ρ)(h:xA ρ (.pl i)=M (d,ρ')):∃v,Z[i]?=M (M v):=by
 let a:Vc ρ i ρ[i]?=M (d,ρ'):=h;cases q:ρ[i]? with
 |none=>rw[q]at a;ext a
 |some o=>
  cases o with
  |none=>rw[q]at a;ext a
  |some x=>let(v,b,_):=R.slot i x q;show#[v,b]
theorem xk:∀{s:G Nat} {ds:G D} {O:bA} {ρ ρ':aQ},Rl K B X O Z H ρ->tj ρ s=M (ds,ρ')->∃Y k,Ev O H Y H/\Rl K B X Y Z H ρ'/\YH Y K H k ds/\s.map (λj=>(Z[j]?).join)=k.map M
 |[],_,O,_,_,t,e=>by ext e;show#[O,[],.refl,t,.nil,W]
 |j::r,_,O,ρ,ρ',t,e=>by
  unfold tj at e;cases q:xA ρ (.pl j)with
  |none=>simp_all
  |some p=>
   let(d,a):=p;rw[q]at e;dsimp only at e;cases u:tj a r with
   |none=>simp_all
   |some f=>let(c,b):=f;rw[u]at e;ext e;let(v,g):=CZ t q;let(o,e1,l,i):=ug (pv:=.pl j) t g q;let(m,k,e2,R2,h,n):=xk l u;show#[m,v::k,e1.trans e2,R2,.cons (i.ev e2) h,by simp_all]
def cV(gt:FG)(c:FT)(f:FE):G D->aQ->G D->Res (G D)
 |[],_,acc=>.ok acc
 |d::r,ρ,acc=>(gt (.fz d) ρ).bind λe=>(c e).bind λb=>if b.1=S then(f b.2).bind λa=>(Res.X8 (xA a.2 a.1)).bind λx=>
   if acc.length<1000000 then cV gt c f r (cH x.2) (acc++[x.1])else .bad
  else cV gt c f r (cH b.2) acc
def jD:Res α->Res α
 |.er _=>.bad
 |r=>r
def dQ(n:Nat)(e:G Nat)(b:FI)(gt:FG)(f:FT)(g:FE):FE:=λρ=>(b ρ).bind λa=>(Res.X8 (tj a.2 e)).bind λc=>
 (jD (cV gt f g a.1 (Xk n P++c.1.map λd=>M (.fz d)) [])).bind λxs=>.ok (.ow xs,c.2)
def Bz{own:G Str}(h:own.length=n):own.map (λ_=>(P:I V))=Xk n P:=by
 subst h
 induction own with
 |nil=>rfl
 |cons x r a=>grind
def z7(h:WR K E B X b (jD r)):∃a,r=.ok a/\b a:=by
 cases r with
 |ok a=>show#[a,W,h]
 |er x=>show h.elim
 |bad=>show h.elim
def Ue(K:CL)(J:It)(O:bA)(H:Hp)(ds:G D):Prop:=∀Y H',Ev O H Y H'->YS H H'->mx Y H'->
 (∀i,i<ds.length->J.go i H'/\∀x a,J.yld i H' x a->YS H' a/\∃d,ds[i]?=M d/\DV Y K a x d)/\J.stop ds.length H'
def Vp(K:CL)(E:XK)(b:TI)(e:FI):Prop:=
 ∀(B:bA) (X:Hp) (O:bA) (Z:St) (H:Hp) (ρ:aQ) (a:It->Hp->Prop),Rl K B X O Z H ρ->WR K E B X (λr=>∀Y J H',Ev O H Y H'->Rl K B X Y Z H' r.2->Ue K J Y H' r.1->a J H') (e ρ)->b Z H a
theorem IO.s(h:IO K E wi fi):Vp K E wi fi:=λB X O Z H ρ b R w=>h B X O Z H ρ b R (w.imp λr q Y J H' e R a=>q Y J H' e R λf g e2 _ n=>a f g e2 n)
def wx(c:own.length=n)(hf:fv.map (·.2)=fj)
  (hi:Vp K E wi fi) (hg:GO K E0 g gt) (ht:TTO K E0 tc ft) (he:EO K E0 te fe):EO K E (ub own fv wi g tc te) (dQ n fj fi gt ft fe):=by
 intro B X O Z H ρ Q R w;show hi B X O Z H ρ _ R (w.bind.imp λa w1 O1 J H1 e1 R1 it=>?_);let(ds,ρ1):=a;let((cs,ρ2),qc,w1):=w1.X8;dsimp only at qc it;let(I,vs,e2,R2,dvs,hvs):=xk R1 qc;let(xs,qx,w1):=z7 (WR.bind w1);intro l F;let hB:∀{H':Hp},YS H1 H'->H' l≠Ld->∀a,bK I l a->H' a≠Ld:=λ{H'} s nd a h z=>h.elim (λq=>R2.od a (s.free z) q) λe=>nd (by rw[<-e];show z);show#[λi m L H'=>m=ds.length - i/\i<=ds.length/\∃(A:bg D) (G:bg V) (t:aQ),YS H1 H'/\H' l=cL (.lst G)/\YH (bK I l) K H' G A/\L.length=t.length/\(∀(j:Nat) (x:PV),t[j]?=cL (cL x)->∃d u,x=PV.fz d/\L[j]?=cL (cL u)/\DV (bK I l) K H' u d)/\cV gt ft fe (ds.drop i) t A=.ok xs,
  #[_,W,X1 _,[],[],_,bj F _,ay,.nil,?_,λj x M=>?_,qx],?_]
 .ext iK
  rw[Xi,Xi,W5,W5,Yx,W5,c,<-dvs.length];let:=dw aaz hvs
  grind
 .let hm:fv.map (λp=>(Z[p.2]?).join)=vs.map cL:=by rw[<-hvs,<-hf,XN];rfl
  ext iK;rw[Bz c,hm];by_cases hj:j<n
  .rw[Xh (by rw[Yx];show hj),Zg,ax hj]at M;ext M
  .rw[XT (by rw[Yx];ext),Yx,Xj]at M⊢
   cases qd:cs[j - n]? with
   |none=>rw[qd]at M;ext M
   |some d=>rw[qd]at M;ext M;let(u,hu,du):=dvs.get qd;show#[d,u,W,by rw[hu];rfl,du.ev (Ev.add (bj F _) F)]
 .rintro i m L H' ⟨rfl,hi,A,G,t,s,hD,dys,hl,hsl,f⟩
  let nD:H' l≠Ld:=by rw[hD];simp
  let no':=λa z h=>hB s nD a h z;let ev1:=e2.trans (Ev.add s F);let(go,stop):=it (bK I l) H' ev1 s no';by_cases T:i<ds.length
  .let(g1,g2):=go i T
   show .inr #[g1,λC N=>i+1<=ds.length/\∃(A:bg D) (G:bg V) (t:aQ),YS H1 N/\N l=cL (.lst G)/\YH (bK I l) K N G A/\C.length=t.length/\(∀(j:Nat) (x:PV),t[j]?=cL (cL x)->∃d u,x=PV.fz d/\C[j]?=cL (cL u)/\DV (bK I l) K N u d)/\cV gt ft fe (ds.drop (i+1)) t A=.ok xs,
    λC N #[h1,h2]=>#[ds.length - (i+1),by ext,W,h1,h2],λx H3 y=>?_]
   let(s3,d,hd,dv):=g2 x H3 y;let ed:ds.drop i=d::ds.drop (i+1):=by let(_,q):=W6.mp hd;rw[YF T,q]
   rw[ed]at f;let hD3:=s3 _ _ hD;let nD3:H3 l≠Ld:=by rw[hD3];simp
   let sv:=s.trans s3;let RC:Rl K (bK I l) H3 (bK I l) L H3 t:=#[YS.refl _,λ_ h=>h,hB sv nD3,λa z h=>hB sv nD3 a h z,hl,λj x M=>by let(d,u,rfl,h1,h2):=hsl j x M;show#[u,h1,h2.ev (Ev.grow s3)],λj k xs G w hj=>by let(d,u,e,_):=hsl j _ hj;ext e];unfold cV at f;let back:∀{O5:bA} {C:St} {N:Hp} {Pz0:aQ} {H6:Hp},Rl K (bK I l) H3 O5 C N Pz0->(∀b o,b≠l->N b=cL o->H6 b=cL o)->C.length=(cH Pz0).length/\∀(j:Nat) (x:PV),(cH Pz0)[j]?=cL (cL x)->∃d u,x=PV.fz d/\C[j]?=cL (cL u)/\DV (bK I l) K H6 u d:=λ{O5 C N Pz0 H6} U k=>by show#[by ext cH;rw[W5];show U.len,λj x M=>?_];let(d,rfl,hxx):=zg M;let(u,h1,h2):=U.slot j _ hxx;show#[d,u,W,h1,DV.ev (λb o h n=>#[k b o (λe=>n (.inr e)) h,n]) (DV.ev (Ev.sub U.bo) h2)]
   show hg _ _ _ L H3 t x (.fz d) _ RC dv ?_;cases qg:gt (.fz d) t with
   |er z=>rw[qg]at f;ext f
   |bad=>rw[qg]at f;ext f
   |ok ρ3=>
    rw[qg,d0]at f;intro O4 σ4 H4 e4 R4;show ht _ _ _ σ4 H4 ρ3 _ R4 ?_;cases qt:ft ρ3 with
    |er z=>rw[qt]at f;ext f
    |bad=>rw[qt]at f;ext f
    |ok b=>
     let(b,ρ4):=b;rw[qt,d0]at f;intro O5 N e5 U;cases b with
     |false=>rw[a4 Xs]at f⊢;let(l5,k5):=back U λb o _ h=>h;show#[T,A,G,cH ρ4,sv.trans U.same,U.same _ _ hD3,?_,l5,k5,f];show dys.ev (Ev.grow (s3.trans U.same))
     |true=>
      rw[ax W]at f⊢;show he _ _ _ σ4 N ρ4 _ U ?_;cases qe:fe ρ4 with
      |er z=>rw[qe]at f;ext f
      |bad=>rw[qe]at f;ext f
      |ok r=>
       rw[qe,d0]at f;intro O6 yv H6 e6 R6 p6;cases q7:xA r.2 r.1 with
       |none=>rw[q7]at f;ext f
       |some xr=>
        let(xd,ρ7):=xr;rw[q7]at f;let(O7,e7,R7,dv7):=ug R6 p6 q7;let hD7:=R7.same _ _ hD3;let S:(if A.length<1000000 then cV gt ft fe (ds.drop (i+1)) (cH ρ7) (A++[xd])else .bad)=.ok xs:=f;by_cases hl6:A.length<1000000
        .rw[ax hl6]at S
         let up:∀b o,b≠l->H6 b=cL o->aR H6 l (.lst (G++[yv])) b=cL o:=λb o hb h=>by rw[ar hb];show h
         let eS:Ev (bK I l) H6 (bK I l) (aR H6 l (.lst (G++[yv]))):=λb o h n=>#[up b o (λe=>n (.inr e)) h,n];let alr:=dys.ev (Ev.grow (s3.trans R7.same));let(l5,k5):=back R7 up;show#[G,hD7,tD (by rw[dys.length];show hl6),T,A++[xd],G++[yv],cH ρ7,λb o h=>?_,ay,?_,l5,k5,S]
         .rw[ar (bH h F)];show R7.same _ _ (sv _ _ h)
         .show(alr.append (.cons (DV.ev (Ev.sub R7.bo) dv7) .nil)).ev eS
        .rw[a4 hl6]at S;ext S
  .let e:i=ds.length:=by ext
   subst e;rw[YD (Xg _)]at f;let f:=f;ext f;show .inl #[stop,?_];show w1 (bK I l) (.ref l) H' (e1.trans ev1) (R2.add s F nD) #[l,G,W,.inr W,R2.ago F,hD,dys,λk es hk z=>?_];let(u,h1,b,us,e2,g1,g2,g3,g4):=R2.slot k _ hk;rw[z]at h1;ext h1;ext e2;rw[F]at g3;ext g3
def b6(F:FN)(n:Nat)(c:FA):FE:=λρ=>(c ρ).bind λa=>(Res.X8 (pJ a.2 a.1)).bind λb=>if b.1.length=n then(jD (F b.1)).bind λe=>.ok (e.pv,b.2)else .bad
def Pn(c:AO K E C fa):EO K E (jz (Cu K n F) [] E0 C) (b6 F n fa):=by
 intro B X O Z H ρ Q R w;show c B X O Z H ρ _ R (w.bind.imp λa g u A y e1 o j=>?_);let((ds,f),q,b):=g.X8;let(r,e2,R2,e):=r8 o j q;dsimp only at b;by_cases hn:ds.length=n
 .rw[ax hn]at b;let(L,h,b):=z7 (WR.bind b);rw[X5];show#[e.length.trans hn,r,ds,λa z l=>R2.od a l z,e,?_];rw[h];show lR R2 λp v t e3 m i=>b p v t (e1.trans (e2.trans e3)) m i
 .rw[a4 hn]at b;show b.elim
end
def fD(N:Nat)(g:FS):FN:=λds=>(g (ds.map (λd=>M (.fz d))++Xk (N - ds.length) P)).bind λa=>match a with
 |.rt b=>.ok b
 |.nx _=>.ok (.fz .none)
 |_=>.bad
def Gx(g:∀a,B a->H a≠P)(l:YH B K H C ds):Rl K B H B (L2.start N C) H (ds.map (λd=>M (.fz d))++Xk (N.length - ds.length) P):=by
 let r:=l.length;show#[YS.refl _,λ_ h=>h,g,λa z h=>g a h z,?_,λi x m=>?_,λi j xs p w t=>?_]
 .ext L2.start;simp_all
 all_goals
  let b:∀{i:Nat} {x:PV},(ds.map (λd=>M (PV.fz d))++Xk (N.length - ds.length) P)[i]?=M (M x)->∃d,x=.fz d/\ds[i]?=M d:=λ{i x} h=>by
   by_cases t:i<ds.length
   .rw[Xh (by rw[W5];show t),Xj]at h
    cases q:ds[i]? with
    |none=>rw[q]at h;ext h
    |some d=>rw[q]at h;ext h;show#[d,W,W]
   .rw[XT (by rw[W5];ext),Zg]at h;split at h<;>ext h
 .let(d,rfl,n):=b m;let(v,f,o):=l.get n;show#[v,?_,o];let t:=(W6.mp f).1;ext L2.start;rw[Xh (by rw[W5];show t),Xj,f];rfl
 .let(d,e,_):=b t;ext e
def Wd(F:Fun K x qual st f fd)(S:Zm N ps (au st))(c:ps.length=n)
  (r:∀(a:U) (A:XO) (outer:G Env) (s:Xd) (H:Hp) (E:XK),Y4 k (A.deeper (X0 qual (au st) s.heap.objs.size f a))->
   ∃t,PSs (fC kQ C w K mg base N qual (au st) f a A outer s H E).nox (bW st) t/\SO K E t g):FnOk C w K mg base kQ (k+1) f fd ps (Cu K n (fD N.length g)):=by
 show F.ok S (λT H Q E h=>h.1.trans c.symm) (λa A outer s H T Q E l h=>?_);let(t,i,j):=r a A outer s H E l;let(v,B,ds,m,p,h):=h;show#[t,i,j B H B _ H _ _ (Gx m p) (WR.imp (WR.bind h) λo q=>?_)];cases o with
 |rt X=>show q
 |nx L=>show λy b u e R=>q .Zo u R.same .Zo
 |bk L=>show q.elim
 |ct L=>show q.elim
end L3
namespace L3
open PySem PySem.Spec PyProof.Rows L2
def OpR.or(h:OpR X f r)(c:OpR X f r'):OpR X f (λx y H Q=>r x y H Q\/r' x y H Q):=by
 intro a s b H x y v u Q I g e q;rcases q with q|q
 .show h a s b H x y v u Q I g e q
 .show c a s b H x y v u Q I g e q
def Pp(I:Inv X pins σ H s)(h:aap X.K H l xs):xs.length<=Xl/\∃(a:G U) (n:Nat),Vals xs a/\xs.length=a.length/\s.heap.get? l=M {cls:=.type "list",data:=.seq a.toArray n}:=by
 rcases h with(h|⟨o,h⟩)|⟨a,n,h1,f,b⟩
 .show I.aiF h
 .let(_,z,a,n,r,e):=I.Yq l _ h;show#[z,a,n,r,r.length,e]
 .show#[f,a,n,b,b.length,I.kIn _ _ h1]
def Nz(K:CL):R2:=λx y H Q=>∃l b xs zs,x=.ref l/\y=.ref b/\aap K H l xs/\aap K H b zs/\xs.length+zs.length<=Xl/\∀p,H p=P->Q (.ref p) (aR H p (.lst (xs++zs)))
def Lf:OpR X (Zp .Add) (Nz X.K):=by
 intro f s A H x y v u Q I j i h;let(l,b,xs,B,rfl,rfl,p,t,F,q):=h;ext j;ext i;let(z,g,n,r,G,e):=Pp I p;let(C,a,E,m,o,e2):=Pp I t;show PySem.P.add_list e e2 ?_ (by simp_all);let w:g.toArray++a.toArray=(g++a).toArray:=by simp
 rw[w];show#[.ref _,_,I.aij (r.append m) (by simp_all),W,q _ I.fresh]
def MV(K:CL):R2:=λx y H Q=>∃l k xs,x=.ref l/\y=.int k/\aap K H l xs/\ -(2^63)<=k/\k<2^63/\xs.length*k.toNat<=Xl/\
 ∀p,H p=P->Q (.ref p) (aR H p (.lst (Xk k.toNat xs).flatten))
def My:OpR X (Zp .Mult) (MV X.K):=by
 intro p s O H x y v u Q I E C h;let(l,k,xs,rfl,rfl,J,M,L,G,q):=h;ext E;let(t,rfl):=C;let(z,b,n,r,R,e):=Pp I J;let f:b.toArray.size*k.toNat<=Xl:=by simp_all
 let g:¬b.toArray.size*k.toNat>(2^63 - 1)/8:=by
  let:(Xl:Nat)<=(2^63 - 1)/8:=by decide
  ext
 let j:¬(!XS.List.listFitsIndex k)=S:=by rw[fitsIndex_both M L];simp_all
 let i:¬XS.List.listTooLong (b.toArray.size*k.toNat)=S:=by rw[Iz f];simp_all
 let o:aaT (λA w=>A++w) #v[] (Xk (if b.toArray.isEmpty=S then 0 else k.toNat) b.toArray)=(Xk k.toNat b).flatten.toArray:=by
  let N:=λm=>by let:=nK b m [];rw[acv]at this;show this
  rw[N];cases b with
  |nil=>simp
  |cons a P=>rfl
 show aeh () #[_,e,W] (λB=>ack B k t) noFill_list_mul F.fills_int_mul F.slot_int_rmul repeat_list F.slot_int_index.lookup
  (aaM F.slot_int_rmul (ack s k t) F.entry_int_rmul (F.args_int_rmul_2 _ _) (int___rmul___int_list k t l b.toArray n)
   #[e,W,#[_,e,W],aaM F.slot_list_mul #[_,e,W] F.entry_list_mul (F.args_list_mul_2 _ _) (AutoListH.list___mul___list_int_3 l b.toArray n k t j g i) #[e,?_]])
 rw[o];show#[.ref _,_,I.aij (r.rep k.toNat) (by rw[zK,Nat.mul_comm];show G),W,q _ I.fresh]
section
variable{K:CL}
def fI(g:Int->Int->Int):D->D->I RV
 |.int i,.int j=>M (.fz (.int (g i j)))
 |_,_=>P
def fB(g:Int->Int->Bool):D->D->I RV
 |.int i,.int j=>M (.fz (.bool (g i j)))
 |_,_=>P
def UN(C:Int->Int->Bool)(g:Int->Int->Int):D->D->I RV
 |.int i,.int j=>if C i j=S then M (.fz (.int (g i j)))else P
 |_,_=>P
def xZ(h:fI g dx C=M o):∃i j,dx=.int i/\C=.int j/\o=.fz (.int (g i j)):=by
 unfold fI at h;split at h
 .ext h;show#[_,_,W,W,W]
 .ext h
def Sj:kZ K (An λi j=>.int (g i j)) (fI g):=by intro O H x y l f h Q n b a e q;let(i,j,rfl,rfl,rfl):=xZ e;ext b;ext a;show#[i,j,W,W,q.at (.int _)]
def Ek:kZ K (An λi j=>.bl (g i j)) (fB g):=by
 intro O H x y l f h Q n b a e q;unfold fB at e;split at e
 .ext e;ext b;ext a;show#[_,_,W,W,q.at (.bl _)]
 .ext e
def HM(h:∀i j,C i j=S->o i j):kZ K (rI o λi j=>.int (g i j)) (UN C g):=by
 intro O H x y p l m Q n b a e q;unfold UN at e;split at e
 .split at e
  .rename_i f;ext e;ext b;ext a;show#[_,_,W,W,h _ _ f,q.at (.int _)]
  .ext e
 .ext e
theorem BN(h:DX O K H x (.list ds)):∃a xs,x=.ref a/\aap K H a xs/\YH O K H xs ds:=h
theorem DK(h:DX O K H x (.tuple ds)):∃a xs,x=.ref a/\aaR O K H a xs/\YH O K H xs ds:=Fw h W
def Ng(K:CL):R2:=λx y H Q=>An (λi j=>.int (i+j)) x y H Q\/Nz K x y H Q\/NY K x y H Q
theorem KS:OpR X (Zp .Add) (Ng X.K):=OpR.or QL (OpR.or Lf Js)
def bO:D->D->I RV
 |.int i,.int j=>M (.fz (.int (i+j)))
 |.list xs,.list ys=>if xs.length+ys.length<=1000000 then M (.ow (xs++ys))else P
 |.tuple xs,.tuple ys=>if xs≠[]/\xs.length+ys.length<=1000000 then M (.fz (.tuple (xs++ys)))else P
 |_,_=>P
theorem tY(h:n<=1000000):n<=Xl:=XX h ()
def YH.ne(h:YH O K H vs ds):vs=[]↔ds=[]:=by ext h<;>simp
def JN:kZ K (Ng K) bO:=by
 intro O H x y u r t Q n m l e q;unfold bO at e;split at e
 .ext e;ext m;ext l;show .inl #[_,_,W,W,q.at (.int _)]
 .split at e
  .rename_i h;ext e;let(a,xs,rfl,i,f):=BN m;let(b,j,rfl,o,g):=BN l;show .inr (.inl #[a,b,xs,j,W,W,i,o,tY (by rw[f.length,g.length];show h),Fin.new (f.append g) q])
  .ext e
 .split at e
  .rename_i h;ext e;let(a,xs,rfl,i,f):=DK m;let(b,j,rfl,o,g):=DK l;show .inr (.inr #[a,b,xs,j,W,W,i.1,o.1,λz=>h.1 (f.ne.mp z),tY (by rw[f.length,g.length];show h.2),λz=>?_,λ_=>Fin.afj (f.append g) n q]);let p:=g.ne.mp z;subst p;rw[X5]at q;show q.at (.tup i f)
  .ext e
 .ext e
def G4(K:CL):R2:=λx y H Q=>rI af1 (λi j=>.int (i*j)) x y H Q\/MV K x y H Q
theorem La:OpR X (Zp .Mult) (G4 X.K):=OpR.or Pd My
def gM(i:Int):Bool:=decide (-(2^64)<i/\i<2^64)
theorem rK(h:gM i=S): -(2^64)<i/\i<2^64:=a7 h
def B6:D->D->I RV
 |.int i,.int j=>if(gM i||gM j)=S then M (.fz (.int (i*j)))else P
 |.list xs,.int k=>if xs.length*k.toNat<=1000000/\ -(2^63)<=k/\k<2^63 then M (.ow (Xk k.toNat xs).flatten)else P
 |_,_=>P
def Ji:kZ K (G4 K) B6:=by
 intro O H x y m j l Q n g f e q;unfold B6 at e;split at e
 .split at e
  .rename_i b
   ext e;ext g;ext f;show .inl #[_,_,W,W,?_,q.at (.int _)];rcases(Yz _ _).mp b with z|z
   .show .inl (rK z)
   .show .inr (rK z)
  .ext e
 .split at e
  .rename_i b;ext e;ext f;let(a,xs,rfl,i,h):=BN g;show .inr #[a,_,xs,W,W,i,b.2.1,b.2.2,tY (by rw[h.length];show b.1),Fin.new (h.flat _) q]
  .ext e
 .ext e
def sO:=fI λi j=>i - j
theorem Mg:kZ K (An λi j=>.int (i - j)) sO:=Sj
def Qt(_ j:Int):Bool:=decide (0<j)
def qC:=UN Qt λi j=>i % j
theorem K5:kZ K (rI (λ_ j=>0<j) λi j=>.int (i % j)) qC:=HM λi j h=>a7 h
def QU(_ j:Int):Bool:=decide (0<j/\j<2^128)
def yg:=UN QU λi j=>i/j
theorem JI:kZ K (rI (λ_ j=>0<j/\j.natAbs.log2<9000) λi j=>.int (i/j)) yg:=HM λi j h=>by
 let b:=a7 h;show#[b.1,?_];let a:j.natAbs<2^128:=by ext
 let e:=(Nat.log2_lt ()).mpr a;ext
def QV:=fB λi j=>decide (i<j)
def DF:=fB λi j=>decide (j<i)
def UM:=fB λi j=>decide (j<=i)
theorem OZ:kZ K (An λi j=>.bl (decide (i<j))) QV:=Ek
theorem Oh:kZ K (An λi j=>.bl (decide (j<i))) DF:=Ek
theorem OG:kZ K (An λi j=>.bl (decide (j<=i))) UM:=Ek
def kq(d:D):Bool:=d.canLay0&&decide (d.depth<=64)
def cK(d e:D):I RV:=if(kq d&&e.canLay0)=S then M (.fz (.bool (Xe.eqv d e)))else P
def pO(d e:D):I RV:=if(kq d&&e.canLay0)=S then M (.fz (.bool (!Xe.eqv d e)))else P
def Oy:kZ K (MB K R) cK:=by
 intro O H x y h g i Q n f b e q;unfold cK at e;split at e
 .rename_i a;ext e;unfold kq at a;simp only[W0,decide_eq_true_eq]at a;show#[h,g,f.plain,b.plain,a.1.1,a.2,a.1.2,q.at (.bl _)]
 .ext e
def Rr:kZ K (MB K S) pO:=by
 intro O H x y h g i Q n f b e q;unfold pO at e;split at e
 .rename_i a;ext e;unfold kq at a;simp only[W0,decide_eq_true_eq]at a;show#[h,g,f.plain,b.plain,a.1.1,a.2,a.1.2,q.at (.bl _)]
 .ext e
def oj:D->D->I RV
 |.none,.none=>M (.fz (.bool S))
 |_,.none=>M (.fz (.bool R))
 |_,_=>P
def lJ:D->D->I RV
 |.none,.none=>M (.fz (.bool R))
 |_,.none=>M (.fz (.bool S))
 |_,_=>P
def Fm(h:DX O K H x d)(hd:d≠.none):x≠.Zo:=by
 cases d with
 |none=>simp_all
 |list ds=>let(a,xs,rfl,_):=BN h;simp
 |tuple ds=>let(a,xs,rfl,_):=DK h;simp
 |bool b=>ext h;simp
 |int b=>ext h;simp
 |str b=>ext h;simp
 |dict b=>ext h
def Kq:kZ K (λx y H Q=>y=.Zo/\Q (.bl (decide (x=.Zo))) H) oj:=by
 intro O H x y i g h Q n b a e q;unfold oj at e;split at e
 .ext e;ext b;ext a;show#[W,q.at (.bl _)]
 .rename_i f;ext e;ext a;show#[W,?_];rw[a6 (Fm b f)];show q.at (.bl _)
 .ext e
def Lz:kZ K (λx y H Q=>y=.Zo/\Q (.bl (!decide (x=.Zo))) H) lJ:=by
 intro O H x y i g h Q n b a e q;unfold lJ at e;split at e
 .ext e;ext b;ext a;show#[W,q.at (.bl _)]
 .rename_i f;ext e;ext a;show#[W,?_];rw[a6 (Fm b f)];show q.at (.bl _)
 .ext e
def JP(K:CL)(neg:Bool):R2:=λx y H Q=>∃d ds,L2.DV K H x d/\(L2.DV K H y (.list ds)\/L2.DV K H y (.tuple ds))/\d.canLay0=S/\Xe.canLayAll0 ds=S/\d.depth<=64/\Q (.bl (if neg then !(ds.any λe=>Xe.eqv e d)else ds.any λe=>Xe.eqv e d)) H
def Rx(p:X.A.units+65<cLine):OpR X (YR .In) (JP X.K R):=by
 intro g s o H x y v u Q I l e h;let(d,ds,n,a,j,i,m,q):=h;let(as,f):=n.reads I l;let hm:min (Xe.depthAll ds) d.depth<=64:=XX (acj _ _) m;rcases a with a|a
 .let(bs,b):=a.reads I e;show akh b f i j () #[.bl _,H,I,W,q]
 .let(bs,b):=a.reads I e;show aki b f i j () #[.bl _,H,I,W,q]
def Jv(p:X.A.units+65<cLine):OpR X (YR .NotIn) (JP X.K S):=by
 intro g s o H x y v u Q I l e h;let(d,ds,n,a,j,i,m,q):=h;let(as,f):=n.reads I l;let hm:min (Xe.depthAll ds) d.depth<=64:=XX (acj _ _) m;rcases a with a|a
 .let(bs,b):=a.reads I e;show akj b f i j () #[.bl _,H,I,W,q]
 .let(bs,b):=a.reads I e;show akk b f i j () #[.bl _,H,I,W,q]
def IK(d e:D):I RV:=match eP e with
 |some ds=>if(kq d&&Xe.canLayAll0 ds)=S then M (.fz (.bool (ds.any λe=>Xe.eqv e d)))else P
 |none=>P
def vG(d e:D):I RV:=match eP e with
 |some ds=>if(kq d&&Xe.canLayAll0 ds)=S then M (.fz (.bool (!ds.any λe=>Xe.eqv e d)))else P
 |none=>P
def IA(a:DX O K H y e)(h:eP e=M ds):L2.DV K H y (.list ds)\/L2.DV K H y (.tuple ds):=by
 unfold eP at h;split at h
 .ext h;show .inr a.plain
 .ext h;show .inl a.plain
 .ext h
def Qa:kZ K (JP K R) IK:=by
 intro O H x y i h j Q n f b e q;unfold IK at e;split at e
 .rename_i ds g
  split at e
  .rename_i a;ext e;unfold kq at a;simp only[W0,decide_eq_true_eq]at a;show#[i,ds,f.plain,IA b g,a.1.1,a.2,a.1.2,q.at (.bl _)]
  .ext e
 .ext e
def MK:kZ K (JP K S) vG:=by
 intro O H x y i h j Q n f b e q;unfold vG at e;split at e
 .rename_i ds g
  split at e
  .rename_i a;ext e;unfold kq at a;simp only[W0,decide_eq_true_eq]at a;show#[i,ds,f.plain,IA b g,a.1.1,a.2,a.1.2,q.at (.bl _)]
  .ext e
 .ext e
def bf(d e:D):I RV:=match eP d,e with
 |some ds,.int i=>(lh ds i).map .fz
 |_,_=>P
def F6(h:YH O K H xs ds)(e:lh ds i=M d):∃v,lh xs i=M v/\DV O K H v d:=by
 unfold lh at e⊢;rw[h.length];cases q:Nb ds.length i with
 |none=>simp_all
 |some j=>rw[q]at e;show h.get e
def Eh:kZ K (S3 K) bf:=by
 intro O H x y t o r Q n l m e q;unfold bf at e;split at e
 .rename_i ds i b
  ext m;cases p:lh ds i with
  |none=>simp_all
  |some d=>
   rw[p]at e;ext e;unfold eP at b;split at b
   .ext b;let(a,xs,rfl,h,g):=DK l;let(v,f,j):=F6 g p;show .inr (.inl #[a,xs,i,v,W,W,h.1,f,q.at j])
   .ext b;let(a,xs,rfl,h,g):=BN l;let(v,f,j):=F6 g p;show .inl #[a,xs,i,v,W,W,h.sq,f,q.at j]
   .ext b
 .ext e
def oG(xs:G D)(lo a:I Int):G D:=(xs.drop (HT.sIx xs.length 0 lo)).take (HT.sIx xs.length xs.length a - HT.sIx xs.length 0 lo)
def EH{lo a:I Int}(h:YH O K H xs ds):YH O K H (Dw xs lo a) (oG ds lo a):=by unfold Dw oG;rw[h.length];show(h.drop _).take _
def jK(n:Nat)(lo a:I Int):Bool:=decide (HT.sIx n 0 lo=0/\HT.sIx n n a=n)
def Rg(K:CL):V->I Int->I Int->Hp->VK->Prop:=λx lo a H Q=>TU K x lo a H Q\/T5 K x lo a H Q
def Ib:Nw X (Rg X.K):=by
 intro a s b H x v f e lo m g Q I i l pl j h;rcases h with h|h
 .show Mp a s b H x v f e lo m g Q I i l pl j h
 .show Rt a s b H x v f e lo m g Q I i l pl j h
def N6:D->I Int->I Int->I RV
 |.list ds,lo,a=>M (.ow (oG ds lo a))
 |.tuple ds,lo,a=>if jK ds.length lo a=S then P else M (.fz (.tuple (oG ds lo a)))
 |_,_,_=>P
def vP:So K (Rg K) N6:=by
 intro O H x lo j l i Q n g e q;unfold N6 at e;split at e
 .ext e;let(a,xs,rfl,f,b):=BN g;show .inl #[a,xs,W,f.sq,Fin.new (EH b) q]
 .split at e
  .ext e
  .rename_i h;ext e;let(a,xs,rfl,f,b):=DK g;show .inr #[a,xs,W,f.1,λz=>h ?_,Fin.afj (EH b) n q];ext jK;rw[<-b.length];show a5 z
 .ext e
def dY:G D->I RV
 |[d]=>(match eP d with
  |some ds=>M (.fz (.int ds.length))
  |none=>P)
 |_=>P
def Pq:AI K (λxs H Q=>∃x n,xs=[x]/\Ln K x H n/\Q (.int n) H) dY:=by
 intro O H xs ds i Q n h e q;unfold dY at e;split at e
 .split at e
  .rename_i es f
   ext e;cases h with
   |cons b g=>
    ext g;unfold eP at f;split at f
    .ext f;let(a,xs,rfl,b,g):=DK b;show#[_,xs.length,W,.inr #[xs,b.1,W],by rw[g.length];show q.at (.int _)]
    .ext f;let(a,xs,rfl,b,g):=BN b;show#[_,xs.length,W,.inl #[xs,b.sq,W],by rw[g.length];show q.at (.int _)]
    .ext f
  .ext e
 .ext e
def lu:G D->I RV
 |[.tuple ds]=>M (.fz (.tuple ds))
 |[.list ds]=>M (.fz (.tuple ds))
 |_=>P
def Hm:AI K (λxs H Q=>∃p ys,xs=[.ref p]/\((SqL K H p ys/\∀l,H l=P->Q (.ref l) (aR H l (.tup ys)))\/(SqT K H p ys/\Q (.ref p) H))) lu:=by
 intro O H xs ds h Q n g e q;unfold lu at e;split at e
 .ext e
  cases g with
  |cons b f=>ext f;let(a,xs,rfl,b,f):=DK b;show#[a,xs,W,.inr #[b.1,q.at (.tup b f)]]
 .ext e
  cases g with
  |cons b f=>ext f;let(a,xs,rfl,b,f):=BN b;show#[a,xs,W,.inl #[b.sq,Fin.afj f n q]]
 .ext e
def sH:G D->I RV
 |[d]=>(eP d).map .ow
 |_=>P
def Kt:AI K (λxs H Q=>∃p ys,xs=[.ref p]/\(SqL K H p ys\/SqT K H p ys)/\∀l,H l=P->Q (.ref l) (aR H l (.lst ys))) sH:=by
 intro O H xs ds i Q n g e q;unfold sH at e;split at e
 .rename_i d
  cases g with
  |cons b f=>
   ext f;cases h:eP d with
   |none=>simp_all
   |some es=>
    rw[h]at e;ext e;unfold eP at h;split at h
    .ext h;let(a,xs,rfl,b,f):=DK b;show#[a,xs,W,.inr b.1,Fin.new f q]
    .ext h;let(a,xs,rfl,b,f):=BN b;show#[a,xs,W,.inl b.sq,Fin.new f q]
    .ext h
 .ext e
def xN:G D->I RV
 |[.int i,.int j]=>M (.fz (.int (if j>i then j else i)))
 |_=>P
def KY:AI K (λxs H Q=>∃i j,xs=[.int i,.int j]/\Q (.int (if j>i then j else i)) H) xN:=by
 intro O H xs ds h Q n b e q;unfold xN at e;split at e
 .ext e
  cases b with
  |cons g a=>
   cases a with
   |cons a f=>ext f;ext g;ext a;show#[_,_,W,q.at (.int _)]
 .ext e
end
end L3
namespace PySem
open Sem (wp)
open AutoSeq1 (wpAny_loadPart')
open Builtin Builtin.Str
section
variable{Y:Xx}{w:XU}{A:XO}{E:W2->Xd->Prop}{s:Xd}
def l9(a:s.heap.IsTupleIter it t i)(j:s.heap.IsTuple t items)(h:items[i]?=M x)
  (m:∀c,c.IsTupleIter it t (i+1)->Heap.SameBut it s.heap c->Q x {s with heap:=c}):wpAny (model Y w) A (XS.SmallTypes.nextOf (.ref it)) Q E s:=by
 let(o,e,l,b):=id a;let(n,f,_,p,g):=j;ext XS.SmallTypes.nextOf;show lD (Yn a.typeIs F.slot_tuple_iterator_next
  (Yt F.slot_tuple_iterator_next a.typeIs F.entry_tuple_iterator_next ?_ (F.args_tuple_iterator_next_1 _)))
 show wpAny _ _ (field (.ref it) 0>>=_) _ _ s;show lD (X9 e b W ?_);show wpAny _ _ (if(W2.ref t==W2.none)=S then _ else _) _ _ s;rw[a4 (show¬((W2.ref t==W2.none)=S)from Xs)];show lD (X9 e b W ?_);show lD (YG f g ?_);simp only[Yr,h];show lD (YW e b (by simp) (W9 #[x,W,W9 (m _ ?_ (Heap.SameBut.update ..))]));show#[_,b9 _ e (cv (cn b _)),(Obj.cls_mapFields ..).trans l,by rw[cn b];simp[rawInt]]
def nz(j:A.handled=P)(a:s.heap.IsTupleIter it t i)(m:s.heap.IsTuple t items)(l:items[i]?=P)
  (n:∀c e,Heap.ExtBut it s.heap c->(∃o,c.get? e=M o/\o.cls=.type "StopIteration")->E (.ref e) {s with heap:=c}):wpAny (model Y w) A (XS.SmallTypes.nextOf (.ref it)) Q E s:=by
 let(o,f,r,h):=id a;let(p,b,_,q,g):=m;ext XS.SmallTypes.nextOf;show lD (Yn a.typeIs F.slot_tuple_iterator_next
  (Yt F.slot_tuple_iterator_next a.typeIs F.entry_tuple_iterator_next ?_ (F.args_tuple_iterator_next_1 _)))
 show wpAny _ _ (field (.ref it) 0>>=_) _ _ s;show lD (X9 f h W ?_);show wpAny _ _ (if(W2.ref t==W2.none)=S then _ else _) _ _ s;rw[a4 (show¬((W2.ref t==W2.none)=S)from Xs)];show lD (X9 f h W ?_);show lD (YG b g ?_);simp only[Yr,l];show lD (abl (lD (YW f h (by simp) ?_)));show lD ?_;simp only[newExc,newTuple];show lD (Yc ?_ (by size_fits));show lD (abJ (by first|rfl|(simp only[firstArgMember];rfl)) ?_);show Yc ?_ (by size_fits);simp only[raiseNew];show lD (amk ?_)
 first|rw[show A.in1.handled=P from j]|rw[j]
 show lD (W9 (wpAny_throw ?_));show n _ _ (((Heap.SameBut.update ..).extBut.push _).push _) #[_,b5 _ W,W]
end
end PySem
namespace L3
open PySem PySem.Spec PyProof.Rows L2
def Kw(I:Inv X pins σ H s)(j:SqT X.K H a xs)(i:SqT X.K H a ys):xs=ys:=by
 let(f,h,(o,e1,_,n,l),_):=I.tuple j;let(b,g,(m,e2,_,p,e),_):=I.tuple i;rw[e1]at e2;ext e2;rw[l]at e;let:f=b:=by
  let q:f.toArray=b.toArray:=by injection e
  simpa using q
 subst this;show h.inj g
def B9{bs:G Bool}(r:Vals (bs.map V.bl) o){i:Nat}(h:o[i]?=M v):∃b,bs[i]?=M b/\v=.bool b:=by
 let e:=r.length;rw[W5]at e;let g:i<bs.length:=by rw[e];show(W6.mp h).1
 let(u,a,f):=r.get (by rw[Xj,Xp g];rfl);rw[h]at a;ext a;show#[bs[i],Xp g,f]
def yE(bs:G Bool):((Xq bs.length).all λi=>(bs[i]?).getD S)=bs.all id:=by
 rw[afO,Yl,Yl];constructor
 .intro h b a;let(i,f,e):=List.mem_iff_getElem.mp a;let:=h i (Zf.mpr f);rw[Xp f,e]at this;show this
 .intro h i f;let f:=Zf.mp f;rw[Xp f];show h _ (afA f)
section
variable{X:Cx}
def Hd(y:X.calm=S):Zi X (.builtin "all") (λxs H Q=>∃(p:Xa) (bs:bg Bool),xs=[.ref p]/\SqL X.K H p (bs.map V.bl)/\Q (.bl (bs.all id)) H):=by
 intro g s C H xs E Q I r h;let(l,bs,rfl,t,q):=h;let(u,rfl,n):=hW r;ext n;let(m,T,pl,J):=I.list t;let a:=T.length;rw[W5]at a;let f:l<s.heap.objs.size:=by let(_,_,e,_):=pl;show b4 e
 show call_all_walk (ZV pl.isList ?_);show#[s.heap.objs.size,[s.heap.objs.size,l],[s.heap.objs.size],m.toArray.size,_,_,λi=>(bs[i]?).getD S,W,Walks.list (A:=X.A.in1) (I.ok.hd y) _ l (XB f) m.toArray,
  #[#[_,b5 _ W,W,W],pl.isList.push _],λi v G M N B j=>?_,λL F w=>?_]
 .let(b,e,rfl):=B9 T (by simpa using B);simp only[e,abS]at j;show ZF j
 .rw[Xr,<-a,yE];show#[.bl _,H,I.kept λb o e=>w b o (λhm=>?_) (b3 _ e),W,q];rw[Xo.mp hm]at e;show YN _ (b4 e)
end
section
variable{K:CL}
def u8:G D->I (G Bool)
 |[]=>M []
 |.bool b::r=>(u8 r).map (b::·)
 |_=>P
theorem Ab:∀{xs:G V} {ds:G D} {bs:G Bool},YH O K H xs ds->u8 ds=M bs->xs=bs.map V.bl
 |_,_,_,.nil,e=>by ext e;rfl
 |_,_,bs,.cons (ds:=r) h t,e=>by
  cases h with
  |bl b=>
   let a:(u8 r).map (b::·)=M bs:=e;cases q:u8 r with
   |none=>rw[q]at a;ext a
   |some f=>rw[q]at a;ext a;rw[Ab t q];rfl
  |_=>ext e
def C6:G D->I RV
 |[.list ds]=>(u8 ds).map λbs=>.fz (.bool (bs.all id))
 |_=>P
def Ry:AI K (λxs H Q=>∃(p:J) (bs:G Bool),xs=[.ref p]/\SqL K H p (bs.map V.bl)/\Q (.bl (bs.all id)) H) C6:=by
 intro O H xs ds j Q n g e q;unfold C6 at e;split at e
 .rename_i es
  cases i:u8 es with
  |none=>rw[i]at e;ext e
  |some bs=>
   rw[i]at e;ext e;cases g with
   |cons f b=>ext b;let(a,h,rfl,f,b):=BN f;let:=Ab b i;subst this;show#[a,bs,W,f.sq,q.at (.bl _)]
 .ext e
def n6:G D->I (G Int)
 |[]=>M []
 |.int b::r=>(n6 r).map (b::·)
 |_=>P
theorem p7:∀{xs:G V} {ds:G D} {bs:G Int},YH O K H xs ds->n6 ds=M bs->xs=bs.map V.int
 |_,_,_,.nil,e=>by ext e;rfl
 |_,_,bs,.cons (ds:=r) h t,e=>by
  cases h with
  |int b=>
   let a:(n6 r).map (b::·)=M bs:=e;cases q:n6 r with
   |none=>rw[q]at a;ext a
   |some f=>rw[q]at a;ext a;rw[p7 t q];rfl
  |_=>ext e
def yy(x:Int):G Int->G Int
 |[]=>[x]
 |y::r=>if x<=y then x::y::r else y::yy x r
def jR:G Int->G Int
 |[]=>[]
 |x::r=>yy x (jR r)
theorem nM(x:Int):∀l,(yy x l).Perm (x::l)
 |[]=>abZ _
 |y::r=>by
  ext yy;split
  .show abZ _
  .show((nM x r).cons y).trans (aob x y r)
theorem eN:∀l,(jR l).Perm l
 |[]=>abZ _
 |x::r=>(nM x _).trans ((eN r).cons x)
theorem oM(x:Int):∀l:G Int,l.Pairwise (·<=·)->(yy x l).Pairwise (·<=·)
 |[],_=>by simp[yy]
 |y::r,h=>by
  ext yy;let(f,g):=YA.mp h;split
  .rename_i a
   show YA.mpr #[λz b=>?_,h];rcases Xw.mp b with e|e
   .rw[e];show a
   .let:=f z e;ext
  .rename_i a
   show YA.mpr #[λz b=>?_,oM x r g];rcases Xw.mp ((nM x r).mem_iff.mp b)with e|e
   .rw[e];ext
   .show f z e
theorem dP:∀l,(jR l).Pairwise (·<=·)
 |[]=>aa1
 |x::r=>oM x _ (dP r)
theorem ko{l m:G Int}(e:l.Perm m)(f:l.Pairwise (·<=·))(hm:m.Pairwise (·<=·)):l=m:=e.eq_of_pairwise (λa b _ _ h g=>Int.le_antisymm h g) f hm
def uV:G D->I RV
 |[.list ds]=>(match n6 ds with
  |some a=>if a.length<64 then M (.ow ((jR a).map .int))else P
  |none=>P)
 |_=>P
def ro(a:G Int):YH O K H (a.map V.int) (a.map .int):=by
 induction a with
 |nil=>show .nil
 |cons n r b=>show .cons (.int n) b
def B7:AI K (λxs H Q=>∃(p:J) (b:G Int),xs=[.ref p]/\SqL K H p (b.map V.int)/\b.length<64/\∀(l:J) (f:G Int),H l=P->f.Perm b->f.Pairwise (·<=·)->Q (.ref l) (aR H l (.lst (f.map V.int)))) uV:=by
 intro O H xs ds u Q n g e q;unfold uV at e;split at e
 .rename_i es
  cases t:n6 es with
  |none=>rw[t]at e;ext e
  |some b=>
   rw[t]at e;dsimp only at e;split at e
   .rename_i h
    ext e;cases g with
    |cons j i=>ext i;let(a,r,rfl,j,i):=BN j;let:=p7 i t;subst this;show#[a,b,W,j.sq,h,λl f h g m=>?_];let o:=ko (g.trans (eN b).symm) m (dP b);subst o;show Fin.new (ro _) q l h
   .ext e
 .ext e
end
def V5(K:CL)(H:Hp)(x:V)(t:String):Prop:=match x with
 |.Zo=>t= "NoneType"
 |.bl _=>t= "bool"
 |.int _=>t= "int"
 |.str _=>t= "str"
 |.ref a=>(t= "list"/\∃xs,SqL K H a xs)\/(t= "tuple"/\∃xs,SqT K H a xs)
 |_=>False
def Ie(K:CL):G V->Hp->VK->Prop:=λxs H Q=>∃x n t b,xs=[x,.ty n]/\V5 K H x t/\ae0 K (.type t) (.type n)=M b/\Q (.bl b) H
def tI{X:Cx}:Zi X (.builtin "isinstance") (Ie X.K):=by
 intro j s v H xs C Q I r h;let(x,n,t,b,rfl,ty,e,q):=h;let(u,w,rfl,g,A):=zU r;obtain rfl:w=W2.type n:=A;let f:∀l,EP X j v Q (.bool b) {s with toks:=l}:=λl=>#[.bl b,H,I.tok l,W,q];cases x with
 |Zo=>cases(show t= "NoneType" from ty);cases(show u=W2.none from g);show ZL PySem.W.kitx_none I.kIn True.intro e (λz=>nomatch z) f
 |bl y=>cases(show t= "bool" from ty);cases(show u=W2.bool y from g);show ZL PySem.W.kitx_bool I.kIn True.intro e (λz=>nomatch z) f
 |int i=>cases(show t= "int" from ty);let(t,q):=(show∃t,u=W2.int i t from g);ext q;show ZL PySem.W.kitx_int I.kIn True.intro e (λz=>nomatch z) f
 |str y=>cases(show t= "str" from ty);let(t,q):=(show∃t,u=W2.str y t from g);ext q;show ZL PySem.W.kitx_str I.kIn True.intro e (λz=>nomatch z) f
 |ref a=>
  cases(show u=W2.ref a from g);rcases ty with⟨rfl,xs,h⟩|⟨rfl,xs,h⟩
  .let(B,r,(o,k,p,m,_),_):=I.list h;show ZL PySem.W.kitx_list I.kIn #[_,p,m] e (λz=>nomatch z) f
  .let(B,r,(o,p,m,_),_):=I.tuple h;show ZL PySem.W.kitx_tuple I.kIn #[o,p,m] e (λz=>nomatch z) f
 |_=>show(show False from ty).elim
section
variable{K:CL}{E:XK}{B O L:bA}{X H C:Hp}{T:L2.St}{Y N:aQ}{v:V}
def xD:D->I String
 |.none=>M "NoneType"
 |.bool _=>M "bool"
 |.int _=>M "int"
 |.str _=>M "str"
 |.list _=>M "list"
 |.tuple _=>M "tuple"
 |.dict _=>P
def zj(n t:String):Bool:=n==t||(n== "int"&&t== "bool")
def A8{n t:String}(b:n= "int"\/n= "bool"\/n= "str"\/n= "list"\/n= "tuple"){d:D}(a:xD d=M t):ae0 K (.type t) (.type n)=M (zj n t):=by ext d<;>(ext a;try (rcases b with rfl|rfl|rfl|rfl|rfl<;>rfl))
def M0{x:V}{d:D}{t:String}(h:DX O K H x d)(e:xD d=M t):V5 K H x t:=by
 cases d with
 |none=>ext e;ext h;rfl
 |bool b=>ext e;ext h;rfl
 |int b=>ext e;ext h;rfl
 |str b=>ext e;ext h;rfl
 |dict b=>ext e
 |list ds=>ext e;let(a,xs,rfl,f,_):=BN h;show .inl #[W,xs,f.sq]
 |tuple ds=>ext e;let(a,xs,rfl,f,_):=DK h;show .inr #[W,xs,f.1]
def Cn(n:String)(b:FE):FE:=λY=>(b Y).bind λa=>(Res.X8 (x5 a.2 a.1)).bind λd=>(Res.X8 (xD d)).bind λt=>.ok (.fz (.bool (zj n t)),a.2)
def Oz{n:String}{c:TE}{j:FE}(k:n= "int"\/n= "bool"\/n= "str"\/n= "list"\/n= "tuple")(l:EO K E c j):EO K E (tR (Ie K) (df c (df (tC (.ty n)) gJ))) (Cn n j):=by intro B X O T H Y Q R w;show l B X O T H Y _ R (w.bind.imp λa b h x i e1 f g=>?_);let(d,q,b):=b.X8;let(t,e,b):=b.X8;show#[x,n,t,zj n t,W,M0 (oZ f g q) e,A8 k e,b h _ i e1 f (.bl _)]
end
def Cg{P:Xx}{w:XU}{K:CL}{D m:Str->bt U}{k:Nat}{T a:Xa}{fd:Yj}{x:Str}{F:FN}{b:Xd}{c:bg U}{f:bg Int}
  (q:K.In b.heap) (g:b.heap.Ns Xy D) (A:b.heap.Ns builtinsNs m) (i:∀x:Str,x≠ "__name__"->m x=Ya x) (j:b.heap.NoLimit) (y:b.gens= #v[])
  (N:b.heap.get? a=M {cls:=.type "list",data:=.seq c.toArray}) (V:IntsAre c f) (p:f.length<=Xl) (t:Y4 k callerA)
  (I:∀base:Heap,K.In base->base.Ns Xy D->FnOk P w K D base kQ k T fd [x] (Cu K 1 F)) (l:∀(s:Xd) (u:U),abk s fd #[[u],[]] [(x,u)])
  (C:F [.list (f.map .int)]=.ok (.fz (.bool S))):
  codeAny (model P w) callerA (.call (.ref T) #[[.ref a],[]]) (λr d=>r=.ok (.ret (.bool S))/\OldK b.heap d.heap/\d.os=b.os/\AllBare d.gens) b:=by
 show GB (sp:=λc H Q E=>Cu K 1 F c H Q E\/(c.length=1/\False)) q g A i j y N V p t (λbase k1 k2=>(I base k1 k2).imp λc H Q E h=>?_) l (λH J B=>?_) λ_ _ _ h=>h
 .rcases h with h|h
  .show h
  .show h.2.elim
 .show .inl #[W,noO,[.list (f.map .int)],λa z=>z.elim,.cons (.lst #[?_,λz=>z.elim] (ro f)) .nil,?_]
  .rcases B with h|⟨o,X6,n,h1,h2,h3,Y,h5,X⟩
   .show .inl h
   .let e:=q a o h1;rw[N]at e;ext e;ext Y;show .inr #[c,0,h1,by rw[W5];show p,by simpa using X]
  .rw[C];show λv L s G=>by ext G;rfl
def Um{l:aeN}{n k:Nat}{q:Xx}{i:bg Str}{O:(Str->bt W2)->Heap->Prop}{B:XU->Heap->Prop}{d:DefRec}{K:Params->CL}{F:FN}{x:Str}
  (z:l.most=cL n) (m:n<=Xl) (r:d.params.defaults=[]) (E:Y4 k callerA)
  (L:∀(w:XU) (h:Heap),B w h->(K w.params).In h)
  (P:∀(w:XU) (b:Str->bt W2) (c:Xa) (h:Heap),(K w.params).In h->h.Ns Xy b->b d.name=cL (.ref c)->
   ∃fd:Yj,(∀(s:Xd) (u:W2),abk s fd #[[u],[]] [(x,u)])/\∀base:Heap,(K w.params).In base->base.Ns Xy b->FnOk l.prog w (K w.params) b base kQ k c fd [x] (Cu (K w.params) 1 F))
  (M:∀ns:bg Int,ns.length<=n->F [.list (ns.map .int)]=.ok (.fz (.bool W3))):
  PySem.W.WalkO q i O B l.row.toRowW d [] (λf g=>ahZ f g):=by
 show Att.attach_call z r λw A y b R c o Q X N a g ns G Y S U I p v j e H=>?_;let C:=L w _ Y;let(fd,J,t):=P w b c _ C G.T.g p;show Cg C G.T.g G.T.b G.T.builtins G.T.nolimit H v j (XX e m) E t J (M ns e)
def V3{P:Xx}{w:XU}{K:CL}{d:Str->I U}{base:Heap}{x a:Str}{st:YQ}{f:J}{fd:Yj}{N c:G Str}{k n m:Nat}{g:FS}{e:FN}(F:Fun K x a st f fd)(S:Zm N c (au st))(j:c.length=n)(hm:N.length=m)(h:e=fD m g)
  (i:∀(b:U) (A:XO) (outer:G Env) (s:Xd) (H:Hp) (E:XK),Y4 k (A.deeper (X0 a (au st) s.heap.objs.size f b))->
   ∃t,PSs (fC kQ P w K d base N a (au st) f b A outer s H E).nox (bW st) t/\SO K E t g):FnOk P w K d base kQ (k+1) f fd c (Cu K n e):=by
 subst h hm;show Wd F S j i
abbrev Vb(P:Xx)(w:XU)(K:CL)(b:Str->I U)(base:Heap)(k:Nat)(x:Str)(a:G Str)(n:Nat)(F:FN):Prop:=wS P w K b base k x a (Cu K n F)
end L3
namespace L3
open PySem L2
abbrev nd(n:Nat):D:=.int (n:Int)
def aZ(a:G Nat):G D:=a.map nd
def dr(a:G Nat):(aZ a).length=a.length:=by ext aZ;rw[W5]
def Kk(xs ys:G Nat):aZ (xs++ys)=aZ xs++aZ ys:=by ext aZ;rw[XQ]
def pU{i:Nat}(h:(aZ ns)[i]?=M d):∃n,ns[i]?=M n/\d=nd n:=by
 unfold aZ at h;rw[Xj]at h;cases e:ns[i]? with
 |none=>rw[e]at h;ext h
 |some n=>rw[e]at h;show#[n,W,(Xm h).symm]
theorem aJ(a:α):Res.X8 (M a)=.ok a:=W
theorem wK(a:α):jD (Res.ok a)=.ok a:=W
theorem yT(i:Nat)(a:aQ):ad i a=Ax a i a[i]? :=W
theorem EE(a:aQ)(i:Nat)(d:D):Ax a i (M (M (.fz d)))=.ok (.fz d,a):=W
theorem GP(a:aQ)(i:Nat)(ds:G D):Ax a i (M (M (.ow ds)))=.ok (.pl i,a):=W
theorem ox(ds:G D):FJ (M (M (.ow ds)))=M ds:=W
theorem Ih(i:Nat)(d:D)(a:aQ):gN i (.fz d) a=.ok (a.set i (M (.fz d))):=W
theorem A6(i:Int):Vz (.int i)=M i:=W
theorem wJ(b:Bool):Vx (.bool b)=M b:=W
theorem jX(ds:G D):dY [.tuple ds]=M (.fz (nd ds.length)):=W
theorem iP(ds:G D):dY [.list ds]=M (.fz (nd ds.length)):=W
theorem nX(i j:Int):QV (.int i) (.int j)=M (.fz (.bool (decide (i<j)))):=W
theorem wP(i j:Int):DF (.int i) (.int j)=M (.fz (.bool (decide (j<i)))):=W
theorem Be(i j:Int):UM (.int i) (.int j)=M (.fz (.bool (decide (j<=i)))):=W
theorem eW(i j:Int):bO (.int i) (.int j)=M (.fz (.int (i+j))):=W
theorem zr(i j:Int):sO (.int i) (.int j)=M (.fz (.int (i - j))):=W
def vY(h:0<j):qC (.int i) (.int j)=M (.fz (.int (i % j))):=by show(if Qt i j=S then _ else _)=_;rw[ax (show Qt i j=S from a5 h)]
def IG(h:0<j/\j<2^128):yg (.int i) (.int j)=M (.fz (.int (i/j))):=by show(if QU i j=S then _ else _)=_;rw[ax (show QU i j=S from a5 h)]
def Kz(h: -(2^64)<i/\i<2^64):B6 (.int i) (.int j)=M (.fz (.int (i*j))):=by show(if(gM i||gM j)=S then _ else _)=_;rw[ax (by rw[show gM i=S from a5 h,aam])]
def Jk(h: -(2^64)<j/\j<2^64):B6 (.int i) (.int j)=M (.fz (.int (i*j))):=by show(if(gM i||gM j)=S then _ else _)=_;rw[ax (by rw[show gM j=S from a5 h,aaU])]
def Jx(h:kr j):kR [.int j]=M (gu 0 j.toNat):=by show(if kr j then _ else _)=_;rw[ax h]
def Hc(n:Nat):gu 0 n=aZ (Xq n):=by unfold gu aZ;apply ZM;intro k _;rw[Int.zero_add]
def pW(h:n<=1000000):kR [nd n]=M (aZ (Xq n)):=by rw[Jx (by ext kr;ext),Hc,Yr]
def D7(h:f C=.ok (.nx o)):bM f g C=g o:=by ext bM;rw[h];rfl
def Fc(h:f o=.ok (.rt C)):bM f g o=.ok (.rt C):=by ext bM;rw[h];rfl
def U3(h:c C=.ok (S,o)):nk c f g C=f o:=by ext nk;rw[h];rfl
def UT(h:c C=.ok (R,o)):nk c f g C=g o:=by ext nk;rw[h];rfl
def yz(h:fi C=.ok (ds,o)):sL fi gt b C=pK gt b ds o:=by ext sL;rw[h];rfl
def jI(gt:FG)(f:FT)(g:FE)(d:D)(c:aQ):Res (I D×aQ):=(gt (.fz d) c).bind λe=>(f e).bind λb=>if b.1=S then(g b.2).bind λa=>(Res.X8 (xA a.2 a.1)).bind λx=>.ok (M x.1,cH x.2)else .ok (P,cH b.2)
def qM(h:jI gt ft fe d ρ=.ok (o,C))(g:acc.length<1000000):cV gt ft fe (d::r) ρ acc=cV gt ft fe r C (acc++o.toList):=by
 unfold jI at h;show(gt (.fz d) ρ).bind _=_;cases l:gt (.fz d) ρ with
 |er x=>rw[l]at h;ext h
 |bad=>rw[l]at h;ext h
 |ok f=>
  rw[l,d0]at h;rw[d0];cases j:ft f with
  |er x=>rw[j]at h;ext h
  |bad=>rw[j]at h;ext h
  |ok b=>
   let(b,e):=b;rw[j,d0]at h;rw[d0];cases b with
   |false=>rw[a4 Xs]at h⊢;ext h;rw[aei,X5]
   |true=>
    rw[ax W]at h⊢;cases i:fe e with
    |er x=>rw[i]at h;ext h
    |bad=>rw[i]at h;ext h
    |ok a=>
     rw[i,d0]at h;rw[d0];cases m:xA a.2 a.1 with
     |none=>rw[m]at h;ext h
     |some x=>rw[m]at h;ext h;show(if acc.length<1000000 then _ else _)=_;rw[ax g];rfl
def EA(a b:Nat):decide ((a:Int)=(b:Int))=decide (a=b):=by
 by_cases h:a=b
 .rw[a5 h,a5 (by rw[h])]
 .rw[a6 h,a6 ()]
theorem Iq(a b:Nat):Xe.eqv (nd a) (nd b)=decide (a=b):=EA a b
def jr(a b:Int):cK (.int a) (.int b)=M (.fz (.bool (decide (a=b)))):=by rfl
def wa(a b:Int):pO (.int a) (.int b)=M (.fz (.bool (!decide (a=b)))):=by rfl
def zB(a b:Nat):cK (nd a) (nd b)=M (.fz (.bool (decide (a=b)))):=by rw[jr,EA]
theorem je:∀ns:G Nat,Xe.canLayAll0 (aZ ns)=S
 |[]=>rfl
 |n::r=>by show(Xe.canLay0 (nd n)&&Xe.canLayAll0 (aZ r))=S;rw[je r];rfl
theorem lZ:∀ns:G Nat,Xe.depthAll (aZ ns)=0
 |[]=>rfl
 |n::r=>by show max (Xe.depth (nd n)) (Xe.depthAll (aZ r))=0;rw[lZ r];rfl
theorem vv:∀xs ys:G Nat,Xe.eqvAll (aZ xs) (aZ ys)=decide (xs=ys)
 |[],[]=>rfl
 |[],_::_=>rfl
 |_::_,[]=>rfl
 |n::r,m::t=>by show(Xe.eqv (nd n) (nd m)&&Xe.eqvAll (aZ r) (aZ t))=_;rw[vv r t,Iq];rw[afO];simp
def Qf(a:G Nat):kq (.list (aZ a))=S:=by show(Xe.canLayAll0 (aZ a)&&decide (Xe.depthAll (aZ a)+1<=64))=S;rw[je,lZ];rfl
def vE(xs ys:G Nat):cK (.list (aZ xs)) (.list (aZ ys))=M (.fz (.bool (decide (xs=ys)))):=by ext cK;rw[Qf,show Xe.canLay0 (.list (aZ ys))=S from je ys,Y1,ax W,show Xe.eqv (.list (aZ xs)) (.list (aZ ys))=_ from vv xs ys]
def Mh(x:Nat)(xs:G Nat):((aZ xs).any λe=>Xe.eqv e (nd x))=decide (x∈xs):=by
 induction xs with
 |nil=>rfl
 |cons y r a=>
  show(Xe.eqv (nd y) (nd x)||(aZ r).any λe=>Xe.eqv e (nd x))=_;rw[a,Iq];by_cases h:y=x
  .rw[a5 h,a5 (show x∈y::r by rw[h];show Xb),aam]
  .rw[a6 h,abx]
   by_cases g:x∈r
   .rw[a5 g,a5 (Xf _ g)]
   .rw[a6 g,a6 (λz=>(Xw.mp z).elim (λe=>h e.symm) g)]
def vn(x:Nat)(xs:G Nat):IK (nd x) (.tuple (aZ xs))=M (.fz (.bool (decide (x∈xs)))):=by show(if(kq (nd x)&&Xe.canLayAll0 (aZ xs))=S then _ else _)=_;rw[je,show kq (nd x)=S from rfl,Y1,ax W,Mh]
theorem EN{i:Nat}(h:xs[i]?=M v):lh xs (i:Int)=M v:=Av h
def Rm(h:ds[i]?=M d):bf (.tuple ds) (nd i)=M (.fz d):=by show(lh ds (i:Int)).map RV.fz=_;rw[EN h];rfl
def WL(h:ds[i]?=M d):bf (.list ds) (nd i)=M (.fz d):=by show(lh ds (i:Int)).map RV.fz=_;rw[EN h];rfl
section
variable{Y ρ1 Z X:aQ}{T L B Q:FE}{pa E pv:PV}{dx C d:D}{rv:RV}{N:bg PV}{ds:bg D}
def af(h:Y[i]?=M (M (.fz d))):ad i Y=.ok (.fz d,Y):=by rw[yT,h,EE]
def lw(h:Y[i]?=M (M (.ow ds))):ad i Y=.ok (.pl i,Y):=by rw[yT,h,GP]
theorem aw:pC d Y=.ok (.fz d,Y):=W
def aD(c:T Y=.ok (pa,ρ1))(g:L ρ1=.ok (E,Z))(b:x5 Z (bN pa)=M dx)(a:x5 Z E=M C)(e:f dx C=M rv):aA f T L Y=.ok (rv.pv,Z):=by ext aA;rw[c,d0,g,d0,b,aJ,d0,a,aJ,d0,e,aJ,d0]
def bh(c:T Y=.ok (pa,ρ1))(a:x5 ρ1 pa=M (.bool b)):az T Y=.ok (b,ρ1):=by ext az;rw[c,d0,a,aJ,d0,wJ,aJ,d0]
def AR(c:f Y=.ok (a,ρ1))(e:a=S->g ρ1=.ok (b,ρ1)):sM f g Y=.ok (a&&b,ρ1):=by
 ext sM;rw[c,d0];cases a with
 |true=>rw[ax W,e W,aby]
 |false=>rw[a4 Xs,acH]
def BU(b:f Y=.ok (a,ρ1)):C1 f Y=.ok (!a,ρ1):=by ext C1;rw[b,d0]
theorem av:am Y=.ok ([],Y):=W
def ah(b:T Y=.ok (pa,ρ1))(a:fr ρ1=.ok (N,Z)):aa T fr Y=.ok (bN pa::N,Z):=by ext aa;rw[b,d0,a,d0]
def fY(b:fr Y=.ok (N,ρ1))(hd:sD ρ1 N=M ds)(a:f ds=M rv):hG f fr Y=.ok (rv.pv,ρ1):=by ext hG;rw[b,d0,hd,aJ,d0,a,aJ,d0]
def cg(c:fr Y=.ok (N,ρ1))(hd:pJ ρ1 N=M (ds,Z))(b:ds.length=n)(a:F ds=.ok rv):b6 F n fr Y=.ok (rv.pv,Z):=by ext b6;rw[c,d0,hd,aJ,d0];dsimp only;rw[ax b,a,wK,d0]
def bq(b:fr Y=.ok (N,ρ1))(hd:pJ ρ1 N=M (ds,Z))(a:ds.length<=1000):aU fr Y=.ok (.fz (.tuple ds),Z):=by ext aU;rw[b,d0,hd,aJ,d0];dsimp only;rw[ax a]
def lW(b:fr Y=.ok (N,ρ1))(hd:pJ ρ1 N=M (ds,Z))(a:ds.length<=1000):dC fr Y=.ok (.ow ds,Z):=by ext dC;rw[b,d0,hd,aJ,d0];dsimp only;rw[ax a]
def DY(c:T Y=.ok (pa,ρ1))(a:x5 ρ1 pa=M dx)(b:xD dx=M t):Cn n T Y=.ok (.fz (.bool (zj n t)),ρ1):=by ext Cn;rw[c,d0,a,aJ,d0,b,aJ,d0]
theorem rC:o0 Y=.ok (P,Y):=W
def gS(b:T Y=.ok (pa,ρ1))(a:x5 ρ1 pa=M (.int i)):gY T Y=.ok (M i,ρ1):=by ext gY;rw[b,d0,a,aJ,d0,A6,aJ,d0]
def xQ(c:T Y=.ok (pa,ρ1))(b:fl ρ1=.ok (lo,Z))(e:fh Z=.ok (o,X))(a:x5 X (bN pa)=M dx)(g:f dx lo o=M rv):DH f T fl fh Y=.ok (rv.pv,X):=by ext DH;rw[c,d0,b,d0,e,d0,a,aJ,d0,g,aJ,d0]
def Ff(g:Y[i]?=M (M (.ow es)))(c:Q Y=.ok (pa,ρ1))(b:xA ρ1 pa=M (d,Z))(f:Z[i]?=M (M (.ow ds)))(e:ds.length<1000000)(a:Z.set i (M (.ow (ds++[d])))=x):Ch i Q Y=.ok (.fz .none,x):=by ext Ch;rw[g,ox,aJ,d0,c,d0,b,aJ,d0];dsimp only;rw[f,ox,aJ,d0,ax e,a]
def cY(c:fi Y=.ok (ds,ρ1))(b:tj ρ1 o=M (cs,Z))(a:jD (cV gt ft Q ds (Xk n P++cs.map λd=>M (.fz d)) [])=.ok xs):dQ n o fi gt ft Q Y=.ok (.ow xs,Z):=by ext dQ;rw[c,d0];dsimp only;rw[b,aJ,d0];dsimp only;rw[a,d0]
def PL(a:c Y=.ok (S,ρ1))(h:T ρ1=.ok (pv,Z)):NA c T L Y=.ok (pv,Z):=by ext NA;rw[a,d0,ax W,h]
def Re(a:c Y=.ok (R,ρ1))(h:L ρ1=.ok (pv,Z)):NA c T L Y=.ok (pv,Z):=by ext NA;rw[a,d0,a4 Xs,h]
theorem iH:bf (.tuple (a::r)) (.int 0)=M (.fz a):=Rm W
theorem jJ:bf (.tuple (a::b::r)) (.int 1)=M (.fz b):=Rm W
theorem nO:bf (.tuple (a::b::c::r)) (.int 2)=M (.fz c):=Rm W
def Ow(b:k<=1000)(a:xs.length<=1000):B6 (.list xs) (nd k)=M (.ow (Xk k xs).flatten):=by show(if xs.length*((k:Nat):Int).toNat<=1000000/\ -(2^63)<=(k:Int)/\(k:Int)<2^63 then M (RV.ow (Xk ((k:Nat):Int).toNat xs).flatten)else P)=_;rw[Yr,ax #[XX (acR a b) (),by ext,by ext]]
def gI(c:Q Y=.ok (pa,ρ1))(a:xA ρ1 pa=M (d,Z))(b:eP d=M es):iW Q Y=.ok (es,Z):=by ext iW;rw[c,d0,a,aJ,d0];dsimp only;rw[b,aJ,d0]
def JZ(b:fr Y=.ok (N,ρ1))(hd:sD ρ1 N=M ds)(a:f ds=M es):pI f fr Y=.ok (es,ρ1):=by ext pI;rw[b,d0,hd,aJ,d0,a,aJ,d0]
def yH(b:Q Y=.ok (pv,ρ1))(a:g pv ρ1=.ok Z)(c:Z=X):dX Q g Y=.ok (.nx X):=by ext dX;rw[b,d0];dsimp only;rw[a,d0,c]
def AX(a:Q Y=.ok (pv,ρ1)):sA Q Y=.ok (.nx ρ1):=by ext sA;rw[a,d0]
def uZ(b:Q Y=.ok (pv,ρ1))(a:Dm ρ1 pv=M rv):dA Q Y=.ok (.rt rv):=by ext dA;rw[b,d0];dsimp only;rw[a,aJ,d0]
def wT(e:gt (.fz d) Y=.ok ρ1)(b:ft ρ1=.ok (S,Z))(g:Q Z=.ok (pv,X))(a:xA X pv=M (x,ρ4))(f:cH ρ4=o):jI gt ft Q d Y=.ok (M x,o):=by ext jI;rw[e,d0,b,d0,ax W,g,d0,a,aJ,d0,f]
def PZ(b:gt (.fz d) Y=.ok ρ1)(a:ft ρ1=.ok (R,Z))(e:cH Z=o):jI gt ft Q d Y=.ok (P,o):=by ext jI;rw[b,d0,a,d0,a4 Xs,e]
end
end L3
namespace PySem
open Sem (wp)
open Builtin
open AutoSeq1 (wpAny_loadPart')
theorem nw:fillsNumberSlot (.type "tuple") "mul"=pure R:=
 fillsNumberSlot_seq F.slot_tuple_mul.lookup (by left) F.slot_tuple_rmul.lookup (by left)
def uN:seqRepeat? (.type "tuple")=pure (M (.builtin "tuple.__mul__")):=by unfold seqRepeat?;rw[seqSlot_of (name:= "__mul__") F.slot_tuple_mul.lookup (by left),seqSlot_of (name:= "__rmul__") F.slot_tuple_rmul.lookup (by left)];rfl
theorem r9(a:Int)(t:Tok)(l:J)(b:Array U)(n:Nat)(dct:I J)(f:Array (I U)):
  Meets (XS.«int.__rmul__» #[[.int a t,.ref l],[]]) (λ_ R s=>s.heap.get? l=M {cls:=.type "tuple",dict:=dct,data:=.seq b n,slots:=f}/\R (.ok (.ret W2.notImplemented)) s):=
 .of_wp λe w A R s h=>by let(m,g,d,i,j):=s;let(o,h):=h;wp_walk;show#[_,W,h]
theorem x4(l:J)(a:Array U)(n:Nat)(dct:I J)(e:Array (I U))(u:Tok):
  Meets (XS.«tuple.__mul__» #[[.ref l,.int 1 u],[]]) (λ_ R s=>s.heap.get? l=M {cls:=.type "tuple",dict:=dct,data:=.seq a n,slots:=e}/\R (.ok (.ret (W2.ref l))) s):=
 .of_wp λb w A R s h=>by
  let(j,g,d,f,i):=s;let(m,h):=h
  wp_walk
  show#[_,W,h]
theorem xn(l:Xa)(a:Array U)(n:Nat)(dct:bt Xa)(j:Array (bt U))(x:Int)(u:Tok)(J:2<=x)(r:x<=1000)(e:a.isEmpty=W7)(z:a.size<=1000):
  Meets (XS.«tuple.__mul__» #[[.ref l,.int x u],[]]) (λ_ R s=>s.heap.get? l=M {cls:=.type "tuple",dict:=dct,data:=.seq a n,slots:=j}/\R (.ok (.ret (W2.ref s.heap.objs.size))) {s with heap:=s.heap.push {cls:=W2.type "tuple",data:=Data.seq (aaT (λk c=>k++c) #v[] (Xk x.toNat a))},toks:=s.toks}):=
 .of_wp λf w A R s h=>by
  let(H,g,d,F,G):=s;let(q,h):=h;let E:¬(decide (x< -(2^63))||decide (x≥2^63))=S:=by simp;ext
  let C:(x==1)=W7:=by simp;ext
  let B:decide (x<=0)=W7:=by simp;ext
  let L:(a.isEmpty||x==1)=W7:=by rw[e,C];rfl
  let K:(decide (x<=0)||a.isEmpty)=W7:=by rw[e,B];rfl
  let i:(a.size:Int)*x<=1000000:=by let:(a.size:Int)*x<=1000*1000:=Int.mul_le_mul () r () ();ext
  let y:¬(a.size:Int)*x>(2^63 - 1)/8:=by ext
  let v:¬Tuple.tupleTooMany ((a.size:Int)*x)=S:=by
   ext Tuple.tupleTooMany;simp;let:(Xl:Nat)=16777216:=by decide
   ext
  wp_walk
  rw[a4 E]
  wp_walk using wpAny_loadPart' q
  rw[a4 y];dsimp only;rw[a4 v];let p:(aaT (λk c=>k++c) #v[] (Xk x.toNat a)).size<=Xl:=by
   let t:∀(m:Nat) (b:Array U),(aaT (λk c=>k++c) b (Xk m a)).size=b.size+m*a.size:=by
    intro m
    induction m with
    |zero=>intro b;simp
    |succ m o=>intro b;rw[Yp,aa0,o,Array.size_append,ahY];ext
   rw[t];let I:x.toNat*a.size<=1000*1000:=acR () z;let:(Xl:Nat)=16777216:=by decide
   simp;ext
  wp_walk
  show#[_,W,h]
end PySem
namespace L3
open PySem PySem.Spec PyProof.Rows L2
def NK(K:CL):R2:=λx y H Q=>∃(a:J) (k:Nat) (xs:G V),x=.ref a/\y=.int (k:Int)/\SqT K H a xs/\xs≠[]/\1<=k/\k<=1000/\xs.length<=1000/\
 (k=1->Q (.ref a) H)/\(2<=k->∀p,H p=P->Q (.ref p) (aR H p (.tup (Xk k xs).flatten)))
def Lm:OpR X (Zp .Mult) (NK X.K):=by
 intro j s S H x y v u Q I E C h;let(a,k,xs,rfl,rfl,L,i,Z,P,N,J,G):=h;ext E;let(t,rfl):=C;let(f,r,M,Y):=I.tuple L;let((cls,dd,p,g),e,o,n,m):=id M;simp only at o m;subst o m;let l:=r.length;show aeh () #[_,e,W] (λB=>ack B k t) nw F.fills_int_mul F.slot_int_rmul uN F.slot_int_index.lookup
  (aaM F.slot_int_rmul (ack s k t) F.entry_int_rmul (F.args_int_rmul_2 _ _) (r9 k t a f.toArray n dd g) #[e,W,#[_,e,W],?_])
 by_cases O:k=1
 .subst O;show aaM F.slot_tuple_mul #[_,e,W] F.entry_tuple_mul (F.args_tuple_mul_2 _ _) (x4 a f.toArray n dd g t) #[e,#[.ref a,H,I,W,J W]]
 .show aaM F.slot_tuple_mul #[_,e,W] F.entry_tuple_mul (F.args_tuple_mul_2 _ _) (xn a f.toArray n dd g k t () () ?_ (by rw[Xr];ext)) #[e,?_]
  .cases f with
   |nil=>ext r;show bb W i
   |cons y T=>rfl
  .let R:aaT (λA w=>A++w) #v[] (Xk ((k:Nat):Int).toNat f.toArray)=(Xk k f).flatten.toArray:=by
    let:=nK f k [];rw[acv]at this;rw[Yr];show this
   rw[R];show#[.ref s.heap.objs.size,_,I.laid (λb U q=>b3 _ q) (Xg _) ?_,W,G () _ (I.Yq.fresh (Xg _))];show#[?_,_,r.rep k,ab5.new _ _];rw[zK];show XX (acR P N) ()
def Nf(K:CL):R2:=λx y H Q=>G4 K x y H Q\/NK K x y H Q
theorem Kx:OpR X (Zp .Mult) (Nf X.K):=OpR.or La Lm
def iL:D->D->I RV
 |.tuple xs,.int k=>if xs≠[]/\1<=k/\k<=1000/\xs.length<=1000 then M (.fz (.tuple (Xk k.toNat xs).flatten))else P
 |d,e=>B6 d e
def Iw{K:CL}:kZ K (Nf K) iL:=by
 intro O H x y o j l Q n g f e q;unfold iL at e;split at e
 .rename_i ds k
  split at e
  .rename_i h
   ext e;ext f;let(a,xs,rfl,i,b):=DK g;obtain⟨m,rfl⟩:∃m:Nat,k=(m:Int):=#[k.toNat,by ext];rw[Yr]at q;show .inr #[a,m,xs,W,W,i.1,λz=>h.1 (b.ne.mp z),by ext,by ext,by rw[b.length];show h.2.2.2,λe=>?_,λ_=>Fin.afj (b.flat m) n q];subst e;let e1:(Xk 1 ds).flatten=ds:=by simp
   rw[e1]at q;show q.at (.tup i b)
  .ext e
 .show .inl (Ji O H x y o j l Q n g f e q)
end L3
namespace PySem
open Sem (wp)
open Builtin Builtin.Str
def itAt:Bool->Heap->J->J->Nat->Prop
 |true,h,it,a,i=>h.IsTupleIter it a i
 |false,h,it,a,i=>h.IsListIter it a i
def sqAt:Bool->Heap->J->Array U->Prop
 |true,h,a,xs=>h.IsTuple a xs
 |false,h,a,xs=>h.IsList a xs
def wz:Bool->String
 |true=> "tuple_iterator"
 |false=> "list_iterator"
def itAt.ext(x:itAt b h it a i)(e:Heap.ExtBut c h h')(n:it≠c):itAt b h' it a i:=by
 cases b with
 |true=>show Heap.IsTupleIter.extBut x e n
 |false=>show Heap.IsListIter.extBut x e n
def itAt.to(x:itAt b h it a i)(e:∀o,h.get? it=M o->h'.get? it=M o):itAt b h' it a i:=by
 cases b with
 |true=>show Heap.IsTupleIter.at x e
 |false=>show Heap.IsListIter.at x e
def itAt.live(x:itAt b h it a i):∃o,h.get? it=M o/\∀v,o.data≠.cell v:=by
 cases b with
 |true=>let(o,e,_,d):=(show h.IsTupleIter it a i from x);show#[o,e,λv z=>by rw[d]at z;ext z]
 |false=>let(o,e,_,d):=(show h.IsListIter it a i from x);show#[o,e,λv z=>by rw[d]at z;ext z]
def sqAt.ext(x:sqAt b h a xs)(e:Heap.ExtBut c h h')(n:a≠c):sqAt b h' a xs:=by
 cases b with
 |true=>show Heap.IsTuple.extBut x e n
 |false=>show Heap.IsList.extBut x e n
def sqAt.psh(x:sqAt b h a xs)(o:Obj):sqAt b (h.push o) a xs:=by
 cases b with
 |true=>show Heap.IsTuple.push x o
 |false=>show Heap.IsList.push x o
def sqAt.lt(x:sqAt b h a xs):a<h.objs.size:=by
 cases b with
 |true=>let(o,e,_):=(show h.IsTuple a xs from x);show b4 e
 |false=>let(o,e,_):=(show h.IsList a xs from x);show b4 e
section
variable{prog:Xx}{w:XU}{A:XO}{E:W2->Xd->Prop}{s:Xd}
def uB(d:itAt b s.heap it l i)(e:sqAt b s.heap l xs)(a:xs[i]?=M x)
  (q:∀c,itAt b c it l (i+1)->Heap.SameBut it s.heap c->Q x {s with heap:=c}):wpAny (model prog w) A (SmallTypes.nextOf (.ref it)) Q E s:=by
 cases b with
 |true=>show l9 d e a q
 |false=>show wpAny_nextOf_list_item d e a q
def AY(g:A.handled=P)(d:itAt b s.heap it l i)(f:sqAt b s.heap l xs)(a:xs[i]?=P)
  (q:∀c e,Heap.ExtBut it s.heap c->(∃o,c.get? e=M o/\o.cls=.type "StopIteration")->E (.ref e) {s with heap:=c}):wpAny (model prog w) A (SmallTypes.nextOf (.ref it)) Q E s:=by
 cases b with
 |true=>show nz g d f a q
 |false=>show wpAny_nextOf_list_end g d f a q
def BC(a:sqAt b s.heap l xs)
  (q:Q (.ref s.heap.objs.size) {s with heap:=s.heap.push {cls:=.type (wz b),data:=.fields #v[.ref l,.int 0 0]}}):wpAny (model prog w) A (pyIter (.ref l)) Q E s:=by
 cases b with
 |true=>show abw a q
 |false=>show ZV a q
def CJ{Q:W2->Xd->Prop}(D:acy z TI TO i1 i2 l1 l2)(k:adO s.heap z TI TO .none)
  (hTI:IsPair s.heap TI (.ref i1) (.ref i2)) (hTO:IsPair s.heap TO a b) (h1:itAt b1 s.heap i1 l1 n) (h2:itAt b2 s.heap i2 l2 n) (hl1:sqAt b1 s.heap l1 xs) (V:sqAt b2 s.heap l2 ys) (hx:xs[n]?=cL x) (hy:ys[n]?=cL y)
  (q:∀d,adO d z TI TO (rawInt s.heap.objs.size)->IsPair d TO x y->itAt b1 d i1 l1 (n+1)->itAt b2 d i2 l2 (n+1)->IsPair d s.heap.objs.size x y->d.objs.size=s.heap.objs.size+1->
   (∀c o,c≠z->c≠TO->c≠i1->c≠i2->s.heap.get? c=cL o->d.get? c=cL o)->Q (.ref s.heap.objs.size) {s with heap:=d}):
  wpAny (model prog w) A (XS.«zip.__next__» #[[.ref z],[]]) (λfin s'=>∃v,fin=.done (.ret v)/\Q v s') E s:=by
 show wpAny _ _ (field (.ref z) 2>>=_) _ _ _;show lD (X9 k W W ?_);show wpAny _ _ (field (.ref z) 3>>=_) _ _ _;show lD (X9 k W W ?_);show lD (YG hTI W ?_);show wpAny _ _ (SmallTypes.ownedTupleIsFree (.ref z)>>=_) _ _ _;show lD ?_;ext SmallTypes.ownedTupleIsFree;show lD (X9 k W W (W9 ?_));simp only[if_true];show lD (abl ?_);show lD (X9 k W W ?_);show lD (Zv k (by simp) λk₁ t g=>?_);let afY:=t;clear t;show lD ?_;simp only[afB,afP,aae,abg];show lD (lD (aca ?_));show wpAny _ _ (SmallTypes.nextOf (.ref i1)>>=_) _ _ _;show lD (uB (h1.ext g.extBut D.i1z) (hl1.ext g.extBut D.l1z) hx λk₂ Z i=>W9 ?_);let J:=i.extBut _ _ D.TOi1 (g.extBut _ _ D.TOz hTO);show lD (YG J W ?_);show lD (abK J λk₃ I h=>?_);let M:=I;clear I;show lD (ZO (W9 ?_));show lD (lD (aca ?_));show wpAny _ _ (SmallTypes.nextOf (.ref i2)>>=_) _ _ _;show lD (uB (((h2.ext g.extBut D.i2z).ext i.extBut D.i12.symm).ext h.extBut D.TOi2.symm) (((V.ext g.extBut D.l2z).ext i.extBut D.l2i1).ext h.extBut D.l2TO) hy λk₄ Y l=>W9 ?_);let H:=l.extBut _ _ D.TOi2 M;show lD (YG H W ?_);show lD (abK H λf G j=>?_);let p:IsPair f TO x y:=G;clear G;show lD (ZO (W9 (W9 ?_)));show lD (YG p W ?_);show lD (wpAny_newTuple ?_);let U:f.objs.size=s.heap.objs.size:=by rw[j.1,l.1,h.1,i.1,g.1]
 let C:=j.extBut _ _ D.TOz.symm (l.extBut _ _ D.i2z.symm (h.extBut _ _ D.TOz.symm (i.extBut _ _ D.i1z.symm afY)));let kp:∀c o,c≠z->c≠TO->c≠i1->c≠i2->s.heap.get? c=cL o->f.get? c=cL o:=λc o N c2 c3 c4 e=>
  j.extBut _ _ c2 (l.extBut _ _ c4 (h.extBut _ _ c2 (i.extBut _ _ c3 (g.extBut _ _ N e))))
 let T:=((Z.ext h.extBut D.TOi1.symm).ext l.extBut D.i12).ext j.extBut D.TOi1.symm;let S:=Y.ext j.extBut D.TOi2.symm;let X:=b4 C;show wpAny _ _ (SmallTypes.ownedTupleHandOut (.ref z) (.ref f.objs.size)>>=_) _ _ _;show lD ?_;ext SmallTypes.ownedTupleHandOut;let R:adO (f.push {cls:=.type "tuple",data:=.seq #v[x,y]}) z TI TO .ellipsis:=b3 _ C;show lD (Zv R (by simp) λk₇ P B=>?_);let L:=P;show Zv L (by simp) λr O u=>?_;let m:=O;let up:∀c o,c≠z->f.get? c=cL o->r.get? c=cL o:=λc o N e=>u.extBut _ _ N (B.extBut _ _ N (b3 _ e));let F:=u.extBut _ _ (Yw X) (B.extBut _ _ (Yw X) (b5 _ W));let K:r.objs.size=f.objs.size+1:=by rw[u.1,B.1,cc]
 rw[U]at m F K;show W9 #[_,W,?_];rw[U];show q r m (up _ _ D.TOz p) (T.to λo e=>up _ o D.i1z e) (S.to λo e=>up _ o D.i2z e) F K λc o N c2 c3 c4 e=>up c o N (kp c o N c2 c3 c4 e)
def Eb(T:A.handled=Ld)(D:acy z TI TO i1 i2 l1 l2)(d:adO s.heap z TI TO .none)
  (M:IsPair s.heap TI (.ref i1) (.ref i2)) (L:IsPair s.heap TO a b) (U:itAt b1 s.heap i1 l1 n) (Z:itAt b2 s.heap i2 l2 n) (F:sqAt b1 s.heap l1 xs) (J:sqAt b2 s.heap l2 ys) (O:xs[n]?=Ld\/ys[n]?=Ld)
  (q:∀k e,(∀c o,c≠z->c≠TO->c≠i1->c≠i2->s.heap.get? c=cL o->k.get? c=cL o)->(∃o,k.get? e=cL o/\o.cls=.type "StopIteration")->E (.ref e) {s with heap:=k}):
  wpAny (model prog w) A (XS.«zip.__next__» #[[.ref z],[]]) Q E s:=by
 show wpAny _ _ (field (.ref z) 2>>=_) _ _ _;show lD (X9 d W W ?_);show wpAny _ _ (field (.ref z) 3>>=_) _ _ _;show lD (X9 d W W ?_);show lD (YG M W ?_);show wpAny _ _ (SmallTypes.ownedTupleIsFree (.ref z)>>=_) _ _ _;show lD ?_;ext SmallTypes.ownedTupleIsFree;show lD (X9 d W W (W9 ?_));simp only[if_true];show lD (abl ?_);show lD (X9 d W W ?_);show lD (Zv d (by simp) λS y f=>?_);let H:=y;show lD ?_;simp only[afB,afP,aae,abg];show lD (lD (aca ?_));show wpAny _ _ (SmallTypes.nextOf (.ref i1)>>=_) _ _ _;cases hx:xs[n]? with
 |none=>
  show lD (AY T (U.ext f.extBut D.i1z) (F.ext f.extBut D.l1z) hx λC e g K=>?_);let(I,i,j):=K;let m:=g _ _ D.i1z.symm H;let ne:e≠z:=λt=>by subst t;rw[m]at i;ext i;simp at j
  show Zv m (by simp) λr _ h=>q r e (λc o G _ N _ t=>h.extBut _ _ G (g _ _ N (f.extBut _ _ G t))) #[I,h.extBut _ _ ne i,j]
 |some x=>
  let Y:ys[n]?=Ld:=by
   rcases O with t|t
   .rw[hx]at t;ext t
   .show t
  show lD (uB (U.ext f.extBut D.i1z) (F.ext f.extBut D.l1z) hx λC X g=>W9 ?_);let p:=g.extBut _ _ D.TOi1 (f.extBut _ _ D.TOz L);show lD (YG p W ?_);show lD (abK p λr P h=>?_);show lD (ZO (W9 ?_));show lD (lD (aca ?_));show wpAny _ _ (SmallTypes.nextOf (.ref i2)>>=_) _ _ _;show lD (AY T (((Z.ext f.extBut D.i2z).ext g.extBut D.i12.symm).ext h.extBut D.TOi2.symm) (((J.ext f.extBut D.l2z).ext g.extBut D.l2i1).ext h.extBut D.l2TO) Y λR e v K=>?_);let(I,i,j):=K;let l:=v _ _ D.i2z.symm (h.extBut _ _ D.TOz.symm (g.extBut _ _ D.i1z.symm H));let ne:e≠z:=λt=>by subst t;rw[l]at i;ext i;simp at j
  show Zv l (by simp) λB _ u=>q B e (λc o G c2 N c4 t=>u.extBut _ _ G (v _ _ c4 (h.extBut _ _ c2 (g.extBut _ _ N (f.extBut _ _ G t))))) #[I,u.extBut _ _ ne i,j]
end
section
variable{Y:Xx}{w:XU}{A:XO}{E:W2->Xd->Prop}{s:Xd}
def wv(D:acy z TI TO i1 i2 l1 l2)(k:adO s.heap z TI TO .none)
  (h:IsPair s.heap TI (.ref i1) (.ref i2)) (g:IsPair s.heap TO a b) (p:itAt b1 s.heap i1 l1 n) (m:itAt b2 s.heap i2 l2 n) (f:sqAt b1 s.heap l1 xs) (e:sqAt b2 s.heap l2 ys) (l:xs[n]?=M x) (j:ys[n]?=M y)
  (q:∀d,adO d z TI TO (rawInt s.heap.objs.size)->IsPair d TO x y->itAt b1 d i1 l1 (n+1)->itAt b2 d i2 l2 (n+1)->IsPair d s.heap.objs.size x y->d.objs.size=s.heap.objs.size+1->
   (∀c o,c≠z->c≠TO->c≠i1->c≠i2->s.heap.get? c=M o->d.get? c=M o)->Q (M (.ref s.heap.objs.size)) {s with heap:=d}):
  wpAny (model Y w) A (pyNext (.ref z)) Q E s:=by
 let i:s.TypeIs (.ref z) "zip":=#[_,k,W];ext pyNext;show lD (acb (Yn i F.slot_zip_next ?_));show Yt F.slot_zip_next i F.entry_zip_next (CJ D k h g p m f e l j λd G C B v u t r=>W9 (q d G C B v u t r)) (F.args_zip_next_1 _)
def wD(r:A.handled=P)(D:acy z TI TO i1 C l1 l2)(k:adO s.heap z TI TO .none)
  (i:IsPair s.heap TI (.ref i1) (.ref C)) (h:IsPair s.heap TO a b) (y:itAt b1 s.heap i1 l1 n) (v:itAt b2 s.heap C l2 n) (g:sqAt b1 s.heap l1 xs) (f:sqAt b2 s.heap l2 ys) (j:xs[n]?=P\/ys[n]?=P)
  (q:∀d,(∀c o,c≠z->c≠TO->c≠i1->c≠C->s.heap.get? c=M o->d.get? c=M o)->Q P {s with heap:=d}):wpAny (model Y w) A (pyNext (.ref z)) Q E s:=by
 let l:s.TypeIs (.ref z) "zip":=#[_,k,W];ext pyNext;show lD (acb (Yn l F.slot_zip_next ?_));show Yt F.slot_zip_next l F.entry_zip_next (Eb r D k i h y v g f j λd e p t=>?_) (F.args_zip_next_1 _);let(o,m,u):=t;show lD (aai #[o,m,u] akl (W9 (q _ p)))
end
abbrev TK(h:Heap)(b:Bool)(a:J):Heap:=h.push {cls:=.type (wz b),data:=.fields #v[.ref a,.int 0 0]}
abbrev Tx(h:Heap)(f e:Bool)(b a:J):Heap:=(TK h f b).push {cls:=.type (wz e),data:=.fields #v[.ref a,.int 0 0]}
abbrev Tw(h:Heap)(b f:Bool)(a e:J):Heap:=(Tx h b f a e).push {cls:=.type "tuple",data:=.seq #v[.ref h.objs.size,.ref (TK h b a).objs.size]}
abbrev RL(h:Heap)(f e:Bool)(b a:J):Heap:=(Tw h f e b a).push {cls:=.type "tuple",data:=.seq #v[.none,.none]}
abbrev Vq(h:Heap)(f e:Bool)(b a:J):Heap:=(RL h f e b a).push {cls:=.type "zip",data:=.fields #v[.none,.bool R,.bool R,.ref (Tx h f e b a).objs.size,.ref (Tw h f e b a).objs.size]}
theorem qS(e f:Bool)(a b:J)(xs ys:Array U):
  Meets (XS.«zip.__new__» #[[.type "zip",.ref a,.ref b],[]]) (λ_ R s=>sqAt e s.heap a xs/\sqAt f s.heap b ys/\R (.ok (.ret (.ref (RL s.heap e f a b).objs.size))) {s with heap:=Vq s.heap e f a b}):=
 .of_wp λo w A R s h=>by
  let(q,g,d,n,p):=s;let(j,i,h):=h;let r:=sub_zip;let m:sqAt e (Xd.heap #[q,g,d,n,p]) a xs:=j;let l:sqAt f (Xd.heap #[q.push {cls:=.type (wz e),data:=.fields #v[.ref a,.int 0 0]},g,d,n,p]) b ys:=sqAt.psh i _
  wp_walk using BC m,BC l
  show#[_,W,h]
section
variable{Y:Xx}{w:XU}{A:XO}{E:W2->Xd->Prop}{s:Xd}
def Ee(e:h.get? it=M {cls:=.type (wz b),data:=.fields #v[.ref l,.int 0 0]}):itAt b h it l 0:=by
 cases b with
 |true=>show#[_,e,W,W]
 |false=>show#[_,e,W,W]
def Dk(l:sqAt b1 s.heap l1 xs)(j:sqAt b2 s.heap C ys)
  (q:∀d,adO d (s.heap.objs.size+4) (s.heap.objs.size+2) (s.heap.objs.size+3) .none->IsPair d (s.heap.objs.size+2) (.ref s.heap.objs.size) (.ref (s.heap.objs.size+1))->
   IsPair d (s.heap.objs.size+3) .none .none->itAt b1 d s.heap.objs.size l1 0->itAt b2 d (s.heap.objs.size+1) C 0->(∀c o,s.heap.get? c=M o->d.get? c=M o)->Q (.ref (s.heap.objs.size+4)) {s with heap:=d}):
  wpAny (model Y w) A (call (.type "zip") [.ref l1,.ref C]) Q E s:=by
 show callType_new F.called_zip () (F.typeCall_zip_2 _ _) (F.newCall_zip_2 _ _) (λobj=>F.args_object_init_3 obj _ _) F.entry_zip_new (qS b1 b2 l1 C xs ys) #[l,j,?_];let i:(TK s.heap b1 l1).objs.size=s.heap.objs.size+1:=cc ..;let h:(Tx s.heap b1 b2 l1 C).objs.size=s.heap.objs.size+2:=by rw[cc,i]
 let g:(Tw s.heap b1 b2 l1 C).objs.size=s.heap.objs.size+3:=by rw[cc,h]
 let p:(RL s.heap b1 b2 l1 C).objs.size=s.heap.objs.size+4:=by rw[cc,g]
 let v:∀c o,s.heap.get? c=M o->(TK s.heap b1 l1).get? c=M o:=λc o e=>b3 _ e;let n:∀c o,(TK s.heap b1 l1).get? c=M o->(Tx s.heap b1 b2 l1 C).get? c=M o:=λc o e=>b3 _ e;let f:∀c o,(Tx s.heap b1 b2 l1 C).get? c=M o->(Tw s.heap b1 b2 l1 C).get? c=M o:=λc o e=>b3 _ e;let b:∀c o,(Tw s.heap b1 b2 l1 C).get? c=M o->(RL s.heap b1 b2 l1 C).get? c=M o:=λc o e=>b3 _ e;let a:∀c o,(RL s.heap b1 b2 l1 C).get? c=M o->(Vq s.heap b1 b2 l1 C).get? c=M o:=λc o e=>b3 _ e;let m:(Vq s.heap b1 b2 l1 C).get? (RL s.heap b1 b2 l1 C).objs.size=M _:=b5 _ W;let r:=a _ _ (b5 _ W);let t:=a _ _ (b _ _ (b5 _ W));let u:=a _ _ (b _ _ (f _ _ (b5 _ W)));let y:=a _ _ (b _ _ (f _ _ (n _ _ (b5 _ W))));rw[h,g,p]at m;rw[i,h]at t;rw[g]at r;rw[i]at u;rw[p];show#[#[_,m,W],q _ m t r (Ee y) (Ee u) λc o e=>a _ _ (b _ _ (f _ _ (n _ _ (v _ _ e))))]
end
end PySem
namespace L3
open PySem PySem.Spec PyProof.Rows L2
def DG(b:Bool)(K:CL)(H:Hp)(a:J)(xs:G V):Prop:=match b with
 |true=>SqT K H a xs
 |false=>SqL K H a xs
def Vi(K:CL)(e b:Bool)(a c:J):It:=
 #[λi H=>∃xs ys x y,DG e K H a xs/\DG b K H c ys/\xs[i]?=M x/\ys[i]?=M y,
  λi H v f=>∃p x y,H p=P/\v=.ref p/\(∀xs,DG e K H a xs->xs[i]?=M x)/\(∀ys,DG b K H c ys->ys[i]?=M y)/\f=aR H p (.tup [x,y]),
  λi H=>∃xs ys,DG e K H a xs/\DG b K H c ys/\(xs.length<=i\/ys.length<=i)]
def KL(I:Inv X pins σ H s)(i:SqL X.K H a xs)(h:SqL X.K H a ys):xs=ys:=by
 let(e,g,(o,k,e1,_,n,l),_):=I.list i;let(b,f,(m,k2,e2,_,p,j),_):=I.list h;rw[e1]at e2;ext e2;let:e=b:=by
  let q:e.toArray=b.toArray:=by injection l.symm.trans j
  simpa using q
 subst this;show g.inj f
def nF(I:Inv X pins σ H s)(h:DG b X.K H a xs):∃c,Vals xs c/\sqAt b s.heap a c.toArray:=by
 cases b with
 |true=>let(c,f,p,e):=I.tuple h;show#[c,f,p]
 |false=>let(c,f,p,e):=I.list h;show#[c,f,p.isList]
def Bk(I:Inv X pins σ H s)(f:DG b X.K H a xs)(e:DG b X.K H a ys):xs=ys:=by
 cases b with
 |true=>show Kw I f e
 |false=>show KL I f e
def Co{ch:G J}(I:Inv X pins σ H s)(g:∀b∈ch,oz X pins H b)
  (k:∀b u,b∉ch->s.heap.get? b=M u->C.get? b=M u):Inv X pins σ H {s with heap:=C,toks:=t'}:=by
 let f:∀b u,H b=M u->b∉ch:=λb u e z=>by rw[(g b z).1]at e;ext e
 show I.step (λb j=>?_) (λb u _ _ a e _=>k b u a e) (λb u _ _ a e _=>#[u.slots,k b u a e]) (λ_ _ _ _ n=>n)
  (λb u a e=>#[u,k b u a e]) (λ_ _ e=>e) (λ_ _ _ e=>e) (λb y e=>#[#v[],by rw[e];simp]) (λm hm=>?_) (λb u e=>?_) I.bare
 .let(_,t,_,p,o,l):=g b j;show#[p,t,o,l]
 .let(h,es,w,i,r):=hm;show#[h,es,w,k _ h (λz=>(g _ z).2.1 W) i,r]
 .show(I.Yq b u e).aaQ (λc v a q=>k c v ?_ q) (λ_ q=>q) λ_ _ q=>q
  rcases a with z|z
  .rw[z];show f b u e
  .show f c _ z
theorem EZ{K:CL}{d}(b1 V:Bool)(z TI TO C B U T:Xa)(D:acy z TI TO C B U T):
  Turn Pz0 w K (.Tuple elts d tp) (Vi K b1 V U T) [z,TI,TO,C,B] z (λi h=>adO h z TI TO .none/\IsPair h TI (.ref C) (.ref B)/\(∃a b,IsPair h TO a b)/\itAt b1 h C U i/\itAt V h B T i) where
 mem:=by simp
 obj:=λi h f b e=>by
  let(m,j,(a,c,p),A,r):=f;simp only[Xw,YK,or_false]at e;rcases e with rfl|rfl|rfl|rfl|rfl
  .show#[_,m,λv q=>by cases(show Data.fields _=Data.cell v from q)]
  .show#[_,j,λv q=>by cases(show Data.seq _ _=Data.cell v from q)]
  .show#[_,p,λv q=>by cases(show Data.seq _ _=Data.cell v from q)]
  .show A.live
  .show r.live
 keep:=λi h h' f k=>by let(m,j,(a,c,p),A,r):=f;show#[k z (by simp) _ m,k TI (by simp) _ j,#[a,c,k TO (by simp) _ p],A.to λo q=>k C (by simp) o q,r.to λo q=>k B (by simp) o q]
 item:=by
  intro X hP hw hK hc i l s σ H E I N f hg;subst hP hw hK;let(m,j,(a,c,p),A,r):=f;let(xs,ys,x,y,L,J,hx,hy):=hg;let(X6,Q,S):=nF I L;let(G,O,R):=nF I J;let(u,hu,ru):=Q.get hx;let(t,ht,rt):=O.get hy;show wv D m j p A r S R (by simpa using hu) (by simpa using ht) λk z1 o1 g1 g2 pr sz M=>#[_,W,?_];show wpAny_letOwnedTupleGo_zip z1 λF z2 e2=>?_;let Y:=b4 m;let hIl:=b4 j;let hOl:=b4 p;let h1l:C<s.heap.objs.size:=by let(_,q,_):=A.live;show b4 q
  let h2l:B<s.heap.objs.size:=by let(_,q,_):=r.live;show b4 q
  let hn:=I.Yq.fresh (Xg _);let d:∀b o,b∉[z,TI,TO,C,B]->s.heap.get? b=cL o->F.get? b=cL o:=λb o e q=>by simp only[Xw,YK,or_false,not_or]at e;show(e2.2 b e.1).trans (M b o e.1 e.2.2.1 e.2.2.2.1 e.2.2.2.2 q)
  let hT2:=(e2.2 _ (Yw Y)).trans pr
  let I2:Inv X l σ (aR H s.heap.objs.size (.tup [x,y])) {s with heap:=F}:=
   I.ad2 N d (Xg _) #[by show 2<=Xl;decide,[u,t],.cons ru (.cons rt .nil),#[_,hT2,#[W,_,W],W]]
  let g:∀b o,b≠z->k.get? b=cL o->F.get? b=cL o:=λb o n q=>(e2.2 b n).trans q;show#[.ref s.heap.objs.size,_,I2,W,#[_,x,y,hn,W,λzs hs=>by rw[Bk I hs L];show hx,λzs hs=>by rw[Bk I hs J];show hy,W],
   #[z2,g _ _ D.TIz (M _ _ D.TIz D.TITO D.TIi1 D.TIi2 j),#[_,_,g _ _ D.TOz o1],g1.to λo q=>g _ _ D.i1z q,g2.to λo q=>g _ _ D.i2z q],λb e=>?_]
  let hb2:b<s.heap.objs.size:=by simp only[Xw,YK,or_false]at e;rcases e with rfl|rfl|rfl|rfl|rfl<;>assumption
  rw[ar (XB hb2)];show(N b e).1
 done:=by
  intro X hP hw hK hc i l s σ H E I N f hg;subst hP hw hK;let(m,j,(a,c,p),A,r):=f;let(xs,ys,L,J,Z):=hg;let(X6,Q,S):=nF I L;let(G,O,R):=nF I J;let hl1:=Q.length;let hl2:=O.length;let hd:X6.toArray[i]?=Ld\/G.toArray[i]?=Ld:=by
   rcases Z with q|q
   .show .inl (by simp;ext)
   .show .inr (by simp;ext)
  show wD (I.ok.hd hc) D m j p A r S R hd λk M=>#[W,?_];show Co I N λb o e q=>by simp only[Xw,YK,or_false,not_or]at e;show M b o e.1 e.2.2.1 e.2.2.2.1 e.2.2.2.2 q
 self:=λ_ _ _ _ _ f h=>ah0 f.1 h
def Cp(n b a:Nat)(f:b<n)(e:a<n):acy (n+4) (n+2) (n+3) n (n+1) b a:=by constructor<;>(show(_:Nat)≠_;ext)
def M3(K:CL)(d:TA):TI:=λe H R=>d e H λg b=>∃a c b1 f,g=[.ref a,.ref c]/\(∃xs,DG b1 K b a xs)/\(∃ys,DG f K b c ys)/\R (Vi K b1 f a c) b
def Ho:Ya "zip"=M (.type "zip"):=by left
def PF{d}(S:Gl X "zip")(hm:X.mg "zip"=Ld)(k:PA X [l,m] ta)(O:Xu [l,m] X.env=(W7,eval l X.env)::Xu [m] X.env:=by rfl)(P:(backTo pos (Xu [m] X.env)).any (·.1)=W7:=by rfl):
  PI X (.Tuple elts d tp) (.Call (.Name "zip" p) [l,m] [] pos) (M3 X.K ta):=by
 intro f s y H R I h;show Call_ (oi I S hm Ho (Z1 (bV (k pos f s y H _ I h) λus g #[vs,w,j,G,J2]=>?_) O P));let(a,c,Z,Y,e,(xs,E),(ys,C),q):=J2;subst e;let(u,t,rfl,F,rt):=zU G;ext F;ext rt;let(X6,rx,r):=nF j E;let(N,ry,o):=nF j C;let U:∀b∈[g.heap.objs.size+4,g.heap.objs.size+2,g.heap.objs.size+3,g.heap.objs.size,g.heap.objs.size+1],oz X f w b:=λb v=>by
  let i:g.heap.objs.size<=b:=by simp only[Xw,YK,or_false]at v;let T:=v;ext
  show j.ad0 i (j.Yq.fresh i)
 show Dk r o λh1 n M L B A Q=>?_;show ah0 n ?_;show#[g.heap.objs.size+4,_,_,_,w,W,j.kept Q,EZ Z Y _ _ _ _ _ a c (Cp _ _ _ r.lt o.lt),#[n,M,#[_,_,L],B,A],U,q]
def QA:XA->Bool
 |.Starred _ _=>S
 |_=>R
def uc(e:XA)(es:G XA)(env:Env)(h:QA e=R):Xu (e::es) env=(R,eval e env)::Xu es env:=by ext e<;>first|rfl|ext h
def lQ:G D->G D->G D
 |x::r,y::q=>.tuple [x,y]::lQ r q
 |_,_=>[]
theorem wY:∀(xs ys:G D),(lQ xs ys).length=min xs.length ys.length
 |[],_=>by simp[lQ]
 |_::_,[]=>by simp[lQ]
 |_::r,_::q=>by simp only[lQ,Xn,wY r q];ext
theorem xB:∀(xs ys:G D) (i:Nat),(lQ xs ys)[i]?=(xs[i]?).bind λx=>(ys[i]?).map λy=>.tuple [x,y]
 |[],_,_=>by simp[lQ]
 |x::r,[],i=>by ext i<;>simp[lQ]
 |x::r,y::q,0=>by simp[lQ]
 |x::r,y::q,i+1=>by simp only[lQ,adb];show xB r q i
section
variable{K:CL}{E:XK}{B O Z:bA}{T H X:Hp}{N:L2.St}{Y ρ':aQ}{v:V}
def adx(b:Bool)(O:bA)(K:CL)(H:Hp)(a:J)(xs:G V):Prop:=match b with
 |true=>aaR O K H a xs
 |false=>ab7 O K H a xs
def adx.ev(h:adx b O K H a xs)(e:Ev O H Z X):adx b Z K X a xs:=by
 cases b with
 |true=>show aaR.ev h e
 |false=>show ab7.ev h e
def adx.at(h:adx b O K H a xs):DG b K H a xs:=by
 cases b with
 |true=>show(show aaR O K H a xs from h).1
 |false=>show(show ab7 O K H a xs from h).1.sq
def Rv(h:adx b1 O K H a xs)(hd:YH O K H xs ds)(g:adx b2 O K H c ys)(F:YH O K H ys es):vS K (Vi K b1 b2 a c) O H (lQ ds es):=by
 intro Z X e n;let j:=h.ev e;let f:=hd.ev e;let m:=g.ev e;let l:=F.ev e;rw[wY];show#[λi hi=>?_,#[xs,ys,j.at,m.at,?_]]
 .let w:i<ds.length:=by ext
  let u:i<es.length:=by ext
  let(x,C,dx):=f.get (Xp w);let(y,A,G):=l.get (Xp u);show#[#[xs,ys,x,y,j.at,m.at,C,A],?_];rintro t I ⟨p,L,J,b,rfl,hx',Q,rfl⟩;let r:=hx' xs j.at;let o:=Q ys m.at;rw[C]at r;rw[A]at o;ext r;ext o;show#[bj b _,.tuple [ds[i],es[i]],?_,.tup #[SqT.of ay,λq=>bb q (n p b)] (.cons (dx.ev (Ev.grow (bj b _))) (.cons (G.ev (Ev.grow (bj b _))) .nil))];rw[xB,Xp w,Xp u];rfl
 .rw[hd.length,F.length];ext
def NQ(h:DV O K H v d)(q:eP d=M ds):∃b a xs,v=.ref a/\adx b O K H a xs/\YH O K H xs ds:=by
 cases h with
 |tup h e=>ext q;show#[S,_,_,W,h,e]
 |lst h e=>ext q;show#[R,_,_,W,h,e]
 |_=>ext q
def C2(c:FA):FI:=λY=>(c Y).bind λa=>(Res.X8 (pJ a.2 a.1)).bind λb=>match b.1 with
 |[d,e]=>(Res.X8 (eP d)).bind λds=>(Res.X8 (eP e)).bind λes=>.ok (lQ ds es,b.2)
 |_=>.bad
def QK(h:AO K E ta fa):IO K E (M3 K ta) (C2 fa):=by
 intro B T O N H Y L R w;show h B T O N H Y _ R (w.bind.imp λa b M Q I e1 F m=>?_);let((ds,i),q,b):=b.X8;let(G,e2,R2,p):=r8 F m q;dsimp only at b;cases p with
 |nil=>show b.elim
 |cons o e=>
  cases e with
  |nil=>show b.elim
  |cons e n=>
   cases n with
   |cons _ _=>show b.elim
   |nil=>let(es,l,b):=WR.X8 b;let(fs,j,b):=WR.X8 b;let(y,C,xs,rfl,g,t):=NQ o l;let(u,A,J,rfl,f,r):=NQ e j;show#[C,A,y,u,W,#[_,g.at],#[_,f.at],b G _ I (e1.trans e2) R2 (Rv g t f r)]
def i7(d e:D):I RV:=match d,e with
 |.str z,.int i=>if z.length<=1000000 then(lh z.cps.toList i).map λc=>.fz (.str #[#v[c]])else P
 |_,_=>P
def Ju:kZ K (S3 K) i7:=by
 intro O H x y l g j Q n b a e q;unfold i7 at e;split at e
 .split at e
  .rename_i z i f
   cases h:lh z.cps.toList i with
   |none=>rw[h]at e;ext e
   |some c=>rw[h]at e;ext e;ext b;ext a;show .inr (.inr #[z,i,c,W,W,tY f,h,q.at (.str _)])
  .ext e
 .ext e
def Ik:G D->I RV
 |[.str z]=>if z.length<=1000000 then M (.fz (.int z.length))else P
 |_=>P
def MH:AI K (λxs H Q=>∃x n,xs=[x]/\Ln K x H n/\Q (.int n) H) Ik:=by
 intro O H xs ds h Q n a e q;unfold Ik at e;split at e
 .split at e
  .rename_i z b
   ext e;cases a with
   |cons g f=>ext f;ext g;show#[_,z.length,W,#[tY b,W],q.at (.int _)]
  .ext e
 .ext e
end
end L3
namespace L3
open PySem L2
def VG(N C:aQ->Prop)(T:RV->Prop):Res Fl->Prop
 |.ok (.nx a)=>N a
 |.ok (.ct a)=>C a
 |.ok (.rt v)=>T v
 |_=>False
structure Go(r:Res Fl)(N C:aQ->Prop)(T:RV->Prop):Prop where
 out:VG N C T r
section
variable{ρ ρ1 Z ρ3:aQ}{f g:FS}{fe:FE}{pv:PV}{d:D}{rv:RV}{ds:bg D}{N C:aQ->Prop}{T:RV->Prop}
def Go.eq(e:r=r')(h:Go r' N C T):Go r N C T:=by rw[e];show h
def Go.imp(h:Go r N C T)(b:∀ρ,N ρ->N' ρ)(e:∀ρ,C ρ->C' ρ)(a:∀v,T v->T' v):Go r N' C' T':=by
 show#[?_];let h:=h.out;cases r with
 |bad=>show h
 |er x=>show h
 |ok i=>
  cases i with
  |nx r=>show b _ h
  |ct r=>show e _ h
  |rt v=>show a _ h
  |bk r=>show h
def zu(h:Go (f ρ) (λr=>Go (g r) N C T) C T):Go (bM f g ρ) N C T:=by
 show#[?_];let h:=h.out;ext bM;cases q:f ρ with
 |bad=>rw[q]at h;show h.elim
 |er x=>rw[q]at h;show h.elim
 |ok a=>
  rw[q]at h;cases a with
  |nx r=>show(show Go (g r) N C T from h).out
  |ct r=>show h
  |rt v=>show h
  |bk r=>show h.elim
def Oe(h:c ρ=.ok (b,ρ1))(a:b=S->Go (f ρ1) N C T)(e:b=R->Go (g ρ1) N C T):Go (nk c f g ρ) N C T:=by
 ext nk;rw[h,d0];cases b with
 |true=>show a W
 |false=>show e W
theorem zD(b:fe ρ=.ok (pv,ρ1))(a:gt pv ρ1=.ok Z)(h:N Z):Go (dX fe gt ρ) N C T:=.eq (yH b a W) #[h]
theorem zY(a:fe ρ=.ok (pv,ρ1))(h:N ρ1):Go (sA fe ρ) N C T:=.eq (AX a) #[h]
theorem dU(b:fe ρ=.ok (pv,ρ1))(a:Dm ρ1 pv=M rv)(h:T rv):Go (dA fe ρ) N C T:=.eq (uZ b a) #[h]
theorem Ao(h:N ρ):Go (eO ρ) N C T:=#[h]
theorem A7(I:Nat->aQ->Prop):∀(ds:G D) (k:Nat) (ρ:aQ),I k ρ->(∀i d ρ,ds[i]?=M d->I (k+i) ρ->∃ρ1,gt (.fz d) ρ=.ok ρ1/\Go (b ρ1) (I (k+i+1)) (I (k+i+1)) T)->Go (pK gt b ds ρ) (I (k+ds.length)) C T
 |[],k,ρ,h0,_=>#[h0]
 |d::r,k,ρ,h0,u=>by
  let(ρ1,o,a):=u 0 d ρ W h0;let a:=a.out;let l:∀j,I (k+1) j->Go (pK gt b r j) (I (k+(r.length+1))) C T:=λj h=>by
   let e:k+(r.length+1)=k+1+r.length:=by ext
   rw[e];show A7 I r (k+1) j h λi t m w n=>?_;let e:k+1+i=k+(i+1):=by ext
   rw[e]at n⊢;show u (i+1) t m (by simpa using w) n
  show#[?_];show VG _ _ _ ((gt (.fz d) ρ).bind _);rw[o,d0];cases q:b ρ1 with
  |bad=>rw[q]at a;show a.elim
  |er x=>rw[q]at a;show a.elim
  |ok p=>
   rw[q]at a;cases p with
   |nx r=>show(l _ a).out
   |ct r=>show(l _ a).out
   |rt v=>show a
   |bk r=>show a.elim
def QG(I:Nat->aQ->Prop)(k:o ρ=.ok (ds,ρ1))(j:I 0 ρ1)(a:∀i d ρ,ds[i]?=M d->I i ρ->∃ρ1,gt (.fz d) ρ=.ok ρ1/\Go (b ρ1) (I (i+1)) (I (i+1)) T)(e:∀c,I ds.length c->N c):Go (sL o gt b ρ) N C T:=by let:=A7 (C:=C) I ds 0 ρ1 j (by simpa using a);rw[ZJ]at this;show .eq (yz k) (this.imp e (λ_ h=>h) λ_ h=>h)
def lO(a:ds.map (λd=>M (.fz d))++Xk (n - ds.length) P=ρ)(h:Go (g ρ) (λ_=>T (.fz .none)) (λ_=>False) T):∃rv,fD n g ds=.ok rv/\T rv:=by
 let h:=h.out;ext fD;rw[a];cases q:g ρ with
 |bad=>rw[q]at h;show h.elim
 |er x=>rw[q]at h;show h.elim
 |ok b=>
  rw[q]at h;cases b with
  |nx r=>show#[_,W,h]
  |ct r=>show h.elim
  |rt v=>show#[_,W,h]
  |bk r=>show h.elim
def jg(a:ds.map (λd=>M (.fz d))++Xk (n - ds.length) P=ρ)(h:Go (g ρ) (λ_=>RV.fz .none=v) (λ_=>False) (λr=>r=v)):fD n g ds=.ok v:=by let(rv,e,b):=lO (T:=λr=>r=v) a h;rw[e,b]
theorem cz(b:fe ρ=.ok (pv,ρ1))(a:gt pv ρ1=.ok Z)(c:Z=ρ3)(h:Go (g ρ3) N C T):Go (bM (dX fe gt) g ρ) N C T:=.eq (D7 (yH b a c)) h
theorem ja(b:fe ρ=.ok (pv,ρ1))(a:Dm ρ1 pv=M rv)(h:T rv):Go (bM (dA fe) g ρ) N C T:=.eq (Fc (uZ b a)) #[h]
theorem fW(h:Go (g ρ) N C T):Go (bM eO g ρ) N C T:=.eq W h
def oU(i:c ρ=.ok (b,ρ1))(a:b=S->Go (bM f1 g ρ1) N C T)(h:b=R->Go (bM f2 g ρ1) N C T):Go (bM (nk c f1 f2) g ρ) N C T:=by
 let e:bM (nk c f1 f2) g ρ=if b=S then bM f1 g ρ1 else bM f2 g ρ1:=by unfold bM nk;rw[i,d0];ext b<;>rfl
 show .eq e ?_;cases b with
 |true=>show a W
 |false=>show h W
theorem HQ(I:Nat->aQ->Prop)(j:o ρ=.ok (ds,ρ1))(h:I 0 ρ1)(a:∀i d ρ,ds[i]?=M d->I i ρ->∃ρ1,gt (.fz d) ρ=.ok ρ1/\Go (b ρ1) (I (i+1)) (I (i+1)) T)(e:∀c,I ds.length c->Go (g c) N C T):Go (bM (sL o gt b) g ρ) N C T:=
 zu (QG I j h a e)
theorem tQ(I:aQ->Prop)(P:Nat->D->Prop):∀(ds:G D) (k:Nat) (ρ:aQ) (acc:G D),I ρ->acc.length+ds.length<=1000000->(∀i d,ds[i]?=M d->∀ρ,I ρ->∃x c,jI gt ft fe d ρ=.ok (M x,c)/\I c/\P (k+i) x)->
  ∃xs,cV gt ft fe ds ρ acc=.ok (acc++xs)/\xs.length=ds.length/\∀i x,xs[i]?=M x->P (k+i) x
 |[],k,ρ,acc,_,_,_=>#[[],by show Res.ok acc=_;simp,W,λi x h=>by simp at h]
 |d::r,k,ρ,acc,h0,v,u=>by
  let(x,c,n,m,l):=u 0 d W ρ h0;rw[Xn]at v;let(xs,q,p,o):=tQ I P r (k+1) c (acc++[x]) m (by rw[Xi];simp;ext) λi t w a j=>by
   let e:k+1+i=k+(i+1):=by ext
   rw[e];show u (i+1) t (by simpa using w) a j
  show#[x::xs,?_,by rw[Xn,p,Xn],λi y b=>?_]
  .rw[qM n ()];show cV gt ft fe r c (acc++[x])=_;rw[q,X2];rfl
  .cases i with
   |zero=>cases(show M x=M y from b);show l
   |succ i=>
    let e:k+(i+1)=k+1+i:=by ext
    rw[e];show o i y (by simpa using b)
def j6(I:aQ->Prop)(P:Nat->D->Prop)(e:I ρ)(b:ds.length<=1000000)(a:∀i d,ds[i]?=M d->∀ρ,I ρ->∃x c,jI gt ft fe d ρ=.ok (M x,c)/\I c/\P i x):
  ∃xs,jD (cV gt ft fe ds ρ [])=.ok xs/\xs.length=ds.length/\∀i x,xs[i]?=M x->P i x:=by
 let(xs,l,j,h):=tQ I P ds 0 ρ [] e (by simpa using b) (by simpa using a);show#[xs,by rw[l];rfl,j,by simpa using h]
theorem kh{α:Type}{f:α->D}{Q:Nat->α->Prop}:∀(xs:G D) (k:Nat),(∀i x,xs[i]?=M x->∃a,x=f a/\Q (k+i) a)->∃as:G α,xs=as.map f/\∀i a,as[i]?=M a->Q (k+i) a
 |[],_,_=>#[[],W,λi a h=>by simp at h]
 |x::r,k,h=>by
  let(a,e,q):=h 0 x W;let(as,e2,l):=kh (f:=f) (Q:=Q) r (k+1) λi y m=>by
   let e:k+1+i=k+(i+1):=by ext
   rw[e];show h (i+1) y (by simpa using m)
  show#[a::as,by rw[e,e2];rfl,λi b j=>?_];cases i with
  |zero=>cases(show M a=M b from j);show q
  |succ i=>
   let e:k+(i+1)=k+1+i:=by ext
   rw[e];show l i b (by simpa using j)
def RD(c:Xe.strOk a=S)(e:Xe.strOk b=S):cK (.str a) (.str b)=M (.fz (.bool (a==b))):=by ext cK;rw[show kq (.str a)=S by ext kq;rw[show Xe.canLay0 (.str a)=S from c];rfl,show Xe.canLay0 (.str b)=S from e,Y1,ax W];rfl
def Oa(b:Xe.strOk a=S):cK (.str a) (.str a)=M (.fz (.bool S)):=by rw[RD b b,dN]
def z9(c:Xe.strOk a=S)(e:Xe.strOk b=S)(h:(a==b)=R):cK (.str a) (.str b)=M (.fz (.bool R)):=by rw[RD c e,h]
theorem vq{α:Type}{xs:G α}{i:Int}{v:α}(a:0<=i)(h:xs[i.toNat]?=M v):lh xs i=M v:=Pu a h
def LH(a:0<=i)(h:ds[i.toNat]?=M d):bf (.list ds) (.int i)=M (.fz d):=by show(lh ds i).map RV.fz=_;rw[vq a h];rfl
def MG{s:G Nat}(e:s.Pairwise (·<·))(h:∀k∈s,k<n):s.length<=n:=by
 let:∀(s:G Nat) (a:Nat),s.Pairwise (·<·)->(∀k∈s,a<=k/\k<n)->s.length<=n - a:=by
  intro s
  induction s with
  |nil=>intro a _ _;show X1 _
  |cons x r i=>intro a e h;let(l,j):=YA.mp e;let m:=h x Xb;let:=i (x+1) j λk b=>#[l k b,(h k (Xf _ b)).2];rw[Xn];ext
 show this s 0 e λk b=>#[X1 _,h k b]
def Bq(c:fr ρ=.ok (o,ρ1))(hd:pJ ρ1 o=M ([d,e],Z))(b:eP d=M es)(a:eP e=M fs):C2 fr ρ=.ok (lQ es fs,Z):=by ext C2;rw[c,d0,hd,aJ,d0];dsimp only;rw[b,aJ,d0,a,aJ,d0]
end
end L3
namespace L3
open PySem PySem.Spec PyProof.Rows L2 PySem.Builtin PySem.Builtin.Str
section
variable{X:Cx}
theorem Gf{z:Str}{u:U}(h:RelV (.str z) u):∃t,u=.str z t:=h
theorem tF:∀{a:G Str} {b:G U},Vals (a.map V.str) b->∃l,b=strValues l/\l.map (·.1)=a
 |[],_,.nil=>#[[],W,W]
 |z::r,_,.cons h t=>by let(k,rfl):=Gf h;let(l,rfl,e):=tF t;show#[(z,k)::l,W,by rw[Xt,e]]
def NO(K:CL):V->G V->Hp->VK->Prop:=λx xs H Q=>∃a l b,x=.str a/\xs=[.ref l]/\SqL K H l (b.map V.str)/\ae1 a b=S/\Q (.str (Txt.join a b)) H
def JR:RU X "str.join" (NO X.K):=by
 rintro f s j H x xs v m Q I h b ⟨a,l,n,rfl,rfl,y,Yq,q⟩;let(t,rfl):=Gf h;let(u,rfl,i):=b.one;ext i;let(r,w,pl,p):=I.list y;let(e,rfl,rfl):=tF w;let g:tooLong ((e.map (·.1)).toArray.foldl (·+·.length+a.length) 0)=R:=by unfold ae1 at Yq;rwa [Zw]at Yq
 show aaM F.slot_str_join (adL _ _ _) F.entry_str_join (F.args_str_join_2 _ _) (meets_str_join_list a t l e g) #[pl.isList,post_join e #[joinFit_length g,λo k=>#[.str _,H,I.tok k,#[_,W],q]]]
def Tv:V->I Int->I Int->Hp->VK->Prop:=λx lo a H Q=>∃z,x=.str z/\z.length<=Xl/\Q (.str (Txt.slice z lo a)) H
def Q0:Nw X Tv:=by
 rintro b s h H x v p o lo w r Q I n e pl g ⟨z,rfl,y,q⟩;let(t,rfl):=Gf n;show#["str",_,F.slot_str_getitem.lookup,adL _ _ _,?_];let a:(Txt.slice z lo w).length<=Xl/\∀f k,EP X b h Q (.str (Txt.slice z lo w) f) {s with toks:=k}:=#[XX (Txt.slice_le z _ _) y,λf k=>#[.str _,H,I.tok k,#[_,W],q]];cases pl with
 |none=>cases g with
  |none=>show Z2 (l:=P) (u:=P) (st:=P) e W (abr a)
  |int j u=>show Z2 (l:=P) (u:=M (j,u)) (st:=P) e W (abr a)
 |int i u=>cases g with
  |none=>show Z2 (l:=M (i,u)) (u:=P) (st:=P) e W (abr a)
  |int j m=>show Z2 (l:=M (i,u)) (u:=M (j,m)) (st:=P) e W (abr a)
end
section
variable{K:CL}{E:XK}{B O N:bA}{Y H L:Hp}{Z:L2.St}{X T:aQ}{v:V}
def AM:PV->I Str
 |.fz (.str z)=>M z
 |_=>P
def EU{pv:PV}{z:Str}(p:aaP K Y O Z H X v pv)(e:AM pv=M z):v=.str z:=by
 unfold AM at e;split at e
 .ext e;cases(show DV O K H v (.str z)from p);rfl
 .ext e
def UU(K:CL)(r:V->G V->Hp->VK->Prop)(f:Str->G D->I RV):Prop:=∀(O:bA) (H:Hp) (z:Str) (xs:G V) (ds:G D) (a:RV) (Q:VK),mx O H->Paired (DX O K H) xs ds->f z ds=M a->Fin O K H Q a->r (.str z) xs H Q
def RH(f:Str->G D->I RV)(c:FE)(d:FA):FE:=λX=>(c X).bind λa=>(Res.X8 (AM a.1)).bind λz=>(d a.2).bind λb=>(Res.X8 (sD b.2 b.1)).bind λds=>(Res.X8 (f z ds)).bind λe=>.ok (e.pv,b.2)
def ST{r:V->bg V->Hp->VK->Prop}{f:Str->bg D->I RV}{to:TE}{c:TA}{d:FE}{k:FA}(o:UU K r f)(p:EO K E to d)(s:AO K E c k):EO K E (RI K "str" r to c) (RH f d k):=by intro B Y O Z H X Q R w;show p B Y O Z H X _ R (w.bind.imp λa g A x G e1 t n=>?_);let(z,h,g):=g.X8;obtain rfl:=EU n h;show#[W,?_];show s B Y A Z G a.2 _ t (g.bind.imp λb e y xs F e2 R2 m=>?_);let(ds,j,e):=e.X8;let(rv,i,e):=e.X8;show o y F z xs ds rv Q R2.od (vV R2 m j) i (lR R2 λu v C e3 q l=>e u v C (e1.trans (e2.trans e3)) q l)
def v9:G D->I (G Str)
 |[]=>M []
 |.str b::r=>(v9 r).map (b::·)
 |_=>P
theorem zX{O:bA}{H:Hp}:∀{xs:G V} {ds:G D} {bs:G Str},YH O K H xs ds->v9 ds=M bs->xs=bs.map V.str
 |_,_,_,.nil,e=>by ext e;rfl
 |_,_,bs,.cons (vs:=g) (ds:=r) h t,e=>by
  cases h with
  |str b=>
   let a:(v9 r).map (b::·)=M bs:=e;cases q:v9 r with
   |none=>rw[q]at a;ext a
   |some f=>rw[q]at a;ext a;rw[zX t q];rfl
  |_=>ext e
def GW(a:G Str):v9 (a.map .str)=M a:=by
 induction a with
 |nil=>rfl
 |cons n r b=>show(v9 (r.map .str)).map (n::·)=_;rw[b];rfl
def tL(z:Str):G D->I RV
 |[.list ds]=>(match v9 ds with
  |some a=>if ae1 z a=S then M (.fz (.str (Txt.join z a)))else P
  |none=>P)
 |_=>P
def Jr:UU K (NO K) tL:=by
 intro O H z xs ds m Q n h e q;unfold tL at e;split at e
 .rename_i es
  cases l:v9 es with
  |none=>rw[l]at e;ext e
  |some g=>
   rw[l]at e;dsimp only at e;split at e
   .rename_i i
    ext e;cases h with
    |cons f b=>ext b;let(a,j,rfl,f,b):=BN f;let:=zX b l;subst this;show#[z,a,g,W,W,f.sq,i,q.at (.str _)]
   .ext e
 .ext e
def jP:D->I Int->I Int->I RV
 |.str z,lo,a=>if z.length<=1000000 then M (.fz (.str (Txt.slice z lo a)))else P
 |_,_,_=>P
def Je:So K Tv jP:=by
 intro O H x lo g h f Q n a e q;unfold jP at e;split at e
 .split at e
  .rename_i b;ext e;ext a;show#[_,W,tY b,q.at (.str _)]
  .ext e
 .ext e
end
end L3
namespace L2
open PySem PySem.Spec PyProof.Rows
section
variable{Y:Type}[DecidableEq Y]
def jG(a:G (Y×V))(k:Y):I V:=(a.find? λkv=>decide (kv.1=k)).map (·.2)
def iY(a:G (Y×V))(k:Y)(v:V):G (Y×V):=
 if(a.any λkv=>decide (kv.1=k))=S then a.map (λkv=>if kv.1=k then(kv.1,v)else kv)else a++[(k,v)]
def mP(a:G (Y×V))(k:Y):G (Y×V):=a.filter λkv=>decide (kv.1≠k)
def rc{k:Y}(e:p.1=k):jG (p::r) k=M p.2:=by simp[jG,XZ,e]
def rB{k:Y}(e:¬p.1=k):jG (p::r) k=jG r k:=by simp[jG,XZ,e]
theorem xh(k:Y):∀a:G (Y×V),(a.any λkv=>decide (kv.1=k))=(jG a k).isSome
 |[]=>rfl
 |p::r=>by
  rw[aaa];by_cases e:p.1=k
  .simp only[rc e,a5 e,aam,aeg]
  .rw[rB e,a6 e,abx];show xh k r
def jT(a:G (Y×V))(k:Y)(v:V):(iY a k v).length<=a.length+1:=by
 ext iY;split
 .rw[W5];ext
 .rw[Xi,Xn,Y9];ext
def aad.aaD(r:aad o u):o.isSome=u.isSome:=by
 cases o with
 |none=>cases u with
  |none=>rfl
  |some _=>show(show False from r).elim
 |some _=>cases u with
  |none=>show(show False from r).elim
  |some _=>rfl
def aad.getD(r:aad o u)(a:RelV d d'):RelV (o.getD d) (u.getD d'):=by
 cases o with
 |none=>cases u with
  |none=>show a
  |some _=>show(show False from r).elim
 |some _=>cases u with
  |none=>show(show False from r).elim
  |some _=>show r
def KV.val{d:G (Y×V)}{c:G (Y×U)}(r:KV d c)(k:Y):aad (jG d k) (valueAt c k):=by
 unfold KV at r
 induction r with
 |nil=>show True.intro
 | @cons p q l i h t j=>
  let(f,g):=h;by_cases e:p.1=k
  .let a:q.1=k:=f.symm.trans e
   let b:valueAt (q::i) k=M q.2:=by simp[valueAt,XZ,a]
   rw[rc e,b];show g
  .let a:¬q.1=k:=λz=>e (f.trans z)
   let b:valueAt (q::i) k=valueAt i k:=by simp[valueAt,XZ,a]
   rw[rB e,b];show j
def KV.any(r:KV XF vs)(k:Y):(XF.any λkv=>decide (kv.1=k))=vs.any λkv=>decide (kv.1=k):=by
 unfold KV at r
 induction r with
 |nil=>rfl
 |cons h t a=>rw[aaa,aaa,a,h.1]
def KV.ag3(r:KV XF vs)(k:Y)(b:RelV y u):
  KV (XF.map λkv=>if kv.1=k then(kv.1,y)else kv) (vs.map λkv=>if kv.1=k then(kv.1,u)else kv):=by
 unfold KV at r⊢
 induction r with
 |nil=>show .nil
 | @cons p q j i h t g=>
  rw[Xt,Xt];show .cons ?_ g;let(a,f):=h;by_cases e:p.1=k
  .rw[ax e,ax (a.symm.trans e)];show#[a,b]
  .rw[a4 e,a4 (λz=>e (a.trans z))];show#[a,f]
def KV.put(r:KV XF vs)(k:Y)(a:RelV y u):KV (iY XF k y) (stored vs k u):=by
 unfold iY stored;rw[r.any k];by_cases e:(vs.any λkv=>decide (kv.1=k))=S
 .rw[ax e,ax e];show r.ag3 k a
 .rw[a4 e,a4 e];show Paired.snoc r #[W,a]
def KV.drop(r:KV XF vs)(k:Y):KV (mP XF k) (without vs k):=by
 unfold KV at r⊢;unfold mP without
 induction r with
 |nil=>show .nil
 | @cons p q m l h t j=>
  let(f,g):=h;rw[ZH,ZH];by_cases e:p.1=k
  .let a:¬decide (p.1≠k)=S:=by simp[e]
   let b:¬decide (q.1≠k)=S:=by simp[f.symm.trans e]
   rw[a4 a,a4 b];show j
  .let i:¬q.1=k:=λz=>e (f.trans z)
   let a:decide (p.1≠k)=S:=by simp[e]
   let b:decide (q.1≠k)=S:=by simp[i]
   rw[ax a,ax b];show .cons #[f,g] j
def KV.keys{b:G (Y×U)}(r:KV XF b):XF.map (·.1)=b.map (·.1):=by
 unfold KV at r
 induction r with
 |nil=>rfl
 |cons h t a=>rw[Xt,Xt,a,h.1]
theorem KV.length(r:KV XF vs):XF.length=vs.length:=Paired.length r
theorem Ed(a:G (Y×V))(k:Y):(mP a k).length<=a.length:=Z5 _ _
end
def tf(r:RelV (kV k) u):(cC a w).is k u=S:=by
 cases k with
 |inl i=>let(t,e):=(show∃t,u=W2.int i t from r);subst e;show xb a w i t
 |inr x=>let(t,e):=(show∃t,u=W2.str x t from r);subst e;show wI a w x t
theorem tE:∀{b:G ci} {us:G U},Vals (b.map kV) us->ItemsAre (cC a w) b us
 |[],_,r=>by rw[aal]at r;ext r;show .nil
 |k::b,_,r=>by
  rw[Xt]at r;cases r with
  |cons h t=>show .cons (tf h) (tE t)
abbrev KT(H:Hp):G (G ci×V)->G (G ci×J×U)->Prop:=Paired λp q=>p.1=q.1/\H q.2.1=M (.tup (p.1.map kV))/\RelV p.2 q.2.2
def KT.val(r:KT H XF xs)(k:G ci):aad (jG XF k) ((atKey xs k).map (·.2)):=by
 induction r with
 |nil=>show True.intro
 | @cons p q l i h t j=>
  let(f,_,g):=h;by_cases e:p.1=k
  .let a:=f.symm.trans e
   let b:atKey (q::i) k=M q.2:=by simp[atKey,XZ,a]
   rw[rc e,b];show g
  .let a:¬q.1=k:=λz=>e (f.trans z)
   let b:atKey (q::i) k=atKey i k:=by simp[atKey,XZ,a]
   rw[rB e,b];show j
def KT.ag3(r:KT H XF xs)(k:G ci)(f:RelV y u):
  KT H (XF.map λkv=>if kv.1=k then(kv.1,y)else kv) (xs.map (putAt k u)):=by
 induction r with
 |nil=>show .nil
 | @cons p q l j h t i=>
  rw[Xt,Xt];show .cons ?_ i;let(a,b,g):=h;ext putAt;by_cases e:p.1=k
  .rw[ax e,ax (a.symm.trans e)];show#[a,b,f]
  .rw[a4 e,a4 (λz=>e (a.trans z))];show#[a,b,g]
def KT.put(r:KT H XF xs)(k:G ci)(f:H b=M (.tup (k.map kV)))(a:RelV y u):
  KT H (iY XF k y) (storedH xs k b u):=by
 let e:(XF.any λkv=>decide (kv.1=k))=(atKey xs k).isSome:=by rw[xh,(r.val k).aaD,aav]
 unfold iY storedH;rw[e];by_cases q:(atKey xs k).isSome=S
 .rw[ax q,ax q];show r.ag3 k a
 .rw[a4 q,a4 q];show Paired.snoc r #[W,f,a]
theorem KT.keeps(r:KT H XF xs)(a:∀b ys,H b=M (.tup ys)->H' b=M (.tup ys)):KT H' XF xs:=
 Paired.Z8 r λ_ _ z=>#[z.1,a _ _ z.2.1,z.2.2]
section
variable{P:Xx}{w:XU}{H:Hp}{h:Heap}{a:Xa}
theorem Nu(ok:HOk P w H h)(e:Rd H a u):ObjOk P w H h a u:=e.ok ok
theorem wG(ok:HOk P w H h)(e:Rd H a (.dK o)):o.length<=Xl/\(a==Yv)=R/\∃b,KV o b/\h.DictOf (cC P w) a b:=
 show ObjOk P w H h a (.dK o)from Nu ok e
theorem xt(ok:HOk P w H h)(e:H a=M (.dK o)):o.length<=Xl/\(a==Yv)=R/\∃b,KV o b/\h.DictOf (cC P w) a b:=wG ok (.inl e)
def vK{c:G ci}(ok:HOk P w H h)(e:H a=M (.tup (c.map kV))):(tupleKind (cC P w)).is h c a:=by let(_,i,r,o,g,(f,n,b),_):=(show ObjOk P w H h a (.tup (c.map kV))from ok a _ e);show#[o,i.toArray,n,g,f,b,by simpa using tE r]
def w6(ok:HOk P w H h)(e:Rd H a (.dT C)):C.length<=Xl/\(a==Yv)=R/\
  ∃xs,KT H C xs/\h.DictOfH (tupleKind (cC P w)) a xs:=by
 let(z,y,xs,r,o,es,u,n,j,i,g,f):=(show ObjOk P w H h a (.dT C)from Nu ok e);show#[z,y,xs,r,o,es,u,n,j,i,g,λx b=>?_,f];let all:∀{l:G (G ci×V)} {m:G (G ci×J×U)},KT H l m->∀x∈m,(tupleKind (cC P w)).is h x.1 x.2.1:=by
  intro l m q
  induction q with
  |nil=>intro x b;show nomatch b
  | @cons p q E B v t A=>
   intro x b;rcases Xw.mp b with e|b
   .subst e;show vK ok (by rw[<-v.1];show v.2.1)
   .show A x b
 show all r x b
theorem TV(ok:HOk P w H h)(e:H a=M (.dT o)):o.length<=Xl/\(a==Yv)=R/\
  ∃xs,KT H o xs/\h.DictOfH (tupleKind (cC P w)) a xs:=w6 ok (.inl e)
end
def ac3(H:Hp)(a:J)(y:V)(r:I V):Prop:=
 (∃e k,Rd H a (.dK e)/\y=kV k/\r=jG e k)\/∃e k b,Rd H a (.dT e)/\y=.ref b/\H b=M (.tup (k.map kV))/\r=jG e k
def afl(H:Hp)(a:J)(y v:V)(H':Hp):Prop:=
 (∃e k,H a=M (.dK e)/\y=kV k/\e.length<Xl/\H'=aR H a (.dK (iY e k v)))\/
 ∃e k b,H a=M (.dT e)/\y=.ref b/\H b=M (.tup (k.map kV))/\e.length<Xl/\H'=aR H a (.dT (iY e k v))
theorem ac3.k{k:ci}(e:H a=M (.dK XF)):ac3 H a (kV k) (jG XF k):=.inl #[XF,k,.inl e,W,W]
theorem afl.k{k:ci}(e:H a=M (.dK XF))(b:XF.length<Xl):afl H a (kV k) v (aR H a (.dK (iY XF k v))):=.inl #[XF,k,e,W,b,W]
section
variable{X:Cx}{Z:bg (Xa×Obj)}{Y:St}{H:Hp}{s:Xd}{a:Xa}{y v:V}{u r:W2}{o:bt V}{A:XO}{E:W2->Xd->Prop}
def Inv.big(I:Inv X Z Y H s):Yv<s.heap.objs.size:=by let h:=(I.mod.glob.keeps I.bk).lt;show Z0 () h
def Cy{Q:U->Xd->Prop}(t:A.units+1<cLine)(I:Inv X Z Y H s)(g:ac3 H a y (M v))(q:RelV y u)(h:∀c d,Inv X Z Y H d->RelV v c->Q c d):
  wpAny (model X.prog X.w) A (getItem (.ref a) u) Q E s:=by
 rcases g with⟨L,k,e,n,l⟩|⟨L,k,b,e,n,F,l⟩
 .subst n;let(z,C,w,i,dd):=wG I.Yq e;let(c,j,f):=aad.some_of (v:=v) (o:=valueAt w k) (by rw[l];show i.val k);show wpAny_getItem_of (tf q) dd.mapOf j (h c _ (I.tok _) f)
 .subst n;cases(show u=W2.ref b from q);let(z,C,xs,i,dd):=w6 I.Yq e;let(c,j,f):=aad.some_of (v:=v) (o:=(atKey xs k).map (·.2)) (by rw[l];show i.val k);let(p,B,m):=ZU.mp j;show agF (acm t) (vK I.Yq F) dd B ?_;rw[m];show h c _ (I.tok _) f
def Va{Q:U->Xd->Prop}(n:A.units+1<cLine)(I:Inv X Z Y H s)(g:ac3 H a y o)(m:RelV y u)(h:∀c,Inv X Z Y H c->Q (.bool o.isSome) c):
  wpAny (model X.prog X.w) A (YR .In u (.ref a)) Q E s:=by
 rcases g with⟨t,k,e,j,l⟩|⟨t,k,b,e,j,p,l⟩
 .subst j;let(z,i,w,f,dd):=wG I.Yq e;show wpAny_in_of (tf m) i dd.mapOf ?_;rw[<-(f.val k).aaD,<-l];show h _ (I.tok _)
 .subst j;cases(show u=W2.ref b from m);let(z,i,xs,f,dd):=w6 I.Yq e;show aml (acm n) (vK I.Yq p) i dd ?_;let q:=(f.val k).aaD;rw[aav]at q;rw[<-q,<-l];show h _ (I.tok _)
theorem mH{c:Heap}{d:Nat}{f:HO}(I:Inv X Z Y H s)(g:Sb (H a))(h:Heap.SameBut a s.heap c)(i:∃q,c.get? a=M q)(new:ObjOk X.prog X.w (aR H a f) c a f):
  Inv X Z Y (aR H a f) {s with heap:=c,toks:=d}:=
 I.write (x:=a) (e:=a) g (.inl W) (λb q j z=>(h.2 b j).trans z) i new
theorem yf(z:XF.length<=Xl)(hd:(a==Yv)=R)(b:KV XF C)(dd:h'.DictOf (cC e w) a C):
  ObjOk e w H' h' a (.dK XF):=#[z,hd,C,b,dd]
def Ck{H':Hp}{Q:Unit->Xd->Prop}(L:A.units+1<cLine)(I:Inv X Z Y H s)(g:afl H a y v H')(F:RelV y u)(x:RelV v r)(h:∀d,Inv X Z Y H' d->Q ⟨⟩ d):
  wpAny (model X.prog X.w) A (setItem (.ref a) u r) Q E s:=by
 rcases g with⟨w,k,e,B,l,C⟩|⟨w,k,b,e,B,K,l,C⟩
 .subst B C
  let(z,t,vs,f,dd):=xt I.Yq e;let m:vs.length<=Xl:=by rw[<-f.length];show z
  let p:(iY w k v).length<=Xl:=by let:=jT w k v;ext
  show wpAny_setItem_pairs (hsz:=m) (tf F) dd λG i n=>h _ ?_;let M:∃q,G.get? a=cL q:=let#[q,_,_,j,_]:=i;#[q,j]
  show mH I (by rw[e];show True.intro) n M (yf p t (f.put k x) i)
 .subst B C
  cases(show u=W2.ref b from F);let(z,t,xs,f,dd):=TV I.Yq e;let m:xs.length<=Xl:=by rw[<-Paired.length f];show z
  let p:(iY w k v).length<=Xl:=by let:=jT w k v;ext
  show agG (hsz:=m) (acm L) (vK I.Yq K) dd λG i n=>h _ ?_;let(q,es,S,j,R,P,O,_,N):=i;show mH I (by rw[e];show True.intro) n #[q,j] #[p,t,_,(f.put k K x).keeps λc T J=>?_,q,es,S,j,R,P,O,N];rw[ar (Sk J e (λz=>nomatch z))];show J
end
section
variable{X:Cx}{Z:bg (Xa×Obj)}{T:St}{H:Hp}{s:Xd}{a:Xa}{Y:bg (ci×V)}{k:ci}{u:W2}{A:XO}{E:W2->Xd->Prop}
def Tq{v:V}{b:G U}{Q:U->Xd->Prop}(I:Inv X Z T H s)(e:H a=M (.dK Y))(j:RelV (kV k) u)(l:jG Y k=M v)(hm:b=[]\/∃x,b=[x])
  (h:∀c d,Inv X Z T (aR H a (.dK (mP Y k))) d->RelV v c->Q c d):wpAny (model X.prog X.w) A (call (.builtin "dict.pop") (.ref a::u::b)) Q E s:=by
 let(z,B,w,f,dd):=xt I.Yq e;let(c,n,m):=aad.some_of (v:=v) (o:=valueAt w k) (by rw[<-l];show f.val k);let r:(keyPart u).isSome=S:=by
  cases k with
  |inl i=>let(t,q):=(show∃t,u=W2.int i t from j);subst q;rfl
  |inr x=>let(t,q):=(show∃t,u=W2.str x t from j);subst q;rfl
 let N:argsOk "dict.pop" #[.ref a::u::b,[]]:=by
  rcases hm with q|⟨x,q⟩
  .subst q;show PySem.F.args_dict_pop_2 _ _
  .subst q;show PySem.F.args_dict_pop_3 _ _ _
 show acz ac5 dd.typeIs PySem.F.entry_dict_pop N (meets_dict_pop_there (cC X.prog X.w) a (tf j) b hm r)
  #[w,c,dd,by rw[<-f.length];show z,n,λC g p=>h c _ ?_ m]
 let y:∃q,C.get? a=M q:=let#[q,_,_,L,_]:=g;#[q,L]
 show mH I (by rw[e];show True.intro) p y (yf (XX (Ed Y k) z) B (f.drop k) g)
end
def Op(i:XA):Prop:=∀a b,subscripted i R a b=operate [a,b] (getItem a b)
def BL{T id:String}
  (m:typeLookup (.type T) "__getitem__"=pure (M (.builtin id))) (l:Op slice)
  (h:wpAny (model prog w) A (eval value env) (λo d=>wpAny (model prog w) A (eval slice env) (λi c=>c.TypeIs o T/\wpAny (model prog w) A (getItem o i) Q E c) E d) E s):
  wpAny (model prog w) A (eval (.Subscript value slice pos) env) Q E s:=by
 show Subscript_ (wpAny_mono h (λo d g=>wpAny_mono g (λi c a=>?_) λ_ _ x=>x) λ_ _ x=>x);let(j,a):=a;ext subscriptTail;show lD ?_;rw[getitemInPython_of_ne j.not_modules];show lD (aja j m ?_);let e:wpAny (model prog w) A (subscripted slice R o i) (λr b=>wpAny (model prog w) A (letTemporaryGo value o r>>=λ_=>pure r) Q E b) E c:=by rw[l o i];show wpAny_operating (wpAny_mono a (λr b f=>lD (wpAny_letTemporaryGo (W9 f))) λ_ _ x=>x)
 first
  |show W9 (lD e)
  |show lD (W9 (lD e))
  |show lD e
def xW(I:Inv X pins σ H s)(g:ac3 H a y o):s.TypeIs (.ref a) "dict":=by
 rcases g with⟨f,k,e,_,_⟩|⟨f,k,b,e,_,_,_⟩
 .let(_,_,h,_,dd):=wG I.Yq e;show dd.typeIs
 .let(_,_,xs,_,dd):=w6 I.Yq e;show dd.typeIs
def NP(f ty:TE):TE:=λb H Q=>f b H λx g=>ty b g λy e=>∃a v,x=.ref a/\ac3 e a y (M v)/\Q v e
def TX(ty f:TE):TE:=λb H Q=>ty b H λy g=>f b g λx e=>∃a o,x=.ref a/\ac3 e a y o/\Q (.bl o.isSome) e
def MU(f ty e:TE):TS:=λD b H=>e b H λv i=>f b i λx h=>ty b h λy g=>∃a j,x=.ref a/\afl g a y v j/\D.nx b j
section
variable{X:Cx}{o i e Z:XA}{pos Y alf:Pos}{T U tv:TE}
def KU(t:X.A.units+1<cLine)(B:PE X o T)(c:PE X i U)(w:Op i):PE X (.Subscript o i pos) (NP T U):=by intro b s j H Q I h;show BL acw.lookup w (bV (B b s j H _ I h) λu m #[x,G,E,p,r]=>bV (c b m j G _ E r) λM L a=>?_);let(y,F,l,n,a,v,C,g,q):=a;subst C;obtain rfl:=p;show#[xW l g,Cy t l g n λJ K I3 f=>#[v,F,I3,f,q]]
def FC(r:X.A.units+1<cLine)(c:PE X i U)(t:PE X o T):PC X .In i o (TX U T):=by intro b s f H Q I h;show bV (c b s f H _ I h) λJ j #[y,E,B,l,p]=>bV (t b j f E _ B p) λu G a=>?_;let(x,C,w,m,a,q,v,g,n):=a;subst v;obtain rfl:=m;show Va r w g l λF I3=>#[.bl q.isSome,C,I3,W,n]
def IZ(B:X.A.units+1<cLine)(E:PE X o T)(c:PE X i U)(w:PE X Z tv)(C:ZC Z (cL (.Subscript o i Y)) pos.line X.env=pure W7):
  PS X (.Assign [.Subscript o i Y] Z pos) (MU T U tv):=by
 intro b s f H D I h;show ae2 (bV (w b s f H _ I h) λr l #[v,N,K,rv,t]=>bV (E b l f N _ K t) λu j #[x,Mz0,A,n,q]=>bV (c b j f Mz0 _ A q) λQ P a=>?_) C;let(y,R1,I3,m,a,L,F,g,p):=a;subst F;obtain rfl:=n;show Ck B I3 g m rv λO G=>#[f,L,G,p]
end
def og(c a:G (ci×V)):G (ci×V):=a.foldl (λb kv=>iY b kv.1 kv.2) c
def KV.merge:∀{a:G (ci×V)} {b:G (ci×U)} {d:G (ci×V)} {c:G (ci×U)},KV a b->KV d c->KV (og d a) (merged c b):=by
 intro a b d c r;unfold KV at r
 induction r generalizing d c with
 |nil=>intro q;show q
 | @cons p q j i h t g=>
  intro f;let e:KV (iY d p.1 p.2) (stored c q.1 q.2):=by let:=f.put p.1 h.2;rw[<-h.1];show this
  show g e
theorem kX:∀(a c:G (ci×V)),(og c a).length<=c.length+a.length
 |[],c=>by show c.length<=c.length+0;ext
 |p::r,c=>by let e:=kX r (iY c p.1 p.2);let b:=jT c p.1 p.2;show(og (iY c p.1 p.2) r).length<=_;rw[Xn];ext
structure M1(X:Cx)(o:XA)(m:Str)(apos:Pos)(e:XA)(ZQ:Pos):Prop where
 base:attributeBase o m X.env (eval o X.env)=eval o X.env
 few:((backTo ZQ (Xu [e] X.env)).all (λx=> !x.1)&&(backToKw ZQ (keywordEach [] X.env)).all (λx=>x.1.isSome)
  &&decide (([e]:G XA).length+([]:G aaS).length+(if([]:G aaS).isEmpty then 0 else 1)<30))=S
 line:(apos.endLine==ZQ.line)=S
 trees:backTo ZQ (Xu [e] X.env)=[(R,eval e X.env)]
structure M2(X:Cx)(o:XA)(m:Str)(apos:Pos)(e f:XA)(ZQ:Pos):Prop where
 base:attributeBase o m X.env (eval o X.env)=eval o X.env
 few:((backTo ZQ (Xu [e,f] X.env)).all (λx=> !x.1)&&(backToKw ZQ (keywordEach [] X.env)).all (λx=>x.1.isSome)
  &&decide (([e,f]:G XA).length+([]:G aaS).length+(if([]:G aaS).isEmpty then 0 else 1)<30))=S
 line:(apos.endLine==ZQ.line)=S
 trees:backTo ZQ (Xu [e,f] X.env)=[(R,eval e X.env),(R,eval f X.env)]
def VX(H:Hp)(a:J):Prop:=(∃b,Rd H a (.dK b))\/∃b,Rd H a (.dT b)
def Q1(I:Inv X pins σ H s)(d:VX H a):
  s.TypeIs (.ref a) "dict"/\(∀b,W2.ref a=.ref b->∃c,s.heap.get? b=M c/\c.dict=P)/\(a==Yv)=R:=by
 rcases d with⟨i,e⟩|⟨i,e⟩
 .let(_,f,j,_,dd):=wG I.Yq e;show#[dd.typeIs,λb q=>?_,f];ext q;let(c,_,_,h,g,_):=dd;show#[c,h,g.2.1]
 .let(_,f,xs,_,dd):=w6 I.Yq e;show#[dd.typeIs,λb q=>?_,f];ext q;let(c,_,_,h,g,_):=dd;show#[c,h,g.2.1]
def Ec(g ty:TE):TE:=λb H Q=>g b H λx f=>∃a,x=.ref a/\VX f a/\ty b f λy e=>∃h k v,e a=M (.dK h)/\y=kV k/\jG h k=M v/\Q v (aR e a (.dK (mP h k)))
section
variable{X:Cx}{o e f:XA}{Z Y:Pos}{td ty tx:TE}
def GN(B:PE X o td)(C:PE X e ty)(m:M1 X o "pop" Z e Y):PE X (.Call (.Attribute o "pop" Z) [e] [] Y) (Ec td ty):=by intro b s i H Q I h;show ahn m.base m.few m.line aaB ac5 PySem.F.type_dict_pop (bV (B b s i H _ I h) λu q a=>?_);let(x,L,j,t,a,G,d,A):=a;subst G;obtain rfl:=t;let(p,n,_):=Q1 j d;show#[p,n,?_];rw[m.trees];show Calls.callWith_builtin W (Calls.evalArgs_plain (Calls.spliced_cons (bV (C b q i L _ j A) λP O a=>?_)));let(y,T,K,r,XF,k,v,F,E,l,w):=a;show Calls.spliced_nil ?_;subst E;show Tq K F r l (.inl W) λM N I3 g=>#[v,_,I3,g,w]
end
end L2
namespace L4
open PySem PySem.Spec PyProof.Rows L2 L3
def IR(h:Heap)(e:J)(c:U)(d:I J)(a:U)(hd:I J):Prop:=
 ∃b fs,h.get? e=M b/\b.cls=c/\b.dict=d/\b.data=.fields fs/\fs[0]?=M a/\
  match hd with
  |none=>fs[1]?=M .none
  |some T=>fs[1]?=M (.ref T)/\T≠e/\∃g f,h.get? T=M g/\g.data=.fields f/\f[3]?=M .none
structure Lft(l:G Env)(e:J)(hd:I J)(h h':Heap):Prop where
 keep:∀b o,h.get? b=M o->b≠e->hd≠M b->b∉wN l->h'.get? b=M o
 slot:∀b o,h.get? b=M o->b≠e->hd≠M b->∃sl,h'.get? b=M {o with slots:=sl}
 here:∀b o,h.get? b=M o->∃o',h'.get? b=M o'
section
variable{M:adI}{A:XO}{E:W2->Xd->Prop}{s:Xd}
def ji
  (I:A.frames=cL (env::outer)) (B:s.heap.FunFrames base (env::outer)) (H:env.frame=cL L) (C:s.heap.get? e=cL ob) (p:ob.data=.fields fs) (m:1<fs.size) (J:fs[0]?=cL a0)
  (k:∀D T,s.heap.objs.size<=T->IR D e ob.cls ob.dict a0 (cL T)->Lft (env::outer) e Ld s.heap D->Q ⟨⟩ {s with heap:=D}):
  wpAny M A (frameOf env>>=λfr=>entryPlaceOf L nx>>=λpl=>EntryCells.newEntry hv fr .none (rawInt L) .none pl>>=λb=>setField (.ref e) 1 b) (λ_ V=>wpAny M A (setFlight (.ref e) Ld) Q E V) E s:=by
 let j:e∉(env::outer).filterMap (·.frame):=λz=>by let(_,o,q,n):=B.mem z;rw[C]at q;ext q;show n fs p
 show lD (wpAny_frameOf_fun I B H λa S=>?_);show lD (wpAny_entryPlaceOf λpl P=>?_);unfold EntryCells.newEntry newFields;show lD (Yc ?_ (P.sizeOk5 _ _ _ _ _));let y:=(S.2.1 e j).trans C;generalize X:({cls:=.type "traceback",dict:=Ld,data:=.fields ([hv,.ref L,.none,rawInt L,.none]++(if pl.isEmpty then Xk 6 W2.none else pl)).toArray}:Obj)=N;let g:N.data=.fields ([hv,.ref L,.none,rawInt L,.none]++(if pl.isEmpty then Xk 6 W2.none else pl)).toArray:=by rw[<-X]
 let K:=cv g;let w:=b3 N y;show YW w p m ?_;let l:=Yw (b4 y);let r:=cn p (·.setIfInBounds 1 (W2.ref a.objs.size));let i:=b9 (Obj.mapFields (·.setIfInBounds 1 (W2.ref a.objs.size))) w (cv r)
 let u:=
  (b7 (a.push N) (Obj.mapFields (·.setIfInBounds 1 (W2.ref a.objs.size))) l.symm).trans (b5 a K)
 ext setFlight;show lD (X9 i r (x:=.ref a.objs.size) (by simp[m]) ?_);rw[ax (show(W2.ref a.objs.size !=W2.none)=W3 from by simp)];let t:3<([hv,.ref L,.none,rawInt L,.none]++(if pl.isEmpty then Xk 6 W2.none else pl)).toArray.size:=by simp only[Xr,Xi,Xn,Y9];ext
 show YW u g t ?_;let v:=b7 ((a.push N).update e (Obj.mapFields (·.setIfInBounds 1 (W2.ref a.objs.size)))) (Obj.mapFields (·.setIfInBounds 3 ((Ld:bt Xa).elim W2.none λf=>rawInt f))) l;let F:=b9 (Obj.mapFields (·.setIfInBounds 3 ((Ld:bt Xa).elim W2.none λf=>rawInt f))) u (cv (cn g _));let aaQ:∀b o,b≠e->a.get? b=cL o->(((a.push N).update e (Obj.mapFields (·.setIfInBounds 1 (W2.ref a.objs.size)))).update a.objs.size (Obj.mapFields (·.setIfInBounds 3 ((Ld:bt Xa).elim W2.none λf=>rawInt f)))).get? b=cL o:=λb o ne q=>by rw[b7 _ _ (Yw (b4 q)),b7 _ _ ne.symm];show b3 N q
 show k _ a.objs.size (by rw[S.1];show Xg _) #[_,_,v.trans i,Obj.cls_mapFields _ _,?_,r,?_,?_,l,_,_,F,cn g _,?_] #[λb o q ne _ G=>aaQ b o ne ((S.2.1 b G).trans q),λb o q ne _=>?_,λb o q=>?_]
 .cases ob with
  |mk c d O h=>ext O<;>rfl
 .rw[abT ()];show J
 .simp[m]
 .rw[aa7 t];rfl
 .let(h,z):=S.2.2 b o q;show#[h,aaQ b _ ne z]
 .by_cases ne:b=e
  .subst ne;show#[_,v.trans i]
  .let(h,z):=S.2.2 b o q;show#[_,aaQ b _ ne z]
def Cd
  (v:A.frames=cL (env::outer)) (u:s.heap.FunFrames base (env::outer)) (h:env.frame=cL L) (F:IR s.heap e c dx a0 hd)
  (k:∀x T,s.heap.objs.size<=T->IR x e c dx a0 (cL T)->Lft (env::outer) e hd s.heap x->Q ⟨⟩ {s with heap:=x}):wpAny M A (leaving env (.ref e)) Q E s:=by
 let(N,fs,q,I,H,d,w,r):=F;subst I H;cases hd with
 |none=>let r:=r;unfold leaving noteFrame;simp only[h];show lD (lD (X9 q d r ?_));rw[a4 ()];show ji v u h q d (Yk.mp r).1 w k
 |some T=>
  let(r,C,O,B,g,dT,p):=r;unfold leaving noteFrame;simp only[h];show lD (lD (X9 q d r ?_));rw[ax (show(W2.ref T !=W2.none)=S from by simp)];show lD (X9 g dT p ?_);rw[a4 (show¬((W2.none==rawInt L)=S)from by simp[rawInt])];show lD (YW g dT (Yk.mp p).1 ?_);let a:∀b,b≠T->(s.heap.update T (Obj.mapFields (·.setIfInBounds 3 W2.none))).get? b=s.heap.get? b:=λb ne=>b7 _ _ ne.symm;let f:=b9 (Obj.mapFields (·.setIfInBounds 3 W2.none)) g (cv (cn dT _));let m:∀b o,s.heap.get? b=cL o->(∀X,o.data≠.fields X)->b≠T:=λb o z n y=>by rw[y,g]at z;ext z;show n B dT
  show ji v (u.of_keeps λb o z n=>#[o,(a b (m b o z n)).trans z,W]) h ((a e C.symm).trans q) d (Yk.mp r).1 w λx J t K i=>k x J (by rw[Heap.size_after_update]at t;show t) K #[λb o z l j G=>?_,λb o z l j=>?_,λb o z=>?_]
  .show i.keep b o ((a b λy=>j (by rw[y])).trans z) l (by simp) G
  .show i.slot b o ((a b λy=>j (by rw[y])).trans z) l (by simp)
  .by_cases y:b=T
   .subst y;show i.here b _ f
   .show i.here b o ((a b y).trans z)
end
theorem Lft.Yq{P:Xx}{w:XU}{l:G Env}{e:J}{hd:I J}{H:Hp}{h d:Heap}(L:Lft l e hd h d)(m:HOk P w H h)(ne:H e=Ld)(i:∀T,hd=M T->H T=Ld)(j:∀b∈wN l,H b=Ld):HOk P w H d:=λb u q=>by
 let free:∀c v,H c=M v->c≠e/\hd≠M c/\c∉wN l:=λc v z=>#[(λy=>by rw[y,ne]at z;ext z),(λy=>by rw[i c y]at z;ext z),(λy=>by rw[j c y]at z;ext z)];show(m b u q).aaQ (λc v n z=>?_) (λ_ z=>z) λ_ _ z=>z;rcases n with y|y
 .rw[y]at z⊢;let(g,f,a):=free b u q;show L.keep b v z g f a
 .let(g,f,a):=free c _ y;show L.keep c v z g f a
def lS(P:Xx)(w:XU):vd:=λa H s E x b=>
 ∃e c f a0 T H',x=.ref e/\s.heap.get? e=Ld/\s.heap.get? T=Ld/\IR b.heap e c f a0 (M T)/\H' e=Ld/\H' T=Ld/\
  b.os=s.os/\AllBare b.gens/\Un (wN a) [] H H' s.heap b.heap/\HOk P w H' b.heap/\E c f H'
def NW{P:Xx}{w:XU}{K:CL}{k:Str->bt W2}{base:Heap}{N:bg Str}{i:Str}{a:Zc}{f:Xa}{v:W2}{A:XO}{outer:bg Env}{g:Xd}{G:Hp}{E:XK}
  {l:bg (Xa×Obj)} {J:L2.St} {H:Hp} {s:Xd} {e:Xa} {c C:W2} {d hd:bt Xa} (I:L2.Inv (fC (lS P w) P w K k base N i a f v A outer g G E) l J H s)
  (F:IR s.heap e c d C hd) (u:g.heap.get? e=Ld) (S:∀T,hd=cL T->g.heap.get? T=Ld) (ne:H e=Ld) (Q:∀T,hd=cL T->H T=Ld) (q:E c d H):
  (fC (lS P w) P w K k base N i a f v A outer g G E).xe (.ref e) s:=by
 let Z:=I.ok.frames;let Y:=I.stack;show Cd (L:=g.heap.objs.size) Z Y W F λh' T t F' L=>?_;let R:=L.Yq I.Yq ne Q I.aci;let X:H T=Ld:=I.Yq.fresh t;let p:∀b o,g.heap.get? b=cL o->b<g.heap.objs.size:=λb o z=>b4 z;let h:∀b o,g.heap.get? b=cL o->b≠e/\hd≠cL b:=λb o z=>#[(λy=>by rw[y,u]at z;ext z),(λy=>by rw[S b y]at z;ext z)];let sz:=I.sz;show#[e,c,d,C,T,H,W,u,ck (XX sz t),F',ne,X,I.os,I.bare,?_,R,q];let B:=I.base;show#[λb o z n r _=>?_,λb o z n U _=>?_,λb o z n _=>?_,λb o z _=>?_,B.ab4,B.abQ,B.ab6]
 .let j:=B.keep b o z n r (λy=>nomatch y)
  show L.keep b o j (h b o z).1 (h b o z).2 λy=>?_;rcases Xw.mp (I.abO b y)with y|y
  .let y:b=g.heap.objs.size:=y;show bb (p b o z) (by rw[y];show YN _)
  .show r y
 .let(sl,j):=B.slot b o z n U (λy=>nomatch y);let(m,M):=L.slot b _ j (h b o z).1 (h b o z).2;show#[m,M]
 .show B.free b o z n (λy=>nomatch y)
 .let(O,j):=B.there b o z (λy=>nomatch y);show L.here b O j
def Hl{P:Xx}{w:XU}{K:CL}{d:Str->bt U}{base:Heap}{N:G Str}{g:Str}{a:Zc}{f:J}{l:U}{A:XO}{outer:G Env}{h:Xd}{p:Hp}{E:XK}:
  dW (lS P w) (fC (lS P w) P w K d base N g a f l A outer h p E) E:=by
 rintro j r H s x t I ⟨e,c,Q,v,T,B,rfl,le,L,F,ne,C,os,bare,un,Yq,q⟩;let n:=I.afh (ch:=[]) os un Yq bare (λb z=>nomatch z);let old:∀b,s.heap.get? b=Ld->h.heap.get? b=Ld:=λb z=>by
  cases y:h.heap.get? b with
  |none=>rfl
  |some o=>let(u,i):=I.base.there b o y (λy=>nomatch y);rw[z]at i;ext i
 show NW n F (old e le) (λm z=>by ext z;show old T L) ne (λm z=>by ext z;show C) q
def Rp(x:ObjOk b w H h a o):∃c,h.get? a=M c:=by
 cases o with
 |lst xs=>let(_,_,_,_,e):=x;show#[_,e]
 |tup xs=>let(_,_,_,c,e,_):=x;show#[c,e]
 |dK i=>let(_,_,_,_,o,_,_,e,_):=x;show#[o,e]
 |dT i=>let(_,_,_,_,o,_,_,e,_):=x;show#[o,e]
 |set S n=>let(o,_,_,_,e,_):=x;show#[o,e]
 |ins C m fs=>let(_,_,_,e,_):=x;show#[_,e]
 |own y=>show x
 |xd fs=>let(_,(o,_,_,e,_),_):=x;show#[o,e]
 |rng lo l=>let(_,_,_,e):=x;show#[_,e]
 |frz c u=>show#[c,x.1]
 |tbl j=>show#[_,x]
 |met f y=>show#[_,x]
 |ext g=>show x.2.1
 |exw g=>show x.2.1
def ww(k:HOk e w H h)(n:h.get? a=Ld):H a=Ld:=by
 cases q:H a with
 |none=>rfl
 |some o=>let(b,z):=Rp (k a o q);rw[n]at z;ext z
section
variable{M:adI}{A:XO}{E:W2->Xd->Prop}{s:Xd}
def K8{base:Heap}{env:Env}{outer:bg Env}{L e:Xa}{c B:U}{D hd:bt Xa}{Q:Unit->Xd->Prop}
  (v:A.frames=cL (env::outer)) (u:s.heap.FunFrames base (env::outer)) (h:env.frame=cL L) (F:IR s.heap e c D B hd)
  (k:∀x T,s.heap.objs.size<=T->IR x e c D B (cL T)->Lft (env::outer) e hd s.heap x->Q ⟨⟩ {s with heap:=x}):
  wpAny M A (noteFrame (.ref e) env) (λ_ s2=>wpAny M A (setFlight (.ref e) Ld) Q E s2) E s:=by
 let(O,fs,q,J,I,d,w,r):=F;subst J I;cases hd with
 |none=>let r:fs[1]?=cL .none:=r;ext noteFrame;simp only[h];show lD (X9 q d r ?_);rw[a4 ()];show ji v u h q d (Yk.mp r).1 w k
 |some T=>
  let(r,G,P,C,g,dT,p):=r;ext noteFrame;simp only[h];show lD (X9 q d r ?_);rw[ax (show(W2.ref T !=W2.none)=S from by simp)];show lD (X9 g dT p ?_);rw[a4 (show¬((W2.none==rawInt L)=S)from by simp[rawInt])];show lD (YW g dT (Yk.mp p).1 ?_);let a:∀b,b≠T->(s.heap.update T (Obj.mapFields (·.setIfInBounds 3 W2.none))).get? b=s.heap.get? b:=λb ne=>b7 _ _ ne.symm;let f:=b9 (Obj.mapFields (·.setIfInBounds 3 W2.none)) g (cv (cn dT _));let m:∀b o,s.heap.get? b=cL o->(∀X,o.data≠.fields X)->b≠T:=λb o z n y=>by rw[y,g]at z;ext z;show n C dT
  show ji v (u.of_keeps λb o z n=>#[o,(a b (m b o z n)).trans z,W]) h ((a e G.symm).trans q) d (Yk.mp r).1 w λx K t N i=>k x K (by rw[Heap.size_after_update]at t;show t) N #[λb o z l j H=>?_,λb o z l j=>?_,λb o z=>?_]
  .show i.keep b o ((a b λy=>j (by rw[y])).trans z) l (by simp) H
  .show i.slot b o ((a b λy=>j (by rw[y])).trans z) l (by simp)
  .by_cases y:b=T
   .subst y;show i.here b _ f
   .show i.here b o ((a b y).trans z)
def P2{e T:J}{c l:U}{y:I J}{Q:Unit->Xd->Prop}(F:IR s.heap e c y l (cL T))
  (k:∀x,IR x e c y l (cL T)->(∀b,b≠T->x.get? b=s.heap.get? b)->(∃o,x.get? T=cL o)->Q ⟨⟩ {s with heap:=x}):wpAny M A (setFlight (.ref e) P) Q E s:=by
 let(n,fs,q,t,p,d,u,r,j,w,v,i,dT,m):=F;ext setFlight;show lD (X9 q d r ?_);rw[ax (show(W2.ref T !=W2.none)=S from by simp)];let h:=(Yk.mp m).1;show YW i dT h ?_;let g:∀b,b≠T->(s.heap.update T (Obj.mapFields (·.setIfInBounds 3 ((P:I J).elim W2.none λf=>rawInt f)))).get? b=s.heap.get? b:=λb ne=>b7 _ _ ne.symm;let a:=b9 (Obj.mapFields (·.setIfInBounds 3 ((P:I J).elim W2.none λf=>rawInt f))) i (cv (cn dT _));show k _ #[n,fs,(g e j.symm).trans q,t,p,d,u,r,j,_,_,a,cn dT _,?_] g #[_,a];rw[aa7 h];rfl
end
section
variable{P:Xx}{w:XU}{K:CL}{mg:Str->bt W2}{base:Heap}{N:bg Str}{qual:Str}{scope:Zc}{f:Xa}{cd:W2}{A:XO}{outer:bg Env}{s0:Xd}{H0:Hp}{E:XK}{CX:vd}
  {σ:L2.St} {H:Hp} {s:Xd} {h':Heap} {X:Cx}
def wV(I:L2.Inv X [] σ H s)(S:Xa->Prop)(J:X.ex=[])(C:∀p∈X.pn,¬S p.1)(keep:∀b o,s.heap.get? b=cL o->¬S b->b∉wN X.stack->h'.get? b=cL o)
  (slot:∀b o,s.heap.get? b=cL o->¬S b->∃d,h'.get? b=cL {o with slots:=d}) (j:∀b o,s.heap.get? b=cL o->∃k,h'.get? b=cL k)
  (U:∀b,S b->X.s₀.heap.get? b=Ld) (Q:¬S X.env.locals) (T:∀x c,X.env.cells.lookup x=cL c->¬S c) (R:∀b,S b->H b=Ld):L2.Inv X [] σ H {s with heap:=h'}:=by
 let M:∀b o,X.s₀.heap.get? b=cL o->¬S b:=λb o z y=>by rw[U b y]at z;ext z
 let h:∀b,b∉X.ex:=λb z=>by rw[J]at z;ext z
 let B:=I.base;let a:∀x c,X.env.cells.lookup x=cL c->∀v,s.heap.IsCell c v->h'.IsCell c v:=λx c z v #[o,G,L]=>by let(d,q):=slot c o G (T x c z);show#[_,q,L]
 show#[I.ok,I.os,I.bare,#[λb o z n g _=>?_,λb o z n Z _=>?_,λb o z n x=>B.free b o z n x,λb o z x=>?_,B.ab4,B.abQ,B.ab6],?_,λx c z=>?_,I.free,I.Z7,λp F=>?_,λb u q=>?_,I.len]
 .let e:=B.keep b o z n g (h b)
  show keep b o e (M b o z) λy=>?_;rcases Xw.mp (I.abO b y)with y|y
  .rw[y]at z;show bb (b4 z) (Nat.not_lt_of_le I.ok.above)
  .show g y
 .let(d,e):=B.slot b o z n Z (h b);let(t,O):=slot b _ e (M b o z);show#[t,O]
 .let(k,e):=B.there b o z x;show j b k e
 .let(m,hn,Y):=I.loc
  let(o,es,ep,G,L,r):=hn;let(d,q):=slot _ o G Q;show#[m,#[_,es,ep,q,L,r],λi x v a1 a2 a3=>?_];let(u,rv,l):=Y i x v a1 a2 a3;show#[u,rv,?_];rcases l with l|⟨kd,c,z,y⟩
  .show .inl l
  .show .inr #[kd,c,z,a x c z _ y]
 .let(v,y):=I.cell x c z;show#[v,a x c z v y]
 .let(z,n,ne,g,dd):=I.pin p F
  rw[X5]at F;show#[keep p.1 p.2 z (C p F) (λy=>?_),n,ne,g,dd];rcases Xw.mp (I.abO _ y)with y|y
  .show ne y
  .show g y
 .let free:∀c v,H c=cL v->¬S c/\c∉wN X.stack:=λc v z=>#[(λy=>by rw[R c y]at z;ext z),(λy=>by rw[I.aci c y]at z;ext z)]
  show(I.Yq b u q).aaQ (λc v hc z=>?_) (λ_ z=>z) λ_ _ z=>z;rcases hc with y|y
  .rw[y]at z⊢;show keep b v z (free b u q).1 (free b u q).2
  .show keep c v z (free c _ y).1 (free c _ y).2
end
section
variable{M:adI}{A:XO}{E:W2->Xd->Prop}{h:Heap}{g:Array abd}{d:aeJ}{t:Nat}{os:adz}
def Fv{C U e:Xa}{j:Obj}{B w y v:Str}{D z:Xa}{b1 l x a:bg W2}{c Z:Bool}{u r:bg Str}{q p:bg W2}{a1 a2:Bool}{s k:bt Bool}{o n:bt Xa}{P O N L K J I H G F:bt W2}{f b:String}{Q:Bool->Xd->Prop}
  (Y:h.get? C=cL (excClassObj B w C D b1 l c u q a1 s o P O N L K f)) (m:h.get? U=cL (excClassObj y v U z x a Z r p a2 k n J I H G F b)) (S:h.get? e=cL j) (T:j.cls=.ref C)
  (X:a.contains (.type "BaseException")=W3) (hm:(W2.ref C::l).contains (.ref U)=W3) (R:Q W3 #[h,g,d,t,os]):wpAny M A (excMatches (.ref e) (.ref U)) Q E #[h,g,d,t,os]:=by
 let i:(W2.ref U::a).contains (.type "BaseException")=W3:=by rw[aar,X,aaU]
 let ft:=tc_notTuple;ext excMatches
 repeat (first|(specialize YY S ?_;rw[T])|specialize YY m ?_|(specialize ZT m ?_;rw[i])|(specialize ZT Y ?_;rw[hm])|wp_step)
 show R
end
abbrev Cx.marked(X:Cx)(e:J):Cx:={X with A:=X.A.mark (M (.ref e)),calm:=R,xe:=λ_ _=>False}
section
variable{X:Cx}{Z:L2.St}{H:Hp}{s:Xd}{Y:Heap}{e:Xa}
theorem qE(I:L2.Inv X [] Z H s)(e:J):L2.Inv (Cx.marked X e) [] Z H s:=
 #[#[I.ok.mod,I.ok.kind,I.ok.glob,I.ok.blt,I.ok.above,I.ok.inj,I.ok.has,I.ok.cab,(λz=>nomatch z),I.ok.frames,I.ok.stk,I.ok.exf,I.ok.bs,I.ok.bsz,I.ok.adt,I.ok.adm,I.ok.abo,I.ok.frf],I.os,I.bare,I.base,I.loc,I.cell,I.free,I.Z7,I.pin,I.Yq,I.len]
theorem qI(ok:X.Ok)(I:L2.Inv (Cx.marked X e) [] Z H s):L2.Inv X [] Z H s:=
 #[ok,I.os,I.bare,I.base,I.loc,I.cell,I.free,I.Z7,I.pin,I.Yq,I.len]
def Cq(I:L2.Inv X [] Z H s){g:Obj}(h:∀p∈X.pn,p.1≠e)(q:s.heap.get? e=M g)(ne:H e=P)(t:X.s₀.heap.get? e=P)(l:e≠X.env.locals)(m:∀x c,X.env.cells.lookup x=M c->c≠e):L2.Inv X [] Z (aR H e (.frz g (.own e))) s:=by
 let j:∀b o,X.s₀.heap.get? b=M o->b≠e:=λb o z y=>by rw[y,t]at z;ext z
 let a:∀b o,H b=M o->b≠e:=λb o z y=>by rw[y,ne]at z;ext z
 let B:=I.base;show#[I.ok,I.os,I.bare,#[B.keep,B.slot,λb o z n x=>?_,B.there,λb xs z=>?_,λb o u z=>?_,λb v z=>?_],I.loc,I.cell,?_,λx c z=>?_,λp i=>?_,λb u z=>?_,I.len]
 .rw[ar (j b o z)];show B.free b o z n x
 .let:=B.ab4 b xs z;rw[ar (a b _ this)];show this
 .let:=B.abQ b o u z;rw[ar (a b _ this)];show this
 .let(f,y):=B.ab6 b v z;show#[f,by rw[ar (a b _ y)];show y]
 .rw[ar l.symm];show I.free
 .rw[ar (m x c z)];show I.Z7 x c z
 .let(z,n,r):=I.pin p i;rw[X5]at i;show#[z,by rw[ar (h p i)];show n,r]
 .by_cases y:b=e
  .subst y;rw[ay]at z;ext z;show#[q,g,q]
  .rw[ar y]at z;show(I.Yq b u z).aaQ (λ_ _ _ y=>y) (λc y=>by rw[ar (a c _ y)];show y) λc xs y=>by rw[ar (a c _ y)];show y
def ud{M:adI}{A:XO}{E:U->Xd->Prop}(I:L2.Inv X [] Z H s){n:Str}{i:Nat}{pos:Pos}{Q:Unit->Xd->Prop}(D:X.N.Nodup)(l:X.N[i]?=cL n)(d:X.env.kindOf n=cL .local)
  (k:∀h,L2.Inv X [] (Z.set i P) H h->Q ⟨⟩ h):wpAny M A (do bindName X.env n .none;unbindBehindTheSuite X.env n pos) Q E s:=by
 let(m,hn,hl):=id I.loc;let g:(X.env.scope.kind==.class||(X.env.scope.kind==.module&&X.env.locals !=X.env.globals))=R:=by rw[I.ok.kind];rfl
 show wpAny_nameGoes_keeps d hn g λh2 v hm S=>k _ ?_;let B:=I.base;let cne:=I.cne;let old:∀b o,X.s₀.heap.get? b=cL o->h2.get? b=s.heap.get? b:=λb o z=>S.2 b (XB (XD (b4 z) I.ok.above));let f:i<Z.length:=by rw[I.len];show(W6.mp l).1
 show#[I.ok,I.os,I.bare,#[λb o z n nf x=>(old b o z).trans (B.keep b o z n nf x),λb o z n hf x=>?_,B.free,λb o z x=>?_,B.ab4,B.abQ,B.ab6],#[_,hm,λj y t a1 a2 a3=>?_],λy c z=>?_,I.free,I.Z7,λp hp=>?_,λb u z=>?_,by rw[Yf];show I.len]
 .let(L,y):=B.slot b o z n hf x;show#[L,(old b o z).trans y]
 .let(T,y):=B.there b o z x;show#[T,(old b o z).trans y]
 .by_cases hj:j=i
  .subst hj;rw[Yh f]at a2;ext a2
  .rw[XH (c9 hj)]at a2
   let(C,N,q):=hl j y t a1 a2 a3;show#[C,N,?_];rcases q with⟨kd,z⟩|⟨kd,c,z,w⟩
   .show .inl #[kd,?_];let:y≠n:=λz=>hj (sg D a1 (z▸l));simp[this,z]
   .show .inr #[kd,c,z,w.sameBut S (cne y c z)]
 .let(w,a):=I.cell y c z;show#[w,a.sameBut S (cne y c z)]
 .let(z,n,ne,r):=I.pin p hp;show#[(S.2 p.1 ne).trans z,n,ne,r]
 .let free:∀c u,H c=cL u->c≠X.env.locals:=λc u z y=>by rw[y,I.free]at z;ext z
  show(I.Yq b u z).aaQ (λc w hc y=>(S.2 c ?_).trans y) (λ_ y=>y) λ_ _ y=>y;rcases hc with a|a
  .rw[a];show free b u z
  .show free c _ a
end
def zT(K:CL)(C:J)(m:G U):Prop:=∃nm q N bs hd sn sub b col dd a k1 k2 k3 k5 id,K.lookup C=M (excClassObj nm q C N bs m hd sn sub b col dd a k1 k2 k3 k5 id)
structure Apart(X:Cx)(a:J):Prop where
 n0:X.s₀.heap.get? a=P
 nL:a≠X.env.locals
 nC:∀y c,X.env.cells.lookup y=M c->c≠a
 nP:∀p∈X.pn,p.1≠a
def qu(I:L2.Inv X pins σ H s)(e:X.ex=[])(n:s.heap.get? a=P):Apart X a:=by
 let ne:∀b o,s.heap.get? b=M o->b≠a:=λb o z y=>by rw[y,n]at z;ext z
 show#[?_,?_,λy c z=>?_,λp h=>?_]
 .cases z:X.s₀.heap.get? a with
  |none=>rfl
  |some o=>let(g,y):=I.base.there a o z (by rw[e];simp);show bb W (ne a g y)
 .let(m,(o,_,_,z,_),_):=I.loc;show(ne _ o z).symm
 .let(v,o,f,_):=I.cell y c z;show ne c o f
 .show ne _ _ (I.pin p (Yg _ h)).1
abbrev Cx.pinned(X:Cx)(l:G (J×Obj)):Cx:={X with pn:=l}
theorem J0(I:L2.Inv X pins σ H s):L2.Inv (Cx.pinned X (X.pn++pins)) [] σ H s:=
 #[#[I.ok.mod,I.ok.kind,I.ok.glob,I.ok.blt,I.ok.above,I.ok.inj,I.ok.has,I.ok.cab,I.ok.hd,I.ok.frames,I.ok.stk,I.ok.exf,I.ok.bs,I.ok.bsz,I.ok.adt,I.ok.adm,I.ok.abo,I.ok.frf],I.os,I.bare,I.base,I.loc,I.cell,I.free,I.Z7,(λp a=>I.pin p (by rw[X5]at a;show a)),I.Yq,I.len]
theorem gP(ok:X.Ok)(I:L2.Inv (Cx.pinned X (X.pn++pins)) [] σ H s):L2.Inv X pins σ H s:=
 #[ok,I.os,I.bare,I.base,I.loc,I.cell,I.free,I.Z7,(λp a=>I.pin p (by rw[X5];show a)),I.Yq,I.len]
end L4
namespace L4
open PySem PySem.Spec PySem.W PyProof.Rows L2 L3
section
variable{X:Xx}{w:XU}{A:XO}{E:W2->Xd->Prop}{h:Heap}{g:Array abd}{d:aeJ}{t:Nat}{T:adz}{a C:Xa}{o:Obj}{K:CL}
  {N L:Str} {B:Xa} {y Z:bg W2} {v:Bool} {u:bg Str} {r:bg W2} {q:Bool} {p:bt Bool} {n:bt Xa} {l i1 i2 i3 i5:bt W2} {Y:String}
def yQ{M:adI}{b:U}{Q:Unit->Xd->Prop}(j:h.get? C=cL (excClassObj N L C B y Z v u r q p n l i1 i2 i3 i5 Y))(i:Z.contains (.type "BaseException")=S)
  (e:h.get? a=cL o) (f:o.cls=.ref C) (k:Q ⟨⟩ #[h,g,d,t,T]):wpAny M A (checkBuiltinCall "BaseException.__getattribute__" #[[.ref a,b],[]]) Q E #[h,g,d,t,T]:=by
 let e1:builtinKind "BaseException.__getattribute__"=cL .slot:=by left
 let e2:splitId "BaseException.__getattribute__"=cL ("BaseException","__getattribute__"):=by left
 let e3:(W2.ref C::Z).contains (.type "BaseException")=S:=by rw[aar,i,aaU]
 let e4:=F.args_bexc_ga (.ref a) b;simp only[checkBuiltinCall,e1,e2];show lD ?_;ext isInstance
 repeat (first|(specialize YY e ?_;rw[f])|(specialize ZT j ?_;rw[e3])|wp_step)
 show k
structure aec(K:CL)(C:J)(m:G U):Prop where
 cl:zT K C m
 be:m.contains (.type "BaseException")=S
 ga:findIn K (.ref C) "__getattribute__"=M (M (.builtin "BaseException.__getattribute__"))
 gt:findIn K (.ref C) "__getattr__"=M P
 cs:findIn K (.ref C) "__class__"=M (M (.builtin "object.__class__"))
 ob:mroIn K C (.type "object")=M S
end
end L4
namespace HT
open PySem PySem.Spec PyProof.Rows
section
variable{Y:Xx}{w:XU}{A:XO}{E:W2->Xd->Prop}{s:Xd}
def getItem_tuple_all{t e:J}{a:Array U}{n l:U}{lo c:I Int}{Q:U->Xd->Prop}(b:IsTup s.heap t a)(p:s.heap.IsSliceOf e n l .none)(pl:abH n lo)(q:abH l c)
  (o:sIx a.size 0 lo=0/\sIx a.size a.size c=a.size) (h:Q (.ref t) s):wpAny (model Y w) A (getItem (.ref t) (.ref e)) Q E s:=by
 let(r,f,g,u):=id p;let i:s.TypeIs (.ref e) "slice":=#[r,f,g];ext getItem
 try specialize Ys ?_
 first|show lD (W9 ?_)|skip
 show lD (ahl b.typeIs () ?_);show lD (Yn (name:=Str.ofString "__getitem__") b.typeIs Yo
  (Yt Yo b.typeIs entry_tuple_getitem ?_ (args_tuple_getitem _ _)))
 show wpAny _ _ (XS.Tuple.tupleItemsOf (.ref t)>>=_) _ _ s;show lD (tupleItemsOf_ b ?_);show lD (aaA i ?_);rw[ax ()];show lD (iR p pl q ?_);let j:((((sIx a.size 0 lo:Nat):Int)==0&&(1:Int)==1&&(sIx a.size a.size c - sIx a.size 0 lo)==a.size)=S):=by rw[o.1,o.2];simp
 show wpAny _ _ (if(((sIx a.size 0 lo:Nat):Int)==0&&(1:Int)==1&&(sIx a.size a.size c - sIx a.size 0 lo)==a.size)=S then _ else _) _ _ s;rw[ax j];show lD (m:=XS.Tuple.tupleIsExact _) ?_;ext XS.Tuple.tupleIsExact;show lD (aaA b.typeIs (W9 ?_));rw[ax ()];show lD (abl ?_);show W9 #[_,W,W9 h]
end
end HT
namespace L3
open PySem PySem.Spec PyProof.Rows L2
def Up(K:CL):V->I Int->I Int->Hp->VK->Prop:=λx lo b H Q=>∃(a:J) (xs:G V),x=.ref a/\SqT K H a xs/\(HT.sIx xs.length 0 lo=0/\HT.sIx xs.length xs.length b=xs.length)/\Q (.ref a) H
def GY{X:Cx}:Nw X (Up X.K):=by
 intro e s o H x v t p lo y u Q I g m pl i h;let(a,xs,rfl,j,l,q):=h;ext g;let(n,r,f,w):=I.tuple j;let b:n.toArray.size=xs.length:=by rw[Xr];show r.length.symm
 show#["tuple",_,Yo.lookup,f.typeIs,?_];show HT.getItem_tuple_all f m pl i (by rw[b];show l) #[.ref a,H,I,W,q]
def Tf(K:CL):V->I Int->I Int->Hp->VK->Prop:=λx lo a H Q=>Rg K x lo a H Q\/Up K x lo a H Q
def Ja{X:Cx}:Nw X (Tf X.K):=by
 intro a s b H x v f e lo l g Q I h j pl i q;rcases q with q|q
 .show Ib a s b H x v f e lo l g Q I h j pl i q
 .show GY a s b H x v f e lo l g Q I h j pl i q
def UK:D->I Int->I Int->I RV
 |.list ds,lo,a=>M (.ow (oG ds lo a))
 |.tuple ds,lo,a=>M (.fz (.tuple (oG ds lo a)))
 |_,_,_=>P
def Mf{ds:G D}{lo a:I Int}(h:HT.sIx ds.length 0 lo=0/\HT.sIx ds.length ds.length a=ds.length):oG ds lo a=ds:=by ext oG;rw[h.1,h.2,acK,adP,Z9]
def SS{K:CL}:So K (Tf K) UK:=by
 intro O H x lo i l j Q n b e q;cases l with
 |list ds=>show .inl (vP O H x lo i _ j Q n b e q)
 |tuple ds=>
  ext e;by_cases f:HT.sIx ds.length 0 lo=0/\HT.sIx ds.length ds.length i=ds.length
  .let(a,xs,rfl,h,g):=DK b;rw[Mf f]at q;show .inr #[a,xs,W,h.1,by rw[g.length];show f,q.at (.tup h g)]
  .show .inl (vP O H x lo i (.tuple ds) _ Q n b ?_ q)
   show(if jK ds.length lo i=S then P else M (RV.fz (.tuple (oG ds lo i))))=_;let z:jK ds.length lo i=R:=by ext jK;show a6 f
   rw[z,a4 Xs]
 |_=>ext e
section
variable{K:CL}{E:XK}
end
end L3
namespace L9
open PySem PySem.Spec PyProof.Rows
section
variable{M:adI}{A:XO}{E:W2->Xd->Prop}{Y:Env}
variable{nm q:Str}{C N:Xa}{bs Z:bg W2}{hdct:Bool}{sn:bg Str}{sub:bg W2}{ab:Bool}{col:bt Bool}{dd:bt Xa}{k0 k1 k2 k3 k5:bt W2}{newId:String}
def iJ(i:Z.contains (.type "BaseException")=S)(o:A.handled=P)
  (h:wpAny M A x (λv c=>∃e k,v=.ref e/\c.heap.get? C=cL (excClassObj nm q C N bs Z hdct sn sub ab col dd k0 k1 k2 k3 k5 newId)/\c.heap.get? e=cL k/\k.cls=.ref C/\(∃fs,k.data=.fields fs/\fs[1]?=cL W2.none)/\E (.ref e) c) E s):
  wpAny M A (raiseStmt Y (cL x) P) Q E s:=by
 let f:(W2.ref C::Z).contains (.type "BaseException")=S:=by rw[aar,i,aaU]
 ext raiseStmt;show lD (wpAny_mono h (λv c a=>?_) λ_ _ x=>x);let(e,k,rfl,m,p,l,(fs,j,b),r):=a;let(y,w,n):=k;dsimp only at l j;subst l j;let(B,g,d,t,u):=c
 repeat (first|specialize YY p ?_|specialize YY m ?_|(specialize ZT m ?_;rw[f])|wp_step)
 rw[b]
 repeat wp_step
 show agf o r
end
section
variable{prog:Xx}{w:XU}{A:XO}{E:W2->Xd->Prop}{h:Heap}{g:Array abd}{d:aeJ}{t:Nat}{os:adz}
variable{nm q:Str}{C N:Xa}{bs S Z:bg W2}{hdct:Bool}{sn:bg Str}{sub:bg W2}{ab:Bool}{col:bt Bool}{dd:bt Xa}{k0 k1 k2 k3 k5:bt W2}{B P L Y R X:String}{U:bg W2}
def ph(Fn:aab P L X U)(j:Z.contains (.type P)=W3)(F:aab B Y R Z)(T:aho h Z S)
  (i:h.get? C=M (excClassObj nm q C N bs S hdct sn sub ab col dd k0 k1 k2 k3 k5 L)) (s:h.Ns N mN) (z:mN "__init__"=M (.ref fI)) (p:h.get? fI=M oI) (n:oI.cls=.type "function")
  (G:∀k e,Heap.MadeExcOf h k e (.ref C) rest->wpAny (model prog w) A (call (.ref fI) (.ref e::rest)) (λr c=>r=.none/\Q (.done (.ret (.ref e))) c) E #[k,g,d,t,os]) (hrest:rest.length<=Xl):
  wpAny (model prog w) A (XS.«type.__call__» #[.ref C::rest,[]]) Q E #[h,g,d,t,os]:=by
 repeat (first|specialize YY i ?_|specialize wpAny_madeBy_exc i ?_|wp_step)
 show codeAny_call_builtin_code (adK.quiet_builtin _ Fn.quiet) (wpAny_check_new_subU Fn j T i ?_);show codeAny_exc_new_subU Fn j F T i ?_ hrest
 let a:=b3 {cls:=.ref C,data:=.fields #v[.ref h.objs.size,.none,.none,.none,.bool W7,.none]}
  (b3 {cls:=.type "tuple",data:=.seq rest.toArray} i)
 let v:=b3 {cls:=.ref C,data:=.fields #v[.ref h.objs.size,.none,.none,.none,.bool W7,.none]}
  (b3 {cls:=.type "tuple",data:=.seq rest.toArray} p)
 let f:((h.push {cls:=.type "tuple",data:=.seq rest.toArray}).push {cls:=.ref C,data:=.fields #v[.ref h.objs.size,.none,.none,.none,.bool W7,.none]}).Ns N mN:=
  let#[o,es,ep,e,r]:=s;#[o,es,ep,b3 _ (b3 _ e),r]
 let l:((h.push {cls:=.type "tuple",data:=.seq rest.toArray}).push
   {cls:=.ref C,data:=.fields #v[.ref h.objs.size,.none,.none,.none,.bool W7,.none]}).get? (h.objs.size+1)=M
   {cls:=.ref C,data:=.fields #v[.ref h.objs.size,.none,.none,.none,.bool W7,.none]}:=by heap_get
 let u:(W2.ref C::S).contains (.ref C)=W3:=by simp
 let m:=T.keeps (h':=(h.push {cls:=.type "tuple",data:=.seq rest.toArray}).push {cls:=.ref C,data:=.fields #v[.ref h.objs.size,.none,.none,.none,.bool W7,.none]})
  λb o e=>b3 _ (b3 _ e)
 ext isInstance
 repeat (first|specialize YY l ?_|(specialize ZT a ?_;rw[u])|wp_step)
 show wpAny_typeLookup_tail a f m F.mroIs F.init.lookup ?_;rw[z];show Ys (lD ?_);ext bindSpecial;show lD (aaA #[_,v,n] ?_);rw[ax ()];show W9 (lD (wpAny_mono (G _ (h.objs.size+1) #[λb o H=>b3 _ (b3 _ H),ck (aac _),h.objs.size,l,ck (Xg _),?_]) (λr c y=>?_) λ_ _ x=>x))
 .show b3 _ (Heap.get?_push_at W W)
 .let(rfl,I):=y
  wp_walk
  show I
def yW(Fn:aab P L X U)(i:Z.contains (.type P)=W3)(F:aab B Y R Z)(T:aho h Z S)
  (a:h.get? C=M (excClassObj nm q C N bs S hdct sn sub ab col dd k0 k1 k2 k3 k5 L)) (p:h.Ns N mN) (s:mN "__init__"=M (.ref fI)) (f:h.get? fI=M o) (b:o.cls=.type "function")
  (j:∀c e,Heap.MadeExcOf h c e (.ref C) rest->wpAny (model prog w) (A.under (.builtin "type.__call__" #[.ref C::rest,[]])) (call (.ref fI) (.ref e::rest)) (λr k=>r=.none/\Q (.ref e) k) E #[c,g,d,t,os]) (hrest:rest.length<=Xl):
  wpAny (model prog w) A (call (.ref C) rest) Q E #[h,g,d,t,os]:=by
 let n:=tc_lookup;let m:=tc_bind (.ref C);let l:(#[h,g,d,t,os]:Xd).TypeIs (.ref C) "type":=#[_,a,W];show aaL (codeAny_of_tree ?_)
 repeat (any_goals (first|assumption|specialize YY a ?_|wp_step))
 show#[W,?_];show codeAny_call_builtin_at (adK.quiet_builtin _ (by left)) entry_typeCall (wpAny_check_type_call_sub a (ph (hrest:=hrest) Fn i F T a p s f b λc e hm=>?_));show j c e hm
end
section
variable{prog:Xx}{w:XU}{A:XO}{E:W2->Xd->Prop}{s:Xd}{env:Env}
variable{nm q:Str}{C N:Xa}{bs Y Z:bg W2}{hdct:Bool}{sn:bg Str}{sub:bg W2}{ab:Bool}{col:bt Bool}{dd:bt Xa}{k0 k1 k2 k3 k5:bt W2}{B Bn newId X R U:String}{S:bg W2}
def wL(Fn:aab Bn newId U S)(u:Z.contains (.type Bn)=W3)(F:aab B X R Z)
  (m:Y.contains (.type "BaseException")=W3) (p:A.handled=Ld) (y:(backTo ZQ (Xu args env)).any (·.1)=W7) (hi:mN "__init__"=cL (.ref fI)) (t:oI.cls=.type "function")
  (h:wpAny (model prog w) A (eval (.Name x np) env) (λf k=>f=.ref C/\wpAny (model prog w) A (evalArgs (.ref C) W3 (backTo ZQ (Xu args env)) [])
   (λa c=>a.kw=[]/\a.pos.length<=Xl/\c.heap.get? C=cL (excClassObj nm q C N bs Y hdct sn sub ab col dd k0 k1 k2 k3 k5 newId)/\c.heap.Ns N mN/\c.heap.get? fI=cL oI/\aho c.heap Z Y/\
    ∀V e,Heap.MadeExcOf c.heap V e (.ref C) a.pos->wpAny (model prog w) (A.under (.builtin "type.__call__" #[.ref C::a.pos,[]])) (call (.ref fI) (.ref e::a.pos)) (λr D=>r=.none/\∃z,D.heap.get? C=cL (excClassObj nm q C N bs Y hdct sn sub ab col dd k0 k1 k2 k3 k5 newId)/\D.heap.get? e=cL z/\z.cls=.ref C/\(∃fs,z.data=.fields fs/\fs[1]?=cL W2.none)/\E (.ref e) D) E {c with heap:=V}) E k) E s):
  wpAny (model prog w) A (exec (.Raise (cL (.Call (.Name x np) args [] ZQ)) Ld pos) env) Q E s:=by
 rw[arm_exec_Raise]
 first
  |show lD (Zk (iJ m p (lD (wpAny_mono (acA (wpAny_mono h (λf k i=>?_) λ_ _ x=>x)) (λv l b=>lD (Zk (W9 b))) λ_ _ x=>x))))
  |(simp only[evalOpt,ahp];show lD (Zk (iJ (C:=C) (nm:=nm) (q:=q) (N:=N) (bs:=bs) (hdct:=hdct) (sn:=sn) (sub:=sub) (ab:=ab) (col:=col) (dd:=dd) (k0:=k0) (k1:=k1) (k2:=k2) (k3:=k3) (k5:=k5) (newId:=newId) m p (lD (wpAny_mono (acA (wpAny_mono h (λf k i=>?_) λ_ _ x=>x)) (λv l b=>lD (Zk (W9 b))) λ_ _ x=>x)))))
  |(show lD (Zk (iJ m p ?_));show lD (wpAny_mono (acA (wpAny_mono h (λf k i=>?_) λ_ _ x=>x)) (λv l b=>lD (Zk (W9 b))) λ_ _ x=>x))
 let(rfl,i):=i;ext callWith;show lD (Ys (wpAny_mono i (λa c j=>lD (Zk ?_)) λ_ _ x=>x));let(H,akw):=a;let(o,n,G,hn,J,T,j):=j;obtain rfl:=o;let(hp,g,d,tk,os):=c;simp only[y];show lD (wpAny_keeperOf_exc G ?_);show lD (yW (hrest:=n) Fn u F T G hn hi J t λV e hm=>wpAny_mono (j V e hm) (λr D #[I,z,Pz0,O,Mz0,L,K]=>#[I,lD (Ys (wpAny_point (W9 ?_)))]) λ_ _ x=>x);show#[e,z,W,Pz0,O,Mz0,L,K]
end
end L9
namespace L9
open PySem PySem.W PyProof.Rows Builtin Builtin.ObjectAttr
abbrev IQ:G U:=[.type "ValueError",.type "Exception",.type "BaseException",.type "object"]
section
variable{prog:Xx}{w:XU}{A:XO}{K:Frag}{B C x:Xa}{s:Xd}{R:acP->Xd->Prop}{Z:ClassData}{name:Str}{Y:Tok}{v:W2}{fs:Array W2}
def Lh(X:K.In s.heap)(E:clsIn K C=cL Z)(hm:Z.mro=.ref C:: .ref B::IQ)(hd:Z.hasDict=W3)(z:findIn K (.ref C) name=cL Ld)(i:s.heap.get? x=cL #[.ref C,Ld,.fields fs,#v[]])
  (J:∀c k,c.get? x=cL #[.ref C,cL s.heap.objs.size,.fields fs,#v[]]->c.Ns1 s.heap.objs.size (λy=>if y=name then cL v else Ld)->(∀b o,b≠x->s.heap.get? b=cL o->c.get? b=cL o)->R (.ok (.ret .none)) {s with heap:=c,toks:=k}):
  codeAny (model prog w) A (.call (.builtin "object.__setattr__") #[[.ref x,.str name Y,v],[]]) R s:=by
 let I:InstAt s.heap x #[.ref C,Ld,.fields fs,#v[]] C Ld:=#[i,W,W,True.intro];let m:=PySem.F.store_object;let sub:Looks (model prog w) s.heap (isInstance (.ref x) (.type "object")) W3:=I.type.andThen (looks_mroIn X (by ext mroIn;rw[E,Option.bind_some,hm,a4 (by simp)];simp));show ZP m.slot.plain m.entry (@check_slot (model prog w) _ _ s "object.__setattr__" "object" "__setattr__" (.ref x) [.str name Y,v] [] _ m.kind m.split sub (m.args (.ref x) (.str name Y) v) ?_);let l:Looks (model prog w) s.heap (mroOf (.ref C)) Z.mro:=(looks_clsIn X E).andThen .now;rw[osa_eq,refuse_eq];show lD (lD (I.type.here (lD (l.here ?_))));rw[hm,akm,akm,PySem.F.store_ValueError.passes];show W9 (lD (I.type.here (lD ((looks_findIn X z).here (lD (W9 ?_))))));ext storeInOwnDict;show lD (W9 (lD ?_));unfold ownDictForStores instanceDict;show lD (ake i (lD ((looks_clsIn X E).here ?_)));rw[hd,a4 ()];show wpAny _ _ (if(!W3|| !typeHasDict (.ref C))=W3 then pure Ld else(do
        let d<-alloc {cls:=W2.type "dict",data:=Data.dict #v[]}
        update x λo=>{cls:=o.cls,dict:=cL d,data:=o.data,slots:=o.slots}
        dictMade (.ref C) x d)) _ _ _
 rw[a4 (by simp[typeHasDict])];let(h,g,d,t,T):=s;dsimp only at X i J I sub l⊢;let f:(h.push {cls:=.type "dict",data:=.dict #v[]}).get? x=cL #[.ref C,Ld,.fields fs,#v[]]:=b3 _ i;let a:=XB (b4 i);show lD (wpAny_alloc' ?_);show lD (wpAny_update' f ?_);show W9 ?_
 let q:((h.push {cls:=.type "dict",data:=.dict #v[]}).update x λo=>{cls:=o.cls,dict:=cL h.objs.size,data:=o.data,slots:=o.slots}).get? h.objs.size
   =cL {cls:=.type "dict",data:=.dict #v[]}:=
  (Heap.get?_update_ne _ _ _ _ a.symm).trans (Heap.get?_push_at W W)
 let p:((h.push {cls:=.type "dict",data:=.dict #v[]}).update x λo=>{cls:=o.cls,dict:=cL h.objs.size,data:=o.data,slots:=o.slots}).Ns h.objs.size (λ_=>Ld):=
  #[_,#v[],_,q,W,λe N=>bb N (by simp),λ_=>W]
 unfold storeInDict newKeyGuard;show lD (W9 (lD (wpAny_nsSet1 (Heap.Ns1.of_empty p) λc j H=>?_)));let(oD,P,Q,n,r,u):=j.count (Within.cons name v Within.nil);show lD (ahU n (by rw[r];show ahV (XX u (by rw[Xn,Y9,YU];ext))) ?_);show W9 (J c _ ?_ ?_ λb U G L=>?_)
 .show(H.2 x a).trans (b9 _ f W)
 .let(M,es,S,e1,e2,e3,O,e4):=j;show#[M,es,S,e1,e2,e3,O,λy=>by rw[e4 y]]
 .show(H.2 b (XB (b4 L))).trans ((Heap.get?_update_ne _ _ _ _ G).trans (b3 _ L))
theorem Mz(X:K.In s.heap)(g:clsIn K C=M Z)(hm:Z.mro=.ref C:: .ref B::IQ)(hd:Z.hasDict=S)(a:findIn K (.ref C) "__setattr__"=M (M (.builtin "object.__setattr__")))(h:findIn K (.ref C) name=M P)(e:s.heap.get? x=M #[.ref C,P,.fields fs,#v[]])
  (f:∀c d,c.get? x=M #[.ref C,M s.heap.objs.size,.fields fs,#v[]]->c.Ns1 s.heap.objs.size (λy=>if y=name then M v else P)->(∀b o,b≠x->s.heap.get? b=M o->c.get? b=M o)->Q ⟨⟩ {s with heap:=c,toks:=d}):
  wpAny (model prog w) A (setAttr (.ref x) name v) Q E s:=
 set_plain X (#[e,W,W,True.intro]:InstAt s.heap x #[.ref C,P,.fields fs,#v[]] C P) a (Lh X g hm hd h e f)
end
section
variable{y:Xx}{w:XU}{A:XO}{E:W2->Xd->Prop}{h:Heap}{g:Array abd}{d:aeJ}{t:Nat}{u:adz}
variable{nm q:Str}{C N:Xa}{bs r Z:bg W2}{v:Bool}{sn:bg Str}{sub:bg W2}{ab:Bool}{col:bt Bool}{dd:bt Xa}{k0 k1 k2 k3 k5:bt W2}{B L X Y:String}
def Ce(F:aab B X Y Z)(T:aho h Z r)
  (p:h.get? C=M (excClassObj nm q C N bs r v sn sub ab col dd k0 k1 k2 k3 k5 L)) (j:h.get? e=M #[.ref C,P,.fields fs,#v[]]) (l:fs[0]?=M (.ref t0))
  (m:∀s k,s.get? e=M #[.ref C,P,.fields k,#v[]]->k[0]?=M (.ref h.objs.size)->(∀i,i≠0->k[i]?=fs[i]?)->(∀b o,b≠e->h.get? b=M o->s.get? b=M o)->Q .none #[s,g,d,t,u]) (c:rest.length<=Xl):
  wpAny (model y w) A (call (.builtin Y) (.ref e::rest)) Q E #[h,g,d,t,u]:=by
 show aaL (ZP F.init.plain F.initEntry (wpAny_check_init_subU F T p j W ?_));unfold XS.«BaseException.__init__»;dsimp only;rw[a4 (by simp)];unfold newTuple XS.BaseException.bexcPut;let f:=(Yk.mp l).1;let a:(h.push {cls:=.type "tuple",data:=.seq rest.toArray}).get? e=M #[.ref C,P,.fields fs,#v[]]:=b3 _ j;show lD (Yc (lD (lD (X9 a W l (lD (YW a W f ?_))))) (by show rest.toArray.size<=Xl;rw[Xr];show c));show ZO (W9 (m _ (fs.setIfInBounds 0 (.ref h.objs.size)) ?_ (by simp[f]) (λi hi=>by rw[abT (c9 hi)]) λb o n z=>?_))
 .show b9 (Obj.mapFields (·.setIfInBounds 0 (.ref h.objs.size))) a W
 .show(b7 _ _ (c9 n)).trans (b3 _ z)
end
end L9
namespace L9
open PySem PySem.Spec PyProof.Rows L2
def RK(v:V):Prop:=v=.Zo\/∃i:Int,v=.int i/\i.natAbs.log2<1920
def JX{i:Int}(h:i.natAbs.log2<1920):(Str.ofString (toString i)).length<=5000:=by let e:=int_text_length_le () h;rw[PySem.ofString_length];ext
def Qy(I:Inv X pins σ H s)(r:RelV v u)(f:RK v)
  (h:∀(y:Str) (t:Tok) (a:Xd),y.length<=5000->Inv X pins σ H a->Q (.str y t) a):wpAny (model X.prog X.w) A (formatField u Str.empty) Q E s:=by
 rcases f with rfl|⟨i,rfl,b⟩
 .obtain rfl:=r;show wpAny_formatField_none (h _ _ _ () (I.tok _))
 .let(t,rfl):=r;show formatField_int_small b (h _ _ _ (JX b) (I.tok _))
def PJ(X:Cx)(es:G XA)(n:Nat)(t:L2.St->Hp->(Hp->Prop)->Prop):Prop:=
 ∀(a:G (J×Obj)) (s:Xd) (e:L2.St) (H:Hp) (b:Str) (Q:Hp->Prop),Inv X a e H s->b.length+n<=1000000->t e H Q->
  wpAny (model X.prog X.w) X.A (joinParts b (evalEach es X.env)) (λv h=>∃(y:Str) (g:Tok) (f:Hp),v=.str y g/\Inv X a e f h/\Q f) X.xe s
section
variable{X:Cx}{e:XA}{es:bg XA}{n:Nat}{T:TE}{t:L2.St->Hp->(Hp->Prop)->Prop}{Y:Pos}
def OU:PJ X [] 0 (λ_ H Q=>Q H):=by intro a s f H b Q I g h;show joinParts_nil #[_,_,H,W,I.tok _,h] (by rw[YU];ext)
def PK(i:x.length<=5000)(g:PJ X es n t):PJ X (.Constant (.str x) k Y::es) (n+5000) t:=by intro a s f H b Q I j h;show joinParts_consE (joinParts_cons (Calls.Constant_str ?_));let e:=amm b x;show#[by rw[YU];ext,g a _ f H (b++x) Q (I.tok _) () h]
def Ra(i:PE X e T)(g:PJ X es n t):PJ X (.FormattedValue e (-1) P Y::es) (n+5000) (λσ H Q=>T σ H λv H1=>RK v/\t σ H1 Q):=by intro a s σ H b Q I A h;show joinParts_consE (joinParts_cons (FormattedValue_plain (bV (i a s σ H _ I h) λu o a=>?_)));let(v,H1,j,r,f,q):=a;show Qy j r f λy m p w l=>?_;let e:=amm b y;show#[by rw[YU];ext,g a _ σ H1 (b++y) Q l () q]
def LZ(h:PJ X (e1::e2::es) n t)(c:n<=900000):PE X (.JoinedStr (e1::e2::es) Y) (λσ H Q=>t σ H λH1=>∀y:Str,Q (.str y) H1):=by intro a s σ H Q I b;show JoinedStr_many (bV (h a s σ H Str.empty _ I (by show 0+n<=1000000;ext) b) λv j #[y,i,H1,f,g,q]=>?_);subst f;show#[.str y,H1,g,#[_,W],q y]
end
def II(C e:J):Heap->Prop:=λh=>∃fs t0,h.get? e=M #[.ref C,P,.fields fs,#v[]]/\fs[0]?=M (.ref t0)/\fs[1]?=M .none
def RZ(C e p:J):Heap->Prop:=λh=>∃fs a0,h.get? e=M #[.ref C,M p,.fields fs,#v[]]/\fs[0]?=M a0/\fs[1]?=M .none
structure XC(K:CL)(C B fI:J):Prop where
 obj:∃nm q N bs sn sub ab col dd k0 k1 k2 k3 k5,K.lookup C=M (excClassObj nm q C N bs (.ref B::IQ) S sn sub ab col dd k0 k1 k2 k3 k5 "ValueError.__new__")/\acn K N=S/\XJ K N "__init__"=M (M (.ref fI))
 base:Z3 K B IQ "ValueError.__new__"=S
 sa:XW K (.ref C) "__setattr__"=M (M (.builtin "object.__setattr__"))
def xX{K:CL}(q:Z3 K B IQ n=S):aa2 K IQ (.ref B::IQ)=S:=by
 unfold Z3 at q;split at q
 .rename_i dd f e b
  split at q
  .simp only[W0,beq_iff_eq,Zw]at q;let(((((_,_),_),_),Yq),a):=q;ext aa2;dsimp only;rw[b];dsimp only;rw[Yq,a,show aa2 K IQ IQ=S from by ext aa2;rw[dN,aam],dN,Y1,Y1,aaU]
  .ext q
 .ext q
section
variable{X:Cx}{B C fI:Xa}{pos U Y:Pos}{Z:XA}{as:bg XA}{t:TA}{b:Str}
def F8(h:H a=M o):aR H a o=H:=by
 funext c;by_cases z:c=a
 .rw[z,ay,h]
 .rw[ar z]
def Oj(C:J)(t:TA):TE:=λf H Q=>t f H λg a=>∃e y,g=[.ref e,.str y]/\a e=M (.ext (II C e))/\Q .Zo a
def HF{pl:Sem Bool}(V:Gl X b)(hm:X.mg b=cL (.ref B))(D:ab0 X.K B (.type "type")=W3)(hf:ab1 X.K (.ref B) (.type "type") "__init__"=cL (.val (.builtin "ValueError.__init__")))
  (k:ZR X.K (.ref B) "__getattribute__"=cL (cL (.builtin "type.__getattribute__"))) (A:XC X.K C B fI) (ha:PA X (Z::as) t)
  (dg:Xu (Z::as) X.env=(W7,eval Z X.env)::Xu as X.env:=by rfl) (l:(backTo pos (Xu as X.env)).any (·.1)=W7:=by rfl) (m:(b==("__debug__":Str))=W7:=by decide)
  (c:eval (.Call (.Attribute (.Name b U) "__init__" Y) (Z::as) [] pos) X.env=(do
   let ov<-eval (.Name b U) X.env
   standAt Y.atName
   let(f,first)<-holding [ov] (getMethod ov "__init__" pl)
   callWith pos f first (backTo pos (Xu (Z::as) X.env)) (backToKw pos (keywordEach [] X.env))):=by rfl):
  PE X (.Call (.Attribute (.Name b U) "__init__" Y) (Z::as) [] pos) (Oj C t):=by
 intro a s G H Q I h;show aaO (pl:=pl) (jp I V hm ?_ m) c;show PySem.W.method_cls I.kIn k (PySem.W.cls_value I.kIn D hf () ?_);let E:=ha pos a {s with toks:=s.toks+1} G H _ (I.tok _) h;rw[dg]at E⊢;show Calls.callWith_builtin (by show(W7||(backTo pos (Xu as X.env)).any (·.1))=W7;rw[l]<;>rfl) (Calls.evalArgs_plain (bV E λus v #[vs,F,i,r,e,y,ev,n,q]=>?_));subst ev;let(O,u2,rfl,S,R):=zU r;obtain rfl:O=.ref e:=S;let(tk,rfl):=R;let((fs,t0,g1,g2,g3),_,gk):=(show ObjOk X.prog X.w F v.heap e (.ext (II C e))from i.Yq e _ n);let(nm,q',N,bs,sn,sub,ab,col,dd,k0,k1,k2,k3,k5,lk,Yq,hin):=A.obj;let T:=adQ i.kIn (xX A.base);let(h2,g,d,j,os):=v;show Ce Zx T (i.kIn _ _ lk) g1 g2 (λh' p e1 e2 e3 e4=>?_) (by show 1<=Xl;decide);show#[.Zo,F,?_,W,q];let w:=i.write (x:=e) (e:=e) (o:=.ext (II C e)) (h':=h') (t':=j) (by rw[n];show True.intro) (.inl W) (λb u hb z=>e4 b u hb z) #[_,e1] #[#[p,_,e1,e2,by rw[e3 1 ()];show g3],#[_,e1],λh1 h2 #[f1,Pz0,Mz0,L,J2] hk=>#[f1,Pz0,hk _ Mz0,L,J2]];rw[F8 n]at w;show w
def Tg(C:J)(f:Str)(c h:TE):TS:=λD a H=>h a H λv i=>c a i λx g=>∃e,x=.ref e/\g e=M (.ext (II C e))/\∀p,g p=P->p≠e->D.nx a (aR (aR g e (.ext (RZ C e p))) p (.xd [(f,v)]))
def MN(O:XC X.K C B fI)(V:XW X.K (.ref C) f=cL Ld)(ha:PE X o ta)(c:PE X value tv)(d:ZC value (cL (.Attribute o f pos')) pos.line X.env=pure W7):PS X (.Assign [.Attribute o f pos'] value pos) (Tg C f ta tv):=by
 intro l s F H D I h;show acI (bV (c l s F H _ I h) λu s1 #[v,H1,I1,rv,q]=>bV (ha l s1 F H1 _ I1 q) λov p a=>?_) d;let(x,Q,A,rx,e,ex,j,q2):=a;subst ex;obtain rfl:=rx;let((fs,t0,P,g2,g3),_,gk):=(show ObjOk X.prog X.w Q p.heap e (.ext (II C e))from A.Yq e _ j);let(nm,q',N,bs,sn,sub,ab,col,dd,k0,k1,k2,k3,k5,lk,Yq,hin):=O.obj;obtain⟨E,hc,J,L⟩:∃E,afC X.K C=cL E/\E.mro=.ref C:: .ref B::IQ/\E.hasDict=W3:=by ext afC;rw[lk];show#[_,W,W,W]
 show Mz A.kIn hc J L O.sa V P λh' tk' e1 e2 e3=>?_;let pe:=Yw (b4 P);let r:=A.Yq.fresh (Xg _);show#[F,_,?_,q2 p.heap.objs.size r pe];let m:∀b o,p.heap.get? b=cL o->b≠p.heap.objs.size:=λb o z=>XB (b4 z);show A.un #[λb o z n _ _=>e3 b o (λy=>by rw[y,j]at n;ext n) z,λb o z n _ _=>#[o.slots,e3 b o (λy=>by rw[y,j]at n;ext n) z],λb o z n _=>?_,λb o z _=>?_,λb xs z=>?_,λb o u z=>?_,λb ps z=>#[#v[],?_]] ?_
 .rw[ar (m b o z),ar (λy=>by rw[y,j]at n;ext n)];show n
 .by_cases y:b=e
  .subst y;show#[_,e1]
  .show#[o,e3 b o y z]
 .rw[ar (λy=>by rw[y,r]at z;ext z),ar (λy=>by rw[y,j]at z;ext z)];show z
 .rw[ar (λy=>by rw[y,r]at z;ext z),ar (λy=>by rw[y,j]at z;ext z)];show z
 .rw[ar (λy=>by rw[y,r]at z;ext z),ar (λy=>by rw[y,j]at z;ext z),z];simp
 .intro a o z
  by_cases M:a=p.heap.objs.size
  .subst M
   rw[ay]at z;ext z;show#[_,e2,λg=>?_];show aad (match g==f with|true=>cL v|false=>Za g []) (if g=f then cL u else Ld);cases i:g==f with
   |true=>rw[ax (beq_iff_eq.mp i)];show rv
   |false=>rw[a4 (λw=>by rw[beq_iff_eq.mpr w]at i;ext i)];show True.intro
  .rw[ar M]at z
   by_cases G:a=e
   .subst G;rw[ay]at z;ext z;show#[#[fs,_,e1,g2,g3],#[_,e1],λh1 h2 #[f1,t1,T,S1,R1] hk=>#[f1,t1,hk _ T,S1,R1]]
   .rw[ar G]at z
    let own:∀b,Q b=cL (.own a)->b≠e/\b≠p.heap.objs.size:=λb y=>#[(λk=>by rw[k,j]at y;ext y),(λk=>by rw[k,r]at y;ext y)];show(A.Yq a o z).aaQ (λb w i y=>e3 b w (λk=>?_) y) (λb y=>by rw[ar (own b y).2,ar (own b y).1];show y) λb xs y=>by rw[ar (λk=>by rw[k,r]at y;ext y),ar (λk=>by rw[k,j]at y;ext y)];show y
    rcases i with i|i
    .show G (i.symm.trans k)
    .show(own b i).1 k
end
end L9
namespace L9
open PySem PySem.Spec PyProof.Rows L2 L4
def RQ(H:Hp)(e:J):Hp:=λa=>if a=e then P else H a
theorem rL:RQ H e e=P:=ax W
theorem i9(h:a≠e):RQ H e a=H a:=a4 h
def yS{K:CL}(X:K.In h)(G:h.Ns N C)(e:XJ K N n=M (M v)):C n=M v:=by
 let(o,es,p,f,j,_,g):=G;unfold XJ at e;split at e
 .rename_i l m b a
  let:=(X _ _ a).symm.trans f;ext this;ext j;split at e
  .rename_i q i;ext e;rw[<-g];unfold nsFind findBy;rw[<-aer,i];rfl
  .split at e<;>ext e
 .ext e
def QS{K:CL}(i:Zj K (.ref f)=S)(l:K.lookup f=M o):o.cls=.type "function":=by unfold Zj aeY at i;dsimp only at i;rw[l]at i;show Xm (beq_iff_eq.mp i)
section
variable{X:Cx}{Z:bg (Xa×Obj)}{Y:L2.St}{H:Hp}{s:Xd}{T:Heap}{e:Xa}{o:HO}
def Jm(I:L2.Inv X Z Y H s)(k:∀b u,s.heap.get? b=M u->T.get? b=M u)(n:s.heap.get? e=P)(new:ObjOk X.prog X.w (aR H e o) T e o):L2.Inv X Z Y (aR H e o) {s with heap:=T,toks:=t'}:=by
 let f:=ww I.Yq n;let ne:∀b u,s.heap.get? b=M u->b≠e:=λb u z y=>by rw[y,n]at z;ext z
 show I.un #[λb u z _ _ _=>k b u z,λb u z _ _ _=>#[u.slots,k b u z],λb u z q _=>by rw[ar (ne b u z)];show q,λb u z _=>#[u,k b u z],λb xs z=>?_,λb u v z=>?_,λb g z=>#[#v[],?_]] ?_
 .rw[ar (λy=>by rw[y,f]at z;ext z)];show z
 .rw[ar (λy=>by rw[y,f]at z;ext z)];show z
 .rw[ar (λy=>by rw[y,f]at z;ext z),z];simp
 .intro a u z
  by_cases y:a=e
  .subst y;rw[ay]at z;ext z;show new
  .rw[ar y]at z;show(I.Yq a u z).aaQ (λb w _ q=>k b w q) (λb q=>by rw[ar (λw=>by rw[w,f]at q;ext q)];show q) λb xs q=>by rw[ar (λw=>by rw[w,f]at q;ext q)];show q
def Kg(I:L2.Inv X Z Y H s)(f:H e=M (.ext C)):L2.Inv X Z Y (RQ H e) s:=by
 let:=I.un (t':=s.toks) (H':=RQ H e) #[λb u z _ _ _=>z,λb u z _ _ _=>#[u.slots,z],λb u z q _=>?_,λb u z _=>#[u,z],λb xs z=>?_,λb u v z=>?_,λb g z=>#[#v[],?_]] ?_
 .show this
 .by_cases y:b=e
  .rw[y];show rL
  .rw[i9 y];show q
 .rw[i9 (λy=>by rw[y,f]at z;ext z)];show z
 .rw[i9 (λy=>by rw[y,f]at z;ext z)];show z
 .rw[i9 (λy=>by rw[y,f]at z;ext z),z];simp
 .intro a u z
  let y:a≠e:=λy=>by rw[y,rL]at z;ext z
  rw[i9 y]at z;show(I.Yq a u z).aaQ (λb w _ q=>q) (λb q=>by rw[i9 (λw=>by rw[w,f]at q;ext q)];show q) λb xs q=>by rw[i9 (λw=>by rw[w,f]at q;ext q)];show q
end
def Bc(C:J)(sp:Sp)(E:XK)(c:TA):TS:=λ_ f H=>c f H λg b=>g.length<=Xl/\∀e,b e=P->sp (.ref e::(g++[])) (aR b e (.ext (II C e))) (λv a=>v=.Zo/\∃p,a e=M (.ext (RZ C e p))/\E (.ref C) (M p) (RQ a e)) E0
def Dn{K:CL}
  (Z:XC K C B fI) (S:K.lookup fI=cL oI) (c:Zj K (.ref fI)=W3) (FI:FnOk Pz0 w K mg base kQ k fI fdI ps sp) (bI:Binds K fdI ps [])
  (d:Y4 (k+1) (fC (lS Pz0 w) Pz0 w K mg base N qual scope f cd A outer s0 H0 E).A)
  (hg:Gl (fC (lS Pz0 w) Pz0 w K mg base N qual scope f cd A outer s0 H0 E) x) (hm:mg x=cL (.ref C)) (ha:PA (fC (lS Pz0 w) Pz0 w K mg base N qual scope f cd A outer s0 H0 E) (e0::es) ta)
  (J:(x==("__debug__":Str))=W7:=by decide)
  (X:Xu (e0::es) (fC (lS Pz0 w) Pz0 w K mg base N qual scope f cd A outer s0 H0 E).env=(W7,eval e0 (fC (lS Pz0 w) Pz0 w K mg base N qual scope f cd A outer s0 H0 E).env)::Xu es (fC (lS Pz0 w) Pz0 w K mg base N qual scope f cd A outer s0 H0 E).env:=by rfl)
  (F:(backTo ZQ (Xu es (fC (lS Pz0 w) Pz0 w K mg base N qual scope f cd A outer s0 H0 E).env)).any (·.1)=W7:=by rfl):
  PS (fC (lS Pz0 w) Pz0 w K mg base N qual scope f cd A outer s0 H0 E) (.Raise (cL (.Call (.Name x np) (e0::es) [] ZQ)) Ld pos) (Bc C sp E ta):=by
 intro l s σ H D I h;let(nm,qn,Nn,bs,sn,sub,ab,col,dd,k0,k1,k2,k3,k5,R,Yq,G):=Z.obj;let a:=I.ok.mod.kin;let oC:=a _ _ R;let Q:=Heap.Ns.of_isNs (PySem.W.isNs_of_in a Yq);let ni:=yS a Q G;let oF:=a _ _ S;let T:=adQ a (xX Z.base);show wL (nm:=nm) (q:=qn) (N:=Nn) (bs:=bs) (hdct:=W3) (sn:=sn) (sub:=sub) (ab:=ab) (col:=col) (dd:=dd) (k0:=k0) (k1:=k1) (k2:=k2) (k3:=k3) (k5:=k5) Zx (by left) Zx (T.hasType Zx.hasBase) (I.ok.hd W)
  (by rw[X];show(abx _).trans F) ni (QS c S) (jp I hg hm #[W,?_] J)
 let go:=ha ZQ l s σ H _ I h;rw[X]at go⊢;show Calls.evalArgs_plain (bV go λg j a=>?_);let(vs,H1,i,r,hl,q):=a;show#[W,by rw[<-r.length];show hl,i.bk _ _ oC,Q.keeps i.bk,i.bk _ _ oF,T.keeps i.bk,λh' e m=>?_];let(t,y,y2,y3):=m.there;let hn:=ww i.Yq m.new;let U:=q e hn;let L:=Jm (t':=j.toks) (o:=.ext (II C e)) i m.keeps m.new #[#[_,t,y,W,W],#[_,y],λh1 h2 #[f1,t1,z1,z2,z3] hk=>#[f1,t1,hk _ z1,z2,z3]];let O:Vals (V.ref e::(vs++[])) (W2.ref e::(g++[])):=.cons W (r.append .nil);let n:(W2.ref e::g++[]).length=ps.length:=by let z:=O.length;rw[FI.len _ _ _ _ U]at z;show z.symm
 let old:s0.heap.get? e=Ld:=by
  cases z:s0.heap.get? e with
  |none=>rfl
  |some o=>let(o',M):=i.base.there e o z (λy=>nomatch y);rw[m.new]at M;ext M
 let bi:=bI {heap:=h',gens:=j.gens,drawn:=j.drawn,toks:=j.toks,os:=j.os} (W2.ref e::g) L.kIn n;rw[afD]at bi;show aaL (aay (FI.run _ (fC (lS Pz0 w) Pz0 w K mg base N qual scope f cd A outer s0 H0 E).stack _ _ #[W2.ref e::g,[]] (W2.ref e::(g++[])) _ _ E0 (d.make C g []) (L.afT.make C g []) bi O U) λr s' b=>?_);cases r with
 |error e=>show b.elim
 |ok fl=>
  cases fl with
  |ret u=>let(v,H',I3,rv,ev,p,Y,q3):=L.after b;subst ev;let((fs,a0,g1,g2,g3),_,_):=(show ObjOk _ _ H' s'.heap e (.ext (RZ C e p))from I3.Yq e _ Y);show#[rv,_,I3.kIn _ _ R,g1,W,#[fs,W,g3],?_];show NW (hd:=Ld) (Kg I3 Y) #[_,_,g1,W,W,W,g2,g3] old (λT z=>nomatch z) rL (λT z=>nomatch z) q3
  |next=>show False.elim b
  |brk=>show False.elim b
  |cont=>show False.elim b
end L9
namespace L9
open PySem PySem.Spec PySem.W PyProof.Rows L2 L3 L4
section
variable{T:Xx}{w:XU}{A:XO}{E:W2->Xd->Prop}{h:Heap}{g:Array abd}{d:aeJ}{t:Nat}{L:adz}{a C:Xa}{o:Obj}{K:CL}{Z:bt Obj}{N:Str}{v:W2}
  {n1 q1:Str} {N1:Xa} {b1 B:bg W2} {d1:Bool} {s1:bg Str} {u1:bg W2} {a1:Bool} {c1:bt Bool} {x1:bt Xa} {i0 i1 i2 i3 i5:bt W2} {Y:String}
def ym(X:K.In h)(I:aaZ h a o C Z)(b:findObj K C Z N=cL (.value v))
  (k:Q (.done (.ret v)) #[h,g,d,t,L]):wpAny (model T w) A (XS.«object.__getattribute__» #[[.ref a,.str N tk],[]]) Q E #[h,g,d,t,L]:=by
 let f:=I.type (M:=model T w);let e:=looks_find (M:=model T w) X I b;show lD (W9 (lD (W9 (lD (f.at (lD (e.at ?_)))))));show W9 k
def Dr(X:K.In h)(I:aaZ h a o C Z)(n:h.get? C=cL (excClassObj n1 q1 C N1 b1 B d1 s1 u1 a1 c1 x1 i0 i1 i2 i3 i5 Y))(m:B.contains (.type "BaseException")=S)
  (f:findIn K (.ref C) "__getattribute__"=cL (cL (.builtin "BaseException.__getattribute__"))) (e:findIn K (.ref C) "__getattr__"=cL P) (l:findObj K C Z N=cL (.value v)) (j:handedIn v=S)
  (k:Q v #[h,g,d,t+1,L]):wpAny (model T w) A (getAttr (.ref a) N expr) Q E #[h,g,d,t,L]:=by
 let y:=acd.ga.bind (.ref a);let b:(W2.builtin "BaseException.__getattribute__"==W2.builtin "object.__getattribute__")=R:=by left
 let u:(onTheHeap (W2.ref C)&&W2.builtin "BaseException.__getattribute__"==W2.builtin "object.__getattribute__")=R:=by rw[b];rfl
 let r:=I.type (M:=model T w);let q:=looks_findIn (M:=model T w) X f;let p:=looks_findIn (M:=model T w) X e;unfold getAttr getAttrBy
 repeat (any_goals (first|assumption|specialize r.at ?_|specialize q.at ?_|specialize p.at ?_|wp_step))
 rw[show(expr&&onTheHeap (W2.builtin "BaseException.__getattribute__"))=R from by ext expr<;>rfl,a4 Xs];ext boundAndCalled
 repeat (any_goals (first|assumption|wp_step))
 show ZP acd.ga.plain F.entry_bexc_ga (yQ n m I.at_ I.cls (ym X I l ?_));let i:=handedOut_of j;show wpAny _ _ (handedOut v) _ _ _;rw[i];show W9 k
end
def N9(K:CL)(c:TE)(f:Str):TE:=λb H Q=>c b H λx a=>∃e g C m p fs v,x=.ref e/\a e=M (.frz g (.own e))/\g.cls=.ref C/\g.dict=M p/\notCls g=S/\aec K C m/\hasDictIn K C=S/\findIn K (.ref C) f=M P/\
 a p=M (.xd fs)/\fs.lookup f=M v/\Q v a
def JA(S:PE X o ta)(Y:attributeBase o f X.env (eval o X.env)=eval o X.env):PE X (.Attribute o f pos) (N9 X.K ta f):=by intro a s A H Q I h;show Aq Y (bV (S a s A H _ I h) λu n a=>?_);let(x,y,b,B,e,F,C,m,p,fs,v,Z,ea,Uz0,T,hn,L,w,ha,N,l,q):=a;subst Z;obtain rfl:=B;let z:=(b.Yq e _ ea).1;let(mA,G,i):=(show ObjOk X.prog X.w y n.heap p (.xd fs)from b.Yq p _ N);let(u',M,r):=aad.some_of (by rw[<-l];show i f);let(E,O,P):=tT G;let(_,_,_,_,_,_,_,_,_,_,_,_,_,_,_,_,J):=L.cl;let(j,g,d,t,os):=n;show Dr b.kIn (#[z,Uz0,hn,by rw[T];show O]:aaZ j e F C (cL E)) (b.kIn _ _ J) L.be L.ga L.gt (findObj_own w ha W (by rw[P,M])) (t8 r) #[v,y,b.tok _,r,q]
def uj(C:J)(f:Str):Sp:=λa H Q _=>∃e v,a=[.ref e,v]/\RK v/\H e=M (.ext (II C e))/\∀p,H p=P->p≠e->Q .Zo (aR (aR H e (.ext (RZ C e p))) p (.xd [(f,v)]))
def Uq:D->Bool
 |.none=>S
 |.int i=>decide (i.natAbs.log2<1920)
 |_=>R
end L9
namespace L3
open PySem PySem.Spec PyProof.Rows L2
mutual
def VI:Xe->Bool
 |.tuple ds=>Q4 ds
 |.int _=>W3
 |.str _=>W3
 |.bool _=>W3
 |.none=>W3
 |_=>W7
def Q4:bg Xe->Bool
 |[]=>W3
 |d::r=>VI d&&Q4 r
end
section
variable{K:CL}{E:XK}{B:bA}{Y:Hp}{O Z:bA}{X:L2.St}{H T:Hp}{Q:aQ}
def KZ(h:SqT K H a xs)(l:H a=M (.lst ys)):SqT K (λ_=>P) a xs:=by
 rcases h with(h|⟨o,h⟩)|h
 .rw[l]at h;ext h
 .rw[l]at h;ext h
 .show .inr h
mutual
theorem Ke(f:∀b,O b->¬Z b->∃ys,H b=cL (.lst ys)):∀{v:V} {d:D},DV Z K H v d->VI d=W3->DV O K H v d
 |_,_,.Zo,_=>.Zo
 |_,_,.bl b,_=>.bl b
 |_,_,.int i,_=>.int i
 |_,_,.str x,_=>.str x
 |_,_,.tup (a:=a) h hs,e=>.tup ⟨h.1,λz=>by
   by_cases y:Z a
   .exact h.2 y
   .obtain⟨ys,q⟩:=f a z y;exact KZ h.1 q⟩ (xp f hs e)
 |_,_,.lst h hs,e=>by cases e
theorem xp(a:∀b,O b->¬Z b->∃ys,H b=cL (.lst ys)):∀{vs:bg V} {ds:bg D},YH Z K H vs ds->Q4 ds=W3->YH O K H vs ds
 |_,_,.nil,_=>.nil
 |_,_,.cons h hs,e=>by have f:=abh.mp e;exact .cons (Ke a h f.1) (xp a hs f.2)
end
end
end L3
namespace PyProof.Rows
open PySem
section
variable{Y:Xx}{w:XU}{A:XO}{E:W2->Xd->Prop}{s:Xd}
def rb(b:h.get? a=M (seqObj "list" o.toArray n)):∃e,(sortedHeap h a o out).get? a=M (seqObj "list" out e):=by let f:=get?_update_seq b (λ_=> #v[]);show#[_,get?_update_seq (b3 _ (b3 _ f)) _]
theorem oX(f:b≠a)(e:h.get? b=M o):(sortedHeap h a C out).get? b=M o:=
 (b7 _ _ (c9 f)).trans (b3 _ (b3 _ ((b7 _ _ (c9 f)).trans e)))
def za{l:J}{c:bg U}{j:bg Int}{Q:U->Xd->Prop}(p:s.heap.IsTuple l c.toArray)(y:IntsAre c j)(i:c.length<64)
  (h:∀(a d:Heap) (out:Array U) (e:Nat) (f:bg Int),(∀b o,s.heap.get? b=M o->a.get? b=M o)->d.get? a.objs.size=M (seqObj "list" out e)->(∀b o,a.get? b=M o->d.get? b=M o)->IntsAre out.toList f->f.Perm j->f.Pairwise (·<=·)->Q (.ref a.objs.size) {s with heap:=d}):
  wpAny (model Y w) A (call (.builtin "sorted") [.ref l]) Q E s:=by
 let(o,q,v,n,u):=p;show Calls.call_function_entry kind_sorted plain_sorted entry_sorted (args_sorted1 _) (lD (m:=checkCount "sorted" 1 1 _) (W9 (lD (wpAny_collect_seq l (.inr W) q v u (λa r=>lD (amn ?_)) (by rw[Xr,YU];ext)))));let g:(a.push (seqObj "list" c.toArray 0)).get? a.objs.size=M (seqObj "list" c.toArray 0):=b5 _ W;show lD (Ys (Yt slot_list_sort #[_,g,W] entry_list_sort (list_sort_tree g y i λout f F C B=>#[_,W,W9 #[_,W,?_]]) (args_list_sort _)));let(e,t):=rb (out:=out) g;show h a _ out e f r t (λb G z=>oX (XB (b4 z)) (b3 _ z)) F C B
end
end PyProof.Rows
namespace L9
open PySem PySem.Spec PyProof.Rows L2 L3
section
variable{K:CL}{E:XK}
def vO:Zi X (.builtin "sorted") (λxs H Q=>∃(p:Xa) (f:bg Int),xs=[.ref p]/\SqT X.K H p (f.map V.int)/\f.length<64/\∀(l:Xa) (a:bg Int),H l=P->a.Perm f->a.Pairwise (·<=·)->Q (.ref l) (aR H l (.lst (a.map V.int)))):=by
 intro j s F H xs G Q I r h;let(p,f,rfl,v,B,q):=h;let(u,rfl,o):=hW r;ext o;let(M,N,pl,J):=I.tuple v;let w:=N.length;rw[W5]at w;show za pl (lC N) () λC L g e a y A i T m t=>?_;let b:=m.length_eq;let n:=I.kept (t':=s.toks) y;show#[.ref C.objs.size,_,n.laid i (Xg _) ?_,W,q _ a (n.Yq.fresh (Xg _)) m t];show#[?_,g.toList,e,iS T,A];rw[W5,b];let:(64:Nat)<=Xl:=by decide
 ext
theorem uU:Zi X (.builtin "sorted") (λxs H Q=>(∃(p:J) (a:G Int),xs=[.ref p]/\SqL X.K H p (a.map V.int)/\a.length<64/\∀(l:J) (b:G Int),H l=P->b.Perm a->b.Pairwise (·<=·)->Q (.ref l) (aR H l (.lst (b.map V.int))))\/
  (∃(p:J) (a:G Int),xs=[.ref p]/\SqT X.K H p (a.map V.int)/\a.length<64/\∀(l:J) (b:G Int),H l=P->b.Perm a->b.Pairwise (·<=·)->Q (.ref l) (aR H l (.lst (b.map V.int))))):=L2.Zi.or xj vO
def fM:G D->I RV
 |[.tuple ds]=>(match n6 ds with
  |some a=>if a.length<64 then M (.ow ((jR a).map .int))else P
  |none=>P)
 |ds=>uV ds
def zz:AI K (λxs H Q=>(∃(p:J) (b:G Int),xs=[.ref p]/\SqL K H p (b.map V.int)/\b.length<64/\∀(l:J) (f:G Int),H l=P->f.Perm b->f.Pairwise (·<=·)->Q (.ref l) (aR H l (.lst (f.map V.int))))\/
  (∃(p:J) (b:G Int),xs=[.ref p]/\SqT K H p (b.map V.int)/\b.length<64/\∀(l:J) (f:G Int),H l=P->f.Perm b->f.Pairwise (·<=·)->Q (.ref l) (aR H l (.lst (f.map V.int))))) fM:=by
 intro O H xs ds u Q n h e q;unfold fM at e;split at e
 .split at e
  .rename_i b j
   split at e
   .rename_i v
    ext e;cases h with
    |cons r o=>ext o;let(a,w,rfl,i,t):=DK r;rw[p7 t j]at i;show .inr #[a,b,W,i.1,v,λl f m g dg=>?_];let e2:=ko (g.trans (eN b).symm) dg (dP b);subst e2;show q.new (ro _) l m
   .ext e
  .ext e
 .show .inl (B7 O H xs ds u Q n h e q)
def J9:Ya "range"=M (.type "range"):=by left
end
end L9
namespace L9
open PySem PySem.W PyProof.Rows Builtin Builtin.ObjectAttr
open PySem.Spec L2
open L3 L4
def Iv(C:J)(f g:Str):Sp:=λa H Q _=>∃e v u,a=[.ref e,v,u]/\RK v/\RK u/\H e=M (.ext (II C e))/\∀p,H p=P->p≠e->Q .Zo (aR (aR H e (.ext (RZ C e p))) p (.xd [(g,u),(f,v)]))
end L9
namespace LD
open PySem PyProof.Rows L2 L3
mutual
def kd:Xe->Bool
 |.none=>W3
 |.int _=>W3
 |.str x=>Xe.strOk x
 |.tuple xs=>kds xs
 |_=>W7
def kds:bg Xe->Bool
 |[]=>W3
 |x::r=>kd x&&kds r
end
def keyD:Xe->Bool
 |.tuple xs=>kds xs&&decide ((Xe.tuple xs).depth<=8)
 |_=>R
mutual
theorem kd_lay:∀d:Xe,kd d=W3->d.canLay0=W3
 |.none,_=>rfl
 |.int _,_=>rfl
 |.str x,h=>by unfold Xe.canLay0;unfold kd at h;exact h
 |.tuple xs,h=>by unfold Xe.canLay0;unfold kd at h;exact BE xs h
 |.bool _,h|.list _,h|.dict _,h=>by simp[kd]at h
theorem BE:∀xs:bg Xe,kds xs=W3->Xe.canLayAll0 xs=W3
 |[],_=>rfl
 |x::r,h=>by unfold kds at h;rw[W0]at h;unfold Xe.canLayAll0;rw[kd_lay x h.1,BE r h.2];rfl
end
mutual
theorem kd_eqv:∀d e:Xe,kd d=W3->kd e=W3->Xe.eqv d e=W3->d=e
 |.none,e,_,h,q=>by cases e<;>simp_all [kd,Xe.eqv]
 |.int i,e,_,h,q=>by cases e<;>simp_all [kd,Xe.eqv]
 |.str x,e,_,h,q=>by cases e<;>simp_all [kd,Xe.eqv]
 |.tuple xs,e,g,h,q=>by
  cases e with
  |tuple a=>rw[Xe.eqv]at q;unfold kd at g h;rw[B4 xs a g h q]
  |_=>simp_all [kd,Xe.eqv]
 |.bool _,_,h,_,_|.list _,_,h,_,_|.dict _,_,h,_,_=>by simp[kd]at h
theorem B4:∀xs ys:bg Xe,kds xs=W3->kds ys=W3->Xe.eqvAll xs ys=W3->xs=ys
 |[],[],_,_,_=>rfl
 |[],_::_,_,_,q=>by simp[Xe.eqvAll]at q
 |_::_,[],_,_,q=>by simp[Xe.eqvAll]at q
 |x::xs,y::ys,g,h,q=>by unfold kds at g h;rw[Xe.eqvAll]at q;rw[W0]at g h q;rw[kd_eqv x y g.1 h.1 q.1,B4 xs ys g.2 h.2 q.2]
end
def HI[Decidable (d=e)](hd:kd d=S)(a:kd e=S):Xe.eqv d e=decide (d=e):=by
 by_cases q:d=e
 .subst q;rw[a5 W];show SeqAt.eqv_refl d (kd_lay d hd)
 .rw[a6 q]
  cases z:Xe.eqv d e with
  |false=>rfl
  |true=>show bb (kd_eqv d e hd a z) q
def keyD_kd(h:keyD d=S):kd d=S/\d.depth<=8:=by
 cases d with
 |tuple xs=>unfold keyD at h;rw[W0]at h;show#[by ext kd;show h.1,a7 h.2]
 |_=>simp[keyD]at h
mutual
def p8(w:XU):Xe->Int
 |.none=>reduceHash 0xFCA86420
 |.int i=>hashInt i
 |.str x=>hashStr w x
 |.tuple xs=>reduceHash (XS.Tuple.tupleHashOf (rJ w xs))
 |_=>0
def rJ(w:XU):bg Xe->bg Int
 |[]=>[]
 |x::r=>p8 w x::rJ w r
end
mutual
def UB:Xe->Nat
 |.tuple xs=>LI xs+1
 |_=>1
def LI:bg Xe->Nat
 |[]=>0
 |x::r=>UB x+LI r
end
section
variable{prog:Xx}{w:XU}{E:W2->Xd->Prop}
mutual
theorem AA:∀(d:Xe) (v:W2) (as:bg Xa) (A:XO) (s:Xd) (Q:Int->Xd->Prop),kd d=W3->adN s.heap v d as->A.units+d.depth<cLine->Q (p8 w d) {s with toks:=s.toks+UB d}->wpAny (model prog w) A (pyHash v) Q E s
 |.none,_,_,A,s,Q,_,r,hu,h=>by cases r;exact adA (T:= "NoneType") rfl F.slot_NoneType_hash F.entry_NoneType_hash (F.args_NoneType_hash_1 _) (ah1 _) (.inr (by ext)) (lD (W9 (lD (afQ (W9 ⟨_,_,rfl,h⟩)))))
 |.int i,_,_,A,s,Q,_,r,_,h=>by cases r;exact ahQ h
 |.str x,_,_,A,s,Q,_,r,_,h=>by cases r;exact ahR h
 |.tuple xs,_,_,A,s,Q,hk,r,hu,h=>by
  cases r with
  | @tuple a o vs n _ _ h1 h2 h3 h4=>
   refine adA (T:= "tuple") ⟨_,h1,h2⟩ F.slot_tuple_hash F.entry_tuple_hash (F.args_tuple_hash_1 _) (ah1 _) (.inr (by ext)) ?_;show wpAny _ _ (XS.Tuple.tupleItemsOf (.ref a)>>=_) _ _ s;refine lD (wpAny_tupleItemsOf h1 h3 ?_);refine lD ?_;rw[<-aeu];unfold kd at hk;refine tV xs vs.toList _ A.in1 s #v[] _ hk h4 (by simp only[Xe.depth,XO.in1_units]at hu⊢;ext) λb e=>?_;show wpAny _ _ (retInt (XS.Tuple.tupleHashOf b.toList)) _ _ _;rw[e];refine lD (afQ (W9 ⟨_,_,rfl,?_⟩));unfold p8 UB at h
   simpa [abE]using h
 |.bool _,_,_,_,_,_,h,_,_,_|.list _,_,_,_,_,_,h,_,_,_|.dict _,_,_,_,_,_,h,_,_,_=>by simp[kd]at h
theorem tV:∀(xs:bg Xe) (vs:bg W2) (as:bg Xa) (A:XO) (s:Xd) (b:Array Int) (Q:Array Int->Xd->Prop),kds xs=W3->abI s.heap vs xs as->A.units+Xe.depthAll xs<cLine->
  (∀b':Array Int,b'.toList=b.toList++rJ w xs->Q b' {s with toks:=s.toks+LI xs})->
  wpAny (model prog w) A (forIn vs b λx r=>do let h<-pyHash x;pure PUnit.unit;pure (ForInStep.yield (r.push h))) Q E s
 |[],_,_,A,s,b,Q,_,x,_,h=>by cases x;exact W9 (h b (by simp[rJ]))
 |k::xs,_,_,A,s,b,Q,hk,x,hu,h=>by
  cases x with
  |cons e a=>
   unfold kds at hk;simp only[W0,Xe.depthAll]at hk hu;rw[aae];refine lD (lD (AA k _ _ A s _ hk.1 e (by ext) ?_));refine lD (W9 (W9 ?_));refine tV xs _ _ A _ _ Q hk.2 a (by ext) λb' f=>?_;have:=h b' (by simp[f,rJ]);unfold LI at this
   simpa [abE]using this
end
theorem wH:∀(n:Nat) (d:Xe) (v:U) (as:G J) (A:XO) (s:Xd) (Q:Bool->Xd->Prop),kd d=S->adN s.heap v d as->d.depth<=n->Q S s->wpAny (model prog w) A (eqIsQuiet n v) Q E s
 |n,.none,_,_,A,s,Q,_,r,_,h=>by ext r;rw[acB _ W];show W9 h
 |n,.int i,_,_,A,s,Q,_,r,_,h=>by ext r;rw[acB _ W];show W9 h
 |n,.str i,_,_,A,s,Q,_,r,_,h=>by ext r;rw[acB _ W];show W9 h
 |0,.tuple xs,_,_,A,s,Q,t,r,q,h=>by simp only[Xe.depth]at q;ext
 |n+1,.tuple xs,_,_,A,s,Q,t,r,q,h=>by
  cases r with
  | @tuple a o L m _ _ h1 C B u=>
   let g:s.TypeIs (.ref a) "tuple":=#[_,h1,C];simp only[Xe.depth]at q;ext eqIsQuiet;show lD (aja g F.slot_tuple_eq.lookup ?_);show lD (aai g isSubtype_tuple_tuple ?_);simp only[abz,YJ,if_false];show lD (YG h1 B ?_);show lD ?_;rw[<-aeu];unfold kd at t;show ah2 _ (λb r e=>r.1=P/\e=s/\∃ys bs,kds ys=S/\abI s.heap b ys bs/\Xe.depthAll ys<=n) _ ?_ ?_ _ _ #[W,W,xs,_,t,u,by ext]
   .rintro v b r e ⟨f,rfl,ys,bs,k1,k2,k3⟩
    cases k2 with
    | @cons _ _ y p _ _ g1 g2=>unfold kds at k1;simp only[W0,Xe.depthAll]at k1 k3;show lD (wH n y v _ A e _ k1.1 g1 () ?_);simp only[abz,YJ,if_false];show W9 #[W,W,p,_,k1.2,g2,by ext]
   .rintro⟨l,j⟩ e ⟨f,rfl,_⟩;simp only at f;subst f;show W9 h
 |_,.bool _,_,_,_,_,_,h,_,_,_|_,.list _,_,_,_,_,_,h,_,_,_|_,.dict _,_,_,_,_,_,h,_,_,_=>by simp[kd]at h
end
mutual
theorem t9{h h':Heap}{x:Xa}{e:Obj}{es:Array Y7}{j:Nat}(f:h.get? x=cL e)(i:e.data=.dict es j)(g:Heap.SameBut x h h'):∀(d:Xe) (v:W2) (as:bg Xa),kd d=W3->adN h v d as->adN h' v d as
 |.none,_,_,_,r=>by cases r;exact .none
 |.int _,_,_,_,r=>by cases r;exact .int _ _
 |.str _,_,_,_,r=>by cases r;exact .str _ _
 |.tuple xs,_,_,k,r=>by
  cases r with
  | @tuple a o vs n _ _ h1 h2 h3 h4=>
   have b:a≠x:=by rintro rfl;rw[f]at h1;cases h1;rw[i]at h3;exact nomatch h3
   unfold kd at k;exact .tuple ((g.2 a b).trans h1) h2 h3 (rO f i g xs _ _ k h4)
 |.bool _,_,_,h,_|.list _,_,_,h,_|.dict _,_,_,h,_=>by simp[kd]at h
theorem rO{h h':Heap}{x:Xa}{a:Obj}{es:Array Y7}{j:Nat}(b:h.get? x=cL a)(f:a.data=.dict es j)(e:Heap.SameBut x h h'):∀(ds:bg Xe) (vs:bg W2) (as:bg Xa),kds ds=W3->abI h vs ds as->abI h' vs ds as
 |[],_,_,_,r=>by cases r;exact .nil
 |d::ds,_,_,k,r=>by
  cases r with
  |cons i g=>unfold kds at k;rw[W0]at k;exact .cons (t9 b f e d _ _ k.1 i) (rO b f e ds _ _ k.2 g)
end
abbrev KD:={d:Xe//keyD d=S}
noncomputable instance kdDec:DecidableEq KD:=λ_ _=>Classical.propDecidable _
def eT(prog:Xx)(w:XU):akn prog w KD where
 is:=λh k a=>∃as,adN h (.ref a) k.1 as
 hash:=λk=>p8 w k.1
 draws:=λk=>UB k.1
 room:=λA=>A.units+8<cLine
 inj:=λ#[_,r] #[_,f]=>Subtype.ext (adN.unique r _ _ f).1
 keeps:=λ{h l k a d o es m} #[as,r] j hd i=>#[as,t9 j hd i k.1 _ _ (keyD_kd k.2).1 r]
 pyHash:=λ{A E s k a Q} g #[as,r] q=>AA k.1 _ as A s Q (keyD_kd k.2).1 r (by let:=(keyD_kd k.2).2;ext) q
 eqBool:=λ{A E s x y a b Q} g #[as,r] #[bs,f] q=>SeqAt.eqAt_reads x.1 y.1 A s _ _ as bs r f (kd_lay _ (keyD_kd x.2).1) (kd_lay _ (keyD_kd y.2).1) (by let:=(keyD_kd x.2).2;ext) prog w E Q (by
  haveI:Decidable (x.1=y.1):=Classical.propDecidable _
  rw[HI (keyD_kd x.2).1 (keyD_kd y.2).1];by_cases e:x=y
  .rw[a5 e]at q;rw[a5 (dw Subtype.val e)];show q
  .rw[a6 e]at q;rw[a6 λz=>e (Subtype.ext z)];show q)
 quiet:=λ{A E s k a Q} #[as,r] q=>wH 8 k.1 _ as A s Q (keyD_kd k.2).1 r (keyD_kd k.2).2 q
def Wy(a:J)(xs:G (KD×J×V))(w:XU)(h:Heap):Prop:=
 (xs.length<=Xl/\(a==Yv)=R/\(xs.map (·.1)).Nodup)/\∃o es b,h.get? a=M o/\o.ExactDict/\o.data=.dict es b/\Paired (λ(x:KD×J×V) (e:Y7)=>e.hash=p8 w x.1.1/\e.key=.ref x.2.1/\RelV x.2.2 e.val) xs es.toList
abbrev DkO(a:J)(xs:G (KD×J×V)):HO:=.exw (Wy a xs)
abbrev PrD(O:bA)(K:CL)(H:Hp):G (KD×J×V)->G (D×D)->Prop:=
 Paired λx kv=>x.1.1=kv.1/\L3.DV O K H (.ref x.2.1) kv.1/\L3.DV O K H x.2.2 kv.2
end LD
namespace L10
open PySem L2 L3
inductive AV where
 |fz (d:D)
 |rf (i:Nat)
inductive SV where
 |fz (d:D)
 |rf (i:Nat)
 |tp (l:G AV)
def AV.sv:AV->SV
 |.fz d=>.fz d
 |.rf i=>.rf i
inductive Cell where
 |lst (xs:G SV)
 |dct (XF:G (ci×SV))
 |obj (C:Str) (fs:G (Str×SV))
 |dd (XF:G (D×D))
 |dead
abbrev aK:=G Cell
abbrev aP:=G (I SV)
inductive RS(α:Type) where
 |ok (a:α) (ω:aK)
 |er (x:Xc) (ω:aK)
 |bad
def RS.bind(r:RS α)(f:α->aK->RS β):RS β:=match r with
 |.ok a b=>f a b
 |.er x b=>.er x b
 |.bad=>.bad
def RS.X8(b:aK):I α->RS α
 |some a=>.ok a b
 |none=>.bad
theorem RS.bind_ok(a:α)(b:aK)(f:α->aK->RS β):(RS.ok a b).bind f=f a b:=W
abbrev d5:=@RS.bind_ok
def Lv(α:G J)(a:aK):bA:=λb=>∃(i:Nat) (c:Cell),α[i]?=M b/\a[i]?=M c/\c≠Cell.dead
def ow(B:bA)(α:G J)(a:aK):bA:=λb=>B b\/Lv α a b
section
variable(O:bA)(K:CL)(H:Hp)(Z:bg Xa)
def AOk(v:V):AV->Prop
 |.fz d=>DV O K H v d
 |.rf i=>∃a,Z[i]?=M a/\v=.ref a
def ZE(v:V):SV->Prop
 |.fz d=>DV O K H v d
 |.rf i=>∃a,Z[i]?=M a/\v=.ref a
 |.tp l=>∃a xs,v=.ref a/\aaR O K H a xs/\Paired (AOk O K H Z) xs l
abbrev Ze:G V->G SV->Prop:=Paired (ZE O K H Z)
def COk(a:J):Cell->Prop
 |.lst xs=>∃e,H a=M (.lst e)/\Ze O K H Z e xs
 |.dct b=>∃ws:G (ci×V),H a=M (.dK ws)/\Paired (λ(p:ci×V) (q:ci×SV)=>p.1=q.1/\ZE O K H Z p.2 q.2) ws b
 |.obj C fs=>∃Ca f ws,XJ K Xy C=M (M (.ref Ca))/\H a=M (.ins Ca f ws)/\Paired (λ(p:Str×V) (q:Str×SV)=>p.1=q.1/\ZE O K H Z p.2 q.2) ws fs
 |.dd b=>∃xs,H a=M (LD.DkO a xs)/\LD.PrD O K H xs b
 |.dead=>True
def ZA(a:L2.St)(b:aP):Prop:=a.length=b.length/\∀(i:Nat) (x:SV),b[i]?=M (M x)->∃v,a[i]?=M (M v)/\ZE O K H Z v x
end
structure StoOk(B:bA)(K:CL)(H:Hp)(α:G J)(ω:aK):Prop where
 len:α.length=ω.length
 nd:∀(i j:Nat) (a:J),α[i]?=M a->α[j]?=M a->i=j
 bn:∀a,B a->H a≠P
 ba:∀a,B a->∀i:Nat,α[i]?≠M a
 al:∀(i:Nat) (a:J),α[i]?=M a->H a≠P
 cel:∀(i:Nat) (a:J) (c:Cell),α[i]?=M a->ω[i]?=M c->COk (ow B α ω) K H α a c
structure YE(α:G J)(ω:aK)(H:Hp)(α':G J)(ω':aK)(H':Hp):Prop where
 pre:∀(i:Nat) (a:J),α[i]?=M a->α'[i]?=M a
 kp:∀b o,H b=M o->¬Lv α ω b->H' b=M o
 lv:∀b,Lv α' ω' b->Lv α ω b\/H b=P
section
variable{B O Q:bA}{K:CL}{E:XK}{H t S N:Hp}{Z Y U T:bg Xa}{L X ω1 R:aK}{σ:L2.St}{ρ:aP}{v:V}
theorem YE.refl:YE Z L H Z L H:=#[λ_ _ h=>h,λ_ _ h _=>h,λ_ h=>.inl h]
def YE.trans(a:YE Z L H U ω1 S)(b:YE U ω1 S T R N):YE Z L H T R N:=by
 let e:∀b o,H b=M o->¬Lv Z L b->¬Lv U ω1 b:=λb o h n z=>(a.lv b z).elim n λq=>by simp_all
 show#[λi p h=>b.pre i p (a.pre i p h),λp o h n=>b.kp p o (a.kp p o h n) (e p o h n),λp h=>?_];rcases b.lv p h with h|h
 .show a.lv p h
 .cases q:H p with
  |none=>simp_all
  |some o=>show .inl (Classical.byContradiction λn=>?_);rw[a.kp p o q n]at h;ext h
theorem YE.same(s:YS H t):YE Z L H Z L t:=#[λ_ _ h=>h,λb o h _=>s b o h,λ_ h=>.inl h]
theorem YE.ev(e:YE Z L H Y X t):Ev (ow B Z L) H (ow B Y X) t:=λb o h n=>
 #[e.kp b o h λz=>n (.inr z),λz=>z.elim (λq=>n (.inl q)) λq=>(e.lv b q).elim (λq=>n (.inr q)) λq=>by simp_all]
def AOk.ev(e:Ev O H Q t)(p:∀(i:Nat) (a:J),Z[i]?=M a->Y[i]?=M a)(h:AOk O K H Z v x):AOk Q K t Y v x:=by
 cases x with
 |fz d=>show DV.ev e h
 |rf i=>let(a,f,b):=h;show#[a,p i a f,b]
def ZE.ev(e:Ev O H Q t)(p:∀(i:Nat) (a:J),Z[i]?=M a->Y[i]?=M a)(h:ZE O K H Z v x):ZE Q K t Y v x:=by
 cases x with
 |fz d=>show DV.ev e h
 |rf i=>let(a,f,b):=h;show#[a,p i a f,b]
 |tp l=>let(a,xs,f,b,g):=h;show#[a,xs,f,b.ev e,Paired.Z8 g λ_ _ q=>q.ev e p]
theorem ZE.Zd(e:YE Z L H Y X t)(h:ZE (ow B Z L) K H Z v x):ZE (ow B Y X) K t Y v x:=h.ev e.ev e.pre
theorem Ze.Zd(e:YE Z L H Y X t)(h:Ze (ow B Z L) K H Z vs xs):Ze (ow B Y X) K t Y vs xs:=Paired.Z8 h λ_ _ q=>q.Zd e
theorem ZA.Zd(e:YE Z L H Y X t)(h:ZA (ow B Z L) K H Z σ ρ):ZA (ow B Y X) K t Y σ ρ:=#[h.1,λi x q=>let#[v,h1,a]:=h.2 i x q;#[v,h1,a.Zd e]]
def COk.ev(e:Ev O H Q t)(p:∀(i:Nat) (a:J),Z[i]?=M a->Y[i]?=M a)(d:∀o,H a=M o->t a=M o)(h:COk O K H Z a c):COk Q K t Y a c:=by
 cases c with
 |lst xs=>let(j,f,b):=h;show#[j,d _ f,Paired.Z8 b λ_ _ q=>q.ev e p]
 |dct m=>let(ws,f,b):=h;show#[ws,d _ f,Paired.Z8 b λ_ _ q=>#[q.1,q.2.ev e p]]
 |obj C fs=>let(Ca,l,ws,g,f,b):=h;show#[Ca,l,ws,g,d _ f,Paired.Z8 b λ_ _ q=>#[q.1,q.2.ev e p]]
 |dd m=>let(xs,f,b):=h;show#[xs,d _ f,Paired.Z8 b λ_ _ q=>#[q.1,q.2.1.ev e,q.2.2.ev e]]
 |dead=>trivial
theorem StoOk.noO(s:StoOk B K H Z L):mx (ow B Z L) H:=λa h z=>z.elim (λq=>s.bn a q h) λ#[i,c,q,_]=>s.al i a q h
theorem StoOk.owd(s:StoOk B K H Z L):∀a,ow B Z L a->H a≠P:=λa z h=>s.noO a h z
def StoOk.grow(s:StoOk B K H Z L)(e:YS H t):StoOk B K t Z L:=by let n:∀a,H a≠P->t a≠P:=λa h z=>h (e.free z);show#[s.len,s.nd,λa h=>n a (s.bn a h),s.ba,λi a h=>n a (s.al i a h),λi a c f b=>(s.cel i a c f b).ev (Ev.grow e) (λ_ _ h=>h) λo h=>e _ _ h]
def StoOk.at(s:StoOk B K H Z L){i:Nat}(h:L[i]?=M c):∃a,Z[i]?=M a:=by let:i<L.length:=(W6.mp h).1;rw[<-s.len]at this;simp_all
theorem StoOk.afS(s:StoOk B K H Z L){i:Nat}(h:Z[i]?=M a):¬B a:=λz=>s.ba a z i h
def yj{i:Nat}{c m:Cell}(h:L[i]?=M c)(n:c≠.dead)(g:m≠.dead){b:J}:Lv Z (L.set i m) b↔Lv Z L b:=by
 constructor
 .rintro⟨j,d,f,a,l⟩
  rcases bC a with⟨rfl,rfl⟩|⟨_,a⟩
  .show#[j,c,f,h,n]
  .show#[j,d,f,a,l]
 .rintro⟨j,d,f,a,l⟩
  by_cases e:j=i
  .subst e;show#[j,m,f,by rw[Yh (W6.mp h).1],g]
  .show#[j,d,f,by rw[XH (λz=>e z.symm)];show a,l]
def Pk(h:L[i]?=M c)(e:c≠.dead)(a:o≠.dead):ow B Z (L.set i o)=ow B Z L:=by funext b;show propext #[λz=>z.imp id (yj h e a).mp,λz=>z.imp id (yj h e a).mpr]
theorem YE.put(d:Z[i]?=M a)(h:L[i]?=M c)(g:c≠.dead)(f:c'≠.dead):YE Z L H Z (L.set i c') (aR H a o):=
 #[λ_ _ h=>h,λb j q n=>by let z:b≠a:=λe=>n #[i,c,by simp_all,h,g];rw[ar z];show q,λb z=>.inl ((yj h g f).mp z)]
def StoOk.put(s:StoOk B K H Z L)(k:Z[i]?=M a)(h:L[i]?=M c)(p:c≠.dead)(f:c'≠.dead)(new:COk (ow B Z L) K (aR H a o) Z a c'):StoOk B K (aR H a o) Z (L.set i c'):=by
 let e:YE Z L H Z (L.set i c') (aR H a o):=YE.put k h p f;let n:∀b,H b≠P->aR H a o b≠P:=λb h=>by
  by_cases z:b=a
  .subst z;rw[ay];simp
  .rw[ar z];show h
 show#[by rw[Yf];show s.len,s.nd,λb h=>n b (s.bn b h),s.ba,λj b h=>n b (s.al j b h),λj b d m l=>?_];rcases bC l with⟨rfl,rfl⟩|⟨g,l⟩
 .rw[k]at m;ext m;rw[Pk h p f];show new
 .show(s.cel j b d m l).ev e.ev e.pre λu q=>by rw[ar (λz=>g (s.nd j i a (by simp_all) k))];show q
theorem rQ{i:Nat}{a:J}{c:Cell}{o:HO}(d:Z[i]?=M a)(h:L[i]?=M c)(b:c≠.dead):Ev (ow B Z L) H (ow B Z L) (aR H a o):=Ev.mut (.inr #[i,c,d,h,b]) o
def a9{Z:Type}{l:G Z}{x y:Z}{i:Nat}(h:(l++[x])[i]?=M y):l[i]?=M y\/(i=l.length/\y=x):=by
 by_cases hi:i<l.length
 .rw[Xh hi]at h;show .inl h
 .rw[XT ()]at h
  cases q:i - l.length with
  |zero=>rw[q]at h;ext h;show .inr #[by ext,W]
  |succ n=>rw[q]at h;ext h
def ei{Z:Type}{l:G Z}{x y:Z}{i:Nat}(h:l[i]?=M y):(l++[x])[i]?=M y:=by rw[Xh (W6.mp h).1];show h
def bc:(l++[x])[l.length]?=M x:=by simp
def qp(g:Z.length=L.length)(h:Lv (Z++[p]) (L++[c]) b):Lv Z L b\/b=p:=by
 let(i,d,e,a,f):=h;rcases a9 e with e|⟨e1,e2⟩
 .rcases a9 a with a|⟨e1,e2⟩
  .show .inl #[i,d,e,a,f]
  simp_all
 .show .inr e2
theorem YE.adu(f:Z.length=L.length)(s:YS H t)(g:H p=P):YE Z L H (Z++[p]) (L++[c]) t:=
 #[λi a h=>ei h,λb u q _=>s b u q,λb z=>(qp f z).imp id λe=>by simp_all]
def StoOk.adu(s:StoOk B K H Z L)(e:YS H t)(l:H p=P)(m:t p≠P)(new:COk (ow B (Z++[p]) (L++[c])) K t (Z++[p]) p c):StoOk B K t (Z++[p]) (L++[c]):=by
 let ev:YE Z L H (Z++[p]) (L++[c]) t:=YE.adu s.len e l;let n:∀b,H b≠P->t b≠P:=λb h z=>h (e.free z);show#[by rw[Xi,Xi,s.len];rfl,λi j a f g=>?_,λa h=>n a (s.bn a h),λa h i q=>?_,λi a h=>?_,λi a d f g=>?_]
 .rcases a9 f with g1|⟨e1,e2⟩<;>rcases a9 g with g2|⟨e3,e4⟩
  .show s.nd i j a g1 g2
  .show bb (by rw[e4];show l) (s.al i a g1)
  .show bb (by rw[e2];show l) (s.al j a g2)
  .omega
 .rcases a9 q with q|⟨_,e2⟩
  .show s.ba a h i q
  .subst e2;show s.bn a h l
 .rcases a9 h with h|⟨_,e2⟩
  .show n a (s.al i a h)
  simp_all
 .rcases a9 g with g|⟨e1,e2⟩
  .rcases a9 f with f|⟨e1,_⟩
   .show(s.cel i a d f g).ev ev.ev ev.pre λo q=>e _ _ q
   .let:=(W6.mp g).1;let:=s.len;ext
  .rcases a9 f with f|⟨_,e3⟩
   .let:=(W6.mp f).1;let:=s.len;ext
   simp_all
def WS(K:CL)(E:XK)(B:bA)(H:Hp)(Z:G J)(L:aK)(P:A->G J->aK->Hp->Prop):RS A->Prop
 |.ok a X=>∀Y t,YE Z L H Y X t->StoOk B K t Y X->P a Y X t
 |.er x X=>∀c b Y t,YE Z L H Y X t->StoOk B K t Y X->XOk K (ow B Y X) t c b x->E c b t
 |.bad=>False
def WS.from(e:YE Z L H U ω1 S)(h:WS K E B H Z L f r):WS K E B S U ω1 f r:=by
 cases r with
 |ok a R=>show λT N e2 b=>h T N (e.trans e2) b
 |er x R=>show λc g T N e2 b=>h c g T N (e.trans e2) b
 |bad=>show h
def WS.bind(h:WS K E B H Z L b (r.bind k)):WS K E B H Z L (λa U ω1 S=>WS K E B S U ω1 b (k a ω1)) r:=by
 cases r with
 |ok a ω1=>show λU S e1 _=>WS.from e1 h
 |er x ω1=>show h
 |bad=>show h
def WS.X8(h:WS K E B H Z L b ((RS.X8 L o).bind k)):∃a,o=M a/\WS K E B H Z L b (k a L):=by
 cases o with
 |none=>show h.elim
 |some a=>show#[a,W,h]
def WS.imp(h:WS K E B H Z L e r)(g:∀a Y X t,YE Z L H Y X t->StoOk B K t Y X->e a Y X t->P' a Y X t):WS K E B H Z L P' r:=by
 cases r with
 |ok a ω1=>show λU S e1 b=>g a U ω1 S e1 b (h U S e1 b)
 |er x ω1=>show h
 |bad=>show h
theorem WS.now(s:StoOk B K H Z L)(h:WS K E B H Z L b (.ok a L)):b a Z L H:=h Z H .refl s
end
abbrev cx:=aP->aK->RS SV
abbrev tM:=aP->aK->RS Bool
abbrev xm:=aP->aK->RS (G SV)
def bU(K:CL)(E:XK)(t:TE)(f:cx):Prop:=
 ∀(B:bA) (e:L2.St) (H:Hp) (α:G J) (h:aK) (i:aP) (Q:VK),StoOk B K H α h->ZA (ow B α h) K H α e i->WS K E B H α h (λx a b g=>∀v,ZE (ow B a b) K g a v x->Q v g) (f i h)->t e H Q
def wc(K:CL)(E:XK)(t:TT)(f:tM):Prop:=
 ∀(B:bA) (a:L2.St) (H:Hp) (α:G J) (g:aK) (h:aP) (Q:Bool->Hp->Prop),StoOk B K H α g->ZA (ow B α g) K H α a h->WS K E B H α g (λb _ _ e=>Q b e) (f h g)->t a H Q
def vU(K:CL)(E:XK)(t:TA)(f:xm):Prop:=
 ∀(B:bA) (e:L2.St) (H:Hp) (α:G J) (h:aK) (i:aP) (Q:G V->Hp->Prop),StoOk B K H α h->ZA (ow B α h) K H α e i->WS K E B H α h (λxs a b g=>∀j,Ze (ow B a b) K g a j xs->Q j g) (f i h)->t e H Q
section
variable{B O N:bA}{K:CL}{E:XK}{H H' U H2:Hp}{Z P Y J:bg Xa}{ω M ω1 T:aK}{X:L2.St}{ρ:aP}{v:V}
def Nr:I SV->I PV
 |some (.fz d)=>cL (.fz d)
 |_=>Ld
def bZ(ρ:aP):aQ:=ρ.map Nr
def tZ{i:Nat}(h:(bZ ρ)[i]?=cL (cL x)):∃d,x=.fz d/\ρ[i]?=cL (cL (.fz d)):=by
 unfold bZ at h;rw[Xj]at h;cases q:ρ[i]? with
 |none=>simp_all
 |some o=>
  rw[q]at h;let a:=Xm h;unfold Nr at a;split at a
  .ext a;show#[_,W,W]
  .ext a
def FL(s:StoOk B K H Z ω)(a:ZA (ow B Z ω) K H Z X ρ):Rl K (ow B Z ω) H (ow B Z ω) X H (bZ ρ):=by
 show#[YS.refl _,λ_ h=>h,s.owd,s.noO,by ext bZ;rw[W5];show a.1,λi x h=>?_,λi j ds es w h=>?_]
 .let(d,rfl,b):=tZ h;let(v,g,f):=a.2 i _ b;show#[v,g,f]
 .let(d,e,_):=tZ h;ext e
def kS(ω:aK):RV->RS SV
 |.fz d=>.ok (.fz d) ω
 |.ow ds=>.ok (.rf ω.length) (ω++[.lst (ds.map .fz)])
abbrev PQ(B:bA)(K:CL)(Q:VK):SV->G Xa->aK->Hp->Prop:=λx P M H'=>∀v,ZE (ow B P M) K H' P v x->Q v H'
theorem jL(O:bA)(Z:G Xa):∀{a:G V} {ds:G D},YH O K H a ds->Ze O K H Z a (ds.map .fz)
 |_,_,.nil=>.nil
 |_,_,.cons h t=>.cons h (jL O Z t)
theorem yr:∀{a:G V} {ds:G D},Ze O K H Z a (ds.map .fz)->YH O K H a ds
 |_,[],.nil=>.nil
 |_,_::_,.cons h t=>.cons h (yr t)
def rH(s:StoOk B K H Z ω)(w:WS K E B H Z ω (PQ B K Q) (kS ω (.ow ds)))(e:YS H H')(a:H p=Ld)(h:H' p=cL (.lst o))(hd:YH N K H' o ds)(f:∀b,ow B Z ω b->N b)(g:N p):Q (.ref p) H':=by
 let sub:∀b,ow B (Z++[p]) (ω++[.lst (ds.map .fz)]) b->N b:=λb z=>z.elim (λq=>f b (.inl q)) λq=>(qp s.len q).elim (λq=>f b (.inr q)) λq=>by simp_all
 show w (Z++[p]) H' (YE.adu s.len e a) (s.adu e a (by rw[h];simp) #[o,h,jL _ _ (hd.ev (Ev.sub sub))]) (.ref p) #[p,by rw[<-s.len];show bc,W]
def FH(s:StoOk B K H Z ω)(w:WS K E B H Z ω (PQ B K Q) (kS ω o)):Fin (ow B Z ω) K H Q o:=by
 cases o with
 |fz d=>show λv H' e a=>w Z H' (YE.same e) (s.grow e) v a
 |ow ds=>show λp g H' e f h a=>rH s w e f h a (λb z=>.inl z) (.inr W)
def ae(f:FE):cx:=λρ ω=>match f (bZ ρ)with
 |.ok (.fz d,_)=>.ok (.fz d) ω
 |.ok (.ow ds,_)=>kS ω (.ow ds)
 |.ok (.pl _,_)=>.bad
 |.er x=>.er x ω
 |.bad=>.bad
def Fh(h:EO K E t f):bU K E t (ae f):=by
 intro B X H Z ω ρ Q s g w;show h (ow B Z ω) H (ow B Z ω) X H (bZ ρ) Q (FL s g) ?_;unfold ae at w;cases q:f (bZ ρ)with
 |bad=>rw[q]at w;show w.elim
 |er x=>rw[q]at w;show λc u H' e k=>w c u Z H' (YE.same e) (s.grow e) k
 |ok r=>
  let(pv,b):=r;rw[q]at w;intro N v H' e R p;cases pv with
  |fz d=>show w Z H' (YE.same R.same) (s.grow R.same) v (DV.ev (Ev.sub R.bo) p)
  |ow ds=>let(a,y,rfl,n,m,l,j,o):=p;show rH s w R.same m l j R.bo n
  |pl i=>show w.elim
def bp(f:FT):tM:=λρ ω=>match f (bZ ρ)with
 |.ok (b,_)=>.ok b ω
 |.er x=>.er x ω
 |.bad=>.bad
def FQ(h:TTO K E t f):wc K E t (bp f):=by
 intro B X H Z ω ρ Q s g w;show h (ow B Z ω) H (ow B Z ω) X H (bZ ρ) Q (FL s g) ?_;unfold bp at w;cases q:f (bZ ρ)with
 |bad=>rw[q]at w;show w.elim
 |er x=>rw[q]at w;show λc i H' e k=>w c i Z H' (YE.same e) (s.grow e) k
 |ok r=>let(b,a):=r;rw[q]at w;show λN H' e R=>w Z H' (YE.same R.same) (s.grow R.same)
def aq(i:Nat):cx:=λρ ω=>match ρ[i]? with
 |some (cL x)=>.ok x ω
 |_=>.bad
def JY:bU K E (nY i) (aq i):=by
 intro B X H Z ω ρ Q s a w;unfold aq at w;cases q:ρ[i]? with
 |none=>rw[q]at w;show w.elim
 |some o=>
  cases o with
  |none=>rw[q]at w;show w.elim
  |some x=>rw[q]at w;let(v,e,b):=a.2 i x q;show#[v,e,WS.now s w v b]
def kN(K:CL)(C:Str)(fs:G Str):Prop:=∃Ca,XJ K Xy C=cL (cL (.ref Ca))/\Cls K Ca/\∀f∈fs,aax K Ca f
def aV(C f:Str)(e:cx):cx:=λρ ω=>(e ρ ω).bind λx ω1=>match x with
 |.rf i=>(match ω1[i]? with
  |some (.obj D fs)=>if D=C then RS.X8 ω1 (fs.lookup f)else .bad
  |_=>.bad)
 |_=>.bad
def CD:∀{ws:G (Str×V)} {fs:G (Str×SV)},Paired (λ(p:Str×V) (q:Str×SV)=>p.1=q.1/\ZE O K H Z p.2 q.2) ws fs->fs.lookup f=cL x->∃v,ws.lookup f=cL v/\ZE O K H Z v x:=by
 intro ws fs p
 induction p with
 |nil=>intro h;ext h
 | @cons a b _ _ q t i=>
  let(a,v):=a;let(b,y):=b;let(g,e):=q;intro h;ext g;rw[X4]at h⊢;split at h
  .ext h;show#[v,W,e]
  .show i h
def Df:∀{ws:G (Str×V)} {fs:G (Str×SV)},Paired (λ(p:Str×V) (q:Str×SV)=>p.1=q.1/\ZE O K H Z p.2 q.2) ws fs->fs.lookup f=Ld->ws.lookup f=Ld:=by
 intro ws fs p
 induction p with
 |nil=>intro h;rfl
 | @cons a b _ _ q t i=>
  let(a,v):=a;let(b,y):=b;let(e,g):=q;intro h;ext e;rw[X4]at h⊢;split at h
  .ext h
  .show i h
def A0(o:kN K C L)(n:f∈L)(k:bU K E ta fa):bU K E (Rb K ta f) (aV C f fa):=by
 intro B X H Z ω ρ Q s h w;show k B X H Z ω ρ _ s h (w.bind.imp λx Y ω1 U e1 e b v j=>?_);cases x with
 |fz d=>show b.elim
 |tp l=>show b.elim
 |rf i=>
  let(a,k,rfl):=j;dsimp only at b;cases q:ω1[i]? with
  |none=>rw[q]at b;show b.elim
  |some c=>
   rw[q]at b;cases c with
   |obj D fs=>
    dsimp only at b;by_cases z:D=C
    .subst z
     rw[ax W]at b;let(Ca,dx,ws,t,r,p):=e.cel i a _ k q;cases ql:fs.lookup f with
     |none=>rw[ql]at b;show b.elim
     |some x=>rw[ql]at b;let(u,m,g):=CD p ql;let(F,g0,A,y):=o;rw[t]at g0;ext g0;show#[a,Ca,dx,ws,u,W,r,A,y f n,m,WS.now e b u g]
    .rw[a4 z]at b;show b.elim
   |_=>show b.elim
def aB{Z a:Type}(f:Z->I a):G Z->I (G a)
 |[]=>cL []
 |x::r=>match f x with
  |some y=>(match aB f r with
   |some b=>cL (y::b)
   |none=>Ld)
  |none=>Ld
def sT:Nat->aK->SV->I D
 |_,_,.fz d=>cL d
 |0,_,_=>Ld
 |n+1,ω,.rf i=>match ω[i]? with
  |some (.lst xs)=>(aB (sT n ω) xs).map .list
  |_=>Ld
 |n+1,ω,.tp l=>(aB (λx=>sT n ω x.sv) l).map .tuple
theorem cR{Z a:Type}{f:Z->I a}{R:V->Z->Prop}{S:V->a->Prop}(h:∀v x y,R v x->f x=cL y->S v y):∀{c:G V} {xs:G Z} {ys:G a},Paired R c xs->aB f xs=cL ys->Paired S c ys
 |_,_,_,.nil,e=>by ext e;show .nil
 |_,_,_,.cons (b:=x) (l₂:=xs) r t,e=>by
  unfold aB at e;cases q:f x with
  |none=>simp_all
  |some y=>
   rw[q]at e;dsimp only at e;cases g:aB f xs with
   |none=>simp_all
   |some ys=>rw[g]at e;ext e;show .cons (h _ _ _ r q) (cR h t g)
def lP:∀{b:G V} {ds:G D},Paired (DV O K H) b ds->YH O K H b ds:=by
 intro _ _ p
 induction p with
 |nil=>show .nil
 |cons h t a=>show .cons h a
theorem Nv:Ev O H noO H:=Ev.sub λ_ z=>z.elim
theorem jj(s:StoOk B K H Z ω):∀(n:Nat) {v:V} {x:SV} {d:D},ZE (ow B Z ω) K H Z v x->sT n ω x=cL d->DV noO K H v d
 |n,v,.fz o,d,h,e=>by
  let g:cL o=cL d:=by ext n<;>show e
  ext g;show DV.ev Nv h
 |0,v,.rf i,d,h,e=>by ext e
 |0,v,.tp l,d,h,e=>by ext e
 |n+1,v,.rf i,d,h,e=>by
  let(a,m,rfl):=h;unfold sT at e;cases q:ω[i]? with
  |none=>simp_all
  |some c=>
   rw[q]at e;cases c with
   |lst xs=>
    dsimp only at e;cases j:aB (sT n ω) xs with
    |none=>simp_all
    |some ds=>rw[j]at e;ext e;let(p,f,b):=s.cel i a _ m q;show .lst #[aap.of f,λz=>z.elim] (lP (cR (R:=ZE (ow B Z ω) K H Z) (λv x y r e=>jj s n r e) b j))
   |_=>ext e
 |n+1,v,.tp l,d,h,e=>by
  let(a,xs,rfl,f,b):=h;unfold sT at e;cases j:aB (λx=>sT n ω x.sv) l with
  |none=>simp_all
  |some ds=>rw[j]at e;ext e;show .tup (f.ev Nv) (lP (cR (λv x y r e=>jj s n (by ext x<;>show r) e) b j))
def vR:SV->I D
 |.fz d=>cL d
 |_=>Ld
def sh(ω:aK):SV->I D
 |.fz d=>cL d
 |.rf i=>match ω[i]? with
  |some (.lst xs)=>(aB vR xs).map .list
  |_=>Ld
 |.tp _=>Ld
def Gu(s:StoOk B K H Z ω)(h:ZE (ow B Z ω) K H Z v x)(e:sh ω x=cL d):DX (ow B Z ω) K H v d:=by
 cases x with
 |fz g=>ext e;show DV.x h
 |tp l=>ext e
 |rf i=>
  let(a,n,rfl):=h;unfold sh at e;dsimp only at e;cases q:ω[i]? with
  |none=>simp_all
  |some c=>
   rw[q]at e;cases c with
   |lst xs=>
    dsimp only at e;cases j:aB vR xs with
    |none=>simp_all
    |some ds=>
     rw[j]at e;ext e;let(m,f,b):=s.cel i a _ n q;show#[a,m,W,aap.of f,lP (cR (λv x y r e=>?_) b j)];cases x with
     |fz d=>ext e;show r
     |rf i=>ext e
     |tp l=>ext e
   |_=>ext e
def KK:D->Bool
 |.none=>S
 |.bool _=>S
 |.int _=>S
 |.str _=>S
 |_=>R
def LJ(h:KK d=S)(a:DV O K H v d):DV N K H' v d:=by
 cases a with
 |Zo=>show .Zo
 |bl b=>show .bl b
 |int i=>show .int i
 |str x=>show .str x
 |tup _ _=>ext h
 |lst _ _=>ext h
def xP(ω:aK):RV->RS SV
 |.fz d=>if KK d=S then .ok (.fz d) ω else .bad
 |.ow _=>.bad
def EB(s:StoOk B K H Z ω)(w:WS K E B H Z ω (PQ B K Q) (xP ω o)):Fin noO K H Q o:=by
 cases o with
 |fz d=>
  let w:WS K E B H Z ω (PQ B K Q) (if KK d=S then RS.ok (SV.fz d) ω else RS.bad):=w;by_cases z:KK d=S
  .rw[ax z]at w;show λv H' e a=>w Z H' (YE.same e) (s.grow e) v (LJ z a)
  .rw[a4 z]at w;show w.elim
 |ow ds=>show w.elim
theorem Ir:mx noO H:=λ_ _ z=>z
def rM(f:D->D->I RV)(x y:SV)(ω:aK):RS SV:=match sh ω x,sh ω y with
 |some g,cL b=>(RS.X8 ω (f g b)).bind λe ω1=>kS ω1 e
 |_,_=>(RS.X8 ω (sT 6 ω x)).bind λg ω1=>(RS.X8 ω1 (sT 6 ω1 y)).bind λb T=>(RS.X8 T (f g b)).bind λe a=>xP a e
def yo(n:kZ K r f)(s:StoOk B K H Z ω)(m:ZE (ow B Z ω) K H Z x a)(l:ZE (ow B Z ω) K H Z y b)(w:WS K E B H Z ω (PQ B K Q) (rM f a b ω)):r x y H Q:=by
 let o:WS K E B H Z ω (PQ B K Q) ((RS.X8 ω (sT 6 ω a)).bind λq ω1=>(RS.X8 ω1 (sT 6 ω1 b)).bind λe T=>(RS.X8 T (f q e)).bind λp i=>xP i p)->r x y H Q:=λw=>by let(q,h,w):=w.X8;let(e,g,w):=w.X8;let(p,j,w):=w.X8;show n noO H x y q e p Q Ir (DV.x (jj s 6 m h)) (DV.x (jj s 6 l g)) j (EB s w)
 unfold rM at w;cases h:sh ω a with
 |none=>simp_all
 |some q=>
  cases g:sh ω b with
  |none=>simp_all
  |some e=>rw[h,g]at w;let(p,j,w):=w.X8;show n _ H x y q e p Q s.noO (Gu s m h) (Gu s l g) j (FH s w)
def jv(f:D->D->I RV)(a fb:cx):cx:=λρ ω=>(a ρ ω).bind λx ω1=>(fb ρ ω1).bind λy T=>rM f x y T
def Ga(l:kZ K r f)(c:bU K E C fa)(m:bU K E o fb):bU K E (DJ r C o) (jv f fa fb):=by intro B X H Z ω ρ Q s a w;show c B X H Z ω ρ _ s a (w.bind.imp λx Y ω1 U e1 h e v i=>?_);show m B X U Y ω1 ρ _ h (a.Zd e1) (e.bind.imp λy J T H2 e2 g b u j=>?_);show yo l g (i.Zd e2) j b
def Lw:SV->I Bool
 |.fz (.bool b)=>cL b
 |_=>Ld
def JF(e:Lw x=cL b)(h:ZE O K H Z v x):v=.bl b:=by
 unfold Lw at e;split at e
 .ext e;ext h;rfl
 .ext e
def aW(a:cx):tM:=λρ ω=>(a ρ ω).bind λx ω1=>RS.X8 ω1 (Lw x)
def jS(c:bU K E o C):wc K E (tU o) (aW C):=by
 intro B X H Z ω ρ Q s e w;show c B X H Z ω ρ _ s e (w.bind.imp λx Y ω1 U e1 f a v g=>?_);cases q:Lw x with
 |none=>rw[q]at a;show a.elim
 |some b=>rw[q]at a;show#[b,JF q g,WS.now f a]
theorem HZ(a:bU K E o C):wc K E (tB o) (aW C):=jS a
def lz(a fb:tM):tM:=λρ ω=>(a ρ ω).bind λb ω1=>if b=S then fb ρ ω1 else .ok R ω1
def wf(a fb:tM):tM:=λρ ω=>(a ρ ω).bind λb ω1=>if b=S then .ok S ω1 else fb ρ ω1
def p9(a:tM):tM:=λρ ω=>(a ρ ω).bind λb ω1=>.ok (!b) ω1
def Kr(j:wc K E t f)(i:wc K E u g):wc K E (Ru t u) (lz f g):=by
 intro B X H Z ω ρ Q s e w;show j B X H Z ω ρ _ s e (w.bind.imp λb Y ω1 U e1 h a=>?_);cases b with
 |true=>show i B X U Y ω1 ρ Q h (e.Zd e1) a
 |false=>show WS.now h a
def QB(j:wc K E t f)(i:wc K E u g):wc K E (V2 t u) (wf f g):=by
 intro B X H Z ω ρ Q s e w;show j B X H Z ω ρ _ s e (w.bind.imp λb Y ω1 U e1 h a=>?_);cases b with
 |true=>show WS.now h a
 |false=>show i B X U Y ω1 ρ Q h (e.Zd e1) a
def LL(h:wc K E t f):wc K E (ML t) (p9 f):=by intro B X H Z ω ρ Q s e w;show h B X H Z ω ρ _ s e (w.bind.imp λb Y ω1 U e1 g a=>WS.now g a)
def oW:tM:=λ_ ω=>.ok S ω
theorem Ha:wc K E Fs oW:=λB X H Z ω ρ Q s a w=>WS.now s w
def x3(a fb:cx):cx:=λρ ω=>(aW a ρ ω).bind λb ω1=>if b=S then fb ρ ω1 else .ok (.fz (.bool R)) ω1
def Km(d:bU K E C fa)(g:bU K E o fb):bU K E (MY C o) (x3 fa fb):=by
 intro B X H Z ω ρ Q s e w;show jS d B X H Z ω ρ (λc U=>if c=S then o X U Q else Q (.bl R) U) s e (w.bind.imp λb Y ω1 U e1 f a=>?_);cases b with
 |true=>show g B X U Y ω1 ρ Q f (e.Zd e1) a
 |false=>show WS.now f a _ (.bl R)
def DZ(c:tM)(a fb:cx):cx:=λρ ω=>(c ρ ω).bind λb ω1=>if b=S then a ρ ω1 else fb ρ ω1
def Ol(g:wc K E t c)(d:bU K E C fa)(h:bU K E o fb):bU K E (TB t C o) (DZ c fa fb):=by
 intro B X H Z ω ρ Q s a w;show g B X H Z ω ρ _ s a (w.bind.imp λb Y ω1 U e1 f e=>?_);cases b with
 |true=>show d B X U Y ω1 ρ Q f (a.Zd e1) e
 |false=>show h B X U Y ω1 ρ Q f (a.Zd e1) e
def aI:xm:=λ_ ω=>.ok [] ω
def ai(a:cx)(fr:xm):xm:=λρ ω=>(a ρ ω).bind λx ω1=>(fr ρ ω1).bind λxs T=>.ok (x::xs) T
theorem Bw:vU K E gJ aI:=λB X H Z ω ρ Q s a w=>WS.now s w [] .nil
def Ht(c:bU K E o C)(j:vU K E tr fr):vU K E (df o tr) (ai C fr):=by intro B X H Z ω ρ Q s b w;show c B X H Z ω ρ _ s b (w.bind.imp λx Y ω1 U e1 h f v i=>?_);show j B X U Y ω1 ρ _ h (b.Zd e1) (f.bind.imp λxs J T H2 e2 g e l a=>?_);show WS.now g e (v::l) (.cons (i.Zd e2) a)
def UA:SV->I AV
 |.fz d=>cL (.fz d)
 |.rf i=>cL (.rf i)
 |.tp _=>Ld
def Ux(xs:G SV):I SV:=match aB vR xs with
 |some ds=>cL (.fz (.tuple ds))
 |none=>(aB UA xs).map .tp
def mF(a:xm):cx:=λρ ω=>(a ρ ω).bind λxs ω1=>if xs.length<=1000 then RS.X8 ω1 (Ux xs)else .bad
def zt(r:ZE O K H Z v x)(e:vR x=cL d):DV O K H v d:=by
 cases x with
 |fz d=>ext e;show r
 |rf i=>ext e
 |tp l=>ext e
def Qs(r:ZE O K H Z v x)(e:UA x=cL d):AOk O K H Z v d:=by
 cases x with
 |fz d=>ext e;show r
 |rf i=>ext e;show r
 |tp l=>ext e
def Jy(c:vU K E C fa):bU K E (Ic C) (mF fa):=by
 intro B X H Z ω ρ Q s m w;show c B X H Z ω ρ _ s m (w.bind.imp λxs Y ω1 U e1 f a n g=>?_);by_cases hn:xs.length<=1000
 .rw[ax hn]at a
  show#[by rw[g.length];show y0 hn,λp j=>?_];let b:YS U (aR U p (.tup n)):=bj j _;let e:YE Y ω1 U Y ω1 (aR U p (.tup n)):=YE.same b;let i:aaR (ow B Y ω1) K (aR U p (.tup n)) p n:=#[SqT.of ay,λz=>bb z (f.noO p j)];unfold Ux at a;cases q:aB vR xs with
  |some ds=>rw[q]at a;show a Y _ e (f.grow b) _ (.tup i (lP (cR (R:=ZE (ow B Y ω1) K U Y) (λv x y r h=>(zt r h).ev e.ev) g q)))
  |none=>
   rw[q]at a;dsimp only at a;cases o:aB UA xs with
   |none=>rw[o]at a;show a.elim
   |some l=>rw[o]at a;show a Y _ e (f.grow b) _ #[p,n,W,i,cR (R:=ZE (ow B Y ω1) K U Y) (λv x y r h=>(Qs r h).ev e.ev e.pre) g o]
 .rw[a4 hn]at a;show a.elim
def QT(f:G D->I RV)(xs:G SV)(ω:aK):RS SV:=match aB (sh ω) xs with
 |some ds=>(RS.X8 ω (f ds)).bind λb ω1=>kS ω1 b
 |_=>(RS.X8 ω (aB (sT 6 ω) xs)).bind λds ω1=>(RS.X8 ω1 (f ds)).bind λb a=>xP a b
def y1(f:G D->I RV)(a:xm):cx:=λρ ω=>(a ρ ω).bind λxs ω1=>QT f xs ω1
def Q6(i:AI K r f)(c:vU K E C fa):bU K E (tR r C) (y1 f fa):=by
 intro B X H Z ω ρ Q s j w;show c B X H Z ω ρ _ s j (w.bind.imp λxs Y ω1 U e1 b a o h=>?_);unfold QT at a;cases n:aB (sh ω1) xs with
 |none=>rw[n]at a;let(ds,l,a):=a.X8;let(m,g,a):=a.X8;show i noO U o ds m Q Ir (cR (R:=ZE (ow B Y ω1) K U Y) (λv x y r e=>DV.x (jj b 6 r e)) h l) g (EB b a)
 |some ds=>rw[n]at a;let(m,g,a):=a.X8;show i _ U o ds m Q b.noO (cR (R:=ZE (ow B Y ω1) K U Y) (λv x y r e=>Gu b r e) h n) g (FH b a)
end
section
variable{B O O':bA}{K:CL}{E:XK}{H H' N M:Hp}{Z L U T:bg Xa}{ω X ω1 Y:aK}{S:L2.St}{ρ:aP}{v:V}
theorem yO:∀{c:G V} {xs:G β} {i:Nat} {x:β},Paired f c xs->xs[i]?=cL x->∃v,c[i]?=cL v/\f v x
 |_,_,_,_,.nil,e=>by simp at e
 |_,_,0,_,.cons h _,e=>by simp_all
 |_,_,i+1,x,.cons _ t,e=>by let(v,b,a):=yO t (by simpa using e);simp_all
def Od{b:G V}(h:Paired a b xs)(e:lh xs i=cL x):∃v,lh b i=cL v/\a v x:=by
 unfold lh at e⊢;rw[h.length];cases q:Nb xs.length i with
 |none=>simp_all
 |some j=>rw[q]at e;show yO h e
def F0:SV->I Int
 |.fz (.int i)=>cL i
 |_=>P
def Br(e:F0 x=cL i)(h:ZE O K H Z v x):v=.int i:=by
 unfold F0 at e;split at e
 .ext e;ext h;rfl
 .ext e
def OP(x y:SV)(ω:aK):RS SV:=match x with
 |.fz _=>rM bf x y ω
 |.rf j=>(match ω[j]? with
  |some (.lst xs)=>(RS.X8 ω (F0 y)).bind λi ω1=>RS.X8 ω1 (lh xs i)
  |_=>.bad)
 |.tp l=>(RS.X8 ω (F0 y)).bind λi ω1=>RS.X8 ω1 ((lh l i).map AV.sv)
def i7(a fb:cx):cx:=λρ ω=>(a ρ ω).bind λx ω1=>(fb ρ ω1).bind λy Y=>OP x y Y
def Oq(k:bU K E ta fa)(C:bU K E tb fb):bU K E (DJ (S3 K) ta tb) (i7 fa fb):=by
 intro B S H Z ω ρ Q s r w;show k B S H Z ω ρ _ s r (w.bind.imp λx U ω1 N e1 A t v e=>?_);show C B S N U ω1 ρ _ A (r.Zd e1) (t.bind.imp λy T Y M e2 f b u n=>?_);let e:=e.Zd e2;unfold OP at b;cases x with
 |fz d=>show yo Eh f e n b
 |rf j=>
  let(a,k,rfl):=e;dsimp only at b;cases q:Y[j]? with
  |none=>rw[q]at b;show b.elim
  |some c=>
   rw[q]at b;cases c with
   |lst xs=>
    let(i,h,b):=WS.X8 b;cases qa:lh xs i with
    |none=>rw[qa]at b;show b.elim
    |some x=>rw[qa]at b;let(vs,p,o):=f.cel j a _ k q;let(z,m,g):=Od o qa;show .inl #[a,vs,i,z,W,Br h n,SqL.of p,m,WS.now f b z g]
   |_=>show b.elim
 |tp l=>
  let(a,xs,rfl,p,o):=e;let(i,h,b):=WS.X8 b;cases qa:lh l i with
  |none=>rw[qa]at b;show b.elim
  |some x=>rw[qa]at b;let(z,m,g):=Od o qa;show .inr (.inl #[a,xs,i,z,W,Br h n,p.1,m,WS.now f b z (by ext x<;>show g)])
def pQ(h:Lv Z (ω.set i .dead) b):Lv Z ω b:=by
 let(j,c,f,a,e):=h;rcases bC a with⟨rfl,rfl⟩|⟨_,a⟩
 .simp_all
 .show#[j,c,f,a,e]
theorem YE.kill:YE Z ω H Z (ω.set i .dead) H:=#[λ_ _ h=>h,λ_ _ h _=>h,λ_ h=>.inl (pQ h)]
def StoOk.kill(s:StoOk B K H Z ω)(i:Nat):StoOk B K H Z (ω.set i .dead):=by
 let e:YE Z ω H Z (ω.set i .dead) H:=YE.kill;show#[by rw[Yf];show s.len,s.nd,s.bn,s.ba,s.al,λj b d g a=>?_];rcases bC a with⟨rfl,rfl⟩|⟨f,a⟩
 .show trivial
 .show(s.cel j b d g a).ev e.ev e.pre λu q=>q
def StoOk.adW(s:StoOk B K H Z ω)(d:Z[i]?=cL a):¬ow B Z (ω.set i .dead) a:=by
 rintro(z|⟨j,c,g,f,e⟩)
 .show s.afS d z
 .let:=s.nd j i a g d
  subst this;rcases bC f with⟨_,rfl⟩|⟨b,_⟩
  .show e W
  .show b W
def pE(g:aK->SV->I (D×aK)):aK->G SV->I (G D×aK)
 |ω,[]=>cL ([],ω)
 |ω,x::r=>match g ω x with
  |some (d,ω1)=>(match pE g ω1 r with
   |some (ds,Y)=>cL (d::ds,Y)
   |none=>P)
  |none=>P
def frz:Nat->aK->SV->I (D×aK)
 |_,ω,.fz d=>cL (d,ω)
 |0,_,_=>P
 |n+1,ω,.rf i=>match ω[i]? with
  |some (.lst xs)=>(match pE (frz n) ω xs with
   |some (ds,ω1)=>cL (.list ds,ω1.set i .dead)
   |none=>P)
  |_=>P
 |n+1,ω,.tp l=>match pE (frz n) ω (l.map AV.sv)with
  |some (ds,ω1)=>cL (.tuple ds,ω1)
  |none=>P
theorem vZ(a:∀{ω X:aK} {v:V} {x:SV} {d:D},StoOk B K H Z ω->ZE (ow B Z ω) K H Z v x->g ω x=cL (d,X)->StoOk B K H Z X/\YE Z ω H Z X H/\L3.DV (ow B Z X) K H v d):
  ∀{c:G V} {xs:G SV} {ds:G D} {ω X:aK},StoOk B K H Z ω->Ze (ow B Z ω) K H Z c xs->pE g ω xs=cL (ds,X)->StoOk B K H Z X/\YE Z ω H Z X H/\L3.YH (ow B Z X) K H c ds
 |_,_,_,ω,X,s,.nil,e=>by ext e;show#[s,.refl,.nil]
 |_,_,_,ω,X,s,.cons (b:=x) (l₂:=xs) r t,e=>by
  unfold pE at e;cases q:g ω x with
  |none=>simp_all
  |some p=>
   let(d,ω1):=p;rw[q]at e;dsimp only at e;let(h,e1,l):=a s r q;cases m:pE g ω1 xs with
   |none=>simp_all
   |some i=>let(ds,Y):=i;rw[m]at e;ext e;let(f,e2,j):=vZ a h (Ze.Zd e1 t) m;show#[f,e1.trans e2,.cons (l.ev e2.ev) j]
theorem vT:∀{a:G V} {l:G AV},Paired (AOk O K H Z) a l->Ze O K H Z a (l.map AV.sv)
 |_,_,.nil=>.nil
 |_,_,.cons (b:=x) h t=>.cons (by ext x<;>show h) (vT t)
theorem vB:∀(n:Nat) {ω X:aK} {v:V} {x:SV} {d:D},StoOk B K H Z ω->ZE (ow B Z ω) K H Z v x->frz n ω x=cL (d,X)->StoOk B K H Z X/\YE Z ω H Z X H/\L3.DV (ow B Z X) K H v d
 |n,ω,X,v,.fz t,d,s,h,e=>by
  let m:cL (t,ω)=cL (d,X):=by ext n<;>show e
  ext m;show#[s,.refl,h]
 |0,_,_,v,.rf i,d,s,h,e=>by ext e
 |0,_,_,v,.tp l,d,s,h,e=>by ext e
 |n+1,ω,X,v,.rf i,d,s,h,e=>by
  let(a,r,rfl):=h;unfold frz at e;cases q:ω[i]? with
  |none=>simp_all
  |some c=>
   rw[q]at e;cases c with
   |lst xs=>
    dsimp only at e;let(u,g,f):=s.cel i a _ r q;cases o:pE (frz n) ω xs with
    |none=>simp_all
    |some p=>let(ds,ω1):=p;rw[o]at e;ext e;let(b,e1,j):=vZ (λs h e=>vB n s h e) s f o;show#[b.kill i,e1.trans YE.kill,vt g (b.adW r) (j.ev (YE.kill).ev)]
   |_=>ext e
 |n+1,ω,X,v,.tp l,d,s,h,e=>by
  let(a,xs,rfl,g,f):=h;unfold frz at e;cases o:pE (frz n) ω (l.map AV.sv)with
  |none=>simp_all
  |some p=>let(ds,ω1):=p;rw[o]at e;ext e;let(b,e1,j):=vZ (λs h e=>vB n s h e) s (vT f) o;show#[b,e1,.tup (g.ev e1.ev) j]
def Ql(x:SV)(ω:aK):RS SV:=match frz 4 ω x with
 |some (d,ω1)=>.ok (.fz d) ω1
 |none=>.bad
def sB(f:cx):cx:=λρ ω=>(f ρ ω).bind λx ω1=>Ql x ω1
def Lo(h:bU K E t f):bU K E t (sB f):=by
 intro B S H Z ω ρ Q s b w;show h B S H Z ω ρ _ s b (w.bind.imp λx U ω1 N e1 g a v i=>?_);unfold Ql at a;cases q:frz 4 ω1 x with
 |none=>rw[q]at a;show a.elim
 |some p=>let(d,Y):=p;rw[q]at a;let(e,e2,j):=vB 4 g i q;show a U N e2 e v j
def XOk.sub(h:∀b,O' b->O b)(k:XOk K O H c dx x):XOk K O' H c dx x:=by let(i,fs,g,a):=k;show#[i,fs,g,λf d e=>let#[g1,v,g2,g3]:=a f d e;#[g1,v,g2,g3.ev (Ev.sub h)]]
def wA(F:FN)(n:Nat)(xs:G SV)(ω:aK):RS SV:=if xs.length=n then(match aB vR xs with
 |some ds=>(match F ds with
  |.ok a=>kS ω a
  |.er x=>.er x ω
  |.bad=>.bad)
 |none=>(RS.X8 ω (aB (sT 6 ω) xs)).bind λds ω1=>(match F ds with
  |.ok a=>xP ω1 a
  |_=>.bad))else .bad
def iX:RS A->RS A
 |.er _ _=>.bad
 |r=>r
def hJ(F:FN)(n:Nat)(a:xm):cx:=λρ ω=>(a ρ ω).bind λxs ω1=>iX (wA F n xs ω1)
def WS.e0(h:WS K E B H Z ω b (iX r)):WS K E0 B H Z ω b r:=by
 cases r with
 |ok a ω=>show h
 |er x ω=>show h.elim
 |bad=>show h
def Jt(s:StoOk B K H Z ω)(b:Ze (ow B Z ω) K H Z o xs)(w:WS K E B H Z ω (PQ B K Q) (wA F n xs ω)):Cu K n F o H Q E:=by
 unfold wA at w;by_cases hn:xs.length=n
 .rw[ax hn]at w
  show#[b.length.trans hn,?_];cases q:aB vR xs with
  |some ds=>
   rw[q]at w;show#[ow B Z ω,ds,s.owd,lP (cR (R:=ZE (ow B Z ω) K H Z) (λv x y r e=>zt r e) b q),?_];dsimp only at w;cases g:F ds with
   |ok h=>rw[g]at w;show FH s w
   |er x=>rw[g]at w;show λc i H' e k=>w c i Z H' (YE.same e) (s.grow e) k
   |bad=>rw[g]at w;show w.elim
  |none=>
   rw[q]at w;let(ds,f,w):=WS.X8 w;show#[noO,ds,λa z=>z.elim,lP (cR (R:=ZE (ow B Z ω) K H Z) (λv x y r e=>jj s 6 r e) b f),?_];cases g:F ds with
   |ok h=>rw[g]at w;show EB s w
   |er x=>rw[g]at w;show w.elim
   |bad=>rw[g]at w;show w.elim
 .rw[a4 hn]at w;show w.elim
def JC(c:vU K E o C):bU K E (jz (Cu K n F) [] E0 o) (hJ F n C):=by intro B S H Z ω ρ Q s b w;show c B S H Z ω ρ _ s b (w.bind.imp λxs U ω1 N e1 e a g f=>?_);rw[X5];show Jt e f (WS.e0 a)
abbrev fH:=G SV->aK->RS SV
def kB(K:CL)(n:Nat)(F:fH):Sp:=λa H Q E=>a.length=n/\∃(B:bA) (Z:G J) (ω:aK) (xs:G SV),StoOk B K H Z ω/\Ze (ow B Z ω) K H Z a xs/\WS K E B H Z ω (PQ B K Q) (F xs ω)
def mj(F:fH)(n:Nat)(a:xm):cx:=λρ ω=>(a ρ ω).bind λxs ω1=>if xs.length=n then iX (F xs ω1)else .bad
def Dg(c:vU K E o C):bU K E (jz (kB K n F) [] E0 o) (mj F n C):=by
 intro B S H Z ω ρ Q s e w;show c B S H Z ω ρ _ s e (w.bind.imp λxs U ω1 N e1 f a g b=>?_);rw[X5];by_cases hn:xs.length=n
 .rw[ax hn]at a;show#[b.length.trans hn,B,U,ω1,xs,f,b,WS.e0 a]
 .rw[a4 hn]at a;show a.elim
def lf(ω:aK)(C m:Str):SV->Bool
 |.rf i=>match ω[i]? with
  |some (.obj D fs)=>decide (D=C)&&(fs.lookup m).isNone
  |_=>R
 |_=>R
def oH(C m:Str)(F:fH)(n:Nat)(a:cx)(b:xm):cx:=λρ ω=>(a ρ ω).bind λx ω1=>if lf ω1 C m x=W3 then(b ρ ω1).bind λxs Y=>(if(x::xs).length=n then F (x::xs) Y else .bad)else .bad
def aM(C m:Str)(F:fH)(n:Nat)(a:cx)(b:xm):cx:=λρ ω=>(a ρ ω).bind λx ω1=>if lf ω1 C m x=W3 then(b ρ ω1).bind λxs Y=>(if(x::xs).length=n then iX (F (x::xs) Y)else .bad)else .bad
def Gs(f:XJ K Xy C=cL (cL (.ref Ca)))(s:StoOk B K H Z ω)(b:ZE (ow B Z ω) K H Z v x)(h:lf ω C m x=W3):∃a k fs,v=.ref a/\H a=cL (.ins Ca k fs)/\fs.lookup m=P:=by
 cases x with
 |fz d=>ext h
 |tp l=>ext h
 |rf i=>
  let(a,r,rfl):=b;unfold lf at h;dsimp only at h;cases q:ω[i]? with
  |none=>simp_all
  |some c=>
   rw[q]at h;cases c with
   |obj D fs=>rw[W0]at h;let(j,g):=h;let e:=a7 j;subst e;let(p,k,ws,g0,o,n):=s.cel i a _ r q;rw[f]at g0;ext g0;show#[a,k,ws,W,o,Df n (ZD.mp g)]
   |_=>ext h
def FB(q:XJ K Xy C=cL (cL (.ref Ca)))(p:bU K E to fo)(c:vU K E ta fa):bU K E (ue Ca m (kB K n F) [] E to ta) (oH C m F n fo fa):=by
 intro B S H Z ω ρ Q s g w;show p B S H Z ω ρ _ s g (w.bind.imp λx U ω1 N e1 i e v j=>?_);by_cases h:lf ω1 C m x=W3
 .rw[ax h]at e
  let(a,y,fs,rfl,t,r):=Gs q i j h;show#[a,y,fs,W,t,r,?_];show c B S N U ω1 ρ _ i (g.Zd e1) (e.bind.imp λxs T Y M e2 o b u f=>?_);rw[X5];let l:Ze (ow B T Y) K M T (.ref a::u) (x::xs):=.cons (j.Zd e2) f;by_cases hn:(x::xs).length=n
  .rw[ax hn]at b;show#[l.length.trans hn,B,T,Y,_,o,l,b]
  .rw[a4 hn]at b;show b.elim
 .rw[a4 h]at e;show e.elim
def C3(q:XJ K Xy C=cL (cL (.ref Ca)))(p:bU K E to fo)(c:vU K E ta fa):bU K E (ue Ca m (kB K n F) [] E0 to ta) (aM C m F n fo fa):=by
 intro B S H Z ω ρ Q s g w;show p B S H Z ω ρ _ s g (w.bind.imp λx U ω1 N e1 i e v j=>?_);by_cases h:lf ω1 C m x=W3
 .rw[ax h]at e
  let(a,y,fs,rfl,t,r):=Gs q i j h;show#[a,y,fs,W,t,r,?_];show c B S N U ω1 ρ _ i (g.Zd e1) (e.bind.imp λxs T Y M e2 o b u f=>?_);rw[X5];let l:Ze (ow B T Y) K M T (.ref a::u) (x::xs):=.cons (j.Zd e2) f;by_cases hn:(x::xs).length=n
  .rw[ax hn]at b;show#[l.length.trans hn,B,T,Y,_,o,l,WS.e0 b]
  .rw[a4 hn]at b;show b.elim
 .rw[a4 h]at e;show e.elim
def Db:SV->Bool
 |.fz .none=>W3
 |_=>R
def tN(C:Str)(F:fH)(n:Nat)(xs:G SV)(ω:aK):RS SV:=if(SV.rf ω.length::xs).length=n then(F (.rf ω.length::xs) (ω++[.obj C []])).bind λr Y=>(if Db r=W3 then .ok (.rf ω.length) Y else .bad)else .bad
def Dv(C:Str)(F:fH)(n:Nat)(a:xm):cx:=λρ ω=>(a ρ ω).bind λxs ω1=>tN C F n xs ω1
def rR(C:Str)(F:fH)(n:Nat)(a:xm):cx:=λρ ω=>(a ρ ω).bind λxs ω1=>iX (tN C F n xs ω1)
def Mc(h:Db x=W3)(a:ZE O K H Z v x):v=.Zo:=by
 unfold Db at h;split at h
 .ext a;rfl
 .ext h
def Ey(q:XJ K Xy C=cL (cL (.ref Ca)))(s:StoOk B K H Z ω)(p:Ze (ow B Z ω) K H Z vs xs)(w:WS K E B H Z ω (PQ B K Q) (tN C F n xs ω)):
  ∀x c,H x=P->H c=P->c≠x->kB K n F (.ref x::(vs++[])) (aR (aR H c (.own x)) x (.ins Ca c [])) (λv M=>v=.Zo/\Q (.ref x) M) E:=by
 intro x c f i h;rw[X5];unfold tN at w;let j:YS H (aR (aR H c (.own x)) x (.ins Ca c [])):=(bj i _).trans (bj (by rw[ar (λz=>h z.symm)];show f) _);let e:YE Z ω H (Z++[x]) (ω++[.obj C []]) (aR (aR H c (.own x)) x (.ins Ca c [])):=YE.adu s.len j f;let o:StoOk B K (aR (aR H c (.own x)) x (.ins Ca c [])) (Z++[x]) (ω++[.obj C []]):=s.adu j f (by rw[ay];simp) #[Ca,c,[],q,ay,.nil];let a:∀{L:G J} {X:aK} {H':Hp},YE (Z++[x]) (ω++[.obj C []]) (aR (aR H c (.own x)) x (.ins Ca c [])) L X H'->ZE (ow B L X) K H' L (.ref x) (.rf ω.length):=λe=>#[x,e.pre _ _ (by rw[<-s.len];show bc),W];by_cases hn:(SV.rf ω.length::xs).length=n
 .rw[ax hn]at w
  let l:Ze (ow B (Z++[x]) (ω++[.obj C []])) K (aR (aR H c (.own x)) x (.ins Ca c [])) (Z++[x]) (.ref x::vs) (.rf ω.length::xs):=.cons (a .refl) (Ze.Zd e p);show#[l.length.trans hn,B,_,_,_,o,l,?_];show WS.imp (WS.from e w.bind) λr T Y M e2 m b v g=>?_;by_cases z:Db r=W3
  .rw[ax z]at b;show#[Mc z g,WS.now m b _ (a e2)]
  .rw[a4 z]at b;show b.elim
 .rw[a4 hn]at w;show w.elim
def Jp(g:XJ K Xy C=cL (cL (.ref Ca)))(c:vU K E o fa):bU K E (xS Ca (kB K n F) [] E o) (Dv C F n fa):=by intro B S H Z ω ρ Q s b w;show c B S H Z ω ρ _ s b (w.bind.imp λxs U ω1 N e1 e a h f=>?_);show Ey g e f a
def Ew(g:XJ K Xy C=cL (cL (.ref Ca)))(c:vU K E o fa):bU K E (xS Ca (kB K n F) [] E0 o) (rR C F n fa):=by intro B S H Z ω ρ Q s b w;show c B S H Z ω ρ _ s b (w.bind.imp λxs U ω1 N e1 e a h f=>?_);show Ey g e f (WS.e0 a)
def jM(ω:aK):SV->I (Nat×G SV)
 |.rf i=>match ω[i]? with
  |some (.lst xs)=>cL (i,xs)
  |_=>P
 |_=>P
def AH(s:StoOk B K H Z ω)(b:ZE (ow B Z ω) K H Z v x)(h:jM ω x=cL (i,xs)):ω[i]?=cL (.lst xs)/\∃a k,Z[i]?=cL a/\v=.ref a/\H a=cL (.lst k)/\Ze (ow B Z ω) K H Z k xs:=by
 cases x with
 |fz d=>ext h
 |tp l=>ext h
 |rf j=>
  let(a,n,rfl):=b;unfold jM at h;dsimp only at h;cases q:ω[j]? with
  |none=>simp_all
  |some c=>
   rw[q]at h;cases c with
   |lst m=>let e:=Xm h;ext e;let(k,g,f):=s.cel i a _ n q;show#[q,a,k,n,W,g,f]
   |_=>ext h
def Ba(h:Paired e o xs)(r:e v x):Paired e (o++[v]) (xs++[x]):=by
 induction h with
 |nil=>show .cons r .nil
 |cons a _ b=>show .cons a b
def lY(b c:cx):cx:=λρ ω=>(b ρ ω).bind λo ω1=>(RS.X8 ω1 (jM ω1 o)).bind λ_ ω1=>(c ρ ω1).bind λx Y=>(RS.X8 Y (jM Y o)).bind λp a=>
 if p.2.length<1000000 then .ok (.fz .none) (a.set p.1 (.lst (p.2++[x])))else .bad
def JU(F:bU K E to fo)(G:bU K E te fe):bU K E (RI K "list" uq to (df te gJ)) (lY fo fe):=by
 intro B S H Z ω ρ Q s j w;show F B S H Z ω ρ _ s j (w.bind.imp λo U ω1 N e1 m e v n=>?_);let((P,y),A,e):=WS.X8 e;let(_,t,f,_,rfl,g0,_):=AH m n A;show#[.inl #[W,f,SqL.of g0],?_];show G B S N U ω1 ρ _ m (j.Zd e1) (e.bind.imp λx T Y M e2 l b u C=>?_);let((i,xs),q,b):=WS.X8 b;let(g,a,vs,ha,J,I,p):=AH l (n.Zd e2) q;ext J;dsimp only at b;by_cases hn:xs.length<1000000
 .rw[ax hn]at b;let ev:Ev (ow B T Y) M (ow B T Y) (aR M t (.lst (vs++[u]))):=rQ ha g (by nofun);show#[t,vs,u,W,W,I,tD (by rw[p.length];show hn),?_];show b T _ (YE.put ha g (by nofun) (by nofun)) (l.put ha g (by nofun) (by nofun) #[_,ay,Ba (Paired.Z8 p λ_ _ r=>r.ev ev λ_ _ h=>h) (C.ev ev λ_ _ h=>h)]) _ .Zo
 .rw[a4 hn]at b;show b.elim
end
inductive FlS where
 |nx (ρ:aP)
 |bk (ρ:aP)
 |ct (ρ:aP)
 |rt (x:SV)
abbrev dH:=aP->aK->RS FlS
abbrev wW:=SV->aP->aK->RS aP
abbrev Du:=G SV->aP->aK->RS aP
def lg(B:bA)(K:CL)(D:Ends):FlS->G J->aK->Hp->Prop
 |.nx b,α,a,H=>∀σ,ZA (ow B α a) K H α σ b->D.nx σ H
 |.bk b,α,a,H=>∀σ,ZA (ow B α a) K H α σ b->D.bk σ H
 |.ct b,α,a,H=>∀σ,ZA (ow B α a) K H α σ b->D.ct σ H
 |.rt x,α,a,H=>∀v,ZE (ow B α a) K H α v x->D.rt v H
def mS(K:CL)(E:XK)(t:TS)(g:dH):Prop:=
 ∀(B:bA) (a:L2.St) (H:Hp) (α:G J) (b:aK) (e:aP) (D:Ends),StoOk B K H α b->ZA (ow B α b) K H α a e->WS K E B H α b (lg B K D) (g e b)->t D a H
def IP(K:CL)(E:XK)(g:TG)(f:wW):Prop:=
 ∀(B:bA) (h:L2.St) (H:Hp) (α:G J) (j:aK) (m:aP) (v:V) (x:SV) (Q:L2.St->Hp->Prop),StoOk B K H α j->ZA (ow B α j) K H α h m->ZE (ow B α j) K H α v x->WS K E B H α j (λe a b i=>∀l,ZA (ow B a b) K i a l e->Q l i) (f x m j)->g v h H Q
def Hh(K:CL)(E:XK)(g:x9)(f:Du):Prop:=
 ∀(B:bA) (h:L2.St) (H:Hp) (α:G J) (j:aK) (m:aP) (n:G V) (xs:G SV) (Q:L2.St->Hp->Prop),StoOk B K H α j->ZA (ow B α j) K H α h m->Ze (ow B α j) K H α n xs->WS K E B H α j (λe a b i=>∀l,ZA (ow B a b) K i a l e->Q l i) (f xs m j)->g n h H Q
section
variable{B O O':bA}{K:CL}{E:XK}{H H' S P:Hp}{X M U Y:bg Xa}{ω N ω1 Z:aK}{T:L2.St}{ρ:aP}{v:V}
def ZA.set(a:ZA O K H X T ρ)(h:ZE O K H X v x):ZA O K H X (T.set i (cL v)) (ρ.set i (cL x)):=by
 show#[by rw[Yf,Yf];show a.1,λj y g=>?_];rcases bC g with⟨rfl,e⟩|⟨f,b⟩
 .ext e;show#[v,?_,h];rw[Yh];let:=vA g;rw[a.1];show this
 .let(u,m,l):=a.2 j y b;show#[u,by rw[XH (λz=>f z.symm)];show m,l]
def dZ(i:Nat):wW:=λx ρ ω=>.ok (ρ.set i (cL x)) ω
theorem xK:IP K E (oV i) (dZ i):=λB T H X ω ρ v x Q s a h w=>WS.now s w _ (a.set h)
def vx:Du:=λxs ρ ω=>match xs with
 |[]=>.ok ρ ω
 |_=>.bad
def jF(f:wW)(g:Du):Du:=λxs ρ ω=>match xs with
 |x::r=>(f x ρ ω).bind λa ω1=>g r a ω1
 |[]=>.bad
def Mx:Hh K E Mm vx:=by
 intro B T H X ω ρ b xs Q s a h w;cases h with
 |nil=>show#[W,WS.now s w _ a]
 |cons _ _=>show w.elim
def GM(p:IP K E t f)(o:Hh K E u g):Hh K E (BI t u) (jF f g):=by
 intro B T H X ω ρ q xs Q s m h w;cases h with
 |nil=>show w.elim
 |cons a b=>show#[_,_,W,p B T H X ω ρ _ _ _ s m a (WS.imp (WS.bind w) λi U ω1 S e1 n l e j=>?_)];show o B e S U ω1 i _ _ _ n j (Ze.Zd e1 b) l
def EI:SV->I (G SV)
 |.fz (.tuple ds)=>cL (ds.map .fz)
 |.tp l=>cL (l.map AV.sv)
 |_=>Ld
def Ro(h:ZE O K H X v x)(e:EI x=cL xs):∃a c,v=.ref a/\aaR O K H a c/\Ze O K H X c xs:=by
 unfold EI at e;split at e
 .ext e
  cases h with
  |tup h f=>show#[_,_,W,h,jL _ _ f]
 .ext e;let(a,b,rfl,i,g):=h;show#[a,b,W,i,vT g]
 .ext e
def D3(n:Nat)(f:Du):wW:=λx ρ ω=>(RS.X8 ω (EI x)).bind λxs ω1=>if xs.length=n then f xs ρ ω1 else .bad
def IX(h:Hh K E t f):IP K E (KM K n t) (D3 n f):=by
 intro B T H X ω ρ v x Q s e g w;let(xs,q,w):=WS.X8 w;let(a,j,rfl,i,b):=Ro g q;by_cases hn:xs.length=n
 .rw[ax hn]at w;show#[a,j,W,i.1,b.length.trans hn,h B T H X ω ρ j xs Q s e b w]
 .rw[a4 hn]at w;show w.elim
def bP:dH:=λρ ω=>.ok (.nx ρ) ω
def aC(f g:dH):dH:=λρ ω=>(f ρ ω).bind λa ω1=>match a with
 |.nx b=>g b ω1
 |a=>.ok a ω1
def bv(f:cx):dH:=λρ ω=>(f ρ ω).bind λ_ ω1=>.ok (.nx ρ) ω1
def ce(f:cx)(g:wW):dH:=λρ ω=>(f ρ ω).bind λx ω1=>(g x ρ ω1).bind λa Z=>.ok (.nx a) Z
def bT(c:tM)(f g:dH):dH:=λρ ω=>(c ρ ω).bind λb ω1=>if b=W3 then f ρ ω1 else g ρ ω1
def gw(f:cx):dH:=λρ ω=>(f ρ ω).bind λx ω1=>.ok (.rt x) ω1
def rU:dH:=λ_ ω=>.ok (.rt (.fz .none)) ω
theorem Gh:mS K E Ix bP:=λB T H X ω ρ D s a w=>WS.now s w T a
theorem HR:mS K E N3 rU:=λB T H X ω ρ D s a w=>WS.now s w .Zo .Zo
def KJ(m:mS K E t f)(l:mS K E u g):mS K E (Ii t u) (aC f g):=by
 intro B T H X ω ρ D s j w;show m B T H X ω ρ {D with nx:=u D} s j (WS.imp (WS.bind w) λn U ω1 S e1 e b=>?_);cases n with
 |nx a=>show λh i=>l B h S U ω1 a D e i b
 |rt x=>show WS.now (E:=E) e b
 |bk a=>show WS.now (E:=E) e b
 |ct a=>show WS.now (E:=E) e b
def HW(h:bU K E t f):mS K E (wq t) (bv f):=by intro B T H X ω ρ D s a w;show h B T H X ω ρ _ s a (WS.imp (WS.bind w) λx U ω1 S e1 e b v g=>WS.now e b T (a.Zd e1))
def Bi(h:bU K E t f)(p:IP K E g C):mS K E (wu t g) (ce f C):=by intro B T H X ω ρ D s e w;show h B T H X ω ρ _ s e (WS.imp (WS.bind w) λx U ω1 S e1 n l v o=>?_);show p B T S U ω1 ρ v x _ n (e.Zd e1) o (WS.imp (WS.bind l) λi Y Z P e2 m j a b=>WS.now m j a b)
def QX(i:wc K E c o)(l:mS K E t f)(j:mS K E u g):mS K E (JG c t u) (bT o f g):=by
 intro B T H X ω ρ D s a w;show i B T H X ω ρ _ s a (WS.imp (WS.bind w) λb U ω1 S e1 h e=>?_);cases b with
 |true=>show l B T S U ω1 ρ D h (a.Zd e1) e
 |false=>show j B T S U ω1 ρ D h (a.Zd e1) e
def JH(h:bU K E t f):mS K E (DB t) (gw f):=by intro B T H X ω ρ D s b w;show h B T H X ω ρ _ s b (WS.imp (WS.bind w) λx U ω1 S e1 e a v g=>WS.now e a v g)
def Dc(i:Nat)(f:D->D->I RV)(b:cx):dH:=λρ ω=>(aq i ρ ω).bind λx ω1=>(b ρ ω1).bind λy Z=>(rM f x y Z).bind λz a=>.ok (.nx (ρ.set i (cL z))) a
def J1(m:kZ K r f)(n:bU K E C fe):mS K E (S6 i C r) (Dc i f fe):=by
 intro B T H X ω ρ D s a w;unfold Dc aq at w;cases q:ρ[i]? with
 |none=>rw[q]at w;show w.elim
 |some o=>
  cases o with
  |none=>rw[q]at w;show w.elim
  |some x=>rw[q]at w;let(v,A,p):=a.2 i x q;show#[v,A,n B T H X ω ρ _ s a (WS.imp (WS.bind w) λy U ω1 S e1 h e u j=>?_)];show yo m h (p.Zd e1) j (WS.imp (WS.bind e) λz Y Z P e2 g b t l=>WS.now g b _ ((a.Zd (e1.trans e2)).set l))
def g7(f:Str)(x:SV):G (Str×SV)->G (Str×SV)
 |[]=>[(f,x)]
 |(g,y)::r=>if g=f then(g,x)::r else(g,y)::g7 f x r
def P6(h:ZE O K H X v x):∀{ws:G (Str×V)} {fs:G (Str×SV)},Paired (λ(p:Str×V) (q:Str×SV)=>p.1=q.1/\ZE O K H X p.2 q.2) ws fs->Paired (λ(p:Str×V) (q:Str×SV)=>p.1=q.1/\ZE O K H X p.2 q.2) (iE f v ws) (g7 f x fs):=by
 intro ws fs p
 induction p with
 |nil=>show .cons #[W,h] .nil
 | @cons a b _ _ q t j=>
  let(g,u):=a;let(i,y):=b;let(e,k):=q;ext e;unfold iE g7;by_cases z:g=f
  .rw[ax z,ax z];show .cons #[W,h] t
  .rw[a4 z,a4 z];show .cons #[W,k] j
def Fu(ω:aK)(C:Str):SV->I (Nat×G (Str×SV))
 |.rf i=>match ω[i]? with
  |some (.obj D fs)=>if D=C then cL (i,fs)else Ld
  |_=>Ld
 |_=>Ld
def T9(s:StoOk B K H X ω)(b:ZE (ow B X ω) K H X v x)(h:Fu ω C x=cL (i,fs)):ω[i]?=cL (.obj C fs)/\∃a Ca k ws,X[i]?=cL a/\v=.ref a/\XJ K Xy C=cL (cL (.ref Ca))/\H a=cL (.ins Ca k ws)/\Paired (λ(p:Str×V) (q:Str×SV)=>p.1=q.1/\ZE (ow B X ω) K H X p.2 q.2) ws fs:=by
 cases x with
 |fz d=>ext h
 |tp l=>ext h
 |rf j=>
  let(a,n,rfl):=b;unfold Fu at h;dsimp only at h;cases q:ω[j]? with
  |none=>simp_all
  |some c=>
   rw[q]at h;cases c with
   |obj D gs=>
    dsimp only at h;by_cases z:D=C
    .subst z;rw[ax W]at h;let e:=Xm h;ext e;let(Ca,k,ws,m,g,f):=s.cel i a _ n q;show#[q,a,Ca,k,ws,n,W,m,g,f]
    simp_all
   |_=>ext h
def eR(C f:Str)(b c:cx):dH:=λρ ω=>(c ρ ω).bind λx ω1=>(b ρ ω1).bind λo Z=>(RS.X8 Z (Fu Z C o)).bind λp a=>if p.2.length<100 then .ok (.nx ρ) (a.set p.1 (.obj C (g7 f x p.2)))else .bad
def KW(I:kN K C L)(F:f∈L)(A:bU K E to fo)(G:bU K E te fe):mS K E (PY K to te f) (eR C f fo fe):=by
 intro B T H X ω ρ D s e w;show G B T H X ω ρ _ s e (WS.imp (WS.bind w) λx U ω1 S e1 p n v t=>?_);show A B T S U ω1 ρ _ p (e.Zd e1) (WS.imp (WS.bind n) λo Y Z P e2 j b u y=>?_);let((i,fs),q,b):=WS.X8 b;let(g,a,Ca,dx,ws,ha,rfl,m,J,l):=T9 j y q;let(Cb,g0,R,Q):=I;rw[m]at g0;ext g0;dsimp only at b;by_cases hn:fs.length<100
 .rw[ax hn]at b;let ev:Ev (ow B Y Z) P (ow B Y Z) (aR P a (.ins Ca dx (iE f v ws))):=rQ ha g (by simp_all);let e3:YE Y Z P Y (Z.set i (.obj C (g7 f x fs))) (aR P a (.ins Ca dx (iE f v ws))):=YE.put ha g (by simp_all) (by simp_all);let hl:=Paired.length l;show#[a,Ca,dx,ws,W,J,R,Q f F,by ext,?_];show b Y _ e3 (j.put ha g (by simp_all) (by simp_all) #[Ca,dx,_,m,ay,P6 ((t.Zd e2).ev ev λ_ _ h=>h) (Paired.Z8 l λ_ _ r=>#[r.1,r.2.ev ev λ_ _ h=>h])]) T ((e.Zd (e1.trans e2)).Zd e3)
 .rw[a4 hn]at b;show b.elim
abbrev P0:=aP->aK->RS (G D)
def TR(K:CL)(E:XK)(b:TI)(e:P0):Prop:=
 ∀(B:bA) (T:L2.St) (H:Hp) (X:G Xa) (ω:aK) (ρ:aP) (a:It->Hp->Prop),StoOk B K H X ω->ZA (ow B X ω) K H X T ρ->WS K E B H X ω (λds M N H'=>∀J,vS K J (ow B M N) H' ds->a J H') (e ρ ω)->b T H a
def mZ(f:FI):P0:=λρ ω=>match f (bZ ρ)with
 |.ok (ds,_)=>.ok ds ω
 |.er x=>.er x ω
 |.bad=>.bad
def ES(h:IO K E C f):TR K E C (mZ f):=by
 intro B T H X ω ρ j s g w;show h (ow B X ω) H (ow B X ω) T H (bZ ρ) j (FL s g) ?_;unfold mZ at w;cases q:f (bZ ρ)with
 |bad=>rw[q]at w;show w.elim
 |er x=>rw[q]at w;show λc m H' e k=>w c m X H' (YE.same e) (s.grow e) k
 |ok r=>let(ds,a):=r;rw[q]at w;show λO' J H' e R i=>w X H' (YE.same R.same) (s.grow R.same) J λl P e2 n=>i l P (λb o h z=>e2 b o h λy=>z (R.bo b y)) n
def gB(a:cx):P0:=λρ ω=>(a ρ ω).bind λx ω1=>(match frz 4 ω1 x with
 |some (d,Z)=>RS.X8 Z (eP d)
 |none=>.bad)
def LO(h:bU K E o C):TR K E (Hb K o) (gB C):=by
 intro B T H X ω ρ l s f w;show h B T H X ω ρ _ s f (WS.imp (WS.bind w) λx U ω1 S e1 g a v i=>?_);cases q:frz 4 ω1 x with
 |none=>rw[q]at a;show a.elim
 |some p=>
  let(d,Z):=p;rw[q]at a;let(e,e2,j):=vB 4 g i q;dsimp only at a;cases m:eP d with
  |none=>rw[m]at a;show a.elim
  |some ds=>
   rw[m]at a;cases j with
   |tup h b=>ext m;show#[_,W,.inr #[#[_,h.1],a U S e2 e _ (DT h b)]]
   |lst h b=>ext m;show#[_,W,.inl #[#[_,h.1.sq],a U S e2 e _ (AZ h b)]]
   |_=>ext m
def gp(gt:wW)(b:dH):G D->dH
 |[],ρ,ω=>.ok (.nx ρ) ω
 |d::r,ρ,ω=>(gt (.fz d) ρ ω).bind λa ω1=>(b a ω1).bind λe Z=>match e with
  |.nx f=>gp gt b r f Z
  |.ct f=>gp gt b r f Z
  |.bk f=>.ok (.nx f) Z
  |.rt x=>.ok (.rt x) Z
def sC(a:P0)(gt:wW)(b:dH):dH:=λρ ω=>(a ρ ω).bind λds ω1=>gp gt b ds ρ ω1
def JM(c:TR K E wi fi)(k:IP K E g gt)(z:mS K E tb b):mS K E (C0 wi g tb) (sC fi gt b):=by
 intro B T H X ω ρ D s R w;show c B T H X ω ρ _ s R (WS.imp (WS.bind w) λds U ω1 S e1 s1 w1 J it=>?_);show#[λi m a H'=>m=ds.length - i/\i<=ds.length/\∃Y Z ρ2,YE U ω1 S Y Z H'/\StoOk B K H' Y Z/\ZA (ow B Y Z) K H' Y a ρ2/\WS K E B H' Y Z (lg B K D) (gp gt b (ds.drop i) ρ2 Z),#[_,W,X1 _,U,ω1,ρ,.refl,s1,R.Zd e1,w1],?_];rintro i m n P ⟨rfl,c,Y,Z,ρ2,e2,s2,sl2,w2⟩;let(go,p):=it (ow B Y Z) P e2.ev s2.noO;by_cases h:i<ds.length
 .let(g1,g2):=go i h
  show .inr #[g1,λa H'=>i+1<=ds.length/\∃Y Z ρ2,YE U ω1 S Y Z H'/\StoOk B K H' Y Z/\ZA (ow B Y Z) K H' Y a ρ2/\WS K E B H' Y Z (lg B K D) (gp gt b (ds.drop (i+1)) ρ2 Z),λa H' #[h1,h2]=>#[ds.length - (i+1),by ext,W,h1,h2],λx Q y=>?_];let(s3,d,hd,dv):=g2 x Q y;let ed:ds.drop i=d::ds.drop (i+1):=by let(_,q):=W6.mp hd;rw[YF h,q]
  rw[ed]at w2;let e3:YE Y Z P Y Z Q:=YE.same s3;show k B n Q Y Z ρ2 x (.fz d) _ (s2.grow s3) (sl2.Zd e3) dv (WS.imp (WS.bind (WS.from e3 w2)) λG I A H4 e4 s4 w3 F L=>?_);show z B F H4 I A G _ s4 L (WS.imp (WS.bind w3) λfl o l H5 e5 u t=>?_);let r:=e2.trans (e3.trans (e4.trans e5));cases fl with
  |nx f=>show λC j=>#[h,o,l,f,r,u,j,t]
  |ct f=>show λC j=>#[h,o,l,f,r,u,j,t]
  |bk f=>show WS.now (E:=E) u t
  |rt x=>show WS.now (E:=E) u t
 .let e:i=ds.length:=by ext
  subst e;rw[YD (Xg _)]at w2;show .inl #[p,WS.now s2 w2 n sl2]
def sI(c:tM)(b:dH):Nat->dH
 |0,_,_=>.bad
 |n+1,ρ,ω=>(c ρ ω).bind λk ω1=>if k=W3 then(b ρ ω1).bind λa Z=>match a with
  |.nx e=>sI c b n e Z
  |.ct e=>sI c b n e Z
  |.bk e=>.ok (.nx e) Z
  |.rt x=>.ok (.rt x) Z else .ok (.nx ρ) ω1
def uO(c:tM)(b:dH):dH:=sI c b 1000000
def CN(I:wc K E c fc)(J:mS K E tb b):mS K E (Gc c tb) (uO fc b):=by
 intro B T H X ω ρ D s F w;show#[λm e H'=>∃Y Z a,YE X ω H Y Z H'/\StoOk B K H' Y Z/\ZA (ow B Y Z) K H' Y e a/\WS K E B H' Y Z (lg B K D) (sI fc b m a Z),#[_,X,ω,ρ,.refl,s,F,w],?_];rintro m g P ⟨Y,Z,a,e2,G,i,A⟩;cases m with
 |zero=>show A.elim
 |succ m=>
  show I B g P Y Z a _ G i (WS.imp (WS.bind A) λk y t Q e3 C p=>?_);cases k with
  |true=>
   rw[ax W]at p⊢;show#[λe H'=>∃Y Z a,YE X ω H Y Z H'/\StoOk B K H' Y Z/\ZA (ow B Y Z) K H' Y e a/\WS K E B H' Y Z (lg B K D) (sI fc b m a Z),λe H' q=>#[m,ZI m,q],?_];show J B g Q y t a _ C (i.Zd e3) (WS.imp (WS.bind p) λL l j R e5 r o=>?_);let n:=e2.trans (e3.trans e5);cases L with
   |nx f=>show λu h=>#[l,j,f,n,r,h,o]
   |ct f=>show λu h=>#[l,j,f,n,r,h,o]
   |bk f=>show WS.now (E:=E) r o
   |rt x=>show WS.now (E:=E) r o
  |false=>rw[a4 Xs]at p⊢;show WS.now C p g (i.Zd e3)
end
section
variable{B O O':bA}{K:CL}{E:XK}{H H' T M:Hp}{U S X Y:bg Xa}{ω ω' ω1 Z:aK}{R:L2.St}{ρ:aP}{v:V}
def dD(gt:wW)(c:tM)(f:cx):G D->aP->aK->G SV->RS (G SV)
 |[],_,ω,acc=>.ok acc ω
 |d::r,ρ,ω,acc=>(gt (.fz d) ρ ω).bind λa ω1=>(c a ω1).bind λb Z=>if b=W3 then(f a Z).bind λx e=>(if acc.length<1000000 then dD gt c f r a e (acc++[x])else .bad)else dD gt c f r a Z acc
def oO(n:Nat)(a:G Nat)(ρ:aP):aP:=Xk n P++a.map λj=>(ρ[j]?).join
def oK(n:Nat)(a:G Nat)(b:P0)(gt:wW)(c:tM)(d:cx):cx:=λρ ω=>(b ρ ω).bind λds ω1=>(iX (dD gt c d ds (oO n a ρ) ω1 [])).bind λxs Z=>.ok (.rf Z.length) (Z++[.lst xs])
def IT{own:G Str}{c:G (Str×Nat)}{n:Nat}{f:G Nat}(d:own.length=n)(h:c.map (·.2)=f)(i:ZA O K H U R ρ):ZA O K H U (iK own c R) (oO n f ρ):=by
 unfold iK oO;rw[Bz d];let l:c.length=f.length:=by rw[<-h,W5]
 show#[by simp_all,λj x b=>?_];by_cases g:j<n
 .rw[Xh (by rw[Yx];show g),Zg,ax g]at b;ext b
 .rw[XT (by simp_all),Yx,Xj]at b⊢
  subst h;rw[Xj]at b;cases q:c[j - n]? with
  |none=>simp_all
  |some p=>
   rw[q]at b;let a:(ρ[p.2]?).join=cL x:=Xm b;let e:ρ[p.2]?=cL (cL x):=by
    cases t:ρ[p.2]? with
    |none=>rw[t]at a;ext a
    |some o=>rw[t]at a;show dw cL a
   let(u,r,m):=i.2 p.2 x e;simp_all
def xi{p:J}{c:Cell}(a:U.length=ω.length)(e:c≠.dead):ow (bK B p) U ω=ow B (U++[p]) (ω++[c]):=by
 funext b;show propext #[λz=>?_,λz=>?_]
 .rcases z with(z|z)|⟨i,d,h1,g,f⟩
  .show .inl z
  .show .inr #[U.length,c,by rw[z];show bc,by rw[a];show bc,e]
  .show .inr #[i,d,ei h1,ei g,f]
 .rcases z with z|z
  .show .inl (.inl z)
  .rcases qp a z with z|z
   .show .inr z
   .show .inl (.inr z)
def StoOk.adopt{p:J}{c:G V}{xs:G SV}(s:StoOk (bK B p) K H U ω)(l:H p=cL (.lst c))(g:Ze (ow (bK B p) U ω) K H U c xs)(n:¬B p):StoOk B K H (U++[p]) (ω++[.lst xs]):=by
 let eo:ow (bK B p) U ω=ow B (U++[p]) (ω++[.lst xs]):=xi s.len (by simp_all);let b:∀(i:Nat) (a:J),U[i]?=cL a->(U++[p])[i]?=cL a:=λi a h=>ei h;let m:∀i:Nat,U[i]?≠cL p:=s.ba p (.inr W);show#[by rw[Xi,Xi,s.len];rfl,λi j a e f=>?_,λa h=>s.bn a (.inl h),λa h i q=>?_,λi a h=>?_,λi a d e f=>?_]
 .rcases a9 e with g1|⟨e1,e2⟩<;>rcases a9 f with g2|⟨e3,e4⟩
  .show s.nd i j a g1 g2
  .simp_all
  .simp_all
  .omega
 .rcases a9 q with q|⟨_,e2⟩
  .show s.ba a (.inl h) i q
  simp_all
 .rcases a9 h with h|⟨_,e2⟩
  .show s.al i a h
  simp_all
 .rw[<-eo]
  rcases a9 f with g2|⟨e1,e2⟩
  .rcases a9 e with g1|⟨e1,_⟩
   .show(s.cel i a d g1 g2).ev .refl b λo q=>q
   .let:=(W6.mp g2).1;let:=s.len;ext
  .rcases a9 e with g1|⟨_,e3⟩
   .let:=(W6.mp g1).1;let:=s.len;ext
   .rw[e2,e3];show#[c,l,Paired.Z8 g λ_ _ r=>r.ev .refl b]
def StoOk.hide{p:J}{o:HO}(s:StoOk B K H U ω)(j:H p=P):StoOk (bK B p) K (aR H p o) U ω:=by let f:YS H (aR H p o):=bj j o;let g:=s.grow f;let ev:Ev (ow B U ω) H (ow (bK B p) U ω) (aR H p o):=λb u h n=>#[f b u h,λz=>z.elim (λz=>z.elim (λz=>n (.inl z)) λz=>by simp_all) λz=>n (.inr z)];show#[g.len,g.nd,λa h=>h.elim (g.bn a) λe=>by rw[e,ay];simp,λa h i q=>h.elim (λh=>g.ba a h i q) λe=>by rw[e]at q;show s.al i p q j,g.al,λi a c m l=>?_];show(s.cel i a c m l).ev ev (λ_ _ h=>h) λo q=>f _ _ q
def StoOk.ais{p:J}{o e:HO}(s:StoOk (bK B p) K H U ω)(j:H p=cL o):StoOk (bK B p) K (aR H p e) U ω:=by
 let ev:Ev (ow (bK B p) U ω) H (ow (bK B p) U ω) (aR H p e):=Ev.mut (.inl (.inr W)) e;let n:∀b,H b≠P->aR H p e b≠P:=λb h=>by
  by_cases z:b=p
  .subst z;rw[ay];simp
  .rw[ar z];show h
 show#[s.len,s.nd,λa h=>n a (s.bn a h),s.ba,λi a h=>n a (s.al i a h),λi a c f g=>(s.cel i a c f g).ev ev (λ_ _ h=>h) λu q=>?_];let:a≠p:=λz=>s.ba p (.inr W) i (by rw[<-z];show f);rw[ar this];show q
theorem YE.dd{p:J}{o:HO}(e:YE X ω1 T U ω H)(a:T p=P):YE X ω1 T U ω (aR H p o):=#[e.pre,λb u h n=>by rw[ar (bH h a)];show e.kp b u h n,e.lv]
theorem StoOk.ag2{p:J}(s:StoOk (bK B p) K H U ω):StoOk B K H U ω:=
 #[s.len,s.nd,λa h=>s.bn a (.inl h),λa h=>s.ba a (.inl h),s.al,λi a c f e=>(s.cel i a c f e).ev (λb o h n=>#[h,λy=>n (y.elim (λy=>.inl (.inl y)) .inr)]) (λ_ _ h=>h) λ_ h=>h]
def zH{own:bg Str}{fv:bg (Str×Nat)}{g:TG}{tc:TT}{te:TE}{gt:wW}{s:tM}{k:cx}{n:Nat}{fj:bg Nat}{J:It}{Q:VK}{ds:bg D}(hn:own.length=n)(hf:fv.map (·.2)=fj)
  (hg:IP K E g gt) (ht:wc K E tc s) (he:bU K E te k) (s1:StoOk B K T X ω1) (sl1:ZA (ow B X ω1) K T X R ρ) (it:vS K J (ow B X ω1) T ds) (w1:WS K E B T X ω1 (PQ B K Q) ((dD gt s k ds (oO n fj ρ) ω1 []).bind λxs Z=>.ok (.rf Z.length) (Z++[.lst xs]))):
  ∀D,T D=Ld->D8 J D (iK own fv R) g tc te T λH'=>Q (.ref D) H':=by
 intro p hD;let slc:ZA (ow B X ω1) K T X (iK own fv R) (oO n fj ρ):=IT hn hf sl1;generalize qr:dD gt s k ds (oO n fj ρ) ω1 []=rr at w1;by_cases C:rr=.bad
 .subst C;show w1.elim
 .
  let hB:¬B p:=λz=>s1.bn p z hD;let evH:∀{Y:bg Xa} {Z:aK} {H':Hp},YE X ω1 T Y Z H'->Ev (ow B X ω1) T (ow (bK B p) Y Z) H':=λe b o h n=>#[e.kp b o h λz=>n (.inr z),λz=>by
   rcases z with(z|z)|z
   .show n (.inl z)
   .simp_all
   .show(e.lv b z).elim (λq=>n (.inr q)) λq=>by simp_all]
  show#[λi m σ' H'=>m=ds.length - i/\i<=ds.length/\∃Y Z ρc acc ys,YE X ω1 T Y Z H'/\StoOk (bK B p) K H' Y Z/\ZA (ow (bK B p) Y Z) K H' Y σ' ρc/\H' p=cL (.lst ys)/\Ze (ow (bK B p) Y Z) K H' Y ys acc/\dD gt s k (ds.drop i) ρc Z acc=rr,
   #[_,W,X1 _,X,ω1,oO n fj ρ,[],[],YE.same (bj hD _),s1.hide hD,?_,ay,.nil,qr],?_]
  .show#[slc.1,λj x hx=>let#[v,h1,h2]:=slc.2 j x hx;#[v,h1,h2.ev (evH (YE.same (bj hD _))) λ_ _ h=>h]]
  .rintro i m σ2 M ⟨rfl,hi,Y,Z,ρ2,acc,ys,e2,s2,sl2,hy,vy,f⟩
   let(go,stop):=it (ow (bK B p) Y Z) M (evH e2) s2.noO;by_cases G:i<ds.length
   .let(g1,g2):=go i G
    show .inr #[g1,λσ5 I=>i+1<=ds.length/\∃Y Z ρc acc ys,YE X ω1 T Y Z I/\StoOk (bK B p) K I Y Z/\ZA (ow (bK B p) Y Z) K I Y σ5 ρc/\I p=cL (.lst ys)/\Ze (ow (bK B p) Y Z) K I Y ys acc/\dD gt s k (ds.drop (i+1)) ρc Z acc=rr,
     λσ5 I #[h1,h2]=>#[ds.length - (i+1),by ext,W,h1,h2],λx H3 y=>?_]
    let(s3,d,hd,dv):=g2 x H3 y;let ed:ds.drop i=d::ds.drop (i+1):=by let(_,q):=W6.mp hd;rw[YF G,q]
    rw[ed]at f;unfold dD at f;let e3:YE Y Z M Y Z H3:=YE.same s3;let kD:∀{αx αy:bg Xa} {ωx ωy:aK} {Hx Hy:Hp} {o:HO},StoOk (bK B p) K Hx αx ωx->YE αx ωx Hx αy ωy Hy->Hx p=cL o->Hy p=cL o:=λsx ex h=>ex.kp _ _ h λ#[i,c,q,_]=>sx.ba p (.inr W) i q;let w:∀{Pz0:bg Xa} {u:aK} {H3:Hp} {z:Xc} {t:aK},YE X ω1 T Pz0 u H3->RS.er z t=rr->∀c dx S H',YE Pz0 u H3 S t H'->StoOk (bK B p) K H' S t->XOk K (ow (bK B p) S t) H' c dx z->E c dx H':=λ{Pz0 u H3 z t} e3 q c dx S H' e s' x'=>by subst q;show w1 c dx S H' (e3.trans e) s'.ag2 (XOk.sub (λb y=>y.elim (λy=>.inl (.inl y)) .inr) x')
    show hg (bK B p) σ2 H3 Y Z ρ2 x (.fz d) _ (s2.grow s3) (sl2.Zd e3) dv ?_;cases qg:gt (.fz d) ρ2 Z with
    |er z t=>rw[qg]at f;show w (e2.trans e3) f
    |bad=>rw[qg]at f;show C f.symm
    |ok l L=>
     rw[qg]at f;intro α4 H4 e4 s4 σ4 sl4;show ht (bK B p) σ4 H4 α4 L l _ s4 sl4 ?_;let f:((s l L).bind λb Z=>if b=W3 then(k l Z).bind λx u=>(if acc.length<1000000 then dD gt s k (ds.drop (i+1)) l u (acc++[x])else .bad)else dD gt s k (ds.drop (i+1)) l Z acc)=rr:=f;cases qt:s l L with
     |er z t=>rw[qt]at f;show w (e2.trans (e3.trans e4)) f
     |bad=>rw[qt]at f;show C f.symm
     |ok b A=>
      rw[qt]at f;intro α5 I e5 s5;let sl5:=sl4.Zd e5;let Pa:=e3.trans (e4.trans e5);cases b with
      |false=>let f:dD gt s k (ds.drop (i+1)) l A acc=rr:=f;show#[G,α5,A,l,acc,ys,e2.trans Pa,s5,sl5,kD s2 Pa hy,Ze.Zd Pa vy,f]
      |true=>
       let f:((k l A).bind λx u=>(if acc.length<1000000 then dD gt s k (ds.drop (i+1)) l u (acc++[x])else .bad))=rr:=f;rw[ax W];show he (bK B p) σ4 I α5 A l _ s5 sl5 ?_;cases qe:k l A with
       |er z t=>rw[qe]at f;show w (e2.trans Pa) f
       |bad=>rw[qe]at f;show C f.symm
       |ok x6 F=>
        rw[qe]at f;intro N H6 e6 s6 v6 hv6;let f:(if acc.length<1000000 then dD gt s k (ds.drop (i+1)) l F (acc++[x6])else .bad)=rr:=f;by_cases hl6:acc.length<1000000
        .rw[ax hl6]at f;let Tb:=Pa.trans e6;let hy6:H6 p=cL (.lst ys):=kD s2 Tb hy;let vy6:=Ze.Zd Tb vy;let em:Ev (ow (bK B p) N F) H6 (ow (bK B p) N F) (aR H6 p (.lst (ys++[v6]))):=Ev.mut (.inl (.inr W)) _;let sl6:=sl5.Zd e6;show#[ys,hy6,tD (by rw[vy6.length];show hl6),G,N,F,l,acc++[x6],ys++[v6],(e2.trans Tb).dd hD,s6.ais hy6,#[sl6.1,λj x hx=>let#[v,h1,h2]:=sl6.2 j x hx;#[v,h1,h2.ev em λ_ _ h=>h]],ay,Ba (Paired.Z8 vy6 λ_ _ r=>r.ev em λ_ _ h=>h) (hv6.ev em λ_ _ h=>h),f]
        .rw[a4 hl6]at f;show bb f.symm C
   .let e:i=ds.length:=by ext
    subst e;rw[YD (Xg _)]at f;let f:RS.ok acc Z=rr:=f;subst f;show .inl #[stop,?_];show w1 (Y++[p]) M #[λi a h=>ei (e2.pre i a h),e2.kp,λb z=>(qp s2.len z).elim (e2.lv b) λz=>.inr (by rw[z];show hD)] (s2.adopt hy vy hB) (.ref p) #[p,by rw[<-s2.len];show bc,W]
def Qb{A C:Type}{P:C->G J->aK->Hp->Prop}{r:RS A}{k:A->aK->C}{m:A->aK->aK}(w:WS K E B H U ω P ((iX r).bind λa o=>.ok (k a o) (m a o))):WS K E0 B H U ω P (r.bind λa o=>.ok (k a o) (m a o)):=by
 cases r with
 |ok a o=>show w
 |er x o=>show w.elim
 |bad=>show w
def Hg{own:G Str}{d:G (Str×Nat)}{a:TI}{g:TG}{b:TT}{c:TE}{h:P0}{gt:wW}{k:tM}{r:cx}{n:Nat}{f:G Nat}(t:own.length=n)(p:d.map (·.2)=f)
  (u:TR K E a h) (o:IP K E0 g gt) (m:wc K E0 b k) (q:bU K E0 c r):bU K E (ub own d a g b c) (oK n f h gt k r):=by
 intro B R H U ω ρ Q s e w;show u B R H U ω ρ _ s e (WS.imp (WS.bind w) λds X ω1 T e1 j i J l=>?_);show zH t p o m q j (e.Zd e1) l (Qb i)
def cI(N:Nat)(g:dH):fH:=λxs ω=>(g (xs.map cL++Xk (N - xs.length) P) ω).bind λa ω1=>match a with
 |.rt x=>.ok x ω1
 |.nx _=>.ok (.fz .none) ω1
 |_=>.bad
def Ex{N:G Str}{c:G V}{xs:G SV}(h:Ze O K H U c xs):ZA O K H U (L2.start N c) (xs.map cL++Xk (N.length - xs.length) P):=by
 let e:c.length=xs.length:=Paired.length h;ext L2.start;show#[by simp_all,λi x a=>?_];by_cases hi:i<xs.length
 .rw[Xh (by simp_all),Xj]at a
  cases q:xs[i]? with
  |none=>rw[q]at a;ext a
  |some d=>rw[q]at a;ext a;let(v,b,f):=yO h q;show#[v,?_,f];rw[Xh (by rw[W5,e];show hi),Xj,b];rfl
 .rw[XT (by rw[W5];ext),Zg]at a;split at a<;>ext a
def zF{N:G Str}{c:G V}{xs:G SV}{g:dH}{t:TS}{Q:VK}{n:Nat}(f:mS K E t g)(h:kB K n (cI N.length g) c H Q E):t {nx:=λ_ H'=>Q .Zo H',rt:=Q} (L2.start N c) H:=by
 let(l,B,U,ω,xs,s,e,w):=h;show f B _ H U ω _ _ s (Ex e) (WS.imp (WS.bind w) λi X ω1 T e1 b a=>?_);cases i with
 |rt x=>show WS.now (E:=E) b a
 |nx ρ=>show λR j=>WS.now (E:=E) b a .Zo .Zo
 |bk ρ=>show a.elim
 |ct ρ=>show a.elim
end
def VV{P:Xx}{w:XU}{K:CL}{d:Str->I U}{base:Heap}{x a:Str}{st:YQ}{f:J}{fd:Yj}{N c:G Str}{k n m:Nat}{g:dH}{e:fH}(F:Fun K x a st f fd)(S:Zm N c (au st))(r:c.length=n)(hm:N.length=m)(o:e=cI m g)
  (p:∀(b:U) (A:XO) (outer:G Env) (s:Xd) (H:Hp) (E:XK),Y4 k (A.deeper (X0 a (au st) s.heap.objs.size f b))->
   ∃t,PSs (fC kQ P w K d base N a (au st) f b A outer s H E).nox (bW st) t/\mS K E t g):FnOk P w K d base kQ (k+1) f fd c (kB K n e):=by
 subst o hm;show F.ok S (λq H Q E h=>h.1.trans r.symm) (λb A outer s H q Q E l h=>?_);let(t,i,j):=p b A outer s H E l;show#[t,i,zF (xs:=[]) j h]
def Vt{P:Xx}{w:XU}{K:CL}{d:Str->bt U}{base:Heap}{x a:Str}{st:YQ}{f:J}{fd:Yj}{N c:bg Str}{k n m:Nat}{g:dH}{j:fH}(F:Fun K x a st f fd)(S:Zm N c (au st))(z:c.length=n)(hm:N.length=m)(u:j=cI m g)
  (y:∀(b:U) (A:XO) (outer:bg Env) (s:Xd) (H:Hp) (E:XK),Y4 k (A.deeper (X0 a (au st) s.heap.objs.size f b))->
   ∃t,PSs (fC (L4.lS P w) P w K d base N a (au st) f b A outer s H E) (bW st) t/\mS K E t g):FnOk P w K d base (L4.lS P w) (k+1) f fd c (kB K n j):=by
 subst u hm;let(G,C,kV,v,B,I,b,ct,l,rfl,o,i):=F.ex;show Et o i S (λL H Q E h=>h.1.trans z.symm) λA outer s H L Q E r e=>?_;let(t,p,q):=y b A outer s H E r;show#[t,p,zF (xs:=[]) q e]
end L10
namespace PySem.W
open PySem PySem.Calls PyProof.Rows PyProof.V PySem.Spec
section
variable{Y:Xx}{w:XU}{A:XO}{E:W2->Xd->Prop}{s:Xd}{T:String}{r d:Xa}{n:Nat}{P:Nat->W2->Prop}{X:Heap->Prop}
def collect_kdl(K:KdlSrc Y w T r d n P X)(m:A.handled=Ld)(Yq:X s.heap)(u:n<=Xl)
  (q:∀c k acc,(∀b o,s.heap.get? b=M o->c.get? b=M o)->amo P acc n->Q acc.toList {s with heap:=c,toks:=k}):wpAny (model Y w) A (collect (.ref r)) Q E s:=by
 let f:=K.there _ Yq;ext collect;show lD (wpAny_runValue (ZX F.entry_proto_collect ?_));rw[XO.under_plainId F.plain_proto_collect _];show lD (Yc ?_);show W9 #[ZW F.plain_list_iadd _,ZX F.entry_list_iadd ?_];rw[XO.under_plainId F.plain_list_iadd _];let p:(s.heap.push {cls:=.type "list",data:=.seq ([]:G U).toArray}).get? s.heap.objs.size=M {cls:=.type "list",data:=.seq ([]:G U).toArray}:=b5 _ W;show kdl_extend (R:=wants (λv j=>wpAny (model Y w) A (match v with|.ref a=>(load a>>=λo=>match o.data with|.seq xs _=>pure xs.toList|_=>unsupported "internal:collect")|_=>unsupported "internal:collect") Q E j) E) (s:={s with heap:=s.heap.push {cls:=.type "list",data:=.seq ([]:G U).toArray}}) K m (K.keep _ _ Yq λb _ o e=>b3 _ e) _ (Yw f.1) (Yw f.2) _ 0 p (λc k h t l g i=>?_) u;show lD (agD g ?_);show W9 (q c k h (λb o e=>l b o (XB (b4 e)) (b3 _ e)) i)
end
end PySem.W
namespace PyProof.Rows
open PySem
section
variable{Y:Xx}{w:XU}{A:XO}{E:W2->Xd->Prop}{s:Xd}{T:String}{r d:Xa}{n:Nat}{P:Nat->W2->Prop}{X:Heap->Prop}
def yd(K:PySem.W.KdlSrc Y w T r d n P X)(p:A.handled=Ld)(Yq:X s.heap)(l:n<64)(t:∀acc:Array U,amo P acc n->IntsAre acc.toList ns)
  (h:∀(a c:Heap) (g:Nat) (out:Array U) (e:Nat) (f:G Int),(∀b o,s.heap.get? b=M o->a.get? b=M o)->c.get? a.objs.size=M (seqObj "list" out e)->(∀b o,a.get? b=M o->c.get? b=M o)->IntsAre out.toList f->f.Perm ns->f.Pairwise (·<=·)->Q (.ref a.objs.size) {s with heap:=c,toks:=g}):
  wpAny (model Y w) A (call (.builtin "sorted") [.ref r]) Q E s:=by
 show Calls.call_function_entry kind_sorted plain_sorted entry_sorted (args_sorted1 _) (lD (W9 (lD (PySem.W.collect_kdl K p Yq (by rw[YU];ext) (λa g acc m C=>lD (amn ?_ (hsz:=by rw[Yi,C.1,YU];ext)))))));let i:(a.push (seqObj "list" acc.toList.toArray 0)).get? a.objs.size=M (seqObj "list" acc.toList.toArray 0):=b5 _ W;let j:=t acc C;show lD (Ys (Yt slot_list_sort #[_,i,W] entry_list_sort (list_sort_tree i j (by rw[Yi,C.1];show l) λout f y v u=>#[_,W,W9 #[_,W,?_]]) (args_list_sort _)));let(e,q):=rb i;show h a _ g out e f m q (λb B z=>oX (XB (b4 z)) (b3 _ z)) y v u
end
end PyProof.Rows
namespace L10
open PySem PySem.Spec PyProof.Rows L2 L3
def UH(p d:J):HO:=.ext λh=>h.IsValuesView p d
theorem To(x:h.IsValuesView p d):ObjOk g w H h p (UH p d):=#[x,let#[o,a,_]:=x;#[o,a],λf e #[o,a,b] k=>#[o,k o a,b]]
def Nc:V->G V->Hp->VK->Prop:=λx b H Q=>∃a e,x=.ref a/\b=[]/\H a=M (.dK e)/\∀p,H p=P->Q (.ref p) (aR H p (UH p a))
def C7:RU X "dict.values" Nc:=by intro g s m H x xs v n Q I i f h;let(a,r,rfl,rfl,e,q):=h;ext i;ext f;let(z,l,p,j,dd):=xt I.Yq e;show acz acC dd.typeIs PySem.F.entry_dict_values (PySem.F.args_dict_values_1 _) (meets_dict_values (cC X.prog X.w) a l) #[#[p,dd],?_];show#[.ref s.heap.objs.size,_,I.laid (λb o e=>b3 _ e) (Xg _) (To #[_,b5 _ W,W,W]),W,q _ (I.Yq.fresh (Xg _))]
def HA:G V->Hp->VK->Prop:=λxs H Q=>∃p a b,xs=[.ref p]/\H p=M (UH p a)/\H a=M (.dK b)/\∀l,H l=P->Q (.ref l) (aR H l (.lst (b.map (·.2))))
def K0:∀{c:G (o×V)} {b:G (o×U)},KV c b->Vals (c.map (·.2)) (b.map (·.2)):=by
 intro _ _ a
 induction a with
 |nil=>show .nil
 | @cons _ _ _ _ h t e=>show .cons h.2 (e)
def zb(n:X.calm=S):Zi X (.type "list") HA:=by intro g s C H xs E Q I r h;let(p,a,N,rfl,w,e,q):=h;let(u,rfl,l):=hW r;ext l;let(z,G,T,b,dd):=xt I.Yq e;let(K,B):=dd.dictAt;let(i,_,_):=I.Yq p _ w;show PySem.W.kdl_call (PySem.W.kdl_values) (I.ok.hd n) #[i,B] (by rw[<-b.length];show z) λJ F f c m t L=>?_;let A:=PySem.W.kdl_vals_eq f.toList (by rw[Yi];show L.1) λj v y=>L.2 j v (by rw[<-Zs];show y);show#[.ref s.heap.objs.size,_,I.laid (o:=.lst (N.map (·.2))) m (Xg _) #[by rw[W5];show z,f.toList,c,by rw[A];show K0 b,by rw[Array.toArray_toList];show t],W,q _ (I.Yq.fresh (Xg _))]
def y9:G V->Hp->VK->Prop:=λxs H Q=>∃(p:J) (e:G (ci×V)) (a:G Int),xs=[.ref p]/\H p=M (.dK e)/\e.map (·.1)=a.map Sum.inl/\a.length<64/\∀(l:J) (b:G Int),H l=P->b.Perm a->b.Pairwise (·<=·)->Q (.ref l) (aR H l (.lst (b.map V.int)))
theorem sj:∀{c:G (ci×U)} {a:G Int} {us:G U},c.map (·.1)=a.map Sum.inl->us.length=c.length->(∀(j:Nat) (u:U),us[j]?=M u->∃k x,c[j]?=M (k,x)/\(cC prog w).is k u=S)->IntsAre us a
 |[],[],[],_,_,_=>.nil
 |[],[],_::_,_,h,_=>by simp at h
 |[],_::_,_,h,_,_=>by simp at h
 |_::_,[],_,h,_,_=>by simp at h
 |_::_,_::_,[],_,h,_=>by simp at h
 |(k,y)::c,n::a,u::us,h1,m,l=>by rw[Xt,Xt,aoc]at h1;let(i,x,e,f):=l 0 u W;ext e;let g:=h1.1;subst g;let(t,rfl):=W2.isInt_shape (show W2.isInt n u=S from f);show .cons _ _ (sj h1.2 (by simpa using m) λj b e=>l (j+1) b (by simpa using e))
def zq(E:X.calm=W3):Zi X (.builtin "sorted") y9:=by
 intro i s N H xs O Q I r h;let(p,XF,l,rfl,e,J,F,q):=h;let(u,rfl,t):=hW r;ext t;let(z,C,vs,b,dd):=xt I.Yq e;let(T,L):=dd.dictAt;let m:vs.map (·.1)=l.map Sum.inl:=by rw[<-b.keys];show J
 let R:vs.length=l.length:=by let:=dw aaz m;simpa using this
 show yd (PySem.W.kdl_dict C) (I.ok.hd E) L () (λM Y=>sj m (by rw[Yi];show Y.1) λj v K=>Y.2 j v (by rw[<-Zs];show K)) λG S P f e2 w A B g Y n y=>?_;let a:=n.length_eq;let o:=I.kept (t':=s.toks) A;show#[.ref G.objs.size,_,o.laid g (Xg _) ?_,W,q _ w (o.Yq.fresh (Xg _)) n y];show#[?_,f.toList,e2,iS Y,B];rw[W5,a];let:(64:Nat)<=Xl:=by decide
 ext
end L10
namespace PySem
open Sem (wp)
namespace F
def lk_tuple_keys:typeLookup (.type "tuple") "keys"=pure P:=by rw[ajb,afE];kernel_rfl
def lk_tuple_hook:typeLookup (.type "tuple") "__getattr__"=pure P:=by rw[ajb,afE];kernel_rfl
def sub_ae:isSubtype (.type "AttributeError") (.type "AttributeError")=pure S:=by rw[isSubtype_type];kernel_rfl
end F
section
variable{Y:Xx}{w:XU}{A:XO}{E:W2->Xd->Prop}{h:Heap}{g:Array abd}{d:aeJ}{t:Nat}{X:adz}{a:Xa}{o:Obj}
def yw{α:Type}{name f:Str}{Q:α->Xd->Prop}{E:U->Xd->Prop}(hm:f.length<=Xl)(l:A.handled=P)(i:∀e c k,(∀b o,h.get? b=M o->c.get? b=M o)->(#[c,g,d,k,X]:Xd).TypeIs e "AttributeError"->E e #[c,g,d,k,X]):
  wpAny (model Y w) A (raiseAttrError (.ref a) name f:Sem α) Q E #[h,g,d,t,X]:=by
 let j:¬f.length>Xl:=Nat.not_lt.mpr hm;unfold raiseAttrError newExc newTuple
 repeat (any_goals (first|assumption|wp_step))
 show abJ (a:=S) F.sub_ae ?_
 repeat (any_goals (first|assumption|wp_step))
 show agf l (i _ _ _ (λb o e=>?_) ?_)
 .show(b7 _ _ (c9 (XB (b4 (b3 _ e))))).trans (b3 _ (b3 _ e))
 .show#[_,b9 _ (b5 _ W) W,W]
def nU{f:Tok}{Q:Fin->Xd->Prop}{E:U->Xd->Prop}{p:Array U}{n:Nat}{i:Array (I U)}(j:h.get? a=M #[.type "tuple",P,.seq p n,i])(m:A.handled=P)(l:∀e c k,(∀b o,h.get? b=M o->c.get? b=M o)->(#[c,g,d,k,X]:Xd).TypeIs e "AttributeError"->E e #[c,g,d,k,X]):
  wpAny (model Y w) A (XS.«object.__getattribute__» #[[.ref a,.str "keys" f],[]]) Q E #[h,g,d,t,X]:=by
 let q:(#[h,g,d,t,X]:Xd).TypeIs (.ref a) "tuple":=#[_,j,W];let r:=F.lk_tuple_keys
 repeat (any_goals (first|assumption|wp_step))
 show yw (by left) m l
def sF{f:Tok}{Q:U->Xd->Prop}{E:U->Xd->Prop}{u:Array U}{n:Nat}{l:Array (I U)}(i:h.get? a=M #[.type "tuple",P,.seq u n,l])(q:A.handled=P)(m:∀e c k,(∀b o,h.get? b=M o->c.get? b=M o)->(#[c,g,d,k,X]:Xd).TypeIs e "AttributeError"->E e #[c,g,d,k,X]):
  wpAny (model Y w) A (getAttrBy (.ref a) (.str "keys" f) R) Q E #[h,g,d,t,X]:=by
 let r:(#[h,g,d,t,X]:Xd).TypeIs (.ref a) "tuple":=#[_,i,W];let B:=F.slot_tuple_getattribute.lookup;let y:=F.slot_tuple_getattribute.bind (.ref a);let v:=F.lk_tuple_hook
 repeat (any_goals (first|assumption|wp_step))
 show ZP F.slot_tuple_getattribute.plain F.entry_tuple_ga (F.slot_tuple_getattribute.check _ _ _ _ _ _ _ _ r (F.args_tuple_getattribute_2 _ _) (nU i q λe c k p j=>?_));let fs:=F.sub_ae;show wpAny (model Y w) A (getattributeRaised (W2.ref a) (W2.str (Str.ofString "keys") f) (W2.type "tuple") e P R R) Q E _;ext getattributeRaised;show lD (aai j fs ?_)
 repeat (any_goals (first|assumption|wp_step))
 show m e c k p j
def pB(f:h.get? a=M #[.type "tuple",P,.seq X6 n,C])(l:A.handled=P)(i:∀c k,(∀b o,h.get? b=M o->c.get? b=M o)->Q P #[c,g,d,k,X]):
  wpAny (model Y w) A (getAttr? (.ref a) "keys") Q E #[h,g,d,t,X]:=by
 unfold getAttr? getAttrBy?;let fs:=F.sub_ae;show lD ?_
 repeat (any_goals (first|assumption|(specialize sF f l λe c k j m=>?_)|wp_step))
 show i c k j
namespace F
theorem entry_upd_loop:entryFor table "dict.update.loop"=M XS.«dict.update.loop»:=entryFor_of_tree (by kernel_rfl)
def plain_upd_loop:plainId "dict.update.loop"=S:=by left
end F
end
section
variable{prog:Xx}{w:XU}{A:XO}{E:W2->Xd->Prop}{s:Xd}{K:Type}[DecidableEq K]{knd:KeyKind prog w K}{I dd Y:Xa}{Z:Array W2}{ks:bg (K×W2)}{R:acP->Xd->Prop}
def zA(a:G (K×U))(k:K)(v:U):(stored a k v).length<=a.length+1:=by
 ext stored;split
 .rw[W5];ext
 .rw[Xi];show Xg _
theorem oY:∀(a c:G (K×U)),(merged c a).length<=c.length+a.length
 |[],c=>Xg _
 |p::r,c=>by let e:=oY r (stored c p.1 p.2);let b:=zA c p.1 p.2;show(merged (stored c p.1 p.2) r).length<=_;rw[Xn];ext
def yp(a:G (K×U)):(merged [] a).length<=a.length:=by let:=oY a [];simpa using this
def Fy{S:Heap}(D:A.handled=Ld)(J:Y≠I)(Q:I≠dd)(P:Y≠dd)(d:∀(i:Nat) (v:W2),Z[i]?=cL v->∃q key k x,v=.ref q/\q≠dd/\q≠I/\ks[i]?=cL (k,x)/\knd.is k key=W3/\S.IsTuple q #v[key,x])(hs:ks.length=Z.size)(hz:Z.size<=Xl)
  (V:∀c l,c.DictOf knd dd (merged [] ks)->(∀b o,b≠dd->b≠I->S.get? b=cL o->c.get? b=cL o)->R (.ok (.ret .none)) {s with heap:=c,toks:=l}):
  ∀(m i:Nat) (h:Heap) (l:Nat),Z.size - i=m->i<=Z.size->h.IsTupleIter I Y i->h.IsTuple Y Z->h.DictOf knd dd (merged [] (ks.take i))->(∀b o,b≠dd->b≠I->S.get? b=cL o->h.get? b=cL o)->
   codeAny (model prog w) A (.builtin "dict.update.loop" #[[.ref dd,.ref I,rawInt i,.none],[]]) R {s with heap:=h,toks:=l}:=by
 let W:=Walks.tuple (prog:=prog) (w:=w) (A:=A.in1) D I Y J Z;intro m
 induction m with
 |zero=>
  intro i h l hm hi C y u t;let e:i=Z.size:=by ext
  subst e;show ZX F.entry_upd_loop ?_;rw[XO.under_plainId F.plain_upd_loop _];show lD (W.done _ _ _ #[C,y] λc f g=>?_);rw[aaV ()]at u;show lD (W9 (W9 ?_));show V c f (u.at λo e=>g dd o (by simp;show λz=>Q z.symm) e) λb o j a e=>g b o (by simp;show a) (t b o j a e)
 |succ m ih=>
  intro i h l hm hi C y u t;let r:i<Z.size:=by ext
  show ZX F.entry_upd_loop ?_;rw[XO.under_plainId F.plain_upd_loop _];show lD (W.item i _ _ _ r #[C,y] λv c f hv U g=>?_);let(q,key,k,x,rfl,H,n,M,L,ht):=d i v hv;let G:=ht.at λo e=>g q o (by simp;show n) (t q o H n e);let T:=u.at λo e=>g dd o (by simp;show λz=>Q z.symm) e;let B:=λb o j a e=>g b o (by simp;show a) (t b o j a e);let(oq,p,O,nq,N):=G;let(cq,dq,dtq,X):=oq;ext O;ext N;let hT:({s with heap:=c,toks:=f}:Xd).TypeIs (.ref q) "tuple":=#[_,p,rfl];show lD (Ys (lD ?_));show abL ?_;ext XS.Dict.pairItems;show lD (aaA hT ?_);rw[ax ()];show lD ?_;unfold seqItems?;show lD (agD p (W9 (W9 ?_)));show Ys (wpAny_dictSet_pairs L T (λa d2 s2=>?_) ?_)
  .show W9 #[ZW F.plain_upd_loop _,?_];let e2:∀b o,b≠dd->c.get? b=cL o->a.get? b=cL o:=λb o hb e=>(s2.2 b hb).trans e;show ih (i+1) a (f+1) () r (U.1.at λo e=>e2 I o Q e) (U.2.at λo e=>e2 Y o P e) ?_ λb o j a e=>e2 b o j (B b o j a e);rw[merged_take_succ [] ks i (k,x) M];show d2
  .let:(merged [] (ks.take i)).length<=(ks.take i).length:=yp _;rw[Ye]at this;ext
end
end PySem
namespace PySem
open Sem (wp)
open PyProof.Rows
section
variable{T:Xx}{w:XU}{A:XO}{E:W2->Xd->Prop}{s:Xd}{K:Type}[DecidableEq K]{X:KeyKind T w K}{Y:Xa}{Z:Array W2}{ks:bg (K×W2)}{R:acP->Xd->Prop}
def pH(C:A.handled=P)(B:s.heap.get? Y=cL #[.type "tuple",P,.seq Z n,sl])(H:ks.length=Z.size)(z:Z.size<=Xl)
  (I:∀(i:Nat) (v:U),Z[i]?=cL v->∃q key k x,v=.ref q/\ks[i]?=cL (k,x)/\X.is k key=S/\s.heap.IsTuple q #v[key,x])
  (h:∀c d,c.DictOf X s.heap.objs.size (merged [] ks)->(∀b o,s.heap.get? b=cL o->c.get? b=cL o)->Q (.ref s.heap.objs.size) {s with heap:=c,toks:=d}):
  wpAny (model T w) A (call (.type "dict") [.ref Y]) Q E s:=by
 show callType_codes (Q₁:=λobj f=>obj=.ref s.heap.objs.size/\f={s with heap:=s.heap.push {cls:=.type "dict",data:=.dict #v[]}}) F.kt_called_dict (F.kt_typeCall_dict_1 _) F.entry_dict_init (kt_code_dict_new _ #[W,W]) ?_;rintro obj f ⟨rfl,rfl⟩;let a:(s.heap.push {cls:=.type "dict",data:=.dict #v[]}).DictOf X s.heap.objs.size []:=Heap.DictOf.new s.heap;let g:(s.heap.push {cls:=.type "dict",data:=.dict #v[]}).get? Y=cL #[.type "tuple",P,.seq Z n,sl]:=b3 _ B;let J:({s with heap:=s.heap.push {cls:=.type "dict",data:=.dict #v[]}}:Xd).TypeIs (.ref Y) "tuple":=#[_,g,W];show#[a.typeIs,F.args_dict_init_2 _ _,?_];unfold XS.«dict.__init__»;show lD ?_;ext XS.Dict.selfAndRest;show lD (abA a.typeIs ?_);show W9 ?_;show wpAny _ _ (XS.Dict.updateFrom "dict.__init__" s.heap.objs.size (.ref Y) [] .none) _ _ _;ext XS.Dict.updateFrom;show lD (aaA J ?_);rw[ax ()];show lD (pB g C λc G m=>?_);rw[ax (show(P:bt U).isNone=S from rfl)];show lD (abl ?_);let l:=m _ _ g;let t:c.IsTuple Y Z:=#[_,l,W,n,W];show lD (abw t ?_);show W9 #[ZW F.plain_upd_loop _,?_];let R0:s.heap.objs.size<c.objs.size:=by let(o,_,_,p,_):=a;show b4 (m _ _ p)
 let j:=b4 B;show Fy (A:=A.in1) (knd:=X) C (XB (Z0 j R0)) (Yw R0) (XB j) (λi v e=>?_) H z (λu r N k2=>?_) Z.size 0 _ G () (X1 _) #[_,b5 _ W,W,W] #[_,b3 _ l,W,n,W] ?_ λb o _ _ e=>e
 .let(q,key,k,x,rfl,M,u,o,p,L):=I i v e;let y:=b4 p;show#[q,key,k,x,W,XB y,XB (Z0 y R0),M,u,o,b3 _ (m _ _ (b3 _ p)),L]
 .show#[W,h u r N λb o e=>?_];let lb:=b4 e;show k2 b o (XB lb) (XB (Z0 lb R0)) (b3 _ (m _ _ (b3 _ e)))
 .let:=a.at (h':=c.push {cls:=.type "tuple_iterator",data:=.fields #v[.ref Y,.int 0 0]}) λo e=>b3 _ (m _ _ e);show this
end
end PySem
namespace L10
open PySem PySem.Spec PyProof.Rows L2 L3
inductive acL(K:CL)(H:Hp):G V->G (ci×V)->Prop
 |nil:acL K H [] []
 |cons {q:J} {k:ci} {v:V} {vs:G V} {XF:G (ci×V)}:SqT K H q [kV k,v]->acL K H vs XF->acL K H (.ref q::vs) ((k,v)::XF)
def zi(K:CL):G V->Hp->VK->Prop:=λxs H Q=>∃p ys a,xs=[.ref p]/\SqT K H p ys/\acL K H ys a/\∀d,H d=P->Q (.ref d) (aR H d (.dK (og [] a)))
theorem Ig(I:Inv X pins σ H s):∀{ys:G V} {y:G (ci×V)} {us:G U},acL X.K H ys y->Vals ys us->∃d:G (ci×U),KV y d/\d.length=us.length/\∀(i:Nat) (v:U),us[i]?=M v->∃q key k x,v=.ref q/\d[i]?=M (k,x)/\(cC X.prog X.w).is k key=S/\s.heap.IsTuple q #v[key,x]
 |_,_,_,.nil,.nil=>#[[],.nil,W,λi v e=>by simp at e]
 |_,_,_,.cons (q:=q) (k:=k) (v:=v) h t,.cons r rs=>by
  let(d,o,n,m):=Ig I t rs;let(p,A,pl,_):=I.tuple h;ext r;obtain⟨g,f,rfl,l,j⟩:∃g f,p=[g,f]/\RelV (kV k) g/\RelV v f:=by
   cases A with
   |cons a b=>cases b with
    |cons b c=>ext c;show#[_,_,W,a,b]
  show#[(k,f)::d,.cons #[W,j] o,by rw[Xn,Xn,n],λi u e=>?_];cases i with
  |zero=>ext e;show#[q,g,k,f,W,W,tf l,pl]
  |succ i=>show m i u (by simpa using e)
def zh(F:X.calm=W3):Zi X (.type "dict") (zi X.K):=by
 intro f s G H xs L Q I r h;let(p,J,Y,rfl,t,w,q):=h;let(u,rfl,g):=hW r;ext g;let(S,T,(o,y,(b,n,E),a),m):=I.ag8 t;let(P,k1,k2,k3):=Ig I w T;let(O,N,l,j):=o;ext b;ext E;ext a;let A:=T.length;let B:=k1.length;show pH (I.ok.hd F) y (by rw[Xr];show k2) (by rw[Xr,<-A];show m) (λi v e=>k3 i v (by simpa using e)) λR M dd C=>?_;show#[.ref s.heap.objs.size,_,I.laid C (Xg _) ?_,W,q _ (I.Yq.fresh (Xg _))];show yf ?_ ?_ (KV.merge k1 .nil) dd
 .let:=kX Y [];rw[Y9]at this;ext
 .show beq_eq_false_iff_ne.mpr (Yw I.big)
end L10
namespace L10
open PySem PyProof.Rows L2 L3
def Pb:Ya "dict"=M (.type "dict"):=by left
section
variable{B O O':bA}{K:CL}{E:XK}{H H' S R:Hp}{Y α' X U:bg Xa}{ω ω' ω1 Z:aK}{T:L2.St}{ρ:aP}{v:V}
def sG:SV->I ci
 |.fz (.int i)=>M (.inl i)
 |.fz (.str x)=>M (.inr x)
 |_=>P
def pP(e:sG x=M k)(h:ZE O K H Y v x):v=kV k:=by
 unfold sG at e;split at e
 .ext e;ext h;rfl
 .ext e;ext h;rfl
 .ext e
abbrev uT(O:bA)(K:CL)(H:Hp)(Y:G J):G (ci×V)->G (ci×SV)->Prop:=Paired (λ(p:ci×V) (q:ci×SV)=>p.1=q.1/\ZE O K H Y p.2 q.2)
def gR(ω:aK):SV->I (Nat×G (ci×SV))
 |.rf i=>match ω[i]? with
  |some (.dct a)=>M (i,a)
  |_=>P
 |_=>P
def lF(s:StoOk B K H Y ω)(b:ZE (ow B Y ω) K H Y v x)(h:gR ω x=M (i,o)):ω[i]?=M (.dct o)/\∃a ws,Y[i]?=M a/\v=.ref a/\H a=M (.dK ws)/\uT (ow B Y ω) K H Y ws o:=by
 cases x with
 |fz d=>ext h
 |tp l=>ext h
 |rf j=>
  let(a,n,rfl):=b;unfold gR at h;dsimp only at h;cases q:ω[j]? with
  |none=>rw[q]at h;ext h
  |some c=>
   rw[q]at h;cases c with
   |dct m=>let e:=Xm h;ext e;let(ws,g,f):=s.cel i a _ n q;show#[q,a,ws,n,W,g,f]
   |_=>ext h
def jf(a:G (ci×SV))(k:ci):I SV:=(a.find? λkv=>decide (kv.1=k)).map (·.2)
def jx(a:G (ci×SV))(k:ci)(x:SV):G (ci×SV):=
 if(a.any λkv=>decide (kv.1=k))=W3 then a.map (λkv=>if kv.1=k then(kv.1,x)else kv)else a++[(k,x)]
def lU(a:G (ci×SV))(k:ci):G (ci×SV):=a.filter λkv=>decide (kv.1≠k)
def vo:∀{ws:G (ci×V)} {c:G (ci×SV)},uT O K H Y ws c->(∀x,jf c k=M x->∃v,jG ws k=M v/\ZE O K H Y v x)/\(jf c k=P->jG ws k=P):=by
 intro _ _ f
 induction f with
 |nil=>show#[λx e=>(by ext e),λ_=>W]
 | @cons m l ws c j t n=>
  let(a,u):=m;let(b,y):=l;let(i,g):=j;ext i;unfold jf jG;rw[XZ,XZ];by_cases e:a=k
  .simp only[a5 e];show#[λx h=>#[u,W,by ext h;show g],λh=>by ext h]
  .simp only[a6 e];show n
def U0:∀{ws:G (ci×V)} {c:G (ci×SV)},uT O K H Y ws c->(ws.any λkv=>decide (kv.1=k))=c.any λkv=>decide (kv.1=k):=by
 intro _ _ e
 induction e with
 |nil=>show W
 | @cons j i ws c h t l=>let(a,u):=j;let(b,y):=i;let(f,g):=h;ext f;rw[aaa,aaa,l]
def Vu(g:ZE O K H Y v x):∀{ws:G (ci×V)} {c:G (ci×SV)},uT O K H Y ws c->uT O K H Y (ws.map (λkv=>if kv.1=k then(kv.1,v)else kv)) (c.map (λkv=>if kv.1=k then(kv.1,x)else kv)):=by
 intro _ _ f
 induction f with
 |nil=>show .nil
 | @cons n m ws c l t j=>
  let(a,u):=n;let(b,y):=m;let(i,h):=l;ext i;rw[Xt,Xt];by_cases e:a=k
  .rw[ax e,ax e];show .cons #[W,g] (j)
  .rw[a4 e,a4 e];show .cons #[W,h] (j)
def Eu(h:uT O K H Y ws o)(r:p.1=q.1/\ZE O K H Y p.2 q.2):uT O K H Y (ws++[p]) (o++[q]):=by
 induction h with
 |nil=>show .cons r .nil
 |cons a _ b=>show .cons a b
def AC(a:ZE O K H Y v x)(h:uT O K H Y ws o):uT O K H Y (iY ws k v) (jx o k x):=by
 unfold iY jx;rw[U0 h];split
 .show Vu a h
 .show Eu h #[W,a]
def D2:∀{ws:G (ci×V)} {c:G (ci×SV)},uT O K H Y ws c->uT O K H Y (mP ws k) (lU c k):=by
 intro _ _ f
 induction f with
 |nil=>show .nil
 | @cons m l ws c j t i=>
  let(a,u):=m;let(b,y):=l;let(h,g):=j;ext h;unfold mP lU;rw[ZH,ZH];by_cases e:a=k
  .let z:decide (a≠k)=W7:=a6 λn=>n e;simp only[z];show i
  .let z:=a5 e;simp only[z];show .cons #[W,g] (i)
def sN(neg:Bool)(a fd:cx):cx:=λρ ω=>(a ρ ω).bind λx ω1=>(fd ρ ω1).bind λo Z=>(RS.X8 Z (sG x)).bind λk Z=>(RS.X8 Z (gR Z o)).bind λp Z=>.ok (.fz (.bool ((jf p.2 k).isSome !=neg))) Z
def Gj(h:uT O K H Y ws o):(jG ws k).isSome=(jf o k).isSome:=by
 let(b,a):=vo h;cases q:jf o k with
 |none=>rw[a q];rfl
 |some x=>let(u,e,_):=b x q;rw[e];rfl
def LY(p:bU K E C fk)(hd:bU K E td fd):bU K E (TX C td) (sN W7 fk fd):=by intro B T H Y ω ρ Q s e w;show p B T H Y ω ρ _ s e (w.bind.imp λx X ω1 S e1 h g v m=>?_);show hd B T S X ω1 ρ _ h (e.Zd e1) (g.bind.imp λo U Z R e2 f b u n=>?_);let(k,l,b):=WS.X8 b;let((i,y),j,b):=WS.X8 b;let(_,a,ws,t,rfl,r,q):=lF f n j;show#[a,jG ws k,W,by rw[pP l m];show ac3.k r,?_];rw[Gj q];show WS.now f b _ ?_;rw[agg];show .bl _
def rF(fd a:cx):cx:=λρ ω=>(fd ρ ω).bind λo ω1=>(a ρ ω1).bind λx Z=>(RS.X8 Z (sG x)).bind λk Z=>(RS.X8 Z (gR Z o)).bind λp Z=>RS.X8 Z (jf p.2 k)
def E5(hd:bU K E td fd)(t:bU K E tk fk):bU K E (NP td tk) (rF fd fk):=by
 intro B T H Y ω ρ Q s e w;show hd B T H Y ω ρ _ s e (w.bind.imp λo X ω1 S e1 j g u r=>?_);show t B T S X ω1 ρ _ j (e.Zd e1) (g.bind.imp λx U Z R e2 f b v p=>?_);let(k,m,b):=WS.X8 b;let((i,L),l,b):=WS.X8 b;let(_,a,ws,N,rfl,C,A):=lF f (r.Zd e2) l;dsimp only at b;cases q:jf L k with
 |none=>rw[q]at b;show b.elim
 |some y=>rw[q]at b;let(z,n,h):=(vo A).1 y q;show#[a,z,W,by rw[pP m p,<-n];show ac3.k C,WS.now f b z h]
def tP(fd b c:cx):dH:=λρ ω=>(c ρ ω).bind λy ω1=>(fd ρ ω1).bind λo Z=>(b ρ Z).bind λx a=>(RS.X8 a (sG x)).bind λk a=>(RS.X8 a (gR a o)).bind λp a=>if p.2.length<1000000 then .ok (.nx ρ) (a.set p.1 (.dct (jx p.2 k y)))else .bad
def Gd(hd:bU K E td fd)(N:bU K E tk fk)(L:bU K E tv fv):mS K E (MU td tk tv) (tP fd fk fv):=by
 intro B T H Y ω ρ D s g w;show L B T H Y ω ρ _ s g (WS.imp (WS.bind w) λy X ω1 S e1 F A n m=>?_);show hd B T S X ω1 ρ _ F (g.Zd e1) (WS.imp (WS.bind A) λo U Z R e2 C t u M=>?_);show N B T R U Z ρ _ C (g.Zd (e1.trans e2)) (WS.imp (WS.bind t) λx b e j e3 p f z J=>?_);let(k,I,f):=WS.X8 f;let((i,XF),G,f):=WS.X8 f;let(l,a,ws,ha,rfl,P,q):=lF p (M.Zd e3) G;dsimp only at f;by_cases hn:XF.length<1000000
 .rw[ax hn]at f;let ev:Ev (ow B b e) j (ow B b e) (aR j a (.dK (iY ws k n))):=rQ ha l (by nofun);let e4:YE b e j b (e.set i (.dct (jx XF k y))) (aR j a (.dK (iY ws k n))):=YE.put ha l (by nofun) (by nofun);let Q:=Paired.length q;show#[a,_,W,by rw[pP I J];show afl.k P (tD ()),?_];show f b _ e4 (p.put ha l (by nofun) (by nofun) #[_,ay,AC ((m.Zd (e2.trans e3)).ev ev λ_ _ h=>h) (Paired.Z8 q λ_ _ r=>#[r.1,r.2.ev ev λ_ _ h=>h])]) T ((g.Zd (e1.trans (e2.trans e3))).Zd e4)
 .rw[a4 hn]at f;show f.elim
def sZ(fd a:cx):cx:=λρ ω=>(fd ρ ω).bind λo ω1=>(RS.X8 ω1 (gR ω1 o)).bind λ_ ω1=>(a ρ ω1).bind λx Z=>(RS.X8 Z (sG x)).bind λk Z=>(RS.X8 Z (gR Z o)).bind λp Z=>(RS.X8 Z (jf p.2 k)).bind λy Z=>.ok y (Z.set p.1 (.dct (lU p.2 k)))
def GK(hd:bU K E td fd)(J:bU K E tk fk):bU K E (Ec td tk) (sZ fd fk):=by intro B T H Y ω ρ Q s j w;show hd B T H Y ω ρ _ s j (w.bind.imp λo X ω1 S e1 m f u n=>?_);let((P,N),F,f):=WS.X8 f;let(_,a,e,_,rfl,g0,_):=lF m n F;show#[a,W,.inl #[e,.inl g0],?_];show J B T S X ω1 ρ _ m (j.Zd e1) (f.bind.imp λx U Z R e2 l b v I=>?_);let(k,C,b):=WS.X8 b;let((i,XF),A,b):=WS.X8 b;let(g,a',ws,ha,M,L,p):=lF l (n.Zd e2) A;ext M;dsimp only at b;let(y,q,b):=WS.X8 b;let(z,G,t):=(vo p).1 y q;let ev:Ev (ow B U Z) R (ow B U Z) (aR R a (.dK (mP ws k))):=rQ ha g (by nofun);let e4:YE U Z R U (Z.set i (.dct (lU XF k))) (aR R a (.dK (mP ws k))):=YE.put ha g (by nofun) (by nofun);show#[ws,k,z,L,pP C I,G,?_];show b U _ e4 (l.put ha g (by nofun) (by nofun) #[_,ay,D2 (Paired.Z8 p λ_ _ r=>#[r.1,r.2.ev ev λ_ _ h=>h])]) z (t.Zd e4)
def jQ(s:StoOk B K H Y ω)(a:H p=P)(w:WS K E B H Y ω (PQ B K Q) (.ok (.rf ω.length) (ω++[c])))(f:∀e:YE Y ω H (Y++[p]) (ω++[c]) (aR H p o),COk (ow B (Y++[p]) (ω++[c])) K (aR H p o) (Y++[p]) p c):Q (.ref p) (aR H p o):=by let b:YS H (aR H p o):=bj a _;let e:YE Y ω H (Y++[p]) (ω++[c]) (aR H p o):=YE.adu s.len b a;show w _ _ e (s.adu b a (by rw[ay];simp) (f e)) _ #[p,by rw[<-s.len];show bc,W]
def wO(fd:cx):cx:=λρ ω=>(fd ρ ω).bind λo ω1=>(RS.X8 ω1 (gR ω1 o)).bind λp ω1=>.ok (.rf ω1.length) (ω1++[.lst (p.2.map (·.2))])
def Ia:∀{ws:G (ci×V)} {b:G (ci×SV)},uT O K H Y ws b->Ze O K H Y (ws.map (·.2)) (b.map (·.2)):=by
 intro _ _ a
 induction a with
 |nil=>show .nil
 | @cons _ _ _ _ h t e=>show .cons h.2 (e)
def DN(hd:bU K E td fd):bU K E (tR HA (df (Ut K "dict" Nc td) gJ)) (wO fd):=by intro B T H Y ω ρ Q s m w;show hd B T H Y ω ρ _ s m (w.bind.imp λo X ω1 S e1 h f u t=>?_);let((i,N),q,f):=WS.X8 f;let(F,a,ws,L,rfl,g,C):=lF h t q;show#[.inr (.inr (.inl #[W,.inl #[ws,g]])),a,ws,W,W,g,λp y=>?_];let b:YS S (aR S p (UH p a)):=bj y _;let n:=h.grow b;let j:=WS.from (YE.same b) f;show#[p,a,ws,W,ay,b _ _ g,λl A=>?_];show jQ n A j λe=>#[_,ay,Ia (Paired.Z8 C λ_ _ r=>#[r.1,(r.2.Zd (YE.same b)).Zd e])]
def yx:ci->I Int
 |.inl i=>M i
 |.inr _=>P
def ri(fd:cx):cx:=λρ ω=>(fd ρ ω).bind λo ω1=>(RS.X8 ω1 (gR ω1 o)).bind λp ω1=>(RS.X8 ω1 (aB yx (p.2.map (·.1)))).bind λa ω1=>if a.length<64 then .ok (.rf ω1.length) (ω1++[.lst ((jR a).map λi=>SV.fz (.int i))])else .bad
theorem rZ:∀{c:G ci} {a:G Int},aB yx c=M a->c=a.map Sum.inl
 |[],_,e=>by ext e;rfl
 |k::r,a,e=>by
  unfold aB at e;cases k with
  |inr x=>ext e
  |inl i=>
   dsimp only[yx]at e;cases q:aB yx r with
   |none=>rw[q]at e;ext e
   |some b=>rw[q]at e;ext e;rw[Xt,<-rZ q]
def EW:∀{ws:G (ci×V)} {b:G (ci×SV)},uT O K H Y ws b->ws.map (·.1)=b.map (·.1):=by
 intro _ _ a
 induction a with
 |nil=>show W
 | @cons _ _ _ _ h t e=>rw[Xt,Xt,h.1,e]
theorem AD(O:bA)(K:CL)(H:Hp)(Y:G J):∀ns:G Int,Ze O K H Y (ns.map V.int) (ns.map λi=>SV.fz (.int i))
 |[]=>.nil
 |n::r=>.cons (.int n) (AD O K H Y r)
def G3(hd:bU K E td fd):bU K E (tR y9 (df td gJ)) (ri fd):=by
 intro B T H Y ω ρ Q s h w;show hd B T H Y ω ρ _ s h (w.bind.imp λo X ω1 S e1 g b u n=>?_);let((i,N),m,b):=WS.X8 b;let(C,a,ws,L,rfl,y,t):=lF g n m;let(f,j,b):=WS.X8 b;by_cases hn:f.length<64
 .rw[ax hn]at b;show#[a,ws,f,W,y,by rw[EW t];show rZ j,hn,λl F r q p=>?_];let A:=ko (q.trans (eN f).symm) p (dP f);subst A;show jQ g r b λe=>#[_,ay,AD _ _ _ _ _]
 .rw[a4 hn]at b;show b.elim
def rj:D->I (ci×SV)
 |.tuple [.int i,d]=>M (.inl i,.fz d)
 |.tuple [.str x,d]=>M (.inr x,.fz d)
 |_=>P
def uu:SV->I (G (ci×SV))
 |.fz (.tuple ds)=>aB rj ds
 |_=>P
def De(e:uu x=M o):∃ds,x=.fz (.tuple ds)/\aB rj ds=M o:=by
 unfold uu at e;split at e
 .show#[_,W,e]
 .ext e
def lA(c a:G (ci×SV)):G (ci×SV):=a.foldl (λb kv=>jx b kv.1 kv.2) c
def sW(b:cx):cx:=λρ ω=>(b ρ ω).bind λx ω1=>(RS.X8 ω1 (uu x)).bind λa ω1=>.ok (.rf ω1.length) (ω1++[.dct (lA [] a)])
theorem xT:∀{k:G V} {ds:G D} {j:G (ci×SV)},L3.YH O K H k ds->aB rj ds=M j->∃g,acL K H k g/\uT O K H Y g j
 |_,_,_,.nil,e=>by ext e;show#[[],.nil,.nil]
 |_,_,_,.cons (d:=d) (ds:=ds) h t,e=>by
  unfold aB at e;cases q:rj d with
  |none=>rw[q]at e;ext e
  |some p=>
   rw[q]at e;dsimp only at e;cases i:aB rj ds with
   |none=>rw[i]at e;ext e
   |some j=>
    rw[i]at e;ext e;let(g,k1,k2):=xT t i;unfold rj at q;split at q
    .ext q
     cases h with
     |tup h f=>cases f with
      |cons a b=>cases b with
       |cons b c=>ext c;ext a;show#[(.inl _,_)::g,.cons h.1 k1,.cons #[W,b] k2]
    .ext q
     cases h with
     |tup h f=>cases f with
      |cons a b=>cases b with
       |cons b c=>ext c;ext a;show#[(.inr _,_)::g,.cons h.1 k1,.cons #[W,b] k2]
    .ext q
theorem A5:∀{e:G (ci×V)} {f:G (ci×SV)} {ws:G (ci×V)} {c:G (ci×SV)},uT O K H Y e f->uT O K H Y ws c->uT O K H Y (og ws e) (lA c f)
 |_,_,_,_,.nil,h=>h
 |(a,u)::e,(b,y)::f,_,_,.cons r t,h=>by let(i,g):=r;ext i;show uT O K H Y (og (iY _ a u) e) (lA (jx _ a y) f);show A5 t (AC g h)
def HN(l:bU K E o C):bU K E (tR (zi K) (df o gJ)) (sW C):=by
 intro B T H Y ω ρ Q s f w;show l B T H Y ω ρ _ s f (w.bind.imp λx X ω1 S e1 g b u i=>?_);let(p,q,a):=WS.X8 b;let(ds,rfl,q):=De q;let a:=a;cases i with
 |tup h j=>let(n,k1,k2):=xT j q;show#[_,_,n,W,h.1,k1,λd m=>jQ g m a λe=>#[_,ay,A5 (Paired.Z8 k2 λ_ _ r=>#[r.1,r.2.Zd e]) .nil]]
end
end L10
namespace PySem
open PyProof.Rows
def jC:I Int->Int->I Int
 |none,x=>M x
 |some m,x=>M (if x>m then x else m)
def Ta:I (Int×Tok)->Array U
 |none=> #v[]
 |some (m,t)=> #v[.int m t,.int m t]
def M5(d:U):I (Int×Tok)->U
 |none=>d
 |some (m,t)=>.int m t
namespace F
def args_maxd(a b:U):checkBuiltinCall "max" #[[a],[("default",b)]]=pure ⟨⟩:=by kernel_rfl
end F
section
variable{prog:Xx}{w:XU}{A:XO}{E:W2->Xd->Prop}{R:acP->Xd->Prop}{I l S:Xa}{vs:bg W2}{d:W2}
def Kb(V:A.handled=Ld)(z:l≠I)(r:S≠I)(T:S≠l){s:Xd}:
  ∀{C:bg W2} {ns:bg Int},IntsAre C ns->∀(i:Nat) (h:Heap) (O:Nat) (b:bt (Int×Tok)) (c:Nat),vs=vs.take i++C->i<=vs.length->h.IsListIter I l i->h.IsList l vs.toArray->h.get? S=cL {cls:=.type "list",dict:=Ld,data:=.seq (Ta b) c,slots:= #v[]}->
  (∀x O D,D.map (·.1)=ns.foldl jC (b.map (·.1))->(∀a o,a≠I->a≠S->h.get? a=cL o->x.get? a=cL o)->R (.ok (.ret (M5 d D))) {s with heap:=x,toks:=O})->
  codeAny (model prog w) A (.builtin "max.loop" #[[.ref I,.none,.ref S],[("default",d)]]) R {s with heap:=h,toks:=O}:=by
 let W:=Walks.list (prog:=prog) (w:=w) (A:=A.in1) V I l z vs.toArray;intro C ns hi
 induction hi with
 |nil=>
  intro i h O b c u hi it li U N;let e:i=vs.toArray.size:=by rw[X5]at u;let:=dw aaz u;rw[Ye]at this;rw[Xr];ext
  show ZX F.entry_max_loop ?_;rw[XO.under_plainId F.plain_max_loop _];show lD (YG U rfl ?_);show lD (abL (W.done _ _ _ (e▸#[it,li]) λx g y=>?_));let f:=y S _ (by simpa using r) U;cases b with
  |none=>show lD (abl (W9 ?_));show N x g Ld rfl λa o j B e=>y a o (by simpa using j) e
  |some p=>let(m,t):=p;show lD (ade f rfl (lD (ZO (W9 ?_))) (hz:=by show 2<=Xl;decide));show N _ g (cL (m,t)) rfl λa o j B e=>(b7 _ _ (c9 B)).trans (y a o (by simpa using j) e)
 | @cons n t alG aiw hr ih=>
  intro i h O b c u hi it li U N;let H:i<vs.toArray.size:=by let:=dw aaz u;rw[Xi,Ye,Xn]at this;rw[Xr];ext
  let Q:vs[i]?=cL (.int n t):=by rw[u,XT (by rw[Ye];ext),Ye,agh hi,ab2];rfl
  let G:vs=vs.take (i+1)++alG:=by rw[ZY,Q];rw[X2];show u
  let J:i+1<=vs.length:=by rw[Xr]at H;show H
  show ZX F.entry_max_loop ?_;rw[XO.under_plainId F.plain_max_loop _];show lD (YG U rfl ?_);show lD (abL (W.item i _ _ _ H #[it,li] λv x g hP M y=>?_));let ev:v=.int n t:=by let X:=hP;rw[List.getElem?_toArray,Q]at X;show(Xm X).symm
  subst ev;let f:=y S _ (by simpa using r) U;let L:(toString "max"++toString ".loop":String)= "max.loop":=by decide
  cases b with
  |none=>
   show wpAny _ A.in1 (updateSeq S (λ_=> #v[W2.int n t,W2.int n t])>>=_) _ _ _;show lD (ade f rfl ?_);rw[L];show W9 #[ZW F.plain_max_loop _,ih (i+1) _ g (cL (n,t)) _ G J (M.1.at λo e=>?_) (M.2.at λo e=>?_) (b9 _ f rfl) λB q Y e2 k2=>N B q Y e2 λa o j K e=>k2 a o j K ((b7 _ _ (c9 K)).trans (y a o (by simpa using j) e))]
   .show(b7 _ _ r).trans e
   .show(b7 _ _ T).trans e
  |some p=>
   let(m,t0):=p;show wpAny _ A.in1 (tryCatch (holding [W2.int n t,W2.int n t] (richCompare .Gt (W2.int n t) (W2.int m t0)>>=_)) _>>=_) _ _ _;let alp:=CmpOf.ints_gt (prog:=prog) (w:=w) (A:=A.in1) (P:=λ(k:Nat) v=>(k=0/\v=W2.int n t)\/(k=1/\v=W2.int m t0)) (λk=>if k=0 then n else m) λk v u=>by
    rcases u with⟨rfl,rfl⟩|⟨rfl,rfl⟩
    .show#[t,rfl]
    .show#[t0,rfl]
   show lD (abL (Ys (lD (alp 0 1 _ _ _ _ _ (.inl #[rfl,rfl]) (.inr #[rfl,rfl]) ?_))));show lD (Ys (ZF ?_));show lD (ZO (W9 ?_));show wpAny _ A.in1 (if decide (n>m)=W3 then _ else _) _ _ _;by_cases Z:n>m
   .rw[ax (a5 Z)]
    show lD (ade f rfl (lD (ZO ?_)) (hz:=by show 2<=Xl;decide));rw[L];show W9 #[ZW F.plain_max_loop _,ih (i+1) _ g (cL (n,t)) _ G J (M.1.at λo e=>?_) (M.2.at λo e=>?_) (b9 _ f rfl) λB q Y e2 k2=>N B q Y ?_ λa o j K e=>k2 a o j K ((b7 _ _ (c9 K)).trans (y a o (by simpa using j) e))]
    .show(b7 _ _ r).trans e
    .show(b7 _ _ T).trans e
    .rw[e2];show _=aiw.foldl jC (cL (if n>m then n else m));rw[ax Z];rfl
   .rw[a4 (by rw[a6 Z];show Xs)];show lD (ZO ?_);rw[L];show W9 #[ZW F.plain_max_loop _,ih (i+1) _ g (cL (m,t0)) c G J M.1 M.2 f λB q Y e2 k2=>N B q Y ?_ λa o j K e=>k2 a o j K (y a o (by simpa using j) e)];rw[e2];show _=aiw.foldl jC (cL (if n>m then n else m));rw[a4 Z];rfl
def Cm(n:A.handled=P)(h:s.heap.IsList l vs.toArray)(r:IntsAre vs ns)
  (q:∀c k b,b.map (·.1)=ns.foldl jC P->(∀a o,s.heap.get? a=M o->c.get? a=M o)->Q (M5 d b) {s with heap:=c,toks:=k}):
  wpAny (model prog w) A (call (.builtin "max") [.ref l] [("default",d)]) Q E s:=by
 let g:l<s.heap.objs.size:=by let(_,e,_):=h;show b4 e
 let i:(toString "max"++toString ".loop":String)= "max.loop":=by decide
 show aaL (ZP F.plain_max F.entry_max (abJ (F.args_maxd _ _) ?_));show lD (abJ (show XS.Builtins.bindParams "max" ["key","default"] 0 #[[],[("default",d)]]=pure [P,M d]from rfl) ?_);show lD (W9 ?_);show lD (ZV h ?_);show lD (Yc ?_);rw[i];let f:(s.heap.push {cls:=.type "list_iterator",data:=.fields #v[.ref l,.int 0 0]}).objs.size=s.heap.objs.size+1:=cc _ _;show W9 #[ZW F.plain_max_loop _,Kb n (XB g) (by rw[f];show Nat.succ_ne_self _) (by rw[f];show Yw (aaI g)) r 0 _ s.toks P 0 W (X1 _) #[_,b3 _ (b5 _ W),W,W] ((h.push _).push _) (b5 _ W) λc k b p m=>?_];show q c k b p λa o e=>?_;let j:=b4 e;show m a o (XB j) (by rw[f];show XB (aaI j)) (b3 _ (b3 _ e))
end
end PySem
namespace L10
open PySem PySem.Spec PyProof.Rows L2 L3
def Np(K:CL)(i:Int):G V->Hp->VK->Prop:=λxs H Q=>∃(p:J) (a:G Int),xs=[.ref p]/\SqL K H p (a.map V.int)/\Q (.int ((a.foldl jC P).getD i)) H
def L7(E:X.calm=S)(C:Gl X "max")(hm:X.mg "max"=Ld)(c:PA X [l] ta)(g:QA l=R:=by rfl):
  PE X (.Call (.Name "max" p) [l] [#[cL "default",.Constant (.int i) j p1,p2]] pos) (tR (Np X.K i) ta):=by
 intro e s n H Q I h;show Zu (oi I C hm M4 (callWith_kw (bV (c pos e s n H _ I h) λJ o #[Y,G,f,v,w]=>?_) (by rw[uc _ _ _ g];rfl) (by rw[uc _ _ _ g];rfl) W W));let(a,y,rfl,A,q):=w;let(u,rfl,r):=hW v;ext r;let(O,T,pl,M):=f.list A;show ajc (agB (ajd ?_));let P:=f.tok (o.toks+1);show Cm (f.ok.hd E) pl.isList (lC T) λN L b F B=>?_;show#[.int ((y.foldl jC Ld).getD i),G,f.kept B,?_,q];rw[<-F];cases b with
 |none=>show#[_,W]
 |some p=>let(m,t):=p;show#[t,W]
def Bh(i:Int):G D->I RV
 |[.list ds]=>(n6 ds).map λa=>.fz (.int ((a.foldl jC P).getD i))
 |_=>P
def IV{K:CL}:AI K (Np K i) (Bh i):=by
 intro O H xs ds p Q n f e q;unfold Bh at e;split at e
 .rename_i es
  cases f with
  |cons l j=>
   ext j;cases m:n6 es with
   |none=>rw[m]at e;ext e
   |some b=>rw[m]at e;ext e;let(a,o,rfl,h,g):=BN l;obtain rfl:=p7 g m;show#[a,b,W,h.sq,q.at (.int _)]
 .ext e
end L10
namespace L10
open PySem L2 L3
section
variable{B O O':bA}{K:CL}{E:XK}{H H' H1 H2:Hp}{X Y U α2:bg Xa}{ω Z ω1 ω2:aK}{σ:L2.St}{ρ:aP}{v:V}
def gL{l r:G A}(h:(l++r)[i]?=M y):l[i]?=M y\/∃j,i=l.length+j/\r[j]?=M y:=by
 by_cases hi:i<l.length
 .rw[Xh hi]at h;show .inl h
 .rw[XT ()]at h;show .inr #[i - l.length,by ext,h]
def IS{l r:G A}{i:Nat}(h:l[i]?=M y):(l++r)[i]?=M y:=by rw[Xh (W6.mp h).1];show h
def GQ{l r:G A}(h:r[i]?=M y):(l++r)[l.length+i]?=M y:=by rw[XT (),Zl];show h
def E7(g:X.length=ω.length)(h:Lv (X++o) (ω++cs) b):Lv X ω b\/b∈o:=by
 let(i,d,f,e,a):=h;rcases gL f with g1|⟨j,e1,g1⟩
 .rcases gL e with g2|⟨k,e2,g2⟩
  .show .inl #[i,d,g1,g2,a]
  .let:=(W6.mp g1).1;ext
 .show .inr (XI g1)
theorem YE.ac2(s:StoOk B K H X ω)(e:YS H H')(f:∀p∈ps,H p=P):YE X ω H (X++ps) (ω++cs) H':=
 #[λi a h=>IS h,λb u q _=>e b u q,λb z=>(E7 s.len z).imp id λz=>f b z]
def StoOk.ac2(s:StoOk B K H X ω)(e:YS H H')(f:∀p∈ps,H p=P)(m:∀p∈ps,H' p≠P)(nd:∀(i j:Nat) (a:J),ps[i]?=M a->ps[j]?=M a->i=j)(t:ps.length=cs.length)
  (new:∀(i:Nat) (a:J) (c:Cell),ps[i]?=M a->cs[i]?=M c->COk (ow B (X++ps) (ω++cs)) K H' (X++ps) a c):StoOk B K H' (X++ps) (ω++cs):=by
 let ev:YE X ω H (X++ps) (ω++cs) H':=YE.ac2 s e f;let n:∀b,H b≠P->H' b≠P:=λb h z=>h (e.free z);show#[by rw[Xi,Xi,s.len,t],λi j a g l=>?_,λa h=>n a (s.bn a h),λa h i q=>?_,λi a h=>?_,λi a d g l=>?_]
 .rcases gL g with g1|⟨y,e1,g1⟩<;>rcases gL l with g2|⟨u,e2,g2⟩
  .show s.nd i j a g1 g2
  .show bb (f a (XI g2)) (s.al i a g1)
  .show bb (f a (XI g1)) (s.al j a g2)
  .let:=nd y u a g1 g2;ext
 .rcases gL q with q|⟨j,_,q⟩
  .show s.ba a h i q
  .show s.bn a h (f a (XI q))
 .rcases gL h with h|⟨j,_,h⟩
  .show n a (s.al i a h)
  .show m a (XI h)
 .let r:=s.len
  rcases gL l with g2|⟨j,e2,g2⟩
  .rcases gL g with g1|⟨k,e1,g1⟩
   .show(s.cel i a d g1 g2).ev ev.ev ev.pre λo q=>e _ _ q
   .let:=(W6.mp g2).1;ext
  .rcases gL g with g1|⟨k,e1,g1⟩
   .let:=(W6.mp g1).1;ext
   .let:k=j:=by ext
    subst this;show new k a d g1 g2
def DD(Z:aK):Nat->G AV->I (G AV×G (G D)×G Nat)
 |_,[]=>M ([],[],[])
 |n,.fz d::r=>match DD Z n r with
  |some (l,cs,a)=>M (.fz d::l,cs,a)
  |none=>P
 |n,.rf i::r=>match sh Z (.rf i)with
  |some (.list ds)=>(match DD Z (n+1) r with
   |some (l,cs,a)=>M (.rf n::l,ds::cs,i::a)
   |none=>P)
  |_=>P
def Uz(ds:G D):Cell:=.lst (ds.map .fz)
def jh(x:SV)(Z ω:aK):RS SV:=match x with
 |.fz d=>.ok (.fz d) ω
 |.rf i=>(match sh Z (.rf i)with
  |some (.list ds)=>kS ω (.ow ds)
  |_=>.bad)
 |.tp l=>(match DD Z ω.length l with
  |some (a,cs,b)=>if b.Nodup then .ok (.tp a) (ω++cs.map Uz)else .bad
  |none=>.bad)
def u7(h:sh ω (.rf i)=M (.list ds)):∃xs,ω[i]?=M (.lst xs)/\aB vR xs=M ds:=by
 unfold sh at h;dsimp only at h;cases q:ω[i]? with
 |none=>rw[q]at h;ext h
 |some c=>
  rw[q]at h;cases c with
  |lst xs=>
   dsimp only at h;cases a:aB vR xs with
   |none=>rw[a]at h;ext h
   |some es=>rw[a]at h;ext h;show#[xs,W,a]
  |_=>ext h
def lx(s:StoOk B K H X ω)(h:sh ω (.rf i)=M (.list ds)):∃a c,X[i]?=M a/\H a=M (.lst c)/\L3.YH (ow B X ω) K H c ds/\ow B X ω a:=by let(xs,b,f):=u7 h;let(a,l):=s.at b;let(c,j,g):=s.cel i a _ l b;show#[a,c,l,j,lP (cR (R:=ZE (ow B X ω) K H X) (λv x y r e=>zt r e) g f),.inr #[i,_,l,b,by intro z;ext z]]
def T4{o:bA}(s:StoOk o K H' Y Z):∀{n:Nat} {l u:bg AV} {cs:bg (bg D)} {g:bg Nat} {xs:bg V},DD Z n l=cL (u,cs,g)->Paired (AOk (ow o Y Z) K H' Y) xs l->
  ∃c:bg Xa,c.length=g.length/\cs.length=g.length/\(∀(k j:Nat),g[k]?=cL j->∃a ds z,c[k]?=cL a/\cs[k]?=cL ds/\Y[j]?=cL a/\H' a=cL (.lst z)/\L3.YH (ow o Y Z) K H' z ds/\ow o Y Z a)/\
   ∀(b:bg Xa),b.length=n->Paired (AOk (ow o Y Z) K H' (b++c)) xs u:=by
 intro n l u cs g xs e p
 induction p generalizing n u cs g with
 |nil=>ext e;show#[[],W,W,λk j h=>by simp at h,λb _=>.nil]
 | @cons _ x _ r h t T=>
  cases x with
  |fz d=>
   unfold DD at e;cases q:DD Z n r with
   |none=>rw[q]at e;ext e
   |some p=>let(J,G,w):=p;rw[q]at e;ext e;let(c,F,C,A,y):=T q;show#[c,F,C,A,λb f=>.cons h (y b f)]
  |rf i=>
   unfold DD at e;cases Q:sh Z (.rf i)with
   |none=>rw[Q]at e;ext e
   |some d=>
    rw[Q]at e;cases d with
    |list ds=>
     dsimp only at e;cases q:DD Z (n+1) r with
     |none=>rw[q]at e;ext e
     |some p=>
      let(J,G,w):=p;rw[q]at e;ext e;let(c,F,C,A,y):=T q;let(a,z,ha,L,N,M):=lx s Q;show#[a::c,by rw[Xn,Xn,F],by rw[Xn,Xn,C],λk j I=>?_,λb f=>?_]
      .cases k with
       |zero=>ext I;show#[a,ds,z,W,W,ha,L,N,M]
       |succ k=>show A k j (by simpa using I)
      .let e2:b++a::c=(b++[a])++c:=by simp
       let(P,m,rfl):=h;rw[ha]at m;ext m;show .cons #[a,by rw[<-f];show GQ (l:=b) (r:=a::c) (i:=0) W,W] ?_;rw[e2];show y (b++[a]) (by rw[Xi,f];rfl)
    |_=>ext e
def oE(s:StoOk B K H X ω)(w:WS K E B H X ω (PQ B K Q) (jh x Z ω))(D:YE [] [] H Y Z H')(G:StoOk (ow B X ω) K H' Y Z)(J:ZE (ow (ow B X ω) Y Z) K H' Y v x):Q v H':=by
 let C:=λb o h=>D.kp b o h λ#[i,c,q,_]=>by simp at q
 let sub:∀b,ow B X ω b->ow (ow B X ω) Y Z b:=λb z=>.inl z;let fr:=λi a c R h2 h3=>(D.lv a #[i,c,R,h2,h3]).elim (λ#[i,c,q,_]=>by simp at q) id;cases x with
 |fz d=>show w X H' (YE.same C) (s.grow C) v (DV.ev (Ev.sub sub) J)
 |rf i=>
  unfold jh at w;dsimp only at w;cases qs:sh Z (.rf i)with
  |none=>rw[qs]at w;show w.elim
  |some d=>
   rw[qs]at w;cases d with
   |list ds=>let(a,vs,ha,R,hd,M):=lx G qs;let(xs,e,_):=u7 qs;let(a',F,rfl):=J;rw[ha]at F;ext F;show rH s w C (fr i a _ ha e (by nofun)) R hd sub M
   |_=>show w.elim
 |tp l=>
  unfold jh at w;dsimp only at w;cases qg:DD Z ω.length l with
  |none=>rw[qg]at w;show w.elim
  |some p=>
   let(l',cs,I):=p;rw[qg]at w;dsimp only at w;by_cases hn:I.Nodup
   .rw[ax hn]at w
    let(a,xs,rfl,ht,hl):=J;let(ps,g1,g2,g3,g4):=T4 G qg hl;let A:∀(k:Nat) (b:Xa),ps[k]?=cL b->∃j ds vs,I[k]?=cL j/\cs[k]?=cL ds/\Y[j]?=cL b/\H' b=cL (.lst vs)/\L3.YH (ow (ow B X ω) Y Z) K H' vs ds/\ow (ow B X ω) Y Z b:=λk b hb=>by
     let f:k<I.length:=by rw[<-g1];show(W6.mp hb).1
     let(b',ds,vs,e,y,u,m,t,g):=g3 k _ (Xp f);rw[hb]at e;ext e;show#[_,ds,vs,Xp f,y,u,m,t,g]
    let nB:∀(j:Nat) (b:Xa),Y[j]?=cL b->ow (ow B X ω) Y Z b->H b=Ld:=λj b N M=>by
     rcases M with z|⟨i,c,z1,z2,z3⟩
     .show bb N (G.ba b z j)
     .show fr i b c z1 z2 z3
    let fp:∀p∈ps,H p=Ld:=λp L=>by let(k,f):=Yd.mp L;let(j,ds,vs,e,y,u,m,t,g):=A k p f;show nB j p u g
    let n:∀b,ow B (X++ps) (ω++cs.map Uz) b->ow (ow B X ω) Y Z b:=λb z=>by
     rcases z with z|z
     .show .inl (.inl z)
     .rcases E7 s.len z with z|z
      .show .inl (.inr z)
      .let(k,f):=Yd.mp z;let(j,ds,vs,e,y,u,m,t,g):=A k b f;show g
    let ev:=YE.ac2 (cs:=cs.map Uz) s C fp;show w (X++ps) H' ev (s.ac2 C fp (λp L=>?_) (λi j b hi N=>?_) (by rw[W5,g1,g2]) λi b c hi T=>?_) (.ref a) #[a,xs,W,ht.ev (Ev.sub n),Paired.Z8 (g4 X s.len) λ_ _ r=>r.ev (Ev.sub n) λ_ _ h=>h]
    .let(k,f):=Yd.mp L;let(j,ds,vs,e,y,u,m,t,g):=A k p f;rw[m];simp
    .let(j1,_,_,S,_,p3,_):=A i b hi;let(j2,_,_,r1,_,r3,_):=A j b N;let:=G.nd j1 j2 b p3 r3;subst this;let P:=(W6.mp S).1;show(abU P hn).mp (S.trans r1.symm)
    .let(j,ds,vs,e,y,u,m,t,g):=A i b hi;rw[Xj,y]at T;ext T;show#[vs,m,jL _ _ (t.ev (Ev.sub n))]
   .rw[a4 hn]at w;show w.elim
def jU(F:fH)(n:Nat)(xs:G SV)(ω:aK):RS SV:=if xs.length=n then(match aB vR xs with
 |some ds=>(match F (ds.map .fz) []with
  |.ok x Z=>jh x Z ω
  |.er x _=>.er x ω
  |.bad=>.bad)
 |none=>.bad)else .bad
def qB(F:fH)(n:Nat)(a:xm):cx:=λρ ω=>(a ρ ω).bind λxs ω1=>iX (jU F n xs ω1)
theorem F9(h:∀a,B a->H a≠P):StoOk B K H [] []:=#[W,λi j a h=>by simp at h,h,λa h i=>by simp,λi a h=>by simp at h,λi a c h=>by simp at h]
theorem ui:∀{xs:G SV} {ds:G D},aB vR xs=M ds->xs=ds.map .fz
 |[],_,e=>by ext e;rfl
 |x::r,ds,e=>by
  unfold aB at e;cases x with
  |fz d=>
   dsimp only[vR]at e;cases q:aB vR r with
   |none=>rw[q]at e;ext e
   |some es=>rw[q]at e;ext e;rw[Xt,<-ui q]
  |rf i=>ext e
  |tp l=>ext e
def xC(s:StoOk B K H X ω)(e:Ze (ow B X ω) K H X C xs)(w:WS K E B H X ω (PQ B K Q) (jU F n xs ω)):kB K n F C H Q E:=by
 unfold jU at w;by_cases hn:xs.length=n
 .rw[ax hn]at w
  show#[e.length.trans hn,?_];cases q:aB vR xs with
  |none=>rw[q]at w;show w.elim
  |some ds=>
   rw[q]at w;dsimp only at w;let l:=ui q;show#[ow B X ω,[],[],ds.map .fz,F9 s.owd,?_,?_]
   .rw[l]at e;show jL _ _ ((yr e).ev (Ev.sub λb z=>z.elim id λ#[i,c,q,_]=>by simp at q))
   .cases m:F (ds.map .fz) []with
    |bad=>rw[m]at w;show w.elim
    |ok x Z=>rw[m]at w;show λY H' f j v a=>oE s w f j a
    |er x Z=>
     rw[m]at w;intro c p Y H' f j k;let g:=λb o h=>f.kp b o h λ#[i,c,q,_]=>by simp at q
     show w c p X H' (YE.same g) (s.grow g) (XOk.sub (λb z=>.inl z) k)
 .rw[a4 hn]at w;show w.elim
def Dy(c:vU K E o C):bU K E (jz (kB K n F) [] E0 o) (qB F n C):=by intro B σ H X ω ρ Q s b w;show c B σ H X ω ρ _ s b (w.bind.imp λxs U ω1 H1 e1 e a g f=>?_);rw[X5];show xC e f (WS.e0 a)
def Ss(F:fH):FN:=λds=>match F (ds.map .fz) []with
 |.ok (.fz d) _=>.ok (.fz d)
 |.ok (.rf i) ω=>(match sh ω (.rf i)with
  |some (.list ds)=>.ok (.ow ds)
  |_=>.bad)
 |.ok (.tp _) _=>.bad
 |.er x _=>.er x
 |.bad=>.bad
def OO(h:Cu K n (Ss F) vs H Q E):kB K n F vs H Q E:=by
 let(u,B,ds,A,G,w):=h;show#[u,B,[],[],ds.map .fz,F9 A,jL _ _ (G.ev (Ev.sub λb z=>z.elim id λ#[i,c,q,_]=>by simp at q)),?_];unfold Ss at w;cases N:F (ds.map .fz) []with
 |bad=>rw[N]at w;show w.elim
 |er x Z=>rw[N]at w;intro c dx Y H' f j k;show w c dx H' (λb o h=>f.kp b o h λ#[i,c,q,_]=>by simp at q) (XOk.sub (λb z=>.inl z) k)
 |ok x Z=>
  rw[N]at w;intro Y H' f j v m;let g:=λb o h=>f.kp b o h λ#[i,c,q,_]=>by simp at q
  cases x with
  |fz d=>show w v H' g (DV.ev (Ev.sub λb z=>.inl z) m)
  |tp l=>show w.elim
  |rf i=>
   dsimp only at w;cases L:sh Z (.rf i)with
   |none=>rw[L]at w;show w.elim
   |some d=>
    rw[L]at w;cases d with
    |list es=>let(a,p,T,C,y,t):=lx j L;let(xs,r,_):=u7 L;let(I,e,rfl):=m;rw[T]at e;ext e;show w a p H' g ((f.lv a #[i,_,T,r,by intro z;ext z]).elim (λ#[i,c,q,_]=>by simp at q) id) C (y.ev (Ev.sub λb z=>z.elim (λz=>.inl z) λz=>by rw[z];show t))
    |_=>show w.elim
end
def nA(P:Xx)(w:XU)(K:CL)(c:Str->I U)(base:Heap)(a:vd)(k:Nat)(C m:Str)(b:G Str)(sp:Sp):Prop:=
 ∃Ca f fd,XJ K Xy C=M (M (.ref Ca))/\Cls K Ca/\Meth K Ca m f/\FnOk P w K c base a k f fd b sp/\Binds K fd b []
def xE(P:Xx)(w:XU)(K:CL)(c:Str->I U)(base:Heap)(a:vd)(k:Nat)(C:Str)(b:G Str)(sp:Sp):Prop:=
 ∃Ca f fd,XJ K Xy C=M (M (.ref Ca))/\c C=M (.ref Ca)/\Mk K Ca f/\FnOk P w K c base a k f fd b sp/\Binds K fd b []
def nI(K:CL)(C m:Str)(sp:Sp)(E:XK)(b:TE)(t:TA):TE:=λa H Q=>∃Ca,XJ K Xy C=M (M (.ref Ca))/\ue Ca m sp [] E b t a H Q
def y6(K:CL)(C:Str)(sp:Sp)(E:XK)(t:TA):TE:=λa H Q=>∃Ca,XJ K Xy C=M (M (.ref Ca))/\xS Ca sp [] E t a H Q
section
variable{X:Cx}{Y:vd}{E:XK}{k j:Nat}{C m:Str}{ps:bg Str}{sp:Sp}{o e:XA}{es:bg XA}{U:TE}{t:TA}{Z T p:Pos}
def SZ(M:nA X.prog X.w X.K X.mg X.base Y k C m ps sp)(n:dW Y X E)(r:Y4 j X.A)(u:PE X o U)(c:PA X (e::es) t)(g:k<=j:=by decide)
  (dg:Xu (e::es) X.env=(R,eval e X.env)::Xu es X.env:=by rfl) (b:(backTo T (Xu es X.env)).any (·.1)=R:=by rfl)
  (q:eval (.Call (.Attribute o m Z) (e::es) [] T) X.env=(do
   let ov<-eval o X.env
   standAt Z.atName
   let(f,first)<-holding [ov] (getMethod ov m pl)
   callWith T f first (backTo T (Xu (e::es) X.env)) (backToKw T (keywordEach [] X.env))):=by rfl):PE X (.Call (.Attribute o m Z) (e::es) [] T) (nI X.K C m sp E U t):=by
 let(Ca,f,J,G,F,B,y,v):=M;intro a s l H Q I #[L,i,h];rw[G]at i;ext i;show MJ u F B y (r.mono g) v .nil n c dg b q a s l H Q I h
def RF(M:nA X.prog X.w X.K X.mg X.base Y k C m ps sp)(l:dW Y X E)(q:Y4 j X.A)(r:PE X o U)(b:k<=j:=by decide)
  (n:eval (.Call (.Attribute o m Z) [] [] T) X.env=(do
   let ov<-eval o X.env
   standAt Z.atName
   let(f,first)<-holding [ov] (getMethod ov m pl)
   callWith T f first (backTo T (Xu [] X.env)) (backToKw T (keywordEach [] X.env))):=by rfl):PE X (.Call (.Attribute o m Z) [] [] T) (nI X.K C m sp E U gJ):=by
 let(Ca,f,G,F,B,y,v,u):=M;intro a s i H Q I #[A,g,h];rw[F]at g;ext g;show HG r B y v (q.mono b) u .nil l n a s i H Q I h
def N5(M:xE X.prog X.w X.K X.mg X.base Y k C ps sp)(q:dW Y X E)(r:Y4 j X.A)(c:PA X (e::es) t)(g:k+1<=j:=by decide)(u:Gl X C:=by rfl)
  (i:(C==("__debug__":Str))=R:=by decide) (v:Xu (e::es) X.env=(R,eval e X.env)::Xu es X.env:=by rfl) (b:(backTo T (Xu es X.env)).any (·.1)=R:=by rfl):
  PE X (.Call (.Name C p) (e::es) [] T) (y6 X.K C sp E t):=by
 let(Ca,f,L,J,G,F,B,y):=M;intro a s n H Q I #[N,l,h];rw[J]at l;ext l;show Jn F B (r.mono g) u G y .nil q c i v b a s n H Q I h
end
section
variable{K:CL}{E:XK}{C m:Str}{F:fH}{n:Nat}{to:TE}{Z:TA}{X:cx}{Y:xm}{L:bg Str}
def Qo(a:kN K C L)(f:bU K E to X)(c:vU K E Z Y):bU K E (nI K C m (kB K n F) E to Z) (oH C m F n X Y):=by let(Ca,a,_):=a;show λB b H α g h Q s e w=>#[Ca,a,FB a f c B b H α g h Q s e w]
def Bj(a:kN K C L)(f:bU K E to X)(c:vU K E Z Y):bU K E (nI K C m (kB K n F) E0 to Z) (aM C m F n X Y):=by let(Ca,a,_):=a;show λB b H α g h Q s e w=>#[Ca,a,C3 a f c B b H α g h Q s e w]
def Qg(a:kN K C L)(c:vU K E Z Y):bU K E (y6 K C (kB K n F) E Z) (Dv C F n Y):=by let(Ca,a,_):=a;show λB b H α f g Q s e w=>#[Ca,a,Jp a c B b H α f g Q s e w]
def Kd(a:kN K C L)(c:vU K E Z Y):bU K E (y6 K C (kB K n F) E0 Z) (rR C F n Y):=by let(Ca,a,_):=a;show λB b H α f g Q s e w=>#[Ca,a,Ew a c B b H α f g Q s e w]
end
section
variable{ρ ρ1 B:aP}{T X Z Q A:aK}{x y z:SV}{i n:Nat}{d L Y:D}{ds:bg D}{b:Bool}
def aN(h:ρ[i]?=M (M x)):aq i ρ T=.ok x T:=by ext aq;rw[h]
def ag(h:f (bZ ρ)=.ok (.fz d,ρ')):ae f ρ T=.ok (.fz d) T:=by ext ae;rw[h]
def gc(h:f (bZ ρ)=.ok (.ow ds,ρ')):ae f ρ T=.ok (.rf T.length) (T++[.lst (ds.map .fz)]):=by ext ae;rw[h];rfl
def aX(h:f (bZ ρ)=.ok (b,o)):bp f ρ T=.ok b T:=by ext bp;rw[h]
def rE(h:f (bZ ρ)=.ok (ds,o)):mZ f ρ T=.ok ds T:=by ext mZ;rw[h]
def iz(g:e ρ T=.ok (.rf i) X)(h:X[i]?=M (.obj C fs))(a:fs.lookup f=M x):aV C f e ρ T=.ok x X:=by ext aV;rw[g,d5];dsimp only;rw[h];dsimp only;rw[ax W,a];rfl
def b8(c:o ρ T=.ok x X)(e:fb ρ X=.ok y Z)(a:rM f x y Z=.ok z Q):jv f o fb ρ T=.ok z Q:=by ext jv;rw[c,d5,e,d5,a]
def bw(h:f L Y=M (.fz d)):rM f (.fz L) (.fz Y) T=.ok (.fz d) T:=by ext rM;show((RS.X8 T (f L Y)).bind λa X=>kS X a)=_;rw[h];rfl
def yk(e:sh T x=M L)(a:sh T y=M Y)(h:f L Y=M (.fz d)):rM f x y T=.ok (.fz d) T:=by ext rM;rw[e,a];show((RS.X8 T (f L Y)).bind λg X=>kS X g)=_;rw[h];rfl
theorem kE:∀ds:G D,aB vR (ds.map .fz)=M ds
 |[]=>rfl
 |d::r=>by rw[Xt];ext aB;rw[kE r];rfl
def g8(h:T[i]?=M (.lst (ds.map .fz))):sh T (.rf i)=M (.list ds):=by ext sh;dsimp only;rw[h];dsimp only;rw[kE];rfl
def aH(h:o ρ T=.ok (.fz (.bool b)) X):aW o ρ T=.ok b X:=by ext aW;rw[h];rfl
def iU(h:o ρ T=.ok S X)(k:fb ρ X=r):lz o fb ρ T=r:=by ext lz;rw[h,d5,ax W,k]
def gQ(h:o ρ T=.ok R X):lz o fb ρ T=.ok R X:=by ext lz;rw[h,d5,a4 Xs]
def qG(h:o ρ T=.ok S X):wf o fb ρ T=.ok S X:=by ext wf;rw[h,d5,ax W]
def et(h:o ρ T=.ok R X)(k:fb ρ X=r):wf o fb ρ T=r:=by ext wf;rw[h,d5,a4 Xs,k]
def mn(h:o ρ T=.ok b X):p9 o ρ T=.ok (!b) X:=by ext p9;rw[h];rfl
def sU(h:aW o ρ T=.ok S X)(k:fb ρ X=r):x3 o fb ρ T=r:=by ext x3;rw[h,d5,ax W,k]
def Cz(h:aW o ρ T=.ok R X):x3 o fb ρ T=.ok (.fz (.bool R)) X:=by ext x3;rw[h,d5,a4 Xs]
def BZ(h:c ρ T=.ok S X)(k:o ρ X=r):DZ c o fb ρ T=r:=by ext DZ;rw[h,d5,ax W,k]
def Bx(h:c ρ T=.ok R X)(k:fb ρ X=r):DZ c o fb ρ T=r:=by ext DZ;rw[h,d5,a4 Xs,k]
theorem aG:aI ρ T=.ok [] T:=W
def aj(c:o ρ T=.ok x X)(a:fr ρ X=.ok xs Z):ai o fr ρ T=.ok (x::xs) Z:=by ext ai;rw[c,d5,a,d5]
def uX(c:o ρ T=.ok (ds.map .fz) X)(a:ds.length<=1000):mF o ρ T=.ok (.fz (.tuple ds)) X:=by ext mF;rw[c,d5,W5,ax a];ext Ux;rw[kE];rfl
def TF(c:o ρ T=.ok xs X)(a:xs.length<=1000)(f:aB vR xs=P)(e:aB UA xs=M l):mF o ρ T=.ok (.tp l) X:=by ext mF;rw[c,d5,ax a];ext Ux;rw[f];dsimp only;rw[e];rfl
def Ag(c:o ρ T=.ok xs X)(a:aB (sh X) xs=M ds)(h:f ds=M (.fz d)):y1 f o ρ T=.ok (.fz d) X:=by ext y1;rw[c,d5];ext QT;rw[a];show((RS.X8 X (f ds)).bind λe X=>kS X e)=_;rw[h];rfl
def uW(e:o ρ T=.ok (ds.map .fz) X)(c:ds.length=n)(a:F ds=.ok (.fz d)):hJ F n o ρ T=.ok (.fz d) X:=by ext hJ;rw[e,d5];ext wA;rw[W5,ax c,kE];dsimp only;rw[a];rfl
def v8(e:o ρ T=.ok (ds.map .fz) X)(c:ds.length=n)(a:F ds=.ok (.ow es)):hJ F n o ρ T=.ok (.rf X.length) (X++[.lst (es.map .fz)]):=by ext hJ;rw[e,d5];ext wA;rw[W5,ax c,kE];dsimp only;rw[a];rfl
theorem xu:iX (RS.ok a T)=.ok a T:=W
def IW(e:o ρ T=.ok (.rf i) X)(f:X[i]?=M (.obj C fs))(hm:fs.lookup m=P)(h:fa ρ X=.ok xs Z)(c:(SV.rf i::xs).length=n)(g:F (.rf i::xs) Z=.ok x Q):aM C m F n o fa ρ T=.ok x Q:=by
 let a:lf X C m (.rf i)=S:=by ext lf;dsimp only;rw[f];dsimp only;rw[hm,a5 W];rfl
 ext aM;rw[e,d5,ax a,h,d5,ax c,g];rfl
def Q7(e:o ρ T=.ok xs X)(c:(SV.rf X.length::xs).length=n)(a:F (.rf X.length::xs) (X++[.obj C []])=.ok (.fz .none) Z):rR C F n o ρ T=.ok (.rf X.length) Z:=by ext rR;rw[e,d5];ext tN;rw[ax c,a,d5,ax (show Db (.fz .none)=S from rfl)];rfl
def cO(c:o ρ T=.ok (.fz L) X)(a:fb ρ X=.ok (.fz Y) Z)(h:bf L Y=M (.fz d)):i7 o fb ρ T=.ok (.fz d) Z:=by ext i7;rw[c,d5,a,d5];show bw h
def rN(a:fo ρ T=.ok (.rf i) X)(h:X[i]?=M (.lst xs))(f:fe ρ X=.ok x Z)(g:Z[i]?=M (.lst ys))(e:ys.length<1000000):lY fo fe ρ T=.ok (.fz .none) (Z.set i (.lst (ys++[x]))):=by
 let e1:jM X (.rf i)=M (i,xs):=by ext jM;dsimp only;rw[h]
 let e2:jM Z (.rf i)=M (i,ys):=by ext jM;dsimp only;rw[g]
 ext lY;rw[a,d5,e1];show((fe ρ X).bind _)=_;rw[f,d5,e2];show(if ys.length<1000000 then _ else _)=_;rw[ax e]
def lK(h:T[i]?=M (.dct o)):gR T (.rf i)=M (i,o):=by ext gR;dsimp only;rw[h]
def zy(a:o ρ T=.ok x X)(hd:fd ρ X=.ok (.rf i) Z)(f:sG x=M k)(e:Z[i]?=M (.dct C)):sN neg o fd ρ T=.ok (.fz (.bool ((jf C k).isSome !=neg))) Z:=by ext sN;rw[a,d5,hd,d5,f];show((RS.X8 Z (gR Z (.rf i))).bind _)=_;rw[lK e];rfl
def JQ(hd:fd ρ T=.ok (.rf i) X)(a:C ρ X=.ok x Z)(g:sG x=M k)(f:Z[i]?=M (.dct o))(e:jf o k=M y):rF fd C ρ T=.ok y Z:=by ext rF;rw[hd,d5,a,d5,g];show((RS.X8 Z (gR Z (.rf i))).bind _)=_;rw[lK f];show RS.X8 Z (jf o k)=_;rw[e];rfl
def Jz(a:C ρ T=.ok y X)(hd:fd ρ X=.ok (.rf i) Z)(f:fk ρ Z=.ok x Q)(h:sG x=M k)(g:Q[i]?=M (.dct o))(e:o.length<1000000):tP fd fk C ρ T=.ok (.nx ρ) (Q.set i (.dct (jx o k y))):=by ext tP;rw[a,d5,hd,d5,f,d5,h];show((RS.X8 Q (gR Q (.rf i))).bind _)=_;rw[lK g];show(if o.length<1000000 then _ else _)=_;rw[ax e]
def LF(hd:fd ρ T=.ok (.rf i) X)(h:X[i]?=M (.dct ahc))(a:C ρ X=.ok x Z)(g:sG x=M k)(f:Z[i]?=M (.dct o))(e:jf o k=M y):sZ fd C ρ T=.ok y (Z.set i (.dct (lU o k))):=by ext sZ;rw[hd,d5,lK h];show((C ρ X).bind _)=_;rw[a,d5,g];show((RS.X8 Z (gR Z (.rf i))).bind _)=_;rw[lK f];show((RS.X8 Z (jf o k)).bind _)=_;rw[e];rfl
def Ma(hd:fd ρ T=.ok (.rf i) X)(h:X[i]?=M (.dct o)):wO fd ρ T=.ok (.rf X.length) (X++[.lst (o.map (·.2))]):=by ext wO;rw[hd,d5,lK h];rfl
def Kh(hd:fd ρ T=.ok (.rf i) X)(h:X[i]?=M (.dct o))(e:aB yx (o.map (·.1))=M ns)(a:ns.length<64):ri fd ρ T=.ok (.rf X.length) (X++[.lst ((jR ns).map λi=>SV.fz (.int i))]):=by ext ri;rw[hd,d5,lK h];show((RS.X8 X (aB yx (o.map (·.1)))).bind _)=_;rw[e];show(if ns.length<64 then _ else _)=_;rw[ax a]
def Kf(a:C ρ T=.ok x X)(h:uu x=M o):sW C ρ T=.ok (.rf X.length) (X++[.dct (lA [] o)]):=by ext sW;rw[a,d5,h];rfl
variable{v:FlS}{r:RS FlS}
def cJ(h:f ρ T=.ok (.nx ρ1) X)(k:g ρ1 X=r):aC f g ρ T=r:=by ext aC;rw[h,d5];show k
def ny(h:f ρ T=.ok (.rt x) X):aC f g ρ T=.ok (.rt x) X:=by ext aC;rw[h];rfl
def c7(h:c ρ T=.ok S X)(k:f ρ X=r):bT c f g ρ T=r:=by ext bT;rw[h,d5,ax W,k]
def eC(h:c ρ T=.ok R X)(k:g ρ X=r):bT c f g ρ T=r:=by ext bT;rw[h,d5,a4 Xs,k]
def iC(h:f ρ T=.ok x X):gw f ρ T=.ok (.rt x) X:=by ext gw;rw[h];rfl
def gF(h:f ρ T=.ok x X):bv f ρ T=.ok (.nx ρ) X:=by ext bv;rw[h];rfl
def uJ(h:f ρ T=.ok x X)(e:ρ.set i (M x)=ρ1):ce f (dZ i) ρ T=.ok (.nx ρ1) X:=by subst e;ext ce;rw[h];rfl
theorem eD:bP ρ T=.ok (.nx ρ) T:=W
def oA(h:fe ρ T=.ok x X)(a:o ρ X=.ok (.rf i) Z)(j:Z[i]?=M (.obj C fs))(g:fs.length<100):eR C f o fe ρ T=.ok (.nx ρ) (Z.set i (.obj C (g7 f x fs))):=by
 let e:Fu Z C (.rf i)=M (i,fs):=by ext Fu;dsimp only;rw[j];dsimp only;rw[ax W]
 ext eR;rw[h,d5,a,d5,e];show(if fs.length<100 then _ else _)=_;rw[ax g]
def vj(h:f ρ T=.ok x X)(k:frz 4 X x=M (d,Z)):sB f ρ T=.ok (.fz d) Z:=by ext sB;rw[h,d5];ext Ql;rw[k]
def ju(e:xs.map M++Xk (N - xs.length) P=ρ)(h:g ρ T=.ok (.rt x) X):cI N g xs T=.ok x X:=by subst e;ext cI;rw[h];rfl
def mW(e:xs.map M++Xk (N - xs.length) P=ρ)(h:g ρ T=.ok (.nx ρ1) X):cI N g xs T=.ok (.fz .none) X:=by subst e;ext cI;rw[h];rfl
end
section
variable{ρ Q B:aP}{Y X Z A u:aK}{x y z:SV}{i n:Nat}{d t p:D}{ds:bg D}{b:Bool}
theorem oB(e:α->D)(f:α->SV)(Y:aK)(I:aP->Prop):∀(xs:G α) (ρ:aP) (acc:G SV),I ρ->acc.length+xs.length<=1000000->(∀x∈xs,∀ρ,I ρ->∃c,gt (.fz (e x)) ρ Y=.ok c Y/\C c Y=.ok S Y/\fe c Y=.ok (f x) Y/\I c)->dD gt C fe (xs.map e) ρ Y acc=.ok (acc++xs.map f) Y
 |[],ρ,acc,_,_,_=>by show RS.ok acc Y=_;rw[aal,X5]
 |x::r,ρ,acc,h0,o,m=>by let(c,l,j,h,g):=m x Xb ρ h0;rw[Xn]at o;show((gt (.fz (e x)) ρ Y).bind _)=_;rw[l,d5,j,d5,ax W,h,d5,ax (),oB e f Y I r c _ g (by rw[Xi,Z4];ext) λy a=>m y (Xf _ a),X2];rfl
def A2(c:fi ρ Y=.ok ds X)(a:dD gt o fe ds (oO n C ρ) X []=.ok xs Z):oK n C fi gt o fe ρ Y=.ok (.rf Z.length) (Z++[.lst xs]):=by ext oK;rw[c,d5,a,xu,d5]
theorem u0(m:Nat):∀(ds:G D),pE (frz m) Y (ds.map .fz)=M (ds,Y)
 |[]=>rfl
 |d::r=>by rw[Xt];ext pE;rw[show frz m Y (.fz d)=M (d,Y) by ext m<;>rfl];dsimp only;rw[u0 m r]
def pX(h:Y[i]?=M (.lst (ds.map .fz))):frz 4 Y (.rf i)=M (.list ds,Y.set i .dead):=by ext frz;rw[h];dsimp only;rw[u0]
def v7(h:o ρ Y=.ok (.rf i) X)(a:X[i]?=M (.lst (ds.map .fz))):gB o ρ Y=.ok ds (X.set i .dead):=by ext gB;rw[h,d5,pX a];rfl
def Vm(N C:aP->aK->Prop)(T:SV->aK->Prop):RS FlS->Prop
 |.ok (.nx ρ) Y=>N ρ Y
 |.ok (.ct ρ) Y=>C ρ Y
 |.ok (.rt v) Y=>T v Y
 |_=>False
structure GoS(r:RS FlS)(N C:aP->aK->Prop)(T:SV->aK->Prop):Prop where
 out:Vm N C T r
variable{f g:dH}{L:cx}{N C:aP->aK->Prop}{T:SV->aK->Prop}
def GoS.eq(e:r=r')(h:GoS r' N C T):GoS r N C T:=by rw[e];show h
def qV(h:GoS (f ρ Y) (λr o=>GoS (g r o) N C T) C T):GoS (aC f g ρ Y) N C T:=by
 show#[?_];let h:=h.out;ext aC;cases q:f ρ Y with
 |bad=>rw[q]at h;show h.elim
 |er x o=>rw[q]at h;show h.elim
 |ok a o=>
  rw[q]at h;cases a with
  |nx r=>show(show GoS (g r o) N C T from h).out
  |ct r=>show h
  |rt v=>show h
  |bk r=>show h.elim
def wU(h:c ρ Y=.ok b X)(a:b=S->GoS (f ρ X) N C T)(e:b=R->GoS (g ρ X) N C T):GoS (bT c f g ρ Y) N C T:=by
 ext bT;rw[h,d5];cases b with
 |true=>show a W
 |false=>show e W
theorem qN(e:c ρ Y=.ok S X)(a:GoS (f ρ X) N C T):GoS (bT c f g ρ Y) N C T:=wU e (λ_=>a) λh=>by ext h
theorem dB(e:c ρ Y=.ok R X)(a:GoS (g ρ X) N C T):GoS (bT c f g ρ Y) N C T:=wU e (λh=>by ext h) λ_=>a
def P8(e:L ρ Y=.ok x X)(a:gt x ρ X=.ok Q Z)(h:N Q Z):GoS (ce L gt ρ Y) N C T:=by show#[?_];ext ce;rw[e,d5,a,d5];show h
theorem mh(a:f ρ Y=.ok (.nx Q) X)(h:N Q X):GoS (f ρ Y) N C T:=#[by rw[a];show h]
theorem Uv(a:f ρ Y=.ok (.rt x) X)(h:T x X):GoS (f ρ Y) N C T:=#[by rw[a];show h]
theorem ia(a:L ρ Y=.ok x X)(h:N ρ X):GoS (bv L ρ Y) N C T:=mh (gF a) h
theorem QC(a:L ρ Y=.ok x X)(h:T x X):GoS (gw L ρ Y) N C T:=Uv (iC a) h
theorem Ll(h:T (.fz .none) Y):GoS (rU ρ Y) N C T:=#[h]
theorem j8(h:N ρ Y):GoS (bP ρ Y) N C T:=#[h]
theorem jd{gt:wW}(e:L ρ Y=.ok x X)(a:gt x ρ X=.ok Q Z)(h:GoS (g Q Z) N C T):GoS (aC (ce L gt) g ρ Y) N C T:=qV (P8 e a h)
theorem Ah(a:f ρ Y=.ok (.nx Q) X)(h:GoS (g Q X) N C T):GoS (aC f g ρ Y) N C T:=qV (mh a h)
theorem kI(a:L ρ Y=.ok x X)(h:GoS (g ρ X) N C T):GoS (aC (bv L) g ρ Y) N C T:=qV (ia a h)
def xF{h a:dH}(m:c ρ Y=.ok b X)(j:b=S->GoS (aC h g ρ X) N C T)(l:b=R->GoS (aC a g ρ X) N C T):GoS (aC (bT c h a) g ρ Y) N C T:=by
 let e:aC (bT c h a) g ρ Y=if b=S then aC h g ρ X else aC a g ρ X:=by unfold aC bT;rw[m,d5];ext b<;>rfl
 show .eq e ?_;cases b with
 |true=>show j W
 |false=>show l W
theorem ur{a l:dH}(j:c ρ Y=.ok S X)(e:GoS (aC a g ρ X) N C T):GoS (aC (bT c a l) g ρ Y) N C T:=xF j (λ_=>e) λh=>by ext h
theorem qj{l a:dH}(j:c ρ Y=.ok R X)(e:GoS (aC a g ρ X) N C T):GoS (aC (bT c l a) g ρ Y) N C T:=xF j (λh=>by ext h) λ_=>e
theorem vg(h:T (.fz .none) Y):GoS (aC rU g ρ Y) N C T:=qV (Ll h)
theorem ng(h:GoS (g ρ Y) N C T):GoS (aC bP g ρ Y) N C T:=qV (j8 h)
def OQ{a e:dH}(h:GoS (aC a (aC e g) ρ Y) N C T):GoS (aC (aC a e) g ρ Y) N C T:=by
 show .eq ?_ h;ext aC;cases a ρ Y with
 |bad=>rfl
 |er x o=>rfl
 |ok j o=>ext j<;>rfl
def P1(a:xs.map M++Xk (n - xs.length) P=ρ)(h:GoS (g ρ Y) (λ_ c=>T (.fz .none) c) (λ_ _=>False) T):∃x c,cI n g xs Y=.ok x c/\T x c:=by
 let h:=h.out;ext cI;rw[a];cases q:g ρ Y with
 |bad=>rw[q]at h;show h.elim
 |er x o=>rw[q]at h;show h.elim
 |ok e o=>
  rw[q]at h;cases e with
  |nx r=>show#[_,_,W,h]
  |ct r=>show h.elim
  |rt v=>show#[_,_,W,h]
  |bk r=>show h.elim
def iB{W:aK->Prop}(a:xs.map M++Xk (n - xs.length) P=ρ)(h:GoS (g ρ Y) (λ_ c=>SV.fz .none=v/\W c) (λ_ _=>False) (λr c=>r=v/\W c)):∃c,cI n g xs Y=.ok v c/\W c:=by let(x,c,l,j,e):=P1 (T:=λr c=>r=v/\W c) a h;show#[c,by rw[l,j],e]
end
end L10
namespace L10
open PySem PyProof.Rows L2 L3
section
variable{B O A:bA}{K:CL}{E:XK}{H u t r:Hp}{q Q N L:bg Xa}{T C Y Z:aK}{p:L2.St}{X:aP}{v:V}
def yn{c fb:cx}{y z:SV}{i:Nat}{n:Int}{xs:G SV}(f:c X T=.ok (.rf i) Y)(e:fb X Y=.ok y Z)(d:F0 y=M n)(a:Z[i]?=M (.lst xs))(b:lh xs n=M z):i7 c fb X T=.ok z Z:=by ext i7;rw[f,d5,e,d5];ext OP;simp only[a,d];show RS.X8 Z (lh xs n)=_;rw[b];rfl
end
end L10
namespace L10
open PySem PyProof.Rows L2 L3
section
variable{O Z:bA}{K:CL}{H T:Hp}{a b:Xa}{Q:bg V}{Y:Heap->Prop}
def IH(a:J)(O:bA)(H:Hp)(Z:bA)(T:Hp):Prop:=∀b o,b≠a->H b=M o->¬O b->T b=M o/\¬Z b
def ab7.evx(i:H a=M (.ext Y))(h:ab7 O K H b Q)(e:IH a O H Z T):ab7 Z K T b Q:=by
 let(h,k):=h;by_cases z:O b
 .show#[aap.same (kz T) (k z),λ_=>k z]
 .rcases h with(h|⟨o,h⟩)|h
  .let(g,f):=e b _ (λy=>by rw[y,i]at h;ext h) h z;show#[.inl (.inl g),λy=>bb y f]
  .let(g,f):=e b _ (λy=>by rw[y,i]at h;ext h) h z;show#[.inl (.inr #[o,g]),λy=>bb y f]
  .show#[.inr h,λ_=>.inr h]
def aaR.evx(i:H a=M (.ext Y))(h:aaR O K H b Q)(e:IH a O H Z T):aaR Z K T b Q:=by
 let(h,k):=h;by_cases z:O b
 .show#[(kz T).tup (k z),λ_=>k z]
 .rcases h with(h|⟨o,h⟩)|h
  .let(g,f):=e b _ (λy=>by rw[y,i]at h;ext h) h z;show#[.inl (.inl g),λy=>bb y f]
  .let(g,f):=e b _ (λy=>by rw[y,i]at h;ext h) h z;show#[.inl (.inr #[o,g]),λy=>bb y f]
  .show#[.inr h,λ_=>.inr h]
mutual
theorem DV.evx(f:H a=cL (.ext Y))(e:IH a O H Z T):∀{v:V} {d:D},L3.DV O K H v d->L3.DV Z K T v d
 |_,_,.Zo=>.Zo
 |_,_,.bl b=>.bl b
 |_,_,.int i=>.int i
 |_,_,.str x=>.str x
 |_,_,.tup h hs=>.tup (aaR.evx f h e) (YH.evx f e hs)
 |_,_,.lst h hs=>.lst (ab7.evx f h e) (YH.evx f e hs)
theorem YH.evx(f:H a=cL (.ext Y))(e:IH a O H Z T):∀{vs:bg V} {ds:bg D},L3.YH O K H vs ds->L3.YH Z K T vs ds
 |_,_,.nil=>.nil
 |_,_,.cons h hs=>.cons (DV.evx f e h) (YH.evx f e hs)
end
end
section
variable{B O Y:bA}{K:CL}{E:XK}{H T H1 H2:Hp}{Z L A y:bg Xa}{N t r p:aK}{σ:L2.St}{ρ:aP}{v:V}{X:Heap->Prop}{a b:Xa}
def AOk.evx{x:AV}(f:H a=M (.ext X))(e:IH a O H Y T)(h:AOk O K H Z v x):AOk Y K T Z v x:=by
 cases x with
 |fz d=>show DV.evx f e h
 |rf i=>show h
def ZE.evx{x:SV}(f:H a=M (.ext X))(e:IH a O H Y T)(h:ZE O K H Z v x):ZE Y K T Z v x:=by
 cases x with
 |fz d=>show DV.evx f e h
 |rf i=>show h
 |tp l=>let(a,Q,m,j,g):=h;show#[a,Q,m,aaR.evx f j e,Paired.Z8 g λ_ _ q=>AOk.evx f e q]
def COk.evx{c:Cell}(i:H a=M (.ext X))(e:IH a O H Y T)(d:∀o,H b=M o->T b=M o)(h:COk O K H Z b c):COk Y K T Z b c:=by
 cases c with
 |lst Q=>let(l,g,f):=h;show#[l,d _ g,Paired.Z8 f λ_ _ q=>ZE.evx i e q]
 |dct n=>let(ws,g,f):=h;show#[ws,d _ g,Paired.Z8 f λ_ _ q=>#[q.1,ZE.evx i e q.2]]
 |obj C fs=>let(Ca,m,ws,j,g,f):=h;show#[Ca,m,ws,j,d _ g,Paired.Z8 f λ_ _ q=>#[q.1,ZE.evx i e q.2]]
 |dd n=>let(Q,g,f):=h;show#[Q,d _ g,Paired.Z8 f λ_ _ q=>#[q.1,DV.evx i e q.2.1,DV.evx i e q.2.2]]
 |dead=>trivial
theorem YE.pin{i:Nat}{c:Cell}{o:HO}(d:Z[i]?=M a)(h:N[i]?=M c)(f:c≠.dead):YE Z N H Z (N.set i .dead) (aR H a o):=
 #[λ_ _ h=>h,λb g q n=>by let z:b≠a:=λe=>n #[i,c,by rw[e];show d,h,f];rw[ar z];show q,λb z=>.inl (pQ z)]
def mE{o:HO}(h:H b≠P):aR H a o b≠P:=by
 by_cases z:b=a
 .subst z;rw[ay];simp
 .rw[ar z];show h
def StoOk.pin(s:StoOk B K H Z N){i:Nat}{c:Cell}{o:HO}(k:Z[i]?=M a)(h:N[i]?=M c)(m:c≠.dead):StoOk B K (aR H a o) Z (N.set i .dead):=by
 let e:YE Z N H Z (N.set i .dead) (aR H a o):=YE.pin k h m;show#[by rw[Yf];show s.len,s.nd,λb h=>mE (s.bn b h),s.ba,λj b h=>mE (s.al j b h),λj b d l g=>?_];rcases bC g with⟨rfl,rfl⟩|⟨f,g⟩
 .show trivial
 .show(s.cel j b d l g).ev e.ev e.pre λu q=>by rw[ar (λz=>f (s.nd j i a (by rw[<-z];show l) k))];show q
def Gz{i:Nat}{c:Cell}(s:StoOk B K H Z N)(k:Z[i]?=M a)(h:Lv Z (N.set i c) b):b=a\/Lv Z N b:=by
 let(j,d,f,e,g):=h;rcases bC e with⟨rfl,rfl⟩|⟨_,e⟩
 .rw[k]at f;ext f;show .inl W
 .show .inr #[j,d,f,e,g]
theorem BF{i:Nat}{c:Cell}{o:HO}(s:StoOk B K H Z N)(d:Z[i]?=M a):IH a (ow B Z N) H (ow B Z (N.set i c)) (aR H a o):=λb u e h n=>by
 show#[by rw[ar e];show h,λz=>?_];rcases z with z|z
 .show n (.inl z)
 .rcases Gz s d z with z|z
  .show e z
  .show n (.inr z)
end
end L10
namespace L10
open PySem PyProof.Rows L2 L3
section
variable{B O O':bA}{K:CL}{E:XK}{H H' C H2:Hp}{Z A Y y:bg Xa}{T u X ω2:aK}{L:L2.St}{N:aP}{v:V}
def EG(n:String)(a:cx):cx:=λN T=>(a N T).bind λx X=>(RS.X8 X (sT 6 X x)).bind λd X=>(RS.X8 X (xD d)).bind λt X=>.ok (.fz (.bool (zj n t))) X
def LQ(c:n= "int"\/n= "bool"\/n= "str"\/n= "list"\/n= "tuple")(h:bU K E o fa):bU K E (tR (Ie K) (df o (df (tC (.ty n)) gJ))) (EG n fa):=by intro B L H Z T N Q s f w;show h B L H Z T N _ s f (w.bind.imp λx Y X C e1 b a v g=>?_);let(d,q,a):=WS.X8 a;let(t,e,a):=WS.X8 a;show#[v,n,t,zj n t,W,M0 (DV.x (jj b 6 g q)) e,A8 c e,WS.now b a (.bl _) (.bl _)]
def OC(h:o N T=.ok x X)(hd:sT 6 X x=M d)(a:xD d=M t):EG n o N T=.ok (.fz (.bool (zj n t))) X:=by ext EG;rw[h,d5,hd];show((RS.X8 X (xD d)).bind _)=_;rw[a];rfl
def StoOk.agO(s:StoOk (bK B p) K H Z T)(m:c≠.dead)(l:H p≠P)(g:COk (ow (bK B p) Z T) K H Z p c)(r:¬B p):StoOk B K H (Z++[p]) (T++[c]):=by
 let eo:ow (bK B p) Z T=ow B (Z++[p]) (T++[c]):=xi s.len m;let Q:=s.ba p (.inr W);let ev:Ev (ow (bK B p) Z T) H (ow B (Z++[p]) (T++[c])) H:=by rw[eo];show λb o h n=>#[h,n]
 show#[by rw[Xi,Xi,s.len];rfl,λi j a e f=>?_,λa h=>s.bn a (.inl h),λa h i z=>?_,λi a h=>?_,λi a t e f=>?_]
 .rcases a9 e with g1|⟨e1,e2⟩<;>rcases a9 f with g2|⟨e3,e4⟩
  .show s.nd i j a g1 g2
  .rw[e4]at g1;show bb g1 (Q i)
  .rw[e2]at g2;show bb g2 (Q j)
  .omega
 .rcases a9 z with z|⟨_,rfl⟩
  .show s.ba a (.inl h) i z
  .show r h
 .rcases a9 h with h|⟨_,rfl⟩
  .show s.al i a h
  .show l
 .rcases a9 f with f|⟨e2,rfl⟩
  .rcases a9 e with e|⟨e1,rfl⟩
   .show(s.cel i a t e f).ev ev (λ_ _ h=>ei h) λ_ q=>q
   .let:=(W6.mp f).1;rw[<-s.len]at this;ext
  .rcases a9 e with e|⟨e1,rfl⟩
   .let:=(W6.mp e).1;rw[s.len]at this;ext
   .show g.ev ev (λ_ _ h=>ei h) λ_ q=>q
end
end L10
namespace L3
open PySem L2
structure NI(K:CL)(f:J)(n:Str)(t:YQ):Prop where
 a:XJ K Xy n=M (M (.ref f))
 F:∃fd,Fun K n n t f fd
structure MI(K:CL)(C f:J)(m q:Str)(t:YQ):Prop where
 a:XW K (.ref C) m=M (M (.ref f))
 i:Zj K (.ref f)=S
 F:∃fd,Fun K m q t f fd
structure CI(K:CL)(C:J)(n:Str)(fs:G Str):Prop where
 a:XJ K Xy n=M (M (.ref C))
 pg:ZZ K C Str.empty=S
 hd:Zq K C=S
 po:abv K C=S
 sa:XW K (.ref C) "__setattr__"=M (M (.builtin "object.__setattr__"))
 mm:abY K C=S
 kc:YM K (.ref C)=S
 fl:∀x∈fs,aax K C x
def BA(n q:Str)(t:YQ)(c:G Str):Prop:=∀(kV b e:U) (f:I J) (g ct:U) (a:G U),a.length=c.length->bindArgs (YC n q (eZ t) (bW t) (au t) .none kV b e f g ct) #[a,[]]=pure (c.zip a)
section
variable{P:Xx}{w:XU}{K:CL}{Y:Str->bt W2}{base h:Heap}{f C:Xa}{n m q:Str}{t:YQ}{Q fs:bg Str}{Z k:Nat}{T N:Sp}
theorem CI.cls(c:CI K C n fs):Cls K C:=#[c.pg,c.hd,c.po,c.sa]
theorem CI.cf(c:CI K C n fs):L10.kN K n fs:=#[C,c.a,c.cls,c.fl]
theorem NI.cal(i:NI K f n t)(X:K.In h)(G:h.Ns Xy Y)(b:BA n n t Q)(ok:∀fd,Fun K n n t f fd->FnOk P w K Y base kQ Z f fd Q T):wS P w K Y base Z n Q T:=
 let#[fd,z]:=i.F;#[f,fd,ok fd z,z.binds b,z.kp,YX X G i.a]
def NI.law(i:NI K f "law" t)(X:K.In h)(G:h.Ns Xy Y)(b:Y "law"=M (.ref fa))(p:BA "law" "law" t [x])(ok:∀base fd,Fun K "law" "law" t f fd->FnOk P w K Y base kQ Z f fd [x] T):∃fd:Yj,(∀(s:Xd) (v:U),abk s fd #[[v],[]] [(x,v)])/\∀base:Heap,K.In base->base.Ns Xy Y->FnOk P w K Y base kQ Z fa fd [x] T:=by let e:=b.symm.trans (YX X G i.a);ext e;let(fd,z):=i.F;let(A,y,kV,g,j,r,u,ct,l,rfl,B,o):=z.ex;show#[_,λs v=>.of_eq (p kV g j r u ct [v] W),λbase _ _=>ok base _ z]
def Bb(a:Y4 k A):A.units+65<cLine:=by let:=a.un;ext
theorem MD{W:J}{a:Array U}{i:Nat}{g:Array (I U)}{xs:G V}{ds:G D}(l:K.lookup W=M #[.type "tuple",Ld,.seq a i,g])(e:a.size<=Xl)(b:Vals xs a.toList)(hd:∀O H,YH O K H xs ds):∀O H,DV O K H (.ref W) (.tuple ds):=λO H=>
 .tup (xs:=xs) #[.inr #[_,_,_,l,#[rfl,rfl],rfl,e,b],λ_=>.inr #[_,_,_,l,#[rfl,rfl],rfl,e,b]] (hd O H)
end
end L3
namespace L10
open PySem PySem.Spec PyProof.Rows L2 L3
section
variable{B O A:bA}{K:CL}{E:XK}{H u t r:Hp}{q Q N L:bg Xa}{T C Y Z:aK}{p:L2.St}{X:aP}{v:V}
def Qe{i:Nat}{f:D->D->I RV}{c:cx}{x y:SV}{z:SV}{ω3:aK}(a:X[i]?=M (M x))(e:c X T=.ok y Y)(b:rM f x y Y=.ok z Z):Dc i f c X T=.ok (.nx (X.set i (M z))) Z:=by ext Dc;rw[aN a,d5,e,d5,b,d5]
end
end L10
namespace L4
open PySem PySem.Spec PyProof.Rows L2 L3
def SJ(X:Cx)(st:G YQ)(b:L2.St)(t:TS):Prop:=∀(a:G (J×Obj)) (s:Xd) (H:Hp) (D:Ends),L2.Inv X a b H s->t D b H->wpAny (model X.prog X.w) X.A (execs st X.env) (SP X a D) X.xe s
def uR(X:Cx)(b:L2.St)(d:XK):U->Xd->Prop:=λx a=>∃H1 e c f a0 T,x=.ref e/\L2.Inv X [] b H1 a/\IR a.heap e c f a0 (M T)/\Apart X e/\Apart X T/\H1 e=P/\H1 T=P/\d c f H1
end L4
namespace LD
open PySem PyProof.Rows L2 L3
def kM(xs:G (KD×J×V))(k:KD):I V:=(xs.find? λx=>decide (x.1=k)).map (·.2.2)
def lB(xs:G (KD×J×V))(k:KD)(b:J)(v:V):G (KD×J×V):=
 if(xs.find? λx=>decide (x.1=k)).isSome=S then xs.map (λx=>if x.1=k then(x.1,x.2.1,v)else x)else xs++[(k,b,v)]
abbrev RX:G (KD×J×V)->G (KD×J×U)->Prop:=Paired λx y=>x.1=y.1/\x.2.1=y.2.1/\RelV x.2.2 y.2.2
def B3:∀{xs:G (KD×J×V)} {ys:G (KD×J×U)},RX xs ys->xs.map (·.1)=ys.map (·.1):=by
 intro _ _ a
 induction a with
 |nil=>show W
 | @cons _ _ _ _ h t b=>rw[Xt,Xt,h.1,b]
def rP:∀{xs:G (KD×J×V)} {ys:G (KD×J×U)},RX xs ys->aad (kM xs k) ((atKey ys k).map (·.2)):=by
 intro _ _ a
 induction a with
 |nil=>unfold kM atKey;show trivial
 | @cons x y xs ys h t b=>
  unfold kM atKey;rw[XZ,XZ,h.1];by_cases e:y.1=k
  .rw[a5 e];show h.2.2
  .rw[a6 e];show b
def LP:∀{xs:G (KD×J×V)} {ys:G (KD×J×U)},RX xs ys->(xs.find? λx=>decide (x.1=k)).isSome=(atKey ys k).isSome:=by
 intro _ _ a
 induction a with
 |nil=>show W
 | @cons x y xs ys h t b=>
  ext atKey;rw[XZ,XZ,h.1];by_cases e:y.1=k
  .rw[a5 e];rfl
  .rw[a6 e];show b
def QO(r:RelV v u):∀{xs:G (KD×J×V)} {ys:G (KD×J×U)},RX xs ys->RX (xs.map λx=>if x.1=k then(x.1,x.2.1,v)else x) (ys.map (putAt k u)):=by
 intro _ _ a
 induction a with
 |nil=>show .nil
 | @cons x y xs ys h t b=>
  rw[Xt,Xt];show .cons ?_ (b);ext putAt;by_cases e:y.1=k
  .rw[ax (h.1.trans e),ax e];show#[h.1,h.2.1,r]
  .rw[a4 (by rw[h.1];show e),a4 e];show h
def LN(h:x.1=y.1/\x.2.1=y.2.1/\RelV x.2.2 y.2.2):∀{xs:G (KD×J×V)} {ys:G (KD×J×U)},RX xs ys->RX (xs++[x]) (ys++[y]):=by
 intro _ _ a
 induction a with
 |nil=>show .cons h .nil
 | @cons _ _ _ _ g t b=>show .cons g (b)
def Ea(r:RelV v u)(h:RX xs ys):RX (lB xs k b v) (storedH ys k b u):=by
 unfold lB storedH;rw[LP h];split
 .show QO r h
 .show LN #[W,W,r] h
def oS(xs:G (KD×J×V))(k:KD)(b:J)(v:V):(lB xs k b v).length<=xs.length+1:=by
 ext lB;split
 .rw[W5];ext
 .rw[Xi];show Xg _
def mq(K:CL)(H:Hp)(xs:G (KD×J×V)):Prop:=∀x∈xs,L2.DV K H (.ref x.2.1) x.1.1
section
variable{X:Cx}{Z:bg (Xa×Obj)}{Y:L2.St}{H:Hp}{s:Xd}{a b:Xa}{T:bg (KD×Xa×V)}{k:KD}{v:V}{u r:W2}{A:XO}{E:W2->Xd->Prop}
def Ts:∀{T:G (KD×J×V)} {es:G Y7},Paired (λ(x:KD×J×V) (e:Y7)=>e.hash=p8 w x.1.1/\e.key=.ref x.2.1/\RelV x.2.2 e.val) T es->∃ys,RX T ys/\es=ys.map (entryOfKey (eT o w)):=by
 intro _ _ h
 induction h with
 |nil=>show#[[],.nil,W]
 | @cons x e _ _ p t q=>let(g,f,i):=p;let(ys,l,j):=q;show#[(x.1,x.2.1,e.val)::ys,.cons #[W,W,i] l,?_];rw[Xt,<-j];let(n,m,ev):=e;dsimp only at g f;subst g f;rfl
def Sc:∀{T:G (KD×J×V)} {ys:G (KD×J×U)},RX T ys->Paired (λ(x:KD×J×V) (e:Y7)=>e.hash=p8 w x.1.1/\e.key=.ref x.2.1/\RelV x.2.2 e.val) T (ys.map (entryOfKey (eT g w))):=by
 intro _ _ f
 induction f with
 |nil=>show .nil
 | @cons _ _ _ _ h t i=>show .cons #[by rw[h.1];rfl,by rw[h.2.1];rfl,h.2.2] (i)
theorem lV(I:L2.Inv X Z Y H s)(h:L2.DV X.K H (.ref b) k.1):(eT X.prog X.w).is s.heap k b:=L2.DV.reads I h W
def mG(I:L2.Inv X Z Y H s)(e:H a=M (DkO a T))(j:mq X.K H T):T.length<=Xl/\(a==Yv)=R/\∃ys,RX T ys/\s.heap.DictOfH (eT X.prog X.w) a ys:=by
 let(((z,n,nd),o,es,L,G,F,C,B),_):=(show ObjOk X.prog X.w H s.heap a (DkO a T)from I.Yq a _ e);let(ys,h,J):=Ts B;show#[z,n,ys,h,o,es,L,G,F,C,J,?_,by rw[<-B3 h];show nd];let all:∀{l:bg (KD×Xa×V)} {m:bg (KD×Xa×U)},RX l m->(∀x∈l,L2.DV X.K H (.ref x.2.1) x.1.1)->∀y∈m,(eT X.prog X.w).is s.heap y.1 y.2.1:=by
  intro l m q
  induction q with
  |nil=>intro _ y f;show nomatch f
  | @cons p q ps qs N t Q=>
   intro g y f;rcases Xw.mp f with e|f
   .subst e;let:=lV I (g p (Xb ..));rw[N.1,N.2.1]at this;show this
   .show Q (λx i=>g x (Xf _ i)) y f
 show all h j
def vF(z:T.length<=Xl)(hd:(a==Yv)=R)(e:RX T ys)(dd:C.DictOfH (eT y w) a ys):ObjOk y w H' C a (DkO a T):=by let(o,es,f,g,m,l,j,n,i):=dd;show#[#[#[z,hd,by rw[B3 e];show i],o,es,f,g,m,l,by rw[j];show Sc e],#[o,g],?_];rintro t p ⟨q,o,es,f,e1,e2⟩ h;show#[q,o,es,f,h o e1,e2]
def kA(e:A.units+64<cLine):(eT X.prog X.w).room A.in1:=by show A.in1.units+8<cLine;rw[XO.in1_units];ext
def Qv(m:A.units+64<cLine)(I:L2.Inv X Z Y H s)(e:H a=M (DkO a T))(o:mq X.K H T)(q:L2.DV X.K H (.ref b) k.1)(g:kM T k=M v)(h:∀c d,L2.Inv X Z Y H d->RelV v c->Q c d):
  wpAny (model X.prog X.w) A (getItem (.ref a) (.ref b)) Q E s:=by
 let(z,y,t,i,dd):=mG I e o;let(c,l,f):=aad.some_of (by rw[<-g];show rP i);let(p,n,j):=ZU.mp l;show agF (kA m) (lV I q) dd n ?_;rw[j];show h c _ (I.tok _) f
def SM(g:A.units+64<cLine)(I:L2.Inv X Z Y H s)(e:H a=M (DkO a T))(i:mq X.K H T)(l:L2.DV X.K H (.ref b) k.1)(h:∀c,L2.Inv X Z Y H c->Q (.bool (kM T k).isSome) c):
  wpAny (model X.prog X.w) A (YR .In (.ref b) (.ref a)) Q E s:=by
 let(z,j,m,f,dd):=mG I e i;show aml (kA g) (lV I l) j dd ?_;let q:=(rP (k:=k) f).aaD;rw[aav]at q;rw[<-q];show h _ (I.tok _)
def OX(g:A.units+64<cLine)(I:L2.Inv X Z Y H s)(e:H a=M (DkO a T))(i:mq X.K H T)(l:L2.DV X.K H (.ref b) k.1)(h:∀c,L2.Inv X Z Y H c->Q (.bool (!(kM T k).isSome)) c):
  wpAny (model X.prog X.w) A (YR .NotIn (.ref b) (.ref a)) Q E s:=by
 let(z,j,m,f,dd):=mG I e i;show wpAny_notIn_heap (kA g) (lV I l) j dd ?_;let q:=(rP (k:=k) f).aaD;rw[aav]at q;rw[<-q];show h _ (I.tok _)
def RG(m:A.units+64<cLine)(I:L2.Inv X Z Y H s)(e:H a=M (DkO a T))(o:mq X.K H T)(y:L2.DV X.K H (.ref b) k.1)(d:RelV v r)(C:T.length<Xl)(h:∀c,L2.Inv X Z Y (aR H a (DkO a (lB T k b v))) c->Q ⟨⟩ c):
  wpAny (model X.prog X.w) A (setItem (.ref a) (.ref b) r) Q E s:=by
 let(z,t,j,f,dd):=mG I e o;let l:j.length<=Xl:=by rw[<-Paired.length f];show z
 let i:(lB T k b v).length<=Xl:=by let:=oS T k b v;ext
 show agG (hsz:=l) (kA m) (lV I y) dd λB g n=>h _ ?_;let p:∃q,B.get? a=M q:=let#[q,_,_,L,_]:=g;#[q,L]
 show mH I (by rw[e];show True.intro) n p (vF i t (Ea d f) g)
def K7(n:A.units+64<cLine)(I:L2.Inv X Z Y H s)(e:H a=M (DkO a T))(j:mq X.K H T)(m:L2.DV X.K H (.ref b) k.1)(i:RelV d r)(h:∀c o,L2.Inv X Z Y H o->RelV ((kM T k).getD d) c->Q c o):
  wpAny (model X.prog X.w) A (call (.builtin "dict.get") [.ref a,.ref b,r]) Q E s:=by
 let(z,l,g,f,dd):=mG I e j;show acz ac6 dd.typeIs PySem.F.entry_dict_get (PySem.F.args_dict_get_3 _ _ _) (meetsH_dict_get_default (eT X.prog X.w) a b l r) #[kA (),k,g,lV I m,dd,h _ _ (I.tok _) ?_];show(rP f).getD i
def Ap(I:L2.Inv X Z Y H s)(e:H a=M (DkO a T)):s.TypeIs (.ref a) "dict"/\(∀b,W2.ref a=.ref b->∃c,s.heap.get? b=M c/\c.dict=P)/\(a==Yv)=R:=by let(((z,h,nd),o,es,l,g,f,j,i),_):=(show ObjOk X.prog X.w H s.heap a (DkO a T)from I.Yq a _ e);show#[#[o,g,f.1],λb q=>?_,h];ext q;show#[o,g,f.2.1]
end
section
variable(K:CL)
def Fj(neg:Bool)(ty g:TE):TE:=λf H Q=>ty f H λy h=>g f h λx e=>∃a b xs k,x=.ref a/\y=.ref b/\e a=M (DkO a xs)/\mq K e xs/\L2.DV K e (.ref b) k.1/\Q (.bl ((kM xs k).isSome !=neg)) e
def EL(g ty:TE):TE:=λf H Q=>g f H λx h=>ty f h λy e=>∃a b xs k v,x=.ref a/\y=.ref b/\e a=M (DkO a xs)/\mq K e xs/\L2.DV K e (.ref b) k.1/\kM xs k=M v/\Q v e
def Gy(h ty g:TE):TS:=λD e H=>g e H λv j=>h e j λx i=>ty e i λy f=>∃a b xs k,x=.ref a/\y=.ref b/\f a=M (DkO a xs)/\mq K f xs/\L2.DV K f (.ref b) k.1/\xs.length<Xl/\D.nx e (aR f a (DkO a (lB xs k b v)))
def Bo(i ty h:TE):TE:=λf H Q=>i f H λx g=>∃a l,x=.ref a/\g a=M (DkO a l)/\ty f g λy j=>h f j λz e=>∃b xs k,y=.ref b/\e a=M (DkO a xs)/\mq K e xs/\L2.DV K e (.ref b) k.1/\Q ((kM xs k).getD z) e
def HB:TE:=λ_ H Q=>∀p,H p=P->Q (.ref p) (aR H p (DkO p []))
end
section
variable{X:Cx}{o i e f Z:XA}{U Y tx tv:TE}{pos T S ZQ:Pos}
def pc_ddin(v:X.A.units+64<cLine)(c:PE X i Y)(w:PE X o U):PC X .In i o (Fj X.K R Y U):=by intro g s j H Q I h;show bV (c g s j H _ I h) λN m #[y,A,F,n,q]=>bV (w g m j A _ F q) λu M a=>?_;let(x,G,E,p,a,b,xs,k,C,B,e,r,t,l):=a;subst C B;obtain rfl:=p;obtain rfl:=n;rw[agg]at l;show SM v E e r t λL I3=>#[.bl _,G,I3,W,l]
def pc_ddnin(v:X.A.units+64<cLine)(c:PE X i Y)(w:PE X o U):PC X .NotIn i o (Fj X.K W3 Y U):=by intro g s j H Q I h;show bV (c g s j H _ I h) λN m #[y,A,F,n,q]=>bV (w g m j A _ F q) λu M a=>?_;let(x,G,E,p,a,b,xs,k,C,B,e,r,t,l):=a;subst C B;obtain rfl:=p;obtain rfl:=n;rw[Bool.bne_true]at l;show OX v E e r t λL I3=>#[.bl _,G,I3,W,l]
def pe_ddget(E:X.A.units+64<cLine)(G:PE X o U)(c:PE X i Y)(F:Op i):PE X (.Subscript o i pos) (EL X.K U Y):=by intro j s m H Q I h;show BL acw.lookup F (bV (G j s m H _ I h) λu p #[x,O,Mz0,r,w]=>bV (c j p m O _ Mz0 w) λiv s2 a=>?_);let(y,N,n,q,a,b,xs,k,v,L,A,e,B,C,g,t):=a;subst L A;obtain rfl:=r;obtain rfl:=q;show#[(Ap n e).1,Qv E n e B C g λP R I3 l=>#[v,N,I3,l,t]]
def ps_ddput(F:X.A.units+64<cLine)(J:PE X o U)(c:PE X i Y)(E:PE X Z tv)(G:ZC Z (cL (.Subscript o i T)) pos.line X.env=pure W7):
  PS X (.Assign [.Subscript o i T] Z pos) (Gy X.K U Y tv):=by
 intro g s j H D I h;show ae2 (bV (E g s j H _ I h) λr m #[v,H1,Q,rv,w]=>bV (J g m j H1 _ Q w) λu l #[x,R1,Pz0,p,t]=>bV (c g l j R1 _ Pz0 t) λiv s3 a=>?_) G;let(y,H3,I3,n,a,b,xs,k,N,A,e,B,C,L,q):=a;subst N A;obtain rfl:=p;obtain rfl:=n;show RG F I3 e B C rv L λs4 O=>#[j,_,O,q]
def pe_ddget2(M:X.A.units+64<cLine)(N:PE X o U)(P:PE X e Y)(O:PE X f tx)(m:M2 X o "get" S e f ZQ):PE X (.Call (.Attribute o "get" S) [e,f] [] ZQ) (Bo X.K U Y tx):=by
 intro g s j H Q I h;show ahn m.base m.few m.line aaB ac6 PySem.F.type_dict_get (bV (N g s j H _ I h) λu v a=>?_);let(x,H1,n,B,a,p,ex,e0,G):=a;subst ex;obtain rfl:=B;let(r,q,_):=Ap n e0;show#[r,q,?_];rw[m.trees];show Calls.callWith_builtin W (Calls.evalArgs_plain (Calls.spliced_cons (bV (P g v j H1 _ n G) λiv t #[y,H2,I2,w,E]=>
  Calls.spliced_cons (bV (O g t j H2 _ I2 E) λfv s3 a=>?_))));let(z,H3,I3,rz,b,xs,k,F,e3,A,L,C):=a;show Calls.spliced_nil ?_
 subst F;obtain rfl:=w;show K7 M I3 e3 A L rz λw' s4 I4 l=>#[_,H3,I4,l,C]
theorem pe_ddnew:PE X (.Dict [] [] pos) HB:=λa s b H Q I h=>
 wpAny_Dict_empty #[.ref s.heap.objs.size,_,I.laid (λ_ _ q=>b3 _ q) (Xg _) (vF (X1 _) (beq_eq_false_iff_ne.mpr (c9 (XB I.big))) .nil (Heap.DictOfH.new s.heap)),W,h _ (I.Yq.fresh (Xg _))]
end
mutual
def R0:Xe->Xe->bt Bool
 |.int i,.int j=>cL (decide (i<j))
 |.str x,.str y=>cL (decide (x.cps.toList<y.cps.toList))
 |.tuple xs,.tuple ys=>TJ xs ys
 |_,_=>Ld
def TJ:bg Xe->bg Xe->bt Bool
 |[],[]=>cL W7
 |[],_::_=>cL W3
 |_::_,[]=>cL W7
 |x::xs,y::ys=>if Xe.eqv x y=W3 then TJ xs ys else R0 x y
end
end LD
namespace LD
open PySem PyProof.Rows
structure VE(es:G Y7)(XF:G (Unit×U)):Prop where
 vals:es.map (·.val)=XF.map (·.2)
end LD
namespace L10
open PySem PyProof.Rows L2 L3 LD
def gA:SV->I D
 |.fz d=>if keyD d=S then M d else P
 |_=>P
def RN:SV->I D
 |.fz d=>M d
 |_=>P
def iG(a:aK):SV->I (Nat×G (D×D))
 |.rf i=>match a[i]? with
  |some (.dd b)=>M (i,b)
  |_=>P
 |_=>P
def dJ(a:G (D×D))(k:D):I D:=(a.find? λkv=>Xe.eqv kv.1 k).map (·.2)
def gC(a:G (D×D))(k v:D):G (D×D):=if(a.find? λkv=>Xe.eqv kv.1 k).isSome=S then a.map (λkv=>if Xe.eqv kv.1 k=S then(kv.1,v)else kv)else a++[(k,v)]
section
variable{B O O':bA}{K:CL}{E:XK}{H H' S R:Hp}{U α' Y T:bg Xa}{ω ω' ω1 Z:aK}{X:L2.St}{ρ:aP}{v:V}{k:KD}
def jN(e:gA x=M d)(h:ZE O K H U v x):∃(k:KD) (b:J),k.1=d/\v=.ref b/\L3.DV O K H (.ref b) d:=by
 cases x with
 |fz z=>
  let e:(if keyD z=W3 then M z else P)=M d:=e;by_cases a:keyD z=W3
  .rw[ax a]at e
   ext e;let h:=h;cases d with
   |tuple xs=>cases h with
    |tup g f=>show#[#[_,a],_,W,W,.tup g f]
   |_=>simp[keyD]at a
  .rw[a4 a]at e;ext e
 |rf i=>ext e
 |tp l=>ext e
def mO(s:StoOk B K H U ω)(b:ZE (ow B U ω) K H U v x)(h:iG ω x=M (i,o)):ω[i]?=M (.dd o)/\∃a xs,U[i]?=M a/\v=.ref a/\H a=M (DkO a xs)/\PrD (ow B U ω) K H xs o:=by
 cases x with
 |fz d=>ext h
 |tp l=>ext h
 |rf j=>
  let(a,n,rfl):=b;unfold iG at h;dsimp only at h;cases q:ω[j]? with
  |none=>rw[q]at h;ext h
  |some c=>
   rw[q]at h;cases c with
   |dd m=>let e:=Xm h;ext e;let(ws,g,f):=s.cel i a _ n q;show#[q,a,ws,n,W,g,f]
   |_=>ext h
def rh:∀{xs:G (KD×J×V)} {c:G (D×D)},PrD O K H xs c->mq K H xs:=by
 intro _ _ b
 induction b with
 |nil=>show λ_ h=>nomatch h
 | @cons x kv xs c h t f=>
  intro y a;rcases Xw.mp a with e|a
  .subst e;rw[h.1];show h.2.1.plain
  .show f y a
def uQ{x:KD×J×V}{kv:D×D}(h:x.1.1=kv.1):decide (x.1=k)=Xe.eqv kv.1 k.1:=by
 rw[<-h]
 haveI:Decidable (x.1.1=k.1):=Classical.propDecidable _
 rw[HI (keyD_kd x.1.2).1 (keyD_kd k.2).1];by_cases e:x.1=k
 .rw[a5 e,a5 (dw Subtype.val e)]
 .rw[a6 e,a6 λz=>e (Subtype.ext z)]
def mQ:∀{xs:G (KD×J×V)} {b:G (D×D)},PrD O K H xs b->(∀d,dJ b k.1=M d->∃v,kM xs k=M v/\L3.DV O K H v d)/\(dJ b k.1=P->kM xs k=P):=by
 intro _ _ a
 induction a with
 |nil=>show#[λx e=>(by ext e),λ_=>W]
 | @cons x kv xs b h t f=>
  unfold dJ kM;rw[XZ,XZ,uQ h.1];cases Xe.eqv kv.1 k.1 with
  |true=>show#[λd e=>#[x.2.2,W,by ext e;show h.2.2],λe=>by ext e]
  |false=>show f
def yt(h:PrD O K H xs o):(kM xs k).isSome=(dJ o k.1).isSome:=by
 let(b,a):=mQ h;cases q:dJ o k.1 with
 |none=>rw[a q];rfl
 |some x=>let(u,e,_):=b x q;rw[e];rfl
def ON:∀{xs:G (KD×J×V)} {b:G (D×D)},PrD O K H xs b->(xs.find? λx=>decide (x.1=k)).isSome=(b.find? λkv=>Xe.eqv kv.1 k.1).isSome:=by
 intro _ _ a
 induction a with
 |nil=>show W
 | @cons x kv xs b h t e=>
  rw[XZ,XZ,uQ h.1];cases Xe.eqv kv.1 k.1 with
  |true=>rfl
  |false=>show e
def SE(b:L3.DV O K H v d):∀{xs:G (KD×J×V)} {c:G (D×D)},PrD O K H xs c->PrD O K H (xs.map λx=>if x.1=k then(x.1,x.2.1,v)else x) (c.map λkv=>if Xe.eqv kv.1 k.1=W3 then(kv.1,d)else kv):=by
 intro _ _ a
 induction a with
 |nil=>show .nil
 | @cons x kv xs c h t f=>
  rw[Xt,Xt];show .cons ?_ (f);let e:=uQ (k:=k) h.1;by_cases z:x.1=k
  .rw[ax z,ax (by rw[<-e];show a5 z)];show#[h.1,h.2.1,b]
  .rw[a4 z,a4 (by rw[<-e,a6 z];simp)];show h
def Gq(r:x.1.1=kv.1/\L3.DV O K H (.ref x.2.1) kv.1/\L3.DV O K H x.2.2 kv.2):∀{xs:G (KD×J×V)} {b:G (D×D)},PrD O K H xs b->PrD O K H (xs++[x]) (b++[kv]):=by
 intro _ _ a
 induction a with
 |nil=>show .cons r .nil
 | @cons _ _ _ _ g t e=>show .cons g (e)
def w9(e:L3.DV O K H (.ref b) k.1)(a:L3.DV O K H v d)(h:PrD O K H xs o):PrD O K H (lB xs k b v) (gC o k.1 d):=by
 unfold lB gC;rw[ON h];split
 .show SE a h
 .show Gq #[W,e,a] h
theorem Pe(e:Ev O H O' H')(h:PrD O K H xs o):PrD O' K H' xs o:=Paired.Z8 h λ_ _ q=>#[q.1,q.2.1.ev e,q.2.2.ev e]
def qY(neg:Bool)(a fd:cx):cx:=λρ ω=>(a ρ ω).bind λx ω1=>(fd ρ ω1).bind λo Z=>(RS.X8 Z (gA x)).bind λk Z=>(RS.X8 Z (iG Z o)).bind λp Z=>.ok (.fz (.bool ((dJ p.2 k).isSome !=neg))) Z
def xq(r:bU K E C fk)(hd:bU K E td fd):bU K E (Fj K neg C td) (qY neg fk fd):=by intro B X H U ω ρ Q s f w;show r B X H U ω ρ _ s f (w.bind.imp λx Y ω1 S e1 l j v p=>?_);show hd B X S Y ω1 ρ _ l (f.Zd e1) (j.bind.imp λo T Z R e2 g e u q=>?_);let(d,n,e):=WS.X8 e;let((i,L),m,e):=WS.X8 e;let(_,a,xs,A,rfl,y,h):=mO g q m;let(k,b,rfl,rfl,t):=jN n (p.Zd e2);show#[a,b,xs,k,W,W,y,rh h,t.plain,?_];rw[yt h];show WS.now g e _ (.bl _)
def jZ(fd a:cx):cx:=λρ ω=>(fd ρ ω).bind λo ω1=>(a ρ ω1).bind λx Z=>(RS.X8 Z (gA x)).bind λk Z=>(RS.X8 Z (iG Z o)).bind λp Z=>(RS.X8 Z (dJ p.2 k)).bind λd Z=>.ok (.fz d) Z
def CM(hd:bU K E td fd)(C:bU K E tk fk):bU K E (EL K td tk) (jZ fd fk):=by intro B X H U ω ρ Q s f w;show hd B X H U ω ρ _ s f (w.bind.imp λo Y ω1 S e1 m j u A=>?_);show C B X S Y ω1 ρ _ m (f.Zd e1) (j.bind.imp λx T Z R e2 g e v t=>?_);let(d,q,e):=WS.X8 e;let((i,N),p,e):=WS.X8 e;let(_,a,xs,L,rfl,G,h):=mO g (A.Zd e2) p;let(k,b,rfl,rfl,F):=jN q t;let(y,n,e):=WS.X8 e;let(z,r,l):=(mQ h).1 y n;show#[a,b,xs,k,z,W,W,G,rh h,F.plain,r,WS.now g e z l]
def lG(fd b c:cx):dH:=λρ ω=>(c ρ ω).bind λy ω1=>(fd ρ ω1).bind λo Z=>(b ρ Z).bind λx a=>(RS.X8 a (gA x)).bind λk a=>(RS.X8 a (iG a o)).bind λp a=>(RS.X8 a (RN y)).bind λd a=>if p.2.length<1000000 then .ok (.nx ρ) (a.set p.1 (.dd (gC p.2 k d)))else .bad
def EY(e:RN x=M d)(h:ZE O K H U v x):L3.DV O K H v d:=by
 cases x with
 |fz z=>ext e;show h
 |rf i=>ext e
 |tp l=>ext e
def B8(hd:bU K E td fd)(Q:bU K E tk fk)(N:bU K E tv fv):mS K E (Gy K td tk tv) (lG fd fk fv):=by
 intro B X H U ω ρ D s h w;show N B X H U ω ρ _ s h (WS.imp (WS.bind w) λy Y ω1 S e1 F A p m=>?_);show hd B X S Y ω1 ρ _ F (h.Zd e1) (WS.imp (WS.bind A) λo T Z R e2 C t u P=>?_);show Q B X R T Z ρ _ C (h.Zd (e1.trans e2)) (WS.imp (WS.bind t) λx e g j e3 q f z L=>?_);let(kd,J,f):=WS.X8 f;let((i,XF),I,f):=WS.X8 f;let(d,G,f):=WS.X8 f;let(l,a,xs,ha,rfl,g1,n):=mO q (P.Zd e3) I;let(k,b,rfl,rfl,r):=jN J L;let M:=EY G (m.Zd (e2.trans e3));dsimp only at f;by_cases hn:XF.length<1000000
 .rw[ax hn]at f;let ev:Ev (ow B e g) j (ow B e g) (aR j a (DkO a (lB xs k b p))):=rQ ha l (by nofun);let e4:YE e g j e (g.set i (.dd (gC XF k.1 d))) (aR j a (DkO a (lB xs k b p))):=YE.put ha l (by nofun) (by nofun);let hl:=Paired.length n;show#[a,b,xs,k,W,W,g1,rh n,r.plain,tD (),?_];show f e _ e4 (q.put ha l (by nofun) (by nofun) #[_,ay,w9 (r.ev ev) (M.ev ev) (Pe ev n)]) X ((h.Zd (e1.trans (e2.trans e3))).Zd e4)
 .rw[a4 hn]at f;show f.elim
def mv(fd e b:cx):cx:=λρ ω=>(fd ρ ω).bind λo ω1=>(RS.X8 ω1 (iG ω1 o)).bind λ_ ω1=>(e ρ ω1).bind λx Z=>(b ρ Z).bind λz a=>(RS.X8 a (gA x)).bind λk a=>(RS.X8 a (iG a o)).bind λp a=>.ok (match dJ p.2 k with|some d=>.fz d|none=>z) a
def zm(hd:bU K E td fd)(P:bU K E tk fk)(M:bU K E tx fx):bU K E (Bo K td tk tx) (mv fd fk fx):=by
 intro B X H U ω ρ Q s l w;show hd B X H U ω ρ _ s l (w.bind.imp λo Y ω1 S e1 n j u p=>?_);let((i0,ahc),J,j):=WS.X8 j;let(_,a,g,_,rfl,g0,_):=mO n p J;show#[a,g,W,g0,?_];show P B X S Y ω1 ρ _ n (l.Zd e1) (j.bind.imp λx T Z R e2 F C v N=>?_);show M B X R T Z ρ _ F (l.Zd (e1.trans e2)) (C.bind.imp λz A t H3 e3 m f vz L=>?_);let(d,I,f):=WS.X8 f;let((i,XF),G,f):=WS.X8 f;let(_,a',xs,ha,ea,g1,r):=mO m (p.Zd (e2.trans e3)) G;ext ea;let(k,b,rfl,rfl,hb):=jN I (N.Zd e3);show#[b,xs,k,W,g1,rh r,hb.plain,WS.now m f _ ?_];let(h1,h2):=mQ r;dsimp only;cases q:dJ XF k.1 with
 |none=>rw[h2 q];show L
 |some y=>let(u,e,h):=h1 y q;rw[e];show h
def su:cx:=λ_ ω=>.ok (.rf ω.length) (ω++[.dd []])
def C5:bU K E HB su:=by intro B X H U ω ρ Q s b w;show λp a=>jQ s a w λ_=>#[[],ay,.nil]
end
end L10
namespace L3
open PySem PyProof.Rows L2
structure ads(K:CL)(x qual:Str)(st:YQ)(f:J)(fd:Yj)(T:J)(X6:Array U):Prop where
 ex:∃(oc:U) (od:I J) (kV doc pm:U) (an:I J) (Y3 ct:U) (osl:Array (I U)),
  fd=YC x qual (eZ st) (bW st) (au st) (.ref T) kV doc pm an Y3 ct/\K.lookup f=M #[oc,od,.func fd,osl]/\aah K Y3 qual=S
 kp:YM K (.ref f)=S
 tp:∃o n,K.lookup T=M o/\o.data=.seq X6 n
section
variable{P:Xx}{w:XU}{K:CL}{A:Str->bt W2}{base:Heap}{x Z:Str}{Y:YQ}{f:Xa}{Q:Yj}{T:Xa}{y:Array W2}{N ps:bg Str}{k n m:Nat}{B:Sp}{L:bg W2}
def ads.binds(F:ads K x Z Y f Q T y)
  (h:∀(kV a b:U) (e:I J) (g ct:U) (us:G U),(us++L).length=ps.length->∃k:I (Array U)->Sem (G (Str×U)),bindArgs (YC x Z (eZ Y) (bW Y) (au Y) (.ref T) kV a b e g ct) #[us,[]]=seqItems? (.ref T)>>=k/\k (M y)=pure (ps.zip (us++L))):Binds K Q ps L:=by
 let(t,r,kV,a,b,e,g,ct,i,rfl,u,l):=F.ex;let(o,n,q,p):=F.tp;intro s us X j;let(k,e1,e2):=h kV a b e g ct us j;show abk.of_defaults (fd:=YC x Z (eZ Y) (bW Y) (au Y) (.ref T) kV a b e g ct) W (X _ _ q) p e1 e2
def xl(P:Xx)(w:XU)(K:CL)(A:Str->I U)(base:Heap)(b:vd)(k:Nat)(x:Str)(ps:G Str)(a:G V)(B:Sp):Prop:=
 ∃(f:J) (Q:Yj) (L:G U),FnOk P w K A base b k f Q ps B/\Binds K Q ps L/\Vals a L/\YM K (.ref f)=S/\A x=M (.ref f)
def Bs(C:xl X.prog X.w X.K X.mg X.base CX k x ps dvs B)(o:Y4 j X.A)(l:dW CX X E)(c:PA X (e::es) t)(g:k<=j:=by decide)(q:Gl X x:=by rfl)
  (h:(x==("__debug__":Str))=R:=by decide) (r:Xu (e::es) X.env=(R,eval e X.env)::Xu es X.env:=by rfl) (a:(backTo pos (Xu es X.env)).any (·.1)=R:=by rfl):
  PE X (.Call (.Name x p) (e::es) [] pos) (jz B dvs E t):=by
 let(f,Q,L,F,b,v,i,m):=C;show Aa F (o.mono g) q m i b v l c h r a
end
end L3
namespace L10
open PySem PyProof.Rows L2 L3
section
variable{P:Xx}{w:XU}{K:CL}{L:Str->bt W2}{base:Heap}{x Z:Str}{Y:YQ}{f:Xa}{fd:Yj}{T:Xa}{X6:Array W2}{N X:bg Str}{k n m:Nat}{g:dH}{FF:fH}
def S7(F:ads K x Z Y f fd T X6)(S:Zm N X (au Y))(c:X.length=n)(hm:N.length=m)(q:FF=cI m g)
  (u:∀(a:U) (A:XO) (outer:G Env) (s:Xd) (H:Hp) (E:XK),Y4 k (A.deeper (X0 Z (au Y) s.heap.objs.size f a))->
   ∃t,PSs (fC (L4.lS P w) P w K L base N Z (au Y) f a A outer s H E) (bW Y) t/\mS K E t g):FnOk P w K L base (L4.lS P w) (k+1) f fd X (kB K n FF):=by
 subst q hm;let(B,y,kV,r,v,C,a,ct,i,rfl,j,e):=F.ex;show Et j e S (λvs H Q E h=>h.1.trans c.symm) λA outer s H vs Q E p b=>?_;let(t,l,o):=u a A outer s H E p;show#[t,l,zF (xs:=[]) o b]
end
section
variable{K:CL}{E:XK}
def se(F:fH)(n:Nat)(es:G D)(c:xm):cx:=λe b=>(c e b).bind λxs a=>if(xs++es.map SV.fz).length=n then F (xs++es.map SV.fz) a else .bad
theorem zE:∀{b ws:G V} {xs ys:G SV},Ze O K H α b xs->Ze O K H α ws ys->Ze O K H α (b++ws) (xs++ys)
 |_,_,_,_,.nil,h=>h
 |_,_,_,_,.cons a t,h=>.cons a (zE t h)
def Dh(hd:∀O H,L3.YH O K H o es)(c:vU K E C fa):bU K E (jz (kB K n F) o E C) (se F n es fa):=by
 intro B g H α m p Q s h w;show c B g H α m p _ s h (w.bind.imp λxs a b l e1 i f q j=>?_);by_cases hn:(xs++es.map SV.fz).length=n
 .rw[ax hn]at f;let e:=zE j (jL (ow B a b) a (hd (ow B a b) l));show#[e.length.trans hn,B,a,b,_,i,e,f]
 .rw[a4 hn]at f;show f.elim
end
end L10
namespace L3
open PySem L2
section
variable{P:Xx}{w:XU}{K:CL}{Q:Str->bt W2}{base h:Heap}{f C:Xa}{n m q:Str}{t:YQ}{T fs:bg Str}{Z k:Nat}{N L:Sp}{Y:vd}
theorem MI.aid(i:MI K C f m q t)(c:CI K C n fs)(b:BA m q t T)(ok:∀fd,Fun K m q t f fd->FnOk P w K Q base Y Z f fd T N):L10.nA P w K Q base Y Z n m T N:=
 let#[fd,z]:=i.F;#[C,f,fd,c.a,c.cls,#[i.a,i.i,z.kp],ok fd z,z.binds b]
theorem MI.akv(i:MI K C f "__init__" q t)(c:CI K C n fs)(X:K.In h)(G:h.Ns Xy Q)(b:BA "__init__" q t T)(ok:∀fd,Fun K "__init__" q t f fd->FnOk P w K Q base Y Z f fd T N):L10.xE P w K Q base Y Z n T N:=
 let#[fd,z]:=i.F;#[C,f,fd,c.a,YX X G c.a,#[c.mm,i.a,i.i,c.kc],ok fd z,z.binds b]
end
end L3
namespace L10
open PySem PySem.Spec PyProof.Rows L2 L3
section
variable{B O O':bA}{K:CL}{E:XK}{H H' Y H2:Hp}{α α' Z α2:bg Xa}{T ω' X ω2:aK}{σ:L2.St}{Q:aP}{v:V}
def nr(c f:Str)(a:cx):dH:=λQ T=>(a Q T).bind λx X=>match x with
 |.fz d=>if L9.Uq d=S then .er #[c,[(f,d)]] X else .bad
 |_=>.bad
def zJ(M:XJ K Xy c=cL (cL (.ref C)))(L:bU K E te fe):mS K E (L9.Bc C (L9.uj C f) E (df te gJ)) (nr c f fe):=by
 intro B σ H α T Q D s G w;show L B σ H α T Q _ s G (WS.imp (WS.bind w) λx Z X Y e1 I a v h=>?_)
 match x,h,a with
 |.fz d,h,a=>
  let h:=h;dsimp only at a;by_cases r:L9.Uq d=S
  .rw[ax r]at a
   let j:L9.RK v/\∀(O':bA) (H':Hp),L3.DV O' K H' v d:=by
    cases d with
    |none=>ext h;show#[.inl W,λ_ _=>.Zo]
    |int i=>ext h;show#[.inr #[i,W,a7 r],λ_ _=>.int i]
    |_=>ext r
   show#[by show 1<=Xl;decide,λe hn=>#[e,v,W,j.1,ay,λp F g=>#[W,p,?_,?_]]]
   .rw[ar (c9 g),ay]
   .let u:Y p=Ld:=by rw[ar g]at F;show F
    let A:YS Y (L9.RQ (aR (aR (aR Y e (.ext (L9.II C e))) e (.ext (L9.RZ C e p))) p (.xd [(f,v)])) e):=λb o z=>by
     let t:b≠e:=λy=>by rw[y,hn]at z;ext z
     let J:b≠p:=λy=>by rw[y,u]at z;ext z
     rw[L9.i9 t,ar J,ar t,ar t];show z
    show a (.ref C) (cL p) Z _ (YE.same A) (I.grow A) #[#[C,W,M],[(f,v)],λP q=>?_,λm N l=>#[(λz=>nomatch z),?_]]
    .ext q;rw[L9.i9 g,ay]
    .let n:(match m==f with|true=>cL d|false=>Za m [])=cL N:=l
     cases hb:m==f with
     |true=>rw[hb]at n;ext n;show#[v,?_,j.2 _ _];show(match m==f with|true=>cL v|false=>Za m [])=cL v;rw[hb]
     |false=>rw[hb]at n;ext n
  .rw[a4 r]at a;show a.elim
 |.rf _,_,a=>show a.elim
 |.tp _,_,a=>show a.elim
end
end L10
namespace LD
open PySem PySem.Spec PyProof.Rows L2
def T3(K:CL)(g f:TE):TE:=λe H Q=>∀p,H p=P->g e (aR H p (DkO p [])) λy h=>f e h λv a=>∃b k,y=.ref b/\a p=M (DkO p [])/\L2.DV K a (.ref b) k.1/\Q (.ref p) (aR a p (DkO p (lB [] k b v)))
def pe_dd1(U:X.A.units+64<cLine)(G:PE X k tk)(E:PE X v tv):PE X (.Dict [cL k] [v] pos) (T3 X.K tk tv):=by
 intro a s m H Q I q;let hn:=I.Yq.fresh (Xg s.heap.objs.size);let O:=I.laid (t':=s.toks) (λ_ _ q=>b3 _ q) (Xg _) (vF (X1 _) (beq_eq_false_iff_ne.mpr (c9 (XB I.big))) .nil (Heap.DictOfH.new s.heap));show wpAny_Dict_any W W (List.cons_ne_nil _ _) (show 1<=15 by decide) (pairTrees_cons_walk (bV (G a _ m _ _ O (q _ hn)) λu p #[x,A,l,t,B]=>bV (E a p m A _ l B) λR S #[y,Y,j,r,b,n,N,e,C,w]=>pairTrees_nil_walk ?_));subst N;obtain rfl:=t;let(z,L,o,f,dd):=mG j e (λ_ h=>nomatch h);let T:o.length<=Xl:=by rw[<-Paired.length f];show z
 let i:(lB [] n b y).length<=Xl:=by let:=oS [] n b y;rw[YU];simp only[Y9]at this;ext
 ext storeAll;simp only[aae,abg];show lD (lD (wpAny_dictSet_heap (show X.A.units+8<cLine by ext) (lV j C) dd λM g F=>W9 (W9 ?_)));let J:∃q,M.get? s.heap.objs.size=cL q:=let#[q,_,_,hq,_]:=g;#[q,hq]
 show#[.ref s.heap.objs.size,_,mH j (by rw[e];show True.intro) F J (vF i L (Ea r f) g),W,w]
end LD
namespace L10
open PySem PyProof.Rows L2 L3 LD
section
variable{B O O':bA}{K:CL}{E:XK}{H H' H1 H2:Hp}{Y α' α1 α2:bg Xa}{ω ω' ω1 Z:aK}{X:L2.St}{ρ:aP}{v:V}
def LA(a b:cx):cx:=λρ ω=>(iX (a ρ ω)).bind λx ω1=>(iX (b ρ ω1)).bind λy Z=>match gA x,RN y with
 |some k,M d=>.ok (.rf Z.length) (Z++[.dd (gC [] k d)])
 |_,_=>.bad
def LX(hk:bU K E tk fk)(D:bU K E tv fv):bU K E (T3 K tk tv) (LA fk fv):=by
 intro B X H Y ω ρ Q s N w p l;let hB:=λz=>s.bn p z l;let P:StoOk (bK B p) K (aR H p (DkO p [])) Y ω:=s.hide l;let m:ZA (ow (bK B p) Y ω) K (aR H p (DkO p [])) Y X ρ:=by
  let ev:Ev (ow B Y ω) H (ow (bK B p) Y ω) (aR H p (DkO p [])):=λb o h n=>by
   let t:b≠p:=λz=>by rw[z,l]at h;ext h
   show#[by rw[ar t];show h,λz=>?_];rcases z with(z|z)|z
   .show n (.inl z)
   .show t z
   .show n (.inr z)
  show#[N.1,λj x hx=>let#[v,h1,h2]:=N.2 j x hx;#[v,h1,h2.ev ev λ_ _ h=>h]]
 unfold LA at w;show hk (bK B p) X _ Y ω ρ _ P m ?_;cases qk:fk ρ ω with
 |er x e=>rw[qk]at w;show w.elim
 |bad=>rw[qk]at w;show w.elim
 |ok x g=>
  rw[qk]at w;intro u Hk I S v0 G;show D (bK B p) X Hk u g ρ _ S (m.Zd I) ?_;let w:WS K E B H Y ω (PQ B K Q) ((iX (fv ρ g)).bind λy Z=>match gA x,RN y with|some k,cL d=>.ok (.rf Z.length) (Z++[.dd (gC [] k d)])|_,_=>.bad):=w;cases qv:fv ρ g with
  |er x e=>rw[qv]at w;show w.elim
  |bad=>rw[qv]at w;show w.elim
  |ok y e=>
   rw[qv]at w;intro f L J A M F;let w:WS K E B H Y ω (PQ B K Q) (match gA x,RN y with|some k,cL d=>.ok (.rf e.length) (e++[.dd (gC [] k d)])|_,_=>.bad):=w;cases q1:gA x with
   |none=>rw[q1]at w;show w.elim
   |some kd=>
    cases q3:RN y with
    |none=>rw[q1,q3]at w;show w.elim
    |some d=>rw[q1,q3]at w;let(k,b,rfl,rfl,t):=jN q1 (G.Zd J);let U:=EY q3 F;let r:=(I.trans J).kp p _ ay λ#[i,c,q,_]=>P.ba p (.inr W) i q;show#[b,k,W,r,t.plain,?_];let R:Ev (ow (bK B p) f e) L (ow (bK B p) f e) (aR L p (DkO p (lB [] k b M))):=Ev.mut (.inl (.inr W)) _;let C:=w9 (t.ev R) (U.ev R) .nil;let T:=(A.ais r).agO (c:=.dd (gC [] k.1 d)) (by nofun) (by rw[ay];simp) #[_,ay,C] hB;let e3:YE Y ω H f e (aR L p (DkO p (lB [] k b M))):=((YE.same (bj l _)).trans (I.trans J)).dd l;show w (f++[p]) _ #[λi a h=>ei (e3.pre i a h),e3.kp,λb z=>(qp A.len z).elim (e3.lv b) λz=>.inr (by rw[z];show l)] T (.ref p) #[p,by rw[<-A.len];show bc,W]
end
end L10
namespace L3
open PySem L2
theorem Hi{X:Cx}{P:Xx}{w:XU}:dW (L4.lS P w) X E0:=λ_ _ _ _ _ _ _ h=>by let(_,_,_,_,_,_,_,_,_,_,_,_,_,_,_,_,h):=h;show h.elim
end L3
namespace L10
open PySem PyProof.Rows L2 L3
section
variable{B O r:bA}{K:CL}{E:XK}{H q N p:Hp}{L A Z y:bg Xa}{X u Y t:aK}{C:L2.St}{T:aP}{v:V}
def nG(F:fH)(n:Nat)(es:G D)(a:xm):cx:=λT X=>(a T X).bind λxs Y=>if(xs++es.map SV.fz).length=n then iX (F (xs++es.map SV.fz) Y)else .bad
def zx(hd:∀O H,L3.YH O K H o es)(c:vU K E ta fa):bU K E (jz (kB K n F) o E0 ta) (nG F n es fa):=by
 intro B C H L X T Q s e w;show c B C H L X T _ s e (w.bind.imp λxs Z Y N e1 f b h g=>?_);by_cases hn:(xs++es.map SV.fz).length=n
 .rw[ax hn]at b;let a:=zE g (jL (ow B Z Y) Z (hd (ow B Z Y) N));show#[a.length.trans hn,B,Z,Y,_,f,a,WS.e0 b]
 .rw[a4 hn]at b;show b.elim
end
end L10
namespace L10
open PySem L2 L3
def UZ(T:A->aK->Prop)(X:Xc->Prop):RS A->Prop
 |.ok a b=>T a b
 |.er x _=>X x
 |.bad=>False
structure Out{A:Type}(r:RS A)(T:A->aK->Prop)(X:Xc->Prop):Prop where
 out:UZ T X r
section
variable{A B:Type}{r Q:RS A}{T N:A->aK->Prop}{U:B->aK->Prop}{X:Xc->Prop}{Y:aK}
def Out.eq(e:r=Q)(h:Out Q T X):Out r T X:=by rw[e];show h
def Out.imp(h:Out r T X)(k:∀a Y,T a Y->N a Y):Out r N X:=by
 show#[?_];let h:=h.out;cases r with
 |bad=>show h
 |er x o=>show h
 |ok a o=>show k a o h
def Out.bind(h:Out r (λa o=>Out (f a o) U X) X):Out (r.bind f) U X:=by
 show#[?_];let h:=h.out;cases r with
 |bad=>show h
 |er x o=>show h
 |ok a o=>show(show Out (f a o) U X from h).out
def Out.all(h:Out r T λ_=>False):∃a o,r=.ok a o/\T a o:=by
 let h:=h.out;cases r with
 |bad=>show h.elim
 |er x o=>show h.elim
 |ok a o=>show#[a,o,W,h]
def Out.er(h:Out r (λ_ _=>False) X):∃x o,r=.er x o/\X x:=by
 let h:=h.out;cases r with
 |bad=>show h.elim
 |er x o=>show#[x,o,W,h]
 |ok a o=>show h.elim
end
section
variable{ρ ρ1 Y:aP}{ω Q Z ω3:aK}{x y z:SV}{i n:Nat}{d:D}{B:bg D}{b:Bool}{f g:dH}{L:cx}{N:aP->aK->Prop}{T:SV->aK->Prop}{X:Xc->Prop}
def WP(N:aP->aK->Prop)(T:SV->aK->Prop):FlS->aK->Prop
 |.nx ρ,ω=>N ρ ω
 |.rt v,ω=>T v ω
 |_,_=>False
abbrev lX(r:RS FlS)(N:aP->aK->Prop)(T:SV->aK->Prop)(X:Xc->Prop):Prop:=Out r (WP N T) X
def jW(h:lX (f ρ ω) (λr o=>lX (g r o) N T X) T X):lX (aC f g ρ ω) N T X:=by
 show Out.bind (h.imp λa o k=>?_);cases a with
 |nx r=>show k
 |rt v=>show#[k]
 |ct r=>show k.elim
 |bk r=>show k.elim
theorem zV(a:f ρ ω=.ok (.nx ρ1) Q)(h:lX (g ρ1 Q) N T X):lX (aC f g ρ ω) N T X:=jW (.eq a #[h])
theorem yM(a:f ρ ω=.ok (.nx ρ1) Q)(h:N ρ1 Q):lX (f ρ ω) N T X:=.eq a #[h]
theorem cy(e:L ρ ω=.ok x Q)(a:gt x ρ Q=.ok ρ1 Z)(h:lX (g ρ1 Z) N T X):lX (aC (ce L gt) g ρ ω) N T X:=zV (by ext ce;rw[e,d5,a,d5]) h
theorem Lr(a:Out (L ρ ω) (λx Q=>lX (g (ρ.set i (M x)) Q) N T X) X):lX (aC (ce L (dZ i)) g ρ ω) N T X:=jW (Out.bind (a.imp λ_ _ k=>#[k]))
theorem Es(a:Out (L ρ ω) (λ_ Q=>N ρ Q) X):lX (bv L ρ ω) N T X:=Out.bind (a.imp λ_ _ k=>#[k])
def rD{j a:dH}(e:c ρ ω=.ok R Q)(h:lX (aC a g ρ Q) N T X):lX (aC (bT c j a) g ρ ω) N T X:=by show .eq ?_ h;unfold aC bT;rw[e,d5,a4 Xs]
theorem ml(h:lX (g ρ ω) N T X):lX (aC bP g ρ ω) N T X:=jW #[h]
theorem rV(a:L ρ ω=.ok x Q)(h:T x Q):lX (gw L ρ ω) N T X:=.eq (iC a) #[h]
def sr(a:xs.map M++Xk (n - xs.length) P=ρ)(h:lX (g ρ ω) (λ_ c=>T (.fz .none) c) T X):Out (cI n g xs ω) T X:=by
 ext cI;rw[a];show Out.bind (h.imp λe o k=>?_);cases e with
 |nx r=>show#[k]
 |rt v=>show#[k]
 |ct r=>show k.elim
 |bk r=>show k.elim
theorem Hn{b:dH}(I:Nat->aP->aK->Prop)(M:Nat)(j:∀n ρ ω,I n ρ ω->(∃Q,c ρ ω=.ok R Q/\N ρ Q)\/(n<M/\∃Q,c ρ ω=.ok S Q/\lX (b ρ Q) (I (n+1)) T X)):∀(m n:Nat) (ρ:aP) (ω:aK),M - n<m->I n ρ ω->lX (sI c b m ρ ω) N T X
 |0,n,_,_,h,_=>by ext
 |m+1,n,ρ,ω,h,h0=>by
  rcases j n ρ ω h0 with⟨Q,e,p⟩|⟨q,Q,e,l⟩
  .show .eq (show sI c b (m+1) ρ ω=.ok (.nx ρ) Q from ?_) #[p];show((c ρ ω).bind _)=_;rw[e,d5,a4 Xs]
  .show .eq (show sI c b (m+1) ρ ω=(b ρ Q).bind λa Z=>match a with
    |.nx Y=>sI c b m Y Z
    |.ct Y=>sI c b m Y Z
    |.bk Y=>.ok (.nx Y) Z
    |.rt x=>.ok (.rt x) Z from ?_) (Out.bind (l.imp λa o k=>?_))
   .show((c ρ ω).bind _)=_
    rw[e,d5,ax W]
    all_goals (cases b ρ Q with
     |bad=>rfl
     |er x o=>rfl
     |ok a o=>ext a<;>rfl)
   .cases a with
    |nx r=>show Hn I M j m (n+1) r o () k
    |rt v=>show#[k]
    |ct r=>show k.elim
    |bk r=>show k.elim
theorem Iu{b:dH}(I:Nat->aP->aK->Prop)(M:Nat)(h:M<1000000)(e:I 0 ρ ω)(a:∀n ρ ω,I n ρ ω->(∃Q,c ρ ω=.ok R Q/\N ρ Q)\/(n<M/\∃Q,c ρ ω=.ok S Q/\lX (b ρ Q) (I (n+1)) T X)):lX (uO c b ρ ω) N T X:=Hn I M a 1000000 0 ρ ω () e
theorem pM{b:dH}(I:Nat->aP->aK->Prop):∀(B:G D) (k:Nat) (ρ:aP) (ω:aK),I k ρ ω->(∀i d ρ ω,B[i]?=M d->I (k+i) ρ ω->∃ρ1 Q,gt (.fz d) ρ ω=.ok ρ1 Q/\lX (b ρ1 Q) (I (k+i+1)) T X)->lX (gp gt b B ρ ω) (I (k+B.length)) T X
 |[],k,ρ,ω,h0,_=>#[h0]
 |d::r,k,ρ,ω,h0,C=>by
  let(ρ1,Q,w,u):=C 0 d ρ ω W h0;let p:∀j a,I (k+1) j a->lX (gp gt b r j a) (I (k+(r.length+1))) T X:=λj a h=>by
   let e:k+(r.length+1)=k+1+r.length:=by ext
   rw[e];show pM I r (k+1) j a h λi A m l hi t=>?_;let e:k+1+i=k+(i+1):=by ext
   rw[e]at t⊢;show C (i+1) A m l (by simpa using hi) t
  show .eq (show gp gt b (d::r) ρ ω=(b ρ1 Q).bind λq Z=>match q with
   |.nx Y=>gp gt b r Y Z
   |.ct Y=>gp gt b r Y Z
   |.bk Y=>.ok (.nx Y) Z
   |.rt x=>.ok (.rt x) Z from ?_) (Out.bind (u.imp λq o k=>?_))
  .show((gt (.fz d) ρ ω).bind _)=_
   rw[w,d5]
   all_goals (cases b ρ1 Q with
    |bad=>rfl
    |er x o=>rfl
    |ok q o=>ext q<;>rfl)
  .cases q with
   |nx r=>show p _ _ k
   |rt v=>show#[k]
   |ct r=>show k.elim
   |bk r=>show k.elim
def yL{b:dH}(I:Nat->aP->aK->Prop)(m:C ρ ω=.ok B Q)(h:I 0 ρ Q)(a:∀i d ρ ω,B[i]?=M d->I i ρ ω->∃ρ1 Q,gt (.fz d) ρ ω=.ok ρ1 Q/\lX (b ρ1 Q) (I (i+1)) T X)(e:∀l c,I B.length l c->N l c):lX (sC C gt b ρ ω) N T X:=by
 let:=pM I B 0 ρ Q h (by simpa using a);rw[ZJ]at this;show .eq ?_ (this.imp λj o k=>?_)
 .ext sC;rw[m,d5]
 .cases j with
  |nx r=>show e _ _ k
  |rt v=>show k
  |ct r=>show k.elim
  |bk r=>show k.elim
def BB(a:fo ρ ω=.ok (.rf i) Q)(h:Q[i]?=M (.obj C fs))(hm:fs.lookup m=P)(j:fa ρ Q=.ok xs Z)(c:(SV.rf i::xs).length=n):oH C m F n fo fa ρ ω=F (.rf i::xs) Z:=by
 let e:lf Q C m (.rf i)=S:=by ext lf;dsimp only;rw[h];dsimp only;rw[hm];simp
 ext oH;rw[a,d5,ax e,j,d5,ax c]
def Pc(c:fa ρ ω=.ok xs Q)(a:(SV.rf Q.length::xs).length=n):Dv C F n fa ρ ω=(F (.rf Q.length::xs) (Q++[.obj C []])).bind λr Z=>(if Db r=S then .ok (.rf Q.length) Z else .bad):=by ext Dv;rw[c,d5];ext tN;rw[ax a]
def Fx(c:fa ρ ω=.ok xs Q)(a:(xs++es.map SV.fz).length=n):se F n es fa ρ ω=F (xs++es.map SV.fz) Q:=by ext se;rw[c,d5,ax a]
def tX(e:o ρ ω=.ok xs Q)(c:(xs++es.map SV.fz).length=n)(a:F (xs++es.map SV.fz) Q=.ok x Z):nG F n es o ρ ω=.ok x Z:=by ext nG;rw[e,d5,ax c,a];rfl
def Cc{c f:Str}(h:L ρ ω=.ok (.fz d) Q)(hd:L9.Uq d=S):nr c f L ρ ω=.er #[c,[(f,d)]] Q:=by ext nr;rw[h,d5];dsimp only;rw[ax hd]
end
end L10
namespace L3
open PySem PyProof.Rows L2
section
variable{P:Xx}{w:XU}{K:CL}{N:Str->bt W2}{base h:Heap}{f T:Xa}{n:Str}{t:YQ}{Q:bg Str}{Y:Nat}{L:Sp}{U:vd}{Z:Array W2}
theorem NI.akS(i:NI K f n t)(X:K.In h)(G:h.Ns Xy N)(b:BA n n t Q)(ok:∀fd,Fun K n n t f fd->FnOk P w K N base U Y f fd Q L):xl P w K N base U Y n Q [] L:=
 let#[fd,z]:=i.F;#[f,fd,[],ok fd z,z.binds b,.nil,z.kp,YX X G i.a]
structure DI(K:CL)(f T:J)(n:Str)(t:YQ)(Z:Array W2):Prop where
 a:XJ K Xy n=M (M (.ref f))
 F:∃fd,ads K n n t f fd T Z
theorem KH{x a:Str}{st:YQ}{q:W2}{p:I J}{kV b i:W2}{j:I J}{g ct:W2}{e:Array (I W2)}{o:W2}{m:I J}{k:Nat}{l:Array (I W2)}
  (r:K.lookup f=M #[q,p,.func (YC x a (eZ st) (bW st) (au st) (.ref T) kV b i j g ct),e]) (v:aah K g a=S) (u:YM K (.ref f)=S) (lt:K.lookup T=M #[o,m,.seq Z k,l]):ads K x a st f (YC x a (eZ st) (bW st) (au st) (.ref T) kV b i j g ct) T Z:=
 #[#[_,_,_,_,_,_,_,_,_,W,r,v],u,_,_,lt,W]
def BD(n:Str)(t:YQ)(T:J)(Z:Array W2)(Q:G Str)(ds:G W2):Prop:=∀(kV b e:W2) (g:I J) (i ct:W2) (a:G W2),(a++ds).length=Q.length->∃k:I (Array W2)->Sem (G (Str×W2)),bindArgs (YC n n (eZ t) (bW t) (au t) (.ref T) kV b e g i ct) #[a,[]]=seqItems? (.ref T)>>=k/\k (M Z)=pure (Q.zip (a++ds))
theorem DI.cal{ds:bg W2}{b:bg V}(i:DI K f T n t Z)(X:K.In h)(G:h.Ns Xy N)(g:BD n t T Z Q ds)(e:Vals b ds)(ok:∀fd,ads K n n t f fd T Z->FnOk P w K N base U Y f fd Q L):xl P w K N base U Y n Q b L:=
 let#[fd,z]:=i.F;#[f,fd,ds,ok fd z,z.binds g,e,z.kp,YX X G i.a]
end
structure Tp(P:Xx)(w:XU)(K:CL)(mg:Str->I U)(base h:Heap):Prop where
 X:K.In h
 G:h.Ns Xy mg
section
variable{P:Xx}{w:XU}{K:CL}{X:Str->bt W2}{base h:Heap}{f C T:Xa}{n m q:Str}{t:YQ}{Q fs:bg Str}{Z:Nat}{N:Sp}{Y:vd}{U:Array W2}
theorem NI.c(i:NI K f n t)(W:Tp P w K X base h)(ok:∀fd,Fun K n n t f fd->FnOk P w K X base kQ Z f fd Q N)(a:BA n n t Q:=by ext:2):wS P w K X base Z n Q N:=i.cal W.X W.G a ok
theorem NI.d(i:NI K f n t)(W:Tp P w K X base h)(ok:∀fd,Fun K n n t f fd->FnOk P w K X base Y Z f fd Q N)(a:BA n n t Q:=by ext:2):xl P w K X base Y Z n Q [] N:=i.akS W.X W.G a ok
theorem MI.mt(i:MI K C f m q t)(c:CI K C n fs)(W:Tp P w K X base h)(ok:∀fd,Fun K m q t f fd->FnOk P w K X base Y Z f fd Q N)(a:BA m q t Q:=by ext:2):L10.nA P w K X base Y Z n m Q N:=i.aid c a ok
theorem MI.k(i:MI K C f "__init__" q t)(c:CI K C n fs)(W:Tp P w K X base h)(ok:∀fd,Fun K "__init__" q t f fd->FnOk P w K X base Y Z f fd Q N)(a:BA "__init__" q t Q:=by ext:2):L10.xE P w K X base Y Z n Q N:=i.akv c W.X W.G a ok
theorem DI.c{ds:G W2}{a:G V}(i:DI K f T n t U)(W:Tp P w K X base h)(b:Vals a ds)(ok:∀fd,ads K n n t f fd T U->FnOk P w K X base Y Z f fd Q N)(e:BD n t T U Q ds:=by ext:8):xl P w K X base Y Z n Q a N:=i.cal W.X W.G e b ok
end
end L3
namespace LD
open PySem PySem.Spec PyProof.Rows L2 L3
section
variable{Y:Xx}{w:XU}{K:Type}[DecidableEq K]{X:akn Y w K}{A:XO}{E:W2->Xd->Prop}{s:Xd}
theorem yP(d:J)(hd:(d==Yv)=W7):MeetsIn Y w (XS.«dict.__len__» #[[.ref d],[]]) (λ_ R s=>∃xs,s.heap.DictOfH X d xs/\R (.ok (.ret (.int xs.length s.toks))) {s with toks:=s.toks+1}):=
 .of_wp λA R s #[xs,hm,h]=>by let(o,es,i,b,g,a,f,e,j):=hm;show wpAny _ _ (dictSize d>>=_) _ _ s;show lD (lD (YZ b a (W9 ?_)));show lD (wpAny_pendingCount_other hd ?_);show wpAny_ret_mkInt ?_;rw[Nat.add_zero,adf f];show h
def EK(hd:(d==Yv)=R)(hm:s.heap.DictOfH X d xs)(a:(xs.length:Int)<2^63)
  (h:Q (.int xs.length (s.toks+1)) {s with toks:=s.toks+1+1}):wpAny (model Y w) A (call (.builtin "len") [.ref d]) Q E s:=by
 show Calls.call_function_entry kind_len plain_len entry_len (args_len1 _) ?_;show lD (W9 ?_);show lD (Yn hm.typeIs ac7
  (acz ac7 hm.typeIs PySem.F.entry_dict_len (PySem.F.args_dict_len_1 _) (yP d hd) #[xs,hm,?_]))
 show lD (Ys (W9 ?_));show lD (ZO ?_);rw[a4 ()];rw[a4 ()];show lD (afQ (W9 #[_,W,h]))
end
def rLenDD(K:CL):G V->Hp->(V->Hp->Prop)->Prop:=λxs H Q=>∃a b,xs=[V.ref a]/\H a=M (DkO a b)/\mq K H b/\Q (.int b.length) H
def call_lenDD:Zi X (.builtin "len") (rLenDD X.K):=by intro e s j H xs m Q I r h;let(a,o,rfl,n,g,q):=h;let(u,rfl,f):=hW r;ext f;let(z,i,l,b,dd):=mG I n g;show EK i dd (by rw[<-Paired.length b];rw[YU]at z;ext) ?_;rw[<-Paired.length b];show#[.int o.length,H,I.tok _,#[_,W],q]
end LD
namespace L10
open PySem PyProof.Rows L2 L3 LD
section
variable{B O Y:bA}{K:CL}{E:XK}
def nQ(fd:cx):cx:=λe b=>(fd e b).bind λo a=>(RS.X8 a (iG a o)).bind λp a=>.ok (.fz (.int p.2.length)) a
def Da(hd:bU K E C fd):bU K E (tR (rLenDD K) (df C gJ)) (nQ fd):=by intro B j H α r t Q s l w;show hd B j H α r t _ s l (w.bind.imp λo b h q e1 f e u n=>?_);let((i,y),m,e):=WS.X8 e;let(_,a,xs,v,rfl,p,g):=mO f n m;show#[a,xs,W,p,rh g,?_];rw[Paired.length g];show e b _ .refl f _ (.int _)
end
end L10
namespace LD
open PySem PyProof.Rows L2 L3 L10
section
variable{Y:Xx}{w:XU}{A:XO}{E:W2->Xd->Prop}{s:Xd}
def KA{d:J}{o:Obj}{es:Array Y7}{a:Nat}{Q:U->Xd->Prop}(nd:(d==Yv)=R)(g:s.heap.get? d=M o)(c:o.ExactDict)(e:o.data=.dict es a)
  (q:Q (.ref s.heap.objs.size) {s with heap:=s.heap.push {cls:=.type "dict_keyiterator",data:=.fields #v[.ref d,.int 0 0,.int es.size 0,.int a 0]}}):wpAny (model Y w) A (pyIter (.ref d)) Q E s:=by
 let ty:s.TypeIs (.ref d) "dict":=#[o,g,c.1];show wpAny_pyIter_slot ty F.slot_dict_iter (Yt F.slot_dict_iter ty F.entry_dict_iter ?_ (F.args_dict_iter_1 _));unfold XS.«dict.__iter__» XS.Dict.dictSlotNone;show lD (lD (abA ty (W9 ?_)));show wpAny _ _ (XS.Dict.showsAll d>>=_) _ _ s;ext XS.Dict.showsAll;rw[a4 (by rw[nd];show Xs)];show lD (W9 (lD (YZ g e (lD (aaw g e ?_)))));show lD (Yc (W9 #[_,W,"dict_keyiterator",_,#[_,b5 _ W,W],F.slot_dict_keyiterator_next.lookup,?_]))
 simpa [rawInt]using q
def Mi{a d:J}{o:Obj}{es:Array Y7}{i h:Nat}{x:Y7}{Q:I U->Xd->Prop}(b:s.heap.IsKeyIter a d i es.size h)(g:s.heap.get? d=M o)(e:o.data=.dict es h)(m:es[i]?=M x)
  (q:∀c,c.IsKeyIter a d (i+1) es.size h->Heap.SameBut a s.heap c->Q (M x.key) {s with heap:=c}):wpAny (model Y w) A (pyNext (.ref a)) Q E s:=by
 let(t,j,n,f):=id b;ext pyNext;show lD (acb (Yn (name:=Str.ofString "__next__") b.typeIs F.slot_dict_keyiterator_next (Yt F.slot_dict_keyiterator_next b.typeIs F.entry_dict_keyiterator_next ?_ (F.args_dict_keyiterator_next_1 _))));show lD (W9 (lD (lD ?_)));show lD (Zt b.typeIs (W9 (lD (ako j f ?_))));let l:XS.Dict_items.ownsTuple "dict_keyiterator"=R:=by decide
 simp only[l,YJ,if_false];show wpAny _ _ (if(W2.ref d==W2.none)=S then _ else _) _ _ s;rw[a4 (show¬((W2.ref d==W2.none)=S)from Xs)];show lD (W9 (lD (YZ g e ?_)));rw[a4 (by simp)];show lD (W9 (lD (aaw g e ?_)));rw[a4 (by simp)];show W9 ?_;simp only[show¬((i:Int)<0)from by ext,if_false,Yr,m];show lD (lD (Zt b.typeIs (W9 ?_)));show lD (afF b.typeIs ?_);show wpAny _ _ (setField (.ref a) 1 (rawInt ((i:Int)+1))>>=_) _ _ s;show lD (YW j f (by simp) ?_)
 let k2:(s.heap.update a (Obj.mapFields (·.setIfInBounds 1 (rawInt ((i:Int)+1))))).IsKeyIter a d (i+1) es.size h:=
  #[_,b9 _ j (cv (cn f _)),(Obj.cls_mapFields ..).trans n,by rw[cn f];simp[rawInt]]
 show lD (Ys (lD (afF (s:={s with heap:=s.heap.update a (Obj.mapFields (·.setIfInBounds 1 (rawInt ((i:Int)+1))))}) k2.typeIs ?_)));show wpAny _ _ (pure x.key) _ _ _;show W9 (W9 #[_,W,W9 (q _ k2 (Heap.SameBut.update ..))])
def Qr{h d:J}{o:Obj}{es:Array Y7}{i n:Nat}{Q:I U->Xd->Prop}(u:A.handled=P)(f:s.heap.IsKeyIter h d i es.size n)(g:s.heap.get? d=M o)(e:o.data=.dict es n)(r:es.size<=i)
  (q:∀c,Heap.ExtBut h s.heap c->Q P {s with heap:=c}):wpAny (model Y w) A (pyNext (.ref h)) Q E s:=by
 let(t,l,v,j):=id f;ext pyNext;show lD (acb (Yn (name:=Str.ofString "__next__") f.typeIs F.slot_dict_keyiterator_next (Yt F.slot_dict_keyiterator_next f.typeIs F.entry_dict_keyiterator_next ?_ (F.args_dict_keyiterator_next_1 _))));show lD (W9 (lD (lD ?_)));show lD (Zt f.typeIs (W9 (lD (ako l j ?_))));let p:XS.Dict_items.ownsTuple "dict_keyiterator"=R:=by decide
 simp only[p,YJ,if_false];show wpAny _ _ (if(W2.ref d==W2.none)=S then _ else _) _ _ s;rw[a4 (show¬((W2.ref d==W2.none)=S)from Xs)];show lD (W9 (lD (YZ g e ?_)));rw[a4 (by simp)];show lD (W9 (lD (aaw g e ?_)));rw[a4 (by simp)];show W9 ?_;simp only[show¬((i:Int)<0)from by ext,if_false,Yr,Array.getElem?_eq_none r];show lD (lD (Zt f.typeIs (W9 ?_)));show wpAny _ _ (setField (.ref h) 0 .none>>=_) _ _ s;show lD (YW l j (by simp) ?_);show wpAny _ _ (newExc (.type "StopIteration") []>>=_) _ _ _;simp only[newExc,newTuple];show lD (lD (Yc ?_ (by size_fits)));show lD (m:=firstArgMember _ _) (abJ (a:=W2.none) (by first|rfl|(simp only[firstArgMember];rfl)) ?_);show Yc ?_ (by size_fits);simp only[raiseNew];show lD (amk ?_);rw[show A.in1.handled=P from u];show lD (W9 (wpAny_throw ?_));show lD (aai (T:= "StopIteration") (b:=S) #[_,b5 _ W,W] akl ?_);show W9 (q _ (((Heap.SameBut.update ..).extBut.push _).push _))
end
theorem qX{α a:Type}{R:α->a->Prop}:∀{xs:G α} {ys:G a} {i:Nat} {x:α},Paired R xs ys->xs[i]?=M x->∃y,ys[i]?=M y/\R x y
 |_,_,_,_,.nil,e=>by simp at e
 |_,_,0,_,.cons h _,e=>by simp at e;subst e;show#[_,W,h]
 |_,_,i+1,_,.cons _ t,e=>by let(y,f,b):=qX (i:=i) t (by simpa using e);show#[y,by simpa using f,b]
end LD
namespace LD
open PySem PyProof.Rows L2 L3 L10
def wg(a:J)(c:G V):HO:=.ext λh=>c.length<=Xl/\∃(b:G U) (n:Nat),Vals c b/\h.get? a=M {cls:=.type "list",data:=.seq b.toArray n}
def TY{P:Xx}{w:XU}{H H':Hp}{h:Heap}{a:J}{c:G V}(o:ObjOk P w H' h a (.lst c)):ObjOk P w H h a (wg a c):=by let(z,b,n,r,g):=o;show#[#[z,b,n,r,g],#[_,g],?_];rintro f e ⟨z,b,n,r,g⟩ k;show#[z,b,n,r,k _ g]
theorem On{P:Xx}{w:XU}{H H':Hp}{h:Heap}{a:J}{b:G V}(o:ObjOk P w H h a (wg a b)):ObjOk P w H' h a (.lst b):=o.1
def Vh(a:J)(c:G V):It:=
 #[λi H=>H a=M (wg a c)/\i<c.length,λi H x b=>b=H/\c[i]?=M x,λi H=>H a=M (wg a c)/\c.length<=i]
theorem K9{P:Xx}{w:XU}{K:CL}{T:XA}(a l:Xa)(D:bg V):Turn P w K T (Vh a D) [l] l (λi h=>h.IsListIter l a i) where
 mem:=by simp
 obj:=λi h f b m=>by
  let e:b=l:=by simpa using m
  subst e;let(o,e,c,d):=f;show#[o,e,λv z=>by rw[d]at z;ext z]
 keep:=λi h t f k=>f.at λo e=>k l (by simp) o e
 item:=by intro X C y F R i j s O H E I q f A;subst C y F;let(B,hi):=A;let((z,S,n,r,g),_,_):=(show ObjOk X.prog X.w H s.heap a (wg a D)from I.Yq a _ B);obtain⟨x,Q⟩:∃x,D[i]?=cL x:=#[D[i],Xp hi];let(u,Z,Y):=r.get Q;let(N,M,f2,L,J,G):=q l (by simp);show aeX f #[_,g,W,n,W] (by simpa using Z) λt p U=>?_;let I1:Inv X j O H {s with heap:=t}:=I.turned (t':=s.toks) (λb o m e=>(U.2 b m).trans e) N M L J G;let(o,e,c,d):=id p;show#[u,W,zW (s:={s with heap:=t}) e c d () #[x,H,I1,Y,#[W,Q],p,λb m=>(q b m).1]]
 done:=by intro X C y F R i j s O H E I q f A;subst C y F;let(B,hi):=A;let((z,S,n,r,g),_,_):=(show ObjOk X.prog X.w H s.heap a (wg a D)from I.Yq a _ B);let(N,M,f2,L,J,G):=q l (by simp);let hl:=r.length;show afx (I.ok.hd R) f #[_,g,W,n,W] (by simp;ext) λt eb=>#[W,I.turned (t':=s.toks) (λb o m e=>eb b o m e) N M L J G]
 self:=λ_ _ _ _ _ f h=>afy f h
def NM(f:TE):TI:=λe H R=>f e H λx b=>∃a g,x=.ref a/\b a=M (.lst g)/\R (Vh a g) (aR b a (wg a g))
def NV(t:TS):TS:=λD f H=>t {nx:=λe b=>∃a g,b a=M (wg a g)/\D.nx e (aR b a (.lst g)),rt:=λv b=>∃a g,b a=M (wg a g)/\D.rt v (aR b a (.lst g)),bk:=λ_ _=>False,ct:=λ_ _=>False} f H
section
variable{X:Cx}{Y:XA}
def wF{f:G (J×Obj)}{h:L2.St}{H:Hp}{s:Xd}{a:J}{c:G V}(I:Inv X f h H s)(hd:H a=M (wg a c)):Inv X f h (aR H a (.lst c)) s:=by let o:=(show ObjOk X.prog X.w H s.heap a (wg a c)from I.Yq a _ hd);let((z,i,n,r,g),_,_):=id o;show I.write (x:=a) (e:=a) (o:=.lst c) (t':=s.toks) (h':=s.heap) (by rw[hd];trivial) (.inl W) (λb u _ e=>e) #[_,g] (On o)
def pi_pinL{l:XA}{p:TE}(F:PE X l p):PI X Y l (NM p):=by
 intro i s A H R I h;show bV (F i s A H _ I h) λv f a=>?_;let(x,y,m,B,C):=a;let(a,L,e,j,q):=C;subst e;ext B;let E:ObjOk X.prog X.w y f.heap a (.lst L):=m.Yq a _ j;let(z,J,n,r,g):=id E;show ZV #[_,g,W,n,W] ?_;let k:∀b o,f.heap.get? b=M o->(f.heap.push {cls:=.type "list_iterator",data:=.fields #v[.ref a,.int 0 0]}).get? b=M o:=λb o e=>b3 _ e;let t:=m.kept (t':=f.toks) k;let I3:=t.write (x:=a) (e:=a) (o:=wg a L) (t':=f.toks) (h':=f.heap.push {cls:=.type "list_iterator",data:=.fields #v[.ref a,.int 0 0]}) (by rw[j];trivial) (.inl W) (λb u _ e=>e) #[_,k _ _ g] (TY (show ObjOk X.prog X.w y _ a (.lst L)from t.Yq a _ j));show#[f.heap.objs.size,[f.heap.objs.size],_,_,_,W,I3,K9 a _ L,#[_,b5 _ W,W,W],λb G=>?_,q];let e:b=f.heap.objs.size:=by simpa using G
 subst e;let N:=m.Yq.fresh (Xg f.heap.objs.size);show m.ad0 (Xg _) ?_;rw[ar (λz=>by rw[z,j]at N;ext N)];show N
def ps_unpL{st:YQ}{t:TS}(h:PS X st t):PS X st (NV t):=by
 intro e s j H D I w;show bV (h e s j H _ I w) λf m q=>?_;cases f with
 |next=>let(b,l,i,a,n,g,q):=q;show#[b,_,wF i g,q]
 |brk=>let(_,_,_,q):=q;show q.elim
 |cont=>let(_,_,_,q):=q;show q.elim
 |ret u=>let(v,b,l,i,r,a,n,g,q):=q;show#[v,b,_,wF i g,r,q]
end
def lstI(a:aK):SV->I (Nat×G SV)
 |.rf i=>match a[i]? with
  |some (.lst xs)=>M (i,xs)
  |_=>P
 |_=>P
section
variable{B O O':bA}{K:CL}{E:XK}{H H' U N:Hp}{S T Z X:bg Xa}{ω Q ω1 Y:aK}{P:L2.St}{ρ:aP}{v:V}{a:Xa}{φ:Heap->Prop}
def LV{x:SV}{i:Nat}{xs:G SV}(s:StoOk B K H S ω)(b:ZE (ow B S ω) K H S v x)(h:lstI ω x=M (i,xs)):ω[i]?=M (.lst xs)/\∃a k,S[i]?=M a/\v=.ref a/\H a=M (.lst k)/\Ze (ow B S ω) K H S k xs:=by
 cases x with
 |fz d=>ext h
 |tp l=>ext h
 |rf j=>
  let(a,m,rfl):=b;unfold lstI at h;dsimp only at h;cases q:ω[j]? with
  |none=>rw[q]at h;ext h
  |some c=>
   rw[q]at h;cases c with
   |lst g=>let z:=Xm h;ext z;let(ws,f,e):=s.cel i a _ m q;show#[q,a,ws,m,W,f,e]
   |_=>ext h
def Jc(s:StoOk B K H S ω){i:Nat}{c:G V}{xs:G SV}(k:S[i]?=M a)(m:H a=M (.ext φ))(n:Ze (ow B S ω) K H S c xs):StoOk B K (aR H a (.lst c)) S (ω.set i (.lst xs)):=by
 let e:IH a (ow B S ω) H (ow B S (ω.set i (.lst xs))) (aR H a (.lst c)):=BF s k;show#[by rw[Yf];show s.len,s.nd,λb h=>mE (s.bn b h),s.ba,λj b h=>mE (s.al j b h),λj b d f l=>?_];rcases bC l with⟨rfl,rfl⟩|⟨g,l⟩
 .rw[k]at f;ext f;show#[c,ay,Paired.Z8 n λ_ _ q=>ZE.evx m e q]
 .show(s.cel j b d f l).evx m e λu q=>by rw[ar (λz=>g (s.nd j i a (by rw[<-z];show f) k))];show q
def F7{i:Nat}{ws:G V}{xs ys:G SV}(c:Z[i]?=M a)(p:ω1[i]?=M (.lst xs))(e3:YE Z ω1 U Z (ω1.set i .dead) N)(e:YE Z (ω1.set i .dead) N T Q H')(m:StoOk B K H' T Q)(l:T[i]?=M a):YE Z ω1 U T (Q.set i (.lst ys)) (aR H' a (.lst ws)):=by
 let f:Lv Z ω1 a:=#[i,_,c,p,by intro z;ext z];show#[e.pre,λb o h g=>?_,λb z=>?_]
 .let j:b≠a:=λz=>g (by rw[z];show f);rw[ar j];show e.kp b o (e3.kp b o h g) λz=>g (pQ z)
 .rcases Gz m l z with rfl|z
  .show .inl f
  .rcases e.lv b z with z|z
   .show .inl (pQ z)
   .by_cases j:b=a
    .rw[j];show .inl f
    .cases q:U b with
     |none=>show .inr W
     |some o=>show .inl (Classical.byContradiction λn=>?_);rw[e3.kp b o q n]at z;ext z
def Ps{i:Nat}{c:G V}{xs:G SV}{ds:G D}(g:StoOk B K U Z ω1)(k:Z[i]?=M a)(h:ω1[i]?=M (.lst xs))(q:Ze (ow B Z ω1) K U Z c (ds.map .fz)):
  StoOk B K (aR U a (wg a c)) Z (ω1.set i .dead)/\YE Z ω1 U Z (ω1.set i .dead) (aR U a (wg a c))/\vS K (Vh a c) (ow B Z (ω1.set i .dead)) (aR U a (wg a c)) ds:=by
 let nd:(Cell.lst xs)≠.dead:=by intro z;ext z
 let m:StoOk B K (aR U a (wg a c)) Z (ω1.set i .dead):=g.pin k h nd;let e3:YE Z ω1 U Z (ω1.set i .dead) (aR U a (wg a c)):=YE.pin k h nd;let p:¬ow B Z (ω1.set i .dead) a:=g.adW k;let b:L3.YH (ow B Z (ω1.set i .dead)) K (aR U a (wg a c)) c ds:=yr (Ze.Zd e3 q);show#[m,e3,?_];intro O' H' e t;let l:=(e a _ ay p).1;let f:=b.ev e;let u:c.length=ds.length:=b.length;show#[λj w=>#[#[l,by ext],?_],l,by ext];rintro y r ⟨rfl,A⟩;let(d,o,n):=f.aga A;show#[YS.refl _,d,o,n]
def Eo{g:TG}{gt:wW}{c:TS}{b:dH}{J:It}{ds:bg D}{D:Ends}(s:IP K E g gt)(z:mS K E c b)(s1:StoOk B K U Z ω1)(M:ZA (ow B Z ω1) K U Z P ρ)(it:vS K J (ow B Z ω1) U ds)(k:WS K E B U Z ω1 (lg B K D) (gp gt b ds ρ ω1)):C0 (λP H R=>R J H) g c D P U:=by
 show#[λi m f H'=>m=ds.length - i/\i<=ds.length/\∃X Y ρ2,YE Z ω1 U X Y H'/\StoOk B K H' X Y/\ZA (ow B X Y) K H' X f ρ2/\WS K E B H' X Y (lg B K D) (gp gt b (ds.drop i) ρ2 Y),#[_,W,X1 _,Z,ω1,ρ,.refl,s1,M,k],?_];rintro i m p N ⟨rfl,hi,X,Y,ρ2,e2,s2,sl2,w2⟩;let(go,r):=it (ow B X Y) N e2.ev s2.noO;by_cases j:i<ds.length
 .let(g1,g2):=go i j
  show .inr #[g1,λf H'=>i+1<=ds.length/\∃X Y ρ2,YE Z ω1 U X Y H'/\StoOk B K H' X Y/\ZA (ow B X Y) K H' X f ρ2/\WS K E B H' X Y (lg B K D) (gp gt b (ds.drop (i+1)) ρ2 Y),λf H' #[h1,h2]=>#[ds.length - (i+1),by ext,W,h1,h2],λx H3 y=>?_];let(s3,d,hd,dv):=g2 x H3 y;let ed:ds.drop i=d::ds.drop (i+1):=by let(_,q):=W6.mp hd;rw[YF j,q]
  rw[ed]at w2;let e3:YE X Y N X Y H3:=YE.same s3;show s B p H3 X Y ρ2 x (.fz d) _ (s2.grow s3) (sl2.Zd e3) dv (WS.imp (WS.bind (WS.from e3 w2)) λG I A H4 e4 s4 w3 F L=>?_);show z B F H4 I A G _ s4 L (WS.imp (WS.bind w3) λfl n l H5 e5 w u=>?_);let t:YE Z ω1 U n l H5:=e2.trans (e3.trans (e4.trans e5));cases fl with
  |nx h=>show λC o=>#[j,n,l,h,t,w,o,u]
  |ct h=>show λC o=>#[j,n,l,h,t,w,o,u]
  |bk h=>show WS.now (E:=E) w u
  |rt x=>show WS.now (E:=E) w u
 .let e:i=ds.length:=by ext
  subst e;rw[YD (Xg _)]at w2;show .inl #[r,WS.now (E:=E) s2 w2 p sl2]
def forLS(fd:cx)(gt:wW)(b:dH):dH:=λρ ω=>(fd ρ ω).bind λo ω1=>(RS.X8 ω1 (lstI ω1 o)).bind λp ω1=>(RS.X8 ω1 (aB vR p.2)).bind λds ω1=>(gp gt b ds ρ (ω1.set p.1 .dead)).bind λe Y=>match e with
 |.nx f=>.ok (.nx f) (Y.set p.1 (.lst p.2))
 |.rt x=>.ok (.rt x) (Y.set p.1 (.lst p.2))
 |_=>.bad
def sos_forL{A:TE}{g:TG}{d:TS}{fd:cx}{gt:wW}{b:dH}(hd:bU K E A fd)(k:IP K E g gt)(hb:mS K E d b):mS K E (NV (C0 (NM A) g d)) (forLS fd gt b):=by
 intro B P H S ω ρ D s C w;show hd B P H S ω ρ _ s C (WS.imp (WS.bind w) λo Z ω1 U e1 y f u hu=>?_);let((i,ys),R,f):=WS.X8 f;let(ds,M,f):=WS.X8 f;let(F,a,vs,ha,rfl,g1,G):=LV y hu R;show#[a,vs,W,g1,?_];let g3:Ze (ow B Z ω1) K U Z vs (ds.map .fz):=by rw[<-ui M];show G
 let(L,e3,it):=Ps y ha F g3;let na:¬ow B Z (ω1.set i .dead) a:=y.adW ha;show Eo k hb L ((C.Zd e1).Zd e3) it ?_;dsimp only at f;cases qr:gp gt b ds ρ (ω1.set i .dead)with
 |bad=>rw[qr]at f;show f.elim
 |er x l=>rw[qr]at f;show λc dx T H' e r J=>f c dx T H' (e3.trans e) r J
 |ok fl l=>
  rw[qr]at f;intro T H' e r;let m:=e.kp a _ ay λz=>na (.inr z);let p:=e.pre i a ha;let bk:=F7 (ws:=vs) (ys:=ys) ha F e3 e r p;let rv:=Jc r p m ((Ze.Zd e3 G).Zd e);let I:IH a (ow B T l) H' (ow B T (l.set i (.lst ys))) (aR H' a (.lst vs)):=BF r p;cases fl with
  |nx n=>let f:WS K E B U Z ω1 (lg B K D) (.ok (.nx n) (l.set i (.lst ys))):=f;show λt q=>#[a,vs,m,f T _ bk rv t #[q.1,λj x h=>let#[v,h1,h2]:=q.2 j x h;#[v,h1,ZE.evx m I h2]]]
  |rt x=>let f:WS K E B U Z ω1 (lg B K D) (.ok (.rt x) (l.set i (.lst ys))):=f;show λv hv=>#[a,vs,m,f T _ bk rv v (ZE.evx m I hv)]
  |bk n=>show f.elim
  |ct n=>show f.elim
end
end LD
namespace L10
open PySem PySem.Spec PyProof.Rows L2 L3
def Rc:D->D->I RV:=fI λi j=>i+j
def M9:R2:=Wa λi j=>i+j
theorem J8{X:Cx}:UC X .Add M9:=OE
def DA{K:CL}:kZ K M9 Rc:=by intro O H x y h f g Q n b a e q;let(i,j,rfl,rfl,rfl):=xZ e;ext b;ext a;show#[_,_,W,W,q.at (.int _)]
end L10
namespace L4
open PySem PySem.Spec PyProof.Rows L2 L3
def N8(k:XK)(i:Nat)(d g:TS):TS:=λD f H=>d D f H/\∀c j H1,k c j H1->∀(e:J) (a:Obj),H1 e=P->a.cls=c->a.dict=j->ae3 a=S->
 g {nx:=λb h=>D.nx (b.set i P) h,rt:=D.rt} (f.set i (M (.ref e))) (aR H1 e (.frz a (.own e)))
def Jb{X:Cx}{body V:G YQ}{b0:YQ}{tb ts:TS}{E2:XK}{U:J}{x n:Str}{i:Nat}{np akU pos:Pos}{mU:G W2}
  (hex:X.ex=[]) (hN:X.N.Nodup) (dg:X.stack=X.env::X.outer) (hfr:X.env.frame=M X.env.locals) (hg:Gl X x) (hm:X.mg x=M (.ref U)) (hU:zT X.K U mU) (hbU:mU.contains (.type "BaseException")=S)
  (hi:X.N[i]?=M n) (d:X.env.kindOf n=M .local) (hb:∀l σ,SJ ((Cx.pinned X l).abf (uR (Cx.pinned X l) σ E2)) body σ tb) (hs:∀l e,PSs (Cx.marked (Cx.pinned X l) e) (b0::V) ts)
  (hE:∀c dx H,E2 c dx H->∃C m,c=.ref C/\zT X.K C m/\(W2.ref C::m).contains (.ref U)=S) (hdb:(x==("__debug__":Str))=R:=by decide):
  PS X (.Try body [.ExceptHandler (M (.Name x np)) (M n) (b0::V) akU] [] [] pos) (N8 E2 i tb ts):=by
 intro pins s σ H D I #[h,hc];let IY:=J0 I;let Y:(Cx.pinned X (X.pn++pins)).ex=[]:=hex;show wpAny_Try_except (wpAny_mono (hb (X.pn++pins) σ [] s H D (IY.abf _) h) (λf s1 hf=>?_) (λv s1 hx=>?_))
 .let hf:=SP.aaj hf
  cases f with
  |next=>let(a,H1,g,B):=hf;show aau #[a,H1,gP I.ok g,B]
  |brk=>let(a,H1,g,B):=hf;show#[a,H1,gP I.ok g,B]
  |cont=>let(a,H1,g,B):=hf;show#[a,H1,gP I.ok g,B]
  |ret u=>let(v,a,H1,g,r,B):=hf;show#[v,a,H1,gP I.ok g,r,B]
 .let(H1,e,c,dx,a0,T,rfl,g,F,L,aT,ne,nT,q):=hx
  let(C,mC,hcC,(n1,B,N1,b1,d1,t1,u1,a1,l1,x1,i0,i1,i2,i3,i5,id1,kC),hup):=hE c dx H1 q;let(n2,q2,N2,b2,d2,t2,u2,a2,l2,x2,j0,j1,j2,j3,j5,id2,kU):=hU;let fr:X.A.frames=M (X.env::X.outer):=by rw[<-dg];show I.ok.frames
  let ff:s1.heap.FunFrames X.base (X.env::X.outer):=by rw[<-dg];show g.stack
  show K8 fr ff hfr F λh2 T2 z2 F2 L2'=>?_
  let I2:L2.Inv (Cx.pinned X (X.pn++pins)) [] σ H1 {s1 with heap:=h2}:=wV g (λb=>b=e\/b=T) Y (λp hp y=>y.elim (L.nP p hp) (aT.nP p hp))
   (λb o z t nf=>L2'.keep b o z (λy=>t (.inl y)) (λy=>t (.inr (Xm y).symm)) (by rw[<-dg];show nf))
   (λb o z t=>L2'.slot b o z (λy=>t (.inl y)) (λy=>t (.inr (Xm y).symm))) L2'.here
   (λb y=>y.elim (λy=>by rw[y];show L.n0) (λy=>by rw[y];show aT.n0)) (λy=>y.elim (λy=>L.nL y.symm) (λy=>aT.nL y.symm))
   (λy k z w=>w.elim (L.nC y k z) (aT.nC y k z)) (λb y=>y.elim (λy=>by rw[y];show ne) (λy=>by rw[y];show nT))
  let A:Apart (Cx.pinned X (X.pn++pins)) T2:=qu g Y (ck z2);let nT2:H1 T2=P:=g.Yq.fresh z2;show wpAny_handleBy_cons (codeAny_handlers_test (jp (X:=Cx.marked (Cx.pinned X (X.pn++pins)) e) (qE I2 e) hg hm ?_ hdb)) (by nofun);let F2':=F2;let(ob,fs,qe,cE,dE,dF,_):=F2';show Fv (I2.kIn _ _ kC) (I2.kIn _ _ kU) qe (cE.trans hcC) hbU hup ?_;show codeAny_handlers_suite_as (P2 F2 λh3 F3 j hT3=>?_);let neT:e≠T2:=λy=>by let(_,_,_,_,_,_,_,_,w,_):=F2;show w y.symm
  let I3:L2.Inv (Cx.pinned X (X.pn++pins)) [] σ H1 {s1 with heap:=h3}:=wV (s:={s1 with heap:=h2}) I2 (λb=>b=T2) Y (λp hp y=>A.nP p hp y)
   (λb o z t _=>(j b t).trans z) (λb o z t=>#[o.slots,(j b t).trans z])
   (λb o z=>(Classical.em (b=T2)).elim (λy=>by rw[y];show hT3) (λy=>#[o,(j b y).trans z])) (λb y=>by rw[y];show A.n0) (λy=>A.nL y.symm) (λy k z w=>A.nC y k z w) (λb y=>by rw[y];show nT2)
  let I4:=Cq I3 L.nP ((j e neT).trans qe) ne L.n0 L.nL L.nC;show mV (X:=Cx.marked (Cx.pinned X (X.pn++pins)) e) (qE I4 e) hN hi (.inl d) (v:=.ref e) W (λs4 I5=>?_) (.inr d);let w:=hc c dx H1 q e ob ne cE dE (by ext ae3;rw[dF]);show wpAny_mono (hs (X.pn++pins) e [] s4 _ _ _ I5 w) (λf s5 hf=>?_) (λy s5 z=>z.elim);cases f with
  |next=>let(N,H2,I6,Q):=hf;show ud (qI IY.ok I6) hN hi d λs6 I7=>#[_,_,gP I.ok I7,Q]
  |brk=>let(N,H2,I6,Q):=hf;show Q.elim
  |cont=>let(N,H2,I6,Q):=hf;show Q.elim
  |ret u=>let(v,N,H2,I6,r,Q):=hf;show ud (qI IY.ok I6) hN hi d λs6 I7=>#[v,_,H2,gP I.ok I7,r,Q]
end L4
namespace L9
open PySem PySem.Spec PyProof.Rows L2 L3
def A9:G V->Hp->VK->Prop:=λxs H Q=>∃a:Int,xs=[.int a]/\∀r,H r=P->Q (.ref r) (aR H r (.rng 0 a))
def C8{X:Cx}:Zi X (.type "range") A9:=by intro a s g H xs i Q I r h;let(j,rfl,q):=h;let(u,rfl,f):=hW r;let(t,rfl):=f;show call_range_1 #[.ref s.heap.objs.size,_,I.laid (λb o e=>b3 _ e) (Xg _) (show ObjOk X.prog X.w _ _ _ (.rng 0 j)from#[_,_,_,b5 _ W]),W,q _ (I.Yq.fresh (Xg _))]
def zN:G V->Hp->VK->Prop:=λxs H Q=>∃(r:J) (n:Nat),xs=[.ref r]/\H r=M (.rng 0 n)/\n<=1000/\∀l,H l=P->Q (.ref l) (aR H l (.lst ((Xq n).map λ(i:Nat)=>V.int i)))
theorem F1{α e:Type}{R:α->e->Prop}:∀{xs:G α} {ys:G e},xs.length=ys.length->(∀(i:Nat) (x:α) (y:e),xs[i]?=M x->ys[i]?=M y->R x y)->Paired R xs ys
 |[],[],_,_=>.nil
 |[],_::_,h,_=>by ext h
 |_::_,[],h,_=>by ext h
 |x::r,y::t,h,j=>.cons (j 0 x y W W) (F1 (Nat.succ.inj h) λi a b g f=>j (i+1) a b g f)
def Ds{X:Cx}(C:X.calm=S):Zi X (.type "list") zN:=by
 intro g s G H xs J Q I r h;let(p,n,rfl,A,N,q):=h;let(u,rfl,l):=hW r;ext l;let(t,u,v,o):=(show ObjOk X.prog X.w H s.heap p (.rng 0 n)from I.Yq p _ A);show call_list_range (n:=n) (I.ok.hd C) o (small_one () () () ()) ?_ () λF K f c m e b=>?_
 .rw[amf];split<;>ext
 show#[.ref s.heap.objs.size,_,I.laid m (Xg _) (show ObjOk X.prog X.w _ F _ (.lst _)from#[?_,f.toList,c,?_,?_]),W,q _ (I.Yq.fresh (Xg _))]
 .rw[W5,XY,YU];ext
 .show F1 (by rw[W5,XY,Yi,b.1]) λi x y a E=>?_
  rw[Xj]at a;cases z:(Xq n)[i]? with
  |none=>rw[z]at a;ext a
  |some k=>
   rw[z]at a;cases Xm a;let B:k=i:=by let(L,j):=W6.mp z;rw[aeO]at j;show j.symm
   let(t,e):=b.2 i y (by rw[<-Zs];show E);rw[e,B];show#[t,by congr 1;ext]
 .simpa using e
def R8:G D->I RV
 |[.int i]=>if 0<=i/\i<=1000 then M (.ow (aZ (Xq i.toNat)))else P
 |_=>P
theorem Bl{O:bA}{K:CL}{H:Hp}:∀ns:G Nat,L3.YH O K H (ns.map λ(i:Nat)=>V.int i) (aZ ns)
 |[]=>.nil
 |n::r=>.cons (.int _) (Bl r)
def SR{K:CL}:AI K (λxs H Q=>A9 xs H λv H1=>zN [v] H1 Q) R8:=by
 intro O H xs ds p Q n g e q;unfold R8 at e;split at e
 .rename_i i
  split at e
  .rename_i t
   ext e;cases g with
   |cons j h=>
    ext h;ext j;show#[i,W,λr f=>#[r,i.toNat,W,by rw[ay];congr 2;ext,by ext,λl b=>?_]];show q l _ _ (λa o m=>bj b _ a o (bj f _ a o m)) ?_ ay (Bl _);by_cases z:l=r
    .rw[z];show f
    .rw[ar z]at b;show b
  .ext e
 .ext e
def Ug{K:CL}{E:XK}{b:TA}{c:FA}(d:AO K E b c):EO K E (tR zN (df (tR A9 b) gJ)) (hG R8 c):=by show EO K E (tR (λxs H Q=>A9 xs H λv a=>zN [v] a Q) b) _;show GS SR d
end L9
namespace L10
open PySem PyProof.Rows L2 L3
def Gv(c:cx):cx:=λe b=>(c e b).bind λx a=>match x with
 |.fz .none=>.ok (.fz (.bool S)) a
 |.rf _=>.ok (.fz (.bool R)) a
 |_=>.bad
def Hv{K:CL}{E:XK}{to:TE}{c:cx}(n:bU K E to c):bU K E (DJ (λx y H Q=>y=.Zo/\Q (.bl (decide (x=.Zo))) H) to (tC .Zo)) (Gv c):=by
 intro B l H α o p Q s m w;show n B l H α o p _ s m (w.bind.imp λx b h g e1 j e v f=>?_);show V.Zo=.Zo/\Q (.bl (decide (v=.Zo))) g;show#[W,?_];cases x with
 |fz d=>
  cases d with
  |none=>let f:L3.DV (ow B b h) K g v .none:=f;ext f;show e b g YE.refl j _ (.bl S)
  |_=>show e.elim
 |rf i=>let(a,_,rfl):=f;show e b g YE.refl j _ (.bl R)
 |tp _=>show e.elim
end L10
namespace LD
open PySem PySem.Spec PySem.W PyProof.Rows L2
section
variable{Y:Xx}{w:XU}{A:XO}{E:W2->Xd->Prop}{s:Xd}{d:Xa}{o:Obj}{es:Array Y7}{Z:Nat}
theorem D5(r:A.handled=P)(I d:J)(j:d≠I)(e:o.data=.dict es Z):Walks Y w A I [I,d] [I] es.size (λi v=>∃x,es[i]?=M x/\v=x.key) (λi h=>h.IsKeyIter I d i es.size Z/\h.get? d=M o) where
 sub:=λb f=>by simp at f;simp[f]
 frame:=λ_ _ _ a q=>#[a.1.at λo e=>q I (by simp) o e,q d (by simp) o a.2]
 item:=λi s Q E t a g=>by
  let n:es[i]?=M es[i]:=by simp[t]
  show Mi a.1 a.2 e n λm k2 p=>?_;show g _ m s.toks #[_,n,W] #[k2,p.extBut d o j a.2] λb o f e=>p.extBut b o (λh=>f (by simp[h])) e
 done:=λs Q E a g=>Qr r a.1 a.2 e (Xg _) λm l=>g m s.toks λb o f e=>l b o (λh=>f (by simp[h])) e
 self:=λ_ _ _ _ a g=>wpAny_pyIter_keyiter a.1 g
theorem Pv(nd:(d==Yv)=R)(c:o.ExactDict)(e:o.data=.dict es Z):KdlSrc Y w "dict" d d es.size (λi v=>∃x,es[i]?=M x/\v=x.key) (λh=>h.get? d=M o) where
 type:=λ_ g=>#[o,g,c.1]
 there:=λ_ g=>#[b4 g,b4 g]
 keep:=λ_ _ g b=>b d (.inl W) o g
 notList:=by decide
 notTuple:=by decide
 hint:=λ_ _ _ _ g a=>kdl_hint_dict #[o,g,c.1] a
 iter:=λ_ _ f g=>#[_,_,(λ_ _ a=>KA nd g c e a),D5 f _ d (XB (b4 g)) e,#[#[_,b5 _ W,W,W],b3 _ g]]
end
def rKeysL:G V->Hp->VK->Prop:=λxs H Q=>∃(a:J) (b:G (KD×J×V)),xs=[.ref a]/\H a=M (DkO a b)/\∀l,H l=P->Q (.ref l) (aR H l (.lst (b.map λx=>V.ref x.2.1)))
def call_keysL{X:Cx}(A:X.calm=S):Zi X (.type "list") rKeysL:=by
 intro l s G H xs K Q I r h;let(a,j,rfl,T,q):=h;let(u,rfl,p):=hW r;ext p;let(((z,n,_),o,es,M,e1,e2,e3,e4),_):=(show ObjOk X.prog X.w H s.heap a (DkO a j)from I.Yq a _ T);let v:es.size=j.length:=by rw[e4.length,Yi]
 show kdl_call (Pv n e2 e3) (I.ok.hd A) e1 () λF L g c t e f=>?_;show#[.ref s.heap.objs.size,_,I.laid t (Xg _) (show ObjOk X.prog X.w _ F _ (.lst _)from#[by rw[W5];show z,g.toList,c,L9.F1 ?_ λi x y b E=>?_,by simpa using e]),W,q _ (I.Yq.fresh (Xg _))]
 .rw[W5,<-v,<-f.1];show(Yi (xs:=g)).symm
 .rw[Xj]at b
  cases N:j[i]? with
  |none=>rw[N]at b;ext b
  |some k=>rw[N]at b;cases Xm b;let(x,C,rfl):=f.2 i y (by rw[<-Zs];show E);let(J,m,B):=qX e4 N;rw[Zs,C]at m;cases Xm m;show B.2.1
end LD
namespace L10
open PySem PyProof.Rows L2 L3 LD
def DP{O a:bA}{K:CL}{H H':Hp}{α:G J}(e:Ev O H a H'):∀{xs:G (KD×J×V)} {c:G (D×D)},PrD O K H xs c->Ze a K H' α (xs.map λx=>V.ref x.2.1) (c.map λkv=>SV.fz kv.1):=by
 intro _ _ b
 induction b with
 |nil=>show .nil
 | @cons _ _ _ _ r t f=>show .cons (DV.ev e r.2.1) (f)
def kj(fd:cx):cx:=λe b=>(fd e b).bind λo a=>(RS.X8 a (iG a o)).bind λp a=>.ok (.rf a.length) (a++[.lst (p.2.map λkv=>SV.fz kv.1)])
def yY{K:CL}{E:XK}{f:TE}{fd:cx}(hd:bU K E f fd):bU K E (tR rKeysL (df f gJ)) (kj fd):=by intro B j H α A C Q s n w;show hd B j H α A C _ s n (w.bind.imp λo m h y e1 g b u q=>?_);let((i,N),p,b):=WS.X8 b;let(_,a,xs,L,rfl,v,t):=mO g q p;show#[a,xs,W,v,λl r=>?_];show jQ g r b λe=>#[_,ay,DP e.ev t]
end L10
namespace LD
open PySem PySem.Spec PySem.W PyProof.Rows L2
section
variable{prog:Xx}{w:XU}{K:Type}[DecidableEq K]{knd:akn prog w K}{A:XO}{E:W2->Xd->Prop}{s:Xd}
def MC{nm:String}{a b:Xa}{xs ys:bg (K×Xa×W2)}{Q:Bool->Xd->Prop}(O:knd.room A)(d:(a==Yv)=W7)(S:(b==Yv)=W7)(Y:s.heap.DictOfH knd a xs)(X:s.heap.DictOfH knd b ys)(R:xs.length=ys.length)(N:∀x∈xs,∃n t u p,x.2.2=.int n t/\atKey ys x.1=cL (p,.int n u))(h:Q W3 s):wpAny (model prog w) A (XS.Dict.samePairs nm a b) Q E s:=by
 let(oa,es,ep,l,_,i,H,T,h6):=Y;let(Z,fs,fp,C,_,B,o,U,I):=X;let L:es.size=xs.length:=adf H;let J:fs.size=ys.length:=adf o;unfold XS.Dict.samePairs XS.Dict.showsAll;rw[a4 (by rw[d];show Xs),a4 (by rw[S];show Xs)];show lD (W9 (lD (W9 ?_)));show lD (YZ l i ?_);dsimp only;show lD (YZ C B ?_);rw[a4 (by rw[L,J,R];simp)];show lD (aaw l i (lD ?_));rw[Std.Legacy.Range.forIn_eq_forIn_range'];simp only[Std.Legacy.Range.size,adP,Nat.add_sub_cancel,Nat.div_one];show ah2 _ (λf q m=>m=s/\q=(Ld,⟨⟩)/\∀x∈f,x<es.size) _ ?_ ?_ _ _ #[W,W,λx g=>by let:=List.mem_range'_1.mp g;ext]
 .rintro x f q m ⟨rfl,rfl,hr⟩
  let P:=hr x Xb;obtain⟨⟨k,c,v⟩,F⟩:∃y,xs[x]?=cL y:=#[xs[x]'(),Xp _];let g:es[x]?=cL #[knd.hash k,.ref c,v]:=by rw[entry_at H x,F];rfl
  let hm:=XI F;show lD (YZ l i ?_);rw[g];let(n,t,u,p,rfl,e2):=N _ hm;show lD (Ys (lD (wpAny_dictFind_heap O (T _ hm) C B o U I (λM=>?_) λj r G=>?_)))
  .rw[atKey_none_of_get M]at e2;ext e2
  .let e:=atKey_of_get I G;rw[e2]at e;ext e;show lD (YZ C B ?_);rw[entry_at o j,G];show Ys (SeqAt.EqAt.int_int n t n u prog w _ _ ?_);rw[dN];show wpAny _ _ (if(!W3)=W3 then _ else _) _ _ _;rw[a4 ()];show lD (aaw l i ?_);rw[a4 (by simp)];show W9 #[W,W,λx g=>hr x (Xf _ g)]
 .rintro q m ⟨rfl,rfl,_⟩;show W9 h
end
def NG(K:CL):R2:=λx y H Q=>∃a b xs ys,x=.ref a/\y=.ref b/\H a=M (DkO a xs)/\H b=M (DkO b ys)/\mq K H xs/\mq K H ys/\xs.length=ys.length/\(∀z∈xs,∃n,z.2.2=.int n/\kM ys z.1=M (.int n))/\Q (.bl R) H
def op_ddeq{X:Cx}(M:X.A.units+64<cLine):OpR X (YR .NotEq) (NG X.K):=by
 intro B s U H x y v u Q I G E h;let(a,b,xs,Y,rfl,rfl,S,R,k1,k2,O,L,q):=h;ext G;ext E;let(_,ha,C,w,f):=mG I S k1;let(_,P,i,r,o):=mG I R k2;show wpAny_richCompare_same_room (op:=.NotEq) f.typeIs o.typeIs adg (Yt adg f.typeIs PySem.F.entry_dict_ne ?_ (PySem.F.args_dict_ne_2 _ _)) ();show wpAny _ _ (XS.Dict.dictSlotArgs "__ne__" #[[.ref a,.ref b],[]]>>=_) _ _ s;show lD ?_;ext XS.Dict.dictSlotArgs;show lD (abA f.typeIs ?_);show wpAny _ _ (pure (W2.ref a,W2.ref b)) _ _ s;show W9 (lD (aai (T:= "dict") o.typeIs PySem.F.sub_dict_dict ?_));simp only[abz,YJ,if_false];show lD (W9 (lD (W9 (lD (MC (kA M) ha P f o (by rw[<-w.length,<-r.length];show O) ?_ (W9 #[_,W,λx=>(nomatch x),#[.bl W7,H,I,W,q]]))))));let all:∀{l:bg (KD×Xa×V)} {m:bg (KD×Xa×W2)},RX l m->(∀x∈l,x∈xs)->∀x∈m,∃n t u p,x.2.2=.int n t/\atKey i x.1=cL (p,.int n u):=by
  intro l m q
  induction q with
  |nil=>show λ_ _ h=>nomatch h
  | @cons c d _ _ hq t A=>
   intro g x j;rcases Xw.mp j with e|j
   .subst e;let(n,e1,e2):=L c (g c Xb);let e3:=rP (k:=c.1) r;rw[e2]at e3;let(z,e4,u,e5):=aad.some_of e3;let((p,_),N,rfl):=ZU.mp e4;let(e6,_,e7):=hq;rw[e1]at e7;let(t,e7):=e7;ext e5;show#[n,t,u,p,e7,by rw[<-e6];show N]
   .show A (λy J=>g y (Xf _ J)) x j
 show all w λ_ h=>h
end LD
namespace L10
open PySem PyProof.Rows L2 L3 LD
def DR:D->I D->Bool
 |.int n,M (.int m)=>decide (n=m)
 |_,_=>R
def yu(xs ys:G (D×D)):Bool:=decide (xs.length=ys.length)&&xs.all λz=>DR z.2 (dJ ys z.1)
def Gg{d:D}{o:I D}(h:DR d o=S):∃n,d=.int n/\o=M (.int n):=by
 unfold DR at h;split at h
 .cases a7 h;show#[_,W,W]
 .ext h
def t7(c fb:cx):cx:=λe f=>(c e f).bind λx b=>(fb e b).bind λy a=>(RS.X8 a (iG a x)).bind λp a=>(RS.X8 a (iG a y)).bind λr a=>if yu p.2 r.2=S then .ok (.fz (.bool R)) a else .bad
def GC{K:CL}{E:XK}{ta tb:TE}{fa fb:cx}(ha:bU K E ta fa)(hb:bU K E tb fb):bU K E (DJ (NG K) ta tb) (t7 fa fb):=by
 intro B L H α ω ρ Q s M w;show ha B L H α ω ρ _ s M (w.bind.imp λx C A H1 e1 P O v X=>?_);show hb B L H1 C A ρ _ P (M.Zd e1) (O.bind.imp λy o r N e2 F f u Y=>?_);let((i,xs),S,f):=WS.X8 f;let((j,ys),R,f):=WS.X8 f;dsimp only at f;split at f
 .rename_i p
  let p:=abh.mp p;let Z:=a7 p.1;let hk:=λz T=>Gg (Yl.mp p.2 z T);let(_,a,as,_,rfl,g1,I):=mO F (X.Zd e2) S;let(_,b,bs,_,rfl,f1,J):=mO F Y R;show#[a,b,as,bs,W,W,g1,f1,rh I,rh J,by rw[I.length,J.length];show Z,?_,f o N YE.refl F _ (.bl W7)];let all:∀{l:bg (KD×Xa×V)} {m:bg (D×D)},PrD (ow B o r) K N l m->(∀x∈m,x∈xs)->∀z∈l,∃n,z.2.2=.int n/\kM bs z.1=cL (.int n):=by
   intro l m q
   induction q with
   |nil=>show λ_ _ h=>nomatch h
   | @cons c d _ _ hq t ih=>
    intro g x G;rcases Xw.mp G with e|G
    .subst e
     let(n,e1,e2):=hk d (g d Xb);rw[<-hq.1]at e2;let(v,e3,e4):=(mQ (k:=x.1) J).1 _ e2;let e5:=hq.2.2;rw[e1]at e5;show#[n,?_,e3.trans ?_]
     .generalize x.2.2=y at e5;ext e5;rfl
     .ext e4;rfl
    .show ih (λy U=>g y (Xf _ U)) x G
  show all I λ_ h=>h
 .show f.elim
def Jl{k fb:cx}{d:aP}{g c a:aK}{x y:SV}{i j:Nat}{xs ys:G (D×D)}(l:k d g=.ok x c)(b:fb d c=.ok y a)(f:iG a x=M (i,xs))(e:iG a y=M (j,ys))(h:yu xs ys=S):t7 k fb d g=.ok (.fz (.bool R)) a:=by ext t7;rw[l];show(fb d c).bind _=_;rw[b];show(RS.X8 a (iG a x)).bind _=_;rw[f];show(RS.X8 a (iG a y)).bind _=_;rw[e];show ax h
end L10
namespace PySem
namespace SetTable
def VF(xs:Array Nat):Prop:=xs.toList.Pairwise (·<·)
structure TI(b:Bool)(t:SetTable):Prop where
 led:t.led=b
 dm:t.dummies= #v[]
 ris:VF t.place
end SetTable
end PySem
namespace PySem
open SetTable
section
variable{prog:Xx}{w:XU}{K:Type}[DecidableEq K]{knd:KeyKind prog w K}{A:XO}{E:W2->Xd->Prop}{s:Xd}{b:Bool}{a:Xa}{es:Array (Int×W2)}
structure SetX(knd:KeyKind prog w K)(b:Bool)(h:Heap)(a:J)(es:Array (Int×U)):Prop where
 x:∃o ep t,h.get? a=M o/\o.ExactSet/\o.data=.set es ep t/\t.fits es.size=S/\TI b t
 el:ElemsOf knd es.toList
 sz:es.size<scanBound
end
end PySem
namespace PySem
namespace SetTable
structure TT(t:SetTable)(n:Nat):Prop where
 k:∃k,t.mask+1=2^k
 dm:t.dummies= #v[]
 ris:VF t.place
 le:∀v∈t.place.toList,v<=t.mask
 sz:t.place.size=n
 few:n*5<t.mask*3
section
variable{t:SetTable}{n:Nat}{p:Probe}
structure PI(t:SetTable)(p:Probe):Prop where
 nine:p.more<=9
 jm:p.j+p.more<=t.mask
 pt:p.perturb<2^64
 dm:p.dummy=P
end
end SetTable
end PySem
namespace LD
open PySem PySem.SetTable PyProof.Rows L2 L3
section
variable{prog:Xx}{w:XU}{E:W2->Xd->Prop}
variable{A:XO}{s:Xd}
structure SetH(prog:Xx)(w:XU)(b:Bool)(h:Heap)(a:J)(es:Array (Int×U))(ks:G (KD×J)):Prop where
 x:∃o ep t,h.get? a=M o/\o.ExactSet/\o.data=.set es ep t/\TT t es.size/\t.led=b/\t.mask<=8*es.size+8
 el:∀e∈es.toList,∃k c,(k,c)∈ks/\e.2=.ref c/\(eT prog w).is h k c
mutual
theorem Dz{h h':Heap}{x:Xa}{e:Obj}(f:h.get? x=cL e)(i:∀vs n,e.data≠.seq vs n)(g:Heap.SameBut x h h'):∀(d:Xe) (v:W2) (as:bg Xa),kd d=W3->adN h v d as->adN h' v d as
 |.none,_,_,_,r=>by cases r;exact .none
 |.int _,_,_,_,r=>by cases r;exact .int _ _
 |.str _,_,_,_,r=>by cases r;exact .str _ _
 |.tuple xs,_,_,k,r=>by
  cases r with
  | @tuple a o vs n _ _ h1 h2 h3 h4=>
   have b:a≠x:=by rintro rfl;rw[f]at h1;cases h1;exact i _ _ h3
   unfold kd at k;exact .tuple ((g.2 a b).trans h1) h2 h3 (qU f i g xs _ _ k h4)
 |.bool _,_,_,h,_|.list _,_,_,h,_|.dict _,_,_,h,_=>by simp[kd]at h
theorem qU{h h':Heap}{x:Xa}{a:Obj}(b:h.get? x=cL a)(f:∀vs n,a.data≠.seq vs n)(e:Heap.SameBut x h h'):∀(ds:bg Xe) (vs:bg W2) (as:bg Xa),kds ds=W3->abI h vs ds as->abI h' vs ds as
 |[],_,_,_,r=>by cases r;exact .nil
 |d::ds,_,_,k,r=>by
  cases r with
  |cons i g=>unfold kds at k;rw[W0]at k;exact .cons (Dz b f e d _ _ k.1 i) (qU b f e ds _ _ k.2 g)
end
end
end LD
namespace L2
open PySem PySem.Spec PyProof.Rows
variable{X:Cx}{a b:XA}{Y:bg XA}{T:Pos}{Q N:TE}
end L2
namespace CC
open PySem L2 L3 L10
def iM:XA->Bool
 |.BinOp .. |.UnaryOp .. |.IfExp .. |.ListComp .. |.Compare .. |.Call .. |.Constant .. |.Attribute .. |.Subscript .. |.Name .. |.List .. |.Tuple .. |.BoolOp .. |.JoinedStr .. |.Dict .. =>S
 |_=>R
def ka:XA->Bool
 |.BinOp .. |.Call .. |.Attribute .. |.Subscript .. |.Name .. =>S
 |_=>R
def RE:XA->Bool
 |.ListComp .. =>S
 |_=>R
def Sv:XA->Bool
 |.Constant .. |.Attribute .. |.Subscript .. |.Name .. =>S
 |_=>R
section
variable{e o a b:XA}{es:bg XA}{env:Env}{Y p:Pos}{n k:Nat}
def fU(h:iM e=S):Xu (e::es) env=(R,eval e env)::Xu es env:=by ext e<;>first|rfl|ext h
def uD(h:iM e=S):BV e:=by ext e<;>first|(intro _ _;rfl)|ext h
def uy(h:iM e=S):∀x,foldedSetIterable e env x=pure x:=by ext e<;>first|(intro _;rfl)|ext h
def JW(h:ka e=S):∀whole:Sem U,isTrue e env whole=(do let v<-whole;standAt e.pos;holding [v] (truthy v)):=by ext e<;>first|(intro _;rfl)|ext h
def BS{t}(h:(iM e&& !RE e)=S):ZC e t n env=pure R:=by ext e<;>first|rfl|ext h
def Sw{f p}(h:iM e=S):ZC e (M (.Attribute o f p)) n env=pure R:=by ext e<;>first|rfl|ext h
def Nx(h:iM e=S):ZC e (M (.Subscript o a p)) n env=pure R:=by ext e<;>first|rfl|ext h
def fQ{f:Str}(h:Sv e=S):attributeBase e f env (eval e env)=eval e env:=by ext e<;>first|rfl|ext h
def Ly(h:iM e=S):QA e=R:=by ext e<;>first|rfl|ext h
def LC(h:ka e=S):swapsWithSole [.Tuple es k p] e n env=pure R:=by ext e<;>first|rfl|ext h
def Cv(h:ka e=S):swappedStores [.Tuple es k p] e env=pure P:=by ext e<;>first|rfl|ext h
def PH(h:es.all iM=S):((backTo Y (Xu es env)).any λx=>x.1)=R:=by
 induction es with
 |nil=>rfl
 |cons e es f=>rw[Y2,W0]at h;rw[fU h.1];show f h.2
def Rq(h:es.all iM=S):((backTo Y (Xu es env)).all λx=> !x.1)=S:=by
 induction es with
 |nil=>rfl
 |cons e es f=>rw[Y2,W0]at h;rw[fU h.1];show f h.2
def dR(h:(e::es).all iM=S):Xu (e::es) env=(R,eval e env)::Xu es env:=by rw[Y2,W0]at h;show fU h.1
def im(h:(e::es).all iM=S):((backTo Y (Xu es env)).any λx=>x.1)=R:=by rw[Y2,W0]at h;show PH h.2
def mi(h:es.all iM=S)(f:es.length<20):methodCallForm (es.length+([]:G aaS).length) (backTo Y (Xu es env)) (backToKw Y (keywordEach [] env))=S:=by ext methodCallForm;rw[Rq h,aby];show(W0 _ _).mpr #[W,a5 ?_];show es.length+0+0<30;ext
def S8{q}{m:Str}(h:Sv o=S)(g:es.all iM=S)(i:es.length<20)(j:(p.endLine==q.line)=S):∃pl,eval (.Call (.Attribute o m p) es [] q) env=(do
   let C<-eval o env
   standAt p.atName
   let(f,first)<-holding [C] (getMethod C m pl)
   callWith q f first (backTo q (Xu es env)) (backToKw q (keywordEach [] env))):=by
 show#[do return(<-importBound o env).getD S,?_];show(do
  let C<-attributeBase o m env (eval o env)
  standAt p.atName
  methodCall o m p q env C (es.length+([]:G aaS).length) (backTo q (Xu es env)) (backToKw q (keywordEach [] env)))=_
 rw[fQ h];unfold methodCall calleeOf methodCallPos;rw[mi g i,j];rfl
def Ul{elt g sc x}(h1:env.scope.kind=.function)(f:env.kindOf x=M .local)(d:(p.line==Y.line)=S)(c:(sc.names.any λy=>y.1==x&&(y.2==.local||y.2==.cell))=R):ZC (.ListComp elt [g] sc Y) (M (.Name x p)) n env=pure S:=by show(pure _:Sem Bool)=_;rw[show env.blockKind=.function by ext Env.blockKind;rw[h1];rfl,f];show(pure (_&&(p.line==Y.line)&& !(sc.names.any λy=>y.1==x&&(y.2==.local||y.2==.cell))):Sem Bool)=_;rw[d,c];rfl
end
def aY{α:Type}{o:I α}{p:α->Bool}(h:o.any p=S):∃x,o=M x/\p x=S:=by
 cases o with
 |none=>ext h
 |some x=>show#[x,W,h]
def qZ{α:Type}{P:α->Prop}{o:I α}(k:o.elim True P){x:α}(h:o=M x):P x:=by subst h;show k
def vN:XA->I (Str×Pos)
 |.Name x p=>M (x,p)
 |_=>P
def vC:XA->I Const
 |.Constant c _ _=>M c
 |_=>P
def SH:XA->I (XA×adJ×XA)
 |.BinOp a o b _=>M (a,o,b)
 |_=>P
def Sh:XA->I (XA×G aeK×G XA)
 |.Compare a o b _=>M (a,o,b)
 |_=>P
def xw:XA->I (XA×XA×Pos)
 |.Subscript a b p=>M (a,b,p)
 |_=>P
def Wc:XA->I (I XA×I XA×I XA)
 |.Slice a b c _=>M (a,b,c)
 |_=>P
def HV:XA->I (G XA)
 |.Tuple es _ _=>M es
 |_=>P
def Sf:XA->I (G XA)
 |.List es _=>M es
 |_=>P
def xV:XA->I (XA×G XA×G aaS×Pos)
 |.Call f es a p=>M (f,es,a,p)
 |_=>P
def Tn:XA->I (XA×Str×Pos)
 |.Attribute o x p=>M (o,x,p)
 |_=>P
def VN:XA->I (XA×XA×XA)
 |.IfExp c a b _=>M (c,a,b)
 |_=>P
def U5:XA->I (BoolOp×G XA×Pos)
 |.BoolOp o es p=>M (o,es,p)
 |_=>P
def VY:XA->I (UnaryOp×XA)
 |.UnaryOp o a _=>M (o,a)
 |_=>P
def V4:XA->I (XA×G aan×Zc×Pos)
 |.ListComp e g s p=>M (e,g,s,p)
 |_=>P
def U7:XA->I (G (I XA)×G XA)
 |.Dict k v _=>M (k,v)
 |_=>P
section
variable{e:XA}
theorem oQ(h:vN e=M x):e=.Name x.1 x.2:=qZ (P:=λx=>e=.Name x.1 x.2) (by ext e<;>first|show trivial|rfl|show#[_,W]|show#[_,_,W]) h
theorem HJ(h:vC e=M x):∃k p,e=.Constant x k p:=qZ (P:=λx=>∃k p,e=.Constant x k p) (by ext e<;>first|show trivial|rfl|show#[_,W]|show#[_,_,W]) h
theorem KI(h:SH e=M x):∃p,e=.BinOp x.1 x.2.1 x.2.2 p:=qZ (P:=λx=>∃p,e=.BinOp x.1 x.2.1 x.2.2 p) (by ext e<;>first|show trivial|rfl|show#[_,W]|show#[_,_,W]) h
theorem J7(h:Sh e=M x):∃p,e=.Compare x.1 x.2.1 x.2.2 p:=qZ (P:=λx=>∃p,e=.Compare x.1 x.2.1 x.2.2 p) (by ext e<;>first|show trivial|rfl|show#[_,W]|show#[_,_,W]) h
theorem jt(h:xw e=M x):e=.Subscript x.1 x.2.1 x.2.2:=qZ (P:=λx=>e=.Subscript x.1 x.2.1 x.2.2) (by ext e<;>first|show trivial|rfl|show#[_,W]|show#[_,_,W]) h
theorem Ri(h:Wc e=M x):∃p,e=.Slice x.1 x.2.1 x.2.2 p:=qZ (P:=λx=>∃p,e=.Slice x.1 x.2.1 x.2.2 p) (by ext e<;>first|show trivial|rfl|show#[_,W]|show#[_,_,W]) h
theorem uG(h:HV e=M x):∃k p,e=.Tuple x k p:=qZ (P:=λx=>∃k p,e=.Tuple x k p) (by ext e<;>first|show trivial|rfl|show#[_,W]|show#[_,_,W]) h
theorem J5(h:Sf e=M x):∃p,e=.List x p:=qZ (P:=λx=>∃p,e=.List x p) (by ext e<;>first|show trivial|rfl|show#[_,W]|show#[_,_,W]) h
theorem mB(h:xV e=M x):e=.Call x.1 x.2.1 x.2.2.1 x.2.2.2:=qZ (P:=λx=>e=.Call x.1 x.2.1 x.2.2.1 x.2.2.2) (by ext e<;>first|show trivial|rfl|show#[_,W]|show#[_,_,W]) h
theorem ve(h:Tn e=M x):e=.Attribute x.1 x.2.1 x.2.2:=qZ (P:=λx=>e=.Attribute x.1 x.2.1 x.2.2) (by ext e<;>first|show trivial|rfl|show#[_,W]|show#[_,_,W]) h
theorem QE(h:VN e=M x):∃p,e=.IfExp x.1 x.2.1 x.2.2 p:=qZ (P:=λx=>∃p,e=.IfExp x.1 x.2.1 x.2.2 p) (by ext e<;>first|show trivial|rfl|show#[_,W]|show#[_,_,W]) h
theorem D0(h:U5 e=M x):e=.BoolOp x.1 x.2.1 x.2.2:=qZ (P:=λx=>e=.BoolOp x.1 x.2.1 x.2.2) (by ext e<;>first|show trivial|rfl|show#[_,W]|show#[_,_,W]) h
theorem Ox(h:VY e=M x):∃p,e=.UnaryOp x.1 x.2 p:=qZ (P:=λx=>∃p,e=.UnaryOp x.1 x.2 p) (by ext e<;>first|show trivial|rfl|show#[_,W]|show#[_,_,W]) h
theorem QJ(h:V4 e=M x):e=.ListComp x.1 x.2.1 x.2.2.1 x.2.2.2:=qZ (P:=λx=>e=.ListComp x.1 x.2.1 x.2.2.1 x.2.2.2) (by ext e<;>first|show trivial|rfl|show#[_,W]|show#[_,_,W]) h
theorem Gw(h:U7 e=M x):∃p,e=.Dict x.1 x.2 p:=qZ (P:=λx=>∃p,e=.Dict x.1 x.2 p) (by ext e<;>first|show trivial|rfl|show#[_,W]|show#[_,_,W]) h
def Ad(e:XA):Bool:=(HV e).isSome
def wQ(h:Ad e=S):∃l k p,e=.Tuple l k p:=by let(x,h):=YI.mp h;show#[x,uG h]
end
abbrev Fd:=Xx->XU->CL->(Str->I U)->Heap->Prop
abbrev kY(lv:Nat)(x:Str)(b:G Str)(n:Nat)(F:FN):Fd:=λP w K a base=>Vb P w K a base lv x b n F
abbrev DE(lv:Nat)(x:Str)(b:G Str)(n:Nat)(F:fH):Fd:=λP w K a base=>wS P w K a base lv x b (kB K n F)
abbrev yi(b:Bool)(lv:Nat)(C x:Str)(c:G Str)(n:Nat)(F:fH):Fd:=λP w K a base=>nA P w K a base (if b then L4.lS P w else kQ) lv C x c (kB K n F)
abbrev V9(lv:Nat)(C:Str)(b:G Str)(n:Nat)(F:fH):Fd:=λP w K a base=>xE P w K a base kQ lv C b (kB K n F)
structure Md where
 bl:G Str
 ex:G Str
 cs:G (Str×D)
 cl:G (Str×G Str)
structure Gm where
 M:Md
 N:G Str
 sc:G (Str×Xz)
 lv:Nat
 rz:Bool
 fa:Bool
 fc:G Str
 top:Nat
abbrev T0:G U:=[.type "ValueError",.type "Exception",.type "BaseException",.type "object"]
structure adq(K:CL)(mg:Str->I U)(M:Md):Prop where
 bl:∀x∈M.bl,mg x=P
 ex:∀x∈M.ex,∃C,XJ K Xy x=cL (cL (.ref C))/\mg x=cL (.ref C)/\Z3 K C T0 "ValueError.__new__"=S
 cs:∀x d,M.cs.lookup x=cL d->∃v u,mg x=cL u/\RelV v u/\∀O H,DV O K H v d
 cl:∀C L,M.cl.lookup C=cL L->kN K C L
structure Ct(T:G Fd)(Γ:Gm)(X:Cx)(E:XK):Prop where
 n:X.N=Γ.N
 nd:X.N.Nodup
 sc:X.env.scope.names=Γ.sc
 kd:X.env.scope.kind=.function
 cm:X.calm=S
 rm:Y4 Γ.lv X.A
 po:Γ.fa=S->acO (model X.prog X.w) X.A X.env X.xe
 px:Γ.rz=S->∃(N:G Str) (qual:Str) (scope:Zc) (f:J) (cd:U) (A:XO) (outer:G Env) (s0:Xd) (H0:Hp),X=fC (L4.lS X.prog X.w) X.prog X.w X.K X.mg X.base N qual scope f cd A outer s0 H0 E
 fc:∀x∈Γ.fc,X.fn x=S
 md:adq X.K X.mg Γ.M
 fs:∀i fd,i<Γ.top->T[i]?=M fd->fd X.prog X.w X.K X.mg X.base
def T8(s:G (Str×Xz))(x:Str):Bool:=s.lookup x==M .local||s.lookup x==M .cell||s.lookup x==M .free
def MR(x:Str):Bool:= !(x==("__debug__":Str))&& !(x==("__classdict__":Str))&& !(x==("__name__":Str))
def RO(a:Gm)(x:Str):Bool:=a.sc.lookup x==M .globalImplicit&&MR x
def blt(a:Gm)(x:Str):Bool:=RO a x&&a.M.bl.contains x
def eJ{a:I Xz}{b:Xz}(h:(a==M b)=S):a=M b:=by
 cases a with
 |none=>ext h
 |some a=>ext a<;>ext b<;>first|rfl|ext h
section
variable{T:bg Fd}{Z:Gm}{X:Cx}{E:XK}{x:Str}{i:Nat}
def vX(h:MR x=S):(x==("__debug__":Str))=R/\(x==("__classdict__":Str))=R/\x≠("__name__":Str):=by unfold MR at h;simp only[W0,Zw]at h;show#[h.1.1,h.1.2,λe=>by rw[e,dN]at h;cases h.2]
def n9(c:Ct T Z X E)(h:RO Z x=S):Gl X x/\(x==("__debug__":Str))=R/\x≠("__name__":Str):=by unfold RO at h;rw[W0]at h;show#[?_,(vX h.2).1,(vX h.2).2.2];show X.env.scope.names.lookup x=_;rw[c.sc];show eJ h.1
def oh(c:Ct T Z X E)(h:blt Z x=S):Gl X x/\X.mg x=P/\(x==("__debug__":Str))=R/\x≠("__name__":Str):=by unfold blt at h;rw[W0]at h;let(b,a):=n9 c h.1;show#[b,c.md.bl x (aa8.mp h.2),a]
def F5(c:Ct T Z X E)(h:Z.rz=S):dW (L4.lS X.prog X.w) X E:=by let(N,g,a,f,l,A,b,j,m,e):=c.px h;rw[e];show L4.Hl
end
abbrev Jd(a:Type):=CL->XK->a->Prop
def eo(g:FE):Jd TE:=λK E t=>EO K E t g
def es(g:cx):Jd TE:=λK E t=>bU K E t g
def ao(g:FA):Jd TA:=λK E t=>AO K E t g
def as(g:xm):Jd TA:=λK E t=>vU K E t g
def pG(g:FT):Jd TT:=λK E t=>TTO K E t g
def mM(g:tM):Jd TT:=λK E t=>wc K E t g
def oo(g:FO):Jd TO:=λK E t=>S4 K E t g
def go(g:FG):Jd TG:=λK E t=>GO K E t g
def FD(g:wW):Jd TG:=λK E t=>IP K E t g
def gs(g:Sa):Jd x9:=λK E t=>Uf K E t g
def O8(g:Du):Jd x9:=λK E t=>Hh K E t g
def io(g:FI):Jd TI:=λK E t=>L3.IO K E t g
def Uk(g:FI):Jd TI:=λK E t=>Vp K E t g
def RJ(g:P0):Jd TI:=λK E t=>TR K E t g
def so(g:FS):Jd TS:=λK E t=>SO K E t g
def cU(g:dH):Jd TS:=λK E t=>mS K E t g
class CK (T:G Fd) {α τ:Type} (P:Cx->α->τ->Prop) (J:Jd τ) where
 chk:Gm->α->Bool
 ok:∀{Γ X E a},Ct T Γ X E->chk Γ a=S->∃t,P X a t/\J X.K E t
def WE(X:Cx)(e:XA)(t:TG):Prop:=PG X e t/\∀r,assignEach (e::r) X.env=(R,assign e X.env)::assignEach r X.env
def Ww(X:Cx)(r:G XA)(t:x9):Prop:=TN X r t/\(assignEach r X.env).length=r.length/\List.findIdx? (λx=>x.1) (assignEach r X.env)=P
def Wv(X:Cx)(p:XA×XA)(t:TI):Prop:=PI X p.1 p.2 t/\iM p.2=S
abbrev CE(T:G Fd)(J:Jd TE):=CK T PE J
abbrev CA(T:G Fd)(J:Jd TA):=CK T PA J
abbrev CT(T:G Fd)(J:Jd TT):=CK T PT J
abbrev CQ(T:G Fd)(J:Jd TT):=CK T yC J
abbrev CO(T:G Fd)(J:Jd TO):=CK T PO J
abbrev CG(T:G Fd)(J:Jd TG):=CK T WE J
abbrev CH(T:G Fd)(J:Jd x9):=CK T Ww J
abbrev CI(T:G Fd)(J:Jd TI):=CK T Wv J
abbrev CU(T:G Fd)(J:Jd TS):=CK T PS J
abbrev CS(T:G Fd)(J:Jd TS):=CK T PSs J
def wC{T:G Fd}{α a:Type}{P:Cx->α->a->Prop}{A J:Jd a}[x:CK T P A](k:∀{K E t},A K E t->J K E t):CK T P J:=#[x.chk,λc h=>let#[t,p,q]:=x.ok c h;#[t,p,k q]]
end CC
set_option warn.classDefReducibility false
namespace CC
open PySem L2 L3 L10
variable{T:bg Fd}
def P5(i:Nat)(a:Gm)(e:XA):Bool:=(vN e).any λx=>a.N[i]? ==M x.1&&T8 a.sc x.1&&MR x.1
def G7{a:Gm}{X:Cx}{E:XK}{i:Nat}{e:XA}(c:Ct T a X E)(h:P5 i a e=S):PE X e (nY i):=by
 let(x,q,h):=aY h;rw[oQ q];unfold T8 at h;simp only[W0,Yz]at h;show E4 (by rw[c.n];show beq_iff_eq.mp h.1.1) ?_ (vX h.2).1 (vX h.2).2.1;ext Ua;rw[c.sc];rcases h.1.2 with(z|z)|z
 .show .inl (eJ z)
 .show .inr (.inl (eJ z))
 .show .inr (.inr (eJ z))
def NT{J:Jd TE}(i:Nat)(k:∀{K E},J K E (nY i)):CE T J:=#[P5 i,λc h=>#[_,G7 c h,k]]
noncomputable instance:CE T (eo (ad i)):=NT i Q9
noncomputable instance:CE T (es (aq i)):=NT i JY
def dq:Nat->D->D->Bool
 |0,_,_=>R
 |_+1,.int a,.int b=>a==b
 |_+1,.str a,.str b=>a==b
 |_+1,.none,.none=>S
 |_+1,.bool a,.bool b=>a==b
 |n+1,.tuple a,.tuple b=>a.length==b.length&&(a.zip b).all λp=>dq n p.1 p.2
 |n+1,.list a,.list b=>a.length==b.length&&(a.zip b).all λp=>dq n p.1 p.2
 |_,_,_=>R
def Q3{f:D->D->Bool}(j:∀a b,f a b=S->a=b):∀{a b:G D},(a.length==b.length&&(a.zip b).all λp=>f p.1 p.2)=S->a=b:=by
 intro a
 induction a with
 |nil=>
  intro b h;cases b with
  |nil=>rfl
  |cons y s=>ext h
 |cons x r i=>
  intro b h;cases b with
  |nil=>ext h
  |cons y s=>rw[W0]at h;let(g,e):=h;rw[List.zip_cons_cons,Y2,W0]at e;let g:=eq_of_beq g;rw[j x y e.1,i (b:=s) (by rw[W0];show#[beq_iff_eq.mpr (by simpa using g),e.2])]
def HK:∀(n:Nat) (a b:D),dq n a b=S->a=b:=by
 intro n
 induction n with
 |zero=>intro a b h;ext h
 |succ n e=>intro a b h;ext a<;>ext b<;>first|show bb h Xs|rfl|show dw _ (eq_of_beq h)|show dw _ (Q3 e h)
def cD:Const->I D
 |.int i=>M (.int i)
 |.str x=>M (.str x)
 |.bool b=>M (.bool b)
 |.none=>M .none
 |_=>P
noncomputable instance{d:D}:CE T (eo (pC d)) where
 chk Γ e:=(((vC e).bind cD).any λa=>dq 9 a d)||((vN e).any λx=>RO Γ x.1&&((Γ.M.cs.lookup x.1).any λa=>dq 9 a d))
 ok c h:=by
  rcases(Yz _ _).mp h with h|h
  .let(a,q,h):=aY h
   obtain rfl:=HK _ _ _ h;let(k,f,b):=Yb.mp q;let(_,_,rfl):=HJ f;ext k<;>ext b
   .show#[_,zG,Qj]
   .show#[_,TL,Ud]
   .show#[_,Rk,Rj]
   .show#[_,G5,Py]
  .let(x,q,h):=aY h;rw[W0]at h;let(a,b,g):=aY h.2;obtain rfl:=HK _ _ _ g;let(j,i,_):=n9 c h.1;let(v,u,e1,e2,e3):=c.md.cs _ _ b;rw[oQ q];show#[_,J3 j e1 e2 i,D1 e3]
class BOp (f:D->D->I RV) where
 sp:XA->I (XA×XA)
 ok:∀{X:Cx} {e p ta tb},sp e=M p->X.A.units+65<cLine->iM p.2=S->PE X p.1 ta->PE X p.2 tb->∃r,PE X e (DJ r ta tb)/\kZ X.K r f
def SY{f:D->D->I RV}(op:adJ)(g:∀{X:Cx},∃r,OpR X (Zp op) r/\kZ X.K r f):BOp f where
 sp e:=(SH e).bind λx=>if x.2.1=op then M (x.1,x.2.2)else P
 ok h hu _ ha hb:=by
  let(x,q,a):=Yb.mp h;let(_,rfl):=KI q;split at a
  .rename_i z;ext a;let(r,b,i):=g;rw[<-z]at b;show#[r,Sq b ha hb,i]
  .ext a
def V0{f:D->D->I RV}(k:∀{K},kZ K (S3 K) f):BOp f where
 sp e:=(xw e).map λx=>(x.1,x.2.1)
 ok h _ hp ha hb:=by let(x,q,a):=ZU.mp h;ext a;rw[jt q];show#[_,Ni FZ ha hb (uD hp),k]
class COp (f:D->D->I RV) where
 op:aeK
 ok:∀{X:Cx},X.A.units+65<cLine->∃r,OpR X (YR op) r/\kZ X.K r f
def R9(op:aeK)(e:XA):I (XA×XA):=(Sh e).bind λx=>match x.2.2 with
 |[b]=>if x.2.1=[op]&& !behindInMarks op b then M (x.1,b)else P
 |_=>P
def ou{op:aeK}{e:XA}{p:XA×XA}(h:R9 op e=M p):∃pos,e=.Compare p.1 [op] [p.2] pos/\behindInMarks op p.2=R:=by
 let((a,o,b),q,f):=Yb.mp h;let(_,rfl):=J7 q;dsimp only at f;split at f
 .split at f
  .rename_i z;ext f;rw[W0,decide_eq_true_eq,Zw]at z;show#[_,by rw[z.1],z.2]
  .ext f
 .ext f
noncomputable instance[o:COp f]:BOp f where
 sp:=R9 o.op
 ok h hu _ ha hb:=by let(p,rfl,q):=ou h;let(r,b,a):=o.ok hu;show#[r,vI b ha hb q,a]
noncomputable instance:BOp bf:=V0 Eh
noncomputable instance:BOp L3.i7:=V0 Ju
noncomputable instance:COp cK:=#[.Eq,λh=>#[_,Pt (),Oy]]
noncomputable instance:COp pO:=#[.NotEq,λh=>#[_,RB (),Rr]]
noncomputable instance:COp QV:=#[.Lt,λ_=>#[_,SC,OZ]]
noncomputable instance:COp DF:=#[.Gt,λ_=>#[_,SL,Oh]]
noncomputable instance:COp UM:=#[.GtE,λ_=>#[_,Ui,OG]]
noncomputable instance:COp IK:=#[.In,λh=>#[_,Rx h,Qa]]
noncomputable instance:COp vG:=#[.NotIn,λh=>#[_,Jv h,MK]]
noncomputable instance:COp oj:=#[.Is,λ_=>#[_,zp,Kq]]
noncomputable instance:COp lJ:=#[.IsNot,λ_=>#[_,Mq,Lz]]
noncomputable instance:BOp bO:=SY .Add #[_,KS,JN]
noncomputable instance:BOp sO:=SY .Sub #[_,OW,Mg]
noncomputable instance:BOp qC:=SY .Mod #[_,Rn,K5]
noncomputable instance:BOp yg:=SY .FloorDiv #[_,IB,JI]
noncomputable instance:BOp iL:=SY .Mult #[_,Kx,Iw]
section
variable{A B C J:Jd TE}{U Z:Jd TA}{Q R S:Jd TT}
def SB(A B:Jd TE){f:D->D->I RV}[o:BOp f][x:CE T A][y:CE T B](k:∀{K E r m d},kZ K r f->A K E m->B K E d->J K E (DJ r m d)):CE T J where
 chk Γ e:=(o.sp e).any λp=>iM p.2&&x.chk Γ p.1&&y.chk Γ p.2
 ok c h:=by let(p,q,h):=aY h;simp only[W0]at h;let(m,l,j):=x.ok c h.1.2;let(d,i,g):=y.ok c h.2;let(r,b,a):=o.ok q (Bb c.rm) h.1.1 l i;show#[_,b,k a j g]
noncomputable instance[BOp f][CE T (eo a)][CE T (eo b)]:CE T (eo (aA f a b)):=SB (eo a) (eo b) NJ
noncomputable instance[BOp f][CE T (es a)][CE T (es b)]:CE T (es (jv f a b)):=SB (es a) (es b) Ga
noncomputable instance[CE T (es a)][CE T (es b)]:CE T (es (L10.i7 a b)) where
 chk Γ e:=(xw e).any λp=>iM p.2.1&&CK.chk T PE (es a) Γ p.1&&CK.chk T PE (es b) Γ p.2.1
 ok c h:=by let(p,q,h):=aY h;simp only[W0]at h;let(m,j,i):=CK.ok c h.1.2;let(l,g,f):=CK.ok c h.2;rw[jt q];show#[_,Ni FZ j g (uD h.1.1),Oq i f]
def Nm(k:∀{K E},Z K E gJ):CA T Z:=#[λ_ l=>l.isEmpty,λ_ h=>by rw[X7.mp h];show#[_,gy,k]]
def EJ(A:Jd TE)(U:Jd TA)[x:CE T A][y:CA T U](k:∀{K E i d},A K E i->U K E d->Z K E (df i d)):CA T Z where
 chk Γ l:=match l with
  |e::r=>iM e&&x.chk Γ e&&y.chk Γ r
  |[]=>W7
 ok c h:=by
  split at h
  .simp only[W0]at h;let(i,g,f):=x.ok c h.1.2;let(d,b,a):=y.ok c h.2;show#[_,cj g b (fU h.1.1),k f a]
  .ext h
noncomputable instance:CA T (ao am):=Nm PB
noncomputable instance:CA T (as aI):=Nm Bw
noncomputable instance[CE T (eo a)][CA T (ao b)]:CA T (ao (aa a b)):=EJ (eo a) (ao b) MM
noncomputable instance[CE T (es a)][CA T (as b)]:CA T (as (ai a b)):=EJ (es a) (as b) Ht
def NU(U:Jd TA)[x:CA T U](k:∀{K E t},U K E t->J K E (Ic t)):CE T J where
 chk Γ e:=(HV e).any (x.chk Γ)
 ok c h:=by let(l,q,h):=aY h;let(_,_,rfl):=uG q;let(t,b,a):=x.ok c h;show#[_,Fa b,k a]
def Ty(U:Jd TA)[x:CA T U](k:∀{K E t},U K E t->J K E (QY t)):CE T J where
 chk Γ e:=(Sf e).any (x.chk Γ)
 ok c h:=by let(l,q,h):=aY h;let(_,rfl):=J5 q;let(t,b,a):=x.ok c h;show#[_,Qu b,k a]
noncomputable instance[CA T (ao a)]:CE T (eo (aU a)):=NU (ao a) QI
noncomputable instance[CA T (as a)]:CE T (es (mF a)):=NU (as a) Jy
noncomputable instance[CA T (ao a)]:CE T (eo (dC a)):=Ty (ao a) Rs
noncomputable instance[CE T (eo a)]:CE T (es (ae a)):=wC (A:=eo a) Fh
noncomputable instance[CE T (es a)]:CE T (es (sB a)):=wC (A:=es a) Lo
class Fn (T:G Fd) {φ:Type} (k:Nat->Str->G Str->Nat->φ->Fd) (F:φ) (n:Nat) where
 i:Nat
 lv:Nat
 x:Str
 ps:G Str
 h:T[i]?=M (k lv x ps n F)
def RY(b:Gm)(i lv:Nat)(x:Str)(e:XA):I (XA×G XA×Pos×Pos):=(xV e).bind λy=>match y.2.1 with
 |a::r=>(vN y.1).bind λz=>if z.1==x&&RO b x&&decide (i<b.top)&&decide (lv<=b.lv)&&(a::r).all iM&&y.2.2.1.isEmpty then M (a,r,z.2,y.2.2.2)else P
 |[]=>P
def rA{c:Gm}{i lv:Nat}{x:Str}{e:XA}{y:XA×G XA×Pos×Pos}(h:RY c i lv x e=M y):e=.Call (.Name x y.2.2.1) (y.1::y.2.1) [] y.2.2.2/\RO c x=W3/\i<c.top/\lv<=c.lv/\(y.1::y.2.1).all iM=W3:=by
 let((f,l,o,p),q,a):=Yb.mp h;rw[mB q];dsimp only at a;split at a
 .let(z,b,g):=Yb.mp a
  obtain rfl:=oQ b;split at g
  .rename_i z;ext g;simp only[W0,decide_eq_true_eq,beq_iff_eq,X7]at z;let(((((rfl,b),n),m),j),rfl):=z;show#[W,b,n,m,j]
  .ext g
 .ext a
def tJ(U:Jd TA){d:Type}(D:Nat->Str->G Str->Nat->d->Fd)(F:d)(n:Nat)[o:Fn T D F n][u:CA T U](s:Bool)(k:∀{X:Cx} {E lv x L t e r p q},D lv x L n F X.prog X.w X.K X.mg X.base->(s=W3->dW (L4.lS X.prog X.w) X E)->Y4 lv X.A->Gl X x->(x==("__debug__":Str))=W7->(e::r).all iM=W3->PA X (e::r) t->U X.K E t->∃i,PE X (.Call (.Name x p) (e::r) [] q) i/\J X.K E i):CE T J where
 chk Γ e:=(!s||Γ.rz)&&(RY Γ o.i o.lv o.x e).any λy=>u.chk Γ (y.1::y.2.1)
 ok c h:=by rw[W0]at h;let(y,q,j):=aY h.2;let(rfl,g,N,b,a):=rA q;let(v,m,_):=n9 c g;let(t,l,f):=u.ok c j;show k (c.fs _ _ N o.h) (λz=>F5 c (by let:=h.1;rw[z]at this;show this)) (c.rm.mono b) v m a l f
noncomputable instance[Fn T kY F n][CA T (ao a)]:CE T (eo (b6 F n a)):=tJ (ao a) kY F n W7 λf _ r g d p e b=>#[_,vf f r e (Xg _) g d (dR p) (im p),Pn b]
noncomputable instance[Fn T kY F n][CA T (as a)]:CE T (es (hJ F n a)):=tJ (as a) kY F n W7 λf _ r g d p e b=>#[_,vf f r e (Xg _) g d (dR p) (im p),JC b]
noncomputable instance[Fn T DE F n][CA T (as a)]:CE T (es (mj F n a)):=tJ (as a) DE F n W7 λf _ r g d p e b=>#[_,vf f r e (Xg _) g d (dR p) (im p),Dg b]
noncomputable instance[Fn T DE F n][CA T (as a)]:CE T (es (qB F n a)):=tJ (as a) DE F n W7 λf _ r g d p e b=>#[_,vf f r e (Xg _) g d (dR p) (im p),Dy b]
class CB (f:G D->I RV) where
 x:Str
 v:W2
 b:Ya x=M v
 y:(∃id,v=.builtin id)\/∃ty,v=.type ty
 ok:∀{X:Cx},X.calm=W3->∃r,Zi X v r/\AI X.K r f
def Dj(a:Gm)(x:Str)(e:XA):I (XA×G XA×Pos×Pos):=if blt a x then RY {a with top:=1} 0 0 x e else P
def jb{c:Gm}{x:Str}{e:XA}{y:XA×G XA×Pos×Pos}(h:Dj c x e=M y):e=.Call (.Name x y.2.2.1) (y.1::y.2.1) [] y.2.2.2/\blt c x=W3/\(y.1::y.2.1).all iM=W3:=by
 unfold Dj at h;split at h
 .rename_i z;let(b,_,_,_,a):=rA h;show#[b,z,a]
 .ext h
def lL{d:Gm}{X:Cx}{E:XK}{x:Str}{v:W2}{r:G V->Hp->VK->Prop}{e:XA}{l:G XA}{p q:Pos}{t:TA}(c:Ct T d X E)(m:blt d x=W3)(b:Ya x=M v)(y:(∃id,v=.builtin id)\/∃ty,v=.type ty)(k:Zi X v r)(a:(e::l).all iM=W3)(h:PA X (e::l) t):PE X (.Call (.Name x p) (e::l) [] q) (tR r t):=by
 let(j,g,i,f):=oh c m;rcases y with⟨id,rfl⟩|⟨id,rfl⟩
 .show xO k j g b h f i (dR a) (im a)
 .show CF k j g b h f i (dR a) (im a)
def Sy(U:Jd TA)(f:G D->I RV)[o:CB f][u:CA T U](k:∀{K E r t},AI K r f->U K E t->J K E (tR r t)):CE T J where
 chk Γ e:=(Dj Γ o.x e).any λy=>u.chk Γ (y.1::y.2.1)
 ok c h:=by let(y,q,j):=aY h;let(rfl,g,a):=jb q;let(t,l,i):=u.ok c j;let(r,k1,k2):=o.ok c.cm;show#[_,lL c g o.b o.y k1 a l,k k2 i]
noncomputable instance[CB f][CA T (ao a)]:CE T (eo (hG f a)):=Sy (ao a) f GS
noncomputable instance[CB f][CA T (as a)]:CE T (es (y1 f a)):=Sy (as a) f Q6
noncomputable instance:CB dY:=#["len",_,Bv,.inl #[_,W],λ_=>#[_,rT,Pq]]
noncomputable instance:CB Ik:=#["len",_,Bv,.inl #[_,W],λ_=>#[_,rT,MH]]
noncomputable instance:CB lu:=#["tuple",_,JV,.inr #[_,W],λ_=>#[_,sP,Hm]]
noncomputable instance:CB C6:=#["all",_,Tc,.inl #[_,W],λh=>#[_,Hd h,Ry]]
noncomputable instance:CB sH:=#["list",_,uY,.inr #[_,W],λ_=>#[_,ut,Kt]]
noncomputable instance:CB L9.fM:=#["sorted",_,wy,.inl #[_,W],λ_=>#[_,L9.uU,L9.zz]]
noncomputable instance:CB xN:=#["max",_,M4,.inl #[_,W],λh=>#[_,Ci h,KY]]
noncomputable instance[u:CA T (ao a)]:CE T (eo (hG L9.R8 a)) where
 chk Γ e:=(Dj Γ "list" e).any λy=>y.2.1.isEmpty&&(Dj Γ "range" y.1).any λz=>u.chk Γ (z.1::z.2.1)
 ok c h:=by let((e,l,w,v),q,f):=aY h;let(rfl,g,j):=jb q;simp only[W0,X7]at f;let(rfl,p):=f;let(z,i,o):=aY p;let(rfl,r,b):=jb i;let(t,n,m):=u.ok c o;show#[_,lL c g uY (.inr #[_,W]) (L9.Ds c.cm) j (cj (lL c r L9.J9 (.inr #[_,W]) L9.C8 b n) gy (fU W)),L9.Ug m]
def VS(a:Gm)(x y:Str)(i:Int)(e:XA):I XA:=(xV e).bind λc=>match c.2.1,c.2.2.1 with
 |[l],[#[M w,v,_]]=>if(vN c.1).any (λz=>z.1==x)&&blt a x&&w==y&&((vC v).bind cD).any (λz=>dq 2 z (.int i))&&iM l then M l else P
 |_,_=>P
def P7{k:Gm}{x y:Str}{i:Int}{e l:XA}(h:VS k x y i e=M l):(∃p s L D j,e=.Call (.Name x p) [l] [#[M y,.Constant (.int i) j s,L]] D)/\blt k x=W3/\iM l=W3:=by
 let((f,a,G,p),q,b):=Yb.mp h;rw[mB q];dsimp only at b;split at b
 .split at b
  .rename_i z;ext b;simp only[W0,beq_iff_eq]at z;let((((r,o),rfl),m),g):=z;let(n,F,E):=aY r;let(d,w,v):=aY m;let(c,u,t):=Yb.mp w;obtain rfl:=HK _ _ _ v;let(j,s,rfl):=HJ u;ext c<;>ext t;rw[oQ F,beq_iff_eq.mp E];show#[#[_,_,_,_,_,W],o,g]
  .ext b
 .ext b
noncomputable instance[u:CA T (ao a)]:CE T (eo (hG (L10.Bh i) a)) where
 chk Γ e:=(VS Γ "max" "default" i e).any λl=>u.chk Γ [l]
 ok c h:=by let(l,q,m):=aY h;let((_,_,_,_,_,rfl),g,b):=P7 q;let(o,n,_):=oh c g;let(t,j,f):=u.ok c m;show#[_,L10.L7 c.cm o n j (Ly b),GS L10.IV f]
noncomputable instance:CO T (oo o0):=#[λ_ e=>e.isNone,λ_ h=>by rw[ZD.mp h];show#[_,K4,HD]]
noncomputable instance[x:CE T (eo a)]:CO T (oo (gY a)) where
 chk Γ e:=e.any (x.chk Γ)
 ok c h:=by let(e,q,g):=aY h;subst q;let(t,f,b):=x.ok c g;show#[_,KB f,DW b]
class SOp (f:D->I Int->I Int->I RV) where
 ok:∀{X:Cx},∃r,Nw X r/\So X.K r f
noncomputable instance:SOp N6:=#[#[_,Ib,vP]]
noncomputable instance:SOp UK:=#[#[_,Ja,SS]]
noncomputable instance:SOp jP:=#[#[_,Q0,Je]]
noncomputable instance[o:SOp f][x:CE T (eo a)][m:CO T (oo l)][n:CO T (oo u)]:CE T (eo (DH f a l u)) where
 chk Γ e:=(xw e).any λy=>(Wc y.2.1).any λz=>z.2.2.isNone&&x.chk Γ y.1&&m.chk Γ z.1&&n.chk Γ z.2.1
 ok c h:=by let((e,s,p),q,E):=aY h;rw[jt q];let((H,G,F),i,g):=aY E;let(_,b):=Ri i;let b:s=_:=b;subst b;simp only[W0,ZD]at g;let(((rfl,w),v),j):=g;let(t,k1,k2):=x.ok c w;let(K,k3,k4):=m.ok c v;let(I,k5,k6):=n.ok c j;let(r,k7,k8):=o.ok;show#[_,Fg k7 k1 k3 k5,Tk k8 k2 k4 k6]
def Ve(op:BoolOp)(A B:Jd TE)[x:CE T A][y:CE T B]{f:TE->TE->TE}(p:∀{X:Cx} {a b pos s d},PE X a s->PE X (.BoolOp op [b] pos) d->PE X (.BoolOp op [a,b] pos) (f s d))(k:∀{K E s d},A K E s->B K E d->J K E (f s d)):CE T J where
 chk Γ e:=(U5 e).any λz=>decide (z.1=op)&&match z.2.1 with
  |[l,r]=>x.chk Γ l&&y.chk Γ r
  |_=>W7
 ok c h:=by
  let((o,l,p),q,i):=aY h;rw[D0 q];simp only[W0,decide_eq_true_eq]at i;let(rfl,g):=i;split at g
  .rw[W0]at g;let(s,t,n):=x.ok c g.1;let(d,m,j):=y.ok c g.2;show#[_,p t (Qz m),k n j]
  .ext g
noncomputable instance[CE T (es a)][CE T (es b)]:CE T (es (x3 a b)):=Ve .And (es a) (es b) OV Km
def Uc(Q:Jd TT)(A B:Jd TE)[z:CT T Q][x:CE T A][y:CE T B](k:∀{K E t n d},Q K E t->A K E n->B K E d->J K E (TB t n d)):CE T J where
 chk Γ e:=(VN e).any λw=>z.chk Γ w.1&&x.chk Γ w.2.1&&y.chk Γ w.2.2
 ok c h:=by let(w,q,a):=aY h;let(_,rfl):=QE q;simp only[W0]at a;let(m,f,b):=z.ok c a.1.1;let(n,l,j):=x.ok c a.1.2;let(d,i,g):=y.ok c a.2;show#[_,GD f l i,k b j g]
noncomputable instance[CT T (pG q)][CE T (eo a)][CE T (eo b)]:CE T (eo (NA q a b)):=Uc (pG q) (eo a) (eo b) Ti
noncomputable instance[CT T (mM q)][CE T (es a)][CE T (es b)]:CE T (es (DZ q a b)):=Uc (mM q) (es a) (es b) Ol
def V6(A:Jd TE)[x:CE T A](k:∀{K E t},A K E t->Q K E (tB t)):CT T Q where
 chk Γ e:=ka e&&x.chk Γ e
 ok c h:=by rw[W0]at h;let(t,b,a):=x.ok c h.2;show#[_,OA b (JW h.1),k a]
def NL(A B:Jd TE){f:D->D->I RV}[o:COp f][x:CE T A][y:CE T B](k:∀{K E r s d},kZ K r f->A K E s->B K E d->Q K E (tU (DJ r s d))):CT T Q where
 chk Γ e:=(R9 o.op e).any λp=>x.chk Γ p.1&&y.chk Γ p.2
 ok c h:=by let(p,q,a):=aY h;rw[W0]at a;let(s,n,m):=x.ok c a.1;let(d,l,j):=y.ok c a.2;let(_,rfl,b):=ou q;let(r,i,g):=o.ok (Bb c.rm);show#[_,v4 i n l b,k g m j]
noncomputable instance[CE T (eo a)]:CT T (pG (az a)):=V6 (eo a) S5
noncomputable instance[CE T (es a)]:CT T (mM (aW a)):=V6 (es a) HZ
noncomputable instance[COp f][CE T (eo a)][CE T (eo b)]:CT T (pG (az (aA f a b))):=NL (eo a) (eo b) λh g e=>xY (NJ h g e)
noncomputable instance[COp f][CE T (es a)][CE T (es b)]:CT T (mM (aW (jv f a b))):=NL (es a) (es b) λh g e=>jS (Ga h g e)
def MQ(R:Jd TT)[z:CT T R](k:∀{K E t},R K E t->Q K E (ML t)):CT T Q where
 chk Γ e:=(VY e).any λy=>(match y.1 with|.Not=>W3|_=>W7)&&z.chk Γ y.2
 ok c h:=by let((o,e),q,a):=aY h;let(_,rfl):=Ox q;rw[W0]at a;let(t,f,b):=z.ok c a.2;ext o<;>first|show#[_,Rz f,k b]|cases a.1
theorem Tu{X:Cx}{op:BoolOp}{b:G XA}{a:Pos}{t:TT}(h:PT X (.BoolOp op b a) t):PW X (.BoolOp op b a) t:=λ_=>h
def Qi(op:BoolOp)(R S:Jd TT)[z:CT T R][v:CT T S]{f:TT->TT->TT}(H:∀{X:Cx} {a pos t},PT X a t->PW X (.BoolOp op [a] pos) t)(p:∀{X:Cx} {a b r pos x d},PT X a x->PW X (.BoolOp op (b::r) pos) d->PW X (.BoolOp op (a::b::r) pos) (f x d))(k:∀{K E x d},R K E x->S K E d->Q K E (f x d)):CT T Q where
 chk Γ e:=(U5 e).any λy=>decide (y.1=op)&&match y.2.1 with
  |[l,m]=>z.chk Γ l&&v.chk Γ m
  |l::m::n::s=>z.chk Γ l&&v.chk Γ (.BoolOp op (m::n::s) y.2.2)
  |_=>W7
 ok c h:=by
  let((o,l,w),q,G):=aY h;rw[D0 q];simp only[W0,decide_eq_true_eq]at G;let(rfl,g):=G;split at g
  .rw[W0]at g;let(x,F,u):=z.ok c g.1;let(d,j,i):=v.ok c g.2;show#[_,(p F (H j)).pt,k u i]
  .rw[W0]at g;let(x,F,u):=z.ok c g.1;let(d,j,i):=v.ok c g.2;show#[_,(p F (Tu j)).pt,k u i]
  .ext g
noncomputable instance[CT T (pG q)]:CT T (pG (C1 q)):=MQ (pG q) Ku
noncomputable instance[CT T (mM q)]:CT T (mM (L10.p9 q)):=MQ (mM q) LL
noncomputable instance[CT T (pG q)][CT T (pG r)]:CT T (pG (sM q r)):=Qi .And (pG q) (pG r) B1 D9 Ls
noncomputable instance[CT T (mM q)][CT T (mM r)]:CT T (mM (lz q r)):=Qi .And (mM q) (mM r) B1 D9 Kr
noncomputable instance[CT T (mM q)][CT T (mM r)]:CT T (mM (wf q r)):=Qi .Or (mM q) (mM r) Oi Td QB
noncomputable instance[CT T (pG q)]:CT T (mM (bp q)):=wC (A:=pG q) FQ
end
end CC
set_option warn.classDefReducibility false
namespace CC
open PySem L2 L3 L10
variable{T:bg Fd}{A B C J:Jd TE}{U Z:Jd TA}
def Pw(x:Str)(e:XA):I (XA×G XA×Pos×Pos):=(xV e).bind λy=>(Tn y.1).bind λz=>if z.2.1==x&&Sv z.1&&z.2.2.endLine==y.2.2.2.line&&y.2.1.all iM&&decide (y.2.1.length<20)&&y.2.2.1.isEmpty then M (z.1,y.2.1,z.2.2,y.2.2.2)else P
def nV{x:Str}{e:XA}{y:XA×G XA×Pos×Pos}(h:Pw x e=M y):e=.Call (.Attribute y.1 x y.2.2.1) y.2.1 [] y.2.2.2/\Sv y.1=S/\(y.2.2.1.endLine==y.2.2.2.line)=S/\y.2.1.all iM=S/\y.2.1.length<20:=by
 let((f,l,v,p),q,w):=Yb.mp h;let((o,n,r),u,a):=Yb.mp w;rw[mB q,show f=_ from ve u];split at a
 .rename_i z;ext a;simp only[W0,decide_eq_true_eq,X7]at z;let(((((t,m),j),i),g),b):=z;show#[?_,m,j,i,g];rw[show n=x from beq_iff_eq.mp t,show v=[]from b]
 .ext a
class MS (f:Str->G D->I RV) where
 x:Str
 ok:∀{X:Cx},∃id r,Slot "str" x id/\typeOf (.builtin id)=pure (.type "method_descriptor")/\RU X id r/\UU X.K r f
noncomputable instance[o:MS f][x:CE T (eo a)][u:CA T (ao b)]:CE T (eo (RH f a b)) where
 chk Γ e:=(Pw o.x e).any λy=>decide (0<y.2.1.length)&&x.chk Γ y.1&&u.chk Γ y.2.1
 ok c h:=by
  let((b,l,p,q),z,i):=aY h;let(rfl,K,I,g,H):=nV z;simp only[W0,decide_eq_true_eq]at i;let((G,E),w):=i;let(t,v,n):=x.ok c E;let(L,m,j):=u.ok c w;let(id,r,k1,k2,k3,k4):=o.ok;cases l with
  |nil=>ext G
  |cons e l=>show#[_,NZ PySem.F.plainAttrs_str k1 k2 k3 v m (fQ K) (mi g H) I (dR g) (im g),ST k4 n j]
noncomputable instance:MS tL:=#["join",#[_,_,PySem.F.slot_str_join,PySem.F.type_str_join,JR,Jr]]
def SD(m:Str){id:String}{r:V->bg V->Hp->VK->Prop}(s:Slot "list" m id)(ty:typeOf (.builtin id)=pure (.type "method_descriptor"))(mt:∀{X:Cx},RU X id r)(i:Gm->XA->Bool)(G:Jd TE)(A:Jd TE)[x:CE T A](j:∀{d X E e},Ct T d X E->i d e=S->∃t,PE X e t/\G X.K E t)(k:∀{K E to t},G K E to->A K E t->J K E (RI K "list" r to (df t gJ))):CE T J where
 chk d e:=(Pw m e).any λy=>i d y.1&&match y.2.1 with
  |[e]=>x.chk d e
  |_=>R
 ok c h:=by
  let((b,l,p,q),z,g):=aY h;let(rfl,I,H,a,L):=nV z;rw[W0]at g;let(w,f):=g;let(to,v,u):=j c w
  match l,a,f with
  |[e],a,f=>let a:[e].all iM=S:=a;let(t,o,n):=x.ok c f;show#[RI _ "list" r to (df t gJ),?_,k u n];show NZ PySem.F.plainAttrs_list s ty mt v (cj o gy (dR a)) (fQ I) (mi a (by show 1<20;decide)) H (dR a) W
def vJ(i:Nat):Jd TE:=λ_ _ t=>t=nY i
noncomputable instance[CE T (eo a)]:CE T (eo (Ch i a)):=SD "append" acD acE om (P5 i) (vJ i) (eo a) (λc h=>#[_,G7 c h,W]) λh k=>by ext h;show Rf k
noncomputable instance[x:CE T (es o)][CE T (es a)]:CE T (es (lY o a)):=SD "append" acD acE om x.chk (es o) (es a) x.ok JU
def J4(a:Gm)(C f:Str):Bool:=(a.M.cl.lookup C).any λL=>L.contains f
def uK{b:Gm}{X:Cx}{E:XK}{C f:Str}(c:Ct T b X E)(h:J4 b C f=S):∃L,kN X.K C L/\f∈L:=by let(L,q,a):=aY h;show#[L,c.md.cl _ _ q,aa8.mp a]
noncomputable instance{C f:Str}[x:CE T (es a)]:CE T (es (aV C f a)) where
 chk Γ e:=(Tn e).any λy=>y.2.1==f&&J4 Γ C f&&Sv y.1&&x.chk Γ y.1
 ok c h:=by let((o,n,p),q,b):=aY h;rw[ve q];simp only[W0,beq_iff_eq]at b;let(((rfl,u),r),m):=b;let(L,i,g):=uK c u;let(t,l,j):=x.ok c m;show#[_,Fp l (fQ r),A0 i g j]
class FM (T:G Fd) (rz:Bool) (C m:Str) (F:fH) (n:Nat) where
 i:Nat
 lv:Nat
 ps:G Str
 h:T[i]?=M (yi rz lv C m ps n F)
section
variable{C m:Str}{F:fH}{n:Nat}
def ME(T:G Fd)(b hd:Bool)(C m:Str)(F:fH)(n:Nat)[o:FM T b C m F n](x:Gm->XA->Bool)(u:Gm->G XA->Bool)(a:Gm)(e:XA):Bool:=(!hd||a.rz&&b)&&decide (o.i<a.top)&&decide (o.lv<=a.lv)&&(a.M.cl.lookup C).isSome&&(Pw m e).any λy=>x a y.1&&u a y.2.1
def BM{d hd:Bool}[o:FM T d C m F n]{x:Gm->XA->Bool}{u:Gm->bg XA->Bool}{k:Gm}{X:Cx}{E:XK}{e:XA}(c:Ct T k X E)(h:ME T d hd C m F n x u k e=S):∃(b:XA) (l:bg XA) (p q:Pos) (L:bg Str) (pl:Sem Bool),e=.Call (.Attribute b m p) l [] q/\x k b=S/\u k l=S/\kN X.K C L/\nA X.prog X.w X.K X.mg X.base (if d then L4.lS X.prog X.w else kQ) o.lv C m o.ps (kB X.K n F)/\Y4 o.lv X.A/\dW (if d then L4.lS X.prog X.w else kQ) X (if hd then E else E0)/\l.all iM=S/\eval (.Call (.Attribute b m p) l [] q) X.env=(do
   let ov<-eval b X.env
   standAt p.atName
   let(f,first)<-holding [ov] (getMethod ov m pl)
   callWith q f first (backTo q (Xu l X.env)) (backToKw q (keywordEach [] X.env))):=by
 unfold ME at h;simp only[W0,decide_eq_true_eq]at h;let((((a,y),v),t),r):=h;let((b,l,p,q),z,g):=aY r;let(rfl,I,H,i,G):=nV z;rw[W0]at g;let(L,j):=YI.mp t;let(pl,ev):=S8 (m:=m) (env:=X.env) I i G H;show#[b,l,p,q,L,pl,W,g.1,g.2,c.md.cl _ _ j,c.fs _ _ y o.h,c.rm.mono v,?_,i,ev];cases hd with
 |true=>let a:=(W0 _ _).mp a;rw[a.2];show F5 c a.1
 |false=>cases d with
  |true=>show Hi
  |false=>show GA
def TQ(d hd:Bool)(A:Jd TE)(U:Jd TA)[o:FM T d C m F n][x:CE T A][u:CA T U](k:∀{K E L to t},kN K C L->A K E to->U K E t->J K E (nI K C m (kB K n F) (if hd then E else E0) to t)):CE T J where
 chk:=ME T d hd C m F n x.chk λy l=> !l.isEmpty&&u.chk y l
 ok c h:=by
  let(b,l,p,q,L,pl,rfl,w,a,v,r,j,i,f,g):=BM c h;rw[W0]at a;let(to,k1,k2):=x.ok c w;let(t,k3,k4):=u.ok c a.2;cases l with
  |nil=>cases a.1
  |cons e l=>show#[_,SZ r i j k1 k3 (Xg _) (dR f) (im f) g,k v k2 k4]
def Sm(d hd:Bool)(A:Jd TE)[o:FM T d C m F n][x:CE T A](k:∀{K E L to},kN K C L->A K E to->J K E (nI K C m (kB K n F) (if hd then E else E0) to gJ)):CE T J where
 chk:=ME T d hd C m F n x.chk λ_ l=>l.isEmpty
 ok c h:=by let(b,l,p,q,L,pl,rfl,r,a,j,i,g,f,t,e):=BM c h;let(to,k1,k2):=x.ok c r;rw[X7]at a;subst a;show#[_,RF i f g k1 (Xg _) e,k j k2]
noncomputable instance[FM T R C m F n][CE T (es o)][CE T (es a)][CA T (as b)]:CE T (es (aM C m F n o (ai a b))):=TQ (C:=C) (m:=m) (F:=F) (n:=n) R R (es o) (as (ai a b)) Bj
noncomputable instance[FM T R C m F n][CE T (es o)]:CE T (es (aM C m F n o aI)):=Sm (C:=C) (m:=m) (F:=F) (n:=n) R R (es o) λh k=>Bj h k Bw
noncomputable instance[FM T S C m F n][CE T (es o)][CE T (es a)][CA T (as b)]:CE T (es (oH C m F n o (ai a b))):=TQ (C:=C) (m:=m) (F:=F) (n:=n) S S (es o) (as (ai a b)) Qo
class FK (T:G Fd) (C:Str) (F:fH) (n:Nat) where
 i:Nat
 lv:Nat
 ps:G Str
 h:T[i]?=M (V9 lv C ps n F)
noncomputable instance[o:FK T C F n][x:CE T (es a)][u:CA T (as b)]:CE T (es (rR C F n (ai a b))) where
 chk Γ e:=(Γ.M.cl.lookup C).isSome&&(RY Γ o.i (o.lv+1) C e).any λy=>CK.chk T PA (as (ai a b)) Γ (y.1::y.2.1)
 ok c h:=by rw[W0]at h;let(L,l):=YI.mp h.1;let(y,q,r):=aY h.2;let(rfl,g,i,j,f):=rA q;let(E,w,_):=n9 c g;let(t,v,p):=CK.ok c r;show#[_,N5 (c.fs _ _ i o.h) GA c.rm v j E w (dR f) (im f),Kd (c.md.cl _ _ l) p]
end
end CC
set_option warn.classDefReducibility false
namespace CC
open PySem L2 L3 L10
variable{T:bg Fd}{A B C J:Jd TE}{U Z:Jd TA}{Q R:Jd TT}
theorem UI{a:Gm}{X:Cx}{E:XK}(c:Ct T a X E):X.A.units+1<cLine:=HE c.rm
noncomputable instance[x:CE T (es d)][y:CE T (es k)]:CE T (es (rF d k)) where
 chk Γ e:=(xw e).any λp=>iM p.2.1&&x.chk Γ p.1&&y.chk Γ p.2.1
 ok c h:=by let(p,q,a):=aY h;simp only[W0]at a;let(l,i,g):=x.ok c a.1.2;let(j,f,b):=y.ok c a.2;rw[jt q];show#[_,KU (UI c) i f (uD a.1.1),E5 g b]
def MZ(x y:Gm->XA->Bool)(a:Gm)(e:XA):Bool:=(R9 .In e).any λp=>x a p.1&&y a p.2
def Hs[x:CE T (es k)][y:CE T (es d)]{l X E e}(c:Ct T l X E)(h:MZ x.chk y.chk l e=S):∃t,PE X e t/\PT X e (tB t)/\bU X.K E t (sN W7 k d):=by let(p,q,a):=aY h;rw[W0]at a;let(_,rfl,b):=ou q;let(n,g,j):=x.ok c a.1;let(m,f,i):=y.ok c a.2;show#[_,yU (FC (UI c) g f) b,yB (FC (UI c) g f) b,LY j i]
noncomputable instance[x:CE T (es k)][y:CE T (es d)]:CT T (mM (aW (sN W7 k d))):=#[MZ x.chk y.chk,λc h=>let#[_,_,h1,a]:=Hs c h;#[_,h1,HZ a]]
noncomputable instance[x:CE T (es d)][y:CE T (es k)]:CE T (es (sZ d k)) where
 chk Γ e:=(Pw "pop" e).any λz=>x.chk Γ z.1&&match z.2.1 with
  |[e]=>y.chk Γ e
  |_=>W7
 ok c h:=by
  let((b,l,p,q),z,g):=aY h;let(rfl,m,j,a,u):=nV z;rw[W0]at g;let(i,f):=g;let(L,t,r):=x.ok c i
  match l,a,f with
  |[e],a,f=>let a:[e].all iM=S:=a;let(v,o,n):=y.ok c f;show#[_,GN t o #[fQ m,mi a (by show 1<20;decide),j,?_],GK r n];rw[dR a];rfl
noncomputable instance[x:CE T (es d)]:CE T (es (wO d)) where
 chk Γ e:=(Dj Γ "list" e).any λy=>y.2.1.isEmpty&&(Pw "values" y.1).any λz=>z.2.1.isEmpty&&x.chk Γ z.1
 ok c h:=by let((e,l,E,w),q,f):=aY h;let(rfl,g,i):=jb q;simp only[W0,X7]at f;let(rfl,o):=f;let((b,l,v,u),z,a):=aY o;let(rfl,r,p,H,G):=nV z;simp only[W0,X7]at a;let(rfl,n):=a;let(t,m,j):=x.ok c n;show#[_,lL c g uY (.inr #[_,W]) (L10.zb c.cm) i (cj (Pi aaB acC PySem.F.type_dict_values L10.C7 m (fQ r) p) gy (fU W)),DN j]
def LS(x:Str){v:W2}(b:Ya x=M v)(y:(∃id,v=.builtin id)\/∃ty,v=.type ty)(A:Jd TE)[z:CE T A]{r:CL->G V->Hp->VK->Prop}(n:∀{X:Cx},X.calm=S->Zi X v (r X.K))(k:∀{K E t},A K E t->J K E (tR (r K) (df t gJ))):CE T J where
 chk Γ e:=(Dj Γ x e).any λy=>y.2.1.isEmpty&&z.chk Γ y.1
 ok c h:=by let((e,l,p,o),q,f):=aY h;let(rfl,g,a):=jb q;simp only[W0,X7]at f;let(rfl,m):=f;let(t,j,i):=z.ok c m;show#[_,lL c g b y (n c.cm) a (cj j gy (dR a)),k i]
noncomputable instance[CE T (es d)]:CE T (es (ri d)):=LS "sorted" wy (.inl #[_,W]) (es d) (r:=λ_=>y9) L10.zq G3
noncomputable instance[CE T (es d)]:CE T (es (sW d)):=LS "dict" L10.Pb (.inr #[_,W]) (es d) (r:=zi) L10.zh HN
def E8(i:Nat)(a:Gm)(e:XA):Bool:=(vN e).any λx=>a.N[i]? ==M x.1&&(a.sc.lookup x.1==M .local||(a.sc.lookup x.1==M .cell&&a.fc.contains x.1))
def pV{b:Gm}{X:Cx}{E:XK}{i:Nat}{e:XA}(c:Ct T b X E)(h:E8 i b e=S):∃x p,e=.Name x p/\X.N[i]?=M x/\L2.Qx X.env.scope x/\(X.fn x=S\/Za x X.env.scope.names=M Xz.local):=by
 let((x,p),q,a):=aY h;simp only[W0,Yz]at a;show#[x,p,oQ q,by rw[c.n];show beq_iff_eq.mp a.1,?_];ext L2.Qx;rw[c.sc];rcases a.2 with z|⟨z,w⟩
 .show#[.inl (eJ z),.inr (eJ z)]
 .show#[.inr (eJ z),.inl (c.fc _ (aa8.mp w))]
def Sx{G:Jd TG}(i:Nat)(k:∀{K E},G K E (oV i)):CG T G where
 chk:=E8 i
 ok c h:=by let(x,p,rfl,e,b,a):=pV c h;show#[_,#[Lg c.nd e b a,λ_=>W],k]
noncomputable instance:CG T (go (gN i)):=Sx i uA
noncomputable instance:CG T (FD (dZ i)):=Sx i xK
def Tm{G:Jd x9}(k:∀{K E},G K E Mm):CH T G:=#[λ_ l=>l.isEmpty,λ_ h=>by rw[X7.mp h];show#[_,#[KP,W,W],k]]
noncomputable instance:CH T (gs N4):=Tm OT
noncomputable instance:CH T (O8 vx):=Tm Mx
def SK{I:Jd x9}(G:Jd TG)(H:Jd x9)[x:CG T G][y:CH T H](k:∀{K E t u},G K E t->H K E u->I K E (BI t u)):CH T I where
 chk Γ l:=match l with
  |e::r=>x.chk Γ e&&y.chk Γ r
  |[]=>W7
 ok c h:=by
  split at h
  .rw[W0]at h;let(o,(m,a),j):=x.ok c h.1;let(n,(i,f,b),g):=y.ok c h.2;show#[_,#[D6 m i (by rw[a];rfl),by rw[a,Xn,Xn,f],by rw[a,List.findIdx?_cons,b];rfl],k j g]
  .ext h
noncomputable instance[CG T (go g)][CH T (gs r)]:CH T (gs (Cf g r)):=SK (go g) (gs r) JT
noncomputable instance[CG T (FD g)][CH T (O8 r)]:CH T (O8 (jF g r)):=SK (FD g) (O8 r) GM
def Ub{I:Jd TG}(n:Nat)(H:Jd x9)[y:CH T H](k:∀{K E t},H K E t->I K E (KM K n t)):CG T I where
 chk Γ e:=(HV e).any λl=>decide (l.length=n)&&y.chk Γ l
 ok c h:=by let(l,q,a):=aY h;let(_,_,rfl):=uG q;simp only[W0,decide_eq_true_eq]at a;let(rfl,b):=a;let(t,(j,g,f),i):=y.ok c b;show#[_,#[P4 c.cm j g f,λ_=>W],k i]
noncomputable instance[CH T (gs r)]:CG T (go (gT n r)):=Ub n (gs r) PN
noncomputable instance[CH T (O8 r)]:CG T (FD (D3 n r)):=Ub n (O8 r) IX
def Tr(A:Jd TE){I:Jd TI}[x:CE T A]{f:CL->TE->TI}(p:∀{X:Cx} {d e t},PE X e t->PI X d e (f X.K t))(k:∀{K E t},A K E t->I K E (f K t)):CI T I where
 chk Γ p:=iM p.2&&x.chk Γ p.2
 ok c h:=by rw[W0]at h;let(t,b,a):=x.ok c h.2;show#[_,#[p b,h.1],k a]
noncomputable instance[CE T (eo a)]:CI T (io (iW a)):=Tr (eo a) IE QZ
noncomputable instance[CE T (es a)]:CI T (RJ (gB a)):=Tr (es a) IE LO
noncomputable instance[CI T (io f)]:CI T (Uk f):=wC (A:=io f) λh=>L3.IO.s h
noncomputable instance[CI T (io f)]:CI T (RJ (mZ f)):=wC (A:=io f) ES
noncomputable instance[u:CA T (ao a)]:CI T (io (pI kR a)) where
 chk L p:=(Dj L "range" p.2).any λy=>y.2.1.isEmpty&&u.chk L [y.1]
 ok {L X E p} c h:=by let((e,l,F,w),q,b):=aY h;let(z,g,i):=jb q;simp only[W0,X7]at b;let(rfl,n):=b;let(r,o,_):=oh c g;let(t,m,j):=u.ok c n;let(v,f):=p;let z:f=_:=z;subst z;show#[_,#[Cr r o m (dR i),W],Ml j]
noncomputable instance[u:CA T (ao a)]:CI T (io (C2 a)) where
 chk L p:=Ad p.1&&(Dj L "zip" p.2).any λy=>match y.2.1 with
  |[r]=>u.chk L [y.1,r]
  |_=>W7
 ok {L X E p} c h:=by
  rw[W0]at h;let((e,l,G,F),q,f):=aY h.2;let(z,g,b):=jb q;let(w,v,_):=oh c g;let(i,j):=p;let z:j=_:=z;subst z;let o:Ad i=S:=h.1
  match l,b,f with
  |[r],b,f=>let b:[e,r].all iM=S:=b;let(t,n,m):=u.ok c f;let(_,_,_,rfl):=wQ o;show#[_,#[PF w v n (dR b) (im b),W],QK m]
end CC
set_option warn.classDefReducibility false
namespace CC
open PySem L2 L3 L10
variable{T:bg Fd}{A B C J:Jd TE}{U Z:Jd TA}{Q R:Jd TT}{G:Jd TG}{I:Jd TI}
noncomputable instance:CQ T (pG cS):=#[λ_ l=>l.isEmpty,λ_ h=>by rw[X7.mp h];show#[_,wB,En]]
noncomputable instance:CQ T (mM oW):=#[λ_ l=>l.isEmpty,λ_ h=>by rw[X7.mp h];show#[_,wB,Ha]]
def Wl(Q:Jd TT)[z:CT T Q]:CQ T Q where
 chk Γ l:=match l with
  |[e]=>z.chk Γ e
  |_=>W7
 ok c h:=by
  split at h
  .let(t,b,a):=z.ok c h;show#[_,GZ b,a]
  .ext h
noncomputable instance[CT T (pG q)]:CQ T (pG q):=Wl (pG q)
def t0{b:Type}(P:Jd (St->Hp->b->Prop))(K:CL)(E:XK):St->Hp->b->Prop:=λa H Q=>∀t,P K E t->t a H Q
def g0(P:Jd TG)(K:CL)(E:XK):TG:=λv a H Q=>∀t,P K E t->t v a H Q
class Cl {τ:Type} (P:Jd (St->Hp->τ->Prop)):Prop where
 cl:∀{K E},P K E (t0 P K E)
class ClG (P:Jd TG):Prop where
 cl:∀{K E},P K E (g0 P K E)
noncomputable instance:Cl (eo g):=#[λB b O a H e Q R w _ h=>h B b O a H e Q R w]
noncomputable instance:Cl (es g):=#[λB a H α b e Q s l w _ h=>h B a H α b e Q s l w]
noncomputable instance:Cl (pG g):=#[λB b O a H e Q R w _ h=>h B b O a H e Q R w]
noncomputable instance:Cl (mM g):=#[λB a H α b e Q s l w _ h=>h B a H α b e Q s l w]
noncomputable instance:ClG (go g):=#[λB b O a H e v pv Q R p w _ h=>h B b O a H e v pv Q R p w]
noncomputable instance:ClG (FD g):=#[λB a H α b e v x Q s l p w _ h=>h B a H α b e v x Q s l p w]
def UL(e:XA):bg Str:=((vN e).map (·.1)).toList++((HV e).getD []).filterMap λe=>(vN e).map (·.1)
def Pz(l:bg (Str×Xz)):bg Str:=(l.filter λy=>y.2==Xz.cell&&l.all λp=> !(p.1==y.1)|| !(p.2==Xz.free)).map (·.1)
def Vo(a:Gm)(l:bg (Str×Xz)):bg (Str×Xz):=l.map λp=>if(p.2==Xz.free&&(ScopeKind.function==ScopeKind.function)&&a.sc.lookup p.1==M .cell)then(p.1,.cell)else p
def Gm.inn(a:Gm)(own:bg Str)(b:bg (Str×Nat))(sc:bg (Str×Xz)):Gm:={a with N:=own++b.map (·.1),sc:=Vo a sc,rz:=W7,fa:=W7,fc:=Pz sc}
def Jj(b:Gm)(a:bg Nat):bg (Str×Nat):=a.filterMap λj=>(b.N[j]?).map λx=>(x,j)
def Vv(a:Gm)(sc:Zc)(b:bg (Str×Nat)):Bool:=b.all λp=>a.N[p.2]? ==M p.1&&sc.names.lookup p.1==M .free&&(a.sc.lookup p.1==M .cell||a.sc.lookup p.1==M .free)
theorem NN{d:Gm}{X:Cx}{E:XK}{sc:Zc}(c:Ct T d X E):∀{g:bg (Str×Nat)},Vv d sc g=S->acU X sc g
 |[],_=>trivial
 |p::r,h=>by unfold Vv at h;simp only[Y2,W0,Yz]at h;let(((f,e),b),a):=h;show#[#[by rw[c.n];show beq_iff_eq.mp f,eJ e,?_],NN c a];rw[c.sc];show b.imp eJ eJ
theorem zP{env:Env}{y:Str}:∀{l:bg (Str×Xz)} {acc:bg (Str×Xa)},(∀p∈l,p.1=y->(p.2==Xz.free)=W7)->acc.lookup y=P->(gz env l acc).lookup y=P
 |[],_,_,h=>h
 |(n,k)::r,acc,h,f=>by
  let a:=λacc=>zP (env:=env) (y:=y) (l:=r) (acc:=acc) λp b=>h p (Xf _ b);ext gz;split
  .rename_i q
   let ne:n≠y:=λe=>by rw[h (n,k) Xb e]at q;ext q
   split
   .show a _ (by rw[X4,show(y==n)=W7 from beq_eq_false_iff_ne.mpr (c9 ne)];show f)
   .show a _ f
  .show a _ f
def Gp{env:Env}{l:bg (Str×Xz)}{y:Str}(h:y∈Pz l):((gz env l []).lookup y).isNone=S:=by
 let(p,f,rfl):=Xv.mp h;let(_,a):=YT.mp f;rw[W0]at a;rw[zP (λq b e=>?_) W]
 .rfl
 .let:=Yl.mp a.2 q b;rw[e,dN]at this;revert this;cases q.2==Xz.free<;>intro h<;>first|rfl|ext h
structure Lc(X:Cx)(E:XK)(n:Nat)(fj:bg Nat)(I:Jd TI)(G:Jd TG)(Q:Jd TT)(A:Jd TE)(sc:Zc)(elt:XA)(cp:aan) where
 own:bg Str
 fv:bg (Str×Nat)
 wi:TI
 e:cp.is_async=0
 ln:own.length=n
 fj:fv.map (·.2)=fj
 pi:PI X cp.target cp.iter wi
 i:I X.K E wi
 pg:∀s H C fp,PG (cA X s H sc C (dS own fv) fp) cp.target (g0 G X.K E0)
 g:G X.K E0 (g0 G X.K E0)
 pq:∀s H C fp,yC (cA X s H sc C (dS own fv) fp) cp.ifs (t0 Q X.K E0)
 q:Q X.K E0 (t0 Q X.K E0)
 pe:∀s H C fp,PE (cA X s H sc C (dS own fv) fp) elt (t0 A X.K E0)
 a:A X.K E0 (t0 A X.K E0)
 fvk:acU X sc fv
 fr:(sc.names.all λy=> !(y.2==Xz.free)||X.env.scope.names.lookup y.1==M .cell||X.env.scope.names.lookup y.1==M .free)=S
 kd:sc.kind=.function
 nd:(sc.names.map (·.1)).Nodup
 nm:∀y∈sc.names,y.2=.local->sc.names.lookup y.1=M .local
 fold:∀z,foldedSetIterable cp.iter X.env z=pure z
def Ms(n:Nat)(d:bg Nat)(i:CI T I)(g:CG T G)(w:CQ T Q)(x:CE T A)(b:Gm)(elt:XA)(c:aan)(sc:Zc):Bool:=
 let own:=UL c.target
 let e:=Jj b d
 let a:=b.inn own e sc.names
 decide (own.length=n)&&decide (e.map (·.2)=d)&&decide (c.is_async=0)&&Vv b sc e&&(sc.names.all λy=> !(y.2==Xz.free)||b.sc.lookup y.1==M .cell||b.sc.lookup y.1==M .free)&&decide (sc.kind=.function)&&decide ((sc.names.map (·.1)).Nodup)&&(sc.names.all λy=> !(y.2==Xz.local)||sc.names.lookup y.1==M .local)&&decide ((own++e.map (·.1)).Nodup)&&i.chk b (c.target,c.iter)&&g.chk a c.target&&w.chk a c.ifs&&x.chk a elt
def Al[Cl A][Cl Q][ClG G]{i:CI T I}{g:CG T G}{w:CQ T Q}{x:CE T A}{n:Nat}{l:bg Nat}{d:Gm}{X:Cx}{E:XK}{m:XA}{o:aan}{sc:Zc}(c:Ct T d X E)(h:Ms n l i g w x d m o sc=W3):Nonempty (Lc X E n l I G Q A sc m o):=by
 unfold Ms at h;simp only[W0,decide_eq_true_eq]at h;let((((((((((((h1,h2),h3),k1),k2),k3),k4),k5),k6),Y),S),P),O):=h;let(K,(N,L),M):=i.ok c Y;let q:∀s H C b,Ct T (d.inn (UL o.target) (Jj d l) sc.names) (cA X s H sc C (dS (UL o.target) (Jj d l)) b) E0:=λs H C b=>
  #[W,k6,by show(relabel sc X.env).names=Vo d sc.names;unfold relabel Vo Env.kindOf;rw[c.kd,c.sc],k3,c.cm,c.rm,λz=>(ace z),λz=>(ace z),λy p=>Gp p,c.md,c.fs]
 show#[#[UL o.target,Jj d l,K,h3,h1,h2,N,M,λs H C b=>?_,ClG.cl,λs H C b=>?_,Cl.cl,λs H C b=>?_,Cl.cl,NN c k1,?_,k3,k4,λy p e=>?_,uy L]]
 .let(t,(j,_),f):=g.ok (q s H C b) S;show λa s F H v u Q I r z=>j _ _ _ _ _ _ _ I r (z _ f)
 .let(t,j,f):=w.ok (q s H C b) P;show λa s F H Q I z=>j _ _ _ _ _ I (z _ f)
 .let(t,j,f):=x.ok (q s H C b) O;show λa s F H Q I z=>j _ _ _ _ _ I (z _ f)
 .rw[c.sc];show k2
 .let:=Yl.mp k5 y p;rw[e]at this;show eJ this
def PR(e:XA):bt (XA×aan×Zc×Pos):=(V4 e).bind λy=>match y.2.1 with
 |[a]=>M (y.1,a,y.2.2)
 |_=>P
def Aw{e:XA}{y:XA×aan×Zc×Pos}(h:PR e=M y):e=.ListComp y.1 [y.2.1] y.2.2.1 y.2.2.2:=by
 let((a,l,s,p),q,b):=Yb.mp h;rw[QJ q]
 match l,b with
 |[f],b=>ext b;rfl
def Sr(I:Jd TI)(G:Jd TG)(Q:Jd TT)(A:Jd TE)[Cl A][Cl Q][ClG G][i:CI T I][g:CG T G][w:CQ T Q][x:CE T A](n:Nat)(f:bg Nat)(k:∀{K E own v a g s d},own.length=n->v.map (·.2)=f->I K E a->G K E0 g->Q K E0 s->A K E0 d->J K E (ub own v a g s d)):CE T J where
 chk Γ e:=(PR e).any λy=>Ms n f i g w x Γ y.1 y.2.1 y.2.2.1
 ok c h:=by let((o,r,u,p),q,m):=aY h;rw[Aw q];let⟨l⟩:=Al c m;let(t,b,j,as):=r;obtain rfl:as=0:=l.e;show#[_,AU l.own l.fv c.cm l.pi l.pg l.pq l.pe l.fvk l.fr l.kd l.nd l.nm l.fold,k l.ln l.fj l.i l.g l.q l.a]
noncomputable instance[CI T (Uk f)][CG T (go g)][CQ T (pG q)][CE T (eo a)]:CE T (eo (dQ n l f g q a)):=Sr (Uk f) (go g) (pG q) (eo a) n l wx
noncomputable instance[CI T (RJ f)][CG T (FD g)][CQ T (mM q)][CE T (es a)]:CE T (es (oK n l f g q a)):=Sr (RJ f) (FD g) (mM q) (es a) n l Hg
end CC
set_option warn.classDefReducibility false
namespace CC
open PySem L2 L3 L10
variable{T:bg Fd}{A B C J:Jd TE}{U Z:Jd TA}{Q R:Jd TT}{G:Jd TG}{I:Jd TI}{S Y X:Jd TS}
def Sz:YQ->bt (XA×bg YQ×bg YQ)
 |.If c a b _=>M (c,a,b)
 |_=>P
def GF:YQ->bt (bt XA)
 |.Return e _=>M e
 |_=>P
def M7:YQ->bt XA
 |.Expr e _=>M e
 |_=>P
def qW:YQ->bt (XA×XA)
 |.Assign [t] e _=>M (t,e)
 |_=>P
def G2:YQ->bt (XA×XA×bg YQ)
 |.For t i b [] _=>M (t,i,b)
 |_=>P
def SN:YQ->bt (XA×bg YQ)
 |.While c b [] _=>M (c,b)
 |_=>P
def TH:YQ->bt XA
 |.Raise (M e) P _=>M e
 |_=>P
section
variable{s:YQ}
theorem LU(h:Sz s=M x):∃p,s=.If x.1 x.2.1 x.2.2 p:=qZ (P:=λx=>∃p,s=.If x.1 x.2.1 x.2.2 p) (by ext s<;>first|show trivial|show#[_,W]) h
theorem xL(h:GF s=M x):∃p,s=.Return x p:=qZ (P:=λx=>∃p,s=.Return x p) (by ext s<;>first|show trivial|show#[_,W]) h
theorem Ip(h:M7 s=M x):∃p,s=.Expr x p:=qZ (P:=λx=>∃p,s=.Expr x p) (by ext s<;>first|show trivial|show#[_,W]) h
theorem iT(h:qW s=M x):∃p,s=.Assign [x.1] x.2 p:=qZ (P:=λx=>∃p,s=.Assign [x.1] x.2 p) (by ext s<;>first|show trivial|(rename_i l _ _;rcases l with _|⟨t,_|⟨_,_⟩⟩<;>first|show trivial|show#[_,W])) h
theorem xx(h:G2 s=M x):∃p,s=.For x.1 x.2.1 x.2.2 [] p:=qZ (P:=λx=>∃p,s=.For x.1 x.2.1 x.2.2 [] p) (by ext s<;>first|show trivial|(rename_i l _;ext l<;>first|show trivial|show#[_,W])) h
theorem IU(h:SN s=M x):∃p,s=.While x.1 x.2 [] p:=qZ (P:=λx=>∃p,s=.While x.1 x.2 [] p) (by ext s<;>first|show trivial|(rename_i l _;ext l<;>first|show trivial|show#[_,W])) h
theorem LW(h:TH s=M x):∃p,s=.Raise (M x) Ld p:=qZ (P:=λx=>∃p,s=.Raise (M x) Ld p) (by ext s<;>first|show trivial|(rename_i a b _;ext a<;>ext b<;>first|show trivial|show#[_,W])) h
end
def VD(S:Jd TS)[o:CU T S]:CS T S where
 chk Γ b:=match b with
  |[s]=>o.chk Γ s
  |_=>W7
 ok c h:=by
  split at h
  .let(t,e,a):=o.ok c h;show#[_,mX e,a]
  .ext h
noncomputable instance[CU T (so f)]:CS T (so f):=VD (so f)
noncomputable instance[CU T (cU f)]:CS T (cU f):=VD (cU f)
noncomputable instance:CS T (so eO):=#[λ_ b=>b.isEmpty,λ_ h=>by rw[X7.mp h];show#[_,BX,K1]]
noncomputable instance:CS T (cU bP):=#[λ_ b=>b.isEmpty,λ_ h=>by rw[X7.mp h];show#[_,BX,Gh]]
def Nq(Y X:Jd TS)[o:CU T Y][n:CS T X](k:∀{K E t u},Y K E t->X K E u->S K E (Ii t u)):CS T S where
 chk Γ b:=match b with
  |s::r=>o.chk Γ s&&n.chk Γ r
  |_=>W7
 ok c h:=by
  split at h
  .rw[W0]at h;let(t,g,f):=o.ok c h.1;let(i,e,a):=n.ok c h.2;show#[_,wo g e,k f a]
  .ext h
noncomputable instance[CU T (so f)][CS T (so g)]:CS T (so (bM f g)):=Nq (so f) (so g) O0
noncomputable instance[CU T (cU f)][CS T (cU g)]:CS T (cU (aC f g)):=Nq (cU f) (cU g) KJ
def Oc(Q:Jd TT)(Y X:Jd TS)[z:CT T Q][m:CS T Y][n:CS T X](k:∀{K E c t u},Q K E c->Y K E t->X K E u->S K E (JG c t u)):CU T S where
 chk Γ s:=(Sz s).any λy=>z.chk Γ y.1&&m.chk Γ y.2.1&&n.chk Γ y.2.2
 ok c h:=by let(y,q,a):=aY h;let(_,rfl):=LU q;simp only[W0]at a;let(t,j,i):=z.ok c a.1.1;let(o,g,f):=m.ok c a.1.2;let(l,e,b):=n.ok c a.2;show#[_,SI j g e,k i f b]
noncomputable instance[CT T (pG q)][CS T (so f)][CS T (so g)]:CU T (so (nk q f g)):=Oc (pG q) (so f) (so g) T6
noncomputable instance[CT T (mM q)][CS T (cU f)][CS T (cU g)]:CU T (cU (bT q f g)):=Oc (mM q) (cU f) (cU g) QX
def M8(A:Jd TE)[x:CE T A](k:∀{K E t},A K E t->S K E (DB t)):CU T S where
 chk Γ s:=(GF s).any λy=>y.any (x.chk Γ)
 ok c h:=by let(y,q,i):=aY h;let(e,a,g):=aY i;let(_,rfl):=xL q;subst a;let(t,f,b):=x.ok c g;show#[_,zw f,k b]
noncomputable instance[CE T (eo a)]:CU T (so (dA a)):=M8 (eo a) OH
noncomputable instance[CE T (es a)]:CU T (cU (L10.gw a)):=M8 (es a) JH
noncomputable instance:CU T (cU rU) where
 chk _ s:=(GF s).any (·.isNone)
 ok c h:=by let(y,q,a):=aY h;let(_,rfl):=xL q;rw[ZD.mp a];show#[_,Mu,HR]
def ED(A:Jd TE)[x:CE T A](k:∀{K E t},A K E t->S K E (wq t)):CU T S where
 chk Γ s:=(M7 s).any λe=>(iM e&& !RE e)&&x.chk Γ e
 ok c h:=by let(y,q,a):=aY h;let(_,rfl):=Ip q;let a:=(W0 _ _).mp a;let(t,f,b):=x.ok c a.2;show#[_,Bf f (BS a.1),k b]
noncomputable instance[CE T (eo a)]:CU T (so (sA a)):=ED (eo a) Kn
noncomputable instance[CE T (es a)]:CU T (cU (bv a)):=ED (es a) HW
def No(i:Nat)(A:Jd TE)[x:CE T A](k:∀{K E t},A K E t->S K E (wu t (oV i))):CU T S where
 chk Γ s:=(qW s).any λy=>(iM y.2&& !RE y.2)&&(E8 i Γ y.1&&x.chk Γ y.2)
 ok c h:=by let((f,e),q,a):=aY h;let(_,rfl):=iT q;let a:=(W0 _ _).mp a;let b:=(W0 _ _).mp a.2;let(t,j,g):=x.ok c b.2;let(y,p,z,k1,k2,k3):=pV c b.1;let z:f=_:=z;subst z;show#[_,GJ c.nd k1 k2 j (BS a.1) k3,k g]
noncomputable instance[CE T (eo a)]:CU T (so (dX a (gN i))):=No i (eo a) λh=>GL h uA
noncomputable instance[CE T (es a)]:CU T (cU (ce a (dZ i))):=No i (es a) λh=>Bi h xK
def U6(A:Jd TE)(G:Jd TG)[x:CE T A][y:CG T G](k:∀{K E t g},A K E t->G K E g->S K E (wu t g)):CU T S where
 chk Γ s:=(qW s).any λz=>ka z.2&&Ad z.1&&y.chk Γ z.1&&x.chk Γ z.2
 ok c h:=by let((m,e),q,a):=aY h;let(_,rfl):=iT q;simp only[W0]at a;let(((b,j),i),f):=a;let(t,l,a):=x.ok c f;let(n,(k1,k3),k2):=y.ok c i;let(_,_,_,rfl):=wQ j;show#[_,QP l k1 (LC b) (Cv b) (by rw[k3];rfl),k a k2]
noncomputable instance[CE T (es a)][CH T (O8 r)]:CU T (cU (ce a (D3 n r))):=U6 (es a) (FD (D3 n r)) Bi
def QN{elt b sc x p n}{a:Pos}{env:Env}(h:env.kindOf x=M .cell):ZC (.ListComp elt [b] sc a) (M (.Name x p)) n env=pure W7:=by show(pure _:Sem Bool)=_;rw[h];congr 1;show(((_&&W7)&&_)&&_)=W7;rw[Bool.and_false];rfl
def S9(I:Jd TI)(G:Jd TG)(Q:Jd TT)(A:Jd TE)[Cl A][Cl Q][ClG G][ii:CI T I][g:CG T G][w:CQ T Q][x:CE T A](n:Nat)(r:bg Nat)(i:Nat)(k:∀{K E own o b g j d},own.length=n->o.map (·.2)=r->I K E b->G K E0 g->Q K E0 j->A K E0 d->S K E (wu (ub own o b g j d) (oV i))):CU T S where
 chk Γ s:=(qW s).any λz=>(vN z.1).any λv=>(PR z.2).any λy=>E8 i Γ z.1&&(Γ.sc.lookup v.1==M .cell||(Γ.sc.lookup v.1==M .local&&v.2.line==y.2.2.2.line&& !(y.2.2.1.names.any λy=>y.1==v.1&&(y.2==.local||y.2==.cell))))&&Ms n r ii g w x Γ y.1 y.2.1 y.2.2.1
 ok c h:=by
  let((f,e),q,h2):=aY h;let(_,rfl):=iT q;let((v,vp),N,h3):=aY h2;let((elt,cp,sc,p),L,m):=aY h3;let u:f=_:=oQ N;let t:e=_:=Aw L;subst u t;simp only[W0,Zw,Yz]at m;let((hg,a),hc):=m;let(_,_,z,k1,k2,k3):=pV c hg;ext z;let⟨l⟩:=Al c hc;let(f,iter,ifs,as):=cp;obtain rfl:as=0:=l.e;show#[_,?_,k l.ln l.fj l.i l.g l.q l.a];rcases a with a|⟨⟨a,hp⟩,ha⟩
  .let a:=eJ a;rw[<-c.sc]at a;show GJ c.nd k1 k2 (AU l.own l.fv c.cm l.pi l.pg l.pq l.pe l.fvk l.fr l.kd l.nd l.nm l.fold) (QN a) k3
  .let a:=eJ a;rw[<-c.sc]at a;show Mo l.own l.fv c.nd k1 a c.cm l.pi l.pg l.pq l.pe l.fvk l.fr (Ul c.kd a hp ha) l.kd l.nd l.nm l.fold
noncomputable instance[CI T (Uk f)][CG T (go g)][CQ T (pG q)][CE T (eo a)]:CU T (so (dX (dQ n l f g q a) (gN i))):=S9 (Uk f) (go g) (pG q) (eo a) n l i λo m j h e b=>GL (wx o m j h e b) uA
noncomputable instance{C f:Str}[x:CE T (es o)][y:CE T (es a)]:CU T (cU (eR C f o a)) where
 chk Γ s:=(qW s).any λz=>(Tn z.1).any λw=>w.2.1==f&&J4 Γ C f&&iM z.2&&x.chk Γ w.1&&y.chk Γ z.2
 ok c h:=by let((i,e),q,F):=aY h;let(_,rfl):=iT q;let((b,n,p),j,g):=aY F;let z:i=_:=ve j;subst z;simp only[W0,beq_iff_eq]at g;let((((rfl,E),v),u),r):=g;let(L,m,l):=uK c E;let(t,k1,k2):=x.ok c u;let(H,k3,k4):=y.ok c r;show#[_,OJ k1 k3 (Sw v),KW m l k2 k4]
noncomputable instance[x:CE T (es d)][y:CE T (es k)][z:CE T (es v)]:CU T (cU (tP d k v)) where
 chk Γ s:=(qW s).any λr=>(xw r.1).any λw=>iM r.2&&x.chk Γ w.1&&y.chk Γ w.2.1&&z.chk Γ r.2
 ok c h:=by let((b,e),q,m):=aY h;let(_,rfl):=iT q;let(w,f,a):=aY m;let z:b=_:=jt f;subst z;simp only[W0]at a;let(((l,j),i),g):=a;let(t,k1,k2):=x.ok c j;let(o,k3,k4):=y.ok c i;let(n,k5,k6):=CK.ok c g;show#[_,IZ (UI c) k1 k3 k5 (Nx l),Gd k2 k4 k6]
def Ob(I:Jd TI)(G:Jd TG)(Y:Jd TS)[v:CI T I][y:CG T G][m:CS T Y](k:∀{K E d g t},I K E d->G K E g->Y K E t->S K E (C0 d g t)):CU T S where
 chk Γ s:=Γ.fa&&(G2 s).any λz=>v.chk Γ (z.1,z.2.1)&&y.chk Γ z.1&&m.chk Γ z.2.2
 ok c h:=by rw[W0]at h;let(z,q,a):=aY h.2;let(_,rfl):=xx q;simp only[W0]at a;let(t,(f,b),e):=v.ok c a.1.1;let(j,(k1,_),k2):=y.ok c a.1.2;let(i,k3,k4):=m.ok c a.2;show#[_,DQ (c.po h.1) c.cm f k1 k3 (uy b),k e k2 k4]
noncomputable instance[CI T (io f)][CG T (go g)][CS T (so b)]:CU T (so (sL f g b)):=Ob (io f) (go g) (so b) Qw
noncomputable instance[CI T (RJ f)][CG T (FD g)][CS T (cU b)]:CU T (cU (sC f g b)):=Ob (RJ f) (FD g) (cU b) JM
def gm(M:Md)(N:bg Str)(st:YQ)(lv top:Nat)(a:Bool):Gm:=#[M,N,(au st).names,lv,a,W3,Pz (au st).names,top]
def Vf(N a:bg Str)(sc:Zc):Bool:=decide (sc.kind=.function)&& !sc.isCoroutine&& !sc.isGenerator&&decide N.Nodup&&decide (N.take a.length=a)&&a.all (λx=>sc.names.lookup x==M .local||sc.names.lookup x==M .cell)&&sc.names.all (λy=> !(y.2==.free))
def uh{N c:bg Str}{sc:Zc}(h:Vf N c sc=W3):Zm N c sc:=by
 unfold Vf at h;simp only[W0,decide_eq_true_eq,Zw]at h;let((((((n,m),l),j),i),g),f):=h;show#[n,m,l,j,i,λx b=>?_,λy a e=>?_]
 .let:=Yl.mp g x b;rw[Yz]at this;show this.imp eJ eJ
 .let:=Yl.mp f y a;rw[e]at this;ext this
section
variable{P:Xx}{w:XU}{K:CL}{v:Str->bt W2}{base:Heap}{f:Xa}{L:Yj}{M:Md}{Z x:Str}{N u:bg Str}{k n top:Nat}{y:YQ}
def cw(T:bg Fd)(S:Jd TS)[c:CS T S](M:Md)(N u:bg Str)(y:YQ)(k top:Nat)(a:Bool):Bool:=Vf N u (au y)&&c.chk (gm M N y k top a) (bW y)
theorem Wb(a:adq K v M)(fs:∀i L,i<top->T[i]?=cL L->L P w K v base)(S:Zm N u (au y)){c A outer s H E}(b:Y4 k (A.deeper (X0 Z (au y) s.heap.objs.size f c))):Ct T (gm M N y k top W7) (fC kQ P w K v base N Z (au y) f c A outer s H E).nox E:=
 #[W,S.nd,W,S.kind,W,b,λ_=>acO.never,λz=>ace z,λ_ _=>W,a,fs]
theorem V7(a:adq K v M)(fs:∀i L,i<top->T[i]?=cL L->L P w K v base)(S:Zm N u (au y)){c A outer s H E}(b:Y4 k (A.deeper (X0 Z (au y) s.heap.objs.size f c))):Ct T (gm M N y k top W3) (fC (L4.lS P w) P w K v base N Z (au y) f c A outer s H E) E:=
 #[W,S.nd,W,S.kind,W,b,λ_=>acO.leaving,λ_=>#[_,_,_,_,_,_,_,_,_,W],λ_ _=>W,a,fs]
def l7{g:FS}{b:FN}[c:CS T (so g)](e:adq K v M)(fs:∀i L,i<top->T[i]?=cL L->L P w K v base)(F:Fun K x Z y f L)(h:cw T (so g) M N u y k top W7=W3)(d:u.length=n:=by rfl)(l:b=fD N.length g:=by rfl):FnOk P w K v base kQ (k+1) f L u (Cu K n b):=by let h:=(W0 _ _).mp h;let S:=uh h.1;show V3 F S d W l λm A a s H E j=>c.ok (Wb e fs S j) h.2
def jE{g:dH}{b:fH}[c:CS T (cU g)](e:adq K v M)(fs:∀i L,i<top->T[i]?=cL L->L P w K v base)(F:Fun K x Z y f L)(h:cw T (cU g) M N u y k top W7=W3)(d:u.length=n:=by rfl)(l:b=cI N.length g:=by rfl):FnOk P w K v base kQ (k+1) f L u (kB K n b):=by let h:=(W0 _ _).mp h;let S:=uh h.1;show VV F S d W l λm A a s H E j=>c.ok (Wb e fs S j) h.2
def Qm{g:dH}{b:fH}[c:CS T (cU g)](e:adq K v M)(fs:∀i L,i<top->T[i]?=cL L->L P w K v base)(F:Fun K x Z y f L)(h:cw T (cU g) M N u y k top W3=W3)(d:u.length=n:=by rfl)(l:b=cI N.length g:=by rfl):FnOk P w K v base (L4.lS P w) (k+1) f L u (kB K n b):=by let h:=(W0 _ _).mp h;let S:=uh h.1;show Vt F S d W l λm A a s H E j=>c.ok (V7 e fs S j) h.2
end
section
variable{T:bg Fd}{P:Xx}{w:XU}{K:CL}{mg:Str->bt W2}{base:Heap}
theorem WA:∀i fd,i<0->T[i]?=M fd->fd P w K mg base:=λ_ _ h=>bb h (acF _)
theorem jB{n:Nat}{x:Fd}(h:∀i fd,i<n->T[i]?=M fd->fd P w K mg base)(e:T[n]?=M x)(a:x P w K mg base):∀i fd,i<n+1->T[i]?=M fd->fd P w K mg base:=λi fd b q=>by
 rcases Nat.lt_succ_iff_lt_or_eq.mp b with z|rfl
 .show h i fd z q
 .rw[e]at q;ext q;show a
theorem look{α:Type}{R:Str->α->Prop}{y:Str}{e:α}{l:bg (Str×α)}(h:R y e)(r:∀x d,l.lookup x=M d->R x d):∀x d,((y,e)::l).lookup x=M d->R x d:=λx d q=>by
 rw[X4]at q;split at q
 .rename_i z;rw[beq_iff_eq]at z;ext q;rw[z];show h
 .show r x d q
abbrev Su(K:CL)(mg:Str->bt W2):Str->D->Prop:=λx d=>∃v u,mg x=M u/\RelV v u/\∀O H,DV O K H v d
theorem WO:∀x d,([]:bg (Str×D)).lookup x=M d->Su K mg x d:=λ_ _ h=>nomatch h
theorem UP{y:Str}{e:D}{l:bg (Str×D)}(h:Su K mg y e)(r:∀x d,l.lookup x=M d->Su K mg x d):∀x d,((y,e)::l).lookup x=M d->Su K mg x d:=look h r
theorem Vj{x:Str}{a:Xa}{d:D}(h:mg x=M (.ref a))(k:∀O H,DV O K H (.ref a) d):Su K mg x d:=#[.ref a,_,h,W,k]
theorem We:∀C L,([]:bg (Str×bg Str)).lookup C=M L->kN K C L:=λ_ _ h=>nomatch h
theorem VH{y:Str}{e:bg Str}{l:bg (Str×bg Str)}(h:kN K y e)(r:∀x d,l.lookup x=M d->kN K x d):∀x d,((y,e)::l).lookup x=M d->kN K x d:=look h r
abbrev Wo(K:CL)(mg:Str->bt W2)(x:Str):Prop:=∃C,XJ K Xy x=M (M (.ref C))/\mg x=M (.ref C)/\Z3 K C T0 "ValueError.__new__"=W3
theorem WI:∀x∈([]:bg Str),Wo K mg x:=λ_ h=>nomatch h
end
end CC
set_option warn.classDefReducibility false
namespace CC
open PySem L2 L3 L10
variable{T:bg Fd}
def UG(n:String):Bool:=n== "int"||n== "bool"||n== "str"||n== "list"||n== "tuple"
def Im{n:String}(h:UG n=S):(n= "int"\/n= "bool"\/n= "str"\/n= "list"\/n= "tuple")/\Ya (Str.ofString n)=M (.type n):=by unfold UG at h;simp only[Yz,beq_iff_eq]at h;rcases h with(((rfl|rfl)|rfl)|rfl)|rfl<;>show#[by simp,W]
noncomputable instance[x:CE T (eo a)]:CE T (eo (Cn n a)) where
 chk L e:=(Dj L "isinstance" e).any λy=>match y.2.1 with
  |[b]=>(vN b).any (λz=>z.1==Str.ofString n)&&blt L (Str.ofString n)&&UG n&&x.chk L y.1
  |_=>R
 ok {L X E e} c h:=by
  let((e,l,K,J),q,j):=aY h;let(rfl,g,i):=jb q
  match l,i,j with
  |[b],i,j=>simp only[W0]at j;let(((f,B),A),w):=j;let(z,p,f):=aY f;let m:=oQ p;let(o,I):=z;let f:=beq_iff_eq.mp f;let f:o=_:=f;subst f;let m:b=_:=m;subst m;let(k1,k2):=Im A;let(H,F,G,C):=oh c B;let(t,u,r):=x.ok c w;simp only[Y2,W0]at i;show#[_,lL c g nc (.inl #[_,W]) tI (by simp only[Y2,W0];show i) (cj u (cj (Ae (v:=.ty _) H F k2 W C G) gy (fU i.2.1)) (fU i.1)),Oz k1 r]
end CC
set_option warn.classDefReducibility false
namespace CC
open PySem L2 L3 L10
variable{T:bg Fd}{A B C J:Jd TE}{U Z:Jd TA}{Q R:Jd TT}
def UX(n:String)(x:Gm->XA->Bool)(a:Gm)(e:XA):Bool:=(Dj a "isinstance" e).any λy=>match y.2.1 with
  |[b]=>(vN b).any (λz=>z.1==Str.ofString n)&&blt a (Str.ofString n)&&UG n&&x a y.1
  |_=>W7
noncomputable instance[x:CE T (es a)]:CE T (es (EG n a)) where
 chk:=UX n x.chk
 ok {Y X E e} c h:=by
  let((e,l,N,M),q,j):=aY h;let(rfl,g,i):=jb q
  match l,i,j with
  |[b],i,j=>simp only[W0]at j;let(((f,F),y),w):=j;let(z,p,f):=aY f;let m:=oQ p;let(o,L):=z;let f:=beq_iff_eq.mp f;let f:o=_:=f;subst f;let m:b=_:=m;subst m;let(k1,k2):=Im y;let(K,H,I,G):=oh c F;let(t,u,r):=x.ok c w;simp only[Y2,W0]at i;show#[_,lL c g nc (.inl #[_,W]) tI (by simp only[Y2,W0];show i) (cj u (cj (Ae (v:=.ty _) K H k2 W G I) gy (fU i.2.1)) (fU i.1)),L10.LQ k1 r]
end CC
set_option warn.classDefReducibility false
namespace CC
open PySem L2 L3 L10
variable{T:bg Fd}{A B C J:Jd TE}{U Z:Jd TA}{Q R:Jd TT}
theorem sE{a:Gm}{X:Cx}{E:XK}(c:Ct T a X E):X.A.units+64<cLine:=c.rm.units
noncomputable instance:CE T (es su) where
 chk _ e:=(U7 e).any λy=>y.1.isEmpty&&y.2.isEmpty
 ok _ h:=by let((k,v),q,a):=aY h;let(_,rfl):=Gw q;simp only[W0,X7]at a;let(rfl,rfl):=a;show#[_,LD.pe_ddnew,C5]
noncomputable instance[x:CE T (es a)][y:CE T (es b)]:CE T (es (LA a b)) where
 chk p e:=(U7 e).any λz=>match z.1,z.2 with
  |[M k],[v]=>x.chk p k&&y.chk p v
  |_,_=>W7
 ok {p X E e} c h:=by
  let((g,r),q,f):=aY h;let(_,rfl):=Gw q
  match g,r,f with
  |[M k],[v],f=>simp only[W0]at f;let(o,m,l):=x.ok c f.1;let(n,j,i):=y.ok c f.2;show#[_,LD.pe_dd1 (sE c) m j,LX l i]
noncomputable instance[x:CE T (es d)][y:CE T (es k)]:CE T (es (jZ d k)) where
 chk Γ e:=(xw e).any λp=>iM p.2.1&&x.chk Γ p.1&&y.chk Γ p.2.1
 ok c h:=by let(p,q,a):=aY h;simp only[W0]at a;let(l,i,g):=x.ok c a.1.2;let(j,f,b):=y.ok c a.2;rw[jt q];show#[_,LD.pe_ddget (sE c) i f (uD a.1.1),CM g b]
def BR(op:aeK)(x y:Gm->XA->Bool)(a:Gm)(e:XA):Bool:=(R9 op e).any λp=>x a p.1&&y a p.2
def Si(neg:Bool):aeK:=if neg then .NotIn else .In
def Ej{neg:Bool}[x:CE T (es k)][y:CE T (es d)]{l X E e}(c:Ct T l X E)(h:BR (Si neg) x.chk y.chk l e=S):∃t,PE X e t/\PT X e (tB t)/\bU X.K E t (qY neg k d):=by
 let(p,q,g):=aY h;rw[W0]at g;let(_,rfl,a):=ou q;let(n,f,j):=x.ok c g.1;let(m,b,i):=y.ok c g.2;cases neg with
 |false=>show#[_,yU (LD.pc_ddin (sE c) f b) a,yB (LD.pc_ddin (sE c) f b) a,xq j i]
 |true=>show#[_,yU (LD.pc_ddnin (sE c) f b) a,yB (LD.pc_ddnin (sE c) f b) a,xq j i]
noncomputable instance[x:CE T (es k)][y:CE T (es d)]:CT T (mM (aW (qY neg k d))):=#[BR (Si neg) x.chk y.chk,λc h=>let#[_,_,h1,a]:=Ej c h;#[_,h1,HZ a]]
def E3[x:CE T (es a)][y:CE T (es b)]{d X E e}(c:Ct T d X E)(h:BR .NotEq x.chk y.chk d e=S):∃t,PE X e t/\PT X e (tU t)/\bU X.K E t (t7 a b):=by let(p,q,f):=aY h;rw[W0]at f;let(_,rfl,g):=ou q;let(o,j,m):=x.ok c f.1;let(n,i,l):=y.ok c f.2;show#[_,vI (LD.op_ddeq (sE c)) j i g,v4 (LD.op_ddeq (sE c)) j i g,GC m l]
noncomputable instance[x:CE T (es a)][y:CE T (es b)]:CT T (mM (aW (t7 a b))):=#[BR .NotEq x.chk y.chk,λc h=>let#[_,_,h1,e]:=E3 c h;#[_,h1,jS e]]
noncomputable instance[x:CE T (es d)][y:CE T (es k)][z:CE T (es f)]:CE T (es (mv d k f)) where
 chk L e:=(Pw "get" e).any λw=>x.chk L w.1&&match w.2.1 with
  |[e,f]=>y.chk L e&&z.chk L f
  |_=>W7
 ok {L X E e} c h:=by
  let((b,l,p,q),w,i):=aY h;let(rfl,o,n,a,I):=nV w;rw[W0]at i;let(j,g):=i;let(Y,G,F):=x.ok c j
  match l,a,g with
  |[e,f],a,g=>let a:[e,f].all iM=S:=a;rw[W0]at g;let(N,v,u):=y.ok c g.1;let(H,t,r):=z.ok c g.2;show#[_,LD.pe_ddget2 (sE c) G v t #[fQ o,mi a (by show 2<20;decide),n,?_],zm F u r];let m:[f].all iM=S:=(W0 _ _▸a:_/\_).2;rw[dR a,dR m];rfl
noncomputable instance[CE T (es d)]:CE T (es (kj d)):=LS "list" uY (.inr #[_,W]) (es d) (r:=λ_=>LD.rKeysL) LD.call_keysL yY
noncomputable instance[CE T (es d)]:CE T (es (nQ d)):=LS "len" Bv (.inl #[_,W]) (es d) (r:=LD.rLenDD) (λ_=>LD.call_lenDD) Da
def Ij[x:CE T (es a)]{d X E e}(c:Ct T d X E)(h:((R9 .Is e).any λp=>x.chk d p.1&&(vC p.2).any λc=>match c with|.none=>S|_=>W7)=S):∃t,PE X e t/\PT X e (tU t)/\bU X.K E t (Gv a):=by let(p,q,f):=aY h;rw[W0]at f;let(_,rfl,b):=ou q;let(j,g,i):=x.ok c f.1;let(k,k1,k2):=aY f.2;let(_,_,k3):=HJ k1;ext k<;>ext k2;rw[k3]at b⊢;show#[_,vI zp g zG b,v4 zp g zG b,Hv i]
noncomputable instance[x:CE T (es a)]:CT T (mM (aW (Gv a))):=#[_,λc h=>let#[_,_,h1,b]:=Ij c h;#[_,h1,jS b]]
noncomputable instance[x:CE T (es d)][y:CE T (es k)][z:CE T (es v)]:CU T (cU (lG d k v)) where
 chk Γ s:=(qW s).any λr=>(xw r.1).any λw=>iM r.2&&x.chk Γ w.1&&y.chk Γ w.2.1&&z.chk Γ r.2
 ok c h:=by let((b,e),q,m):=aY h;let(_,rfl):=iT q;let(w,f,a):=aY m;let z:b=_:=jt f;subst z;simp only[W0]at a;let(((l,j),i),g):=a;let(t,k1,k2):=x.ok c j;let(o,k3,k4):=y.ok c i;let(n,k5,k6):=CK.ok c g;show#[_,LD.ps_ddput (sE c) k1 k3 k5 (Nx l),B8 k2 k4 k6]
def Nl:YQ->I (XA×adJ×XA)
 |.AugAssign t o e _=>M (t,o,e)
 |_=>P
theorem E9{s:YQ}(h:Nl s=M x):∃p,s=.AugAssign x.1 x.2.1 x.2.2 p:=qZ (P:=λx=>∃p,s=.AugAssign x.1 x.2.1 x.2.2 p) (by ext s<;>first|show trivial|show#[_,W]) h
class IOp (f:D->D->I RV) where
 op:adJ
 ok:∀{X:Cx},∃ti,UC X op ti/\kZ X.K ti f
noncomputable instance:IOp Rc:=#[.Add,#[_,J8,DA]]
noncomputable instance[o:IOp f][x:CE T (es a)]:CU T (cU (Dc i f a)) where
 chk Γ s:=(Nl s).any λy=>decide (y.2.1=o.op)&&(E8 i Γ y.1&&x.chk Γ y.2.2)
 ok c h:=by let((g,op,e),q,b):=aY h;let(_,rfl):=E9 q;simp only[W0,decide_eq_true_eq]at b;let(rfl,u,r):=b;let(t,n,m):=x.ok c r;let(y,p,z,k1,k2,k3):=pV c u;let z:g=_:=z;subst z;let(v,l,j):=o.ok;show#[_,PM c.nd k1 k2 n l k3,J1 j m]
noncomputable instance[z:CT T (mM q)][m:CS T (cU b)]:CU T (cU (uO q b)) where
 chk Γ s:=Γ.fa&&(SN s).any λy=>z.chk Γ y.1&&m.chk Γ y.2
 ok c h:=by rw[W0]at h;let(y,q,a):=aY h.2;let(_,rfl):=IU q;rw[W0]at a;let(t,f,e):=z.ok c a.1;let(g,k1,k2):=m.ok c a.2;show#[_,Ei (c.po h.1) f k1,CN e k2]
noncomputable instance[x:CE T (es d)][y:CG T (FD g)][m:CS T (cU b)]:CU T (cU (LD.forLS d g b)) where
 chk Γ s:=Γ.fa&&(G2 s).any λz=>iM z.2.1&&x.chk Γ z.2.1&&y.chk Γ z.1&&m.chk Γ z.2.2
 ok c h:=by rw[W0]at h;let(z,q,a):=aY h.2;let(_,rfl):=xx q;simp only[W0]at a;let(t,f,e):=x.ok c a.1.1.2;let(j,(k1,_),k2):=y.ok c a.1.2;let(i,k3,k4):=m.ok c a.2;show#[_,LD.ps_unpL (DQ (c.po h.1) c.cm (LD.pi_pinL f) k1 k3 (uy a.1.1.1)),LD.sos_forL e k2 k4]
def vD:D->V
 |.int i=>.int i
 |_=>.Zo
class ae6 (l:G D):Prop where
 h:∀K O H,YH O K H (l.map vD) l
noncomputable instance:ae6 []:=#[λ_ _ _=>.nil]
noncomputable instance[r:ae6 l]:ae6 (.int i::l):=#[λK O H=>.cons (.int i) (r.h K O H)]
abbrev IL(ds:G D)(lv:Nat)(x:Str)(b:G Str)(n:Nat)(F:fH):Fd:=λP w K a base=>xl P w K a base (L4.lS P w) lv x b (ds.map vD) (kB K n F)
noncomputable instance[a:ae6 ds][Fn T (IL ds) F n][CA T (as u)]:CE T (es (se F n ds u)):=tJ (as u) (IL ds) F n S λf x r g d p e b=>#[_,Bs f r (x W) e (Xg _) g d (dR p) (im p),Dh (λO H=>a.h _ O H) b]
noncomputable instance[a:ae6 ds][Fn T (IL ds) F n][CA T (as u)]:CE T (es (nG F n ds u)):=tJ (as u) (IL ds) F n W7 λf x r g d p e b=>#[_,Bs f r Hi e (Xg _) g d (dR p) (im p),zx (λO H=>a.h _ O H) b]
def V8(e:XA):Bool:=(xV e).any λy=> !y.2.1.isEmpty
def Uh{o:XA}{f:Str}{env:Env}(h:V8 o=S):attributeBase o f env (eval o env)=eval o env:=by
 let((b,l,e,p),q,h):=aY h;rw[mB q];cases l with
 |nil=>ext h
 |cons a r=>ext b<;>rfl
noncomputable instance{C f:Str}[x:CE T (es (se F n ds u))]:CE T (es (aV C f (se F n ds u))) where
 chk Γ e:=(Tn e).any λy=>y.2.1==f&&J4 Γ C f&&V8 y.1&&x.chk Γ y.1
 ok c h:=by let((o,n,p),q,a):=aY h;rw[ve q];simp only[W0,beq_iff_eq]at a;let(((rfl,r),m),l):=a;let(L,g,b):=uK c r;let(t,j,i):=x.ok c l;show#[_,Fp j (Uh m),A0 g b i]
abbrev Us(lv:Nat)(C:Str)(b:G Str)(n:Nat)(F:fH):Fd:=λP w K a base=>xE P w K a base (L4.lS P w) lv C b (kB K n F)
class FKE (T:G Fd) (C:Str) (F:fH) (n:Nat) where
 i:Nat
 lv:Nat
 ps:G Str
 h:T[i]?=M (Us lv C ps n F)
noncomputable instance{C:Str}[o:FKE T C F n][x:CE T (es a)][u:CA T (as b)]:CE T (es (Dv C F n (ai a b))) where
 chk Γ e:=Γ.rz&&(Γ.M.cl.lookup C).isSome&&(RY Γ o.i (o.lv+1) C e).any λy=>CK.chk T PA (as (ai a b)) Γ (y.1::y.2.1)
 ok c h:=by simp only[W0]at h;let(L,l):=YI.mp h.1.2;let(y,q,p):=aY h.2;let(rfl,g,i,j,f):=rA q;let(w,v,_):=n9 c g;let(t,r,m):=CK.ok c p;show#[_,N5 (c.fs _ _ i o.h) (F5 c h.1.1) c.rm r j w v (dR f) (im f),Qg (c.md.cl _ _ l) m]
abbrev VZ(lv:Nat)(x f:Str):Fd:=λP w K b base=>∃(C B fI:Xa) (e:Obj) (a:Yj) (g:G Str),L9.XC K C B fI/\K.lookup fI=M e/\Zj K (.ref fI)=S/\FnOk P w K b base kQ lv fI a g (L9.uj C f)/\Binds K a g []/\XJ K Xy x=M (M (.ref C))/\b x=M (.ref C)
class FX (T:G Fd) (x f:Str) where
 i:Nat
 lv:Nat
 h:T[i]?=M (VZ lv x f)
noncomputable instance{k f:Str}[o:FX T k f][x:CE T (es a)]:CU T (cU (nr k f a)) where
 chk i s:=i.rz&&(TH s).any λe=>(RY i o.i (o.lv+1) k e).any λy=>y.2.1.isEmpty&&x.chk i y.1
 ok {i X E s} c h:=by rw[W0]at h;let(S,P):=h;let(e,q,O):=aY P;let(_,rfl):=LW q;let((e0,l,p1,p2),w,b):=aY O;let(rfl,g,hi,K,n):=rA w;simp only[W0,X7]at b;let(rfl,b):=b;let(v,Y,_):=n9 c (x:=k) g;let(C,B,fI,oI,fdI,ps,L,H,I,FI,bI,F,G):=c.fs _ _ hi o.h;let(t,u,M):=x.ok c b;let r:=c.rm.mono K;let(N,p,j,f,cd,A,m,s0,H0,e):=c.px S;show#[_,?_,zJ F M];rw[e]at v u r⊢;show L9.Dn L H I FI bI r v G (cj u gy (dR n)) Y (dR n) (im n)
def Nj{P:Xx}{w:XU}{K:CL}{q:Str->I W2}{base:Heap}{f:Xa}{fd:Yj}{M:Md}{a x:Str}{N d:G Str}{k n top:Nat}{st:YQ}{g:dH}{e:fH}{TT:Xa}{o:Array W2}[c:CS T (cU g)](j:adq K q M)(fs:∀i fd,i<top->T[i]?=cL fd->fd P w K q base)(F:ads K x a st f fd TT o)(h:cw T (cU g) M N d st k top W3=W3)(r:d.length=n:=by rfl)(m:e=cI N.length g:=by rfl):FnOk P w K q base (L4.lS P w) (k+1) f fd d (kB K n e):=by let h:=(W0 _ _).mp h;let S:=uh h.1;show S7 F S r W m λp A b s H E l=>c.ok (V7 j fs S l) h.2
end CC
set_option warn.classDefReducibility false
namespace CC
open PySem L2 L3 L10
variable{T:bg Fd}{A B C J:Jd TE}{U Z:Jd TA}{Q R:Jd TT}
abbrev U8(lv:Nat)(x f g:Str):Fd:=λP w K b base=>∃(C B fI:Xa) (e:Obj) (a:Yj) (h:G Str),L9.XC K C B fI/\K.lookup fI=M e/\Zj K (.ref fI)=S/\FnOk P w K b base kQ lv fI a h (L9.Iv C f g)/\Binds K a h []/\XJ K Xy x=M (M (.ref C))/\b x=M (.ref C)
class FX2 (T:G Fd) (x f g:Str) where
 i:Nat
 lv:Nat
 h:T[i]?=M (U8 lv x f g)
end CC
namespace M02
inductive Con(E:G (Nat×Nat))(r0:Nat):Bool->Nat->Prop
 |base:Con E r0 S r0
 |col {r c:Nat}:Con E r0 S r->(r,c)∈E->Con E r0 R c
 |row {r c:Nat}:Con E r0 R c->(r,c)∈E->Con E r0 S r
def has(n c:Nat):Prop:=n.testBit c=S
structure Nums(E:G (Nat×Nat))(R C:Nat)(ns:G Nat):Prop where
 len:ns.length=R
 lt:∀n∈ns,n<2^C
 own:∀r c,(r,c)∈E->has (ns.getD r 0) c
 snd:∀r,r<R->∀c,has (ns.getD r 0) c->Con E r W7 c
abbrev NF:=G Nat×G Nat
structure aqE(E:G (Nat×Nat))(r0:Nat)(s:NF):Prop where
 a:r0∈s.1
 n:∀x∈s.1,Con E r0 S x
 f:∀x∈s.2,Con E r0 R x
 d:s.2.Nodup
 d1:s.1.Nodup
structure apS(R C:Nat)(ss:G (Nat×Nat)):Prop where
 r1:1<=R
 r6:R<=6
 c1:1<=C
 c6:C<=6
 l1:1<=ss.length
 l12:ss.length<=12
 nd:ss.Nodup
 inn:∀s∈ss,s.1<R/\s.2<C
end M02
local macro_rules(kind:=«term{_}»)|`({$a})=>`(L3.aa $a L3.am)|`({$a,$b})=>`(L3.aa $a (L3.aa $b L3.am))|`({$a,$b,$c})=>`(L3.aa $a (L3.aa $b (L3.aa $c L3.am)))|`({$a,$b,$c,$d})=>`(L3.aa $a (L3.aa $b (L3.aa $c (L3.aa $d L3.am))))
local macro_rules|`(~~~$n)=>`(L3.pC (.int $n))
namespace STP
open PySem L2 L3
def gX:FS:=(bM (nk (az (aA lJ (aA bf (ad 0) (~~~2)) (pC .none))) (dA (aA bf (ad 0) (~~~2))) eO)
 (dA (hG (L10.Bh 0) {dQ 2 [] (iW (aA bf (ad 0) (~~~0))) (gT 2 (Cf (gN 0) (Cf (gN 1) N4))) (az (aA cK (aA bf (ad 1) (~~~0)) (pC (.str "layer")))) (aA bf (ad 1) (~~~1))})))
def dG:FN:=fD 1 gX
def fZ:FS:=(bM (dX (aA bf (aA bf (aA bf (ad 0) (~~~1)) (ad 1)) (ad 2)) (gN 3))
 (bM (nk (az (aA cK (aA bf (ad 3) (~~~0)) (pC (.str "below")))) (dA (aA bf (aA bf (aA bf (ad 0) (~~~1)) (~~~0)) (ad 2))) eO)
 (dA (ad 3))))
def iy:FN:=fD 4 fZ
def eA:FS:=(dA (dQ 1 [1] (iW (aA bf (ad 0) (~~~2))) (gN 0) (az (hG C6 {dQ 1 [0] (iW (ad 1)) (gN 0) cS (aA IK (ad 0) (aA bf (ad 1) (~~~0)))})) (ad 0)))
def bz:FN:=fD 2 eA
def eU:FS:=(bM (sL (iW (aA bf (ad 0) (~~~2))) (gN 2) (nk (az (aA cK (hG sH {aA bf (ad 2) (~~~0)}) (hG L9.fM {ad 1}))) (dA (aA bO (dC {aU {pC (.str "letter"),aA bf (ad 2) (~~~1)}}) (aA iL (dC {pC (.tuple [(.str "none")])}) (aA sO (hG dY {ad 1}) (~~~1))))) eO))
 (dA (dQ 1 [0] (iW (ad 1)) (gN 0) cS (aA bf (aA bf (aA bf (ad 1) (~~~1)) (~~~0)) (ad 0)))))
def eX:FN:=fD 3 eU
open L10
def eG:dH:=(aC (eR "Hand" "bed" (aq 0) (ae (ad 1)))
 (aC (eR "Hand" "acts" (aq 0) (sW (ae (aA bf (ad 2) (~~~0)))))
 (aC (eR "Hand" "waiting" (aq 0) (ae (aA bf (ad 2) (~~~1))))
 (aC (eR "Hand" "once" (aq 0) (ae (aA bf (ad 2) (~~~2))))
 (eR "Hand" "sent" (aq 0) (ae (dC am)))))))
def de:fH:=cI 3 eG
def fJ:dH:=(gw (mF (ai (y1 lu (ai (oK 1 [0] (gB (ri (aV "Hand" "acts" (aq 0)))) (dZ 0) oW (mF (ai (ae (ad 0)) (ai (rF (aV "Hand" "acts" (aq 1)) (ae (ad 0))) aI)))) aI)) (ai (aV "Hand" "waiting" (aq 0)) (ai (aV "Hand" "once" (aq 0)) aI)))))
def bB:fH:=cI 1 fJ
def dj:dH:=(gw (x3 (jv lJ (aV "Hand" "waiting" (aq 0)) (ae (pC .none))) (jv IK (ae (ad 1)) (i7 (aV "Hand" "waiting" (aq 0)) (ae (~~~0))))))
def bX:fH:=cI 2 dj
def eY:dH:=(gw (jv IK (ae (ad 1)) (wO (aV "Hand" "acts" (aq 0)))))
def bG:fH:=cI 2 eY
def ib:dH:=(aC (bT (lz (bp (az (aA cK (aA bf (ad 2) (~~~0)) (pC (.str "letter"))))) (p9 (aW (aM "Hand" "has_act" bG 2 (aq 0) (ai (ae (ad 2)) aI))))) (bv (lY (aV "Hand" "sent" (aq 0)) (ae (aU {aA bf (ad 2) (~~~1),pC (.str "down")})))) bP)
 (tP (aV "Hand" "acts" (aq 0)) (ae (ad 1)) (ae (ad 2))))
def bu:fH:=cI 3 ib
def ku:dH:=(aC (ce (sZ (aV "Hand" "acts" (aq 0)) (ae (ad 1))) (dZ 2))
 (bT (lz (bp (az (aA cK (aA bf (ad 2) (~~~0)) (pC (.str "letter"))))) (p9 (aW (aM "Hand" "has_act" bG 2 (aq 0) (ai (ae (ad 2)) aI))))) (bv (lY (aV "Hand" "sent" (aq 0)) (ae (aU {aA bf (ad 2) (~~~1),pC (.str "up")})))) bP))
def iQ:fH:=cI 3 ku
def fV:dH:=(aC (ce (i7 (aV "Hand" "waiting" (aq 0)) (ae (~~~0))) (dZ 1))
 (aC (ce (i7 (aV "Hand" "waiting" (aq 0)) (ae (~~~2))) (dZ 2))
 (aC (eR "Hand" "waiting" (aq 0) (ae (pC .none)))
 (aC (ce (sB (DZ (bp (az (aA cK (ad 2) (pC (.tuple [(.str "chord")]))))) (hJ eX 2 (ai (aV "Hand" "bed" (aq 0)) (ai (ae (ad 1)) aI))) (ae (dC {aU {pC (.str "layer"),aA bf (ad 2) (~~~2)}})))) (dZ 3))
 (sC (mZ (C2 {ad 1,ad 3})) (D3 2 (jF (dZ 4) (jF (dZ 5) vx))) (bv (aM "Hand" "come" bu 3 (aq 0) (ai (ae (ad 4)) (ai (ae (ad 5)) aI)))))))))
def cG:fH:=cI 6 fV
def cW:dH:=(aC (bT (wf (aW (jv oj (aV "Hand" "waiting" (aq 0)) (ae (pC .none)))) (wf (aW (jv pO (i7 (aV "Hand" "waiting" (aq 0)) (ae (~~~2))) (ae (pC (.tuple [(.str "chord")]))))) (aW (jv pO (hJ dG 1 (ai (aM "Hand" "stands" bB 1 (aq 0) aI) aI)) (ae (~~~0)))))) (gw (ae (pC (.bool R)))) bP)
 (gw (jv pO (hJ bz 2 (ai (aV "Hand" "bed" (aq 0)) (ai (jv bO (i7 (aV "Hand" "waiting" (aq 0)) (ae (~~~0))) (ae (aU {ad 1}))) aI))) (ae (dC am)))))
def cX:fH:=cI 2 cW
def cN:dH:=(aC (ce (jv bO (i7 (aV "Hand" "waiting" (aq 0)) (ae (~~~0))) (ae (aU {ad 1}))) (dZ 2))
 (aC (eR "Hand" "waiting" (aq 0) (mF (ai (ae (ad 2)) (ai (i7 (aV "Hand" "waiting" (aq 0)) (ae (~~~1))) (ai (ae (pC (.tuple [(.str "chord")]))) aI)))))
 (bT (aW (jv cK (oK 1 [] (gB (hJ bz 2 (ai (aV "Hand" "bed" (aq 0)) (ai (ae (ad 2)) aI)))) (dZ 0) oW (ae (hG dY {aA bf (ad 0) (~~~0)}))) (ae (dC {hG dY {ad 2}})))) (bv (aM "Hand" "decide" cG 1 (aq 0) aI)) bP)))
def cP:fH:=cI 3 cN
def gH:dH:=(aC (ce (hJ dG 1 (ai (aM "Hand" "stands" bB 1 (aq 0) aI) aI)) (dZ 2))
 (aC (ce (hJ iy 3 (ai (aV "Hand" "bed" (aq 0)) (ai (ae (ad 2)) (ai (ae (ad 1)) aI)))) (dZ 3))
 (aC (ce (ae (aA bf (ad 3) (~~~0))) (dZ 4))
 (aC (bT (bp (az (aA vG (ad 4) (aU {pC (.str "layer"),pC (.str "once")})))) (eR "Hand" "once" (aq 0) (ae (pC .none))) bP)
 (bT (bp (az (aA cK (ad 4) (pC (.str "tap"))))) (eR "Hand" "waiting" (aq 0) (ae (aU {aU {ad 1},~~~0,ad 3}))) (bT (lz (bp (az (aA cK (ad 4) (pC (.str "letter"))))) (lz (bp (az (aA cK (ad 2) (~~~0)))) (aW (jv pO (hJ bz 2 (ai (aV "Hand" "bed" (aq 0)) (ai (ae (aU {ad 1})) aI))) (ae (dC am)))))) (eR "Hand" "waiting" (aq 0) (ae (aU {aU {ad 1},~~~0,pC (.tuple [(.str "chord")])}))) (bT (bp (az (aA cK (ad 4) (pC (.str "once"))))) (aC (bv (aM "Hand" "come" bu 3 (aq 0) (ai (ae (ad 1)) (ai (ae (pC (.tuple [(.str "none")]))) aI))))
 (eR "Hand" "once" (aq 0) (ae (aA bf (ad 3) (~~~1))))) (bv (aM "Hand" "come" bu 3 (aq 0) (ai (ae (ad 1)) (ai (ae (ad 3)) aI)))))))))))
def fy:fH:=cI 5 gH
def gG:dH:=(aC (bT (wf (aW (sN R (ae (ad 1)) (aV "Hand" "acts" (aq 0)))) (aW (aM "Hand" "is_waiting" bX 2 (aq 0) (ai (ae (ad 1)) aI)))) rU bP)
 (aC (bT (aW (aM "Hand" "makes_chord" cX 2 (aq 0) (ai (ae (ad 1)) aI))) (aC (bv (aM "Hand" "put_to_chord" cP 2 (aq 0) (ai (ae (ad 1)) aI)))
 rU) bP)
 (aC (bT (aW (jv lJ (aV "Hand" "waiting" (aq 0)) (ae (pC .none)))) (bv (aM "Hand" "decide" cG 1 (aq 0) aI)) bP)
 (bv (aM "Hand" "begin" fy 2 (aq 0) (ai (ae (ad 1)) aI))))))
def gK:fH:=cI 2 gG
def fO:dH:=(aC (ce (i7 (aV "Hand" "waiting" (aq 0)) (ae (~~~2))) (dZ 2))
 (bT (bp (az (aA cK (ad 2) (pC (.tuple [(.str "chord")]))))) (bv (aM "Hand" "decide" cG 1 (aq 0) aI)) (aC (eR "Hand" "waiting" (aq 0) (ae (pC .none)))
 (bv (aM "Hand" "come" bu 3 (aq 0) (ai (ae (ad 1)) (ai (ae (aU {pC (.str "letter"),aA bf (ad 2) (~~~1)})) aI)))))))
def fT:fH:=cI 3 fO
def ig:dH:=(aC (bT (aW (aM "Hand" "is_waiting" bX 2 (aq 0) (ai (ae (ad 1)) aI))) (bv (aM "Hand" "settle" fT 2 (aq 0) (ai (ae (ad 1)) aI))) bP)
 (bT (aW (sN R (ae (ad 1)) (aV "Hand" "acts" (aq 0)))) (bv (aM "Hand" "go" iQ 2 (aq 0) (ai (ae (ad 1)) aI))) bP))
def iq:fH:=cI 2 ig
def eV:dH:=(aC (bT (aW (jv oj (aV "Hand" "waiting" (aq 0)) (ae (pC .none)))) rU bP)
 (aC (ce (jv bO (i7 (aV "Hand" "waiting" (aq 0)) (ae (~~~1))) (ae (~~~1))) (dZ 1))
 (aC (eR "Hand" "waiting" (aq 0) (mF (ai (i7 (aV "Hand" "waiting" (aq 0)) (ae (~~~0))) (ai (ae (ad 1)) (ai (i7 (aV "Hand" "waiting" (aq 0)) (ae (~~~2))) aI)))))
 (bT (aW (jv cK (ae (ad 1)) (i7 (aV "Hand" "bed" (aq 0)) (ae (~~~3))))) (bv (aM "Hand" "decide" cG 1 (aq 0) aI)) bP))))
def fA:fH:=cI 2 eV
def uH:dH:=(aC (ce (rR "Hand" de 3 (ai (ae (ad 0)) (ai (ae (ad 1)) aI))) (dZ 3))
 (aC (bT (bp (az (aA cK (aA bf (ad 2) (~~~0)) (pC (.str "turn"))))) (bv (aM "Hand" "wait_on" fA 1 (aq 3) aI)) (bT (bp (az (aA cK (aA bf (ad 2) (~~~0)) (pC (.str "down"))))) (bv (aM "Hand" "press" gK 2 (aq 3) (ai (ae (aA bf (ad 2) (~~~1))) aI))) (bv (aM "Hand" "lift" iq 2 (aq 3) (ai (ae (aA bf (ad 2) (~~~1))) aI)))))
 (gw (mF (ai (aV "Hand" "sent" (aq 3)) (ai (aM "Hand" "stands" bB 1 (aq 3) aI) aI))))))
def lj:fH:=cI 4 uH
end STP
local macro_rules| `(tactic|ext:4)=> `(tactic|·first|((simp only[aeP,aeQ]);rfl)|rfl)| `(tactic|ext:3)=> `(tactic|first|with_reducible assumption|change L3.eW _ _|change L3.zr _ _|change L3.nX _ _|change L3.aiM _ _|change L3.wP _ _|change L3.Be _ _|change L3.zB _ _|change L3.alI _ _|change L3.jr _ _|change L3.wa _ _|change L3.afk _ _|change L3.aff _ _|change L3.ajh _ _|change L3.aj8 _ _|change L3.vE _ _|change L3.aj4 _ _|change L3.ajg _ _|change L3.aiG _ _|change L3.vn _ _|change L3.aik _ _|change L3.aif _ _|change L3.ajk _ _|change L3.al0 _ _|change L3.iH|change L3.jJ|change L3.nO|change L3.aqp|change L3.arh|change L3.amD|change L3.jX _|change L3.iP _|(with_reducible rfl))| `(tactic|ext:0)=> `(tactic|first
 |change L3.aw
 |((with_reducible apply L3.af);rfl)
 |((with_reducible apply L3.lw);rfl)
 |change L3.av
 |change L3.rC
 |((with_reducible apply L3.aD);(·ext:0);(·ext:0);(·rfl);(·rfl);(·ext:3))
 |((with_reducible apply L3.amR);(·ext:0);(·rfl);(·rfl))
 |((with_reducible apply L3.ah);(·ext:0);(·ext:0))
 |((with_reducible apply L3.bh);(·ext:0);(·rfl))
 |((with_reducible apply L3.fY);(·ext:0);(·rfl);(·first|ext:3|rfl))
 |((with_reducible apply L3.cg);(·ext:0);(·rfl);(·rfl);(·with_reducible assumption))
 |((with_reducible apply L3.bq);(·ext:0);(·rfl);(·exact W8 rfl))
 |((with_reducible apply L3.lW);(·ext:0);(·rfl);(·exact W8 rfl))
 |((with_reducible apply L3.DY);(·ext:0);(·rfl);(·rfl))
 |((with_reducible apply L3.gS);(·ext:0);(·rfl))
 |((with_reducible apply L3.xQ);(·ext:0);(·ext:0);(·ext:0);(·rfl);(·first|with_reducible assumption|rfl))
 |((with_reducible apply L3.BU);(·ext:0))
 |((with_reducible apply L3.AR);(·ext:0);(·intro _;ext:0))
 |((with_reducible apply L3.ak7);(·ext:0);(·intro _;ext:0))
 |((with_reducible apply L3.ajW);(·ext:0))
 |((with_reducible apply L3.af8);(·ext:0);(·intro _;ext:0))
 |((with_reducible apply L3.agZ);(·ext:0);(·intro _;ext:0))
 |((with_reducible apply L3.JZ);(·ext:0);(·rfl);(·first|with_reducible assumption|rfl))
 |((with_reducible apply L3.gI);(·ext:0);(·rfl);(·rfl))
 |((with_reducible apply L3.aiu);(·ext:0);(·rfl);(·rfl))
 |((with_reducible apply L3.Ff);(·rfl);(·ext:0);(·rfl);(·rfl);(·first|with_reducible assumption|(simp only[Y9,Xn,L3.dr] at*;ext));ext:4)
 |((with_reducible apply L3.aln);(·rfl);(·ext:0);(·rfl);(·rfl);(·with_reducible assumption);(·with_reducible assumption);(·with_reducible assumption);ext:4)
 |((with_reducible apply L3.yH);(·ext:0);(·rfl);ext:4)
 |((with_reducible apply L3.AX);(·ext:0))
 |((with_reducible apply L3.uZ);(·ext:0);(·rfl)))
local macro_rules| `(tactic|ext:7)=> `(tactic|first
 |((with_reducible apply L3.alQ);(·ext:0);(·ext:0);(·rfl);(·rfl);(·ext:3))
 |((with_reducible apply L3.aj5);(·ext:0);(·rfl);(·rfl);(·with_reducible assumption))
 |((with_reducible apply L3.alU);(·ext:0);(·rfl);(·first|ext:3|rfl))
 |ext:0)
local macro_rules| `(tactic|ext:0)=> `(tactic|first
 |with_reducible assumption
 |((with_reducible apply L3.af8);(·ext:0);(·intro _;ext:7))
 |((with_reducible apply L3.agZ);(·ext:0);(·intro _;ext:7))
 |((with_reducible apply L3.aie);(·ext:0);(·ext:0);(·ext:0);(·rfl);(·rfl);(·rfl);(·ext:3);(·intro _;ext:3))
 |((with_reducible apply L3.Bq);(·ext:0);(·rfl);(·rfl);(·rfl)))
local macro_rules| `(tactic|ext:1)=> `(tactic|first
 |((with_reducible apply L3.cz);(·ext:0);(·rfl);ext:4;try ext:1)
 |((with_reducible apply L3.ajE);(·ext:0);try ext:1)
 |((with_reducible apply L3.al3);try ext:1)
 |((with_reducible apply L3.fW);try ext:1)
 |((with_reducible apply L3.ja);(·ext:0);(·rfl))
 |((with_reducible apply L3.oU);(·ext:0))
 |((with_reducible apply L3.alv);(·ext:0);(·rfl);ext:4)
 |((with_reducible apply L3.zY);(·ext:0))
 |((with_reducible apply L3.dU);(·ext:0);(·rfl))
 |((with_reducible apply L3.Oe);(·ext:0))
 |(with_reducible apply L3.Ao))
namespace STP
open PySem L2 L3
def dL(c:Nat):Str:=#[#v[97+c]]
inductive Mn where
 |XG (c:Nat)
 |Zh (n:Int)
 |tap (c:Nat) (n:Int)
 |once (n:Int)
 |none
 |below
 deriving DecidableEq
def mD:Mn->D
 |.XG c=>.tuple [.str "letter",.str (dL c)]
 |.Zh n=>.tuple [.str "layer",.int n]
 |.tap c n=>.tuple [.str "tap",.str (dL c),.int n]
 |.once n=>.tuple [.str "once",.int n]
 |.none=>.tuple [.str "none"]
 |.below=>.tuple [.str "below"]
def VM(L a:Int):Mn->Prop
 |.XG c=>c<26
 |.Zh n=>1<=n/\n<a
 |.tap c n=>c<26/\1<=n/\n<a
 |.once n=>1<=n/\n<a
 |.none=>True
 |.below=>L≠0
def Mn.isL:Mn->Bool
 |.XG _=>S
 |_=>R
structure Bd where
 n:Int
 ls:G (G Mn)
 cs:G (G Nat×Nat)
 wt:Int
def j7(l:G Mn):D:=.tuple (l.map mD)
def cw(c:G Nat×Nat):D:=.tuple [.tuple (aZ c.1),.str (dL c.2)]
def bD(b:Bd):D:=.tuple [.int b.n,.tuple (b.ls.map j7),.tuple (b.cs.map cw),.int b.wt]
def VL(n a:Int)(b:G (G Mn)):Prop:=∀(i:Nat) l,b[i]?=M l->(l.length:Int)=n/\∀m∈l,VM i a m
def pz(l0:G Mn)(k:Nat):Bool:=(l0[k]?.map Mn.isL).getD R
def VC(l0:G Mn)(c:G Nat×Nat):Prop:=2<=c.1.length/\c.1.Pairwise (·<·)/\(∀k∈c.1,pz l0 k=S)/\c.2<26
structure VB(b:Bd):Prop where
 n1:1<=b.n
 n5:b.n<=5
 l1:1<=b.ls.length
 l3:b.ls.length<=3
 vl:VL b.n b.ls.length b.ls
 c4:b.cs.length<=4
 vc:∀c∈b.cs,VC (b.ls.headD []) c
 cu:b.cs.Pairwise λa c=>a.1≠c.1
 w1:1<=b.wt
 w4:b.wt<=4
def wn:Mn->Nat
 |.XG _=>0
 |.Zh _=>1
 |.tap _ _=>2
 |.once _=>3
 |.none=>4
 |.below=>5
def ws:Nat->Str
 |0=> "letter"
 |1=> "layer"
 |2=> "tap"
 |3=> "once"
 |4=> "none"
 |_=> "below"
def wd(m:Mn):Str:=ws (wn m)
def pf(m:Mn):wn m<6:=by ext m<;>show W8 W
def oJ(m:Mn):bf (mD m) (.int 0)=M (.fz (.str (wd m))):=by ext m<;>show iH
theorem Nk(m:Mn):Xe.strOk (wd m)=S:=(by left:∀i,i<6->Xe.strOk (ws i)=S) _ (pf m)
def wj:∀i,i<6->∀j,j<6->(ws i==ws j)=decide (i=j):=by left
def wM(m:Mn)(j:Nat)(a:j<6):cK (.str (wd m)) (.str (ws j))=M (.fz (.bool (decide (wn m=j)))):=by rw[RD (Nk m) ((by left:∀i,i<6->Xe.strOk (ws i)=S) j a)];ext wd;rw[wj _ (pf m) _ a]
def Mn.isB:Mn->Bool
 |.below=>S
 |_=>R
def Mn.aeH:Mn->Bool
 |.Zh _=>S
 |_=>R
def Mn.isT:Mn->Bool
 |.tap _ _=>S
 |_=>R
def Mn.isO:Mn->Bool
 |.once _=>S
 |_=>R
theorem kF(m:Mn):cK (.str (wd m)) (.str "letter")=M (.fz (.bool m.isL)):=(wM m 0 ()).trans (by ext m<;>rfl)
theorem Ft(m:Mn):cK (.str (wd m)) (.str "below")=M (.fz (.bool m.isB)):=(wM m 5 ()).trans (by ext m<;>rfl)
theorem Fo(m:Mn):cK (.str (wd m)) (.str "layer")=M (.fz (.bool m.aeH)):=(wM m 1 ()).trans (by ext m<;>rfl)
theorem Qc(m:Mn):cK (.str (wd m)) (.str "tap")=M (.fz (.bool m.isT)):=(wM m 2 ()).trans (by ext m<;>rfl)
theorem MA(m:Mn):cK (.str (wd m)) (.str "once")=M (.fz (.bool m.isO)):=(wM m 3 ()).trans (by ext m<;>rfl)
def Tz(m:Mn):vG (.str (wd m)) (.tuple [.str "layer",.str "once"])=M (.fz (.bool (!(m.aeH||m.isO)))):=by
 let h:∀a:Str,Xe.strOk a=S->vG (.str a) (.tuple [.str "layer",.str "once"])=M (.fz (.bool (!(("layer":Str)==a||("once":Str)==a)))):=λa b=>by show(if(kq (.str a)&&(Xe.strOk "layer"&&(Xe.strOk "once"&&S)))=S then M (RV.fz (.bool (!(Xe.eqv (.str "layer") (.str a)||(Xe.eqv (.str "once") (.str a)||false)))))else P)=_;rw[show kq (.str a)=S by ext kq;rw[show Xe.canLay0 (.str a)=S from b];rfl,show Xe.strOk "layer"=S by left,show Xe.strOk "once"=S by left,agE];rfl
 rw[h _ (Nk m)];ext wd;rw[show(("layer":Str)==ws (wn m))=_ from wj 1 () _ (pf m),show(("once":Str)==ws (wn m))=_ from wj 3 () _ (pf m)];ext m<;>rfl
def LB:Mn->Prop
 |.XG c=>c<26
 |.tap c _=>c<26
 |_=>True
def VM.lb(h:VM L nL m):LB m:=by
 cases m with
 |XG c=>show h
 |tap c n=>show h.1
 |_=>trivial
def qh(h:c<26):Xe.strOk (dL c)=S:=by show((#v[97+c]:Array Nat).all λc=>decide (c<0x110000))=S;simp;ext
def u9(h:dL c=dL d):c=d:=by
 let:(97+c)=97+d:=by let a:=dw (λz:Str=>z.cps.toList) h;show List.head_eq_of_cons_eq a
 ext
def Fe(h:LB m):Xe.canLay0 (mD m)=S:=by
 cases m with
 |XG c=>show(Xe.strOk "letter"&&(Xe.strOk (dL c)&&S))=S;rw[qh h,show Xe.strOk "letter"=S by left];rfl
 |Zh n=>show(Xe.strOk "layer"&&(S&&S))=S;left
 |tap c n=>show(Xe.strOk "tap"&&(Xe.strOk (dL c)&&(S&&S)))=S;rw[qh h,show Xe.strOk "tap"=S by left];rfl
 |once n=>show(Xe.strOk "once"&&(S&&S))=S;left
 |none=>show(Xe.strOk "none"&&S)=S;left
 |below=>show(Xe.strOk "below"&&S)=S;left
def EX(h:LB m):kq (mD m)=S:=by ext kq;rw[Fe h];ext m<;>rfl
def mR:Mn->G D
 |.XG c=>[.str (dL c)]
 |.Zh n=>[.int n]
 |.tap c n=>[.str (dL c),.int n]
 |.once n=>[.int n]
 |.none=>[]
 |.below=>[]
def M6(m:Mn):mD m=.tuple (.str (wd m)::mR m):=by ext m<;>rfl
def Se(a b:Mn):decide (wd a=wd b)=decide (wn a=wn b):=by
 let h:=wj _ (pf a) _ (pf b)
 assumption
theorem AB(c d:Nat):decide (dL c=dL d)=decide (c=d):=decide_eq_decide.mpr #[u9,λh=>by rw[h]]
def Qd(a b:Mn)(h:wn a=wn b):Xe.eqvAll (mR a) (mR b)=decide (a=b):=by
 ext a<;>ext b<;>first|ext h|skip
 .show(decide (dL _=dL _)&&S)=_;rw[AB,abB];show decide_eq_decide.mpr #[λh=>by rw[h],λh=>by ext h;rfl]
 .show(decide (_=_)&&S)=_;rw[abB];show decide_eq_decide.mpr #[λh=>by rw[h],λh=>by ext h;rfl]
 .show(decide (dL _=dL _)&&(decide (_=_)&&S))=_;rw[AB,abB,<-Bool.decide_and];show decide_eq_decide.mpr #[λh=>by rw[h.1,h.2],λh=>by ext h;show#[W,W]]
 .show(decide (_=_)&&S)=_;rw[abB];show decide_eq_decide.mpr #[λh=>by rw[h],λh=>by ext h;rfl]
 .rfl
 .rfl
def P3(a b:Mn):Xe.eqv (mD a) (mD b)=decide (a=b):=by
 rw[M6,M6];show(decide (wd a=wd b)&&Xe.eqvAll (mR a) (mR b))=_;rw[Se];by_cases h:wn a=wn b
 .rw[a5 h,aby,Qd a b h]
 .rw[a6 h,acH,a6 λz=>h (by rw[z])]
theorem AQ:∀{l:G Mn},(∀m∈l,LB m)->Xe.canLayAll0 (l.map mD)=S
 |[],_=>rfl
 |m::r,h=>by show(Xe.canLay0 (mD m)&&Xe.canLayAll0 (r.map mD))=S;rw[Fe (h m Xb),AQ λx a=>h x (Xf _ a)];rfl
theorem zO(a:Mn):∀l:G Mn,((l.map mD).any λe=>Xe.eqv e (mD a))=decide (a∈l)
 |[]=>rfl
 |m::r=>by
  rw[Xt,aaa,zO a r,P3,<-Bool.decide_or]
  grind
def JD{l:G Mn}(c:LB a)(b:∀m∈l,LB m):IK (mD a) (.list (l.map mD))=M (.fz (.bool (decide (a∈l)))):=by show(if(kq (mD a)&&Xe.canLayAll0 (l.map mD))=S then _ else _)=_;rw[EX c,AQ b,Y1,ax W,zO]
def vQ(e:α->D)(g:α->bt D)(I:aQ->Prop)(xs:G α)(p:I d)(i:xs.length<=1000)(b:∀x∈xs,∀d,I d->∃c,jI gt C fe (e x) d=.ok (g x,c)/\I c):jD (cV gt C fe (xs.map e) d [])=.ok (xs.filterMap g):=by
 let h:∀(xs:G α) (a:G D) (d:aQ),I d->a.length+xs.length<=1000->(∀x∈xs,∀d,I d->∃c,jI gt C fe (e x) d=.ok (g x,c)/\I c)->cV gt C fe (xs.map e) d a=.ok (a++xs.filterMap g):=by
  intro xs
  induction xs with
  |nil=>intro a d _ _ _;show Res.ok a=_;simp_all
  |cons x r j=>
   intro a d m i b;rw[Xn]at i;let(c,o,n):=b x Xb d m;rw[Xt,qM o ()];let f:(a++(g x).toList).length+r.length<=1000:=by
    rw[Xi];cases g x with
    |none=>rw[aei,Y9];ext
    |some y=>rw[Option.toList_some,Z4];ext
   rw[j _ c n f λy l=>b y (Xf _ l),X2];cases q:g x with
   |none=>rw[aaJ q];rfl
   |some y=>rw[aaK q];rfl
 rw[h xs [] d p (by simpa using i) b];rfl
def Az(a:cH o=o):cH (M (PV.fz d)::o)=M (.fz d)::o:=by show Hu _::cH o=_;rw[a];rfl
def wb{α:Type}{c:FT}{d:FE}{a:aQ}(e f:α->D)(p:α->Bool)(xs:G α)(j:xs.length<=1000)(m:cH a=a)(h:∀x∈xs,c (M (.fz (e x))::a)=.ok (p x,M (.fz (e x))::a))(l:∀x∈xs,p x=S->d (M (.fz (e x))::a)=.ok (.fz (f x),M (.fz (e x))::a)):jD (cV (gN 0) c d (xs.map e) (P::a) [])=.ok ((xs.filter p).map f):=by
 rw[vQ e (λx=>if p x=S then M (f x)else P) (λn=>∃o,n=o::a) xs #[P,W] j ?_]
 .congr 1
  clear j h l
  induction xs with
  |nil=>rfl
  |cons x r i=>
   cases q:p x with
   |true=>rw[aaK (b:=f x) (by rw[ax q]),adi q,i];rfl
   |false=>rw[aaJ (by rw[a4 (by rw[q];simp)]),adj (by rw[q];simp),i]
 .rintro x g n ⟨o,rfl⟩
  cases q:p x with
  |true=>show#[_,wT W ((h x g).trans (by rw[q])) (l x g q) W (Az m),_,W]
  |false=>show#[_,PZ W ((h x g).trans (by rw[q])) (Az m),_,W]
theorem zd(xs:G α):xs.filter (λ_=>S)=xs:=List.filter_eq_self.mpr λ_ _=>W
def jq{α:Type}(e f:α->D)(xs:G α)(b:xs.length<=1000)(h:cH o=o)(g:∀x∈xs,C (M (.fz (e x))::o)=.ok (.fz (f x),M (.fz (e x))::o)):jD (cV (gN 0) cS C (xs.map e) (P::o) [])=.ok (xs.map f):=by rw[wb e f (λ_=>S) xs b h (λ_ _=>W) λx a _=>g x a,zd]
theorem xM(p:α->Bool):∀l:G α,u8 (l.map λc=>Xe.bool (p c))=M (l.map p)
 |[]=>rfl
 |c::r=>by show(u8 (r.map λc=>Xe.bool (p c))).map (p c::·)=_;rw[xM p r];rfl
def He(p:α->Bool)(l:G α):C6 [.list (l.map λc=>Xe.bool (p c))]=M (.fz (.bool (l.all p))):=by show(u8 _).map (λbs=>RV.fz (.bool (bs.all id)))=_;rw[xM];simp_all
theorem qK:∀ns:G Int,n6 (ns.map Xe.int)=M ns
 |[]=>rfl
 |n::r=>by show(n6 (r.map Xe.int)).map (n::·)=_;rw[qK r];rfl
abbrev Ac:=Nat->I Mn
abbrev Wq:=I (G Nat×Int×I (Nat×Int))
structure Y5 where
 ac:Ac
 wt:Wq
 oc:I Int
def gv(ac:Ac):G (Nat×Mn):=(Xq 5).filterMap λk=>(ac k).map λa=>(k,a)
def pD(p:Nat×Mn):D:=.tuple [nd p.1,mD p.2]
def sR:I (Nat×Int)->D
 |some (c,n)=>mD (.tap c n)
 |none=>.tuple [.str "chord"]
def jA:Wq->D
 |some (b,a,w)=>.tuple [.tuple (aZ b),.int a,sR w]
 |none=>.none
def sK:I Int->D
 |some o=>.int o
 |none=>.none
def fP(s:Y5):D:=.tuple [.tuple ((gv s.ac).map pD),jA s.wt,sK s.oc]
inductive Evn where
 |down (k:Nat)
 |up (k:Nat)
 |turn
def eS:Evn->D
 |.down k=>.tuple [.str "down",nd k]
 |.up k=>.tuple [.str "up",nd k]
 |.turn=>.tuple [.str "turn",.int 0]
def eF:p∈gv ac↔p.1<5/\ac p.1=M p.2:=by
 ext gv;rw[aaq];constructor
 .rintro⟨k,e,b⟩
  cases q:ac k with
  |none=>simp_all
  |some a=>rw[q]at b;ext b;show#[Zf.mp e,q]
 .rintro⟨e,b⟩;show#[p.1,Zf.mpr e,by rw[b];rfl]
theorem uE(ac:Ac):(gv ac).length<=5:=List.length_filterMap_le _ _
def CP:Nat×Mn->I Int
 |(_,.Zh n)=>M n
 |_=>P
def wE(ac:Ac):Int:=(((gv ac).filterMap CP).foldl jC P).getD 0
def i6(ac:Ac):I Int->Int
 |some o=>o
 |none=>wE ac
def Gb(ac:Ac):jD (cV (gT 2 (Cf (gN 0) (Cf (gN 1) N4))) (az (aA cK (aA bf (ad 1) (~~~0)) (pC (.str "layer")))) (aA bf (ad 1) (~~~1)) ((gv ac).map pD) [P,P] [])=.ok (((gv ac).filterMap CP).map .int):=by
 rw[vQ pD (λp=>(CP p).map .int) (λg=>∃e b,g=[e,b]) (gv ac) #[P,P,W] (XX (uE ac) ()) ?_,List.map_filterMap];rintro⟨k,a⟩ _ g ⟨e,b,rfl⟩;let e1:=oJ a;let e2:=Fo a;let f:az (aA cK (aA bf (ad 1) (~~~0)) (pC (.str "layer"))) [M (.fz (nd k)),M (.fz (mD a))]=.ok (a.aeH,[M (.fz (nd k)),M (.fz (mD a))]):=by ext:0
 show#[[M (.fz (nd k)),M (.fz (mD a))],?_,_,_,W];cases a with
 |Zh n=>show wT W f (aD (af W) aw W W jJ) W W
 |_=>show PZ W f W
def wk(s:Y5):dG [fP s]=.ok (.fz (.int (i6 s.ac s.oc))):=by
 show jg W ?_;let e2:bf (fP s) (.int 2)=M (.fz (sK s.oc)):=nO;let e0:bf (fP s) (.int 0)=M (.fz (.tuple ((gv s.ac).map pD))):=iH;ext gX;cases q:s.oc with
 |some o=>
  rw[q]at e2;let e3:lJ (sK (M o)) .none=M (.fz (.bool S)):=W;ext:1
  .intro _;show ja (by ext:0) W W
  .intro h;ext h
 |none=>
  rw[q]at e2;let e3:lJ (sK P) .none=M (.fz (.bool R)):=W;ext:1
  .intro h;ext h
  .intro _;show fW (dU (fY (rv:=.fz (.int (wE s.ac))) (ah (cY (by ext:0) W (Gb s.ac)) av) W ?_) W W);show(n6 _).map _=_;rw[qK];rfl
def iZ(b:Bd)(L k:Nat):Mn:=((b.ls[L]?.getD [])[k]?).getD .none
def look(b:Bd)(L:Int)(k:Nat):Mn:=if(iZ b L.toNat k).isB=S then iZ b 0 k else iZ b L.toNat k
section
variable{b:Bd}(Z:VB b)
include Z
def Nt{L k:Nat}(a:L<b.ls.length)(e:(k:Int)<b.n):∃l,b.ls[L]?=M l/\l[k]?=M (iZ b L k):=by
 let g:=Z.vl L _ (Xp a);let f:k<(b.ls[L]).length:=by ext
 show#[_,Xp a,?_];ext iZ;simp_all
def yc{L k:Nat}(e:L<b.ls.length)(a:(k:Int)<b.n):VM L b.ls.length (iZ b L k):=by let(l,g,f):=Nt Z e a;show(Z.vl L l g).2 _ (XI f)
def HC{L k:Nat}(e:L<b.ls.length)(a:(k:Int)<b.n):∃d,bf (.tuple (b.ls.map j7)) (nd L)=M (.fz d)/\bf d (nd k)=M (.fz (mD (iZ b L k))):=by let(l,f,g):=Nt Z e a;show#[j7 l,Rm (by rw[Xj,f];rfl),Rm (by simp_all)]
def Mr{L:Int}{k:Nat}(i:0<=L)(h:L<b.ls.length)(e:(k:Int)<b.n):iy [bD b,.int L,nd k]=.ok (.fz (mD (look b L k))):=by
 obtain⟨n,rfl⟩:∃n:Nat,L=(n:Int):=#[L.toNat,by ext];let g:=Z.l1;let(d,e2,e3):=HC Z (L:=n) () e;let(f,e4,e5):=HC Z (L:=0) () e;let e1:bf (bD b) (.int 1)=M (.fz (.tuple (b.ls.map j7))):=jJ;let e6:=oJ (iZ b n k);let e7:=Ft (iZ b n k);let e8:bf (.tuple (b.ls.map j7)) (.int 0)=M (.fz f):=e4;let a:look b (n:Int) k=if(iZ b n k).isB=S then iZ b 0 k else iZ b n k:=W
 rw[a];generalize iZ b n k=m at e3 e6 e7 a;generalize iZ b 0 k=m0 at e5 a;show jg W ?_;ext fZ;ext:1
 .intro q;rw[ax q];show ja (by ext:0) W W
 .intro q;rw[a4 (by rw[q];simp)];show fW (dU (by ext:0) W W)
def vW{L:Int}{k:Nat}(g:0<=L)(i:L<b.ls.length)(f:(k:Int)<b.n):VM L b.ls.length (look b L k)/\look b L k≠.below:=by
 let h:=Z.l1;let a:=yc Z (L:=0) (k:=k) () f;let v:=yc Z (L:=L.toNat) (k:=k) () f;let e:iZ b 0 k≠.below:=λz=>by rw[z]at a;show a W
 rw[aeM g]at v;ext look;split
 .show#[?_,e]
  generalize iZ b 0 k=m at a e;cases m with
  |below=>show bb W e
  |_=>show a
 .rename_i q;show#[v,λz=>?_];rw[z]at q;show q W
omit Z in
theorem HU(ks:bg Nat)(a:ks.length<=5)(c:bg Nat×Nat):az (hG C6 {dQ 1 [0] (iW (ad 1)) (gN 0) cS (aA IK (ad 0) (aA bf (ad 1) (~~~0)))}) [cL (.fz (cw c)),cL (.fz (.tuple (aZ ks)))]=.ok (ks.all λk=>decide (k∈c.1),[cL (.fz (cw c)),cL (.fz (.tuple (aZ ks)))]):=by
 have e:jD (cV (gN 0) cS (aA IK (ad 0) (aA bf (ad 1) (~~~0))) (aZ ks) [Ld,cL (.fz (cw c))] [])=.ok (ks.map λk=>.bool (decide (k∈c.1))):=jq nd (λk=>.bool (decide (k∈c.1))) ks (by ext) rfl λk _=>by have e0:bf (cw c) (.int 0)=cL (.fz (.tuple (aZ c.1))):=iH;exact aD (rv:=.fz (.bool (decide (k∈c.1)))) (af rfl) (by ext:0) rfl rfl (vn _ _)
 exact bh (fY (rv:=.fz (.bool (ks.all λk=>decide (k∈c.1)))) (ds:=[.list (ks.map λk=>.bool (decide (k∈c.1)))]) (ah (cY (cs:=[cw c]) (ds:=aZ ks) (by ext:0) rfl e) av) rfl (He _ _)) rfl
def cQ(b:Bd)(a:G Nat):G (G Nat×Nat):=b.cs.filter λc=>a.all λk=>decide (k∈c.1)
def B0(a:o.length<=5):bz [bD b,.tuple (aZ o)]=.ok (.ow ((cQ b o).map cw)):=by let e2:bf (bD b) (.int 2)=M (.fz (.tuple (b.cs.map cw))):=nO;let e:=Z.c4;show jg W ?_;ext eA;show dU (cY (cs:=[.tuple (aZ o)]) (by ext:0) W (wb cw cw (λc=>o.all λk=>decide (k∈c.1)) b.cs () W (λc _=>HU o a c) λc _ _=>af W)) W W
def pp(a:G Nat):G Nat:=(jR (a.map aco)).map adB
omit Z in
theorem qO(ks:bg Nat):(pp ks).Perm ks:=by have h:=(eN (ks.map aco)).map adB;rw[XN]at h;exact h.trans (by rw[show(adB∘aco)=id from funext λx=>rfl,ah3])
omit Z in
theorem Jf(ks:bg Nat):(jR (ks.map aco)).map Xe.int=aZ (pp ks):=by unfold pp aZ;rw[XN];refine ZM λx a=>?_;obtain⟨n,_,rfl⟩:=Xv.mp ((eN _).mem_iff.mp a);rfl
omit Z in
theorem yR(ks:bg Nat):(pp ks).Pairwise (·<=·):=by
 have h:∀l:bg Int,l.Pairwise (·<=·)->(l.map adB).Pairwise (·<=·):=λl h=>by rw[aaC];exact h.imp λh=>by ext
 exact h _ (dP _)
omit Z in
theorem Kl(ks:bg Nat):(pp ks).length=ks.length:=(qO ks).length_eq
omit Z in
theorem xz{ks:bg Nat}(h:ks.length<64):L9.fM [.tuple (aZ ks)]=cL (.ow (aZ (pp ks))):=by
 have e:aZ ks=(ks.map aco).map Xe.int:=by rw[XN];rfl
 show(match n6 (aZ ks)with
  |some a=>if a.length<64 then cL (RV.ow ((jR a).map .int))else Ld
  |none=>Ld)=_
 rw[e,qK];dsimp only;rw[ax (by rw[W5];exact h),Jf]
def Fk(b:Bd)(a:G Nat):G Mn:=match b.cs.find? λc=>decide (c.1=pp a)with
 |some c=>.XG c.2::Xk (a.length - 1) .none
 |none=>a.map (iZ b 0)
omit Z in
omit Z in
theorem SX(n:Nat)(d:D):(Xk n [d]).flatten=Xk n d:=by
 induction n with
 |zero=>rfl
 |succ n a=>rw[Yp,Zb,a];rfl
def Ot{n:bg Nat}(H:1<=n.length)(G:n.length<=5)(C:∀k∈n,(k:Int)<b.n):eX [bD b,.tuple (aZ n)]=.ok (.ow ((Fk b n).map mD)):=by
 let e2:bf (bD b) (.int 2)=M (.fz (.tuple (b.cs.map cw))):=nO;let e1:bf (bD b) (.int 1)=M (.fz (.tuple (b.ls.map j7))):=jJ;let F:=Z.l1;let i:=xz (ks:=n) ();show jg W ?_;ext eU;let rt:∀c:bg Nat×Nat,(aA bO (dC {aU {pC (.str "letter"),aA bf (ad 2) (~~~1)}}) (aA iL (dC {pC (.tuple [(.str "none")])}) (aA sO (hG dY {ad 1}) (~~~1)))) [M (.fz (bD b)),M (.fz (.tuple (aZ n))),M (.fz (cw c))]=.ok (.ow ((Mn.XG c.2::Xk (n.length - 1) Mn.none).map mD),[M (.fz (bD b)),M (.fz (.tuple (aZ n))),M (.fz (cw c))]):=λc=>by
  let l:bf (cw c) (.int 1)=M (.fz (.str (dL c.2))):=jJ;let j:iL (.list [.tuple [.str "none"]]) (.int (((aZ n).length:Int) - 1))=M (.ow (Xk (n.length - 1) (.tuple [.str "none"]))):=by rw[dr,show((n.length:Int) - 1)=((n.length - 1:Nat):Int) by ext];show(Ow () ()).trans (by rw[SX])
  let y:bO (.list [mD (.XG c.2)]) (.list (Xk (n.length - 1) (.tuple [.str "none"])))=M (.ow ((Mn.XG c.2::Xk (n.length - 1) Mn.none).map mD)):=by show(if 1+(Xk (n.length - 1) (Xe.tuple [.str "none"])).length<=1000000 then M (RV.ow ([mD (.XG c.2)]++Xk (n.length - 1) (Xe.tuple [.str "none"])))else P)=_;rw[Yx,ax (),Xt,List.map_replicate];rfl
  show aD (by ext:0) (aD (by ext:0) (aD (by ext:0) aw W W (zr _ _)) W W j) W W y
 let f:∀(e:bg (bg Nat×Nat)) (o:bt PV),(∀c,e.find? (λc=>decide (c.1=pp n))=M c->pK (gN 2) (nk (az (aA cK (hG sH {aA bf (ad 2) (~~~0)}) (hG L9.fM {ad 1}))) (dA (aA bO (dC {aU {pC (.str "letter"),aA bf (ad 2) (~~~1)}}) (aA iL (dC {pC (.tuple [(.str "none")])}) (aA sO (hG dY {ad 1}) (~~~1))))) eO) (e.map cw) [M (.fz (bD b)),M (.fz (.tuple (aZ n))),o]=.ok (.rt (.ow ((Mn.XG c.2::Xk (n.length - 1) Mn.none).map mD))))/\
   (e.find? (λc=>decide (c.1=pp n))=P->∃u,pK (gN 2) (nk (az (aA cK (hG sH {aA bf (ad 2) (~~~0)}) (hG L9.fM {ad 1}))) (dA (aA bO (dC {aU {pC (.str "letter"),aA bf (ad 2) (~~~1)}}) (aA iL (dC {pC (.tuple [(.str "none")])}) (aA sO (hG dY {ad 1}) (~~~1))))) eO) (e.map cw) [M (.fz (bD b)),M (.fz (.tuple (aZ n))),o]=.ok (.nx [M (.fz (bD b)),M (.fz (.tuple (aZ n))),u])):=by
  intro e
  induction e with
  |nil=>show λo=>#[λc h=>(by ext h),λ_=>#[o,W]]
  |cons c r B=>
   intro o;let E:bf (cw c) (.int 0)=M (.fz (.tuple (aZ c.1))):=iH
   let a:az (aA cK (hG sH {aA bf (ad 2) (~~~0)}) (hG L9.fM {ad 1})) [M (.fz (bD b)),M (.fz (.tuple (aZ n))),M (.fz (cw c))]=.ok (decide (c.1=pp n),[M (.fz (bD b)),M (.fz (.tuple (aZ n))),M (.fz (cw c))]):=
    bh (aD (fY (by ext:0) W W) (fY (by ext:0) W i) W W (vE _ _)) W
   rw[XZ];by_cases h:c.1=pp n
   .rw[a5 h]at a⊢;show#[λI t=>?_,λt=>(by ext t)];ext t;show((gN 2 (.fz (cw c)) [M (.fz (bD b)),M (.fz (.tuple (aZ n))),o]).bind λg=>_)=_;rw[Ih,d0];show((nk _ _ _ [M (.fz (bD b)),M (.fz (.tuple (aZ n))),M (.fz (cw c))]).bind _)=_;rw[U3 a,uZ (rt c) W];rfl
   .rw[a6 h]at a⊢
    let w:pK (gN 2) (nk (az (aA cK (hG sH {aA bf (ad 2) (~~~0)}) (hG L9.fM {ad 1}))) (dA (aA bO (dC {aU {pC (.str "letter"),aA bf (ad 2) (~~~1)}}) (aA iL (dC {pC (.tuple [(.str "none")])}) (aA sO (hG dY {ad 1}) (~~~1))))) eO) ((c::r).map cw) [M (.fz (bD b)),M (.fz (.tuple (aZ n))),o]=pK (gN 2) (nk (az (aA cK (hG sH {aA bf (ad 2) (~~~0)}) (hG L9.fM {ad 1}))) (dA (aA bO (dC {aU {pC (.str "letter"),aA bf (ad 2) (~~~1)}}) (aA iL (dC {pC (.tuple [(.str "none")])}) (aA sO (hG dY {ad 1}) (~~~1))))) eO) (r.map cw) [M (.fz (bD b)),M (.fz (.tuple (aZ n))),M (.fz (cw c))]:=by show((gN 2 (.fz (cw c)) [M (.fz (bD b)),M (.fz (.tuple (aZ n))),o]).bind λg=>_)=_;rw[Ih,d0];show((nk _ _ _ [M (.fz (bD b)),M (.fz (.tuple (aZ n))),M (.fz (cw c))]).bind _)=_;rw[UT a];rfl
    rw[w];show B _
 let(A,m):=f b.cs P;let v:iW (aA bf (ad 0) (~~~2)) [M (.fz (bD b)),M (.fz (.tuple (aZ n))),P]=.ok (b.cs.map cw,[M (.fz (bD b)),M (.fz (.tuple (aZ n))),P]):=by ext:0
 ext Fk;cases q:b.cs.find? λc=>decide (c.1=pp n)with
 |some c=>show .eq (Fc ((yz v).trans (A c q))) #[W]
 |none=>let(u,m):=m q;show .eq (D7 ((yz v).trans m)) ?_;show dU (cY (by ext:0) W ?_) W W;rw[XN];show jq nd (mD∘iZ b 0) n () W λk p=>?_;let(d,l,j):=HC Z (L:=0) () (C k p);let l:bf (.tuple (b.ls.map j7)) (.int 0)=M (.fz d):=l;show aD (by ext:0) (af W) W W j
end
end STP
local macro_rules|`(-($x))=>`(Option.some (.fz $x))
namespace STP
open PySem L2 L3
open L10
def jH(p:Nat×Mn):ci×SV:=(.inl (p.1:Int),.fz (mD p.2))
def jO(ac:Ac)(k:Nat)(o:I Mn):Ac:=λj=>if j=k then o else ac j
def cZ:jO ac k o k=o:=by ext jO;simp_all
def eK(h:j≠k):jO ac k o j=ac j:=by ext jO;rw[a4 h]
def Hw(ac:Ac):(gv ac).Pairwise λp q=>p.1<q.1:=by
 ext gv;show ah4 _ (λa g h p f q b=>?_) (adC);cases e:ac a with
 |none=>simp_all
 |some x=>
  cases i:ac g with
  |none=>simp_all
  |some y=>rw[e]at f;rw[i]at b;ext f;ext b;show h
def sd(ac:Ac):((gv ac).map (·.1)).Nodup:=by rw[aje,aaC];show(Hw ac).imp λh=>XB h
def B5{l:G (Nat×Mn)}(h:(l.map (·.1)).Nodup):l.Nodup:=by rw[aje,aaC]at h;show h.imp λh e=>h (by rw[e])
theorem si{l:G (Nat×Mn)}(h:(l.map (·.1)).Nodup)(hm:∀p,p∈l↔p.1<5/\ac p.1=M p.2):l.Perm (gv ac):=
 (List.perm_ext_iff_of_nodup (B5 h) (B5 (sd ac))).mpr λp=>(hm p).trans eF.symm
section
variable{Y:bg (Nat×Mn)}{X:Ac}(Z:Y.Perm (gv X))
include Z
theorem j4:p∈Y↔p.1<5/\X p.1=M p.2:=Z.mem_iff.trans eF
theorem HY:(Y.map (·.1)).Nodup:=(Z.map (·.1)).nodup_iff.mpr (sd X)
def EF:Y.length<=5:=by rw[Z.length_eq];show uE X
def mJ{k:Nat}(b:k<5):jf (Y.map jH) (.inl (k:Int))=(X k).map λa=>SV.fz (mD a):=by
 ext jf;cases q:(Y.map jH).find? λkv=>decide (kv.1=(.inl (k:Int):ci))with
 |none=>
  cases e:X k with
  |none=>rfl
  |some a=>let:=List.find?_eq_none.mp q (jH (k,a)) (Xv.mpr #[(k,a),(j4 Z).mpr #[b,e],W]);show bb (a5 W) this
 |some kv=>
  let(p,h,rfl):=Xv.mp (ZK q);let g:=a7 (List.find?_some (p:=λkv:ci×SV=>decide (kv.1=(.inl (k:Int):ci))) q);let f:p.1=k:=by let:=Sum.inl.inj g;ext
  rw[<-f,((j4 Z).mp h).2];rfl
def J6{k:Nat}(o:k<5):∃c:G (Nat×Mn),jx (Y.map jH) (.inl (k:Int)) (.fz (mD a))=c.map jH/\c.Perm (gv (jO X k (M a))):=by
 ext jx;let i:∀p:Nat×Mn,((jH p).1=(.inl (k:Int):ci))↔p.1=k:=λp=>#[λh=>by let:=Sum.inl.inj h;ext,λh=>by rw[<-h];rfl];split
 .rename_i h
  show#[Y.map λp=>if p.1=k then(k,a)else p,?_,si ?_ λp=>?_]
  .rw[XN,XN]
   show ZM λp _=>?_;show(if(jH p).1=(.inl (k:Int):ci)then((jH p).1,SV.fz (mD a))else jH p)=jH (if p.1=k then(k,a)else p);by_cases e:p.1=k
   .rw[ax ((i p).mpr e),ax e,(i p).mpr e];rfl
   simp_all
  .rw[XN,show Y.map ((·.1)∘λp:Nat×Mn=>if p.1=k then(k,a)else p)=Y.map (·.1)from ZM λp _=>by
    show(if p.1=k then(k,a)else p).1=p.1;split
    .rename_i e;show e.symm
    .rfl]
   show HY Z
  .let(w,l,j):=acf.mp h
   let(n,v,rfl):=Xv.mp l;let b:=(i n).mp (a7 j);rw[Xv];constructor
   .rintro⟨r,u,rfl⟩
    split
    .show#[o,cZ]
    .rename_i e;let:=(j4 Z).mp u;show#[this.1,by rw[eK e];show this.2]
   .rintro⟨f,g⟩
    by_cases e:p.1=k
    .rw[e,cZ]at g;show#[n,v,?_];rw[ax b,<-e,Xm g]
    .rw[eK e]at g;show#[p,(j4 Z).mpr #[f,g],by rw[a4 e]]
 .rename_i h
  let A:=λp m e=>h (acf.mpr #[jH p,Xv.mpr #[p,m,W],a5 ((i p).mpr e)]);show#[Y++[(k,a)],by rw[XQ];rfl,si ?_ λp=>?_]
  .rw[XQ,Zy];show#[HY Z,Yy.mpr #[YK,abi],λx t y q=>?_];let(p,b,rfl):=Xv.mp t;rw[Xo.mp q];show A p b
  .rw[X3,Xo]
   constructor
   .rintro(b|rfl)
    .let:=(j4 Z).mp b;show#[this.1,by rw[eK (A p b)];show this.2]
    .show#[o,cZ]
   .rintro⟨b,f⟩
    by_cases e:p.1=k
    .rw[e,cZ]at f;show .inr (by rw[<-e,Xm f])
    .rw[eK e]at f;show .inl ((j4 Z).mpr #[b,f])
def Gr{k:Nat}:∃c:G (Nat×Mn),lU (Y.map jH) (.inl (k:Int))=c.map jH/\c.Perm (gv (jO X k P)):=by
 let g:∀p:Nat×Mn,((jH p).1=(.inl (k:Int):ci))↔p.1=k:=λp=>#[λh=>by let:=Sum.inl.inj h;ext,λh=>by rw[<-h];rfl];show#[Y.filter λp=>decide (p.1≠k),?_,si ?_ λp=>?_]
 .ext lU;rw[List.filter_map];congr 1;show List.filter_congr λp _=>?_;show decide_eq_decide.mpr (not_congr (g p))
 .show amq ((List.filter_sublist).map _) (HY Z)
 .rw[YT,j4 Z,decide_eq_true_eq]
  constructor
  .rintro⟨⟨b,a⟩,f⟩;show#[b,by rw[eK f];show a]
  .rintro⟨b,a⟩
   by_cases e:p.1=k
   .rw[e,cZ]at a;ext a
   .rw[eK e]at a;show#[#[b,a],e]
def Fz:aB yx ((Y.map jH).map (·.1))=M (Y.map λp=>(p.1:Int)):=by
 clear Z
 induction Y with
 |nil=>rfl
 |cons p r a=>rw[Xt,Xt];ext aB;rw[a];rfl
def HP:jR (Y.map λp=>(p.1:Int))=(gv X).map λp=>(p.1:Int):=by show ko ((eN _).trans (Z.map _)) (dP _) ?_;rw[aaC];show(Hw X).imp λh=>by ext
end
abbrev Sn:=G (Nat×Bool)
def lM(ac:Ac)(a:Mn):Bool:=decide (a∈(gv ac).map (·.2))
def qH(ac:Ac):Mn->Sn
 |.XG c=>if lM ac (.XG c)=S then[]else[(c,S)]
 |_=>[]
def NC(ac:Ac):Mn->Sn
 |.XG c=>if lM ac (.XG c)=S then[]else[(c,R)]
 |_=>[]
def eB(p:Y5×Sn)(k:Nat)(a:Mn):Y5×Sn:=({p.1 with ac:=jO p.1.ac k (M a)},p.2++qH p.1.ac a)
def go(p:Y5×Sn)(k:Nat):Y5×Sn:=match p.1.ac k with
 |some a=>({p.1 with ac:=jO p.1.ac k P},p.2++NC (jO p.1.ac k P) a)
 |none=>p
def gD(p:Y5×Sn)(a:G (Nat×Mn)):Y5×Sn:=a.foldl (λp q=>eB p q.1 q.2) p
def gx(b:Bd)(a:G Nat):I (Nat×Int)->G Mn
 |some (_,n)=>[.Zh n]
 |none=>Fk b a
def br(b:Bd)(p:Y5×Sn):Y5×Sn:=match p.1.wt with
 |none=>p
 |some (a,_,w)=>gD ({p.1 with wt:=P},p.2) (a.zip (gx b a w))
def yD:Wq->Nat->Bool
 |some (a,_,_),k=>decide (k∈a)
 |none,_=>R
def Ai(b:Bd)(s:Y5)(k:Nat):Bool:=match s.wt with
 |some (a,_,P)=>decide (i6 s.ac s.oc=0)&& !(cQ b (a++[k])).isEmpty
 |_=>R
def pA(b:Bd)(p:Y5×Sn)(k:Nat):Y5×Sn:=match p.1.wt with
 |some (a,g,_)=>if(cQ b (a++[k])).map (·.1.length)=[(a++[k]).length]then br b ({p.1 with wt:=M (a++[k],g,P)},p.2)else({p.1 with wt:=M (a++[k],g,P)},p.2)
 |none=>p
def di(s:Y5)(m:Mn):Y5:=if(m.aeH||m.isO)=S then s else{s with oc:=P}
def uP(b:Bd)(L:Int)(p:Y5×Sn)(k:Nat):Mn->Y5×Sn
 |.tap c n=>({p.1 with wt:=M ([k],0,M (c,n))},p.2)
 |.XG c=>if(decide (L=0)&& !(cQ b [k]).isEmpty)=S then({p.1 with wt:=M ([k],0,P)},p.2)else eB p k (.XG c)
 |.once n=>({(eB p k .none).1 with oc:=M n},(eB p k .none).2)
 |m=>eB p k m
def zl(b:Bd)(p:Y5×Sn)(k:Nat):Y5×Sn:=
 uP b (i6 p.1.ac p.1.oc) (di p.1 (look b (i6 p.1.ac p.1.oc) k),p.2) k (look b (i6 p.1.ac p.1.oc) k)
def gf(b:Bd)(p:Y5×Sn)(k:Nat):Y5×Sn:=
 if((p.1.ac k).isSome||yD p.1.wt k)=S then p else if Ai b p.1 k=S then pA b p k else zl b (br b p) k
def bN(b:Bd)(p:Y5×Sn)(k:Nat):Y5×Sn:=match p.1.wt with
 |some (_,_,P)=>br b p
 |some (_,_,M (c,_))=>eB ({p.1 with wt:=P},p.2) k (.XG c)
 |none=>p
def kO(b:Bd)(p:Y5×Sn)(k:Nat):Y5×Sn:=go (if yD p.1.wt k=S then bN b p k else p) k
def fE(b:Bd)(p:Y5×Sn):Y5×Sn:=match p.1.wt with
 |none=>p
 |some (a,g,w)=>if g+1=b.wt then br b ({p.1 with wt:=M (a,g+1,w)},p.2)else({p.1 with wt:=M (a,g+1,w)},p.2)
def bJ(b:Bd)(s:Y5):Evn->Y5×Sn
 |.down k=>gf b (s,[]) k
 |.up k=>kO b (s,[]) k
 |.turn=>fE b (s,[])
def Mj(b:Bd)(s:Y5):G (Str×SV):=[("bed",.fz (bD b)),("acts",.rf 1),("waiting",.fz (jA s.wt)),("once",.fz (sK s.oc)),("sent",.rf 2)]
def nu(p:Nat×Bool):D:=.tuple [.str (dL p.1),.str (if p.2=S then "down" else "up")]
def dg(b:Bd)(s:Y5)(sn:Sn)(a:G (Nat×Mn))(J:aK):aK:=.obj "Hand" (Mj b s):: .dct (a.map jH):: .lst ((sn.map nu).map .fz)::J
def HS(b:Bd)(p:Y5×Sn)(c:aK):Prop:=∃a J,a.Perm (gv p.1.ac)/\c=dg b p.1 p.2 a J
section
variable{b:Bd}{s:Y5}{sn:Sn}{Y:bg (Nat×Mn)}{J:aK}{ρ:aP}{i:Nat}{X:aK}{p:Y5×Sn}{k:Nat}{a:Mn}
def PD:(Mj b s).lookup ("bed":Str)=-(bD b):=by rfl
def Ka:(Mj b s).lookup ("acts":Str)=M (.rf 1):=by rfl
def Kv:(Mj b s).lookup ("waiting":Str)=-(jA s.wt):=by rfl
def JS:(Mj b s).lookup ("once":Str)=-(sK s.oc):=by rfl
def Li:(Mj b s).lookup ("sent":Str)=M (.rf 2):=by rfl
def Vl(m:Str):Bool:=(m== "bed"||m== "acts"||m== "waiting"||m== "once"||m== "sent")==R
def T1(h:Vl m=S):(Mj b s).lookup m=P:=by unfold Vl at h;simp only[beq_iff_eq,aej]at h;let((((l,j),g),f),e):=h;ext Mj;simp_all
theorem on(h:ρ[i]?=M (M (.rf 0))):aV "Hand" "bed" (aq i) ρ (dg b s sn Y J)=.ok (.fz (bD b)) (dg b s sn Y J):=iz (aN h) W PD
theorem gO(h:ρ[i]?=M (M (.rf 0))):aV "Hand" "acts" (aq i) ρ (dg b s sn Y J)=.ok (.rf 1) (dg b s sn Y J):=iz (aN h) W Ka
theorem bx(h:ρ[i]?=M (M (.rf 0))):aV "Hand" "waiting" (aq i) ρ (dg b s sn Y J)=.ok (.fz (jA s.wt)) (dg b s sn Y J):=iz (aN h) W Kv
theorem Ay(h:ρ[i]?=M (M (.rf 0))):aV "Hand" "once" (aq i) ρ (dg b s sn Y J)=.ok (.fz (sK s.oc)) (dg b s sn Y J):=iz (aN h) W JS
theorem vk(h:ρ[i]?=M (M (.rf 0))):aV "Hand" "sent" (aq i) ρ (dg b s sn Y J)=.ok (.rf 2) (dg b s sn Y J):=iz (aN h) W Li
theorem ke(w:Wq)(h:ρ[i]?=M (M (.rf 0)))(e:o ρ X=.ok (.fz (jA w)) (dg b s sn Y J)):eR "Hand" "waiting" (aq i) o ρ X=.ok (.nx ρ) (dg b {s with wt:=w} sn Y J):=
 (oA e (aN h) W (by show W8 W)).trans (by rfl)
theorem zZ(o:I Int)(h:ρ[i]?=M (M (.rf 0)))(e:C ρ X=.ok (.fz (sK o)) (dg b s sn Y J)):eR "Hand" "once" (aq i) C ρ X=.ok (.nx ρ) (dg b {s with oc:=o} sn Y J):=
 (oA e (aN h) W (by show W8 W)).trans (by rfl)
def bE(e:HS b p X)(hm:Vl m=S)(h:ρ[i]?=M (M (.rf 0)))(d:fa ρ X=.ok xs X)(c:(SV.rf 0::xs).length=n)(f:F (.rf 0::xs) X=.ok x o):aM "Hand" m F n (aq i) fa ρ X=.ok x o:=by let(Y,J,g,rfl):=e;show IW (aN h) W (T1 hm) d c f
def D4(Y:G (Nat×Mn)):(Y.map jH).map (·.2)=((Y.map (·.2)).map mD).map SV.fz:=by rw[XN,XN,XN];rfl
def AK(ac:Ac):Prop:=∀k a,ac k=M a->k<5/\LB a
def Io(f:HS b p X)(g:AK p.1.ac)(d:LB a):∃c,bG [.rf 0,.fz (mD a)] X=.ok (.fz (.bool (lM p.1.ac a))) c/\HS b p c:=by
 let(Y,J,e,rfl):=f;let e1:lM p.1.ac a=decide (a∈Y.map (·.2)):=decide_eq_decide.mpr (e.map (·.2)).symm.mem_iff;let lb:∀m∈Y.map (·.2),LB m:=λm hm=>by let(q,h,rfl):=Xv.mp hm;show(g _ _ ((j4 e).mp h).2).2
 show#[dg b p.1 p.2 Y (J++[.lst ((Y.map jH).map (·.2))]),?_,Y,_,e,W];rw[e1];show ju W (iC (b8 (ag (af W)) (Ma (gO W) W) (yk W (g8 (by rw[D4];show bc)) (JD d lb))))
theorem zR(f:sn.length<1000)(h:ρ[i]?=M (M (.rf 0)))(e:o ρ (dg b s sn Y J)=.ok (.fz (nu (c,d))) (dg b s sn Y J)):lY (aV "Hand" "sent" (aq i)) o ρ (dg b s sn Y J)=.ok (.fz .none) (dg b s (sn++[(c,d)]) Y J):=
 (rN (vk h) W e W (by rw[W5,W5];ext)).trans (by ext dg;rw[XQ,XQ];rfl)
def rY(e:Y.Perm (gv s.ac))(h:k<5)(o:ρ[0]?=M (M (.rf 0)))(n:ρ[1]?=M (-(nd k)))(m:ρ[2]?=M (-(mD a))):∃c:G (Nat×Mn),c.Perm (gv (jO s.ac k (M a)))/\tP (aV "Hand" "acts" (aq 0)) (ae (ad 1)) (ae (ad 2)) ρ (dg b s sn Y J)=.ok (.nx ρ) (dg b {s with ac:=jO s.ac k (M a)} sn c J):=by let(c,l,j):=J6 e h;let g:ad 1 (bZ ρ)=.ok (.fz (nd k),bZ ρ):=af (by ext bZ;rw[Xj,n];rfl);let f:ad 2 (bZ ρ)=.ok (.fz (mD a),bZ ρ):=af (by ext bZ;rw[Xj,m];rfl);show#[c,j,(Jz (ag f) (gO o) (ag g) W W (by rw[W5];let:=EF e;ext)).trans ?_];rw[l];rfl
def pN(n:HS b p X)(w:AK p.1.ac)(x:LB a)(o:k<5)(v:p.2.length<1000):∃d,bu [.rf 0,.fz (nd k),.fz (mD a)] X=.ok (.fz .none) d/\HS b (eB p k a) d:=by
 let e0:=oJ a;let e1:=kF a;cases q:a.isL with
 |false=>
  let(Y,J,h,rfl):=n;rw[q]at e1;let(f,j,y):=rY (ρ:=[M (.rf 0),-(nd k),-(mD a)]) h o W W W;show#[_,mW W (cJ (eC (gQ (aX (by ext:0))) eD) y),f,J,j,?_];let:qH p.1.ac a=[]:=by ext a<;>first|rfl|ext q
  ext eB;simp_all
 |true=>
  rw[q]at e1;let(l,j,m):=Io n w x;let g:∀u,lM p.1.ac a=u->(lz (bp (az (aA cK (aA bf (ad 2) (~~~0)) (pC (.str "letter"))))) (p9 (aW (aM "Hand" "has_act" bG 2 (aq 0) (ai (ae (ad 2)) aI))))) [M (.rf 0),-(nd k),-(mD a)] X=.ok (!u) l:=λu e=>by rw[e]at j;show iU (aX (by ext:0)) (mn (aH (bE n (by rfl) W (aj (ag (af W)) aG) W j)))
  let(Y,J,h,rfl):=m;cases B:lM p.1.ac a with
  |true=>
   let(f,t,r):=rY (ρ:=[M (.rf 0),-(nd k),-(mD a)]) h o W W W;show#[_,mW W (cJ (eC (g S B) eD) r),f,J,t,?_];let:qH p.1.ac a=[]:=by
    ext a<;>first|ext q|skip
    show(if lM p.1.ac _=S then _ else _)=_;simp_all
   ext eB;simp_all
  |false=>
   ext a<;>first|ext q|skip
   rename_i c;let(f,t,r):=rY (ρ:=[M (.rf 0),-(nd k),-(mD (.XG c))]) (sn:=p.2++[(c,S)]) h o W W W;let A:bf (mD (.XG c)) (.int 1)=-(.str (dL c)):=jJ;show#[_,mW W (cJ (c7 (g R B) (gF (zR v W (ag (show _=Res.ok (PV.fz (.tuple [.str (dL c),.str "down"]),_) by ext:0))))) r),f,J,t,?_];let:qH p.1.ac (.XG c)=[(c,S)]:=by show(if lM p.1.ac _=S then _ else _)=_;simp_all
   ext eB;rw[this]
end
end STP
namespace STP
open PySem L2 L3 L10
def VA(a:Int):Mn->Prop
 |.XG c=>c<26
 |.Zh n=>1<=n/\n<a
 |.none=>True
 |_=>False
def VA.lb(h:VA nL m):LB m:=by
 cases m with
 |XG c=>show h
 |tap c n=>show h.elim
 |_=>trivial
structure SA(b:Bd)(s:Y5):Prop where
 ac:∀k a,s.ac k=M a->(k:Int)<b.n/\VA b.ls.length a
 oc:∀o,s.oc=M o->1<=o/\o<b.ls.length
structure WV(b:Bd)(ac:Ac)(ks:G Nat)(g:Int)(w:I (Nat×Int)):Prop where
 ne:ks≠[]
 nd:ks.Nodup
 kn:∀k∈ks,(k:Int)<b.n
 kf:∀k∈ks,ac k=P
 g0:0<=g
 tp:∀c n,w=M (c,n)->c<26/\(1<=n/\n<b.ls.length)/\ks.length=1
 ch:w=P->∀k∈ks,pz (b.ls.headD []) k=S
structure SW(b:Bd)(s:Y5):Prop where
 sa:SA b s
 wt:∀ks g w,s.wt=M (ks,g,w)->WV b s.ac ks g w/\g<b.wt
def y4{c:G Nat}(hd:c.Nodup)(h:∀k∈c,k<n):c.length<=n:=by rw[<-Kl c];let b:=(qO c).nodup_iff.mpr hd;show MG (((yR c).and b).imp λh=>by ext) λk a=>h k ((qO c).mem_iff.mp a)
section
variable{b:Bd}(Z:VB b){s:Y5}{p:Y5×Sn}{Y:bg Nat}{g:Int}{w:bt (Nat×Int)}{X:Ac}{k:Nat}{a:Mn}
include Z
theorem WV.len(h:WV b X Y g w):Y.length<=5:=y4 h.nd λk e=>by let:=h.kn k e;let:=Z.n5;ext
omit Z in
theorem WV.alD(h:WV b X Y g w):1<=Y.length:=List.length_pos_iff.mpr h.ne
theorem SA.ak(h:SA b s):AK s.ac:=λk a e=>by let:=h.ac k a e;let:=Z.n5;show#[by ext,(h.ac k a e).2.lb]
omit Z in
theorem SA.cm(h:SA b p.1)(f:(k:Int)<b.n)(ha:VA b.ls.length a):SA b (eB p k a).1:=by
 refine⟨λj x e=>?_,h.oc⟩;by_cases z:j=k
 .subst z;have i:cL a=cL x:=(cZ (ac:=p.1.ac) (k:=j) (o:=cL a)).symm.trans e;cases i;exact⟨f,ha⟩
 .exact h.ac j x ((eK z).symm.trans e)
omit Z in
theorem SA.gg(h:SA b p.1):SA b (go p k).1:=by
 unfold go;split
 .refine⟨λj x e=>?_,h.oc⟩
  by_cases z:j=k
  .subst z;exact bb ((cZ (ac:=p.1.ac) (k:=j) (o:=Ld)).symm.trans e) (by simp)
  .exact h.ac j x ((eK z).symm.trans e)
 .exact h
omit Z in
theorem l6:(eB p k a).2.length<=p.2.length+1:=by
 show(p.2++qH p.1.ac a).length<=_;rw[Xi];have:(qH p.1.ac a).length<=1:=by
  cases a with
  |XG c=>show(if _ then _ else _:Sn).length<=1;split<;>simp
  |_=>simp[qH]
 ext
omit Z in
theorem Di(e:bg (Nat×Mn)):∀p:Y5×Sn,(gD p e).2.length<=p.2.length+e.length:=by
 induction e with
 |nil=>exact λp=>Xg _
 |cons q r f=>intro p;have i:=f (eB p q.1 q.2);have h:=l6 (p:=p) (k:=q.1) (a:=q.2);show(gD (eB p q.1 q.2) r).2.length<=_;rw[Xn];ext
omit Z in
theorem SA.cms(e:bg (Nat×Mn)):∀{p:Y5×Sn},SA b p.1->(∀q∈e,(q.1:Int)<b.n/\VA b.ls.length q.2)->SA b (gD p e).1/\(gD p e).1.wt=p.1.wt/\(gD p e).1.oc=p.1.oc:=by
 induction e with
 |nil=>exact λh _=>⟨h,rfl,rfl⟩
 |cons q r j=>intro p h f;have i:=f q Xb;exact j (h.cm i.1 i.2) λx l=>f x (Xf _ l)
def nW(h:pz (b.ls.headD []) k=S):∃c,iZ b 0 k=.XG c:=by
 let i:=Z.l1;obtain⟨f,r,e⟩:∃f r,b.ls=f::r:=by
  cases q:b.ls with
  |nil=>rw[q]at i;ext i
  |cons l r=>show#[l,r,W]
 unfold pz at h;ext iZ;rw[e]at h⊢;rw[adh,abS];rw[afR]at h;cases q:f[k]? with
 |none=>rw[q]at h;ext h
 |some m=>
  rw[q]at h;cases m with
  |XG c=>show#[c,W]
  |_=>ext h
def LG(f:(k:Int)<b.n)(h:pz (b.ls.headD []) k=S):VA b.ls.length (iZ b 0 k):=by let i:=Z.l1;let(c,e):=nW Z h;let:=yc Z (L:=0) () f;rw[e]at this⊢;show this
def Rh(h:WV b X Y g P):∀m∈Fk b Y,VA b.ls.length m:=by
 intro m hm;unfold Fk at hm;split at hm
 .rename_i c f
  rcases Xw.mp hm with rfl|hm
  .show(Z.vc c (ZK f)).2.2.2
  .rw[(abF.mp hm).2];trivial
 .let(j,e,rfl):=Xv.mp hm;show LG Z (h.kn j e) (h.ch W j e)
def uF(h:WV b X Y g w):∀q∈Y.zip (gx b Y w),(q.1:Int)<b.n/\VA b.ls.length q.2:=by
 intro q f;let e:=Zr f;show#[h.kn _ e.1,?_];cases w with
 |none=>show Rh Z h _ e.2
 |some i=>let(c,n):=i;rw[Xo.mp e.2];show(h.tp c n W).2.1
def WD(b:Bd)(s:Y5):Prop:=∀Y g w,s.wt=M (Y,g,w)->WV b s.ac Y g w
def c8(h:SA b p.1)(f:WD b p.1):SW b (br b p).1/\(br b p).1.wt=P/\(br b p).2.length<=p.2.length+5/\(br b p).1.oc=p.1.oc:=by
 ext br;split
 .rename_i q;show#[#[h,λY g w e=>by simp_all],q,Nat.le_add_right _ _,W]
 .rename_i Y g w q
  let v:=f Y g w q;let(l,j,i):=SA.cms (Y.zip (gx b Y w)) (p:=({p.1 with wt:=P},p.2)) #[h.ac,h.oc] (uF Z v);show#[#[l,λ_ _ _ e=>?_],j,?_,i]
  .simp_all
  .let:=Di (Y.zip (gx b Y w)) ({p.1 with wt:=P},p.2)
   let m:=v.len Z
   grind
omit Z in
theorem zM:∀(l:bg Int) (m:bt Int),l.foldl jC m=m\/∃x∈l,l.foldl jC m=cL x
 |[],m=>.inl rfl
 |x::r,m=>by
  rw[aa0];rcases zM r (jC m x)with h|⟨y,hy,h⟩
  .rw[h]
   cases m with
   |none=>exact .inr ⟨x,Xb,rfl⟩
   |some z=>
    show cL (if x>z then x else z)=cL z\/_;split
    .exact .inr ⟨x,Xb,by show cL (if x>z then x else z)=_;rename_i q;rw[ax q]⟩
    .exact .inl rfl
  .exact .inr ⟨y,Xf _ hy,h⟩
omit Z in
theorem Au:∀(l:bg Int) (m:bt Int),(∀x∈l,∃y,l.foldl jC m=cL y/\x<=y)/\∀z,m=cL z->∃y,l.foldl jC m=cL y/\z<=y
 |[],m=>⟨λx f=>(by cases f),λz h=>⟨z,h,abm _⟩⟩
 |x::r,m=>by
  rw[aa0];obtain⟨o,n⟩:=Au r (jC m x);have j:∃z,jC m x=cL z/\x<=z/\∀u,m=cL u->u<=z:=by
   cases m with
   |none=>exact⟨x,rfl,abm _,λu h=>by cases h⟩
   |some u=>
    refine⟨if x>u then x else u,rfl,?_,λv h=>?_⟩
    .split<;>ext
    .cases h;split<;>ext
  obtain⟨z,e1,e2,e3⟩:=j;obtain⟨y,e4,e5⟩:=n z e1;refine⟨λv e=>?_,λu i=>⟨y,e4,by have:=e3 u i;ext⟩⟩;rcases Xw.mp e with rfl|e
  .exact⟨y,e4,by ext⟩
  .exact o v e
omit Z in
theorem AN{X:Ac}{n:Int}:n∈(gv X).filterMap CP↔∃k,k<5/\X k=cL (.Zh n):=by
 rw[aaq];constructor
 .rintro⟨⟨k,m⟩,f,e⟩
  have h:=eF.mp f;cases m with
  |Zh x=>have:x=n:=Xm e;subst this;exact⟨k,h.1,h.2⟩
  |_=>cases e
 .rintro⟨k,f,e⟩;exact⟨(k,.Zh n),eF.mpr ⟨f,e⟩,rfl⟩
def MP(h:SA b s):0<=wE s.ac/\wE s.ac<b.ls.length/\(∀k n,s.ac k=M (.Zh n)->n<=wE s.ac)/\(wE s.ac=0\/∃k,s.ac k=M (.Zh (wE s.ac))):=by
 let l:=Z.l1;let o:=Z.n5;ext wE;generalize hm:((gv s.ac).filterMap CP).foldl jC P=m;let i:=(Au ((gv s.ac).filterMap CP) P).1;let f:=zM ((gv s.ac).filterMap CP) P;rw[hm]at i f;let up:∀k n,s.ac k=M (.Zh n)->∃y,m=M y/\n<=y:=λk n e=>i n (AN.mpr #[k,by let:=(h.ac k _ e).1;ext,e]);cases m with
 |none=>show#[abm _,by show(0:Int)<_;ext,λk n e=>?_,.inl W];let(y,e2,_):=up k n e;ext e2
 |some x=>
  rcases f with f|⟨y,q,f⟩
  .ext f
  .ext f;let(k,_,e):=AN.mp q;let:=(h.ac k _ e).2;let:1<=x/\x<b.ls.length:=this;show#[by show 0<=x;ext,by show x<_;ext,λk n e=>?_,.inr #[k,e]];let(y,e2,j):=up k n e;ext e2;show j
def u6(h:SA b s):0<=i6 s.ac s.oc/\i6 s.ac s.oc<b.ls.length:=by
 cases q:s.oc with
 |none=>let:=MP Z h;show#[this.1,this.2.1]
 |some o=>let:=h.oc o q;show#[by show 0<=o;ext,this.2]
end
section
variable{b:Bd}{s:Y5}{Q:Sn}{Y:bg (Nat×Mn)}{J:aK}{T:aP}{i:Nat}{X:aK}{p:Y5×Sn}{k:Nat}{a:Mn}
def ye(h:f x=M y):aB f [x]=M [y]:=by ext aB;rw[h];rfl
def gZ:(l++[c]).set l.length o=l++[o]:=by simp
def nZ(f:HS b p X):∃c,bB [.rf 0] X=.ok (.fz (fP p.1)) c/\HS b p c:=by
 let(Y,J,e,rfl):=f;let h:=EF e;let j:gB (ri (aV "Hand" "acts" (aq 0))) [M (.rf 0)] (dg b p.1 p.2 Y J)=.ok ((gv p.1.ac).map λq=>nd q.1) (dg b p.1 p.2 Y (J++[.dead])):=by
  show(v7 (ds:=(gv p.1.ac).map λq=>nd q.1) (Kh (gO W) W (Fz e) (by rw[W5];ext)) ?_).trans ?_
  .rw[HP e];show bc.trans ?_;rw[XN,XN];rfl
  .rw[gZ];rfl
 let l:dD (dZ 0) oW (mF (ai (ae (ad 0)) (ai (rF (aV "Hand" "acts" (aq 1)) (ae (ad 0))) aI))) ((gv p.1.ac).map λq=>nd q.1) [P,M (.rf 0)] (dg b p.1 p.2 Y (J++[.dead])) []=.ok (((gv p.1.ac).map pD).map .fz) (dg b p.1 p.2 Y (J++[.dead])):=by show(oB (λq:Nat×Mn=>nd q.1) (λq=>.fz (pD q)) _ (λT=>∃o,T=[o,M (.rf 0)]) (gv p.1.ac) _ [] #[P,W] (by let:=uE p.1.ac;grind) ?_).trans (by rw[XN];rfl);rintro q g T ⟨o,rfl⟩;let hm:=eF.mp g;show#[[-(nd q.1),M (.rf 0)],W,W,?_,_,W];show uX (aj (ag (af W)) (aj (JQ (gO W) (ag (af W)) W W (by rw[mJ e hm.1,hm.2];rfl)) aG)) (W8 W)
 let tp:y1 lu (ai (oK 1 [0] (gB (ri (aV "Hand" "acts" (aq 0)))) (dZ 0) oW (mF (ai (ae (ad 0)) (ai (rF (aV "Hand" "acts" (aq 1)) (ae (ad 0))) aI)))) aI) [M (.rf 0)] (dg b p.1 p.2 Y J)=.ok (.fz (.tuple ((gv p.1.ac).map pD))) (dg b p.1 p.2 Y (J++[.dead]++[.lst (((gv p.1.ac).map pD).map .fz)])):=
  Ag (aj (A2 j l) aG) (ye (g8 bc)) W
 show#[_,ju W (iC (uX (aj tp (aj (bx W) (aj (Ay W) aG))) (W8 W))),Y,_,e,W]
def FR(f:HS b p X):bX [.rf 0,.fz (nd k)] X=.ok (.fz (.bool (yD p.1.wt k))) X:=by
 let(Y,J,h,rfl):=f;show ju W (iC ?_);cases q:p.1.wt with
 |none=>
  let e1:lJ (jA p.1.wt) .none=-(.bool R):=by rw[q];rfl
  show Cz (aH (b8 (bx W) (ag aw) (bw e1)))
 |some x=>
  let(e,g,w):=x;let e1:lJ (jA p.1.wt) .none=-(.bool S):=by rw[q];rfl
  let e2:bf (jA p.1.wt) (.int 0)=-(.tuple (aZ e)):=by rw[q];show iH
  show sU (aH (b8 (bx W) (ag aw) (bw e1))) (b8 (ag (af W)) (cO (bx W) (ag aw) e2) (bw (vn _ _)))
def TD(F:HS b p X)(u:AK p.1.ac)(N:p.1.ac k=M a)(G:p.2.length<1000):∃D,iQ [.rf 0,.fz (nd k)] X=.ok (.fz .none) D/\HS b (go p k) D:=by
 let(Y,J,C,rfl):=F;let H:=(u k a N).1;let lb:=(u k a N).2;let(f,K,y):=Gr C
 let n:sZ (aV "Hand" "acts" (aq 0)) (ae (ad 1)) [M (.rf 0),-(nd k),P] (dg b p.1 p.2 Y J)=.ok (.fz (mD a)) (dg b {p.1 with ac:=jO p.1.ac k P} p.2 f J):=
  (LF (gO W) W (ag (af W)) W W (by rw[mJ C H,N];rfl)).trans (by rw[K];rfl)
 let I:go p k=({p.1 with ac:=jO p.1.ac k P},p.2++NC (jO p.1.ac k P) a):=by ext go;rw[N]
 rw[I];let t:AK (jO p.1.ac k P):=λj x e=>by
  by_cases z:j=k
  .subst z;rw[cZ]at e;ext e
  .rw[eK z]at e;show u j x e
 let e0:=oJ a;let e1:=kF a;let l:az (aA cK (aA bf (ad 2) (~~~0)) (pC (.str "letter"))) (bZ [M (.rf 0),-(nd k),-(mD a)])=.ok (a.isL,bZ [M (.rf 0),-(nd k),-(mD a)]):=by ext:0
 let w:GoS (bT (lz (bp (az (aA cK (aA bf (ad 2) (~~~0)) (pC (.str "letter"))))) (p9 (aW (aM "Hand" "has_act" bG 2 (aq 0) (ai (ae (ad 2)) aI))))) (bv (lY (aV "Hand" "sent" (aq 0)) (ae (aU {aA bf (ad 2) (~~~1),pC (.str "up")})))) bP [M (.rf 0),-(nd k),-(mD a)] (dg b {p.1 with ac:=jO p.1.ac k P} p.2 f J)) (λ_ D=>SV.fz .none=.fz .none/\HS b ({p.1 with ac:=jO p.1.ac k P},p.2++NC (jO p.1.ac k P) a) D) (λ_ _=>False) (λr D=>r=.fz .none/\HS b ({p.1 with ac:=jO p.1.ac k P},p.2++NC (jO p.1.ac k P) a) D):=by
  cases q:a.isL with
  |false=>
   rw[q]at l;show dB (gQ (aX l)) (j8 #[W,f,J,y,?_]);let:NC (jO p.1.ac k P) a=[]:=by ext a<;>first|rfl|ext q
   simp_all
  |true=>
   rw[q]at l;let(h,v,o):=Io (p:=({p.1 with ac:=jO p.1.ac k P},p.2)) #[f,J,y,W] t lb;let g:∀m,lM (jO p.1.ac k P) a=m->(lz (bp (az (aA cK (aA bf (ad 2) (~~~0)) (pC (.str "letter"))))) (p9 (aW (aM "Hand" "has_act" bG 2 (aq 0) (ai (ae (ad 2)) aI))))) [M (.rf 0),-(nd k),-(mD a)] (dg b {p.1 with ac:=jO p.1.ac k P} p.2 f J)=.ok (!m) h:=λm e=>by
    let v:bG [.rf 0,.fz (mD a)] (dg b {p.1 with ac:=jO p.1.ac k P} p.2 f J)=.ok (.fz (.bool m)) h:=by rw[<-e];show v
    show iU (aX l) (mn (aH (bE (p:=({p.1 with ac:=jO p.1.ac k P},p.2)) #[f,J,y,W] (by rfl) W (aj (ag (af W)) aG) W v)))
   let(A,E,B,e2):=o;rw[e2]at g;cases q2:lM (jO p.1.ac k P) a with
   |true=>
    show dB (g S q2) (j8 #[W,A,E,B,?_]);let:NC (jO p.1.ac k P) a=[]:=by
     ext a<;>first|ext q|skip
     show(if lM (jO p.1.ac k P) _=S then _ else _)=_;rw[ax q2]
    simp_all
   |false=>
    ext a<;>first|ext q|skip
    rename_i c;let L:bf (mD (.XG c)) (.int 1)=-(.str (dL c)):=jJ;show qN (g R q2) (ia (zR (d:=R) G W (ag (show _=Res.ok (PV.fz (.tuple [.str (dL c),.str "up"]),_) by ext:0))) #[W,A,E,B,?_]);let:NC (jO p.1.ac k P) (.XG c)=[(c,R)]:=by show(if lM (jO p.1.ac k P) _=S then _ else _)=_;simp_all
    rw[this]
 show iB W (jd n W w)
end
section
variable{b:Bd}(Z:VB b){s:Y5}{sn:Sn}{X:bg (Nat×Mn)}{J:aK}{Q:aP}{i:Nat}{T:aK}{p:Y5×Sn}{k:Nat}{a:Mn}{Y:bg Nat}{g:Int}{w:bt (Nat×Int)}
theorem Gn:∀(Y:G Nat) (as:G Mn),lQ (aZ Y) (as.map mD)=(Y.zip as).map pD
 |[],_=>by rfl
 |_::_,[]=>rfl
 |k::r,a::t=>by show Xe.tuple [nd k,mD a]::lQ (aZ r) (t.map mD)=_;rw[Gn r t];rfl
def yq(h:∀c n,w=M (c,n)->c<26):cK (sR w) (.tuple [.str "chord"])=-(.bool w.isNone)/\pO (sR w) (.tuple [.str "chord"])=-(.bool w.isSome):=by
 cases w with
 |none=>
  let l:kq (.tuple [.str "chord"])=S:=by left
  let j:Xe.canLay0 (.tuple [.str "chord"])=S:=by left
  let f:Xe.eqv (.tuple [.str "chord"]) (.tuple [.str "chord"])=S:=by rfl
  constructor
  .show(if(kq (.tuple [.str "chord"])&&Xe.canLay0 (.tuple [.str "chord"]))=S then M (RV.fz (.bool (Xe.eqv (.tuple [.str "chord"]) (.tuple [.str "chord"]))))else P)=_;rw[l,j,f];rfl
  .show(if(kq (.tuple [.str "chord"])&&Xe.canLay0 (.tuple [.str "chord"]))=S then M (RV.fz (.bool (!Xe.eqv (.tuple [.str "chord"]) (.tuple [.str "chord"]))))else P)=_;rw[l,j,f];rfl
 |some m=>
  let(c,n):=m;let lb:LB (.tap c n):=h c n W;let e:Xe.eqv (mD (.tap c n)) (.tuple [.str "chord"])=R:=by rfl
  constructor
  .show(if(kq (mD (.tap c n))&&Xe.canLay0 (.tuple [.str "chord"]))=S then M (RV.fz (.bool (Xe.eqv (mD (.tap c n)) (.tuple [.str "chord"]))))else P)=_;rw[EX lb,show Xe.canLay0 (.tuple [.str "chord"])=S by left,e];rfl
  .show(if(kq (mD (.tap c n))&&Xe.canLay0 (.tuple [.str "chord"]))=S then M (RV.fz (.bool (!Xe.eqv (mD (.tap c n)) (.tuple [.str "chord"]))))else P)=_;rw[EX lb,show Xe.canLay0 (.tuple [.str "chord"])=S by left,e];rfl
theorem xU(Y:G Nat)(w:I (Nat×Int))(as:G Mn):∀(h:G (Nat×Mn)) (p:Y5×Sn) (T:aK) (n m:I SV),HS b p T->AK p.1.ac->(∀q∈h,q.1<5/\LB q.2)->p.2.length+h.length<1000->
  ∃d c,gp (D3 2 (jF (dZ 4) (jF (dZ 5) vx))) (bv (aM "Hand" "come" bu 3 (aq 0) (ai (ae (ad 4)) (ai (ae (ad 5)) aI)))) (h.map pD) [M (.rf 0),-(.tuple (aZ Y)),-(sR w),-(.list (as.map mD)),n,m] T=.ok (.nx d) c/\HS b (gD p h) c
 |[],p,T,n,m,B,_,_,_=>#[_,T,W,B]
 |q::r,p,T,n,m,B,L,C,N=>by
  rw[Xn]at N;let l:=C q Xb;let(f,e1,t):=pN B L l.2 l.1 ();let u:AK (eB p q.1 q.2).1.ac:=λj x e=>by
   by_cases z:j=q.1
   .let A:M q.2=M x:=by rw[z]at e;show(cZ).symm.trans e
    ext A;show#[by rw[z];show l.1,l.2]
   .show L j x ((eK z).symm.trans e)
  let:=l6 (p:=p) (k:=q.1) (a:=q.2);let(d,c,e2,o):=xU Y w as r (eB p q.1 q.2) f (-(nd q.1)) (-(mD q.2)) t u (λx y=>C x (Xf _ y)) ();show#[d,c,?_,o]
  let v:bv (aM "Hand" "come" bu 3 (aq 0) (ai (ae (ad 4)) (ai (ae (ad 5)) aI))) [M (.rf 0),-(.tuple (aZ Y)),-(sR w),-(.list (as.map mD)),-(nd q.1),-(mD q.2)] T=.ok (.nx [M (.rf 0),-(.tuple (aZ Y)),-(sR w),-(.list (as.map mD)),-(nd q.1),-(mD q.2)]) f:=
   gF (bE B (by left) W (aj (ag (af W)) (aj (ag (af W)) aG)) W e1)
  show((bv (aM "Hand" "come" bu 3 (aq 0) (ai (ae (ad 4)) (ai (ae (ad 5)) aI))) [M (.rf 0),-(.tuple (aZ Y)),-(sR w),-(.list (as.map mD)),-(nd q.1),-(mD q.2)] T).bind _)=_;rw[v,d5];show e2
include Z
def kG(y:HS b p T)(r:SA b p.1)(j:p.1.wt=cL (Y,g,w))(v:WV b p.1.ac Y g w)(L:p.2.length<900):∃d,cG [.rf 0] T=.ok (.fz .none) d/\HS b (br b p) d:=by
 let(X,J,B,rfl):=y;let e0:bf (jA p.1.wt) (.int 0)=-(.tuple (aZ Y)):=by rw[j];show iH
 let e2:bf (jA p.1.wt) (.int 2)=-(sR w):=by rw[j];show nO
 let t:=v.len Z;let u:=v.alD;let G:=yq λc n h=>(v.tp c n h).1;let F:br b p=gD ({p.1 with wt:=P},p.2) (Y.zip (gx b Y w)):=by ext br;rw[j]
 rw[F];let o:az (aA cK (ad 2) (pC (.tuple [.str "chord"]))) (bZ [cL (.rf 0),-(.tuple (aZ Y)),-(sR w),P,P,P])=.ok (w.isNone,bZ [cL (.rf 0),-(.tuple (aZ Y)),-(sR w),P,P,P]):=bh (aD (af W) aw W W G.1) W;let m:sB (DZ (bp (az (aA cK (ad 2) (pC (.tuple [(.str "chord")]))))) (hJ eX 2 (ai (aV "Hand" "bed" (aq 0)) (ai (ae (ad 1)) aI))) (ae (dC {aU {pC (.str "layer"),aA bf (ad 2) (~~~2)}}))) [cL (.rf 0),-(.tuple (aZ Y)),-(sR w),P,P,P] (dg b {p.1 with wt:=P} p.2 X J)=.ok (.fz (.list ((gx b Y w).map mD))) (dg b {p.1 with wt:=P} p.2 X (J++[.dead])):=by
  cases w with
  |none=>let I:=Ot Z u t v.kn;show(vj (BZ (aX o) (v8 (aj (on W) (aj (ag (af W)) aG)) W I)) (pX bc)).trans (by rw[gZ];rfl)
  |some H=>let(c,n):=H;let K:bf (sR (cL (c,n))) (.int 2)=-(.int n):=nO;show(vj (Bx (aX o) (gc (show _=Res.ok (PV.ow [.tuple [.str "layer",.int n]],_) by ext:0))) (pX bc)).trans (by rw[gZ];rfl)
 let f:∃e d,sC (mZ (C2 {ad 1,ad 3})) (D3 2 (jF (dZ 4) (jF (dZ 5) vx))) (bv (aM "Hand" "come" bu 3 (aq 0) (ai (ae (ad 4)) (ai (ae (ad 5)) aI)))) [cL (.rf 0),-(.tuple (aZ Y)),-(sR w),-(.list ((gx b Y w).map mD)),P,P] (dg b {p.1 with wt:=P} p.2 X (J++[.dead]))=.ok (.nx e) d/\HS b (gD ({p.1 with wt:=P},p.2) (Y.zip (gx b Y w))) d:=by
  let M:=Z.n5;let(e,d,E,C):=xU Y w (gx b Y w) (Y.zip (gx b Y w)) ({p.1 with wt:=P},p.2) (dg b {p.1 with wt:=P} p.2 X (J++[.dead])) P P #[X,_,B,W] (SA.ak Z #[r.ac,r.oc]) (λq A=>by
   let:=uF Z v q A;show#[by ext,this.2.lb]) (by
   rw[List.length_zip];show p.2.length+_<1000;ext)
  show#[e,d,?_,C];ext sC;rw[rE (Bq (ah (af W) (ah (af W) av)) W W W),d5,Gn];show E
 let(e,d,f,l):=f;show#[d,mW (ρ1:=e) W ?_,l];show cJ (uJ (cO (bx W) (ag aw) e0) W) (cJ (uJ (cO (bx W) (ag aw) e2) W) (cJ (ke P W (ag aw)) (cJ (uJ m W) f)))
omit Z in
theorem Lj{c:bg Nat×Nat}(h:c.2<26):Xe.canLay0 (cw c)=W3:=by show(Xe.canLayAll0 (aZ c.1)&&(Xe.strOk (dL c.2)&&W3))=W3;rw[je,qh h];rfl
omit Z in
theorem Q5:∀{cs:bg (bg Nat×Nat)},(∀c∈cs,c.2<26)->pO (.list (cs.map cw)) (.list [])=-(.bool (!cs.isEmpty)):=by
 intro cs h;have j:∀cs:bg (bg Nat×Nat),(∀c∈cs,c.2<26)->Xe.canLayAll0 (cs.map cw)=W3:=by
  intro cs
  induction cs with
  |nil=>exact λ_=>rfl
  |cons c r e=>intro h;show(Xe.canLay0 (cw c)&&Xe.canLayAll0 (r.map cw))=W3;rw[Lj (h c Xb),e λx l=>h x (Xf _ l)];rfl
 have f:∀cs:bg (bg Nat×Nat),Xe.depthAll (cs.map cw)<=2:=by
  intro cs
  induction cs with
  |nil=>exact X1 _
  |cons c r e=>show max (Xe.depth (cw c)) (Xe.depthAll (r.map cw))<=2;refine akq.mpr ⟨?_,e⟩;show max (Xe.depthAll (aZ c.1)+1) (max 0 0)+1<=2;rw[lZ];decide
 show(if((Xe.canLayAll0 (cs.map cw)&&decide (Xe.depthAll (cs.map cw)+1<=64))&&W3)=W3 then cL (RV.fz (.bool (!Xe.eqvAll (cs.map cw) [])))else Ld)=_;rw[j cs h,a5 (show Xe.depthAll (cs.map cw)+1<=64 by have:=f cs;ext)];cases cs<;>rfl
theorem JE(h:c∈cQ b Y):c.2<26:=(Z.vc c (YT.mp h).1).2.2.2
omit Z in
theorem zS(h:Y≠[])(e:Y.length<=5):bO (.tuple (aZ Y)) (.tuple [nd k])=-(.tuple (aZ (Y++[k]))):=by
 show(if aZ Y≠[]/\(aZ Y).length+1<=1000000 then cL (RV.fz (.tuple (aZ Y++[nd k])))else Ld)=_;rw[ax ⟨by cases Y with
  |nil=>exact bb rfl h
  |cons x r=>simp[aZ],by rw[dr];ext⟩,Kk]
 rfl
def Ak{d:cx}{ω1:aK}(e:∃X J,ω1=dg b s sn X J)(l:Q[0]?=M (M (.rf 0)))(f:Y.length<=5)(h:d Q ω1=.ok (.fz (.tuple (aZ Y))) ω1):jv pO (hJ bz 2 (ai (aV "Hand" "bed" (aq 0)) (ai d aI))) (ae (dC am)) Q ω1=.ok (.fz (.bool (!(cQ b Y).isEmpty))) (ω1++[.lst (((cQ b Y).map cw).map .fz)]++[.lst []]):=by let(X,J,rfl):=e;show b8 (v8 (ds:=[bD b,.tuple (aZ Y)]) (aj (on l) (aj h aG)) W (B0 Z f)) (gc (ds:=[]) (ρ':=bZ Q) (lW av W (X1 _))) ?_;show yk (g8 (ei bc)) (g8 (ds:=[]) bc) (Q5 λc j=>JE Z j)
def Po(o:HS b p T)(E:SW b p.1)(L:(k:Int)<b.n)(z:yD p.1.wt k=R):∃d,cX [.rf 0,.fz (nd k)] T=.ok (.fz (.bool (Ai b p.1 k))) d/\HS b p d:=by
 cases q:p.1.wt with
 |none=>
  let r:Ai b p.1 k=R:=by ext Ai;rw[q]
  rw[r];let(X,J,l,rfl):=o;let e1:oj (jA p.1.wt) .none=-(.bool S):=by rw[q];rfl
  show#[_,ju W (ny (c7 (qG (aH (b8 (bx W) (ag aw) (bw e1)))) (iC (ag aw)))),X,J,l,W]
 |some x=>
  let(Y,g,w):=x;let v:=(E.wt Y g w q).1;let F:=v.len Z;let e1:oj (jA p.1.wt) .none=-(.bool R):=by rw[q];rfl
  let e2:bf (jA p.1.wt) (.int 2)=-(sR w):=by rw[q];show nO
  let e0:bf (jA p.1.wt) (.int 0)=-(.tuple (aZ Y)):=by rw[q];show iH
  let C:=(yq λc n h=>(v.tp c n h).1).2;cases w with
  |some N=>
   let r:Ai b p.1 k=R:=by ext Ai;rw[q]
   rw[r];let(X,J,l,rfl):=o;show#[_,ju W (ny (c7 (et (aH (b8 (bx W) (ag aw) (bw e1))) (qG (aH (b8 (cO (bx W) (ag aw) e2) (ag aw) (bw C))))) (iC (ag aw)))),X,J,l,W]
  |none=>
   let r:Ai b p.1 k=(decide (i6 p.1.ac p.1.oc=0)&& !(cQ b (Y++[k])).isEmpty):=by ext Ai;rw[q]
   rw[r];let(j,H,m):=nZ o;let f:(wf (aW (jv oj (aV "Hand" "waiting" (aq 0)) (ae (pC .none)))) (wf (aW (jv pO (i7 (aV "Hand" "waiting" (aq 0)) (ae (~~~2))) (ae (pC (.tuple [(.str "chord")]))))) (aW (jv pO (hJ dG 1 (ai (aM "Hand" "stands" bB 1 (aq 0) aI) aI)) (ae (~~~0)))))) [cL (.rf 0),-(nd k)] T=.ok (!decide (i6 p.1.ac p.1.oc=0)) j:=by
    let I:aW (jv pO (hJ dG 1 (ai (aM "Hand" "stands" bB 1 (aq 0) aI) aI)) (ae (~~~0))) [cL (.rf 0),-(nd k)] T=.ok (!decide (i6 p.1.ac p.1.oc=0)) j:=
     aH (b8 (uW (aj (bE o (by rfl) W aG W H) aG) W (wk p.1)) (ag aw) (bw (wa _ _)))
    let(X,J,l,rfl):=o;show et (aH (b8 (bx W) (ag aw) (bw e1))) (et (aH (b8 (cO (bx W) (ag aw) e2) (ag aw) (bw C))) I)
   by_cases B:i6 p.1.ac p.1.oc=0
   .rw[a5 B]at f⊢
    let(X,J,l,rfl):=m;let u:k∉Y:=by rw[q]at z;show of_decide_eq_false z
    let t:(Y++[k]).Nodup:=by rw[Zy];show#[v.nd,Yy.mpr #[YK,abi],λx A y K e=>u (by simp_all)]
    let G:(Y++[k]).length<=5:=y4 t λx A=>by
     let M:=Z.n5;rcases X3.mp A with h|h
     .let:=v.kn x h;ext
     .rw[Xo.mp h];ext
    show#[_,ju W (cJ (eC f eD) (iC (Ak Z #[X,J,W] W G (b8 (cO (bx W) (ag aw) e0) (ag (bq (ah (af W) av) W (W8 W))) (bw (zS v.ne F)))))),X,_,l,W]
   .rw[a6 B]at f⊢;show#[j,ju W (ny (c7 f (iC (ag aw)))),m]
end
section
variable{b:Bd}(Z:VB b){s:Y5}{sn:Sn}{ps:bg (Nat×Mn)}{J:aK}{ρ:aP}{i:Nat}{ω:aK}{p:Y5×Sn}{k:Nat}{a:Mn}{ks:bg Nat}{g:Int}{w:bt (Nat×Int)}
include Z
def RA(v:WV b p.1.ac ks g w)(c:k∉ks)(m:(k:Int)<b.n):(ks++[k]).Nodup/\(ks++[k]).length<=5:=by
 let f:(ks++[k]).Nodup:=by rw[Zy];show#[v.nd,Yy.mpr #[YK,abi],λx j y l e=>c (by simp_all)]
 show#[f,y4 f λx j=>?_];let o:=Z.n5;rcases X3.mp j with h|h
 .let:=v.kn x h;ext
 .rw[Xo.mp h];ext
def uC(o:SW b p.1)(m:(k:Int)<b.n)(z:p.1.ac k=P)(d:yD p.1.wt k=R)(hm:Ai b p.1 k=S):∃ks g,p.1.wt=M (ks,g,P)/\k∉ks/\WV b p.1.ac (ks++[k]) g P/\g<b.wt:=by
 unfold Ai at hm;split at hm
 .rename_i ks g q
  rw[W0]at hm;let(v,t):=o.wt ks g P q;let f:k∉ks:=by rw[q]at d;show of_decide_eq_false d
  let(l,B):=RA Z v f m;show#[ks,g,q,f,#[by simp,l,λx e=>?_,λx e=>?_,v.g0,λc n h=>(by ext h),λ_ x e=>?_],t]
  .rcases X3.mp e with h|h
   .show v.kn x h
   .rw[Xo.mp h];show m
  .rcases X3.mp e with h|h
   .show v.kf x h
   .rw[Xo.mp h];show z
  .let j:=hm.2
   cases C:cQ b (ks++[k])with
   |nil=>rw[C]at j;ext j
   |cons c r=>
    let u:c∈cQ b (ks++[k]):=by rw[C];show Xb
    let(A,y):=YT.mp u;let:=Yl.mp y x e;show(Z.vc c A).2.2.1 x (a7 this)
 .ext hm
def MO(y:HS b p ω)(l:SW b p.1)(h:p.1.wt=M (ks,g,P))(v:WV b p.1.ac (ks++[k]) g P)(j:WV b p.1.ac ks g P)(A:p.2.length<900):∃d,cP [.rf 0,.fz (nd k)] ω=.ok (.fz .none) d/\HS b (pA b p k) d:=by
 let(ps,J,m,rfl):=y;let r:=v.len Z;let e0:bf (jA p.1.wt) (.int 0)=-(.tuple (aZ ks)):=by rw[h];show iH
 let e1:bf (jA p.1.wt) (.int 1)=-(.int g):=by rw[h];show jJ
 let F:pA b p k=if(cQ b (ks++[k])).map (·.1.length)=[(ks++[k]).length]then br b ({p.1 with wt:=M (ks++[k],g,P)},p.2)else({p.1 with wt:=M (ks++[k],g,P)},p.2):=by ext pA;rw[h]
 let u:HS b ({p.1 with wt:=M (ks++[k],g,P)},p.2) (dg b {p.1 with wt:=M (ks++[k],g,P)} p.2 ps J):=#[ps,J,m,W];let G:dD (dZ 0) oW (ae (hG dY {aA bf (ad 0) (~~~0)})) ((cQ b (ks++[k])).map cw) [P] (dg b {p.1 with wt:=M (ks++[k],g,P)} p.2 ps (J++[.dead])) []=.ok ((aZ ((cQ b (ks++[k])).map (·.1.length))).map .fz) (dg b {p.1 with wt:=M (ks++[k],g,P)} p.2 ps (J++[.dead])):=by
  show(oB cw (λc=>.fz (nd c.1.length)) _ (λρ=>∃o,ρ=[o]) (cQ b (ks++[k])) _ [] #[P,W] ?_ ?_).trans (by ext aZ;rw[XN,XN];rfl)
  .let:=Z5 (λc:bg Nat×Nat=>(ks++[k]).all λk=>decide (k∈c.1)) b.cs;let:=Z.c4;show 0+(cQ b (ks++[k])).length<=_;ext cQ;ext
  .rintro c _ ρ ⟨o,rfl⟩;let t:bf (cw c) (.int 0)=-(.tuple (aZ c.1)):=iH;show#[[-(cw c)],W,W,ag (fY (ah (aD (af W) aw W W t) av) W ((jX _).trans (by rw[dr]))),_,W]
 let E:gB (hJ bz 2 (ai (aV "Hand" "bed" (aq 0)) (ai (ae (ad 2)) aI))) [M (.rf 0),-(nd k),-(.tuple (aZ (ks++[k])))] (dg b {p.1 with wt:=M (ks++[k],g,P)} p.2 ps J)=.ok ((cQ b (ks++[k])).map cw) (dg b {p.1 with wt:=M (ks++[k],g,P)} p.2 ps (J++[.dead])):=
  (v7 (v8 (aj (on W) (aj (ag (af W)) aG)) W (B0 Z r)) bc).trans (by rw[gZ];rfl)
 let rt:dC {hG dY {ad 2}} (bZ [M (.rf 0),-(nd k),-(.tuple (aZ (ks++[k])))])=.ok (.ow (aZ [(ks++[k]).length]),bZ [M (.rf 0),-(nd k),-(.tuple (aZ (ks++[k])))]):=by show lW (ah (fY (ah (af W) av) W ((jX _).trans (by rw[dr]))) av) W (W8 W)
 let f:aW (jv cK (oK 1 [] (gB (hJ bz 2 (ai (aV "Hand" "bed" (aq 0)) (ai (ae (ad 2)) aI)))) (dZ 0) oW (ae (hG dY {aA bf (ad 0) (~~~0)}))) (ae (dC {hG dY {ad 2}}))) [M (.rf 0),-(nd k),-(.tuple (aZ (ks++[k])))] (dg b {p.1 with wt:=M (ks++[k],g,P)} p.2 ps J)=.ok (decide ((cQ b (ks++[k])).map (·.1.length)=[(ks++[k]).length])) (dg b {p.1 with wt:=M (ks++[k],g,P)} p.2 ps (J++[.dead])++[.lst ((aZ ((cQ b (ks++[k])).map (·.1.length))).map .fz)]++[.lst ((aZ [(ks++[k]).length]).map .fz)]):=
  aH (b8 (A2 E G) (gc rt) (yk (g8 (ei bc)) (g8 bc) (vE _ _)))
 let e:HS b ({p.1 with wt:=M (ks++[k],g,P)},p.2) (dg b {p.1 with wt:=M (ks++[k],g,P)} p.2 ps (J++[.dead])++[.lst ((aZ ((cQ b (ks++[k])).map (·.1.length))).map .fz)]++[.lst ((aZ [(ks++[k]).length]).map .fz)]):=#[ps,_,m,W];generalize (dg b {p.1 with wt:=M (ks++[k],g,P)} p.2 ps (J++[.dead])++[.lst ((aZ ((cQ b (ks++[k])).map (·.1.length))).map .fz)]++[.lst ((aZ [(ks++[k]).length]).map .fz)]:aK)=L at f e;rw[F];show iB W (jd (b8 (cO (bx W) (ag aw) e0) (ag (bq (ah (af W) av) W (W8 W))) (bw (zS j.ne (j.len Z)))) W (Ah (ke (M (ks++[k],g,P)) W (uX (aj (ag (af W)) (aj (cO (bx W) (ag aw) e1) (aj (ag aw) aG))) (W8 W))) (wU f (λq=>?_) λq=>?_)))
 .rw[ax (a7 q)];let(n,C,B):=kG Z e #[l.sa.ac,l.sa.oc] W v A;show ia (bE e (by rfl) W aG W C) #[W,B]
 .rw[a4 (of_decide_eq_false q)];show j8 #[W,e]
def MF(f:SW b p.1)(h:p.1.wt=M (ks,g,P))(v:WV b p.1.ac (ks++[k]) g P)(j:g<b.wt):SW b (pA b p k).1:=by
 let l:pA b p k=if(cQ b (ks++[k])).map (·.1.length)=[(ks++[k]).length]then br b ({p.1 with wt:=M (ks++[k],g,P)},p.2)else({p.1 with wt:=M (ks++[k],g,P)},p.2):=by ext pA;rw[h]
 rw[l];split
 .show(c8 Z (p:=({p.1 with wt:=M (ks++[k],g,P)},p.2)) #[f.sa.ac,f.sa.oc] λ_ _ _ e=>by ext e;show v).1
 .show#[#[f.sa.ac,f.sa.oc],λ_ _ _ e=>by ext e;show#[v,j]]
omit Z in
theorem Ar(s:Y5)(m:Mn):(di s m).ac=s.ac/\(di s m).wt=s.wt:=by unfold di;split<;>exact⟨rfl,rfl⟩
omit Z in
theorem zQ{m:Mn}(h:SA b s):SA b (di s m):=by
 unfold di;split
 .exact h
 .exact⟨h.ac,λo e=>by cases e⟩
def QM(F:HS b p ω)(R:SA b p.1)(hw:p.1.wt=Ld)(U:(k:Int)<b.n)(D:p.2.length<900):∃z,fy [.rf 0,.fz (nd k)] ω=.ok (.fz .none) z/\HS b (zl b p k) z:=by
 let(Q,P):=u6 Z R;let I:=Mr Z Q P U;let(v,S):=vW Z Q P U;let(ω1,h1,M):=nZ F;let h5:=Z.n5;let eb:zl b p k=uP b (i6 p.1.ac p.1.oc) (di p.1 (look b (i6 p.1.ac p.1.oc) k),p.2) k (look b (i6 p.1.ac p.1.oc) k):=W;rw[eb];let T:hJ dG 1 (ai (aM "Hand" "stands" bB 1 (aq 0) aI) aI) [cL (.rf 0),-(nd k),Ld,Ld,Ld] ω=.ok (.fz (.int (i6 p.1.ac p.1.oc))) ω1:=uW (aj (bE F (by rfl) W aG W h1) aG) W (wk p.1);generalize i6 p.1.ac p.1.oc=L at I v S T Q P;generalize look b L k=m at I v S;let(ps,J,hp,rfl):=M;let lb:=v.lb;let c0:=oJ m;let c1:=Tz m;let c2:=Qc m;let c3:=kF m;let c4:=MA m;let eL:cK (.int L) (.int 0)=-(.bool (decide (L=0))):=jr _ _;let B:(aC (bT (bp (az (aA vG (ad 4) (aU {pC (.str "layer"),pC (.str "once")})))) (eR "Hand" "once" (aq 0) (ae (pC .none))) bP) bP) [cL (.rf 0),-(nd k),-(.int L),-(mD m),-(.str (wd m))] (dg b p.1 p.2 ps J)=.ok (.nx [cL (.rf 0),-(nd k),-(.int L),-(mD m),-(.str (wd m))]) (dg b (di p.1 m) p.2 ps J):=by
  let t:bp (az (aA vG (ad 4) (aU {pC (.str "layer"),pC (.str "once")}))) [cL (.rf 0),-(nd k),-(.int L),-(mD m),-(.str (wd m))] (dg b p.1 p.2 ps J)=.ok (!(m.aeH||m.isO)) (dg b p.1 p.2 ps J):=aX (by ext:0);ext di;cases q:(m.aeH||m.isO)with
  |true=>rw[q]at t;rw[ax W];show cJ (eC t eD) eD
  |false=>rw[q]at t;rw[a4 Xs];show cJ (c7 t (zZ Ld W (ag aw))) eD
 let X:=Ar p.1 m;let H:SA b (di p.1 m):=zQ R;let j:ps.Perm (gv (di p.1 m).ac):=by simp_all
 let e:HS b (di p.1 m,p.2) (dg b (di p.1 m) p.2 ps J):=#[ps,J,j,W];generalize di p.1 m=s2 at B X H j e;let O:GoS ((bT (bp (az (aA cK (ad 4) (pC (.str "tap"))))) (eR "Hand" "waiting" (aq 0) (ae (aU {aU {ad 1},~~~0,ad 3}))) (bT (lz (bp (az (aA cK (ad 4) (pC (.str "letter"))))) (lz (bp (az (aA cK (ad 2) (~~~0)))) (aW (jv pO (hJ bz 2 (ai (aV "Hand" "bed" (aq 0)) (ai (ae (aU {ad 1})) aI))) (ae (dC am)))))) (eR "Hand" "waiting" (aq 0) (ae (aU {aU {ad 1},~~~0,pC (.tuple [(.str "chord")])}))) (bT (bp (az (aA cK (ad 4) (pC (.str "once"))))) (aC (bv (aM "Hand" "come" bu 3 (aq 0) (ai (ae (ad 1)) (ai (ae (pC (.tuple [(.str "none")]))) aI))))
 (eR "Hand" "once" (aq 0) (ae (aA bf (ad 3) (~~~1))))) (bv (aM "Hand" "come" bu 3 (aq 0) (ai (ae (ad 1)) (ai (ae (ad 3)) aI))))))) [cL (.rf 0),-(nd k),-(.int L),-(mD m),-(.str (wd m))] (dg b s2 p.2 ps J)) (λ_ z=>SV.fz .none=.fz .none/\HS b (uP b L (s2,p.2) k m) z) (λ_ _=>False) (λr z=>r=.fz .none/\HS b (uP b L (s2,p.2) k m) z):=by
  let A:∀{ω:aK},bp (az (aA cK (ad 4) (pC (.str "tap")))) [cL (.rf 0),-(nd k),-(.int L),-(mD m),-(.str (wd m))] ω=.ok m.isT ω:=aX (by ext:0);let E:∀{ω:aK},bp (az (aA cK (ad 4) (pC (.str "letter")))) [cL (.rf 0),-(nd k),-(.int L),-(mD m),-(.str (wd m))] ω=.ok m.isL ω:=aX (by ext:0);let C:∀{ω:aK},bp (az (aA cK (ad 4) (pC (.str "once")))) [cL (.rf 0),-(nd k),-(.int L),-(mD m),-(.str (wd m))] ω=.ok m.isO ω:=aX (by ext:0);let G:∀{ω:aK},bp (az (aA cK (ad 2) (~~~0))) [cL (.rf 0),-(nd k),-(.int L),-(mD m),-(.str (wd m))] ω=.ok (decide (L=0)) ω:=aX (by ext:0);let kt:∀{ω:aK},ae (aU {ad 1}) [cL (.rf 0),-(nd k),-(.int L),-(mD m),-(.str (wd m))] ω=.ok (.fz (.tuple (aZ [k]))) ω:=ag (bq (ah (af W) av) W (W8 W));let cm:∀{ω:aK},HS b (s2,p.2) ω->VA b.ls.length m->∃z,bv (aM "Hand" "come" bu 3 (aq 0) (ai (ae (ad 1)) (ai (ae (ad 3)) aI))) [cL (.rf 0),-(nd k),-(.int L),-(mD m),-(.str (wd m))] ω=.ok (.nx [cL (.rf 0),-(nd k),-(.int L),-(mD m),-(.str (wd m))]) z/\HS b (eB (s2,p.2) k m) z:=λ{ω} F va=>by let(z,u,l):=pN (k:=k) F (H.ak Z) va.lb () (show p.2.length<1000 by ext);show#[z,gF (bE F (by rfl) W (aj (ag (af W)) (aj (ag (af W)) aG)) W u),l]
  cases m with
  |below=>simp_all
  |tap c n=>show qN A (mh (ke (cL ([k],0,cL (c,n))) W (ag (ρ':=bZ [cL (.rf 0),-(nd k),-(.int L),-(mD (.tap c n)),-(.str (wd (.tap c n)))]) ?_)) #[W,ps,J,j,W]);rfl
  |XG c=>
   obtain⟨d1,d2⟩:VA b.ls.length (.XG c)/\True:=#[v,trivial];by_cases N:L=0
   .rw[a5 N]at G
    let ov:=Ak Z (ω1:=dg b s2 p.2 ps J) #[ps,J,W] W (W8 W) kt;let K:HS b (s2,p.2) (dg b s2 p.2 ps J++[.lst (((cQ b [k]).map cw).map .fz)]++[.lst []]):=#[ps,_,j,W];let y:uP b L (s2,p.2) k (.XG c)=if(!(cQ b [k]).isEmpty)=W3 then({s2 with wt:=cL ([k],0,Ld)},p.2)else eB (s2,p.2) k (.XG c):=by show(if(decide (L=0)&& !(cQ b [k]).isEmpty)=W3 then _ else _)=_;rw[a5 N,aby]
    rw[y];show dB A (wU (iU E (iU G (aH ov))) (λq=>?_) λq=>?_)
    .rw[ax q];show mh (ke (cL ([k],0,Ld)) W (ag (ρ':=bZ [cL (.rf 0),-(nd k),-(.int L),-(mD (.XG c)),-(.str (wd (.XG c)))]) ?_)) #[W,ps,_,j,W];rfl
    .rw[a4 (by rw[q];simp)];let(z,u,l):=cm K v;show dB C (mh u #[W,l])
   .rw[a6 N]at G
    let y:uP b L (s2,p.2) k (.XG c)=eB (s2,p.2) k (.XG c):=by show(if(decide (L=0)&& !(cQ b [k]).isEmpty)=W3 then _ else _)=_;simp_all
    rw[y];let(z,u,l):=cm e v;show dB A (dB (iU E (gQ G)) (dB C (mh u #[W,l])))
  |Zh n=>let(z,u,l):=cm e v;show dB A (dB (gQ E) (dB C (mh u #[W,l])))
  |none=>let(z,u,l):=cm e trivial;show dB A (dB (gQ E) (dB C (mh u #[W,l])))
  |once n=>let(z,u,l):=pN (k:=k) (a:=.none) e (H.ak Z) trivial () (show p.2.length<1000 by ext);let i1:bf (mD (.once n)) (.int 1)=-(.int n):=jJ;let(qs,J2,hq,rfl):=l;show dB A (dB (gQ E) (qN C (Ah (gF (bE e (by rfl) W (aj (ag (af W)) (aj (ag aw) aG)) W u)) (mh (zZ (cL n) W (ag (ρ':=bZ [cL (.rf 0),-(nd k),-(.int L),-(mD (.once n)),-(.str (wd (.once n)))]) ?_)) #[W,qs,J2,hq,W]))));rfl
 show iB (ρ:=[cL (.rf 0),-(nd k),Ld,Ld,Ld]) W (jd T W (jd (uW (ds:=[bD b,.int L,nd k]) (aj (on W) (aj (ag (af W)) (aj (ag (af W)) aG))) W I) W (jd (ag (d:=.str (wd m)) (ρ':=bZ [cL (.rf 0),-(nd k),-(.int L),-(mD m),Ld]) (aD (rv:=.fz (.str (wd m))) (af W) aw W W c0)) W ?_)));show .eq ?_ O;let Y:∀{f g:dH} {ρ:aP} {ω z:aK},aC f bP ρ ω=.ok (.nx ρ) z->aC f g ρ ω=g ρ z:=λ{f g ρ ω z} h=>by
  unfold aC at h⊢;cases q:f ρ ω with
  |bad=>rw[q]at h;ext h
  |er x o=>rw[q]at h;ext h
  |ok fl o=>
   rw[q]at h;cases fl with
   |nx r=>ext h;rfl
   |_=>ext h
 show Y B
end
section
variable{b:Bd}(Z:VB b){s:Y5}{sn:Sn}{ps:bg (Nat×Mn)}{J:aK}{ρ:aP}{i:Nat}{Y:aK}{p:Y5×Sn}{k:Nat}{a:Mn}{X:bg Nat}{g:Int}{w:bt (Nat×Int)}
include Z
omit Z in
theorem Bg(h:SA b s)(f:s.wt=Ld):SW b s:=⟨h,λ_ _ _ e=>by rw[f]at e;cases e⟩
def O9(y:SA b p.1)(M:p.1.wt=Ld)(F:(k:Int)<b.n)(d:p.1.ac k=Ld):SW b (zl b p k).1:=by
 let(H,G):=u6 Z y;let(f,A):=vW Z H G F;let O:zl b p k=uP b (i6 p.1.ac p.1.oc) (di p.1 (look b (i6 p.1.ac p.1.oc) k),p.2) k (look b (i6 p.1.ac p.1.oc) k):=W;rw[O];generalize i6 p.1.ac p.1.oc=L at f A H G;generalize look b L k=m at f A;let v:=Ar p.1 m;let j:SA b (di p.1 m):=zQ y;let l:=v.2.trans M;let u:(di p.1 m).ac k=Ld:=by rw[v.1];show d
 generalize di p.1 m=s2 at j l u;let S:=Z.w1;let B:[k].Nodup:=Yy.mpr #[YK,abi];let C:∀x∈[k],(x:Int)<b.n:=λx t=>by simp_all
 let E:∀x∈[k],s2.ac x=Ld:=λx t=>by simp_all
 let cm:∀m,VA b.ls.length m->SW b (eB (s2,p.2) k m).1:=λm I=>Bg (j.cm F I) l;cases m with
 |below=>simp_all
 |tap c n=>show#[#[j.ac,j.oc],λ_ _ _ e=>?_];ext e;show#[#[by simp,B,C,E,abm _,λR K e=>by ext e;show#[f.1,f.2,W],λe=>by ext e],by ext]
 |XG c=>
  show SW b (if(decide (L=0)&& !(cQ b [k]).isEmpty)=W3 then({s2 with wt:=cL ([k],0,Ld)},p.2)else eB (s2,p.2) k (.XG c)).1;split
  .rename_i q
   show#[#[j.ac,j.oc],λ_ _ _ e=>?_];ext e;show#[#[by simp,B,C,E,abm _,λR K e=>(by ext e),λ_ x t=>?_],by ext];let T:=(W0 _ _▸q:_/\_).2;cases qo:cQ b [k]with
   |nil=>simp_all
   |cons c r=>
    let N:c∈cQ b [k]:=by simp_all
    let(Q,P):=YT.mp N;show(Z.vc c Q).2.2.1 x (a7 (Yl.mp P x t))
  .show cm _ f
 |Zh n=>show cm _ f
 |none=>show cm _ trivial
 |once n=>let h:=cm .none trivial;show#[#[h.sa.ac,λo e=>by ext e;show f],λX g w e=>by let e:s2.wt=cL (X,g,w):=e;simp_all]
theorem SW.wd(h:SW b s):WD b s:=λX g w e=>(h.wt X g w e).1
omit Z in
theorem yZ(e:bg (Nat×Mn)):∀{p:Y5×Sn},p.1.ac k=Ld->k∉e.map (·.1)->(gD p e).1.ac k=Ld:=by
 induction e with
 |nil=>exact λh _=>h
 |cons q r f=>intro p h hn;rw[Xt,Xw,not_or]at hn;exact f (p:=eB p q.1 q.2) ((eK hn.1).trans h) hn.2
omit Z in
theorem zn(ha:p.1.ac k=Ld)(hn:yD p.1.wt k=W7):(br b p).1.ac k=Ld:=by
 unfold br;split
 .exact ha
 .rename_i X g w q;refine yZ _ (p:=({p.1 with wt:=Ld},p.2)) ha λz=>?_;rw[q]at hn;obtain⟨x,e,rfl⟩:=Xv.mp z;exact of_decide_eq_false hn (Zr e).1
def Hr(e:SW b p.1)(f:(k:Int)<b.n):SW b (gf b p k).1:=by
 ext gf;split
 .show e
 .rename_i q
  rw[Yz,not_or]at q;let l:p.1.ac k=P:=by simp_all
  let j:yD p.1.wt k=R:=by simp_all
  split
  .rename_i h;let(X,g,e1,e2,e3,e4):=uC Z e f l j h;show MF Z e e1 e3 e4
  .let d:=c8 Z e.sa (SW.wd Z e);show O9 Z d.1.sa d.2.1 f (zn l j)
def G9(l:HS b p Y)(j:SW b p.1)(B:(k:Int)<b.n)(O:p.2.length<800):∃c,gK [.rf 0,.fz (nd k)] Y=.ok (.fz .none) c/\HS b (gf b p k) c:=by
 let P:=Z.n5;let A:k<5:=by ext
 let N:wf (aW (sN R (ae (ad 1)) (aV "Hand" "acts" (aq 0)))) (aW (aM "Hand" "is_waiting" bX 2 (aq 0) (ai (ae (ad 1)) aI))) [cL (.rf 0),-(nd k)] Y=.ok ((p.1.ac k).isSome||yD p.1.wt k) Y:=by
  let K:=bE (ρ:=[cL (.rf 0),-(nd k)]) (i:=0) (m:= "is_waiting") (fa:=ai (ae (ad 1)) aI) l (by rfl) W (aj (ag (af W)) aG) W (FR l);let(ps,J,y,rfl):=l
  let t:sN R (ae (ad 1)) (aV "Hand" "acts" (aq 0)) [cL (.rf 0),-(nd k)] (dg b p.1 p.2 ps J)=.ok (.fz (.bool (p.1.ac k).isSome)) (dg b p.1 p.2 ps J):=
   (zy (ag (af W)) (gO W) W W).trans (by rw[show jf (ps.map jH) (.inl (k:Int))=_ from mJ y A];simp_all)
  cases q:(p.1.ac k).isSome with
  |true=>rw[q]at t;rw[aam];show qG (aH t)
  |false=>rw[q]at t;rw[abx];show et (aH t) (aH K)
 show iB W (xF N (λq=>?_) λq=>ng ?_)
 .ext gf;rw[ax q];show vg #[W,l]
 rw[aej]at q;let T:p.1.ac k=Ld:=by simp_all
 let M:gf b p k=if Ai b p.1 k=S then pA b p k else zl b (br b p) k:=by ext gf;simp_all
 rw[M];let(u,I,h):=Po Z l j B q.2;show xF (aH (bE l (by rfl) W (aj (ag (af W)) aG) W I)) (λo=>?_) λo=>ng ?_
 .rw[ax o];let(X,g,e1,e2,e3,e4):=uC Z j B T q.2 o;let(e,C,f):=MO Z h j e1 e3 (j.wt _ _ _ e1).1 ();show OQ (kI (bE h (by rfl) W (aj (ag (af W)) aG) W C) (vg #[W,f]))
 .rw[a4 (by rw[o];simp)]
  let d:=c8 Z j.sa (SW.wd Z j);let F:∀e,HS b (br b p) e->GoS (bv (aM "Hand" "begin" fy 2 (aq 0) (ai (ae (ad 1)) aI)) [cL (.rf 0),-(nd k)] e) (λ_ c=>SV.fz .none=.fz .none/\HS b (zl b (br b p) k) c) (λ_ _=>False) (λr c=>r=.fz .none/\HS b (zl b (br b p) k) c):=λe f=>by let(G,L,v):=QM Z f d.1.sa d.2.1 B ();show ia (bE f (by rfl) W (aj (ag (af W)) aG) W L) #[W,v]
  cases n:p.1.wt with
  |none=>
   let Q:br b p=p:=by ext br;rw[n]
   let e1:lJ (jA p.1.wt) .none=-(.bool R):=by rw[n];rfl
   let E:=F u (by simp_all);let(ps,J,y,rfl):=h;show qj (aH (b8 (bx W) (ag aw) (bw e1))) (ng E)
  |some x=>
   let(X,g,w):=x;let e1:lJ (jA p.1.wt) .none=-(.bool S):=by rw[n];rfl
   let(e,C,f):=kG Z h j.sa n (j.wt _ _ _ n).1 ();let H:=bE (ρ:=[cL (.rf 0),-(nd k)]) (i:=0) (m:= "decide") h (by rfl) W aG W C;let(ps,J,y,rfl):=h;show ur (aH (b8 (bx W) (ag aw) (bw e1))) (kI H (F e f))
def kL(e:SW b p.1)(f:yD p.1.wt k=S):SW b (bN b p k).1/\(bN b p k).2.length<=p.2.length+5:=by
 ext bN;split
 .let d:=c8 Z e.sa (SW.wd Z e);simp_all
 .rename_i X g c n q
  let v:=(e.wt _ _ _ q).1;rw[q]at f;let h:=v.kn k (a7 f);let j:=(v.tp c n W).1;show#[Bg (SA.cm #[e.sa.ac,e.sa.oc] h j) W,?_];let:=l6 (p:=({p.1 with wt:=P},p.2)) (k:=k) (a:=.XG c)
  grind
 simp_all
def iO(o:HS b p Y)(j:SW b p.1)(l:yD p.1.wt k=S)(H:p.2.length<800):∃d,fT [.rf 0,.fz (nd k)] Y=.ok (.fz .none) d/\HS b (bN b p k) d:=by
 let K:=Z.n5;cases q:p.1.wt with
 |none=>rw[q]at l;ext l
 |some x=>
  let(X,g,w):=x;let v:=(j.wt _ _ _ q).1;let t:k∈X:=by rw[q]at l;show a7 l
  let e2:bf (jA p.1.wt) (.int 2)=-(sR w):=by rw[q];show nO
  let F:=(yq λc n h=>(v.tp c n h).1).1;let y:∀{Y:aK},bp (az (aA cK (ad 2) (pC (.tuple [.str "chord"])))) [M (.rf 0),-(nd k),-(sR w)] Y=.ok w.isNone Y:=aX (bh (aD (af W) aw W W F) W);cases w with
  |none=>
   let es:bN b p k=br b p:=by ext bN;rw[q]
   rw[es];let(r,u,e):=kG Z o j.sa q v ();let B:=bE (ρ:=[M (.rf 0),-(nd k),-(sR P)]) (i:=0) (m:= "decide") o (by left) W aG W u;let(ps,J,A,rfl):=o;show iB W (jd (cO (bx W) (ag aw) e2) W (qN y (ia B #[W,e])))
  |some G=>
   let(c,n):=G;let es:bN b p k=eB ({p.1 with wt:=P},p.2) k (.XG c):=by ext bN;rw[q]
   rw[es];let E:=(v.tp c n W).1;let I:=v.kn k t;let(ps,J,A,rfl):=o;let f:HS b ({p.1 with wt:=P},p.2) (dg b {p.1 with wt:=P} p.2 ps J):=#[ps,J,A,W];let(r,u,e):=pN (k:=k) (a:=.XG c) f (SA.ak Z #[j.sa.ac,j.sa.oc]) E () (show p.2.length<1000 by ext);let C:bf (sR (M (c,n))) (.int 1)=-(.str (dL c)):=jJ;show iB W (jd (cO (bx W) (ag aw) e2) W (dB y (Ah (ke P W (ag aw)) (ia (bE f (by left) W (aj (ag (af W)) (aj (ag (bq (ah aw (ah (aD (af W) aw W W C) av)) W (W8 W))) aG)) W u) #[W,e]))))
omit Z in
theorem Nd(f:SW b p.1):SW b (go p k).1:=by
 refine⟨f.sa.gg,?_⟩;unfold go;split
 .intro X g w e;obtain⟨v,j⟩:=f.wt X g w e;exact⟨⟨v.ne,v.nd,v.kn,λx h=>by
   by_cases z:x=k
   .rw[z];exact cZ
   .exact(eK z).trans (v.kf x h),v.g0,v.tp,v.ch⟩,j⟩
 .exact f.wt
def Mb(e:SW b p.1):SW b (kO b p k).1:=by
 ext kO;split
 .rename_i q;show Nd (kL Z e q).1
 .show Nd e
def JL(e:HS b p Y)(h:SW b p.1)(F:(k:Int)<b.n)(A:p.2.length<700):∃c,iq [.rf 0,.fz (nd k)] Y=.ok (.fz .none) c/\HS b (kO b p k) c:=by
 let G:=Z.n5;let j:k<5:=by ext
 let f:∀{p:Y5×Sn} {Y:aK},HS b p Y->SW b p.1->p.2.length<800->GoS (bT (aW (sN R (ae (ad 1)) (aV "Hand" "acts" (aq 0)))) (bv (aM "Hand" "go" iQ 2 (aq 0) (ai (ae (ad 1)) aI))) bP [M (.rf 0),-(nd k)] Y) (λ_ c=>SV.fz .none=.fz .none/\HS b (go p k) c) (λ_ _=>False) (λr c=>r=.fz .none/\HS b (go p k) c):=λ{p Y} e h A=>by
  cases n:p.1.ac k with
  |none=>
   let E:go p k=p:=by ext go;rw[n]
   rw[E];let(ps,J,l,rfl):=e;show dB (aH ((zy (ag (af W)) (gO W) W W).trans (by rw[show jf (ps.map jH) (.inl (k:Int))=_ from mJ l j,n];rfl))) (j8 #[W,ps,J,l,W])
  |some a=>let(u,B,o):=TD e (h.sa.ak Z) n ();let y:=bE (ρ:=[M (.rf 0),-(nd k)]) (i:=0) (m:= "go") (fa:=ai (ae (ad 1)) aI) e (by rfl) W (aj (ag (af W)) aG) W B;let(ps,J,l,rfl):=e;show qN (aH ((zy (ag (af W)) (gO W) W W).trans (by rw[show jf (ps.map jH) (.inl (k:Int))=_ from mJ l j,n];rfl))) (ia y #[W,o])
 show iB W (xF (aH (bE e (by rfl) W (aj (ag (af W)) aG) W (FR e))) (λq=>?_) λq=>?_)
 .ext kO;rw[ax q];let(v,C,t):=iO Z e h q ();let z:=kL Z h q;show kI (bE e (by rfl) W (aj (ag (af W)) aG) W C) (f t z.1 ())
 .ext kO;rw[a4 (by rw[q];simp)];show ng (f e h ())
def LK(f:SW b p.1):SW b (fE b p).1:=by
 ext fE;split
 .show f
 .rename_i X g w q
  let(v,l):=f.wt X g w q;let j:WV b p.1.ac X (g+1) w:=#[v.ne,v.nd,v.kn,v.kf,by let:=v.g0;ext,v.tp,v.ch];split
  .show(c8 Z (p:=({p.1 with wt:=M (X,g+1,w)},p.2)) #[f.sa.ac,f.sa.oc] λ_ _ _ e=>by simp_all).1
  .rename_i h;show#[#[f.sa.ac,f.sa.oc],λ_ _ _ e=>by ext e;show#[j,by ext]]
def KG(o:HS b p Y)(f:SW b p.1)(t:p.2.length<800):∃c,fA [.rf 0] Y=.ok (.fz .none) c/\HS b (fE b p) c:=by
 let(ps,J,l,rfl):=o;cases q:p.1.wt with
 |none=>
  let j:fE b p=p:=by ext fE;rw[q]
  rw[j];let e1:oj (jA p.1.wt) .none=-(.bool S):=by rw[q];rfl
  show iB W (ur (aH (b8 (bx W) (ag aw) (bw e1))) (vg #[W,ps,J,l,W]))
 |some x=>
  let(X,g,w):=x;let v:=(f.wt _ _ _ q).1;let n:WV b p.1.ac X (g+1) w:=#[v.ne,v.nd,v.kn,v.kf,by let:=v.g0;ext,v.tp,v.ch];let j:fE b p=if g+1=b.wt then br b ({p.1 with wt:=M (X,g+1,w)},p.2)else({p.1 with wt:=M (X,g+1,w)},p.2):=by ext fE;rw[q]
  rw[j];let e1:oj (jA p.1.wt) .none=-(.bool R):=by rw[q];rfl
  let e0:bf (jA p.1.wt) (.int 0)=-(.tuple (aZ X)):=by rw[q];show iH
  let e2:bf (jA p.1.wt) (.int 2)=-(sR w):=by rw[q];show nO
  let e3:bf (jA p.1.wt) (.int 1)=-(.int g):=by rw[q];show jJ
  let e4:bf (bD b) (.int 3)=-(.int b.wt):=Rm W;let e:HS b ({p.1 with wt:=M (X,g+1,w)},p.2) (dg b {p.1 with wt:=M (X,g+1,w)} p.2 ps J):=#[ps,J,l,W];show iB W (qj (aH (b8 (bx W) (ag aw) (bw e1))) (ng (jd (b8 (cO (bx W) (ag aw) e3) (ag aw) (bw (eW _ _))) W (Ah (ke (M (X,g+1,w)) W (uX (aj (cO (bx W) (ag aw) e0) (aj (ag (af W)) (aj (cO (bx W) (ag aw) e2) aG))) (W8 W))) (wU (aH (b8 (ag (af W)) (cO (on W) (ag aw) e4) (bw (jr _ _)))) (λz=>?_) λz=>?_)))))
  .rw[ax (a7 z)];let(m,r,h):=kG Z e #[f.sa.ac,f.sa.oc] W n (show p.2.length<900 by ext);show ia (bE e (by rfl) W aG W r) #[W,h]
  .rw[a4 (of_decide_eq_false z)];show j8 #[W,e]
def Evn.ae8:Evn->Bool
 |.turn=>S
 |_=>R
def Evn.isDown:Evn->Bool
 |.down _=>S
 |_=>R
def EV(b:Bd):Evn->Prop
 |.down k=>(k:Int)<b.n
 |.up k=>(k:Int)<b.n
 |.turn=>True
def pY(f:SW b s)(h:EV b e):SW b (bJ b s e).1:=by
 cases e with
 |down k=>show Hr Z f h
 |up k=>show Mb Z f
 |turn=>show LK Z f
omit Z in
theorem sX:∀l:bg (Nat×Mn),aB rj (l.map pD)=cL (l.map jH)
 |[]=>rfl
 |q::r=>by rw[Xt];unfold aB;rw[sX r];rfl
omit Z in
theorem wZ:∀(l acc:bg (Nat×Mn)),((acc++l).map (·.1)).Nodup->lA (acc.map jH) (l.map jH)=(acc++l).map jH
 |[],acc,_=>by rw[X5];rfl
 |q::r,acc,h=>by
  have hn:∀x∈acc,x.1≠q.1:=λx f e=>by rw[XQ,Zy]at h;exact h.2.2 _ (Xv.mpr ⟨x,f,rfl⟩) q.1 Xb e
  have e1:jx (acc.map jH) (jH q).1 (jH q).2=(acc++[q]).map jH:=by
   unfold jx;rw[a4 ?_,XQ]
   .rfl
   .intro z;obtain⟨kv,n,m⟩:=acf.mp z;obtain⟨x,j,rfl⟩:=Xv.mp n;have:=Sum.inl.inj (a7 m);exact hn x j (by ext)
  show lA (jx (acc.map jH) (jH q).1 (jH q).2) (r.map jH)=_;rw[e1,wZ r (acc++[q]) (by rw[X2];exact h),X2];rfl
omit Z in
theorem Mv:de [.rf 0,.fz (bD b),.fz (fP s)] [.obj "Hand" []]=.ok (.fz .none) (dg b s [] (gv s.ac) []):=by
 have e0:bf (fP s) (.int 0)=-(.tuple ((gv s.ac).map pD)):=iH;have e1:bf (fP s) (.int 1)=-(jA s.wt):=jJ;have e2:bf (fP s) (.int 2)=-(sK s.oc):=nO;have v:g7 "bed" (.fz (bD b)) []=([("bed",.fz (bD b))]:bg (Str×SV)):=rfl;have q:g7 "acts" (.rf 1) ([("bed",.fz (bD b))]:bg (Str×SV))=([("bed",.fz (bD b)),("acts",.rf 1)]:bg (Str×SV)):=by unfold g7;rw[a4 (by left)];rfl
 have o:g7 "waiting" (.fz (jA s.wt)) ([("bed",.fz (bD b)),("acts",.rf 1)]:bg (Str×SV))=([("bed",.fz (bD b)),("acts",.rf 1),("waiting",.fz (jA s.wt))]:bg (Str×SV)):=by unfold g7;rw[a4 (by left)];unfold g7;rw[a4 (by left)];rfl
 have n:g7 "once" (.fz (sK s.oc)) ([("bed",.fz (bD b)),("acts",.rf 1),("waiting",.fz (jA s.wt))]:bg (Str×SV))=([("bed",.fz (bD b)),("acts",.rf 1),("waiting",.fz (jA s.wt)),("once",.fz (sK s.oc))]:bg (Str×SV)):=by unfold g7;rw[a4 (by left)];unfold g7;rw[a4 (by left)];unfold g7;rw[a4 (by left)];rfl
 have m:g7 "sent" (.rf 2) ([("bed",.fz (bD b)),("acts",.rf 1),("waiting",.fz (jA s.wt)),("once",.fz (sK s.oc))]:bg (Str×SV))=Mj b s:=by unfold g7;rw[a4 (by left)];unfold g7;rw[a4 (by left)];unfold g7;rw[a4 (by left)];unfold g7;rw[a4 (by left)];rfl
 have r:lA [] ((gv s.ac).map jH)=(gv s.ac).map jH:=wZ (gv s.ac) [] (sd s.ac);have j:∀{x:SV} {ρ:aP} {fs:bg (Str×SV)} {Y:aK} {l:cx} {f:Str} {c:Cell} {e:aK},ρ[0]?=cL (cL (.rf 0))->l ρ Y=.ok x (.obj "Hand" fs::e)->fs.length<100->eR "Hand" f (aq 0) l ρ Y=.ok (.nx ρ) (.obj "Hand" (g7 f x fs)::e):=λh u t=>(oA u (aN h) rfl t).trans rfl
 have ha:sW (ae (aA bf (ad 2) (~~~0))) [cL (.rf 0),-(bD b),-(fP s)] [.obj "Hand" ([("bed",.fz (bD b))]:bg (Str×SV))]=.ok (.rf 1) [.obj "Hand" ([("bed",.fz (bD b))]:bg (Str×SV)),.dct ((gv s.ac).map jH)]:=
  (Kf (ag (d:=.tuple ((gv s.ac).map pD)) (aD (rv:=.fz (.tuple ((gv s.ac).map pD))) (af rfl) aw rfl rfl e0)) (sX _)).trans (by rw[r];rfl)
 refine mW (ρ:=[cL (.rf 0),-(bD b),-(fP s)]) (ρ1:=[cL (.rf 0),-(bD b),-(fP s)]) rfl (cJ (j rfl (c:=.dead) (ag (d:=bD b) (af rfl)) (W8 rfl)) (cJ (j rfl (c:=.dead) ha (W8 rfl)) (cJ (j rfl (c:=.dead) (ag (d:=jA s.wt) (aD (rv:=.fz (jA s.wt)) (af rfl) aw rfl rfl e1)) (W8 rfl)) (cJ (j rfl (c:=.dead) (ag (d:=sK s.oc) (aD (rv:=.fz (sK s.oc)) (af rfl) aw rfl rfl e2)) (W8 rfl)) ?_))));rw[q,o,n];refine(j (fs:=([("bed",.fz (bD b)),("acts",.rf 1),("waiting",.fz (jA s.wt)),("once",.fz (sK s.oc))]:bg (Str×SV))) rfl (c:=.dead) (gc (ds:=[]) (lW av rfl (X1 _))) (W8 rfl)).trans ?_;show RS.ok _ (Cell.obj "Hand" (g7 "sent" (.rf 2) ([("bed",.fz (bD b)),("acts",.rf 1),("waiting",.fz (jA s.wt)),("once",.fz (sK s.oc))]:bg (Str×SV)))::_)=_;rw[m];rfl
omit Z in
theorem Kj(e:Evn):∃x:Str,bf (eS e) (.int 0)=-(.str x)/\cK (.str x) (.str "turn")=-(.bool (e.ae8))/\cK (.str x) (.str "down")=-(.bool (e.isDown)):=by
 have h:Xe.strOk "down"=W3:=by left
 have j:Xe.strOk "up"=W3:=by left
 have f:Xe.strOk "turn"=W3:=by left
 cases e with
 |down k=>exact⟨"down",iH,z9 h f (by left),Oa h⟩
 |up k=>exact⟨"up",iH,z9 j f (by left),z9 j h (by left)⟩
 |turn=>exact⟨"turn",iH,Oa f,z9 f h (by left)⟩
def Ky(q:SW b s)(y:EV b e):∃c,lj [.fz (bD b),.fz (fP s),.fz (eS e)] []=.ok (.tp [.rf 2,.fz (fP (bJ b s e).1)]) c/\sh c (.rf 2)=M (.list ((bJ b s e).2.map nu)):=by
 let h:HS b (s,[]) (dg b s [] (gv s.ac) []):=#[gv s.ac,[],.refl _,W];let(x,u,B,A):=Kj e;let o:∀{Y:aK},bp (az (aA cK (aA bf (ad 2) (~~~0)) (pC (.str "turn")))) [-(bD b),-(fP s),-(eS e),M (.rf 0)] Y=.ok (e.ae8) Y:=aX (bh (aD (aD (af W) aw W W u) aw W W B) W);let v:∀{Y:aK},bp (az (aA cK (aA bf (ad 2) (~~~0)) (pC (.str "down")))) [-(bD b),-(fP s),-(eS e),M (.rf 0)] Y=.ok (e.isDown) Y:=aX (bh (aD (aD (af W) aw W W u) aw W W A) W);let n:∀{Y:aK},HS b (bJ b s e) Y->GoS (gw (mF (ai (aV "Hand" "sent" (aq 3)) (ai (aM "Hand" "stands" bB 1 (aq 3) aI) aI))) [-(bD b),-(fP s),-(eS e),M (.rf 0)] Y) (λ_ c=>SV.fz .none=.tp [.rf 2,.fz (fP (bJ b s e).1)]/\sh c (.rf 2)=M (.list ((bJ b s e).2.map nu))) (λ_ _=>False) (λr c=>r=.tp [.rf 2,.fz (fP (bJ b s e).1)]/\sh c (.rf 2)=M (.list ((bJ b s e).2.map nu))):=λ{Y} L=>by let(j,l,f):=nZ L;let m:=bE (ρ:=[-(bD b),-(fP s),-(eS e),M (.rf 0)]) (i:=3) (m:= "stands") L (by rfl) W aG W l;let(ps,J,G,rfl):=L;let(E,H,F,rfl):=f;show QC (TF (aj (vk W) (aj m aG)) (W8 W) W W) #[W,g8 W]
 let C:rR "Hand" de 3 (ai (ae (ad 0)) (ai (ae (ad 1)) aI)) [-(bD b),-(fP s),-(eS e),P] []=.ok (.rf 0) (dg b s [] (gv s.ac) []):=Q7 (aj (ag (af W)) (aj (ag (af W)) aG)) W Mv;show iB W (jd C W ?_);cases e with
 |turn=>let(j,l,f):=KG Z h q (show 0<800 by decide);show ur o (kI (bE h (by rfl) W aG W l) (n f))
 |down k=>let(j,l,f):=G9 Z h q y (show 0<800 by decide);let t:bf (eS (.down k)) (.int 1)=-(nd k):=jJ;show qj o (ur v (kI (bE h (by rfl) W (aj (ag (aD (af W) aw W W t)) aG) W l) (n f)))
 |up k=>let(j,l,f):=JL Z h q y (show 0<700 by decide);let t:bf (eS (.up k)) (.int 1)=-(nd k):=jJ;show qj o (qj v (kI (bE h (by rfl) W (aj (ag (aD (af W) aw W W t)) aG) W l) (n f)))
def SU{e:Evn}(h:SW b s)(l:EV b e):jU lj 3 [.fz (bD b),.fz (fP s),.fz (eS e)] Y=.ok (.tp [.rf Y.length,.fz (fP (bJ b s e).1)]) (Y++[.lst (((bJ b s e).2.map nu).map .fz)]):=by
 let(f,n,m):=Ky Z h l;ext jU;rw[ax (show([.fz (bD b),.fz (fP s),.fz (eS e)]:G SV).length=3 from rfl),show aB vR [.fz (bD b),.fz (fP s),.fz (eS e)]=M [bD b,fP s,eS e]from rfl];dsimp only;rw[show[bD b,fP s,eS e].map SV.fz=[.fz (bD b),.fz (fP s),.fz (eS e)]from rfl,n];show(match DD f Y.length [.rf 2,.fz (fP (bJ b s e).1)]with
  |some (o,cs,q)=>if q.Nodup then RS.ok (SV.tp o) (Y++cs.map Uz)else .bad
  |none=>.bad)=_
 let j:DD f Y.length [.rf 2,.fz (fP (bJ b s e).1)]=M ([.rf Y.length,.fz (fP (bJ b s e).1)],[(bJ b s e).2.map nu],[2]):=by ext DD;rw[m];rfl
 rw[j];dsimp only;rw[ax ()];rfl
end
def uw:Y5:=#[λ_=>P,P,P]
theorem mY(b:Bd):SW b uw:=#[#[λk a e=>(by ext e),λo e=>(by ext e)],λf g w e=>(by ext e)]
theorem B2{α:Type}{f:α->D}{n:Nat}:∀{l:G α},(∀a∈l,Xe.depth (f a)<=n)->Xe.depthAll (l.map f)<=n
 |[],_=>X1 _
 |a::r,h=>akq.mpr #[h a Xb,B2 λx b=>h x (Xf _ b)]
def Ny{d:D}(b:Xe.canLay0 d=S)(a:Xe.depth d<=64):kq d=S:=by ext kq;simp_all
def ul{d:D}(h:kq d=S):Xe.canLay0 d=S:=by unfold kq at h;simp_all
def JO{d:D}(h:kq d=S):pO d d=-(.bool R):=by ext pO;rw[h,ul h,Y1,ax W,aaN d (ul h)];rfl
def Bt{d:D}(h:kq d=S):cK d d=-(.bool S):=by ext cK;rw[h,ul h,Y1,ax W,aaN d (ul h)]
def aak(sn:Sn):Prop:=∀q∈sn,q.1<26
section
variable{b:Bd}(Z:VB b){s:Y5}{p:Y5×Sn}{k:Nat}{a:Mn}
theorem aak.app{x y:Sn}(f:aak x)(e:aak y):aak (x++y):=λq g=>(X3.mp g).elim (f q) (e q)
def kg(h:aak p.2)(d:LB a):aak (eB p k a).2:=by
 show h.app λq e=>?_;cases a with
 |XG c=>
  let e:q∈(if lM p.1.ac (.XG c)=S then[]else[(c,S)]:Sn):=e;split at e
  .ext e
  .rw[Xo.mp e];show d
 |_=>ext e
def G0(e:G (Nat×Mn)):∀{p:Y5×Sn},aak p.2->(∀q∈e,LB q.2)->aak (gD p e).2:=by
 induction e with
 |nil=>show λh _=>h
 |cons q r g=>show λh f=>g (kg h (f q Xb)) λx i=>f x (Xf _ i)
def NH(h:aak p.2)(d:SA b p.1):aak (go p k).2:=by
 ext go;split
 .rename_i a q
  let lb:=(d.ac k a q).2.lb;show h.app λx e=>?_;cases a with
  |XG c=>
   let e:x∈(if lM (jO p.1.ac k P) (.XG c)=S then[]else[(c,R)]:Sn):=e;split at e
   .ext e
   .rw[Xo.mp e];show lb
  |_=>ext e
 .show h
include Z
def l8(h:aak p.2)(i:WD b p.1):aak (br b p).2:=by
 ext br;split
 .show h
 .rename_i e g w q;show G0 _ (p:=({p.1 with wt:=P},p.2)) h λx f=>(uF Z (i e g w q) x f).2.lb
def OS(h:aak p.2)(f:SA b p.1)(i:(k:Int)<b.n):aak (zl b p k).2:=by
 let(o,l):=u6 Z f;let(e,g):=vW Z (k:=k) o l i;let j:zl b p k=uP b (i6 p.1.ac p.1.oc) (di p.1 (look b (i6 p.1.ac p.1.oc) k),p.2) k (look b (i6 p.1.ac p.1.oc) k):=W;rw[j];generalize look b (i6 p.1.ac p.1.oc) k=m at e g;generalize i6 p.1.ac p.1.oc=L at e;let lb:=e.lb;cases m with
 |tap c n=>show h
 |XG c=>
  show aak (if(decide (L=0)&& !(cQ b [k]).isEmpty)=S then({di p.1 (.XG c)with wt:=M ([k],0,P)},p.2)else eB (di p.1 (.XG c),p.2) k (.XG c)).2;split
  .show h
  .show kg (p:=(di p.1 (.XG c),p.2)) h lb
 |Zh n=>show kg (p:=(di p.1 (.Zh n),p.2)) h lb
 |once n=>show kg (p:=(di p.1 (.once n),p.2)) (k:=k) (a:=.none) h trivial
 |none=>show kg (p:=(di p.1 .none,p.2)) h lb
 |below=>simp_all
def BG{e:Evn}(h:SW b s)(j:EV b e):aak (bJ b s e).2:=by
 let f:aak []:=λq m=>by ext m
 cases e with
 |turn=>
  show aak (fE b (s,[])).2;ext fE;split
  .show f
  .rename_i i g w q
   let v:=(h.wt i g w q).1;split
   .show l8 Z (p:=({s with wt:=M (i,g+1,w)},[])) f λ_ _ _ e=>by ext e;show#[v.ne,v.nd,v.kn,v.kf,by let:=v.g0;ext,v.tp,v.ch]
   .show f
 |up k=>
  show aak (kO b (s,[]) k).2;ext kO;split
  .rename_i q
   let z:=kL Z (p:=(s,[])) h q;show NH ?_ z.1.sa;ext bN;split
   .show l8 Z (p:=(s,[])) f (SW.wd Z h)
   .rename_i c n e;let o:c<26:=((h.wt _ _ _ e).1.tp c n W).1;show kg (p:=({s with wt:=P},[])) f o
   .show f
  .show NH (p:=(s,[])) f h.sa
 |down k=>
  show aak (gf b (s,[]) k).2;ext gf;split
  .show f
  .rename_i q
   rw[Yz,not_or]at q;let t:s.ac k=P:=by simp_all
   let r:yD s.wt k=R:=by simp_all
   split
   .rename_i l
    let(i,g,e1,e2,e3,e4):=uC Z (p:=(s,[])) h j t r l;let e1:s.wt=M (i,g,P):=e1;ext pA;dsimp only;rw[e1];dsimp only;split
    .show l8 Z (p:=({s with wt:=M (i++[k],g,P)},[])) f λ_ _ _ e=>by ext e;show e3
    .show f
   .let d:=c8 Z (p:=(s,[])) h.sa (SW.wd Z h);show OS Z (l8 Z (p:=(s,[])) f (SW.wd Z h)) d.1.sa j
end
end STP
namespace K71
open PySem L2 L3 STP
def ip:FS:=(dA (NA (az (aA QV (ad 1) (hG dY {ad 0}))) (aA bf (ad 0) (ad 1)) (~~~0)))
def a8:FN:=fD 2 ip
def iw:FS:=(bM (dX (aA qC (aA iL (aA bO (aA qC (ad 0) (~~~1000033)) (ad 1)) (aA bO (ad 1) (~~~521))) (~~~1000033)) (gN 3))
 (bM (dX (aA qC (aA bO (aA bO (aA iL (ad 3) (ad 3)) (aA yg (ad 0) (~~~1000033))) (aA iL (~~~7) (ad 1))) (~~~999983)) (gN 3))
 (dA (aA qC (aA yg (ad 3) (~~~3)) (ad 2)))))
def aF:FN:=fD 4 iw
def cT:FS:=(bM (dX (aA i7 (pC (.str "abc")) (b6 aF 3 {ad 0,~~~5,~~~3})) (gN 3))
 (bM (dX (aA bO (~~~1) (b6 aF 3 {ad 0,~~~7,hG xN {~~~1,aA sO (ad 2) (~~~1)}})) (gN 4))
 (bM (dX (b6 aF 3 {ad 0,~~~3,~~~8}) (gN 5))
 (bM (nk (sM (az (aA DF (ad 1) (~~~0))) (az (aA DF (ad 5) (~~~5)))) (dA (aU {pC (.str "below")})) eO)
 (bM (nk (sM (az (aA DF (ad 2) (~~~1))) (az (aA cK (ad 5) (~~~3)))) (dA (aU {pC (.str "layer"),ad 4})) eO)
 (bM (nk (sM (az (aA DF (ad 2) (~~~1))) (az (aA cK (ad 5) (~~~4)))) (dA (aU {pC (.str "tap"),ad 3,ad 4})) eO)
 (bM (nk (sM (az (aA DF (ad 2) (~~~1))) (az (aA cK (ad 5) (~~~5)))) (dA (aU {pC (.str "once"),ad 4})) eO)
 (dA (aU {pC (.str "letter"),ad 3})))))))))
def dI:FN:=fD 6 cT
def fG:FS:=(bM (dX (b6 a8 2 {ad 0,~~~0}) (gN 2))
 (bM (dX (aA bO (~~~1) (b6 aF 3 {ad 2,~~~1,ad 1})) (gN 3))
 (bM (dX (aA bO (~~~1) (b6 aF 3 {ad 2,~~~2,~~~2})) (gN 4))
 (bM (dX (dC am) (gN 5))
 (bM (sL (pI kR {ad 4}) (gN 6) (bM (dX (dQ 1 [0,3,6] (pI kR {ad 3}) (gN 0) cS (b6 a8 2 {ad 1,aA bO (aA bO (~~~1) (aA iL (ad 2) (ad 3))) (ad 0)})) (gN 7))
 (sA (Ch 5 (hG lu {dQ 1 [6,4] (iW (ad 7)) (gN 0) cS (b6 dI 3 {ad 0,ad 1,ad 2})})))))
 (bM (dX (hG lu {dQ 1 [5] (pI kR {ad 3}) (gN 0) (az (aA cK (aA bf (aA bf (aA bf (ad 1) (~~~0)) (ad 0)) (~~~0)) (pC (.str "letter")))) (ad 0)}) (gN 8))
 (bM (dX (aU am) (gN 9))
 (bM (nk (sM (az (aA DF (hG dY {ad 8}) (~~~1))) (az (aA DF (b6 aF 3 {ad 2,~~~17,~~~3}) (~~~0)))) (dX (aU {aU {DH UK (ad 8) o0 (gY (~~~2)),aA i7 (pC (.str "abd")) (b6 aF 3 {ad 2,~~~19,~~~3})}}) (gN 9)) eO)
 (dA (aU {ad 3,hG lu {ad 5},ad 9,aA bO (~~~1) (b6 aF 3 {ad 2,~~~23,~~~2})}))))))))))
def gW:FN:=fD 10 fG
def fu:FS:=(bM (dX (b6 a8 2 {ad 0,~~~0}) (gN 1))
 (bM (dX (dQ 1 [0] (pI kR {~~~3}) (gN 0) cS (aU {pC (.str "letter"),aA i7 (pC (.str "abc")) (b6 aF 3 {b6 a8 2 {ad 1,aA bO (~~~1) (ad 0)},~~~5,~~~3})})) (gN 2))
 (bM (dX (aA bf (dC {aU {~~~0,~~~1},aU {~~~0,~~~2},aU {~~~1,~~~2}}) (b6 aF 3 {ad 1,~~~29,~~~3})) (gN 3))
 (dA (aU {~~~3,aU {hG lu {ad 2}},aU {aU {ad 3,aA i7 (pC (.str "abd")) (b6 aF 3 {ad 1,~~~19,~~~3})}},aA bO (~~~1) (b6 aF 3 {ad 1,~~~23,~~~2})})))))
def dM:FN:=fD 4 fu
def gj:FS:=(bM (dX (b6 a8 2 {ad 0,~~~9}) (gN 1))
 (bM (dX (dQ 1 [0] (pI kR {b6 aF 3 {ad 1,~~~131,~~~3}}) (gN 0) cS (b6 aF 3 {b6 a8 2 {ad 1,aA bO (~~~10) (ad 0)},~~~127,~~~7})) (gN 2))
 (dA (RH tL (pC (.str "")) {dQ 1 [] (iW (ad 2)) (gN 0) cS (aA i7 (pC (.str "aabbcdz")) (ad 0))}))))
def hV:FN:=fD 3 gj
def d6:FS:=(bM (dX (hG L9.R8 {aA bf (ad 0) (~~~0)}) (gN 1))
 (dA (aA bO (aA bO (dQ 1 [] (iW (ad 1)) (gN 0) cS (aU {pC (.str "down"),ad 0})) (dQ 1 [] (iW (ad 1)) (gN 0) cS (aU {pC (.str "up"),ad 0}))) (dC {aU {pC (.str "turn"),~~~0}}))))
def fL:FN:=fD 2 d6
def fX:FS:=(bM (sL (iW (ad 2)) (gT 2 (Cf (gN 3) (Cf (gN 4) N4))) (nk (az (aA cK (ad 4) (pC (.str "down")))) (bM (nk (az (aA pO (DH jP (ad 0) (gY (ad 1)) (gY (aA bO (ad 1) (~~~1)))) (ad 3))) (dA (pC .none)) eO)
 (dX (aA bO (ad 1) (~~~1)) (gN 1))) eO))
 (dA (ad 1)))
def iu:FN:=fD 5 fX
def gq:FS:=(bM (dX (dQ 1 [] (pI kR {aA bf (ad 0) (~~~0)}) (gN 0) cS (aU {pC (.str "down"),ad 0})) (gN 1))
 (bM (dX (dQ 1 [] (pI kR {aA bf (ad 0) (~~~0)}) (gN 0) cS (aU {pC (.str "up"),ad 0})) (gN 2))
 (dA (aA bO (aA bO (ad 1) (ad 2)) (dC {aU {pC (.str "turn"),~~~0}})))))
def gh:FN:=fD 3 gq
def d8:FS:=(bM (dX (RH tL (pC (.str "")) {dQ 2 [] (iW (ad 2)) (gT 2 (Cf (gN 0) (Cf (gN 1) N4))) (az (aA cK (ad 1) (pC (.str "down")))) (ad 0)}) (gN 3))
 (bM (dX (aA bO (ad 1) (hG Ik {ad 3})) (gN 4))
 (bM (nk (az (aA pO (DH jP (ad 0) (gY (ad 1)) (gY (ad 4))) (ad 3))) (dA (pC .none)) eO)
 (dA (ad 4)))))
def fS:FN:=fD 5 d8
end K71
namespace K71
open PySem L2 L3 L10 STP
def bQ:dH:=(aC (bT (aW (qY S (ae (ad 1)) (aV "Places" "numbers" (aq 0)))) (aC (bT (aW (jv UM (y1 dY (ai (aV "Places" "found" (aq 0)) aI)) (aV "Places" "most" (aq 0)))) (nr "TooMany" "most" (aV "Places" "most" (aq 0))) bP)
 (aC (lG (aV "Places" "numbers" (aq 0)) (ae (ad 1)) (y1 dY (ai (aV "Places" "found" (aq 0)) aI)))
 (bv (lY (aV "Places" "found" (aq 0)) (ae (aU {ad 1,ad 2,ad 3})))))) bP)
 (gw (jZ (aV "Places" "numbers" (aq 0)) (ae (ad 1)))))
def bS:fH:=cI 4 bQ
def bF:dH:=(aC (eR "Places" "most" (aq 0) (ae (ad 2)))
 (aC (eR "Places" "found" (aq 0) (ae (dC am)))
 (aC (eR "Places" "numbers" (aq 0) su)
 (bv (oH "Places" "enter" bS 4 (aq 0) (ai (ae (ad 1)) (ai (ae (pC .none)) (ai (ae (pC .none)) aI))))))))
def cB:fH:=cI 3 bF
def ir:dH:=(aC (ce (sB (ae (b6 gh 1 {ad 0}))) (dZ 3))
 (aC (ce (Dv "Places" cB 3 (ai (ae (aU {pC (.tuple [(.tuple []),.none,.none]),~~~0})) (ai (ae (ad 2)) aI))) (dZ 4))
 (aC (ce (ae (~~~0)) (dZ 5))
 (aC (uO (aW (jv QV (ae (ad 5)) (y1 dY (ai (aV "Places" "found" (aq 4)) aI)))) (aC (ce (i7 (i7 (aV "Places" "found" (aq 4)) (ae (ad 5))) (ae (~~~0))) (dZ 6))
 (aC (sC (mZ (iW (ad 3))) (dZ 7) (aC (ce (sB (qB STP.lj 3 (ai (ae (ad 0)) (ai (ae (aA bf (ad 6) (~~~0))) (ai (ae (ad 7)) aI))))) (dZ 8))
 (aC (ce (ae (b6 fS 3 {ad 1,aA bf (ad 6) (~~~1),aA bf (ad 8) (~~~0)})) (dZ 9))
 (bT (bp (az (aA lJ (ad 9) (pC .none)))) (bv (oH "Places" "enter" bS 4 (aq 4) (ai (ae (aU {aA bf (ad 8) (~~~1),ad 9})) (ai (ae (ad 5)) (ai (ae (ad 7)) aI))))) bP))))
 (Dc 5 Rc (ae (~~~1))))))
 (gw (aq 4))))))
def gb:fH:=cI 10 ir
def fq:dH:=(aC (ce (ae (dC am)) (dZ 3))
 (aC (ce (ae (dC am)) (dZ 4))
 (aC (sC (gB (aV "Places" "found" (se gb 3 [] (ai (ae (ad 0)) (ai (ae (ad 1)) (ai (ae (ad 2)) aI)))))) (D3 3 (jF (dZ 5) (jF (dZ 6) (jF (dZ 7) vx)))) (aC (ce (DZ (bp (az (aA oj (ad 6) (pC .none)))) (ae (~~~0)) (jv bO (i7 (aq 3) (ae (ad 6))) (ae (~~~1)))) (dZ 8))
 (aC (bv (lY (aq 3) (ae (ad 8))))
 (bv (lY (aq 4) (ae (aU {aA bf (ad 5) (~~~0),aA bf (ad 5) (~~~1),ad 8})))))))
 (gw (aq 4)))))
def aL:fH:=cI 9 fq
def fR:dH:=(aC (ce su (dZ 2))
 (aC (ce (ae (~~~0)) (dZ 3))
 (aC (LD.forLS (aq 0) (dZ 4) (aC (bT (wf (bp (C1 (az (Cn "tuple" (ad 4))))) (wf (bp (az (aA pO (hG dY {ad 4}) (~~~3)))) (wf (aW (qY R (ae (DH N6 (ad 4) o0 (gY (~~~2)))) (aq 2))) (bp (az (aA QV (aA bf (ad 4) (~~~2)) (ad 3))))))) (gw (ae (pC .none))) bP)
 (aC (ce (ae (aA bf (ad 4) (~~~2))) (dZ 3))
 (lG (aq 2) (ae (DH N6 (ad 4) o0 (gY (~~~2)))) (ae (aA bf (ad 4) (~~~2)))))))
 (gw (aq 2)))))
def dh:fH:=cI 5 fR
def fK:dH:=(aC (ce (LA (ae (aU {aU {aU am,pC .none,pC .none},~~~0})) (ae (pC (.bool S)))) (dZ 3))
 (aC (sC (gB (kj (aq 2))) (D3 2 (jF (dZ 4) (jF (dZ 5) vx))) (aC (ce (jZ (aq 2) (ae (aU {ad 4,ad 5}))) (dZ 6))
 (sC (mZ (iW (b6 fL 1 {ad 0}))) (dZ 7) (aC (ce (sB (qB STP.lj 3 (ai (ae (ad 0)) (ai (ae (ad 4)) (ai (ae (ad 7)) aI))))) (D3 2 (jF (dZ 8) (jF (dZ 9) vx))))
 (aC (ce (ae (b6 iu 3 {ad 1,ad 5,ad 8})) (dZ 10))
 (bT (bp (az (aA lJ (ad 10) (pC .none)))) (aC (bT (aW (jv DF (mv (aq 2) (ae (aU {ad 9,ad 10})) (ae (aA bO (ad 6) (~~~2)))) (ae (aA bO (ad 6) (~~~1))))) (gw (ae (pC (.bool R)))) bP)
 (bT (aW (jv cK (jZ (aq 2) (ae (aU {ad 9,ad 10}))) (ae (aA bO (ad 6) (~~~1))))) (lG (aq 3) (ae (aU {ad 9,ad 10})) (ae (pC (.bool S)))) bP)) bP))))))
 (gw (jv cK (nQ (aq 3)) (nQ (aq 2))))))
def ez:fH:=cI 11 fK
def cb:fH:=λxs a=>match jU aL 3 xs a with
 |.ok (.rf i) o=>(match o[i]? with
  |some (.lst ys)=>.ok (.fz (nd ys.length)) o
  |_=>.bad)
 |.er x o=>if x.cls=("TooMany":Str)then(match x.fs with
  |[(f,.int k)]=>if f=("most":Str)then .ok (.fz (.tuple [.str "many",.int k])) o else .bad
  |_=>.bad)else .bad
 |_=>.bad
def Bu:dH:=(aC (ce (ae (b6 gW 2 {ad 0,~~~2})) (dZ 1))
 (aC (bT (bp (az (aA cK (b6 aF 3 {b6 a8 2 {ad 0,~~~0},~~~31,~~~6}) (~~~1)))) (ce (ae (b6 dM 1 {ad 0})) (dZ 1)) bP)
 (aC (ce (ae (b6 hV 1 {ad 0})) (dZ 2))
 (aC (ce (nG aL 3 [(.int 400)] (ai (ae (ad 1)) (ai (ae (ad 2)) aI))) (dZ 3))
 (aC (bT (wf (p9 (aW (EG "list" (aq 3)))) (wf (aW (jv cK (y1 dY (ai (aq 3) aI)) (ae (~~~0)))) (aW (jv pO (i7 (aq 3) (ae (~~~0))) (ae (aU {aU {aU am,pC .none,pC .none},~~~0,~~~0})))))) (gw (ae (pC (.bool R)))) bP)
 (aC (ce (mj dh 2 (ai (aq 3) (ai (ae (ad 2)) aI))) (dZ 4))
 (aC (bT (wf (aW (Gv (aq 4))) (p9 (aW (mj ez 3 (ai (ae (ad 1)) (ai (ae (ad 2)) (ai (aq 4) aI))))))) (gw (ae (pC (.bool R)))) bP)
 (aC (bv (lY (aq 3) (ae (pC .none))))
 (aC (ce (nG aL 3 [(.int 400)] (ai (ae (ad 1)) (ai (ae (ad 2)) aI))) (dZ 3))
 (aC (bT (aW (t7 (mj dh 2 (ai (aq 3) (ai (ae (ad 2)) aI))) (aq 4))) (gw (ae (pC (.bool R)))) bP)
 (aC (ce (hJ aF 3 (ai (ae (b6 a8 2 {ad 0,~~~13})) (ai (ae (~~~137)) (ai (y1 dY (ai (aq 3) aI)) aI)))) (dZ 5))
 (gw (x3 (jv cK (mj cb 3 (ai (ae (ad 1)) (ai (ae (ad 2)) (ai (y1 dY (ai (aq 3) aI)) aI)))) (y1 dY (ai (aq 3) aI))) (jv cK (mj cb 3 (ai (ae (ad 1)) (ai (ae (ad 2)) (ai (ae (ad 5)) aI)))) (ae (aU {pC (.str "many"),ad 5}))))))))))))))))
def F_law:fH:=cI 6 Bu
section
variable{ρ N:aP}{Q X Z T:aK}{x y z:SV}{i:Nat}{d:D}{Y:bg (D×D)}
def mI(h:Q[i]?=M (.dd Y)):iG Q (.rf i)=M (i,Y):=by ext iG;dsimp only;rw[h]
def BQ(a:o ρ Q=.ok x X)(hd:fd ρ X=.ok (.rf i) Z)(e:gA x=M k)(b:Z[i]?=M (.dd Y)):qY neg o fd ρ Q=.ok (.fz (.bool ((dJ Y k).isSome !=neg))) Z:=by ext qY;rw[a,d5,hd,d5,e];show((RS.X8 Z (iG Z (.rf i))).bind _)=_;rw[mI b];rfl
def ra(hd:fd ρ Q=.ok (.rf i) X)(a:o ρ X=.ok x Z)(f:gA x=M k)(e:Z[i]?=M (.dd Y))(b:dJ Y k=M d):jZ fd o ρ Q=.ok (.fz d) Z:=by ext jZ;rw[hd,d5,a,d5,f];show((RS.X8 Z (iG Z (.rf i))).bind _)=_;rw[mI e];show((RS.X8 Z (dJ Y k)).bind _)=_;rw[b];rfl
def rS(a:fv ρ Q=.ok (.fz d) X)(hd:fd ρ X=.ok (.rf i) Z)(e:o ρ Z=.ok x T)(g:gA x=M k)(f:T[i]?=M (.dd Y))(b:Y.length<1000000):lG fd o fv ρ Q=.ok (.nx ρ) (T.set i (.dd (gC Y k d))):=by ext lG;rw[a,d5,hd,d5,e,d5,g];show((RS.X8 T (iG T (.rf i))).bind _)=_;rw[mI f];show(if Y.length<1000000 then _ else _)=_;rw[ax b]
def mL(c:o ρ Q=.ok xs X)(b:xs.length=n)(a:F xs X=.ok x Z):mj F n o ρ Q=.ok x Z:=by ext mj;rw[c,d5,ax b,a,xu]
end
def xa{l r:aK}:(l++r)[l.length+t]?=r[t]? :=by rw[XT (),Zl]
def Lu{l r:aK}:(l++r).set (l.length+t) c=l++r.set t c:=by rw[aa9 _ _ (),Zl]
structure Pl where
 p:D
 b:D
 e:D
def IM(q:Pl):D:=.tuple [q.p,q.b,q.e]
def iA:G Pl->D->I Nat
 |[],_=>P
 |q::r,p=>if Xe.eqv q.p p=S then M 0 else(iA r p).map (·+1)
def iV:Nat->G Pl->G (D×D)
 |_,[]=>[]
 |k,q::r=>(q.p,nd k)::iV (k+1) r
theorem mK:∀(k:Nat) (fs:G Pl) (p:D),dJ (iV k fs) p=(iA fs p).map λi=>nd (k+i)
 |_,[],_=>rfl
 |k,q::r,p=>by
  let a:=mK (k+1) r p;unfold dJ at a⊢;unfold iV iA;rw[XZ];cases Xe.eqv q.p p with
  |true=>rfl
  |false=>dsimp only;rw[a,a4 Xs,Option.map_map];congr 1;funext i;show nd (k+1+i)=nd (k+(i+1));rw[abE,adM 1 i]
theorem wX:∀(k:Nat) (fs:G Pl) (q:Pl),iV k (fs++[q])=iV k fs++[(q.p,nd (k+fs.length))]
 |k,[],q=>rfl
 |k,a::r,q=>by show(a.p,nd k)::iV (k+1) (r++[q])=(a.p,nd k)::(iV (k+1) r++[(q.p,nd (k+(r.length+1)))]);rw[wX (k+1) r q,abE,adM 1 r.length]
theorem BJ:∀(k:Nat) (fs:G Pl),(iV k fs).length=fs.length
 |_,[]=>rfl
 |k,q::r=>dw (·+1) (BJ (k+1) r)
def KR(h:iA fs p=P):gC (iV 0 fs) p (nd fs.length)=iV 0 (fs++[#[p,b,e]]):=by
 let g:=mK 0 fs p;rw[h]at g;unfold dJ at g;let a:((iV 0 fs).find? λkv=>Xe.eqv kv.1 p)=P:=by
  cases q:(iV 0 fs).find? λkv=>Xe.eqv kv.1 p with
  |none=>rfl
  |some x=>rw[q]at g;ext g
 ext gC;rw[a,wX,ZJ];rfl
def DU(h:iA fs q.p=P)(f:Xe.eqv q.p q.p=S):iA (fs++[q]) q.p=M fs.length:=by
 induction fs with
 |nil=>show(if Xe.eqv q.p q.p=S then M 0 else _)=_;rw[ax f];rfl
 |cons a r b=>
  unfold iA at h;show(if Xe.eqv a.p q.p=S then M 0 else(iA (r++[q]) q.p).map (·+1))=_;by_cases e:Xe.eqv a.p q.p=S
  .rw[ax e]at h;ext h
  .rw[a4 e]at h⊢;rw[b (by cases k:iA r q.p with|none=>rfl|some _=>rw[k]at h;ext h)];rfl
def uz(h:LD.keyD p=S):Xe.eqv p p=S:=by
 show aaN p (LD.kd_lay p ?_);cases p with
 |tuple xs=>unfold LD.keyD at h;rw[W0]at h;ext LD.kd;show h.1
 |_=>simp[LD.keyD]at h
def pF(m:Int)(j k:Nat):G (Str×SV):=[("most",.fz (.int m)),("found",.rf j),("numbers",.rf k)]
structure PSt(i j k:Nat)(m:Int)(fs:G Pl)(ω:aK):Prop where
 o:ω[i]?=M (.obj "Places" (pF m j k))
 f:ω[j]?=M (.lst ((fs.map IM).map .fz))
 n:ω[k]?=M (.dd (iV 0 fs))
 jk:j≠k
 ij:i≠j
 ik:i≠k
 lt:fs.length<100000
def sQ(j k:Nat)(fs:G Pl)(a:aK):aK:=(a.set k (.dd (iV 0 fs))).set j (.lst ((fs.map IM).map .fz))
section
variable{i j k:Nat}{m:Int}{fs:bg Pl}{Y:aK}{p b e:D}
def PSt.ent(h:PSt i j k m fs Y)(l:fs.length+1<100000):PSt i j k m (fs++[q]) (sQ j k (fs++[q]) Y):=by
 let g:=(W6.mp h.f).1;let a:=(W6.mp h.n).1;show#[?_,?_,?_,h.jk,h.ij,h.ik,by rw[Xi];show l]
 .ext sQ;rw[XH (c9 h.ij),XH (c9 h.ik)];show h.o
 .ext sQ;rw[Yh (by rw[Yf];show g)]
 .ext sQ;rw[XH h.jk,Yh a]
def HL:(pF m j k).lookup ("most":Str)=-(.int m):=by rfl
def oy:(pF m j k).lookup ("found":Str)=M (.rf j):=by rfl
def xG:(pF m j k).lookup ("numbers":Str)=M (.rf k):=by rfl
def uf:(pF m j k).lookup ("enter":Str)=P:=by rfl
theorem Iy(a:LD.keyD p=S):gA (.fz p)=M p:=ax a
def tm(h:PSt i j k m fs Y)(hm:L9.Uq (.int m)=S)(M:m<=1000)(E:LD.keyD p=S):bS [.rf i,.fz p,.fz b,.fz e] Y=(match iA fs p with
  |some t=>.ok (.fz (nd t)) Y
  |none=>if m<=(fs.length:Int)then .er #["TooMany",[("most",.int m)]] Y else .ok (.fz (nd fs.length)) (sQ j k (fs++[#[p,b,e]]) Y)):=by
 let w:=Iy E;let A:∀{a:aK},a[i]?=cL (.obj "Places" (pF m j k))->aV "Places" "numbers" (aq 0) [cL (.rf i),-(p),-(b),-(e)] a=.ok (.rf k) a:=λz=>iz (aN W) z xG;let F:∀{a:aK},a[i]?=cL (.obj "Places" (pF m j k))->aV "Places" "found" (aq 0) [cL (.rf i),-(p),-(b),-(e)] a=.ok (.rf j) a:=λz=>iz (aN W) z oy;let B:∀{a:aK},a[i]?=cL (.obj "Places" (pF m j k))->aV "Places" "most" (aq 0) [cL (.rf i),-(p),-(b),-(e)] a=.ok (.fz (.int m)) a:=λz=>iz (aN W) z HL;let u:∀{a:aK},ae (ad 1) [cL (.rf i),-(p),-(b),-(e)] a=.ok (.fz p) a:=ag (af W);let g:=BQ (neg:=S) u (A h.o) w h.n;rw[mK]at g;let get:∀{l:bg Pl} {a:aK} {t:Nat},a[i]?=cL (.obj "Places" (pF m j k))->a[k]?=cL (.dd (iV 0 l))->iA l p=cL t->gw (jZ (aV "Places" "numbers" (aq 0)) (ae (ad 1))) [cL (.rf i),-(p),-(b),-(e)] a=.ok (.rt (.fz (nd t))) a:=λK J I=>by show iC (ra (A K) u w J ?_);rw[mK,I];show cL (nd (0+_))=_;rw[ZJ]
 let v:=Ag (aj (F h.o) aG) (by ext aB;rw[g8 h.f];rfl) ((iP _).trans (by rw[W5]));cases q:iA fs p with
 |some t=>rw[q]at g;show ju W ?_;show cJ (eC (aH g) eD) (get h.o h.n q)
 |none=>
  rw[q]at g;dsimp only;by_cases r:m<=(fs.length:Int)
  .rw[ax r]
   let y:=aH (b8 v (B h.o) (bw ((Be _ _).trans (by rw[a5 r]))));show cI 4 bQ _ _=_;ext cI;show((bQ [cL (.rf i),-(p),-(b),-(e)] Y).bind _)=_;let e1:bQ [cL (.rf i),-(p),-(b),-(e)] Y=.er #["TooMany",[("most",.int m)]] Y:=by ext bQ;ext aC;rw[c7 (aH g) W,c7 y W,Cc (B h.o) hm];rfl
   rw[e1];rfl
  .rw[a4 r]
   let y:=aH (b8 v (B h.o) (bw ((Be _ _).trans (by rw[a6 r]))));let C:=rS v (A h.o) u w h.n (by rw[BJ];let:=h.lt;ext);rw[KR q]at C;let L:(Y.set k (.dd (iV 0 (fs++[#[p,b,e]]))))[i]?=cL (.obj "Places" (pF m j k)):=(XH (c9 h.ik)).trans h.o;let G:(Y.set k (.dd (iV 0 (fs++[#[p,b,e]]))))[j]?=cL (.lst ((fs.map IM).map .fz)):=(XH (c9 h.jk)).trans h.f;let H:=rN (fe:=ae (aU {ad 1,ad 2,ad 3})) (x:=.fz (IM #[p,b,e])) (F L) G (ag (bq (ah (af W) (ah (af W) (ah (af W) av))) W (W8 W))) G (by rw[W5,W5];let:=h.lt;ext);let es:(Y.set k (.dd (iV 0 (fs++[#[p,b,e]])))).set j (.lst ((fs.map IM).map SV.fz++[.fz (IM #[p,b,e])]))=sQ j k (fs++[#[p,b,e]]) Y:=by ext sQ;rw[XQ,XQ];rfl
   rw[es]at H;let P:=h.ent (q:=#[p,b,e]) ();show ju W ?_;show cJ (c7 (aH g) (cJ (eC y eD) (cJ C (gF H)))) (get P.o P.n (DU q (uz E)))
end
def jw(a:aK)(m:Int)(fs:G Pl)(J:aK):aK:=a++(Cell.obj "Places" (pF m (a.length+1) (a.length+2)):: .lst ((fs.map IM).map .fz):: .dd (iV 0 fs)::J)
theorem yX(h:fs.length<100000):PSt o.length (o.length+1) (o.length+2) m fs (jw o m fs a):=
 #[by let:=xa (l:=o) (r:=Cell.obj "Places" (pF m (o.length+1) (o.length+2)):: .lst ((fs.map IM).map .fz):: .dd (iV 0 fs)::a) (t:=0);show this,xa,xa,by ext,by ext,by ext,h]
def BP:sQ (o.length+1) (o.length+2) C (jw o m fs a)=jw o m C a:=by unfold sQ jw;rw[Lu,Lu];rfl
def TM(m:Int):Xc:=#["TooMany",[("most",.int m)]]
def xI(a:0<=m)(h:m<=1000):L9.Uq (.int m)=S:=by show a5 (aeZ (Nat.log2_le_self m.natAbs) ?_);ext
def Ez(l:LD.keyD p=S)(j:0<=m)(f:m<=1000):cB [.rf o.length,.fz p,.fz (.int m)] (o++[.obj "Places" []])=if m<=0 then .er (TM m) (jw o m [] [])else .ok (.fz .none) (jw o m [#[p,.none,.none]] []):=by
 let i:eR "Places" "most" (aq 0) (ae (ad 2)) [M (.rf o.length),-(p),-(.int m)] (o++[.obj "Places" []])=.ok (.nx [M (.rf o.length),-(p),-(.int m)]) (o++[.obj "Places" [("most",.fz (.int m))]]):=
  (oA (ag (af W)) (aN W) bc ()).trans (by rw[gZ];rfl)
 let h:eR "Places" "found" (aq 0) (ae (dC am)) [M (.rf o.length),-(p),-(.int m)] (o++[.obj "Places" [("most",.fz (.int m))]])=.ok (.nx [M (.rf o.length),-(p),-(.int m)]) (o++[.obj "Places" [("most",.fz (.int m)),("found",.rf (o.length+1))],.lst []]):=by show(oA (gc (by ext:0)) (aN W) (by rw[X2];show xa (t:=0)) (W8 W)).trans ?_;rw[X2,show o.length=o.length+0 from rfl,Lu,Xi];rfl
 let g:eR "Places" "numbers" (aq 0) su [M (.rf o.length),-(p),-(.int m)] (o++[.obj "Places" [("most",.fz (.int m)),("found",.rf (o.length+1))],.lst []])=.ok (.nx [M (.rf o.length),-(p),-(.int m)]) (jw o m [] []):=by show(oA W (aN W) (by rw[X2];show xa (t:=0)) (W8 W)).trans ?_;rw[X2,show o.length=o.length+0 from rfl,Lu,Xi];rfl
 let P:PSt o.length (o.length+1) (o.length+2) m [] (jw o m [] []):=yX ();let n:=tm (b:=.none) (e:=.none) P (xI j f) f l;let a:=BB (F:=bS) (fo:=aq 0) (fa:=ai (ae (ad 1)) (ai (ae (pC .none)) (ai (ae (pC .none)) aI))) (ρ:=[M (.rf o.length),-(p),-(.int m)]) (aN W) P.o uf (aj (ag (af W)) (aj (ag aw) (aj (ag aw) aG))) W;rw[n]at a;let a:oH "Places" "enter" bS 4 (aq 0) (ai (ae (ad 1)) (ai (ae (pC .none)) (ai (ae (pC .none)) aI))) [M (.rf o.length),-(p),-(.int m)] (jw o m [] [])=if m<=0 then .er (TM m) (jw o m [] [])else .ok (.fz (nd 0)) (sQ (o.length+1) (o.length+2) [#[p,.none,.none]] (jw o m [] [])):=a
 rw[BP]at a;show cI 3 bF _ _=_;ext cI;show((bF [M (.rf o.length),-(p),-(.int m)] (o++[.obj "Places" []])).bind _)=_;ext bF;rw[cJ i W,cJ h W,cJ g W];ext bv;rw[a];split<;>rfl
theorem uI:∀{l:G α},(∀a∈l,LD.kd (f a)=S)->LD.kds (l.map f)=S
 |[],_=>by rw[aal,LD.kds]
 |a::r,h=>by rw[Xt,LD.kds,h a Xb,uI λx b=>h x (Xf _ b)];rfl
theorem JJ:∀b:G Nat,LD.kds (aZ b)=S:=λb=>uI λa _=>by show LD.kd (.int a)=S;rw[LD.kd]
def Nh(h:LB m):LD.kd (mD m)=S:=by
 cases m with
 |XG c=>show LD.kd (.tuple [.str "letter",.str (dL c)])=S;simp only[LD.kd,LD.kds];rw[qh h,show Xe.strOk "letter"=S by left];rfl
 |Zh n=>show LD.kd (.tuple [.str "layer",.int n])=S;simp only[LD.kd,LD.kds];rw[show Xe.strOk "layer"=S by left];rfl
 |tap c n=>show LD.kd (.tuple [.str "tap",.str (dL c),.int n])=S;simp only[LD.kd,LD.kds];rw[qh h,show Xe.strOk "tap"=S by left];rfl
 |once n=>show LD.kd (.tuple [.str "once",.int n])=S;simp only[LD.kd,LD.kds];rw[show Xe.strOk "once"=S by left];rfl
 |none=>show LD.kd (.tuple [.str "none"])=S;simp only[LD.kd,LD.kds];rw[show Xe.strOk "none"=S by left];rfl
 |below=>show LD.kd (.tuple [.str "below"])=S;simp only[LD.kd,LD.kds];rw[show Xe.strOk "below"=S by left];rfl
def NB(h:SW b s):LD.kd (fP s)=S/\Xe.depth (fP s)<=4:=by
 let j:LD.kds ((gv s.ac).map pD)=S:=uI λq l=>by show LD.kd (.tuple [nd q.1,mD q.2])=S;simp only[LD.kd,LD.kds];rw[Nh (h.sa.ac _ _ (eF.mp l).2).2.lb];rfl
 let o:∀m:Mn,Xe.depth (mD m)<=1:=λm=>by ext m<;>show W8 W
 let p:Xe.depthAll ((gv s.ac).map pD)<=2:=B2 λq _=>by show max 0 (max (Xe.depth (mD q.2)) 0)+1<=2;let:=o q.2;ext
 let f:LD.kd (jA s.wt)=S/\Xe.depth (jA s.wt)<=2:=by
  cases q:s.wt with
  |none=>show#[by show LD.kd .none=S;rw[LD.kd],X1 _]
  |some x=>
   let(a,g,w):=x;let v:=(h.wt a g w q).1;constructor
   .show LD.kd (.tuple [.tuple (aZ a),.int g,sR w])=S
    simp only[LD.kd,LD.kds];rw[JJ];cases w with
    |none=>show(S&&(S&&(LD.kd (.tuple [.str "chord"])&&S)))=S;simp only[LD.kd,LD.kds];rw[show Xe.strOk "chord"=S by left];rfl
    |some i=>let(c,n):=i;let lb:LB (.tap c n):=(v.tp c n W).1;show(S&&(S&&(LD.kd (mD (.tap c n))&&S)))=S;rw[Nh lb];rfl
   .show max (Xe.depthAll (aZ a)+1) (max 0 (max (Xe.depth (sR w)) 0))+1<=2
    rw[lZ];cases w with
    |none=>show W8 W
    |some i=>show W8 W
 let e:LD.kd (sK s.oc)=S/\Xe.depth (sK s.oc)=0:=by cases s.oc<;>show#[by show LD.kd _=S;ext sK;simp only[LD.kd],W]
 constructor
 .show LD.kd (.tuple [.tuple ((gv s.ac).map pD),jA s.wt,sK s.oc])=S;simp only[LD.kd,LD.kds];rw[j,f.1,e.1];rfl
 .show max (Xe.depthAll ((gv s.ac).map pD)+1) (max (Xe.depth (jA s.wt)) (max (Xe.depth (sK s.oc)) 0))+1<=4;rw[e.2];let:=f.2;ext
def kJ(n:Nat):G Evn:=(Xq n).map .down++(Xq n).map .up++[.turn]
def DM{b:Bd}{n:Nat}(c:b.n=n):∀e∈kJ n,EV b e:=by
 intro e a;rcases X3.mp a with a|a
 .rcases X3.mp a with a|a
  .let(k,f,rfl):=Xv.mp a;let:=Zf.mp f;show(k:Int)<b.n;ext
  .let(k,f,rfl):=Xv.mp a;let:=Zf.mp f;show(k:Int)<b.n;ext
 .rw[Xo.mp a];trivial
theorem Jq(h:xs.length+ys.length<=1000000):bO (.list xs) (.list ys)=M (.ow (xs++ys)):=ax h
theorem Uj(b:Bd):bf (bD b) (.int 0)=-(.int b.n):=iH
def Ou{b:Bd}{n:Nat}(c:b.n=n)(l:n<=5):gh [bD b]=.ok (.ow ((kJ n).map eS)):=by
 let i:kR [.int b.n]=M (aZ (Xq n)):=by rw[c];show pW ()
 let j:=Uj b;let a:(Xq n).length<=1000:=by rw[XY];ext
 let f:jD (cV (gN 0) cS (aU {pC (.str "down"),ad 0}) (aZ (Xq n)) [P] [])=.ok ((Xq n).map λk=>eS (.down k)):=jq nd (λk=>eS (.down k)) (Xq n) a W λk _=>bq (ah aw (ah (af W) av)) W (W8 W);let e:jD (cV (gN 0) cS (aU {pC (.str "up"),ad 0}) (aZ (Xq n)) [P] [])=.ok ((Xq n).map λk=>eS (.up k)):=jq nd (λk=>eS (.up k)) (Xq n) a W λk _=>bq (ah aw (ah (af W) av)) W (W8 W);let h:bO (.list ((Xq n).map λk=>eS (.down k))) (.list ((Xq n).map λk=>eS (.up k)))=M (.ow (((Xq n).map λk=>eS (.down k))++(Xq n).map λk=>eS (.up k))):=Jq (by rw[W5,W5];ext);let g:bO (.list (((Xq n).map λk=>eS (.down k))++(Xq n).map λk=>eS (.up k))) (.list [eS .turn])=M (.ow ((kJ n).map eS)):=(Jq (by rw[Xi,W5,W5];show _+1<=_;ext)).trans (by ext kJ;rw[XQ,XQ,XN,XN];rfl);show jg W ?_;ext gq;show cz (cY (by ext:0) W f) W W ?_;show cz (cY (by ext:0) W e) W W ?_;show dU (aD (aD (lw W) (lw W) W W h) (lW (ah (bq (ah aw (ah aw av)) W (W8 W)) av) W (W8 W)) W W g) W W
abbrev zf(d:D):I PV:=-(d)
abbrev zo(l:G D):I PV:=M (.ow l)
def dz(w:G Nat):Str:=#[(w.map (97+·)).toArray]
def pT(w:G Nat):(dz w).length=w.length:=by show((w.map (97+·)).toArray).size=_;rw[Xr,W5]
def L5{v w:G Nat}(h:dz v=dz w):v=w:=by let a:v.map (97+·)=w.map (97+·):=dw (λz:Str=>z.cps.toList) h;show(abG λx y e=>by ext).mp a
def FW{w:G Nat}(h:∀c∈w,c<26):Xe.strOk (dz w)=S:=by show((w.map (97+·)).toArray.all λc=>decide (c<0x110000))=S;rw[<-ae4];show Yl.mpr λc b=>?_;let(d,a,rfl):=Xv.mp b;let:=h d a;show a5 ()
def BK(v w:G Nat):dz v++dz w=dz (v++w):=by show(#[(v.map (97+·)).toArray++(w.map (97+·)).toArray]:Str)=#[((v++w).map (97+·)).toArray];rw[XQ];simp
def OL{w:G Nat}(h:w.length<=1000):Ik [.str (dz w)]=-(nd w.length):=by show(if(dz w).length<=1000000 then M (RV.fz (.int (dz w).length))else P)=_;rw[pT,ax ()]
def N0(a b n:Nat):XS.Str.strSliceIndices (M (a:Int)) (M (b:Int)) 1 n=XS.Str.strSliceIndices (M (Nat.cast (min a n):Int)) (M (Nat.cast (min b n):Int)) 1 n:=by
 ext XS.Str.strSliceIndices
 grind
def AE{w:G Nat}(h:w.length<=1000){a b:Nat}(j:a<=b):jP (.str (dz w)) (M (a:Int)) (M (b:Int))=-(.str (dz ((w.drop a).take (b - a)))):=by
 let f:=pT w;let g:Txt.slice (dz w) (M (a:Int)) (M (b:Int))=dz ((w.drop a).take (b - a)):=by
  let e:=ah5 (dz w) (a:=min a w.length) (b:=min b w.length) () (by rw[f];ext);rw[f,<-N0]at e;let e2:((dz w).cps.toList.drop (min a w.length)).take (min b w.length - min a w.length)=((w.drop a).take (b - a)).map (97+·):=by
   show((w.map (97+·)).drop (min a w.length)).take (min b w.length - min a w.length)=_;rw[List.map_take,List.map_drop];by_cases q:a<=w.length
   .rw[agh q,List.take_eq_take_iff,ZG,W5];ext
   .rw[YD (by rw[W5];ext),YD (by rw[W5];ext),agH,agH]
  rw[e2]at e;ext Txt.slice;rw[f];split
  .rename_i z
   rw[W0]at z;let z:=eq_of_beq z.2;let m:=PySem.sliceIndices_le (M (a:Int)) (M (b:Int)) w.length;let l:(agi (λi=>(dz w).cps[i]?) (XS.Str.strSliceIndices (M (a:Int)) (M (b:Int)) 1 w.length)).length=((w.drop a).take (b - a)).length:=by rw[e,W5]
   rw[N0,ah6 () (),W5,XY]at z;rw[aaV (by rw[ZG];ext)];by_cases q:a=0
   .rw[q];rfl
   .rw[List.length_eq_zero_iff.mp (show w.length=0 by ext),List.drop_nil]
  .show(#[(agi (λi=>(dz w).cps[i]?) _).toArray]:Str)=_;rw[e];rfl
 show(if(dz w).length<=1000000 then M (RV.fz (.str (Txt.slice (dz w) (M (a:Int)) (M (b:Int)))))else P)=_;rw[f,ax (),g]
theorem FP:∀w:G Nat,ab3 (#[#v[]]:Str) (w.map dL)=dz w
 |[]=>rfl
 |[c]=>rfl
 |c::d::r=>by show dL c++(#[#v[]]:Str)++ab3 (#[#v[]]:Str) ((d::r).map dL)=_;rw[FP (d::r),show dL c++(#[#v[]]:Str)=dL c by show(#[#v[97+c]++ #v[]]:Str)=_;simp;rfl];show BK [c] (d::r)
def AW{w:G Nat}(h:w.length<=1000):tL "" [.list (w.map λc=>.str (dL c))]=-(.str (dz w)):=by
 let a:("":Str)=#[#v[]]:=by left
 show(match v9 (w.map λc=>.str (dL c))with
   |some b=>if ae1 "" b=S then M (RV.fz (.str (Txt.join "" b)))else P
   |none=>P)=_
 rw[show(w.map λc=>Xe.str (dL c))=(w.map dL).map .str by rw[XN];rfl,GW];dsimp only;let ok:ae1 "" (w.map dL)=S:=by ext ae1;let:=ah7 (sep:= "") (texts:=w.map dL) (B:=1) (λz e=>by let(n,_,rfl):=Xv.mp e;show Xg _) (by rw[W5,a];show _+_*0<=_;ext);rw[this];rfl
 rw[ax ok,show Txt.join "" (w.map dL)=ab3 "" (w.map dL)from ah8 _ _,a,FP]
def Mw(v w:G Nat):Xe.eqv (.str (dz v)) (.str (dz w))=decide (v=w):=by
 rw[Xe.eqv];by_cases h:v=w
 .rw[a5 h,h];simp
 .rw[a6 h];show beq_eq_false_iff_ne.mpr λz=>h (L5 z)
def Ep{v w:G Nat}(b:∀c∈v,c<26)(a:∀c∈w,c<26):pO (.str (dz v)) (.str (dz w))=-(.bool (!decide (v=w))):=by ext pO;rw[show kq (.str (dz v))=S from Ny (FW b) (by show 0<=64;decide),show Xe.canLay0 (.str (dz w))=S from FW a,Y1,ax W,Mw]
def MX{f:Str->G D->I RV}{h:FE}{i:FA}{d c a:aQ}{pv:PV}{z:Str}{g:G PV}{ds:G D}{rv:RV}(b:h d=.ok (pv,c))(j:AM pv=M z)(k:i c=.ok (g,a))(hd:sD a g=M ds)(e:f z ds=M rv):RH f h i d=.ok (rv.pv,a):=by ext RH;rw[b,d0];dsimp only;rw[j,aJ,d0,k,d0,hd,aJ,d0,e,aJ,d0]
def jV(sn:Sn):G Nat:=(sn.filter (·.2)).map (·.1)
theorem Pr{sn:Sn}(h:aak sn):∀c∈jV sn,c<26:=λc b=>by let(q,a,rfl):=Xv.mp b;show h q (YT.mp a).1
def K3(sn:Sn):(jV sn).length<=sn.length:=by ext jV;rw[W5];show Z5 _ _
def Er{sn:Sn}(g:sn.length<=1000):jD (cV (gT 2 (Cf (gN 0) (Cf (gN 1) N4))) (az (aA cK (ad 1) (pC (.str "down")))) (ad 0) (sn.map nu) [P,P] [])=.ok ((jV sn).map λc=>.str (dL c)):=by
 let e:∀d:Bool,cK (.str (if d=S then "down" else "up")) (.str "down")=-(.bool d):=λd=>by
  ext d
  .show(RD (by left) (by left)).trans (by rw[show((if R=S then "down" else "up":Str)== "down")=R by left])
  .show(RD (by left) (by left)).trans (by rw[show((if S=S then "down" else "up":Str)== "down")=S by left])
 rw[vQ nu (λq=>if q.2=S then M (Xe.str (dL q.1))else P) (λi=>∃a d,i=[a,d]) sn #[P,P,W] g ?_]
 .congr 1
  ext jV;rw[XN];clear g
  induction sn with
  |nil=>rfl
  |cons x r f=>
   cases q:x.2 with
   |true=>rw[aaK (b:=Xe.str (dL x.1)) (by rw[ax q]),adi q,f];rfl
   |false=>rw[aaJ (by rw[a4 (by rw[q];simp)]),adj (by rw[q];simp),f]
 .rintro⟨c,d⟩ h i ⟨x,y,rfl⟩
  cases d with
  |true=>show#[[zf (.str (dL c)),zf (.str (if S=S then "down" else "up"))],wT (x:=.str (dL c)) W (bh (aD (rv:=.fz (.bool S)) (af W) aw W W (e S)) W) (af W) W W,_,_,W]
  |false=>show#[[zf (.str (dL c)),zf (.str (if R=S then "down" else "up"))],PZ W (bh (aD (rv:=.fz (.bool R)) (af W) aw W W (e R)) W) W,_,_,W]
def we(w:G Nat)(d:Nat)(sn:Sn):I Nat:=if(w.drop d).take (jV sn).length=jV sn then M (d+(jV sn).length)else P
def Oo:I Nat->D
 |some k=>nd k
 |none=>.none
def Lp{w:G Nat}(i:∀c∈w,c<26)(m:w.length<=3){d:Nat}(hd:d<=3){sn:Sn}(j:aak sn)(n:sn.length<=900):fS [.str (dz w),nd d,.list (sn.map nu)]=.ok (.fz (Oo (we w d sn))):=by
 let o:=K3 sn;let cm:=Er (sn:=sn) ();let h:=AW (w:=jV sn) ();let g:=OL (w:=jV sn) ();let e:=Pr j;let f:=AE (w:=w) () (a:=d) (b:=d+(jV sn).length) ();rw[Zl]at f;let ne:=Ep (v:=(w.drop d).take (jV sn).length) (w:=jV sn) (λc l=>i c (aek (abj l))) e;show jg (ρ:=[zf (.str (dz w)),zf (nd d),zf (.list (sn.map nu)),P,P]) W ?_;ext d8;show cz (ρ3:=[zf (.str (dz w)),zf (nd d),zf (.list (sn.map nu)),zf (.str (dz (jV sn))),P]) (MX (rv:=.fz (.str (dz (jV sn)))) aw W (ah (cY (cs:=[]) (ds:=sn.map nu) (gI (d:=.list (sn.map nu)) (af W) W W) W cm) av) W h) W W ?_;show cz (ρ3:=[zf (.str (dz w)),zf (nd d),zf (.list (sn.map nu)),zf (.str (dz (jV sn))),zf (nd (d+(jV sn).length))]) (aD (rv:=.fz (nd (d+(jV sn).length))) (af W) (fY (rv:=.fz (nd (jV sn).length)) (ah (af W) av) W g) W W (eW _ _)) W W ?_;show oU (bh (aD (xQ (rv:=.fz (.str (dz ((w.drop d).take (jV sn).length)))) (af W) (gS (af W) W) (gS (af W) W) W f) (af W) W W ne) W) (λq=>?_) (λq=>fW ?_)
 .let q:¬(w.drop d).take (jV sn).length=jV sn:=by simpa using q
  show ja (rv:=.fz .none) aw W ?_;ext we;rw[a4 q];rfl
 .let q:(w.drop d).take (jV sn).length=jV sn:=by simpa using q
  show dU (rv:=.fz (nd (d+(jV sn).length))) (af W) W ?_;ext we;rw[ax q];rfl
def AO:Mn->Mn
 |.tap _ n=>.Zh n
 |.once _=>.none
 |m=>m
def QD:Mn->I (Nat×Int)
 |.tap c n=>M (c,n)
 |_=>P
def Ca(b:Bd)(x:Nat)(k:Nat)(a:Mn):Prop:=a=iZ b 0 k\/a=.XG x\/a=.none
def Na(b:Bd)(k:Nat)(a:Mn):Prop:=a=AO (iZ b 0 k)\/a=AO (iZ b 1 k)
structure IN(b:Bd)(s:Y5):Prop where
 ac:∀k a,s.ac k=M a->Na b k a
 wt:∀ks g w,s.wt=M (ks,g,w)->∃k c n,ks=[k]/\w=M (c,n)/\(iZ b 0 k=.tap c n\/iZ b 1 k=.tap c n)
structure IC(b:Bd)(x:Nat)(s:Y5):Prop where
 ac:∀k a,s.ac k=M a->Ca b x k a
 wt:∀ks g w,s.wt=M (ks,g,w)->w=P/\∃k,ks=[k]
 oc:s.oc=P
section
variable{b:Bd}{p:Y5×Sn}{s:Y5}{k x:Nat}
theorem xy{Q:Nat->Mn->Prop}(h:∀k a,ac k=M a->Q k a)(f:∀a,o=M a->Q k a):∀j a,jO ac k o j=M a->Q j a:=λj a e=>by
 by_cases z:j=k
 .subst z;rw[cZ]at e;show f a e
 .rw[eK z]at e;show h j a e
theorem tK{Q:Nat->Mn->Prop}(h:∀j a,j≠k->p.1.ac j=M a->Q j a):∀j a,(go p k).1.ac j=M a->Q j a:=λj a e=>by
 unfold go at e;cases z:p.1.ac k with
 |none=>rw[z]at e;show h j a (λq=>by subst q;rw[z]at e;ext e) e
 |some y=>
  rw[z]at e;by_cases q:j=k
  .subst q;show bb ((cZ).symm.trans e) (by simp)
  .show h j a q ((eK q).symm.trans e)
def kW:(go p k).1.wt=p.1.wt/\(go p k).1.oc=p.1.oc:=by ext go;split<;>show#[W,W]
def yV(s:Y5)(m:Mn):(di s m).ac=s.ac/\(di s m).wt=s.wt:=by ext di;split<;>show#[W,W]
def Kp(a:VB b)(f:SA b s)(g:b.ls.length<=2):look b (i6 s.ac s.oc) k=iZ b 0 k\/look b (i6 s.ac s.oc) k=iZ b 1 k:=by
 let(i,h):=u6 a f;let:(i6 s.ac s.oc).toNat=0\/(i6 s.ac s.oc).toNat=1:=by ext
 ext look;split
 .show .inl W
 .rcases this with e|e<;>rw[e]
  .show .inl W
  .show .inr W
def IN.dec(h:IN b p.1):IN b (br b p).1/\(br b p).1.wt=P:=by
 ext br;split
 .rename_i q;show#[h,q]
 .rename_i f g w q
  let(k,c,n,rfl,rfl,i):=h.wt f g w q;show#[#[?_,λ_ _ _ e=>(by ext e)],W];show xy h.ac λa e=>?_;ext e;rcases i with e|e
  .show .inl (by rw[e];rfl)
  .show .inr (by rw[e];rfl)
def IN.step(l:VB b)(C:b.ls.length<=2)(i:b.cs=[])(r:SW b s)(h:IN b s)(I:EV b e):IN b (bJ b s e).1:=by
 let t:∀f,cQ b f=[]:=λf=>by ext cQ;rw[i];rfl
 cases e with
 |turn=>
  show IN b (fE b (s,[])).1;ext fE;split
  .show h
  .rename_i f g w q
   let v:IN b {s with wt:=M (f,g+1,w)}:=#[h.ac,λ_ _ _ e=>by ext e;show h.wt f g w q];split
   .show(IN.dec v).1
   .show v
 |up k=>
  show IN b (kO b (s,[]) k).1;ext kO;split
  .rename_i q
   cases z:s.wt with
   |none=>rw[show yD s.wt k=R by rw[z];rfl]at q;ext q
   |some y=>
    let(f,g,w):=y;let(G,c,n,rfl,rfl,H):=h.wt f g w z;let e:STP.bN b (s,[]) k=eB ({s with wt:=P},[]) k (.XG c):=by ext STP.bN;dsimp only;rw[z]
    rw[e];show#[tK λj a B o=>h.ac j a ((eK B).symm.trans o),λf g w e=>?_];rw[kW.1]at e;ext e
  .show#[tK λj a _ o=>h.ac j a o,λf g w e=>?_];rw[kW.1]at e;show h.wt f g w e
 |down k=>
  show IN b (gf b (s,[]) k).1;ext gf;split
  .show h
  .rw[a4 (by
    ext Ai;split
    .rw[t];simp
    .simp)]
   let d:=IN.dec (p:=(s,[])) h;let A:=c8 l (p:=(s,[])) r.sa (SW.wd l r);generalize br b (s,[])=p at d A;let(h,E):=d;let lo:=Kp (k:=k) l A.1.sa C;ext zl;let u:=yV p.1 (look b (i6 p.1.ac p.1.oc) k);generalize di p.1 (look b (i6 p.1.ac p.1.oc) k)=N at u;generalize look b (i6 p.1.ac p.1.oc) k=m at lo;generalize i6 p.1.ac p.1.oc=L;let i:∀a,a=AO m->IN b (eB (N,p.2) k a).1:=λa F=>by
    show#[xy (λj y e=>h.ac j y (by rw[<-u.1];show e)) λy e=>?_,λf g w e=>?_]
    .ext e
     rw[F];rcases lo with e|e
     .show .inl (by rw[e])
     .show .inr (by rw[e])
    .let e:N.wt=_:=e;rw[u.2,E]at e;ext e
   cases m with
   |tap c n=>show#[λj y e=>h.ac j y (by rw[<-u.1];show e),λf g w e=>?_];ext e;show#[k,c,n,W,W,by rcases lo with e|e<;>simp[<-e]]
   |XG c=>show IN b (if(decide (L=0)&& !(cQ b [k]).isEmpty)=S then _ else eB (N,p.2) k (.XG c)).1;rw[t,a4 (by simp)];show i _ W
   |once n=>let:=i .none W;show#[this.ac,this.wt]
   |Zh n=>show i _ W
   |none=>show i _ W
   |below=>show i _ W
theorem uv:∀{l:G α},q∈l.zip (l.map f)->q.2=f q.1
 |[],h=>by ext h
 |a::r,h=>by
  rcases Xw.mp h with rfl|h
  .rfl
  .show uv h
def El{Q:Nat->Mn->Prop}(f:G (Nat×Mn)):∀{p:Y5×Sn},(∀k a,p.1.ac k=M a->Q k a)->(∀q∈f,Q q.1 q.2)->(∀k a,(gD p f).1.ac k=M a->Q k a)/\(gD p f).1.wt=p.1.wt/\(gD p f).1.oc=p.1.oc:=by
 induction f with
 |nil=>show λh _=>#[h,W,W]
 |cons q r i=>intro p h g;show i (xy h λa e=>by ext e;show g q Xb) λy j=>g y (Xf _ j)
def TZ(f:b.cs=[([0,1],x)])(d:G Nat):∀q∈d.zip (Fk b d),Ca b x q.1 q.2:=by
 intro q a;unfold Fk at a;split at a
 .rename_i c e
  let cm:=ZK e;rw[f]at cm;let cm:=Xo.mp cm;rcases Xw.mp (Zr a).2 with h|h
  .show .inr (.inl (by rw[h,cm]))
  .show .inr (.inr (abF.mp h).2)
 .show .inl (uv a)
structure IC0(b:Bd)(x:Nat)(s:Y5):Prop where
 ac:∀k a,s.ac k=M a->Ca b x k a
 wt:∀ks g w,s.wt=M (ks,g,w)->w=P
 oc:s.oc=P
theorem IC.z(h:IC b x s):IC0 b x s:=#[h.ac,λa g w e=>(h.wt a g w e).1,h.oc]
def IC0.dec(j:b.cs=[([0,1],x)])(h:IC0 b x p.1):IC b x (br b p).1/\(br b p).1.wt=P:=by
 ext br;split
 .rename_i q;show#[#[h.ac,λ_ _ _ e=>(by rw[q]at e;ext e),h.oc],q]
 .rename_i a g w q;let i:=h.wt a g w q;subst i;let(m,f,l):=El (p:=({p.1 with wt:=P},p.2)) (a.zip (Fk b a)) h.ac (TZ j a);show#[#[m,λ_ _ _ e=>(by rw[show(gD ({p.1 with wt:=P},p.2) (a.zip (gx b a P))).1.wt=P from f]at e;ext e),l.trans h.oc],f]
def Sd(f:VB b)(i:SA b s)(l:b.cs=[([0,1],x)])(o:b.n<=2)(h:IC b x s):i6 s.ac s.oc=0:=by
 rw[h.oc];show(((gv s.ac).filterMap CP).foldl jC P).getD 0=0;let:(gv s.ac).filterMap CP=[]:=acS.mpr λq j=>by
  let g:=(eF.mp j).2;let r:=(i.ac q.1 q.2 g).1;let ok:=(f.vc ([0,1],x) (by rw[l];show Xb)).2.2.1 q.1 (by
   let:q.1=0\/q.1=1:=by ext
   rcases this with e|e<;>simp[e])
  let(c,m):=nW f ok;let(k,a):=q;rcases h.ac k a g with rfl|rfl|rfl
  .show CP (k,iZ b 0 k)=P;rw[m];rfl
  .rfl
  .rfl
 rw[this];rfl
def IC.step(m:VB b)(H:b.n<=2)(l:b.cs=[([0,1],x)])(C:SW b s)(h:IC b x s)(J:EV b e):IC b x (bJ b s e).1:=by
 cases e with
 |turn=>
  show IC b x (fE b (s,[])).1;ext fE;split
  .show h
  .rename_i i g w q
   let E:IC b x {s with wt:=M (i,g+1,w)}:=#[h.ac,λ_ _ _ e=>by ext e;show h.wt i g w q,h.oc];split
   .show(IC0.dec l E.z).1
   .show E
 |up k=>
  show IC b x (kO b (s,[]) k).1;ext kO;split
  .rename_i q
   cases z:s.wt with
   |none=>rw[show yD s.wt k=R by rw[z];rfl]at q;ext q
   |some y=>
    let(i,g,w):=y;let(rfl,A,rfl):=h.wt i g w z;let e:STP.bN b (s,[]) k=br b (s,[]):=by ext STP.bN;dsimp only;rw[z]
    rw[e];let(d,t):=IC0.dec l (p:=(s,[])) h.z;show#[tK λj a _ B=>d.ac j a B,λi g w e=>(by rw[kW.1,t]at e;ext e),kW.2.trans d.oc]
  .show#[tK λj a _ B=>h.ac j a B,λi g w e=>(by rw[kW.1]at e;show h.wt i g w e),kW.2.trans h.oc]
 |down k=>
  show IC b x (gf b (s,[]) k).1;ext gf;split
  .show h
  .split
   .rename_i o
    unfold Ai at o;split at o
    .rename_i i g z
     rw[W0]at o;let(_,A,rfl):=h.wt i g P z;let G:cQ b ([A]++[k])=[([0,1],x)]:=by
      let r:=o.2;unfold cQ at r⊢;rw[l]at r⊢;rw[ZH]at r⊢;split
      .rfl
      .rename_i f;rw[a4 f]at r;simp at r
     ext pA;rw[z];dsimp only;rw[G,ax (show agj (λx=>x.1.length) [(([0,1]:bg Nat),x)]=[([A]++[k]).length]from rfl)];show(IC0.dec l #[h.ac,λ_ _ _ e=>(by ext e;rfl),h.oc]).1
    .ext o
   .let(d,t):=IC0.dec l (p:=(s,[])) h.z
    let ds:=c8 m (p:=(s,[])) C.sa (SW.wd m C);generalize br b (s,[])=p at d t ds;let K:(k:Int)<b.n:=J;let ok:=(m.vc ([0,1],x) (by rw[l];show Xb)).2.2.1 k (by
     let:k=0\/k=1:=by ext
     rcases this with e|e<;>simp[e])
    let(c,F):=nW m ok;ext zl;let I:look b 0 k=.XG c:=by ext look;rw[show(0:Int).toNat=0 from rfl,F];rfl
    rw[Sd m ds.1.sa l H d,I];let u:=yV p.1 (.XG c);let v:(di p.1 (.XG c)).oc=P:=W;generalize di p.1 (.XG c)=n at u v;show IC b x (if(decide ((0:Int)=0)&& !(cQ b [k]).isEmpty)=S then({n with wt:=M ([k],0,P)},p.2)else eB (n,p.2) k (.XG c)).1;split
    .show#[λj y e=>d.ac j y (by rw[<-u.1];show e),λi g w e=>(by ext e;show#[W,k,W]),v]
    .show#[xy (λj y e=>d.ac j y (by rw[<-u.1];show e)) λy e=>(by ext e;show .inl F.symm),λi g w e=>(by let e:n.wt=_:=e;rw[u.2,t]at e;ext e),v]
def Sg(e a:I Mn):Ac:=λk=>if k=0 then e else if k=1 then a else P
theorem Tt(f:SA b s)(g:b.n<=2):s.ac=Sg (s.ac 0) (s.ac 1):=funext λk=>by
 ext Sg;split
 .rename_i e;rw[e]
 .split
  .rename_i e;rw[e]
  .cases q:s.ac k with
   |none=>rfl
   |some a=>let:=(f.ac k a q).1;ext
def A3(b:Bd)(k:Nat):G (I Mn):=[P,M (AO (iZ b 0 k)),M (AO (iZ b 1 k))]
def A4(b:Bd)(x k:Nat):G (I Mn):=[P,M (iZ b 0 k),M (.XG x),M .none]
def W4(b:Bd)(k:Nat):G (Int×I (Nat×Int)):=[(0,QD (iZ b 0 k)),(0,QD (iZ b 1 k)),(1,QD (iZ b 0 k)),(1,QD (iZ b 1 k))]
def UR(F:Nat->G (I Mn))(W:Nat->G (Int×I (Nat×Int)))(o:I Int):G Y5:=
 ((F 0).flatMap λe=>(F 1).map λa=>#[Sg e a,P,o])++((W 0).flatMap λw=>(F 1).map λa=>#[Sg P a,M ([0],w.1,w.2),o])++(W 1).flatMap λw=>(F 0).map λe=>#[Sg e P,M ([1],w.1,w.2),o]
def Af(f:SW b s)(i:b.n<=2)(e:∀k,s.ac k∈F k)(j:∀c g w,s.wt=M (c,g,w)->∃k,c=[k]/\(g,w)∈m k):s∈UR F m s.oc:=by
 let a:=Tt f.sa i;cases q:s.wt with
 |none=>show Yg _ (Yg _ (YL.mpr #[s.ac 0,e 0,Xv.mpr #[s.ac 1,e 1,?_]]));rw[<-a,<-q]
 |some y=>
  let(c,g,w):=y;let(k,rfl,hm):=j c g w q;let v:=(f.wt _ _ _ q).1;let l:=v.kn k Xb;let h:=v.kf k Xb;let:k=0\/k=1:=by ext
  rcases this with rfl|rfl
  .rw[h]at a;show Yg _ (XM _ (YL.mpr #[(g,w),hm,Xv.mpr #[s.ac 1,e 1,?_]]));rw[<-a,<-q]
  .rw[h]at a;show XM _ (YL.mpr #[(g,w),hm,Xv.mpr #[s.ac 0,e 0,?_]]);rw[<-a,<-q]
def few(i:VB b)(A:b.n<=2)(J:b.ls.length<=2)(P:b.wt<=2):∃(l:bg Y5) (I:Y5->Prop),l.length<=66/\I uw/\(∀s,I s->SW b s/\s∈l)/\∀s e,I s->EV b e->I (bJ b s e).1:=by
 by_cases F:b.cs=[]
 .show#[([Ld,cL 1]:bg (bt Int)).flatMap (UR (A3 b) (W4 b)),λs=>SW b s/\IN b s,Xg 66,#[mY b,λk a e=>(by ext e),λm g w e=>(by ext e)],λs h=>#[h.1,?_],λs e h u=>#[pY i h.1 u,h.2.step i J F h.1 u]]
  show YL.mpr #[s.oc,?_,Af h.1 A (λk=>?_) λm g w e=>?_]
  .cases q:s.oc with
   |none=>show Xb
   |some o=>
    let:=h.1.sa.oc o q;let e:o=1:=by ext
    rw[e];show Xf _ Xb
  .cases q:s.ac k with
   |none=>show Xb
   |some a=>
    rcases h.2.ac k a q with rfl|rfl
    .show Xf _ Xb
    .show Xf _ (Xf _ Xb)
  .let(k,c,n,rfl,rfl,B):=h.2.wt m g w e
   let v:=h.1.wt _ _ _ e;let g0:=v.1.g0;let L:=v.2;let t:cL (c,n)=QD (iZ b 0 k)\/cL (c,n)=QD (iZ b 1 k):=by rcases B with e|e<;>simp[e,QD]
   let:g=0\/g=1:=by ext
   show#[k,W,?_];ext W4;rcases this with rfl|rfl<;>rcases t with e|e<;>rw[e]<;>simp
 .obtain⟨x,K⟩:∃x,b.cs=[([0,1],x)]:=by
   let one:∀c∈b.cs,c.1=[0,1]:=λc hm=>by
    let(O,N,M,_):=i.vc c hm;let j:∀k∈c.1,k<2:=λk B=>by
     let E:=i.l1;obtain⟨l,r,H⟩:∃l r,b.ls=l::r:=by
      cases q:b.ls with
      |nil=>rw[q]at E;ext E
      |cons l r=>show#[l,r,W]
     let Q:=i.vl 0 l (by rw[H];rfl);let:=M k B;unfold pz at this;rw[H,afR]at this;cases q:l[k]? with
     |none=>rw[q]at this;ext this
     |some y=>let:=(W6.mp q).1;ext
    match hq:c.1,O,N,j with
    |[a,d],_,h,j=>
     let:=j a Xb;let:=j d (Xf _ Xb);let h:=(YA.mp h).1 d Xb;obtain rfl:a=0:=by ext
     obtain rfl:d=1:=by ext
     rfl
    |a::d::f::r,_,h,j=>let C:=(YA.mp h).1 d Xb;let G:=(YA.mp (YA.mp h).2).1 f Xb;let:=j f (Xf _ (Xf _ Xb));ext
   cases e:b.cs with
   |nil=>show bb e F
   |cons c r=>
    let C:=one c (by rw[e];show Xb);cases r with
    |nil=>show#[c.2,by rw[<-C]]
    |cons d r=>let G:=one d (by rw[e];show Xf _ Xb);let:=i.cu;rw[e]at this;show bb (C.trans G.symm) ((YA.mp this).1 d Xb)
  show#[UR (A4 b x) (λ_=>[(0,Ld),(1,Ld)]) Ld,λs=>SW b s/\IC b x s,by show 32<=66;decide,#[mY b,λk a e=>(by ext e),λm g w e=>(by ext e),W],λs h=>#[h.1,?_],λs e h u=>#[pY i h.1 u,h.2.step i A K h.1 u]];rw[<-h.2.oc];show Af h.1 A (λk=>?_) λm g w e=>?_
  .cases q:s.ac k with
   |none=>show Xb
   |some a=>rcases h.2.ac k a q with rfl|rfl|rfl<;>simp[A4]
  .let(rfl,k,rfl):=h.2.wt m g w e
   let v:=h.1.wt _ _ _ e;let g0:=v.1.g0;let L:=v.2;let:g=0\/g=1:=by ext
   show#[k,W,by rcases this with rfl|rfl<;>simp]
end
structure I3(b:Bd)(K:G Nat)(x:Nat)(s:Y5):Prop where
 ac:∀k a,s.ac k=M a->Ca b x k a
 wt:∀ks g w,s.wt=M (ks,g,w)->w=P/\∃k,ks=[k]/\k∈K
 oc:s.oc=P
section
variable{b:Bd}{p:Y5×Sn}{s:Y5}{k x:Nat}{K:bg Nat}
def SG(f:b.cs=[(K,x)])(d:G Nat):∀q∈d.zip (Fk b d),Ca b x q.1 q.2:=by
 intro q a;unfold Fk at a;split at a
 .rename_i c e
  let cm:=ZK e;rw[f]at cm;let cm:=Xo.mp cm;rcases Xw.mp (Zr a).2 with h|h
  .show .inr (.inl (by rw[h,cm]))
  .show .inr (.inr (abF.mp h).2)
 .show .inl (uv a)
def I3.dec(j:b.cs=[(K,x)])(d:∀k a,p.1.ac k=M a->Ca b x k a)(f:∀c g w,p.1.wt=M (c,g,w)->w=P)(h:p.1.oc=P):I3 b K x (br b p).1/\(br b p).1.wt=P:=by
 ext br;split
 .rename_i q;show#[#[d,λ_ _ _ e=>(by rw[q]at e;ext e),h],q]
 .rename_i c g w q;let f:=f c g w q;subst f;let(m,i,l):=El (p:=({p.1 with wt:=P},p.2)) (c.zip (Fk b c)) d (SG j c);show#[#[m,λ_ _ _ e=>(by rw[show(gD ({p.1 with wt:=P},p.2) (c.zip (gx b c P))).1.wt=P from i]at e;ext e),l.trans h],i]
theorem I3.dc(f:b.cs=[(K,x)])(h:I3 b K x p.1):I3 b K x (br b p).1/\(br b p).1.wt=P:=I3.dec f h.ac (λa g w e=>(h.wt a g w e).1) h.oc
def Uu(f:VB b)(g:SA b s)(j:∀k:Nat,(k:Int)<b.n->pz (b.ls.headD []) k=S)(h:I3 b K x s):i6 s.ac s.oc=0:=by
 rw[h.oc];show(((gv s.ac).filterMap CP).foldl jC P).getD 0=0;let:(gv s.ac).filterMap CP=[]:=acS.mpr λq i=>by
  let e:=(eF.mp i).2;let(c,l):=nW f (j q.1 (g.ac q.1 q.2 e).1);let(k,a):=q;rcases h.ac k a e with rfl|rfl|rfl
  .show CP (k,iZ b 0 k)=P;rw[l];rfl
  .rfl
  .rfl
 rw[this];rfl
def BW(e:b.cs=[(K,x)])(h:(cQ b ks).isEmpty=R):cQ b ks=[(K,x)]/\∀k∈ks,k∈K:=by
 unfold cQ at h⊢;rw[e]at h⊢;rw[ZH]at h⊢;split
 .rename_i f;show#[W,λk a=>a7 (Yl.mp f k a)]
 .rename_i f;rw[a4 f]at h;ext h
def I3.step(l:VB b)(A:∀k:Nat,(k:Int)<b.n->pz (b.ls.headD []) k=S)(f:b.cs=[(K,x)])(I:K.length=2)(t:SW b s)(h:I3 b K x s)(H:EV b e):I3 b K x (bJ b s e).1:=by
 cases e with
 |turn=>
  show I3 b K x (fE b (s,[])).1;ext fE;split
  .show h
  .rename_i n g w q
   let B:I3 b K x {s with wt:=M (n,g+1,w)}:=#[h.ac,λ_ _ _ e=>by ext e;show h.wt n g w q,h.oc];split
   .show(I3.dc f B).1
   .show B
 |up k=>
  show I3 b K x (kO b (s,[]) k).1;ext kO;split
  .rename_i q
   cases z:s.wt with
   |none=>rw[show yD s.wt k=R by rw[z];rfl]at q;ext q
   |some y=>
    let(n,g,w):=y;let(rfl,_):=h.wt n g w z;let e:STP.bN b (s,[]) k=br b (s,[]):=by ext STP.bN;dsimp only;rw[z]
    rw[e];let(d,m):=I3.dc f (p:=(s,[])) h;show#[tK λj a _ r=>d.ac j a r,λn g w e=>(by rw[kW.1,m]at e;ext e),kW.2.trans d.oc]
  .show#[tK λj a _ r=>h.ac j a r,λn g w e=>(by rw[kW.1]at e;show h.wt n g w e),kW.2.trans h.oc]
 |down k=>
  show I3 b K x (gf b (s,[]) k).1;ext gf;split
  .show h
  .split
   .rename_i i
    unfold Ai at i;split at i
    .rename_i n g z;rw[W0]at i;let(_,v,rfl,_):=h.wt n g P z;let E:=(BW f (ks:=[v]++[k]) (by simpa using i.2)).1;ext pA;rw[z];dsimp only;rw[E,ax (show agj (λx=>x.1.length) [(K,x)]=[([v]++[k]).length] by show[K.length]=[2];rw[I])];show(I3.dec f h.ac (λ_ _ _ e=>(by ext e;rfl)) h.oc).1
    .ext i
   .let(d,m):=I3.dc f (p:=(s,[])) h
    let ds:=c8 l (p:=(s,[])) t.sa (SW.wd l t);generalize br b (s,[])=p at d m ds;let(c,C):=nW l (A k H);ext zl;let F:look b 0 k=.XG c:=by ext look;rw[show(0:Int).toNat=0 from rfl,C];rfl
    rw[Uu l ds.1.sa A d,F];let u:=yV p.1 (.XG c);let o:(di p.1 (.XG c)).oc=P:=W;generalize di p.1 (.XG c)=L at u o;show I3 b K x (if(decide ((0:Int)=0)&& !(cQ b [k]).isEmpty)=S then({L with wt:=M ([k],0,P)},p.2)else eB (L,p.2) k (.XG c)).1;split
    .rename_i q;rw[W0]at q;let G:=(BW f (by simpa using q.2)).2 k Xb;show#[λj y e=>d.ac j y (by rw[<-u.1];show e),λn g w e=>(by ext e;show#[W,k,W,G]),o]
    .show#[xy (λj y e=>d.ac j y (by rw[<-u.1];show e)) λy e=>(by ext e;show .inl C.symm),λn g w e=>(by let e:L.wt=_:=e;rw[u.2,m]at e;ext e),o]
def Uw(f e a:I Mn):Ac:=λk=>if k=0 then f else if k=1 then e else if k=2 then a else P
theorem UQ(f:SA b s)(g:b.n<=3):s.ac=Uw (s.ac 0) (s.ac 1) (s.ac 2):=funext λk=>by
 ext Uw;split
 .rename_i e;rw[e]
 .split
  .rename_i e;rw[e]
  .split
   .rename_i e;rw[e]
   .cases q:s.ac k with
    |none=>rfl
    |some a=>let:=(f.ac k a q).1;ext
def fr(k j:Nat)(l:G (I Mn)):G (I Mn):=if j=k then[P]else l
def Wn(b:Bd)(x:Nat):G Y5:=(A4 b x 0).flatMap λf=>(A4 b x 1).flatMap λe=>(A4 b x 2).map λa=>#[Uw f e a,P,P]
def UE(b:Bd)(x k:Nat):G Y5:=([0,1]:G Int).flatMap λg=>(fr k 0 (A4 b x 0)).flatMap λf=>(fr k 1 (A4 b x 1)).flatMap λe=>(fr k 2 (A4 b x 2)).map λa=>#[Uw f e a,M ([k],g,P),P]
def Bp(k:Nat)(a:k<3):(UE b x k).length=32:=by
 let:k=0\/k=1\/k=2:=by ext
 rcases this with rfl|rfl|rfl<;>rfl
def Vy(f:VB b)(G:b.n<=3)(M:b.wt<=2)(L:∀k:Nat,(k:Int)<b.n->pz (b.ls.headD []) k=S)(B:b.cs=[(K,x)])(F:K.length=2):∃(l:bg Y5) (I:Y5->Prop),l.length<=128/\I uw/\(∀s,I s->SW b s/\s∈l)/\∀s e,I s->EV b e->I (bJ b s e).1:=by
 let u:∀k∈K,k<3:=λk h=>by
  let(c,C):=nW f ((f.vc (K,x) (by rw[B];show Xb)).2.2.1 k h);apply Classical.byContradiction;intro z;let:iZ b 0 k=.none:=by
   ext iZ;cases q:b.ls[0]? with
   |none=>rfl
   |some l=>let:=(f.vl 0 l q).1;rw[abS,List.getElem?_eq_none ()];rfl
  rw[this]at C;ext C
 obtain⟨i,j,rfl⟩:∃i j,K=[i,j]:=by
  match K,F with
  |[i,j],_=>show#[i,j,W]
 show#[Wn b x++(UE b x i++UE b x j),λs=>SW b s/\I3 b [i,j] x s,?_,#[mY b,λk a e=>(by ext e),λt g w e=>(by ext e),W],λs h=>#[h.1,?_],λs e h A=>#[pY f h.1 A,h.2.step f L B F h.1 A]]
 .rw[Xi,Xi,Bp i (u i Xb),Bp j (u j (Xf _ Xb))];show Xg 128
 .let E:=UQ h.1.sa G
  let m:∀k,s.ac k∈A4 b x k:=λk=>by
   cases q:s.ac k with
   |none=>show Xb
   |some a=>
    rcases h.2.ac k a q with rfl|rfl|rfl
    .show Xf _ Xb
    .show Xf _ (Xf _ Xb)
    .show Xf _ (Xf _ (Xf _ Xb))
  let eo:=h.2.oc;cases q:s.wt with
  |none=>show Yg _ (YL.mpr #[s.ac 0,m 0,YL.mpr #[s.ac 1,m 1,Xv.mpr #[s.ac 2,m 2,?_]]]);rw[<-E,<-q,<-eo]
  |some y=>
   let(t,g,w):=y;let(rfl,k,rfl,H):=h.2.wt t g w q;let(v,N):=h.1.wt _ _ _ q;let J:=v.kf k Xb;let g0:=v.g0;let r:∀j,s.ac j∈fr k j (A4 b x j):=λj=>by
    ext fr;split
    .rename_i e;rw[e,J];show Xb
    .show m j
   let gm:g∈([0,1]:bg Int):=by
    let:g=0\/g=1:=by ext
    rcases this with e|e<;>rw[e]
    .show Xb
    .show Xf _ Xb
   let o:s∈UE b x k:=by show YL.mpr #[g,gm,YL.mpr #[s.ac 0,r 0,YL.mpr #[s.ac 1,r 1,Xv.mpr #[s.ac 2,r 2,?_]]]];rw[<-E,<-q,<-eo]
   rcases Xw.mp H with e|e
   .subst e;show XM _ (Yg _ o)
   .rw[Xo.mp e]at o;show XM _ (XM _ o)
end
theorem LM(h:aZ o=aZ C):o=C:=(abG λx y e=>by injection e with e;show acp e).mp h
def Hz(h:mD m=mD n):m=n:=by
 let e:=(oJ m).symm.trans ((dw (λz=>bf z (.int 0)) h).trans (oJ n));injection e with e;injection e with e;injection e with e
 let w:=wj _ (pf m) _ (pf n);rw[show ws (wn m)=ws (wn n)from e,dN]at w;ext m<;>ext n<;>first|rfl|(exfalso;revert w;simp[wn];done)|(injection h with h;injection h with _ h;injection h with h g;injection h with h)
 .rw[u9 h]
 .rw[h]
 .injection g with g;injection g with g;rw[u9 h,g]
 .rw[h]
def PU(l:VB b)(j:VB c)(C:SW b s)(B:SW c t)(h:fP s=fP t):s=t:=by
 injection h with h
 injection h with h1 h
 injection h with h2 h
 injection h with h3 _
 injection h1 with h1
 let f:=(abG λx y e=>by
  injection e with e;injection e with e1 e;injection e with e2 _;injection e1 with e1
  show Prod.ext (acp e1) (Hz e2)).mp h1
 let F:=funext λk=>Option.ext λa=>#[λe=>by
   let:=(eF (p:=(k,a))).mpr #[(SA.ak l C.sa k a e).1,e];rw[f]at this;show(eF.mp this).2,λe=>by
   let:=(eF (p:=(k,a))).mpr #[(SA.ak j B.sa k a e).1,e];rw[<-f]at this;show(eF.mp this).2]
 let E:s.wt=t.wt:=by
  revert h2;cases s.wt with
  |none=>cases t.wt with
   |none=>show λ_=>W
   |some y=>show λe=>by ext e
  |some x=>cases t.wt with
   |none=>show λe=>by ext e
   |some y=>
    let(G,g,w):=x;let(H,i,v):=y;intro e;injection e with e;injection e with e1 e;injection e with e2 e;injection e with e3 _;injection e1 with e1;injection e2 with e2;let e1:=LM e1;let:w=v:=by
     revert e3;cases w with
     |none=>cases v with
      |none=>show λ_=>W
      |some q=>show λe=>by injection e with e;injection e with _ e;ext e
     |some p=>cases v with
      |none=>show λe=>by injection e with e;injection e with _ e;ext e
      |some q=>let(A,u):=p;let(r,o):=q;show λe=>by let:=Hz (m:=.tap A u) (n:=.tap r o) e;injection this with a b;rw[a,b]
    rw[e1,e2,this]
 let eo:s.oc=t.oc:=by
  revert h3;cases s.oc<;>cases t.oc<;>intro e
  .rfl
  .ext e
  .ext e
  .injection e with e;rw[e]
 ext s;ext t;ext F;ext E;ext eo;rfl
abbrev TP:=Y5×Nat
def kT(p:TP):D:=.tuple [fP p.1,nd p.2]
def BH(b:Bd)(w:G Nat)(p:TP)(e:Evn):I TP:=(we w p.2 (bJ b p.1 e).2).map λd=>((bJ b p.1 e).1,d)
def IJ:TP:=(uw,0)
def RT(b:Bd)(w:G Nat)(es:G Evn):Nat->TP->Prop
 |0,p=>p=IJ
 |k+1,p=>∃q e,RT b w es k q/\e∈es/\BH b w q e=M p
structure TC(b:Bd)(w:G Nat)(es:G Evn):Prop where
 vb:VB b
 eb:∀e∈es,EV b e
 w26:∀c∈w,c<26
 wl:w.length<=3
def TW(b:Bd)(w:G Nat)(p:TP):Prop:=SW b p.1/\p.2<=w.length
theorem F4:∀{fs:G Pl} {d:D} {t:Nat},iA fs d=M t->∃q,fs[t]?=M q/\Xe.eqv q.p d=S
 |[],_,_,h=>by ext h
 |a::r,d,t,h=>by
  unfold iA at h;split at h
  .rename_i e;ext h;show#[a,W,e]
  .cases q:iA r d with
   |none=>rw[q]at h;ext h
   |some j=>rw[q]at h;ext h;let(x,f,b):=F4 q;show#[x,by simpa using f,b]
theorem wR:∀{fs:G Pl} {d:D},iA fs d=P->∀q∈fs,Xe.eqv q.p d=R
 |[],_,_,_,b=>by ext b
 |a::r,d,h,q,b=>by
  unfold iA at h;by_cases e:Xe.eqv a.p d=S
  .rw[ax e]at h;ext h
  .rw[a4 e]at h
   rcases Xw.mp b with rfl|b
   .show abV.mpr e
   .show wR (by cases z:iA r d with|none=>rfl|some _=>rw[z]at h;ext h) q b
def Pj{w:G Nat}{d k:Nat}{sn:Sn}(hd:d<=w.length)(h:we w d sn=M k):k<=w.length:=by
 unfold we at h;split at h
 .rename_i q;ext h;let:=dw aaz q;rw[Ye,ZG]at this;ext
 .ext h
section
variable{b:Bd}{w:bg Nat}{es:bg Evn}
def TC.nx(h:TC b w es)(a:TW b w p)(f:e∈es)(c:BH b w p e=M q):TW b w q:=by
 unfold BH at c;cases z:we w p.2 (bJ b p.1 e).2 with
 |none=>rw[z]at c;ext c
 |some d=>rw[z]at c;ext c;show#[pY h.vb a.1 (h.eb e f),Pj a.2 z]
theorem TC.rw(h:TC b w es):∀{k p},RT b w es k p->TW b w p
 |0,p,e=>by rw[show p=IJ from e];show#[mY b,X1 _]
 |k+1,p,#[q,e,a,he,f]=>h.nx (h.rw a) he f
theorem RT.inv(h:TC b w es){I:Y5->Prop}(f:I uw)(a:∀s e,I s->EV b e->I (bJ b s e).1):∀{k p},RT b w es k p->I p.1
 |0,p,e=>by rw[show p=IJ from e];show f
 |k+1,p,#[q,e,i,he,g]=>by
  unfold BH at g;cases z:we w q.2 (bJ b q.1 e).2 with
  |none=>rw[z]at g;ext g
  |some d=>rw[z]at g;ext g;show a _ _ (RT.inv h f a i) (h.eb e he)
def FV(h:TC b w es)(f:TW b w p)(a:TW b w q)(e:kT p=kT q):p=q:=by
 injection e with e;injection e with e1 e;injection e with e2 _;injection e2 with e2
 show Prod.ext (PU h.vb h.vb f.1 a.1 e1) (acp e2)
def g9(a:TW b w p):LD.keyD (kT p)=S:=by let(e,f):=NB a.1;ext kT;rw[LD.keyD];simp only[LD.kds];rw[e,show LD.kd (nd p.2)=S by show LD.kd (.int _)=S;rw[LD.kd],a5 (show Xe.depth (.tuple [fP p.1,nd p.2])<=8 by show max (Xe.depth (fP p.1)) (max 0 0)+1<=8;ext)];rfl
end
structure Te where
 p:TP
 b:D
 e:D
 d:Nat
def ka(q:Te):Pl:=#[kT q.p,q.b,q.e]
def Tj:Te:=#[IJ,.none,.none,0]
def Dt(b:Bd)(w:G Nat)(fs:G Te)(q:Te)(e:Evn):Prop:=∀p,BH b w q.p e=M p->∃r∈fs,r.p=p/\r.d<=q.d+1
structure BT(b:Bd)(w:G Nat)(es:G Evn)(fs:G Te)(n:Nat):Prop where
 z:fs[0]?=M Tj
 bk:∀i q,fs[i]?=M q->0<i->∃j r,j<i/\fs[j]?=M r/\q.b=nd j/\q.d=r.d+1/\∃e,q.e=eS e/\e∈es/\BH b w r.p e=M q.p
 rw:∀q∈fs,RT b w es q.d q.p
 mo:fs.Pairwise λq r=>q.d<=r.d
 up:∀q,fs[n]?=M q->∀r∈fs,r.d<=q.d+1
 un:(fs.map (·.p)).Nodup
 dn:∀j q,j<n->fs[j]?=M q->∀e∈es,Dt b w fs q e
section
variable{b:Bd}{w:bg Nat}{es:bg Evn}{fs:bg Te}{n:Nat}
def Wg:BT b w es [Tj] 0:=by
 show#[W,λi q h g=>?_,λq a=>?_,Yu _ _,λq a r e=>?_,Yu _ _,λj q f=>bb f (acF _)]
 .match i,g,h with
  |i+1,_,h=>ext h
 .rw[Xo.mp a];rfl
 .rw[Xo.mp e];show X1 _
theorem Dt.mono(h:Dt b w fs q e)(l:G Te):Dt b w (fs++l) q e:=λp f=>by let(r,a,x):=h p f;show#[r,Yg _ a,x]
theorem BT.old(B:TC b w es)(h:BT b w es fs n)(l:fs[n]?=M q)(o:e∈es)(m:BH b w q.p e=M p)(c:iA (fs.map ka) (kT p)=M t):Dt b w fs q e:=λy a=>by
 rw[m]at a;ext a;let(r,f,v):=F4 c;rw[Xj]at f;cases z:fs[t]? with
 |none=>rw[z]at f;ext f
 |some u=>rw[z]at f;ext f;let g:=XI z;let i:=B.rw (h.rw u g);let j:=B.nx (B.rw (h.rw q (XI l))) o m;show#[u,g,FV B i j (LD.kd_eqv _ _ (LD.keyD_kd (g9 i)).1 (LD.keyD_kd (g9 j)).1 v),h.up q l u g]
def BT.new(B:TC b w es)(h:BT b w es fs n)(l:fs[n]?=M q)(v:e∈es)(o:BH b w q.p e=M p)(c:iA (fs.map ka) (kT p)=P):BT b w es (fs++[#[p,nd n,eS e,q.d+1]]) n:=by
 let C:=(W6.mp l).1;let A:=XI l;let old:∀{i:Nat} {r:Te},fs[i]?=M r->(fs++[#[p,L3.nd n,eS e,q.d+1]])[i]?=M r:=λx=>(Xh (W6.mp x).1).trans x;show#[old h.z,λi r a t=>?_,λr a=>?_,?_,λr a u g=>?_,?_,λj r G a f H=>?_]
 .by_cases E:i<fs.length
  .rw[Xh E]at a;let(j,u,K,J,I):=h.bk i r a t;show#[j,u,K,old J,I]
  .rw[XT ()]at a
   let z:i - fs.length=0:=by let:=(W6.mp a).1;rw[Z4]at this;ext
   rw[z]at a;ext a;show#[n,q,by ext,old l,W,W,e,W,v,o]
 .rcases X3.mp a with a|a
  .show h.rw r a
  .rw[Xo.mp a];show#[q.p,e,h.rw q A,v,o]
 .rw[ael];show#[h.mo,Yu _ _,λr a u g=>?_];rw[Xo.mp g];show h.up q l r a
 .rw[Xh C,l]at a
  ext a;rcases X3.mp g with g|g
  .show h.up q l u g
  .rw[Xo.mp g];show Xg _
 .rw[XQ,Zy];show#[h.un,Yu _ _,λx F y m e1=>?_];let(r,a,rfl):=Xv.mp F;let m:y=p:=Xo.mp m;let:=wR c (ka r) (Xv.mpr #[r,a,W]);rw[show(ka r).p=kT p by show kT r.p=_;rw[e1,m],uz (g9 (B.nx (B.rw (h.rw q A)) v o))]at this;ext this
 .rw[Xh ()]at a;show(h.dn j r G a f H).mono _
def BT.next(h:BT b w es fs n)(f:fs[n]?=M q)(hd:∀e∈es,Dt b w fs q e):BT b w es fs (n+1):=by
 show#[h.z,h.bk,h.rw,h.mo,λr a u o=>?_,h.un,λj r p a e l=>?_]
 .let i:=(W6.mp f);let g:=(W6.mp a);let:=acT.mp h.mo n (n+1) i.1 g.1 ();rw[i.2,g.2]at this;let:=h.up q f u o;ext
 .by_cases m:j<n
  .show h.dn j r m a e l
  .let:j=n:=by ext
   subst this;rw[f]at a;ext a;show hd e l
theorem BT.all(h:BT b w es fs n)(c:fs.length<=n):∀k p,RT b w es k p->∃r∈fs,r.p=p/\r.d<=k
 |0,p,q=>#[Tj,XI h.z,(show p=IJ from q).symm,Xg _]
 |k+1,p,#[u,e,t,he,q]=>by let(r,l,i,o):=h.all c k u t;let(j,a):=Yd.mp l;let(v,g,f,m):=h.dn j r (XD (W6.mp a).1 c) a e he p (by rw[i];show q);show#[v,g,f,by ext]
end
theorem gU{α:Type}:∀{m l:G α},m.Nodup->(∀x∈m,x∈l)->m.length<=l.length
 |[],_,_,_=>X1 _
 |a::r,l,h,g=>by
  let(f,e,rfl):=List.append_of_mem (g a Xb);rw[Yy]at h;let:=gU (m:=r) (l:=f++e) h.2 λx b=>by
   rcases X3.mp (g x (Xf _ b))with q|q
   .show Yg _ q
   .rcases Xw.mp q with rfl|q
    .show bb b h.1
    .show XM _ q
  rw[Xi]at this⊢;rw[Xn,Xn];ext
section
variable{b:Bd}(Z:VB b){s:Y5}{p:Y5×Sn}{k:Nat}
def GH:(go p k).2.length<=p.2.length+1:=by
 ext go;split
 .rename_i a q
  rw[Xi];let:(NC (jO p.1.ac k P) a).length<=1:=by
   cases a with
   |XG c=>show(if lM (jO p.1.ac k P) (.XG c)=S then[]else[(c,R)]:Sn).length<=1;split<;>show W8 W
   |_=>show X1 _
  ext
 .omega
def JK:(zl b p k).2.length<=p.2.length+1:=by
 let e:zl b p k=uP b (i6 p.1.ac p.1.oc) (di p.1 (look b (i6 p.1.ac p.1.oc) k),p.2) k (look b (i6 p.1.ac p.1.oc) k):=W;rw[e];generalize look b (i6 p.1.ac p.1.oc) k=m;generalize i6 p.1.ac p.1.oc=L;let cm:∀a,(eB (di p.1 m,p.2) k a).2.length<=p.2.length+1:=λa=>l6;cases m with
 |tap c n=>show aac _
 |XG c=>
  show(if(decide (L=0)&& !(cQ b [k]).isEmpty)=S then({di p.1 (.XG c)with wt:=M ([k],0,P)},p.2)else eB (di p.1 (.XG c),p.2) k (.XG c)).2.length<=_;split
  .show aac _
  .show cm _
 |once n=>show cm .none
 |Zh n=>show cm _
 |none=>show cm _
 |below=>show cm _
include Z
def xH(a:SW b s)(i:EV b e):(bJ b s e).2.length<=100:=by
 let d:=c8 Z (p:=(s,[])) a.sa (SW.wd Z a);let j:(br b (s,[])).2.length<=5:=d.2.2.1;cases e with
 |turn=>
  show(fE b (s,[])).2.length<=100;ext fE;split
  .simp_all
  .rename_i f g w q
   let v:=(a.wt f g w q).1;split
   .let:=(c8 Z (p:=({s with wt:=M (f,g+1,w)},[])) #[a.sa.ac,a.sa.oc] λ_ _ _ e=>by ext e;show#[v.ne,v.nd,v.kn,v.kf,by let:=v.g0;ext,v.tp,v.ch]).2.2.1;show XX this (show 0+5<=100 by decide)
   simp_all
 |up k=>
  show(kO b (s,[]) k).2.length<=100;ext kO;split
  .rename_i q;let z:=(kL Z a q).2;let z:(STP.bN b (s,[]) k).2.length<=5:=z;let:=GH (p:=STP.bN b (s,[]) k) (k:=k);ext
  .show XX GH (show 0+1<=100 by decide)
 |down k=>
  show(gf b (s,[]) k).2.length<=100;ext gf;split
  .simp_all
  .rename_i q
   rw[Yz,not_or]at q;let m:s.ac k=P:=by simp_all
   let l:yD s.wt k=R:=by simp_all
   split
   .rename_i h
    let(f,g,e1,e2,e3,e4):=uC Z a i m l h;ext pA;rw[e1];dsimp only;split
    .let:=(c8 Z (p:=({s with wt:=M (f++[k],g,P)},[])) #[a.sa.ac,a.sa.oc] λ_ _ _ e=>by ext e;show e3).2.2.1;show XX this (show 0+5<=100 by decide)
    .show X1 _
   .let:=JK (b:=b) (p:=br b (s,[])) (k:=k);ext
end
section
variable{ρ:aP}{ω Y Z:aK}{x:SV}
def GR(b:o ρ ω=.ok xs Y)(a:jU F n xs Y=.ok x Z):qB F n o ρ ω=.ok x Z:=by ext qB;rw[b,d5,a];rfl
def G6(sn:G D)(st:D):frz 4 (ω++[.lst (sn.map .fz)]) (.tp [.rf ω.length,.fz st])=M (.tuple [.list sn,st],ω++[.dead]):=by
 let e1:frz 3 (ω++[.lst (sn.map .fz)]) (.rf ω.length)=M (.list sn,ω++[.dead]):=by ext frz;rw[bc];dsimp only;rw[u0];dsimp only;rw[gZ]
 let e2:pE (frz 3) (ω++[.lst (sn.map .fz)]) [.rf ω.length,.fz st]=M ([.list sn,st],ω++[.dead]):=by ext pE;rw[e1];rfl
 ext frz;rw[show([AV.rf ω.length,AV.fz st].map AV.sv)=[.rf ω.length,.fz st]from rfl,e2]
theorem z8(a:VB b)(f:SW b s)(g:EV b e)(j:fa ρ ω=.ok (.fz (bD b)) ω)(i:fb ρ ω=.ok (.fz (fP s)) ω)(h:fc ρ ω=.ok (.fz (eS e)) ω):sB (qB STP.lj 3 (ai fa (ai fb (ai fc aI)))) ρ ω=.ok (.fz (.tuple [.list ((bJ b s e).2.map nu),fP (bJ b s e).1])) (ω++[.dead]):=
 vj (GR (aj j (aj i (aj h aG))) (SU a f g)) (G6 _ _)
end
def mw(h:Out r T X)(k:∀a c,T a c->T' a c)(b:∀x,X x->C x):Out r T' C:=by
 show#[?_];let h:=h.out;cases r with
 |bad=>show h
 |er x o=>show b x h
 |ok a o=>show k a o h
def KN:jw o m fs (a++K)=jw o m fs a++K:=by ext jw;rw[X2];rfl
theorem Vs{n:Nat}{v:SV}(h:xs[n]?=M v):lh xs (n:Int)=M v:=vq () (by rw[Yr];show h)
abbrev ET(b:Bd)(w:G Nat)(m:Int)(r:aP):aP:=-(bD b)::-(.str (dz w))::-(.int m)::r
abbrev E0(b:Bd)(w:G Nat)(m:Int)(es:G Evn)(l n:Nat)(g f e a:I SV):aP:=(ET b w m [-(.list (es.map eS)),M (.rf l),-(nd n),g,f,e,a])
def Uy(b:Bd)(w:G Nat)(es:G Evn)(m:Int)(x:Xc):Prop:=x=TM m/\∃l:G TP,l.Nodup/\(∀p∈l,∃k,RT b w es k p)/\m<(l.length:Int)
def yA(T:VB b){n:Nat}(x:b.n=n)(z:n<=5)(hw:∀c∈w,c<26)(wl:w.length<=3)(m0:0<=m)(Y:m<=1000)(g:aK):Out (gb [.fz (bD b),.fz (.str (dz w)),.fz (.int m)] g) (λv s=>∃(fs:bg Te) (k:aK),v=.rf (g.length+1)/\s=jw (g++[.dead]) m (fs.map ka) k/\BT b w (kJ n) fs fs.length/\(fs.length:Int)<=m) (Uy b w (kJ n) m):=by
 let Z:(kJ n).length<=1000:=by ext kJ;rw[Xi,Xi,W5,W5,XY];show n+n+1<=_;ext
 let ev:=Ou x z;let B:TC b w (kJ n):=#[T,DM x,hw,wl];generalize kJ n=es at Z ev B;show sr W ?_;let e1:sB (ae (b6 gh 1 {ad 0})) (ET b w m [Ld,Ld,Ld,Ld,Ld,Ld,Ld]) g=.ok (.fz (.list (es.map eS))) (g++[.dead]):=by show vj (gc (cg (ah (af W) av) W W ev)) ?_;rw[pX bc,gZ]
 show cy e1 W ?_;let Q:g.length+1=(g++[Cell.dead]).length:=by rw[Xi];rfl
 rw[Q];generalize g++[Cell.dead]=base;let N:=Pc (C:= "Places") (F:=cB) (fa:=ai (ae (aU {pC (.tuple [(.tuple []),.none,.none]),~~~0})) (ai (ae (ad 2)) aI)) (ρ:=(ET b w m [-(.list (es.map eS)),Ld,Ld,Ld,Ld,Ld,Ld])) (ω:=base) (aj (ag (d:=kT IJ) (bq (ah aw (ah aw av)) W (W8 W))) (aj (ag (af W)) aG)) W;rw[Ez (g9 (w:=w) #[mY b,X1 _]) m0 Y]at N;by_cases mz:m<=0
 .rw[ax mz]at N;show Lr (.eq N #[#[W,[IJ],Yu _ _,λp I=>#[0,Xo.mp I],by show m<1;ext]])
 rw[a4 mz]at N;show cy N W ?_;show cy (ag aw) W ?_;show jW (Iu (λn ρ ω=>∃(fs:bg Te) (k:aK) (K E A y:bt SV),ρ=E0 b w m es base.length n K E A y/\ω=jw base m (fs.map ka) k/\BT b w es fs n/\n<=fs.length/\(fs.length:Int)<=m) 1000 () #[[Tj],[],Ld,Ld,Ld,Ld,W,W,Wg,X1 _,by show(1:Int)<=m;ext] ?_);rintro n ρ ω ⟨fs,k,K,E,A,y,rfl,rfl,bi,hle,hlm⟩;let P:∀{fs:bg Te} {k:aK},(fs.length:Int)<=m->PSt base.length (base.length+1) (base.length+2) m (fs.map ka) (jw base m (fs.map ka) k):=λ{fs k} h=>yX (by rw[W5];ext);let ff:∀{fs:bg Te} {k:aK} {K E A y:bt SV},(fs.length:Int)<=m->aV "Places" "found" (aq 4) (E0 b w m es base.length n K E A y) (jw base m (fs.map ka) k)=.ok (.rf (base.length+1)) (jw base m (fs.map ka) k):=λh=>iz (aN W) (P h).o oy;let S:y1 dY (ai (aV "Places" "found" (aq 4)) aI) (E0 b w m es base.length n K E A y) (jw base m (fs.map ka) k)=.ok (.fz (nd fs.length)) (jw base m (fs.map ka) k):=Ag (aj (ff hlm) aG) (by ext aB;rw[g8 (P hlm).f];rfl) ((iP _).trans (by rw[W5,W5]));let G:=aH (b8 (ag (f:=ad 5) (af W)) S (bw (nX (n:Int) (fs.length:Int))));by_cases O:n<fs.length
 case neg=>
  rw[a6 ()]at G;let e:n=fs.length:=by ext
  subst e;show .inl #[_,G,rV (aN W) #[fs,k,W,W,bi,hlm]]
 case pos=>
  rw[a5 ()]at G;show .inr #[by ext,_,G,?_];obtain⟨q,l⟩:∃q,fs[n]?=cL q:=#[_,Xp O];let st:i7 (i7 (aV "Places" "found" (aq 4)) (ae (ad 5))) (ae (~~~0)) (E0 b w m es base.length n K E A y) (jw base m (fs.map ka) k)=.ok (.fz (kT q.p)) (jw base m (fs.map ka) k):=cO (yn (ff hlm) (ag (af W)) W (P hlm).f (Vs (by rw[Xj,Xj,Xj,l];rfl))) (ag aw) iH;show cy st W ?_;show jW (yL (λi ρ ω=>∃(fs:bg Te) (k:aK) (E A y:bt SV),ρ=E0 b w m es base.length n (-(kT q.p)) E A y/\ω=jw base m (fs.map ka) k/\BT b w es fs n/\fs[n]?=cL q/\(fs.length:Int)<=m/\∀e∈es.take i,Dt b w fs q e) (rE (gI (af W) W W)) #[fs,k,E,A,y,W,W,bi,l,hlm,λe he=>by ext he] ?_ ?_)
  .clear G S st O l hle bi hlm
   rintro i d ρ ω R ⟨fs,k,E,A,y,rfl,rfl,bi,l,hlm,dn⟩;rw[Xj]at R;cases qe:es[i]? with
   |none=>rw[qe]at R;ext R
   |some e=>
    rw[qe]at R;cases Xm R;let L:=XI qe;let M:=B.rw (bi.rw q (XI l));show#[E0 b w m es base.length n (-(kT q.p)) (-(eS e)) A y,_,W,?_];let s1:=z8 (ρ:=E0 b w m es base.length n (-(kT q.p)) (-(eS e)) A y) (ω:=jw base m (fs.map ka) k) T M.1 (B.eb e L) (fa:=ae (ad 0)) (fb:=ae (aA bf (ad 6) (~~~0))) (fc:=ae (ad 7)) (ag (af W)) (ag (aD (af W) aw W W iH)) (ag (af W));rw[<-KN]at s1;let k1:=BG T M.1 (B.eb e L);let k2:=xH T M.1 (B.eb e L);let dk:=Lp hw wl (d:=q.p.2) (by let:=M.2;ext) k1 ();let j:BH b w q.p e=(we w q.p.2 (bJ b q.p.1 e).2).map λd=>((bJ b q.p.1 e).1,d):=W;show cy s1 W ?_;generalize bJ b q.p.1 e=u at k1 dk j;generalize k++[Cell.dead]=k;show cy (ag (cg (ah (af W) (ah (aD (af W) aw W W jJ) (ah (aD (af W) aw W W iH) av))) W W dk)) W ?_;let U:es.take (i+1)=es.take i++[e]:=by rw[ZY,qe];rfl
    cases qd:we w q.p.2 u.2 with
    |none=>
     rw[qd]at j;show .eq (eC (aX (bh (aD (af W) aw W W W) W)) eD) #[fs,k,_,_,_,W,W,bi,l,hlm,λf a=>?_];rw[U]at a;rcases X3.mp a with a|a
     .show dn f a
     .rw[Xo.mp a];intro p I;rw[j]at I;ext I
    |some d=>
     rw[qd]at j;let t2:bp (az (aA lJ (ad 9) (pC .none))) (E0 b w m es base.length n (-(kT q.p)) (-(eS e)) (-(.tuple [.list (u.2.map nu),fP u.1])) (-(Oo (cL d)))) (jw base m (fs.map ka) k)=.ok W3 (jw base m (fs.map ka) k):=aX (bh (aD (af W) aw W W W) W);let pn:=B.nx M L j;let H:=BB (F:=bS) (fo:=aq 4) (fa:=ai (ae (aU {aA bf (ad 8) (~~~1),ad 9})) (ai (ae (ad 5)) (ai (ae (ad 7)) aI))) (ρ:=E0 b w m es base.length n (-(kT q.p)) (-(eS e)) (-(.tuple [.list (u.2.map nu),fP u.1])) (-(Oo (cL d)))) (ω:=jw base m (fs.map ka) k) (aN W) (P hlm).o uf (aj (ag (d:=kT (u.1,d)) (bq (ah (aD (af W) aw W W jJ) (ah (af W) av)) W (W8 W))) (aj (ag (af W)) (aj (ag (af W)) aG))) W;rw[tm (P hlm) (xI () Y) Y (g9 pn)]at H;show .eq (c7 t2 W) (Es ?_);cases qi:iA (fs.map ka) (kT (u.1,d))with
     |some t=>
      rw[qi]at H;show .eq H #[fs,k,_,_,_,W,W,bi,l,hlm,λf a=>?_];rw[U]at a;rcases X3.mp a with a|a
      .show dn f a
      .rw[Xo.mp a];show bi.old B l L j qi
     |none=>
      rw[qi]at H;rw[W5]at H;let bn:=bi.new B l L j qi;by_cases hm:m<=(fs.length:Int)
      .rw[ax hm]at H
       show .eq H #[W,_,bn.un,λp I=>?_,?_]
       .let(r,hr,rfl):=Xv.mp I;show#[r.d,bn.rw r hr]
       .rw[W5,Xi];show m<((fs.length+1:Nat):Int);ext
      .rw[a4 hm,BP]at H
       let X:=(W6.mp l).1;show .eq H #[fs++[#[(u.1,d),nd n,eS e,q.d+1]],k,_,_,_,W,by rw[XQ];rfl,bn,(Xh X).trans l,?_,λf a=>?_]
       .rw[Xi];show((fs.length+1:Nat):Int)<=m;ext
       .rw[U]at a
        rcases X3.mp a with a|a
        .show(dn f a).mono _
        .rw[Xo.mp a];intro p I;rw[j]at I;ext I;show#[_,XM _ Xb,W,Xg _]
  .rintro ρ ω ⟨fs,k,E,A,y,rfl,rfl,bi,l,hlm,dn⟩;rw[W5,Z9]at dn;let X:=(W6.mp l).1;show yM (Qe (ω3:=[]) W (ag aw) (bw W)) #[fs,k,_,_,_,_,W,W,bi.next l dn,X,hlm]
section
variable{b:Bd}{w:bg Nat}{es:bg Evn}{fs gs:bg Te}
def BT.len(h:BT b w es fs fs.length){l:G TP}(a:l.Nodup)(e:∀p∈l,∃k,RT b w es k p):l.length<=fs.length:=by
 let:=gU a λp f=>by let(k,g):=e p f;let(r,j,i,_):=h.all (Xg _) k p g;show Xv.mpr #[r,j,i]
 rw[W5]at this;show this
def BT.one(h:BT b w es fs fs.length)(c:BT b w es gs gs.length):fs.length=gs.length:=by
 let g:=h.len c.un λp e=>by let(r,a,rfl):=Xv.mp e;show#[_,c.rw r a]
 let f:=c.len h.un λp e=>by let(r,a,rfl):=Xv.mp e;show#[_,h.rw r a]
 rw[W5]at g f;ext
def BT.uniq(h:BT b w es fs n)(l:q∈fs)(g:r∈fs)(e:q.p=r.p):q=r:=by let(i,m):=Yd.mp l;let(j,a):=Yd.mp g;let f:=(W6.mp m).1;let:i=j:=(abU (show i<(fs.map (·.p)).length by rw[W5];show f) h.un).mp (by rw[Xj,Xj,m,a];show dw M e);subst this;rw[m]at a;show Xm a
def BT.min(h:BT b w es fs fs.length)(a:q∈fs)(e:RT b w es k q.p):q.d<=k:=by let(r,i,g,f):=h.all (Xg _) k _ e;rw[h.uniq a i g.symm];show f
def BT.aiN(h:BT b w es fs fs.length)(c:BT b w es gs gs.length)(f:q∈fs)(a:r∈gs)(e:q.p=r.p):q.d=r.d:=by let i:=h.min f (by rw[e];show c.rw r a);let g:=c.min a (by rw[<-e];show h.rw q f);ext
end
def KC(a:Out (e ρ ω) (λv c=>∃(i:Nat) (fs:G (Str×SV)) (j:Nat) (ds:G D),v=.rf i/\c[i]?=M (.obj C fs)/\fs.lookup f=M (.rf j)/\c[j]?=M (.lst (ds.map .fz))/\T ds (c.set j .dead)) X):Out (gB (aV C f e) ρ ω) T X:=by
 let h:=a.out;show#[?_];cases q:e ρ ω with
 |bad=>rw[q]at h;show h.elim
 |er x o=>
  rw[q]at h;let:gB (aV C f e) ρ ω=.er x o:=by unfold gB aV;rw[q];rfl
  rw[this];show h
 |ok v o=>rw[q]at h;let(i,fs,j,ds,rfl,m,l,g,b):=h;rw[v7 (iz q m l) g];show b
abbrev K6(b a:aK):Prop:=∀j,j<b.length->a[j]?=b[j]?
def tS(q:Te):D:=.tuple [fP q.p.1,nd q.p.2,nd q.d]
def i8(Y:VB b){n:Nat}(z:b.n=n)(V:n<=5)(hw:∀c∈w,c<26)(U:w.length<=3)(m0:0<=m)(s:m<=1000)(e:aK):Out (aL [.fz (bD b),.fz (.str (dz w)),.fz (.int m)] e) (λv p=>∃(fs:bg Te) (i:Nat),BT b w (kJ n) fs fs.length/\(fs.length:Int)<=m/\v=.rf i/\p[i]?=cL (.lst ((fs.map tS).map .fz))/\K6 e p) (Uy b w (kJ n) m):=by
 show sr W ?_;show cy (gc (by ext:0)) W ?_;show cy (ρ1:=(ET b w m [cL (.rf e.length),cL (.rf (e.length+1)),Ld,Ld,Ld,Ld])) ((gc (by ext:0)).trans (by rw[Xi];rfl)) W ?_;let Q:(e++[Cell.lst (([]:bg D).map .fz)]++[Cell.lst (([]:bg D).map .fz)])[e.length]?=cL (.lst []):=by rw[X2];show xa (t:=0)
 let O:(e++[Cell.lst (([]:bg D).map .fz)]++[Cell.lst (([]:bg D).map .fz)])[e.length+1]?=cL (.lst []):=by rw[X2];show xa
 let N:K6 e (e++[Cell.lst (([]:bg D).map .fz)]++[Cell.lst (([]:bg D).map .fz)]):=λj y=>by rw[X2,Xh y]
 let C:(e++[Cell.lst (([]:bg D).map .fz)]++[Cell.lst (([]:bg D).map .fz)]).length=e.length+2:=by rw[Xi,Xi];rfl
 generalize e++[Cell.lst (([]:bg D).map .fz)]++[Cell.lst (([]:bg D).map .fz)]=f at Q O C N;let ca:=Fx (F:=gb) (es:=[]) (fa:=ai (ae (ad 0)) (ai (ae (ad 1)) (ai (ae (ad 2)) aI))) (ρ:=(ET b w m [cL (.rf e.length),cL (.rf (e.length+1)),Ld,Ld,Ld,Ld])) (ω:=f) (aj (ag (af W)) (aj (ag (af W)) (aj (ag (af W)) aG))) W;show jW (Out.bind (KC (.eq ca ((yA Y z V hw U m0 s f).imp λv p hv=>?_))));let(fs,J,rfl,rfl,K,I):=hv;let P:PSt (f++[Cell.dead]).length ((f++[Cell.dead]).length+1) ((f++[Cell.dead]).length+2) m (fs.map ka) (jw (f++[.dead]) m (fs.map ka) J):=yX (by rw[W5];ext);let bl:(f++[Cell.dead]).length=e.length+3:=by rw[Xi,C];rfl
 show#[_,_,_,fs.map λq=>IM (ka q),by rw[bl,C],P.o,oy,by rw[XN];let:=P.f;rw[XN,XN]at this;show this,?_];let g0:((jw (f++[.dead]) m (fs.map ka) J).set ((f++[Cell.dead]).length+1) .dead)[e.length]?=cL (.lst []):=by rw[XH ()];ext jw;rw[Xh (),Xh ()];show Q
 let S:((jw (f++[.dead]) m (fs.map ka) J).set ((f++[Cell.dead]).length+1) .dead)[e.length+1]?=cL (.lst []):=by rw[XH ()];ext jw;rw[Xh (),Xh ()];show O
 let R:K6 e ((jw (f++[.dead]) m (fs.map ka) J).set ((f++[Cell.dead]).length+1) .dead):=λj y=>by rw[XH ()];ext jw;rw[Xh (),Xh ()];show N j y
 generalize (jw (f++[.dead]) m (fs.map ka) J).set ((f++[Cell.dead]).length+1) .dead=ω2 at g0 S R;let go:=pM (gt:=D3 3 (jF (dZ 5) (jF (dZ 6) (jF (dZ 7) vx)))) (T:=λv p=>∃(fs:bg Te) (i:Nat),BT b w (kJ n) fs fs.length/\(fs.length:Int)<=m/\v=.rf i/\p[i]?=cL (.lst ((fs.map tS).map .fz))/\K6 e p) (X:=Uy b w (kJ n) m) (b:=(aC (ce (DZ (bp (az (aA oj (ad 6) (pC .none)))) (ae (~~~0)) (jv bO (i7 (aq 3) (ae (ad 6))) (ae (~~~1)))) (dZ 8)) (aC (bv (lY (aq 3) (ae (ad 8)))) (bv (lY (aq 4) (ae (aU {aA bf (ad 5) (~~~0),aA bf (ad 5) (~~~1),ad 8}))))))) (λi ρ p=>∃H G E u:bt SV,ρ=(ET b w m [cL (.rf e.length),cL (.rf (e.length+1)),H,G,E,u])/\p[e.length]?=cL (.lst (((fs.take i).map λq=>nd q.d).map .fz))/\p[e.length+1]?=cL (.lst (((fs.take i).map tS).map .fz))/\K6 e p) (fs.map λq=>IM (ka q)) 0 (ET b w m [cL (.rf e.length),cL (.rf (e.length+1)),Ld,Ld,Ld,Ld]) ω2 #[Ld,Ld,Ld,Ld,W,g0,S,R] (by
  rintro i d ρ p A ⟨H,G,E,u,rfl,g,l,B⟩;rw[ZJ]at g l⊢;rw[Xj]at A;cases qi:fs[i]? with
  |none=>rw[qi]at A;ext A
  |some q=>
   rw[qi]at A;cases Xm A;show#[(ET b w m [cL (.rf e.length),cL (.rf (e.length+1)),-(kT q.p),-(q.b),-(q.e),u]),p,W,?_];let Z:DZ (bp (az (aA oj (ad 6) (pC .none)))) (ae (~~~0)) (jv bO (i7 (aq 3) (ae (ad 6))) (ae (~~~1))) (ET b w m [cL (.rf e.length),cL (.rf (e.length+1)),-(kT q.p),-(q.b),-(q.e),u]) p=.ok (.fz (nd q.d)) p:=by
    by_cases i0:i=0
    .subst i0;rw[K.z]at qi;ext qi;show BZ (aX (bh (aD (af W) aw W W W) W)) (ag aw)
    .let(j,r,h1,h2,h3,h4,_):=K.bk i q qi ();rw[h3];show Bx (aX (bh (aD (af W) aw W W W) W)) ?_;show(b8 (yn (aN W) (ag (af W)) W g (Vs ?_)) (ag aw) (bw (eW (r.d:Int) 1))).trans (by rw[h4];rfl);rw[Xj,Xj,aaG h1,h2];rfl
   show cy Z W ?_;let ap:=rN (ρ:=(ET b w m [cL (.rf e.length),cL (.rf (e.length+1)),-(kT q.p),-(q.b),-(q.e),-(nd q.d)])) (fo:=aq 3) (fe:=ae (ad 8)) (x:=.fz (nd q.d)) (aN W) g (ag (af W)) g (by rw[W5,W5,Ye];ext);show zV (gF ap) ?_;let l0:=(W6.mp g).1;let l1:=(W6.mp l).1;let h:=(XH (a:=Cell.lst (((fs.take i).map λq=>nd q.d).map SV.fz++[.fz (nd q.d)])) (show e.length≠e.length+1 by ext)).trans l;let L:=rN (ρ:=(ET b w m [cL (.rf e.length),cL (.rf (e.length+1)),-(kT q.p),-(q.b),-(q.e),-(nd q.d)])) (fo:=aq 4) (fe:=ae (aU {aA bf (ad 5) (~~~0),aA bf (ad 5) (~~~1),ad 8})) (x:=.fz (tS q)) (aN W) h (ag (bq (ds:=[fP q.p.1,nd q.p.2,nd q.d]) (ah (aD (rv:=.fz (fP q.p.1)) (af W) aw W W iH) (ah (aD (rv:=.fz (nd q.p.2)) (af W) aw W W jJ) (ah (af W) av))) W (W8 W))) h (by rw[W5,W5,Ye];ext);let M:fs.take (i+1)=fs.take i++[q]:=by rw[ZY,qi];rfl
   show yM (gF L) #[_,_,_,_,W,?_,?_,λj y=>by rw[XH (),XH ()];show B j y]
   .rw[XH (),Yh l0,M,XQ,XQ];rfl
   .rw[Yh (by rw[Yf];show l1),M,XQ,XQ];rfl)
 rw[ZJ,W5,Z9]at go;show go.imp λfl o k=>?_;cases fl with
 |nx r=>let(H,G,E,u,rfl,g,l,B):=k;show rV (aN W) #[fs,_,K,I,W,l,B]
 |rt v=>show k
 |ct r=>show k.elim
 |bk r=>show k.elim
def lm(w:G Nat):Nat->Sn->I Nat
 |d,[]=>M d
 |d,(c,S)::r=>if(w.drop d).take 1=[c]then lm w (d+1) r else P
 |d,(_,R)::r=>lm w d r
theorem Ef(w:G Nat):∀(sn:Sn) (d:Nat),lm w d sn=we w d sn
 |[],d=>by unfold lm we;rw[ax (show(w.drop d).take (jV []).length=jV []from agk)];rfl
 |(c,R)::r,d=>Ef w r d
 |(c,S)::r,d=>by
  let e:jV ((c,S)::r)=c::jV r:=W;ext lm;rw[Ef w r (d+1)];ext we;rw[e];let b:(w.drop d).take (c::jV r).length=c::jV r↔(w.drop d).take 1=[c]/\(w.drop (d+1)).take (jV r).length=jV r:=by
   rw[<-List.drop_drop,Xn];cases w.drop d with
   |nil=>simp
   |cons a t=>simp
  by_cases g:(w.drop d).take 1=[c]
  .rw[ax g]
   by_cases f:(w.drop (d+1)).take (jV r).length=jV r
   .rw[ax f,ax (b.mpr #[g,f]),Xn];congr 1;ext
   .rw[a4 f,a4 λz=>f (b.mp z).2]
  .rw[a4 g,a4 λz=>g (b.mp z).1]
def E6(u:∀c∈w,c<26)(C:w.length<=3)(hd:d<=3)(A:aak sn)(E:sn.length<=900):iu [.str (dz w),nd d,.list (sn.map nu)]=.ok (.fz (Oo (we w d sn))):=by
 let e:∀d:Bool,cK (.str (if d=S then "down" else "up")) (.str "down")=-(.bool d):=λd=>by
  ext d
  .show(RD (by left) (by left)).trans (by rw[show((if R=S then "down" else "up":Str)== "down")=R by left])
  .show(RD (by left) (by left)).trans (by rw[show((if S=S then "down" else "up":Str)== "down")=S by left])
 let j:∃N,fD 5 fX [.str (dz w),nd d,.list (sn.map nu)]=.ok N/\N=.fz (Oo (we w d sn)):=by
  show lO W ?_;show HQ (λi L=>∃(k:Nat) (g f:I PV),k<=d+i/\lm w k (sn.drop i)=we w d sn/\L=[zf (.str (dz w)),zf (nd k),zf (.list (sn.map nu)),g,f]) (gI (af W) W W) #[d,P,P,Xg _,by rw[acK];show Ef w sn d,W] ?_ ?_
  .rintro i x L a ⟨k,g,f,B,hm,rfl⟩
   rw[Xj]at a;cases q:sn[i]? with
   |none=>rw[q]at a;ext a
   |some y=>
    rw[q]at a;cases Xm a;let(r,t):=W6.mp q;rw[YF r,t]at hm;let m:=A y (XI q);let(c,b):=y;show#[[zf (.str (dz w)),zf (nd k),zf (.list (sn.map nu)),zf (.str (dL c)),zf (.str (if b=S then "down" else "up"))],W,?_];let o:az (aA cK (ad 4) (pC (.str "down"))) [zf (.str (dz w)),zf (nd k),zf (.list (sn.map nu)),zf (.str (dL c)),zf (.str (if b=S then "down" else "up"))]=.ok (b,[zf (.str (dz w)),zf (nd k),zf (.list (sn.map nu)),zf (.str (dL c)),zf (.str (if b=S then "down" else "up"))]):=bh (aD (af W) aw W W (e b)) W;show Oe o (λl=>?_) (λl=>?_)
    .subst l
     let p:jP (.str (dz w)) (M (k:Int)) (M ((k:Int)+1))=-(.str (dz ((w.drop k).take 1))):=by let:=AE (w:=w) () (b:=k+1) (aac _);rw[Zl]at this;show this
     let ne:=Ep (v:=(w.drop k).take 1) (λx a=>u x (aek (abj a))) (λx a=>by rw[Xo.mp a];show m);let n:az (aA pO (DH jP (ad 0) (gY (ad 1)) (gY (aA bO (ad 1) (~~~1)))) (ad 3)) [zf (.str (dz w)),zf (nd k),zf (.list (sn.map nu)),zf (.str (dL c)),zf (.str (if S=S then "down" else "up"))]=.ok (!decide ((w.drop k).take 1=[c]),[zf (.str (dz w)),zf (nd k),zf (.list (sn.map nu)),zf (.str (dL c)),zf (.str (if S=S then "down" else "up"))]):=bh (aD (xQ (af W) (gS (af W) W) (gS (aD (af W) aw W W (eW _ _)) W) W p) (af W) W W ne) W;unfold lm at hm;show oU n (λh=>?_) (λh=>fW ?_)
     .let:¬(w.drop k).take 1=[c]:=λz=>by rw[a5 z]at h;ext h
      rw[a4 this]at hm;show ja aw W (by rw[<-hm];rfl)
     .let:(w.drop k).take 1=[c]:=by
       cases z:decide ((w.drop k).take 1=[c])with
       |true=>show a7 z
       |false=>rw[z]at h;ext h
      rw[ax this]at hm;show zD (aD (af W) aw W W (eW (k:Int) 1)) W #[k+1,_,_,by ext,hm,W]
    .subst l;show Ao #[k,_,_,by ext,hm,W]
  .rintro L ⟨k,g,f,B,hm,rfl⟩;rw[W5,List.drop_length]at hm;show dU (af W) W (by rw[<-hm];rfl)
 let(N,h,rfl):=j;show h
def Qn{b:Bd}{n:Nat}(c:b.n=n)(l:n<=5):fL [bD b]=.ok (.ow ((kJ n).map eS)):=by
 let e:L9.R8 [.int b.n]=M (.ow (aZ (Xq n))):=by show(if 0<=b.n/\b.n<=1000 then M (RV.ow (aZ (Xq b.n.toNat)))else P)=_;rw[ax #[by ext,by ext],c,Yr]
 let g:jD (cV (gN 0) cS (aU {pC (.str "down"),ad 0}) (aZ (Xq n)) [P] [])=.ok ((Xq n).map λk=>eS (.down k)):=jq nd (λk=>eS (.down k)) (Xq n) (by rw[XY];ext) W λk _=>bq (ah aw (ah (af W) av)) W (W8 W);let f:jD (cV (gN 0) cS (aU {pC (.str "up"),ad 0}) (aZ (Xq n)) [P] [])=.ok ((Xq n).map λk=>eS (.up k)):=jq nd (λk=>eS (.up k)) (Xq n) (by rw[XY];ext) W λk _=>bq (ah aw (ah (af W) av)) W (W8 W);let a:∃m,fD 2 d6 [bD b]=.ok m/\m=.ow ((kJ n).map eS):=by show lO W ?_;show cz (fY (ah (aD (af W) aw W W (Uj b)) av) W e) W W ?_;let j:bO (.list ((Xq n).map λk=>eS (.down k))) (.list ((Xq n).map λk=>eS (.up k)))=M (.ow ((Xq n).map (λk=>eS (.down k))++(Xq n).map λk=>eS (.up k))):=Jq (by rw[W5,W5,XY];ext);let i:bO (.list ((Xq n).map (λk=>eS (.down k))++(Xq n).map λk=>eS (.up k))) (.list [eS .turn])=M (.ow ((kJ n).map eS)):=(Jq (by rw[Xi,W5,W5,XY];show _+1<=_;ext)).trans (by ext kJ;rw[XQ,XQ,XN,XN];rfl);show dU (aD (aD (cY (gI (lw W) W W) W g) (cY (gI (af W) W W) W f) W W j) (lW (ah (bq (ah aw (ah aw av)) W (W8 W)) av) W (W8 W)) W W i) W W
 let(m,h,rfl):=a;show h
def ic(a:G Int)(k:Int)(e:0<=k):∃c:Int,a8 [.list (a.map .int),.int k]=.ok (.fz (.int c)):=by
 obtain⟨n,rfl⟩:∃n:Nat,k=(n:Int):=#[k.toNat,by ext];let b:dY [.list (a.map .int)]=-(nd a.length):=(iP _).trans (by simp_all);by_cases h:n<a.length
 .show#[a[n],jg (ρ:=[-(.list (a.map .int)),-(nd n)]) W (dU (pv:=.fz (.int a[n])) (rv:=.fz (.int a[n])) (PL (bh (aD (rv:=.fz (.bool S)) (af W) (fY (rv:=.fz (nd a.length)) (ah (af W) av) W b) W W ?_) W) (aD (rv:=.fz (.int a[n])) (af W) (af W) W W (WL ?_))) W W)]
  .rw[nX,a5 ()]
  simp_all
 .show#[0,jg (ρ:=[-(.list (a.map .int)),-(nd n)]) W (dU (pv:=.fz (.int 0)) (rv:=.fz (.int 0)) (Re (bh (aD (rv:=.fz (.bool R)) (af W) (fY (rv:=.fz (nd a.length)) (ah (af W) av) W b) W W ?_) W) aw) W W)];rw[nX,a6 ()]
theorem V1{i j:Int}(h: -2^64<i/\i<2^64):iL (.int i) (.int j)=-(.int (i*j)):=Kz h
theorem VO{i j:Int}(h: -2^64<j/\j<2^64):iL (.int i) (.int j)=-(.int (i*j)):=Jk h
def sS(x s m:Int):Int:=((x % 1000033+s)*(s+521) % 1000033*((x % 1000033+s)*(s+521) % 1000033)+x/1000033+7*s) % 999983/3 % m
theorem fF{x s m:Int}(hm:0<m):0<=sS x s m/\sS x s m<m:=#[agl _ (),ae5 _ hm]
def cM(x:Int){s m:Int}(p:0<=s)(o:s<1000)(hm:0<m):aF [.int x,.int s,.int m]=.ok (.fz (.int (sS x s m))):=by ext sS;let n:qC (.int x) (.int 1000033)=-(.int (x % 1000033)):=vY ();let f:iL (.int (x % 1000033+s)) (.int (s+521))=-(.int ((x % 1000033+s)*(s+521))):=VO #[by ext,by ext];generalize (x % 1000033+s)*(s+521)=y at f;let e:qC (.int y) (.int 1000033)=-(.int (y % 1000033)):=vY ();let g:0<=y % 1000033/\y % 1000033<1000033:=#[agl _ (),ae5 _ ()];generalize y % 1000033=z at e g;let b:iL (.int z) (.int z)=-(.int (z*z)):=VO #[by ext,by ext];let l:yg (.int x) (.int 1000033)=-(.int (x/1000033)):=IG #[by decide,by decide];let j:iL (.int 7) (.int s)=-(.int (7*s)):=V1 #[by decide,by decide];generalize z*z=u at b;let a:qC (.int (u+x/1000033+7*s)) (.int 999983)=-(.int ((u+x/1000033+7*s) % 999983)):=vY ();generalize (u+x/1000033+7*s) % 999983=v at a;let i:yg (.int v) (.int 3)=-(.int (v/3)):=IG #[by decide,by decide];let h:qC (.int (v/3)) (.int m)=-(.int (v/3 % m)):=vY hm;show jg (ρ:=[-(.int x),-(.int s),-(.int m),P]) W (zu (zD (by ext:0) W (zu (zD (by ext:0) W (dU (by ext:0) W W)))))
def Qh{z:Str}{cs:G Nat}(d:z.cps.toList=cs.map (97+·))(a:z.length<=1000000){r:Int}{c:Nat}(b:0<=r)(h:cs[r.toNat]?=M c):L3.i7 (.str z) (.int r)=-(.str (dL c)):=by show(if z.length<=1000000 then(lh z.cps.toList r).map (λc=>RV.fz (.str #[#v[c]]))else P)=_;rw[ax a,d,vq (v:=97+c) b (by simp_all)];rfl
def re{z:Str}(cs:G Nat)(d:z.cps.toList=cs.map (97+·))(b:z.length<=1000000)(e:∀c∈cs,c<26){r:Int}(f:0<=r)(g:r<cs.length):∃c,c<26/\L3.i7 (.str z) (.int r)=-(.str (dL c)):=by
 let a:r.toNat<cs.length:=by ext
 show#[cs[r.toNat],e _ (afA a),Qh d b f (Xp a)]
def GV{n i k:Nat}(h:(Xq n)[i]?=M k):k=i/\i<n:=by let(b,a):=W6.mp h;rw[aeO]at a;rw[XY]at b;show#[a.symm,b]
def JB{n a:Int}{e:G (G Mn)}{b:G Mn}(h:VL n a e)(g:(b.length:Int)=n)(f:∀m∈b,VM e.length a m):VL n a (e++[b]):=by
 intro i l j;rcases L10.a9 j with o|⟨rfl,rfl⟩
 .show h i l o
 .show#[g,f]
def OM{a:Int}(b:1<=a):∃M:Int,xN [.int 1,.int (a - 1)]=-(.int M)/\1<=M/\(1<a->M=a - 1):=by show#[_,W,?_];split<;>ext
def Jo(c:Int)(L:Nat)(a:Int)(n:1<=a):∃m:Mn,VM L a m/\dI [.int c,nd L,.int a]=.ok (.fz (mD m)):=by
 let r:=cM c (s:=5) (m:=3) () () ();let g:=fF (x:=c) (s:=5) (m:=3) ();generalize sS c 5 3=C at r g;let(l,i,w):=re (z:= "abc") [0,1,2] (by left) (by left) () g.1 (show C<3 from g.2);let(M,v,M1,M2):=OM n;let p:=cM c (s:=7) (m:=M) () () ();let u:=fF (x:=c) (s:=7) (m:=M) ();generalize sS c 7 M=y at p u;let t:=cM c (s:=3) (m:=8) () () ();generalize sS c 3 8=A at t;let o:DF (nd L) (.int 0)=-(.bool (decide ((0:Int)<L))):=W;let f:∃B,fD 6 cT [.int c,nd L,.int a]=.ok B/\∃m:Mn,VM L a m/\B=.fz (mD m):=by
  show lO (T:=λB=>∃m:Mn,VM L a m/\B=.fz (mD m)) (ρ:=[zf (.int c),zf (nd L),zf (.int a),P,P,P]) W ?_;ext cT;show cz (ρ3:=[zf (.int c),zf (nd L),zf (.int a),zf (.str (dL l)),P,P]) (by ext:0) W W ?_;show cz (ρ3:=[zf (.int c),zf (nd L),zf (.int a),zf (.str (dL l)),zf (.int (1+y)),P]) (by ext:0) W W ?_;show cz (ρ3:=[zf (.int c),zf (nd L),zf (.int a),zf (.str (dL l)),zf (.int (1+y)),zf (.int A)]) (by ext:0) W W ?_;show oU (b:=(decide ((0:Int)<L)&&decide (5<A))) (ρ1:=[zf (.int c),zf (nd L),zf (.int a),zf (.str (dL l)),zf (.int (1+y)),zf (.int A)]) (by ext:0) (λq=>?_) (λ_=>fW ?_)
  .rw[W0]at q;let e:=a7 q.1;show ja (pv:=.fz (mD .below)) (ρ1:=[zf (.int c),zf (nd L),zf (.int a),zf (.str (dL l)),zf (.int (1+y)),zf (.int A)]) (show _=Res.ok (PV.fz (.tuple [.str "below"]),_) by ext:0) W #[.below,by show(L:Int)≠0;ext,W]
  show oU (b:=(decide (1<a)&&decide (A=3))) (ρ1:=[zf (.int c),zf (nd L),zf (.int a),zf (.str (dL l)),zf (.int (1+y)),zf (.int A)]) (by ext:0) (λq=>?_) (λ_=>fW ?_)
  .rw[W0]at q;let e:=M2 (a7 q.1);show ja (pv:=.fz (mD (.Zh (1+y)))) (ρ1:=[zf (.int c),zf (nd L),zf (.int a),zf (.str (dL l)),zf (.int (1+y)),zf (.int A)]) (show _=Res.ok (PV.fz (.tuple [.str "layer",.int (1+y)]),_) by ext:0) W #[.Zh (1+y),#[by ext,by ext],W]
  show oU (b:=(decide (1<a)&&decide (A=4))) (ρ1:=[zf (.int c),zf (nd L),zf (.int a),zf (.str (dL l)),zf (.int (1+y)),zf (.int A)]) (by ext:0) (λq=>?_) (λ_=>fW ?_)
  .rw[W0]at q;let e:=M2 (a7 q.1);show ja (pv:=.fz (mD (.tap l (1+y)))) (ρ1:=[zf (.int c),zf (nd L),zf (.int a),zf (.str (dL l)),zf (.int (1+y)),zf (.int A)]) (show _=Res.ok (PV.fz (.tuple [.str "tap",.str (dL l),.int (1+y)]),_) by ext:0) W #[.tap l (1+y),#[i,by ext,by ext],W]
  show oU (b:=(decide (1<a)&&decide (A=5))) (ρ1:=[zf (.int c),zf (nd L),zf (.int a),zf (.str (dL l)),zf (.int (1+y)),zf (.int A)]) (by ext:0) (λq=>?_) (λ_=>fW ?_)
  .rw[W0]at q;let e:=M2 (a7 q.1);show ja (pv:=.fz (mD (.once (1+y)))) (ρ1:=[zf (.int c),zf (nd L),zf (.int a),zf (.str (dL l)),zf (.int (1+y)),zf (.int A)]) (show _=Res.ok (PV.fz (.tuple [.str "once",.int (1+y)]),_) by ext:0) W #[.once (1+y),#[by ext,by ext],W]
  show dU (pv:=.fz (mD (.XG l))) (ρ1:=[zf (.int c),zf (nd L),zf (.int a),zf (.str (dL l)),zf (.int (1+y)),zf (.int A)]) (show _=Res.ok (PV.fz (.tuple [.str "letter",.str (dL l)]),_) by ext:0) W #[.XG l,i,W]
 let(B,h,m,j,rfl):=f;show#[m,j,h]
structure CsV(l0:G Mn)(cs:G (G Nat×Nat)):Prop where
 vc:∀c∈cs,VC l0 c
 un:cs.Pairwise λa c=>a.1≠c.1
theorem CsV.nil(l0:G Mn):CsV l0 []:=#[λc a=>(by ext a),aa1]
def CsV.add(h:CsV l0 cs)(j:2<=s.length)(f:s.Pairwise (·<·))(i:∀k∈s,pz l0 k=S)(g:l<26)(e:s∉cs.map (·.1)):CsV l0 (cs++[(s,l)]):=by
 show#[λc b=>(X3.mp b).elim (h.vc c) λz=>?_,ael.mpr #[h.un,Yu _ _,λa m c b=>?_]]
 .rw[Xo.mp z];show#[j,f,i,g]
 .rw[Xo.mp b];show λz=>e (Xv.mpr #[a,m,z])
def Qk(a:k<l0.length):∃d,bf (j7 l0) (nd k)=-(d)/\∃w,bf d (.int 0)=-(.str w)/\cK (.str w) (.str "letter")=-(.bool (pz l0 k)):=by
 let e5:pz l0 k=l0[k].isL:=by ext pz;rw[Xp a];rfl
 rw[e5];show#[mD l0[k],Rm (by rw[Xj,Xp a];rfl),_,oJ _,kF _]
def NX(h:1<=n)(g:n<=5)(j:rs.length<=3)(b:rs[0]?=M l0)(i:VL n rs.length rs)(a:CsV l0 cs)(l:cs.length<=4)(f:1<=w)(e:w<=4):VB #[n,rs,cs,w]:=by
 cases rs with
 |nil=>ext b
 |cons x r=>cases Xm b;show#[h,g,by simp_all,j,i,l,a.vc,a.un,f,e]
def OI(p:bg Int):∃b:Bd,(VB b/\b.n<=2/\b.ls.length<=2/\b.wt<=2)/\gW [.list (p.map .int),.int 2]=.ok (.fz (bD b)):=by
 let(g,e0):=ic p 0 ();let d1:=cM g (s:=1) (m:=2) () () ();let b1:=fF (x:=g) (s:=1) (m:=2) ();generalize sS g 1 2=r1 at d1 b1;let d2:=cM g (s:=2) (m:=2) () () ();let b2:=fF (x:=g) (s:=2) (m:=2) ();generalize sS g 2 2=r2 at d2 b2;let G:=cM g (s:=23) (m:=2) () () ();let b23:=fF (x:=g) (s:=23) (m:=2) ();generalize sS g 23 2=r23 at G b23;let I:=cM g (s:=17) (m:=3) () () ();generalize sS g 17 3=r17 at I;let H:=cM g (s:=19) (m:=3) () () ();let C:=fF (x:=g) (s:=19) (m:=3) ();generalize sS g 19 3=r19 at H C;let(E,Y,elc):=re (z:= "abd") [0,1,3] (by left) (by left) () C.1 (show r19<3 from C.2);obtain⟨n,hn⟩:∃n:Nat,1+r1=(n:Int):=#[(1+r1).toNat,by ext];obtain⟨nl,S⟩:∃n:Nat,1+r2=(n:Int):=#[(1+r2).toNat,by ext];let rgn:kR [.int (1+r1)]=cL (aZ (Xq n)):=by rw[hn];show pW ()
 let rgl:kR [.int (1+r2)]=cL (aZ (Xq nl)):=by rw[S];show pW ()
 let R:∃rv,fD 10 fG [.list (p.map .int),.int 2]=.ok rv/\∃b:Bd,(VB b/\b.n<=2/\b.ls.length<=2/\b.wt<=2)/\rv=.fz (bD b):=by
  show lO (T:=λrv=>∃b:Bd,(VB b/\b.n<=2/\b.ls.length<=2/\b.wt<=2)/\rv=.fz (bD b)) (ρ:=[zf (.list (p.map .int)),zf (.int 2),Ld,Ld,Ld,Ld,Ld,Ld,Ld,Ld]) W ?_;ext fG;show cz (ρ3:=[zf (.list (p.map .int)),zf (.int 2),zf (.int g),Ld,Ld,Ld,Ld,Ld,Ld,Ld]) (by ext:0) W W ?_;show cz (ρ3:=[zf (.list (p.map .int)),zf (.int 2),zf (.int g),zf (.int (1+r1)),Ld,Ld,Ld,Ld,Ld,Ld]) (by ext:0) W W ?_;show cz (ρ3:=[zf (.list (p.map .int)),zf (.int 2),zf (.int g),zf (.int (1+r1)),zf (.int (1+r2)),Ld,Ld,Ld,Ld,Ld]) (by ext:0) W W ?_;show cz (ρ3:=[zf (.list (p.map .int)),zf (.int 2),zf (.int g),zf (.int (1+r1)),zf (.int (1+r2)),zo [],Ld,Ld,Ld,Ld]) (by ext:0) W W ?_;show HQ (λi ρ=>∃(e:bg (bg Mn)) (A v:bt PV),e.length=i/\VL (1+r1) (1+r2) e/\ρ=[zf (.list (p.map .int)),zf (.int 2),zf (.int g),zf (.int (1+r1)),zf (.int (1+r2)),zo (e.map j7),A,v,Ld,Ld]) (ds:=aZ (Xq nl)) (ρ1:=[zf (.list (p.map .int)),zf (.int 2),zf (.int g),zf (.int (1+r1)),zf (.int (1+r2)),zo [],Ld,Ld,Ld,Ld]) (by ext:0) #[[],Ld,Ld,W,(λj r h=>by ext h),W] ?_ ?_
  .rintro i d ρ hi ⟨e,A,v,M,K,rfl⟩
   let(L,hL,rfl):=pU hi;let(rfl,hin):=GV hL;show#[[zf (.list (p.map .int)),zf (.int 2),zf (.int g),zf (.int (1+r1)),zf (.int (1+r2)),zo (e.map j7),zf (nd L),v,Ld,Ld],W,?_];let mu:iL (.int (1+r1)) (nd L)=-(.int ((1+r1)*L)):=V1 #[by ext,by ext];let(xs,c1,c2,c3):=j6 (gt:=gN 0) (ft:=cS) (fe:=b6 a8 2 {ad 1,aA bO (aA bO (~~~1) (aA iL (ad 2) (ad 3))) (ad 0)}) (ds:=aZ (Xq n)) (ρ:=[Ld,-(.list (p.map .int)),-(.int (1+r1)),-(nd L)]) (λρ=>∃o,ρ=[o,-(.list (p.map .int)),-(.int (1+r1)),-(nd L)]) (λ_ x=>∃a:Int,x=.int a/\True) #[Ld,W] (by rw[dr,XY];ext) (by rintro j d u ρ ⟨o,rfl⟩;let(k,hk,rfl):=pU u;let(c,ec):=ic p (1+(1+r1)*L+k) (by let:=Int.mul_nonneg (show 0<=1+r1 by ext) (show(0:Int)<=L by ext);ext);show#[.int c,_,wT (ρ1:=[-(nd k),-(.list (p.map .int)),-(.int (1+r1)),-(nd L)]) W W (cg (rv:=.fz (.int c)) (ds:=[.list (p.map .int),.int (1+(1+r1)*L+k)]) (ah (af W) (ah (aD (rv:=.fz (.int (1+(1+r1)*L+k))) (aD (rv:=.fz (.int (1+(1+r1)*L))) aw (aD (rv:=.fz (.int ((1+r1)*L))) (af W) (af W) W W mu) W W (eW _ _)) (af W) W W (eW _ _)) av)) W W ec) W W,#[_,W],c,W,trivial]);let(cs,rfl,_):=kh (f:=Xe.int) (Q:=λ_ (_:Int)=>True) xs 0 c3;rw[dr,XY,W5]at c2;show cz (pv:=.ow (cs.map .int)) (ρ3:=[zf (.list (p.map .int)),zf (.int 2),zf (.int g),zf (.int (1+r1)),zf (.int (1+r2)),zo (e.map j7),zf (nd L),zo (cs.map .int),Ld,Ld]) (cY (cs:=[.list (p.map .int),.int (1+r1),nd L]) (ds:=aZ (Xq n)) (by ext:0) W c1) W W ?_;let(ys,c4,c5,c6):=j6 (gt:=gN 0) (ft:=cS) (fe:=b6 dI 3 {ad 0,ad 1,ad 2}) (ds:=cs.map .int) (ρ:=[Ld,-(nd L),-(.int (1+r2))]) (λρ=>∃o,ρ=[o,-(nd L),-(.int (1+r2))]) (λ_ x=>∃a:Mn,x=mD a/\VM L (1+r2) a) #[Ld,W] (by rw[W5];ext) (by
    rintro j d u ρ ⟨o,rfl⟩;obtain⟨c,rfl⟩:∃c:Int,d=.int c:=by
     rw[Xj]at u;cases q:cs[j]? with
     |none=>rw[q]at u;ext u
     |some x=>rw[q]at u;show#[x,(Xm u).symm]
    let(m,N,em):=Jo c L (1+r2) ();show#[mD m,_,wT (ρ1:=[-(.int c),-(nd L),-(.int (1+r2))]) W W (cg (rv:=.fz (mD m)) (ds:=[.int c,nd L,.int (1+r2)]) (ah (af W) (ah (af W) (ah (af W) av))) W W em) W W,#[_,W],m,W,N])
   let(y,rfl,q6):=kh (f:=mD) (Q:=λ_ a=>VM L (1+r2) a) ys 0 c6;rw[W5,W5]at c5;let P:lu [.list (y.map mD)]=-(j7 y):=W;let X:(e.map j7).length<1000000:=by rw[W5];ext
   show zY (pv:=.fz .none) (ρ1:=[zf (.list (p.map .int)),zf (.int 2),zf (.int g),zf (.int (1+r1)),zf (.int (1+r2)),zo (e.map j7++[j7 y]),zf (nd L),zf (.list (cs.map .int)),Ld,Ld]) (Ff (pa:=.fz (j7 y)) (d:=j7 y) W (fY (rv:=.fz (j7 y)) (ds:=[.list (y.map mD)]) (ah (cY (cs:=[nd L,.int (1+r2)]) (ds:=cs.map .int) (gI (lw W) W W) W c4) av) W P) W W X W) #[e++[y],_,_,by rw[Xi,M];rfl,JB K () (λm hm=>?_),by rw[XQ];rfl];let(t,ht):=Yd.mp hm;rw[M];show q6 t m ht
  .rintro ρ ⟨e,A,v,M,K,rfl⟩
   rw[dr,XY]at M;obtain⟨l0,Z⟩:∃l0,e[0]?=cL l0:=#[_,Xp (show 0<e.length by ext)];let hl0:=(K 0 l0 Z).1;let i0:bf (.list (e.map j7)) (.int 0)=-(j7 l0):=LH () (by show(e.map j7)[0]?=_;rw[Xj,Z];rfl);let J:jD (cV (gN 0) (az (aA cK (aA bf (aA bf (aA bf (ad 1) (~~~0)) (ad 0)) (~~~0)) (pC (.str "letter")))) (ad 0) (aZ (Xq n)) [Ld,-(.list (e.map j7))] [])=.ok (((Xq n).filter (pz l0)).map nd):=wb nd nd (pz l0) (Xq n) (by rw[XY];ext) W (λj u=>by let(d,e1,w,e2,e3):=Qk (l0:=l0) (k:=j) (by let:=Zf.mp u;ext);show bh (aD (aD (aD (aD (rv:=.fz (j7 l0)) (af W) aw W W i0) (af W) W W e1) aw W W e2) aw W W e3) W) λj _ _=>af W;let sp:((Xq n).filter (pz l0)).Pairwise (·<·):=ah9 _ adC;let sm:∀j∈(Xq n).filter (pz l0),pz l0 j=W3:=λj u=>(YT.mp u).2;let sl:((Xq n).filter (pz l0)).length<=2:=by let:=Z5 (pz l0) (Xq n);rw[XY]at this;ext
   generalize (Xq n).filter (pz l0)=s at J sp sm sl;let O:lu [.list (s.map nd)]=-(.tuple (aZ s)):=W;show cz (ρ3:=[zf (.list (p.map .int)),zf (.int 2),zf (.int g),zf (.int (1+r1)),zf (.int (1+r2)),zf (.list (e.map j7)),A,v,zf (.tuple (aZ s)),Ld]) (fY (rv:=.fz (.tuple (aZ s))) (ds:=[.list (s.map nd)]) (ah (cY (cs:=[.list (e.map j7)]) (ds:=aZ (Xq n)) (by ext:0) W J) av) W O) W W ?_;show cz (ρ3:=[zf (.list (p.map .int)),zf (.int 2),zf (.int g),zf (.int (1+r1)),zf (.int (1+r2)),zf (.list (e.map j7)),A,v,zf (.tuple (aZ s)),zf (.tuple [])]) (bq (ds:=[]) av W (W8 W)) W W ?_;let F:∀cs:bg (bg Nat×Nat),CsV l0 cs->cs.length<=4->Go (dA (aU {ad 3,hG lu {ad 5},ad 9,aA bO (~~~1) (b6 aF 3 {ad 2,~~~23,~~~2})}) [zf (.list (p.map .int)),zf (.int 2),zf (.int g),zf (.int (1+r1)),zf (.int (1+r2)),zf (.list (e.map j7)),A,v,zf (.tuple (aZ s)),zf (.tuple (cs.map cw))]) (λ_=>∃b:Bd,(VB b/\b.n<=2/\b.ls.length<=2/\b.wt<=2)/\RV.fz .none=.fz (bD b)) (λ_=>False) (λrv=>∃b:Bd,(VB b/\b.n<=2/\b.ls.length<=2/\b.wt<=2)/\rv=.fz (bD b)):=λcs N v2=>by let P:lu [.list (e.map j7)]=-(.tuple (e.map j7)):=W;show dU (pv:=.fz (bD #[1+r1,e,cs,1+r23])) (rv:=.fz (bD #[1+r1,e,cs,1+r23])) (bq (ds:=[.int (1+r1),.tuple (e.map j7),.tuple (cs.map cw),.int (1+r23)]) (ah (af W) (ah (fY (rv:=.fz (.tuple (e.map j7))) (ds:=[.list (e.map j7)]) (ah (af W) av) W P) (ah (af W) (ah (aD (rv:=.fz (.int (1+r23))) aw (cg (rv:=.fz (.int r23)) (ds:=[.int g,.int 23,.int 2]) (ah (af W) (ah aw (ah aw av))) W W G) W W (eW _ _)) av)))) W (W8 W)) W #[#[1+r1,e,cs,1+r23],#[NX () () () Z (by rw[show((e.length:Nat):Int)=1+r2 by ext];show K) N v2 () (),by show 1+r1<=2;ext,by show e.length<=2;ext,by show 1+r23<=2;ext],W]
   let U:dY [.tuple (aZ s)]=-(nd s.length):=(jX _).trans (by rw[dr]);show oU (b:=decide ((1:Int)<s.length)&&decide (0<r17)) (AR (bh (aD (rv:=.fz (.bool (decide ((1:Int)<s.length)))) (fY (rv:=.fz (nd s.length)) (ah (af W) av) W U) aw W W (wP _ _)) W) λ_=>bh (aD (rv:=.fz (.bool (decide (0<r17)))) (cg (rv:=.fz (.int r17)) (ds:=[.int g,.int 17,.int 3]) (ah (af W) (ah aw (ah aw av))) W W I) aw W W (wP _ _)) W) (λq=>?_) (λ_=>fW (F [] (CsV.nil _) (X1 _)));rw[W0]at q;let q1:=a7 q.1;let s2:s.length=2:=by ext
   let cut:UK (.tuple (aZ s)) Ld (cL 2)=-(.tuple (aZ s)):=by show cL (RV.fz (.tuple (oG (aZ s) Ld (cL ((2:Nat):Int)))))=_;ext oG;rw[HT.sIx_nat,HT.sIx_none,dr,s2,Nat.min_self,acK,adP,aaV (by rw[dr,s2];show Xg _)]
   show cz (ρ3:=[zf (.list (p.map .int)),zf (.int 2),zf (.int g),zf (.int (1+r1)),zf (.int (1+r2)),zf (.list (e.map j7)),A,v,zf (.tuple (aZ s)),zf (.tuple ([(s,E)].map cw))]) (bq (ds:=[cw (s,E)]) (ah (bq (ds:=[.tuple (aZ s),.str (dL E)]) (ah (xQ (rv:=.fz (.tuple (aZ s))) (af W) rC (gS aw W) W cut) (ah (aD (rv:=.fz (.str (dL E))) aw (cg (rv:=.fz (.int r19)) (ds:=[.int g,.int 19,.int 3]) (ah (af W) (ah aw (ah aw av))) W W H) W W elc) av)) W (W8 W)) av) W (W8 W)) W W ?_;show F [(s,E)] (by let:=(CsV.nil l0).add (s:=s) (l:=E) () sp sm Y (λz=>by ext z);show this) (by show 1<=4;decide)
 let(rv,h,b,B,rfl):=R;show#[b,B,h]
def Th{a:G Nat}(h:k<a.length):pz (a.map .XG) k=S:=by ext pz;rw[Xj,Xp h];rfl
def Hj(r:bg Int):∃(b:Bd) (K:bg Nat) (x:Nat),VB b/\b.n=3/\b.ls.length<=2/\b.wt<=2/\(∀k:Nat,(k:Int)<b.n->pz (b.ls.headD []) k=W3)/\b.cs=[(K,x)]/\K.length=2/\dM [.list (r.map .int)]=.ok (.fz (bD b)):=by
 let(f,e0):=ic r 0 ();let v:=cM f (s:=29) (m:=3) () () ();let C:=fF (x:=f) (s:=29) (m:=3) ();generalize sS f 29 3=n at v C;let y:=cM f (s:=19) (m:=3) () () ();let p:=fF (x:=f) (s:=19) (m:=3) ();generalize sS f 19 3=r19 at y p;let w:=cM f (s:=23) (m:=2) () () ();let E:=fF (x:=f) (s:=23) (m:=2) ();generalize sS f 23 2=X at w E;let(x,I,M):=re (z:= "abd") [0,1,3] (by left) (by left) () p.1 (show r19<3 from p.2);let(xs,T,S,R):=j6 (gt:=gN 0) (ft:=cS) (fe:=aU {pC (.str "letter"),aA L3.i7 (pC (.str "abc")) (b6 aF 3 {b6 a8 2 {ad 1,aA bO (~~~1) (ad 0)},~~~5,~~~3})}) (ds:=aZ (Xq 3)) (λρ=>∃o,ρ=[o,-(.list (r.map .int))]) (λ_ x=>∃a:Nat,x=mD (.XG a)/\a<26) #[Ld,W] () (by rintro j d L ρ ⟨o,rfl⟩;let(k,u,rfl):=pU L;let(c,P):=ic r (1+k) ();let dd:=cM c (s:=5) (m:=3) () () ();let B:=fF (x:=c) (s:=5) (m:=3) ();generalize sS c 5 3=a at dd B;let(l,g,N):=re (z:= "abc") [0,1,2] (by left) (by left) () B.1 (show a<3 from B.2);show#[mD (.XG l),_,wT W W (bq (ah aw (ah (aD aw (cg (ah (cg (ah (af W) (ah (aD aw (af W) W W (eW _ _)) av)) W W P) (ah aw (ah aw av))) W W dd) W W N) av)) W (W8 W)) W W,#[_,W],l,W,g]);let(e,rfl,q):=kh (Q:=λ_ (a:Nat)=>a<26) xs 0 R;rw[W5,dr,XY]at S;obtain⟨K,U,H,k3,O⟩:∃K:bg Nat,K.length=2/\K.Pairwise (·<·)/\(∀k∈K,k<3)/\bf (.list [.tuple [.int 0,.int 1],.tuple [.int 0,.int 2],.tuple [.int 1,.int 2]]) (.int n)=-(.tuple (aZ K)):=by
  let:n=0\/n=1\/n=2:=by ext
  rcases this with rfl|rfl|rfl
  .show#[[0,1],W,by decide,by decide,LH () W]
  .show#[[0,2],W,by decide,by decide,LH () W]
  .show#[[1,2],W,by decide,by decide,LH () W]
 let ok:∀k,k<3->pz (e.map .XG) k=W3:=λk h=>Th ();let F:VL 3 1 [e.map .XG]:=λi l g=>by
  match i,g with
  |0,g=>ext g;show#[by rw[W5];ext,λm hm=>?_];let(a,ha,rfl):=Xv.mp hm;let(t,J):=Yd.mp ha;show q t a J
  |i+1,g=>ext g
 let cs:=(CsV.nil (e.map .XG)).add () H (λk u=>ok k (k3 k u)) I (λz=>by ext z);show#[#[3,[e.map .XG],[(K,x)],1+X],K,x,NX () () (show 1<=3 by decide) W F cs (by show 1<=4;decide) () (),W,by show 1<=2;decide,by show 1+X<=2;ext,λk u=>ok k (by let u:(k:Int)<3:=u;ext),W,U,?_];let G:lu [.list (e.map λa=>mD (.XG a))]=-(j7 (e.map .XG)):=by show cL (RV.fz (.tuple (e.map λa=>mD (.XG a))))=cL (RV.fz (.tuple ((e.map Mn.XG).map mD)));rw[XN];rfl
 let A:∃Y,fD 4 fu [.list (r.map .int)]=.ok Y/\Y=.fz (bD #[3,[e.map .XG],[(K,x)],1+X]):=by show lO W ?_;show cz (by ext:0) W W ?_;show cz (cY (cs:=[.list (r.map .int)]) (by ext:0) W T) W W ?_;show cz (aD (lW (ah (bq (ah aw (ah aw av)) W (W8 W)) (ah (bq (ah aw (ah aw av)) W (W8 W)) (ah (bq (ah aw (ah aw av)) W (W8 W)) av))) W (W8 W)) (cg (ah (af W) (ah aw (ah aw av))) W W v) W W O) W W ?_;show dU (bq (ah aw (ah (bq (ah (fY (ah (lw W) av) W G) av) W (W8 W)) (ah (bq (ah (bq (ah (af W) (ah (aD aw (cg (ah (af W) (ah aw (ah aw av))) W W y) W W M) av)) W (W8 W)) av) W (W8 W)) (ah (aD aw (cg (ah (af W) (ah aw (ah aw av))) W W w) W W (eW _ _)) av)))) W (W8 W)) W W
 let(Y,h,rfl):=A;show h
def Lb(e:bg Int):∃w:bg Nat,(∀c∈w,c<26)/\w.length<=2/\hV [.list (e.map .int)]=.ok (.fz (.str (dz w))):=by
 let(l,e9):=ic e 9 ();let E:=cM l (s:=131) (m:=3) () () ();let L:=fF (x:=l) (s:=131) (m:=3) ();generalize sS l 131 3=r at E L;obtain⟨n,Y⟩:∃n:Nat,r=(n:Int):=#[r.toNat,by ext];let M:kR [.int r]=cL (aZ (Xq n)):=by rw[Y];show pW ()
 let(xs,K,J,I):=j6 (gt:=gN 0) (ft:=cS) (fe:=b6 aF 3 {b6 a8 2 {ad 1,aA bO (~~~10) (ad 0)},~~~127,~~~7}) (ds:=aZ (Xq n)) (λT=>∃o,T=[o,-(.list (e.map .int))]) (λ_ x=>∃a:Int,x=.int a/\(0<=a/\a<7)) #[P,W] (by rw[dr,XY];ext) (by rintro j d b T ⟨o,rfl⟩;let(k,N,rfl):=pU b;let(c,i):=ic e (10+k) ();let dd:=cM c (s:=127) (m:=7) () () ();let v:=fF (x:=c) (s:=127) (m:=7) ();generalize sS c 127 7=a at dd v;show#[.int a,_,wT W W (cg (ah (cg (ah (af W) (ah (aD aw (af W) W W (eW _ _)) av)) W W i) (ah aw (ah aw av))) W W dd) W W,#[_,W],a,W,v]);let(u,rfl,q):=kh (Q:=λ_ (a:Int)=>0<=a/\a<7) xs 0 I;rw[dr,XY,W5]at J;let(y,H,G,F):=j6 (gt:=gN 0) (ft:=cS) (fe:=aA L3.i7 (pC (.str "aabbcdz")) (ad 0)) (ds:=u.map .int) (λT=>∃o,T=[o]) (λ_ x=>∃a:Nat,x=.str (dL a)/\a<26) #[P,W] (by rw[W5];ext) (by
  rintro j d b T ⟨o,rfl⟩;rw[Xj]at b;cases z:u[j]? with
  |none=>rw[z]at b;ext b
  |some a=>rw[z]at b;cases Xm b;let p:=q j a z;let(c,g,i):=re (z:= "aabbcdz") [0,0,1,1,2,3,25] (by left) (by left) () p.1 (show a<7 from p.2);show#[.str (dL c),_,wT W W (aD aw (af W) W W i) W W,#[_,W],c,W,g])
 let(w,rfl,A):=kh (Q:=λ_ (a:Nat)=>a<26) y 0 F;rw[W5,W5]at G;let B:=AW (w:=w) ();show#[w,λc g=>?_,by ext,?_]
 .let(t,C):=Yd.mp g;show A t c C
 let f:∃X,fD 3 gj [.list (e.map .int)]=.ok X/\X=.fz (.str (dz w)):=by show lO W ?_;show cz (by ext:0) W W ?_;show cz (cY (by ext:0) W K) W W ?_;show dU (MX aw W (ah (cY (gI (lw W) W W) W H) av) W B) W W
 let(X,h,rfl):=f;show h
def RP:G Y5->G TP
 |[]=>[]
 |s::r=>(s,0)::(s,1)::(s,2)::RP r
theorem Am:∀l:G Y5,(RP l).length=3*l.length
 |[]=>rfl
 |s::r=>by show(RP r).length+3=3*(r.length+1);rw[Am r];ext
theorem zL(hd:d<=2):∀{l:G Y5},s∈l->(s,d)∈RP l
 |[],h=>by ext h
 |a::r,h=>by
  rcases Xw.mp h with rfl|h
  .let:d=0\/d=1\/d=2:=by ext
   rcases this with rfl|rfl|rfl<;>simp[RP]
  .let:=zL hd h;simp only[RP,Xw];show .inr (.inr (.inr this))
def Qq(B:TC b w es)(r:w.length<=2)(j:∃(l:G Y5) (I:Y5->Prop),l.length<=128/\I uw/\(∀s,I s->SW b s/\s∈l)/\∀s e,I s->EV b e->I (bJ b s e).1){l:G TP}(f:l.Nodup)(g:∀p∈l,∃k,RT b w es k p):l.length<=384:=by
 let(m,I,t,q,o,n):=j;let:=gU f λp h=>by let(k,a):=g p h;let i:=(o _ (a.inv B q n)).2;let:=(B.rw a).2;show zL () i
 rw[Am]at this;ext
def GU(f:G Int):∃b:Bd,VB b/\b.n<=3/\(∃(l:G Y5) (I:Y5->Prop),l.length<=128/\I uw/\(∀s,I s->SW b s/\s∈l)/\∀s e,I s->EV b e->I (bJ b s e).1)/\dM [.list (f.map .int)]=.ok (.fz (bD b)):=by let(b,K,x,a,m,o,g,h,i,j,e):=Hj f;show#[b,a,by ext,Vy a () g h i j,e]
def Dp(f:G Int):∃b:Bd,VB b/\b.n<=3/\(∃(l:G Y5) (I:Y5->Prop),l.length<=128/\I uw/\(∀s,I s->SW b s/\s∈l)/\∀s e,I s->EV b e->I (bJ b s e).1)/\gW [.list (f.map .int),.int 2]=.ok (.fz (bD b)):=by let(b,(a,h,i,g),e):=OI f;let(m,I,o,j):=few a h i g;show#[b,a,by ext,#[m,I,by ext,j],e]
theorem yF(B:TC b w es)(e:TW b w p)(a:TW b w q):Xe.eqv (kT p) (kT q)=S↔p=q:=
 #[λh=>FV B e a (LD.kd_eqv _ _ (LD.keyD_kd (g9 e)).1 (LD.keyD_kd (g9 a)).1 h),λh=>by rw[h];show uz (g9 a)]
abbrev kv(l:G (TP×D)):G (D×D):=l.map λx=>(kT x.1,x.2)
section
variable{b:Bd}{w:bg Nat}{es:bg Evn}{p:TP}{l:bg (TP×D)}{d:D}
theorem Gi(B:TC b w es)(f:TW b w p):∀{l:G (TP×D)},(∀x∈l,TW b w x.1)->(∀x∈l,x.1≠p)->(kv l).find? (λy=>Xe.eqv y.1 (kT p))=P
 |[],_,_=>rfl
 |x::r,g,h=>by let e:=abV.mpr λz=>h x Xb ((yF B (g x Xb) f).mp z);show ajf _ ((kT x.1,x.2)::kv r)=_;rw[XZ];rw[e];show Gi B f (λy a=>g y (Xf _ a)) λy a=>h y (Xf _ a)
def Ki(B:TC b w es)(a:TW b w p)(e:∀x∈l,TW b w x.1)(h:∀x∈l,x.1≠p):dJ (kv l) (kT p)=P:=by ext dJ;rw[Gi B a e h];rfl
theorem pR(B:TC b w es):∀{l:G (TP×D)},(∀x∈l,TW b w x.1)->(l.map (·.1)).Nodup->∀x∈l,dJ (kv l) (kT x.1)=M x.2
 |y::r,e,g,x,f=>by
  let g:=Yy.mp g;show ahp _ (ajf _ ((kT y.1,y.2)::kv r))=_;rw[XZ];rcases Xw.mp f with rfl|h
  .rw[(yF B (e x f) (e x f)).mpr W];rfl
  .rw[show Xe.eqv (kT y.1) (kT x.1)=R from abV.mpr λz=>g.1 (by show y.1∈_;rw[(yF B (e y Xb) (e x f)).mp z];show ZN h)];show pR B (λy a=>e y (Xf _ a)) g.2 x h
def DL(B:TC b w es)(a:TW b w p)(e:∀x∈l,TW b w x.1)(h:∀x∈l,x.1≠p):gC (kv l) (kT p) d=kv (l++[(p,d)]):=by ext gC;rw[Gi B a e h];show kv l++[(kT p,d)]=_;ext kv;rw[XQ];rfl
def OB(hd:∀x∈l,x.2=d)(h:(kv l).find? (λy=>Xe.eqv y.1 (kT p))≠P):gC (kv l) (kT p) d=kv l:=by ext gC;rw[ax (Option.isSome_iff_ne_none.mpr h),XN];show ZM λx a=>?_;show(if _ then(kT x.1,d)else(kT x.1,x.2))=_;rw[hd x a];split<;>rfl
end
section
variable{Q:aP}{C Y:aK}{i:Nat}{L:bg D}{X:Xc->Prop}
def Lq(I:Nat->aP->aK->Prop)(hd:fd Q C=.ok (.rf i) Y)(e:Y[i]?=M (.lst (L.map .fz)))(g:I 0 Q (Y.set i .dead))(a:∀k d Q C,L[k]?=M d->I k Q C->∃l Y,gt (.fz d) Q C=.ok l Y/\lX (b l Y) (I (k+1)) (λ_ _=>False) X)(f:∀m c,I L.length m c->N m (c.set i (.lst (L.map .fz)))):lX (LD.forLS fd gt b Q C) N T X:=by
 let h:=pM I L 0 Q (Y.set i .dead) g (by simpa using a);rw[ZJ]at h;ext LD.forLS;rw[hd,d5,show LD.lstI Y (.rf i)=M (i,L.map .fz) by ext LD.lstI;dsimp only;rw[e]];show lX ((RS.X8 Y (aB vR (L.map .fz))).bind _) _ _ _;rw[kE];show lX ((gp gt b L Q (Y.set i .dead)).bind _) _ _ _;show Out.bind (h.imp λj o k=>?_);cases j with
 |nx r=>show#[f r o k]
 |ct r=>show k.elim
 |rt v=>show k.elim
 |bk r=>show k.elim
end
def l4(fs:G Te):G (TP×D):=fs.map λq=>(q.p,nd q.d)
theorem OD(q:Te):N6 (tS q) P (M 2)=-(kT q.p):=W
abbrev EP(i:Nat)(w:G Nat)(r:aP):aP:=M (.rf i)::-(.str (dz w))::r
def HX{l:aK}(h:l[i]?=M c):(l.set i .dead).set i c=l:=by
 rw[List.set_set];show List.ext_getElem? λj=>?_;rw[Ym];split
 .rename_i e;subst e;rw[h,ax (W6.mp h).1]
 .rfl
theorem uL(B:TC b w es)(g:BT b w es fs n)(f:∀q∈l,q∈fs):∀x∈l4 l,TW b w x.1:=λx a=>by let(q,e,rfl):=Xv.mp a;show B.rw (g.rw q (f q e))
def E1(h:(fs.map (·.p)).Nodup):((l4 fs).map (·.1)).Nodup:=by ext l4;rw[XN];show h
def tH(B:TC b w es)(m:BT b w es fs n)(O:fs.length<=1000)(c:ω[i]?=cL (.lst ((fs.map tS).map .fz))):dh [.rf i,.fz (.str (dz w))] ω=.ok (.rf ω.length) (ω++[.dd (kv (l4 fs))]):=by
 let H:=(W6.mp c).1;let A:Out (dh [.rf i,.fz (.str (dz w))] ω) (λv o=>v=.rf ω.length/\o=ω++[.dd (kv (l4 fs))]) (λ_=>False):=by
  show sr W ?_;show cy W W ?_;show cy (ag aw) W ?_;let C:(ω++[Cell.dd []])[i]?=cL (.lst ((fs.map tS).map .fz)):=(Xh H).trans c;show jW (Lq (λk Q f=>∃(a:Nat) (y:bt SV),(∀q,fs[k]?=cL q->a<=q.d)/\Q=EP i w [cL (.rf ω.length),-(nd a),y]/\f=(ω++[Cell.dd (kv (l4 (fs.take k)))]).set i .dead) (aN W) C #[0,P,λ_ _=>X1 _,W,W] ?_ ?_)
  .rintro k d Q f l ⟨a,y,T,rfl,rfl⟩
   rw[Xj]at l;cases z:fs[k]? with
   |none=>rw[z]at l;ext l
   |some q=>
    rw[z]at l;cases Xm l;let N:=T q z;show#[EP i w [cL (.rf ω.length),-(nd a),-(tS q)],_,W,?_];let sub:∀r∈fs.take k,r∈fs:=λr g=>abj g;let u:=B.rw (m.rw q (XI z));let new:∀x∈l4 (fs.take k),x.1≠q.p:=λx M e=>by
     let(r,g,rfl):=Xv.mp M;let(j,t):=Yd.mp g;let L:j<k:=by let:=(W6.mp t).1;rw[Ye]at this;ext
     rw[aaG L]at t;let:j=k:=(abU (show j<(fs.map (·.p)).length by rw[W5];show(W6.mp t).1) m.un).mp (by rw[Xj,Xj,t,z];show dw cL e);ext
    let I:((ω++[Cell.dd (kv (l4 (fs.take k)))]).set i .dead)[ω.length]?=cL (.dd (kv (l4 (fs.take k)))):=by rw[XH ()];show Y0
    let G:gA (.fz (kT q.p))=cL (kT q.p):=ax (g9 u);let ct:∀{o:bt SV} {F:bt SV} {ω:aK} {j:Nat},ae (DH N6 (ad 4) o0 (gY (~~~2))) (EP i w [cL (.rf j),F,-(tS q)]) ω=.ok (.fz (kT q.p)) ω:=λ{o F ω j}=>ag (xQ (af W) rC (gS aw W) W (OD q));let E:=aH (BQ (neg:=R) (fd:=aq 2) (ρ:=EP i w [cL (.rf ω.length),-(nd a),-(tS q)]) (ct (o:=P)) (aN W) G I);rw[Ki B u (uL B m sub) new]at E;let K:QV (nd q.d) (nd a)=-(.bool R):=(nX _ _).trans (by rw[a6 ()]);show rD (et (aX (BU (bh (DY (dx:=tS q) (af W) W W) W))) (et (aX (bh (aD (fY (ah (af W) av) W W) aw W W W) W)) (et E (aX (bh (aD (aD (af W) aw W W nO) (af W) W W K) W))))) (ml ?_);show cy (ag (aD (af W) aw W W nO)) W ?_;show yM (rS (ag (aD (af W) aw W W nO)) (aN W) (ct (o:=P)) G I (by ext l4;rw[W5,W5,Ye];ext)) #[q.d,_,λr g=>?_,W,?_]
    .show acT.mp m.mo k (k+1) (W6.mp z).1 (W6.mp g).1 (ZI _)|>λh=>by rw[(W6.mp z).2,(W6.mp g).2]at h;show h
    .rw[DL B u (uL B m sub) new,List.set_comm _ _ (show i≠ω.length by ext),show l4 (fs.take k)++[(q.p,nd q.d)]=l4 (fs.take (k+1)) by rw[ZY,z];ext l4;rw[XQ];rfl];congr 1;rw[aa9 _ _ (Xg _),ab2];rfl
  .rintro J f ⟨a,y,_,rfl,rfl⟩;rw[W5,Z9,HX ((Xh H).trans c)];show rV (aN W) #[W,W]
 let(v,o,h,rfl,rfl):=A.all;show h
section
variable{ρ:aP}{Q X Y T:aK}{x z:SV}{i:Nat}{d:D}{Z:bg (D×D)}
def Dq(hd:fd ρ Q=.ok (.rf i) X)(h:X[i]?=M (.dd ahc))(b:o ρ X=.ok x Y)(a:C ρ Y=.ok z T)(g:gA x=M k)(f:T[i]?=M (.dd Z))(e:dJ Z k=M d):mv fd o C ρ Q=.ok (.fz d) T:=by ext mv;rw[hd,d5,mI h];show((o ρ X).bind _)=_;rw[b,d5,a,d5,g];show((RS.X8 T (iG T (.rf i))).bind _)=_;rw[mI f];show RS.ok (match dJ Z k with|some d=>SV.fz d|none=>z) T=_;rw[e]
def xg(hd:fd ρ Q=.ok (.rf i) X)(h:X[i]?=M (.dd Z)):nQ fd ρ Q=.ok (.fz (nd Z.length)) X:=by ext nQ;rw[hd,d5,mI h];rfl
def C4(hd:fd ρ Q=.ok (.rf i) X)(h:X[i]?=M (.dd Z)):gB (kj fd) ρ Q=.ok (Z.map (·.1)) (X++[.dead]):=by
 let:kj fd ρ Q=.ok (.rf X.length) (X++[.lst ((Z.map (·.1)).map .fz)]):=by ext kj;rw[hd,d5,mI h,XN];rfl
 rw[v7 this Y0,aa9 _ _ (Xg _),ab2];rfl
end
def Fr(R:G TP):G (TP×D):=R.map λp=>(p,.bool S)
abbrev EC(b:Bd)(w:G Nat)(i r:Nat)(t:aP):aP:=-(bD b)::-(.str (dz w))::M (.rf i)::M (.rf r)::t
structure RR(b:Bd)(w:G Nat)(fs:G Te)(R:G TP)(U:Te->Evn->Prop):Prop where
 nd:R.Nodup
 z:IJ∈R
 s:∀p∈R,p∈fs.map (·.p)
 u:∀q e,U q e->∀r∈fs,BH b w q.p e=M r.p->r.d=q.d+1->r.p∈R
theorem RR.mono(h:RR b w fs m n)(d:R'.Nodup)(j:∀p∈R',p∈m\/p∈fs.map (·.p))(c:∀p∈m,p∈R')(i:∀q e,U' q e->n q e\/∀r∈fs,BH b w q.p e=M r.p->r.d=q.d+1->r.p∈R'):RR b w fs R' U':=
 #[d,c _ h.z,λp l=>(j p l).elim (h.s p) id,λq e z r g f a=>(i q e z).elim (λz=>c _ (h.u q e z r g f a)) λk=>k r g f a]
def oE{b:Bd}{n:Nat}(V:b.n=n)(h5:n<=5)(B:TC b w (kJ n))(M:BT b w (kJ n) fs fs.length)(hl:fs.length<=1000)(D:ω[i]?=cL (.dd (kv (l4 fs)))):∃s,ez [.fz (bD b),.fz (.str (dz w)),.rf i] ω=.ok (.fz (.bool W3)) s/\K6 ω s:=by
 let il:=(W6.mp D).1;let te:=Qn V h5;let Y:=λq P=>B.rw (M.rw q P);let pw:=uL B M λ_ h=>h;let pr:∀r∈fs,dJ (kv (l4 fs)) (kT r.p)=cL (nd r.d):=λr hr=>pR B pw (E1 M.un) (r.p,nd r.d) (ZN hr);let key:Out (ez [.fz (bD b),.fz (.str (dz w)),.rf i] ω) (λv o=>v=.fz (.bool W3)/\K6 ω o) (λ_=>False):=by
  show sr W ?_;show cy W W ?_;let g0:∀j,j<ω.length->(ω++[Cell.dd (kv (Fr [IJ]))])[j]?=ω[j]? :=λj y=>Xh y;let ks:=C4 (fd:=aq 2) (ρ:=EC b w i ω.length [Ld,Ld,Ld,Ld,Ld,Ld,Ld]) (aN W) ((g0 i il).trans D);rw[show(kv (l4 fs)).map (·.1)=fs.map λq=>kT q.p by ext l4;rw[XN,XN];rfl]at ks;show jW (yL (λk ρ s=>∃(R:bg TP) (o4 o5 Z L F E C:bt SV),RR b w fs R (λq e=>e∈kJ n/\∃j,j<k/\fs[j]?=cL q)/\K6 ω s/\s[ω.length]?=cL (.dd (kv (Fr R)))/\ρ=EC b w i ω.length [o4,o5,Z,L,F,E,C]) ks ?_ ?_ ?_)
  .show#[[IJ],Ld,Ld,Ld,Ld,Ld,Ld,Ld,#[Yu _ _,adk _,λp f=>?_,λq e #[_,j,y,_]=>bb y (acF _)],λj y=>?_,?_,W]
   .rw[Xo.mp f];show Xv.mpr #[Tj,XI M.z,W]
   .rw[X2,Xh y]
   .rw[X2];show xa (t:=0)
  .rintro k d ρ s G ⟨R,o4,o5,Z,L,F,E,C,g,go,N,rfl⟩
   rw[Xj]at G;cases z:fs[k]? with
   |none=>rw[z]at G;ext G
   |some q=>
    rw[z]at G;cases Xm G;let qm:=XI z;let S:=Y q qm;show#[EC b w i ω.length [-(fP q.p.1),-(nd q.p.2),Z,L,F,E,C],s,W,?_];show cy (ra (aN W) (ag (bq (ah (af W) (ah (af W) av)) W (W8 W))) (ax (g9 S)) ((go i il).trans D) (pr q qm)) W ?_;show yL (λm ρ s=>∃(R:bg TP) (L F E C:bt SV),RR b w fs R (λA e=>(e∈kJ n/\∃j,j<k/\fs[j]?=cL A)\/(A=q/\e∈(kJ n).take m))/\K6 ω s/\s[ω.length]?=cL (.dd (kv (Fr R)))/\ρ=EC b w i ω.length [-(fP q.p.1),-(nd q.p.2),-(nd q.d),L,F,E,C]) (rE (gI (cg (ah (af W) av) W W te) W W)) #[R,L,F,E,C,g.mono g.nd (λp f=>.inl f) (λp f=>f) (λA e h=>h.elim .inl λh=>by rw[agk]at h;cases h.2),go,N,W] ?_ ?_
    .rintro m d ρ s G ⟨R,L,F,E,C,g,go,N,rfl⟩
     rw[Xj]at G;cases ze:(kJ n)[m]? with
     |none=>rw[ze]at G;ext G
     |some e=>
      rw[ze]at G;cases Xm G;let em:=XI ze;let ev:=B.eb e em;let tk:(kJ n).take (m+1)=(kJ n).take m++[e]:=by rw[ZY,ze];rfl
      show#[EC b w i ω.length [-(fP q.p.1),-(nd q.p.2),-(nd q.d),-(eS e),F,E,C],s,W,?_];let st:=z8 B.vb S.1 ev (ρ:=EC b w i ω.length [-(fP q.p.1),-(nd q.p.2),-(nd q.d),-(eS e),F,E,C]) (ω:=s) (fa:=ae (ad 0)) (fb:=ae (ad 4)) (fc:=ae (ad 7)) (ag (af W)) (ag (af W)) (ag (af W));let k1:=BG B.vb S.1 ev;let k2:=xH B.vb S.1 ev;let dk:=E6 B.w26 B.wl (d:=q.p.2) (by let:=S.2;let:=B.wl;ext) k1 ();let l:BH b w q.p e=(we w q.p.2 (bJ b q.p.1 e).2).map λd=>((bJ b q.p.1 e).1,d):=W;show cy st W ?_;generalize bJ b q.p.1 e=u at k1 dk l;let rl:=(W6.mp N).1;let J:∀j,j<ω.length->(s++[Cell.dead])[j]?=ω[j]? :=λj y=>(Xh ()).trans (go j y);let I:(s++[Cell.dead])[ω.length]?=cL (.dd (kv (Fr R))):=(Xh rl).trans N;generalize s++[Cell.dead]=s at J I;show cy (ag (cg (ah (af W) (ah (af W) (ah (af W) av))) W W dk)) W ?_;let un:∀{K:bg TP},(∀r∈fs,BH b w q.p e=cL r.p->r.d=q.d+1->r.p∈K)->∀A e',(e'∈kJ n/\∃j,j<k/\fs[j]?=cL A)\/(A=q/\e'∈(kJ n).take (m+1))->((e'∈kJ n/\∃j,j<k/\fs[j]?=cL A)\/(A=q/\e'∈(kJ n).take m))\/∀r∈fs,BH b w A.p e'=cL r.p->r.d=A.d+1->r.p∈K:=λ{K} h A e' h'=>by
       rcases h' with h'|⟨rfl,h'⟩
       .show .inl (.inl h')
       .rw[tk]at h'
        rcases X3.mp h' with h'|h'
        .show .inl (.inr #[W,h'])
        .rw[Xo.mp h'];show .inr h
      cases qd:we w q.p.2 u.2 with
      |none=>rw[qd]at l;show .eq (eC (aX (bh (aD (af W) aw W W W) W)) eD) #[R,_,_,_,_,g.mono g.nd (λp f=>.inl f) (λp f=>f) (un λr _ h=>by rw[l]at h;ext h),J,I,W]
      |some c=>
       rw[qd]at l;let(r,O,rp,rd):=M.dn k q (W6.mp z).1 z e em (u.1,c) l;let T:=l.trans (dw cL rp.symm);show .eq (c7 (aX (bh (aD (af W) aw W W W) W)) W) ?_;let kt:∀{s:aK},ae (aU {ad 9,ad 10}) (EC b w i ω.length [-(fP q.p.1),-(nd q.p.2),-(nd q.d),-(eS e),-(.list (u.2.map nu)),-(fP u.1),-(Oo (cL c))]) s=.ok (.fz (kT r.p)) s:=λ{s}=>by rw[rp];show ag (bq (ah (af W) (ah (af W) av)) W (W8 W))
       let ky:gA (.fz (kT r.p))=cL (kT r.p):=ax (g9 (Y r O));let gi:=(J i il).trans D;let p1:∀{a:Nat} {s:aK},ae (aA bO (ad 6) (pC (.int a))) (EC b w i ω.length [-(fP q.p.1),-(nd q.p.2),-(nd q.d),-(eS e),-(.list (u.2.map nu)),-(fP u.1),-(Oo (cL c))]) s=.ok (.fz (nd (q.d+a))) s:=λ{a s}=>ag (aD (af W) aw W W (eW (q.d:Int) a));let gt:=(wP (r.d:Int) ((q.d+1:Nat):Int)).trans (by rw[a6 ()]);show rD (aH (b8 (Dq (aN W) gi kt (p1) ky gi (pr r O)) (p1) (bw gt))) (ml ?_);let eqd:cK (nd r.d) (nd (q.d+1))=-(.bool (decide (r.d=q.d+1))):=zB _ _;let c2:=aH (b8 (ra (fd:=aq 2) (aN W) kt ky gi (pr r O)) (p1) (bw eqd));by_cases rq:r.d=q.d+1
       .rw[a5 rq]at c2
        let pt:=rS (fd:=aq 3) (fv:=ae (pC (.bool W3))) (ag aw) (aN W) kt ky I (by ext Fr;rw[W5,W5];let:=gU g.nd g.s;rw[W5]at this;ext);let tr:∀x∈Fr R,TW b w x.1:=λx U=>by let(p,f,rfl):=Xv.mp U;let(q,P,rfl):=Xv.mp (g.s p f);show Y q P
        let rl':=(W6.mp I).1;obtain⟨K,e1,e2,e3,e4,e5⟩:∃K:bg TP,gC (kv (Fr R)) (kT r.p) (.bool W3)=kv (Fr K)/\K.Nodup/\(∀p∈K,p∈R\/p∈fs.map (·.p))/\(∀p∈R,p∈K)/\r.p∈K:=by
         by_cases mr:r.p∈R
         .show#[R,OB (λx U=>?_) λh=>?_,g.nd,λp f=>.inl f,λp f=>f,mr]
          .let(p,_,rfl):=Xv.mp U;rfl
          .let:=pR B tr (by ext Fr;rw[XN];show(ah3 R).symm▸g.nd) (r.p,.bool W3) (ZN mr);unfold dJ at this;rw[h]at this;ext this
         .show#[R++[r.p],(DL B (Y r O) tr λx U e=>?_).trans (by ext Fr;rw[XQ];rfl),Zy.mpr #[g.nd,Yu _ _,λa ha c hc e=>?_],λp f=>?_,λp f=>Yg _ f,XM _ (adk _)]
          .let(p,f,rfl):=Xv.mp U;show mr (e▸f)
          .rw[Xo.mp hc]at e;show mr (e▸ha)
          .rcases X3.mp f with h|h
           .show .inl h
           .rw[Xo.mp h];show .inr (ZN O)
        rw[e1]at pt;show .eq (c7 c2 pt) #[K,_,_,_,_,g.mono e2 e3 e4 (un λr' Q H _=>by rw[T]at H;rw[<-Xm H];show e5),λj y=>by rw[XH ()];show J j y,Yh rl',W]
       .rw[a6 rq]at c2;show .eq (eC c2 eD) #[R,_,_,_,_,g.mono g.nd (λp f=>.inl f) (λp f=>f) (un λr' Q H X=>by rw[T]at H;let:=M.uniq O Q (Xm H);subst this;show bb X rq),J,I,W]
    .rintro ρ' s ⟨R,L,F,E,C,g,go,N,rfl⟩
     show#[R,_,_,_,_,_,_,_,g.mono g.nd (λp f=>.inl f) (λp f=>f) (λA e #[Q,j,H,X]=>.inl ?_),go,N,W];rcases Nat.lt_or_ge j k with h|h
     .show .inl #[Q,j,h,X]
     .let:j=k:=by ext
      subst this;rw[z]at X;ext X;show .inr #[W,by rw[W5,Z9];show Q]
  .rintro ρ' s ⟨R,o4,o5,Z,L,F,E,C,g,go,N,rfl⟩
   let l1:=gU g.nd g.s;let l2:=gU M.un λp f=>by
    let(q,P,rfl):=Xv.mp f;let(j,y):=Yd.mp P;by_cases j0:j=0
    .subst j0;rw[M.z]at y;ext y;show g.z
    .let(m,r,Q,H,_,h4,e,_,h6,h7):=M.bk j q y ();show g.u r e #[h6,m,by rw[W5];show(W6.mp H).1,H] q P h7 h4
   rw[W5]at l1 l2;show rV (b8 (xg (aN W) N) (xg (aN W) ((go i il).trans D)) (bw ((zB _ _).trans ?_))) #[W,go];unfold Fr l4;rw[W5,W5,W5,W5,a5 ()]
 let(v,o,h,rfl,H):=key.all;show#[o,h,H]
def ER:jU aL 3 [.fz (bD b),.fz (.str (dz w)),.fz (.int m)] o=(match aL [.fz (bD b),.fz (.str (dz w)),.fz (.int m)] []with|.ok x a=>jh x a o|.er x _=>.er x o|.bad=>.bad):=by ext jU;rw[ax (show[SV.fz (bD b),.fz (.str (dz w)),.fz (.int m)].length=3 from rfl)];rfl
def Kc(j:VB b){n:Nat}(k:b.n=n)(q:n<=5)(p:∀c∈w,c<26)(g:w.length<=3)(f:BT b w (kJ n) fs fs.length)(y:fs.length<=1000)(d:aK):∃c,cb [.fz (bD b),.fz (.str (dz w)),.fz (nd fs.length)] d=.ok (.fz (nd fs.length)) (d++[c]):=by let(v,o,h,gs,i,r,_,rfl,B,_):=(mw (i8 j k q p g (m:=(fs.length:Int)) () () []) (λa o h=>h) (λx #[_,l,u,t,A]=>by let:=f.len u t;ext)).all;let e:jU aL 3 [.fz (bD b),.fz (.str (dz w)),.fz (nd fs.length)] d=.ok (.rf d.length) (d++[.lst ((gs.map tS).map .fz)]):=ER.trans (by rw[h];show jh (.rf i) o d=_;ext jh;dsimp only;rw[g8 B];rfl);show#[.lst ((gs.map tS).map .fz),?_];ext cb;rw[e];dsimp only;rw[Y0];dsimp only;rw[W5,W5,<-f.one r]
def Gk(f:VB b){n:Nat}(k:b.n=n)(l:n<=5)(j:∀c∈w,c<26)(e:w.length<=3)(q:BT b w (kJ n) fs fs.length)(u:fs.length<=1000){m:Int}(g:0<=m)(r:m<fs.length)(d:aK):cb [.fz (bD b),.fz (.str (dz w)),.fz (.int m)] d=.ok (.fz (.tuple [.str "many",.int m])) d:=by let(x,o,h,rfl):=(mw (i8 f k l j e g () []) (λa o #[gs,i,p,t,_]=>by let:=q.one p;ext) (λx h=>h.1)).er;ext cb;rw[ER,h];ext TM;dsimp only;rw[ax W,ax W]
theorem FU(a:aK):∀ds:G D,aB (sT 5 a) (ds.map .fz)=M ds
 |[]=>rfl
 |d::r=>by unfold agj aB;rw[show sT 5 a (.fz d)=M d from rfl,FU a r]
abbrev EM(a:G Int)(b:Bd)(r:aP):aP:=-(.list (a.map .int))::-(bD b)::r
def main(g:bg Int)(d:g.length<=63):L10.Ss F_law [.list (g.map .int)]=.ok (.fz (.bool W3)):=by
 let(w,K,w2,e1):=Lb g;let J:w.length<=3:=by ext
 let U:Out (F_law [.fz (.list (g.map .int))] []) (λx _=>x=.fz (.bool W3)) (λ_=>False):=by
  show sr W ?_;let(b0,t,Q,few,e0):=Dp g;let(c0,ec):=ic g 0 ();let dd:=cM c0 (s:=31) (m:=6) () () ();show cy (ag (cg (ah (af W) (ah aw av)) W W e0)) W ?_;let S:bp (az (aA cK (b6 aF 3 {b6 a8 2 {ad 0,~~~0},~~~31,~~~6}) (~~~1))) [-(.list (g.map .int)),-(bD b0),Ld,Ld,Ld,Ld] []=.ok (decide (sS c0 31 6=1)) []:=aX (bh (aD (cg (ah (cg (ah (af W) (ah aw av)) W W ec) (ah aw (ah aw av))) W W dd) aw W W (jr _ _)) W);let bd:∃b:Bd,VB b/\b.n<=3/\(∃(l:bg Y5) (I:Y5->Prop),l.length<=128/\I uw/\(∀s,I s->SW b s/\s∈l)/\∀s e,I s->EV b e->I (bJ b s e).1)/\bT (bp (az (aA cK (b6 aF 3 {b6 a8 2 {ad 0,~~~0},~~~31,~~~6}) (~~~1)))) (ce (ae (b6 dM 1 {ad 0})) (dZ 1)) bP [-(.list (g.map .int)),-(bD b0),Ld,Ld,Ld,Ld] []=.ok (.nx (EM g b [Ld,Ld,Ld,Ld])) []:=by
   by_cases h:sS c0 31 6=1
   .let(b,t,Q,few,e3):=GU g;rw[a5 h]at S;show#[b,t,Q,few,c7 S (uJ (ag (cg (ah (af W) av) W W e3)) W)]
   .rw[a6 h]at S;show#[b0,t,Q,few,eC S eD]
  let(b,t,Q,few,hb):=bd;show zV hb ?_;obtain⟨n,p⟩:∃n:Nat,b.n=n:=#[b.n.toNat,by let:=t.n1;ext];let M:n<=5:=by ext
  let B:TC b w (kJ n):=#[t,DM p,K,J];let fw:∀x,¬Uy b w (kJ n) 400 x:=λx #[_,l,N,h2,h3]=>by let:=Qq B w2 few N h2;ext
  show cy (ag (cg (ah (af W) av) W W e1)) W ?_;let(v,f,N,fs,i,u,fl,rfl,hi,_):=(mw (i8 t p M K J () () []) (λa o h=>h) fw).all;show cy (tX (aj (ag (af W)) (aj (ag (af W)) aG)) W N) W ?_;let l1:=(W6.mp u.z).1;let il:=(W6.mp hi).1;let fn:fs.length<=1000:=by ext
  let ln:∀{gs:bg Te},dY [.list (gs.map tS)]=-(nd gs.length):=λ{gs}=>(iP _).trans (by rw[W5]);let R:∀{gs:bg Te} {i:Nat} {ω:aK} {o4 o5:bt SV},ω[i]?=cL (.lst ((gs.map tS).map .fz))->y1 dY (ai (aq 3) aI) (EM g b [-(.str (dz w)),cL (.rf i),o4,o5]) ω=.ok (.fz (nd gs.length)) ω:=λ{gs i ω o4 o5} h=>Ag (aj (aN W) aG) (by ext aB;rw[g8 h];rfl) ln;let rd:sT 6 f (.rf i)=cL (.list (fs.map tS)):=by show(match f[i]? with|some (.lst xs)=>(aB (sT 5 f) xs).map Xe.list|_=>Ld)=_;rw[hi];show(aB (sT 5 f) ((fs.map tS).map .fz)).map Xe.list=_;rw[FU];rfl
  let z0:cK (nd fs.length) (.int 0)=-(.bool W7):=(jr _ _).trans (by rw[a6 ()]);show rD (et (mn (aH (OC (aN W) rd W))) (et (aH (b8 (R hi) (ag aw) (bw z0))) (aH (b8 (yn (aN W) (ag aw) W hi (Vs (by rw[Xj,Xj,u.z];rfl))) (ag (bq (ah (bq (ah (bq av W (W8 W)) (ah aw (ah aw av))) W (W8 W)) (ah aw (ah aw av))) W (W8 W))) (bw (STP.JO W)))))) (ml ?_);show cy (mL (aj (aN W) (aj (ag (af W)) aG)) W (tH B u fn hi)) W ?_;let gd:(f++[Cell.dd (kv (l4 fs))])[f.length]?=cL (.dd (kv (l4 fs))):=Y0;let X:Gv (aq 4) (EM g b [-(.str (dz w)),cL (.rf i),cL (.rf f.length),Ld]) (f++[.dd (kv (l4 fs))])=.ok (.fz (.bool W7)) (f++[.dd (kv (l4 fs))]):=W;let(H,h2,kp):=oE p M B u fn gd;let gl:(f++[Cell.dd (kv (l4 fs))]).length=f.length+1:=by rw[Xi];rfl
  show rD (et (aH X) (mn (aH (mL (aj (ag (af W)) (aj (ag (af W)) (aj (aN W) aG))) W h2)))) (ml ?_);let L:=(kp i ()).trans ((Xh il).trans hi);let gd2:=(kp f.length ()).trans gd;show zV (gF (rN (aN W) L (ag aw) L (by rw[W5,W5];ext))) ?_;let C:(H.set i (.lst ((fs.map tS).map .fz++[.fz .none])))[f.length]?=cL (.dd (kv (l4 fs))):=(XH ()).trans gd2;generalize H.set i (.lst ((fs.map tS).map .fz++[.fz .none]))=ω3 at C;let(v,G,h4,gs,i4,E,gm,rfl,A,k4):=(mw (i8 t p M K J () () ω3) (λa o h=>h) fw).all;show cy (tX (aj (ag (af W)) (aj (ag (af W)) aG)) W h4) W ?_;let d3:=(W6.mp C).1;let O:=(k4 f.length d3).trans C;let d4:=(W6.mp O).1;let Z:=(W6.mp A).1;let gn:gs.length<=1000:=by ext
  let g0:=(W6.mp E.z).1;let lk:yu (kv (l4 gs)) (kv (l4 fs))=W3:=by
   show abh.mpr #[a5 ?_,Yl.mpr λx hx=>?_]
   .ext l4;rw[W5,W5,W5,W5];show E.one u
   .let(y,hy,rfl):=Xv.mp hx;let(q,hq,rfl):=Xv.mp hy;let(r,r1,r2,_):=u.all (Xg _) q.d q.p (E.rw q hq);let e:=E.aiN u hq r1 r2.symm;let:=pR B (uL B u λ_ h=>h) (E1 u.un) (r.p,nd r.d) (ZN r1);rw[<-r2,this,e];show a5 W
  show rD (aH (Jl (mL (aj (aN W) (aj (ag (af W)) aG)) W (tH B E gn A)) (aN W) (mI Y0) (mI ((Xh d4).trans O)) lk)) (ml ?_);let j:(G++[Cell.dd (kv (l4 gs))])[i4]?=cL (.lst ((gs.map tS).map .fz)):=(Xh Z).trans A;generalize G++[Cell.dd (kv (l4 gs))]=ω5 at j;let(c3,ec3):=ic g 13 ();let P:=cM c3 (s:=137) (m:=gs.length) () () ();let F:=fF (x:=c3) (s:=137) (m:=gs.length) ();generalize sS c3 137 gs.length=m at P F;show cy (uW (aj (ag (cg (ah (af W) (ah aw av)) W W ec3)) (aj (ag aw) (aj (R j) aG))) W P) W ?_;let(c,mk):=Kc t p M K J E gn ω5;let T:kq (.tuple [.str "many",.int m])=W3:=Ny (by show(Xe.canLay0 (.str "many")&&(W3&&W3))=W3;rw[show Xe.canLay0 (.str "many")=W3 by left];rfl) (by show max 0 (max 0 0)+1<=64;decide);let Y:=(W6.mp j).1;show rV (sU (aH (b8 (mL (aj (ag (af W)) (aj (ag (af W)) (aj (R j) aG))) W mk) (R ((Xh Y).trans j)) (bw (STP.Bt W)))) (b8 (mL (aj (ag (af W)) (aj (ag (af W)) (aj (ag (af W)) aG))) W (Gk t p M K J E gn F.1 F.2 _)) (ag (bq (ah aw (ah (af W) av)) W (W8 W))) (bw (STP.Bt T)))) W
 let(x,ω',N,rfl):=U.all;ext L10.Ss;rw[show[Xe.list (g.map .int)].map SV.fz=[.fz (.list (g.map .int))]from rfl,N]
end K71
namespace K71
open PySem L2 L3 L10 STP CC
set_option synthInstance.maxHeartbeats 400000
set_option synthInstance.maxSize 4000
def top(i:Nat):YQ:=PySem.Challenge.pw_chordbed_k71_typing_rooms.main.body.getD i (.Pass ⟨0,0,0,0⟩)
def bL:G Fd:=[VZ 1 "TooMany" "most",
 kY 1 "layer_of" ["standing"] 1 dG,
 kY 1 "looked_up" ["bed","layer","key"] 3 iy,
 kY 1 "chords_over" ["bed","keys"] 2 bz,
 kY 1 "chord_acts" ["bed","keys"] 2 eX,
 kY 1 "_law_cell" ["_law_script","_law_k"] 2 a8,
 kY 1 "_law_draw" ["_law_cell_here","_law_salt","_law_many_here"] 3 aF,
 kY 2 "_law_meaning" ["_law_cell_here","_law_layer","_law_layers"] 3 dI,
 kY 3 "_law_bed" ["_law_script","_law_most"] 2 gW,
 kY 2 "_law_three" ["_law_script"] 1 dM,
 kY 2 "_law_text" ["_law_script"] 1 hV,
 kY 1 "_law_events" ["_law_bed_here"] 1 fL,
 kY 1 "_law_done" ["_law_text_here","_law_done_here","_law_sent"] 3 iu,
 kY 1 "events_of" ["bed"] 1 gh,
 kY 1 "done_behind" ["text","done","sent"] 3 fS,
 V9 3 "Hand" ["self","bed","standing"] 3 de,
 yi R 3 "Hand" "stands" ["self"] 1 bB,
 yi R 3 "Hand" "is_waiting" ["self","key"] 2 bX,
 yi R 3 "Hand" "has_act" ["self","act"] 2 bG,
 yi R 4 "Hand" "come" ["self","key","act"] 3 bu,
 yi R 4 "Hand" "go" ["self","key"] 2 iQ,
 yi R 5 "Hand" "decide" ["self"] 1 cG,
 yi R 4 "Hand" "makes_chord" ["self","key"] 2 cX,
 yi R 6 "Hand" "put_to_chord" ["self","key"] 2 cP,
 yi R 5 "Hand" "begin" ["self","key"] 2 fy,
 yi R 7 "Hand" "press" ["self","key"] 2 gK,
 yi R 6 "Hand" "settle" ["self","key"] 2 fT,
 yi R 7 "Hand" "lift" ["self","key"] 2 iq,
 yi R 6 "Hand" "wait_on" ["self"] 1 fA,
 DE 8 "step" ["bed","standing","event"] 3 STP.lj,
 yi S 3 "Places" "enter" ["self","place","back","event"] 4 bS,
 Us 4 "Places" ["self","first","most"] 3 cB,
 IL [] 9 "places_on" ["bed","text","most"] 3 gb,
 IL [(.int 400)] 10 "typing_rooms" ["bed","text","most"] 3 aL,
 IL [] 10 "typing_rooms" ["bed","text","most"] 3 aL,
 DE 3 "_law_prices" ["_law_found","_law_text_here"] 2 dh,
 DE 9 "_law_closed" ["_law_bed_here","_law_text_here","_law_prices_here"] 3 ez,
 DE 12 "_law_many" ["_law_bed_here","_law_text_here","_law_most"] 3 cb]
def jy:Md:=⟨["max","all","list","sorted","len","range","tuple","dict","zip","isinstance"],[],[("NONE",(.tuple [(.str "none")])),("CHORD",(.tuple [(.str "chord")])),("AT_REST",(.tuple [(.tuple []),.none,.none]))],[("Hand",["bed","acts","waiting","once","sent"]),("Places",["most","found","numbers"])]⟩
noncomputable instance:FX bL "TooMany" "most":=⟨0,1,W⟩
noncomputable instance:Fn bL kY dG 1:=⟨1,1,"layer_of",["standing"],W⟩
noncomputable instance:Fn bL kY iy 3:=⟨2,1,"looked_up",["bed","layer","key"],W⟩
noncomputable instance:Fn bL kY bz 2:=⟨3,1,"chords_over",["bed","keys"],W⟩
noncomputable instance:Fn bL kY eX 2:=⟨4,1,"chord_acts",["bed","keys"],W⟩
noncomputable instance:Fn bL kY a8 2:=⟨5,1,"_law_cell",["_law_script","_law_k"],W⟩
noncomputable instance:Fn bL kY aF 3:=⟨6,1,"_law_draw",["_law_cell_here","_law_salt","_law_many_here"],W⟩
noncomputable instance:Fn bL kY dI 3:=⟨7,2,"_law_meaning",["_law_cell_here","_law_layer","_law_layers"],W⟩
noncomputable instance:Fn bL kY gW 2:=⟨8,3,"_law_bed",["_law_script","_law_most"],W⟩
noncomputable instance:Fn bL kY dM 1:=⟨9,2,"_law_three",["_law_script"],W⟩
noncomputable instance:Fn bL kY hV 1:=⟨10,2,"_law_text",["_law_script"],W⟩
noncomputable instance:Fn bL kY fL 1:=⟨11,1,"_law_events",["_law_bed_here"],W⟩
noncomputable instance:Fn bL kY iu 3:=⟨12,1,"_law_done",["_law_text_here","_law_done_here","_law_sent"],W⟩
noncomputable instance:Fn bL kY gh 1:=⟨13,1,"events_of",["bed"],W⟩
noncomputable instance:Fn bL kY fS 3:=⟨14,1,"done_behind",["text","done","sent"],W⟩
noncomputable instance:FK bL "Hand" de 3:=⟨15,3,["self","bed","standing"],W⟩
noncomputable instance:FM bL R "Hand" "stands" bB 1:=⟨16,3,["self"],W⟩
noncomputable instance:FM bL R "Hand" "is_waiting" bX 2:=⟨17,3,["self","key"],W⟩
noncomputable instance:FM bL R "Hand" "has_act" bG 2:=⟨18,3,["self","act"],W⟩
noncomputable instance:FM bL R "Hand" "come" bu 3:=⟨19,4,["self","key","act"],W⟩
noncomputable instance:FM bL R "Hand" "go" iQ 2:=⟨20,4,["self","key"],W⟩
noncomputable instance:FM bL R "Hand" "decide" cG 1:=⟨21,5,["self"],W⟩
noncomputable instance:FM bL R "Hand" "makes_chord" cX 2:=⟨22,4,["self","key"],W⟩
noncomputable instance:FM bL R "Hand" "put_to_chord" cP 2:=⟨23,6,["self","key"],W⟩
noncomputable instance:FM bL R "Hand" "begin" fy 2:=⟨24,5,["self","key"],W⟩
noncomputable instance:FM bL R "Hand" "press" gK 2:=⟨25,7,["self","key"],W⟩
noncomputable instance:FM bL R "Hand" "settle" fT 2:=⟨26,6,["self","key"],W⟩
noncomputable instance:FM bL R "Hand" "lift" iq 2:=⟨27,7,["self","key"],W⟩
noncomputable instance:FM bL R "Hand" "wait_on" fA 1:=⟨28,6,["self"],W⟩
noncomputable instance:Fn bL DE STP.lj 3:=⟨29,8,"step",["bed","standing","event"],W⟩
noncomputable instance:FM bL S "Places" "enter" bS 4:=⟨30,3,["self","place","back","event"],W⟩
noncomputable instance:FKE bL "Places" cB 3:=⟨31,4,["self","first","most"],W⟩
noncomputable instance:Fn bL (IL []) gb 3:=⟨32,9,"places_on",["bed","text","most"],W⟩
noncomputable instance:Fn bL (IL [(.int 400)]) aL 3:=⟨33,10,"typing_rooms",["bed","text","most"],W⟩
noncomputable instance:Fn bL (IL []) aL 3:=⟨34,10,"typing_rooms",["bed","text","most"],W⟩
noncomputable instance:Fn bL DE dh 2:=⟨35,3,"_law_prices",["_law_found","_law_text_here"],W⟩
noncomputable instance:Fn bL DE ez 3:=⟨36,9,"_law_closed",["_law_bed_here","_law_text_here","_law_prices_here"],W⟩
noncomputable instance:Fn bL DE cb 3:=⟨37,12,"_law_many",["_law_bed_here","_law_text_here","_law_most"],W⟩
noncomputable instance k1:CS bL (so gX):=by delta gX;infer_instance
def e1:cw bL (so gX) jy ["standing"] ["standing"] (top 5) 0 1 R=S:=by left
noncomputable instance k2:CS bL (so fZ):=by delta fZ;infer_instance
def e2:cw bL (so fZ) jy ["bed","layer","key","meaning"] ["bed","layer","key"] (top 8) 0 2 R=S:=by left
noncomputable instance k3:CS bL (so eA):=by delta eA;infer_instance
def e3:cw bL (so eA) jy ["bed","keys"] ["bed","keys"] (top 9) 0 3 R=S:=by left
noncomputable instance k4:CS bL (so eU):=by delta eU;infer_instance
def e4:cw bL (so eU) jy ["bed","keys","chord"] ["bed","keys"] (top 10) 0 4 R=S:=by left
noncomputable instance k5:CS bL (so ip):=by delta ip;infer_instance
def e5:cw bL (so ip) jy ["_law_script","_law_k"] ["_law_script","_law_k"] (top 22) 0 5 R=S:=by left
noncomputable instance k6:CS bL (so iw):=by delta iw;infer_instance
def e6:cw bL (so iw) jy ["_law_cell_here","_law_salt","_law_many_here","_law_number"] ["_law_cell_here","_law_salt","_law_many_here"] (top 23) 0 6 R=S:=by left
noncomputable instance k7:CS bL (so cT):=by delta cT;infer_instance
def e7:cw bL (so cT) jy ["_law_cell_here","_law_layer","_law_layers","_law_letter","_law_other","_law_kind"] ["_law_cell_here","_law_layer","_law_layers"] (top 24) 1 7 R=S:=by left
noncomputable instance k8:CS bL (so fG):=by delta fG;infer_instance
def e8:cw bL (so fG) jy ["_law_script","_law_most","_law_cell_here","_law_keys","_law_layers","_law_rows","_law_layer","_law_cells","_law_some","_law_chords"] ["_law_script","_law_most"] (top 25) 2 8 R=S:=by left
noncomputable instance k9:CS bL (so fu):=by delta fu;infer_instance
def e9:cw bL (so fu) jy ["_law_script","_law_cell_here","_law_letters","_law_chord"] ["_law_script"] (top 32) 1 9 R=S:=by left
noncomputable instance k10:CS bL (so gj):=by delta gj;infer_instance
def Wm:cw bL (so gj) jy ["_law_script","_law_cell_here","_law_letters"] ["_law_script"] (top 26) 1 10 R=S:=by left
noncomputable instance k11:CS bL (so d6):=by delta d6;infer_instance
def Wj:cw bL (so d6) jy ["_law_bed_here","_law_keys"] ["_law_bed_here"] (top 27) 0 11 R=S:=by left
noncomputable instance k12:CS bL (so fX):=by delta fX;infer_instance
def Wz:cw bL (so fX) jy ["_law_text_here","_law_done_here","_law_sent","_law_letter","_law_word"] ["_law_text_here","_law_done_here","_law_sent"] (top 28) 0 12 R=S:=by left
noncomputable instance k13:CS bL (so gq):=by delta gq;infer_instance
def Wx:cw bL (so gq) jy ["bed","downs","ups"] ["bed"] (top 15) 0 13 R=S:=by left
noncomputable instance k14:CS bL (so d8):=by delta d8;infer_instance
def WJ:cw bL (so d8) jy ["text","done","sent","downs","behind"] ["text","done","sent"] (top 20) 0 14 R=S:=by left
noncomputable instance k15:CS bL (cU eG):=by delta eG;infer_instance
def Wf:cw bL (cU eG) jy ["self","bed","standing"] ["self","bed","standing"] (aO (top 7) 0) 2 15 R=S:=by left
noncomputable instance k16:CS bL (cU fJ):=by delta fJ;infer_instance
def Wt:cw bL (cU fJ) jy ["self"] ["self"] (aO (top 7) 1) 2 16 R=S:=by left
noncomputable instance k17:CS bL (cU dj):=by delta dj;infer_instance
def WH:cw bL (cU dj) jy ["self","key"] ["self","key"] (aO (top 7) 2) 2 17 R=S:=by left
noncomputable instance k18:CS bL (cU eY):=by delta eY;infer_instance
def WK:cw bL (cU eY) jy ["self","act"] ["self","act"] (aO (top 7) 13) 2 18 R=S:=by left
noncomputable instance k19:CS bL (cU ib):=by delta ib;infer_instance
def WT:cw bL (cU ib) jy ["self","key","act"] ["self","key","act"] (aO (top 7) 11) 3 19 R=S:=by left
noncomputable instance k20:CS bL (cU ku):=by delta ku;infer_instance
def Wi:cw bL (cU ku) jy ["self","key","act"] ["self","key"] (aO (top 7) 12) 3 20 R=S:=by left
noncomputable instance k21:CS bL (cU fV):=by delta fV;infer_instance
def WB:cw bL (cU fV) jy ["self","keys","what","acts","key","act"] ["self"] (aO (top 7) 10) 4 21 R=S:=by left
noncomputable instance k22:CS bL (cU cW):=by delta cW;infer_instance
def Wh:cw bL (cU cW) jy ["self","key"] ["self","key"] (aO (top 7) 4) 3 22 R=S:=by left
noncomputable instance k23:CS bL (cU cN):=by delta cN;infer_instance
def Ws:cw bL (cU cN) jy ["self","key","keys"] ["self","key"] (aO (top 7) 5) 5 23 R=S:=by left
noncomputable instance k24:CS bL (cU gH):=by delta gH;infer_instance
def WF:cw bL (cU gH) jy ["self","key","layer","meaning","word"] ["self","key"] (aO (top 7) 6) 4 24 R=S:=by left
noncomputable instance k25:CS bL (cU gG):=by delta gG;infer_instance
def WN:cw bL (cU gG) jy ["self","key"] ["self","key"] (aO (top 7) 3) 6 25 R=S:=by left
noncomputable instance k26:CS bL (cU fO):=by delta fO;infer_instance
def WG:cw bL (cU fO) jy ["self","key","what"] ["self","key"] (aO (top 7) 8) 5 26 R=S:=by left
noncomputable instance k27:CS bL (cU ig):=by delta ig;infer_instance
def Wr:cw bL (cU ig) jy ["self","key"] ["self","key"] (aO (top 7) 7) 6 27 R=S:=by left
noncomputable instance k28:CS bL (cU eV):=by delta eV;infer_instance
def WX:cw bL (cU eV) jy ["self","age"] ["self"] (aO (top 7) 9) 5 28 R=S:=by left
noncomputable instance k29:CS bL (cU STP.uH):=by delta STP.uH;infer_instance
def Wk:cw bL (cU STP.uH) jy ["bed","standing","event","hand"] ["bed","standing","event"] (top 6) 7 29 R=S:=by left
noncomputable instance k30:CS bL (cU bQ):=by delta bQ;infer_instance
def WY:cw bL (cU bQ) jy ["self","place","back","event"] ["self","place","back","event"] (aO (top 16) 1) 2 30 S=S:=by left
noncomputable instance k31:CS bL (cU bF):=by delta bF;infer_instance
def WW:cw bL (cU bF) jy ["self","first","most"] ["self","first","most"] (aO (top 16) 0) 3 31 S=S:=by left
noncomputable instance k32:CS bL (cU ir):=by delta ir;infer_instance
def Wp:cw bL (cU ir) jy ["bed","text","most","events","places","number","place","event","answer","done"] ["bed","text","most"] (top 19) 8 32 S=S:=by left
noncomputable instance k33:CS bL (cU fq):=by delta fq;infer_instance
def VR:cw bL (cU fq) jy ["bed","text","most","prices","found","place","back","event","price"] ["bed","text","most"] (top 18) 9 33 S=S:=by left
noncomputable instance k35:CS bL (cU fR):=by delta fR;infer_instance
def Pa:cw bL (cU fR) jy ["_law_found","_law_text_here","_law_prices_here","_law_ahead","_law_room"] ["_law_found","_law_text_here"] (top 30) 2 35 R=S:=by left
noncomputable instance k36:CS bL (cU fK):=by delta fK;infer_instance
def Tb:cw bL (cU fK) jy ["_law_bed_here","_law_text_here","_law_prices_here","_law_reached","_law_standing","_law_done_here","_law_price","_law_event","_law_sent","_law_there","_law_more"] ["_law_bed_here","_law_text_here","_law_prices_here"] (top 31) 8 36 R=S:=by left
noncomputable instance k38:CS bL (cU Bu):=by delta Bu;infer_instance
def WU:cw bL (cU Bu) jy ["_law_script","_law_bed_here","_law_text_here","_law_found","_law_prices_here","_law_fewer"] ["_law_script"] (top 33) 12 38 R=S:=by left
end K71
namespace L2
open PySem PySem.Spec PyProof.Rows
section
variable{Z:St}{H:Hp}{Q:VK}{D:Ends}
theorem KF{K:CL}{c b:TE}{f:Str}(h:b Z H λy H1=>c Z H1 λx e=>∃a C d fs,x=.ref a/\e a=M (.ins C d fs)/\Cls K C/\aax K C f/\fs.length<1000/\D.nx Z (aR e a (.ins C d (iE f y fs)))):PY K c b f D Z H:=h
theorem Q8{c:TT}{t u:TE}(h:c Z H λb H1=>if b=S then t Z H1 Q else u Z H1 Q):TB c t u Z H Q:=h
theorem Pg{K:CL}{b:TE}{f:Str}(h:b Z H λx H1=>∃a C c fs v,x=.ref a/\H1 a=M (.ins C c fs)/\Cls K C/\aax K C f/\fs.lookup f=M v/\Q v H1):Rb K b f Z H Q:=h
theorem L6{C:J}{m:Str}{sp:Sp}{E:XK}{b:TE}{t:TA}(h:b Z H λx H1=>∃a d fs,x=.ref a/\H1 a=M (.ins C d fs)/\fs.lookup m=P/\t Z H1 λc e=>sp (x::(c++[])) e Q E):ue C m sp [] E b t Z H Q:=h
theorem Lx{C:J}{sp:Sp}{E:XK}{t:TA}(h:t Z H λb H1=>∀x a,H1 x=P->H1 a=P->a≠x->sp (.ref x::(b++[])) (aR (aR H1 a (.own x)) x (.ins C a [])) (λv c=>v=.Zo/\Q (.ref x) c) E):xS C sp [] E t Z H Q:=h
end
end L2
local macro_rules| `(tactic|ext:5)=> `(tactic|repeat (first
 |specialize L2.QW ?_
 |specialize L2.akx ?_
 |specialize L2.KF ?_
 |specialize L2.Q8 ?_
 |specialize L2.Pg ?_
 |specialize L2.L6 ?_
 |specialize L2.Lx ?_
 |specialize L2.ajU ?_
 |((with_reducible show L2.nY _ _ _ _);refine⟨_,rfl,?_⟩)
 |specialize L2.Vg ?_
 |specialize L2.amw ?_
 |specialize L2.ank ?_
 |specialize L2.amP ?_
 |specialize L2.arE ?_
 |((specialize L2.aop ?_ ?_);first|exact⟨by decide,by decide⟩|exact⟨by decide,by decide,by decide⟩|exact(show(0:Int)<_ by decide)|exact⟨by decide,by left⟩)
 |((specialize L2.am4 ?_ ?_);exact rfl)
 |((specialize L2.an3 ?_ ?_);exact rfl)
 |specialize L2.Qp ?_
 |specialize L2.Jw ?_
 |specialize L2.alz ?_
 |specialize L2.aj1 ?_
 |specialize L2.aiE ?_
 |specialize L2.ajL ?_
 |specialize L2.ajD ?_
 |specialize L2.apw ?_
 |specialize L2.amN ?_
 |specialize L2.alw ?_
 |specialize L2.amK ?_
 |specialize L2.alT ?_
 |specialize L2.ajN ?_
 |specialize L2.akF ?_
 |specialize L2.ajH ?_
 |specialize L2.Om ?_
 |specialize L2.Lk ?_
 |specialize L2.Uo ?_
 |specialize L2.Ko ?_
 |specialize L2.PP ?_
 |specialize L2.alS ?_
 |specialize L2.anx ?_
 |specialize L2.an2 ?_
 |specialize L2.ahL ?_
 |specialize L2.ajl ?_
 |specialize L2.ak3 ?_
 |specialize L2.aiD ?_
 |specialize L2.aiq ?_
 |specialize L2.ajy ?_
 |specialize L2.ajm ?_
 |specialize L2.ak4 ?_
 |specialize L2.aj3 ?_
 |specialize L2.ajM ?_
 |specialize L2.aiz ?_
 |specialize L2.akb ?_
 |specialize L2.ai1 ?_
 |specialize L2.ajK ?_
 |specialize L2.ajo ?_))
namespace K71
open PySem L2
section
open L3 L4
variable{P:Xx}{w:XU}{K:CL}{mg:Str->bt W2}{base:Heap}{f:Xa}{Y:Yj}
theorem kP:Zm ["self","most"] ["self","most"] (au (aO (top 13) 0)):=⟨W,W,W,by left,W,by left,by left⟩
def Cs{C B fI:J}(F:Fun K "__init__" "TooMany.__init__" (aO (top 13) 0) f Y)(o:L9.XC K C B fI)(l:mg "BedError"=M (.ref B))(g:ab0 K B (.type "type")=S)(m:ab1 K (.ref B) (.type "type") "__init__"=M (.val (.builtin "ValueError.__init__")))
  (b:ZR K (.ref B) "__getattribute__"=M (M (.builtin "type.__getattribute__"))) (j:XW K (.ref C) "most"=M Ld):FnOk P w K mg base kQ 1 f Y ["self","most"] (L9.uj C "most"):=by
 show F.ok kP (λL H Q E h=>?_) (λu A a s H L Q E t h=>?_)
 .let(_,_,rfl,_):=h;rfl
 let(e,v,rfl,r,n,q):=h;show⟨_,(wo (Bf (L9.HF W l g m b o (cj (pv 0) (cj (L9.LZ (L9.PK () (L9.Ra (pv 1) L9.OU)) ()) gy)))) (mX (L9.MN o j (pv 0) (pv 1) W))),?_⟩;ext:5;show⟨V.ref e,W,v,W,r,λy=>⟨e,y,W,n,?_⟩⟩;show⟨v,W,V.ref e,W,e,W,n,λp j i=>q p j i⟩
end
end K71
namespace L4
open PySem PySem.Spec PySem.W PyProof.Rows L2 L3
def Hq{X:Cx}{y:L2.St}{A:XK}{K:CL}{P:Xx}{w:XU}{V:Str->bt W2}{base:Heap}{k j:Nat}{x:Str}{D:bg Str}{sp:Sp}{e:XA}{es:bg XA}{t:TA}{p a:Pos}(n:X.ex=[])(C:xl P w K V base (L4.lS P w) k x D [] sp)(hP:X.prog=P)(hw:X.w=w)(hK:X.K=K)(hm:X.mg=V)(L:X.base=base)(hr:Y4 j X.A)(ha:PA (X.abf (uR X y A)) (e::es) t)(E:k<=j:=by decide)(hg:Gl X x:=by rfl)
  (J:(x==("__debug__":Str))=W7:=by decide) (he:Xu (e::es) X.env=(W7,eval e X.env)::Xu es X.env:=by rfl) (B:(backTo a (Xu es X.env)).any (·.1)=W7:=by rfl):
  PE (X.abf (uR X y A)) (.Call (.Name x p) (e::es) [] a) (λd H Q=>d=y/\jz sp [] A t d H Q):=by
 subst hP hw hK hm L;let(f,fd,dsv,R,b,G,kp,m):=C;ext G;rintro i s _ H Q I ⟨rfl,h⟩;show Zu (jp I hg m ?_ J);show aag (h₀:=X.base) I.ok.mod.kin kp (bV (ha a i s _ H _ I h) λg N ⟨vs,H1,v,r,q⟩=>⟨v.kIn,?_⟩) he B;let O:Vals (vs++[]) (g++[]):=r.append .nil;let hl:(g++[]).length=D.length:=by rw[<-O.length];show R.len _ _ _ _ q
 show aaL (aay (R.run X.A X.stack N H1 ⟨g,[]⟩ (g++[]) (vs++[]) _ A (hr.mono E) v.afT (b N g v.kIn hl) O q) λr s' l=>?_);cases r with
 |error ex=>let(e,c,dx,a0,T,H',rfl,Y,Z,F,ne,U,S,o,un,Yq,q):=l;let M:=v.aaj;let I':=M.afh (ch:=[]) S un Yq o (λb z=>nomatch z);show⟨H',e,c,dx,a0,T,W,I'.acZ (λp z=>nomatch z),F,qu M n Y,qu M n Z,ne,U,q⟩
 |ok fl=>
  cases fl with
  |ret u=>show v.after l
  |next=>show False.elim l
  |brk=>show False.elim l
  |cont=>show False.elim l
theorem Jg{X:Cx}{st:G YQ}{b:L2.St}{t c:TS}(h:PSs X st c)(k:∀D H,t D b H->c D b H):SJ X st b t:=λa s H D I q=>h a s b H D I (k D H q)
end L4
namespace K71
open PySem L2
section
variable{P:Xx}{w:XU}{K:CL}{mg:Str->bt W2}{base:Heap}{f:Xa}{fd:Yj}
theorem nt:Zm ["_law_bed_here","_law_text_here","_law_most","e"] ["_law_bed_here","_law_text_here","_law_most"] (au (top 29)):=⟨W,W,W,by left,W,by left,by left⟩
def vL{C:Xa}{m:bg W2}(F:Fun K "_law_many" "_law_many" (top 29) f fd)(X:L3.xl P w K mg base (L4.lS P w) 10 "typing_rooms" ["bed","text","most"] [] (L10.kB K 3 aL))
  (U:mg "TooMany"=cL (.ref C)) (L:L4.aec K C m) (bR:m.contains (.type "BaseException")=W3) (V:XJ K Xy "TooMany"=cL (cL (.ref C))) (hh:Zq K C=W3) (J:XW K (.ref C) "most"=cL Ld) (T:mg "len"=Ld):
  FnOk P w K mg base kQ 12 f fd ["_law_bed_here","_law_text_here","_law_most"] (L10.kB K 3 cb):=by
 show F.ok nt (λvs H Q E h=>h.1) (λY3 A O s H vs Q E hr h=>?_);let hu:=hr.units;let(hl,B,α,ω,xs,so,hv,g):=h;let Y:=L.cl;obtain⟨v0,v1,Z,rfl⟩:∃v0 v1 Z,vs=[v0,v1,Z]:=by
  match vs,hl with
  |[a,b,c],_=>show⟨a,b,c,W⟩
 obtain⟨E2,y⟩:∃E2:XK,E2=λc dx u=>∃j k o,L10.YE α ω H j o u/\L10.StoOk B K u j o/\c=.ref C/\(∃p fs,dx=cL p/\u p=cL (.xd fs)/\fs.lookup ("most":Str)=cL (.int k))/\L10.WS K E B H α ω (L10.PQ B K Q) (.ok (.fz (.tuple [.str "many",.int k])) o):=⟨_,W⟩;show⟨_,(mX (L4.Jb (i:=3) (E2:=E2) (tb:=DB (tR (λxs H Q=>∃x n,xs=[x]/\Ln K x H n/\Q (.int n) H) (df (jz (L10.kB K 3 aL) [] E2 (df (nY 0) (df (nY 1) (df (nY 2) gJ)))) gJ))) W nt.nd W W W U Y bR W W
   (λl σ=>by show L4.Jg (mX (zw (xO rT W T Bv (cj (L4.Hq W X W W W W W hr (cj (pv 0) (cj (pv 1) (cj (pv 2) gy)))) gy)))) λD H q=>And.intro W q)
   (λl e=>by show mX (zw (Fa (cj G5 (cj (te:=L9.N9 K (nY 3) "most") ?_ gy))));show L9.JA (pv 3) ?_;rfl)
   (λc dx u h=>by rw[y]at h;let(_,_,_,_,_,h,_):=h;show⟨C,m,h,Y,by rw[aar,dN,aam]⟩))),?_⟩
 unfold cb at g;ext L4.N8;show⟨?_,λc dx u N e I he M hd hn=>?_⟩
 .ext:5
  show L10.xC so hv (F:=aL) (n:=3) ?_;cases q:L10.jU aL 3 xs ω with
  |bad=>rw[q]at g;show g.elim
  |ok x o=>
   rw[q]at g;cases x with
   |fz d=>show g.elim
   |tp l=>show g.elim
   |rf i=>
    dsimp only at g;cases qi:o[i]? with
    |none=>rw[qi]at g;show g.elim
    |some c=>
     rw[qi]at g;cases c with
     |lst ys=>intro j H' t r v R;let(a,ha,rfl):=R;let(zs,h1,N):=r.cel i a _ ha qi;show⟨.ref a,ys.length,W,.inl ⟨zs,.inl (.inl h1),N.length.symm⟩,?_⟩;show g j H' t r (.int _) (.int _)
     |_=>show g.elim
  |er x o=>
   rw[q]at g;let(xc,xf):=x;dsimp only at g;by_cases M:xc= "TooMany"
   case neg=>rw[a4 M]at g;show g.elim
   subst M;rw[ax W]at g;split at g
   .rename_i f k
    by_cases hf:f=("most":Str)
    case neg=>rw[a4 hf]at g;show g.elim
    subst hf;rw[ax W]at g;rintro c dx j H' t r ⟨⟨a',e1,e2⟩,fs,g2,g3⟩;let(nn,v,k1,k2):=g3 "most" (.int k) W;let e3:=V.symm.trans e2;ext e3;ext k2;rw[y];cases dx with
    |none=>show bb W nn
    |some p=>show⟨j,k,o,t,r,e1,⟨p,fs,W,g2 p W,k1⟩,g⟩
   .show g.elim
 .rw[y]at N;let(j,k,o,t,r,rfl,(p,fs,rfl,hx,S),w2):=N;let G:YS u (aR u e (.frz I (.own e))):=bj he _;let eE:(aR u e (.frz I (.own e))) e=cL (.frz I (.own e)):=ay;generalize aR u e (.frz I (.own e))=H2 at G eE;ext:5;show⟨.ref e,W,e,I,C,m,p,fs,.int k,W,eE,M,hd,hn,L,hh,J,G _ _ hx,S,?_⟩;ext:5;show⟨W8 W,λp J=>?_⟩;let s3:YS H2 (aR H2 p (.tup [.str "many",.int k])):=bj J _;show w2 j _ (t.trans (L10.YE.same (G.trans s3))) (r.grow (G.trans s3)) _ (.tup ⟨.inl (.inl ay),λz=>bb J ((r.grow G).owd p z)⟩ (.cons (.str _) (.cons (.int _) .nil)))
end
end K71
theorem Vk{α:Type}:∀{l:G α},l.length=1->∃a,l=[a]
 |[a],_=>⟨a,W⟩
theorem UW{α:Type}:∀{l:G α},l.length=2->∃a b,l=[a,b]
 |[a,b],_=>⟨a,b,W⟩
theorem VT{α:Type}:∀{l:G α},l.length=3->∃a b c,l=[a,b,c]
 |[a,b,c],_=>⟨a,b,c,W⟩
theorem WC{α:Type}:∀{l:G α},l.length=4->∃a b c d,l=[a,b,c,d]
 |[a,b,c,d],_=>⟨a,b,c,d,W⟩
local macro_rules| `(tactic|ext:2)=> `(tactic|(intro _ _ _ _ _ _ us hl;first|(obtain⟨_,h⟩:=Vk hl;subst h;kernel_rfl)|(obtain⟨_,_,h⟩:=UW hl;subst h;kernel_rfl)|(obtain⟨_,_,_,h⟩:=VT hl;subst h;kernel_rfl)|(obtain⟨_,_,_,_,h⟩:=WC hl;subst h;kernel_rfl)|(match us,hl with|[_,_,_,_,_],_=>rfl)|(match us,hl with|[_,_,_,_,_,_],_=>rfl)|(match us,hl with|[],_=>rfl)))| `(tactic|ext:8)=> `(tactic|(intro _ _ _ _ _ _ us hl;first|((have h1:us.length=1:=by simpa using hl);obtain⟨_,h⟩:=Vk h1;subst h;exact⟨_,rfl,rfl⟩)|((have h1:us.length=2:=by simpa using hl);obtain⟨_,_,h⟩:=UW h1;subst h;exact⟨_,rfl,rfl⟩)|((have h1:us.length=3:=by simpa using hl);obtain⟨_,_,_,h⟩:=VT h1;subst h;exact⟨_,rfl,rfl⟩)|((have h1:us.length=4:=by simpa using hl);(match us,h1 with|[_,_,_,_],_=>exact⟨_,rfl,rfl⟩))))| `(tactic|ext:6)=> `(tactic|first|exact List.forall_mem_nil _|(refine List.forall_mem_cons.mpr ⟨?_,?_⟩;(·first|(show XW _ _ _=_;k_is)|(show XJ _ _ _=_;k_is));ext:6))| `(tactic|ext:9)=> `(tactic|first|(refine' L3.NI.mk ?a' ⟨_,L2.G1 ?b' ?c' ?d'⟩;(case a'=>k_is);(case b'=>k_is);(case c'=>k_is);(case d'=>k_is))|(refine' L3.MI.mk ?a' ?e' ⟨_,L2.G1 ?b' ?c' ?d'⟩;(case a'=>k_is);(case e'=>k_is);(case b'=>k_is);(case c'=>k_is);(case d'=>k_is))|(refine' L3.CI.mk ?a' ?b' ?c' ?d' ?e' ?f' ?g' ?i';(case a'=>k_is);(case b'=>k_is);(case c'=>k_is);(case d'=>k_is);(case e'=>k_is);(case f'=>k_is);(case g'=>k_is);(case i'=>ext:6))|(refine' L3.DI.mk ?a' ⟨_,L3.KH ?b' ?c' ?d' ?e'⟩;(case a'=>k_is);(case b'=>k_is);(case c'=>k_is);(case d'=>k_is);(case e'=>k_is))|k_is|k_exc|rfl|ext:6|left|(rw[<-ae4];rfl))
namespace K71
open PySem L2 L3 CC
def F_lawH:FN:=L10.Ss F_law
def all_mk{l:aeN}{w:XU}{K:CL}{h:Heap}{c:Str->bt W2}{fa:Xa}
  {afe:Tok}
  {V:Xa} {af7:Nat} {afU:Array (bt W2)}
  {aeE:Tok}
  {aep:Xa} {ae9:Nat} {aft:Array (bt W2)}
  {r:Xa} {ac4:Nat} {acW:Array (bt W2)}
  {acN:Xa} {ad7:Nat} {ad8:Array (bt W2)}
  {acu:Xa} {aat:Tok}
  {f0 f1 f2 f3 f4 f5 f6 f7 f8 f9 f10 f11 f12 f13 f14 f15 f16 f17 f18 f19 f20 f f22 f23 f24 f25 f26 f27 f28 f29 f30 f31 f32 f33 f34 f35 p f37 f38 o:Xa}
  {g j:Xa}
  {nmR qR:Str} {NR:Xa} {bsR:bg W2} {snR:bg Str} {aly:bg W2} {abR:Bool} {aky:bt Bool} {ddR:bt Xa} {k0R k1R k2R k3R k5R:bt W2}
  {ocN:W2} {odN:bt Xa} {F:Array Y7} {nN:Nat} {slN:Array (bt W2)} (X:K.In h) (G:h.Ns Xy c) (hfa:c "law"=cL (.ref fa))
  (h0:NI K f0 "layer_of" (top 5))
  (h1:NI K f1 "looked_up" (top 8))
  (h2:NI K f2 "chords_over" (top 9))
  (h3:NI K f3 "chord_acts" (top 10))
  (h4:NI K f4 "_law_cell" (top 22))
  (h5:NI K f5 "_law_draw" (top 23))
  (h6:NI K f6 "_law_meaning" (top 24))
  (h7:NI K f7 "_law_bed" (top 25))
  (h8:NI K f8 "_law_three" (top 32))
  (h9:NI K f9 "_law_text" (top 26))
  (h10:NI K f10 "_law_events" (top 27))
  (h11:NI K f11 "_law_done" (top 28))
  (h12:NI K f12 "events_of" (top 15))
  (h13:NI K f13 "done_behind" (top 20))
  (h14:NI K f14 "step" (top 6))
  (h15:NI K f15 "places_on" (top 19))
  (D:DI K f16 acu "typing_rooms" (top 18) #v[.int 400 aat])
  (h17:NI K f17 "_law_prices" (top 30))
  (h18:NI K f18 "_law_closed" (top 31))
  (h19:NI K f19 "_law_many" (top 29))
  (h20:NI K f20 "law" (top 33))
  (b:CI K f "Hand" ["bed","acts","waiting","once","sent"])
  (h22:MI K f f22 "__init__" "Hand.__init__" (aO (top 7) 0))
  (h23:MI K f f23 "stands" "Hand.stands" (aO (top 7) 1))
  (h24:MI K f f24 "is_waiting" "Hand.is_waiting" (aO (top 7) 2))
  (h25:MI K f f25 "has_act" "Hand.has_act" (aO (top 7) 13))
  (h26:MI K f f26 "come" "Hand.come" (aO (top 7) 11))
  (h27:MI K f f27 "go" "Hand.go" (aO (top 7) 12))
  (h28:MI K f f28 "decide" "Hand.decide" (aO (top 7) 10))
  (h29:MI K f f29 "makes_chord" "Hand.makes_chord" (aO (top 7) 4))
  (h30:MI K f f30 "put_to_chord" "Hand.put_to_chord" (aO (top 7) 5))
  (h31:MI K f f31 "begin" "Hand.begin" (aO (top 7) 6))
  (h32:MI K f f32 "press" "Hand.press" (aO (top 7) 3))
  (h33:MI K f f33 "settle" "Hand.settle" (aO (top 7) 8))
  (h34:MI K f f34 "lift" "Hand.lift" (aO (top 7) 7))
  (h35:MI K f f35 "wait_on" "Hand.wait_on" (aO (top 7) 9))
  (n:CI K p "Places" ["most","found","numbers"])
  (h37:MI K p f37 "enter" "Places.enter" (aO (top 16) 1))
  (h38:MI K p f38 "__init__" "Places.__init__" (aO (top 16) 0))
  (q:XJ K Xy "TooMany"=cL (cL (.ref g)))
  (ady:XJ K Xy "BedError"=cL (cL (.ref j)))
  (xR:K.lookup g=cL (excClassObj nmR qR g NR bsR (.ref j::[.type "ValueError",.type "Exception",.type "BaseException",.type "object"]) W3 snR aly abR aky ddR k0R k1R k2R k3R k5R "ValueError.__new__"))
  (eI:Z3 K j [.type "ValueError",.type "Exception",.type "BaseException",.type "object"] "ValueError.__new__"=W3)
  (lN:K.lookup NR=cL ⟨ocN,odN,.dict F nN,slN⟩)
  (MR:(F.all λe=>match e.key with|.str _ _=>W3|_=>W7)=W3)
  (inN:XJ K NR "__init__"=cL (cL (.ref o)))
  (saR:XW K (.ref g) "__setattr__"=cL (cL (.builtin "object.__setattr__")))
  (d:XW K (.ref g) "most"=cL Ld)
  (rdB:ab0 K j (.type "type")=W3)
  (fcB:ab1 K (.ref j) (.type "type") "__init__"=cL (.val (.builtin "ValueError.__init__")))
  (Dj:ZR K (.ref j) "__getattribute__"=cL (cL (.builtin "type.__getattribute__")))
  (gaR:XW K (.ref g) "__getattribute__"=cL (cL (.builtin "BaseException.__getattribute__")))
  (gtR:XW K (.ref g) "__getattr__"=cL Ld)
  (csR:XW K (.ref g) "__class__"=cL (cL (.builtin "object.__class__")))
  (obR:afz K g (.type "object")=cL W3)
  (hdR:Zq K g=W3)
  (k:MI K g o "__init__" "TooMany.__init__" (aO (top 13) 0))
  (afX:XJ K Xy "NONE"=cL (cL (.ref V)))
  (afm:XJ K Xy "CHORD"=cL (cL (.ref aep)))
  (adR:XJ K Xy "AT_REST"=cL (cL (.ref acN)))
  (adY:K.lookup acN=cL ⟨.type "tuple",Ld,.seq #v[.ref r,.none,.none] ad7,ad8⟩)
  (ac0:K.lookup r=cL ⟨.type "tuple",Ld,.seq #v[] ac4,acW⟩)
  (afg:K.lookup aep=cL ⟨.type "tuple",Ld,.seq #v[.str "chord" aeE] ae9,aft⟩)
  (afV:K.lookup V=cL ⟨.type "tuple",Ld,.seq #v[.str "none" afe] af7,afU⟩)
  (yb:∀x∈jy.bl,XJ K Xy x=cL Ld):
  ∃fd:Yj,(∀(s:Xd) (v:W2),abk s fd ⟨[v],[]⟩ [("_law_script",v)])/\∀base:Heap,K.In base->base.Ns Xy c->FnOk l.prog w K c base kQ 13 fa fd ["_law_script"] (L3.Cu K 1 F_lawH):=by
 let agP:=MD (xs:=[.str "none"]) (ds:=[(.str "none")]) afV (by show 1<=Xl;decide) (.cons ⟨_,rfl⟩ .nil) λO H=>(.cons (.str _) .nil);let af3:=MD (xs:=[.str "chord"]) (ds:=[(.str "chord")]) afg (by show 1<=Xl;decide) (.cons ⟨_,rfl⟩ .nil) λO H=>(.cons (.str _) .nil);let adn:=MD (xs:=[]) (ds:=[]) ac0 (by show 0<=Xl;decide) .nil λO H=>.nil;let aeD:=MD (xs:=[.ref r,.Zo,.Zo]) (ds:=[(.tuple []),.none,.none]) adY (by show 3<=Xl;decide) (.cons rfl (.cons rfl (.cons rfl .nil))) λO H=>(.cons (adn O H) (.cons .Zo (.cons .Zo .nil)));show h20.law X G hfa (by ext:2) λbase fd agM=>?_;let W:Tp l.prog w K c base h:=⟨X,G⟩;let MR:acn K NR=W3:=by ext acn;rw[lN];show MR
 let XR:L4.zT K g (.ref j::[.type "ValueError",.type "Exception",.type "BaseException",.type "object"]):=⟨_,_,_,_,_,_,_,_,_,_,_,_,_,_,_,_,xR⟩;let LR:L4.aec K g (.ref j::[.type "ValueError",.type "Exception",.type "BaseException",.type "object"]):=⟨XR,rfl,gaR,gtR,csR,obR⟩;let acr:L9.XC K g j o:=⟨⟨_,_,_,_,_,_,_,_,_,_,_,_,_,_,xR,MR,inN⟩,eI,saR⟩;let aba:=YX X G q;let aea:=YX X G ady;let(fdI,zI):=k.F;let(_,_,_,_,_,_,_,_,_,rfl,ad6,_):=zI.ex;let ad9:=k.i;let ad1:=Cs (P:=l.prog) (w:=w) (mg:=c) (base:=base) zI acr aea rdB fcB Dj d;let adU:=zI.binds (ps:=["self","most"]) (by ext:2);let a:adq K c jy:=⟨λx hx=>PySem.W.mg_none_of X G (yb x hx),WI,(UP (Vj (YX X G afX) agP) (UP (Vj (YX X G afm) af3) (UP (Vj (YX X G adR) aeD) WO))),(VH b.cf (VH n.cf We))⟩;let s0:=WA (T:=bL) (P:=l.prog) (w:=w) (K:=K) (mg:=c) (base:=base);let s1:=jB s0 rfl (⟨_,_,_,_,_,_,acr,ad6,ad9,ad1,adU,q,aba⟩);let s2:=jB s1 rfl (h0.c W λ_ z=>l7 a s1 z e1);let s3:=jB s2 rfl (h1.c W λ_ z=>l7 a s2 z e2);let s4:=jB s3 rfl (h2.c W λ_ z=>l7 a s3 z e3);let s5:=jB s4 rfl (h3.c W λ_ z=>l7 a s4 z e4);let s6:=jB s5 rfl (h4.c W λ_ z=>l7 a s5 z e5);let s7:=jB s6 rfl (h5.c W λ_ z=>l7 a s6 z e6);let s8:=jB s7 rfl (h6.c W λ_ z=>l7 a s7 z e7);let s9:=jB s8 rfl (h7.c W λ_ z=>l7 a s8 z e8);let s10:=jB s9 rfl (h8.c W λ_ z=>l7 a s9 z e9);let s11:=jB s10 rfl (h9.c W λ_ z=>l7 a s10 z Wm);let s12:=jB s11 rfl (h10.c W λ_ z=>l7 a s11 z Wj);let s13:=jB s12 rfl (h11.c W λ_ z=>l7 a s12 z Wz);let s14:=jB s13 rfl (h12.c W λ_ z=>l7 a s13 z Wx);let s15:=jB s14 rfl (h13.c W λ_ z=>l7 a s14 z WJ);let s16:=jB s15 rfl (h22.k b W λ_ z=>jE a s15 z Wf);let i:=jB s16 rfl (h23.mt b W λ_ z=>jE a s16 z Wt);let Z:=jB i rfl (h24.mt b W λ_ z=>jE a i z WH);let Y:=jB Z rfl (h25.mt b W λ_ z=>jE a Z z WK);let U:=jB Y rfl (h26.mt b W λ_ z=>jE a Y z WT);let S:=jB U rfl (h27.mt b W λ_ z=>jE a U z Wi);let R:=jB S rfl (h28.mt b W λ_ z=>jE a S z WB);let Q:=jB R rfl (h29.mt b W λ_ z=>jE a R z Wh);let N:=jB Q rfl (h30.mt b W λ_ z=>jE a Q z Ws);let M:=jB N rfl (h31.mt b W λ_ z=>jE a N z WF);let L:=jB M rfl (h32.mt b W λ_ z=>jE a M z WN);let J:=jB L rfl (h33.mt b W λ_ z=>jE a L z WG);let I:=jB J rfl (h34.mt b W λ_ z=>jE a J z Wr);let E:=jB I rfl (h35.mt b W λ_ z=>jE a I z WX);let C:=jB E rfl (h14.c W λ_ z=>jE a E z Wk);let B:=jB C rfl (h37.mt n W λ_ z=>Qm a C z WY);let A:=jB B rfl (h38.k n W λ_ z=>Qm a B z WW);let m:=jB A rfl (h15.d W λ_ z=>Qm a A z Wp);let s34:=jB m rfl (D.c (ds:=[.int 400 aat]) W (.cons ⟨_,rfl⟩ .nil) λ_ z=>Nj a m z VR);let y:=jB s34 rfl (D.c (ds:=[]) W .nil λ_ z=>Nj a m z VR);let u:=jB y rfl (h17.c W λ_ z=>jE a y z Pa);let t:=jB u rfl (h18.c W λ_ z=>jE a u z Tb);let s38:=jB t rfl (h19.c W λ_ z=>vL z (t 34 _ () rfl) aba LR rfl q hdR d (a.bl "len" (by left)));show(jE a s38 agM WU).imp λ_ _ _ _ h=>L10.OO h
end K71
local macro_rules|`(universe $i*)=>do
 let t:=fun (c:Lean.Name)=>`(theorem $(Lean.mkIdent ((`PySem.W.Fast).str ("tw"++toString c.hash))):ident:True:=trivial)
 let b:=`PySem.Challenge.cw_chordbed_k71_typing_rooms_holds
 let o←(List.range 464).mapM fun n=>t (b.str ("o_"++toString n))
 let l←i.mapM fun j=>t (b++j.getId)
 return Lean.mkNullNode (((o.toArray++l).push (←t `PySem.Challenge.pw_chordbed_k71_typing_rooms)))
universe heap_39 heap_464 view_39 tree_463 tree_454 tree_378 tree_326 sts_379 tree_299 sts_74 tree_183 tree_264 sts_327 sts_455 sts_49 sts_268 sts_300 tree_73 heap_46 tree_47 env_41
open PySem PySem.W PyProof.Rows
set_option maxRecDepth 100000 in
set_option maxHeartbeats 0 in
theorem PySem.Challenge.cw_chordbed_k71_typing_rooms_holds : PySem.Challenge.rw_chordbed_k71_typing_rooms.Holds := by
 w_on;o_law;k_head;(case hw=>w_witness2)
 k_fill
 refine L3.Um (l:=PySem.Challenge.rw_chordbed_k71_typing_rooms) (n:=63) (k:=13) (x:= "_law_script") (F:=K71.F_lawH) rfl (by decide) rfl ⟨rfl,by decide,by decide⟩ (λw h Y=>PySem.W.kIn_of Y) ?F K71.main
 case F=>
  intro w e f h b G a
  apply K71.all_mk b G a
  all_goals ext:9
