import PyProof.Rows.All
import Wide.All
import OpenK.AllK
import Wide.FinOn
import Lean
import PyProof.EqAt
import PyProof.EqKinds
import PyProof.TupleCall
import KE.KIntText
import KE.KRevSl
import PyProof.Rows.SeqMore
import PyProof.WalkInts
import PyProof.Rows.MinMaxN
import PyProof.ExcInit
import OpenK.KMake
import PyProof.InstStoreFacts
import PyProof.FString2
import PyProof.Rows.FStr
import PyProof.Rows.SetFrom
import PyProof.SeqRoads2
import PyProof.RangeFor
import PyProof.WalksMore
import PyProof.StrBlock2
import PyProof.Rows.SortShell
import PyProof.TupleOfSeq
import KE.KDictList
import KE.KDictOf
import PyProof.IsiH_tuple
import PyProof.Rows.RuleN_abs
import PyProof.Rows.Range3
import KE.KRevIter
import PyProof.StrLawsRepr
import PyProof.ReprStr
import PyProof.IsiH_list
import PyProof.Rows.TupDisplay
import PyProof.SetKind
import PyProof.SetScanFacts
import PyProof.CollectIter
import PyProof.Rows.SortStr
import PySem.Challenge.RW_chordbed_k71_typing_rooms
set_option compiler.extract_closed false
set_option genSizeOf false
set_option genInjectivity false
set_option Elab.async false
set_option linter.all false
set_option maxRecDepth 100000
abbrev ax:=@if_pos
abbrev a4:=@if_neg
abbrev a5:=@decide_eq_true
abbrev a6:=@decide_eq_false
abbrev a7:=@of_decide_eq_true
abbrev bb:=@absurd
abbrev bg:=@List
abbrev bt:=@Option
abbrev b3:=@PySem.Heap.get?_push_of_some
abbrev b4:=@PySem.Heap.lt_size
abbrev b5:=@PySem.Heap.get?_push_size
abbrev b7:=@PySem.Heap.get?_update_other
abbrev b9:=@PySem.Heap.get?_update_self
abbrev cc:=@PySem.Heap.size_push
abbrev ck:=@PySem.Heap.get?_none_of_le
abbrev cn:=@PySem.Obj.data_mapFields
abbrev cv:=@PySem.Obj.isFreed_of_fields
abbrev c9:=@Ne.symm
abbrev dw:=@congrArg
abbrev dN:=@beq_self_eq_true
open Lean in
def cvP:Nat→TSyntax `term→MacroM (TSyntax `rcasesPat)
 |0,_=>Macro.throwUnsupported
 |n+1,t=>let f:=fun (a:Array Term)=>do
   let l←(←a.mapM (cvP n)).mapM fun p=>`(Lean.Parser.Tactic.rcasesPatLo|$p:rcasesPat)
   `(rcasesPat|⟨$l,*⟩)
  match t with
  |`(⟨$a,*⟩)=>f a
  |`(($a,$b,*))=>f (#[a]++b.getElems)
  |`($i:ident)=>`(rcasesPat|$i:ident)
  |`(_)=>`(rcasesPat|_)
  |_=>Macro.throwUnsupported
local macro_rules|`(tactic|let $d:letDecl)=>`(tactic|have $d:letDecl)
local macro_rules|`(tactic|let $p:term:=$e)=>if p.raw.isIdent then Lean.Macro.throwUnsupported else do let q←cvP 99 p;`(tactic|obtain $q:rcasesPat:=$e)
local macro_rules|`(tactic|left)=>`(tactic|decide+kernel)|`(tactic|change $e)=>`(tactic|with_reducible exact $e)|`(tactic|specialize $e)=>`(tactic|with_reducible refine $e)
local macro_rules|`(def $i:declId $s:optDeclSig $v:declVal)=>if v.raw[1].isOfKind ``Lean.Parser.Term.byTactic then `(theorem $i:declId $(⟨Lean.mkNode ``Lean.Parser.Command.declSig #[s.raw[0],s.raw[1][0]]⟩):declSig $v:declVal) else `(noncomputable def $i:declId $s:optDeclSig $v:declVal)|`(abbrev $i:declId $s:optDeclSig $v:declVal)=>`(noncomputable abbrev $i:declId $s:optDeclSig $v:declVal)
local macro_rules|`(tactic|ext)=>`(tactic|decide)
local macro_rules|`(tactic|ext)=>`(tactic|omega)
local macro_rules|`(tactic|ext)=>`(tactic|lia)
local macro_rules|`(tactic|show $e)=>`(tactic|refine $e)
local macro_rules|`(tactic|ext $i:ident)=>`(tactic|cases $i:ident)
local macro_rules|`(tactic|ext $i:ident)=>`(tactic|unfold $i:ident)
local macro_rules|`(#[$a,*])=>`(⟨$a,*⟩)|`(#v[$a,*])=>`(List.toArray [$a,*])
local macro_rules|`(())=>`(by ext)
open Option renaming some->cL,none->Ld,bind_eq_some_iff->X8,isSome_iff_exists->Y7,isNone_iff_eq_none->Zz,map_eq_some_iff->ZR,isSome_map->aas,getD_some->abO,isSome_some->aed,toList_none->aef,getD_none->aeI,map->ahl
open PySem renaming wpAny_bind->lD,Value->WY,wpAny_pure->W6,Addr->W7,Shared->W9,PyData->Xa,sizeLine->Xi,starEach->Xr,Program->Xu,mainGlobals->Xv,NameKind->Xw,Expr->Xx,Around->XJ,Builtin->XN,World->XQ,wpAny_field->X6,bootBuiltins->X7,wpAny_newObj_type->X9,FuncData->Yj,wpAny_callSpecial?_slot->Yk,wpAny_holding->Yp,wpAny_call_entry->Yq,sysModules->Ys,wpAny_seqItems->YD,Stmt->YL,compareOp->YM,sizeLine_eq->YQ,mem_of_lookup->YR,wpAny_setField->YS,wpAny_loadPart_at->YU,wpAny_dictEntries->YV,DictEntry->Y3,cellsFrom->Y4,Scope->Y9,wpAny_standAt->Zg,binaryOp->Zl,wpAny_typeNameOfWhole_keyiter->Zp,wpAny_Call_Name_kw->Zq,wpAny_setField_rec->Zr,wpAny_passesOwn->Zv,swapsWith->Zy,wpAny_truthy_bool->ZC,wpAny_letGo->ZL,codeAny_call_builtin->ZM,wpAny_isSubtype_exc->ZQ,wpAny_pyIter_list->ZS,plainId_quiet->ZT,codeAny_builtin->ZU,wpAny_getItem_str_slice->ZZ,ExcBaseFacts->Z8,wpAny_isInstance->aaf,Comprehension->aak,wpAny_execs_nil->aar,wpAny_dictEpoch->aat,codeAny_mono->aav,wpAny_typeOf->aax,wpAny_call->aaI,call_meets->aaJ,Keyword->aaP,GenState->aba,BindsTo->abh,wpAny_rule->abi,post_val_or_str->abo,wpAny_pyIter_tuple->abt,wpAny_notOrdered_dict->abx,IsPart->abE,ReadsAll->abF,wpAny_of_eq->abG,wpAny_updateSeq_pair->abH,wpAny_tryCatch->abI,wpAny_onRaise->ab7,wpAny_attempt->ab8,typeIs_int->ach,tupleKind_room_in1->aci,ZipApart->acv,call_meetsIn->acw,wpAny_Call_ofName->acx,eqIsQuiet_byValue->acy,plainObj_wpAny_Assign_Attribute->acF,PassesOwn->acL,Result->acM,Within->ac6,pushCells_keeps->ac7,wpAny_updateSeq->ac9,size_of_entries->ada,OsState->adw,Model->adF,Operator->adG,Code->adH,typeIs_str->adI,Reads->adK,IsZip->adL,wpAny_binaryOp_repeat_ref->aee,wpAny_comprehension_free->aeq,Drawn->aeG,CmpOp->aeH,wpAny_pyNext_list_item->aeU,JoinOk->aeY,wpAny_Assign_Subscript->aeZ,wpAny_isTrue_Compare1->aft,wpAny_pyNext_list_end->afu,wpAny_pyIter_listiter->afv,builtinLookup_eq_fast->afB,wpAny_isOneOf_keyiter->afC,wpAny_loadName_local->afJ,wpAny_mkInt->afN,wpAny_loadName_cell->aga,wpAny_raiseNew_none->agb,wpAny_Name->agw,wpAny_Constant_int->agx,wpAny_load->agz,wpAny_getItem_heap->agB,wpAny_setItem_heap->agC,wpAny_assign_Name->ahg,wpAny_sequenceKey->ahh,slot_list_getitem->ahi,wpAny_Call_method->ahj,OwnTail->ahk,wpAny_pyHash_int->ahN,wpAny_pyHash_str->ahO,wpAny_execs_cons->ahP,wpAny_lookBehind->ahR,pastItsLine_dict->ahS,noFill_tuple_add->ahU,call->ahW,wpAny_pyIter_zip->ahX,beq_builtin_none->ahY,wpAny_forIn_list->ahZ,wpAny_specialOf->ai7,typeLookup_type->ai8,wpAny_Compare1->aj9,wpAny_loadPart->akb,isSubtype_stop->aki,refuseLoop_ref->akj,HeapKind->akk,wpAny_fieldsOf->akl,rangeSize_one->amc,intBits_le_64->amd,seq_tuple_add->ame,evalPart_none->amf,call_list_seq->amg,wpAny_handled->amh,wpAny_in_heap->ami,strLen_append->amj,wpAny_newList->amk,ItemsOf->aml
open PySem.W renaming Frag->CL,nsIn->XH,findIn->XS,emptyDict->Yy,fnOf->Yz,keepIn->YI,mg_of->YT,instObj->Y2,hasDictIn->Zm,isFn->Zw,kia_one->ZI,specialIn->ZO,cellsFrom_some->ZP,plainGet->ZW,excIn->Z0,callWith_K->aad,codeIn->aae,methodCall_KW->aaL,lookIn->aaV,InstAt->aaW,tailIn->aaZ,plainGet_of->abb,methodObj->abq,plainOver->abr,takerIn->abU,makesIn->abV,readsIn->abX,findCls->abY,nsOkIn->acj,pyHash_slot->adx,tail_of_in->adN,handedIn->aep,OpenLaw->aeK,typeIn->aeV,kitOne->aeX,notCls->ae0,mroIn->afw,clsIn->afz
open Bool renaming and_eq_true->WX,true->WZ,false->W3,false_ne_true->Xp,or_eq_true->Yw,false_eq_true->YF,and_self->YX,not_eq_true'->Zs,true_or->aaj,or_true->aaR,and_eq_true_iff->abe,false_or->abu,true_and->abv,not_true->abw,and_true->aby,eq_false_iff->abS,noConfusion->aca,false_and->acE,or_eq_false_iff->aeg,eq_iff_iff->afL,bne_false->agc,or_false->agA
open List renaming length_map->W0,getElem?_eq_some_iff->W2,mem_cons_self->W8,mem_cons_of_mem->Xb,getElem?_append_left->Xe,length_append->Xf,getElem?_map->Xg,replicate->Xh,length_cons->Xk,mem_singleton->Xl,getElem?_eq_getElem->Xm,range->Xn,size_toArray->Xo,map_cons->Xq,mem_map->Xs,mem_cons->Xt,getElem?_set_ne->XD,mem_of_getElem?->XF,mem_append_right->XG,map_map->XI,map_append->XM,getElem?_append_right->XO,length_range->XU,find?_cons->XW,append_assoc->XZ,mem_append->X0,lookup_cons->X1,append_nil->X2,isEmpty_iff->X4,mem_iff_getElem?->Ya,length_take->Yb,length_set->Yc,mem_append_left->Yd,getElem?_set_self->Ye,all_eq_true->Yh,getElem?_set->Yi,replicate_succ->Ym,pairwise_singleton->Yr,length_replicate->Yu,nodup_cons->Yv,pairwise_cons->Yx,drop_eq_nil_of_le->YA,drop_eq_getElem_cons->YC,not_mem_nil->YG,mem_flatMap->YH,mem_filter->YO,getElem?_concat_length->YW,all_cons->YY,length_nil->Y5,lookup->Y6,flatten_cons->Y8,mem_range->Zc,getElem?_replicate->Zd,of_mem_zip->Zn,nodup_append->Zu,length_drop->ZD,filter_cons->ZE,mem_of_find?_eq_some->ZH,map_congr_left->ZJ,mem_map_of_mem->ZK,take_add_one->ZV,length_singleton->Z1,length_filter_le->Z2,take_length->Z6,any_cons->Z7,forIn_cons->aab,map_nil->aai,mem_filterMap->aan,contains_cons->aao,length->aaw,pairwise_map->aaz,getElem?_take_of_lt->aaD,filterMap_cons_none->aaG,filterMap_cons_some->aaH,foldl->aaQ,take_of_length_le->aaS,foldl_cons->aaX,contains_iff_mem->aa5,set_append_right->aa6,forIn_nil->abd,nodup_nil->abf,mem_of_mem_take->abg,filterMap_cons->abn,mem_replicate->abC,map_inj_right->abD,getElem?_inj->abQ,any_eq_true->acb,nil_append->acr,drop_zero->acH,filterMap_eq_nil_iff->acP,pairwise_iff_getElem->acQ,getElem?_cons_succ->ac8,getElem?_cons_zero->ade,filter_cons_of_pos->adf,filter_cons_of_neg->adg,mem_singleton_self->adh,pairwise_lt_range->adz,mem_of_mem_drop->aeh,pairwise_append->aei,getElem_range->aeL,set_cons_zero->aeM,set_cons_succ->aeN,getElem_mem->afx,zipIdx_cons->afy,cons_append->afA,zipIdx_nil->afM,headD_cons->afO,filterMap->age,map->agf,take_zero->agg,take_nil->agD,map_id->ah0,Nodup->ajb,find?->ajc
open Nat renaming le_of_ble_eq_true->W5,le_refl->Xd,ne_of_lt->Xy,lt_of_lt_of_le->Xz,le_trans->XT,zero_le->XY,ne_of_gt->Yt,lt_irrefl->YJ,add_sub_cancel_left->Zh,lt_succ_self->ZF,zero_add->ZG,lt_trans->ZX,le_succ->Z9,le_of_succ_le->aaE,lt_succ_of_lt->aaF,le_of_lt->aaU,add_assoc->abB,sub_self->abZ,min_le_right->acg,not_lt_zero->acC,mul_le_mul->acO,add_comm->adJ,sub_zero->adM,lt_of_le_of_lt->aeW,min_eq_left->agd,le_of_eq->ahT,succ_mul->ahV,max_le->akn
open Option.some renaming inj->Xj
open PyProof.Rows renaming envOfC->XX,slot_tuple_getitem->Yl,callWith_type1->ZY,callWith_builtin1->ai6,kws_cons->ai9,kws_nil->aja
open Array renaming length_toList->Yf,getElem?_eq_some_iff->Yg,getElem?_toList->Zo,getElem?_setIfInBounds_self_of_lt->aa4,getElem?_setIfInBounds_ne->abP,find?_toList->aeo,forIn_toList->aer,all_toList->ae1,toList->agy
open Int renaming toNat_natCast->Yo,le_refl->abj,ofNat->ack,toNat->ady,toNat_of_nonneg->aeJ,emod_lt_of_pos->ae2,emod_nonneg->agh
open PySem.F renaming excBase_ValueError->Zt,plainAttrs_dict->aay,attrBase_ValueError->ab9,slot_dict_getitem->acs,args_tuple_add_2->acu,slot_dict_values->acz,slot_list_append->acA,type_list_append->acB,entry_tuple_add->acG,slot_tuple_add->acN,slot_dict_pop->ac2,slot_dict_get->ac3,slot_dict_len->ac4,slot_dict_ne->adb
open PySem.SeqAt renaming eqv_refl->aaK,compareEq_reads->akc,compareNe_reads->akd,in_list_reads->ake,in_tuple_reads->akf,notIn_list_reads->akg,notIn_tuple_reads->akh
open List.Pairwise renaming nil->aaY,filterMap->ah1,filter->ah6
open List.Perm renaming refl->abW,swap->an8
open PySem.Str renaming join->ab0
open Int.ofNat renaming inj->acm
open PySem.W.Looks renaming here->ahQ
open PySem.StrLaws renaming sliced_plain->ah2,strSliceIndices_plain->ah3,joinFits->ah4,glued_eq_join->ah5
open PySem.Within renaming cons->ai5
open List.Nodup renaming sublist->amm
open PySem.IsL renaming update->an7
open List.cons renaming injEq->an9
abbrev W:=@rfl
abbrev G:=@List
abbrev I:=@Option
open Option renaming some->R,none->P
open Bool renaming true->S,false->U
open PySem renaming Addr->M,Value->J
namespace L2
open PySem PySem.Spec PyProof.Rows
abbrev cg:=Sum Int Str
def tW:cg->J->Bool
 |.inl k,v=>WY.isInt k v
 |.inr x,v=>WY.isStrOf x v
def Vh(w:XQ):cg->Int
 |.inl k=>hashInt k
 |.inr x=>hashStr w x
theorem cB:∀{k:cg} {v:J},tW k v=S->(∃i t,k=Sum.inl i/\v=WY.int i t)\/(∃x t,k=Sum.inr x/\v=WY.str x t)
 |.inl i,v,h=>by let(t,e):=WY.isInt_shape h;show .inl #[i,t,W,e]
 |.inr x,v,h=>by let(t,e):=WY.isStrOf_shape h;show .inr #[x,t,W,e]
def B8(i:Int)(t:Tok):tW (.inl i) (.int i t)=S:=by simp[tW,WY.isInt]
def B7(x:Str)(t:Tok):tW (.inr x) (.str x t)=S:=by simp[tW,WY.isStrOf]
def RB(a b:Int):decide ((Sum.inl a:cg)=Sum.inl b)=(a==b):=by
 by_cases e:a=b
 .subst e;simp
 .let h:¬(Sum.inl a:cg)=Sum.inl b:=λq=>e (Sum.inl.inj q);rw[a6 h];show(beq_eq_false_iff_ne.mpr e).symm
def Q8(a b:Str):decide ((Sum.inr a:cg)=Sum.inr b)=decide (a=b):=by
 by_cases e:a=b
 .subst e;simp
 .let h:¬(Sum.inr a:cg)=Sum.inr b:=λq=>e (Sum.inr.inj q);rw[a6 h,a6 e]
theorem Pi(a:Int)(b:Str):decide ((Sum.inl a:cg)=Sum.inr b)=U:=a6 (λq=>nomatch q)
theorem Ra(a:Str)(b:Int):decide ((Sum.inr a:cg)=Sum.inl b)=U:=a6 (λq=>nomatch q)
def cC(prog:Xu)(w:XQ):PySem.KeyKind prog w cg where
 is:=tW
 hash:=Vh w
 inj:=λv a b m g=>by
  rcases cB m with⟨i,t,rfl,rfl⟩|⟨x,t,rfl,rfl⟩
  .rcases cB g with⟨j,u,rfl,e⟩|⟨y,u,rfl,e⟩
   .injection e with e1 _;rw[e1]
   .show nomatch e
  .rcases cB g with⟨j,u,rfl,e⟩|⟨y,u,rfl,e⟩
   .show nomatch e
   .injection e with e1 _;rw[e1]
 byValue:=λk v h=>by rcases cB h with⟨i,t,rfl,rfl⟩|⟨x,t,rfl,rfl⟩<;>rfl
 pyHash:=λf h=>by
  rcases cB f with⟨i,t,rfl,rfl⟩|⟨x,t,rfl,rfl⟩
  .show ahN h
  .show ahO h
 eqBool:=λl f h=>by
  rcases cB l with⟨i,t,rfl,rfl⟩|⟨x,t,rfl,rfl⟩
  .rcases cB f with⟨j,u,rfl,rfl⟩|⟨y,u,rfl,rfl⟩
   .rw[RB]at h;show wpAny_eqBool_int h
   .rw[Pi]at h;show SeqAt.EqAt.int_str i t y u _ _ _ _ h
  .rcases cB f with⟨j,u,rfl,rfl⟩|⟨y,u,rfl,rfl⟩
   .rw[Ra]at h;show SeqAt.EqAt.str_int x t j u _ _ _ _ h
   .rw[Q8]at h;show wpAny_eqBool_str h
 «strs»:=λk x t v h=>by
  rcases cB h with⟨i,u,rfl,e⟩|⟨y,u,rfl,e⟩
  .show nomatch e
  .injection e with e1 _
   subst e1;ext v<;>rfl
theorem xM(prog:Xu)(w:XQ)(i:Int)(t:Tok):(cC prog w).is (.inl i) (.int i t)=S:=B8 i t
theorem xS(prog:Xu)(w:XQ)(x:Str)(t:Tok):(cC prog w).is (.inr x) (.str x t)=S:=B7 x t
inductive V where
 |Zk|bl (b:Bool)|int (i:Int)|str (x:Str)|byt (b:Array UInt8)|flt (b:UInt64)|ref (a:M)|ty (n:String)
 deriving DecidableEq
def RelV:V->J->Prop
 |.Zk,u=>u=WY.none
 |.bl b,u=>u=WY.bool b
 |.int i,u=>∃t,u=WY.int i t
 |.str x,u=>∃t,u=WY.str x t
 |.byt b,u=>∃t,u=WY.bytes b t
 |.flt b,u=>∃t,u=WY.float b t
 |.ref a,u=>u=WY.ref a
 |.ty n,u=>u=WY.type n
abbrev Vals:G V->G J->Prop:=Paired RelV
theorem Vals.length(r:Vals xs us):xs.length=us.length:=Paired.length r
theorem Vals.get:∀{xs:G V} {us:G J} {i:Nat} {x:V},Vals xs us->xs[i]?=R x->∃u,us[i]?=R u/\RelV x u
 |_,_,_,_,.nil,e=>by simp at e
 |_,_,0,_,.cons r _,e=>by simp at e;subst e;show#[_,W,r]
 |_,_,i+1,x,.cons _ t,e=>by let(u,b,a):=Vals.get t (by simpa using e);show#[u,by simpa using b,a]
theorem Vals.append:∀{xs ys:G V} {us ws:G J},Vals xs us->Vals ys ws->Vals (xs++ys) (us++ws)
 |_,_,_,_,.nil,s=>s
 |_,_,_,_,.cons r t,s=>.cons r (Vals.append t s)
theorem Vals.take:∀{xs:G V} {us:G J} (n:Nat),Vals xs us->Vals (xs.take n) (us.take n)
 |_,_,0,_=>.nil
 |_,_,_+1,.nil=>.nil
 |_,_,n+1,.cons r t=>.cons r (Vals.take n t)
theorem Vals.drop:∀{xs:G V} {us:G J} (n:Nat),Vals xs us->Vals (xs.drop n) (us.drop n)
 |_,_,0,r=>r
 |_,_,_+1,.nil=>.nil
 |_,_,n+1,.cons _ t=>Vals.drop n t
def aaa:I V->I J->Prop
 |some v,R u=>RelV v u
 |none,P=>True
 |_,_=>False
def KV:G (o×V)->G (o×J)->Prop:=Paired λ(p:o×V) (q:o×J)=>p.1=q.1/\RelV p.2 q.2
def kV:cg->V
 |.inl i=>.int i
 |.inr x=>.str x
inductive HO where
 |lst (xs:G V)
 |tup (xs:G V)
 |dK (XA:G (cg×V))|dT (XA:G (G cg×V))
 |set (S:Int->Bool) (n:Nat)
 |ins (C dx:M) (fs:G (Str×V))
 |own (x:M)
 |xd (fs:G (Str×V))
 |met (f x:M)
 |rng (lo hi:Int)
 |frz (o:Obj) (u:HO)
 |tbl (ps:Array J)
 |ext (φ:Heap->Prop)
 |exw (φ:XQ->Heap->Prop)
abbrev Hp:=M->I HO
def aR(H:Hp)(a:M)(o:HO):Hp:=λb=>if b=a then R o else H b
def ay:aR H a o a=R o:=by ext aR;rw[ax W]
def ar(h:b≠a):aR H a o b=H b:=by ext aR;rw[a4 h]
def Ta{H:Hp}{a b:M}{o u:HO}(h:H a=R o)(c:H b=R u)(d:o≠u):a≠b:=by intro e;subst e;rw[h]at c;show d (Xj c)
def bC{H:Hp}(h:H a=R o)(c:H b=P):a≠b:=by intro e;subst e;rw[h]at c;ext c
def ab5(h:Heap)(a:M)(b:Array J):Prop:=∃o,h.get? a=R o/\(o.cls=.type "tuple"/\∃n,o.data=.seq b n)/\o.dict=P
theorem ab5.tup(x:ab5 h a items):IsTup h a items:=let#[o,e,c,_]:=x;#[o,e,c]
theorem ab5.lt(x:ab5 h a items):a<h.objs.size:=let#[_,e,_]:=x;b4 e
theorem ab5.new(h:Heap)(xs:Array J):ab5 (h.push {cls:=.type "tuple",data:=.seq xs}) h.objs.size xs:=#[_,b5 _ W,#[W,_,W],W]
section
variable(P:Xu)(w:XQ)
def ObjOk(H:Hp)(h:Heap)(a:M):HO->Prop
 |.lst xs=>xs.length<=Xi/\∃(b:G J) (n:Nat),Vals xs b/\h.get? a=R {cls:=.type "list",data:=.seq b.toArray n}
 |.tup xs=>xs.length<=Xi/\∃b:G J,Vals xs b/\ab5 h a b.toArray
 |.dK l=>l.length<=Xi/\(a==Ys)=U/\∃r,KV l r/\h.DictOf (cC P w) a r
 |.dT l=>l.length<=Xi/\(a==Ys)=U/\∃xs:G (G cg×M×J),
   Paired (λ(p:G cg×V) (q:G cg×M×J)=>p.1=q.1/\H q.2.1=R (.tup (p.1.map kV))/\RelV p.2 q.2.2) l xs/\
   ∃o es B,h.get? a=R o/\o.ExactDict/\o.data=.dict es B/\es.toList=xs.map (entryOfKey (tupleKind (cC P w)))/\(xs.map (·.1)).Nodup
 |.set e n=>h.SetOf (intKind P w) a e n
 |.ins C m fs=>H m=R (.own a)/\fs.length<=1000/\m≠a/\h.get? a=R (Y2 C m)/\
   ∃i,h.Ns1 m i/\(∀f,aaa (fs.lookup f) (i f))/\ac6 i (fs.map (·.1))
 |.own _=>∃o,h.get? a=R o
 |.xd fs=>∃i,h.Ns1 a i/\∀f,aaa (fs.lookup f) (i f)
 |.rng lo A=>∃t u v,h.get? a=R {cls:=.type "range",data:=.fields #v[.int lo t,.int A u,.int 1 v]}
 |.frz o u=>h.get? a=R o/\ObjOk H h a u
 |.tbl y=>h.get? a=R {cls:=.none,data:=.fields y}
 |.met f x=>h.get? a=R (abq (.ref f) (.ref x))
 |.ext g=>g h/\(∃o,h.get? a=R o)/\∀h1 j:Heap,g h1->(∀o,h1.get? a=R o->j.get? a=R o)->g j
 |.exw g=>g w h/\(∃o,h.get? a=R o)/\∀h1 j:Heap,g w h1->(∀o,h1.get? a=R o->j.get? a=R o)->g w j
def HOk(H:Hp)(h:Heap):Prop:=∀a o,H a=R o->ObjOk P w H h a o
end
section
variable{P:Xu}{w:XQ}{H Z:Hp}{h h':Heap}{a:W7}{o:HO}
def ObjOk.lt(x:ObjOk P w H h a o):a<h.objs.size:=by
 cases o with
 |lst xs=>let(_,_,_,_,e):=x;show b4 e
 |tup xs=>let(_,_,_,p):=x;show p.lt
 |dK i=>let(_,_,_,_,o,_,_,e,_):=x;show b4 e
 |dT i=>let(_,_,_,_,o,_,_,e,_):=x;show b4 e
 |set S n=>let(o,_,_,_,e,_):=x;show b4 e
 |ins C m fs=>let(_,_,_,e,_):=x;show b4 e
 |own y=>let(_,e):=x;show b4 e
 |xd fs=>let(_,(_,_,_,e,_),_):=x;show b4 e
 |rng lo l=>let(_,_,_,e):=x;show b4 e
 |frz b u=>let(e,_):=x;show b4 e
 |tbl j=>show b4 (show h.get? a=R _ from x)
 |met f y=>show b4 (show h.get? a=R _ from x)
 |ext g=>let(_,(_,e),_):=x;show b4 e
 |exw g=>let(_,(_,e),_):=x;show b4 e
theorem Paired.Z4:∀{d:bg α} {c:bg β},Paired F d c->(∀a b,F a b->e a b)->Paired e d c
 |_,_,.nil,_=>.nil
 |_,_,.cons r t,f=>.cons (f _ _ r) (Paired.Z4 t f)
def ObjOk.aaO(x:ObjOk P w H h a o)(k:∀b u,(b=a\/H b=R (.own a))->h.get? b=R u->h'.get? b=R u)
  (F:∀b,H b=R (.own a)->Z b=R (.own a)) (E:∀b xs,H b=R (.tup xs)->Z b=R (.tup xs)):ObjOk P w Z h' a o:=by
 induction o with
 |lst xs=>let(z,A,n,r,e):=x;show#[z,A,n,r,k _ _ (.inl W) e]
 |tup xs=>let(z,A,r,g,e,c):=x;show#[z,A,r,g,k _ _ (.inl W) e,c]
 |dK O=>let(z,y,N,r,g,es,i,e,c):=x;show#[z,y,N,r,g,es,i,k _ _ (.inl W) e,c]
 |dT O=>let(z,y,xs,r,g,es,i,e,c):=x;show#[z,y,xs,Paired.Z4 r λp q z=>#[z.1,E _ _ z.2.1,z.2.2],g,es,i,k _ _ (.inl W) e,c]
 |set S n=>let(g,es,i,t,e,c):=x;show#[g,es,i,t,k _ _ (.inl W) e,c]
 |ins C T fs=>let(d,z,ne,e,m,(l,es,i,e2,c),r):=x;show#[F _ d,z,ne,k _ _ (.inl W) e,m,#[l,es,i,k _ _ (.inr d) e2,c],r]
 |own y=>let(g,e):=x;show#[g,k _ _ (.inl W) e]
 |xd fs=>let(m,(l,es,i,e,c),r):=x;show#[m,#[l,es,i,k _ _ (.inl W) e,c],r]
 |rng lo Q=>let(t,u,v,e):=x;show#[t,u,v,k _ _ (.inl W) e]
 |frz g u B=>let(e,q):=x;show#[k _ _ (.inl W) e,B q]
 |tbl K=>let e:h.get? a=R {cls:=.none,data:=.fields K}:=x;show h'.get? a=R {cls:=.none,data:=.fields K};show k a _ (.inl W) e
 |met f y=>let e:h.get? a=R (abq (.ref f) (.ref y)):=x;show h'.get? a=R (abq (.ref f) (.ref y));show k a _ (.inl W) e
 |ext L=>let(p,(o,e),j):=x;show#[j _ _ p λo q=>k _ _ (.inl W) q,#[o,k _ _ (.inl W) e],j]
 |exw L=>let(p,(o,e),j):=x;show#[j _ _ p λo q=>k _ _ (.inl W) q,#[o,k _ _ (.inl W) e],j]
theorem HOk.lt(x:HOk P w H h)(e:H a=R o):a<h.objs.size:=(x a o e).lt
def HOk.fresh(x:HOk P w H h)(e:h.objs.size<=a):H a=Ld:=by
 cases q:H a with
 |none=>rfl
 |some u=>show bb (Xz (x.lt q) e) (YJ _)
theorem HOk.kept(x:HOk P w H h)(k:∀b u,h.get? b=R u->h'.get? b=R u):HOk P w H h':=λa o e=>
 (x a o e).aaO (λb u _ q=>k b u q) (λ_ q=>q) λ_ _ q=>q
theorem HOk.laid(x:HOk P w H h)(k:∀b u,h.get? b=R u->h'.get? b=R u)(g:h.objs.size<=a)(new:ObjOk P w (aR H a o) h' a o):HOk P w (aR H a o) h':=λb u e=>by
 let i:=x.fresh g;by_cases f:b=a
 .subst f;rw[ay]at e;ext e;show new
 .rw[ar f]at e;show(x b u e).aaO (λc v _ q=>k c v q) (λc q=>by rw[ar (bC q i)];show q) λc xs q=>by rw[ar (bC q i)];show q
end
def Rd(H:Hp)(a:M)(u:HO):Prop:=H a=R u\/∃o,H a=R (.frz o u)
def Rd.ok(r:Rd H a u)(x:HOk b w H h):ObjOk b w H h a u:=by
 rcases r with r|⟨o,r⟩
 .show x a u r
 .let(_,q):=x a _ r;show q
def TV:I HO->Prop
 |some (.lst _)=>True
 |some (.dK _)=>True
 |some (.dT _)=>True
 |some (.set _ _)=>True
 |some (.ins _ _ _)=>True
 |some (.ext _)=>True
 |some (.exw _)=>True
 |_=>False
section
variable{P:Xu}{w:XQ}{H:Hp}{h h':Heap}{x e:W7}{Z:HO}
theorem HOk.write(ok:HOk P w H h)(g:TV (H x))(o:e=x\/H e=R (.own x))(k:∀b u,b≠e->h.get? b=R u->h'.get? b=R u)(l:∃u,h'.get? e=R u)
  (new:ObjOk P w (aR H x Z) h' x Z):HOk P w (aR H x Z) h':=λb u q=>by
 let f:∀c y,H c=R (.own y)->c≠x:=λc y r z=>by subst z;rw[r]at g;show g
 let m:∀c xs,H c=R (.tup xs)->c≠x:=λc xs r z=>by subst z;rw[r]at g;show g
 by_cases j:b=x
 .subst j;rw[ay]at q;ext q;show new
 .rw[ar j]at q
  by_cases a:b=e
  .let n:H b=R (.own x):=by
    rcases o with z|z
    .show bb (a.trans z) j
    .rw[a];show z
   rw[q]at n;ext n;let(v,p):=l;show#[v,by rw[a];show p]
  .show(ok b u q).aaO (λc v i r=>k c v ?_ r) (λc r=>by rw[ar (f c b r)];show r) λc xs r=>by rw[ar (m c xs r)];show r
   rcases i with rfl|i
   .show a
   .rintro rfl
    rcases o with z|z
    .show f c b i z
    .rw[i]at z;ext z;show j W
end
structure Un(fs ex:G M)(H H':Hp)(h h':Heap):Prop where
 keep:∀b o,h.get? b=R o->H b=P->b∉fs->b∉ex->h'.get? b=R o
 slot:∀b o,h.get? b=R o->H b=P->b∈fs->b∉ex->∃sl,h'.get? b=R {o with slots:=sl}
 free:∀b o,h.get? b=R o->H b=P->b∉ex->H' b=P
 there:∀b o,h.get? b=R o->b∉ex->∃o',h'.get? b=R o'
 ab4:∀b xs,H b=R (.tup xs)->H' b=R (.tup xs)
 abM:∀b o u,H b=R (.frz o u)->H' b=R (.frz o u)
 ab6:∀b ps,H b=R (.tbl ps)->∃more,H' b=R (.tbl (ps++more))
section
variable{fs X Z T:bg W7}{H Q O:Hp}{h Y N h':Heap}{a x e:W7}{o:HO}
def Un.any(u:Un fs Z H Q h Y)(q:h.get? b=R ob)(n:H b=P)(f:b∉Z):∃c,Y.get? b=R {ob with slots:=c}:=by
 by_cases g:b∈fs
 .show u.slot b ob q n g f
 .show#[ob.slots,u.keep b ob q n g f]
theorem Un.kept(k:∀b u,h.get? b=R u->h'.get? b=R u):Un fs Z H H h h':=
 #[λb f q _ _ _=>k b f q,λb f q _ _ _=>#[f.slots,k b f q],λ_ _ _ n _=>n,λb f q _=>#[f,k b f q],λ_ _ q=>q,λ_ _ _ q=>q,λ_ g q=>#[#v[],by rw[q];simp]]
theorem Un.refl:Un fs Z H H h h:=Un.kept λ_ _ q=>q
theorem Un.laid(k:∀b u,h.get? b=R u->h'.get? b=R u)(f:h.objs.size<=a)(c:H a=P):Un fs Z H (aR H a o) h h' where
 keep:=λb u q _ _ _=>k b u q
 slot:=λb u q _ _ _=>#[u.slots,k b u q]
 free:=λb u q n _=>by rw[ar (Xy (Xz (b4 q) f))];show n
 there:=λb u q _=>#[u,k b u q]
 ab4:=λb xs q=>by rw[ar (bC q c)];show q
 abM:=λb u xs q=>by rw[ar (bC q c)];show q
 ab6:=λb g q=>#[#v[],by rw[ar (bC q c),q];simp]
def Un.write(g:TV (H x))(p:e=x\/H e=R (.own x))(k:∀b u,b≠e->h.get? b=R u->h'.get? b=R u)(i:∃u,h'.get? e=R u):Un fs Z H (aR H x o) h h':=by
 let j:∀b,H b=P->b≠x:=λb n z=>by subst z;rw[n]at g;show g
 let l:∀b,H b=P->b≠e:=λb n z=>by
  subst z;rcases p with r|r
  .show j b n r
  .rw[n]at r;ext r
 let hm:∀b u,H b=R u->¬TV (R u)->b≠x:=λb u q m z=>by subst z;rw[q]at g;show m g
 show#[λb u q n _ _=>k b u (l b n) q,λb u q n _ _=>#[u.slots,k b u (l b n) q],λb u q n _=>by rw[ar (j b n)];show n,λb u q _=>?_,
  λb xs q=>by rw[ar (hm b _ q λz=>z)];show q,λb u xs q=>by rw[ar (hm b _ q λz=>z)];show q,λb t q=>#[#v[],by rw[ar (hm b _ q λz=>z),q];simp]]
 by_cases f:b=e
 .subst f;show i
 .show#[u,k b u f q]
end
def UA(h:Heap)(H:Hp):G M:=(Xn h.objs.size).filter λa=>(H a).isSome
def uG(h:Heap)(H:Hp):Heap:=PySem.W.hideAll h (UA h H)
theorem C5(h:Heap)(H:Hp):(uG h H).objs.size=h.objs.size:=PySem.W.hideAll_size _ _
theorem Gc(e:h.get? b=R o)(n:H b=P):(uG h H).get? b=R o:=
 PySem.W.hideAll_get _ e λhm=>by let q:=(YO.mp hm).2;rw[n]at q;simp at q
def LW(e:(uG h H).get? b=R o):h.get? b=R o/\H b=P:=by
 let a:=PySem.W.of_hideAll (UA h H) e;show#[a,?_];cases q:H b with
 |none=>rfl
 |some x=>let hm:b∈UA h H:=YO.mpr #[Zc.mpr (b4 a),by simp[q]];let z:(uG h H).get? b=P:=PySem.W.hideAll_none (UA h H) hm;rw[z]at e;ext e
structure Mod(K:CL)(mg:Str->I J)(base:Heap):Prop where
 kin:K.In base
 glob:base.Ns Xv mg
 blt:∃mb,base.Ns builtinsNs mb/\∀x:Str,x≠ "__name__"->mb x=X7 x
 nolimit:base.NoLimit
structure Cx where
 prog:Xu
 w:XQ
 K:CL
 mg:Str->I J
 base:Heap
 A:XJ
 N:G Str
 s₀:W9
 H₀:Hp
 env:Env
 outer:G Env
 stack:G Env
 ex:G M
 fn:Str->Bool
 calm:Bool
 pn:G (M×Obj)
 xe:J->W9->Prop
def xt(l:G Env):G M:=l.filterMap (·.frame)
abbrev Cx.fs(X:Cx):G M:=xt X.outer
def Sa(sc:Y9)(x:Str):Prop:=sc.names.lookup x=R .local\/sc.names.lookup x=R .cell\/sc.names.lookup x=R .free
def Qo(sc:Y9)(x:Str):Prop:=sc.names.lookup x=R .local\/sc.names.lookup x=R .cell
def Vs(env:Env)(h:Heap)(m:Str->I J)(x:Str)(u:J):Prop:=
 (env.kindOf x=R .local/\m x=R u)\/((env.kindOf x=R .cell\/env.kindOf x=R .free)/\∃c,env.cells.lookup x=R c/\h.IsCell c (R u))
structure Cx.Ok(X:Cx):Prop where
 mod:Mod X.K X.mg X.base
 kind:X.env.scope.kind=.function
 glob:X.env.globals=Xv
 blt:X.env.builtins=builtinsNs
 above:X.s₀.heap.objs.size<=X.env.locals
 inj:∀x y c,X.env.cells.lookup x=R c->X.env.cells.lookup y=R c->x=y
 has:∀x,(X.env.kindOf x=R .cell\/X.env.kindOf x=R .free)->∃c,X.env.cells.lookup x=R c
 cab:∀x c,X.fn x=S->X.env.cells.lookup x=R c->X.s₀.heap.objs.size<=c
 hd:X.calm=S->X.A.handled=P
 frames:X.A.frames=R X.stack
 stk:X.stack=X.outer\/(X.stack=X.env::X.outer/\X.env.frame=R X.env.locals)
 exf:∀b∈X.ex,b≠X.env.locals/\∀x c,X.env.cells.lookup x=R c->c≠b
 bs:∀b o,X.base.get? b=R o->X.s₀.heap.get? b=R o/\X.H₀ b=P
 bsz:X.base.objs.size<=X.s₀.heap.objs.size
 adu:∀b o,X.base.get? b=R o->b∉X.ex
 adj:∀b∈X.ex,b∉X.fs
 abm:X.s₀.heap.FunFrames X.base X.outer
 frf:∀b∈X.fs,X.H₀ b=P
structure Inv(X:Cx)(pins:G (M×Obj))(σ:G (I V))(H:Hp)(s:W9):Prop where
 ok:X.Ok
 os:s.os=X.s₀.os
 bare:AllBare s.gens
 base:Un X.fs X.ex X.H₀ H X.s₀.heap s.heap
 loc:∃m,s.heap.Ns X.env.locals m/\∀(i:Nat) (x:Str) (v:V),X.N[i]?=R x->σ[i]?=R (R v)->Sa X.env.scope x->∃u,RelV v u/\Vs X.env s.heap m x u
 cell:∀x c,X.env.cells.lookup x=R c->∃v,s.heap.IsCell c v
 free:H X.env.locals=P
 Z5:∀x c,X.env.cells.lookup x=R c->H c=P
 pin:∀p∈X.pn++pins,s.heap.get? p.1=R p.2/\H p.1=P/\p.1≠X.env.locals/\p.1∉X.fs/\∀v,p.2.data≠.cell v
 Yn:HOk X.prog X.w H s.heap
 len:σ.length=X.N.length
section
variable{X:Cx}{Z:bg (W7×Obj)}{Y:bg (bt V)}{H H':Hp}{s:W9}{h':Heap}
theorem Cx.Ok.al9(ok:X.Ok)(e:X.base.get? b=R o):b∉X.fs:=λa=>by let:=(ok.abm.mem a).1;rw[e]at this;ext this
theorem Inv.bs(I:Inv X Z Y H s):∀b o,X.base.get? b=R o->s.heap.get? b=R o/\H b=P:=λb o e=>
 #[I.base.keep b o (I.ok.bs b o e).1 (I.ok.bs b o e).2 (I.ok.al9 e) (I.ok.adu b o e),I.base.free b o (I.ok.bs b o e).1 (I.ok.bs b o e).2 (I.ok.adu b o e)]
theorem Inv.bk(I:Inv X Z Y H s):∀b o,X.base.get? b=R o->s.heap.get? b=R o:=λb o e=>(I.bs b o e).1
theorem Inv.mod(I:Inv X Z Y H s):Mod X.K X.mg X.base:=I.ok.mod
theorem Inv.kIn(I:Inv X Z Y H s):X.K.In s.heap:=I.ok.mod.kin.keeps I.bk
theorem Inv.lt(I:Inv X Z Y H s):X.env.locals<s.heap.objs.size:=let#[_,a,_]:=I.loc;a.lt
theorem Inv.sz(I:Inv X Z Y H s):X.s₀.heap.objs.size<=s.heap.objs.size:=XT I.ok.above (aaU I.lt)
theorem Inv.akz(I:Inv X Z Y H s)(h:s.heap.objs.size<=a):a∉X.fs:=λe=>by let(_,o,b,_):=I.ok.abm.mem e;show bb (Xz (b4 b) (XT I.sz h)) (YJ _)
theorem Inv.cne(I:Inv X Z Y H s):∀x c,X.env.cells.lookup x=R c->c≠X.env.locals:=λx c e z=>by let(v,o,f,g):=I.cell x c e;let(m,(h,es,i,a,b,_),_):=I.loc;rw[z,a]at f;ext f;rw[b]at g;ext g
def Inv.abm(I:Inv X Z Y H s):s.heap.FunFrames X.base X.outer:=by
 let all:∀(l:G Env),(∀b∈xt l,b∈X.fs)->X.s₀.heap.FunFrames X.base l->s.heap.FunFrames X.base l:=by
  intro l
  induction l with
  |nil=>intro _ _;trivial
  |cons t r i=>intro h n;let(p,(L,o,a,v,m,q),j):=n;let g:=h L (by ext xt;rw[abn,a];show W8);let(u,e):=I.base.slot L o m (I.ok.frf L g) g λz=>I.ok.adj L z g;show#[p,#[L,_,a,v,e,q],i (λb f=>h b (by ext xt;rw[abn,a];show Xb _ f)) j]
 show all X.outer (λ_ f=>f) I.ok.abm
def Inv.stack(I:Inv X Z Y H s):s.heap.FunFrames X.base X.stack:=by
 rcases I.ok.stk with e|⟨e,hf⟩
 .rw[e];show I.abm
 .rw[e];let(m,a,_):=I.loc;show .cons (by rw[I.ok.kind];decide) hf a ?_ I.abm;show ck (XT I.ok.bsz I.ok.above)
theorem Inv.abN(I:Inv X Z Y H s):∀b∈xt X.stack,b∈X.env.locals::X.fs:=λb a=>by
 rcases I.ok.stk with e|⟨e,hf⟩
 .rw[e]at a;show Xb _ a
 .rw[e]at a;unfold xt at a;rw[abn,hf]at a;show a
theorem Inv.acd(I:Inv X Z Y H s):∀b∈xt X.stack,H b=P:=λb a=>by
 rcases Xt.mp (I.abN b a)with e|a
 .rw[e];show I.free
 .let(_,o,f,_):=I.ok.abm.mem a;show I.base.free b o f (I.ok.frf b a) λz=>I.ok.adj b z a
def Inv.step{g':Array aba}{t':Nat}{d':aeG}{ch:bg W7}(I:Inv X Z Y H s)
  (g:∀b∈ch,(b∈X.ex\/X.s₀.heap.objs.size<=b)/\b≠X.env.locals/\(∀x c,X.env.cells.lookup x=R c->c≠b)/\∀p∈X.pn++Z,p.1≠b)
  (keep:∀b o,b≠X.env.locals->b∉X.fs->b∉ch->s.heap.get? b=R o->H b=P->h'.get? b=R o)
  (slot:∀b o,b≠X.env.locals->b∈X.fs->b∉ch->s.heap.get? b=R o->H b=P->∃O,h'.get? b=R {o with slots:=O}) (free:∀b o,b∉ch->s.heap.get? b=R o->H b=P->H' b=P)
  (there:∀b o,b∉ch->s.heap.get? b=R o->∃w,h'.get? b=R w)
  (ab4:∀b xs,H b=R (.tup xs)->H' b=R (.tup xs)) (Q:∀b o u,H b=R (.frz o u)->H' b=R (.frz o u)) (T:∀b D,H b=R (.tbl D)->∃more,H' b=R (.tbl (D++more)))
  (J:∀m,s.heap.Ns X.env.locals m->h'.Ns X.env.locals m) (Yn:HOk X.prog X.w H' h') (N:AllBare g'):
  Inv X Z Y H' {s with heap:=h',gens:=g',drawn:=d',toks:=t'}:=by
 let A:∀b o,X.s₀.heap.get? b=R o->b≠X.env.locals:=λb o e=>Xy (Xz (b4 e) I.ok.above);let j:∀b o,X.s₀.heap.get? b=R o->b∉X.ex->b∉ch:=λb o e a t=>by
  rcases(g b t).1 with z|z
  .show a z
  .show bb (Xz (b4 e) z) (YJ _)
 let h:∀x c,X.env.cells.lookup x=R c->∀v,s.heap.IsCell c v->h'.IsCell c v:=λx c e v #[o,y,C]=>by
  let f:c∉ch:=λz=>(g c z).2.2.1 x c e W;by_cases G:c∈X.fs
  .let(O,q):=slot c o (I.cne x c e) G f y (I.Z5 x c e);show#[_,q,C]
  .show#[o,keep c o (I.cne x c e) G f y (I.Z5 x c e),C]
 show#[I.ok,I.os,N,#[λb o e n t a=>?_,λb o e n t a=>?_,λb o e n a=>?_,λb o e a=>?_,λb xs e=>ab4 b xs (I.base.ab4 b xs e),λb o xs e=>Q b o xs (I.base.abM b o xs e),λb D e=>?_],?_,λx c e=>?_,?_,λx c e=>?_,λp F=>?_,Yn,I.len]
 .show keep b o (A b o e) t (j b o e a) (I.base.keep b o e n t a) (I.base.free b o e n a)
 .let(O,e1):=I.base.slot b o e n t a;let(B,e2):=slot b _ (A b o e) t (j b o e a) e1 (I.base.free b o e n a);show#[B,e2]
 .let(w,e1):=I.base.there b o e a;show free b w (j b o e a) e1 (I.base.free b o e n a)
 .let(w,e1):=I.base.there b o e a;show there b w (j b o e a) e1
 .let(L,e1):=I.base.ab6 b D e;let(K,e2):=T b _ e1;show#[L++K,by rw[e2,Array.append_assoc]]
 .let(m,hn,M):=I.loc
  show#[m,J m hn,λi x v e1 e2 e3=>?_];let(u,r,l):=M i x v e1 e2 e3;show#[u,r,?_];rcases l with l|⟨k,c,e,z⟩
  .show .inl l
  .show .inr #[k,c,e,h x c e _ z]
 .let(v,z):=I.cell x c e;show#[v,h x c e v z]
 .let(m,(o,_,_,y,_),_):=I.loc;show free _ o (λz=>(g _ z).2.1 W) y I.free
 .let(v,o,y,C):=I.cell x c e;show free c o (λz=>(g c z).2.2.1 x c e W) y (I.Z5 x c e)
 .let(e,n,ne,E,d):=I.pin p F;let f:p.1∉ch:=λz=>(g p.1 z).2.2.2 p F W;show#[keep p.1 p.2 ne E f e n,free p.1 p.2 f e n,ne,E,d]
def Inv.un{t':Nat}(I:Inv X Z Y H s)(u:Un X.fs [] H H' s.heap h')(Yn:HOk X.prog X.w H' h'):Inv X Z Y H' {s with heap:=h',toks:=t'}:=by let(m,(o,es,v,i,r),_):=id I.loc;let(p,l):=u.any i I.free (by simp);show I.step (g':=s.gens) (d':=s.drawn) (ch:=[]) (λ_ z=>nomatch z) (λb o _ f _ e n=>u.keep b o e n f (by simp)) (λb o _ f _ e n=>u.slot b o e n f (by simp)) (λb o _ e n=>u.free b o e n (by simp)) (λb o _ e=>u.there b o e (by simp)) u.ab4 u.abM u.ab6 (λt hm=>by let(q,g,h,a,j):=hm;rw[i]at a;ext a;show#[_,g,h,l,j]) Yn I.bare
def Inv.call{g':Array aba}{t':Nat}{d':aeG}{ch:G M}(I:Inv X Z Y H s)(u:Un (xt X.stack) ch H H' s.heap h')(Yn:HOk X.prog X.w H' h')(t:AllBare g')
  (g:∀b∈ch,(b∈X.ex\/X.s₀.heap.objs.size<=b)/\b≠X.env.locals/\(∀x c,X.env.cells.lookup x=R c->c≠b)/\∀p∈X.pn++Z,p.1≠b):
  Inv X Z Y H' {s with heap:=h',gens:=g',drawn:=d',toks:=t'}:=by
 let(m,(o,es,C,l,r),_):=id I.loc;let(y,h):=u.any l I.free λz=>(g _ z).2.1 W;show I.step (ch:=ch) g (λb o h v a e n=>u.keep b o e n (λz=>(Xt.mp (I.abN b z)).elim h v) a) (λb o _ _ a e n=>u.any e n a) (λb o a e n=>u.free b o e n a) (λb o a e=>u.there b o e a) u.ab4 u.abM u.ab6 (λB hm=>by let(A,i,j,f,q):=hm;rw[l]at f;ext f;show#[_,i,j,h,q]) Yn t
def Inv.turned{t':Nat}{a:M}(I:Inv X Z Y H s)(k:∀b o,b≠a->s.heap.get? b=R o->h'.get? b=R o)(d:H a=P)(h:a≠X.env.locals)
  (w:a∈X.ex\/X.s₀.heap.objs.size<=a) (t:∀x c,X.env.cells.lookup x=R c->c≠a) (l:∀p∈X.pn++Z,p.1≠a):Inv X Z Y H {s with heap:=h',toks:=t'}:=by
 let g:∀b u,H b=R u->b≠a:=λb u e z=>by rw[z,d]at e;ext e
 show I.step (g':=s.gens) (d':=s.drawn) (ch:=[a]) (λb j=>?_) (λb o _ _ f e _=>k b o (λz=>f (by simp[z])) e) (λb o _ _ f e _=>#[o.slots,k b o (λz=>f (by simp[z])) e]) (λ_ _ _ _ n=>n)
  (λb o f e=>#[o,k b o (λz=>f (by simp[z])) e]) (λ_ _ e=>e) (λ_ _ _ e=>e) (λb A e=>#[#v[],by rw[e];simp]) (λm hm=>?_) (λb u e=>?_) I.bare
 .let e:b=a:=by simpa using j
  subst e;show#[w,h,t,l]
 .let(o,es,y,i,r):=hm;show#[o,es,y,k _ o (c9 h) i,r]
 .show(I.Yn b u e).aaO (λc v f q=>k c v ?_ q) (λ_ q=>q) λ_ _ q=>q
  rcases f with z|z
  .rw[z];show g b u e
  .show g c _ z
theorem Inv.tok(I:Inv X Z Y H s)(t:Nat):Inv X Z Y H {s with toks:=t}:=I.un Un.refl I.Yn
theorem Inv.kept{t':Nat}(I:Inv X Z Y H s)(k:∀b u,s.heap.get? b=R u->h'.get? b=R u):Inv X Z Y H {s with heap:=h',toks:=t'}:=I.un (Un.kept k) (I.Yn.kept k)
theorem Inv.laid{a:M}{o:HO}{t':Nat}(I:Inv X Z Y H s)(k:∀b u,s.heap.get? b=R u->h'.get? b=R u)(e:s.heap.objs.size<=a)(new:ObjOk X.prog X.w (aR H a o) h' a o):
  Inv X Z Y (aR H a o) {s with heap:=h',toks:=t'}:=I.un (Un.laid k e (I.Yn.fresh e)) (I.Yn.laid k e new)
theorem Inv.write{x e:M}{o:HO}{t':Nat}(I:Inv X Z Y H s)(f:TV (H x))(g:e=x\/H e=R (.own x))(k:∀b u,b≠e->s.heap.get? b=R u->h'.get? b=R u)(a:∃u,h'.get? e=R u)
  (new:ObjOk X.prog X.w (aR H x o) h' x o):Inv X Z Y (aR H x o) {s with heap:=h',toks:=t'}:=I.un (Un.write f g k a) (I.Yn.write f g k a new)
theorem Inv.acX(I:Inv X Z Y H s)(h:∀p∈aic,s.heap.get? p.1=R p.2/\H p.1=P/\p.1≠X.env.locals/\p.1∉X.fs/\∀v,p.2.data≠.cell v):Inv X aic Y H s:=
 #[I.ok,I.os,I.bare,I.base,I.loc,I.cell,I.free,I.Z5,λp a=>(X0.mp a).elim (λz=>I.pin p (Yd _ z)) (h p),I.Yn,I.len]
def rO{N:G Str}(e:N.Nodup){i j:Nat}(a:N[i]?=R x)(b:N[j]?=R x):i=j:=by let(g,e1):=W2.mp a;let(f,e2):=W2.mp b;show(List.getElem_inj e).mp (e1.trans e2.symm)
def sS{M:adF}{A:XJ}{E:J->W9->Prop}{i:Nat}{x:Str}{v:V}{u:J}{Q:Unit->W9->Prop}(I:Inv X Z Y H s)(hN:X.N.Nodup)(D:X.N[i]?=R x)(l:Qo X.env.scope x)(r:RelV v u)
  (h:∀F,Inv X Z (Y.set i (R v)) H F->(∃a,Heap.SameBut a s.heap F.heap/\(a=X.env.locals\/X.env.cells.lookup x=R a))->Q ⟨⟩ F) (hf:X.fn x=S\/X.env.scope.names.lookup x=R .local:=by first|show .inl W|show .inr W|assumption):wpAny M A (storeName X.env x u) Q E s:=by
 let(m,hn,hl):=id I.loc;let agY:(X.env.scope.kind==.class||(X.env.scope.kind==.module&&X.env.locals !=X.env.globals))=U:=by rw[I.ok.kind];rfl
 let w:i<Y.length:=by rw[I.len];show(W2.mp D).1
 let cne:=I.cne;let tracked:∀{a:W7} {h':Heap},(∃o,s.heap.get? a=R o/\H a=P)->Heap.SameBut a s.heap h'->HOk X.prog X.w H h':=λ{a h'} ha f b ob e=>by
  let(_,_,N):=ha;show(I.Yn b ob e).aaO (λc O g q=>(f.2 c ?_).trans q) (λ_ q=>q) λ_ _ q=>q;rintro rfl;rcases g with rfl|g
  .rw[N]at e;ext e
  .rw[N]at g;ext g
 rcases l with t|t
 .show wpAny_storeName_local t hn (λh' hn' f=>?_) agY
  let(oL,_,_,hoL,_):=id hn;show h _ #[I.ok,I.os,I.bare,#[λb o e n C l=>?_,λb o e n C l=>?_,I.base.free,λb o e l=>?_,I.base.ab4,I.base.abM,I.base.ab6],#[_,hn',λj y v' e1 e2 e3=>?_],λy c e=>?_,I.free,I.Z5,λp hp=>?_,tracked #[oL,hoL,I.free] f,by simpa using I.len] #[_,f,.inl W]
  .show(f.2 b (Xy (Xz (b4 e) I.ok.above))).trans (I.base.keep b o e n C l)
  .let(sl,e1):=I.base.slot b o e n C l;show#[sl,(f.2 b (Xy (Xz (b4 e) I.ok.above))).trans e1]
  .let(o',e1):=I.base.there b o e l;show#[o',(f.2 b (Xy (Xz (b4 e) I.ok.above))).trans e1]
  .by_cases hj:j=i
   .subst hj;rw[D]at e1;ext e1;rw[Ye w]at e2;ext e2;show#[u,r,.inl #[t,by simp]]
   .rw[XD (c9 hj)]at e2
    let(u',r',q):=hl j y v' e1 e2 e3;show#[u',r',?_];rcases q with⟨k,e⟩|⟨k,c,e,z⟩
    .show .inl #[k,?_];let:y≠x:=λe=>hj (rO hN e1 (e▸D));simp[this,e]
    .show .inr #[k,c,e,z.sameBut f (cne y c e)]
  .let(O,z):=I.cell y c e;show#[O,z.sameBut f (cne y c e)]
  .let(e,n,ne,nf,d):=I.pin p hp;show#[(f.2 p.1 ne).trans e,n,ne,nf,d]
 .let B:X.fn x=S:=by
   rcases hf with z|z
   .show z
   .rw[z]at t;ext t
  let(c,g):=I.ok.has x (.inl t);let(O,z):=I.cell x c g;show wpAny_storeName_cell I.ok.kind t g z (λh' L f=>?_);let(oc,K,ale):=id z;show h {s with heap:=h'} #[I.ok,I.os,I.bare,#[λb o e n C l=>?_,λb o e n C l=>?_,I.base.free,λb o e l=>?_,I.base.ab4,I.base.abM,I.base.ab6],#[m,hn.sameBut f (c9 (cne x c g)),λj y v' e1 e2 e3=>?_],λy T e=>?_,I.free,I.Z5,λp hp=>?_,tracked #[oc,K,I.Z5 x c g] f,by simpa using I.len] #[c,f,.inr g]
  .show(f.2 b (Xy (Xz (b4 e) (I.ok.cab x c B g)))).trans (I.base.keep b o e n C l)
  .let(sl,e1):=I.base.slot b o e n C l;show#[sl,(f.2 b (Xy (Xz (b4 e) (I.ok.cab x c B g)))).trans e1]
  .let(o',e1):=I.base.there b o e l;show#[o',(f.2 b (Xy (Xz (b4 e) (I.ok.cab x c B g)))).trans e1]
  .by_cases hj:j=i
   .subst hj;rw[D]at e1;ext e1;rw[Ye w]at e2;ext e2;show#[u,r,.inr #[.inl t,c,g,L]]
   .rw[XD (c9 hj)]at e2
    let(u',r',q):=hl j y v' e1 e2 e3;show#[u',r',?_];rcases q with q|⟨k,T,e,z'⟩
    .show .inl q
    .show .inr #[k,T,e,z'.sameBut f ?_];rintro rfl;show hj (rO hN e1 (I.ok.inj _ _ _ e g▸D))
  .by_cases hcc:T=c
   .subst hcc;show#[_,L]
   .let(w2,z2):=I.cell y T e;show#[w2,z2.sameBut f hcc]
  .let(e,n,ne,nf,d):=I.pin p hp;show#[(f.2 p.1 ?_).trans e,n,ne,nf,d];intro q;rw[q,K]at e;let q':oc=p.2:=Xj e;show d O (by rw[<-q'];show ale)
theorem mw{i:Nat}{v:V}{u:J}{Q:Unit->W9->Prop}(I:Inv X Z Y H s)(e:X.N.Nodup)(d:X.N[i]?=R x)(c:Qo X.env.scope x)(r:RelV v u)
  (h:∀b,Inv X Z (Y.set i (R v)) H b->Q ⟨⟩ b) (hf:X.fn x=S\/X.env.scope.names.lookup x=R .local:=by first|show .inl W|show .inr W|assumption):wpAny a A (storeName X.env x u) Q E s:=
 sS I e d c r (λb f _=>h b f) hf
def Inv.afi{a:W9}{ch:G M}(I:Inv X Z Y H s)(h:a.os=s.os)(u:Un (xt X.stack) ch H H' s.heap a.heap)(Yn:HOk X.prog X.w H' a.heap)(i:AllBare a.gens)
  (f:∀b∈ch,(b∈X.ex\/X.s₀.heap.objs.size<=b)/\b≠X.env.locals/\(∀x c,X.env.cells.lookup x=R c->c≠b)/\∀p∈X.pn++Z,p.1≠b):Inv X Z Y H' a:=by
 let(h',l,m,j,g):=a;let e:g=s.os:=h;subst e;show I.call (g':=l) (t':=j) (d':=m) u Yn i f
end
abbrev XK:=J->I M->Hp->Prop
abbrev St:=G (I V)
abbrev VK:=V->Hp->Prop
abbrev TE:=St->Hp->VK->Prop
abbrev TT:=St->Hp->(Bool->Hp->Prop)->Prop
abbrev TA:=St->Hp->(G V->Hp->Prop)->Prop
structure Ends where
 nx:St->Hp->Prop
 rt:VK
 bk:St->Hp->Prop:=λ_ _=>False
 ct:St->Hp->Prop:=λ_ _=>False
abbrev TS:=Ends->St->Hp->Prop
def EP(X:Cx)(a:G (M×Obj))(b:St)(Q:VK)(u:J)(e:W9):Prop:=∃v f,Inv X a b f e/\RelV v u/\Q v f
def TP(X:Cx)(a:G (M×Obj))(e:St)(Q:Bool->Hp->Prop)(b:Bool)(f:W9):Prop:=∃g,Inv X a e g f/\Q b g
def AP(X:Cx)(a:G (M×Obj))(b:St)(Q:G V->Hp->Prop)(us:G J)(e:W9):Prop:=∃f g,Inv X a b g e/\Vals f us/\Q f g
def SP(X:Cx)(a:G (M×Obj))(D:Ends)(f:Flow)(b:W9):Prop:=
 match f with
 |.next=>∃e g,Inv X a e g b/\D.nx e g
 |.brk=>∃e g,Inv X a e g b/\D.bk e g
 |.cont=>∃e g,Inv X a e g b/\D.ct e g
 |.ret u=>∃v e g,Inv X a e g b/\RelV v u/\D.rt v g
def PE(X:Cx)(e:Xx)(t:TE):Prop:=
 ∀(a:G (M×Obj)) (s:W9) (b:St) (H:Hp) (Q:VK),Inv X a b H s->t b H Q->wpAny (model X.prog X.w) X.A (eval e X.env) (EP X a b Q) X.xe s
def PT(X:Cx)(e:Xx)(t:TT):Prop:=
 ∀(a:G (M×Obj)) (s:W9) (b:St) (H:Hp) (Q:Bool->Hp->Prop),Inv X a b H s->t b H Q->wpAny (model X.prog X.w) X.A (isTrue e X.env (eval e X.env)) (TP X a b Q) X.xe s
def PW(X:Cx)(e:Xx)(t:TT):Prop:=
 ∀(b:Sem J) (a:G (M×Obj)) (s:W9) (f:St) (H:Hp) (Q:Bool->Hp->Prop),Inv X a f H s->t f H Q->wpAny (model X.prog X.w) X.A (isTrue e X.env b) (TP X a f Q) X.xe s
theorem PW.pt(h:PW X e t):PT X e t:=h _
def PA(X:Cx)(es:G Xx)(t:TA):Prop:=
 ∀(e:Pos) (a:G (M×Obj)) (s:W9) (b:St) (H:Hp) (Q:G V->Hp->Prop),Inv X a b H s->t b H Q->wpAny (model X.prog X.w) X.A (spliced (backTo e (Xr es X.env))) (AP X a b Q) X.xe s
def PS(X:Cx)(st:YL)(t:TS):Prop:=
 ∀(a:G (M×Obj)) (s:W9) (b:St) (H:Hp) (D:Ends),Inv X a b H s->t D b H->wpAny (model X.prog X.w) X.A (exec st X.env) (SP X a D) X.xe s
def PSs(X:Cx)(st:G YL)(t:TS):Prop:=
 ∀(a:G (M×Obj)) (s:W9) (b:St) (H:Hp) (D:Ends),Inv X a b H s->t D b H->wpAny (model X.prog X.w) X.A (execs st X.env) (SP X a D) X.xe s
theorem bU{α:Type}{t:Sem α}{Q b:α->W9->Prop}{M:adF}{A:XJ}{E:J->W9->Prop}{s:W9}(h:wpAny M A t Q E s)(e:∀a s,Q a s->b a s):wpAny M A t b E s:=wpAny_mono h e λ_ _ x=>x
section
variable{X:Cx}
def nA(i:Nat):TE:=λa H Q=>∃v,a[i]?=R (R v)/\Q v H
def tC(v:V):TE:=λ_ H Q=>Q v H
def Iy(t:X.N[i]?=R x)(p:Sa X.env.scope x)(hd:(x==("__debug__":Str))=U:=by decide)(j:(x==("__classdict__":Str))=U:=by decide):PE X (.Name x pos) (nA i):=by
 intro f s o H Q I h;let(v,e,h):=h;let(m,w,q):=I.loc;let(u,r,l):=q i x v t e p;let b:EP X f o Q u s:=#[v,H,I,r,h];rcases l with⟨a,hm⟩|⟨a,c,n,g⟩
 .show agw (afJ I.ok.kind a w hm b) hd
 .rcases a with a|a
  .show agw (aga I.ok.kind a n g b) hd
  .show agw (wpAny_loadName_free I.ok.kind a n g b j) hd
theorem Qu{i j pos}:PE X (.Constant (.int i) j pos) (tC (.int i)):=λ_ _ _ H _ I h=>agx #[.int i,H,I.tok _,#[_,W],h]
theorem Sl{b j pos}:PE X (.Constant (.bool b) j pos) (tC (.bl b)):=λ_ _ _ H _ I h=>Constant_bool #[.bl b,H,I,W,h]
theorem zr{j pos}:PE X (.Constant .none j pos) (tC .Zk):=λ_ _ _ H _ I h=>Constant_none #[.Zk,H,I,W,h]
theorem Hh{x j pos}:PE X (.Constant (.str x) j pos) (tC (.str x)):=λ_ _ _ H _ I h=>Calls.Constant_str #[.str x,H,I.tok _,#[_,W],h]
def Gl(X:Cx)(x:Str):Prop:=X.env.kindOf x=R .globalImplicit
theorem i9(I:Inv X pins σ H s)(a:Gl X x)(hm:X.mg x=R u)(h:Q u s)
  (hd:(x==("__debug__":Str))=U:=by decide):wpAny (model X.prog X.w) X.A (eval (.Name x pos) X.env) Q E s:=
 Calls.Name_function_global I.ok.kind a (Calls.loadGlobal_global (by rw[I.ok.glob];show I.mod.glob.keeps I.bk) hm h) hd
def og(I:Inv X pins σ H s)(b:Gl X x)(hm:X.mg x=P)(a:X7 x=R u)(h:Q u s)
  (c:x≠ "__name__":=by decide) (hd:(x==("__debug__":Str))=U:=by decide):wpAny (model X.prog X.w) X.A (eval (.Name x pos) X.env) Q E s:=by
 let(g,f,e):=I.mod.blt;show Calls.Name_function_global I.ok.kind b (Calls.loadGlobal_builtin (by rw[I.ok.glob];show I.mod.glob.keeps I.bk) hm (by rw[I.ok.blt];show f.keeps I.bk) ((e x c).trans a) h) hd
theorem KM{x:Str}{v:V}{u:J}{a:Pos}(b:Gl X x)(hm:X.mg x=R u)(r:RelV v u)(hd:(x==("__debug__":Str))=U:=by decide):PE X (.Name x a) (tC v):=
 λ_ _ _ H _ I h=>i9 I b hm #[v,H,I,r,h] hd
theorem zH(b:Gl X x)(hm:X.mg x=P)(a:X7 x=R u)(r:RelV v u)(c:x≠ "__name__":=by decide)(hd:(x==("__debug__":Str))=U:=by decide):PE X (.Name x pos) (tC v):=
 λ_ _ _ H _ I h=>og I b hm a #[v,H,I,r,h] c hd
variable{a b:Xx}{Z N:TE}{O:Pos}
def PC(X:Cx)(op:aeH)(a b:Xx)(t:TE):Prop:=
 ∀(e:G (M×Obj)) (s:W9) (h:St) (H:Hp) (Q:VK),Inv X e h H s->t h H Q->
  wpAny (model X.prog X.w) X.A (eval a X.env) (λv g=>wpAny (model X.prog X.w) X.A (eval b X.env) (λu f=>wpAny (model X.prog X.w) X.A (YM op v u) (EP X e h Q) X.xe f) X.xe g) X.xe s
def tB(t:TE):TT:=λe H Q=>t e H λx f=>∃c,x=.bl c/\Q c f
theorem yT(h:PC X op a b t)(i:behindInMarks op b=U:=by first|show o _ () ()|rfl):PE X (.Compare a [op] [b] O) t:=λe s f H Q I g=>aj9 (h e s f H Q I g) i
def zi(h:PC X op a b t)(f:behindInMarks op b=U:=by first|show C _ () ()|rfl):PT X (.Compare a [op] [b] O) (tB t):=by intro e s g H Q I l;show aft (bU (h e s g H _ I l) λv w f=>bU f λu r m=>bU m λc p #[x,o,n,i,j]=>?_) f;let(d,rfl,q):=j;ext i;show ZC #[o,n,q]
def Ox{e:Xx}{t:TE}(h:PE X e t)(m:∀whole,isTrue e X.env whole=(do let v<-whole;standAt e.pos;holding [v] (truthy v)):=by intro _;rfl):PT X e (tB t):=by intro f s g H Q I l;show isTrue_plain (bU (h f s g H _ I l) λv p #[x,o,n,i,j]=>?_) (m _);let(d,rfl,q):=j;ext i;show ZC #[o,n,q]
variable{U T:TT}{Y:bg Xx}
def Pd(t u:TT):TT:=λe H Q=>t e H λc f=>if c=S then u e f Q else Q W3 f
def V6(t u:TT):TT:=λe H Q=>t e H λc f=>if c=S then Q S f else u e f Q
def Kl(t:TT):TT:=λe H Q=>t e H λc f=>Q (!c) f
def A8(d:PT X a U):PW X (.BoolOp .And [a] O) U:=by
 intro i f s g H Q I h;show isTrue_and (bU (d f s g H Q I h) λc j e=>?_);cases c with
 |true=>show isTrue_and_nil e
 |false=>show e
def PK(d:PT X a U):PW X (.BoolOp .Or [a] O) U:=by
 intro i f s g H Q I h;show isTrue_or (bU (d f s g H Q I h) λc j e=>?_);cases c with
 |false=>show isTrue_or_nil e
 |true=>show e
def Hs(d:PT X a U)(n:PW X (.BoolOp .And (b::Y) O) T):PW X (.BoolOp .And (a::b::Y) O) (Pd U T):=by
 intro l e s f H Q I h;show isTrue_and (bU (d e s f H _ I h) λc m #[j,i,g]=>?_);cases c with
 |true=>show n l e m f j Q i g
 |false=>show#[j,i,g]
def T1(d:PT X a U)(n:PW X (.BoolOp .Or (b::Y) O) T):PW X (.BoolOp .Or (a::b::Y) O) (V6 U T):=by
 intro l e s f H Q I h;show isTrue_or (bU (d e s f H _ I h) λc m #[j,i,g]=>?_);cases c with
 |true=>show#[j,i,g]
 |false=>show n l e m f j Q i g
def QO(d:PT X a U):PT X (.UnaryOp .Not a O) (Kl U):=by intro e s f H Q I h;show isTrue_not (d e s f H (λc g=>Q (!c) g) I h)
def NV(Z N:TE):TE:=λe H Q=>Z e H λx f=>∃c,x=.bl c/\if c=S then N e f Q else Q (.bl W3) f
theorem Pk{op}(h:PE X a t):PE X (.BoolOp op [a] O) t:=λe s f H Q I g=>BoolOp_one (h e s f H Q I g)
def Rc(d:PE X a Z)(n:PE X (.BoolOp .And (b::Y) O) N):PE X (.BoolOp .And (a::b::Y) O) (NV Z N):=by
 intro e s g H Q I h;show BoolOp_and (bU (d e s g H _ I h) λv l #[x,j,i,m,f]=>?_);let(c,rfl,f):=f;ext m;show ZC ?_;cases c with
 |true=>show n e l g j Q i f
 |false=>show#[.bl W3,j,i,W,f]
def SE(t:TT)(Z N:TE):TE:=λe H Q=>t e H λc f=>if c=S then Z e f Q else N e f Q
def F6(m:PT X c U)(k:PE X a Z)(n:PE X b N):PE X (.IfExp c a b O) (SE U Z N):=by
 intro e s f H Q I h;show wpAny_IfExp (bU (m e s f H _ I h) λd g #[l,j,i]=>?_);cases d with
 |true=>show k e g f l Q j i
 |false=>show n e g f l Q j i
end
def SqL(K:CL)(H:Hp)(a:M)(xs:G V):Prop:=
 Rd H a (.lst xs)\/
  ∃(o:Obj) (b:Array J) (n:Nat),K.lookup a=R o/\o.cls=.type "list"/\o.dict=P/\o.data=.seq b n/\b.size<=Xi/\Vals xs b.toList
def SqT(K:CL)(H:Hp)(a:M)(xs:G V):Prop:=
 Rd H a (.tup xs)\/
  ∃(o:Obj) (b:Array J) (n:Nat),K.lookup a=R o/\(o.cls=.type "tuple"/\o.dict=P)/\o.data=.seq b n/\b.size<=Xi/\Vals xs b.toList
def Vf:J->I V
 |.none=>R .Zk
 |.bool b=>R (.bl b)
 |.int i _=>R (.int i)
 |.str x _=>R (.str x)
 |.bytes b _=>R (.byt b)
 |.float b _=>R (.flt b)
 |.ref a=>R (.ref a)
 |.type n=>R (.ty n)
 |_=>P
def RelV.abs(r:RelV x u):Vf u=R x:=by
 cases x with
 |Zk=>ext r;rfl
 |bl _=>ext r;rfl
 |int _=>let(t,rfl):=r;rfl
 |str _=>let(t,rfl):=r;rfl
 |byt _=>let(t,rfl):=r;rfl
 |flt _=>let(t,rfl):=r;rfl
 |ref _=>ext r;rfl
 |ty _=>ext r;rfl
theorem RelV.inj(r:RelV x u)(q:RelV y u):x=y:=Xj (r.abs.symm.trans q.abs)
theorem Vals.inj:∀{xs ys:G V} {us:G J},Vals xs us->Vals ys us->xs=ys
 |_,_,_,.nil,.nil=>rfl
 |_,_,_,.cons r t,.cons b a=>by rw[r.inj b,Vals.inj t a]
section
variable{X:Cx}{Z:bg (W7×Obj)}{Y:St}{H:Hp}{s:W9}{a:W7}{T Q:bg V}
theorem SqL.of{K:CL}(h:H a=R (.lst T)):SqL K H a T:=.inl (.inl h)
theorem SqT.of{K:CL}(h:H a=R (.tup T)):SqT K H a T:=.inl (.inl h)
def Inv.list(I:Inv X Z Y H s)(h:SqL X.K H a T):∃b:G J,Vals T b/\PlainL s.heap a b.toArray/\T.length<=Xi:=by
 rcases h with h|⟨o,b,n,g,i,hd,f,j,r⟩
 .let(z,b,n,r,e):=h.ok I.Yn;show#[b,r,#[_,n,e,W,W,W],z]
 .show#[b.toList,r,#[o,n,I.kIn a o g,i,hd,by simpa using f],?_];let e:=r.length;simp only[Yf]at e;ext
def Inv.tuple(I:Inv X Z Y H s)(h:SqT X.K H a T):∃b:G J,Vals T b/\IsTup s.heap a b.toArray/\T.length<=Xi:=by
 rcases h with h|⟨o,b,n,g,i,f,j,r⟩
 .let(z,b,r,p):=h.ok I.Yn;show#[b,r,p.tup,z]
 .show#[b.toList,r,#[o,I.kIn a o g,i.1,n,by simpa using f],?_];let e:=r.length;simp only[Yf]at e;ext
def Inv.agQ(I:Inv X Z Y H s)(h:SqT X.K H a T):∃b:G J,Vals T b/\ab5 s.heap a b.toArray/\T.length<=Xi:=by
 rcases h with h|⟨o,b,n,i,f,g,j,r⟩
 .let(z,b,r,p):=h.ok I.Yn;show#[b,r,p,z]
 .show#[b.toList,r,#[o,I.kIn a o i,#[f.1,n,by simpa using g],f.2],?_];let e:=r.length;simp only[Yf]at e;ext
def Inv.afn(I:Inv X Z Y H s)(h:SqL X.K H a T)(c:SqL X.K H a Q):T=Q:=by
 let(j,r,(o,n,e,_,_,d),_):=I.list h;let(b,i,(l,m,f,_,_,g),_):=I.list c;rw[e]at f;ext f;rw[d]at g;injection g with d1 _;let:j=b:=by simpa using dw agy d1
 subst this;show r.inj i
def Inv.aeE(I:Inv X Z Y H s)(h:SqT X.K H a T)(c:SqT X.K H a Q):T=Q:=by
 let(j,r,(o,e,_,n,d),_):=I.tuple h;let(b,i,(l,f,_,m,g),_):=I.tuple c;rw[e]at f;ext f;rw[d]at g;injection g with d1 _;let:j=b:=by simpa using dw agy d1
 subst this;show r.inj i
end
abbrev Cx.abc(X:Cx)(E:J->W9->Prop):Cx:={X with xe:=E}
abbrev Cx.nox(X:Cx):Cx:=X.abc λ_ _=>False
theorem Cx.Ok.abc{X:Cx}(ok:X.Ok)(E:J->W9->Prop):(X.abc E).Ok:=
 #[ok.mod,ok.kind,ok.glob,ok.blt,ok.above,ok.inj,ok.has,ok.cab,ok.hd,ok.frames,ok.stk,ok.exf,ok.bs,ok.bsz,ok.adu,ok.adj,ok.abm,ok.frf]
theorem Cx.Ok.aah{X:Cx}(ok:(X.abc E).Ok):X.Ok:=
 #[ok.mod,ok.kind,ok.glob,ok.blt,ok.above,ok.inj,ok.has,ok.cab,ok.hd,ok.frames,ok.stk,ok.exf,ok.bs,ok.bsz,ok.adu,ok.adj,ok.abm,ok.frf]
section
variable{X:Cx}{Z:bg (W7×Obj)}{Y:St}{H:Hp}{s:W9}{E:WY->W9->Prop}
theorem Inv.abc(I:Inv X Z Y H s)(E:J->W9->Prop):Inv (X.abc E) Z Y H s:=#[I.ok.abc E,I.os,I.bare,I.base,I.loc,I.cell,I.free,I.Z5,I.pin,I.Yn,I.len]
theorem Inv.aah(I:Inv (X.abc E) Z Y H s):Inv X Z Y H s:=#[I.ok.aah,I.os,I.bare,I.base,I.loc,I.cell,I.free,I.Z5,I.pin,I.Yn,I.len]
def SP.aah(h:SP (X.abc E) Z D f s'):SP X Z D f s':=by
 cases f with
 |next=>let(a,b,I,q):=h;show#[a,b,I.aah,q]
 |brk=>let(a,b,I,q):=h;show#[a,b,I.aah,q]
 |cont=>let(a,b,I,q):=h;show#[a,b,I.aah,q]
 |ret u=>let(v,a,b,I,r,q):=h;show#[v,a,b,I.aah,r,q]
theorem PSs.nox{st:G YL}(h:PSs X.nox st t):PSs X st t:=λZ s Y H D I a=>
 wpAny_mono (h Z s Y H D (I.abc _) a) (λ_ _ q=>q.aah) λ_ _ z=>False.elim z
end
section
variable{X:Cx}{Q:YL}{Z:bg YL}{t u:TS}{e:Xx}{T:TE}{Y:Pos}
def GP:TS:=λD a H=>D.nx a H
def GD(t u:TS):TS:=λD a H=>t {D with nx:=u D} a H
theorem Bm:PSs X [] GP:=λ_ _ a H _ I h=>aar #[a,H,I,h]
def w9(l:PS X Q t)(j:PSs X Z u):PSs X (Q::Z) (GD t u):=by
 intro a s g H D I h;show ahP (bU (l a s g H {D with nx:=u D} I h) λf i q=>?_);cases f with
 |next=>let(b,n,m,q):=q;show j a i b n D m q
 |ret v=>show q
 |brk=>show q
 |cont=>show q
def lW(g:PS X Q t):PSs X [Q] t:=by
 intro a s b H D I h;show ahP (bU (g a s b H D I h) λf i q=>?_);cases f with
 |next=>show aar q
 |ret v=>show q
 |brk=>show q
 |cont=>show q
def Inv.quiet{a:G (M×Obj)}{b:St}{H:Hp}{s:W9}(I:Inv X a b H s):interactive X.env=U:=by simp[interactive,I.ok.kind]
def xH(T:TE):TS:=λD a H=>T a H λ_ b=>D.nx a b
def zL(i:PE X e T)(g:Zy e P Y.line X.env=pure U:=by rfl):PS X (.Expr e Y) (xH T):=by intro a s b H D I h;show wpAny_Expr_any (bU (i a s b H _ I h) λv m #[x,l,j,n,f]=>#[b,l,j,f]) I.quiet g
def Cf(T:TE):TS:=λD a H=>T a H D.rt
def yQ(i:PE X e T):PS X (.Return (R e) Y) (Cf T):=by intro a s b H D I h;show wpAny_Return_some (bU (i a s b H _ I h) λv m #[x,l,j,f,g]=>#[x,b,l,j,f,g])
def Nc:TS:=λD _ H=>D.rt .Zk H
theorem J6:PS X (.Return P Y) Nc:=λ_ _ a H _ I h=>wpAny_Return_none #[.Zk,a,H,I,W,h]
def L5(c:TT)(t u:TS):TS:=λD a H=>c a H λb f=>if b=S then t D a f else u D a f
def Tc(n:PT X c C)(k:PSs X a t)(o:PSs X b u):PS X (.If c a b Y) (L5 C t u):=by
 intro f s g H D I h;show wpAny_If (bU (n f s g H _ I h) λd i #[m,l,j]=>?_);cases d with
 |true=>show k f i g m D l j
 |false=>show o f i g m D l j
end
abbrev TG:=V->St->Hp->(St->Hp->Prop)->Prop
abbrev yy:=G V->St->Hp->(St->Hp->Prop)->Prop
def PG(X:Cx)(a:Xx)(t:TG):Prop:=
 ∀(b:G (M×Obj)) (s:W9) (e:St) (H:Hp) (v:V) (u:J) (Q:St->Hp->Prop),Inv X b e H s->RelV v u->t v e H Q->
  wpAny (model X.prog X.w) X.A (assign a X.env u) (λ_ f=>∃g h,Inv X b g h f/\Q g h) X.xe s
def TN(X:Cx)(f:G Xx)(t:yy):Prop:=
 ∀(a:G (M×Obj)) (s:W9) (b:St) (H:Hp) (i:G V) (e:G J) (Q:St->Hp->Prop),Inv X a b H s->Vals i e->t i b H Q->
  wpAny (model X.prog X.w) X.A (assignInOrder ((assignEach f X.env).map (·.2)) e) (λ_ g=>∃h j,Inv X a h j g/\Q h j) X.xe s
abbrev U3:=V->V->Hp->VK->Prop
def UB(X:Cx)(op:adG)(t:U3):Prop:=
 ∀(a:G (M×Obj)) (s:W9) (b:St) (H:Hp) (x y:V) (v u:J) (Q:VK),Inv X a b H s->RelV x v->RelV y u->t x y H Q->
  wpAny (model X.prog X.w) X.A (inplaceOp op v u) (EP X a b Q) X.xe s
section
variable{X:Cx}{Z:Pos}
def oW(i:Nat):TG:=λv a H Q=>Q (a.set i (R v)) H
def JB(c:X.N.Nodup)(b:X.N[i]?=R x)(a:Qo X.env.scope x)(hf:X.fn x=S\/X.env.scope.names.lookup x=R .local:=by first|show .inl W|show .inr W|assumption):PG X (.Name x Z) (oW i):=by intro pins s σ H v u Q I r h;show ahg (mw I c b a r (λf e=>#[_,H,e,h]) hf)
def J8:yy:=λb a H Q=>b=[]/\Q a H
def Bq(t:TG)(u:yy):yy:=λf b H Q=>∃v r,f=v::r/\t v b H λa e=>u r a e Q
def Kj:TN X [] J8:=by intro a s b H g f Q I r h;let(e,h):=h;subst e;ext r;show assignInOrder_nil #[b,H,I,h]
def Hw(n:PG X e t)(m:TN X es u)
  (l:(assignEach (e::es) X.env).map (·.2)=assign e X.env::(assignEach es X.env).map (·.2):=by rfl):TN X (e::es) (Bq t u):=by
 intro a s f H y w Q I r h;let(v,q,e1,h):=h;subst e1;cases r with
 |cons r i=>rw[l];show assignInOrder_cons (bU (n a s f H _ _ _ I r h) λ_ g #[b,p,o,j]=>?_);show m a g b p _ _ Q o i j
def K5(K:CL)(n:Nat)(t:yy):TG:=λv b H Q=>∃a xs,v=.ref a/\SqT K H a xs/\xs.length=n/\t xs b H Q
def QE(q:X.calm=S)(h:TN X es t)
  (c:(assignEach es X.env).length=n:=by rfl) (cY:(assignEach es X.env).findIdx? (·.1)=P:=by rfl):PG X (.Tuple es k Z) (K5 X.K n t):=by
 intro f s i H v u Q I r g;let(a,xs,e1,m,p,g):=g;subst e1;ext r;let(B,C,l,y):=I.tuple m;show assign_Tuple_tuple (I.ok.hd q) l (by simp[c,<-p,C.length]) cY λA j=>?_;let w:=I.kept (t':=s.toks) λb o e=>j b o (Xy (b4 e)) e;show h f _ i H xs _ Q w (by simpa using C) g
def wP(c:TE)(g:TG):TS:=λD a H=>c a H λx b=>g x a b D.nx
def PM(o:PE X e te)(n:PG X C g)(m:swapsWithSole [C] e Z.line X.env=pure U:=by rfl)(l:swappedStores [C] e X.env=pure P:=by rfl)
  (p:(assignEach [C] X.env).map (·.2)=[assign C X.env]:=by rfl):PS X (.Assign [C] e Z) (wP te g):=by
 intro a s b H D I h;show wpAny_Assign_stores (bU (o a s b H _ I h) λv f #[x,t,r,i,j]=>?_) m l;rw[p];show bU (n a f b t x v _ r i j) λ_ u q=>q
def Fc{i:Nat}{x:Str}{e:Xx}{a:TE}{pos':Pos}(j:X.N.Nodup)(g:X.N[i]?=R x)(c:Qo X.env.scope x)(he:PE X e a)(d:Zy e (R (.Name x pos')) Z.line X.env=pure U:=by rfl)(hf:X.fn x=S\/X.env.scope.names.lookup x=R .local:=by first|show .inl W|show .inr W|assumption):
  PS X (.Assign [.Name x pos'] e Z) (wP a (oW i)):=by
 intro pins s σ H D I h;show wpAny_Assign_Name (bU (he pins s σ H _ I h) λv s1 #[y,H1,m,b,f]=>?_) d;show mw m j g c b (λs2 l=>#[_,H1,l,f]) hf
def Um(i:Nat)(d:TE)(c:U3):TS:=λD a H=>∃x,a[i]?=R (R x)/\d a H λy e=>c x y e λz b=>D.nx (a.set i (R z)) b
def Po(F:X.N.Nodup)(n:X.N[i]?=R x)(d:Qo X.env.scope x)(he:PE X e C)(B:UB X op o)(hf:X.fn x=S\/X.env.scope.names.lookup x=R .local:=by first|show .inl W|show .inr W|assumption):
  PS X (.AugAssign (.Name x pos') op e Z) (Um i C o):=by
 intro pins s σ H D I h;let(v,e1,h):=h;let(m,E,K):=I.loc;let g:Sa X.env.scope x:=by rcases d with k|k;show .inl k;show .inr (.inl k)
 let(u,r,l):=K i x v n e1 g;show wpAny_AugAssign_Name ?_;let go:wpAny (model X.prog X.w) X.A (eval e X.env) (λw f=>wpAny (model X.prog X.w) X.A (inplaceOp op u w) (λr b=>wpAny (model X.prog X.w) X.A (storeName X.env x r) (λ_=>SP X pins D .next) X.xe b) X.xe f) X.xe s:=by show bU (he pins s σ H _ I h) λw s1 #[y,H1,O,q,A]=>?_;show bU (B pins s1 σ H1 v y u w _ O r q A) λz s2 #[T,Q,N,p,t]=>?_;show mw N F n d p (λs3 I3=>#[_,Q,I3,t]) hf
 rcases l with⟨a,hm⟩|⟨a,c,L,j⟩
 .show afJ I.ok.kind a E hm go
 .rcases a with a|a
  .show aga I.ok.kind a L j go
  .rcases d with k|k
   .let:X.env.scope.names.lookup x=R .free:=a;rw[k]at this;ext this
   .let:X.env.scope.names.lookup x=R .free:=a;rw[k]at this;ext this
def VU(f:Int->Int->Int):U3:=λx y H Q=>∃i j,x=.int i/\y=.int j/\Q (.int (f i j)) H
def Qp:UB X .Add (VU λi j=>i+j):=by intro a s f H x y v u Q I e b h;let(i,j,e1,e2,q):=h;subst e1;subst e2;let(t,rfl):=e;let(g,rfl):=b;show iadd_int #[.int _,H,I.tok _,#[_,W],q]
end
section
variable{X:Cx}{Z:Pos}
def Hg(c:TT)(d:TS):TS:=λD a H=>∃W:Nat->St->Hp->Prop,(∃m,W m a H)/\∀m a H,W m a H->
 c a H λb e=>if b=S then∃N:St->Hp->Prop,(∀f h,N f h->∃g,g<m/\W g f h)/\d {D with nx:=N,ct:=N,bk:=D.nx} a e else D.nx a e
def EJ(q:acL (model X.prog X.w) X.A X.env X.xe)(L:PT X c tc)(M:PSs X body tb):PS X (.While c body [] Z) (Hg tc tb):=by
 intro e s B H D I h;let(W,(K,E),turn):=h;show wpAny_While (codeAny_whileLoop (λn J=>∃w A,Inv X e w A J/\W n w A) ?_ K #[B,H,I,E]);rintro n G ⟨g,y,O,C⟩;show Zv q (bU (L e G g y _ O (turn n g y C)) λb F #[u,t,l]=>?_);cases b with
 |true=>
  let(N,r,l):=l;rw[ax rfl];show Zv q (bU (M e F g u _ t l) λf P j=>?_);cases f with
  |next=>let(a,i,I3,o):=j;let(p,hm,m):=r a i o;show#[p,hm,a,i,I3,m]
  |cont=>let(a,i,I3,o):=j;let(p,hm,m):=r a i o;show#[p,hm,a,i,I3,m]
  |brk=>show j
  |ret v=>show j
 |false=>rw[a4 Xp];show aar #[g,u,t,l]
end
structure It where
 go:Nat->Hp->Prop
 yld:Nat->Hp->V->Hp->Prop
 stop:Nat->Hp->Prop
def oh(X:Cx)(a:G (M×Obj))(H:Hp)(b:M):Prop:=
 H b=P/\b≠X.env.locals/\b∉X.fs/\(b∈X.ex\/X.s₀.heap.objs.size<=b)/\(∀x c,X.env.cells.lookup x=R c->c≠b)/\∀p∈X.pn++a,p.1≠b
def Inv.adS(I:Inv X pins σ H s)(a:s.heap.objs.size<=b)(d:H' b=P):oh X pins H' b:=by
 show#[d,Yt (Xz I.lt a),I.akz a,.inr (XT I.sz a),λx c e z=>?_,λp f z=>?_]
 .let(v,q):=I.cell x c e;show bb (Xz q.lt (by rw[z];show a)) (YJ _)
 .show bb (Xz (b4 (I.pin p f).1) (by rw[z];show a)) (YJ _)
structure Turn(P:Xu)(w:XQ)(K:CL)(tg:Xx)(J:It)(fp:G M)(it:M)(tn:Nat->Heap->Prop):Prop where
 mem:it∈fp
 obj:∀i h,tn i h->∀b∈fp,∃o,h.get? b=R o/\∀v,o.data≠.cell v
 keep:∀i h h',tn i h->(∀b∈fp,∀o,h.get? b=R o->h'.get? b=R o)->tn i h'
 item:∀(X:Cx),X.prog=P->X.w=w->X.K=K->X.calm=S->∀(i:Nat) (pins:G (M×Obj)) (s:W9) (σ:St) (H:Hp) (E:WY->W9->Prop),Inv X pins σ H s->(∀b∈fp,oh X pins H b)->tn i s.heap->J.go i H->
  wpAny (model P w) X.A (pyNext (.ref it)) (λr s1=>∃u,r=R u/\
   wpAny (model P w) X.A (letOwnedTupleGo tg (.ref it) u) (λ_ s2=>∃x H',Inv X pins σ H' s2/\RelV x u/\J.yld i H x H'/\tn (i+1) s2.heap/\∀b∈fp,H' b=Ld) E s1) E s
 done:∀(X:Cx),X.prog=P->X.w=w->X.K=K->X.calm=S->∀(i:Nat) (pins:G (M×Obj)) (s:W9) (σ:St) (H:Hp) (E:WY->W9->Prop),Inv X pins σ H s->(∀b∈fp,oh X pins H b)->tn i s.heap->J.stop i H->
  wpAny (model P w) X.A (pyNext (.ref it)) (λr s1=>r=Ld/\Inv X pins σ H s1) E s
 self:∀(A:XJ) (i:Nat) (s:W9) (Q:WY->W9->Prop) (E:WY->W9->Prop),tn i s.heap->Q (.ref it) s->wpAny (model P w) A (pyIter (.ref it)) Q E s
abbrev TI:=St->Hp->(It->Hp->Prop)->Prop
def V0(X:Cx)(a:G (M×Obj))(l:St)(m:Xx)(R:It->Hp->Prop)(e:WY)(h:W9):Prop:=
 ∃(i:M) (j:G M) (g:Nat->Heap->Prop) (J:It) (f:Hp),e=.ref i/\Inv X a l f h/\Turn X.prog X.w X.K m J j i g/\g 0 h.heap/\(∀b∈j,oh X a f b)/\R J f
def PI(X:Cx)(f iter:Xx)(e:TI):Prop:=
 ∀(a:G (M×Obj)) (s:W9) (b:St) (H:Hp) (R:It->Hp->Prop),Inv X a b H s->e b H R->
  wpAny (model X.prog X.w) X.A (eval iter X.env) (λv g=>wpAny (model X.prog X.w) X.A (pyIter v) (V0 X a b f R) X.xe g) X.xe s
def BZ{M:adF}{A:XJ}{E:J->W9->Prop}{s:W9}{b:Xx}{e:W7}{u:J}{o:Obj}{n:String}{c:Array J}{Q:Unit->W9->Prop}(f:s.heap.get? e=R o)(g:o.cls=.type n)(hd:o.data=.fields c)
  (d:["enumerate","zip","dict_itemiterator","dict_reverseitemiterator","odict_iterator","itertools.zip_longest","itertools.pairwise"].contains n=U) (a:Q ⟨⟩ s):wpAny M A (letOwnedTupleGo b (.ref e) u) Q E s:=by
 ext letOwnedTupleGo;ext b<;>first
  |show W6 a
  |(ext u<;>first
    |show W6 a
    |(show lD (agz f ?_)
      rw[g,hd];show wpAny M A (if(["enumerate","zip","dict_itemiterator","dict_reverseitemiterator","odict_iterator","itertools.zip_longest","itertools.pairwise"].contains n&&c[0]? ==R (rawInt _))=S then _ else _) Q E s;rw[a4 (by intro h;rw[d,acE]at h;ext h)];show W6 a))
def U9(K:CL)(a:M):It:=
 #[λi H=>∃xs x,SqL K H a xs/\xs[i]?=R x,λi H x b=>b=H/\∀xs,SqL K H a xs->xs[i]?=R x,λi H=>∃xs,SqL K H a xs/\xs.length<=i]
def US(K:CL)(a:M):It:=
 #[λi H=>∃xs x,SqT K H a xs/\xs[i]?=R x,λi H x b=>b=H/\∀xs,SqT K H a xs->xs[i]?=R x,λi H=>∃xs,SqT K H a xs/\xs.length<=i]
def UH(lo:Int)(n:Nat):It:=#[λi _=>i<n,λi H x a=>a=H/\x=.int (lo+i),λi _=>n<=i]
theorem Cw{K:CL}(a g:W7):Turn Pz0 w K tg (U9 K a) [g] g (λi h=>h.IsListIter g a i) where
 mem:=by simp
 obj:=λi h f b j=>by
  let e:b=g:=by simpa using j
  subst e;let(o,e,c,d):=f;show#[o,e,λv z=>by rw[d]at z;ext z]
 keep:=λi h N f k=>f.at λo e=>k g (by simp) o e
 item:=by intro X A t B M i m s O H E I q f y;subst A t B;let(xs,x,n,r):=y;let(X3,rv,p,S):=I.list n;let(u,U,R):=rv.get r;let(L,J,Y,G,F,C):=q g (by simp);show aeU f p.isList (by simpa using U) λN l Q=>?_;let I1:=I.turned (t':=s.toks) (λb o j e=>(Q.2 b j).trans e) L J G F C;let(o,e,c,d):=id l;show#[u,W,BZ e c d () #[x,H,I1,R,#[W,λys T=>by rw[I.afn T n];show r],l,λb j=>(q b j).1]]
 done:=by intro X A t B M i m s O H E I q f y;subst A t B;let(xs,n,r):=y;let(X3,rv,p,S):=I.list n;let(L,J,Y,G,F,C):=q g (by simp);let hl:=rv.length;show afu (I.ok.hd M) f p.isList (by simp;ext) λN Z=>#[W,I.turned (λb o j e=>Z b o j e) L J G F C]
 self:=λ_ _ _ _ _ f h=>afv f h
theorem x9{K:CL}(a g:W7):Turn Pz0 w K tg (US K a) [g] g (λi h=>h.IsTupleIter g a i) where
 mem:=by simp
 obj:=λi h f b j=>by
  let e:b=g:=by simpa using j
  subst e;let(o,e,c,d):=f;show#[o,e,λv z=>by rw[d]at z;ext z]
 keep:=λi h O f k=>f.at λo e=>k g (by simp) o e
 item:=by intro X A t B N i m s Q H E I q f y;subst A t B;let(xs,x,n,r):=y;let(M,rv,p,T):=I.tuple n;let(u,Y,S):=rv.get r;let(L,J,Z,G,F,C):=q g (by simp);show wpAny_pyNext_tuple_item f (show s.heap.IsTuple a M.toArray from p) (by simpa using Y) λO l R=>?_;let I1:=I.turned (t':=s.toks) (λb o j e=>(R.2 b j).trans e) L J G F C;let(o,e,c,d):=id l;show#[u,W,BZ e c d () #[x,H,I1,S,#[W,λys U=>by rw[I.aeE U n];show r],l,λb j=>(q b j).1]]
 done:=by intro X A t B N i m s Q H E I q f y;subst A t B;let(xs,n,r):=y;let(M,rv,p,T):=I.tuple n;let(L,J,Z,G,F,C):=q g (by simp);let hl:=rv.length;show wpAny_pyNext_tuple_end (I.ok.hd N) f (show s.heap.IsTuple a M.toArray from p) (by simp;ext) λO eb=>#[W,I.turned (λb o j e=>eb b o j e) L J G F C]
 self:=λ_ _ _ _ _ f h=>wpAny_pyIter_tupleiter f h
theorem zu{K:CL}(g:W7)(lo:Int)(n:Nat):Turn Y w K tg (UH lo n) [g] g (λi h=>IsRangeIter h g (lo+(i:Nat)*1) ((n:Int) - (i:Nat)) 1) where
 mem:=by simp
 obj:=λi h a b j=>by
  let e:b=g:=by simpa using j
  subst e;show#[_,a,λv z=>by let M:=z;ext M]
 keep:=λi h A a k=>k g (by simp) _ a
 item:=by intro X u p y r i f s L H E I m a q;subst u p y;let(J,G,R,F,C,B):=m g (by simp);let W:=Walks.range (prog:=X.prog) (w:=X.w) (I.ok.hd r) g lo 1 n;show W.item i s _ _ q a λv A N Q l O=>?_;let(t,rfl):=Q;let T:Inv X f L H {s with heap:=A,toks:=N}:=I.turned (λb o j e=>O b o (by simpa using j) e) J G F C B;show#[_,rfl,BZ l rfl rfl () #[.int (lo+i),H,T,#[t,?_],#[rfl,rfl],l,λb j=>(m b j).1]];rw[Int.mul_one]
 done:=by intro X u p y r i f s L H E I m a q;subst u p y;let(J,G,R,F,C,B):=m g (by simp);show wpAny_pyNext_range_end (I.ok.hd r) a (by let:n<=i:=q;ext) λA S=>#[rfl,I.turned (λb o j e=>S b o j e) J G F C B]
 self:=λ_ _ _ _ _ a h=>wpAny_pyIter_rangeiter a h
section
variable{X:Cx}{Z:Xx}
def HI{a:G (M×Obj)}{f:St}{H:Hp}{s:W9}{R:It->Hp->Prop}{E:J->W9->Prop}{lo c:Int}{t u v:Tok}{g:Nat}(I:Inv X a f H s)(n: -(2^62)<=lo)(m:lo<2^62)(l: -(2^62)<=c)(j:c<2^62)
  (q:R (UH lo (c - lo).toNat) H):wpAny (model X.prog X.w) X.A (pyIter (.ref s.heap.objs.size)) (V0 X a f Z R) E {s with heap:=s.heap.push {cls:=.type "range",data:=.fields #v[.int lo t,.int c u,.int 1 v]},toks:=g}:=by
 show wpAny_pyIter_range (IsRange.new ..) (small_one n m l j) ?_;let h:Inv X a f H {s with heap:=s.heap.push {cls:=.type "range",data:=.fields #v[.int lo t,.int c u,.int 1 v]},toks:=g}:=I.kept λb o e=>b3 _ e;show#[(s.heap.push {cls:=.type "range",data:=.fields #v[.int lo t,.int c u,.int 1 v]}).objs.size,[(s.heap.push {cls:=.type "range",data:=.fields #v[.int lo t,.int c u,.int 1 v]}).objs.size],_,_,H,W,
  h.kept (t':=g) λb o e=>b3 _ e,zu _ lo (c - lo).toNat,?_,λb i=>?_,q]
 .let e1:lo+((0:Nat):Int)*1=lo:=by simp
  let e2:(((c - lo).toNat:Nat):Int) - ((0:Nat):Int)=XN.Range.rangeSize lo c 1:=by rw[amc];split<;>ext
  show IsRangeIter _ _ (lo+((0:Nat):Int)*1) ((((c - lo).toNat:Nat):Int) - ((0:Nat):Int)) 1;rw[e1,e2];show b5 _ W
 .let e:b=(s.heap.push {cls:=.type "range",data:=.fields #v[.int lo t,.int c u,.int 1 v]}).objs.size:=by simpa using i
  subst e;show h.adS (Xd _) (h.Yn.fresh (Xd _))
def No(c:TA):TI:=λa H R=>c a H λe b=>∃j:Int,e=[.int j]/\ -(2^62)<=j/\j<2^62/\R (UH 0 j.toNat) b
def B5(o:Gl X "range")(hm:X.mg "range"=P)(c:PA X [a] C)(n:Xr [a] X.env=[(U,eval a X.env)]:=by rfl):PI X Z (.Call (.Name "range" p) [a] [] pos) (No C):=by
 intro b s g H R I h;show Call_ (og I o hm boot_range (ZY (bU (c pos b s g H _ I h) λv w #[A,y,u,l,f]=>?_) n W));let(j,e,f,m,q):=f;subst e;cases l with
 |cons r i=>ext i;let(t,rfl):=r;show call_range_1 (HI u () () f m (by simpa using q))
def C3(e:TI)(g:TG)(c:TS):TS:=λD a H=>e a H λJ h=>∃W:Nat->Nat->St->Hp->Prop,(∃m,W 0 m a h)/\∀i m a H,W i m a H->
 (J.stop i H/\D.nx a H)\/(J.go i H/\∃N:St->Hp->Prop,(∀j l,N j l->∃n,n<m/\W (i+1) n j l)/\∀x l,J.yld i H x l->g x a l λb f=>c {D with nx:=N,ct:=N,bk:=D.nx} b f)
def p8(a:G M)(h:Heap):G (M×Obj):=a.filterMap λb=>(h.get? b).map λo=>(b,o)
theorem i7(a:b∈C)(e:h.get? b=R o):(b,o)∈p8 C h:=aan.mpr #[b,a,by rw[e];rfl]
def CN(a:p∈p8 C h):p.1∈C/\h.get? p.1=R p.2:=by
 let(b,f,e):=aan.mp a;cases q:h.get? b with
 |none=>rw[q]at e;ext e
 |some o=>rw[q]at e;let g:=Xj e;subst g;show#[f,q]
theorem Inv.pinned(I:Inv X pins σ H s)(i:∀b∈fp,oh X pins H b)(h:∀b∈fp,∃o,s.heap.get? b=R o/\∀v,o.data≠.cell v):Inv X (pins++p8 fp s.heap) σ H s:=
 I.acX λp g=>(X0.mp g).elim (λz=>I.pin p (XG _ z)) λz=>by let(a,e):=CN z;let(m,l,j,_):=i p.1 a;let(o,f,d):=h p.1 a;rw[e]at f;ext f;show#[e,m,l,j,d]
theorem Inv.abA(I:Inv X (pins++pl) σ H s):Inv X pins σ H s:=I.acX λp a=>I.pin p (XG _ (Yd _ a))
def Hu(M:acL (model X.prog X.w) X.A X.env X.xe)(c:X.calm=WZ)(z:PI X Z iter wi)(V:PG X Z g)(p:PSs X body tb)
  (k:∀x,foldedSetIterable iter X.env x=pure x:=by intro _;rfl):PS X (.For Z iter body [] pos) (C3 wi g tb):=by
 intro j s σ H D I h;show wpAny_For (bU (z j s σ H _ I h) λv s1 h1=>bU h1 λitv s2 h2=>?_) k;let(it,P,tn,J,H2,e,I2,T,S,f2,W,(m0,w0),turn):=h2;subst e;let F:∀{B:Hp},(∀b∈P,B b=Ld)->∀b∈P,oh X j B b:=λhn b p=>#[hn b p,(f2 b p).2];show codeAny_forLoop_any (λn s'=>∃i A B,Inv X j A B s'/\tn i s'.heap/\(∀b∈P,B b=Ld)/\W i n A B) ?_ m0 #[0,σ,H2,I2,S,λb p=>(f2 b p).1,w0];rintro n s3 ⟨i,l,Q,I3,K,O,w3⟩;rcases turn i n l Q w3 with⟨G,qn⟩|⟨go,N,hN,step⟩
 .show Zv M (bU (T.done X rfl rfl rfl c i j s3 l Q X.xe I3 (F O) K G) λr s4 #[Y,I4]=>?_);subst Y;show aar #[l,Q,I4,qn]
 .show Zv M (bU (T.item X rfl rfl rfl c i j s3 l Q X.xe I3 (F O) K go) λr s4 #[u,Y,h4]=>?_)
  subst Y;show Zv M (bU h4 λ_ s5 #[x,H5,I5,r5,y5,E,fr5]=>?_);let I5':=I5.pinned (F fr5) (T.obj _ _ E);show Zv M (bU (V _ s5 l H5 x u _ I5' r5 (step x H5 y5)) λ_ s6 #[w,H6,I6,q6]=>?_);show Zv M (bU (p _ s6 w H6 _ I6 q6) λf U C=>?_);let q:∀{a:St} {y:Hp},Inv X (j++p8 P s5.heap) a y U->N a y->∃m,m<n/\∃i A B,Inv X j A B U/\tn i U.heap/\(∀b∈P,B b=Ld)/\W i m A B:=λ{a y} t L=>by let(m',hm,w7):=hN a y L;show#[m',hm,i+1,a,y,t.abA,T.keep _ _ _ E λb p o e=>(t.pin (b,o) (XG _ (XG _ (i7 p e)))).1,λb p=>?_,w7];let(o,e,d):=T.obj _ _ E b p;show(t.pin (b,o) (XG _ (XG _ (i7 p e)))).2.1
  cases f with
  |next=>let(a,y,t,L):=C;show q t L
  |cont=>let(a,y,t,L):=C;show q t L
  |brk=>let(a,y,t,C):=C;show#[a,y,t.abA,C]
  |ret v=>let(x7,a,y,t,r7,C):=C;show#[x7,a,y,t.abA,r7,C]
end
abbrev R2:=V->V->Hp->VK->Prop
def OpR(X:Cx)(f:J->J->Sem J)(r:R2):Prop:=
 ∀(a:G (M×Obj)) (s:W9) (b:St) (H:Hp) (x y:V) (v u:J) (Q:VK),Inv X a b H s->RelV x v->RelV y u->r x y H Q->
  wpAny (model X.prog X.w) X.A (f v u) (EP X a b Q) X.xe s
def Zf(X:Cx)(f:J)(r:G V->Hp->VK->Prop):Prop:=
 ∀(a:G (M×Obj)) (s:W9) (b:St) (H:Hp) (xs:G V) (e:G J) (Q:VK),Inv X a b H s->Vals xs e->r xs H Q->
  wpAny (model X.prog X.w) X.A (call f e) (EP X a b Q) X.xe s
def DC(r:R2)(d c:TE):TE:=λa H Q=>d a H λx e=>c a e λy b=>r x y b Q
def rI(C:Int->Int->Prop)(g:Int->Int->V):R2:=λx y H Q=>∃i j,x=.int i/\y=.int j/\C i j/\Q (g i j) H
def zM(g:Int->Int->V):R2:=λx y H Q=>∃i j,x=.int i/\y=.int j/\Q (g i j) H
section
variable{X:Cx}{a b c:Xx}{Z Y O:TE}{T:Pos}
def Pt(r:PE X a Z)(n:PE X b Y){R:V->V->Hp->Prop}(I:Inv X pins σ H s)
  (h:Z σ H λx H1=>Y σ H1 λy d=>R x y d) {f:J->J->Sem J}
  (m:∀v u s2 x y d,Inv X pins σ d s2->RelV x v->RelV y u->R x y d->wpAny (model X.prog X.w) X.A (f v u) Q X.xe s2):
  wpAny (model X.prog X.w) X.A (eval a X.env) (λv q=>wpAny (model X.prog X.w) X.A (eval b X.env) (λu k=>wpAny (model X.prog X.w) X.A (f v u) Q X.xe k) X.xe q) X.xe s:=by
 show bU (r pins s σ H _ I h) λv e #[x,H1,p,i,l]=>?_;show bU (n pins e σ H1 _ p l) λu s2 #[y,d,o,g,j]=>?_;show m v u s2 x y d o i g j
def SQ(l:OpR X (Zl op) r)(d:PE X a Z)(m:PE X b Y):PE X (.BinOp a op b T) (DC r Z Y):=by intro e s f H Q I h;show wpAny_BinOp (Pt d m I h λv u g x y o n j i q=>l e g f o x y v u Q n j i q)
def U5{g:Int->Int->Int}
  (e:∀(i j:Int) (t u:Tok) (s:W9) (Q:J->W9->Prop) (E:J->W9->Prop),C i j->Q (.int (g i j) s.toks) {s with toks:=s.toks+1}->wpAny (model X.prog X.w) X.A (f (.int i t) (.int j u)) Q E s):
  OpR X f (rI C λi j=>.int (g i j)):=by
 intro l s r H x y v u Q I o n h;let(i,j,rfl,rfl,p,q):=h;let(t,rfl):=o;let(m,rfl):=n;show e i j t m s _ _ p #[.int (g i j),H,I.tok _,#[_,W],q]
def Tv{g:Int->Int->Int}
  (e:∀(i j:Int) (t u:Tok) (s:W9) (Q:J->W9->Prop) (E:J->W9->Prop),Q (.int (g i j) s.toks) {s with toks:=s.toks+1}->wpAny (model X.prog X.w) X.A (f (.int i t) (.int j u)) Q E s):
  OpR X f (zM λi j=>.int (g i j)):=by
 intro l s p H x y v u Q I o n h;let(i,j,rfl,rfl,q):=h;let(t,rfl):=o;let(m,rfl):=n;show e i j t m s _ _ #[.int (g i j),H,I.tok _,#[_,W],q]
def Qk{g:Int->Int->Bool}
  (e:∀(i j:Int) (t u:Tok) (s:W9) (Q:J->W9->Prop) (E:J->W9->Prop),Q (.bool (g i j)) s->wpAny (model X.prog X.w) X.A (f (.int i t) (.int j u)) Q E s):
  OpR X f (zM λi j=>.bl (g i j)):=by
 intro l s p H x y v u Q I o n h;let(i,j,rfl,rfl,q):=h;let(t,rfl):=o;let(m,rfl):=n;show e i j t m s _ _ #[.bl (g i j),H,I,W,q]
def afV(i j:Int):Prop:=(-(2^64)<i/\i<2^64)\/(-(2^64)<j/\j<2^64)
def afV.ok(h:afV i j):IntMulOk i j:=by
 rcases h with⟨f,e⟩|⟨f,e⟩
 .show .of_left (amd f e)
 .show .of_right (amd f e)
theorem Qi:OpR X (Zl .Add) (zM λi j=>.int (i+j)):=Tv λ_ _ _ _ _ _ _ q=>add_int q
theorem OH:OpR X (Zl .Sub) (zM λi j=>.int (i - j)):=Tv λ_ _ _ _ _ _ _ q=>sub_int q
theorem OS:OpR X (Zl .Mult) (rI afV λi j=>.int (i*j)):=U5 λ_ _ _ _ _ _ _ e q=>mul_int q e.ok
theorem Qz:OpR X (Zl .Mod) (rI (λ_ j=>0<j) λi j=>.int (i % j)):=U5 λi j _ _ _ _ _ e q=>by let f:(0:Int)<j:=e;show mod_int' () (by rw[Int.fmod_eq_emod_of_nonneg i ()];show q)
end
section
variable{X:Cx}{a b c:Xx}{Z T O:TE}{Y:Pos}
def Ik(I:Inv X pins σ H s)(q:Q (.bl k) H)(e:k=o):EP X pins σ Q (.bool o) s:=by subst e;show#[.bl k,H,I,W,q]
theorem Sc:OpR X (YM .Lt) (zM λi j=>.bl (decide (i<j))):=Qk λ_ _ _ _ _ _ _ q=>lt_int q
theorem Ti:OpR X (YM .Gt) (zM λi j=>.bl (decide (j<i))):=Qk λ_ _ _ _ _ _ _ q=>gt_int q
theorem Ud:OpR X (YM .GtE) (zM λi j=>.bl (decide (j<=i))):=Qk λ_ _ _ _ _ _ _ q=>ge_int q
def x8:OpR X (YM .Is) (λx y H Q=>y=.Zk/\Q (.bl (decide (x=.Zk))) H):=by
 intro f s i H x y v u Q I e g h;let(rfl,q):=h;ext g;show is_none_gen (Ik I q ?_);ext x<;>first
  |(ext e;rfl)
  |(let(t,rfl):=e;rfl)
def IV:OpR X (YM .IsNot) (λx y H Q=>y=.Zk/\Q (.bl (!decide (x=.Zk))) H):=by
 intro f s i H x y v u Q I e g h;let(rfl,q):=h;ext g;show isnot_none_gen (Ik I q ?_);ext x<;>first
  |(ext e;rfl)
  |(let(t,rfl):=e;rfl)
def uZ{op:aeH}{r:R2}(l:OpR X (YM op) r)(d:PE X a Z)(m:PE X b T)(hm:behindInMarks op b=U):PE X (.Compare a [op] [b] Y) (DC r Z T):=by intro e s f H Q I h;show aj9 (Pt d m I h λv u g x y o n j i q=>l e g f o x y v u Q n j i q) hm
def tH(t:TE):TT:=λe H Q=>t e H λx f=>∃k,x=.bl k/\Q k f
def vf(t:OpR X (YM op) r)(d:PE X a Z)(w:PE X b T)(hm:behindInMarks op b=U):PT X (.Compare a [op] [b] Y) (tH (DC r Z T)):=by
 intro f s g H Q I h;show aft (bU (d f s g H _ I h) λv j #[x,F,B,n,q]=>bU (w f j g F _ B q) λu i #[y,E,A,m,p]=>
  bU (t f i g E x y v u _ A n m p) λc G #[z,C,I3,l,k,e,o]=>?_) hm
 subst e;ext l;show ZC #[C,I3,o]
def uW:(Xi:Nat)<2^63:=by rw[YQ];decide
def im(r:Vals [x] us):∃u,us=[u]/\RelV x u:=by
 cases r with
 |cons f e=>ext e;show#[_,W,f]
def B1(r:Vals [x,y] us):∃u d,us=[u,d]/\RelV x u/\RelV y d:=by
 cases r with
 |cons h g=>
  cases g with
  |cons f e=>ext e;show#[_,_,W,h,f]
def Dy(g:X.calm=S):Zf X (.builtin "max") (λxs H Q=>∃i j,xs=[.int i,.int j]/\Q (.int (if j>i then j else i)) H):=by
 intro f s l H xs n Q I r h;let(i,j,rfl,q):=h;let(u,m,rfl,(t,rfl),(p,rfl)):=B1 r;show max_two_ints (I.ok.hd g) λv o k=>#[_,H,I.kept k,?_,q];by_cases e:j>i
 .rw[ax e,ax e];show#[_,W]
 .rw[a4 e,a4 e];show#[_,W]
def Lx(K:CL)(x:V)(H:Hp)(n:Nat):Prop:=
 match x with
 |.str y=>y.length<=Xi/\n=y.length
 |.byt y=>y.size<=Xi/\n=y.size
 |.ref p=>(∃xs,SqL K H p xs/\n=xs.length)\/∃xs,SqT K H p xs/\n=xs.length
 |_=>False
def qD:Zf X (.builtin "len") (λxs H Q=>∃x n,xs=[x]/\Lx X.K x H n/\Q (.int n) H):=by
 intro m s A H xs B Q I r h;let(x,n,rfl,e,q):=h;let(u,rfl,i):=im r;let E:=uW;let C:=YQ;cases x with
 |str y=>let(t,rfl):=i;let(v,g):=e;subst g;show len_str () #[.int _,H,I.tok _,#[_,W],q]
 |byt y=>let(t,rfl):=i;let(v,g):=e;subst g;show PySem.W.len_bytes () #[.int _,H,I.tok _,#[_,W],q]
 |ref p=>
  ext i;let g:=e;rcases g with⟨xs,l,g⟩|⟨xs,l,g⟩
  .subst g;let(w,j,pl,o):=I.list l;let f:=j.length;show Calls.call_len_list pl.isList (by simp only[Xo];ext) #[.int xs.length,H,I.tok _,#[_,by simp only[Xo];rw[f]],q]
  .subst g;let(w,j,pl,o):=I.tuple l;let f:=j.length;show len_tuple pl (by simp only[Xo];ext) #[.int xs.length,H,I.tok _,#[_,by simp only[Xo];rw[f]],q]
 |_=>show(show False from e).elim
end
structure adO(h:Heap)(x dx C:M)(mA:Str->I J):Prop where
 obj:h.get? x=R (Y2 C dx)
 ns:h.Ns1 dx mA
 ne:dx≠x
def sV{h:Heap}(n:h.Ns1 dx C):∃c,h.get? dx=R c/\∀name,aaV name c=R (C name):=by
 let(o,es,m,g,j,i,_,hm):=n;show#[o,g,λname=>?_];let e:=hm name;unfold nsFind findBy at e;rw[<-aeo]at e;ext aaV;rw[j];dsimp only;split
 .rename_i y q;rw[q]at e;show dw R e
 .rename_i q
  rw[q]at e;let a:es.toList.any (·.refKey)=U:=by rw[List.any_eq_false];intro y f;let(z,t,b):=i y (Array.mem_toList_iff.mp f);simp[Y3.refKey,b]
  let l:¬es.toList.any (·.refKey)=S:=by rw[a];show Xp
  rw[a4 l];show dw R e
theorem adO.look(I:adO h x dx C mA):∃a,aaW h x (Y2 C dx) C (R a)/\∀name,aaV name a=R (mA name):=
 let#[a,b,e]:=sV I.ns
 #[a,#[I.obj,W,W,b],e]
section
variable{T:Xu}{w:XQ}{A:XJ}{E:WY->W9->Prop}{s:W9}{K:CL}{x O C f:W7}{Z:Str->bt WY}{Y:Str}{v:WY}
def MA(X:K.In s.heap)(I:adO s.heap x O C Z)(i:ZW K C Y=S)(g:Zm K C=S)
  (c:XS K (.ref C) Y=R P) (b:Z Y=R v) (a:aep v=S) (h:Q v {s with toks:=s.toks+1}):
  wpAny (model T w) A (getAttr (.ref x) Y expr) Q E s:=by
 let(j,J,e):=I.look;show PySem.W.get_value X J (abb i).1 (PySem.W.findObj_own g c W (by rw[e,b])) a h
def Ek(X:K.In s.heap)(I:adO s.heap x O C Z)(a:ZW K C Y=S)
  (j:XS K (.ref C) Y=R (R (.ref f))) (g:Zw K (.ref f)=S) (e:Z Y=P) (h:Q (.ref f,[.ref x]) s):
  wpAny (model T w) A (getMethod (.ref x) Y pl) Q E s:=by
 let(b,J,i):=I.look;show PySem.W.method_fn X J (abb a).1 (abb a).2 j (beq_iff_eq.mp g) (by show(aaV Y b).map (·.isSome)=R U;rw[i,e];rfl) h
def Kd(X:K.In s.heap)(I:adO s.heap x O C Z)
  (p:XS K (.ref C) "__setattr__"=R (R (.builtin "object.__setattr__"))) (q:abr K C=S) (o:abU K C Y=R P) (r:Zm K C=S)
  (n:ac6 Z ns) (d:ns.length<=Xi)
  (h:∀c,adO c x O C (λy=>if y=Y then R v else Z y)->Heap.SameBut O s.heap c->Q ⟨⟩ {s with heap:=c,toks:=s.toks+2}):
  wpAny (model T w) A (setAttr (.ref x) Y v) Q E s:=by
 let(F,J,H):=I.look;show PySem.W.set_plain X J p (PySem.W.osa_open X J q o λb=>?_);let(L,t,j):=PySem.W.any_some r;let m:=I.obj;show lD (W6 (lD (lD (akb m (lD (ahQ (PySem.W.looks_clsIn X t) ?_))))));rw[j];show W6 (lD (W6 (lD ?_)));show wpAny_nsSet1 I.ns λc e a=>?_;let(G,u,B,g,i,l):=e.count (ai5 Y v n);show lD (ahR g (by rw[i];show ahS (XT l (by rw[Xk];ext))) ?_);show W6 (h _ #[(a.2 _ (c9 I.ne)).trans I.obj,e,I.ne] a)
def Ga{R:acM->W9->Prop}{c:G J}{b:G (Str×J)}(X:K.In s.heap)(hm:abV K C=S)
  (k:XS K (.ref C) "__init__"=cL (cL (.ref f))) (e:aeV K (.ref f)=cL (.type "function"))
  (h:codeAny (model T w) (A.under (.builtin "type.__call__" #[.ref C::c,b])) (.call (.ref f) #[.ref (s.heap.objs.size+1)::c,b]) (PySem.W.InitBack (s.heap.objs.size+1) R)
   {s with heap:=(s.heap.push Yy).push (Y2 C s.heap.objs.size)}):
  codeAny (model T w) A (.call (.ref C) #[c,b]) R s:=by
 let(j,g,d,t,i):=s;show PySem.W.make_core (PySem.W.makes_of X hm) (PySem.W.looks_findIn X k) (λa=>PySem.W.bind_fn X a e) (.inl W) h
end
def iA(f:Str)(v:V):G (Str×V)->G (Str×V)
 |[]=>[(f,v)]
 |(g,x)::r=>if g=f then(g,v)::r else(g,x)::iA f v r
theorem oM(f g:Str)(v:V):∀fs:G (Str×V),(iA f v fs).lookup g=if g=f then R v else fs.lookup g
 |[]=>by
  show Y6 g [(f,v)]=_;by_cases h:g=f
  .let a:=beq_iff_eq.mpr h;simp only[Y6,a,ax h]
  .let a:=beq_eq_false_iff_ne.mpr h;simp only[Y6,a,a4 h]
 |(k,x)::r=>by
  let i:=oM f g v r;rw[show iA f v ((k,x)::r)=(if k=f then(k,v)::r else(k,x)::iA f v r)from rfl];by_cases b:k=f
  .rw[ax b]
   by_cases h:g=k
   .let a:=beq_iff_eq.mpr h;simp only[Y6,a,ax (h.trans b)]
   .let a:=beq_eq_false_iff_ne.mpr h;simp only[Y6,a,a4 (λe:g=f=>h (e.trans b.symm))]
  .rw[a4 b]
   by_cases h:g=k
   .let a:=beq_iff_eq.mpr h;simp only[Y6,a,a4 (λe:g=f=>b (h.symm.trans e))]
   .let a:=beq_eq_false_iff_ne.mpr h;simp only[Y6,a];show i
theorem oz(f:Str)(v:V):∀fs:G (Str×V),f∈(iA f v fs).map (·.1)/\∀g,g∈fs.map (·.1)->g∈(iA f v fs).map (·.1)
 |[]=>#[by simp[iA],λg h=>by simp at h]
 |(k,x)::r=>by
  let(i,b):=oz f v r;rw[show iA f v ((k,x)::r)=(if k=f then(k,v)::r else(k,x)::iA f v r)from rfl];by_cases a:k=f
  .rw[ax a];subst a;show#[by simp,λg h=>by simpa using h]
  .rw[a4 a]
   show#[?_,λg h=>?_]
   .rw[Xq];show Xb _ i
   .rw[Xq]at h⊢
    rcases Xt.mp h with e|e
    .show Xt.mpr (.inl e)
    .show Xb _ (b g e)
theorem oO(f:Str)(v:V):∀fs:G (Str×V),(iA f v fs).length<=fs.length+1
 |[]=>by simp[iA]
 |(k,x)::r=>by
  let b:=oO f v r;rw[show iA f v ((k,x)::r)=(if k=f then(k,v)::r else(k,x)::iA f v r)from rfl];by_cases a:k=f
  .rw[ax a,Xk,Xk];ext
  .rw[a4 a,Xk,Xk];ext
def aaa.some_of(r:aaa (R v) o):∃u,o=R u/\RelV v u:=by
 cases o with
 |none=>show(show False from r).elim
 |some u=>show#[u,W,r]
def aaa.none_of(r:aaa P o):o=P:=by
 cases o with
 |none=>rfl
 |some u=>show(show False from r).elim
def tQ(r:RelV v u):aep u=S:=by
 cases v with
 |Zk=>cases(show u=WY.none from r);rfl
 |bl b=>cases(show u=WY.bool b from r);rfl
 |int i=>let(t,e):=(show∃t,u=WY.int i t from r);ext e;rfl
 |str x=>let(t,e):=(show∃t,u=WY.str x t from r);ext e;rfl
 |byt b=>let(t,e):=(show∃t,u=WY.bytes b t from r);ext e;rfl
 |flt b=>let(t,e):=(show∃t,u=WY.float b t from r);ext e;rfl
 |ref a=>cases(show u=WY.ref a from r);rfl
 |ty n=>cases(show u=WY.type n from r);rfl
section
variable{P:Xu}{w:XQ}{H X:Hp}{h T:Heap}{a C Z:W7}{fs Y:bg (Str×V)}
def u0(Yn:HOk P w H h)(e:H a=R (.ins C Z fs)):∃c,adO h a Z C c/\(∀f,aaa (fs.lookup f) (c f))/\ac6 c (fs.map (·.1))/\fs.length<=1000/\H Z=R (.own a):=by let(d,z,ne,b,c,n,r,q):=(show ObjOk P w H h a (.ins C Z fs)from Yn a _ e);show#[c,#[b,n,ne],r,q,z,d]
end
structure Cls(K:CL)(C:M):Prop where
 pg:ZW K C Str.empty=S
 hd:Zm K C=S
 po:abr K C=S
 sa:XS K (.ref C) "__setattr__"=R (R (.builtin "object.__setattr__"))
theorem Cls.get{K:CL}(c:Cls K C)(f:Str):ZW K C f=S:=c.pg
def aau(K:CL)(C:M)(f:Str):Prop:=XS K (.ref C) f=R P
def aau.aiQ{K:CL}(n:aau K C f):abU K C f=R P:=by ext abU;rw[show XS K (.ref C) f=R P from n];rfl
structure Con(K:CL)(C:M)(f:Str)(v:V)(u:J):Prop where
 at_:XS K (.ref C) f=R (R u)
 rel:RelV v u
 get:ZO K u "__get__"=R P
 cp:PySem.W.copiedNames.contains f=U
structure Meth(K:CL)(C:M)(m:Str)(f:M):Prop where
 at_:XS K (.ref C) m=R (R (.ref f))
 fn:Zw K (.ref f)=S
 kp:YI K (.ref f)=S
section
variable{X:Cx}{Z:bg (W7×Obj)}{Y:St}{H:Hp}{s:W9}{a C T:W7}{fs:bg (Str×V)}{f:Str}{v:V}{A:XJ}{E:WY->W9->Prop}
def zw(I:Inv X Z Y H s)(e:H a=R (.ins C T fs))(c:Cls X.K C)(n:aau X.K C f)(l:fs.lookup f=R v)
  (h:∀u d,Inv X Z Y H d->RelV v u->Q u d):wpAny (model X.prog X.w) A (getAttr (.ref a) f b) Q E s:=by
 let(j,O,r,_,_,_):=u0 I.Yn e;let(u,i,g):=aaa.some_of (by rw[<-l];show r f);show MA I.kIn O (c.get f) c.hd n i (tQ g) (h u _ (I.tok _) g)
def qM(I:Inv X Z Y H s)(e:H a=R (.ins C T fs))(c:Cls X.K C)(k:Meth X.K C m g)(l:fs.lookup m=P)
  (h:Q (.ref g,[.ref a]) s):wpAny (model X.prog X.w) A (getMethod (.ref a) m pl) Q E s:=by
 let(b,O,r,_,_,_):=u0 I.Yn e;let i:=aaa.none_of (by rw[<-l];show r m);show Ek I.kIn O (c.get m) k.at_ k.fn i h
def yt(I:Inv X Z Y H s)(e:H a=R (.ins C T fs))(c:Cls X.K C)(n:aau X.K C f)(M:fs.length<1000)(t:RelV y u)
  (h:∀d,Inv X Z Y (aR H a (.ins C T (iA f y fs))) d->Q ⟨⟩ d):wpAny (model X.prog X.w) A (setAttr (.ref a) f u) Q E s:=by
 let(l,O,r,j,_,m):=u0 I.Yn e;let B:(fs.map (·.1)).length<=Xi:=by rw[W0,YQ];ext
 show Kd I.kIn O c.sa c.po n.aiQ c.hd j B λL i p=>h _ ?_;let G:∃o,L.get? T=R o:=let#[o,_,_,w,_]:=i.ns;#[o,w]
 show I.write (by rw[e];show True.intro) (.inr m) (λb q J z=>(p.2 b J).trans z) G ?_;show#[by rw[ar O.ne];show m,?_,O.ne,i.obj,_,i.ns,λg=>?_,λg F=>?_]
 .let:=oO f y fs;ext
 .show aaa ((iA f y fs).lookup g) (if g=f then R u else l g)
  rw[oM];by_cases q:g=f
  .rw[ax q,ax q];show t
  .rw[a4 q,a4 q];show r g
 .by_cases q:g=f
  .rw[q];show(oz f y fs).1
  .show(oz f y fs).2 g (j g λz=>F ?_);show(if g=f then R u else l g)=P;rw[a4 q];show z
def Inv.made(I:Inv X Z Y H s):Inv X Z Y (aR (aR H s.heap.objs.size (.own (s.heap.objs.size+1))) (s.heap.objs.size+1) (.ins C s.heap.objs.size []))
  {s with heap:=(s.heap.push Yy).push (Y2 C s.heap.objs.size)}:=by
 let e1:(s.heap.push Yy).get? s.heap.objs.size=R Yy:=b5 s.heap W;let e2:((s.heap.push Yy).push (Y2 C s.heap.objs.size)).get? (s.heap.objs.size+1)=R (Y2 C s.heap.objs.size):=by let:=b5 (s.heap.push Yy) (o:=Y2 C s.heap.objs.size) W;rwa [cc]at this
 let e3:(s.heap.push Yy).Ns s.heap.objs.size (λ_=>P):=#[Yy,#v[],_,e1,W,(λe h=>bb h (by simp)),λ_=>W];let i:=I.laid (a:=s.heap.objs.size) (o:=.own (s.heap.objs.size+1)) (h':=s.heap.push Yy) (t':=s.toks) (λb u q=>b3 _ q) (Xd _) #[_,e1];show i.laid (a:=s.heap.objs.size+1) (o:=.ins C s.heap.objs.size []) (t':=s.toks) (λb u q=>b3 _ q) (ahT (cc _ _)) ?_;let ne:s.heap.objs.size≠s.heap.objs.size+1:=Xy (ZF _);show#[by rw[ar ne,ay],XY _,ne,e2,λ_=>P,(Heap.Ns1.of_empty e3).at λo q=>b3 _ q,λ_=>True.intro,λy g=>bb W g]
theorem Ba{prog:Xu}{w:XQ}{env:Env}{e:Xx}{f:Str}{b:Pos}{s:W9}{Q:J->W9->Prop}(g:attributeBase e f env (eval e env)=eval e env)
  (h:wpAny (model prog w) A (eval e env) (λo c=>wpAny (model prog w) A (getAttr o f S) Q E c) E s):wpAny (model prog w) A (eval (.Attribute e f b) env) Q E s:=
 Attribute_any_ h (by rw[arm_eval_Attribute,g])
end
def QI(K:CL)(c:TE)(f:Str):TE:=λe H Q=>c e H λx b=>∃a C g fs v,x=.ref a/\b a=R (.ins C g fs)/\Cls K C/\aau K C f/\fs.lookup f=R v/\Q v b
def Q5(K:CL)(c g:TE)(f:Str):TS:=λD b H=>g b H λy h=>c b h λx e=>∃a C i fs,x=.ref a/\e a=R (.ins C i fs)/\Cls K C/\aau K C f/\fs.length<1000/\
 D.nx b (aR e a (.ins C i (iA f y fs)))
section
variable{X:Cx}{o e Z:Xx}{f:Str}{T Y N:Pos}{U O:TE}
def Gd(m:PE X e U)(p:attributeBase e f X.env (eval e X.env)=eval e X.env):PE X (.Attribute e f T) (QI X.K U f):=by intro b s g H Q I h;show Ba p (bU (m b s g H _ I h) λu F #[x,A,y,i,a,C,K,fs,v,r,t,c,n,l,q]=>?_);subst r;obtain rfl:=i;show zw y t c n l λB E w j=>#[v,A,w,j,q]
def Rj(d:PE X o U)(r:PE X Z O)(t:Zy Z (R (.Attribute o f Y)) T.line X.env=pure W3):PS X (.Assign [.Attribute o f Y] Z T) (Q5 X.K U O f):=by intro b s g H D I h;show acF (bU (r b s g H _ I h) λu i #[y,E,B,j,q]=>bU (d b i g E _ B q) λJ G #[x,L,A,m,a,C,K,fs,v,w,c,n,l,p]=>?_) t;subst v;obtain rfl:=m;show yt A w c n l j λF I3=>#[g,_,I3,p]
end
section
variable{X:Cx}{Z:bg (W7×Obj)}{Y:St}{H:Hp}{s:W9}{A:XJ}{E:WY->W9->Prop}{Q:WY->W9->Prop}{c:WY}{b:Bool}
inductive aco(K:CL)(H:Hp):V->J->Prop where
 |Zk:aco K H .Zk (.type "NoneType")
 |bl (x:Bool):aco K H (.bl x) (.type "bool")
 |int (i:Int):aco K H (.int i) (.type "int")
 |str (x:Str):aco K H (.str x) (.type "str")
 |flt (x:UInt64):aco K H (.flt x) (.type "float")
 |lst {a:M} {xs:G V} (e:H a=R (.lst xs)):aco K H (.ref a) (.type "list")
 |frz {a:M} {o:Obj} {xs:G V} (e:H a=R (.frz o (.lst xs))):aco K H (.ref a) (.type "list")
 |tup {a:M} {xs:G V} (e:H a=R (.tup xs)):aco K H (.ref a) (.type "tuple")
 |dK {a:M} {XA:G (cg×V)} (e:H a=R (.dK XA)):aco K H (.ref a) (.type "dict")
 |dT {a:M} {XA:G (G cg×V)} (e:H a=R (.dT XA)):aco K H (.ref a) (.type "dict")
 |ins {a C dx:M} {fs:G (Str×V)} (e:H a=R (.ins C dx fs)) (cl:Cls K C) (ha:XS K (.ref C) "__class__"=R (R (.builtin "object.__class__")))
   (hn:ZO K (.builtin "object.__class__") "__get__"=R (R (.builtin "getset_descriptor.__get__"))) (htk:PySem.W.takesIn K (.builtin "object.__class__")=R S)
   (hm:afw K C (.type "object")=R S):aco K H (.ref a) (.ref C)
end
structure Y1(k:Nat)(A:XJ):Prop where
 hd:A.handled=P
 dp:A.depth+3*k+5<recursionLimit
 un:A.units+16*k+200<cLine
theorem Y1.mono(r:Y1 k A)(h:j<=k):Y1 j A:=#[r.hd,by let:=r.dp;ext,by let:=r.un;ext]
theorem Y1.deeper(r:Y1 (k+1) A)(env:Env):Y1 k (A.deeper env):=
 #[r.hd,by let:=r.dp;show A.depth+1+3*k+5<_;ext,by let:=r.un;show A.units+3+16*k+200<_;ext]
def yI{A:XJ}:(A.under (.builtin "type.__call__" #[.ref C::us,kw])).depth=A.depth+1:=by
 first|rfl|simp[XJ.under,adH.weight,adH.isCreation,adH.isGuard,adH.isCaller,adH.frames,adH.isFrame,guardIds]
def zx{A:XJ}:(A.under (.builtin "type.__call__" #[.ref C::us,kw])).units=A.units+1:=by
 first|rfl|simp[XJ.under,adH.cUnits,adH.frames,adH.isFrame]
theorem Y1.make(r:Y1 (k+1) A)(C:M)(us:G J)(a:G (Str×J)):Y1 k (A.under (.builtin "type.__call__" #[.ref C::us,a])):=
 #[r.hd,by let:=r.dp;rw[yI];ext,by let:=r.un;rw[zx];ext]
def Y1.depth(r:Y1 k A):A.depth<recursionLimit:=by let:=r.dp;ext
def Y1.units(r:Y1 k A):A.units+64<cLine:=by let:=r.un;ext
def gM:TA:=λ_ H Q=>Q [] H
def c8(c:TE)(b:TA):TA:=λa H Q=>c a H λx f=>b a f λxs e=>Q (x::xs) e
section
variable{X:Cx}{e:Xx}{es:bg Xx}{te:TE}{t:TA}{Z:Pos}
theorem gx:PA X [] gM:=λ_ _ _ _ H Q I h=>Calls.spliced_nil #[[],H,I,.nil,h]
def ci(c:PE X e te)(n:PA X es t)(m:Xr (e::es) X.env=(U,eval e X.env)::Xr es X.env:=by rfl):PA X (e::es) (c8 te t):=by intro Z a s b H Q I h;rw[m];show Calls.spliced_cons (bU (c a s b H _ I h) λu f #[x,r,p,i,l]=>?_);show bU (n Z a f b r _ p l) λv w #[xs,q,o,g,j]=>#[x::xs,q,o,.cons i g,j]
def FD(t:TA):TE:=λb H Q=>t b H λxs a=>xs.length<=Xi/\∀p,a p=P->Q (.ref p) (aR a p (.tup xs))
def Rf(t:TA):TE:=λb H Q=>t b H λxs a=>xs.length<=Xi/\∀p,a p=P->Q (.ref p) (aR a p (.lst xs))
def EK{c}(h:PA X es t):PE X (.Tuple es c Z) (FD t):=by intro a s i H Q I l;show wpAny_Tuple_spliced (bU (h Z a s i H _ I l) λj f #[xs,n,g,r,z,q]=>#[by rw[<-r.length];show z,?_]);let m:=g.Yn.fresh (Xd _);show#[.ref f.heap.objs.size,aR n f.heap.objs.size (.tup xs),g.laid (λb u e=>b3 _ e) (Xd _) ?_,W,q _ m];show#[z,j,r,#[_,b5 _ W,#[W,_,W],W]]
def Pz(h:PA X es t):PE X (.List es Z) (Rf t):=by intro a s i H Q I l;show wpAny_List_spliced (bU (h Z a s i H _ I l) λj f #[xs,n,g,r,z,q]=>#[by rw[<-r.length];show z,?_]);let m:=g.Yn.fresh (Xd _);show#[.ref f.heap.objs.size,aR n f.heap.objs.size (.lst xs),g.laid (λb u e=>b3 _ e) (Xd _) ?_,W,q _ m];show#[z,j,0,r,b5 _ W]
end
abbrev Sp:=G V->Hp->VK->XK->Prop
abbrev uX:=G Env->Hp->W9->XK->J->W9->Prop
structure Env0(P:Xu)(w:XQ)(K:CL)(mg:Str->I J)(base:Heap)(A:XJ)(outer:G Env)(s:W9)(H:Hp):Prop where
 frames:A.frames=R outer
 mod:Mod K mg base
 bs:∀b o,base.get? b=R o->s.heap.get? b=R o/\H b=Ld
 bsz:base.objs.size<=s.heap.objs.size
 abm:s.heap.FunFrames base outer
 frf:∀b∈xt outer,H b=Ld
 Yn:HOk P w H s.heap
 bare:AllBare s.gens
def CE(outer:G Env)(P:Xu)(w:XQ)(H:Hp)(s:W9)(Q:VK)(u:J)(a:W9):Prop:=
 ∃v b,a.os=s.os/\AllBare a.gens/\Un (xt outer) [] H b s.heap a.heap/\HOk P w b a.heap/\RelV v u/\Q v b
def CR(b:uX)(outer:G Env)(P:Xu)(w:XQ)(H:Hp)(s:W9)(Q:VK)(E:XK)(r:acM)(a:W9):Prop:=
 match r with
 |.ok (.ret u)=>CE outer P w H s Q u a
 |.ok _=>False
 |.error e=>b outer H s E e a
structure FnOk(P:Xu)(w:XQ)(K:CL)(mg:Str->I J)(base:Heap)(CX:uX)(k:Nat)(f:M)(fd:Yj)(ps:G Str)(sp:Sp):Prop where
 len:∀vs H Q E,sp vs H Q E->vs.length=ps.length
 run:∀(A:XJ) (outer:G Env) (s:W9) (H:Hp) (args:Args) (us:G J) (vs:G V) (Q:VK) (E:XK),Y1 k A->Env0 P w K mg base A outer s H->abh s fd args (ps.zip us)->Vals vs us->sp vs H Q E->
  codeAny (model P w) A (.call (.ref f) args) (CR CX outer P w H s Q E) s
theorem FnOk.imp{P:Xu}{w:XQ}{K:CL}{p:Str->I J}{base:Heap}{g:uX}{k:Nat}{f:M}{fd:Yj}{d:G Str}{sp b:Sp}(F:FnOk P w K p base g k f fd d sp)
  (h:∀c H Q E,b c H Q E->sp c H Q E):FnOk P w K p base g k f fd d b:=
 #[λc H Q E q=>F.len c H Q E (h _ _ _ _ q),λA a s H e i c Q E m n o j l=>F.run A a s H e i c Q E m n o j (h _ _ _ _ l)]
theorem Env0.make{K:CL}(e:Env0 b w K mg base A outer s H)(C:M)(us:G J)(a:G (Str×J)):
  Env0 b w K mg base (A.under (.builtin "type.__call__" #[.ref C::us,a])) outer s H:=#[by first|show e.frames|(simpa [XJ.under,adH.envs,adH.isFrame,pushEnvs]using e.frames),e.mod,e.bs,e.bsz,e.abm,e.frf,e.Yn,e.bare]
section
variable{X:Cx}{Z:bg (W7×Obj)}{Y:St}{H:Hp}{s U:W9}
theorem Inv.af0(I:Inv X Z Y H s):Env0 X.prog X.w X.K X.mg X.base X.A X.stack s H:=
 #[I.ok.frames,I.ok.mod,I.bs,XT I.ok.bsz I.sz,I.stack,I.acd,I.Yn,I.bare]
def Inv.after{Q:VK}{u:J}(I:Inv X Z Y H s)(h:CE X.stack X.prog X.w H s Q u U):EP X Z Y Q u U:=by let(v,j,f,a,un,Yn,r,q):=h;let(i,g,d,t,e):=U;obtain rfl:e=s.os:=f;show#[v,j,I.call (h':=i) (g':=g) (d':=d) (t':=t) (ch:=[]) un Yn a (λb z=>bb z (by simp)),r,q]
end
def jw(sp:Sp)(a:G V)(E:XK)(t:TA):TE:=λb H Q=>t b H λf e=>sp (f++a) e Q E
def tZ(C:M)(m:Str)(sp:Sp)(b:G V)(E:XK)(c:TE)(t:TA):TE:=λe H Q=>c e H λx f=>∃a i fs,x=.ref a/\f a=R (.ins C i fs)/\fs.lookup m=P/\
 t e f λh g=>sp (x::(h++b)) g Q E
def wY(C:M)(sp:Sp)(a:G V)(E:XK)(t:TA):TE:=λe H Q=>t e H λh b=>∀x g,b x=P->b g=P->g≠x->
 sp (.ref x::(h++a)) (aR (aR b g (.own x)) x (.ins C g [])) (λv f=>v=.Zk/\Q (.ref x) f) E
def Binds(K:CL)(fd:Yj)(b:G Str)(ds:G J):Prop:=
 ∀(s:W9) (a:G J),K.In s.heap->(a++ds).length=b.length->abh s fd #[a,[]] (b.zip (a++ds))
theorem Binds.all{K:CL}{fd:Yj}{b:G Str}(h:∀us:G J,us.length=b.length->bindArgs fd #[us,[]]=pure (b.zip us)):Binds K fd b []:=λs us _ a=>by rw[X2]at a⊢;show .of_eq (h us a)
def dW(g:uX)(X:Cx)(E:XK):Prop:=∀(a:G (M×Obj)) (f:St) (H:Hp) (s:W9) (e:J) (b:W9),Inv X a f H s->g X.stack H s E e b->X.xe e b
section
variable{X:Cx}{U:uX}{k:Nat}{f C:W7}{fd:Yj}{ps:bg Str}{sp:Sp}{Z:bg V}{ds:bg WY}{E:XK}{x m:Str}{p pos Y:Pos}{e o:Xx}{es:bg Xx}{T:TE}{t:TA}
def yx{a:G (M×Obj)}{g:St}{H:Hp}{s:W9}{Q:VK}{us:G J}{vs:G V}(F:FnOk X.prog X.w X.K X.mg X.base U k f fd ps sp)(n:Y1 k X.A)(v:Binds X.K fd ps ds)(hd:Vals Z ds)(l:dW U X E)
  (I:Inv X a g H s) (r:Vals vs us) (h:sp (vs++Z) H Q E):wpAny (model X.prog X.w) X.A (call (.ref f) us) (EP X a g Q) X.xe s:=by
 let i:Vals (vs++Z) (us++ds):=r.append hd;let q:(us++ds).length=ps.length:=by rw[<-i.length];show F.len _ _ _ _ h
 show aaI (aav (F.run X.A X.stack s H #[us,[]] (us++ds) (vs++Z) Q E n I.af0 (v s us I.kIn q) i h) λr j b=>?_);cases r with
 |error e=>show l a g H s e j I b
 |ok y=>
  cases y with
  |ret u=>show I.after b
  |next=>show False.elim b
  |brk=>show False.elim b
  |cont=>show False.elim b
def BF(F:FnOk X.prog X.w X.K X.mg X.base U k f fd ps sp)(n:Y1 k X.A)(v:Gl X x)(hm:X.mg x=R (.ref f))(u:YI X.K (.ref f)=S)(B:Binds X.K fd ps ds)(hd:Vals Z ds)(l:dW U X E)
  (c:PA X (e::es) t) (g:(x==("__debug__":Str))=W3:=by decide) (y:Xr (e::es) X.env=(W3,eval e X.env)::Xr es X.env:=by rfl) (b:(backTo pos (Xr es X.env)).any (·.1)=W3:=by rfl):
  PE X (.Call (.Name x p) (e::es) [] pos) (jw sp Z E t):=by
 intro a s j H Q I h;show Zq (i9 I v hm ?_ g);show aad I.ok.mod.kin u (bU (c pos a s j H _ I h) λG J #[w,L,i,r,q]=>#[i.kIn,?_]) y b;show yx F n B hd l i r q
def MM{pl:Sem Bool}(M:PE X o T)(c:Cls X.K C)(hm:Meth X.K C m f)(F:FnOk X.prog X.w X.K X.mg X.base U k f fd ps sp)(L:Y1 k X.A)(N:Binds X.K fd ps ds)(hd:Vals Z ds)(G:dW U X E)(d:PA X (e::es) t)
  (cY:Xr (e::es) X.env=(W3,eval e X.env)::Xr es X.env:=by rfl) (g:(backTo pos (Xr es X.env)).any (·.1)=W3:=by rfl)
  (J:eval (.Call (.Attribute o m Y) (e::es) [] pos) X.env=(do
   let ov<-eval o X.env
   standAt Y.atName
   let(f,first)<-holding [ov] (getMethod ov m pl)
   callWith pos f first (backTo pos (Xr (e::es) X.env)) (backToKw pos (keywordEach [] X.env))):=by rfl):
  PE X (.Call (.Attribute o m Y) (e::es) [] pos) (tZ C m sp Z E T t):=by
 intro b s i H Q I h;show aaL (pl:=pl) (bU (M b s i H _ I h) λu v #[x,A,n,y,a,dx,fs,O,w,l,q]=>?_) J;subst O;obtain rfl:u=WY.ref a:=y;show qM n w c hm l ?_;show aad (first:=[.ref a]) (h₀:=X.base) I.ok.mod.kin hm.kp (bU (d pos b v i A _ n q) λus S #[K,H2,j,r,B]=>#[j.kIn,?_]) cY g;show yx (us:=.ref a::us) (vs:=.ref a::K) F L N hd G j (.cons W r) B
def Gs{pl:Sem Bool}(y:PE X o T)(c:Cls X.K C)(hm:Meth X.K C m f)(F:FnOk X.prog X.w X.K X.mg X.base U k f fd ps sp)(v:Y1 k X.A)(B:Binds X.K fd ps ds)(hd:Vals Z ds)(n:dW U X E)
  (r:eval (.Call (.Attribute o m Y) [] [] pos) X.env=(do
   let ov<-eval o X.env
   standAt Y.atName
   let(f,first)<-holding [ov] (getMethod ov m pl)
   callWith pos f first (backTo pos (Xr [] X.env)) (backToKw pos (keywordEach [] X.env))):=by rfl):
  PE X (.Call (.Attribute o m Y) [] [] pos) (tZ C m sp Z E T gM):=by
 intro b s i H Q I h;show aaL (pl:=pl) (bU (y b s i H _ I h) λu L #[x,A,g,j,a,K,fs,G,w,l,q]=>?_) r;subst G;obtain rfl:u=WY.ref a:=j;show qM g w c hm l ?_;show PySem.W.callWith_K0 (first:=[.ref a]) g.kIn hm.kp (yx (us:=[.ref a]) (vs:=[.ref a]) F v B hd n g (.cons W .nil) q)
structure Mk(K:CL)(C f:M):Prop where
 makes:abV K C=S
 init:XS K (.ref C) "__init__"=R (R (.ref f))
 fn:Zw K (.ref f)=S
 kp:YI K (.ref C)=S
def Gw(M:Mk X.K C f)(F:FnOk X.prog X.w X.K X.mg X.base U k f fd ps sp)(q:Y1 (k+1) X.A)(B:Binds X.K fd ps ds)(hd:Vals Z ds)
  (n:dW U X E) (I:Inv X pins σ H s) (r:Vals vs us)
  (h:∀x c,H x=P->H c=P->c≠x->sp (.ref x::(vs++Z)) (aR (aR H c (.own x)) x (.ins C c [])) (λv d=>v=.Zk/\Q (.ref x) d) E):
  wpAny (model X.prog X.w) X.A (call (.ref C) us) (EP X pins σ Q) X.xe s:=by
 let i:=h (s.heap.objs.size+1) s.heap.objs.size (I.Yn.fresh (Z9 _)) (I.Yn.fresh (Xd _)) (Xy (ZF _));let b:=Inv.made (C:=C) I;let g:Vals (V.ref (s.heap.objs.size+1)::(vs++Z)) (WY.ref (s.heap.objs.size+1)::(us++ds)):=.cons W (r.append hd);let y:(WY.ref (s.heap.objs.size+1)::us++ds).length=ps.length:=by let e:=g.length;rw[F.len _ _ _ _ i]at e;show e.symm
 show aaI (Ga I.kIn M.makes M.init (beq_iff_eq.mp M.fn) (aav (F.run _ X.stack _ _ #[WY.ref (s.heap.objs.size+1)::us,[]] (WY.ref (s.heap.objs.size+1)::(us++ds)) _ _ E (q.make C us [])
  (b.af0.make C us []) (B _ (WY.ref (s.heap.objs.size+1)::us) b.kIn y) g i) λr j a=>?_))
 cases r with
 |error e=>show n pins σ _ _ e j b a
 |ok G=>
  cases G with
  |ret u=>let(v,J,I3,w,ev,l):=b.after a;subst ev;show#[w,#[V.ref (s.heap.objs.size+1),J,I3,W,l]]
  |next=>show False.elim a
  |brk=>show False.elim a
  |cont=>show False.elim a
def LP(M:Mk X.K C f)(F:FnOk X.prog X.w X.K X.mg X.base U k f fd ps sp)(n:Y1 (k+1) X.A)(u:Gl X x)(hm:X.mg x=R (.ref C))(y:Binds X.K fd ps ds)(hd:Vals Z ds)(l:dW U X E)
  (c:PA X (e::es) t) (g:(x==("__debug__":Str))=W3:=by decide) (v:Xr (e::es) X.env=(W3,eval e X.env)::Xr es X.env:=by rfl) (b:(backTo pos (Xr es X.env)).any (·.1)=W3:=by rfl):
  PE X (.Call (.Name x p) (e::es) [] pos) (wY C sp Z E t):=by
 intro a s j H Q I h;show Zq (i9 I u hm ?_ g);show aad I.ok.mod.kin M.kp (bU (c pos a s j H _ I h) λB G #[A,w,i,r,q]=>#[i.kIn,?_]) v b;show Gw M F n y hd l i r q
end
section
variable{X:Cx}{O:uX}{k:Nat}{f C:W7}{fd:Yj}{ps ks:bg Str}{N:Sp}{E:XK}{x m:Str}{p Y Z T:Pos}{e o:Xx}{es:bg Xx}{Q:bg aaP}{L H:TE}{t B:TA}{A:bt Str}
structure akM(K:CL)(fd:Yj)(ps ks:G Str)(g:G J->G J->G J)(gV:G V->G V->G V):Prop where
 to:∀(s:W9) (us ws:G J),K.In s.heap->(g us ws).length=ps.length->abh s fd #[us,ks.zip ws] (ps.zip (g us ws))
 rel:∀{vs:G V} {us:G J} {zs:G V} {ws:G J},Vals vs us->Vals zs ws->Vals (gV vs zs) (g us ws)
variable{g:bg WY->bg WY->bg WY}{K:bg V->bg V->bg V}
end
structure Zj(N P:G Str)(sc:Y9):Prop where
 kind:sc.kind=.function
 co:sc.isCoroutine=U
 gen:sc.isGenerator=U
 nd:N.Nodup
 pre:N.take P.length=P
 par:∀x∈P,sc.names.lookup x=R .local\/sc.names.lookup x=R .cell
 agV:∀y∈sc.names,y.2≠.free
theorem ud{a:Str->I Xw}:∀{binds:G (Str×J)} {m:Str->I J},(∀v,(x,v)∉binds)->bindL a binds m x=m x
 |[],_,_=>rfl
 |(n,v)::r,m,h=>by
  ext bindL;rw[ud λw b=>h w (Xb _ b)];split
  .let:x≠n:=by rintro rfl;show h v W8
   simp[this]
  .rfl
theorem tM{a:Str->I Xw}:∀{binds:G (Str×J)} {m:Str->I J},(∀v,(x,v)∉binds)->bindC a binds m x=m x
 |[],_,_=>rfl
 |(n,v)::r,m,h=>by
  ext bindC;rw[tM λw b=>h w (Xb _ b)];split
  .rfl
  .let:x≠n:=by rintro rfl;show h v W8
   simp[this]
theorem tG{kindOf:Str->I Xw}:∀{a:G Str} {b:G J} {i:Nat} {m:Str->I J},a.Nodup->a[i]?=R x->b[i]?=R v->kindOf x=R .local->
  bindL kindOf (a.zip b) m x=R v
 |[],_,_,_,_,h,_,_=>by simp at h
 |_::_,[],_,_,_,_,h,_=>by simp at h
 |p::a,w::b,0,m,nd,h1,e,f=>by simp at h1 e;subst h1;subst e;show bindL kindOf ((p,w)::a.zip b) m p=_;ext bindL;rw[ud λv g=>(Yv.mp nd).1 (Zn g).1,ax f];simp
 |p::a,w::b,i+1,m,nd,h1,e,f=>by ext bindL;show tG (Yv.mp nd).2 (by simpa using h1) (by simpa using e) f
theorem sX{kindOf:Str->I Xw}:∀{a:G Str} {b:G J} {i:Nat} {m:Str->I J},a.Nodup->a[i]?=R x->b[i]?=R v->kindOf x≠R .local->
  bindC kindOf (a.zip b) m x=R v
 |[],_,_,_,_,h,_,_=>by simp at h
 |_::_,[],_,_,_,_,h,_=>by simp at h
 |p::a,w::b,0,m,nd,h1,e,f=>by simp at h1 e;subst h1;subst e;show bindC kindOf ((p,w)::a.zip b) m p=_;ext bindC;rw[tM λv g=>(Yv.mp nd).1 (Zn g).1,a4 f];simp
 |p::a,w::b,i+1,m,nd,h1,e,f=>by ext bindC;show sX (Yv.mp nd).2 (by simpa using h1) (by simpa using e) f
def start(N:G Str)(a:G V):St:=a.map R++Xh (N.length - a.length) P
def fC(i:uX)(P:Xu)(w:XQ)(K:CL)(c:Str->I J)(base:Heap)(N:G Str)(b:Str)(a:Y9)(f:M)(h:J)(A:XJ)(outer:G Env)(s:W9)(H:Hp)(E:XK):Cx where
 prog:=P
 w:=w
 K:=K
 mg:=c
 base:=base
 A:=A.deeper (envOfC b a s.heap.objs.size f h)
 N:=N
 s₀:=s
 H₀:=H
 env:=envOfC b a s.heap.objs.size f h
 outer:=outer
 stack:=envOfC b a s.heap.objs.size f h::outer
 ex:=[]
 calm:=S
 fn:=λ_=>S
 pn:=[]
 xe:=λe j=>wpAny (model P w) (A.deeper (envOfC b a s.heap.objs.size f h)) (leaving (envOfC b a s.heap.objs.size f h) e) (λ_ g=>i outer H s E e g) (λl g=>i outer H s E l g) j
def xx{sc:Y9}(h:sc.names.lookup x=R .cell):∃c,(Y4 n sc.names []).lookup x=R c:=by let q:=ZP sc.names n [] (.inl h);show Y7.mp q
def CZ{K:CL}
  (S:Zj N ps scope) (hd:A.handled=Ld) (e0:Env0 L w K mg base A outer s H) (G:vs.length=ps.length) (r:Vals vs us)
  (x:InCallC s s.heap.objs.size (bindL (envOfC qual scope s.heap.objs.size f cd).kindOf (ps.zip us) λ_=>Ld) (Y4 (s.heap.objs.size+1) scope.names []) (bindC (envOfC qual scope s.heap.objs.size f cd).kindOf (ps.zip us) λ_=>Ld) s1):
  Inv (fC CX L w K mg base N qual scope f cd A outer s H E) [] (start N vs) H s1:=by
 let C:ps.length<=N.length:=by let:=dw aaw S.pre;rw[Yb]at this;ext
 let(o,F,rfl,B):=x.done;let j:∀b:M,b∉(fC CX L w K mg base N qual scope f cd A outer s H E).ex:=λb z=>bb (show b∈([]:bg M)from z) (by simp);show#[#[e0.mod,S.kind,W,W,Xd _,λy z c o g=>?_,λy l=>?_,λy c _ h=>?_,λ_=>hd,XJ.frames_deeper e0.frames,.inr #[W,W],λb z=>bb z (j b),e0.bs,e0.bsz,λb _ _=>j b,λb z=>bb z (j b),e0.abm,e0.frf],
  W,e0.bare,Un.kept B,#[_,x.toInCall.ns,λi y v o g I=>?_],λy c h=>#[_,x.cell y c h],e0.Yn.fresh (Xd _),λy c h=>?_,λp n=>bb (show p∈([]:bg (M×Obj))from n) (by simp),e0.Yn.kept B,?_]
 .show name_of_addr x.apart (YR o) (YR g)
 .let l:=l
  rcases l with l|l
  .show xx l
  .show bb W (S.agV _ (YR l))
 .show aaU (x.above y c (YR h))
 .let O:i<vs.length:=by
   unfold start at g;by_cases O:i<vs.length
   .show O
   .rw[XO (by simpa using O)]at g;rw[Zd]at g;split at g<;>ext g
  let T:vs[i]?=R v:=by
   unfold start at g;rw[Xe (by simpa using O),Xg]at g;cases e:vs[i]? with
   |none=>rw[e]at g;ext g
   |some a=>rw[e]at g;ext g;rfl
  let(u,t,Q):=r.get T;let n:ps[i]?=R y:=by rw[<-S.pre,aaD ()];show o
  let m:ps.Nodup:=by rw[<-S.pre];show S.nd.sublist (List.take_sublist _ _)
  show#[u,Q,?_];rcases S.par y (XF n)with k|k
  .show .inl #[k,tG m n t k]
  .let(c,e):=xx k;show .inr #[.inl k,c,e,?_];let q:=x.cell y c e;rw[sX m n t (by show scope.names.lookup y≠_;rw[k];decide)]at q;show q
 .show e0.Yn.fresh (aaU (x.above y c (YR h)))
 .ext start;show _=N.length;rw[Xf,W0,Yu];ext
def DR{m:uX}{P:Xu}{w:XQ}{K:CL}{l:Str->bt WY}{base:Heap}{k:Nat}{f:M}{name qual:Str}{params:Arguments}{body:G YL}{scope:Y9}{F kV doc pm g ct X:WY}{an T:bt M}
  {z:Array (bt WY)} {N j:G Str} {sp:Sp} (Y:K.lookup f=R #[X,T,.func (Yz name qual params body scope F kV doc pm an g ct),z]) (D:aae K g qual=WZ) (S:Zj N j scope)
  (len:∀c H Q E,sp c H Q E->c.length=j.length)
  (Z3:∀(A:XJ) (outer:G Env) (s:W9) (H:Hp) (c:G V) (Q:VK) (E:XK),Y1 k (A.deeper (envOfC qual scope s.heap.objs.size f g))->sp c H Q E->
   ∃t,PSs (fC m P w K l base N qual scope f g A outer s H E) body t/\t {nx:=λ_ d=>Q .Zk d,rt:=Q} (start N c) H):
  FnOk P w K l base m (k+1) f (Yz name qual params body scope F kV doc pm an g ct) j sp:=by
 show#[len,λA outer s H args us c Q E C e0 hb r i=>?_];let hl:=len _ _ _ _ i;let O:K.In s.heap:=e0.mod.kin.keeps λb o e=>(e0.bs b o e).1;let lim:s.heap.NoLimit:=e0.mod.nolimit.keeps λb o e=>(e0.bs b o e).1;let L:∀y∈j.zip us,scope.names.lookup y.1=R .local\/(scope.names.lookup y.1=R .cell/\((Y4 (s.heap.objs.size+1) scope.names []).lookup y.1).isSome=WZ):=λ#[n,v] Z=>by
  rcases S.par n (Zn Z).1 with q|q
  .show .inl q
  .show .inr #[q,ZP _ _ _ (.inl q)]
 show codeAny_call_function C.depth (O _ _ Y) W S.co S.gen W (PySem.W.codeRec_of O D) (hb _ _ _ _ ?_);show wpAny_newFunctionEnv_cells S.kind L λenv he s1 x=>?_;subst he;show#[lim.keeps x.toInCall.keep,codeAny_func ?_];let(t,ht,hq):=Z3 A outer s H c Q E (C.deeper _) i;let I:Inv (fC m P w K l base N qual scope f g A outer s H E) [] (start N c) H s1:=CZ S C.hd e0 hl r x;show wpAny_mono (ht [] s1 (start N c) H _ I hq) (λfl p h=>?_) λe p h=>h
 let fin:∀{a:St} {d:Hp} {v:V} {u:WY},Inv (fC m P w K l base N qual scope f g A outer s H E) [] a d p->RelV v u->Q v d->CE outer P w H s Q u p:=
  λ{a d v u} J B q=>#[v,d,J.os,J.bare,J.base,J.Yn,B,q]
 cases fl with
 |ret u=>let(v,a,d,J,B,q):=h;show fin J B q
 |next=>let(a,d,J,q):=h;show fin (v:=V.Zk) (u:=WY.none) J W q
 |brk=>let(_,_,_,q):=h;show False.elim q
 |cont=>let(_,_,_,q):=h;show False.elim q
section
variable{X:Cx}{x:Str}{p Z:Pos}{e:Xx}{es:bg Xx}{t:TA}{Y T:String}{r:bg V->Hp->VK->Prop}
def tI(r:G V->Hp->VK->Prop)(t:TA):TE:=λa H Q=>t a H λf b=>r f b Q
def wQ(u:Zf X (.builtin Y) r)(o:Gl X x)(hm:X.mg x=P)(n:X7 x=R (.builtin Y))(d:PA X (e::es) t)(c:x≠ "__name__":=by decide)(f:(x==("__debug__":Str))=U:=by decide)
  (q:Xr (e::es) X.env=(U,eval e X.env)::Xr es X.env:=by rfl) (b:(backTo Z (Xr es X.env)).any (·.1)=U:=by rfl):PE X (.Call (.Name x p) (e::es) [] Z) (tI r t):=by
 intro a s g H Q I h;show Zq (og I o hm n ?_ c f);show ai6 (bU (d Z a s g H _ I h) λi j #[y,w,v,l,m]=>u a j g w y i Q v l m) q b
def Cy(u:Zf X (.type T) r)(o:Gl X x)(hm:X.mg x=P)(n:X7 x=R (.type T))(d:PA X (e::es) t)(c:x≠ "__name__":=by decide)(f:(x==("__debug__":Str))=U:=by decide)
  (q:Xr (e::es) X.env=(U,eval e X.env)::Xr es X.env:=by rfl) (b:(backTo Z (Xr es X.env)).any (·.1)=U:=by rfl):PE X (.Call (.Name x p) (e::es) [] Z) (tI r t):=by
 intro a s g H Q I h;show Zq (og I o hm n ?_ c f);show ZY (bU (d Z a s g H _ I h) λi j #[y,w,v,l,m]=>u a j g w y i Q v l m) q b
end
end L2
namespace HT
open PySem PyProof.Rows
section
open PySem.SeqAt
open PySem.AutoSeq1 (wpAny_loadPart')
open PySem.MeetsSeq PySem.MeetsSeq2 PySem.MeetsSeq3
end
section
variable{Z:Xu}{w:XQ}{A:XJ}{E:WY->W9->Prop}{s:W9}
def cat_tup{t b:M}{c ws:G J}{Q:J->W9->Prop}(v:IsTup s.heap t c.toArray)(y:IsTup s.heap b ws.toArray)(q:c≠[])
  (C:ws=[]->Q (.ref t) s) (B:ws≠[]->Q (.ref s.heap.objs.size) {s with heap:=s.heap.push {cls:=.type "tuple",data:=.seq (c++ws).toArray}})
  (d:c.length+ws.length<=Xi):wpAny (model Z w) A (Zl .Add (.ref t) (.ref b)) Q E s:=by
 let((cls,dd,data,o),l,u,n,r):=id v;let((F,i,m,f),a,h,p,g):=id y;simp only at u r h g;subst u r h g;let e:c.toArray++ws.toArray=(c++ws).toArray:=by simp
 by_cases j:ws=[]
 .show concat_meets #[_,l,W] #[_,a,W] ahU ame acN acG (acu _ _)
   (tuple_addW1 t b c.toArray ws.toArray n p dd i o f (by simpa using q) (by simp[j])) #[l,a,C j]
 .show concat_meets #[_,l,W] #[_,a,W] ahU ame acN acG (acu _ _)
   (tuple_addW2 t b c.toArray ws.toArray n p dd i o f (by simpa using q) (by simpa using j) (by rw[Xo,Xo];show d)) #[l,a,?_]
  rw[e];show B j
def sIx(n d:Nat):I Int->Nat
 |none=>d
 |some v=>if v<0 then(v+(n:Int)).toNat else min v.toNat n
theorem sIx_none(n d:Nat):sIx n d P=d:=W
def sIx_nat(n d k:Nat):sIx n d (R (k:Int))=min k n:=by show(if(k:Int)<0 then((k:Int)+(n:Int)).toNat else min (k:Int).toNat n)=min k n;rw[a4 (),Yo]
def Q4(n d:Nat)(hd:d<=n)(o:I Int):sIx n d o<=n:=by
 cases o with
 |none=>show hd
 |some v=>
  show(if v<0 then(v+(n:Int)).toNat else min v.toNat n)<=n;by_cases a:v<0
  .rw[ax a];ext
  .rw[a4 a];show acg _ _
def A7(v:Int)(n d:Nat):(if v<0 then max (v+(n:Int)) 0 else min v (n:Int))=((sIx n d (R v):Nat):Int):=by
 show(if v<0 then max (v+(n:Int)) 0 else min v (n:Int))=(((if v<0 then(v+(n:Int)).toNat else min v.toNat n):Nat):Int);by_cases a:v<0
 .simp only[ax a];ext
 .simp only[a4 a];ext
def yi(lo b:I Int)(n:Nat):XN.Slice.sliceAdjust lo b 1 (n:Int)=(((sIx n 0 lo:Nat):Int),((sIx n n b:Nat):Int)):=by
 let a:¬((1:Int)<0):=by ext
 ext XN.Slice.sliceAdjust;simp only[a,if_false];show Prod.ext ?_ ?_
 .cases lo with
  |none=>rfl
  |some v=>show A7 v n 0
 .cases b with
  |none=>rfl
  |some v=>show A7 v n n
def zB(i j:Nat):XN.Slice.slicePlaces (i:Int) (j:Int) 1=j - i:=by
 ext XN.Slice.slicePlaces;let a:(1:Int)>0:=by ext
 simp only[a,if_true,Int.ediv_one];split<;>ext
def qE(p:abE v o)(h:Q o s):wpAny (model Z w) A (XN.Slice.slicePartIndex v) Q E s:=by
 cases p with
 |none=>show slicePart_none h
 |int i t=>show slicePart_int h
def iY{lo c:I Int}{Q:Int×Int×Nat->W9->Prop}(f:s.heap.IsSliceOf sl C o .none)(pl:abE C lo)(e:abE o c)
  (h:Q (((sIx n 0 lo:Nat):Int),1,sIx n n c - sIx n 0 lo) s):wpAny (model Z w) A (XN.Slice.sliceApplied (.ref sl) (pure (n:Int))) Q E s:=by
 let(i,a,g,b):=id f;unfold XN.Slice.sliceApplied XN.Slice.sliceFields;show lD (lD (X6 a b W (lD (X6 a b W (lD (X6 a b W (W6 ?_)))))));show lD (slicePart_none ?_);rw[a4 ()];show lD (qE pl (lD (qE e (lD (W6 ?_)))));show wpAny _ _ (match XN.Slice.sliceAdjust lo c 1 (n:Int)with|(lo,c)=>pure (lo,(1:Int),XN.Slice.slicePlaces lo c 1)) _ _ s;rw[yi lo c n];show wpAny _ _ (pure (((sIx n 0 lo:Nat):Int),(1:Int),XN.Slice.slicePlaces ((sIx n 0 lo:Nat):Int) ((sIx n n c:Nat):Int) 1)) _ _ s;rw[zB];show W6 h
def E6(xs:Array J)(i k:Nat):((Xn k).filterMap λ(m:Nat)=>xs[((i:Int)+(m:Int)*1).toNat]?).toArray=((xs.toList.drop i).take k).toArray:=by
 let e:(λ(m:Nat)=>xs[((i:Int)+(m:Int)*1).toNat]?)=λm=>xs[i+m]? :=by
  funext m;let:((i:Int)+(m:Int)*1).toNat=i+m:=by ext
  rw[this]
 rw[e];let:=pick_run xs i k;rw[List.filterMap_map]at this;let e2:((λx=>xs[x]?)∘λx=>i+x)=λm=>xs[i+m]? :=W;rw[e2]at this;rw[this]
def getItem_tuple_cut{lo c:I Int}(b:IsTup s.heap t items)(j:s.heap.IsSliceOf C vl vu .none)(pl:abE vl lo)(l:abE vu c)
  (n:¬(sIx items.size 0 lo=0/\sIx items.size items.size c=items.size))
  (h:Q (.ref s.heap.objs.size) {s with heap:=s.heap.push {cls:=.type "tuple",data:=.seq ((items.toList.drop (sIx items.size 0 lo)).take (sIx items.size items.size c - sIx items.size 0 lo)).toArray}})
  (d:items.size<=Xi):wpAny (model Z w) A (getItem (.ref t) (.ref C)) Q E s:=by
 let a:sizeOk (.seq ((items.toList.drop (sIx items.size 0 lo)).take (sIx items.size items.size c - sIx items.size 0 lo)).toArray):=by show((items.toList.drop (sIx items.size 0 lo)).take (sIx items.size items.size c - sIx items.size 0 lo)).toArray.size<=Xi;rw[Xo,Yb,ZD,Yf];ext
 let u:sIx items.size items.size c<=items.size:=Q4 _ _ (Xd _) c;let(m,e,g,o):=id j;let i:s.TypeIs (.ref C) "slice":=#[m,e,g];ext getItem
 try specialize Yp ?_
 first|show lD (W6 ?_)|skip
 show lD (ahh b.typeIs () ?_);show lD (Yk b.typeIs Yl
  (Yq Yl b.typeIs entry_tuple_getitem ?_ (args_tuple_getitem _ _)))
 show wpAny _ _ (XN.Tuple.tupleItemsOf (.ref t)>>=_) _ _ s;show lD (tupleItemsOf_ b ?_);show lD (aax i ?_);rw[ax ()];show lD (iY j pl l ?_);let f:¬((((sIx items.size 0 lo:Nat):Int)==0&&(1:Int)==1&&(sIx items.size items.size c - sIx items.size 0 lo)==items.size)=S):=by intro q;rw[WX,WX]at q;let r:=eq_of_beq q.1.1;let p:=eq_of_beq q.2;show n #[by ext,by ext]
 show wpAny _ _ (if(((sIx items.size 0 lo:Nat):Int)==0&&(1:Int)==1&&(sIx items.size items.size c - sIx items.size 0 lo)==items.size)=S then _ else _) _ _ s;rw[a4 f,E6]
 first
  |show lD (X9 (W6 #[_,W,W6 h]) a)
  |show lD (X9 (lD (W6 (W6 #[_,W,W6 h]))) a)
  |show lD (lD (X9 (W6 (W6 #[_,W,W6 h])) a))
  |show lD (lD (X9 (W6 #[_,W,W6 h]) a))
end
end HT
namespace L2
open PySem PySem.Spec PyProof.Rows
abbrev TO:=St->Hp->(I Int->Hp->Prop)->Prop
def PO(X:Cx)(e:I Xx)(t:TO):Prop:=
 ∀(a:G (M×Obj)) (s:W9) (b:St) (H:Hp) (Q:I Int->Hp->Prop),Inv X a b H s->t b H Q->
  wpAny (model X.prog X.w) X.A (evalPart e X.env) (λu f=>∃o g,Inv X a b g f/\abE u o/\Q o g) X.xe s
def A0:TO:=λ_ H Q=>Q P H
def Nu(t:TE):TO:=λa H Q=>t a H λx b=>∃i,x=.int i/\Q (R i) b
def lQ:∀{us:G J},Vals (ns.map V.int) us->IntsAre us ns:=by
 induction ns with
 |nil=>intro us r;rw[aai]at r;ext r;show .nil
 |cons n ns f=>
  intro us r;rw[Xq]at r;cases r with
  |cons b a=>let(t,e):=b;subst e;show .cons n t (f a)
section
variable{X:Cx}{e:Xx}{te:TE}{Z Y:bt Xx}{U S:TO}{pos R:Pos}
def KZ:PO X P A0:=by intro a s b H Q I h;rw[amf];show W6 #[P,H,I,.none,h]
def Jb(h:PE X e te):PO X (cL e) (Nu te):=by intro a s b H Q I j;rw[evalPart_some];show bU (h a s b H _ I j) λu n #[x,m,l,f,g]=>?_;let(i,rfl,q):=g;let(t,rfl):=f;show#[cL i,m,l,.int i t,q]
def Np(X:Cx)(r:V->I Int->I Int->Hp->VK->Prop):Prop:=
 ∀(a:G (M×Obj)) (s:W9) (b:St) (H:Hp) (x:V) (v g f:J) (Z Y:I Int) (h:M) (Q:VK),Inv X a b H s->RelV x v->s.heap.IsSliceOf h g f .none->abE g Z->abE f Y->r x Z Y H Q->
  ∃T id,typeLookup (.type T) "__getitem__"=pure (cL (.builtin id))/\s.TypeIs v T/\wpAny (model X.prog X.w) X.A (getItem v (.ref h)) (EP X a b Q) X.xe s
def VF(r:V->I Int->I Int->Hp->VK->Prop)(te:TE)(U S:TO):TE:=λa H Q=>te a H λx g=>U a g λl f=>S a f λu b=>r x l u b Q
def Hl{r:V->bt Int->bt Int->Hp->VK->Prop}(G:Np X r)(L:PE X e te)(J:PO X Z U)(E:PO X Y S):PE X (.Subscript e (.Slice Z Y Ld R) pos) (VF r te U S):=by intro a s g H Q I h;show Subscript_ (bU (L a s g H _ I h) λv o #[x,H1,w,p,B]=>?_);show wpAny_Slice (bU (J a o g H1 _ w B) λj n #[l,A,O,pl,y]=>bU (E a n g A _ O y) λi f #[u,m,I3,C,t]=>?_);rw[amf];show W6 ?_;let N:Inv X a g m {f with heap:=f.heap.push {cls:=.type "slice",data:=.fields #v[j,i,.none]}}:=I3.kept (t':=f.toks) λb ob q=>b3 _ q;let(T,id,M,F,K):=G a {f with heap:=f.heap.push {cls:=.type "slice",data:=.fields #v[j,i,.none]}} g m x v j i l u f.heap.objs.size Q N p (Heap.IsSliceOf.new ..) pl C t;show wpAny (model X.prog X.w) X.A (subscriptTail e (.Slice Z Y Ld R) v (.ref f.heap.objs.size)) (EP X a g Q) X.xe {f with heap:=f.heap.push {cls:=.type "slice",data:=.fields #v[j,i,.none]}};show tail_any (ops:=[.ref f.heap.objs.size,v]) F M K (by with_unfolding_all rfl)
def Du(xs:G V)(Z Y:I Int):G V:=(xs.drop (HT.sIx xs.length 0 Z)).take (HT.sIx xs.length xs.length Y - HT.sIx xs.length 0 Z)
def oJ(xs:G V)(Z Y:I Int):(Du xs Z Y).length<=xs.length:=by ext Du;rw[Yb,ZD];ext
def Th(K:CL):V->I Int->I Int->Hp->VK->Prop:=λx Z Y H Q=>∃a xs,x=.ref a/\SqT K H a xs/\
 ¬(HT.sIx xs.length 0 Z=0/\HT.sIx xs.length xs.length Y=xs.length)/\∀p,H p=P->Q (.ref p) (aR H p (.tup (Du xs Z Y)))
def Qe:Np X (Th X.K):=by
 intro g s u H x v y w Z Y A Q I l p pl m h;let(a,xs,rfl,n,o,q):=h;ext l;let(t,r,j,i):=I.tuple n;let f:t.toArray.size=xs.length:=by rw[Xo];show r.length.symm
 show#["tuple",_,Yl.lookup,j.typeIs,?_];show HT.getItem_tuple_cut j p pl m (by rw[f];show o) ?_ (by rw[f];show i);rw[f];show#[.ref s.heap.objs.size,_,I.laid (λb B q=>b3 _ q) (Xd _) ?_,W,q _ (I.Yn.fresh (Xd _))];show#[XT (oJ xs Z Y) i,_,(r.drop (HT.sIx xs.length 0 Z)).take (HT.sIx xs.length xs.length Y - HT.sIx xs.length 0 Z),ab5.new _ _]
def NS(K:CL):R2:=λx y H Q=>∃a b xs ys,x=.ref a/\y=.ref b/\SqT K H a xs/\SqT K H b ys/\xs≠[]/\xs.length+ys.length<=Xi/\
 (ys=[]->Q (.ref a) H)/\(ys≠[]->∀p,H p=P->Q (.ref p) (aR H p (.tup (xs++ys))))
def Vals.ac1(r:Vals xs us):us=[]↔xs=[]:=by
 cases r with
 |nil=>simp
 |cons _ _=>simp
def Mj:OpR X (Zl .Add) (NS X.K):=by intro i s B H x y v u Q I m l h;let(a,b,xs,C,rfl,rfl,K,t,r,j,o,n):=h;ext m;ext l;let(F,g,p,_):=I.tuple K;let(A,f,R,_):=I.tuple t;show HT.cat_tup p R (λz=>r (g.ac1.mp z)) (λz=>#[.ref a,H,I,W,o (f.ac1.mp z)]) (λz=>?_) (by rw[<-g.length,<-f.length];show j);show#[.ref s.heap.objs.size,_,I.laid (λb E q=>b3 _ q) (Xd _) ?_,W,n (λw=>z (f.ac1.mpr w)) _ (I.Yn.fresh (Xd _))];show#[by rw[Xf];show j,_,g.append f,ab5.new _ _]
end
def M5(n:Nat)(i:Int):I Nat:=if 0<=i then(if i<n then R i.toNat else P)else if -(n:Int)<=i then R (i+n).toNat else P
def lM(xs:G α)(i:Int):I α:=(M5 xs.length i).bind λj=>xs[j]?
def Jt(h:M5 n i=R j):seqIndex? i n=R j/\j<n/\ -(n:Int)<=i/\i<n:=by
 unfold M5 at h;by_cases b:0<=i
 .rw[ax b]at h
  by_cases a:i<n
  .rw[ax a]at h;let e:=Xj h;show#[by rw[seqIndex_of b a,e],by ext,by ext,a]
  .rw[a4 a]at h;ext h
 .rw[a4 b]at h
  by_cases a: -(n:Int)<=i
  .rw[ax a]at h;let e:=Xj h;show#[by rw[seqIndex_neg () a,e],by ext,a,by ext]
  .rw[a4 a]at h;ext h
def vL(h:lM xs i=R v):∃j,seqIndex? i xs.length=R j/\xs[j]?=R v/\j<xs.length/\ -(xs.length:Int)<=i/\i<xs.length:=by
 unfold lM at h;cases e:M5 xs.length i with
 |none=>rw[e]at h;ext h
 |some j=>rw[e]at h;let(g,f,b,a):=Jt e;show#[j,g,h,f,b,a]
def BP{j:Nat}(h:xs[j]?=R v):lM xs (j:Int)=R v:=by
 let a:=(W2.mp h).1;let e:M5 xs.length (j:Int)=R j:=by ext M5;rw[ax (),ax ()];simp
 ext lM;rw[e];show h
def Ab(b:Xx):Prop:=∀o i,subscripted b U o i=operate [o,i] (getItem o i)
def IxR(X:Cx)(r:R2):Prop:=
 ∀(e a:Xx) (b:G (M×Obj)) (s:W9) (f:St) (H:Hp) (x y:V) (v u:J) (Q:VK),Inv X b f H s->RelV x v->RelV y u->r x y H Q->
  subscripted a U v u=operate [v,u] (getItem v u)->wpAny (model X.prog X.w) X.A (subscriptTail e a v u) (EP X b f Q) X.xe s
def RL(X:Cx)(id:String)(r:V->G V->Hp->VK->Prop):Prop:=
 ∀(a:G (M×Obj)) (s:W9) (b:St) (H:Hp) (x:V) (xs:G V) (v:J) (e:G J) (Q:VK),Inv X a b H s->RelV x v->Vals xs e->r x xs H Q->
  wpAny (model X.prog X.w) X.A (call (.builtin id) (v::e)) (EP X a b Q) X.xe s
section
variable{X:Cx}{a b:Xx}{ta tb:TE}{pos:Pos}
def IxR.or(h:IxR X r)(c:IxR X r'):IxR X (λx y H Q=>r x y H Q\/r' x y H Q):=by
 intro e f g s i H x y v u Q I l j q m;rcases q with q|q
 .show h e f g s i H x y v u Q I l j q m
 .show c e f g s i H x y v u Q I l j q m
def M6{r:R2}(m:IxR X r)(c:PE X a ta)(n:PE X b tb)(l:Ab b):PE X (.Subscript a b pos) (DC r ta tb):=by intro e s f H Q I h;show Subscript_ (Pt c n I h λv u g x y p o j i q=>m a b e g f p x y v u Q o j i q (l _ _))
def Tn(K:CL):R2:=λx y H Q=>∃p xs i v,x=.ref p/\y=.int i/\SqL K H p xs/\lM xs i=R v/\Q v H
def SG(K:CL):R2:=λx y H Q=>∃p xs i v,x=.ref p/\y=.int i/\SqT K H p xs/\lM xs i=R v/\Q v H
def TR:R2:=λx y H Q=>∃z i c,x=.str z/\y=.int i/\z.length<=Xi/\lM z.cps.toList i=R c/\Q (.str #[#v[c]]) H
def LC:IxR X (Tn X.K):=by
 intro l m e s E H x y v u Q I G F h A;let(p,xs,i,z,rfl,rfl,J,M,q):=h;ext G;let(t,rfl):=F;let(R,r,pl,S):=I.list J;let(j,g,P,T,O,N):=vL M;let(w,C,n):=r.get P;let L:=r.length;let K:=uW;let f:EP X e E Q w s:=#[z,H,I,n,q];by_cases B:0<=i
 .let o:i.toNat=j:=by
   rw[seqIndex_of B N]at g;show Xj g
  show item_listR pl.isList B () (by rw[o];simpa using C) f A
 .let o:(i+(R.toArray.size:Int)).toNat=j:=by
   rw[seqIndex_neg () O]at g;rw[Xo,<-L];show Xj g
  show subscriptTail_builtinR pl.isList.typeIs ahi.lookup
   (wpAny_getItem_list_neg pl.isList () (by rw[Xo]<;>ext) () (by rw[o];simpa using C) #[W,f]) A
def QS:IxR X (SG X.K):=by
 intro f g e s n H x y v u Q I A o h B;let(p,xs,i,z,rfl,rfl,C,F,q):=h;ext A;let(t,rfl):=o;let(R,r,pl,M):=I.tuple C;let(j,J,G,P,O,N):=vL F;let(w,L,l):=r.get G;let E:=r.length;let K:=uW;let m:EP X e n Q w s:=#[z,H,I,l,q];show subscriptTail_builtinR pl.typeIs slot_tuple_getitem.lookup
  (getItem_tuple pl () () (by rw[Xo,<-E];show J) (by simpa using L) #[W,m]) B
def Qn:IxR X TR:=by
 intro e f g s C H x y v u Q I n m h o;let(z,i,c,rfl,rfl,F,r,q):=h;let(t,rfl):=n;let(E,rfl):=m;let(j,l,B,G,A,w):=vL r;let p:z.cps.toList.length=z.length:=by simp[Str.length]
 rw[p]at l A w;let K:=uW;show tail_any (adI s z t) slot_str_getitem.lookup (getItem_str (by let e1:decide (i< -(2^63:Int))=U:=a6 ();let e2:decide (i≥2^63)=U:=a6 ();rw[e1,e2,agA]) (by rw[l];simpa using B) #[.str #[#v[c]],H,I.tok _,#[_,W],q]) o
def TH(K:CL):R2:=λx y H Q=>Tn K x y H Q\/SG K x y H Q\/TR x y H Q
theorem Gk:IxR X (TH X.K):=LC.or (QS.or Qn)
def vW(lo c:I Int)(n:Nat):(sliceBounds lo c P n).1=((HT.sIx n 0 lo:Nat):Int)/\(sliceBounds lo c P n).2.1=((HT.sIx n n c:Nat):Int)/\(sliceBounds lo c P n).2.2=1:=by
 show#[?_,?_,W]
 .cases lo with
  |none=>simp[sliceBounds,HT.sIx]
  |some i=>
   simp only[sliceBounds,HT.sIx,aeI,show(1:Int)>0 by decide,if_true];by_cases h:i<0
   .simp only[h,if_true]<;>ext
   .simp only[h,if_false]<;>ext
 .cases c with
  |none=>simp[sliceBounds,HT.sIx]
  |some i=>
   simp only[sliceBounds,HT.sIx,aeI,show(1:Int)>0 by decide,if_true];by_cases h:i<0
   .simp only[h,if_true]<;>ext
   .simp only[h,if_false]<;>ext
def sI(e:G J)(lo c:I Int):slicePick e.toArray lo c P=((e.drop (HT.sIx e.length 0 lo)).take (HT.sIx e.length e.length c - HT.sIx e.length 0 lo)).toArray:=by let(h,g,f):=vW lo c e.toArray.size;ext slicePick;rw[h,g,f];simp only[sliceRange_one,pick_run,Xo]<;>rfl
def TF(K:CL):V->I Int->I Int->Hp->VK->Prop:=λx lo e H Q=>∃a xs,x=.ref a/\SqL K H a xs/\∀p,H p=P->Q (.ref p) (aR H p (.lst (Du xs lo e)))
def Ja:Np X (TF X.K):=by intro f s o H x v t p lo A u Q I i n pl j h;let(a,xs,rfl,m,q):=h;ext i;let(y,r,g,l):=I.list m;let e:=r.length;show#["list",_,ahi.lookup,g.isList.typeIs,?_];show wpAny_getItem_list_slice g.isList n pl j .none (by simp) ?_ (by rw[Xo]<;>ext);rw[sI,<-e];show#[.ref s.heap.objs.size,_,I.laid (λb w q=>b3 _ q) (Xd _) ?_,W,q _ (I.Yn.fresh (Xd _))];show#[XT (oJ xs lo A) l,_,0,(r.drop (HT.sIx xs.length 0 lo)).take (HT.sIx xs.length xs.length A - HT.sIx xs.length 0 lo),b5 _ W]
def Zf.or(h:Zf X f r)(c:Zf X f r'):Zf X f (λxs H Q=>r xs H Q\/r' xs H Q):=by
 intro e s g H xs i Q I j q;rcases q with q|q
 .show h e s g H xs i Q I j q
 .show c e s g H xs i Q I j q
def uu:Zf X (.type "list") (λxs H Q=>∃p ys,xs=[.ref p]/\(SqL X.K H p ys\/SqT X.K H p ys)/\∀l,H l=P->Q (.ref l) (aR H l (.lst ys))):=by
 intro m s G H xs L Q I r h;let(p,ys,rfl,y,q):=h;let(u,rfl,J):=im r;ext J
 let B:∀(g:bg WY),Vals ys g->ys.length<=Xi->∀(f:Heap) (j:Nat),(∀b w,s.heap.get? b=R w->f.get? b=R w)->
   f.get? s.heap.objs.size=R {cls:=.type "list",dict:=P,data:=.seq g.toArray j,slots:= #v[]}->EP X m G Q (.ref s.heap.objs.size) {s with heap:=f}:=λg i v f j t e=>
  #[.ref s.heap.objs.size,_,I.laid t (Xd _) (show ObjOk X.prog X.w _ f _ (.lst ys)from#[v,g,j,i,e]),W,q _ (I.Yn.fresh (Xd _))]
 rcases y with y|y
 .let(g,i,pl,v):=I.list y;let A:=i.length;let(o,C,F,n,E):=pl.isList;show amg p (.inl W) C F E (λf j t e=>B g i v f j t e) (by simp only[Xo]<;>ext)
 .let(g,i,pl,v):=I.tuple y;let A:=i.length;let(o,C,F,n,E):=pl;show amg p (.inr W) C F E (λf j t e=>B g i v f j t e) (by simp only[Xo]<;>ext)
def sJ:Zf X (.type "tuple") (λxs H Q=>∃p ys,xs=[.ref p]/\((SqL X.K H p ys/\∀l,H l=P->Q (.ref l) (aR H l (.tup ys)))\/(SqT X.K H p ys/\Q (.ref p) H))):=by
 intro i s C H xs E Q I r h;let(p,ys,rfl,h):=h;let(u,rfl,v):=im r;ext v;rcases h with⟨g,q⟩|⟨g,q⟩
 .let(n,f,pl,j):=I.list g
  let m:=f.length;show call_tuple_list pl.isList (λA y=>?_) (by simp only[Xo]<;>ext);let t:=I.kept (t':=s.toks) y
  let B:=
   t.laid (t':=s.toks) (λb o e=>b3 _ e) (Xd _) (show ObjOk X.prog X.w _ _ _ (.tup ys)from#[j,n,f,ab5.new _ _])
  show#[.ref A.objs.size,_,B,W,q _ (t.Yn.fresh (Xd _))]
 .let(n,f,pl,j):=I.tuple g;show call_tuple_same pl #[.ref p,H,I,W,q]
def Va(K:CL)(T:String)(x:V)(H:Hp):Prop:=match x with
 |.str _=>T= "str"
 |.int _=>T= "int"
 |.ref p=>(T= "list"/\∃xs,SqL K H p xs)\/(T= "tuple"/\∃o,K.lookup p=R o/\o.cls=.type "tuple"/\o.dict=P)\/
   (T= "dict"/\((∃e,H p=R (.dK e))\/∃e,H p=R (.dT e)))\/(T= "set"/\∃S n,H p=R (.set S n))
 |_=>False
def GS(I:Inv X pins σ H s)(r:RelV x v)(ty:Va X.K T x H):
  s.TypeIs v T/\∀a,v=.ref a->∃d,s.heap.get? a=R d/\d.dict=P:=by
 cases x with
 |str z=>let(t,rfl):=r;cases(show T= "str" from ty);show#[adI s z t,λ_ e=>nomatch e]
 |int i=>let(t,rfl):=r;cases(show T= "int" from ty);show#[ach s i t,λ_ e=>nomatch e]
 |ref p=>
  ext r;rcases ty with⟨rfl,xs,j⟩|⟨rfl,o,f,l,h⟩|⟨rfl,f⟩|⟨rfl,S,n,f⟩
  .let(m,_,pl,_):=I.list j;show#[pl.isList.typeIs,λa e=>?_];ext e;let(o,n,e,c,h,_):=pl;show#[o,e,h]
  .show#[#[o,I.kIn p o f,l],λa e=>?_];ext e;show#[o,I.kIn _ o f,h]
  .let z:∃o,s.heap.get? p=R o/\o.ExactDict:=by
    rcases f with⟨q,f⟩|⟨q,f⟩
    .let(_,_,_,_,o,_,_,e,g,_):=I.Yn p _ f;show#[o,e,g]
    .let(_,_,_,_,o,_,_,e,g,_):=I.Yn p _ f;show#[o,e,g]
   let(o,e,g):=z;show#[#[o,e,g.1],λa e2=>?_];ext e2;show#[o,e,g.2.1]
  .let(o,_,_,_,e,g,_):=I.Yn p _ f;show#[#[o,e,g.1],λa e2=>?_];ext e2;show#[o,e,g.2.1]
 |_=>show False.elim ty
def Sf(K:CL)(T:String)(r:V->G V->Hp->VK->Prop)(to:TE):TE:=λf H Q=>to f H λx e=>Va K T x e/\r x [] e Q
def RK(K:CL)(T:String)(r:V->G V->Hp->VK->Prop)(to:TE)(t:TA):TE:=λe H Q=>to e H λx f=>Va K T x f/\t e f λxs g=>r x xs g Q
variable{o e:Xx}{es:bg Xx}{to:TE}{t:TA}{name:Str}{Z Y:Pos}{T U:String}{r:V->bg V->Hp->VK->Prop}
def Px(c:PlainAttrs T)(slot:Slot T name U)(g:typeOf (.builtin U)=pure (.type "method_descriptor"))(hm:RL X U r)(u:PE X o to)
  (j:attributeBase o name X.env (eval o X.env)=eval o X.env:=by rfl) (i:(Z.endLine==Y.line)=S:=by rfl):PE X (.Call (.Attribute o name Z) [] [] Y) (Sf X.K T r to):=by
 intro f s l H Q I h;show wpAny_Call_method0_late j i (bU (u f s l H _ I h) λv p #[x,A,n,m,ty,q]=>?_);let(y,w):=GS n m ty;show#[T,U,c,slot,g,y,w,Calls.callWith_builtin W (PySem.evalArgs_none (hm f p l A x [] v [] Q n m .nil q))]
def NC(c:PlainAttrs T)(slot:Slot T name U)(i:typeOf (.builtin U)=pure (.type "method_descriptor"))(hm:RL X U r)(G:PE X o to)(d:PA X (e::es) t)
  (n:attributeBase o name X.env (eval o X.env)=eval o X.env:=by rfl)
  (j:((backTo Y (Xr (e::es) X.env)).all (λx=> !x.1)&&(backToKw Y (keywordEach [] X.env)).all (λx=>x.1.isSome)
   &&decide ((e::es).length+([]:bg aaP).length+(if([]:bg aaP).isEmpty then 0 else 1)<30))=S:=by rfl)
  (l:(Z.endLine==Y.line)=S:=by rfl) (F:Xr (e::es) X.env=(W3,eval e X.env)::Xr es X.env:=by rfl) (m:(backTo Y (Xr es X.env)).any (·.1)=W3:=by rfl):
  PE X (.Call (.Attribute o name Z) (e::es) [] Y) (RK X.K T r to t):=by
 intro f s g H Q I h;show wpAny_Call_method_late n j l W (bU (G f s g H _ I h) λv A #[x,O,u,p,ty,E]=>?_);let(L,J):=GS u p ty;show#[T,U,c,slot,i,L,J,?_];let q:=d Y f A g O _ u E;rw[F]at q⊢;show Calls.callWith_builtin (by show(W3||(backTo Y (Xr es X.env)).any (·.1))=W3;rw[m]<;>rfl) (Calls.evalArgs_plain ?_);show bU q λw y #[vs,N,K,B,C]=>hm f y g N x vs v w Q K p B C
end
def WP(X:Cx)(id:String)(r:V->G V->Hp->VK->Prop):Prop:=
 ∀(a:G (M×Obj)) (s:W9) (b:St) (H:Hp) (x:V) (xs:G V) (v:J) (e:G J) (Q:VK),Inv X a b H s->RelV x v->Vals xs e->r x xs H Q->
  wpAny (model X.prog X.w) X.A (call (.builtin id) (v::e)) (EP X a b Q) X.xe s
theorem Vals.one:∀{x:V} {us:G J},Vals [x] us->∃u,us=[u]/\RelV x u
 |_,_,.cons r .nil=>#[_,W,r]
theorem Vals.rep(h:Vals xs us):∀k:Nat,Vals (Xh k xs).flatten (Xh k us).flatten
 |0=>.nil
 |k+1=>by rw[Ym,Ym,Y8,Y8];show Vals.append h (Vals.rep h k)
theorem nK(a:G J):∀(k:Nat) (acc:G J),
  aaQ (λc b=>c++b) acc.toArray (Xh k a.toArray)=(acc++(Xh k a).flatten).toArray
 |0,acc=>by simp
 |k+1,acc=>by
  let e:acc.toArray++a.toArray=(acc++a).toArray:=by simp
  let e2:(acc++a)++(Xh k a).flatten=acc++(Xh (k+1) a).flatten:=by rw[Ym,Y8,XZ]
  rw[<-e2,<-nK a k (acc++a),<-e,Ym,aaX]
section
variable{X:Cx}{Z:bg (W7×Obj)}{Y:St}{H:Hp}{s:W9}{l b:W7}{Q T O:bg V}
def Inv.alj{g a:G J}(I:Inv X Z Y H s)(o:H l=R (.lst Q))
  (e:s.heap.get? l=R {cls:=.type "list",data:=.seq g.toArray n}) (j:f g.toArray=a.toArray) (h:Vals T a) (c:T.length<=Xi):
  Inv X Z Y (aR H l (.lst T)) {s with heap:=s.heap.update l (Obj.mapSeq f),toks:=t'}:=by
 let q:=an7 e f;rw[j]at q;show I.write (by rw[o];show trivial) (.inl W) (λp u m i=>(b7 s.heap (Obj.mapSeq f) (c9 m)).trans i) #[_,q] ?_;show#[c,a,_,h,q]
theorem Inv.aiR(I:Inv X Z Y H s)(a:Vals T X3)(c:T.length<=Xi):
  Inv X Z Y (aR H s.heap.objs.size (.lst T)) {s with heap:=s.heap.push {cls:=.type "list",data:=.seq X3.toArray},toks:=t'}:=
 I.laid (λ_ _ q=>b3 _ q) (Xd _) #[c,X3,0,a,b5 _ W]
theorem Inv.fresh(I:Inv X Z Y H s):H s.heap.objs.size=P:=I.Yn.fresh (Xd _)
def Inv.aiy(I:Inv X Z Y H s)(f:H l=R (.lst Q)):Q.length<=Xi/\∃(a:G J) (n:Nat),Vals Q a/\Q.length=a.length/\s.heap.get? l=R {cls:=.type "list",data:=.seq a.toArray n}:=by let(z,a,n,r,e):=I.Yn l _ f;show#[z,a,n,r,r.length,e]
def HK(h:n<=Xi):XN.List.listTooLong n=U:=by ext XN.List.listTooLong;show a6 ()
end
section
variable{X:Cx}
def vt:V->G V->Hp->VK->Prop:=λx a H Q=>∃l xs y,x=.ref l/\a=[y]/\H l=R (.lst xs)/\xs.length<Xi/\Q .Zk (aR H l (.lst (xs++[y])))
def nV:WP X "list.append" vt:=by intro a s j H x w v m Q I f t h;let(l,xs,y,rfl,rfl,b,o,q):=h;ext f;let(u,rfl,g):=t.one;let(z,i,n,r,p,e):=I.aiy b;show aaJ F.slot_list_append #[_,e,W] F.entry_list_append (F.args_list_append_2 _ _) (PySem.list_append l i.toArray n u (by rw[Xo];ext)) #[e,?_];show#[.Zk,_,I.alj b e (by simp) (r.append (.cons g .nil)) ?_,W,q];rw[Xf,Z1];ext
def Am(xs:G α)(k:Nat):(Xh k xs).flatten.length=k*xs.length:=by
 induction k with
 |zero=>simp
 |succ k a=>rw[Ym,Y8,Xf,a,ahV,adJ]
end
section
variable{Z:Xu}{w:XQ}{A:XJ}{E:WY->W9->Prop}{s:W9}
set_option maxRecDepth 100000 in
end
end L2
namespace Att
open PySem PySem.W PySem.Calls PyProof.Rows
def pG:∀(e:G Int) (c:G J),WellAll g h c (e.map WData.int)->IntsAre c e:=by
 intro e
 induction e with
 |nil=>intro c w;rw[aai]at w;ext w;show .nil
 |cons n e f=>
  intro c w;rw[Xq]at w;cases w with
  |cons a b=>ext a;show .cons _ _ (f _ b)
def Dx{l:OpenLaw}(k:l.most=R n)
  (e:l.row.toRowW.claim.pre args=S) (i:WellAll B h vals args):
  ∃a c ns,vals=[WY.ref a]/\args=[WData.list (ns.map WData.int)]/\h.get? a=R {cls:=.type "list",data:=.seq c.toArray}/\IntsAre c ns/\ns.length<=n:=by
 let j:=(pre_splitW e).1;let o:l.pre.holds [] {args:=args}=S:=(pre_splitW e).2;let(d,r,rfl,A,y):=hasAllW_cons j;obtain rfl:=hasAllW_nil y;let(xs,rfl,w):=hasW_list A;let(ns,rfl):=items_int w;let b:ns.length<=n:=by
  unfold OpenLaw.pre at o;let g:(WTm.not (.lt (.lit (.int (n:Int))) (.len (.arg 0)))).holds [] {args:=[.list (ns.map .int)]}=S:=by let g:=(holds_andW o).1;rw[k]at g;show g
  let f:=condW_of g (w_not (w_lt w_lit (w_len_list (w_arg W))));rw[W0]at f;show Nat.le_of_not_lt λq=>?_;let u:(n:Int)<((ns.length:Nat):Int):=by ext
  first
   |(rw[a5 u]at f;show bb f ())
   |(simp at f;ext)
 cases i with
 |cons t p=>
  ext p;cases t with
  |list v m=>show#[_,_,ns,W,W,v,pG ns _ m,b]
theorem Ch(l:OpenLaw)(args:G WData):l.row.toRowW.claim.post args (.bool S) args=S:=
 postW_of
  (show WShape.has [] (.bool S) .bool=S by first|rfl|decide|simp[WShape.has,WShape.arms,WShape.armsAll])
  (show(WTm.eq .res (.lit (.bool S))).value [] {args:=args,res:=R (.bool S),after:=args}=R (.bool (S==S))from w_eq_bool (w_res W) w_lit) W
def attach_call{l:OpenLaw}{n:Nat}{q:Xu}{e:bg Str}{J:(Str->bt WY)->Heap->Prop}{I:XQ->Heap->Prop}{d:DefRec}
  (D:l.most=cL n) (y:d.params.defaults=[])
  (call:∀(w:XQ) (c b:W9) (z t:Str->bt WY) (s:W7) (o:Obj) (p m h:WY) (a:W7) (k:bg WY) (j:bg Int),
   Ground q e [] J w c z t b.heap->I w b.heap->
   b.heap.get? s=cL o->o.data=.func (docDef d.name d.params d.body d.scope p m h)->b.heap.CodeRec m d.name->z d.name=cL (.ref s)->
   b.heap.get? a=cL {cls:=.type "list",data:=.seq k.toArray}->IntsAre k j->j.length<=n->b.gens= #v[]->
   codeAny (model l.prog w) callerA (.call (.ref s) #[[.ref a],[]]) (λr x=>r=.ok (.ret (.bool WZ))/\OldK b.heap x.heap/\x.os=b.os/\AllBare x.gens) b):
  WalkO q e J I l.row.toRowW d [] (λf k=>ahW f k):=by
 intro w c b z t G Y s o p m h T kV M P A F v O H E as C U K u N;obtain rfl:T=.none:=Dflts.none F y;obtain rfl:kV=.none:=Dflts.noKw F;let(a,k,j,rfl,rfl,B,g,i):=Dx D C u;show enter_call (aav (call w c b z t s o p m h a k j G Y M (fd_plain P) A v B g i O) λr x L=>?_);let(rfl,S,R,Q):=L;show#[.inl #[.bool WZ,.bool WZ,[],W,λ_=>W,.bool WZ,Ch l _,λ_=>#[aaY,λ_ hm=>(nomatch hm)]],S,R,Q]
end Att
namespace L2
open PySem PySem.Spec PyProof.Rows
theorem iQ:∀{b:G J} {a:G Int},IntsAre b a->Vals (a.map V.int) b
 |_,_,.nil=>.nil
 |_,_,.cons n t h=>.cons #[t,W] (iQ h)
def TY(H:Hp):Prop:=∀b,H b=P\/∃o xs,H b=R (.frz o (.lst xs))
def Ef{P:Xu}{w:XQ}{K:CL}{mg E:Str->bt WY}{X:uX}{k:Nat}{fa a:W7}{fd:Yj}{x:Str}{sp:Sp}{f:W9}{D:bg WY}{p:bg Int}
  (U:K.In f.heap) (t:f.heap.Ns Xv mg) (g:f.heap.Ns builtinsNs E) (I:∀x:Str,x≠ "__name__"->E x=X7 x) (O:f.heap.NoLimit) (hg:f.gens= #v[])
  (ha:f.heap.get? a=cL {cls:=.type "list",data:=.seq D.toArray}) (hi:IntsAre D p) (R:p.length<=Xi) (hr:Y1 k callerA)
  (F:∀base:Heap,K.In base->base.Ns Xv mg->FnOk P w K mg base X k fa fd [x] sp) (Q:∀(s:W9) (u:WY),abh s fd #[[u],[]] [(x,u)])
  (G:∀H:Hp,TY H->SqL K H a (p.map V.int)->sp [.ref a] H (λv _=>v=.bl WZ) λ_ _ _=>False)
  (J:∀H e c,X [] H f (λ_ _ _=>False) e c->False):
  codeAny (model P w) callerA (.call (.ref fa) #[[.ref a],[]]) (λr c=>r=.ok (.ret (.bool WZ))/\OldK f.heap c.heap/\c.os=f.os/\AllBare c.gens) f:=by
 let rv:=iQ hi;let M:=hi.length
 let j:∀H:Hp,TY H->SqL K H a (p.map V.int)->HOk P w H f.heap->(∀b,H b≠Ld->b=a)->(H a≠Ld->K.lookup a=Ld)->
   codeAny (model P w) callerA (.call (.ref fa) #[[.ref a],[]]) (λr c=>r=.ok (.ret (.bool WZ))/\OldK f.heap c.heap/\c.os=f.os/\AllBare c.gens) f:=by
  intro H S hS Yn T hK;let fP:∀{b:W7} {o:Obj},f.heap.get? b=cL o->H b=Ld->(uG f.heap H).get? b=cL o:=λe n=>Gc e n;let C:∀{b:W7} {o:Obj} {es:Array Y3} {A:Nat},f.heap.get? b=cL o->o.data=.dict es A->H b=Ld:=λ{b o es A} e d=>by
   cases q:H b with
   |none=>rfl
   |some u=>let L:b=a:=T b (by rw[q];simp);subst L;rw[ha]at e;ext e;let d':Data.seq D.toArray _=Data.dict es A:=d;ext d'
  let i:∀{b:W7} {m:Str->bt WY},f.heap.Ns b m->(uG f.heap H).Ns b m:=λ{b m} #[o,es,A,e,d,r]=>#[o,es,A,fP e (C e d),d,r];let y:K.In (uG f.heap H):=λb o e=>fP (U b o e) (by
   cases q:H b with
   |none=>rfl
   |some u=>let L:b=a:=T b (by rw[q];simp);subst L;rw[hK (by rw[q];simp)]at e;ext e)
  let hM:Mod K mg (uG f.heap H):=#[y,i t,#[E,i g,I],let#[mc,h1,h2]:=O;#[mc,i h1,h2]];let e0:Env0 P w K mg (uG f.heap H) callerA [] f H:=#[W,hM,λb o e=>LW e,ahT (C5 _ _),trivial,λb g=>bb (show b∈([]:bg W7)from g) (by simp),Yn,.of_eq hg];show aav ((F _ y (i t)).run callerA [] f H #[[.ref a],[]] [.ref a] [.ref a] _ _ hr e0 (Q f (.ref a)) (.cons W .nil) (G H S hS)) λr c h=>?_;cases r with
  |error e=>show(J H e c h).elim
  |ok fl=>
   cases fl with
   |next=>show False.elim h
   |brk=>show False.elim h
   |cont=>show False.elim h
   |ret u=>
    let(v,H',os,B,un,N,Z,q):=h;let q':v=.bl WZ:=q;subst q';obtain rfl:u=WY.bool WZ:=Z;show#[W,OldK.of_keep λb o e=>?_,os,B];cases q:H b with
    |none=>show un.keep b o e q (by intro z;show bb (show b∈([]:bg W7)from z) (by simp)) (by simp)
    |some u=>
     rcases S b with z|⟨ob,xs,z⟩
     .rw[q]at z;ext z
     .let Y:=un.abM b ob _ z;let(e1,_):=Yn b _ z;let(e2,_):=N b _ Y;rw[e]at e1;ext e1;show e2
 cases hk:K.lookup a with
 |some o=>let e:=U a o hk;rw[ha]at e;ext e;show j (λ_=>Ld) (λ_=>.inl W) (.inr #[_,D.toArray,_,hk,W,W,W,by rw[Xo,M];show R,by simpa using rv]) (λb u z=>by let l:(Ld:bt HO)=cL u:=z;ext l) (λb z=>bb W z) λz=>bb W z
 |none=>
  show j (λb=>if b=a then cL (.frz {cls:=.type "list",data:=.seq D.toArray} (.lst (p.map V.int)))else Ld) (λb=>?_) (.inl (.inr #[{cls:=.type "list",data:=.seq D.toArray},ax W])) (λb u z=>?_) (λb z=>?_) λ_=>hk
  .by_cases g:b=a
   .show .inr #[_,_,ax g]
   .show .inl (a4 g)
  .by_cases g:b=a
   .let l:=(ax g).symm.trans z;ext l;subst g;show#[ha,by rw[W0];show R,D,_,rv,ha]
   .let l:=(a4 g).symm.trans z;ext l
  .by_cases g:b=a
   .show g
   .show bb (a4 g) z
def aN(s:YL)(j:Nat):YL:=match s with
 |.ClassDef _ _ _ body _ _ _ _ _ _ _=>body.getD j (.Pass #[0,0,0,0])
 |_=>.Pass #[0,0,0,0]
def eT(s:YL):Arguments:=match s with
 |.FunctionDef _ a _ _ _ _ _ _ _ _=>a
 |_=>{posonlyargs:=[],args:=[],vararg:=P,kwonlyargs:=[],kw_defaults:=[],kwarg:=P,defaults:=[]}
def bW(s:YL):G YL:=match s with
 |.FunctionDef _ _ b _ _ _ _ _ _ _=>b
 |_=>[]
def au(s:YL):Y9:=match s with
 |.FunctionDef _ _ _ _ _ _ sc _ _ _=>sc
 |_=>{kind:=.function,names:=[],isGenerator:=U,isCoroutine:=U}
abbrev kX:uX:=λ_ _ _ _ _ _=>False
abbrev E0:XK:=λ_ _ _=>False
theorem Hc:dW kX X E0:=λ_ _ _ _ _ _ _ h=>h.elim
structure Fun(K:CL)(x qual:Str)(st:YL)(f:M)(fd:Yj):Prop where
 ex:∃(oc:J) (od:I M) (kV doc pm:J) (an:I M) (YZ ct:J) (osl:Array (I J)),
  fd=Yz x qual (eT st) (bW st) (au st) .none kV doc pm an YZ ct/\K.lookup f=R #[oc,od,.func fd,osl]/\aae K YZ qual=S
 kp:YI K (.ref f)=S
section
variable{P:Xu}{w:XQ}{K:CL}{Z:Str->bt WY}{base:Heap}
def Fun.ok{x a:Str}{st:YL}{f:M}{fd:Yj}{N d:G Str}{k:Nat}{sp:Sp}(F:Fun K x a st f fd)(S:Zj N d (au st))(len:∀c H Q E,sp c H Q E->c.length=d.length)
  (n:∀(b:J) (A:XJ) (outer:G Env) (s:W9) (H:Hp) (c:G V) (Q:VK) (E:XK),Y1 k (A.deeper (envOfC a (au st) s.heap.objs.size f b))->sp c H Q E->
   ∃t,PSs (fC kX P w K Z base N a (au st) f b A outer s H E).nox (bW st) t/\t {nx:=λ_ v=>Q .Zk v,rt:=Q} (start N c) H):FnOk P w K Z base kX (k+1) f fd d sp:=by
 let(r,p,kV,m,o,u,b,ct,i,rfl,j,g):=F.ex;show DR j g S len λA outer s H c Q E l e=>?_;let(t,h,q):=n b A outer s H c Q E l e;show#[t,h.nox,q]
def Fun.binds{x a:Str}{st:YL}{f:M}{fd:Yj}{ps:G Str}(F:Fun K x a st f fd)
  (h:∀(kV b e:J) (g:I M) (i ct:J) (us:G J),us.length=ps.length->bindArgs (Yz x a (eT st) (bW st) (au st) .none kV b e g i ct) #[us,[]]=pure (ps.zip us)):Binds K fd ps []:=by
 let(n,m,kV,b,e,g,i,ct,j,rfl,o,l):=F.ex;show .all (h kV b e g i ct)
theorem F5{st:YL}{kV a e b ct:J}(l:K.lookup f=R #[oc,C,.func (Yz x qual (eT st) (bW st) (au st) .none kV a e an b ct),o])
  (c:aae K b qual=S) (k:YI K (.ref f)=S):Fun K x qual st f (Yz x qual (eT st) (bW st) (au st) .none kV a e an b ct):=#[#[oc,C,kV,a,e,an,b,ct,o,W,l,c],k]
end
theorem Ix(a:Y1 k A):A.units+1<cLine:=aeW (Nat.add_le_add_left (by decide:1<=64) _) a.units
section
variable{X:Cx}
theorem pv(i:Nat)(e:X.N[i]?=R x:=by rfl)(b:Sa X.env.scope x:=by first|show Or.inl W|show Or.inr (Or.inl W)|show Or.inr (Or.inr W))(hd:(x==("__debug__":Str))=U:=by decide)
  (a:(x==("__classdict__":Str))=U:=by decide):PE X (.Name x pos) (nA i):=Iy e b hd a
end
def YN(H a:Hp):Prop:=∀b o,H b=R o->a b=R o
theorem YN.refl(H:Hp):YN H H:=λ_ _ h=>h
theorem YN.trans(a:YN H H1)(b:YN H1 H2):YN H H2:=λc o h=>b c o (a c o h)
def YN.free(e:YN H H')(h:H' l=P):H l=P:=by
 cases q:H l with
 |none=>rfl
 |some o=>rw[e l o q]at h;ext h
end L2
set_option maxHeartbeats 4000000
namespace L2
open PySem PySem.Spec PyProof.Rows
section
variable{X:Cx}{Z:bg (W7×Obj)}{T:St}{H:Hp}{s:W9}{Y:Heap}
def Inv.ad5{ch:G M}(I:Inv X Z T H s)(i:∀b∈ch,oh X Z H b)
  (k:∀b u,b∉ch->s.heap.get? b=R u->Y.get? b=R u) (l:s.heap.objs.size<=p)
  (new:ObjOk X.prog X.w (aR H p o) Y p o):Inv X Z T (aR H p o) {s with heap:=Y,toks:=t'}:=by
 let w:=I.Yn.fresh l;let f:∀b u,H b=R u->b∉ch:=λb u e z=>by rw[(i b z).1]at e;ext e
 let h:∀b u,s.heap.get? b=R u->b≠p:=λb u e=>Xy (Xz (b4 e) l);show I.step (λb g=>?_) (λb u _ _ a e _=>k b u a e) (λb u _ _ a e _=>#[u.slots,k b u a e])
  (λb u _ e n=>by rw[ar (h b u e)];show n) (λb u a e=>#[u,k b u a e]) (λb xs e=>by rw[ar (bC e w)];show e)
  (λb u xs e=>by rw[ar (bC e w)];show e) (λb K e=>#[#v[],by rw[ar (bC e w),e];simp]) (λm hm=>?_) (λb u e=>?_) I.bare
 .let(_,C,_,B,A,y):=i b g;show#[B,C,A,y]
 .let(j,es,E,t,r):=hm;show#[j,es,E,k _ j (λz=>(i _ z).2.1 W) t,r]
 .by_cases g:b=p
  .subst g;rw[ay]at e;ext e;show new
  .rw[ar g]at e
   show(I.Yn b u e).aaO (λc v a q=>k c v ?_ q) (λc q=>by rw[ar (bC q w)];show q) λc xs q=>by rw[ar (bC q w)];show q
   rcases a with z|z
   .rw[z];show f b u e
   .show f c _ z
end
mutual
inductive DV(K:CL)(H:Hp):V->Xa->Prop
 |Zk:DV K H .Zk .none
 |bl (b:Bool):DV K H (.bl b) (.bool b)
 |int (i:Int):DV K H (.int i) (.int i)
 |str (x:Str):DV K H (.str x) (.str x)
 |tup {a:W7} {xs:bg V} {ds:bg Xa}:SqT K H a xs->YE K H xs ds->DV K H (.ref a) (.tuple ds)
 |lst {a:W7} {xs:bg V} {ds:bg Xa}:SqL K H a xs->YE K H xs ds->DV K H (.ref a) (.list ds)
inductive YE(K:CL)(H:Hp):bg V->bg Xa->Prop
 |nil:YE K H [] []
 |cons {v:V} {vs:bg V} {d:Xa} {ds:bg Xa}:DV K H v d->YE K H vs ds->YE K H (v::vs) (d::ds)
end
section
variable{X:Cx}{Z:bg (W7×Obj)}{σ:St}{H:Hp}{s:W9}
mutual
theorem DV.reads(I:Inv X Z σ H s):∀{v:V} {d:Xa} {u:WY},DV X.K H v d->RelV v u->∃as,adK s.heap u d as
 |_,_,_,.Zk,r=>by cases r;exact⟨_,.none⟩
 |_,_,_,.bl b,r=>by cases r;exact⟨_,.bool b⟩
 |_,_,_,.int i,r=>by obtain⟨t,rfl⟩:=r;exact⟨_,.int i t⟩
 |_,_,_,.str x,r=>by obtain⟨t,rfl⟩:=r;exact⟨_,.str x t⟩
 |_,_,_,.tup h hs,r=>by cases r;obtain⟨a,rv,⟨o,e,c,n,d⟩,_⟩:=I.tuple h;obtain⟨as,q⟩:=YE.reads I hs rv;exact⟨_,.tuple e c d (by simpa using q)⟩
 |_,_,_,.lst h hs,r=>by cases r;obtain⟨a,rv,⟨o,n,e,c,_,d⟩,_⟩:=I.list h;obtain⟨as,q⟩:=YE.reads I hs rv;exact⟨_,.list e c d (by simpa using q)⟩
theorem YE.reads(I:Inv X Z σ H s):∀{vs:bg V} {ds:bg Xa} {us:bg WY},YE X.K H vs ds->Vals vs us->∃as,abF s.heap us ds as
 |_,_,_,.nil,r=>by cases r;exact⟨_,.nil⟩
 |_,_,_,.cons h hs,r=>by
  cases r with
  |cons b a=>obtain⟨as,q⟩:=DV.reads I h b;obtain⟨bs,e⟩:=YE.reads I hs a;exact⟨_,.cons q e⟩
end
end
def Ky(K:CL)(neg:Bool):R2:=λx y H Q=>∃a b,DV K H x a/\DV K H y b/\a.canLay0=S/\b.canLay0=S/\a.depth<=64/\Q (.bl (if neg then !Xa.eqv a b else Xa.eqv a b)) H
section
variable{X:Cx}
def Qs(o:X.A.units+64<cLine):OpR X (YM .Eq) (Ky X.K U):=by intro a s n H x y v u Q I e b h;let(t,r,m,l,j,i,p,q):=h;let(as,g):=m.reads I e;let(bs,f):=l.reads I b;show akc g f j i () #[.bl _,H,I,W,q]
def QP(o:X.A.units+64<cLine):OpR X (YM .NotEq) (Ky X.K S):=by intro a s n H x y v u Q I e b h;let(t,r,m,l,j,i,p,q):=h;let(as,g):=m.reads I e;let(bs,f):=l.reads I b;show akd g f j i () #[.bl _,H,I,W,q]
theorem G3:OpR X (Zl .FloorDiv) (rI (λ_ j=>0<j/\j.natAbs.log2<9000) λi j=>.int (i/j)):=U5 λi j _ _ _ _ _ a q=>by let b:(0:Int)<j:=a.1;show floordiv_int () (by rw[Int.fdiv_eq_ediv_of_nonneg i ()];show q) (.inl (PyProof.noPylong_of_log2 a.2))
end
def gw(env:Env):G (Str×Xw)->G (Str×M)->G (Str×M)
 |[],acc=>acc
 |(n,k)::r,acc=>if(k==Xw.free)=S then(match env.cells.lookup n with|some c=>gw env r ((n,c)::acc)|none=>gw env r acc)else gw env r acc
theorem lw{f:Str×Xw->G (Str×M)->Sem (ForInStep (G (Str×M)))}
  (g:∀n k acc,(k==Xw.free)=U->f (n,k) acc=pure (.yield acc)) (b:∀n c acc,env.cells.lookup n=R c->f (n,.free) acc=pure (.yield ((n,c)::acc))):
  ∀(names:G (Str×Xw)) (acc:G (Str×M)),(∀y∈names,y.2=.free->∃c,env.cells.lookup y.1=R c)->forIn names acc f=pure (gw env names acc)
 |[],acc,_=>rfl
 |(n,k)::r,acc,h=>by
  let i:=λy l=>h y (Xb _ l);rw[aab];cases m:(k==Xw.free)with
  |false=>rw[g n k acc m,pure_bind];show forIn r acc f=_;rw[lw g b r acc i];simp only[gw,m,YF,if_false]
  |true=>
   let e:k=.free:=by simpa using m
   subst e;let(c,j):=h _ W8 W;rw[b n c acc j,pure_bind];show forIn r ((n,c)::acc) f=_;rw[lw g b r _ i];let a:=j;simp only[gw,m,if_true,a]
def pZ(h:∀y∈scope.names,y.2=.free->∃c,env.cells.lookup y.1=R c):closureFor scope env=pure (gw env scope.names []):=by simp only[closureFor];rw[lw (λn k a b=>by simp only[b,YF,if_false]) (λn c a e=>by simp only[dN,if_true,cellOf,e,pure_bind]) scope.names [] h,pure_bind]
theorem jY:∀(names:G (Str×Xw)) (acc:G (Str×M)),(∀x c,acc.lookup x=R c->env.cells.lookup x=R c)->∀x c,(gw env names acc).lookup x=R c->env.cells.lookup x=R c
 |[],_,h,x,c,e=>h x c e
 |(n,k)::r,acc,h,x,c,e=>by
  unfold gw at e;split at e
  .split at e
   .rename_i f a
    show jY r _ (λy d q=>?_) x c e;rw[X1]at q;split at q
    .rename_i b;ext q;rw[eq_of_beq b];show a
    .show h y d q
   .show jY r acc h x c e
  .show jY r acc h x c e
theorem ke:∀(names:G (Str×Xw)) (acc:G (Str×M)) (x:Str),(acc.lookup x).isSome=S->((gw env names acc).lookup x).isSome=S
 |[],_,_,h=>h
 |(n,k)::r,acc,x,h=>by
  ext gw;split
  .split
   .show ke r _ x ?_
    rw[X1];split
    .rfl
    .show h
   .show ke r acc x h
  .show ke r acc x h
theorem mY:∀(names:G (Str×Xw)) (acc:G (Str×M)) (x:Str) (c:M),(x,Xw.free)∈names->env.cells.lookup x=R c->((gw env names acc).lookup x).isSome=S
 |[],_,_,_,h,_=>by ext h
 |(n,k)::r,acc,x,c,h,a=>by
  rcases Xt.mp h with z|h
  .ext z;simp only[gw,dN,if_true,a];show ke r _ _ (by simp[X1])
  .ext gw
   split
   .split
    .show mY r _ x c h a
    .show mY r acc x c h a
   .show mY r acc x c h a
def xq(h:(x,Xw.free)∈names)(a:env.cells.lookup x=R c):(gw env names []).lookup x=R c:=by
 let q:=mY names [] x c h a;cases e:(gw env names []).lookup x with
 |none=>rw[e]at q;ext q
 |some d=>let z:=jY names [] (λy d q=>by ext q) x d e;rw[a]at z;show z.symm
def wZ{env:Env}{a:Y9}{x:Str}{k:Xw}(h:(relabel a env).names.lookup x=R k):∃c,(x,c)∈a.names/\(k=c\/(c=.free/\k=.cell)):=by
 let((n,c),hm,e):=Xs.mp (YR h);simp only at e;split at e
 .rename_i b
  ext e;let f:(c==Xw.free)=S:=by rw[WX,WX]at b;show b.1.1
  show#[c,hm,.inr #[by simpa using f,W]]
 .ext e;show#[_,hm,.inl W]
theorem je{env:Env}:∀{names:G (Str×Xw)} {x:Str},names.lookup x=R .free->
  (names.map λ(n,k)=>if(k==Xw.free&&env.scope.kind==.function&&env.kindOf n==R .cell)then(n,Xw.cell)else(n,k)).lookup x=R .cell\/
  (names.map λ(n,k)=>if(k==Xw.free&&env.scope.kind==.function&&env.kindOf n==R .cell)then(n,Xw.cell)else(n,k)).lookup x=R .free
 |[],_,h=>by ext h
 |(n,k)::r,x,h=>by
  rw[X1]at h;rw[Xq];dsimp only;by_cases a:(k==Xw.free&&env.scope.kind==.function&&env.kindOf n==R .cell)=S
  .rw[ax a,X1]
   cases b:x==n with
   |true=>show .inl W
   |false=>rw[b]at h;show je h
  .rw[a4 a,X1]
   cases b:x==n with
   |true=>rw[b]at h;show .inr h
   |false=>rw[b]at h;show je h
def dP(own:G Str)(a:G (Str×Nat)):G Str:=own++a.map (·.1)
def iC(own:G Str)(b:G (Str×Nat))(a:St):St:=own.map (λ_=>P)++b.map λp=>(a[p.2]?).join
def acR(X:Cx)(a:Y9):G (Str×Nat)->Prop
 |[]=>True
 |p::r=>(X.N[p.2]?=R p.1/\a.names.lookup p.1=R .free/\(X.env.scope.names.lookup p.1=R .cell\/X.env.scope.names.lookup p.1=R .free))/\acR X a r
theorem acR.mem:∀{b:G (Str×Nat)},acR X scope b->∀p∈b,X.N[p.2]?=R p.1/\scope.names.lookup p.1=R .free/\(X.env.scope.names.lookup p.1=R .cell\/X.env.scope.names.lookup p.1=R .free)
 |[],_,p,a=>by ext a
 |q::r,h,p,a=>by
  rcases Xt.mp a with z|a
  .rw[z];show h.1
  .show h.2.mem p a
def uI(X:Cx)(a:Y9)(C:M):G (Str×M):=Y4 (C+1) a.names (gw X.env a.names [])
theorem rc:∀(names:G (Str×Xw)) (n:Nat) (acc:G (Str×M)) (x:Str) (c:M),(Y4 n names acc).lookup x=R c->(n<=c/\(x,Xw.cell)∈names)\/acc.lookup x=R c
 |[],_,_,_,_,h=>.inr h
 |(y,k)::r,n,acc,x,c,h=>by
  unfold Y4 at h;by_cases b:(k==Xw.cell)=S
  .rw[ax b]at h
   let e:k=.cell:=by simpa using b
   rcases rc r _ _ x c h with⟨a,f⟩|a
   .show .inl #[aaE a,Xb _ f]
   .rw[X1]at a
    split at a
    .rename_i g;ext a;show .inl #[Xd _,by rw[eq_of_beq g,e];show W8]
    .show .inr a
  .rw[a4 b]at h
   rcases rc r _ _ x c h with⟨a,f⟩|a
   .show .inl #[a,Xb _ f]
   .show .inr a
theorem Fi:∀(names:G (Str×Xw)) (n:Nat) (acc:G (Str×M)) (x:Str),(x,Xw.cell)∉names->(Y4 n names acc).lookup x=acc.lookup x
 |[],_,_,_,_=>rfl
 |(y,k)::r,n,acc,x,h=>by
  let b:=λz=>h (Xb _ z);ext Y4;by_cases a:(k==Xw.cell)=S
  .let e:k=.cell:=by simpa using a
   rw[ax a,Fi r _ _ x b,X1];let f:(x==y)=U:=by show beq_eq_false_iff_ne.mpr λz=>h ?_;rw[z,e];show W8
   rw[f]
  .rw[a4 a];show Fi r _ _ x b
theorem su:∀(names:G (Str×Xw)) (h:Heap) (acc:G (Str×M)) (x:Str) (c:M),(Y4 h.objs.size names acc).lookup x=R c->(h.objs.size<=c/\(pushCells h names).IsCell c P)\/acc.lookup x=R c
 |[],_,_,_,_,e=>.inr e
 |(y,k)::r,h,acc,x,c,e=>by
  unfold Y4 at e;ext pushCells;by_cases b:(k==Xw.cell)=S
  .rw[ax b]at e⊢
   rw[<-cc h {cls:=.type "cell",data:=.cell P}]at e;rcases su r _ _ x c e with⟨a,f⟩|a
   .rw[cc]at a;show .inl #[aaE a,f]
   .rw[X1]at a
    split at a
    .ext a;show .inl #[Xd _,_,ac7 _ _ _ _ (b5 _ W),W]
    .show .inr a
  .rw[a4 b]at e⊢;show su r _ _ x c e
theorem yU:∀(names:G (Str×Xw)) (n:Nat) (acc:G (Str×M)),(∀x c,acc.lookup x=R c->c<n)->(∀x y c,acc.lookup x=R c->acc.lookup y=R c->x=y)->∀x y c,(Y4 n names acc).lookup x=R c->(Y4 n names acc).lookup y=R c->x=y
 |[],_,_,_,i,x,y,c,e1,e2=>i x y c e1 e2
 |(z,k)::r,n,acc,h1,i,x,y,c,e1,e2=>by
  unfold Y4 at e1 e2;by_cases g:(k==Xw.cell)=S
  .rw[ax g]at e1 e2
   show yU r (n+1) ((z,n)::acc) (λa d q=>?_) (λa b d f e=>?_) x y c e1 e2
   .rw[X1]at q
    split at q
    .ext q;show ZF _
    .show aaF (h1 a d q)
   .rw[X1]at f e
    split at f
    .rename_i j
     split at e
     .rename_i h;rw[eq_of_beq j,eq_of_beq h]
     .ext f;show bb (h1 b _ e) (YJ _)
    .split at e
     .ext e;show bb (h1 a _ f) (YJ _)
     .show i a b d f e
  .rw[a4 g]at e1 e2;show yU r n acc h1 i x y c e1 e2
theorem x3:∀{names:G (Str×Xw)} {x:Str} {k a:Xw},(names.map (·.1)).Nodup->names.lookup x=R k->(x,a)∈names->k=a
 |[],_,_,_,_,h,_=>by ext h
 |(y,j)::r,x,k,a,f,h,hm=>by
  rw[Xq,Yv]at f;rw[X1]at h;rcases Xt.mp hm with e|b
  .ext e;rw[dN]at h;show(Xj h).symm
  .cases g:x==y with
   |true=>rw[eq_of_beq g]at b;show bb (Xs.mpr #[_,b,W]) f.1
   |false=>rw[g]at h;show x3 f.2 h b
def cz(X:Cx)(s:W9)(H:Hp)(a:Y9)(C:M)(N:G Str)(b:G M):Cx:=
 {X with N:=N,s₀:=s,H₀:=H,env:=compEnvC a (uI X a C) C X.env,outer:=X.stack,stack:=X.stack,ex:=b,fn:=λx=>((gw X.env a.names []).lookup x).isNone,pn:=[],xe:=λ_ _=>False}
section
variable{X:Cx}{Z:bg (W7×Obj)}{Y:St}{H:Hp}{s:W9}
def tJ{a:Y9}(I:Inv X Z Y H s)(e:(gw X.env a.names []).lookup x=R c):X.env.cells.lookup x=R c/\c<s.heap.objs.size:=by let h:=jY _ _ (λ_ _ q=>by ext q) x c e;let(v,o,z,_):=I.cell x c h;show#[h,b4 z]
theorem BC(I:Inv X Z Y H s)(E:scope.kind=.function)(n:(scope.names.map (·.1)).Nodup)
  (v:∀y∈scope.names,y.2=.free->∃c,X.env.cells.lookup y.1=R c) (g:s.heap.objs.size<=C) (j:∀b∈fp,oh X Z H b) (f:∀b∈fp,b<s.heap.objs.size):(cz X s H scope C N fp).Ok where
 mod:=I.ok.mod
 kind:=E
 glob:=I.ok.glob
 blt:=I.ok.blt
 above:=g
 inj:=yU _ _ _ (λx c e=>aaF (Xz (tJ I e).2 g)) λx y c B A=>I.ok.inj x y c (tJ I B).1 (tJ I A).1
 has:=λx J=>by
  let m:∃k,(relabel scope X.env).names.lookup x=R k/\(k=.cell\/k=.free):=by
   rcases J with z|z
   .show#[_,z,.inl W]
   .show#[_,z,.inr W]
  let(k,L,t):=m;let(F,hm,u):=wZ L;let e:F=.free\/F=.cell:=by
   rcases u with z|⟨z,_⟩
   .subst z
    rcases t with z|z
    .show .inr z
    .show .inl z
   .show .inl z
  let q:((uI X scope C).lookup x).isSome=S:=by
   rcases e with e|e
   .subst e;let(c,M):=v _ hm W;show ZP _ _ _ (.inr (by rw[xq hm M];rfl))
   .subst e
    show ZP _ _ _ (.inl ?_);cases z:scope.names.lookup x with
    |none=>show bb hm (λhm=>by
      let:∀{l:bg (Str×Xw)},l.lookup x=P->(x,Xw.cell)∉l:=λ{l}=>by
       induction l with
       |nil=>show λ_=>by simp
       |cons p r G=>
        intro h q;rw[X1]at h;rcases Xt.mp q with q|q
        .rw[<-q,dN]at h;ext h
        .split at h
         .ext h
         .show G h q
      show this z hm)
    |some O=>rw[x3 n z hm]
  show Y7.mp q
 cab:=λx c B A=>by
  let i:((gw X.env scope.names []).lookup x).isNone=S:=B;let w:=A;rcases rc _ _ _ x c w with⟨z,_⟩|z
  .show XT g (aaE z)
  .rw[z]at i;ext i
 hd:=I.ok.hd
 frames:=I.ok.frames
 stk:=.inl W
 exf:=λb a=>#[Xy (Xz (f b a) g),λx c e=>by
  rcases rc _ _ _ x c e with⟨z,_⟩|z
  .show Yt (Xz (Xz (f b a) g) (aaE z))
  .show(j b a).2.2.2.2.1 x c (tJ I z).1]
 bs:=I.bs
 bsz:=XT I.ok.bsz I.sz
 adu:=λb o e a=>by
  rcases(j b a).2.2.2.1 with z|z
  .show I.ok.adu b o e z
  .show bb (Xz (b4 e) (XT I.ok.bsz z)) (YJ _)
 adj:=λb a K=>by
  rcases Xt.mp (I.abN b K)with z|z
  .show(j b a).2.1 z
  .show(j b a).2.2.1 z
 abm:=I.stack
 frf:=I.acd
def Iu(I:Inv X Z Y H s)(aaq:scope.kind=.function)(d:(scope.names.map (·.1)).Nodup)
  (N:∀y∈scope.names,y.2=.free->∃c,X.env.cells.lookup y.1=R c) (L:acR X scope fv) (B:s.heap.objs.size<=D) (j:D<C) (T:s.heap.objs.size<=C) (hf:∀b∈fp,oh X Z H b) (O:∀b∈fp,b<s.heap.objs.size)
  (F:h1.Ns C m) (E:∀x c,(uI X scope C).lookup x=R c->C<c->∃v,h1.IsCell c v) (w:∀b o,s.heap.get? b=R o->h1.get? b=R o) (hd:∃n,h1.get? D=R {cls:=.type "list",data:=.seq #v[] n}):
  Inv (cz X s H scope C (dP own fv) fp) [] (iC own fv Y) (aR H D (.lst [])) {s with heap:=h1,toks:=t1}:=by
 let hn:=I.Yn.fresh B;let(n,hd):=hd;let Q:=Yt j;let h:∀x c,(uI X scope C).lookup x=R c->C<c\/(X.env.cells.lookup x=R c/\c<s.heap.objs.size):=λx c e=>by
  rcases rc _ _ _ x c e with⟨z,_⟩|z
  .show .inl z
  .show .inr (tJ I z)
 show#[BC I aaq d N T hf O,W,I.bare,Un.laid w B hn,#[m,F,λi x v e1 e2 e3=>?_],λx c e=>?_,?_,λx c e=>?_,λp hp=>bb (show p∈([]:G (M×Obj))from hp) (by simp),?_,?_]
 .
  let f:(own++fv.map (·.1))[i]?=R x:=e1;let a:(own.map (λ_=>(P:bt V))++fv.map λp=>(Y[p.2]?).join)[i]?=R (R v):=e2;let A:own.length<=i:=by
   by_cases A:i<own.length
   .rw[Xe (by simpa using A),Xg]at a
    cases q:own[i]? with
    |none=>rw[q]at a;ext a
    |some _=>rw[q]at a;ext a
   .omega
  rw[XO A,Xg]at f;rw[XO (by simpa using A),Xg,W0]at a;cases q:fv[i - own.length]? with
  |none=>rw[q]at f;ext f
  |some p=>
   rw[q]at f a;let ex:=Xj f;subst ex;let ev:(Y[p.2]?).join=R v:=Xj a;let(g1,g2,g3):=L.mem p (XF q);let ev2:Y[p.2]?=R (R v):=by
    cases z:Y[p.2]? with
    |none=>rw[z]at ev;ext ev
    |some y=>rw[z]at ev;show dw R ev
   let(m0,_,hl):=I.loc;let(u,r,l):=hl p.2 p.1 v g1 ev2 (.inr g3);show#[u,r,?_];let l2:∃c,X.env.cells.lookup p.1=R c/\s.heap.IsCell c (R u):=by
    rcases l with⟨k,_⟩|⟨_,c,e,z⟩
    .let t:X.env.scope.names.lookup p.1=R .local:=k
     rcases g3 with z|z
     .rw[z]at t;ext t
     .rw[z]at t;ext t
    .show#[c,e,z]
   let(c,e,o,K,g):=l2;show .inr #[?_,c,?_,o,w c o K,g]
   .show je g2
   .show(uI X scope C).lookup p.1=R c;ext uI;rw[Fi _ _ _ _ λz=>by cases x3 d g2 z];show xq (YR g2) e
 .rcases h x c e with z|⟨z,_⟩
  .show E x c e z
  .let(v,o,K,g):=I.cell x c z;show#[v,o,w c o K,g]
 .show aR H D (.lst []) C=P;rw[ar Q];show I.Yn.fresh T
 .show aR H D (.lst []) c=P
  rcases h x c e with z|⟨z1,z2⟩
  .rw[ar (Yt (ZX j z))];show I.Yn.fresh (XT T (aaU z))
  .rw[ar (Xy (Xz z2 B))];show I.Z5 x c z1
 .show I.Yn.laid w B #[by show 0<=Xi;show XY _,[],n,.nil,hd]
 .show(own.map (λ_=>(P:bt V))++fv.map λp=>(Y[p.2]?).join).length=(own++fv.map (·.1)).length;simp
end
def y6(X:Cx)(e:G Xx)(t:TT):Prop:=
 ∀(a:G (M×Obj)) (s:W9) (b:St) (H:Hp) (Q:Bool->Hp->Prop),Inv X a b H s->t b H Q->
  wpAny (model X.prog X.w) X.A (forIn e S λc r=>if r=S then do let ok<-isTrue c X.env (eval c X.env);pure (ForInStep.yield ok)else pure (ForInStep.yield r)) (TP X a b Q) X.xe s
def G4:TT:=λ_ H Q=>Q S H
theorem xV:y6 X [] G4:=λ_ _ _ H _ I h=>wpAny_tests_nil #[H,I,h]
theorem Hn(h:PT X c o):y6 X [c] o:=λa s b H Q I e=>wpAny_tests_one (h a s b H Q I e)
def HZ(J:It)(D:M)(e:St)(g:TG)(j:TT)(c:TE)(n:Hp)(Fin:Hp->Prop):Prop:=
 ∃W:Nat->Nat->St->Hp->Prop,(∃m,W 0 m e (aR n D (.lst [])))/\∀i m σ H,W i m σ H->
  (J.stop i H/\Fin H)\/(J.go i H/\∃N:St->Hp->Prop,(∀o p,N o p->∃q,q<m/\W (i+1) q o p)/\
   ∀x p,J.yld i H x p->g x σ p λa l=>j a l λb h=>if b=S then c a h λy f=>∃ys,f D=R (.lst ys)/\ys.length<Xi/\N a (aR f D (.lst (ys++[y])))else N a h)
section
variable{Y:Xu}{w:XQ}{A:XJ}{s:W9}
def CP{g l iter:Xx}{f:bg Xx}{b:Y9}{i:Pos}{o acc:J}{env:Env}{R:acM->W9->Prop}{XE:J->W9->Prop}(B:∀x s1,XE x s1->notedBy (model Y w) A env (λe s2=>R (.error e) s2) x s1)(I:Nat->W9->Prop)
  (turn:∀n s,I n s->wpAny (model Y w) A (pyNext o) (λr s1=>match r with
   |none=>R (.ok .next) s1
   |some v=>wpAny (model Y w) A (letOwnedTupleGo l o v) (λ_ s2=>wpAny (model Y w) A (assign l env v) (λ_ s3=>
     wpAny (model Y w) A (forIn f S λc r=>if r=S then do let ok<-isTrue c env (eval c env);pure (ForInStep.yield ok)else pure (ForInStep.yield r)) (λok s4=>
      if ok=S then wpAny (model Y w) A (eval g env) (λx s5=>
       wpAny (model Y w) A (call (.builtin "list.append") [acc,x]) (λ_ d=>∃m,m<n/\I m d) (λ_ _=>False) s5) XE s4
      else∃m,m<n/\I m s4) (λ_ _=>False) s3) (λ_ _=>False) s2) (λ_ _=>False) s1) (λ_ _=>False) s)
  (n:Nat) (h:I n s):codeAny (model Y w) A (.compLoop (.ListComp g [#[l,iter,f,0]] b i) 0 o acc env) R s:=by
 show codeAny_loop W I (λn s C=>?_) n h;show wpAny _ A (Sem.onRaise (compTurn (.ListComp g [#[l,iter,f,0]] b i) 0 o acc env) (λx=>do noteFrame x env;theTreesLotGoes x)) _ _ s;show wpAny_noted ?_;rw[compTurn_list]
 let j:∀{α:Type} {t:Sem α} {Q y:α->W9->Prop} {E:J->W9->Prop} {s:W9},wpAny (model Y w) A t Q (λ_ _=>False) s->(∀a K,Q a K->y a K)->wpAny (model Y w) A t y E s:=
  λp q=>wpAny_mono p q λ_ _ z=>False.elim z
 show lD (Zg (lD (j (turn n s C) λr s1 p=>?_)));cases r with
 |none=>show W6 p
 |some v=>
  show lD (j p λ_ s2 q=>lD (j q λ_ s3 H=>lD (j H λok s4 u=>?_)));cases ok with
  |false=>show W6 #[W,u]
  |true=>show lD (lD (wpAny_mono u (λx s5 G=>lD (j G λ_ d F=>W6 (W6 #[W,F]))) B))
end
section
variable{X:Cx}{Z:bg (W7×Obj)}{Y:St}{H:Hp}{s:W9}
def uq
  (h:Q (newEnv scope s.heap.objs.size globals (Y4 (s.heap.objs.size+1) scope.names closure) qual P .none (R env) builtinsNs) {s with heap:=pushCells (s.heap.push {cls:=.type "dict",data:=.dict #v[]}) scope.names}):
  wpAny f A (newFunctionEnv scope globals closure [] qual P .none (R env)) Q E s:=by
 simp only[newFunctionEnv,aed,if_true];show lD (wpAny_alloc ?_);show lD (wpAny_layCells _ (λe a b=>by cases g:a==Xw.cell<;>simp[g]) _ _ _ _ ?_);rw[show({s with heap:=s.heap.push {cls:=.type "dict",data:=.dict #v[]}}:W9).heap.objs.size=s.heap.objs.size+1 from cc ..];rw[abd];show lD (W6 (W6 h))
def p7{M tg iter:Xx}{t:bg Xx}{scope:Y9}{pos:Pos}{own:bg Str}{fv:bg (Str×Nat)}{g:TG}{tc:TT}{te:TE}{E:WY->W9->Prop}{it:W7}{k:bg W7}{S:Nat->Heap->Prop}{J:It}{Fin:W7->Hp->Prop}
  {RR:WY->W7->acM->W9->Prop} (I:Inv X Z Y H s) (hc:X.calm=WZ) (aaq:scope.kind=.function) (hnd:(scope.names.map (·.1)).Nodup) (hfr:∀y∈scope.names,y.2=.free->∃c,X.env.cells.lookup y.1=cL c) (hfv:acR X scope fv)
  (T:Turn X.prog X.w X.K tg J k it S) (st:S 0 s.heap) (F:∀b∈k,oh X Z H b)
  (hg:∀C,PG (cz X s H scope C (dP own fv) k) tg g) (ht:∀C,y6 (cz X s H scope C (dP own fv) k) t tc) {W:W7->WY->W9->Prop} (he:∀C,PE ((cz X s H scope C (dP own fv) k).abc (W C)) M te) (hEE:∀D C x s1,s.heap.objs.size<=C->W C x s1->notedBy (model X.prog X.w) X.A (compEnvC scope (uI X scope C) C X.env) (λe s2=>RR (.ref D) C (.error e) s2) x s1)
  (hR:∀D,H D=Ld->HZ J D (iC own fv Y) g tc te H (Fin D))
  (hRR:∀D C V s',Inv X Z Y V s'->Fin D V->(∃m,s'.heap.Ns C m)->s.heap.objs.size<=C->V C=Ld->RR (.ref D) C (.ok .next) s'):
  wpAny (model X.prog X.w) X.A (newList []) (λacc s3=>wpAny (model X.prog X.w) X.A (newFunctionEnv scope X.env.globals (gw X.env scope.names []) [] X.env.qual Ld .none (cL X.env)) (λaiB s4=>
   codeAny (model X.prog X.w) X.A (.compStart (.ListComp M [#[tg,iter,t,0]] scope pos) 0 (.ref it) acc {aiB with scope:=relabel scope X.env}) (RR acc aiB.locals) s4) E s3) E s:=by
 show X9 ?_;generalize hH2:s.heap.push {cls:=.type "list",dict:=Ld,data:=.seq ([]:bg WY).toArray}=K;let hz:K.objs.size=s.heap.objs.size+1:=by rw[<-hH2,cc]
 show uq (s:={s with heap:=K}) ?_;let G:s.heap.objs.size<K.objs.size:=by rw[hz];show ZF _
 let hC:s.heap.objs.size<=K.objs.size:=aaU G;generalize hH1:pushCells (K.push {cls:=.type "dict",data:=.dict #v[]}) scope.names=h1;let kp2:∀b o,K.get? b=cL o->h1.get? b=cL o:=λb o e=>by rw[<-hH1];show ac7 _ _ b o (b3 _ e)
 let kp:∀b o,s.heap.get? b=cL o->h1.get? b=cL o:=λb o e=>kp2 b o (by rw[<-hH2];show b3 _ e);let hns:h1.Ns K.objs.size (λ_=>Ld):=by rw[<-hH1];show(Heap.Ns.new K (.type "dict")).keeps (ac7 _ _)
 let hoc:∀x c,(uI X scope K.objs.size).lookup x=cL c->K.objs.size<c->∃v,h1.IsCell c v:=λx c e hlt=>by
  let e':(Y4 (K.push {cls:=.type "dict",data:=.dict #v[]}).objs.size scope.names (gw X.env scope.names [])).lookup x=cL c:=by rw[cc];show e
  rcases su _ _ _ x c e' with⟨_,z⟩|z
  .show#[Ld,by rw[<-hH1];show z]
  .show bb (ZX (tJ I z).2 (ZX G hlt)) (YJ _)
 let hd:∃n,h1.get? s.heap.objs.size=cL {cls:=.type "list",data:=.seq #v[] n}:=#[0,kp2 _ _ (by rw[<-hH2];show b5 _ rfl)];let B:∀b∈k,b<s.heap.objs.size:=λb f=>by let(o,e,_):=T.obj 0 _ st b f;show b4 e
 let hn:H s.heap.objs.size=Ld:=I.Yn.fresh (Xd _);let(W,(m0,w0),turn):=hR s.heap.objs.size hn;let L:∀{pl:bg (W7×Obj)} {V:Hp},(∀b∈k,V b=Ld)->(∀p∈pl,p.1∉k)->∀b∈k,oh (cz X s H scope K.objs.size (dP own fv) k) pl V b:=λ{pl V} hn' hpl b f=>by let ok:=BC (C:=K.objs.size) (N:=dP own fv) I aaq hnd hfr hC F B;show#[hn' b f,(ok.exf b f).1,ok.adj b f,.inl f,(ok.exf b f).2,λp hp=>by let hp':p∈([]:bg (W7×Obj))++pl:=hp;intro z;show hpl p (by simpa using hp') (by rw[z];show f)]
 let j:∀s4:W9,s4={s with heap:=h1}->
   codeAny (model X.prog X.w) X.A (.compLoop (.ListComp M [#[tg,iter,t,0]] scope pos) 0 (.ref it) (.ref s.heap.objs.size) (compEnvC scope (uI X scope K.objs.size) K.objs.size X.env)) (RR (.ref s.heap.objs.size) K.objs.size) s4:=by
  rintro s4 rfl
  let I0:Inv (cz X s H scope K.objs.size (dP own fv) k) [] (iC own fv Y) (aR H s.heap.objs.size (.lst [])) {s with heap:=h1}:=
   Iu I aaq hnd hfr hfv (Xd _) G hC F B hns hoc kp hd
  let st0:S 0 h1:=T.keep 0 _ _ st λb _ o e=>kp b o e;let fr0:∀b∈k,(aR H s.heap.objs.size (.lst [])) b=Ld:=λb f=>by rw[ar (Xy (B b f))];show(F b f).1
  show CP (λx s1 z=>hEE _ _ x s1 hC z) (λn s'=>∃i σ' V,Inv (cz X s H scope K.objs.size (dP own fv) k) [] σ' V s'/\S i s'.heap/\(∀b∈k,V b=Ld)/\W i n σ' V) ?_ m0 #[0,_,_,I0,st0,fr0,w0];rintro n s5 ⟨i,h,H5,I5,st5,fr5,w5⟩;rcases turn i n h H5 w5 with⟨U,fin⟩|⟨go,N,hN,step⟩
  .show bU (T.done (cz X s H scope K.objs.size (dP own fv) k) rfl rfl rfl hc i [] s5 h H5 (λ_ _=>False) I5 (L fr5 (by simp)) st5 U) λr s6 #[hr,Q]=>?_;subst hr;let(mm,hm,_):=Q.loc;show hRR _ _ H5 s6 ?_ fin #[mm,hm] hC Q.free;show I.afi (ch:=k) Q.os Q.base Q.Yn Q.bare λb f=>#[(F b f).2.2.2.1,(F b f).2.1,(F b f).2.2.2.2.1,(F b f).2.2.2.2.2]
  .show bU (T.item (cz X s H scope K.objs.size (dP own fv) k) rfl rfl rfl hc i [] s5 h H5 (λ_ _=>False) I5 (L fr5 (by simp)) st5 go) λr s6 #[u,hr,h6]=>?_
   subst hr;show bU h6 λ_ s7 #[x,H7,I7,r7,y7,q,fr7]=>?_;let I7':=I7.pinned (fp:=k) (L fr7 (by simp)) (T.obj _ _ q);let l:∀{a:St} {O:Hp} {w:W9},Inv (cz X s H scope K.objs.size (dP own fv) k) ([]++p8 k s7.heap) a O w->N a O->∃m,m<n/\∃i σ' V,Inv (cz X s H scope K.objs.size (dP own fv) k) [] σ' V w/\S i w.heap/\(∀b∈k,V b=Ld)/\W i m σ' V:=λ{a O w} I8 n8=>by let(m',hm,w8):=hN a O n8;show#[m',hm,i+1,a,O,I8.abA,T.keep _ _ _ q λb f o e=>(I8.pin (b,o) (XG _ (XG _ (i7 f e)))).1,λb f=>?_,w8];let(o,e,d):=T.obj _ _ q b f;show(I8.pin (b,o) (XG _ (XG _ (i7 f e)))).2.1
   show bU (hg _ _ s7 h H7 x u _ I7' r7 (step x H7 y7)) λ_ w #[a,O,I8,q8]=>?_;show bU (ht _ _ w a O _ I8 q8) λok s9 #[H9,I9,q9]=>?_;cases ok with
   |false=>rw[a4 Xp]at q9⊢;show l I9 q9
   |true=>rw[ax rfl]at q9⊢;show bU (he _ _ s9 a H9 _ (I9.abc _) q9) λy s10 #[A,H10,akP,r10,ys,hy,hl,q10]=>?_;let I10:=akP.aah;show bU (nV _ s10 a H10 (.ref s.heap.objs.size) [A] (.ref s.heap.objs.size) [y] (λ_ H11=>N a H11) I10 rfl (.cons r10 .nil) #[_,ys,A,rfl,rfl,hy,hl,q10]) λ_ s11 #[v11,H11,I11,_,q11]=>?_;show l I11 q11
 show codeAny_compStart_list (j _ rfl) (T.self _ 0 _ _ _ (T.keep 0 _ _ st λb _ o e=>kp b o e) (j _ rfl))
def tT(own:G Str)(d:G (Str×Nat))(b:TI)(g:TG)(e:TT)(c:TE):TE:=λY H Q=>b Y H λJ a=>∀D,a D=P->HZ J D (iC own d Y) g e c a λf=>Q (.ref D) f
theorem pW{a:Y9}(ok:X.Ok)(h:∀y∈a.names,y.2=.free->(X.env.scope.names.lookup y.1=R .cell\/X.env.scope.names.lookup y.1=R .free)):∀y∈a.names,y.2=.free->∃c,X.env.cells.lookup y.1=R c:=
 λy b e=>ok.has y.1 (h y b e)
theorem Ny{a sc:Y9}(h:(a.names.all λy=> !(y.2==Xw.free)||(sc.names.lookup y.1==R Xw.cell)||(sc.names.lookup y.1==R Xw.free))=S):
  ∀y∈a.names,y.2=.free->(sc.names.lookup y.1=R .cell\/sc.names.lookup y.1=R .free):=λy b e=>by
 let q:=Yh.mp h y b;rw[e]at q
 simpa using q
def Ar{elt i iter:Xx}{ifs:G Xx}{scope:Y9}{pos:Pos}(own:G Str)(c:G (Str×Nat)){u:TI}{g:TG}{w:TT}{v:TE}(V:X.calm=S)(N:PI X i iter u)
  (O:∀s H C a,PG (cz X s H scope C (dP own c) a) i g) (F:∀s H C a,y6 (cz X s H scope C (dP own c) a) ifs w) (he:∀s H C a,PE (cz X s H scope C (dP own c) a) elt v) (n:acR X scope c)
  (p:(scope.names.all λy=> !(y.2==Xw.free)||(X.env.scope.names.lookup y.1==cL Xw.cell)||(X.env.scope.names.lookup y.1==cL Xw.free))=S)
  (d:scope.kind=.function:=by rfl) (k:(scope.names.map (·.1)).Nodup:=by left)
  (r:∀y∈scope.names,y.2=.local->scope.names.lookup y.1=cL .local:=by left) (K:∀x,foldedSetIterable iter X.env x=pure x:=by intro _;rfl):
  PE X (.ListComp elt [#[i,iter,ifs,0]] scope pos) (tT own c u g w v):=by
 intro Z s Y H Q I h;let f:=Ny p;rw[eval_ListComp];show aeq (use:=P) rfl K (pZ (pW I.ok f)) d r (bU (N Z s Y H _ I h) λxv s1 h1=>bU h1 λE s2 h2=>?_);let(it,a,tn,J,H2,e,A,T,j,f2,R):=h2;subst e;show p7 A V d k (pW I.ok f) n T j f2 (λC=>O _ _ C _) (λC=>F _ _ C _) (W:=λ_ _ _=>False) (λC=>he _ _ C _) (λ_ _ _ _ _ z=>z.elim) (Fin:=λD t=>Q (.ref D) t) R ?_;intro D C t B I' fin hm hC L;let(m,hm):=hm;show#[m,hm,λh' l=>#[.ref D,t,?_,rfl,fin]];let(f0,f1,_,f3,f4,f5):=A.adS hC L;show I'.turned (t':=B.toks) (λb o hb q=>(l.2 b hb).trans q) f0 f1 f3 f4 f5
def Kg{elt d iter:Xx}{ifs:G Xx}{scope:Y9}{pos k py:Pos}{i:Nat}{x:Str}(own:G Str)(j:G (Str×Nat)){V:TI}{g:TG}{tc:TT}{te:TE}(hN:X.N.Nodup)(A:X.N[i]?=cL x)(hx:X.env.scope.names.lookup x=cL .local)
  (hc:X.calm=S) (hi:PI X d iter V)
  (hg:∀s H C c,PG (cz X s H scope C (dP own j) c) d g) (ht:∀s H C c,y6 (cz X s H scope C (dP own j) c) ifs tc) (he:∀s H C c,PE (cz X s H scope C (dP own j) c) elt te) (B:acR X scope j)
  (F:(scope.names.all λy=> !(y.2==Xw.free)||(X.env.scope.names.lookup y.1==cL Xw.cell)||(X.env.scope.names.lookup y.1==cL Xw.free))=S)
  (t:Zy (.ListComp elt [#[d,iter,ifs,0]] scope pos) (cL (.Name x py)) k.line X.env=pure S:=by rfl)
  (l:scope.kind=.function:=by rfl) (w:(scope.names.map (·.1)).Nodup:=by left)
  (K:∀y∈scope.names,y.2=.local->scope.names.lookup y.1=cL .local:=by left) (hs:∀x,foldedSetIterable iter X.env x=pure x:=by intro _;rfl):
  PS X (.Assign [.Name x py] (.ListComp elt [#[d,iter,ifs,0]] scope pos) k) (wP (tT own j V g tc te) (oW i)):=by
 intro Z s Y H D I h;let f:=Ny F;rw[exec_Assign_Name_used _ _ _ _ t];show lD (Zg (lD ?_));show wpAny _ _ (do let _<-comprehension (.ListComp elt [#[d,iter,ifs,0]] scope pos) scope X.env _ (newList []) U (eval iter X.env) (cL (assign (.Name x py) X.env))) _ _ s;show lD (bU (aeq (use:=cL (assign (.Name x py) X.env)) (Q:=λ_ n=>SP X Z D .next n) rfl hs (pZ (pW I.ok f)) l K
  (bU (hi Z s Y H _ I h) λxv s1 h1=>bU h1 λitv s2 h2=>?_)) λ_ n q=>W6 (W6 q))
 let(it,c,tn,J,H2,e,I2,T,p,f2,R):=h2;subst e;show p7 I2 hc l w (pW I.ok f) B T p f2 (λC=>hg _ _ C _) (λC=>ht _ _ C _) (W:=λ_ _ _=>False) (λC=>he _ _ C _) (λ_ _ _ _ _ z=>z.elim) (Fin:=λL O=>D.nx (Y.set i (cL (.ref L))) O) R ?_;intro L C O n I' fin hm hC hn;let(m,hm):=hm;let(f0,f1,f2',f3,f4,f5):=I2.adS hC hn;show wpAny _ _ (assign (.Name x py) X.env (.ref L)) _ _ n;show ahg (sS I' hN A (.inl hx) (v:=.ref L) rfl (λr N #[a,sb,ha]=>?_) (.inr hx));let E:C≠a:=by
  rcases ha with z|z
  .rw[z];show f1
  .show λq=>f4 x a z q.symm
 show#[m,hm.sameBut sb E,λh' u=>#[_,O,?_,fin]];show N.turned (t':=r.toks) (λb o hb q=>(u.2 b hb).trans q) f0 f1 f3 f4 f5
end
def wg(P:Xu)(w:XQ)(K:CL)(c:Str->I J)(base:Heap)(k:Nat)(x:Str)(b:G Str)(sp:Sp):Prop:=
 ∃(f:M) (a:Yj),FnOk P w K c base kX k f a b sp/\Binds K a b []/\YI K (.ref f)=S/\c x=R (.ref f)
def uK(C:wg X.prog X.w X.K X.mg X.base k x ps sp)(l:Y1 j X.A)(c:PA X (e::es) t)(g:k<=j:=by decide)(n:Gl X x:=by rfl)
  (h:(x==("__debug__":Str))=U:=by decide) (o:Xr (e::es) X.env=(U,eval e X.env)::Xr es X.env:=by rfl) (a:(backTo pos (Xr es X.env)).any (·.1)=U:=by rfl):
  PE X (.Call (.Name x p) (e::es) [] pos) (jw sp [] E0 t):=by
 let(f,q,F,b,i,m):=C;show BF F (l.mono g) n m i b .nil Hc c h o a
section
variable{Z:St}{H:Hp}{Q:VK}{D:Ends}
theorem Ph(h:t {D with nx:=u D} Z H):GD t u D Z H:=h
theorem Vg(h:Q v H):tC v Z H Q:=h
theorem Qc(h:o Z H D.rt):Cf o D Z H:=h
theorem KF(h:o Z H λ_ H1=>D.nx Z H1):xH o D Z H:=h
theorem Qd{Q:G V->Hp->Prop}(h:Q [] H):gM Z H Q:=h
theorem Mq{Q:G V->Hp->Prop}(h:o Z H λx H1=>tr Z H1 λxs a=>Q (x::xs) a):c8 o tr Z H Q:=h
theorem TQ(h:t Z H λa H1=>r a H1 Q):tI r t Z H Q:=h
theorem KH(h:t Z H λa H1=>sp (a++[]) H1 Q E):jw sp [] E t Z H Q:=h
theorem Oi(h:t Z H λxs H1=>xs.length<=Xi/\∀p,H1 p=P->Q (.ref p) (aR H1 p (.tup xs))):FD t Z H Q:=h
end
def P6{α:Type}{xs:G α}{i:Int}{v:α}(a:0<=i)(h:xs[i.toNat]?=R v):lM xs i=R v:=by let q:=BP h;rwa [aeJ a]at q
def YN.tup{K:CL}(e:YN H H')(h:SqT K H a xs):SqT K H' a xs:=by
 rcases h with(h|⟨o,h⟩)|h
 .show .inl (.inl (e _ _ h))
 .show .inl (.inr #[o,e _ _ h])
 .show .inr h
theorem bj(h:H p=P)(o:HO):YN H (aR H p o):=λb u q=>by rw[ar (bC q h)];show q
def NM:X7 "max"=R (.builtin "max"):=by left
def lX:X7 "isinstance"=R (.builtin "isinstance"):=by left
def zY:X7 "len"=R (.builtin "len"):=by left
def xh:X7 "sorted"=R (.builtin "sorted"):=by left
def T4:X7 "all"=R (.builtin "all"):=by left
def vA:X7 "list"=R (.type "list"):=by left
def Mx:X7 "tuple"=R (.type "tuple"):=by left
section
variable{X:Cx}
def xU:Zf X (.builtin "sorted") (λxs H Q=>∃(p:M) (g:bg Int),xs=[.ref p]/\SqL X.K H p (g.map V.int)/\g.length<64/\∀(l:M) (a:bg Int),H l=P->a.Perm g->a.Pairwise (·<=·)->Q (.ref l) (aR H l (.lst (a.map V.int)))):=by
 intro j s E H xs F Q I r h;let(p,g,rfl,v,A,q):=h;let(u,rfl,n):=im r;ext n;let(C,K,pl,J):=I.list v;let w:=K.length;rw[W0]at w;show sorted_ints pl.isList (lQ K) () λf a L m t=>?_;let(e,y):=sortedAll_at s.heap C f;let i:a.length=g.length:=m.length_eq;let B:f.toList.length=a.length:=L.length;show#[.ref (s.heap.objs.size+1),_,I.laid (t':=s.toks) (o:=.lst (a.map V.int)) (λb G z=>sortedAll_old z) (Z9 _) ?_,W,q _ a (I.Yn.fresh (Z9 _)) m t];show#[?_,f.toList,e,iQ L,y];rw[W0,i];let:(64:Nat)<=Xi:=by decide
 ext
end
end L2
namespace L3
open PySem L2
abbrev D:=Xa
inductive PV where
 |fz (d:D)
 |ow (ds:G D)
 |pl (i:Nat)
abbrev aQ:=G (I PV)
structure Xc where
 cls:Str
 fs:G (Str×D)
inductive Res(α:Type) where
 |ok (a:α)
 |er (x:Xc)
 |bad
namespace Res
def bind(r:Res α)(f:α->Res β):Res β:=match r with
 |.ok a=>f a
 |.er x=>.er x
 |.bad=>.bad
def X5:I α->Res α
 |some a=>.ok a
 |none=>.bad
theorem bind_ok(a:α)(f:α->Res β):(Res.ok a).bind f=f a:=W
end Res
abbrev d0:=@Res.bind_ok
abbrev bB:=M->Prop
def bL(O:bB)(p:M):bB:=λb=>O b\/b=p
def EH(O:bB)(p:M):bB:=λb=>O b/\b≠p
def noO:bB:=λ_=>False
def Ev(O:bB)(H:Hp)(a:bB)(c:Hp):Prop:=∀b o,H b=R o->¬O b->c b=R o/\¬a b
theorem Ev.refl:Ev O H O H:=λ_ _ h n=>#[h,n]
theorem Ev.trans(a:Ev O H O1 H1)(b:Ev O1 H1 O2 H2):Ev O H O2 H2:=λp o h n=>let#[h1,e]:=a p o h n;b p o h1 e
theorem Ev.grow(s:YN H H'):Ev O H O H':=λb o h n=>#[s b o h,n]
theorem Ev.add(s:YN H H')(a:H p=P):Ev O H (bL O p) H':=λb o h n=>#[s b o h,λz=>z.elim n λe=>by simp_all]
theorem Ev.sub(h:∀b,O' b->O b):Ev O H O' H:=λb o e n=>#[e,λz=>n (h b z)]
theorem Ev.mut(a:O p)(u:HO):Ev O H O (aR H p u):=λb o h n=>#[by rw[ar (λe=>n (by simp_all))];show h,n]
def aam(K:CL)(H:Hp)(a:M)(xs:G V):Prop:=Rd H a (.lst xs)\/∃(b:G J) (n:Nat),K.lookup a=R {cls:=.type "list",data:=.seq b.toArray n}/\xs.length<=Xi/\Vals xs b
def aam.sq(h:aam K H a xs):SqL K H a xs:=by
 rcases h with h|⟨f,n,h1,e,b⟩
 .show .inl h
 .show .inr #[_,f.toArray,n,h1,W,W,W,by rw[Xo,<-b.length];show e,by ext]
theorem aam.of(h:H a=R (.lst xs)):aam K H a xs:=.inl (.inl h)
def aam.same(e:YN H H')(h:aam K H a xs):aam K H' a xs:=by
 rcases h with(h|⟨o,h⟩)|h
 .show .inl (.inl (e _ _ h))
 .show .inl (.inr #[o,e _ _ h])
 .show .inr h
theorem j4(H:Hp):YN (λ_=>P) H:=λ_ _ h=>by ext h
def ab3(O:bB)(K:CL)(H:Hp)(a:M)(xs:G V):Prop:=aam K H a xs/\(O a->aam K (λ_=>P) a xs)
def aaN(O:bB)(K:CL)(H:Hp)(a:M)(xs:G V):Prop:=SqT K H a xs/\(O a->SqT K (λ_=>P) a xs)
section
variable{O Z:bB}{K:CL}{H Y:Hp}{a:W7}{X:bg V}
def ab3.ev(h:ab3 O K H a X)(e:Ev O H Z Y):ab3 Z K Y a X:=by
 let(h,k):=h;by_cases z:O a
 .show#[aam.same (j4 Y) (k z),λ_=>k z]
 .rcases h with(h|⟨o,h⟩)|h
  .let(f,b):=e a _ h z;show#[.inl (.inl f),λy=>bb y b]
  .let(f,b):=e a _ h z;show#[.inl (.inr #[o,f]),λy=>bb y b]
  .show#[.inr h,λ_=>.inr h]
def aaN.ev(h:aaN O K H a X)(e:Ev O H Z Y):aaN Z K Y a X:=by
 let(h,k):=h;by_cases z:O a
 .show#[(j4 Y).tup (k z),λ_=>k z]
 .rcases h with(h|⟨o,h⟩)|h
  .let(f,b):=e a _ h z;show#[.inl (.inl f),λy=>bb y b]
  .let(f,b):=e a _ h z;show#[.inl (.inr #[o,f]),λy=>bb y b]
  .show#[.inr h,λ_=>.inr h]
end
mutual
inductive DV(O:bB)(K:CL)(H:Hp):V->D->Prop
 |Zk:DV O K H .Zk .none
 |bl (b:Bool):DV O K H (.bl b) (.bool b)
 |int (i:Int):DV O K H (.int i) (.int i)
 |str (x:Str):DV O K H (.str x) (.str x)
 |tup {a:W7} {xs:bg V} {ds:bg D}:aaN O K H a xs->YE O K H xs ds->DV O K H (.ref a) (.tuple ds)
 |lst {a:W7} {xs:bg V} {ds:bg D}:ab3 O K H a xs->YE O K H xs ds->DV O K H (.ref a) (.list ds)
inductive YE(O:bB)(K:CL)(H:Hp):bg V->bg D->Prop
 |nil:YE O K H [] []
 |cons {v:V} {vs:bg V} {d:D} {ds:bg D}:DV O K H v d->YE O K H vs ds->YE O K H (v::vs) (d::ds)
end
section
variable{O Z:bB}{K:CL}{H H':Hp}
mutual
theorem DV.ev(e:Ev O H Z H'):∀{v:V} {d:D},DV O K H v d->DV Z K H' v d
 |_,_,.Zk=>.Zk
 |_,_,.bl b=>.bl b
 |_,_,.int i=>.int i
 |_,_,.str x=>.str x
 |_,_,.tup h hs=>.tup (h.ev e) (YE.ev e hs)
 |_,_,.lst h hs=>.lst (h.ev e) (YE.ev e hs)
theorem YE.ev(e:Ev O H Z H'):∀{vs:bg V} {ds:bg D},YE O K H vs ds->YE Z K H' vs ds
 |_,_,.nil=>.nil
 |_,_,.cons h hs=>.cons (DV.ev e h) (YE.ev e hs)
end
theorem YE.length:∀{a:G V} {ds:G D},YE O K H a ds->a.length=ds.length
 |_,_,.nil=>rfl
 |_,_,.cons _ t=>by rw[Xk,Xk,t.length]
theorem YE.get:∀{c:G V} {ds:G D} {i:Nat} {d:D},YE O K H c ds->ds[i]?=R d->∃v,c[i]?=R v/\DV O K H v d
 |_,_,_,_,.nil,e=>by simp at e
 |_,_,0,_,.cons h _,e=>by simp_all
 |_,_,i+1,d,.cons _ t,e=>by let(v,b,a):=YE.get t (by simpa using e);simp_all
theorem YE.afU:∀{c:G V} {ds:G D} {i:Nat} {v:V},YE O K H c ds->c[i]?=R v->∃d,ds[i]?=R d/\DV O K H v d
 |_,_,_,_,.nil,e=>by simp at e
 |_,_,0,_,.cons h _,e=>by simp_all
 |_,_,i+1,v,.cons _ t,e=>by let(d,b,a):=YE.afU t (by simpa using e);simp_all
theorem YE.append:∀{a ws:G V} {ds es:G D},YE O K H a ds->YE O K H ws es->YE O K H (a++ws) (ds++es)
 |_,_,_,_,.nil,h=>h
 |_,_,_,_,.cons h t,g=>.cons h (YE.append t g)
theorem YE.take:∀{a:G V} {ds:G D} (n:Nat),YE O K H a ds->YE O K H (a.take n) (ds.take n)
 |_,_,0,_=>.nil
 |_,_,_+1,.nil=>.nil
 |_,_,n+1,.cons h t=>.cons h (YE.take n t)
theorem YE.drop:∀{a:G V} {ds:G D} (n:Nat),YE O K H a ds->YE O K H (a.drop n) (ds.drop n)
 |_,_,0,h=>h
 |_,_,_+1,.nil=>.nil
 |_,_,n+1,.cons _ t=>YE.drop n t
theorem YE.flat(h:YE O K H vs ds):∀n:Nat,YE O K H (Xh n vs).flatten (Xh n ds).flatten
 |0=>.nil
 |n+1=>by rw[Ym,Ym,Y8,Y8];show h.append (YE.flat h n)
mutual
theorem DV.plain:∀{v:V} {d:D},DV O K H v d->L2.DV K H v d
 |_,_,.Zk=>.Zk
 |_,_,.bl b=>.bl b
 |_,_,.int i=>.int i
 |_,_,.str x=>.str x
 |_,_,.tup h hs=>.tup h.1 (YE.plain hs)
 |_,_,.lst h hs=>.lst h.1.sq (YE.plain hs)
theorem YE.plain:∀{vs:bg V} {ds:bg D},YE O K H vs ds->L2.YE K H vs ds
 |_,_,.nil=>.nil
 |_,_,.cons h hs=>.cons (DV.plain h) (YE.plain hs)
end
end
def DX(O:bB)(K:CL)(H:Hp)(v:V):D->Prop
 |.list ds=>∃a xs,v=.ref a/\aam K H a xs/\YE O K H xs ds
 |d=>DV O K H v d
def DV.x(h:DV O K H v d):DX O K H v d:=by
 cases h with
 |lst h a=>show#[_,_,W,h.1,a]
 |Zk=>show .Zk
 |bl b=>show .bl b
 |int i=>show .int i
 |str x=>show .str x
 |tup h a=>show .tup h a
def DX.plain(h:DX O K H v d):L2.DV K H v d:=by
 cases d with
 |list ds=>let(a,xs,rfl,f,e):=h;show .lst f.sq e.plain
 |none=>show DV.plain h
 |bool b=>show DV.plain h
 |int i=>show DV.plain h
 |str x=>show DV.plain h
 |tuple ds=>show DV.plain h
 |dict g=>show DV.plain h
def acS(K:CL)(b:Hp)(O:bB)(H:Hp)(v:V):PV->Prop
 |.fz d=>DV O K H v d
 |.ow ds=>∃a e,v=.ref a/\O a/\b a=P/\H a=R (.lst e)/\YE O K H e ds
 |.pl _=>False
structure Rl(K:CL)(B:bB)(H0:Hp)(O:bB)(σ:St)(H:Hp)(ρ:aQ):Prop where
 same:YN H0 H
 bo:∀a,B a->O a
 bd:∀a,B a->H0 a≠P
 od:∀a,H a=P->¬O a
 len:σ.length=ρ.length
 slot:∀(i:Nat) (x:PV),ρ[i]?=R (R x)->∃v,σ[i]?=R (R v)/\acS K H0 O H v x
 one:∀(i j:Nat) (ds es:G D) (v:V),ρ[i]?=R (R (.ow ds))->ρ[j]?=R (R (.ow es))->σ[i]?=R (R v)->σ[j]?=R (R v)->i=j
def aaM(K:CL)(e:Hp)(O:bB)(b:St)(H:Hp)(c:aQ)(v:V):PV->Prop
 |.fz d=>DV O K H v d
 |.ow ds=>∃a f,v=.ref a/\O a/\e a=P/\H a=R (.lst f)/\YE O K H f ds/\∀(i:Nat) (es:G D),c[i]?=R (R (.ow es))->b[i]?≠R (R (.ref a))
 |.pl i=>b[i]?=R (R v)
def kh:PV->Prop
 |.ow _=>False
 |_=>True
def bM:PV->PV
 |.ow ds=>.fz (.list ds)
 |p=>p
section
variable{K:CL}{B O X:bB}{Z H H':Hp}{Y:St}{ρ ρ':aQ}{v:V}
def acS.grow(s:YN H H')(h:acS K Z O H v x):acS K Z O H' v x:=by
 cases x with
 |fz d=>show DV.ev (Ev.grow s) h
 |ow ds=>let(a,l,e,j,g,f,b):=h;show#[a,l,e,j,g,s _ _ f,b.ev (Ev.grow s)]
 |pl i=>show h
theorem Rl.grow(R:Rl K B Z O Y H ρ)(s:YN H H'):Rl K B Z O Y H' ρ:=
 #[R.same.trans s,R.bo,R.bd,λa h=>R.od a (s.free h),R.len,λi x h=>let#[v,h1,b]:=R.slot i x h;#[v,h1,b.grow s],R.one]
theorem Rl.agp(R:Rl K B Z O Y H ρ)(h:H p=P):Z p=P:=R.same.free h
def Rl.add(R:Rl K B Z O Y H ρ)(s:YN H H')(f:H p=P)(g:H' p≠P):Rl K B Z (bL O p) Y H' ρ:=by
 show#[R.same.trans s,λa h=>.inl (R.bo a h),R.bd,λa h z=>z.elim (R.od a (s.free h)) λe=>g (by simp_all),R.len,λi x h=>?_,R.one];let(v,j,b):=R.slot i x h;show#[v,j,?_];cases x with
 |fz d=>show DV.ev (Ev.add s f) b
 |ow ds=>let(a,q,e,o,n,m,l):=b;show#[a,q,e,.inl o,n,s _ _ m,l.ev (Ev.add s f)]
 |pl i=>show b
theorem Rl.af5(R:Rl K B Z O Y H ρ)(h:Z a=P):¬B a:=λz=>R.bd a z h
def Rl.sub(R:Rl K B Z O Y H ρ){a:M}(m:Z a=P)(h:∀(i:Nat) (es:G D),ρ[i]?=cL (cL (.ow es))->Y[i]?≠cL (cL (.ref a))):Rl K B Z (EH O a) Y H ρ:=by
 show#[R.same,λb f=>#[R.bo b f,λe=>R.af5 m (e▸f)],R.bd,λb f z=>R.od b f z.1,R.len,λi x j=>?_,R.one];let(v,l,g):=R.slot i x j;show#[v,l,?_];cases x with
 |fz d=>show DV.ev (Ev.sub λb z=>z.1) g
 |ow ds=>let(b,r,e,q,p,o,n):=g;subst e;show#[b,r,W,#[q,λe=>h i ds j (by rw[l,e])],p,o,n.ev (Ev.sub λb z=>z.1)]
 |pl i=>show g
theorem vZ(h:H a=R (.lst o))(n:¬O a)(hd:YE O K H o ds):DV O K H (.ref a) (.list ds):=.lst #[aam.of h,λz=>bb z n] hd
def iT{pv:PV}(R:Rl K B Z O Y H ρ)(h:aaM K Z O Y H ρ v pv):∃X,Ev O H X H/\Rl K B Z X Y H ρ/\aaM K Z X Y H ρ v (bM pv):=by
 cases pv with
 |fz d=>show#[O,.refl,R,h]
 |pl i=>show#[O,.refl,R,h]
 |ow ds=>let(a,m,rfl,l,j,g,f,e):=h;show#[EH O a,Ev.sub λb z=>z.1,R.sub j e,vZ g (λz=>z.2 W) (f.ev (Ev.sub λb z=>z.1))]
def pR(pv:PV):kh (bM pv):=by ext pv<;>trivial
def aaM.keep{pv:PV}(a:kh pv)(e:Ev O H X H')(h:aaM K Z O Y H ρ v pv):aaM K Z X Y H' ρ' v pv:=by
 cases pv with
 |fz d=>show DV.ev e h
 |pl i=>show h
 |ow ds=>show a.elim
def V5:I (I PV)->I D
 |some (R (.fz d))=>R d
 |some (R (.ow ds))=>R (.list ds)
 |_=>P
def xX(ρ:aQ):PV->I D
 |.fz d=>R d
 |.ow ds=>R (.list ds)
 |.pl i=>V5 ρ[i]?
def oK{pv:PV}(R:Rl K B Z O Y H ρ)(h:aaM K Z O Y H ρ v pv)(e:xX ρ pv=cL d):DX O K H v d:=by
 cases pv with
 |fz p=>ext e;show DV.x h
 |ow ds=>ext e;let(a,y,rfl,w,t,m,l,r):=h;show#[a,y,W,aam.of m,l]
 |pl i=>
  let b:V5 ρ[i]?=cL d:=e;let n:=h;cases q:ρ[i]? with
  |none=>rw[q]at b;ext b
  |some o=>
   cases o with
   |none=>rw[q]at b;ext b
   |some x=>
    let(u,g,f):=R.slot i x q;rw[n]at g;ext g;rw[q]at b;cases x with
    |fz p=>ext b;show DV.x f
    |ow ds=>ext b;let(a,y,rfl,k1,k2,k3,k4):=f;show#[a,y,W,aam.of k3,k4]
    |pl j=>show f.elim
def UW(ρ:aQ)(i:Nat):I (I PV)->I (D×aQ)
 |some (R (.fz d))=>R (d,ρ)
 |some (R (.ow ds))=>R (.list ds,ρ.set i (R (.fz (.list ds))))
 |_=>P
def xw(ρ:aQ):PV->I (D×aQ)
 |.fz d=>R (d,ρ)
 |.ow ds=>R (.list ds,ρ)
 |.pl i=>UW ρ i ρ[i]?
def bE{l:G α}(h:(l.set i x)[j]?=R y):(j=i/\y=x)\/(j≠i/\l[j]?=R y):=by
 rw[Yi]at h;by_cases e:i=j
 .rw[ax e]at h
  split at h
  .ext h;show .inl #[e.symm,W]
  .ext h
 .rw[a4 e]at h;show .inr #[λz=>e z.symm,h]
def sW{pv:PV}(R:Rl K B Z O Y H ρ)(h:aaM K Z O Y H ρ v pv)(e:xw ρ pv=cL (d,ρ')):∃X,Ev O H X H/\Rl K B Z X Y H ρ'/\DV X K H v d:=by
 cases pv with
 |fz U=>ext e;show#[O,.refl,R,h]
 |ow ds=>ext e;let(a,vs,rfl,h1,T,S,Q,P):=h;show#[EH O a,Ev.sub λb z=>z.1,R.sub T P,vZ S (λz=>z.2 W) (Q.ev (Ev.sub λb z=>z.1))]
 |pl i=>
  let f:UW ρ i ρ[i]?=cL (d,ρ'):=e;let y:=h;cases q:ρ[i]? with
  |none=>rw[q]at f;ext f
  |some o=>
   cases o with
   |none=>rw[q]at f;ext f
   |some x=>
    let(u,E,A):=R.slot i x q;rw[y]at E;ext E;rw[q]at f;cases x with
    |fz U=>ext f;show#[O,.refl,R,A]
    |pl j=>show A.elim
    |ow ds=>
     ext f;let(a,vs,rfl,k1,k2,k3,k4):=A;let es:Ev O H (EH O a) H:=Ev.sub λb z=>z.1;let F:=vZ k3 (λz=>z.2 W) (k4.ev es);show#[EH O a,es,#[R.same,λb m=>#[R.bo b m,λe=>R.af5 k2 (e▸m)],R.bd,λb m z=>R.od b m z.1,by rw[Yc];show R.len,λj x l=>?_,λj k xs G w t r=>?_],F]
     .rcases bE l with⟨rfl,g⟩|⟨p,l⟩
      .ext g;show#[_,y,F]
      .let(u,C,n):=R.slot j x l
       show#[u,C,?_];cases x with
       |fz d=>show DV.ev es n
       |pl i=>show n
       |ow xs=>let(b,I,rfl,N,M,L,J):=n;show#[b,I,W,#[N,λz=>p (R.one j i xs ds (.ref a) l q (by rw[C,z]) y)],M,L,J.ev es]
     .rcases bE t with⟨rfl,g⟩|⟨_,t⟩
      .ext g
      .rcases bE r with⟨rfl,g⟩|⟨_,r⟩
       .ext g
       .show R.one j k xs G w t r
end
def XOk(K:CL)(B:bB)(H:Hp)(c:J)(b:I M)(x:Xc):Prop:=
 (∃a,c=.ref a/\XH K Xv x.cls=R (R (.ref a)))/\∃fs,(∀p,b=R p->H p=R (.xd fs))/\∀f d,x.fs.lookup f=R d->b≠P/\∃v,fs.lookup f=R v/\DV B K H v d
def XE(K:CL)(B:bB)(a:Hp)(E:XK)(x:Xc):Prop:=∀c b H',YN a H'->XOk K B H' c b x->E c b H'
def WR(K:CL)(E:XK)(B:bB)(b:Hp)(P:α->Prop):Res α->Prop
 |.ok a=>P a
 |.er x=>XE K B b E x
 |.bad=>False
section
variable{K:CL}{E:XK}{B:bB}{Z:Hp}
def WR.bind(h:WR K E B Z b (r.bind k)):WR K E B Z (λa=>WR K E B Z b (k a)) r:=by ext r<;>show h
def WR.X5(h:WR K E B Z b ((Res.X5 o).bind k)):∃a,o=R a/\WR K E B Z b (k a):=by
 cases o with
 |none=>show h.elim
 |some a=>show#[a,W,h]
def WR.imp(h:WR K E B Z b r)(g:∀a,b a->P' a):WR K E B Z P' r:=by
 cases r with
 |ok a=>show g a h
 |er x=>show h
 |bad=>show h
end
abbrev FE:=aQ->Res (PV×aQ)
abbrev FT:=aQ->Res (Bool×aQ)
abbrev FA:=aQ->Res (G PV×aQ)
def EO(K:CL)(E:XK)(t:TE)(f:FE):Prop:=
 ∀(B:bB) (b:Hp) (O:bB) (a:St) (H:Hp) (g:aQ) (Q:VK),Rl K B b O a H g->WR K E B b (λr=>∀e v H',Ev O H e H'->Rl K B b e a H' r.2->aaM K b e a H' r.2 v r.1->Q v H') (f g)->t a H Q
def TTO(K:CL)(E:XK)(t:TT)(f:FT):Prop:=
 ∀(B:bB) (b:Hp) (O:bB) (a:St) (H:Hp) (e:aQ) (Q:Bool->Hp->Prop),Rl K B b O a H e->WR K E B b (λr=>∀g H',Ev O H g H'->Rl K B b g a H' r.2->Q r.1 H') (f e)->t a H Q
def AO(K:CL)(E:XK)(t:TA)(f:FA):Prop:=
 ∀(B:bB) (b:Hp) (O:bB) (a:St) (H:Hp) (g:aQ) (Q:G V->Hp->Prop),Rl K B b O a H g->WR K E B b (λr=>∀e h H',Ev O H e H'->Rl K B b e a H' r.2->Paired (λv pv=>aaM K b e a H' r.2 v pv/\kh pv) h r.1->Q h H') (f g)->t a H Q
inductive RV where
 |fz (d:D)
 |ow (ds:G D)
def RV.pv:RV->PV
 |.fz d=>.fz d
 |.ow ds=>.ow ds
def Fin(O:bB)(K:CL)(H:Hp)(Q:VK):RV->Prop
 |.fz d=>∀v H',YN H H'->DV O K H' v d->Q v H'
 |.ow ds=>∀p a H',YN H H'->H p=P->H' p=R (.lst a)->YE (bL O p) K H' a ds->Q (.ref p) H'
def mH(O:bB)(H:Hp):Prop:=∀a,H a=P->¬O a
section
variable{K:CL}{E:XK}{B O X:bB}{Y H H':Hp}{Z:St}{T ρ':aQ}{v:V}
def lC(R:Rl K B Y O Z H T)(h:∀X v H',Ev O H X H'->Rl K B Y X Z H' T->aaM K Y X Z H' T v C.pv->Q v H'):Fin O K H Q C:=by
 cases C with
 |fz d=>show λv H' s f=>h O v H' (Ev.grow s) (R.grow s) f
 |ow ds=>intro p q H' s b e f;show h (bL O p) (.ref p) H' (Ev.add s b) (R.add s b (by rw[e];simp)) #[p,q,W,.inr W,R.agp b,e,f,λi es r z=>?_];let(u,g,a,l,e2,o,n,j,m):=R.slot i _ r;rw[z]at g;ext g;ext e2;rw[b]at j;ext j
theorem Fin.new(hd:YE O K H vs ds)(h:Fin O K H Q (.ow ds)):∀p,H p=P->Q (.ref p) (aR H p (.lst vs)):=λp a=>
 h p vs _ (bj a _) a ay (hd.ev (Ev.add (bj a _) a))
theorem Fin.ae6(hd:YE O K H vs ds)(b:mH O H)(h:Fin O K H Q (.fz (.tuple ds))):∀p,H p=P->Q (.ref p) (aR H p (.tup vs)):=λp a=>
 h (.ref p) _ (bj a _) (.tup #[SqT.of ay,λz=>bb z (b p a)] (hd.ev (Ev.grow (bj a _))))
theorem Fin.at(h:Fin O K H Q (.fz d))(a:DV O K H v d):Q v H:=h v H (YN.refl H) a
def Aq(T:aQ)(i:Nat):I (I PV)->Res (PV×aQ)
 |some (R (.fz d))=>.ok (.fz d,T)
 |some (R (.ow _))=>.ok (.pl i,T)
 |_=>.bad
def ad(i:Nat):FE:=λT=>Aq T i T[i]?
def Ry:EO K E (nA i) (ad i):=by
 intro B Y O Z H T Q R w;unfold ad at w;cases q:T[i]? with
 |none=>rw[q]at w;show w.elim
 |some o=>
  cases o with
  |none=>rw[q]at w;show w.elim
  |some x=>
   rw[q]at w;let(v,a,b):=R.slot i x q;cases x with
   |fz d=>show#[v,a,w O v H .refl R b]
   |ow ds=>show#[v,a,w O v H .refl R a]
   |pl j=>show w.elim
def pC(d:D):FE:=λT=>.ok (.fz d,T)
theorem EI(h:∀O H,DV O K H v d):EO K E (tC v) (pC d):=λB Y O Z H T Q R w=>w O v H .refl R (h O H)
theorem OD:EO K E (tC (.int i)) (pC (.int i)):=EI λ_ _=>.int i
theorem Ug:EO K E (tC (.bl b)) (pC (.bool b)):=EI λ_ _=>.bl b
theorem OQ:EO K E (tC (.str x)) (pC (.str x)):=EI λ_ _=>.str x
theorem Oh:EO K E (tC .Zk) (pC .none):=EI λ_ _=>.Zk
def kZ(K:CL)(r:R2)(f:D->D->I RV):Prop:=∀(O:bB) (H:Hp) (x y:V) (e a:D) (b:RV) (Q:VK),mH O H->DX O K H x e->DX O K H y a->f e a=R b->Fin O K H Q b->r x y H Q
def aB(f:D->D->I RV)(c fb:FE):FE:=λT=>(c T).bind λa=>(fb a.2).bind λb=>(Res.X5 (xX b.2 (bM a.1))).bind λh=>(Res.X5 (xX b.2 b.1)).bind λe=>(Res.X5 (f h e)).bind λg=>.ok (g.pv,b.2)
def Nx(t:kZ K r f)(c:EO K E ta fa)(u:EO K E tb fb):EO K E (DC r ta tb) (aB f fa fb):=by intro B Y O Z H T Q R w;show c B Y O Z H T _ R (w.bind.imp λa i P x N e1 F q=>?_);let(J,e2,R2,p):=iT F q;show u B Y J Z N a.2 _ R2 (i.bind.imp λb e I y M e3 g o=>?_);let h:=p.keep (pR a.1) e3 (ρ':=b.2);let(dx,l,e):=e.X5;let(A,j,e):=e.X5;let(rv,m,e):=e.X5;show t I M x y dx A rv Q g.od (oK g h l) (oK g o j) m (lC g λG v L e4 C n=>?_);show e G v L (e1.trans (e2.trans (e3.trans e4))) C n
def Vn:D->I Bool
 |.bool b=>R b
 |_=>P
def Pa(h:DX O K H x d)(e:Vn d=R b):x=.bl b:=by ext d<;>ext e;ext h;rfl
def az(c:FE):aQ->Res (Bool×aQ):=λT=>(c T).bind λa=>(Res.X5 (xX a.2 a.1)).bind λd=>(Res.X5 (Vn d)).bind λb=>.ok (b,a.2)
def wu(c:EO K E o C):TTO K E (tH o) (az C):=by intro B Y O Z H T Q R w;show c B Y O Z H T _ R (w.bind.imp λa e j x l e1 f i=>?_);let(d,g,e):=e.X5;let(b,h,e):=e.X5;show#[b,Pa (oK f i g) h,e j l e1 f]
theorem TJ(a:EO K E o C):TTO K E (tB o) (az C):=wu a
def sO(b fb:FT):FT:=λT=>(b T).bind λa=>if a.1=S then fb a.2 else .ok (U,a.2)
def CM(b:FT):FT:=λT=>(b T).bind λa=>.ok (!a.1,a.2)
theorem TTO.next(h:TTO K E t f)(R:Rl K B Y O1 Z H1 T)(e1:Ev O H O1 H1)(w:WR K E B Y (λr=>∀X H',Ev O H X H'->Rl K B Y X Z H' r.2->Q r.1 H') (f T)):t Z H1 Q:=
 h B Y O1 Z H1 T Q R (w.imp λr q X H' a b=>q X H' (e1.trans a) b)
theorem EO.next(h:EO K E t f)(R:Rl K B Y O1 Z H1 T)(e1:Ev O H O1 H1)(w:WR K E B Y (λr=>∀X v H',Ev O H X H'->Rl K B Y X Z H' r.2->aaM K Y X Z H' r.2 v r.1->Q v H') (f T)):t Z H1 Q:=
 h B Y O1 Z H1 T Q R (w.imp λr q X v H' b e a=>q X v H' (e1.trans b) e a)
def MB(l:TTO K E t f)(j:TTO K E u g):TTO K E (Pd t u) (sO f g):=by
 intro B Y O Z H T Q R w;show l B Y O Z H T _ R (w.bind.imp λa e m n e1 h=>?_);let(b,i):=a;cases b with
 |true=>show j.next h e1 e
 |false=>show e m n e1 h
def MC(e:TTO K E t f):TTO K E (Kl t) (CM f):=by intro B Y O Z H T Q R w;show e B Y O Z H T _ R (w.bind.imp λa b h i e1 g=>b h i e1 g)
def cQ:FT:=λT=>.ok (S,T)
theorem EF:TTO K E G4 cQ:=λB Y O Z H T Q R w=>w O H .refl R
def MZ(c:FT)(b fb:FE):FE:=λT=>(c T).bind λa=>if a.1=S then b a.2 else fb a.2
def Ui(h:TTO K E t c)(d:EO K E C fa)(i:EO K E o fb):EO K E (SE t C o) (MZ c fa fb):=by
 intro B Y O Z H T Q R w;show h B Y O Z H T _ R (w.bind.imp λa e j l e1 f=>?_);let(b,g):=a;cases b with
 |true=>show d.next f e1 e
 |false=>show i.next f e1 e
def am:FA:=λT=>.ok ([],T)
def aa(c:FE)(fr:FA):FA:=λT=>(c T).bind λa=>(fr a.2).bind λb=>.ok (bM a.1::b.1,b.2)
theorem OY:AO K E gM am:=λB Y O Z H T Q R w=>w O [] H .refl R .nil
def JO(c:EO K E C fa)(l:AO K E tr fr):AO K E (c8 C tr) (aa fa fr):=by intro B Y O Z H T Q R w;show c B Y O Z H T _ R (w.bind.imp λa g t x r e1 n j=>?_);let(p,e2,R2,i):=iT n j;show l B Y p Z r a.2 _ R2 (g.bind.imp λb f o e q e3 m h=>?_);show f o (x::e) q (e1.trans (e2.trans e3)) m (.cons #[i.keep (pR a.1) e3,pR a.1] h)
def sN(T:aQ):G PV->I (G D)
 |[]=>R []
 |p::r=>match xX T p with
  |some d=>(match sN T r with
   |some ds=>R (d::ds)
   |none=>P)
  |none=>P
theorem uQ(R:Rl K B Y O Z H T):∀{f:G V} {c:G PV} {ds:G D},Paired (λv pv=>aaM K Y O Z H T v pv/\kh pv) f c->sN T c=cL ds->Paired (DX O K H) f ds
 |_,_,_,.nil,e=>by ext e;show .nil
 |_,_,_,.cons (l₂:=c) (b:=p) h t,e=>by
  unfold sN at e;cases q:xX T p with
  |none=>simp_all
  |some d=>
   rw[q]at e;dsimp only at e;cases g:sN T c with
   |none=>simp_all
   |some a=>rw[g]at e;ext e;show .cons (oK R h.1 q) (uQ R t g)
def ph(T:aQ):G PV->I (G D×aQ)
 |[]=>R ([],T)
 |p::r=>match xw T p with
  |some (d,b)=>(match ph b r with
   |some (ds,a)=>R (d::ds,a)
   |none=>P)
  |none=>P
theorem qZ:∀{k:G V} {c:G PV} {ds:G D} {O:bB} {T ρ':aQ},Rl K B Y O Z H T->Paired (λv pv=>aaM K Y O Z H T v pv/\kh pv) k c->ph T c=cL (ds,ρ')->∃X,Ev O H X H/\Rl K B Y X Z H ρ'/\YE X K H k ds
 |_,_,_,O,_,_,A,.nil,e=>by ext e;show#[O,.refl,A,.nil]
 |_,_,_,O,T,ρ',A,.cons (l₁:=k) (l₂:=c) (b:=p) h t,e=>by
  unfold ph at e;cases q:xw T p with
  |none=>simp_all
  |some r=>
   let(d,a):=r;rw[q]at e;dsimp only at e;cases C:ph a c with
   |none=>simp_all
   |some j=>let(m,g):=j;rw[C]at e;ext e;let(y,e1,u,o):=sW A h.1 q;let i:Paired (λv pv=>aaM K Y y Z H a v pv/\kh pv) k c:=Paired.Z4 t λv pv #[l,f]=>#[l.keep f e1,f];let(w,e2,R2,n):=qZ u i C;show#[w,e1.trans e2,R2,.cons (o.ev e2) n]
abbrev FN:=G D->Res RV
def Cv(K:CL)(n:Nat)(F:FN):Sp:=λb H Q E=>b.length=n/\∃(B:bB) (ds:G D),(∀a,B a->H a≠P)/\YE B K H b ds/\WR K E B H (Fin B K H Q) (F ds)
def aV(c:FA):FE:=λT=>(c T).bind λa=>(Res.X5 (ph a.2 a.1)).bind λb=>if b.1.length<=1000 then .ok (.fz (.tuple b.1),b.2)else .bad
def dI(c:FA):FE:=λT=>(c T).bind λa=>(Res.X5 (ph a.2 a.1)).bind λb=>if b.1.length<=1000 then .ok (.ow b.1,b.2)else .bad
theorem yP(h:n<=1000):n<=Xi:=XT h ()
def QG(c:AO K E C fa):EO K E (FD C) (aV fa):=by
 intro B Y O Z H T Q R w;show c B Y O Z H T _ R (w.bind.imp λa g p t r e1 l i=>?_);let((ds,f),q,b):=g.X5;let(o,e2,R2,e):=qZ l i q;dsimp only at b;by_cases hn:ds.length<=1000
 .rw[ax hn]at b;show#[by rw[e.length];show yP hn,Fin.ae6 e R2.od (lC R2 λm v n e3 j h=>b m v n (e1.trans (e2.trans e3)) j h)]
 .rw[a4 hn]at b;show b.elim
def PB(c:AO K E C fa):EO K E (Rf C) (dI fa):=by
 intro B Y O Z H T Q R w;show c B Y O Z H T _ R (w.bind.imp λa g p t r e1 l i=>?_);let((ds,f),q,b):=g.X5;let(o,e2,R2,e):=qZ l i q;dsimp only at b;by_cases hn:ds.length<=1000
 .rw[ax hn]at b;show#[by rw[e.length];show yP hn,Fin.new e (lC R2 λm v n e3 j h=>b m v n (e1.trans (e2.trans e3)) j h)]
 .rw[a4 hn]at b;show b.elim
def A1(K:CL)(r:G V->Hp->VK->Prop)(f:G D->I RV):Prop:=∀(O:bB) (H:Hp) (xs:G V) (ds:G D) (a:RV) (Q:VK),mH O H->Paired (DX O K H) xs ds->f ds=R a->Fin O K H Q a->r xs H Q
def g9(f:G D->I RV)(c:FA):FE:=λT=>(c T).bind λa=>(Res.X5 (sN a.2 a.1)).bind λds=>(Res.X5 (f ds)).bind λb=>.ok (b.pv,a.2)
def EN(l:A1 K r f)(c:AO K E C fa):EO K E (tI r C) (g9 f fa):=by intro B Y O Z H T Q R w;show c B Y O Z H T _ R (w.bind.imp λa g o u t e1 e j=>?_);let(ds,q,b):=g.X5;let(y,h,b):=b.X5;show l o t u ds y Q e.od (uQ e j q) h (lC e λn v p e4 m i=>b n v p (e1.trans e4) m i)
def Vu:D->I Int
 |.int i=>R i
 |_=>P
def Os(h:DX O K H x d)(e:Vu d=R i):x=.int i:=by ext d<;>ext e;ext h;rfl
abbrev FO:=aQ->Res (I Int×aQ)
def Td(K:CL)(E:XK)(t:TO)(f:FO):Prop:=
 ∀(B:bB) (Y:Hp) (O:bB) (Z:St) (H:Hp) (T:aQ) (Q:I Int->Hp->Prop),Rl K B Y O Z H T->WR K E B Y (λr=>∀X H',Ev O H X H'->Rl K B Y X Z H' r.2->Q r.1 H') (f T)->t Z H Q
def oG:FO:=λT=>.ok (P,T)
def gR(b:FE):FO:=λT=>(b T).bind λa=>(Res.X5 (xX a.2 a.1)).bind λd=>(Res.X5 (Vu d)).bind λi=>.ok (R i,a.2)
theorem DW:Td K E A0 oG:=λB Y O Z H T Q R w=>w O H .refl R
def HM(c:EO K E o C):Td K E (Nu o) (gR C):=by intro B Y O Z H T Q R w;show c B Y O Z H T _ R (w.bind.imp λa f j x l e1 e h=>?_);let(d,q,b):=f.X5;let(i,g,b):=b.X5;show#[i,Os (oK e h q) g,b j l e1 e]
def Sv(K:CL)(r:V->I Int->I Int->Hp->VK->Prop)(f:D->I Int->I Int->I RV):Prop:=∀(O:bB) (H:Hp) (x:V) (lo b:I Int) (e:D) (a:RV) (Q:VK),mH O H->DX O K H x e->f e lo b=R a->Fin O K H Q a->r x lo b H Q
def DF(f:D->I Int->I Int->I RV)(c:FE)(b e:FO):FE:=λT=>(c T).bind λa=>(b a.2).bind λl=>(e l.2).bind λh=>(Res.X5 (xX h.2 (bM a.1))).bind λi=>(Res.X5 (f i l.1 h.1)).bind λg=>.ok (g.pv,h.2)
def TZ(q:Sv K r f)(c:EO K E ta fa)(t:Td K E tl fl)(u:Td K E th fh):EO K E (VF r ta tl th) (DF f fa fl fh):=by intro B Y O Z H T Q R w;show c B Y O Z H T _ R (w.bind.imp λa i S x P e1 C p=>?_);let(J,e2,R2,o):=iT C p;show t B Y J Z P a.2 _ R2 (i.bind.imp λl g I N e3 A=>?_);show u B Y I Z N l.2 _ A (g.bind.imp λh b G M e4 e=>?_);let(dx,j,b):=b.X5;let(rv,m,b):=b.X5;show q G M x l.1 h.1 dx rv Q e.od (oK e (o.keep (pR a.1) (e3.trans e4)) j) m (lC e λF v L e5 y n=>b F v L (e1.trans (e2.trans (e3.trans (e4.trans e5)))) y n)
end
def vV{l:G α}(h:(l.set i x)[i]?=R y):i<l.length:=by
 rw[Yi]at h;rw[ax W]at h;split at h
 .assumption
 .ext h
section
variable{K:CL}{E:XK}{B O U:bB}{Z H H':Hp}{Y:St}{ρ ρ':aQ}{v:V}
def Rl.mut{i:Nat}{ds g:bg D}{a:W7}{f:bg V}(R:Rl K B Z O Y H ρ)(c:ρ[i]?=cL (cL (.ow ds)))(J:Y[i]?=cL (cL (.ref a)))(L:O a)(M:Z a=Ld)(hd:YE O K H f g):
  Rl K B Z O Y (aR H a (.lst f)) (ρ.set i (cL (.ow g))):=by
 let ev:Ev O H O (aR H a (.lst f)):=Ev.mut L _;show#[λb o e=>by rw[ar (bC e M)];show R.same b o e,R.bo,R.bd,λb m=>?_,by rw[Yc];show R.len,λj x l=>?_,λj k xs G w hj X A t=>?_]
 .by_cases e:b=a
  .rw[e,ay]at m;ext m
  .rw[ar e]at m;show R.od b m
 .rcases bE l with⟨rfl,ee⟩|⟨r,l⟩
  .ext ee;show#[_,J,a,f,W,L,M,ay,hd.ev ev]
  .let(u,I,q):=R.slot j x l
   show#[u,I,?_];cases x with
   |fz d=>show DV.ev ev q
   |pl i=>show q
   |ow xs=>let(b,N,rfl,T,S,Q,P):=q;let F:b≠a:=λz=>r (R.one j i xs ds (.ref a) l c (by rw[I,z]) J);show#[b,N,W,T,S,by rw[ar F];show Q,P.ev ev]
 .let own:∀{j:Nat} {xs:bg D},(ρ.set i (cL (.ow g)))[j]?=cL (cL (.ow xs))->∃G,ρ[j]?=cL (cL (.ow G)):=λ{j xs} h=>by
   rcases bE h with⟨rfl,_⟩|⟨_,h⟩
   .show#[_,c]
   .show#[_,h]
  let(p,C):=own hj;let(n,y):=own X;show R.one j k p n w C y A t
theorem tf(h:n<1000000):n<Xi:=Xz h ()
def FL:I (I PV)->I (G D)
 |some (R (.ow ds))=>R ds
 |_=>P
def AH(h:FL o=R ds):o=R (R (.ow ds)):=by
 unfold FL at h;split at h
 .ext h;rfl
 .ext h
def Ci(i:Nat)(c:FE):FE:=λρ=>(Res.X5 (FL ρ[i]?)).bind λ_=>(c ρ).bind λa=>(Res.X5 (xw a.2 a.1)).bind λb=>(Res.X5 (FL b.2[i]?)).bind λds=>
 if ds.length<1000000 then .ok (.fz .none,b.2.set i (R (.ow (ds++[b.1]))))else .bad
def Oj(p:EO K E te fe):EO K E (RK K "list" vt (nA i) (c8 te gM)) (Ci i fe):=by
 intro B Z O Y H ρ Q R w;let(u,n,w):=w.X5;let(v,j,a,T,rfl,J,I,q,G):=R.slot i _ (AH n);show#[_,j,.inl #[W,_,SqL.of q],?_];show p B Z O Y H ρ _ R (w.bind.imp λb e M y N e1 A o=>?_);let((d,l),m,e):=e.X5;let(C,e2,R2,t):=sW A o m;let(ds,f,e):=e.X5;let f:=AH f;let(F,k1,L,g,r,k2,k3,k4,k5):=R2.slot i _ f;subst r;rw[j]at k1;ext k1;dsimp only at e;by_cases h:ds.length<1000000
 .rw[ax h]at e;show#[a,g,y,W,W,k4,tf (by rw[k5.length];show h),?_];show e C .Zk _ (e1.trans (e2.trans (Ev.mut k2 _))) (R2.mut f j k2 k3 (k5.append (.cons t .nil))) .Zk
 .rw[a4 h]at e;show e.elim
abbrev FG:=PV->aQ->Res aQ
abbrev RI:=G D->aQ->Res aQ
def GO(K:CL)(E:XK)(g:TG)(f:FG):Prop:=
 ∀(B:bB) (Z:Hp) (O:bB) (Y:St) (H:Hp) (ρ:aQ) (v:V) (pv:PV) (Q:St->Hp->Prop),Rl K B Z O Y H ρ->aaM K Z O Y H ρ v pv->WR K E B Z (λρ'=>∀U a H',Ev O H U H'->Rl K B Z U a H' ρ'->Q a H') (f pv ρ)->g v Y H Q
def Ue(K:CL)(E:XK)(g:yy)(f:RI):Prop:=
 ∀(B:bB) (Z:Hp) (O:bB) (Y:St) (H:Hp) (ρ:aQ) (b:G V) (ds:G D) (Q:St->Hp->Prop),Rl K B Z O Y H ρ->YE O K H b ds->WR K E B Z (λρ'=>∀U a H',Ev O H U H'->Rl K B Z U a H' ρ'->Q a H') (f ds ρ)->g b Y H Q
def Rl.aiS(R:Rl K B Z O Y H ρ)(h:DV O K H v d):Rl K B Z O (Y.set i (cL v)) H (ρ.set i (cL (.fz d))):=by
 show#[R.same,R.bo,R.bd,R.od,by rw[Yc,Yc];show R.len,λj x f=>?_,λj k xs o w m l b a=>?_]
 .rcases bE f with⟨rfl,e⟩|⟨g,f⟩
  .ext e;let:=vV f;show#[v,by rw[Yi,ax W,ax (by rw[R.len];show this)],h]
  .let(u,t,r):=R.slot j x f;show#[u,by rw[Yi,a4 (λz=>g z.symm)];show t,r]
 .rcases bE m with⟨rfl,n⟩|⟨q,m⟩
  .ext n
  .rcases bE l with⟨rfl,n⟩|⟨p,l⟩
   .ext n
   .rw[Yi,a4 (λz=>q z.symm)]at b;rw[Yi,a4 (λz=>p z.symm)]at a;show R.one j k xs o w m l b a
def Rl.alc(R:Rl K B Z O Y H ρ)(h:aaM K Z O Y H ρ v (.ow ds)):Rl K B Z O (Y.set i (cL v)) H (ρ.set i (cL (.ow ds))):=by
 let(a,N,rfl,J,I,G,F,q):=h;show#[R.same,R.bo,R.bd,R.od,by rw[Yc,Yc];show R.len,λj x m=>?_,λj k xs p w C l f b=>?_]
 .rcases bE m with⟨rfl,e⟩|⟨o,m⟩
  .ext e;let:=vV m;show#[.ref a,by rw[Yi,ax W,ax (by rw[R.len];show this)],a,N,W,J,I,G,F]
  .let(u,y,t):=R.slot j x m;show#[u,by rw[Yi,a4 (λz=>o z.symm)];show y,t]
 .rcases bE C with⟨rfl,M⟩|⟨r,g⟩
  .rcases bE l with⟨rfl,L⟩|⟨n,l⟩
   .rfl
   .rw[Yi,a4 (λz=>n z.symm)]at b
    rcases bE f with⟨_,e⟩|⟨z,_⟩
    .ext e;show bb b (q k p l)
    .show bb W z
  .let A:=g
   rw[Yi,a4 (λz=>r z.symm)]at f;rcases bE l with⟨rfl,M⟩|⟨n,l⟩
   .rcases bE b with⟨_,e⟩|⟨z,_⟩
    .ext e;show bb f (q j xs g)
    .show bb W z
   .rw[Yi,a4 (λz=>n z.symm)]at b;show R.one j k xs p w g l f b
def gN(i:Nat):FG:=λpv ρ=>match pv with
 |.ow ds=>.ok (ρ.set i (R (.ow ds)))
 |.fz d=>.ok (ρ.set i (R (.fz d)))
 |.pl j=>(Res.X5 (xw ρ (.pl j))).bind λb=>.ok (b.2.set i (R (.fz b.1)))
def uV:GO K E (oW i) (gN i):=by
 intro B Z O Y H ρ v pv Q R p w;cases pv with
 |ow ds=>show w O _ H .refl (R.alc p)
 |fz d=>show w O _ H .refl (R.aiS p)
 |pl j=>let((d,a),q,w):=WR.X5 (show WR K E B Z _ ((Res.X5 (xw ρ (.pl j))).bind λb=>.ok (b.2.set i (cL (.fz b.1))))from w);let(f,e2,R2,e):=sW R p q;show w f _ H e2 (R2.aiS e)
def MU:RI:=λds ρ=>match ds with
 |[]=>.ok ρ
 |_=>.bad
def Dv(f:FG)(g:RI):RI:=λds ρ=>match ds with
 |[]=>.bad
 |d::r=>(f (.fz d) ρ).bind λa=>g r a
def OX:Ue K E J8 MU:=by
 intro B Z O Y H ρ b ds Q R a w;cases a with
 |nil=>show#[W,w O Y H .refl R]
 |cons _ _=>show w.elim
def Ju(n:GO K E t f)(m:Ue K E u g):Ue K E (Bq t u) (Dv f g):=by
 intro B Z O Y H ρ L ds Q R o w;cases o with
 |nil=>show w.elim
 |cons l j=>rename_i v L d ds;show#[_,_,W,n B Z O Y H ρ _ (.fz d) _ R l (WR.imp (WR.bind w) λe i y b C e1 p=>?_)];show m B Z y b C e _ _ Q p (j.ev e1) (i.imp λh q r a A e2 R2=>q r a A (e1.trans e2) R2)
def V7:D->I (G D)
 |.tuple ds=>R ds
 |_=>P
def HU(h:DX O K H x d)(e:V7 d=R ds):∃a xs,x=.ref a/\aaN O K H a xs/\YE O K H xs ds:=by
 ext d<;>ext e;cases h with
 |tup h b=>show#[_,_,W,h,b]
def gT(n:Nat)(f:RI):FG:=λpv ρ=>(Res.X5 (xX ρ pv)).bind λd=>(Res.X5 (V7 d)).bind λds=>if ds.length=n then f ds ρ else .bad
def Rm(h:Ue K E t f):GO K E (K5 K n t) (gT n f):=by
 intro B Z O Y H ρ v pv Q R p w;let(d,g,w):=w.X5;let(ds,e,w):=w.X5;let(a,xs,rfl,i,b):=HU (oK R p g) e;by_cases hn:ds.length=n
 .rw[ax hn]at w;show#[a,xs,W,i.1,b.length.trans hn,h B Z O Y H ρ xs ds Q R b w]
 .rw[a4 hn]at w;show w.elim
inductive Fl where
 |nx (ρ:aQ)
 |rt (rv:RV)
 |bk (ρ:aQ)
 |ct (ρ:aQ)
abbrev FS:=aQ->Res Fl
def aez(K:CL)(B:bB)(Z:Hp)(O:bB)(H:Hp)(D:Ends):Fl->Prop
 |.nx ρ'=>∀U a H',Ev O H U H'->Rl K B Z U a H' ρ'->D.nx a H'
 |.bk ρ'=>∀U a H',Ev O H U H'->Rl K B Z U a H' ρ'->D.bk a H'
 |.ct ρ'=>∀U a H',Ev O H U H'->Rl K B Z U a H' ρ'->D.ct a H'
 |.rt b=>Fin B K Z D.rt b
def SO(K:CL)(E:XK)(t:TS)(g:FS):Prop:=
 ∀(B:bB) (Z:Hp) (O:bB) (Y:St) (H:Hp) (ρ:aQ) (D:Ends),Rl K B Z O Y H ρ->WR K E B Z (aez K B Z O H D) (g ρ)->t D Y H
def aez.ev{D:Ends}(e:Ev O H O1 H1)(h:aez K B Z O H D fl):aez K B Z O1 H1 D fl:=by
 cases fl with
 |nx ρ'=>show λU a H' b f=>h U a H' (e.trans b) f
 |bk ρ'=>show λU a H' b f=>h U a H' (e.trans b) f
 |ct ρ'=>show λU a H' b f=>h U a H' (e.trans b) f
 |rt g=>show h
def eO:FS:=λρ=>.ok (.nx ρ)
def bK(f g:FS):FS:=λρ=>(f ρ).bind λa=>match a with
 |.nx b=>g b
 |a=>.ok a
def rY(f:FE):FS:=λρ=>(f ρ).bind λa=>.ok (.nx a.2)
def dU(f:FE)(g:FG):FS:=λρ=>(f ρ).bind λa=>(g a.1 a.2).bind λb=>.ok (.nx b)
def mv(c:FT)(f g:FS):FS:=λρ=>(c ρ).bind λa=>if a.1=S then f a.2 else g a.2
def Dw(ρ:aQ):PV->I RV
 |.fz d=>R (.fz d)
 |.ow ds=>R (.ow ds)
 |.pl i=>match ρ[i]? with
  |some (R (.fz d))=>R (.fz d)
  |some (R (.ow ds))=>R (.ow ds)
  |_=>P
def dH(f:FE):FS:=λρ=>(f ρ).bind λa=>(Res.X5 (Dw a.2 a.1)).bind λb=>.ok (.rt b)
theorem LM:SO K E GP eO:=λB Z O Y H ρ D R w=>w O Y H .refl R
def Re(j:SO K E t f)(i:SO K E u g):SO K E (GD t u) (bK f g):=by
 intro B Z O Y H ρ D R w;show j B Z O Y H ρ {D with nx:=u D} R (WR.imp (WR.bind w) λh b=>?_);cases h with
 |nx a=>show λm e n e1 l=>i B Z m e n a D l (WR.imp b λh q=>q.ev e1)
 |rt o=>show b
 |bk a=>show b
 |ct a=>show b
def Ki(h:EO K E t f):SO K E (xH t) (rY f):=by intro B Z O Y H ρ D R w;show h B Z O Y H ρ _ R (w.bind.imp λa b g x i e1 e j=>b g Y i e1 e)
def HW(h:EO K E t f)(m:GO K E g C):SO K E (wP t g) (dU f C):=by intro B Z O Y H ρ D R w;show h B Z O Y H ρ _ R (w.bind.imp λa j p x r e1 n l=>?_);show m B Z p Y r a.2 x a.1 _ n l (j.bind.imp λe i o b q e2 R2=>i o b q (e1.trans e2) R2)
def ST(m:TTO K E c C)(o:SO K E t f)(n:SO K E u g):SO K E (L5 c t u) (mv C f g):=by
 intro B Z O Y H ρ D R w;show m B Z O Y H ρ _ R (w.bind.imp λa h j l e1 i=>?_);let(b,e):=a;cases b with
 |true=>show o B Z j Y l e D i (WR.imp h λp q=>q.ev e1)
 |false=>show n B Z j Y l e D i (WR.imp h λp q=>q.ev e1)
def QN{pv:PV}(R:Rl K B Z O Y H ρ)(p:aaM K Z O Y H ρ v pv)(e:Dw ρ pv=cL C)(w:Fin B K Z Q C):Q v H:=by
 let ow:∀{a:M} {A:G V} {ds:G D},O a->Z a=P->H a=cL (.lst A)->YE O K H A ds->Fin B K Z Q (.ow ds)->Q (.ref a) H:=λ{a A ds} m l g f w=>
  w a A H R.same l g (f.ev (Ev.sub λb z=>z.elim (R.bo b) λe=>by simp_all))
 let fz:∀{d:D},DV O K H v d->Fin B K Z Q (.fz d)->Q v H:=λ{d} h w=>w v H R.same (h.ev (Ev.sub R.bo));cases pv with
 |fz d=>ext e;show fz p w
 |ow ds=>ext e;let(a,A,rfl,m,l,g,f,y):=p;show ow m l g f w
 |pl i=>
  let t:=p;unfold Dw at e;dsimp only at e;cases q:ρ[i]? with
  |none=>simp_all
  |some o=>
   cases o with
   |none=>simp_all
   |some x=>
    let(u,r,n):=R.slot i x q;rw[t]at r;ext r;rw[q]at e;cases x with
    |fz d=>ext e;show fz n w
    |ow ds=>ext e;let(a,A,rfl,m,l,g,f):=n;show ow m l g f w
    |pl j=>show n.elim
def Rq(h:EO K E t f):SO K E (Cf t) (dH f):=by intro B Z O Y H ρ D R w;show h B Z O Y H ρ _ R (w.bind.imp λa b i x j e1 g e=>?_);let(l,q,b):=b.X5;show QN g e q b
def ue(K:CL)(J:It)(O:bB)(H:Hp)(ds:G D):Prop:=∀U H',Ev O H U H'->mH U H'->
 (∀i,i<ds.length->J.go i H'/\∀x a,J.yld i H' x a->YN H' a/\∃d,ds[i]?=R d/\DV U K a x d)/\J.stop ds.length H'
abbrev FI:=aQ->Res (G D×aQ)
def IO(K:CL)(E:XK)(b:TI)(e:FI):Prop:=
 ∀(B:bB) (Z:Hp) (O:bB) (Y:St) (H:Hp) (ρ:aQ) (a:It->Hp->Prop),Rl K B Z O Y H ρ->WR K E B Z (λr=>∀U J H',Ev O H U H'->Rl K B Z U Y H' r.2->ue K J U H' r.1->a J H') (e ρ)->b Y H a
def pf(gt:FG)(b:FS):G D->FS
 |[],ρ=>.ok (.nx ρ)
 |d::r,ρ=>(gt (.fz d) ρ).bind λa=>(b a).bind λe=>match e with
  |.nx f=>pf gt b r f
  |.ct f=>pf gt b r f
  |.bk f=>.ok (.nx f)
  |.rt g=>.ok (.rt g)
def sF(e:FI)(gt:FG)(b:FS):FS:=λρ=>(e ρ).bind λa=>pf gt b a.1 a.2
def Rt(c:IO K E wi fi)(k:GO K E g gt)(s:SO K E tb b):SO K E (C3 wi g tb) (sF fi gt b):=by
 intro B Z O Y H ρ D R w;show c B Z O Y H ρ _ R (w.bind.imp λa N G J T e1 S Q=>?_);let(ds,F):=a;dsimp only at N Q S;show#[λi m f H'=>m=ds.length - i/\i<=ds.length/\∃O2 ρ2,Ev G T O2 H'/\Rl K B Z O2 f H' ρ2/\WR K E B Z (aez K B Z O H D) (pf gt b (ds.drop i) ρ2),#[_,W,XY _,G,F,.refl,S,N],?_];rintro i m o M ⟨rfl,c,O2,ρ2,e2,R2,w2⟩;let(go,p):=Q O2 M e2 R2.od;by_cases j:i<ds.length
 .let(g1,g2):=go i j
  show .inr #[g1,λf H'=>i+1<=ds.length/\∃O2 ρ2,Ev G T O2 H'/\Rl K B Z O2 f H' ρ2/\WR K E B Z (aez K B Z O H D) (pf gt b (ds.drop (i+1)) ρ2),λf H' #[h1,h2]=>#[ds.length - (i+1),by ext,W,h1,h2],λx L y=>?_];let(P,d,hd,dv):=g2 x L y;let ed:ds.drop i=d::ds.drop (i+1):=by let(_,q):=W2.mp hd;rw[YC j,q]
  rw[ed]at w2;let e3:Ev O2 M O2 L:=Ev.grow P;show k B Z O2 o L ρ2 x (.fz d) _ (R2.grow P) dv (WR.imp (WR.bind w2) λC X O4 A H4 e4 R4=>?_);let n:=e2.trans (e3.trans e4);show s B Z O4 A H4 C _ R4 (WR.imp (WR.bind X) λfl u=>?_);cases fl with
  |nx h=>show λt l I e5 r=>#[j,t,h,n.trans e5,r,u]
  |ct h=>show λt l I e5 r=>#[j,t,h,n.trans e5,r,u]
  |bk h=>show λt l I e5 r=>u t l I (e1.trans (n.trans e5)) r
  |rt rv=>show u
 .let e:i=ds.length:=by ext
  subst e;rw[YA (Xd _)]at w2;show .inl #[p,w2 O2 o M (e1.trans e2) R2]
def eN:D->I (G D)
 |.tuple ds=>R ds
 |.list ds=>R ds
 |_=>P
def D6(K:CL)(e:TE):TI:=λY H R=>e Y H λx b=>∃a,x=.ref a/\(((∃xs,SqL K b a xs)/\R (U9 K a) b)\/((∃xs,SqT K b a xs)/\R (US K a) b))
def DU(y:PE X l C):PI X tg l (D6 X.K C):=by
 intro i s Y H R I h;show bU (y i s Y H _ I h) λv g #[x,r,f,t,u]=>?_;let(a,e,q):=u;subst e;ext t;rcases q with⟨⟨xs,j⟩,q⟩|⟨⟨xs,j⟩,q⟩
 .let(n,A,p,w):=f.list j
  show ZS p.isList ?_;show#[g.heap.objs.size,[g.heap.objs.size],_,_,r,W,f.kept λb o e=>b3 _ e,Cw a _,#[_,b5 _ W,W,W],λb m=>?_,q];let e:b=g.heap.objs.size:=by simpa using m
  subst e;show f.adS (Xd _) (f.Yn.fresh (Xd _))
 .let(n,A,p,w):=f.tuple j
  show abt (show g.heap.IsTuple a n.toArray from p) ?_;show#[g.heap.objs.size,[g.heap.objs.size],_,_,r,W,f.kept λb o e=>b3 _ e,x9 a _,#[_,b5 _ W,W,W],λb m=>?_,q];let e:b=g.heap.objs.size:=by simpa using m
  subst e;show f.adS (Xd _) (f.Yn.fresh (Xd _))
def zQ(h:ab3 O K H a xs)(hd:YE O K H xs ds):ue K (U9 K a) O H ds:=by intro U H' e n;let f:=h.ev e;let b:=hd.ev e;show#[λi p=>?_,#[xs,f.1.sq,by rw[hd.length];show Xd _]];let(x,l,_):=b.get (Xm p);show#[#[xs,x,f.1.sq,l],?_];rintro y m ⟨rfl,o⟩;let(d,j,g):=b.afU (o xs f.1.sq);show#[YN.refl _,d,j,g]
def Gr(h:aaN O K H a xs)(hd:YE O K H xs ds):ue K (US K a) O H ds:=by intro U H' e n;let f:=h.ev e;let b:=hd.ev e;show#[λi p=>?_,#[xs,f.1,by rw[hd.length];show Xd _]];let(x,l,_):=b.get (Xm p);show#[#[xs,x,f.1,l],?_];rintro y m ⟨rfl,o⟩;let(d,j,g):=b.afU (o xs f.1);show#[YN.refl _,d,j,g]
def iR(c:FE):FI:=λρ=>(c ρ).bind λa=>(Res.X5 (xw a.2 a.1)).bind λb=>(Res.X5 (eN b.1)).bind λds=>.ok (ds,b.2)
def Rg(h:EO K E C fe):IO K E (D6 K C) (iR fe):=by
 intro B Z O Y H ρ o R w;show h B Z O Y H ρ _ R (w.bind.imp λa b p x i e1 n l=>?_);let((d,j),q,b):=b.X5;let(g,e2,R2,m):=sW n l q;let(ds,e,b):=b.X5;dsimp only at e;cases m with
 |tup h f=>ext e;show#[_,W,.inr #[#[_,h.1],b g _ i (e1.trans e2) R2 (Gr h f)]]
 |lst h f=>ext e;show#[_,W,.inl #[#[_,h.1.sq],b g _ i (e1.trans e2) R2 (zQ h f)]]
 |_=>ext e
def gf(lo:Int)(n:Nat):G D:=(Xn n).map λ(k:Nat)=>.int (lo+(k:Int))
def Fa:ue K (UH lo n) O H (gf lo n):=by
 intro U H' e f;let a:(gf lo n).length=n:=by ext gf;simp_all
 show#[λi g=>?_,by show n<=_;rw[a];show Xd _];rw[a]at g;show#[g,?_];rintro x b ⟨rfl,rfl⟩;show#[YN.refl _,.int (lo+i),by ext gf;simp_all,.int _]
def kq(i:Int):Prop:= -(2^62)<=i/\i<2^62
noncomputable instance(i:Int):Decidable (kq i):=by ext kq;infer_instance
def kJ:G D->I (G D)
 |[.int j]=>if kq j then R (gf 0 j.toNat)else P
 |_=>P
def pp(f:G D->I (G D))(b:FA):FI:=λρ=>(b ρ).bind λa=>(Res.X5 (sN a.2 a.1)).bind λds=>(Res.X5 (f ds)).bind λxs=>.ok (xs,a.2)
def KL(h:AO K E C fa):IO K E (No C) (pp kJ fa):=by
 intro B Z O Y H ρ r R w;show h B Z O Y H ρ _ R (w.bind.imp λa e o t p e1 g l=>?_);let(ds,q,e):=e.X5;let(xs,b,e):=e.X5;let i:=uQ g l q;unfold kJ at b;split at b
 .rename_i j
  split at b
  .rename_i f
   ext b;cases i with
   |cons n m=>ext m;ext n;show#[j,W,f.1,f.2,e o _ p e1 g Fa]
  .ext b
 .ext b
end
section
variable{K:CL}{E:XK}{B O Y:bB}{X H H':Hp}{Z:St}{ρ ρ':aQ}{v:V}
def Gv:I PV->I PV
 |some (.fz d)=>R (.fz d)
 |_=>P
def cG(ρ:aQ):aQ:=ρ.map Gv
def yZ{i:Nat}(h:(cG ρ)[i]?=R (R x)):∃d,x=.fz d/\ρ[i]?=R (R (.fz d)):=by
 unfold cG at h;rw[Xg]at h;cases q:ρ[i]? with
 |none=>simp_all
 |some o=>
  rw[q]at h;let a:=Xj h;unfold Gv at a;split at a
  .ext a;show#[_,W,W]
  .ext a
def sT(ρ:aQ):G Nat->I (G D×aQ)
 |[]=>R ([],ρ)
 |j::r=>match xw ρ (.pl j)with
  |some (d,b)=>(match sT b r with
   |some (c,a)=>R (d::c,a)
   |none=>P)
  |none=>P
def Cs(R:Rl K B X O Z H ρ)(h:xw ρ (.pl i)=cL (d,ρ')):∃v,Z[i]?=cL (cL v):=by
 let a:UW ρ i ρ[i]?=cL (d,ρ'):=h;cases q:ρ[i]? with
 |none=>rw[q]at a;ext a
 |some o=>
  cases o with
  |none=>rw[q]at a;ext a
  |some x=>let(v,b,_):=R.slot i x q;show#[v,b]
theorem wR:∀{s:G Nat} {ds:G D} {O:bB} {ρ ρ':aQ},Rl K B X O Z H ρ->sT ρ s=cL (ds,ρ')->∃Y k,Ev O H Y H/\Rl K B X Y Z H ρ'/\YE Y K H k ds/\s.map (λj=>(Z[j]?).join)=k.map cL
 |[],_,O,_,_,t,e=>by ext e;show#[O,[],.refl,t,.nil,W]
 |j::r,_,O,ρ,ρ',t,e=>by
  unfold sT at e;cases q:xw ρ (.pl j)with
  |none=>simp_all
  |some p=>
   let(d,a):=p;rw[q]at e;dsimp only at e;cases u:sT a r with
   |none=>simp_all
   |some f=>let(c,b):=f;rw[u]at e;ext e;let(v,g):=Cs t q;let(o,e1,l,i):=sW (pv:=.pl j) t g q;let(m,k,e2,R2,h,n):=wR l u;show#[m,v::k,e1.trans e2,R2,.cons (i.ev e2) h,by simp_all]
def cU(gt:FG)(c:FT)(f:FE):G D->aQ->G D->Res (G D)
 |[],_,acc=>.ok acc
 |d::r,ρ,acc=>(gt (.fz d) ρ).bind λe=>(c e).bind λb=>if b.1=S then(f b.2).bind λa=>(Res.X5 (xw a.2 a.1)).bind λx=>
   if acc.length<1000000 then cU gt c f r (cG x.2) (acc++[x.1])else .bad
  else cU gt c f r (cG b.2) acc
def jE:Res α->Res α
 |.er _=>.bad
 |r=>r
def dQ(n:Nat)(e:G Nat)(b:FI)(gt:FG)(f:FT)(g:FE):FE:=λρ=>(b ρ).bind λa=>(Res.X5 (sT a.2 e)).bind λc=>
 (jE (cU gt f g a.1 (Xh n P++c.1.map λd=>R (.fz d)) [])).bind λxs=>.ok (.ow xs,c.2)
def Al{own:G Str}(h:own.length=n):own.map (λ_=>(P:I V))=Xh n P:=by
 subst h
 induction own with
 |nil=>rfl
 |cons x r a=>grind
def AM(h:WR K E B X b (jE r)):∃a,r=.ok a/\b a:=by
 cases r with
 |ok a=>show#[a,W,h]
 |er x=>show h.elim
 |bad=>show h.elim
def SS(K:CL)(J:It)(O:bB)(H:Hp)(ds:G D):Prop:=∀Y H',Ev O H Y H'->YN H H'->mH Y H'->
 (∀i,i<ds.length->J.go i H'/\∀x a,J.yld i H' x a->YN H' a/\∃d,ds[i]?=R d/\DV Y K a x d)/\J.stop ds.length H'
def Vd(K:CL)(E:XK)(b:TI)(e:FI):Prop:=
 ∀(B:bB) (X:Hp) (O:bB) (Z:St) (H:Hp) (ρ:aQ) (a:It->Hp->Prop),Rl K B X O Z H ρ->WR K E B X (λr=>∀Y J H',Ev O H Y H'->Rl K B X Y Z H' r.2->SS K J Y H' r.1->a J H') (e ρ)->b Z H a
theorem IO.s(h:IO K E wi fi):Vd K E wi fi:=λB X O Z H ρ b R w=>h B X O Z H ρ b R (w.imp λr q Y J H' e R a=>q Y J H' e R λf g e2 _ n=>a f g e2 n)
def xy(c:own.length=n)(hf:fv.map (·.2)=fj)
  (hi:Vd K E wi fi) (hg:GO K E0 g gt) (ht:TTO K E0 tc ft) (he:EO K E0 te fe):EO K E (tT own fv wi g tc te) (dQ n fj fi gt ft fe):=by
 intro B X O Z H ρ Q R w;show hi B X O Z H ρ _ R (w.bind.imp λa w1 O1 J H1 e1 R1 it=>?_);let(ds,ρ1):=a;let((cs,ρ2),qc,w1):=w1.X5;dsimp only at qc it;let(I,vs,e2,R2,dvs,hvs):=wR R1 qc;let(xs,qx,w1):=AM (WR.bind w1);intro l F;let hB:∀{H':Hp},YN H1 H'->H' l≠Ld->∀a,bL I l a->H' a≠Ld:=λ{H'} s nd a h z=>h.elim (λq=>R2.od a (s.free z) q) λe=>nd (by rw[<-e];show z);show#[λi m L H'=>m=ds.length - i/\i<=ds.length/\∃(A:bg D) (G:bg V) (t:aQ),YN H1 H'/\H' l=cL (.lst G)/\YE (bL I l) K H' G A/\L.length=t.length/\(∀(j:Nat) (x:PV),t[j]?=cL (cL x)->∃d u,x=PV.fz d/\L[j]?=cL (cL u)/\DV (bL I l) K H' u d)/\cU gt ft fe (ds.drop i) t A=.ok xs,
  #[_,W,XY _,[],[],_,bj F _,ay,.nil,?_,λj x M=>?_,qx],?_]
 .ext iC
  rw[Xf,Xf,W0,W0,Yu,W0,c,<-dvs.length];let:=dw aaw hvs
  grind
 .let hm:fv.map (λp=>(Z[p.2]?).join)=vs.map cL:=by rw[<-hvs,<-hf,XI];rfl
  ext iC;rw[Al c,hm];by_cases hj:j<n
  .rw[Xe (by rw[Yu];show hj),Zd,ax hj]at M;ext M
  .rw[XO (by rw[Yu];ext),Yu,Xg]at M⊢
   cases qd:cs[j - n]? with
   |none=>rw[qd]at M;ext M
   |some d=>rw[qd]at M;ext M;let(u,hu,du):=dvs.get qd;show#[d,u,W,by rw[hu];rfl,du.ev (Ev.add (bj F _) F)]
 .rintro i m L H' ⟨rfl,hi,A,G,t,s,hD,dys,hl,hsl,f⟩
  let nD:H' l≠Ld:=by rw[hD];simp
  let no':=λa z h=>hB s nD a h z;let ev1:=e2.trans (Ev.add s F);let(go,stop):=it (bL I l) H' ev1 s no';by_cases T:i<ds.length
  .let(g1,g2):=go i T
   show .inr #[g1,λC N=>i+1<=ds.length/\∃(A:bg D) (G:bg V) (t:aQ),YN H1 N/\N l=cL (.lst G)/\YE (bL I l) K N G A/\C.length=t.length/\(∀(j:Nat) (x:PV),t[j]?=cL (cL x)->∃d u,x=PV.fz d/\C[j]?=cL (cL u)/\DV (bL I l) K N u d)/\cU gt ft fe (ds.drop (i+1)) t A=.ok xs,
    λC N #[h1,h2]=>#[ds.length - (i+1),by ext,W,h1,h2],λx H3 y=>?_]
   let(s3,d,hd,dv):=g2 x H3 y;let ed:ds.drop i=d::ds.drop (i+1):=by let(_,q):=W2.mp hd;rw[YC T,q]
   rw[ed]at f;let hD3:=s3 _ _ hD;let nD3:H3 l≠Ld:=by rw[hD3];simp
   let sv:=s.trans s3;let RC:Rl K (bL I l) H3 (bL I l) L H3 t:=#[YN.refl _,λ_ h=>h,hB sv nD3,λa z h=>hB sv nD3 a h z,hl,λj x M=>by let(d,u,rfl,h1,h2):=hsl j x M;show#[u,h1,h2.ev (Ev.grow s3)],λj k xs G w hj=>by let(d,u,e,_):=hsl j _ hj;ext e];unfold cU at f;let back:∀{O5:bB} {C:St} {N:Hp} {Pz0:aQ} {H6:Hp},Rl K (bL I l) H3 O5 C N Pz0->(∀b o,b≠l->N b=cL o->H6 b=cL o)->C.length=(cG Pz0).length/\∀(j:Nat) (x:PV),(cG Pz0)[j]?=cL (cL x)->∃d u,x=PV.fz d/\C[j]?=cL (cL u)/\DV (bL I l) K H6 u d:=λ{O5 C N Pz0 H6} U k=>by show#[by ext cG;rw[W0];show U.len,λj x M=>?_];let(d,rfl,hxx):=yZ M;let(u,h1,h2):=U.slot j _ hxx;show#[d,u,W,h1,DV.ev (λb o h n=>#[k b o (λe=>n (.inr e)) h,n]) (DV.ev (Ev.sub U.bo) h2)]
   show hg _ _ _ L H3 t x (.fz d) _ RC dv ?_;cases qg:gt (.fz d) t with
   |er z=>rw[qg]at f;ext f
   |bad=>rw[qg]at f;ext f
   |ok ρ3=>
    rw[qg,d0]at f;intro O4 σ4 H4 e4 R4;show ht _ _ _ σ4 H4 ρ3 _ R4 ?_;cases qt:ft ρ3 with
    |er z=>rw[qt]at f;ext f
    |bad=>rw[qt]at f;ext f
    |ok b=>
     let(b,ρ4):=b;rw[qt,d0]at f;intro O5 N e5 U;cases b with
     |false=>rw[a4 Xp]at f⊢;let(l5,k5):=back U λb o _ h=>h;show#[T,A,G,cG ρ4,sv.trans U.same,U.same _ _ hD3,?_,l5,k5,f];show dys.ev (Ev.grow (s3.trans U.same))
     |true=>
      rw[ax W]at f⊢;show he _ _ _ σ4 N ρ4 _ U ?_;cases qe:fe ρ4 with
      |er z=>rw[qe]at f;ext f
      |bad=>rw[qe]at f;ext f
      |ok r=>
       rw[qe,d0]at f;intro O6 yv H6 e6 R6 p6;cases q7:xw r.2 r.1 with
       |none=>rw[q7]at f;ext f
       |some xr=>
        let(xd,ρ7):=xr;rw[q7]at f;let(O7,e7,R7,dv7):=sW R6 p6 q7;let hD7:=R7.same _ _ hD3;let S:(if A.length<1000000 then cU gt ft fe (ds.drop (i+1)) (cG ρ7) (A++[xd])else .bad)=.ok xs:=f;by_cases hl6:A.length<1000000
        .rw[ax hl6]at S
         let up:∀b o,b≠l->H6 b=cL o->aR H6 l (.lst (G++[yv])) b=cL o:=λb o hb h=>by rw[ar hb];show h
         let eR:Ev (bL I l) H6 (bL I l) (aR H6 l (.lst (G++[yv]))):=λb o h n=>#[up b o (λe=>n (.inr e)) h,n];let aks:=dys.ev (Ev.grow (s3.trans R7.same));let(l5,k5):=back R7 up;show#[G,hD7,tf (by rw[dys.length];show hl6),T,A++[xd],G++[yv],cG ρ7,λb o h=>?_,ay,?_,l5,k5,S]
         .rw[ar (bC h F)];show R7.same _ _ (sv _ _ h)
         .show(aks.append (.cons (DV.ev (Ev.sub R7.bo) dv7) .nil)).ev eR
        .rw[a4 hl6]at S;ext S
  .let e:i=ds.length:=by ext
   subst e;rw[YA (Xd _)]at f;let f:=f;ext f;show .inl #[stop,?_];show w1 (bL I l) (.ref l) H' (e1.trans ev1) (R2.add s F nD) #[l,G,W,.inr W,R2.agp F,hD,dys,λk es hk z=>?_];let(u,h1,b,us,e2,g1,g2,g3,g4):=R2.slot k _ hk;rw[z]at h1;ext h1;ext e2;rw[F]at g3;ext g3
def bZ(F:FN)(n:Nat)(c:FA):FE:=λρ=>(c ρ).bind λa=>(Res.X5 (ph a.2 a.1)).bind λb=>if b.1.length=n then(jE (F b.1)).bind λe=>.ok (e.pv,b.2)else .bad
def OV(c:AO K E C fa):EO K E (jw (Cv K n F) [] E0 C) (bZ F n fa):=by
 intro B X O Z H ρ Q R w;show c B X O Z H ρ _ R (w.bind.imp λa g u A y e1 o j=>?_);let((ds,f),q,b):=g.X5;let(r,e2,R2,e):=qZ o j q;dsimp only at b;by_cases hn:ds.length=n
 .rw[ax hn]at b;let(L,h,b):=AM (WR.bind b);rw[X2];show#[e.length.trans hn,r,ds,λa z l=>R2.od a l z,e,?_];rw[h];show lC R2 λp v t e3 m i=>b p v t (e1.trans (e2.trans e3)) m i
 .rw[a4 hn]at b;show b.elim
end
def fA(N:Nat)(g:FS):FN:=λds=>(g (ds.map (λd=>R (.fz d))++Xh (N - ds.length) P)).bind λa=>match a with
 |.rt b=>.ok b
 |.nx _=>.ok (.fz .none)
 |_=>.bad
def GI(g:∀a,B a->H a≠P)(l:YE B K H C ds):Rl K B H B (L2.start N C) H (ds.map (λd=>R (.fz d))++Xh (N.length - ds.length) P):=by
 let r:=l.length;show#[YN.refl _,λ_ h=>h,g,λa z h=>g a h z,?_,λi x m=>?_,λi j xs p w t=>?_]
 .ext L2.start;simp_all
 all_goals
  let b:∀{i:Nat} {x:PV},(ds.map (λd=>R (PV.fz d))++Xh (N.length - ds.length) P)[i]?=R (R x)->∃d,x=.fz d/\ds[i]?=R d:=λ{i x} h=>by
   by_cases t:i<ds.length
   .rw[Xe (by rw[W0];show t),Xg]at h
    cases q:ds[i]? with
    |none=>rw[q]at h;ext h
    |some d=>rw[q]at h;ext h;show#[d,W,W]
   .rw[XO (by rw[W0];ext),Zd]at h;split at h<;>ext h
 .let(d,rfl,n):=b m;let(v,f,o):=l.get n;show#[v,?_,o];let t:=(W2.mp f).1;ext L2.start;rw[Xe (by rw[W0];show t),Xg,f];rfl
 .let(d,e,_):=b t;ext e
def Wu(F:Fun K x qual st f fd)(S:Zj N ps (au st))(c:ps.length=n)
  (r:∀(a:J) (A:XJ) (outer:G Env) (s:W9) (H:Hp) (E:XK),Y1 k (A.deeper (XX qual (au st) s.heap.objs.size f a))->
   ∃t,PSs (fC kX C w K mg base N qual (au st) f a A outer s H E).nox (bW st) t/\SO K E t g):FnOk C w K mg base kX (k+1) f fd ps (Cv K n (fA N.length g)):=by
 show F.ok S (λT H Q E h=>h.1.trans c.symm) (λa A outer s H T Q E l h=>?_);let(t,i,j):=r a A outer s H E l;let(v,B,ds,m,p,h):=h;show#[t,i,j B H B _ H _ _ (GI m p) (WR.imp (WR.bind h) λo q=>?_)];cases o with
 |rt X=>show q
 |nx L=>show λy b u e R=>q .Zk u R.same .Zk
 |bk L=>show q.elim
 |ct L=>show q.elim
end L3
namespace L3
open PySem PySem.Spec PyProof.Rows L2
def OpR.or(h:OpR X f r)(c:OpR X f r'):OpR X f (λx y H Q=>r x y H Q\/r' x y H Q):=by
 intro a s b H x y v u Q I g e q;rcases q with q|q
 .show h a s b H x y v u Q I g e q
 .show c a s b H x y v u Q I g e q
def PU(I:Inv X pins σ H s)(h:aam X.K H l xs):xs.length<=Xi/\∃(a:G J) (n:Nat),Vals xs a/\xs.length=a.length/\s.heap.get? l=R {cls:=.type "list",data:=.seq a.toArray n}:=by
 rcases h with(h|⟨o,h⟩)|⟨a,n,h1,f,b⟩
 .show I.aiy h
 .let(_,z,a,n,r,e):=I.Yn l _ h;show#[z,a,n,r,r.length,e]
 .show#[f,a,n,b,b.length,I.kIn _ _ h1]
def N4(K:CL):R2:=λx y H Q=>∃l b xs zs,x=.ref l/\y=.ref b/\aam K H l xs/\aam K H b zs/\xs.length+zs.length<=Xi/\∀p,H p=P->Q (.ref p) (aR H p (.lst (xs++zs)))
def Kx:OpR X (Zl .Add) (N4 X.K):=by
 intro f s A H x y v u Q I j i h;let(l,b,xs,B,rfl,rfl,p,t,F,q):=h;ext j;ext i;let(z,g,n,r,G,e):=PU I p;let(C,a,E,m,o,e2):=PU I t;show PySem.P.add_list e e2 ?_ (by simp_all);let w:g.toArray++a.toArray=(g++a).toArray:=by simp
 rw[w];show#[.ref _,_,I.aiR (r.append m) (by simp_all),W,q _ I.fresh]
def NK(K:CL):R2:=λx y H Q=>∃l k xs,x=.ref l/\y=.int k/\aam K H l xs/\ -(2^63)<=k/\k<2^63/\xs.length*k.toNat<=Xi/\
 ∀p,H p=P->Q (.ref p) (aR H p (.lst (Xh k.toNat xs).flatten))
def Mo:OpR X (Zl .Mult) (NK X.K):=by
 intro p s O H x y v u Q I E C h;let(l,k,xs,rfl,rfl,J,M,L,G,q):=h;ext E;let(t,rfl):=C;let(z,b,n,r,R,e):=PU I J;let f:b.toArray.size*k.toNat<=Xi:=by simp_all
 let g:¬b.toArray.size*k.toNat>(2^63 - 1)/8:=by
  let:(Xi:Nat)<=(2^63 - 1)/8:=by decide
  ext
 let j:¬(!XN.List.listFitsIndex k)=S:=by rw[fitsIndex_both M L];simp_all
 let i:¬XN.List.listTooLong (b.toArray.size*k.toNat)=S:=by rw[HK f];simp_all
 let o:aaQ (λA w=>A++w) #v[] (Xh (if b.toArray.isEmpty=S then 0 else k.toNat) b.toArray)=(Xh k.toNat b).flatten.toArray:=by
  let N:=λm=>by let:=nK b m [];rw[acr]at this;show this
  rw[N];cases b with
  |nil=>simp
  |cons a P=>rfl
 show aee () #[_,e,W] (λB=>ach B k t) noFill_list_mul F.fills_int_mul F.slot_int_rmul repeat_list F.slot_int_index.lookup
  (aaJ F.slot_int_rmul (ach s k t) F.entry_int_rmul (F.args_int_rmul_2 _ _) (int___rmul___int_list k t l b.toArray n)
   #[e,W,#[_,e,W],aaJ F.slot_list_mul #[_,e,W] F.entry_list_mul (F.args_list_mul_2 _ _) (AutoListH.list___mul___list_int_3 l b.toArray n k t j g i) #[e,?_]])
 rw[o];show#[.ref _,_,I.aiR (r.rep k.toNat) (by rw[Am,Nat.mul_comm];show G),W,q _ I.fresh]
section
variable{K:CL}
def fI(g:Int->Int->Int):D->D->I RV
 |.int i,.int j=>R (.fz (.int (g i j)))
 |_,_=>P
def fB(g:Int->Int->Bool):D->D->I RV
 |.int i,.int j=>R (.fz (.bool (g i j)))
 |_,_=>P
def Uv(C:Int->Int->Bool)(g:Int->Int->Int):D->D->I RV
 |.int i,.int j=>if C i j=S then R (.fz (.int (g i j)))else P
 |_,_=>P
def wo(h:fI g dx C=R o):∃i j,dx=.int i/\C=.int j/\o=.fz (.int (g i j)):=by
 unfold fI at h;split at h
 .ext h;show#[_,_,W,W,W]
 .ext h
def Us:kZ K (zM λi j=>.int (g i j)) (fI g):=by intro O H x y l f h Q n b a e q;let(i,j,rfl,rfl,rfl):=wo e;ext b;ext a;show#[i,j,W,W,q.at (.int _)]
def F4:kZ K (zM λi j=>.bl (g i j)) (fB g):=by
 intro O H x y l f h Q n b a e q;unfold fB at e;split at e
 .ext e;ext b;ext a;show#[_,_,W,W,q.at (.bl _)]
 .ext e
def Eo(h:∀i j,C i j=S->o i j):kZ K (rI o λi j=>.int (g i j)) (Uv C g):=by
 intro O H x y p l m Q n b a e q;unfold Uv at e;split at e
 .split at e
  .rename_i f;ext e;ext b;ext a;show#[_,_,W,W,h _ _ f,q.at (.int _)]
  .ext e
 .ext e
theorem BW(h:DX O K H x (.list ds)):∃a xs,x=.ref a/\aam K H a xs/\YE O K H xs ds:=h
theorem DB(h:DX O K H x (.tuple ds)):∃a xs,x=.ref a/\aaN O K H a xs/\YE O K H xs ds:=HU h W
def NL(K:CL):R2:=λx y H Q=>zM (λi j=>.int (i+j)) x y H Q\/N4 K x y H Q\/NS K x y H Q
theorem Mz:OpR X (Zl .Add) (NL X.K):=OpR.or Qi (OpR.or Kx Mj)
def bP:D->D->I RV
 |.int i,.int j=>R (.fz (.int (i+j)))
 |.list xs,.list ys=>if xs.length+ys.length<=1000000 then R (.ow (xs++ys))else P
 |.tuple xs,.tuple ys=>if xs≠[]/\xs.length+ys.length<=1000000 then R (.fz (.tuple (xs++ys)))else P
 |_,_=>P
theorem tR(h:n<=1000000):n<=Xi:=XT h ()
def YE.ne(h:YE O K H vs ds):vs=[]↔ds=[]:=by ext h<;>simp
def Kb:kZ K (NL K) bP:=by
 intro O H x y u r t Q n m l e q;unfold bP at e;split at e
 .ext e;ext m;ext l;show .inl #[_,_,W,W,q.at (.int _)]
 .split at e
  .rename_i h;ext e;let(a,xs,rfl,i,f):=BW m;let(b,j,rfl,o,g):=BW l;show .inr (.inl #[a,b,xs,j,W,W,i,o,tR (by rw[f.length,g.length];show h),Fin.new (f.append g) q])
  .ext e
 .split at e
  .rename_i h;ext e;let(a,xs,rfl,i,f):=DB m;let(b,j,rfl,o,g):=DB l;show .inr (.inr #[a,b,xs,j,W,W,i.1,o.1,λz=>h.1 (f.ne.mp z),tR (by rw[f.length,g.length];show h.2),λz=>?_,λ_=>Fin.ae6 (f.append g) n q]);let p:=g.ne.mp z;subst p;rw[X2]at q;show q.at (.tup i f)
  .ext e
 .ext e
def FH(K:CL):R2:=λx y H Q=>rI afV (λi j=>.int (i*j)) x y H Q\/NK K x y H Q
theorem Ll:OpR X (Zl .Mult) (FH X.K):=OpR.or OS Mo
def gL(i:Int):Bool:=decide (-(2^64)<i/\i<2^64)
theorem qO(h:gL i=S): -(2^64)<i/\i<2^64:=a7 h
def Dq:D->D->I RV
 |.int i,.int j=>if(gL i||gL j)=S then R (.fz (.int (i*j)))else P
 |.list xs,.int k=>if xs.length*k.toNat<=1000000/\ -(2^63)<=k/\k<2^63 then R (.ow (Xh k.toNat xs).flatten)else P
 |_,_=>P
def Kr:kZ K (FH K) Dq:=by
 intro O H x y m j l Q n g f e q;unfold Dq at e;split at e
 .split at e
  .rename_i b
   ext e;ext g;ext f;show .inl #[_,_,W,W,?_,q.at (.int _)];rcases(Yw _ _).mp b with z|z
   .show .inl (qO z)
   .show .inr (qO z)
  .ext e
 .split at e
  .rename_i b;ext e;ext f;let(a,xs,rfl,i,h):=BW g;show .inr #[a,_,xs,W,W,i,b.2.1,b.2.2,tR (by rw[h.length];show b.1),Fin.new (h.flat _) q]
  .ext e
 .ext e
def sL:=fI λi j=>i - j
theorem Jf:kZ K (zM λi j=>.int (i - j)) sL:=Us
def QK(_ j:Int):Bool:=decide (0<j)
def rL:=Uv QK λi j=>i % j
theorem LO:kZ K (rI (λ_ j=>0<j) λi j=>.int (i % j)) rL:=Eo λi j h=>a7 h
def Oy(_ j:Int):Bool:=decide (0<j/\j<2^128)
def zd:=Uv Oy λi j=>i/j
theorem KN:kZ K (rI (λ_ j=>0<j/\j.natAbs.log2<9000) λi j=>.int (i/j)) zd:=Eo λi j h=>by
 let b:=a7 h;show#[b.1,?_];let a:j.natAbs<2^128:=by ext
 let e:=(Nat.log2_lt ()).mpr a;ext
def Pg:=fB λi j=>decide (i<j)
def DG:=fB λi j=>decide (j<i)
def Uz:=fB λi j=>decide (j<=i)
theorem RD:kZ K (zM λi j=>.bl (decide (i<j))) Pg:=F4
theorem OB:kZ K (zM λi j=>.bl (decide (j<i))) DG:=F4
theorem P8:kZ K (zM λi j=>.bl (decide (j<=i))) Uz:=F4
def kr(d:D):Bool:=d.canLay0&&decide (d.depth<=64)
def cJ(d e:D):I RV:=if(kr d&&e.canLay0)=S then R (.fz (.bool (Xa.eqv d e)))else P
def pS(d e:D):I RV:=if(kr d&&e.canLay0)=S then R (.fz (.bool (!Xa.eqv d e)))else P
def Ri:kZ K (Ky K U) cJ:=by
 intro O H x y h g i Q n f b e q;unfold cJ at e;split at e
 .rename_i a;ext e;unfold kr at a;simp only[WX,decide_eq_true_eq]at a;show#[h,g,f.plain,b.plain,a.1.1,a.2,a.1.2,q.at (.bl _)]
 .ext e
def QV:kZ K (Ky K S) pS:=by
 intro O H x y h g i Q n f b e q;unfold pS at e;split at e
 .rename_i a;ext e;unfold kr at a;simp only[WX,decide_eq_true_eq]at a;show#[h,g,f.plain,b.plain,a.1.1,a.2,a.1.2,q.at (.bl _)]
 .ext e
def oj:D->D->I RV
 |.none,.none=>R (.fz (.bool S))
 |_,.none=>R (.fz (.bool U))
 |_,_=>P
def lK:D->D->I RV
 |.none,.none=>R (.fz (.bool U))
 |_,.none=>R (.fz (.bool S))
 |_,_=>P
def DT(h:DX O K H x d)(hd:d≠.none):x≠.Zk:=by
 cases d with
 |none=>simp_all
 |list ds=>let(a,xs,rfl,_):=BW h;simp
 |tuple ds=>let(a,xs,rfl,_):=DB h;simp
 |bool b=>ext h;simp
 |int b=>ext h;simp
 |str b=>ext h;simp
 |dict b=>ext h
def Ml:kZ K (λx y H Q=>y=.Zk/\Q (.bl (decide (x=.Zk))) H) oj:=by
 intro O H x y i g h Q n b a e q;unfold oj at e;split at e
 .ext e;ext b;ext a;show#[W,q.at (.bl _)]
 .rename_i f;ext e;ext a;show#[W,?_];rw[a6 (DT b f)];show q.at (.bl _)
 .ext e
def ML:kZ K (λx y H Q=>y=.Zk/\Q (.bl (!decide (x=.Zk))) H) lK:=by
 intro O H x y i g h Q n b a e q;unfold lK at e;split at e
 .ext e;ext b;ext a;show#[W,q.at (.bl _)]
 .rename_i f;ext e;ext a;show#[W,?_];rw[a6 (DT b f)];show q.at (.bl _)
 .ext e
def IR(K:CL)(neg:Bool):R2:=λx y H Q=>∃d ds,L2.DV K H x d/\(L2.DV K H y (.list ds)\/L2.DV K H y (.tuple ds))/\d.canLay0=S/\Xa.canLayAll0 ds=S/\d.depth<=64/\Q (.bl (if neg then !(ds.any λe=>Xa.eqv e d)else ds.any λe=>Xa.eqv e d)) H
def P0(p:X.A.units+65<cLine):OpR X (YM .In) (IR X.K U):=by
 intro g s o H x y v u Q I l e h;let(d,ds,n,a,j,i,m,q):=h;let(as,f):=n.reads I l;let hm:min (Xa.depthAll ds) d.depth<=64:=XT (acg _ _) m;rcases a with a|a
 .let(bs,b):=a.reads I e;show ake b f i j () #[.bl _,H,I,W,q]
 .let(bs,b):=a.reads I e;show akf b f i j () #[.bl _,H,I,W,q]
def Ka(p:X.A.units+65<cLine):OpR X (YM .NotIn) (IR X.K S):=by
 intro g s o H x y v u Q I l e h;let(d,ds,n,a,j,i,m,q):=h;let(as,f):=n.reads I l;let hm:min (Xa.depthAll ds) d.depth<=64:=XT (acg _ _) m;rcases a with a|a
 .let(bs,b):=a.reads I e;show akg b f i j () #[.bl _,H,I,W,q]
 .let(bs,b):=a.reads I e;show akh b f i j () #[.bl _,H,I,W,q]
def IH(d e:D):I RV:=match eN e with
 |some ds=>if(kr d&&Xa.canLayAll0 ds)=S then R (.fz (.bool (ds.any λe=>Xa.eqv e d)))else P
 |none=>P
def uU(d e:D):I RV:=match eN e with
 |some ds=>if(kr d&&Xa.canLayAll0 ds)=S then R (.fz (.bool (!ds.any λe=>Xa.eqv e d)))else P
 |none=>P
def Ha(a:DX O K H y e)(h:eN e=R ds):L2.DV K H y (.list ds)\/L2.DV K H y (.tuple ds):=by
 unfold eN at h;split at h
 .ext h;show .inr a.plain
 .ext h;show .inl a.plain
 .ext h
def PN:kZ K (IR K U) IH:=by
 intro O H x y i h j Q n f b e q;unfold IH at e;split at e
 .rename_i ds g
  split at e
  .rename_i a;ext e;unfold kr at a;simp only[WX,decide_eq_true_eq]at a;show#[i,ds,f.plain,Ha b g,a.1.1,a.2,a.1.2,q.at (.bl _)]
  .ext e
 .ext e
def JE:kZ K (IR K S) uU:=by
 intro O H x y i h j Q n f b e q;unfold uU at e;split at e
 .rename_i ds g
  split at e
  .rename_i a;ext e;unfold kr at a;simp only[WX,decide_eq_true_eq]at a;show#[i,ds,f.plain,Ha b g,a.1.1,a.2,a.1.2,q.at (.bl _)]
  .ext e
 .ext e
def bc(d e:D):I RV:=match eN d,e with
 |some ds,.int i=>(lM ds i).map .fz
 |_,_=>P
def HR(h:YE O K H xs ds)(e:lM ds i=R d):∃v,lM xs i=R v/\DV O K H v d:=by
 unfold lM at e⊢;rw[h.length];cases q:M5 ds.length i with
 |none=>simp_all
 |some j=>rw[q]at e;show h.get e
def Gj:kZ K (TH K) bc:=by
 intro O H x y t o r Q n l m e q;unfold bc at e;split at e
 .rename_i ds i b
  ext m;cases p:lM ds i with
  |none=>simp_all
  |some d=>
   rw[p]at e;ext e;unfold eN at b;split at b
   .ext b;let(a,xs,rfl,h,g):=DB l;let(v,f,j):=HR g p;show .inr (.inl #[a,xs,i,v,W,W,h.1,f,q.at j])
   .ext b;let(a,xs,rfl,h,g):=BW l;let(v,f,j):=HR g p;show .inl #[a,xs,i,v,W,W,h.sq,f,q.at j]
   .ext b
 .ext e
def nF(xs:G D)(lo a:I Int):G D:=(xs.drop (HT.sIx xs.length 0 lo)).take (HT.sIx xs.length xs.length a - HT.sIx xs.length 0 lo)
def HV{lo a:I Int}(h:YE O K H xs ds):YE O K H (Du xs lo a) (nF ds lo a):=by unfold Du nF;rw[h.length];show(h.drop _).take _
def jS(n:Nat)(lo a:I Int):Bool:=decide (HT.sIx n 0 lo=0/\HT.sIx n n a=n)
def O8(K:CL):V->I Int->I Int->Hp->VK->Prop:=λx lo a H Q=>TF K x lo a H Q\/Th K x lo a H Q
def Gp:Np X (O8 X.K):=by
 intro a s b H x v f e lo m g Q I i l pl j h;rcases h with h|h
 .show Ja a s b H x v f e lo m g Q I i l pl j h
 .show Qe a s b H x v f e lo m g Q I i l pl j h
def M0:D->I Int->I Int->I RV
 |.list ds,lo,a=>R (.ow (nF ds lo a))
 |.tuple ds,lo,a=>if jS ds.length lo a=S then P else R (.fz (.tuple (nF ds lo a)))
 |_,_,_=>P
def u7:Sv K (O8 K) M0:=by
 intro O H x lo j l i Q n g e q;unfold M0 at e;split at e
 .ext e;let(a,xs,rfl,f,b):=BW g;show .inl #[a,xs,W,f.sq,Fin.new (HV b) q]
 .split at e
  .ext e
  .rename_i h;ext e;let(a,xs,rfl,f,b):=DB g;show .inr #[a,xs,W,f.1,λz=>h ?_,Fin.ae6 (HV b) n q];ext jS;rw[<-b.length];show a5 z
 .ext e
def dY:G D->I RV
 |[d]=>(match eN d with
  |some ds=>R (.fz (.int ds.length))
  |none=>P)
 |_=>P
def Q6:A1 K (λxs H Q=>∃x n,xs=[x]/\Lx K x H n/\Q (.int n) H) dY:=by
 intro O H xs ds i Q n h e q;unfold dY at e;split at e
 .split at e
  .rename_i es f
   ext e;cases h with
   |cons b g=>
    ext g;unfold eN at f;split at f
    .ext f;let(a,xs,rfl,b,g):=DB b;show#[_,xs.length,W,.inr #[xs,b.1,W],by rw[g.length];show q.at (.int _)]
    .ext f;let(a,xs,rfl,b,g):=BW b;show#[_,xs.length,W,.inl #[xs,b.sq,W],by rw[g.length];show q.at (.int _)]
    .ext f
  .ext e
 .ext e
def lR:G D->I RV
 |[.tuple ds]=>R (.fz (.tuple ds))
 |[.list ds]=>R (.fz (.tuple ds))
 |_=>P
def Gf:A1 K (λxs H Q=>∃p ys,xs=[.ref p]/\((SqL K H p ys/\∀l,H l=P->Q (.ref l) (aR H l (.tup ys)))\/(SqT K H p ys/\Q (.ref p) H))) lR:=by
 intro O H xs ds h Q n g e q;unfold lR at e;split at e
 .ext e
  cases g with
  |cons b f=>ext f;let(a,xs,rfl,b,f):=DB b;show#[a,xs,W,.inr #[b.1,q.at (.tup b f)]]
 .ext e
  cases g with
  |cons b f=>ext f;let(a,xs,rfl,b,f):=BW b;show#[a,xs,W,.inl #[b.sq,Fin.ae6 f n q]]
 .ext e
def sM:G D->I RV
 |[d]=>(eN d).map .ow
 |_=>P
def Lf:A1 K (λxs H Q=>∃p ys,xs=[.ref p]/\(SqL K H p ys\/SqT K H p ys)/\∀l,H l=P->Q (.ref l) (aR H l (.lst ys))) sM:=by
 intro O H xs ds i Q n g e q;unfold sM at e;split at e
 .rename_i d
  cases g with
  |cons b f=>
   ext f;cases h:eN d with
   |none=>simp_all
   |some es=>
    rw[h]at e;ext e;unfold eN at h;split at h
    .ext h;let(a,xs,rfl,b,f):=DB b;show#[a,xs,W,.inr b.1,Fin.new f q]
    .ext h;let(a,xs,rfl,b,f):=BW b;show#[a,xs,W,.inl b.sq,Fin.new f q]
    .ext h
 .ext e
def xC:G D->I RV
 |[.int i,.int j]=>R (.fz (.int (if j>i then j else i)))
 |_=>P
def K8:A1 K (λxs H Q=>∃i j,xs=[.int i,.int j]/\Q (.int (if j>i then j else i)) H) xC:=by
 intro O H xs ds h Q n b e q;unfold xC at e;split at e
 .ext e
  cases b with
  |cons g a=>
   cases a with
   |cons a f=>ext f;ext g;ext a;show#[_,_,W,q.at (.int _)]
 .ext e
end
end L3
namespace PySem
open Sem (wp)
open AutoSeq1 (wpAny_loadPart')
open Builtin Builtin.Str
section
variable{Y:Xu}{w:XQ}{A:XJ}{E:WY->W9->Prop}{s:W9}
def mB(a:s.heap.IsTupleIter it t i)(j:s.heap.IsTuple t items)(h:items[i]?=R x)
  (m:∀c,c.IsTupleIter it t (i+1)->Heap.SameBut it s.heap c->Q x {s with heap:=c}):wpAny (model Y w) A (XN.SmallTypes.nextOf (.ref it)) Q E s:=by
 let(o,e,l,b):=id a;let(n,f,_,p,g):=j;ext XN.SmallTypes.nextOf;show lD (Yk a.typeIs F.slot_tuple_iterator_next
  (Yq F.slot_tuple_iterator_next a.typeIs F.entry_tuple_iterator_next ?_ (F.args_tuple_iterator_next_1 _)))
 show wpAny _ _ (field (.ref it) 0>>=_) _ _ s;show lD (X6 e b W ?_);show wpAny _ _ (if(WY.ref t==WY.none)=S then _ else _) _ _ s;rw[a4 (show¬((WY.ref t==WY.none)=S)from Xp)];show lD (X6 e b W ?_);show lD (YD f g ?_);simp only[Yo,h];show lD (YS e b (by simp) (W6 #[x,W,W6 (m _ ?_ (Heap.SameBut.update ..))]));show#[_,b9 _ e (cv (cn b _)),(Obj.cls_mapFields ..).trans l,by rw[cn b];simp[rawInt]]
def oy(j:A.handled=P)(a:s.heap.IsTupleIter it t i)(m:s.heap.IsTuple t items)(l:items[i]?=P)
  (n:∀c e,Heap.ExtBut it s.heap c->(∃o,c.get? e=R o/\o.cls=.type "StopIteration")->E (.ref e) {s with heap:=c}):wpAny (model Y w) A (XN.SmallTypes.nextOf (.ref it)) Q E s:=by
 let(o,f,r,h):=id a;let(p,b,_,q,g):=m;ext XN.SmallTypes.nextOf;show lD (Yk a.typeIs F.slot_tuple_iterator_next
  (Yq F.slot_tuple_iterator_next a.typeIs F.entry_tuple_iterator_next ?_ (F.args_tuple_iterator_next_1 _)))
 show wpAny _ _ (field (.ref it) 0>>=_) _ _ s;show lD (X6 f h W ?_);show wpAny _ _ (if(WY.ref t==WY.none)=S then _ else _) _ _ s;rw[a4 (show¬((WY.ref t==WY.none)=S)from Xp)];show lD (X6 f h W ?_);show lD (YD b g ?_);simp only[Yo,l];show lD (abi (lD (YS f h (by simp) ?_)));show lD ?_;simp only[newExc,newTuple];show lD (X9 ?_ (by size_fits));show lD (abG (by first|rfl|(simp only[firstArgMember];rfl)) ?_);show X9 ?_ (by size_fits);simp only[raiseNew];show lD (amh ?_)
 first|rw[show A.in1.handled=P from j]|rw[j]
 show lD (W6 (wpAny_throw ?_));show n _ _ (((Heap.SameBut.update ..).extBut.push _).push _) #[_,b5 _ W,W]
end
end PySem
namespace L3
open PySem PySem.Spec PyProof.Rows L2
def IM(I:Inv X pins σ H s)(j:SqT X.K H a xs)(i:SqT X.K H a ys):xs=ys:=by
 let(f,h,(o,e1,_,n,l),_):=I.tuple j;let(b,g,(m,e2,_,p,e),_):=I.tuple i;rw[e1]at e2;ext e2;rw[l]at e;let:f=b:=by
  let q:f.toArray=b.toArray:=by injection e
  simpa using q
 subst this;show h.inj g
def Ck{bs:G Bool}(r:Vals (bs.map V.bl) o){i:Nat}(h:o[i]?=R v):∃b,bs[i]?=R b/\v=.bool b:=by
 let e:=r.length;rw[W0]at e;let g:i<bs.length:=by rw[e];show(W2.mp h).1
 let(u,a,f):=r.get (by rw[Xg,Xm g];rfl);rw[h]at a;ext a;show#[bs[i],Xm g,f]
def zl(bs:G Bool):((Xn bs.length).all λi=>(bs[i]?).getD S)=bs.all id:=by
 rw[afL,Yh,Yh];constructor
 .intro h b a;let(i,f,e):=List.mem_iff_getElem.mp a;let:=h i (Zc.mpr f);rw[Xm f,e]at this;show this
 .intro h i f;let f:=Zc.mp f;rw[Xm f];show h _ (afx f)
section
variable{X:Cx}
def EG(y:X.calm=S):Zf X (.builtin "all") (λxs H Q=>∃(p:W7) (bs:bg Bool),xs=[.ref p]/\SqL X.K H p (bs.map V.bl)/\Q (.bl (bs.all id)) H):=by
 intro g s C H xs E Q I r h;let(l,bs,rfl,t,q):=h;let(u,rfl,n):=im r;ext n;let(m,T,pl,J):=I.list t;let a:=T.length;rw[W0]at a;let f:l<s.heap.objs.size:=by let(_,_,e,_):=pl;show b4 e
 show call_all_walk (ZS pl.isList ?_);show#[s.heap.objs.size,[s.heap.objs.size,l],[s.heap.objs.size],m.toArray.size,_,_,λi=>(bs[i]?).getD S,W,Walks.list (A:=X.A.in1) (I.ok.hd y) _ l (Xy f) m.toArray,
  #[#[_,b5 _ W,W,W],pl.isList.push _],λi v G M N B j=>?_,λL F w=>?_]
 .let(b,e,rfl):=Ck T (by simpa using B);simp only[e,abO]at j;show ZC j
 .rw[Xo,<-a,zl];show#[.bl _,H,I.kept λb o e=>w b o (λhm=>?_) (b3 _ e),W,q];rw[Xl.mp hm]at e;show YJ _ (b4 e)
end
section
variable{K:CL}
def vP:G D->I (G Bool)
 |[]=>R []
 |.bool b::r=>(vP r).map (b::·)
 |_=>P
theorem z8:∀{xs:G V} {ds:G D} {bs:G Bool},YE O K H xs ds->vP ds=R bs->xs=bs.map V.bl
 |_,_,_,.nil,e=>by ext e;rfl
 |_,_,bs,.cons (ds:=r) h t,e=>by
  cases h with
  |bl b=>
   let a:(vP r).map (b::·)=R bs:=e;cases q:vP r with
   |none=>rw[q]at a;ext a
   |some f=>rw[q]at a;ext a;rw[z8 t q];rfl
  |_=>ext e
def Cr:G D->I RV
 |[.list ds]=>(vP ds).map λbs=>.fz (.bool (bs.all id))
 |_=>P
def Pe:A1 K (λxs H Q=>∃(p:M) (bs:G Bool),xs=[.ref p]/\SqL K H p (bs.map V.bl)/\Q (.bl (bs.all id)) H) Cr:=by
 intro O H xs ds j Q n g e q;unfold Cr at e;split at e
 .rename_i es
  cases i:vP es with
  |none=>rw[i]at e;ext e
  |some bs=>
   rw[i]at e;ext e;cases g with
   |cons f b=>ext b;let(a,h,rfl,f,b):=BW f;let:=z8 b i;subst this;show#[a,bs,W,f.sq,q.at (.bl _)]
 .ext e
def nY:G D->I (G Int)
 |[]=>R []
 |.int b::r=>(nY r).map (b::·)
 |_=>P
theorem pU:∀{xs:G V} {ds:G D} {bs:G Int},YE O K H xs ds->nY ds=R bs->xs=bs.map V.int
 |_,_,_,.nil,e=>by ext e;rfl
 |_,_,bs,.cons (ds:=r) h t,e=>by
  cases h with
  |int b=>
   let a:(nY r).map (b::·)=R bs:=e;cases q:nY r with
   |none=>rw[q]at a;ext a
   |some f=>rw[q]at a;ext a;rw[pU t q];rfl
  |_=>ext e
def y9(x:Int):G Int->G Int
 |[]=>[x]
 |y::r=>if x<=y then x::y::r else y::y9 x r
def jH:G Int->G Int
 |[]=>[]
 |x::r=>y9 x (jH r)
theorem n9(x:Int):∀l,(y9 x l).Perm (x::l)
 |[]=>abW _
 |y::r=>by
  ext y9;split
  .show abW _
  .show((n9 x r).cons y).trans (an8 x y r)
theorem eJ:∀l,(jH l).Perm l
 |[]=>abW _
 |x::r=>(n9 x _).trans ((eJ r).cons x)
theorem oS(x:Int):∀l:G Int,l.Pairwise (·<=·)->(y9 x l).Pairwise (·<=·)
 |[],_=>by simp[y9]
 |y::r,h=>by
  ext y9;let(f,g):=Yx.mp h;split
  .rename_i a
   show Yx.mpr #[λz b=>?_,h];rcases Xt.mp b with e|e
   .rw[e];show a
   .let:=f z e;ext
  .rename_i a
   show Yx.mpr #[λz b=>?_,oS x r g];rcases Xt.mp ((n9 x r).mem_iff.mp b)with e|e
   .rw[e];ext
   .show f z e
theorem dL:∀l,(jH l).Pairwise (·<=·)
 |[]=>aaY
 |x::r=>oS x _ (dL r)
theorem ko{l m:G Int}(e:l.Perm m)(f:l.Pairwise (·<=·))(hm:m.Pairwise (·<=·)):l=m:=e.eq_of_pairwise (λa b _ _ h g=>Int.le_antisymm h g) f hm
def vv:G D->I RV
 |[.list ds]=>(match nY ds with
  |some a=>if a.length<64 then R (.ow ((jH a).map .int))else P
  |none=>P)
 |_=>P
def qj(a:G Int):YE O K H (a.map V.int) (a.map .int):=by
 induction a with
 |nil=>show .nil
 |cons n r b=>show .cons (.int n) b
def C0:A1 K (λxs H Q=>∃(p:M) (b:G Int),xs=[.ref p]/\SqL K H p (b.map V.int)/\b.length<64/\∀(l:M) (f:G Int),H l=P->f.Perm b->f.Pairwise (·<=·)->Q (.ref l) (aR H l (.lst (f.map V.int)))) vv:=by
 intro O H xs ds u Q n g e q;unfold vv at e;split at e
 .rename_i es
  cases t:nY es with
  |none=>rw[t]at e;ext e
  |some b=>
   rw[t]at e;dsimp only at e;split at e
   .rename_i h
    ext e;cases g with
    |cons j i=>ext i;let(a,r,rfl,j,i):=BW j;let:=pU i t;subst this;show#[a,b,W,j.sq,h,λl f h g m=>?_];let o:=ko (g.trans (eJ b).symm) m (dL b);subst o;show Fin.new (qj _) q l h
   .ext e
 .ext e
end
def VZ(K:CL)(H:Hp)(x:V)(t:String):Prop:=match x with
 |.Zk=>t= "NoneType"
 |.bl _=>t= "bool"
 |.int _=>t= "int"
 |.str _=>t= "str"
 |.ref a=>(t= "list"/\∃xs,SqL K H a xs)\/(t= "tuple"/\∃xs,SqT K H a xs)
 |_=>False
def Fv(K:CL):G V->Hp->VK->Prop:=λxs H Q=>∃x n t b,xs=[x,.ty n]/\VZ K H x t/\aeX K (.type t) (.type n)=R b/\Q (.bl b) H
def tL{X:Cx}:Zf X (.builtin "isinstance") (Fv X.K):=by
 intro j s v H xs C Q I r h;let(x,n,t,b,rfl,ty,e,q):=h;let(u,w,rfl,g,A):=B1 r;obtain rfl:w=WY.type n:=A;let f:∀l,EP X j v Q (.bool b) {s with toks:=l}:=λl=>#[.bl b,H,I.tok l,W,q];cases x with
 |Zk=>cases(show t= "NoneType" from ty);cases(show u=WY.none from g);show ZI PySem.W.kitx_none I.kIn True.intro e (λz=>nomatch z) f
 |bl y=>cases(show t= "bool" from ty);cases(show u=WY.bool y from g);show ZI PySem.W.kitx_bool I.kIn True.intro e (λz=>nomatch z) f
 |int i=>cases(show t= "int" from ty);let(t,q):=(show∃t,u=WY.int i t from g);ext q;show ZI PySem.W.kitx_int I.kIn True.intro e (λz=>nomatch z) f
 |str y=>cases(show t= "str" from ty);let(t,q):=(show∃t,u=WY.str y t from g);ext q;show ZI PySem.W.kitx_str I.kIn True.intro e (λz=>nomatch z) f
 |ref a=>
  cases(show u=WY.ref a from g);rcases ty with⟨rfl,xs,h⟩|⟨rfl,xs,h⟩
  .let(B,r,(o,k,p,m,_),_):=I.list h;show ZI PySem.W.kitx_list I.kIn #[_,p,m] e (λz=>nomatch z) f
  .let(B,r,(o,p,m,_),_):=I.tuple h;show ZI PySem.W.kitx_tuple I.kIn #[o,p,m] e (λz=>nomatch z) f
 |_=>show(show False from ty).elim
section
variable{K:CL}{E:XK}{B O L:bB}{X H C:Hp}{T:L2.St}{Y N:aQ}{v:V}
def wX:D->I String
 |.none=>R "NoneType"
 |.bool _=>R "bool"
 |.int _=>R "int"
 |.str _=>R "str"
 |.list _=>R "list"
 |.tuple _=>R "tuple"
 |.dict _=>P
def zc(n t:String):Bool:=n==t||(n== "int"&&t== "bool")
def Bj{n t:String}(b:n= "int"\/n= "bool"\/n= "str"\/n= "list"\/n= "tuple"){d:D}(a:wX d=R t):aeX K (.type t) (.type n)=R (zc n t):=by ext d<;>(ext a;try (rcases b with rfl|rfl|rfl|rfl|rfl<;>rfl))
def NH{x:V}{d:D}{t:String}(h:DX O K H x d)(e:wX d=R t):VZ K H x t:=by
 cases d with
 |none=>ext e;ext h;rfl
 |bool b=>ext e;ext h;rfl
 |int b=>ext e;ext h;rfl
 |str b=>ext e;ext h;rfl
 |dict b=>ext e
 |list ds=>ext e;let(a,xs,rfl,f,_):=BW h;show .inl #[W,xs,f.sq]
 |tuple ds=>ext e;let(a,xs,rfl,f,_):=DB h;show .inr #[W,xs,f.1]
def C4(n:String)(b:FE):FE:=λY=>(b Y).bind λa=>(Res.X5 (xX a.2 a.1)).bind λd=>(Res.X5 (wX d)).bind λt=>.ok (.fz (.bool (zc n t)),a.2)
def Om{n:String}{c:TE}{j:FE}(k:n= "int"\/n= "bool"\/n= "str"\/n= "list"\/n= "tuple")(l:EO K E c j):EO K E (tI (Fv K) (c8 c (c8 (tC (.ty n)) gM))) (C4 n j):=by intro B X O T H Y Q R w;show l B X O T H Y _ R (w.bind.imp λa b h x i e1 f g=>?_);let(d,q,b):=b.X5;let(t,e,b):=b.X5;show#[x,n,t,zc n t,W,NH (oK f g q) e,Bj k e,b h _ i e1 f (.bl _)]
end
def Cm{P:Xu}{w:XQ}{K:CL}{D m:Str->bt WY}{k:Nat}{T a:M}{fd:Yj}{x:Str}{F:FN}{b:W9}{c:bg WY}{f:bg Int}
  (q:K.In b.heap) (g:b.heap.Ns Xv D) (A:b.heap.Ns builtinsNs m) (i:∀x:Str,x≠ "__name__"->m x=X7 x) (j:b.heap.NoLimit) (y:b.gens= #v[])
  (N:b.heap.get? a=R {cls:=.type "list",data:=.seq c.toArray}) (V:IntsAre c f) (p:f.length<=Xi) (t:Y1 k callerA)
  (I:∀base:Heap,K.In base->base.Ns Xv D->FnOk P w K D base kX k T fd [x] (Cv K 1 F)) (l:∀(s:W9) (u:WY),abh s fd #[[u],[]] [(x,u)])
  (C:F [.list (f.map .int)]=.ok (.fz (.bool S))):
  codeAny (model P w) callerA (.call (.ref T) #[[.ref a],[]]) (λr d=>r=.ok (.ret (.bool S))/\OldK b.heap d.heap/\d.os=b.os/\AllBare d.gens) b:=by
 show Ef (sp:=λc H Q E=>Cv K 1 F c H Q E\/(c.length=1/\False)) q g A i j y N V p t (λbase k1 k2=>(I base k1 k2).imp λc H Q E h=>?_) l (λH J B=>?_) λ_ _ _ h=>h
 .rcases h with h|h
  .show h
  .show h.2.elim
 .show .inl #[W,noO,[.list (f.map .int)],λa z=>z.elim,.cons (.lst #[?_,λz=>z.elim] (qj f)) .nil,?_]
  .rcases B with h|⟨o,X3,n,h1,h2,h3,Y,h5,X⟩
   .show .inl h
   .let e:=q a o h1;rw[N]at e;ext e;ext Y;show .inr #[c,0,h1,by rw[W0];show p,by simpa using X]
  .rw[C];show λv L s G=>by ext G;rfl
def Sy{l:aeK}{n k:Nat}{q:Xu}{i:bg Str}{O:(Str->bt WY)->Heap->Prop}{B:XQ->Heap->Prop}{d:DefRec}{K:Params->CL}{F:FN}{x:Str}
  (z:l.most=cL n) (m:n<=Xi) (r:d.params.defaults=[]) (E:Y1 k callerA)
  (L:∀(w:XQ) (h:Heap),B w h->(K w.params).In h)
  (P:∀(w:XQ) (b:Str->bt WY) (c:W7) (h:Heap),(K w.params).In h->h.Ns Xv b->b d.name=cL (.ref c)->
   ∃fd:Yj,(∀(s:W9) (u:WY),abh s fd #[[u],[]] [(x,u)])/\∀base:Heap,(K w.params).In base->base.Ns Xv b->FnOk l.prog w (K w.params) b base kX k c fd [x] (Cv (K w.params) 1 F))
  (M:∀ns:bg Int,ns.length<=n->F [.list (ns.map .int)]=.ok (.fz (.bool WZ))):
  PySem.W.WalkO q i O B l.row.toRowW d [] (λf g=>ahW f g):=by
 show Att.attach_call z r λw A y b R c o Q X N a g ns G Y S U I p v j e H=>?_;let C:=L w _ Y;let(fd,J,t):=P w b c _ C G.T.g p;show Cm C G.T.g G.T.b G.T.builtins G.T.nolimit H v j (XT e m) E t J (M ns e)
def VO{P:Xu}{w:XQ}{K:CL}{d:Str->I J}{base:Heap}{x a:Str}{st:YL}{f:M}{fd:Yj}{N c:G Str}{k n m:Nat}{g:FS}{e:FN}(F:Fun K x a st f fd)(S:Zj N c (au st))(j:c.length=n)(hm:N.length=m)(h:e=fA m g)
  (i:∀(b:J) (A:XJ) (outer:G Env) (s:W9) (H:Hp) (E:XK),Y1 k (A.deeper (XX a (au st) s.heap.objs.size f b))->
   ∃t,PSs (fC kX P w K d base N a (au st) f b A outer s H E).nox (bW st) t/\SO K E t g):FnOk P w K d base kX (k+1) f fd c (Cv K n e):=by
 subst h hm;show Wu F S j i
abbrev UQ(P:Xu)(w:XQ)(K:CL)(b:Str->I J)(base:Heap)(k:Nat)(x:Str)(a:G Str)(n:Nat)(F:FN):Prop:=wg P w K b base k x a (Cv K n F)
end L3
namespace L3
open PySem L2
abbrev nd(n:Nat):D:=.int (n:Int)
def aY(a:G Nat):G D:=a.map nd
def di(a:G Nat):(aY a).length=a.length:=by ext aY;rw[W0]
def Mv(xs ys:G Nat):aY (xs++ys)=aY xs++aY ys:=by ext aY;rw[XM]
def pT{i:Nat}(h:(aY ns)[i]?=R d):∃n,ns[i]?=R n/\d=nd n:=by
 unfold aY at h;rw[Xg]at h;cases e:ns[i]? with
 |none=>rw[e]at h;ext h
 |some n=>rw[e]at h;show#[n,W,(Xj h).symm]
theorem aJ(a:α):Res.X5 (R a)=.ok a:=W
theorem xJ(a:α):jE (Res.ok a)=.ok a:=W
theorem xY(i:Nat)(a:aQ):ad i a=Aq a i a[i]? :=W
theorem HA(a:aQ)(i:Nat)(d:D):Aq a i (R (R (.fz d)))=.ok (.fz d,a):=W
theorem FZ(a:aQ)(i:Nat)(ds:G D):Aq a i (R (R (.ow ds)))=.ok (.pl i,a):=W
theorem nZ(ds:G D):FL (R (R (.ow ds)))=R ds:=W
theorem E7(i:Nat)(d:D)(a:aQ):gN i (.fz d) a=.ok (a.set i (R (.fz d))):=W
theorem AJ(i:Int):Vu (.int i)=R i:=W
theorem xz(b:Bool):Vn (.bool b)=R b:=W
theorem jG(ds:G D):dY [.tuple ds]=R (.fz (nd ds.length)):=W
theorem iP(ds:G D):dY [.list ds]=R (.fz (nd ds.length)):=W
theorem nJ(i j:Int):Pg (.int i) (.int j)=R (.fz (.bool (decide (i<j)))):=W
theorem xI(i j:Int):DG (.int i) (.int j)=R (.fz (.bool (decide (j<i)))):=W
theorem Ae(i j:Int):Uz (.int i) (.int j)=R (.fz (.bool (decide (j<=i)))):=W
theorem eV(i j:Int):bP (.int i) (.int j)=R (.fz (.int (i+j))):=W
theorem zy(i j:Int):sL (.int i) (.int j)=R (.fz (.int (i - j))):=W
def u9(h:0<j):rL (.int i) (.int j)=R (.fz (.int (i % j))):=by show(if QK i j=S then _ else _)=_;rw[ax (show QK i j=S from a5 h)]
def Gn(h:0<j/\j<2^128):zd (.int i) (.int j)=R (.fz (.int (i/j))):=by show(if Oy i j=S then _ else _)=_;rw[ax (show Oy i j=S from a5 h)]
def KC(h: -(2^64)<i/\i<2^64):Dq (.int i) (.int j)=R (.fz (.int (i*j))):=by show(if(gL i||gL j)=S then _ else _)=_;rw[ax (by rw[show gL i=S from a5 h,aaj])]
def JW(h: -(2^64)<j/\j<2^64):Dq (.int i) (.int j)=R (.fz (.int (i*j))):=by show(if(gL i||gL j)=S then _ else _)=_;rw[ax (by rw[show gL j=S from a5 h,aaR])]
def JC(h:kq j):kJ [.int j]=R (gf 0 j.toNat):=by show(if kq j then _ else _)=_;rw[ax h]
def G8(n:Nat):gf 0 n=aY (Xn n):=by unfold gf aY;apply ZJ;intro k _;rw[Int.zero_add]
def pO(h:n<=1000000):kJ [nd n]=R (aY (Xn n)):=by rw[JC (by ext kq;ext),G8,Yo]
def GN(h:f C=.ok (.nx o)):bK f g C=g o:=by ext bK;rw[h];rfl
def HG(h:f o=.ok (.rt C)):bK f g o=.ok (.rt C):=by ext bK;rw[h];rfl
def UY(h:c C=.ok (S,o)):mv c f g C=f o:=by ext mv;rw[h];rfl
def UX(h:c C=.ok (U,o)):mv c f g C=g o:=by ext mv;rw[h];rfl
def yV(h:fi C=.ok (ds,o)):sF fi gt b C=pf gt b ds o:=by ext sF;rw[h];rfl
def jU(gt:FG)(f:FT)(g:FE)(d:D)(c:aQ):Res (I D×aQ):=(gt (.fz d) c).bind λe=>(f e).bind λb=>if b.1=S then(g b.2).bind λa=>(Res.X5 (xw a.2 a.1)).bind λx=>.ok (R x.1,cG x.2)else .ok (P,cG b.2)
def rX(h:jU gt ft fe d ρ=.ok (o,C))(g:acc.length<1000000):cU gt ft fe (d::r) ρ acc=cU gt ft fe r C (acc++o.toList):=by
 unfold jU at h;show(gt (.fz d) ρ).bind _=_;cases l:gt (.fz d) ρ with
 |er x=>rw[l]at h;ext h
 |bad=>rw[l]at h;ext h
 |ok f=>
  rw[l,d0]at h;rw[d0];cases j:ft f with
  |er x=>rw[j]at h;ext h
  |bad=>rw[j]at h;ext h
  |ok b=>
   let(b,e):=b;rw[j,d0]at h;rw[d0];cases b with
   |false=>rw[a4 Xp]at h⊢;ext h;rw[aef,X2]
   |true=>
    rw[ax W]at h⊢;cases i:fe e with
    |er x=>rw[i]at h;ext h
    |bad=>rw[i]at h;ext h
    |ok a=>
     rw[i,d0]at h;rw[d0];cases m:xw a.2 a.1 with
     |none=>rw[m]at h;ext h
     |some x=>rw[m]at h;ext h;show(if acc.length<1000000 then _ else _)=_;rw[ax g];rfl
def Fg(a b:Nat):decide ((a:Int)=(b:Int))=decide (a=b):=by
 by_cases h:a=b
 .rw[a5 h,a5 (by rw[h])]
 .rw[a6 h,a6 ()]
theorem Ht(a b:Nat):Xa.eqv (nd a) (nd b)=decide (a=b):=Fg a b
def jp(a b:Int):cJ (.int a) (.int b)=R (.fz (.bool (decide (a=b)))):=by rfl
def vK(a b:Int):pS (.int a) (.int b)=R (.fz (.bool (!decide (a=b)))):=by rfl
def yn(a b:Nat):cJ (nd a) (nd b)=R (.fz (.bool (decide (a=b)))):=by rw[jp,Fg]
theorem jr:∀ns:G Nat,Xa.canLayAll0 (aY ns)=S
 |[]=>rfl
 |n::r=>by show(Xa.canLay0 (nd n)&&Xa.canLayAll0 (aY r))=S;rw[jr r];rfl
theorem mM:∀ns:G Nat,Xa.depthAll (aY ns)=0
 |[]=>rfl
 |n::r=>by show max (Xa.depth (nd n)) (Xa.depthAll (aY r))=0;rw[mM r];rfl
theorem vG:∀xs ys:G Nat,Xa.eqvAll (aY xs) (aY ys)=decide (xs=ys)
 |[],[]=>rfl
 |[],_::_=>rfl
 |_::_,[]=>rfl
 |n::r,m::t=>by show(Xa.eqv (nd n) (nd m)&&Xa.eqvAll (aY r) (aY t))=_;rw[vG r t,Ht];rw[afL];simp
def RE(a:G Nat):kr (.list (aY a))=S:=by show(Xa.canLayAll0 (aY a)&&decide (Xa.depthAll (aY a)+1<=64))=S;rw[jr,mM];rfl
def uC(xs ys:G Nat):cJ (.list (aY xs)) (.list (aY ys))=R (.fz (.bool (decide (xs=ys)))):=by ext cJ;rw[RE,show Xa.canLay0 (.list (aY ys))=S from jr ys,YX,ax W,show Xa.eqv (.list (aY xs)) (.list (aY ys))=_ from vG xs ys]
def JH(x:Nat)(xs:G Nat):((aY xs).any λe=>Xa.eqv e (nd x))=decide (x∈xs):=by
 induction xs with
 |nil=>rfl
 |cons y r a=>
  show(Xa.eqv (nd y) (nd x)||(aY r).any λe=>Xa.eqv e (nd x))=_;rw[a,Ht];by_cases h:y=x
  .rw[a5 h,a5 (show x∈y::r by rw[h];show W8),aaj]
  .rw[a6 h,abu]
   by_cases g:x∈r
   .rw[a5 g,a5 (Xb _ g)]
   .rw[a6 g,a6 (λz=>(Xt.mp z).elim (λe=>h e.symm) g)]
def vU(x:Nat)(xs:G Nat):IH (nd x) (.tuple (aY xs))=R (.fz (.bool (decide (x∈xs)))):=by show(if(kr (nd x)&&Xa.canLayAll0 (aY xs))=S then _ else _)=_;rw[jr,show kr (nd x)=S from rfl,YX,ax W,JH]
theorem Hd{i:Nat}(h:xs[i]?=R v):lM xs (i:Int)=R v:=BP h
def QR(h:ds[i]?=R d):bc (.tuple ds) (nd i)=R (.fz d):=by show(lM ds (i:Int)).map RV.fz=_;rw[Hd h];rfl
def Wi(h:ds[i]?=R d):bc (.list ds) (nd i)=R (.fz d):=by show(lM ds (i:Int)).map RV.fz=_;rw[Hd h];rfl
section
variable{Y ρ1 Z X:aQ}{T L B Q:FE}{pa E pv:PV}{dx C d:D}{rv:RV}{N:bg PV}{ds:bg D}
def af(h:Y[i]?=R (R (.fz d))):ad i Y=.ok (.fz d,Y):=by rw[xY,h,HA]
def lf(h:Y[i]?=R (R (.ow ds))):ad i Y=.ok (.pl i,Y):=by rw[xY,h,FZ]
theorem aw:pC d Y=.ok (.fz d,Y):=W
def aD(c:T Y=.ok (pa,ρ1))(g:L ρ1=.ok (E,Z))(b:xX Z (bM pa)=R dx)(a:xX Z E=R C)(e:f dx C=R rv):aB f T L Y=.ok (rv.pv,Z):=by ext aB;rw[c,d0,g,d0,b,aJ,d0,a,aJ,d0,e,aJ,d0]
def bh(c:T Y=.ok (pa,ρ1))(a:xX ρ1 pa=R (.bool b)):az T Y=.ok (b,ρ1):=by ext az;rw[c,d0,a,aJ,d0,xz,aJ,d0]
def AX(c:f Y=.ok (a,ρ1))(e:a=S->g ρ1=.ok (b,ρ1)):sO f g Y=.ok (a&&b,ρ1):=by
 ext sO;rw[c,d0];cases a with
 |true=>rw[ax W,e W,abv]
 |false=>rw[a4 Xp,acE]
def BX(b:f Y=.ok (a,ρ1)):CM f Y=.ok (!a,ρ1):=by ext CM;rw[b,d0]
theorem av:am Y=.ok ([],Y):=W
def ah(b:T Y=.ok (pa,ρ1))(a:fr ρ1=.ok (N,Z)):aa T fr Y=.ok (bM pa::N,Z):=by ext aa;rw[b,d0,a,d0]
def gq(b:fr Y=.ok (N,ρ1))(hd:sN ρ1 N=R ds)(a:f ds=R rv):g9 f fr Y=.ok (rv.pv,ρ1):=by ext g9;rw[b,d0,hd,aJ,d0,a,aJ,d0]
def ce(c:fr Y=.ok (N,ρ1))(hd:ph ρ1 N=R (ds,Z))(b:ds.length=n)(a:F ds=.ok rv):bZ F n fr Y=.ok (rv.pv,Z):=by ext bZ;rw[c,d0,hd,aJ,d0];dsimp only;rw[ax b,a,xJ,d0]
def bq(b:fr Y=.ok (N,ρ1))(hd:ph ρ1 N=R (ds,Z))(a:ds.length<=1000):aV fr Y=.ok (.fz (.tuple ds),Z):=by ext aV;rw[b,d0,hd,aJ,d0];dsimp only;rw[ax a]
def lh(b:fr Y=.ok (N,ρ1))(hd:ph ρ1 N=R (ds,Z))(a:ds.length<=1000):dI fr Y=.ok (.ow ds,Z):=by ext dI;rw[b,d0,hd,aJ,d0];dsimp only;rw[ax a]
def DP(c:T Y=.ok (pa,ρ1))(a:xX ρ1 pa=R dx)(b:wX dx=R t):C4 n T Y=.ok (.fz (.bool (zc n t)),ρ1):=by ext C4;rw[c,d0,a,aJ,d0,b,aJ,d0]
theorem ri:oG Y=.ok (P,Y):=W
def gW(b:T Y=.ok (pa,ρ1))(a:xX ρ1 pa=R (.int i)):gR T Y=.ok (R i,ρ1):=by ext gR;rw[b,d0,a,aJ,d0,AJ,aJ,d0]
def xp(c:T Y=.ok (pa,ρ1))(b:fl ρ1=.ok (lo,Z))(e:fh Z=.ok (o,X))(a:xX X (bM pa)=R dx)(g:f dx lo o=R rv):DF f T fl fh Y=.ok (rv.pv,X):=by ext DF;rw[c,d0,b,d0,e,d0,a,aJ,d0,g,aJ,d0]
def Hq(g:Y[i]?=R (R (.ow es)))(c:Q Y=.ok (pa,ρ1))(b:xw ρ1 pa=R (d,Z))(f:Z[i]?=R (R (.ow ds)))(e:ds.length<1000000)(a:Z.set i (R (.ow (ds++[d])))=x):Ci i Q Y=.ok (.fz .none,x):=by ext Ci;rw[g,nZ,aJ,d0,c,d0,b,aJ,d0];dsimp only;rw[f,nZ,aJ,d0,ax e,a]
def cW(c:fi Y=.ok (ds,ρ1))(b:sT ρ1 o=R (cs,Z))(a:jE (cU gt ft Q ds (Xh n P++cs.map λd=>R (.fz d)) [])=.ok xs):dQ n o fi gt ft Q Y=.ok (.ow xs,Z):=by ext dQ;rw[c,d0];dsimp only;rw[b,aJ,d0];dsimp only;rw[a,d0]
def Q7(a:c Y=.ok (S,ρ1))(h:T ρ1=.ok (pv,Z)):MZ c T L Y=.ok (pv,Z):=by ext MZ;rw[a,d0,ax W,h]
def Py(a:c Y=.ok (U,ρ1))(h:L ρ1=.ok (pv,Z)):MZ c T L Y=.ok (pv,Z):=by ext MZ;rw[a,d0,a4 Xp,h]
theorem iG:bc (.tuple (a::r)) (.int 0)=R (.fz a):=QR W
theorem jR:bc (.tuple (a::b::r)) (.int 1)=R (.fz b):=QR W
theorem nI:bc (.tuple (a::b::c::r)) (.int 2)=R (.fz c):=QR W
def Rh(b:k<=1000)(a:xs.length<=1000):Dq (.list xs) (nd k)=R (.ow (Xh k xs).flatten):=by show(if xs.length*((k:Nat):Int).toNat<=1000000/\ -(2^63)<=(k:Int)/\(k:Int)<2^63 then R (RV.ow (Xh ((k:Nat):Int).toNat xs).flatten)else P)=_;rw[Yo,ax #[XT (acO a b) (),by ext,by ext]]
def gH(c:Q Y=.ok (pa,ρ1))(a:xw ρ1 pa=R (d,Z))(b:eN d=R es):iR Q Y=.ok (es,Z):=by ext iR;rw[c,d0,a,aJ,d0];dsimp only;rw[b,aJ,d0]
def Jz(b:fr Y=.ok (N,ρ1))(hd:sN ρ1 N=R ds)(a:f ds=R es):pp f fr Y=.ok (es,ρ1):=by ext pp;rw[b,d0,hd,aJ,d0,a,aJ,d0]
def zA(b:Q Y=.ok (pv,ρ1))(a:g pv ρ1=.ok Z)(c:Z=X):dU Q g Y=.ok (.nx X):=by ext dU;rw[b,d0];dsimp only;rw[a,d0,c]
def BS(a:Q Y=.ok (pv,ρ1)):rY Q Y=.ok (.nx ρ1):=by ext rY;rw[a,d0]
def uS(b:Q Y=.ok (pv,ρ1))(a:Dw ρ1 pv=R rv):dH Q Y=.ok (.rt rv):=by ext dH;rw[b,d0];dsimp only;rw[a,aJ,d0]
def wk(e:gt (.fz d) Y=.ok ρ1)(b:ft ρ1=.ok (S,Z))(g:Q Z=.ok (pv,X))(a:xw X pv=R (x,ρ4))(f:cG ρ4=o):jU gt ft Q d Y=.ok (R x,o):=by ext jU;rw[e,d0,b,d0,ax W,g,d0,a,aJ,d0,f]
def QY(b:gt (.fz d) Y=.ok ρ1)(a:ft ρ1=.ok (U,Z))(e:cG Z=o):jU gt ft Q d Y=.ok (P,o):=by ext jU;rw[b,d0,a,d0,a4 Xp,e]
end
end L3
namespace PySem
open Sem (wp)
open Builtin
open AutoSeq1 (wpAny_loadPart')
theorem nO:fillsNumberSlot (.type "tuple") "mul"=pure U:=
 fillsNumberSlot_seq F.slot_tuple_mul.lookup (by left) F.slot_tuple_rmul.lookup (by left)
def uh:seqRepeat? (.type "tuple")=pure (R (.builtin "tuple.__mul__")):=by unfold seqRepeat?;rw[seqSlot_of (name:= "__mul__") F.slot_tuple_mul.lookup (by left),seqSlot_of (name:= "__rmul__") F.slot_tuple_rmul.lookup (by left)];rfl
theorem qW(a:Int)(t:Tok)(l:M)(b:Array J)(n:Nat)(dct:I M)(f:Array (I J)):
  Meets (XN.«int.__rmul__» #[[.int a t,.ref l],[]]) (λ_ R s=>s.heap.get? l=cL {cls:=.type "tuple",dict:=dct,data:=.seq b n,slots:=f}/\R (.ok (.ret WY.notImplemented)) s):=
 .of_wp λe w A R s h=>by let(m,g,d,i,j):=s;let(o,h):=h;wp_walk;show#[_,W,h]
theorem wJ(l:M)(a:Array J)(n:Nat)(dct:I M)(e:Array (I J))(u:Tok):
  Meets (XN.«tuple.__mul__» #[[.ref l,.int 1 u],[]]) (λ_ R s=>s.heap.get? l=cL {cls:=.type "tuple",dict:=dct,data:=.seq a n,slots:=e}/\R (.ok (.ret (WY.ref l))) s):=
 .of_wp λb w A R s h=>by
  let(j,g,d,f,i):=s;let(m,h):=h
  wp_walk
  show#[_,W,h]
theorem xF(l:M)(a:Array WY)(n:Nat)(dct:bt M)(j:Array (bt WY))(x:Int)(u:Tok)(J:2<=x)(r:x<=1000)(e:a.isEmpty=U)(z:a.size<=1000):
  Meets (XN.«tuple.__mul__» #[[.ref l,.int x u],[]]) (λ_ R s=>s.heap.get? l=cL {cls:=.type "tuple",dict:=dct,data:=.seq a n,slots:=j}/\R (.ok (.ret (WY.ref s.heap.objs.size))) {s with heap:=s.heap.push {cls:=WY.type "tuple",data:=Data.seq (aaQ (λk c=>k++c) #v[] (Xh x.toNat a))},toks:=s.toks}):=
 .of_wp λf w A R s h=>by
  let(H,g,d,F,G):=s;let(q,h):=h;let E:¬(decide (x< -(2^63))||decide (x≥2^63))=S:=by simp;ext
  let C:(x==1)=U:=by simp;ext
  let B:decide (x<=0)=U:=by simp;ext
  let L:(a.isEmpty||x==1)=U:=by rw[e,C];rfl
  let K:(decide (x<=0)||a.isEmpty)=U:=by rw[e,B];rfl
  let i:(a.size:Int)*x<=1000000:=by let:(a.size:Int)*x<=1000*1000:=Int.mul_le_mul () r () ();ext
  let y:¬(a.size:Int)*x>(2^63 - 1)/8:=by ext
  let v:¬Tuple.tupleTooMany ((a.size:Int)*x)=S:=by
   ext Tuple.tupleTooMany;simp;let:(Xi:Nat)=16777216:=by decide
   ext
  wp_walk
  rw[a4 E]
  wp_walk using wpAny_loadPart' q
  rw[a4 y];dsimp only;rw[a4 v];let p:(aaQ (λk c=>k++c) #v[] (Xh x.toNat a)).size<=Xi:=by
   let t:∀(m:Nat) (b:Array WY),(aaQ (λk c=>k++c) b (Xh m a)).size=b.size+m*a.size:=by
    intro m
    induction m with
    |zero=>intro b;simp
    |succ m o=>intro b;rw[Ym,aaX,o,Array.size_append,ahV];ext
   rw[t];let I:x.toNat*a.size<=1000*1000:=acO () z;let:(Xi:Nat)=16777216:=by decide
   simp;ext
  wp_walk
  show#[_,W,h]
end PySem
namespace L3
open PySem PySem.Spec PyProof.Rows L2
def MR(K:CL):R2:=λx y H Q=>∃(a:M) (k:Nat) (xs:G V),x=.ref a/\y=.int (k:Int)/\SqT K H a xs/\xs≠[]/\1<=k/\k<=1000/\xs.length<=1000/\
 (k=1->Q (.ref a) H)/\(2<=k->∀p,H p=P->Q (.ref p) (aR H p (.tup (Xh k xs).flatten)))
def Mm:OpR X (Zl .Mult) (MR X.K):=by
 intro j s S H x y v u Q I E C h;let(a,k,xs,rfl,rfl,L,i,Z,P,N,J,G):=h;ext E;let(t,rfl):=C;let(f,r,M,Y):=I.tuple L;let((cls,dd,p,g),e,o,n,m):=id M;simp only at o m;subst o m;let l:=r.length;show aee () #[_,e,W] (λB=>ach B k t) nO F.fills_int_mul F.slot_int_rmul uh F.slot_int_index.lookup
  (aaJ F.slot_int_rmul (ach s k t) F.entry_int_rmul (F.args_int_rmul_2 _ _) (qW k t a f.toArray n dd g) #[e,W,#[_,e,W],?_])
 by_cases O:k=1
 .subst O;show aaJ F.slot_tuple_mul #[_,e,W] F.entry_tuple_mul (F.args_tuple_mul_2 _ _) (wJ a f.toArray n dd g t) #[e,#[.ref a,H,I,W,J W]]
 .show aaJ F.slot_tuple_mul #[_,e,W] F.entry_tuple_mul (F.args_tuple_mul_2 _ _) (xF a f.toArray n dd g k t () () ?_ (by rw[Xo];ext)) #[e,?_]
  .cases f with
   |nil=>ext r;show bb W i
   |cons y T=>rfl
  .let R:aaQ (λA w=>A++w) #v[] (Xh ((k:Nat):Int).toNat f.toArray)=(Xh k f).flatten.toArray:=by
    let:=nK f k [];rw[acr]at this;rw[Yo];show this
   rw[R];show#[.ref s.heap.objs.size,_,I.laid (λb U q=>b3 _ q) (Xd _) ?_,W,G () _ (I.Yn.fresh (Xd _))];show#[?_,_,r.rep k,ab5.new _ _];rw[Am];show XT (acO P N) ()
def Nl(K:CL):R2:=λx y H Q=>FH K x y H Q\/MR K x y H Q
theorem Kn:OpR X (Zl .Mult) (Nl X.K):=OpR.or Ll Mm
def iE:D->D->I RV
 |.tuple xs,.int k=>if xs≠[]/\1<=k/\k<=1000/\xs.length<=1000 then R (.fz (.tuple (Xh k.toNat xs).flatten))else P
 |d,e=>Dq d e
def Ew{K:CL}:kZ K (Nl K) iE:=by
 intro O H x y o j l Q n g f e q;unfold iE at e;split at e
 .rename_i ds k
  split at e
  .rename_i h
   ext e;ext f;let(a,xs,rfl,i,b):=DB g;obtain⟨m,rfl⟩:∃m:Nat,k=(m:Int):=#[k.toNat,by ext];rw[Yo]at q;show .inr #[a,m,xs,W,W,i.1,λz=>h.1 (b.ne.mp z),by ext,by ext,by rw[b.length];show h.2.2.2,λe=>?_,λ_=>Fin.ae6 (b.flat m) n q];subst e;let e1:(Xh 1 ds).flatten=ds:=by simp
   rw[e1]at q;show q.at (.tup i b)
  .ext e
 .show .inl (Kr O H x y o j l Q n g f e q)
end L3
namespace PySem
open Sem (wp)
open Builtin Builtin.Str
def itAt:Bool->Heap->M->M->Nat->Prop
 |true,h,it,a,i=>h.IsTupleIter it a i
 |false,h,it,a,i=>h.IsListIter it a i
def sqAt:Bool->Heap->M->Array J->Prop
 |true,h,a,xs=>h.IsTuple a xs
 |false,h,a,xs=>h.IsList a xs
def xO:Bool->String
 |true=> "tuple_iterator"
 |false=> "list_iterator"
def itAt.ext(x:itAt b h it a i)(e:Heap.ExtBut c h h')(n:it≠c):itAt b h' it a i:=by
 cases b with
 |true=>show Heap.IsTupleIter.extBut x e n
 |false=>show Heap.IsListIter.extBut x e n
def itAt.to(x:itAt b h it a i)(e:∀o,h.get? it=R o->h'.get? it=R o):itAt b h' it a i:=by
 cases b with
 |true=>show Heap.IsTupleIter.at x e
 |false=>show Heap.IsListIter.at x e
def itAt.live(x:itAt b h it a i):∃o,h.get? it=R o/\∀v,o.data≠.cell v:=by
 cases b with
 |true=>let(o,e,_,d):=(show h.IsTupleIter it a i from x);show#[o,e,λv z=>by rw[d]at z;ext z]
 |false=>let(o,e,_,d):=(show h.IsListIter it a i from x);show#[o,e,λv z=>by rw[d]at z;ext z]
def sqAt.ext(x:sqAt b h a xs)(e:Heap.ExtBut c h h')(n:a≠c):sqAt b h' a xs:=by
 cases b with
 |true=>show Heap.IsTuple.extBut x e n
 |false=>show Heap.IsList.extBut x e n
def sqAt.psh(x:sqAt b h a xs)(o:Obj):sqAt b (h.push o) a xs:=by
 cases b with
 |true=>show Heap.IsTuple.push x o
 |false=>show Heap.IsList.push x o
def sqAt.lt(x:sqAt b h a xs):a<h.objs.size:=by
 cases b with
 |true=>let(o,e,_):=(show h.IsTuple a xs from x);show b4 e
 |false=>let(o,e,_):=(show h.IsList a xs from x);show b4 e
section
variable{prog:Xu}{w:XQ}{A:XJ}{E:WY->W9->Prop}{s:W9}
def u8(d:itAt b s.heap it l i)(e:sqAt b s.heap l xs)(a:xs[i]?=R x)
  (q:∀c,itAt b c it l (i+1)->Heap.SameBut it s.heap c->Q x {s with heap:=c}):wpAny (model prog w) A (SmallTypes.nextOf (.ref it)) Q E s:=by
 cases b with
 |true=>show mB d e a q
 |false=>show wpAny_nextOf_list_item d e a q
def Ad(g:A.handled=P)(d:itAt b s.heap it l i)(f:sqAt b s.heap l xs)(a:xs[i]?=P)
  (q:∀c e,Heap.ExtBut it s.heap c->(∃o,c.get? e=R o/\o.cls=.type "StopIteration")->E (.ref e) {s with heap:=c}):wpAny (model prog w) A (SmallTypes.nextOf (.ref it)) Q E s:=by
 cases b with
 |true=>show oy g d f a q
 |false=>show wpAny_nextOf_list_end g d f a q
def Aa(a:sqAt b s.heap l xs)
  (q:Q (.ref s.heap.objs.size) {s with heap:=s.heap.push {cls:=.type (xO b),data:=.fields #v[.ref l,.int 0 0]}}):wpAny (model prog w) A (pyIter (.ref l)) Q E s:=by
 cases b with
 |true=>show abt a q
 |false=>show ZS a q
def Ds{Q:WY->W9->Prop}(D:acv z TI TO i1 i2 l1 l2)(k:adL s.heap z TI TO .none)
  (hTI:IsPair s.heap TI (.ref i1) (.ref i2)) (hTO:IsPair s.heap TO a b) (h1:itAt b1 s.heap i1 l1 n) (h2:itAt b2 s.heap i2 l2 n) (hl1:sqAt b1 s.heap l1 xs) (V:sqAt b2 s.heap l2 ys) (hx:xs[n]?=cL x) (hy:ys[n]?=cL y)
  (q:∀d,adL d z TI TO (rawInt s.heap.objs.size)->IsPair d TO x y->itAt b1 d i1 l1 (n+1)->itAt b2 d i2 l2 (n+1)->IsPair d s.heap.objs.size x y->d.objs.size=s.heap.objs.size+1->
   (∀c o,c≠z->c≠TO->c≠i1->c≠i2->s.heap.get? c=cL o->d.get? c=cL o)->Q (.ref s.heap.objs.size) {s with heap:=d}):
  wpAny (model prog w) A (XN.«zip.__next__» #[[.ref z],[]]) (λfin s'=>∃v,fin=.done (.ret v)/\Q v s') E s:=by
 show wpAny _ _ (field (.ref z) 2>>=_) _ _ _;show lD (X6 k W W ?_);show wpAny _ _ (field (.ref z) 3>>=_) _ _ _;show lD (X6 k W W ?_);show lD (YD hTI W ?_);show wpAny _ _ (SmallTypes.ownedTupleIsFree (.ref z)>>=_) _ _ _;show lD ?_;ext SmallTypes.ownedTupleIsFree;show lD (X6 k W W (W6 ?_));simp only[if_true];show lD (abi ?_);show lD (X6 k W W ?_);show lD (Zr k (by simp) λk₁ t g=>?_);let afR:=t;clear t;show lD ?_;simp only[afy,afM,aab,abd];show lD (lD (ab7 ?_));show wpAny _ _ (SmallTypes.nextOf (.ref i1)>>=_) _ _ _;show lD (u8 (h1.ext g.extBut D.i1z) (hl1.ext g.extBut D.l1z) hx λk₂ Z i=>W6 ?_);let J:=i.extBut _ _ D.TOi1 (g.extBut _ _ D.TOz hTO);show lD (YD J W ?_);show lD (abH J λk₃ I h=>?_);let M:=I;clear I;show lD (ZL (W6 ?_));show lD (lD (ab7 ?_));show wpAny _ _ (SmallTypes.nextOf (.ref i2)>>=_) _ _ _;show lD (u8 (((h2.ext g.extBut D.i2z).ext i.extBut D.i12.symm).ext h.extBut D.TOi2.symm) (((V.ext g.extBut D.l2z).ext i.extBut D.l2i1).ext h.extBut D.l2TO) hy λk₄ Y l=>W6 ?_);let H:=l.extBut _ _ D.TOi2 M;show lD (YD H W ?_);show lD (abH H λf G j=>?_);let p:IsPair f TO x y:=G;clear G;show lD (ZL (W6 (W6 ?_)));show lD (YD p W ?_);show lD (wpAny_newTuple ?_);let U:f.objs.size=s.heap.objs.size:=by rw[j.1,l.1,h.1,i.1,g.1]
 let C:=j.extBut _ _ D.TOz.symm (l.extBut _ _ D.i2z.symm (h.extBut _ _ D.TOz.symm (i.extBut _ _ D.i1z.symm afR)));let kp:∀c o,c≠z->c≠TO->c≠i1->c≠i2->s.heap.get? c=cL o->f.get? c=cL o:=λc o N c2 c3 c4 e=>
  j.extBut _ _ c2 (l.extBut _ _ c4 (h.extBut _ _ c2 (i.extBut _ _ c3 (g.extBut _ _ N e))))
 let T:=((Z.ext h.extBut D.TOi1.symm).ext l.extBut D.i12).ext j.extBut D.TOi1.symm;let S:=Y.ext j.extBut D.TOi2.symm;let X:=b4 C;show wpAny _ _ (SmallTypes.ownedTupleHandOut (.ref z) (.ref f.objs.size)>>=_) _ _ _;show lD ?_;ext SmallTypes.ownedTupleHandOut;let R:adL (f.push {cls:=.type "tuple",data:=.seq #v[x,y]}) z TI TO .ellipsis:=b3 _ C;show lD (Zr R (by simp) λk₇ P B=>?_);let L:=P;show Zr L (by simp) λr O u=>?_;let m:=O;let up:∀c o,c≠z->f.get? c=cL o->r.get? c=cL o:=λc o N e=>u.extBut _ _ N (B.extBut _ _ N (b3 _ e));let F:=u.extBut _ _ (Yt X) (B.extBut _ _ (Yt X) (b5 _ W));let K:r.objs.size=f.objs.size+1:=by rw[u.1,B.1,cc]
 rw[U]at m F K;show W6 #[_,W,?_];rw[U];show q r m (up _ _ D.TOz p) (T.to λo e=>up _ o D.i1z e) (S.to λo e=>up _ o D.i2z e) F K λc o N c2 c3 c4 e=>up c o N (kp c o N c2 c3 c4 e)
def G5(T:A.handled=Ld)(D:acv z TI TO i1 i2 l1 l2)(d:adL s.heap z TI TO .none)
  (M:IsPair s.heap TI (.ref i1) (.ref i2)) (L:IsPair s.heap TO a b) (U:itAt b1 s.heap i1 l1 n) (Z:itAt b2 s.heap i2 l2 n) (F:sqAt b1 s.heap l1 xs) (J:sqAt b2 s.heap l2 ys) (O:xs[n]?=Ld\/ys[n]?=Ld)
  (q:∀k e,(∀c o,c≠z->c≠TO->c≠i1->c≠i2->s.heap.get? c=cL o->k.get? c=cL o)->(∃o,k.get? e=cL o/\o.cls=.type "StopIteration")->E (.ref e) {s with heap:=k}):
  wpAny (model prog w) A (XN.«zip.__next__» #[[.ref z],[]]) Q E s:=by
 show wpAny _ _ (field (.ref z) 2>>=_) _ _ _;show lD (X6 d W W ?_);show wpAny _ _ (field (.ref z) 3>>=_) _ _ _;show lD (X6 d W W ?_);show lD (YD M W ?_);show wpAny _ _ (SmallTypes.ownedTupleIsFree (.ref z)>>=_) _ _ _;show lD ?_;ext SmallTypes.ownedTupleIsFree;show lD (X6 d W W (W6 ?_));simp only[if_true];show lD (abi ?_);show lD (X6 d W W ?_);show lD (Zr d (by simp) λS y f=>?_);let H:=y;show lD ?_;simp only[afy,afM,aab,abd];show lD (lD (ab7 ?_));show wpAny _ _ (SmallTypes.nextOf (.ref i1)>>=_) _ _ _;cases hx:xs[n]? with
 |none=>
  show lD (Ad T (U.ext f.extBut D.i1z) (F.ext f.extBut D.l1z) hx λC e g K=>?_);let(I,i,j):=K;let m:=g _ _ D.i1z.symm H;let ne:e≠z:=λt=>by subst t;rw[m]at i;ext i;simp at j
  show Zr m (by simp) λr _ h=>q r e (λc o G _ N _ t=>h.extBut _ _ G (g _ _ N (f.extBut _ _ G t))) #[I,h.extBut _ _ ne i,j]
 |some x=>
  let Y:ys[n]?=Ld:=by
   rcases O with t|t
   .rw[hx]at t;ext t
   .show t
  show lD (u8 (U.ext f.extBut D.i1z) (F.ext f.extBut D.l1z) hx λC X g=>W6 ?_);let p:=g.extBut _ _ D.TOi1 (f.extBut _ _ D.TOz L);show lD (YD p W ?_);show lD (abH p λr P h=>?_);show lD (ZL (W6 ?_));show lD (lD (ab7 ?_));show wpAny _ _ (SmallTypes.nextOf (.ref i2)>>=_) _ _ _;show lD (Ad T (((Z.ext f.extBut D.i2z).ext g.extBut D.i12.symm).ext h.extBut D.TOi2.symm) (((J.ext f.extBut D.l2z).ext g.extBut D.l2i1).ext h.extBut D.l2TO) Y λR e v K=>?_);let(I,i,j):=K;let l:=v _ _ D.i2z.symm (h.extBut _ _ D.TOz.symm (g.extBut _ _ D.i1z.symm H));let ne:e≠z:=λt=>by subst t;rw[l]at i;ext i;simp at j
  show Zr l (by simp) λB _ u=>q B e (λc o G c2 N c4 t=>u.extBut _ _ G (v _ _ c4 (h.extBut _ _ c2 (g.extBut _ _ N (f.extBut _ _ G t))))) #[I,u.extBut _ _ ne i,j]
end
section
variable{Y:Xu}{w:XQ}{A:XJ}{E:WY->W9->Prop}{s:W9}
def xn(D:acv z TI TO i1 i2 l1 l2)(k:adL s.heap z TI TO .none)
  (h:IsPair s.heap TI (.ref i1) (.ref i2)) (g:IsPair s.heap TO a b) (p:itAt b1 s.heap i1 l1 n) (m:itAt b2 s.heap i2 l2 n) (f:sqAt b1 s.heap l1 xs) (e:sqAt b2 s.heap l2 ys) (l:xs[n]?=R x) (j:ys[n]?=R y)
  (q:∀d,adL d z TI TO (rawInt s.heap.objs.size)->IsPair d TO x y->itAt b1 d i1 l1 (n+1)->itAt b2 d i2 l2 (n+1)->IsPair d s.heap.objs.size x y->d.objs.size=s.heap.objs.size+1->
   (∀c o,c≠z->c≠TO->c≠i1->c≠i2->s.heap.get? c=R o->d.get? c=R o)->Q (R (.ref s.heap.objs.size)) {s with heap:=d}):
  wpAny (model Y w) A (pyNext (.ref z)) Q E s:=by
 let i:s.TypeIs (.ref z) "zip":=#[_,k,W];ext pyNext;show lD (ab8 (Yk i F.slot_zip_next ?_));show Yq F.slot_zip_next i F.entry_zip_next (Ds D k h g p m f e l j λd G C B v u t r=>W6 (q d G C B v u t r)) (F.args_zip_next_1 _)
def xD(r:A.handled=P)(D:acv z TI TO i1 C l1 l2)(k:adL s.heap z TI TO .none)
  (i:IsPair s.heap TI (.ref i1) (.ref C)) (h:IsPair s.heap TO a b) (y:itAt b1 s.heap i1 l1 n) (v:itAt b2 s.heap C l2 n) (g:sqAt b1 s.heap l1 xs) (f:sqAt b2 s.heap l2 ys) (j:xs[n]?=P\/ys[n]?=P)
  (q:∀d,(∀c o,c≠z->c≠TO->c≠i1->c≠C->s.heap.get? c=R o->d.get? c=R o)->Q P {s with heap:=d}):wpAny (model Y w) A (pyNext (.ref z)) Q E s:=by
 let l:s.TypeIs (.ref z) "zip":=#[_,k,W];ext pyNext;show lD (ab8 (Yk l F.slot_zip_next ?_));show Yq F.slot_zip_next l F.entry_zip_next (G5 r D k i h y v g f j λd e p t=>?_) (F.args_zip_next_1 _);let(o,m,u):=t;show lD (aaf #[o,m,u] aki (W6 (q _ p)))
end
abbrev SH(h:Heap)(b:Bool)(a:M):Heap:=h.push {cls:=.type (xO b),data:=.fields #v[.ref a,.int 0 0]}
abbrev TK(h:Heap)(f e:Bool)(b a:M):Heap:=(SH h f b).push {cls:=.type (xO e),data:=.fields #v[.ref a,.int 0 0]}
abbrev Sb(h:Heap)(b f:Bool)(a e:M):Heap:=(TK h b f a e).push {cls:=.type "tuple",data:=.seq #v[.ref h.objs.size,.ref (SH h b a).objs.size]}
abbrev RZ(h:Heap)(f e:Bool)(b a:M):Heap:=(Sb h f e b a).push {cls:=.type "tuple",data:=.seq #v[.none,.none]}
abbrev UV(h:Heap)(f e:Bool)(b a:M):Heap:=(RZ h f e b a).push {cls:=.type "zip",data:=.fields #v[.none,.bool U,.bool U,.ref (TK h f e b a).objs.size,.ref (Sb h f e b a).objs.size]}
theorem rG(e f:Bool)(a b:M)(xs ys:Array J):
  Meets (XN.«zip.__new__» #[[.type "zip",.ref a,.ref b],[]]) (λ_ R s=>sqAt e s.heap a xs/\sqAt f s.heap b ys/\R (.ok (.ret (.ref (RZ s.heap e f a b).objs.size))) {s with heap:=UV s.heap e f a b}):=
 .of_wp λo w A R s h=>by
  let(q,g,d,n,p):=s;let(j,i,h):=h;let r:=sub_zip;let m:sqAt e (W9.heap #[q,g,d,n,p]) a xs:=j;let l:sqAt f (W9.heap #[q.push {cls:=.type (xO e),data:=.fields #v[.ref a,.int 0 0]},g,d,n,p]) b ys:=sqAt.psh i _
  wp_walk using Aa m,Aa l
  show#[_,W,h]
section
variable{Y:Xu}{w:XQ}{A:XJ}{E:WY->W9->Prop}{s:W9}
def GF(e:h.get? it=R {cls:=.type (xO b),data:=.fields #v[.ref l,.int 0 0]}):itAt b h it l 0:=by
 cases b with
 |true=>show#[_,e,W,W]
 |false=>show#[_,e,W,W]
def CY(l:sqAt b1 s.heap l1 xs)(j:sqAt b2 s.heap C ys)
  (q:∀d,adL d (s.heap.objs.size+4) (s.heap.objs.size+2) (s.heap.objs.size+3) .none->IsPair d (s.heap.objs.size+2) (.ref s.heap.objs.size) (.ref (s.heap.objs.size+1))->
   IsPair d (s.heap.objs.size+3) .none .none->itAt b1 d s.heap.objs.size l1 0->itAt b2 d (s.heap.objs.size+1) C 0->(∀c o,s.heap.get? c=R o->d.get? c=R o)->Q (.ref (s.heap.objs.size+4)) {s with heap:=d}):
  wpAny (model Y w) A (call (.type "zip") [.ref l1,.ref C]) Q E s:=by
 show callType_new F.called_zip () (F.typeCall_zip_2 _ _) (F.newCall_zip_2 _ _) (λobj=>F.args_object_init_3 obj _ _) F.entry_zip_new (rG b1 b2 l1 C xs ys) #[l,j,?_];let i:(SH s.heap b1 l1).objs.size=s.heap.objs.size+1:=cc ..;let h:(TK s.heap b1 b2 l1 C).objs.size=s.heap.objs.size+2:=by rw[cc,i]
 let g:(Sb s.heap b1 b2 l1 C).objs.size=s.heap.objs.size+3:=by rw[cc,h]
 let p:(RZ s.heap b1 b2 l1 C).objs.size=s.heap.objs.size+4:=by rw[cc,g]
 let v:∀c o,s.heap.get? c=R o->(SH s.heap b1 l1).get? c=R o:=λc o e=>b3 _ e;let n:∀c o,(SH s.heap b1 l1).get? c=R o->(TK s.heap b1 b2 l1 C).get? c=R o:=λc o e=>b3 _ e;let f:∀c o,(TK s.heap b1 b2 l1 C).get? c=R o->(Sb s.heap b1 b2 l1 C).get? c=R o:=λc o e=>b3 _ e;let b:∀c o,(Sb s.heap b1 b2 l1 C).get? c=R o->(RZ s.heap b1 b2 l1 C).get? c=R o:=λc o e=>b3 _ e;let a:∀c o,(RZ s.heap b1 b2 l1 C).get? c=R o->(UV s.heap b1 b2 l1 C).get? c=R o:=λc o e=>b3 _ e;let m:(UV s.heap b1 b2 l1 C).get? (RZ s.heap b1 b2 l1 C).objs.size=R _:=b5 _ W;let r:=a _ _ (b5 _ W);let t:=a _ _ (b _ _ (b5 _ W));let u:=a _ _ (b _ _ (f _ _ (b5 _ W)));let y:=a _ _ (b _ _ (f _ _ (n _ _ (b5 _ W))));rw[h,g,p]at m;rw[i,h]at t;rw[g]at r;rw[i]at u;rw[p];show#[#[_,m,W],q _ m t r (GF y) (GF u) λc o e=>a _ _ (b _ _ (f _ _ (n _ _ (v _ _ e))))]
end
end PySem
namespace L3
open PySem PySem.Spec PyProof.Rows L2
def DD(b:Bool)(K:CL)(H:Hp)(a:M)(xs:G V):Prop:=match b with
 |true=>SqT K H a xs
 |false=>SqL K H a xs
def U2(K:CL)(e b:Bool)(a c:M):It:=
 #[λi H=>∃xs ys x y,DD e K H a xs/\DD b K H c ys/\xs[i]?=R x/\ys[i]?=R y,
  λi H v f=>∃p x y,H p=P/\v=.ref p/\(∀xs,DD e K H a xs->xs[i]?=R x)/\(∀ys,DD b K H c ys->ys[i]?=R y)/\f=aR H p (.tup [x,y]),
  λi H=>∃xs ys,DD e K H a xs/\DD b K H c ys/\(xs.length<=i\/ys.length<=i)]
def Jj(I:Inv X pins σ H s)(i:SqL X.K H a xs)(h:SqL X.K H a ys):xs=ys:=by
 let(e,g,(o,k,e1,_,n,l),_):=I.list i;let(b,f,(m,k2,e2,_,p,j),_):=I.list h;rw[e1]at e2;ext e2;let:e=b:=by
  let q:e.toArray=b.toArray:=by injection l.symm.trans j
  simpa using q
 subst this;show g.inj f
def on(I:Inv X pins σ H s)(h:DD b X.K H a xs):∃c,Vals xs c/\sqAt b s.heap a c.toArray:=by
 cases b with
 |true=>let(c,f,p,e):=I.tuple h;show#[c,f,p]
 |false=>let(c,f,p,e):=I.list h;show#[c,f,p.isList]
def Ao(I:Inv X pins σ H s)(f:DD b X.K H a xs)(e:DD b X.K H a ys):xs=ys:=by
 cases b with
 |true=>show IM I f e
 |false=>show Jj I f e
def Df{ch:G M}(I:Inv X pins σ H s)(g:∀b∈ch,oh X pins H b)
  (k:∀b u,b∉ch->s.heap.get? b=R u->C.get? b=R u):Inv X pins σ H {s with heap:=C,toks:=t'}:=by
 let f:∀b u,H b=R u->b∉ch:=λb u e z=>by rw[(g b z).1]at e;ext e
 show I.step (λb j=>?_) (λb u _ _ a e _=>k b u a e) (λb u _ _ a e _=>#[u.slots,k b u a e]) (λ_ _ _ _ n=>n)
  (λb u a e=>#[u,k b u a e]) (λ_ _ e=>e) (λ_ _ _ e=>e) (λb y e=>#[#v[],by rw[e];simp]) (λm hm=>?_) (λb u e=>?_) I.bare
 .let(_,t,_,p,o,l):=g b j;show#[p,t,o,l]
 .let(h,es,w,i,r):=hm;show#[h,es,w,k _ h (λz=>(g _ z).2.1 W) i,r]
 .show(I.Yn b u e).aaO (λc v a q=>k c v ?_ q) (λ_ q=>q) λ_ _ q=>q
  rcases a with z|z
  .rw[z];show f b u e
  .show f c _ z
theorem Ho{K:CL}{d}(b1 V:Bool)(z TI TO C B U T:W7)(D:acv z TI TO C B U T):
  Turn Pz0 w K (.Tuple elts d tp) (U2 K b1 V U T) [z,TI,TO,C,B] z (λi h=>adL h z TI TO .none/\IsPair h TI (.ref C) (.ref B)/\(∃a b,IsPair h TO a b)/\itAt b1 h C U i/\itAt V h B T i) where
 mem:=by simp
 obj:=λi h f b e=>by
  let(m,j,(a,c,p),A,r):=f;simp only[Xt,YG,or_false]at e;rcases e with rfl|rfl|rfl|rfl|rfl
  .show#[_,m,λv q=>by cases(show Data.fields _=Data.cell v from q)]
  .show#[_,j,λv q=>by cases(show Data.seq _ _=Data.cell v from q)]
  .show#[_,p,λv q=>by cases(show Data.seq _ _=Data.cell v from q)]
  .show A.live
  .show r.live
 keep:=λi h h' f k=>by let(m,j,(a,c,p),A,r):=f;show#[k z (by simp) _ m,k TI (by simp) _ j,#[a,c,k TO (by simp) _ p],A.to λo q=>k C (by simp) o q,r.to λo q=>k B (by simp) o q]
 item:=by
  intro X hP hw hK hc i l s σ H E I N f hg;subst hP hw hK;let(m,j,(a,c,p),A,r):=f;let(xs,ys,x,y,L,J,hx,hy):=hg;let(X3,Q,S):=on I L;let(G,O,R):=on I J;let(u,hu,ru):=Q.get hx;let(t,ht,rt):=O.get hy;show xn D m j p A r S R (by simpa using hu) (by simpa using ht) λk z1 o1 g1 g2 pr sz M=>#[_,W,?_];show wpAny_letOwnedTupleGo_zip z1 λF z2 e2=>?_;let Y:=b4 m;let hIl:=b4 j;let hOl:=b4 p;let h1l:C<s.heap.objs.size:=by let(_,q,_):=A.live;show b4 q
  let h2l:B<s.heap.objs.size:=by let(_,q,_):=r.live;show b4 q
  let hn:=I.Yn.fresh (Xd _);let d:∀b o,b∉[z,TI,TO,C,B]->s.heap.get? b=cL o->F.get? b=cL o:=λb o e q=>by simp only[Xt,YG,or_false,not_or]at e;show(e2.2 b e.1).trans (M b o e.1 e.2.2.1 e.2.2.2.1 e.2.2.2.2 q)
  let hT2:=(e2.2 _ (Yt Y)).trans pr
  let I2:Inv X l σ (aR H s.heap.objs.size (.tup [x,y])) {s with heap:=F}:=
   I.ad5 N d (Xd _) #[by show 2<=Xi;decide,[u,t],.cons ru (.cons rt .nil),#[_,hT2,#[W,_,W],W]]
  let g:∀b o,b≠z->k.get? b=cL o->F.get? b=cL o:=λb o n q=>(e2.2 b n).trans q;show#[.ref s.heap.objs.size,_,I2,W,#[_,x,y,hn,W,λzs hs=>by rw[Ao I hs L];show hx,λzs hs=>by rw[Ao I hs J];show hy,W],
   #[z2,g _ _ D.TIz (M _ _ D.TIz D.TITO D.TIi1 D.TIi2 j),#[_,_,g _ _ D.TOz o1],g1.to λo q=>g _ _ D.i1z q,g2.to λo q=>g _ _ D.i2z q],λb e=>?_]
  let hb2:b<s.heap.objs.size:=by simp only[Xt,YG,or_false]at e;rcases e with rfl|rfl|rfl|rfl|rfl<;>assumption
  rw[ar (Xy hb2)];show(N b e).1
 done:=by
  intro X hP hw hK hc i l s σ H E I N f hg;subst hP hw hK;let(m,j,(a,c,p),A,r):=f;let(xs,ys,L,J,Z):=hg;let(X3,Q,S):=on I L;let(G,O,R):=on I J;let hl1:=Q.length;let hl2:=O.length;let hd:X3.toArray[i]?=Ld\/G.toArray[i]?=Ld:=by
   rcases Z with q|q
   .show .inl (by simp;ext)
   .show .inr (by simp;ext)
  show xD (I.ok.hd hc) D m j p A r S R hd λk M=>#[W,?_];show Df I N λb o e q=>by simp only[Xt,YG,or_false,not_or]at e;show M b o e.1 e.2.2.1 e.2.2.2.1 e.2.2.2.2 q
 self:=λ_ _ _ _ _ f h=>ahX f.1 h
def Cp(n b a:Nat)(f:b<n)(e:a<n):acv (n+4) (n+2) (n+3) n (n+1) b a:=by constructor<;>(show(_:Nat)≠_;ext)
def MQ(K:CL)(d:TA):TI:=λe H R=>d e H λg b=>∃a c b1 f,g=[.ref a,.ref c]/\(∃xs,DD b1 K b a xs)/\(∃ys,DD f K b c ys)/\R (U2 K b1 f a c) b
def G1:X7 "zip"=R (.type "zip"):=by left
def Qy{d}(S:Gl X "zip")(hm:X.mg "zip"=Ld)(k:PA X [l,m] ta)(O:Xr [l,m] X.env=(W3,eval l X.env)::Xr [m] X.env:=by rfl)(P:(backTo pos (Xr [m] X.env)).any (·.1)=W3:=by rfl):
  PI X (.Tuple elts d tp) (.Call (.Name "zip" p) [l,m] [] pos) (MQ X.K ta):=by
 intro f s y H R I h;show Call_ (og I S hm G1 (ZY (bU (k pos f s y H _ I h) λus g #[vs,w,j,G,J2]=>?_) O P));let(a,c,Z,Y,e,(xs,E),(ys,C),q):=J2;subst e;let(u,t,rfl,F,rt):=B1 G;ext F;ext rt;let(X3,rx,r):=on j E;let(N,ry,o):=on j C;let U:∀b∈[g.heap.objs.size+4,g.heap.objs.size+2,g.heap.objs.size+3,g.heap.objs.size,g.heap.objs.size+1],oh X f w b:=λb v=>by
  let i:g.heap.objs.size<=b:=by simp only[Xt,YG,or_false]at v;let T:=v;ext
  show j.adS i (j.Yn.fresh i)
 show CY r o λh1 n M L B A Q=>?_;show ahX n ?_;show#[g.heap.objs.size+4,_,_,_,w,W,j.kept Q,Ho Z Y _ _ _ _ _ a c (Cp _ _ _ r.lt o.lt),#[n,M,#[_,_,L],B,A],U,q]
def Pv:Xx->Bool
 |.Starred _ _=>S
 |_=>U
def t9(e:Xx)(es:G Xx)(env:Env)(h:Pv e=U):Xr (e::es) env=(U,eval e env)::Xr es env:=by ext e<;>first|rfl|ext h
def lG:G D->G D->G D
 |x::r,y::q=>.tuple [x,y]::lG r q
 |_,_=>[]
theorem xQ:∀(xs ys:G D),(lG xs ys).length=min xs.length ys.length
 |[],_=>by simp[lG]
 |_::_,[]=>by simp[lG]
 |_::r,_::q=>by simp only[lG,Xk,xQ r q];ext
theorem xE:∀(xs ys:G D) (i:Nat),(lG xs ys)[i]?=(xs[i]?).bind λx=>(ys[i]?).map λy=>.tuple [x,y]
 |[],_,_=>by simp[lG]
 |x::r,[],i=>by ext i<;>simp[lG]
 |x::r,y::q,0=>by simp[lG]
 |x::r,y::q,i+1=>by simp only[lG,ac8];show xE r q i
section
variable{K:CL}{E:XK}{B O Z:bB}{T H X:Hp}{N:L2.St}{Y ρ':aQ}{v:V}
def ads(b:Bool)(O:bB)(K:CL)(H:Hp)(a:M)(xs:G V):Prop:=match b with
 |true=>aaN O K H a xs
 |false=>ab3 O K H a xs
def ads.ev(h:ads b O K H a xs)(e:Ev O H Z X):ads b Z K X a xs:=by
 cases b with
 |true=>show aaN.ev h e
 |false=>show ab3.ev h e
def ads.at(h:ads b O K H a xs):DD b K H a xs:=by
 cases b with
 |true=>show(show aaN O K H a xs from h).1
 |false=>show(show ab3 O K H a xs from h).1.sq
def OW(h:ads b1 O K H a xs)(hd:YE O K H xs ds)(g:ads b2 O K H c ys)(F:YE O K H ys es):ue K (U2 K b1 b2 a c) O H (lG ds es):=by
 intro Z X e n;let j:=h.ev e;let f:=hd.ev e;let m:=g.ev e;let l:=F.ev e;rw[xQ];show#[λi hi=>?_,#[xs,ys,j.at,m.at,?_]]
 .let w:i<ds.length:=by ext
  let u:i<es.length:=by ext
  let(x,C,dx):=f.get (Xm w);let(y,A,G):=l.get (Xm u);show#[#[xs,ys,x,y,j.at,m.at,C,A],?_];rintro t I ⟨p,L,J,b,rfl,hx',Q,rfl⟩;let r:=hx' xs j.at;let o:=Q ys m.at;rw[C]at r;rw[A]at o;ext r;ext o;show#[bj b _,.tuple [ds[i],es[i]],?_,.tup #[SqT.of ay,λq=>bb q (n p b)] (.cons (dx.ev (Ev.grow (bj b _))) (.cons (G.ev (Ev.grow (bj b _))) .nil))];rw[xE,Xm w,Xm u];rfl
 .rw[hd.length,F.length];ext
def Nb(h:DV O K H v d)(q:eN d=R ds):∃b a xs,v=.ref a/\ads b O K H a xs/\YE O K H xs ds:=by
 cases h with
 |tup h e=>ext q;show#[S,_,_,W,h,e]
 |lst h e=>ext q;show#[U,_,_,W,h,e]
 |_=>ext q
def DA(c:FA):FI:=λY=>(c Y).bind λa=>(Res.X5 (ph a.2 a.1)).bind λb=>match b.1 with
 |[d,e]=>(Res.X5 (eN d)).bind λds=>(Res.X5 (eN e)).bind λes=>.ok (lG ds es,b.2)
 |_=>.bad
def QA(h:AO K E ta fa):IO K E (MQ K ta) (DA fa):=by
 intro B T O N H Y L R w;show h B T O N H Y _ R (w.bind.imp λa b M Q I e1 F m=>?_);let((ds,i),q,b):=b.X5;let(G,e2,R2,p):=qZ F m q;dsimp only at b;cases p with
 |nil=>show b.elim
 |cons o e=>
  cases e with
  |nil=>show b.elim
  |cons e n=>
   cases n with
   |cons _ _=>show b.elim
   |nil=>let(es,l,b):=WR.X5 b;let(fs,j,b):=WR.X5 b;let(y,C,xs,rfl,g,t):=Nb o l;let(u,A,J,rfl,f,r):=Nb e j;show#[C,A,y,u,W,#[_,g.at],#[_,f.at],b G _ I (e1.trans e2) R2 (OW g t f r)]
def iZ(d e:D):I RV:=match d,e with
 |.str z,.int i=>if z.length<=1000000 then(lM z.cps.toList i).map λc=>.fz (.str #[#v[c]])else P
 |_,_=>P
def Lk:kZ K (TH K) iZ:=by
 intro O H x y l g j Q n b a e q;unfold iZ at e;split at e
 .split at e
  .rename_i z i f
   cases h:lM z.cps.toList i with
   |none=>rw[h]at e;ext e
   |some c=>rw[h]at e;ext e;ext b;ext a;show .inr (.inr #[z,i,c,W,W,tR f,h,q.at (.str _)])
  .ext e
 .ext e
def E9:G D->I RV
 |[.str z]=>if z.length<=1000000 then R (.fz (.int z.length))else P
 |_=>P
def LH:A1 K (λxs H Q=>∃x n,xs=[x]/\Lx K x H n/\Q (.int n) H) E9:=by
 intro O H xs ds h Q n a e q;unfold E9 at e;split at e
 .split at e
  .rename_i z b
   ext e;cases a with
   |cons g f=>ext f;ext g;show#[_,z.length,W,#[tR b,W],q.at (.int _)]
  .ext e
 .ext e
end
end L3
namespace L3
open PySem L2
def Vz(N C:aQ->Prop)(T:RV->Prop):Res Fl->Prop
 |.ok (.nx a)=>N a
 |.ok (.ct a)=>C a
 |.ok (.rt v)=>T v
 |_=>False
structure Go(r:Res Fl)(N C:aQ->Prop)(T:RV->Prop):Prop where
 out:Vz N C T r
section
variable{ρ ρ1 Z ρ3:aQ}{f g:FS}{fe:FE}{pv:PV}{d:D}{rv:RV}{ds:bg D}{N C:aQ->Prop}{T:RV->Prop}
def Go.eq(e:r=r')(h:Go r' N C T):Go r N C T:=by rw[e];show h
def Go.imp(h:Go r N C T)(b:∀ρ,N ρ->N' ρ)(e:∀ρ,C ρ->C' ρ)(a:∀v,T v->T' v):Go r N' C' T':=by
 show#[?_];let h:=h.out;cases r with
 |bad=>show h
 |er x=>show h
 |ok i=>
  cases i with
  |nx r=>show b _ h
  |ct r=>show e _ h
  |rt v=>show a _ h
  |bk r=>show h
def yf(h:Go (f ρ) (λr=>Go (g r) N C T) C T):Go (bK f g ρ) N C T:=by
 show#[?_];let h:=h.out;ext bK;cases q:f ρ with
 |bad=>rw[q]at h;show h.elim
 |er x=>rw[q]at h;show h.elim
 |ok a=>
  rw[q]at h;cases a with
  |nx r=>show(show Go (g r) N C T from h).out
  |ct r=>show h
  |rt v=>show h
  |bk r=>show h.elim
def N9(h:c ρ=.ok (b,ρ1))(a:b=S->Go (f ρ1) N C T)(e:b=U->Go (g ρ1) N C T):Go (mv c f g ρ) N C T:=by
 ext mv;rw[h,d0];cases b with
 |true=>show a W
 |false=>show e W
theorem y8(b:fe ρ=.ok (pv,ρ1))(a:gt pv ρ1=.ok Z)(h:N Z):Go (dU fe gt ρ) N C T:=.eq (zA b a W) #[h]
theorem Bg(a:fe ρ=.ok (pv,ρ1))(h:N ρ1):Go (rY fe ρ) N C T:=.eq (BS a) #[h]
theorem dS(b:fe ρ=.ok (pv,ρ1))(a:Dw ρ1 pv=R rv)(h:T rv):Go (dH fe ρ) N C T:=.eq (uS b a) #[h]
theorem BB(h:N ρ):Go (eO ρ) N C T:=#[h]
theorem AN(I:Nat->aQ->Prop):∀(ds:G D) (k:Nat) (ρ:aQ),I k ρ->(∀i d ρ,ds[i]?=R d->I (k+i) ρ->∃ρ1,gt (.fz d) ρ=.ok ρ1/\Go (b ρ1) (I (k+i+1)) (I (k+i+1)) T)->Go (pf gt b ds ρ) (I (k+ds.length)) C T
 |[],k,ρ,h0,_=>#[h0]
 |d::r,k,ρ,h0,u=>by
  let(ρ1,o,a):=u 0 d ρ W h0;let a:=a.out;let l:∀j,I (k+1) j->Go (pf gt b r j) (I (k+(r.length+1))) C T:=λj h=>by
   let e:k+(r.length+1)=k+1+r.length:=by ext
   rw[e];show AN I r (k+1) j h λi t m w n=>?_;let e:k+1+i=k+(i+1):=by ext
   rw[e]at n⊢;show u (i+1) t m (by simpa using w) n
  show#[?_];show Vz _ _ _ ((gt (.fz d) ρ).bind _);rw[o,d0];cases q:b ρ1 with
  |bad=>rw[q]at a;show a.elim
  |er x=>rw[q]at a;show a.elim
  |ok p=>
   rw[q]at a;cases p with
   |nx r=>show(l _ a).out
   |ct r=>show(l _ a).out
   |rt v=>show a
   |bk r=>show a.elim
def Rb(I:Nat->aQ->Prop)(k:o ρ=.ok (ds,ρ1))(j:I 0 ρ1)(a:∀i d ρ,ds[i]?=R d->I i ρ->∃ρ1,gt (.fz d) ρ=.ok ρ1/\Go (b ρ1) (I (i+1)) (I (i+1)) T)(e:∀c,I ds.length c->N c):Go (sF o gt b ρ) N C T:=by let:=AN (C:=C) I ds 0 ρ1 j (by simpa using a);rw[ZG]at this;show .eq (yV k) (this.imp e (λ_ h=>h) λ_ h=>h)
def lO(a:ds.map (λd=>R (.fz d))++Xh (n - ds.length) P=ρ)(h:Go (g ρ) (λ_=>T (.fz .none)) (λ_=>False) T):∃rv,fA n g ds=.ok rv/\T rv:=by
 let h:=h.out;ext fA;rw[a];cases q:g ρ with
 |bad=>rw[q]at h;show h.elim
 |er x=>rw[q]at h;show h.elim
 |ok b=>
  rw[q]at h;cases b with
  |nx r=>show#[_,W,h]
  |ct r=>show h.elim
  |rt v=>show#[_,W,h]
  |bk r=>show h.elim
def jb(a:ds.map (λd=>R (.fz d))++Xh (n - ds.length) P=ρ)(h:Go (g ρ) (λ_=>RV.fz .none=v) (λ_=>False) (λr=>r=v)):fA n g ds=.ok v:=by let(rv,e,b):=lO (T:=λr=>r=v) a h;rw[e,b]
theorem cx(b:fe ρ=.ok (pv,ρ1))(a:gt pv ρ1=.ok Z)(c:Z=ρ3)(h:Go (g ρ3) N C T):Go (bK (dU fe gt) g ρ) N C T:=.eq (GN (zA b a c)) h
theorem ji(b:fe ρ=.ok (pv,ρ1))(a:Dw ρ1 pv=R rv)(h:T rv):Go (bK (dH fe) g ρ) N C T:=.eq (HG (uS b a)) #[h]
theorem fR(h:Go (g ρ) N C T):Go (bK eO g ρ) N C T:=.eq W h
def oP(i:c ρ=.ok (b,ρ1))(a:b=S->Go (bK f1 g ρ1) N C T)(h:b=U->Go (bK f2 g ρ1) N C T):Go (bK (mv c f1 f2) g ρ) N C T:=by
 let e:bK (mv c f1 f2) g ρ=if b=S then bK f1 g ρ1 else bK f2 g ρ1:=by unfold bK mv;rw[i,d0];ext b<;>rfl
 show .eq e ?_;cases b with
 |true=>show a W
 |false=>show h W
theorem D3(I:Nat->aQ->Prop)(j:o ρ=.ok (ds,ρ1))(h:I 0 ρ1)(a:∀i d ρ,ds[i]?=R d->I i ρ->∃ρ1,gt (.fz d) ρ=.ok ρ1/\Go (b ρ1) (I (i+1)) (I (i+1)) T)(e:∀c,I ds.length c->Go (g c) N C T):Go (bK (sF o gt b) g ρ) N C T:=
 yf (Rb I j h a e)
theorem sZ(I:aQ->Prop)(P:Nat->D->Prop):∀(ds:G D) (k:Nat) (ρ:aQ) (acc:G D),I ρ->acc.length+ds.length<=1000000->(∀i d,ds[i]?=R d->∀ρ,I ρ->∃x c,jU gt ft fe d ρ=.ok (R x,c)/\I c/\P (k+i) x)->
  ∃xs,cU gt ft fe ds ρ acc=.ok (acc++xs)/\xs.length=ds.length/\∀i x,xs[i]?=R x->P (k+i) x
 |[],k,ρ,acc,_,_,_=>#[[],by show Res.ok acc=_;simp,W,λi x h=>by simp at h]
 |d::r,k,ρ,acc,h0,v,u=>by
  let(x,c,n,m,l):=u 0 d W ρ h0;rw[Xk]at v;let(xs,q,p,o):=sZ I P r (k+1) c (acc++[x]) m (by rw[Xf];simp;ext) λi t w a j=>by
   let e:k+1+i=k+(i+1):=by ext
   rw[e];show u (i+1) t (by simpa using w) a j
  show#[x::xs,?_,by rw[Xk,p,Xk],λi y b=>?_]
  .rw[rX n ()];show cU gt ft fe r c (acc++[x])=_;rw[q,XZ];rfl
  .cases i with
   |zero=>cases(show R x=R y from b);show l
   |succ i=>
    let e:k+(i+1)=k+1+i:=by ext
    rw[e];show o i y (by simpa using b)
def jW(I:aQ->Prop)(P:Nat->D->Prop)(e:I ρ)(b:ds.length<=1000000)(a:∀i d,ds[i]?=R d->∀ρ,I ρ->∃x c,jU gt ft fe d ρ=.ok (R x,c)/\I c/\P i x):
  ∃xs,jE (cU gt ft fe ds ρ [])=.ok xs/\xs.length=ds.length/\∀i x,xs[i]?=R x->P i x:=by
 let(xs,l,j,h):=sZ I P ds 0 ρ [] e (by simpa using b) (by simpa using a);show#[xs,by rw[l];rfl,j,by simpa using h]
theorem kF{α:Type}{f:α->D}{Q:Nat->α->Prop}:∀(xs:G D) (k:Nat),(∀i x,xs[i]?=R x->∃a,x=f a/\Q (k+i) a)->∃as:G α,xs=as.map f/\∀i a,as[i]?=R a->Q (k+i) a
 |[],_,_=>#[[],W,λi a h=>by simp at h]
 |x::r,k,h=>by
  let(a,e,q):=h 0 x W;let(as,e2,l):=kF (f:=f) (Q:=Q) r (k+1) λi y m=>by
   let e:k+1+i=k+(i+1):=by ext
   rw[e];show h (i+1) y (by simpa using m)
  show#[a::as,by rw[e,e2];rfl,λi b j=>?_];cases i with
  |zero=>cases(show R a=R b from j);show q
  |succ i=>
   let e:k+(i+1)=k+1+i:=by ext
   rw[e];show l i b (by simpa using j)
def OO(c:Xa.strOk a=S)(e:Xa.strOk b=S):cJ (.str a) (.str b)=R (.fz (.bool (a==b))):=by ext cJ;rw[show kr (.str a)=S by ext kr;rw[show Xa.canLay0 (.str a)=S from c];rfl,show Xa.canLay0 (.str b)=S from e,YX,ax W];rfl
def Nq(b:Xa.strOk a=S):cJ (.str a) (.str a)=R (.fz (.bool S)):=by rw[OO b b,dN]
def Bf(c:Xa.strOk a=S)(e:Xa.strOk b=S)(h:(a==b)=U):cJ (.str a) (.str b)=R (.fz (.bool U)):=by rw[OO c e,h]
theorem vo{α:Type}{xs:G α}{i:Int}{v:α}(a:0<=i)(h:xs[i.toNat]?=R v):lM xs i=R v:=P6 a h
def JD(a:0<=i)(h:ds[i.toNat]?=R d):bc (.list ds) (.int i)=R (.fz d):=by show(lM ds i).map RV.fz=_;rw[vo a h];rfl
def Li{s:G Nat}(e:s.Pairwise (·<·))(h:∀k∈s,k<n):s.length<=n:=by
 let:∀(s:G Nat) (a:Nat),s.Pairwise (·<·)->(∀k∈s,a<=k/\k<n)->s.length<=n - a:=by
  intro s
  induction s with
  |nil=>intro a _ _;show XY _
  |cons x r i=>intro a e h;let(l,j):=Yx.mp e;let m:=h x W8;let:=i (x+1) j λk b=>#[l k b,(h k (Xb _ b)).2];rw[Xk];ext
 show this s 0 e λk b=>#[XY _,h k b]
def BN(c:fr ρ=.ok (o,ρ1))(hd:ph ρ1 o=R ([d,e],Z))(b:eN d=R es)(a:eN e=R fs):DA fr ρ=.ok (lG es fs,Z):=by ext DA;rw[c,d0,hd,aJ,d0];dsimp only;rw[b,aJ,d0,a,aJ,d0]
end
end L3
namespace L3
open PySem PySem.Spec PyProof.Rows L2 PySem.Builtin PySem.Builtin.Str
section
variable{X:Cx}
theorem Hr{z:Str}{u:J}(h:RelV (.str z) u):∃t,u=.str z t:=h
theorem t8:∀{a:G Str} {b:G J},Vals (a.map V.str) b->∃l,b=strValues l/\l.map (·.1)=a
 |[],_,.nil=>#[[],W,W]
 |z::r,_,.cons h t=>by let(k,rfl):=Hr h;let(l,rfl,e):=t8 t;show#[(z,k)::l,W,by rw[Xq,e]]
def NN(K:CL):V->G V->Hp->VK->Prop:=λx xs H Q=>∃a l b,x=.str a/\xs=[.ref l]/\SqL K H l (b.map V.str)/\aeY a b=S/\Q (.str (Txt.join a b)) H
def LF:RL X "str.join" (NN X.K):=by
 rintro f s j H x xs v m Q I h b ⟨a,l,n,rfl,rfl,y,Yn,q⟩;let(t,rfl):=Hr h;let(u,rfl,i):=b.one;ext i;let(r,w,pl,p):=I.list y;let(e,rfl,rfl):=t8 w;let g:tooLong ((e.map (·.1)).toArray.foldl (·+·.length+a.length) 0)=U:=by unfold aeY at Yn;rwa [Zs]at Yn
 show aaJ F.slot_str_join (adI _ _ _) F.entry_str_join (F.args_str_join_2 _ _) (meets_str_join_list a t l e g) #[pl.isList,post_join e #[joinFit_length g,λo k=>#[.str _,H,I.tok k,#[_,W],q]]]
def R8:V->I Int->I Int->Hp->VK->Prop:=λx lo a H Q=>∃z,x=.str z/\z.length<=Xi/\Q (.str (Txt.slice z lo a)) H
def P1:Np X R8:=by
 rintro b s h H x v p o lo w r Q I n e pl g ⟨z,rfl,y,q⟩;let(t,rfl):=Hr n;show#["str",_,F.slot_str_getitem.lookup,adI _ _ _,?_];let a:(Txt.slice z lo w).length<=Xi/\∀f k,EP X b h Q (.str (Txt.slice z lo w) f) {s with toks:=k}:=#[XT (Txt.slice_le z _ _) y,λf k=>#[.str _,H,I.tok k,#[_,W],q]];cases pl with
 |none=>cases g with
  |none=>show ZZ (l:=P) (u:=P) (st:=P) e W (abo a)
  |int j u=>show ZZ (l:=P) (u:=R (j,u)) (st:=P) e W (abo a)
 |int i u=>cases g with
  |none=>show ZZ (l:=R (i,u)) (u:=P) (st:=P) e W (abo a)
  |int j m=>show ZZ (l:=R (i,u)) (u:=R (j,m)) (st:=P) e W (abo a)
end
section
variable{K:CL}{E:XK}{B O N:bB}{Y H L:Hp}{Z:L2.St}{X T:aQ}{v:V}
def BJ:PV->I Str
 |.fz (.str z)=>R z
 |_=>P
def HN{pv:PV}{z:Str}(p:aaM K Y O Z H X v pv)(e:BJ pv=R z):v=.str z:=by
 unfold BJ at e;split at e
 .ext e;cases(show DV O K H v (.str z)from p);rfl
 .ext e
def Vt(K:CL)(r:V->G V->Hp->VK->Prop)(f:Str->G D->I RV):Prop:=∀(O:bB) (H:Hp) (z:Str) (xs:G V) (ds:G D) (a:RV) (Q:VK),mH O H->Paired (DX O K H) xs ds->f z ds=R a->Fin O K H Q a->r (.str z) xs H Q
def RP(f:Str->G D->I RV)(c:FE)(d:FA):FE:=λX=>(c X).bind λa=>(Res.X5 (BJ a.1)).bind λz=>(d a.2).bind λb=>(Res.X5 (sN b.2 b.1)).bind λds=>(Res.X5 (f z ds)).bind λe=>.ok (e.pv,b.2)
def S7{r:V->bg V->Hp->VK->Prop}{f:Str->bg D->I RV}{to:TE}{c:TA}{d:FE}{k:FA}(o:Vt K r f)(p:EO K E to d)(s:AO K E c k):EO K E (RK K "str" r to c) (RP f d k):=by intro B Y O Z H X Q R w;show p B Y O Z H X _ R (w.bind.imp λa g A x G e1 t n=>?_);let(z,h,g):=g.X5;obtain rfl:=HN n h;show#[W,?_];show s B Y A Z G a.2 _ t (g.bind.imp λb e y xs F e2 R2 m=>?_);let(ds,j,e):=e.X5;let(rv,i,e):=e.X5;show o y F z xs ds rv Q R2.od (uQ R2 m j) i (lC R2 λu v C e3 q l=>e u v C (e1.trans (e2.trans e3)) q l)
def uP:G D->I (G Str)
 |[]=>R []
 |.str b::r=>(uP r).map (b::·)
 |_=>P
theorem A9{O:bB}{H:Hp}:∀{xs:G V} {ds:G D} {bs:G Str},YE O K H xs ds->uP ds=R bs->xs=bs.map V.str
 |_,_,_,.nil,e=>by ext e;rfl
 |_,_,bs,.cons (vs:=g) (ds:=r) h t,e=>by
  cases h with
  |str b=>
   let a:(uP r).map (b::·)=R bs:=e;cases q:uP r with
   |none=>rw[q]at a;ext a
   |some f=>rw[q]at a;ext a;rw[A9 t q];rfl
  |_=>ext e
def Ip(a:G Str):uP (a.map .str)=R a:=by
 induction a with
 |nil=>rfl
 |cons n r b=>show(uP (r.map .str)).map (n::·)=_;rw[b];rfl
def sQ(z:Str):G D->I RV
 |[.list ds]=>(match uP ds with
  |some a=>if aeY z a=S then R (.fz (.str (Txt.join z a)))else P
  |none=>P)
 |_=>P
def JN:Vt K (NN K) sQ:=by
 intro O H z xs ds m Q n h e q;unfold sQ at e;split at e
 .rename_i es
  cases l:uP es with
  |none=>rw[l]at e;ext e
  |some g=>
   rw[l]at e;dsimp only at e;split at e
   .rename_i i
    ext e;cases h with
    |cons f b=>ext b;let(a,j,rfl,f,b):=BW f;let:=A9 b l;subst this;show#[z,a,g,W,W,f.sq,i,q.at (.str _)]
   .ext e
 .ext e
def jT:D->I Int->I Int->I RV
 |.str z,lo,a=>if z.length<=1000000 then R (.fz (.str (Txt.slice z lo a)))else P
 |_,_,_=>P
def Jy:Sv K R8 jT:=by
 intro O H x lo g h f Q n a e q;unfold jT at e;split at e
 .split at e
  .rename_i b;ext e;ext a;show#[_,W,tR b,q.at (.str _)]
  .ext e
 .ext e
end
end L3
namespace L2
open PySem PySem.Spec PyProof.Rows
section
variable{Y:Type}[DecidableEq Y]
def jA(a:G (Y×V))(k:Y):I V:=(a.find? λkv=>decide (kv.1=k)).map (·.2)
def iS(a:G (Y×V))(k:Y)(v:V):G (Y×V):=
 if(a.any λkv=>decide (kv.1=k))=S then a.map (λkv=>if kv.1=k then(kv.1,v)else kv)else a++[(k,v)]
def my(a:G (Y×V))(k:Y):G (Y×V):=a.filter λkv=>decide (kv.1≠k)
def rA{k:Y}(e:p.1=k):jA (p::r) k=R p.2:=by simp[jA,XW,e]
def qC{k:Y}(e:¬p.1=k):jA (p::r) k=jA r k:=by simp[jA,XW,e]
theorem xN(k:Y):∀a:G (Y×V),(a.any λkv=>decide (kv.1=k))=(jA a k).isSome
 |[]=>rfl
 |p::r=>by
  rw[Z7];by_cases e:p.1=k
  .simp only[rA e,a5 e,aaj,aed]
  .rw[qC e,a6 e,abu];show xN k r
def jI(a:G (Y×V))(k:Y)(v:V):(iS a k v).length<=a.length+1:=by
 ext iS;split
 .rw[W0];ext
 .rw[Xf,Xk,Y5];ext
def aaa.aaB(r:aaa o u):o.isSome=u.isSome:=by
 cases o with
 |none=>cases u with
  |none=>rfl
  |some _=>show(show False from r).elim
 |some _=>cases u with
  |none=>show(show False from r).elim
  |some _=>rfl
def aaa.getD(r:aaa o u)(a:RelV d d'):RelV (o.getD d) (u.getD d'):=by
 cases o with
 |none=>cases u with
  |none=>show a
  |some _=>show(show False from r).elim
 |some _=>cases u with
  |none=>show(show False from r).elim
  |some _=>show r
def KV.val{d:G (Y×V)}{c:G (Y×J)}(r:KV d c)(k:Y):aaa (jA d k) (valueAt c k):=by
 unfold KV at r
 induction r with
 |nil=>show True.intro
 | @cons p q l i h t j=>
  let(f,g):=h;by_cases e:p.1=k
  .let a:q.1=k:=f.symm.trans e
   let b:valueAt (q::i) k=R q.2:=by simp[valueAt,XW,a]
   rw[rA e,b];show g
  .let a:¬q.1=k:=λz=>e (f.trans z)
   let b:valueAt (q::i) k=valueAt i k:=by simp[valueAt,XW,a]
   rw[qC e,b];show j
def KV.any(r:KV XA vs)(k:Y):(XA.any λkv=>decide (kv.1=k))=vs.any λkv=>decide (kv.1=k):=by
 unfold KV at r
 induction r with
 |nil=>rfl
 |cons h t a=>rw[Z7,Z7,a,h.1]
def KV.ag1(r:KV XA vs)(k:Y)(b:RelV y u):
  KV (XA.map λkv=>if kv.1=k then(kv.1,y)else kv) (vs.map λkv=>if kv.1=k then(kv.1,u)else kv):=by
 unfold KV at r⊢
 induction r with
 |nil=>show .nil
 | @cons p q j i h t g=>
  rw[Xq,Xq];show .cons ?_ g;let(a,f):=h;by_cases e:p.1=k
  .rw[ax e,ax (a.symm.trans e)];show#[a,b]
  .rw[a4 e,a4 (λz=>e (a.trans z))];show#[a,f]
def KV.put(r:KV XA vs)(k:Y)(a:RelV y u):KV (iS XA k y) (stored vs k u):=by
 unfold iS stored;rw[r.any k];by_cases e:(vs.any λkv=>decide (kv.1=k))=S
 .rw[ax e,ax e];show r.ag1 k a
 .rw[a4 e,a4 e];show Paired.snoc r #[W,a]
def KV.drop(r:KV XA vs)(k:Y):KV (my XA k) (without vs k):=by
 unfold KV at r⊢;unfold my without
 induction r with
 |nil=>show .nil
 | @cons p q m l h t j=>
  let(f,g):=h;rw[ZE,ZE];by_cases e:p.1=k
  .let a:¬decide (p.1≠k)=S:=by simp[e]
   let b:¬decide (q.1≠k)=S:=by simp[f.symm.trans e]
   rw[a4 a,a4 b];show j
  .let i:¬q.1=k:=λz=>e (f.trans z)
   let a:decide (p.1≠k)=S:=by simp[e]
   let b:decide (q.1≠k)=S:=by simp[i]
   rw[ax a,ax b];show .cons #[f,g] j
def KV.keys{b:G (Y×J)}(r:KV XA b):XA.map (·.1)=b.map (·.1):=by
 unfold KV at r
 induction r with
 |nil=>rfl
 |cons h t a=>rw[Xq,Xq,a,h.1]
theorem KV.length(r:KV XA vs):XA.length=vs.length:=Paired.length r
theorem Et(a:G (Y×V))(k:Y):(my a k).length<=a.length:=Z2 _ _
end
def tj(r:RelV (kV k) u):(cC a w).is k u=S:=by
 cases k with
 |inl i=>let(t,e):=(show∃t,u=WY.int i t from r);subst e;show xM a w i t
 |inr x=>let(t,e):=(show∃t,u=WY.str x t from r);subst e;show xS a w x t
theorem tD:∀{b:G cg} {us:G J},Vals (b.map kV) us->ItemsAre (cC a w) b us
 |[],_,r=>by rw[aai]at r;ext r;show .nil
 |k::b,_,r=>by
  rw[Xq]at r;cases r with
  |cons h t=>show .cons (tj h) (tD t)
abbrev KT(H:Hp):G (G cg×V)->G (G cg×M×J)->Prop:=Paired λp q=>p.1=q.1/\H q.2.1=R (.tup (p.1.map kV))/\RelV p.2 q.2.2
def KT.val(r:KT H XA xs)(k:G cg):aaa (jA XA k) ((atKey xs k).map (·.2)):=by
 induction r with
 |nil=>show True.intro
 | @cons p q l i h t j=>
  let(f,_,g):=h;by_cases e:p.1=k
  .let a:=f.symm.trans e
   let b:atKey (q::i) k=R q.2:=by simp[atKey,XW,a]
   rw[rA e,b];show g
  .let a:¬q.1=k:=λz=>e (f.trans z)
   let b:atKey (q::i) k=atKey i k:=by simp[atKey,XW,a]
   rw[qC e,b];show j
def KT.ag1(r:KT H XA xs)(k:G cg)(f:RelV y u):
  KT H (XA.map λkv=>if kv.1=k then(kv.1,y)else kv) (xs.map (putAt k u)):=by
 induction r with
 |nil=>show .nil
 | @cons p q l j h t i=>
  rw[Xq,Xq];show .cons ?_ i;let(a,b,g):=h;ext putAt;by_cases e:p.1=k
  .rw[ax e,ax (a.symm.trans e)];show#[a,b,f]
  .rw[a4 e,a4 (λz=>e (a.trans z))];show#[a,b,g]
def KT.put(r:KT H XA xs)(k:G cg)(f:H b=R (.tup (k.map kV)))(a:RelV y u):
  KT H (iS XA k y) (storedH xs k b u):=by
 let e:(XA.any λkv=>decide (kv.1=k))=(atKey xs k).isSome:=by rw[xN,(r.val k).aaB,aas]
 unfold iS storedH;rw[e];by_cases q:(atKey xs k).isSome=S
 .rw[ax q,ax q];show r.ag1 k a
 .rw[a4 q,a4 q];show Paired.snoc r #[W,f,a]
theorem KT.keeps(r:KT H XA xs)(a:∀b ys,H b=R (.tup ys)->H' b=R (.tup ys)):KT H' XA xs:=
 Paired.Z4 r λ_ _ z=>#[z.1,a _ _ z.2.1,z.2.2]
section
variable{P:Xu}{w:XQ}{H:Hp}{h:Heap}{a:W7}
theorem M7(ok:HOk P w H h)(e:Rd H a u):ObjOk P w H h a u:=e.ok ok
theorem xb(ok:HOk P w H h)(e:Rd H a (.dK o)):o.length<=Xi/\(a==Ys)=U/\∃b,KV o b/\h.DictOf (cC P w) a b:=
 show ObjOk P w H h a (.dK o)from M7 ok e
theorem xg(ok:HOk P w H h)(e:H a=R (.dK o)):o.length<=Xi/\(a==Ys)=U/\∃b,KV o b/\h.DictOf (cC P w) a b:=xb ok (.inl e)
def uA{c:G cg}(ok:HOk P w H h)(e:H a=R (.tup (c.map kV))):(tupleKind (cC P w)).is h c a:=by let(_,i,r,o,g,(f,n,b),_):=(show ObjOk P w H h a (.tup (c.map kV))from ok a _ e);show#[o,i.toArray,n,g,f,b,by simpa using tD r]
def wS(ok:HOk P w H h)(e:Rd H a (.dT C)):C.length<=Xi/\(a==Ys)=U/\
  ∃xs,KT H C xs/\h.DictOfH (tupleKind (cC P w)) a xs:=by
 let(z,y,xs,r,o,es,u,n,j,i,g,f):=(show ObjOk P w H h a (.dT C)from M7 ok e);show#[z,y,xs,r,o,es,u,n,j,i,g,λx b=>?_,f];let all:∀{l:G (G cg×V)} {m:G (G cg×M×J)},KT H l m->∀x∈m,(tupleKind (cC P w)).is h x.1 x.2.1:=by
  intro l m q
  induction q with
  |nil=>intro x b;show nomatch b
  | @cons p q E B v t A=>
   intro x b;rcases Xt.mp b with e|b
   .subst e;show uA ok (by rw[<-v.1];show v.2.1)
   .show A x b
 show all r x b
theorem To(ok:HOk P w H h)(e:H a=R (.dT o)):o.length<=Xi/\(a==Ys)=U/\
  ∃xs,KT H o xs/\h.DictOfH (tupleKind (cC P w)) a xs:=wS ok (.inl e)
end
def acT(H:Hp)(a:M)(y:V)(r:I V):Prop:=
 (∃e k,Rd H a (.dK e)/\y=kV k/\r=jA e k)\/∃e k b,Rd H a (.dT e)/\y=.ref b/\H b=R (.tup (k.map kV))/\r=jA e k
def afq(H:Hp)(a:M)(y v:V)(H':Hp):Prop:=
 (∃e k,H a=R (.dK e)/\y=kV k/\e.length<Xi/\H'=aR H a (.dK (iS e k v)))\/
 ∃e k b,H a=R (.dT e)/\y=.ref b/\H b=R (.tup (k.map kV))/\e.length<Xi/\H'=aR H a (.dT (iS e k v))
theorem acT.k{k:cg}(e:H a=R (.dK XA)):acT H a (kV k) (jA XA k):=.inl #[XA,k,.inl e,W,W]
theorem afq.k{k:cg}(e:H a=R (.dK XA))(b:XA.length<Xi):afq H a (kV k) v (aR H a (.dK (iS XA k v))):=.inl #[XA,k,e,W,b,W]
section
variable{X:Cx}{Z:bg (W7×Obj)}{Y:St}{H:Hp}{s:W9}{a:W7}{y v:V}{u r:WY}{o:bt V}{A:XJ}{E:WY->W9->Prop}
def Inv.big(I:Inv X Z Y H s):Ys<s.heap.objs.size:=by let h:=(I.mod.glob.keeps I.bk).lt;show ZX () h
def CJ{Q:J->W9->Prop}(t:A.units+1<cLine)(I:Inv X Z Y H s)(g:acT H a y (R v))(q:RelV y u)(h:∀c d,Inv X Z Y H d->RelV v c->Q c d):
  wpAny (model X.prog X.w) A (getItem (.ref a) u) Q E s:=by
 rcases g with⟨L,k,e,n,l⟩|⟨L,k,b,e,n,F,l⟩
 .subst n;let(z,C,w,i,dd):=xb I.Yn e;let(c,j,f):=aaa.some_of (v:=v) (o:=valueAt w k) (by rw[l];show i.val k);show wpAny_getItem_of (tj q) dd.mapOf j (h c _ (I.tok _) f)
 .subst n;cases(show u=WY.ref b from q);let(z,C,xs,i,dd):=wS I.Yn e;let(c,j,f):=aaa.some_of (v:=v) (o:=(atKey xs k).map (·.2)) (by rw[l];show i.val k);let(p,B,m):=ZR.mp j;show agB (aci t) (uA I.Yn F) dd B ?_;rw[m];show h c _ (I.tok _) f
def Vp{Q:J->W9->Prop}(n:A.units+1<cLine)(I:Inv X Z Y H s)(g:acT H a y o)(m:RelV y u)(h:∀c,Inv X Z Y H c->Q (.bool o.isSome) c):
  wpAny (model X.prog X.w) A (YM .In u (.ref a)) Q E s:=by
 rcases g with⟨t,k,e,j,l⟩|⟨t,k,b,e,j,p,l⟩
 .subst j;let(z,i,w,f,dd):=xb I.Yn e;show wpAny_in_of (tj m) i dd.mapOf ?_;rw[<-(f.val k).aaB,<-l];show h _ (I.tok _)
 .subst j;cases(show u=WY.ref b from m);let(z,i,xs,f,dd):=wS I.Yn e;show ami (aci n) (uA I.Yn p) i dd ?_;let q:=(f.val k).aaB;rw[aas]at q;rw[<-q,<-l];show h _ (I.tok _)
theorem l8{c:Heap}{d:Nat}{f:HO}(I:Inv X Z Y H s)(g:TV (H a))(h:Heap.SameBut a s.heap c)(i:∃q,c.get? a=R q)(new:ObjOk X.prog X.w (aR H a f) c a f):
  Inv X Z Y (aR H a f) {s with heap:=c,toks:=d}:=
 I.write (x:=a) (e:=a) g (.inl W) (λb q j z=>(h.2 b j).trans z) i new
theorem yu(z:XA.length<=Xi)(hd:(a==Ys)=U)(b:KV XA C)(dd:h'.DictOf (cC e w) a C):
  ObjOk e w H' h' a (.dK XA):=#[z,hd,C,b,dd]
def C7{H':Hp}{Q:Unit->W9->Prop}(L:A.units+1<cLine)(I:Inv X Z Y H s)(g:afq H a y v H')(F:RelV y u)(x:RelV v r)(h:∀d,Inv X Z Y H' d->Q ⟨⟩ d):
  wpAny (model X.prog X.w) A (setItem (.ref a) u r) Q E s:=by
 rcases g with⟨w,k,e,B,l,C⟩|⟨w,k,b,e,B,K,l,C⟩
 .subst B C
  let(z,t,vs,f,dd):=xg I.Yn e;let m:vs.length<=Xi:=by rw[<-f.length];show z
  let p:(iS w k v).length<=Xi:=by let:=jI w k v;ext
  show wpAny_setItem_pairs (hsz:=m) (tj F) dd λG i n=>h _ ?_;let M:∃q,G.get? a=cL q:=let#[q,_,_,j,_]:=i;#[q,j]
  show l8 I (by rw[e];show True.intro) n M (yu p t (f.put k x) i)
 .subst B C
  cases(show u=WY.ref b from F);let(z,t,xs,f,dd):=To I.Yn e;let m:xs.length<=Xi:=by rw[<-Paired.length f];show z
  let p:(iS w k v).length<=Xi:=by let:=jI w k v;ext
  show agC (hsz:=m) (aci L) (uA I.Yn K) dd λG i n=>h _ ?_;let(q,es,S,j,R,P,O,_,N):=i;show l8 I (by rw[e];show True.intro) n #[q,j] #[p,t,_,(f.put k K x).keeps λc T J=>?_,q,es,S,j,R,P,O,N];rw[ar (Ta J e (λz=>nomatch z))];show J
end
section
variable{X:Cx}{Z:bg (W7×Obj)}{T:St}{H:Hp}{s:W9}{a:W7}{Y:bg (cg×V)}{k:cg}{u:WY}{A:XJ}{E:WY->W9->Prop}
def S5{v:V}{b:G J}{Q:J->W9->Prop}(I:Inv X Z T H s)(e:H a=R (.dK Y))(j:RelV (kV k) u)(l:jA Y k=R v)(hm:b=[]\/∃x,b=[x])
  (h:∀c d,Inv X Z T (aR H a (.dK (my Y k))) d->RelV v c->Q c d):wpAny (model X.prog X.w) A (call (.builtin "dict.pop") (.ref a::u::b)) Q E s:=by
 let(z,B,w,f,dd):=xg I.Yn e;let(c,n,m):=aaa.some_of (v:=v) (o:=valueAt w k) (by rw[<-l];show f.val k);let r:(keyPart u).isSome=S:=by
  cases k with
  |inl i=>let(t,q):=(show∃t,u=WY.int i t from j);subst q;rfl
  |inr x=>let(t,q):=(show∃t,u=WY.str x t from j);subst q;rfl
 let N:argsOk "dict.pop" #[.ref a::u::b,[]]:=by
  rcases hm with q|⟨x,q⟩
  .subst q;show PySem.F.args_dict_pop_2 _ _
  .subst q;show PySem.F.args_dict_pop_3 _ _ _
 show acw ac2 dd.typeIs PySem.F.entry_dict_pop N (meets_dict_pop_there (cC X.prog X.w) a (tj j) b hm r)
  #[w,c,dd,by rw[<-f.length];show z,n,λC g p=>h c _ ?_ m]
 let y:∃q,C.get? a=R q:=let#[q,_,_,L,_]:=g;#[q,L]
 show l8 I (by rw[e];show True.intro) p y (yu (XT (Et Y k) z) B (f.drop k) g)
end
def OC(i:Xx):Prop:=∀a b,subscripted i U a b=operate [a,b] (getItem a b)
def Ag{T id:String}
  (m:typeLookup (.type T) "__getitem__"=pure (R (.builtin id))) (l:OC slice)
  (h:wpAny (model prog w) A (eval value env) (λo d=>wpAny (model prog w) A (eval slice env) (λi c=>c.TypeIs o T/\wpAny (model prog w) A (getItem o i) Q E c) E d) E s):
  wpAny (model prog w) A (eval (.Subscript value slice pos) env) Q E s:=by
 show Subscript_ (wpAny_mono h (λo d g=>wpAny_mono g (λi c a=>?_) λ_ _ x=>x) λ_ _ x=>x);let(j,a):=a;ext subscriptTail;show lD ?_;rw[getitemInPython_of_ne j.not_modules];show lD (ai7 j m ?_);let e:wpAny (model prog w) A (subscripted slice U o i) (λr b=>wpAny (model prog w) A (letTemporaryGo value o r>>=λ_=>pure r) Q E b) E c:=by rw[l o i];show wpAny_operating (wpAny_mono a (λr b f=>lD (wpAny_letTemporaryGo (W6 f))) λ_ _ x=>x)
 first
  |show W6 (lD e)
  |show lD (W6 (lD e))
  |show lD e
def xT(I:Inv X pins σ H s)(g:acT H a y o):s.TypeIs (.ref a) "dict":=by
 rcases g with⟨f,k,e,_,_⟩|⟨f,k,b,e,_,_,_⟩
 .let(_,_,h,_,dd):=xb I.Yn e;show dd.typeIs
 .let(_,_,xs,_,dd):=wS I.Yn e;show dd.typeIs
def NO(f ty:TE):TE:=λb H Q=>f b H λx g=>ty b g λy e=>∃a v,x=.ref a/\acT e a y (R v)/\Q v e
def Ss(ty f:TE):TE:=λb H Q=>ty b H λy g=>f b g λx e=>∃a o,x=.ref a/\acT e a y o/\Q (.bl o.isSome) e
def Nh(f ty e:TE):TS:=λD b H=>e b H λv i=>f b i λx h=>ty b h λy g=>∃a j,x=.ref a/\afq g a y v j/\D.nx b j
section
variable{X:Cx}{o i e Z:Xx}{pos Y alx:Pos}{T U tv:TE}
def Jm(t:X.A.units+1<cLine)(B:PE X o T)(c:PE X i U)(w:OC i):PE X (.Subscript o i pos) (NO T U):=by intro b s j H Q I h;show Ag acs.lookup w (bU (B b s j H _ I h) λu m #[x,G,E,p,r]=>bU (c b m j G _ E r) λM L #[y,F,l,n,a,v,C,g,q]=>?_);subst C;obtain rfl:=p;show#[xT l g,CJ t l g n λJ K I3 f=>#[v,F,I3,f,q]]
def DY(r:X.A.units+1<cLine)(c:PE X i U)(t:PE X o T):PC X .In i o (Ss U T):=by intro b s f H Q I h;show bU (c b s f H _ I h) λJ j #[y,E,B,l,p]=>bU (t b j f E _ B p) λu G #[x,C,w,m,a,q,v,g,n]=>?_;subst v;obtain rfl:=m;show Vp r w g l λF I3=>#[.bl q.isSome,C,I3,W,n]
def Kp(B:X.A.units+1<cLine)(E:PE X o T)(c:PE X i U)(w:PE X Z tv)(C:Zy Z (cL (.Subscript o i Y)) pos.line X.env=pure W3):
  PS X (.Assign [.Subscript o i Y] Z pos) (Nh T U tv):=by
 intro b s f H D I h;show aeZ (bU (w b s f H _ I h) λr l #[v,N,K,rv,t]=>bU (E b l f N _ K t) λu j #[x,Mz0,A,n,q]=>bU (c b j f Mz0 _ A q) λQ P #[y,R1,I3,m,a,L,F,g,p]=>?_) C;subst F;obtain rfl:=n;show C7 B I3 g m rv λO G=>#[f,L,G,p]
end
def nw(c a:G (cg×V)):G (cg×V):=a.foldl (λb kv=>iS b kv.1 kv.2) c
def KV.merge:∀{a:G (cg×V)} {b:G (cg×J)} {d:G (cg×V)} {c:G (cg×J)},KV a b->KV d c->KV (nw d a) (merged c b):=by
 intro a b d c r;unfold KV at r
 induction r generalizing d c with
 |nil=>intro q;show q
 | @cons p q j i h t g=>
  intro f;let e:KV (iS d p.1 p.2) (stored c q.1 q.2):=by let:=f.put p.1 h.2;rw[<-h.1];show this
  show g e
theorem kP:∀(a c:G (cg×V)),(nw c a).length<=c.length+a.length
 |[],c=>by show c.length<=c.length+0;ext
 |p::r,c=>by let e:=kP r (iS c p.1 p.2);let b:=jI c p.1 p.2;show(nw (iS c p.1 p.2) r).length<=_;rw[Xk];ext
structure M1(X:Cx)(o:Xx)(m:Str)(apos:Pos)(e:Xx)(ZN:Pos):Prop where
 base:attributeBase o m X.env (eval o X.env)=eval o X.env
 few:((backTo ZN (Xr [e] X.env)).all (λx=> !x.1)&&(backToKw ZN (keywordEach [] X.env)).all (λx=>x.1.isSome)
  &&decide (([e]:G Xx).length+([]:G aaP).length+(if([]:G aaP).isEmpty then 0 else 1)<30))=S
 line:(apos.endLine==ZN.line)=S
 trees:backTo ZN (Xr [e] X.env)=[(U,eval e X.env)]
structure M2(X:Cx)(o:Xx)(m:Str)(apos:Pos)(e f:Xx)(ZN:Pos):Prop where
 base:attributeBase o m X.env (eval o X.env)=eval o X.env
 few:((backTo ZN (Xr [e,f] X.env)).all (λx=> !x.1)&&(backToKw ZN (keywordEach [] X.env)).all (λx=>x.1.isSome)
  &&decide (([e,f]:G Xx).length+([]:G aaP).length+(if([]:G aaP).isEmpty then 0 else 1)<30))=S
 line:(apos.endLine==ZN.line)=S
 trees:backTo ZN (Xr [e,f] X.env)=[(U,eval e X.env),(U,eval f X.env)]
def Vy(H:Hp)(a:M):Prop:=(∃b,Rd H a (.dK b))\/∃b,Rd H a (.dT b)
def Q2(I:Inv X pins σ H s)(d:Vy H a):
  s.TypeIs (.ref a) "dict"/\(∀b,WY.ref a=.ref b->∃c,s.heap.get? b=R c/\c.dict=P)/\(a==Ys)=U:=by
 rcases d with⟨i,e⟩|⟨i,e⟩
 .let(_,f,j,_,dd):=xb I.Yn e;show#[dd.typeIs,λb q=>?_,f];ext q;let(c,_,_,h,g,_):=dd;show#[c,h,g.2.1]
 .let(_,f,xs,_,dd):=wS I.Yn e;show#[dd.typeIs,λb q=>?_,f];ext q;let(c,_,_,h,g,_):=dd;show#[c,h,g.2.1]
def Hz(g ty:TE):TE:=λb H Q=>g b H λx f=>∃a,x=.ref a/\Vy f a/\ty b f λy e=>∃h k v,e a=R (.dK h)/\y=kV k/\jA h k=R v/\Q v (aR e a (.dK (my h k)))
section
variable{X:Cx}{o e f:Xx}{Z Y:Pos}{td ty tx:TE}
def Fm(B:PE X o td)(C:PE X e ty)(m:M1 X o "pop" Z e Y):PE X (.Call (.Attribute o "pop" Z) [e] [] Y) (Hz td ty):=by intro b s i H Q I h;show ahj m.base m.few m.line aay ac2 PySem.F.type_dict_pop (bU (B b s i H _ I h) λu q #[x,L,j,t,a,G,d,A]=>?_);subst G;obtain rfl:=t;let(p,n,_):=Q2 j d;show#[p,n,?_];rw[m.trees];show Calls.callWith_builtin W (Calls.evalArgs_plain (Calls.spliced_cons (bU (C b q i L _ j A) λP O #[y,T,K,r,XA,k,v,F,E,l,w]=>Calls.spliced_nil ?_)));subst E;show S5 K F r l (.inl W) λM N I3 g=>#[v,_,I3,g,w]
end
end L2
namespace L4
open PySem PySem.Spec PyProof.Rows L2 L3
def IJ(h:Heap)(e:M)(c:J)(d:I M)(a:J)(hd:I M):Prop:=
 ∃b fs,h.get? e=R b/\b.cls=c/\b.dict=d/\b.data=.fields fs/\fs[0]?=R a/\
  match hd with
  |none=>fs[1]?=R .none
  |some T=>fs[1]?=R (.ref T)/\T≠e/\∃g f,h.get? T=R g/\g.data=.fields f/\f[3]?=R .none
structure Lft(l:G Env)(e:M)(hd:I M)(h h':Heap):Prop where
 keep:∀b o,h.get? b=R o->b≠e->hd≠R b->b∉xt l->h'.get? b=R o
 slot:∀b o,h.get? b=R o->b≠e->hd≠R b->∃sl,h'.get? b=R {o with slots:=sl}
 here:∀b o,h.get? b=R o->∃o',h'.get? b=R o'
section
variable{M:adF}{A:XJ}{E:WY->W9->Prop}{s:W9}
def jc
  (I:A.frames=R (env::outer)) (B:s.heap.FunFrames base (env::outer)) (H:env.frame=R L) (C:s.heap.get? e=R ob) (p:ob.data=.fields fs) (m:1<fs.size) (J:fs[0]?=R a0)
  (k:∀D T,s.heap.objs.size<=T->IJ D e ob.cls ob.dict a0 (R T)->Lft (env::outer) e Ld s.heap D->Q ⟨⟩ {s with heap:=D}):
  wpAny M A (frameOf env>>=λfr=>entryPlaceOf L nx>>=λpl=>EntryCells.newEntry hv fr .none (rawInt L) .none pl>>=λb=>setField (.ref e) 1 b) (λ_ V=>wpAny M A (setFlight (.ref e) Ld) Q E V) E s:=by
 let j:e∉(env::outer).filterMap (·.frame):=λz=>by let(_,o,q,n):=B.mem z;rw[C]at q;ext q;show n fs p
 show lD (wpAny_frameOf_fun I B H λa S=>?_);show lD (wpAny_entryPlaceOf λpl P=>?_);unfold EntryCells.newEntry newFields;show lD (X9 ?_ (P.sizeOk5 _ _ _ _ _));let y:=(S.2.1 e j).trans C;generalize X:({cls:=.type "traceback",dict:=Ld,data:=.fields ([hv,.ref L,.none,rawInt L,.none]++(if pl.isEmpty then Xh 6 WY.none else pl)).toArray}:Obj)=N;let g:N.data=.fields ([hv,.ref L,.none,rawInt L,.none]++(if pl.isEmpty then Xh 6 WY.none else pl)).toArray:=by rw[<-X]
 let K:=cv g;let w:=b3 N y;show YS w p m ?_;let l:=Yt (b4 y);let r:=cn p (·.setIfInBounds 1 (WY.ref a.objs.size));let i:=b9 (Obj.mapFields (·.setIfInBounds 1 (WY.ref a.objs.size))) w (cv r)
 let u:=
  (b7 (a.push N) (Obj.mapFields (·.setIfInBounds 1 (WY.ref a.objs.size))) l.symm).trans (b5 a K)
 ext setFlight;show lD (X6 i r (x:=.ref a.objs.size) (by simp[m]) ?_);rw[ax (show(WY.ref a.objs.size !=WY.none)=WZ from by simp)];let t:3<([hv,.ref L,.none,rawInt L,.none]++(if pl.isEmpty then Xh 6 WY.none else pl)).toArray.size:=by simp only[Xo,Xf,Xk,Y5];ext
 show YS u g t ?_;let v:=b7 ((a.push N).update e (Obj.mapFields (·.setIfInBounds 1 (WY.ref a.objs.size)))) (Obj.mapFields (·.setIfInBounds 3 ((Ld:bt W7).elim WY.none λf=>rawInt f))) l;let F:=b9 (Obj.mapFields (·.setIfInBounds 3 ((Ld:bt W7).elim WY.none λf=>rawInt f))) u (cv (cn g _));let aaO:∀b o,b≠e->a.get? b=R o->(((a.push N).update e (Obj.mapFields (·.setIfInBounds 1 (WY.ref a.objs.size)))).update a.objs.size (Obj.mapFields (·.setIfInBounds 3 ((Ld:bt W7).elim WY.none λf=>rawInt f)))).get? b=R o:=λb o ne q=>by rw[b7 _ _ (Yt (b4 q)),b7 _ _ ne.symm];show b3 N q
 show k _ a.objs.size (by rw[S.1];show Xd _) #[_,_,v.trans i,Obj.cls_mapFields _ _,?_,r,?_,?_,l,_,_,F,cn g _,?_] #[λb o q ne _ G=>aaO b o ne ((S.2.1 b G).trans q),λb o q ne _=>?_,λb o q=>?_]
 .cases ob with
  |mk c d O h=>ext O<;>rfl
 .rw[abP ()];show J
 .simp[m]
 .rw[aa4 t];rfl
 .let(h,z):=S.2.2 b o q;show#[h,aaO b _ ne z]
 .by_cases ne:b=e
  .subst ne;show#[_,v.trans i]
  .let(h,z):=S.2.2 b o q;show#[_,aaO b _ ne z]
def De
  (v:A.frames=R (env::outer)) (u:s.heap.FunFrames base (env::outer)) (h:env.frame=R L) (F:IJ s.heap e c dx a0 hd)
  (k:∀x T,s.heap.objs.size<=T->IJ x e c dx a0 (R T)->Lft (env::outer) e hd s.heap x->Q ⟨⟩ {s with heap:=x}):wpAny M A (leaving env (.ref e)) Q E s:=by
 let(N,fs,q,I,H,d,w,r):=F;subst I H;cases hd with
 |none=>let r:=r;unfold leaving noteFrame;simp only[h];show lD (lD (X6 q d r ?_));rw[a4 ()];show jc v u h q d (Yg.mp r).1 w k
 |some T=>
  let(r,C,O,B,g,dT,p):=r;unfold leaving noteFrame;simp only[h];show lD (lD (X6 q d r ?_));rw[ax (show(WY.ref T !=WY.none)=S from by simp)];show lD (X6 g dT p ?_);rw[a4 (show¬((WY.none==rawInt L)=S)from by simp[rawInt])];show lD (YS g dT (Yg.mp p).1 ?_);let a:∀b,b≠T->(s.heap.update T (Obj.mapFields (·.setIfInBounds 3 WY.none))).get? b=s.heap.get? b:=λb ne=>b7 _ _ ne.symm;let f:=b9 (Obj.mapFields (·.setIfInBounds 3 WY.none)) g (cv (cn dT _));let m:∀b o,s.heap.get? b=R o->(∀X,o.data≠.fields X)->b≠T:=λb o z n y=>by rw[y,g]at z;ext z;show n B dT
  show jc v (u.of_keeps λb o z n=>#[o,(a b (m b o z n)).trans z,W]) h ((a e C.symm).trans q) d (Yg.mp r).1 w λx J t K i=>k x J (by rw[Heap.size_after_update]at t;show t) K #[λb o z l j G=>?_,λb o z l j=>?_,λb o z=>?_]
  .show i.keep b o ((a b λy=>j (by rw[y])).trans z) l (by simp) G
  .show i.slot b o ((a b λy=>j (by rw[y])).trans z) l (by simp)
  .by_cases y:b=T
   .subst y;show i.here b _ f
   .show i.here b o ((a b y).trans z)
end
theorem Lft.Yn{P:Xu}{w:XQ}{l:G Env}{e:M}{hd:I M}{H:Hp}{h d:Heap}(L:Lft l e hd h d)(m:HOk P w H h)(ne:H e=Ld)(i:∀T,hd=R T->H T=Ld)(j:∀b∈xt l,H b=Ld):HOk P w H d:=λb u q=>by
 let free:∀c v,H c=R v->c≠e/\hd≠R c/\c∉xt l:=λc v z=>#[(λy=>by rw[y,ne]at z;ext z),(λy=>by rw[i c y]at z;ext z),(λy=>by rw[j c y]at z;ext z)];show(m b u q).aaO (λc v n z=>?_) (λ_ z=>z) λ_ _ z=>z;rcases n with y|y
 .rw[y]at z⊢;let(g,f,a):=free b u q;show L.keep b v z g f a
 .let(g,f,a):=free c _ y;show L.keep c v z g f a
def lu(P:Xu)(w:XQ):uX:=λa H s E x b=>
 ∃e c f a0 T H',x=.ref e/\s.heap.get? e=Ld/\s.heap.get? T=Ld/\IJ b.heap e c f a0 (R T)/\H' e=Ld/\H' T=Ld/\
  b.os=s.os/\AllBare b.gens/\Un (xt a) [] H H' s.heap b.heap/\HOk P w H' b.heap/\E c f H'
def NP{P:Xu}{w:XQ}{K:CL}{k:Str->bt WY}{base:Heap}{N:bg Str}{i:Str}{a:Y9}{f:W7}{v:WY}{A:XJ}{outer:bg Env}{g:W9}{G:Hp}{E:XK}
  {l:bg (W7×Obj)} {J:L2.St} {H:Hp} {s:W9} {e:W7} {c C:WY} {d hd:bt W7} (I:L2.Inv (fC (lu P w) P w K k base N i a f v A outer g G E) l J H s)
  (F:IJ s.heap e c d C hd) (u:g.heap.get? e=Ld) (S:∀T,hd=cL T->g.heap.get? T=Ld) (ne:H e=Ld) (Q:∀T,hd=cL T->H T=Ld) (q:E c d H):
  (fC (lu P w) P w K k base N i a f v A outer g G E).xe (.ref e) s:=by
 let Z:=I.ok.frames;let Y:=I.stack;show De (L:=g.heap.objs.size) Z Y W F λh' T t F' L=>?_;let R:=L.Yn I.Yn ne Q I.acd;let X:H T=Ld:=I.Yn.fresh t;let p:∀b o,g.heap.get? b=cL o->b<g.heap.objs.size:=λb o z=>b4 z;let h:∀b o,g.heap.get? b=cL o->b≠e/\hd≠cL b:=λb o z=>#[(λy=>by rw[y,u]at z;ext z),(λy=>by rw[S b y]at z;ext z)];let sz:=I.sz;show#[e,c,d,C,T,H,W,u,ck (XT sz t),F',ne,X,I.os,I.bare,?_,R,q];let B:=I.base;show#[λb o z n r _=>?_,λb o z n U _=>?_,λb o z n _=>?_,λb o z _=>?_,B.ab4,B.abM,B.ab6]
 .let j:=B.keep b o z n r (λy=>nomatch y)
  show L.keep b o j (h b o z).1 (h b o z).2 λy=>?_;rcases Xt.mp (I.abN b y)with y|y
  .let y:b=g.heap.objs.size:=y;show bb (p b o z) (by rw[y];show YJ _)
  .show r y
 .let(sl,j):=B.slot b o z n U (λy=>nomatch y);let(m,M):=L.slot b _ j (h b o z).1 (h b o z).2;show#[m,M]
 .show B.free b o z n (λy=>nomatch y)
 .let(O,j):=B.there b o z (λy=>nomatch y);show L.here b O j
def DQ{P:Xu}{w:XQ}{K:CL}{d:Str->bt J}{base:Heap}{N:G Str}{g:Str}{a:Y9}{f:M}{l:J}{A:XJ}{outer:G Env}{h:W9}{p:Hp}{E:XK}:
  dW (lu P w) (fC (lu P w) P w K d base N g a f l A outer h p E) E:=by
 rintro j r H s x t I ⟨e,c,Q,v,T,B,rfl,le,L,F,ne,C,os,bare,un,Yn,q⟩;let n:=I.afi (ch:=[]) os un Yn bare (λb z=>nomatch z);let old:∀b,s.heap.get? b=Ld->h.heap.get? b=Ld:=λb z=>by
  cases y:h.heap.get? b with
  |none=>rfl
  |some o=>let(u,i):=I.base.there b o y (λy=>nomatch y);rw[z]at i;ext i
 show NP n F (old e le) (λm z=>by ext z;show old T L) ne (λm z=>by ext z;show C) q
def Pp(x:ObjOk b w H h a o):∃c,h.get? a=R c:=by
 cases o with
 |lst xs=>let(_,_,_,_,e):=x;show#[_,e]
 |tup xs=>let(_,_,_,c,e,_):=x;show#[c,e]
 |dK i=>let(_,_,_,_,o,_,_,e,_):=x;show#[o,e]
 |dT i=>let(_,_,_,_,o,_,_,e,_):=x;show#[o,e]
 |set S n=>let(o,_,_,_,e,_):=x;show#[o,e]
 |ins C m fs=>let(_,_,_,e,_):=x;show#[_,e]
 |own y=>show x
 |xd fs=>let(_,(o,_,_,e,_),_):=x;show#[o,e]
 |rng lo l=>let(_,_,_,e):=x;show#[_,e]
 |frz c u=>show#[c,x.1]
 |tbl j=>show#[_,x]
 |met f y=>show#[_,x]
 |ext g=>show x.2.1
 |exw g=>show x.2.1
def wj(k:HOk e w H h)(n:h.get? a=Ld):H a=Ld:=by
 cases q:H a with
 |none=>rfl
 |some o=>let(b,z):=Pp (k a o q);rw[n]at z;ext z
section
variable{M:adF}{A:XJ}{E:WY->W9->Prop}{s:W9}
def IT{base:Heap}{env:Env}{outer:bg Env}{L e:W7}{c B:WY}{D hd:bt W7}{Q:Unit->W9->Prop}
  (v:A.frames=R (env::outer)) (u:s.heap.FunFrames base (env::outer)) (h:env.frame=R L) (F:IJ s.heap e c D B hd)
  (k:∀x T,s.heap.objs.size<=T->IJ x e c D B (R T)->Lft (env::outer) e hd s.heap x->Q ⟨⟩ {s with heap:=x}):
  wpAny M A (noteFrame (.ref e) env) (λ_ s2=>wpAny M A (setFlight (.ref e) Ld) Q E s2) E s:=by
 let(O,fs,q,J,I,d,w,r):=F;subst J I;cases hd with
 |none=>let r:fs[1]?=R .none:=r;ext noteFrame;simp only[h];show lD (X6 q d r ?_);rw[a4 ()];show jc v u h q d (Yg.mp r).1 w k
 |some T=>
  let(r,G,P,C,g,dT,p):=r;ext noteFrame;simp only[h];show lD (X6 q d r ?_);rw[ax (show(WY.ref T !=WY.none)=S from by simp)];show lD (X6 g dT p ?_);rw[a4 (show¬((WY.none==rawInt L)=S)from by simp[rawInt])];show lD (YS g dT (Yg.mp p).1 ?_);let a:∀b,b≠T->(s.heap.update T (Obj.mapFields (·.setIfInBounds 3 WY.none))).get? b=s.heap.get? b:=λb ne=>b7 _ _ ne.symm;let f:=b9 (Obj.mapFields (·.setIfInBounds 3 WY.none)) g (cv (cn dT _));let m:∀b o,s.heap.get? b=R o->(∀X,o.data≠.fields X)->b≠T:=λb o z n y=>by rw[y,g]at z;ext z;show n C dT
  show jc v (u.of_keeps λb o z n=>#[o,(a b (m b o z n)).trans z,W]) h ((a e G.symm).trans q) d (Yg.mp r).1 w λx K t N i=>k x K (by rw[Heap.size_after_update]at t;show t) N #[λb o z l j H=>?_,λb o z l j=>?_,λb o z=>?_]
  .show i.keep b o ((a b λy=>j (by rw[y])).trans z) l (by simp) H
  .show i.slot b o ((a b λy=>j (by rw[y])).trans z) l (by simp)
  .by_cases y:b=T
   .subst y;show i.here b _ f
   .show i.here b o ((a b y).trans z)
def Rp{e T:W7}{c l:J}{y:I W7}{Q:Unit->W9->Prop}(F:IJ s.heap e c y l (R T))
  (k:∀x,IJ x e c y l (R T)->(∀b,b≠T->x.get? b=s.heap.get? b)->(∃o,x.get? T=R o)->Q ⟨⟩ {s with heap:=x}):wpAny M A (setFlight (.ref e) P) Q E s:=by
 let(n,fs,q,t,p,d,u,r,j,w,v,i,dT,m):=F;ext setFlight;show lD (X6 q d r ?_);rw[ax (show(WY.ref T !=WY.none)=S from by simp)];let h:=(Yg.mp m).1;show YS i dT h ?_;let g:∀b,b≠T->(s.heap.update T (Obj.mapFields (·.setIfInBounds 3 ((P:I W7).elim WY.none λf=>rawInt f)))).get? b=s.heap.get? b:=λb ne=>b7 _ _ ne.symm;let a:=b9 (Obj.mapFields (·.setIfInBounds 3 ((P:I W7).elim WY.none λf=>rawInt f))) i (cv (cn dT _));show k _ #[n,fs,(g e j.symm).trans q,t,p,d,u,r,j,_,_,a,cn dT _,?_] g #[_,a];rw[aa4 h];rfl
end
section
variable{P:Xu}{w:XQ}{K:CL}{mg:Str->bt WY}{base:Heap}{N:bg Str}{qual:Str}{scope:Y9}{f:W7}{cd:WY}{A:XJ}{outer:bg Env}{s0:W9}{H0:Hp}{E:XK}{CX:uX}
  {σ:L2.St} {H:Hp} {s:W9} {h':Heap} {X:Cx}
def wV(I:L2.Inv X [] σ H s)(S:W7->Prop)(J:X.ex=[])(C:∀p∈X.pn,¬S p.1)(keep:∀b o,s.heap.get? b=cL o->¬S b->b∉xt X.stack->h'.get? b=cL o)
  (slot:∀b o,s.heap.get? b=cL o->¬S b->∃d,h'.get? b=cL {o with slots:=d}) (j:∀b o,s.heap.get? b=cL o->∃k,h'.get? b=cL k)
  (U:∀b,S b->X.s₀.heap.get? b=Ld) (Q:¬S X.env.locals) (T:∀x c,X.env.cells.lookup x=cL c->¬S c) (R:∀b,S b->H b=Ld):L2.Inv X [] σ H {s with heap:=h'}:=by
 let M:∀b o,X.s₀.heap.get? b=cL o->¬S b:=λb o z y=>by rw[U b y]at z;ext z
 let h:∀b,b∉X.ex:=λb z=>by rw[J]at z;ext z
 let B:=I.base;let a:∀x c,X.env.cells.lookup x=cL c->∀v,s.heap.IsCell c v->h'.IsCell c v:=λx c z v #[o,G,L]=>by let(d,q):=slot c o G (T x c z);show#[_,q,L]
 show#[I.ok,I.os,I.bare,#[λb o z n g _=>?_,λb o z n Z _=>?_,λb o z n x=>B.free b o z n x,λb o z x=>?_,B.ab4,B.abM,B.ab6],?_,λx c z=>?_,I.free,I.Z5,λp F=>?_,λb u q=>?_,I.len]
 .let e:=B.keep b o z n g (h b)
  show keep b o e (M b o z) λy=>?_;rcases Xt.mp (I.abN b y)with y|y
  .rw[y]at z;show bb (b4 z) (Nat.not_lt_of_le I.ok.above)
  .show g y
 .let(d,e):=B.slot b o z n Z (h b);let(t,O):=slot b _ e (M b o z);show#[t,O]
 .let(k,e):=B.there b o z x;show j b k e
 .let(m,hn,Y):=I.loc
  let(o,es,ep,G,L,r):=hn;let(d,q):=slot _ o G Q;show#[m,#[_,es,ep,q,L,r],λi x v a1 a2 a3=>?_];let(u,rv,l):=Y i x v a1 a2 a3;show#[u,rv,?_];rcases l with l|⟨kd,c,z,y⟩
  .show .inl l
  .show .inr #[kd,c,z,a x c z _ y]
 .let(v,y):=I.cell x c z;show#[v,a x c z v y]
 .let(z,n,ne,g,dd):=I.pin p F
  rw[X2]at F;show#[keep p.1 p.2 z (C p F) (λy=>?_),n,ne,g,dd];rcases Xt.mp (I.abN _ y)with y|y
  .show ne y
  .show g y
 .let free:∀c v,H c=cL v->¬S c/\c∉xt X.stack:=λc v z=>#[(λy=>by rw[R c y]at z;ext z),(λy=>by rw[I.acd c y]at z;ext z)]
  show(I.Yn b u q).aaO (λc v hc z=>?_) (λ_ z=>z) λ_ _ z=>z;rcases hc with y|y
  .rw[y]at z⊢;show keep b v z (free b u q).1 (free b u q).2
  .show keep c v z (free c _ y).1 (free c _ y).2
end
section
variable{M:adF}{A:XJ}{E:WY->W9->Prop}{h:Heap}{g:Array aba}{d:aeG}{t:Nat}{os:adw}
def GB{C U e:W7}{j:Obj}{B w y v:Str}{D z:W7}{b1 l x a:bg WY}{c Z:Bool}{u r:bg Str}{q p:bg WY}{a1 a2:Bool}{s k:bt Bool}{o n:bt W7}{P O N L K J I H G F:bt WY}{f b:String}{Q:Bool->W9->Prop}
  (Y:h.get? C=cL (excClassObj B w C D b1 l c u q a1 s o P O N L K f)) (m:h.get? U=cL (excClassObj y v U z x a Z r p a2 k n J I H G F b)) (S:h.get? e=cL j) (T:j.cls=.ref C)
  (X:a.contains (.type "BaseException")=WZ) (hm:(WY.ref C::l).contains (.ref U)=WZ) (R:Q WZ #[h,g,d,t,os]):wpAny M A (excMatches (.ref e) (.ref U)) Q E #[h,g,d,t,os]:=by
 let i:(WY.ref U::a).contains (.type "BaseException")=WZ:=by rw[aao,X,aaR]
 let ft:=tc_notTuple;ext excMatches
 repeat (first|(specialize YU S ?_;rw[T])|specialize YU m ?_|(specialize ZQ m ?_;rw[i])|(specialize ZQ Y ?_;rw[hm])|wp_step)
 show R
end
abbrev Cx.marked(X:Cx)(e:M):Cx:={X with A:=X.A.mark (R (.ref e)),calm:=U,xe:=λ_ _=>False}
section
variable{X:Cx}{Z:L2.St}{H:Hp}{s:W9}{Y:Heap}{e:W7}
theorem rD(I:L2.Inv X [] Z H s)(e:M):L2.Inv (Cx.marked X e) [] Z H s:=
 #[#[I.ok.mod,I.ok.kind,I.ok.glob,I.ok.blt,I.ok.above,I.ok.inj,I.ok.has,I.ok.cab,(λz=>nomatch z),I.ok.frames,I.ok.stk,I.ok.exf,I.ok.bs,I.ok.bsz,I.ok.adu,I.ok.adj,I.ok.abm,I.ok.frf],I.os,I.bare,I.base,I.loc,I.cell,I.free,I.Z5,I.pin,I.Yn,I.len]
theorem rJ(ok:X.Ok)(I:L2.Inv (Cx.marked X e) [] Z H s):L2.Inv X [] Z H s:=
 #[ok,I.os,I.bare,I.base,I.loc,I.cell,I.free,I.Z5,I.pin,I.Yn,I.len]
def Cq(I:L2.Inv X [] Z H s){g:Obj}(h:∀p∈X.pn,p.1≠e)(q:s.heap.get? e=R g)(ne:H e=P)(t:X.s₀.heap.get? e=P)(l:e≠X.env.locals)(m:∀x c,X.env.cells.lookup x=R c->c≠e):L2.Inv X [] Z (aR H e (.frz g (.own e))) s:=by
 let j:∀b o,X.s₀.heap.get? b=R o->b≠e:=λb o z y=>by rw[y,t]at z;ext z
 let a:∀b o,H b=R o->b≠e:=λb o z y=>by rw[y,ne]at z;ext z
 let B:=I.base;show#[I.ok,I.os,I.bare,#[B.keep,B.slot,λb o z n x=>?_,B.there,λb xs z=>?_,λb o u z=>?_,λb v z=>?_],I.loc,I.cell,?_,λx c z=>?_,λp i=>?_,λb u z=>?_,I.len]
 .rw[ar (j b o z)];show B.free b o z n x
 .let:=B.ab4 b xs z;rw[ar (a b _ this)];show this
 .let:=B.abM b o u z;rw[ar (a b _ this)];show this
 .let(f,y):=B.ab6 b v z;show#[f,by rw[ar (a b _ y)];show y]
 .rw[ar l.symm];show I.free
 .rw[ar (m x c z)];show I.Z5 x c z
 .let(z,n,r):=I.pin p i;rw[X2]at i;show#[z,by rw[ar (h p i)];show n,r]
 .by_cases y:b=e
  .subst y;rw[ay]at z;ext z;show#[q,g,q]
  .rw[ar y]at z;show(I.Yn b u z).aaO (λ_ _ _ y=>y) (λc y=>by rw[ar (a c _ y)];show y) λc xs y=>by rw[ar (a c _ y)];show y
def t6{M:adF}{A:XJ}{E:J->W9->Prop}(I:L2.Inv X [] Z H s){n:Str}{i:Nat}{pos:Pos}{Q:Unit->W9->Prop}(D:X.N.Nodup)(l:X.N[i]?=R n)(d:X.env.kindOf n=R .local)
  (k:∀h,L2.Inv X [] (Z.set i P) H h->Q ⟨⟩ h):wpAny M A (do bindName X.env n .none;unbindBehindTheSuite X.env n pos) Q E s:=by
 let(m,hn,hl):=id I.loc;let g:(X.env.scope.kind==.class||(X.env.scope.kind==.module&&X.env.locals !=X.env.globals))=U:=by rw[I.ok.kind];rfl
 show wpAny_nameGoes_keeps d hn g λh2 v hm S=>k _ ?_;let B:=I.base;let cne:=I.cne;let old:∀b o,X.s₀.heap.get? b=R o->h2.get? b=s.heap.get? b:=λb o z=>S.2 b (Xy (Xz (b4 z) I.ok.above));let f:i<Z.length:=by rw[I.len];show(W2.mp l).1
 show#[I.ok,I.os,I.bare,#[λb o z n nf x=>(old b o z).trans (B.keep b o z n nf x),λb o z n hf x=>?_,B.free,λb o z x=>?_,B.ab4,B.abM,B.ab6],#[_,hm,λj y t a1 a2 a3=>?_],λy c z=>?_,I.free,I.Z5,λp hp=>?_,λb u z=>?_,by rw[Yc];show I.len]
 .let(L,y):=B.slot b o z n hf x;show#[L,(old b o z).trans y]
 .let(T,y):=B.there b o z x;show#[T,(old b o z).trans y]
 .by_cases hj:j=i
  .subst hj;rw[Ye f]at a2;ext a2
  .rw[XD (c9 hj)]at a2
   let(C,N,q):=hl j y t a1 a2 a3;show#[C,N,?_];rcases q with⟨kd,z⟩|⟨kd,c,z,w⟩
   .show .inl #[kd,?_];let:y≠n:=λz=>hj (rO D a1 (z▸l));simp[this,z]
   .show .inr #[kd,c,z,w.sameBut S (cne y c z)]
 .let(w,a):=I.cell y c z;show#[w,a.sameBut S (cne y c z)]
 .let(z,n,ne,r):=I.pin p hp;show#[(S.2 p.1 ne).trans z,n,ne,r]
 .let free:∀c u,H c=R u->c≠X.env.locals:=λc u z y=>by rw[y,I.free]at z;ext z
  show(I.Yn b u z).aaO (λc w hc y=>(S.2 c ?_).trans y) (λ_ y=>y) λ_ _ y=>y;rcases hc with a|a
  .rw[a];show free b u z
  .show free c _ a
end
def z7(K:CL)(C:M)(m:G J):Prop:=∃nm q N bs hd sn sub b col dd a k1 k2 k3 k5 id,K.lookup C=R (excClassObj nm q C N bs m hd sn sub b col dd a k1 k2 k3 k5 id)
structure Apart(X:Cx)(a:M):Prop where
 n0:X.s₀.heap.get? a=P
 nL:a≠X.env.locals
 nC:∀y c,X.env.cells.lookup y=R c->c≠a
 nP:∀p∈X.pn,p.1≠a
def sr(I:L2.Inv X pins σ H s)(e:X.ex=[])(n:s.heap.get? a=P):Apart X a:=by
 let ne:∀b o,s.heap.get? b=R o->b≠a:=λb o z y=>by rw[y,n]at z;ext z
 show#[?_,?_,λy c z=>?_,λp h=>?_]
 .cases z:X.s₀.heap.get? a with
  |none=>rfl
  |some o=>let(g,y):=I.base.there a o z (by rw[e];simp);show bb W (ne a g y)
 .let(m,(o,_,_,z,_),_):=I.loc;show(ne _ o z).symm
 .let(v,o,f,_):=I.cell y c z;show ne c o f
 .show ne _ _ (I.pin p (Yd _ h)).1
abbrev Cx.pinned(X:Cx)(l:G (M×Obj)):Cx:={X with pn:=l}
theorem JU(I:L2.Inv X pins σ H s):L2.Inv (Cx.pinned X (X.pn++pins)) [] σ H s:=
 #[#[I.ok.mod,I.ok.kind,I.ok.glob,I.ok.blt,I.ok.above,I.ok.inj,I.ok.has,I.ok.cab,I.ok.hd,I.ok.frames,I.ok.stk,I.ok.exf,I.ok.bs,I.ok.bsz,I.ok.adu,I.ok.adj,I.ok.abm,I.ok.frf],I.os,I.bare,I.base,I.loc,I.cell,I.free,I.Z5,(λp a=>I.pin p (by rw[X2]at a;show a)),I.Yn,I.len]
theorem gP(ok:X.Ok)(I:L2.Inv (Cx.pinned X (X.pn++pins)) [] σ H s):L2.Inv X pins σ H s:=
 #[ok,I.os,I.bare,I.base,I.loc,I.cell,I.free,I.Z5,(λp a=>I.pin p (by rw[X2];show a)),I.Yn,I.len]
end L4
namespace L4
open PySem PySem.Spec PySem.W PyProof.Rows L2 L3
section
variable{X:Xu}{w:XQ}{A:XJ}{E:WY->W9->Prop}{h:Heap}{g:Array aba}{d:aeG}{t:Nat}{T:adw}{a C:W7}{o:Obj}{K:CL}
  {N L:Str} {B:W7} {y Z:bg WY} {v:Bool} {u:bg Str} {r:bg WY} {q:Bool} {p:bt Bool} {n:bt W7} {l i1 i2 i3 i5:bt WY} {Y:String}
def yS{M:adF}{b:J}{Q:Unit->W9->Prop}(j:h.get? C=R (excClassObj N L C B y Z v u r q p n l i1 i2 i3 i5 Y))(i:Z.contains (.type "BaseException")=S)
  (e:h.get? a=R o) (f:o.cls=.ref C) (k:Q ⟨⟩ #[h,g,d,t,T]):wpAny M A (checkBuiltinCall "BaseException.__getattribute__" #[[.ref a,b],[]]) Q E #[h,g,d,t,T]:=by
 let e1:builtinKind "BaseException.__getattribute__"=R .slot:=by left
 let e2:splitId "BaseException.__getattribute__"=R ("BaseException","__getattribute__"):=by left
 let e3:(WY.ref C::Z).contains (.type "BaseException")=S:=by rw[aao,i,aaR]
 let e4:=F.args_bexc_ga (.ref a) b;simp only[checkBuiltinCall,e1,e2];show lD ?_;ext isInstance
 repeat (first|(specialize YU e ?_;rw[f])|(specialize ZQ j ?_;rw[e3])|wp_step)
 show k
structure ad4(K:CL)(C:M)(m:G J):Prop where
 cl:z7 K C m
 be:m.contains (.type "BaseException")=S
 ga:findIn K (.ref C) "__getattribute__"=R (R (.builtin "BaseException.__getattribute__"))
 gt:findIn K (.ref C) "__getattr__"=R P
 cs:findIn K (.ref C) "__class__"=R (R (.builtin "object.__class__"))
 ob:mroIn K C (.type "object")=R S
end
end L4
namespace HT
open PySem PySem.Spec PyProof.Rows
section
variable{Y:Xu}{w:XQ}{A:XJ}{E:WY->W9->Prop}{s:W9}
def getItem_tuple_all{t e:M}{a:Array J}{n l:J}{lo c:I Int}{Q:J->W9->Prop}(b:IsTup s.heap t a)(p:s.heap.IsSliceOf e n l .none)(pl:abE n lo)(q:abE l c)
  (o:sIx a.size 0 lo=0/\sIx a.size a.size c=a.size) (h:Q (.ref t) s):wpAny (model Y w) A (getItem (.ref t) (.ref e)) Q E s:=by
 let(r,f,g,u):=id p;let i:s.TypeIs (.ref e) "slice":=#[r,f,g];ext getItem
 try specialize Yp ?_
 first|show lD (W6 ?_)|skip
 show lD (ahh b.typeIs () ?_);show lD (Yk (name:=Str.ofString "__getitem__") b.typeIs Yl
  (Yq Yl b.typeIs entry_tuple_getitem ?_ (args_tuple_getitem _ _)))
 show wpAny _ _ (XN.Tuple.tupleItemsOf (.ref t)>>=_) _ _ s;show lD (tupleItemsOf_ b ?_);show lD (aax i ?_);rw[ax ()];show lD (iY p pl q ?_);let j:((((sIx a.size 0 lo:Nat):Int)==0&&(1:Int)==1&&(sIx a.size a.size c - sIx a.size 0 lo)==a.size)=S):=by rw[o.1,o.2];simp
 show wpAny _ _ (if(((sIx a.size 0 lo:Nat):Int)==0&&(1:Int)==1&&(sIx a.size a.size c - sIx a.size 0 lo)==a.size)=S then _ else _) _ _ s;rw[ax j];show lD (m:=XN.Tuple.tupleIsExact _) ?_;ext XN.Tuple.tupleIsExact;show lD (aax b.typeIs (W6 ?_));rw[ax ()];show lD (abi ?_);show W6 #[_,W,W6 h]
end
end HT
namespace L3
open PySem PySem.Spec PyProof.Rows L2
def T8(K:CL):V->I Int->I Int->Hp->VK->Prop:=λx lo b H Q=>∃(a:M) (xs:G V),x=.ref a/\SqT K H a xs/\(HT.sIx xs.length 0 lo=0/\HT.sIx xs.length xs.length b=xs.length)/\Q (.ref a) H
def HY{X:Cx}:Np X (T8 X.K):=by
 intro e s o H x v t p lo y u Q I g m pl i h;let(a,xs,rfl,j,l,q):=h;ext g;let(n,r,f,w):=I.tuple j;let b:n.toArray.size=xs.length:=by rw[Xo];show r.length.symm
 show#["tuple",_,Yl.lookup,f.typeIs,?_];show HT.getItem_tuple_all f m pl i (by rw[b];show l) #[.ref a,H,I,W,q]
def SI(K:CL):V->I Int->I Int->Hp->VK->Prop:=λx lo a H Q=>O8 K x lo a H Q\/T8 K x lo a H Q
def Lb{X:Cx}:Np X (SI X.K):=by
 intro a s b H x v f e lo l g Q I h j pl i q;rcases q with q|q
 .show Gp a s b H x v f e lo l g Q I h j pl i q
 .show HY a s b H x v f e lo l g Q I h j pl i q
def UK:D->I Int->I Int->I RV
 |.list ds,lo,a=>R (.ow (nF ds lo a))
 |.tuple ds,lo,a=>R (.fz (.tuple (nF ds lo a)))
 |_,_,_=>P
def Jx{ds:G D}{lo a:I Int}(h:HT.sIx ds.length 0 lo=0/\HT.sIx ds.length ds.length a=ds.length):nF ds lo a=ds:=by ext nF;rw[h.1,h.2,acH,adM,Z6]
def SB{K:CL}:Sv K (SI K) UK:=by
 intro O H x lo i l j Q n b e q;cases l with
 |list ds=>show .inl (u7 O H x lo i _ j Q n b e q)
 |tuple ds=>
  ext e;by_cases f:HT.sIx ds.length 0 lo=0/\HT.sIx ds.length ds.length i=ds.length
  .let(a,xs,rfl,h,g):=DB b;rw[Jx f]at q;show .inr #[a,xs,W,h.1,by rw[g.length];show f,q.at (.tup h g)]
  .show .inl (u7 O H x lo i (.tuple ds) _ Q n b ?_ q)
   show(if jS ds.length lo i=S then P else R (RV.fz (.tuple (nF ds lo i))))=_;let z:jS ds.length lo i=U:=by ext jS;show a6 f
   rw[z,a4 Xp]
 |_=>ext e
section
variable{K:CL}{E:XK}
end
end L3
namespace L9
open PySem PySem.Spec PyProof.Rows
section
variable{M:adF}{A:XJ}{E:WY->W9->Prop}{Y:Env}
variable{nm q:Str}{C N:W7}{bs Z:bg WY}{hdct:Bool}{sn:bg Str}{sub:bg WY}{ab:Bool}{col:bt Bool}{dd:bt W7}{k0 k1 k2 k3 k5:bt WY}{newId:String}
def iJ(i:Z.contains (.type "BaseException")=S)(o:A.handled=P)
  (h:wpAny M A x (λv c=>∃e k,v=.ref e/\c.heap.get? C=R (excClassObj nm q C N bs Z hdct sn sub ab col dd k0 k1 k2 k3 k5 newId)/\c.heap.get? e=R k/\k.cls=.ref C/\(∃fs,k.data=.fields fs/\fs[1]?=R WY.none)/\E (.ref e) c) E s):
  wpAny M A (raiseStmt Y (R x) P) Q E s:=by
 let f:(WY.ref C::Z).contains (.type "BaseException")=S:=by rw[aao,i,aaR]
 ext raiseStmt;show lD (wpAny_mono h (λv c a=>?_) λ_ _ x=>x);let(e,k,rfl,m,p,l,(fs,j,b),r):=a;let(y,w,n):=k;dsimp only at l j;subst l j;let(B,g,d,t,u):=c
 repeat (first|specialize YU p ?_|specialize YU m ?_|(specialize ZQ m ?_;rw[f])|wp_step)
 rw[b]
 repeat wp_step
 show agb o r
end
section
variable{prog:Xu}{w:XQ}{A:XJ}{E:WY->W9->Prop}{h:Heap}{g:Array aba}{d:aeG}{t:Nat}{os:adw}
variable{nm q:Str}{C N:W7}{bs S Z:bg WY}{hdct:Bool}{sn:bg Str}{sub:bg WY}{ab:Bool}{col:bt Bool}{dd:bt W7}{k0 k1 k2 k3 k5:bt WY}{B P L Y R X:String}{U:bg WY}
def pd(Fn:Z8 P L X U)(j:Z.contains (.type P)=WZ)(F:Z8 B Y R Z)(T:ahk h Z S)
  (i:h.get? C=cL (excClassObj nm q C N bs S hdct sn sub ab col dd k0 k1 k2 k3 k5 L)) (s:h.Ns N mN) (z:mN "__init__"=cL (.ref fI)) (p:h.get? fI=cL oI) (n:oI.cls=.type "function")
  (G:∀k e,Heap.MadeExcOf h k e (.ref C) rest->wpAny (model prog w) A (call (.ref fI) (.ref e::rest)) (λr c=>r=.none/\Q (.done (.ret (.ref e))) c) E #[k,g,d,t,os]) (hrest:rest.length<=Xi):
  wpAny (model prog w) A (XN.«type.__call__» #[.ref C::rest,[]]) Q E #[h,g,d,t,os]:=by
 repeat (first|specialize YU i ?_|specialize wpAny_madeBy_exc i ?_|wp_step)
 show codeAny_call_builtin_code (adH.quiet_builtin _ Fn.quiet) (wpAny_check_new_subU Fn j T i ?_);show codeAny_exc_new_subU Fn j F T i ?_ hrest
 let a:=b3 {cls:=.ref C,data:=.fields #v[.ref h.objs.size,.none,.none,.none,.bool W3,.none]}
  (b3 {cls:=.type "tuple",data:=.seq rest.toArray} i)
 let v:=b3 {cls:=.ref C,data:=.fields #v[.ref h.objs.size,.none,.none,.none,.bool W3,.none]}
  (b3 {cls:=.type "tuple",data:=.seq rest.toArray} p)
 let f:((h.push {cls:=.type "tuple",data:=.seq rest.toArray}).push {cls:=.ref C,data:=.fields #v[.ref h.objs.size,.none,.none,.none,.bool W3,.none]}).Ns N mN:=
  let#[o,es,ep,e,r]:=s;#[o,es,ep,b3 _ (b3 _ e),r]
 let l:((h.push {cls:=.type "tuple",data:=.seq rest.toArray}).push
   {cls:=.ref C,data:=.fields #v[.ref h.objs.size,.none,.none,.none,.bool W3,.none]}).get? (h.objs.size+1)=cL
   {cls:=.ref C,data:=.fields #v[.ref h.objs.size,.none,.none,.none,.bool W3,.none]}:=by heap_get
 let u:(WY.ref C::S).contains (.ref C)=WZ:=by simp
 let m:=T.keeps (h':=(h.push {cls:=.type "tuple",data:=.seq rest.toArray}).push {cls:=.ref C,data:=.fields #v[.ref h.objs.size,.none,.none,.none,.bool W3,.none]})
  λb o e=>b3 _ (b3 _ e)
 ext isInstance
 repeat (first|specialize YU l ?_|(specialize ZQ a ?_;rw[u])|wp_step)
 show wpAny_typeLookup_tail a f m F.mroIs F.init.lookup ?_;rw[z];show Yp (lD ?_);ext bindSpecial;show lD (aax #[_,v,n] ?_);rw[ax ()];show W6 (lD (wpAny_mono (G _ (h.objs.size+1) #[λb o H=>b3 _ (b3 _ H),ck (Z9 _),h.objs.size,l,ck (Xd _),?_]) (λr c y=>?_) λ_ _ x=>x))
 .show b3 _ (Heap.get?_push_at W W)
 .let(rfl,I):=y
  wp_walk
  show I
def yq(Fn:Z8 P L X U)(i:Z.contains (.type P)=WZ)(F:Z8 B Y R Z)(T:ahk h Z S)
  (a:h.get? C=cL (excClassObj nm q C N bs S hdct sn sub ab col dd k0 k1 k2 k3 k5 L)) (p:h.Ns N mN) (s:mN "__init__"=cL (.ref fI)) (f:h.get? fI=cL o) (b:o.cls=.type "function")
  (j:∀c e,Heap.MadeExcOf h c e (.ref C) rest->wpAny (model prog w) (A.under (.builtin "type.__call__" #[.ref C::rest,[]])) (call (.ref fI) (.ref e::rest)) (λr k=>r=.none/\Q (.ref e) k) E #[c,g,d,t,os]) (hrest:rest.length<=Xi):
  wpAny (model prog w) A (call (.ref C) rest) Q E #[h,g,d,t,os]:=by
 let n:=tc_lookup;let m:=tc_bind (.ref C);let l:(#[h,g,d,t,os]:W9).TypeIs (.ref C) "type":=#[_,a,W];show aaI (codeAny_of_tree ?_)
 repeat (any_goals (first|assumption|specialize YU a ?_|wp_step))
 show#[W,?_];show codeAny_call_builtin_at (adH.quiet_builtin _ (by left)) entry_typeCall (wpAny_check_type_call_sub a (pd (hrest:=hrest) Fn i F T a p s f b λc e hm=>?_));show j c e hm
end
section
variable{prog:Xu}{w:XQ}{A:XJ}{E:WY->W9->Prop}{s:W9}{env:Env}
variable{nm q:Str}{C N:W7}{bs Y Z:bg WY}{hdct:Bool}{sn:bg Str}{sub:bg WY}{ab:Bool}{col:bt Bool}{dd:bt W7}{k0 k1 k2 k3 k5:bt WY}{B Bn newId X R U:String}{S:bg WY}
def xB(Fn:Z8 Bn newId U S)(u:Z.contains (.type Bn)=WZ)(F:Z8 B X R Z)
  (m:Y.contains (.type "BaseException")=WZ) (p:A.handled=Ld) (y:(backTo ZN (Xr args env)).any (·.1)=W3) (hi:mN "__init__"=cL (.ref fI)) (t:oI.cls=.type "function")
  (h:wpAny (model prog w) A (eval (.Name x np) env) (λf k=>f=.ref C/\wpAny (model prog w) A (evalArgs (.ref C) WZ (backTo ZN (Xr args env)) [])
   (λa c=>a.kw=[]/\a.pos.length<=Xi/\c.heap.get? C=cL (excClassObj nm q C N bs Y hdct sn sub ab col dd k0 k1 k2 k3 k5 newId)/\c.heap.Ns N mN/\c.heap.get? fI=cL oI/\ahk c.heap Z Y/\
    ∀V e,Heap.MadeExcOf c.heap V e (.ref C) a.pos->wpAny (model prog w) (A.under (.builtin "type.__call__" #[.ref C::a.pos,[]])) (call (.ref fI) (.ref e::a.pos)) (λr D=>r=.none/\∃z,D.heap.get? C=cL (excClassObj nm q C N bs Y hdct sn sub ab col dd k0 k1 k2 k3 k5 newId)/\D.heap.get? e=cL z/\z.cls=.ref C/\(∃fs,z.data=.fields fs/\fs[1]?=cL WY.none)/\E (.ref e) D) E {c with heap:=V}) E k) E s):
  wpAny (model prog w) A (exec (.Raise (cL (.Call (.Name x np) args [] ZN)) Ld pos) env) Q E s:=by
 rw[arm_exec_Raise]
 first
  |show lD (Zg (iJ m p (lD (wpAny_mono (acx (wpAny_mono h (λf k i=>?_) λ_ _ x=>x)) (λv l b=>lD (Zg (W6 b))) λ_ _ x=>x))))
  |(simp only[evalOpt,ahl];show lD (Zg (iJ (C:=C) (nm:=nm) (q:=q) (N:=N) (bs:=bs) (hdct:=hdct) (sn:=sn) (sub:=sub) (ab:=ab) (col:=col) (dd:=dd) (k0:=k0) (k1:=k1) (k2:=k2) (k3:=k3) (k5:=k5) (newId:=newId) m p (lD (wpAny_mono (acx (wpAny_mono h (λf k i=>?_) λ_ _ x=>x)) (λv l b=>lD (Zg (W6 b))) λ_ _ x=>x)))))
  |(show lD (Zg (iJ m p ?_));show lD (wpAny_mono (acx (wpAny_mono h (λf k i=>?_) λ_ _ x=>x)) (λv l b=>lD (Zg (W6 b))) λ_ _ x=>x))
 let(rfl,i):=i;ext callWith;show lD (Yp (wpAny_mono i (λa c j=>lD (Zg ?_)) λ_ _ x=>x));let(H,akw):=a;let(o,n,G,hn,J,T,j):=j;obtain rfl:=o;let(hp,g,d,tk,os):=c;simp only[y];show lD (wpAny_keeperOf_exc G ?_);show lD (yq (hrest:=n) Fn u F T G hn hi J t λV e hm=>wpAny_mono (j V e hm) (λr D #[I,z,Pz0,O,Mz0,L,K]=>#[I,lD (Yp (wpAny_point (W6 ?_)))]) λ_ _ x=>x);show#[e,z,W,Pz0,O,Mz0,L,K]
end
end L9
namespace L9
open PySem PySem.W PyProof.Rows Builtin Builtin.ObjectAttr
abbrev IE:G J:=[.type "ValueError",.type "Exception",.type "BaseException",.type "object"]
section
variable{prog:Xu}{w:XQ}{A:XJ}{K:Frag}{B C x:W7}{s:W9}{R:acM->W9->Prop}{Z:ClassData}{name:Str}{Y:Tok}{v:WY}{fs:Array WY}
def KP(X:K.In s.heap)(E:clsIn K C=cL Z)(hm:Z.mro=.ref C:: .ref B::IE)(hd:Z.hasDict=WZ)(z:findIn K (.ref C) name=cL Ld)(i:s.heap.get? x=cL #[.ref C,Ld,.fields fs,#v[]])
  (J:∀c k,c.get? x=cL #[.ref C,cL s.heap.objs.size,.fields fs,#v[]]->c.Ns1 s.heap.objs.size (λy=>if y=name then cL v else Ld)->(∀b o,b≠x->s.heap.get? b=cL o->c.get? b=cL o)->R (.ok (.ret .none)) {s with heap:=c,toks:=k}):
  codeAny (model prog w) A (.call (.builtin "object.__setattr__") #[[.ref x,.str name Y,v],[]]) R s:=by
 let I:InstAt s.heap x #[.ref C,Ld,.fields fs,#v[]] C Ld:=#[i,W,W,True.intro];let m:=PySem.F.store_object;let sub:Looks (model prog w) s.heap (isInstance (.ref x) (.type "object")) WZ:=I.type.andThen (looks_mroIn X (by ext mroIn;rw[E,Option.bind_some,hm,a4 (by simp)];simp));show ZM m.slot.plain m.entry (@check_slot (model prog w) _ _ s "object.__setattr__" "object" "__setattr__" (.ref x) [.str name Y,v] [] _ m.kind m.split sub (m.args (.ref x) (.str name Y) v) ?_);let l:Looks (model prog w) s.heap (mroOf (.ref C)) Z.mro:=(looks_clsIn X E).andThen .now;rw[osa_eq,refuse_eq];show lD (lD (I.type.here (lD (l.here ?_))));rw[hm,akj,akj,PySem.F.store_ValueError.passes];show W6 (lD (I.type.here (lD ((looks_findIn X z).here (lD (W6 ?_))))));ext storeInOwnDict;show lD (W6 (lD ?_));unfold ownDictForStores instanceDict;show lD (akb i (lD ((looks_clsIn X E).here ?_)));rw[hd,a4 ()];show wpAny _ _ (if(!WZ|| !typeHasDict (.ref C))=WZ then pure Ld else(do
        let d<-alloc {cls:=WY.type "dict",data:=Data.dict #v[]}
        update x λo=>{cls:=o.cls,dict:=cL d,data:=o.data,slots:=o.slots}
        dictMade (.ref C) x d)) _ _ _
 rw[a4 (by simp[typeHasDict])];let(h,g,d,t,T):=s;dsimp only at X i J I sub l⊢;let f:(h.push {cls:=.type "dict",data:=.dict #v[]}).get? x=cL #[.ref C,Ld,.fields fs,#v[]]:=b3 _ i;let a:=Xy (b4 i);show lD (wpAny_alloc' ?_);show lD (wpAny_update' f ?_);show W6 ?_
 let q:((h.push {cls:=.type "dict",data:=.dict #v[]}).update x λo=>{cls:=o.cls,dict:=cL h.objs.size,data:=o.data,slots:=o.slots}).get? h.objs.size
   =cL {cls:=.type "dict",data:=.dict #v[]}:=
  (Heap.get?_update_ne _ _ _ _ a.symm).trans (Heap.get?_push_at W W)
 let p:((h.push {cls:=.type "dict",data:=.dict #v[]}).update x λo=>{cls:=o.cls,dict:=cL h.objs.size,data:=o.data,slots:=o.slots}).Ns h.objs.size (λ_=>Ld):=
  #[_,#v[],_,q,W,λe N=>bb N (by simp),λ_=>W]
 unfold storeInDict newKeyGuard;show lD (W6 (lD (wpAny_nsSet1 (Heap.Ns1.of_empty p) λc j H=>?_)));let(oD,P,Q,n,r,u):=j.count (Within.cons name v Within.nil);show lD (ahR n (by rw[r];show ahS (XT u (by rw[Xk,Y5,YQ];ext))) ?_);show W6 (J c _ ?_ ?_ λb U G L=>?_)
 .show(H.2 x a).trans (b9 _ f W)
 .let(M,es,S,e1,e2,e3,O,e4):=j;show#[M,es,S,e1,e2,e3,O,λy=>by rw[e4 y]]
 .show(H.2 b (Xy (b4 L))).trans ((Heap.get?_update_ne _ _ _ _ G).trans (b3 _ L))
theorem LL(X:K.In s.heap)(g:clsIn K C=cL Z)(hm:Z.mro=.ref C:: .ref B::IE)(hd:Z.hasDict=S)(a:findIn K (.ref C) "__setattr__"=cL (cL (.builtin "object.__setattr__")))(h:findIn K (.ref C) name=cL P)(e:s.heap.get? x=cL #[.ref C,P,.fields fs,#v[]])
  (f:∀c d,c.get? x=cL #[.ref C,cL s.heap.objs.size,.fields fs,#v[]]->c.Ns1 s.heap.objs.size (λy=>if y=name then cL v else P)->(∀b o,b≠x->s.heap.get? b=cL o->c.get? b=cL o)->Q ⟨⟩ {s with heap:=c,toks:=d}):
  wpAny (model prog w) A (setAttr (.ref x) name v) Q E s:=
 set_plain X (#[e,W,W,True.intro]:InstAt s.heap x #[.ref C,P,.fields fs,#v[]] C P) a (KP X g hm hd h e f)
end
section
variable{y:Xu}{w:XQ}{A:XJ}{E:WY->W9->Prop}{h:Heap}{g:Array aba}{d:aeG}{t:Nat}{u:adw}
variable{nm q:Str}{C N:W7}{bs r Z:bg WY}{v:Bool}{sn:bg Str}{sub:bg WY}{ab:Bool}{col:bt Bool}{dd:bt W7}{k0 k1 k2 k3 k5:bt WY}{B L X Y:String}
def CF(F:Z8 B X Y Z)(T:ahk h Z r)
  (p:h.get? C=R (excClassObj nm q C N bs r v sn sub ab col dd k0 k1 k2 k3 k5 L)) (j:h.get? e=R #[.ref C,P,.fields fs,#v[]]) (l:fs[0]?=R (.ref t0))
  (m:∀s k,s.get? e=R #[.ref C,P,.fields k,#v[]]->k[0]?=R (.ref h.objs.size)->(∀i,i≠0->k[i]?=fs[i]?)->(∀b o,b≠e->h.get? b=R o->s.get? b=R o)->Q .none #[s,g,d,t,u]) (c:rest.length<=Xi):
  wpAny (model y w) A (call (.builtin Y) (.ref e::rest)) Q E #[h,g,d,t,u]:=by
 show aaI (ZM F.init.plain F.initEntry (wpAny_check_init_subU F T p j W ?_));unfold XN.«BaseException.__init__»;dsimp only;rw[a4 (by simp)];unfold newTuple XN.BaseException.bexcPut;let f:=(Yg.mp l).1;let a:(h.push {cls:=.type "tuple",data:=.seq rest.toArray}).get? e=R #[.ref C,P,.fields fs,#v[]]:=b3 _ j;show lD (X9 (lD (lD (X6 a W l (lD (YS a W f ?_))))) (by show rest.toArray.size<=Xi;rw[Xo];show c));show ZL (W6 (m _ (fs.setIfInBounds 0 (.ref h.objs.size)) ?_ (by simp[f]) (λi hi=>by rw[abP (c9 hi)]) λb o n z=>?_))
 .show b9 (Obj.mapFields (·.setIfInBounds 0 (.ref h.objs.size))) a W
 .show(b7 _ _ (c9 n)).trans (b3 _ z)
end
end L9
namespace L9
open PySem PySem.Spec PyProof.Rows L2
def UF(v:V):Prop:=v=.Zk\/∃i:Int,v=.int i/\i.natAbs.log2<1920
def JX{i:Int}(h:i.natAbs.log2<1920):(Str.ofString (toString i)).length<=5000:=by let e:=int_text_length_le () h;rw[PySem.ofString_length];ext
def Ov(I:Inv X pins σ H s)(r:RelV v u)(f:UF v)
  (h:∀(y:Str) (t:Tok) (a:W9),y.length<=5000->Inv X pins σ H a->Q (.str y t) a):wpAny (model X.prog X.w) A (formatField u Str.empty) Q E s:=by
 rcases f with rfl|⟨i,rfl,b⟩
 .obtain rfl:=r;show wpAny_formatField_none (h _ _ _ () (I.tok _))
 .let(t,rfl):=r;show formatField_int_small b (h _ _ _ (JX b) (I.tok _))
def PJ(X:Cx)(es:G Xx)(n:Nat)(t:L2.St->Hp->(Hp->Prop)->Prop):Prop:=
 ∀(a:G (M×Obj)) (s:W9) (e:L2.St) (H:Hp) (b:Str) (Q:Hp->Prop),Inv X a e H s->b.length+n<=1000000->t e H Q->
  wpAny (model X.prog X.w) X.A (joinParts b (evalEach es X.env)) (λv h=>∃(y:Str) (g:Tok) (f:Hp),v=.str y g/\Inv X a e f h/\Q f) X.xe s
section
variable{X:Cx}{e:Xx}{es:bg Xx}{n:Nat}{T:TE}{t:L2.St->Hp->(Hp->Prop)->Prop}{Y:Pos}
def Pn:PJ X [] 0 (λ_ H Q=>Q H):=by intro a s f H b Q I g h;show joinParts_nil #[_,_,H,W,I.tok _,h] (by rw[YQ];ext)
def QH(i:x.length<=5000)(g:PJ X es n t):PJ X (.Constant (.str x) k Y::es) (n+5000) t:=by intro a s f H b Q I j h;show joinParts_consE (joinParts_cons (Calls.Constant_str ?_));let e:=amj b x;show#[by rw[YQ];ext,g a _ f H (b++x) Q (I.tok _) () h]
def Rn(i:PE X e T)(g:PJ X es n t):PJ X (.FormattedValue e (-1) P Y::es) (n+5000) (λσ H Q=>T σ H λv H1=>UF v/\t σ H1 Q):=by intro a s σ H b Q I A h;show joinParts_consE (joinParts_cons (FormattedValue_plain (bU (i a s σ H _ I h) λu o #[v,H1,j,r,f,q]=>?_)));show Ov j r f λy m p w l=>?_;let e:=amj b y;show#[by rw[YQ];ext,g a _ σ H1 (b++y) Q l () q]
def Mp(h:PJ X (e1::e2::es) n t)(c:n<=900000):PE X (.JoinedStr (e1::e2::es) Y) (λσ H Q=>t σ H λH1=>∀y:Str,Q (.str y) H1):=by intro a s σ H Q I b;show JoinedStr_many (bU (h a s σ H Str.empty _ I (by show 0+n<=1000000;ext) b) λv j #[y,i,H1,f,g,q]=>?_);subst f;show#[.str y,H1,g,#[_,W],q y]
end
def Ly(C e:M):Heap->Prop:=λh=>∃fs t0,h.get? e=R #[.ref C,P,.fields fs,#v[]]/\fs[0]?=R (.ref t0)/\fs[1]?=R .none
def Sr(C e p:M):Heap->Prop:=λh=>∃fs a0,h.get? e=R #[.ref C,R p,.fields fs,#v[]]/\fs[0]?=R a0/\fs[1]?=R .none
structure XC(K:CL)(C B fI:M):Prop where
 obj:∃nm q N bs sn sub ab col dd k0 k1 k2 k3 k5,K.lookup C=R (excClassObj nm q C N bs (.ref B::IE) S sn sub ab col dd k0 k1 k2 k3 k5 "ValueError.__new__")/\acj K N=S/\XH K N "__init__"=R (R (.ref fI))
 base:Z0 K B IE "ValueError.__new__"=S
 sa:XS K (.ref C) "__setattr__"=R (R (.builtin "object.__setattr__"))
def xL{K:CL}(q:Z0 K B IE n=S):aaZ K IE (.ref B::IE)=S:=by
 unfold Z0 at q;split at q
 .rename_i dd f e b
  split at q
  .simp only[WX,beq_iff_eq,Zs]at q;let(((((_,_),_),_),Yn),a):=q;ext aaZ;dsimp only;rw[b];dsimp only;rw[Yn,a,show aaZ K IE IE=S from by ext aaZ;rw[dN,aaj],dN,YX,YX,aaR]
  .ext q
 .ext q
section
variable{X:Cx}{B C fI:W7}{pos U Y:Pos}{Z:Xx}{as:bg Xx}{t:TA}{b:Str}
def Ft(h:H a=R o):aR H a o=H:=by
 funext c;by_cases z:c=a
 .rw[z,ay,h]
 .rw[ar z]
def Qf(C:M)(t:TA):TE:=λf H Q=>t f H λg a=>∃e y,g=[.ref e,.str y]/\a e=R (.ext (Ly C e))/\Q .Zk a
def HF{pl:Sem Bool}(V:Gl X b)(hm:X.mg b=cL (.ref B))(D:abX X.K B (.type "type")=WZ)(hf:abY X.K (.ref B) (.type "type") "__init__"=cL (.val (.builtin "ValueError.__init__")))
  (k:ZO X.K (.ref B) "__getattribute__"=cL (cL (.builtin "type.__getattribute__"))) (A:XC X.K C B fI) (ha:PA X (Z::as) t)
  (cY:Xr (Z::as) X.env=(W3,eval Z X.env)::Xr as X.env:=by rfl) (l:(backTo pos (Xr as X.env)).any (·.1)=W3:=by rfl) (m:(b==("__debug__":Str))=W3:=by decide)
  (c:eval (.Call (.Attribute (.Name b U) "__init__" Y) (Z::as) [] pos) X.env=(do
   let ov<-eval (.Name b U) X.env
   standAt Y.atName
   let(f,first)<-holding [ov] (getMethod ov "__init__" pl)
   callWith pos f first (backTo pos (Xr (Z::as) X.env)) (backToKw pos (keywordEach [] X.env))):=by rfl):
  PE X (.Call (.Attribute (.Name b U) "__init__" Y) (Z::as) [] pos) (Qf C t):=by
 intro a s G H Q I h;show aaL (pl:=pl) (i9 I V hm ?_ m) c;show PySem.W.method_cls I.kIn k (PySem.W.cls_value I.kIn D hf () ?_);let E:=ha pos a {s with toks:=s.toks+1} G H _ (I.tok _) h;rw[cY]at E⊢;show Calls.callWith_builtin (by show(W3||(backTo pos (Xr as X.env)).any (·.1))=W3;rw[l]<;>rfl) (Calls.evalArgs_plain (bU E λus v #[vs,F,i,r,e,y,ev,n,q]=>?_));subst ev;let(O,u2,rfl,S,R):=B1 r;obtain rfl:O=.ref e:=S;let(tk,rfl):=R;let((fs,t0,g1,g2,g3),_,gk):=(show ObjOk X.prog X.w F v.heap e (.ext (Ly C e))from i.Yn e _ n);let(nm,q',N,bs,sn,sub,ab,col,dd,k0,k1,k2,k3,k5,lk,Yn,hin):=A.obj;let T:=adN i.kIn (xL A.base);let(h2,g,d,j,os):=v;show CF Zt T (i.kIn _ _ lk) g1 g2 (λh' p e1 e2 e3 e4=>?_) (by show 1<=Xi;decide);show#[.Zk,F,?_,W,q];let w:=i.write (x:=e) (e:=e) (o:=.ext (Ly C e)) (h':=h') (t':=j) (by rw[n];show True.intro) (.inl W) (λb u hb z=>e4 b u hb z) #[_,e1] #[#[p,_,e1,e2,by rw[e3 1 ()];show g3],#[_,e1],λh1 h2 #[f1,Pz0,Mz0,L,J2] hk=>#[f1,Pz0,hk _ Mz0,L,J2]];rw[Ft n]at w;show w
def Tr(C:M)(f:Str)(c h:TE):TS:=λD a H=>h a H λv i=>c a i λx g=>∃e,x=.ref e/\g e=R (.ext (Ly C e))/\∀p,g p=P->p≠e->D.nx a (aR (aR g e (.ext (Sr C e p))) p (.xd [(f,v)]))
def Kz(O:XC X.K C B fI)(V:XS X.K (.ref C) f=cL Ld)(ha:PE X o ta)(c:PE X value tv)(d:Zy value (cL (.Attribute o f pos')) pos.line X.env=pure W3):PS X (.Assign [.Attribute o f pos'] value pos) (Tr C f ta tv):=by
 intro l s F H D I h;show acF (bU (c l s F H _ I h) λu s1 #[v,H1,I1,rv,q]=>bU (ha l s1 F H1 _ I1 q) λov p #[x,Q,A,rx,e,ex,j,q2]=>?_) d;subst ex;obtain rfl:=rx;let((fs,t0,P,g2,g3),_,gk):=(show ObjOk X.prog X.w Q p.heap e (.ext (Ly C e))from A.Yn e _ j);let(nm,q',N,bs,sn,sub,ab,col,dd,k0,k1,k2,k3,k5,lk,Yn,hin):=O.obj;obtain⟨E,hc,J,L⟩:∃E,afz X.K C=cL E/\E.mro=.ref C:: .ref B::IE/\E.hasDict=WZ:=by ext afz;rw[lk];show#[_,W,W,W]
 show LL A.kIn hc J L O.sa V P λh' tk' e1 e2 e3=>?_;let pe:=Yt (b4 P);let r:=A.Yn.fresh (Xd _);show#[F,_,?_,q2 p.heap.objs.size r pe];let m:∀b o,p.heap.get? b=cL o->b≠p.heap.objs.size:=λb o z=>Xy (b4 z);show A.un #[λb o z n _ _=>e3 b o (λy=>by rw[y,j]at n;ext n) z,λb o z n _ _=>#[o.slots,e3 b o (λy=>by rw[y,j]at n;ext n) z],λb o z n _=>?_,λb o z _=>?_,λb xs z=>?_,λb o u z=>?_,λb ps z=>#[#v[],?_]] ?_
 .rw[ar (m b o z),ar (λy=>by rw[y,j]at n;ext n)];show n
 .by_cases y:b=e
  .subst y;show#[_,e1]
  .show#[o,e3 b o y z]
 .rw[ar (λy=>by rw[y,r]at z;ext z),ar (λy=>by rw[y,j]at z;ext z)];show z
 .rw[ar (λy=>by rw[y,r]at z;ext z),ar (λy=>by rw[y,j]at z;ext z)];show z
 .rw[ar (λy=>by rw[y,r]at z;ext z),ar (λy=>by rw[y,j]at z;ext z),z];simp
 .intro a o z
  by_cases M:a=p.heap.objs.size
  .subst M
   rw[ay]at z;ext z;show#[_,e2,λg=>?_];show aaa (match g==f with|true=>cL v|false=>Y6 g []) (if g=f then cL u else Ld);cases i:g==f with
   |true=>rw[ax (beq_iff_eq.mp i)];show rv
   |false=>rw[a4 (λw=>by rw[beq_iff_eq.mpr w]at i;ext i)];show True.intro
  .rw[ar M]at z
   by_cases G:a=e
   .subst G;rw[ay]at z;ext z;show#[#[fs,_,e1,g2,g3],#[_,e1],λh1 h2 #[f1,t1,T,S1,R1] hk=>#[f1,t1,hk _ T,S1,R1]]
   .rw[ar G]at z
    let own:∀b,Q b=cL (.own a)->b≠e/\b≠p.heap.objs.size:=λb y=>#[(λk=>by rw[k,j]at y;ext y),(λk=>by rw[k,r]at y;ext y)];show(A.Yn a o z).aaO (λb w i y=>e3 b w (λk=>?_) y) (λb y=>by rw[ar (own b y).2,ar (own b y).1];show y) λb xs y=>by rw[ar (λk=>by rw[k,r]at y;ext y),ar (λk=>by rw[k,j]at y;ext y)];show y
    rcases i with i|i
    .show G (i.symm.trans k)
    .show(own b i).1 k
end
end L9
namespace L9
open PySem PySem.Spec PyProof.Rows L2 L4
def RQ(H:Hp)(e:M):Hp:=λa=>if a=e then P else H a
theorem rF:RQ H e e=P:=ax W
theorem jt(h:a≠e):RQ H e a=H a:=a4 h
def ye{K:CL}(X:K.In h)(G:h.Ns N C)(e:XH K N n=R (R v)):C n=R v:=by
 let(o,es,p,f,j,_,g):=G;unfold XH at e;split at e
 .rename_i l m b a
  let:=(X _ _ a).symm.trans f;ext this;ext j;split at e
  .rename_i q i;ext e;rw[<-g];unfold nsFind findBy;rw[<-aeo,i];rfl
  .split at e<;>ext e
 .ext e
def OM{K:CL}(i:Zw K (.ref f)=S)(l:K.lookup f=R o):o.cls=.type "function":=by unfold Zw aeV at i;dsimp only at i;rw[l]at i;show Xj (beq_iff_eq.mp i)
section
variable{X:Cx}{Z:bg (W7×Obj)}{Y:L2.St}{H:Hp}{s:W9}{T:Heap}{e:W7}{o:HO}
def IW(I:L2.Inv X Z Y H s)(k:∀b u,s.heap.get? b=R u->T.get? b=R u)(n:s.heap.get? e=P)(new:ObjOk X.prog X.w (aR H e o) T e o):L2.Inv X Z Y (aR H e o) {s with heap:=T,toks:=t'}:=by
 let f:=wj I.Yn n;let ne:∀b u,s.heap.get? b=R u->b≠e:=λb u z y=>by rw[y,n]at z;ext z
 show I.un #[λb u z _ _ _=>k b u z,λb u z _ _ _=>#[u.slots,k b u z],λb u z q _=>by rw[ar (ne b u z)];show q,λb u z _=>#[u,k b u z],λb xs z=>?_,λb u v z=>?_,λb g z=>#[#v[],?_]] ?_
 .rw[ar (λy=>by rw[y,f]at z;ext z)];show z
 .rw[ar (λy=>by rw[y,f]at z;ext z)];show z
 .rw[ar (λy=>by rw[y,f]at z;ext z),z];simp
 .intro a u z
  by_cases y:a=e
  .subst y;rw[ay]at z;ext z;show new
  .rw[ar y]at z;show(I.Yn a u z).aaO (λb w _ q=>k b w q) (λb q=>by rw[ar (λw=>by rw[w,f]at q;ext q)];show q) λb xs q=>by rw[ar (λw=>by rw[w,f]at q;ext q)];show q
def KB(I:L2.Inv X Z Y H s)(f:H e=R (.ext C)):L2.Inv X Z Y (RQ H e) s:=by
 let:=I.un (t':=s.toks) (H':=RQ H e) #[λb u z _ _ _=>z,λb u z _ _ _=>#[u.slots,z],λb u z q _=>?_,λb u z _=>#[u,z],λb xs z=>?_,λb u v z=>?_,λb g z=>#[#v[],?_]] ?_
 .show this
 .by_cases y:b=e
  .rw[y];show rF
  .rw[jt y];show q
 .rw[jt (λy=>by rw[y,f]at z;ext z)];show z
 .rw[jt (λy=>by rw[y,f]at z;ext z)];show z
 .rw[jt (λy=>by rw[y,f]at z;ext z),z];simp
 .intro a u z
  let y:a≠e:=λy=>by rw[y,rF]at z;ext z
  rw[jt y]at z;show(I.Yn a u z).aaO (λb w _ q=>q) (λb q=>by rw[jt (λw=>by rw[w,f]at q;ext q)];show q) λb xs q=>by rw[jt (λw=>by rw[w,f]at q;ext q)];show q
end
def zU(C:M)(sp:Sp)(E:XK)(c:TA):TS:=λ_ f H=>c f H λg b=>g.length<=Xi/\∀e,b e=P->sp (.ref e::(g++[])) (aR b e (.ext (Ly C e))) (λv a=>v=.Zk/\∃p,a e=R (.ext (Sr C e p))/\E (.ref C) (R p) (RQ a e)) E0
def Dm{K:CL}
  (Z:XC K C B fI) (S:K.lookup fI=cL oI) (c:Zw K (.ref fI)=WZ) (FI:FnOk Pz0 w K mg base kX k fI fdI ps sp) (bI:Binds K fdI ps [])
  (d:Y1 (k+1) (fC (lu Pz0 w) Pz0 w K mg base N qual scope f cd A outer s0 H0 E).A)
  (hg:Gl (fC (lu Pz0 w) Pz0 w K mg base N qual scope f cd A outer s0 H0 E) x) (hm:mg x=cL (.ref C)) (ha:PA (fC (lu Pz0 w) Pz0 w K mg base N qual scope f cd A outer s0 H0 E) (e0::es) ta)
  (J:(x==("__debug__":Str))=W3:=by decide)
  (X:Xr (e0::es) (fC (lu Pz0 w) Pz0 w K mg base N qual scope f cd A outer s0 H0 E).env=(W3,eval e0 (fC (lu Pz0 w) Pz0 w K mg base N qual scope f cd A outer s0 H0 E).env)::Xr es (fC (lu Pz0 w) Pz0 w K mg base N qual scope f cd A outer s0 H0 E).env:=by rfl)
  (F:(backTo ZN (Xr es (fC (lu Pz0 w) Pz0 w K mg base N qual scope f cd A outer s0 H0 E).env)).any (·.1)=W3:=by rfl):
  PS (fC (lu Pz0 w) Pz0 w K mg base N qual scope f cd A outer s0 H0 E) (.Raise (cL (.Call (.Name x np) (e0::es) [] ZN)) Ld pos) (zU C sp E ta):=by
 intro l s σ H D I h;let(nm,qn,Nn,bs,sn,sub,ab,col,dd,k0,k1,k2,k3,k5,R,Yn,G):=Z.obj;let a:=I.ok.mod.kin;let oC:=a _ _ R;let Q:=Heap.Ns.of_isNs (PySem.W.isNs_of_in a Yn);let ni:=ye a Q G;let oF:=a _ _ S;let T:=adN a (xL Z.base);show xB (nm:=nm) (q:=qn) (N:=Nn) (bs:=bs) (hdct:=WZ) (sn:=sn) (sub:=sub) (ab:=ab) (col:=col) (dd:=dd) (k0:=k0) (k1:=k1) (k2:=k2) (k3:=k3) (k5:=k5) Zt (by left) Zt (T.hasType Zt.hasBase) (I.ok.hd W)
  (by rw[X];show(abu _).trans F) ni (OM c S) (i9 I hg hm #[W,?_] J)
 let go:=ha ZN l s σ H _ I h;rw[X]at go⊢;show Calls.evalArgs_plain (bU go λg j #[vs,H1,i,r,hl,q]=>?_);show#[W,by rw[<-r.length];show hl,i.bk _ _ oC,Q.keeps i.bk,i.bk _ _ oF,T.keeps i.bk,λh' e m=>?_];let(t,y,y2,y3):=m.there;let hn:=wj i.Yn m.new;let U:=q e hn;let L:=IW (t':=j.toks) (o:=.ext (Ly C e)) i m.keeps m.new #[#[_,t,y,W,W],#[_,y],λh1 h2 #[f1,t1,z1,z2,z3] hk=>#[f1,t1,hk _ z1,z2,z3]];let O:Vals (V.ref e::(vs++[])) (WY.ref e::(g++[])):=.cons W (r.append .nil);let n:(WY.ref e::g++[]).length=ps.length:=by let z:=O.length;rw[FI.len _ _ _ _ U]at z;show z.symm
 let old:s0.heap.get? e=Ld:=by
  cases z:s0.heap.get? e with
  |none=>rfl
  |some o=>let(o',M):=i.base.there e o z (λy=>nomatch y);rw[m.new]at M;ext M
 let bi:=bI {heap:=h',gens:=j.gens,drawn:=j.drawn,toks:=j.toks,os:=j.os} (WY.ref e::g) L.kIn n;rw[afA]at bi;show aaI (aav (FI.run _ (fC (lu Pz0 w) Pz0 w K mg base N qual scope f cd A outer s0 H0 E).stack _ _ #[WY.ref e::g,[]] (WY.ref e::(g++[])) _ _ E0 (d.make C g []) (L.af0.make C g []) bi O U) λr s' b=>?_);cases r with
 |error e=>show b.elim
 |ok fl=>
  cases fl with
  |ret u=>let(v,H',I3,rv,ev,p,Y,q3):=L.after b;subst ev;let((fs,a0,g1,g2,g3),_,_):=(show ObjOk _ _ H' s'.heap e (.ext (Sr C e p))from I3.Yn e _ Y);show#[rv,_,I3.kIn _ _ R,g1,W,#[fs,W,g3],?_];show NP (hd:=Ld) (KB I3 Y) #[_,_,g1,W,W,W,g2,g3] old (λT z=>nomatch z) rF (λT z=>nomatch z) q3
  |next=>show False.elim b
  |brk=>show False.elim b
  |cont=>show False.elim b
end L9
namespace L9
open PySem PySem.Spec PySem.W PyProof.Rows L2 L3 L4
section
variable{T:Xu}{w:XQ}{A:XJ}{E:WY->W9->Prop}{h:Heap}{g:Array aba}{d:aeG}{t:Nat}{L:adw}{a C:W7}{o:Obj}{K:CL}{Z:bt Obj}{N:Str}{v:WY}
  {n1 q1:Str} {N1:W7} {b1 B:bg WY} {d1:Bool} {s1:bg Str} {u1:bg WY} {a1:Bool} {c1:bt Bool} {x1:bt W7} {i0 i1 i2 i3 i5:bt WY} {Y:String}
def zD(X:K.In h)(I:aaW h a o C Z)(b:findObj K C Z N=R (.value v))
  (k:Q (.done (.ret v)) #[h,g,d,t,L]):wpAny (model T w) A (XN.«object.__getattribute__» #[[.ref a,.str N tk],[]]) Q E #[h,g,d,t,L]:=by
 let f:=I.type (M:=model T w);let e:=looks_find (M:=model T w) X I b;show lD (W6 (lD (W6 (lD (f.at (lD (e.at ?_)))))));show W6 k
def Dc(X:K.In h)(I:aaW h a o C Z)(n:h.get? C=R (excClassObj n1 q1 C N1 b1 B d1 s1 u1 a1 c1 x1 i0 i1 i2 i3 i5 Y))(m:B.contains (.type "BaseException")=S)
  (f:findIn K (.ref C) "__getattribute__"=R (R (.builtin "BaseException.__getattribute__"))) (e:findIn K (.ref C) "__getattr__"=R P) (l:findObj K C Z N=R (.value v)) (j:handedIn v=S)
  (k:Q v #[h,g,d,t+1,L]):wpAny (model T w) A (getAttr (.ref a) N expr) Q E #[h,g,d,t,L]:=by
 let y:=ab9.ga.bind (.ref a);let b:(WY.builtin "BaseException.__getattribute__"==WY.builtin "object.__getattribute__")=U:=by left
 let u:(onTheHeap (WY.ref C)&&WY.builtin "BaseException.__getattribute__"==WY.builtin "object.__getattribute__")=U:=by rw[b];rfl
 let r:=I.type (M:=model T w);let q:=looks_findIn (M:=model T w) X f;let p:=looks_findIn (M:=model T w) X e;unfold getAttr getAttrBy
 repeat (any_goals (first|assumption|specialize r.at ?_|specialize q.at ?_|specialize p.at ?_|wp_step))
 rw[show(expr&&onTheHeap (WY.builtin "BaseException.__getattribute__"))=U from by ext expr<;>rfl,a4 Xp];ext boundAndCalled
 repeat (any_goals (first|assumption|wp_step))
 show ZM ab9.ga.plain F.entry_bexc_ga (yS n m I.at_ I.cls (zD X I l ?_));let i:=handedOut_of j;show wpAny _ _ (handedOut v) _ _ _;rw[i];show W6 k
end
def Ob(K:CL)(c:TE)(f:Str):TE:=λb H Q=>c b H λx a=>∃e g C m p fs v,x=.ref e/\a e=R (.frz g (.own e))/\g.cls=.ref C/\g.dict=R p/\notCls g=S/\ad4 K C m/\hasDictIn K C=S/\findIn K (.ref C) f=R P/\
 a p=R (.xd fs)/\fs.lookup f=R v/\Q v a
def JS(S:PE X o ta)(Y:attributeBase o f X.env (eval o X.env)=eval o X.env):PE X (.Attribute o f pos) (Ob X.K ta f):=by intro a s A H Q I h;show Ba Y (bU (S a s A H _ I h) λu n #[x,y,b,B,e,F,C,m,p,fs,v,Z,ea,U1,T,hn,L,w,ha,N,l,q]=>?_);subst Z;obtain rfl:=B;let z:=(b.Yn e _ ea).1;let(mA,G,i):=(show ObjOk X.prog X.w y n.heap p (.xd fs)from b.Yn p _ N);let(u',M,r):=aaa.some_of (by rw[<-l];show i f);let(E,O,P):=sV G;let(_,_,_,_,_,_,_,_,_,_,_,_,_,_,_,_,J):=L.cl;let(j,g,d,t,os):=n;show Dc b.kIn (#[z,U1,hn,by rw[T];show O]:aaW j e F C (cL E)) (b.kIn _ _ J) L.be L.ga L.gt (findObj_own w ha W (by rw[P,M])) (tQ r) #[v,y,b.tok _,r,q]
def vQ(C:M)(f:Str):Sp:=λa H Q _=>∃e v,a=[.ref e,v]/\UF v/\H e=R (.ext (Ly C e))/\∀p,H p=P->p≠e->Q .Zk (aR (aR H e (.ext (Sr C e p))) p (.xd [(f,v)]))
def Ul:D->Bool
 |.none=>S
 |.int i=>decide (i.natAbs.log2<1920)
 |_=>U
end L9
namespace L3
open PySem PySem.Spec PyProof.Rows L2
mutual
def VH:Xa->Bool
 |.tuple ds=>Pw ds
 |.int _=>WZ
 |.str _=>WZ
 |.bool _=>WZ
 |.none=>WZ
 |_=>W3
def Pw:bg Xa->Bool
 |[]=>WZ
 |d::r=>VH d&&Pw r
end
section
variable{K:CL}{E:XK}{B:bB}{Y:Hp}{O Z:bB}{X:L2.St}{H T:Hp}{Q:aQ}
def Lu(h:SqT K H a xs)(l:H a=R (.lst ys)):SqT K (λ_=>P) a xs:=by
 rcases h with(h|⟨o,h⟩)|h
 .rw[l]at h;ext h
 .rw[l]at h;ext h
 .show .inr h
mutual
theorem KW(f:∀b,O b->¬Z b->∃ys,H b=cL (.lst ys)):∀{v:V} {d:D},DV Z K H v d->VH d=WZ->DV O K H v d
 |_,_,.Zk,_=>.Zk
 |_,_,.bl b,_=>.bl b
 |_,_,.int i,_=>.int i
 |_,_,.str x,_=>.str x
 |_,_,.tup (a:=a) h hs,e=>.tup ⟨h.1,λz=>by
   by_cases y:Z a
   .exact h.2 y
   .obtain⟨ys,q⟩:=f a z y;exact Lu h.1 q⟩ (xK f hs e)
 |_,_,.lst h hs,e=>by cases e
theorem xK(a:∀b,O b->¬Z b->∃ys,H b=cL (.lst ys)):∀{vs:bg V} {ds:bg D},YE Z K H vs ds->Pw ds=WZ->YE O K H vs ds
 |_,_,.nil,_=>.nil
 |_,_,.cons h hs,e=>by have f:=abe.mp e;exact .cons (KW a h f.1) (xK a hs f.2)
end
end
end L3
namespace PyProof.Rows
open PySem
section
variable{Y:Xu}{w:XQ}{A:XJ}{E:WY->W9->Prop}{s:W9}
def qL(b:h.get? a=R (seqObj "list" o.toArray n)):∃e,(sortedHeap h a o out).get? a=R (seqObj "list" out e):=by let f:=get?_update_seq b (λ_=> #v[]);show#[_,get?_update_seq (b3 _ (b3 _ f)) _]
theorem oE(f:b≠a)(e:h.get? b=R o):(sortedHeap h a C out).get? b=R o:=
 (b7 _ _ (c9 f)).trans (b3 _ (b3 _ ((b7 _ _ (c9 f)).trans e)))
def yO{l:M}{c:bg J}{j:bg Int}{Q:J->W9->Prop}(p:s.heap.IsTuple l c.toArray)(y:IntsAre c j)(i:c.length<64)
  (h:∀(a d:Heap) (out:Array J) (e:Nat) (f:bg Int),(∀b o,s.heap.get? b=R o->a.get? b=R o)->d.get? a.objs.size=R (seqObj "list" out e)->(∀b o,a.get? b=R o->d.get? b=R o)->IntsAre out.toList f->f.Perm j->f.Pairwise (·<=·)->Q (.ref a.objs.size) {s with heap:=d}):
  wpAny (model Y w) A (call (.builtin "sorted") [.ref l]) Q E s:=by
 let(o,q,v,n,u):=p;show Calls.call_function_entry kind_sorted plain_sorted entry_sorted (args_sorted1 _) (lD (m:=checkCount "sorted" 1 1 _) (W6 (lD (wpAny_collect_seq l (.inr W) q v u (λa r=>lD (amk ?_)) (by rw[Xo,YQ];ext)))));let g:(a.push (seqObj "list" c.toArray 0)).get? a.objs.size=R (seqObj "list" c.toArray 0):=b5 _ W;show lD (Yp (Yq slot_list_sort #[_,g,W] entry_list_sort (list_sort_tree g y i λout f F C B=>#[_,W,W6 #[_,W,?_]]) (args_list_sort _)));let(e,t):=qL (out:=out) g;show h a _ out e f r t (λb G z=>oE (Xy (b4 z)) (b3 _ z)) F C B
end
end PyProof.Rows
namespace L9
open PySem PySem.Spec PyProof.Rows L2 L3
section
variable{K:CL}{E:XK}
def uN:Zf X (.builtin "sorted") (λxs H Q=>∃(p:W7) (f:bg Int),xs=[.ref p]/\SqT X.K H p (f.map V.int)/\f.length<64/\∀(l:W7) (a:bg Int),H l=P->a.Perm f->a.Pairwise (·<=·)->Q (.ref l) (aR H l (.lst (a.map V.int)))):=by
 intro j s F H xs G Q I r h;let(p,f,rfl,v,B,q):=h;let(u,rfl,o):=im r;ext o;let(M,N,pl,J):=I.tuple v;let w:=N.length;rw[W0]at w;show yO pl (lQ N) () λC L g e a y A i T m t=>?_;let b:=m.length_eq;let n:=I.kept (t':=s.toks) y;show#[.ref C.objs.size,_,n.laid i (Xd _) ?_,W,q _ a (n.Yn.fresh (Xd _)) m t];show#[?_,g.toList,e,iQ T,A];rw[W0,b];let:(64:Nat)<=Xi:=by decide
 ext
theorem u6:Zf X (.builtin "sorted") (λxs H Q=>(∃(p:M) (a:G Int),xs=[.ref p]/\SqL X.K H p (a.map V.int)/\a.length<64/\∀(l:M) (b:G Int),H l=P->b.Perm a->b.Pairwise (·<=·)->Q (.ref l) (aR H l (.lst (b.map V.int))))\/
  (∃(p:M) (a:G Int),xs=[.ref p]/\SqT X.K H p (a.map V.int)/\a.length<64/\∀(l:M) (b:G Int),H l=P->b.Perm a->b.Pairwise (·<=·)->Q (.ref l) (aR H l (.lst (b.map V.int))))):=L2.Zf.or xU uN
def fL:G D->I RV
 |[.tuple ds]=>(match nY ds with
  |some a=>if a.length<64 then R (.ow ((jH a).map .int))else P
  |none=>P)
 |ds=>vv ds
def za:A1 K (λxs H Q=>(∃(p:M) (b:G Int),xs=[.ref p]/\SqL K H p (b.map V.int)/\b.length<64/\∀(l:M) (f:G Int),H l=P->f.Perm b->f.Pairwise (·<=·)->Q (.ref l) (aR H l (.lst (f.map V.int))))\/
  (∃(p:M) (b:G Int),xs=[.ref p]/\SqT K H p (b.map V.int)/\b.length<64/\∀(l:M) (f:G Int),H l=P->f.Perm b->f.Pairwise (·<=·)->Q (.ref l) (aR H l (.lst (f.map V.int))))) fL:=by
 intro O H xs ds u Q n h e q;unfold fL at e;split at e
 .split at e
  .rename_i b j
   split at e
   .rename_i v
    ext e;cases h with
    |cons r o=>ext o;let(a,w,rfl,i,t):=DB r;rw[pU t j]at i;show .inr #[a,b,W,i.1,v,λl f m g cY=>?_];let e2:=ko (g.trans (eJ b).symm) cY (dL b);subst e2;show q.new (qj _) l m
   .ext e
  .ext e
 .show .inl (C0 O H xs ds u Q n h e q)
def IU:X7 "range"=R (.type "range"):=by left
end
end L9
namespace LD
open PySem PyProof.Rows L2 L3
mutual
def kd:Xa->Bool
 |.none=>WZ
 |.int _=>WZ
 |.str x=>Xa.strOk x
 |.tuple xs=>kds xs
 |_=>W3
def kds:bg Xa->Bool
 |[]=>WZ
 |x::r=>kd x&&kds r
end
def keyD:Xa->Bool
 |.tuple xs=>kds xs&&decide ((Xa.tuple xs).depth<=8)
 |_=>U
mutual
theorem kd_lay:∀d:Xa,kd d=WZ->d.canLay0=WZ
 |.none,_=>rfl
 |.int _,_=>rfl
 |.str x,h=>by unfold Xa.canLay0;unfold kd at h;exact h
 |.tuple xs,h=>by unfold Xa.canLay0;unfold kd at h;exact Au xs h
 |.bool _,h|.list _,h|.dict _,h=>by simp[kd]at h
theorem Au:∀xs:bg Xa,kds xs=WZ->Xa.canLayAll0 xs=WZ
 |[],_=>rfl
 |x::r,h=>by unfold kds at h;rw[WX]at h;unfold Xa.canLayAll0;rw[kd_lay x h.1,Au r h.2];rfl
end
mutual
theorem kd_eqv:∀d e:Xa,kd d=WZ->kd e=WZ->Xa.eqv d e=WZ->d=e
 |.none,e,_,h,q=>by cases e<;>simp_all [kd,Xa.eqv]
 |.int i,e,_,h,q=>by cases e<;>simp_all [kd,Xa.eqv]
 |.str x,e,_,h,q=>by cases e<;>simp_all [kd,Xa.eqv]
 |.tuple xs,e,g,h,q=>by
  cases e with
  |tuple a=>rw[Xa.eqv]at q;unfold kd at g h;rw[zT xs a g h q]
  |_=>simp_all [kd,Xa.eqv]
 |.bool _,_,h,_,_|.list _,_,h,_,_|.dict _,_,h,_,_=>by simp[kd]at h
theorem zT:∀xs ys:bg Xa,kds xs=WZ->kds ys=WZ->Xa.eqvAll xs ys=WZ->xs=ys
 |[],[],_,_,_=>rfl
 |[],_::_,_,_,q=>by simp[Xa.eqvAll]at q
 |_::_,[],_,_,q=>by simp[Xa.eqvAll]at q
 |x::xs,y::ys,g,h,q=>by unfold kds at g h;rw[Xa.eqvAll]at q;rw[WX]at g h q;rw[kd_eqv x y g.1 h.1 q.1,zT xs ys g.2 h.2 q.2]
end
def FQ[Decidable (d=e)](hd:kd d=S)(a:kd e=S):Xa.eqv d e=decide (d=e):=by
 by_cases q:d=e
 .subst q;rw[a5 W];show SeqAt.eqv_refl d (kd_lay d hd)
 .rw[a6 q]
  cases z:Xa.eqv d e with
  |false=>rfl
  |true=>show bb (kd_eqv d e hd a z) q
def keyD_kd(h:keyD d=S):kd d=S/\d.depth<=8:=by
 cases d with
 |tuple xs=>unfold keyD at h;rw[WX]at h;show#[by ext kd;show h.1,a7 h.2]
 |_=>simp[keyD]at h
mutual
def rb(w:XQ):Xa->Int
 |.none=>reduceHash 0xFCA86420
 |.int i=>hashInt i
 |.str x=>hashStr w x
 |.tuple xs=>reduceHash (XN.Tuple.tupleHashOf (rT w xs))
 |_=>0
def rT(w:XQ):bg Xa->bg Int
 |[]=>[]
 |x::r=>rb w x::rT w r
end
mutual
def UL:Xa->Nat
 |.tuple xs=>KR xs+1
 |_=>1
def KR:bg Xa->Nat
 |[]=>0
 |x::r=>UL x+KR r
end
section
variable{prog:Xu}{w:XQ}{E:WY->W9->Prop}
mutual
theorem zS:∀(d:Xa) (v:WY) (as:bg W7) (A:XJ) (s:W9) (Q:Int->W9->Prop),kd d=WZ->adK s.heap v d as->A.units+d.depth<cLine->Q (rb w d) {s with toks:=s.toks+UL d}->wpAny (model prog w) A (pyHash v) Q E s
 |.none,_,_,A,s,Q,_,r,hu,h=>by cases r;exact adx (T:= "NoneType") rfl F.slot_NoneType_hash F.entry_NoneType_hash (F.args_NoneType_hash_1 _) (ahY _) (.inr (by ext)) (lD (W6 (lD (afN (W6 ⟨_,_,rfl,h⟩)))))
 |.int i,_,_,A,s,Q,_,r,_,h=>by cases r;exact ahN h
 |.str x,_,_,A,s,Q,_,r,_,h=>by cases r;exact ahO h
 |.tuple xs,_,_,A,s,Q,hk,r,hu,h=>by
  cases r with
  | @tuple a o vs n _ _ h1 h2 h3 h4=>
   refine adx (T:= "tuple") ⟨_,h1,h2⟩ F.slot_tuple_hash F.entry_tuple_hash (F.args_tuple_hash_1 _) (ahY _) (.inr (by ext)) ?_;show wpAny _ _ (XN.Tuple.tupleItemsOf (.ref a)>>=_) _ _ s;refine lD (wpAny_tupleItemsOf h1 h3 ?_);refine lD ?_;rw[<-aer];unfold kd at hk;refine tm xs vs.toList _ A.in1 s #v[] _ hk h4 (by simp only[Xa.depth,XJ.in1_units]at hu⊢;ext) λb e=>?_;show wpAny _ _ (retInt (XN.Tuple.tupleHashOf b.toList)) _ _ _;rw[e];refine lD (afN (W6 ⟨_,_,rfl,?_⟩));unfold rb UL at h
   simpa [abB]using h
 |.bool _,_,_,_,_,_,h,_,_,_|.list _,_,_,_,_,_,h,_,_,_|.dict _,_,_,_,_,_,h,_,_,_=>by simp[kd]at h
theorem tm:∀(xs:bg Xa) (vs:bg WY) (as:bg W7) (A:XJ) (s:W9) (b:Array Int) (Q:Array Int->W9->Prop),kds xs=WZ->abF s.heap vs xs as->A.units+Xa.depthAll xs<cLine->
  (∀b':Array Int,b'.toList=b.toList++rT w xs->Q b' {s with toks:=s.toks+KR xs})->
  wpAny (model prog w) A (forIn vs b λx r=>do let h<-pyHash x;pure PUnit.unit;pure (ForInStep.yield (r.push h))) Q E s
 |[],_,_,A,s,b,Q,_,x,_,h=>by cases x;exact W6 (h b (by simp[rT]))
 |k::xs,_,_,A,s,b,Q,hk,x,hu,h=>by
  cases x with
  |cons e a=>
   unfold kds at hk;simp only[WX,Xa.depthAll]at hk hu;rw[aab];refine lD (lD (zS k _ _ A s _ hk.1 e (by ext) ?_));refine lD (W6 (W6 ?_));refine tm xs _ _ A _ _ Q hk.2 a (by ext) λb' f=>?_;have:=h b' (by simp[f,rT]);unfold KR at this
   simpa [abB]using this
end
theorem wB:∀(n:Nat) (d:Xa) (v:J) (as:G M) (A:XJ) (s:W9) (Q:Bool->W9->Prop),kd d=S->adK s.heap v d as->d.depth<=n->Q S s->wpAny (model prog w) A (eqIsQuiet n v) Q E s
 |n,.none,_,_,A,s,Q,_,r,_,h=>by ext r;rw[acy _ W];show W6 h
 |n,.int i,_,_,A,s,Q,_,r,_,h=>by ext r;rw[acy _ W];show W6 h
 |n,.str i,_,_,A,s,Q,_,r,_,h=>by ext r;rw[acy _ W];show W6 h
 |0,.tuple xs,_,_,A,s,Q,t,r,q,h=>by simp only[Xa.depth]at q;ext
 |n+1,.tuple xs,_,_,A,s,Q,t,r,q,h=>by
  cases r with
  | @tuple a o L m _ _ h1 C B u=>
   let g:s.TypeIs (.ref a) "tuple":=#[_,h1,C];simp only[Xa.depth]at q;ext eqIsQuiet;show lD (ai7 g F.slot_tuple_eq.lookup ?_);show lD (aaf g isSubtype_tuple_tuple ?_);simp only[abw,YF,if_false];show lD (YD h1 B ?_);show lD ?_;rw[<-aer];unfold kd at t;show ahZ _ (λb r e=>r.1=P/\e=s/\∃ys bs,kds ys=S/\abF s.heap b ys bs/\Xa.depthAll ys<=n) _ ?_ ?_ _ _ #[W,W,xs,_,t,u,by ext]
   .rintro v b r e ⟨f,rfl,ys,bs,k1,k2,k3⟩
    cases k2 with
    | @cons _ _ y p _ _ g1 g2=>unfold kds at k1;simp only[WX,Xa.depthAll]at k1 k3;show lD (wB n y v _ A e _ k1.1 g1 () ?_);simp only[abw,YF,if_false];show W6 #[W,W,p,_,k1.2,g2,by ext]
   .rintro⟨l,j⟩ e ⟨f,rfl,_⟩;simp only at f;subst f;show W6 h
 |_,.bool _,_,_,_,_,_,h,_,_,_|_,.list _,_,_,_,_,_,h,_,_,_|_,.dict _,_,_,_,_,_,h,_,_,_=>by simp[kd]at h
end
mutual
theorem sR{h h':Heap}{x:W7}{e:Obj}{es:Array Y3}{j:Nat}(f:h.get? x=cL e)(i:e.data=.dict es j)(g:Heap.SameBut x h h'):∀(d:Xa) (v:WY) (as:bg W7),kd d=WZ->adK h v d as->adK h' v d as
 |.none,_,_,_,r=>by cases r;exact .none
 |.int _,_,_,_,r=>by cases r;exact .int _ _
 |.str _,_,_,_,r=>by cases r;exact .str _ _
 |.tuple xs,_,_,k,r=>by
  cases r with
  | @tuple a o vs n _ _ h1 h2 h3 h4=>
   have b:a≠x:=by rintro rfl;rw[f]at h1;cases h1;rw[i]at h3;exact nomatch h3
   unfold kd at k;exact .tuple ((g.2 a b).trans h1) h2 h3 (qY f i g xs _ _ k h4)
 |.bool _,_,_,h,_|.list _,_,_,h,_|.dict _,_,_,h,_=>by simp[kd]at h
theorem qY{h h':Heap}{x:W7}{a:Obj}{es:Array Y3}{j:Nat}(b:h.get? x=cL a)(f:a.data=.dict es j)(e:Heap.SameBut x h h'):∀(ds:bg Xa) (vs:bg WY) (as:bg W7),kds ds=WZ->abF h vs ds as->abF h' vs ds as
 |[],_,_,_,r=>by cases r;exact .nil
 |d::ds,_,_,k,r=>by
  cases r with
  |cons i g=>unfold kds at k;rw[WX]at k;exact .cons (sR b f e d _ _ k.1 i) (qY b f e ds _ _ k.2 g)
end
abbrev KD:={d:Xa//keyD d=S}
noncomputable instance kdDec:DecidableEq KD:=λ_ _=>Classical.propDecidable _
def fu(prog:Xu)(w:XQ):akk prog w KD where
 is:=λh k a=>∃as,adK h (.ref a) k.1 as
 hash:=λk=>rb w k.1
 draws:=λk=>UL k.1
 room:=λA=>A.units+8<cLine
 inj:=λ#[_,r] #[_,f]=>Subtype.ext (adK.unique r _ _ f).1
 keeps:=λ{h l k a d o es m} #[as,r] j hd i=>#[as,sR j hd i k.1 _ _ (keyD_kd k.2).1 r]
 pyHash:=λ{A E s k a Q} g #[as,r] q=>zS k.1 _ as A s Q (keyD_kd k.2).1 r (by let:=(keyD_kd k.2).2;ext) q
 eqBool:=λ{A E s x y a b Q} g #[as,r] #[bs,f] q=>SeqAt.eqAt_reads x.1 y.1 A s _ _ as bs r f (kd_lay _ (keyD_kd x.2).1) (kd_lay _ (keyD_kd y.2).1) (by let:=(keyD_kd x.2).2;ext) prog w E Q (by
  haveI:Decidable (x.1=y.1):=Classical.propDecidable _
  rw[FQ (keyD_kd x.2).1 (keyD_kd y.2).1];by_cases e:x=y
  .rw[a5 e]at q;rw[a5 (dw Subtype.val e)];show q
  .rw[a6 e]at q;rw[a6 λz=>e (Subtype.ext z)];show q)
 quiet:=λ{A E s k a Q} #[as,r] q=>wB 8 k.1 _ as A s Q (keyD_kd k.2).1 r (keyD_kd k.2).2 q
def Wr(a:M)(xs:G (KD×M×V))(w:XQ)(h:Heap):Prop:=
 (xs.length<=Xi/\(a==Ys)=U/\(xs.map (·.1)).Nodup)/\∃o es b,h.get? a=R o/\o.ExactDict/\o.data=.dict es b/\Paired (λ(x:KD×M×V) (e:Y3)=>e.hash=rb w x.1.1/\e.key=.ref x.2.1/\RelV x.2.2 e.val) xs es.toList
abbrev DkO(a:M)(xs:G (KD×M×V)):HO:=.exw (Wr a xs)
abbrev PrD(O:bB)(K:CL)(H:Hp):G (KD×M×V)->G (D×D)->Prop:=
 Paired λx kv=>x.1.1=kv.1/\L3.DV O K H (.ref x.2.1) kv.1/\L3.DV O K H x.2.2 kv.2
end LD
namespace L10
open PySem L2 L3
inductive AV where
 |fz (d:D)
 |rf (i:Nat)
inductive SV where
 |fz (d:D)
 |rf (i:Nat)
 |tp (l:G AV)
def AV.sv:AV->SV
 |.fz d=>.fz d
 |.rf i=>.rf i
inductive Cell where
 |lst (xs:G SV)
 |dct (XA:G (cg×SV))
 |obj (C:Str) (fs:G (Str×SV))
 |dd (XA:G (D×D))
 |dead
abbrev aK:=G Cell
abbrev aP:=G (I SV)
inductive RS(α:Type) where
 |ok (a:α) (ω:aK)
 |er (x:Xc) (ω:aK)
 |bad
def RS.bind(r:RS α)(f:α->aK->RS β):RS β:=match r with
 |.ok a b=>f a b
 |.er x b=>.er x b
 |.bad=>.bad
def RS.X5(b:aK):I α->RS α
 |some a=>.ok a b
 |none=>.bad
theorem RS.bind_ok(a:α)(b:aK)(f:α->aK->RS β):(RS.ok a b).bind f=f a b:=W
abbrev d5:=@RS.bind_ok
def Lv(α:G M)(a:aK):bB:=λb=>∃(i:Nat) (c:Cell),α[i]?=R b/\a[i]?=R c/\c≠Cell.dead
def ow(B:bB)(α:G M)(a:aK):bB:=λb=>B b\/Lv α a b
section
variable(O:bB)(K:CL)(H:Hp)(Z:bg W7)
def AOk(v:V):AV->Prop
 |.fz d=>DV O K H v d
 |.rf i=>∃a,Z[i]?=R a/\v=.ref a
def ZA(v:V):SV->Prop
 |.fz d=>DV O K H v d
 |.rf i=>∃a,Z[i]?=R a/\v=.ref a
 |.tp l=>∃a xs,v=.ref a/\aaN O K H a xs/\Paired (AOk O K H Z) xs l
abbrev Zb:G V->G SV->Prop:=Paired (ZA O K H Z)
def COk(a:M):Cell->Prop
 |.lst xs=>∃e,H a=R (.lst e)/\Zb O K H Z e xs
 |.dct b=>∃ws:G (cg×V),H a=R (.dK ws)/\Paired (λ(p:cg×V) (q:cg×SV)=>p.1=q.1/\ZA O K H Z p.2 q.2) ws b
 |.obj C fs=>∃Ca f ws,XH K Xv C=R (R (.ref Ca))/\H a=R (.ins Ca f ws)/\Paired (λ(p:Str×V) (q:Str×SV)=>p.1=q.1/\ZA O K H Z p.2 q.2) ws fs
 |.dd b=>∃xs,H a=R (LD.DkO a xs)/\LD.PrD O K H xs b
 |.dead=>True
def Zx(a:L2.St)(b:aP):Prop:=a.length=b.length/\∀(i:Nat) (x:SV),b[i]?=R (R x)->∃v,a[i]?=R (R v)/\ZA O K H Z v x
end
structure StoOk(B:bB)(K:CL)(H:Hp)(α:G M)(ω:aK):Prop where
 len:α.length=ω.length
 nd:∀(i j:Nat) (a:M),α[i]?=R a->α[j]?=R a->i=j
 bn:∀a,B a->H a≠P
 ba:∀a,B a->∀i:Nat,α[i]?≠R a
 al:∀(i:Nat) (a:M),α[i]?=R a->H a≠P
 cel:∀(i:Nat) (a:M) (c:Cell),α[i]?=R a->ω[i]?=R c->COk (ow B α ω) K H α a c
structure YB(α:G M)(ω:aK)(H:Hp)(α':G M)(ω':aK)(H':Hp):Prop where
 pre:∀(i:Nat) (a:M),α[i]?=R a->α'[i]?=R a
 kp:∀b o,H b=R o->¬Lv α ω b->H' b=R o
 lv:∀b,Lv α' ω' b->Lv α ω b\/H b=P
section
variable{B O Q:bB}{K:CL}{E:XK}{H t S N:Hp}{Z Y U T:bg W7}{L X ω1 R:aK}{σ:L2.St}{ρ:aP}{v:V}
theorem YB.refl:YB Z L H Z L H:=#[λ_ _ h=>h,λ_ _ h _=>h,λ_ h=>.inl h]
def YB.trans(a:YB Z L H U ω1 S)(b:YB U ω1 S T R N):YB Z L H T R N:=by
 let e:∀b o,H b=cL o->¬Lv Z L b->¬Lv U ω1 b:=λb o h n z=>(a.lv b z).elim n λq=>by simp_all
 show#[λi p h=>b.pre i p (a.pre i p h),λp o h n=>b.kp p o (a.kp p o h n) (e p o h n),λp h=>?_];rcases b.lv p h with h|h
 .show a.lv p h
 .cases q:H p with
  |none=>simp_all
  |some o=>show .inl (Classical.byContradiction λn=>?_);rw[a.kp p o q n]at h;ext h
theorem YB.same(s:YN H t):YB Z L H Z L t:=#[λ_ _ h=>h,λb o h _=>s b o h,λ_ h=>.inl h]
theorem YB.ev(e:YB Z L H Y X t):Ev (ow B Z L) H (ow B Y X) t:=λb o h n=>
 #[e.kp b o h λz=>n (.inr z),λz=>z.elim (λq=>n (.inl q)) λq=>(e.lv b q).elim (λq=>n (.inr q)) λq=>by simp_all]
def AOk.ev(e:Ev O H Q t)(p:∀(i:Nat) (a:M),Z[i]?=cL a->Y[i]?=cL a)(h:AOk O K H Z v x):AOk Q K t Y v x:=by
 cases x with
 |fz d=>show DV.ev e h
 |rf i=>let(a,f,b):=h;show#[a,p i a f,b]
def ZA.ev(e:Ev O H Q t)(p:∀(i:Nat) (a:M),Z[i]?=cL a->Y[i]?=cL a)(h:ZA O K H Z v x):ZA Q K t Y v x:=by
 cases x with
 |fz d=>show DV.ev e h
 |rf i=>let(a,f,b):=h;show#[a,p i a f,b]
 |tp l=>let(a,xs,f,b,g):=h;show#[a,xs,f,b.ev e,Paired.Z4 g λ_ _ q=>q.ev e p]
theorem ZA.Za(e:YB Z L H Y X t)(h:ZA (ow B Z L) K H Z v x):ZA (ow B Y X) K t Y v x:=h.ev e.ev e.pre
theorem Zb.Za(e:YB Z L H Y X t)(h:Zb (ow B Z L) K H Z vs xs):Zb (ow B Y X) K t Y vs xs:=Paired.Z4 h λ_ _ q=>q.Za e
theorem Zx.Za(e:YB Z L H Y X t)(h:Zx (ow B Z L) K H Z σ ρ):Zx (ow B Y X) K t Y σ ρ:=#[h.1,λi x q=>let#[v,h1,a]:=h.2 i x q;#[v,h1,a.Za e]]
def COk.ev(e:Ev O H Q t)(p:∀(i:Nat) (a:M),Z[i]?=cL a->Y[i]?=cL a)(d:∀o,H a=cL o->t a=cL o)(h:COk O K H Z a c):COk Q K t Y a c:=by
 cases c with
 |lst xs=>let(j,f,b):=h;show#[j,d _ f,Paired.Z4 b λ_ _ q=>q.ev e p]
 |dct m=>let(ws,f,b):=h;show#[ws,d _ f,Paired.Z4 b λ_ _ q=>#[q.1,q.2.ev e p]]
 |obj C fs=>let(Ca,l,ws,g,f,b):=h;show#[Ca,l,ws,g,d _ f,Paired.Z4 b λ_ _ q=>#[q.1,q.2.ev e p]]
 |dd m=>let(xs,f,b):=h;show#[xs,d _ f,Paired.Z4 b λ_ _ q=>#[q.1,q.2.1.ev e,q.2.2.ev e]]
 |dead=>trivial
theorem StoOk.noO(s:StoOk B K H Z L):mH (ow B Z L) H:=λa h z=>z.elim (λq=>s.bn a q h) λ#[i,c,q,_]=>s.al i a q h
theorem StoOk.owd(s:StoOk B K H Z L):∀a,ow B Z L a->H a≠P:=λa z h=>s.noO a h z
def StoOk.grow(s:StoOk B K H Z L)(e:YN H t):StoOk B K t Z L:=by let n:∀a,H a≠P->t a≠P:=λa h z=>h (e.free z);show#[s.len,s.nd,λa h=>n a (s.bn a h),s.ba,λi a h=>n a (s.al i a h),λi a c f b=>(s.cel i a c f b).ev (Ev.grow e) (λ_ _ h=>h) λo h=>e _ _ h]
def StoOk.at(s:StoOk B K H Z L){i:Nat}(h:L[i]?=cL c):∃a,Z[i]?=cL a:=by let:i<L.length:=(W2.mp h).1;rw[<-s.len]at this;simp_all
theorem StoOk.af5(s:StoOk B K H Z L){i:Nat}(h:Z[i]?=cL a):¬B a:=λz=>s.ba a z i h
def zq{i:Nat}{c m:Cell}(h:L[i]?=cL c)(n:c≠.dead)(g:m≠.dead){b:M}:Lv Z (L.set i m) b↔Lv Z L b:=by
 constructor
 .rintro⟨j,d,f,a,l⟩
  rcases bE a with⟨rfl,rfl⟩|⟨_,a⟩
  .show#[j,c,f,h,n]
  .show#[j,d,f,a,l]
 .rintro⟨j,d,f,a,l⟩
  by_cases e:j=i
  .subst e;show#[j,m,f,by rw[Ye (W2.mp h).1],g]
  .show#[j,d,f,by rw[XD (λz=>e z.symm)];show a,l]
def Rv(h:L[i]?=cL c)(e:c≠.dead)(a:o≠.dead):ow B Z (L.set i o)=ow B Z L:=by funext b;show propext #[λz=>z.imp id (zq h e a).mp,λz=>z.imp id (zq h e a).mpr]
theorem YB.put(d:Z[i]?=cL a)(h:L[i]?=cL c)(g:c≠.dead)(f:c'≠.dead):YB Z L H Z (L.set i c') (aR H a o):=
 #[λ_ _ h=>h,λb j q n=>by let z:b≠a:=λe=>n #[i,c,by simp_all,h,g];rw[ar z];show q,λb z=>.inl ((zq h g f).mp z)]
def StoOk.put(s:StoOk B K H Z L)(k:Z[i]?=cL a)(h:L[i]?=cL c)(p:c≠.dead)(f:c'≠.dead)(new:COk (ow B Z L) K (aR H a o) Z a c'):StoOk B K (aR H a o) Z (L.set i c'):=by
 let e:YB Z L H Z (L.set i c') (aR H a o):=YB.put k h p f;let n:∀b,H b≠P->aR H a o b≠P:=λb h=>by
  by_cases z:b=a
  .subst z;rw[ay];simp
  .rw[ar z];show h
 show#[by rw[Yc];show s.len,s.nd,λb h=>n b (s.bn b h),s.ba,λj b h=>n b (s.al j b h),λj b d m l=>?_];rcases bE l with⟨rfl,rfl⟩|⟨g,l⟩
 .rw[k]at m;ext m;rw[Rv h p f];show new
 .show(s.cel j b d m l).ev e.ev e.pre λu q=>by rw[ar (λz=>g (s.nd j i a (by simp_all) k))];show q
theorem qI{i:Nat}{a:M}{c:Cell}{o:HO}(d:Z[i]?=cL a)(h:L[i]?=cL c)(b:c≠.dead):Ev (ow B Z L) H (ow B Z L) (aR H a o):=Ev.mut (.inr #[i,c,d,h,b]) o
def a9{Z:Type}{l:G Z}{x y:Z}{i:Nat}(h:(l++[x])[i]?=cL y):l[i]?=cL y\/(i=l.length/\y=x):=by
 by_cases hi:i<l.length
 .rw[Xe hi]at h;show .inl h
 .rw[XO ()]at h
  cases q:i - l.length with
  |zero=>rw[q]at h;ext h;show .inr #[by ext,W]
  |succ n=>rw[q]at h;ext h
def ei{Z:Type}{l:G Z}{x y:Z}{i:Nat}(h:l[i]?=cL y):(l++[x])[i]?=cL y:=by rw[Xe (W2.mp h).1];show h
def bf:(l++[x])[l.length]?=cL x:=by simp
def rC(g:Z.length=L.length)(h:Lv (Z++[p]) (L++[c]) b):Lv Z L b\/b=p:=by
 let(i,d,e,a,f):=h;rcases a9 e with e|⟨e1,e2⟩
 .rcases a9 a with a|⟨e1,e2⟩
  .show .inl #[i,d,e,a,f]
  simp_all
 .show .inr e2
theorem YB.adl(f:Z.length=L.length)(s:YN H t)(g:H p=P):YB Z L H (Z++[p]) (L++[c]) t:=
 #[λi a h=>ei h,λb u q _=>s b u q,λb z=>(rC f z).imp id λe=>by simp_all]
def StoOk.adl(s:StoOk B K H Z L)(e:YN H t)(l:H p=P)(m:t p≠P)(new:COk (ow B (Z++[p]) (L++[c])) K t (Z++[p]) p c):StoOk B K t (Z++[p]) (L++[c]):=by
 let ev:YB Z L H (Z++[p]) (L++[c]) t:=YB.adl s.len e l;let n:∀b,H b≠P->t b≠P:=λb h z=>h (e.free z);show#[by rw[Xf,Xf,s.len];rfl,λi j a f g=>?_,λa h=>n a (s.bn a h),λa h i q=>?_,λi a h=>?_,λi a d f g=>?_]
 .rcases a9 f with g1|⟨e1,e2⟩<;>rcases a9 g with g2|⟨e3,e4⟩
  .show s.nd i j a g1 g2
  .show bb (by rw[e4];show l) (s.al i a g1)
  .show bb (by rw[e2];show l) (s.al j a g2)
  .omega
 .rcases a9 q with q|⟨_,e2⟩
  .show s.ba a h i q
  .subst e2;show s.bn a h l
 .rcases a9 h with h|⟨_,e2⟩
  .show n a (s.al i a h)
  simp_all
 .rcases a9 g with g|⟨e1,e2⟩
  .rcases a9 f with f|⟨e1,_⟩
   .show(s.cel i a d f g).ev ev.ev ev.pre λo q=>e _ _ q
   .let:=(W2.mp g).1;let:=s.len;ext
  .rcases a9 f with f|⟨_,e3⟩
   .let:=(W2.mp f).1;let:=s.len;ext
   simp_all
def WS(K:CL)(E:XK)(B:bB)(H:Hp)(Z:G M)(L:aK)(P:A->G M->aK->Hp->Prop):RS A->Prop
 |.ok a X=>∀Y t,YB Z L H Y X t->StoOk B K t Y X->P a Y X t
 |.er x X=>∀c b Y t,YB Z L H Y X t->StoOk B K t Y X->XOk K (ow B Y X) t c b x->E c b t
 |.bad=>False
def WS.from(e:YB Z L H U ω1 S)(h:WS K E B H Z L f r):WS K E B S U ω1 f r:=by
 cases r with
 |ok a R=>show λT N e2 b=>h T N (e.trans e2) b
 |er x R=>show λc g T N e2 b=>h c g T N (e.trans e2) b
 |bad=>show h
def WS.bind(h:WS K E B H Z L b (r.bind k)):WS K E B H Z L (λa U ω1 S=>WS K E B S U ω1 b (k a ω1)) r:=by
 cases r with
 |ok a ω1=>show λU S e1 _=>WS.from e1 h
 |er x ω1=>show h
 |bad=>show h
def WS.X5(h:WS K E B H Z L b ((RS.X5 L o).bind k)):∃a,o=cL a/\WS K E B H Z L b (k a L):=by
 cases o with
 |none=>show h.elim
 |some a=>show#[a,W,h]
def WS.imp(h:WS K E B H Z L e r)(g:∀a Y X t,YB Z L H Y X t->StoOk B K t Y X->e a Y X t->P' a Y X t):WS K E B H Z L P' r:=by
 cases r with
 |ok a ω1=>show λU S e1 b=>g a U ω1 S e1 b (h U S e1 b)
 |er x ω1=>show h
 |bad=>show h
theorem WS.now(s:StoOk B K H Z L)(h:WS K E B H Z L b (.ok a L)):b a Z L H:=h Z H .refl s
end
abbrev cw:=aP->aK->RS SV
abbrev tU:=aP->aK->RS Bool
abbrev wE:=aP->aK->RS (G SV)
def bT(K:CL)(E:XK)(t:TE)(f:cw):Prop:=
 ∀(B:bB) (e:L2.St) (H:Hp) (α:G M) (h:aK) (i:aP) (Q:VK),StoOk B K H α h->Zx (ow B α h) K H α e i->WS K E B H α h (λx a b g=>∀v,ZA (ow B a b) K g a v x->Q v g) (f i h)->t e H Q
def v8(K:CL)(E:XK)(t:TT)(f:tU):Prop:=
 ∀(B:bB) (a:L2.St) (H:Hp) (α:G M) (g:aK) (h:aP) (Q:Bool->Hp->Prop),StoOk B K H α g->Zx (ow B α g) K H α a h->WS K E B H α g (λb _ _ e=>Q b e) (f h g)->t a H Q
def v4(K:CL)(E:XK)(t:TA)(f:wE):Prop:=
 ∀(B:bB) (e:L2.St) (H:Hp) (α:G M) (h:aK) (i:aP) (Q:G V->Hp->Prop),StoOk B K H α h->Zx (ow B α h) K H α e i->WS K E B H α h (λxs a b g=>∀j,Zb (ow B a b) K g a j xs->Q j g) (f i h)->t e H Q
section
variable{B O N:bB}{K:CL}{E:XK}{H H' U H2:Hp}{Z P Y J:bg W7}{ω M ω1 T:aK}{X:L2.St}{ρ:aP}{v:V}
def Nt:I SV->I PV
 |some (.fz d)=>R (.fz d)
 |_=>Ld
def bV(ρ:aP):aQ:=ρ.map Nt
def tS{i:Nat}(h:(bV ρ)[i]?=R (R x)):∃d,x=.fz d/\ρ[i]?=R (R (.fz d)):=by
 unfold bV at h;rw[Xg]at h;cases q:ρ[i]? with
 |none=>simp_all
 |some o=>
  rw[q]at h;let a:=Xj h;unfold Nt at a;split at a
  .ext a;show#[_,W,W]
  .ext a
def FJ(s:StoOk B K H Z ω)(a:Zx (ow B Z ω) K H Z X ρ):Rl K (ow B Z ω) H (ow B Z ω) X H (bV ρ):=by
 show#[YN.refl _,λ_ h=>h,s.owd,s.noO,by ext bV;rw[W0];show a.1,λi x h=>?_,λi j ds es w h=>?_]
 .let(d,rfl,b):=tS h;let(v,g,f):=a.2 i _ b;show#[v,g,f]
 .let(d,e,_):=tS h;ext e
def kQ(ω:aK):RV->RS SV
 |.fz d=>.ok (.fz d) ω
 |.ow ds=>.ok (.rf ω.length) (ω++[.lst (ds.map .fz)])
abbrev PQ(B:bB)(K:CL)(Q:VK):SV->G W7->aK->Hp->Prop:=λx P M H'=>∀v,ZA (ow B P M) K H' P v x->Q v H'
theorem jN(O:bB)(Z:G W7):∀{a:G V} {ds:G D},YE O K H a ds->Zb O K H Z a (ds.map .fz)
 |_,_,.nil=>.nil
 |_,_,.cons h t=>.cons h (jN O Z t)
theorem zj:∀{a:G V} {ds:G D},Zb O K H Z a (ds.map .fz)->YE O K H a ds
 |_,[],.nil=>.nil
 |_,_::_,.cons h t=>.cons h (zj t)
def rR(s:StoOk B K H Z ω)(w:WS K E B H Z ω (PQ B K Q) (kQ ω (.ow ds)))(e:YN H H')(a:H p=Ld)(h:H' p=R (.lst o))(hd:YE N K H' o ds)(f:∀b,ow B Z ω b->N b)(g:N p):Q (.ref p) H':=by
 let sub:∀b,ow B (Z++[p]) (ω++[.lst (ds.map .fz)]) b->N b:=λb z=>z.elim (λq=>f b (.inl q)) λq=>(rC s.len q).elim (λq=>f b (.inr q)) λq=>by simp_all
 show w (Z++[p]) H' (YB.adl s.len e a) (s.adl e a (by rw[h];simp) #[o,h,jN _ _ (hd.ev (Ev.sub sub))]) (.ref p) #[p,by rw[<-s.len];show bf,W]
def Iw(s:StoOk B K H Z ω)(w:WS K E B H Z ω (PQ B K Q) (kQ ω o)):Fin (ow B Z ω) K H Q o:=by
 cases o with
 |fz d=>show λv H' e a=>w Z H' (YB.same e) (s.grow e) v a
 |ow ds=>show λp g H' e f h a=>rR s w e f h a (λb z=>.inl z) (.inr W)
def ae(f:FE):cw:=λρ ω=>match f (bV ρ)with
 |.ok (.fz d,_)=>.ok (.fz d) ω
 |.ok (.ow ds,_)=>kQ ω (.ow ds)
 |.ok (.pl _,_)=>.bad
 |.er x=>.er x ω
 |.bad=>.bad
def Hb(h:EO K E t f):bT K E t (ae f):=by
 intro B X H Z ω ρ Q s g w;show h (ow B Z ω) H (ow B Z ω) X H (bV ρ) Q (FJ s g) ?_;unfold ae at w;cases q:f (bV ρ)with
 |bad=>rw[q]at w;show w.elim
 |er x=>rw[q]at w;show λc u H' e k=>w c u Z H' (YB.same e) (s.grow e) k
 |ok r=>
  let(pv,b):=r;rw[q]at w;intro N v H' e R p;cases pv with
  |fz d=>show w Z H' (YB.same R.same) (s.grow R.same) v (DV.ev (Ev.sub R.bo) p)
  |ow ds=>let(a,y,rfl,n,m,l,j,o):=p;show rR s w R.same m l j R.bo n
  |pl i=>show w.elim
def bp(f:FT):tU:=λρ ω=>match f (bV ρ)with
 |.ok (b,_)=>.ok b ω
 |.er x=>.er x ω
 |.bad=>.bad
def Fo(h:TTO K E t f):v8 K E t (bp f):=by
 intro B X H Z ω ρ Q s g w;show h (ow B Z ω) H (ow B Z ω) X H (bV ρ) Q (FJ s g) ?_;unfold bp at w;cases q:f (bV ρ)with
 |bad=>rw[q]at w;show w.elim
 |er x=>rw[q]at w;show λc i H' e k=>w c i Z H' (YB.same e) (s.grow e) k
 |ok r=>let(b,a):=r;rw[q]at w;show λN H' e R=>w Z H' (YB.same R.same) (s.grow R.same)
def aq(i:Nat):cw:=λρ ω=>match ρ[i]? with
 |some (R x)=>.ok x ω
 |_=>.bad
def J0:bT K E (nA i) (aq i):=by
 intro B X H Z ω ρ Q s a w;unfold aq at w;cases q:ρ[i]? with
 |none=>rw[q]at w;show w.elim
 |some o=>
  cases o with
  |none=>rw[q]at w;show w.elim
  |some x=>rw[q]at w;let(v,e,b):=a.2 i x q;show#[v,e,WS.now s w v b]
def kN(K:CL)(C:Str)(fs:G Str):Prop:=∃Ca,XH K Xv C=R (R (.ref Ca))/\Cls K Ca/\∀f∈fs,aau K Ca f
def aU(C f:Str)(e:cw):cw:=λρ ω=>(e ρ ω).bind λx ω1=>match x with
 |.rf i=>(match ω1[i]? with
  |some (.obj D fs)=>if D=C then RS.X5 ω1 (fs.lookup f)else .bad
  |_=>.bad)
 |_=>.bad
def C1:∀{ws:G (Str×V)} {fs:G (Str×SV)},Paired (λ(p:Str×V) (q:Str×SV)=>p.1=q.1/\ZA O K H Z p.2 q.2) ws fs->fs.lookup f=R x->∃v,ws.lookup f=R v/\ZA O K H Z v x:=by
 intro ws fs p
 induction p with
 |nil=>intro h;ext h
 | @cons a b _ _ q t i=>
  let(a,v):=a;let(b,y):=b;let(g,e):=q;intro h;ext g;rw[X1]at h⊢;split at h
  .ext h;show#[v,W,e]
  .show i h
def CD:∀{ws:G (Str×V)} {fs:G (Str×SV)},Paired (λ(p:Str×V) (q:Str×SV)=>p.1=q.1/\ZA O K H Z p.2 q.2) ws fs->fs.lookup f=Ld->ws.lookup f=Ld:=by
 intro ws fs p
 induction p with
 |nil=>intro h;rfl
 | @cons a b _ _ q t i=>
  let(a,v):=a;let(b,y):=b;let(e,g):=q;intro h;ext e;rw[X1]at h⊢;split at h
  .ext h
  .show i h
def AI(o:kN K C L)(n:f∈L)(k:bT K E ta fa):bT K E (QI K ta f) (aU C f fa):=by
 intro B X H Z ω ρ Q s h w;show k B X H Z ω ρ _ s h (w.bind.imp λx Y ω1 U e1 e b v j=>?_);cases x with
 |fz d=>show b.elim
 |tp l=>show b.elim
 |rf i=>
  let(a,k,rfl):=j;dsimp only at b;cases q:ω1[i]? with
  |none=>rw[q]at b;show b.elim
  |some c=>
   rw[q]at b;cases c with
   |obj D fs=>
    dsimp only at b;by_cases z:D=C
    .subst z
     rw[ax W]at b;let(Ca,dx,ws,t,r,p):=e.cel i a _ k q;cases ql:fs.lookup f with
     |none=>rw[ql]at b;show b.elim
     |some x=>rw[ql]at b;let(u,m,g):=C1 p ql;let(F,g0,A,y):=o;rw[t]at g0;ext g0;show#[a,Ca,dx,ws,u,W,r,A,y f n,m,WS.now e b u g]
    .rw[a4 z]at b;show b.elim
   |_=>show b.elim
def aA{Z a:Type}(f:Z->I a):G Z->I (G a)
 |[]=>R []
 |x::r=>match f x with
  |some y=>(match aA f r with
   |some b=>R (y::b)
   |none=>Ld)
  |none=>Ld
def tF:Nat->aK->SV->I D
 |_,_,.fz d=>R d
 |0,_,_=>Ld
 |n+1,ω,.rf i=>match ω[i]? with
  |some (.lst xs)=>(aA (tF n ω) xs).map .list
  |_=>Ld
 |n+1,ω,.tp l=>(aA (λx=>tF n ω x.sv) l).map .tuple
theorem cS{Z a:Type}{f:Z->I a}{R:V->Z->Prop}{S:V->a->Prop}(h:∀v x y,R v x->f x=cL y->S v y):∀{c:G V} {xs:G Z} {ys:G a},Paired R c xs->aA f xs=cL ys->Paired S c ys
 |_,_,_,.nil,e=>by ext e;show .nil
 |_,_,_,.cons (b:=x) (l₂:=xs) r t,e=>by
  unfold aA at e;cases q:f x with
  |none=>simp_all
  |some y=>
   rw[q]at e;dsimp only at e;cases g:aA f xs with
   |none=>simp_all
   |some ys=>rw[g]at e;ext e;show .cons (h _ _ _ r q) (cS h t g)
def lB:∀{b:G V} {ds:G D},Paired (DV O K H) b ds->YE O K H b ds:=by
 intro _ _ p
 induction p with
 |nil=>show .nil
 |cons h t a=>show .cons h a
theorem Nz:Ev O H noO H:=Ev.sub λ_ z=>z.elim
theorem jf(s:StoOk B K H Z ω):∀(n:Nat) {v:V} {x:SV} {d:D},ZA (ow B Z ω) K H Z v x->tF n ω x=cL d->DV noO K H v d
 |n,v,.fz o,d,h,e=>by
  let g:cL o=cL d:=by ext n<;>show e
  ext g;show DV.ev Nz h
 |0,v,.rf i,d,h,e=>by ext e
 |0,v,.tp l,d,h,e=>by ext e
 |n+1,v,.rf i,d,h,e=>by
  let(a,m,rfl):=h;unfold tF at e;cases q:ω[i]? with
  |none=>simp_all
  |some c=>
   rw[q]at e;cases c with
   |lst xs=>
    dsimp only at e;cases j:aA (tF n ω) xs with
    |none=>simp_all
    |some ds=>rw[j]at e;ext e;let(p,f,b):=s.cel i a _ m q;show .lst #[aam.of f,λz=>z.elim] (lB (cS (R:=ZA (ow B Z ω) K H Z) (λv x y r e=>jf s n r e) b j))
   |_=>ext e
 |n+1,v,.tp l,d,h,e=>by
  let(a,xs,rfl,f,b):=h;unfold tF at e;cases j:aA (λx=>tF n ω x.sv) l with
  |none=>simp_all
  |some ds=>rw[j]at e;ext e;show .tup (f.ev Nz) (lB (cS (λv x y r e=>jf s n (by ext x<;>show r) e) b j))
def vx:SV->I D
 |.fz d=>R d
 |_=>Ld
def sh(ω:aK):SV->I D
 |.fz d=>R d
 |.rf i=>match ω[i]? with
  |some (.lst xs)=>(aA vx xs).map .list
  |_=>Ld
 |.tp _=>Ld
def FW(s:StoOk B K H Z ω)(h:ZA (ow B Z ω) K H Z v x)(e:sh ω x=R d):DX (ow B Z ω) K H v d:=by
 cases x with
 |fz g=>ext e;show DV.x h
 |tp l=>ext e
 |rf i=>
  let(a,n,rfl):=h;unfold sh at e;dsimp only at e;cases q:ω[i]? with
  |none=>simp_all
  |some c=>
   rw[q]at e;cases c with
   |lst xs=>
    dsimp only at e;cases j:aA vx xs with
    |none=>simp_all
    |some ds=>
     rw[j]at e;ext e;let(m,f,b):=s.cel i a _ n q;show#[a,m,W,aam.of f,lB (cS (λv x y r e=>?_) b j)];cases x with
     |fz d=>ext e;show r
     |rf i=>ext e
     |tp l=>ext e
   |_=>ext e
def Jc:D->Bool
 |.none=>S
 |.bool _=>S
 |.int _=>S
 |.str _=>S
 |_=>W3
def Jr(h:Jc d=S)(a:DV O K H v d):DV N K H' v d:=by
 cases a with
 |Zk=>show .Zk
 |bl b=>show .bl b
 |int i=>show .int i
 |str x=>show .str x
 |tup _ _=>ext h
 |lst _ _=>ext h
def wW(ω:aK):RV->RS SV
 |.fz d=>if Jc d=S then .ok (.fz d) ω else .bad
 |.ow _=>.bad
def HP(s:StoOk B K H Z ω)(w:WS K E B H Z ω (PQ B K Q) (wW ω o)):Fin noO K H Q o:=by
 cases o with
 |fz d=>
  let w:WS K E B H Z ω (PQ B K Q) (if Jc d=S then RS.ok (SV.fz d) ω else RS.bad):=w;by_cases z:Jc d=S
  .rw[ax z]at w;show λv H' e a=>w Z H' (YB.same e) (s.grow e) v (Jr z a)
  .rw[a4 z]at w;show w.elim
 |ow ds=>show w.elim
theorem Ex:mH noO H:=λ_ _ z=>z
def si(f:D->D->I RV)(x y:SV)(ω:aK):RS SV:=match sh ω x,sh ω y with
 |some g,R b=>(RS.X5 ω (f g b)).bind λe ω1=>kQ ω1 e
 |_,_=>(RS.X5 ω (tF 6 ω x)).bind λg ω1=>(RS.X5 ω1 (tF 6 ω1 y)).bind λb T=>(RS.X5 T (f g b)).bind λe a=>wW a e
def yK(n:kZ K r f)(s:StoOk B K H Z ω)(m:ZA (ow B Z ω) K H Z x a)(l:ZA (ow B Z ω) K H Z y b)(w:WS K E B H Z ω (PQ B K Q) (si f a b ω)):r x y H Q:=by
 let o:WS K E B H Z ω (PQ B K Q) ((RS.X5 ω (tF 6 ω a)).bind λq ω1=>(RS.X5 ω1 (tF 6 ω1 b)).bind λe T=>(RS.X5 T (f q e)).bind λp i=>wW i p)->r x y H Q:=λw=>by let(q,h,w):=w.X5;let(e,g,w):=w.X5;let(p,j,w):=w.X5;show n noO H x y q e p Q Ex (DV.x (jf s 6 m h)) (DV.x (jf s 6 l g)) j (HP s w)
 unfold si at w;cases h:sh ω a with
 |none=>simp_all
 |some q=>
  cases g:sh ω b with
  |none=>simp_all
  |some e=>rw[h,g]at w;let(p,j,w):=w.X5;show n _ H x y q e p Q s.noO (FW s m h) (FW s l g) j (Iw s w)
def jo(f:D->D->I RV)(a fb:cw):cw:=λρ ω=>(a ρ ω).bind λx ω1=>(fb ρ ω1).bind λy T=>si f x y T
def DK(l:kZ K r f)(c:bT K E C fa)(m:bT K E o fb):bT K E (DC r C o) (jo f fa fb):=by intro B X H Z ω ρ Q s a w;show c B X H Z ω ρ _ s a (w.bind.imp λx Y ω1 U e1 h e v i=>?_);show m B X U Y ω1 ρ _ h (a.Za e1) (e.bind.imp λy J T H2 e2 g b u j=>?_);show yK l g (i.Za e2) j b
def KI:SV->I Bool
 |.fz (.bool b)=>R b
 |_=>Ld
def IQ(e:KI x=R b)(h:ZA O K H Z v x):v=.bl b:=by
 unfold KI at e;split at e
 .ext e;ext h;rfl
 .ext e
def aW(a:cw):tU:=λρ ω=>(a ρ ω).bind λx ω1=>RS.X5 ω1 (KI x)
def jK(c:bT K E o C):v8 K E (tH o) (aW C):=by
 intro B X H Z ω ρ Q s e w;show c B X H Z ω ρ _ s e (w.bind.imp λx Y ω1 U e1 f a v g=>?_);cases q:KI x with
 |none=>rw[q]at a;show a.elim
 |some b=>rw[q]at a;show#[b,IQ q g,WS.now f a]
theorem E3(a:bT K E o C):v8 K E (tB o) (aW C):=jK a
def lU(a fb:tU):tU:=λρ ω=>(a ρ ω).bind λb ω1=>if b=S then fb ρ ω1 else .ok W3 ω1
def wa(a fb:tU):tU:=λρ ω=>(a ρ ω).bind λb ω1=>if b=S then .ok S ω1 else fb ρ ω1
def qJ(a:tU):tU:=λρ ω=>(a ρ ω).bind λb ω1=>.ok (!b) ω1
def LV(j:v8 K E t f)(i:v8 K E u g):v8 K E (Pd t u) (lU f g):=by
 intro B X H Z ω ρ Q s e w;show j B X H Z ω ρ _ s e (w.bind.imp λb Y ω1 U e1 h a=>?_);cases b with
 |true=>show i B X U Y ω1 ρ Q h (e.Za e1) a
 |false=>show WS.now h a
def QC(j:v8 K E t f)(i:v8 K E u g):v8 K E (V6 t u) (wa f g):=by
 intro B X H Z ω ρ Q s e w;show j B X H Z ω ρ _ s e (w.bind.imp λb Y ω1 U e1 h a=>?_);cases b with
 |true=>show WS.now h a
 |false=>show i B X U Y ω1 ρ Q h (e.Za e1) a
def KQ(h:v8 K E t f):v8 K E (Kl t) (qJ f):=by intro B X H Z ω ρ Q s e w;show h B X H Z ω ρ _ s e (w.bind.imp λb Y ω1 U e1 g a=>WS.now g a)
def oU:tU:=λ_ ω=>.ok S ω
theorem Fb:v8 K E G4 oU:=λB X H Z ω ρ Q s a w=>WS.now s w
def wq(a fb:cw):cw:=λρ ω=>(aW a ρ ω).bind λb ω1=>if b=S then fb ρ ω1 else .ok (.fz (.bool W3)) ω1
def Ke(d:bT K E C fa)(g:bT K E o fb):bT K E (NV C o) (wq fa fb):=by
 intro B X H Z ω ρ Q s e w;show jK d B X H Z ω ρ (λc U=>if c=S then o X U Q else Q (.bl W3) U) s e (w.bind.imp λb Y ω1 U e1 f a=>?_);cases b with
 |true=>show g B X U Y ω1 ρ Q f (e.Za e1) a
 |false=>show WS.now f a _ (.bl W3)
def EW(c:tU)(a fb:cw):cw:=λρ ω=>(c ρ ω).bind λb ω1=>if b=S then a ρ ω1 else fb ρ ω1
def QW(g:v8 K E t c)(d:bT K E C fa)(h:bT K E o fb):bT K E (SE t C o) (EW c fa fb):=by
 intro B X H Z ω ρ Q s a w;show g B X H Z ω ρ _ s a (w.bind.imp λb Y ω1 U e1 f e=>?_);cases b with
 |true=>show d B X U Y ω1 ρ Q f (a.Za e1) e
 |false=>show h B X U Y ω1 ρ Q f (a.Za e1) e
def aI:wE:=λ_ ω=>.ok [] ω
def ai(a:cw)(fr:wE):wE:=λρ ω=>(a ρ ω).bind λx ω1=>(fr ρ ω1).bind λxs T=>.ok (x::xs) T
theorem zO:v4 K E gM aI:=λB X H Z ω ρ Q s a w=>WS.now s w [] .nil
def Ej(c:bT K E o C)(j:v4 K E tr fr):v4 K E (c8 o tr) (ai C fr):=by intro B X H Z ω ρ Q s b w;show c B X H Z ω ρ _ s b (w.bind.imp λx Y ω1 U e1 h f v i=>?_);show j B X U Y ω1 ρ _ h (b.Za e1) (f.bind.imp λxs J T H2 e2 g e l a=>?_);show WS.now g e (v::l) (.cons (i.Za e2) a)
def UI:SV->I AV
 |.fz d=>R (.fz d)
 |.rf i=>R (.rf i)
 |.tp _=>Ld
def Uu(xs:G SV):I SV:=match aA vx xs with
 |some ds=>R (.fz (.tuple ds))
 |none=>(aA UI xs).map .tp
def mE(a:wE):cw:=λρ ω=>(a ρ ω).bind λxs ω1=>if xs.length<=1000 then RS.X5 ω1 (Uu xs)else .bad
def yE(r:ZA O K H Z v x)(e:vx x=R d):DV O K H v d:=by
 cases x with
 |fz d=>ext e;show r
 |rf i=>ext e
 |tp l=>ext e
def RA(r:ZA O K H Z v x)(e:UI x=R d):AOk O K H Z v d:=by
 cases x with
 |fz d=>ext e;show r
 |rf i=>ext e;show r
 |tp l=>ext e
def JZ(c:v4 K E C fa):bT K E (FD C) (mE fa):=by
 intro B X H Z ω ρ Q s m w;show c B X H Z ω ρ _ s m (w.bind.imp λxs Y ω1 U e1 f a n g=>?_);by_cases hn:xs.length<=1000
 .rw[ax hn]at a
  show#[by rw[g.length];show yP hn,λp j=>?_];let b:YN U (aR U p (.tup n)):=bj j _;let e:YB Y ω1 U Y ω1 (aR U p (.tup n)):=YB.same b;let i:aaN (ow B Y ω1) K (aR U p (.tup n)) p n:=#[SqT.of ay,λz=>bb z (f.noO p j)];unfold Uu at a;cases q:aA vx xs with
  |some ds=>rw[q]at a;show a Y _ e (f.grow b) _ (.tup i (lB (cS (R:=ZA (ow B Y ω1) K U Y) (λv x y r h=>(yE r h).ev e.ev) g q)))
  |none=>
   rw[q]at a;dsimp only at a;cases o:aA UI xs with
   |none=>rw[o]at a;show a.elim
   |some l=>rw[o]at a;show a Y _ e (f.grow b) _ #[p,n,W,i,cS (R:=ZA (ow B Y ω1) K U Y) (λv x y r h=>(RA r h).ev e.ev e.pre) g o]
 .rw[a4 hn]at a;show a.elim
def OL(f:G D->I RV)(xs:G SV)(ω:aK):RS SV:=match aA (sh ω) xs with
 |some ds=>(RS.X5 ω (f ds)).bind λb ω1=>kQ ω1 b
 |_=>(RS.X5 ω (aA (tF 6 ω) xs)).bind λds ω1=>(RS.X5 ω1 (f ds)).bind λb a=>wW a b
def yk(f:G D->I RV)(a:wE):cw:=λρ ω=>(a ρ ω).bind λxs ω1=>OL f xs ω1
def Ro(i:A1 K r f)(c:v4 K E C fa):bT K E (tI r C) (yk f fa):=by
 intro B X H Z ω ρ Q s j w;show c B X H Z ω ρ _ s j (w.bind.imp λxs Y ω1 U e1 b a o h=>?_);unfold OL at a;cases n:aA (sh ω1) xs with
 |none=>rw[n]at a;let(ds,l,a):=a.X5;let(m,g,a):=a.X5;show i noO U o ds m Q Ex (cS (R:=ZA (ow B Y ω1) K U Y) (λv x y r e=>DV.x (jf b 6 r e)) h l) g (HP b a)
 |some ds=>rw[n]at a;let(m,g,a):=a.X5;show i _ U o ds m Q b.noO (cS (R:=ZA (ow B Y ω1) K U Y) (λv x y r e=>FW b r e) h n) g (Iw b a)
end
section
variable{B O O':bB}{K:CL}{E:XK}{H H' N M:Hp}{Z L U T:bg W7}{ω X ω1 Y:aK}{S:L2.St}{ρ:aP}{v:V}
theorem y0:∀{c:G V} {xs:G β} {i:Nat} {x:β},Paired f c xs->xs[i]?=cL x->∃v,c[i]?=cL v/\f v x
 |_,_,_,_,.nil,e=>by simp at e
 |_,_,0,_,.cons h _,e=>by simp_all
 |_,_,i+1,x,.cons _ t,e=>by let(v,b,a):=y0 t (by simpa using e);simp_all
def N7{b:G V}(h:Paired a b xs)(e:lM xs i=cL x):∃v,lM b i=cL v/\a v x:=by
 unfold lM at e⊢;rw[h.length];cases q:M5 xs.length i with
 |none=>simp_all
 |some j=>rw[q]at e;show y0 h e
def Ij:SV->I Int
 |.fz (.int i)=>R i
 |_=>P
def zV(e:Ij x=R i)(h:ZA O K H Z v x):v=.int i:=by
 unfold Ij at e;split at e
 .ext e;ext h;rfl
 .ext e
def QT(x y:SV)(ω:aK):RS SV:=match x with
 |.fz _=>si bc x y ω
 |.rf j=>(match ω[j]? with
  |some (.lst xs)=>(RS.X5 ω (Ij y)).bind λi ω1=>RS.X5 ω1 (lM xs i)
  |_=>.bad)
 |.tp l=>(RS.X5 ω (Ij y)).bind λi ω1=>RS.X5 ω1 ((lM l i).map AV.sv)
def iZ(a fb:cw):cw:=λρ ω=>(a ρ ω).bind λx ω1=>(fb ρ ω1).bind λy Y=>QT x y Y
def QM(k:bT K E ta fa)(C:bT K E tb fb):bT K E (DC (TH K) ta tb) (iZ fa fb):=by
 intro B S H Z ω ρ Q s r w;show k B S H Z ω ρ _ s r (w.bind.imp λx U ω1 N e1 A t v e=>?_);show C B S N U ω1 ρ _ A (r.Za e1) (t.bind.imp λy T Y M e2 f b u n=>?_);let e:=e.Za e2;unfold QT at b;cases x with
 |fz d=>show yK Gj f e n b
 |rf j=>
  let(a,k,rfl):=e;dsimp only at b;cases q:Y[j]? with
  |none=>rw[q]at b;show b.elim
  |some c=>
   rw[q]at b;cases c with
   |lst xs=>
    let(i,h,b):=WS.X5 b;cases qa:lM xs i with
    |none=>rw[qa]at b;show b.elim
    |some x=>rw[qa]at b;let(vs,p,o):=f.cel j a _ k q;let(z,m,g):=N7 o qa;show .inl #[a,vs,i,z,W,zV h n,SqL.of p,m,WS.now f b z g]
   |_=>show b.elim
 |tp l=>
  let(a,xs,rfl,p,o):=e;let(i,h,b):=WS.X5 b;cases qa:lM l i with
  |none=>rw[qa]at b;show b.elim
  |some x=>rw[qa]at b;let(z,m,g):=N7 o qa;show .inr (.inl #[a,xs,i,z,W,zV h n,p.1,m,WS.now f b z (by ext x<;>show g)])
def pN(h:Lv Z (ω.set i .dead) b):Lv Z ω b:=by
 let(j,c,f,a,e):=h;rcases bE a with⟨rfl,rfl⟩|⟨_,a⟩
 .simp_all
 .show#[j,c,f,a,e]
theorem YB.kill:YB Z ω H Z (ω.set i .dead) H:=#[λ_ _ h=>h,λ_ _ h _=>h,λ_ h=>.inl (pN h)]
def StoOk.kill(s:StoOk B K H Z ω)(i:Nat):StoOk B K H Z (ω.set i .dead):=by
 let e:YB Z ω H Z (ω.set i .dead) H:=YB.kill;show#[by rw[Yc];show s.len,s.nd,s.bn,s.ba,s.al,λj b d g a=>?_];rcases bE a with⟨rfl,rfl⟩|⟨f,a⟩
 .show trivial
 .show(s.cel j b d g a).ev e.ev e.pre λu q=>q
def StoOk.ad0(s:StoOk B K H Z ω)(d:Z[i]?=R a):¬ow B Z (ω.set i .dead) a:=by
 rintro(z|⟨j,c,g,f,e⟩)
 .show s.af5 d z
 .let:=s.nd j i a g d
  subst this;rcases bE f with⟨_,rfl⟩|⟨b,_⟩
  .show e W
  .show b W
def pA(g:aK->SV->I (D×aK)):aK->G SV->I (G D×aK)
 |ω,[]=>R ([],ω)
 |ω,x::r=>match g ω x with
  |some (d,ω1)=>(match pA g ω1 r with
   |some (ds,Y)=>R (d::ds,Y)
   |none=>P)
  |none=>P
def frz:Nat->aK->SV->I (D×aK)
 |_,ω,.fz d=>R (d,ω)
 |0,_,_=>P
 |n+1,ω,.rf i=>match ω[i]? with
  |some (.lst xs)=>(match pA (frz n) ω xs with
   |some (ds,ω1)=>R (.list ds,ω1.set i .dead)
   |none=>P)
  |_=>P
 |n+1,ω,.tp l=>match pA (frz n) ω (l.map AV.sv)with
  |some (ds,ω1)=>R (.tuple ds,ω1)
  |none=>P
theorem vY(a:∀{ω X:aK} {v:V} {x:SV} {d:D},StoOk B K H Z ω->ZA (ow B Z ω) K H Z v x->g ω x=R (d,X)->StoOk B K H Z X/\YB Z ω H Z X H/\L3.DV (ow B Z X) K H v d):
  ∀{c:G V} {xs:G SV} {ds:G D} {ω X:aK},StoOk B K H Z ω->Zb (ow B Z ω) K H Z c xs->pA g ω xs=R (ds,X)->StoOk B K H Z X/\YB Z ω H Z X H/\L3.YE (ow B Z X) K H c ds
 |_,_,_,ω,X,s,.nil,e=>by ext e;show#[s,.refl,.nil]
 |_,_,_,ω,X,s,.cons (b:=x) (l₂:=xs) r t,e=>by
  unfold pA at e;cases q:g ω x with
  |none=>simp_all
  |some p=>
   let(d,ω1):=p;rw[q]at e;dsimp only at e;let(h,e1,l):=a s r q;cases m:pA g ω1 xs with
   |none=>simp_all
   |some i=>let(ds,Y):=i;rw[m]at e;ext e;let(f,e2,j):=vY a h (Zb.Za e1 t) m;show#[f,e1.trans e2,.cons (l.ev e2.ev) j]
theorem uL:∀{a:G V} {l:G AV},Paired (AOk O K H Z) a l->Zb O K H Z a (l.map AV.sv)
 |_,_,.nil=>.nil
 |_,_,.cons (b:=x) h t=>.cons (by ext x<;>show h) (uL t)
theorem vM:∀(n:Nat) {ω X:aK} {v:V} {x:SV} {d:D},StoOk B K H Z ω->ZA (ow B Z ω) K H Z v x->frz n ω x=R (d,X)->StoOk B K H Z X/\YB Z ω H Z X H/\L3.DV (ow B Z X) K H v d
 |n,ω,X,v,.fz t,d,s,h,e=>by
  let m:R (t,ω)=R (d,X):=by ext n<;>show e
  ext m;show#[s,.refl,h]
 |0,_,_,v,.rf i,d,s,h,e=>by ext e
 |0,_,_,v,.tp l,d,s,h,e=>by ext e
 |n+1,ω,X,v,.rf i,d,s,h,e=>by
  let(a,r,rfl):=h;unfold frz at e;cases q:ω[i]? with
  |none=>simp_all
  |some c=>
   rw[q]at e;cases c with
   |lst xs=>
    dsimp only at e;let(u,g,f):=s.cel i a _ r q;cases o:pA (frz n) ω xs with
    |none=>simp_all
    |some p=>let(ds,ω1):=p;rw[o]at e;ext e;let(b,e1,j):=vY (λs h e=>vM n s h e) s f o;show#[b.kill i,e1.trans YB.kill,vZ g (b.ad0 r) (j.ev (YB.kill).ev)]
   |_=>ext e
 |n+1,ω,X,v,.tp l,d,s,h,e=>by
  let(a,xs,rfl,g,f):=h;unfold frz at e;cases o:pA (frz n) ω (l.map AV.sv)with
  |none=>simp_all
  |some p=>let(ds,ω1):=p;rw[o]at e;ext e;let(b,e1,j):=vY (λs h e=>vM n s h e) s (uL f) o;show#[b,e1,.tup (g.ev e1.ev) j]
def Ru(x:SV)(ω:aK):RS SV:=match frz 4 ω x with
 |some (d,ω1)=>.ok (.fz d) ω1
 |none=>.bad
def qA(f:cw):cw:=λρ ω=>(f ρ ω).bind λx ω1=>Ru x ω1
def KA(h:bT K E t f):bT K E t (qA f):=by
 intro B S H Z ω ρ Q s b w;show h B S H Z ω ρ _ s b (w.bind.imp λx U ω1 N e1 g a v i=>?_);unfold Ru at a;cases q:frz 4 ω1 x with
 |none=>rw[q]at a;show a.elim
 |some p=>let(d,Y):=p;rw[q]at a;let(e,e2,j):=vM 4 g i q;show a U N e2 e v j
def XOk.sub(h:∀b,O' b->O b)(k:XOk K O H c dx x):XOk K O' H c dx x:=by let(i,fs,g,a):=k;show#[i,fs,g,λf d e=>let#[g1,v,g2,g3]:=a f d e;#[g1,v,g2,g3.ev (Ev.sub h)]]
def xP(F:FN)(n:Nat)(xs:G SV)(ω:aK):RS SV:=if xs.length=n then(match aA vx xs with
 |some ds=>(match F ds with
  |.ok a=>kQ ω a
  |.er x=>.er x ω
  |.bad=>.bad)
 |none=>(RS.X5 ω (aA (tF 6 ω) xs)).bind λds ω1=>(match F ds with
  |.ok a=>wW ω1 a
  |_=>.bad))else .bad
def iW:RS A->RS A
 |.er _ _=>.bad
 |r=>r
def hG(F:FN)(n:Nat)(a:wE):cw:=λρ ω=>(a ρ ω).bind λxs ω1=>iW (xP F n xs ω1)
def WS.e0(h:WS K E B H Z ω b (iW r)):WS K E0 B H Z ω b r:=by
 cases r with
 |ok a ω=>show h
 |er x ω=>show h.elim
 |bad=>show h
def Km(s:StoOk B K H Z ω)(b:Zb (ow B Z ω) K H Z o xs)(w:WS K E B H Z ω (PQ B K Q) (xP F n xs ω)):Cv K n F o H Q E:=by
 unfold xP at w;by_cases hn:xs.length=n
 .rw[ax hn]at w
  show#[b.length.trans hn,?_];cases q:aA vx xs with
  |some ds=>
   rw[q]at w;show#[ow B Z ω,ds,s.owd,lB (cS (R:=ZA (ow B Z ω) K H Z) (λv x y r e=>yE r e) b q),?_];dsimp only at w;cases g:F ds with
   |ok h=>rw[g]at w;show Iw s w
   |er x=>rw[g]at w;show λc i H' e k=>w c i Z H' (YB.same e) (s.grow e) k
   |bad=>rw[g]at w;show w.elim
  |none=>
   rw[q]at w;let(ds,f,w):=WS.X5 w;show#[noO,ds,λa z=>z.elim,lB (cS (R:=ZA (ow B Z ω) K H Z) (λv x y r e=>jf s 6 r e) b f),?_];cases g:F ds with
   |ok h=>rw[g]at w;show HP s w
   |er x=>rw[g]at w;show w.elim
   |bad=>rw[g]at w;show w.elim
 .rw[a4 hn]at w;show w.elim
def Me(c:v4 K E o C):bT K E (jw (Cv K n F) [] E0 o) (hG F n C):=by intro B S H Z ω ρ Q s b w;show c B S H Z ω ρ _ s b (w.bind.imp λxs U ω1 N e1 e a g f=>?_);rw[X2];show Km e f (WS.e0 a)
abbrev fS:=G SV->aK->RS SV
def kB(K:CL)(n:Nat)(F:fS):Sp:=λa H Q E=>a.length=n/\∃(B:bB) (Z:G W7) (ω:aK) (xs:G SV),StoOk B K H Z ω/\Zb (ow B Z ω) K H Z a xs/\WS K E B H Z ω (PQ B K Q) (F xs ω)
def mQ(F:fS)(n:Nat)(a:wE):cw:=λρ ω=>(a ρ ω).bind λxs ω1=>if xs.length=n then iW (F xs ω1)else .bad
def Cg(c:v4 K E o C):bT K E (jw (kB K n F) [] E0 o) (mQ F n C):=by
 intro B S H Z ω ρ Q s e w;show c B S H Z ω ρ _ s e (w.bind.imp λxs U ω1 N e1 f a g b=>?_);rw[X2];by_cases hn:xs.length=n
 .rw[ax hn]at a;show#[b.length.trans hn,B,U,ω1,xs,f,b,WS.e0 a]
 .rw[a4 hn]at a;show a.elim
def kR(ω:aK)(C m:Str):SV->Bool
 |.rf i=>match ω[i]? with
  |some (.obj D fs)=>decide (D=C)&&(fs.lookup m).isNone
  |_=>W3
 |_=>W3
def oB(C m:Str)(F:fS)(n:Nat)(a:cw)(b:wE):cw:=λρ ω=>(a ρ ω).bind λx ω1=>if kR ω1 C m x=WZ then(b ρ ω1).bind λxs Y=>(if(x::xs).length=n then F (x::xs) Y else .bad)else .bad
def aM(C m:Str)(F:fS)(n:Nat)(a:cw)(b:wE):cw:=λρ ω=>(a ρ ω).bind λx ω1=>if kR ω1 C m x=WZ then(b ρ ω1).bind λxs Y=>(if(x::xs).length=n then iW (F (x::xs) Y)else .bad)else .bad
def HC(f:XH K Xv C=R (R (.ref Ca)))(s:StoOk B K H Z ω)(b:ZA (ow B Z ω) K H Z v x)(h:kR ω C m x=WZ):∃a k fs,v=.ref a/\H a=R (.ins Ca k fs)/\fs.lookup m=P:=by
 cases x with
 |fz d=>ext h
 |tp l=>ext h
 |rf i=>
  let(a,r,rfl):=b;unfold kR at h;dsimp only at h;cases q:ω[i]? with
  |none=>simp_all
  |some c=>
   rw[q]at h;cases c with
   |obj D fs=>rw[WX]at h;let(j,g):=h;let e:=a7 j;subst e;let(p,k,ws,g0,o,n):=s.cel i a _ r q;rw[f]at g0;ext g0;show#[a,k,ws,W,o,CD n (Zz.mp g)]
   |_=>ext h
def He(q:XH K Xv C=R (R (.ref Ca)))(p:bT K E to fo)(c:v4 K E ta fa):bT K E (tZ Ca m (kB K n F) [] E to ta) (oB C m F n fo fa):=by
 intro B S H Z ω ρ Q s g w;show p B S H Z ω ρ _ s g (w.bind.imp λx U ω1 N e1 i e v j=>?_);by_cases h:kR ω1 C m x=WZ
 .rw[ax h]at e
  let(a,y,fs,rfl,t,r):=HC q i j h;show#[a,y,fs,W,t,r,?_];show c B S N U ω1 ρ _ i (g.Za e1) (e.bind.imp λxs T Y M e2 o b u f=>?_);rw[X2];let l:Zb (ow B T Y) K M T (.ref a::u) (x::xs):=.cons (j.Za e2) f;by_cases hn:(x::xs).length=n
  .rw[ax hn]at b;show#[l.length.trans hn,B,T,Y,_,o,l,b]
  .rw[a4 hn]at b;show b.elim
 .rw[a4 h]at e;show e.elim
def Cc(q:XH K Xv C=R (R (.ref Ca)))(p:bT K E to fo)(c:v4 K E ta fa):bT K E (tZ Ca m (kB K n F) [] E0 to ta) (aM C m F n fo fa):=by
 intro B S H Z ω ρ Q s g w;show p B S H Z ω ρ _ s g (w.bind.imp λx U ω1 N e1 i e v j=>?_);by_cases h:kR ω1 C m x=WZ
 .rw[ax h]at e
  let(a,y,fs,rfl,t,r):=HC q i j h;show#[a,y,fs,W,t,r,?_];show c B S N U ω1 ρ _ i (g.Za e1) (e.bind.imp λxs T Y M e2 o b u f=>?_);rw[X2];let l:Zb (ow B T Y) K M T (.ref a::u) (x::xs):=.cons (j.Za e2) f;by_cases hn:(x::xs).length=n
  .rw[ax hn]at b;show#[l.length.trans hn,B,T,Y,_,o,l,WS.e0 b]
  .rw[a4 hn]at b;show b.elim
 .rw[a4 h]at e;show e.elim
def Dp:SV->Bool
 |.fz .none=>WZ
 |_=>W3
def sU(C:Str)(F:fS)(n:Nat)(xs:G SV)(ω:aK):RS SV:=if(SV.rf ω.length::xs).length=n then(F (.rf ω.length::xs) (ω++[.obj C []])).bind λr Y=>(if Dp r=WZ then .ok (.rf ω.length) Y else .bad)else .bad
def Dg(C:Str)(F:fS)(n:Nat)(a:wE):cw:=λρ ω=>(a ρ ω).bind λxs ω1=>sU C F n xs ω1
def rh(C:Str)(F:fS)(n:Nat)(a:wE):cw:=λρ ω=>(a ρ ω).bind λxs ω1=>iW (sU C F n xs ω1)
def JQ(h:Dp x=WZ)(a:ZA O K H Z v x):v=.Zk:=by
 unfold Dp at h;split at h
 .ext a;rfl
 .ext h
def El(q:XH K Xv C=R (R (.ref Ca)))(s:StoOk B K H Z ω)(p:Zb (ow B Z ω) K H Z vs xs)(w:WS K E B H Z ω (PQ B K Q) (sU C F n xs ω)):
  ∀x c,H x=P->H c=P->c≠x->kB K n F (.ref x::(vs++[])) (aR (aR H c (.own x)) x (.ins Ca c [])) (λv M=>v=.Zk/\Q (.ref x) M) E:=by
 intro x c f i h;rw[X2];unfold sU at w;let j:YN H (aR (aR H c (.own x)) x (.ins Ca c [])):=(bj i _).trans (bj (by rw[ar (λz=>h z.symm)];show f) _);let e:YB Z ω H (Z++[x]) (ω++[.obj C []]) (aR (aR H c (.own x)) x (.ins Ca c [])):=YB.adl s.len j f;let o:StoOk B K (aR (aR H c (.own x)) x (.ins Ca c [])) (Z++[x]) (ω++[.obj C []]):=s.adl j f (by rw[ay];simp) #[Ca,c,[],q,ay,.nil];let a:∀{L:G W7} {X:aK} {H':Hp},YB (Z++[x]) (ω++[.obj C []]) (aR (aR H c (.own x)) x (.ins Ca c [])) L X H'->ZA (ow B L X) K H' L (.ref x) (.rf ω.length):=λe=>#[x,e.pre _ _ (by rw[<-s.len];show bf),W];by_cases hn:(SV.rf ω.length::xs).length=n
 .rw[ax hn]at w
  let l:Zb (ow B (Z++[x]) (ω++[.obj C []])) K (aR (aR H c (.own x)) x (.ins Ca c [])) (Z++[x]) (.ref x::vs) (.rf ω.length::xs):=.cons (a .refl) (Zb.Za e p);show#[l.length.trans hn,B,_,_,_,o,l,?_];show WS.imp (WS.from e w.bind) λr T Y M e2 m b v g=>?_;by_cases z:Dp r=WZ
  .rw[ax z]at b;show#[JQ z g,WS.now m b _ (a e2)]
  .rw[a4 z]at b;show b.elim
 .rw[a4 hn]at w;show w.elim
def KU(g:XH K Xv C=R (R (.ref Ca)))(c:v4 K E o fa):bT K E (wY Ca (kB K n F) [] E o) (Dg C F n fa):=by intro B S H Z ω ρ Q s b w;show c B S H Z ω ρ _ s b (w.bind.imp λxs U ω1 N e1 e a h f=>?_);show El g e f a
def Il(g:XH K Xv C=R (R (.ref Ca)))(c:v4 K E o fa):bT K E (wY Ca (kB K n F) [] E0 o) (rh C F n fa):=by intro B S H Z ω ρ Q s b w;show c B S H Z ω ρ _ s b (w.bind.imp λxs U ω1 N e1 e a h f=>?_);show El g e f (WS.e0 a)
def jL(ω:aK):SV->I (Nat×G SV)
 |.rf i=>match ω[i]? with
  |some (.lst xs)=>R (i,xs)
  |_=>P
 |_=>P
def AZ(s:StoOk B K H Z ω)(b:ZA (ow B Z ω) K H Z v x)(h:jL ω x=R (i,xs)):ω[i]?=R (.lst xs)/\∃a k,Z[i]?=R a/\v=.ref a/\H a=R (.lst k)/\Zb (ow B Z ω) K H Z k xs:=by
 cases x with
 |fz d=>ext h
 |tp l=>ext h
 |rf j=>
  let(a,n,rfl):=b;unfold jL at h;dsimp only at h;cases q:ω[j]? with
  |none=>simp_all
  |some c=>
   rw[q]at h;cases c with
   |lst m=>let e:=Xj h;ext e;let(k,g,f):=s.cel i a _ n q;show#[q,a,k,n,W,g,f]
   |_=>ext h
def Bp(h:Paired e o xs)(r:e v x):Paired e (o++[v]) (xs++[x]):=by
 induction h with
 |nil=>show .cons r .nil
 |cons a _ b=>show .cons a b
def l7(b c:cw):cw:=λρ ω=>(b ρ ω).bind λo ω1=>(RS.X5 ω1 (jL ω1 o)).bind λ_ ω1=>(c ρ ω1).bind λx Y=>(RS.X5 Y (jL Y o)).bind λp a=>
 if p.2.length<1000000 then .ok (.fz .none) (a.set p.1 (.lst (p.2++[x])))else .bad
def KY(F:bT K E to fo)(G:bT K E te fe):bT K E (RK K "list" vt to (c8 te gM)) (l7 fo fe):=by
 intro B S H Z ω ρ Q s j w;show F B S H Z ω ρ _ s j (w.bind.imp λo U ω1 N e1 m e v n=>?_);let((P,y),A,e):=WS.X5 e;let(_,t,f,_,rfl,g0,_):=AZ m n A;show#[.inl #[W,f,SqL.of g0],?_];show G B S N U ω1 ρ _ m (j.Za e1) (e.bind.imp λx T Y M e2 l b u C=>?_);let((i,xs),q,b):=WS.X5 b;let(g,a,vs,ha,J,I,p):=AZ l (n.Za e2) q;ext J;dsimp only at b;by_cases hn:xs.length<1000000
 .rw[ax hn]at b;let ev:Ev (ow B T Y) M (ow B T Y) (aR M t (.lst (vs++[u]))):=qI ha g (by nofun);show#[t,vs,u,W,W,I,tf (by rw[p.length];show hn),?_];show b T _ (YB.put ha g (by nofun) (by nofun)) (l.put ha g (by nofun) (by nofun) #[_,ay,Bp (Paired.Z4 p λ_ _ r=>r.ev ev λ_ _ h=>h) (C.ev ev λ_ _ h=>h)]) _ .Zk
 .rw[a4 hn]at b;show b.elim
end
inductive FlS where
 |nx (ρ:aP)
 |bk (ρ:aP)
 |ct (ρ:aP)
 |rt (x:SV)
abbrev dG:=aP->aK->RS FlS
abbrev wN:=SV->aP->aK->RS aP
abbrev C8:=G SV->aP->aK->RS aP
def kS(B:bB)(K:CL)(D:Ends):FlS->G M->aK->Hp->Prop
 |.nx b,α,a,H=>∀σ,Zx (ow B α a) K H α σ b->D.nx σ H
 |.bk b,α,a,H=>∀σ,Zx (ow B α a) K H α σ b->D.bk σ H
 |.ct b,α,a,H=>∀σ,Zx (ow B α a) K H α σ b->D.ct σ H
 |.rt x,α,a,H=>∀v,ZA (ow B α a) K H α v x->D.rt v H
def mJ(K:CL)(E:XK)(t:TS)(g:dG):Prop:=
 ∀(B:bB) (a:L2.St) (H:Hp) (α:G M) (b:aK) (e:aP) (D:Ends),StoOk B K H α b->Zx (ow B α b) K H α a e->WS K E B H α b (kS B K D) (g e b)->t D a H
def IK(K:CL)(E:XK)(g:TG)(f:wN):Prop:=
 ∀(B:bB) (h:L2.St) (H:Hp) (α:G M) (j:aK) (m:aP) (v:V) (x:SV) (Q:L2.St->Hp->Prop),StoOk B K H α j->Zx (ow B α j) K H α h m->ZA (ow B α j) K H α v x->WS K E B H α j (λe a b i=>∀l,Zx (ow B a b) K i a l e->Q l i) (f x m j)->g v h H Q
def Fw(K:CL)(E:XK)(g:yy)(f:C8):Prop:=
 ∀(B:bB) (h:L2.St) (H:Hp) (α:G M) (j:aK) (m:aP) (n:G V) (xs:G SV) (Q:L2.St->Hp->Prop),StoOk B K H α j->Zx (ow B α j) K H α h m->Zb (ow B α j) K H α n xs->WS K E B H α j (λe a b i=>∀l,Zx (ow B a b) K i a l e->Q l i) (f xs m j)->g n h H Q
section
variable{B O O':bB}{K:CL}{E:XK}{H H' S P:Hp}{X M U Y:bg W7}{ω N ω1 Z:aK}{T:L2.St}{ρ:aP}{v:V}
def Zx.set(a:Zx O K H X T ρ)(h:ZA O K H X v x):Zx O K H X (T.set i (R v)) (ρ.set i (R x)):=by
 show#[by rw[Yc,Yc];show a.1,λj y g=>?_];rcases bE g with⟨rfl,e⟩|⟨f,b⟩
 .ext e;show#[v,?_,h];rw[Ye];let:=vV g;rw[a.1];show this
 .let(u,m,l):=a.2 j y b;show#[u,by rw[XD (λz=>f z.symm)];show m,l]
def eA(i:Nat):wN:=λx ρ ω=>.ok (ρ.set i (R x)) ω
theorem wA:IK K E (oW i) (eA i):=λB T H X ω ρ v x Q s a h w=>WS.now s w _ (a.set h)
def vg:C8:=λxs ρ ω=>match xs with
 |[]=>.ok ρ ω
 |_=>.bad
def jB(f:wN)(g:C8):C8:=λxs ρ ω=>match xs with
 |x::r=>(f x ρ ω).bind λa ω1=>g r a ω1
 |[]=>.bad
def K6:Fw K E J8 vg:=by
 intro B T H X ω ρ b xs Q s a h w;cases h with
 |nil=>show#[W,WS.now s w _ a]
 |cons _ _=>show w.elim
def Ee(p:IK K E t f)(o:Fw K E u g):Fw K E (Bq t u) (jB f g):=by
 intro B T H X ω ρ q xs Q s m h w;cases h with
 |nil=>show w.elim
 |cons a b=>show#[_,_,W,p B T H X ω ρ _ _ _ s m a (WS.imp (WS.bind w) λi U ω1 S e1 n l e j=>?_)];show o B e S U ω1 i _ _ _ n j (Zb.Za e1 b) l
def E8:SV->I (G SV)
 |.fz (.tuple ds)=>R (ds.map .fz)
 |.tp l=>R (l.map AV.sv)
 |_=>Ld
def Oz(h:ZA O K H X v x)(e:E8 x=R xs):∃a c,v=.ref a/\aaN O K H a c/\Zb O K H X c xs:=by
 unfold E8 at e;split at e
 .ext e
  cases h with
  |tup h f=>show#[_,_,W,h,jN _ _ f]
 .ext e;let(a,b,rfl,i,g):=h;show#[a,b,W,i,uL g]
 .ext e
def Hm(n:Nat)(f:C8):wN:=λx ρ ω=>(RS.X5 ω (E8 x)).bind λxs ω1=>if xs.length=n then f xs ρ ω1 else .bad
def Lg(h:Fw K E t f):IK K E (K5 K n t) (Hm n f):=by
 intro B T H X ω ρ v x Q s e g w;let(xs,q,w):=WS.X5 w;let(a,j,rfl,i,b):=Oz g q;by_cases hn:xs.length=n
 .rw[ax hn]at w;show#[a,j,W,i.1,b.length.trans hn,h B T H X ω ρ j xs Q s e b w]
 .rw[a4 hn]at w;show w.elim
def bN:dG:=λρ ω=>.ok (.nx ρ) ω
def aC(f g:dG):dG:=λρ ω=>(f ρ ω).bind λa ω1=>match a with
 |.nx b=>g b ω1
 |a=>.ok a ω1
def bv(f:cw):dG:=λρ ω=>(f ρ ω).bind λ_ ω1=>.ok (.nx ρ) ω1
def cb(f:cw)(g:wN):dG:=λρ ω=>(f ρ ω).bind λx ω1=>(g x ρ ω1).bind λa Z=>.ok (.nx a) Z
def bS(c:tU)(f g:dG):dG:=λρ ω=>(c ρ ω).bind λb ω1=>if b=WZ then f ρ ω1 else g ρ ω1
def gv(f:cw):dG:=λρ ω=>(f ρ ω).bind λx ω1=>.ok (.rt x) ω1
def qu:dG:=λ_ ω=>.ok (.rt (.fz .none)) ω
theorem Eb:mJ K E GP bN:=λB T H X ω ρ D s a w=>WS.now s w T a
theorem EX:mJ K E Nc qu:=λB T H X ω ρ D s a w=>WS.now s w .Zk .Zk
def J3(m:mJ K E t f)(l:mJ K E u g):mJ K E (GD t u) (aC f g):=by
 intro B T H X ω ρ D s j w;show m B T H X ω ρ {D with nx:=u D} s j (WS.imp (WS.bind w) λn U ω1 S e1 e b=>?_);cases n with
 |nx a=>show λh i=>l B h S U ω1 a D e i b
 |rt x=>show WS.now (E:=E) e b
 |bk a=>show WS.now (E:=E) e b
 |ct a=>show WS.now (E:=E) e b
def GM(h:bT K E t f):mJ K E (xH t) (bv f):=by intro B T H X ω ρ D s a w;show h B T H X ω ρ _ s a (WS.imp (WS.bind w) λx U ω1 S e1 e b v g=>WS.now e b T (a.Za e1))
def AR(h:bT K E t f)(p:IK K E g C):mJ K E (wP t g) (cb f C):=by intro B T H X ω ρ D s e w;show h B T H X ω ρ _ s e (WS.imp (WS.bind w) λx U ω1 S e1 n l v o=>?_);show p B T S U ω1 ρ v x _ n (e.Za e1) o (WS.imp (WS.bind l) λi Y Z P e2 m j a b=>WS.now m j a b)
def Ps(i:v8 K E c o)(l:mJ K E t f)(j:mJ K E u g):mJ K E (L5 c t u) (bS o f g):=by
 intro B T H X ω ρ D s a w;show i B T H X ω ρ _ s a (WS.imp (WS.bind w) λb U ω1 S e1 h e=>?_);cases b with
 |true=>show l B T S U ω1 ρ D h (a.Za e1) e
 |false=>show j B T S U ω1 ρ D h (a.Za e1) e
def Lo(h:bT K E t f):mJ K E (Cf t) (gv f):=by intro B T H X ω ρ D s b w;show h B T H X ω ρ _ s b (WS.imp (WS.bind w) λx U ω1 S e1 e a v g=>WS.now e a v g)
def C6(i:Nat)(f:D->D->I RV)(b:cw):dG:=λρ ω=>(aq i ρ ω).bind λx ω1=>(b ρ ω1).bind λy Z=>(si f x y Z).bind λz a=>.ok (.nx (ρ.set i (R z))) a
def L8(m:kZ K r f)(n:bT K E C fe):mJ K E (Um i C r) (C6 i f fe):=by
 intro B T H X ω ρ D s a w;unfold C6 aq at w;cases q:ρ[i]? with
 |none=>rw[q]at w;show w.elim
 |some o=>
  cases o with
  |none=>rw[q]at w;show w.elim
  |some x=>rw[q]at w;let(v,A,p):=a.2 i x q;show#[v,A,n B T H X ω ρ _ s a (WS.imp (WS.bind w) λy U ω1 S e1 h e u j=>?_)];show yK m h (p.Za e1) j (WS.imp (WS.bind e) λz Y Z P e2 g b t l=>WS.now g b _ ((a.Za (e1.trans e2)).set l))
def gY(f:Str)(x:SV):G (Str×SV)->G (Str×SV)
 |[]=>[(f,x)]
 |(g,y)::r=>if g=f then(g,x)::r else(g,y)::gY f x r
def Ol(h:ZA O K H X v x):∀{ws:G (Str×V)} {fs:G (Str×SV)},Paired (λ(p:Str×V) (q:Str×SV)=>p.1=q.1/\ZA O K H X p.2 q.2) ws fs->Paired (λ(p:Str×V) (q:Str×SV)=>p.1=q.1/\ZA O K H X p.2 q.2) (iA f v ws) (gY f x fs):=by
 intro ws fs p
 induction p with
 |nil=>show .cons #[W,h] .nil
 | @cons a b _ _ q t j=>
  let(g,u):=a;let(i,y):=b;let(e,k):=q;ext e;unfold iA gY;by_cases z:g=f
  .rw[ax z,ax z];show .cons #[W,h] t
  .rw[a4 z,a4 z];show .cons #[W,k] j
def GY(ω:aK)(C:Str):SV->I (Nat×G (Str×SV))
 |.rf i=>match ω[i]? with
  |some (.obj D fs)=>if D=C then R (i,fs)else Ld
  |_=>Ld
 |_=>Ld
def Uk(s:StoOk B K H X ω)(b:ZA (ow B X ω) K H X v x)(h:GY ω C x=R (i,fs)):ω[i]?=R (.obj C fs)/\∃a Ca k ws,X[i]?=R a/\v=.ref a/\XH K Xv C=R (R (.ref Ca))/\H a=R (.ins Ca k ws)/\Paired (λ(p:Str×V) (q:Str×SV)=>p.1=q.1/\ZA (ow B X ω) K H X p.2 q.2) ws fs:=by
 cases x with
 |fz d=>ext h
 |tp l=>ext h
 |rf j=>
  let(a,n,rfl):=b;unfold GY at h;dsimp only at h;cases q:ω[j]? with
  |none=>simp_all
  |some c=>
   rw[q]at h;cases c with
   |obj D gs=>
    dsimp only at h;by_cases z:D=C
    .subst z;rw[ax W]at h;let e:=Xj h;ext e;let(Ca,k,ws,m,g,f):=s.cel i a _ n q;show#[q,a,Ca,k,ws,n,W,m,g,f]
    simp_all
   |_=>ext h
def eP(C f:Str)(b c:cw):dG:=λρ ω=>(c ρ ω).bind λx ω1=>(b ρ ω1).bind λo Z=>(RS.X5 Z (GY Z C o)).bind λp a=>if p.2.length<100 then .ok (.nx ρ) (a.set p.1 (.obj C (gY f x p.2)))else .bad
def Lm(I:kN K C L)(F:f∈L)(A:bT K E to fo)(G:bT K E te fe):mJ K E (Q5 K to te f) (eP C f fo fe):=by
 intro B T H X ω ρ D s e w;show G B T H X ω ρ _ s e (WS.imp (WS.bind w) λx U ω1 S e1 p n v t=>?_);show A B T S U ω1 ρ _ p (e.Za e1) (WS.imp (WS.bind n) λo Y Z P e2 j b u y=>?_);let((i,fs),q,b):=WS.X5 b;let(g,a,Ca,dx,ws,ha,rfl,m,J,l):=Uk j y q;let(Cb,g0,R,Q):=I;rw[m]at g0;ext g0;dsimp only at b;by_cases hn:fs.length<100
 .rw[ax hn]at b;let ev:Ev (ow B Y Z) P (ow B Y Z) (aR P a (.ins Ca dx (iA f v ws))):=qI ha g (by simp_all);let e3:YB Y Z P Y (Z.set i (.obj C (gY f x fs))) (aR P a (.ins Ca dx (iA f v ws))):=YB.put ha g (by simp_all) (by simp_all);let hl:=Paired.length l;show#[a,Ca,dx,ws,W,J,R,Q f F,by ext,?_];show b Y _ e3 (j.put ha g (by simp_all) (by simp_all) #[Ca,dx,_,m,ay,Ol ((t.Za e2).ev ev λ_ _ h=>h) (Paired.Z4 l λ_ _ r=>#[r.1,r.2.ev ev λ_ _ h=>h])]) T ((e.Za (e1.trans e2)).Za e3)
 .rw[a4 hn]at b;show b.elim
abbrev Ql:=aP->aK->RS (G D)
def SK(K:CL)(E:XK)(b:TI)(e:Ql):Prop:=
 ∀(B:bB) (T:L2.St) (H:Hp) (X:G W7) (ω:aK) (ρ:aP) (a:It->Hp->Prop),StoOk B K H X ω->Zx (ow B X ω) K H X T ρ->WS K E B H X ω (λds M N H'=>∀J,ue K J (ow B M N) H' ds->a J H') (e ρ ω)->b T H a
def ng(f:FI):Ql:=λρ ω=>match f (bV ρ)with
 |.ok (ds,_)=>.ok ds ω
 |.er x=>.er x ω
 |.bad=>.bad
def Fh(h:IO K E C f):SK K E C (ng f):=by
 intro B T H X ω ρ j s g w;show h (ow B X ω) H (ow B X ω) T H (bV ρ) j (FJ s g) ?_;unfold ng at w;cases q:f (bV ρ)with
 |bad=>rw[q]at w;show w.elim
 |er x=>rw[q]at w;show λc m H' e k=>w c m X H' (YB.same e) (s.grow e) k
 |ok r=>let(ds,a):=r;rw[q]at w;show λO' J H' e R i=>w X H' (YB.same R.same) (s.grow R.same) J λl P e2 n=>i l P (λb o h z=>e2 b o h λy=>z (R.bo b y)) n
def gB(a:cw):Ql:=λρ ω=>(a ρ ω).bind λx ω1=>(match frz 4 ω1 x with
 |some (d,Z)=>RS.X5 Z (eN d)
 |none=>.bad)
def Jn(h:bT K E o C):SK K E (D6 K o) (gB C):=by
 intro B T H X ω ρ l s f w;show h B T H X ω ρ _ s f (WS.imp (WS.bind w) λx U ω1 S e1 g a v i=>?_);cases q:frz 4 ω1 x with
 |none=>rw[q]at a;show a.elim
 |some p=>
  let(d,Z):=p;rw[q]at a;let(e,e2,j):=vM 4 g i q;dsimp only at a;cases m:eN d with
  |none=>rw[m]at a;show a.elim
  |some ds=>
   rw[m]at a;cases j with
   |tup h b=>ext m;show#[_,W,.inr #[#[_,h.1],a U S e2 e _ (Gr h b)]]
   |lst h b=>ext m;show#[_,W,.inl #[#[_,h.1.sq],a U S e2 e _ (zQ h b)]]
   |_=>ext m
def fW(gt:wN)(b:dG):G D->dG
 |[],ρ,ω=>.ok (.nx ρ) ω
 |d::r,ρ,ω=>(gt (.fz d) ρ ω).bind λa ω1=>(b a ω1).bind λe Z=>match e with
  |.nx f=>fW gt b r f Z
  |.ct f=>fW gt b r f Z
  |.bk f=>.ok (.nx f) Z
  |.rt x=>.ok (.rt x) Z
def sg(a:Ql)(gt:wN)(b:dG):dG:=λρ ω=>(a ρ ω).bind λds ω1=>fW gt b ds ρ ω1
def K1(c:SK K E wi fi)(k:IK K E g gt)(z:mJ K E tb b):mJ K E (C3 wi g tb) (sg fi gt b):=by
 intro B T H X ω ρ D s R w;show c B T H X ω ρ _ s R (WS.imp (WS.bind w) λds U ω1 S e1 s1 w1 J it=>?_);show#[λi m a H'=>m=ds.length - i/\i<=ds.length/\∃Y Z ρ2,YB U ω1 S Y Z H'/\StoOk B K H' Y Z/\Zx (ow B Y Z) K H' Y a ρ2/\WS K E B H' Y Z (kS B K D) (fW gt b (ds.drop i) ρ2 Z),#[_,W,XY _,U,ω1,ρ,.refl,s1,R.Za e1,w1],?_];rintro i m n P ⟨rfl,c,Y,Z,ρ2,e2,s2,sl2,w2⟩;let(go,p):=it (ow B Y Z) P e2.ev s2.noO;by_cases h:i<ds.length
 .let(g1,g2):=go i h
  show .inr #[g1,λa H'=>i+1<=ds.length/\∃Y Z ρ2,YB U ω1 S Y Z H'/\StoOk B K H' Y Z/\Zx (ow B Y Z) K H' Y a ρ2/\WS K E B H' Y Z (kS B K D) (fW gt b (ds.drop (i+1)) ρ2 Z),λa H' #[h1,h2]=>#[ds.length - (i+1),by ext,W,h1,h2],λx Q y=>?_];let(s3,d,hd,dv):=g2 x Q y;let ed:ds.drop i=d::ds.drop (i+1):=by let(_,q):=W2.mp hd;rw[YC h,q]
  rw[ed]at w2;let e3:YB Y Z P Y Z Q:=YB.same s3;show k B n Q Y Z ρ2 x (.fz d) _ (s2.grow s3) (sl2.Za e3) dv (WS.imp (WS.bind (WS.from e3 w2)) λG I A H4 e4 s4 w3 F L=>?_);show z B F H4 I A G _ s4 L (WS.imp (WS.bind w3) λfl o l H5 e5 u t=>?_);let r:=e2.trans (e3.trans (e4.trans e5));cases fl with
  |nx f=>show λC j=>#[h,o,l,f,r,u,j,t]
  |ct f=>show λC j=>#[h,o,l,f,r,u,j,t]
  |bk f=>show WS.now (E:=E) u t
  |rt x=>show WS.now (E:=E) u t
 .let e:i=ds.length:=by ext
  subst e;rw[YA (Xd _)]at w2;show .inl #[p,WS.now s2 w2 n sl2]
def sK(c:tU)(b:dG):Nat->dG
 |0,_,_=>.bad
 |n+1,ρ,ω=>(c ρ ω).bind λk ω1=>if k=WZ then(b ρ ω1).bind λa Z=>match a with
  |.nx e=>sK c b n e Z
  |.ct e=>sK c b n e Z
  |.bk e=>.ok (.nx e) Z
  |.rt x=>.ok (.rt x) Z else .ok (.nx ρ) ω1
def uj(c:tU)(b:dG):dG:=sK c b 1000000
def Dl(I:v8 K E c fc)(J:mJ K E tb b):mJ K E (Hg c tb) (uj fc b):=by
 intro B T H X ω ρ D s F w;show#[λm e H'=>∃Y Z a,YB X ω H Y Z H'/\StoOk B K H' Y Z/\Zx (ow B Y Z) K H' Y e a/\WS K E B H' Y Z (kS B K D) (sK fc b m a Z),#[_,X,ω,ρ,.refl,s,F,w],?_];rintro m g P ⟨Y,Z,a,e2,G,i,A⟩;cases m with
 |zero=>show A.elim
 |succ m=>
  show I B g P Y Z a _ G i (WS.imp (WS.bind A) λk y t Q e3 C p=>?_);cases k with
  |true=>
   rw[ax W]at p⊢;show#[λe H'=>∃Y Z a,YB X ω H Y Z H'/\StoOk B K H' Y Z/\Zx (ow B Y Z) K H' Y e a/\WS K E B H' Y Z (kS B K D) (sK fc b m a Z),λe H' q=>#[m,ZF m,q],?_];show J B g Q y t a _ C (i.Za e3) (WS.imp (WS.bind p) λL l j R e5 r o=>?_);let n:=e2.trans (e3.trans e5);cases L with
   |nx f=>show λu h=>#[l,j,f,n,r,h,o]
   |ct f=>show λu h=>#[l,j,f,n,r,h,o]
   |bk f=>show WS.now (E:=E) r o
   |rt x=>show WS.now (E:=E) r o
  |false=>rw[a4 Xp]at p⊢;show WS.now C p g (i.Za e3)
end
section
variable{B O O':bB}{K:CL}{E:XK}{H H' T M:Hp}{U S X Y:bg W7}{ω ω' ω1 Z:aK}{R:L2.St}{ρ:aP}{v:V}
def dD(gt:wN)(c:tU)(f:cw):G D->aP->aK->G SV->RS (G SV)
 |[],_,ω,acc=>.ok acc ω
 |d::r,ρ,ω,acc=>(gt (.fz d) ρ ω).bind λa ω1=>(c a ω1).bind λb Z=>if b=WZ then(f a Z).bind λx e=>(if acc.length<1000000 then dD gt c f r a e (acc++[x])else .bad)else dD gt c f r a Z acc
def oH(n:Nat)(a:G Nat)(ρ:aP):aP:=Xh n P++a.map λj=>(ρ[j]?).join
def oZ(n:Nat)(a:G Nat)(b:Ql)(gt:wN)(c:tU)(d:cw):cw:=λρ ω=>(b ρ ω).bind λds ω1=>(iW (dD gt c d ds (oH n a ρ) ω1 [])).bind λxs Z=>.ok (.rf Z.length) (Z++[.lst xs])
def J5{own:G Str}{c:G (Str×Nat)}{n:Nat}{f:G Nat}(d:own.length=n)(h:c.map (·.2)=f)(i:Zx O K H U R ρ):Zx O K H U (iC own c R) (oH n f ρ):=by
 unfold iC oH;rw[Al d];let l:c.length=f.length:=by rw[<-h,W0]
 show#[by simp_all,λj x b=>?_];by_cases g:j<n
 .rw[Xe (by rw[Yu];show g),Zd,ax g]at b;ext b
 .rw[XO (by simp_all),Yu,Xg]at b⊢
  subst h;rw[Xg]at b;cases q:c[j - n]? with
  |none=>simp_all
  |some p=>
   rw[q]at b;let a:(ρ[p.2]?).join=cL x:=Xj b;let e:ρ[p.2]?=cL (cL x):=by
    cases t:ρ[p.2]? with
    |none=>rw[t]at a;ext a
    |some o=>rw[t]at a;show dw cL a
   let(u,r,m):=i.2 p.2 x e;simp_all
def xA{p:W7}{c:Cell}(a:U.length=ω.length)(e:c≠.dead):ow (bL B p) U ω=ow B (U++[p]) (ω++[c]):=by
 funext b;show propext #[λz=>?_,λz=>?_]
 .rcases z with(z|z)|⟨i,d,h1,g,f⟩
  .show .inl z
  .show .inr #[U.length,c,by rw[z];show bf,by rw[a];show bf,e]
  .show .inr #[i,d,ei h1,ei g,f]
 .rcases z with z|z
  .show .inl (.inl z)
  .rcases rC a z with z|z
   .show .inr z
   .show .inl (.inr z)
def StoOk.adopt{p:W7}{c:G V}{xs:G SV}(s:StoOk (bL B p) K H U ω)(l:H p=cL (.lst c))(g:Zb (ow (bL B p) U ω) K H U c xs)(n:¬B p):StoOk B K H (U++[p]) (ω++[.lst xs]):=by
 let eo:ow (bL B p) U ω=ow B (U++[p]) (ω++[.lst xs]):=xA s.len (by simp_all);let b:∀(i:Nat) (a:W7),U[i]?=cL a->(U++[p])[i]?=cL a:=λi a h=>ei h;let m:∀i:Nat,U[i]?≠cL p:=s.ba p (.inr W);show#[by rw[Xf,Xf,s.len];rfl,λi j a e f=>?_,λa h=>s.bn a (.inl h),λa h i q=>?_,λi a h=>?_,λi a d e f=>?_]
 .rcases a9 e with g1|⟨e1,e2⟩<;>rcases a9 f with g2|⟨e3,e4⟩
  .show s.nd i j a g1 g2
  .simp_all
  .simp_all
  .omega
 .rcases a9 q with q|⟨_,e2⟩
  .show s.ba a (.inl h) i q
  simp_all
 .rcases a9 h with h|⟨_,e2⟩
  .show s.al i a h
  simp_all
 .rw[<-eo]
  rcases a9 f with g2|⟨e1,e2⟩
  .rcases a9 e with g1|⟨e1,_⟩
   .show(s.cel i a d g1 g2).ev .refl b λo q=>q
   .let:=(W2.mp g2).1;let:=s.len;ext
  .rcases a9 e with g1|⟨_,e3⟩
   .let:=(W2.mp g1).1;let:=s.len;ext
   .rw[e2,e3];show#[c,l,Paired.Z4 g λ_ _ r=>r.ev .refl b]
def StoOk.hide{p:W7}{o:HO}(s:StoOk B K H U ω)(j:H p=P):StoOk (bL B p) K (aR H p o) U ω:=by let f:YN H (aR H p o):=bj j o;let g:=s.grow f;let ev:Ev (ow B U ω) H (ow (bL B p) U ω) (aR H p o):=λb u h n=>#[f b u h,λz=>z.elim (λz=>z.elim (λz=>n (.inl z)) λz=>by simp_all) λz=>n (.inr z)];show#[g.len,g.nd,λa h=>h.elim (g.bn a) λe=>by rw[e,ay];simp,λa h i q=>h.elim (λh=>g.ba a h i q) λe=>by rw[e]at q;show s.al i p q j,g.al,λi a c m l=>?_];show(s.cel i a c m l).ev ev (λ_ _ h=>h) λo q=>f _ _ q
def StoOk.ai4{p:W7}{o e:HO}(s:StoOk (bL B p) K H U ω)(j:H p=cL o):StoOk (bL B p) K (aR H p e) U ω:=by
 let ev:Ev (ow (bL B p) U ω) H (ow (bL B p) U ω) (aR H p e):=Ev.mut (.inl (.inr W)) e;let n:∀b,H b≠P->aR H p e b≠P:=λb h=>by
  by_cases z:b=p
  .subst z;rw[ay];simp
  .rw[ar z];show h
 show#[s.len,s.nd,λa h=>n a (s.bn a h),s.ba,λi a h=>n a (s.al i a h),λi a c f g=>(s.cel i a c f g).ev ev (λ_ _ h=>h) λu q=>?_];let:a≠p:=λz=>s.ba p (.inr W) i (by rw[<-z];show f);rw[ar this];show q
theorem YB.dd{p:W7}{o:HO}(e:YB X ω1 T U ω H)(a:T p=P):YB X ω1 T U ω (aR H p o):=#[e.pre,λb u h n=>by rw[ar (bC h a)];show e.kp b u h n,e.lv]
theorem StoOk.agZ{p:W7}(s:StoOk (bL B p) K H U ω):StoOk B K H U ω:=
 #[s.len,s.nd,λa h=>s.bn a (.inl h),λa h=>s.ba a (.inl h),s.al,λi a c f e=>(s.cel i a c f e).ev (λb o h n=>#[h,λy=>n (y.elim (λy=>.inl (.inl y)) .inr)]) (λ_ _ h=>h) λ_ h=>h]
def yc{own:bg Str}{fv:bg (Str×Nat)}{g:TG}{tc:TT}{te:TE}{gt:wN}{s:tU}{k:cw}{n:Nat}{fj:bg Nat}{J:It}{Q:VK}{ds:bg D}(hn:own.length=n)(hf:fv.map (·.2)=fj)
  (hg:IK K E g gt) (ht:v8 K E tc s) (he:bT K E te k) (s1:StoOk B K T X ω1) (sl1:Zx (ow B X ω1) K T X R ρ) (it:ue K J (ow B X ω1) T ds) (w1:WS K E B T X ω1 (PQ B K Q) ((dD gt s k ds (oH n fj ρ) ω1 []).bind λxs Z=>.ok (.rf Z.length) (Z++[.lst xs]))):
  ∀D,T D=Ld->HZ J D (iC own fv R) g tc te T λH'=>Q (.ref D) H':=by
 intro p hD;let slc:Zx (ow B X ω1) K T X (iC own fv R) (oH n fj ρ):=J5 hn hf sl1;generalize qr:dD gt s k ds (oH n fj ρ) ω1 []=rr at w1;by_cases C:rr=.bad
 .subst C;show w1.elim
 .
  let hB:¬B p:=λz=>s1.bn p z hD;let evH:∀{Y:bg W7} {Z:aK} {H':Hp},YB X ω1 T Y Z H'->Ev (ow B X ω1) T (ow (bL B p) Y Z) H':=λe b o h n=>#[e.kp b o h λz=>n (.inr z),λz=>by
   rcases z with(z|z)|z
   .show n (.inl z)
   .simp_all
   .show(e.lv b z).elim (λq=>n (.inr q)) λq=>by simp_all]
  show#[λi m σ' H'=>m=ds.length - i/\i<=ds.length/\∃Y Z ρc acc ys,YB X ω1 T Y Z H'/\StoOk (bL B p) K H' Y Z/\Zx (ow (bL B p) Y Z) K H' Y σ' ρc/\H' p=cL (.lst ys)/\Zb (ow (bL B p) Y Z) K H' Y ys acc/\dD gt s k (ds.drop i) ρc Z acc=rr,
   #[_,W,XY _,X,ω1,oH n fj ρ,[],[],YB.same (bj hD _),s1.hide hD,?_,ay,.nil,qr],?_]
  .show#[slc.1,λj x hx=>let#[v,h1,h2]:=slc.2 j x hx;#[v,h1,h2.ev (evH (YB.same (bj hD _))) λ_ _ h=>h]]
  .rintro i m σ2 M ⟨rfl,hi,Y,Z,ρ2,acc,ys,e2,s2,sl2,hy,vy,f⟩
   let(go,stop):=it (ow (bL B p) Y Z) M (evH e2) s2.noO;by_cases G:i<ds.length
   .let(g1,g2):=go i G
    show .inr #[g1,λσ5 I=>i+1<=ds.length/\∃Y Z ρc acc ys,YB X ω1 T Y Z I/\StoOk (bL B p) K I Y Z/\Zx (ow (bL B p) Y Z) K I Y σ5 ρc/\I p=cL (.lst ys)/\Zb (ow (bL B p) Y Z) K I Y ys acc/\dD gt s k (ds.drop (i+1)) ρc Z acc=rr,
     λσ5 I #[h1,h2]=>#[ds.length - (i+1),by ext,W,h1,h2],λx H3 y=>?_]
    let(s3,d,hd,dv):=g2 x H3 y;let ed:ds.drop i=d::ds.drop (i+1):=by let(_,q):=W2.mp hd;rw[YC G,q]
    rw[ed]at f;unfold dD at f;let e3:YB Y Z M Y Z H3:=YB.same s3;let kD:∀{αx αy:bg W7} {ωx ωy:aK} {Hx Hy:Hp} {o:HO},StoOk (bL B p) K Hx αx ωx->YB αx ωx Hx αy ωy Hy->Hx p=cL o->Hy p=cL o:=λsx ex h=>ex.kp _ _ h λ#[i,c,q,_]=>sx.ba p (.inr W) i q;let w:∀{Pz0:bg W7} {u:aK} {H3:Hp} {z:Xc} {t:aK},YB X ω1 T Pz0 u H3->RS.er z t=rr->∀c dx S H',YB Pz0 u H3 S t H'->StoOk (bL B p) K H' S t->XOk K (ow (bL B p) S t) H' c dx z->E c dx H':=λ{Pz0 u H3 z t} e3 q c dx S H' e s' x'=>by subst q;show w1 c dx S H' (e3.trans e) s'.agZ (XOk.sub (λb y=>y.elim (λy=>.inl (.inl y)) .inr) x')
    show hg (bL B p) σ2 H3 Y Z ρ2 x (.fz d) _ (s2.grow s3) (sl2.Za e3) dv ?_;cases qg:gt (.fz d) ρ2 Z with
    |er z t=>rw[qg]at f;show w (e2.trans e3) f
    |bad=>rw[qg]at f;show C f.symm
    |ok l L=>
     rw[qg]at f;intro α4 H4 e4 s4 σ4 sl4;show ht (bL B p) σ4 H4 α4 L l _ s4 sl4 ?_;let f:((s l L).bind λb Z=>if b=WZ then(k l Z).bind λx u=>(if acc.length<1000000 then dD gt s k (ds.drop (i+1)) l u (acc++[x])else .bad)else dD gt s k (ds.drop (i+1)) l Z acc)=rr:=f;cases qt:s l L with
     |er z t=>rw[qt]at f;show w (e2.trans (e3.trans e4)) f
     |bad=>rw[qt]at f;show C f.symm
     |ok b A=>
      rw[qt]at f;intro α5 I e5 s5;let sl5:=sl4.Za e5;let QD:=e3.trans (e4.trans e5);cases b with
      |false=>let f:dD gt s k (ds.drop (i+1)) l A acc=rr:=f;show#[G,α5,A,l,acc,ys,e2.trans QD,s5,sl5,kD s2 QD hy,Zb.Za QD vy,f]
      |true=>
       let f:((k l A).bind λx u=>(if acc.length<1000000 then dD gt s k (ds.drop (i+1)) l u (acc++[x])else .bad))=rr:=f;rw[ax W];show he (bL B p) σ4 I α5 A l _ s5 sl5 ?_;cases qe:k l A with
       |er z t=>rw[qe]at f;show w (e2.trans QD) f
       |bad=>rw[qe]at f;show C f.symm
       |ok x6 F=>
        rw[qe]at f;intro N H6 e6 s6 v6 hv6;let f:(if acc.length<1000000 then dD gt s k (ds.drop (i+1)) l F (acc++[x6])else .bad)=rr:=f;by_cases hl6:acc.length<1000000
        .rw[ax hl6]at f;let Ub:=QD.trans e6;let hy6:H6 p=cL (.lst ys):=kD s2 Ub hy;let vy6:=Zb.Za Ub vy;let em:Ev (ow (bL B p) N F) H6 (ow (bL B p) N F) (aR H6 p (.lst (ys++[v6]))):=Ev.mut (.inl (.inr W)) _;let sl6:=sl5.Za e6;show#[ys,hy6,tf (by rw[vy6.length];show hl6),G,N,F,l,acc++[x6],ys++[v6],(e2.trans Ub).dd hD,s6.ai4 hy6,#[sl6.1,λj x hx=>let#[v,h1,h2]:=sl6.2 j x hx;#[v,h1,h2.ev em λ_ _ h=>h]],ay,Bp (Paired.Z4 vy6 λ_ _ r=>r.ev em λ_ _ h=>h) (hv6.ev em λ_ _ h=>h),f]
        .rw[a4 hl6]at f;show bb f.symm C
   .let e:i=ds.length:=by ext
    subst e;rw[YA (Xd _)]at f;let f:RS.ok acc Z=rr:=f;subst f;show .inl #[stop,?_];show w1 (Y++[p]) M #[λi a h=>ei (e2.pre i a h),e2.kp,λb z=>(rC s2.len z).elim (e2.lv b) λz=>.inr (by rw[z];show hD)] (s2.adopt hy vy hB) (.ref p) #[p,by rw[<-s2.len];show bf,W]
def Pb{A C:Type}{P:C->G W7->aK->Hp->Prop}{r:RS A}{k:A->aK->C}{m:A->aK->aK}(w:WS K E B H U ω P ((iW r).bind λa o=>.ok (k a o) (m a o))):WS K E0 B H U ω P (r.bind λa o=>.ok (k a o) (m a o)):=by
 cases r with
 |ok a o=>show w
 |er x o=>show w.elim
 |bad=>show w
def D1{own:G Str}{d:G (Str×Nat)}{a:TI}{g:TG}{b:TT}{c:TE}{h:Ql}{gt:wN}{k:tU}{r:cw}{n:Nat}{f:G Nat}(t:own.length=n)(p:d.map (·.2)=f)
  (u:SK K E a h) (o:IK K E0 g gt) (m:v8 K E0 b k) (q:bT K E0 c r):bT K E (tT own d a g b c) (oZ n f h gt k r):=by
 intro B R H U ω ρ Q s e w;show u B R H U ω ρ _ s e (WS.imp (WS.bind w) λds X ω1 T e1 j i J l=>?_);show yc t p o m q j (e.Za e1) l (Pb i)
def cI(N:Nat)(g:dG):fS:=λxs ω=>(g (xs.map cL++Xh (N - xs.length) P) ω).bind λa ω1=>match a with
 |.rt x=>.ok x ω1
 |.nx _=>.ok (.fz .none) ω1
 |_=>.bad
def Fe{N:G Str}{c:G V}{xs:G SV}(h:Zb O K H U c xs):Zx O K H U (L2.start N c) (xs.map cL++Xh (N.length - xs.length) P):=by
 let e:c.length=xs.length:=Paired.length h;ext L2.start;show#[by simp_all,λi x a=>?_];by_cases hi:i<xs.length
 .rw[Xe (by simp_all),Xg]at a
  cases q:xs[i]? with
  |none=>rw[q]at a;ext a
  |some d=>rw[q]at a;ext a;let(v,b,f):=y0 h q;show#[v,?_,f];rw[Xe (by rw[W0,e];show hi),Xg,b];rfl
 .rw[XO (by rw[W0];ext),Zd]at a;split at a<;>ext a
def yX{N:G Str}{c:G V}{xs:G SV}{g:dG}{t:TS}{Q:VK}{n:Nat}(f:mJ K E t g)(h:kB K n (cI N.length g) c H Q E):t {nx:=λ_ H'=>Q .Zk H',rt:=Q} (L2.start N c) H:=by
 let(l,B,U,ω,xs,s,e,w):=h;show f B _ H U ω _ _ s (Fe e) (WS.imp (WS.bind w) λi X ω1 T e1 b a=>?_);cases i with
 |rt x=>show WS.now (E:=E) b a
 |nx ρ=>show λR j=>WS.now (E:=E) b a .Zk .Zk
 |bk ρ=>show a.elim
 |ct ρ=>show a.elim
end
def V4{P:Xu}{w:XQ}{K:CL}{d:Str->I J}{base:Heap}{x a:Str}{st:YL}{f:M}{fd:Yj}{N c:G Str}{k n m:Nat}{g:dG}{e:fS}(F:Fun K x a st f fd)(S:Zj N c (au st))(r:c.length=n)(hm:N.length=m)(o:e=cI m g)
  (p:∀(b:J) (A:XJ) (outer:G Env) (s:W9) (H:Hp) (E:XK),Y1 k (A.deeper (XX a (au st) s.heap.objs.size f b))->
   ∃t,PSs (fC kX P w K d base N a (au st) f b A outer s H E).nox (bW st) t/\mJ K E t g):FnOk P w K d base kX (k+1) f fd c (kB K n e):=by
 subst o hm;show F.ok S (λq H Q E h=>h.1.trans r.symm) (λb A outer s H q Q E l h=>?_);let(t,i,j):=p b A outer s H E l;show#[t,i,yX (xs:=[]) j h]
def Vm{P:Xu}{w:XQ}{K:CL}{d:Str->bt J}{base:Heap}{x a:Str}{st:YL}{f:M}{fd:Yj}{N c:bg Str}{k n m:Nat}{g:dG}{j:fS}(F:Fun K x a st f fd)(S:Zj N c (au st))(z:c.length=n)(hm:N.length=m)(u:j=cI m g)
  (y:∀(b:J) (A:XJ) (outer:bg Env) (s:W9) (H:Hp) (E:XK),Y1 k (A.deeper (XX a (au st) s.heap.objs.size f b))->
   ∃t,PSs (fC (L4.lu P w) P w K d base N a (au st) f b A outer s H E) (bW st) t/\mJ K E t g):FnOk P w K d base (L4.lu P w) (k+1) f fd c (kB K n j):=by
 subst u hm;let(G,C,kV,v,B,I,b,ct,l,rfl,o,i):=F.ex;show DR o i S (λL H Q E h=>h.1.trans z.symm) λA outer s H L Q E r e=>?_;let(t,p,q):=y b A outer s H E r;show#[t,p,yX (xs:=[]) q e]
end L10
namespace PySem.W
open PySem PySem.Calls PyProof.Rows PyProof.V PySem.Spec
section
variable{Y:Xu}{w:XQ}{A:XJ}{E:WY->W9->Prop}{s:W9}{T:String}{r d:W7}{n:Nat}{P:Nat->WY->Prop}{X:Heap->Prop}
def collect_kdl(K:KdlSrc Y w T r d n P X)(m:A.handled=Ld)(Yn:X s.heap)(u:n<=Xi)
  (q:∀c k acc,(∀b o,s.heap.get? b=cL o->c.get? b=cL o)->aml P acc n->Q acc.toList {s with heap:=c,toks:=k}):wpAny (model Y w) A (collect (.ref r)) Q E s:=by
 let f:=K.there _ Yn;ext collect;show lD (wpAny_runValue (ZU F.entry_proto_collect ?_));rw[XJ.under_plainId F.plain_proto_collect _];show lD (X9 ?_);show W6 #[ZT F.plain_list_iadd _,ZU F.entry_list_iadd ?_];rw[XJ.under_plainId F.plain_list_iadd _];let p:(s.heap.push {cls:=.type "list",data:=.seq ([]:G J).toArray}).get? s.heap.objs.size=cL {cls:=.type "list",data:=.seq ([]:G J).toArray}:=b5 _ W;show kdl_extend (R:=wants (λv j=>wpAny (model Y w) A (match v with|.ref a=>(load a>>=λo=>match o.data with|.seq xs _=>pure xs.toList|_=>unsupported "internal:collect")|_=>unsupported "internal:collect") Q E j) E) (s:={s with heap:=s.heap.push {cls:=.type "list",data:=.seq ([]:G J).toArray}}) K m (K.keep _ _ Yn λb _ o e=>b3 _ e) _ (Yt f.1) (Yt f.2) _ 0 p (λc k h t l g i=>?_) u;show lD (agz g ?_);show W6 (q c k h (λb o e=>l b o (Xy (b4 e)) (b3 _ e)) i)
end
end PySem.W
namespace PyProof.Rows
open PySem
section
variable{Y:Xu}{w:XQ}{A:XJ}{E:WY->W9->Prop}{s:W9}{T:String}{r d:W7}{n:Nat}{P:Nat->WY->Prop}{X:Heap->Prop}
def zC(K:PySem.W.KdlSrc Y w T r d n P X)(p:A.handled=Ld)(Yn:X s.heap)(l:n<64)(t:∀acc:Array J,aml P acc n->IntsAre acc.toList ns)
  (h:∀(a c:Heap) (g:Nat) (out:Array J) (e:Nat) (f:G Int),(∀b o,s.heap.get? b=R o->a.get? b=R o)->c.get? a.objs.size=R (seqObj "list" out e)->(∀b o,a.get? b=R o->c.get? b=R o)->IntsAre out.toList f->f.Perm ns->f.Pairwise (·<=·)->Q (.ref a.objs.size) {s with heap:=c,toks:=g}):
  wpAny (model Y w) A (call (.builtin "sorted") [.ref r]) Q E s:=by
 show Calls.call_function_entry kind_sorted plain_sorted entry_sorted (args_sorted1 _) (lD (W6 (lD (PySem.W.collect_kdl K p Yn (by rw[YQ];ext) (λa g acc m C=>lD (amk ?_ (hsz:=by rw[Yf,C.1,YQ];ext)))))));let i:(a.push (seqObj "list" acc.toList.toArray 0)).get? a.objs.size=R (seqObj "list" acc.toList.toArray 0):=b5 _ W;let j:=t acc C;show lD (Yp (Yq slot_list_sort #[_,i,W] entry_list_sort (list_sort_tree i j (by rw[Yf,C.1];show l) λout f y v u=>#[_,W,W6 #[_,W,?_]]) (args_list_sort _)));let(e,q):=qL i;show h a _ g out e f m q (λb B z=>oE (Xy (b4 z)) (b3 _ z)) y v u
end
end PyProof.Rows
namespace L10
open PySem PySem.Spec PyProof.Rows L2 L3
def UM(p d:M):HO:=.ext λh=>h.IsValuesView p d
theorem S6(x:h.IsValuesView p d):ObjOk g w H h p (UM p d):=#[x,let#[o,a,_]:=x;#[o,a],λf e #[o,a,b] k=>#[o,k o a,b]]
def NY:V->G V->Hp->VK->Prop:=λx b H Q=>∃a e,x=.ref a/\b=[]/\H a=R (.dK e)/\∀p,H p=P->Q (.ref p) (aR H p (UM p a))
def B9:RL X "dict.values" NY:=by intro g s m H x xs v n Q I i f h;let(a,r,rfl,rfl,e,q):=h;ext i;ext f;let(z,l,p,j,dd):=xg I.Yn e;show acw acz dd.typeIs PySem.F.entry_dict_values (PySem.F.args_dict_values_1 _) (meets_dict_values (cC X.prog X.w) a l) #[#[p,dd],?_];show#[.ref s.heap.objs.size,_,I.laid (λb o e=>b3 _ e) (Xd _) (S6 #[_,b5 _ W,W,W]),W,q _ (I.Yn.fresh (Xd _))]
def Ez:G V->Hp->VK->Prop:=λxs H Q=>∃p a b,xs=[.ref p]/\H p=R (UM p a)/\H a=R (.dK b)/\∀l,H l=P->Q (.ref l) (aR H l (.lst (b.map (·.2))))
def Jg:∀{c:G (o×V)} {b:G (o×J)},KV c b->Vals (c.map (·.2)) (b.map (·.2)):=by
 intro _ _ a
 induction a with
 |nil=>show .nil
 | @cons _ _ _ _ h t e=>show .cons h.2 (e)
def zp(n:X.calm=S):Zf X (.type "list") Ez:=by intro g s C H xs E Q I r h;let(p,a,N,rfl,w,e,q):=h;let(u,rfl,l):=im r;ext l;let(z,G,T,b,dd):=xg I.Yn e;let(K,B):=dd.dictAt;let(i,_,_):=I.Yn p _ w;show PySem.W.kdl_call (PySem.W.kdl_values) (I.ok.hd n) #[i,B] (by rw[<-b.length];show z) λJ F f c m t L=>?_;let A:=PySem.W.kdl_vals_eq f.toList (by rw[Yf];show L.1) λj v y=>L.2 j v (by rw[<-Zo];show y);show#[.ref s.heap.objs.size,_,I.laid (o:=.lst (N.map (·.2))) m (Xd _) #[by rw[W0];show z,f.toList,c,by rw[A];show Jg b,by rw[Array.toArray_toList];show t],W,q _ (I.Yn.fresh (Xd _))]
def x4:G V->Hp->VK->Prop:=λxs H Q=>∃(p:M) (e:G (cg×V)) (a:G Int),xs=[.ref p]/\H p=R (.dK e)/\e.map (·.1)=a.map Sum.inl/\a.length<64/\∀(l:M) (b:G Int),H l=P->b.Perm a->b.Pairwise (·<=·)->Q (.ref l) (aR H l (.lst (b.map V.int)))
theorem sj:∀{c:G (cg×J)} {a:G Int} {us:G J},c.map (·.1)=a.map Sum.inl->us.length=c.length->(∀(j:Nat) (u:J),us[j]?=R u->∃k x,c[j]?=R (k,x)/\(cC prog w).is k u=S)->IntsAre us a
 |[],[],[],_,_,_=>.nil
 |[],[],_::_,_,h,_=>by simp at h
 |[],_::_,_,h,_,_=>by simp at h
 |_::_,[],_,h,_,_=>by simp at h
 |_::_,_::_,[],_,h,_=>by simp at h
 |(k,y)::c,n::a,u::us,h1,m,l=>by rw[Xq,Xq,an9]at h1;let(i,x,e,f):=l 0 u W;ext e;let g:=h1.1;subst g;let(t,rfl):=WY.isInt_shape (show WY.isInt n u=S from f);show .cons _ _ (sj h1.2 (by simpa using m) λj b e=>l (j+1) b (by simpa using e))
def yH(E:X.calm=WZ):Zf X (.builtin "sorted") x4:=by
 intro i s N H xs O Q I r h;let(p,XA,l,rfl,e,J,F,q):=h;let(u,rfl,t):=im r;ext t;let(z,C,vs,b,dd):=xg I.Yn e;let(T,L):=dd.dictAt;let m:vs.map (·.1)=l.map Sum.inl:=by rw[<-b.keys];show J
 let R:vs.length=l.length:=by let:=dw aaw m;simpa using this
 show zC (PySem.W.kdl_dict C) (I.ok.hd E) L () (λM Y=>sj m (by rw[Yf];show Y.1) λj v K=>Y.2 j v (by rw[<-Zo];show K)) λG S P f e2 w A B g Y n y=>?_;let a:=n.length_eq;let o:=I.kept (t':=s.toks) A;show#[.ref G.objs.size,_,o.laid g (Xd _) ?_,W,q _ w (o.Yn.fresh (Xd _)) n y];show#[?_,f.toList,e2,iQ Y,B];rw[W0,a];let:(64:Nat)<=Xi:=by decide
 ext
end L10
namespace PySem
open Sem (wp)
namespace F
def lk_tuple_keys:typeLookup (.type "tuple") "keys"=pure P:=by rw[ai8,afB];kernel_rfl
def lk_tuple_hook:typeLookup (.type "tuple") "__getattr__"=pure P:=by rw[ai8,afB];kernel_rfl
def sub_ae:isSubtype (.type "AttributeError") (.type "AttributeError")=pure S:=by rw[isSubtype_type];kernel_rfl
end F
section
variable{Y:Xu}{w:XQ}{A:XJ}{E:WY->W9->Prop}{h:Heap}{g:Array aba}{d:aeG}{t:Nat}{X:adw}{a:W7}{o:Obj}
def ym{α:Type}{name f:Str}{Q:α->W9->Prop}{E:J->W9->Prop}(hm:f.length<=Xi)(l:A.handled=P)(i:∀e c k,(∀b o,h.get? b=R o->c.get? b=R o)->(#[c,g,d,k,X]:W9).TypeIs e "AttributeError"->E e #[c,g,d,k,X]):
  wpAny (model Y w) A (raiseAttrError (.ref a) name f:Sem α) Q E #[h,g,d,t,X]:=by
 let j:¬f.length>Xi:=Nat.not_lt.mpr hm;unfold raiseAttrError newExc newTuple
 repeat (any_goals (first|assumption|wp_step))
 show abG (a:=S) F.sub_ae ?_
 repeat (any_goals (first|assumption|wp_step))
 show agb l (i _ _ _ (λb o e=>?_) ?_)
 .show(b7 _ _ (c9 (Xy (b4 (b3 _ e))))).trans (b3 _ (b3 _ e))
 .show#[_,b9 _ (b5 _ W) W,W]
def oA{f:Tok}{Q:Fin->W9->Prop}{E:J->W9->Prop}{p:Array J}{n:Nat}{i:Array (I J)}(j:h.get? a=R #[.type "tuple",P,.seq p n,i])(m:A.handled=P)(l:∀e c k,(∀b o,h.get? b=R o->c.get? b=R o)->(#[c,g,d,k,X]:W9).TypeIs e "AttributeError"->E e #[c,g,d,k,X]):
  wpAny (model Y w) A (XN.«object.__getattribute__» #[[.ref a,.str "keys" f],[]]) Q E #[h,g,d,t,X]:=by
 let q:(#[h,g,d,t,X]:W9).TypeIs (.ref a) "tuple":=#[_,j,W];let r:=F.lk_tuple_keys
 repeat (any_goals (first|assumption|wp_step))
 show ym (by left) m l
def sP{f:Tok}{Q:J->W9->Prop}{E:J->W9->Prop}{u:Array J}{n:Nat}{l:Array (I J)}(i:h.get? a=R #[.type "tuple",P,.seq u n,l])(q:A.handled=P)(m:∀e c k,(∀b o,h.get? b=R o->c.get? b=R o)->(#[c,g,d,k,X]:W9).TypeIs e "AttributeError"->E e #[c,g,d,k,X]):
  wpAny (model Y w) A (getAttrBy (.ref a) (.str "keys" f) U) Q E #[h,g,d,t,X]:=by
 let r:(#[h,g,d,t,X]:W9).TypeIs (.ref a) "tuple":=#[_,i,W];let B:=F.slot_tuple_getattribute.lookup;let y:=F.slot_tuple_getattribute.bind (.ref a);let v:=F.lk_tuple_hook
 repeat (any_goals (first|assumption|wp_step))
 show ZM F.slot_tuple_getattribute.plain F.entry_tuple_ga (F.slot_tuple_getattribute.check _ _ _ _ _ _ _ _ r (F.args_tuple_getattribute_2 _ _) (oA i q λe c k p j=>?_));let fs:=F.sub_ae;show wpAny (model Y w) A (getattributeRaised (WY.ref a) (WY.str (Str.ofString "keys") f) (WY.type "tuple") e P U U) Q E _;ext getattributeRaised;show lD (aaf j fs ?_)
 repeat (any_goals (first|assumption|wp_step))
 show m e c k p j
def pH(f:h.get? a=R #[.type "tuple",P,.seq X3 n,C])(l:A.handled=P)(i:∀c k,(∀b o,h.get? b=R o->c.get? b=R o)->Q P #[c,g,d,k,X]):
  wpAny (model Y w) A (getAttr? (.ref a) "keys") Q E #[h,g,d,t,X]:=by
 unfold getAttr? getAttrBy?;let fs:=F.sub_ae;show lD ?_
 repeat (any_goals (first|assumption|(specialize sP f l λe c k j m=>?_)|wp_step))
 show i c k j
namespace F
theorem entry_upd_loop:entryFor table "dict.update.loop"=R XN.«dict.update.loop»:=entryFor_of_tree (by kernel_rfl)
def plain_upd_loop:plainId "dict.update.loop"=S:=by left
end F
end
section
variable{prog:Xu}{w:XQ}{A:XJ}{E:WY->W9->Prop}{s:W9}{K:Type}[DecidableEq K]{knd:KeyKind prog w K}{I dd Y:W7}{Z:Array WY}{ks:bg (K×WY)}{R:acM->W9->Prop}
def yo(a:G (K×J))(k:K)(v:J):(stored a k v).length<=a.length+1:=by
 ext stored;split
 .rw[W0];ext
 .rw[Xf];show Xd _
theorem oX:∀(a c:G (K×J)),(merged c a).length<=c.length+a.length
 |[],c=>Xd _
 |p::r,c=>by let e:=oX r (stored c p.1 p.2);let b:=yo c p.1 p.2;show(merged (stored c p.1 p.2) r).length<=_;rw[Xk];ext
def yF(a:G (K×J)):(merged [] a).length<=a.length:=by let:=oX a [];simpa using this
def E5{S:Heap}(D:A.handled=Ld)(J:Y≠I)(Q:I≠dd)(P:Y≠dd)(d:∀(i:Nat) (v:WY),Z[i]?=cL v->∃q key k x,v=.ref q/\q≠dd/\q≠I/\ks[i]?=cL (k,x)/\knd.is k key=WZ/\S.IsTuple q #v[key,x])(hs:ks.length=Z.size)(hz:Z.size<=Xi)
  (V:∀c l,c.DictOf knd dd (merged [] ks)->(∀b o,b≠dd->b≠I->S.get? b=cL o->c.get? b=cL o)->R (.ok (.ret .none)) {s with heap:=c,toks:=l}):
  ∀(m i:Nat) (h:Heap) (l:Nat),Z.size - i=m->i<=Z.size->h.IsTupleIter I Y i->h.IsTuple Y Z->h.DictOf knd dd (merged [] (ks.take i))->(∀b o,b≠dd->b≠I->S.get? b=cL o->h.get? b=cL o)->
   codeAny (model prog w) A (.builtin "dict.update.loop" #[[.ref dd,.ref I,rawInt i,.none],[]]) R {s with heap:=h,toks:=l}:=by
 let W:=Walks.tuple (prog:=prog) (w:=w) (A:=A.in1) D I Y J Z;intro m
 induction m with
 |zero=>
  intro i h l hm hi C y u t;let e:i=Z.size:=by ext
  subst e;show ZU F.entry_upd_loop ?_;rw[XJ.under_plainId F.plain_upd_loop _];show lD (W.done _ _ _ #[C,y] λc f g=>?_);rw[aaS ()]at u;show lD (W6 (W6 ?_));show V c f (u.at λo e=>g dd o (by simp;show λz=>Q z.symm) e) λb o j a e=>g b o (by simp;show a) (t b o j a e)
 |succ m ih=>
  intro i h l hm hi C y u t;let r:i<Z.size:=by ext
  show ZU F.entry_upd_loop ?_;rw[XJ.under_plainId F.plain_upd_loop _];show lD (W.item i _ _ _ r #[C,y] λv c f hv U g=>?_);let(q,key,k,x,rfl,H,n,M,L,ht):=d i v hv;let G:=ht.at λo e=>g q o (by simp;show n) (t q o H n e);let T:=u.at λo e=>g dd o (by simp;show λz=>Q z.symm) e;let B:=λb o j a e=>g b o (by simp;show a) (t b o j a e);let(oq,p,O,nq,N):=G;let(cq,dq,dtq,X):=oq;ext O;ext N;let hT:({s with heap:=c,toks:=f}:W9).TypeIs (.ref q) "tuple":=#[_,p,rfl];show lD (Yp (lD ?_));show abI ?_;ext XN.Dict.pairItems;show lD (aax hT ?_);rw[ax ()];show lD ?_;unfold seqItems?;show lD (agz p (W6 (W6 ?_)));show Yp (wpAny_dictSet_pairs L T (λa d2 s2=>?_) ?_)
  .show W6 #[ZT F.plain_upd_loop _,?_];let e2:∀b o,b≠dd->c.get? b=cL o->a.get? b=cL o:=λb o hb e=>(s2.2 b hb).trans e;show ih (i+1) a (f+1) () r (U.1.at λo e=>e2 I o Q e) (U.2.at λo e=>e2 Y o P e) ?_ λb o j a e=>e2 b o j (B b o j a e);rw[merged_take_succ [] ks i (k,x) M];show d2
  .let:(merged [] (ks.take i)).length<=(ks.take i).length:=yF _;rw[Yb]at this;ext
end
end PySem
namespace PySem
open Sem (wp)
open PyProof.Rows
section
variable{T:Xu}{w:XQ}{A:XJ}{E:WY->W9->Prop}{s:W9}{K:Type}[DecidableEq K]{X:KeyKind T w K}{Y:W7}{Z:Array WY}{ks:bg (K×WY)}{R:acM->W9->Prop}
def pz(C:A.handled=P)(B:s.heap.get? Y=cL #[.type "tuple",P,.seq Z n,sl])(H:ks.length=Z.size)(z:Z.size<=Xi)
  (I:∀(i:Nat) (v:WY),Z[i]?=cL v->∃q key k x,v=.ref q/\ks[i]?=cL (k,x)/\X.is k key=S/\s.heap.IsTuple q #v[key,x])
  (h:∀c d,c.DictOf X s.heap.objs.size (merged [] ks)->(∀b o,s.heap.get? b=cL o->c.get? b=cL o)->Q (.ref s.heap.objs.size) {s with heap:=c,toks:=d}):
  wpAny (model T w) A (call (.type "dict") [.ref Y]) Q E s:=by
 show callType_codes (Q₁:=λobj f=>obj=.ref s.heap.objs.size/\f={s with heap:=s.heap.push {cls:=.type "dict",data:=.dict #v[]}}) F.kt_called_dict (F.kt_typeCall_dict_1 _) F.entry_dict_init (kt_code_dict_new _ #[W,W]) ?_;rintro obj f ⟨rfl,rfl⟩;let a:(s.heap.push {cls:=.type "dict",data:=.dict #v[]}).DictOf X s.heap.objs.size []:=Heap.DictOf.new s.heap;let g:(s.heap.push {cls:=.type "dict",data:=.dict #v[]}).get? Y=cL #[.type "tuple",P,.seq Z n,sl]:=b3 _ B;let J:({s with heap:=s.heap.push {cls:=.type "dict",data:=.dict #v[]}}:W9).TypeIs (.ref Y) "tuple":=#[_,g,W];show#[a.typeIs,F.args_dict_init_2 _ _,?_];unfold XN.«dict.__init__»;show lD ?_;ext XN.Dict.selfAndRest;show lD (abx a.typeIs ?_);show W6 ?_;show wpAny _ _ (XN.Dict.updateFrom "dict.__init__" s.heap.objs.size (.ref Y) [] .none) _ _ _;ext XN.Dict.updateFrom;show lD (aax J ?_);rw[ax ()];show lD (pH g C λc G m=>?_);rw[ax (show(P:bt WY).isNone=S from rfl)];show lD (abi ?_);let l:=m _ _ g;let t:c.IsTuple Y Z:=#[_,l,W,n,W];show lD (abt t ?_);show W6 #[ZT F.plain_upd_loop _,?_];let RG:s.heap.objs.size<c.objs.size:=by let(o,_,_,p,_):=a;show b4 (m _ _ p)
 let j:=b4 B;show E5 (A:=A.in1) (knd:=X) C (Xy (ZX j RG)) (Yt RG) (Xy j) (λi v e=>?_) H z (λu r N k2=>?_) Z.size 0 _ G () (XY _) #[_,b5 _ W,W,W] #[_,b3 _ l,W,n,W] ?_ λb o _ _ e=>e
 .let(q,key,k,x,rfl,M,u,o,p,L):=I i v e;let y:=b4 p;show#[q,key,k,x,W,Xy y,Xy (ZX y RG),M,u,o,b3 _ (m _ _ (b3 _ p)),L]
 .show#[W,h u r N λb o e=>?_];let lb:=b4 e;show k2 b o (Xy lb) (Xy (ZX lb RG)) (b3 _ (m _ _ (b3 _ e)))
 .let:=a.at (h':=c.push {cls:=.type "tuple_iterator",data:=.fields #v[.ref Y,.int 0 0]}) λo e=>b3 _ (m _ _ e);show this
end
end PySem
namespace L10
open PySem PySem.Spec PyProof.Rows L2 L3
inductive acJ(K:CL)(H:Hp):G V->G (cg×V)->Prop
 |nil:acJ K H [] []
 |cons {q:M} {k:cg} {v:V} {vs:G V} {XA:G (cg×V)}:SqT K H q [kV k,v]->acJ K H vs XA->acJ K H (.ref q::vs) ((k,v)::XA)
def yC(K:CL):G V->Hp->VK->Prop:=λxs H Q=>∃p ys a,xs=[.ref p]/\SqT K H p ys/\acJ K H ys a/\∀d,H d=P->Q (.ref d) (aR H d (.dK (nw [] a)))
theorem Ii(I:Inv X pins σ H s):∀{ys:G V} {y:G (cg×V)} {us:G J},acJ X.K H ys y->Vals ys us->∃d:G (cg×J),KV y d/\d.length=us.length/\∀(i:Nat) (v:J),us[i]?=R v->∃q key k x,v=.ref q/\d[i]?=R (k,x)/\(cC X.prog X.w).is k key=S/\s.heap.IsTuple q #v[key,x]
 |_,_,_,.nil,.nil=>#[[],.nil,W,λi v e=>by simp at e]
 |_,_,_,.cons (q:=q) (k:=k) (v:=v) h t,.cons r rs=>by
  let(d,o,n,m):=Ii I t rs;let(p,A,pl,_):=I.tuple h;ext r;obtain⟨g,f,rfl,l,j⟩:∃g f,p=[g,f]/\RelV (kV k) g/\RelV v f:=by
   cases A with
   |cons a b=>cases b with
    |cons b c=>ext c;show#[_,_,W,a,b]
  show#[(k,f)::d,.cons #[W,j] o,by rw[Xk,Xk,n],λi u e=>?_];cases i with
  |zero=>ext e;show#[q,g,k,f,W,W,tj l,pl]
  |succ i=>show m i u (by simpa using e)
def zm(F:X.calm=WZ):Zf X (.type "dict") (yC X.K):=by
 intro f s G H xs L Q I r h;let(p,J,Y,rfl,t,w,q):=h;let(u,rfl,g):=im r;ext g;let(S,T,(o,y,(b,n,E),a),m):=I.agQ t;let(P,k1,k2,k3):=Ii I w T;let(O,N,l,j):=o;ext b;ext E;ext a;let A:=T.length;let B:=k1.length;show pz (I.ok.hd F) y (by rw[Xo];show k2) (by rw[Xo,<-A];show m) (λi v e=>k3 i v (by simpa using e)) λR M dd C=>?_;show#[.ref s.heap.objs.size,_,I.laid C (Xd _) ?_,W,q _ (I.Yn.fresh (Xd _))];show yu ?_ ?_ (KV.merge k1 .nil) dd
 .let:=kP Y [];rw[Y5]at this;ext
 .show beq_eq_false_iff_ne.mpr (Yt I.big)
end L10
namespace L10
open PySem PyProof.Rows L2 L3
def Ou:X7 "dict"=R (.type "dict"):=by left
section
variable{B O O':bB}{K:CL}{E:XK}{H H' S R:Hp}{Y α' X U:bg W7}{ω ω' ω1 Z:aK}{T:L2.St}{ρ:aP}{v:V}
def sG:SV->I cg
 |.fz (.int i)=>cL (.inl i)
 |.fz (.str x)=>cL (.inr x)
 |_=>P
def pY(e:sG x=cL k)(h:ZA O K H Y v x):v=kV k:=by
 unfold sG at e;split at e
 .ext e;ext h;rfl
 .ext e;ext h;rfl
 .ext e
abbrev ve(O:bB)(K:CL)(H:Hp)(Y:G M):G (cg×V)->G (cg×SV)->Prop:=Paired (λ(p:cg×V) (q:cg×SV)=>p.1=q.1/\ZA O K H Y p.2 q.2)
def gS(ω:aK):SV->I (Nat×G (cg×SV))
 |.rf i=>match ω[i]? with
  |some (.dct a)=>cL (i,a)
  |_=>P
 |_=>P
def lj(s:StoOk B K H Y ω)(b:ZA (ow B Y ω) K H Y v x)(h:gS ω x=cL (i,o)):ω[i]?=cL (.dct o)/\∃a ws,Y[i]?=cL a/\v=.ref a/\H a=cL (.dK ws)/\ve (ow B Y ω) K H Y ws o:=by
 cases x with
 |fz d=>ext h
 |tp l=>ext h
 |rf j=>
  let(a,n,rfl):=b;unfold gS at h;dsimp only at h;cases q:ω[j]? with
  |none=>rw[q]at h;ext h
  |some c=>
   rw[q]at h;cases c with
   |dct m=>let e:=Xj h;ext e;let(ws,g,f):=s.cel i a _ n q;show#[q,a,ws,n,W,g,f]
   |_=>ext h
def jj(a:G (cg×SV))(k:cg):I SV:=(a.find? λkv=>decide (kv.1=k)).map (·.2)
def jx(a:G (cg×SV))(k:cg)(x:SV):G (cg×SV):=
 if(a.any λkv=>decide (kv.1=k))=WZ then a.map (λkv=>if kv.1=k then(kv.1,x)else kv)else a++[(k,x)]
def lF(a:G (cg×SV))(k:cg):G (cg×SV):=a.filter λkv=>decide (kv.1≠k)
def vS:∀{ws:G (cg×V)} {c:G (cg×SV)},ve O K H Y ws c->(∀x,jj c k=cL x->∃v,jA ws k=cL v/\ZA O K H Y v x)/\(jj c k=P->jA ws k=P):=by
 intro _ _ f
 induction f with
 |nil=>show#[λx e=>(by ext e),λ_=>W]
 | @cons m l ws c j t n=>
  let(a,u):=m;let(b,y):=l;let(i,g):=j;ext i;unfold jj jA;rw[XW,XW];by_cases e:a=k
  .simp only[a5 e];show#[λx h=>#[u,W,by ext h;show g],λh=>by ext h]
  .simp only[a6 e];show n
def Ve:∀{ws:G (cg×V)} {c:G (cg×SV)},ve O K H Y ws c->(ws.any λkv=>decide (kv.1=k))=c.any λkv=>decide (kv.1=k):=by
 intro _ _ e
 induction e with
 |nil=>show W
 | @cons j i ws c h t l=>let(a,u):=j;let(b,y):=i;let(f,g):=h;ext f;rw[Z7,Z7,l]
def Vv(g:ZA O K H Y v x):∀{ws:G (cg×V)} {c:G (cg×SV)},ve O K H Y ws c->ve O K H Y (ws.map (λkv=>if kv.1=k then(kv.1,v)else kv)) (c.map (λkv=>if kv.1=k then(kv.1,x)else kv)):=by
 intro _ _ f
 induction f with
 |nil=>show .nil
 | @cons n m ws c l t j=>
  let(a,u):=n;let(b,y):=m;let(i,h):=l;ext i;rw[Xq,Xq];by_cases e:a=k
  .rw[ax e,ax e];show .cons #[W,g] (j)
  .rw[a4 e,a4 e];show .cons #[W,h] (j)
def Ic(h:ve O K H Y ws o)(r:p.1=q.1/\ZA O K H Y p.2 q.2):ve O K H Y (ws++[p]) (o++[q]):=by
 induction h with
 |nil=>show .cons r .nil
 |cons a _ b=>show .cons a b
def BM(a:ZA O K H Y v x)(h:ve O K H Y ws o):ve O K H Y (iS ws k v) (jx o k x):=by
 unfold iS jx;rw[Ve h];split
 .show Vv a h
 .show Ic h #[W,a]
def Eu:∀{ws:G (cg×V)} {c:G (cg×SV)},ve O K H Y ws c->ve O K H Y (my ws k) (lF c k):=by
 intro _ _ f
 induction f with
 |nil=>show .nil
 | @cons m l ws c j t i=>
  let(a,u):=m;let(b,y):=l;let(h,g):=j;ext h;unfold my lF;rw[ZE,ZE];by_cases e:a=k
  .let z:decide (a≠k)=W3:=a6 λn=>n e;simp only[z];show i
  .let z:=a5 e;simp only[z];show .cons #[W,g] (i)
def sB(neg:Bool)(a fd:cw):cw:=λρ ω=>(a ρ ω).bind λx ω1=>(fd ρ ω1).bind λo Z=>(RS.X5 Z (sG x)).bind λk Z=>(RS.X5 Z (gS Z o)).bind λp Z=>.ok (.fz (.bool ((jj p.2 k).isSome !=neg))) Z
def GK(h:ve O K H Y ws o):(jA ws k).isSome=(jj o k).isSome:=by
 let(b,a):=vS h;cases q:jj o k with
 |none=>rw[a q];rfl
 |some x=>let(u,e,_):=b x q;rw[e];rfl
def Mg(p:bT K E C fk)(hd:bT K E td fd):bT K E (Ss C td) (sB W3 fk fd):=by intro B T H Y ω ρ Q s e w;show p B T H Y ω ρ _ s e (w.bind.imp λx X ω1 S e1 h g v m=>?_);show hd B T S X ω1 ρ _ h (e.Za e1) (g.bind.imp λo U Z R e2 f b u n=>?_);let(k,l,b):=WS.X5 b;let((i,y),j,b):=WS.X5 b;let(_,a,ws,t,rfl,r,q):=lj f n j;show#[a,jA ws k,W,by rw[pY l m];show acT.k r,?_];rw[GK q];show WS.now f b _ ?_;rw[agc];show .bl _
def rN(fd a:cw):cw:=λρ ω=>(fd ρ ω).bind λo ω1=>(a ρ ω1).bind λx Z=>(RS.X5 Z (sG x)).bind λk Z=>(RS.X5 Z (gS Z o)).bind λp Z=>RS.X5 Z (jj p.2 k)
def Ed(hd:bT K E td fd)(t:bT K E tk fk):bT K E (NO td tk) (rN fd fk):=by
 intro B T H Y ω ρ Q s e w;show hd B T H Y ω ρ _ s e (w.bind.imp λo X ω1 S e1 j g u r=>?_);show t B T S X ω1 ρ _ j (e.Za e1) (g.bind.imp λx U Z R e2 f b v p=>?_);let(k,m,b):=WS.X5 b;let((i,L),l,b):=WS.X5 b;let(_,a,ws,N,rfl,C,A):=lj f (r.Za e2) l;dsimp only at b;cases q:jj L k with
 |none=>rw[q]at b;show b.elim
 |some y=>rw[q]at b;let(z,n,h):=(vS A).1 y q;show#[a,z,W,by rw[pY m p,<-n];show acT.k C,WS.now f b z h]
def uc(fd b c:cw):dG:=λρ ω=>(c ρ ω).bind λy ω1=>(fd ρ ω1).bind λo Z=>(b ρ Z).bind λx a=>(RS.X5 a (sG x)).bind λk a=>(RS.X5 a (gS a o)).bind λp a=>if p.2.length<1000000 then .ok (.nx ρ) (a.set p.1 (.dct (jx p.2 k y)))else .bad
def GR(hd:bT K E td fd)(N:bT K E tk fk)(L:bT K E tv fv):mJ K E (Nh td tk tv) (uc fd fk fv):=by
 intro B T H Y ω ρ D s g w;show L B T H Y ω ρ _ s g (WS.imp (WS.bind w) λy X ω1 S e1 F A n m=>?_);show hd B T S X ω1 ρ _ F (g.Za e1) (WS.imp (WS.bind A) λo U Z R e2 C t u M=>?_);show N B T R U Z ρ _ C (g.Za (e1.trans e2)) (WS.imp (WS.bind t) λx b e j e3 p f z J=>?_);let(k,I,f):=WS.X5 f;let((i,XA),G,f):=WS.X5 f;let(l,a,ws,ha,rfl,P,q):=lj p (M.Za e3) G;dsimp only at f;by_cases hn:XA.length<1000000
 .rw[ax hn]at f;let ev:Ev (ow B b e) j (ow B b e) (aR j a (.dK (iS ws k n))):=qI ha l (by nofun);let e4:YB b e j b (e.set i (.dct (jx XA k y))) (aR j a (.dK (iS ws k n))):=YB.put ha l (by nofun) (by nofun);let Q:=Paired.length q;show#[a,_,W,by rw[pY I J];show afq.k P (tf ()),?_];show f b _ e4 (p.put ha l (by nofun) (by nofun) #[_,ay,BM ((m.Za (e2.trans e3)).ev ev λ_ _ h=>h) (Paired.Z4 q λ_ _ r=>#[r.1,r.2.ev ev λ_ _ h=>h])]) T ((g.Za (e1.trans (e2.trans e3))).Za e4)
 .rw[a4 hn]at f;show f.elim
def ub(fd a:cw):cw:=λρ ω=>(fd ρ ω).bind λo ω1=>(RS.X5 ω1 (gS ω1 o)).bind λ_ ω1=>(a ρ ω1).bind λx Z=>(RS.X5 Z (sG x)).bind λk Z=>(RS.X5 Z (gS Z o)).bind λp Z=>(RS.X5 Z (jj p.2 k)).bind λy Z=>.ok y (Z.set p.1 (.dct (lF p.2 k)))
def Io(hd:bT K E td fd)(J:bT K E tk fk):bT K E (Hz td tk) (ub fd fk):=by intro B T H Y ω ρ Q s j w;show hd B T H Y ω ρ _ s j (w.bind.imp λo X ω1 S e1 m f u n=>?_);let((P,N),F,f):=WS.X5 f;let(_,a,e,_,rfl,g0,_):=lj m n F;show#[a,W,.inl #[e,.inl g0],?_];show J B T S X ω1 ρ _ m (j.Za e1) (f.bind.imp λx U Z R e2 l b v I=>?_);let(k,C,b):=WS.X5 b;let((i,XA),A,b):=WS.X5 b;let(g,a',ws,ha,M,L,p):=lj l (n.Za e2) A;ext M;dsimp only at b;let(y,q,b):=WS.X5 b;let(z,G,t):=(vS p).1 y q;let ev:Ev (ow B U Z) R (ow B U Z) (aR R a (.dK (my ws k))):=qI ha g (by nofun);let e4:YB U Z R U (Z.set i (.dct (lF XA k))) (aR R a (.dK (my ws k))):=YB.put ha g (by nofun) (by nofun);show#[ws,k,z,L,pY C I,G,?_];show b U _ e4 (l.put ha g (by nofun) (by nofun) #[_,ay,Eu (Paired.Z4 p λ_ _ r=>#[r.1,r.2.ev ev λ_ _ h=>h])]) z (t.Za e4)
def jO(s:StoOk B K H Y ω)(a:H p=P)(w:WS K E B H Y ω (PQ B K Q) (.ok (.rf ω.length) (ω++[c])))(f:∀e:YB Y ω H (Y++[p]) (ω++[c]) (aR H p o),COk (ow B (Y++[p]) (ω++[c])) K (aR H p o) (Y++[p]) p c):Q (.ref p) (aR H p o):=by let b:YN H (aR H p o):=bj a _;let e:YB Y ω H (Y++[p]) (ω++[c]) (aR H p o):=YB.adl s.len b a;show w _ _ e (s.adl b a (by rw[ay];simp) (f e)) _ #[p,by rw[<-s.len];show bf,W]
def xG(fd:cw):cw:=λρ ω=>(fd ρ ω).bind λo ω1=>(RS.X5 ω1 (gS ω1 o)).bind λp ω1=>.ok (.rf ω1.length) (ω1++[.lst (p.2.map (·.2))])
def HB:∀{ws:G (cg×V)} {b:G (cg×SV)},ve O K H Y ws b->Zb O K H Y (ws.map (·.2)) (b.map (·.2)):=by
 intro _ _ a
 induction a with
 |nil=>show .nil
 | @cons _ _ _ _ h t e=>show .cons h.2 (e)
def ED(hd:bT K E td fd):bT K E (tI Ez (c8 (Sf K "dict" NY td) gM)) (xG fd):=by intro B T H Y ω ρ Q s m w;show hd B T H Y ω ρ _ s m (w.bind.imp λo X ω1 S e1 h f u t=>?_);let((i,N),q,f):=WS.X5 f;let(F,a,ws,L,rfl,g,C):=lj h t q;show#[.inr (.inr (.inl #[W,.inl #[ws,g]])),a,ws,W,W,g,λp y=>?_];let b:YN S (aR S p (UM p a)):=bj y _;let n:=h.grow b;let j:=WS.from (YB.same b) f;show#[p,a,ws,W,ay,b _ _ g,λl A=>?_];show jO n A j λe=>#[_,ay,HB (Paired.Z4 C λ_ _ r=>#[r.1,(r.2.Za (YB.same b)).Za e])]
def yl:cg->I Int
 |.inl i=>cL i
 |.inr _=>P
def qh(fd:cw):cw:=λρ ω=>(fd ρ ω).bind λo ω1=>(RS.X5 ω1 (gS ω1 o)).bind λp ω1=>(RS.X5 ω1 (aA yl (p.2.map (·.1)))).bind λa ω1=>if a.length<64 then .ok (.rf ω1.length) (ω1++[.lst ((jH a).map λi=>SV.fz (.int i))])else .bad
theorem r9:∀{c:G cg} {a:G Int},aA yl c=cL a->c=a.map Sum.inl
 |[],_,e=>by ext e;rfl
 |k::r,a,e=>by
  unfold aA at e;cases k with
  |inr x=>ext e
  |inl i=>
   dsimp only[yl]at e;cases q:aA yl r with
   |none=>rw[q]at e;ext e
   |some b=>rw[q]at e;ext e;rw[Xq,<-r9 q]
def ER:∀{ws:G (cg×V)} {b:G (cg×SV)},ve O K H Y ws b->ws.map (·.1)=b.map (·.1):=by
 intro _ _ a
 induction a with
 |nil=>show W
 | @cons _ _ _ _ h t e=>rw[Xq,Xq,h.1,e]
theorem A5(O:bB)(K:CL)(H:Hp)(Y:G M):∀ns:G Int,Zb O K H Y (ns.map V.int) (ns.map λi=>SV.fz (.int i))
 |[]=>.nil
 |n::r=>.cons (.int n) (A5 O K H Y r)
def Fy(hd:bT K E td fd):bT K E (tI x4 (c8 td gM)) (qh fd):=by
 intro B T H Y ω ρ Q s h w;show hd B T H Y ω ρ _ s h (w.bind.imp λo X ω1 S e1 g b u n=>?_);let((i,N),m,b):=WS.X5 b;let(C,a,ws,L,rfl,y,t):=lj g n m;let(f,j,b):=WS.X5 b;by_cases hn:f.length<64
 .rw[ax hn]at b;show#[a,ws,f,W,y,by rw[ER t];show r9 j,hn,λl F r q p=>?_];let A:=ko (q.trans (eJ f).symm) p (dL f);subst A;show jO g r b λe=>#[_,ay,A5 _ _ _ _ _]
 .rw[a4 hn]at b;show b.elim
def qG:D->I (cg×SV)
 |.tuple [.int i,d]=>cL (.inl i,.fz d)
 |.tuple [.str x,d]=>cL (.inr x,.fz d)
 |_=>P
def vd:SV->I (G (cg×SV))
 |.fz (.tuple ds)=>aA qG ds
 |_=>P
def B6(e:vd x=cL o):∃ds,x=.fz (.tuple ds)/\aA qG ds=cL o:=by
 unfold vd at e;split at e
 .show#[_,W,e]
 .ext e
def lS(c a:G (cg×SV)):G (cg×SV):=a.foldl (λb kv=>jx b kv.1 kv.2) c
def tY(b:cw):cw:=λρ ω=>(b ρ ω).bind λx ω1=>(RS.X5 ω1 (vd x)).bind λa ω1=>.ok (.rf ω1.length) (ω1++[.dct (lS [] a)])
theorem xo:∀{k:G V} {ds:G D} {j:G (cg×SV)},L3.YE O K H k ds->aA qG ds=cL j->∃g,acJ K H k g/\ve O K H Y g j
 |_,_,_,.nil,e=>by ext e;show#[[],.nil,.nil]
 |_,_,_,.cons (d:=d) (ds:=ds) h t,e=>by
  unfold aA at e;cases q:qG d with
  |none=>rw[q]at e;ext e
  |some p=>
   rw[q]at e;dsimp only at e;cases i:aA qG ds with
   |none=>rw[i]at e;ext e
   |some j=>
    rw[i]at e;ext e;let(g,k1,k2):=xo t i;unfold qG at q;split at q
    .ext q
     cases h with
     |tup h f=>cases f with
      |cons a b=>cases b with
       |cons b c=>ext c;ext a;show#[(.inl _,_)::g,.cons h.1 k1,.cons #[W,b] k2]
    .ext q
     cases h with
     |tup h f=>cases f with
      |cons a b=>cases b with
       |cons b c=>ext c;ext a;show#[(.inr _,_)::g,.cons h.1 k1,.cons #[W,b] k2]
    .ext q
theorem AG:∀{e:G (cg×V)} {f:G (cg×SV)} {ws:G (cg×V)} {c:G (cg×SV)},ve O K H Y e f->ve O K H Y ws c->ve O K H Y (nw ws e) (lS c f)
 |_,_,_,_,.nil,h=>h
 |(a,u)::e,(b,y)::f,_,_,.cons r t,h=>by let(i,g):=r;ext i;show ve O K H Y (nw (iS _ a u) e) (lS (jx _ a y) f);show AG t (BM g h)
def E4(l:bT K E o C):bT K E (tI (yC K) (c8 o gM)) (tY C):=by
 intro B T H Y ω ρ Q s f w;show l B T H Y ω ρ _ s f (w.bind.imp λx X ω1 S e1 g b u i=>?_);let(p,q,a):=WS.X5 b;let(ds,rfl,q):=B6 q;let a:=a;cases i with
 |tup h j=>let(n,k1,k2):=xo j q;show#[_,_,n,W,h.1,k1,λd m=>jO g m a λe=>#[_,ay,AG (Paired.Z4 k2 λ_ _ r=>#[r.1,r.2.Za e]) .nil]]
end
end L10
namespace PySem
open PyProof.Rows
def jC:I Int->Int->I Int
 |none,x=>R x
 |some m,x=>R (if x>m then x else m)
def T3:I (Int×Tok)->Array J
 |none=> #v[]
 |some (m,t)=> #v[.int m t,.int m t]
def N0(d:J):I (Int×Tok)->J
 |none=>d
 |some (m,t)=>.int m t
namespace F
def args_maxd(a b:J):checkBuiltinCall "max" #[[a],[("default",b)]]=pure ⟨⟩:=by kernel_rfl
end F
section
variable{prog:Xu}{w:XQ}{A:XJ}{E:WY->W9->Prop}{R:acM->W9->Prop}{I l S:W7}{vs:bg WY}{d:WY}
def LZ(V:A.handled=Ld)(z:l≠I)(r:S≠I)(T:S≠l){s:W9}:
  ∀{C:bg WY} {ns:bg Int},IntsAre C ns->∀(i:Nat) (h:Heap) (O:Nat) (b:bt (Int×Tok)) (c:Nat),vs=vs.take i++C->i<=vs.length->h.IsListIter I l i->h.IsList l vs.toArray->h.get? S=cL {cls:=.type "list",dict:=Ld,data:=.seq (T3 b) c,slots:= #v[]}->
  (∀x O D,D.map (·.1)=ns.foldl jC (b.map (·.1))->(∀a o,a≠I->a≠S->h.get? a=cL o->x.get? a=cL o)->R (.ok (.ret (N0 d D))) {s with heap:=x,toks:=O})->
  codeAny (model prog w) A (.builtin "max.loop" #[[.ref I,.none,.ref S],[("default",d)]]) R {s with heap:=h,toks:=O}:=by
 let W:=Walks.list (prog:=prog) (w:=w) (A:=A.in1) V I l z vs.toArray;intro C ns hi
 induction hi with
 |nil=>
  intro i h O b c u hi it li U N;let e:i=vs.toArray.size:=by rw[X2]at u;let:=dw aaw u;rw[Yb]at this;rw[Xo];ext
  show ZU F.entry_max_loop ?_;rw[XJ.under_plainId F.plain_max_loop _];show lD (YD U rfl ?_);show lD (abI (W.done _ _ _ (e▸#[it,li]) λx g y=>?_));let f:=y S _ (by simpa using r) U;cases b with
  |none=>show lD (abi (W6 ?_));show N x g Ld rfl λa o j B e=>y a o (by simpa using j) e
  |some p=>let(m,t):=p;show lD (ac9 f rfl (lD (ZL (W6 ?_))) (hz:=by show 2<=Xi;decide));show N _ g (cL (m,t)) rfl λa o j B e=>(b7 _ _ (c9 B)).trans (y a o (by simpa using j) e)
 | @cons n t al1 aiK hr ih=>
  intro i h O b c u hi it li U N;let H:i<vs.toArray.size:=by let:=dw aaw u;rw[Xf,Yb,Xk]at this;rw[Xo];ext
  let Q:vs[i]?=cL (.int n t):=by rw[u,XO (by rw[Yb];ext),Yb,agd hi,abZ];rfl
  let G:vs=vs.take (i+1)++al1:=by rw[ZV,Q];rw[XZ];show u
  let J:i+1<=vs.length:=by rw[Xo]at H;show H
  show ZU F.entry_max_loop ?_;rw[XJ.under_plainId F.plain_max_loop _];show lD (YD U rfl ?_);show lD (abI (W.item i _ _ _ H #[it,li] λv x g hP M y=>?_));let ev:v=.int n t:=by let X:=hP;rw[List.getElem?_toArray,Q]at X;show(Xj X).symm
  subst ev;let f:=y S _ (by simpa using r) U;let L:(toString "max"++toString ".loop":String)= "max.loop":=by decide
  cases b with
  |none=>
   show wpAny _ A.in1 (updateSeq S (λ_=> #v[WY.int n t,WY.int n t])>>=_) _ _ _;show lD (ac9 f rfl ?_);rw[L];show W6 #[ZT F.plain_max_loop _,ih (i+1) _ g (cL (n,t)) _ G J (M.1.at λo e=>?_) (M.2.at λo e=>?_) (b9 _ f rfl) λB q Y e2 k2=>N B q Y e2 λa o j K e=>k2 a o j K ((b7 _ _ (c9 K)).trans (y a o (by simpa using j) e))]
   .show(b7 _ _ r).trans e
   .show(b7 _ _ T).trans e
  |some p=>
   let(m,t0):=p;show wpAny _ A.in1 (tryCatch (holding [WY.int n t,WY.int n t] (richCompare .Gt (WY.int n t) (WY.int m t0)>>=_)) _>>=_) _ _ _;let ama:=CmpOf.ints_gt (prog:=prog) (w:=w) (A:=A.in1) (P:=λ(k:Nat) v=>(k=0/\v=WY.int n t)\/(k=1/\v=WY.int m t0)) (λk=>if k=0 then n else m) λk v u=>by
    rcases u with⟨rfl,rfl⟩|⟨rfl,rfl⟩
    .show#[t,rfl]
    .show#[t0,rfl]
   show lD (abI (Yp (lD (ama 0 1 _ _ _ _ _ (.inl #[rfl,rfl]) (.inr #[rfl,rfl]) ?_))));show lD (Yp (ZC ?_));show lD (ZL (W6 ?_));show wpAny _ A.in1 (if decide (n>m)=WZ then _ else _) _ _ _;by_cases Z:n>m
   .rw[ax (a5 Z)]
    show lD (ac9 f rfl (lD (ZL ?_)) (hz:=by show 2<=Xi;decide));rw[L];show W6 #[ZT F.plain_max_loop _,ih (i+1) _ g (cL (n,t)) _ G J (M.1.at λo e=>?_) (M.2.at λo e=>?_) (b9 _ f rfl) λB q Y e2 k2=>N B q Y ?_ λa o j K e=>k2 a o j K ((b7 _ _ (c9 K)).trans (y a o (by simpa using j) e))]
    .show(b7 _ _ r).trans e
    .show(b7 _ _ T).trans e
    .rw[e2];show _=aiK.foldl jC (cL (if n>m then n else m));rw[ax Z];rfl
   .rw[a4 (by rw[a6 Z];show Xp)];show lD (ZL ?_);rw[L];show W6 #[ZT F.plain_max_loop _,ih (i+1) _ g (cL (m,t0)) c G J M.1 M.2 f λB q Y e2 k2=>N B q Y ?_ λa o j K e=>k2 a o j K (y a o (by simpa using j) e)];rw[e2];show _=aiK.foldl jC (cL (if n>m then n else m));rw[a4 Z];rfl
def CV(n:A.handled=P)(h:s.heap.IsList l vs.toArray)(r:IntsAre vs ns)
  (q:∀c k b,b.map (·.1)=ns.foldl jC P->(∀a o,s.heap.get? a=cL o->c.get? a=cL o)->Q (N0 d b) {s with heap:=c,toks:=k}):
  wpAny (model prog w) A (call (.builtin "max") [.ref l] [("default",d)]) Q E s:=by
 let g:l<s.heap.objs.size:=by let(_,e,_):=h;show b4 e
 let i:(toString "max"++toString ".loop":String)= "max.loop":=by decide
 show aaI (ZM F.plain_max F.entry_max (abG (F.args_maxd _ _) ?_));show lD (abG (show XN.Builtins.bindParams "max" ["key","default"] 0 #[[],[("default",d)]]=pure [P,cL d]from rfl) ?_);show lD (W6 ?_);show lD (ZS h ?_);show lD (X9 ?_);rw[i];let f:(s.heap.push {cls:=.type "list_iterator",data:=.fields #v[.ref l,.int 0 0]}).objs.size=s.heap.objs.size+1:=cc _ _;show W6 #[ZT F.plain_max_loop _,LZ n (Xy g) (by rw[f];show Nat.succ_ne_self _) (by rw[f];show Yt (aaF g)) r 0 _ s.toks P 0 W (XY _) #[_,b3 _ (b5 _ W),W,W] ((h.push _).push _) (b5 _ W) λc k b p m=>?_];show q c k b p λa o e=>?_;let j:=b4 e;show m a o (Xy j) (by rw[f];show Xy (aaF j)) (b3 _ (b3 _ e))
end
end PySem
namespace L10
open PySem PySem.Spec PyProof.Rows L2 L3
def NX(K:CL)(i:Int):G V->Hp->VK->Prop:=λxs H Q=>∃(p:M) (a:G Int),xs=[.ref p]/\SqL K H p (a.map V.int)/\Q (.int ((a.foldl jC P).getD i)) H
def La(E:X.calm=S)(C:Gl X "max")(hm:X.mg "max"=Ld)(c:PA X [l] ta)(g:Pv l=U:=by rfl):
  PE X (.Call (.Name "max" p) [l] [#[R "default",.Constant (.int i) j p1,p2]] pos) (tI (NX X.K i) ta):=by
 intro e s n H Q I h;show Zq (og I C hm NM (callWith_kw (bU (c pos e s n H _ I h) λJ o #[Y,G,f,v,w]=>?_) (by rw[t9 _ _ _ g];rfl) (by rw[t9 _ _ _ g];rfl) W W));let(a,y,rfl,A,q):=w;let(u,rfl,r):=im v;ext r;let(O,T,pl,M):=f.list A;show ai9 (agx (aja ?_));let P:=f.tok (o.toks+1);show CV (f.ok.hd E) pl.isList (lQ T) λN L b F B=>?_;show#[.int ((y.foldl jC Ld).getD i),G,f.kept B,?_,q];rw[<-F];cases b with
 |none=>show#[_,W]
 |some p=>let(m,t):=p;show#[t,W]
def BR(i:Int):G D->I RV
 |[.list ds]=>(nY ds).map λa=>.fz (.int ((a.foldl jC P).getD i))
 |_=>P
def Lr{K:CL}:A1 K (NX K i) (BR i):=by
 intro O H xs ds p Q n f e q;unfold BR at e;split at e
 .rename_i es
  cases f with
  |cons l j=>
   ext j;cases m:nY es with
   |none=>rw[m]at e;ext e
   |some b=>rw[m]at e;ext e;let(a,o,rfl,h,g):=BW l;obtain rfl:=pU g m;show#[a,b,W,h.sq,q.at (.int _)]
 .ext e
end L10
namespace L10
open PySem L2 L3
section
variable{B O O':bB}{K:CL}{E:XK}{H H' H1 H2:Hp}{X Y U α2:bg W7}{ω Z ω1 ω2:aK}{σ:L2.St}{ρ:aP}{v:V}
def gI{l r:G A}(h:(l++r)[i]?=R y):l[i]?=R y\/∃j,i=l.length+j/\r[j]?=R y:=by
 by_cases hi:i<l.length
 .rw[Xe hi]at h;show .inl h
 .rw[XO ()]at h;show .inr #[i - l.length,by ext,h]
def Lj{l r:G A}{i:Nat}(h:l[i]?=R y):(l++r)[i]?=R y:=by rw[Xe (W2.mp h).1];show h
def Gz{l r:G A}(h:r[i]?=R y):(l++r)[l.length+i]?=R y:=by rw[XO (),Zh];show h
def GU(g:X.length=ω.length)(h:Lv (X++o) (ω++cs) b):Lv X ω b\/b∈o:=by
 let(i,d,f,e,a):=h;rcases gI f with g1|⟨j,e1,g1⟩
 .rcases gI e with g2|⟨k,e2,g2⟩
  .show .inl #[i,d,g1,g2,a]
  .let:=(W2.mp g1).1;ext
 .show .inr (XF g1)
theorem YB.acZ(s:StoOk B K H X ω)(e:YN H H')(f:∀p∈ps,H p=P):YB X ω H (X++ps) (ω++cs) H':=
 #[λi a h=>Lj h,λb u q _=>e b u q,λb z=>(GU s.len z).imp id λz=>f b z]
def StoOk.acZ(s:StoOk B K H X ω)(e:YN H H')(f:∀p∈ps,H p=P)(m:∀p∈ps,H' p≠P)(nd:∀(i j:Nat) (a:M),ps[i]?=R a->ps[j]?=R a->i=j)(t:ps.length=cs.length)
  (new:∀(i:Nat) (a:M) (c:Cell),ps[i]?=R a->cs[i]?=R c->COk (ow B (X++ps) (ω++cs)) K H' (X++ps) a c):StoOk B K H' (X++ps) (ω++cs):=by
 let ev:YB X ω H (X++ps) (ω++cs) H':=YB.acZ s e f;let n:∀b,H b≠P->H' b≠P:=λb h z=>h (e.free z);show#[by rw[Xf,Xf,s.len,t],λi j a g l=>?_,λa h=>n a (s.bn a h),λa h i q=>?_,λi a h=>?_,λi a d g l=>?_]
 .rcases gI g with g1|⟨y,e1,g1⟩<;>rcases gI l with g2|⟨u,e2,g2⟩
  .show s.nd i j a g1 g2
  .show bb (f a (XF g2)) (s.al i a g1)
  .show bb (f a (XF g1)) (s.al j a g2)
  .let:=nd y u a g1 g2;ext
 .rcases gI q with q|⟨j,_,q⟩
  .show s.ba a h i q
  .show s.bn a h (f a (XF q))
 .rcases gI h with h|⟨j,_,h⟩
  .show n a (s.al i a h)
  .show m a (XF h)
 .let r:=s.len
  rcases gI l with g2|⟨j,e2,g2⟩
  .rcases gI g with g1|⟨k,e1,g1⟩
   .show(s.cel i a d g1 g2).ev ev.ev ev.pre λo q=>e _ _ q
   .let:=(W2.mp g2).1;ext
  .rcases gI g with g1|⟨k,e1,g1⟩
   .let:=(W2.mp g1).1;ext
   .let:k=j:=by ext
    subst this;show new k a d g1 g2
def DE(Z:aK):Nat->G AV->I (G AV×G (G D)×G Nat)
 |_,[]=>R ([],[],[])
 |n,.fz d::r=>match DE Z n r with
  |some (l,cs,a)=>R (.fz d::l,cs,a)
  |none=>P
 |n,.rf i::r=>match sh Z (.rf i)with
  |some (.list ds)=>(match DE Z (n+1) r with
   |some (l,cs,a)=>R (.rf n::l,ds::cs,i::a)
   |none=>P)
  |_=>P
def UE(ds:G D):Cell:=.lst (ds.map .fz)
def jh(x:SV)(Z ω:aK):RS SV:=match x with
 |.fz d=>.ok (.fz d) ω
 |.rf i=>(match sh Z (.rf i)with
  |some (.list ds)=>kQ ω (.ow ds)
  |_=>.bad)
 |.tp l=>(match DE Z ω.length l with
  |some (a,cs,b)=>if b.Nodup then .ok (.tp a) (ω++cs.map UE)else .bad
  |none=>.bad)
def uF(h:sh ω (.rf i)=R (.list ds)):∃xs,ω[i]?=R (.lst xs)/\aA vx xs=R ds:=by
 unfold sh at h;dsimp only at h;cases q:ω[i]? with
 |none=>rw[q]at h;ext h
 |some c=>
  rw[q]at h;cases c with
  |lst xs=>
   dsimp only at h;cases a:aA vx xs with
   |none=>rw[a]at h;ext h
   |some es=>rw[a]at h;ext h;show#[xs,W,a]
  |_=>ext h
def lJ(s:StoOk B K H X ω)(h:sh ω (.rf i)=cL (.list ds)):∃a c,X[i]?=cL a/\H a=cL (.lst c)/\L3.YE (ow B X ω) K H c ds/\ow B X ω a:=by let(xs,b,f):=uF h;let(a,l):=s.at b;let(c,j,g):=s.cel i a _ l b;show#[a,c,l,j,lB (cS (R:=ZA (ow B X ω) K H X) (λv x y r e=>yE r e) g f),.inr #[i,_,l,b,by intro z;ext z]]
def Sx{o:bB}(s:StoOk o K H' Y Z):∀{n:Nat} {l u:bg AV} {cs:bg (bg D)} {g:bg Nat} {xs:bg V},DE Z n l=R (u,cs,g)->Paired (AOk (ow o Y Z) K H' Y) xs l->
  ∃c:bg W7,c.length=g.length/\cs.length=g.length/\(∀(k j:Nat),g[k]?=R j->∃a ds z,c[k]?=R a/\cs[k]?=R ds/\Y[j]?=R a/\H' a=R (.lst z)/\L3.YE (ow o Y Z) K H' z ds/\ow o Y Z a)/\
   ∀(b:bg W7),b.length=n->Paired (AOk (ow o Y Z) K H' (b++c)) xs u:=by
 intro n l u cs g xs e p
 induction p generalizing n u cs g with
 |nil=>ext e;show#[[],W,W,λk j h=>by simp at h,λb _=>.nil]
 | @cons _ x _ r h t T=>
  cases x with
  |fz d=>
   unfold DE at e;cases q:DE Z n r with
   |none=>rw[q]at e;ext e
   |some p=>let(J,G,w):=p;rw[q]at e;ext e;let(c,F,C,A,y):=T q;show#[c,F,C,A,λb f=>.cons h (y b f)]
  |rf i=>
   unfold DE at e;cases Q:sh Z (.rf i)with
   |none=>rw[Q]at e;ext e
   |some d=>
    rw[Q]at e;cases d with
    |list ds=>
     dsimp only at e;cases q:DE Z (n+1) r with
     |none=>rw[q]at e;ext e
     |some p=>
      let(J,G,w):=p;rw[q]at e;ext e;let(c,F,C,A,y):=T q;let(a,z,ha,L,N,M):=lJ s Q;show#[a::c,by rw[Xk,Xk,F],by rw[Xk,Xk,C],λk j I=>?_,λb f=>?_]
      .cases k with
       |zero=>ext I;show#[a,ds,z,W,W,ha,L,N,M]
       |succ k=>show A k j (by simpa using I)
      .let e2:b++a::c=(b++[a])++c:=by simp
       let(P,m,rfl):=h;rw[ha]at m;ext m;show .cons #[a,by rw[<-f];show Gz (l:=b) (r:=a::c) (i:=0) W,W] ?_;rw[e2];show y (b++[a]) (by rw[Xf,f];rfl)
    |_=>ext e
def om(s:StoOk B K H X ω)(w:WS K E B H X ω (PQ B K Q) (jh x Z ω))(D:YB [] [] H Y Z H')(G:StoOk (ow B X ω) K H' Y Z)(J:ZA (ow (ow B X ω) Y Z) K H' Y v x):Q v H':=by
 let C:=λb o h=>D.kp b o h λ#[i,c,q,_]=>by simp at q
 let sub:∀b,ow B X ω b->ow (ow B X ω) Y Z b:=λb z=>.inl z;let fr:=λi a c R h2 h3=>(D.lv a #[i,c,R,h2,h3]).elim (λ#[i,c,q,_]=>by simp at q) id;cases x with
 |fz d=>show w X H' (YB.same C) (s.grow C) v (DV.ev (Ev.sub sub) J)
 |rf i=>
  unfold jh at w;dsimp only at w;cases qs:sh Z (.rf i)with
  |none=>rw[qs]at w;show w.elim
  |some d=>
   rw[qs]at w;cases d with
   |list ds=>let(a,vs,ha,R,hd,M):=lJ G qs;let(xs,e,_):=uF qs;let(a',F,rfl):=J;rw[ha]at F;ext F;show rR s w C (fr i a _ ha e (by nofun)) R hd sub M
   |_=>show w.elim
 |tp l=>
  unfold jh at w;dsimp only at w;cases qg:DE Z ω.length l with
  |none=>rw[qg]at w;show w.elim
  |some p=>
   let(l',cs,I):=p;rw[qg]at w;dsimp only at w;by_cases hn:I.Nodup
   .rw[ax hn]at w
    let(a,xs,rfl,ht,hl):=J;let(ps,g1,g2,g3,g4):=Sx G qg hl;let A:∀(k:Nat) (b:W7),ps[k]?=cL b->∃j ds vs,I[k]?=cL j/\cs[k]?=cL ds/\Y[j]?=cL b/\H' b=cL (.lst vs)/\L3.YE (ow (ow B X ω) Y Z) K H' vs ds/\ow (ow B X ω) Y Z b:=λk b hb=>by
     let f:k<I.length:=by rw[<-g1];show(W2.mp hb).1
     let(b',ds,vs,e,y,u,m,t,g):=g3 k _ (Xm f);rw[hb]at e;ext e;show#[_,ds,vs,Xm f,y,u,m,t,g]
    let nB:∀(j:Nat) (b:W7),Y[j]?=cL b->ow (ow B X ω) Y Z b->H b=Ld:=λj b N M=>by
     rcases M with z|⟨i,c,z1,z2,z3⟩
     .show bb N (G.ba b z j)
     .show fr i b c z1 z2 z3
    let fp:∀p∈ps,H p=Ld:=λp L=>by let(k,f):=Ya.mp L;let(j,ds,vs,e,y,u,m,t,g):=A k p f;show nB j p u g
    let n:∀b,ow B (X++ps) (ω++cs.map UE) b->ow (ow B X ω) Y Z b:=λb z=>by
     rcases z with z|z
     .show .inl (.inl z)
     .rcases GU s.len z with z|z
      .show .inl (.inr z)
      .let(k,f):=Ya.mp z;let(j,ds,vs,e,y,u,m,t,g):=A k b f;show g
    let ev:=YB.acZ (cs:=cs.map UE) s C fp;show w (X++ps) H' ev (s.acZ C fp (λp L=>?_) (λi j b hi N=>?_) (by rw[W0,g1,g2]) λi b c hi T=>?_) (.ref a) #[a,xs,W,ht.ev (Ev.sub n),Paired.Z4 (g4 X s.len) λ_ _ r=>r.ev (Ev.sub n) λ_ _ h=>h]
    .let(k,f):=Ya.mp L;let(j,ds,vs,e,y,u,m,t,g):=A k p f;rw[m];simp
    .let(j1,_,_,S,_,p3,_):=A i b hi;let(j2,_,_,r1,_,r3,_):=A j b N;let:=G.nd j1 j2 b p3 r3;subst this;let P:=(W2.mp S).1;show(abQ P hn).mp (S.trans r1.symm)
    .let(j,ds,vs,e,y,u,m,t,g):=A i b hi;rw[Xg,y]at T;ext T;show#[vs,m,jN _ _ (t.ev (Ev.sub n))]
   .rw[a4 hn]at w;show w.elim
def jV(F:fS)(n:Nat)(xs:G SV)(ω:aK):RS SV:=if xs.length=n then(match aA vx xs with
 |some ds=>(match F (ds.map .fz) []with
  |.ok x Z=>jh x Z ω
  |.er x _=>.er x ω
  |.bad=>.bad)
 |none=>.bad)else .bad
def qU(F:fS)(n:Nat)(a:wE):cw:=λρ ω=>(a ρ ω).bind λxs ω1=>iW (jV F n xs ω1)
theorem Fp(h:∀a,B a->H a≠P):StoOk B K H [] []:=#[W,λi j a h=>by simp at h,h,λa h i=>by simp,λi a h=>by simp at h,λi a c h=>by simp at h]
theorem vq:∀{xs:G SV} {ds:G D},aA vx xs=R ds->xs=ds.map .fz
 |[],_,e=>by ext e;rfl
 |x::r,ds,e=>by
  unfold aA at e;cases x with
  |fz d=>
   dsimp only[vx]at e;cases q:aA vx r with
   |none=>rw[q]at e;ext e
   |some es=>rw[q]at e;ext e;rw[Xq,<-vq q]
  |rf i=>ext e
  |tp l=>ext e
def xk(s:StoOk B K H X ω)(e:Zb (ow B X ω) K H X C xs)(w:WS K E B H X ω (PQ B K Q) (jV F n xs ω)):kB K n F C H Q E:=by
 unfold jV at w;by_cases hn:xs.length=n
 .rw[ax hn]at w
  show#[e.length.trans hn,?_];cases q:aA vx xs with
  |none=>rw[q]at w;show w.elim
  |some ds=>
   rw[q]at w;dsimp only at w;let l:=vq q;show#[ow B X ω,[],[],ds.map .fz,Fp s.owd,?_,?_]
   .rw[l]at e;show jN _ _ ((zj e).ev (Ev.sub λb z=>z.elim id λ#[i,c,q,_]=>by simp at q))
   .cases m:F (ds.map .fz) []with
    |bad=>rw[m]at w;show w.elim
    |ok x Z=>rw[m]at w;show λY H' f j v a=>om s w f j a
    |er x Z=>
     rw[m]at w;intro c p Y H' f j k;let g:=λb o h=>f.kp b o h λ#[i,c,q,_]=>by simp at q
     show w c p X H' (YB.same g) (s.grow g) (XOk.sub (λb z=>.inl z) k)
 .rw[a4 hn]at w;show w.elim
def Di(c:v4 K E o C):bT K E (jw (kB K n F) [] E0 o) (qU F n C):=by intro B σ H X ω ρ Q s b w;show c B σ H X ω ρ _ s b (w.bind.imp λxs U ω1 H1 e1 e a g f=>?_);rw[X2];show xk e f (WS.e0 a)
def Sz(F:fS):FN:=λds=>match F (ds.map .fz) []with
 |.ok (.fz d) _=>.ok (.fz d)
 |.ok (.rf i) ω=>(match sh ω (.rf i)with
  |some (.list ds)=>.ok (.ow ds)
  |_=>.bad)
 |.ok (.tp _) _=>.bad
 |.er x _=>.er x
 |.bad=>.bad
def Q0(h:Cv K n (Sz F) vs H Q E):kB K n F vs H Q E:=by
 let(u,B,ds,A,G,w):=h;show#[u,B,[],[],ds.map .fz,Fp A,jN _ _ (G.ev (Ev.sub λb z=>z.elim id λ#[i,c,q,_]=>by simp at q)),?_];unfold Sz at w;cases N:F (ds.map .fz) []with
 |bad=>rw[N]at w;show w.elim
 |er x Z=>rw[N]at w;intro c dx Y H' f j k;show w c dx H' (λb o h=>f.kp b o h λ#[i,c,q,_]=>by simp at q) (XOk.sub (λb z=>.inl z) k)
 |ok x Z=>
  rw[N]at w;intro Y H' f j v m;let g:=λb o h=>f.kp b o h λ#[i,c,q,_]=>by simp at q
  cases x with
  |fz d=>show w v H' g (DV.ev (Ev.sub λb z=>.inl z) m)
  |tp l=>show w.elim
  |rf i=>
   dsimp only at w;cases L:sh Z (.rf i)with
   |none=>rw[L]at w;show w.elim
   |some d=>
    rw[L]at w;cases d with
    |list es=>let(a,p,T,C,y,t):=lJ j L;let(xs,r,_):=uF L;let(I,e,rfl):=m;rw[T]at e;ext e;show w a p H' g ((f.lv a #[i,_,T,r,by intro z;ext z]).elim (λ#[i,c,q,_]=>by simp at q) id) C (y.ev (Ev.sub λb z=>z.elim (λz=>.inl z) λz=>by rw[z];show t))
    |_=>show w.elim
end
def ny(P:Xu)(w:XQ)(K:CL)(c:Str->I J)(base:Heap)(a:uX)(k:Nat)(C m:Str)(b:G Str)(sp:Sp):Prop:=
 ∃Ca f fd,XH K Xv C=R (R (.ref Ca))/\Cls K Ca/\Meth K Ca m f/\FnOk P w K c base a k f fd b sp/\Binds K fd b []
def wT(P:Xu)(w:XQ)(K:CL)(c:Str->I J)(base:Heap)(a:uX)(k:Nat)(C:Str)(b:G Str)(sp:Sp):Prop:=
 ∃Ca f fd,XH K Xv C=R (R (.ref Ca))/\c C=R (.ref Ca)/\Mk K Ca f/\FnOk P w K c base a k f fd b sp/\Binds K fd b []
def n6(K:CL)(C m:Str)(sp:Sp)(E:XK)(b:TE)(t:TA):TE:=λa H Q=>∃Ca,XH K Xv C=R (R (.ref Ca))/\tZ Ca m sp [] E b t a H Q
def x5(K:CL)(C:Str)(sp:Sp)(E:XK)(t:TA):TE:=λa H Q=>∃Ca,XH K Xv C=R (R (.ref Ca))/\wY Ca sp [] E t a H Q
section
variable{X:Cx}{Y:uX}{E:XK}{k j:Nat}{C m:Str}{ps:bg Str}{sp:Sp}{o e:Xx}{es:bg Xx}{U:TE}{t:TA}{Z T p:Pos}
def Se(M:ny X.prog X.w X.K X.mg X.base Y k C m ps sp)(n:dW Y X E)(r:Y1 j X.A)(u:PE X o U)(c:PA X (e::es) t)(g:k<=j:=by decide)
  (cY:Xr (e::es) X.env=(W3,eval e X.env)::Xr es X.env:=by rfl) (b:(backTo T (Xr es X.env)).any (·.1)=W3:=by rfl)
  (q:eval (.Call (.Attribute o m Z) (e::es) [] T) X.env=(do
   let ov<-eval o X.env
   standAt Z.atName
   let(f,first)<-holding [ov] (getMethod ov m pl)
   callWith T f first (backTo T (Xr (e::es) X.env)) (backToKw T (keywordEach [] X.env))):=by rfl):PE X (.Call (.Attribute o m Z) (e::es) [] T) (n6 X.K C m sp E U t):=by
 let(Ca,f,J,G,F,B,y,v):=M;intro a s l H Q I #[L,i,h];rw[G]at i;ext i;show MM u F B y (r.mono g) v .nil n c cY b q a s l H Q I h
def PX(M:ny X.prog X.w X.K X.mg X.base Y k C m ps sp)(l:dW Y X E)(q:Y1 j X.A)(r:PE X o U)(b:k<=j:=by decide)
  (n:eval (.Call (.Attribute o m Z) [] [] T) X.env=(do
   let ov<-eval o X.env
   standAt Z.atName
   let(f,first)<-holding [ov] (getMethod ov m pl)
   callWith T f first (backTo T (Xr [] X.env)) (backToKw T (keywordEach [] X.env))):=by rfl):PE X (.Call (.Attribute o m Z) [] [] T) (n6 X.K C m sp E U gM):=by
 let(Ca,f,G,F,B,y,v,u):=M;intro a s i H Q I #[A,g,h];rw[F]at g;ext g;show Gs r B y v (q.mono b) u .nil l n a s i H Q I h
def MW(M:wT X.prog X.w X.K X.mg X.base Y k C ps sp)(q:dW Y X E)(r:Y1 j X.A)(c:PA X (e::es) t)(g:k+1<=j:=by decide)(u:Gl X C:=by rfl)
  (i:(C==("__debug__":Str))=W3:=by decide) (v:Xr (e::es) X.env=(W3,eval e X.env)::Xr es X.env:=by rfl) (b:(backTo T (Xr es X.env)).any (·.1)=W3:=by rfl):
  PE X (.Call (.Name C p) (e::es) [] T) (x5 X.K C sp E t):=by
 let(Ca,f,L,J,G,F,B,y):=M;intro a s n H Q I #[N,l,h];rw[J]at l;ext l;show LP F B (r.mono g) u G y .nil q c i v b a s n H Q I h
end
section
variable{K:CL}{E:XK}{C m:Str}{F:fS}{n:Nat}{to:TE}{Z:TA}{X:cw}{Y:wE}{L:bg Str}
def Ow(a:kN K C L)(f:bT K E to X)(c:v4 K E Z Y):bT K E (n6 K C m (kB K n F) E to Z) (oB C m F n X Y):=by let(Ca,a,_):=a;show λB b H α g h Q s e w=>#[Ca,a,He a f c B b H α g h Q s e w]
def Af(a:kN K C L)(f:bT K E to X)(c:v4 K E Z Y):bT K E (n6 K C m (kB K n F) E0 to Z) (aM C m F n X Y):=by let(Ca,a,_):=a;show λB b H α g h Q s e w=>#[Ca,a,Cc a f c B b H α g h Q s e w]
def QX(a:kN K C L)(c:v4 K E Z Y):bT K E (x5 K C (kB K n F) E Z) (Dg C F n Y):=by let(Ca,a,_):=a;show λB b H α f g Q s e w=>#[Ca,a,KU a c B b H α f g Q s e w]
def L7(a:kN K C L)(c:v4 K E Z Y):bT K E (x5 K C (kB K n F) E0 Z) (rh C F n Y):=by let(Ca,a,_):=a;show λB b H α f g Q s e w=>#[Ca,a,Il a c B b H α f g Q s e w]
end
section
variable{ρ ρ1 B:aP}{T X Z Q A:aK}{x y z:SV}{i n:Nat}{d L Y:D}{ds:bg D}{b:Bool}
def aO(h:ρ[i]?=R (R x)):aq i ρ T=.ok x T:=by ext aq;rw[h]
def ag(h:f (bV ρ)=.ok (.fz d,ρ')):ae f ρ T=.ok (.fz d) T:=by ext ae;rw[h]
def fZ(h:f (bV ρ)=.ok (.ow ds,ρ')):ae f ρ T=.ok (.rf T.length) (T++[.lst (ds.map .fz)]):=by ext ae;rw[h];rfl
def aX(h:f (bV ρ)=.ok (b,o)):bp f ρ T=.ok b T:=by ext bp;rw[h]
def qB(h:f (bV ρ)=.ok (ds,o)):ng f ρ T=.ok ds T:=by ext ng;rw[h]
def iK(g:e ρ T=.ok (.rf i) X)(h:X[i]?=R (.obj C fs))(a:fs.lookup f=R x):aU C f e ρ T=.ok x X:=by ext aU;rw[g,d5];dsimp only;rw[h];dsimp only;rw[ax W,a];rfl
def b8(c:o ρ T=.ok x X)(e:fb ρ X=.ok y Z)(a:si f x y Z=.ok z Q):jo f o fb ρ T=.ok z Q:=by ext jo;rw[c,d5,e,d5,a]
def bw(h:f L Y=R (.fz d)):si f (.fz L) (.fz Y) T=.ok (.fz d) T:=by ext si;show((RS.X5 T (f L Y)).bind λa X=>kQ X a)=_;rw[h];rfl
def yW(e:sh T x=R L)(a:sh T y=R Y)(h:f L Y=R (.fz d)):si f x y T=.ok (.fz d) T:=by ext si;rw[e,a];show((RS.X5 T (f L Y)).bind λg X=>kQ X g)=_;rw[h];rfl
theorem ka:∀ds:G D,aA vx (ds.map .fz)=R ds
 |[]=>rfl
 |d::r=>by rw[Xq];ext aA;rw[ka r];rfl
def gU(h:T[i]?=R (.lst (ds.map .fz))):sh T (.rf i)=R (.list ds):=by ext sh;dsimp only;rw[h];dsimp only;rw[ka];rfl
def aH(h:o ρ T=.ok (.fz (.bool b)) X):aW o ρ T=.ok b X:=by ext aW;rw[h];rfl
def iV(h:o ρ T=.ok S X)(k:fb ρ X=r):lU o fb ρ T=r:=by ext lU;rw[h,d5,ax W,k]
def gO(h:o ρ T=.ok U X):lU o fb ρ T=.ok U X:=by ext lU;rw[h,d5,a4 Xp]
def re(h:o ρ T=.ok S X):wa o fb ρ T=.ok S X:=by ext wa;rw[h,d5,ax W]
def dZ(h:o ρ T=.ok U X)(k:fb ρ X=r):wa o fb ρ T=r:=by ext wa;rw[h,d5,a4 Xp,k]
def mV(h:o ρ T=.ok b X):qJ o ρ T=.ok (!b) X:=by ext qJ;rw[h];rfl
def t7(h:aW o ρ T=.ok S X)(k:fb ρ X=r):wq o fb ρ T=r:=by ext wq;rw[h,d5,ax W,k]
def Dj(h:aW o ρ T=.ok U X):wq o fb ρ T=.ok (.fz (.bool U)) X:=by ext wq;rw[h,d5,a4 Xp]
def BI(h:c ρ T=.ok S X)(k:o ρ X=r):EW c o fb ρ T=r:=by ext EW;rw[h,d5,ax W,k]
def Bv(h:c ρ T=.ok U X)(k:fb ρ X=r):EW c o fb ρ T=r:=by ext EW;rw[h,d5,a4 Xp,k]
theorem aG:aI ρ T=.ok [] T:=W
def aj(c:o ρ T=.ok x X)(a:fr ρ X=.ok xs Z):ai o fr ρ T=.ok (x::xs) Z:=by ext ai;rw[c,d5,a,d5]
def uD(c:o ρ T=.ok (ds.map .fz) X)(a:ds.length<=1000):mE o ρ T=.ok (.fz (.tuple ds)) X:=by ext mE;rw[c,d5,W0,ax a];ext Uu;rw[ka];rfl
def SZ(c:o ρ T=.ok xs X)(a:xs.length<=1000)(f:aA vx xs=P)(e:aA UI xs=R l):mE o ρ T=.ok (.tp l) X:=by ext mE;rw[c,d5,ax a];ext Uu;rw[f];dsimp only;rw[e];rfl
def Ah(c:o ρ T=.ok xs X)(a:aA (sh X) xs=R ds)(h:f ds=R (.fz d)):yk f o ρ T=.ok (.fz d) X:=by ext yk;rw[c,d5];ext OL;rw[a];show((RS.X5 X (f ds)).bind λe X=>kQ X e)=_;rw[h];rfl
def vH(e:o ρ T=.ok (ds.map .fz) X)(c:ds.length=n)(a:F ds=.ok (.fz d)):hG F n o ρ T=.ok (.fz d) X:=by ext hG;rw[e,d5];ext xP;rw[W0,ax c,ka];dsimp only;rw[a];rfl
def uT(e:o ρ T=.ok (ds.map .fz) X)(c:ds.length=n)(a:F ds=.ok (.ow es)):hG F n o ρ T=.ok (.rf X.length) (X++[.lst (es.map .fz)]):=by ext hG;rw[e,d5];ext xP;rw[W0,ax c,ka];dsimp only;rw[a];rfl
theorem wz:iW (RS.ok a T)=.ok a T:=W
def LK(e:o ρ T=.ok (.rf i) X)(f:X[i]?=R (.obj C fs))(hm:fs.lookup m=P)(h:fa ρ X=.ok xs Z)(c:(SV.rf i::xs).length=n)(g:F (.rf i::xs) Z=.ok x Q):aM C m F n o fa ρ T=.ok x Q:=by
 let a:kR X C m (.rf i)=S:=by ext kR;dsimp only;rw[f];dsimp only;rw[hm,a5 W];rfl
 ext aM;rw[e,d5,ax a,h,d5,ax c,g];rfl
def OA(e:o ρ T=.ok xs X)(c:(SV.rf X.length::xs).length=n)(a:F (.rf X.length::xs) (X++[.obj C []])=.ok (.fz .none) Z):rh C F n o ρ T=.ok (.rf X.length) Z:=by ext rh;rw[e,d5];ext sU;rw[ax c,a,d5,ax (show Dp (.fz .none)=S from rfl)];rfl
def cK(c:o ρ T=.ok (.fz L) X)(a:fb ρ X=.ok (.fz Y) Z)(h:bc L Y=R (.fz d)):iZ o fb ρ T=.ok (.fz d) Z:=by ext iZ;rw[c,d5,a,d5];show bw h
def rM(a:fo ρ T=.ok (.rf i) X)(h:X[i]?=R (.lst xs))(f:fe ρ X=.ok x Z)(g:Z[i]?=R (.lst ys))(e:ys.length<1000000):l7 fo fe ρ T=.ok (.fz .none) (Z.set i (.lst (ys++[x]))):=by
 let e1:jL X (.rf i)=R (i,xs):=by ext jL;dsimp only;rw[h]
 let e2:jL Z (.rf i)=R (i,ys):=by ext jL;dsimp only;rw[g]
 ext l7;rw[a,d5,e1];show((fe ρ X).bind _)=_;rw[f,d5,e2];show(if ys.length<1000000 then _ else _)=_;rw[ax e]
def lg(h:T[i]?=R (.dct o)):gS T (.rf i)=R (i,o):=by ext gS;dsimp only;rw[h]
def zz(a:o ρ T=.ok x X)(hd:fd ρ X=.ok (.rf i) Z)(f:sG x=R k)(e:Z[i]?=R (.dct C)):sB neg o fd ρ T=.ok (.fz (.bool ((jj C k).isSome !=neg))) Z:=by ext sB;rw[a,d5,hd,d5,f];show((RS.X5 Z (gS Z (.rf i))).bind _)=_;rw[lg e];rfl
def MK(hd:fd ρ T=.ok (.rf i) X)(a:C ρ X=.ok x Z)(g:sG x=R k)(f:Z[i]?=R (.dct o))(e:jj o k=R y):rN fd C ρ T=.ok y Z:=by ext rN;rw[hd,d5,a,d5,g];show((RS.X5 Z (gS Z (.rf i))).bind _)=_;rw[lg f];show RS.X5 Z (jj o k)=_;rw[e];rfl
def Kf(a:C ρ T=.ok y X)(hd:fd ρ X=.ok (.rf i) Z)(f:fk ρ Z=.ok x Q)(h:sG x=R k)(g:Q[i]?=R (.dct o))(e:o.length<1000000):uc fd fk C ρ T=.ok (.nx ρ) (Q.set i (.dct (jx o k y))):=by ext uc;rw[a,d5,hd,d5,f,d5,h];show((RS.X5 Q (gS Q (.rf i))).bind _)=_;rw[lg g];show(if o.length<1000000 then _ else _)=_;rw[ax e]
def Kk(hd:fd ρ T=.ok (.rf i) X)(h:X[i]?=R (.dct agP))(a:C ρ X=.ok x Z)(g:sG x=R k)(f:Z[i]?=R (.dct o))(e:jj o k=R y):ub fd C ρ T=.ok y (Z.set i (.dct (lF o k))):=by ext ub;rw[hd,d5,lg h];show((C ρ X).bind _)=_;rw[a,d5,g];show((RS.X5 Z (gS Z (.rf i))).bind _)=_;rw[lg f];show((RS.X5 Z (jj o k)).bind _)=_;rw[e];rfl
def J9(hd:fd ρ T=.ok (.rf i) X)(h:X[i]?=R (.dct o)):xG fd ρ T=.ok (.rf X.length) (X++[.lst (o.map (·.2))]):=by ext xG;rw[hd,d5,lg h];rfl
def JG(hd:fd ρ T=.ok (.rf i) X)(h:X[i]?=R (.dct o))(e:aA yl (o.map (·.1))=R ns)(a:ns.length<64):qh fd ρ T=.ok (.rf X.length) (X++[.lst ((jH ns).map λi=>SV.fz (.int i))]):=by ext qh;rw[hd,d5,lg h];show((RS.X5 X (aA yl (o.map (·.1)))).bind _)=_;rw[e];show(if ns.length<64 then _ else _)=_;rw[ax a]
def JA(a:C ρ T=.ok x X)(h:vd x=R o):tY C ρ T=.ok (.rf X.length) (X++[.dct (lS [] o)]):=by ext tY;rw[a,d5,h];rfl
variable{v:FlS}{r:RS FlS}
def cF(h:f ρ T=.ok (.nx ρ1) X)(k:g ρ1 X=r):aC f g ρ T=r:=by ext aC;rw[h,d5];show k
def oi(h:f ρ T=.ok (.rt x) X):aC f g ρ T=.ok (.rt x) X:=by ext aC;rw[h];rfl
def c7(h:c ρ T=.ok S X)(k:f ρ X=r):bS c f g ρ T=r:=by ext bS;rw[h,d5,ax W,k]
def ez(h:c ρ T=.ok U X)(k:g ρ X=r):bS c f g ρ T=r:=by ext bS;rw[h,d5,a4 Xp,k]
def iB(h:f ρ T=.ok x X):gv f ρ T=.ok (.rt x) X:=by ext gv;rw[h];rfl
def gK(h:f ρ T=.ok x X):bv f ρ T=.ok (.nx ρ) X:=by ext bv;rw[h];rfl
def uf(h:f ρ T=.ok x X)(e:ρ.set i (R x)=ρ1):cb f (eA i) ρ T=.ok (.nx ρ1) X:=by subst e;ext cb;rw[h];rfl
theorem eF:bN ρ T=.ok (.nx ρ) T:=W
def ou(h:fe ρ T=.ok x X)(a:o ρ X=.ok (.rf i) Z)(j:Z[i]?=R (.obj C fs))(g:fs.length<100):eP C f o fe ρ T=.ok (.nx ρ) (Z.set i (.obj C (gY f x fs))):=by
 let e:GY Z C (.rf i)=R (i,fs):=by ext GY;dsimp only;rw[j];dsimp only;rw[ax W]
 ext eP;rw[h,d5,a,d5,e];show(if fs.length<100 then _ else _)=_;rw[ax g]
def uE(h:f ρ T=.ok x X)(k:frz 4 X x=R (d,Z)):qA f ρ T=.ok (.fz d) Z:=by ext qA;rw[h,d5];ext Ru;rw[k]
def jd(e:xs.map R++Xh (N - xs.length) P=ρ)(h:g ρ T=.ok (.rt x) X):cI N g xs T=.ok x X:=by subst e;ext cI;rw[h];rfl
def mP(e:xs.map R++Xh (N - xs.length) P=ρ)(h:g ρ T=.ok (.nx ρ1) X):cI N g xs T=.ok (.fz .none) X:=by subst e;ext cI;rw[h];rfl
end
section
variable{ρ Q B:aP}{Y X Z A u:aK}{x y z:SV}{i n:Nat}{d t p:D}{ds:bg D}{b:Bool}
theorem nM(e:α->D)(f:α->SV)(Y:aK)(I:aP->Prop):∀(xs:G α) (ρ:aP) (acc:G SV),I ρ->acc.length+xs.length<=1000000->(∀x∈xs,∀ρ,I ρ->∃c,gt (.fz (e x)) ρ Y=.ok c Y/\C c Y=.ok S Y/\fe c Y=.ok (f x) Y/\I c)->dD gt C fe (xs.map e) ρ Y acc=.ok (acc++xs.map f) Y
 |[],ρ,acc,_,_,_=>by show RS.ok acc Y=_;rw[aai,X2]
 |x::r,ρ,acc,h0,o,m=>by let(c,l,j,h,g):=m x W8 ρ h0;rw[Xk]at o;show((gt (.fz (e x)) ρ Y).bind _)=_;rw[l,d5,j,d5,ax W,h,d5,ax (),nM e f Y I r c _ g (by rw[Xf,Z1];ext) λy a=>m y (Xb _ a),XZ];rfl
def zE(c:fi ρ Y=.ok ds X)(a:dD gt o fe ds (oH n C ρ) X []=.ok xs Z):oZ n C fi gt o fe ρ Y=.ok (.rf Z.length) (Z++[.lst xs]):=by ext oZ;rw[c,d5,a,wz,d5]
theorem vh(m:Nat):∀(ds:G D),pA (frz m) Y (ds.map .fz)=R (ds,Y)
 |[]=>rfl
 |d::r=>by rw[Xq];ext pA;rw[show frz m Y (.fz d)=R (d,Y) by ext m<;>rfl];dsimp only;rw[vh m r]
def pX(h:Y[i]?=R (.lst (ds.map .fz))):frz 4 Y (.rf i)=R (.list ds,Y.set i .dead):=by ext frz;rw[h];dsimp only;rw[vh]
def uy(h:o ρ Y=.ok (.rf i) X)(a:X[i]?=R (.lst (ds.map .fz))):gB o ρ Y=.ok ds (X.set i .dead):=by ext gB;rw[h,d5,pX a];rfl
def UZ(N C:aP->aK->Prop)(T:SV->aK->Prop):RS FlS->Prop
 |.ok (.nx ρ) Y=>N ρ Y
 |.ok (.ct ρ) Y=>C ρ Y
 |.ok (.rt v) Y=>T v Y
 |_=>False
structure GoS(r:RS FlS)(N C:aP->aK->Prop)(T:SV->aK->Prop):Prop where
 out:UZ N C T r
variable{f g:dG}{L:cw}{N C:aP->aK->Prop}{T:SV->aK->Prop}
def GoS.eq(e:r=r')(h:GoS r' N C T):GoS r N C T:=by rw[e];show h
def qS(h:GoS (f ρ Y) (λr o=>GoS (g r o) N C T) C T):GoS (aC f g ρ Y) N C T:=by
 show#[?_];let h:=h.out;ext aC;cases q:f ρ Y with
 |bad=>rw[q]at h;show h.elim
 |er x o=>rw[q]at h;show h.elim
 |ok a o=>
  rw[q]at h;cases a with
  |nx r=>show(show GoS (g r o) N C T from h).out
  |ct r=>show h
  |rt v=>show h
  |bk r=>show h.elim
def wK(h:c ρ Y=.ok b X)(a:b=S->GoS (f ρ X) N C T)(e:b=U->GoS (g ρ X) N C T):GoS (bS c f g ρ Y) N C T:=by
 ext bS;rw[h,d5];cases b with
 |true=>show a W
 |false=>show e W
theorem qV(e:c ρ Y=.ok S X)(a:GoS (f ρ X) N C T):GoS (bS c f g ρ Y) N C T:=wK e (λ_=>a) λh=>by ext h
theorem dB(e:c ρ Y=.ok U X)(a:GoS (g ρ X) N C T):GoS (bS c f g ρ Y) N C T:=wK e (λh=>by ext h) λ_=>a
def Pc(e:L ρ Y=.ok x X)(a:gt x ρ X=.ok Q Z)(h:N Q Z):GoS (cb L gt ρ Y) N C T:=by show#[?_];ext cb;rw[e,d5,a,d5];show h
theorem mI(a:f ρ Y=.ok (.nx Q) X)(h:N Q X):GoS (f ρ Y) N C T:=#[by rw[a];show h]
theorem S8(a:f ρ Y=.ok (.rt x) X)(h:T x X):GoS (f ρ Y) N C T:=#[by rw[a];show h]
theorem ig(a:L ρ Y=.ok x X)(h:N ρ X):GoS (bv L ρ Y) N C T:=mI (gK a) h
theorem Oe(a:L ρ Y=.ok x X)(h:T x X):GoS (gv L ρ Y) N C T:=S8 (iB a) h
theorem Lp(h:T (.fz .none) Y):GoS (qu ρ Y) N C T:=#[h]
theorem j6(h:N ρ Y):GoS (bN ρ Y) N C T:=#[h]
theorem jg{gt:wN}(e:L ρ Y=.ok x X)(a:gt x ρ X=.ok Q Z)(h:GoS (g Q Z) N C T):GoS (aC (cb L gt) g ρ Y) N C T:=qS (Pc e a h)
theorem AY(a:f ρ Y=.ok (.nx Q) X)(h:GoS (g Q X) N C T):GoS (aC f g ρ Y) N C T:=qS (mI a h)
theorem kH(a:L ρ Y=.ok x X)(h:GoS (g ρ X) N C T):GoS (aC (bv L) g ρ Y) N C T:=qS (ig a h)
def xj{h a:dG}(m:c ρ Y=.ok b X)(j:b=S->GoS (aC h g ρ X) N C T)(l:b=U->GoS (aC a g ρ X) N C T):GoS (aC (bS c h a) g ρ Y) N C T:=by
 let e:aC (bS c h a) g ρ Y=if b=S then aC h g ρ X else aC a g ρ X:=by unfold aC bS;rw[m,d5];ext b<;>rfl
 show .eq e ?_;cases b with
 |true=>show j W
 |false=>show l W
theorem vB{a l:dG}(j:c ρ Y=.ok S X)(e:GoS (aC a g ρ X) N C T):GoS (aC (bS c a l) g ρ Y) N C T:=xj j (λ_=>e) λh=>by ext h
theorem qQ{l a:dG}(j:c ρ Y=.ok U X)(e:GoS (aC a g ρ X) N C T):GoS (aC (bS c l a) g ρ Y) N C T:=xj j (λh=>by ext h) λ_=>e
theorem uJ(h:T (.fz .none) Y):GoS (aC qu g ρ Y) N C T:=qS (Lp h)
theorem lZ(h:GoS (g ρ Y) N C T):GoS (aC bN g ρ Y) N C T:=qS (j6 h)
def PL{a e:dG}(h:GoS (aC a (aC e g) ρ Y) N C T):GoS (aC (aC a e) g ρ Y) N C T:=by
 show .eq ?_ h;ext aC;cases a ρ Y with
 |bad=>rfl
 |er x o=>rfl
 |ok j o=>ext j<;>rfl
def OG(a:xs.map R++Xh (n - xs.length) P=ρ)(h:GoS (g ρ Y) (λ_ c=>T (.fz .none) c) (λ_ _=>False) T):∃x c,cI n g xs Y=.ok x c/\T x c:=by
 let h:=h.out;ext cI;rw[a];cases q:g ρ Y with
 |bad=>rw[q]at h;show h.elim
 |er x o=>rw[q]at h;show h.elim
 |ok e o=>
  rw[q]at h;cases e with
  |nx r=>show#[_,_,W,h]
  |ct r=>show h.elim
  |rt v=>show#[_,_,W,h]
  |bk r=>show h.elim
def iy{W:aK->Prop}(a:xs.map R++Xh (n - xs.length) P=ρ)(h:GoS (g ρ Y) (λ_ c=>SV.fz .none=v/\W c) (λ_ _=>False) (λr c=>r=v/\W c)):∃c,cI n g xs Y=.ok v c/\W c:=by let(x,c,l,j,e):=OG (T:=λr c=>r=v/\W c) a h;show#[c,by rw[l,j],e]
end
end L10
namespace L10
open PySem PyProof.Rows L2 L3
section
variable{B O A:bB}{K:CL}{E:XK}{H u t r:Hp}{q Q N L:bg W7}{T C Y Z:aK}{p:L2.St}{X:aP}{v:V}
def yG{c fb:cw}{y z:SV}{i:Nat}{n:Int}{xs:G SV}(f:c X T=.ok (.rf i) Y)(e:fb X Y=.ok y Z)(d:Ij y=R n)(a:Z[i]?=R (.lst xs))(b:lM xs n=R z):iZ c fb X T=.ok z Z:=by ext iZ;rw[f,d5,e,d5];ext QT;simp only[a,d];show RS.X5 Z (lM xs n)=_;rw[b];rfl
end
end L10
namespace L10
open PySem PyProof.Rows L2 L3
section
variable{O Z:bB}{K:CL}{H T:Hp}{a b:W7}{Q:bg V}{Y:Heap->Prop}
def IG(a:M)(O:bB)(H:Hp)(Z:bB)(T:Hp):Prop:=∀b o,b≠a->H b=R o->¬O b->T b=R o/\¬Z b
def ab3.evx(i:H a=R (.ext Y))(h:ab3 O K H b Q)(e:IG a O H Z T):ab3 Z K T b Q:=by
 let(h,k):=h;by_cases z:O b
 .show#[aam.same (j4 T) (k z),λ_=>k z]
 .rcases h with(h|⟨o,h⟩)|h
  .let(g,f):=e b _ (λy=>by rw[y,i]at h;ext h) h z;show#[.inl (.inl g),λy=>bb y f]
  .let(g,f):=e b _ (λy=>by rw[y,i]at h;ext h) h z;show#[.inl (.inr #[o,g]),λy=>bb y f]
  .show#[.inr h,λ_=>.inr h]
def aaN.evx(i:H a=R (.ext Y))(h:aaN O K H b Q)(e:IG a O H Z T):aaN Z K T b Q:=by
 let(h,k):=h;by_cases z:O b
 .show#[(j4 T).tup (k z),λ_=>k z]
 .rcases h with(h|⟨o,h⟩)|h
  .let(g,f):=e b _ (λy=>by rw[y,i]at h;ext h) h z;show#[.inl (.inl g),λy=>bb y f]
  .let(g,f):=e b _ (λy=>by rw[y,i]at h;ext h) h z;show#[.inl (.inr #[o,g]),λy=>bb y f]
  .show#[.inr h,λ_=>.inr h]
mutual
theorem DV.evx(f:H a=cL (.ext Y))(e:IG a O H Z T):∀{v:V} {d:D},L3.DV O K H v d->L3.DV Z K T v d
 |_,_,.Zk=>.Zk
 |_,_,.bl b=>.bl b
 |_,_,.int i=>.int i
 |_,_,.str x=>.str x
 |_,_,.tup h hs=>.tup (aaN.evx f h e) (YE.evx f e hs)
 |_,_,.lst h hs=>.lst (ab3.evx f h e) (YE.evx f e hs)
theorem YE.evx(f:H a=cL (.ext Y))(e:IG a O H Z T):∀{vs:bg V} {ds:bg D},L3.YE O K H vs ds->L3.YE Z K T vs ds
 |_,_,.nil=>.nil
 |_,_,.cons h hs=>.cons (DV.evx f e h) (YE.evx f e hs)
end
end
section
variable{B O Y:bB}{K:CL}{E:XK}{H T H1 H2:Hp}{Z L A y:bg W7}{N t r p:aK}{σ:L2.St}{ρ:aP}{v:V}{X:Heap->Prop}{a b:W7}
def AOk.evx{x:AV}(f:H a=R (.ext X))(e:IG a O H Y T)(h:AOk O K H Z v x):AOk Y K T Z v x:=by
 cases x with
 |fz d=>show DV.evx f e h
 |rf i=>show h
def ZA.evx{x:SV}(f:H a=R (.ext X))(e:IG a O H Y T)(h:ZA O K H Z v x):ZA Y K T Z v x:=by
 cases x with
 |fz d=>show DV.evx f e h
 |rf i=>show h
 |tp l=>let(a,Q,m,j,g):=h;show#[a,Q,m,aaN.evx f j e,Paired.Z4 g λ_ _ q=>AOk.evx f e q]
def COk.evx{c:Cell}(i:H a=R (.ext X))(e:IG a O H Y T)(d:∀o,H b=R o->T b=R o)(h:COk O K H Z b c):COk Y K T Z b c:=by
 cases c with
 |lst Q=>let(l,g,f):=h;show#[l,d _ g,Paired.Z4 f λ_ _ q=>ZA.evx i e q]
 |dct n=>let(ws,g,f):=h;show#[ws,d _ g,Paired.Z4 f λ_ _ q=>#[q.1,ZA.evx i e q.2]]
 |obj C fs=>let(Ca,m,ws,j,g,f):=h;show#[Ca,m,ws,j,d _ g,Paired.Z4 f λ_ _ q=>#[q.1,ZA.evx i e q.2]]
 |dd n=>let(Q,g,f):=h;show#[Q,d _ g,Paired.Z4 f λ_ _ q=>#[q.1,DV.evx i e q.2.1,DV.evx i e q.2.2]]
 |dead=>trivial
theorem YB.pin{i:Nat}{c:Cell}{o:HO}(d:Z[i]?=R a)(h:N[i]?=R c)(f:c≠.dead):YB Z N H Z (N.set i .dead) (aR H a o):=
 #[λ_ _ h=>h,λb g q n=>by let z:b≠a:=λe=>n #[i,c,by rw[e];show d,h,f];rw[ar z];show q,λb z=>.inl (pN z)]
def mh{o:HO}(h:H b≠P):aR H a o b≠P:=by
 by_cases z:b=a
 .subst z;rw[ay];simp
 .rw[ar z];show h
def StoOk.pin(s:StoOk B K H Z N){i:Nat}{c:Cell}{o:HO}(k:Z[i]?=R a)(h:N[i]?=R c)(m:c≠.dead):StoOk B K (aR H a o) Z (N.set i .dead):=by
 let e:YB Z N H Z (N.set i .dead) (aR H a o):=YB.pin k h m;show#[by rw[Yc];show s.len,s.nd,λb h=>mh (s.bn b h),s.ba,λj b h=>mh (s.al j b h),λj b d l g=>?_];rcases bE g with⟨rfl,rfl⟩|⟨f,g⟩
 .show trivial
 .show(s.cel j b d l g).ev e.ev e.pre λu q=>by rw[ar (λz=>f (s.nd j i a (by rw[<-z];show l) k))];show q
def Ie{i:Nat}{c:Cell}(s:StoOk B K H Z N)(k:Z[i]?=R a)(h:Lv Z (N.set i c) b):b=a\/Lv Z N b:=by
 let(j,d,f,e,g):=h;rcases bE e with⟨rfl,rfl⟩|⟨_,e⟩
 .rw[k]at f;ext f;show .inl W
 .show .inr #[j,d,f,e,g]
theorem BE{i:Nat}{c:Cell}{o:HO}(s:StoOk B K H Z N)(d:Z[i]?=R a):IG a (ow B Z N) H (ow B Z (N.set i c)) (aR H a o):=λb u e h n=>by
 show#[by rw[ar e];show h,λz=>?_];rcases z with z|z
 .show n (.inl z)
 .rcases Ie s d z with z|z
  .show e z
  .show n (.inr z)
end
end L10
namespace L10
open PySem PyProof.Rows L2 L3
section
variable{B O O':bB}{K:CL}{E:XK}{H H' C H2:Hp}{Z A Y y:bg W7}{T u X ω2:aK}{L:L2.St}{N:aP}{v:V}
def FY(n:String)(a:cw):cw:=λN T=>(a N T).bind λx X=>(RS.X5 X (tF 6 X x)).bind λd X=>(RS.X5 X (wX d)).bind λt X=>.ok (.fz (.bool (zc n t))) X
def KJ(c:n= "int"\/n= "bool"\/n= "str"\/n= "list"\/n= "tuple")(h:bT K E o fa):bT K E (tI (Fv K) (c8 o (c8 (tC (.ty n)) gM))) (FY n fa):=by intro B L H Z T N Q s f w;show h B L H Z T N _ s f (w.bind.imp λx Y X C e1 b a v g=>?_);let(d,q,a):=WS.X5 a;let(t,e,a):=WS.X5 a;show#[v,n,t,zc n t,W,NH (DV.x (jf b 6 g q)) e,Bj c e,WS.now b a (.bl _) (.bl _)]
def O9(h:o N T=.ok x X)(hd:tF 6 X x=R d)(a:wX d=R t):FY n o N T=.ok (.fz (.bool (zc n t))) X:=by ext FY;rw[h,d5,hd];show((RS.X5 X (wX d)).bind _)=_;rw[a];rfl
def StoOk.agT(s:StoOk (bL B p) K H Z T)(m:c≠.dead)(l:H p≠P)(g:COk (ow (bL B p) Z T) K H Z p c)(r:¬B p):StoOk B K H (Z++[p]) (T++[c]):=by
 let eo:ow (bL B p) Z T=ow B (Z++[p]) (T++[c]):=xA s.len m;let Q:=s.ba p (.inr W);let ev:Ev (ow (bL B p) Z T) H (ow B (Z++[p]) (T++[c])) H:=by rw[eo];show λb o h n=>#[h,n]
 show#[by rw[Xf,Xf,s.len];rfl,λi j a e f=>?_,λa h=>s.bn a (.inl h),λa h i z=>?_,λi a h=>?_,λi a t e f=>?_]
 .rcases a9 e with g1|⟨e1,e2⟩<;>rcases a9 f with g2|⟨e3,e4⟩
  .show s.nd i j a g1 g2
  .rw[e4]at g1;show bb g1 (Q i)
  .rw[e2]at g2;show bb g2 (Q j)
  .omega
 .rcases a9 z with z|⟨_,rfl⟩
  .show s.ba a (.inl h) i z
  .show r h
 .rcases a9 h with h|⟨_,rfl⟩
  .show s.al i a h
  .show l
 .rcases a9 f with f|⟨e2,rfl⟩
  .rcases a9 e with e|⟨e1,rfl⟩
   .show(s.cel i a t e f).ev ev (λ_ _ h=>ei h) λ_ q=>q
   .let:=(W2.mp f).1;rw[<-s.len]at this;ext
  .rcases a9 e with e|⟨e1,rfl⟩
   .let:=(W2.mp e).1;rw[s.len]at this;ext
   .show g.ev ev (λ_ _ h=>ei h) λ_ q=>q
end
end L10
namespace L3
open PySem L2
structure NI(K:CL)(f:M)(n:Str)(t:YL):Prop where
 a:XH K Xv n=R (R (.ref f))
 F:∃fd,Fun K n n t f fd
structure MI(K:CL)(C f:M)(m q:Str)(t:YL):Prop where
 a:XS K (.ref C) m=R (R (.ref f))
 i:Zw K (.ref f)=S
 F:∃fd,Fun K m q t f fd
structure CI(K:CL)(C:M)(n:Str)(fs:G Str):Prop where
 a:XH K Xv n=R (R (.ref C))
 pg:ZW K C Str.empty=S
 hd:Zm K C=S
 po:abr K C=S
 sa:XS K (.ref C) "__setattr__"=R (R (.builtin "object.__setattr__"))
 mm:abV K C=S
 kc:YI K (.ref C)=S
 fl:∀x∈fs,aau K C x
def BA(n q:Str)(t:YL)(c:G Str):Prop:=∀(kV b e:J) (f:I M) (g ct:J) (a:G J),a.length=c.length->bindArgs (Yz n q (eT t) (bW t) (au t) .none kV b e f g ct) #[a,[]]=pure (c.zip a)
section
variable{P:Xu}{w:XQ}{K:CL}{Y:Str->bt WY}{base h:Heap}{f C:W7}{n m q:Str}{t:YL}{Q fs:bg Str}{Z k:Nat}{T N:Sp}
theorem CI.cls(c:CI K C n fs):Cls K C:=#[c.pg,c.hd,c.po,c.sa]
theorem CI.cf(c:CI K C n fs):L10.kN K n fs:=#[C,c.a,c.cls,c.fl]
theorem NI.cal(i:NI K f n t)(X:K.In h)(G:h.Ns Xv Y)(b:BA n n t Q)(ok:∀fd,Fun K n n t f fd->FnOk P w K Y base kX Z f fd Q T):wg P w K Y base Z n Q T:=
 let#[fd,z]:=i.F;#[f,fd,ok fd z,z.binds b,z.kp,YT X G i.a]
def NI.law(i:NI K f "law" t)(X:K.In h)(G:h.Ns Xv Y)(b:Y "law"=R (.ref fa))(p:BA "law" "law" t [x])(ok:∀base fd,Fun K "law" "law" t f fd->FnOk P w K Y base kX Z f fd [x] T):∃fd:Yj,(∀(s:W9) (v:J),abh s fd #[[v],[]] [(x,v)])/\∀base:Heap,K.In base->base.Ns Xv Y->FnOk P w K Y base kX Z fa fd [x] T:=by let e:=b.symm.trans (YT X G i.a);ext e;let(fd,z):=i.F;let(A,y,kV,g,j,r,u,ct,l,rfl,B,o):=z.ex;show#[_,λs v=>.of_eq (p kV g j r u ct [v] W),λbase _ _=>ok base _ z]
def zZ(a:Y1 k A):A.units+65<cLine:=by let:=a.un;ext
theorem LS{W:M}{a:Array J}{i:Nat}{g:Array (I J)}{xs:G V}{ds:G D}(l:K.lookup W=R #[.type "tuple",Ld,.seq a i,g])(e:a.size<=Xi)(b:Vals xs a.toList)(hd:∀O H,YE O K H xs ds):∀O H,DV O K H (.ref W) (.tuple ds):=λO H=>
 .tup (xs:=xs) #[.inr #[_,_,_,l,#[rfl,rfl],rfl,e,b],λ_=>.inr #[_,_,_,l,#[rfl,rfl],rfl,e,b]] (hd O H)
end
end L3
namespace L10
open PySem PySem.Spec PyProof.Rows L2 L3
section
variable{B O A:bB}{K:CL}{E:XK}{H u t r:Hp}{q Q N L:bg W7}{T C Y Z:aK}{p:L2.St}{X:aP}{v:V}
def Qw{i:Nat}{f:D->D->I RV}{c:cw}{x y:SV}{z:SV}{ω3:aK}(a:X[i]?=R (R x))(e:c X T=.ok y Y)(b:si f x y Y=.ok z Z):C6 i f c X T=.ok (.nx (X.set i (R z))) Z:=by ext C6;rw[aO a,d5,e,d5,b,d5]
end
end L10
namespace L4
open PySem PySem.Spec PyProof.Rows L2 L3
def So(X:Cx)(st:G YL)(b:L2.St)(t:TS):Prop:=∀(a:G (M×Obj)) (s:W9) (H:Hp) (D:Ends),L2.Inv X a b H s->t D b H->wpAny (model X.prog X.w) X.A (execs st X.env) (SP X a D) X.xe s
def uw(X:Cx)(b:L2.St)(d:XK):J->W9->Prop:=λx a=>∃H1 e c f a0 T,x=.ref e/\L2.Inv X [] b H1 a/\IJ a.heap e c f a0 (R T)/\Apart X e/\Apart X T/\H1 e=P/\H1 T=P/\d c f H1
end L4
namespace LD
open PySem PyProof.Rows L2 L3
def kM(xs:G (KD×M×V))(k:KD):I V:=(xs.find? λx=>decide (x.1=k)).map (·.2.2)
def lx(xs:G (KD×M×V))(k:KD)(b:M)(v:V):G (KD×M×V):=
 if(xs.find? λx=>decide (x.1=k)).isSome=S then xs.map (λx=>if x.1=k then(x.1,x.2.1,v)else x)else xs++[(k,b,v)]
abbrev RX:G (KD×M×V)->G (KD×M×J)->Prop:=Paired λx y=>x.1=y.1/\x.2.1=y.2.1/\RelV x.2.2 y.2.2
def zJ:∀{xs:G (KD×M×V)} {ys:G (KD×M×J)},RX xs ys->xs.map (·.1)=ys.map (·.1):=by
 intro _ _ a
 induction a with
 |nil=>show W
 | @cons _ _ _ _ h t b=>rw[Xq,Xq,h.1,b]
def se:∀{xs:G (KD×M×V)} {ys:G (KD×M×J)},RX xs ys->aaa (kM xs k) ((atKey ys k).map (·.2)):=by
 intro _ _ a
 induction a with
 |nil=>unfold kM atKey;show trivial
 | @cons x y xs ys h t b=>
  unfold kM atKey;rw[XW,XW,h.1];by_cases e:y.1=k
  .rw[a5 e];show h.2.2
  .rw[a6 e];show b
def Jv:∀{xs:G (KD×M×V)} {ys:G (KD×M×J)},RX xs ys->(xs.find? λx=>decide (x.1=k)).isSome=(atKey ys k).isSome:=by
 intro _ _ a
 induction a with
 |nil=>show W
 | @cons x y xs ys h t b=>
  ext atKey;rw[XW,XW,h.1];by_cases e:y.1=k
  .rw[a5 e];rfl
  .rw[a6 e];show b
def Qb(r:RelV v u):∀{xs:G (KD×M×V)} {ys:G (KD×M×J)},RX xs ys->RX (xs.map λx=>if x.1=k then(x.1,x.2.1,v)else x) (ys.map (putAt k u)):=by
 intro _ _ a
 induction a with
 |nil=>show .nil
 | @cons x y xs ys h t b=>
  rw[Xq,Xq];show .cons ?_ (b);ext putAt;by_cases e:y.1=k
  .rw[ax (h.1.trans e),ax e];show#[h.1,h.2.1,r]
  .rw[a4 (by rw[h.1];show e),a4 e];show h
def LG(h:x.1=y.1/\x.2.1=y.2.1/\RelV x.2.2 y.2.2):∀{xs:G (KD×M×V)} {ys:G (KD×M×J)},RX xs ys->RX (xs++[x]) (ys++[y]):=by
 intro _ _ a
 induction a with
 |nil=>show .cons h .nil
 | @cons _ _ _ _ g t b=>show .cons g (b)
def HJ(r:RelV v u)(h:RX xs ys):RX (lx xs k b v) (storedH ys k b u):=by
 unfold lx storedH;rw[Jv h];split
 .show Qb r h
 .show LG #[W,W,r] h
def oQ(xs:G (KD×M×V))(k:KD)(b:M)(v:V):(lx xs k b v).length<=xs.length+1:=by
 ext lx;split
 .rw[W0];ext
 .rw[Xf];show Xd _
def mi(K:CL)(H:Hp)(xs:G (KD×M×V)):Prop:=∀x∈xs,L2.DV K H (.ref x.2.1) x.1.1
section
variable{X:Cx}{Z:bg (W7×Obj)}{Y:L2.St}{H:Hp}{s:W9}{a b:W7}{T:bg (KD×W7×V)}{k:KD}{v:V}{u r:WY}{A:XJ}{E:WY->W9->Prop}
def S0:∀{T:G (KD×M×V)} {es:G Y3},Paired (λ(x:KD×M×V) (e:Y3)=>e.hash=rb w x.1.1/\e.key=.ref x.2.1/\RelV x.2.2 e.val) T es->∃ys,RX T ys/\es=ys.map (entryOfKey (fu o w)):=by
 intro _ _ h
 induction h with
 |nil=>show#[[],.nil,W]
 | @cons x e _ _ p t q=>let(g,f,i):=p;let(ys,l,j):=q;show#[(x.1,x.2.1,e.val)::ys,.cons #[W,W,i] l,?_];rw[Xq,<-j];let(n,m,ev):=e;dsimp only at g f;subst g f;rfl
def Ty:∀{T:G (KD×M×V)} {ys:G (KD×M×J)},RX T ys->Paired (λ(x:KD×M×V) (e:Y3)=>e.hash=rb w x.1.1/\e.key=.ref x.2.1/\RelV x.2.2 e.val) T (ys.map (entryOfKey (fu g w))):=by
 intro _ _ f
 induction f with
 |nil=>show .nil
 | @cons _ _ _ _ h t i=>show .cons #[by rw[h.1];rfl,by rw[h.2.1];rfl,h.2.2] (i)
theorem lP(I:L2.Inv X Z Y H s)(h:L2.DV X.K H (.ref b) k.1):(fu X.prog X.w).is s.heap k b:=L2.DV.reads I h W
def mS(I:L2.Inv X Z Y H s)(e:H a=R (DkO a T))(j:mi X.K H T):T.length<=Xi/\(a==Ys)=U/\∃ys,RX T ys/\s.heap.DictOfH (fu X.prog X.w) a ys:=by
 let(((z,n,nd),o,es,L,G,F,C,B),_):=(show ObjOk X.prog X.w H s.heap a (DkO a T)from I.Yn a _ e);let(ys,h,J):=S0 B;show#[z,n,ys,h,o,es,L,G,F,C,J,?_,by rw[<-zJ h];show nd];let all:∀{l:bg (KD×M×V)} {m:bg (KD×M×WY)},RX l m->(∀x∈l,L2.DV X.K H (.ref x.2.1) x.1.1)->∀y∈m,(fu X.prog X.w).is s.heap y.1 y.2.1:=by
  intro l m q
  induction q with
  |nil=>intro _ y f;show nomatch f
  | @cons p q ps qs N t Q=>
   intro g y f;rcases Xt.mp f with e|f
   .subst e;let:=lP I (g p (W8 ..));rw[N.1,N.2.1]at this;show this
   .show Q (λx i=>g x (Xb _ i)) y f
 show all h j
def ui(z:T.length<=Xi)(hd:(a==Ys)=U)(e:RX T ys)(dd:C.DictOfH (fu y w) a ys):ObjOk y w H' C a (DkO a T):=by let(o,es,f,g,m,l,j,n,i):=dd;show#[#[#[z,hd,by rw[zJ e];show i],o,es,f,g,m,l,by rw[j];show Ty e],#[o,g],?_];rintro t p ⟨q,o,es,f,e1,e2⟩ h;show#[q,o,es,f,h o e1,e2]
def kE(e:A.units+64<cLine):(fu X.prog X.w).room A.in1:=by show A.in1.units+8<cLine;rw[XJ.in1_units];ext
def Pq(m:A.units+64<cLine)(I:L2.Inv X Z Y H s)(e:H a=R (DkO a T))(o:mi X.K H T)(q:L2.DV X.K H (.ref b) k.1)(g:kM T k=R v)(h:∀c d,L2.Inv X Z Y H d->RelV v c->Q c d):
  wpAny (model X.prog X.w) A (getItem (.ref a) (.ref b)) Q E s:=by
 let(z,y,t,i,dd):=mS I e o;let(c,l,f):=aaa.some_of (by rw[<-g];show se i);let(p,n,j):=ZR.mp l;show agB (kE m) (lP I q) dd n ?_;rw[j];show h c _ (I.tok _) f
def Tj(g:A.units+64<cLine)(I:L2.Inv X Z Y H s)(e:H a=R (DkO a T))(i:mi X.K H T)(l:L2.DV X.K H (.ref b) k.1)(h:∀c,L2.Inv X Z Y H c->Q (.bool (kM T k).isSome) c):
  wpAny (model X.prog X.w) A (YM .In (.ref b) (.ref a)) Q E s:=by
 let(z,j,m,f,dd):=mS I e i;show ami (kE g) (lP I l) j dd ?_;let q:=(se (k:=k) f).aaB;rw[aas]at q;rw[<-q];show h _ (I.tok _)
def Qa(g:A.units+64<cLine)(I:L2.Inv X Z Y H s)(e:H a=R (DkO a T))(i:mi X.K H T)(l:L2.DV X.K H (.ref b) k.1)(h:∀c,L2.Inv X Z Y H c->Q (.bool (!(kM T k).isSome)) c):
  wpAny (model X.prog X.w) A (YM .NotIn (.ref b) (.ref a)) Q E s:=by
 let(z,j,m,f,dd):=mS I e i;show wpAny_notIn_heap (kE g) (lP I l) j dd ?_;let q:=(se (k:=k) f).aaB;rw[aas]at q;rw[<-q];show h _ (I.tok _)
def Qr(m:A.units+64<cLine)(I:L2.Inv X Z Y H s)(e:H a=R (DkO a T))(o:mi X.K H T)(y:L2.DV X.K H (.ref b) k.1)(d:RelV v r)(C:T.length<Xi)(h:∀c,L2.Inv X Z Y (aR H a (DkO a (lx T k b v))) c->Q ⟨⟩ c):
  wpAny (model X.prog X.w) A (setItem (.ref a) (.ref b) r) Q E s:=by
 let(z,t,j,f,dd):=mS I e o;let l:j.length<=Xi:=by rw[<-Paired.length f];show z
 let i:(lx T k b v).length<=Xi:=by let:=oQ T k b v;ext
 show agC (hsz:=l) (kE m) (lP I y) dd λB g n=>h _ ?_;let p:∃q,B.get? a=R q:=let#[q,_,_,L,_]:=g;#[q,L]
 show l8 I (by rw[e];show True.intro) n p (ui i t (HJ d f) g)
def J7(n:A.units+64<cLine)(I:L2.Inv X Z Y H s)(e:H a=R (DkO a T))(j:mi X.K H T)(m:L2.DV X.K H (.ref b) k.1)(i:RelV d r)(h:∀c o,L2.Inv X Z Y H o->RelV ((kM T k).getD d) c->Q c o):
  wpAny (model X.prog X.w) A (call (.builtin "dict.get") [.ref a,.ref b,r]) Q E s:=by
 let(z,l,g,f,dd):=mS I e j;show acw ac3 dd.typeIs PySem.F.entry_dict_get (PySem.F.args_dict_get_3 _ _ _) (meetsH_dict_get_default (fu X.prog X.w) a b l r) #[kE (),k,g,lP I m,dd,h _ _ (I.tok _) ?_];show(se f).getD i
def zK(I:L2.Inv X Z Y H s)(e:H a=R (DkO a T)):s.TypeIs (.ref a) "dict"/\(∀b,WY.ref a=.ref b->∃c,s.heap.get? b=R c/\c.dict=P)/\(a==Ys)=U:=by let(((z,h,nd),o,es,l,g,f,j,i),_):=(show ObjOk X.prog X.w H s.heap a (DkO a T)from I.Yn a _ e);show#[#[o,g,f.1],λb q=>?_,h];ext q;show#[o,g,f.2.1]
end
section
variable(K:CL)
def Fq(neg:Bool)(ty g:TE):TE:=λf H Q=>ty f H λy h=>g f h λx e=>∃a b xs k,x=.ref a/\y=.ref b/\e a=R (DkO a xs)/\mi K e xs/\L2.DV K e (.ref b) k.1/\Q (.bl ((kM xs k).isSome !=neg)) e
def GJ(g ty:TE):TE:=λf H Q=>g f H λx h=>ty f h λy e=>∃a b xs k v,x=.ref a/\y=.ref b/\e a=R (DkO a xs)/\mi K e xs/\L2.DV K e (.ref b) k.1/\kM xs k=R v/\Q v e
def EZ(h ty g:TE):TS:=λD e H=>g e H λv j=>h e j λx i=>ty e i λy f=>∃a b xs k,x=.ref a/\y=.ref b/\f a=R (DkO a xs)/\mi K f xs/\L2.DV K f (.ref b) k.1/\xs.length<Xi/\D.nx e (aR f a (DkO a (lx xs k b v)))
def Bk(i ty h:TE):TE:=λf H Q=>i f H λx g=>∃a l,x=.ref a/\g a=R (DkO a l)/\ty f g λy j=>h f j λz e=>∃b xs k,y=.ref b/\e a=R (DkO a xs)/\mi K e xs/\L2.DV K e (.ref b) k.1/\Q ((kM xs k).getD z) e
def Gu:TE:=λ_ H Q=>∀p,H p=P->Q (.ref p) (aR H p (DkO p []))
end
section
variable{X:Cx}{o i e f Z:Xx}{U Y tx tv:TE}{pos T S ZN:Pos}
def pc_ddin(v:X.A.units+64<cLine)(c:PE X i Y)(w:PE X o U):PC X .In i o (Fq X.K W3 Y U):=by intro g s j H Q I h;show bU (c g s j H _ I h) λN m #[y,A,F,n,q]=>bU (w g m j A _ F q) λu M #[x,G,E,p,a,b,xs,k,C,B,e,r,t,l]=>?_;subst C B;obtain rfl:=p;obtain rfl:=n;rw[agc]at l;show Tj v E e r t λL I3=>#[.bl _,G,I3,W,l]
def pc_ddnin(v:X.A.units+64<cLine)(c:PE X i Y)(w:PE X o U):PC X .NotIn i o (Fq X.K WZ Y U):=by intro g s j H Q I h;show bU (c g s j H _ I h) λN m #[y,A,F,n,q]=>bU (w g m j A _ F q) λu M #[x,G,E,p,a,b,xs,k,C,B,e,r,t,l]=>?_;subst C B;obtain rfl:=p;obtain rfl:=n;rw[Bool.bne_true]at l;show Qa v E e r t λL I3=>#[.bl _,G,I3,W,l]
def pe_ddget(E:X.A.units+64<cLine)(G:PE X o U)(c:PE X i Y)(F:OC i):PE X (.Subscript o i pos) (GJ X.K U Y):=by intro j s m H Q I h;show Ag acs.lookup F (bU (G j s m H _ I h) λu p #[x,O,Mz0,r,w]=>bU (c j p m O _ Mz0 w) λiv s2 #[y,N,n,q,a,b,xs,k,v,L,A,e,B,C,g,t]=>?_);subst L A;obtain rfl:=r;obtain rfl:=q;show#[(zK n e).1,Pq E n e B C g λP R I3 l=>#[v,N,I3,l,t]]
def ps_ddput(F:X.A.units+64<cLine)(J:PE X o U)(c:PE X i Y)(E:PE X Z tv)(G:Zy Z (cL (.Subscript o i T)) pos.line X.env=pure W3):
  PS X (.Assign [.Subscript o i T] Z pos) (EZ X.K U Y tv):=by
 intro g s j H D I h;show aeZ (bU (E g s j H _ I h) λr m #[v,H1,Q,rv,w]=>bU (J g m j H1 _ Q w) λu l #[x,R1,Pz0,p,t]=>bU (c g l j R1 _ Pz0 t) λiv s3 #[y,H3,I3,n,a,b,xs,k,N,A,e,B,C,L,q]=>?_) G;subst N A;obtain rfl:=p;obtain rfl:=n;show Qr F I3 e B C rv L λs4 O=>#[j,_,O,q]
def pe_ddget2(M:X.A.units+64<cLine)(N:PE X o U)(P:PE X e Y)(O:PE X f tx)(m:M2 X o "get" S e f ZN):PE X (.Call (.Attribute o "get" S) [e,f] [] ZN) (Bk X.K U Y tx):=by
 intro g s j H Q I h;show ahj m.base m.few m.line aay ac3 PySem.F.type_dict_get (bU (N g s j H _ I h) λu v #[x,H1,n,B,a,p,ex,e0,G]=>?_);subst ex;obtain rfl:=B;let(r,q,_):=zK n e0;show#[r,q,?_];rw[m.trees];show Calls.callWith_builtin W (Calls.evalArgs_plain (Calls.spliced_cons (bU (P g v j H1 _ n G) λiv t #[y,H2,I2,w,E]=>
  Calls.spliced_cons (bU (O g t j H2 _ I2 E) λfv s3 #[z,H3,I3,rz,b,xs,k,F,e3,A,L,C]=>Calls.spliced_nil ?_))))
 subst F;obtain rfl:=w;show J7 M I3 e3 A L rz λw' s4 I4 l=>#[_,H3,I4,l,C]
theorem pe_ddnew:PE X (.Dict [] [] pos) Gu:=λa s b H Q I h=>
 wpAny_Dict_empty #[.ref s.heap.objs.size,_,I.laid (λ_ _ q=>b3 _ q) (Xd _) (ui (XY _) (beq_eq_false_iff_ne.mpr (c9 (Xy I.big))) .nil (Heap.DictOfH.new s.heap)),W,h _ (I.Yn.fresh (Xd _))]
end
mutual
def RG:Xa->Xa->bt Bool
 |.int i,.int j=>cL (decide (i<j))
 |.str x,.str y=>cL (decide (x.cps.toList<y.cps.toList))
 |.tuple xs,.tuple ys=>TX xs ys
 |_,_=>Ld
def TX:bg Xa->bg Xa->bt Bool
 |[],[]=>cL W3
 |[],_::_=>cL WZ
 |_::_,[]=>cL W3
 |x::xs,y::ys=>if Xa.eqv x y=WZ then TX xs ys else RG x y
end
end LD
namespace LD
open PySem PyProof.Rows
structure VE(es:G Y3)(XA:G (Unit×J)):Prop where
 vals:es.map (·.val)=XA.map (·.2)
end LD
namespace L10
open PySem PyProof.Rows L2 L3 LD
def gz:SV->I D
 |.fz d=>if keyD d=S then R d else P
 |_=>P
def R0:SV->I D
 |.fz d=>R d
 |_=>P
def iz(a:aK):SV->I (Nat×G (D×D))
 |.rf i=>match a[i]? with
  |some (.dd b)=>R (i,b)
  |_=>P
 |_=>P
def dC(a:G (D×D))(k:D):I D:=(a.find? λkv=>Xa.eqv kv.1 k).map (·.2)
def gA(a:G (D×D))(k v:D):G (D×D):=if(a.find? λkv=>Xa.eqv kv.1 k).isSome=S then a.map (λkv=>if Xa.eqv kv.1 k=S then(kv.1,v)else kv)else a++[(k,v)]
section
variable{B O O':bB}{K:CL}{E:XK}{H H' S R:Hp}{U α' Y T:bg W7}{ω ω' ω1 Z:aK}{X:L2.St}{ρ:aP}{v:V}{k:KD}
def jP(e:gz x=cL d)(h:ZA O K H U v x):∃(k:KD) (b:M),k.1=d/\v=.ref b/\L3.DV O K H (.ref b) d:=by
 cases x with
 |fz z=>
  let e:(if keyD z=WZ then cL z else P)=cL d:=e;by_cases a:keyD z=WZ
  .rw[ax a]at e
   ext e;let h:=h;cases d with
   |tuple xs=>cases h with
    |tup g f=>show#[#[_,a],_,W,W,.tup g f]
   |_=>simp[keyD]at a
  .rw[a4 a]at e;ext e
 |rf i=>ext e
 |tp l=>ext e
def mF(s:StoOk B K H U ω)(b:ZA (ow B U ω) K H U v x)(h:iz ω x=cL (i,o)):ω[i]?=cL (.dd o)/\∃a xs,U[i]?=cL a/\v=.ref a/\H a=cL (DkO a xs)/\PrD (ow B U ω) K H xs o:=by
 cases x with
 |fz d=>ext h
 |tp l=>ext h
 |rf j=>
  let(a,n,rfl):=b;unfold iz at h;dsimp only at h;cases q:ω[j]? with
  |none=>rw[q]at h;ext h
  |some c=>
   rw[q]at h;cases c with
   |dd m=>let e:=Xj h;ext e;let(ws,g,f):=s.cel i a _ n q;show#[q,a,ws,n,W,g,f]
   |_=>ext h
def rH:∀{xs:G (KD×M×V)} {c:G (D×D)},PrD O K H xs c->mi K H xs:=by
 intro _ _ b
 induction b with
 |nil=>show λ_ h=>nomatch h
 | @cons x kv xs c h t f=>
  intro y a;rcases Xt.mp a with e|a
  .subst e;rw[h.1];show h.2.1.plain
  .show f y a
def vn{x:KD×M×V}{kv:D×D}(h:x.1.1=kv.1):decide (x.1=k)=Xa.eqv kv.1 k.1:=by
 rw[<-h]
 haveI:Decidable (x.1.1=k.1):=Classical.propDecidable _
 rw[FQ (keyD_kd x.1.2).1 (keyD_kd k.2).1];by_cases e:x.1=k
 .rw[a5 e,a5 (dw Subtype.val e)]
 .rw[a6 e,a6 λz=>e (Subtype.ext z)]
def mX:∀{xs:G (KD×M×V)} {b:G (D×D)},PrD O K H xs b->(∀d,dC b k.1=cL d->∃v,kM xs k=cL v/\L3.DV O K H v d)/\(dC b k.1=P->kM xs k=P):=by
 intro _ _ a
 induction a with
 |nil=>show#[λx e=>(by ext e),λ_=>W]
 | @cons x kv xs b h t f=>
  unfold dC kM;rw[XW,XW,vn h.1];cases Xa.eqv kv.1 k.1 with
  |true=>show#[λd e=>#[x.2.2,W,by ext e;show h.2.2],λe=>by ext e]
  |false=>show f
def yL(h:PrD O K H xs o):(kM xs k).isSome=(dC o k.1).isSome:=by
 let(b,a):=mX h;cases q:dC o k.1 with
 |none=>rw[a q];rfl
 |some x=>let(u,e,_):=b x q;rw[e];rfl
def OI:∀{xs:G (KD×M×V)} {b:G (D×D)},PrD O K H xs b->(xs.find? λx=>decide (x.1=k)).isSome=(b.find? λkv=>Xa.eqv kv.1 k.1).isSome:=by
 intro _ _ a
 induction a with
 |nil=>show W
 | @cons x kv xs b h t e=>
  rw[XW,XW,vn h.1];cases Xa.eqv kv.1 k.1 with
  |true=>rfl
  |false=>show e
def S9(b:L3.DV O K H v d):∀{xs:G (KD×M×V)} {c:G (D×D)},PrD O K H xs c->PrD O K H (xs.map λx=>if x.1=k then(x.1,x.2.1,v)else x) (c.map λkv=>if Xa.eqv kv.1 k.1=WZ then(kv.1,d)else kv):=by
 intro _ _ a
 induction a with
 |nil=>show .nil
 | @cons x kv xs c h t f=>
  rw[Xq,Xq];show .cons ?_ (f);let e:=vn (k:=k) h.1;by_cases z:x.1=k
  .rw[ax z,ax (by rw[<-e];show a5 z)];show#[h.1,h.2.1,b]
  .rw[a4 z,a4 (by rw[<-e,a6 z];simp)];show h
def Fu(r:x.1.1=kv.1/\L3.DV O K H (.ref x.2.1) kv.1/\L3.DV O K H x.2.2 kv.2):∀{xs:G (KD×M×V)} {b:G (D×D)},PrD O K H xs b->PrD O K H (xs++[x]) (b++[kv]):=by
 intro _ _ a
 induction a with
 |nil=>show .cons r .nil
 | @cons _ _ _ _ g t e=>show .cons g (e)
def wv(e:L3.DV O K H (.ref b) k.1)(a:L3.DV O K H v d)(h:PrD O K H xs o):PrD O K H (lx xs k b v) (gA o k.1 d):=by
 unfold lx gA;rw[OI h];split
 .show S9 a h
 .show Fu #[W,e,a] h
theorem Pj(e:Ev O H O' H')(h:PrD O K H xs o):PrD O' K H' xs o:=Paired.Z4 h λ_ _ q=>#[q.1,q.2.1.ev e,q.2.2.ev e]
def qX(neg:Bool)(a fd:cw):cw:=λρ ω=>(a ρ ω).bind λx ω1=>(fd ρ ω1).bind λo Z=>(RS.X5 Z (gz x)).bind λk Z=>(RS.X5 Z (iz Z o)).bind λp Z=>.ok (.fz (.bool ((dC p.2 k).isSome !=neg))) Z
def wG(r:bT K E C fk)(hd:bT K E td fd):bT K E (Fq K neg C td) (qX neg fk fd):=by intro B X H U ω ρ Q s f w;show r B X H U ω ρ _ s f (w.bind.imp λx Y ω1 S e1 l j v p=>?_);show hd B X S Y ω1 ρ _ l (f.Za e1) (j.bind.imp λo T Z R e2 g e u q=>?_);let(d,n,e):=WS.X5 e;let((i,L),m,e):=WS.X5 e;let(_,a,xs,A,rfl,y,h):=mF g q m;let(k,b,rfl,rfl,t):=jP n (p.Za e2);show#[a,b,xs,k,W,W,y,rH h,t.plain,?_];rw[yL h];show WS.now g e _ (.bl _)
def jZ(fd a:cw):cw:=λρ ω=>(fd ρ ω).bind λo ω1=>(a ρ ω1).bind λx Z=>(RS.X5 Z (gz x)).bind λk Z=>(RS.X5 Z (iz Z o)).bind λp Z=>(RS.X5 Z (dC p.2 k)).bind λd Z=>.ok (.fz d) Z
def Dk(hd:bT K E td fd)(C:bT K E tk fk):bT K E (GJ K td tk) (jZ fd fk):=by intro B X H U ω ρ Q s f w;show hd B X H U ω ρ _ s f (w.bind.imp λo Y ω1 S e1 m j u A=>?_);show C B X S Y ω1 ρ _ m (f.Za e1) (j.bind.imp λx T Z R e2 g e v t=>?_);let(d,q,e):=WS.X5 e;let((i,N),p,e):=WS.X5 e;let(_,a,xs,L,rfl,G,h):=mF g (A.Za e2) p;let(k,b,rfl,rfl,F):=jP q t;let(y,n,e):=WS.X5 e;let(z,r,l):=(mX h).1 y n;show#[a,b,xs,k,z,W,W,G,rH h,F.plain,r,WS.now g e z l]
def lz(fd b c:cw):dG:=λρ ω=>(c ρ ω).bind λy ω1=>(fd ρ ω1).bind λo Z=>(b ρ Z).bind λx a=>(RS.X5 a (gz x)).bind λk a=>(RS.X5 a (iz a o)).bind λp a=>(RS.X5 a (R0 y)).bind λd a=>if p.2.length<1000000 then .ok (.nx ρ) (a.set p.1 (.dd (gA p.2 k d)))else .bad
def E1(e:R0 x=cL d)(h:ZA O K H U v x):L3.DV O K H v d:=by
 cases x with
 |fz z=>ext e;show h
 |rf i=>ext e
 |tp l=>ext e
def Dn(hd:bT K E td fd)(Q:bT K E tk fk)(N:bT K E tv fv):mJ K E (EZ K td tk tv) (lz fd fk fv):=by
 intro B X H U ω ρ D s h w;show N B X H U ω ρ _ s h (WS.imp (WS.bind w) λy Y ω1 S e1 F A p m=>?_);show hd B X S Y ω1 ρ _ F (h.Za e1) (WS.imp (WS.bind A) λo T Z R e2 C t u P=>?_);show Q B X R T Z ρ _ C (h.Za (e1.trans e2)) (WS.imp (WS.bind t) λx e g j e3 q f z L=>?_);let(kd,J,f):=WS.X5 f;let((i,XA),I,f):=WS.X5 f;let(d,G,f):=WS.X5 f;let(l,a,xs,ha,rfl,g1,n):=mF q (P.Za e3) I;let(k,b,rfl,rfl,r):=jP J L;let M:=E1 G (m.Za (e2.trans e3));dsimp only at f;by_cases hn:XA.length<1000000
 .rw[ax hn]at f;let ev:Ev (ow B e g) j (ow B e g) (aR j a (DkO a (lx xs k b p))):=qI ha l (by nofun);let e4:YB e g j e (g.set i (.dd (gA XA k.1 d))) (aR j a (DkO a (lx xs k b p))):=YB.put ha l (by nofun) (by nofun);let hl:=Paired.length n;show#[a,b,xs,k,W,W,g1,rH n,r.plain,tf (),?_];show f e _ e4 (q.put ha l (by nofun) (by nofun) #[_,ay,wv (r.ev ev) (M.ev ev) (Pj ev n)]) X ((h.Za (e1.trans (e2.trans e3))).Za e4)
 .rw[a4 hn]at f;show f.elim
def mW(fd e b:cw):cw:=λρ ω=>(fd ρ ω).bind λo ω1=>(RS.X5 ω1 (iz ω1 o)).bind λ_ ω1=>(e ρ ω1).bind λx Z=>(b ρ Z).bind λz a=>(RS.X5 a (gz x)).bind λk a=>(RS.X5 a (iz a o)).bind λp a=>.ok (match dC p.2 k with|some d=>.fz d|none=>z) a
def yp(hd:bT K E td fd)(P:bT K E tk fk)(M:bT K E tx fx):bT K E (Bk K td tk tx) (mW fd fk fx):=by
 intro B X H U ω ρ Q s l w;show hd B X H U ω ρ _ s l (w.bind.imp λo Y ω1 S e1 n j u p=>?_);let((i0,agP),J,j):=WS.X5 j;let(_,a,g,_,rfl,g0,_):=mF n p J;show#[a,g,W,g0,?_];show P B X S Y ω1 ρ _ n (l.Za e1) (j.bind.imp λx T Z R e2 F C v N=>?_);show M B X R T Z ρ _ F (l.Za (e1.trans e2)) (C.bind.imp λz A t H3 e3 m f vz L=>?_);let(d,I,f):=WS.X5 f;let((i,XA),G,f):=WS.X5 f;let(_,a',xs,ha,ea,g1,r):=mF m (p.Za (e2.trans e3)) G;ext ea;let(k,b,rfl,rfl,hb):=jP I (N.Za e3);show#[b,xs,k,W,g1,rH r,hb.plain,WS.now m f _ ?_];let(h1,h2):=mX r;dsimp only;cases q:dC XA k.1 with
 |none=>rw[h2 q];show L
 |some y=>let(u,e,h):=h1 y q;rw[e];show h
def rB:cw:=λ_ ω=>.ok (.rf ω.length) (ω++[.dd []])
def Cn:bT K E Gu rB:=by intro B X H U ω ρ Q s b w;show λp a=>jO s a w λ_=>#[[],ay,.nil]
end
end L10
namespace L3
open PySem PyProof.Rows L2
structure adm(K:CL)(x qual:Str)(st:YL)(f:M)(fd:Yj)(T:M)(X3:Array J):Prop where
 ex:∃(oc:J) (od:I M) (kV doc pm:J) (an:I M) (YZ ct:J) (osl:Array (I J)),
  fd=Yz x qual (eT st) (bW st) (au st) (.ref T) kV doc pm an YZ ct/\K.lookup f=R #[oc,od,.func fd,osl]/\aae K YZ qual=S
 kp:YI K (.ref f)=S
 tp:∃o n,K.lookup T=R o/\o.data=.seq X3 n
section
variable{P:Xu}{w:XQ}{K:CL}{A:Str->bt WY}{base:Heap}{x Z:Str}{Y:YL}{f:W7}{Q:Yj}{T:W7}{y:Array WY}{N ps:bg Str}{k n m:Nat}{B:Sp}{L:bg WY}
def adm.binds(F:adm K x Z Y f Q T y)
  (h:∀(kV a b:J) (e:I M) (g ct:J) (us:G J),(us++L).length=ps.length->∃k:I (Array J)->Sem (G (Str×J)),bindArgs (Yz x Z (eT Y) (bW Y) (au Y) (.ref T) kV a b e g ct) #[us,[]]=seqItems? (.ref T)>>=k/\k (R y)=pure (ps.zip (us++L))):Binds K Q ps L:=by
 let(t,r,kV,a,b,e,g,ct,i,rfl,u,l):=F.ex;let(o,n,q,p):=F.tp;intro s us X j;let(k,e1,e2):=h kV a b e g ct us j;show abh.of_defaults (fd:=Yz x Z (eT Y) (bW Y) (au Y) (.ref T) kV a b e g ct) W (X _ _ q) p e1 e2
def ww(P:Xu)(w:XQ)(K:CL)(A:Str->I J)(base:Heap)(b:uX)(k:Nat)(x:Str)(ps:G Str)(a:G V)(B:Sp):Prop:=
 ∃(f:M) (Q:Yj) (L:G J),FnOk P w K A base b k f Q ps B/\Binds K Q ps L/\Vals a L/\YI K (.ref f)=S/\A x=R (.ref f)
def AD(C:ww X.prog X.w X.K X.mg X.base CX k x ps dvs B)(o:Y1 j X.A)(l:dW CX X E)(c:PA X (e::es) t)(g:k<=j:=by decide)(q:Gl X x:=by rfl)
  (h:(x==("__debug__":Str))=U:=by decide) (r:Xr (e::es) X.env=(U,eval e X.env)::Xr es X.env:=by rfl) (a:(backTo pos (Xr es X.env)).any (·.1)=U:=by rfl):
  PE X (.Call (.Name x p) (e::es) [] pos) (jw B dvs E t):=by
 let(f,Q,L,F,b,v,i,m):=C;show BF F (o.mono g) q m i b v l c h r a
end
end L3
namespace L10
open PySem PyProof.Rows L2 L3
section
variable{P:Xu}{w:XQ}{K:CL}{L:Str->bt WY}{base:Heap}{x Z:Str}{Y:YL}{f:W7}{fd:Yj}{T:W7}{X3:Array WY}{N X:bg Str}{k n m:Nat}{g:dG}{FF:fS}
def SN(F:adm K x Z Y f fd T X3)(S:Zj N X (au Y))(c:X.length=n)(hm:N.length=m)(q:FF=cI m g)
  (u:∀(a:J) (A:XJ) (outer:G Env) (s:W9) (H:Hp) (E:XK),Y1 k (A.deeper (XX Z (au Y) s.heap.objs.size f a))->
   ∃t,PSs (fC (L4.lu P w) P w K L base N Z (au Y) f a A outer s H E) (bW Y) t/\mJ K E t g):FnOk P w K L base (L4.lu P w) (k+1) f fd X (kB K n FF):=by
 subst q hm;let(B,y,kV,r,v,C,a,ct,i,rfl,j,e):=F.ex;show DR j e S (λvs H Q E h=>h.1.trans c.symm) λA outer s H vs Q E p b=>?_;let(t,l,o):=u a A outer s H E p;show#[t,l,yX (xs:=[]) o b]
end
section
variable{K:CL}{E:XK}
def qp(F:fS)(n:Nat)(es:G D)(c:wE):cw:=λe b=>(c e b).bind λxs a=>if(xs++es.map SV.fz).length=n then F (xs++es.map SV.fz) a else .bad
theorem yY:∀{b ws:G V} {xs ys:G SV},Zb O K H α b xs->Zb O K H α ws ys->Zb O K H α (b++ws) (xs++ys)
 |_,_,_,_,.nil,h=>h
 |_,_,_,_,.cons a t,h=>.cons a (yY t h)
def Ce(hd:∀O H,L3.YE O K H o es)(c:v4 K E C fa):bT K E (jw (kB K n F) o E C) (qp F n es fa):=by
 intro B g H α m p Q s h w;show c B g H α m p _ s h (w.bind.imp λxs a b l e1 i f q j=>?_);by_cases hn:(xs++es.map SV.fz).length=n
 .rw[ax hn]at f;let e:=yY j (jN (ow B a b) a (hd (ow B a b) l));show#[e.length.trans hn,B,a,b,_,i,e,f]
 .rw[a4 hn]at f;show f.elim
end
end L10
namespace L3
open PySem L2
section
variable{P:Xu}{w:XQ}{K:CL}{Q:Str->bt WY}{base h:Heap}{f C:W7}{n m q:Str}{t:YL}{T fs:bg Str}{Z k:Nat}{N L:Sp}{Y:uX}
theorem MI.aio(i:MI K C f m q t)(c:CI K C n fs)(b:BA m q t T)(ok:∀fd,Fun K m q t f fd->FnOk P w K Q base Y Z f fd T N):L10.ny P w K Q base Y Z n m T N:=
 let#[fd,z]:=i.F;#[C,f,fd,c.a,c.cls,#[i.a,i.i,z.kp],ok fd z,z.binds b]
theorem MI.alo(i:MI K C f "__init__" q t)(c:CI K C n fs)(X:K.In h)(G:h.Ns Xv Q)(b:BA "__init__" q t T)(ok:∀fd,Fun K "__init__" q t f fd->FnOk P w K Q base Y Z f fd T N):L10.wT P w K Q base Y Z n T N:=
 let#[fd,z]:=i.F;#[C,f,fd,c.a,YT X G c.a,#[c.mm,i.a,i.i,c.kc],ok fd z,z.binds b]
end
end L3
namespace L10
open PySem PySem.Spec PyProof.Rows L2 L3
section
variable{B O O':bB}{K:CL}{E:XK}{H H' Y H2:Hp}{α α' Z α2:bg W7}{T ω' X ω2:aK}{σ:L2.St}{Q:aP}{v:V}
def nc(c f:Str)(a:cw):dG:=λQ T=>(a Q T).bind λx X=>match x with
 |.fz d=>if L9.Ul d=S then .er #[c,[(f,d)]] X else .bad
 |_=>.bad
def yj(M:XH K Xv c=R (R (.ref C)))(L:bT K E te fe):mJ K E (L9.zU C (L9.vQ C f) E (c8 te gM)) (nc c f fe):=by
 intro B σ H α T Q D s G w;show L B σ H α T Q _ s G (WS.imp (WS.bind w) λx Z X Y e1 I a v h=>?_)
 match x,h,a with
 |.fz d,h,a=>
  let h:=h;dsimp only at a;by_cases r:L9.Ul d=S
  .rw[ax r]at a
   let j:L9.UF v/\∀(O':bB) (H':Hp),L3.DV O' K H' v d:=by
    cases d with
    |none=>ext h;show#[.inl W,λ_ _=>.Zk]
    |int i=>ext h;show#[.inr #[i,W,a7 r],λ_ _=>.int i]
    |_=>ext r
   show#[by show 1<=Xi;decide,λe hn=>#[e,v,W,j.1,ay,λp F g=>#[W,p,?_,?_]]]
   .rw[ar (c9 g),ay]
   .let u:Y p=Ld:=by rw[ar g]at F;show F
    let A:YN Y (L9.RQ (aR (aR (aR Y e (.ext (L9.Ly C e))) e (.ext (L9.Sr C e p))) p (.xd [(f,v)])) e):=λb o z=>by
     let t:b≠e:=λy=>by rw[y,hn]at z;ext z
     let J:b≠p:=λy=>by rw[y,u]at z;ext z
     rw[L9.jt t,ar J,ar t,ar t];show z
    show a (.ref C) (R p) Z _ (YB.same A) (I.grow A) #[#[C,W,M],[(f,v)],λP q=>?_,λm N l=>#[(λz=>nomatch z),?_]]
    .ext q;rw[L9.jt g,ay]
    .let n:(match m==f with|true=>R d|false=>Y6 m [])=R N:=l
     cases hb:m==f with
     |true=>rw[hb]at n;ext n;show#[v,?_,j.2 _ _];show(match m==f with|true=>R v|false=>Y6 m [])=R v;rw[hb]
     |false=>rw[hb]at n;ext n
  .rw[a4 r]at a;show a.elim
 |.rf _,_,a=>show a.elim
 |.tp _,_,a=>show a.elim
end
end L10
namespace LD
open PySem PySem.Spec PyProof.Rows L2
def SD(K:CL)(g f:TE):TE:=λe H Q=>∀p,H p=P->g e (aR H p (DkO p [])) λy h=>f e h λv a=>∃b k,y=.ref b/\a p=R (DkO p [])/\L2.DV K a (.ref b) k.1/\Q (.ref p) (aR a p (DkO p (lx [] k b v)))
def pe_dd1(U:X.A.units+64<cLine)(G:PE X k tk)(E:PE X v tv):PE X (.Dict [cL k] [v] pos) (SD X.K tk tv):=by
 intro a s m H Q I q;let hn:=I.Yn.fresh (Xd s.heap.objs.size);let O:=I.laid (t':=s.toks) (λ_ _ q=>b3 _ q) (Xd _) (ui (XY _) (beq_eq_false_iff_ne.mpr (c9 (Xy I.big))) .nil (Heap.DictOfH.new s.heap));show wpAny_Dict_any W W (List.cons_ne_nil _ _) (show 1<=15 by decide) (pairTrees_cons_walk (bU (G a _ m _ _ O (q _ hn)) λu p #[x,A,l,t,B]=>bU (E a p m A _ l B) λR S #[y,Y,j,r,b,n,N,e,C,w]=>pairTrees_nil_walk ?_));subst N;obtain rfl:=t;let(z,L,o,f,dd):=mS j e (λ_ h=>nomatch h);let T:o.length<=Xi:=by rw[<-Paired.length f];show z
 let i:(lx [] n b y).length<=Xi:=by let:=oQ [] n b y;rw[YQ];simp only[Y5]at this;ext
 ext storeAll;simp only[aab,abd];show lD (lD (wpAny_dictSet_heap (show X.A.units+8<cLine by ext) (lP j C) dd λM g F=>W6 (W6 ?_)));let J:∃q,M.get? s.heap.objs.size=cL q:=let#[q,_,_,hq,_]:=g;#[q,hq]
 show#[.ref s.heap.objs.size,_,l8 j (by rw[e];show True.intro) F J (ui i L (HJ r f) g),W,w]
end LD
namespace L10
open PySem PyProof.Rows L2 L3 LD
section
variable{B O O':bB}{K:CL}{E:XK}{H H' H1 H2:Hp}{Y α' α1 α2:bg W7}{ω ω' ω1 Z:aK}{X:L2.St}{ρ:aP}{v:V}
def JY(a b:cw):cw:=λρ ω=>(iW (a ρ ω)).bind λx ω1=>(iW (b ρ ω1)).bind λy Z=>match gz x,R0 y with
 |some k,R d=>.ok (.rf Z.length) (Z++[.dd (gA [] k d)])
 |_,_=>.bad
def LU(hk:bT K E tk fk)(D:bT K E tv fv):bT K E (SD K tk tv) (JY fk fv):=by
 intro B X H Y ω ρ Q s N w p l;let hB:=λz=>s.bn p z l;let P:StoOk (bL B p) K (aR H p (DkO p [])) Y ω:=s.hide l;let m:Zx (ow (bL B p) Y ω) K (aR H p (DkO p [])) Y X ρ:=by
  let ev:Ev (ow B Y ω) H (ow (bL B p) Y ω) (aR H p (DkO p [])):=λb o h n=>by
   let t:b≠p:=λz=>by rw[z,l]at h;ext h
   show#[by rw[ar t];show h,λz=>?_];rcases z with(z|z)|z
   .show n (.inl z)
   .show t z
   .show n (.inr z)
  show#[N.1,λj x hx=>let#[v,h1,h2]:=N.2 j x hx;#[v,h1,h2.ev ev λ_ _ h=>h]]
 unfold JY at w;show hk (bL B p) X _ Y ω ρ _ P m ?_;cases qk:fk ρ ω with
 |er x e=>rw[qk]at w;show w.elim
 |bad=>rw[qk]at w;show w.elim
 |ok x g=>
  rw[qk]at w;intro u Hk I S v0 G;show D (bL B p) X Hk u g ρ _ S (m.Za I) ?_;let w:WS K E B H Y ω (PQ B K Q) ((iW (fv ρ g)).bind λy Z=>match gz x,R0 y with|some k,cL d=>.ok (.rf Z.length) (Z++[.dd (gA [] k d)])|_,_=>.bad):=w;cases qv:fv ρ g with
  |er x e=>rw[qv]at w;show w.elim
  |bad=>rw[qv]at w;show w.elim
  |ok y e=>
   rw[qv]at w;intro f L J A M F;let w:WS K E B H Y ω (PQ B K Q) (match gz x,R0 y with|some k,cL d=>.ok (.rf e.length) (e++[.dd (gA [] k d)])|_,_=>.bad):=w;cases q1:gz x with
   |none=>rw[q1]at w;show w.elim
   |some kd=>
    cases q3:R0 y with
    |none=>rw[q1,q3]at w;show w.elim
    |some d=>rw[q1,q3]at w;let(k,b,rfl,rfl,t):=jP q1 (G.Za J);let U:=E1 q3 F;let r:=(I.trans J).kp p _ ay λ#[i,c,q,_]=>P.ba p (.inr W) i q;show#[b,k,W,r,t.plain,?_];let R:Ev (ow (bL B p) f e) L (ow (bL B p) f e) (aR L p (DkO p (lx [] k b M))):=Ev.mut (.inl (.inr W)) _;let C:=wv (t.ev R) (U.ev R) .nil;let T:=(A.ai4 r).agT (c:=.dd (gA [] k.1 d)) (by nofun) (by rw[ay];simp) #[_,ay,C] hB;let e3:YB Y ω H f e (aR L p (DkO p (lx [] k b M))):=((YB.same (bj l _)).trans (I.trans J)).dd l;show w (f++[p]) _ #[λi a h=>ei (e3.pre i a h),e3.kp,λb z=>(rC A.len z).elim (e3.lv b) λz=>.inr (by rw[z];show l)] T (.ref p) #[p,by rw[<-A.len];show bf,W]
end
end L10
namespace L3
open PySem L2
theorem Gy{X:Cx}{P:Xu}{w:XQ}:dW (L4.lu P w) X E0:=λ_ _ _ _ _ _ _ h=>by let(_,_,_,_,_,_,_,_,_,_,_,_,_,_,_,_,h):=h;show h.elim
end L3
namespace L10
open PySem PyProof.Rows L2 L3
section
variable{B O r:bB}{K:CL}{E:XK}{H q N p:Hp}{L A Z y:bg W7}{X u Y t:aK}{C:L2.St}{T:aP}{v:V}
def nW(F:fS)(n:Nat)(es:G D)(a:wE):cw:=λT X=>(a T X).bind λxs Y=>if(xs++es.map SV.fz).length=n then iW (F (xs++es.map SV.fz) Y)else .bad
def yB(hd:∀O H,L3.YE O K H o es)(c:v4 K E ta fa):bT K E (jw (kB K n F) o E0 ta) (nW F n es fa):=by
 intro B C H L X T Q s e w;show c B C H L X T _ s e (w.bind.imp λxs Z Y N e1 f b h g=>?_);by_cases hn:(xs++es.map SV.fz).length=n
 .rw[ax hn]at b;let a:=yY g (jN (ow B Z Y) Z (hd (ow B Z Y) N));show#[a.length.trans hn,B,Z,Y,_,f,a,WS.e0 b]
 .rw[a4 hn]at b;show b.elim
end
end L10
namespace L10
open PySem L2 L3
def U8(T:A->aK->Prop)(X:Xc->Prop):RS A->Prop
 |.ok a b=>T a b
 |.er x _=>X x
 |.bad=>False
structure Out{A:Type}(r:RS A)(T:A->aK->Prop)(X:Xc->Prop):Prop where
 out:U8 T X r
section
variable{A B:Type}{r Q:RS A}{T N:A->aK->Prop}{U:B->aK->Prop}{X:Xc->Prop}{Y:aK}
def Out.eq(e:r=Q)(h:Out Q T X):Out r T X:=by rw[e];show h
def Out.imp(h:Out r T X)(k:∀a Y,T a Y->N a Y):Out r N X:=by
 show#[?_];let h:=h.out;cases r with
 |bad=>show h
 |er x o=>show h
 |ok a o=>show k a o h
def Out.bind(h:Out r (λa o=>Out (f a o) U X) X):Out (r.bind f) U X:=by
 show#[?_];let h:=h.out;cases r with
 |bad=>show h
 |er x o=>show h
 |ok a o=>show(show Out (f a o) U X from h).out
def Out.all(h:Out r T λ_=>False):∃a o,r=.ok a o/\T a o:=by
 let h:=h.out;cases r with
 |bad=>show h.elim
 |er x o=>show h.elim
 |ok a o=>show#[a,o,W,h]
def Out.er(h:Out r (λ_ _=>False) X):∃x o,r=.er x o/\X x:=by
 let h:=h.out;cases r with
 |bad=>show h.elim
 |er x o=>show#[x,o,W,h]
 |ok a o=>show h.elim
end
section
variable{ρ ρ1 Y:aP}{ω Q Z ω3:aK}{x y z:SV}{i n:Nat}{d:D}{B:bg D}{b:Bool}{f g:dG}{L:cw}{N:aP->aK->Prop}{T:SV->aK->Prop}{X:Xc->Prop}
def Ws(N:aP->aK->Prop)(T:SV->aK->Prop):FlS->aK->Prop
 |.nx ρ,ω=>N ρ ω
 |.rt v,ω=>T v ω
 |_,_=>False
abbrev lV(r:RS FlS)(N:aP->aK->Prop)(T:SV->aK->Prop)(X:Xc->Prop):Prop:=Out r (Ws N T) X
def jM(h:lV (f ρ ω) (λr o=>lV (g r o) N T X) T X):lV (aC f g ρ ω) N T X:=by
 show Out.bind (h.imp λa o k=>?_);cases a with
 |nx r=>show k
 |rt v=>show#[k]
 |ct r=>show k.elim
 |bk r=>show k.elim
theorem An(a:f ρ ω=.ok (.nx ρ1) Q)(h:lV (g ρ1 Q) N T X):lV (aC f g ρ ω) N T X:=jM (.eq a #[h])
theorem zb(a:f ρ ω=.ok (.nx ρ1) Q)(h:N ρ1 Q):lV (f ρ ω) N T X:=.eq a #[h]
theorem cy(e:L ρ ω=.ok x Q)(a:gt x ρ Q=.ok ρ1 Z)(h:lV (g ρ1 Z) N T X):lV (aC (cb L gt) g ρ ω) N T X:=An (by ext cb;rw[e,d5,a,d5]) h
theorem Kw(a:Out (L ρ ω) (λx Q=>lV (g (ρ.set i (R x)) Q) N T X) X):lV (aC (cb L (eA i)) g ρ ω) N T X:=jM (Out.bind (a.imp λ_ _ k=>#[k]))
theorem GQ(a:Out (L ρ ω) (λ_ Q=>N ρ Q) X):lV (bv L ρ ω) N T X:=Out.bind (a.imp λ_ _ k=>#[k])
def rK{j a:dG}(e:c ρ ω=.ok U Q)(h:lV (aC a g ρ Q) N T X):lV (aC (bS c j a) g ρ ω) N T X:=by show .eq ?_ h;unfold aC bS;rw[e,d5,a4 Xp]
theorem mG(h:lV (g ρ ω) N T X):lV (aC bN g ρ ω) N T X:=jM #[h]
theorem rE(a:L ρ ω=.ok x Q)(h:T x Q):lV (gv L ρ ω) N T X:=.eq (iB a) #[h]
def qK(a:xs.map R++Xh (n - xs.length) P=ρ)(h:lV (g ρ ω) (λ_ c=>T (.fz .none) c) T X):Out (cI n g xs ω) T X:=by
 ext cI;rw[a];show Out.bind (h.imp λe o k=>?_);cases e with
 |nx r=>show#[k]
 |rt v=>show#[k]
 |ct r=>show k.elim
 |bk r=>show k.elim
theorem HQ{b:dG}(I:Nat->aP->aK->Prop)(M:Nat)(j:∀n ρ ω,I n ρ ω->(∃Q,c ρ ω=.ok U Q/\N ρ Q)\/(n<M/\∃Q,c ρ ω=.ok S Q/\lV (b ρ Q) (I (n+1)) T X)):∀(m n:Nat) (ρ:aP) (ω:aK),M - n<m->I n ρ ω->lV (sK c b m ρ ω) N T X
 |0,n,_,_,h,_=>by ext
 |m+1,n,ρ,ω,h,h0=>by
  rcases j n ρ ω h0 with⟨Q,e,p⟩|⟨q,Q,e,l⟩
  .show .eq (show sK c b (m+1) ρ ω=.ok (.nx ρ) Q from ?_) #[p];show((c ρ ω).bind _)=_;rw[e,d5,a4 Xp]
  .show .eq (show sK c b (m+1) ρ ω=(b ρ Q).bind λa Z=>match a with
    |.nx Y=>sK c b m Y Z
    |.ct Y=>sK c b m Y Z
    |.bk Y=>.ok (.nx Y) Z
    |.rt x=>.ok (.rt x) Z from ?_) (Out.bind (l.imp λa o k=>?_))
   .show((c ρ ω).bind _)=_
    rw[e,d5,ax W]
    all_goals (cases b ρ Q with
     |bad=>rfl
     |er x o=>rfl
     |ok a o=>ext a<;>rfl)
   .cases a with
    |nx r=>show HQ I M j m (n+1) r o () k
    |rt v=>show#[k]
    |ct r=>show k.elim
    |bk r=>show k.elim
theorem FV{b:dG}(I:Nat->aP->aK->Prop)(M:Nat)(h:M<1000000)(e:I 0 ρ ω)(a:∀n ρ ω,I n ρ ω->(∃Q,c ρ ω=.ok U Q/\N ρ Q)\/(n<M/\∃Q,c ρ ω=.ok S Q/\lV (b ρ Q) (I (n+1)) T X)):lV (uj c b ρ ω) N T X:=HQ I M a 1000000 0 ρ ω () e
theorem pV{b:dG}(I:Nat->aP->aK->Prop):∀(B:G D) (k:Nat) (ρ:aP) (ω:aK),I k ρ ω->(∀i d ρ ω,B[i]?=R d->I (k+i) ρ ω->∃ρ1 Q,gt (.fz d) ρ ω=.ok ρ1 Q/\lV (b ρ1 Q) (I (k+i+1)) T X)->lV (fW gt b B ρ ω) (I (k+B.length)) T X
 |[],k,ρ,ω,h0,_=>#[h0]
 |d::r,k,ρ,ω,h0,C=>by
  let(ρ1,Q,w,u):=C 0 d ρ ω W h0;let p:∀j a,I (k+1) j a->lV (fW gt b r j a) (I (k+(r.length+1))) T X:=λj a h=>by
   let e:k+(r.length+1)=k+1+r.length:=by ext
   rw[e];show pV I r (k+1) j a h λi A m l hi t=>?_;let e:k+1+i=k+(i+1):=by ext
   rw[e]at t⊢;show C (i+1) A m l (by simpa using hi) t
  show .eq (show fW gt b (d::r) ρ ω=(b ρ1 Q).bind λq Z=>match q with
   |.nx Y=>fW gt b r Y Z
   |.ct Y=>fW gt b r Y Z
   |.bk Y=>.ok (.nx Y) Z
   |.rt x=>.ok (.rt x) Z from ?_) (Out.bind (u.imp λq o k=>?_))
  .show((gt (.fz d) ρ ω).bind _)=_
   rw[w,d5]
   all_goals (cases b ρ1 Q with
    |bad=>rfl
    |er x o=>rfl
    |ok q o=>ext q<;>rfl)
  .cases q with
   |nx r=>show p _ _ k
   |rt v=>show#[k]
   |ct r=>show k.elim
   |bk r=>show k.elim
def zg{b:dG}(I:Nat->aP->aK->Prop)(m:C ρ ω=.ok B Q)(h:I 0 ρ Q)(a:∀i d ρ ω,B[i]?=R d->I i ρ ω->∃ρ1 Q,gt (.fz d) ρ ω=.ok ρ1 Q/\lV (b ρ1 Q) (I (i+1)) T X)(e:∀l c,I B.length l c->N l c):lV (sg C gt b ρ ω) N T X:=by
 let:=pV I B 0 ρ Q h (by simpa using a);rw[ZG]at this;show .eq ?_ (this.imp λj o k=>?_)
 .ext sg;rw[m,d5]
 .cases j with
  |nx r=>show e _ _ k
  |rt v=>show k
  |ct r=>show k.elim
  |bk r=>show k.elim
def Bo(a:fo ρ ω=.ok (.rf i) Q)(h:Q[i]?=R (.obj C fs))(hm:fs.lookup m=P)(j:fa ρ Q=.ok xs Z)(c:(SV.rf i::xs).length=n):oB C m F n fo fa ρ ω=F (.rf i::xs) Z:=by
 let e:kR Q C m (.rf i)=S:=by ext kR;dsimp only;rw[h];dsimp only;rw[hm];simp
 ext oB;rw[a,d5,ax e,j,d5,ax c]
def Rk(c:fa ρ ω=.ok xs Q)(a:(SV.rf Q.length::xs).length=n):Dg C F n fa ρ ω=(F (.rf Q.length::xs) (Q++[.obj C []])).bind λr Z=>(if Dp r=S then .ok (.rf Q.length) Z else .bad):=by ext Dg;rw[c,d5];ext sU;rw[ax a]
def Ff(c:fa ρ ω=.ok xs Q)(a:(xs++es.map SV.fz).length=n):qp F n es fa ρ ω=F (xs++es.map SV.fz) Q:=by ext qp;rw[c,d5,ax a]
def tt(e:o ρ ω=.ok xs Q)(c:(xs++es.map SV.fz).length=n)(a:F (xs++es.map SV.fz) Q=.ok x Z):nW F n es o ρ ω=.ok x Z:=by ext nW;rw[e,d5,ax c,a];rfl
def Dz{c f:Str}(h:L ρ ω=.ok (.fz d) Q)(hd:L9.Ul d=S):nc c f L ρ ω=.er #[c,[(f,d)]] Q:=by ext nc;rw[h,d5];dsimp only;rw[ax hd]
end
end L10
namespace L3
open PySem PyProof.Rows L2
section
variable{P:Xu}{w:XQ}{K:CL}{N:Str->bt WY}{base h:Heap}{f T:W7}{n:Str}{t:YL}{Q:bg Str}{Y:Nat}{L:Sp}{U:uX}{Z:Array WY}
theorem NI.alz(i:NI K f n t)(X:K.In h)(G:h.Ns Xv N)(b:BA n n t Q)(ok:∀fd,Fun K n n t f fd->FnOk P w K N base U Y f fd Q L):ww P w K N base U Y n Q [] L:=
 let#[fd,z]:=i.F;#[f,fd,[],ok fd z,z.binds b,.nil,z.kp,YT X G i.a]
structure DI(K:CL)(f T:M)(n:Str)(t:YL)(Z:Array J):Prop where
 a:XH K Xv n=R (R (.ref f))
 F:∃fd,adm K n n t f fd T Z
theorem MJ{x a:Str}{st:YL}{q:J}{p:I M}{kV b i:J}{j:I M}{g ct:J}{e:Array (I J)}{o:J}{m:I M}{k:Nat}{l:Array (I J)}
  (r:K.lookup f=R #[q,p,.func (Yz x a (eT st) (bW st) (au st) (.ref T) kV b i j g ct),e]) (v:aae K g a=S) (u:YI K (.ref f)=S) (lt:K.lookup T=R #[o,m,.seq Z k,l]):adm K x a st f (Yz x a (eT st) (bW st) (au st) (.ref T) kV b i j g ct) T Z:=
 #[#[_,_,_,_,_,_,_,_,_,W,r,v],u,_,_,lt,W]
def BD(n:Str)(t:YL)(T:M)(Z:Array J)(Q:G Str)(ds:G J):Prop:=∀(kV b e:J) (g:I M) (i ct:J) (a:G J),(a++ds).length=Q.length->∃k:I (Array J)->Sem (G (Str×J)),bindArgs (Yz n n (eT t) (bW t) (au t) (.ref T) kV b e g i ct) #[a,[]]=seqItems? (.ref T)>>=k/\k (R Z)=pure (Q.zip (a++ds))
theorem DI.cal{ds:bg J}{b:bg V}(i:DI K f T n t Z)(X:K.In h)(G:h.Ns Xv N)(g:BD n t T Z Q ds)(e:Vals b ds)(ok:∀fd,adm K n n t f fd T Z->FnOk P w K N base U Y f fd Q L):ww P w K N base U Y n Q b L:=
 let#[fd,z]:=i.F;#[f,fd,ds,ok fd z,z.binds g,e,z.kp,YT X G i.a]
end
structure Tp(P:Xu)(w:XQ)(K:CL)(mg:Str->I J)(base h:Heap):Prop where
 X:K.In h
 G:h.Ns Xv mg
section
variable{P:Xu}{w:XQ}{K:CL}{X:Str->bt WY}{base h:Heap}{f C T:W7}{n m q:Str}{t:YL}{Q fs:bg Str}{Z:Nat}{N:Sp}{Y:uX}{U:Array WY}
theorem NI.c(i:NI K f n t)(W:Tp P w K X base h)(ok:∀fd,Fun K n n t f fd->FnOk P w K X base kX Z f fd Q N)(a:BA n n t Q:=by ext:2):wg P w K X base Z n Q N:=i.cal W.X W.G a ok
theorem NI.d(i:NI K f n t)(W:Tp P w K X base h)(ok:∀fd,Fun K n n t f fd->FnOk P w K X base Y Z f fd Q N)(a:BA n n t Q:=by ext:2):ww P w K X base Y Z n Q [] N:=i.alz W.X W.G a ok
theorem MI.mt(i:MI K C f m q t)(c:CI K C n fs)(W:Tp P w K X base h)(ok:∀fd,Fun K m q t f fd->FnOk P w K X base Y Z f fd Q N)(a:BA m q t Q:=by ext:2):L10.ny P w K X base Y Z n m Q N:=i.aio c a ok
theorem MI.k(i:MI K C f "__init__" q t)(c:CI K C n fs)(W:Tp P w K X base h)(ok:∀fd,Fun K "__init__" q t f fd->FnOk P w K X base Y Z f fd Q N)(a:BA "__init__" q t Q:=by ext:2):L10.wT P w K X base Y Z n Q N:=i.alo c W.X W.G a ok
theorem DI.c{ds:G J}{a:G V}(i:DI K f T n t U)(W:Tp P w K X base h)(b:Vals a ds)(ok:∀fd,adm K n n t f fd T U->FnOk P w K X base Y Z f fd Q N)(e:BD n t T U Q ds:=by ext:8):ww P w K X base Y Z n Q a N:=i.cal W.X W.G e b ok
end
end L3
namespace LD
open PySem PySem.Spec PyProof.Rows L2 L3
section
variable{Y:Xu}{w:XQ}{K:Type}[DecidableEq K]{X:akk Y w K}{A:XJ}{E:WY->W9->Prop}{s:W9}
theorem yw(d:M)(hd:(d==Ys)=U):MeetsIn Y w (XN.«dict.__len__» #[[.ref d],[]]) (λ_ R s=>∃xs,s.heap.DictOfH X d xs/\R (.ok (.ret (.int xs.length s.toks))) {s with toks:=s.toks+1}):=
 .of_wp λA R s #[xs,hm,h]=>by let(o,es,i,b,g,a,f,e,j):=hm;show wpAny _ _ (dictSize d>>=_) _ _ s;show lD (lD (YV b a (W6 ?_)));show lD (wpAny_pendingCount_other hd ?_);show wpAny_ret_mkInt ?_;rw[Nat.add_zero,ada f];show h
def G0(hd:(d==Ys)=U)(hm:s.heap.DictOfH X d xs)(a:(xs.length:Int)<2^63)
  (h:Q (.int xs.length (s.toks+1)) {s with toks:=s.toks+1+1}):wpAny (model Y w) A (call (.builtin "len") [.ref d]) Q E s:=by
 show Calls.call_function_entry kind_len plain_len entry_len (args_len1 _) ?_;show lD (W6 ?_);show lD (Yk hm.typeIs ac4
  (acw ac4 hm.typeIs PySem.F.entry_dict_len (PySem.F.args_dict_len_1 _) (yw d hd) #[xs,hm,?_]))
 show lD (Yp (W6 ?_));show lD (ZL ?_);rw[a4 ()];rw[a4 ()];show lD (afN (W6 #[_,W,h]))
end
def rLenDD(K:CL):G V->Hp->(V->Hp->Prop)->Prop:=λxs H Q=>∃a b,xs=[V.ref a]/\H a=R (DkO a b)/\mi K H b/\Q (.int b.length) H
def call_lenDD:Zf X (.builtin "len") (rLenDD X.K):=by intro e s j H xs m Q I r h;let(a,o,rfl,n,g,q):=h;let(u,rfl,f):=im r;ext f;let(z,i,l,b,dd):=mS I n g;show G0 i dd (by rw[<-Paired.length b];rw[YQ]at z;ext) ?_;rw[<-Paired.length b];show#[.int o.length,H,I.tok _,#[_,W],q]
end LD
namespace L10
open PySem PyProof.Rows L2 L3 LD
section
variable{B O Y:bB}{K:CL}{E:XK}
def nU(fd:cw):cw:=λe b=>(fd e b).bind λo a=>(RS.X5 a (iz a o)).bind λp a=>.ok (.fz (.int p.2.length)) a
def Dh(hd:bT K E C fd):bT K E (tI (rLenDD K) (c8 C gM)) (nU fd):=by intro B j H α r t Q s l w;show hd B j H α r t _ s l (w.bind.imp λo b h q e1 f e u n=>?_);let((i,y),m,e):=WS.X5 e;let(_,a,xs,v,rfl,p,g):=mF f n m;show#[a,xs,W,p,rH g,?_];rw[Paired.length g];show e b _ .refl f _ (.int _)
end
end L10
namespace LD
open PySem PyProof.Rows L2 L3 L10
section
variable{Y:Xu}{w:XQ}{A:XJ}{E:WY->W9->Prop}{s:W9}
def Kv{d:M}{o:Obj}{es:Array Y3}{a:Nat}{Q:J->W9->Prop}(nd:(d==Ys)=U)(g:s.heap.get? d=R o)(c:o.ExactDict)(e:o.data=.dict es a)
  (q:Q (.ref s.heap.objs.size) {s with heap:=s.heap.push {cls:=.type "dict_keyiterator",data:=.fields #v[.ref d,.int 0 0,.int es.size 0,.int a 0]}}):wpAny (model Y w) A (pyIter (.ref d)) Q E s:=by
 let ty:s.TypeIs (.ref d) "dict":=#[o,g,c.1];show wpAny_pyIter_slot ty F.slot_dict_iter (Yq F.slot_dict_iter ty F.entry_dict_iter ?_ (F.args_dict_iter_1 _));unfold XN.«dict.__iter__» XN.Dict.dictSlotNone;show lD (lD (abx ty (W6 ?_)));show wpAny _ _ (XN.Dict.showsAll d>>=_) _ _ s;ext XN.Dict.showsAll;rw[a4 (by rw[nd];show Xp)];show lD (W6 (lD (YV g e (lD (aat g e ?_)))));show lD (X9 (W6 #[_,W,"dict_keyiterator",_,#[_,b5 _ W,W],F.slot_dict_keyiterator_next.lookup,?_]))
 simpa [rawInt]using q
def Lw{a d:M}{o:Obj}{es:Array Y3}{i h:Nat}{x:Y3}{Q:I J->W9->Prop}(b:s.heap.IsKeyIter a d i es.size h)(g:s.heap.get? d=R o)(e:o.data=.dict es h)(m:es[i]?=R x)
  (q:∀c,c.IsKeyIter a d (i+1) es.size h->Heap.SameBut a s.heap c->Q (R x.key) {s with heap:=c}):wpAny (model Y w) A (pyNext (.ref a)) Q E s:=by
 let(t,j,n,f):=id b;ext pyNext;show lD (ab8 (Yk (name:=Str.ofString "__next__") b.typeIs F.slot_dict_keyiterator_next (Yq F.slot_dict_keyiterator_next b.typeIs F.entry_dict_keyiterator_next ?_ (F.args_dict_keyiterator_next_1 _))));show lD (W6 (lD (lD ?_)));show lD (Zp b.typeIs (W6 (lD (akl j f ?_))));let l:XN.Dict_items.ownsTuple "dict_keyiterator"=U:=by decide
 simp only[l,YF,if_false];show wpAny _ _ (if(WY.ref d==WY.none)=S then _ else _) _ _ s;rw[a4 (show¬((WY.ref d==WY.none)=S)from Xp)];show lD (W6 (lD (YV g e ?_)));rw[a4 (by simp)];show lD (W6 (lD (aat g e ?_)));rw[a4 (by simp)];show W6 ?_;simp only[show¬((i:Int)<0)from by ext,if_false,Yo,m];show lD (lD (Zp b.typeIs (W6 ?_)));show lD (afC b.typeIs ?_);show wpAny _ _ (setField (.ref a) 1 (rawInt ((i:Int)+1))>>=_) _ _ s;show lD (YS j f (by simp) ?_)
 let k2:(s.heap.update a (Obj.mapFields (·.setIfInBounds 1 (rawInt ((i:Int)+1))))).IsKeyIter a d (i+1) es.size h:=
  #[_,b9 _ j (cv (cn f _)),(Obj.cls_mapFields ..).trans n,by rw[cn f];simp[rawInt]]
 show lD (Yp (lD (afC (s:={s with heap:=s.heap.update a (Obj.mapFields (·.setIfInBounds 1 (rawInt ((i:Int)+1))))}) k2.typeIs ?_)));show wpAny _ _ (pure x.key) _ _ _;show W6 (W6 #[_,W,W6 (q _ k2 (Heap.SameBut.update ..))])
def Q3{h d:M}{o:Obj}{es:Array Y3}{i n:Nat}{Q:I J->W9->Prop}(u:A.handled=P)(f:s.heap.IsKeyIter h d i es.size n)(g:s.heap.get? d=R o)(e:o.data=.dict es n)(r:es.size<=i)
  (q:∀c,Heap.ExtBut h s.heap c->Q P {s with heap:=c}):wpAny (model Y w) A (pyNext (.ref h)) Q E s:=by
 let(t,l,v,j):=id f;ext pyNext;show lD (ab8 (Yk (name:=Str.ofString "__next__") f.typeIs F.slot_dict_keyiterator_next (Yq F.slot_dict_keyiterator_next f.typeIs F.entry_dict_keyiterator_next ?_ (F.args_dict_keyiterator_next_1 _))));show lD (W6 (lD (lD ?_)));show lD (Zp f.typeIs (W6 (lD (akl l j ?_))));let p:XN.Dict_items.ownsTuple "dict_keyiterator"=U:=by decide
 simp only[p,YF,if_false];show wpAny _ _ (if(WY.ref d==WY.none)=S then _ else _) _ _ s;rw[a4 (show¬((WY.ref d==WY.none)=S)from Xp)];show lD (W6 (lD (YV g e ?_)));rw[a4 (by simp)];show lD (W6 (lD (aat g e ?_)));rw[a4 (by simp)];show W6 ?_;simp only[show¬((i:Int)<0)from by ext,if_false,Yo,Array.getElem?_eq_none r];show lD (lD (Zp f.typeIs (W6 ?_)));show wpAny _ _ (setField (.ref h) 0 .none>>=_) _ _ s;show lD (YS l j (by simp) ?_);show wpAny _ _ (newExc (.type "StopIteration") []>>=_) _ _ _;simp only[newExc,newTuple];show lD (lD (X9 ?_ (by size_fits)));show lD (m:=firstArgMember _ _) (abG (a:=WY.none) (by first|rfl|(simp only[firstArgMember];rfl)) ?_);show X9 ?_ (by size_fits);simp only[raiseNew];show lD (amh ?_);rw[show A.in1.handled=P from u];show lD (W6 (wpAny_throw ?_));show lD (aaf (T:= "StopIteration") (b:=S) #[_,b5 _ W,W] aki ?_);show W6 (q _ (((Heap.SameBut.update ..).extBut.push _).push _))
end
theorem ra{α a:Type}{R:α->a->Prop}:∀{xs:G α} {ys:G a} {i:Nat} {x:α},Paired R xs ys->xs[i]?=cL x->∃y,ys[i]?=cL y/\R x y
 |_,_,_,_,.nil,e=>by simp at e
 |_,_,0,_,.cons h _,e=>by simp at e;subst e;show#[_,W,h]
 |_,_,i+1,_,.cons _ t,e=>by let(y,f,b):=ra (i:=i) t (by simpa using e);show#[y,by simpa using f,b]
end LD
namespace LD
open PySem PyProof.Rows L2 L3 L10
def wb(a:M)(c:G V):HO:=.ext λh=>c.length<=Xi/\∃(b:G J) (n:Nat),Vals c b/\h.get? a=R {cls:=.type "list",data:=.seq b.toArray n}
def Uo{P:Xu}{w:XQ}{H H':Hp}{h:Heap}{a:M}{c:G V}(o:ObjOk P w H' h a (.lst c)):ObjOk P w H h a (wb a c):=by let(z,b,n,r,g):=o;show#[#[z,b,n,r,g],#[_,g],?_];rintro f e ⟨z,b,n,r,g⟩ k;show#[z,b,n,r,k _ g]
theorem OZ{P:Xu}{w:XQ}{H H':Hp}{h:Heap}{a:M}{b:G V}(o:ObjOk P w H h a (wb a b)):ObjOk P w H' h a (.lst b):=o.1
def Vk(a:M)(c:G V):It:=
 #[λi H=>H a=R (wb a c)/\i<c.length,λi H x b=>b=H/\c[i]?=R x,λi H=>H a=R (wb a c)/\c.length<=i]
theorem Ku{P:Xu}{w:XQ}{K:CL}{T:Xx}(a l:W7)(D:bg V):Turn P w K T (Vk a D) [l] l (λi h=>h.IsListIter l a i) where
 mem:=by simp
 obj:=λi h f b m=>by
  let e:b=l:=by simpa using m
  subst e;let(o,e,c,d):=f;show#[o,e,λv z=>by rw[d]at z;ext z]
 keep:=λi h t f k=>f.at λo e=>k l (by simp) o e
 item:=by intro X C y F R i j s O H E I q f A;subst C y F;let(B,hi):=A;let((z,S,n,r,g),_,_):=(show ObjOk X.prog X.w H s.heap a (wb a D)from I.Yn a _ B);obtain⟨x,Q⟩:∃x,D[i]?=cL x:=#[D[i],Xm hi];let(u,Z,Y):=r.get Q;let(N,M,f2,L,J,G):=q l (by simp);show aeU f #[_,g,W,n,W] (by simpa using Z) λt p U=>?_;let I1:Inv X j O H {s with heap:=t}:=I.turned (t':=s.toks) (λb o m e=>(U.2 b m).trans e) N M L J G;let(o,e,c,d):=id p;show#[u,W,BZ (s:={s with heap:=t}) e c d () #[x,H,I1,Y,#[W,Q],p,λb m=>(q b m).1]]
 done:=by intro X C y F R i j s O H E I q f A;subst C y F;let(B,hi):=A;let((z,S,n,r,g),_,_):=(show ObjOk X.prog X.w H s.heap a (wb a D)from I.Yn a _ B);let(N,M,f2,L,J,G):=q l (by simp);let hl:=r.length;show afu (I.ok.hd R) f #[_,g,W,n,W] (by simp;ext) λt eb=>#[W,I.turned (t':=s.toks) (λb o m e=>eb b o m e) N M L J G]
 self:=λ_ _ _ _ _ f h=>afv f h
def M4(f:TE):TI:=λe H R=>f e H λx b=>∃a g,x=.ref a/\b a=cL (.lst g)/\R (Vk a g) (aR b a (wb a g))
def NA(t:TS):TS:=λD f H=>t {nx:=λe b=>∃a g,b a=R (wb a g)/\D.nx e (aR b a (.lst g)),rt:=λv b=>∃a g,b a=R (wb a g)/\D.rt v (aR b a (.lst g)),bk:=λ_ _=>False,ct:=λ_ _=>False} f H
section
variable{X:Cx}{Y:Xx}
def xa{f:G (M×Obj)}{h:L2.St}{H:Hp}{s:W9}{a:M}{c:G V}(I:Inv X f h H s)(hd:H a=R (wb a c)):Inv X f h (aR H a (.lst c)) s:=by let o:=(show ObjOk X.prog X.w H s.heap a (wb a c)from I.Yn a _ hd);let((z,i,n,r,g),_,_):=id o;show I.write (x:=a) (e:=a) (o:=.lst c) (t':=s.toks) (h':=s.heap) (by rw[hd];trivial) (.inl W) (λb u _ e=>e) #[_,g] (OZ o)
def pi_pinL{l:Xx}{p:TE}(F:PE X l p):PI X Y l (M4 p):=by
 intro i s A H R I h;show bU (F i s A H _ I h) λv f #[x,y,m,B,C]=>?_;let(a,L,e,j,q):=C;subst e;ext B;let E:ObjOk X.prog X.w y f.heap a (.lst L):=m.Yn a _ j;let(z,J,n,r,g):=id E;show ZS #[_,g,W,n,W] ?_;let k:∀b o,f.heap.get? b=cL o->(f.heap.push {cls:=.type "list_iterator",data:=.fields #v[.ref a,.int 0 0]}).get? b=cL o:=λb o e=>b3 _ e;let t:=m.kept (t':=f.toks) k;let I3:=t.write (x:=a) (e:=a) (o:=wb a L) (t':=f.toks) (h':=f.heap.push {cls:=.type "list_iterator",data:=.fields #v[.ref a,.int 0 0]}) (by rw[j];trivial) (.inl W) (λb u _ e=>e) #[_,k _ _ g] (Uo (show ObjOk X.prog X.w y _ a (.lst L)from t.Yn a _ j));show#[f.heap.objs.size,[f.heap.objs.size],_,_,_,W,I3,Ku a _ L,#[_,b5 _ W,W,W],λb G=>?_,q];let e:b=f.heap.objs.size:=by simpa using G
 subst e;let N:=m.Yn.fresh (Xd f.heap.objs.size);show m.adS (Xd _) ?_;rw[ar (λz=>by rw[z,j]at N;ext N)];show N
def ps_unpL{st:YL}{t:TS}(h:PS X st t):PS X st (NA t):=by
 intro e s j H D I w;show bU (h e s j H _ I w) λf m q=>?_;cases f with
 |next=>let(b,l,i,a,n,g,q):=q;show#[b,_,xa i g,q]
 |brk=>let(_,_,_,q):=q;show q.elim
 |cont=>let(_,_,_,q):=q;show q.elim
 |ret u=>let(v,b,l,i,r,a,n,g,q):=q;show#[v,b,_,xa i g,r,q]
end
def lstI(a:aK):SV->I (Nat×G SV)
 |.rf i=>match a[i]? with
  |some (.lst xs)=>R (i,xs)
  |_=>P
 |_=>P
section
variable{B O O':bB}{K:CL}{E:XK}{H H' U N:Hp}{S T Z X:bg W7}{ω Q ω1 Y:aK}{P:L2.St}{ρ:aP}{v:V}{a:W7}{φ:Heap->Prop}
def Mi{x:SV}{i:Nat}{xs:G SV}(s:StoOk B K H S ω)(b:ZA (ow B S ω) K H S v x)(h:lstI ω x=R (i,xs)):ω[i]?=R (.lst xs)/\∃a k,S[i]?=R a/\v=.ref a/\H a=R (.lst k)/\Zb (ow B S ω) K H S k xs:=by
 cases x with
 |fz d=>ext h
 |tp l=>ext h
 |rf j=>
  let(a,m,rfl):=b;unfold lstI at h;dsimp only at h;cases q:ω[j]? with
  |none=>rw[q]at h;ext h
  |some c=>
   rw[q]at h;cases c with
   |lst g=>let z:=Xj h;ext z;let(ws,f,e):=s.cel i a _ m q;show#[q,a,ws,m,W,f,e]
   |_=>ext h
def JF(s:StoOk B K H S ω){i:Nat}{c:G V}{xs:G SV}(k:S[i]?=R a)(m:H a=R (.ext φ))(n:Zb (ow B S ω) K H S c xs):StoOk B K (aR H a (.lst c)) S (ω.set i (.lst xs)):=by
 let e:IG a (ow B S ω) H (ow B S (ω.set i (.lst xs))) (aR H a (.lst c)):=BE s k;show#[by rw[Yc];show s.len,s.nd,λb h=>mh (s.bn b h),s.ba,λj b h=>mh (s.al j b h),λj b d f l=>?_];rcases bE l with⟨rfl,rfl⟩|⟨g,l⟩
 .rw[k]at f;ext f;show#[c,ay,Paired.Z4 n λ_ _ q=>ZA.evx m e q]
 .show(s.cel j b d f l).evx m e λu q=>by rw[ar (λz=>g (s.nd j i a (by rw[<-z];show f) k))];show q
def Im{i:Nat}{ws:G V}{xs ys:G SV}(c:Z[i]?=R a)(p:ω1[i]?=R (.lst xs))(e3:YB Z ω1 U Z (ω1.set i .dead) N)(e:YB Z (ω1.set i .dead) N T Q H')(m:StoOk B K H' T Q)(l:T[i]?=R a):YB Z ω1 U T (Q.set i (.lst ys)) (aR H' a (.lst ws)):=by
 let f:Lv Z ω1 a:=#[i,_,c,p,by intro z;ext z];show#[e.pre,λb o h g=>?_,λb z=>?_]
 .let j:b≠a:=λz=>g (by rw[z];show f);rw[ar j];show e.kp b o (e3.kp b o h g) λz=>g (pN z)
 .rcases Ie m l z with rfl|z
  .show .inl f
  .rcases e.lv b z with z|z
   .show .inl (pN z)
   .by_cases j:b=a
    .rw[j];show .inl f
    .cases q:U b with
     |none=>show .inr W
     |some o=>show .inl (Classical.byContradiction λn=>?_);rw[e3.kp b o q n]at z;ext z
def On{i:Nat}{c:G V}{xs:G SV}{ds:G D}(g:StoOk B K U Z ω1)(k:Z[i]?=R a)(h:ω1[i]?=R (.lst xs))(q:Zb (ow B Z ω1) K U Z c (ds.map .fz)):
  StoOk B K (aR U a (wb a c)) Z (ω1.set i .dead)/\YB Z ω1 U Z (ω1.set i .dead) (aR U a (wb a c))/\ue K (Vk a c) (ow B Z (ω1.set i .dead)) (aR U a (wb a c)) ds:=by
 let nd:(Cell.lst xs)≠.dead:=by intro z;ext z
 let m:StoOk B K (aR U a (wb a c)) Z (ω1.set i .dead):=g.pin k h nd;let e3:YB Z ω1 U Z (ω1.set i .dead) (aR U a (wb a c)):=YB.pin k h nd;let p:¬ow B Z (ω1.set i .dead) a:=g.ad0 k;let b:L3.YE (ow B Z (ω1.set i .dead)) K (aR U a (wb a c)) c ds:=zj (Zb.Za e3 q);show#[m,e3,?_];intro O' H' e t;let l:=(e a _ ay p).1;let f:=b.ev e;let u:c.length=ds.length:=b.length;show#[λj w=>#[#[l,by ext],?_],l,by ext];rintro y r ⟨rfl,A⟩;let(d,o,n):=f.afU A;show#[YN.refl _,d,o,n]
def D4{g:TG}{gt:wN}{c:TS}{b:dG}{J:It}{ds:bg D}{D:Ends}(s:IK K E g gt)(z:mJ K E c b)(s1:StoOk B K U Z ω1)(M:Zx (ow B Z ω1) K U Z P ρ)(it:ue K J (ow B Z ω1) U ds)(k:WS K E B U Z ω1 (kS B K D) (fW gt b ds ρ ω1)):C3 (λP H R=>R J H) g c D P U:=by
 show#[λi m f H'=>m=ds.length - i/\i<=ds.length/\∃X Y ρ2,YB Z ω1 U X Y H'/\StoOk B K H' X Y/\Zx (ow B X Y) K H' X f ρ2/\WS K E B H' X Y (kS B K D) (fW gt b (ds.drop i) ρ2 Y),#[_,W,XY _,Z,ω1,ρ,.refl,s1,M,k],?_];rintro i m p N ⟨rfl,hi,X,Y,ρ2,e2,s2,sl2,w2⟩;let(go,r):=it (ow B X Y) N e2.ev s2.noO;by_cases j:i<ds.length
 .let(g1,g2):=go i j
  show .inr #[g1,λf H'=>i+1<=ds.length/\∃X Y ρ2,YB Z ω1 U X Y H'/\StoOk B K H' X Y/\Zx (ow B X Y) K H' X f ρ2/\WS K E B H' X Y (kS B K D) (fW gt b (ds.drop (i+1)) ρ2 Y),λf H' #[h1,h2]=>#[ds.length - (i+1),by ext,W,h1,h2],λx H3 y=>?_];let(s3,d,hd,dv):=g2 x H3 y;let ed:ds.drop i=d::ds.drop (i+1):=by let(_,q):=W2.mp hd;rw[YC j,q]
  rw[ed]at w2;let e3:YB X Y N X Y H3:=YB.same s3;show s B p H3 X Y ρ2 x (.fz d) _ (s2.grow s3) (sl2.Za e3) dv (WS.imp (WS.bind (WS.from e3 w2)) λG I A H4 e4 s4 w3 F L=>?_);show z B F H4 I A G _ s4 L (WS.imp (WS.bind w3) λfl n l H5 e5 w u=>?_);let t:YB Z ω1 U n l H5:=e2.trans (e3.trans (e4.trans e5));cases fl with
  |nx h=>show λC o=>#[j,n,l,h,t,w,o,u]
  |ct h=>show λC o=>#[j,n,l,h,t,w,o,u]
  |bk h=>show WS.now (E:=E) w u
  |rt x=>show WS.now (E:=E) w u
 .let e:i=ds.length:=by ext
  subst e;rw[YA (Xd _)]at w2;show .inl #[r,WS.now (E:=E) s2 w2 p sl2]
def forLS(fd:cw)(gt:wN)(b:dG):dG:=λρ ω=>(fd ρ ω).bind λo ω1=>(RS.X5 ω1 (lstI ω1 o)).bind λp ω1=>(RS.X5 ω1 (aA vx p.2)).bind λds ω1=>(fW gt b ds ρ (ω1.set p.1 .dead)).bind λe Y=>match e with
 |.nx f=>.ok (.nx f) (Y.set p.1 (.lst p.2))
 |.rt x=>.ok (.rt x) (Y.set p.1 (.lst p.2))
 |_=>.bad
def sos_forL{A:TE}{g:TG}{d:TS}{fd:cw}{gt:wN}{b:dG}(hd:bT K E A fd)(k:IK K E g gt)(hb:mJ K E d b):mJ K E (NA (C3 (M4 A) g d)) (forLS fd gt b):=by
 intro B P H S ω ρ D s C w;show hd B P H S ω ρ _ s C (WS.imp (WS.bind w) λo Z ω1 U e1 y f u hu=>?_);let((i,ys),R,f):=WS.X5 f;let(ds,M,f):=WS.X5 f;let(F,a,vs,ha,rfl,g1,G):=Mi y hu R;show#[a,vs,W,g1,?_];let g3:Zb (ow B Z ω1) K U Z vs (ds.map .fz):=by rw[<-vq M];show G
 let(L,e3,it):=On y ha F g3;let na:¬ow B Z (ω1.set i .dead) a:=y.ad0 ha;show D4 k hb L ((C.Za e1).Za e3) it ?_;dsimp only at f;cases qr:fW gt b ds ρ (ω1.set i .dead)with
 |bad=>rw[qr]at f;show f.elim
 |er x l=>rw[qr]at f;show λc dx T H' e r J=>f c dx T H' (e3.trans e) r J
 |ok fl l=>
  rw[qr]at f;intro T H' e r;let m:=e.kp a _ ay λz=>na (.inr z);let p:=e.pre i a ha;let bk:=Im (ws:=vs) (ys:=ys) ha F e3 e r p;let rv:=JF r p m ((Zb.Za e3 G).Za e);let I:IG a (ow B T l) H' (ow B T (l.set i (.lst ys))) (aR H' a (.lst vs)):=BE r p;cases fl with
  |nx n=>let f:WS K E B U Z ω1 (kS B K D) (.ok (.nx n) (l.set i (.lst ys))):=f;show λt q=>#[a,vs,m,f T _ bk rv t #[q.1,λj x h=>let#[v,h1,h2]:=q.2 j x h;#[v,h1,ZA.evx m I h2]]]
  |rt x=>let f:WS K E B U Z ω1 (kS B K D) (.ok (.rt x) (l.set i (.lst ys))):=f;show λv hv=>#[a,vs,m,f T _ bk rv v (ZA.evx m I hv)]
  |bk n=>show f.elim
  |ct n=>show f.elim
end
end LD
namespace L10
open PySem PySem.Spec PyProof.Rows L2 L3
def Pm:D->D->I RV:=fI λi j=>i+j
def Ng:R2:=VU λi j=>i+j
theorem IZ{X:Cx}:UB X .Add Ng:=Qp
def Cu{K:CL}:kZ K Ng Pm:=by intro O H x y h f g Q n b a e q;let(i,j,rfl,rfl,rfl):=wo e;ext b;ext a;show#[_,_,W,W,q.at (.int _)]
end L10
namespace L4
open PySem PySem.Spec PyProof.Rows L2 L3
def Oa(k:XK)(i:Nat)(d g:TS):TS:=λD f H=>d D f H/\∀c j H1,k c j H1->∀(e:M) (a:Obj),H1 e=P->a.cls=c->a.dict=j->ae0 a=S->
 g {nx:=λb h=>D.nx (b.set i P) h,rt:=D.rt} (f.set i (R (.ref e))) (aR H1 e (.frz a (.own e)))
def LI{X:Cx}{body V:G YL}{b0:YL}{tb ts:TS}{E2:XK}{U:M}{x n:Str}{i:Nat}{np al5 pos:Pos}{mU:G J}
  (hex:X.ex=[]) (hN:X.N.Nodup) (cY:X.stack=X.env::X.outer) (hfr:X.env.frame=R X.env.locals) (hg:Gl X x) (hm:X.mg x=R (.ref U)) (hU:z7 X.K U mU) (hbU:mU.contains (.type "BaseException")=S)
  (hi:X.N[i]?=R n) (d:X.env.kindOf n=R .local) (hb:∀l σ,So ((Cx.pinned X l).abc (uw (Cx.pinned X l) σ E2)) body σ tb) (hs:∀l e,PSs (Cx.marked (Cx.pinned X l) e) (b0::V) ts)
  (hE:∀c dx H,E2 c dx H->∃C m,c=.ref C/\z7 X.K C m/\(WY.ref C::m).contains (.ref U)=S) (hdb:(x==("__debug__":Str))=W3:=by decide):
  PS X (.Try body [.ExceptHandler (R (.Name x np)) (R n) (b0::V) al5] [] [] pos) (Oa E2 i tb ts):=by
 intro pins s σ H D I #[h,hc];let IY:=JU I;let Y:(Cx.pinned X (X.pn++pins)).ex=[]:=hex;show wpAny_Try_except (wpAny_mono (hb (X.pn++pins) σ [] s H D (IY.abc _) h) (λf s1 hf=>?_) (λv s1 hx=>?_))
 .let hf:=SP.aah hf
  cases f with
  |next=>let(a,H1,g,B):=hf;show aar #[a,H1,gP I.ok g,B]
  |brk=>let(a,H1,g,B):=hf;show#[a,H1,gP I.ok g,B]
  |cont=>let(a,H1,g,B):=hf;show#[a,H1,gP I.ok g,B]
  |ret u=>let(v,a,H1,g,r,B):=hf;show#[v,a,H1,gP I.ok g,r,B]
 .let(H1,e,c,dx,a0,T,rfl,g,F,L,aT,ne,nT,q):=hx
  let(C,mC,hcC,(n1,B,N1,b1,d1,t1,u1,a1,l1,x1,i0,i1,i2,i3,i5,id1,kC),hup):=hE c dx H1 q;let(n2,q2,N2,b2,d2,t2,u2,a2,l2,x2,j0,j1,j2,j3,j5,id2,kU):=hU;let fr:X.A.frames=R (X.env::X.outer):=by rw[<-cY];show I.ok.frames
  let ff:s1.heap.FunFrames X.base (X.env::X.outer):=by rw[<-cY];show g.stack
  show IT fr ff hfr F λh2 T2 z2 F2 L2'=>?_
  let I2:L2.Inv (Cx.pinned X (X.pn++pins)) [] σ H1 {s1 with heap:=h2}:=wV g (λb=>b=e\/b=T) Y (λp hp y=>y.elim (L.nP p hp) (aT.nP p hp))
   (λb o z t nf=>L2'.keep b o z (λy=>t (.inl y)) (λy=>t (.inr (Xj y).symm)) (by rw[<-cY];show nf))
   (λb o z t=>L2'.slot b o z (λy=>t (.inl y)) (λy=>t (.inr (Xj y).symm))) L2'.here
   (λb y=>y.elim (λy=>by rw[y];show L.n0) (λy=>by rw[y];show aT.n0)) (λy=>y.elim (λy=>L.nL y.symm) (λy=>aT.nL y.symm))
   (λy k z w=>w.elim (L.nC y k z) (aT.nC y k z)) (λb y=>y.elim (λy=>by rw[y];show ne) (λy=>by rw[y];show nT))
  let A:Apart (Cx.pinned X (X.pn++pins)) T2:=sr g Y (ck z2);let nT2:H1 T2=P:=g.Yn.fresh z2;show wpAny_handleBy_cons (codeAny_handlers_test (i9 (X:=Cx.marked (Cx.pinned X (X.pn++pins)) e) (rD I2 e) hg hm ?_ hdb)) (by nofun);let F2':=F2;let(ob,fs,qe,cE,dE,dF,_):=F2';show GB (I2.kIn _ _ kC) (I2.kIn _ _ kU) qe (cE.trans hcC) hbU hup ?_;show codeAny_handlers_suite_as (Rp F2 λh3 F3 j hT3=>?_);let neT:e≠T2:=λy=>by let(_,_,_,_,_,_,_,_,w,_):=F2;show w y.symm
  let I3:L2.Inv (Cx.pinned X (X.pn++pins)) [] σ H1 {s1 with heap:=h3}:=wV (s:={s1 with heap:=h2}) I2 (λb=>b=T2) Y (λp hp y=>A.nP p hp y)
   (λb o z t _=>(j b t).trans z) (λb o z t=>#[o.slots,(j b t).trans z])
   (λb o z=>(Classical.em (b=T2)).elim (λy=>by rw[y];show hT3) (λy=>#[o,(j b y).trans z])) (λb y=>by rw[y];show A.n0) (λy=>A.nL y.symm) (λy k z w=>A.nC y k z w) (λb y=>by rw[y];show nT2)
  let I4:=Cq I3 L.nP ((j e neT).trans qe) ne L.n0 L.nL L.nC;show mw (X:=Cx.marked (Cx.pinned X (X.pn++pins)) e) (rD I4 e) hN hi (.inl d) (v:=.ref e) W (λs4 I5=>?_) (.inr d);let w:=hc c dx H1 q e ob ne cE dE (by ext ae0;rw[dF]);show wpAny_mono (hs (X.pn++pins) e [] s4 _ _ _ I5 w) (λf s5 hf=>?_) (λy s5 z=>z.elim);cases f with
  |next=>let(N,H2,I6,Q):=hf;show t6 (rJ IY.ok I6) hN hi d λs6 I7=>#[_,_,gP I.ok I7,Q]
  |brk=>let(N,H2,I6,Q):=hf;show Q.elim
  |cont=>let(N,H2,I6,Q):=hf;show Q.elim
  |ret u=>let(v,N,H2,I6,r,Q):=hf;show t6 (rJ IY.ok I6) hN hi d λs6 I7=>#[v,_,H2,gP I.ok I7,r,Q]
end L4
namespace L9
open PySem PySem.Spec PyProof.Rows L2 L3
def Bc:G V->Hp->VK->Prop:=λxs H Q=>∃a:Int,xs=[.int a]/\∀r,H r=P->Q (.ref r) (aR H r (.rng 0 a))
def Cj{X:Cx}:Zf X (.type "range") Bc:=by intro a s g H xs i Q I r h;let(j,rfl,q):=h;let(u,rfl,f):=im r;let(t,rfl):=f;show call_range_1 #[.ref s.heap.objs.size,_,I.laid (λb o e=>b3 _ e) (Xd _) (show ObjOk X.prog X.w _ _ _ (.rng 0 j)from#[_,_,_,b5 _ W]),W,q _ (I.Yn.fresh (Xd _))]
def zP:G V->Hp->VK->Prop:=λxs H Q=>∃(r:M) (n:Nat),xs=[.ref r]/\H r=R (.rng 0 n)/\n<=1000/\∀l,H l=P->Q (.ref l) (aR H l (.lst ((Xn n).map λ(i:Nat)=>V.int i)))
theorem F8{α e:Type}{R:α->e->Prop}:∀{xs:G α} {ys:G e},xs.length=ys.length->(∀(i:Nat) (x:α) (y:e),xs[i]?=cL x->ys[i]?=cL y->R x y)->Paired R xs ys
 |[],[],_,_=>.nil
 |[],_::_,h,_=>by ext h
 |_::_,[],h,_=>by ext h
 |x::r,y::t,h,j=>.cons (j 0 x y W W) (F8 (Nat.succ.inj h) λi a b g f=>j (i+1) a b g f)
def Dr{X:Cx}(C:X.calm=S):Zf X (.type "list") zP:=by
 intro g s G H xs J Q I r h;let(p,n,rfl,A,N,q):=h;let(u,rfl,l):=im r;ext l;let(t,u,v,o):=(show ObjOk X.prog X.w H s.heap p (.rng 0 n)from I.Yn p _ A);show call_list_range (n:=n) (I.ok.hd C) o (small_one () () () ()) ?_ () λF K f c m e b=>?_
 .rw[amc];split<;>ext
 show#[.ref s.heap.objs.size,_,I.laid m (Xd _) (show ObjOk X.prog X.w _ F _ (.lst _)from#[?_,f.toList,c,?_,?_]),W,q _ (I.Yn.fresh (Xd _))]
 .rw[W0,XU,YQ];ext
 .show F8 (by rw[W0,XU,Yf,b.1]) λi x y a E=>?_
  rw[Xg]at a;cases z:(Xn n)[i]? with
  |none=>rw[z]at a;ext a
  |some k=>
   rw[z]at a;cases Xj a;let B:k=i:=by let(L,j):=W2.mp z;rw[aeL]at j;show j.symm
   let(t,e):=b.2 i y (by rw[<-Zo];show E);rw[e,B];show#[t,by congr 1;ext]
 .simpa using e
def RY:G D->I RV
 |[.int i]=>if 0<=i/\i<=1000 then R (.ow (aY (Xn i.toNat)))else P
 |_=>P
theorem Az{O:bB}{K:CL}{H:Hp}:∀ns:G Nat,L3.YE O K H (ns.map λ(i:Nat)=>V.int i) (aY ns)
 |[]=>.nil
 |n::r=>.cons (.int _) (Az r)
def Uh{K:CL}:A1 K (λxs H Q=>Bc xs H λv H1=>zP [v] H1 Q) RY:=by
 intro O H xs ds p Q n g e q;unfold RY at e;split at e
 .rename_i i
  split at e
  .rename_i t
   ext e;cases g with
   |cons j h=>
    ext h;ext j;show#[i,W,λr f=>#[r,i.toNat,W,by rw[ay];congr 2;ext,by ext,λl b=>?_]];show q l _ _ (λa o m=>bj b _ a o (bj f _ a o m)) ?_ ay (Az _);by_cases z:l=r
    .rw[z];show f
    .rw[ar z]at b;show b
  .ext e
 .ext e
def Sg{K:CL}{E:XK}{b:TA}{c:FA}(d:AO K E b c):EO K E (tI zP (c8 (tI Bc b) gM)) (g9 RY c):=by show EO K E (tI (λxs H Q=>Bc xs H λv a=>zP [v] a Q) b) _;show EN Uh d
end L9
namespace L10
open PySem PyProof.Rows L2 L3
def Gx(c:cw):cw:=λe b=>(c e b).bind λx a=>match x with
 |.fz .none=>.ok (.fz (.bool S)) a
 |.rf _=>.ok (.fz (.bool U)) a
 |_=>.bad
def GZ{K:CL}{E:XK}{to:TE}{c:cw}(n:bT K E to c):bT K E (DC (λx y H Q=>y=.Zk/\Q (.bl (decide (x=.Zk))) H) to (tC .Zk)) (Gx c):=by
 intro B l H α o p Q s m w;show n B l H α o p _ s m (w.bind.imp λx b h g e1 j e v f=>?_);show V.Zk=.Zk/\Q (.bl (decide (v=.Zk))) g;show#[W,?_];cases x with
 |fz d=>
  cases d with
  |none=>let f:L3.DV (ow B b h) K g v .none:=f;ext f;show e b g YB.refl j _ (.bl S)
  |_=>show e.elim
 |rf i=>let(a,_,rfl):=f;show e b g YB.refl j _ (.bl U)
 |tp _=>show e.elim
end L10
namespace LD
open PySem PySem.Spec PySem.W PyProof.Rows L2
section
variable{Y:Xu}{w:XQ}{A:XJ}{E:WY->W9->Prop}{s:W9}{d:W7}{o:Obj}{es:Array Y3}{Z:Nat}
theorem HH(r:A.handled=P)(I d:M)(j:d≠I)(e:o.data=.dict es Z):Walks Y w A I [I,d] [I] es.size (λi v=>∃x,es[i]?=R x/\v=x.key) (λi h=>h.IsKeyIter I d i es.size Z/\h.get? d=R o) where
 sub:=λb f=>by simp at f;simp[f]
 frame:=λ_ _ _ a q=>#[a.1.at λo e=>q I (by simp) o e,q d (by simp) o a.2]
 item:=λi s Q E t a g=>by
  let n:es[i]?=R es[i]:=by simp[t]
  show Lw a.1 a.2 e n λm k2 p=>?_;show g _ m s.toks #[_,n,W] #[k2,p.extBut d o j a.2] λb o f e=>p.extBut b o (λh=>f (by simp[h])) e
 done:=λs Q E a g=>Q3 r a.1 a.2 e (Xd _) λm l=>g m s.toks λb o f e=>l b o (λh=>f (by simp[h])) e
 self:=λ_ _ _ _ a g=>wpAny_pyIter_keyiter a.1 g
theorem Og(nd:(d==Ys)=U)(c:o.ExactDict)(e:o.data=.dict es Z):KdlSrc Y w "dict" d d es.size (λi v=>∃x,es[i]?=R x/\v=x.key) (λh=>h.get? d=R o) where
 type:=λ_ g=>#[o,g,c.1]
 there:=λ_ g=>#[b4 g,b4 g]
 keep:=λ_ _ g b=>b d (.inl W) o g
 notList:=by decide
 notTuple:=by decide
 hint:=λ_ _ _ _ g a=>kdl_hint_dict #[o,g,c.1] a
 iter:=λ_ _ f g=>#[_,_,(λ_ _ a=>Kv nd g c e a),HH f _ d (Xy (b4 g)) e,#[#[_,b5 _ W,W,W],b3 _ g]]
end
def rKeysL:G V->Hp->VK->Prop:=λxs H Q=>∃(a:M) (b:G (KD×M×V)),xs=[.ref a]/\H a=R (DkO a b)/\∀l,H l=P->Q (.ref l) (aR H l (.lst (b.map λx=>V.ref x.2.1)))
def call_keysL{X:Cx}(A:X.calm=S):Zf X (.type "list") rKeysL:=by
 intro l s G H xs K Q I r h;let(a,j,rfl,T,q):=h;let(u,rfl,p):=im r;ext p;let(((z,n,_),o,es,M,e1,e2,e3,e4),_):=(show ObjOk X.prog X.w H s.heap a (DkO a j)from I.Yn a _ T);let v:es.size=j.length:=by rw[e4.length,Yf]
 show kdl_call (Og n e2 e3) (I.ok.hd A) e1 () λF L g c t e f=>?_;show#[.ref s.heap.objs.size,_,I.laid t (Xd _) (show ObjOk X.prog X.w _ F _ (.lst _)from#[by rw[W0];show z,g.toList,c,L9.F8 ?_ λi x y b E=>?_,by simpa using e]),W,q _ (I.Yn.fresh (Xd _))]
 .rw[W0,<-v,<-f.1];show(Yf (xs:=g)).symm
 .rw[Xg]at b
  cases N:j[i]? with
  |none=>rw[N]at b;ext b
  |some k=>rw[N]at b;cases Xj b;let(x,C,rfl):=f.2 i y (by rw[<-Zo];show E);let(J,m,B):=ra e4 N;rw[Zo,C]at m;cases Xj m;show B.2.1
end LD
namespace L10
open PySem PyProof.Rows L2 L3 LD
def D8{O a:bB}{K:CL}{H H':Hp}{α:G M}(e:Ev O H a H'):∀{xs:G (KD×M×V)} {c:G (D×D)},PrD O K H xs c->Zb a K H' α (xs.map λx=>V.ref x.2.1) (c.map λkv=>SV.fz kv.1):=by
 intro _ _ b
 induction b with
 |nil=>show .nil
 | @cons _ _ _ _ r t f=>show .cons (DV.ev e r.2.1) (f)
def j8(fd:cw):cw:=λe b=>(fd e b).bind λo a=>(RS.X5 a (iz a o)).bind λp a=>.ok (.rf a.length) (a++[.lst (p.2.map λkv=>SV.fz kv.1)])
def yM{K:CL}{E:XK}{f:TE}{fd:cw}(hd:bT K E f fd):bT K E (tI rKeysL (c8 f gM)) (j8 fd):=by intro B j H α A C Q s n w;show hd B j H α A C _ s n (w.bind.imp λo m h y e1 g b u q=>?_);let((i,N),p,b):=WS.X5 b;let(_,a,xs,L,rfl,v,t):=mF g q p;show#[a,xs,W,v,λl r=>?_];show jO g r b λe=>#[_,ay,D8 e.ev t]
end L10
namespace LD
open PySem PySem.Spec PySem.W PyProof.Rows L2
section
variable{prog:Xu}{w:XQ}{K:Type}[DecidableEq K]{knd:akk prog w K}{A:XJ}{E:WY->W9->Prop}{s:W9}
def Mu{nm:String}{a b:W7}{xs ys:bg (K×W7×WY)}{Q:Bool->W9->Prop}(O:knd.room A)(d:(a==Ys)=W3)(S:(b==Ys)=W3)(Y:s.heap.DictOfH knd a xs)(X:s.heap.DictOfH knd b ys)(R:xs.length=ys.length)(N:∀x∈xs,∃n t u p,x.2.2=.int n t/\atKey ys x.1=cL (p,.int n u))(h:Q WZ s):wpAny (model prog w) A (XN.Dict.samePairs nm a b) Q E s:=by
 let(oa,es,ep,l,_,i,H,T,h6):=Y;let(Z,fs,fp,C,_,B,o,U,I):=X;let L:es.size=xs.length:=ada H;let J:fs.size=ys.length:=ada o;unfold XN.Dict.samePairs XN.Dict.showsAll;rw[a4 (by rw[d];show Xp),a4 (by rw[S];show Xp)];show lD (W6 (lD (W6 ?_)));show lD (YV l i ?_);dsimp only;show lD (YV C B ?_);rw[a4 (by rw[L,J,R];simp)];show lD (aat l i (lD ?_));rw[Std.Legacy.Range.forIn_eq_forIn_range'];simp only[Std.Legacy.Range.size,adM,Nat.add_sub_cancel,Nat.div_one];show ahZ _ (λf q m=>m=s/\q=(Ld,⟨⟩)/\∀x∈f,x<es.size) _ ?_ ?_ _ _ #[W,W,λx g=>by let:=List.mem_range'_1.mp g;ext]
 .rintro x f q m ⟨rfl,rfl,hr⟩
  let P:=hr x W8;obtain⟨⟨k,c,v⟩,F⟩:∃y,xs[x]?=cL y:=#[xs[x]'(),Xm _];let g:es[x]?=cL #[knd.hash k,.ref c,v]:=by rw[entry_at H x,F];rfl
  let hm:=XF F;show lD (YV l i ?_);rw[g];let(n,t,u,p,rfl,e2):=N _ hm;show lD (Yp (lD (wpAny_dictFind_heap O (T _ hm) C B o U I (λM=>?_) λj r G=>?_)))
  .rw[atKey_none_of_get M]at e2;ext e2
  .let e:=atKey_of_get I G;rw[e2]at e;ext e;show lD (YV C B ?_);rw[entry_at o j,G];show Yp (SeqAt.EqAt.int_int n t n u prog w _ _ ?_);rw[dN];show wpAny _ _ (if(!WZ)=WZ then _ else _) _ _ _;rw[a4 ()];show lD (aat l i ?_);rw[a4 (by simp)];show W6 #[W,W,λx g=>hr x (Xb _ g)]
 .rintro q m ⟨rfl,rfl,_⟩;show W6 h
end
def NQ(K:CL):R2:=λx y H Q=>∃a b xs ys,x=.ref a/\y=.ref b/\H a=R (DkO a xs)/\H b=R (DkO b ys)/\mi K H xs/\mi K H ys/\xs.length=ys.length/\(∀z∈xs,∃n,z.2.2=.int n/\kM ys z.1=R (.int n))/\Q (.bl U) H
def op_ddeq{X:Cx}(M:X.A.units+64<cLine):OpR X (YM .NotEq) (NQ X.K):=by
 intro B s U H x y v u Q I G E h;let(a,b,xs,Y,rfl,rfl,S,R,k1,k2,O,L,q):=h;ext G;ext E;let(_,ha,C,w,f):=mS I S k1;let(_,P,i,r,o):=mS I R k2;show wpAny_richCompare_same_room (op:=.NotEq) f.typeIs o.typeIs adb (Yq adb f.typeIs PySem.F.entry_dict_ne ?_ (PySem.F.args_dict_ne_2 _ _)) ();show wpAny _ _ (XN.Dict.dictSlotArgs "__ne__" #[[.ref a,.ref b],[]]>>=_) _ _ s;show lD ?_;ext XN.Dict.dictSlotArgs;show lD (abx f.typeIs ?_);show wpAny _ _ (pure (WY.ref a,WY.ref b)) _ _ s;show W6 (lD (aaf (T:= "dict") o.typeIs PySem.F.sub_dict_dict ?_));simp only[abw,YF,if_false];show lD (W6 (lD (W6 (lD (Mu (kE M) ha P f o (by rw[<-w.length,<-r.length];show O) ?_ (W6 #[_,W,λx=>(nomatch x),#[.bl W3,H,I,W,q]]))))));let all:∀{l:bg (KD×W7×V)} {m:bg (KD×W7×WY)},RX l m->(∀x∈l,x∈xs)->∀x∈m,∃n t u p,x.2.2=.int n t/\atKey i x.1=cL (p,.int n u):=by
  intro l m q
  induction q with
  |nil=>show λ_ _ h=>nomatch h
  | @cons c d _ _ hq t A=>
   intro g x j;rcases Xt.mp j with e|j
   .subst e;let(n,e1,e2):=L c (g c W8);let e3:=se (k:=c.1) r;rw[e2]at e3;let(z,e4,u,e5):=aaa.some_of e3;let((p,_),N,rfl):=ZR.mp e4;let(e6,_,e7):=hq;rw[e1]at e7;let(t,e7):=e7;ext e5;show#[n,t,u,p,e7,by rw[<-e6];show N]
   .show A (λy J=>g y (Xb _ J)) x j
 show all w λ_ h=>h
end LD
namespace L10
open PySem PyProof.Rows L2 L3 LD
def D0:D->I D->Bool
 |.int n,R (.int m)=>decide (n=m)
 |_,_=>U
def yd(xs ys:G (D×D)):Bool:=decide (xs.length=ys.length)&&xs.all λz=>D0 z.2 (dC ys z.1)
def F1{d:D}{o:I D}(h:D0 d o=S):∃n,d=.int n/\o=R (.int n):=by
 unfold D0 at h;split at h
 .cases a7 h;show#[_,W,W]
 .ext h
def tO(c fb:cw):cw:=λe f=>(c e f).bind λx b=>(fb e b).bind λy a=>(RS.X5 a (iz a x)).bind λp a=>(RS.X5 a (iz a y)).bind λr a=>if yd p.2 r.2=S then .ok (.fz (.bool U)) a else .bad
def F9{K:CL}{E:XK}{ta tb:TE}{fa fb:cw}(ha:bT K E ta fa)(hb:bT K E tb fb):bT K E (DC (NQ K) ta tb) (tO fa fb):=by
 intro B L H α ω ρ Q s M w;show ha B L H α ω ρ _ s M (w.bind.imp λx C A H1 e1 P O v X=>?_);show hb B L H1 C A ρ _ P (M.Za e1) (O.bind.imp λy o r N e2 F f u Y=>?_);let((i,xs),S,f):=WS.X5 f;let((j,ys),R,f):=WS.X5 f;dsimp only at f;split at f
 .rename_i p
  let p:=abe.mp p;let Z:=a7 p.1;let hk:=λz T=>F1 (Yh.mp p.2 z T);let(_,a,as,_,rfl,g1,I):=mF F (X.Za e2) S;let(_,b,bs,_,rfl,f1,J):=mF F Y R;show#[a,b,as,bs,W,W,g1,f1,rH I,rH J,by rw[I.length,J.length];show Z,?_,f o N YB.refl F _ (.bl W3)];let all:∀{l:bg (KD×W7×V)} {m:bg (D×D)},PrD (ow B o r) K N l m->(∀x∈m,x∈xs)->∀z∈l,∃n,z.2.2=.int n/\kM bs z.1=cL (.int n):=by
   intro l m q
   induction q with
   |nil=>show λ_ _ h=>nomatch h
   | @cons c d _ _ hq t ih=>
    intro g x G;rcases Xt.mp G with e|G
    .subst e
     let(n,e1,e2):=hk d (g d W8);rw[<-hq.1]at e2;let(v,e3,e4):=(mX (k:=x.1) J).1 _ e2;let e5:=hq.2.2;rw[e1]at e5;show#[n,?_,e3.trans ?_]
     .generalize x.2.2=y at e5;ext e5;rfl
     .ext e4;rfl
    .show ih (λy U=>g y (Xb _ U)) x G
  show all I λ_ h=>h
 .show f.elim
def Ln{k fb:cw}{d:aP}{g c a:aK}{x y:SV}{i j:Nat}{xs ys:G (D×D)}(l:k d g=.ok x c)(b:fb d c=.ok y a)(f:iz a x=R (i,xs))(e:iz a y=R (j,ys))(h:yd xs ys=S):tO k fb d g=.ok (.fz (.bool U)) a:=by ext tO;rw[l];show(fb d c).bind _=_;rw[b];show(RS.X5 a (iz a x)).bind _=_;rw[f];show(RS.X5 a (iz a y)).bind _=_;rw[e];show ax h
end L10
namespace PySem
namespace SetTable
def V8(xs:Array Nat):Prop:=xs.toList.Pairwise (·<·)
structure TI(b:Bool)(t:SetTable):Prop where
 led:t.led=b
 dm:t.dummies= #v[]
 ris:V8 t.place
end SetTable
end PySem
namespace PySem
open SetTable
section
variable{prog:Xu}{w:XQ}{K:Type}[DecidableEq K]{knd:KeyKind prog w K}{A:XJ}{E:WY->W9->Prop}{s:W9}{b:Bool}{a:W7}{es:Array (Int×WY)}
structure SetX(knd:KeyKind prog w K)(b:Bool)(h:Heap)(a:M)(es:Array (Int×J)):Prop where
 x:∃o ep t,h.get? a=R o/\o.ExactSet/\o.data=.set es ep t/\t.fits es.size=S/\TI b t
 el:ElemsOf knd es.toList
 sz:es.size<scanBound
end
end PySem
namespace PySem
namespace SetTable
structure TT(t:SetTable)(n:Nat):Prop where
 k:∃k,t.mask+1=2^k
 dm:t.dummies= #v[]
 ris:V8 t.place
 le:∀v∈t.place.toList,v<=t.mask
 sz:t.place.size=n
 few:n*5<t.mask*3
section
variable{t:SetTable}{n:Nat}{p:Probe}
structure PI(t:SetTable)(p:Probe):Prop where
 nine:p.more<=9
 jm:p.j+p.more<=t.mask
 pt:p.perturb<2^64
 dm:p.dummy=P
end
end SetTable
end PySem
namespace LD
open PySem PySem.SetTable PyProof.Rows L2 L3
section
variable{prog:Xu}{w:XQ}{E:WY->W9->Prop}
variable{A:XJ}{s:W9}
structure SetH(prog:Xu)(w:XQ)(b:Bool)(h:Heap)(a:M)(es:Array (Int×J))(ks:G (KD×M)):Prop where
 x:∃o ep t,h.get? a=R o/\o.ExactSet/\o.data=.set es ep t/\TT t es.size/\t.led=b/\t.mask<=8*es.size+8
 el:∀e∈es.toList,∃k c,(k,c)∈ks/\e.2=.ref c/\(fu prog w).is h k c
mutual
theorem Cd{h h':Heap}{x:W7}{e:Obj}(f:h.get? x=cL e)(i:∀vs n,e.data≠.seq vs n)(g:Heap.SameBut x h h'):∀(d:Xa) (v:WY) (as:bg W7),kd d=WZ->adK h v d as->adK h' v d as
 |.none,_,_,_,r=>by cases r;exact .none
 |.int _,_,_,_,r=>by cases r;exact .int _ _
 |.str _,_,_,_,r=>by cases r;exact .str _ _
 |.tuple xs,_,_,k,r=>by
  cases r with
  | @tuple a o vs n _ _ h1 h2 h3 h4=>
   have b:a≠x:=by rintro rfl;rw[f]at h1;cases h1;exact i _ _ h3
   unfold kd at k;exact .tuple ((g.2 a b).trans h1) h2 h3 (ro f i g xs _ _ k h4)
 |.bool _,_,_,h,_|.list _,_,_,h,_|.dict _,_,_,h,_=>by simp[kd]at h
theorem ro{h h':Heap}{x:W7}{a:Obj}(b:h.get? x=cL a)(f:∀vs n,a.data≠.seq vs n)(e:Heap.SameBut x h h'):∀(ds:bg Xa) (vs:bg WY) (as:bg W7),kds ds=WZ->abF h vs ds as->abF h' vs ds as
 |[],_,_,_,r=>by cases r;exact .nil
 |d::ds,_,_,k,r=>by
  cases r with
  |cons i g=>unfold kds at k;rw[WX]at k;exact .cons (Cd b f e d _ _ k.1 i) (ro b f e ds _ _ k.2 g)
end
end
end LD
namespace L2
open PySem PySem.Spec PyProof.Rows
variable{X:Cx}{a b:Xx}{Y:bg Xx}{T:Pos}{Q N:TE}
end L2
namespace CC
open PySem L2 L3 L10
def iL:Xx->Bool
 |.BinOp .. |.UnaryOp .. |.IfExp .. |.ListComp .. |.Compare .. |.Call .. |.Constant .. |.Attribute .. |.Subscript .. |.Name .. |.List .. |.Tuple .. |.BoolOp .. |.JoinedStr .. |.Dict .. =>S
 |_=>U
def kI:Xx->Bool
 |.BinOp .. |.Call .. |.Attribute .. |.Subscript .. |.Name .. =>S
 |_=>U
def Rr:Xx->Bool
 |.ListComp .. =>S
 |_=>U
def Tx:Xx->Bool
 |.Constant .. |.Attribute .. |.Subscript .. |.Name .. =>S
 |_=>U
def B2:Xx->Bool
 |.Tuple .. =>S
 |_=>U
section
variable{e o a b:Xx}{es:bg Xx}{env:Env}{Y p:Pos}{n k:Nat}
def fH(h:iL e=S):Xr (e::es) env=(U,eval e env)::Xr es env:=by ext e<;>first|rfl|ext h
def v7(h:iL e=S):Ab e:=by ext e<;>first|(intro _ _;rfl)|ext h
def uH(h:iL e=S):∀x,foldedSetIterable e env x=pure x:=by ext e<;>first|(intro _;rfl)|ext h
def KO(h:kI e=S):∀whole:Sem J,isTrue e env whole=(do let v<-whole;standAt e.pos;holding [v] (truthy v)):=by ext e<;>first|(intro _;rfl)|ext h
def AF{t}(h:(iL e&& !Rr e)=S):Zy e t n env=pure U:=by ext e<;>first|rfl|ext h
def Sm{f p}(h:iL e=S):Zy e (R (.Attribute o f p)) n env=pure U:=by ext e<;>first|rfl|ext h
def Nj(h:iL e=S):Zy e (R (.Subscript o a p)) n env=pure U:=by ext e<;>first|rfl|ext h
def fP{f:Str}(h:Tx e=S):attributeBase e f env (eval e env)=eval e env:=by ext e<;>first|rfl|ext h
def LQ(h:iL e=S):Pv e=U:=by ext e<;>first|rfl|ext h
def Je(h:kI e=S):swapsWithSole [.Tuple es k p] e n env=pure U:=by ext e<;>first|rfl|ext h
def C2(h:kI e=S):swappedStores [.Tuple es k p] e env=pure P:=by ext e<;>first|rfl|ext h
def xu(h:B2 e=S):∃l k p,e=.Tuple l k p:=by ext e<;>first|show#[_,_,_,W]|ext h
def PR(h:es.all iL=S):((backTo Y (Xr es env)).any λx=>x.1)=U:=by
 induction es with
 |nil=>rfl
 |cons e es f=>rw[YY,WX]at h;rw[fH h.1];show f h.2
def Rx(h:es.all iL=S):((backTo Y (Xr es env)).all λx=> !x.1)=S:=by
 induction es with
 |nil=>rfl
 |cons e es f=>rw[YY,WX]at h;rw[fH h.1];show f h.2
def dR(h:(e::es).all iL=S):Xr (e::es) env=(U,eval e env)::Xr es env:=by rw[YY,WX]at h;show fH h.1
def ip(h:(e::es).all iL=S):((backTo Y (Xr es env)).any λx=>x.1)=U:=by rw[YY,WX]at h;show PR h.2
def mq(h:es.all iL=S)(f:es.length<20):methodCallForm (es.length+([]:G aaP).length) (backTo Y (Xr es env)) (backToKw Y (keywordEach [] env))=S:=by ext methodCallForm;rw[Rx h,abv];show(WX _ _).mpr #[W,a5 ?_];show es.length+0+0<30;ext
def SR{q}{m:Str}(h:Tx o=S)(g:es.all iL=S)(i:es.length<20)(j:(p.endLine==q.line)=S):∃pl,eval (.Call (.Attribute o m p) es [] q) env=(do
   let C<-eval o env
   standAt p.atName
   let(f,first)<-holding [C] (getMethod C m pl)
   callWith q f first (backTo q (Xr es env)) (backToKw q (keywordEach [] env))):=by
 show#[do return(<-importBound o env).getD S,?_];show(do
  let C<-attributeBase o m env (eval o env)
  standAt p.atName
  methodCall o m p q env C (es.length+([]:G aaP).length) (backTo q (Xr es env)) (backToKw q (keywordEach [] env)))=_
 rw[fP h];unfold methodCall calleeOf methodCallPos;rw[mq g i,j];rfl
def Sw{elt g sc x}(h1:env.scope.kind=.function)(f:env.kindOf x=R .local)(d:(p.line==Y.line)=S)(c:(sc.names.any λy=>y.1==x&&(y.2==.local||y.2==.cell))=U):Zy (.ListComp elt [g] sc Y) (R (.Name x p)) n env=pure S:=by show(pure _:Sem Bool)=_;rw[show env.blockKind=.function by ext Env.blockKind;rw[h1];rfl,f];show(pure (_&&(p.line==Y.line)&& !(sc.names.any λy=>y.1==x&&(y.2==.local||y.2==.cell))):Sem Bool)=_;rw[d,c];rfl
end
def aZ{α:Type}{o:I α}{p:α->Bool}(h:o.any p=S):∃x,o=R x/\p x=S:=by
 cases o with
 |none=>ext h
 |some x=>show#[x,W,h]
def vN:Xx->I (Str×Pos)
 |.Name x p=>R (x,p)
 |_=>P
def vC:Xx->I Const
 |.Constant c _ _=>R c
 |_=>P
def T5:Xx->I (Xx×adG×Xx)
 |.BinOp a o b _=>R (a,o,b)
 |_=>P
def Si:Xx->I (Xx×G aeH×G Xx)
 |.Compare a o b _=>R (a,o,b)
 |_=>P
def wy:Xx->I (Xx×Xx×Pos)
 |.Subscript a b p=>R (a,b,p)
 |_=>P
def VP:Xx->I (I Xx×I Xx×I Xx)
 |.Slice a b c _=>R (a,b,c)
 |_=>P
def KG:Xx->I (G Xx)
 |.Tuple es _ _=>R es
 |_=>P
def Tu:Xx->I (G Xx)
 |.List es _=>R es
 |_=>P
def BQ:Xx->I (Xx×G Xx×G aaP×Pos)
 |.Call f es a p=>R (f,es,a,p)
 |_=>P
def Sq:Xx->I (Xx×Str×Pos)
 |.Attribute o x p=>R (o,x,p)
 |_=>P
def VW:Xx->I (Xx×Xx×Xx)
 |.IfExp c a b _=>R (c,a,b)
 |_=>P
def Vw:Xx->I (BoolOp×G Xx×Pos)
 |.BoolOp o es p=>R (o,es,p)
 |_=>P
def V1:Xx->I (UnaryOp×Xx)
 |.UnaryOp o a _=>R (o,a)
 |_=>P
def VG:Xx->I (Xx×G aak×Y9×Pos)
 |.ListComp e g s p=>R (e,g,s,p)
 |_=>P
def Vb:Xx->I (G (I Xx)×G Xx)
 |.Dict k v _=>R (k,v)
 |_=>P
section
variable{e:Xx}
def oY(h:vN e=R x):e=.Name x.1 x.2:=by ext e<;>ext h<;>rfl
def Eh(h:vC e=R x):∃k p,e=.Constant x k p:=by ext e<;>ext h<;>show#[_,_,W]
def K3(h:T5 e=R x):∃p,e=.BinOp x.1 x.2.1 x.2.2 p:=by ext e<;>ext h<;>show#[_,W]
def Ms(h:Si e=R x):∃p,e=.Compare x.1 x.2.1 x.2.2 p:=by ext e<;>ext h<;>show#[_,W]
def ju(h:wy e=R x):e=.Subscript x.1 x.2.1 x.2.2:=by ext e<;>ext h<;>rfl
def QB(h:VP e=R x):∃p,e=.Slice x.1 x.2.1 x.2.2 p:=by ext e<;>ext h<;>show#[_,W]
def BU(h:KG e=R x):∃k p,e=.Tuple x k p:=by ext e<;>ext h<;>show#[_,_,W]
def IP(h:Tu e=R x):∃p,e=.List x p:=by ext e<;>ext h<;>show#[_,W]
def rj(h:BQ e=R x):e=.Call x.1 x.2.1 x.2.2.1 x.2.2.2:=by ext e<;>ext h<;>rfl
def vi(h:Sq e=R x):e=.Attribute x.1 x.2.1 x.2.2:=by ext e<;>ext h<;>rfl
def Pf(h:VW e=R x):∃p,e=.IfExp x.1 x.2.1 x.2.2 p:=by ext e<;>ext h<;>show#[_,W]
def DJ(h:Vw e=R x):e=.BoolOp x.1 x.2.1 x.2.2:=by ext e<;>ext h<;>rfl
def Qv(h:V1 e=R x):∃p,e=.UnaryOp x.1 x.2 p:=by ext e<;>ext h<;>show#[_,W]
def Rz(h:VG e=R x):e=.ListComp x.1 x.2.1 x.2.2.1 x.2.2.2:=by ext e<;>ext h<;>rfl
def Ep(h:Vb e=R x):∃p,e=.Dict x.1 x.2 p:=by ext e<;>ext h<;>show#[_,W]
end
abbrev Fd:=Xu->XQ->CL->(Str->I J)->Heap->Prop
abbrev kW(lv:Nat)(x:Str)(b:G Str)(n:Nat)(F:FN):Fd:=λP w K a base=>UQ P w K a base lv x b n F
abbrev DH(lv:Nat)(x:Str)(b:G Str)(n:Nat)(F:fS):Fd:=λP w K a base=>wg P w K a base lv x b (kB K n F)
abbrev y1(b:Bool)(lv:Nat)(C x:Str)(c:G Str)(n:Nat)(F:fS):Fd:=λP w K a base=>ny P w K a base (if b then L4.lu P w else kX) lv C x c (kB K n F)
abbrev VN(lv:Nat)(C:Str)(b:G Str)(n:Nat)(F:fS):Fd:=λP w K a base=>wT P w K a base kX lv C b (kB K n F)
structure Md where
 bl:G Str
 ex:G Str
 cs:G (Str×D)
 cl:G (Str×G Str)
structure Gm where
 M:Md
 N:G Str
 sc:G (Str×Xw)
 lv:Nat
 rz:Bool
 fa:Bool
 fc:G Str
 top:Nat
abbrev Tm:G J:=[.type "ValueError",.type "Exception",.type "BaseException",.type "object"]
structure adq(K:CL)(mg:Str->I J)(M:Md):Prop where
 bl:∀x∈M.bl,mg x=P
 ex:∀x∈M.ex,∃C,XH K Xv x=R (R (.ref C))/\mg x=R (.ref C)/\Z0 K C Tm "ValueError.__new__"=S
 cs:∀x d,M.cs.lookup x=R d->∃v u,mg x=R u/\RelV v u/\∀O H,DV O K H v d
 cl:∀C L,M.cl.lookup C=R L->kN K C L
structure Ct(T:G Fd)(Γ:Gm)(X:Cx)(E:XK):Prop where
 n:X.N=Γ.N
 nd:X.N.Nodup
 sc:X.env.scope.names=Γ.sc
 kd:X.env.scope.kind=.function
 cm:X.calm=S
 rm:Y1 Γ.lv X.A
 po:Γ.fa=S->acL (model X.prog X.w) X.A X.env X.xe
 px:Γ.rz=S->∃(N:G Str) (qual:Str) (scope:Y9) (f:M) (cd:J) (A:XJ) (outer:G Env) (s0:W9) (H0:Hp),X=fC (L4.lu X.prog X.w) X.prog X.w X.K X.mg X.base N qual scope f cd A outer s0 H0 E
 fc:∀x∈Γ.fc,X.fn x=S
 md:adq X.K X.mg Γ.M
 fs:∀i fd,i<Γ.top->T[i]?=R fd->fd X.prog X.w X.K X.mg X.base
def Sd(s:G (Str×Xw))(x:Str):Bool:=s.lookup x==R .local||s.lookup x==R .cell||s.lookup x==R .free
def MP(x:Str):Bool:= !(x==("__debug__":Str))&& !(x==("__classdict__":Str))&& !(x==("__name__":Str))
def RJ(a:Gm)(x:Str):Bool:=a.sc.lookup x==R .globalImplicit&&MP x
def blt(a:Gm)(x:Str):Bool:=RJ a x&&a.M.bl.contains x
def eG{a:I Xw}{b:Xw}(h:(a==R b)=S):a=R b:=by
 cases a with
 |none=>ext h
 |some a=>ext a<;>ext b<;>first|rfl|ext h
section
variable{T:bg Fd}{Z:Gm}{X:Cx}{E:XK}{x:Str}{i:Nat}
def uY(h:MP x=S):(x==("__debug__":Str))=U/\(x==("__classdict__":Str))=U/\x≠("__name__":Str):=by unfold MP at h;simp only[WX,Zs]at h;show#[h.1.1,h.1.2,λe=>by rw[e,dN]at h;cases h.2]
def nz(c:Ct T Z X E)(h:RJ Z x=S):Gl X x/\(x==("__debug__":Str))=U/\x≠("__name__":Str):=by unfold RJ at h;rw[WX]at h;show#[?_,(uY h.2).1,(uY h.2).2.2];show X.env.scope.names.lookup x=_;rw[c.sc];show eG h.1
def nQ(c:Ct T Z X E)(h:blt Z x=S):Gl X x/\X.mg x=P/\(x==("__debug__":Str))=U/\x≠("__name__":Str):=by unfold blt at h;rw[WX]at h;let(b,a):=nz c h.1;show#[b,c.md.bl x (aa5.mp h.2),a]
def GC(c:Ct T Z X E)(h:Z.rz=S):dW (L4.lu X.prog X.w) X E:=by let(N,g,a,f,l,A,b,j,m,e):=c.px h;rw[e];show L4.DQ
end
abbrev Jd(a:Type):=CL->XK->a->Prop
def eo(g:FE):Jd TE:=λK E t=>EO K E t g
def es(g:cw):Jd TE:=λK E t=>bT K E t g
def ao(g:FA):Jd TA:=λK E t=>AO K E t g
def as(g:wE):Jd TA:=λK E t=>v4 K E t g
def pB(g:FT):Jd TT:=λK E t=>TTO K E t g
def l9(g:tU):Jd TT:=λK E t=>v8 K E t g
def oo(g:FO):Jd TO:=λK E t=>Td K E t g
def go(g:FG):Jd TG:=λK E t=>GO K E t g
def FR(g:wN):Jd TG:=λK E t=>IK K E t g
def gs(g:RI):Jd yy:=λK E t=>Ue K E t g
def QJ(g:C8):Jd yy:=λK E t=>Fw K E t g
def io(g:FI):Jd TI:=λK E t=>L3.IO K E t g
def Tk(g:FI):Jd TI:=λK E t=>Vd K E t g
def RN(g:Ql):Jd TI:=λK E t=>SK K E t g
def so(g:FS):Jd TS:=λK E t=>SO K E t g
def cT(g:dG):Jd TS:=λK E t=>mJ K E t g
class CK (T:G Fd) {α τ:Type} (P:Cx->α->τ->Prop) (J:Jd τ) where
 chk:Gm->α->Bool
 ok:∀{Γ X E a},Ct T Γ X E->chk Γ a=S->∃t,P X a t/\J X.K E t
def Wn(X:Cx)(e:Xx)(t:TG):Prop:=PG X e t/\∀r,assignEach (e::r) X.env=(U,assign e X.env)::assignEach r X.env
def Wz(X:Cx)(r:G Xx)(t:yy):Prop:=TN X r t/\(assignEach r X.env).length=r.length/\List.findIdx? (λx=>x.1) (assignEach r X.env)=P
def Wb(X:Cx)(p:Xx×Xx)(t:TI):Prop:=PI X p.1 p.2 t/\iL p.2=S
abbrev CE(T:G Fd)(J:Jd TE):=CK T PE J
abbrev CA(T:G Fd)(J:Jd TA):=CK T PA J
abbrev CT(T:G Fd)(J:Jd TT):=CK T PT J
abbrev CQ(T:G Fd)(J:Jd TT):=CK T y6 J
abbrev CO(T:G Fd)(J:Jd TO):=CK T PO J
abbrev CG(T:G Fd)(J:Jd TG):=CK T Wn J
abbrev CH(T:G Fd)(J:Jd yy):=CK T Wz J
abbrev CI(T:G Fd)(J:Jd TI):=CK T Wb J
abbrev CU(T:G Fd)(J:Jd TS):=CK T PS J
abbrev CS(T:G Fd)(J:Jd TS):=CK T PSs J
def wO{T:G Fd}{α a:Type}{P:Cx->α->a->Prop}{A J:Jd a}[x:CK T P A](k:∀{K E t},A K E t->J K E t):CK T P J:=#[x.chk,λc h=>let#[t,p,q]:=x.ok c h;#[t,p,k q]]
end CC
set_option warn.classDefReducibility false
namespace CC
open PySem L2 L3 L10
variable{T:bg Fd}
def Qq(i:Nat)(a:Gm)(e:Xx):Bool:=(vN e).any λx=>a.N[i]? ==R x.1&&Sd a.sc x.1&&MP x.1
def D2{a:Gm}{X:Cx}{E:XK}{i:Nat}{e:Xx}(c:Ct T a X E)(h:Qq i a e=S):PE X e (nA i):=by
 let(x,q,h):=aZ h;rw[oY q];unfold Sd at h;simp only[WX,Yw]at h;show Iy (by rw[c.n];show beq_iff_eq.mp h.1.1) ?_ (uY h.2).1 (uY h.2).2.1;ext Sa;rw[c.sc];rcases h.1.2 with(z|z)|z
 .show .inl (eG z)
 .show .inr (.inl (eG z))
 .show .inr (.inr (eG z))
def Nw{J:Jd TE}(i:Nat)(k:∀{K E},J K E (nA i)):CE T J:=#[Qq i,λc h=>#[_,D2 c h,k]]
noncomputable instance:CE T (eo (ad i)):=Nw i Ry
noncomputable instance:CE T (es (aq i)):=Nw i J0
def dq:Nat->D->D->Bool
 |0,_,_=>U
 |_+1,.int a,.int b=>a==b
 |_+1,.str a,.str b=>a==b
 |_+1,.none,.none=>S
 |_+1,.bool a,.bool b=>a==b
 |n+1,.tuple a,.tuple b=>a.length==b.length&&(a.zip b).all λp=>dq n p.1 p.2
 |n+1,.list a,.list b=>a.length==b.length&&(a.zip b).all λp=>dq n p.1 p.2
 |_,_,_=>U
def Gg{f:D->D->Bool}(j:∀a b,f a b=S->a=b):∀{a b:G D},(a.length==b.length&&(a.zip b).all λp=>f p.1 p.2)=S->a=b:=by
 intro a
 induction a with
 |nil=>
  intro b h;cases b with
  |nil=>rfl
  |cons y s=>ext h
 |cons x r i=>
  intro b h;cases b with
  |nil=>ext h
  |cons y s=>rw[WX]at h;let(g,e):=h;rw[List.zip_cons_cons,YY,WX]at e;let g:=eq_of_beq g;rw[j x y e.1,i (b:=s) (by rw[WX];show#[beq_iff_eq.mpr (by simpa using g),e.2])]
def Hi:∀(n:Nat) (a b:D),dq n a b=S->a=b:=by
 intro n
 induction n with
 |zero=>intro a b h;ext h
 |succ n f=>
  intro a b h;unfold dq at h;split at h
  .ext h
  .rw[eq_of_beq h]
  .rw[eq_of_beq h]
  .rfl
  .rw[eq_of_beq h]
  .rename_i e;ext e;rw[Gg f h]
  .rename_i e;ext e;rw[Gg f h]
  .ext h
def cD:Const->I D
 |.int i=>R (.int i)
 |.str x=>R (.str x)
 |.bool b=>R (.bool b)
 |.none=>R .none
 |_=>P
noncomputable instance{d:D}:CE T (eo (pC d)) where
 chk Γ e:=(((vC e).bind cD).any λa=>dq 9 a d)||((vN e).any λx=>RJ Γ x.1&&((Γ.M.cs.lookup x.1).any λa=>dq 9 a d))
 ok c h:=by
  rcases(Yw _ _).mp h with h|h
  .let(a,q,h):=aZ h
   obtain rfl:=Hi _ _ _ h;let(k,f,b):=X8.mp q;let(_,_,rfl):=Eh f;ext k<;>ext b
   .show#[_,zr,Oh]
   .show#[_,Sl,Ug]
   .show#[_,Qu,OD]
   .show#[_,Hh,OQ]
  .let(x,q,h):=aZ h;rw[WX]at h;let(a,b,g):=aZ h.2;obtain rfl:=Hi _ _ _ g;let(j,i,_):=nz c h.1;let(v,u,e1,e2,e3):=c.md.cs _ _ b;rw[oY q];show#[_,KM j e1 e2 i,EI e3]
class BOp (f:D->D->I RV) where
 sp:Xx->I (Xx×Xx)
 ok:∀{X:Cx} {e p ta tb},sp e=R p->X.A.units+65<cLine->iL p.2=S->PE X p.1 ta->PE X p.2 tb->∃r,PE X e (DC r ta tb)/\kZ X.K r f
def SC{f:D->D->I RV}(op:adG)(g:∀{X:Cx},∃r,OpR X (Zl op) r/\kZ X.K r f):BOp f where
 sp e:=(T5 e).bind λx=>if x.2.1=op then R (x.1,x.2.2)else P
 ok h hu _ ha hb:=by
  let(x,q,a):=X8.mp h;let(_,rfl):=K3 q;split at a
  .rename_i z;ext a;let(r,b,i):=g;rw[<-z]at b;show#[r,SQ b ha hb,i]
  .ext a
def VY{f:D->D->I RV}(k:∀{K},kZ K (TH K) f):BOp f where
 sp e:=(wy e).map λx=>(x.1,x.2.1)
 ok h _ hp ha hb:=by let(x,q,a):=ZR.mp h;ext a;rw[ju q];show#[_,M6 Gk ha hb (v7 hp),k]
class COp (f:D->D->I RV) where
 op:aeH
 ok:∀{X:Cx},X.A.units+65<cLine->∃r,OpR X (YM op) r/\kZ X.K r f
def RO(op:aeH)(e:Xx):I (Xx×Xx):=(Si e).bind λx=>match x.2.2 with
 |[b]=>if x.2.1=[op]&& !behindInMarks op b then R (x.1,b)else P
 |_=>P
def nt{op:aeH}{e:Xx}{p:Xx×Xx}(h:RO op e=R p):∃pos,e=.Compare p.1 [op] [p.2] pos/\behindInMarks op p.2=U:=by
 let((a,o,b),q,f):=X8.mp h;let(_,rfl):=Ms q;dsimp only at f;split at f
 .split at f
  .rename_i z;ext f;rw[WX,decide_eq_true_eq,Zs]at z;show#[_,by rw[z.1],z.2]
  .ext f
 .ext f
noncomputable instance[o:COp f]:BOp f where
 sp:=RO o.op
 ok h hu _ ha hb:=by let(p,rfl,q):=nt h;let(r,b,a):=o.ok hu;show#[r,uZ b ha hb q,a]
noncomputable instance:BOp bc:=VY Gj
noncomputable instance:BOp L3.iZ:=VY Lk
noncomputable instance:COp cJ:=#[.Eq,λh=>#[_,Qs (),Ri]]
noncomputable instance:COp pS:=#[.NotEq,λh=>#[_,QP (),QV]]
noncomputable instance:COp Pg:=#[.Lt,λ_=>#[_,Sc,RD]]
noncomputable instance:COp DG:=#[.Gt,λ_=>#[_,Ti,OB]]
noncomputable instance:COp Uz:=#[.GtE,λ_=>#[_,Ud,P8]]
noncomputable instance:COp IH:=#[.In,λh=>#[_,P0 h,PN]]
noncomputable instance:COp uU:=#[.NotIn,λh=>#[_,Ka h,JE]]
noncomputable instance:COp oj:=#[.Is,λ_=>#[_,x8,Ml]]
noncomputable instance:COp lK:=#[.IsNot,λ_=>#[_,IV,ML]]
noncomputable instance:BOp bP:=SC .Add #[_,Mz,Kb]
noncomputable instance:BOp sL:=SC .Sub #[_,OH,Jf]
noncomputable instance:BOp rL:=SC .Mod #[_,Qz,LO]
noncomputable instance:BOp zd:=SC .FloorDiv #[_,G3,KN]
noncomputable instance:BOp iE:=SC .Mult #[_,Kn,Ew]
section
variable{A B C J:Jd TE}{U Z:Jd TA}{Q R S:Jd TT}
def Tz(A B:Jd TE){f:D->D->I RV}[o:BOp f][x:CE T A][y:CE T B](k:∀{K E r m d},kZ K r f->A K E m->B K E d->J K E (DC r m d)):CE T J where
 chk Γ e:=(o.sp e).any λp=>iL p.2&&x.chk Γ p.1&&y.chk Γ p.2
 ok c h:=by let(p,q,h):=aZ h;simp only[WX]at h;let(m,l,j):=x.ok c h.1.2;let(d,i,g):=y.ok c h.2;let(r,b,a):=o.ok q (zZ c.rm) h.1.1 l i;show#[_,b,k a j g]
noncomputable instance[BOp f][CE T (eo a)][CE T (eo b)]:CE T (eo (aB f a b)):=Tz (eo a) (eo b) Nx
noncomputable instance[BOp f][CE T (es a)][CE T (es b)]:CE T (es (jo f a b)):=Tz (es a) (es b) DK
noncomputable instance[CE T (es a)][CE T (es b)]:CE T (es (L10.iZ a b)) where
 chk Γ e:=(wy e).any λp=>iL p.2.1&&CK.chk T PE (es a) Γ p.1&&CK.chk T PE (es b) Γ p.2.1
 ok c h:=by let(p,q,h):=aZ h;simp only[WX]at h;let(m,j,i):=CK.ok c h.1.2;let(l,g,f):=CK.ok c h.2;rw[ju q];show#[_,M6 Gk j g (v7 h.1.1),QM i f]
def Oc(k:∀{K E},Z K E gM):CA T Z:=#[λ_ l=>l.isEmpty,λ_ h=>by rw[X4.mp h];show#[_,gx,k]]
def FC(A:Jd TE)(U:Jd TA)[x:CE T A][y:CA T U](k:∀{K E i d},A K E i->U K E d->Z K E (c8 i d)):CA T Z where
 chk Γ l:=match l with
  |e::r=>iL e&&x.chk Γ e&&y.chk Γ r
  |[]=>W3
 ok c h:=by
  split at h
  .simp only[WX]at h;let(i,g,f):=x.ok c h.1.2;let(d,b,a):=y.ok c h.2;show#[_,ci g b (fH h.1.1),k f a]
  .ext h
noncomputable instance:CA T (ao am):=Oc OY
noncomputable instance:CA T (as aI):=Oc zO
noncomputable instance[CE T (eo a)][CA T (ao b)]:CA T (ao (aa a b)):=FC (eo a) (ao b) JO
noncomputable instance[CE T (es a)][CA T (as b)]:CA T (as (ai a b)):=FC (es a) (as b) Ej
def M8(U:Jd TA)[x:CA T U](k:∀{K E t},U K E t->J K E (FD t)):CE T J where
 chk Γ e:=(KG e).any (x.chk Γ)
 ok c h:=by let(l,q,h):=aZ h;let(_,_,rfl):=BU q;let(t,b,a):=x.ok c h;show#[_,EK b,k a]
def Su(U:Jd TA)[x:CA T U](k:∀{K E t},U K E t->J K E (Rf t)):CE T J where
 chk Γ e:=(Tu e).any (x.chk Γ)
 ok c h:=by let(l,q,h):=aZ h;let(_,rfl):=IP q;let(t,b,a):=x.ok c h;show#[_,Pz b,k a]
noncomputable instance[CA T (ao a)]:CE T (eo (aV a)):=M8 (ao a) QG
noncomputable instance[CA T (as a)]:CE T (es (mE a)):=M8 (as a) JZ
noncomputable instance[CA T (ao a)]:CE T (eo (dI a)):=Su (ao a) PB
noncomputable instance[CE T (eo a)]:CE T (es (ae a)):=wO (A:=eo a) Hb
noncomputable instance[CE T (es a)]:CE T (es (qA a)):=wO (A:=es a) KA
class Fn (T:G Fd) {φ:Type} (k:Nat->Str->G Str->Nat->φ->Fd) (F:φ) (n:Nat) where
 i:Nat
 lv:Nat
 x:Str
 ps:G Str
 h:T[i]?=cL (k lv x ps n F)
def RM(b:Gm)(i lv:Nat)(x:Str)(e:Xx):I (Xx×G Xx×Pos×Pos):=(BQ e).bind λy=>match y.2.1 with
 |a::r=>(vN y.1).bind λz=>if z.1==x&&RJ b x&&decide (i<b.top)&&decide (lv<=b.lv)&&(a::r).all iL&&y.2.2.1.isEmpty then cL (a,r,z.2,y.2.2.2)else P
 |[]=>P
def rQ{c:Gm}{i lv:Nat}{x:Str}{e:Xx}{y:Xx×G Xx×Pos×Pos}(h:RM c i lv x e=cL y):e=.Call (.Name x y.2.2.1) (y.1::y.2.1) [] y.2.2.2/\RJ c x=WZ/\i<c.top/\lv<=c.lv/\(y.1::y.2.1).all iL=WZ:=by
 let((f,l,o,p),q,a):=X8.mp h;rw[rj q];dsimp only at a;split at a
 .let(z,b,g):=X8.mp a
  obtain rfl:=oY b;split at g
  .rename_i z;ext g;simp only[WX,decide_eq_true_eq,beq_iff_eq,X4]at z;let(((((rfl,b),n),m),j),rfl):=z;show#[W,b,n,m,j]
  .ext g
 .ext a
def tE(U:Jd TA){d:Type}(D:Nat->Str->G Str->Nat->d->Fd)(F:d)(n:Nat)[o:Fn T D F n][u:CA T U](s:Bool)(k:∀{X:Cx} {E lv x L t e r p q},D lv x L n F X.prog X.w X.K X.mg X.base->(s=WZ->dW (L4.lu X.prog X.w) X E)->Y1 lv X.A->Gl X x->(x==("__debug__":Str))=W3->(e::r).all iL=WZ->PA X (e::r) t->U X.K E t->∃i,PE X (.Call (.Name x p) (e::r) [] q) i/\J X.K E i):CE T J where
 chk Γ e:=(!s||Γ.rz)&&(RM Γ o.i o.lv o.x e).any λy=>u.chk Γ (y.1::y.2.1)
 ok c h:=by rw[WX]at h;let(y,q,j):=aZ h.2;let(rfl,g,N,b,a):=rQ q;let(v,m,_):=nz c g;let(t,l,f):=u.ok c j;show k (c.fs _ _ N o.h) (λz=>GC c (by let:=h.1;rw[z]at this;show this)) (c.rm.mono b) v m a l f
noncomputable instance[Fn T kW F n][CA T (ao a)]:CE T (eo (bZ F n a)):=tE (ao a) kW F n W3 λf _ r g d p e b=>#[_,uK f r e (Xd _) g d (dR p) (ip p),OV b]
noncomputable instance[Fn T kW F n][CA T (as a)]:CE T (es (hG F n a)):=tE (as a) kW F n W3 λf _ r g d p e b=>#[_,uK f r e (Xd _) g d (dR p) (ip p),Me b]
noncomputable instance[Fn T DH F n][CA T (as a)]:CE T (es (mQ F n a)):=tE (as a) DH F n W3 λf _ r g d p e b=>#[_,uK f r e (Xd _) g d (dR p) (ip p),Cg b]
noncomputable instance[Fn T DH F n][CA T (as a)]:CE T (es (qU F n a)):=tE (as a) DH F n W3 λf _ r g d p e b=>#[_,uK f r e (Xd _) g d (dR p) (ip p),Di b]
class CB (f:G D->I RV) where
 x:Str
 v:WY
 b:X7 x=cL v
 y:(∃id,v=.builtin id)\/∃ty,v=.type ty
 ok:∀{X:Cx},X.calm=WZ->∃r,Zf X v r/\A1 X.K r f
def C9(a:Gm)(x:Str)(e:Xx):I (Xx×G Xx×Pos×Pos):=if blt a x then RM {a with top:=1} 0 0 x e else P
def jq{c:Gm}{x:Str}{e:Xx}{y:Xx×G Xx×Pos×Pos}(h:C9 c x e=cL y):e=.Call (.Name x y.2.2.1) (y.1::y.2.1) [] y.2.2.2/\blt c x=WZ/\(y.1::y.2.1).all iL=WZ:=by
 unfold C9 at h;split at h
 .rename_i z;let(b,_,_,_,a):=rQ h;show#[b,z,a]
 .ext h
def lH{d:Gm}{X:Cx}{E:XK}{x:Str}{v:WY}{r:G V->Hp->VK->Prop}{e:Xx}{l:G Xx}{p q:Pos}{t:TA}(c:Ct T d X E)(m:blt d x=WZ)(b:X7 x=cL v)(y:(∃id,v=.builtin id)\/∃ty,v=.type ty)(k:Zf X v r)(a:(e::l).all iL=WZ)(h:PA X (e::l) t):PE X (.Call (.Name x p) (e::l) [] q) (tI r t):=by
 let(j,g,i,f):=nQ c m;rcases y with⟨id,rfl⟩|⟨id,rfl⟩
 .show wQ k j g b h f i (dR a) (ip a)
 .show Cy k j g b h f i (dR a) (ip a)
def Up(U:Jd TA)(f:G D->I RV)[o:CB f][u:CA T U](k:∀{K E r t},A1 K r f->U K E t->J K E (tI r t)):CE T J where
 chk Γ e:=(C9 Γ o.x e).any λy=>u.chk Γ (y.1::y.2.1)
 ok c h:=by let(y,q,j):=aZ h;let(rfl,g,a):=jq q;let(t,l,i):=u.ok c j;let(r,k1,k2):=o.ok c.cm;show#[_,lH c g o.b o.y k1 a l,k k2 i]
noncomputable instance[CB f][CA T (ao a)]:CE T (eo (g9 f a)):=Up (ao a) f EN
noncomputable instance[CB f][CA T (as a)]:CE T (es (yk f a)):=Up (as a) f Ro
noncomputable instance:CB dY:=#["len",_,zY,.inl #[_,W],λ_=>#[_,qD,Q6]]
noncomputable instance:CB E9:=#["len",_,zY,.inl #[_,W],λ_=>#[_,qD,LH]]
noncomputable instance:CB lR:=#["tuple",_,Mx,.inr #[_,W],λ_=>#[_,sJ,Gf]]
noncomputable instance:CB Cr:=#["all",_,T4,.inl #[_,W],λh=>#[_,EG h,Pe]]
noncomputable instance:CB sM:=#["list",_,vA,.inr #[_,W],λ_=>#[_,uu,Lf]]
noncomputable instance:CB L9.fL:=#["sorted",_,xh,.inl #[_,W],λ_=>#[_,L9.u6,L9.za]]
noncomputable instance:CB xC:=#["max",_,NM,.inl #[_,W],λh=>#[_,Dy h,K8]]
noncomputable instance[u:CA T (ao a)]:CE T (eo (g9 L9.RY a)) where
 chk Γ e:=(C9 Γ "list" e).any λy=>y.2.1.isEmpty&&(C9 Γ "range" y.1).any λz=>u.chk Γ (z.1::z.2.1)
 ok c h:=by let((e,l,w,v),q,f):=aZ h;let(rfl,g,j):=jq q;simp only[WX,X4]at f;let(rfl,p):=f;let(z,i,o):=aZ p;let(rfl,r,b):=jq i;let(t,n,m):=u.ok c o;show#[_,lH c g vA (.inr #[_,W]) (L9.Dr c.cm) j (ci (lH c r L9.IU (.inr #[_,W]) L9.Cj b n) gx (fH W)),L9.Sg m]
def VS(a:Gm)(x y:Str)(i:Int)(e:Xx):I Xx:=(BQ e).bind λc=>match c.2.1,c.2.2.1 with
 |[l],[#[cL w,v,_]]=>if(vN c.1).any (λz=>z.1==x)&&blt a x&&w==y&&((vC v).bind cD).any (λz=>dq 2 z (.int i))&&iL l then cL l else P
 |_,_=>P
def Pr{k:Gm}{x y:Str}{i:Int}{e l:Xx}(h:VS k x y i e=cL l):(∃p s L D j,e=.Call (.Name x p) [l] [#[cL y,.Constant (.int i) j s,L]] D)/\blt k x=WZ/\iL l=WZ:=by
 let((f,a,G,p),q,b):=X8.mp h;rw[rj q];dsimp only at b;split at b
 .split at b
  .rename_i z;ext b;simp only[WX,beq_iff_eq]at z;let((((r,o),rfl),m),g):=z;let(n,F,E):=aZ r;let(d,w,v):=aZ m;let(c,u,t):=X8.mp w;obtain rfl:=Hi _ _ _ v;let(j,s,rfl):=Eh u;ext c<;>ext t;rw[oY F,beq_iff_eq.mp E];show#[#[_,_,_,_,_,W],o,g]
  .ext b
 .ext b
noncomputable instance[u:CA T (ao a)]:CE T (eo (g9 (L10.BR i) a)) where
 chk Γ e:=(VS Γ "max" "default" i e).any λl=>u.chk Γ [l]
 ok c h:=by let(l,q,m):=aZ h;let((_,_,_,_,_,rfl),g,b):=Pr q;let(o,n,_):=nQ c g;let(t,j,f):=u.ok c m;show#[_,L10.La c.cm o n j (LQ b),EN L10.Lr f]
noncomputable instance:CO T (oo oG):=#[λ_ e=>e.isNone,λ_ h=>by rw[Zz.mp h];show#[_,KZ,DW]]
noncomputable instance[x:CE T (eo a)]:CO T (oo (gR a)) where
 chk Γ e:=e.any (x.chk Γ)
 ok c h:=by let(e,q,g):=aZ h;subst q;let(t,f,b):=x.ok c g;show#[_,Jb f,HM b]
class SOp (f:D->I Int->I Int->I RV) where
 ok:∀{X:Cx},∃r,Np X r/\Sv X.K r f
noncomputable instance:SOp M0:=#[#[_,Gp,u7]]
noncomputable instance:SOp UK:=#[#[_,Lb,SB]]
noncomputable instance:SOp jT:=#[#[_,P1,Jy]]
noncomputable instance[o:SOp f][x:CE T (eo a)][m:CO T (oo l)][n:CO T (oo u)]:CE T (eo (DF f a l u)) where
 chk Γ e:=(wy e).any λy=>(VP y.2.1).any λz=>z.2.2.isNone&&x.chk Γ y.1&&m.chk Γ z.1&&n.chk Γ z.2.1
 ok c h:=by let((e,s,p),q,E):=aZ h;rw[ju q];let((H,G,F),i,g):=aZ E;let(_,b):=QB i;let b:s=_:=b;subst b;simp only[WX,Zz]at g;let(((rfl,w),v),j):=g;let(t,k1,k2):=x.ok c w;let(K,k3,k4):=m.ok c v;let(I,k5,k6):=n.ok c j;let(r,k7,k8):=o.ok;show#[_,Hl k7 k1 k3 k5,TZ k8 k2 k4 k6]
def U4(op:BoolOp)(A B:Jd TE)[x:CE T A][y:CE T B]{f:TE->TE->TE}(p:∀{X:Cx} {a b pos s d},PE X a s->PE X (.BoolOp op [b] pos) d->PE X (.BoolOp op [a,b] pos) (f s d))(k:∀{K E s d},A K E s->B K E d->J K E (f s d)):CE T J where
 chk Γ e:=(Vw e).any λz=>decide (z.1=op)&&match z.2.1 with
  |[l,r]=>x.chk Γ l&&y.chk Γ r
  |_=>W3
 ok c h:=by
  let((o,l,p),q,i):=aZ h;rw[DJ q];simp only[WX,decide_eq_true_eq]at i;let(rfl,g):=i;split at g
  .rw[WX]at g;let(s,t,n):=x.ok c g.1;let(d,m,j):=y.ok c g.2;show#[_,p t (Pk m),k n j]
  .ext g
noncomputable instance[CE T (es a)][CE T (es b)]:CE T (es (wq a b)):=U4 .And (es a) (es b) Rc Ke
def Ua(Q:Jd TT)(A B:Jd TE)[z:CT T Q][x:CE T A][y:CE T B](k:∀{K E t n d},Q K E t->A K E n->B K E d->J K E (SE t n d)):CE T J where
 chk Γ e:=(VW e).any λw=>z.chk Γ w.1&&x.chk Γ w.2.1&&y.chk Γ w.2.2
 ok c h:=by let(w,q,a):=aZ h;let(_,rfl):=Pf q;simp only[WX]at a;let(m,f,b):=z.ok c a.1.1;let(n,l,j):=x.ok c a.1.2;let(d,i,g):=y.ok c a.2;show#[_,F6 f l i,k b j g]
noncomputable instance[CT T (pB q)][CE T (eo a)][CE T (eo b)]:CE T (eo (MZ q a b)):=Ua (pB q) (eo a) (eo b) Ui
noncomputable instance[CT T (l9 q)][CE T (es a)][CE T (es b)]:CE T (es (EW q a b)):=Ua (l9 q) (es a) (es b) QW
def VQ(A:Jd TE)[x:CE T A](k:∀{K E t},A K E t->Q K E (tB t)):CT T Q where
 chk Γ e:=kI e&&x.chk Γ e
 ok c h:=by rw[WX]at h;let(t,b,a):=x.ok c h.2;show#[_,Ox b (KO h.1),k a]
def N5(A B:Jd TE){f:D->D->I RV}[o:COp f][x:CE T A][y:CE T B](k:∀{K E r s d},kZ K r f->A K E s->B K E d->Q K E (tH (DC r s d))):CT T Q where
 chk Γ e:=(RO o.op e).any λp=>x.chk Γ p.1&&y.chk Γ p.2
 ok c h:=by let(p,q,a):=aZ h;rw[WX]at a;let(s,n,m):=x.ok c a.1;let(d,l,j):=y.ok c a.2;let(_,rfl,b):=nt q;let(r,i,g):=o.ok (zZ c.rm);show#[_,vf i n l b,k g m j]
noncomputable instance[CE T (eo a)]:CT T (pB (az a)):=VQ (eo a) TJ
noncomputable instance[CE T (es a)]:CT T (l9 (aW a)):=VQ (es a) E3
noncomputable instance[COp f][CE T (eo a)][CE T (eo b)]:CT T (pB (az (aB f a b))):=N5 (eo a) (eo b) λh g e=>wu (Nx h g e)
noncomputable instance[COp f][CE T (es a)][CE T (es b)]:CT T (l9 (aW (jo f a b))):=N5 (es a) (es b) λh g e=>jK (DK h g e)
def Nr(R:Jd TT)[z:CT T R](k:∀{K E t},R K E t->Q K E (Kl t)):CT T Q where
 chk Γ e:=(V1 e).any λy=>(match y.1 with|.Not=>WZ|_=>W3)&&z.chk Γ y.2
 ok c h:=by let((o,e),q,a):=aZ h;let(_,rfl):=Qv q;rw[WX]at a;let(t,f,b):=z.ok c a.2;ext o<;>first|show#[_,QO f,k b]|cases a.1
theorem T9{X:Cx}{op:BoolOp}{b:G Xx}{a:Pos}{t:TT}(h:PT X (.BoolOp op b a) t):PW X (.BoolOp op b a) t:=λ_=>h
def QF(op:BoolOp)(R S:Jd TT)[z:CT T R][v:CT T S]{f:TT->TT->TT}(H:∀{X:Cx} {a pos t},PT X a t->PW X (.BoolOp op [a] pos) t)(p:∀{X:Cx} {a b r pos x d},PT X a x->PW X (.BoolOp op (b::r) pos) d->PW X (.BoolOp op (a::b::r) pos) (f x d))(k:∀{K E x d},R K E x->S K E d->Q K E (f x d)):CT T Q where
 chk Γ e:=(Vw e).any λy=>decide (y.1=op)&&match y.2.1 with
  |[l,m]=>z.chk Γ l&&v.chk Γ m
  |l::m::n::s=>z.chk Γ l&&v.chk Γ (.BoolOp op (m::n::s) y.2.2)
  |_=>W3
 ok c h:=by
  let((o,l,w),q,G):=aZ h;rw[DJ q];simp only[WX,decide_eq_true_eq]at G;let(rfl,g):=G;split at g
  .rw[WX]at g;let(x,F,u):=z.ok c g.1;let(d,j,i):=v.ok c g.2;show#[_,(p F (H j)).pt,k u i]
  .rw[WX]at g;let(x,F,u):=z.ok c g.1;let(d,j,i):=v.ok c g.2;show#[_,(p F (T9 j)).pt,k u i]
  .ext g
noncomputable instance[CT T (pB q)]:CT T (pB (CM q)):=Nr (pB q) MC
noncomputable instance[CT T (l9 q)]:CT T (l9 (L10.qJ q)):=Nr (l9 q) KQ
noncomputable instance[CT T (pB q)][CT T (pB r)]:CT T (pB (sO q r)):=QF .And (pB q) (pB r) A8 Hs MB
noncomputable instance[CT T (l9 q)][CT T (l9 r)]:CT T (l9 (lU q r)):=QF .And (l9 q) (l9 r) A8 Hs LV
noncomputable instance[CT T (l9 q)][CT T (l9 r)]:CT T (l9 (wa q r)):=QF .Or (l9 q) (l9 r) PK T1 QC
noncomputable instance[CT T (pB q)]:CT T (l9 (bp q)):=wO (A:=pB q) Fo
end
end CC
set_option warn.classDefReducibility false
namespace CC
open PySem L2 L3 L10
variable{T:bg Fd}{A B C J:Jd TE}{U Z:Jd TA}
def PF(x:Str)(e:Xx):I (Xx×G Xx×Pos×Pos):=(BQ e).bind λy=>(Sq y.1).bind λz=>if z.2.1==x&&Tx z.1&&z.2.2.endLine==y.2.2.2.line&&y.2.1.all iL&&decide (y.2.1.length<20)&&y.2.2.1.isEmpty then R (z.1,y.2.1,z.2.2,y.2.2.2)else P
def nG{x:Str}{e:Xx}{y:Xx×G Xx×Pos×Pos}(h:PF x e=R y):e=.Call (.Attribute y.1 x y.2.2.1) y.2.1 [] y.2.2.2/\Tx y.1=S/\(y.2.2.1.endLine==y.2.2.2.line)=S/\y.2.1.all iL=S/\y.2.1.length<20:=by
 let((f,l,v,p),q,w):=X8.mp h;let((o,n,r),u,a):=X8.mp w;rw[rj q,show f=_ from vi u];split at a
 .rename_i z;ext a;simp only[WX,decide_eq_true_eq,X4]at z;let(((((t,m),j),i),g),b):=z;show#[?_,m,j,i,g];rw[show n=x from beq_iff_eq.mp t,show v=[]from b]
 .ext a
class MS (f:Str->G D->I RV) where
 x:Str
 ok:∀{X:Cx},∃id r,Slot "str" x id/\typeOf (.builtin id)=pure (.type "method_descriptor")/\RL X id r/\Vt X.K r f
noncomputable instance[o:MS f][x:CE T (eo a)][u:CA T (ao b)]:CE T (eo (RP f a b)) where
 chk Γ e:=(PF o.x e).any λy=>decide (0<y.2.1.length)&&x.chk Γ y.1&&u.chk Γ y.2.1
 ok c h:=by
  let((b,l,p,q),z,i):=aZ h;let(rfl,K,I,g,H):=nG z;simp only[WX,decide_eq_true_eq]at i;let((G,E),w):=i;let(t,v,n):=x.ok c E;let(L,m,j):=u.ok c w;let(id,r,k1,k2,k3,k4):=o.ok;cases l with
  |nil=>ext G
  |cons e l=>show#[_,NC PySem.F.plainAttrs_str k1 k2 k3 v m (fP K) (mq g H) I (dR g) (ip g),S7 k4 n j]
noncomputable instance:MS sQ:=#["join",#[_,_,PySem.F.slot_str_join,PySem.F.type_str_join,LF,JN]]
def R9(m:Str){id:String}{r:V->bg V->Hp->VK->Prop}(s:Slot "list" m id)(ty:typeOf (.builtin id)=pure (.type "method_descriptor"))(mt:∀{X:Cx},RL X id r)(i:Gm->Xx->Bool)(G:Jd TE)(A:Jd TE)[x:CE T A](j:∀{d X E e},Ct T d X E->i d e=S->∃t,PE X e t/\G X.K E t)(k:∀{K E to t},G K E to->A K E t->J K E (RK K "list" r to (c8 t gM))):CE T J where
 chk d e:=(PF m e).any λy=>i d y.1&&match y.2.1 with
  |[e]=>x.chk d e
  |_=>W3
 ok c h:=by
  let((b,l,p,q),z,g):=aZ h;let(rfl,I,H,a,L):=nG z;rw[WX]at g;let(w,f):=g;let(to,v,u):=j c w
  match l,a,f with
  |[e],a,f=>let a:[e].all iL=S:=a;let(t,o,n):=x.ok c f;show#[RK _ "list" r to (c8 t gM),?_,k u n];show NC PySem.F.plainAttrs_list s ty mt v (ci o gx (dR a)) (fP I) (mq a (by show 1<20;decide)) H (dR a) W
def vJ(i:Nat):Jd TE:=λ_ _ t=>t=nA i
noncomputable instance[CE T (eo a)]:CE T (eo (Ci i a)):=R9 "append" acA acB nV (Qq i) (vJ i) (eo a) (λc h=>#[_,D2 c h,W]) λh k=>by ext h;show Oj k
noncomputable instance[x:CE T (es o)][CE T (es a)]:CE T (es (l7 o a)):=R9 "append" acA acB nV x.chk (es o) (es a) x.ok KY
def Ko(a:Gm)(C f:Str):Bool:=(a.M.cl.lookup C).any λL=>L.contains f
def ur{b:Gm}{X:Cx}{E:XK}{C f:Str}(c:Ct T b X E)(h:Ko b C f=S):∃L,kN X.K C L/\f∈L:=by let(L,q,a):=aZ h;show#[L,c.md.cl _ _ q,aa5.mp a]
noncomputable instance{C f:Str}[x:CE T (es a)]:CE T (es (aU C f a)) where
 chk Γ e:=(Sq e).any λy=>y.2.1==f&&Ko Γ C f&&Tx y.1&&x.chk Γ y.1
 ok c h:=by let((o,n,p),q,b):=aZ h;rw[vi q];simp only[WX,beq_iff_eq]at b;let(((rfl,u),r),m):=b;let(L,i,g):=ur c u;let(t,l,j):=x.ok c m;show#[_,Gd l (fP r),AI i g j]
class FM (T:G Fd) (rz:Bool) (C m:Str) (F:fS) (n:Nat) where
 i:Nat
 lv:Nat
 ps:G Str
 h:T[i]?=R (y1 rz lv C m ps n F)
section
variable{C m:Str}{F:fS}{n:Nat}
def LN(T:G Fd)(b hd:Bool)(C m:Str)(F:fS)(n:Nat)[o:FM T b C m F n](x:Gm->Xx->Bool)(u:Gm->G Xx->Bool)(a:Gm)(e:Xx):Bool:=(!hd||a.rz&&b)&&decide (o.i<a.top)&&decide (o.lv<=a.lv)&&(a.M.cl.lookup C).isSome&&(PF m e).any λy=>x a y.1&&u a y.2.1
def A6{d hd:Bool}[o:FM T d C m F n]{x:Gm->Xx->Bool}{u:Gm->bg Xx->Bool}{k:Gm}{X:Cx}{E:XK}{e:Xx}(c:Ct T k X E)(h:LN T d hd C m F n x u k e=S):∃(b:Xx) (l:bg Xx) (p q:Pos) (L:bg Str) (pl:Sem Bool),e=.Call (.Attribute b m p) l [] q/\x k b=S/\u k l=S/\kN X.K C L/\ny X.prog X.w X.K X.mg X.base (if d then L4.lu X.prog X.w else kX) o.lv C m o.ps (kB X.K n F)/\Y1 o.lv X.A/\dW (if d then L4.lu X.prog X.w else kX) X (if hd then E else E0)/\l.all iL=S/\eval (.Call (.Attribute b m p) l [] q) X.env=(do
   let ov<-eval b X.env
   standAt p.atName
   let(f,first)<-holding [ov] (getMethod ov m pl)
   callWith q f first (backTo q (Xr l X.env)) (backToKw q (keywordEach [] X.env))):=by
 unfold LN at h;simp only[WX,decide_eq_true_eq]at h;let((((a,y),v),t),r):=h;let((b,l,p,q),z,g):=aZ r;let(rfl,I,H,i,G):=nG z;rw[WX]at g;let(L,j):=Y7.mp t;let(pl,ev):=SR (m:=m) (env:=X.env) I i G H;show#[b,l,p,q,L,pl,W,g.1,g.2,c.md.cl _ _ j,c.fs _ _ y o.h,c.rm.mono v,?_,i,ev];cases hd with
 |true=>let a:=(WX _ _).mp a;rw[a.2];show GC c a.1
 |false=>cases d with
  |true=>show Gy
  |false=>show Hc
def SL(d hd:Bool)(A:Jd TE)(U:Jd TA)[o:FM T d C m F n][x:CE T A][u:CA T U](k:∀{K E L to t},kN K C L->A K E to->U K E t->J K E (n6 K C m (kB K n F) (if hd then E else E0) to t)):CE T J where
 chk:=LN T d hd C m F n x.chk λy l=> !l.isEmpty&&u.chk y l
 ok c h:=by
  let(b,l,p,q,L,pl,rfl,w,a,v,r,j,i,f,g):=A6 c h;rw[WX]at a;let(to,k1,k2):=x.ok c w;let(t,k3,k4):=u.ok c a.2;cases l with
  |nil=>cases a.1
  |cons e l=>show#[_,Se r i j k1 k3 (Xd _) (dR f) (ip f) g,k v k2 k4]
def T7(d hd:Bool)(A:Jd TE)[o:FM T d C m F n][x:CE T A](k:∀{K E L to},kN K C L->A K E to->J K E (n6 K C m (kB K n F) (if hd then E else E0) to gM)):CE T J where
 chk:=LN T d hd C m F n x.chk λ_ l=>l.isEmpty
 ok c h:=by let(b,l,p,q,L,pl,rfl,r,a,j,i,g,f,t,e):=A6 c h;let(to,k1,k2):=x.ok c r;rw[X4]at a;subst a;show#[_,PX i f g k1 (Xd _) e,k j k2]
noncomputable instance[FM T W3 C m F n][CE T (es o)][CE T (es a)][CA T (as b)]:CE T (es (aM C m F n o (ai a b))):=SL (C:=C) (m:=m) (F:=F) (n:=n) W3 W3 (es o) (as (ai a b)) Af
noncomputable instance[FM T W3 C m F n][CE T (es o)]:CE T (es (aM C m F n o aI)):=T7 (C:=C) (m:=m) (F:=F) (n:=n) W3 W3 (es o) λh k=>Af h k zO
noncomputable instance[FM T S C m F n][CE T (es o)][CE T (es a)][CA T (as b)]:CE T (es (oB C m F n o (ai a b))):=SL (C:=C) (m:=m) (F:=F) (n:=n) S S (es o) (as (ai a b)) Ow
class FK (T:G Fd) (C:Str) (F:fS) (n:Nat) where
 i:Nat
 lv:Nat
 ps:G Str
 h:T[i]?=R (VN lv C ps n F)
noncomputable instance[o:FK T C F n][x:CE T (es a)][u:CA T (as b)]:CE T (es (rh C F n (ai a b))) where
 chk Γ e:=(Γ.M.cl.lookup C).isSome&&(RM Γ o.i (o.lv+1) C e).any λy=>CK.chk T PA (as (ai a b)) Γ (y.1::y.2.1)
 ok c h:=by rw[WX]at h;let(L,l):=Y7.mp h.1;let(y,q,r):=aZ h.2;let(rfl,g,i,j,f):=rQ q;let(E,w,_):=nz c g;let(t,v,p):=CK.ok c r;show#[_,MW (c.fs _ _ i o.h) Hc c.rm v j E w (dR f) (ip f),L7 (c.md.cl _ _ l) p]
end
end CC
set_option warn.classDefReducibility false
namespace CC
open PySem L2 L3 L10
variable{T:bg Fd}{A B C J:Jd TE}{U Z:Jd TA}{Q R:Jd TT}
theorem UD{a:Gm}{X:Cx}{E:XK}(c:Ct T a X E):X.A.units+1<cLine:=Ix c.rm
noncomputable instance[x:CE T (es d)][y:CE T (es k)]:CE T (es (rN d k)) where
 chk Γ e:=(wy e).any λp=>iL p.2.1&&x.chk Γ p.1&&y.chk Γ p.2.1
 ok c h:=by let(p,q,a):=aZ h;simp only[WX]at a;let(l,i,g):=x.ok c a.1.2;let(j,f,b):=y.ok c a.2;rw[ju q];show#[_,Jm (UD c) i f (v7 a.1.1),Ed g b]
def Nk(x y:Gm->Xx->Bool)(a:Gm)(e:Xx):Bool:=(RO .In e).any λp=>x a p.1&&y a p.2
def Hj[x:CE T (es k)][y:CE T (es d)]{l X E e}(c:Ct T l X E)(h:Nk x.chk y.chk l e=S):∃t,PE X e t/\PT X e (tB t)/\bT X.K E t (sB W3 k d):=by let(p,q,a):=aZ h;rw[WX]at a;let(_,rfl,b):=nt q;let(n,g,j):=x.ok c a.1;let(m,f,i):=y.ok c a.2;show#[_,yT (DY (UD c) g f) b,zi (DY (UD c) g f) b,Mg j i]
noncomputable instance[x:CE T (es k)][y:CE T (es d)]:CT T (l9 (aW (sB W3 k d))):=#[Nk x.chk y.chk,λc h=>let#[_,_,h1,a]:=Hj c h;#[_,h1,E3 a]]
noncomputable instance[x:CE T (es d)][y:CE T (es k)]:CE T (es (ub d k)) where
 chk Γ e:=(PF "pop" e).any λz=>x.chk Γ z.1&&match z.2.1 with
  |[e]=>y.chk Γ e
  |_=>W3
 ok c h:=by
  let((b,l,p,q),z,g):=aZ h;let(rfl,m,j,a,u):=nG z;rw[WX]at g;let(i,f):=g;let(L,t,r):=x.ok c i
  match l,a,f with
  |[e],a,f=>let a:[e].all iL=S:=a;let(v,o,n):=y.ok c f;show#[_,Fm t o #[fP m,mq a (by show 1<20;decide),j,?_],Io r n];rw[dR a];rfl
noncomputable instance[x:CE T (es d)]:CE T (es (xG d)) where
 chk Γ e:=(C9 Γ "list" e).any λy=>y.2.1.isEmpty&&(PF "values" y.1).any λz=>z.2.1.isEmpty&&x.chk Γ z.1
 ok c h:=by let((e,l,E,w),q,f):=aZ h;let(rfl,g,i):=jq q;simp only[WX,X4]at f;let(rfl,o):=f;let((b,l,v,u),z,a):=aZ o;let(rfl,r,p,H,G):=nG z;simp only[WX,X4]at a;let(rfl,n):=a;let(t,m,j):=x.ok c n;show#[_,lH c g vA (.inr #[_,W]) (L10.zp c.cm) i (ci (Px aay acz PySem.F.type_dict_values L10.B9 m (fP r) p) gx (fH W)),ED j]
def Js(x:Str){v:WY}(b:X7 x=cL v)(y:(∃id,v=.builtin id)\/∃ty,v=.type ty)(A:Jd TE)[z:CE T A]{r:CL->G V->Hp->VK->Prop}(n:∀{X:Cx},X.calm=S->Zf X v (r X.K))(k:∀{K E t},A K E t->J K E (tI (r K) (c8 t gM))):CE T J where
 chk Γ e:=(C9 Γ x e).any λy=>y.2.1.isEmpty&&z.chk Γ y.1
 ok c h:=by let((e,l,p,o),q,f):=aZ h;let(rfl,g,a):=jq q;simp only[WX,X4]at f;let(rfl,m):=f;let(t,j,i):=z.ok c m;show#[_,lH c g b y (n c.cm) a (ci j gx (dR a)),k i]
noncomputable instance[CE T (es d)]:CE T (es (qh d)):=Js "sorted" xh (.inl #[_,W]) (es d) (r:=λ_=>x4) L10.yH Fy
noncomputable instance[CE T (es d)]:CE T (es (tY d)):=Js "dict" L10.Ou (.inr #[_,W]) (es d) (r:=yC) L10.zm E4
def HL(i:Nat)(a:Gm)(e:Xx):Bool:=(vN e).any λx=>a.N[i]? ==cL x.1&&(a.sc.lookup x.1==cL .local||(a.sc.lookup x.1==cL .cell&&a.fc.contains x.1))
def pK{b:Gm}{X:Cx}{E:XK}{i:Nat}{e:Xx}(c:Ct T b X E)(h:HL i b e=S):∃x p,e=.Name x p/\X.N[i]?=cL x/\L2.Qo X.env.scope x/\(X.fn x=S\/Y6 x X.env.scope.names=cL Xw.local):=by
 let((x,p),q,a):=aZ h;simp only[WX,Yw]at a;show#[x,p,oY q,by rw[c.n];show beq_iff_eq.mp a.1,?_];ext L2.Qo;rw[c.sc];rcases a.2 with z|⟨z,w⟩
 .show#[.inl (eG z),.inr (eG z)]
 .show#[.inr (eG z),.inl (c.fc _ (aa5.mp w))]
def S3{G:Jd TG}(i:Nat)(k:∀{K E},G K E (oW i)):CG T G where
 chk:=HL i
 ok c h:=by let(x,p,rfl,e,b,a):=pK c h;show#[_,#[JB c.nd e b a,λ_=>W],k]
noncomputable instance:CG T (go (gN i)):=S3 i uV
noncomputable instance:CG T (FR (eA i)):=S3 i wA
def SM{G:Jd yy}(k:∀{K E},G K E J8):CH T G:=#[λ_ l=>l.isEmpty,λ_ h=>by rw[X4.mp h];show#[_,#[Kj,W,W],k]]
noncomputable instance:CH T (gs MU):=SM OX
noncomputable instance:CH T (QJ vg):=SM K6
def Tb{I:Jd yy}(G:Jd TG)(H:Jd yy)[x:CG T G][y:CH T H](k:∀{K E t u},G K E t->H K E u->I K E (Bq t u)):CH T I where
 chk Γ l:=match l with
  |e::r=>x.chk Γ e&&y.chk Γ r
  |[]=>W3
 ok c h:=by
  split at h
  .rw[WX]at h;let(o,(m,a),j):=x.ok c h.1;let(n,(i,f,b),g):=y.ok c h.2;show#[_,#[Hw m i (by rw[a];rfl),by rw[a,Xk,Xk,f],by rw[a,List.findIdx?_cons,b];rfl],k j g]
  .ext h
noncomputable instance[CG T (go g)][CH T (gs r)]:CH T (gs (Dv g r)):=Tb (go g) (gs r) Ju
noncomputable instance[CG T (FR g)][CH T (QJ r)]:CH T (QJ (jB g r)):=Tb (FR g) (QJ r) Ee
def Tq{I:Jd TG}(n:Nat)(H:Jd yy)[y:CH T H](k:∀{K E t},H K E t->I K E (K5 K n t)):CG T I where
 chk Γ e:=(KG e).any λl=>decide (l.length=n)&&y.chk Γ l
 ok c h:=by let(l,q,a):=aZ h;let(_,_,rfl):=BU q;simp only[WX,decide_eq_true_eq]at a;let(rfl,b):=a;let(t,(j,g,f),i):=y.ok c b;show#[_,#[QE c.cm j g f,λ_=>W],k i]
noncomputable instance[CH T (gs r)]:CG T (go (gT n r)):=Tq n (gs r) Rm
noncomputable instance[CH T (QJ r)]:CG T (FR (Hm n r)):=Tq n (QJ r) Lg
def TU(A:Jd TE){I:Jd TI}[x:CE T A]{f:CL->TE->TI}(p:∀{X:Cx} {d e t},PE X e t->PI X d e (f X.K t))(k:∀{K E t},A K E t->I K E (f K t)):CI T I where
 chk Γ p:=iL p.2&&x.chk Γ p.2
 ok c h:=by rw[WX]at h;let(t,b,a):=x.ok c h.2;show#[_,#[p b,h.1],k a]
noncomputable instance[CE T (eo a)]:CI T (io (iR a)):=TU (eo a) DU Rg
noncomputable instance[CE T (es a)]:CI T (RN (gB a)):=TU (es a) DU Jn
noncomputable instance[CI T (io f)]:CI T (Tk f):=wO (A:=io f) λh=>L3.IO.s h
noncomputable instance[CI T (io f)]:CI T (RN (ng f)):=wO (A:=io f) Fh
noncomputable instance[u:CA T (ao a)]:CI T (io (pp kJ a)) where
 chk L p:=(C9 L "range" p.2).any λy=>y.2.1.isEmpty&&u.chk L [y.1]
 ok {L X E p} c h:=by let((e,l,F,w),q,b):=aZ h;let(z,g,i):=jq q;simp only[WX,X4]at b;let(rfl,n):=b;let(r,o,_):=nQ c g;let(t,m,j):=u.ok c n;let(v,f):=p;let z:f=_:=z;subst z;show#[_,#[B5 r o m (dR i),W],KL j]
noncomputable instance[u:CA T (ao a)]:CI T (io (DA a)) where
 chk L p:=B2 p.1&&(C9 L "zip" p.2).any λy=>match y.2.1 with
  |[r]=>u.chk L [y.1,r]
  |_=>W3
 ok {L X E p} c h:=by
  rw[WX]at h;let((e,l,G,F),q,f):=aZ h.2;let(z,g,b):=jq q;let(w,v,_):=nQ c g;let(i,j):=p;let z:j=_:=z;subst z;let o:B2 i=S:=h.1
  match l,b,f with
  |[r],b,f=>let b:[e,r].all iL=S:=b;let(t,n,m):=u.ok c f;let(_,_,_,rfl):=xu o;show#[_,#[Qy w v n (dR b) (ip b),W],QA m]
end CC
set_option warn.classDefReducibility false
namespace CC
open PySem L2 L3 L10
variable{T:bg Fd}{A B C J:Jd TE}{U Z:Jd TA}{Q R:Jd TT}{G:Jd TG}{I:Jd TI}
noncomputable instance:CQ T (pB cQ):=#[λ_ l=>l.isEmpty,λ_ h=>by rw[X4.mp h];show#[_,xV,EF]]
noncomputable instance:CQ T (l9 oU):=#[λ_ l=>l.isEmpty,λ_ h=>by rw[X4.mp h];show#[_,xV,Fb]]
def Wl(Q:Jd TT)[z:CT T Q]:CQ T Q where
 chk Γ l:=match l with
  |[e]=>z.chk Γ e
  |_=>W3
 ok c h:=by
  split at h
  .let(t,b,a):=z.ok c h;show#[_,Hn b,a]
  .ext h
noncomputable instance[CT T (pB q)]:CQ T (pB q):=Wl (pB q)
def t0{b:Type}(P:Jd (St->Hp->b->Prop))(K:CL)(E:XK):St->Hp->b->Prop:=λa H Q=>∀t,P K E t->t a H Q
def g0(P:Jd TG)(K:CL)(E:XK):TG:=λv a H Q=>∀t,P K E t->t v a H Q
class Cl {τ:Type} (P:Jd (St->Hp->τ->Prop)):Prop where
 cl:∀{K E},P K E (t0 P K E)
class ClG (P:Jd TG):Prop where
 cl:∀{K E},P K E (g0 P K E)
noncomputable instance:Cl (eo g):=#[λB b O a H e Q R w _ h=>h B b O a H e Q R w]
noncomputable instance:Cl (es g):=#[λB a H α b e Q s l w _ h=>h B a H α b e Q s l w]
noncomputable instance:Cl (pB g):=#[λB b O a H e Q R w _ h=>h B b O a H e Q R w]
noncomputable instance:Cl (l9 g):=#[λB a H α b e Q s l w _ h=>h B a H α b e Q s l w]
noncomputable instance:ClG (go g):=#[λB b O a H e v pv Q R p w _ h=>h B b O a H e v pv Q R p w]
noncomputable instance:ClG (FR g):=#[λB a H α b e v x Q s l p w _ h=>h B a H α b e v x Q s l p w]
def Uw(e:Xx):bg Str:=((vN e).map (·.1)).toList++((KG e).getD []).filterMap λe=>(vN e).map (·.1)
def PY(l:bg (Str×Xw)):bg Str:=(l.filter λy=>y.2==Xw.cell&&l.all λp=> !(p.1==y.1)|| !(p.2==Xw.free)).map (·.1)
def UT(a:Gm)(l:bg (Str×Xw)):bg (Str×Xw):=l.map λp=>if(p.2==Xw.free&&(ScopeKind.function==ScopeKind.function)&&a.sc.lookup p.1==cL .cell)then(p.1,.cell)else p
def Gm.inn(a:Gm)(own:bg Str)(b:bg (Str×Nat))(sc:bg (Str×Xw)):Gm:={a with N:=own++b.map (·.1),sc:=UT a sc,rz:=W3,fa:=W3,fc:=PY sc}
def K7(b:Gm)(a:bg Nat):bg (Str×Nat):=a.filterMap λj=>(b.N[j]?).map λx=>(x,j)
def UN(a:Gm)(sc:Y9)(b:bg (Str×Nat)):Bool:=b.all λp=>a.N[p.2]? ==cL p.1&&sc.names.lookup p.1==cL .free&&(a.sc.lookup p.1==cL .cell||a.sc.lookup p.1==cL .free)
theorem NG{d:Gm}{X:Cx}{E:XK}{sc:Y9}(c:Ct T d X E):∀{g:bg (Str×Nat)},UN d sc g=S->acR X sc g
 |[],_=>trivial
 |p::r,h=>by unfold UN at h;simp only[YY,WX,Yw]at h;let(((f,e),b),a):=h;show#[#[by rw[c.n];show beq_iff_eq.mp f,eG e,?_],NG c a];rw[c.sc];show b.imp eG eG
theorem Br{env:Env}{y:Str}:∀{l:bg (Str×Xw)} {acc:bg (Str×M)},(∀p∈l,p.1=y->(p.2==Xw.free)=W3)->acc.lookup y=P->(gw env l acc).lookup y=P
 |[],_,_,h=>h
 |(n,k)::r,acc,h,f=>by
  let a:=λacc=>Br (env:=env) (y:=y) (l:=r) (acc:=acc) λp b=>h p (Xb _ b);ext gw;split
  .rename_i q
   let ne:n≠y:=λe=>by rw[h (n,k) W8 e]at q;ext q
   split
   .show a _ (by rw[X1,show(y==n)=W3 from beq_eq_false_iff_ne.mpr (c9 ne)];show f)
   .show a _ f
  .show a _ f
def D9{env:Env}{l:bg (Str×Xw)}{y:Str}(h:y∈PY l):((gw env l []).lookup y).isNone=S:=by
 let(p,f,rfl):=Xs.mp h;let(_,a):=YO.mp f;rw[WX]at a;rw[Br (λq b e=>?_) W]
 .rfl
 .let:=Yh.mp a.2 q b;rw[e,dN]at this;revert this;cases q.2==Xw.free<;>intro h<;>first|rfl|ext h
structure Lc(X:Cx)(E:XK)(n:Nat)(fj:bg Nat)(I:Jd TI)(G:Jd TG)(Q:Jd TT)(A:Jd TE)(sc:Y9)(elt:Xx)(cp:aak) where
 own:bg Str
 fv:bg (Str×Nat)
 wi:TI
 e:cp.is_async=0
 ln:own.length=n
 fj:fv.map (·.2)=fj
 pi:PI X cp.target cp.iter wi
 i:I X.K E wi
 pg:∀s H C fp,PG (cz X s H sc C (dP own fv) fp) cp.target (g0 G X.K E0)
 g:G X.K E0 (g0 G X.K E0)
 pq:∀s H C fp,y6 (cz X s H sc C (dP own fv) fp) cp.ifs (t0 Q X.K E0)
 q:Q X.K E0 (t0 Q X.K E0)
 pe:∀s H C fp,PE (cz X s H sc C (dP own fv) fp) elt (t0 A X.K E0)
 a:A X.K E0 (t0 A X.K E0)
 fvk:acR X sc fv
 fr:(sc.names.all λy=> !(y.2==Xw.free)||X.env.scope.names.lookup y.1==cL .cell||X.env.scope.names.lookup y.1==cL .free)=S
 kd:sc.kind=.function
 nd:(sc.names.map (·.1)).Nodup
 nm:∀y∈sc.names,y.2=.local->sc.names.lookup y.1=cL .local
 fold:∀z,foldedSetIterable cp.iter X.env z=pure z
def Jh(n:Nat)(d:bg Nat)(i:CI T I)(g:CG T G)(w:CQ T Q)(x:CE T A)(b:Gm)(elt:Xx)(c:aak)(sc:Y9):Bool:=
 let own:=Uw c.target
 let e:=K7 b d
 let a:=b.inn own e sc.names
 decide (own.length=n)&&decide (e.map (·.2)=d)&&decide (c.is_async=0)&&UN b sc e&&(sc.names.all λy=> !(y.2==Xw.free)||b.sc.lookup y.1==cL .cell||b.sc.lookup y.1==cL .free)&&decide (sc.kind=.function)&&decide ((sc.names.map (·.1)).Nodup)&&(sc.names.all λy=> !(y.2==Xw.local)||sc.names.lookup y.1==cL .local)&&decide ((own++e.map (·.1)).Nodup)&&i.chk b (c.target,c.iter)&&g.chk a c.target&&w.chk a c.ifs&&x.chk a elt
def zN[Cl A][Cl Q][ClG G]{i:CI T I}{g:CG T G}{w:CQ T Q}{x:CE T A}{n:Nat}{l:bg Nat}{d:Gm}{X:Cx}{E:XK}{m:Xx}{o:aak}{sc:Y9}(c:Ct T d X E)(h:Jh n l i g w x d m o sc=WZ):Nonempty (Lc X E n l I G Q A sc m o):=by
 unfold Jh at h;simp only[WX,decide_eq_true_eq]at h;let((((((((((((h1,h2),h3),k1),k2),k3),k4),k5),k6),Y),S),P),O):=h;let(K,(N,L),M):=i.ok c Y;let q:∀s H C b,Ct T (d.inn (Uw o.target) (K7 d l) sc.names) (cz X s H sc C (dP (Uw o.target) (K7 d l)) b) E0:=λs H C b=>
  #[W,k6,by show(relabel sc X.env).names=UT d sc.names;unfold relabel UT Env.kindOf;rw[c.kd,c.sc],k3,c.cm,c.rm,λz=>(aca z),λz=>(aca z),λy p=>D9 p,c.md,c.fs]
 show#[#[Uw o.target,K7 d l,K,h3,h1,h2,N,M,λs H C b=>?_,ClG.cl,λs H C b=>?_,Cl.cl,λs H C b=>?_,Cl.cl,NG c k1,?_,k3,k4,λy p e=>?_,uH L]]
 .let(t,(j,_),f):=g.ok (q s H C b) S;show λa s F H v u Q I r z=>j _ _ _ _ _ _ _ I r (z _ f)
 .let(t,j,f):=w.ok (q s H C b) P;show λa s F H Q I z=>j _ _ _ _ _ I (z _ f)
 .let(t,j,f):=x.ok (q s H C b) O;show λa s F H Q I z=>j _ _ _ _ _ I (z _ f)
 .rw[c.sc];show k2
 .let:=Yh.mp k5 y p;rw[e]at this;show eG this
def PP(e:Xx):bt (Xx×aak×Y9×Pos):=(VG e).bind λy=>match y.2.1 with
 |[a]=>cL (y.1,a,y.2.2)
 |_=>P
def Aj{e:Xx}{y:Xx×aak×Y9×Pos}(h:PP e=cL y):e=.ListComp y.1 [y.2.1] y.2.2.1 y.2.2.2:=by
 let((a,l,s,p),q,b):=X8.mp h;rw[Rz q]
 match l,b with
 |[f],b=>ext b;rfl
def SY(I:Jd TI)(G:Jd TG)(Q:Jd TT)(A:Jd TE)[Cl A][Cl Q][ClG G][i:CI T I][g:CG T G][w:CQ T Q][x:CE T A](n:Nat)(f:bg Nat)(k:∀{K E own v a g s d},own.length=n->v.map (·.2)=f->I K E a->G K E0 g->Q K E0 s->A K E0 d->J K E (tT own v a g s d)):CE T J where
 chk Γ e:=(PP e).any λy=>Jh n f i g w x Γ y.1 y.2.1 y.2.2.1
 ok c h:=by let((o,r,u,p),q,m):=aZ h;rw[Aj q];let⟨l⟩:=zN c m;let(t,b,j,as):=r;obtain rfl:as=0:=l.e;show#[_,Ar l.own l.fv c.cm l.pi l.pg l.pq l.pe l.fvk l.fr l.kd l.nd l.nm l.fold,k l.ln l.fj l.i l.g l.q l.a]
noncomputable instance[CI T (Tk f)][CG T (go g)][CQ T (pB q)][CE T (eo a)]:CE T (eo (dQ n l f g q a)):=SY (Tk f) (go g) (pB q) (eo a) n l xy
noncomputable instance[CI T (RN f)][CG T (FR g)][CQ T (l9 q)][CE T (es a)]:CE T (es (oZ n l f g q a)):=SY (RN f) (FR g) (l9 q) (es a) n l D1
end CC
set_option warn.classDefReducibility false
namespace CC
open PySem L2 L3 L10
variable{T:bg Fd}{A B C J:Jd TE}{U Z:Jd TA}{Q R:Jd TT}{G:Jd TG}{I:Jd TI}{S Y X:Jd TS}
def Tl:YL->bt (Xx×bg YL×bg YL)
 |.If c a b _=>cL (c,a,b)
 |_=>P
def FP:YL->bt (bt Xx)
 |.Return e _=>cL e
 |_=>P
def NW:YL->bt Xx
 |.Expr e _=>cL e
 |_=>P
def o0:YL->bt (Xx×Xx)
 |.Assign [t] e _=>cL (t,e)
 |_=>P
def zF:YL->bt (Xx×Xx×bg YL)
 |.For t i b [] _=>cL (t,i,b)
 |_=>P
def P9:YL->bt (Xx×bg YL)
 |.While c b [] _=>cL (c,b)
 |_=>P
def P4:YL->bt Xx
 |.Raise (cL e) P _=>cL e
 |_=>P
section
variable{s:YL}
def MF(h:Tl s=cL x):∃p,s=.If x.1 x.2.1 x.2.2 p:=by ext s<;>ext h<;>show#[_,W]
def wH(h:FP s=cL x):∃p,s=.Return x p:=by ext s<;>ext h<;>show#[_,W]
def G7(h:NW s=cL x):∃p,s=.Expr x p:=by ext s<;>ext h<;>show#[_,W]
def iU(h:o0 s=cL x):∃p,s=.Assign [x.1] x.2 p:=by unfold o0 at h;split at h<;>ext h;show#[_,W]
def wf(h:zF s=cL x):∃p,s=.For x.1 x.2.1 x.2.2 [] p:=by unfold zF at h;split at h<;>ext h;show#[_,W]
def My(h:P9 s=cL x):∃p,s=.While x.1 x.2 [] p:=by unfold P9 at h;split at h<;>ext h;show#[_,W]
def KK(h:P4 s=cL x):∃p,s=.Raise (cL x) P p:=by unfold P4 at h;split at h<;>ext h;show#[_,W]
end
def V3(S:Jd TS)[o:CU T S]:CS T S where
 chk Γ b:=match b with
  |[s]=>o.chk Γ s
  |_=>W3
 ok c h:=by
  split at h
  .let(t,e,a):=o.ok c h;show#[_,lW e,a]
  .ext h
noncomputable instance[CU T (so f)]:CS T (so f):=V3 (so f)
noncomputable instance[CU T (cT f)]:CS T (cT f):=V3 (cT f)
noncomputable instance:CS T (so eO):=#[λ_ b=>b.isEmpty,λ_ h=>by rw[X4.mp h];show#[_,Bm,LM]]
noncomputable instance:CS T (cT bN):=#[λ_ b=>b.isEmpty,λ_ h=>by rw[X4.mp h];show#[_,Bm,Eb]]
def Od(Y X:Jd TS)[o:CU T Y][n:CS T X](k:∀{K E t u},Y K E t->X K E u->S K E (GD t u)):CS T S where
 chk Γ b:=match b with
  |s::r=>o.chk Γ s&&n.chk Γ r
  |_=>W3
 ok c h:=by
  split at h
  .rw[WX]at h;let(t,g,f):=o.ok c h.1;let(i,e,a):=n.ok c h.2;show#[_,w9 g e,k f a]
  .ext h
noncomputable instance[CU T (so f)][CS T (so g)]:CS T (so (bK f g)):=Od (so f) (so g) Re
noncomputable instance[CU T (cT f)][CS T (cT g)]:CS T (cT (aC f g)):=Od (cT f) (cT g) J3
def NU(Q:Jd TT)(Y X:Jd TS)[z:CT T Q][m:CS T Y][n:CS T X](k:∀{K E c t u},Q K E c->Y K E t->X K E u->S K E (L5 c t u)):CU T S where
 chk Γ s:=(Tl s).any λy=>z.chk Γ y.1&&m.chk Γ y.2.1&&n.chk Γ y.2.2
 ok c h:=by let(y,q,a):=aZ h;let(_,rfl):=MF q;simp only[WX]at a;let(t,j,i):=z.ok c a.1.1;let(o,g,f):=m.ok c a.1.2;let(l,e,b):=n.ok c a.2;show#[_,Tc j g e,k i f b]
noncomputable instance[CT T (pB q)][CS T (so f)][CS T (so g)]:CU T (so (mv q f g)):=NU (pB q) (so f) (so g) ST
noncomputable instance[CT T (l9 q)][CS T (cT f)][CS T (cT g)]:CU T (cT (bS q f g)):=NU (l9 q) (cT f) (cT g) Ps
def Ni(A:Jd TE)[x:CE T A](k:∀{K E t},A K E t->S K E (Cf t)):CU T S where
 chk Γ s:=(FP s).any λy=>y.any (x.chk Γ)
 ok c h:=by let(y,q,i):=aZ h;let(e,a,g):=aZ i;let(_,rfl):=wH q;subst a;let(t,f,b):=x.ok c g;show#[_,yQ f,k b]
noncomputable instance[CE T (eo a)]:CU T (so (dH a)):=Ni (eo a) Rq
noncomputable instance[CE T (es a)]:CU T (cT (L10.gv a)):=Ni (es a) Lo
noncomputable instance:CU T (cT qu) where
 chk _ s:=(FP s).any (·.isNone)
 ok c h:=by let(y,q,a):=aZ h;let(_,rfl):=wH q;rw[Zz.mp a];show#[_,J6,EX]
def Ec(A:Jd TE)[x:CE T A](k:∀{K E t},A K E t->S K E (xH t)):CU T S where
 chk Γ s:=(NW s).any λe=>(iL e&& !Rr e)&&x.chk Γ e
 ok c h:=by let(y,q,a):=aZ h;let(_,rfl):=G7 q;let a:=(WX _ _).mp a;let(t,f,b):=x.ok c a.2;show#[_,zL f (AF a.1),k b]
noncomputable instance[CE T (eo a)]:CU T (so (rY a)):=Ec (eo a) Ki
noncomputable instance[CE T (es a)]:CU T (cT (bv a)):=Ec (es a) GM
def N6(i:Nat)(A:Jd TE)[x:CE T A](k:∀{K E t},A K E t->S K E (wP t (oW i))):CU T S where
 chk Γ s:=(o0 s).any λy=>(iL y.2&& !Rr y.2)&&(HL i Γ y.1&&x.chk Γ y.2)
 ok c h:=by let((f,e),q,a):=aZ h;let(_,rfl):=iU q;let a:=(WX _ _).mp a;let b:=(WX _ _).mp a.2;let(t,j,g):=x.ok c b.2;let(y,p,z,k1,k2,k3):=pK c b.1;let z:f=_:=z;subst z;show#[_,Fc c.nd k1 k2 j (AF a.1) k3,k g]
noncomputable instance[CE T (eo a)]:CU T (so (dU a (gN i))):=N6 i (eo a) λh=>HW h uV
noncomputable instance[CE T (es a)]:CU T (cT (cb a (eA i))):=N6 i (es a) λh=>AR h wA
def U0(A:Jd TE)(G:Jd TG)[x:CE T A][y:CG T G](k:∀{K E t g},A K E t->G K E g->S K E (wP t g)):CU T S where
 chk Γ s:=(o0 s).any λz=>kI z.2&&B2 z.1&&y.chk Γ z.1&&x.chk Γ z.2
 ok c h:=by let((m,e),q,a):=aZ h;let(_,rfl):=iU q;simp only[WX]at a;let(((b,j),i),f):=a;let(t,l,a):=x.ok c f;let(n,(k1,k3),k2):=y.ok c i;let(_,_,_,rfl):=xu j;show#[_,PM l k1 (Je b) (C2 b) (by rw[k3];rfl),k a k2]
noncomputable instance[CE T (es a)][CH T (QJ r)]:CU T (cT (cb a (Hm n r))):=U0 (es a) (FR (Hm n r)) AR
def RF{elt b sc x p n}{a:Pos}{env:Env}(h:env.kindOf x=cL .cell):Zy (.ListComp elt [b] sc a) (cL (.Name x p)) n env=pure W3:=by show(pure _:Sem Bool)=_;rw[h];congr 1;show(((_&&W3)&&_)&&_)=W3;rw[Bool.and_false];rfl
def Sj(I:Jd TI)(G:Jd TG)(Q:Jd TT)(A:Jd TE)[Cl A][Cl Q][ClG G][ii:CI T I][g:CG T G][w:CQ T Q][x:CE T A](n:Nat)(r:bg Nat)(i:Nat)(k:∀{K E own o b g j d},own.length=n->o.map (·.2)=r->I K E b->G K E0 g->Q K E0 j->A K E0 d->S K E (wP (tT own o b g j d) (oW i))):CU T S where
 chk Γ s:=(o0 s).any λz=>(vN z.1).any λv=>(PP z.2).any λy=>HL i Γ z.1&&(Γ.sc.lookup v.1==cL .cell||(Γ.sc.lookup v.1==cL .local&&v.2.line==y.2.2.2.line&& !(y.2.2.1.names.any λy=>y.1==v.1&&(y.2==.local||y.2==.cell))))&&Jh n r ii g w x Γ y.1 y.2.1 y.2.2.1
 ok c h:=by
  let((f,e),q,h2):=aZ h;let(_,rfl):=iU q;let((v,vp),N,h3):=aZ h2;let((elt,cp,sc,p),L,m):=aZ h3;let u:f=_:=oY N;let t:e=_:=Aj L;subst u t;simp only[WX,Zs,Yw]at m;let((hg,a),hc):=m;let(_,_,z,k1,k2,k3):=pK c hg;ext z;let⟨l⟩:=zN c hc;let(f,iter,ifs,as):=cp;obtain rfl:as=0:=l.e;show#[_,?_,k l.ln l.fj l.i l.g l.q l.a];rcases a with a|⟨⟨a,hp⟩,ha⟩
  .let a:=eG a;rw[<-c.sc]at a;show Fc c.nd k1 k2 (Ar l.own l.fv c.cm l.pi l.pg l.pq l.pe l.fvk l.fr l.kd l.nd l.nm l.fold) (RF a) k3
  .let a:=eG a;rw[<-c.sc]at a;show Kg l.own l.fv c.nd k1 a c.cm l.pi l.pg l.pq l.pe l.fvk l.fr (Sw c.kd a hp ha) l.kd l.nd l.nm l.fold
noncomputable instance[CI T (Tk f)][CG T (go g)][CQ T (pB q)][CE T (eo a)]:CU T (so (dU (dQ n l f g q a) (gN i))):=Sj (Tk f) (go g) (pB q) (eo a) n l i λo m j h e b=>HW (xy o m j h e b) uV
noncomputable instance{C f:Str}[x:CE T (es o)][y:CE T (es a)]:CU T (cT (eP C f o a)) where
 chk Γ s:=(o0 s).any λz=>(Sq z.1).any λw=>w.2.1==f&&Ko Γ C f&&iL z.2&&x.chk Γ w.1&&y.chk Γ z.2
 ok c h:=by let((i,e),q,F):=aZ h;let(_,rfl):=iU q;let((b,n,p),j,g):=aZ F;let z:i=_:=vi j;subst z;simp only[WX,beq_iff_eq]at g;let((((rfl,E),v),u),r):=g;let(L,m,l):=ur c E;let(t,k1,k2):=x.ok c u;let(H,k3,k4):=y.ok c r;show#[_,Rj k1 k3 (Sm v),Lm m l k2 k4]
noncomputable instance[x:CE T (es d)][y:CE T (es k)][z:CE T (es v)]:CU T (cT (uc d k v)) where
 chk Γ s:=(o0 s).any λr=>(wy r.1).any λw=>iL r.2&&x.chk Γ w.1&&y.chk Γ w.2.1&&z.chk Γ r.2
 ok c h:=by let((b,e),q,m):=aZ h;let(_,rfl):=iU q;let(w,f,a):=aZ m;let z:b=_:=ju f;subst z;simp only[WX]at a;let(((l,j),i),g):=a;let(t,k1,k2):=x.ok c j;let(o,k3,k4):=y.ok c i;let(n,k5,k6):=CK.ok c g;show#[_,Kp (UD c) k1 k3 k5 (Nj l),GR k2 k4 k6]
def MY(I:Jd TI)(G:Jd TG)(Y:Jd TS)[v:CI T I][y:CG T G][m:CS T Y](k:∀{K E d g t},I K E d->G K E g->Y K E t->S K E (C3 d g t)):CU T S where
 chk Γ s:=Γ.fa&&(zF s).any λz=>v.chk Γ (z.1,z.2.1)&&y.chk Γ z.1&&m.chk Γ z.2.2
 ok c h:=by rw[WX]at h;let(z,q,a):=aZ h.2;let(_,rfl):=wf q;simp only[WX]at a;let(t,(f,b),e):=v.ok c a.1.1;let(j,(k1,_),k2):=y.ok c a.1.2;let(i,k3,k4):=m.ok c a.2;show#[_,Hu (c.po h.1) c.cm f k1 k3 (uH b),k e k2 k4]
noncomputable instance[CI T (io f)][CG T (go g)][CS T (so b)]:CU T (so (sF f g b)):=MY (io f) (go g) (so b) Rt
noncomputable instance[CI T (RN f)][CG T (FR g)][CS T (cT b)]:CU T (cT (sg f g b)):=MY (RN f) (FR g) (cT b) K1
def gm(M:Md)(N:bg Str)(st:YL)(lv top:Nat)(a:Bool):Gm:=#[M,N,(au st).names,lv,a,WZ,PY (au st).names,top]
def UU(N a:bg Str)(sc:Y9):Bool:=decide (sc.kind=.function)&& !sc.isCoroutine&& !sc.isGenerator&&decide N.Nodup&&decide (N.take a.length=a)&&a.all (λx=>sc.names.lookup x==cL .local||sc.names.lookup x==cL .cell)&&sc.names.all (λy=> !(y.2==.free))
def uM{N c:bg Str}{sc:Y9}(h:UU N c sc=WZ):Zj N c sc:=by
 unfold UU at h;simp only[WX,decide_eq_true_eq,Zs]at h;let((((((n,m),l),j),i),g),f):=h;show#[n,m,l,j,i,λx b=>?_,λy a e=>?_]
 .let:=Yh.mp g x b;rw[Yw]at this;show this.imp eG eG
 .let:=Yh.mp f y a;rw[e]at this;ext this
section
variable{P:Xu}{w:XQ}{K:CL}{v:Str->bt WY}{base:Heap}{f:W7}{L:Yj}{M:Md}{Z x:Str}{N u:bg Str}{k n top:Nat}{y:YL}
def cj(T:bg Fd)(S:Jd TS)[c:CS T S](M:Md)(N u:bg Str)(y:YL)(k top:Nat)(a:Bool):Bool:=UU N u (au y)&&c.chk (gm M N y k top a) (bW y)
theorem V9(a:adq K v M)(fs:∀i L,i<top->T[i]?=cL L->L P w K v base)(S:Zj N u (au y)){c A outer s H E}(b:Y1 k (A.deeper (XX Z (au y) s.heap.objs.size f c))):Ct T (gm M N y k top W3) (fC kX P w K v base N Z (au y) f c A outer s H E).nox E:=
 #[W,S.nd,W,S.kind,W,b,λ_=>acL.never,λz=>aca z,λ_ _=>W,a,fs]
theorem VD(a:adq K v M)(fs:∀i L,i<top->T[i]?=cL L->L P w K v base)(S:Zj N u (au y)){c A outer s H E}(b:Y1 k (A.deeper (XX Z (au y) s.heap.objs.size f c))):Ct T (gm M N y k top WZ) (fC (L4.lu P w) P w K v base N Z (au y) f c A outer s H E) E:=
 #[W,S.nd,W,S.kind,W,b,λ_=>acL.leaving,λ_=>#[_,_,_,_,_,_,_,_,_,W],λ_ _=>W,a,fs]
def mn{g:FS}{b:FN}[c:CS T (so g)](e:adq K v M)(fs:∀i L,i<top->T[i]?=cL L->L P w K v base)(F:Fun K x Z y f L)(h:cj T (so g) M N u y k top W3=WZ)(d:u.length=n:=by rfl)(l:b=fA N.length g:=by rfl):FnOk P w K v base kX (k+1) f L u (Cv K n b):=by let h:=(WX _ _).mp h;let S:=uM h.1;show VO F S d W l λm A a s H E j=>c.ok (V9 e fs S j) h.2
def jD{g:dG}{b:fS}[c:CS T (cT g)](e:adq K v M)(fs:∀i L,i<top->T[i]?=cL L->L P w K v base)(F:Fun K x Z y f L)(h:cj T (cT g) M N u y k top W3=WZ)(d:u.length=n:=by rfl)(l:b=cI N.length g:=by rfl):FnOk P w K v base kX (k+1) f L u (kB K n b):=by let h:=(WX _ _).mp h;let S:=uM h.1;show V4 F S d W l λm A a s H E j=>c.ok (V9 e fs S j) h.2
def OJ{g:dG}{b:fS}[c:CS T (cT g)](e:adq K v M)(fs:∀i L,i<top->T[i]?=cL L->L P w K v base)(F:Fun K x Z y f L)(h:cj T (cT g) M N u y k top WZ=WZ)(d:u.length=n:=by rfl)(l:b=cI N.length g:=by rfl):FnOk P w K v base (L4.lu P w) (k+1) f L u (kB K n b):=by let h:=(WX _ _).mp h;let S:=uM h.1;show Vm F S d W l λm A a s H E j=>c.ok (VD e fs S j) h.2
end
section
variable{T:bg Fd}{P:Xu}{w:XQ}{K:CL}{mg:Str->bt WY}{base:Heap}
theorem WT:∀i fd,i<0->T[i]?=cL fd->fd P w K mg base:=λ_ _ h=>bb h (acC _)
theorem jy{n:Nat}{x:Fd}(h:∀i fd,i<n->T[i]?=cL fd->fd P w K mg base)(e:T[n]?=cL x)(a:x P w K mg base):∀i fd,i<n+1->T[i]?=cL fd->fd P w K mg base:=λi fd b q=>by
 rcases Nat.lt_succ_iff_lt_or_eq.mp b with z|rfl
 .show h i fd z q
 .rw[e]at q;ext q;show a
theorem look{α:Type}{R:Str->α->Prop}{y:Str}{e:α}{l:bg (Str×α)}(h:R y e)(r:∀x d,l.lookup x=cL d->R x d):∀x d,((y,e)::l).lookup x=cL d->R x d:=λx d q=>by
 rw[X1]at q;split at q
 .rename_i z;rw[beq_iff_eq]at z;ext q;rw[z];show h
 .show r x d q
abbrev S4(K:CL)(mg:Str->bt WY):Str->D->Prop:=λx d=>∃v u,mg x=cL u/\RelV v u/\∀O H,DV O K H v d
theorem WU:∀x d,([]:bg (Str×D)).lookup x=cL d->S4 K mg x d:=λ_ _ h=>nomatch h
theorem UP{y:Str}{e:D}{l:bg (Str×D)}(h:S4 K mg y e)(r:∀x d,l.lookup x=cL d->S4 K mg x d):∀x d,((y,e)::l).lookup x=cL d->S4 K mg x d:=look h r
theorem Vo{x:Str}{a:M}{d:D}(h:mg x=cL (.ref a))(k:∀O H,DV O K H (.ref a) d):S4 K mg x d:=#[.ref a,_,h,W,k]
theorem Wk:∀C L,([]:bg (Str×bg Str)).lookup C=cL L->kN K C L:=λ_ _ h=>nomatch h
theorem V2{y:Str}{e:bg Str}{l:bg (Str×bg Str)}(h:kN K y e)(r:∀x d,l.lookup x=cL d->kN K x d):∀x d,((y,e)::l).lookup x=cL d->kN K x d:=look h r
abbrev Wj(K:CL)(mg:Str->bt WY)(x:Str):Prop:=∃C,XH K Xv x=cL (cL (.ref C))/\mg x=cL (.ref C)/\Z0 K C Tm "ValueError.__new__"=WZ
theorem Wo:∀x∈([]:bg Str),Wj K mg x:=λ_ h=>nomatch h
end
end CC
set_option warn.classDefReducibility false
namespace CC
open PySem L2 L3 L10
variable{T:bg Fd}
def UC(n:String):Bool:=n== "int"||n== "bool"||n== "str"||n== "list"||n== "tuple"
def DS{n:String}(h:UC n=S):(n= "int"\/n= "bool"\/n= "str"\/n= "list"\/n= "tuple")/\X7 (Str.ofString n)=R (.type n):=by unfold UC at h;simp only[Yw,beq_iff_eq]at h;rcases h with(((rfl|rfl)|rfl)|rfl)|rfl<;>show#[by simp,W]
noncomputable instance[x:CE T (eo a)]:CE T (eo (C4 n a)) where
 chk L e:=(C9 L "isinstance" e).any λy=>match y.2.1 with
  |[b]=>(vN b).any (λz=>z.1==Str.ofString n)&&blt L (Str.ofString n)&&UC n&&x.chk L y.1
  |_=>U
 ok {L X E e} c h:=by
  let((e,l,K,J),q,j):=aZ h;let(rfl,g,i):=jq q
  match l,i,j with
  |[b],i,j=>simp only[WX]at j;let(((f,B),A),w):=j;let(z,p,f):=aZ f;let m:=oY p;let(o,I):=z;let f:=beq_iff_eq.mp f;let f:o=_:=f;subst f;let m:b=_:=m;subst m;let(k1,k2):=DS A;let(H,F,G,C):=nQ c B;let(t,u,r):=x.ok c w;simp only[YY,WX]at i;show#[_,lH c g lX (.inl #[_,W]) tL (by simp only[YY,WX];show i) (ci u (ci (zH (v:=.ty _) H F k2 W C G) gx (fH i.2.1)) (fH i.1)),Om k1 r]
end CC
set_option warn.classDefReducibility false
namespace CC
open PySem L2 L3 L10
variable{T:bg Fd}{A B C J:Jd TE}{U Z:Jd TA}{Q R:Jd TT}
def Vq(n:String)(x:Gm->Xx->Bool)(a:Gm)(e:Xx):Bool:=(C9 a "isinstance" e).any λy=>match y.2.1 with
  |[b]=>(vN b).any (λz=>z.1==Str.ofString n)&&blt a (Str.ofString n)&&UC n&&x a y.1
  |_=>W3
noncomputable instance[x:CE T (es a)]:CE T (es (FY n a)) where
 chk:=Vq n x.chk
 ok {Y X E e} c h:=by
  let((e,l,N,M),q,j):=aZ h;let(rfl,g,i):=jq q
  match l,i,j with
  |[b],i,j=>simp only[WX]at j;let(((f,F),y),w):=j;let(z,p,f):=aZ f;let m:=oY p;let(o,L):=z;let f:=beq_iff_eq.mp f;let f:o=_:=f;subst f;let m:b=_:=m;subst m;let(k1,k2):=DS y;let(K,H,I,G):=nQ c F;let(t,u,r):=x.ok c w;simp only[YY,WX]at i;show#[_,lH c g lX (.inl #[_,W]) tL (by simp only[YY,WX];show i) (ci u (ci (zH (v:=.ty _) K H k2 W G I) gx (fH i.2.1)) (fH i.1)),L10.KJ k1 r]
end CC
set_option warn.classDefReducibility false
namespace CC
open PySem L2 L3 L10
variable{T:bg Fd}{A B C J:Jd TE}{U Z:Jd TA}{Q R:Jd TT}
theorem sC{a:Gm}{X:Cx}{E:XK}(c:Ct T a X E):X.A.units+64<cLine:=c.rm.units
noncomputable instance:CE T (es rB) where
 chk _ e:=(Vb e).any λy=>y.1.isEmpty&&y.2.isEmpty
 ok _ h:=by let((k,v),q,a):=aZ h;let(_,rfl):=Ep q;simp only[WX,X4]at a;let(rfl,rfl):=a;show#[_,LD.pe_ddnew,Cn]
noncomputable instance[x:CE T (es a)][y:CE T (es b)]:CE T (es (JY a b)) where
 chk p e:=(Vb e).any λz=>match z.1,z.2 with
  |[cL k],[v]=>x.chk p k&&y.chk p v
  |_,_=>W3
 ok {p X E e} c h:=by
  let((g,r),q,f):=aZ h;let(_,rfl):=Ep q
  match g,r,f with
  |[cL k],[v],f=>simp only[WX]at f;let(o,m,l):=x.ok c f.1;let(n,j,i):=y.ok c f.2;show#[_,LD.pe_dd1 (sC c) m j,LU l i]
noncomputable instance[x:CE T (es d)][y:CE T (es k)]:CE T (es (jZ d k)) where
 chk Γ e:=(wy e).any λp=>iL p.2.1&&x.chk Γ p.1&&y.chk Γ p.2.1
 ok c h:=by let(p,q,a):=aZ h;simp only[WX]at a;let(l,i,g):=x.ok c a.1.2;let(j,f,b):=y.ok c a.2;rw[ju q];show#[_,LD.pe_ddget (sC c) i f (v7 a.1.1),Dk g b]
def Bw(op:aeH)(x y:Gm->Xx->Bool)(a:Gm)(e:Xx):Bool:=(RO op e).any λp=>x a p.1&&y a p.2
def T6(neg:Bool):aeH:=if neg then .NotIn else .In
def Fs{neg:Bool}[x:CE T (es k)][y:CE T (es d)]{l X E e}(c:Ct T l X E)(h:Bw (T6 neg) x.chk y.chk l e=S):∃t,PE X e t/\PT X e (tB t)/\bT X.K E t (qX neg k d):=by
 let(p,q,g):=aZ h;rw[WX]at g;let(_,rfl,a):=nt q;let(n,f,j):=x.ok c g.1;let(m,b,i):=y.ok c g.2;cases neg with
 |false=>show#[_,yT (LD.pc_ddin (sC c) f b) a,zi (LD.pc_ddin (sC c) f b) a,wG j i]
 |true=>show#[_,yT (LD.pc_ddnin (sC c) f b) a,zi (LD.pc_ddnin (sC c) f b) a,wG j i]
noncomputable instance[x:CE T (es k)][y:CE T (es d)]:CT T (l9 (aW (qX neg k d))):=#[Bw (T6 neg) x.chk y.chk,λc h=>let#[_,_,h1,a]:=Fs c h;#[_,h1,E3 a]]
def Fz[x:CE T (es a)][y:CE T (es b)]{d X E e}(c:Ct T d X E)(h:Bw .NotEq x.chk y.chk d e=S):∃t,PE X e t/\PT X e (tH t)/\bT X.K E t (tO a b):=by let(p,q,f):=aZ h;rw[WX]at f;let(_,rfl,g):=nt q;let(o,j,m):=x.ok c f.1;let(n,i,l):=y.ok c f.2;show#[_,uZ (LD.op_ddeq (sC c)) j i g,vf (LD.op_ddeq (sC c)) j i g,F9 m l]
noncomputable instance[x:CE T (es a)][y:CE T (es b)]:CT T (l9 (aW (tO a b))):=#[Bw .NotEq x.chk y.chk,λc h=>let#[_,_,h1,e]:=Fz c h;#[_,h1,jK e]]
noncomputable instance[x:CE T (es d)][y:CE T (es k)][z:CE T (es f)]:CE T (es (mW d k f)) where
 chk L e:=(PF "get" e).any λw=>x.chk L w.1&&match w.2.1 with
  |[e,f]=>y.chk L e&&z.chk L f
  |_=>W3
 ok {L X E e} c h:=by
  let((b,l,p,q),w,i):=aZ h;let(rfl,o,n,a,I):=nG w;rw[WX]at i;let(j,g):=i;let(Y,G,F):=x.ok c j
  match l,a,g with
  |[e,f],a,g=>let a:[e,f].all iL=S:=a;rw[WX]at g;let(N,v,u):=y.ok c g.1;let(H,t,r):=z.ok c g.2;show#[_,LD.pe_ddget2 (sC c) G v t #[fP o,mq a (by show 2<20;decide),n,?_],yp F u r];let m:[f].all iL=S:=(WX _ _▸a:_/\_).2;rw[dR a,dR m];rfl
noncomputable instance[CE T (es d)]:CE T (es (j8 d)):=Js "list" vA (.inr #[_,W]) (es d) (r:=λ_=>LD.rKeysL) LD.call_keysL yM
noncomputable instance[CE T (es d)]:CE T (es (nU d)):=Js "len" zY (.inl #[_,W]) (es d) (r:=LD.rLenDD) (λ_=>LD.call_lenDD) Dh
def EE[x:CE T (es a)]{d X E e}(c:Ct T d X E)(h:((RO .Is e).any λp=>x.chk d p.1&&(vC p.2).any λc=>match c with|.none=>S|_=>W3)=S):∃t,PE X e t/\PT X e (tH t)/\bT X.K E t (Gx a):=by let(p,q,f):=aZ h;rw[WX]at f;let(_,rfl,b):=nt q;let(j,g,i):=x.ok c f.1;let(k,k1,k2):=aZ f.2;let(_,_,k3):=Eh k1;ext k<;>ext k2;rw[k3]at b⊢;show#[_,uZ x8 g zr b,vf x8 g zr b,GZ i]
noncomputable instance[x:CE T (es a)]:CT T (l9 (aW (Gx a))):=#[_,λc h=>let#[_,_,h1,b]:=EE c h;#[_,h1,jK b]]
noncomputable instance[x:CE T (es d)][y:CE T (es k)][z:CE T (es v)]:CU T (cT (lz d k v)) where
 chk Γ s:=(o0 s).any λr=>(wy r.1).any λw=>iL r.2&&x.chk Γ w.1&&y.chk Γ w.2.1&&z.chk Γ r.2
 ok c h:=by let((b,e),q,m):=aZ h;let(_,rfl):=iU q;let(w,f,a):=aZ m;let z:b=_:=ju f;subst z;simp only[WX]at a;let(((l,j),i),g):=a;let(t,k1,k2):=x.ok c j;let(o,k3,k4):=y.ok c i;let(n,k5,k6):=CK.ok c g;show#[_,LD.ps_ddput (sC c) k1 k3 k5 (Nj l),Dn k2 k4 k6]
def Nd:YL->I (Xx×adG×Xx)
 |.AugAssign t o e _=>cL (t,o,e)
 |_=>P
def GW{s:YL}(h:Nd s=cL x):∃p,s=.AugAssign x.1 x.2.1 x.2.2 p:=by ext s<;>ext h<;>show#[_,W]
class IOp (f:D->D->I RV) where
 op:adG
 ok:∀{X:Cx},∃ti,UB X op ti/\kZ X.K ti f
noncomputable instance:IOp Pm:=#[.Add,#[_,IZ,Cu]]
noncomputable instance[o:IOp f][x:CE T (es a)]:CU T (cT (C6 i f a)) where
 chk Γ s:=(Nd s).any λy=>decide (y.2.1=o.op)&&(HL i Γ y.1&&x.chk Γ y.2.2)
 ok c h:=by let((g,op,e),q,b):=aZ h;let(_,rfl):=GW q;simp only[WX,decide_eq_true_eq]at b;let(rfl,u,r):=b;let(t,n,m):=x.ok c r;let(y,p,z,k1,k2,k3):=pK c u;let z:g=_:=z;subst z;let(v,l,j):=o.ok;show#[_,Po c.nd k1 k2 n l k3,L8 j m]
noncomputable instance[z:CT T (l9 q)][m:CS T (cT b)]:CU T (cT (uj q b)) where
 chk Γ s:=Γ.fa&&(P9 s).any λy=>z.chk Γ y.1&&m.chk Γ y.2
 ok c h:=by rw[WX]at h;let(y,q,a):=aZ h.2;let(_,rfl):=My q;rw[WX]at a;let(t,f,e):=z.ok c a.1;let(g,k1,k2):=m.ok c a.2;show#[_,EJ (c.po h.1) f k1,Dl e k2]
noncomputable instance[x:CE T (es d)][y:CG T (FR g)][m:CS T (cT b)]:CU T (cT (LD.forLS d g b)) where
 chk Γ s:=Γ.fa&&(zF s).any λz=>iL z.2.1&&x.chk Γ z.2.1&&y.chk Γ z.1&&m.chk Γ z.2.2
 ok c h:=by rw[WX]at h;let(z,q,a):=aZ h.2;let(_,rfl):=wf q;simp only[WX]at a;let(t,f,e):=x.ok c a.1.1.2;let(j,(k1,_),k2):=y.ok c a.1.2;let(i,k3,k4):=m.ok c a.2;show#[_,LD.ps_unpL (Hu (c.po h.1) c.cm (LD.pi_pinL f) k1 k3 (uH a.1.1.1)),LD.sos_forL e k2 k4]
def vD:D->V
 |.int i=>.int i
 |_=>.Zk
class ae8 (l:G D):Prop where
 h:∀K O H,YE O K H (l.map vD) l
noncomputable instance:ae8 []:=#[λ_ _ _=>.nil]
noncomputable instance[r:ae8 l]:ae8 (.int i::l):=#[λK O H=>.cons (.int i) (r.h K O H)]
abbrev IB(ds:G D)(lv:Nat)(x:Str)(b:G Str)(n:Nat)(F:fS):Fd:=λP w K a base=>ww P w K a base (L4.lu P w) lv x b (ds.map vD) (kB K n F)
noncomputable instance[a:ae8 ds][Fn T (IB ds) F n][CA T (as u)]:CE T (es (qp F n ds u)):=tE (as u) (IB ds) F n S λf x r g d p e b=>#[_,AD f r (x W) e (Xd _) g d (dR p) (ip p),Ce (λO H=>a.h _ O H) b]
noncomputable instance[a:ae8 ds][Fn T (IB ds) F n][CA T (as u)]:CE T (es (nW F n ds u)):=tE (as u) (IB ds) F n W3 λf x r g d p e b=>#[_,AD f r Gy e (Xd _) g d (dR p) (ip p),yB (λO H=>a.h _ O H) b]
def VT:Xx->Bool
 |.Call _ (_::_) _ _=>S
 |_=>W3
def Sh{o:Xx}{f:Str}{env:Env}(h:VT o=S):attributeBase o f env (eval o env)=eval o env:=by
 cases o with
 |Call b l e p=>cases l with
  |nil=>ext h
  |cons a r=>ext b<;>rfl
 |_=>ext h
noncomputable instance{C f:Str}[x:CE T (es (qp F n ds u))]:CE T (es (aU C f (qp F n ds u))) where
 chk Γ e:=(Sq e).any λy=>y.2.1==f&&Ko Γ C f&&VT y.1&&x.chk Γ y.1
 ok c h:=by let((o,n,p),q,a):=aZ h;rw[vi q];simp only[WX,beq_iff_eq]at a;let(((rfl,r),m),l):=a;let(L,g,b):=ur c r;let(t,j,i):=x.ok c l;show#[_,Gd j (Sh m),AI g b i]
abbrev Uj(lv:Nat)(C:Str)(b:G Str)(n:Nat)(F:fS):Fd:=λP w K a base=>wT P w K a base (L4.lu P w) lv C b (kB K n F)
class FKE (T:G Fd) (C:Str) (F:fS) (n:Nat) where
 i:Nat
 lv:Nat
 ps:G Str
 h:T[i]?=cL (Uj lv C ps n F)
noncomputable instance{C:Str}[o:FKE T C F n][x:CE T (es a)][u:CA T (as b)]:CE T (es (Dg C F n (ai a b))) where
 chk Γ e:=Γ.rz&&(Γ.M.cl.lookup C).isSome&&(RM Γ o.i (o.lv+1) C e).any λy=>CK.chk T PA (as (ai a b)) Γ (y.1::y.2.1)
 ok c h:=by simp only[WX]at h;let(L,l):=Y7.mp h.1.2;let(y,q,p):=aZ h.2;let(rfl,g,i,j,f):=rQ q;let(w,v,_):=nz c g;let(t,r,m):=CK.ok c p;show#[_,MW (c.fs _ _ i o.h) (GC c h.1.1) c.rm r j w v (dR f) (ip f),QX (c.md.cl _ _ l) m]
abbrev VR(lv:Nat)(x f:Str):Fd:=λP w K b base=>∃(C B fI:M) (e:Obj) (a:Yj) (g:G Str),L9.XC K C B fI/\K.lookup fI=cL e/\Zw K (.ref fI)=S/\FnOk P w K b base kX lv fI a g (L9.vQ C f)/\Binds K a g []/\XH K Xv x=cL (cL (.ref C))/\b x=cL (.ref C)
class FX (T:G Fd) (x f:Str) where
 i:Nat
 lv:Nat
 h:T[i]?=cL (VR lv x f)
noncomputable instance{k f:Str}[o:FX T k f][x:CE T (es a)]:CU T (cT (nc k f a)) where
 chk i s:=i.rz&&(P4 s).any λe=>(RM i o.i (o.lv+1) k e).any λy=>y.2.1.isEmpty&&x.chk i y.1
 ok {i X E s} c h:=by rw[WX]at h;let(S,P):=h;let(e,q,O):=aZ P;let(_,rfl):=KK q;let((e0,l,p1,p2),w,b):=aZ O;let(rfl,g,hi,K,n):=rQ w;simp only[WX,X4]at b;let(rfl,b):=b;let(v,Y,_):=nz c (x:=k) g;let(C,B,fI,oI,fdI,ps,L,H,I,FI,bI,F,G):=c.fs _ _ hi o.h;let(t,u,M):=x.ok c b;let r:=c.rm.mono K;let(N,p,j,f,cd,A,m,s0,H0,e):=c.px S;show#[_,?_,yj F M];rw[e]at v u r⊢;show L9.Dm L H I FI bI r v G (ci u gx (dR n)) Y (dR n) (ip n)
def NB{P:Xu}{w:XQ}{K:CL}{q:Str->I WY}{base:Heap}{f:W7}{fd:Yj}{M:Md}{a x:Str}{N d:G Str}{k n top:Nat}{st:YL}{g:dG}{e:fS}{TT:W7}{o:Array WY}[c:CS T (cT g)](j:adq K q M)(fs:∀i fd,i<top->T[i]?=cL fd->fd P w K q base)(F:adm K x a st f fd TT o)(h:cj T (cT g) M N d st k top WZ=WZ)(r:d.length=n:=by rfl)(m:e=cI N.length g:=by rfl):FnOk P w K q base (L4.lu P w) (k+1) f fd d (kB K n e):=by let h:=(WX _ _).mp h;let S:=uM h.1;show SN F S r W m λp A b s H E l=>c.ok (VD j fs S l) h.2
end CC
namespace M02
inductive Con(E:G (Nat×Nat))(r0:Nat):Bool->Nat->Prop
 |base:Con E r0 S r0
 |col {r c:Nat}:Con E r0 S r->(r,c)∈E->Con E r0 U c
 |row {r c:Nat}:Con E r0 U c->(r,c)∈E->Con E r0 S r
def has(n c:Nat):Prop:=n.testBit c=S
structure Nums(E:G (Nat×Nat))(R C:Nat)(ns:G Nat):Prop where
 len:ns.length=R
 lt:∀n∈ns,n<2^C
 own:∀r c,(r,c)∈E->has (ns.getD r 0) c
 snd:∀r,r<R->∀c,has (ns.getD r 0) c->Con E r U c
abbrev NF:=G Nat×G Nat
structure aqd(E:G (Nat×Nat))(r0:Nat)(s:NF):Prop where
 a:r0∈s.1
 n:∀x∈s.1,Con E r0 S x
 f:∀x∈s.2,Con E r0 U x
 d:s.2.Nodup
 d1:s.1.Nodup
structure api(R C:Nat)(ss:G (Nat×Nat)):Prop where
 r1:1<=R
 r6:R<=6
 c1:1<=C
 c6:C<=6
 l1:1<=ss.length
 l12:ss.length<=12
 nd:ss.Nodup
 inn:∀s∈ss,s.1<R/\s.2<C
end M02
local macro_rules(kind:=«term{_}»)|`({$a})=>`(L3.aa $a L3.am)|`({$a,$b})=>`(L3.aa $a (L3.aa $b L3.am))|`({$a,$b,$c})=>`(L3.aa $a (L3.aa $b (L3.aa $c L3.am)))|`({$a,$b,$c,$d})=>`(L3.aa $a (L3.aa $b (L3.aa $c (L3.aa $d L3.am))))
local macro_rules|`(~~~$n)=>`(L3.pC (.int $n))
namespace STP
open PySem L2 L3
def gX:FS:=(bK (mv (az (aB lK (aB bc (ad 0) (~~~2)) (pC .none))) (dH (aB bc (ad 0) (~~~2))) eO)
 (dH (g9 (L10.BR 0) {dQ 2 [] (iR (aB bc (ad 0) (~~~0))) (gT 2 (Dv (gN 0) (Dv (gN 1) MU))) (az (aB cJ (aB bc (ad 1) (~~~0)) (pC (.str "layer")))) (aB bc (ad 1) (~~~1))})))
def dA:FN:=fA 1 gX
def gj:FS:=(bK (dU (aB bc (aB bc (aB bc (ad 0) (~~~1)) (ad 1)) (ad 2)) (gN 3))
 (bK (mv (az (aB cJ (aB bc (ad 3) (~~~0)) (pC (.str "below")))) (dH (aB bc (aB bc (aB bc (ad 0) (~~~1)) (~~~0)) (ad 2))) eO)
 (dH (ad 3))))
def iu:FN:=fA 4 gj
def d8:FS:=(dH (dQ 1 [1] (iR (aB bc (ad 0) (~~~2))) (gN 0) (az (g9 Cr {dQ 1 [0] (iR (ad 1)) (gN 0) cQ (aB IH (ad 0) (aB bc (ad 1) (~~~0)))})) (ad 0)))
def bA:FN:=fA 2 d8
def eW:FS:=(bK (sF (iR (aB bc (ad 0) (~~~2))) (gN 2) (mv (az (aB cJ (g9 sM {aB bc (ad 2) (~~~0)}) (g9 L9.fL {ad 1}))) (dH (aB bP (dI {aV {pC (.str "letter"),aB bc (ad 2) (~~~1)}}) (aB iE (dI {pC (.tuple [(.str "none")])}) (aB sL (g9 dY {ad 1}) (~~~1))))) eO))
 (dH (dQ 1 [0] (iR (ad 1)) (gN 0) cQ (aB bc (aB bc (aB bc (ad 1) (~~~1)) (~~~0)) (ad 0)))))
def fq:FN:=fA 3 eW
open L10
def eC:dG:=(aC (eP "Hand" "bed" (aq 0) (ae (ad 1)))
 (aC (eP "Hand" "acts" (aq 0) (tY (ae (aB bc (ad 2) (~~~0)))))
 (aC (eP "Hand" "waiting" (aq 0) (ae (aB bc (ad 2) (~~~1))))
 (aC (eP "Hand" "once" (aq 0) (ae (aB bc (ad 2) (~~~2))))
 (eP "Hand" "sent" (aq 0) (ae (dI am)))))))
def df:fS:=cI 3 eC
def fQ:dG:=(gv (mE (ai (yk lR (ai (oZ 1 [0] (gB (qh (aU "Hand" "acts" (aq 0)))) (eA 0) oU (mE (ai (ae (ad 0)) (ai (rN (aU "Hand" "acts" (aq 1)) (ae (ad 0))) aI)))) aI)) (ai (aU "Hand" "waiting" (aq 0)) (ai (aU "Hand" "once" (aq 0)) aI)))))
def bz:fS:=cI 1 fQ
def dj:dG:=(gv (wq (jo lK (aU "Hand" "waiting" (aq 0)) (ae (pC .none))) (jo IH (ae (ad 1)) (iZ (aU "Hand" "waiting" (aq 0)) (ae (~~~0))))))
def bX:fS:=cI 2 dj
def eZ:dG:=(gv (jo IH (ae (ad 1)) (xG (aU "Hand" "acts" (aq 0)))))
def bF:fS:=cI 2 eZ
def ia:dG:=(aC (bS (lU (bp (az (aB cJ (aB bc (ad 2) (~~~0)) (pC (.str "letter"))))) (qJ (aW (aM "Hand" "has_act" bF 2 (aq 0) (ai (ae (ad 2)) aI))))) (bv (l7 (aU "Hand" "sent" (aq 0)) (ae (aV {aB bc (ad 2) (~~~1),pC (.str "down")})))) bN)
 (uc (aU "Hand" "acts" (aq 0)) (ae (ad 1)) (ae (ad 2))))
def br:fS:=cI 3 ia
def kz:dG:=(aC (cb (ub (aU "Hand" "acts" (aq 0)) (ae (ad 1))) (eA 2))
 (bS (lU (bp (az (aB cJ (aB bc (ad 2) (~~~0)) (pC (.str "letter"))))) (qJ (aW (aM "Hand" "has_act" bF 2 (aq 0) (ai (ae (ad 2)) aI))))) (bv (l7 (aU "Hand" "sent" (aq 0)) (ae (aV {aB bc (ad 2) (~~~1),pC (.str "up")})))) bN))
def iX:fS:=cI 3 kz
def fV:dG:=(aC (cb (iZ (aU "Hand" "waiting" (aq 0)) (ae (~~~0))) (eA 1))
 (aC (cb (iZ (aU "Hand" "waiting" (aq 0)) (ae (~~~2))) (eA 2))
 (aC (eP "Hand" "waiting" (aq 0) (ae (pC .none)))
 (aC (cb (qA (EW (bp (az (aB cJ (ad 2) (pC (.tuple [(.str "chord")]))))) (hG fq 2 (ai (aU "Hand" "bed" (aq 0)) (ai (ae (ad 1)) aI))) (ae (dI {aV {pC (.str "layer"),aB bc (ad 2) (~~~2)}})))) (eA 3))
 (sg (ng (DA {ad 1,ad 3})) (Hm 2 (jB (eA 4) (jB (eA 5) vg))) (bv (aM "Hand" "come" br 3 (aq 0) (ai (ae (ad 4)) (ai (ae (ad 5)) aI)))))))))
def cH:fS:=cI 6 fV
def cV:dG:=(aC (bS (wa (aW (jo oj (aU "Hand" "waiting" (aq 0)) (ae (pC .none)))) (wa (aW (jo pS (iZ (aU "Hand" "waiting" (aq 0)) (ae (~~~2))) (ae (pC (.tuple [(.str "chord")]))))) (aW (jo pS (hG dA 1 (ai (aM "Hand" "stands" bz 1 (aq 0) aI) aI)) (ae (~~~0)))))) (gv (ae (pC (.bool U)))) bN)
 (gv (jo pS (hG bA 2 (ai (aU "Hand" "bed" (aq 0)) (ai (jo bP (iZ (aU "Hand" "waiting" (aq 0)) (ae (~~~0))) (ae (aV {ad 1}))) aI))) (ae (dI am)))))
def cX:fS:=cI 2 cV
def cN:dG:=(aC (cb (jo bP (iZ (aU "Hand" "waiting" (aq 0)) (ae (~~~0))) (ae (aV {ad 1}))) (eA 2))
 (aC (eP "Hand" "waiting" (aq 0) (mE (ai (ae (ad 2)) (ai (iZ (aU "Hand" "waiting" (aq 0)) (ae (~~~1))) (ai (ae (pC (.tuple [(.str "chord")]))) aI)))))
 (bS (aW (jo cJ (oZ 1 [] (gB (hG bA 2 (ai (aU "Hand" "bed" (aq 0)) (ai (ae (ad 2)) aI)))) (eA 0) oU (ae (g9 dY {aB bc (ad 0) (~~~0)}))) (ae (dI {g9 dY {ad 2}})))) (bv (aM "Hand" "decide" cH 1 (aq 0) aI)) bN)))
def cO:fS:=cI 3 cN
def gF:dG:=(aC (cb (hG dA 1 (ai (aM "Hand" "stands" bz 1 (aq 0) aI) aI)) (eA 2))
 (aC (cb (hG iu 3 (ai (aU "Hand" "bed" (aq 0)) (ai (ae (ad 2)) (ai (ae (ad 1)) aI)))) (eA 3))
 (aC (cb (ae (aB bc (ad 3) (~~~0))) (eA 4))
 (aC (bS (bp (az (aB uU (ad 4) (aV {pC (.str "layer"),pC (.str "once")})))) (eP "Hand" "once" (aq 0) (ae (pC .none))) bN)
 (bS (bp (az (aB cJ (ad 4) (pC (.str "tap"))))) (eP "Hand" "waiting" (aq 0) (ae (aV {aV {ad 1},~~~0,ad 3}))) (bS (lU (bp (az (aB cJ (ad 4) (pC (.str "letter"))))) (lU (bp (az (aB cJ (ad 2) (~~~0)))) (aW (jo pS (hG bA 2 (ai (aU "Hand" "bed" (aq 0)) (ai (ae (aV {ad 1})) aI))) (ae (dI am)))))) (eP "Hand" "waiting" (aq 0) (ae (aV {aV {ad 1},~~~0,pC (.tuple [(.str "chord")])}))) (bS (bp (az (aB cJ (ad 4) (pC (.str "once"))))) (aC (bv (aM "Hand" "come" br 3 (aq 0) (ai (ae (ad 1)) (ai (ae (pC (.tuple [(.str "none")]))) aI))))
 (eP "Hand" "once" (aq 0) (ae (aB bc (ad 3) (~~~1))))) (bv (aM "Hand" "come" br 3 (aq 0) (ai (ae (ad 1)) (ai (ae (ad 3)) aI)))))))))))
def eY:fS:=cI 5 gF
def gJ:dG:=(aC (bS (wa (aW (sB U (ae (ad 1)) (aU "Hand" "acts" (aq 0)))) (aW (aM "Hand" "is_waiting" bX 2 (aq 0) (ai (ae (ad 1)) aI)))) qu bN)
 (aC (bS (aW (aM "Hand" "makes_chord" cX 2 (aq 0) (ai (ae (ad 1)) aI))) (aC (bv (aM "Hand" "put_to_chord" cO 2 (aq 0) (ai (ae (ad 1)) aI)))
 qu) bN)
 (aC (bS (aW (jo lK (aU "Hand" "waiting" (aq 0)) (ae (pC .none)))) (bv (aM "Hand" "decide" cH 1 (aq 0) aI)) bN)
 (bv (aM "Hand" "begin" eY 2 (aq 0) (ai (ae (ad 1)) aI))))))
def gD:fS:=cI 2 gJ
def fT:dG:=(aC (cb (iZ (aU "Hand" "waiting" (aq 0)) (ae (~~~2))) (eA 2))
 (bS (bp (az (aB cJ (ad 2) (pC (.tuple [(.str "chord")]))))) (bv (aM "Hand" "decide" cH 1 (aq 0) aI)) (aC (eP "Hand" "waiting" (aq 0) (ae (pC .none)))
 (bv (aM "Hand" "come" br 3 (aq 0) (ai (ae (ad 1)) (ai (ae (aV {pC (.str "letter"),aB bc (ad 2) (~~~1)})) aI)))))))
def fO:fS:=cI 3 fT
def ib:dG:=(aC (bS (aW (aM "Hand" "is_waiting" bX 2 (aq 0) (ai (ae (ad 1)) aI))) (bv (aM "Hand" "settle" fO 2 (aq 0) (ai (ae (ad 1)) aI))) bN)
 (bS (aW (sB U (ae (ad 1)) (aU "Hand" "acts" (aq 0)))) (bv (aM "Hand" "go" iX 2 (aq 0) (ai (ae (ad 1)) aI))) bN))
def iq:fS:=cI 2 ib
def eS:dG:=(aC (bS (aW (jo oj (aU "Hand" "waiting" (aq 0)) (ae (pC .none)))) qu bN)
 (aC (cb (jo bP (iZ (aU "Hand" "waiting" (aq 0)) (ae (~~~1))) (ae (~~~1))) (eA 1))
 (aC (eP "Hand" "waiting" (aq 0) (mE (ai (iZ (aU "Hand" "waiting" (aq 0)) (ae (~~~0))) (ai (ae (ad 1)) (ai (iZ (aU "Hand" "waiting" (aq 0)) (ae (~~~2))) aI)))))
 (bS (aW (jo cJ (ae (ad 1)) (iZ (aU "Hand" "bed" (aq 0)) (ae (~~~3))))) (bv (aM "Hand" "decide" cH 1 (aq 0) aI)) bN))))
def eU:fS:=cI 2 eS
def v5:dG:=(aC (cb (rh "Hand" df 3 (ai (ae (ad 0)) (ai (ae (ad 1)) aI))) (eA 3))
 (aC (bS (bp (az (aB cJ (aB bc (ad 2) (~~~0)) (pC (.str "turn"))))) (bv (aM "Hand" "wait_on" eU 1 (aq 3) aI)) (bS (bp (az (aB cJ (aB bc (ad 2) (~~~0)) (pC (.str "down"))))) (bv (aM "Hand" "press" gD 2 (aq 3) (ai (ae (aB bc (ad 2) (~~~1))) aI))) (bv (aM "Hand" "lift" iq 2 (aq 3) (ai (ae (aB bc (ad 2) (~~~1))) aI)))))
 (gv (mE (ai (aU "Hand" "sent" (aq 3)) (ai (aM "Hand" "stands" bz 1 (aq 3) aI) aI))))))
def lL:fS:=cI 4 v5
end STP
local macro_rules| `(tactic|ext:4)=> `(tactic|·first|((simp only[aeM,aeN]);rfl)|rfl)| `(tactic|ext:3)=> `(tactic|first|with_reducible assumption|change L3.eV _ _|change L3.zy _ _|change L3.nJ _ _|change L3.aiP _ _|change L3.xI _ _|change L3.Ae _ _|change L3.yn _ _|change L3.akC _ _|change L3.jp _ _|change L3.vK _ _|change L3.afc _ _|change L3.afd _ _|change L3.ajt _ _|change L3.ajx _ _|change L3.uC _ _|change L3.ajw _ _|change L3.ajX _ _|change L3.aiW _ _|change L3.vU _ _|change L3.aiv _ _|change L3.aii _ _|change L3.aj3 _ _|change L3.alQ _ _|change L3.iG|change L3.jR|change L3.nI|change L3.aqW|change L3.aq4|change L3.anQ|change L3.jG _|change L3.iP _|(with_reducible rfl))| `(tactic|ext:0)=> `(tactic|first
 |change L3.aw
 |((with_reducible apply L3.af);rfl)
 |((with_reducible apply L3.lf);rfl)
 |change L3.av
 |change L3.ri
 |((with_reducible apply L3.aD);(·ext:0);(·ext:0);(·rfl);(·rfl);(·ext:3))
 |((with_reducible apply L3.anC);(·ext:0);(·rfl);(·rfl))
 |((with_reducible apply L3.ah);(·ext:0);(·ext:0))
 |((with_reducible apply L3.bh);(·ext:0);(·rfl))
 |((with_reducible apply L3.gq);(·ext:0);(·rfl);(·first|ext:3|rfl))
 |((with_reducible apply L3.ce);(·ext:0);(·rfl);(·rfl);(·with_reducible assumption))
 |((with_reducible apply L3.bq);(·ext:0);(·rfl);(·exact W5 rfl))
 |((with_reducible apply L3.lh);(·ext:0);(·rfl);(·exact W5 rfl))
 |((with_reducible apply L3.DP);(·ext:0);(·rfl);(·rfl))
 |((with_reducible apply L3.gW);(·ext:0);(·rfl))
 |((with_reducible apply L3.xp);(·ext:0);(·ext:0);(·ext:0);(·rfl);(·first|with_reducible assumption|rfl))
 |((with_reducible apply L3.BX);(·ext:0))
 |((with_reducible apply L3.AX);(·ext:0);(·intro _;ext:0))
 |((with_reducible apply L3.alU);(·ext:0);(·intro _;ext:0))
 |((with_reducible apply L3.ajZ);(·ext:0))
 |((with_reducible apply L3.af6);(·ext:0);(·intro _;ext:0))
 |((with_reducible apply L3.agU);(·ext:0);(·intro _;ext:0))
 |((with_reducible apply L3.Jz);(·ext:0);(·rfl);(·first|with_reducible assumption|rfl))
 |((with_reducible apply L3.gH);(·ext:0);(·rfl);(·rfl))
 |((with_reducible apply L3.aiw);(·ext:0);(·rfl);(·rfl))
 |((with_reducible apply L3.Hq);(·rfl);(·ext:0);(·rfl);(·rfl);(·first|with_reducible assumption|(simp only[Y5,Xk,L3.di] at*;ext));ext:4)
 |((with_reducible apply L3.ak9);(·rfl);(·ext:0);(·rfl);(·rfl);(·with_reducible assumption);(·with_reducible assumption);(·with_reducible assumption);ext:4)
 |((with_reducible apply L3.zA);(·ext:0);(·rfl);ext:4)
 |((with_reducible apply L3.BS);(·ext:0))
 |((with_reducible apply L3.uS);(·ext:0);(·rfl)))
local macro_rules| `(tactic|ext:7)=> `(tactic|first
 |((with_reducible apply L3.al7);(·ext:0);(·ext:0);(·rfl);(·rfl);(·ext:3))
 |((with_reducible apply L3.ajY);(·ext:0);(·rfl);(·rfl);(·with_reducible assumption))
 |((with_reducible apply L3.alD);(·ext:0);(·rfl);(·first|ext:3|rfl))
 |ext:0)
local macro_rules| `(tactic|ext:0)=> `(tactic|first
 |with_reducible assumption
 |((with_reducible apply L3.af6);(·ext:0);(·intro _;ext:7))
 |((with_reducible apply L3.agU);(·ext:0);(·intro _;ext:7))
 |((with_reducible apply L3.aiY);(·ext:0);(·ext:0);(·ext:0);(·rfl);(·rfl);(·rfl);(·ext:3);(·intro _;ext:3))
 |((with_reducible apply L3.BN);(·ext:0);(·rfl);(·rfl);(·rfl)))
local macro_rules| `(tactic|ext:1)=> `(tactic|first
 |((with_reducible apply L3.cx);(·ext:0);(·rfl);ext:4;try ext:1)
 |((with_reducible apply L3.ajg);(·ext:0);try ext:1)
 |((with_reducible apply L3.al3);try ext:1)
 |((with_reducible apply L3.fR);try ext:1)
 |((with_reducible apply L3.ji);(·ext:0);(·rfl))
 |((with_reducible apply L3.oP);(·ext:0))
 |((with_reducible apply L3.ala);(·ext:0);(·rfl);ext:4)
 |((with_reducible apply L3.Bg);(·ext:0))
 |((with_reducible apply L3.dS);(·ext:0);(·rfl))
 |((with_reducible apply L3.N9);(·ext:0))
 |(with_reducible apply L3.BB))
namespace STP
open PySem L2 L3
def dJ(c:Nat):Str:=#[#v[97+c]]
inductive Mn where
 |XB (c:Nat)
 |Ze (n:Int)
 |tap (c:Nat) (n:Int)
 |once (n:Int)
 |none
 |below
 deriving DecidableEq
def mD:Mn->D
 |.XB c=>.tuple [.str "letter",.str (dJ c)]
 |.Ze n=>.tuple [.str "layer",.int n]
 |.tap c n=>.tuple [.str "tap",.str (dJ c),.int n]
 |.once n=>.tuple [.str "once",.int n]
 |.none=>.tuple [.str "none"]
 |.below=>.tuple [.str "below"]
def VM(L a:Int):Mn->Prop
 |.XB c=>c<26
 |.Ze n=>1<=n/\n<a
 |.tap c n=>c<26/\1<=n/\n<a
 |.once n=>1<=n/\n<a
 |.none=>True
 |.below=>L≠0
def Mn.isL:Mn->Bool
 |.XB _=>S
 |_=>U
structure Bd where
 n:Int
 ls:G (G Mn)
 cs:G (G Nat×Nat)
 wt:Int
def ku(l:G Mn):D:=.tuple (l.map mD)
def cj(c:G Nat×Nat):D:=.tuple [.tuple (aY c.1),.str (dJ c.2)]
def bD(b:Bd):D:=.tuple [.int b.n,.tuple (b.ls.map ku),.tuple (b.cs.map cj),.int b.wt]
def VL(n a:Int)(b:G (G Mn)):Prop:=∀(i:Nat) l,b[i]?=R l->(l.length:Int)=n/\∀m∈l,VM i a m
def pE(l0:G Mn)(k:Nat):Bool:=(l0[k]?.map Mn.isL).getD U
def VC(l0:G Mn)(c:G Nat×Nat):Prop:=2<=c.1.length/\c.1.Pairwise (·<·)/\(∀k∈c.1,pE l0 k=S)/\c.2<26
structure VB(b:Bd):Prop where
 n1:1<=b.n
 n5:b.n<=5
 l1:1<=b.ls.length
 l3:b.ls.length<=3
 vl:VL b.n b.ls.length b.ls
 c4:b.cs.length<=4
 vc:∀c∈b.cs,VC (b.ls.headD []) c
 cu:b.cs.Pairwise λa c=>a.1≠c.1
 w1:1<=b.wt
 w4:b.wt<=4
def wn:Mn->Nat
 |.XB _=>0
 |.Ze _=>1
 |.tap _ _=>2
 |.once _=>3
 |.none=>4
 |.below=>5
def ws:Nat->Str
 |0=> "letter"
 |1=> "layer"
 |2=> "tap"
 |3=> "once"
 |4=> "none"
 |_=> "below"
def wd(m:Mn):Str:=ws (wn m)
def oV(m:Mn):wn m<6:=by ext m<;>show W5 W
def pc(m:Mn):bc (mD m) (.int 0)=R (.fz (.str (wd m))):=by ext m<;>show iG
theorem N8(m:Mn):Xa.strOk (wd m)=S:=(by left:∀i,i<6->Xa.strOk (ws i)=S) _ (oV m)
def wU:∀i,i<6->∀j,j<6->(ws i==ws j)=decide (i=j):=by left
def xi(m:Mn)(j:Nat)(a:j<6):cJ (.str (wd m)) (.str (ws j))=R (.fz (.bool (decide (wn m=j)))):=by rw[OO (N8 m) ((by left:∀i,i<6->Xa.strOk (ws i)=S) j a)];ext wd;rw[wU _ (oV m) _ a]
def Mn.isB:Mn->Bool
 |.below=>S
 |_=>U
def Mn.aeF:Mn->Bool
 |.Ze _=>S
 |_=>U
def Mn.isT:Mn->Bool
 |.tap _ _=>S
 |_=>U
def Mn.isO:Mn->Bool
 |.once _=>S
 |_=>U
theorem kj(m:Mn):cJ (.str (wd m)) (.str "letter")=R (.fz (.bool m.isL)):=(xi m 0 ()).trans (by ext m<;>rfl)
theorem GH(m:Mn):cJ (.str (wd m)) (.str "below")=R (.fz (.bool m.isB)):=(xi m 5 ()).trans (by ext m<;>rfl)
theorem HD(m:Mn):cJ (.str (wd m)) (.str "layer")=R (.fz (.bool m.aeF)):=(xi m 1 ()).trans (by ext m<;>rfl)
theorem Pu(m:Mn):cJ (.str (wd m)) (.str "tap")=R (.fz (.bool m.isT)):=(xi m 2 ()).trans (by ext m<;>rfl)
theorem JP(m:Mn):cJ (.str (wd m)) (.str "once")=R (.fz (.bool m.isO)):=(xi m 3 ()).trans (by ext m<;>rfl)
def Ur(m:Mn):uU (.str (wd m)) (.tuple [.str "layer",.str "once"])=R (.fz (.bool (!(m.aeF||m.isO)))):=by
 let h:∀a:Str,Xa.strOk a=S->uU (.str a) (.tuple [.str "layer",.str "once"])=R (.fz (.bool (!(("layer":Str)==a||("once":Str)==a)))):=λa b=>by show(if(kr (.str a)&&(Xa.strOk "layer"&&(Xa.strOk "once"&&S)))=S then R (RV.fz (.bool (!(Xa.eqv (.str "layer") (.str a)||(Xa.eqv (.str "once") (.str a)||false)))))else P)=_;rw[show kr (.str a)=S by ext kr;rw[show Xa.canLay0 (.str a)=S from b];rfl,show Xa.strOk "layer"=S by left,show Xa.strOk "once"=S by left,agA];rfl
 rw[h _ (N8 m)];ext wd;rw[show(("layer":Str)==ws (wn m))=_ from wU 1 () _ (oV m),show(("once":Str)==ws (wn m))=_ from wU 3 () _ (oV m)];ext m<;>rfl
def LB:Mn->Prop
 |.XB c=>c<26
 |.tap c _=>c<26
 |_=>True
def VM.lb(h:VM L nL m):LB m:=by
 cases m with
 |XB c=>show h
 |tap c n=>show h.1
 |_=>trivial
def r8(h:c<26):Xa.strOk (dJ c)=S:=by show((#v[97+c]:Array Nat).all λc=>decide (c<0x110000))=S;simp;ext
def vF(h:dJ c=dJ d):c=d:=by
 let:(97+c)=97+d:=by let a:=dw (λz:Str=>z.cps.toList) h;show List.head_eq_of_cons_eq a
 ext
def Ig(h:LB m):Xa.canLay0 (mD m)=S:=by
 cases m with
 |XB c=>show(Xa.strOk "letter"&&(Xa.strOk (dJ c)&&S))=S;rw[r8 h,show Xa.strOk "letter"=S by left];rfl
 |Ze n=>show(Xa.strOk "layer"&&(S&&S))=S;left
 |tap c n=>show(Xa.strOk "tap"&&(Xa.strOk (dJ c)&&(S&&S)))=S;rw[r8 h,show Xa.strOk "tap"=S by left];rfl
 |once n=>show(Xa.strOk "once"&&(S&&S))=S;left
 |none=>show(Xa.strOk "none"&&S)=S;left
 |below=>show(Xa.strOk "below"&&S)=S;left
def En(h:LB m):kr (mD m)=S:=by ext kr;rw[Ig h];ext m<;>rfl
def mR:Mn->G D
 |.XB c=>[.str (dJ c)]
 |.Ze n=>[.int n]
 |.tap c n=>[.str (dJ c),.int n]
 |.once n=>[.int n]
 |.none=>[]
 |.below=>[]
def NJ(m:Mn):mD m=.tuple (.str (wd m)::mR m):=by ext m<;>rfl
def Uc(a b:Mn):decide (wd a=wd b)=decide (wn a=wn b):=by
 let h:=wU _ (oV a) _ (oV b)
 assumption
theorem B0(c d:Nat):decide (dJ c=dJ d)=decide (c=d):=decide_eq_decide.mpr #[vF,λh=>by rw[h]]
def P2(a b:Mn)(h:wn a=wn b):Xa.eqvAll (mR a) (mR b)=decide (a=b):=by
 ext a<;>ext b<;>first|ext h|skip
 .show(decide (dJ _=dJ _)&&S)=_;rw[B0,aby];show decide_eq_decide.mpr #[λh=>by rw[h],λh=>by ext h;rfl]
 .show(decide (_=_)&&S)=_;rw[aby];show decide_eq_decide.mpr #[λh=>by rw[h],λh=>by ext h;rfl]
 .show(decide (dJ _=dJ _)&&(decide (_=_)&&S))=_;rw[B0,aby,<-Bool.decide_and];show decide_eq_decide.mpr #[λh=>by rw[h.1,h.2],λh=>by ext h;show#[W,W]]
 .show(decide (_=_)&&S)=_;rw[aby];show decide_eq_decide.mpr #[λh=>by rw[h],λh=>by ext h;rfl]
 .rfl
 .rfl
def P5(a b:Mn):Xa.eqv (mD a) (mD b)=decide (a=b):=by
 rw[NJ,NJ];show(decide (wd a=wd b)&&Xa.eqvAll (mR a) (mR b))=_;rw[Uc];by_cases h:wn a=wn b
 .rw[a5 h,abv,P2 a b h]
 .rw[a6 h,acE,a6 λz=>h (by rw[z])]
theorem Ai:∀{l:G Mn},(∀m∈l,LB m)->Xa.canLayAll0 (l.map mD)=S
 |[],_=>rfl
 |m::r,h=>by show(Xa.canLay0 (mD m)&&Xa.canLayAll0 (r.map mD))=S;rw[Ig (h m W8),Ai λx a=>h x (Xb _ a)];rfl
theorem BK(a:Mn):∀l:G Mn,((l.map mD).any λe=>Xa.eqv e (mD a))=decide (a∈l)
 |[]=>rfl
 |m::r=>by
  rw[Xq,Z7,BK a r,P5,<-Bool.decide_or]
  grind
def L6{l:G Mn}(c:LB a)(b:∀m∈l,LB m):IH (mD a) (.list (l.map mD))=R (.fz (.bool (decide (a∈l)))):=by show(if(kr (mD a)&&Xa.canLayAll0 (l.map mD))=S then _ else _)=_;rw[En c,Ai b,YX,ax W,BK]
def vT(e:α->D)(g:α->bt D)(I:aQ->Prop)(xs:G α)(p:I d)(i:xs.length<=1000)(b:∀x∈xs,∀d,I d->∃c,jU gt C fe (e x) d=.ok (g x,c)/\I c):jE (cU gt C fe (xs.map e) d [])=.ok (xs.filterMap g):=by
 let h:∀(xs:G α) (a:G D) (d:aQ),I d->a.length+xs.length<=1000->(∀x∈xs,∀d,I d->∃c,jU gt C fe (e x) d=.ok (g x,c)/\I c)->cU gt C fe (xs.map e) d a=.ok (a++xs.filterMap g):=by
  intro xs
  induction xs with
  |nil=>intro a d _ _ _;show Res.ok a=_;simp_all
  |cons x r j=>
   intro a d m i b;rw[Xk]at i;let(c,o,n):=b x W8 d m;rw[Xq,rX o ()];let f:(a++(g x).toList).length+r.length<=1000:=by
    rw[Xf];cases g x with
    |none=>rw[aef,Y5];ext
    |some y=>rw[Option.toList_some,Z1];ext
   rw[j _ c n f λy l=>b y (Xb _ l),XZ];cases q:g x with
   |none=>rw[aaG q];rfl
   |some y=>rw[aaH q];rfl
 rw[h xs [] d p (by simpa using i) b];rfl
def zW(a:cG o=o):cG (R (PV.fz d)::o)=R (.fz d)::o:=by show Gv _::cG o=_;rw[a];rfl
def vR{α:Type}{c:FT}{d:FE}{a:aQ}(e f:α->D)(p:α->Bool)(xs:G α)(j:xs.length<=1000)(m:cG a=a)(h:∀x∈xs,c (R (.fz (e x))::a)=.ok (p x,R (.fz (e x))::a))(l:∀x∈xs,p x=S->d (R (.fz (e x))::a)=.ok (.fz (f x),R (.fz (e x))::a)):jE (cU (gN 0) c d (xs.map e) (P::a) [])=.ok ((xs.filter p).map f):=by
 rw[vT e (λx=>if p x=S then R (f x)else P) (λn=>∃o,n=o::a) xs #[P,W] j ?_]
 .congr 1
  clear j h l
  induction xs with
  |nil=>rfl
  |cons x r i=>
   cases q:p x with
   |true=>rw[aaH (b:=f x) (by rw[ax q]),adf q,i];rfl
   |false=>rw[aaG (by rw[a4 (by rw[q];simp)]),adg (by rw[q];simp),i]
 .rintro x g n ⟨o,rfl⟩
  cases q:p x with
  |true=>show#[_,wk W ((h x g).trans (by rw[q])) (l x g q) W (zW m),_,W]
  |false=>show#[_,QY W ((h x g).trans (by rw[q])) (zW m),_,W]
theorem yh(xs:G α):xs.filter (λ_=>S)=xs:=List.filter_eq_self.mpr λ_ _=>W
def i8{α:Type}(e f:α->D)(xs:G α)(b:xs.length<=1000)(h:cG o=o)(g:∀x∈xs,C (R (.fz (e x))::o)=.ok (.fz (f x),R (.fz (e x))::o)):jE (cU (gN 0) cQ C (xs.map e) (P::o) [])=.ok (xs.map f):=by rw[vR e f (λ_=>S) xs b h (λ_ _=>W) λx a _=>g x a,yh]
theorem wc(p:α->Bool):∀l:G α,vP (l.map λc=>Xa.bool (p c))=R (l.map p)
 |[]=>rfl
 |c::r=>by show(vP (r.map λc=>Xa.bool (p c))).map (p c::·)=_;rw[wc p r];rfl
def F0(p:α->Bool)(l:G α):Cr [.list (l.map λc=>Xa.bool (p c))]=R (.fz (.bool (l.all p))):=by show(vP _).map (λbs=>RV.fz (.bool (bs.all id)))=_;rw[wc];simp_all
theorem sd:∀ns:G Int,nY (ns.map Xa.int)=R ns
 |[]=>rfl
 |n::r=>by show(nY (r.map Xa.int)).map (n::·)=_;rw[sd r];rfl
abbrev Ac:=Nat->I Mn
abbrev Wq:=I (G Nat×Int×I (Nat×Int))
structure Y0 where
 ac:Ac
 wt:Wq
 oc:I Int
def gu(ac:Ac):G (Nat×Mn):=(Xn 5).filterMap λk=>(ac k).map λa=>(k,a)
def pD(p:Nat×Mn):D:=.tuple [nd p.1,mD p.2]
def sD:I (Nat×Int)->D
 |some (c,n)=>mD (.tap c n)
 |none=>.tuple [.str "chord"]
def jz:Wq->D
 |some (b,a,w)=>.tuple [.tuple (aY b),.int a,sD w]
 |none=>.none
def sH:I Int->D
 |some o=>.int o
 |none=>.none
def fJ(s:Y0):D:=.tuple [.tuple ((gu s.ac).map pD),jz s.wt,sH s.oc]
inductive Evn where
 |down (k:Nat)
 |up (k:Nat)
 |turn
def eR:Evn->D
 |.down k=>.tuple [.str "down",nd k]
 |.up k=>.tuple [.str "up",nd k]
 |.turn=>.tuple [.str "turn",.int 0]
def eD:p∈gu ac↔p.1<5/\ac p.1=R p.2:=by
 ext gu;rw[aan];constructor
 .rintro⟨k,e,b⟩
  cases q:ac k with
  |none=>simp_all
  |some a=>rw[q]at b;ext b;show#[Zc.mp e,q]
 .rintro⟨e,b⟩;show#[p.1,Zc.mpr e,by rw[b];rfl]
theorem ug(ac:Ac):(gu ac).length<=5:=List.length_filterMap_le _ _
def Db:Nat×Mn->I Int
 |(_,.Ze n)=>R n
 |_=>P
def we(ac:Ac):Int:=(((gu ac).filterMap Db).foldl jC P).getD 0
def i6(ac:Ac):I Int->Int
 |some o=>o
 |none=>we ac
def Es(ac:Ac):jE (cU (gT 2 (Dv (gN 0) (Dv (gN 1) MU))) (az (aB cJ (aB bc (ad 1) (~~~0)) (pC (.str "layer")))) (aB bc (ad 1) (~~~1)) ((gu ac).map pD) [P,P] [])=.ok (((gu ac).filterMap Db).map .int):=by
 rw[vT pD (λp=>(Db p).map .int) (λg=>∃e b,g=[e,b]) (gu ac) #[P,P,W] (XT (ug ac) ()) ?_,List.map_filterMap];rintro⟨k,a⟩ _ g ⟨e,b,rfl⟩;let e1:=pc a;let e2:=HD a;let f:az (aB cJ (aB bc (ad 1) (~~~0)) (pC (.str "layer"))) [R (.fz (nd k)),R (.fz (mD a))]=.ok (a.aeF,[R (.fz (nd k)),R (.fz (mD a))]):=by ext:0
 show#[[R (.fz (nd k)),R (.fz (mD a))],?_,_,_,W];cases a with
 |Ze n=>show wk W f (aD (af W) aw W W jR) W W
 |_=>show QY W f W
def wF(s:Y0):dA [fJ s]=.ok (.fz (.int (i6 s.ac s.oc))):=by
 show jb W ?_;let e2:bc (fJ s) (.int 2)=R (.fz (sH s.oc)):=nI;let e0:bc (fJ s) (.int 0)=R (.fz (.tuple ((gu s.ac).map pD))):=iG;ext gX;cases q:s.oc with
 |some o=>
  rw[q]at e2;let e3:lK (sH (R o)) .none=R (.fz (.bool S)):=W;ext:1
  .intro _;show ji (by ext:0) W W
  .intro h;ext h
 |none=>
  rw[q]at e2;let e3:lK (sH P) .none=R (.fz (.bool U)):=W;ext:1
  .intro h;ext h
  .intro _;show fR (dS (gq (rv:=.fz (.int (we s.ac))) (ah (cW (by ext:0) W (Es s.ac)) av) W ?_) W W);show(nY _).map _=_;rw[sd];rfl
def iO(b:Bd)(L k:Nat):Mn:=((b.ls[L]?.getD [])[k]?).getD .none
def look(b:Bd)(L:Int)(k:Nat):Mn:=if(iO b L.toNat k).isB=S then iO b 0 k else iO b L.toNat k
section
variable{b:Bd}(Z:VB b)
include Z
def Nf{L k:Nat}(a:L<b.ls.length)(e:(k:Int)<b.n):∃l,b.ls[L]?=R l/\l[k]?=R (iO b L k):=by
 let g:=Z.vl L _ (Xm a);let f:k<(b.ls[L]).length:=by ext
 show#[_,Xm a,?_];ext iO;simp_all
def yD{L k:Nat}(e:L<b.ls.length)(a:(k:Int)<b.n):VM L b.ls.length (iO b L k):=by let(l,g,f):=Nf Z e a;show(Z.vl L l g).2 _ (XF f)
def Iv{L k:Nat}(e:L<b.ls.length)(a:(k:Int)<b.n):∃d,bc (.tuple (b.ls.map ku)) (nd L)=R (.fz d)/\bc d (nd k)=R (.fz (mD (iO b L k))):=by let(l,f,g):=Nf Z e a;show#[ku l,QR (by rw[Xg,f];rfl),QR (by simp_all)]
def MH{L:Int}{k:Nat}(i:0<=L)(h:L<b.ls.length)(e:(k:Int)<b.n):iu [bD b,.int L,nd k]=.ok (.fz (mD (look b L k))):=by
 obtain⟨n,rfl⟩:∃n:Nat,L=(n:Int):=#[L.toNat,by ext];let g:=Z.l1;let(d,e2,e3):=Iv Z (L:=n) () e;let(f,e4,e5):=Iv Z (L:=0) () e;let e1:bc (bD b) (.int 1)=R (.fz (.tuple (b.ls.map ku))):=jR;let e6:=pc (iO b n k);let e7:=GH (iO b n k);let e8:bc (.tuple (b.ls.map ku)) (.int 0)=R (.fz f):=e4;let a:look b (n:Int) k=if(iO b n k).isB=S then iO b 0 k else iO b n k:=W
 rw[a];generalize iO b n k=m at e3 e6 e7 a;generalize iO b 0 k=m0 at e5 a;show jb W ?_;ext gj;ext:1
 .intro q;rw[ax q];show ji (by ext:0) W W
 .intro q;rw[a4 (by rw[q];simp)];show fR (dS (by ext:0) W W)
def uB{L:Int}{k:Nat}(g:0<=L)(i:L<b.ls.length)(f:(k:Int)<b.n):VM L b.ls.length (look b L k)/\look b L k≠.below:=by
 let h:=Z.l1;let a:=yD Z (L:=0) (k:=k) () f;let v:=yD Z (L:=L.toNat) (k:=k) () f;let e:iO b 0 k≠.below:=λz=>by rw[z]at a;show a W
 rw[aeJ g]at v;ext look;split
 .show#[?_,e]
  generalize iO b 0 k=m at a e;cases m with
  |below=>show bb W e
  |_=>show a
 .rename_i q;show#[v,λz=>?_];rw[z]at q;show q W
omit Z in
theorem FB(ks:bg Nat)(a:ks.length<=5)(c:bg Nat×Nat):az (g9 Cr {dQ 1 [0] (iR (ad 1)) (gN 0) cQ (aB IH (ad 0) (aB bc (ad 1) (~~~0)))}) [cL (.fz (cj c)),cL (.fz (.tuple (aY ks)))]=.ok (ks.all λk=>decide (k∈c.1),[cL (.fz (cj c)),cL (.fz (.tuple (aY ks)))]):=by
 have e:jE (cU (gN 0) cQ (aB IH (ad 0) (aB bc (ad 1) (~~~0))) (aY ks) [Ld,cL (.fz (cj c))] [])=.ok (ks.map λk=>.bool (decide (k∈c.1))):=i8 nd (λk=>.bool (decide (k∈c.1))) ks (by ext) rfl λk _=>by have e0:bc (cj c) (.int 0)=cL (.fz (.tuple (aY c.1))):=iG;exact aD (rv:=.fz (.bool (decide (k∈c.1)))) (af rfl) (by ext:0) rfl rfl (vU _ _)
 exact bh (gq (rv:=.fz (.bool (ks.all λk=>decide (k∈c.1)))) (ds:=[.list (ks.map λk=>.bool (decide (k∈c.1)))]) (ah (cW (cs:=[cj c]) (ds:=aY ks) (by ext:0) rfl e) av) rfl (F0 _ _)) rfl
def cP(b:Bd)(a:G Nat):G (G Nat×Nat):=b.cs.filter λc=>a.all λk=>decide (k∈c.1)
def Bz(a:o.length<=5):bA [bD b,.tuple (aY o)]=.ok (.ow ((cP b o).map cj)):=by let e2:bc (bD b) (.int 2)=R (.fz (.tuple (b.cs.map cj))):=nI;let e:=Z.c4;show jb W ?_;ext d8;show dS (cW (cs:=[.tuple (aY o)]) (by ext:0) W (vR cj cj (λc=>o.all λk=>decide (k∈c.1)) b.cs () W (λc _=>FB o a c) λc _ _=>af W)) W W
def pJ(a:G Nat):G Nat:=(jH (a.map ack)).map ady
omit Z in
theorem qH(ks:bg Nat):(pJ ks).Perm ks:=by have h:=(eJ (ks.map ack)).map ady;rw[XI]at h;exact h.trans (by rw[show(ady∘ack)=id from funext λx=>rfl,ah0])
omit Z in
theorem Mh(ks:bg Nat):(jH (ks.map ack)).map Xa.int=aY (pJ ks):=by unfold pJ aY;rw[XI];refine ZJ λx a=>?_;obtain⟨n,_,rfl⟩:=Xs.mp ((eJ _).mem_iff.mp a);rfl
omit Z in
theorem zh(ks:bg Nat):(pJ ks).Pairwise (·<=·):=by
 have h:∀l:bg Int,l.Pairwise (·<=·)->(l.map ady).Pairwise (·<=·):=λl h=>by rw[aaz];exact h.imp λh=>by ext
 exact h _ (dL _)
omit Z in
theorem JI(ks:bg Nat):(pJ ks).length=ks.length:=(qH ks).length_eq
omit Z in
theorem xm{ks:bg Nat}(h:ks.length<64):L9.fL [.tuple (aY ks)]=cL (.ow (aY (pJ ks))):=by
 have e:aY ks=(ks.map ack).map Xa.int:=by rw[XI];rfl
 show(match nY (aY ks)with
  |some a=>if a.length<64 then cL (RV.ow ((jH a).map .int))else Ld
  |none=>Ld)=_
 rw[e,sd];dsimp only;rw[ax (by rw[W0];exact h),Mh]
def F7(b:Bd)(a:G Nat):G Mn:=match b.cs.find? λc=>decide (c.1=pJ a)with
 |some c=>.XB c.2::Xh (a.length - 1) .none
 |none=>a.map (iO b 0)
omit Z in
omit Z in
theorem Tw(n:Nat)(d:D):(Xh n [d]).flatten=Xh n d:=by
 induction n with
 |zero=>rfl
 |succ n a=>rw[Ym,Y8,a];rfl
def P7{n:bg Nat}(H:1<=n.length)(G:n.length<=5)(C:∀k∈n,(k:Int)<b.n):fq [bD b,.tuple (aY n)]=.ok (.ow ((F7 b n).map mD)):=by
 let e2:bc (bD b) (.int 2)=R (.fz (.tuple (b.cs.map cj))):=nI;let e1:bc (bD b) (.int 1)=R (.fz (.tuple (b.ls.map ku))):=jR;let F:=Z.l1;let i:=xm (ks:=n) ();show jb W ?_;ext eW;let rt:∀c:bg Nat×Nat,(aB bP (dI {aV {pC (.str "letter"),aB bc (ad 2) (~~~1)}}) (aB iE (dI {pC (.tuple [(.str "none")])}) (aB sL (g9 dY {ad 1}) (~~~1)))) [R (.fz (bD b)),R (.fz (.tuple (aY n))),R (.fz (cj c))]=.ok (.ow ((Mn.XB c.2::Xh (n.length - 1) Mn.none).map mD),[R (.fz (bD b)),R (.fz (.tuple (aY n))),R (.fz (cj c))]):=λc=>by
  let l:bc (cj c) (.int 1)=R (.fz (.str (dJ c.2))):=jR;let j:iE (.list [.tuple [.str "none"]]) (.int (((aY n).length:Int) - 1))=R (.ow (Xh (n.length - 1) (.tuple [.str "none"]))):=by rw[di,show((n.length:Int) - 1)=((n.length - 1:Nat):Int) by ext];show(Rh () ()).trans (by rw[Tw])
  let y:bP (.list [mD (.XB c.2)]) (.list (Xh (n.length - 1) (.tuple [.str "none"])))=R (.ow ((Mn.XB c.2::Xh (n.length - 1) Mn.none).map mD)):=by show(if 1+(Xh (n.length - 1) (Xa.tuple [.str "none"])).length<=1000000 then R (RV.ow ([mD (.XB c.2)]++Xh (n.length - 1) (Xa.tuple [.str "none"])))else P)=_;rw[Yu,ax (),Xq,List.map_replicate];rfl
  show aD (by ext:0) (aD (by ext:0) (aD (by ext:0) aw W W (zy _ _)) W W j) W W y
 let f:∀(e:bg (bg Nat×Nat)) (o:bt PV),(∀c,e.find? (λc=>decide (c.1=pJ n))=R c->pf (gN 2) (mv (az (aB cJ (g9 sM {aB bc (ad 2) (~~~0)}) (g9 L9.fL {ad 1}))) (dH (aB bP (dI {aV {pC (.str "letter"),aB bc (ad 2) (~~~1)}}) (aB iE (dI {pC (.tuple [(.str "none")])}) (aB sL (g9 dY {ad 1}) (~~~1))))) eO) (e.map cj) [R (.fz (bD b)),R (.fz (.tuple (aY n))),o]=.ok (.rt (.ow ((Mn.XB c.2::Xh (n.length - 1) Mn.none).map mD))))/\
   (e.find? (λc=>decide (c.1=pJ n))=P->∃u,pf (gN 2) (mv (az (aB cJ (g9 sM {aB bc (ad 2) (~~~0)}) (g9 L9.fL {ad 1}))) (dH (aB bP (dI {aV {pC (.str "letter"),aB bc (ad 2) (~~~1)}}) (aB iE (dI {pC (.tuple [(.str "none")])}) (aB sL (g9 dY {ad 1}) (~~~1))))) eO) (e.map cj) [R (.fz (bD b)),R (.fz (.tuple (aY n))),o]=.ok (.nx [R (.fz (bD b)),R (.fz (.tuple (aY n))),u])):=by
  intro e
  induction e with
  |nil=>show λo=>#[λc h=>(by ext h),λ_=>#[o,W]]
  |cons c r B=>
   intro o;let E:bc (cj c) (.int 0)=R (.fz (.tuple (aY c.1))):=iG
   let a:az (aB cJ (g9 sM {aB bc (ad 2) (~~~0)}) (g9 L9.fL {ad 1})) [R (.fz (bD b)),R (.fz (.tuple (aY n))),R (.fz (cj c))]=.ok (decide (c.1=pJ n),[R (.fz (bD b)),R (.fz (.tuple (aY n))),R (.fz (cj c))]):=
    bh (aD (gq (by ext:0) W W) (gq (by ext:0) W i) W W (uC _ _)) W
   rw[XW];by_cases h:c.1=pJ n
   .rw[a5 h]at a⊢;show#[λI t=>?_,λt=>(by ext t)];ext t;show((gN 2 (.fz (cj c)) [R (.fz (bD b)),R (.fz (.tuple (aY n))),o]).bind λg=>_)=_;rw[E7,d0];show((mv _ _ _ [R (.fz (bD b)),R (.fz (.tuple (aY n))),R (.fz (cj c))]).bind _)=_;rw[UY a,uS (rt c) W];rfl
   .rw[a6 h]at a⊢
    let w:pf (gN 2) (mv (az (aB cJ (g9 sM {aB bc (ad 2) (~~~0)}) (g9 L9.fL {ad 1}))) (dH (aB bP (dI {aV {pC (.str "letter"),aB bc (ad 2) (~~~1)}}) (aB iE (dI {pC (.tuple [(.str "none")])}) (aB sL (g9 dY {ad 1}) (~~~1))))) eO) ((c::r).map cj) [R (.fz (bD b)),R (.fz (.tuple (aY n))),o]=pf (gN 2) (mv (az (aB cJ (g9 sM {aB bc (ad 2) (~~~0)}) (g9 L9.fL {ad 1}))) (dH (aB bP (dI {aV {pC (.str "letter"),aB bc (ad 2) (~~~1)}}) (aB iE (dI {pC (.tuple [(.str "none")])}) (aB sL (g9 dY {ad 1}) (~~~1))))) eO) (r.map cj) [R (.fz (bD b)),R (.fz (.tuple (aY n))),R (.fz (cj c))]:=by show((gN 2 (.fz (cj c)) [R (.fz (bD b)),R (.fz (.tuple (aY n))),o]).bind λg=>_)=_;rw[E7,d0];show((mv _ _ _ [R (.fz (bD b)),R (.fz (.tuple (aY n))),R (.fz (cj c))]).bind _)=_;rw[UX a];rfl
    rw[w];show B _
 let(A,m):=f b.cs P;let v:iR (aB bc (ad 0) (~~~2)) [R (.fz (bD b)),R (.fz (.tuple (aY n))),P]=.ok (b.cs.map cj,[R (.fz (bD b)),R (.fz (.tuple (aY n))),P]):=by ext:0
 ext F7;cases q:b.cs.find? λc=>decide (c.1=pJ n)with
 |some c=>show .eq (HG ((yV v).trans (A c q))) #[W]
 |none=>let(u,m):=m q;show .eq (GN ((yV v).trans m)) ?_;show dS (cW (by ext:0) W ?_) W W;rw[XI];show i8 nd (mD∘iO b 0) n () W λk p=>?_;let(d,l,j):=Iv Z (L:=0) () (C k p);let l:bc (.tuple (b.ls.map ku)) (.int 0)=R (.fz d):=l;show aD (by ext:0) (af W) W W j
end
end STP
local macro_rules|`(-($x))=>`(Option.some (.fz $x))
namespace STP
open PySem L2 L3
open L10
def jF(p:Nat×Mn):cg×SV:=(.inl (p.1:Int),.fz (mD p.2))
def jJ(ac:Ac)(k:Nat)(o:I Mn):Ac:=λj=>if j=k then o else ac j
def de:jJ ac k o k=o:=by ext jJ;simp_all
def eK(h:j≠k):jJ ac k o j=ac j:=by ext jJ;rw[a4 h]
def GX(ac:Ac):(gu ac).Pairwise λp q=>p.1<q.1:=by
 ext gu;show ah1 _ (λa g h p f q b=>?_) (adz);cases e:ac a with
 |none=>simp_all
 |some x=>
  cases i:ac g with
  |none=>simp_all
  |some y=>rw[e]at f;rw[i]at b;ext f;ext b;show h
def rV(ac:Ac):((gu ac).map (·.1)).Nodup:=by rw[ajb,aaz];show(GX ac).imp λh=>Xy h
def zX{l:G (Nat×Mn)}(h:(l.map (·.1)).Nodup):l.Nodup:=by rw[ajb,aaz]at h;show h.imp λh e=>h (by rw[e])
theorem rU{l:G (Nat×Mn)}(h:(l.map (·.1)).Nodup)(hm:∀p,p∈l↔p.1<5/\ac p.1=R p.2):l.Perm (gu ac):=
 (List.perm_ext_iff_of_nodup (zX h) (zX (rV ac))).mpr λp=>(hm p).trans eD.symm
section
variable{Y:bg (Nat×Mn)}{X:Ac}(Z:Y.Perm (gu X))
include Z
theorem jQ:p∈Y↔p.1<5/\X p.1=R p.2:=Z.mem_iff.trans eD
theorem GG:(Y.map (·.1)).Nodup:=(Z.map (·.1)).nodup_iff.mpr (rV X)
def Ib:Y.length<=5:=by rw[Z.length_eq];show ug X
def mx{k:Nat}(b:k<5):jj (Y.map jF) (.inl (k:Int))=(X k).map λa=>SV.fz (mD a):=by
 ext jj;cases q:(Y.map jF).find? λkv=>decide (kv.1=(.inl (k:Int):cg))with
 |none=>
  cases e:X k with
  |none=>rfl
  |some a=>let:=List.find?_eq_none.mp q (jF (k,a)) (Xs.mpr #[(k,a),(jQ Z).mpr #[b,e],W]);show bb (a5 W) this
 |some kv=>
  let(p,h,rfl):=Xs.mp (ZH q);let g:=a7 (List.find?_some (p:=λkv:cg×SV=>decide (kv.1=(.inl (k:Int):cg))) q);let f:p.1=k:=by let:=Sum.inl.inj g;ext
  rw[<-f,((jQ Z).mp h).2];rfl
def Ji{k:Nat}(o:k<5):∃c:G (Nat×Mn),jx (Y.map jF) (.inl (k:Int)) (.fz (mD a))=c.map jF/\c.Perm (gu (jJ X k (R a))):=by
 ext jx;let i:∀p:Nat×Mn,((jF p).1=(.inl (k:Int):cg))↔p.1=k:=λp=>#[λh=>by let:=Sum.inl.inj h;ext,λh=>by rw[<-h];rfl];split
 .rename_i h
  show#[Y.map λp=>if p.1=k then(k,a)else p,?_,rU ?_ λp=>?_]
  .rw[XI,XI]
   show ZJ λp _=>?_;show(if(jF p).1=(.inl (k:Int):cg)then((jF p).1,SV.fz (mD a))else jF p)=jF (if p.1=k then(k,a)else p);by_cases e:p.1=k
   .rw[ax ((i p).mpr e),ax e,(i p).mpr e];rfl
   simp_all
  .rw[XI,show Y.map ((·.1)∘λp:Nat×Mn=>if p.1=k then(k,a)else p)=Y.map (·.1)from ZJ λp _=>by
    show(if p.1=k then(k,a)else p).1=p.1;split
    .rename_i e;show e.symm
    .rfl]
   show GG Z
  .let(w,l,j):=acb.mp h
   let(n,v,rfl):=Xs.mp l;let b:=(i n).mp (a7 j);rw[Xs];constructor
   .rintro⟨r,u,rfl⟩
    split
    .show#[o,de]
    .rename_i e;let:=(jQ Z).mp u;show#[this.1,by rw[eK e];show this.2]
   .rintro⟨f,g⟩
    by_cases e:p.1=k
    .rw[e,de]at g;show#[n,v,?_];rw[ax b,<-e,Xj g]
    .rw[eK e]at g;show#[p,(jQ Z).mpr #[f,g],by rw[a4 e]]
 .rename_i h
  let A:=λp m e=>h (acb.mpr #[jF p,Xs.mpr #[p,m,W],a5 ((i p).mpr e)]);show#[Y++[(k,a)],by rw[XM];rfl,rU ?_ λp=>?_]
  .rw[XM,Zu];show#[GG Z,Yv.mpr #[YG,abf],λx t y q=>?_];let(p,b,rfl):=Xs.mp t;rw[Xl.mp q];show A p b
  .rw[X0,Xl]
   constructor
   .rintro(b|rfl)
    .let:=(jQ Z).mp b;show#[this.1,by rw[eK (A p b)];show this.2]
    .show#[o,de]
   .rintro⟨b,f⟩
    by_cases e:p.1=k
    .rw[e,de]at f;show .inr (by rw[<-e,Xj f])
    .rw[eK e]at f;show .inl ((jQ Z).mpr #[b,f])
def D7{k:Nat}:∃c:G (Nat×Mn),lF (Y.map jF) (.inl (k:Int))=c.map jF/\c.Perm (gu (jJ X k P)):=by
 let g:∀p:Nat×Mn,((jF p).1=(.inl (k:Int):cg))↔p.1=k:=λp=>#[λh=>by let:=Sum.inl.inj h;ext,λh=>by rw[<-h];rfl];show#[Y.filter λp=>decide (p.1≠k),?_,rU ?_ λp=>?_]
 .ext lF;rw[List.filter_map];congr 1;show List.filter_congr λp _=>?_;show decide_eq_decide.mpr (not_congr (g p))
 .show amm ((List.filter_sublist).map _) (GG Z)
 .rw[YO,jQ Z,decide_eq_true_eq]
  constructor
  .rintro⟨⟨b,a⟩,f⟩;show#[b,by rw[eK f];show a]
  .rintro⟨b,a⟩
   by_cases e:p.1=k
   .rw[e,de]at a;ext a
   .rw[eK e]at a;show#[#[b,a],e]
def Eg:aA yl ((Y.map jF).map (·.1))=R (Y.map λp=>(p.1:Int)):=by
 clear Z
 induction Y with
 |nil=>rfl
 |cons p r a=>rw[Xq,Xq];ext aA;rw[a];rfl
def DM:jH (Y.map λp=>(p.1:Int))=(gu X).map λp=>(p.1:Int):=by show ko ((eJ _).trans (Z.map _)) (dL _) ?_;rw[aaz];show(GX X).imp λh=>by ext
end
abbrev Sn:=G (Nat×Bool)
def lA(ac:Ac)(a:Mn):Bool:=decide (a∈(gu ac).map (·.2))
def rS(ac:Ac):Mn->Sn
 |.XB c=>if lA ac (.XB c)=S then[]else[(c,S)]
 |_=>[]
def NT(ac:Ac):Mn->Sn
 |.XB c=>if lA ac (.XB c)=S then[]else[(c,U)]
 |_=>[]
def eB(p:Y0×Sn)(k:Nat)(a:Mn):Y0×Sn:=({p.1 with ac:=jJ p.1.ac k (R a)},p.2++rS p.1.ac a)
def go(p:Y0×Sn)(k:Nat):Y0×Sn:=match p.1.ac k with
 |some a=>({p.1 with ac:=jJ p.1.ac k P},p.2++NT (jJ p.1.ac k P) a)
 |none=>p
def gC(p:Y0×Sn)(a:G (Nat×Mn)):Y0×Sn:=a.foldl (λp q=>eB p q.1 q.2) p
def gy(b:Bd)(a:G Nat):I (Nat×Int)->G Mn
 |some (_,n)=>[.Ze n]
 |none=>F7 b a
def bu(b:Bd)(p:Y0×Sn):Y0×Sn:=match p.1.wt with
 |none=>p
 |some (a,_,w)=>gC ({p.1 with wt:=P},p.2) (a.zip (gy b a w))
def zn:Wq->Nat->Bool
 |some (a,_,_),k=>decide (k∈a)
 |none,_=>U
def AC(b:Bd)(s:Y0)(k:Nat):Bool:=match s.wt with
 |some (a,_,P)=>decide (i6 s.ac s.oc=0)&& !(cP b (a++[k])).isEmpty
 |_=>U
def pI(b:Bd)(p:Y0×Sn)(k:Nat):Y0×Sn:=match p.1.wt with
 |some (a,g,_)=>if(cP b (a++[k])).map (·.1.length)=[(a++[k]).length]then bu b ({p.1 with wt:=R (a++[k],g,P)},p.2)else({p.1 with wt:=R (a++[k],g,P)},p.2)
 |none=>p
def dh(s:Y0)(m:Mn):Y0:=if(m.aeF||m.isO)=S then s else{s with oc:=P}
def ut(b:Bd)(L:Int)(p:Y0×Sn)(k:Nat):Mn->Y0×Sn
 |.tap c n=>({p.1 with wt:=R ([k],0,R (c,n))},p.2)
 |.XB c=>if(decide (L=0)&& !(cP b [k]).isEmpty)=S then({p.1 with wt:=R ([k],0,P)},p.2)else eB p k (.XB c)
 |.once n=>({(eB p k .none).1 with oc:=R n},(eB p k .none).2)
 |m=>eB p k m
def zt(b:Bd)(p:Y0×Sn)(k:Nat):Y0×Sn:=
 ut b (i6 p.1.ac p.1.oc) (dh p.1 (look b (i6 p.1.ac p.1.oc) k),p.2) k (look b (i6 p.1.ac p.1.oc) k)
def gb(b:Bd)(p:Y0×Sn)(k:Nat):Y0×Sn:=
 if((p.1.ac k).isSome||zn p.1.wt k)=S then p else if AC b p.1 k=S then pI b p k else zt b (bu b p) k
def bM(b:Bd)(p:Y0×Sn)(k:Nat):Y0×Sn:=match p.1.wt with
 |some (_,_,P)=>bu b p
 |some (_,_,R (c,_))=>eB ({p.1 with wt:=P},p.2) k (.XB c)
 |none=>p
def kO(b:Bd)(p:Y0×Sn)(k:Nat):Y0×Sn:=go (if zn p.1.wt k=S then bM b p k else p) k
def fD(b:Bd)(p:Y0×Sn):Y0×Sn:=match p.1.wt with
 |none=>p
 |some (a,g,w)=>if g+1=b.wt then bu b ({p.1 with wt:=R (a,g+1,w)},p.2)else({p.1 with wt:=R (a,g+1,w)},p.2)
def bJ(b:Bd)(s:Y0):Evn->Y0×Sn
 |.down k=>gb b (s,[]) k
 |.up k=>kO b (s,[]) k
 |.turn=>fD b (s,[])
def LJ(b:Bd)(s:Y0):G (Str×SV):=[("bed",.fz (bD b)),("acts",.rf 1),("waiting",.fz (jz s.wt)),("once",.fz (sH s.oc)),("sent",.rf 2)]
def nk(p:Nat×Bool):D:=.tuple [.str (dJ p.1),.str (if p.2=S then "down" else "up")]
def cY(b:Bd)(s:Y0)(sn:Sn)(a:G (Nat×Mn))(J:aK):aK:=.obj "Hand" (LJ b s):: .dct (a.map jF):: .lst ((sn.map nk).map .fz)::J
def HS(b:Bd)(p:Y0×Sn)(c:aK):Prop:=∃a J,a.Perm (gu p.1.ac)/\c=cY b p.1 p.2 a J
section
variable{b:Bd}{s:Y0}{sn:Sn}{Y:bg (Nat×Mn)}{J:aK}{ρ:aP}{i:Nat}{X:aK}{p:Y0×Sn}{k:Nat}{a:Mn}
def QL:(LJ b s).lookup ("bed":Str)=-(bD b):=by rfl
def LA:(LJ b s).lookup ("acts":Str)=R (.rf 1):=by rfl
def KS:(LJ b s).lookup ("waiting":Str)=-(jz s.wt):=by rfl
def JK:(LJ b s).lookup ("once":Str)=-(sH s.oc):=by rfl
def JT:(LJ b s).lookup ("sent":Str)=R (.rf 2):=by rfl
def Vr(m:Str):Bool:=(m== "bed"||m== "acts"||m== "waiting"||m== "once"||m== "sent")==U
def SJ(h:Vr m=S):(LJ b s).lookup m=P:=by unfold Vr at h;simp only[beq_iff_eq,aeg]at h;let((((l,j),g),f),e):=h;ext LJ;simp_all
theorem ox(h:ρ[i]?=R (R (.rf 0))):aU "Hand" "bed" (aq i) ρ (cY b s sn Y J)=.ok (.fz (bD b)) (cY b s sn Y J):=iK (aO h) W QL
theorem gG(h:ρ[i]?=R (R (.rf 0))):aU "Hand" "acts" (aq i) ρ (cY b s sn Y J)=.ok (.rf 1) (cY b s sn Y J):=iK (aO h) W LA
theorem bx(h:ρ[i]?=R (R (.rf 0))):aU "Hand" "waiting" (aq i) ρ (cY b s sn Y J)=.ok (.fz (jz s.wt)) (cY b s sn Y J):=iK (aO h) W KS
theorem zR(h:ρ[i]?=R (R (.rf 0))):aU "Hand" "once" (aq i) ρ (cY b s sn Y J)=.ok (.fz (sH s.oc)) (cY b s sn Y J):=iK (aO h) W JK
theorem ul(h:ρ[i]?=R (R (.rf 0))):aU "Hand" "sent" (aq i) ρ (cY b s sn Y J)=.ok (.rf 2) (cY b s sn Y J):=iK (aO h) W JT
theorem j9(w:Wq)(h:ρ[i]?=R (R (.rf 0)))(e:o ρ X=.ok (.fz (jz w)) (cY b s sn Y J)):eP "Hand" "waiting" (aq i) o ρ X=.ok (.nx ρ) (cY b {s with wt:=w} sn Y J):=
 (ou e (aO h) W (by show W5 W)).trans (by rfl)
theorem BG(o:I Int)(h:ρ[i]?=R (R (.rf 0)))(e:C ρ X=.ok (.fz (sH o)) (cY b s sn Y J)):eP "Hand" "once" (aq i) C ρ X=.ok (.nx ρ) (cY b {s with oc:=o} sn Y J):=
 (ou e (aO h) W (by show W5 W)).trans (by rfl)
def bG(e:HS b p X)(hm:Vr m=S)(h:ρ[i]?=R (R (.rf 0)))(d:fa ρ X=.ok xs X)(c:(SV.rf 0::xs).length=n)(f:F (.rf 0::xs) X=.ok x o):aM "Hand" m F n (aq i) fa ρ X=.ok x o:=by let(Y,J,g,rfl):=e;show LK (aO h) W (SJ hm) d c f
def Gi(Y:G (Nat×Mn)):(Y.map jF).map (·.2)=((Y.map (·.2)).map mD).map SV.fz:=by rw[XI,XI,XI];rfl
def AK(ac:Ac):Prop:=∀k a,ac k=R a->k<5/\LB a
def HE(f:HS b p X)(g:AK p.1.ac)(d:LB a):∃c,bF [.rf 0,.fz (mD a)] X=.ok (.fz (.bool (lA p.1.ac a))) c/\HS b p c:=by
 let(Y,J,e,rfl):=f;let e1:lA p.1.ac a=decide (a∈Y.map (·.2)):=decide_eq_decide.mpr (e.map (·.2)).symm.mem_iff;let lb:∀m∈Y.map (·.2),LB m:=λm hm=>by let(q,h,rfl):=Xs.mp hm;show(g _ _ ((jQ e).mp h).2).2
 show#[cY b p.1 p.2 Y (J++[.lst ((Y.map jF).map (·.2))]),?_,Y,_,e,W];rw[e1];show jd W (iB (b8 (ag (af W)) (J9 (gG W) W) (yW W (gU (by rw[Gi];show bf)) (L6 d lb))))
theorem AA(f:sn.length<1000)(h:ρ[i]?=R (R (.rf 0)))(e:o ρ (cY b s sn Y J)=.ok (.fz (nk (c,d))) (cY b s sn Y J)):l7 (aU "Hand" "sent" (aq i)) o ρ (cY b s sn Y J)=.ok (.fz .none) (cY b s (sn++[(c,d)]) Y J):=
 (rM (ul h) W e W (by rw[W0,W0];ext)).trans (by ext cY;rw[XM,XM];rfl)
def rZ(e:Y.Perm (gu s.ac))(h:k<5)(o:ρ[0]?=R (R (.rf 0)))(n:ρ[1]?=R (-(nd k)))(m:ρ[2]?=R (-(mD a))):∃c:G (Nat×Mn),c.Perm (gu (jJ s.ac k (R a)))/\uc (aU "Hand" "acts" (aq 0)) (ae (ad 1)) (ae (ad 2)) ρ (cY b s sn Y J)=.ok (.nx ρ) (cY b {s with ac:=jJ s.ac k (R a)} sn c J):=by let(c,l,j):=Ji e h;let g:ad 1 (bV ρ)=.ok (.fz (nd k),bV ρ):=af (by ext bV;rw[Xg,n];rfl);let f:ad 2 (bV ρ)=.ok (.fz (mD a),bV ρ):=af (by ext bV;rw[Xg,m];rfl);show#[c,j,(Kf (ag f) (gG o) (ag g) W W (by rw[W0];let:=Ib e;ext)).trans ?_];rw[l];rfl
def pM(n:HS b p X)(w:AK p.1.ac)(x:LB a)(o:k<5)(v:p.2.length<1000):∃d,br [.rf 0,.fz (nd k),.fz (mD a)] X=.ok (.fz .none) d/\HS b (eB p k a) d:=by
 let e0:=pc a;let e1:=kj a;cases q:a.isL with
 |false=>
  let(Y,J,h,rfl):=n;rw[q]at e1;let(f,j,y):=rZ (ρ:=[R (.rf 0),-(nd k),-(mD a)]) h o W W W;show#[_,mP W (cF (ez (gO (aX (by ext:0))) eF) y),f,J,j,?_];let:rS p.1.ac a=[]:=by ext a<;>first|rfl|ext q
  ext eB;simp_all
 |true=>
  rw[q]at e1;let(l,j,m):=HE n w x;let g:∀u,lA p.1.ac a=u->(lU (bp (az (aB cJ (aB bc (ad 2) (~~~0)) (pC (.str "letter"))))) (qJ (aW (aM "Hand" "has_act" bF 2 (aq 0) (ai (ae (ad 2)) aI))))) [R (.rf 0),-(nd k),-(mD a)] X=.ok (!u) l:=λu e=>by rw[e]at j;show iV (aX (by ext:0)) (mV (aH (bG n (by rfl) W (aj (ag (af W)) aG) W j)))
  let(Y,J,h,rfl):=m;cases B:lA p.1.ac a with
  |true=>
   let(f,t,r):=rZ (ρ:=[R (.rf 0),-(nd k),-(mD a)]) h o W W W;show#[_,mP W (cF (ez (g S B) eF) r),f,J,t,?_];let:rS p.1.ac a=[]:=by
    ext a<;>first|ext q|skip
    show(if lA p.1.ac _=S then _ else _)=_;simp_all
   ext eB;simp_all
  |false=>
   ext a<;>first|ext q|skip
   rename_i c;let(f,t,r):=rZ (ρ:=[R (.rf 0),-(nd k),-(mD (.XB c))]) (sn:=p.2++[(c,S)]) h o W W W;let A:bc (mD (.XB c)) (.int 1)=-(.str (dJ c)):=jR;show#[_,mP W (cF (c7 (g U B) (gK (AA v W (ag (show _=Res.ok (PV.fz (.tuple [.str (dJ c),.str "down"]),_) by ext:0))))) r),f,J,t,?_];let:rS p.1.ac (.XB c)=[(c,S)]:=by show(if lA p.1.ac _=S then _ else _)=_;simp_all
   ext eB;rw[this]
end
end STP
namespace STP
open PySem L2 L3 L10
def VA(a:Int):Mn->Prop
 |.XB c=>c<26
 |.Ze n=>1<=n/\n<a
 |.none=>True
 |_=>False
def VA.lb(h:VA nL m):LB m:=by
 cases m with
 |XB c=>show h
 |tap c n=>show h.elim
 |_=>trivial
structure SA(b:Bd)(s:Y0):Prop where
 ac:∀k a,s.ac k=R a->(k:Int)<b.n/\VA b.ls.length a
 oc:∀o,s.oc=R o->1<=o/\o<b.ls.length
structure WV(b:Bd)(ac:Ac)(ks:G Nat)(g:Int)(w:I (Nat×Int)):Prop where
 ne:ks≠[]
 nd:ks.Nodup
 kn:∀k∈ks,(k:Int)<b.n
 kf:∀k∈ks,ac k=P
 g0:0<=g
 tp:∀c n,w=R (c,n)->c<26/\(1<=n/\n<b.ls.length)/\ks.length=1
 ch:w=P->∀k∈ks,pE (b.ls.headD []) k=S
structure SW(b:Bd)(s:Y0):Prop where
 sa:SA b s
 wt:∀ks g w,s.wt=R (ks,g,w)->WV b s.ac ks g w/\g<b.wt
def yJ{c:G Nat}(hd:c.Nodup)(h:∀k∈c,k<n):c.length<=n:=by rw[<-JI c];let b:=(qH c).nodup_iff.mpr hd;show Li (((zh c).and b).imp λh=>by ext) λk a=>h k ((qH c).mem_iff.mp a)
section
variable{b:Bd}(Z:VB b){s:Y0}{p:Y0×Sn}{Y:bg Nat}{g:Int}{w:bt (Nat×Int)}{X:Ac}{k:Nat}{a:Mn}
include Z
theorem WV.len(h:WV b X Y g w):Y.length<=5:=yJ h.nd λk e=>by let:=h.kn k e;let:=Z.n5;ext
omit Z in
theorem WV.alE(h:WV b X Y g w):1<=Y.length:=List.length_pos_iff.mpr h.ne
theorem SA.ak(h:SA b s):AK s.ac:=λk a e=>by let:=h.ac k a e;let:=Z.n5;show#[by ext,(h.ac k a e).2.lb]
omit Z in
theorem SA.cm(h:SA b p.1)(f:(k:Int)<b.n)(ha:VA b.ls.length a):SA b (eB p k a).1:=by
 refine⟨λj x e=>?_,h.oc⟩;by_cases z:j=k
 .subst z;have i:cL a=cL x:=(de (ac:=p.1.ac) (k:=j) (o:=cL a)).symm.trans e;cases i;exact⟨f,ha⟩
 .exact h.ac j x ((eK z).symm.trans e)
omit Z in
theorem SA.gg(h:SA b p.1):SA b (go p k).1:=by
 unfold go;split
 .refine⟨λj x e=>?_,h.oc⟩
  by_cases z:j=k
  .subst z;exact bb ((de (ac:=p.1.ac) (k:=j) (o:=Ld)).symm.trans e) (by simp)
  .exact h.ac j x ((eK z).symm.trans e)
 .exact h
omit Z in
theorem ml:(eB p k a).2.length<=p.2.length+1:=by
 show(p.2++rS p.1.ac a).length<=_;rw[Xf];have:(rS p.1.ac a).length<=1:=by
  cases a with
  |XB c=>show(if _ then _ else _:Sn).length<=1;split<;>simp
  |_=>simp[rS]
 ext
omit Z in
theorem Co(e:bg (Nat×Mn)):∀p:Y0×Sn,(gC p e).2.length<=p.2.length+e.length:=by
 induction e with
 |nil=>exact λp=>Xd _
 |cons q r f=>intro p;have i:=f (eB p q.1 q.2);have h:=ml (p:=p) (k:=q.1) (a:=q.2);show(gC (eB p q.1 q.2) r).2.length<=_;rw[Xk];ext
omit Z in
theorem SA.cms(e:bg (Nat×Mn)):∀{p:Y0×Sn},SA b p.1->(∀q∈e,(q.1:Int)<b.n/\VA b.ls.length q.2)->SA b (gC p e).1/\(gC p e).1.wt=p.1.wt/\(gC p e).1.oc=p.1.oc:=by
 induction e with
 |nil=>exact λh _=>⟨h,rfl,rfl⟩
 |cons q r j=>intro p h f;have i:=f q W8;exact j (h.cm i.1 i.2) λx l=>f x (Xb _ l)
def nr(h:pE (b.ls.headD []) k=S):∃c,iO b 0 k=.XB c:=by
 let i:=Z.l1;obtain⟨f,r,e⟩:∃f r,b.ls=f::r:=by
  cases q:b.ls with
  |nil=>rw[q]at i;ext i
  |cons l r=>show#[l,r,W]
 unfold pE at h;ext iO;rw[e]at h⊢;rw[ade,abO];rw[afO]at h;cases q:f[k]? with
 |none=>rw[q]at h;ext h
 |some m=>
  rw[q]at h;cases m with
  |XB c=>show#[c,W]
  |_=>ext h
def Lq(f:(k:Int)<b.n)(h:pE (b.ls.headD []) k=S):VA b.ls.length (iO b 0 k):=by let i:=Z.l1;let(c,e):=nr Z h;let:=yD Z (L:=0) () f;rw[e]at this⊢;show this
def Q9(h:WV b X Y g P):∀m∈F7 b Y,VA b.ls.length m:=by
 intro m hm;unfold F7 at hm;split at hm
 .rename_i c f
  rcases Xt.mp hm with rfl|hm
  .show(Z.vc c (ZH f)).2.2.2
  .rw[(abC.mp hm).2];trivial
 .let(j,e,rfl):=Xs.mp hm;show Lq Z (h.kn j e) (h.ch W j e)
def vE(h:WV b X Y g w):∀q∈Y.zip (gy b Y w),(q.1:Int)<b.n/\VA b.ls.length q.2:=by
 intro q f;let e:=Zn f;show#[h.kn _ e.1,?_];cases w with
 |none=>show Q9 Z h _ e.2
 |some i=>let(c,n):=i;rw[Xl.mp e.2];show(h.tp c n W).2.1
def WD(b:Bd)(s:Y0):Prop:=∀Y g w,s.wt=R (Y,g,w)->WV b s.ac Y g w
def cZ(h:SA b p.1)(f:WD b p.1):SW b (bu b p).1/\(bu b p).1.wt=P/\(bu b p).2.length<=p.2.length+5/\(bu b p).1.oc=p.1.oc:=by
 ext bu;split
 .rename_i q;show#[#[h,λY g w e=>by simp_all],q,Nat.le_add_right _ _,W]
 .rename_i Y g w q
  let v:=f Y g w q;let(l,j,i):=SA.cms (Y.zip (gy b Y w)) (p:=({p.1 with wt:=P},p.2)) #[h.ac,h.oc] (vE Z v);show#[#[l,λ_ _ _ e=>?_],j,?_,i]
  .simp_all
  .let:=Co (Y.zip (gy b Y w)) ({p.1 with wt:=P},p.2)
   let m:=v.len Z
   grind
omit Z in
theorem BL:∀(l:bg Int) (m:bt Int),l.foldl jC m=m\/∃x∈l,l.foldl jC m=cL x
 |[],m=>.inl rfl
 |x::r,m=>by
  rw[aaX];rcases BL r (jC m x)with h|⟨y,hy,h⟩
  .rw[h]
   cases m with
   |none=>exact .inr ⟨x,W8,rfl⟩
   |some z=>
    show cL (if x>z then x else z)=cL z\/_;split
    .exact .inr ⟨x,W8,by show cL (if x>z then x else z)=_;rename_i q;rw[ax q]⟩
    .exact .inl rfl
  .exact .inr ⟨y,Xb _ hy,h⟩
omit Z in
theorem Bl:∀(l:bg Int) (m:bt Int),(∀x∈l,∃y,l.foldl jC m=cL y/\x<=y)/\∀z,m=cL z->∃y,l.foldl jC m=cL y/\z<=y
 |[],m=>⟨λx f=>(by cases f),λz h=>⟨z,h,abj _⟩⟩
 |x::r,m=>by
  rw[aaX];obtain⟨o,n⟩:=Bl r (jC m x);have j:∃z,jC m x=cL z/\x<=z/\∀u,m=cL u->u<=z:=by
   cases m with
   |none=>exact⟨x,rfl,abj _,λu h=>by cases h⟩
   |some u=>
    refine⟨if x>u then x else u,rfl,?_,λv h=>?_⟩
    .split<;>ext
    .cases h;split<;>ext
  obtain⟨z,e1,e2,e3⟩:=j;obtain⟨y,e4,e5⟩:=n z e1;refine⟨λv e=>?_,λu i=>⟨y,e4,by have:=e3 u i;ext⟩⟩;rcases Xt.mp e with rfl|e
  .exact⟨y,e4,by ext⟩
  .exact o v e
omit Z in
theorem A2{X:Ac}{n:Int}:n∈(gu X).filterMap Db↔∃k,k<5/\X k=cL (.Ze n):=by
 rw[aan];constructor
 .rintro⟨⟨k,m⟩,f,e⟩
  have h:=eD.mp f;cases m with
  |Ze x=>have:x=n:=Xj e;subst this;exact⟨k,h.1,h.2⟩
  |_=>cases e
 .rintro⟨k,f,e⟩;exact⟨(k,.Ze n),eD.mpr ⟨f,e⟩,rfl⟩
def Jw(h:SA b s):0<=we s.ac/\we s.ac<b.ls.length/\(∀k n,s.ac k=R (.Ze n)->n<=we s.ac)/\(we s.ac=0\/∃k,s.ac k=R (.Ze (we s.ac))):=by
 let l:=Z.l1;let o:=Z.n5;ext we;generalize hm:((gu s.ac).filterMap Db).foldl jC P=m;let i:=(Bl ((gu s.ac).filterMap Db) P).1;let f:=BL ((gu s.ac).filterMap Db) P;rw[hm]at i f;let up:∀k n,s.ac k=R (.Ze n)->∃y,m=R y/\n<=y:=λk n e=>i n (A2.mpr #[k,by let:=(h.ac k _ e).1;ext,e]);cases m with
 |none=>show#[abj _,by show(0:Int)<_;ext,λk n e=>?_,.inl W];let(y,e2,_):=up k n e;ext e2
 |some x=>
  rcases f with f|⟨y,q,f⟩
  .ext f
  .ext f;let(k,_,e):=A2.mp q;let:=(h.ac k _ e).2;let:1<=x/\x<b.ls.length:=this;show#[by show 0<=x;ext,by show x<_;ext,λk n e=>?_,.inr #[k,e]];let(y,e2,j):=up k n e;ext e2;show j
def vX(h:SA b s):0<=i6 s.ac s.oc/\i6 s.ac s.oc<b.ls.length:=by
 cases q:s.oc with
 |none=>let:=Jw Z h;show#[this.1,this.2.1]
 |some o=>let:=h.oc o q;show#[by show 0<=o;ext,this.2]
end
section
variable{b:Bd}{s:Y0}{Q:Sn}{Y:bg (Nat×Mn)}{J:aK}{T:aP}{i:Nat}{X:aK}{p:Y0×Sn}{k:Nat}{a:Mn}
def yA(h:f x=R y):aA f [x]=R [y]:=by ext aA;rw[h];rfl
def gQ:(l++[c]).set l.length o=l++[o]:=by simp
def nX(f:HS b p X):∃c,bz [.rf 0] X=.ok (.fz (fJ p.1)) c/\HS b p c:=by
 let(Y,J,e,rfl):=f;let h:=Ib e;let j:gB (qh (aU "Hand" "acts" (aq 0))) [R (.rf 0)] (cY b p.1 p.2 Y J)=.ok ((gu p.1.ac).map λq=>nd q.1) (cY b p.1 p.2 Y (J++[.dead])):=by
  show(uy (ds:=(gu p.1.ac).map λq=>nd q.1) (JG (gG W) W (Eg e) (by rw[W0];ext)) ?_).trans ?_
  .rw[DM e];show bf.trans ?_;rw[XI,XI];rfl
  .rw[gQ];rfl
 let l:dD (eA 0) oU (mE (ai (ae (ad 0)) (ai (rN (aU "Hand" "acts" (aq 1)) (ae (ad 0))) aI))) ((gu p.1.ac).map λq=>nd q.1) [P,R (.rf 0)] (cY b p.1 p.2 Y (J++[.dead])) []=.ok (((gu p.1.ac).map pD).map .fz) (cY b p.1 p.2 Y (J++[.dead])):=by show(nM (λq:Nat×Mn=>nd q.1) (λq=>.fz (pD q)) _ (λT=>∃o,T=[o,R (.rf 0)]) (gu p.1.ac) _ [] #[P,W] (by let:=ug p.1.ac;grind) ?_).trans (by rw[XI];rfl);rintro q g T ⟨o,rfl⟩;let hm:=eD.mp g;show#[[-(nd q.1),R (.rf 0)],W,W,?_,_,W];show uD (aj (ag (af W)) (aj (MK (gG W) (ag (af W)) W W (by rw[mx e hm.1,hm.2];rfl)) aG)) (W5 W)
 let tp:yk lR (ai (oZ 1 [0] (gB (qh (aU "Hand" "acts" (aq 0)))) (eA 0) oU (mE (ai (ae (ad 0)) (ai (rN (aU "Hand" "acts" (aq 1)) (ae (ad 0))) aI)))) aI) [R (.rf 0)] (cY b p.1 p.2 Y J)=.ok (.fz (.tuple ((gu p.1.ac).map pD))) (cY b p.1 p.2 Y (J++[.dead]++[.lst (((gu p.1.ac).map pD).map .fz)])):=
  Ah (aj (zE j l) aG) (yA (gU bf)) W
 show#[_,jd W (iB (uD (aj tp (aj (bx W) (aj (zR W) aG))) (W5 W))),Y,_,e,W]
def Ey(f:HS b p X):bX [.rf 0,.fz (nd k)] X=.ok (.fz (.bool (zn p.1.wt k))) X:=by
 let(Y,J,h,rfl):=f;show jd W (iB ?_);cases q:p.1.wt with
 |none=>
  let e1:lK (jz p.1.wt) .none=-(.bool U):=by rw[q];rfl
  show Dj (aH (b8 (bx W) (ag aw) (bw e1)))
 |some x=>
  let(e,g,w):=x;let e1:lK (jz p.1.wt) .none=-(.bool S):=by rw[q];rfl
  let e2:bc (jz p.1.wt) (.int 0)=-(.tuple (aY e)):=by rw[q];show iG
  show t7 (aH (b8 (bx W) (ag aw) (bw e1))) (b8 (ag (af W)) (cK (bx W) (ag aw) e2) (bw (vU _ _)))
def Ts(F:HS b p X)(u:AK p.1.ac)(N:p.1.ac k=R a)(G:p.2.length<1000):∃D,iX [.rf 0,.fz (nd k)] X=.ok (.fz .none) D/\HS b (go p k) D:=by
 let(Y,J,C,rfl):=F;let H:=(u k a N).1;let lb:=(u k a N).2;let(f,K,y):=D7 C
 let n:ub (aU "Hand" "acts" (aq 0)) (ae (ad 1)) [R (.rf 0),-(nd k),P] (cY b p.1 p.2 Y J)=.ok (.fz (mD a)) (cY b {p.1 with ac:=jJ p.1.ac k P} p.2 f J):=
  (Kk (gG W) W (ag (af W)) W W (by rw[mx C H,N];rfl)).trans (by rw[K];rfl)
 let I:go p k=({p.1 with ac:=jJ p.1.ac k P},p.2++NT (jJ p.1.ac k P) a):=by ext go;rw[N]
 rw[I];let t:AK (jJ p.1.ac k P):=λj x e=>by
  by_cases z:j=k
  .subst z;rw[de]at e;ext e
  .rw[eK z]at e;show u j x e
 let e0:=pc a;let e1:=kj a;let l:az (aB cJ (aB bc (ad 2) (~~~0)) (pC (.str "letter"))) (bV [R (.rf 0),-(nd k),-(mD a)])=.ok (a.isL,bV [R (.rf 0),-(nd k),-(mD a)]):=by ext:0
 let w:GoS (bS (lU (bp (az (aB cJ (aB bc (ad 2) (~~~0)) (pC (.str "letter"))))) (qJ (aW (aM "Hand" "has_act" bF 2 (aq 0) (ai (ae (ad 2)) aI))))) (bv (l7 (aU "Hand" "sent" (aq 0)) (ae (aV {aB bc (ad 2) (~~~1),pC (.str "up")})))) bN [R (.rf 0),-(nd k),-(mD a)] (cY b {p.1 with ac:=jJ p.1.ac k P} p.2 f J)) (λ_ D=>SV.fz .none=.fz .none/\HS b ({p.1 with ac:=jJ p.1.ac k P},p.2++NT (jJ p.1.ac k P) a) D) (λ_ _=>False) (λr D=>r=.fz .none/\HS b ({p.1 with ac:=jJ p.1.ac k P},p.2++NT (jJ p.1.ac k P) a) D):=by
  cases q:a.isL with
  |false=>
   rw[q]at l;show dB (gO (aX l)) (j6 #[W,f,J,y,?_]);let:NT (jJ p.1.ac k P) a=[]:=by ext a<;>first|rfl|ext q
   simp_all
  |true=>
   rw[q]at l;let(h,v,o):=HE (p:=({p.1 with ac:=jJ p.1.ac k P},p.2)) #[f,J,y,W] t lb;let g:∀m,lA (jJ p.1.ac k P) a=m->(lU (bp (az (aB cJ (aB bc (ad 2) (~~~0)) (pC (.str "letter"))))) (qJ (aW (aM "Hand" "has_act" bF 2 (aq 0) (ai (ae (ad 2)) aI))))) [R (.rf 0),-(nd k),-(mD a)] (cY b {p.1 with ac:=jJ p.1.ac k P} p.2 f J)=.ok (!m) h:=λm e=>by
    let v:bF [.rf 0,.fz (mD a)] (cY b {p.1 with ac:=jJ p.1.ac k P} p.2 f J)=.ok (.fz (.bool m)) h:=by rw[<-e];show v
    show iV (aX l) (mV (aH (bG (p:=({p.1 with ac:=jJ p.1.ac k P},p.2)) #[f,J,y,W] (by rfl) W (aj (ag (af W)) aG) W v)))
   let(A,E,B,e2):=o;rw[e2]at g;cases q2:lA (jJ p.1.ac k P) a with
   |true=>
    show dB (g S q2) (j6 #[W,A,E,B,?_]);let:NT (jJ p.1.ac k P) a=[]:=by
     ext a<;>first|ext q|skip
     show(if lA (jJ p.1.ac k P) _=S then _ else _)=_;rw[ax q2]
    simp_all
   |false=>
    ext a<;>first|ext q|skip
    rename_i c;let L:bc (mD (.XB c)) (.int 1)=-(.str (dJ c)):=jR;show qV (g U q2) (ig (AA (d:=U) G W (ag (show _=Res.ok (PV.fz (.tuple [.str (dJ c),.str "up"]),_) by ext:0))) #[W,A,E,B,?_]);let:NT (jJ p.1.ac k P) (.XB c)=[(c,U)]:=by show(if lA (jJ p.1.ac k P) _=S then _ else _)=_;simp_all
    rw[this]
 show iy W (jg n W w)
end
section
variable{b:Bd}(Z:VB b){s:Y0}{sn:Sn}{X:bg (Nat×Mn)}{J:aK}{Q:aP}{i:Nat}{T:aK}{p:Y0×Sn}{k:Nat}{a:Mn}{Y:bg Nat}{g:Int}{w:bt (Nat×Int)}
theorem G2:∀(Y:G Nat) (as:G Mn),lG (aY Y) (as.map mD)=(Y.zip as).map pD
 |[],_=>by rfl
 |_::_,[]=>rfl
 |k::r,a::t=>by show Xa.tuple [nd k,mD a]::lG (aY r) (t.map mD)=_;rw[G2 r t];rfl
def yR(h:∀c n,w=R (c,n)->c<26):cJ (sD w) (.tuple [.str "chord"])=-(.bool w.isNone)/\pS (sD w) (.tuple [.str "chord"])=-(.bool w.isSome):=by
 cases w with
 |none=>
  let l:kr (.tuple [.str "chord"])=S:=by left
  let j:Xa.canLay0 (.tuple [.str "chord"])=S:=by left
  let f:Xa.eqv (.tuple [.str "chord"]) (.tuple [.str "chord"])=S:=by rfl
  constructor
  .show(if(kr (.tuple [.str "chord"])&&Xa.canLay0 (.tuple [.str "chord"]))=S then R (RV.fz (.bool (Xa.eqv (.tuple [.str "chord"]) (.tuple [.str "chord"]))))else P)=_;rw[l,j,f];rfl
  .show(if(kr (.tuple [.str "chord"])&&Xa.canLay0 (.tuple [.str "chord"]))=S then R (RV.fz (.bool (!Xa.eqv (.tuple [.str "chord"]) (.tuple [.str "chord"]))))else P)=_;rw[l,j,f];rfl
 |some m=>
  let(c,n):=m;let lb:LB (.tap c n):=h c n W;let e:Xa.eqv (mD (.tap c n)) (.tuple [.str "chord"])=U:=by rfl
  constructor
  .show(if(kr (mD (.tap c n))&&Xa.canLay0 (.tuple [.str "chord"]))=S then R (RV.fz (.bool (Xa.eqv (mD (.tap c n)) (.tuple [.str "chord"]))))else P)=_;rw[En lb,show Xa.canLay0 (.tuple [.str "chord"])=S by left,e];rfl
  .show(if(kr (mD (.tap c n))&&Xa.canLay0 (.tuple [.str "chord"]))=S then R (RV.fz (.bool (!Xa.eqv (mD (.tap c n)) (.tuple [.str "chord"]))))else P)=_;rw[En lb,show Xa.canLay0 (.tuple [.str "chord"])=S by left,e];rfl
theorem w6(Y:G Nat)(w:I (Nat×Int))(as:G Mn):∀(h:G (Nat×Mn)) (p:Y0×Sn) (T:aK) (n m:I SV),HS b p T->AK p.1.ac->(∀q∈h,q.1<5/\LB q.2)->p.2.length+h.length<1000->
  ∃d c,fW (Hm 2 (jB (eA 4) (jB (eA 5) vg))) (bv (aM "Hand" "come" br 3 (aq 0) (ai (ae (ad 4)) (ai (ae (ad 5)) aI)))) (h.map pD) [R (.rf 0),-(.tuple (aY Y)),-(sD w),-(.list (as.map mD)),n,m] T=.ok (.nx d) c/\HS b (gC p h) c
 |[],p,T,n,m,B,_,_,_=>#[_,T,W,B]
 |q::r,p,T,n,m,B,L,C,N=>by
  rw[Xk]at N;let l:=C q W8;let(f,e1,t):=pM B L l.2 l.1 ();let u:AK (eB p q.1 q.2).1.ac:=λj x e=>by
   by_cases z:j=q.1
   .let A:R q.2=R x:=by rw[z]at e;show(de).symm.trans e
    ext A;show#[by rw[z];show l.1,l.2]
   .show L j x ((eK z).symm.trans e)
  let:=ml (p:=p) (k:=q.1) (a:=q.2);let(d,c,e2,o):=w6 Y w as r (eB p q.1 q.2) f (-(nd q.1)) (-(mD q.2)) t u (λx y=>C x (Xb _ y)) ();show#[d,c,?_,o]
  let v:bv (aM "Hand" "come" br 3 (aq 0) (ai (ae (ad 4)) (ai (ae (ad 5)) aI))) [R (.rf 0),-(.tuple (aY Y)),-(sD w),-(.list (as.map mD)),-(nd q.1),-(mD q.2)] T=.ok (.nx [R (.rf 0),-(.tuple (aY Y)),-(sD w),-(.list (as.map mD)),-(nd q.1),-(mD q.2)]) f:=
   gK (bG B (by left) W (aj (ag (af W)) (aj (ag (af W)) aG)) W e1)
  show((bv (aM "Hand" "come" br 3 (aq 0) (ai (ae (ad 4)) (ai (ae (ad 5)) aI))) [R (.rf 0),-(.tuple (aY Y)),-(sD w),-(.list (as.map mD)),-(nd q.1),-(mD q.2)] T).bind _)=_;rw[v,d5];show e2
include Z
def kG(y:HS b p T)(r:SA b p.1)(j:p.1.wt=R (Y,g,w))(v:WV b p.1.ac Y g w)(L:p.2.length<900):∃d,cH [.rf 0] T=.ok (.fz .none) d/\HS b (bu b p) d:=by
 let(X,J,B,rfl):=y;let e0:bc (jz p.1.wt) (.int 0)=-(.tuple (aY Y)):=by rw[j];show iG
 let e2:bc (jz p.1.wt) (.int 2)=-(sD w):=by rw[j];show nI
 let t:=v.len Z;let u:=v.alE;let G:=yR λc n h=>(v.tp c n h).1;let F:bu b p=gC ({p.1 with wt:=P},p.2) (Y.zip (gy b Y w)):=by ext bu;rw[j]
 rw[F];let o:az (aB cJ (ad 2) (pC (.tuple [.str "chord"]))) (bV [R (.rf 0),-(.tuple (aY Y)),-(sD w),P,P,P])=.ok (w.isNone,bV [R (.rf 0),-(.tuple (aY Y)),-(sD w),P,P,P]):=bh (aD (af W) aw W W G.1) W;let m:qA (EW (bp (az (aB cJ (ad 2) (pC (.tuple [(.str "chord")]))))) (hG fq 2 (ai (aU "Hand" "bed" (aq 0)) (ai (ae (ad 1)) aI))) (ae (dI {aV {pC (.str "layer"),aB bc (ad 2) (~~~2)}}))) [R (.rf 0),-(.tuple (aY Y)),-(sD w),P,P,P] (cY b {p.1 with wt:=P} p.2 X J)=.ok (.fz (.list ((gy b Y w).map mD))) (cY b {p.1 with wt:=P} p.2 X (J++[.dead])):=by
  cases w with
  |none=>let I:=P7 Z u t v.kn;show(uE (BI (aX o) (uT (aj (ox W) (aj (ag (af W)) aG)) W I)) (pX bf)).trans (by rw[gQ];rfl)
  |some H=>let(c,n):=H;let K:bc (sD (R (c,n))) (.int 2)=-(.int n):=nI;show(uE (Bv (aX o) (fZ (show _=Res.ok (PV.ow [.tuple [.str "layer",.int n]],_) by ext:0))) (pX bf)).trans (by rw[gQ];rfl)
 let f:∃e d,sg (ng (DA {ad 1,ad 3})) (Hm 2 (jB (eA 4) (jB (eA 5) vg))) (bv (aM "Hand" "come" br 3 (aq 0) (ai (ae (ad 4)) (ai (ae (ad 5)) aI)))) [R (.rf 0),-(.tuple (aY Y)),-(sD w),-(.list ((gy b Y w).map mD)),P,P] (cY b {p.1 with wt:=P} p.2 X (J++[.dead]))=.ok (.nx e) d/\HS b (gC ({p.1 with wt:=P},p.2) (Y.zip (gy b Y w))) d:=by
  let M:=Z.n5;let(e,d,E,C):=w6 Y w (gy b Y w) (Y.zip (gy b Y w)) ({p.1 with wt:=P},p.2) (cY b {p.1 with wt:=P} p.2 X (J++[.dead])) P P #[X,_,B,W] (SA.ak Z #[r.ac,r.oc]) (λq A=>by
   let:=vE Z v q A;show#[by ext,this.2.lb]) (by
   rw[List.length_zip];show p.2.length+_<1000;ext)
  show#[e,d,?_,C];ext sg;rw[qB (BN (ah (af W) (ah (af W) av)) W W W),d5,G2];show E
 let(e,d,f,l):=f;show#[d,mP (ρ1:=e) W ?_,l];show cF (uf (cK (bx W) (ag aw) e0) W) (cF (uf (cK (bx W) (ag aw) e2) W) (cF (j9 P W (ag aw)) (cF (uf m W) f)))
omit Z in
theorem Lz{c:bg Nat×Nat}(h:c.2<26):Xa.canLay0 (cj c)=WZ:=by show(Xa.canLayAll0 (aY c.1)&&(Xa.strOk (dJ c.2)&&WZ))=WZ;rw[jr,r8 h];rfl
omit Z in
theorem Ot:∀{cs:bg (bg Nat×Nat)},(∀c∈cs,c.2<26)->pS (.list (cs.map cj)) (.list [])=-(.bool (!cs.isEmpty)):=by
 intro cs h;have j:∀cs:bg (bg Nat×Nat),(∀c∈cs,c.2<26)->Xa.canLayAll0 (cs.map cj)=WZ:=by
  intro cs
  induction cs with
  |nil=>exact λ_=>rfl
  |cons c r e=>intro h;show(Xa.canLay0 (cj c)&&Xa.canLayAll0 (r.map cj))=WZ;rw[Lz (h c W8),e λx l=>h x (Xb _ l)];rfl
 have f:∀cs:bg (bg Nat×Nat),Xa.depthAll (cs.map cj)<=2:=by
  intro cs
  induction cs with
  |nil=>exact XY _
  |cons c r e=>show max (Xa.depth (cj c)) (Xa.depthAll (r.map cj))<=2;refine akn.mpr ⟨?_,e⟩;show max (Xa.depthAll (aY c.1)+1) (max 0 0)+1<=2;rw[mM];decide
 show(if((Xa.canLayAll0 (cs.map cj)&&decide (Xa.depthAll (cs.map cj)+1<=64))&&WZ)=WZ then cL (RV.fz (.bool (!Xa.eqvAll (cs.map cj) [])))else Ld)=_;rw[j cs h,a5 (show Xa.depthAll (cs.map cj)+1<=64 by have:=f cs;ext)];cases cs<;>rfl
theorem LY(h:c∈cP b Y):c.2<26:=(Z.vc c (YO.mp h).1).2.2.2
omit Z in
theorem Bb(h:Y≠[])(e:Y.length<=5):bP (.tuple (aY Y)) (.tuple [nd k])=-(.tuple (aY (Y++[k]))):=by
 show(if aY Y≠[]/\(aY Y).length+1<=1000000 then cL (RV.fz (.tuple (aY Y++[nd k])))else Ld)=_;rw[ax ⟨by cases Y with
  |nil=>exact bb rfl h
  |cons x r=>simp[aY],by rw[di];ext⟩,Mv]
 rfl
def Aw{d:cw}{ω1:aK}(e:∃X J,ω1=cY b s sn X J)(l:Q[0]?=R (R (.rf 0)))(f:Y.length<=5)(h:d Q ω1=.ok (.fz (.tuple (aY Y))) ω1):jo pS (hG bA 2 (ai (aU "Hand" "bed" (aq 0)) (ai d aI))) (ae (dI am)) Q ω1=.ok (.fz (.bool (!(cP b Y).isEmpty))) (ω1++[.lst (((cP b Y).map cj).map .fz)]++[.lst []]):=by let(X,J,rfl):=e;show b8 (uT (ds:=[bD b,.tuple (aY Y)]) (aj (ox l) (aj h aG)) W (Bz Z f)) (fZ (ds:=[]) (ρ':=bV Q) (lh av W (XY _))) ?_;show yW (gU (ei bf)) (gU (ds:=[]) bf) (Ot λc j=>LY Z j)
def PZ(o:HS b p T)(E:SW b p.1)(L:(k:Int)<b.n)(z:zn p.1.wt k=U):∃d,cX [.rf 0,.fz (nd k)] T=.ok (.fz (.bool (AC b p.1 k))) d/\HS b p d:=by
 cases q:p.1.wt with
 |none=>
  let r:AC b p.1 k=U:=by ext AC;rw[q]
  rw[r];let(X,J,l,rfl):=o;let e1:oj (jz p.1.wt) .none=-(.bool S):=by rw[q];rfl
  show#[_,jd W (oi (c7 (re (aH (b8 (bx W) (ag aw) (bw e1)))) (iB (ag aw)))),X,J,l,W]
 |some x=>
  let(Y,g,w):=x;let v:=(E.wt Y g w q).1;let F:=v.len Z;let e1:oj (jz p.1.wt) .none=-(.bool U):=by rw[q];rfl
  let e2:bc (jz p.1.wt) (.int 2)=-(sD w):=by rw[q];show nI
  let e0:bc (jz p.1.wt) (.int 0)=-(.tuple (aY Y)):=by rw[q];show iG
  let C:=(yR λc n h=>(v.tp c n h).1).2;cases w with
  |some N=>
   let r:AC b p.1 k=U:=by ext AC;rw[q]
   rw[r];let(X,J,l,rfl):=o;show#[_,jd W (oi (c7 (dZ (aH (b8 (bx W) (ag aw) (bw e1))) (re (aH (b8 (cK (bx W) (ag aw) e2) (ag aw) (bw C))))) (iB (ag aw)))),X,J,l,W]
  |none=>
   let r:AC b p.1 k=(decide (i6 p.1.ac p.1.oc=0)&& !(cP b (Y++[k])).isEmpty):=by ext AC;rw[q]
   rw[r];let(j,H,m):=nX o;let f:(wa (aW (jo oj (aU "Hand" "waiting" (aq 0)) (ae (pC .none)))) (wa (aW (jo pS (iZ (aU "Hand" "waiting" (aq 0)) (ae (~~~2))) (ae (pC (.tuple [(.str "chord")]))))) (aW (jo pS (hG dA 1 (ai (aM "Hand" "stands" bz 1 (aq 0) aI) aI)) (ae (~~~0)))))) [R (.rf 0),-(nd k)] T=.ok (!decide (i6 p.1.ac p.1.oc=0)) j:=by
    let I:aW (jo pS (hG dA 1 (ai (aM "Hand" "stands" bz 1 (aq 0) aI) aI)) (ae (~~~0))) [R (.rf 0),-(nd k)] T=.ok (!decide (i6 p.1.ac p.1.oc=0)) j:=
     aH (b8 (vH (aj (bG o (by rfl) W aG W H) aG) W (wF p.1)) (ag aw) (bw (vK _ _)))
    let(X,J,l,rfl):=o;show dZ (aH (b8 (bx W) (ag aw) (bw e1))) (dZ (aH (b8 (cK (bx W) (ag aw) e2) (ag aw) (bw C))) I)
   by_cases B:i6 p.1.ac p.1.oc=0
   .rw[a5 B]at f⊢
    let(X,J,l,rfl):=m;let u:k∉Y:=by rw[q]at z;show of_decide_eq_false z
    let t:(Y++[k]).Nodup:=by rw[Zu];show#[v.nd,Yv.mpr #[YG,abf],λx A y K e=>u (by simp_all)]
    let G:(Y++[k]).length<=5:=yJ t λx A=>by
     let M:=Z.n5;rcases X0.mp A with h|h
     .let:=v.kn x h;ext
     .rw[Xl.mp h];ext
    show#[_,jd W (cF (ez f eF) (iB (Aw Z #[X,J,W] W G (b8 (cK (bx W) (ag aw) e0) (ag (bq (ah (af W) av) W (W5 W))) (bw (Bb v.ne F)))))),X,_,l,W]
   .rw[a6 B]at f⊢;show#[j,jd W (oi (c7 f (iB (ag aw)))),m]
end
section
variable{b:Bd}(Z:VB b){s:Y0}{sn:Sn}{ps:bg (Nat×Mn)}{J:aK}{ρ:aP}{i:Nat}{ω:aK}{p:Y0×Sn}{k:Nat}{a:Mn}{ks:bg Nat}{g:Int}{w:bt (Nat×Int)}
include Z
def Qj(v:WV b p.1.ac ks g w)(c:k∉ks)(m:(k:Int)<b.n):(ks++[k]).Nodup/\(ks++[k]).length<=5:=by
 let f:(ks++[k]).Nodup:=by rw[Zu];show#[v.nd,Yv.mpr #[YG,abf],λx j y l e=>c (by simp_all)]
 show#[f,yJ f λx j=>?_];let o:=Z.n5;rcases X0.mp j with h|h
 .let:=v.kn x h;ext
 .rw[Xl.mp h];ext
def uz(o:SW b p.1)(m:(k:Int)<b.n)(z:p.1.ac k=P)(d:zn p.1.wt k=U)(hm:AC b p.1 k=S):∃ks g,p.1.wt=R (ks,g,P)/\k∉ks/\WV b p.1.ac (ks++[k]) g P/\g<b.wt:=by
 unfold AC at hm;split at hm
 .rename_i ks g q
  rw[WX]at hm;let(v,t):=o.wt ks g P q;let f:k∉ks:=by rw[q]at d;show of_decide_eq_false d
  let(l,B):=Qj Z v f m;show#[ks,g,q,f,#[by simp,l,λx e=>?_,λx e=>?_,v.g0,λc n h=>(by ext h),λ_ x e=>?_],t]
  .rcases X0.mp e with h|h
   .show v.kn x h
   .rw[Xl.mp h];show m
  .rcases X0.mp e with h|h
   .show v.kf x h
   .rw[Xl.mp h];show z
  .let j:=hm.2
   cases C:cP b (ks++[k])with
   |nil=>rw[C]at j;ext j
   |cons c r=>
    let u:c∈cP b (ks++[k]):=by rw[C];show W8
    let(A,y):=YO.mp u;let:=Yh.mp y x e;show(Z.vc c A).2.2.1 x (a7 this)
 .ext hm
def Mb(y:HS b p ω)(l:SW b p.1)(h:p.1.wt=R (ks,g,P))(v:WV b p.1.ac (ks++[k]) g P)(j:WV b p.1.ac ks g P)(A:p.2.length<900):∃d,cO [.rf 0,.fz (nd k)] ω=.ok (.fz .none) d/\HS b (pI b p k) d:=by
 let(ps,J,m,rfl):=y;let r:=v.len Z;let e0:bc (jz p.1.wt) (.int 0)=-(.tuple (aY ks)):=by rw[h];show iG
 let e1:bc (jz p.1.wt) (.int 1)=-(.int g):=by rw[h];show jR
 let F:pI b p k=if(cP b (ks++[k])).map (·.1.length)=[(ks++[k]).length]then bu b ({p.1 with wt:=R (ks++[k],g,P)},p.2)else({p.1 with wt:=R (ks++[k],g,P)},p.2):=by ext pI;rw[h]
 let u:HS b ({p.1 with wt:=R (ks++[k],g,P)},p.2) (cY b {p.1 with wt:=R (ks++[k],g,P)} p.2 ps J):=#[ps,J,m,W];let G:dD (eA 0) oU (ae (g9 dY {aB bc (ad 0) (~~~0)})) ((cP b (ks++[k])).map cj) [P] (cY b {p.1 with wt:=R (ks++[k],g,P)} p.2 ps (J++[.dead])) []=.ok ((aY ((cP b (ks++[k])).map (·.1.length))).map .fz) (cY b {p.1 with wt:=R (ks++[k],g,P)} p.2 ps (J++[.dead])):=by
  show(nM cj (λc=>.fz (nd c.1.length)) _ (λρ=>∃o,ρ=[o]) (cP b (ks++[k])) _ [] #[P,W] ?_ ?_).trans (by ext aY;rw[XI,XI];rfl)
  .let:=Z2 (λc:bg Nat×Nat=>(ks++[k]).all λk=>decide (k∈c.1)) b.cs;let:=Z.c4;show 0+(cP b (ks++[k])).length<=_;ext cP;ext
  .rintro c _ ρ ⟨o,rfl⟩;let t:bc (cj c) (.int 0)=-(.tuple (aY c.1)):=iG;show#[[-(cj c)],W,W,ag (gq (ah (aD (af W) aw W W t) av) W ((jG _).trans (by rw[di]))),_,W]
 let E:gB (hG bA 2 (ai (aU "Hand" "bed" (aq 0)) (ai (ae (ad 2)) aI))) [R (.rf 0),-(nd k),-(.tuple (aY (ks++[k])))] (cY b {p.1 with wt:=R (ks++[k],g,P)} p.2 ps J)=.ok ((cP b (ks++[k])).map cj) (cY b {p.1 with wt:=R (ks++[k],g,P)} p.2 ps (J++[.dead])):=
  (uy (uT (aj (ox W) (aj (ag (af W)) aG)) W (Bz Z r)) bf).trans (by rw[gQ];rfl)
 let rt:dI {g9 dY {ad 2}} (bV [R (.rf 0),-(nd k),-(.tuple (aY (ks++[k])))])=.ok (.ow (aY [(ks++[k]).length]),bV [R (.rf 0),-(nd k),-(.tuple (aY (ks++[k])))]):=by show lh (ah (gq (ah (af W) av) W ((jG _).trans (by rw[di]))) av) W (W5 W)
 let f:aW (jo cJ (oZ 1 [] (gB (hG bA 2 (ai (aU "Hand" "bed" (aq 0)) (ai (ae (ad 2)) aI)))) (eA 0) oU (ae (g9 dY {aB bc (ad 0) (~~~0)}))) (ae (dI {g9 dY {ad 2}}))) [R (.rf 0),-(nd k),-(.tuple (aY (ks++[k])))] (cY b {p.1 with wt:=R (ks++[k],g,P)} p.2 ps J)=.ok (decide ((cP b (ks++[k])).map (·.1.length)=[(ks++[k]).length])) (cY b {p.1 with wt:=R (ks++[k],g,P)} p.2 ps (J++[.dead])++[.lst ((aY ((cP b (ks++[k])).map (·.1.length))).map .fz)]++[.lst ((aY [(ks++[k]).length]).map .fz)]):=
  aH (b8 (zE E G) (fZ rt) (yW (gU (ei bf)) (gU bf) (uC _ _)))
 let e:HS b ({p.1 with wt:=R (ks++[k],g,P)},p.2) (cY b {p.1 with wt:=R (ks++[k],g,P)} p.2 ps (J++[.dead])++[.lst ((aY ((cP b (ks++[k])).map (·.1.length))).map .fz)]++[.lst ((aY [(ks++[k]).length]).map .fz)]):=#[ps,_,m,W];generalize (cY b {p.1 with wt:=R (ks++[k],g,P)} p.2 ps (J++[.dead])++[.lst ((aY ((cP b (ks++[k])).map (·.1.length))).map .fz)]++[.lst ((aY [(ks++[k]).length]).map .fz)]:aK)=L at f e;rw[F];show iy W (jg (b8 (cK (bx W) (ag aw) e0) (ag (bq (ah (af W) av) W (W5 W))) (bw (Bb j.ne (j.len Z)))) W (AY (j9 (R (ks++[k],g,P)) W (uD (aj (ag (af W)) (aj (cK (bx W) (ag aw) e1) (aj (ag aw) aG))) (W5 W))) (wK f (λq=>?_) λq=>?_)))
 .rw[ax (a7 q)];let(n,C,B):=kG Z e #[l.sa.ac,l.sa.oc] W v A;show ig (bG e (by rfl) W aG W C) #[W,B]
 .rw[a4 (of_decide_eq_false q)];show j6 #[W,e]
def IL(f:SW b p.1)(h:p.1.wt=R (ks,g,P))(v:WV b p.1.ac (ks++[k]) g P)(j:g<b.wt):SW b (pI b p k).1:=by
 let l:pI b p k=if(cP b (ks++[k])).map (·.1.length)=[(ks++[k]).length]then bu b ({p.1 with wt:=R (ks++[k],g,P)},p.2)else({p.1 with wt:=R (ks++[k],g,P)},p.2):=by ext pI;rw[h]
 rw[l];split
 .show(cZ Z (p:=({p.1 with wt:=R (ks++[k],g,P)},p.2)) #[f.sa.ac,f.sa.oc] λ_ _ _ e=>by ext e;show v).1
 .show#[#[f.sa.ac,f.sa.oc],λ_ _ _ e=>by ext e;show#[v,j]]
omit Z in
theorem Ax(s:Y0)(m:Mn):(dh s m).ac=s.ac/\(dh s m).wt=s.wt:=by unfold dh;split<;>exact⟨rfl,rfl⟩
omit Z in
theorem AU{m:Mn}(h:SA b s):SA b (dh s m):=by
 unfold dh;split
 .exact h
 .exact⟨h.ac,λo e=>by cases e⟩
def Oq(F:HS b p ω)(R:SA b p.1)(hw:p.1.wt=Ld)(U:(k:Int)<b.n)(D:p.2.length<900):∃z,eY [.rf 0,.fz (nd k)] ω=.ok (.fz .none) z/\HS b (zt b p k) z:=by
 let(Q,P):=vX Z R;let I:=MH Z Q P U;let(v,S):=uB Z Q P U;let(ω1,h1,M):=nX F;let h5:=Z.n5;let eb:zt b p k=ut b (i6 p.1.ac p.1.oc) (dh p.1 (look b (i6 p.1.ac p.1.oc) k),p.2) k (look b (i6 p.1.ac p.1.oc) k):=W;rw[eb];let T:hG dA 1 (ai (aM "Hand" "stands" bz 1 (aq 0) aI) aI) [cL (.rf 0),-(nd k),Ld,Ld,Ld] ω=.ok (.fz (.int (i6 p.1.ac p.1.oc))) ω1:=vH (aj (bG F (by rfl) W aG W h1) aG) W (wF p.1);generalize i6 p.1.ac p.1.oc=L at I v S T Q P;generalize look b L k=m at I v S;let(ps,J,hp,rfl):=M;let lb:=v.lb;let c0:=pc m;let c1:=Ur m;let c2:=Pu m;let c3:=kj m;let c4:=JP m;let eL:cJ (.int L) (.int 0)=-(.bool (decide (L=0))):=jp _ _;let B:(aC (bS (bp (az (aB uU (ad 4) (aV {pC (.str "layer"),pC (.str "once")})))) (eP "Hand" "once" (aq 0) (ae (pC .none))) bN) bN) [cL (.rf 0),-(nd k),-(.int L),-(mD m),-(.str (wd m))] (cY b p.1 p.2 ps J)=.ok (.nx [cL (.rf 0),-(nd k),-(.int L),-(mD m),-(.str (wd m))]) (cY b (dh p.1 m) p.2 ps J):=by
  let t:bp (az (aB uU (ad 4) (aV {pC (.str "layer"),pC (.str "once")}))) [cL (.rf 0),-(nd k),-(.int L),-(mD m),-(.str (wd m))] (cY b p.1 p.2 ps J)=.ok (!(m.aeF||m.isO)) (cY b p.1 p.2 ps J):=aX (by ext:0);ext dh;cases q:(m.aeF||m.isO)with
  |true=>rw[q]at t;rw[ax W];show cF (ez t eF) eF
  |false=>rw[q]at t;rw[a4 Xp];show cF (c7 t (BG Ld W (ag aw))) eF
 let X:=Ax p.1 m;let H:SA b (dh p.1 m):=AU R;let j:ps.Perm (gu (dh p.1 m).ac):=by simp_all
 let e:HS b (dh p.1 m,p.2) (cY b (dh p.1 m) p.2 ps J):=#[ps,J,j,W];generalize dh p.1 m=s2 at B X H j e;let O:GoS ((bS (bp (az (aB cJ (ad 4) (pC (.str "tap"))))) (eP "Hand" "waiting" (aq 0) (ae (aV {aV {ad 1},~~~0,ad 3}))) (bS (lU (bp (az (aB cJ (ad 4) (pC (.str "letter"))))) (lU (bp (az (aB cJ (ad 2) (~~~0)))) (aW (jo pS (hG bA 2 (ai (aU "Hand" "bed" (aq 0)) (ai (ae (aV {ad 1})) aI))) (ae (dI am)))))) (eP "Hand" "waiting" (aq 0) (ae (aV {aV {ad 1},~~~0,pC (.tuple [(.str "chord")])}))) (bS (bp (az (aB cJ (ad 4) (pC (.str "once"))))) (aC (bv (aM "Hand" "come" br 3 (aq 0) (ai (ae (ad 1)) (ai (ae (pC (.tuple [(.str "none")]))) aI))))
 (eP "Hand" "once" (aq 0) (ae (aB bc (ad 3) (~~~1))))) (bv (aM "Hand" "come" br 3 (aq 0) (ai (ae (ad 1)) (ai (ae (ad 3)) aI))))))) [cL (.rf 0),-(nd k),-(.int L),-(mD m),-(.str (wd m))] (cY b s2 p.2 ps J)) (λ_ z=>SV.fz .none=.fz .none/\HS b (ut b L (s2,p.2) k m) z) (λ_ _=>False) (λr z=>r=.fz .none/\HS b (ut b L (s2,p.2) k m) z):=by
  let A:∀{ω:aK},bp (az (aB cJ (ad 4) (pC (.str "tap")))) [cL (.rf 0),-(nd k),-(.int L),-(mD m),-(.str (wd m))] ω=.ok m.isT ω:=aX (by ext:0);let E:∀{ω:aK},bp (az (aB cJ (ad 4) (pC (.str "letter")))) [cL (.rf 0),-(nd k),-(.int L),-(mD m),-(.str (wd m))] ω=.ok m.isL ω:=aX (by ext:0);let C:∀{ω:aK},bp (az (aB cJ (ad 4) (pC (.str "once")))) [cL (.rf 0),-(nd k),-(.int L),-(mD m),-(.str (wd m))] ω=.ok m.isO ω:=aX (by ext:0);let G:∀{ω:aK},bp (az (aB cJ (ad 2) (~~~0))) [cL (.rf 0),-(nd k),-(.int L),-(mD m),-(.str (wd m))] ω=.ok (decide (L=0)) ω:=aX (by ext:0);let kt:∀{ω:aK},ae (aV {ad 1}) [cL (.rf 0),-(nd k),-(.int L),-(mD m),-(.str (wd m))] ω=.ok (.fz (.tuple (aY [k]))) ω:=ag (bq (ah (af W) av) W (W5 W));let cm:∀{ω:aK},HS b (s2,p.2) ω->VA b.ls.length m->∃z,bv (aM "Hand" "come" br 3 (aq 0) (ai (ae (ad 1)) (ai (ae (ad 3)) aI))) [cL (.rf 0),-(nd k),-(.int L),-(mD m),-(.str (wd m))] ω=.ok (.nx [cL (.rf 0),-(nd k),-(.int L),-(mD m),-(.str (wd m))]) z/\HS b (eB (s2,p.2) k m) z:=λ{ω} F va=>by let(z,u,l):=pM (k:=k) F (H.ak Z) va.lb () (show p.2.length<1000 by ext);show#[z,gK (bG F (by rfl) W (aj (ag (af W)) (aj (ag (af W)) aG)) W u),l]
  cases m with
  |below=>simp_all
  |tap c n=>show qV A (mI (j9 (cL ([k],0,cL (c,n))) W (ag (ρ':=bV [cL (.rf 0),-(nd k),-(.int L),-(mD (.tap c n)),-(.str (wd (.tap c n)))]) ?_)) #[W,ps,J,j,W]);rfl
  |XB c=>
   obtain⟨d1,d2⟩:VA b.ls.length (.XB c)/\True:=#[v,trivial];by_cases N:L=0
   .rw[a5 N]at G
    let ov:=Aw Z (ω1:=cY b s2 p.2 ps J) #[ps,J,W] W (W5 W) kt;let K:HS b (s2,p.2) (cY b s2 p.2 ps J++[.lst (((cP b [k]).map cj).map .fz)]++[.lst []]):=#[ps,_,j,W];let y:ut b L (s2,p.2) k (.XB c)=if(!(cP b [k]).isEmpty)=WZ then({s2 with wt:=cL ([k],0,Ld)},p.2)else eB (s2,p.2) k (.XB c):=by show(if(decide (L=0)&& !(cP b [k]).isEmpty)=WZ then _ else _)=_;rw[a5 N,abv]
    rw[y];show dB A (wK (iV E (iV G (aH ov))) (λq=>?_) λq=>?_)
    .rw[ax q];show mI (j9 (cL ([k],0,Ld)) W (ag (ρ':=bV [cL (.rf 0),-(nd k),-(.int L),-(mD (.XB c)),-(.str (wd (.XB c)))]) ?_)) #[W,ps,_,j,W];rfl
    .rw[a4 (by rw[q];simp)];let(z,u,l):=cm K v;show dB C (mI u #[W,l])
   .rw[a6 N]at G
    let y:ut b L (s2,p.2) k (.XB c)=eB (s2,p.2) k (.XB c):=by show(if(decide (L=0)&& !(cP b [k]).isEmpty)=WZ then _ else _)=_;simp_all
    rw[y];let(z,u,l):=cm e v;show dB A (dB (iV E (gO G)) (dB C (mI u #[W,l])))
  |Ze n=>let(z,u,l):=cm e v;show dB A (dB (gO E) (dB C (mI u #[W,l])))
  |none=>let(z,u,l):=cm e trivial;show dB A (dB (gO E) (dB C (mI u #[W,l])))
  |once n=>let(z,u,l):=pM (k:=k) (a:=.none) e (H.ak Z) trivial () (show p.2.length<1000 by ext);let i1:bc (mD (.once n)) (.int 1)=-(.int n):=jR;let(qs,J2,hq,rfl):=l;show dB A (dB (gO E) (qV C (AY (gK (bG e (by rfl) W (aj (ag (af W)) (aj (ag aw) aG)) W u)) (mI (BG (cL n) W (ag (ρ':=bV [cL (.rf 0),-(nd k),-(.int L),-(mD (.once n)),-(.str (wd (.once n)))]) ?_)) #[W,qs,J2,hq,W]))));rfl
 show iy (ρ:=[cL (.rf 0),-(nd k),Ld,Ld,Ld]) W (jg T W (jg (vH (ds:=[bD b,.int L,nd k]) (aj (ox W) (aj (ag (af W)) (aj (ag (af W)) aG))) W I) W (jg (ag (d:=.str (wd m)) (ρ':=bV [cL (.rf 0),-(nd k),-(.int L),-(mD m),Ld]) (aD (rv:=.fz (.str (wd m))) (af W) aw W W c0)) W ?_)));show .eq ?_ O;let Y:∀{f g:dG} {ρ:aP} {ω z:aK},aC f bN ρ ω=.ok (.nx ρ) z->aC f g ρ ω=g ρ z:=λ{f g ρ ω z} h=>by
  unfold aC at h⊢;cases q:f ρ ω with
  |bad=>rw[q]at h;ext h
  |er x o=>rw[q]at h;ext h
  |ok fl o=>
   rw[q]at h;cases fl with
   |nx r=>ext h;rfl
   |_=>ext h
 show Y B
end
section
variable{b:Bd}(Z:VB b){s:Y0}{sn:Sn}{ps:bg (Nat×Mn)}{J:aK}{ρ:aP}{i:Nat}{Y:aK}{p:Y0×Sn}{k:Nat}{a:Mn}{X:bg Nat}{g:Int}{w:bt (Nat×Int)}
include Z
omit Z in
theorem Be(h:SA b s)(f:s.wt=Ld):SW b s:=⟨h,λ_ _ _ e=>by rw[f]at e;cases e⟩
def O0(y:SA b p.1)(M:p.1.wt=Ld)(F:(k:Int)<b.n)(d:p.1.ac k=Ld):SW b (zt b p k).1:=by
 let(H,G):=vX Z y;let(f,A):=uB Z H G F;let O:zt b p k=ut b (i6 p.1.ac p.1.oc) (dh p.1 (look b (i6 p.1.ac p.1.oc) k),p.2) k (look b (i6 p.1.ac p.1.oc) k):=W;rw[O];generalize i6 p.1.ac p.1.oc=L at f A H G;generalize look b L k=m at f A;let v:=Ax p.1 m;let j:SA b (dh p.1 m):=AU y;let l:=v.2.trans M;let u:(dh p.1 m).ac k=Ld:=by rw[v.1];show d
 generalize dh p.1 m=s2 at j l u;let S:=Z.w1;let B:[k].Nodup:=Yv.mpr #[YG,abf];let C:∀x∈[k],(x:Int)<b.n:=λx t=>by simp_all
 let E:∀x∈[k],s2.ac x=Ld:=λx t=>by simp_all
 let cm:∀m,VA b.ls.length m->SW b (eB (s2,p.2) k m).1:=λm I=>Be (j.cm F I) l;cases m with
 |below=>simp_all
 |tap c n=>show#[#[j.ac,j.oc],λ_ _ _ e=>?_];ext e;show#[#[by simp,B,C,E,abj _,λR K e=>by ext e;show#[f.1,f.2,W],λe=>by ext e],by ext]
 |XB c=>
  show SW b (if(decide (L=0)&& !(cP b [k]).isEmpty)=WZ then({s2 with wt:=cL ([k],0,Ld)},p.2)else eB (s2,p.2) k (.XB c)).1;split
  .rename_i q
   show#[#[j.ac,j.oc],λ_ _ _ e=>?_];ext e;show#[#[by simp,B,C,E,abj _,λR K e=>(by ext e),λ_ x t=>?_],by ext];let T:=(WX _ _▸q:_/\_).2;cases qo:cP b [k]with
   |nil=>simp_all
   |cons c r=>
    let N:c∈cP b [k]:=by simp_all
    let(Q,P):=YO.mp N;show(Z.vc c Q).2.2.1 x (a7 (Yh.mp P x t))
  .show cm _ f
 |Ze n=>show cm _ f
 |none=>show cm _ trivial
 |once n=>let h:=cm .none trivial;show#[#[h.sa.ac,λo e=>by ext e;show f],λX g w e=>by let e:s2.wt=cL (X,g,w):=e;simp_all]
theorem SW.wd(h:SW b s):WD b s:=λX g w e=>(h.wt X g w e).1
omit Z in
theorem yr(e:bg (Nat×Mn)):∀{p:Y0×Sn},p.1.ac k=Ld->k∉e.map (·.1)->(gC p e).1.ac k=Ld:=by
 induction e with
 |nil=>exact λh _=>h
 |cons q r f=>intro p h hn;rw[Xq,Xt,not_or]at hn;exact f (p:=eB p q.1 q.2) ((eK hn.1).trans h) hn.2
omit Z in
theorem xZ(ha:p.1.ac k=Ld)(hn:zn p.1.wt k=W3):(bu b p).1.ac k=Ld:=by
 unfold bu;split
 .exact ha
 .rename_i X g w q;refine yr _ (p:=({p.1 with wt:=Ld},p.2)) ha λz=>?_;rw[q]at hn;obtain⟨x,e,rfl⟩:=Xs.mp z;exact of_decide_eq_false hn (Zn e).1
def Ea(e:SW b p.1)(f:(k:Int)<b.n):SW b (gb b p k).1:=by
 ext gb;split
 .show e
 .rename_i q
  rw[Yw,not_or]at q;let l:p.1.ac k=P:=by simp_all
  let j:zn p.1.wt k=U:=by simp_all
  split
  .rename_i h;let(X,g,e1,e2,e3,e4):=uz Z e f l j h;show IL Z e e1 e3 e4
  .let d:=cZ Z e.sa (SW.wd Z e);show O0 Z d.1.sa d.2.1 f (xZ l j)
def Ih(l:HS b p Y)(j:SW b p.1)(B:(k:Int)<b.n)(O:p.2.length<800):∃c,gD [.rf 0,.fz (nd k)] Y=.ok (.fz .none) c/\HS b (gb b p k) c:=by
 let P:=Z.n5;let A:k<5:=by ext
 let N:wa (aW (sB U (ae (ad 1)) (aU "Hand" "acts" (aq 0)))) (aW (aM "Hand" "is_waiting" bX 2 (aq 0) (ai (ae (ad 1)) aI))) [R (.rf 0),-(nd k)] Y=.ok ((p.1.ac k).isSome||zn p.1.wt k) Y:=by
  let K:=bG (ρ:=[R (.rf 0),-(nd k)]) (i:=0) (m:= "is_waiting") (fa:=ai (ae (ad 1)) aI) l (by rfl) W (aj (ag (af W)) aG) W (Ey l);let(ps,J,y,rfl):=l
  let t:sB U (ae (ad 1)) (aU "Hand" "acts" (aq 0)) [R (.rf 0),-(nd k)] (cY b p.1 p.2 ps J)=.ok (.fz (.bool (p.1.ac k).isSome)) (cY b p.1 p.2 ps J):=
   (zz (ag (af W)) (gG W) W W).trans (by rw[show jj (ps.map jF) (.inl (k:Int))=_ from mx y A];simp_all)
  cases q:(p.1.ac k).isSome with
  |true=>rw[q]at t;rw[aaj];show re (aH t)
  |false=>rw[q]at t;rw[abu];show dZ (aH t) (aH K)
 show iy W (xj N (λq=>?_) λq=>lZ ?_)
 .ext gb;rw[ax q];show uJ #[W,l]
 rw[aeg]at q;let T:p.1.ac k=Ld:=by simp_all
 let M:gb b p k=if AC b p.1 k=S then pI b p k else zt b (bu b p) k:=by ext gb;simp_all
 rw[M];let(u,I,h):=PZ Z l j B q.2;show xj (aH (bG l (by rfl) W (aj (ag (af W)) aG) W I)) (λo=>?_) λo=>lZ ?_
 .rw[ax o];let(X,g,e1,e2,e3,e4):=uz Z j B T q.2 o;let(e,C,f):=Mb Z h j e1 e3 (j.wt _ _ _ e1).1 ();show PL (kH (bG h (by rfl) W (aj (ag (af W)) aG) W C) (uJ #[W,f]))
 .rw[a4 (by rw[o];simp)]
  let d:=cZ Z j.sa (SW.wd Z j);let F:∀e,HS b (bu b p) e->GoS (bv (aM "Hand" "begin" eY 2 (aq 0) (ai (ae (ad 1)) aI)) [R (.rf 0),-(nd k)] e) (λ_ c=>SV.fz .none=.fz .none/\HS b (zt b (bu b p) k) c) (λ_ _=>False) (λr c=>r=.fz .none/\HS b (zt b (bu b p) k) c):=λe f=>by let(G,L,v):=Oq Z f d.1.sa d.2.1 B ();show ig (bG f (by rfl) W (aj (ag (af W)) aG) W L) #[W,v]
  cases n:p.1.wt with
  |none=>
   let Q:bu b p=p:=by ext bu;rw[n]
   let e1:lK (jz p.1.wt) .none=-(.bool U):=by rw[n];rfl
   let E:=F u (by simp_all);let(ps,J,y,rfl):=h;show qQ (aH (b8 (bx W) (ag aw) (bw e1))) (lZ E)
  |some x=>
   let(X,g,w):=x;let e1:lK (jz p.1.wt) .none=-(.bool S):=by rw[n];rfl
   let(e,C,f):=kG Z h j.sa n (j.wt _ _ _ n).1 ();let H:=bG (ρ:=[R (.rf 0),-(nd k)]) (i:=0) (m:= "decide") h (by rfl) W aG W C;let(ps,J,y,rfl):=h;show vB (aH (b8 (bx W) (ag aw) (bw e1))) (kH H (F e f))
def j7(e:SW b p.1)(f:zn p.1.wt k=S):SW b (bM b p k).1/\(bM b p k).2.length<=p.2.length+5:=by
 ext bM;split
 .let d:=cZ Z e.sa (SW.wd Z e);simp_all
 .rename_i X g c n q
  let v:=(e.wt _ _ _ q).1;rw[q]at f;let h:=v.kn k (a7 f);let j:=(v.tp c n W).1;show#[Be (SA.cm #[e.sa.ac,e.sa.oc] h j) W,?_];let:=ml (p:=({p.1 with wt:=P},p.2)) (k:=k) (a:=.XB c)
  grind
 simp_all
def iT(o:HS b p Y)(j:SW b p.1)(l:zn p.1.wt k=S)(H:p.2.length<800):∃d,fO [.rf 0,.fz (nd k)] Y=.ok (.fz .none) d/\HS b (bM b p k) d:=by
 let K:=Z.n5;cases q:p.1.wt with
 |none=>rw[q]at l;ext l
 |some x=>
  let(X,g,w):=x;let v:=(j.wt _ _ _ q).1;let t:k∈X:=by rw[q]at l;show a7 l
  let e2:bc (jz p.1.wt) (.int 2)=-(sD w):=by rw[q];show nI
  let F:=(yR λc n h=>(v.tp c n h).1).1;let y:∀{Y:aK},bp (az (aB cJ (ad 2) (pC (.tuple [.str "chord"])))) [R (.rf 0),-(nd k),-(sD w)] Y=.ok w.isNone Y:=aX (bh (aD (af W) aw W W F) W);cases w with
  |none=>
   let es:bM b p k=bu b p:=by ext bM;rw[q]
   rw[es];let(r,u,e):=kG Z o j.sa q v ();let B:=bG (ρ:=[R (.rf 0),-(nd k),-(sD P)]) (i:=0) (m:= "decide") o (by left) W aG W u;let(ps,J,A,rfl):=o;show iy W (jg (cK (bx W) (ag aw) e2) W (qV y (ig B #[W,e])))
  |some G=>
   let(c,n):=G;let es:bM b p k=eB ({p.1 with wt:=P},p.2) k (.XB c):=by ext bM;rw[q]
   rw[es];let E:=(v.tp c n W).1;let I:=v.kn k t;let(ps,J,A,rfl):=o;let f:HS b ({p.1 with wt:=P},p.2) (cY b {p.1 with wt:=P} p.2 ps J):=#[ps,J,A,W];let(r,u,e):=pM (k:=k) (a:=.XB c) f (SA.ak Z #[j.sa.ac,j.sa.oc]) E () (show p.2.length<1000 by ext);let C:bc (sD (R (c,n))) (.int 1)=-(.str (dJ c)):=jR;show iy W (jg (cK (bx W) (ag aw) e2) W (dB y (AY (j9 P W (ag aw)) (ig (bG f (by left) W (aj (ag (af W)) (aj (ag (bq (ah aw (ah (aD (af W) aw W W C) av)) W (W5 W))) aG)) W u) #[W,e]))))
omit Z in
theorem NZ(f:SW b p.1):SW b (go p k).1:=by
 refine⟨f.sa.gg,?_⟩;unfold go;split
 .intro X g w e;obtain⟨v,j⟩:=f.wt X g w e;exact⟨⟨v.ne,v.nd,v.kn,λx h=>by
   by_cases z:x=k
   .rw[z];exact de
   .exact(eK z).trans (v.kf x h),v.g0,v.tp,v.ch⟩,j⟩
 .exact f.wt
def IS(e:SW b p.1):SW b (kO b p k).1:=by
 ext kO;split
 .rename_i q;show NZ (j7 Z e q).1
 .show NZ e
def Jo(e:HS b p Y)(h:SW b p.1)(F:(k:Int)<b.n)(A:p.2.length<700):∃c,iq [.rf 0,.fz (nd k)] Y=.ok (.fz .none) c/\HS b (kO b p k) c:=by
 let G:=Z.n5;let j:k<5:=by ext
 let f:∀{p:Y0×Sn} {Y:aK},HS b p Y->SW b p.1->p.2.length<800->GoS (bS (aW (sB U (ae (ad 1)) (aU "Hand" "acts" (aq 0)))) (bv (aM "Hand" "go" iX 2 (aq 0) (ai (ae (ad 1)) aI))) bN [R (.rf 0),-(nd k)] Y) (λ_ c=>SV.fz .none=.fz .none/\HS b (go p k) c) (λ_ _=>False) (λr c=>r=.fz .none/\HS b (go p k) c):=λ{p Y} e h A=>by
  cases n:p.1.ac k with
  |none=>
   let E:go p k=p:=by ext go;rw[n]
   rw[E];let(ps,J,l,rfl):=e;show dB (aH ((zz (ag (af W)) (gG W) W W).trans (by rw[show jj (ps.map jF) (.inl (k:Int))=_ from mx l j,n];rfl))) (j6 #[W,ps,J,l,W])
  |some a=>let(u,B,o):=Ts e (h.sa.ak Z) n ();let y:=bG (ρ:=[R (.rf 0),-(nd k)]) (i:=0) (m:= "go") (fa:=ai (ae (ad 1)) aI) e (by rfl) W (aj (ag (af W)) aG) W B;let(ps,J,l,rfl):=e;show qV (aH ((zz (ag (af W)) (gG W) W W).trans (by rw[show jj (ps.map jF) (.inl (k:Int))=_ from mx l j,n];rfl))) (ig y #[W,o])
 show iy W (xj (aH (bG e (by rfl) W (aj (ag (af W)) aG) W (Ey e))) (λq=>?_) λq=>?_)
 .ext kO;rw[ax q];let(v,C,t):=iT Z e h q ();let z:=j7 Z h q;show kH (bG e (by rfl) W (aj (ag (af W)) aG) W C) (f t z.1 ())
 .ext kO;rw[a4 (by rw[q];simp)];show lZ (f e h ())
def Kh(f:SW b p.1):SW b (fD b p).1:=by
 ext fD;split
 .show f
 .rename_i X g w q
  let(v,l):=f.wt X g w q;let j:WV b p.1.ac X (g+1) w:=#[v.ne,v.nd,v.kn,v.kf,by let:=v.g0;ext,v.tp,v.ch];split
  .show(cZ Z (p:=({p.1 with wt:=R (X,g+1,w)},p.2)) #[f.sa.ac,f.sa.oc] λ_ _ _ e=>by simp_all).1
  .rename_i h;show#[#[f.sa.ac,f.sa.oc],λ_ _ _ e=>by ext e;show#[j,by ext]]
def Kq(o:HS b p Y)(f:SW b p.1)(t:p.2.length<800):∃c,eU [.rf 0] Y=.ok (.fz .none) c/\HS b (fD b p) c:=by
 let(ps,J,l,rfl):=o;cases q:p.1.wt with
 |none=>
  let j:fD b p=p:=by ext fD;rw[q]
  rw[j];let e1:oj (jz p.1.wt) .none=-(.bool S):=by rw[q];rfl
  show iy W (vB (aH (b8 (bx W) (ag aw) (bw e1))) (uJ #[W,ps,J,l,W]))
 |some x=>
  let(X,g,w):=x;let v:=(f.wt _ _ _ q).1;let n:WV b p.1.ac X (g+1) w:=#[v.ne,v.nd,v.kn,v.kf,by let:=v.g0;ext,v.tp,v.ch];let j:fD b p=if g+1=b.wt then bu b ({p.1 with wt:=R (X,g+1,w)},p.2)else({p.1 with wt:=R (X,g+1,w)},p.2):=by ext fD;rw[q]
  rw[j];let e1:oj (jz p.1.wt) .none=-(.bool U):=by rw[q];rfl
  let e0:bc (jz p.1.wt) (.int 0)=-(.tuple (aY X)):=by rw[q];show iG
  let e2:bc (jz p.1.wt) (.int 2)=-(sD w):=by rw[q];show nI
  let e3:bc (jz p.1.wt) (.int 1)=-(.int g):=by rw[q];show jR
  let e4:bc (bD b) (.int 3)=-(.int b.wt):=QR W;let e:HS b ({p.1 with wt:=R (X,g+1,w)},p.2) (cY b {p.1 with wt:=R (X,g+1,w)} p.2 ps J):=#[ps,J,l,W];show iy W (qQ (aH (b8 (bx W) (ag aw) (bw e1))) (lZ (jg (b8 (cK (bx W) (ag aw) e3) (ag aw) (bw (eV _ _))) W (AY (j9 (R (X,g+1,w)) W (uD (aj (cK (bx W) (ag aw) e0) (aj (ag (af W)) (aj (cK (bx W) (ag aw) e2) aG))) (W5 W))) (wK (aH (b8 (ag (af W)) (cK (ox W) (ag aw) e4) (bw (jp _ _)))) (λz=>?_) λz=>?_)))))
  .rw[ax (a7 z)];let(m,r,h):=kG Z e #[f.sa.ac,f.sa.oc] W n (show p.2.length<900 by ext);show ig (bG e (by rfl) W aG W r) #[W,h]
  .rw[a4 (of_decide_eq_false z)];show j6 #[W,e]
def Evn.afg:Evn->Bool
 |.turn=>S
 |_=>U
def Evn.isDown:Evn->Bool
 |.down _=>S
 |_=>U
def EV(b:Bd):Evn->Prop
 |.down k=>(k:Int)<b.n
 |.up k=>(k:Int)<b.n
 |.turn=>True
def pP(f:SW b s)(h:EV b e):SW b (bJ b s e).1:=by
 cases e with
 |down k=>show Ea Z f h
 |up k=>show IS Z f
 |turn=>show Kh Z f
omit Z in
theorem tN:∀l:bg (Nat×Mn),aA qG (l.map pD)=cL (l.map jF)
 |[]=>rfl
 |q::r=>by rw[Xq];unfold aA;rw[tN r];rfl
omit Z in
theorem wI:∀(l acc:bg (Nat×Mn)),((acc++l).map (·.1)).Nodup->lS (acc.map jF) (l.map jF)=(acc++l).map jF
 |[],acc,_=>by rw[X2];rfl
 |q::r,acc,h=>by
  have hn:∀x∈acc,x.1≠q.1:=λx f e=>by rw[XM,Zu]at h;exact h.2.2 _ (Xs.mpr ⟨x,f,rfl⟩) q.1 W8 e
  have e1:jx (acc.map jF) (jF q).1 (jF q).2=(acc++[q]).map jF:=by
   unfold jx;rw[a4 ?_,XM]
   .rfl
   .intro z;obtain⟨kv,n,m⟩:=acb.mp z;obtain⟨x,j,rfl⟩:=Xs.mp n;have:=Sum.inl.inj (a7 m);exact hn x j (by ext)
  show lS (jx (acc.map jF) (jF q).1 (jF q).2) (r.map jF)=_;rw[e1,wI r (acc++[q]) (by rw[XZ];exact h),XZ];rfl
omit Z in
theorem ME:df [.rf 0,.fz (bD b),.fz (fJ s)] [.obj "Hand" []]=.ok (.fz .none) (cY b s [] (gu s.ac) []):=by
 have e0:bc (fJ s) (.int 0)=-(.tuple ((gu s.ac).map pD)):=iG;have e1:bc (fJ s) (.int 1)=-(jz s.wt):=jR;have e2:bc (fJ s) (.int 2)=-(sH s.oc):=nI;have v:gY "bed" (.fz (bD b)) []=([("bed",.fz (bD b))]:bg (Str×SV)):=rfl;have q:gY "acts" (.rf 1) ([("bed",.fz (bD b))]:bg (Str×SV))=([("bed",.fz (bD b)),("acts",.rf 1)]:bg (Str×SV)):=by unfold gY;rw[a4 (by left)];rfl
 have o:gY "waiting" (.fz (jz s.wt)) ([("bed",.fz (bD b)),("acts",.rf 1)]:bg (Str×SV))=([("bed",.fz (bD b)),("acts",.rf 1),("waiting",.fz (jz s.wt))]:bg (Str×SV)):=by unfold gY;rw[a4 (by left)];unfold gY;rw[a4 (by left)];rfl
 have n:gY "once" (.fz (sH s.oc)) ([("bed",.fz (bD b)),("acts",.rf 1),("waiting",.fz (jz s.wt))]:bg (Str×SV))=([("bed",.fz (bD b)),("acts",.rf 1),("waiting",.fz (jz s.wt)),("once",.fz (sH s.oc))]:bg (Str×SV)):=by unfold gY;rw[a4 (by left)];unfold gY;rw[a4 (by left)];unfold gY;rw[a4 (by left)];rfl
 have m:gY "sent" (.rf 2) ([("bed",.fz (bD b)),("acts",.rf 1),("waiting",.fz (jz s.wt)),("once",.fz (sH s.oc))]:bg (Str×SV))=LJ b s:=by unfold gY;rw[a4 (by left)];unfold gY;rw[a4 (by left)];unfold gY;rw[a4 (by left)];unfold gY;rw[a4 (by left)];rfl
 have r:lS [] ((gu s.ac).map jF)=(gu s.ac).map jF:=wI (gu s.ac) [] (rV s.ac);have j:∀{x:SV} {ρ:aP} {fs:bg (Str×SV)} {Y:aK} {l:cw} {f:Str} {c:Cell} {e:aK},ρ[0]?=cL (cL (.rf 0))->l ρ Y=.ok x (.obj "Hand" fs::e)->fs.length<100->eP "Hand" f (aq 0) l ρ Y=.ok (.nx ρ) (.obj "Hand" (gY f x fs)::e):=λh u t=>(ou u (aO h) rfl t).trans rfl
 have ha:tY (ae (aB bc (ad 2) (~~~0))) [cL (.rf 0),-(bD b),-(fJ s)] [.obj "Hand" ([("bed",.fz (bD b))]:bg (Str×SV))]=.ok (.rf 1) [.obj "Hand" ([("bed",.fz (bD b))]:bg (Str×SV)),.dct ((gu s.ac).map jF)]:=
  (JA (ag (d:=.tuple ((gu s.ac).map pD)) (aD (rv:=.fz (.tuple ((gu s.ac).map pD))) (af rfl) aw rfl rfl e0)) (tN _)).trans (by rw[r];rfl)
 refine mP (ρ:=[cL (.rf 0),-(bD b),-(fJ s)]) (ρ1:=[cL (.rf 0),-(bD b),-(fJ s)]) rfl (cF (j rfl (c:=.dead) (ag (d:=bD b) (af rfl)) (W5 rfl)) (cF (j rfl (c:=.dead) ha (W5 rfl)) (cF (j rfl (c:=.dead) (ag (d:=jz s.wt) (aD (rv:=.fz (jz s.wt)) (af rfl) aw rfl rfl e1)) (W5 rfl)) (cF (j rfl (c:=.dead) (ag (d:=sH s.oc) (aD (rv:=.fz (sH s.oc)) (af rfl) aw rfl rfl e2)) (W5 rfl)) ?_))));rw[q,o,n];refine(j (fs:=([("bed",.fz (bD b)),("acts",.rf 1),("waiting",.fz (jz s.wt)),("once",.fz (sH s.oc))]:bg (Str×SV))) rfl (c:=.dead) (fZ (ds:=[]) (lh av rfl (XY _))) (W5 rfl)).trans ?_;show RS.ok _ (Cell.obj "Hand" (gY "sent" (.rf 2) ([("bed",.fz (bD b)),("acts",.rf 1),("waiting",.fz (jz s.wt)),("once",.fz (sH s.oc))]:bg (Str×SV)))::_)=_;rw[m];rfl
omit Z in
theorem J4(e:Evn):∃x:Str,bc (eR e) (.int 0)=-(.str x)/\cJ (.str x) (.str "turn")=-(.bool (e.afg))/\cJ (.str x) (.str "down")=-(.bool (e.isDown)):=by
 have h:Xa.strOk "down"=WZ:=by left
 have j:Xa.strOk "up"=WZ:=by left
 have f:Xa.strOk "turn"=WZ:=by left
 cases e with
 |down k=>exact⟨"down",iG,Bf h f (by left),Nq h⟩
 |up k=>exact⟨"up",iG,Bf j f (by left),Bf j h (by left)⟩
 |turn=>exact⟨"turn",iG,Nq f,Bf f h (by left)⟩
def JM(q:SW b s)(y:EV b e):∃c,lL [.fz (bD b),.fz (fJ s),.fz (eR e)] []=.ok (.tp [.rf 2,.fz (fJ (bJ b s e).1)]) c/\sh c (.rf 2)=R (.list ((bJ b s e).2.map nk)):=by
 let h:HS b (s,[]) (cY b s [] (gu s.ac) []):=#[gu s.ac,[],.refl _,W];let(x,u,B,A):=J4 e;let o:∀{Y:aK},bp (az (aB cJ (aB bc (ad 2) (~~~0)) (pC (.str "turn")))) [-(bD b),-(fJ s),-(eR e),R (.rf 0)] Y=.ok (e.afg) Y:=aX (bh (aD (aD (af W) aw W W u) aw W W B) W);let v:∀{Y:aK},bp (az (aB cJ (aB bc (ad 2) (~~~0)) (pC (.str "down")))) [-(bD b),-(fJ s),-(eR e),R (.rf 0)] Y=.ok (e.isDown) Y:=aX (bh (aD (aD (af W) aw W W u) aw W W A) W);let n:∀{Y:aK},HS b (bJ b s e) Y->GoS (gv (mE (ai (aU "Hand" "sent" (aq 3)) (ai (aM "Hand" "stands" bz 1 (aq 3) aI) aI))) [-(bD b),-(fJ s),-(eR e),R (.rf 0)] Y) (λ_ c=>SV.fz .none=.tp [.rf 2,.fz (fJ (bJ b s e).1)]/\sh c (.rf 2)=R (.list ((bJ b s e).2.map nk))) (λ_ _=>False) (λr c=>r=.tp [.rf 2,.fz (fJ (bJ b s e).1)]/\sh c (.rf 2)=R (.list ((bJ b s e).2.map nk))):=λ{Y} L=>by let(j,l,f):=nX L;let m:=bG (ρ:=[-(bD b),-(fJ s),-(eR e),R (.rf 0)]) (i:=3) (m:= "stands") L (by rfl) W aG W l;let(ps,J,G,rfl):=L;let(E,H,F,rfl):=f;show Oe (SZ (aj (ul W) (aj m aG)) (W5 W) W W) #[W,gU W]
 let C:rh "Hand" df 3 (ai (ae (ad 0)) (ai (ae (ad 1)) aI)) [-(bD b),-(fJ s),-(eR e),P] []=.ok (.rf 0) (cY b s [] (gu s.ac) []):=OA (aj (ag (af W)) (aj (ag (af W)) aG)) W ME;show iy W (jg C W ?_);cases e with
 |turn=>let(j,l,f):=Kq Z h q (show 0<800 by decide);show vB o (kH (bG h (by rfl) W aG W l) (n f))
 |down k=>let(j,l,f):=Ih Z h q y (show 0<800 by decide);let t:bc (eR (.down k)) (.int 1)=-(nd k):=jR;show qQ o (vB v (kH (bG h (by rfl) W (aj (ag (aD (af W) aw W W t)) aG) W l) (n f)))
 |up k=>let(j,l,f):=Jo Z h q y (show 0<700 by decide);let t:bc (eR (.up k)) (.int 1)=-(nd k):=jR;show qQ o (qQ v (kH (bG h (by rfl) W (aj (ag (aD (af W) aw W W t)) aG) W l) (n f)))
def SU{e:Evn}(h:SW b s)(l:EV b e):jV lL 3 [.fz (bD b),.fz (fJ s),.fz (eR e)] Y=.ok (.tp [.rf Y.length,.fz (fJ (bJ b s e).1)]) (Y++[.lst (((bJ b s e).2.map nk).map .fz)]):=by
 let(f,n,m):=JM Z h l;ext jV;rw[ax (show([.fz (bD b),.fz (fJ s),.fz (eR e)]:G SV).length=3 from rfl),show aA vx [.fz (bD b),.fz (fJ s),.fz (eR e)]=R [bD b,fJ s,eR e]from rfl];dsimp only;rw[show[bD b,fJ s,eR e].map SV.fz=[.fz (bD b),.fz (fJ s),.fz (eR e)]from rfl,n];show(match DE f Y.length [.rf 2,.fz (fJ (bJ b s e).1)]with
  |some (o,cs,q)=>if q.Nodup then RS.ok (SV.tp o) (Y++cs.map UE)else .bad
  |none=>.bad)=_
 let j:DE f Y.length [.rf 2,.fz (fJ (bJ b s e).1)]=R ([.rf Y.length,.fz (fJ (bJ b s e).1)],[(bJ b s e).2.map nk],[2]):=by ext DE;rw[m];rfl
 rw[j];dsimp only;rw[ax ()];rfl
end
def vI:Y0:=#[λ_=>P,P,P]
theorem l4(b:Bd):SW b vI:=#[#[λk a e=>(by ext e),λo e=>(by ext e)],λf g w e=>(by ext e)]
theorem AL{α:Type}{f:α->D}{n:Nat}:∀{l:G α},(∀a∈l,Xa.depth (f a)<=n)->Xa.depthAll (l.map f)<=n
 |[],_=>XY _
 |a::r,h=>akn.mpr #[h a W8,AL λx b=>h x (Xb _ b)]
def MV{d:D}(b:Xa.canLay0 d=S)(a:Xa.depth d<=64):kr d=S:=by ext kr;simp_all
def uv{d:D}(h:kr d=S):Xa.canLay0 d=S:=by unfold kr at h;simp_all
def J1{d:D}(h:kr d=S):pS d d=-(.bool U):=by ext pS;rw[h,uv h,YX,ax W,aaK d (uv h)];rfl
def AB{d:D}(h:kr d=S):cJ d d=-(.bool S):=by ext cJ;rw[h,uv h,YX,ax W,aaK d (uv h)]
def aag(sn:Sn):Prop:=∀q∈sn,q.1<26
section
variable{b:Bd}(Z:VB b){s:Y0}{p:Y0×Sn}{k:Nat}{a:Mn}
theorem aag.app{x y:Sn}(f:aag x)(e:aag y):aag (x++y):=λq g=>(X0.mp g).elim (f q) (e q)
def kg(h:aag p.2)(d:LB a):aag (eB p k a).2:=by
 show h.app λq e=>?_;cases a with
 |XB c=>
  let e:q∈(if lA p.1.ac (.XB c)=S then[]else[(c,S)]:Sn):=e;split at e
  .ext e
  .rw[Xl.mp e];show d
 |_=>ext e
def Fx(e:G (Nat×Mn)):∀{p:Y0×Sn},aag p.2->(∀q∈e,LB q.2)->aag (gC p e).2:=by
 induction e with
 |nil=>show λh _=>h
 |cons q r g=>show λh f=>g (kg h (f q W8)) λx i=>f x (Xb _ i)
def M3(h:aag p.2)(d:SA b p.1):aag (go p k).2:=by
 ext go;split
 .rename_i a q
  let lb:=(d.ac k a q).2.lb;show h.app λx e=>?_;cases a with
  |XB c=>
   let e:x∈(if lA (jJ p.1.ac k P) (.XB c)=S then[]else[(c,U)]:Sn):=e;split at e
   .ext e
   .rw[Xl.mp e];show lb
  |_=>ext e
 .show h
include Z
def mL(h:aag p.2)(i:WD b p.1):aag (bu b p).2:=by
 ext bu;split
 .show h
 .rename_i e g w q;show Fx _ (p:=({p.1 with wt:=P},p.2)) h λx f=>(vE Z (i e g w q) x f).2.lb
def OE(h:aag p.2)(f:SA b p.1)(i:(k:Int)<b.n):aag (zt b p k).2:=by
 let(o,l):=vX Z f;let(e,g):=uB Z (k:=k) o l i;let j:zt b p k=ut b (i6 p.1.ac p.1.oc) (dh p.1 (look b (i6 p.1.ac p.1.oc) k),p.2) k (look b (i6 p.1.ac p.1.oc) k):=W;rw[j];generalize look b (i6 p.1.ac p.1.oc) k=m at e g;generalize i6 p.1.ac p.1.oc=L at e;let lb:=e.lb;cases m with
 |tap c n=>show h
 |XB c=>
  show aag (if(decide (L=0)&& !(cP b [k]).isEmpty)=S then({dh p.1 (.XB c)with wt:=R ([k],0,P)},p.2)else eB (dh p.1 (.XB c),p.2) k (.XB c)).2;split
  .show h
  .show kg (p:=(dh p.1 (.XB c),p.2)) h lb
 |Ze n=>show kg (p:=(dh p.1 (.Ze n),p.2)) h lb
 |once n=>show kg (p:=(dh p.1 (.once n),p.2)) (k:=k) (a:=.none) h trivial
 |none=>show kg (p:=(dh p.1 .none,p.2)) h lb
 |below=>simp_all
def Bs{e:Evn}(h:SW b s)(j:EV b e):aag (bJ b s e).2:=by
 let f:aag []:=λq m=>by ext m
 cases e with
 |turn=>
  show aag (fD b (s,[])).2;ext fD;split
  .show f
  .rename_i i g w q
   let v:=(h.wt i g w q).1;split
   .show mL Z (p:=({s with wt:=R (i,g+1,w)},[])) f λ_ _ _ e=>by ext e;show#[v.ne,v.nd,v.kn,v.kf,by let:=v.g0;ext,v.tp,v.ch]
   .show f
 |up k=>
  show aag (kO b (s,[]) k).2;ext kO;split
  .rename_i q
   let z:=j7 Z (p:=(s,[])) h q;show M3 ?_ z.1.sa;ext bM;split
   .show mL Z (p:=(s,[])) f (SW.wd Z h)
   .rename_i c n e;let o:c<26:=((h.wt _ _ _ e).1.tp c n W).1;show kg (p:=({s with wt:=P},[])) f o
   .show f
  .show M3 (p:=(s,[])) f h.sa
 |down k=>
  show aag (gb b (s,[]) k).2;ext gb;split
  .show f
  .rename_i q
   rw[Yw,not_or]at q;let t:s.ac k=P:=by simp_all
   let r:zn s.wt k=U:=by simp_all
   split
   .rename_i l
    let(i,g,e1,e2,e3,e4):=uz Z (p:=(s,[])) h j t r l;let e1:s.wt=R (i,g,P):=e1;ext pI;dsimp only;rw[e1];dsimp only;split
    .show mL Z (p:=({s with wt:=R (i++[k],g,P)},[])) f λ_ _ _ e=>by ext e;show e3
    .show f
   .let d:=cZ Z (p:=(s,[])) h.sa (SW.wd Z h);show OE Z (mL Z (p:=(s,[])) f (SW.wd Z h)) d.1.sa j
end
end STP
namespace K71
open PySem L2 L3 STP
def ic:FS:=(dH (MZ (az (aB Pg (ad 1) (g9 dY {ad 0}))) (aB bc (ad 0) (ad 1)) (~~~0)))
def a8:FN:=fA 2 ic
def hV:FS:=(bK (dU (aB rL (aB iE (aB bP (aB rL (ad 0) (~~~1000033)) (ad 1)) (aB bP (ad 1) (~~~521))) (~~~1000033)) (gN 3))
 (bK (dU (aB rL (aB bP (aB bP (aB iE (ad 3) (ad 3)) (aB zd (ad 0) (~~~1000033))) (aB iE (~~~7) (ad 1))) (~~~999983)) (gN 3))
 (dH (aB rL (aB zd (ad 3) (~~~3)) (ad 2)))))
def aF:FN:=fA 4 hV
def cR:FS:=(bK (dU (aB iZ (pC (.str "abc")) (bZ aF 3 {ad 0,~~~5,~~~3})) (gN 3))
 (bK (dU (aB bP (~~~1) (bZ aF 3 {ad 0,~~~7,g9 xC {~~~1,aB sL (ad 2) (~~~1)}})) (gN 4))
 (bK (dU (bZ aF 3 {ad 0,~~~3,~~~8}) (gN 5))
 (bK (mv (sO (az (aB DG (ad 1) (~~~0))) (az (aB DG (ad 5) (~~~5)))) (dH (aV {pC (.str "below")})) eO)
 (bK (mv (sO (az (aB DG (ad 2) (~~~1))) (az (aB cJ (ad 5) (~~~3)))) (dH (aV {pC (.str "layer"),ad 4})) eO)
 (bK (mv (sO (az (aB DG (ad 2) (~~~1))) (az (aB cJ (ad 5) (~~~4)))) (dH (aV {pC (.str "tap"),ad 3,ad 4})) eO)
 (bK (mv (sO (az (aB DG (ad 2) (~~~1))) (az (aB cJ (ad 5) (~~~5)))) (dH (aV {pC (.str "once"),ad 4})) eO)
 (dH (aV {pC (.str "letter"),ad 3})))))))))
def dz:FN:=fA 6 cR
def fE:FS:=(bK (dU (bZ a8 2 {ad 0,~~~0}) (gN 2))
 (bK (dU (aB bP (~~~1) (bZ aF 3 {ad 2,~~~1,ad 1})) (gN 3))
 (bK (dU (aB bP (~~~1) (bZ aF 3 {ad 2,~~~2,~~~2})) (gN 4))
 (bK (dU (dI am) (gN 5))
 (bK (sF (pp kJ {ad 4}) (gN 6) (bK (dU (dQ 1 [0,3,6] (pp kJ {ad 3}) (gN 0) cQ (bZ a8 2 {ad 1,aB bP (aB bP (~~~1) (aB iE (ad 2) (ad 3))) (ad 0)})) (gN 7))
 (rY (Ci 5 (g9 lR {dQ 1 [6,4] (iR (ad 7)) (gN 0) cQ (bZ dz 3 {ad 0,ad 1,ad 2})})))))
 (bK (dU (g9 lR {dQ 1 [5] (pp kJ {ad 3}) (gN 0) (az (aB cJ (aB bc (aB bc (aB bc (ad 1) (~~~0)) (ad 0)) (~~~0)) (pC (.str "letter")))) (ad 0)}) (gN 8))
 (bK (dU (aV am) (gN 9))
 (bK (mv (sO (az (aB DG (g9 dY {ad 8}) (~~~1))) (az (aB DG (bZ aF 3 {ad 2,~~~17,~~~3}) (~~~0)))) (dU (aV {aV {DF UK (ad 8) oG (gR (~~~2)),aB iZ (pC (.str "abd")) (bZ aF 3 {ad 2,~~~19,~~~3})}}) (gN 9)) eO)
 (dH (aV {ad 3,g9 lR {ad 5},ad 9,aB bP (~~~1) (bZ aF 3 {ad 2,~~~23,~~~2})}))))))))))
def gZ:FN:=fA 10 fE
def eX:FS:=(bK (dU (bZ a8 2 {ad 0,~~~0}) (gN 1))
 (bK (dU (dQ 1 [0] (pp kJ {~~~3}) (gN 0) cQ (aV {pC (.str "letter"),aB iZ (pC (.str "abc")) (bZ aF 3 {bZ a8 2 {ad 1,aB bP (~~~1) (ad 0)},~~~5,~~~3})})) (gN 2))
 (bK (dU (aB bc (dI {aV {~~~0,~~~1},aV {~~~0,~~~2},aV {~~~1,~~~2}}) (bZ aF 3 {ad 1,~~~29,~~~3})) (gN 3))
 (dH (aV {~~~3,aV {g9 lR {ad 2}},aV {aV {ad 3,aB iZ (pC (.str "abd")) (bZ aF 3 {ad 1,~~~19,~~~3})}},aB bP (~~~1) (bZ aF 3 {ad 1,~~~23,~~~2})})))))
def dM:FN:=fA 4 eX
def gc:FS:=(bK (dU (bZ a8 2 {ad 0,~~~9}) (gN 1))
 (bK (dU (dQ 1 [0] (pp kJ {bZ aF 3 {ad 1,~~~131,~~~3}}) (gN 0) cQ (bZ aF 3 {bZ a8 2 {ad 1,aB bP (~~~10) (ad 0)},~~~127,~~~7})) (gN 2))
 (dH (RP sQ (pC (.str "")) {dQ 1 [] (iR (ad 2)) (gN 0) cQ (aB iZ (pC (.str "aabbcdz")) (ad 0))}))))
def hJ:FN:=fA 3 gc
def d6:FS:=(bK (dU (g9 L9.RY {aB bc (ad 0) (~~~0)}) (gN 1))
 (dH (aB bP (aB bP (dQ 1 [] (iR (ad 1)) (gN 0) cQ (aV {pC (.str "down"),ad 0})) (dQ 1 [] (iR (ad 1)) (gN 0) cQ (aV {pC (.str "up"),ad 0}))) (dI {aV {pC (.str "turn"),~~~0}}))))
def fG:FN:=fA 2 d6
def fX:FS:=(bK (sF (iR (ad 2)) (gT 2 (Dv (gN 3) (Dv (gN 4) MU))) (mv (az (aB cJ (ad 4) (pC (.str "down")))) (bK (mv (az (aB pS (DF jT (ad 0) (gR (ad 1)) (gR (aB bP (ad 1) (~~~1)))) (ad 3))) (dH (pC .none)) eO)
 (dU (aB bP (ad 1) (~~~1)) (gN 1))) eO))
 (dH (ad 1)))
def hW:FN:=fA 5 fX
def gh:FS:=(bK (dU (dQ 1 [] (pp kJ {aB bc (ad 0) (~~~0)}) (gN 0) cQ (aV {pC (.str "down"),ad 0})) (gN 1))
 (bK (dU (dQ 1 [] (pp kJ {aB bc (ad 0) (~~~0)}) (gN 0) cQ (aV {pC (.str "up"),ad 0})) (gN 2))
 (dH (aB bP (aB bP (ad 1) (ad 2)) (dI {aV {pC (.str "turn"),~~~0}})))))
def fY:FN:=fA 3 gh
def et:FS:=(bK (dU (RP sQ (pC (.str "")) {dQ 2 [] (iR (ad 2)) (gT 2 (Dv (gN 0) (Dv (gN 1) MU))) (az (aB cJ (ad 1) (pC (.str "down")))) (ad 0)}) (gN 3))
 (bK (dU (aB bP (ad 1) (g9 E9 {ad 3})) (gN 4))
 (bK (mv (az (aB pS (DF jT (ad 0) (gR (ad 1)) (gR (ad 4))) (ad 3))) (dH (pC .none)) eO)
 (dH (ad 4)))))
def fM:FN:=fA 5 et
end K71
namespace K71
open PySem L2 L3 L10 STP
def bO:dG:=(aC (bS (aW (qX S (ae (ad 1)) (aU "Places" "numbers" (aq 0)))) (aC (bS (aW (jo Uz (yk dY (ai (aU "Places" "found" (aq 0)) aI)) (aU "Places" "most" (aq 0)))) (nc "TooMany" "most" (aU "Places" "most" (aq 0))) bN)
 (aC (lz (aU "Places" "numbers" (aq 0)) (ae (ad 1)) (yk dY (ai (aU "Places" "found" (aq 0)) aI)))
 (bv (l7 (aU "Places" "found" (aq 0)) (ae (aV {ad 1,ad 2,ad 3})))))) bN)
 (gv (jZ (aU "Places" "numbers" (aq 0)) (ae (ad 1)))))
def bQ:fS:=cI 4 bO
def bH:dG:=(aC (eP "Places" "most" (aq 0) (ae (ad 2)))
 (aC (eP "Places" "found" (aq 0) (ae (dI am)))
 (aC (eP "Places" "numbers" (aq 0) rB)
 (bv (oB "Places" "enter" bQ 4 (aq 0) (ai (ae (ad 1)) (ai (ae (pC .none)) (ai (ae (pC .none)) aI))))))))
def cA:fS:=cI 3 bH
def ir:dG:=(aC (cb (qA (ae (bZ fY 1 {ad 0}))) (eA 3))
 (aC (cb (Dg "Places" cA 3 (ai (ae (aV {pC (.tuple [(.tuple []),.none,.none]),~~~0})) (ai (ae (ad 2)) aI))) (eA 4))
 (aC (cb (ae (~~~0)) (eA 5))
 (aC (uj (aW (jo Pg (ae (ad 5)) (yk dY (ai (aU "Places" "found" (aq 4)) aI)))) (aC (cb (iZ (iZ (aU "Places" "found" (aq 4)) (ae (ad 5))) (ae (~~~0))) (eA 6))
 (aC (sg (ng (iR (ad 3))) (eA 7) (aC (cb (qA (qU STP.lL 3 (ai (ae (ad 0)) (ai (ae (aB bc (ad 6) (~~~0))) (ai (ae (ad 7)) aI))))) (eA 8))
 (aC (cb (ae (bZ fM 3 {ad 1,aB bc (ad 6) (~~~1),aB bc (ad 8) (~~~0)})) (eA 9))
 (bS (bp (az (aB lK (ad 9) (pC .none)))) (bv (oB "Places" "enter" bQ 4 (aq 4) (ai (ae (aV {aB bc (ad 8) (~~~1),ad 9})) (ai (ae (ad 5)) (ai (ae (ad 7)) aI))))) bN))))
 (C6 5 Pm (ae (~~~1))))))
 (gv (aq 4))))))
def gp:fS:=cI 10 ir
def fy:dG:=(aC (cb (ae (dI am)) (eA 3))
 (aC (cb (ae (dI am)) (eA 4))
 (aC (sg (gB (aU "Places" "found" (qp gp 3 [] (ai (ae (ad 0)) (ai (ae (ad 1)) (ai (ae (ad 2)) aI)))))) (Hm 3 (jB (eA 5) (jB (eA 6) (jB (eA 7) vg)))) (aC (cb (EW (bp (az (aB oj (ad 6) (pC .none)))) (ae (~~~0)) (jo bP (iZ (aq 3) (ae (ad 6))) (ae (~~~1)))) (eA 8))
 (aC (bv (l7 (aq 3) (ae (ad 8))))
 (bv (l7 (aq 4) (ae (aV {aB bc (ad 5) (~~~0),aB bc (ad 5) (~~~1),ad 8})))))))
 (gv (aq 4)))))
def aL:fS:=cI 9 fy
def fU:dG:=(aC (cb rB (eA 2))
 (aC (cb (ae (~~~0)) (eA 3))
 (aC (LD.forLS (aq 0) (eA 4) (aC (bS (wa (bp (CM (az (C4 "tuple" (ad 4))))) (wa (bp (az (aB pS (g9 dY {ad 4}) (~~~3)))) (wa (aW (qX U (ae (DF M0 (ad 4) oG (gR (~~~2)))) (aq 2))) (bp (az (aB Pg (aB bc (ad 4) (~~~2)) (ad 3))))))) (gv (ae (pC .none))) bN)
 (aC (cb (ae (aB bc (ad 4) (~~~2))) (eA 3))
 (lz (aq 2) (ae (DF M0 (ad 4) oG (gR (~~~2)))) (ae (aB bc (ad 4) (~~~2)))))))
 (gv (aq 2)))))
def dg:fS:=cI 5 fU
def fK:dG:=(aC (cb (JY (ae (aV {aV {aV am,pC .none,pC .none},~~~0})) (ae (pC (.bool S)))) (eA 3))
 (aC (sg (gB (j8 (aq 2))) (Hm 2 (jB (eA 4) (jB (eA 5) vg))) (aC (cb (jZ (aq 2) (ae (aV {ad 4,ad 5}))) (eA 6))
 (sg (ng (iR (bZ fG 1 {ad 0}))) (eA 7) (aC (cb (qA (qU STP.lL 3 (ai (ae (ad 0)) (ai (ae (ad 4)) (ai (ae (ad 7)) aI))))) (Hm 2 (jB (eA 8) (jB (eA 9) vg))))
 (aC (cb (ae (bZ hW 3 {ad 1,ad 5,ad 8})) (eA 10))
 (bS (bp (az (aB lK (ad 10) (pC .none)))) (aC (bS (aW (jo DG (mW (aq 2) (ae (aV {ad 9,ad 10})) (ae (aB bP (ad 6) (~~~2)))) (ae (aB bP (ad 6) (~~~1))))) (gv (ae (pC (.bool U)))) bN)
 (bS (aW (jo cJ (jZ (aq 2) (ae (aV {ad 9,ad 10}))) (ae (aB bP (ad 6) (~~~1))))) (lz (aq 3) (ae (aV {ad 9,ad 10})) (ae (pC (.bool S)))) bN)) bN))))))
 (gv (jo cJ (nU (aq 3)) (nU (aq 2))))))
def dX:fS:=cI 11 fK
def b6:fS:=λxs a=>match jV aL 3 xs a with
 |.ok (.rf i) o=>(match o[i]? with
  |some (.lst ys)=>.ok (.fz (nd ys.length)) o
  |_=>.bad)
 |.er x o=>if x.cls=("TooMany":Str)then(match x.fs with
  |[(f,.int k)]=>if f=("most":Str)then .ok (.fz (.tuple [.str "many",.int k])) o else .bad
  |_=>.bad)else .bad
 |_=>.bad
def Ay:dG:=(aC (cb (ae (bZ gZ 2 {ad 0,~~~2})) (eA 1))
 (aC (bS (bp (az (aB cJ (bZ aF 3 {bZ a8 2 {ad 0,~~~0},~~~31,~~~6}) (~~~1)))) (cb (ae (bZ dM 1 {ad 0})) (eA 1)) bN)
 (aC (cb (ae (bZ hJ 1 {ad 0})) (eA 2))
 (aC (cb (nW aL 3 [(.int 400)] (ai (ae (ad 1)) (ai (ae (ad 2)) aI))) (eA 3))
 (aC (bS (wa (qJ (aW (FY "list" (aq 3)))) (wa (aW (jo cJ (yk dY (ai (aq 3) aI)) (ae (~~~0)))) (aW (jo pS (iZ (aq 3) (ae (~~~0))) (ae (aV {aV {aV am,pC .none,pC .none},~~~0,~~~0})))))) (gv (ae (pC (.bool U)))) bN)
 (aC (cb (mQ dg 2 (ai (aq 3) (ai (ae (ad 2)) aI))) (eA 4))
 (aC (bS (wa (aW (Gx (aq 4))) (qJ (aW (mQ dX 3 (ai (ae (ad 1)) (ai (ae (ad 2)) (ai (aq 4) aI))))))) (gv (ae (pC (.bool U)))) bN)
 (aC (bv (l7 (aq 3) (ae (pC .none))))
 (aC (cb (nW aL 3 [(.int 400)] (ai (ae (ad 1)) (ai (ae (ad 2)) aI))) (eA 3))
 (aC (bS (aW (tO (mQ dg 2 (ai (aq 3) (ai (ae (ad 2)) aI))) (aq 4))) (gv (ae (pC (.bool U)))) bN)
 (aC (cb (hG aF 3 (ai (ae (bZ a8 2 {ad 0,~~~13})) (ai (ae (~~~137)) (ai (yk dY (ai (aq 3) aI)) aI)))) (eA 5))
 (gv (wq (jo cJ (mQ b6 3 (ai (ae (ad 1)) (ai (ae (ad 2)) (ai (yk dY (ai (aq 3) aI)) aI)))) (yk dY (ai (aq 3) aI))) (jo cJ (mQ b6 3 (ai (ae (ad 1)) (ai (ae (ad 2)) (ai (ae (ad 5)) aI)))) (ae (aV {pC (.str "many"),ad 5}))))))))))))))))
def F_law:fS:=cI 6 Ay
section
variable{ρ N:aP}{Q X Z T:aK}{x y z:SV}{i:Nat}{d:D}{Y:bg (D×D)}
def mZ(h:Q[i]?=R (.dd Y)):iz Q (.rf i)=R (i,Y):=by ext iz;dsimp only;rw[h]
def Av(a:o ρ Q=.ok x X)(hd:fd ρ X=.ok (.rf i) Z)(e:gz x=R k)(b:Z[i]?=R (.dd Y)):qX neg o fd ρ Q=.ok (.fz (.bool ((dC Y k).isSome !=neg))) Z:=by ext qX;rw[a,d5,hd,d5,e];show((RS.X5 Z (iz Z (.rf i))).bind _)=_;rw[mZ b];rfl
def p9(hd:fd ρ Q=.ok (.rf i) X)(a:o ρ X=.ok x Z)(f:gz x=R k)(e:Z[i]?=R (.dd Y))(b:dC Y k=R d):jZ fd o ρ Q=.ok (.fz d) Z:=by ext jZ;rw[hd,d5,a,d5,f];show((RS.X5 Z (iz Z (.rf i))).bind _)=_;rw[mZ e];show((RS.X5 Z (dC Y k)).bind _)=_;rw[b];rfl
def rP(a:fv ρ Q=.ok (.fz d) X)(hd:fd ρ X=.ok (.rf i) Z)(e:o ρ Z=.ok x T)(g:gz x=R k)(f:T[i]?=R (.dd Y))(b:Y.length<1000000):lz fd o fv ρ Q=.ok (.nx ρ) (T.set i (.dd (gA Y k d))):=by ext lz;rw[a,d5,hd,d5,e,d5,g];show((RS.X5 T (iz T (.rf i))).bind _)=_;rw[mZ f];show(if Y.length<1000000 then _ else _)=_;rw[ax b]
def l6(c:o ρ Q=.ok xs X)(b:xs.length=n)(a:F xs X=.ok x Z):mQ F n o ρ Q=.ok x Z:=by ext mQ;rw[c,d5,ax b,a,wz]
end
def wx{l r:aK}:(l++r)[l.length+t]?=r[t]? :=by rw[XO (),Zh]
def Mw{l r:aK}:(l++r).set (l.length+t) c=l++r.set t c:=by rw[aa6 _ _ (),Zh]
structure Pl where
 p:D
 b:D
 e:D
def II(q:Pl):D:=.tuple [q.p,q.b,q.e]
def iH:G Pl->D->I Nat
 |[],_=>P
 |q::r,p=>if Xa.eqv q.p p=S then R 0 else(iH r p).map (·+1)
def iM:Nat->G Pl->G (D×D)
 |_,[]=>[]
 |k,q::r=>(q.p,nd k)::iM (k+1) r
theorem lY:∀(k:Nat) (fs:G Pl) (p:D),dC (iM k fs) p=(iH fs p).map λi=>nd (k+i)
 |_,[],_=>rfl
 |k,q::r,p=>by
  let a:=lY (k+1) r p;unfold dC at a⊢;unfold iM iH;rw[XW];cases Xa.eqv q.p p with
  |true=>rfl
  |false=>dsimp only;rw[a,a4 Xp,Option.map_map];congr 1;funext i;show nd (k+1+i)=nd (k+(i+1));rw[abB,adJ 1 i]
theorem wL:∀(k:Nat) (fs:G Pl) (q:Pl),iM k (fs++[q])=iM k fs++[(q.p,nd (k+fs.length))]
 |k,[],q=>rfl
 |k,a::r,q=>by show(a.p,nd k)::iM (k+1) (r++[q])=(a.p,nd k)::(iM (k+1) r++[(q.p,nd (k+(r.length+1)))]);rw[wL (k+1) r q,abB,adJ 1 r.length]
theorem zG:∀(k:Nat) (fs:G Pl),(iM k fs).length=fs.length
 |_,[]=>rfl
 |k,q::r=>dw (·+1) (zG (k+1) r)
def JJ(h:iH fs p=P):gA (iM 0 fs) p (nd fs.length)=iM 0 (fs++[#[p,b,e]]):=by
 let g:=lY 0 fs p;rw[h]at g;unfold dC at g;let a:((iM 0 fs).find? λkv=>Xa.eqv kv.1 p)=P:=by
  cases q:(iM 0 fs).find? λkv=>Xa.eqv kv.1 p with
  |none=>rfl
  |some x=>rw[q]at g;ext g
 ext gA;rw[a,wL,ZG];rfl
def Ir(h:iH fs q.p=P)(f:Xa.eqv q.p q.p=S):iH (fs++[q]) q.p=R fs.length:=by
 induction fs with
 |nil=>show(if Xa.eqv q.p q.p=S then R 0 else _)=_;rw[ax f];rfl
 |cons a r b=>
  unfold iH at h;show(if Xa.eqv a.p q.p=S then R 0 else(iH (r++[q]) q.p).map (·+1))=_;by_cases e:Xa.eqv a.p q.p=S
  .rw[ax e]at h;ext h
  .rw[a4 e]at h⊢;rw[b (by cases k:iH r q.p with|none=>rfl|some _=>rw[k]at h;ext h)];rfl
def uO(h:LD.keyD p=S):Xa.eqv p p=S:=by
 show aaK p (LD.kd_lay p ?_);cases p with
 |tuple xs=>unfold LD.keyD at h;rw[WX]at h;ext LD.kd;show h.1
 |_=>simp[LD.keyD]at h
def pF(m:Int)(j k:Nat):G (Str×SV):=[("most",.fz (.int m)),("found",.rf j),("numbers",.rf k)]
structure PSt(i j k:Nat)(m:Int)(fs:G Pl)(ω:aK):Prop where
 o:ω[i]?=R (.obj "Places" (pF m j k))
 f:ω[j]?=R (.lst ((fs.map II).map .fz))
 n:ω[k]?=R (.dd (iM 0 fs))
 jk:j≠k
 ij:i≠j
 ik:i≠k
 lt:fs.length<100000
def sE(j k:Nat)(fs:G Pl)(a:aK):aK:=(a.set k (.dd (iM 0 fs))).set j (.lst ((fs.map II).map .fz))
section
variable{i j k:Nat}{m:Int}{fs:bg Pl}{Y:aK}{p b e:D}
def PSt.ent(h:PSt i j k m fs Y)(l:fs.length+1<100000):PSt i j k m (fs++[q]) (sE j k (fs++[q]) Y):=by
 let g:=(W2.mp h.f).1;let a:=(W2.mp h.n).1;show#[?_,?_,?_,h.jk,h.ij,h.ik,by rw[Xf];show l]
 .ext sE;rw[XD (c9 h.ij),XD (c9 h.ik)];show h.o
 .ext sE;rw[Ye (by rw[Yc];show g)]
 .ext sE;rw[XD h.jk,Ye a]
def GV:(pF m j k).lookup ("most":Str)=-(.int m):=by rfl
def nu:(pF m j k).lookup ("found":Str)=R (.rf j):=by rfl
def wm:(pF m j k).lookup ("numbers":Str)=R (.rf k):=by rfl
def sY:(pF m j k).lookup ("enter":Str)=P:=by rfl
theorem EU(a:LD.keyD p=S):gz (.fz p)=R p:=ax a
def tP(h:PSt i j k m fs Y)(hm:L9.Ul (.int m)=S)(M:m<=1000)(E:LD.keyD p=S):bQ [.rf i,.fz p,.fz b,.fz e] Y=(match iH fs p with
  |some t=>.ok (.fz (nd t)) Y
  |none=>if m<=(fs.length:Int)then .er #["TooMany",[("most",.int m)]] Y else .ok (.fz (nd fs.length)) (sE j k (fs++[#[p,b,e]]) Y)):=by
 let w:=EU E;let A:∀{a:aK},a[i]?=R (.obj "Places" (pF m j k))->aU "Places" "numbers" (aq 0) [R (.rf i),-(p),-(b),-(e)] a=.ok (.rf k) a:=λz=>iK (aO W) z wm;let F:∀{a:aK},a[i]?=R (.obj "Places" (pF m j k))->aU "Places" "found" (aq 0) [R (.rf i),-(p),-(b),-(e)] a=.ok (.rf j) a:=λz=>iK (aO W) z nu;let B:∀{a:aK},a[i]?=R (.obj "Places" (pF m j k))->aU "Places" "most" (aq 0) [R (.rf i),-(p),-(b),-(e)] a=.ok (.fz (.int m)) a:=λz=>iK (aO W) z GV;let u:∀{a:aK},ae (ad 1) [R (.rf i),-(p),-(b),-(e)] a=.ok (.fz p) a:=ag (af W);let g:=Av (neg:=S) u (A h.o) w h.n;rw[lY]at g;let get:∀{l:bg Pl} {a:aK} {t:Nat},a[i]?=R (.obj "Places" (pF m j k))->a[k]?=R (.dd (iM 0 l))->iH l p=R t->gv (jZ (aU "Places" "numbers" (aq 0)) (ae (ad 1))) [R (.rf i),-(p),-(b),-(e)] a=.ok (.rt (.fz (nd t))) a:=λK J I=>by show iB (p9 (A K) u w J ?_);rw[lY,I];show R (nd (0+_))=_;rw[ZG]
 let v:=Ah (aj (F h.o) aG) (by ext aA;rw[gU h.f];rfl) ((iP _).trans (by rw[W0]));cases q:iH fs p with
 |some t=>rw[q]at g;show jd W ?_;show cF (ez (aH g) eF) (get h.o h.n q)
 |none=>
  rw[q]at g;dsimp only;by_cases r:m<=(fs.length:Int)
  .rw[ax r]
   let y:=aH (b8 v (B h.o) (bw ((Ae _ _).trans (by rw[a5 r]))));show cI 4 bO _ _=_;ext cI;show((bO [R (.rf i),-(p),-(b),-(e)] Y).bind _)=_;let e1:bO [R (.rf i),-(p),-(b),-(e)] Y=.er #["TooMany",[("most",.int m)]] Y:=by ext bO;ext aC;rw[c7 (aH g) W,c7 y W,Dz (B h.o) hm];rfl
   rw[e1];rfl
  .rw[a4 r]
   let y:=aH (b8 v (B h.o) (bw ((Ae _ _).trans (by rw[a6 r]))));let C:=rP v (A h.o) u w h.n (by rw[zG];let:=h.lt;ext);rw[JJ q]at C;let L:(Y.set k (.dd (iM 0 (fs++[#[p,b,e]]))))[i]?=R (.obj "Places" (pF m j k)):=(XD (c9 h.ik)).trans h.o;let G:(Y.set k (.dd (iM 0 (fs++[#[p,b,e]]))))[j]?=R (.lst ((fs.map II).map .fz)):=(XD (c9 h.jk)).trans h.f;let H:=rM (fe:=ae (aV {ad 1,ad 2,ad 3})) (x:=.fz (II #[p,b,e])) (F L) G (ag (bq (ah (af W) (ah (af W) (ah (af W) av))) W (W5 W))) G (by rw[W0,W0];let:=h.lt;ext);let es:(Y.set k (.dd (iM 0 (fs++[#[p,b,e]])))).set j (.lst ((fs.map II).map SV.fz++[.fz (II #[p,b,e])]))=sE j k (fs++[#[p,b,e]]) Y:=by ext sE;rw[XM,XM];rfl
   rw[es]at H;let P:=h.ent (q:=#[p,b,e]) ();show jd W ?_;show cF (c7 (aH g) (cF (ez y eF) (cF C (gK H)))) (get P.o P.n (Ir q (uO E)))
end
def jv(a:aK)(m:Int)(fs:G Pl)(J:aK):aK:=a++(Cell.obj "Places" (pF m (a.length+1) (a.length+2)):: .lst ((fs.map II).map .fz):: .dd (iM 0 fs)::J)
theorem yz(h:fs.length<100000):PSt o.length (o.length+1) (o.length+2) m fs (jv o m fs a):=
 #[by let:=wx (l:=o) (r:=Cell.obj "Places" (pF m (o.length+1) (o.length+2)):: .lst ((fs.map II).map .fz):: .dd (iM 0 fs)::a) (t:=0);show this,wx,wx,by ext,by ext,by ext,h]
def Ak:sE (o.length+1) (o.length+2) C (jv o m fs a)=jv o m C a:=by unfold sE jv;rw[Mw,Mw];rfl
def TM(m:Int):Xc:=#["TooMany",[("most",.int m)]]
def wC(a:0<=m)(h:m<=1000):L9.Ul (.int m)=S:=by show a5 (aeW (Nat.log2_le_self m.natAbs) ?_);ext
def Ei(l:LD.keyD p=S)(j:0<=m)(f:m<=1000):cA [.rf o.length,.fz p,.fz (.int m)] (o++[.obj "Places" []])=if m<=0 then .er (TM m) (jv o m [] [])else .ok (.fz .none) (jv o m [#[p,.none,.none]] []):=by
 let i:eP "Places" "most" (aq 0) (ae (ad 2)) [R (.rf o.length),-(p),-(.int m)] (o++[.obj "Places" []])=.ok (.nx [R (.rf o.length),-(p),-(.int m)]) (o++[.obj "Places" [("most",.fz (.int m))]]):=
  (ou (ag (af W)) (aO W) bf ()).trans (by rw[gQ];rfl)
 let h:eP "Places" "found" (aq 0) (ae (dI am)) [R (.rf o.length),-(p),-(.int m)] (o++[.obj "Places" [("most",.fz (.int m))]])=.ok (.nx [R (.rf o.length),-(p),-(.int m)]) (o++[.obj "Places" [("most",.fz (.int m)),("found",.rf (o.length+1))],.lst []]):=by show(ou (fZ (by ext:0)) (aO W) (by rw[XZ];show wx (t:=0)) (W5 W)).trans ?_;rw[XZ,show o.length=o.length+0 from rfl,Mw,Xf];rfl
 let g:eP "Places" "numbers" (aq 0) rB [R (.rf o.length),-(p),-(.int m)] (o++[.obj "Places" [("most",.fz (.int m)),("found",.rf (o.length+1))],.lst []])=.ok (.nx [R (.rf o.length),-(p),-(.int m)]) (jv o m [] []):=by show(ou W (aO W) (by rw[XZ];show wx (t:=0)) (W5 W)).trans ?_;rw[XZ,show o.length=o.length+0 from rfl,Mw,Xf];rfl
 let P:PSt o.length (o.length+1) (o.length+2) m [] (jv o m [] []):=yz ();let n:=tP (b:=.none) (e:=.none) P (wC j f) f l;let a:=Bo (F:=bQ) (fo:=aq 0) (fa:=ai (ae (ad 1)) (ai (ae (pC .none)) (ai (ae (pC .none)) aI))) (ρ:=[R (.rf o.length),-(p),-(.int m)]) (aO W) P.o sY (aj (ag (af W)) (aj (ag aw) (aj (ag aw) aG))) W;rw[n]at a;let a:oB "Places" "enter" bQ 4 (aq 0) (ai (ae (ad 1)) (ai (ae (pC .none)) (ai (ae (pC .none)) aI))) [R (.rf o.length),-(p),-(.int m)] (jv o m [] [])=if m<=0 then .er (TM m) (jv o m [] [])else .ok (.fz (nd 0)) (sE (o.length+1) (o.length+2) [#[p,.none,.none]] (jv o m [] [])):=a
 rw[Ak]at a;show cI 3 bH _ _=_;ext cI;show((bH [R (.rf o.length),-(p),-(.int m)] (o++[.obj "Places" []])).bind _)=_;ext bH;rw[cF i W,cF h W,cF g W];ext bv;rw[a];split<;>rfl
theorem vj:∀{l:G α},(∀a∈l,LD.kd (f a)=S)->LD.kds (l.map f)=S
 |[],_=>by rw[aai,LD.kds]
 |a::r,h=>by rw[Xq,LD.kds,h a W8,vj λx b=>h x (Xb _ b)];rfl
theorem Mr:∀b:G Nat,LD.kds (aY b)=S:=λb=>vj λa _=>by show LD.kd (.int a)=S;rw[LD.kd]
def ND(h:LB m):LD.kd (mD m)=S:=by
 cases m with
 |XB c=>show LD.kd (.tuple [.str "letter",.str (dJ c)])=S;simp only[LD.kd,LD.kds];rw[r8 h,show Xa.strOk "letter"=S by left];rfl
 |Ze n=>show LD.kd (.tuple [.str "layer",.int n])=S;simp only[LD.kd,LD.kds];rw[show Xa.strOk "layer"=S by left];rfl
 |tap c n=>show LD.kd (.tuple [.str "tap",.str (dJ c),.int n])=S;simp only[LD.kd,LD.kds];rw[r8 h,show Xa.strOk "tap"=S by left];rfl
 |once n=>show LD.kd (.tuple [.str "once",.int n])=S;simp only[LD.kd,LD.kds];rw[show Xa.strOk "once"=S by left];rfl
 |none=>show LD.kd (.tuple [.str "none"])=S;simp only[LD.kd,LD.kds];rw[show Xa.strOk "none"=S by left];rfl
 |below=>show LD.kd (.tuple [.str "below"])=S;simp only[LD.kd,LD.kds];rw[show Xa.strOk "below"=S by left];rfl
def Nv(h:SW b s):LD.kd (fJ s)=S/\Xa.depth (fJ s)<=4:=by
 let j:LD.kds ((gu s.ac).map pD)=S:=vj λq l=>by show LD.kd (.tuple [nd q.1,mD q.2])=S;simp only[LD.kd,LD.kds];rw[ND (h.sa.ac _ _ (eD.mp l).2).2.lb];rfl
 let o:∀m:Mn,Xa.depth (mD m)<=1:=λm=>by ext m<;>show W5 W
 let p:Xa.depthAll ((gu s.ac).map pD)<=2:=AL λq _=>by show max 0 (max (Xa.depth (mD q.2)) 0)+1<=2;let:=o q.2;ext
 let f:LD.kd (jz s.wt)=S/\Xa.depth (jz s.wt)<=2:=by
  cases q:s.wt with
  |none=>show#[by show LD.kd .none=S;rw[LD.kd],XY _]
  |some x=>
   let(a,g,w):=x;let v:=(h.wt a g w q).1;constructor
   .show LD.kd (.tuple [.tuple (aY a),.int g,sD w])=S
    simp only[LD.kd,LD.kds];rw[Mr];cases w with
    |none=>show(S&&(S&&(LD.kd (.tuple [.str "chord"])&&S)))=S;simp only[LD.kd,LD.kds];rw[show Xa.strOk "chord"=S by left];rfl
    |some i=>let(c,n):=i;let lb:LB (.tap c n):=(v.tp c n W).1;show(S&&(S&&(LD.kd (mD (.tap c n))&&S)))=S;rw[ND lb];rfl
   .show max (Xa.depthAll (aY a)+1) (max 0 (max (Xa.depth (sD w)) 0))+1<=2
    rw[mM];cases w with
    |none=>show W5 W
    |some i=>show W5 W
 let e:LD.kd (sH s.oc)=S/\Xa.depth (sH s.oc)=0:=by cases s.oc<;>show#[by show LD.kd _=S;ext sH;simp only[LD.kd],W]
 constructor
 .show LD.kd (.tuple [.tuple ((gu s.ac).map pD),jz s.wt,sH s.oc])=S;simp only[LD.kd,LD.kds];rw[j,f.1,e.1];rfl
 .show max (Xa.depthAll ((gu s.ac).map pD)+1) (max (Xa.depth (jz s.wt)) (max (Xa.depth (sH s.oc)) 0))+1<=4;rw[e.2];let:=f.2;ext
def kA(n:Nat):G Evn:=(Xn n).map .down++(Xn n).map .up++[.turn]
def D5{b:Bd}{n:Nat}(c:b.n=n):∀e∈kA n,EV b e:=by
 intro e a;rcases X0.mp a with a|a
 .rcases X0.mp a with a|a
  .let(k,f,rfl):=Xs.mp a;let:=Zc.mp f;show(k:Int)<b.n;ext
  .let(k,f,rfl):=Xs.mp a;let:=Zc.mp f;show(k:Int)<b.n;ext
 .rw[Xl.mp a];trivial
theorem JL(h:xs.length+ys.length<=1000000):bP (.list xs) (.list ys)=R (.ow (xs++ys)):=ax h
theorem Tf(b:Bd):bc (bD b) (.int 0)=-(.int b.n):=iG
def Op{b:Bd}{n:Nat}(c:b.n=n)(l:n<=5):fY [bD b]=.ok (.ow ((kA n).map eR)):=by
 let i:kJ [.int b.n]=R (aY (Xn n)):=by rw[c];show pO ()
 let j:=Tf b;let a:(Xn n).length<=1000:=by rw[XU];ext
 let f:jE (cU (gN 0) cQ (aV {pC (.str "down"),ad 0}) (aY (Xn n)) [P] [])=.ok ((Xn n).map λk=>eR (.down k)):=i8 nd (λk=>eR (.down k)) (Xn n) a W λk _=>bq (ah aw (ah (af W) av)) W (W5 W);let e:jE (cU (gN 0) cQ (aV {pC (.str "up"),ad 0}) (aY (Xn n)) [P] [])=.ok ((Xn n).map λk=>eR (.up k)):=i8 nd (λk=>eR (.up k)) (Xn n) a W λk _=>bq (ah aw (ah (af W) av)) W (W5 W);let h:bP (.list ((Xn n).map λk=>eR (.down k))) (.list ((Xn n).map λk=>eR (.up k)))=R (.ow (((Xn n).map λk=>eR (.down k))++(Xn n).map λk=>eR (.up k))):=JL (by rw[W0,W0];ext);let g:bP (.list (((Xn n).map λk=>eR (.down k))++(Xn n).map λk=>eR (.up k))) (.list [eR .turn])=R (.ow ((kA n).map eR)):=(JL (by rw[Xf,W0,W0];show _+1<=_;ext)).trans (by ext kA;rw[XM,XM,XI,XI];rfl);show jb W ?_;ext gh;show cx (cW (by ext:0) W f) W W ?_;show cx (cW (by ext:0) W e) W W ?_;show dS (aD (aD (lf W) (lf W) W W h) (lh (ah (bq (ah aw (ah aw av)) W (W5 W)) av) W (W5 W)) W W g) W W
abbrev zf(d:D):I PV:=-(d)
abbrev zo(l:G D):I PV:=R (.ow l)
def dr(w:G Nat):Str:=#[(w.map (97+·)).toArray]
def pQ(w:G Nat):(dr w).length=w.length:=by show((w.map (97+·)).toArray).size=_;rw[Xo,W0]
def Mf{v w:G Nat}(h:dr v=dr w):v=w:=by let a:v.map (97+·)=w.map (97+·):=dw (λz:Str=>z.cps.toList) h;show(abD λx y e=>by ext).mp a
def Gh{w:G Nat}(h:∀c∈w,c<26):Xa.strOk (dr w)=S:=by show((w.map (97+·)).toArray.all λc=>decide (c<0x110000))=S;rw[<-ae1];show Yh.mpr λc b=>?_;let(d,a,rfl):=Xs.mp b;let:=h d a;show a5 ()
def B3(v w:G Nat):dr v++dr w=dr (v++w):=by show(#[(v.map (97+·)).toArray++(w.map (97+·)).toArray]:Str)=#[((v++w).map (97+·)).toArray];rw[XM];simp
def Qx{w:G Nat}(h:w.length<=1000):E9 [.str (dr w)]=-(nd w.length):=by show(if(dr w).length<=1000000 then R (RV.fz (.int (dr w).length))else P)=_;rw[pQ,ax ()]
def M9(a b n:Nat):XN.Str.strSliceIndices (R (a:Int)) (R (b:Int)) 1 n=XN.Str.strSliceIndices (R (Nat.cast (min a n):Int)) (R (Nat.cast (min b n):Int)) 1 n:=by
 ext XN.Str.strSliceIndices
 grind
def BH{w:G Nat}(h:w.length<=1000){a b:Nat}(j:a<=b):jT (.str (dr w)) (R (a:Int)) (R (b:Int))=-(.str (dr ((w.drop a).take (b - a)))):=by
 let f:=pQ w;let g:Txt.slice (dr w) (R (a:Int)) (R (b:Int))=dr ((w.drop a).take (b - a)):=by
  let e:=ah2 (dr w) (a:=min a w.length) (b:=min b w.length) () (by rw[f];ext);rw[f,<-M9]at e;let e2:((dr w).cps.toList.drop (min a w.length)).take (min b w.length - min a w.length)=((w.drop a).take (b - a)).map (97+·):=by
   show((w.map (97+·)).drop (min a w.length)).take (min b w.length - min a w.length)=_;rw[List.map_take,List.map_drop];by_cases q:a<=w.length
   .rw[agd q,List.take_eq_take_iff,ZD,W0];ext
   .rw[YA (by rw[W0];ext),YA (by rw[W0];ext),agD,agD]
  rw[e2]at e;ext Txt.slice;rw[f];split
  .rename_i z
   rw[WX]at z;let z:=eq_of_beq z.2;let m:=PySem.sliceIndices_le (R (a:Int)) (R (b:Int)) w.length;let l:(age (λi=>(dr w).cps[i]?) (XN.Str.strSliceIndices (R (a:Int)) (R (b:Int)) 1 w.length)).length=((w.drop a).take (b - a)).length:=by rw[e,W0]
   rw[M9,ah3 () (),W0,XU]at z;rw[aaS (by rw[ZD];ext)];by_cases q:a=0
   .rw[q];rfl
   .rw[List.length_eq_zero_iff.mp (show w.length=0 by ext),List.drop_nil]
  .show(#[(age (λi=>(dr w).cps[i]?) _).toArray]:Str)=_;rw[e];rfl
 show(if(dr w).length<=1000000 then R (RV.fz (.str (Txt.slice (dr w) (R (a:Int)) (R (b:Int)))))else P)=_;rw[f,ax (),g]
theorem Gq:∀w:G Nat,ab0 (#[#v[]]:Str) (w.map dJ)=dr w
 |[]=>rfl
 |[c]=>rfl
 |c::d::r=>by show dJ c++(#[#v[]]:Str)++ab0 (#[#v[]]:Str) ((d::r).map dJ)=_;rw[Gq (d::r),show dJ c++(#[#v[]]:Str)=dJ c by show(#[#v[97+c]++ #v[]]:Str)=_;simp;rfl];show B3 [c] (d::r)
def z9{w:G Nat}(h:w.length<=1000):sQ "" [.list (w.map λc=>.str (dJ c))]=-(.str (dr w)):=by
 let a:("":Str)=#[#v[]]:=by left
 show(match uP (w.map λc=>.str (dJ c))with
   |some b=>if aeY "" b=S then R (RV.fz (.str (Txt.join "" b)))else P
   |none=>P)=_
 rw[show(w.map λc=>Xa.str (dJ c))=(w.map dJ).map .str by rw[XI];rfl,Ip];dsimp only;let ok:aeY "" (w.map dJ)=S:=by ext aeY;let:=ah4 (sep:= "") (texts:=w.map dJ) (B:=1) (λz e=>by let(n,_,rfl):=Xs.mp e;show Xd _) (by rw[W0,a];show _+_*0<=_;ext);rw[this];rfl
 rw[ax ok,show Txt.join "" (w.map dJ)=ab0 "" (w.map dJ)from ah5 _ _,a,Gq]
def MN(v w:G Nat):Xa.eqv (.str (dr v)) (.str (dr w))=decide (v=w):=by
 rw[Xa.eqv];by_cases h:v=w
 .rw[a5 h,h];simp
 .rw[a6 h];show beq_eq_false_iff_ne.mpr λz=>h (Mf z)
def Ia{v w:G Nat}(b:∀c∈v,c<26)(a:∀c∈w,c<26):pS (.str (dr v)) (.str (dr w))=-(.bool (!decide (v=w))):=by ext pS;rw[show kr (.str (dr v))=S from MV (Gh b) (by show 0<=64;decide),show Xa.canLay0 (.str (dr w))=S from Gh a,YX,ax W,MN]
def MX{f:Str->G D->I RV}{h:FE}{i:FA}{d c a:aQ}{pv:PV}{z:Str}{g:G PV}{ds:G D}{rv:RV}(b:h d=.ok (pv,c))(j:BJ pv=R z)(k:i c=.ok (g,a))(hd:sN a g=R ds)(e:f z ds=R rv):RP f h i d=.ok (rv.pv,a):=by ext RP;rw[b,d0];dsimp only;rw[j,aJ,d0,k,d0,hd,aJ,d0,e,aJ,d0]
def jX(sn:Sn):G Nat:=(sn.filter (·.2)).map (·.1)
theorem ON{sn:Sn}(h:aag sn):∀c∈jX sn,c<26:=λc b=>by let(q,a,rfl):=Xs.mp b;show h q (YO.mp a).1
def Jq(sn:Sn):(jX sn).length<=sn.length:=by ext jX;rw[W0];show Z2 _ _
def EB{sn:Sn}(g:sn.length<=1000):jE (cU (gT 2 (Dv (gN 0) (Dv (gN 1) MU))) (az (aB cJ (ad 1) (pC (.str "down")))) (ad 0) (sn.map nk) [P,P] [])=.ok ((jX sn).map λc=>.str (dJ c)):=by
 let e:∀d:Bool,cJ (.str (if d=S then "down" else "up")) (.str "down")=-(.bool d):=λd=>by
  ext d
  .show(OO (by left) (by left)).trans (by rw[show((if U=S then "down" else "up":Str)== "down")=U by left])
  .show(OO (by left) (by left)).trans (by rw[show((if S=S then "down" else "up":Str)== "down")=S by left])
 rw[vT nk (λq=>if q.2=S then R (Xa.str (dJ q.1))else P) (λi=>∃a d,i=[a,d]) sn #[P,P,W] g ?_]
 .congr 1
  ext jX;rw[XI];clear g
  induction sn with
  |nil=>rfl
  |cons x r f=>
   cases q:x.2 with
   |true=>rw[aaH (b:=Xa.str (dJ x.1)) (by rw[ax q]),adf q,f];rfl
   |false=>rw[aaG (by rw[a4 (by rw[q];simp)]),adg (by rw[q];simp),f]
 .rintro⟨c,d⟩ h i ⟨x,y,rfl⟩
  cases d with
  |true=>show#[[zf (.str (dJ c)),zf (.str (if S=S then "down" else "up"))],wk (x:=.str (dJ c)) W (bh (aD (rv:=.fz (.bool S)) (af W) aw W W (e S)) W) (af W) W W,_,_,W]
  |false=>show#[[zf (.str (dJ c)),zf (.str (if U=S then "down" else "up"))],QY W (bh (aD (rv:=.fz (.bool U)) (af W) aw W W (e U)) W) W,_,_,W]
def v9(w:G Nat)(d:Nat)(sn:Sn):I Nat:=if(w.drop d).take (jX sn).length=jX sn then R (d+(jX sn).length)else P
def Qg:I Nat->D
 |some k=>nd k
 |none=>.none
def JV{w:G Nat}(i:∀c∈w,c<26)(m:w.length<=3){d:Nat}(hd:d<=3){sn:Sn}(j:aag sn)(n:sn.length<=900):fM [.str (dr w),nd d,.list (sn.map nk)]=.ok (.fz (Qg (v9 w d sn))):=by
 let o:=Jq sn;let cm:=EB (sn:=sn) ();let h:=z9 (w:=jX sn) ();let g:=Qx (w:=jX sn) ();let e:=ON j;let f:=BH (w:=w) () (a:=d) (b:=d+(jX sn).length) ();rw[Zh]at f;let ne:=Ia (v:=(w.drop d).take (jX sn).length) (w:=jX sn) (λc l=>i c (aeh (abg l))) e;show jb (ρ:=[zf (.str (dr w)),zf (nd d),zf (.list (sn.map nk)),P,P]) W ?_;ext et;show cx (ρ3:=[zf (.str (dr w)),zf (nd d),zf (.list (sn.map nk)),zf (.str (dr (jX sn))),P]) (MX (rv:=.fz (.str (dr (jX sn)))) aw W (ah (cW (cs:=[]) (ds:=sn.map nk) (gH (d:=.list (sn.map nk)) (af W) W W) W cm) av) W h) W W ?_;show cx (ρ3:=[zf (.str (dr w)),zf (nd d),zf (.list (sn.map nk)),zf (.str (dr (jX sn))),zf (nd (d+(jX sn).length))]) (aD (rv:=.fz (nd (d+(jX sn).length))) (af W) (gq (rv:=.fz (nd (jX sn).length)) (ah (af W) av) W g) W W (eV _ _)) W W ?_;show oP (bh (aD (xp (rv:=.fz (.str (dr ((w.drop d).take (jX sn).length)))) (af W) (gW (af W) W) (gW (af W) W) W f) (af W) W W ne) W) (λq=>?_) (λq=>fR ?_)
 .let q:¬(w.drop d).take (jX sn).length=jX sn:=by simpa using q
  show ji (rv:=.fz .none) aw W ?_;ext v9;rw[a4 q];rfl
 .let q:(w.drop d).take (jX sn).length=jX sn:=by simpa using q
  show dS (rv:=.fz (nd (d+(jX sn).length))) (af W) W ?_;ext v9;rw[ax q];rfl
def AO:Mn->Mn
 |.tap _ n=>.Ze n
 |.once _=>.none
 |m=>m
def P3:Mn->I (Nat×Int)
 |.tap c n=>R (c,n)
 |_=>P
def Ca(b:Bd)(x:Nat)(k:Nat)(a:Mn):Prop:=a=iO b 0 k\/a=.XB x\/a=.none
def Na(b:Bd)(k:Nat)(a:Mn):Prop:=a=AO (iO b 0 k)\/a=AO (iO b 1 k)
structure IN(b:Bd)(s:Y0):Prop where
 ac:∀k a,s.ac k=R a->Na b k a
 wt:∀ks g w,s.wt=R (ks,g,w)->∃k c n,ks=[k]/\w=R (c,n)/\(iO b 0 k=.tap c n\/iO b 1 k=.tap c n)
structure IC(b:Bd)(x:Nat)(s:Y0):Prop where
 ac:∀k a,s.ac k=R a->Ca b x k a
 wt:∀ks g w,s.wt=R (ks,g,w)->w=P/\∃k,ks=[k]
 oc:s.oc=P
section
variable{b:Bd}{p:Y0×Sn}{s:Y0}{k x:Nat}
theorem xW{Q:Nat->Mn->Prop}(h:∀k a,ac k=R a->Q k a)(f:∀a,o=R a->Q k a):∀j a,jJ ac k o j=R a->Q j a:=λj a e=>by
 by_cases z:j=k
 .subst z;rw[de]at e;show f a e
 .rw[eK z]at e;show h j a e
theorem tK{Q:Nat->Mn->Prop}(h:∀j a,j≠k->p.1.ac j=R a->Q j a):∀j a,(go p k).1.ac j=R a->Q j a:=λj a e=>by
 unfold go at e;cases z:p.1.ac k with
 |none=>rw[z]at e;show h j a (λq=>by subst q;rw[z]at e;ext e) e
 |some y=>
  rw[z]at e;by_cases q:j=k
  .subst q;show bb ((de).symm.trans e) (by simp)
  .show h j a q ((eK q).symm.trans e)
def kY:(go p k).1.wt=p.1.wt/\(go p k).1.oc=p.1.oc:=by ext go;split<;>show#[W,W]
def yg(s:Y0)(m:Mn):(dh s m).ac=s.ac/\(dh s m).wt=s.wt:=by ext dh;split<;>show#[W,W]
def K9(a:VB b)(f:SA b s)(g:b.ls.length<=2):look b (i6 s.ac s.oc) k=iO b 0 k\/look b (i6 s.ac s.oc) k=iO b 1 k:=by
 let(i,h):=vX a f;let:(i6 s.ac s.oc).toNat=0\/(i6 s.ac s.oc).toNat=1:=by ext
 ext look;split
 .show .inl W
 .rcases this with e|e<;>rw[e]
  .show .inl W
  .show .inr W
def IN.dec(h:IN b p.1):IN b (bu b p).1/\(bu b p).1.wt=P:=by
 ext bu;split
 .rename_i q;show#[h,q]
 .rename_i f g w q
  let(k,c,n,rfl,rfl,i):=h.wt f g w q;show#[#[?_,λ_ _ _ e=>(by ext e)],W];show xW h.ac λa e=>?_;ext e;rcases i with e|e
  .show .inl (by rw[e];rfl)
  .show .inr (by rw[e];rfl)
def IN.step(l:VB b)(C:b.ls.length<=2)(i:b.cs=[])(r:SW b s)(h:IN b s)(I:EV b e):IN b (bJ b s e).1:=by
 let t:∀f,cP b f=[]:=λf=>by ext cP;rw[i];rfl
 cases e with
 |turn=>
  show IN b (fD b (s,[])).1;ext fD;split
  .show h
  .rename_i f g w q
   let v:IN b {s with wt:=R (f,g+1,w)}:=#[h.ac,λ_ _ _ e=>by ext e;show h.wt f g w q];split
   .show(IN.dec v).1
   .show v
 |up k=>
  show IN b (kO b (s,[]) k).1;ext kO;split
  .rename_i q
   cases z:s.wt with
   |none=>rw[show zn s.wt k=U by rw[z];rfl]at q;ext q
   |some y=>
    let(f,g,w):=y;let(G,c,n,rfl,rfl,H):=h.wt f g w z;let e:STP.bM b (s,[]) k=eB ({s with wt:=P},[]) k (.XB c):=by ext STP.bM;dsimp only;rw[z]
    rw[e];show#[tK λj a B o=>h.ac j a ((eK B).symm.trans o),λf g w e=>?_];rw[kY.1]at e;ext e
  .show#[tK λj a _ o=>h.ac j a o,λf g w e=>?_];rw[kY.1]at e;show h.wt f g w e
 |down k=>
  show IN b (gb b (s,[]) k).1;ext gb;split
  .show h
  .rw[a4 (by
    ext AC;split
    .rw[t];simp
    .simp)]
   let d:=IN.dec (p:=(s,[])) h;let A:=cZ l (p:=(s,[])) r.sa (SW.wd l r);generalize bu b (s,[])=p at d A;let(h,E):=d;let lo:=K9 (k:=k) l A.1.sa C;ext zt;let u:=yg p.1 (look b (i6 p.1.ac p.1.oc) k);generalize dh p.1 (look b (i6 p.1.ac p.1.oc) k)=N at u;generalize look b (i6 p.1.ac p.1.oc) k=m at lo;generalize i6 p.1.ac p.1.oc=L;let i:∀a,a=AO m->IN b (eB (N,p.2) k a).1:=λa F=>by
    show#[xW (λj y e=>h.ac j y (by rw[<-u.1];show e)) λy e=>?_,λf g w e=>?_]
    .ext e
     rw[F];rcases lo with e|e
     .show .inl (by rw[e])
     .show .inr (by rw[e])
    .let e:N.wt=_:=e;rw[u.2,E]at e;ext e
   cases m with
   |tap c n=>show#[λj y e=>h.ac j y (by rw[<-u.1];show e),λf g w e=>?_];ext e;show#[k,c,n,W,W,by rcases lo with e|e<;>simp[<-e]]
   |XB c=>show IN b (if(decide (L=0)&& !(cP b [k]).isEmpty)=S then _ else eB (N,p.2) k (.XB c)).1;rw[t,a4 (by simp)];show i _ W
   |once n=>let:=i .none W;show#[this.ac,this.wt]
   |Ze n=>show i _ W
   |none=>show i _ W
   |below=>show i _ W
theorem vk:∀{l:G α},q∈l.zip (l.map f)->q.2=f q.1
 |[],h=>by ext h
 |a::r,h=>by
  rcases Xt.mp h with rfl|h
  .rfl
  .show vk h
def Gb{Q:Nat->Mn->Prop}(f:G (Nat×Mn)):∀{p:Y0×Sn},(∀k a,p.1.ac k=R a->Q k a)->(∀q∈f,Q q.1 q.2)->(∀k a,(gC p f).1.ac k=R a->Q k a)/\(gC p f).1.wt=p.1.wt/\(gC p f).1.oc=p.1.oc:=by
 induction f with
 |nil=>show λh _=>#[h,W,W]
 |cons q r i=>intro p h g;show i (xW h λa e=>by ext e;show g q W8) λy j=>g y (Xb _ j)
def Uq(f:b.cs=[([0,1],x)])(d:G Nat):∀q∈d.zip (F7 b d),Ca b x q.1 q.2:=by
 intro q a;unfold F7 at a;split at a
 .rename_i c e
  let cm:=ZH e;rw[f]at cm;let cm:=Xl.mp cm;rcases Xt.mp (Zn a).2 with h|h
  .show .inr (.inl (by rw[h,cm]))
  .show .inr (.inr (abC.mp h).2)
 .show .inl (vk a)
structure IC0(b:Bd)(x:Nat)(s:Y0):Prop where
 ac:∀k a,s.ac k=R a->Ca b x k a
 wt:∀ks g w,s.wt=R (ks,g,w)->w=P
 oc:s.oc=P
theorem IC.z(h:IC b x s):IC0 b x s:=#[h.ac,λa g w e=>(h.wt a g w e).1,h.oc]
def IC0.dec(j:b.cs=[([0,1],x)])(h:IC0 b x p.1):IC b x (bu b p).1/\(bu b p).1.wt=P:=by
 ext bu;split
 .rename_i q;show#[#[h.ac,λ_ _ _ e=>(by rw[q]at e;ext e),h.oc],q]
 .rename_i a g w q;let i:=h.wt a g w q;subst i;let(m,f,l):=Gb (p:=({p.1 with wt:=P},p.2)) (a.zip (F7 b a)) h.ac (Uq j a);show#[#[m,λ_ _ _ e=>(by rw[show(gC ({p.1 with wt:=P},p.2) (a.zip (gy b a P))).1.wt=P from f]at e;ext e),l.trans h.oc],f]
def T0(f:VB b)(i:SA b s)(l:b.cs=[([0,1],x)])(o:b.n<=2)(h:IC b x s):i6 s.ac s.oc=0:=by
 rw[h.oc];show(((gu s.ac).filterMap Db).foldl jC P).getD 0=0;let:(gu s.ac).filterMap Db=[]:=acP.mpr λq j=>by
  let g:=(eD.mp j).2;let r:=(i.ac q.1 q.2 g).1;let ok:=(f.vc ([0,1],x) (by rw[l];show W8)).2.2.1 q.1 (by
   let:q.1=0\/q.1=1:=by ext
   rcases this with e|e<;>simp[e])
  let(c,m):=nr f ok;let(k,a):=q;rcases h.ac k a g with rfl|rfl|rfl
  .show Db (k,iO b 0 k)=P;rw[m];rfl
  .rfl
  .rfl
 rw[this];rfl
def IC.step(m:VB b)(H:b.n<=2)(l:b.cs=[([0,1],x)])(C:SW b s)(h:IC b x s)(J:EV b e):IC b x (bJ b s e).1:=by
 cases e with
 |turn=>
  show IC b x (fD b (s,[])).1;ext fD;split
  .show h
  .rename_i i g w q
   let E:IC b x {s with wt:=R (i,g+1,w)}:=#[h.ac,λ_ _ _ e=>by ext e;show h.wt i g w q,h.oc];split
   .show(IC0.dec l E.z).1
   .show E
 |up k=>
  show IC b x (kO b (s,[]) k).1;ext kO;split
  .rename_i q
   cases z:s.wt with
   |none=>rw[show zn s.wt k=U by rw[z];rfl]at q;ext q
   |some y=>
    let(i,g,w):=y;let(rfl,A,rfl):=h.wt i g w z;let e:STP.bM b (s,[]) k=bu b (s,[]):=by ext STP.bM;dsimp only;rw[z]
    rw[e];let(d,t):=IC0.dec l (p:=(s,[])) h.z;show#[tK λj a _ B=>d.ac j a B,λi g w e=>(by rw[kY.1,t]at e;ext e),kY.2.trans d.oc]
  .show#[tK λj a _ B=>h.ac j a B,λi g w e=>(by rw[kY.1]at e;show h.wt i g w e),kY.2.trans h.oc]
 |down k=>
  show IC b x (gb b (s,[]) k).1;ext gb;split
  .show h
  .split
   .rename_i o
    unfold AC at o;split at o
    .rename_i i g z
     rw[WX]at o;let(_,A,rfl):=h.wt i g P z;let G:cP b ([A]++[k])=[([0,1],x)]:=by
      let r:=o.2;unfold cP at r⊢;rw[l]at r⊢;rw[ZE]at r⊢;split
      .rfl
      .rename_i f;rw[a4 f]at r;simp at r
     ext pI;rw[z];dsimp only;rw[G,ax (show agf (λx=>x.1.length) [(([0,1]:bg Nat),x)]=[([A]++[k]).length]from rfl)];show(IC0.dec l #[h.ac,λ_ _ _ e=>(by ext e;rfl),h.oc]).1
    .ext o
   .let(d,t):=IC0.dec l (p:=(s,[])) h.z
    let ds:=cZ m (p:=(s,[])) C.sa (SW.wd m C);generalize bu b (s,[])=p at d t ds;let K:(k:Int)<b.n:=J;let ok:=(m.vc ([0,1],x) (by rw[l];show W8)).2.2.1 k (by
     let:k=0\/k=1:=by ext
     rcases this with e|e<;>simp[e])
    let(c,F):=nr m ok;ext zt;let I:look b 0 k=.XB c:=by ext look;rw[show(0:Int).toNat=0 from rfl,F];rfl
    rw[T0 m ds.1.sa l H d,I];let u:=yg p.1 (.XB c);let v:(dh p.1 (.XB c)).oc=P:=W;generalize dh p.1 (.XB c)=n at u v;show IC b x (if(decide ((0:Int)=0)&& !(cP b [k]).isEmpty)=S then({n with wt:=R ([k],0,P)},p.2)else eB (n,p.2) k (.XB c)).1;split
    .show#[λj y e=>d.ac j y (by rw[<-u.1];show e),λi g w e=>(by ext e;show#[W,k,W]),v]
    .show#[xW (λj y e=>d.ac j y (by rw[<-u.1];show e)) λy e=>(by ext e;show .inl F.symm),λi g w e=>(by let e:n.wt=_:=e;rw[u.2,t]at e;ext e),v]
def Sk(e a:I Mn):Ac:=λk=>if k=0 then e else if k=1 then a else P
theorem TD(f:SA b s)(g:b.n<=2):s.ac=Sk (s.ac 0) (s.ac 1):=funext λk=>by
 ext Sk;split
 .rename_i e;rw[e]
 .split
  .rename_i e;rw[e]
  .cases q:s.ac k with
   |none=>rfl
   |some a=>let:=(f.ac k a q).1;ext
def A3(b:Bd)(k:Nat):G (I Mn):=[P,R (AO (iO b 0 k)),R (AO (iO b 1 k))]
def A4(b:Bd)(x k:Nat):G (I Mn):=[P,R (iO b 0 k),R (.XB x),R .none]
def W4(b:Bd)(k:Nat):G (Int×I (Nat×Int)):=[(0,P3 (iO b 0 k)),(0,P3 (iO b 1 k)),(1,P3 (iO b 0 k)),(1,P3 (iO b 1 k))]
def Vl(F:Nat->G (I Mn))(W:Nat->G (Int×I (Nat×Int)))(o:I Int):G Y0:=
 ((F 0).flatMap λe=>(F 1).map λa=>#[Sk e a,P,o])++((W 0).flatMap λw=>(F 1).map λa=>#[Sk P a,R ([0],w.1,w.2),o])++(W 1).flatMap λw=>(F 0).map λe=>#[Sk e P,R ([1],w.1,w.2),o]
def Bu(f:SW b s)(i:b.n<=2)(e:∀k,s.ac k∈F k)(j:∀c g w,s.wt=R (c,g,w)->∃k,c=[k]/\(g,w)∈m k):s∈Vl F m s.oc:=by
 let a:=TD f.sa i;cases q:s.wt with
 |none=>show Yd _ (Yd _ (YH.mpr #[s.ac 0,e 0,Xs.mpr #[s.ac 1,e 1,?_]]));rw[<-a,<-q]
 |some y=>
  let(c,g,w):=y;let(k,rfl,hm):=j c g w q;let v:=(f.wt _ _ _ q).1;let l:=v.kn k W8;let h:=v.kf k W8;let:k=0\/k=1:=by ext
  rcases this with rfl|rfl
  .rw[h]at a;show Yd _ (XG _ (YH.mpr #[(g,w),hm,Xs.mpr #[s.ac 1,e 1,?_]]));rw[<-a,<-q]
  .rw[h]at a;show XG _ (YH.mpr #[(g,w),hm,Xs.mpr #[s.ac 0,e 0,?_]]);rw[<-a,<-q]
def few(i:VB b)(A:b.n<=2)(J:b.ls.length<=2)(P:b.wt<=2):∃(l:bg Y0) (I:Y0->Prop),l.length<=66/\I vI/\(∀s,I s->SW b s/\s∈l)/\∀s e,I s->EV b e->I (bJ b s e).1:=by
 by_cases F:b.cs=[]
 .show#[([Ld,R 1]:bg (bt Int)).flatMap (Vl (A3 b) (W4 b)),λs=>SW b s/\IN b s,Xd 66,#[l4 b,λk a e=>(by ext e),λm g w e=>(by ext e)],λs h=>#[h.1,?_],λs e h u=>#[pP i h.1 u,h.2.step i J F h.1 u]]
  show YH.mpr #[s.oc,?_,Bu h.1 A (λk=>?_) λm g w e=>?_]
  .cases q:s.oc with
   |none=>show W8
   |some o=>
    let:=h.1.sa.oc o q;let e:o=1:=by ext
    rw[e];show Xb _ W8
  .cases q:s.ac k with
   |none=>show W8
   |some a=>
    rcases h.2.ac k a q with rfl|rfl
    .show Xb _ W8
    .show Xb _ (Xb _ W8)
  .let(k,c,n,rfl,rfl,B):=h.2.wt m g w e
   let v:=h.1.wt _ _ _ e;let g0:=v.1.g0;let L:=v.2;let t:R (c,n)=P3 (iO b 0 k)\/R (c,n)=P3 (iO b 1 k):=by rcases B with e|e<;>simp[e,P3]
   let:g=0\/g=1:=by ext
   show#[k,W,?_];ext W4;rcases this with rfl|rfl<;>rcases t with e|e<;>rw[e]<;>simp
 .obtain⟨x,K⟩:∃x,b.cs=[([0,1],x)]:=by
   let one:∀c∈b.cs,c.1=[0,1]:=λc hm=>by
    let(O,N,M,_):=i.vc c hm;let j:∀k∈c.1,k<2:=λk B=>by
     let E:=i.l1;obtain⟨l,r,H⟩:∃l r,b.ls=l::r:=by
      cases q:b.ls with
      |nil=>rw[q]at E;ext E
      |cons l r=>show#[l,r,W]
     let Q:=i.vl 0 l (by rw[H];rfl);let:=M k B;unfold pE at this;rw[H,afO]at this;cases q:l[k]? with
     |none=>rw[q]at this;ext this
     |some y=>let:=(W2.mp q).1;ext
    match hq:c.1,O,N,j with
    |[a,d],_,h,j=>
     let:=j a W8;let:=j d (Xb _ W8);let h:=(Yx.mp h).1 d W8;obtain rfl:a=0:=by ext
     obtain rfl:d=1:=by ext
     rfl
    |a::d::f::r,_,h,j=>let C:=(Yx.mp h).1 d W8;let G:=(Yx.mp (Yx.mp h).2).1 f W8;let:=j f (Xb _ (Xb _ W8));ext
   cases e:b.cs with
   |nil=>show bb e F
   |cons c r=>
    let C:=one c (by rw[e];show W8);cases r with
    |nil=>show#[c.2,by rw[<-C]]
    |cons d r=>let G:=one d (by rw[e];show Xb _ W8);let:=i.cu;rw[e]at this;show bb (C.trans G.symm) ((Yx.mp this).1 d W8)
  show#[Vl (A4 b x) (λ_=>[(0,Ld),(1,Ld)]) Ld,λs=>SW b s/\IC b x s,by show 32<=66;decide,#[l4 b,λk a e=>(by ext e),λm g w e=>(by ext e),W],λs h=>#[h.1,?_],λs e h u=>#[pP i h.1 u,h.2.step i A K h.1 u]];rw[<-h.2.oc];show Bu h.1 A (λk=>?_) λm g w e=>?_
  .cases q:s.ac k with
   |none=>show W8
   |some a=>rcases h.2.ac k a q with rfl|rfl|rfl<;>simp[A4]
  .let(rfl,k,rfl):=h.2.wt m g w e
   let v:=h.1.wt _ _ _ e;let g0:=v.1.g0;let L:=v.2;let:g=0\/g=1:=by ext
   show#[k,W,by rcases this with rfl|rfl<;>simp]
end
structure I3(b:Bd)(K:G Nat)(x:Nat)(s:Y0):Prop where
 ac:∀k a,s.ac k=R a->Ca b x k a
 wt:∀ks g w,s.wt=R (ks,g,w)->w=P/\∃k,ks=[k]/\k∈K
 oc:s.oc=P
section
variable{b:Bd}{p:Y0×Sn}{s:Y0}{k x:Nat}{K:bg Nat}
def Tt(f:b.cs=[(K,x)])(d:G Nat):∀q∈d.zip (F7 b d),Ca b x q.1 q.2:=by
 intro q a;unfold F7 at a;split at a
 .rename_i c e
  let cm:=ZH e;rw[f]at cm;let cm:=Xl.mp cm;rcases Xt.mp (Zn a).2 with h|h
  .show .inr (.inl (by rw[h,cm]))
  .show .inr (.inr (abC.mp h).2)
 .show .inl (vk a)
def I3.dec(j:b.cs=[(K,x)])(d:∀k a,p.1.ac k=R a->Ca b x k a)(f:∀c g w,p.1.wt=R (c,g,w)->w=P)(h:p.1.oc=P):I3 b K x (bu b p).1/\(bu b p).1.wt=P:=by
 ext bu;split
 .rename_i q;show#[#[d,λ_ _ _ e=>(by rw[q]at e;ext e),h],q]
 .rename_i c g w q;let f:=f c g w q;subst f;let(m,i,l):=Gb (p:=({p.1 with wt:=P},p.2)) (c.zip (F7 b c)) d (Tt j c);show#[#[m,λ_ _ _ e=>(by rw[show(gC ({p.1 with wt:=P},p.2) (c.zip (gy b c P))).1.wt=P from i]at e;ext e),l.trans h],i]
theorem I3.dc(f:b.cs=[(K,x)])(h:I3 b K x p.1):I3 b K x (bu b p).1/\(bu b p).1.wt=P:=I3.dec f h.ac (λa g w e=>(h.wt a g w e).1) h.oc
def Tg(f:VB b)(g:SA b s)(j:∀k:Nat,(k:Int)<b.n->pE (b.ls.headD []) k=S)(h:I3 b K x s):i6 s.ac s.oc=0:=by
 rw[h.oc];show(((gu s.ac).filterMap Db).foldl jC P).getD 0=0;let:(gu s.ac).filterMap Db=[]:=acP.mpr λq i=>by
  let e:=(eD.mp i).2;let(c,l):=nr f (j q.1 (g.ac q.1 q.2 e).1);let(k,a):=q;rcases h.ac k a e with rfl|rfl|rfl
  .show Db (k,iO b 0 k)=P;rw[l];rfl
  .rfl
  .rfl
 rw[this];rfl
def Bi(e:b.cs=[(K,x)])(h:(cP b ks).isEmpty=U):cP b ks=[(K,x)]/\∀k∈ks,k∈K:=by
 unfold cP at h⊢;rw[e]at h⊢;rw[ZE]at h⊢;split
 .rename_i f;show#[W,λk a=>a7 (Yh.mp f k a)]
 .rename_i f;rw[a4 f]at h;ext h
def I3.step(l:VB b)(A:∀k:Nat,(k:Int)<b.n->pE (b.ls.headD []) k=S)(f:b.cs=[(K,x)])(I:K.length=2)(t:SW b s)(h:I3 b K x s)(H:EV b e):I3 b K x (bJ b s e).1:=by
 cases e with
 |turn=>
  show I3 b K x (fD b (s,[])).1;ext fD;split
  .show h
  .rename_i n g w q
   let B:I3 b K x {s with wt:=R (n,g+1,w)}:=#[h.ac,λ_ _ _ e=>by ext e;show h.wt n g w q,h.oc];split
   .show(I3.dc f B).1
   .show B
 |up k=>
  show I3 b K x (kO b (s,[]) k).1;ext kO;split
  .rename_i q
   cases z:s.wt with
   |none=>rw[show zn s.wt k=U by rw[z];rfl]at q;ext q
   |some y=>
    let(n,g,w):=y;let(rfl,_):=h.wt n g w z;let e:STP.bM b (s,[]) k=bu b (s,[]):=by ext STP.bM;dsimp only;rw[z]
    rw[e];let(d,m):=I3.dc f (p:=(s,[])) h;show#[tK λj a _ r=>d.ac j a r,λn g w e=>(by rw[kY.1,m]at e;ext e),kY.2.trans d.oc]
  .show#[tK λj a _ r=>h.ac j a r,λn g w e=>(by rw[kY.1]at e;show h.wt n g w e),kY.2.trans h.oc]
 |down k=>
  show I3 b K x (gb b (s,[]) k).1;ext gb;split
  .show h
  .split
   .rename_i i
    unfold AC at i;split at i
    .rename_i n g z;rw[WX]at i;let(_,v,rfl,_):=h.wt n g P z;let E:=(Bi f (ks:=[v]++[k]) (by simpa using i.2)).1;ext pI;rw[z];dsimp only;rw[E,ax (show agf (λx=>x.1.length) [(K,x)]=[([v]++[k]).length] by show[K.length]=[2];rw[I])];show(I3.dec f h.ac (λ_ _ _ e=>(by ext e;rfl)) h.oc).1
    .ext i
   .let(d,m):=I3.dc f (p:=(s,[])) h
    let ds:=cZ l (p:=(s,[])) t.sa (SW.wd l t);generalize bu b (s,[])=p at d m ds;let(c,C):=nr l (A k H);ext zt;let F:look b 0 k=.XB c:=by ext look;rw[show(0:Int).toNat=0 from rfl,C];rfl
    rw[Tg l ds.1.sa A d,F];let u:=yg p.1 (.XB c);let o:(dh p.1 (.XB c)).oc=P:=W;generalize dh p.1 (.XB c)=L at u o;show I3 b K x (if(decide ((0:Int)=0)&& !(cP b [k]).isEmpty)=S then({L with wt:=R ([k],0,P)},p.2)else eB (L,p.2) k (.XB c)).1;split
    .rename_i q;rw[WX]at q;let G:=(Bi f (by simpa using q.2)).2 k W8;show#[λj y e=>d.ac j y (by rw[<-u.1];show e),λn g w e=>(by ext e;show#[W,k,W,G]),o]
    .show#[xW (λj y e=>d.ac j y (by rw[<-u.1];show e)) λy e=>(by ext e;show .inl C.symm),λn g w e=>(by let e:L.wt=_:=e;rw[u.2,m]at e;ext e),o]
def UJ(f e a:I Mn):Ac:=λk=>if k=0 then f else if k=1 then e else if k=2 then a else P
theorem U7(f:SA b s)(g:b.n<=3):s.ac=UJ (s.ac 0) (s.ac 1) (s.ac 2):=funext λk=>by
 ext UJ;split
 .rename_i e;rw[e]
 .split
  .rename_i e;rw[e]
  .split
   .rename_i e;rw[e]
   .cases q:s.ac k with
    |none=>rfl
    |some a=>let:=(f.ac k a q).1;ext
def fr(k j:Nat)(l:G (I Mn)):G (I Mn):=if j=k then[P]else l
def Wg(b:Bd)(x:Nat):G Y0:=(A4 b x 0).flatMap λf=>(A4 b x 1).flatMap λe=>(A4 b x 2).map λa=>#[UJ f e a,P,P]
def Ut(b:Bd)(x k:Nat):G Y0:=([0,1]:G Int).flatMap λg=>(fr k 0 (A4 b x 0)).flatMap λf=>(fr k 1 (A4 b x 1)).flatMap λe=>(fr k 2 (A4 b x 2)).map λa=>#[UJ f e a,R ([k],g,P),P]
def AW(k:Nat)(a:k<3):(Ut b x k).length=32:=by
 let:k=0\/k=1\/k=2:=by ext
 rcases this with rfl|rfl|rfl<;>rfl
def Vj(f:VB b)(G:b.n<=3)(M:b.wt<=2)(L:∀k:Nat,(k:Int)<b.n->pE (b.ls.headD []) k=S)(B:b.cs=[(K,x)])(F:K.length=2):∃(l:bg Y0) (I:Y0->Prop),l.length<=128/\I vI/\(∀s,I s->SW b s/\s∈l)/\∀s e,I s->EV b e->I (bJ b s e).1:=by
 let u:∀k∈K,k<3:=λk h=>by
  let(c,C):=nr f ((f.vc (K,x) (by rw[B];show W8)).2.2.1 k h);apply Classical.byContradiction;intro z;let:iO b 0 k=.none:=by
   ext iO;cases q:b.ls[0]? with
   |none=>rfl
   |some l=>let:=(f.vl 0 l q).1;rw[abO,List.getElem?_eq_none ()];rfl
  rw[this]at C;ext C
 obtain⟨i,j,rfl⟩:∃i j,K=[i,j]:=by
  match K,F with
  |[i,j],_=>show#[i,j,W]
 show#[Wg b x++(Ut b x i++Ut b x j),λs=>SW b s/\I3 b [i,j] x s,?_,#[l4 b,λk a e=>(by ext e),λt g w e=>(by ext e),W],λs h=>#[h.1,?_],λs e h A=>#[pP f h.1 A,h.2.step f L B F h.1 A]]
 .rw[Xf,Xf,AW i (u i W8),AW j (u j (Xb _ W8))];show Xd 128
 .let E:=U7 h.1.sa G
  let m:∀k,s.ac k∈A4 b x k:=λk=>by
   cases q:s.ac k with
   |none=>show W8
   |some a=>
    rcases h.2.ac k a q with rfl|rfl|rfl
    .show Xb _ W8
    .show Xb _ (Xb _ W8)
    .show Xb _ (Xb _ (Xb _ W8))
  let eo:=h.2.oc;cases q:s.wt with
  |none=>show Yd _ (YH.mpr #[s.ac 0,m 0,YH.mpr #[s.ac 1,m 1,Xs.mpr #[s.ac 2,m 2,?_]]]);rw[<-E,<-q,<-eo]
  |some y=>
   let(t,g,w):=y;let(rfl,k,rfl,H):=h.2.wt t g w q;let(v,N):=h.1.wt _ _ _ q;let J:=v.kf k W8;let g0:=v.g0;let r:∀j,s.ac j∈fr k j (A4 b x j):=λj=>by
    ext fr;split
    .rename_i e;rw[e,J];show W8
    .show m j
   let gm:g∈([0,1]:bg Int):=by
    let:g=0\/g=1:=by ext
    rcases this with e|e<;>rw[e]
    .show W8
    .show Xb _ W8
   let o:s∈Ut b x k:=by show YH.mpr #[g,gm,YH.mpr #[s.ac 0,r 0,YH.mpr #[s.ac 1,r 1,Xs.mpr #[s.ac 2,r 2,?_]]]];rw[<-E,<-q,<-eo]
   rcases Xt.mp H with e|e
   .subst e;show XG _ (Yd _ o)
   .rw[Xl.mp e]at o;show XG _ (XG _ o)
end
theorem Jp(h:aY o=aY C):o=C:=(abD λx y e=>by injection e with e;show acm e).mp h
def Er(h:mD m=mD n):m=n:=by
 let e:=(pc m).symm.trans ((dw (λz=>bc z (.int 0)) h).trans (pc n));injection e with e;injection e with e;injection e with e
 let w:=wU _ (oV m) _ (oV n);rw[show ws (wn m)=ws (wn n)from e,dN]at w;ext m<;>ext n<;>first|rfl|(exfalso;revert w;simp[wn];done)|(injection h with h;injection h with _ h;injection h with h g;injection h with h)
 .rw[vF h]
 .rw[h]
 .injection g with g;injection g with g;rw[vF h,g]
 .rw[h]
def Qt(l:VB b)(j:VB c)(C:SW b s)(B:SW c t)(h:fJ s=fJ t):s=t:=by
 injection h with h
 injection h with h1 h
 injection h with h2 h
 injection h with h3 _
 injection h1 with h1
 let f:=(abD λx y e=>by
  injection e with e;injection e with e1 e;injection e with e2 _;injection e1 with e1
  show Prod.ext (acm e1) (Er e2)).mp h1
 let F:=funext λk=>Option.ext λa=>#[λe=>by
   let:=(eD (p:=(k,a))).mpr #[(SA.ak l C.sa k a e).1,e];rw[f]at this;show(eD.mp this).2,λe=>by
   let:=(eD (p:=(k,a))).mpr #[(SA.ak j B.sa k a e).1,e];rw[<-f]at this;show(eD.mp this).2]
 let E:s.wt=t.wt:=by
  revert h2;cases s.wt with
  |none=>cases t.wt with
   |none=>show λ_=>W
   |some y=>show λe=>by ext e
  |some x=>cases t.wt with
   |none=>show λe=>by ext e
   |some y=>
    let(G,g,w):=x;let(H,i,v):=y;intro e;injection e with e;injection e with e1 e;injection e with e2 e;injection e with e3 _;injection e1 with e1;injection e2 with e2;let e1:=Jp e1;let:w=v:=by
     revert e3;cases w with
     |none=>cases v with
      |none=>show λ_=>W
      |some q=>show λe=>by injection e with e;injection e with _ e;ext e
     |some p=>cases v with
      |none=>show λe=>by injection e with e;injection e with _ e;ext e
      |some q=>let(A,u):=p;let(r,o):=q;show λe=>by let:=Er (m:=.tap A u) (n:=.tap r o) e;injection this with a b;rw[a,b]
    rw[e1,e2,this]
 let eo:s.oc=t.oc:=by
  revert h3;cases s.oc<;>cases t.oc<;>intro e
  .rfl
  .ext e
  .ext e
  .injection e with e;rw[e]
 ext s;ext t;ext F;ext E;ext eo;rfl
abbrev TP:=Y0×Nat
def kT(p:TP):D:=.tuple [fJ p.1,nd p.2]
def AQ(b:Bd)(w:G Nat)(p:TP)(e:Evn):I TP:=(v9 w p.2 (bJ b p.1 e).2).map λd=>((bJ b p.1 e).1,d)
def IA:TP:=(vI,0)
def RT(b:Bd)(w:G Nat)(es:G Evn):Nat->TP->Prop
 |0,p=>p=IA
 |k+1,p=>∃q e,RT b w es k q/\e∈es/\AQ b w q e=R p
structure TC(b:Bd)(w:G Nat)(es:G Evn):Prop where
 vb:VB b
 eb:∀e∈es,EV b e
 w26:∀c∈w,c<26
 wl:w.length<=3
def TW(b:Bd)(w:G Nat)(p:TP):Prop:=SW b p.1/\p.2<=w.length
theorem DZ:∀{fs:G Pl} {d:D} {t:Nat},iH fs d=R t->∃q,fs[t]?=R q/\Xa.eqv q.p d=S
 |[],_,_,h=>by ext h
 |a::r,d,t,h=>by
  unfold iH at h;split at h
  .rename_i e;ext h;show#[a,W,e]
  .cases q:iH r d with
   |none=>rw[q]at h;ext h
   |some j=>rw[q]at h;ext h;let(x,f,b):=DZ q;show#[x,by simpa using f,b]
theorem wD:∀{fs:G Pl} {d:D},iH fs d=P->∀q∈fs,Xa.eqv q.p d=U
 |[],_,_,_,b=>by ext b
 |a::r,d,h,q,b=>by
  unfold iH at h;by_cases e:Xa.eqv a.p d=S
  .rw[ax e]at h;ext h
  .rw[a4 e]at h
   rcases Xt.mp b with rfl|b
   .show abS.mpr e
   .show wD (by cases z:iH r d with|none=>rfl|some _=>rw[z]at h;ext h) q b
def OU{w:G Nat}{d k:Nat}{sn:Sn}(hd:d<=w.length)(h:v9 w d sn=R k):k<=w.length:=by
 unfold v9 at h;split at h
 .rename_i q;ext h;let:=dw aaw q;rw[Yb,ZD]at this;ext
 .ext h
section
variable{b:Bd}{w:bg Nat}{es:bg Evn}
def TC.nx(h:TC b w es)(a:TW b w p)(f:e∈es)(c:AQ b w p e=R q):TW b w q:=by
 unfold AQ at c;cases z:v9 w p.2 (bJ b p.1 e).2 with
 |none=>rw[z]at c;ext c
 |some d=>rw[z]at c;ext c;show#[pP h.vb a.1 (h.eb e f),OU a.2 z]
theorem TC.rw(h:TC b w es):∀{k p},RT b w es k p->TW b w p
 |0,p,e=>by rw[show p=IA from e];show#[l4 b,XY _]
 |k+1,p,#[q,e,a,he,f]=>h.nx (h.rw a) he f
theorem RT.inv(h:TC b w es){I:Y0->Prop}(f:I vI)(a:∀s e,I s->EV b e->I (bJ b s e).1):∀{k p},RT b w es k p->I p.1
 |0,p,e=>by rw[show p=IA from e];show f
 |k+1,p,#[q,e,i,he,g]=>by
  unfold AQ at g;cases z:v9 w q.2 (bJ b q.1 e).2 with
  |none=>rw[z]at g;ext g
  |some d=>rw[z]at g;ext g;show a _ _ (RT.inv h f a i) (h.eb e he)
def EA(h:TC b w es)(f:TW b w p)(a:TW b w q)(e:kT p=kT q):p=q:=by
 injection e with e;injection e with e1 e;injection e with e2 _;injection e2 with e2
 show Prod.ext (Qt h.vb h.vb f.1 a.1 e1) (acm e2)
def g8(a:TW b w p):LD.keyD (kT p)=S:=by let(e,f):=Nv a.1;ext kT;rw[LD.keyD];simp only[LD.kds];rw[e,show LD.kd (nd p.2)=S by show LD.kd (.int _)=S;rw[LD.kd],a5 (show Xa.depth (.tuple [fJ p.1,nd p.2])<=8 by show max (Xa.depth (fJ p.1)) (max 0 0)+1<=8;ext)];rfl
end
structure Te where
 p:TP
 b:D
 e:D
 d:Nat
def kI(q:Te):Pl:=#[kT q.p,q.b,q.e]
def SX:Te:=#[IA,.none,.none,0]
def Dt(b:Bd)(w:G Nat)(fs:G Te)(q:Te)(e:Evn):Prop:=∀p,AQ b w q.p e=R p->∃r∈fs,r.p=p/\r.d<=q.d+1
structure BT(b:Bd)(w:G Nat)(es:G Evn)(fs:G Te)(n:Nat):Prop where
 z:fs[0]?=R SX
 bk:∀i q,fs[i]?=R q->0<i->∃j r,j<i/\fs[j]?=R r/\q.b=nd j/\q.d=r.d+1/\∃e,q.e=eR e/\e∈es/\AQ b w r.p e=R q.p
 rw:∀q∈fs,RT b w es q.d q.p
 mo:fs.Pairwise λq r=>q.d<=r.d
 up:∀q,fs[n]?=R q->∀r∈fs,r.d<=q.d+1
 un:(fs.map (·.p)).Nodup
 dn:∀j q,j<n->fs[j]?=R q->∀e∈es,Dt b w fs q e
section
variable{b:Bd}{w:bg Nat}{es:bg Evn}{fs:bg Te}{n:Nat}
def WQ:BT b w es [SX] 0:=by
 show#[W,λi q h g=>?_,λq a=>?_,Yr _ _,λq a r e=>?_,Yr _ _,λj q f=>bb f (acC _)]
 .match i,g,h with
  |i+1,_,h=>ext h
 .rw[Xl.mp a];rfl
 .rw[Xl.mp e];show XY _
theorem Dt.mono(h:Dt b w fs q e)(l:G Te):Dt b w (fs++l) q e:=λp f=>by let(r,a,x):=h p f;show#[r,Yd _ a,x]
theorem BT.old(B:TC b w es)(h:BT b w es fs n)(l:fs[n]?=R q)(o:e∈es)(m:AQ b w q.p e=R p)(c:iH (fs.map kI) (kT p)=R t):Dt b w fs q e:=λy a=>by
 rw[m]at a;ext a;let(r,f,v):=DZ c;rw[Xg]at f;cases z:fs[t]? with
 |none=>rw[z]at f;ext f
 |some u=>rw[z]at f;ext f;let g:=XF z;let i:=B.rw (h.rw u g);let j:=B.nx (B.rw (h.rw q (XF l))) o m;show#[u,g,EA B i j (LD.kd_eqv _ _ (LD.keyD_kd (g8 i)).1 (LD.keyD_kd (g8 j)).1 v),h.up q l u g]
def BT.new(B:TC b w es)(h:BT b w es fs n)(l:fs[n]?=R q)(v:e∈es)(o:AQ b w q.p e=R p)(c:iH (fs.map kI) (kT p)=P):BT b w es (fs++[#[p,nd n,eR e,q.d+1]]) n:=by
 let C:=(W2.mp l).1;let A:=XF l;let old:∀{i:Nat} {r:Te},fs[i]?=R r->(fs++[#[p,L3.nd n,eR e,q.d+1]])[i]?=R r:=λx=>(Xe (W2.mp x).1).trans x;show#[old h.z,λi r a t=>?_,λr a=>?_,?_,λr a u g=>?_,?_,λj r G a f H=>?_]
 .by_cases E:i<fs.length
  .rw[Xe E]at a;let(j,u,K,J,I):=h.bk i r a t;show#[j,u,K,old J,I]
  .rw[XO ()]at a
   let z:i - fs.length=0:=by let:=(W2.mp a).1;rw[Z1]at this;ext
   rw[z]at a;ext a;show#[n,q,by ext,old l,W,W,e,W,v,o]
 .rcases X0.mp a with a|a
  .show h.rw r a
  .rw[Xl.mp a];show#[q.p,e,h.rw q A,v,o]
 .rw[aei];show#[h.mo,Yr _ _,λr a u g=>?_];rw[Xl.mp g];show h.up q l r a
 .rw[Xe C,l]at a
  ext a;rcases X0.mp g with g|g
  .show h.up q l u g
  .rw[Xl.mp g];show Xd _
 .rw[XM,Zu];show#[h.un,Yr _ _,λx F y m e1=>?_];let(r,a,rfl):=Xs.mp F;let m:y=p:=Xl.mp m;let:=wD c (kI r) (Xs.mpr #[r,a,W]);rw[show(kI r).p=kT p by show kT r.p=_;rw[e1,m],uO (g8 (B.nx (B.rw (h.rw q A)) v o))]at this;ext this
 .rw[Xe ()]at a;show(h.dn j r G a f H).mono _
def BT.next(h:BT b w es fs n)(f:fs[n]?=R q)(hd:∀e∈es,Dt b w fs q e):BT b w es fs (n+1):=by
 show#[h.z,h.bk,h.rw,h.mo,λr a u o=>?_,h.un,λj r p a e l=>?_]
 .let i:=(W2.mp f);let g:=(W2.mp a);let:=acQ.mp h.mo n (n+1) i.1 g.1 ();rw[i.2,g.2]at this;let:=h.up q f u o;ext
 .by_cases m:j<n
  .show h.dn j r m a e l
  .let:j=n:=by ext
   subst this;rw[f]at a;ext a;show hd e l
theorem BT.all(h:BT b w es fs n)(c:fs.length<=n):∀k p,RT b w es k p->∃r∈fs,r.p=p/\r.d<=k
 |0,p,q=>#[SX,XF h.z,(show p=IA from q).symm,Xd _]
 |k+1,p,#[u,e,t,he,q]=>by let(r,l,i,o):=h.all c k u t;let(j,a):=Ya.mp l;let(v,g,f,m):=h.dn j r (Xz (W2.mp a).1 c) a e he p (by rw[i];show q);show#[v,g,f,by ext]
end
theorem g7{α:Type}:∀{m l:G α},m.Nodup->(∀x∈m,x∈l)->m.length<=l.length
 |[],_,_,_=>XY _
 |a::r,l,h,g=>by
  let(f,e,rfl):=List.append_of_mem (g a W8);rw[Yv]at h;let:=g7 (m:=r) (l:=f++e) h.2 λx b=>by
   rcases X0.mp (g x (Xb _ b))with q|q
   .show Yd _ q
   .rcases Xt.mp q with rfl|q
    .show bb b h.1
    .show XG _ q
  rw[Xf]at this⊢;rw[Xk,Xk];ext
section
variable{b:Bd}(Z:VB b){s:Y0}{p:Y0×Sn}{k:Nat}
def Fj:(go p k).2.length<=p.2.length+1:=by
 ext go;split
 .rename_i a q
  rw[Xf];let:(NT (jJ p.1.ac k P) a).length<=1:=by
   cases a with
   |XB c=>show(if lA (jJ p.1.ac k P) (.XB c)=S then[]else[(c,U)]:Sn).length<=1;split<;>show W5 W
   |_=>show XY _
  ext
 .omega
def Lh:(zt b p k).2.length<=p.2.length+1:=by
 let e:zt b p k=ut b (i6 p.1.ac p.1.oc) (dh p.1 (look b (i6 p.1.ac p.1.oc) k),p.2) k (look b (i6 p.1.ac p.1.oc) k):=W;rw[e];generalize look b (i6 p.1.ac p.1.oc) k=m;generalize i6 p.1.ac p.1.oc=L;let cm:∀a,(eB (dh p.1 m,p.2) k a).2.length<=p.2.length+1:=λa=>ml;cases m with
 |tap c n=>show Z9 _
 |XB c=>
  show(if(decide (L=0)&& !(cP b [k]).isEmpty)=S then({dh p.1 (.XB c)with wt:=R ([k],0,P)},p.2)else eB (dh p.1 (.XB c),p.2) k (.XB c)).2.length<=_;split
  .show Z9 _
  .show cm _
 |once n=>show cm .none
 |Ze n=>show cm _
 |none=>show cm _
 |below=>show cm _
include Z
def xl(a:SW b s)(i:EV b e):(bJ b s e).2.length<=100:=by
 let d:=cZ Z (p:=(s,[])) a.sa (SW.wd Z a);let j:(bu b (s,[])).2.length<=5:=d.2.2.1;cases e with
 |turn=>
  show(fD b (s,[])).2.length<=100;ext fD;split
  .simp_all
  .rename_i f g w q
   let v:=(a.wt f g w q).1;split
   .let:=(cZ Z (p:=({s with wt:=R (f,g+1,w)},[])) #[a.sa.ac,a.sa.oc] λ_ _ _ e=>by ext e;show#[v.ne,v.nd,v.kn,v.kf,by let:=v.g0;ext,v.tp,v.ch]).2.2.1;show XT this (show 0+5<=100 by decide)
   simp_all
 |up k=>
  show(kO b (s,[]) k).2.length<=100;ext kO;split
  .rename_i q;let z:=(j7 Z a q).2;let z:(STP.bM b (s,[]) k).2.length<=5:=z;let:=Fj (p:=STP.bM b (s,[]) k) (k:=k);ext
  .show XT Fj (show 0+1<=100 by decide)
 |down k=>
  show(gb b (s,[]) k).2.length<=100;ext gb;split
  .simp_all
  .rename_i q
   rw[Yw,not_or]at q;let m:s.ac k=P:=by simp_all
   let l:zn s.wt k=U:=by simp_all
   split
   .rename_i h
    let(f,g,e1,e2,e3,e4):=uz Z a i m l h;ext pI;rw[e1];dsimp only;split
    .let:=(cZ Z (p:=({s with wt:=R (f++[k],g,P)},[])) #[a.sa.ac,a.sa.oc] λ_ _ _ e=>by ext e;show e3).2.2.1;show XT this (show 0+5<=100 by decide)
    .show XY _
   .let:=Lh (b:=b) (p:=bu b (s,[])) (k:=k);ext
end
section
variable{ρ:aP}{ω Y Z:aK}{x:SV}
def GA(b:o ρ ω=.ok xs Y)(a:jV F n xs Y=.ok x Z):qU F n o ρ ω=.ok x Z:=by ext qU;rw[b,d5,a];rfl
def G9(sn:G D)(st:D):frz 4 (ω++[.lst (sn.map .fz)]) (.tp [.rf ω.length,.fz st])=R (.tuple [.list sn,st],ω++[.dead]):=by
 let e1:frz 3 (ω++[.lst (sn.map .fz)]) (.rf ω.length)=R (.list sn,ω++[.dead]):=by ext frz;rw[bf];dsimp only;rw[vh];dsimp only;rw[gQ]
 let e2:pA (frz 3) (ω++[.lst (sn.map .fz)]) [.rf ω.length,.fz st]=R ([.list sn,st],ω++[.dead]):=by ext pA;rw[e1];rfl
 ext frz;rw[show([AV.rf ω.length,AV.fz st].map AV.sv)=[.rf ω.length,.fz st]from rfl,e2]
theorem Bh(a:VB b)(f:SW b s)(g:EV b e)(j:fa ρ ω=.ok (.fz (bD b)) ω)(i:fb ρ ω=.ok (.fz (fJ s)) ω)(h:fc ρ ω=.ok (.fz (eR e)) ω):qA (qU STP.lL 3 (ai fa (ai fb (ai fc aI)))) ρ ω=.ok (.fz (.tuple [.list ((bJ b s e).2.map nk),fJ (bJ b s e).1])) (ω++[.dead]):=
 uE (GA (aj j (aj i (aj h aG))) (SU a f g)) (G9 _ _)
end
def mK(h:Out r T X)(k:∀a c,T a c->T' a c)(b:∀x,X x->C x):Out r T' C:=by
 show#[?_];let h:=h.out;cases r with
 |bad=>show h
 |er x o=>show b x h
 |ok a o=>show k a o h
def Mc:jv o m fs (a++K)=jv o m fs a++K:=by ext jv;rw[XZ];rfl
theorem Vc{n:Nat}{v:SV}(h:xs[n]?=R v):lM xs (n:Int)=R v:=vo () (by rw[Yo];show h)
abbrev ET(b:Bd)(w:G Nat)(m:Int)(r:aP):aP:=-(bD b)::-(.str (dr w))::-(.int m)::r
abbrev E0(b:Bd)(w:G Nat)(m:Int)(es:G Evn)(l n:Nat)(g f e a:I SV):aP:=(ET b w m [-(.list (es.map eR)),R (.rf l),-(nd n),g,f,e,a])
def Uy(b:Bd)(w:G Nat)(es:G Evn)(m:Int)(x:Xc):Prop:=x=TM m/\∃l:G TP,l.Nodup/\(∀p∈l,∃k,RT b w es k p)/\m<(l.length:Int)
def yN(T:VB b){n:Nat}(x:b.n=n)(z:n<=5)(hw:∀c∈w,c<26)(wl:w.length<=3)(m0:0<=m)(Y:m<=1000)(g:aK):Out (gp [.fz (bD b),.fz (.str (dr w)),.fz (.int m)] g) (λv s=>∃(fs:bg Te) (k:aK),v=.rf (g.length+1)/\s=jv (g++[.dead]) m (fs.map kI) k/\BT b w (kA n) fs fs.length/\(fs.length:Int)<=m) (Uy b w (kA n) m):=by
 let Z:(kA n).length<=1000:=by ext kA;rw[Xf,Xf,W0,W0,XU];show n+n+1<=_;ext
 let ev:=Op x z;let B:TC b w (kA n):=#[T,D5 x,hw,wl];generalize kA n=es at Z ev B;show qK W ?_;let e1:qA (ae (bZ fY 1 {ad 0})) (ET b w m [Ld,Ld,Ld,Ld,Ld,Ld,Ld]) g=.ok (.fz (.list (es.map eR))) (g++[.dead]):=by show uE (fZ (ce (ah (af W) av) W W ev)) ?_;rw[pX bf,gQ]
 show cy e1 W ?_;let Q:g.length+1=(g++[Cell.dead]).length:=by rw[Xf];rfl
 rw[Q];generalize g++[Cell.dead]=base;let N:=Rk (C:= "Places") (F:=cA) (fa:=ai (ae (aV {pC (.tuple [(.tuple []),.none,.none]),~~~0})) (ai (ae (ad 2)) aI)) (ρ:=(ET b w m [-(.list (es.map eR)),Ld,Ld,Ld,Ld,Ld,Ld])) (ω:=base) (aj (ag (d:=kT IA) (bq (ah aw (ah aw av)) W (W5 W))) (aj (ag (af W)) aG)) W;rw[Ei (g8 (w:=w) #[l4 b,XY _]) m0 Y]at N;by_cases mz:m<=0
 .rw[ax mz]at N;show Kw (.eq N #[#[W,[IA],Yr _ _,λp I=>#[0,Xl.mp I],by show m<1;ext]])
 rw[a4 mz]at N;show cy N W ?_;show cy (ag aw) W ?_;show jM (FV (λn ρ ω=>∃(fs:bg Te) (k:aK) (K E A y:bt SV),ρ=E0 b w m es base.length n K E A y/\ω=jv base m (fs.map kI) k/\BT b w es fs n/\n<=fs.length/\(fs.length:Int)<=m) 1000 () #[[SX],[],Ld,Ld,Ld,Ld,W,W,WQ,XY _,by show(1:Int)<=m;ext] ?_);rintro n ρ ω ⟨fs,k,K,E,A,y,rfl,rfl,bi,hle,hlm⟩;let P:∀{fs:bg Te} {k:aK},(fs.length:Int)<=m->PSt base.length (base.length+1) (base.length+2) m (fs.map kI) (jv base m (fs.map kI) k):=λ{fs k} h=>yz (by rw[W0];ext);let ff:∀{fs:bg Te} {k:aK} {K E A y:bt SV},(fs.length:Int)<=m->aU "Places" "found" (aq 4) (E0 b w m es base.length n K E A y) (jv base m (fs.map kI) k)=.ok (.rf (base.length+1)) (jv base m (fs.map kI) k):=λh=>iK (aO W) (P h).o nu;let S:yk dY (ai (aU "Places" "found" (aq 4)) aI) (E0 b w m es base.length n K E A y) (jv base m (fs.map kI) k)=.ok (.fz (nd fs.length)) (jv base m (fs.map kI) k):=Ah (aj (ff hlm) aG) (by ext aA;rw[gU (P hlm).f];rfl) ((iP _).trans (by rw[W0,W0]));let G:=aH (b8 (ag (f:=ad 5) (af W)) S (bw (nJ (n:Int) (fs.length:Int))));by_cases O:n<fs.length
 case neg=>
  rw[a6 ()]at G;let e:n=fs.length:=by ext
  subst e;show .inl #[_,G,rE (aO W) #[fs,k,W,W,bi,hlm]]
 case pos=>
  rw[a5 ()]at G;show .inr #[by ext,_,G,?_];obtain⟨q,l⟩:∃q,fs[n]?=cL q:=#[_,Xm O];let st:iZ (iZ (aU "Places" "found" (aq 4)) (ae (ad 5))) (ae (~~~0)) (E0 b w m es base.length n K E A y) (jv base m (fs.map kI) k)=.ok (.fz (kT q.p)) (jv base m (fs.map kI) k):=cK (yG (ff hlm) (ag (af W)) W (P hlm).f (Vc (by rw[Xg,Xg,Xg,l];rfl))) (ag aw) iG;show cy st W ?_;show jM (zg (λi ρ ω=>∃(fs:bg Te) (k:aK) (E A y:bt SV),ρ=E0 b w m es base.length n (-(kT q.p)) E A y/\ω=jv base m (fs.map kI) k/\BT b w es fs n/\fs[n]?=cL q/\(fs.length:Int)<=m/\∀e∈es.take i,Dt b w fs q e) (qB (gH (af W) W W)) #[fs,k,E,A,y,W,W,bi,l,hlm,λe he=>by ext he] ?_ ?_)
  .clear G S st O l hle bi hlm
   rintro i d ρ ω R ⟨fs,k,E,A,y,rfl,rfl,bi,l,hlm,dn⟩;rw[Xg]at R;cases qe:es[i]? with
   |none=>rw[qe]at R;ext R
   |some e=>
    rw[qe]at R;cases Xj R;let L:=XF qe;let M:=B.rw (bi.rw q (XF l));show#[E0 b w m es base.length n (-(kT q.p)) (-(eR e)) A y,_,W,?_];let s1:=Bh (ρ:=E0 b w m es base.length n (-(kT q.p)) (-(eR e)) A y) (ω:=jv base m (fs.map kI) k) T M.1 (B.eb e L) (fa:=ae (ad 0)) (fb:=ae (aB bc (ad 6) (~~~0))) (fc:=ae (ad 7)) (ag (af W)) (ag (aD (af W) aw W W iG)) (ag (af W));rw[<-Mc]at s1;let k1:=Bs T M.1 (B.eb e L);let k2:=xl T M.1 (B.eb e L);let dk:=JV hw wl (d:=q.p.2) (by let:=M.2;ext) k1 ();let j:AQ b w q.p e=(v9 w q.p.2 (bJ b q.p.1 e).2).map λd=>((bJ b q.p.1 e).1,d):=W;show cy s1 W ?_;generalize bJ b q.p.1 e=u at k1 dk j;generalize k++[Cell.dead]=k;show cy (ag (ce (ah (af W) (ah (aD (af W) aw W W jR) (ah (aD (af W) aw W W iG) av))) W W dk)) W ?_;let U:es.take (i+1)=es.take i++[e]:=by rw[ZV,qe];rfl
    cases qd:v9 w q.p.2 u.2 with
    |none=>
     rw[qd]at j;show .eq (ez (aX (bh (aD (af W) aw W W W) W)) eF) #[fs,k,_,_,_,W,W,bi,l,hlm,λf a=>?_];rw[U]at a;rcases X0.mp a with a|a
     .show dn f a
     .rw[Xl.mp a];intro p I;rw[j]at I;ext I
    |some d=>
     rw[qd]at j;let t2:bp (az (aB lK (ad 9) (pC .none))) (E0 b w m es base.length n (-(kT q.p)) (-(eR e)) (-(.tuple [.list (u.2.map nk),fJ u.1])) (-(Qg (cL d)))) (jv base m (fs.map kI) k)=.ok WZ (jv base m (fs.map kI) k):=aX (bh (aD (af W) aw W W W) W);let pn:=B.nx M L j;let H:=Bo (F:=bQ) (fo:=aq 4) (fa:=ai (ae (aV {aB bc (ad 8) (~~~1),ad 9})) (ai (ae (ad 5)) (ai (ae (ad 7)) aI))) (ρ:=E0 b w m es base.length n (-(kT q.p)) (-(eR e)) (-(.tuple [.list (u.2.map nk),fJ u.1])) (-(Qg (cL d)))) (ω:=jv base m (fs.map kI) k) (aO W) (P hlm).o sY (aj (ag (d:=kT (u.1,d)) (bq (ah (aD (af W) aw W W jR) (ah (af W) av)) W (W5 W))) (aj (ag (af W)) (aj (ag (af W)) aG))) W;rw[tP (P hlm) (wC () Y) Y (g8 pn)]at H;show .eq (c7 t2 W) (GQ ?_);cases qi:iH (fs.map kI) (kT (u.1,d))with
     |some t=>
      rw[qi]at H;show .eq H #[fs,k,_,_,_,W,W,bi,l,hlm,λf a=>?_];rw[U]at a;rcases X0.mp a with a|a
      .show dn f a
      .rw[Xl.mp a];show bi.old B l L j qi
     |none=>
      rw[qi]at H;rw[W0]at H;let bn:=bi.new B l L j qi;by_cases hm:m<=(fs.length:Int)
      .rw[ax hm]at H
       show .eq H #[W,_,bn.un,λp I=>?_,?_]
       .let(r,hr,rfl):=Xs.mp I;show#[r.d,bn.rw r hr]
       .rw[W0,Xf];show m<((fs.length+1:Nat):Int);ext
      .rw[a4 hm,Ak]at H
       let X:=(W2.mp l).1;show .eq H #[fs++[#[(u.1,d),nd n,eR e,q.d+1]],k,_,_,_,W,by rw[XM];rfl,bn,(Xe X).trans l,?_,λf a=>?_]
       .rw[Xf];show((fs.length+1:Nat):Int)<=m;ext
       .rw[U]at a
        rcases X0.mp a with a|a
        .show(dn f a).mono _
        .rw[Xl.mp a];intro p I;rw[j]at I;ext I;show#[_,XG _ W8,W,Xd _]
  .rintro ρ ω ⟨fs,k,E,A,y,rfl,rfl,bi,l,hlm,dn⟩;rw[W0,Z6]at dn;let X:=(W2.mp l).1;show zb (Qw (ω3:=[]) W (ag aw) (bw W)) #[fs,k,_,_,_,_,W,W,bi.next l dn,X,hlm]
section
variable{b:Bd}{w:bg Nat}{es:bg Evn}{fs gs:bg Te}
def BT.len(h:BT b w es fs fs.length){l:G TP}(a:l.Nodup)(e:∀p∈l,∃k,RT b w es k p):l.length<=fs.length:=by
 let:=g7 a λp f=>by let(k,g):=e p f;let(r,j,i,_):=h.all (Xd _) k p g;show Xs.mpr #[r,j,i]
 rw[W0]at this;show this
def BT.one(h:BT b w es fs fs.length)(c:BT b w es gs gs.length):fs.length=gs.length:=by
 let g:=h.len c.un λp e=>by let(r,a,rfl):=Xs.mp e;show#[_,c.rw r a]
 let f:=c.len h.un λp e=>by let(r,a,rfl):=Xs.mp e;show#[_,h.rw r a]
 rw[W0]at g f;ext
def BT.uniq(h:BT b w es fs n)(l:q∈fs)(g:r∈fs)(e:q.p=r.p):q=r:=by let(i,m):=Ya.mp l;let(j,a):=Ya.mp g;let f:=(W2.mp m).1;let:i=j:=(abQ (show i<(fs.map (·.p)).length by rw[W0];show f) h.un).mp (by rw[Xg,Xg,m,a];show dw R e);subst this;rw[m]at a;show Xj a
def BT.min(h:BT b w es fs fs.length)(a:q∈fs)(e:RT b w es k q.p):q.d<=k:=by let(r,i,g,f):=h.all (Xd _) k _ e;rw[h.uniq a i g.symm];show f
def BT.aiM(h:BT b w es fs fs.length)(c:BT b w es gs gs.length)(f:q∈fs)(a:r∈gs)(e:q.p=r.p):q.d=r.d:=by let i:=h.min f (by rw[e];show c.rw r a);let g:=c.min a (by rw[<-e];show h.rw q f);ext
end
def Jl(a:Out (e ρ ω) (λv c=>∃(i:Nat) (fs:G (Str×SV)) (j:Nat) (ds:G D),v=.rf i/\c[i]?=R (.obj C fs)/\fs.lookup f=R (.rf j)/\c[j]?=R (.lst (ds.map .fz))/\T ds (c.set j .dead)) X):Out (gB (aU C f e) ρ ω) T X:=by
 let h:=a.out;show#[?_];cases q:e ρ ω with
 |bad=>rw[q]at h;show h.elim
 |er x o=>
  rw[q]at h;let:gB (aU C f e) ρ ω=.er x o:=by unfold gB aU;rw[q];rfl
  rw[this];show h
 |ok v o=>rw[q]at h;let(i,fs,j,ds,rfl,m,l,g,b):=h;rw[uy (iK q m l) g];show b
abbrev LX(b a:aK):Prop:=∀j,j<b.length->a[j]?=b[j]?
def tV(q:Te):D:=.tuple [fJ q.p.1,nd q.p.2,nd q.d]
def ja(Y:VB b){n:Nat}(z:b.n=n)(V:n<=5)(hw:∀c∈w,c<26)(U:w.length<=3)(m0:0<=m)(s:m<=1000)(e:aK):Out (aL [.fz (bD b),.fz (.str (dr w)),.fz (.int m)] e) (λv p=>∃(fs:bg Te) (i:Nat),BT b w (kA n) fs fs.length/\(fs.length:Int)<=m/\v=.rf i/\p[i]?=cL (.lst ((fs.map tV).map .fz))/\LX e p) (Uy b w (kA n) m):=by
 show qK W ?_;show cy (fZ (by ext:0)) W ?_;show cy (ρ1:=(ET b w m [cL (.rf e.length),cL (.rf (e.length+1)),Ld,Ld,Ld,Ld])) ((fZ (by ext:0)).trans (by rw[Xf];rfl)) W ?_;let Q:(e++[Cell.lst (([]:bg D).map .fz)]++[Cell.lst (([]:bg D).map .fz)])[e.length]?=cL (.lst []):=by rw[XZ];show wx (t:=0)
 let O:(e++[Cell.lst (([]:bg D).map .fz)]++[Cell.lst (([]:bg D).map .fz)])[e.length+1]?=cL (.lst []):=by rw[XZ];show wx
 let N:LX e (e++[Cell.lst (([]:bg D).map .fz)]++[Cell.lst (([]:bg D).map .fz)]):=λj y=>by rw[XZ,Xe y]
 let C:(e++[Cell.lst (([]:bg D).map .fz)]++[Cell.lst (([]:bg D).map .fz)]).length=e.length+2:=by rw[Xf,Xf];rfl
 generalize e++[Cell.lst (([]:bg D).map .fz)]++[Cell.lst (([]:bg D).map .fz)]=f at Q O C N;let ca:=Ff (F:=gp) (es:=[]) (fa:=ai (ae (ad 0)) (ai (ae (ad 1)) (ai (ae (ad 2)) aI))) (ρ:=(ET b w m [cL (.rf e.length),cL (.rf (e.length+1)),Ld,Ld,Ld,Ld])) (ω:=f) (aj (ag (af W)) (aj (ag (af W)) (aj (ag (af W)) aG))) W;show jM (Out.bind (Jl (.eq ca ((yN Y z V hw U m0 s f).imp λv p hv=>?_))));let(fs,J,rfl,rfl,K,I):=hv;let P:PSt (f++[Cell.dead]).length ((f++[Cell.dead]).length+1) ((f++[Cell.dead]).length+2) m (fs.map kI) (jv (f++[.dead]) m (fs.map kI) J):=yz (by rw[W0];ext);let bl:(f++[Cell.dead]).length=e.length+3:=by rw[Xf,C];rfl
 show#[_,_,_,fs.map λq=>II (kI q),by rw[bl,C],P.o,nu,by rw[XI];let:=P.f;rw[XI,XI]at this;show this,?_];let g0:((jv (f++[.dead]) m (fs.map kI) J).set ((f++[Cell.dead]).length+1) .dead)[e.length]?=cL (.lst []):=by rw[XD ()];ext jv;rw[Xe (),Xe ()];show Q
 let S:((jv (f++[.dead]) m (fs.map kI) J).set ((f++[Cell.dead]).length+1) .dead)[e.length+1]?=cL (.lst []):=by rw[XD ()];ext jv;rw[Xe (),Xe ()];show O
 let R:LX e ((jv (f++[.dead]) m (fs.map kI) J).set ((f++[Cell.dead]).length+1) .dead):=λj y=>by rw[XD ()];ext jv;rw[Xe (),Xe ()];show N j y
 generalize (jv (f++[.dead]) m (fs.map kI) J).set ((f++[Cell.dead]).length+1) .dead=ω2 at g0 S R;let go:=pV (gt:=Hm 3 (jB (eA 5) (jB (eA 6) (jB (eA 7) vg)))) (T:=λv p=>∃(fs:bg Te) (i:Nat),BT b w (kA n) fs fs.length/\(fs.length:Int)<=m/\v=.rf i/\p[i]?=cL (.lst ((fs.map tV).map .fz))/\LX e p) (X:=Uy b w (kA n) m) (b:=(aC (cb (EW (bp (az (aB oj (ad 6) (pC .none)))) (ae (~~~0)) (jo bP (iZ (aq 3) (ae (ad 6))) (ae (~~~1)))) (eA 8)) (aC (bv (l7 (aq 3) (ae (ad 8)))) (bv (l7 (aq 4) (ae (aV {aB bc (ad 5) (~~~0),aB bc (ad 5) (~~~1),ad 8}))))))) (λi ρ p=>∃H G E u:bt SV,ρ=(ET b w m [cL (.rf e.length),cL (.rf (e.length+1)),H,G,E,u])/\p[e.length]?=cL (.lst (((fs.take i).map λq=>nd q.d).map .fz))/\p[e.length+1]?=cL (.lst (((fs.take i).map tV).map .fz))/\LX e p) (fs.map λq=>II (kI q)) 0 (ET b w m [cL (.rf e.length),cL (.rf (e.length+1)),Ld,Ld,Ld,Ld]) ω2 #[Ld,Ld,Ld,Ld,W,g0,S,R] (by
  rintro i d ρ p A ⟨H,G,E,u,rfl,g,l,B⟩;rw[ZG]at g l⊢;rw[Xg]at A;cases qi:fs[i]? with
  |none=>rw[qi]at A;ext A
  |some q=>
   rw[qi]at A;cases Xj A;show#[(ET b w m [cL (.rf e.length),cL (.rf (e.length+1)),-(kT q.p),-(q.b),-(q.e),u]),p,W,?_];let Z:EW (bp (az (aB oj (ad 6) (pC .none)))) (ae (~~~0)) (jo bP (iZ (aq 3) (ae (ad 6))) (ae (~~~1))) (ET b w m [cL (.rf e.length),cL (.rf (e.length+1)),-(kT q.p),-(q.b),-(q.e),u]) p=.ok (.fz (nd q.d)) p:=by
    by_cases i0:i=0
    .subst i0;rw[K.z]at qi;ext qi;show BI (aX (bh (aD (af W) aw W W W) W)) (ag aw)
    .let(j,r,h1,h2,h3,h4,_):=K.bk i q qi ();rw[h3];show Bv (aX (bh (aD (af W) aw W W W) W)) ?_;show(b8 (yG (aO W) (ag (af W)) W g (Vc ?_)) (ag aw) (bw (eV (r.d:Int) 1))).trans (by rw[h4];rfl);rw[Xg,Xg,aaD h1,h2];rfl
   show cy Z W ?_;let ap:=rM (ρ:=(ET b w m [cL (.rf e.length),cL (.rf (e.length+1)),-(kT q.p),-(q.b),-(q.e),-(nd q.d)])) (fo:=aq 3) (fe:=ae (ad 8)) (x:=.fz (nd q.d)) (aO W) g (ag (af W)) g (by rw[W0,W0,Yb];ext);show An (gK ap) ?_;let l0:=(W2.mp g).1;let l1:=(W2.mp l).1;let h:=(XD (a:=Cell.lst (((fs.take i).map λq=>nd q.d).map SV.fz++[.fz (nd q.d)])) (show e.length≠e.length+1 by ext)).trans l;let L:=rM (ρ:=(ET b w m [cL (.rf e.length),cL (.rf (e.length+1)),-(kT q.p),-(q.b),-(q.e),-(nd q.d)])) (fo:=aq 4) (fe:=ae (aV {aB bc (ad 5) (~~~0),aB bc (ad 5) (~~~1),ad 8})) (x:=.fz (tV q)) (aO W) h (ag (bq (ds:=[fJ q.p.1,nd q.p.2,nd q.d]) (ah (aD (rv:=.fz (fJ q.p.1)) (af W) aw W W iG) (ah (aD (rv:=.fz (nd q.p.2)) (af W) aw W W jR) (ah (af W) av))) W (W5 W))) h (by rw[W0,W0,Yb];ext);let M:fs.take (i+1)=fs.take i++[q]:=by rw[ZV,qi];rfl
   show zb (gK L) #[_,_,_,_,W,?_,?_,λj y=>by rw[XD (),XD ()];show B j y]
   .rw[XD (),Ye l0,M,XM,XM];rfl
   .rw[Ye (by rw[Yc];show l1),M,XM,XM];rfl)
 rw[ZG,W0,Z6]at go;show go.imp λfl o k=>?_;cases fl with
 |nx r=>let(H,G,E,u,rfl,g,l,B):=k;show rE (aO W) #[fs,_,K,I,W,l,B]
 |rt v=>show k
 |ct r=>show k.elim
 |bk r=>show k.elim
def lm(w:G Nat):Nat->Sn->I Nat
 |d,[]=>R d
 |d,(c,S)::r=>if(w.drop d).take 1=[c]then lm w (d+1) r else P
 |d,(_,U)::r=>lm w d r
theorem Iq(w:G Nat):∀(sn:Sn) (d:Nat),lm w d sn=v9 w d sn
 |[],d=>by unfold lm v9;rw[ax (show(w.drop d).take (jX []).length=jX []from agg)];rfl
 |(c,U)::r,d=>Iq w r d
 |(c,S)::r,d=>by
  let e:jX ((c,S)::r)=c::jX r:=W;ext lm;rw[Iq w r (d+1)];ext v9;rw[e];let b:(w.drop d).take (c::jX r).length=c::jX r↔(w.drop d).take 1=[c]/\(w.drop (d+1)).take (jX r).length=jX r:=by
   rw[<-List.drop_drop,Xk];cases w.drop d with
   |nil=>simp
   |cons a t=>simp
  by_cases g:(w.drop d).take 1=[c]
  .rw[ax g]
   by_cases f:(w.drop (d+1)).take (jX r).length=jX r
   .rw[ax f,ax (b.mpr #[g,f]),Xk];congr 1;ext
   .rw[a4 f,a4 λz=>f (b.mp z).2]
  .rw[a4 g,a4 λz=>g (b.mp z).1]
def DL(u:∀c∈w,c<26)(C:w.length<=3)(hd:d<=3)(A:aag sn)(E:sn.length<=900):hW [.str (dr w),nd d,.list (sn.map nk)]=.ok (.fz (Qg (v9 w d sn))):=by
 let e:∀d:Bool,cJ (.str (if d=S then "down" else "up")) (.str "down")=-(.bool d):=λd=>by
  ext d
  .show(OO (by left) (by left)).trans (by rw[show((if U=S then "down" else "up":Str)== "down")=U by left])
  .show(OO (by left) (by left)).trans (by rw[show((if S=S then "down" else "up":Str)== "down")=S by left])
 let j:∃N,fA 5 fX [.str (dr w),nd d,.list (sn.map nk)]=.ok N/\N=.fz (Qg (v9 w d sn)):=by
  show lO W ?_;show D3 (λi L=>∃(k:Nat) (g f:I PV),k<=d+i/\lm w k (sn.drop i)=v9 w d sn/\L=[zf (.str (dr w)),zf (nd k),zf (.list (sn.map nk)),g,f]) (gH (af W) W W) #[d,P,P,Xd _,by rw[acH];show Iq w sn d,W] ?_ ?_
  .rintro i x L a ⟨k,g,f,B,hm,rfl⟩
   rw[Xg]at a;cases q:sn[i]? with
   |none=>rw[q]at a;ext a
   |some y=>
    rw[q]at a;cases Xj a;let(r,t):=W2.mp q;rw[YC r,t]at hm;let m:=A y (XF q);let(c,b):=y;show#[[zf (.str (dr w)),zf (nd k),zf (.list (sn.map nk)),zf (.str (dJ c)),zf (.str (if b=S then "down" else "up"))],W,?_];let o:az (aB cJ (ad 4) (pC (.str "down"))) [zf (.str (dr w)),zf (nd k),zf (.list (sn.map nk)),zf (.str (dJ c)),zf (.str (if b=S then "down" else "up"))]=.ok (b,[zf (.str (dr w)),zf (nd k),zf (.list (sn.map nk)),zf (.str (dJ c)),zf (.str (if b=S then "down" else "up"))]):=bh (aD (af W) aw W W (e b)) W;show N9 o (λl=>?_) (λl=>?_)
    .subst l
     let p:jT (.str (dr w)) (R (k:Int)) (R ((k:Int)+1))=-(.str (dr ((w.drop k).take 1))):=by let:=BH (w:=w) () (b:=k+1) (Z9 _);rw[Zh]at this;show this
     let ne:=Ia (v:=(w.drop k).take 1) (λx a=>u x (aeh (abg a))) (λx a=>by rw[Xl.mp a];show m);let n:az (aB pS (DF jT (ad 0) (gR (ad 1)) (gR (aB bP (ad 1) (~~~1)))) (ad 3)) [zf (.str (dr w)),zf (nd k),zf (.list (sn.map nk)),zf (.str (dJ c)),zf (.str (if S=S then "down" else "up"))]=.ok (!decide ((w.drop k).take 1=[c]),[zf (.str (dr w)),zf (nd k),zf (.list (sn.map nk)),zf (.str (dJ c)),zf (.str (if S=S then "down" else "up"))]):=bh (aD (xp (af W) (gW (af W) W) (gW (aD (af W) aw W W (eV _ _)) W) W p) (af W) W W ne) W;unfold lm at hm;show oP n (λh=>?_) (λh=>fR ?_)
     .let:¬(w.drop k).take 1=[c]:=λz=>by rw[a5 z]at h;ext h
      rw[a4 this]at hm;show ji aw W (by rw[<-hm];rfl)
     .let:(w.drop k).take 1=[c]:=by
       cases z:decide ((w.drop k).take 1=[c])with
       |true=>show a7 z
       |false=>rw[z]at h;ext h
      rw[ax this]at hm;show y8 (aD (af W) aw W W (eV (k:Int) 1)) W #[k+1,_,_,by ext,hm,W]
    .subst l;show BB #[k,_,_,by ext,hm,W]
  .rintro L ⟨k,g,f,B,hm,rfl⟩;rw[W0,List.drop_length]at hm;show dS (af W) W (by rw[<-hm];rfl)
 let(N,h,rfl):=j;show h
def QQ{b:Bd}{n:Nat}(c:b.n=n)(l:n<=5):fG [bD b]=.ok (.ow ((kA n).map eR)):=by
 let e:L9.RY [.int b.n]=R (.ow (aY (Xn n))):=by show(if 0<=b.n/\b.n<=1000 then R (RV.ow (aY (Xn b.n.toNat)))else P)=_;rw[ax #[by ext,by ext],c,Yo]
 let g:jE (cU (gN 0) cQ (aV {pC (.str "down"),ad 0}) (aY (Xn n)) [P] [])=.ok ((Xn n).map λk=>eR (.down k)):=i8 nd (λk=>eR (.down k)) (Xn n) (by rw[XU];ext) W λk _=>bq (ah aw (ah (af W) av)) W (W5 W);let f:jE (cU (gN 0) cQ (aV {pC (.str "up"),ad 0}) (aY (Xn n)) [P] [])=.ok ((Xn n).map λk=>eR (.up k)):=i8 nd (λk=>eR (.up k)) (Xn n) (by rw[XU];ext) W λk _=>bq (ah aw (ah (af W) av)) W (W5 W);let a:∃m,fA 2 d6 [bD b]=.ok m/\m=.ow ((kA n).map eR):=by show lO W ?_;show cx (gq (ah (aD (af W) aw W W (Tf b)) av) W e) W W ?_;let j:bP (.list ((Xn n).map λk=>eR (.down k))) (.list ((Xn n).map λk=>eR (.up k)))=R (.ow ((Xn n).map (λk=>eR (.down k))++(Xn n).map λk=>eR (.up k))):=JL (by rw[W0,W0,XU];ext);let i:bP (.list ((Xn n).map (λk=>eR (.down k))++(Xn n).map λk=>eR (.up k))) (.list [eR .turn])=R (.ow ((kA n).map eR)):=(JL (by rw[Xf,W0,W0,XU];show _+1<=_;ext)).trans (by ext kA;rw[XM,XM,XI,XI];rfl);show dS (aD (aD (cW (gH (lf W) W W) W g) (cW (gH (af W) W W) W f) W W j) (lh (ah (bq (ah aw (ah aw av)) W (W5 W)) av) W (W5 W)) W W i) W W
 let(m,h,rfl):=a;show h
def iw(a:G Int)(k:Int)(e:0<=k):∃c:Int,a8 [.list (a.map .int),.int k]=.ok (.fz (.int c)):=by
 obtain⟨n,rfl⟩:∃n:Nat,k=(n:Int):=#[k.toNat,by ext];let b:dY [.list (a.map .int)]=-(nd a.length):=(iP _).trans (by simp_all);by_cases h:n<a.length
 .show#[a[n],jb (ρ:=[-(.list (a.map .int)),-(nd n)]) W (dS (pv:=.fz (.int a[n])) (rv:=.fz (.int a[n])) (Q7 (bh (aD (rv:=.fz (.bool S)) (af W) (gq (rv:=.fz (nd a.length)) (ah (af W) av) W b) W W ?_) W) (aD (rv:=.fz (.int a[n])) (af W) (af W) W W (Wi ?_))) W W)]
  .rw[nJ,a5 ()]
  simp_all
 .show#[0,jb (ρ:=[-(.list (a.map .int)),-(nd n)]) W (dS (pv:=.fz (.int 0)) (rv:=.fz (.int 0)) (Py (bh (aD (rv:=.fz (.bool U)) (af W) (gq (rv:=.fz (nd a.length)) (ah (af W) av) W b) W W ?_) W) aw) W W)];rw[nJ,a6 ()]
theorem Vx{i j:Int}(h: -2^64<i/\i<2^64):iE (.int i) (.int j)=-(.int (i*j)):=KC h
theorem VJ{i j:Int}(h: -2^64<j/\j<2^64):iE (.int i) (.int j)=-(.int (i*j)):=JW h
def sA(x s m:Int):Int:=((x % 1000033+s)*(s+521) % 1000033*((x % 1000033+s)*(s+521) % 1000033)+x/1000033+7*s) % 999983/3 % m
theorem fF{x s m:Int}(hm:0<m):0<=sA x s m/\sA x s m<m:=#[agh _ (),ae2 _ hm]
def cM(x:Int){s m:Int}(p:0<=s)(o:s<1000)(hm:0<m):aF [.int x,.int s,.int m]=.ok (.fz (.int (sA x s m))):=by ext sA;let n:rL (.int x) (.int 1000033)=-(.int (x % 1000033)):=u9 ();let f:iE (.int (x % 1000033+s)) (.int (s+521))=-(.int ((x % 1000033+s)*(s+521))):=VJ #[by ext,by ext];generalize (x % 1000033+s)*(s+521)=y at f;let e:rL (.int y) (.int 1000033)=-(.int (y % 1000033)):=u9 ();let g:0<=y % 1000033/\y % 1000033<1000033:=#[agh _ (),ae2 _ ()];generalize y % 1000033=z at e g;let b:iE (.int z) (.int z)=-(.int (z*z)):=VJ #[by ext,by ext];let l:zd (.int x) (.int 1000033)=-(.int (x/1000033)):=Gn #[by decide,by decide];let j:iE (.int 7) (.int s)=-(.int (7*s)):=Vx #[by decide,by decide];generalize z*z=u at b;let a:rL (.int (u+x/1000033+7*s)) (.int 999983)=-(.int ((u+x/1000033+7*s) % 999983)):=u9 ();generalize (u+x/1000033+7*s) % 999983=v at a;let i:zd (.int v) (.int 3)=-(.int (v/3)):=Gn #[by decide,by decide];let h:rL (.int (v/3)) (.int m)=-(.int (v/3 % m)):=u9 hm;show jb (ρ:=[-(.int x),-(.int s),-(.int m),P]) W (yf (y8 (by ext:0) W (yf (y8 (by ext:0) W (dS (by ext:0) W W)))))
def Qm{z:Str}{cs:G Nat}(d:z.cps.toList=cs.map (97+·))(a:z.length<=1000000){r:Int}{c:Nat}(b:0<=r)(h:cs[r.toNat]?=R c):L3.iZ (.str z) (.int r)=-(.str (dJ c)):=by show(if z.length<=1000000 then(lM z.cps.toList r).map (λc=>RV.fz (.str #[#v[c]]))else P)=_;rw[ax a,d,vo (v:=97+c) b (by simp_all)];rfl
def qN{z:Str}(cs:G Nat)(d:z.cps.toList=cs.map (97+·))(b:z.length<=1000000)(e:∀c∈cs,c<26){r:Int}(f:0<=r)(g:r<cs.length):∃c,c<26/\L3.iZ (.str z) (.int r)=-(.str (dJ c)):=by
 let a:r.toNat<cs.length:=by ext
 show#[cs[r.toNat],e _ (afx a),Qm d b f (Xm a)]
def EL{n i k:Nat}(h:(Xn n)[i]?=R k):k=i/\i<n:=by let(b,a):=W2.mp h;rw[aeL]at a;rw[XU]at b;show#[a.symm,b]
def Kc{n a:Int}{e:G (G Mn)}{b:G Mn}(h:VL n a e)(g:(b.length:Int)=n)(f:∀m∈b,VM e.length a m):VL n a (e++[b]):=by
 intro i l j;rcases L10.a9 j with o|⟨rfl,rfl⟩
 .show h i l o
 .show#[g,f]
def OP{a:Int}(b:1<=a):∃M:Int,xC [.int 1,.int (a - 1)]=-(.int M)/\1<=M/\(1<a->M=a - 1):=by show#[_,W,?_];split<;>ext
def K4(c:Int)(L:Nat)(a:Int)(n:1<=a):∃m:Mn,VM L a m/\dz [.int c,nd L,.int a]=.ok (.fz (mD m)):=by
 let r:=cM c (s:=5) (m:=3) () () ();let g:=fF (x:=c) (s:=5) (m:=3) ();generalize sA c 5 3=C at r g;let(l,i,w):=qN (z:= "abc") [0,1,2] (by left) (by left) () g.1 (show C<3 from g.2);let(M,v,M1,M2):=OP n;let p:=cM c (s:=7) (m:=M) () () ();let u:=fF (x:=c) (s:=7) (m:=M) ();generalize sA c 7 M=y at p u;let t:=cM c (s:=3) (m:=8) () () ();generalize sA c 3 8=A at t;let o:DG (nd L) (.int 0)=-(.bool (decide ((0:Int)<L))):=W;let f:∃B,fA 6 cR [.int c,nd L,.int a]=.ok B/\∃m:Mn,VM L a m/\B=.fz (mD m):=by
  show lO (T:=λB=>∃m:Mn,VM L a m/\B=.fz (mD m)) (ρ:=[zf (.int c),zf (nd L),zf (.int a),P,P,P]) W ?_;ext cR;show cx (ρ3:=[zf (.int c),zf (nd L),zf (.int a),zf (.str (dJ l)),P,P]) (by ext:0) W W ?_;show cx (ρ3:=[zf (.int c),zf (nd L),zf (.int a),zf (.str (dJ l)),zf (.int (1+y)),P]) (by ext:0) W W ?_;show cx (ρ3:=[zf (.int c),zf (nd L),zf (.int a),zf (.str (dJ l)),zf (.int (1+y)),zf (.int A)]) (by ext:0) W W ?_;show oP (b:=(decide ((0:Int)<L)&&decide (5<A))) (ρ1:=[zf (.int c),zf (nd L),zf (.int a),zf (.str (dJ l)),zf (.int (1+y)),zf (.int A)]) (by ext:0) (λq=>?_) (λ_=>fR ?_)
  .rw[WX]at q;let e:=a7 q.1;show ji (pv:=.fz (mD .below)) (ρ1:=[zf (.int c),zf (nd L),zf (.int a),zf (.str (dJ l)),zf (.int (1+y)),zf (.int A)]) (show _=Res.ok (PV.fz (.tuple [.str "below"]),_) by ext:0) W #[.below,by show(L:Int)≠0;ext,W]
  show oP (b:=(decide (1<a)&&decide (A=3))) (ρ1:=[zf (.int c),zf (nd L),zf (.int a),zf (.str (dJ l)),zf (.int (1+y)),zf (.int A)]) (by ext:0) (λq=>?_) (λ_=>fR ?_)
  .rw[WX]at q;let e:=M2 (a7 q.1);show ji (pv:=.fz (mD (.Ze (1+y)))) (ρ1:=[zf (.int c),zf (nd L),zf (.int a),zf (.str (dJ l)),zf (.int (1+y)),zf (.int A)]) (show _=Res.ok (PV.fz (.tuple [.str "layer",.int (1+y)]),_) by ext:0) W #[.Ze (1+y),#[by ext,by ext],W]
  show oP (b:=(decide (1<a)&&decide (A=4))) (ρ1:=[zf (.int c),zf (nd L),zf (.int a),zf (.str (dJ l)),zf (.int (1+y)),zf (.int A)]) (by ext:0) (λq=>?_) (λ_=>fR ?_)
  .rw[WX]at q;let e:=M2 (a7 q.1);show ji (pv:=.fz (mD (.tap l (1+y)))) (ρ1:=[zf (.int c),zf (nd L),zf (.int a),zf (.str (dJ l)),zf (.int (1+y)),zf (.int A)]) (show _=Res.ok (PV.fz (.tuple [.str "tap",.str (dJ l),.int (1+y)]),_) by ext:0) W #[.tap l (1+y),#[i,by ext,by ext],W]
  show oP (b:=(decide (1<a)&&decide (A=5))) (ρ1:=[zf (.int c),zf (nd L),zf (.int a),zf (.str (dJ l)),zf (.int (1+y)),zf (.int A)]) (by ext:0) (λq=>?_) (λ_=>fR ?_)
  .rw[WX]at q;let e:=M2 (a7 q.1);show ji (pv:=.fz (mD (.once (1+y)))) (ρ1:=[zf (.int c),zf (nd L),zf (.int a),zf (.str (dJ l)),zf (.int (1+y)),zf (.int A)]) (show _=Res.ok (PV.fz (.tuple [.str "once",.int (1+y)]),_) by ext:0) W #[.once (1+y),#[by ext,by ext],W]
  show dS (pv:=.fz (mD (.XB l))) (ρ1:=[zf (.int c),zf (nd L),zf (.int a),zf (.str (dJ l)),zf (.int (1+y)),zf (.int A)]) (show _=Res.ok (PV.fz (.tuple [.str "letter",.str (dJ l)]),_) by ext:0) W #[.XB l,i,W]
 let(B,h,m,j,rfl):=f;show#[m,j,h]
structure CsV(l0:G Mn)(cs:G (G Nat×Nat)):Prop where
 vc:∀c∈cs,VC l0 c
 un:cs.Pairwise λa c=>a.1≠c.1
theorem CsV.nil(l0:G Mn):CsV l0 []:=#[λc a=>(by ext a),aaY]
def CsV.add(h:CsV l0 cs)(j:2<=s.length)(f:s.Pairwise (·<·))(i:∀k∈s,pE l0 k=S)(g:l<26)(e:s∉cs.map (·.1)):CsV l0 (cs++[(s,l)]):=by
 show#[λc b=>(X0.mp b).elim (h.vc c) λz=>?_,aei.mpr #[h.un,Yr _ _,λa m c b=>?_]]
 .rw[Xl.mp z];show#[j,f,i,g]
 .rw[Xl.mp b];show λz=>e (Xs.mpr #[a,m,z])
def Rs(a:k<l0.length):∃d,bc (ku l0) (nd k)=-(d)/\∃w,bc d (.int 0)=-(.str w)/\cJ (.str w) (.str "letter")=-(.bool (pE l0 k)):=by
 let e5:pE l0 k=l0[k].isL:=by ext pE;rw[Xm a];rfl
 rw[e5];show#[mD l0[k],QR (by rw[Xg,Xm a];rfl),_,pc _,kj _]
def N3(h:1<=n)(g:n<=5)(j:rs.length<=3)(b:rs[0]?=R l0)(i:VL n rs.length rs)(a:CsV l0 cs)(l:cs.length<=4)(f:1<=w)(e:w<=4):VB #[n,rs,cs,w]:=by
 cases rs with
 |nil=>ext b
 |cons x r=>cases Xj b;show#[h,g,by simp_all,j,i,l,a.vc,a.un,f,e]
def PD(p:bg Int):∃b:Bd,(VB b/\b.n<=2/\b.ls.length<=2/\b.wt<=2)/\gZ [.list (p.map .int),.int 2]=.ok (.fz (bD b)):=by
 let(g,e0):=iw p 0 ();let d1:=cM g (s:=1) (m:=2) () () ();let b1:=fF (x:=g) (s:=1) (m:=2) ();generalize sA g 1 2=r1 at d1 b1;let d2:=cM g (s:=2) (m:=2) () () ();let b2:=fF (x:=g) (s:=2) (m:=2) ();generalize sA g 2 2=r2 at d2 b2;let G:=cM g (s:=23) (m:=2) () () ();let b23:=fF (x:=g) (s:=23) (m:=2) ();generalize sA g 23 2=r23 at G b23;let I:=cM g (s:=17) (m:=3) () () ();generalize sA g 17 3=r17 at I;let H:=cM g (s:=19) (m:=3) () () ();let C:=fF (x:=g) (s:=19) (m:=3) ();generalize sA g 19 3=r19 at H C;let(E,Y,elc):=qN (z:= "abd") [0,1,3] (by left) (by left) () C.1 (show r19<3 from C.2);obtain⟨n,hn⟩:∃n:Nat,1+r1=(n:Int):=#[(1+r1).toNat,by ext];obtain⟨nl,S⟩:∃n:Nat,1+r2=(n:Int):=#[(1+r2).toNat,by ext];let rgn:kJ [.int (1+r1)]=cL (aY (Xn n)):=by rw[hn];show pO ()
 let rgl:kJ [.int (1+r2)]=cL (aY (Xn nl)):=by rw[S];show pO ()
 let R:∃rv,fA 10 fE [.list (p.map .int),.int 2]=.ok rv/\∃b:Bd,(VB b/\b.n<=2/\b.ls.length<=2/\b.wt<=2)/\rv=.fz (bD b):=by
  show lO (T:=λrv=>∃b:Bd,(VB b/\b.n<=2/\b.ls.length<=2/\b.wt<=2)/\rv=.fz (bD b)) (ρ:=[zf (.list (p.map .int)),zf (.int 2),Ld,Ld,Ld,Ld,Ld,Ld,Ld,Ld]) W ?_;ext fE;show cx (ρ3:=[zf (.list (p.map .int)),zf (.int 2),zf (.int g),Ld,Ld,Ld,Ld,Ld,Ld,Ld]) (by ext:0) W W ?_;show cx (ρ3:=[zf (.list (p.map .int)),zf (.int 2),zf (.int g),zf (.int (1+r1)),Ld,Ld,Ld,Ld,Ld,Ld]) (by ext:0) W W ?_;show cx (ρ3:=[zf (.list (p.map .int)),zf (.int 2),zf (.int g),zf (.int (1+r1)),zf (.int (1+r2)),Ld,Ld,Ld,Ld,Ld]) (by ext:0) W W ?_;show cx (ρ3:=[zf (.list (p.map .int)),zf (.int 2),zf (.int g),zf (.int (1+r1)),zf (.int (1+r2)),zo [],Ld,Ld,Ld,Ld]) (by ext:0) W W ?_;show D3 (λi ρ=>∃(e:bg (bg Mn)) (A v:bt PV),e.length=i/\VL (1+r1) (1+r2) e/\ρ=[zf (.list (p.map .int)),zf (.int 2),zf (.int g),zf (.int (1+r1)),zf (.int (1+r2)),zo (e.map ku),A,v,Ld,Ld]) (ds:=aY (Xn nl)) (ρ1:=[zf (.list (p.map .int)),zf (.int 2),zf (.int g),zf (.int (1+r1)),zf (.int (1+r2)),zo [],Ld,Ld,Ld,Ld]) (by ext:0) #[[],Ld,Ld,W,(λj r h=>by ext h),W] ?_ ?_
  .rintro i d ρ hi ⟨e,A,v,M,K,rfl⟩
   let(L,hL,rfl):=pT hi;let(rfl,hin):=EL hL;show#[[zf (.list (p.map .int)),zf (.int 2),zf (.int g),zf (.int (1+r1)),zf (.int (1+r2)),zo (e.map ku),zf (nd L),v,Ld,Ld],W,?_];let mu:iE (.int (1+r1)) (nd L)=-(.int ((1+r1)*L)):=Vx #[by ext,by ext];let(xs,c1,c2,c3):=jW (gt:=gN 0) (ft:=cQ) (fe:=bZ a8 2 {ad 1,aB bP (aB bP (~~~1) (aB iE (ad 2) (ad 3))) (ad 0)}) (ds:=aY (Xn n)) (ρ:=[Ld,-(.list (p.map .int)),-(.int (1+r1)),-(nd L)]) (λρ=>∃o,ρ=[o,-(.list (p.map .int)),-(.int (1+r1)),-(nd L)]) (λ_ x=>∃a:Int,x=.int a/\True) #[Ld,W] (by rw[di,XU];ext) (by rintro j d u ρ ⟨o,rfl⟩;let(k,hk,rfl):=pT u;let(c,ec):=iw p (1+(1+r1)*L+k) (by let:=Int.mul_nonneg (show 0<=1+r1 by ext) (show(0:Int)<=L by ext);ext);show#[.int c,_,wk (ρ1:=[-(nd k),-(.list (p.map .int)),-(.int (1+r1)),-(nd L)]) W W (ce (rv:=.fz (.int c)) (ds:=[.list (p.map .int),.int (1+(1+r1)*L+k)]) (ah (af W) (ah (aD (rv:=.fz (.int (1+(1+r1)*L+k))) (aD (rv:=.fz (.int (1+(1+r1)*L))) aw (aD (rv:=.fz (.int ((1+r1)*L))) (af W) (af W) W W mu) W W (eV _ _)) (af W) W W (eV _ _)) av)) W W ec) W W,#[_,W],c,W,trivial]);let(cs,rfl,_):=kF (f:=Xa.int) (Q:=λ_ (_:Int)=>True) xs 0 c3;rw[di,XU,W0]at c2;show cx (pv:=.ow (cs.map .int)) (ρ3:=[zf (.list (p.map .int)),zf (.int 2),zf (.int g),zf (.int (1+r1)),zf (.int (1+r2)),zo (e.map ku),zf (nd L),zo (cs.map .int),Ld,Ld]) (cW (cs:=[.list (p.map .int),.int (1+r1),nd L]) (ds:=aY (Xn n)) (by ext:0) W c1) W W ?_;let(ys,c4,c5,c6):=jW (gt:=gN 0) (ft:=cQ) (fe:=bZ dz 3 {ad 0,ad 1,ad 2}) (ds:=cs.map .int) (ρ:=[Ld,-(nd L),-(.int (1+r2))]) (λρ=>∃o,ρ=[o,-(nd L),-(.int (1+r2))]) (λ_ x=>∃a:Mn,x=mD a/\VM L (1+r2) a) #[Ld,W] (by rw[W0];ext) (by
    rintro j d u ρ ⟨o,rfl⟩;obtain⟨c,rfl⟩:∃c:Int,d=.int c:=by
     rw[Xg]at u;cases q:cs[j]? with
     |none=>rw[q]at u;ext u
     |some x=>rw[q]at u;show#[x,(Xj u).symm]
    let(m,N,em):=K4 c L (1+r2) ();show#[mD m,_,wk (ρ1:=[-(.int c),-(nd L),-(.int (1+r2))]) W W (ce (rv:=.fz (mD m)) (ds:=[.int c,nd L,.int (1+r2)]) (ah (af W) (ah (af W) (ah (af W) av))) W W em) W W,#[_,W],m,W,N])
   let(y,rfl,q6):=kF (f:=mD) (Q:=λ_ a=>VM L (1+r2) a) ys 0 c6;rw[W0,W0]at c5;let P:lR [.list (y.map mD)]=-(ku y):=W;let X:(e.map ku).length<1000000:=by rw[W0];ext
   show Bg (pv:=.fz .none) (ρ1:=[zf (.list (p.map .int)),zf (.int 2),zf (.int g),zf (.int (1+r1)),zf (.int (1+r2)),zo (e.map ku++[ku y]),zf (nd L),zf (.list (cs.map .int)),Ld,Ld]) (Hq (pa:=.fz (ku y)) (d:=ku y) W (gq (rv:=.fz (ku y)) (ds:=[.list (y.map mD)]) (ah (cW (cs:=[nd L,.int (1+r2)]) (ds:=cs.map .int) (gH (lf W) W W) W c4) av) W P) W W X W) #[e++[y],_,_,by rw[Xf,M];rfl,Kc K () (λm hm=>?_),by rw[XM];rfl];let(t,ht):=Ya.mp hm;rw[M];show q6 t m ht
  .rintro ρ ⟨e,A,v,M,K,rfl⟩
   rw[di,XU]at M;obtain⟨l0,Z⟩:∃l0,e[0]?=cL l0:=#[_,Xm (show 0<e.length by ext)];let hl0:=(K 0 l0 Z).1;let i0:bc (.list (e.map ku)) (.int 0)=-(ku l0):=JD () (by show(e.map ku)[0]?=_;rw[Xg,Z];rfl);let J:jE (cU (gN 0) (az (aB cJ (aB bc (aB bc (aB bc (ad 1) (~~~0)) (ad 0)) (~~~0)) (pC (.str "letter")))) (ad 0) (aY (Xn n)) [Ld,-(.list (e.map ku))] [])=.ok (((Xn n).filter (pE l0)).map nd):=vR nd nd (pE l0) (Xn n) (by rw[XU];ext) W (λj u=>by let(d,e1,w,e2,e3):=Rs (l0:=l0) (k:=j) (by let:=Zc.mp u;ext);show bh (aD (aD (aD (aD (rv:=.fz (ku l0)) (af W) aw W W i0) (af W) W W e1) aw W W e2) aw W W e3) W) λj _ _=>af W;let sp:((Xn n).filter (pE l0)).Pairwise (·<·):=ah6 _ adz;let sm:∀j∈(Xn n).filter (pE l0),pE l0 j=WZ:=λj u=>(YO.mp u).2;let sl:((Xn n).filter (pE l0)).length<=2:=by let:=Z2 (pE l0) (Xn n);rw[XU]at this;ext
   generalize (Xn n).filter (pE l0)=s at J sp sm sl;let O:lR [.list (s.map nd)]=-(.tuple (aY s)):=W;show cx (ρ3:=[zf (.list (p.map .int)),zf (.int 2),zf (.int g),zf (.int (1+r1)),zf (.int (1+r2)),zf (.list (e.map ku)),A,v,zf (.tuple (aY s)),Ld]) (gq (rv:=.fz (.tuple (aY s))) (ds:=[.list (s.map nd)]) (ah (cW (cs:=[.list (e.map ku)]) (ds:=aY (Xn n)) (by ext:0) W J) av) W O) W W ?_;show cx (ρ3:=[zf (.list (p.map .int)),zf (.int 2),zf (.int g),zf (.int (1+r1)),zf (.int (1+r2)),zf (.list (e.map ku)),A,v,zf (.tuple (aY s)),zf (.tuple [])]) (bq (ds:=[]) av W (W5 W)) W W ?_;let F:∀cs:bg (bg Nat×Nat),CsV l0 cs->cs.length<=4->Go (dH (aV {ad 3,g9 lR {ad 5},ad 9,aB bP (~~~1) (bZ aF 3 {ad 2,~~~23,~~~2})}) [zf (.list (p.map .int)),zf (.int 2),zf (.int g),zf (.int (1+r1)),zf (.int (1+r2)),zf (.list (e.map ku)),A,v,zf (.tuple (aY s)),zf (.tuple (cs.map cj))]) (λ_=>∃b:Bd,(VB b/\b.n<=2/\b.ls.length<=2/\b.wt<=2)/\RV.fz .none=.fz (bD b)) (λ_=>False) (λrv=>∃b:Bd,(VB b/\b.n<=2/\b.ls.length<=2/\b.wt<=2)/\rv=.fz (bD b)):=λcs N v2=>by let P:lR [.list (e.map ku)]=-(.tuple (e.map ku)):=W;show dS (pv:=.fz (bD #[1+r1,e,cs,1+r23])) (rv:=.fz (bD #[1+r1,e,cs,1+r23])) (bq (ds:=[.int (1+r1),.tuple (e.map ku),.tuple (cs.map cj),.int (1+r23)]) (ah (af W) (ah (gq (rv:=.fz (.tuple (e.map ku))) (ds:=[.list (e.map ku)]) (ah (af W) av) W P) (ah (af W) (ah (aD (rv:=.fz (.int (1+r23))) aw (ce (rv:=.fz (.int r23)) (ds:=[.int g,.int 23,.int 2]) (ah (af W) (ah aw (ah aw av))) W W G) W W (eV _ _)) av)))) W (W5 W)) W #[#[1+r1,e,cs,1+r23],#[N3 () () () Z (by rw[show((e.length:Nat):Int)=1+r2 by ext];show K) N v2 () (),by show 1+r1<=2;ext,by show e.length<=2;ext,by show 1+r23<=2;ext],W]
   let U:dY [.tuple (aY s)]=-(nd s.length):=(jG _).trans (by rw[di]);show oP (b:=decide ((1:Int)<s.length)&&decide (0<r17)) (AX (bh (aD (rv:=.fz (.bool (decide ((1:Int)<s.length)))) (gq (rv:=.fz (nd s.length)) (ah (af W) av) W U) aw W W (xI _ _)) W) λ_=>bh (aD (rv:=.fz (.bool (decide (0<r17)))) (ce (rv:=.fz (.int r17)) (ds:=[.int g,.int 17,.int 3]) (ah (af W) (ah aw (ah aw av))) W W I) aw W W (xI _ _)) W) (λq=>?_) (λ_=>fR (F [] (CsV.nil _) (XY _)));rw[WX]at q;let q1:=a7 q.1;let s2:s.length=2:=by ext
   let cut:UK (.tuple (aY s)) Ld (cL 2)=-(.tuple (aY s)):=by show cL (RV.fz (.tuple (nF (aY s) Ld (cL ((2:Nat):Int)))))=_;ext nF;rw[HT.sIx_nat,HT.sIx_none,di,s2,Nat.min_self,acH,adM,aaS (by rw[di,s2];show Xd _)]
   show cx (ρ3:=[zf (.list (p.map .int)),zf (.int 2),zf (.int g),zf (.int (1+r1)),zf (.int (1+r2)),zf (.list (e.map ku)),A,v,zf (.tuple (aY s)),zf (.tuple ([(s,E)].map cj))]) (bq (ds:=[cj (s,E)]) (ah (bq (ds:=[.tuple (aY s),.str (dJ E)]) (ah (xp (rv:=.fz (.tuple (aY s))) (af W) ri (gW aw W) W cut) (ah (aD (rv:=.fz (.str (dJ E))) aw (ce (rv:=.fz (.int r19)) (ds:=[.int g,.int 19,.int 3]) (ah (af W) (ah aw (ah aw av))) W W H) W W elc) av)) W (W5 W)) av) W (W5 W)) W W ?_;show F [(s,E)] (by let:=(CsV.nil l0).add (s:=s) (l:=E) () sp sm Y (λz=>by ext z);show this) (by show 1<=4;decide)
 let(rv,h,b,B,rfl):=R;show#[b,B,h]
def TL{a:G Nat}(h:k<a.length):pE (a.map .XB) k=S:=by ext pE;rw[Xg,Xm h];rfl
def Fk(r:bg Int):∃(b:Bd) (K:bg Nat) (x:Nat),VB b/\b.n=3/\b.ls.length<=2/\b.wt<=2/\(∀k:Nat,(k:Int)<b.n->pE (b.ls.headD []) k=WZ)/\b.cs=[(K,x)]/\K.length=2/\dM [.list (r.map .int)]=.ok (.fz (bD b)):=by
 let(f,e0):=iw r 0 ();let v:=cM f (s:=29) (m:=3) () () ();let C:=fF (x:=f) (s:=29) (m:=3) ();generalize sA f 29 3=n at v C;let y:=cM f (s:=19) (m:=3) () () ();let p:=fF (x:=f) (s:=19) (m:=3) ();generalize sA f 19 3=r19 at y p;let w:=cM f (s:=23) (m:=2) () () ();let E:=fF (x:=f) (s:=23) (m:=2) ();generalize sA f 23 2=X at w E;let(x,I,M):=qN (z:= "abd") [0,1,3] (by left) (by left) () p.1 (show r19<3 from p.2);let(xs,T,S,R):=jW (gt:=gN 0) (ft:=cQ) (fe:=aV {pC (.str "letter"),aB L3.iZ (pC (.str "abc")) (bZ aF 3 {bZ a8 2 {ad 1,aB bP (~~~1) (ad 0)},~~~5,~~~3})}) (ds:=aY (Xn 3)) (λρ=>∃o,ρ=[o,-(.list (r.map .int))]) (λ_ x=>∃a:Nat,x=mD (.XB a)/\a<26) #[Ld,W] () (by rintro j d L ρ ⟨o,rfl⟩;let(k,u,rfl):=pT L;let(c,P):=iw r (1+k) ();let dd:=cM c (s:=5) (m:=3) () () ();let B:=fF (x:=c) (s:=5) (m:=3) ();generalize sA c 5 3=a at dd B;let(l,g,N):=qN (z:= "abc") [0,1,2] (by left) (by left) () B.1 (show a<3 from B.2);show#[mD (.XB l),_,wk W W (bq (ah aw (ah (aD aw (ce (ah (ce (ah (af W) (ah (aD aw (af W) W W (eV _ _)) av)) W W P) (ah aw (ah aw av))) W W dd) W W N) av)) W (W5 W)) W W,#[_,W],l,W,g]);let(e,rfl,q):=kF (Q:=λ_ (a:Nat)=>a<26) xs 0 R;rw[W0,di,XU]at S;obtain⟨K,U,H,k3,O⟩:∃K:bg Nat,K.length=2/\K.Pairwise (·<·)/\(∀k∈K,k<3)/\bc (.list [.tuple [.int 0,.int 1],.tuple [.int 0,.int 2],.tuple [.int 1,.int 2]]) (.int n)=-(.tuple (aY K)):=by
  let:n=0\/n=1\/n=2:=by ext
  rcases this with rfl|rfl|rfl
  .show#[[0,1],W,by decide,by decide,JD () W]
  .show#[[0,2],W,by decide,by decide,JD () W]
  .show#[[1,2],W,by decide,by decide,JD () W]
 let ok:∀k,k<3->pE (e.map .XB) k=WZ:=λk h=>TL ();let F:VL 3 1 [e.map .XB]:=λi l g=>by
  match i,g with
  |0,g=>ext g;show#[by rw[W0];ext,λm hm=>?_];let(a,ha,rfl):=Xs.mp hm;let(t,J):=Ya.mp ha;show q t a J
  |i+1,g=>ext g
 let cs:=(CsV.nil (e.map .XB)).add () H (λk u=>ok k (k3 k u)) I (λz=>by ext z);show#[#[3,[e.map .XB],[(K,x)],1+X],K,x,N3 () () (show 1<=3 by decide) W F cs (by show 1<=4;decide) () (),W,by show 1<=2;decide,by show 1+X<=2;ext,λk u=>ok k (by let u:(k:Int)<3:=u;ext),W,U,?_];let G:lR [.list (e.map λa=>mD (.XB a))]=-(ku (e.map .XB)):=by show cL (RV.fz (.tuple (e.map λa=>mD (.XB a))))=cL (RV.fz (.tuple ((e.map Mn.XB).map mD)));rw[XI];rfl
 let A:∃Y,fA 4 eX [.list (r.map .int)]=.ok Y/\Y=.fz (bD #[3,[e.map .XB],[(K,x)],1+X]):=by show lO W ?_;show cx (by ext:0) W W ?_;show cx (cW (cs:=[.list (r.map .int)]) (by ext:0) W T) W W ?_;show cx (aD (lh (ah (bq (ah aw (ah aw av)) W (W5 W)) (ah (bq (ah aw (ah aw av)) W (W5 W)) (ah (bq (ah aw (ah aw av)) W (W5 W)) av))) W (W5 W)) (ce (ah (af W) (ah aw (ah aw av))) W W v) W W O) W W ?_;show dS (bq (ah aw (ah (bq (ah (gq (ah (lf W) av) W G) av) W (W5 W)) (ah (bq (ah (bq (ah (af W) (ah (aD aw (ce (ah (af W) (ah aw (ah aw av))) W W y) W W M) av)) W (W5 W)) av) W (W5 W)) (ah (aD aw (ce (ah (af W) (ah aw (ah aw av))) W W w) W W (eV _ _)) av)))) W (W5 W)) W W
 let(Y,h,rfl):=A;show h
def JR(e:bg Int):∃w:bg Nat,(∀c∈w,c<26)/\w.length<=2/\hJ [.list (e.map .int)]=.ok (.fz (.str (dr w))):=by
 let(l,e9):=iw e 9 ();let E:=cM l (s:=131) (m:=3) () () ();let L:=fF (x:=l) (s:=131) (m:=3) ();generalize sA l 131 3=r at E L;obtain⟨n,Y⟩:∃n:Nat,r=(n:Int):=#[r.toNat,by ext];let M:kJ [.int r]=R (aY (Xn n)):=by rw[Y];show pO ()
 let(xs,K,J,I):=jW (gt:=gN 0) (ft:=cQ) (fe:=bZ aF 3 {bZ a8 2 {ad 1,aB bP (~~~10) (ad 0)},~~~127,~~~7}) (ds:=aY (Xn n)) (λT=>∃o,T=[o,-(.list (e.map .int))]) (λ_ x=>∃a:Int,x=.int a/\(0<=a/\a<7)) #[P,W] (by rw[di,XU];ext) (by rintro j d b T ⟨o,rfl⟩;let(k,N,rfl):=pT b;let(c,i):=iw e (10+k) ();let dd:=cM c (s:=127) (m:=7) () () ();let v:=fF (x:=c) (s:=127) (m:=7) ();generalize sA c 127 7=a at dd v;show#[.int a,_,wk W W (ce (ah (ce (ah (af W) (ah (aD aw (af W) W W (eV _ _)) av)) W W i) (ah aw (ah aw av))) W W dd) W W,#[_,W],a,W,v]);let(u,rfl,q):=kF (Q:=λ_ (a:Int)=>0<=a/\a<7) xs 0 I;rw[di,XU,W0]at J;let(y,H,G,F):=jW (gt:=gN 0) (ft:=cQ) (fe:=aB L3.iZ (pC (.str "aabbcdz")) (ad 0)) (ds:=u.map .int) (λT=>∃o,T=[o]) (λ_ x=>∃a:Nat,x=.str (dJ a)/\a<26) #[P,W] (by rw[W0];ext) (by
  rintro j d b T ⟨o,rfl⟩;rw[Xg]at b;cases z:u[j]? with
  |none=>rw[z]at b;ext b
  |some a=>rw[z]at b;cases Xj b;let p:=q j a z;let(c,g,i):=qN (z:= "aabbcdz") [0,0,1,1,2,3,25] (by left) (by left) () p.1 (show a<7 from p.2);show#[.str (dJ c),_,wk W W (aD aw (af W) W W i) W W,#[_,W],c,W,g])
 let(w,rfl,A):=kF (Q:=λ_ (a:Nat)=>a<26) y 0 F;rw[W0,W0]at G;let B:=z9 (w:=w) ();show#[w,λc g=>?_,by ext,?_]
 .let(t,C):=Ya.mp g;show A t c C
 let f:∃X,fA 3 gc [.list (e.map .int)]=.ok X/\X=.fz (.str (dr w)):=by show lO W ?_;show cx (by ext:0) W W ?_;show cx (cW (by ext:0) W K) W W ?_;show dS (MX aw W (ah (cW (gH (lf W) W W) W H) av) W B) W W
 let(X,h,rfl):=f;show h
def RU:G Y0->G TP
 |[]=>[]
 |s::r=>(s,0)::(s,1)::(s,2)::RU r
theorem Bx:∀l:G Y0,(RU l).length=3*l.length
 |[]=>rfl
 |s::r=>by show(RU r).length+3=3*(r.length+1);rw[Bx r];ext
theorem BV(hd:d<=2):∀{l:G Y0},s∈l->(s,d)∈RU l
 |[],h=>by ext h
 |a::r,h=>by
  rcases Xt.mp h with rfl|h
  .let:d=0\/d=1\/d=2:=by ext
   rcases this with rfl|rfl|rfl<;>simp[RU]
  .let:=BV hd h;simp only[RU,Xt];show .inr (.inr (.inr this))
def OT(B:TC b w es)(r:w.length<=2)(j:∃(l:G Y0) (I:Y0->Prop),l.length<=128/\I vI/\(∀s,I s->SW b s/\s∈l)/\∀s e,I s->EV b e->I (bJ b s e).1){l:G TP}(f:l.Nodup)(g:∀p∈l,∃k,RT b w es k p):l.length<=384:=by
 let(m,I,t,q,o,n):=j;let:=g7 f λp h=>by let(k,a):=g p h;let i:=(o _ (a.inv B q n)).2;let:=(B.rw a).2;show BV () i
 rw[Bx]at this;ext
def G6(f:G Int):∃b:Bd,VB b/\b.n<=3/\(∃(l:G Y0) (I:Y0->Prop),l.length<=128/\I vI/\(∀s,I s->SW b s/\s∈l)/\∀s e,I s->EV b e->I (bJ b s e).1)/\dM [.list (f.map .int)]=.ok (.fz (bD b)):=by let(b,K,x,a,m,o,g,h,i,j,e):=Fk f;show#[b,a,by ext,Vj a () g h i j,e]
def Cz(f:G Int):∃b:Bd,VB b/\b.n<=3/\(∃(l:G Y0) (I:Y0->Prop),l.length<=128/\I vI/\(∀s,I s->SW b s/\s∈l)/\∀s e,I s->EV b e->I (bJ b s e).1)/\gZ [.list (f.map .int),.int 2]=.ok (.fz (bD b)):=by let(b,(a,h,i,g),e):=PD f;let(m,I,o,j):=few a h i g;show#[b,a,by ext,#[m,I,by ext,j],e]
theorem y4(B:TC b w es)(e:TW b w p)(a:TW b w q):Xa.eqv (kT p) (kT q)=S↔p=q:=
 #[λh=>EA B e a (LD.kd_eqv _ _ (LD.keyD_kd (g8 e)).1 (LD.keyD_kd (g8 a)).1 h),λh=>by rw[h];show uO (g8 a)]
abbrev kv(l:G (TP×D)):G (D×D):=l.map λx=>(kT x.1,x.2)
section
variable{b:Bd}{w:bg Nat}{es:bg Evn}{p:TP}{l:bg (TP×D)}{d:D}
theorem FU(B:TC b w es)(f:TW b w p):∀{l:G (TP×D)},(∀x∈l,TW b w x.1)->(∀x∈l,x.1≠p)->(kv l).find? (λy=>Xa.eqv y.1 (kT p))=P
 |[],_,_=>rfl
 |x::r,g,h=>by let e:=abS.mpr λz=>h x W8 ((y4 B (g x W8) f).mp z);show ajc _ ((kT x.1,x.2)::kv r)=_;rw[XW];rw[e];show FU B f (λy a=>g y (Xb _ a)) λy a=>h y (Xb _ a)
def MG(B:TC b w es)(a:TW b w p)(e:∀x∈l,TW b w x.1)(h:∀x∈l,x.1≠p):dC (kv l) (kT p)=P:=by ext dC;rw[FU B a e h];rfl
theorem pL(B:TC b w es):∀{l:G (TP×D)},(∀x∈l,TW b w x.1)->(l.map (·.1)).Nodup->∀x∈l,dC (kv l) (kT x.1)=R x.2
 |y::r,e,g,x,f=>by
  let g:=Yv.mp g;show ahl _ (ajc _ ((kT y.1,y.2)::kv r))=_;rw[XW];rcases Xt.mp f with rfl|h
  .rw[(y4 B (e x f) (e x f)).mpr W];rfl
  .rw[show Xa.eqv (kT y.1) (kT x.1)=U from abS.mpr λz=>g.1 (by show y.1∈_;rw[(y4 B (e y W8) (e x f)).mp z];show ZK h)];show pL B (λy a=>e y (Xb _ a)) g.2 x h
def Iz(B:TC b w es)(a:TW b w p)(e:∀x∈l,TW b w x.1)(h:∀x∈l,x.1≠p):gA (kv l) (kT p) d=kv (l++[(p,d)]):=by ext gA;rw[FU B a e h];show kv l++[(kT p,d)]=_;ext kv;rw[XM];rfl
def QU(hd:∀x∈l,x.2=d)(h:(kv l).find? (λy=>Xa.eqv y.1 (kT p))≠P):gA (kv l) (kT p) d=kv l:=by ext gA;rw[ax (Option.isSome_iff_ne_none.mpr h),XI];show ZJ λx a=>?_;show(if _ then(kT x.1,d)else(kT x.1,x.2))=_;rw[hd x a];split<;>rfl
end
section
variable{Q:aP}{C Y:aK}{i:Nat}{L:bg D}{X:Xc->Prop}
def Ma(I:Nat->aP->aK->Prop)(hd:fd Q C=.ok (.rf i) Y)(e:Y[i]?=R (.lst (L.map .fz)))(g:I 0 Q (Y.set i .dead))(a:∀k d Q C,L[k]?=R d->I k Q C->∃l Y,gt (.fz d) Q C=.ok l Y/\lV (b l Y) (I (k+1)) (λ_ _=>False) X)(f:∀m c,I L.length m c->N m (c.set i (.lst (L.map .fz)))):lV (LD.forLS fd gt b Q C) N T X:=by
 let h:=pV I L 0 Q (Y.set i .dead) g (by simpa using a);rw[ZG]at h;ext LD.forLS;rw[hd,d5,show LD.lstI Y (.rf i)=R (i,L.map .fz) by ext LD.lstI;dsimp only;rw[e]];show lV ((RS.X5 Y (aA vx (L.map .fz))).bind _) _ _ _;rw[ka];show lV ((fW gt b L Q (Y.set i .dead)).bind _) _ _ _;show Out.bind (h.imp λj o k=>?_);cases j with
 |nx r=>show#[f r o k]
 |ct r=>show k.elim
 |rt v=>show k.elim
 |bk r=>show k.elim
end
def mO(fs:G Te):G (TP×D):=fs.map λq=>(q.p,nd q.d)
theorem PH(q:Te):M0 (tV q) P (R 2)=-(kT q.p):=W
abbrev EP(i:Nat)(w:G Nat)(r:aP):aP:=R (.rf i)::-(.str (dr w))::r
def ES{l:aK}(h:l[i]?=R c):(l.set i .dead).set i c=l:=by
 rw[List.set_set];show List.ext_getElem? λj=>?_;rw[Yi];split
 .rename_i e;subst e;rw[h,ax (W2.mp h).1]
 .rfl
theorem vO(B:TC b w es)(g:BT b w es fs n)(f:∀q∈l,q∈fs):∀x∈mO l,TW b w x.1:=λx a=>by let(q,e,rfl):=Xs.mp a;show B.rw (g.rw q (f q e))
def HX(h:(fs.map (·.p)).Nodup):((mO fs).map (·.1)).Nodup:=by ext mO;rw[XI];show h
def tX(B:TC b w es)(m:BT b w es fs n)(O:fs.length<=1000)(c:ω[i]?=R (.lst ((fs.map tV).map .fz))):dg [.rf i,.fz (.str (dr w))] ω=.ok (.rf ω.length) (ω++[.dd (kv (mO fs))]):=by
 let H:=(W2.mp c).1;let A:Out (dg [.rf i,.fz (.str (dr w))] ω) (λv o=>v=.rf ω.length/\o=ω++[.dd (kv (mO fs))]) (λ_=>False):=by
  show qK W ?_;show cy W W ?_;show cy (ag aw) W ?_;let C:(ω++[Cell.dd []])[i]?=R (.lst ((fs.map tV).map .fz)):=(Xe H).trans c;show jM (Ma (λk Q f=>∃(a:Nat) (y:bt SV),(∀q,fs[k]?=R q->a<=q.d)/\Q=EP i w [R (.rf ω.length),-(nd a),y]/\f=(ω++[Cell.dd (kv (mO (fs.take k)))]).set i .dead) (aO W) C #[0,P,λ_ _=>XY _,W,W] ?_ ?_)
  .rintro k d Q f l ⟨a,y,T,rfl,rfl⟩
   rw[Xg]at l;cases z:fs[k]? with
   |none=>rw[z]at l;ext l
   |some q=>
    rw[z]at l;cases Xj l;let N:=T q z;show#[EP i w [R (.rf ω.length),-(nd a),-(tV q)],_,W,?_];let sub:∀r∈fs.take k,r∈fs:=λr g=>abg g;let u:=B.rw (m.rw q (XF z));let new:∀x∈mO (fs.take k),x.1≠q.p:=λx M e=>by
     let(r,g,rfl):=Xs.mp M;let(j,t):=Ya.mp g;let L:j<k:=by let:=(W2.mp t).1;rw[Yb]at this;ext
     rw[aaD L]at t;let:j=k:=(abQ (show j<(fs.map (·.p)).length by rw[W0];show(W2.mp t).1) m.un).mp (by rw[Xg,Xg,t,z];show dw R e);ext
    let I:((ω++[Cell.dd (kv (mO (fs.take k)))]).set i .dead)[ω.length]?=R (.dd (kv (mO (fs.take k)))):=by rw[XD ()];show YW
    let G:gz (.fz (kT q.p))=R (kT q.p):=ax (g8 u);let ct:∀{o:bt SV} {F:bt SV} {ω:aK} {j:Nat},ae (DF M0 (ad 4) oG (gR (~~~2))) (EP i w [R (.rf j),F,-(tV q)]) ω=.ok (.fz (kT q.p)) ω:=λ{o F ω j}=>ag (xp (af W) ri (gW aw W) W (PH q));let E:=aH (Av (neg:=U) (fd:=aq 2) (ρ:=EP i w [R (.rf ω.length),-(nd a),-(tV q)]) (ct (o:=P)) (aO W) G I);rw[MG B u (vO B m sub) new]at E;let K:Pg (nd q.d) (nd a)=-(.bool U):=(nJ _ _).trans (by rw[a6 ()]);show rK (dZ (aX (BX (bh (DP (dx:=tV q) (af W) W W) W))) (dZ (aX (bh (aD (gq (ah (af W) av) W W) aw W W W) W)) (dZ E (aX (bh (aD (aD (af W) aw W W nI) (af W) W W K) W))))) (mG ?_);show cy (ag (aD (af W) aw W W nI)) W ?_;show zb (rP (ag (aD (af W) aw W W nI)) (aO W) (ct (o:=P)) G I (by ext mO;rw[W0,W0,Yb];ext)) #[q.d,_,λr g=>?_,W,?_]
    .show acQ.mp m.mo k (k+1) (W2.mp z).1 (W2.mp g).1 (ZF _)|>λh=>by rw[(W2.mp z).2,(W2.mp g).2]at h;show h
    .rw[Iz B u (vO B m sub) new,List.set_comm _ _ (show i≠ω.length by ext),show mO (fs.take k)++[(q.p,nd q.d)]=mO (fs.take (k+1)) by rw[ZV,z];ext mO;rw[XM];rfl];congr 1;rw[aa6 _ _ (Xd _),abZ];rfl
  .rintro J f ⟨a,y,_,rfl,rfl⟩;rw[W0,Z6,ES ((Xe H).trans c)];show rE (aO W) #[W,W]
 let(v,o,h,rfl,rfl):=A.all;show h
section
variable{ρ:aP}{Q X Y T:aK}{x z:SV}{i:Nat}{d:D}{Z:bg (D×D)}
def B4(hd:fd ρ Q=.ok (.rf i) X)(h:X[i]?=R (.dd agP))(b:o ρ X=.ok x Y)(a:C ρ Y=.ok z T)(g:gz x=R k)(f:T[i]?=R (.dd Z))(e:dC Z k=R d):mW fd o C ρ Q=.ok (.fz d) T:=by ext mW;rw[hd,d5,mZ h];show((o ρ X).bind _)=_;rw[b,d5,a,d5,g];show((RS.X5 T (iz T (.rf i))).bind _)=_;rw[mZ f];show RS.ok (match dC Z k with|some d=>SV.fz d|none=>z) T=_;rw[e]
def wM(hd:fd ρ Q=.ok (.rf i) X)(h:X[i]?=R (.dd Z)):nU fd ρ Q=.ok (.fz (nd Z.length)) X:=by ext nU;rw[hd,d5,mZ h];rfl
def CW(hd:fd ρ Q=.ok (.rf i) X)(h:X[i]?=R (.dd Z)):gB (j8 fd) ρ Q=.ok (Z.map (·.1)) (X++[.dead]):=by
 let:j8 fd ρ Q=.ok (.rf X.length) (X++[.lst ((Z.map (·.1)).map .fz)]):=by ext j8;rw[hd,d5,mZ h,XI];rfl
 rw[uy this YW,aa6 _ _ (Xd _),abZ];rfl
end
def DN(R:G TP):G (TP×D):=R.map λp=>(p,.bool S)
abbrev EC(b:Bd)(w:G Nat)(i r:Nat)(t:aP):aP:=-(bD b)::-(.str (dr w))::R (.rf i)::R (.rf r)::t
structure RR(b:Bd)(w:G Nat)(fs:G Te)(R:G TP)(U:Te->Evn->Prop):Prop where
 nd:R.Nodup
 z:IA∈R
 s:∀p∈R,p∈fs.map (·.p)
 u:∀q e,U q e->∀r∈fs,AQ b w q.p e=cL r.p->r.d=q.d+1->r.p∈R
theorem RR.mono(h:RR b w fs m n)(d:R'.Nodup)(j:∀p∈R',p∈m\/p∈fs.map (·.p))(c:∀p∈m,p∈R')(i:∀q e,U' q e->n q e\/∀r∈fs,AQ b w q.p e=cL r.p->r.d=q.d+1->r.p∈R'):RR b w fs R' U':=
 #[d,c _ h.z,λp l=>(j p l).elim (h.s p) id,λq e z r g f a=>(i q e z).elim (λz=>c _ (h.u q e z r g f a)) λk=>k r g f a]
def om{b:Bd}{n:Nat}(V:b.n=n)(h5:n<=5)(B:TC b w (kA n))(M:BT b w (kA n) fs fs.length)(hl:fs.length<=1000)(D:ω[i]?=cL (.dd (kv (mO fs)))):∃s,dX [.fz (bD b),.fz (.str (dr w)),.rf i] ω=.ok (.fz (.bool WZ)) s/\LX ω s:=by
 let il:=(W2.mp D).1;let te:=QQ V h5;let Y:=λq P=>B.rw (M.rw q P);let pw:=vO B M λ_ h=>h;let pr:∀r∈fs,dC (kv (mO fs)) (kT r.p)=cL (nd r.d):=λr hr=>pL B pw (HX M.un) (r.p,nd r.d) (ZK hr);let key:Out (dX [.fz (bD b),.fz (.str (dr w)),.rf i] ω) (λv o=>v=.fz (.bool WZ)/\LX ω o) (λ_=>False):=by
  show qK W ?_;show cy W W ?_;let g0:∀j,j<ω.length->(ω++[Cell.dd (kv (DN [IA]))])[j]?=ω[j]? :=λj y=>Xe y;let ks:=CW (fd:=aq 2) (ρ:=EC b w i ω.length [Ld,Ld,Ld,Ld,Ld,Ld,Ld]) (aO W) ((g0 i il).trans D);rw[show(kv (mO fs)).map (·.1)=fs.map λq=>kT q.p by ext mO;rw[XI,XI];rfl]at ks;show jM (zg (λk ρ s=>∃(R:bg TP) (o4 o5 Z L F E C:bt SV),RR b w fs R (λq e=>e∈kA n/\∃j,j<k/\fs[j]?=cL q)/\LX ω s/\s[ω.length]?=cL (.dd (kv (DN R)))/\ρ=EC b w i ω.length [o4,o5,Z,L,F,E,C]) ks ?_ ?_ ?_)
  .show#[[IA],Ld,Ld,Ld,Ld,Ld,Ld,Ld,#[Yr _ _,adh _,λp f=>?_,λq e #[_,j,y,_]=>bb y (acC _)],λj y=>?_,?_,W]
   .rw[Xl.mp f];show Xs.mpr #[SX,XF M.z,W]
   .rw[XZ,Xe y]
   .rw[XZ];show wx (t:=0)
  .rintro k d ρ s G ⟨R,o4,o5,Z,L,F,E,C,g,go,N,rfl⟩
   rw[Xg]at G;cases z:fs[k]? with
   |none=>rw[z]at G;ext G
   |some q=>
    rw[z]at G;cases Xj G;let qm:=XF z;let S:=Y q qm;show#[EC b w i ω.length [-(fJ q.p.1),-(nd q.p.2),Z,L,F,E,C],s,W,?_];show cy (p9 (aO W) (ag (bq (ah (af W) (ah (af W) av)) W (W5 W))) (ax (g8 S)) ((go i il).trans D) (pr q qm)) W ?_;show zg (λm ρ s=>∃(R:bg TP) (L F E C:bt SV),RR b w fs R (λA e=>(e∈kA n/\∃j,j<k/\fs[j]?=cL A)\/(A=q/\e∈(kA n).take m))/\LX ω s/\s[ω.length]?=cL (.dd (kv (DN R)))/\ρ=EC b w i ω.length [-(fJ q.p.1),-(nd q.p.2),-(nd q.d),L,F,E,C]) (qB (gH (ce (ah (af W) av) W W te) W W)) #[R,L,F,E,C,g.mono g.nd (λp f=>.inl f) (λp f=>f) (λA e h=>h.elim .inl λh=>by rw[agg]at h;cases h.2),go,N,W] ?_ ?_
    .rintro m d ρ s G ⟨R,L,F,E,C,g,go,N,rfl⟩
     rw[Xg]at G;cases ze:(kA n)[m]? with
     |none=>rw[ze]at G;ext G
     |some e=>
      rw[ze]at G;cases Xj G;let em:=XF ze;let ev:=B.eb e em;let tk:(kA n).take (m+1)=(kA n).take m++[e]:=by rw[ZV,ze];rfl
      show#[EC b w i ω.length [-(fJ q.p.1),-(nd q.p.2),-(nd q.d),-(eR e),F,E,C],s,W,?_];let st:=Bh B.vb S.1 ev (ρ:=EC b w i ω.length [-(fJ q.p.1),-(nd q.p.2),-(nd q.d),-(eR e),F,E,C]) (ω:=s) (fa:=ae (ad 0)) (fb:=ae (ad 4)) (fc:=ae (ad 7)) (ag (af W)) (ag (af W)) (ag (af W));let k1:=Bs B.vb S.1 ev;let k2:=xl B.vb S.1 ev;let dk:=DL B.w26 B.wl (d:=q.p.2) (by let:=S.2;let:=B.wl;ext) k1 ();let l:AQ b w q.p e=(v9 w q.p.2 (bJ b q.p.1 e).2).map λd=>((bJ b q.p.1 e).1,d):=W;show cy st W ?_;generalize bJ b q.p.1 e=u at k1 dk l;let rl:=(W2.mp N).1;let J:∀j,j<ω.length->(s++[Cell.dead])[j]?=ω[j]? :=λj y=>(Xe ()).trans (go j y);let I:(s++[Cell.dead])[ω.length]?=cL (.dd (kv (DN R))):=(Xe rl).trans N;generalize s++[Cell.dead]=s at J I;show cy (ag (ce (ah (af W) (ah (af W) (ah (af W) av))) W W dk)) W ?_;let un:∀{K:bg TP},(∀r∈fs,AQ b w q.p e=cL r.p->r.d=q.d+1->r.p∈K)->∀A e',(e'∈kA n/\∃j,j<k/\fs[j]?=cL A)\/(A=q/\e'∈(kA n).take (m+1))->((e'∈kA n/\∃j,j<k/\fs[j]?=cL A)\/(A=q/\e'∈(kA n).take m))\/∀r∈fs,AQ b w A.p e'=cL r.p->r.d=A.d+1->r.p∈K:=λ{K} h A e' h'=>by
       rcases h' with h'|⟨rfl,h'⟩
       .show .inl (.inl h')
       .rw[tk]at h'
        rcases X0.mp h' with h'|h'
        .show .inl (.inr #[W,h'])
        .rw[Xl.mp h'];show .inr h
      cases qd:v9 w q.p.2 u.2 with
      |none=>rw[qd]at l;show .eq (ez (aX (bh (aD (af W) aw W W W) W)) eF) #[R,_,_,_,_,g.mono g.nd (λp f=>.inl f) (λp f=>f) (un λr _ h=>by rw[l]at h;ext h),J,I,W]
      |some c=>
       rw[qd]at l;let(r,O,rp,rd):=M.dn k q (W2.mp z).1 z e em (u.1,c) l;let T:=l.trans (dw cL rp.symm);show .eq (c7 (aX (bh (aD (af W) aw W W W) W)) W) ?_;let kt:∀{s:aK},ae (aV {ad 9,ad 10}) (EC b w i ω.length [-(fJ q.p.1),-(nd q.p.2),-(nd q.d),-(eR e),-(.list (u.2.map nk)),-(fJ u.1),-(Qg (cL c))]) s=.ok (.fz (kT r.p)) s:=λ{s}=>by rw[rp];show ag (bq (ah (af W) (ah (af W) av)) W (W5 W))
       let ky:gz (.fz (kT r.p))=cL (kT r.p):=ax (g8 (Y r O));let gi:=(J i il).trans D;let p1:∀{a:Nat} {s:aK},ae (aB bP (ad 6) (pC (.int a))) (EC b w i ω.length [-(fJ q.p.1),-(nd q.p.2),-(nd q.d),-(eR e),-(.list (u.2.map nk)),-(fJ u.1),-(Qg (cL c))]) s=.ok (.fz (nd (q.d+a))) s:=λ{a s}=>ag (aD (af W) aw W W (eV (q.d:Int) a));let gt:=(xI (r.d:Int) ((q.d+1:Nat):Int)).trans (by rw[a6 ()]);show rK (aH (b8 (B4 (aO W) gi kt (p1) ky gi (pr r O)) (p1) (bw gt))) (mG ?_);let eqd:cJ (nd r.d) (nd (q.d+1))=-(.bool (decide (r.d=q.d+1))):=yn _ _;let c2:=aH (b8 (p9 (fd:=aq 2) (aO W) kt ky gi (pr r O)) (p1) (bw eqd));by_cases rq:r.d=q.d+1
       .rw[a5 rq]at c2
        let pt:=rP (fd:=aq 3) (fv:=ae (pC (.bool WZ))) (ag aw) (aO W) kt ky I (by ext DN;rw[W0,W0];let:=g7 g.nd g.s;rw[W0]at this;ext);let tr:∀x∈DN R,TW b w x.1:=λx U=>by let(p,f,rfl):=Xs.mp U;let(q,P,rfl):=Xs.mp (g.s p f);show Y q P
        let rl':=(W2.mp I).1;obtain⟨K,e1,e2,e3,e4,e5⟩:∃K:bg TP,gA (kv (DN R)) (kT r.p) (.bool WZ)=kv (DN K)/\K.Nodup/\(∀p∈K,p∈R\/p∈fs.map (·.p))/\(∀p∈R,p∈K)/\r.p∈K:=by
         by_cases mr:r.p∈R
         .show#[R,QU (λx U=>?_) λh=>?_,g.nd,λp f=>.inl f,λp f=>f,mr]
          .let(p,_,rfl):=Xs.mp U;rfl
          .let:=pL B tr (by ext DN;rw[XI];show(ah0 R).symm▸g.nd) (r.p,.bool WZ) (ZK mr);unfold dC at this;rw[h]at this;ext this
         .show#[R++[r.p],(Iz B (Y r O) tr λx U e=>?_).trans (by ext DN;rw[XM];rfl),Zu.mpr #[g.nd,Yr _ _,λa ha c hc e=>?_],λp f=>?_,λp f=>Yd _ f,XG _ (adh _)]
          .let(p,f,rfl):=Xs.mp U;show mr (e▸f)
          .rw[Xl.mp hc]at e;show mr (e▸ha)
          .rcases X0.mp f with h|h
           .show .inl h
           .rw[Xl.mp h];show .inr (ZK O)
        rw[e1]at pt;show .eq (c7 c2 pt) #[K,_,_,_,_,g.mono e2 e3 e4 (un λr' Q H _=>by rw[T]at H;rw[<-Xj H];show e5),λj y=>by rw[XD ()];show J j y,Ye rl',W]
       .rw[a6 rq]at c2;show .eq (ez c2 eF) #[R,_,_,_,_,g.mono g.nd (λp f=>.inl f) (λp f=>f) (un λr' Q H X=>by rw[T]at H;let:=M.uniq O Q (Xj H);subst this;show bb X rq),J,I,W]
    .rintro ρ' s ⟨R,L,F,E,C,g,go,N,rfl⟩
     show#[R,_,_,_,_,_,_,_,g.mono g.nd (λp f=>.inl f) (λp f=>f) (λA e #[Q,j,H,X]=>.inl ?_),go,N,W];rcases Nat.lt_or_ge j k with h|h
     .show .inl #[Q,j,h,X]
     .let:j=k:=by ext
      subst this;rw[z]at X;ext X;show .inr #[W,by rw[W0,Z6];show Q]
  .rintro ρ' s ⟨R,o4,o5,Z,L,F,E,C,g,go,N,rfl⟩
   let l1:=g7 g.nd g.s;let l2:=g7 M.un λp f=>by
    let(q,P,rfl):=Xs.mp f;let(j,y):=Ya.mp P;by_cases j0:j=0
    .subst j0;rw[M.z]at y;ext y;show g.z
    .let(m,r,Q,H,_,h4,e,_,h6,h7):=M.bk j q y ();show g.u r e #[h6,m,by rw[W0];show(W2.mp H).1,H] q P h7 h4
   rw[W0]at l1 l2;show rE (b8 (wM (aO W) N) (wM (aO W) ((go i il).trans D)) (bw ((yn _ _).trans ?_))) #[W,go];unfold DN mO;rw[W0,W0,W0,W0,a5 ()]
 let(v,o,h,rfl,H):=key.all;show#[o,h,H]
def EY:jV aL 3 [.fz (bD b),.fz (.str (dr w)),.fz (.int m)] o=(match aL [.fz (bD b),.fz (.str (dr w)),.fz (.int m)] []with|.ok x a=>jh x a o|.er x _=>.er x o|.bad=>.bad):=by ext jV;rw[ax (show[SV.fz (bD b),.fz (.str (dr w)),.fz (.int m)].length=3 from rfl)];rfl
def Ls(j:VB b){n:Nat}(k:b.n=n)(q:n<=5)(p:∀c∈w,c<26)(g:w.length<=3)(f:BT b w (kA n) fs fs.length)(y:fs.length<=1000)(d:aK):∃c,b6 [.fz (bD b),.fz (.str (dr w)),.fz (nd fs.length)] d=.ok (.fz (nd fs.length)) (d++[c]):=by let(v,o,h,gs,i,r,_,rfl,B,_):=(mK (ja j k q p g (m:=(fs.length:Int)) () () []) (λa o h=>h) (λx #[_,l,u,t,A]=>by let:=f.len u t;ext)).all;let e:jV aL 3 [.fz (bD b),.fz (.str (dr w)),.fz (nd fs.length)] d=.ok (.rf d.length) (d++[.lst ((gs.map tV).map .fz)]):=EY.trans (by rw[h];show jh (.rf i) o d=_;ext jh;dsimp only;rw[gU B];rfl);show#[.lst ((gs.map tV).map .fz),?_];ext b6;rw[e];dsimp only;rw[YW];dsimp only;rw[W0,W0,<-f.one r]
def GL(f:VB b){n:Nat}(k:b.n=n)(l:n<=5)(j:∀c∈w,c<26)(e:w.length<=3)(q:BT b w (kA n) fs fs.length)(u:fs.length<=1000){m:Int}(g:0<=m)(r:m<fs.length)(d:aK):b6 [.fz (bD b),.fz (.str (dr w)),.fz (.int m)] d=.ok (.fz (.tuple [.str "many",.int m])) d:=by let(x,o,h,rfl):=(mK (ja f k l j e g () []) (λa o #[gs,i,p,t,_]=>by let:=q.one p;ext) (λx h=>h.1)).er;ext b6;rw[EY,h];ext TM;dsimp only;rw[ax W,ax W]
theorem Fr(a:aK):∀ds:G D,aA (tF 5 a) (ds.map .fz)=R ds
 |[]=>rfl
 |d::r=>by unfold agf aA;rw[show tF 5 a (.fz d)=R d from rfl,Fr a r]
abbrev EM(a:G Int)(b:Bd)(r:aP):aP:=-(.list (a.map .int))::-(bD b)::r
def main(g:bg Int)(d:g.length<=63):L10.Sz F_law [.list (g.map .int)]=.ok (.fz (.bool WZ)):=by
 let(w,K,w2,e1):=JR g;let J:w.length<=3:=by ext
 let U:Out (F_law [.fz (.list (g.map .int))] []) (λx _=>x=.fz (.bool WZ)) (λ_=>False):=by
  show qK W ?_;let(b0,t,Q,few,e0):=Cz g;let(c0,ec):=iw g 0 ();let dd:=cM c0 (s:=31) (m:=6) () () ();show cy (ag (ce (ah (af W) (ah aw av)) W W e0)) W ?_;let S:bp (az (aB cJ (bZ aF 3 {bZ a8 2 {ad 0,~~~0},~~~31,~~~6}) (~~~1))) [-(.list (g.map .int)),-(bD b0),Ld,Ld,Ld,Ld] []=.ok (decide (sA c0 31 6=1)) []:=aX (bh (aD (ce (ah (ce (ah (af W) (ah aw av)) W W ec) (ah aw (ah aw av))) W W dd) aw W W (jp _ _)) W);let bd:∃b:Bd,VB b/\b.n<=3/\(∃(l:bg Y0) (I:Y0->Prop),l.length<=128/\I vI/\(∀s,I s->SW b s/\s∈l)/\∀s e,I s->EV b e->I (bJ b s e).1)/\bS (bp (az (aB cJ (bZ aF 3 {bZ a8 2 {ad 0,~~~0},~~~31,~~~6}) (~~~1)))) (cb (ae (bZ dM 1 {ad 0})) (eA 1)) bN [-(.list (g.map .int)),-(bD b0),Ld,Ld,Ld,Ld] []=.ok (.nx (EM g b [Ld,Ld,Ld,Ld])) []:=by
   by_cases h:sA c0 31 6=1
   .let(b,t,Q,few,e3):=G6 g;rw[a5 h]at S;show#[b,t,Q,few,c7 S (uf (ag (ce (ah (af W) av) W W e3)) W)]
   .rw[a6 h]at S;show#[b0,t,Q,few,ez S eF]
  let(b,t,Q,few,hb):=bd;show An hb ?_;obtain⟨n,p⟩:∃n:Nat,b.n=n:=#[b.n.toNat,by let:=t.n1;ext];let M:n<=5:=by ext
  let B:TC b w (kA n):=#[t,D5 p,K,J];let fw:∀x,¬Uy b w (kA n) 400 x:=λx #[_,l,N,h2,h3]=>by let:=OT B w2 few N h2;ext
  show cy (ag (ce (ah (af W) av) W W e1)) W ?_;let(v,f,N,fs,i,u,fl,rfl,hi,_):=(mK (ja t p M K J () () []) (λa o h=>h) fw).all;show cy (tt (aj (ag (af W)) (aj (ag (af W)) aG)) W N) W ?_;let l1:=(W2.mp u.z).1;let il:=(W2.mp hi).1;let fn:fs.length<=1000:=by ext
  let ln:∀{gs:bg Te},dY [.list (gs.map tV)]=-(nd gs.length):=λ{gs}=>(iP _).trans (by rw[W0]);let R:∀{gs:bg Te} {i:Nat} {ω:aK} {o4 o5:bt SV},ω[i]?=cL (.lst ((gs.map tV).map .fz))->yk dY (ai (aq 3) aI) (EM g b [-(.str (dr w)),cL (.rf i),o4,o5]) ω=.ok (.fz (nd gs.length)) ω:=λ{gs i ω o4 o5} h=>Ah (aj (aO W) aG) (by ext aA;rw[gU h];rfl) ln;let rd:tF 6 f (.rf i)=cL (.list (fs.map tV)):=by show(match f[i]? with|some (.lst xs)=>(aA (tF 5 f) xs).map Xa.list|_=>Ld)=_;rw[hi];show(aA (tF 5 f) ((fs.map tV).map .fz)).map Xa.list=_;rw[Fr];rfl
  let z0:cJ (nd fs.length) (.int 0)=-(.bool W3):=(jp _ _).trans (by rw[a6 ()]);show rK (dZ (mV (aH (O9 (aO W) rd W))) (dZ (aH (b8 (R hi) (ag aw) (bw z0))) (aH (b8 (yG (aO W) (ag aw) W hi (Vc (by rw[Xg,Xg,u.z];rfl))) (ag (bq (ah (bq (ah (bq av W (W5 W)) (ah aw (ah aw av))) W (W5 W)) (ah aw (ah aw av))) W (W5 W))) (bw (STP.J1 W)))))) (mG ?_);show cy (l6 (aj (aO W) (aj (ag (af W)) aG)) W (tX B u fn hi)) W ?_;let gd:(f++[Cell.dd (kv (mO fs))])[f.length]?=cL (.dd (kv (mO fs))):=YW;let X:Gx (aq 4) (EM g b [-(.str (dr w)),cL (.rf i),cL (.rf f.length),Ld]) (f++[.dd (kv (mO fs))])=.ok (.fz (.bool W3)) (f++[.dd (kv (mO fs))]):=W;let(H,h2,kp):=om p M B u fn gd;let gl:(f++[Cell.dd (kv (mO fs))]).length=f.length+1:=by rw[Xf];rfl
  show rK (dZ (aH X) (mV (aH (l6 (aj (ag (af W)) (aj (ag (af W)) (aj (aO W) aG))) W h2)))) (mG ?_);let L:=(kp i ()).trans ((Xe il).trans hi);let gd2:=(kp f.length ()).trans gd;show An (gK (rM (aO W) L (ag aw) L (by rw[W0,W0];ext))) ?_;let C:(H.set i (.lst ((fs.map tV).map .fz++[.fz .none])))[f.length]?=cL (.dd (kv (mO fs))):=(XD ()).trans gd2;generalize H.set i (.lst ((fs.map tV).map .fz++[.fz .none]))=ω3 at C;let(v,G,h4,gs,i4,E,gm,rfl,A,k4):=(mK (ja t p M K J () () ω3) (λa o h=>h) fw).all;show cy (tt (aj (ag (af W)) (aj (ag (af W)) aG)) W h4) W ?_;let d3:=(W2.mp C).1;let O:=(k4 f.length d3).trans C;let d4:=(W2.mp O).1;let Z:=(W2.mp A).1;let gn:gs.length<=1000:=by ext
  let g0:=(W2.mp E.z).1;let lk:yd (kv (mO gs)) (kv (mO fs))=WZ:=by
   show abe.mpr #[a5 ?_,Yh.mpr λx hx=>?_]
   .ext mO;rw[W0,W0,W0,W0];show E.one u
   .let(y,hy,rfl):=Xs.mp hx;let(q,hq,rfl):=Xs.mp hy;let(r,r1,r2,_):=u.all (Xd _) q.d q.p (E.rw q hq);let e:=E.aiM u hq r1 r2.symm;let:=pL B (vO B u λ_ h=>h) (HX u.un) (r.p,nd r.d) (ZK r1);rw[<-r2,this,e];show a5 W
  show rK (aH (Ln (l6 (aj (aO W) (aj (ag (af W)) aG)) W (tX B E gn A)) (aO W) (mZ YW) (mZ ((Xe d4).trans O)) lk)) (mG ?_);let j:(G++[Cell.dd (kv (mO gs))])[i4]?=cL (.lst ((gs.map tV).map .fz)):=(Xe Z).trans A;generalize G++[Cell.dd (kv (mO gs))]=ω5 at j;let(c3,ec3):=iw g 13 ();let P:=cM c3 (s:=137) (m:=gs.length) () () ();let F:=fF (x:=c3) (s:=137) (m:=gs.length) ();generalize sA c3 137 gs.length=m at P F;show cy (vH (aj (ag (ce (ah (af W) (ah aw av)) W W ec3)) (aj (ag aw) (aj (R j) aG))) W P) W ?_;let(c,mk):=Ls t p M K J E gn ω5;let T:kr (.tuple [.str "many",.int m])=WZ:=MV (by show(Xa.canLay0 (.str "many")&&(WZ&&WZ))=WZ;rw[show Xa.canLay0 (.str "many")=WZ by left];rfl) (by show max 0 (max 0 0)+1<=64;decide);let Y:=(W2.mp j).1;show rE (t7 (aH (b8 (l6 (aj (ag (af W)) (aj (ag (af W)) (aj (R j) aG))) W mk) (R ((Xe Y).trans j)) (bw (STP.AB W)))) (b8 (l6 (aj (ag (af W)) (aj (ag (af W)) (aj (ag (af W)) aG))) W (GL t p M K J E gn F.1 F.2 _)) (ag (bq (ah aw (ah (af W) av)) W (W5 W))) (bw (STP.AB T)))) W
 let(x,ω',N,rfl):=U.all;ext L10.Sz;rw[show[Xa.list (g.map .int)].map SV.fz=[.fz (.list (g.map .int))]from rfl,N]
end K71
namespace K71
open PySem L2 L3 L10 STP CC
set_option synthInstance.maxHeartbeats 400000
set_option synthInstance.maxSize 4000
def top(i:Nat):YL:=PySem.Challenge.pw_chordbed_k71_typing_rooms.main.body.getD i (.Pass ⟨0,0,0,0⟩)
def TB:G Fd:=[VR 1 "TooMany" "most",
 kW 1 "layer_of" ["standing"] 1 dA,
 kW 1 "looked_up" ["bed","layer","key"] 3 iu,
 kW 1 "chords_over" ["bed","keys"] 2 bA,
 kW 1 "chord_acts" ["bed","keys"] 2 fq,
 kW 1 "_law_cell" ["_law_script","_law_k"] 2 a8,
 kW 1 "_law_draw" ["_law_cell_here","_law_salt","_law_many_here"] 3 aF,
 kW 2 "_law_meaning" ["_law_cell_here","_law_layer","_law_layers"] 3 dz,
 kW 3 "_law_bed" ["_law_script","_law_most"] 2 gZ,
 kW 2 "_law_three" ["_law_script"] 1 dM,
 kW 2 "_law_text" ["_law_script"] 1 hJ,
 kW 1 "_law_events" ["_law_bed_here"] 1 fG,
 kW 1 "_law_done" ["_law_text_here","_law_done_here","_law_sent"] 3 hW,
 kW 1 "events_of" ["bed"] 1 fY,
 kW 1 "done_behind" ["text","done","sent"] 3 fM,
 VN 3 "Hand" ["self","bed","standing"] 3 df,
 y1 U 3 "Hand" "stands" ["self"] 1 bz,
 y1 U 3 "Hand" "is_waiting" ["self","key"] 2 bX,
 y1 U 3 "Hand" "has_act" ["self","act"] 2 bF,
 y1 U 4 "Hand" "come" ["self","key","act"] 3 br,
 y1 U 4 "Hand" "go" ["self","key"] 2 iX,
 y1 U 5 "Hand" "decide" ["self"] 1 cH,
 y1 U 4 "Hand" "makes_chord" ["self","key"] 2 cX,
 y1 U 6 "Hand" "put_to_chord" ["self","key"] 2 cO,
 y1 U 5 "Hand" "begin" ["self","key"] 2 eY,
 y1 U 7 "Hand" "press" ["self","key"] 2 gD,
 y1 U 6 "Hand" "settle" ["self","key"] 2 fO,
 y1 U 7 "Hand" "lift" ["self","key"] 2 iq,
 y1 U 6 "Hand" "wait_on" ["self"] 1 eU,
 DH 8 "step" ["bed","standing","event"] 3 STP.lL,
 y1 S 3 "Places" "enter" ["self","place","back","event"] 4 bQ,
 Uj 4 "Places" ["self","first","most"] 3 cA,
 IB [] 9 "places_on" ["bed","text","most"] 3 gp,
 IB [(.int 400)] 10 "typing_rooms" ["bed","text","most"] 3 aL,
 IB [] 10 "typing_rooms" ["bed","text","most"] 3 aL,
 DH 3 "_law_prices" ["_law_found","_law_text_here"] 2 dg,
 DH 9 "_law_closed" ["_law_bed_here","_law_text_here","_law_prices_here"] 3 dX,
 DH 12 "_law_many" ["_law_bed_here","_law_text_here","_law_most"] 3 b6]
def MD:Md:=⟨["max","all","list","sorted","len","range","tuple","dict","zip","isinstance"],[],[("NONE",(.tuple [(.str "none")])),("CHORD",(.tuple [(.str "chord")])),("AT_REST",(.tuple [(.tuple []),.none,.none]))],[("Hand",["bed","acts","waiting","once","sent"]),("Places",["most","found","numbers"])]⟩
noncomputable instance:FX TB "TooMany" "most":=⟨0,1,W⟩
noncomputable instance:Fn TB kW dA 1:=⟨1,1,"layer_of",["standing"],W⟩
noncomputable instance:Fn TB kW iu 3:=⟨2,1,"looked_up",["bed","layer","key"],W⟩
noncomputable instance:Fn TB kW bA 2:=⟨3,1,"chords_over",["bed","keys"],W⟩
noncomputable instance:Fn TB kW fq 2:=⟨4,1,"chord_acts",["bed","keys"],W⟩
noncomputable instance:Fn TB kW a8 2:=⟨5,1,"_law_cell",["_law_script","_law_k"],W⟩
noncomputable instance:Fn TB kW aF 3:=⟨6,1,"_law_draw",["_law_cell_here","_law_salt","_law_many_here"],W⟩
noncomputable instance:Fn TB kW dz 3:=⟨7,2,"_law_meaning",["_law_cell_here","_law_layer","_law_layers"],W⟩
noncomputable instance:Fn TB kW gZ 2:=⟨8,3,"_law_bed",["_law_script","_law_most"],W⟩
noncomputable instance:Fn TB kW dM 1:=⟨9,2,"_law_three",["_law_script"],W⟩
noncomputable instance:Fn TB kW hJ 1:=⟨10,2,"_law_text",["_law_script"],W⟩
noncomputable instance:Fn TB kW fG 1:=⟨11,1,"_law_events",["_law_bed_here"],W⟩
noncomputable instance:Fn TB kW hW 3:=⟨12,1,"_law_done",["_law_text_here","_law_done_here","_law_sent"],W⟩
noncomputable instance:Fn TB kW fY 1:=⟨13,1,"events_of",["bed"],W⟩
noncomputable instance:Fn TB kW fM 3:=⟨14,1,"done_behind",["text","done","sent"],W⟩
noncomputable instance:FK TB "Hand" df 3:=⟨15,3,["self","bed","standing"],W⟩
noncomputable instance:FM TB U "Hand" "stands" bz 1:=⟨16,3,["self"],W⟩
noncomputable instance:FM TB U "Hand" "is_waiting" bX 2:=⟨17,3,["self","key"],W⟩
noncomputable instance:FM TB U "Hand" "has_act" bF 2:=⟨18,3,["self","act"],W⟩
noncomputable instance:FM TB U "Hand" "come" br 3:=⟨19,4,["self","key","act"],W⟩
noncomputable instance:FM TB U "Hand" "go" iX 2:=⟨20,4,["self","key"],W⟩
noncomputable instance:FM TB U "Hand" "decide" cH 1:=⟨21,5,["self"],W⟩
noncomputable instance:FM TB U "Hand" "makes_chord" cX 2:=⟨22,4,["self","key"],W⟩
noncomputable instance:FM TB U "Hand" "put_to_chord" cO 2:=⟨23,6,["self","key"],W⟩
noncomputable instance:FM TB U "Hand" "begin" eY 2:=⟨24,5,["self","key"],W⟩
noncomputable instance:FM TB U "Hand" "press" gD 2:=⟨25,7,["self","key"],W⟩
noncomputable instance:FM TB U "Hand" "settle" fO 2:=⟨26,6,["self","key"],W⟩
noncomputable instance:FM TB U "Hand" "lift" iq 2:=⟨27,7,["self","key"],W⟩
noncomputable instance:FM TB U "Hand" "wait_on" eU 1:=⟨28,6,["self"],W⟩
noncomputable instance:Fn TB DH STP.lL 3:=⟨29,8,"step",["bed","standing","event"],W⟩
noncomputable instance:FM TB S "Places" "enter" bQ 4:=⟨30,3,["self","place","back","event"],W⟩
noncomputable instance:FKE TB "Places" cA 3:=⟨31,4,["self","first","most"],W⟩
noncomputable instance:Fn TB (IB []) gp 3:=⟨32,9,"places_on",["bed","text","most"],W⟩
noncomputable instance:Fn TB (IB [(.int 400)]) aL 3:=⟨33,10,"typing_rooms",["bed","text","most"],W⟩
noncomputable instance:Fn TB (IB []) aL 3:=⟨34,10,"typing_rooms",["bed","text","most"],W⟩
noncomputable instance:Fn TB DH dg 2:=⟨35,3,"_law_prices",["_law_found","_law_text_here"],W⟩
noncomputable instance:Fn TB DH dX 3:=⟨36,9,"_law_closed",["_law_bed_here","_law_text_here","_law_prices_here"],W⟩
noncomputable instance:Fn TB DH b6 3:=⟨37,12,"_law_many",["_law_bed_here","_law_text_here","_law_most"],W⟩
noncomputable instance k1:CS TB (so gX):=by delta gX;infer_instance
def e1:cj TB (so gX) MD ["standing"] ["standing"] (top 5) 0 1 U=S:=by left
noncomputable instance k2:CS TB (so gj):=by delta gj;infer_instance
def e2:cj TB (so gj) MD ["bed","layer","key","meaning"] ["bed","layer","key"] (top 8) 0 2 U=S:=by left
noncomputable instance k3:CS TB (so d8):=by delta d8;infer_instance
def e3:cj TB (so d8) MD ["bed","keys"] ["bed","keys"] (top 9) 0 3 U=S:=by left
noncomputable instance k4:CS TB (so eW):=by delta eW;infer_instance
def e4:cj TB (so eW) MD ["bed","keys","chord"] ["bed","keys"] (top 10) 0 4 U=S:=by left
noncomputable instance k5:CS TB (so ic):=by delta ic;infer_instance
def e5:cj TB (so ic) MD ["_law_script","_law_k"] ["_law_script","_law_k"] (top 22) 0 5 U=S:=by left
noncomputable instance k6:CS TB (so hV):=by delta hV;infer_instance
def e6:cj TB (so hV) MD ["_law_cell_here","_law_salt","_law_many_here","_law_number"] ["_law_cell_here","_law_salt","_law_many_here"] (top 23) 0 6 U=S:=by left
noncomputable instance k7:CS TB (so cR):=by delta cR;infer_instance
def e7:cj TB (so cR) MD ["_law_cell_here","_law_layer","_law_layers","_law_letter","_law_other","_law_kind"] ["_law_cell_here","_law_layer","_law_layers"] (top 24) 1 7 U=S:=by left
noncomputable instance k8:CS TB (so fE):=by delta fE;infer_instance
def e8:cj TB (so fE) MD ["_law_script","_law_most","_law_cell_here","_law_keys","_law_layers","_law_rows","_law_layer","_law_cells","_law_some","_law_chords"] ["_law_script","_law_most"] (top 25) 2 8 U=S:=by left
noncomputable instance k9:CS TB (so eX):=by delta eX;infer_instance
def e9:cj TB (so eX) MD ["_law_script","_law_cell_here","_law_letters","_law_chord"] ["_law_script"] (top 32) 1 9 U=S:=by left
noncomputable instance k10:CS TB (so gc):=by delta gc;infer_instance
def Wy:cj TB (so gc) MD ["_law_script","_law_cell_here","_law_letters"] ["_law_script"] (top 26) 1 10 U=S:=by left
noncomputable instance k11:CS TB (so d6):=by delta d6;infer_instance
def WH:cj TB (so d6) MD ["_law_bed_here","_law_keys"] ["_law_bed_here"] (top 27) 0 11 U=S:=by left
noncomputable instance k12:CS TB (so fX):=by delta fX;infer_instance
def WJ:cj TB (so fX) MD ["_law_text_here","_law_done_here","_law_sent","_law_letter","_law_word"] ["_law_text_here","_law_done_here","_law_sent"] (top 28) 0 12 U=S:=by left
noncomputable instance k13:CS TB (so gh):=by delta gh;infer_instance
def WI:cj TB (so gh) MD ["bed","downs","ups"] ["bed"] (top 15) 0 13 U=S:=by left
noncomputable instance k14:CS TB (so et):=by delta et;infer_instance
def Wp:cj TB (so et) MD ["text","done","sent","downs","behind"] ["text","done","sent"] (top 20) 0 14 U=S:=by left
noncomputable instance k15:CS TB (cT eC):=by delta eC;infer_instance
def Wv:cj TB (cT eC) MD ["self","bed","standing"] ["self","bed","standing"] (aN (top 7) 0) 2 15 U=S:=by left
noncomputable instance k16:CS TB (cT fQ):=by delta fQ;infer_instance
def Ww:cj TB (cT fQ) MD ["self"] ["self"] (aN (top 7) 1) 2 16 U=S:=by left
noncomputable instance k17:CS TB (cT dj):=by delta dj;infer_instance
def WK:cj TB (cT dj) MD ["self","key"] ["self","key"] (aN (top 7) 2) 2 17 U=S:=by left
noncomputable instance k18:CS TB (cT eZ):=by delta eZ;infer_instance
def Wc:cj TB (cT eZ) MD ["self","act"] ["self","act"] (aN (top 7) 13) 2 18 U=S:=by left
noncomputable instance k19:CS TB (cT ia):=by delta ia;infer_instance
def WN:cj TB (cT ia) MD ["self","key","act"] ["self","key","act"] (aN (top 7) 11) 3 19 U=S:=by left
noncomputable instance k20:CS TB (cT kz):=by delta kz;infer_instance
def Wh:cj TB (cT kz) MD ["self","key","act"] ["self","key"] (aN (top 7) 12) 3 20 U=S:=by left
noncomputable instance k21:CS TB (cT fV):=by delta fV;infer_instance
def We:cj TB (cT fV) MD ["self","keys","what","acts","key","act"] ["self"] (aN (top 7) 10) 4 21 U=S:=by left
noncomputable instance k22:CS TB (cT cV):=by delta cV;infer_instance
def Wm:cj TB (cT cV) MD ["self","key"] ["self","key"] (aN (top 7) 4) 3 22 U=S:=by left
noncomputable instance k23:CS TB (cT cN):=by delta cN;infer_instance
def WF:cj TB (cT cN) MD ["self","key","keys"] ["self","key"] (aN (top 7) 5) 5 23 U=S:=by left
noncomputable instance k24:CS TB (cT gF):=by delta gF;infer_instance
def WC:cj TB (cT gF) MD ["self","key","layer","meaning","word"] ["self","key"] (aN (top 7) 6) 4 24 U=S:=by left
noncomputable instance k25:CS TB (cT gJ):=by delta gJ;infer_instance
def WG:cj TB (cT gJ) MD ["self","key"] ["self","key"] (aN (top 7) 3) 6 25 U=S:=by left
noncomputable instance k26:CS TB (cT fT):=by delta fT;infer_instance
def Wd:cj TB (cT fT) MD ["self","key","what"] ["self","key"] (aN (top 7) 8) 5 26 U=S:=by left
noncomputable instance k27:CS TB (cT ib):=by delta ib;infer_instance
def Wa:cj TB (cT ib) MD ["self","key"] ["self","key"] (aN (top 7) 7) 6 27 U=S:=by left
noncomputable instance k28:CS TB (cT eS):=by delta eS;infer_instance
def WB:cj TB (cT eS) MD ["self","age"] ["self"] (aN (top 7) 9) 5 28 U=S:=by left
noncomputable instance k29:CS TB (cT STP.v5):=by delta STP.v5;infer_instance
def WE:cj TB (cT STP.v5) MD ["bed","standing","event","hand"] ["bed","standing","event"] (top 6) 7 29 U=S:=by left
noncomputable instance k30:CS TB (cT bO):=by delta bO;infer_instance
def WO:cj TB (cT bO) MD ["self","place","back","event"] ["self","place","back","event"] (aN (top 16) 1) 2 30 S=S:=by left
noncomputable instance k31:CS TB (cT bH):=by delta bH;infer_instance
def Wt:cj TB (cT bH) MD ["self","first","most"] ["self","first","most"] (aN (top 16) 0) 3 31 S=S:=by left
noncomputable instance k32:CS TB (cT ir):=by delta ir;infer_instance
def Wx:cj TB (cT ir) MD ["bed","text","most","events","places","number","place","event","answer","done"] ["bed","text","most"] (top 19) 8 32 S=S:=by left
noncomputable instance k33:CS TB (cT fy):=by delta fy;infer_instance
def VI:cj TB (cT fy) MD ["bed","text","most","prices","found","place","back","event","price"] ["bed","text","most"] (top 18) 9 33 S=S:=by left
noncomputable instance k35:CS TB (cT fU):=by delta fU;infer_instance
def QD:cj TB (cT fU) MD ["_law_found","_law_text_here","_law_prices_here","_law_ahead","_law_room"] ["_law_found","_law_text_here"] (top 30) 2 35 U=S:=by left
noncomputable instance k36:CS TB (cT fK):=by delta fK;infer_instance
def Ub:cj TB (cT fK) MD ["_law_bed_here","_law_text_here","_law_prices_here","_law_reached","_law_standing","_law_done_here","_law_price","_law_event","_law_sent","_law_there","_law_more"] ["_law_bed_here","_law_text_here","_law_prices_here"] (top 31) 8 36 U=S:=by left
noncomputable instance k38:CS TB (cT Ay):=by delta Ay;infer_instance
def WM:cj TB (cT Ay) MD ["_law_script","_law_bed_here","_law_text_here","_law_found","_law_prices_here","_law_fewer"] ["_law_script"] (top 33) 12 38 U=S:=by left
end K71
namespace L2
open PySem PySem.Spec PyProof.Rows
section
variable{Z:St}{H:Hp}{Q:VK}{D:Ends}
theorem Jk{K:CL}{c b:TE}{f:Str}(h:b Z H λy H1=>c Z H1 λx e=>∃a C d fs,x=.ref a/\e a=R (.ins C d fs)/\Cls K C/\aau K C f/\fs.length<1000/\D.nx Z (aR e a (.ins C d (iA f y fs)))):Q5 K c b f D Z H:=h
theorem QZ{c:TT}{t u:TE}(h:c Z H λb H1=>if b=S then t Z H1 Q else u Z H1 Q):SE c t u Z H Q:=h
theorem Oo{K:CL}{b:TE}{f:Str}(h:b Z H λx H1=>∃a C c fs v,x=.ref a/\H1 a=R (.ins C c fs)/\Cls K C/\aau K C f/\fs.lookup f=R v/\Q v H1):QI K b f Z H Q:=h
theorem K0{C:M}{m:Str}{sp:Sp}{E:XK}{b:TE}{t:TA}(h:b Z H λx H1=>∃a d fs,x=.ref a/\H1 a=R (.ins C d fs)/\fs.lookup m=P/\t Z H1 λc e=>sp (x::(c++[])) e Q E):tZ C m sp [] E b t Z H Q:=h
theorem Kt{C:M}{sp:Sp}{E:XK}{t:TA}(h:t Z H λb H1=>∀x a,H1 x=P->H1 a=P->a≠x->sp (.ref x::(b++[])) (aR (aR H1 a (.own x)) x (.ins C a [])) (λv c=>v=.Zk/\Q (.ref x) c) E):wY C sp [] E t Z H Q:=h
end
end L2
local macro_rules| `(tactic|ext:5)=> `(tactic|repeat (first
 |specialize L2.Ph ?_
 |specialize L2.amb ?_
 |specialize L2.Jk ?_
 |specialize L2.QZ ?_
 |specialize L2.Oo ?_
 |specialize L2.K0 ?_
 |specialize L2.Kt ?_
 |specialize L2.ajQ ?_
 |((with_reducible show L2.nA _ _ _ _);refine⟨_,rfl,?_⟩)
 |specialize L2.Vg ?_
 |specialize L2.anU ?_
 |specialize L2.amJ ?_
 |specialize L2.ams ?_
 |specialize L2.apF ?_
 |((specialize L2.aop ?_ ?_);first|exact⟨by decide,by decide⟩|exact⟨by decide,by decide,by decide⟩|exact(show(0:Int)<_ by decide)|exact⟨by decide,by left⟩)
 |((specialize L2.amH ?_ ?_);exact rfl)
 |((specialize L2.anA ?_ ?_);exact rfl)
 |specialize L2.Qc ?_
 |specialize L2.KF ?_
 |specialize L2.akJ ?_
 |specialize L2.ajA ?_
 |specialize L2.aib ?_
 |specialize L2.ajM ?_
 |specialize L2.ajk ?_
 |specialize L2.aqN ?_
 |specialize L2.amN ?_
 |specialize L2.alA ?_
 |specialize L2.amA ?_
 |specialize L2.alZ ?_
 |specialize L2.ajN ?_
 |specialize L2.alm ?_
 |specialize L2.ajI ?_
 |specialize L2.Qd ?_
 |specialize L2.Mq ?_
 |specialize L2.TQ ?_
 |specialize L2.KH ?_
 |specialize L2.Oi ?_
 |specialize L2.alw ?_
 |specialize L2.anf ?_
 |specialize L2.amY ?_
 |specialize L2.ahq ?_
 |specialize L2.aj5 ?_
 |specialize L2.akY ?_
 |specialize L2.aiL ?_
 |specialize L2.aiu ?_
 |specialize L2.ajp ?_
 |specialize L2.ajU ?_
 |specialize L2.alI ?_
 |specialize L2.ajl ?_
 |specialize L2.ajj ?_
 |specialize L2.aiG ?_
 |specialize L2.ajo ?_
 |specialize L2.aiX ?_
 |specialize L2.ajW ?_
 |specialize L2.ajv ?_))
namespace K71
open PySem L2
section
open L3 L4
variable{P:Xu}{w:XQ}{K:CL}{mg:Str->bt WY}{base:Heap}{f:W7}{Y:Yj}
theorem kL:Zj ["self","most"] ["self","most"] (au (aN (top 13) 0)):=⟨W,W,W,by left,W,by left,by left⟩
def Da{C B fI:M}(F:Fun K "__init__" "TooMany.__init__" (aN (top 13) 0) f Y)(o:L9.XC K C B fI)(l:mg "BedError"=R (.ref B))(g:abX K B (.type "type")=S)(m:abY K (.ref B) (.type "type") "__init__"=R (.val (.builtin "ValueError.__init__")))
  (b:ZO K (.ref B) "__getattribute__"=R (R (.builtin "type.__getattribute__"))) (j:XS K (.ref C) "most"=R Ld):FnOk P w K mg base kX 1 f Y ["self","most"] (L9.vQ C "most"):=by
 show F.ok kL (λL H Q E h=>?_) (λu A a s H L Q E t h=>?_)
 .let(_,_,rfl,_):=h;rfl
 let(e,v,rfl,r,n,q):=h;show⟨_,(w9 (zL (L9.HF W l g m b o (ci (pv 0) (ci (L9.Mp (L9.QH () (L9.Rn (pv 1) L9.Pn)) ()) gx)))) (lW (L9.Kz o j (pv 0) (pv 1) W))),?_⟩;ext:5;show⟨V.ref e,W,v,W,r,λy=>⟨e,y,W,n,?_⟩⟩;show⟨v,W,V.ref e,W,e,W,n,λp j i=>q p j i⟩
end
end K71
namespace L4
open PySem PySem.Spec PySem.W PyProof.Rows L2 L3
def Hv{X:Cx}{y:L2.St}{A:XK}{K:CL}{P:Xu}{w:XQ}{V:Str->bt WY}{base:Heap}{k j:Nat}{x:Str}{D:bg Str}{sp:Sp}{e:Xx}{es:bg Xx}{t:TA}{p a:Pos}(n:X.ex=[])(C:ww P w K V base (L4.lu P w) k x D [] sp)(hP:X.prog=P)(hw:X.w=w)(hK:X.K=K)(hm:X.mg=V)(L:X.base=base)(hr:Y1 j X.A)(ha:PA (X.abc (uw X y A)) (e::es) t)(E:k<=j:=by decide)(hg:Gl X x:=by rfl)
  (J:(x==("__debug__":Str))=W3:=by decide) (he:Xr (e::es) X.env=(W3,eval e X.env)::Xr es X.env:=by rfl) (B:(backTo a (Xr es X.env)).any (·.1)=W3:=by rfl):
  PE (X.abc (uw X y A)) (.Call (.Name x p) (e::es) [] a) (λd H Q=>d=y/\jw sp [] A t d H Q):=by
 subst hP hw hK hm L;let(f,fd,dsv,R,b,G,kp,m):=C;ext G;rintro i s _ H Q I ⟨rfl,h⟩;show Zq (i9 I hg m ?_ J);show aad (h₀:=X.base) I.ok.mod.kin kp (bU (ha a i s _ H _ I h) λg N ⟨vs,H1,v,r,q⟩=>⟨v.kIn,?_⟩) he B;let O:Vals (vs++[]) (g++[]):=r.append .nil;let hl:(g++[]).length=D.length:=by rw[<-O.length];show R.len _ _ _ _ q
 show aaI (aav (R.run X.A X.stack N H1 ⟨g,[]⟩ (g++[]) (vs++[]) _ A (hr.mono E) v.af0 (b N g v.kIn hl) O q) λr s' l=>?_);cases r with
 |error ex=>let(e,c,dx,a0,T,H',rfl,Y,Z,F,ne,U,S,o,un,Yn,q):=l;let M:=v.aah;let I':=M.afi (ch:=[]) S un Yn o (λb z=>nomatch z);show⟨H',e,c,dx,a0,T,W,I'.acX (λp z=>nomatch z),F,sr M n Y,sr M n Z,ne,U,q⟩
 |ok fl=>
  cases fl with
  |ret u=>show v.after l
  |next=>show False.elim l
  |brk=>show False.elim l
  |cont=>show False.elim l
theorem IX{X:Cx}{st:G YL}{b:L2.St}{t c:TS}(h:PSs X st c)(k:∀D H,t D b H->c D b H):So X st b t:=λa s H D I q=>h a s b H D I (k D H q)
end L4
namespace K71
open PySem L2
section
variable{P:Xu}{w:XQ}{K:CL}{mg:Str->bt WY}{base:Heap}{f:W7}{fd:Yj}
theorem mj:Zj ["_law_bed_here","_law_text_here","_law_most","e"] ["_law_bed_here","_law_text_here","_law_most"] (au (top 29)):=⟨W,W,W,by left,W,by left,by left⟩
def uR{C:W7}{m:bg WY}(F:Fun K "_law_many" "_law_many" (top 29) f fd)(U:L3.ww P w K mg base (L4.lu P w) 10 "typing_rooms" ["bed","text","most"] [] (L10.kB K 3 aL))
  (X:mg "TooMany"=cL (.ref C)) (L:L4.ad4 K C m) (bR:m.contains (.type "BaseException")=WZ) (V:XH K Xv "TooMany"=cL (cL (.ref C))) (hh:Zm K C=WZ) (J:XS K (.ref C) "most"=cL Ld) (T:mg "len"=Ld):
  FnOk P w K mg base kX 12 f fd ["_law_bed_here","_law_text_here","_law_most"] (L10.kB K 3 b6):=by
 show F.ok mj (λvs H Q E h=>h.1) (λYZ A O s H vs Q E hr h=>?_);let hu:=hr.units;let(hl,B,α,ω,xs,so,hv,g):=h;let Y:=L.cl;obtain⟨v0,v1,Z,rfl⟩:∃v0 v1 Z,vs=[v0,v1,Z]:=by
  match vs,hl with
  |[a,b,c],_=>show⟨a,b,c,W⟩
 obtain⟨E2,y⟩:∃E2:XK,E2=λc dx u=>∃j k o,L10.YB α ω H j o u/\L10.StoOk B K u j o/\c=.ref C/\(∃p fs,dx=cL p/\u p=cL (.xd fs)/\fs.lookup ("most":Str)=cL (.int k))/\L10.WS K E B H α ω (L10.PQ B K Q) (.ok (.fz (.tuple [.str "many",.int k])) o):=⟨_,W⟩;show⟨_,(lW (L4.LI (i:=3) (E2:=E2) (tb:=Cf (tI (λxs H Q=>∃x n,xs=[x]/\Lx K x H n/\Q (.int n) H) (c8 (jw (L10.kB K 3 aL) [] E2 (c8 (nA 0) (c8 (nA 1) (c8 (nA 2) gM)))) gM))) W mj.nd W W W X Y bR W W
   (λl σ=>by show L4.IX (lW (yQ (wQ qD W T zY (ci (L4.Hv W U W W W W W hr (ci (pv 0) (ci (pv 1) (ci (pv 2) gx)))) gx)))) λD H q=>And.intro W q)
   (λl e=>by show lW (yQ (EK (ci Hh (ci (te:=L9.Ob K (nA 3) "most") ?_ gx))));show L9.JS (pv 3) ?_;rfl)
   (λc dx u h=>by rw[y]at h;let(_,_,_,_,_,h,_):=h;show⟨C,m,h,Y,by rw[aao,dN,aaj]⟩))),?_⟩
 unfold b6 at g;ext L4.Oa;show⟨?_,λc dx u N e I he M hd hn=>?_⟩
 .ext:5
  show L10.xk so hv (F:=aL) (n:=3) ?_;cases q:L10.jV aL 3 xs ω with
  |bad=>rw[q]at g;show g.elim
  |ok x o=>
   rw[q]at g;cases x with
   |fz d=>show g.elim
   |tp l=>show g.elim
   |rf i=>
    dsimp only at g;cases qi:o[i]? with
    |none=>rw[qi]at g;show g.elim
    |some c=>
     rw[qi]at g;cases c with
     |lst ys=>intro j H' t r v R;let(a,ha,rfl):=R;let(zs,h1,N):=r.cel i a _ ha qi;show⟨.ref a,ys.length,W,.inl ⟨zs,.inl (.inl h1),N.length.symm⟩,?_⟩;show g j H' t r (.int _) (.int _)
     |_=>show g.elim
  |er x o=>
   rw[q]at g;let(xc,xf):=x;dsimp only at g;by_cases M:xc= "TooMany"
   case neg=>rw[a4 M]at g;show g.elim
   subst M;rw[ax W]at g;split at g
   .rename_i f k
    by_cases hf:f=("most":Str)
    case neg=>rw[a4 hf]at g;show g.elim
    subst hf;rw[ax W]at g;rintro c dx j H' t r ⟨⟨a',e1,e2⟩,fs,g2,g3⟩;let(nn,v,k1,k2):=g3 "most" (.int k) W;let e3:=V.symm.trans e2;ext e3;ext k2;rw[y];cases dx with
    |none=>show bb W nn
    |some p=>show⟨j,k,o,t,r,e1,⟨p,fs,W,g2 p W,k1⟩,g⟩
   .show g.elim
 .rw[y]at N;let(j,k,o,t,r,rfl,(p,fs,rfl,hx,S),w2):=N;let G:YN u (aR u e (.frz I (.own e))):=bj he _;let eE:(aR u e (.frz I (.own e))) e=cL (.frz I (.own e)):=ay;generalize aR u e (.frz I (.own e))=H2 at G eE;ext:5;show⟨.ref e,W,e,I,C,m,p,fs,.int k,W,eE,M,hd,hn,L,hh,J,G _ _ hx,S,?_⟩;ext:5;show⟨W5 W,λp J=>?_⟩;let s3:YN H2 (aR H2 p (.tup [.str "many",.int k])):=bj J _;show w2 j _ (t.trans (L10.YB.same (G.trans s3))) (r.grow (G.trans s3)) _ (.tup ⟨.inl (.inl ay),λz=>bb J ((r.grow G).owd p z)⟩ (.cons (.str _) (.cons (.int _) .nil)))
end
end K71
theorem U6{α:Type}:∀{l:G α},l.length=1->∃a,l=[a]
 |[a],_=>⟨a,W⟩
theorem UR{α:Type}:∀{l:G α},l.length=2->∃a b,l=[a,b]
 |[a,b],_=>⟨a,b,W⟩
theorem VV{α:Type}:∀{l:G α},l.length=3->∃a b c,l=[a,b,c]
 |[a,b,c],_=>⟨a,b,c,W⟩
theorem WA{α:Type}:∀{l:G α},l.length=4->∃a b c d,l=[a,b,c,d]
 |[a,b,c,d],_=>⟨a,b,c,d,W⟩
local macro_rules| `(tactic|ext:2)=> `(tactic|(intro _ _ _ _ _ _ us hl;first|(obtain⟨_,h⟩:=U6 hl;subst h;kernel_rfl)|(obtain⟨_,_,h⟩:=UR hl;subst h;kernel_rfl)|(obtain⟨_,_,_,h⟩:=VV hl;subst h;kernel_rfl)|(obtain⟨_,_,_,_,h⟩:=WA hl;subst h;kernel_rfl)|(match us,hl with|[_,_,_,_,_],_=>rfl)|(match us,hl with|[_,_,_,_,_,_],_=>rfl)|(match us,hl with|[],_=>rfl)))| `(tactic|ext:8)=> `(tactic|(intro _ _ _ _ _ _ us hl;first|((have h1:us.length=1:=by simpa using hl);obtain⟨_,h⟩:=U6 h1;subst h;exact⟨_,rfl,rfl⟩)|((have h1:us.length=2:=by simpa using hl);obtain⟨_,_,h⟩:=UR h1;subst h;exact⟨_,rfl,rfl⟩)|((have h1:us.length=3:=by simpa using hl);obtain⟨_,_,_,h⟩:=VV h1;subst h;exact⟨_,rfl,rfl⟩)|((have h1:us.length=4:=by simpa using hl);(match us,h1 with|[_,_,_,_],_=>exact⟨_,rfl,rfl⟩))))| `(tactic|ext:6)=> `(tactic|first|exact List.forall_mem_nil _|(refine List.forall_mem_cons.mpr ⟨?_,?_⟩;(·first|(show XS _ _ _=_;k_is)|(show XH _ _ _=_;k_is));ext:6))| `(tactic|ext:9)=> `(tactic|first|(refine' L3.NI.mk ?a' ⟨_,L2.F5 ?b' ?c' ?d'⟩;(case a'=>k_is);(case b'=>k_is);(case c'=>k_is);(case d'=>k_is))|(refine' L3.MI.mk ?a' ?e' ⟨_,L2.F5 ?b' ?c' ?d'⟩;(case a'=>k_is);(case e'=>k_is);(case b'=>k_is);(case c'=>k_is);(case d'=>k_is))|(refine' L3.CI.mk ?a' ?b' ?c' ?d' ?e' ?f' ?g' ?i';(case a'=>k_is);(case b'=>k_is);(case c'=>k_is);(case d'=>k_is);(case e'=>k_is);(case f'=>k_is);(case g'=>k_is);(case i'=>ext:6))|(refine' L3.DI.mk ?a' ⟨_,L3.MJ ?b' ?c' ?d' ?e'⟩;(case a'=>k_is);(case b'=>k_is);(case c'=>k_is);(case d'=>k_is);(case e'=>k_is))|k_is|k_exc|rfl|ext:6|left|(rw[<-ae1];rfl))
namespace K71
open PySem L2 L3 CC
def F_lawH:FN:=L10.Sz F_law
def all_mk{l:aeK}{w:XQ}{K:CL}{h:Heap}{c:Str->bt WY}{fa:W7}
  {afh:Tok}
  {ae7:W7} {af2:Nat} {afS:Array (bt WY)}
  {aet:Tok}
  {V:W7} {afa:Nat} {afm:Array (bt WY)}
  {r:W7} {acU:Nat} {acV:Array (bt WY)}
  {acK:W7} {ad7:Nat} {ad8:Array (bt WY)}
  {acp:W7} {aap:Tok}
  {f0 f1 f2 f3 f4 f5 f6 f7 f8 f9 f10 f11 f12 f13 f14 f15 f16 f17 f18 f19 f20 f f22 f23 f24 f25 f26 f27 f28 f29 f30 f31 f32 f33 f34 f35 p f37 f38 o:W7}
  {g j:W7}
  {nmR qR:Str} {NR:W7} {bsR:bg WY} {snR:bg Str} {akA:bg WY} {abR:Bool} {alT:bt Bool} {ddR:bt W7} {k0R k1R k2R k3R k5R:bt WY}
  {ocN:WY} {odN:bt W7} {F:Array Y3} {nN:Nat} {slN:Array (bt WY)} (X:K.In h) (G:h.Ns Xv c) (hfa:c "law"=cL (.ref fa))
  (h0:NI K f0 "layer_of" (top 5))
  (h1:NI K f1 "looked_up" (top 8))
  (h2:NI K f2 "chords_over" (top 9))
  (h3:NI K f3 "chord_acts" (top 10))
  (h4:NI K f4 "_law_cell" (top 22))
  (h5:NI K f5 "_law_draw" (top 23))
  (h6:NI K f6 "_law_meaning" (top 24))
  (h7:NI K f7 "_law_bed" (top 25))
  (h8:NI K f8 "_law_three" (top 32))
  (h9:NI K f9 "_law_text" (top 26))
  (h10:NI K f10 "_law_events" (top 27))
  (h11:NI K f11 "_law_done" (top 28))
  (h12:NI K f12 "events_of" (top 15))
  (h13:NI K f13 "done_behind" (top 20))
  (h14:NI K f14 "step" (top 6))
  (h15:NI K f15 "places_on" (top 19))
  (D:DI K f16 acp "typing_rooms" (top 18) #v[.int 400 aap])
  (h17:NI K f17 "_law_prices" (top 30))
  (h18:NI K f18 "_law_closed" (top 31))
  (h19:NI K f19 "_law_many" (top 29))
  (h20:NI K f20 "law" (top 33))
  (b:CI K f "Hand" ["bed","acts","waiting","once","sent"])
  (h22:MI K f f22 "__init__" "Hand.__init__" (aN (top 7) 0))
  (h23:MI K f f23 "stands" "Hand.stands" (aN (top 7) 1))
  (h24:MI K f f24 "is_waiting" "Hand.is_waiting" (aN (top 7) 2))
  (h25:MI K f f25 "has_act" "Hand.has_act" (aN (top 7) 13))
  (h26:MI K f f26 "come" "Hand.come" (aN (top 7) 11))
  (h27:MI K f f27 "go" "Hand.go" (aN (top 7) 12))
  (h28:MI K f f28 "decide" "Hand.decide" (aN (top 7) 10))
  (h29:MI K f f29 "makes_chord" "Hand.makes_chord" (aN (top 7) 4))
  (h30:MI K f f30 "put_to_chord" "Hand.put_to_chord" (aN (top 7) 5))
  (h31:MI K f f31 "begin" "Hand.begin" (aN (top 7) 6))
  (h32:MI K f f32 "press" "Hand.press" (aN (top 7) 3))
  (h33:MI K f f33 "settle" "Hand.settle" (aN (top 7) 8))
  (h34:MI K f f34 "lift" "Hand.lift" (aN (top 7) 7))
  (h35:MI K f f35 "wait_on" "Hand.wait_on" (aN (top 7) 9))
  (n:CI K p "Places" ["most","found","numbers"])
  (h37:MI K p f37 "enter" "Places.enter" (aN (top 16) 1))
  (h38:MI K p f38 "__init__" "Places.__init__" (aN (top 16) 0))
  (q:XH K Xv "TooMany"=cL (cL (.ref g)))
  (ado:XH K Xv "BedError"=cL (cL (.ref j)))
  (xR:K.lookup g=cL (excClassObj nmR qR g NR bsR (.ref j::[.type "ValueError",.type "Exception",.type "BaseException",.type "object"]) WZ snR akA abR alT ddR k0R k1R k2R k3R k5R "ValueError.__new__"))
  (eI:Z0 K j [.type "ValueError",.type "Exception",.type "BaseException",.type "object"] "ValueError.__new__"=WZ)
  (lN:K.lookup NR=cL ⟨ocN,odN,.dict F nN,slN⟩)
  (MP:(F.all λe=>match e.key with|.str _ _=>WZ|_=>W3)=WZ)
  (inN:XH K NR "__init__"=cL (cL (.ref o)))
  (saR:XS K (.ref g) "__setattr__"=cL (cL (.builtin "object.__setattr__")))
  (d:XS K (.ref g) "most"=cL Ld)
  (rdB:abX K j (.type "type")=WZ)
  (fcB:abY K (.ref j) (.type "type") "__init__"=cL (.val (.builtin "ValueError.__init__")))
  (C9:ZO K (.ref j) "__getattribute__"=cL (cL (.builtin "type.__getattribute__")))
  (gaR:XS K (.ref g) "__getattribute__"=cL (cL (.builtin "BaseException.__getattribute__")))
  (gtR:XS K (.ref g) "__getattr__"=cL Ld)
  (csR:XS K (.ref g) "__class__"=cL (cL (.builtin "object.__class__")))
  (obR:afw K g (.type "object")=cL WZ)
  (hdR:Zm K g=WZ)
  (k:MI K g o "__init__" "TooMany.__init__" (aN (top 13) 0))
  (af4:XH K Xv "NONE"=cL (cL (.ref ae7)))
  (ae3:XH K Xv "CHORD"=cL (cL (.ref V)))
  (adT:XH K Xv "AT_REST"=cL (cL (.ref acK)))
  (ad3:K.lookup acK=cL ⟨.type "tuple",Ld,.seq #v[.ref r,.none,.none] ad7,ad8⟩)
  (acW:K.lookup r=cL ⟨.type "tuple",Ld,.seq #v[] acU,acV⟩)
  (afp:K.lookup V=cL ⟨.type "tuple",Ld,.seq #v[.str "chord" aet] afa,afm⟩)
  (afP:K.lookup ae7=cL ⟨.type "tuple",Ld,.seq #v[.str "none" afh] af2,afS⟩)
  (yb:∀x∈MD.bl,XH K Xv x=cL Ld):
  ∃fd:Yj,(∀(s:W9) (v:WY),abh s fd ⟨[v],[]⟩ [("_law_script",v)])/\∀base:Heap,K.In base->base.Ns Xv c->FnOk l.prog w K c base kX 13 fa fd ["_law_script"] (L3.Cv K 1 F_lawH):=by
 let agN:=LS (xs:=[.str "none"]) (ds:=[(.str "none")]) afP (by show 1<=Xi;decide) (.cons ⟨_,rfl⟩ .nil) λO H=>(.cons (.str _) .nil);let afY:=LS (xs:=[.str "chord"]) (ds:=[(.str "chord")]) afp (by show 1<=Xi;decide) (.cons ⟨_,rfl⟩ .nil) λO H=>(.cons (.str _) .nil);let adi:=LS (xs:=[]) (ds:=[]) acW (by show 0<=Xi;decide) .nil λO H=>.nil;let aey:=LS (xs:=[.ref r,.Zk,.Zk]) (ds:=[(.tuple []),.none,.none]) ad3 (by show 3<=Xi;decide) (.cons rfl (.cons rfl (.cons rfl .nil))) λO H=>(.cons (adi O H) (.cons .Zk (.cons .Zk .nil)));show h20.law X G hfa (by ext:2) λbase fd agM=>?_;let W:Tp l.prog w K c base h:=⟨X,G⟩;let MP:acj K NR=WZ:=by ext acj;rw[lN];show MP
 let XR:L4.z7 K g (.ref j::[.type "ValueError",.type "Exception",.type "BaseException",.type "object"]):=⟨_,_,_,_,_,_,_,_,_,_,_,_,_,_,_,_,xR⟩;let LR:L4.ad4 K g (.ref j::[.type "ValueError",.type "Exception",.type "BaseException",.type "object"]):=⟨XR,rfl,gaR,gtR,csR,obR⟩;let acq:L9.XC K g j o:=⟨⟨_,_,_,_,_,_,_,_,_,_,_,_,_,_,xR,MP,inN⟩,eI,saR⟩;let aa8:=YT X G q;let aea:=YT X G ado;let(fdI,zI):=k.F;let(_,_,_,_,_,_,_,_,_,rfl,ad1,_):=zI.ex;let adX:=k.i;let adZ:=Da (P:=l.prog) (w:=w) (mg:=c) (base:=base) zI acq aea rdB fcB C9 d;let adY:=zI.binds (ps:=["self","most"]) (by ext:2);let a:adq K c MD:=⟨λx hx=>PySem.W.mg_none_of X G (yb x hx),Wo,(UP (Vo (YT X G af4) agN) (UP (Vo (YT X G ae3) afY) (UP (Vo (YT X G adT) aey) WU))),(V2 b.cf (V2 n.cf Wk))⟩;let s0:=WT (T:=TB) (P:=l.prog) (w:=w) (K:=K) (mg:=c) (base:=base);let s1:=jy s0 rfl (⟨_,_,_,_,_,_,acq,ad1,adX,adZ,adY,q,aa8⟩);let s2:=jy s1 rfl (h0.c W λ_ z=>mn a s1 z e1);let s3:=jy s2 rfl (h1.c W λ_ z=>mn a s2 z e2);let s4:=jy s3 rfl (h2.c W λ_ z=>mn a s3 z e3);let s5:=jy s4 rfl (h3.c W λ_ z=>mn a s4 z e4);let s6:=jy s5 rfl (h4.c W λ_ z=>mn a s5 z e5);let s7:=jy s6 rfl (h5.c W λ_ z=>mn a s6 z e6);let s8:=jy s7 rfl (h6.c W λ_ z=>mn a s7 z e7);let s9:=jy s8 rfl (h7.c W λ_ z=>mn a s8 z e8);let s10:=jy s9 rfl (h8.c W λ_ z=>mn a s9 z e9);let s11:=jy s10 rfl (h9.c W λ_ z=>mn a s10 z Wy);let s12:=jy s11 rfl (h10.c W λ_ z=>mn a s11 z WH);let s13:=jy s12 rfl (h11.c W λ_ z=>mn a s12 z WJ);let s14:=jy s13 rfl (h12.c W λ_ z=>mn a s13 z WI);let s15:=jy s14 rfl (h13.c W λ_ z=>mn a s14 z Wp);let s16:=jy s15 rfl (h22.k b W λ_ z=>jD a s15 z Wv);let i:=jy s16 rfl (h23.mt b W λ_ z=>jD a s16 z Ww);let Z:=jy i rfl (h24.mt b W λ_ z=>jD a i z WK);let Y:=jy Z rfl (h25.mt b W λ_ z=>jD a Z z Wc);let U:=jy Y rfl (h26.mt b W λ_ z=>jD a Y z WN);let S:=jy U rfl (h27.mt b W λ_ z=>jD a U z Wh);let R:=jy S rfl (h28.mt b W λ_ z=>jD a S z We);let Q:=jy R rfl (h29.mt b W λ_ z=>jD a R z Wm);let N:=jy Q rfl (h30.mt b W λ_ z=>jD a Q z WF);let M:=jy N rfl (h31.mt b W λ_ z=>jD a N z WC);let L:=jy M rfl (h32.mt b W λ_ z=>jD a M z WG);let J:=jy L rfl (h33.mt b W λ_ z=>jD a L z Wd);let I:=jy J rfl (h34.mt b W λ_ z=>jD a J z Wa);let E:=jy I rfl (h35.mt b W λ_ z=>jD a I z WB);let C:=jy E rfl (h14.c W λ_ z=>jD a E z WE);let B:=jy C rfl (h37.mt n W λ_ z=>OJ a C z WO);let A:=jy B rfl (h38.k n W λ_ z=>OJ a B z Wt);let m:=jy A rfl (h15.d W λ_ z=>OJ a A z Wx);let s34:=jy m rfl (D.c (ds:=[.int 400 aap]) W (.cons ⟨_,rfl⟩ .nil) λ_ z=>NB a m z VI);let y:=jy s34 rfl (D.c (ds:=[]) W .nil λ_ z=>NB a m z VI);let u:=jy y rfl (h17.c W λ_ z=>jD a y z QD);let t:=jy u rfl (h18.c W λ_ z=>jD a u z Ub);let s38:=jy t rfl (h19.c W λ_ z=>uR z (t 34 _ () rfl) aa8 LR rfl q hdR d (a.bl "len" (by left)));show(jD a s38 agM WM).imp λ_ _ _ _ h=>L10.Q0 h
end K71
local macro_rules|`(universe $i*)=>do
 let t:=fun (c:Lean.Name)=>`(theorem $(Lean.mkIdent ((`PySem.W.Fast).str ("tw"++toString c.hash))):ident:True:=trivial)
 let b:=`PySem.Challenge.cw_chordbed_k71_typing_rooms_holds
 let o←(List.range 464).mapM fun n=>t (b.str ("o_"++toString n))
 let l←i.mapM fun j=>t (b++j.getId)
 return Lean.mkNullNode (((o.toArray++l).push (←t `PySem.Challenge.pw_chordbed_k71_typing_rooms)))
universe heap_39 heap_464 view_39 tree_463 tree_454 tree_378 tree_326 sts_379 tree_299 sts_74 tree_183 tree_264 sts_327 sts_455 sts_49 sts_268 sts_300 tree_73 heap_46 tree_47 env_41
open PySem PySem.W PyProof.Rows
set_option maxRecDepth 100000 in
set_option maxHeartbeats 0 in
theorem PySem.Challenge.cw_chordbed_k71_typing_rooms_holds : PySem.Challenge.rw_chordbed_k71_typing_rooms.Holds := by
 w_on;o_law;k_head;(case hw=>w_witness2)
 k_fill
 refine L3.Sy (l:=PySem.Challenge.rw_chordbed_k71_typing_rooms) (n:=63) (k:=13) (x:= "_law_script") (F:=K71.F_lawH) rfl (by decide) rfl ⟨rfl,by decide,by decide⟩ (λw h Y=>PySem.W.kIn_of Y) ?F K71.main
 case F=>
  intro w e f h b G a
  apply K71.all_mk b G a
  all_goals ext:9
