import PyProof.Rows.All
import Wide.All
import OpenK.AllK
import Wide.FinOn
import Lean
import PyProof.EqAt
import PyProof.EqKinds
import PyProof.TupleCall
import KE.KIntText
import KE.KRevSl
import PyProof.Rows.SeqMore
import PyProof.WalkInts
import PyProof.Rows.MinMaxN
import PyProof.ExcInit
import OpenK.KMake
import PyProof.InstStoreFacts
import PyProof.FString2
import PyProof.Rows.FStr
import PyProof.Rows.SetFrom
import PyProof.SeqRoads2
import PyProof.RangeFor
import PyProof.WalksMore
import PyProof.StrBlock2
import PyProof.Rows.SortShell
import PyProof.TupleOfSeq
import KE.KDictList
import KE.KDictOf
import PyProof.IsiH_tuple
import PyProof.Rows.RuleN_abs
import PyProof.Rows.Range3
import KE.KRevIter
import PyProof.StrLawsRepr
import PyProof.ReprStr
import PyProof.IsiH_list
import PyProof.Rows.TupDisplay
import PyProof.SetKind
import PyProof.SetScanFacts
import PyProof.CollectIter
import PyProof.Rows.SortStr
import PySem.Challenge.RW_chordbed_k72_typed
set_option compiler.extract_closed false
set_option genSizeOf false
set_option genInjectivity false
set_option Elab.async false
set_option linter.all false
set_option maxRecDepth 100000
abbrev ax:=@if_pos
abbrev bb:=@if_neg
abbrev bg:=@decide_eq_true
abbrev bt:=@decide_eq_false
abbrev b3:=@of_decide_eq_true
abbrev b4:=@absurd
abbrev b5:=@List
abbrev b7:=@Option
abbrev b9:=@PySem.Heap.get?_push_of_some
abbrev cc:=@PySem.Heap.lt_size
abbrev ck:=@PySem.Heap.get?_push_size
abbrev cn:=@PySem.Heap.get?_update_other
abbrev cv:=@PySem.Heap.get?_update_self
abbrev c9:=@PySem.Heap.size_push
abbrev da:=@PySem.Heap.get?_none_of_le
abbrev dt:=@PySem.Obj.data_mapFields
abbrev dw:=@PySem.Obj.isFreed_of_fields
abbrev dN:=@Ne.symm
abbrev d7:=@congrArg
abbrev d9:=@beq_self_eq_true
open Lean in
def cvP:Nat→TSyntax `term→MacroM (TSyntax `rcasesPat)
 |0,_=>Macro.throwUnsupported
 |n+1,t=>let f:=fun (a:Array Term)=>do
   let l←(←a.mapM (cvP n)).mapM fun p=>`(Lean.Parser.Tactic.rcasesPatLo|$p:rcasesPat)
   `(rcasesPat|⟨$l,*⟩)
  match t with
  |`(⟨$a,*⟩)=>f a
  |`(($a,$b,*))=>f (#[a]++b.getElems)
  |`($i:ident)=>`(rcasesPat|$i:ident)
  |`(_)=>`(rcasesPat|_)
  |_=>Macro.throwUnsupported
local macro_rules|`(tactic|let $d:letDecl)=>`(tactic|have $d:letDecl)
local macro_rules|`(tactic|let $p:term:=$e)=>if p.raw.isIdent then Lean.Macro.throwUnsupported else do let q←cvP 99 p;`(tactic|obtain $q:rcasesPat:=$e)
local macro_rules|`(tactic|left)=>`(tactic|decide+kernel)|`(tactic|change $e)=>`(tactic|with_reducible exact $e)|`(tactic|specialize $e)=>`(tactic|with_reducible refine $e)
local macro_rules|`(def $i:declId $s:optDeclSig $v:declVal)=>if v.raw[1].isOfKind ``Lean.Parser.Term.byTactic then `(theorem $i:declId $(⟨Lean.mkNode ``Lean.Parser.Command.declSig #[s.raw[0],s.raw[1][0]]⟩):declSig $v:declVal) else `(noncomputable def $i:declId $s:optDeclSig $v:declVal)|`(abbrev $i:declId $s:optDeclSig $v:declVal)=>`(noncomputable abbrev $i:declId $s:optDeclSig $v:declVal)
local macro_rules|`(tactic|ext)=>`(tactic|decide)
local macro_rules|`(tactic|ext)=>`(tactic|omega)
local macro_rules|`(tactic|ext)=>`(tactic|lia)
local macro_rules|`(tactic|show $e)=>`(tactic|refine $e)
local macro_rules|`(tactic|ext $i:ident)=>`(tactic|cases $i:ident)
local macro_rules|`(tactic|ext $i:ident)=>`(tactic|unfold $i:ident)
local macro_rules|`(#[$a,*])=>`(⟨$a,*⟩)|`(#v[$a,*])=>`(List.toArray [$a,*])
local macro_rules|`(())=>`(by ext)
open Option renaming some->cL,none->Ld,bind_eq_some_iff->Xa,isSome_iff_exists->XQ,isNone_iff_eq_none->YH,isSome_map->ZD,map_eq_some_iff->Z2,isSome_some->adl,toList_none->adn,getD_none->adS,getD_some->adU
open PySem.W renaming Frag->lD,nsIn->WI,findIn->WW,emptyDict->XH,fnOf->XI,keepIn->XT,mg_of->X3,instObj->Yb,isFn->Yp,hasDictIn->Yx,kia_one->YO,specialIn->YV,cellsFrom_some->YW,plainGet->Y8,excIn->Zc,callWith_K->Zo,codeIn->Zp,methodCall_KW->Z5,lookIn->aac,InstAt->aad,tailIn->aah,plainGet_of->aas,methodObj->aaL,plainOver->aaM,takerIn->aa9,makesIn->aba,readsIn->abc,findCls->abd,nsOkIn->abr,pyHash_slot->acG,tail_of_in->acU,handedIn->adz,OpenLaw->adV,typeIn->ad5,kitOne->ad7,notCls->aeb,mroIn->aeI,clsIn->aeK
open PySem renaming wpAny_bind->CL,Value->V5,PyData->Wa,Addr->Wd,Shared->We,wpAny_pure->Wf,sizeLine->Wm,starEach->Wu,mainGlobals->Wx,Expr->Wy,Program->Wz,NameKind->WA,Around->WQ,World->WX,wpAny_field->Xe,bootBuiltins->Xg,FuncData->Xj,wpAny_newObj_type->Xu,compareOp->Xx,wpAny_seqItems->XB,wpAny_holding->XN,wpAny_truthy_bool->XO,wpAny_Call_Name_kw->XX,Stmt->X1,mem_of_lookup->X2,wpAny_callSpecial?_slot->X4,wpAny_loadPart_at->X6,cellsFrom->Yc,wpAny_call_entry->Yd,sysModules->Yf,Scope->Yk,wpAny_standAt->Yq,swapsWith->Yu,binaryOp->Yv,wpAny_setField->Yw,sizeLine_eq->YA,wpAny_setField_rec->YB,wpAny_passesOwn->YE,plainId_quiet->YF,wpAny_letGo->YQ,codeAny_call_builtin->YR,wpAny_isSubtype_exc->YX,wpAny_execs_nil->Y1,codeAny_builtin->Y2,wpAny_ite_split->Y4,DictEntry->Za,wpAny_getItem_str_slice->Zb,wpAny_typeOf->Zk,ExcBaseFacts->Zm,builtinLookup_eq_fast->Zn,call_meets->Zq,Comprehension->Zx,wpAny_pyIter_list->ZI,codeAny_mono->ZL,wpAny_call->ZX,Keyword->Z8,GenState->aar,wpAny_isInstance->aat,ItemsOf->aau,BindsTo->aaz,wpAny_rule->aaA,post_val_or_str->aaG,wpAny_specialOf->aaH,typeLookup_type->aaI,wpAny_updateSeq->aaJ,wpAny_pyIter_tuple->aaN,Result->aaW,IsPart->aaX,ReadsAll->aaY,wpAny_updateSeq_pair->aaZ,wpAny_tryCatch->aa0,CmpOp->abh,wpAny_onRaise->abj,typeIs_int->abp,tupleKind_room_in1->abq,ZipApart->abE,wpAny_Call_ofName->abF,eqIsQuiet_byValue->abG,plainObj_wpAny_Assign_Attribute->abM,wpAny_execs_cons->abY,PassesOwn->abZ,wpAny_of_eq->acf,Within->acm,pushCells_keeps->acn,OsState->acF,Model->acM,Operator->acN,Code->acO,typeIs_str->acP,Reads->acR,IsZip->acS,wpAny_binaryOp_repeat_ref->adm,wpAny_comprehension_free->adA,Drawn->adR,JoinOk->ad8,wpAny_Assign_Subscript->ad9,wpAny_isTrue_Compare1->aeH,wpAny_loadName_local->aeU,wpAny_loadName_cell->afl,wpAny_raiseNew_none->afn,wpAny_Name->afG,wpAny_Constant_int->afH,wpAny_load->afJ,wpAny_getItem_heap->afK,wpAny_setItem_heap->afL,wpAny_assign_Name->agq,wpAny_sequenceKey->agr,slot_list_getitem->ags,OwnTail->agt,wpAny_pyHash_int->agT,wpAny_pyHash_str->agU,wpAny_lookBehind->ag0,pastItsLine_dict->ag1,noFill_tuple_add->ag3,call->ag5,wpAny_pyIter_zip->ag6,beq_builtin_none->ag7,wpAny_Compare1->ajh,wpAny_Expr_any->aji,wpAny_loadPart->ajk,refuseLoop_ref->ajr,isSubtype_type->ajs,callType_codes->ajt,intBits_le_64->alj,seq_tuple_add->alk,evalPart_none->alm,call_list_seq->aln,wpAny_attempt->alo,wpAny_in_heap->alp,strLen_append->alq,wpAny_newList->alr
open Bool renaming true->V6,and_eq_true->V7,false->V8,false_ne_true->Wr,and_self->Xv,or_eq_true->Xz,not_eq_true'->Yi,false_eq_true->Yt,true_or->YL,eq_iff_iff->YS,or_true->Zw,false_or->ZT,true_and->ZU,false_and->aaw,and_true->aaO,noConfusion->abl,or_false->ace,not_true->ach,or_eq_false_iff->ado,and_false->afm,bne_false->afo
open List renaming length_map->V9,getElem?_eq_some_iff->Wb,mem_cons_self->Wh,length_append->Wi,mem_cons_of_mem->Wj,replicate->Wk,getElem?_map->Wl,getElem?_append_left->Wn,length_cons->Wo,size_toArray->Ws,map_cons->Wv,getElem?_eq_getElem->Ww,mem_singleton->WB,mem_cons->WE,map_append->WJ,range->WK,mem_of_getElem?->WL,mem_map->WM,getElem?_append_right->WO,mem_append_right->WY,map_map->W2,getElem?_set_ne->W3,append_nil->W5,lookup_cons->W7,isEmpty_iff->W8,find?_cons->W9,append_assoc->Xb,mem_append->Xd,mem_iff_getElem?->Xi,length_take->Xl,getElem?_set_self->Xm,mem_filter->Xo,length_set->Xp,replicate_succ->Xr,getElem?_set->Xs,length_range->Xt,length_replicate->Xy,pairwise_cons->XA,mem_append_left->XD,all_eq_true->XF,not_mem_nil->XG,nodup_cons->XM,pairwise_singleton->XY,drop_eq_nil_of_le->X5,lookup->Yg,flatten_cons->Yh,mem_range->Ym,getElem?_replicate->Yn,length_nil->Yy,all_cons->Yz,length_drop->YK,take_length->YM,drop_eq_getElem_cons->YN,of_mem_zip->YT,take_add_one->Y3,reverse_cons->Y5,nodup_append->Y6,length_singleton->Zf,length_filter_le->Zg,filter_cons->Zi,any_cons->Zl,map_congr_left->Zr,map_nil->Zv,mem_filterMap->Zy,contains_cons->Zz,mem_of_find?_eq_some->ZJ,length->ZM,pairwise_map->ZN,filterMap_cons_none->ZV,filterMap_cons_some->ZW,mem_flatMap->Z3,foldl->Z9,take_of_length_le->aaa,foldl_cons->aae,forIn_cons->aag,contains_iff_mem->aan,nodup_nil->aax,mem_of_mem_take->aay,filterMap_cons->aaF,length_reverse->aaK,map_inj_right->aaU,getElem_mem->abi,any_eq_true->abm,nil_append->abA,forIn_nil->abO,drop_zero->abQ,getElem?_take_of_lt->acd,getElem?_cons_succ->aco,getElem?_cons_zero->acp,filter_cons_of_pos->acq,filter_cons_of_neg->acr,pairwise_lt_range->acI,getElem?_eq_none->acX,pairwise_append->adp,flatten_append->adC,set_cons_zero->adW,set_cons_succ->adX,mem_replicate->adY,getElem?_inj->aea,zipIdx_cons->aeJ,cons_append->aeL,map_reverse->aeM,zipIdx_nil->aeW,headD_cons->aeX,filterMap->afr,take_nil->afM,Nodup->aif,map->alu
open Nat renaming le_of_ble_eq_true->Wc,le_refl->Wg,lt_of_lt_of_le->WC,ne_of_lt->WG,le_trans->WU,zero_le->W0,ne_of_gt->Xn,lt_irrefl->XJ,zero_add->Yj,add_sub_cancel_left->YZ,lt_trans->Y9,lt_succ_self->Zj,le_succ->ZQ,le_of_succ_le->ZR,lt_succ_of_lt->ZS,le_of_lt->aab,add_assoc->aaT,min_le_right->abo,le_add_right->abu,mul_le_mul->ab1,add_comm->acQ,sub_zero->acT,sub_self->acW,lt_of_le_of_lt->ad6,min_eq_left->afp,not_lt_zero->afq,le_of_eq->ag2,succ_mul->ag4,max_le->ajv
open Option.some renaming inj->Wt
open PyProof.Rows renaming envOfC->WZ,slot_tuple_getitem->Xq,callWith_type1->XU,callWith_builtin1->aic,kws_cons->aid,kws_nil->aie
open Array renaming length_toList->Xh,getElem?_eq_some_iff->Xk,getElem?_toList->Zd,getElem?_setIfInBounds_self_of_lt->aam,getElem?_setIfInBounds_ne->aa7,getElem?_eq_getElem->abS,toArray_toList->acV,find?_toList->ady,forIn_toList->adB,all_toList->aec,toList->afI
open Int renaming toNat_natCast->X0,le_refl->aaB,ofNat->abt,toNat->acH,toNat_of_nonneg->adT,emod_lt_of_pos->aed,emod_nonneg->afs
open PySem.F renaming excBase_ValueError->YC,attrBase_ValueError->abk,slot_dict_getitem->abB,args_tuple_add_2->abD,slot_dict_values->abH,slot_list_append->abI,type_list_append->abJ,entry_tuple_add->abN,plainAttrs_dict->abP,slot_tuple_add->ab0,slot_dict_pop->acg
open PySem.SeqAt renaming eqv_refl->ZY,compareEq_reads->ajl,compareNe_reads->ajm,in_list_reads->ajn,in_tuple_reads->ajo,notIn_list_reads->ajp,notIn_tuple_reads->ajq
open List.Pairwise renaming nil->aaf,filterMap->ag8,filter->ahd
open List.Perm renaming refl->abb,swap->am7
open PySem.Str renaming join->abe
open Int.ofNat renaming inj->abv
open PySem.EqMixed renaming eq_bool_str->agV,eq_int_str->agW,eq_str_bool->agX,eq_str_int->agY
open PySem.W.Looks renaming here->agZ
open PySem.StrLaws renaming sliced_plain->ag9,strSliceIndices_plain->aha,joinFits->ahb,glued_eq_join->ahc
open PySem.EqNone renaming eq_none_none->ah4,eq_none_bool->ah5,eq_none_int->ah6,eq_none_str->ah7,eq_bool_none->ah8,eq_int_none->ah9,eq_str_none->aia
open PySem.Within renaming cons->aib
open List.Nodup renaming sublist->als
open PySem.IsL renaming update->am6
open List.cons renaming injEq->am9
abbrev W:=@rfl
abbrev G:=@List
abbrev I:=@Option
open Option renaming some->M,none->P
open Bool renaming true->S,false->R
open PySem renaming Addr->J,Value->U
namespace L2
open PySem PySem.Spec PyProof.Rows
abbrev bZ:=Sum Int Str
def sk:bZ->U->Bool
 |.inl k,v=>V5.isInt k v
 |.inr x,v=>V5.isStrOf x v
def UC(w:WX):bZ->Int
 |.inl k=>hashInt k
 |.inr x=>hashStr w x
theorem cx:∀{k:bZ} {v:U},sk k v=S->(∃i t,k=Sum.inl i/\v=V5.int i t)\/(∃x t,k=Sum.inr x/\v=V5.str x t)
 |.inl i,v,h=>by let(t,e):=V5.isInt_shape h;show .inl #[i,t,W,e]
 |.inr x,v,h=>by let(t,e):=V5.isStrOf_shape h;show .inr #[x,t,W,e]
def CJ(i:Int)(t:Tok):sk (.inl i) (.int i t)=S:=by simp[sk,V5.isInt]
def BP(x:Str)(t:Tok):sk (.inr x) (.str x t)=S:=by simp[sk,V5.isStrOf]
def OS(a b:Int):decide ((Sum.inl a:bZ)=Sum.inl b)=(a==b):=by
 by_cases e:a=b
 .subst e;simp
 .let h:¬(Sum.inl a:bZ)=Sum.inl b:=λq=>e (Sum.inl.inj q);rw[bt h];show(beq_eq_false_iff_ne.mpr e).symm
def QB(a b:Str):decide ((Sum.inr a:bZ)=Sum.inr b)=decide (a=b):=by
 by_cases e:a=b
 .subst e;simp
 .let h:¬(Sum.inr a:bZ)=Sum.inr b:=λq=>e (Sum.inr.inj q);rw[bt h,bt e]
theorem Nx(a:Int)(b:Str):decide ((Sum.inl a:bZ)=Sum.inr b)=R:=bt (λq=>nomatch q)
theorem NC(a:Str)(b:Int):decide ((Sum.inr a:bZ)=Sum.inl b)=R:=bt (λq=>nomatch q)
def cb(prog:Wz)(w:WX):PySem.KeyKind prog w bZ where
 is:=sk
 hash:=UC w
 inj:=λv a b m g=>by
  rcases cx m with⟨i,t,rfl,rfl⟩|⟨x,t,rfl,rfl⟩
  .rcases cx g with⟨j,u,rfl,e⟩|⟨y,u,rfl,e⟩
   .injection e with e1 _;rw[e1]
   .show nomatch e
  .rcases cx g with⟨j,u,rfl,e⟩|⟨y,u,rfl,e⟩
   .show nomatch e
   .injection e with e1 _;rw[e1]
 byValue:=λk v h=>by rcases cx h with⟨i,t,rfl,rfl⟩|⟨x,t,rfl,rfl⟩<;>rfl
 pyHash:=λf h=>by
  rcases cx f with⟨i,t,rfl,rfl⟩|⟨x,t,rfl,rfl⟩
  .show agT h
  .show agU h
 eqBool:=λl f h=>by
  rcases cx l with⟨i,t,rfl,rfl⟩|⟨x,t,rfl,rfl⟩
  .rcases cx f with⟨j,u,rfl,rfl⟩|⟨y,u,rfl,rfl⟩
   .rw[OS]at h;show wpAny_eqBool_int h
   .rw[Nx]at h;show SeqAt.EqAt.int_str i t y u _ _ _ _ h
  .rcases cx f with⟨j,u,rfl,rfl⟩|⟨y,u,rfl,rfl⟩
   .rw[NC]at h;show SeqAt.EqAt.str_int x t j u _ _ _ _ h
   .rw[QB]at h;show wpAny_eqBool_str h
 «strs»:=λk x t v h=>by
  rcases cx h with⟨i,u,rfl,e⟩|⟨y,u,rfl,e⟩
  .show nomatch e
  .injection e with e1 _
   subst e1;ext v<;>rfl
theorem wQ(prog:Wz)(w:WX)(i:Int)(t:Tok):(cb prog w).is (.inl i) (.int i t)=S:=CJ i t
theorem vK(prog:Wz)(w:WX)(x:Str)(t:Tok):(cb prog w).is (.inr x) (.str x t)=S:=BP x t
inductive V where
 |Ye|bl (b:Bool)|int (i:Int)|str (x:Str)|byt (b:Array UInt8)|flt (b:UInt64)|ref (a:J)|ty (n:String)
 deriving DecidableEq
def RelV:V->U->Prop
 |.Ye,u=>u=V5.none
 |.bl b,u=>u=V5.bool b
 |.int i,u=>∃t,u=V5.int i t
 |.str x,u=>∃t,u=V5.str x t
 |.byt b,u=>∃t,u=V5.bytes b t
 |.flt b,u=>∃t,u=V5.float b t
 |.ref a,u=>u=V5.ref a
 |.ty n,u=>u=V5.type n
abbrev Vals:G V->G U->Prop:=Paired RelV
theorem Vals.length(r:Vals xs us):xs.length=us.length:=Paired.length r
theorem Vals.get:∀{xs:G V} {us:G U} {i:Nat} {x:V},Vals xs us->xs[i]?=M x->∃u,us[i]?=M u/\RelV x u
 |_,_,_,_,.nil,e=>by simp at e
 |_,_,0,_,.cons r _,e=>by simp at e;subst e;show#[_,W,r]
 |_,_,i+1,x,.cons _ t,e=>by let(u,b,a):=Vals.get t (by simpa using e);show#[u,by simpa using b,a]
theorem Vals.append:∀{xs a:G V} {us ws:G U},Vals xs us->Vals a ws->Vals (xs++a) (us++ws)
 |_,_,_,_,.nil,s=>s
 |_,_,_,_,.cons r t,s=>.cons r (Vals.append t s)
theorem Vals.take:∀{xs:G V} {us:G U} (n:Nat),Vals xs us->Vals (xs.take n) (us.take n)
 |_,_,0,_=>.nil
 |_,_,_+1,.nil=>.nil
 |_,_,n+1,.cons r t=>.cons r (Vals.take n t)
theorem Vals.drop:∀{xs:G V} {us:G U} (n:Nat),Vals xs us->Vals (xs.drop n) (us.drop n)
 |_,_,0,r=>r
 |_,_,_+1,.nil=>.nil
 |_,_,n+1,.cons _ t=>Vals.drop n t
def ZH:I V->I U->Prop
 |some v,M u=>RelV v u
 |none,P=>True
 |_,_=>False
def KV:G (o×V)->G (o×U)->Prop:=Paired λ(p:o×V) (q:o×U)=>p.1=q.1/\RelV p.2 q.2
def kV:bZ->V
 |.inl i=>.int i
 |.inr x=>.str x
inductive HO where
 |lst (xs:G V)
 |tup (xs:G V)
 |dK (WH:G (bZ×V))|dT (WH:G (G bZ×V))
 |set (S:Int->Bool) (n:Nat)
 |ins (C dx:J) (fs:G (Str×V))
 |own (x:J)
 |xd (fs:G (Str×V))
 |met (f x:J)
 |rng (lo hi:Int)
 |frz (o:Obj) (u:HO)
 |tbl (ps:Array U)
 |ext (φ:Heap->Prop)
 |exw (φ:WX->Heap->Prop)
abbrev Hp:=J->I HO
def aW(H:Hp)(a:J)(o:HO):Hp:=λb=>if b=a then M o else H b
def az:aW H a o a=M o:=by ext aW;rw[ax W]
def ar(h:b≠a):aW H a o b=H b:=by ext aW;rw[bb h]
def RH{H:Hp}{a b:J}{o u:HO}(h:H a=M o)(c:H b=M u)(d:o≠u):a≠b:=by intro e;subst e;rw[h]at c;show d (Wt c)
def bw{H:Hp}(h:H a=M o)(c:H b=P):a≠b:=by intro e;subst e;rw[h]at c;ext c
def abf(h:Heap)(a:J)(items:Array U):Prop:=∃o,h.get? a=M o/\(o.cls=.type "tuple"/\∃n,o.data=.seq items n)/\o.dict=P
theorem abf.tup(x:abf h a items):IsTup h a items:=let#[o,e,c,_]:=x;#[o,e,c]
theorem abf.lt(x:abf h a items):a<h.objs.size:=let#[_,e,_]:=x;cc e
theorem abf.new(h:Heap)(xs:Array U):abf (h.push {cls:=.type "tuple",data:=.seq xs}) h.objs.size xs:=#[_,ck _ W,#[W,_,W],W]
section
variable(P:Wz)(w:WX)
def ObjOk(H:Hp)(h:Heap)(a:J):HO->Prop
 |.lst xs=>xs.length<=Wm/\∃(b:G U) (n:Nat),Vals xs b/\h.get? a=M {cls:=.type "list",data:=.seq b.toArray n}
 |.tup xs=>xs.length<=Wm/\∃b:G U,Vals xs b/\abf h a b.toArray
 |.dK l=>l.length<=Wm/\(a==Yf)=R/\∃r,KV l r/\h.DictOf (cb P w) a r
 |.dT l=>l.length<=Wm/\(a==Yf)=R/\∃xs:G (G bZ×J×U),
   Paired (λ(p:G bZ×V) (q:G bZ×J×U)=>p.1=q.1/\H q.2.1=M (.tup (p.1.map kV))/\RelV p.2 q.2.2) l xs/\
   ∃o es B,h.get? a=M o/\o.ExactDict/\o.data=.dict es B/\es.toList=xs.map (entryOfKey (tupleKind (cb P w)))/\(xs.map (·.1)).Nodup
 |.set e n=>h.SetOf (intKind P w) a e n
 |.ins C m fs=>H m=M (.own a)/\fs.length<=1000/\m≠a/\h.get? a=M (Yb C m)/\
   ∃i,h.Ns1 m i/\(∀f,ZH (fs.lookup f) (i f))/\acm i (fs.map (·.1))
 |.own _=>∃o,h.get? a=M o
 |.xd fs=>∃i,h.Ns1 a i/\∀f,ZH (fs.lookup f) (i f)
 |.rng lo A=>∃t u v,h.get? a=M {cls:=.type "range",data:=.fields #v[.int lo t,.int A u,.int 1 v]}
 |.frz o u=>h.get? a=M o/\ObjOk H h a u
 |.tbl y=>h.get? a=M {cls:=.none,data:=.fields y}
 |.met f x=>h.get? a=M (aaL (.ref f) (.ref x))
 |.ext g=>g h/\(∃o,h.get? a=M o)/\∀h1 j:Heap,g h1->(∀o,h1.get? a=M o->j.get? a=M o)->g j
 |.exw g=>g w h/\(∃o,h.get? a=M o)/\∀h1 j:Heap,g w h1->(∀o,h1.get? a=M o->j.get? a=M o)->g w j
def HOk(H:Hp)(h:Heap):Prop:=∀a o,H a=M o->ObjOk P w H h a o
end
section
variable{P:Wz}{w:WX}{H Z:Hp}{h h':Heap}{a:Wd}{o:HO}
def ObjOk.lt(x:ObjOk P w H h a o):a<h.objs.size:=by
 cases o with
 |lst xs=>let(_,_,_,_,e):=x;show cc e
 |tup xs=>let(_,_,_,p):=x;show p.lt
 |dK i=>let(_,_,_,_,o,_,_,e,_):=x;show cc e
 |dT i=>let(_,_,_,_,o,_,_,e,_):=x;show cc e
 |set S n=>let(o,_,_,_,e,_):=x;show cc e
 |ins C m fs=>let(_,_,_,e,_):=x;show cc e
 |own y=>let(_,e):=x;show cc e
 |xd fs=>let(_,(_,_,_,e,_),_):=x;show cc e
 |rng lo l=>let(_,_,_,e):=x;show cc e
 |frz b u=>let(e,_):=x;show cc e
 |tbl j=>show cc (show h.get? a=M _ from x)
 |met f y=>show cc (show h.get? a=M _ from x)
 |ext g=>let(_,(_,e),_):=x;show cc e
 |exw g=>let(_,(_,e),_):=x;show cc e
theorem Paired.ZF:∀{d:b5 α} {c:b5 β},Paired F d c->(∀a b,F a b->e a b)->Paired e d c
 |_,_,.nil,_=>.nil
 |_,_,.cons r t,f=>.cons (f _ _ r) (Paired.ZF t f)
def ObjOk.Z0(x:ObjOk P w H h a o)(k:∀b u,(b=a\/H b=M (.own a))->h.get? b=M u->h'.get? b=M u)
  (F:∀b,H b=M (.own a)->Z b=M (.own a)) (E:∀b xs,H b=M (.tup xs)->Z b=M (.tup xs)):ObjOk P w Z h' a o:=by
 induction o with
 |lst xs=>let(z,A,n,r,e):=x;show#[z,A,n,r,k _ _ (.inl W) e]
 |tup xs=>let(z,A,r,g,e,c):=x;show#[z,A,r,g,k _ _ (.inl W) e,c]
 |dK O=>let(z,y,N,r,g,es,i,e,c):=x;show#[z,y,N,r,g,es,i,k _ _ (.inl W) e,c]
 |dT O=>let(z,y,xs,r,g,es,i,e,c):=x;show#[z,y,xs,Paired.ZF r λp q z=>#[z.1,E _ _ z.2.1,z.2.2],g,es,i,k _ _ (.inl W) e,c]
 |set S n=>let(g,es,i,t,e,c):=x;show#[g,es,i,t,k _ _ (.inl W) e,c]
 |ins C T fs=>let(d,z,ne,e,m,(l,es,i,e2,c),r):=x;show#[F _ d,z,ne,k _ _ (.inl W) e,m,#[l,es,i,k _ _ (.inr d) e2,c],r]
 |own y=>let(g,e):=x;show#[g,k _ _ (.inl W) e]
 |xd fs=>let(m,(l,es,i,e,c),r):=x;show#[m,#[l,es,i,k _ _ (.inl W) e,c],r]
 |rng lo Q=>let(t,u,v,e):=x;show#[t,u,v,k _ _ (.inl W) e]
 |frz g u B=>let(e,q):=x;show#[k _ _ (.inl W) e,B q]
 |tbl K=>let e:h.get? a=M {cls:=.none,data:=.fields K}:=x;show h'.get? a=M {cls:=.none,data:=.fields K};show k a _ (.inl W) e
 |met f y=>let e:h.get? a=M (aaL (.ref f) (.ref y)):=x;show h'.get? a=M (aaL (.ref f) (.ref y));show k a _ (.inl W) e
 |ext L=>let(p,(o,e),j):=x;show#[j _ _ p λo q=>k _ _ (.inl W) q,#[o,k _ _ (.inl W) e],j]
 |exw L=>let(p,(o,e),j):=x;show#[j _ _ p λo q=>k _ _ (.inl W) q,#[o,k _ _ (.inl W) e],j]
theorem HOk.lt(x:HOk P w H h)(e:H a=M o):a<h.objs.size:=(x a o e).lt
def HOk.fresh(x:HOk P w H h)(e:h.objs.size<=a):H a=Ld:=by
 cases q:H a with
 |none=>rfl
 |some u=>show b4 (WC (x.lt q) e) (XJ _)
theorem HOk.kept(x:HOk P w H h)(k:∀b u,h.get? b=M u->h'.get? b=M u):HOk P w H h':=λa o e=>
 (x a o e).Z0 (λb u _ q=>k b u q) (λ_ q=>q) λ_ _ q=>q
theorem HOk.laid(x:HOk P w H h)(k:∀b u,h.get? b=M u->h'.get? b=M u)(g:h.objs.size<=a)(new:ObjOk P w (aW H a o) h' a o):HOk P w (aW H a o) h':=λb u e=>by
 let i:=x.fresh g;by_cases f:b=a
 .subst f;rw[az]at e;ext e;show new
 .rw[ar f]at e;show(x b u e).Z0 (λc v _ q=>k c v q) (λc q=>by rw[ar (bw q i)];show q) λc xs q=>by rw[ar (bw q i)];show q
end
def Rd(H:Hp)(a:J)(u:HO):Prop:=H a=M u\/∃o,H a=M (.frz o u)
def Rd.ok(r:Rd H a u)(x:HOk b w H h):ObjOk b w H h a u:=by
 rcases r with r|⟨o,r⟩
 .show x a u r
 .let(_,q):=x a _ r;show q
def R9:I HO->Prop
 |some (.lst _)=>True
 |some (.dK _)=>True
 |some (.dT _)=>True
 |some (.set _ _)=>True
 |some (.ins _ _ _)=>True
 |some (.ext _)=>True
 |some (.exw _)=>True
 |_=>False
section
variable{P:Wz}{w:WX}{H:Hp}{h h':Heap}{x e:Wd}{Z:HO}
theorem HOk.write(ok:HOk P w H h)(g:R9 (H x))(o:e=x\/H e=M (.own x))(k:∀b u,b≠e->h.get? b=M u->h'.get? b=M u)(l:∃u,h'.get? e=M u)
  (new:ObjOk P w (aW H x Z) h' x Z):HOk P w (aW H x Z) h':=λb u q=>by
 let f:∀c y,H c=M (.own y)->c≠x:=λc y r z=>by subst z;rw[r]at g;show g
 let m:∀c xs,H c=M (.tup xs)->c≠x:=λc xs r z=>by subst z;rw[r]at g;show g
 by_cases j:b=x
 .subst j;rw[az]at q;ext q;show new
 .rw[ar j]at q
  by_cases a:b=e
  .let n:H b=M (.own x):=by
    rcases o with z|z
    .show b4 (a.trans z) j
    .rw[a];show z
   rw[q]at n;ext n;let(v,p):=l;show#[v,by rw[a];show p]
  .show(ok b u q).Z0 (λc v i r=>k c v ?_ r) (λc r=>by rw[ar (f c b r)];show r) λc xs r=>by rw[ar (m c xs r)];show r
   rcases i with rfl|i
   .show a
   .rintro rfl
    rcases o with z|z
    .show f c b i z
    .rw[i]at z;ext z;show j W
end
structure Un(fs ex:G J)(H H':Hp)(h h':Heap):Prop where
 keep:∀b o,h.get? b=M o->H b=P->b∉fs->b∉ex->h'.get? b=M o
 slot:∀b o,h.get? b=M o->H b=P->b∈fs->b∉ex->∃sl,h'.get? b=M {o with slots:=sl}
 free:∀b o,h.get? b=M o->H b=P->b∉ex->H' b=P
 there:∀b o,h.get? b=M o->b∉ex->∃o',h'.get? b=M o'
 aa2:∀b xs,H b=M (.tup xs)->H' b=M (.tup xs)
 aaQ:∀b o u,H b=M (.frz o u)->H' b=M (.frz o u)
 aa6:∀b ps,H b=M (.tbl ps)->∃more,H' b=M (.tbl (ps++more))
section
variable{fs X Z T:b5 Wd}{H Q O:Hp}{h Y N h':Heap}{a x e:Wd}{o:HO}
def Un.any(u:Un fs Z H Q h Y)(q:h.get? b=M ob)(n:H b=P)(f:b∉Z):∃c,Y.get? b=M {ob with slots:=c}:=by
 by_cases g:b∈fs
 .show u.slot b ob q n g f
 .show#[ob.slots,u.keep b ob q n g f]
theorem Un.kept(k:∀b u,h.get? b=M u->h'.get? b=M u):Un fs Z H H h h':=
 #[λb f q _ _ _=>k b f q,λb f q _ _ _=>#[f.slots,k b f q],λ_ _ _ n _=>n,λb f q _=>#[f,k b f q],λ_ _ q=>q,λ_ _ _ q=>q,λ_ g q=>#[#v[],by rw[q];simp]]
theorem Un.refl:Un fs Z H H h h:=Un.kept λ_ _ q=>q
theorem Un.laid(k:∀b u,h.get? b=M u->h'.get? b=M u)(f:h.objs.size<=a)(c:H a=P):Un fs Z H (aW H a o) h h' where
 keep:=λb u q _ _ _=>k b u q
 slot:=λb u q _ _ _=>#[u.slots,k b u q]
 free:=λb u q n _=>by rw[ar (WG (WC (cc q) f))];show n
 there:=λb u q _=>#[u,k b u q]
 aa2:=λb xs q=>by rw[ar (bw q c)];show q
 aaQ:=λb u xs q=>by rw[ar (bw q c)];show q
 aa6:=λb g q=>#[#v[],by rw[ar (bw q c),q];simp]
def Un.write(g:R9 (H x))(p:e=x\/H e=M (.own x))(k:∀b u,b≠e->h.get? b=M u->h'.get? b=M u)(i:∃u,h'.get? e=M u):Un fs Z H (aW H x o) h h':=by
 let j:∀b,H b=P->b≠x:=λb n z=>by subst z;rw[n]at g;show g
 let l:∀b,H b=P->b≠e:=λb n z=>by
  subst z;rcases p with r|r
  .show j b n r
  .rw[n]at r;ext r
 let hm:∀b u,H b=M u->¬R9 (M u)->b≠x:=λb u q m z=>by subst z;rw[q]at g;show m g
 show#[λb u q n _ _=>k b u (l b n) q,λb u q n _ _=>#[u.slots,k b u (l b n) q],λb u q n _=>by rw[ar (j b n)];show n,λb u q _=>?_,
  λb xs q=>by rw[ar (hm b _ q λz=>z)];show q,λb u xs q=>by rw[ar (hm b _ q λz=>z)];show q,λb t q=>#[#v[],by rw[ar (hm b _ q λz=>z),q];simp]]
 by_cases f:b=e
 .subst f;show i
 .show#[u,k b u f q]
end
def TJ(h:Heap)(H:Hp):G J:=(WK h.objs.size).filter λa=>(H a).isSome
def tQ(h:Heap)(H:Hp):Heap:=PySem.W.hideAll h (TJ h H)
theorem BE(h:Heap)(H:Hp):(tQ h H).objs.size=h.objs.size:=PySem.W.hideAll_size _ _
theorem GN(e:h.get? b=M o)(n:H b=P):(tQ h H).get? b=M o:=
 PySem.W.hideAll_get _ e λhm=>by let q:=(Xo.mp hm).2;rw[n]at q;simp at q
def IM(e:(tQ h H).get? b=M o):h.get? b=M o/\H b=P:=by
 let a:=PySem.W.of_hideAll (TJ h H) e;show#[a,?_];cases q:H b with
 |none=>rfl
 |some x=>let hm:b∈TJ h H:=Xo.mpr #[Ym.mpr (cc a),by simp[q]];let z:(tQ h H).get? b=P:=PySem.W.hideAll_none (TJ h H) hm;rw[z]at e;ext e
structure Mod(K:lD)(mg:Str->I U)(base:Heap):Prop where
 kin:K.In base
 glob:base.Ns Wx mg
 blt:∃mb,base.Ns builtinsNs mb/\∀x:Str,x≠ "__name__"->mb x=Xg x
 nolimit:base.NoLimit
structure Cx where
 prog:Wz
 w:WX
 K:lD
 mg:Str->I U
 base:Heap
 A:WQ
 N:G Str
 s₀:We
 H₀:Hp
 env:Env
 outer:G Env
 stack:G Env
 ex:G J
 fn:Str->Bool
 calm:Bool
 pn:G (J×Obj)
 xe:U->We->Prop
def wC(l:G Env):G J:=l.filterMap (·.frame)
abbrev Cx.fs(X:Cx):G J:=wC X.outer
def SL(sc:Yk)(x:Str):Prop:=sc.names.lookup x=M .local\/sc.names.lookup x=M .cell\/sc.names.lookup x=M .free
def OT(sc:Yk)(x:Str):Prop:=sc.names.lookup x=M .local\/sc.names.lookup x=M .cell
def Um(env:Env)(h:Heap)(m:Str->I U)(x:Str)(u:U):Prop:=
 (env.kindOf x=M .local/\m x=M u)\/((env.kindOf x=M .cell\/env.kindOf x=M .free)/\∃c,env.cells.lookup x=M c/\h.IsCell c (M u))
structure Cx.Ok(X:Cx):Prop where
 mod:Mod X.K X.mg X.base
 kind:X.env.scope.kind=.function
 glob:X.env.globals=Wx
 blt:X.env.builtins=builtinsNs
 above:X.s₀.heap.objs.size<=X.env.locals
 inj:∀x y c,X.env.cells.lookup x=M c->X.env.cells.lookup y=M c->x=y
 has:∀x,(X.env.kindOf x=M .cell\/X.env.kindOf x=M .free)->∃c,X.env.cells.lookup x=M c
 cab:∀x c,X.fn x=S->X.env.cells.lookup x=M c->X.s₀.heap.objs.size<=c
 hd:X.calm=S->X.A.handled=P
 frames:X.A.frames=M X.stack
 stk:X.stack=X.outer\/(X.stack=X.env::X.outer/\X.env.frame=M X.env.locals)
 exf:∀b∈X.ex,b≠X.env.locals/\∀x c,X.env.cells.lookup x=M c->c≠b
 bs:∀b o,X.base.get? b=M o->X.s₀.heap.get? b=M o/\X.H₀ b=P
 bsz:X.base.objs.size<=X.s₀.heap.objs.size
 acx:∀b o,X.base.get? b=M o->b∉X.ex
 acB:∀b∈X.ex,b∉X.fs
 aaC:X.s₀.heap.FunFrames X.base X.outer
 frf:∀b∈X.fs,X.H₀ b=P
structure Inv(X:Cx)(pins:G (J×Obj))(σ:G (I V))(H:Hp)(s:We):Prop where
 ok:X.Ok
 os:s.os=X.s₀.os
 bare:AllBare s.gens
 base:Un X.fs X.ex X.H₀ H X.s₀.heap s.heap
 loc:∃m,s.heap.Ns X.env.locals m/\∀(i:Nat) (x:Str) (v:V),X.N[i]?=M x->σ[i]?=M (M v)->SL X.env.scope x->∃u,RelV v u/\Um X.env s.heap m x u
 cell:∀x c,X.env.cells.lookup x=M c->∃v,s.heap.IsCell c v
 free:H X.env.locals=P
 Y7:∀x c,X.env.cells.lookup x=M c->H c=P
 pin:∀p∈X.pn++pins,s.heap.get? p.1=M p.2/\H p.1=P/\p.1≠X.env.locals/\p.1∉X.fs/\∀v,p.2.data≠.cell v
 Xw:HOk X.prog X.w H s.heap
 len:σ.length=X.N.length
section
variable{X:Cx}{Z:b5 (Wd×Obj)}{Y:b5 (b7 V)}{H H':Hp}{s:We}{h':Heap}
theorem Cx.Ok.ak5(ok:X.Ok)(e:X.base.get? b=M o):b∉X.fs:=λa=>by let:=(ok.aaC.mem a).1;rw[e]at this;ext this
theorem Inv.bs(I:Inv X Z Y H s):∀b o,X.base.get? b=M o->s.heap.get? b=M o/\H b=P:=λb o e=>
 #[I.base.keep b o (I.ok.bs b o e).1 (I.ok.bs b o e).2 (I.ok.ak5 e) (I.ok.acx b o e),I.base.free b o (I.ok.bs b o e).1 (I.ok.bs b o e).2 (I.ok.acx b o e)]
theorem Inv.bk(I:Inv X Z Y H s):∀b o,X.base.get? b=M o->s.heap.get? b=M o:=λb o e=>(I.bs b o e).1
theorem Inv.mod(I:Inv X Z Y H s):Mod X.K X.mg X.base:=I.ok.mod
theorem Inv.kIn(I:Inv X Z Y H s):X.K.In s.heap:=I.ok.mod.kin.keeps I.bk
theorem Inv.lt(I:Inv X Z Y H s):X.env.locals<s.heap.objs.size:=let#[_,a,_]:=I.loc;a.lt
theorem Inv.sz(I:Inv X Z Y H s):X.s₀.heap.objs.size<=s.heap.objs.size:=WU I.ok.above (aab I.lt)
theorem Inv.ajD(I:Inv X Z Y H s)(h:s.heap.objs.size<=a):a∉X.fs:=λe=>by let(_,o,b,_):=I.ok.aaC.mem e;show b4 (WC (cc b) (WU I.sz h)) (XJ _)
theorem Inv.cne(I:Inv X Z Y H s):∀x c,X.env.cells.lookup x=M c->c≠X.env.locals:=λx c e z=>by let(v,o,f,g):=I.cell x c e;let(m,(h,es,i,a,b,_),_):=I.loc;rw[z,a]at f;ext f;rw[b]at g;ext g
def Inv.aaC(I:Inv X Z Y H s):s.heap.FunFrames X.base X.outer:=by
 let all:∀(l:G Env),(∀b∈wC l,b∈X.fs)->X.s₀.heap.FunFrames X.base l->s.heap.FunFrames X.base l:=by
  intro l
  induction l with
  |nil=>intro _ _;trivial
  |cons t r i=>intro h n;let(p,(L,o,a,v,m,q),j):=n;let g:=h L (by ext wC;rw[aaF,a];show Wh);let(u,e):=I.base.slot L o m (I.ok.frf L g) g λz=>I.ok.acB L z g;show#[p,#[L,_,a,v,e,q],i (λb f=>h b (by ext wC;rw[aaF,a];show Wj _ f)) j]
 show all X.outer (λ_ f=>f) I.ok.aaC
def Inv.stack(I:Inv X Z Y H s):s.heap.FunFrames X.base X.stack:=by
 rcases I.ok.stk with e|⟨e,hf⟩
 .rw[e];show I.aaC
 .rw[e];let(m,a,_):=I.loc;show .cons (by rw[I.ok.kind];decide) hf a ?_ I.aaC;show da (WU I.ok.bsz I.ok.above)
theorem Inv.aa5(I:Inv X Z Y H s):∀b∈wC X.stack,b∈X.env.locals::X.fs:=λb a=>by
 rcases I.ok.stk with e|⟨e,hf⟩
 .rw[e]at a;show Wj _ a
 .rw[e]at a;unfold wC at a;rw[aaF,hf]at a;show a
theorem Inv.abn(I:Inv X Z Y H s):∀b∈wC X.stack,H b=P:=λb a=>by
 rcases WE.mp (I.aa5 b a)with e|a
 .rw[e];show I.free
 .let(_,o,f,_):=I.ok.aaC.mem a;show I.base.free b o f (I.ok.frf b a) λz=>I.ok.acB b z a
def Inv.step{g':Array aar}{t':Nat}{d':adR}{ch:b5 Wd}(I:Inv X Z Y H s)
  (g:∀b∈ch,(b∈X.ex\/X.s₀.heap.objs.size<=b)/\b≠X.env.locals/\(∀x c,X.env.cells.lookup x=cL c->c≠b)/\∀p∈X.pn++Z,p.1≠b)
  (keep:∀b o,b≠X.env.locals->b∉X.fs->b∉ch->s.heap.get? b=cL o->H b=P->h'.get? b=cL o)
  (slot:∀b o,b≠X.env.locals->b∈X.fs->b∉ch->s.heap.get? b=cL o->H b=P->∃O,h'.get? b=cL {o with slots:=O}) (free:∀b o,b∉ch->s.heap.get? b=cL o->H b=P->H' b=P)
  (there:∀b o,b∉ch->s.heap.get? b=cL o->∃w,h'.get? b=cL w)
  (aa2:∀b xs,H b=cL (.tup xs)->H' b=cL (.tup xs)) (Q:∀b o u,H b=cL (.frz o u)->H' b=cL (.frz o u)) (T:∀b D,H b=cL (.tbl D)->∃more,H' b=cL (.tbl (D++more)))
  (J:∀m,s.heap.Ns X.env.locals m->h'.Ns X.env.locals m) (Xw:HOk X.prog X.w H' h') (N:AllBare g'):
  Inv X Z Y H' {s with heap:=h',gens:=g',drawn:=d',toks:=t'}:=by
 let A:∀b o,X.s₀.heap.get? b=cL o->b≠X.env.locals:=λb o e=>WG (WC (cc e) I.ok.above);let j:∀b o,X.s₀.heap.get? b=cL o->b∉X.ex->b∉ch:=λb o e a t=>by
  rcases(g b t).1 with z|z
  .show a z
  .show b4 (WC (cc e) z) (XJ _)
 let h:∀x c,X.env.cells.lookup x=cL c->∀v,s.heap.IsCell c v->h'.IsCell c v:=λx c e v #[o,y,C]=>by
  let f:c∉ch:=λz=>(g c z).2.2.1 x c e W;by_cases G:c∈X.fs
  .let(O,q):=slot c o (I.cne x c e) G f y (I.Y7 x c e);show#[_,q,C]
  .show#[o,keep c o (I.cne x c e) G f y (I.Y7 x c e),C]
 show#[I.ok,I.os,N,#[λb o e n t a=>?_,λb o e n t a=>?_,λb o e n a=>?_,λb o e a=>?_,λb xs e=>aa2 b xs (I.base.aa2 b xs e),λb o xs e=>Q b o xs (I.base.aaQ b o xs e),λb D e=>?_],?_,λx c e=>?_,?_,λx c e=>?_,λp F=>?_,Xw,I.len]
 .show keep b o (A b o e) t (j b o e a) (I.base.keep b o e n t a) (I.base.free b o e n a)
 .let(O,e1):=I.base.slot b o e n t a;let(B,e2):=slot b _ (A b o e) t (j b o e a) e1 (I.base.free b o e n a);show#[B,e2]
 .let(w,e1):=I.base.there b o e a;show free b w (j b o e a) e1 (I.base.free b o e n a)
 .let(w,e1):=I.base.there b o e a;show there b w (j b o e a) e1
 .let(L,e1):=I.base.aa6 b D e;let(K,e2):=T b _ e1;show#[L++K,by rw[e2,Array.append_assoc]]
 .let(m,hn,M):=I.loc
  show#[m,J m hn,λi x v e1 e2 e3=>?_];let(u,r,l):=M i x v e1 e2 e3;show#[u,r,?_];rcases l with l|⟨k,c,e,z⟩
  .show .inl l
  .show .inr #[k,c,e,h x c e _ z]
 .let(v,z):=I.cell x c e;show#[v,h x c e v z]
 .let(m,(o,_,_,y,_),_):=I.loc;show free _ o (λz=>(g _ z).2.1 W) y I.free
 .let(v,o,y,C):=I.cell x c e;show free c o (λz=>(g c z).2.2.1 x c e W) y (I.Y7 x c e)
 .let(e,n,ne,E,d):=I.pin p F;let f:p.1∉ch:=λz=>(g p.1 z).2.2.2 p F W;show#[keep p.1 p.2 ne E f e n,free p.1 p.2 f e n,ne,E,d]
def Inv.un{t':Nat}(I:Inv X Z Y H s)(u:Un X.fs [] H H' s.heap h')(Xw:HOk X.prog X.w H' h'):Inv X Z Y H' {s with heap:=h',toks:=t'}:=by let(m,(o,es,v,i,r),_):=id I.loc;let(p,l):=u.any i I.free (by simp);show I.step (g':=s.gens) (d':=s.drawn) (ch:=[]) (λ_ z=>nomatch z) (λb o _ f _ e n=>u.keep b o e n f (by simp)) (λb o _ f _ e n=>u.slot b o e n f (by simp)) (λb o _ e n=>u.free b o e n (by simp)) (λb o _ e=>u.there b o e (by simp)) u.aa2 u.aaQ u.aa6 (λt hm=>by let(q,g,h,a,j):=hm;rw[i]at a;ext a;show#[_,g,h,l,j]) Xw I.bare
def Inv.call{g':Array aar}{t':Nat}{d':adR}{ch:G J}(I:Inv X Z Y H s)(u:Un (wC X.stack) ch H H' s.heap h')(Xw:HOk X.prog X.w H' h')(t:AllBare g')
  (g:∀b∈ch,(b∈X.ex\/X.s₀.heap.objs.size<=b)/\b≠X.env.locals/\(∀x c,X.env.cells.lookup x=M c->c≠b)/\∀p∈X.pn++Z,p.1≠b):
  Inv X Z Y H' {s with heap:=h',gens:=g',drawn:=d',toks:=t'}:=by
 let(m,(o,es,C,l,r),_):=id I.loc;let(y,h):=u.any l I.free λz=>(g _ z).2.1 W;show I.step (ch:=ch) g (λb o h v a e n=>u.keep b o e n (λz=>(WE.mp (I.aa5 b z)).elim h v) a) (λb o _ _ a e n=>u.any e n a) (λb o a e n=>u.free b o e n a) (λb o a e=>u.there b o e a) u.aa2 u.aaQ u.aa6 (λB hm=>by let(A,i,j,f,q):=hm;rw[l]at f;ext f;show#[_,i,j,h,q]) Xw t
def Inv.turned{t':Nat}{it:J}(I:Inv X Z Y H s)(k:∀b o,b≠it->s.heap.get? b=M o->h'.get? b=M o)(d:H it=P)(g:it≠X.env.locals)
  (t:it∈X.ex\/X.s₀.heap.objs.size<=it) (l:∀x c,X.env.cells.lookup x=M c->c≠it) (j:∀p∈X.pn++Z,p.1≠it):Inv X Z Y H {s with heap:=h',toks:=t'}:=by
 let f:∀b u,H b=M u->b≠it:=λb u e z=>by rw[z,d]at e;ext e
 show I.step (g':=s.gens) (d':=s.drawn) (ch:=[it]) (λb i=>?_) (λb o _ _ a e _=>k b o (λz=>a (by simp[z])) e) (λb o _ _ a e _=>#[o.slots,k b o (λz=>a (by simp[z])) e]) (λ_ _ _ _ n=>n)
  (λb o a e=>#[o,k b o (λz=>a (by simp[z])) e]) (λ_ _ e=>e) (λ_ _ _ e=>e) (λb y e=>#[#v[],by rw[e];simp]) (λm hm=>?_) (λb u e=>?_) I.bare
 .let e:b=it:=by simpa using i
  subst e;show#[t,g,l,j]
 .let(o,es,w,h,r):=hm;show#[o,es,w,k _ o (dN g) h,r]
 .show(I.Xw b u e).Z0 (λc v a q=>k c v ?_ q) (λ_ q=>q) λ_ _ q=>q
  rcases a with z|z
  .rw[z];show f b u e
  .show f c _ z
theorem Inv.tok(I:Inv X Z Y H s)(t:Nat):Inv X Z Y H {s with toks:=t}:=I.un Un.refl I.Xw
theorem Inv.kept{t':Nat}(I:Inv X Z Y H s)(k:∀b u,s.heap.get? b=M u->h'.get? b=M u):Inv X Z Y H {s with heap:=h',toks:=t'}:=I.un (Un.kept k) (I.Xw.kept k)
theorem Inv.laid{a:J}{o:HO}{t':Nat}(I:Inv X Z Y H s)(k:∀b u,s.heap.get? b=M u->h'.get? b=M u)(e:s.heap.objs.size<=a)(new:ObjOk X.prog X.w (aW H a o) h' a o):
  Inv X Z Y (aW H a o) {s with heap:=h',toks:=t'}:=I.un (Un.laid k e (I.Xw.fresh e)) (I.Xw.laid k e new)
theorem Inv.write{x e:J}{o:HO}{t':Nat}(I:Inv X Z Y H s)(f:R9 (H x))(g:e=x\/H e=M (.own x))(k:∀b u,b≠e->s.heap.get? b=M u->h'.get? b=M u)(a:∃u,h'.get? e=M u)
  (new:ObjOk X.prog X.w (aW H x o) h' x o):Inv X Z Y (aW H x o) {s with heap:=h',toks:=t'}:=I.un (Un.write f g k a) (I.Xw.write f g k a new)
theorem Inv.ab5(I:Inv X Z Y H s)(h:∀p∈ahw,s.heap.get? p.1=M p.2/\H p.1=P/\p.1≠X.env.locals/\p.1∉X.fs/\∀v,p.2.data≠.cell v):Inv X ahw Y H s:=
 #[I.ok,I.os,I.bare,I.base,I.loc,I.cell,I.free,I.Y7,λp a=>(Xd.mp a).elim (λz=>I.pin p (XD _ z)) (h p),I.Xw,I.len]
def pO{N:G Str}(e:N.Nodup){i j:Nat}(a:N[i]?=M x)(b:N[j]?=M x):i=j:=by let(g,e1):=Wb.mp a;let(f,e2):=Wb.mp b;show(List.getElem_inj e).mp (e1.trans e2.symm)
def sQ{M:acM}{A:WQ}{E:U->We->Prop}{i:Nat}{x:Str}{v:V}{u:U}{Q:Unit->We->Prop}(I:Inv X Z Y H s)(hN:X.N.Nodup)(D:X.N[i]?=cL x)(l:OT X.env.scope x)(r:RelV v u)
  (h:∀F,Inv X Z (Y.set i (cL v)) H F->(∃a,Heap.SameBut a s.heap F.heap/\(a=X.env.locals\/X.env.cells.lookup x=cL a))->Q ⟨⟩ F) (hf:X.fn x=S\/X.env.scope.names.lookup x=cL .local:=by first|show .inl W|show .inr W|assumption):wpAny M A (storeName X.env x u) Q E s:=by
 let(m,hn,hl):=id I.loc;let af3:(X.env.scope.kind==.class||(X.env.scope.kind==.module&&X.env.locals !=X.env.globals))=R:=by rw[I.ok.kind];rfl
 let w:i<Y.length:=by rw[I.len];show(Wb.mp D).1
 let cne:=I.cne;let tracked:∀{a:J} {h':Heap},(∃o,s.heap.get? a=cL o/\H a=P)->Heap.SameBut a s.heap h'->HOk X.prog X.w H h':=λ{a h'} ha f b ob e=>by
  let(_,_,N):=ha;show(I.Xw b ob e).Z0 (λc O g q=>(f.2 c ?_).trans q) (λ_ q=>q) λ_ _ q=>q;rintro rfl;rcases g with rfl|g
  .rw[N]at e;ext e
  .rw[N]at g;ext g
 rcases l with t|t
 .show wpAny_storeName_local t hn (λh' hn' f=>?_) af3
  let(oL,_,_,hoL,_):=id hn;show h _ #[I.ok,I.os,I.bare,#[λb o e n C l=>?_,λb o e n C l=>?_,I.base.free,λb o e l=>?_,I.base.aa2,I.base.aaQ,I.base.aa6],#[_,hn',λj y v' e1 e2 e3=>?_],λy c e=>?_,I.free,I.Y7,λp hp=>?_,tracked #[oL,hoL,I.free] f,by simpa using I.len] #[_,f,.inl W]
  .show(f.2 b (WG (WC (cc e) I.ok.above))).trans (I.base.keep b o e n C l)
  .let(sl,e1):=I.base.slot b o e n C l;show#[sl,(f.2 b (WG (WC (cc e) I.ok.above))).trans e1]
  .let(o',e1):=I.base.there b o e l;show#[o',(f.2 b (WG (WC (cc e) I.ok.above))).trans e1]
  .by_cases hj:j=i
   .subst hj;rw[D]at e1;ext e1;rw[Xm w]at e2;ext e2;show#[u,r,.inl #[t,by simp]]
   .rw[W3 (dN hj)]at e2
    let(u',r',q):=hl j y v' e1 e2 e3;show#[u',r',?_];rcases q with⟨k,e⟩|⟨k,c,e,z⟩
    .show .inl #[k,?_];let:y≠x:=λe=>hj (pO hN e1 (e▸D));simp[this,e]
    .show .inr #[k,c,e,z.sameBut f (cne y c e)]
  .let(O,z):=I.cell y c e;show#[O,z.sameBut f (cne y c e)]
  .let(e,n,ne,nf,d):=I.pin p hp;show#[(f.2 p.1 ne).trans e,n,ne,nf,d]
 .let B:X.fn x=S:=by
   rcases hf with z|z
   .show z
   .rw[z]at t;ext t
  let(c,g):=I.ok.has x (.inl t);let(O,z):=I.cell x c g;show wpAny_storeName_cell I.ok.kind t g z (λh' L f=>?_);let(oc,K,ajY):=id z;show h {s with heap:=h'} #[I.ok,I.os,I.bare,#[λb o e n C l=>?_,λb o e n C l=>?_,I.base.free,λb o e l=>?_,I.base.aa2,I.base.aaQ,I.base.aa6],#[m,hn.sameBut f (dN (cne x c g)),λj y v' e1 e2 e3=>?_],λy T e=>?_,I.free,I.Y7,λp hp=>?_,tracked #[oc,K,I.Y7 x c g] f,by simpa using I.len] #[c,f,.inr g]
  .show(f.2 b (WG (WC (cc e) (I.ok.cab x c B g)))).trans (I.base.keep b o e n C l)
  .let(sl,e1):=I.base.slot b o e n C l;show#[sl,(f.2 b (WG (WC (cc e) (I.ok.cab x c B g)))).trans e1]
  .let(o',e1):=I.base.there b o e l;show#[o',(f.2 b (WG (WC (cc e) (I.ok.cab x c B g)))).trans e1]
  .by_cases hj:j=i
   .subst hj;rw[D]at e1;ext e1;rw[Xm w]at e2;ext e2;show#[u,r,.inr #[.inl t,c,g,L]]
   .rw[W3 (dN hj)]at e2
    let(u',r',q):=hl j y v' e1 e2 e3;show#[u',r',?_];rcases q with q|⟨k,T,e,z'⟩
    .show .inl q
    .show .inr #[k,T,e,z'.sameBut f ?_];rintro rfl;show hj (pO hN e1 (I.ok.inj _ _ _ e g▸D))
  .by_cases hcc:T=c
   .subst hcc;show#[_,L]
   .let(w2,z2):=I.cell y T e;show#[w2,z2.sameBut f hcc]
  .let(e,n,ne,nf,d):=I.pin p hp;show#[(f.2 p.1 ?_).trans e,n,ne,nf,d];intro q;rw[q,K]at e;let q':oc=p.2:=Wt e;show d O (by rw[<-q'];show ajY)
theorem lx{i:Nat}{v:V}{u:U}{Q:Unit->We->Prop}(I:Inv X Z Y H s)(e:X.N.Nodup)(d:X.N[i]?=cL x)(c:OT X.env.scope x)(r:RelV v u)
  (h:∀b,Inv X Z (Y.set i (cL v)) H b->Q ⟨⟩ b) (hf:X.fn x=S\/X.env.scope.names.lookup x=cL .local:=by first|show .inl W|show .inr W|assumption):wpAny a A (storeName X.env x u) Q E s:=
 sQ I e d c r (λb f _=>h b f) hf
def Inv.aeF{a:We}{ch:G J}(I:Inv X Z Y H s)(h:a.os=s.os)(u:Un (wC X.stack) ch H H' s.heap a.heap)(Xw:HOk X.prog X.w H' a.heap)(i:AllBare a.gens)
  (f:∀b∈ch,(b∈X.ex\/X.s₀.heap.objs.size<=b)/\b≠X.env.locals/\(∀x c,X.env.cells.lookup x=M c->c≠b)/\∀p∈X.pn++Z,p.1≠b):Inv X Z Y H' a:=by
 let(h',l,m,j,g):=a;let e:g=s.os:=h;subst e;show I.call (g':=l) (t':=j) (d':=m) u Xw i f
end
abbrev XK:=U->I J->Hp->Prop
abbrev St:=G (I V)
abbrev VK:=V->Hp->Prop
abbrev TE:=St->Hp->VK->Prop
abbrev TT:=St->Hp->(Bool->Hp->Prop)->Prop
abbrev TA:=St->Hp->(G V->Hp->Prop)->Prop
structure Ends where
 nx:St->Hp->Prop
 rt:VK
 bk:St->Hp->Prop:=λ_ _=>False
 ct:St->Hp->Prop:=λ_ _=>False
abbrev TS:=Ends->St->Hp->Prop
def EP(X:Cx)(a:G (J×Obj))(b:St)(Q:VK)(u:U)(e:We):Prop:=∃v f,Inv X a b f e/\RelV v u/\Q v f
def TP(X:Cx)(a:G (J×Obj))(e:St)(Q:Bool->Hp->Prop)(b:Bool)(f:We):Prop:=∃g,Inv X a e g f/\Q b g
def AP(X:Cx)(a:G (J×Obj))(b:St)(Q:G V->Hp->Prop)(us:G U)(e:We):Prop:=∃f g,Inv X a b g e/\Vals f us/\Q f g
def SP(X:Cx)(a:G (J×Obj))(D:Ends)(f:Flow)(b:We):Prop:=
 match f with
 |.next=>∃e g,Inv X a e g b/\D.nx e g
 |.brk=>∃e g,Inv X a e g b/\D.bk e g
 |.cont=>∃e g,Inv X a e g b/\D.ct e g
 |.ret u=>∃v e g,Inv X a e g b/\RelV v u/\D.rt v g
def PE(X:Cx)(e:Wy)(t:TE):Prop:=
 ∀(a:G (J×Obj)) (s:We) (b:St) (H:Hp) (Q:VK),Inv X a b H s->t b H Q->wpAny (model X.prog X.w) X.A (eval e X.env) (EP X a b Q) X.xe s
def PT(X:Cx)(e:Wy)(t:TT):Prop:=
 ∀(a:G (J×Obj)) (s:We) (b:St) (H:Hp) (Q:Bool->Hp->Prop),Inv X a b H s->t b H Q->wpAny (model X.prog X.w) X.A (isTrue e X.env (eval e X.env)) (TP X a b Q) X.xe s
def PW(X:Cx)(e:Wy)(t:TT):Prop:=
 ∀(b:Sem U) (a:G (J×Obj)) (s:We) (f:St) (H:Hp) (Q:Bool->Hp->Prop),Inv X a f H s->t f H Q->wpAny (model X.prog X.w) X.A (isTrue e X.env b) (TP X a f Q) X.xe s
theorem PW.pt(h:PW X e t):PT X e t:=h _
def PA(X:Cx)(es:G Wy)(t:TA):Prop:=
 ∀(e:Pos) (a:G (J×Obj)) (s:We) (b:St) (H:Hp) (Q:G V->Hp->Prop),Inv X a b H s->t b H Q->wpAny (model X.prog X.w) X.A (spliced (backTo e (Wu es X.env))) (AP X a b Q) X.xe s
def PS(X:Cx)(st:X1)(t:TS):Prop:=
 ∀(a:G (J×Obj)) (s:We) (b:St) (H:Hp) (D:Ends),Inv X a b H s->t D b H->wpAny (model X.prog X.w) X.A (exec st X.env) (SP X a D) X.xe s
def PSs(X:Cx)(st:G X1)(t:TS):Prop:=
 ∀(a:G (J×Obj)) (s:We) (b:St) (H:Hp) (D:Ends),Inv X a b H s->t D b H->wpAny (model X.prog X.w) X.A (execs st X.env) (SP X a D) X.xe s
theorem bJ{α:Type}{t:Sem α}{Q b:α->We->Prop}{M:acM}{A:WQ}{E:U->We->Prop}{s:We}(h:wpAny M A t Q E s)(e:∀a s,Q a s->b a s):wpAny M A t b E s:=wpAny_mono h e λ_ _ x=>x
section
variable{X:Cx}
def rO(i:Nat):TE:=λa H Q=>∃v,a[i]?=M (M v)/\Q v H
def tC(v:V):TE:=λ_ H Q=>Q v H
def FU(t:X.N[i]?=M x)(p:SL X.env.scope x)(hd:(x==("__debug__":Str))=R:=by decide)(j:(x==("__classdict__":Str))=R:=by decide):PE X (.Name x pos) (rO i):=by
 intro f s o H Q I h;let(v,e,h):=h;let(m,w,q):=I.loc;let(u,r,l):=q i x v t e p;let b:EP X f o Q u s:=#[v,H,I,r,h];rcases l with⟨a,hm⟩|⟨a,c,n,g⟩
 .show afG (aeU I.ok.kind a w hm b) hd
 .rcases a with a|a
  .show afG (afl I.ok.kind a n g b) hd
  .show afG (wpAny_loadName_free I.ok.kind a n g b j) hd
theorem Nw{i j pos}:PE X (.Constant (.int i) j pos) (tC (.int i)):=λ_ _ _ H _ I h=>afH #[.int i,H,I.tok _,#[_,W],h]
theorem M3{b j pos}:PE X (.Constant (.bool b) j pos) (tC (.bl b)):=λ_ _ _ H _ I h=>Constant_bool #[.bl b,H,I,W,h]
theorem P8{j pos}:PE X (.Constant .none j pos) (tC .Ye):=λ_ _ _ H _ I h=>Constant_none #[.Ye,H,I,W,h]
theorem Oz{x j pos}:PE X (.Constant (.str x) j pos) (tC (.str x)):=λ_ _ _ H _ I h=>Calls.Constant_str #[.str x,H,I.tok _,#[_,W],h]
def Gl(X:Cx)(x:Str):Prop:=X.env.kindOf x=M .globalImplicit
theorem iY(I:Inv X pins σ H s)(a:Gl X x)(hm:X.mg x=M u)(h:Q u s)
  (hd:(x==("__debug__":Str))=R:=by decide):wpAny (model X.prog X.w) X.A (eval (.Name x pos) X.env) Q E s:=
 Calls.Name_function_global I.ok.kind a (Calls.loadGlobal_global (by rw[I.ok.glob];show I.mod.glob.keeps I.bk) hm h) hd
def jA(I:Inv X pins σ H s)(b:Gl X x)(hm:X.mg x=P)(a:Xg x=M u)(h:Q u s)
  (c:x≠ "__name__":=by decide) (hd:(x==("__debug__":Str))=R:=by decide):wpAny (model X.prog X.w) X.A (eval (.Name x pos) X.env) Q E s:=by
 let(g,f,e):=I.mod.blt;show Calls.Name_function_global I.ok.kind b (Calls.loadGlobal_builtin (by rw[I.ok.glob];show I.mod.glob.keeps I.bk) hm (by rw[I.ok.blt];show f.keeps I.bk) ((e x c).trans a) h) hd
theorem HK{x:Str}{v:V}{u:U}{a:Pos}(b:Gl X x)(hm:X.mg x=M u)(r:RelV v u)(hd:(x==("__debug__":Str))=R:=by decide):PE X (.Name x a) (tC v):=
 λ_ _ _ H _ I h=>iY I b hm #[v,H,I,r,h] hd
theorem KO(b:Gl X x)(hm:X.mg x=P)(a:Xg x=M u)(r:RelV v u)(c:x≠ "__name__":=by decide)(hd:(x==("__debug__":Str))=R:=by decide):PE X (.Name x pos) (tC v):=
 λ_ _ _ H _ I h=>jA I b hm a #[v,H,I,r,h] c hd
variable{a b:Wy}{N Z:TE}{O:Pos}
def PC(X:Cx)(op:abh)(a b:Wy)(t:TE):Prop:=
 ∀(e:G (J×Obj)) (s:We) (h:St) (H:Hp) (Q:VK),Inv X e h H s->t h H Q->
  wpAny (model X.prog X.w) X.A (eval a X.env) (λv g=>wpAny (model X.prog X.w) X.A (eval b X.env) (λu f=>wpAny (model X.prog X.w) X.A (Xx op v u) (EP X e h Q) X.xe f) X.xe g) X.xe s
def tB(t:TE):TT:=λe H Q=>t e H λx f=>∃c,x=.bl c/\Q c f
theorem y4(h:PC X op a b t)(i:behindInMarks op b=R:=by first|show o _ () ()|rfl):PE X (.Compare a [op] [b] O) t:=λe s f H Q I g=>ajh (h e s f H Q I g) i
def xP(h:PC X op a b t)(f:behindInMarks op b=R:=by first|show C _ () ()|rfl):PT X (.Compare a [op] [b] O) (tB t):=by intro e s g H Q I l;show aeH (bJ (h e s g H _ I l) λv w f=>bJ f λu r m=>bJ m λc p a=>?_) f;let(x,o,n,i,j):=a;let(d,rfl,q):=j;ext i;show XO #[o,n,q]
def PX{e:Wy}{t:TE}(h:PE X e t)(m:∀whole,isTrue e X.env whole=(do let v<-whole;standAt e.pos;holding [v] (truthy v)):=by intro _;rfl):PT X e (tB t):=by intro f s g H Q I l;show isTrue_plain (bJ (h f s g H _ I l) λv p #[x,o,n,i,j]=>?_) (m _);let(d,rfl,q):=j;ext i;show XO #[o,n,q]
variable{U T:TT}{Y:b5 Wy}
def Qi(t u:TT):TT:=λe H Q=>t e H λc f=>if c=S then u e f Q else Q R f
def Ut(t u:TT):TT:=λe H Q=>t e H λc f=>if c=S then Q S f else u e f Q
def Jc(t:TT):TT:=λe H Q=>t e H λc f=>Q (!c) f
def zZ(d:PT X a U):PW X (.BoolOp .And [a] O) U:=by
 intro i f s g H Q I h;show isTrue_and (bJ (d f s g H Q I h) λc j e=>?_);cases c with
 |true=>show isTrue_and_nil e
 |false=>show e
def Gr(d:PT X a U):PW X (.BoolOp .Or [a] O) U:=by
 intro i f s g H Q I h;show isTrue_or (bJ (d f s g H Q I h) λc j e=>?_);cases c with
 |false=>show isTrue_or_nil e
 |true=>show e
def Hi(d:PT X a U)(n:PW X (.BoolOp .And (b::Y) O) T):PW X (.BoolOp .And (a::b::Y) O) (Qi U T):=by
 intro l e s f H Q I h;show isTrue_and (bJ (d e s f H _ I h) λc m a=>?_);let(j,i,g):=a;cases c with
 |true=>show n l e m f j Q i g
 |false=>show#[j,i,g]
def MN(d:PT X a U)(n:PW X (.BoolOp .Or (b::Y) O) T):PW X (.BoolOp .Or (a::b::Y) O) (Ut U T):=by
 intro l e s f H Q I h;show isTrue_or (bJ (d e s f H _ I h) λc m a=>?_);let(j,i,g):=a;cases c with
 |true=>show#[j,i,g]
 |false=>show n l e m f j Q i g
def QK(d:PT X a U):PT X (.UnaryOp .Not a O) (Jc U):=by intro e s f H Q I h;show isTrue_not (d e s f H (λc g=>Q (!c) g) I h)
def Dk(N Z:TE):TE:=λe H Q=>N e H λx f=>∃c,x=.bl c/\if c=S then Z e f Q else Q (.bl R) f
theorem NN{op}(h:PE X a t):PE X (.BoolOp op [a] O) t:=λe s f H Q I g=>BoolOp_one (h e s f H Q I g)
def Ff(d:PE X a N)(n:PE X (.BoolOp .And (b::Y) O) Z):PE X (.BoolOp .And (a::b::Y) O) (Dk N Z):=by
 intro e s g H Q I h;show BoolOp_and (bJ (d e s g H _ I h) λv l a=>?_);let(x,j,i,m,f):=a;let(c,rfl,f):=f;ext m;show XO ?_;cases c with
 |true=>show n e l g j Q i f
 |false=>show#[.bl R,j,i,W,f]
def S4(t:TT)(N Z:TE):TE:=λe H Q=>t e H λc f=>if c=S then N e f Q else Z e f Q
def Ho(m:PT X c U)(k:PE X a N)(n:PE X b Z):PE X (.IfExp c a b O) (S4 U N Z):=by
 intro e s f H Q I h;show wpAny_IfExp (bJ (m e s f H _ I h) λd g a=>?_);let(l,j,i):=a;cases d with
 |true=>show k e g f l Q j i
 |false=>show n e g f l Q j i
end
def Z1(K:lD)(H:Hp)(a:J)(xs:G V):Prop:=
 Rd H a (.lst xs)\/
  ∃(o:Obj) (b:Array U) (n:Nat),K.lookup a=M o/\o.cls=.type "list"/\o.dict=P/\o.data=.seq b n/\b.size<=Wm/\Vals xs b.toList
def ZP(K:lD)(H:Hp)(a:J)(xs:G V):Prop:=
 Rd H a (.tup xs)\/
  ∃(o:Obj) (b:Array U) (n:Nat),K.lookup a=M o/\(o.cls=.type "tuple"/\o.dict=P)/\o.data=.seq b n/\b.size<=Wm/\Vals xs b.toList
def Ud:U->I V
 |.none=>M .Ye
 |.bool b=>M (.bl b)
 |.int i _=>M (.int i)
 |.str x _=>M (.str x)
 |.bytes b _=>M (.byt b)
 |.float b _=>M (.flt b)
 |.ref a=>M (.ref a)
 |.type n=>M (.ty n)
 |_=>P
def RelV.abs(r:RelV x u):Ud u=M x:=by
 cases x with
 |Ye=>ext r;rfl
 |bl _=>ext r;rfl
 |int _=>let(t,rfl):=r;rfl
 |str _=>let(t,rfl):=r;rfl
 |byt _=>let(t,rfl):=r;rfl
 |flt _=>let(t,rfl):=r;rfl
 |ref _=>ext r;rfl
 |ty _=>ext r;rfl
theorem RelV.inj(r:RelV x u)(q:RelV y u):x=y:=Wt (r.abs.symm.trans q.abs)
theorem Vals.inj:∀{xs a:G V} {us:G U},Vals xs us->Vals a us->xs=a
 |_,_,_,.nil,.nil=>rfl
 |_,_,_,.cons r t,.cons e b=>by rw[r.inj e,Vals.inj t b]
section
variable{X:Cx}{Z:b5 (Wd×Obj)}{Y:St}{H:Hp}{s:We}{a:Wd}{T U:b5 V}
theorem Z1.of{K:lD}(h:H a=M (.lst T)):Z1 K H a T:=.inl (.inl h)
theorem ZP.of{K:lD}(h:H a=M (.tup T)):ZP K H a T:=.inl (.inl h)
def Inv.list(I:Inv X Z Y H s)(h:Z1 X.K H a T):∃b:G V5,Vals T b/\PlainL s.heap a b.toArray/\T.length<=Wm:=by
 rcases h with h|⟨o,b,n,g,i,hd,f,j,r⟩
 .let(z,b,n,r,e):=h.ok I.Xw;show#[b,r,#[_,n,e,W,W,W],z]
 .show#[b.toList,r,#[o,n,I.kIn a o g,i,hd,by simpa using f],?_];let e:=r.length;simp only[Xh]at e;ext
def Inv.tuple(I:Inv X Z Y H s)(h:ZP X.K H a T):∃b:G V5,Vals T b/\IsTup s.heap a b.toArray/\T.length<=Wm:=by
 rcases h with h|⟨o,b,n,g,i,f,j,r⟩
 .let(z,b,r,p):=h.ok I.Xw;show#[b,r,p.tup,z]
 .show#[b.toList,r,#[o,I.kIn a o g,i.1,n,by simpa using f],?_];let e:=r.length;simp only[Xh]at e;ext
def Inv.afP(I:Inv X Z Y H s)(h:ZP X.K H a T):∃b:G V5,Vals T b/\abf s.heap a b.toArray/\T.length<=Wm:=by
 rcases h with h|⟨o,b,n,i,f,g,j,r⟩
 .let(z,b,r,p):=h.ok I.Xw;show#[b,r,p,z]
 .show#[b.toList,r,#[o,I.kIn a o i,#[f.1,n,by simpa using g],f.2],?_];let e:=r.length;simp only[Xh]at e;ext
def Inv.aek(I:Inv X Z Y H s)(h:Z1 X.K H a T)(c:Z1 X.K H a U):T=U:=by
 let(j,r,(o,n,e,_,_,d),_):=I.list h;let(b,i,(l,m,f,_,_,g),_):=I.list c;rw[e]at f;ext f;rw[d]at g;injection g with d1 _;let:j=b:=by simpa using d7 afI d1
 subst this;show r.inj i
def Inv.adP(I:Inv X Z Y H s)(h:ZP X.K H a T)(c:ZP X.K H a U):T=U:=by
 let(j,r,(o,e,_,n,d),_):=I.tuple h;let(b,i,(l,f,_,m,g),_):=I.tuple c;rw[e]at f;ext f;rw[d]at g;injection g with d1 _;let:j=b:=by simpa using d7 afI d1
 subst this;show r.inj i
end
abbrev Cx.ZZ(X:Cx)(E:U->We->Prop):Cx:={X with xe:=E}
abbrev Cx.nox(X:Cx):Cx:=X.ZZ λ_ _=>False
theorem Cx.Ok.ZZ{X:Cx}(ok:X.Ok)(E:U->We->Prop):(X.ZZ E).Ok:=
 #[ok.mod,ok.kind,ok.glob,ok.blt,ok.above,ok.inj,ok.has,ok.cab,ok.hd,ok.frames,ok.stk,ok.exf,ok.bs,ok.bsz,ok.acx,ok.acB,ok.aaC,ok.frf]
theorem Cx.Ok.Zs{X:Cx}(ok:(X.ZZ E).Ok):X.Ok:=
 #[ok.mod,ok.kind,ok.glob,ok.blt,ok.above,ok.inj,ok.has,ok.cab,ok.hd,ok.frames,ok.stk,ok.exf,ok.bs,ok.bsz,ok.acx,ok.acB,ok.aaC,ok.frf]
section
variable{X:Cx}{Z:b5 (Wd×Obj)}{Y:St}{H:Hp}{s:We}{E:V5->We->Prop}
theorem Inv.ZZ(I:Inv X Z Y H s)(E:U->We->Prop):Inv (X.ZZ E) Z Y H s:=#[I.ok.ZZ E,I.os,I.bare,I.base,I.loc,I.cell,I.free,I.Y7,I.pin,I.Xw,I.len]
theorem Inv.Zs(I:Inv (X.ZZ E) Z Y H s):Inv X Z Y H s:=#[I.ok.Zs,I.os,I.bare,I.base,I.loc,I.cell,I.free,I.Y7,I.pin,I.Xw,I.len]
def SP.Zs(h:SP (X.ZZ E) Z D f s'):SP X Z D f s':=by
 cases f with
 |next=>let(a,b,I,q):=h;show#[a,b,I.Zs,q]
 |brk=>let(a,b,I,q):=h;show#[a,b,I.Zs,q]
 |cont=>let(a,b,I,q):=h;show#[a,b,I.Zs,q]
 |ret u=>let(v,a,b,I,r,q):=h;show#[v,a,b,I.Zs,r,q]
theorem PSs.nox{st:G X1}(h:PSs X.nox st t):PSs X st t:=λZ s Y H D I a=>
 wpAny_mono (h Z s Y H D (I.ZZ _) a) (λ_ _ q=>q.Zs) λ_ _ z=>False.elim z
end
section
variable{X:Cx}{Q:X1}{Y:b5 X1}{t u:TS}{e:Wy}{Z:TE}{T:Pos}
def Eb:TS:=λD a H=>D.nx a H
def Eo(t u:TS):TS:=λD a H=>t {D with nx:=u D} a H
theorem zp:PSs X [] Eb:=λ_ _ a H _ I h=>Y1 #[a,H,I,h]
def pH(l:PS X Q t)(j:PSs X Y u):PSs X (Q::Y) (Eo t u):=by
 intro a s g H D I h;show abY (bJ (l a s g H {D with nx:=u D} I h) λf i q=>?_);cases f with
 |next=>let(b,n,m,q):=q;show j a i b n D m q
 |ret v=>show q
 |brk=>show q
 |cont=>show q
def oj(g:PS X Q t):PSs X [Q] t:=by
 intro a s b H D I h;show abY (bJ (g a s b H D I h) λf i q=>?_);cases f with
 |next=>show Y1 q
 |ret v=>show q
 |brk=>show q
 |cont=>show q
def Inv.quiet{a:G (J×Obj)}{b:St}{H:Hp}{s:We}(I:Inv X a b H s):interactive X.env=R:=by simp[interactive,I.ok.kind]
def sO(Z:TE):TS:=λD a H=>Z a H λ_ b=>D.nx a b
def zE(i:PE X e Z)(g:Yu e P T.line X.env=pure R:=by rfl):PS X (.Expr e T) (sO Z):=by intro a s b H D I h;show aji (bJ (i a s b H _ I h) λv m #[x,l,j,n,f]=>#[b,l,j,f]) I.quiet g
def DH(Z:TE):TS:=λD a H=>Z a H D.rt
def xV(i:PE X e Z):PS X (.Return (M e) T) (DH Z):=by intro a s b H D I h;show wpAny_Return_some (bJ (i a s b H _ I h) λv m #[x,l,j,f,g]=>#[x,b,l,j,f,g])
def LX:TS:=λD _ H=>D.rt .Ye H
theorem Kh:PS X (.Return P T) LX:=λ_ _ a H _ I h=>wpAny_Return_none #[.Ye,a,H,I,W,h]
def Ia(c:TT)(t u:TS):TS:=λD a H=>c a H λb f=>if b=S then t D a f else u D a f
def SY(n:PT X c C)(k:PSs X a t)(o:PSs X b u):PS X (.If c a b T) (Ia C t u):=by
 intro f s g H D I h;show wpAny_If (bJ (n f s g H _ I h) λd i a=>?_);let(m,l,j):=a;cases d with
 |true=>show k f i g m D l j
 |false=>show o f i g m D l j
end
abbrev TG:=V->St->Hp->(St->Hp->Prop)->Prop
abbrev yf:=G V->St->Hp->(St->Hp->Prop)->Prop
def PG(X:Cx)(a:Wy)(t:TG):Prop:=
 ∀(b:G (J×Obj)) (s:We) (e:St) (H:Hp) (v:V) (u:U) (Q:St->Hp->Prop),Inv X b e H s->RelV v u->t v e H Q->
  wpAny (model X.prog X.w) X.A (assign a X.env u) (λ_ f=>∃g h,Inv X b g h f/\Q g h) X.xe s
def Sy(X:Cx)(f:G Wy)(t:yf):Prop:=
 ∀(a:G (J×Obj)) (s:We) (b:St) (H:Hp) (i:G V) (e:G U) (Q:St->Hp->Prop),Inv X a b H s->Vals i e->t i b H Q->
  wpAny (model X.prog X.w) X.A (assignInOrder ((assignEach f X.env).map (·.2)) e) (λ_ g=>∃h j,Inv X a h j g/\Q h j) X.xe s
abbrev Ug:=V->V->Hp->VK->Prop
def TH(X:Cx)(op:acN)(t:Ug):Prop:=
 ∀(a:G (J×Obj)) (s:We) (b:St) (H:Hp) (x y:V) (v u:U) (Q:VK),Inv X a b H s->RelV x v->RelV y u->t x y H Q->
  wpAny (model X.prog X.w) X.A (inplaceOp op v u) (EP X a b Q) X.xe s
section
variable{X:Cx}{Z:Pos}
def mY(i:Nat):TG:=λv a H Q=>Q (a.set i (M v)) H
def JB(c:X.N.Nodup)(b:X.N[i]?=M x)(a:OT X.env.scope x)(hf:X.fn x=S\/X.env.scope.names.lookup x=M .local:=by first|show .inl W|show .inr W|assumption):PG X (.Name x Z) (mY i):=by intro pins s σ H v u Q I r h;show agq (lx I c b a r (λf e=>#[_,H,e,h]) hf)
def Kf:yf:=λb a H Q=>b=[]/\Q a H
def AF(t:TG)(u:yf):yf:=λf b H Q=>∃v r,f=v::r/\t v b H λa e=>u r a e Q
def IW:Sy X [] Kf:=by intro a s b H g f Q I r h;let(e,h):=h;subst e;ext r;show assignInOrder_nil #[b,H,I,h]
def Ek(n:PG X e t)(m:Sy X es u)
  (l:(assignEach (e::es) X.env).map (·.2)=assign e X.env::(assignEach es X.env).map (·.2):=by rfl):Sy X (e::es) (AF t u):=by
 intro a s f H y w Q I r h;let(v,q,e1,h):=h;subst e1;cases r with
 |cons r i=>rw[l];show assignInOrder_cons (bJ (n a s f H _ _ _ I r h) λ_ g a=>?_);let(b,p,o,j):=a;show m a g b p _ _ Q o i j
def Lr(K:lD)(n:Nat)(t:yf):TG:=λv b H Q=>∃a xs,v=.ref a/\ZP K H a xs/\xs.length=n/\t xs b H Q
def Oc(q:X.calm=S)(h:Sy X es t)
  (c:(assignEach es X.env).length=n:=by rfl) (db:(assignEach es X.env).findIdx? (·.1)=P:=by rfl):PG X (.Tuple es k Z) (Lr X.K n t):=by
 intro f s i H v u Q I r g;let(a,xs,e1,m,p,g):=g;subst e1;ext r;let(B,C,l,y):=I.tuple m;show assign_Tuple_tuple (I.ok.hd q) l (by simp[c,<-p,C.length]) db λA j=>?_;let w:=I.kept (t':=s.toks) λb o e=>j b o (WG (cc e)) e;show h f _ i H xs _ Q w (by simpa using C) g
def wR(b:TE)(g:TG):TS:=λD a H=>b a H λx e=>g x a e D.nx
def P6(o:PE X e te)(n:PG X C g)(m:swapsWithSole [C] e Z.line X.env=pure R:=by rfl)(l:swappedStores [C] e X.env=pure P:=by rfl)
  (p:(assignEach [C] X.env).map (·.2)=[assign C X.env]:=by rfl):PS X (.Assign [C] e Z) (wR te g):=by
 intro a s b H D I h;show wpAny_Assign_stores (bJ (o a s b H _ I h) λv f a=>?_) m l;let(x,t,r,i,j):=a;rw[p];show bJ (n a f b t x v _ r i j) λ_ u q=>q
def E7{i:Nat}{x:Str}{e:Wy}{a:TE}{pos':Pos}(j:X.N.Nodup)(g:X.N[i]?=M x)(c:OT X.env.scope x)(he:PE X e a)(d:Yu e (M (.Name x pos')) Z.line X.env=pure R:=by rfl)(hf:X.fn x=S\/X.env.scope.names.lookup x=M .local:=by first|show .inl W|show .inr W|assumption):
  PS X (.Assign [.Name x pos'] e Z) (wR a (mY i)):=by
 intro pins s σ H D I h;show wpAny_Assign_Name (bJ (he pins s σ H _ I h) λv s1 a=>?_) d;let(y,H1,m,b,f):=a;show lx m j g c b (λs2 l=>#[_,H1,l,f]) hf
def SG(i:Nat)(b:TE)(c:Ug):TS:=λD a H=>∃x,a[i]?=M (M x)/\b a H λy f=>c x y f λz e=>D.nx (a.set i (M z)) e
def OY(F:X.N.Nodup)(n:X.N[i]?=M x)(d:OT X.env.scope x)(he:PE X e C)(B:TH X op o)(hf:X.fn x=S\/X.env.scope.names.lookup x=M .local:=by first|show .inl W|show .inr W|assumption):
  PS X (.AugAssign (.Name x pos') op e Z) (SG i C o):=by
 intro pins s σ H D I h;let(v,e1,h):=h;let(m,E,K):=I.loc;let g:SL X.env.scope x:=by rcases d with k|k;show .inl k;show .inr (.inl k)
 let(u,r,l):=K i x v n e1 g;show wpAny_AugAssign_Name ?_;let go:wpAny (model X.prog X.w) X.A (eval e X.env) (λw f=>wpAny (model X.prog X.w) X.A (inplaceOp op u w) (λr b=>wpAny (model X.prog X.w) X.A (storeName X.env x r) (λ_=>SP X pins D .next) X.xe b) X.xe f) X.xe s:=by show bJ (he pins s σ H _ I h) λw s1 #[y,H1,Q,q,A]=>?_;show bJ (B pins s1 σ H1 v y u w _ Q r q A) λz s2 a=>?_;let(Y,T,O,p,t):=a;show lx O F n d p (λs3 N=>#[_,T,N,t]) hf
 rcases l with⟨a,hm⟩|⟨a,c,L,j⟩
 .show aeU I.ok.kind a E hm go
 .rcases a with a|a
  .show afl I.ok.kind a L j go
  .rcases d with k|k
   .let:X.env.scope.names.lookup x=M .free:=a;rw[k]at this;ext this
   .let:X.env.scope.names.lookup x=M .free:=a;rw[k]at this;ext this
def UR(f:Int->Int->Int):Ug:=λx y H Q=>∃i j,x=.int i/\y=.int j/\Q (.int (f i j)) H
def PM:TH X .Add (UR λi j=>i+j):=by intro a s f H x y v u Q I e b h;let(i,j,e1,e2,q):=h;subst e1;subst e2;let(t,rfl):=e;let(g,rfl):=b;show iadd_int #[.int _,H,I.tok _,#[_,W],q]
end
section
variable{X:Cx}{Z:Pos}
def DN(c:TT)(d:TS):TS:=λD a H=>∃W:Nat->St->Hp->Prop,(∃m,W m a H)/\∀m a H,W m a H->
 c a H λb e=>if b=S then∃N:St->Hp->Prop,(∀f h,N f h->∃g,g<m/\W g f h)/\d {D with nx:=N,ct:=N,bk:=D.nx} a e else D.nx a e
def Gk(r:abZ (model X.prog X.w) X.A X.env X.xe)(M:PT X c tc)(O:PSs X body tb):PS X (.While c body [] Z) (DN tc tb):=by
 intro e s C H D I h;let(W,(L,F),turn):=h;show wpAny_While (codeAny_whileLoop (λn K=>∃w A,Inv X e w A K/\W n w A) ?_ L #[C,H,I,F]);rintro n J ⟨g,B,P,E⟩;show YE r (bJ (M e J g B _ P (turn n g B E)) λb G a=>?_);let(y,u,l):=a;cases b with
 |true=>
  let(N,t,l):=l;rw[ax rfl];show YE r (bJ (O e G g y _ u l) λf Q j=>?_);cases f with
  |next=>let(a,i,q,o):=j;let(p,hm,m):=t a i o;show#[p,hm,a,i,q,m]
  |cont=>let(a,i,q,o):=j;let(p,hm,m):=t a i o;show#[p,hm,a,i,q,m]
  |brk=>show j
  |ret v=>show j
 |false=>rw[bb Wr];show Y1 #[g,y,u,l]
end
structure It where
 go:Nat->Hp->Prop
 yld:Nat->Hp->V->Hp->Prop
 stop:Nat->Hp->Prop
def lR(X:Cx)(a:G (J×Obj))(H:Hp)(b:J):Prop:=
 H b=P/\b≠X.env.locals/\b∉X.fs/\(b∈X.ex\/X.s₀.heap.objs.size<=b)/\(∀x c,X.env.cells.lookup x=M c->c≠b)/\∀p∈X.pn++a,p.1≠b
def Inv.acE(I:Inv X pins σ H s)(a:s.heap.objs.size<=b)(d:H' b=P):lR X pins H' b:=by
 show#[d,Xn (WC I.lt a),I.ajD a,.inr (WU I.sz a),λx c e z=>?_,λp f z=>?_]
 .let(v,q):=I.cell x c e;show b4 (WC q.lt (by rw[z];show a)) (XJ _)
 .show b4 (WC (cc (I.pin p f).1) (by rw[z];show a)) (XJ _)
structure Turn(P:Wz)(w:WX)(K:lD)(tg:Wy)(J:It)(fp:G Wd)(it:Wd)(tn:Nat->Heap->Prop):Prop where
 mem:it∈fp
 obj:∀i h,tn i h->∀b∈fp,∃o,h.get? b=M o/\∀v,o.data≠.cell v
 keep:∀i h h',tn i h->(∀b∈fp,∀o,h.get? b=M o->h'.get? b=M o)->tn i h'
 item:∀(X:Cx),X.prog=P->X.w=w->X.K=K->X.calm=S->∀(i:Nat) (pins:G (Wd×Obj)) (s:We) (σ:St) (H:Hp) (E:U->We->Prop),Inv X pins σ H s->(∀b∈fp,lR X pins H b)->tn i s.heap->J.go i H->
  wpAny (model P w) X.A (pyNext (.ref it)) (λr s1=>∃u,r=M u/\
   wpAny (model P w) X.A (letOwnedTupleGo tg (.ref it) u) (λ_ s2=>∃x H',Inv X pins σ H' s2/\RelV x u/\J.yld i H x H'/\tn (i+1) s2.heap/\∀b∈fp,H' b=Ld) E s1) E s
 done:∀(X:Cx),X.prog=P->X.w=w->X.K=K->X.calm=S->∀(i:Nat) (pins:G (Wd×Obj)) (s:We) (σ:St) (H:Hp) (E:U->We->Prop),Inv X pins σ H s->(∀b∈fp,lR X pins H b)->tn i s.heap->J.stop i H->
  wpAny (model P w) X.A (pyNext (.ref it)) (λr s1=>r=Ld/\Inv X pins σ H s1) E s
 self:∀(A:WQ) (i:Nat) (s:We) (Q:U->We->Prop) (E:U->We->Prop),tn i s.heap->Q (.ref it) s->wpAny (model P w) A (pyIter (.ref it)) Q E s
abbrev TI:=St->Hp->(It->Hp->Prop)->Prop
def UI(X:Cx)(a:G (Wd×Obj))(l:St)(m:Wy)(R:It->Hp->Prop)(e:U)(h:We):Prop:=
 ∃(i:Wd) (j:G Wd) (g:Nat->Heap->Prop) (J:It) (f:Hp),e=.ref i/\Inv X a l f h/\Turn X.prog X.w X.K m J j i g/\g 0 h.heap/\(∀b∈j,lR X a f b)/\R J f
def PI(X:Cx)(g b:Wy)(f:TI):Prop:=
 ∀(a:G (J×Obj)) (s:We) (e:St) (H:Hp) (R:It->Hp->Prop),Inv X a e H s->f e H R->
  wpAny (model X.prog X.w) X.A (eval b X.env) (λv h=>wpAny (model X.prog X.w) X.A (pyIter v) (UI X a e g R) X.xe h) X.xe s
def GA{M:acM}{A:WQ}{E:U->We->Prop}{s:We}{b:Wy}{it:J}{u:U}{o:Obj}{n:String}{c:Array U}{Q:Unit->We->Prop}(e:s.heap.get? it=cL o)(f:o.cls=.type n)(hd:o.data=.fields c)
  (d:["enumerate","zip","dict_itemiterator","dict_reverseitemiterator","odict_iterator","itertools.zip_longest","itertools.pairwise"].contains n=R) (a:Q ⟨⟩ s):wpAny M A (letOwnedTupleGo b (.ref it) u) Q E s:=by
 ext letOwnedTupleGo;ext b<;>first
  |show Wf a
  |(ext u<;>first
    |show Wf a
    |(show CL (afJ e ?_)
      rw[f,hd];show wpAny M A (if(["enumerate","zip","dict_itemiterator","dict_reverseitemiterator","odict_iterator","itertools.zip_longest","itertools.pairwise"].contains n&&c[0]? ==cL (rawInt _))=S then _ else _) Q E s;rw[bb (by intro h;rw[d,aaw]at h;ext h)];show Wf a))
def UD(K:lD)(a:J):It:=
 #[λi H=>∃xs x,Z1 K H a xs/\xs[i]?=M x,λi H x b=>b=H/\∀xs,Z1 K H a xs->xs[i]?=M x,λi H=>∃xs,Z1 K H a xs/\xs.length<=i]
def Uy(K:lD)(a:J):It:=
 #[λi H=>∃xs x,ZP K H a xs/\xs[i]?=M x,λi H x b=>b=H/\∀xs,ZP K H a xs->xs[i]?=M x,λi H=>∃xs,ZP K H a xs/\xs.length<=i]
def TX(lo:Int)(n:Nat):It:=#[λi _=>i<n,λi H x a=>a=H/\x=.int (lo+i),λi _=>n<=i]
theorem BH{K:lD}(a it:Wd):Turn Pz0 w K tg (UD K a) [it] it (λi h=>h.IsListIter it a i) where
 mem:=by simp
 obj:=λi h f b g=>by
  let e:b=it:=by simpa using g
  subst e;let(o,e,c,d):=f;show#[o,e,λv z=>by rw[d]at z;ext z]
 keep:=λi h M f k=>f.at λo e=>k it (by simp) o e
 item:=by intro X y r A L i l s N H E I n f t;subst y r A;let(xs,x,m,q):=t;let(Z,rv,p,R):=I.list m;let(u,T,Q):=rv.get q;let(J,G,U,F,C,B):=n it (by simp);show wpAny_pyNext_list_item f p.isList (by simpa using T) λM j O=>?_;let I1:=I.turned (t':=s.toks) (λb o g e=>(O.2 b g).trans e) J G F C B;let(o,e,c,d):=id j;show#[u,W,GA e c d () #[x,H,I1,Q,#[W,λys S=>by rw[I.aek S m];show q],j,λb g=>(n b g).1]]
 done:=by intro X y r A L i l s N H E I n f t;subst y r A;let(xs,m,q):=t;let(Z,rv,p,R):=I.list m;let(J,G,U,F,C,B):=n it (by simp);let hl:=rv.length;show wpAny_pyNext_list_end (I.ok.hd L) f p.isList (by simp;ext) λM Y=>#[W,I.turned (λb o g e=>Y b o g e) J G F C B]
 self:=λ_ _ _ _ _ f h=>wpAny_pyIter_listiter f h
theorem ye{K:lD}(a it:Wd):Turn Pz0 w K tg (Uy K a) [it] it (λi h=>h.IsTupleIter it a i) where
 mem:=by simp
 obj:=λi h f b g=>by
  let e:b=it:=by simpa using g
  subst e;let(o,e,c,d):=f;show#[o,e,λv z=>by rw[d]at z;ext z]
 keep:=λi h N f k=>f.at λo e=>k it (by simp) o e
 item:=by intro X y r A M i l s O H E I n f t;subst y r A;let(xs,x,m,q):=t;let(L,rv,p,S):=I.tuple m;let(u,U,R):=rv.get q;let(J,G,Y,F,C,B):=n it (by simp);show wpAny_pyNext_tuple_item f (show s.heap.IsTuple a L.toArray from p) (by simpa using U) λN j Q=>?_;let I1:=I.turned (t':=s.toks) (λb o g e=>(Q.2 b g).trans e) J G F C B;let(o,e,c,d):=id j;show#[u,W,GA e c d () #[x,H,I1,R,#[W,λys T=>by rw[I.adP T m];show q],j,λb g=>(n b g).1]]
 done:=by intro X y r A M i l s O H E I n f t;subst y r A;let(xs,m,q):=t;let(L,rv,p,S):=I.tuple m;let(J,G,Y,F,C,B):=n it (by simp);let hl:=rv.length;show wpAny_pyNext_tuple_end (I.ok.hd M) f (show s.heap.IsTuple a L.toArray from p) (by simp;ext) λN Z=>#[W,I.turned (λb o g e=>Z b o g e) J G F C B]
 self:=λ_ _ _ _ _ f h=>wpAny_pyIter_tupleiter f h
theorem yP{K:lD}(it:Wd)(lo:Int)(n:Nat):Turn T w K tg (TX lo n) [it] it (λi h=>IsRangeIter h it (lo+(i:Nat)*1) ((n:Int) - (i:Nat)) 1) where
 mem:=by simp
 obj:=λi h a b g=>by
  let e:b=it:=by simpa using g
  subst e;show#[_,a,λv z=>by let L:=z;ext L]
 keep:=λi h y a k=>k it (by simp) _ a
 item:=by intro X r m u q i f s J H E I l a p;subst r m u;let(G,F,Q,C,B,A):=l it (by simp);let W:=Walks.range (prog:=X.prog) (w:=X.w) (I.ok.hd q) it lo 1 n;show W.item i s _ _ p a λv y M O j N=>?_;let(t,rfl):=O;let S:Inv X f J H {s with heap:=y,toks:=M}:=I.turned (λb o g e=>N b o (by simpa using g) e) G F C B A;show#[_,rfl,GA j rfl rfl () #[.int (lo+i),H,S,#[t,?_],#[rfl,rfl],j,λb g=>(l b g).1]];rw[Int.mul_one]
 done:=by intro X r m u q i f s J H E I l a p;subst r m u;let(G,F,Q,C,B,A):=l it (by simp);show wpAny_pyNext_range_end (I.ok.hd q) a (by let:n<=i:=p;ext) λy R=>#[rfl,I.turned (λb o g e=>R b o g e) G F C B A]
 self:=λ_ _ _ _ _ a h=>wpAny_pyIter_rangeiter a h
section
variable{X:Cx}{Z:Wy}
def Ep{a:G (J×Obj)}{f:St}{H:Hp}{s:We}{R:It->Hp->Prop}{E:U->We->Prop}{lo c:Int}{t u v:Tok}{g:Nat}(I:Inv X a f H s)(n: -(2^62)<=lo)(m:lo<2^62)(l: -(2^62)<=c)(j:c<2^62)
  (q:R (TX lo (c - lo).toNat) H):wpAny (model X.prog X.w) X.A (pyIter (.ref s.heap.objs.size)) (UI X a f Z R) E {s with heap:=s.heap.push {cls:=.type "range",data:=.fields #v[.int lo t,.int c u,.int 1 v]},toks:=g}:=by
 show wpAny_pyIter_range (IsRange.new ..) (small_one n m l j) ?_;let h:Inv X a f H {s with heap:=s.heap.push {cls:=.type "range",data:=.fields #v[.int lo t,.int c u,.int 1 v]},toks:=g}:=I.kept λb o e=>b9 _ e;show#[(s.heap.push {cls:=.type "range",data:=.fields #v[.int lo t,.int c u,.int 1 v]}).objs.size,[(s.heap.push {cls:=.type "range",data:=.fields #v[.int lo t,.int c u,.int 1 v]}).objs.size],_,_,H,W,
  h.kept (t':=g) λb o e=>b9 _ e,yP _ lo (c - lo).toNat,?_,λb i=>?_,q]
 .let e1:lo+((0:Nat):Int)*1=lo:=by simp
  let e2:(((c - lo).toNat:Nat):Int) - ((0:Nat):Int)=Builtin.Range.rangeSize lo c 1:=by rw[rangeSize_one];split<;>ext
  show IsRangeIter _ _ (lo+((0:Nat):Int)*1) ((((c - lo).toNat:Nat):Int) - ((0:Nat):Int)) 1;rw[e1,e2];show ck _ W
 .let e:b=(s.heap.push {cls:=.type "range",data:=.fields #v[.int lo t,.int c u,.int 1 v]}).objs.size:=by simpa using i
  subst e;show h.acE (Wg _) (h.Xw.fresh (Wg _))
def LM(c:TA):TI:=λa H R=>c a H λe b=>∃j:Int,e=[.int j]/\ -(2^62)<=j/\j<2^62/\R (TX 0 j.toNat) b
def BJ(o:Gl X "range")(hm:X.mg "range"=P)(c:PA X [a] C)(n:Wu [a] X.env=[(V8,eval a X.env)]:=by rfl):PI X Z (.Call (.Name "range" p) [a] [] pos) (LM C):=by
 intro b s g H R I h;show Call_ (jA I o hm boot_range (XU (bJ (c pos b s g H _ I h) λv w #[A,y,u,l,f]=>?_) n W));let(j,e,f,m,q):=f;subst e;cases l with
 |cons r i=>ext i;let(t,rfl):=r;show call_range_1 (Ep u () () f m (by simpa using q))
def Jx(e:TI)(g:TG)(c:TS):TS:=λD a H=>e a H λJ h=>∃W:Nat->Nat->St->Hp->Prop,(∃m,W 0 m a h)/\∀i m a H,W i m a H->
 (J.stop i H/\D.nx a H)\/(J.go i H/\∃N:St->Hp->Prop,(∀j l,N j l->∃n,n<m/\W (i+1) n j l)/\∀x l,J.yld i H x l->g x a l λb f=>c {D with nx:=N,ct:=N,bk:=D.nx} b f)
def ro(a:G J)(h:Heap):G (J×Obj):=a.filterMap λb=>(h.get? b).map λo=>(b,o)
theorem iM(a:b∈C)(e:h.get? b=M o):(b,o)∈ro C h:=Zy.mpr #[b,a,by rw[e];rfl]
def BU(a:p∈ro C h):p.1∈C/\h.get? p.1=M p.2:=by
 let(b,f,e):=Zy.mp a;cases q:h.get? b with
 |none=>rw[q]at e;ext e
 |some o=>rw[q]at e;let g:=Wt e;subst g;show#[f,q]
theorem Inv.pinned(I:Inv X pins σ H s)(i:∀b∈fp,lR X pins H b)(h:∀b∈fp,∃o,s.heap.get? b=M o/\∀v,o.data≠.cell v):Inv X (pins++ro fp s.heap) σ H s:=
 I.ab5 λp g=>(Xd.mp g).elim (λz=>I.pin p (WY _ z)) λz=>by let(a,e):=BU z;let(m,l,j,_):=i p.1 a;let(o,f,d):=h p.1 a;rw[e]at f;ext f;show#[e,m,l,j,d]
theorem Inv.aaP(I:Inv X (pins++pl) σ H s):Inv X pins σ H s:=I.ab5 λp a=>I.pin p (WY _ (XD _ a))
def Nq(M:abZ (model X.prog X.w) X.A X.env X.xe)(c:X.calm=V6)(z:PI X Z iter wi)(V:PG X Z g)(p:PSs X body tb)
  (k:∀x,foldedSetIterable iter X.env x=pure x:=by intro _;rfl):PS X (.For Z iter body [] pos) (Jx wi g tb):=by
 intro j s σ H D I h;show wpAny_For (bJ (z j s σ H _ I h) λv s1 h1=>bJ h1 λitv s2 h2=>?_) k;let(it,P,tn,J,H2,e,I2,T,S,f2,W,(m0,w0),turn):=h2;subst e;let F:∀{B:Hp},(∀b∈P,B b=Ld)->∀b∈P,lR X j B b:=λhn b p=>#[hn b p,(f2 b p).2];show codeAny_forLoop_any (λn s'=>∃i A B,Inv X j A B s'/\tn i s'.heap/\(∀b∈P,B b=Ld)/\W i n A B) ?_ m0 #[0,σ,H2,I2,S,λb p=>(f2 b p).1,w0];rintro n s3 ⟨i,l,Q,I3,K,O,w3⟩;rcases turn i n l Q w3 with⟨G,qn⟩|⟨go,N,hN,step⟩
 .show YE M (bJ (T.done X rfl rfl rfl c i j s3 l Q X.xe I3 (F O) K G) λr s4 #[Y,I4]=>?_);subst Y;show Y1 #[l,Q,I4,qn]
 .show YE M (bJ (T.item X rfl rfl rfl c i j s3 l Q X.xe I3 (F O) K go) λr s4 #[u,Y,h4]=>?_)
  subst Y;show YE M (bJ h4 λ_ s5 a=>?_);let(x,H5,I5,r5,y5,E,fr5):=a;let I5':=I5.pinned (F fr5) (T.obj _ _ E);show YE M (bJ (V _ s5 l H5 x u _ I5' r5 (step x H5 y5)) λ_ s6 a=>?_);let(w,H6,I6,q6):=a;show YE M (bJ (p _ s6 w H6 _ I6 q6) λf U C=>?_);let q:∀{a:St} {y:Hp},Inv X (j++ro P s5.heap) a y U->N a y->∃m,m<n/\∃i A B,Inv X j A B U/\tn i U.heap/\(∀b∈P,B b=Ld)/\W i m A B:=λ{a y} t L=>by let(m',hm,w7):=hN a y L;show#[m',hm,i+1,a,y,t.aaP,T.keep _ _ _ E λb p o e=>(t.pin (b,o) (WY _ (WY _ (iM p e)))).1,λb p=>?_,w7];let(o,e,d):=T.obj _ _ E b p;show(t.pin (b,o) (WY _ (WY _ (iM p e)))).2.1
  cases f with
  |next=>let(a,y,t,L):=C;show q t L
  |cont=>let(a,y,t,L):=C;show q t L
  |brk=>let(a,y,t,C):=C;show#[a,y,t.aaP,C]
  |ret v=>let(x7,a,y,t,r7,C):=C;show#[x7,a,y,t.aaP,r7,C]
end
abbrev R2:=V->V->Hp->VK->Prop
def OpR(X:Cx)(f:U->U->Sem U)(r:R2):Prop:=
 ∀(a:G (J×Obj)) (s:We) (b:St) (H:Hp) (x y:V) (v u:U) (Q:VK),Inv X a b H s->RelV x v->RelV y u->r x y H Q->
  wpAny (model X.prog X.w) X.A (f v u) (EP X a b Q) X.xe s
def YG(X:Cx)(f:U)(r:G V->Hp->VK->Prop):Prop:=
 ∀(a:G (J×Obj)) (s:We) (b:St) (H:Hp) (xs:G V) (e:G U) (Q:VK),Inv X a b H s->Vals xs e->r xs H Q->
  wpAny (model X.prog X.w) X.A (call f e) (EP X a b Q) X.xe s
def ED(r:R2)(d c:TE):TE:=λa H Q=>d a H λx e=>c a e λy b=>r x y b Q
def rI(C:Int->Int->Prop)(g:Int->Int->V):R2:=λx y H Q=>∃i j,x=.int i/\y=.int j/\C i j/\Q (g i j) H
def xt(g:Int->Int->V):R2:=λx y H Q=>∃i j,x=.int i/\y=.int j/\Q (g i j) H
section
variable{X:Cx}{a b c:Wy}{Y Z O:TE}{T:Pos}
def N4(r:PE X a Y)(n:PE X b Z){R:V->V->Hp->Prop}(I:Inv X pins σ H s)
  (h:Y σ H λx H1=>Z σ H1 λy d=>R x y d) {f:U->U->Sem U}
  (m:∀v u s2 x y d,Inv X pins σ d s2->RelV x v->RelV y u->R x y d->wpAny (model X.prog X.w) X.A (f v u) Q X.xe s2):
  wpAny (model X.prog X.w) X.A (eval a X.env) (λv q=>wpAny (model X.prog X.w) X.A (eval b X.env) (λu k=>wpAny (model X.prog X.w) X.A (f v u) Q X.xe k) X.xe q) X.xe s:=by
 show bJ (r pins s σ H _ I h) λv e a=>?_;let(x,H1,p,i,l):=a;show bJ (n pins e σ H1 _ p l) λu s2 a=>?_;let(y,d,o,g,j):=a;show m v u s2 x y d o i g j
def SJ(l:OpR X (Yv op) r)(d:PE X a Y)(m:PE X b Z):PE X (.BinOp a op b T) (ED r Y Z):=by intro e s f H Q I h;show wpAny_BinOp (N4 d m I h λv u g x y o n j i q=>l e g f o x y v u Q n j i q)
def Ui{g:Int->Int->Int}
  (e:∀(i j:Int) (t u:Tok) (s:We) (Q:U->We->Prop) (E:U->We->Prop),C i j->Q (.int (g i j) s.toks) {s with toks:=s.toks+1}->wpAny (model X.prog X.w) X.A (f (.int i t) (.int j u)) Q E s):
  OpR X f (rI C λi j=>.int (g i j)):=by
 intro l s r H x y v u Q I o n h;let(i,j,rfl,rfl,p,q):=h;let(t,rfl):=o;let(m,rfl):=n;show e i j t m s _ _ p #[.int (g i j),H,I.tok _,#[_,W],q]
def RN{g:Int->Int->Int}
  (e:∀(i j:Int) (t u:Tok) (s:We) (Q:U->We->Prop) (E:U->We->Prop),Q (.int (g i j) s.toks) {s with toks:=s.toks+1}->wpAny (model X.prog X.w) X.A (f (.int i t) (.int j u)) Q E s):
  OpR X f (xt λi j=>.int (g i j)):=by
 intro l s p H x y v u Q I o n h;let(i,j,rfl,rfl,q):=h;let(t,rfl):=o;let(m,rfl):=n;show e i j t m s _ _ #[.int (g i j),H,I.tok _,#[_,W],q]
def Iz{g:Int->Int->Bool}
  (e:∀(i j:Int) (t u:Tok) (s:We) (Q:U->We->Prop) (E:U->We->Prop),Q (.bool (g i j)) s->wpAny (model X.prog X.w) X.A (f (.int i t) (.int j u)) Q E s):
  OpR X f (xt λi j=>.bl (g i j)):=by
 intro l s p H x y v u Q I o n h;let(i,j,rfl,rfl,q):=h;let(t,rfl):=o;let(m,rfl):=n;show e i j t m s _ _ #[.bl (g i j),H,I,W,q]
def ae2(i j:Int):Prop:=(-(2^64)<i/\i<2^64)\/(-(2^64)<j/\j<2^64)
def ae2.ok(h:ae2 i j):IntMulOk i j:=by
 rcases h with⟨f,e⟩|⟨f,e⟩
 .show .of_left (alj f e)
 .show .of_right (alj f e)
theorem Qn:OpR X (Yv .Add) (xt λi j=>.int (i+j)):=RN λ_ _ _ _ _ _ _ q=>add_int q
theorem Oo:OpR X (Yv .Sub) (xt λi j=>.int (i - j)):=RN λ_ _ _ _ _ _ _ q=>sub_int q
theorem Qp:OpR X (Yv .Mult) (rI ae2 λi j=>.int (i*j)):=Ui λ_ _ _ _ _ _ _ e q=>mul_int q e.ok
theorem NX:OpR X (Yv .Mod) (rI (λ_ j=>0<j) λi j=>.int (i % j)):=Ui λi j _ _ _ _ _ e q=>by let f:(0:Int)<j:=e;show mod_int' () (by rw[Int.fmod_eq_emod_of_nonneg i ()];show q)
end
def wf:V->V->Bool
 |.Ye,.Ye=>S|.Ye,.int _=>S|.int _,.Ye=>S|.Ye,.bl _=>S|.bl _,.Ye=>S|.Ye,.str _=>S|.str _,.Ye=>S
 |.int _,.int _=>S|.bl _,.bl _=>S|.str _,.str _=>S|.byt _,.byt _=>S
 |.int _,.str _=>S|.str _,.int _=>S|.bl _,.str _=>S|.str _,.bl _=>S
 |_,_=>R
def UW:R2:=λx y H Q=>wf x y=S/\Q (.bl (decide (x=y))) H
def Lp:decide (V.int i=V.int j)=(i==j):=by rw[YS];rw[decide_eq_true_iff,beq_iff_eq];show#[λh=>by ext h;rfl,λh=>by rw[h]]
def Qc:decide (V.bl i=V.bl j)=(i==j):=by rw[YS];rw[decide_eq_true_iff,beq_iff_eq];show#[λh=>by ext h;rfl,λh=>by rw[h]]
def Jy:decide (V.str i=V.str j)=(i==j):=by rw[YS];rw[decide_eq_true_iff,beq_iff_eq];show#[λh=>by ext h;rfl,λh=>by rw[h]]
def JM:decide (V.byt i=V.byt j)=(i.toList==j.toList):=by rw[YS];rw[decide_eq_true_iff,beq_iff_eq];show#[λh=>by ext h;rfl,λh=>by rw[Array.toList_inj.mp h]]
section
variable{X:Cx}{a b c:Wy}{ta Z Y:TE}{pos:Pos}
def dB(I:Inv X pins σ H s)(q:Q (.bl k) H)(e:k=o):EP X pins σ Q (.bool o) s:=by subst e;show#[.bl k,H,I,W,q]
def Tk:OpR X (Xx .Eq) UW:=by
 intro m s n H x y v u Q I l e h;let(g,q):=h;cases x with
 |Ye=>
  ext l;cases y with
  |Ye=>ext e;show ah4 (dB I q (by simp))
  |bl j=>ext e;show ah5 (dB I q (by simp))
  |int j=>let(f,rfl):=e;show ah6 (dB I q (by simp))
  |str j=>let(f,rfl):=e;show ah7 (dB I q (by simp))
  |_=>show b4 (show R=S from g) Wr
 |bl i=>
  ext l;cases y with
  |Ye=>ext e;show ah8 (dB I q (by simp))
  |bl j=>ext e;show eq_bool (dB I q Qc)
  |str j=>let(f,rfl):=e;show agV (dB I q (by simp))
  |_=>show b4 (show R=S from g) Wr
 |int i=>
  let(t,rfl):=l;cases y with
  |Ye=>ext e;show ah9 (dB I q (by simp))
  |int j=>let(f,rfl):=e;show eq_int (dB I q Lp)
  |str j=>let(f,rfl):=e;show agW (dB I q (by simp))
  |_=>show b4 (show R=S from g) Wr
 |str i=>
  let(t,rfl):=l;cases y with
  |Ye=>ext e;show aia (dB I q (by simp))
  |bl j=>ext e;show agX (dB I q (by simp))
  |int j=>let(f,rfl):=e;show agY (dB I q (by simp))
  |str j=>let(f,rfl):=e;show eq_str (dB I q Jy)
  |_=>show b4 (show R=S from g) Wr
 |byt i=>
  let(t,rfl):=l;cases y with
  |byt j=>let(f,rfl):=e;show PySem.W.eq_bytes (dB I q JM)
  |_=>show b4 (show R=S from g) Wr
 |_=>ext y<;>show b4 (show R=S from g) Wr
theorem Ry:OpR X (Xx .Lt) (xt λi j=>.bl (decide (i<j))):=Iz λ_ _ _ _ _ _ _ q=>lt_int q
theorem SR:OpR X (Xx .LtE) (xt λi j=>.bl (decide (i<=j))):=Iz λ_ _ _ _ _ _ _ q=>le_int q
theorem Ta:OpR X (Xx .Gt) (xt λi j=>.bl (decide (j<i))):=Iz λ_ _ _ _ _ _ _ q=>gt_int q
theorem Sc:OpR X (Xx .GtE) (xt λi j=>.bl (decide (j<=i))):=Iz λ_ _ _ _ _ _ _ q=>ge_int q
def N7:OpR X (Xx .Is) (λx y H Q=>y=.Ye/\Q (.bl (decide (x=.Ye))) H):=by
 intro f s i H x y v u Q I e g h;let(rfl,q):=h;ext g;show is_none_gen (dB I q ?_);ext x<;>first
  |(ext e;rfl)
  |(let(t,rfl):=e;rfl)
def JP:OpR X (Xx .IsNot) (λx y H Q=>y=.Ye/\Q (.bl (!decide (x=.Ye))) H):=by
 intro f s i H x y v u Q I e g h;let(rfl,q):=h;ext g;show isnot_none_gen (dB I q ?_);ext x<;>first
  |(ext e;rfl)
  |(let(t,rfl):=e;rfl)
def OX(b:Wy)(h:op≠.In:=by decide)(e:op≠.NotIn:=by decide):behindInMarks op b=R:=by
 let e1:(op==abh.In)=R:=by ext op<;>first|rfl|show b4 W h
 let e2:(op==abh.NotIn)=R:=by ext op<;>first|rfl|show b4 W e
 ext b<;>simp[behindInMarks,e1,e2]
def Ah{op:abh}{r:R2}(l:OpR X (Xx op) r)(d:PE X a ta)(m:PE X b Z)(hm:behindInMarks op b=R):PE X (.Compare a [op] [b] pos) (ED r ta Z):=by intro e s f H Q I h;show ajh (N4 d m I h λv u g x y o n j i q=>l e g f o x y v u Q n j i q) hm
def sM(t:TE):TT:=λe H Q=>t e H λx f=>∃k,x=.bl k/\Q k f
def K7(t:OpR X (Xx op) r)(d:PE X a ta)(w:PE X b Z)(hm:behindInMarks op b=R):PT X (.Compare a [op] [b] pos) (sM (ED r ta Z)):=by
 intro f s g H Q I h;show aeH (bJ (d f s g H _ I h) λv j #[x,G,C,n,q]=>bJ (w f j g G _ C q) λu i #[y,F,B,m,p]=>
  bJ (t f i g F x y v u _ B n m p) λc J a=>?_) hm;let(z,E,A,l,k,e,o):=a
 subst e;ext l;show XO #[E,A,o]
def xM(r h:R2)(ta Z Y:TE):TE:=λe H Q=>ta e H λx l=>Z e l λy j=>r x y j λz f=>∃k,z=.bl k/\
 (if k=S then Y e f λg i=>h y g i Q else Q (.bl R) f)
def Ec(K:OpR X (Xx op) r)(i:OpR X (Xx op') r')(D:PE X a ta)(M:PE X b Z)(L:PE X c Y)
  (hm:lastMarks [op,op'] [b,c]=V8:=by with_unfolding_all rfl):PE X (.Compare a [op,op'] [b,c] pos) (xM r r' ta Z Y):=by
 intro f s g H Q I h;show Compare_chain (bJ (D f s g H _ I h) λv A #[x,T,Pz0,E,J2]=>chain_link (bJ (M f A g T _ Pz0 J2) λu w #[y,S1,O,j,G]=>
  bJ (K f w g S1 x y v u _ O E j G) λd t a=>?_)) hm;let(z,n,m,C,k,e,l):=a
 subst e;ext C;show XO ?_;cases k with
 |false=>show ite_ff #[.bl V8,n,m,W,l]
 |true=>show ite_tt (chain_last (bJ (L f t g n _ m l) λp q #[o,R1,N,B,F]=>i f q g R1 y o u p Q N j B F))
def Fu(N:OpR X (Xx op) r)(i:OpR X (Xx op') r')(D:PE X a ta)(P:PE X b Z)(O:PE X c Y)
  (hm:lastMarks [op,op'] [b,c]=V8:=by with_unfolding_all rfl):PT X (.Compare a [op,op'] [b,c] pos) (sM (xM r r' ta Z Y)):=by
 intro f s g H Q I h;show isTrue_chain (bJ (D f s g H _ I h) λv A #[x,H1,I1,F,L]=>test_link (bJ (P f A g H1 _ I1 L) λu w #[y,H2,Uz0,j,K]=>
  bJ (N f w g H2 x y v u _ Uz0 F j K) λd t a=>?_)) hm;let(z,n,m,E,k,e,l):=a
 subst e;ext E;show XO ?_;cases k with
 |false=>let(k',R,M):=l;ext R;show ite_ff #[n,m,M]
 |true=>show ite_tt (test_last (bJ (O f t g n _ m l) λp q #[o,H4,T,C,J2]=>bJ (i f q g H4 y o u p _ T j C J2) λd' s5 a=>?_));let(z2,H5,S1,B,k2,e2,G):=a;subst e2;ext B;show XO #[H5,S1,G]
def uY:(Wm:Nat)<2^63:=by rw[YA];decide
def kq(r:Vals [x] us):∃u,us=[u]/\RelV x u:=by
 cases r with
 |cons f e=>ext e;show#[_,W,f]
def Aa(r:Vals [x,y] us):∃u d,us=[u,d]/\RelV x u/\RelV y d:=by
 cases r with
 |cons h g=>
  cases g with
  |cons f e=>ext e;show#[_,_,W,h,f]
def CM(g:X.calm=S):YG X (.builtin "max") (λxs H Q=>∃i j,xs=[.int i,.int j]/\Q (.int (if j>i then j else i)) H):=by
 intro f s l H xs n Q I r h;let(i,j,rfl,q):=h;let(u,m,rfl,(t,rfl),(p,rfl)):=Aa r;show max_two_ints (I.ok.hd g) λv o k=>#[_,H,I.kept k,?_,q];by_cases e:j>i
 .rw[ax e,ax e];show#[_,W]
 .rw[bb e,bb e];show#[_,W]
def Qy(K:lD)(x:V)(H:Hp)(n:Nat):Prop:=
 match x with
 |.str y=>y.length<=Wm/\n=y.length
 |.byt y=>y.size<=Wm/\n=y.size
 |.ref p=>(∃xs,Z1 K H p xs/\n=xs.length)\/∃xs,ZP K H p xs/\n=xs.length
 |_=>False
def vE:YG X (.builtin "len") (λxs H Q=>∃x n,xs=[x]/\Qy X.K x H n/\Q (.int n) H):=by
 intro m s A H xs B Q I r h;let(x,n,rfl,e,q):=h;let(u,rfl,i):=kq r;let E:=uY;let C:=YA;cases x with
 |str y=>let(t,rfl):=i;let(v,g):=e;subst g;show len_str () #[.int _,H,I.tok _,#[_,W],q]
 |byt y=>let(t,rfl):=i;let(v,g):=e;subst g;show PySem.W.len_bytes () #[.int _,H,I.tok _,#[_,W],q]
 |ref p=>
  ext i;let g:=e;rcases g with⟨xs,l,g⟩|⟨xs,l,g⟩
  .subst g;let(w,j,pl,o):=I.list l;let f:=j.length;show Calls.call_len_list pl.isList (by simp only[Ws];ext) #[.int xs.length,H,I.tok _,#[_,by simp only[Ws];rw[f]],q]
  .subst g;let(w,j,pl,o):=I.tuple l;let f:=j.length;show len_tuple pl (by simp only[Ws];ext) #[.int xs.length,H,I.tok _,#[_,by simp only[Ws];rw[f]],q]
 |_=>show(show False from e).elim
end
structure adi(h:Heap)(x dx C:J)(mA:Str->I U):Prop where
 obj:h.get? x=M (Yb C dx)
 ns:h.Ns1 dx mA
 ne:dx≠x
def sK{h:Heap}(n:h.Ns1 dx C):∃c,h.get? dx=M c/\∀name,aac name c=M (C name):=by
 let(o,es,m,g,j,i,_,hm):=n;show#[o,g,λname=>?_];let e:=hm name;unfold nsFind findBy at e;rw[<-ady]at e;ext aac;rw[j];dsimp only;split
 .rename_i y q;rw[q]at e;show d7 M e
 .rename_i q
  rw[q]at e;let a:es.toList.any (·.refKey)=R:=by rw[List.any_eq_false];intro y f;let(z,t,b):=i y (Array.mem_toList_iff.mp f);simp[Za.refKey,b]
  let l:¬es.toList.any (·.refKey)=S:=by rw[a];show Wr
  rw[bb l];show d7 M e
theorem adi.look(I:adi h x dx C mA):∃a,aad h x (Yb C dx) C (M a)/\∀name,aac name a=M (mA name):=
 let#[a,b,e]:=sK I.ns
 #[a,#[I.obj,W,W,b],e]
section
variable{T:Wz}{w:WX}{A:WQ}{E:V5->We->Prop}{s:We}{K:lD}{x O C f:Wd}{Z:Str->b7 V5}{Y:Str}{v:V5}
def HX(X:K.In s.heap)(I:adi s.heap x O C Z)(i:Y8 K C Y=S)(g:Yx K C=S)
  (c:WW K (.ref C) Y=M P) (b:Z Y=M v) (a:adz v=S) (h:Q v {s with toks:=s.toks+1}):
  wpAny (model T w) A (getAttr (.ref x) Y expr) Q E s:=by
 let(j,J,e):=I.look;show PySem.W.get_value X J (aas i).1 (PySem.W.findObj_own g c W (by rw[e,b])) a h
def DP(X:K.In s.heap)(I:adi s.heap x O C Z)(a:Y8 K C Y=S)
  (j:WW K (.ref C) Y=M (M (.ref f))) (g:Yp K (.ref f)=S) (e:Z Y=P) (h:Q (.ref f,[.ref x]) s):
  wpAny (model T w) A (getMethod (.ref x) Y pl) Q E s:=by
 let(b,J,i):=I.look;show PySem.W.method_fn X J (aas a).1 (aas a).2 j (beq_iff_eq.mp g) (by show(aac Y b).map (·.isSome)=M R;rw[i,e];rfl) h
def Lh(X:K.In s.heap)(I:adi s.heap x O C Z)
  (p:WW K (.ref C) "__setattr__"=M (M (.builtin "object.__setattr__"))) (q:aaM K C=S) (o:aa9 K C Y=M P) (r:Yx K C=S)
  (n:acm Z ns) (d:ns.length<=Wm)
  (h:∀c,adi c x O C (λy=>if y=Y then M v else Z y)->Heap.SameBut O s.heap c->Q ⟨⟩ {s with heap:=c,toks:=s.toks+2}):
  wpAny (model T w) A (setAttr (.ref x) Y v) Q E s:=by
 let(F,J,H):=I.look;show PySem.W.set_plain X J p (PySem.W.osa_open X J q o λb=>?_);let(L,t,j):=PySem.W.any_some r;let m:=I.obj;show CL (Wf (CL (CL (ajk m (CL (agZ (PySem.W.looks_clsIn X t) ?_))))));rw[j];show Wf (CL (Wf (CL ?_)));show wpAny_nsSet1 I.ns λc e a=>?_;let(G,u,B,g,i,l):=e.count (aib Y v n);show CL (ag0 g (by rw[i];show ag1 (WU l (by rw[Wo];ext))) ?_);show Wf (h _ #[(a.2 _ (dN I.ne)).trans I.obj,e,I.ne] a)
def Fw{R:aaW->We->Prop}{c:G U}{b:G (Str×U)}(X:K.In s.heap)(hm:aba K C=S)
  (k:WW K (.ref C) "__init__"=M (M (.ref f))) (e:ad5 K (.ref f)=M (.type "function"))
  (h:codeAny (model T w) (A.under (.builtin "type.__call__" #[.ref C::c,b])) (.call (.ref f) #[.ref (s.heap.objs.size+1)::c,b]) (PySem.W.InitBack (s.heap.objs.size+1) R)
   {s with heap:=(s.heap.push XH).push (Yb C s.heap.objs.size)}):
  codeAny (model T w) A (.call (.ref C) #[c,b]) R s:=by
 let(j,g,d,t,i):=s;show PySem.W.make_core (PySem.W.makes_of X hm) (PySem.W.looks_findIn X k) (λa=>PySem.W.bind_fn X a e) (.inl W) h
end
def ip(f:Str)(v:V):G (Str×V)->G (Str×V)
 |[]=>[(f,v)]
 |(g,x)::r=>if g=f then(g,v)::r else(g,x)::ip f v r
theorem nr(f g:Str)(v:V):∀fs:G (Str×V),(ip f v fs).lookup g=if g=f then M v else fs.lookup g
 |[]=>by
  show Yg g [(f,v)]=_;by_cases h:g=f
  .let a:=beq_iff_eq.mpr h;simp only[Yg,a,ax h]
  .let a:=beq_eq_false_iff_ne.mpr h;simp only[Yg,a,bb h]
 |(k,x)::r=>by
  let i:=nr f g v r;rw[show ip f v ((k,x)::r)=(if k=f then(k,v)::r else(k,x)::ip f v r)from rfl];by_cases b:k=f
  .rw[ax b]
   by_cases h:g=k
   .let a:=beq_iff_eq.mpr h;simp only[Yg,a,ax (h.trans b)]
   .let a:=beq_eq_false_iff_ne.mpr h;simp only[Yg,a,bb (λe:g=f=>h (e.trans b.symm))]
  .rw[bb b]
   by_cases h:g=k
   .let a:=beq_iff_eq.mpr h;simp only[Yg,a,bb (λe:g=f=>b (h.symm.trans e))]
   .let a:=beq_eq_false_iff_ne.mpr h;simp only[Yg,a];show i
theorem mQ(f:Str)(v:V):∀fs:G (Str×V),f∈(ip f v fs).map (·.1)/\∀g,g∈fs.map (·.1)->g∈(ip f v fs).map (·.1)
 |[]=>#[by simp[ip],λg h=>by simp at h]
 |(k,x)::r=>by
  let(i,b):=mQ f v r;rw[show ip f v ((k,x)::r)=(if k=f then(k,v)::r else(k,x)::ip f v r)from rfl];by_cases a:k=f
  .rw[ax a];subst a;show#[by simp,λg h=>by simpa using h]
  .rw[bb a]
   show#[?_,λg h=>?_]
   .rw[Wv];show Wj _ i
   .rw[Wv]at h⊢
    rcases WE.mp h with e|e
    .show WE.mpr (.inl e)
    .show Wj _ (b g e)
theorem ng(f:Str)(v:V):∀fs:G (Str×V),(ip f v fs).length<=fs.length+1
 |[]=>by simp[ip]
 |(k,x)::r=>by
  let b:=ng f v r;rw[show ip f v ((k,x)::r)=(if k=f then(k,v)::r else(k,x)::ip f v r)from rfl];by_cases a:k=f
  .rw[ax a,Wo,Wo];ext
  .rw[bb a,Wo,Wo];ext
def ZH.some_of(r:ZH (M v) o):∃u,o=M u/\RelV v u:=by
 cases o with
 |none=>show(show False from r).elim
 |some u=>show#[u,W,r]
def ZH.none_of(r:ZH P o):o=P:=by
 cases o with
 |none=>rfl
 |some u=>show(show False from r).elim
def sB(r:RelV v u):adz u=S:=by
 cases v with
 |Ye=>cases(show u=V5.none from r);rfl
 |bl b=>cases(show u=V5.bool b from r);rfl
 |int i=>let(t,e):=(show∃t,u=V5.int i t from r);ext e;rfl
 |str x=>let(t,e):=(show∃t,u=V5.str x t from r);ext e;rfl
 |byt b=>let(t,e):=(show∃t,u=V5.bytes b t from r);ext e;rfl
 |flt b=>let(t,e):=(show∃t,u=V5.float b t from r);ext e;rfl
 |ref a=>cases(show u=V5.ref a from r);rfl
 |ty n=>cases(show u=V5.type n from r);rfl
section
variable{P:Wz}{w:WX}{H X:Hp}{h T:Heap}{a C Z:Wd}{fs Y:b5 (Str×V)}
def tG(Xw:HOk P w H h)(e:H a=M (.ins C Z fs)):∃c,adi h a Z C c/\(∀f,ZH (fs.lookup f) (c f))/\acm c (fs.map (·.1))/\fs.length<=1000/\H Z=M (.own a):=by let(d,z,ne,b,c,n,r,q):=(show ObjOk P w H h a (.ins C Z fs)from Xw a _ e);show#[c,#[b,n,ne],r,q,z,d]
end
structure Cls(K:lD)(C:J):Prop where
 pg:Y8 K C Str.empty=S
 hd:Yx K C=S
 po:aaM K C=S
 sa:WW K (.ref C) "__setattr__"=M (M (.builtin "object.__setattr__"))
theorem Cls.get{K:lD}(c:Cls K C)(f:Str):Y8 K C f=S:=c.pg
def ZE(K:lD)(C:J)(f:Str):Prop:=WW K (.ref C) f=M P
def ZE.ahK{K:lD}(n:ZE K C f):aa9 K C f=M P:=by ext aa9;rw[show WW K (.ref C) f=M P from n];rfl
structure Con(K:lD)(C:J)(f:Str)(v:V)(u:U):Prop where
 at_:WW K (.ref C) f=M (M u)
 rel:RelV v u
 get:YV K u "__get__"=M P
 cp:PySem.W.copiedNames.contains f=R
structure Meth(K:lD)(C:J)(m:Str)(f:J):Prop where
 at_:WW K (.ref C) m=M (M (.ref f))
 fn:Yp K (.ref f)=S
 kp:XT K (.ref f)=S
section
variable{X:Cx}{Z:b5 (Wd×Obj)}{Y:St}{H:Hp}{s:We}{a C T:Wd}{fs:b5 (Str×V)}{f:Str}{v:V}{A:WQ}{E:V5->We->Prop}
def za(I:Inv X Z Y H s)(e:H a=M (.ins C T fs))(c:Cls X.K C)(n:ZE X.K C f)(l:fs.lookup f=M v)
  (h:∀u d,Inv X Z Y H d->RelV v u->Q u d):wpAny (model X.prog X.w) A (getAttr (.ref a) f b) Q E s:=by
 let(j,O,r,_,_,_):=tG I.Xw e;let(u,i,g):=ZH.some_of (by rw[<-l];show r f);show HX I.kIn O (c.get f) c.hd n i (sB g) (h u _ (I.tok _) g)
def qX(I:Inv X Z Y H s)(e:H a=M (.ins C T fs))(c:Cls X.K C)(k:Meth X.K C m g)(l:fs.lookup m=P)
  (h:Q (.ref g,[.ref a]) s):wpAny (model X.prog X.w) A (getMethod (.ref a) m pl) Q E s:=by
 let(b,O,r,_,_,_):=tG I.Xw e;let i:=ZH.none_of (by rw[<-l];show r m);show DP I.kIn O (c.get m) k.at_ k.fn i h
def xw(I:Inv X Z Y H s)(e:H a=cL (.ins C T fs))(c:Cls X.K C)(n:ZE X.K C f)(M:fs.length<1000)(t:RelV y u)
  (h:∀d,Inv X Z Y (aW H a (.ins C T (ip f y fs))) d->Q ⟨⟩ d):wpAny (model X.prog X.w) A (setAttr (.ref a) f u) Q E s:=by
 let(l,O,r,j,_,m):=tG I.Xw e;let B:(fs.map (·.1)).length<=Wm:=by rw[V9,YA];ext
 show Lh I.kIn O c.sa c.po n.ahK c.hd j B λL i p=>h _ ?_;let G:∃o,L.get? T=cL o:=let#[o,_,_,w,_]:=i.ns;#[o,w]
 show I.write (by rw[e];show True.intro) (.inr m) (λb q J z=>(p.2 b J).trans z) G ?_;show#[by rw[ar O.ne];show m,?_,O.ne,i.obj,_,i.ns,λg=>?_,λg F=>?_]
 .let:=ng f y fs;ext
 .show ZH ((ip f y fs).lookup g) (if g=f then cL u else l g)
  rw[nr];by_cases q:g=f
  .rw[ax q,ax q];show t
  .rw[bb q,bb q];show r g
 .by_cases q:g=f
  .rw[q];show(mQ f y fs).1
  .show(mQ f y fs).2 g (j g λz=>F ?_);show(if g=f then cL u else l g)=P;rw[bb q];show z
def Inv.made(I:Inv X Z Y H s):Inv X Z Y (aW (aW H s.heap.objs.size (.own (s.heap.objs.size+1))) (s.heap.objs.size+1) (.ins C s.heap.objs.size []))
  {s with heap:=(s.heap.push XH).push (Yb C s.heap.objs.size)}:=by
 let e1:(s.heap.push XH).get? s.heap.objs.size=M XH:=ck s.heap W;let e2:((s.heap.push XH).push (Yb C s.heap.objs.size)).get? (s.heap.objs.size+1)=M (Yb C s.heap.objs.size):=by let:=ck (s.heap.push XH) (o:=Yb C s.heap.objs.size) W;rwa [c9]at this
 let e3:(s.heap.push XH).Ns s.heap.objs.size (λ_=>P):=#[XH,#v[],_,e1,W,(λe h=>b4 h (by simp)),λ_=>W];let i:=I.laid (a:=s.heap.objs.size) (o:=.own (s.heap.objs.size+1)) (h':=s.heap.push XH) (t':=s.toks) (λb u q=>b9 _ q) (Wg _) #[_,e1];show i.laid (a:=s.heap.objs.size+1) (o:=.ins C s.heap.objs.size []) (t':=s.toks) (λb u q=>b9 _ q) (ag2 (c9 _ _)) ?_;let ne:s.heap.objs.size≠s.heap.objs.size+1:=WG (Zj _);show#[by rw[ar ne,az],W0 _,ne,e2,λ_=>P,(Heap.Ns1.of_empty e3).at λo q=>b9 _ q,λ_=>True.intro,λy g=>b4 W g]
theorem zr{prog:Wz}{w:WX}{env:Env}{e:Wy}{f:Str}{b:Pos}{s:We}{Q:U->We->Prop}(g:attributeBase e f env (eval e env)=eval e env)
  (h:wpAny (model prog w) A (eval e env) (λo c=>wpAny (model prog w) A (getAttr o f S) Q E c) E s):wpAny (model prog w) A (eval (.Attribute e f b) env) Q E s:=
 Attribute_any_ h (by rw[arm_eval_Attribute,g])
end
def Nc(K:lD)(c:TE)(f:Str):TE:=λe H Q=>c e H λx b=>∃a C g fs v,x=.ref a/\b a=M (.ins C g fs)/\Cls K C/\ZE K C f/\fs.lookup f=M v/\Q v b
def Om(K:lD)(c g:TE)(f:Str):TS:=λD b H=>g b H λy h=>c b h λx e=>∃a C i fs,x=.ref a/\e a=M (.ins C i fs)/\Cls K C/\ZE K C f/\fs.length<1000/\
 D.nx b (aW e a (.ins C i (ip f y fs)))
section
variable{X:Cx}{o e Z:Wy}{f:Str}{T Y ajJ:Pos}{O N:TE}
def GP(m:PE X e O)(p:attributeBase e f X.env (eval e X.env)=eval e X.env):PE X (.Attribute e f T) (Nc X.K O f):=by intro b s g H Q I h;show zr p (bJ (m b s g H _ I h) λu F a=>?_);let(x,A,y,i,a,C,K,fs,v,r,t,c,n,l,q):=a;subst r;obtain rfl:=i;show za y t c n l λB E w j=>#[v,A,w,j,q]
def QD(d:PE X o O)(r:PE X Z N)(t:Yu Z (cL (.Attribute o f Y)) T.line X.env=pure R):PS X (.Assign [.Attribute o f Y] Z T) (Om X.K O N f):=by intro b s g H D I h;show abM (bJ (r b s g H _ I h) λu i #[y,F,E,j,q]=>bJ (d b i g F _ E q) λL J a=>?_) t;let(x,K,B,m,a,C,Q,fs,v,w,c,n,l,p):=a;subst v;obtain rfl:=m;show xw B w c n l j λG A=>#[g,_,A,p]
end
section
variable{X:Cx}{Z:b5 (Wd×Obj)}{Y:St}{H:Hp}{s:We}{A:WQ}{E:V5->We->Prop}{Q:V5->We->Prop}{c:V5}{b:Bool}
inductive aby(K:lD)(H:Hp):V->U->Prop where
 |Ye:aby K H .Ye (.type "NoneType")
 |bl (x:Bool):aby K H (.bl x) (.type "bool")
 |int (i:Int):aby K H (.int i) (.type "int")
 |str (x:Str):aby K H (.str x) (.type "str")
 |flt (x:UInt64):aby K H (.flt x) (.type "float")
 |lst {a:J} {xs:G V} (e:H a=M (.lst xs)):aby K H (.ref a) (.type "list")
 |frz {a:J} {o:Obj} {xs:G V} (e:H a=M (.frz o (.lst xs))):aby K H (.ref a) (.type "list")
 |tup {a:J} {xs:G V} (e:H a=M (.tup xs)):aby K H (.ref a) (.type "tuple")
 |dK {a:J} {WH:G (bZ×V)} (e:H a=M (.dK WH)):aby K H (.ref a) (.type "dict")
 |dT {a:J} {WH:G (G bZ×V)} (e:H a=M (.dT WH)):aby K H (.ref a) (.type "dict")
 |ins {a C dx:J} {fs:G (Str×V)} (e:H a=M (.ins C dx fs)) (cl:Cls K C) (ha:WW K (.ref C) "__class__"=M (M (.builtin "object.__class__")))
   (hn:YV K (.builtin "object.__class__") "__get__"=M (M (.builtin "getset_descriptor.__get__"))) (htk:PySem.W.takesIn K (.builtin "object.__class__")=M S)
   (hm:aeI K C (.type "object")=M S):aby K H (.ref a) (.ref C)
end
structure X9(k:Nat)(A:WQ):Prop where
 hd:A.handled=P
 dp:A.depth+3*k+5<recursionLimit
 un:A.units+16*k+200<cLine
theorem X9.mono(r:X9 k A)(h:j<=k):X9 j A:=#[r.hd,by let:=r.dp;ext,by let:=r.un;ext]
theorem X9.deeper(r:X9 (k+1) A)(env:Env):X9 k (A.deeper env):=
 #[r.hd,by let:=r.dp;show A.depth+1+3*k+5<_;ext,by let:=r.un;show A.units+3+16*k+200<_;ext]
def xE{A:WQ}:(A.under (.builtin "type.__call__" #[.ref C::us,kw])).depth=A.depth+1:=by
 first|rfl|simp[WQ.under,acO.weight,acO.isCreation,acO.isGuard,acO.isCaller,acO.frames,acO.isFrame,guardIds]
def yH{A:WQ}:(A.under (.builtin "type.__call__" #[.ref C::us,kw])).units=A.units+1:=by
 first|rfl|simp[WQ.under,acO.cUnits,acO.frames,acO.isFrame]
theorem X9.make(r:X9 (k+1) A)(C:J)(us:G U)(a:G (Str×U)):X9 k (A.under (.builtin "type.__call__" #[.ref C::us,a])):=
 #[r.hd,by let:=r.dp;rw[xE];ext,by let:=r.un;rw[yH];ext]
def X9.depth(r:X9 k A):A.depth<recursionLimit:=by let:=r.dp;ext
def X9.units(r:X9 k A):A.units+64<cLine:=by let:=r.un;ext
def ja:TA:=λ_ H Q=>Q [] H
def fV(c:TE)(b:TA):TA:=λa H Q=>c a H λx f=>b a f λxs e=>Q (x::xs) e
section
variable{X:Cx}{e:Wy}{es:b5 Wy}{Y:TE}{t:TA}{Z:Pos}
theorem jO:PA X [] ja:=λ_ _ _ _ H Q I h=>Calls.spliced_nil #[[],H,I,.nil,h]
def ei(c:PE X e Y)(n:PA X es t)(m:Wu (e::es) X.env=(R,eval e X.env)::Wu es X.env:=by rfl):PA X (e::es) (fV Y t):=by intro Z a s b H Q I h;rw[m];show Calls.spliced_cons (bJ (c a s b H _ I h) λu f a=>?_);let(x,r,p,i,l):=a;show bJ (n Z a f b r _ p l) λv w #[xs,q,o,g,j]=>#[x::xs,q,o,.cons i g,j]
def KP(t:TA):TE:=λb H Q=>t b H λxs a=>xs.length<=Wm/\∀p,a p=P->Q (.ref p) (aW a p (.tup xs))
def OD(t:TA):TE:=λb H Q=>t b H λxs a=>xs.length<=Wm/\∀p,a p=P->Q (.ref p) (aW a p (.lst xs))
def QI{c}(h:PA X es t):PE X (.Tuple es c Z) (KP t):=by intro a s i H Q I l;show wpAny_Tuple_spliced (bJ (h Z a s i H _ I l) λj f #[xs,n,g,r,z,q]=>#[by rw[<-r.length];show z,?_]);let m:=g.Xw.fresh (Wg _);show#[.ref f.heap.objs.size,aW n f.heap.objs.size (.tup xs),g.laid (λb u e=>b9 _ e) (Wg _) ?_,W,q _ m];show#[z,j,r,#[_,ck _ W,#[W,_,W],W]]
def Ou(h:PA X es t):PE X (.List es Z) (OD t):=by intro a s i H Q I l;show wpAny_List_spliced (bJ (h Z a s i H _ I l) λj f #[xs,n,g,r,z,q]=>#[by rw[<-r.length];show z,?_]);let m:=g.Xw.fresh (Wg _);show#[.ref f.heap.objs.size,aW n f.heap.objs.size (.lst xs),g.laid (λb u e=>b9 _ e) (Wg _) ?_,W,q _ m];show#[z,j,0,r,ck _ W]
end
abbrev Sp:=G V->Hp->VK->XK->Prop
abbrev tS:=G Env->Hp->We->XK->U->We->Prop
structure Env0(P:Wz)(w:WX)(K:lD)(mg:Str->I U)(base:Heap)(A:WQ)(outer:G Env)(s:We)(H:Hp):Prop where
 frames:A.frames=M outer
 mod:Mod K mg base
 bs:∀b o,base.get? b=M o->s.heap.get? b=M o/\H b=Ld
 bsz:base.objs.size<=s.heap.objs.size
 aaC:s.heap.FunFrames base outer
 frf:∀b∈wC outer,H b=Ld
 Xw:HOk P w H s.heap
 bare:AllBare s.gens
def CE(outer:G Env)(P:Wz)(w:WX)(H:Hp)(s:We)(Q:VK)(u:U)(a:We):Prop:=
 ∃v b,a.os=s.os/\AllBare a.gens/\Un (wC outer) [] H b s.heap a.heap/\HOk P w b a.heap/\RelV v u/\Q v b
def CR(b:tS)(outer:G Env)(P:Wz)(w:WX)(H:Hp)(s:We)(Q:VK)(E:XK)(r:aaW)(a:We):Prop:=
 match r with
 |.ok (.ret u)=>CE outer P w H s Q u a
 |.ok _=>False
 |.error e=>b outer H s E e a
structure FnOk(P:Wz)(w:WX)(K:lD)(mg:Str->I U)(base:Heap)(CX:tS)(k:Nat)(f:J)(fd:Xj)(ps:G Str)(sp:Sp):Prop where
 len:∀vs H Q E,sp vs H Q E->vs.length=ps.length
 run:∀(A:WQ) (outer:G Env) (s:We) (H:Hp) (args:Args) (us:G U) (vs:G V) (Q:VK) (E:XK),X9 k A->Env0 P w K mg base A outer s H->aaz s fd args (ps.zip us)->Vals vs us->sp vs H Q E->
  codeAny (model P w) A (.call (.ref f) args) (CR CX outer P w H s Q E) s
theorem FnOk.imp{P:Wz}{w:WX}{K:lD}{p:Str->I U}{base:Heap}{g:tS}{k:Nat}{f:J}{fd:Xj}{d:G Str}{sp b:Sp}(F:FnOk P w K p base g k f fd d sp)
  (h:∀c H Q E,b c H Q E->sp c H Q E):FnOk P w K p base g k f fd d b:=
 #[λc H Q E q=>F.len c H Q E (h _ _ _ _ q),λA a s H e i c Q E m n o j l=>F.run A a s H e i c Q E m n o j (h _ _ _ _ l)]
theorem Env0.make{K:lD}(e:Env0 b w K mg base A outer s H)(C:J)(us:G U)(a:G (Str×U)):
  Env0 b w K mg base (A.under (.builtin "type.__call__" #[.ref C::us,a])) outer s H:=#[by first|show e.frames|(simpa [WQ.under,acO.envs,acO.isFrame,pushEnvs]using e.frames),e.mod,e.bs,e.bsz,e.aaC,e.frf,e.Xw,e.bare]
section
variable{X:Cx}{Z:b5 (Wd×Obj)}{Y:St}{H:Hp}{s U:We}
theorem Inv.afb(I:Inv X Z Y H s):Env0 X.prog X.w X.K X.mg X.base X.A X.stack s H:=
 #[I.ok.frames,I.ok.mod,I.bs,WU I.ok.bsz I.sz,I.stack,I.abn,I.Xw,I.bare]
def Inv.after{Q:VK}{u:V5}(I:Inv X Z Y H s)(h:CE X.stack X.prog X.w H s Q u U):EP X Z Y Q u U:=by let(v,j,f,a,un,Xw,r,q):=h;let(i,g,d,t,e):=U;obtain rfl:e=s.os:=f;show#[v,j,I.call (h':=i) (g':=g) (d':=d) (t':=t) (ch:=[]) un Xw a (λb z=>b4 z (by simp)),r,q]
end
def jo(sp:Sp)(b:G V)(E:XK)(t:TA):TE:=λa H Q=>t a H λf e=>sp (f++b) e Q E
def sr(C:J)(m:Str)(sp:Sp)(f:G V)(E:XK)(c:TE)(t:TA):TE:=λb H Q=>c b H λx e=>∃a i fs,x=.ref a/\e a=M (.ins C i fs)/\fs.lookup m=P/\
 t b e λh g=>sp (x::(h++f)) g Q E
def we(C:J)(sp:Sp)(e:G V)(E:XK)(t:TA):TE:=λb H Q=>t b H λh a=>∀x g,a x=P->a g=P->g≠x->
 sp (.ref x::(h++e)) (aW (aW a g (.own x)) x (.ins C g [])) (λv f=>v=.Ye/\Q (.ref x) f) E
def Binds(K:lD)(fd:Xj)(b:G Str)(ds:G U):Prop:=
 ∀(s:We) (a:G U),K.In s.heap->(a++ds).length=b.length->aaz s fd #[a,[]] (b.zip (a++ds))
theorem Binds.all{K:lD}{fd:Xj}{b:G Str}(h:∀us:G U,us.length=b.length->bindArgs fd #[us,[]]=pure (b.zip us)):Binds K fd b []:=λs us _ a=>by rw[W5]at a⊢;show .of_eq (h us a)
def dX(g:tS)(X:Cx)(E:XK):Prop:=∀(a:G (J×Obj)) (f:St) (H:Hp) (s:We) (e:U) (b:We),Inv X a f H s->g X.stack H s E e b->X.xe e b
section
variable{X:Cx}{U:tS}{k:Nat}{f C:Wd}{fd:Xj}{ps:b5 Str}{sp:Sp}{Y:b5 V}{ds:b5 V5}{E:XK}{x m:Str}{p pos Z:Pos}{e o:Wy}{es:b5 Wy}{ta:TE}{t:TA}
def yT{a:G (J×Obj)}{g:St}{H:Hp}{s:We}{Q:VK}{us:G V5}{vs:G V}(F:FnOk X.prog X.w X.K X.mg X.base U k f fd ps sp)(n:X9 k X.A)(v:Binds X.K fd ps ds)(hd:Vals Y ds)(l:dX U X E)
  (I:Inv X a g H s) (r:Vals vs us) (h:sp (vs++Y) H Q E):wpAny (model X.prog X.w) X.A (call (.ref f) us) (EP X a g Q) X.xe s:=by
 let i:Vals (vs++Y) (us++ds):=r.append hd;let q:(us++ds).length=ps.length:=by rw[<-i.length];show F.len _ _ _ _ h
 show ZX (ZL (F.run X.A X.stack s H #[us,[]] (us++ds) (vs++Y) Q E n I.afb (v s us I.kIn q) i h) λr j b=>?_);cases r with
 |error e=>show l a g H s e j I b
 |ok y=>
  cases y with
  |ret u=>show I.after b
  |next=>show False.elim b
  |brk=>show False.elim b
  |cont=>show False.elim b
def zN(F:FnOk X.prog X.w X.K X.mg X.base U k f fd ps sp)(n:X9 k X.A)(v:Gl X x)(hm:X.mg x=M (.ref f))(u:XT X.K (.ref f)=S)(B:Binds X.K fd ps ds)(hd:Vals Y ds)(l:dX U X E)
  (c:PA X (e::es) t) (g:(x==("__debug__":Str))=R:=by decide) (y:Wu (e::es) X.env=(R,eval e X.env)::Wu es X.env:=by rfl) (b:(backTo pos (Wu es X.env)).any (·.1)=R:=by rfl):
  PE X (.Call (.Name x p) (e::es) [] pos) (jo sp Y E t):=by
 intro a s j H Q I h;show XX (iY I v hm ?_ g);show Zo I.ok.mod.kin u (bJ (c pos a s j H _ I h) λG J #[w,L,i,r,q]=>#[i.kIn,?_]) y b;show yT F n B hd l i r q
def J0{pl:Sem Bool}(M:PE X o ta)(c:Cls X.K C)(hm:Meth X.K C m f)(F:FnOk X.prog X.w X.K X.mg X.base U k f fd ps sp)(L:X9 k X.A)(N:Binds X.K fd ps ds)(hd:Vals Y ds)(G:dX U X E)(d:PA X (e::es) t)
  (db:Wu (e::es) X.env=(V8,eval e X.env)::Wu es X.env:=by rfl) (g:(backTo pos (Wu es X.env)).any (·.1)=V8:=by rfl)
  (J:eval (.Call (.Attribute o m Z) (e::es) [] pos) X.env=(do
   let ov<-eval o X.env
   standAt Z.atName
   let(f,first)<-holding [ov] (getMethod ov m pl)
   callWith pos f first (backTo pos (Wu (e::es) X.env)) (backToKw pos (keywordEach [] X.env))):=by rfl):
  PE X (.Call (.Attribute o m Z) (e::es) [] pos) (sr C m sp Y E ta t):=by
 intro b s i H Q I h;show Z5 (pl:=pl) (bJ (M b s i H _ I h) λu v a=>?_) J;let(x,A,n,y,a,dx,fs,O,w,l,q):=a;subst O;obtain rfl:u=V5.ref a:=y;show qX n w c hm l ?_;show Zo (first:=[.ref a]) (h₀:=X.base) I.ok.mod.kin hm.kp (bJ (d pos b v i A _ n q) λus S #[K,T,j,r,B]=>#[j.kIn,?_]) db g;show yT (us:=.ref a::us) (vs:=.ref a::K) F L N hd G j (.cons W r) B
def Gy{pl:Sem Bool}(y:PE X o ta)(c:Cls X.K C)(hm:Meth X.K C m f)(F:FnOk X.prog X.w X.K X.mg X.base U k f fd ps sp)(v:X9 k X.A)(B:Binds X.K fd ps ds)(hd:Vals Y ds)(n:dX U X E)
  (r:eval (.Call (.Attribute o m Z) [] [] pos) X.env=(do
   let ov<-eval o X.env
   standAt Z.atName
   let(f,first)<-holding [ov] (getMethod ov m pl)
   callWith pos f first (backTo pos (Wu [] X.env)) (backToKw pos (keywordEach [] X.env))):=by rfl):
  PE X (.Call (.Attribute o m Z) [] [] pos) (sr C m sp Y E ta ja):=by
 intro b s i H Q I h;show Z5 (pl:=pl) (bJ (y b s i H _ I h) λu L a=>?_) r;let(x,A,g,j,a,K,fs,G,w,l,q):=a;subst G;obtain rfl:u=V5.ref a:=j;show qX g w c hm l ?_;show PySem.W.callWith_K0 (first:=[.ref a]) g.kIn hm.kp (yT (us:=[.ref a]) (vs:=[.ref a]) F v B hd n g (.cons W .nil) q)
structure Mk(K:lD)(C f:J):Prop where
 makes:aba K C=S
 init:WW K (.ref C) "__init__"=M (M (.ref f))
 fn:Yp K (.ref f)=S
 kp:XT K (.ref C)=S
def DL(M:Mk X.K C f)(F:FnOk X.prog X.w X.K X.mg X.base U k f fd ps sp)(q:X9 (k+1) X.A)(B:Binds X.K fd ps ds)(hd:Vals Y ds)
  (n:dX U X E) (I:Inv X pins σ H s) (r:Vals vs us)
  (h:∀x c,H x=P->H c=P->c≠x->sp (.ref x::(vs++Y)) (aW (aW H c (.own x)) x (.ins C c [])) (λv d=>v=.Ye/\Q (.ref x) d) E):
  wpAny (model X.prog X.w) X.A (call (.ref C) us) (EP X pins σ Q) X.xe s:=by
 let i:=h (s.heap.objs.size+1) s.heap.objs.size (I.Xw.fresh (ZQ _)) (I.Xw.fresh (Wg _)) (WG (Zj _));let b:=Inv.made (C:=C) I;let g:Vals (V.ref (s.heap.objs.size+1)::(vs++Y)) (V5.ref (s.heap.objs.size+1)::(us++ds)):=.cons W (r.append hd);let y:(V5.ref (s.heap.objs.size+1)::us++ds).length=ps.length:=by let e:=g.length;rw[F.len _ _ _ _ i]at e;show e.symm
 show ZX (Fw I.kIn M.makes M.init (beq_iff_eq.mp M.fn) (ZL (F.run _ X.stack _ _ #[V5.ref (s.heap.objs.size+1)::us,[]] (V5.ref (s.heap.objs.size+1)::(us++ds)) _ _ E (q.make C us [])
  (b.afb.make C us []) (B _ (V5.ref (s.heap.objs.size+1)::us) b.kIn y) g i) λr j a=>?_))
 cases r with
 |error e=>show n pins σ _ _ e j b a
 |ok G=>
  cases G with
  |ret u=>let(v,L,J,w,ev,l):=b.after a;subst ev;show#[w,#[V.ref (s.heap.objs.size+1),L,J,W,l]]
  |next=>show False.elim a
  |brk=>show False.elim a
  |cont=>show False.elim a
def KC(M:Mk X.K C f)(F:FnOk X.prog X.w X.K X.mg X.base U k f fd ps sp)(n:X9 (k+1) X.A)(u:Gl X x)(hm:X.mg x=cL (.ref C))(y:Binds X.K fd ps ds)(hd:Vals Y ds)(l:dX U X E)
  (c:PA X (e::es) t) (g:(x==("__debug__":Str))=R:=by decide) (v:Wu (e::es) X.env=(R,eval e X.env)::Wu es X.env:=by rfl) (b:(backTo pos (Wu es X.env)).any (·.1)=R:=by rfl):
  PE X (.Call (.Name x p) (e::es) [] pos) (we C sp Y E t):=by
 intro a s j H Q I h;show XX (iY I u hm ?_ g);show Zo I.ok.mod.kin M.kp (bJ (c pos a s j H _ I h) λB G #[A,w,i,r,q]=>#[i.kIn,?_]) v b;show DL M F n y hd l i r q
end
section
variable{X:Cx}{O:tS}{k:Nat}{f C:Wd}{fd:Xj}{ps ks:b5 Str}{N:Sp}{E:XK}{x m:Str}{p Y Z T:Pos}{e o:Wy}{es:b5 Wy}{Q:b5 Z8}{L H:TE}{t B:TA}{A:b7 Str}
structure akO(K:lD)(fd:Xj)(ps ks:G Str)(g:G U->G U->G U)(gV:G V->G V->G V):Prop where
 to:∀(s:We) (us ws:G U),K.In s.heap->(g us ws).length=ps.length->aaz s fd #[us,ks.zip ws] (ps.zip (g us ws))
 rel:∀{vs:G V} {us:G U} {zs:G V} {ws:G U},Vals vs us->Vals zs ws->Vals (gV vs zs) (g us ws)
variable{g:b5 V5->b5 V5->b5 V5}{K:b5 V->b5 V->b5 V}
end
structure Yr(N P:G Str)(sc:Yk):Prop where
 kind:sc.kind=.function
 co:sc.isCoroutine=R
 gen:sc.isGenerator=R
 nd:N.Nodup
 pre:N.take P.length=P
 par:∀x∈P,sc.names.lookup x=M .local\/sc.names.lookup x=M .cell
 afO:∀y∈sc.names,y.2≠.free
theorem sR{a:Str->I WA}:∀{binds:G (Str×U)} {m:Str->I U},(∀v,(x,v)∉binds)->bindL a binds m x=m x
 |[],_,_=>rfl
 |(n,v)::r,m,h=>by
  ext bindL;rw[sR λw b=>h w (Wj _ b)];split
  .let:x≠n:=by rintro rfl;show h v Wh
   simp[this]
  .rfl
theorem sW{a:Str->I WA}:∀{binds:G (Str×U)} {m:Str->I U},(∀v,(x,v)∉binds)->bindC a binds m x=m x
 |[],_,_=>rfl
 |(n,v)::r,m,h=>by
  ext bindC;rw[sW λw b=>h w (Wj _ b)];split
  .rfl
  .let:x≠n:=by rintro rfl;show h v Wh
   simp[this]
theorem sP{kindOf:Str->I WA}:∀{a:G Str} {b:G U} {i:Nat} {m:Str->I U},a.Nodup->a[i]?=M x->b[i]?=M v->kindOf x=M .local->
  bindL kindOf (a.zip b) m x=M v
 |[],_,_,_,_,h,_,_=>by simp at h
 |_::_,[],_,_,_,_,h,_=>by simp at h
 |p::a,w::b,0,m,nd,h1,e,f=>by simp at h1 e;subst h1;subst e;show bindL kindOf ((p,w)::a.zip b) m p=_;ext bindL;rw[sR λv g=>(XM.mp nd).1 (YT g).1,ax f];simp
 |p::a,w::b,i+1,m,nd,h1,e,f=>by ext bindL;show sP (XM.mp nd).2 (by simpa using h1) (by simpa using e) f
theorem sZ{kindOf:Str->I WA}:∀{a:G Str} {b:G U} {i:Nat} {m:Str->I U},a.Nodup->a[i]?=M x->b[i]?=M v->kindOf x≠M .local->
  bindC kindOf (a.zip b) m x=M v
 |[],_,_,_,_,h,_,_=>by simp at h
 |_::_,[],_,_,_,_,h,_=>by simp at h
 |p::a,w::b,0,m,nd,h1,e,f=>by simp at h1 e;subst h1;subst e;show bindC kindOf ((p,w)::a.zip b) m p=_;ext bindC;rw[sW λv g=>(XM.mp nd).1 (YT g).1,bb f];simp
 |p::a,w::b,i+1,m,nd,h1,e,f=>by ext bindC;show sZ (XM.mp nd).2 (by simpa using h1) (by simpa using e) f
def start(N:G Str)(a:G V):St:=a.map M++Wk (N.length - a.length) P
def fx(i:tS)(P:Wz)(w:WX)(K:lD)(c:Str->I U)(base:Heap)(N:G Str)(b:Str)(a:Yk)(f:J)(h:U)(A:WQ)(outer:G Env)(s:We)(H:Hp)(E:XK):Cx where
 prog:=P
 w:=w
 K:=K
 mg:=c
 base:=base
 A:=A.deeper (envOfC b a s.heap.objs.size f h)
 N:=N
 s₀:=s
 H₀:=H
 env:=envOfC b a s.heap.objs.size f h
 outer:=outer
 stack:=envOfC b a s.heap.objs.size f h::outer
 ex:=[]
 calm:=S
 fn:=λ_=>S
 pn:=[]
 xe:=λe j=>wpAny (model P w) (A.deeper (envOfC b a s.heap.objs.size f h)) (leaving (envOfC b a s.heap.objs.size f h) e) (λ_ g=>i outer H s E e g) (λl g=>i outer H s E l g) j
def wu{sc:Yk}(h:sc.names.lookup x=M .cell):∃c,(Yc n sc.names []).lookup x=M c:=by let q:=YW sc.names n [] (.inl h);show XQ.mp q
def Ch{K:lD}
  (S:Yr N ps scope) (hd:A.handled=Ld) (e0:Env0 L w K mg base A outer s H) (G:vs.length=ps.length) (r:Vals vs us)
  (x:InCallC s s.heap.objs.size (bindL (envOfC qual scope s.heap.objs.size f cd).kindOf (ps.zip us) λ_=>Ld) (Yc (s.heap.objs.size+1) scope.names []) (bindC (envOfC qual scope s.heap.objs.size f cd).kindOf (ps.zip us) λ_=>Ld) s1):
  Inv (fx CX L w K mg base N qual scope f cd A outer s H E) [] (start N vs) H s1:=by
 let C:ps.length<=N.length:=by let:=d7 ZM S.pre;rw[Xl]at this;ext
 let(o,F,rfl,B):=x.done;let j:∀b:J,b∉(fx CX L w K mg base N qual scope f cd A outer s H E).ex:=λb z=>b4 (show b∈([]:b5 J)from z) (by simp);show#[#[e0.mod,S.kind,W,W,Wg _,λy z c o g=>?_,λy l=>?_,λy c _ h=>?_,λ_=>hd,WQ.frames_deeper e0.frames,.inr #[W,W],λb z=>b4 z (j b),e0.bs,e0.bsz,λb _ _=>j b,λb z=>b4 z (j b),e0.aaC,e0.frf],
  W,e0.bare,Un.kept B,#[_,x.toInCall.ns,λi y v o g I=>?_],λy c h=>#[_,x.cell y c h],e0.Xw.fresh (Wg _),λy c h=>?_,λp n=>b4 (show p∈([]:b5 (J×Obj))from n) (by simp),e0.Xw.kept B,?_]
 .show name_of_addr x.apart (X2 o) (X2 g)
 .let l:=l
  rcases l with l|l
  .show wu l
  .show b4 W (S.afO _ (X2 l))
 .show aab (x.above y c (X2 h))
 .let O:i<vs.length:=by
   unfold start at g;by_cases O:i<vs.length
   .show O
   .rw[WO (by simpa using O)]at g;rw[Yn]at g;split at g<;>ext g
  let T:vs[i]?=M v:=by
   unfold start at g;rw[Wn (by simpa using O),Wl]at g;cases e:vs[i]? with
   |none=>rw[e]at g;ext g
   |some a=>rw[e]at g;ext g;rfl
  let(u,t,Q):=r.get T;let n:ps[i]?=M y:=by rw[<-S.pre,acd ()];show o
  let m:ps.Nodup:=by rw[<-S.pre];show S.nd.sublist (List.take_sublist _ _)
  show#[u,Q,?_];rcases S.par y (WL n)with k|k
  .show .inl #[k,sP m n t k]
  .let(c,e):=wu k;show .inr #[.inl k,c,e,?_];let q:=x.cell y c e;rw[sZ m n t (by show scope.names.lookup y≠_;rw[k];decide)]at q;show q
 .show e0.Xw.fresh (aab (x.above y c (X2 h)))
 .ext start;show _=N.length;rw[Wi,V9,Xy];ext
def Gc{m:tS}{P:Wz}{w:WX}{K:lD}{l:Str->b7 U}{base:Heap}{k:Nat}{f:Wd}{name qual:Str}{params:Arguments}{body:G X1}{scope:Yk}{F kV doc pm g ct T:U}{an O:b7 Wd}
  {z:Array (b7 U)} {N j:G Str} {sp:Sp} (X:K.lookup f=M #[T,O,.func (XI name qual params body scope F kV doc pm an g ct),z]) (D:Zp K g qual=V6) (S:Yr N j scope)
  (len:∀c H Q E,sp c H Q E->c.length=j.length)
  (Zh:∀(A:WQ) (outer:G Env) (s:We) (H:Hp) (c:G V) (Q:VK) (E:XK),X9 k (A.deeper (envOfC qual scope s.heap.objs.size f g))->sp c H Q E->
   ∃t,PSs (fx m P w K l base N qual scope f g A outer s H E) body t/\t {nx:=λ_ d=>Q .Ye d,rt:=Q} (start N c) H):
  FnOk P w K l base m (k+1) f (XI name qual params body scope F kV doc pm an g ct) j sp:=by
 show#[len,λA outer s H args us c Q E C e0 hb r i=>?_];let hl:=len _ _ _ _ i;let L:K.In s.heap:=e0.mod.kin.keeps λb o e=>(e0.bs b o e).1;let lim:s.heap.NoLimit:=e0.mod.nolimit.keeps λb o e=>(e0.bs b o e).1;let ZC:∀y∈j.zip us,scope.names.lookup y.1=M .local\/(scope.names.lookup y.1=M .cell/\((Yc (s.heap.objs.size+1) scope.names []).lookup y.1).isSome=V6):=λ#[n,v] Y=>by
  rcases S.par n (YT Y).1 with q|q
  .show .inl q
  .show .inr #[q,YW _ _ _ (.inl q)]
 show codeAny_call_function C.depth (L _ _ X) W S.co S.gen W (PySem.W.codeRec_of L D) (hb _ _ _ _ ?_);show wpAny_newFunctionEnv_cells S.kind ZC λenv he s1 x=>?_;subst he;show#[lim.keeps x.toInCall.keep,codeAny_func ?_];let(t,Z,hq):=Zh A outer s H c Q E (C.deeper _) i;let I:Inv (fx m P w K l base N qual scope f g A outer s H E) [] (start N c) H s1:=Ch S C.hd e0 hl r x;show wpAny_mono (Z [] s1 (start N c) H _ I hq) (λfl p h=>?_) λe p h=>h
 let fin:∀{a:St} {d:Hp} {v:V} {u:U},Inv (fx m P w K l base N qual scope f g A outer s H E) [] a d p->RelV v u->Q v d->CE outer P w H s Q u p:=
  λ{a d v u} J B q=>#[v,d,J.os,J.bare,J.base,J.Xw,B,q]
 cases fl with
 |ret u=>let(v,a,d,J,B,q):=h;show fin J B q
 |next=>let(a,d,J,q):=h;show fin (v:=V.Ye) (u:=V5.none) J W q
 |brk=>let(_,_,_,q):=h;show False.elim q
 |cont=>let(_,_,_,q):=h;show False.elim q
section
variable{X:Cx}{x:Str}{p Z:Pos}{e:Wy}{es:b5 Wy}{t:TA}{Y T:String}{r:b5 V->Hp->VK->Prop}
def De(r:G V->Hp->VK->Prop)(t:TA):TE:=λa H Q=>t a H λf b=>r f b Q
def Gj(u:YG X (.builtin Y) r)(o:Gl X x)(hm:X.mg x=P)(n:Xg x=M (.builtin Y))(d:PA X (e::es) t)(c:x≠ "__name__":=by decide)(f:(x==("__debug__":Str))=R:=by decide)
  (q:Wu (e::es) X.env=(R,eval e X.env)::Wu es X.env:=by rfl) (b:(backTo Z (Wu es X.env)).any (·.1)=R:=by rfl):PE X (.Call (.Name x p) (e::es) [] Z) (De r t):=by
 intro a s g H Q I h;show XX (jA I o hm n ?_ c f);show aic (bJ (d Z a s g H _ I h) λi j #[y,w,v,l,m]=>u a j g w y i Q v l m) q b
def Cn(u:YG X (.type T) r)(o:Gl X x)(hm:X.mg x=P)(n:Xg x=M (.type T))(d:PA X (e::es) t)(c:x≠ "__name__":=by decide)(f:(x==("__debug__":Str))=R:=by decide)
  (q:Wu (e::es) X.env=(R,eval e X.env)::Wu es X.env:=by rfl) (b:(backTo Z (Wu es X.env)).any (·.1)=R:=by rfl):PE X (.Call (.Name x p) (e::es) [] Z) (De r t):=by
 intro a s g H Q I h;show XX (jA I o hm n ?_ c f);show XU (bJ (d Z a s g H _ I h) λi j #[y,w,v,l,m]=>u a j g w y i Q v l m) q b
end
end L2
namespace HT
open PySem PyProof.Rows
section
open PySem.SeqAt
open PySem.AutoSeq1 (wpAny_loadPart')
open PySem.MeetsSeq PySem.MeetsSeq2 PySem.MeetsSeq3
end
section
variable{Z:Wz}{w:WX}{A:WQ}{E:V5->We->Prop}{s:We}
def cat_tup{t b:J}{c ws:G U}{Q:U->We->Prop}(v:IsTup s.heap t c.toArray)(y:IsTup s.heap b ws.toArray)(q:c≠[])
  (C:ws=[]->Q (.ref t) s) (B:ws≠[]->Q (.ref s.heap.objs.size) {s with heap:=s.heap.push {cls:=.type "tuple",data:=.seq (c++ws).toArray}})
  (d:c.length+ws.length<=Wm):wpAny (model Z w) A (Yv .Add (.ref t) (.ref b)) Q E s:=by
 let((cls,dd,data,o),l,u,n,r):=id v;let((F,i,m,f),a,h,p,g):=id y;simp only at u r h g;subst u r h g;let e:c.toArray++ws.toArray=(c++ws).toArray:=by simp
 by_cases j:ws=[]
 .show concat_meets #[_,l,W] #[_,a,W] ag3 alk ab0 abN (abD _ _)
   (tuple_addW1 t b c.toArray ws.toArray n p dd i o f (by simpa using q) (by simp[j])) #[l,a,C j]
 .show concat_meets #[_,l,W] #[_,a,W] ag3 alk ab0 abN (abD _ _)
   (tuple_addW2 t b c.toArray ws.toArray n p dd i o f (by simpa using q) (by simpa using j) (by rw[Ws,Ws];show d)) #[l,a,?_]
  rw[e];show B j
def sIx(n d:Nat):I Int->Nat
 |none=>d
 |some v=>if v<0 then(v+(n:Int)).toNat else min v.toNat n
theorem sIx_none(n d:Nat):sIx n d P=d:=W
def sIx_nat(n d k:Nat):sIx n d (M (k:Int))=min k n:=by show(if(k:Int)<0 then((k:Int)+(n:Int)).toNat else min (k:Int).toNat n)=min k n;rw[bb (),X0]
def Pg(n d:Nat)(hd:d<=n)(o:I Int):sIx n d o<=n:=by
 cases o with
 |none=>show hd
 |some v=>
  show(if v<0 then(v+(n:Int)).toNat else min v.toNat n)<=n;by_cases a:v<0
  .rw[ax a];ext
  .rw[bb a];show abo _ _
def zB(v:Int)(n d:Nat):(if v<0 then max (v+(n:Int)) 0 else min v (n:Int))=((sIx n d (M v):Nat):Int):=by
 show(if v<0 then max (v+(n:Int)) 0 else min v (n:Int))=(((if v<0 then(v+(n:Int)).toNat else min v.toNat n):Nat):Int);by_cases a:v<0
 .simp only[ax a];ext
 .simp only[bb a];ext
def x5(lo b:I Int)(n:Nat):Builtin.Slice.sliceAdjust lo b 1 (n:Int)=(((sIx n 0 lo:Nat):Int),((sIx n n b:Nat):Int)):=by
 let a:¬((1:Int)<0):=by ext
 ext Builtin.Slice.sliceAdjust;simp only[a,if_false];show Prod.ext ?_ ?_
 .cases lo with
  |none=>rfl
  |some v=>show zB v n 0
 .cases b with
  |none=>rfl
  |some v=>show zB v n n
def yg(i j:Nat):Builtin.Slice.slicePlaces (i:Int) (j:Int) 1=j - i:=by
 ext Builtin.Slice.slicePlaces;let a:(1:Int)>0:=by ext
 simp only[a,if_true,Int.ediv_one];split<;>ext
def o0(p:aaX v o)(h:Q o s):wpAny (model Z w) A (Builtin.Slice.slicePartIndex v) Q E s:=by
 cases p with
 |none=>show slicePart_none h
 |int i t=>show slicePart_int h
def iz{lo c:I Int}{Q:Int×Int×Nat->We->Prop}(f:s.heap.IsSliceOf sl C o .none)(pl:aaX C lo)(e:aaX o c)
  (h:Q (((sIx n 0 lo:Nat):Int),1,sIx n n c - sIx n 0 lo) s):wpAny (model Z w) A (Builtin.Slice.sliceApplied (.ref sl) (pure (n:Int))) Q E s:=by
 let(i,a,g,b):=id f;unfold Builtin.Slice.sliceApplied Builtin.Slice.sliceFields;show CL (CL (Xe a b W (CL (Xe a b W (CL (Xe a b W (Wf ?_)))))));show CL (slicePart_none ?_);rw[bb ()];show CL (o0 pl (CL (o0 e (CL (Wf ?_)))));show wpAny _ _ (match Builtin.Slice.sliceAdjust lo c 1 (n:Int)with|(lo,c)=>pure (lo,(1:Int),Builtin.Slice.slicePlaces lo c 1)) _ _ s;rw[x5 lo c n];show wpAny _ _ (pure (((sIx n 0 lo:Nat):Int),(1:Int),Builtin.Slice.slicePlaces ((sIx n 0 lo:Nat):Int) ((sIx n n c:Nat):Int) 1)) _ _ s;rw[yg];show Wf h
def F7(xs:Array U)(i k:Nat):((WK k).filterMap λ(m:Nat)=>xs[((i:Int)+(m:Int)*1).toNat]?).toArray=((xs.toList.drop i).take k).toArray:=by
 let e:(λ(m:Nat)=>xs[((i:Int)+(m:Int)*1).toNat]?)=λm=>xs[i+m]? :=by
  funext m;let:((i:Int)+(m:Int)*1).toNat=i+m:=by ext
  rw[this]
 rw[e];let:=pick_run xs i k;rw[List.filterMap_map]at this;let e2:((λx=>xs[x]?)∘λx=>i+x)=λm=>xs[i+m]? :=W;rw[e2]at this;rw[this]
def getItem_tuple_cut{lo c:I Int}(b:IsTup s.heap t items)(j:s.heap.IsSliceOf C vl vu .none)(pl:aaX vl lo)(l:aaX vu c)
  (n:¬(sIx items.size 0 lo=0/\sIx items.size items.size c=items.size))
  (h:Q (.ref s.heap.objs.size) {s with heap:=s.heap.push {cls:=.type "tuple",data:=.seq ((items.toList.drop (sIx items.size 0 lo)).take (sIx items.size items.size c - sIx items.size 0 lo)).toArray}})
  (d:items.size<=Wm):wpAny (model Z w) A (getItem (.ref t) (.ref C)) Q E s:=by
 let a:sizeOk (.seq ((items.toList.drop (sIx items.size 0 lo)).take (sIx items.size items.size c - sIx items.size 0 lo)).toArray):=by show((items.toList.drop (sIx items.size 0 lo)).take (sIx items.size items.size c - sIx items.size 0 lo)).toArray.size<=Wm;rw[Ws,Xl,YK,Xh];ext
 let u:sIx items.size items.size c<=items.size:=Pg _ _ (Wg _) c;let(m,e,g,o):=id j;let i:s.TypeIs (.ref C) "slice":=#[m,e,g];ext getItem
 try specialize XN ?_
 first|show CL (Wf ?_)|skip
 show CL (agr b.typeIs () ?_);show CL (X4 b.typeIs Xq
  (Yd Xq b.typeIs entry_tuple_getitem ?_ (args_tuple_getitem _ _)))
 show wpAny _ _ (Builtin.Tuple.tupleItemsOf (.ref t)>>=_) _ _ s;show CL (tupleItemsOf_ b ?_);show CL (Zk i ?_);rw[ax ()];show CL (iz j pl l ?_);let f:¬((((sIx items.size 0 lo:Nat):Int)==0&&(1:Int)==1&&(sIx items.size items.size c - sIx items.size 0 lo)==items.size)=S):=by intro q;rw[V7,V7]at q;let r:=eq_of_beq q.1.1;let p:=eq_of_beq q.2;show n #[by ext,by ext]
 show wpAny _ _ (if(((sIx items.size 0 lo:Nat):Int)==0&&(1:Int)==1&&(sIx items.size items.size c - sIx items.size 0 lo)==items.size)=S then _ else _) _ _ s;rw[bb f,F7]
 first
  |show CL (Xu (Wf #[_,W,Wf h]) a)
  |show CL (Xu (CL (Wf (Wf #[_,W,Wf h]))) a)
  |show CL (CL (Xu (Wf (Wf #[_,W,Wf h])) a))
  |show CL (CL (Xu (Wf #[_,W,Wf h]) a))
end
end HT
namespace L2
open PySem PySem.Spec PyProof.Rows
abbrev TO:=St->Hp->(I Int->Hp->Prop)->Prop
def PO(X:Cx)(e:I Wy)(t:TO):Prop:=
 ∀(a:G (J×Obj)) (s:We) (b:St) (H:Hp) (Q:I Int->Hp->Prop),Inv X a b H s->t b H Q->
  wpAny (model X.prog X.w) X.A (evalPart e X.env) (λu f=>∃o g,Inv X a b g f/\aaX u o/\Q o g) X.xe s
def Ad:TO:=λ_ H Q=>Q P H
def MQ(t:TE):TO:=λa H Q=>t a H λx b=>∃i,x=.int i/\Q (M i) b
def kR:∀{us:G U},Vals (ns.map V.int) us->IntsAre us ns:=by
 induction ns with
 |nil=>intro us r;rw[Zv]at r;ext r;show .nil
 |cons n ns f=>
  intro us r;rw[Wv]at r;cases r with
  |cons b a=>let(t,e):=b;subst e;show .cons n t (f a)
section
variable{X:Cx}{e:Wy}{U:TE}{Z Y:b7 Wy}{S R:TO}{pos P:Pos}
def HL:PO X Ld Ad:=by intro a s b H Q I h;rw[alm];show Wf #[Ld,H,I,.none,h]
def IV(h:PE X e U):PO X (M e) (MQ U):=by intro a s b H Q I j;rw[evalPart_some];show bJ (h a s b H _ I j) λu n a=>?_;let(x,m,l,f,g):=a;let(i,rfl,q):=g;let(t,rfl):=f;show#[M i,m,l,.int i t,q]
def MC(X:Cx)(r:V->I Int->I Int->Hp->VK->Prop):Prop:=
 ∀(a:G (J×Obj)) (s:We) (b:St) (H:Hp) (x:V) (v g f:V5) (Z Y:I Int) (h:J) (Q:VK),Inv X a b H s->RelV x v->s.heap.IsSliceOf h g f .none->aaX g Z->aaX f Y->r x Z Y H Q->
  ∃T id,typeLookup (.type T) "__getitem__"=pure (M (.builtin id))/\s.TypeIs v T/\wpAny (model X.prog X.w) X.A (getItem v (.ref h)) (EP X a b Q) X.xe s
def UU(r:V->I Int->I Int->Hp->VK->Prop)(U:TE)(S R:TO):TE:=λa H Q=>U a H λx g=>S a g λl f=>R a f λu b=>r x l u b Q
def Dx{r:V->b7 Int->b7 Int->Hp->VK->Prop}(G:MC X r)(L:PE X e U)(J:PO X Z S)(E:PO X Y R):PE X (.Subscript e (.Slice Z Y Ld P) pos) (UU r U S R):=by intro a s g H Q I h;show Subscript_ (bJ (L a s g H _ I h) λv o a=>?_);let(x,H1,A,p,B):=a;show wpAny_Slice (bJ (J a o g H1 _ A B) λj n #[l,H2,w,pl,y]=>bJ (E a n g H2 _ w y) λi f a=>?_);let(u,m,O,C,t):=a;rw[alm];show Wf ?_;let N:Inv X a g m {f with heap:=f.heap.push {cls:=.type "slice",data:=.fields #v[j,i,.none]}}:=O.kept (t':=f.toks) λb ob q=>b9 _ q;let(T,id,M,F,K):=G a {f with heap:=f.heap.push {cls:=.type "slice",data:=.fields #v[j,i,.none]}} g m x v j i l u f.heap.objs.size Q N p (Heap.IsSliceOf.new ..) pl C t;show wpAny (model X.prog X.w) X.A (subscriptTail e (.Slice Z Y Ld P) v (.ref f.heap.objs.size)) (EP X a g Q) X.xe {f with heap:=f.heap.push {cls:=.type "slice",data:=.fields #v[j,i,.none]}};show tail_any (ops:=[.ref f.heap.objs.size,v]) F M K (by with_unfolding_all rfl)
def Cr(xs:G V)(Z Y:I Int):G V:=(xs.drop (HT.sIx xs.length 0 Z)).take (HT.sIx xs.length xs.length Y - HT.sIx xs.length 0 Z)
def mX(xs:G V)(Z Y:I Int):(Cr xs Z Y).length<=xs.length:=by ext Cr;rw[Xl,YK];ext
def Se(K:lD):V->I Int->I Int->Hp->VK->Prop:=λx Z Y H Q=>∃a xs,x=.ref a/\ZP K H a xs/\
 ¬(HT.sIx xs.length 0 Z=0/\HT.sIx xs.length xs.length Y=xs.length)/\∀p,H p=Ld->Q (.ref p) (aW H p (.tup (Cr xs Z Y)))
def QE:MC X (Se X.K):=by
 intro g s u H x v y w Z Y A Q I l p pl m h;let(a,xs,rfl,n,o,q):=h;ext l;let(t,r,j,i):=I.tuple n;let f:t.toArray.size=xs.length:=by rw[Ws];show r.length.symm
 show#["tuple",_,Xq.lookup,j.typeIs,?_];show HT.getItem_tuple_cut j p pl m (by rw[f];show o) ?_ (by rw[f];show i);rw[f];show#[.ref s.heap.objs.size,_,I.laid (λb B q=>b9 _ q) (Wg _) ?_,W,q _ (I.Xw.fresh (Wg _))];show#[WU (mX xs Z Y) i,_,(r.drop (HT.sIx xs.length 0 Z)).take (HT.sIx xs.length xs.length Y - HT.sIx xs.length 0 Z),abf.new _ _]
def LU(K:lD):R2:=λx y H Q=>∃a b xs ys,x=.ref a/\y=.ref b/\ZP K H a xs/\ZP K H b ys/\xs≠[]/\xs.length+ys.length<=Wm/\
 (ys=[]->Q (.ref a) H)/\(ys≠[]->∀p,H p=Ld->Q (.ref p) (aW H p (.tup (xs++ys))))
def Vals.ab7(r:Vals xs us):us=[]↔xs=[]:=by
 cases r with
 |nil=>simp
 |cons _ _=>simp
def Kz:OpR X (Yv .Add) (LU X.K):=by intro i s B H x y v u Q I m l h;let(a,b,xs,C,rfl,rfl,K,t,r,j,o,n):=h;ext m;ext l;let(F,g,p,_):=I.tuple K;let(A,f,P,_):=I.tuple t;show HT.cat_tup p P (λz=>r (g.ab7.mp z)) (λz=>#[.ref a,H,I,W,o (f.ab7.mp z)]) (λz=>?_) (by rw[<-g.length,<-f.length];show j);show#[.ref s.heap.objs.size,_,I.laid (λb E q=>b9 _ q) (Wg _) ?_,W,n (λw=>z (f.ab7.mpr w)) _ (I.Xw.fresh (Wg _))];show#[by rw[Wi];show j,_,g.append f,abf.new _ _]
end
def MV(n:Nat)(i:Int):I Nat:=if 0<=i then(if i<n then M i.toNat else P)else if -(n:Int)<=i then M (i+n).toNat else P
def kP(xs:G α)(i:Int):I α:=(MV xs.length i).bind λj=>xs[j]?
def Jv(h:MV n i=M j):seqIndex? i n=M j/\j<n/\ -(n:Int)<=i/\i<n:=by
 unfold MV at h;by_cases b:0<=i
 .rw[ax b]at h
  by_cases a:i<n
  .rw[ax a]at h;let e:=Wt h;show#[by rw[seqIndex_of b a,e],by ext,by ext,a]
  .rw[bb a]at h;ext h
 .rw[bb b]at h
  by_cases a: -(n:Int)<=i
  .rw[ax a]at h;let e:=Wt h;show#[by rw[seqIndex_neg () a,e],by ext,a,by ext]
  .rw[bb a]at h;ext h
def uc(h:kP xs i=M v):∃j,seqIndex? i xs.length=M j/\xs[j]?=M v/\j<xs.length/\ -(xs.length:Int)<=i/\i<xs.length:=by
 unfold kP at h;cases e:MV xs.length i with
 |none=>rw[e]at h;ext h
 |some j=>rw[e]at h;let(g,f,b,a):=Jv e;show#[j,g,h,f,b,a]
def Bl{j:Nat}(h:xs[j]?=M v):kP xs (j:Int)=M v:=by
 let a:=(Wb.mp h).1;let e:MV xs.length (j:Int)=M j:=by ext MV;rw[ax (),ax ()];simp
 ext kP;rw[e];show h
def A9(b:Wy):Prop:=∀o i,subscripted b R o i=operate [o,i] (getItem o i)
def IxR(X:Cx)(r:R2):Prop:=
 ∀(e a:Wy) (b:G (J×Obj)) (s:We) (f:St) (H:Hp) (x y:V) (v u:U) (Q:VK),Inv X b f H s->RelV x v->RelV y u->r x y H Q->
  subscripted a R v u=operate [v,u] (getItem v u)->wpAny (model X.prog X.w) X.A (subscriptTail e a v u) (EP X b f Q) X.xe s
def Q1(X:Cx)(id:String)(r:V->G V->Hp->VK->Prop):Prop:=
 ∀(a:G (J×Obj)) (s:We) (b:St) (H:Hp) (x:V) (xs:G V) (v:U) (e:G U) (Q:VK),Inv X a b H s->RelV x v->Vals xs e->r x xs H Q->
  wpAny (model X.prog X.w) X.A (call (.builtin id) (v::e)) (EP X a b Q) X.xe s
section
variable{X:Cx}{a b:Wy}{ta tb:TE}{pos:Pos}
def IxR.or(h:IxR X r)(c:IxR X r'):IxR X (λx y H Q=>r x y H Q\/r' x y H Q):=by
 intro e f g s i H x y v u Q I l j q m;rcases q with q|q
 .show h e f g s i H x y v u Q I l j q m
 .show c e f g s i H x y v u Q I l j q m
def LI{r:R2}(m:IxR X r)(c:PE X a ta)(n:PE X b tb)(l:A9 b):PE X (.Subscript a b pos) (ED r ta tb):=by intro e s f H Q I h;show Subscript_ (N4 c n I h λv u g x y p o j i q=>m a b e g f p x y v u Q o j i q (l _ _))
def Q6(K:lD):R2:=λx y H Q=>∃p xs i v,x=.ref p/\y=.int i/\Z1 K H p xs/\kP xs i=M v/\Q v H
def Tb(K:lD):R2:=λx y H Q=>∃p xs i v,x=.ref p/\y=.int i/\ZP K H p xs/\kP xs i=M v/\Q v H
def Sq:R2:=λx y H Q=>∃z i c,x=.str z/\y=.int i/\z.length<=Wm/\kP z.cps.toList i=M c/\Q (.str #[#v[c]]) H
def J3:IxR X (Q6 X.K):=by
 intro l m e s E H x y v u Q I G F h A;let(p,xs,i,z,rfl,rfl,J,M,q):=h;ext G;let(t,rfl):=F;let(R,r,pl,S):=I.list J;let(j,g,P,T,O,N):=uc M;let(w,C,n):=r.get P;let L:=r.length;let K:=uY;let f:EP X e E Q w s:=#[z,H,I,n,q];by_cases B:0<=i
 .let o:i.toNat=j:=by
   rw[seqIndex_of B N]at g;show Wt g
  show item_listR pl.isList B () (by rw[o];simpa using C) f A
 .let o:(i+(R.toArray.size:Int)).toNat=j:=by
   rw[seqIndex_neg () O]at g;rw[Ws,<-L];show Wt g
  show subscriptTail_builtinR pl.isList.typeIs ags.lookup
   (wpAny_getItem_list_neg pl.isList () (by rw[Ws]<;>ext) () (by rw[o];simpa using C) #[W,f]) A
def QJ:IxR X (Tb X.K):=by
 intro f g e s n H x y v u Q I A o h B;let(p,xs,i,z,rfl,rfl,C,F,q):=h;ext A;let(t,rfl):=o;let(R,r,pl,M):=I.tuple C;let(j,J,G,P,O,N):=uc F;let(w,L,l):=r.get G;let E:=r.length;let K:=uY;let m:EP X e n Q w s:=#[z,H,I,l,q];show subscriptTail_builtinR pl.typeIs slot_tuple_getitem.lookup
  (getItem_tuple pl () () (by rw[Ws,<-E];show J) (by simpa using L) #[W,m]) B
def QN:IxR X Sq:=by
 intro e f g s C H x y v u Q I n m h o;let(z,i,c,rfl,rfl,F,r,q):=h;let(t,rfl):=n;let(E,rfl):=m;let(j,l,B,G,A,w):=uc r;let p:z.cps.toList.length=z.length:=by simp[Str.length]
 rw[p]at l A w;let K:=uY;show tail_any (acP s z t) slot_str_getitem.lookup (getItem_str (by let e1:decide (i< -(2^63:Int))=R:=bt ();let e2:decide (i≥2^63)=R:=bt ();rw[e1,e2,ace]) (by rw[l];simpa using B) #[.str #[#v[c]],H,I.tok _,#[_,W],q]) o
def RK(K:lD):R2:=λx y H Q=>Q6 K x y H Q\/Tb K x y H Q\/Sq x y H Q
theorem Hg:IxR X (RK X.K):=J3.or (QJ.or QN)
def ut(lo c:I Int)(n:Nat):(sliceBounds lo c P n).1=((HT.sIx n 0 lo:Nat):Int)/\(sliceBounds lo c P n).2.1=((HT.sIx n n c:Nat):Int)/\(sliceBounds lo c P n).2.2=1:=by
 show#[?_,?_,W]
 .cases lo with
  |none=>simp[sliceBounds,HT.sIx]
  |some i=>
   simp only[sliceBounds,HT.sIx,adS,show(1:Int)>0 by decide,if_true];by_cases h:i<0
   .simp only[h,if_true]<;>ext
   .simp only[h,if_false]<;>ext
 .cases c with
  |none=>simp[sliceBounds,HT.sIx]
  |some i=>
   simp only[sliceBounds,HT.sIx,adS,show(1:Int)>0 by decide,if_true];by_cases h:i<0
   .simp only[h,if_true]<;>ext
   .simp only[h,if_false]<;>ext
def rV(e:G U)(lo c:I Int):slicePick e.toArray lo c P=((e.drop (HT.sIx e.length 0 lo)).take (HT.sIx e.length e.length c - HT.sIx e.length 0 lo)).toArray:=by let(h,g,f):=ut lo c e.toArray.size;ext slicePick;rw[h,g,f];simp only[sliceRange_one,pick_run,Ws]<;>rfl
def Rf(K:lD):V->I Int->I Int->Hp->VK->Prop:=λx lo e H Q=>∃a xs,x=.ref a/\Z1 K H a xs/\∀p,H p=P->Q (.ref p) (aW H p (.lst (Cr xs lo e)))
def K5:MC X (Rf X.K):=by intro f s o H x v t p lo A u Q I i n pl j h;let(a,xs,rfl,m,q):=h;ext i;let(y,r,g,l):=I.list m;let e:=r.length;show#["list",_,ags.lookup,g.isList.typeIs,?_];show wpAny_getItem_list_slice g.isList n pl j .none (by simp) ?_ (by rw[Ws]<;>ext);rw[rV,<-e];show#[.ref s.heap.objs.size,_,I.laid (λb w q=>b9 _ q) (Wg _) ?_,W,q _ (I.Xw.fresh (Wg _))];show#[WU (mX xs lo A) l,_,0,(r.drop (HT.sIx xs.length 0 lo)).take (HT.sIx xs.length xs.length A - HT.sIx xs.length 0 lo),ck _ W]
def YG.or(h:YG X f r)(c:YG X f r'):YG X f (λxs H Q=>r xs H Q\/r' xs H Q):=by
 intro e s g H xs i Q I j q;rcases q with q|q
 .show h e s g H xs i Q I j q
 .show c e s g H xs i Q I j q
def uC:YG X (.type "list") (λxs H Q=>∃p ys,xs=[.ref p]/\(Z1 X.K H p ys\/ZP X.K H p ys)/\∀l,H l=P->Q (.ref l) (aW H l (.lst ys))):=by
 intro m s G H xs L Q I r h;let(p,ys,rfl,y,q):=h;let(u,rfl,J):=kq r;ext J
 let B:∀(g:b5 U),Vals ys g->ys.length<=Wm->∀(f:Heap) (j:Nat),(∀b w,s.heap.get? b=M w->f.get? b=M w)->
   f.get? s.heap.objs.size=M {cls:=.type "list",dict:=P,data:=.seq g.toArray j,slots:= #v[]}->EP X m G Q (.ref s.heap.objs.size) {s with heap:=f}:=λg i v f j t e=>
  #[.ref s.heap.objs.size,_,I.laid t (Wg _) (show ObjOk X.prog X.w _ f _ (.lst ys)from#[v,g,j,i,e]),W,q _ (I.Xw.fresh (Wg _))]
 rcases y with y|y
 .let(g,i,pl,v):=I.list y;let A:=i.length;let(o,C,F,n,E):=pl.isList;show aln p (.inl W) C F E (λf j t e=>B g i v f j t e) (by simp only[Ws]<;>ext)
 .let(g,i,pl,v):=I.tuple y;let A:=i.length;let(o,C,F,n,E):=pl;show aln p (.inr W) C F E (λf j t e=>B g i v f j t e) (by simp only[Ws]<;>ext)
def se:YG X (.type "tuple") (λxs H Q=>∃p ys,xs=[.ref p]/\((Z1 X.K H p ys/\∀l,H l=P->Q (.ref l) (aW H l (.tup ys)))\/(ZP X.K H p ys/\Q (.ref p) H))):=by
 intro i s C H xs E Q I r h;let(p,ys,rfl,h):=h;let(u,rfl,v):=kq r;ext v;rcases h with⟨g,q⟩|⟨g,q⟩
 .let(n,f,pl,j):=I.list g
  let m:=f.length;show call_tuple_list pl.isList (λA y=>?_) (by simp only[Ws]<;>ext);let t:=I.kept (t':=s.toks) y
  let B:=
   t.laid (t':=s.toks) (λb o e=>b9 _ e) (Wg _) (show ObjOk X.prog X.w _ _ _ (.tup ys)from#[j,n,f,abf.new _ _])
  show#[.ref A.objs.size,_,B,W,q _ (t.Xw.fresh (Wg _))]
 .let(n,f,pl,j):=I.tuple g;show call_tuple_same pl #[.ref p,H,I,W,q]
def Uk(K:lD)(T:String)(x:V)(H:Hp):Prop:=match x with
 |.str _=>T= "str"
 |.int _=>T= "int"
 |.ref p=>(T= "list"/\∃xs,Z1 K H p xs)\/(T= "tuple"/\∃o,K.lookup p=M o/\o.cls=.type "tuple"/\o.dict=P)\/
   (T= "dict"/\((∃e,H p=M (.dK e))\/∃e,H p=M (.dT e)))\/(T= "set"/\∃S n,H p=M (.set S n))
 |_=>False
def Fz(I:Inv X pins σ H s)(r:RelV x v)(ty:Uk X.K T x H):
  s.TypeIs v T/\∀a,v=.ref a->∃d,s.heap.get? a=M d/\d.dict=P:=by
 cases x with
 |str z=>let(t,rfl):=r;cases(show T= "str" from ty);show#[acP s z t,λ_ e=>nomatch e]
 |int i=>let(t,rfl):=r;cases(show T= "int" from ty);show#[abp s i t,λ_ e=>nomatch e]
 |ref p=>
  ext r;rcases ty with⟨rfl,xs,j⟩|⟨rfl,o,f,l,h⟩|⟨rfl,f⟩|⟨rfl,S,n,f⟩
  .let(m,_,pl,_):=I.list j;show#[pl.isList.typeIs,λa e=>?_];ext e;let(o,n,e,c,h,_):=pl;show#[o,e,h]
  .show#[#[o,I.kIn p o f,l],λa e=>?_];ext e;show#[o,I.kIn _ o f,h]
  .let z:∃o,s.heap.get? p=M o/\o.ExactDict:=by
    rcases f with⟨q,f⟩|⟨q,f⟩
    .let(_,_,_,_,o,_,_,e,g,_):=I.Xw p _ f;show#[o,e,g]
    .let(_,_,_,_,o,_,_,e,g,_):=I.Xw p _ f;show#[o,e,g]
   let(o,e,g):=z;show#[#[o,e,g.1],λa e2=>?_];ext e2;show#[o,e,g.2.1]
  .let(o,_,_,_,e,g,_):=I.Xw p _ f;show#[#[o,e,g.1],λa e2=>?_];ext e2;show#[o,e,g.2.1]
 |_=>show False.elim ty
def S8(K:lD)(T:String)(r:V->G V->Hp->VK->Prop)(to:TE):TE:=λf H Q=>to f H λx e=>Uk K T x e/\r x [] e Q
def OU(K:lD)(T:String)(r:V->G V->Hp->VK->Prop)(to:TE)(t:TA):TE:=λe H Q=>to e H λx f=>Uk K T x f/\t e f λxs g=>r x xs g Q
variable{o e:Wy}{es:b5 Wy}{to:TE}{t:TA}{name:Str}{Z Y:Pos}{T U:String}{r:V->b5 V->Hp->VK->Prop}
def Nj(c:PlainAttrs T)(slot:Slot T name U)(g:typeOf (.builtin U)=pure (.type "method_descriptor"))(hm:Q1 X U r)(u:PE X o to)
  (j:attributeBase o name X.env (eval o X.env)=eval o X.env:=by rfl) (i:(Z.endLine==Y.line)=S:=by rfl):PE X (.Call (.Attribute o name Z) [] [] Y) (S8 X.K T r to):=by
 intro f s l H Q I h;show wpAny_Call_method0_late j i (bJ (u f s l H _ I h) λv p a=>?_);let(x,A,n,m,ty,q):=a;let(y,w):=Fz n m ty;show#[T,U,c,slot,g,y,w,Calls.callWith_builtin W (PySem.evalArgs_none (hm f p l A x [] v [] Q n m .nil q))]
def Mb(c:PlainAttrs T)(slot:Slot T name U)(i:typeOf (.builtin U)=pure (.type "method_descriptor"))(hm:Q1 X U r)(G:PE X o to)(d:PA X (e::es) t)
  (n:attributeBase o name X.env (eval o X.env)=eval o X.env:=by rfl)
  (j:((backTo Y (Wu (e::es) X.env)).all (λx=> !x.1)&&(backToKw Y (keywordEach [] X.env)).all (λx=>x.1.isSome)
   &&decide ((e::es).length+([]:b5 Z8).length+(if([]:b5 Z8).isEmpty then 0 else 1)<30))=S:=by rfl)
  (l:(Z.endLine==Y.line)=S:=by rfl) (F:Wu (e::es) X.env=(R,eval e X.env)::Wu es X.env:=by rfl) (m:(backTo Y (Wu es X.env)).any (·.1)=R:=by rfl):
  PE X (.Call (.Attribute o name Z) (e::es) [] Y) (OU X.K T r to t):=by
 intro f s g H Q I h;show wpAny_Call_method_late n j l W (bJ (G f s g H _ I h) λv A a=>?_);let(x,O,u,p,ty,E):=a;let(L,J):=Fz u p ty;show#[T,U,c,slot,i,L,J,?_];let q:=d Y f A g O _ u E;rw[F]at q⊢;show Calls.callWith_builtin (by show(R||(backTo Y (Wu es X.env)).any (·.1))=R;rw[m]<;>rfl) (Calls.evalArgs_plain ?_);show bJ q λw y #[vs,N,K,B,C]=>hm f y g N x vs v w Q K p B C
end
def UM(X:Cx)(id:String)(r:V->G V->Hp->VK->Prop):Prop:=
 ∀(a:G (J×Obj)) (s:We) (b:St) (H:Hp) (x:V) (xs:G V) (v:U) (e:G U) (Q:VK),Inv X a b H s->RelV x v->Vals xs e->r x xs H Q->
  wpAny (model X.prog X.w) X.A (call (.builtin id) (v::e)) (EP X a b Q) X.xe s
theorem Vals.one:∀{x:V} {us:G U},Vals [x] us->∃u,us=[u]/\RelV x u
 |_,_,.cons r .nil=>#[_,W,r]
theorem Vals.rep(h:Vals xs us):∀k:Nat,Vals (Wk k xs).flatten (Wk k us).flatten
 |0=>.nil
 |k+1=>by rw[Xr,Xr,Yh,Yh];show Vals.append h (Vals.rep h k)
theorem mF(a:G U):∀(k:Nat) (acc:G U),
  Z9 (λc b=>c++b) acc.toArray (Wk k a.toArray)=(acc++(Wk k a).flatten).toArray
 |0,acc=>by simp
 |k+1,acc=>by
  let e:acc.toArray++a.toArray=(acc++a).toArray:=by simp
  let e2:(acc++a)++(Wk k a).flatten=acc++(Wk (k+1) a).flatten:=by rw[Xr,Yh,Xb]
  rw[<-e2,<-mF a k (acc++a),<-e,Xr,aae]
section
variable{X:Cx}{Z:b5 (Wd×Obj)}{Y:St}{H:Hp}{s:We}{l b:Wd}{T U Q:b5 V}
def Inv.ahh{g a:G V5}(I:Inv X Z Y H s)(o:H l=M (.lst T))
  (e:s.heap.get? l=M {cls:=.type "list",data:=.seq g.toArray n}) (j:f g.toArray=a.toArray) (h:Vals U a) (c:U.length<=Wm):
  Inv X Z Y (aW H l (.lst U)) {s with heap:=s.heap.update l (Obj.mapSeq f),toks:=t'}:=by
 let q:=am6 e f;rw[j]at q;show I.write (by rw[o];show trivial) (.inl W) (λp u m i=>(cn s.heap (Obj.mapSeq f) (dN m)).trans i) #[_,q] ?_;show#[c,a,_,h,q]
theorem Inv.ahj(I:Inv X Z Y H s)(a:Vals U W6)(c:U.length<=Wm):
  Inv X Z Y (aW H s.heap.objs.size (.lst U)) {s with heap:=s.heap.push {cls:=.type "list",data:=.seq W6.toArray},toks:=t'}:=
 I.laid (λ_ _ q=>b9 _ q) (Wg _) #[c,W6,0,a,ck _ W]
theorem Inv.fresh(I:Inv X Z Y H s):H s.heap.objs.size=P:=I.Xw.fresh (Wg _)
def Inv.ae3(I:Inv X Z Y H s)(f:H l=M (.lst T)):T.length<=Wm/\∃(a:G V5) (n:Nat),Vals T a/\T.length=a.length/\s.heap.get? l=M {cls:=.type "list",data:=.seq a.toArray n}:=by let(z,a,n,r,e):=I.Xw l _ f;show#[z,a,n,r,r.length,e]
def vT(h:n<=Wm):Builtin.List.listTooLong n=R:=by ext Builtin.List.listTooLong;show bt ()
end
section
variable{X:Cx}
def tL:V->G V->Hp->VK->Prop:=λx a H Q=>∃l xs y,x=.ref l/\a=[y]/\H l=M (.lst xs)/\xs.length<Wm/\Q .Ye (aW H l (.lst (xs++[y])))
def l9:UM X "list.append" tL:=by intro a s j H x w v m Q I f t h;let(l,xs,y,rfl,rfl,b,o,q):=h;ext f;let(u,rfl,g):=t.one;let(z,i,n,r,p,e):=I.ae3 b;show Zq F.slot_list_append #[_,e,W] F.entry_list_append (F.args_list_append_2 _ _) (PySem.list_append l i.toArray n u (by rw[Ws];ext)) #[e,?_];show#[.Ye,_,I.ahh b e (by simp) (r.append (.cons g .nil)) ?_,W,q];rw[Wi,Zf];ext
def zz:V->G V->Hp->VK->Prop:=λx a H Q=>∃l b xs zs,x=.ref l/\a=[.ref b]/\H l=M (.lst xs)/\H b=M (.lst zs)/\xs.length+zs.length<=Wm/\Q .Ye (aW H l (.lst (xs++zs)))
def B5:UM X "list.extend" zz:=by
 intro j s B H x N v G Q I o L h;let(l,b,xs,C,rfl,rfl,m,A,J,q):=h;ext o;let(u,rfl,p):=L.one;ext p;let(z,f,n,r,K,e):=I.ae3 m;let(E,a,w,t,y,e2):=I.ae3 A;let g:f.toArray.size+a.toArray.size<=Wm:=by rw[Ws,Ws];ext
 let i:¬(!f.toArray.isEmpty&&Builtin.List.listTooLong (f.toArray.size+a.toArray.size))=S:=by rw[vT g,afm];show Wr
 show Zq F.slot_list_extend #[_,e,W] F.entry_list_extend (F.args_list_extend_2 _ _)
  (AutoSeq1.list_extend_list_list_0 l f.toArray n b a.toArray w i (by rw[Ws];ext) ()) #[e,e2,?_]
 show#[.Ye,_,I.ahh m e (by simp) (r.append t) ?_,W,q];rw[Wi];ext
def AZ(xs:G α)(k:Nat):(Wk k xs).flatten.length=k*xs.length:=by
 induction k with
 |zero=>simp
 |succ k a=>rw[Xr,Yh,Wi,a,ag4,acQ]
end
section
variable{Z:Wz}{w:WX}{A:WQ}{E:V5->We->Prop}{s:We}
set_option maxRecDepth 100000 in
end
end L2
namespace Att
open PySem PySem.W PySem.Calls PyProof.Rows
def oa:∀(e:G Int) (c:G U),WellAll g h c (e.map WData.int)->IntsAre c e:=by
 intro e
 induction e with
 |nil=>intro c w;rw[Zv]at w;ext w;show .nil
 |cons n e f=>
  intro c w;rw[Wv]at w;cases w with
  |cons a b=>ext a;show .cons _ _ (f _ b)
def Bz{l:OpenLaw}(k:l.most=M n)
  (e:l.row.toRowW.claim.pre args=S) (i:WellAll B h vals args):
  ∃a c ns,vals=[V5.ref a]/\args=[WData.list (ns.map WData.int)]/\h.get? a=M {cls:=.type "list",data:=.seq c.toArray}/\IntsAre c ns/\ns.length<=n:=by
 let j:=(pre_splitW e).1;let o:l.pre.holds [] {args:=args}=S:=(pre_splitW e).2;let(d,r,rfl,A,y):=hasAllW_cons j;obtain rfl:=hasAllW_nil y;let(xs,rfl,w):=hasW_list A;let(ns,rfl):=items_int w;let b:ns.length<=n:=by
  unfold OpenLaw.pre at o;let g:(WTm.not (.lt (.lit (.int (n:Int))) (.len (.arg 0)))).holds [] {args:=[.list (ns.map .int)]}=S:=by let g:=(holds_andW o).1;rw[k]at g;show g
  let f:=condW_of g (w_not (w_lt w_lit (w_len_list (w_arg W))));rw[V9]at f;show Nat.le_of_not_lt λq=>?_;let u:(n:Int)<((ns.length:Nat):Int):=by ext
  first
   |(rw[bg u]at f;show b4 f ())
   |(simp at f;ext)
 cases i with
 |cons t p=>
  ext p;cases t with
  |list v m=>show#[_,_,ns,W,W,v,oa ns _ m,b]
theorem Co(l:OpenLaw)(args:G WData):l.row.toRowW.claim.post args (.bool S) args=S:=
 postW_of
  (show WShape.has [] (.bool S) .bool=S by first|rfl|decide|simp[WShape.has,WShape.arms,WShape.armsAll])
  (show(WTm.eq .res (.lit (.bool S))).value [] {args:=args,res:=M (.bool S),after:=args}=M (.bool (S==S))from w_eq_bool (w_res W) w_lit) W
def attach_call{l:OpenLaw}{n:Nat}{q:Wz}{e:b5 Str}{J:(Str->b7 V5)->Heap->Prop}{I:WX->Heap->Prop}{d:DefRec}
  (D:l.most=cL n) (y:d.params.defaults=[])
  (call:∀(w:WX) (c b:We) (z t:Str->b7 V5) (s:Wd) (o:Obj) (p m h:V5) (a:Wd) (k:b5 V5) (j:b5 Int),
   Ground q e [] J w c z t b.heap->I w b.heap->
   b.heap.get? s=cL o->o.data=.func (docDef d.name d.params d.body d.scope p m h)->b.heap.CodeRec m d.name->z d.name=cL (.ref s)->
   b.heap.get? a=cL {cls:=.type "list",data:=.seq k.toArray}->IntsAre k j->j.length<=n->b.gens= #v[]->
   codeAny (model l.prog w) callerA (.call (.ref s) #[[.ref a],[]]) (λr x=>r=.ok (.ret (.bool V6))/\OldK b.heap x.heap/\x.os=b.os/\AllBare x.gens) b):
  WalkO q e J I l.row.toRowW d [] (λf k=>ag5 f k):=by
 intro w c b z t G Y s o p m h T kV M P A F v O H E as B U K u N;obtain rfl:T=.none:=Dflts.none F y;obtain rfl:kV=.none:=Dflts.noKw F;let(a,k,j,rfl,rfl,C,g,i):=Bz D B u;show enter_call (ZL (call w c b z t s o p m h a k j G Y M (fd_plain P) A v C g i O) λr x L=>?_);let(rfl,S,R,Q):=L;show#[.inl #[.bool V6,.bool V6,[],W,λ_=>W,.bool V6,Co l _,λ_=>#[aaf,λ_ hm=>(nomatch hm)]],S,R,Q]
end Att
namespace L2
open PySem PySem.Spec PyProof.Rows
theorem iA:∀{b:G U} {a:G Int},IntsAre b a->Vals (a.map V.int) b
 |_,_,.nil=>.nil
 |_,_,.cons n t h=>.cons #[t,W] (iA h)
def SH(H:Hp):Prop:=∀b,H b=P\/∃o xs,H b=M (.frz o (.lst xs))
def Ha{P:Wz}{w:WX}{K:lD}{mg E:Str->b7 V5}{X:tS}{k:Nat}{fa a:Wd}{fd:Xj}{x:Str}{sp:Sp}{f:We}{D:b5 V5}{p:b5 Int}
  (U:K.In f.heap) (t:f.heap.Ns Wx mg) (g:f.heap.Ns builtinsNs E) (I:∀x:Str,x≠ "__name__"->E x=Xg x) (O:f.heap.NoLimit) (hg:f.gens= #v[])
  (ha:f.heap.get? a=cL {cls:=.type "list",data:=.seq D.toArray}) (hi:IntsAre D p) (R:p.length<=Wm) (hr:X9 k callerA)
  (F:∀base:Heap,K.In base->base.Ns Wx mg->FnOk P w K mg base X k fa fd [x] sp) (Q:∀(s:We) (u:V5),aaz s fd #[[u],[]] [(x,u)])
  (G:∀H:Hp,SH H->Z1 K H a (p.map V.int)->sp [.ref a] H (λv _=>v=.bl V6) λ_ _ _=>False)
  (J:∀H e c,X [] H f (λ_ _ _=>False) e c->False):
  codeAny (model P w) callerA (.call (.ref fa) #[[.ref a],[]]) (λr c=>r=.ok (.ret (.bool V6))/\OldK f.heap c.heap/\c.os=f.os/\AllBare c.gens) f:=by
 let rv:=iA hi;let M:=hi.length
 let j:∀H:Hp,SH H->Z1 K H a (p.map V.int)->HOk P w H f.heap->(∀b,H b≠Ld->b=a)->(H a≠Ld->K.lookup a=Ld)->
   codeAny (model P w) callerA (.call (.ref fa) #[[.ref a],[]]) (λr c=>r=.ok (.ret (.bool V6))/\OldK f.heap c.heap/\c.os=f.os/\AllBare c.gens) f:=by
  intro H S hS Xw T hK;let gz:∀{b:Wd} {o:Obj},f.heap.get? b=cL o->H b=Ld->(tQ f.heap H).get? b=cL o:=λe n=>GN e n;let C:∀{b:Wd} {o:Obj} {es:Array Za} {A:Nat},f.heap.get? b=cL o->o.data=.dict es A->H b=Ld:=λ{b o es A} e d=>by
   cases q:H b with
   |none=>rfl
   |some u=>let L:b=a:=T b (by rw[q];simp);subst L;rw[ha]at e;ext e;let d':Data.seq D.toArray _=Data.dict es A:=d;ext d'
  let i:∀{b:Wd} {m:Str->b7 V5},f.heap.Ns b m->(tQ f.heap H).Ns b m:=λ{b m} #[o,es,A,e,d,r]=>#[o,es,A,gz e (C e d),d,r];let y:K.In (tQ f.heap H):=λb o e=>gz (U b o e) (by
   cases q:H b with
   |none=>rfl
   |some u=>let L:b=a:=T b (by rw[q];simp);subst L;rw[hK (by rw[q];simp)]at e;ext e)
  let hM:Mod K mg (tQ f.heap H):=#[y,i t,#[E,i g,I],let#[mc,h1,h2]:=O;#[mc,i h1,h2]];let e0:Env0 P w K mg (tQ f.heap H) callerA [] f H:=#[W,hM,λb o e=>IM e,ag2 (BE _ _),trivial,λb g=>b4 (show b∈([]:b5 Wd)from g) (by simp),Xw,.of_eq hg];show ZL ((F _ y (i t)).run callerA [] f H #[[.ref a],[]] [.ref a] [.ref a] _ _ hr e0 (Q f (.ref a)) (.cons W .nil) (G H S hS)) λr c h=>?_;cases r with
  |error e=>show(J H e c h).elim
  |ok fl=>
   cases fl with
   |next=>show False.elim h
   |brk=>show False.elim h
   |cont=>show False.elim h
   |ret u=>
    let(v,H',os,B,un,N,Z,q):=h;let q':v=.bl V6:=q;subst q';obtain rfl:u=V5.bool V6:=Z;show#[W,OldK.of_keep λb o e=>?_,os,B];cases q:H b with
    |none=>show un.keep b o e q (by intro z;show b4 (show b∈([]:b5 Wd)from z) (by simp)) (by simp)
    |some u=>
     rcases S b with z|⟨ob,xs,z⟩
     .rw[q]at z;ext z
     .let Y:=un.aaQ b ob _ z;let(e1,_):=Xw b _ z;let(e2,_):=N b _ Y;rw[e]at e1;ext e1;show e2
 cases hk:K.lookup a with
 |some o=>let e:=U a o hk;rw[ha]at e;ext e;show j (λ_=>Ld) (λ_=>.inl W) (.inr #[_,D.toArray,_,hk,W,W,W,by rw[Ws,M];show R,by simpa using rv]) (λb u z=>by let l:(Ld:b7 HO)=cL u:=z;ext l) (λb z=>b4 W z) λz=>b4 W z
 |none=>
  show j (λb=>if b=a then cL (.frz {cls:=.type "list",data:=.seq D.toArray} (.lst (p.map V.int)))else Ld) (λb=>?_) (.inl (.inr #[{cls:=.type "list",data:=.seq D.toArray},ax W])) (λb u z=>?_) (λb z=>?_) λ_=>hk
  .by_cases g:b=a
   .show .inr #[_,_,ax g]
   .show .inl (bb g)
  .by_cases g:b=a
   .let l:=(ax g).symm.trans z;ext l;subst g;show#[ha,by rw[V9];show R,D,_,rv,ha]
   .let l:=(bb g).symm.trans z;ext l
  .by_cases g:b=a
   .show g
   .show b4 (bb g) z
def aK(s:X1)(j:Nat):X1:=match s with
 |.ClassDef _ _ _ body _ _ _ _ _ _ _=>body.getD j (.Pass #[0,0,0,0])
 |_=>.Pass #[0,0,0,0]
def eS(s:X1):Arguments:=match s with
 |.FunctionDef _ a _ _ _ _ _ _ _ _=>a
 |_=>{posonlyargs:=[],args:=[],vararg:=P,kwonlyargs:=[],kw_defaults:=[],kwarg:=P,defaults:=[]}
def bQ(s:X1):G X1:=match s with
 |.FunctionDef _ _ b _ _ _ _ _ _ _=>b
 |_=>[]
def au(s:X1):Yk:=match s with
 |.FunctionDef _ _ _ _ _ _ sc _ _ _=>sc
 |_=>{kind:=.function,names:=[],isGenerator:=R,isCoroutine:=R}
abbrev kg:tS:=λ_ _ _ _ _ _=>False
abbrev E0:XK:=λ_ _ _=>False
theorem Fx:dX kg X E0:=λ_ _ _ _ _ _ _ h=>h.elim
structure Fun(K:lD)(x qual:Str)(st:X1)(f:J)(fd:Xj):Prop where
 ex:∃(oc:U) (od:I J) (kV doc pm:U) (an:I J) (X8 ct:U) (osl:Array (I U)),
  fd=XI x qual (eS st) (bQ st) (au st) .none kV doc pm an X8 ct/\K.lookup f=M #[oc,od,.func fd,osl]/\Zp K X8 qual=S
 kp:XT K (.ref f)=S
section
variable{P:Wz}{w:WX}{K:lD}{Z:Str->b7 V5}{base:Heap}
def Fun.ok{x a:Str}{st:X1}{f:J}{fd:Xj}{N d:G Str}{k:Nat}{sp:Sp}(F:Fun K x a st f fd)(S:Yr N d (au st))(len:∀c H Q E,sp c H Q E->c.length=d.length)
  (n:∀(b:U) (A:WQ) (outer:G Env) (s:We) (H:Hp) (c:G V) (Q:VK) (E:XK),X9 k (A.deeper (envOfC a (au st) s.heap.objs.size f b))->sp c H Q E->
   ∃t,PSs (fx kg P w K Z base N a (au st) f b A outer s H E).nox (bQ st) t/\t {nx:=λ_ v=>Q .Ye v,rt:=Q} (start N c) H):FnOk P w K Z base kg (k+1) f fd d sp:=by
 let(r,p,kV,m,o,u,b,ct,i,rfl,j,g):=F.ex;show Gc j g S len λA outer s H c Q E l e=>?_;let(t,h,q):=n b A outer s H c Q E l e;show#[t,h.nox,q]
def Fun.binds{x a:Str}{st:X1}{f:J}{fd:Xj}{ps:G Str}(F:Fun K x a st f fd)
  (h:∀(kV b e:U) (g:I J) (i ct:U) (us:G U),us.length=ps.length->bindArgs (XI x a (eS st) (bQ st) (au st) .none kV b e g i ct) #[us,[]]=pure (ps.zip us)):Binds K fd ps []:=by
 let(n,m,kV,b,e,g,i,ct,j,rfl,o,l):=F.ex;show .all (h kV b e g i ct)
theorem Dj{st:X1}{kV a e b ct:U}(l:K.lookup f=M #[oc,C,.func (XI x qual (eS st) (bQ st) (au st) .none kV a e an b ct),o])
  (c:Zp K b qual=S) (k:XT K (.ref f)=S):Fun K x qual st f (XI x qual (eS st) (bQ st) (au st) .none kV a e an b ct):=#[#[oc,C,kV,a,e,an,b,ct,o,W,l,c],k]
end
theorem Gg(a:X9 k A):A.units+1<cLine:=ad6 (Nat.add_le_add_left (by decide:1<=64) _) a.units
section
variable{X:Cx}
theorem pv(i:Nat)(e:X.N[i]?=M x:=by rfl)(b:SL X.env.scope x:=by first|show Or.inl W|show Or.inr (Or.inl W)|show Or.inr (Or.inr W))(hd:(x==("__debug__":Str))=R:=by decide)
  (a:(x==("__classdict__":Str))=R:=by decide):PE X (.Name x pos) (rO i):=FU e b hd a
end
def XZ(H a:Hp):Prop:=∀b o,H b=M o->a b=M o
theorem XZ.refl(H:Hp):XZ H H:=λ_ _ h=>h
theorem XZ.trans(a:XZ H H1)(b:XZ H1 H2):XZ H H2:=λc o h=>b c o (a c o h)
def XZ.free(e:XZ H H')(h:H' l=P):H l=P:=by
 cases q:H l with
 |none=>rfl
 |some o=>rw[e l o q]at h;ext h
end L2
set_option maxHeartbeats 4000000
namespace L2
open PySem PySem.Spec PyProof.Rows
section
variable{X:Cx}{Z:b5 (Wd×Obj)}{T:St}{H:Hp}{s:We}{Y:Heap}
def Inv.ac8{ch:G J}(I:Inv X Z T H s)(i:∀b∈ch,lR X Z H b)
  (k:∀b u,b∉ch->s.heap.get? b=M u->Y.get? b=M u) (l:s.heap.objs.size<=p)
  (new:ObjOk X.prog X.w (aW H p o) Y p o):Inv X Z T (aW H p o) {s with heap:=Y,toks:=t'}:=by
 let w:=I.Xw.fresh l;let f:∀b u,H b=M u->b∉ch:=λb u e z=>by rw[(i b z).1]at e;ext e
 let h:∀b u,s.heap.get? b=M u->b≠p:=λb u e=>WG (WC (cc e) l);show I.step (λb g=>?_) (λb u _ _ a e _=>k b u a e) (λb u _ _ a e _=>#[u.slots,k b u a e])
  (λb u _ e n=>by rw[ar (h b u e)];show n) (λb u a e=>#[u,k b u a e]) (λb xs e=>by rw[ar (bw e w)];show e)
  (λb u xs e=>by rw[ar (bw e w)];show e) (λb K e=>#[#v[],by rw[ar (bw e w),e];simp]) (λm hm=>?_) (λb u e=>?_) I.bare
 .let(_,C,_,B,A,y):=i b g;show#[B,C,A,y]
 .let(j,es,E,t,r):=hm;show#[j,es,E,k _ j (λz=>(i _ z).2.1 W) t,r]
 .by_cases g:b=p
  .subst g;rw[az]at e;ext e;show new
  .rw[ar g]at e
   show(I.Xw b u e).Z0 (λc v a q=>k c v ?_ q) (λc q=>by rw[ar (bw q w)];show q) λc xs q=>by rw[ar (bw q w)];show q
   rcases a with z|z
   .rw[z];show f b u e
   .show f c _ z
end
mutual
inductive DV(K:lD)(H:Hp):V->Wa->Prop
 |Ye:DV K H .Ye .none
 |bl (b:Bool):DV K H (.bl b) (.bool b)
 |int (i:Int):DV K H (.int i) (.int i)
 |str (x:Str):DV K H (.str x) (.str x)
 |tup {a:Wd} {xs:b5 V} {ds:b5 Wa}:ZP K H a xs->XS K H xs ds->DV K H (.ref a) (.tuple ds)
 |lst {a:Wd} {xs:b5 V} {ds:b5 Wa}:Z1 K H a xs->XS K H xs ds->DV K H (.ref a) (.list ds)
inductive XS(K:lD)(H:Hp):b5 V->b5 Wa->Prop
 |nil:XS K H [] []
 |cons {v:V} {vs:b5 V} {d:Wa} {ds:b5 Wa}:DV K H v d->XS K H vs ds->XS K H (v::vs) (d::ds)
end
section
variable{X:Cx}{Z:b5 (Wd×Obj)}{σ:St}{H:Hp}{s:We}
mutual
theorem DV.reads(I:Inv X Z σ H s):∀{v:V} {d:Wa} {u:V5},DV X.K H v d->RelV v u->∃as,acR s.heap u d as
 |_,_,_,.Ye,r=>by cases r;exact⟨_,.none⟩
 |_,_,_,.bl b,r=>by cases r;exact⟨_,.bool b⟩
 |_,_,_,.int i,r=>by obtain⟨t,rfl⟩:=r;exact⟨_,.int i t⟩
 |_,_,_,.str x,r=>by obtain⟨t,rfl⟩:=r;exact⟨_,.str x t⟩
 |_,_,_,.tup h hs,r=>by cases r;obtain⟨a,rv,⟨o,e,c,n,d⟩,_⟩:=I.tuple h;obtain⟨as,q⟩:=XS.reads I hs rv;exact⟨_,.tuple e c d (by simpa using q)⟩
 |_,_,_,.lst h hs,r=>by cases r;obtain⟨a,rv,⟨o,n,e,c,_,d⟩,_⟩:=I.list h;obtain⟨as,q⟩:=XS.reads I hs rv;exact⟨_,.list e c d (by simpa using q)⟩
theorem XS.reads(I:Inv X Z σ H s):∀{vs:b5 V} {ds:b5 Wa} {us:b5 V5},XS X.K H vs ds->Vals vs us->∃as,aaY s.heap us ds as
 |_,_,_,.nil,r=>by cases r;exact⟨_,.nil⟩
 |_,_,_,.cons h hs,r=>by
  cases r with
  |cons b a=>obtain⟨as,q⟩:=DV.reads I h b;obtain⟨bs,e⟩:=XS.reads I hs a;exact⟨_,.cons q e⟩
end
end
def Ky(K:lD)(neg:Bool):R2:=λx y H Q=>∃a b,DV K H x a/\DV K H y b/\a.canLay0=S/\b.canLay0=S/\a.depth<=64/\Q (.bl (if neg then !Wa.eqv a b else Wa.eqv a b)) H
section
variable{X:Cx}
def Pz(o:X.A.units+64<cLine):OpR X (Xx .Eq) (Ky X.K R):=by intro a s n H x y v u Q I e b h;let(t,r,m,l,j,i,p,q):=h;let(as,g):=m.reads I e;let(bs,f):=l.reads I b;show ajl g f j i () #[.bl _,H,I,W,q]
def P9(o:X.A.units+64<cLine):OpR X (Xx .NotEq) (Ky X.K S):=by intro a s n H x y v u Q I e b h;let(t,r,m,l,j,i,p,q):=h;let(as,g):=m.reads I e;let(bs,f):=l.reads I b;show ajm g f j i () #[.bl _,H,I,W,q]
theorem G3:OpR X (Yv .FloorDiv) (rI (λ_ j=>0<j/\j.natAbs.log2<9000) λi j=>.int (i/j)):=Ui λi j _ _ _ _ _ a q=>by let b:(0:Int)<j:=a.1;show floordiv_int () (by rw[Int.fdiv_eq_ediv_of_nonneg i ()];show q) (.inl (PyProof.noPylong_of_log2 a.2))
end
def gh(env:Env):G (Str×WA)->G (Str×J)->G (Str×J)
 |[],acc=>acc
 |(n,k)::r,acc=>if(k==WA.free)=S then(match env.cells.lookup n with|some c=>gh env r ((n,c)::acc)|none=>gh env r acc)else gh env r acc
theorem kL{f:Str×WA->G (Str×J)->Sem (ForInStep (G (Str×J)))}
  (g:∀n k acc,(k==WA.free)=R->f (n,k) acc=pure (.yield acc)) (b:∀n c acc,env.cells.lookup n=M c->f (n,.free) acc=pure (.yield ((n,c)::acc))):
  ∀(names:G (Str×WA)) (acc:G (Str×J)),(∀y∈names,y.2=.free->∃c,env.cells.lookup y.1=M c)->forIn names acc f=pure (gh env names acc)
 |[],acc,_=>rfl
 |(n,k)::r,acc,h=>by
  let i:=λy l=>h y (Wj _ l);rw[aag];cases m:(k==WA.free)with
  |false=>rw[g n k acc m,pure_bind];show forIn r acc f=_;rw[kL g b r acc i];simp only[gh,m,Yt,if_false]
  |true=>
   let e:k=.free:=by simpa using m
   subst e;let(c,j):=h _ Wh W;rw[b n c acc j,pure_bind];show forIn r ((n,c)::acc) f=_;rw[kL g b r _ i];let a:=j;simp only[gh,m,if_true,a]
def pQ(h:∀y∈scope.names,y.2=.free->∃c,env.cells.lookup y.1=M c):closureFor scope env=pure (gh env scope.names []):=by simp only[closureFor];rw[kL (λn k a b=>by simp only[b,Yt,if_false]) (λn c a e=>by simp only[d9,if_true,cellOf,e,pure_bind]) scope.names [] h,pure_bind]
theorem jE:∀(names:G (Str×WA)) (acc:G (Str×J)),(∀x c,acc.lookup x=M c->env.cells.lookup x=M c)->∀x c,(gh env names acc).lookup x=M c->env.cells.lookup x=M c
 |[],_,h,x,c,e=>h x c e
 |(n,k)::r,acc,h,x,c,e=>by
  unfold gh at e;split at e
  .split at e
   .rename_i f a
    show jE r _ (λy d q=>?_) x c e;rw[W7]at q;split at q
    .rename_i b;ext q;rw[eq_of_beq b];show a
    .show h y d q
   .show jE r acc h x c e
  .show jE r acc h x c e
theorem jV:∀(names:G (Str×WA)) (acc:G (Str×J)) (x:Str),(acc.lookup x).isSome=S->((gh env names acc).lookup x).isSome=S
 |[],_,_,h=>h
 |(n,k)::r,acc,x,h=>by
  ext gh;split
  .split
   .show jV r _ x ?_
    rw[W7];split
    .rfl
    .show h
   .show jV r acc x h
  .show jV r acc x h
theorem lP:∀(names:G (Str×WA)) (acc:G (Str×J)) (x:Str) (c:J),(x,WA.free)∈names->env.cells.lookup x=M c->((gh env names acc).lookup x).isSome=S
 |[],_,_,_,h,_=>by ext h
 |(n,k)::r,acc,x,c,h,a=>by
  rcases WE.mp h with z|h
  .ext z;simp only[gh,d9,if_true,a];show jV r _ _ (by simp[W7])
  .ext gh
   split
   .split
    .show lP r _ x c h a
    .show lP r acc x c h a
   .show lP r acc x c h a
def wH(h:(x,WA.free)∈names)(a:env.cells.lookup x=M c):(gh env names []).lookup x=M c:=by
 let q:=lP names [] x c h a;cases e:(gh env names []).lookup x with
 |none=>rw[e]at q;ext q
 |some d=>let z:=jE names [] (λy d q=>by ext q) x d e;rw[a]at z;show z.symm
def vW{env:Env}{a:Yk}{x:Str}{k:WA}(h:(relabel a env).names.lookup x=M k):∃c,(x,c)∈a.names/\(k=c\/(c=.free/\k=.cell)):=by
 let((n,c),hm,e):=WM.mp (X2 h);simp only at e;split at e
 .rename_i b
  ext e;let f:(c==WA.free)=S:=by rw[V7,V7]at b;show b.1.1
  show#[c,hm,.inr #[by simpa using f,W]]
 .ext e;show#[_,hm,.inl W]
theorem i7{env:Env}:∀{names:G (Str×WA)} {x:Str},names.lookup x=M .free->
  (names.map λ(n,k)=>if(k==WA.free&&env.scope.kind==.function&&env.kindOf n==M .cell)then(n,WA.cell)else(n,k)).lookup x=M .cell\/
  (names.map λ(n,k)=>if(k==WA.free&&env.scope.kind==.function&&env.kindOf n==M .cell)then(n,WA.cell)else(n,k)).lookup x=M .free
 |[],_,h=>by ext h
 |(n,k)::r,x,h=>by
  rw[W7]at h;rw[Wv];dsimp only;by_cases a:(k==WA.free&&env.scope.kind==.function&&env.kindOf n==M .cell)=S
  .rw[ax a,W7]
   cases b:x==n with
   |true=>show .inl W
   |false=>rw[b]at h;show i7 h
  .rw[bb a,W7]
   cases b:x==n with
   |true=>rw[b]at h;show .inr h
   |false=>rw[b]at h;show i7 h
def dg(own:G Str)(a:G (Str×Nat)):G Str:=own++a.map (·.1)
def ib(own:G Str)(b:G (Str×Nat))(a:St):St:=own.map (λ_=>P)++b.map λp=>(a[p.2]?).join
def ab3(X:Cx)(a:Yk):G (Str×Nat)->Prop
 |[]=>True
 |p::r=>(X.N[p.2]?=M p.1/\a.names.lookup p.1=M .free/\(X.env.scope.names.lookup p.1=M .cell\/X.env.scope.names.lookup p.1=M .free))/\ab3 X a r
theorem ab3.mem:∀{a:G (Str×Nat)},ab3 X scope a->∀p∈a,X.N[p.2]?=M p.1/\scope.names.lookup p.1=M .free/\(X.env.scope.names.lookup p.1=M .cell\/X.env.scope.names.lookup p.1=M .free)
 |[],_,p,b=>by ext b
 |q::r,h,p,b=>by
  rcases WE.mp b with z|b
  .rw[z];show h.1
  .show h.2.mem p b
def u9(X:Cx)(a:Yk)(C:J):G (Str×J):=Yc (C+1) a.names (gh X.env a.names [])
theorem qQ:∀(names:G (Str×WA)) (n:Nat) (acc:G (Str×J)) (x:Str) (c:J),(Yc n names acc).lookup x=M c->(n<=c/\(x,WA.cell)∈names)\/acc.lookup x=M c
 |[],_,_,_,_,h=>.inr h
 |(y,k)::r,n,acc,x,c,h=>by
  unfold Yc at h;by_cases b:(k==WA.cell)=S
  .rw[ax b]at h
   let e:k=.cell:=by simpa using b
   rcases qQ r _ _ x c h with⟨a,f⟩|a
   .show .inl #[ZR a,Wj _ f]
   .rw[W7]at a
    split at a
    .rename_i g;ext a;show .inl #[Wg _,by rw[eq_of_beq g,e];show Wh]
    .show .inr a
  .rw[bb b]at h
   rcases qQ r _ _ x c h with⟨a,f⟩|a
   .show .inl #[a,Wj _ f]
   .show .inr a
theorem Gs:∀(names:G (Str×WA)) (n:Nat) (acc:G (Str×J)) (x:Str),(x,WA.cell)∉names->(Yc n names acc).lookup x=acc.lookup x
 |[],_,_,_,_=>rfl
 |(y,k)::r,n,acc,x,h=>by
  let b:=λz=>h (Wj _ z);ext Yc;by_cases a:(k==WA.cell)=S
  .let e:k=.cell:=by simpa using a
   rw[ax a,Gs r _ _ x b,W7];let f:(x==y)=R:=by show beq_eq_false_iff_ne.mpr λz=>h ?_;rw[z,e];show Wh
   rw[f]
  .rw[bb a];show Gs r _ _ x b
theorem rc:∀(names:G (Str×WA)) (h:Heap) (acc:G (Str×J)) (x:Str) (c:J),(Yc h.objs.size names acc).lookup x=M c->(h.objs.size<=c/\(pushCells h names).IsCell c P)\/acc.lookup x=M c
 |[],_,_,_,_,e=>.inr e
 |(y,k)::r,h,acc,x,c,e=>by
  unfold Yc at e;ext pushCells;by_cases b:(k==WA.cell)=S
  .rw[ax b]at e⊢
   rw[<-c9 h {cls:=.type "cell",data:=.cell P}]at e;rcases rc r _ _ x c e with⟨a,f⟩|a
   .rw[c9]at a;show .inl #[ZR a,f]
   .rw[W7]at a
    split at a
    .ext a;show .inl #[Wg _,_,acn _ _ _ _ (ck _ W),W]
    .show .inr a
  .rw[bb b]at e⊢;show rc r _ _ x c e
theorem yX:∀(names:G (Str×WA)) (n:Nat) (acc:G (Str×J)),(∀x c,acc.lookup x=M c->c<n)->(∀x y c,acc.lookup x=M c->acc.lookup y=M c->x=y)->∀x y c,(Yc n names acc).lookup x=M c->(Yc n names acc).lookup y=M c->x=y
 |[],_,_,_,i,x,y,c,e1,e2=>i x y c e1 e2
 |(z,k)::r,n,acc,h1,i,x,y,c,e1,e2=>by
  unfold Yc at e1 e2;by_cases g:(k==WA.cell)=S
  .rw[ax g]at e1 e2
   show yX r (n+1) ((z,n)::acc) (λa d q=>?_) (λa b d f e=>?_) x y c e1 e2
   .rw[W7]at q
    split at q
    .ext q;show Zj _
    .show ZS (h1 a d q)
   .rw[W7]at f e
    split at f
    .rename_i j
     split at e
     .rename_i h;rw[eq_of_beq j,eq_of_beq h]
     .ext f;show b4 (h1 b _ e) (XJ _)
    .split at e
     .ext e;show b4 (h1 a _ f) (XJ _)
     .show i a b d f e
  .rw[bb g]at e1 e2;show yX r n acc h1 i x y c e1 e2
theorem yK:∀{names:G (Str×WA)} {x:Str} {k a:WA},(names.map (·.1)).Nodup->names.lookup x=M k->(x,a)∈names->k=a
 |[],_,_,_,_,h,_=>by ext h
 |(y,j)::r,x,k,a,f,h,hm=>by
  rw[Wv,XM]at f;rw[W7]at h;rcases WE.mp hm with e|b
  .ext e;rw[d9]at h;show(Wt h).symm
  .cases g:x==y with
   |true=>rw[eq_of_beq g]at b;show b4 (WM.mpr #[_,b,W]) f.1
   |false=>rw[g]at h;show yK f.2 h b
def bV(X:Cx)(s:We)(H:Hp)(a:Yk)(C:J)(N:G Str)(b:G J):Cx:=
 {X with N:=N,s₀:=s,H₀:=H,env:=compEnvC a (u9 X a C) C X.env,outer:=X.stack,stack:=X.stack,ex:=b,fn:=λx=>((gh X.env a.names []).lookup x).isNone,pn:=[],xe:=λ_ _=>False}
section
variable{X:Cx}{Z:b5 (Wd×Obj)}{Y:St}{H:Hp}{s:We}
def si{a:Yk}(I:Inv X Z Y H s)(e:(gh X.env a.names []).lookup x=M c):X.env.cells.lookup x=M c/\c<s.heap.objs.size:=by let h:=jE _ _ (λ_ _ q=>by ext q) x c e;let(v,o,z,_):=I.cell x c h;show#[h,cc z]
theorem Aj(I:Inv X Z Y H s)(M:scope.kind=.function)(n:(scope.names.map (·.1)).Nodup)
  (v:∀y∈scope.names,y.2=.free->∃c,X.env.cells.lookup y.1=cL c) (g:s.heap.objs.size<=C) (j:∀b∈fp,lR X Z H b) (f:∀b∈fp,b<s.heap.objs.size):(bV X s H scope C N fp).Ok where
 mod:=I.ok.mod
 kind:=M
 glob:=I.ok.glob
 blt:=I.ok.blt
 above:=g
 inj:=yX _ _ _ (λx c e=>ZS (WC (si I e).2 g)) λx y c B A=>I.ok.inj x y c (si I B).1 (si I A).1
 has:=λx G=>by
  let m:∃k,(relabel scope X.env).names.lookup x=cL k/\(k=.cell\/k=.free):=by
   rcases G with z|z
   .show#[_,z,.inl W]
   .show#[_,z,.inr W]
  let(k,K,t):=m;let(E,hm,u):=vW K;let e:E=.free\/E=.cell:=by
   rcases u with z|⟨z,_⟩
   .subst z
    rcases t with z|z
    .show .inr z
    .show .inl z
   .show .inl z
  let q:((u9 X scope C).lookup x).isSome=S:=by
   rcases e with e|e
   .subst e;let(c,L):=v _ hm W;show YW _ _ _ (.inr (by rw[wH hm L];rfl))
   .subst e
    show YW _ _ _ (.inl ?_);cases z:scope.names.lookup x with
    |none=>show b4 hm (λhm=>by
      let:∀{l:b5 (Str×WA)},l.lookup x=P->(x,WA.cell)∉l:=λ{l}=>by
       induction l with
       |nil=>show λ_=>by simp
       |cons p r F=>
        intro h q;rw[W7]at h;rcases WE.mp q with q|q
        .rw[<-q,d9]at h;ext h
        .split at h
         .ext h
         .show F h q
      show this z hm)
    |some O=>rw[yK n z hm]
  show XQ.mp q
 cab:=λx c B A=>by
  let i:((gh X.env scope.names []).lookup x).isNone=S:=B;let w:=A;rcases qQ _ _ _ x c w with⟨z,_⟩|z
  .show WU g (ZR z)
  .rw[z]at i;ext i
 hd:=I.ok.hd
 frames:=I.ok.frames
 stk:=.inl W
 exf:=λb a=>#[WG (WC (f b a) g),λx c e=>by
  rcases qQ _ _ _ x c e with⟨z,_⟩|z
  .show Xn (WC (WC (f b a) g) (ZR z))
  .show(j b a).2.2.2.2.1 x c (si I z).1]
 bs:=I.bs
 bsz:=WU I.ok.bsz I.sz
 acx:=λb o e a=>by
  rcases(j b a).2.2.2.1 with z|z
  .show I.ok.acx b o e z
  .show b4 (WC (cc e) (WU I.ok.bsz z)) (XJ _)
 acB:=λb a J=>by
  rcases WE.mp (I.aa5 b J)with z|z
  .show(j b a).2.1 z
  .show(j b a).2.2.1 z
 aaC:=I.stack
 frf:=I.abn
def Dg(I:Inv X Z Y H s)(ZC:scope.kind=.function)(d:(scope.names.map (·.1)).Nodup)
  (N:∀y∈scope.names,y.2=.free->∃c,X.env.cells.lookup y.1=M c) (L:ab3 X scope fv) (B:s.heap.objs.size<=D) (j:D<C) (T:s.heap.objs.size<=C) (hf:∀b∈fp,lR X Z H b) (O:∀b∈fp,b<s.heap.objs.size)
  (F:h1.Ns C m) (E:∀x c,(u9 X scope C).lookup x=M c->C<c->∃v,h1.IsCell c v) (w:∀b o,s.heap.get? b=M o->h1.get? b=M o) (hd:∃n,h1.get? D=M {cls:=.type "list",data:=.seq #v[] n}):
  Inv (bV X s H scope C (dg own fv) fp) [] (ib own fv Y) (aW H D (.lst [])) {s with heap:=h1,toks:=t1}:=by
 let hn:=I.Xw.fresh B;let(n,hd):=hd;let Q:=Xn j;let h:∀x c,(u9 X scope C).lookup x=M c->C<c\/(X.env.cells.lookup x=M c/\c<s.heap.objs.size):=λx c e=>by
  rcases qQ _ _ _ x c e with⟨z,_⟩|z
  .show .inl z
  .show .inr (si I z)
 show#[Aj I ZC d N T hf O,W,I.bare,Un.laid w B hn,#[m,F,λi x v e1 e2 e3=>?_],λx c e=>?_,?_,λx c e=>?_,λp hp=>b4 (show p∈([]:G (J×Obj))from hp) (by simp),?_,?_]
 .
  let f:(own++fv.map (·.1))[i]?=M x:=e1;let a:(own.map (λ_=>(P:b7 V))++fv.map λp=>(Y[p.2]?).join)[i]?=M (M v):=e2;let A:own.length<=i:=by
   by_cases A:i<own.length
   .rw[Wn (by simpa using A),Wl]at a
    cases q:own[i]? with
    |none=>rw[q]at a;ext a
    |some _=>rw[q]at a;ext a
   .omega
  rw[WO A,Wl]at f;rw[WO (by simpa using A),Wl,V9]at a;cases q:fv[i - own.length]? with
  |none=>rw[q]at f;ext f
  |some p=>
   rw[q]at f a;let ex:=Wt f;subst ex;let ev:(Y[p.2]?).join=M v:=Wt a;let(g1,g2,g3):=L.mem p (WL q);let ev2:Y[p.2]?=M (M v):=by
    cases z:Y[p.2]? with
    |none=>rw[z]at ev;ext ev
    |some y=>rw[z]at ev;show d7 M ev
   let(m0,_,hl):=I.loc;let(u,r,l):=hl p.2 p.1 v g1 ev2 (.inr g3);show#[u,r,?_];let l2:∃c,X.env.cells.lookup p.1=M c/\s.heap.IsCell c (M u):=by
    rcases l with⟨k,_⟩|⟨_,c,e,z⟩
    .let t:X.env.scope.names.lookup p.1=M .local:=k
     rcases g3 with z|z
     .rw[z]at t;ext t
     .rw[z]at t;ext t
    .show#[c,e,z]
   let(c,e,o,K,g):=l2;show .inr #[?_,c,?_,o,w c o K,g]
   .show i7 g2
   .show(u9 X scope C).lookup p.1=M c;ext u9;rw[Gs _ _ _ _ λz=>by cases yK d g2 z];show wH (X2 g2) e
 .rcases h x c e with z|⟨z,_⟩
  .show E x c e z
  .let(v,o,K,g):=I.cell x c z;show#[v,o,w c o K,g]
 .show aW H D (.lst []) C=P;rw[ar Q];show I.Xw.fresh T
 .show aW H D (.lst []) c=P
  rcases h x c e with z|⟨z1,z2⟩
  .rw[ar (Xn (Y9 j z))];show I.Xw.fresh (WU T (aab z))
  .rw[ar (WG (WC z2 B))];show I.Y7 x c z1
 .show I.Xw.laid w B #[by show 0<=Wm;show W0 _,[],n,.nil,hd]
 .show(own.map (λ_=>(P:b7 V))++fv.map λp=>(Y[p.2]?).join).length=(own++fv.map (·.1)).length;simp
end
def ym(X:Cx)(e:G Wy)(t:TT):Prop:=
 ∀(a:G (J×Obj)) (s:We) (b:St) (H:Hp) (Q:Bool->Hp->Prop),Inv X a b H s->t b H Q->
  wpAny (model X.prog X.w) X.A (forIn e S λc r=>if r=S then do let ok<-isTrue c X.env (eval c X.env);pure (ForInStep.yield ok)else pure (ForInStep.yield r)) (TP X a b Q) X.xe s
def FJ:TT:=λ_ H Q=>Q S H
theorem wF:ym X [] FJ:=λ_ _ _ H _ I h=>wpAny_tests_nil #[H,I,h]
theorem GF(h:PT X c o):ym X [c] o:=λa s b H Q I e=>wpAny_tests_one (h a s b H Q I e)
def Ej(J:It)(D:Wd)(e:St)(g:TG)(l:TT)(j:TE)(o:Hp)(Fin:Hp->Prop):Prop:=
 ∃W:Nat->Nat->St->Hp->Prop,(∃m,W 0 m e (aW o D (.lst [])))/\∀i m σ H,W i m σ H->
  (J.stop i H/\Fin H)\/(J.go i H/\∃N:St->Hp->Prop,(∀p q,N p q->∃r,r<m/\W (i+1) r p q)/\
   ∀x q,J.yld i H x q->g x σ q λa n=>l a n λb h=>if b=S then j a h λy f=>∃ys,f D=M (.lst ys)/\ys.length<Wm/\N a (aW f D (.lst (ys++[y])))else N a h)
section
variable{Y:Wz}{w:WX}{A:WQ}{s:We}
def Cy{i o f:Wy}{g:b5 Wy}{b:Yk}{j:Pos}{it acc:U}{env:Env}{R:aaW->We->Prop}{XE:U->We->Prop}(B:∀x s1,XE x s1->notedBy (model Y w) A env (λe s2=>R (.error e) s2) x s1)(I:Nat->We->Prop)
  (turn:∀n s,I n s->wpAny (model Y w) A (pyNext it) (λr s1=>match r with
   |none=>R (.ok .next) s1
   |some v=>wpAny (model Y w) A (letOwnedTupleGo o it v) (λ_ s2=>wpAny (model Y w) A (assign o env v) (λ_ s3=>
     wpAny (model Y w) A (forIn g S λc r=>if r=S then do let ok<-isTrue c env (eval c env);pure (ForInStep.yield ok)else pure (ForInStep.yield r)) (λok s4=>
      if ok=S then wpAny (model Y w) A (eval i env) (λx s5=>
       wpAny (model Y w) A (call (.builtin "list.append") [acc,x]) (λ_ d=>∃m,m<n/\I m d) (λ_ _=>False) s5) XE s4
      else∃m,m<n/\I m s4) (λ_ _=>False) s3) (λ_ _=>False) s2) (λ_ _=>False) s1) (λ_ _=>False) s)
  (n:Nat) (h:I n s):codeAny (model Y w) A (.compLoop (.ListComp i [#[o,f,g,0]] b j) 0 it acc env) R s:=by
 show codeAny_loop W I (λn s C=>?_) n h;show wpAny _ A (Sem.onRaise (compTurn (.ListComp i [#[o,f,g,0]] b j) 0 it acc env) (λx=>do noteFrame x env;theTreesLotGoes x)) _ _ s;show wpAny_noted ?_;rw[compTurn_list]
 let l:∀{α:Type} {t:Sem α} {Q y:α->We->Prop} {E:U->We->Prop} {s:We},wpAny (model Y w) A t Q (λ_ _=>False) s->(∀a K,Q a K->y a K)->wpAny (model Y w) A t y E s:=
  λp q=>wpAny_mono p q λ_ _ z=>False.elim z
 show CL (Yq (CL (l (turn n s C) λr s1 p=>?_)));cases r with
 |none=>show Wf p
 |some v=>
  show CL (l p λ_ s2 q=>CL (l q λ_ s3 H=>CL (l H λok s4 u=>?_)));cases ok with
  |false=>show Wf #[W,u]
  |true=>show CL (CL (wpAny_mono u (λx s5 G=>CL (l G λ_ d F=>Wf (Wf #[W,F]))) B))
end
section
variable{X:Cx}{Z:b5 (Wd×Obj)}{Y:St}{H:Hp}{s:We}
def tV
  (h:Q (newEnv scope s.heap.objs.size globals (Yc (s.heap.objs.size+1) scope.names closure) qual P .none (cL env) builtinsNs) {s with heap:=pushCells (s.heap.push {cls:=.type "dict",data:=.dict #v[]}) scope.names}):
  wpAny f A (newFunctionEnv scope globals closure [] qual P .none (cL env)) Q E s:=by
 simp only[newFunctionEnv,adl,if_true];show CL (wpAny_alloc ?_);show CL (wpAny_layCells _ (λe a b=>by cases g:a==WA.cell<;>simp[g]) _ _ _ _ ?_);rw[show({s with heap:=s.heap.push {cls:=.type "dict",data:=.dict #v[]}}:We).heap.objs.size=s.heap.objs.size+1 from c9 ..];rw[abO];show CL (Wf (Wf h))
def p9{P tg q:Wy}{F:b5 Wy}{scope:Yk}{pos:Pos}{own:b5 Str}{h:b5 (Str×Nat)}{g:TG}{tc:TT}{te:TE}{E:V5->We->Prop}{it:Wd}{k:b5 Wd}{tn:Nat->Heap->Prop}{J:It}{Fin:Wd->Hp->Prop}
  {RR:V5->Wd->aaW->We->Prop} (I:Inv X Z Y H s) (hc:X.calm=V6) (ZC:scope.kind=.function) (hnd:(scope.names.map (·.1)).Nodup) (hfr:∀y∈scope.names,y.2=.free->∃c,X.env.cells.lookup y.1=cL c) (hfv:ab3 X scope h)
  (T:Turn X.prog X.w X.K tg J k it tn) (st:tn 0 s.heap) (L:∀b∈k,lR X Z H b)
  (hg:∀C,PG (bV X s H scope C (dg own h) k) tg g) (ht:∀C,ym (bV X s H scope C (dg own h) k) F tc) {W:Wd->V5->We->Prop} (he:∀C,PE ((bV X s H scope C (dg own h) k).ZZ (W C)) P te) (hEE:∀D C x s1,s.heap.objs.size<=C->W C x s1->notedBy (model X.prog X.w) X.A (compEnvC scope (u9 X scope C) C X.env) (λe s2=>RR (.ref D) C (.error e) s2) x s1)
  (hR:∀D,H D=Ld->Ej J D (ib own h Y) g tc te H (Fin D))
  (hRR:∀D C V s',Inv X Z Y V s'->Fin D V->(∃m,s'.heap.Ns C m)->s.heap.objs.size<=C->V C=Ld->RR (.ref D) C (.ok .next) s'):
  wpAny (model X.prog X.w) X.A (newList []) (λacc s3=>wpAny (model X.prog X.w) X.A (newFunctionEnv scope X.env.globals (gh X.env scope.names []) [] X.env.qual Ld .none (cL X.env)) (λahr s4=>
   codeAny (model X.prog X.w) X.A (.compStart (.ListComp P [#[tg,q,F,0]] scope pos) 0 (.ref it) acc {ahr with scope:=relabel scope X.env}) (RR acc ahr.locals) s4) E s3) E s:=by
 show Xu ?_;generalize hH2:s.heap.push {cls:=.type "list",dict:=Ld,data:=.seq ([]:b5 V5).toArray}=h2;let hz:h2.objs.size=s.heap.objs.size+1:=by rw[<-hH2,c9]
 show tV (s:={s with heap:=h2}) ?_;let M:s.heap.objs.size<h2.objs.size:=by rw[hz];show Zj _
 let hC:s.heap.objs.size<=h2.objs.size:=aab M;generalize hH1:pushCells (h2.push {cls:=.type "dict",data:=.dict #v[]}) scope.names=h1;let kp2:∀b o,h2.get? b=cL o->h1.get? b=cL o:=λb o e=>by rw[<-hH1];show acn _ _ b o (b9 _ e)
 let kp:∀b o,s.heap.get? b=cL o->h1.get? b=cL o:=λb o e=>kp2 b o (by rw[<-hH2];show b9 _ e);let hns:h1.Ns h2.objs.size (λ_=>Ld):=by rw[<-hH1];show(Heap.Ns.new h2 (.type "dict")).keeps (acn _ _)
 let hoc:∀x c,(u9 X scope h2.objs.size).lookup x=cL c->h2.objs.size<c->∃v,h1.IsCell c v:=λx c e ZK=>by
  let e':(Yc (h2.push {cls:=.type "dict",data:=.dict #v[]}).objs.size scope.names (gh X.env scope.names [])).lookup x=cL c:=by rw[c9];show e
  rcases rc _ _ _ x c e' with⟨_,z⟩|z
  .show#[Ld,by rw[<-hH1];show z]
  .show b4 (Y9 (si I z).2 (Y9 M ZK)) (XJ _)
 let hd:∃n,h1.get? s.heap.objs.size=cL {cls:=.type "list",data:=.seq #v[] n}:=#[0,kp2 _ _ (by rw[<-hH2];show ck _ rfl)];let G:∀b∈k,b<s.heap.objs.size:=λb f=>by let(o,e,_):=T.obj 0 _ st b f;show cc e
 let hn:H s.heap.objs.size=Ld:=I.Xw.fresh (Wg _);let(W,(m0,w0),turn):=hR s.heap.objs.size hn;let O:∀{pl:b5 (Wd×Obj)} {V:Hp},(∀b∈k,V b=Ld)->(∀p∈pl,p.1∉k)->∀b∈k,lR (bV X s H scope h2.objs.size (dg own h) k) pl V b:=λ{pl V} hn' hpl b f=>by let ok:=Aj (C:=h2.objs.size) (N:=dg own h) I ZC hnd hfr hC L G;show#[hn' b f,(ok.exf b f).1,ok.acB b f,.inl f,(ok.exf b f).2,λp hp=>by let hp':p∈([]:b5 (Wd×Obj))++pl:=hp;intro z;show hpl p (by simpa using hp') (by rw[z];show f)]
 let l:∀s4:We,s4={s with heap:=h1}->
   codeAny (model X.prog X.w) X.A (.compLoop (.ListComp P [#[tg,q,F,0]] scope pos) 0 (.ref it) (.ref s.heap.objs.size) (compEnvC scope (u9 X scope h2.objs.size) h2.objs.size X.env)) (RR (.ref s.heap.objs.size) h2.objs.size) s4:=by
  rintro s4 rfl
  let I0:Inv (bV X s H scope h2.objs.size (dg own h) k) [] (ib own h Y) (aW H s.heap.objs.size (.lst [])) {s with heap:=h1}:=
   Dg I ZC hnd hfr hfv (Wg _) M hC L G hns hoc kp hd
  let st0:tn 0 h1:=T.keep 0 _ _ st λb _ o e=>kp b o e;let fr0:∀b∈k,(aW H s.heap.objs.size (.lst [])) b=Ld:=λb f=>by rw[ar (WG (G b f))];show(L b f).1
  show Cy (λx s1 z=>hEE _ _ x s1 hC z) (λn s'=>∃i σ' V,Inv (bV X s H scope h2.objs.size (dg own h) k) [] σ' V s'/\tn i s'.heap/\(∀b∈k,V b=Ld)/\W i n σ' V) ?_ m0 #[0,_,_,I0,st0,fr0,w0];rintro n s5 ⟨i,j,H5,I5,st5,fr5,w5⟩;rcases turn i n j H5 w5 with⟨stop,fin⟩|⟨go,N,hN,step⟩
  .show bJ (T.done (bV X s H scope h2.objs.size (dg own h) k) rfl rfl rfl hc i [] s5 j H5 (λ_ _=>False) I5 (O fr5 (by simp)) st5 stop) λr s6 #[hr,A]=>?_;subst hr;let(mm,hm,_):=A.loc;show hRR _ _ H5 s6 ?_ fin #[mm,hm] hC A.free;show I.aeF (ch:=k) A.os A.base A.Xw A.bare λb f=>#[(L b f).2.2.2.1,(L b f).2.1,(L b f).2.2.2.2.1,(L b f).2.2.2.2.2]
  .show bJ (T.item (bV X s H scope h2.objs.size (dg own h) k) rfl rfl rfl hc i [] s5 j H5 (λ_ _=>False) I5 (O fr5 (by simp)) st5 go) λr s6 #[u,hr,h6]=>?_
   subst hr;show bJ h6 λ_ s7 a=>?_;let(x,H7,I7,r7,y7,B,fr7):=a;let I7':=I7.pinned (fp:=k) (O fr7 (by simp)) (T.obj _ _ B);let t:∀{a:St} {Q:Hp} {w:We},Inv (bV X s H scope h2.objs.size (dg own h) k) ([]++ro k s7.heap) a Q w->N a Q->∃m,m<n/\∃i σ' V,Inv (bV X s H scope h2.objs.size (dg own h) k) [] σ' V w/\tn i w.heap/\(∀b∈k,V b=Ld)/\W i m σ' V:=λ{a Q w} I8 n8=>by let(m',hm,w8):=hN a Q n8;show#[m',hm,i+1,a,Q,I8.aaP,T.keep _ _ _ B λb f o e=>(I8.pin (b,o) (WY _ (WY _ (iM f e)))).1,λb f=>?_,w8];let(o,e,d):=T.obj _ _ B b f;show(I8.pin (b,o) (WY _ (WY _ (iM f e)))).2.1
   show bJ (hg _ _ s7 j H7 x u _ I7' r7 (step x H7 y7)) λ_ w a=>?_;let(a,Q,I8,q8):=a;show bJ (ht _ _ w a Q _ I8 q8) λok s9 a=>?_;let(H9,I9,q9):=a;cases ok with
   |false=>rw[bb Wr]at q9⊢;show t I9 q9
   |true=>rw[ax rfl]at q9⊢;show bJ (he _ _ s9 a H9 _ (I9.ZZ _) q9) λy s10 a=>?_;let(K,H10,ak9,r10,ys,hy,hl,q10):=a;let I10:=ak9.Zs;show bJ (l9 _ s10 a H10 (.ref s.heap.objs.size) [K] (.ref s.heap.objs.size) [y] (λ_ H11=>N a H11) I10 rfl (.cons r10 .nil) #[_,ys,K,rfl,rfl,hy,hl,q10]) λ_ s11 a=>?_;let(v11,H11,I11,_,q11):=a;show t I11 q11
 show codeAny_compStart_list (l _ rfl) (T.self _ 0 _ _ _ (T.keep 0 _ _ st λb _ o e=>kp b o e) (l _ rfl))
def tf(own:G Str)(h:G (Str×Nat))(b:TI)(g:TG)(f:TT)(e:TE):TE:=λY H Q=>b Y H λJ a=>∀D,a D=P->Ej J D (ib own h Y) g f e a λi=>Q (.ref D) i
theorem oA{a:Yk}(ok:X.Ok)(h:∀y∈a.names,y.2=.free->(X.env.scope.names.lookup y.1=M .cell\/X.env.scope.names.lookup y.1=M .free)):∀y∈a.names,y.2=.free->∃c,X.env.cells.lookup y.1=M c:=
 λy b e=>ok.has y.1 (h y b e)
theorem MR{a sc:Yk}(h:(a.names.all λy=> !(y.2==WA.free)||(sc.names.lookup y.1==M WA.cell)||(sc.names.lookup y.1==M WA.free))=S):
  ∀y∈a.names,y.2=.free->(sc.names.lookup y.1=M .cell\/sc.names.lookup y.1=M .free):=λy b e=>by
 let q:=XF.mp h y b;rw[e]at q
 simpa using q
def zF{elt d iter:Wy}{ifs:G Wy}{scope:Yk}{pos:Pos}(own:G Str)(c:G (Str×Nat)){t:TI}{g:TG}{v:TT}{u:TE}(V:X.calm=S)(N:PI X d iter t)
  (O:∀s H C a,PG (bV X s H scope C (dg own c) a) d g) (F:∀s H C a,ym (bV X s H scope C (dg own c) a) ifs v) (he:∀s H C a,PE (bV X s H scope C (dg own c) a) elt u) (l:ab3 X scope c)
  (n:(scope.names.all λy=> !(y.2==WA.free)||(X.env.scope.names.lookup y.1==M WA.cell)||(X.env.scope.names.lookup y.1==M WA.free))=S)
  (w:scope.kind=.function:=by rfl) (k:(scope.names.map (·.1)).Nodup:=by left)
  (p:∀y∈scope.names,y.2=.local->scope.names.lookup y.1=M .local:=by left) (K:∀x,foldedSetIterable iter X.env x=pure x:=by intro _;rfl):
  PE X (.ListComp elt [#[d,iter,ifs,0]] scope pos) (tf own c t g v u):=by
 intro Z s Y H Q I h;let f:=MR n;rw[eval_ListComp];show adA (use:=P) rfl K (pQ (oA I.ok f)) w p (bJ (N Z s Y H _ I h) λxv s1 h1=>bJ h1 λE s2 h2=>?_);let(it,a,tn,J,H2,e,A,T,i,f2,R):=h2;subst e;show p9 A V w k (oA I.ok f) l T i f2 (λC=>O _ _ C _) (λC=>F _ _ C _) (W:=λ_ _ _=>False) (λC=>he _ _ C _) (λ_ _ _ _ _ z=>z.elim) (Fin:=λD r=>Q (.ref D) r) R ?_;intro D C r B I' fin hm hC L;let(m,hm):=hm;show#[m,hm,λh' j=>#[.ref D,r,?_,rfl,fin]];let(f0,f1,_,f3,f4,f5):=A.acE hC L;show I'.turned (t':=B.toks) (λb o hb q=>(j.2 b hb).trans q) f0 f1 f3 f4 f5
def Ip{elt d iter:Wy}{ifs:G Wy}{scope:Yk}{pos k py:Pos}{i:Nat}{x:Str}(own:G Str)(j:G (Str×Nat)){O:TI}{g:TG}{tc:TT}{V:TE}(hN:X.N.Nodup)(w:X.N[i]?=M x)(hx:X.env.scope.names.lookup x=M .local)
  (hc:X.calm=S) (hi:PI X d iter O)
  (hg:∀s H C c,PG (bV X s H scope C (dg own j) c) d g) (ht:∀s H C c,ym (bV X s H scope C (dg own j) c) ifs tc) (he:∀s H C c,PE (bV X s H scope C (dg own j) c) elt V) (A:ab3 X scope j)
  (E:(scope.names.all λy=> !(y.2==WA.free)||(X.env.scope.names.lookup y.1==M WA.cell)||(X.env.scope.names.lookup y.1==M WA.free))=S)
  (r:Yu (.ListComp elt [#[d,iter,ifs,0]] scope pos) (M (.Name x py)) k.line X.env=pure S:=by rfl)
  (ZC:scope.kind=.function:=by rfl) (u:(scope.names.map (·.1)).Nodup:=by left)
  (F:∀y∈scope.names,y.2=.local->scope.names.lookup y.1=M .local:=by left) (hs:∀x,foldedSetIterable iter X.env x=pure x:=by intro _;rfl):
  PS X (.Assign [.Name x py] (.ListComp elt [#[d,iter,ifs,0]] scope pos) k) (wR (tf own j O g tc V) (mY i)):=by
 intro Z s Y H D I h;let f:=MR E;rw[exec_Assign_Name_used _ _ _ _ r];show CL (Yq (CL ?_));show wpAny _ _ (do let _<-comprehension (.ListComp elt [#[d,iter,ifs,0]] scope pos) scope X.env _ (newList []) V8 (eval iter X.env) (M (assign (.Name x py) X.env))) _ _ s;show CL (bJ (adA (use:=M (assign (.Name x py) X.env)) (Q:=λ_ l=>SP X Z D .next l) rfl hs (pQ (oA I.ok f)) ZC F
  (bJ (hi Z s Y H _ I h) λxv s1 h1=>bJ h1 λitv s2 h2=>?_)) λ_ l q=>Wf (Wf q))
 let(it,c,tn,J,H2,e,I2,T,n,f2,R):=h2;subst e;show p9 I2 hc ZC u (oA I.ok f) A T n f2 (λC=>hg _ _ C _) (λC=>ht _ _ C _) (W:=λ_ _ _=>False) (λC=>he _ _ C _) (λ_ _ _ _ _ z=>z.elim) (Fin:=λL N=>D.nx (Y.set i (M (.ref L))) N) R ?_;intro L C N l I' fin hm hC hn;let(m,hm):=hm;let(f0,f1,f2',f3,f4,f5):=I2.acE hC hn;show wpAny _ _ (assign (.Name x py) X.env (.ref L)) _ _ l;show agq (sQ I' hN w (.inl hx) (v:=.ref L) rfl (λp K #[a,sb,ha]=>?_) (.inr hx));let B:C≠a:=by
  rcases ha with z|z
  .rw[z];show f1
  .show λq=>f4 x a z q.symm
 show#[m,hm.sameBut sb B,λh' t=>#[_,N,?_,fin]];show K.turned (t':=p.toks) (λb o hb q=>(t.2 b hb).trans q) f0 f1 f3 f4 f5
end
def vS(P:Wz)(w:WX)(K:lD)(c:Str->I U)(base:Heap)(k:Nat)(x:Str)(b:G Str)(sp:Sp):Prop:=
 ∃(f:J) (a:Xj),FnOk P w K c base kg k f a b sp/\Binds K a b []/\XT K (.ref f)=S/\c x=M (.ref f)
def rJ(C:vS X.prog X.w X.K X.mg X.base k x ps sp)(l:X9 j X.A)(c:PA X (e::es) t)(g:k<=j:=by decide)(n:Gl X x:=by rfl)
  (h:(x==("__debug__":Str))=R:=by decide) (o:Wu (e::es) X.env=(R,eval e X.env)::Wu es X.env:=by rfl) (a:(backTo pos (Wu es X.env)).any (·.1)=R:=by rfl):
  PE X (.Call (.Name x p) (e::es) [] pos) (jo sp [] E0 t):=by
 let(f,q,F,b,i,m):=C;show zN F (l.mono g) n m i b .nil Fx c h o a
section
variable{Z:St}{H:Hp}{Q:VK}{D:Ends}
theorem OA(h:t {D with nx:=u D} Z H):Eo t u D Z H:=h
theorem Tj(h:C Z H λx H1=>o Z H1 λy a=>r x y a Q):ED r C o Z H Q:=h
theorem Rq(c:wf x y=S)(h:Q (.bl (decide (x=y))) H):UW x y H Q:=#[c,h]
theorem OI(h:o Z H D.rt):DH o D Z H:=h
theorem KW(h:o Z H λ_ H1=>D.nx Z H1):sO o D Z H:=h
theorem N0{Q:G V->Hp->Prop}(h:Q [] H):ja Z H Q:=h
theorem Kg{Q:G V->Hp->Prop}(h:o Z H λx H1=>tr Z H1 λxs a=>Q (x::xs) a):fV o tr Z H Q:=h
theorem HR(h:t Z H λa H1=>sp (a++[]) H1 Q E):jo sp [] E t Z H Q:=h
end
def PP{α:Type}{xs:G α}{i:Int}{v:α}(a:0<=i)(h:xs[i.toNat]?=M v):kP xs i=M v:=by let q:=Bl h;rwa [adT a]at q
def XZ.tup{K:lD}(e:XZ H H')(h:ZP K H a xs):ZP K H' a xs:=by
 rcases h with(h|⟨o,h⟩)|h
 .show .inl (.inl (e _ _ h))
 .show .inl (.inr #[o,e _ _ h])
 .show .inr h
theorem bz(h:H p=P)(o:HO):XZ H (aW H p o):=λb u q=>by rw[ar (bw q h)];show q
def Mm:Xg "max"=M (.builtin "max"):=by left
def uH:Xg "isinstance"=M (.builtin "isinstance"):=by left
def M4:Xg "len"=M (.builtin "len"):=by left
def wP:Xg "sorted"=M (.builtin "sorted"):=by left
def Rj:Xg "all"=M (.builtin "all"):=by left
def xz:Xg "list"=M (.type "list"):=by left
def Jb:Xg "tuple"=M (.type "tuple"):=by left
section
variable{X:Cx}
def vV:YG X (.builtin "sorted") (λxs H Q=>∃(p:Wd) (g:b5 Int),xs=[.ref p]/\Z1 X.K H p (g.map V.int)/\g.length<64/\∀(l:Wd) (a:b5 Int),H l=P->a.Perm g->a.Pairwise (·<=·)->Q (.ref l) (aW H l (.lst (a.map V.int)))):=by
 intro j s E H xs F Q I r h;let(p,g,rfl,v,A,q):=h;let(u,rfl,n):=kq r;ext n;let(C,K,pl,J):=I.list v;let w:=K.length;rw[V9]at w;show sorted_ints pl.isList (kR K) () λf a L m t=>?_;let(e,y):=sortedAll_at s.heap C f;let i:a.length=g.length:=m.length_eq;let B:f.toList.length=a.length:=L.length;show#[.ref (s.heap.objs.size+1),_,I.laid (t':=s.toks) (o:=.lst (a.map V.int)) (λb G z=>sortedAll_old z) (ZQ _) ?_,W,q _ a (I.Xw.fresh (ZQ _)) m t];show#[?_,f.toList,e,iA L,y];rw[V9,i];let:(64:Nat)<=Wm:=by decide
 ext
end
end L2
namespace L3
open PySem L2
abbrev D:=Wa
inductive PV where
 |fz (d:D)
 |ow (ds:G D)
 |pl (i:Nat)
abbrev aL:=G (I PV)
structure Xc where
 cls:Str
 fs:G (Str×D)
inductive Res(α:Type) where
 |ok (a:α)
 |er (x:Xc)
 |bad
namespace Res
def bind(r:Res α)(f:α->Res β):Res β:=match r with
 |.ok a=>f a
 |.er x=>.er x
 |.bad=>.bad
def Xf:I α->Res α
 |some a=>.ok a
 |none=>.bad
theorem bind_ok(a:α)(f:α->Res β):(Res.ok a).bind f=f a:=W
end Res
abbrev eg:=@Res.bind_ok
abbrev bE:=J->Prop
def cg(O:bE)(p:J):bE:=λb=>O b\/b=p
def Ei(O:bE)(p:J):bE:=λb=>O b/\b≠p
def noO:bE:=λ_=>False
def Ev(O:bE)(H:Hp)(a:bE)(c:Hp):Prop:=∀b o,H b=M o->¬O b->c b=M o/\¬a b
theorem Ev.refl:Ev O H O H:=λ_ _ h n=>#[h,n]
theorem Ev.trans(a:Ev O H O1 H1)(b:Ev O1 H1 O2 H2):Ev O H O2 H2:=λp o h n=>let#[h1,e]:=a p o h n;b p o h1 e
theorem Ev.grow(s:XZ H H'):Ev O H O H':=λb o h n=>#[s b o h,n]
theorem Ev.add(s:XZ H H')(a:H p=P):Ev O H (cg O p) H':=λb o h n=>#[s b o h,λz=>z.elim n λe=>by simp_all]
theorem Ev.sub(h:∀b,O' b->O b):Ev O H O' H:=λb o e n=>#[e,λz=>n (h b z)]
theorem Ev.mut(a:O p)(u:HO):Ev O H O (aW H p u):=λb o h n=>#[by rw[ar (λe=>n (by simp_all))];show h,n]
def Zu(K:lD)(H:Hp)(a:J)(xs:G V):Prop:=Rd H a (.lst xs)\/∃(b:G U) (n:Nat),K.lookup a=M {cls:=.type "list",data:=.seq b.toArray n}/\xs.length<=Wm/\Vals xs b
def Zu.sq(h:Zu K H a xs):Z1 K H a xs:=by
 rcases h with h|⟨f,n,h1,e,b⟩
 .show .inl h
 .show .inr #[_,f.toArray,n,h1,W,W,W,by rw[Ws,<-b.length];show e,by ext]
theorem Zu.of(h:H a=M (.lst xs)):Zu K H a xs:=.inl (.inl h)
def Zu.same(e:XZ H H')(h:Zu K H a xs):Zu K H' a xs:=by
 rcases h with(h|⟨o,h⟩)|h
 .show .inl (.inl (e _ _ h))
 .show .inl (.inr #[o,e _ _ h])
 .show .inr h
theorem jT(H:Hp):XZ (λ_=>P) H:=λ_ _ h=>by ext h
def abg(O:bE)(K:lD)(H:Hp)(a:J)(xs:G V):Prop:=Zu K H a xs/\(O a->Zu K (λ_=>P) a xs)
def aaj(O:bE)(K:lD)(H:Hp)(a:J)(xs:G V):Prop:=ZP K H a xs/\(O a->ZP K (λ_=>P) a xs)
section
variable{O Z:bE}{K:lD}{H Y:Hp}{a:Wd}{X:b5 V}
def abg.ev(h:abg O K H a X)(e:Ev O H Z Y):abg Z K Y a X:=by
 let(h,k):=h;by_cases z:O a
 .show#[Zu.same (jT Y) (k z),λ_=>k z]
 .rcases h with(h|⟨o,h⟩)|h
  .let(f,b):=e a _ h z;show#[.inl (.inl f),λy=>b4 y b]
  .let(f,b):=e a _ h z;show#[.inl (.inr #[o,f]),λy=>b4 y b]
  .show#[.inr h,λ_=>.inr h]
def aaj.ev(h:aaj O K H a X)(e:Ev O H Z Y):aaj Z K Y a X:=by
 let(h,k):=h;by_cases z:O a
 .show#[(jT Y).tup (k z),λ_=>k z]
 .rcases h with(h|⟨o,h⟩)|h
  .let(f,b):=e a _ h z;show#[.inl (.inl f),λy=>b4 y b]
  .let(f,b):=e a _ h z;show#[.inl (.inr #[o,f]),λy=>b4 y b]
  .show#[.inr h,λ_=>.inr h]
end
mutual
inductive DV(O:bE)(K:lD)(H:Hp):V->D->Prop
 |Ye:DV O K H .Ye .none
 |bl (b:Bool):DV O K H (.bl b) (.bool b)
 |int (i:Int):DV O K H (.int i) (.int i)
 |str (x:Str):DV O K H (.str x) (.str x)
 |tup {a:Wd} {xs:b5 V} {ds:b5 D}:aaj O K H a xs->XS O K H xs ds->DV O K H (.ref a) (.tuple ds)
 |lst {a:Wd} {xs:b5 V} {ds:b5 D}:abg O K H a xs->XS O K H xs ds->DV O K H (.ref a) (.list ds)
inductive XS(O:bE)(K:lD)(H:Hp):b5 V->b5 D->Prop
 |nil:XS O K H [] []
 |cons {v:V} {vs:b5 V} {d:D} {ds:b5 D}:DV O K H v d->XS O K H vs ds->XS O K H (v::vs) (d::ds)
end
section
variable{O Z:bE}{K:lD}{H H':Hp}
mutual
theorem DV.ev(e:Ev O H Z H'):∀{v:V} {d:D},DV O K H v d->DV Z K H' v d
 |_,_,.Ye=>.Ye
 |_,_,.bl b=>.bl b
 |_,_,.int i=>.int i
 |_,_,.str x=>.str x
 |_,_,.tup h hs=>.tup (h.ev e) (XS.ev e hs)
 |_,_,.lst h hs=>.lst (h.ev e) (XS.ev e hs)
theorem XS.ev(e:Ev O H Z H'):∀{vs:b5 V} {ds:b5 D},XS O K H vs ds->XS Z K H' vs ds
 |_,_,.nil=>.nil
 |_,_,.cons h hs=>.cons (DV.ev e h) (XS.ev e hs)
end
theorem XS.length:∀{a:G V} {ds:G D},XS O K H a ds->a.length=ds.length
 |_,_,.nil=>rfl
 |_,_,.cons _ t=>by rw[Wo,Wo,t.length]
theorem XS.get:∀{c:G V} {ds:G D} {i:Nat} {d:D},XS O K H c ds->ds[i]?=M d->∃v,c[i]?=M v/\DV O K H v d
 |_,_,_,_,.nil,e=>by simp at e
 |_,_,0,_,.cons h _,e=>by simp_all
 |_,_,i+1,d,.cons _ t,e=>by let(v,b,a):=XS.get t (by simpa using e);simp_all
theorem XS.agg:∀{c:G V} {ds:G D} {i:Nat} {v:V},XS O K H c ds->c[i]?=M v->∃d,ds[i]?=M d/\DV O K H v d
 |_,_,_,_,.nil,e=>by simp at e
 |_,_,0,_,.cons h _,e=>by simp_all
 |_,_,i+1,v,.cons _ t,e=>by let(d,b,a):=XS.agg t (by simpa using e);simp_all
theorem XS.append:∀{a ws:G V} {ds es:G D},XS O K H a ds->XS O K H ws es->XS O K H (a++ws) (ds++es)
 |_,_,_,_,.nil,h=>h
 |_,_,_,_,.cons h t,g=>.cons h (XS.append t g)
theorem XS.take:∀{a:G V} {ds:G D} (n:Nat),XS O K H a ds->XS O K H (a.take n) (ds.take n)
 |_,_,0,_=>.nil
 |_,_,_+1,.nil=>.nil
 |_,_,n+1,.cons h t=>.cons h (XS.take n t)
theorem XS.drop:∀{a:G V} {ds:G D} (n:Nat),XS O K H a ds->XS O K H (a.drop n) (ds.drop n)
 |_,_,0,h=>h
 |_,_,_+1,.nil=>.nil
 |_,_,n+1,.cons _ t=>XS.drop n t
theorem XS.flat(h:XS O K H vs ds):∀n:Nat,XS O K H (Wk n vs).flatten (Wk n ds).flatten
 |0=>.nil
 |n+1=>by rw[Xr,Xr,Yh,Yh];show h.append (XS.flat h n)
mutual
theorem DV.plain:∀{v:V} {d:D},DV O K H v d->L2.DV K H v d
 |_,_,.Ye=>.Ye
 |_,_,.bl b=>.bl b
 |_,_,.int i=>.int i
 |_,_,.str x=>.str x
 |_,_,.tup h hs=>.tup h.1 (XS.plain hs)
 |_,_,.lst h hs=>.lst h.1.sq (XS.plain hs)
theorem XS.plain:∀{vs:b5 V} {ds:b5 D},XS O K H vs ds->L2.XS K H vs ds
 |_,_,.nil=>.nil
 |_,_,.cons h hs=>.cons (DV.plain h) (XS.plain hs)
end
end
def DX(O:bE)(K:lD)(H:Hp)(v:V):D->Prop
 |.list ds=>∃a xs,v=.ref a/\Zu K H a xs/\XS O K H xs ds
 |d=>DV O K H v d
def DV.x(h:DV O K H v d):DX O K H v d:=by
 cases h with
 |lst h a=>show#[_,_,W,h.1,a]
 |Ye=>show .Ye
 |bl b=>show .bl b
 |int i=>show .int i
 |str x=>show .str x
 |tup h a=>show .tup h a
def DX.plain(h:DX O K H v d):L2.DV K H v d:=by
 cases d with
 |list ds=>let(a,xs,rfl,f,e):=h;show .lst f.sq e.plain
 |none=>show DV.plain h
 |bool b=>show DV.plain h
 |int i=>show DV.plain h
 |str x=>show DV.plain h
 |tuple ds=>show DV.plain h
 |dict g=>show DV.plain h
def aca(K:lD)(b:Hp)(O:bE)(H:Hp)(v:V):PV->Prop
 |.fz d=>DV O K H v d
 |.ow ds=>∃a e,v=.ref a/\O a/\b a=P/\H a=M (.lst e)/\XS O K H e ds
 |.pl _=>False
structure Rl(K:lD)(B:bE)(H0:Hp)(O:bE)(σ:St)(H:Hp)(ρ:aL):Prop where
 same:XZ H0 H
 bo:∀a,B a->O a
 bd:∀a,B a->H0 a≠P
 od:∀a,H a=P->¬O a
 len:σ.length=ρ.length
 slot:∀(i:Nat) (x:PV),ρ[i]?=M (M x)->∃v,σ[i]?=M (M v)/\aca K H0 O H v x
 one:∀(i j:Nat) (ds es:G D) (v:V),ρ[i]?=M (M (.ow ds))->ρ[j]?=M (M (.ow es))->σ[i]?=M (M v)->σ[j]?=M (M v)->i=j
def Z7(K:lD)(e:Hp)(O:bE)(b:St)(H:Hp)(c:aL)(v:V):PV->Prop
 |.fz d=>DV O K H v d
 |.ow ds=>∃a f,v=.ref a/\O a/\e a=P/\H a=M (.lst f)/\XS O K H f ds/\∀(i:Nat) (es:G D),c[i]?=M (M (.ow es))->b[i]?≠M (M (.ref a))
 |.pl i=>b[i]?=M (M v)
def j4:PV->Prop
 |.ow _=>False
 |_=>True
def bq:PV->PV
 |.ow ds=>.fz (.list ds)
 |p=>p
section
variable{K:lD}{B O X:bE}{Z H H':Hp}{Y:St}{ρ ρ':aL}{v:V}
def aca.grow(s:XZ H H')(h:aca K Z O H v x):aca K Z O H' v x:=by
 cases x with
 |fz d=>show DV.ev (Ev.grow s) h
 |ow ds=>let(a,l,e,j,g,f,b):=h;show#[a,l,e,j,g,s _ _ f,b.ev (Ev.grow s)]
 |pl i=>show h
theorem Rl.grow(R:Rl K B Z O Y H ρ)(s:XZ H H'):Rl K B Z O Y H' ρ:=
 #[R.same.trans s,R.bo,R.bd,λa h=>R.od a (s.free h),R.len,λi x h=>let#[v,h1,b]:=R.slot i x h;#[v,h1,b.grow s],R.one]
theorem Rl.afu(R:Rl K B Z O Y H ρ)(h:H p=P):Z p=P:=R.same.free h
def Rl.add(R:Rl K B Z O Y H ρ)(s:XZ H H')(f:H p=P)(g:H' p≠P):Rl K B Z (cg O p) Y H' ρ:=by
 show#[R.same.trans s,λa h=>.inl (R.bo a h),R.bd,λa h z=>z.elim (R.od a (s.free h)) λe=>g (by simp_all),R.len,λi x h=>?_,R.one];let(v,j,b):=R.slot i x h;show#[v,j,?_];cases x with
 |fz d=>show DV.ev (Ev.add s f) b
 |ow ds=>let(a,q,e,o,n,m,l):=b;show#[a,q,e,.inl o,n,s _ _ m,l.ev (Ev.add s f)]
 |pl i=>show b
theorem Rl.aeZ(R:Rl K B Z O Y H ρ)(h:Z a=P):¬B a:=λz=>R.bd a z h
def Rl.sub(R:Rl K B Z O Y H ρ){a:J}(m:Z a=P)(h:∀(i:Nat) (es:G D),ρ[i]?=M (M (.ow es))->Y[i]?≠M (M (.ref a))):Rl K B Z (Ei O a) Y H ρ:=by
 show#[R.same,λb f=>#[R.bo b f,λe=>R.aeZ m (e▸f)],R.bd,λb f z=>R.od b f z.1,R.len,λi x j=>?_,R.one];let(v,l,g):=R.slot i x j;show#[v,l,?_];cases x with
 |fz d=>show DV.ev (Ev.sub λb z=>z.1) g
 |ow ds=>let(b,r,e,q,p,o,n):=g;subst e;show#[b,r,W,#[q,λe=>h i ds j (by rw[l,e])],p,o,n.ev (Ev.sub λb z=>z.1)]
 |pl i=>show g
theorem tH(h:H a=M (.lst o))(n:¬O a)(hd:XS O K H o ds):DV O K H (.ref a) (.list ds):=.lst #[Zu.of h,λz=>b4 z n] hd
def fC{pv:PV}(R:Rl K B Z O Y H ρ)(h:Z7 K Z O Y H ρ v pv):∃X,Ev O H X H/\Rl K B Z X Y H ρ/\Z7 K Z X Y H ρ v (bq pv):=by
 cases pv with
 |fz d=>show#[O,.refl,R,h]
 |pl i=>show#[O,.refl,R,h]
 |ow ds=>let(a,m,rfl,l,j,g,f,e):=h;show#[Ei O a,Ev.sub λb z=>z.1,R.sub j e,tH g (λz=>z.2 W) (f.ev (Ev.sub λb z=>z.1))]
def jQ(pv:PV):j4 (bq pv):=by ext pv<;>trivial
def Z7.keep{pv:PV}(a:j4 pv)(e:Ev O H X H')(h:Z7 K Z O Y H ρ v pv):Z7 K Z X Y H' ρ' v pv:=by
 cases pv with
 |fz d=>show DV.ev e h
 |pl i=>show h
 |ow ds=>show a.elim
def Vb:I (I PV)->I D
 |some (M (.fz d))=>M d
 |some (M (.ow ds))=>M (.list ds)
 |_=>P
def rB(ρ:aL):PV->I D
 |.fz d=>M d
 |.ow ds=>M (.list ds)
 |.pl i=>Vb ρ[i]?
def jg{pv:PV}(R:Rl K B Z O Y H ρ)(h:Z7 K Z O Y H ρ v pv)(e:rB ρ pv=M d):DX O K H v d:=by
 cases pv with
 |fz p=>ext e;show DV.x h
 |ow ds=>ext e;let(a,y,rfl,w,t,m,l,r):=h;show#[a,y,W,Zu.of m,l]
 |pl i=>
  let b:Vb ρ[i]?=M d:=e;let n:=h;cases q:ρ[i]? with
  |none=>rw[q]at b;ext b
  |some o=>
   cases o with
   |none=>rw[q]at b;ext b
   |some x=>
    let(u,g,f):=R.slot i x q;rw[n]at g;ext g;rw[q]at b;cases x with
    |fz p=>ext b;show DV.x f
    |ow ds=>ext b;let(a,y,rfl,k1,k2,k3,k4):=f;show#[a,y,W,Zu.of k3,k4]
    |pl j=>show f.elim
def toS(ρ:aL)(i:Nat):I (I PV)->I (D×aL)
 |some (M (.fz d))=>M (d,ρ)
 |some (M (.ow ds))=>M (.list ds,ρ.set i (M (.fz (.list ds))))
 |_=>P
def wb(ρ:aL):PV->I (D×aL)
 |.fz d=>M (d,ρ)
 |.ow ds=>M (.list ds,ρ)
 |.pl i=>toS ρ i ρ[i]?
def bP{l:G α}(h:(l.set i x)[j]?=M y):(j=i/\y=x)\/(j≠i/\l[j]?=M y):=by
 rw[Xs]at h;by_cases e:i=j
 .rw[ax e]at h
  split at h
  .ext h;show .inl #[e.symm,W]
  .ext h
 .rw[bb e]at h;show .inr #[λz=>e z.symm,h]
def sA{pv:PV}(R:Rl K B Z O Y H ρ)(h:Z7 K Z O Y H ρ v pv)(e:wb ρ pv=cL (d,ρ')):∃X,Ev O H X H/\Rl K B Z X Y H ρ'/\DV X K H v d:=by
 cases pv with
 |fz U=>ext e;show#[O,.refl,R,h]
 |ow ds=>ext e;let(a,vs,rfl,h1,T,S,Q,P):=h;show#[Ei O a,Ev.sub λb z=>z.1,R.sub T P,tH S (λz=>z.2 W) (Q.ev (Ev.sub λb z=>z.1))]
 |pl i=>
  let f:toS ρ i ρ[i]?=cL (d,ρ'):=e;let y:=h;cases q:ρ[i]? with
  |none=>rw[q]at f;ext f
  |some o=>
   cases o with
   |none=>rw[q]at f;ext f
   |some x=>
    let(u,E,A):=R.slot i x q;rw[y]at E;ext E;rw[q]at f;cases x with
    |fz U=>ext f;show#[O,.refl,R,A]
    |pl j=>show A.elim
    |ow ds=>
     ext f;let(a,vs,rfl,k1,k2,k3,k4):=A;let es:Ev O H (Ei O a) H:=Ev.sub λb z=>z.1;let F:=tH k3 (λz=>z.2 W) (k4.ev es);show#[Ei O a,es,#[R.same,λb m=>#[R.bo b m,λe=>R.aeZ k2 (e▸m)],R.bd,λb m z=>R.od b m z.1,by rw[Xp];show R.len,λj x l=>?_,λj k xs G w t r=>?_],F]
     .rcases bP l with⟨rfl,g⟩|⟨p,l⟩
      .ext g;show#[_,y,F]
      .let(u,C,n):=R.slot j x l
       show#[u,C,?_];cases x with
       |fz d=>show DV.ev es n
       |pl i=>show n
       |ow xs=>let(b,I,rfl,N,M,L,J):=n;show#[b,I,W,#[N,λz=>p (R.one j i xs ds (.ref a) l q (by rw[C,z]) y)],M,L,J.ev es]
     .rcases bP t with⟨rfl,g⟩|⟨_,t⟩
      .ext g
      .rcases bP r with⟨rfl,g⟩|⟨_,r⟩
       .ext g
       .show R.one j k xs G w t r
end
def XOk(K:lD)(B:bE)(H:Hp)(c:U)(b:I J)(x:Xc):Prop:=
 (∃a,c=.ref a/\WI K Wx x.cls=M (M (.ref a)))/\∃fs,(∀p,b=M p->H p=M (.xd fs))/\∀f d,x.fs.lookup f=M d->b≠P/\∃v,fs.lookup f=M v/\DV B K H v d
def XE(K:lD)(B:bE)(a:Hp)(E:XK)(x:Xc):Prop:=∀c b H',XZ a H'->XOk K B H' c b x->E c b H'
def WR(K:lD)(E:XK)(B:bE)(b:Hp)(P:α->Prop):Res α->Prop
 |.ok a=>P a
 |.er x=>XE K B b E x
 |.bad=>False
section
variable{K:lD}{E:XK}{B:bE}{Z:Hp}
def WR.bind(h:WR K E B Z b (r.bind k)):WR K E B Z (λa=>WR K E B Z b (k a)) r:=by ext r<;>show h
def WR.Xf(h:WR K E B Z b ((Res.Xf o).bind k)):∃a,o=M a/\WR K E B Z b (k a):=by
 cases o with
 |none=>show h.elim
 |some a=>show#[a,W,h]
def WR.imp(h:WR K E B Z b r)(g:∀a,b a->P' a):WR K E B Z P' r:=by
 cases r with
 |ok a=>show g a h
 |er x=>show h
 |bad=>show h
end
abbrev FE:=aL->Res (PV×aL)
abbrev FT:=aL->Res (Bool×aL)
abbrev FA:=aL->Res (G PV×aL)
def EO(K:lD)(E:XK)(t:TE)(f:FE):Prop:=
 ∀(B:bE) (b:Hp) (O:bE) (a:St) (H:Hp) (g:aL) (Q:VK),Rl K B b O a H g->WR K E B b (λr=>∀e v H',Ev O H e H'->Rl K B b e a H' r.2->Z7 K b e a H' r.2 v r.1->Q v H') (f g)->t a H Q
def TTO(K:lD)(E:XK)(t:TT)(f:FT):Prop:=
 ∀(B:bE) (b:Hp) (O:bE) (a:St) (H:Hp) (e:aL) (Q:Bool->Hp->Prop),Rl K B b O a H e->WR K E B b (λr=>∀g H',Ev O H g H'->Rl K B b g a H' r.2->Q r.1 H') (f e)->t a H Q
def AO(K:lD)(E:XK)(t:TA)(f:FA):Prop:=
 ∀(B:bE) (b:Hp) (O:bE) (a:St) (H:Hp) (g:aL) (Q:G V->Hp->Prop),Rl K B b O a H g->WR K E B b (λr=>∀e h H',Ev O H e H'->Rl K B b e a H' r.2->Paired (λv pv=>Z7 K b e a H' r.2 v pv/\j4 pv) h r.1->Q h H') (f g)->t a H Q
inductive RV where
 |fz (d:D)
 |ow (ds:G D)
def RV.pv:RV->PV
 |.fz d=>.fz d
 |.ow ds=>.ow ds
def Fin(O:bE)(K:lD)(H:Hp)(Q:VK):RV->Prop
 |.fz d=>∀v H',XZ H H'->DV O K H' v d->Q v H'
 |.ow ds=>∀p a H',XZ H H'->H p=P->H' p=M (.lst a)->XS (cg O p) K H' a ds->Q (.ref p) H'
def lZ(O:bE)(H:Hp):Prop:=∀a,H a=P->¬O a
section
variable{K:lD}{E:XK}{B O X:bE}{Y H H':Hp}{Z:St}{ρ ρ':aL}{v:V}
def jx(R:Rl K B Y O Z H ρ)(h:∀X v H',Ev O H X H'->Rl K B Y X Z H' ρ->Z7 K Y X Z H' ρ v C.pv->Q v H'):Fin O K H Q C:=by
 cases C with
 |fz d=>show λv H' s f=>h O v H' (Ev.grow s) (R.grow s) f
 |ow ds=>intro p q H' s b e f;show h (cg O p) (.ref p) H' (Ev.add s b) (R.add s b (by rw[e];simp)) #[p,q,W,.inr W,R.afu b,e,f,λi es r z=>?_];let(u,g,a,l,e2,o,n,j,m):=R.slot i _ r;rw[z]at g;ext g;ext e2;rw[b]at j;ext j
theorem Fin.new(hd:XS O K H vs ds)(h:Fin O K H Q (.ow ds)):∀p,H p=P->Q (.ref p) (aW H p (.lst vs)):=λp a=>
 h p vs _ (bz a _) a az (hd.ev (Ev.add (bz a _) a))
theorem Fin.aeq(hd:XS O K H vs ds)(b:lZ O H)(h:Fin O K H Q (.fz (.tuple ds))):∀p,H p=P->Q (.ref p) (aW H p (.tup vs)):=λp a=>
 h (.ref p) _ (bz a _) (.tup #[ZP.of az,λz=>b4 z (b p a)] (hd.ev (Ev.grow (bz a _))))
theorem Fin.at(h:Fin O K H Q (.fz d))(a:DV O K H v d):Q v H:=h v H (XZ.refl H) a
def AB(ρ:aL)(i:Nat):I (I PV)->Res (PV×aL)
 |some (M (.fz d))=>.ok (.fz d,ρ)
 |some (M (.ow _))=>.ok (.pl i,ρ)
 |_=>.bad
def aa(i:Nat):FE:=λρ=>AB ρ i ρ[i]?
def Oh:EO K E (rO i) (aa i):=by
 intro B Y O Z H ρ Q R w;unfold aa at w;cases q:ρ[i]? with
 |none=>rw[q]at w;show w.elim
 |some o=>
  cases o with
  |none=>rw[q]at w;show w.elim
  |some x=>
   rw[q]at w;let(v,a,b):=R.slot i x q;cases x with
   |fz d=>show#[v,a,w O v H .refl R b]
   |ow ds=>show#[v,a,w O v H .refl R a]
   |pl j=>show w.elim
def pC(d:D):FE:=λρ=>.ok (.fz d,ρ)
theorem Gb(h:∀O H,DV O K H v d):EO K E (tC v) (pC d):=λB Y O Z H ρ Q R w=>w O v H .refl R (h O H)
theorem Pv:EO K E (tC (.int i)) (pC (.int i)):=Gb λ_ _=>.int i
theorem Th:EO K E (tC (.bl b)) (pC (.bool b)):=Gb λ_ _=>.bl b
theorem P3:EO K E (tC (.str x)) (pC (.str x)):=Gb λ_ _=>.str x
theorem OL:EO K E (tC .Ye) (pC .none):=Gb λ_ _=>.Ye
def jG(K:lD)(r:R2)(f:D->D->I RV):Prop:=∀(O:bE) (H:Hp) (x y:V) (e a:D) (b:RV) (Q:VK),lZ O H->DX O K H x e->DX O K H y a->f e a=M b->Fin O K H Q b->r x y H Q
def aC(f:D->D->I RV)(c fb:FE):FE:=λρ=>(c ρ).bind λa=>(fb a.2).bind λb=>(Res.Xf (rB b.2 (bq a.1))).bind λh=>(Res.Xf (rB b.2 b.1)).bind λe=>(Res.Xf (f h e)).bind λg=>.ok (g.pv,b.2)
def Mh(t:jG K r f)(c:EO K E ta fa)(u:EO K E tb fb):EO K E (ED r ta tb) (aC f fa fb):=by intro B Y O Z H ρ Q R w;show c B Y O Z H ρ _ R (w.bind.imp λa i P x N e1 F q=>?_);let(J,e2,R2,p):=fC F q;show u B Y J Z N a.2 _ R2 (i.bind.imp λb e I y M e3 g o=>?_);let h:=p.keep (jQ a.1) e3 (ρ':=b.2);let(dx,l,e):=e.Xf;let(A,j,e):=e.Xf;let(T,m,e):=e.Xf;show t I M x y dx A T Q g.od (jg g h l) (jg g o j) m (jx g λG v L e4 C n=>?_);show e G v L (e1.trans (e2.trans (e3.trans e4))) C n
def Uh:D->I Bool
 |.bool b=>M b
 |_=>P
def Nl(h:DX O K H x d)(e:Uh d=M b):x=.bl b:=by ext d<;>ext e;ext h;rfl
def ay(c:FE):aL->Res (Bool×aL):=λρ=>(c ρ).bind λa=>(Res.Xf (rB a.2 a.1)).bind λd=>(Res.Xf (Uh d)).bind λb=>.ok (b,a.2)
def lS(c:EO K E o C):TTO K E (sM o) (ay C):=by intro B Y O Z H ρ Q R w;show c B Y O Z H ρ _ R (w.bind.imp λa e j x l e1 f i=>?_);let(d,g,e):=e.Xf;let(b,h,e):=e.Xf;show#[b,Nl (jg f i g) h,e j l e1 f]
theorem Rt(a:EO K E o C):TTO K E (tB o) (ay C):=lS a
def nQ(b fb:FT):FT:=λρ=>(b ρ).bind λa=>if a.1=S then fb a.2 else .ok (R,a.2)
def Ph(b fb:FT):FT:=λρ=>(b ρ).bind λa=>if a.1=S then .ok (S,a.2)else fb a.2
def wv(b:FT):FT:=λρ=>(b ρ).bind λa=>.ok (!a.1,a.2)
theorem TTO.next(h:TTO K E t f)(R:Rl K B Y O1 Z H1 ρ)(e1:Ev O H O1 H1)(w:WR K E B Y (λr=>∀X H',Ev O H X H'->Rl K B Y X Z H' r.2->Q r.1 H') (f ρ)):t Z H1 Q:=
 h B Y O1 Z H1 ρ Q R (w.imp λr q X H' a b=>q X H' (e1.trans a) b)
theorem EO.next(h:EO K E t f)(R:Rl K B Y O1 Z H1 ρ)(e1:Ev O H O1 H1)(w:WR K E B Y (λr=>∀X v H',Ev O H X H'->Rl K B Y X Z H' r.2->Z7 K Y X Z H' r.2 v r.1->Q v H') (f ρ)):t Z H1 Q:=
 h B Y O1 Z H1 ρ Q R (w.imp λr q X v H' b e a=>q X v H' (e1.trans b) e a)
def KN(l:TTO K E t f)(j:TTO K E u g):TTO K E (Qi t u) (nQ f g):=by
 intro B Y O Z H ρ Q R w;show l B Y O Z H ρ _ R (w.bind.imp λa e m n e1 h=>?_);let(b,i):=a;cases b with
 |true=>show j.next h e1 e
 |false=>show e m n e1 h
def NM(l:TTO K E t f)(j:TTO K E u g):TTO K E (Ut t u) (Ph f g):=by
 intro B Y O Z H ρ Q R w;show l B Y O Z H ρ _ R (w.bind.imp λa e m n e1 h=>?_);let(b,i):=a;cases b with
 |true=>show e m n e1 h
 |false=>show j.next h e1 e
def HG(e:TTO K E t f):TTO K E (Jc t) (wv f):=by intro B Y O Z H ρ Q R w;show e B Y O Z H ρ _ R (w.bind.imp λa b h i e1 g=>b h i e1 g)
def d4:FT:=λρ=>.ok (S,ρ)
theorem GS:TTO K E FJ d4:=λB Y O Z H ρ Q R w=>w O H .refl R
def yh(b fb:FE):FE:=λρ=>(ay b ρ).bind λa=>if a.1=S then fb a.2 else .ok (.fz (.bool R),a.2)
def NP(d:EO K E C fa)(i:EO K E o fb):EO K E (Dk C o) (yh fa fb):=by
 intro B Y O Z H ρ Q R w;show lS d B Y O Z H ρ (λc e=>if c=S then o Z e Q else Q (.bl V8) e) R (w.bind.imp λa f j e e1 g=>?_);let(b,h):=a;cases b with
 |true=>show i.next g e1 f
 |false=>show f j _ e e1 g (.bl V8)
def MG(c:FT)(b fb:FE):FE:=λρ=>(c ρ).bind λa=>if a.1=S then b a.2 else fb a.2
def Rk(h:TTO K E t c)(d:EO K E C fa)(i:EO K E o fb):EO K E (S4 t C o) (MG c fa fb):=by
 intro B Y O Z H ρ Q R w;show h B Y O Z H ρ _ R (w.bind.imp λa e j l e1 f=>?_);let(b,g):=a;cases b with
 |true=>show d.next f e1 e
 |false=>show i.next f e1 e
def kS(f g:D->D->I RV)(k fb d:FE):FE:=λρ=>(k ρ).bind λa=>(fb a.2).bind λb=>(Res.Xf (rB b.2 (bq a.1))).bind λl=>(Res.Xf (rB b.2 (bq b.1))).bind λi=>
 (Res.Xf (f l i)).bind λj=>match j with
  |.fz (.bool S)=>(d b.2).bind λc=>(Res.Xf (rB c.2 (bq b.1))).bind λe=>(Res.Xf (rB c.2 c.1)).bind λh=>(Res.Xf (g e h)).bind λj=>.ok (j.pv,c.2)
  |.fz (.bool R)=>.ok (.fz (.bool R),b.2)
  |_=>.bad
def En(D:jG K r f)(p:jG K r' g)(ha:EO K E ta fa)(hb:EO K E tb fb)(hc:EO K E tc fc):EO K E (xM r r' ta tb tc) (kS f g fa fb fc):=by
 intro B Y O Z H ρ Q R w;show ha B Y O Z H ρ _ R (w.bind.imp λa G O1 x H1 e1 R1 U=>?_);let(O2,e2,R2,T):=fC R1 U;show hb B Y O2 Z H1 a.2 _ R2 (G.bind.imp λb e O3' y F q u n=>?_);let(i,e3,l,A):=fC u n;let e3:=q.trans e3;let o:=T.keep (jQ a.1) e3 (ρ':=b.2);let(dx,L,e):=e.Xf;let(dy,J,e):=e.Xf;let(rv,N,e):=e.Xf;show D i F x y dx dy rv _ l.od (jg l o L) (jg l A J) N ?_;cases rv with
 |ow ds=>show e.elim
 |fz d=>
  intro v H' s dv;cases dv with
  |bl k=>
   show#[k,W,?_];let C:=l.grow s;let e4:Ev i F i H':=Ev.grow s;cases k with
   |false=>show e i _ H' (e1.trans (e2.trans (e3.trans e4))) C (.bl V8)
   |true=>rw[ax W];show hc B Y i Z H' b.2 _ C (WR.imp (WR.bind e) λc h O5 z H5 e5 j S=>?_);let(t,m,h):=h.Xf;let(dz,I,h):=h.Xf;let(rv,M,h):=h.Xf;show p O5 H5 y z t dz rv Q j.od (jg j (A.keep (jQ b.1) (e4.trans e5)) m) (jg j S I) M (jx j λO6 v H6 e6 R6 P=>?_);show h O6 v H6 (e1.trans (e2.trans (e3.trans (e4.trans (e5.trans e6))))) R6 P
  |_=>show e.elim
def aq:FA:=λρ=>.ok ([],ρ)
def ad(c:FE)(e:FA):FA:=λρ=>(c ρ).bind λa=>(e a.2).bind λb=>.ok (bq a.1::b.1,b.2)
theorem Qw:AO K E ja aq:=λB Y O Z H ρ Q R w=>w O [] H .refl R .nil
def Lj(c:EO K E C fa)(l:AO K E tr fr):AO K E (fV C tr) (ad fa fr):=by intro B Y O Z H ρ Q R w;show c B Y O Z H ρ _ R (w.bind.imp λa g t x r e1 n j=>?_);let(p,e2,R2,i):=fC n j;show l B Y p Z r a.2 _ R2 (g.bind.imp λb f o e q e3 m h=>?_);show f o (x::e) q (e1.trans (e2.trans e3)) m (.cons #[i.keep (jQ a.1) e3,jQ a.1] h)
def sd(ρ:aL):G PV->I (G D)
 |[]=>M []
 |p::r=>match rB ρ p with
  |some d=>(match sd ρ r with
   |some ds=>M (d::ds)
   |none=>P)
  |none=>P
theorem uW(R:Rl K B Y O Z H ρ):∀{f:G V} {c:G PV} {ds:G D},Paired (λv pv=>Z7 K Y O Z H ρ v pv/\j4 pv) f c->sd ρ c=M ds->Paired (DX O K H) f ds
 |_,_,_,.nil,e=>by ext e;show .nil
 |_,_,_,.cons (l₂:=c) (b:=p) h t,e=>by
  unfold sd at e;cases q:rB ρ p with
  |none=>simp_all
  |some d=>
   rw[q]at e;dsimp only at e;cases g:sd ρ c with
   |none=>simp_all
   |some a=>rw[g]at e;ext e;show .cons (jg R h.1 q) (uW R t g)
def nV(ρ:aL):G PV->I (G D×aL)
 |[]=>M ([],ρ)
 |p::r=>match wb ρ p with
  |some (d,b)=>(match nV b r with
   |some (ds,a)=>M (d::ds,a)
   |none=>P)
  |none=>P
theorem re:∀{k:G V} {c:G PV} {ds:G D} {O:bE} {ρ ρ':aL},Rl K B Y O Z H ρ->Paired (λv pv=>Z7 K Y O Z H ρ v pv/\j4 pv) k c->nV ρ c=M (ds,ρ')->∃X,Ev O H X H/\Rl K B Y X Z H ρ'/\XS X K H k ds
 |_,_,_,O,_,_,A,.nil,e=>by ext e;show#[O,.refl,A,.nil]
 |_,_,_,O,ρ,ρ',A,.cons (l₁:=k) (l₂:=c) (b:=p) h t,e=>by
  unfold nV at e;cases q:wb ρ p with
  |none=>simp_all
  |some r=>
   let(d,a):=r;rw[q]at e;dsimp only at e;cases C:nV a c with
   |none=>simp_all
   |some j=>let(m,g):=j;rw[C]at e;ext e;let(y,e1,u,o):=sA A h.1 q;let i:Paired (λv pv=>Z7 K Y y Z H a v pv/\j4 pv) k c:=Paired.ZF t λv pv #[l,f]=>#[l.keep f e1,f];let(w,e2,R2,n):=re u i C;show#[w,e1.trans e2,R2,.cons (o.ev e2) n]
abbrev FN:=G D->Res RV
def y1(K:lD)(n:Nat)(F:FN):Sp:=λb H Q E=>b.length=n/\∃(B:bE) (ds:G D),(∀a,B a->H a≠P)/\XS B K H b ds/\WR K E B H (Fin B K H Q) (F ds)
def aY(c:FA):FE:=λρ=>(c ρ).bind λa=>(Res.Xf (nV a.2 a.1)).bind λb=>if b.1.length<=1000 then .ok (.fz (.tuple b.1),b.2)else .bad
def cZ(c:FA):FE:=λρ=>(c ρ).bind λa=>(Res.Xf (nV a.2 a.1)).bind λb=>if b.1.length<=1000 then .ok (.ow b.1,b.2)else .bad
theorem yI(h:n<=1000):n<=Wm:=WU h ()
def QM(c:AO K E C fa):EO K E (KP C) (aY fa):=by
 intro B Y O Z H ρ Q R w;show c B Y O Z H ρ _ R (w.bind.imp λa g p t r e1 l i=>?_);let((ds,f),q,b):=g.Xf;let(o,e2,R2,e):=re l i q;dsimp only at b;by_cases hn:ds.length<=1000
 .rw[ax hn]at b;show#[by rw[e.length];show yI hn,Fin.aeq e R2.od (jx R2 λm v n e3 j h=>b m v n (e1.trans (e2.trans e3)) j h)]
 .rw[bb hn]at b;show b.elim
def NZ(c:AO K E C fa):EO K E (OD C) (cZ fa):=by
 intro B Y O Z H ρ Q R w;show c B Y O Z H ρ _ R (w.bind.imp λa g p t r e1 l i=>?_);let((ds,f),q,b):=g.Xf;let(o,e2,R2,e):=re l i q;dsimp only at b;by_cases hn:ds.length<=1000
 .rw[ax hn]at b;show#[by rw[e.length];show yI hn,Fin.new e (jx R2 λm v n e3 j h=>b m v n (e1.trans (e2.trans e3)) j h)]
 .rw[bb hn]at b;show b.elim
def B2(K:lD)(r:G V->Hp->VK->Prop)(f:G D->I RV):Prop:=∀(O:bE) (H:Hp) (xs:G V) (ds:G D) (a:RV) (Q:VK),lZ O H->Paired (DX O K H) xs ds->f ds=M a->Fin O K H Q a->r xs H Q
def gQ(f:G D->I RV)(c:FA):FE:=λρ=>(c ρ).bind λa=>(Res.Xf (sd a.2 a.1)).bind λds=>(Res.Xf (f ds)).bind λb=>.ok (b.pv,a.2)
def Mc(l:B2 K r f)(c:AO K E C fa):EO K E (De r C) (gQ f fa):=by intro B Y O Z H ρ Q R w;show c B Y O Z H ρ _ R (w.bind.imp λa g o u t e1 e j=>?_);let(ds,q,b):=g.Xf;let(y,h,b):=b.Xf;show l o t u ds y Q e.od (uW e j q) h (jx e λn v p e4 m i=>b n v p (e1.trans e4) m i)
def T4:D->I Int
 |.int i=>M i
 |_=>P
def PK(h:DX O K H x d)(e:T4 d=M i):x=.int i:=by ext d<;>ext e;ext h;rfl
abbrev FO:=aL->Res (I Int×aL)
def SD(K:lD)(E:XK)(t:TO)(f:FO):Prop:=
 ∀(B:bE) (Y:Hp) (O:bE) (Z:St) (H:Hp) (ρ:aL) (Q:I Int->Hp->Prop),Rl K B Y O Z H ρ->WR K E B Y (λr=>∀X H',Ev O H X H'->Rl K B Y X Z H' r.2->Q r.1 H') (f ρ)->t Z H Q
def rb:FO:=λρ=>.ok (P,ρ)
def ko(b:FE):FO:=λρ=>(b ρ).bind λa=>(Res.Xf (rB a.2 a.1)).bind λd=>(Res.Xf (T4 d)).bind λi=>.ok (M i,a.2)
theorem Ee:SD K E Ad rb:=λB Y O Z H ρ Q R w=>w O H .refl R
def Fs(c:EO K E o C):SD K E (MQ o) (ko C):=by intro B Y O Z H ρ Q R w;show c B Y O Z H ρ _ R (w.bind.imp λa f j x l e1 e h=>?_);let(d,q,b):=f.Xf;let(i,g,b):=b.Xf;show#[i,PK (jg e h q) g,b j l e1 e]
def RG(K:lD)(r:V->I Int->I Int->Hp->VK->Prop)(f:D->I Int->I Int->I RV):Prop:=∀(O:bE) (H:Hp) (x:V) (lo b:I Int) (e:D) (a:RV) (Q:VK),lZ O H->DX O K H x e->f e lo b=M a->Fin O K H Q a->r x lo b H Q
def J5(f:D->I Int->I Int->I RV)(c:FE)(b e:FO):FE:=λρ=>(c ρ).bind λa=>(b a.2).bind λl=>(e l.2).bind λh=>(Res.Xf (rB h.2 (bq a.1))).bind λi=>(Res.Xf (f i l.1 h.1)).bind λg=>.ok (g.pv,h.2)
def Rh(q:RG K r f)(c:EO K E ta fa)(t:SD K E tl fl)(u:SD K E th fh):EO K E (UU r ta tl th) (J5 f fa fl fh):=by intro B Y O Z H ρ Q R w;show c B Y O Z H ρ _ R (w.bind.imp λa i S x P e1 C p=>?_);let(J,e2,R2,o):=fC C p;show t B Y J Z P a.2 _ R2 (i.bind.imp λl g I N e3 A=>?_);show u B Y I Z N l.2 _ A (g.bind.imp λh b G M e4 e=>?_);let(dx,j,b):=b.Xf;let(T,m,b):=b.Xf;show q G M x l.1 h.1 dx T Q e.od (jg e (o.keep (jQ a.1) (e3.trans e4)) j) m (jx e λF v L e5 y n=>b F v L (e1.trans (e2.trans (e3.trans (e4.trans e5)))) y n)
end
def uF{l:G α}(h:(l.set i x)[i]?=M y):i<l.length:=by
 rw[Xs]at h;rw[ax W]at h;split at h
 .assumption
 .ext h
section
variable{K:lD}{E:XK}{B O U:bE}{Z H H':Hp}{Y:St}{ρ ρ':aL}{v:V}
def Rl.mut{i:Nat}{ds g:b5 D}{a:Wd}{f:b5 V}(R:Rl K B Z O Y H ρ)(c:ρ[i]?=cL (cL (.ow ds)))(J:Y[i]?=cL (cL (.ref a)))(L:O a)(M:Z a=Ld)(hd:XS O K H f g):
  Rl K B Z O Y (aW H a (.lst f)) (ρ.set i (cL (.ow g))):=by
 let ev:Ev O H O (aW H a (.lst f)):=Ev.mut L _;show#[λb o e=>by rw[ar (bw e M)];show R.same b o e,R.bo,R.bd,λb m=>?_,by rw[Xp];show R.len,λj x l=>?_,λj k xs G w hj X A t=>?_]
 .by_cases e:b=a
  .rw[e,az]at m;ext m
  .rw[ar e]at m;show R.od b m
 .rcases bP l with⟨rfl,ee⟩|⟨r,l⟩
  .ext ee;show#[_,J,a,f,W,L,M,az,hd.ev ev]
  .let(u,I,q):=R.slot j x l
   show#[u,I,?_];cases x with
   |fz d=>show DV.ev ev q
   |pl i=>show q
   |ow xs=>let(b,N,rfl,T,S,Q,P):=q;let F:b≠a:=λz=>r (R.one j i xs ds (.ref a) l c (by rw[I,z]) J);show#[b,N,W,T,S,by rw[ar F];show Q,P.ev ev]
 .let own:∀{j:Nat} {xs:b5 D},(ρ.set i (cL (.ow g)))[j]?=cL (cL (.ow xs))->∃G,ρ[j]?=cL (cL (.ow G)):=λ{j xs} h=>by
   rcases bP h with⟨rfl,_⟩|⟨_,h⟩
   .show#[_,c]
   .show#[_,h]
  let(p,C):=own hj;let(n,y):=own X;show R.one j k p n w C y A t
theorem sS(h:n<1000000):n<Wm:=WC h ()
def xB:I (I PV)->I (G D)
 |some (M (.ow ds))=>M ds
 |_=>P
def oQ(h:xB o=M ds):o=M (M (.ow ds)):=by
 unfold xB at h;split at h
 .ext h;rfl
 .ext h
def Cz(i:Nat)(c:FE):FE:=λρ=>(Res.Xf (xB ρ[i]?)).bind λ_=>(c ρ).bind λa=>(Res.Xf (wb a.2 a.1)).bind λb=>(Res.Xf (xB b.2[i]?)).bind λds=>
 if ds.length<1000000 then .ok (.fz .none,b.2.set i (M (.ow (ds++[b.1]))))else .bad
def Pf(p:EO K E te fe):EO K E (OU K "list" tL (rO i) (fV te ja)) (Cz i fe):=by
 intro B Z O Y H ρ Q R w;let(u,n,w):=w.Xf;let(v,j,a,T,rfl,J,I,q,G):=R.slot i _ (oQ n);show#[_,j,.inl #[W,_,Z1.of q],?_];show p B Z O Y H ρ _ R (w.bind.imp λb e M y N e1 A o=>?_);let((d,l),m,e):=e.Xf;let(C,e2,R2,t):=sA A o m;let(ds,f,e):=e.Xf;let f:=oQ f;let(F,k1,L,g,r,k2,k3,k4,k5):=R2.slot i _ f;subst r;rw[j]at k1;ext k1;dsimp only at e;by_cases h:ds.length<1000000
 .rw[ax h]at e;show#[a,g,y,W,W,k4,sS (by rw[k5.length];show h),?_];show e C .Ye _ (e1.trans (e2.trans (Ev.mut k2 _))) (R2.mut f j k2 k3 (k5.append (.cons t .nil))) .Ye
 .rw[bb h]at e;show e.elim
abbrev FG:=PV->aL->Res aL
abbrev Q5:=G D->aL->Res aL
def GO(K:lD)(E:XK)(g:TG)(f:FG):Prop:=
 ∀(B:bE) (Z:Hp) (O:bE) (Y:St) (H:Hp) (ρ:aL) (v:V) (pv:PV) (Q:St->Hp->Prop),Rl K B Z O Y H ρ->Z7 K Z O Y H ρ v pv->WR K E B Z (λρ'=>∀U a H',Ev O H U H'->Rl K B Z U a H' ρ'->Q a H') (f pv ρ)->g v Y H Q
def Ro(K:lD)(E:XK)(g:yf)(f:Q5):Prop:=
 ∀(B:bE) (Z:Hp) (O:bE) (Y:St) (H:Hp) (ρ:aL) (b:G V) (ds:G D) (Q:St->Hp->Prop),Rl K B Z O Y H ρ->XS O K H b ds->WR K E B Z (λρ'=>∀U a H',Ev O H U H'->Rl K B Z U a H' ρ'->Q a H') (f ds ρ)->g b Y H Q
def Rl.ahH(R:Rl K B Z O Y H ρ)(h:DV O K H v d):Rl K B Z O (Y.set i (M v)) H (ρ.set i (M (.fz d))):=by
 show#[R.same,R.bo,R.bd,R.od,by rw[Xp,Xp];show R.len,λj x f=>?_,λj k xs o w m l b a=>?_]
 .rcases bP f with⟨rfl,e⟩|⟨g,f⟩
  .ext e;let:=uF f;show#[v,by rw[Xs,ax W,ax (by rw[R.len];show this)],h]
  .let(u,t,r):=R.slot j x f;show#[u,by rw[Xs,bb (λz=>g z.symm)];show t,r]
 .rcases bP m with⟨rfl,n⟩|⟨q,m⟩
  .ext n
  .rcases bP l with⟨rfl,n⟩|⟨p,l⟩
   .ext n
   .rw[Xs,bb (λz=>q z.symm)]at b;rw[Xs,bb (λz=>p z.symm)]at a;show R.one j k xs o w m l b a
def Rl.aj0(R:Rl K B Z O Y H ρ)(h:Z7 K Z O Y H ρ v (.ow ds)):Rl K B Z O (Y.set i (cL v)) H (ρ.set i (cL (.ow ds))):=by
 let(a,N,rfl,J,I,G,F,q):=h;show#[R.same,R.bo,R.bd,R.od,by rw[Xp,Xp];show R.len,λj x m=>?_,λj k xs p w C l f b=>?_]
 .rcases bP m with⟨rfl,e⟩|⟨o,m⟩
  .ext e;let:=uF m;show#[.ref a,by rw[Xs,ax W,ax (by rw[R.len];show this)],a,N,W,J,I,G,F]
  .let(u,y,t):=R.slot j x m;show#[u,by rw[Xs,bb (λz=>o z.symm)];show y,t]
 .rcases bP C with⟨rfl,M⟩|⟨r,g⟩
  .rcases bP l with⟨rfl,L⟩|⟨n,l⟩
   .rfl
   .rw[Xs,bb (λz=>n z.symm)]at b
    rcases bP f with⟨_,e⟩|⟨z,_⟩
    .ext e;show b4 b (q k p l)
    .show b4 W z
  .let A:=g
   rw[Xs,bb (λz=>r z.symm)]at f;rcases bP l with⟨rfl,M⟩|⟨n,l⟩
   .rcases bP b with⟨_,e⟩|⟨z,_⟩
    .ext e;show b4 f (q j xs g)
    .show b4 W z
   .rw[Xs,bb (λz=>n z.symm)]at b;show R.one j k xs p w g l f b
def gN(i:Nat):FG:=λpv ρ=>match pv with
 |.ow ds=>.ok (ρ.set i (M (.ow ds)))
 |.fz d=>.ok (ρ.set i (M (.fz d)))
 |.pl j=>(Res.Xf (wb ρ (.pl j))).bind λb=>.ok (b.2.set i (M (.fz b.1)))
def uu:GO K E (mY i) (gN i):=by
 intro B Z O Y H ρ v pv Q R p w;cases pv with
 |ow ds=>show w O _ H .refl (R.aj0 p)
 |fz d=>show w O _ H .refl (R.ahH p)
 |pl j=>let((d,a),q,w):=WR.Xf (show WR K E B Z _ ((Res.Xf (wb ρ (.pl j))).bind λb=>.ok (b.2.set i (M (.fz b.1))))from w);let(f,e2,R2,e):=sA R p q;show w f _ H e2 (R2.ahH e)
def IK:Q5:=λds ρ=>match ds with
 |[]=>.ok ρ
 |_=>.bad
def xu(f:FG)(g:Q5):Q5:=λds ρ=>match ds with
 |[]=>.bad
 |d::r=>(f (.fz d) ρ).bind λa=>g r a
def NB:Ro K E Kf IK:=by
 intro B Z O Y H ρ b ds Q R a w;cases a with
 |nil=>show#[W,w O Y H .refl R]
 |cons _ _=>show w.elim
def Ib(n:GO K E t f)(m:Ro K E u g):Ro K E (AF t u) (xu f g):=by
 intro B Z O Y H ρ L ds Q R o w;cases o with
 |nil=>show w.elim
 |cons l j=>rename_i v L d ds;show#[_,_,W,n B Z O Y H ρ _ (.fz d) _ R l (WR.imp (WR.bind w) λe i y b C e1 p=>?_)];show m B Z y b C e _ _ Q p (j.ev e1) (i.imp λh q r a A e2 R2=>q r a A (e1.trans e2) R2)
def UK:D->I (G D)
 |.tuple ds=>M ds
 |_=>P
def Hb(h:DX O K H x d)(e:UK d=M ds):∃a xs,x=.ref a/\aaj O K H a xs/\XS O K H xs ds:=by
 ext d<;>ext e;cases h with
 |tup h b=>show#[_,_,W,h,b]
def gT(n:Nat)(f:Q5):FG:=λpv ρ=>(Res.Xf (rB ρ pv)).bind λd=>(Res.Xf (UK d)).bind λds=>if ds.length=n then f ds ρ else .bad
def OJ(h:Ro K E t f):GO K E (Lr K n t) (gT n f):=by
 intro B Z O Y H ρ v pv Q R p w;let(d,g,w):=w.Xf;let(ds,e,w):=w.Xf;let(a,xs,rfl,i,b):=Hb (jg R p g) e;by_cases hn:ds.length=n
 .rw[ax hn]at w;show#[a,xs,W,i.1,b.length.trans hn,h B Z O Y H ρ xs ds Q R b w]
 .rw[bb hn]at w;show w.elim
inductive Fl where
 |nx (ρ:aL)
 |rt (rv:RV)
 |bk (ρ:aL)
 |ct (ρ:aL)
abbrev FS:=aL->Res Fl
def adL(K:lD)(B:bE)(Z:Hp)(O:bE)(H:Hp)(D:Ends):Fl->Prop
 |.nx ρ'=>∀U a H',Ev O H U H'->Rl K B Z U a H' ρ'->D.nx a H'
 |.bk ρ'=>∀U a H',Ev O H U H'->Rl K B Z U a H' ρ'->D.bk a H'
 |.ct ρ'=>∀U a H',Ev O H U H'->Rl K B Z U a H' ρ'->D.ct a H'
 |.rt b=>Fin B K Z D.rt b
def SO(K:lD)(E:XK)(t:TS)(g:FS):Prop:=
 ∀(B:bE) (Z:Hp) (O:bE) (Y:St) (H:Hp) (ρ:aL) (D:Ends),Rl K B Z O Y H ρ->WR K E B Z (adL K B Z O H D) (g ρ)->t D Y H
def adL.ev{D:Ends}(e:Ev O H O1 H1)(h:adL K B Z O H D fl):adL K B Z O1 H1 D fl:=by
 cases fl with
 |nx ρ'=>show λU a H' b f=>h U a H' (e.trans b) f
 |bk ρ'=>show λU a H' b f=>h U a H' (e.trans b) f
 |ct ρ'=>show λU a H' b f=>h U a H' (e.trans b) f
 |rt g=>show h
def eN:FS:=λρ=>.ok (.nx ρ)
def bH(f g:FS):FS:=λρ=>(f ρ).bind λa=>match a with
 |.nx b=>g b
 |a=>.ok a
def ny(f:FE):FS:=λρ=>(f ρ).bind λa=>.ok (.nx a.2)
def eA(f:FE)(g:FG):FS:=λρ=>(f ρ).bind λa=>(g a.1 a.2).bind λb=>.ok (.nx b)
def lh(c:FT)(f g:FS):FS:=λρ=>(c ρ).bind λa=>if a.1=S then f a.2 else g a.2
def BS(ρ:aL):PV->I RV
 |.fz d=>M (.fz d)
 |.ow ds=>M (.ow ds)
 |.pl i=>match ρ[i]? with
  |some (M (.fz d))=>M (.fz d)
  |some (M (.ow ds))=>M (.ow ds)
  |_=>P
def dU(f:FE):FS:=λρ=>(f ρ).bind λa=>(Res.Xf (BS a.2 a.1)).bind λb=>.ok (.rt b)
theorem Ku:SO K E Eb eN:=λB Z O Y H ρ D R w=>w O Y H .refl R
def Ot(j:SO K E t f)(i:SO K E u g):SO K E (Eo t u) (bH f g):=by
 intro B Z O Y H ρ D R w;show j B Z O Y H ρ {D with nx:=u D} R (WR.imp (WR.bind w) λh b=>?_);cases h with
 |nx a=>show λm e n e1 l=>i B Z m e n a D l (WR.imp b λh q=>q.ev e1)
 |rt o=>show b
 |bk a=>show b
 |ct a=>show b
def Lk(h:EO K E t f):SO K E (sO t) (ny f):=by intro B Z O Y H ρ D R w;show h B Z O Y H ρ _ R (w.bind.imp λa b g x i e1 e j=>b g Y i e1 e)
def x3(h:EO K E t f)(m:GO K E g C):SO K E (wR t g) (eA f C):=by intro B Z O Y H ρ D R w;show h B Z O Y H ρ _ R (w.bind.imp λa j p x r e1 n l=>?_);show m B Z p Y r a.2 x a.1 _ n l (j.bind.imp λe i o b q e2 R2=>i o b q (e1.trans e2) R2)
def S7(m:TTO K E c C)(o:SO K E t f)(n:SO K E u g):SO K E (Ia c t u) (lh C f g):=by
 intro B Z O Y H ρ D R w;show m B Z O Y H ρ _ R (w.bind.imp λa h j l e1 i=>?_);let(b,e):=a;cases b with
 |true=>show o B Z j Y l e D i (WR.imp h λp q=>q.ev e1)
 |false=>show n B Z j Y l e D i (WR.imp h λp q=>q.ev e1)
def Os{pv:PV}(R:Rl K B Z O Y H ρ)(p:Z7 K Z O Y H ρ v pv)(e:BS ρ pv=M C)(w:Fin B K Z Q C):Q v H:=by
 let ow:∀{a:J} {A:G V} {ds:G D},O a->Z a=P->H a=M (.lst A)->XS O K H A ds->Fin B K Z Q (.ow ds)->Q (.ref a) H:=λ{a A ds} m l g f w=>
  w a A H R.same l g (f.ev (Ev.sub λb z=>z.elim (R.bo b) λe=>by simp_all))
 let fz:∀{d:D},DV O K H v d->Fin B K Z Q (.fz d)->Q v H:=λ{d} h w=>w v H R.same (h.ev (Ev.sub R.bo));cases pv with
 |fz d=>ext e;show fz p w
 |ow ds=>ext e;let(a,A,rfl,m,l,g,f,y):=p;show ow m l g f w
 |pl i=>
  let t:=p;unfold BS at e;dsimp only at e;cases q:ρ[i]? with
  |none=>simp_all
  |some o=>
   cases o with
   |none=>simp_all
   |some x=>
    let(u,r,n):=R.slot i x q;rw[t]at r;ext r;rw[q]at e;cases x with
    |fz d=>ext e;show fz n w
    |ow ds=>ext e;let(a,A,rfl,m,l,g,f):=n;show ow m l g f w
    |pl j=>show n.elim
def Ow(h:EO K E t f):SO K E (DH t) (dU f):=by intro B Z O Y H ρ D R w;show h B Z O Y H ρ _ R (w.bind.imp λa b i x j e1 g e=>?_);let(l,q,b):=b.Xf;show Os g e q b
def xx(K:lD)(J:It)(O:bE)(H:Hp)(ds:G D):Prop:=∀U H',Ev O H U H'->lZ U H'->
 (∀i,i<ds.length->J.go i H'/\∀x a,J.yld i H' x a->XZ H' a/\∃d,ds[i]?=M d/\DV U K a x d)/\J.stop ds.length H'
abbrev FI:=aL->Res (G D×aL)
def IO(K:lD)(E:XK)(b:TI)(e:FI):Prop:=
 ∀(B:bE) (Z:Hp) (O:bE) (Y:St) (H:Hp) (ρ:aL) (a:It->Hp->Prop),Rl K B Z O Y H ρ->WR K E B Z (λr=>∀U J H',Ev O H U H'->Rl K B Z U Y H' r.2->xx K J U H' r.1->a J H') (e ρ)->b Y H a
def nK(gt:FG)(b:FS):G D->FS
 |[],ρ=>.ok (.nx ρ)
 |d::r,ρ=>(gt (.fz d) ρ).bind λa=>(b a).bind λe=>match e with
  |.nx f=>nK gt b r f
  |.ct f=>nK gt b r f
  |.bk f=>.ok (.nx f)
  |.rt g=>.ok (.rt g)
def rE(e:FI)(gt:FG)(b:FS):FS:=λρ=>(e ρ).bind λa=>nK gt b a.1 a.2
def NW(c:IO K E wi fi)(k:GO K E g gt)(s:SO K E tb b):SO K E (Jx wi g tb) (rE fi gt b):=by
 intro B Z O Y H ρ D R w;show c B Z O Y H ρ _ R (w.bind.imp λa N G J T e1 S Q=>?_);let(ds,F):=a;dsimp only at N Q S;show#[λi m f H'=>m=ds.length - i/\i<=ds.length/\∃O2 ρ2,Ev G T O2 H'/\Rl K B Z O2 f H' ρ2/\WR K E B Z (adL K B Z O H D) (nK gt b (ds.drop i) ρ2),#[_,W,W0 _,G,F,.refl,S,N],?_];rintro i m n M ⟨rfl,c,O2,ρ2,e2,R2,w2⟩;let(go,o):=Q O2 M e2 R2.od;by_cases u:i<ds.length
 .let(g1,g2):=go i u
  show .inr #[g1,λf H'=>i+1<=ds.length/\∃O2 ρ2,Ev G T O2 H'/\Rl K B Z O2 f H' ρ2/\WR K E B Z (adL K B Z O H D) (nK gt b (ds.drop (i+1)) ρ2),λf H' #[h1,h2]=>#[ds.length - (i+1),by ext,W,h1,h2],λx L y=>?_];let(P,d,hd,dv):=g2 x L y;let ed:ds.drop i=d::ds.drop (i+1):=by let(_,q):=Wb.mp hd;rw[YN u,q]
  rw[ed]at w2;let e3:Ev O2 M O2 L:=Ev.grow P;show k B Z O2 n L ρ2 x (.fz d) _ (R2.grow P) dv (WR.imp (WR.bind w2) λC X O4 A H4 e4 R4=>?_);let l:=e2.trans (e3.trans e4);show s B Z O4 A H4 C _ R4 (WR.imp (WR.bind X) λfl t=>?_);cases fl with
  |nx h=>show λr j I e5 p=>#[u,r,h,l.trans e5,p,t]
  |ct h=>show λr j I e5 p=>#[u,r,h,l.trans e5,p,t]
  |bk h=>show λr j I e5 p=>t r j I (e1.trans (l.trans e5)) p
  |rt rv=>show t
 .let e:i=ds.length:=by ext
  subst e;rw[X5 (Wg _)]at w2;show .inl #[o,w2 O2 n M (e1.trans e2) R2]
def eJ:D->I (G D)
 |.tuple ds=>M ds
 |.list ds=>M ds
 |_=>P
def Hr(K:lD)(e:TE):TI:=λY H R=>e Y H λx b=>∃a,x=.ref a/\(((∃xs,Z1 K b a xs)/\R (UD K a) b)\/((∃xs,ZP K b a xs)/\R (Uy K a) b))
def DZ(y:PE X l C):PI X tg l (Hr X.K C):=by
 intro i s Y H R I h;show bJ (y i s Y H _ I h) λv g a=>?_;let(x,r,f,t,u):=a;let(a,e,q):=u;subst e;ext t;rcases q with⟨⟨xs,j⟩,q⟩|⟨⟨xs,j⟩,q⟩
 .let(n,A,p,w):=f.list j
  show ZI p.isList ?_;show#[g.heap.objs.size,[g.heap.objs.size],_,_,r,W,f.kept λb o e=>b9 _ e,BH a _,#[_,ck _ W,W,W],λb m=>?_,q];let e:b=g.heap.objs.size:=by simpa using m
  subst e;show f.acE (Wg _) (f.Xw.fresh (Wg _))
 .let(n,A,p,w):=f.tuple j
  show aaN (show g.heap.IsTuple a n.toArray from p) ?_;show#[g.heap.objs.size,[g.heap.objs.size],_,_,r,W,f.kept λb o e=>b9 _ e,ye a _,#[_,ck _ W,W,W],λb m=>?_,q];let e:b=g.heap.objs.size:=by simpa using m
  subst e;show f.acE (Wg _) (f.Xw.fresh (Wg _))
def zK(h:abg O K H a xs)(hd:XS O K H xs ds):xx K (UD K a) O H ds:=by intro U H' e n;let f:=h.ev e;let b:=hd.ev e;show#[λi p=>?_,#[xs,f.1.sq,by rw[hd.length];show Wg _]];let(x,l,_):=b.get (Ww p);show#[#[xs,x,f.1.sq,l],?_];rintro y m ⟨rfl,o⟩;let(d,j,g):=b.agg (o xs f.1.sq);show#[XZ.refl _,d,j,g]
def Dq(h:aaj O K H a xs)(hd:XS O K H xs ds):xx K (Uy K a) O H ds:=by intro U H' e n;let f:=h.ev e;let b:=hd.ev e;show#[λi p=>?_,#[xs,f.1,by rw[hd.length];show Wg _]];let(x,l,_):=b.get (Ww p);show#[#[xs,x,f.1,l],?_];rintro y m ⟨rfl,o⟩;let(d,j,g):=b.agg (o xs f.1);show#[XZ.refl _,d,j,g]
def im(c:FE):FI:=λρ=>(c ρ).bind λa=>(Res.Xf (wb a.2 a.1)).bind λb=>(Res.Xf (eJ b.1)).bind λds=>.ok (ds,b.2)
def P5(h:EO K E C fe):IO K E (Hr K C) (im fe):=by
 intro B Z O Y H ρ o R w;show h B Z O Y H ρ _ R (w.bind.imp λa b p x i e1 n l=>?_);let((d,j),q,b):=b.Xf;let(g,e2,R2,m):=sA n l q;let(ds,e,b):=b.Xf;dsimp only at e;cases m with
 |tup h f=>ext e;show#[_,W,.inr #[#[_,h.1],b g _ i (e1.trans e2) R2 (Dq h f)]]
 |lst h f=>ext e;show#[_,W,.inl #[#[_,h.1.sq],b g _ i (e1.trans e2) R2 (zK h f)]]
 |_=>ext e
def fU(lo:Int)(n:Nat):G D:=(WK n).map λ(k:Nat)=>.int (lo+(k:Int))
def EZ:xx K (TX lo n) O H (fU lo n):=by
 intro U H' e f;let a:(fU lo n).length=n:=by ext fU;simp_all
 show#[λi g=>?_,by show n<=_;rw[a];show Wg _];rw[a]at g;show#[g,?_];rintro x b ⟨rfl,rfl⟩;show#[XZ.refl _,.int (lo+i),by ext fU;simp_all,.int _]
def j9(i:Int):Prop:= -(2^62)<=i/\i<2^62
noncomputable instance(i:Int):Decidable (j9 i):=by ext j9;infer_instance
def kF:G D->I (G D)
 |[.int j]=>if j9 j then M (fU 0 j.toNat)else P
 |_=>P
def pL(f:G D->I (G D))(b:FA):FI:=λρ=>(b ρ).bind λa=>(Res.Xf (sd a.2 a.1)).bind λds=>(Res.Xf (f ds)).bind λxs=>.ok (xs,a.2)
def Kn(h:AO K E C fa):IO K E (LM C) (pL kF fa):=by
 intro B Z O Y H ρ r R w;show h B Z O Y H ρ _ R (w.bind.imp λa e o t p e1 g l=>?_);let(ds,q,e):=e.Xf;let(xs,b,e):=e.Xf;let i:=uW g l q;unfold kF at b;split at b
 .rename_i j
  split at b
  .rename_i f
   ext b;cases i with
   |cons n m=>ext m;ext n;show#[j,W,f.1,f.2,e o _ p e1 g EZ]
  .ext b
 .ext b
end
section
variable{K:lD}{E:XK}{B O Y:bE}{X H H':Hp}{Z:St}{ρ ρ':aL}{v:V}
def GL:I PV->I PV
 |some (.fz d)=>M (.fz d)
 |_=>P
def cB(ρ:aL):aL:=ρ.map GL
def xW{i:Nat}(h:(cB ρ)[i]?=M (M x)):∃d,x=.fz d/\ρ[i]?=M (M (.fz d)):=by
 unfold cB at h;rw[Wl]at h;cases q:ρ[i]? with
 |none=>simp_all
 |some o=>
  rw[q]at h;let a:=Wt h;unfold GL at a;split at a
  .ext a;show#[_,W,W]
  .ext a
def tq(ρ:aL):G Nat->I (G D×aL)
 |[]=>M ([],ρ)
 |j::r=>match wb ρ (.pl j)with
  |some (d,b)=>(match tq b r with
   |some (c,a)=>M (d::c,a)
   |none=>P)
  |none=>P
def B8(R:Rl K B X O Z H ρ)(h:wb ρ (.pl i)=M (d,ρ')):∃v,Z[i]?=M (M v):=by
 let a:toS ρ i ρ[i]?=M (d,ρ'):=h;cases q:ρ[i]? with
 |none=>rw[q]at a;ext a
 |some o=>
  cases o with
  |none=>rw[q]at a;ext a
  |some x=>let(v,b,_):=R.slot i x q;show#[v,b]
theorem vR:∀{b:G Nat} {ds:G D} {O:bE} {ρ ρ':aL},Rl K B X O Z H ρ->tq ρ b=M (ds,ρ')->∃Y k,Ev O H Y H/\Rl K B X Y Z H ρ'/\XS Y K H k ds/\b.map (λj=>(Z[j]?).join)=k.map M
 |[],_,O,_,_,u,e=>by ext e;show#[O,[],.refl,u,.nil,W]
 |j::r,_,O,ρ,ρ',u,e=>by
  unfold tq at e;cases q:wb ρ (.pl j)with
  |none=>simp_all
  |some p=>
   let(d,a):=p;rw[q]at e;dsimp only at e;cases w:tq a r with
   |none=>simp_all
   |some g=>let(c,f):=g;rw[w]at e;ext e;let(v,h):=B8 u q;let(t,e1,m,l):=sA (pv:=.pl j) u h q;let(n,k,e2,R2,i,o):=vR m w;show#[n,v::k,e1.trans e2,R2,.cons (l.ev e2) i,by simp_all]
def cY(gt:FG)(c:FT)(f:FE):G D->aL->G D->Res (G D)
 |[],_,acc=>.ok acc
 |d::r,ρ,acc=>(gt (.fz d) ρ).bind λe=>(c e).bind λb=>if b.1=S then(f b.2).bind λa=>(Res.Xf (wb a.2 a.1)).bind λx=>
   if acc.length<1000000 then cY gt c f r (cB x.2) (acc++[x.1])else .bad
  else cY gt c f r (cB b.2) acc
def jK:Res α->Res α
 |.er _=>.bad
 |r=>r
def dW(n:Nat)(b:G Nat)(e:FI)(gt:FG)(f:FT)(g:FE):FE:=λρ=>(e ρ).bind λa=>(Res.Xf (tq a.2 b)).bind λc=>
 (jK (cY gt f g a.1 (Wk n P++c.1.map λd=>M (.fz d)) [])).bind λxs=>.ok (.ow xs,c.2)
def Bo{own:G Str}(h:own.length=n):own.map (λ_=>(P:I V))=Wk n P:=by
 subst h
 induction own with
 |nil=>rfl
 |cons x r a=>grind
def A1(h:WR K E B X b (jK r)):∃a,r=.ok a/\b a:=by
 cases r with
 |ok a=>show#[a,W,h]
 |er x=>show h.elim
 |bad=>show h.elim
def Sf(K:lD)(J:It)(O:bE)(H:Hp)(ds:G D):Prop:=∀Y H',Ev O H Y H'->XZ H H'->lZ Y H'->
 (∀i,i<ds.length->J.go i H'/\∀x a,J.yld i H' x a->XZ H' a/\∃d,ds[i]?=M d/\DV Y K a x d)/\J.stop ds.length H'
def T6(K:lD)(E:XK)(b:TI)(e:FI):Prop:=
 ∀(B:bE) (X:Hp) (O:bE) (Z:St) (H:Hp) (ρ:aL) (a:It->Hp->Prop),Rl K B X O Z H ρ->WR K E B X (λr=>∀Y J H',Ev O H Y H'->Rl K B X Y Z H' r.2->Sf K J Y H' r.1->a J H') (e ρ)->b Z H a
theorem IO.s(h:IO K E wi fi):T6 K E wi fi:=λB X O Z H ρ b R w=>h B X O Z H ρ b R (w.imp λr q Y J H' e R a=>q Y J H' e R λf g e2 _ n=>a f g e2 n)
def qv(c:own.length=n)(hf:fv.map (·.2)=fj)
  (hi:T6 K E wi fi) (hg:GO K E0 g gt) (ht:TTO K E0 tc ft) (he:EO K E0 te fe):EO K E (tf own fv wi g tc te) (dW n fj fi gt ft fe):=by
 intro B X O Z H ρ Q R w;show hi B X O Z H ρ _ R (w.bind.imp λa w1 O1 J H1 e1 R1 it=>?_);let(ds,ρ1):=a;let((cs,ρ2),qc,w1):=w1.Xf;dsimp only at qc it;let(I,vs,e2,R2,Z4,hvs):=vR R1 qc;let(xs,qx,w1):=A1 (WR.bind w1);intro l F;let hB:∀{H':Hp},XZ H1 H'->H' l≠Ld->∀a,cg I l a->H' a≠Ld:=λ{H'} s nd a h z=>h.elim (λq=>R2.od a (s.free z) q) λe=>nd (by rw[<-e];show z);show#[λi m L H'=>m=ds.length - i/\i<=ds.length/\∃(A:b5 D) (G:b5 V) (t:aL),XZ H1 H'/\H' l=cL (.lst G)/\XS (cg I l) K H' G A/\L.length=t.length/\(∀(j:Nat) (x:PV),t[j]?=cL (cL x)->∃d u,x=PV.fz d/\L[j]?=cL (cL u)/\DV (cg I l) K H' u d)/\cY gt ft fe (ds.drop i) t A=.ok xs,
  #[_,W,W0 _,[],[],_,bz F _,az,.nil,?_,λj x M=>?_,qx],?_]
 .ext ib
  rw[Wi,Wi,V9,V9,Xy,V9,c,<-Z4.length];let:=d7 ZM hvs
  grind
 .let hm:fv.map (λp=>(Z[p.2]?).join)=vs.map cL:=by rw[<-hvs,<-hf,W2];rfl
  ext ib;rw[Bo c,hm];by_cases hj:j<n
  .rw[Wn (by rw[Xy];show hj),Yn,ax hj]at M;ext M
  .rw[WO (by rw[Xy];ext),Xy,Wl]at M⊢
   cases qd:cs[j - n]? with
   |none=>rw[qd]at M;ext M
   |some d=>rw[qd]at M;ext M;let(u,hu,du):=Z4.get qd;show#[d,u,W,by rw[hu];rfl,du.ev (Ev.add (bz F _) F)]
 .rintro i m L H' ⟨rfl,hi,A,G,t,s,hD,dys,hl,hsl,f⟩
  let nD:H' l≠Ld:=by rw[hD];simp
  let no':=λa z h=>hB s nD a h z;let ev1:=e2.trans (Ev.add s F);let(go,stop):=it (cg I l) H' ev1 s no';by_cases ZK:i<ds.length
  .let(g1,g2):=go i ZK
   show .inr #[g1,λC N=>i+1<=ds.length/\∃(A:b5 D) (G:b5 V) (t:aL),XZ H1 N/\N l=cL (.lst G)/\XS (cg I l) K N G A/\C.length=t.length/\(∀(j:Nat) (x:PV),t[j]?=cL (cL x)->∃d u,x=PV.fz d/\C[j]?=cL (cL u)/\DV (cg I l) K N u d)/\cY gt ft fe (ds.drop (i+1)) t A=.ok xs,
    λC N #[Uz0,h2]=>#[ds.length - (i+1),by ext,W,Uz0,h2],λx H3 y=>?_]
   let(s3,d,hd,dv):=g2 x H3 y;let ed:ds.drop i=d::ds.drop (i+1):=by let(_,q):=Wb.mp hd;rw[YN ZK,q]
   rw[ed]at f;let hD3:=s3 _ _ hD;let nD3:H3 l≠Ld:=by rw[hD3];simp
   let sv:=s.trans s3;let RC:Rl K (cg I l) H3 (cg I l) L H3 t:=#[XZ.refl _,λ_ h=>h,hB sv nD3,λa z h=>hB sv nD3 a h z,hl,λj x M=>by let(d,u,rfl,Uz0,h2):=hsl j x M;show#[u,Uz0,h2.ev (Ev.grow s3)],λj k xs G w hj=>by let(d,u,e,_):=hsl j _ hj;ext e];unfold cY at f;let back:∀{O5:bE} {C:St} {N:Hp} {Pz0:aL} {H6:Hp},Rl K (cg I l) H3 O5 C N Pz0->(∀b o,b≠l->N b=cL o->H6 b=cL o)->C.length=(cB Pz0).length/\∀(j:Nat) (x:PV),(cB Pz0)[j]?=cL (cL x)->∃d u,x=PV.fz d/\C[j]?=cL (cL u)/\DV (cg I l) K H6 u d:=λ{O5 C N Pz0 H6} T k=>by show#[by ext cB;rw[V9];show T.len,λj x M=>?_];let(d,rfl,hxx):=xW M;let(u,Uz0,h2):=T.slot j _ hxx;show#[d,u,W,Uz0,DV.ev (λb o h n=>#[k b o (λe=>n (.inr e)) h,n]) (DV.ev (Ev.sub T.bo) h2)]
   show hg _ _ _ L H3 t x (.fz d) _ RC dv ?_;cases qg:gt (.fz d) t with
   |er z=>rw[qg]at f;ext f
   |bad=>rw[qg]at f;ext f
   |ok ρ3=>
    rw[qg,eg]at f;intro O4 σ4 H4 e4 R4;show ht _ _ _ σ4 H4 ρ3 _ R4 ?_;cases qt:ft ρ3 with
    |er z=>rw[qt]at f;ext f
    |bad=>rw[qt]at f;ext f
    |ok b=>
     let(b,ρ4):=b;rw[qt,eg]at f;intro O5 N e5 T;cases b with
     |false=>rw[bb Wr]at f⊢;let(l5,k5):=back T λb o _ h=>h;show#[ZK,A,G,cB ρ4,sv.trans T.same,T.same _ _ hD3,?_,l5,k5,f];show dys.ev (Ev.grow (s3.trans T.same))
     |true=>
      rw[ax W]at f⊢;show he _ _ _ σ4 N ρ4 _ T ?_;cases qe:fe ρ4 with
      |er z=>rw[qe]at f;ext f
      |bad=>rw[qe]at f;ext f
      |ok r=>
       rw[qe,eg]at f;intro O6 yv H6 e6 R6 p6;cases q7:wb r.2 r.1 with
       |none=>rw[q7]at f;ext f
       |some xr=>
        let(xd,ρ7):=xr;rw[q7]at f;let(O7,e7,R7,dv7):=sA R6 p6 q7;let hD7:=R7.same _ _ hD3;let S:(if A.length<1000000 then cY gt ft fe (ds.drop (i+1)) (cB ρ7) (A++[xd])else .bad)=.ok xs:=f;by_cases hl6:A.length<1000000
        .rw[ax hl6]at S
         let up:∀b o,b≠l->H6 b=cL o->aW H6 l (.lst (G++[yv])) b=cL o:=λb o hb h=>by rw[ar hb];show h
         let cH:Ev (cg I l) H6 (cg I l) (aW H6 l (.lst (G++[yv]))):=λb o h n=>#[up b o (λe=>n (.inr e)) h,n];let alc:=dys.ev (Ev.grow (s3.trans R7.same));let(l5,k5):=back R7 up;show#[G,hD7,sS (by rw[dys.length];show hl6),ZK,A++[xd],G++[yv],cB ρ7,λb o h=>?_,az,?_,l5,k5,S]
         .rw[ar (bw h F)];show R7.same _ _ (sv _ _ h)
         .show(alc.append (.cons (DV.ev (Ev.sub R7.bo) dv7) .nil)).ev cH
        .rw[bb hl6]at S;ext S
  .let e:i=ds.length:=by ext
   subst e;rw[X5 (Wg _)]at f;let f:=f;ext f;show .inl #[stop,?_];show w1 (cg I l) (.ref l) H' (e1.trans ev1) (R2.add s F nD) #[l,G,W,.inr W,R2.afu F,hD,dys,λk es hk z=>?_];let(u,Uz0,b,us,e2,g1,g2,g3,g4):=R2.slot k _ hk;rw[z]at Uz0;ext Uz0;ext e2;rw[F]at g3;ext g3
def d8(F:FN)(n:Nat)(c:FA):FE:=λρ=>(c ρ).bind λa=>(Res.Xf (nV a.2 a.1)).bind λb=>if b.1.length=n then(jK (F b.1)).bind λe=>.ok (e.pv,b.2)else .bad
def N5(c:AO K E C fa):EO K E (jo (y1 K n F) [] E0 C) (d8 F n fa):=by
 intro B X O Z H ρ Q R w;show c B X O Z H ρ _ R (w.bind.imp λa g u A y e1 o j=>?_);let((ds,f),q,b):=g.Xf;let(r,e2,R2,e):=re o j q;dsimp only at b;by_cases hn:ds.length=n
 .rw[ax hn]at b;let(L,h,b):=A1 (WR.bind b);rw[W5];show#[e.length.trans hn,r,ds,λa z l=>R2.od a l z,e,?_];rw[h];show jx R2 λp v t e3 m i=>b p v t (e1.trans (e2.trans e3)) m i
 .rw[bb hn]at b;show b.elim
end
def gw(N:Nat)(g:FS):FN:=λds=>(g (ds.map (λd=>M (.fz d))++Wk (N - ds.length) P)).bind λa=>match a with
 |.rt b=>.ok b
 |.nx _=>.ok (.fz .none)
 |_=>.bad
def GB(g:∀a,B a->H a≠P)(l:XS B K H C ds):Rl K B H B (L2.start N C) H (ds.map (λd=>M (.fz d))++Wk (N.length - ds.length) P):=by
 let r:=l.length;show#[XZ.refl _,λ_ h=>h,g,λa z h=>g a h z,?_,λi x m=>?_,λi j xs p w t=>?_]
 .ext L2.start;simp_all
 all_goals
  let b:∀{i:Nat} {x:PV},(ds.map (λd=>M (PV.fz d))++Wk (N.length - ds.length) P)[i]?=M (M x)->∃d,x=.fz d/\ds[i]?=M d:=λ{i x} h=>by
   by_cases t:i<ds.length
   .rw[Wn (by rw[V9];show t),Wl]at h
    cases q:ds[i]? with
    |none=>rw[q]at h;ext h
    |some d=>rw[q]at h;ext h;show#[d,W,W]
   .rw[WO (by rw[V9];ext),Yn]at h;split at h<;>ext h
 .let(d,rfl,n):=b m;let(v,f,o):=l.get n;show#[v,?_,o];let t:=(Wb.mp f).1;ext L2.start;rw[Wn (by rw[V9];show t),Wl,f];rfl
 .let(d,e,_):=b t;ext e
def Vz(F:Fun K x qual st f fd)(S:Yr N ps (au st))(c:ps.length=n)
  (r:∀(a:U) (A:WQ) (outer:G Env) (s:We) (H:Hp) (E:XK),X9 k (A.deeper (WZ qual (au st) s.heap.objs.size f a))->
   ∃t,PSs (fx kg C w K mg base N qual (au st) f a A outer s H E).nox (bQ st) t/\SO K E t g):FnOk C w K mg base kg (k+1) f fd ps (y1 K n (gw N.length g)):=by
 show F.ok S (λT H Q E h=>h.1.trans c.symm) (λa A outer s H T Q E l h=>?_);let(t,i,j):=r a A outer s H E l;let(v,B,ds,m,p,h):=h;show#[t,i,j B H B _ H _ _ (GB m p) (WR.imp (WR.bind h) λo q=>?_)];cases o with
 |rt X=>show q
 |nx L=>show λy b u e R=>q .Ye u R.same .Ye
 |bk L=>show q.elim
 |ct L=>show q.elim
end L3
namespace L3
open PySem PySem.Spec PyProof.Rows L2
def OpR.or(h:OpR X f r)(c:OpR X f r'):OpR X f (λx y H Q=>r x y H Q\/r' x y H Q):=by
 intro a s b H x y v u Q I g e q;rcases q with q|q
 .show h a s b H x y v u Q I g e q
 .show c a s b H x y v u Q I g e q
def Pb(I:Inv X pins σ H s)(h:Zu X.K H l xs):xs.length<=Wm/\∃(a:G U) (n:Nat),Vals xs a/\xs.length=a.length/\s.heap.get? l=M {cls:=.type "list",data:=.seq a.toArray n}:=by
 rcases h with(h|⟨o,h⟩)|⟨a,n,h1,f,b⟩
 .show I.ae3 h
 .let(_,z,a,n,r,e):=I.Xw l _ h;show#[z,a,n,r,r.length,e]
 .show#[f,a,n,b,b.length,I.kIn _ _ h1]
def MX(K:lD):R2:=λx y H Q=>∃l b xs zs,x=.ref l/\y=.ref b/\Zu K H l xs/\Zu K H b zs/\xs.length+zs.length<=Wm/\∀p,H p=P->Q (.ref p) (aW H p (.lst (xs++zs)))
def KK:OpR X (Yv .Add) (MX X.K):=by
 intro f s A H x y v u Q I j i h;let(l,b,xs,B,rfl,rfl,p,t,F,q):=h;ext j;ext i;let(z,g,n,r,G,e):=Pb I p;let(C,a,E,m,o,e2):=Pb I t;show PySem.P.add_list e e2 ?_ (by simp_all);let w:g.toArray++a.toArray=(g++a).toArray:=by simp
 rw[w];show#[.ref _,_,I.ahj (r.append m) (by simp_all),W,q _ I.fresh]
def MB(K:lD):R2:=λx y H Q=>∃l k xs,x=.ref l/\y=.int k/\Zu K H l xs/\ -(2^63)<=k/\k<2^63/\xs.length*k.toNat<=Wm/\
 ∀p,H p=P->Q (.ref p) (aW H p (.lst (Wk k.toNat xs).flatten))
def Kd:OpR X (Yv .Mult) (MB X.K):=by
 intro p s O H x y v u Q I E C h;let(l,k,xs,rfl,rfl,J,M,L,G,q):=h;ext E;let(t,rfl):=C;let(z,b,n,r,R,e):=Pb I J;let f:b.toArray.size*k.toNat<=Wm:=by simp_all
 let i:¬b.toArray.size*k.toNat>(2^63 - 1)/8:=by
  let:(Wm:Nat)<=(2^63 - 1)/8:=by decide
  ext
 let g:¬(!Builtin.List.listFitsIndex k)=S:=by rw[fitsIndex_both M L];simp_all
 let j:¬Builtin.List.listTooLong (b.toArray.size*k.toNat)=S:=by rw[vT f];simp_all
 let o:Z9 (λA w=>A++w) #v[] (Wk (if b.toArray.isEmpty=S then 0 else k.toNat) b.toArray)=(Wk k.toNat b).flatten.toArray:=by
  let N:=λm=>by let:=mF b m [];rw[abA]at this;show this
  rw[N];cases b with
  |nil=>simp
  |cons a P=>rfl
 show adm () #[_,e,W] (λB=>abp B k t) noFill_list_mul F.fills_int_mul F.slot_int_rmul repeat_list F.slot_int_index.lookup
  (Zq F.slot_int_rmul (abp s k t) F.entry_int_rmul (F.args_int_rmul_2 _ _) (int___rmul___int_list k t l b.toArray n)
   #[e,W,#[_,e,W],Zq F.slot_list_mul #[_,e,W] F.entry_list_mul (F.args_list_mul_2 _ _) (AutoListH.list___mul___list_int_3 l b.toArray n k t g i j) #[e,?_]])
 rw[o];show#[.ref _,_,I.ahj (r.rep k.toNat) (by rw[AZ,Nat.mul_comm];show G),W,q _ I.fresh]
section
variable{K:lD}
def fI(g:Int->Int->Int):D->D->I RV
 |.int i,.int j=>M (.fz (.int (g i j)))
 |_,_=>P
def fB(g:Int->Int->Bool):D->D->I RV
 |.int i,.int j=>M (.fz (.bool (g i j)))
 |_,_=>P
def TU(C:Int->Int->Bool)(g:Int->Int->Int):D->D->I RV
 |.int i,.int j=>if C i j=S then M (.fz (.int (g i j)))else P
 |_,_=>P
def wT(h:fI g dx C=M o):∃i j,dx=.int i/\C=.int j/\o=.fz (.int (g i j)):=by
 unfold fI at h;split at h
 .ext h;show#[_,_,W,W,W]
 .ext h
def SU:jG K (xt λi j=>.int (g i j)) (fI g):=by intro O H x y l f h Q n b a e q;let(i,j,rfl,rfl,rfl):=wT e;ext b;ext a;show#[i,j,W,W,q.at (.int _)]
def z7:jG K (xt λi j=>.bl (g i j)) (fB g):=by
 intro O H x y l f h Q n b a e q;unfold fB at e;split at e
 .ext e;ext b;ext a;show#[_,_,W,W,q.at (.bl _)]
 .ext e
def Ef(h:∀i j,C i j=S->o i j):jG K (rI o λi j=>.int (g i j)) (TU C g):=by
 intro O H x y p l m Q n b a e q;unfold TU at e;split at e
 .split at e
  .rename_i f;ext e;ext b;ext a;show#[_,_,W,W,h _ _ f,q.at (.int _)]
  .ext e
 .ext e
theorem AI(h:DX O K H x (.list ds)):∃a xs,x=.ref a/\Zu K H a xs/\XS O K H xs ds:=h
theorem Dc(h:DX O K H x (.tuple ds)):∃a xs,x=.ref a/\aaj O K H a xs/\XS O K H xs ds:=Hb h W
def Ma(K:lD):R2:=λx y H Q=>xt (λi j=>.int (i+j)) x y H Q\/MX K x y H Q\/LU K x y H Q
theorem Iu:OpR X (Yv .Add) (Ma X.K):=OpR.or Qn (OpR.or KK Kz)
def cT:D->D->I RV
 |.int i,.int j=>M (.fz (.int (i+j)))
 |.list xs,.list ys=>if xs.length+ys.length<=1000000 then M (.ow (xs++ys))else P
 |.tuple xs,.tuple ys=>if xs≠[]/\xs.length+ys.length<=1000000 then M (.fz (.tuple (xs++ys)))else P
 |_,_=>P
theorem p7(h:n<=1000000):n<=Wm:=WU h ()
def XS.ne(h:XS O K H vs ds):vs=[]↔ds=[]:=by ext h<;>simp
def La:jG K (Ma K) cT:=by
 intro O H x y u r t Q n m l e q;unfold cT at e;split at e
 .ext e;ext m;ext l;show .inl #[_,_,W,W,q.at (.int _)]
 .split at e
  .rename_i h;ext e;let(a,xs,rfl,i,f):=AI m;let(b,j,rfl,o,g):=AI l;show .inr (.inl #[a,b,xs,j,W,W,i,o,p7 (by rw[f.length,g.length];show h),Fin.new (f.append g) q])
  .ext e
 .split at e
  .rename_i h;ext e;let(a,xs,rfl,i,f):=Dc m;let(b,j,rfl,o,g):=Dc l;show .inr (.inr #[a,b,xs,j,W,W,i.1,o.1,λz=>h.1 (f.ne.mp z),p7 (by rw[f.length,g.length];show h.2),λz=>?_,λ_=>Fin.aeq (f.append g) n q]);let p:=g.ne.mp z;subst p;rw[W5]at q;show q.at (.tup i f)
  .ext e
 .ext e
def Gf(K:lD):R2:=λx y H Q=>rI ae2 (λi j=>.int (i*j)) x y H Q\/MB K x y H Q
theorem Jz:OpR X (Yv .Mult) (Gf X.K):=OpR.or Qp Kd
def gx(i:Int):Bool:=decide (-(2^64)<i/\i<2^64)
theorem rM(h:gx i=S): -(2^64)<i/\i<2^64:=b3 h
def Ce:D->D->I RV
 |.int i,.int j=>if(gx i||gx j)=S then M (.fz (.int (i*j)))else P
 |.list xs,.int k=>if xs.length*k.toNat<=1000000/\ -(2^63)<=k/\k<2^63 then M (.ow (Wk k.toNat xs).flatten)else P
 |_,_=>P
def Ja:jG K (Gf K) Ce:=by
 intro O H x y m j l Q n g f e q;unfold Ce at e;split at e
 .split at e
  .rename_i b
   ext e;ext g;ext f;show .inl #[_,_,W,W,?_,q.at (.int _)];rcases(Xz _ _).mp b with z|z
   .show .inl (rM z)
   .show .inr (rM z)
  .ext e
 .split at e
  .rename_i b;ext e;ext f;let(a,xs,rfl,i,h):=AI g;show .inr #[a,_,xs,W,W,i,b.2.1,b.2.2,p7 (by rw[h.length];show b.1),Fin.new (h.flat _) q]
  .ext e
 .ext e
def qE:=fI λi j=>i - j
theorem Lu:jG K (xt λi j=>.int (i - j)) qE:=SU
def Og(_ j:Int):Bool:=decide (0<j)
def qU:=TU Og λi j=>i % j
theorem J6:jG K (rI (λ_ j=>0<j) λi j=>.int (i % j)) qU:=Ef λi j h=>b3 h
def Ng(_ j:Int):Bool:=decide (0<j/\j<2^128)
def yS:=TU Ng λi j=>i/j
theorem JF:jG K (rI (λ_ j=>0<j/\j.natAbs.log2<9000) λi j=>.int (i/j)) yS:=Ef λi j h=>by
 let b:=b3 h;show#[b.1,?_];let a:j.natAbs<2^128:=by ext
 let e:=(Nat.log2_lt ()).mpr a;ext
def PB:=fB λi j=>decide (i<j)
def Q8:=fB λi j=>decide (i<=j)
def Ed:=fB λi j=>decide (j<i)
def TD:=fB λi j=>decide (j<=i)
theorem P1:jG K (xt λi j=>.bl (decide (i<j))) PB:=z7
theorem OH:jG K (xt λi j=>.bl (decide (i<=j))) Q8:=z7
theorem Pi:jG K (xt λi j=>.bl (decide (j<i))) Ed:=z7
theorem Qh:jG K (xt λi j=>.bl (decide (j<=i))) TD:=z7
def iH(d:D):Bool:=d.canLay0&&decide (d.depth<=64)
def cC(d e:D):I RV:=if(iH d&&e.canLay0)=S then M (.fz (.bool (Wa.eqv d e)))else P
def mG(d e:D):I RV:=if(iH d&&e.canLay0)=S then M (.fz (.bool (!Wa.eqv d e)))else P
def Oq:jG K (Ky K R) cC:=by
 intro O H x y h g i Q n f b e q;unfold cC at e;split at e
 .rename_i a;ext e;unfold iH at a;simp only[V7,decide_eq_true_eq]at a;show#[h,g,f.plain,b.plain,a.1.1,a.2,a.1.2,q.at (.bl _)]
 .ext e
def Nt:jG K (Ky K S) mG:=by
 intro O H x y h g i Q n f b e q;unfold mG at e;split at e
 .rename_i a;ext e;unfold iH at a;simp only[V7,decide_eq_true_eq]at a;show#[h,g,f.plain,b.plain,a.1.1,a.2,a.1.2,q.at (.bl _)]
 .ext e
def kj:D->D->I RV
 |.none,.none=>M (.fz (.bool S))
 |_,.none=>M (.fz (.bool R))
 |_,_=>P
def jB:D->D->I RV
 |.none,.none=>M (.fz (.bool R))
 |_,.none=>M (.fz (.bool S))
 |_,_=>P
def F8(h:DX O K H x d)(hd:d≠.none):x≠.Ye:=by
 cases d with
 |none=>simp_all
 |list ds=>let(a,xs,rfl,_):=AI h;simp
 |tuple ds=>let(a,xs,rfl,_):=Dc h;simp
 |bool b=>ext h;simp
 |int b=>ext h;simp
 |str b=>ext h;simp
 |dict b=>ext h
def HQ:jG K (λx y H Q=>y=.Ye/\Q (.bl (decide (x=.Ye))) H) kj:=by
 intro O H x y i g h Q n b a e q;unfold kj at e;split at e
 .ext e;ext b;ext a;show#[W,q.at (.bl _)]
 .rename_i f;ext e;ext a;show#[W,?_];rw[bt (F8 b f)];show q.at (.bl _)
 .ext e
def JZ:jG K (λx y H Q=>y=.Ye/\Q (.bl (!decide (x=.Ye))) H) jB:=by
 intro O H x y i g h Q n b a e q;unfold jB at e;split at e
 .ext e;ext b;ext a;show#[W,q.at (.bl _)]
 .rename_i f;ext e;ext a;show#[W,?_];rw[bt (F8 b f)];show q.at (.bl _)
 .ext e
def IX(K:lD)(neg:Bool):R2:=λx y H Q=>∃d ds,L2.DV K H x d/\(L2.DV K H y (.list ds)\/L2.DV K H y (.tuple ds))/\d.canLay0=S/\Wa.canLayAll0 ds=S/\d.depth<=64/\Q (.bl (if neg then !(ds.any λe=>Wa.eqv e d)else ds.any λe=>Wa.eqv e d)) H
def OE(p:X.A.units+65<cLine):OpR X (Xx .In) (IX X.K R):=by
 intro g s o H x y v u Q I l e h;let(d,ds,n,a,j,i,m,q):=h;let(as,f):=n.reads I l;let hm:min (Wa.depthAll ds) d.depth<=64:=WU (abo _ _) m;rcases a with a|a
 .let(bs,b):=a.reads I e;show ajn b f i j () #[.bl _,H,I,W,q]
 .let(bs,b):=a.reads I e;show ajo b f i j () #[.bl _,H,I,W,q]
def Ju(p:X.A.units+65<cLine):OpR X (Xx .NotIn) (IX X.K S):=by
 intro g s o H x y v u Q I l e h;let(d,ds,n,a,j,i,m,q):=h;let(as,f):=n.reads I l;let hm:min (Wa.depthAll ds) d.depth<=64:=WU (abo _ _) m;rcases a with a|a
 .let(bs,b):=a.reads I e;show ajp b f i j () #[.bl _,H,I,W,q]
 .let(bs,b):=a.reads I e;show ajq b f i j () #[.bl _,H,I,W,q]
def Hw(d e:D):I RV:=match eJ e with
 |some ds=>if(iH d&&Wa.canLayAll0 ds)=S then M (.fz (.bool (ds.any λe=>Wa.eqv e d)))else P
 |none=>P
def mn(d e:D):I RV:=match eJ e with
 |some ds=>if(iH d&&Wa.canLayAll0 ds)=S then M (.fz (.bool (!ds.any λe=>Wa.eqv e d)))else P
 |none=>P
def DG(a:DX O K H y e)(h:eJ e=M ds):L2.DV K H y (.list ds)\/L2.DV K H y (.tuple ds):=by
 unfold eJ at h;split at h
 .ext h;show .inr a.plain
 .ext h;show .inl a.plain
 .ext h
def Pp:jG K (IX K R) Hw:=by
 intro O H x y i h j Q n f b e q;unfold Hw at e;split at e
 .rename_i ds g
  split at e
  .rename_i a;ext e;unfold iH at a;simp only[V7,decide_eq_true_eq]at a;show#[i,ds,f.plain,DG b g,a.1.1,a.2,a.1.2,q.at (.bl _)]
  .ext e
 .ext e
def Ic:jG K (IX K S) mn:=by
 intro O H x y i h j Q n f b e q;unfold mn at e;split at e
 .rename_i ds g
  split at e
  .rename_i a;ext e;unfold iH at a;simp only[V7,decide_eq_true_eq]at a;show#[i,ds,f.plain,DG b g,a.1.1,a.2,a.1.2,q.at (.bl _)]
  .ext e
 .ext e
def aQ(d e:D):I RV:=match eJ d,e with
 |some ds,.int i=>(kP ds i).map .fz
 |_,_=>P
def E6(h:XS O K H xs ds)(e:kP ds i=M d):∃v,kP xs i=M v/\DV O K H v d:=by
 unfold kP at e⊢;rw[h.length];cases q:MV ds.length i with
 |none=>simp_all
 |some j=>rw[q]at e;show h.get e
def Dz:jG K (RK K) aQ:=by
 intro O H x y t o r Q n l m e q;unfold aQ at e;split at e
 .rename_i ds i b
  ext m;cases p:kP ds i with
  |none=>simp_all
  |some d=>
   rw[p]at e;ext e;unfold eJ at b;split at b
   .ext b;let(a,xs,rfl,h,g):=Dc l;let(v,f,j):=E6 g p;show .inr (.inl #[a,xs,i,v,W,W,h.1,f,q.at j])
   .ext b;let(a,xs,rfl,h,g):=AI l;let(v,f,j):=E6 g p;show .inl #[a,xs,i,v,W,W,h.sq,f,q.at j]
   .ext b
 .ext e
def mV(xs:G D)(lo a:I Int):G D:=(xs.drop (HT.sIx xs.length 0 lo)).take (HT.sIx xs.length xs.length a - HT.sIx xs.length 0 lo)
def Gp{lo a:I Int}(h:XS O K H xs ds):XS O K H (Cr xs lo a) (mV ds lo a):=by unfold Cr mV;rw[h.length];show(h.drop _).take _
def jN(n:Nat)(lo a:I Int):Bool:=decide (HT.sIx n 0 lo=0/\HT.sIx n n a=n)
def Po(K:lD):V->I Int->I Int->Hp->VK->Prop:=λx lo a H Q=>Rf K x lo a H Q\/Se K x lo a H Q
def Ew:MC X (Po X.K):=by
 intro a s b H x v f e lo m g Q I i l pl j h;rcases h with h|h
 .show K5 a s b H x v f e lo m g Q I i l pl j h
 .show QE a s b H x v f e lo m g Q I i l pl j h
def OV:D->I Int->I Int->I RV
 |.list ds,lo,a=>M (.ow (mV ds lo a))
 |.tuple ds,lo,a=>if jN ds.length lo a=S then P else M (.fz (.tuple (mV ds lo a)))
 |_,_,_=>P
def uU:RG K (Po K) OV:=by
 intro O H x lo j l i Q n g e q;unfold OV at e;split at e
 .ext e;let(a,xs,rfl,f,b):=AI g;show .inl #[a,xs,W,f.sq,Fin.new (Gp b) q]
 .split at e
  .ext e
  .rename_i h;ext e;let(a,xs,rfl,f,b):=Dc g;show .inr #[a,xs,W,f.1,λz=>h ?_,Fin.aeq (Gp b) n q];ext jN;rw[<-b.length];show bg z
 .ext e
def dY:G D->I RV
 |[d]=>(match eJ d with
  |some ds=>M (.fz (.int ds.length))
  |none=>P)
 |_=>P
def O8:B2 K (λxs H Q=>∃x n,xs=[x]/\Qy K x H n/\Q (.int n) H) dY:=by
 intro O H xs ds i Q n h e q;unfold dY at e;split at e
 .split at e
  .rename_i es f
   ext e;cases h with
   |cons b g=>
    ext g;unfold eJ at f;split at f
    .ext f;let(a,xs,rfl,b,g):=Dc b;show#[_,xs.length,W,.inr #[xs,b.1,W],by rw[g.length];show q.at (.int _)]
    .ext f;let(a,xs,rfl,b,g):=AI b;show#[_,xs.length,W,.inl #[xs,b.sq,W],by rw[g.length];show q.at (.int _)]
    .ext f
  .ext e
 .ext e
def mJ:G D->I RV
 |[.tuple ds]=>M (.fz (.tuple ds))
 |[.list ds]=>M (.fz (.tuple ds))
 |_=>P
def FR:B2 K (λxs H Q=>∃p ys,xs=[.ref p]/\((Z1 K H p ys/\∀l,H l=P->Q (.ref l) (aW H l (.tup ys)))\/(ZP K H p ys/\Q (.ref p) H))) mJ:=by
 intro O H xs ds h Q n g e q;unfold mJ at e;split at e
 .ext e
  cases g with
  |cons b f=>ext f;let(a,xs,rfl,b,f):=Dc b;show#[a,xs,W,.inr #[b.1,q.at (.tup b f)]]
 .ext e
  cases g with
  |cons b f=>ext f;let(a,xs,rfl,b,f):=AI b;show#[a,xs,W,.inl #[b.sq,Fin.aeq f n q]]
 .ext e
def r8:G D->I RV
 |[d]=>(eJ d).map .ow
 |_=>P
def Ke:B2 K (λxs H Q=>∃p ys,xs=[.ref p]/\(Z1 K H p ys\/ZP K H p ys)/\∀l,H l=P->Q (.ref l) (aW H l (.lst ys))) r8:=by
 intro O H xs ds i Q n g e q;unfold r8 at e;split at e
 .rename_i d
  cases g with
  |cons b f=>
   ext f;cases h:eJ d with
   |none=>simp_all
   |some es=>
    rw[h]at e;ext e;unfold eJ at h;split at h
    .ext h;let(a,xs,rfl,b,f):=Dc b;show#[a,xs,W,.inr b.1,Fin.new f q]
    .ext h;let(a,xs,rfl,b,f):=AI b;show#[a,xs,W,.inl b.sq,Fin.new f q]
    .ext h
 .ext e
def vQ:G D->I RV
 |[.int i,.int j]=>M (.fz (.int (if j>i then j else i)))
 |_=>P
def Kr:B2 K (λxs H Q=>∃i j,xs=[.int i,.int j]/\Q (.int (if j>i then j else i)) H) vQ:=by
 intro O H xs ds h Q n b e q;unfold vQ at e;split at e
 .ext e
  cases b with
  |cons g a=>
   cases a with
   |cons a f=>ext f;ext g;ext a;show#[_,_,W,q.at (.int _)]
 .ext e
end
end L3
namespace PySem
open Sem (wp)
open AutoSeq1 (wpAny_loadPart')
open Builtin Builtin.Str
section
variable{Y:Wz}{w:WX}{A:WQ}{E:V5->We->Prop}{s:We}
def lY(a:s.heap.IsTupleIter it t i)(j:s.heap.IsTuple t items)(h:items[i]?=M x)
  (m:∀c,c.IsTupleIter it t (i+1)->Heap.SameBut it s.heap c->Q x {s with heap:=c}):wpAny (model Y w) A (Builtin.SmallTypes.nextOf (.ref it)) Q E s:=by
 let(o,e,l,b):=id a;let(n,f,_,p,g):=j;ext Builtin.SmallTypes.nextOf;show CL (X4 a.typeIs F.slot_tuple_iterator_next
  (Yd F.slot_tuple_iterator_next a.typeIs F.entry_tuple_iterator_next ?_ (F.args_tuple_iterator_next_1 _)))
 show wpAny _ _ (field (.ref it) 0>>=_) _ _ s;show CL (Xe e b W ?_);show wpAny _ _ (if(V5.ref t==V5.none)=S then _ else _) _ _ s;rw[bb (show¬((V5.ref t==V5.none)=S)from Wr)];show CL (Xe e b W ?_);show CL (XB f g ?_);simp only[X0,h];show CL (Yw e b (by simp) (Wf #[x,W,Wf (m _ ?_ (Heap.SameBut.update ..))]));show#[_,cv _ e (dw (dt b _)),(Obj.cls_mapFields ..).trans l,by rw[dt b];simp[rawInt]]
def mE(j:A.handled=P)(a:s.heap.IsTupleIter it t i)(m:s.heap.IsTuple t items)(l:items[i]?=P)
  (n:∀c e,Heap.ExtBut it s.heap c->(∃o,c.get? e=M o/\o.cls=.type "StopIteration")->E (.ref e) {s with heap:=c}):wpAny (model Y w) A (Builtin.SmallTypes.nextOf (.ref it)) Q E s:=by
 let(o,f,r,h):=id a;let(p,b,_,q,g):=m;ext Builtin.SmallTypes.nextOf;show CL (X4 a.typeIs F.slot_tuple_iterator_next
  (Yd F.slot_tuple_iterator_next a.typeIs F.entry_tuple_iterator_next ?_ (F.args_tuple_iterator_next_1 _)))
 show wpAny _ _ (field (.ref it) 0>>=_) _ _ s;show CL (Xe f h W ?_);show wpAny _ _ (if(V5.ref t==V5.none)=S then _ else _) _ _ s;rw[bb (show¬((V5.ref t==V5.none)=S)from Wr)];show CL (Xe f h W ?_);show CL (XB b g ?_);simp only[X0,l];show CL (aaA (CL (Yw f h (by simp) ?_)));show CL ?_;simp only[newExc,newTuple];show CL (Xu ?_ (by size_fits));show CL (acf (by first|rfl|(simp only[firstArgMember];rfl)) ?_);show Xu ?_ (by size_fits);simp only[raiseNew];show CL (wpAny_handled ?_)
 first|rw[show A.in1.handled=P from j]|rw[j]
 show CL (Wf (wpAny_throw ?_));show n _ _ (((Heap.SameBut.update ..).extBut.push _).push _) #[_,ck _ W,W]
end
end PySem
namespace L3
open PySem PySem.Spec PyProof.Rows L2
def JL(I:Inv X pins σ H s)(j:ZP X.K H a xs)(i:ZP X.K H a ys):xs=ys:=by
 let(f,h,(o,e1,_,n,l),_):=I.tuple j;let(b,g,(m,e2,_,p,e),_):=I.tuple i;rw[e1]at e2;ext e2;rw[l]at e;let:f=b:=by
  let q:f.toArray=b.toArray:=by injection e
  simpa using q
 subst this;show h.inj g
def BW{bs:G Bool}(r:Vals (bs.map V.bl) o){i:Nat}(h:o[i]?=M v):∃b,bs[i]?=M b/\v=.bool b:=by
 let e:=r.length;rw[V9]at e;let g:i<bs.length:=by rw[e];show(Wb.mp h).1
 let(u,a,f):=r.get (by rw[Wl,Ww g];rfl);rw[h]at a;ext a;show#[bs[i],Ww g,f]
def yy(bs:G Bool):((WK bs.length).all λi=>(bs[i]?).getD S)=bs.all id:=by
 rw[YS,XF,XF];constructor
 .intro h b a;let(i,f,e):=List.mem_iff_getElem.mp a;let:=h i (Ym.mpr f);rw[Ww f,e]at this;show this
 .intro h i f;let f:=Ym.mp f;rw[Ww f];show h _ (abi f)
section
variable{X:Cx}
def He(w:X.calm=S):YG X (.builtin "all") (λxs H Q=>∃(p:Wd) (bs:b5 Bool),xs=[.ref p]/\Z1 X.K H p (bs.map V.bl)/\Q (.bl (bs.all id)) H):=by
 intro f s C H xs E Q I r h;let(l,bs,rfl,n,q):=h;let(u,rfl,m):=kq r;ext m;let(j,T,pl,J):=I.list n;let a:=T.length;rw[V9]at a;let B:l<s.heap.objs.size:=by let(_,_,e,_):=pl;show cc e
 show call_all_walk (ZI pl.isList ?_);show#[s.heap.objs.size,[s.heap.objs.size,l],[s.heap.objs.size],j.toArray.size,_,_,λi=>(bs[i]?).getD S,W,Walks.list (A:=X.A.in1) (I.ok.hd w) _ l (WG B) j.toArray,
  #[#[_,ck _ W,W,W],pl.isList.push _],λi v G M N y g=>?_,λL F t=>?_]
 .let(b,e,rfl):=BW T (by simpa using y);simp only[e,adU]at g;show XO g
 .rw[Ws,<-a,yy];show#[.bl _,H,I.kept λb o e=>t b o (λhm=>?_) (b9 _ e),W,q];rw[WB.mp hm]at e;show XJ _ (cc e)
end
section
variable{K:lD}
def vd:G D->I (G Bool)
 |[]=>M []
 |.bool b::r=>(vd r).map (b::·)
 |_=>P
theorem zG:∀{xs:G V} {ds:G D} {bs:G Bool},XS O K H xs ds->vd ds=M bs->xs=bs.map V.bl
 |_,_,_,.nil,e=>by ext e;rfl
 |_,_,bs,.cons (ds:=r) h t,e=>by
  cases h with
  |bl b=>
   let a:(vd r).map (b::·)=M bs:=e;cases q:vd r with
   |none=>rw[q]at a;ext a
   |some f=>rw[q]at a;ext a;rw[zG t q];rfl
  |_=>ext e
def C2:G D->I RV
 |[.list ds]=>(vd ds).map λbs=>.fz (.bool (bs.all id))
 |_=>P
def Pr:B2 K (λxs H Q=>∃(p:J) (bs:G Bool),xs=[.ref p]/\Z1 K H p (bs.map V.bl)/\Q (.bl (bs.all id)) H) C2:=by
 intro O H xs ds j Q n g e q;unfold C2 at e;split at e
 .rename_i es
  cases i:vd es with
  |none=>rw[i]at e;ext e
  |some bs=>
   rw[i]at e;ext e;cases g with
   |cons f b=>ext b;let(a,h,rfl,f,b):=AI f;let:=zG b i;subst this;show#[a,bs,W,f.sq,q.at (.bl _)]
 .ext e
def mI:G D->I (G Int)
 |[]=>M []
 |.int b::r=>(mI r).map (b::·)
 |_=>P
theorem oP:∀{xs:G V} {ds:G D} {bs:G Int},XS O K H xs ds->mI ds=M bs->xs=bs.map V.int
 |_,_,_,.nil,e=>by ext e;rfl
 |_,_,bs,.cons (ds:=r) h t,e=>by
  cases h with
  |int b=>
   let a:(mI r).map (b::·)=M bs:=e;cases q:mI r with
   |none=>rw[q]at a;ext a
   |some f=>rw[q]at a;ext a;rw[oP t q];rfl
  |_=>ext e
def yz(x:Int):G Int->G Int
 |[]=>[x]
 |y::r=>if x<=y then x::y::r else y::yz x r
def jw:G Int->G Int
 |[]=>[]
 |x::r=>yz x (jw r)
theorem mf(x:Int):∀l,(yz x l).Perm (x::l)
 |[]=>abb _
 |y::r=>by
  ext yz;split
  .show abb _
  .show((mf x r).cons y).trans (am7 x y r)
theorem eB:∀l,(jw l).Perm l
 |[]=>abb _
 |x::r=>(mf x _).trans ((eB r).cons x)
theorem nA(x:Int):∀l:G Int,l.Pairwise (·<=·)->(yz x l).Pairwise (·<=·)
 |[],_=>by simp[yz]
 |y::r,h=>by
  ext yz;let(f,g):=XA.mp h;split
  .rename_i a
   show XA.mpr #[λz b=>?_,h];rcases WE.mp b with e|e
   .rw[e];show a
   .let:=f z e;ext
  .rename_i a
   show XA.mpr #[λz b=>?_,nA x r g];rcases WE.mp ((mf x r).mem_iff.mp b)with e|e
   .rw[e];ext
   .show f z e
theorem dR:∀l,(jw l).Pairwise (·<=·)
 |[]=>aaf
 |x::r=>nA x _ (dR r)
theorem jZ{l m:G Int}(e:l.Perm m)(f:l.Pairwise (·<=·))(hm:m.Pairwise (·<=·)):l=m:=e.eq_of_pairwise (λa b _ _ h g=>Int.le_antisymm h g) f hm
def tR:G D->I RV
 |[.list ds]=>(match mI ds with
  |some a=>if a.length<64 then M (.ow ((jw a).map .int))else P
  |none=>P)
 |_=>P
def pK(a:G Int):XS O K H (a.map V.int) (a.map .int):=by
 induction a with
 |nil=>show .nil
 |cons n r b=>show .cons (.int n) b
def BN:B2 K (λxs H Q=>∃(p:J) (b:G Int),xs=[.ref p]/\Z1 K H p (b.map V.int)/\b.length<64/\∀(l:J) (f:G Int),H l=P->f.Perm b->f.Pairwise (·<=·)->Q (.ref l) (aW H l (.lst (f.map V.int)))) tR:=by
 intro O H xs ds u Q n g e q;unfold tR at e;split at e
 .rename_i es
  cases t:mI es with
  |none=>rw[t]at e;ext e
  |some b=>
   rw[t]at e;dsimp only at e;split at e
   .rename_i h
    ext e;cases g with
    |cons j i=>ext i;let(a,r,rfl,j,i):=AI j;let:=oP i t;subst this;show#[a,b,W,j.sq,h,λl f h g m=>?_];let o:=jZ (g.trans (eB b).symm) m (dR b);subst o;show Fin.new (pK _) q l h
   .ext e
 .ext e
end
def U4(K:lD)(H:Hp)(x:V)(t:String):Prop:=match x with
 |.Ye=>t= "NoneType"
 |.bl _=>t= "bool"
 |.int _=>t= "int"
 |.str _=>t= "str"
 |.ref a=>(t= "list"/\∃xs,Z1 K H a xs)\/(t= "tuple"/\∃xs,ZP K H a xs)
 |_=>False
def LY(K:lD):G V->Hp->VK->Prop:=λxs H Q=>∃x n t b,xs=[x,.ty n]/\U4 K H x t/\ad7 K (.type t) (.type n)=M b/\Q (.bl b) H
def BZ{X:Cx}:YG X (.builtin "isinstance") (LY X.K):=by
 intro j s v H xs C Q I r h;let(x,n,t,b,rfl,ty,e,q):=h;let(u,w,rfl,g,A):=Aa r;obtain rfl:w=V5.type n:=A;let f:∀l,EP X j v Q (.bool b) {s with toks:=l}:=λl=>#[.bl b,H,I.tok l,W,q];cases x with
 |Ye=>cases(show t= "NoneType" from ty);cases(show u=V5.none from g);show YO PySem.W.kitx_none I.kIn True.intro e (λz=>nomatch z) f
 |bl y=>cases(show t= "bool" from ty);cases(show u=V5.bool y from g);show YO PySem.W.kitx_bool I.kIn True.intro e (λz=>nomatch z) f
 |int i=>cases(show t= "int" from ty);let(t,q):=(show∃t,u=V5.int i t from g);ext q;show YO PySem.W.kitx_int I.kIn True.intro e (λz=>nomatch z) f
 |str y=>cases(show t= "str" from ty);let(t,q):=(show∃t,u=V5.str y t from g);ext q;show YO PySem.W.kitx_str I.kIn True.intro e (λz=>nomatch z) f
 |ref a=>
  cases(show u=V5.ref a from g);rcases ty with⟨rfl,xs,h⟩|⟨rfl,xs,h⟩
  .let(B,r,(o,k,p,m,_),_):=I.list h;show YO PySem.W.kitx_list I.kIn #[_,p,m] e (λz=>nomatch z) f
  .let(B,r,(o,p,m,_),_):=I.tuple h;show YO PySem.W.kitx_tuple I.kIn #[o,p,m] e (λz=>nomatch z) f
 |_=>show(show False from ty).elim
section
variable{K:lD}{E:XK}{B O L:bE}{X H C:Hp}{T:L2.St}{Y N:aL}{v:V}
def Fe:D->I String
 |.none=>M "NoneType"
 |.bool _=>M "bool"
 |.int _=>M "int"
 |.str _=>M "str"
 |.list _=>M "list"
 |.tuple _=>M "tuple"
 |.dict _=>P
def KF(n t:String):Bool:=n==t||(n== "int"&&t== "bool")
def Lg{n t:String}(b:n= "int"\/n= "bool"\/n= "str"\/n= "list"\/n= "tuple"){d:D}(a:Fe d=M t):ad7 K (.type t) (.type n)=M (KF n t):=by ext d<;>(ext a;try (rcases b with rfl|rfl|rfl|rfl|rfl<;>rfl))
def Tv{x:V}{d:D}{t:String}(h:DX O K H x d)(e:Fe d=M t):U4 K H x t:=by
 cases d with
 |none=>ext e;ext h;rfl
 |bool b=>ext e;ext h;rfl
 |int b=>ext e;ext h;rfl
 |str b=>ext e;ext h;rfl
 |dict b=>ext e
 |list ds=>ext e;let(a,xs,rfl,f,_):=AI h;show .inl #[W,xs,f.sq]
 |tuple ds=>ext e;let(a,xs,rfl,f,_):=Dc h;show .inr #[W,xs,f.1]
def BX(n:String)(b:FE):FE:=λY=>(b Y).bind λa=>(Res.Xf (rB a.2 a.1)).bind λd=>(Res.Xf (Fe d)).bind λt=>.ok (.fz (.bool (KF n t)),a.2)
def Ob{n:String}{c:TE}{j:FE}(k:n= "int"\/n= "bool"\/n= "str"\/n= "list"\/n= "tuple")(l:EO K E c j):EO K E (De (LY K) (fV c (fV (tC (.ty n)) ja))) (BX n j):=by intro B X O T H Y Q R w;show l B X O T H Y _ R (w.bind.imp λa b h x i e1 f g=>?_);let(d,q,b):=b.Xf;let(t,e,b):=b.Xf;show#[x,n,t,KF n t,W,Tv (jg f g q) e,Lg k e,b h _ i e1 f (.bl _)]
end
def BR{P:Wz}{w:WX}{K:lD}{D m:Str->b7 U}{k:Nat}{T a:Wd}{fd:Xj}{x:Str}{F:FN}{b:We}{c:b5 U}{f:b5 Int}
  (q:K.In b.heap) (g:b.heap.Ns Wx D) (A:b.heap.Ns builtinsNs m) (i:∀x:Str,x≠ "__name__"->m x=Xg x) (j:b.heap.NoLimit) (y:b.gens= #v[])
  (N:b.heap.get? a=M {cls:=.type "list",data:=.seq c.toArray}) (V:IntsAre c f) (p:f.length<=Wm) (t:X9 k callerA)
  (I:∀base:Heap,K.In base->base.Ns Wx D->FnOk P w K D base kg k T fd [x] (y1 K 1 F)) (l:∀(s:We) (u:U),aaz s fd #[[u],[]] [(x,u)])
  (C:F [.list (f.map .int)]=.ok (.fz (.bool S))):
  codeAny (model P w) callerA (.call (.ref T) #[[.ref a],[]]) (λr d=>r=.ok (.ret (.bool S))/\OldK b.heap d.heap/\d.os=b.os/\AllBare d.gens) b:=by
 show Ha (sp:=λc H Q E=>y1 K 1 F c H Q E\/(c.length=1/\False)) q g A i j y N V p t (λbase k1 k2=>(I base k1 k2).imp λc H Q E h=>?_) l (λH J B=>?_) λ_ _ _ h=>h
 .rcases h with h|h
  .show h
  .show h.2.elim
 .show .inl #[W,noO,[.list (f.map .int)],λa z=>z.elim,.cons (.lst #[?_,λz=>z.elim] (pK f)) .nil,?_]
  .rcases B with h|⟨o,W6,n,h1,h2,h3,Y,h5,X⟩
   .show .inl h
   .let e:=q a o h1;rw[N]at e;ext e;ext Y;show .inr #[c,0,h1,by rw[V9];show p,by simpa using X]
  .rw[C];show λv L s G=>by ext G;rfl
def To{l:adV}{n k:Nat}{q:Wz}{i:b5 Str}{O:(Str->b7 V5)->Heap->Prop}{B:WX->Heap->Prop}{d:DefRec}{K:Params->lD}{F:FN}{x:Str}
  (z:l.most=cL n) (m:n<=Wm) (r:d.params.defaults=[]) (E:X9 k callerA)
  (L:∀(w:WX) (h:Heap),B w h->(K w.params).In h)
  (P:∀(w:WX) (b:Str->b7 V5) (c:Wd) (h:Heap),(K w.params).In h->h.Ns Wx b->b d.name=cL (.ref c)->
   ∃fd:Xj,(∀(s:We) (u:V5),aaz s fd #[[u],[]] [(x,u)])/\∀base:Heap,(K w.params).In base->base.Ns Wx b->FnOk l.prog w (K w.params) b base kg k c fd [x] (y1 (K w.params) 1 F))
  (M:∀ns:b5 Int,ns.length<=n->F [.list (ns.map .int)]=.ok (.fz (.bool V6))):
  PySem.W.WalkO q i O B l.row.toRowW d [] (λf g=>ag5 f g):=by
 show Att.attach_call z r λw A y b R c o Q X N a g ns G Y S U I p v j e H=>?_;let C:=L w _ Y;let(fd,J,t):=P w b c _ C G.T.g p;show BR C G.T.g G.T.b G.T.builtins G.T.nolimit H v j (WU e m) E t J (M ns e)
def UZ{P:Wz}{w:WX}{K:lD}{d:Str->I U}{base:Heap}{x a:Str}{st:X1}{f:J}{fd:Xj}{N c:G Str}{k n m:Nat}{g:FS}{e:FN}(F:Fun K x a st f fd)(S:Yr N c (au st))(j:c.length=n)(hm:N.length=m)(h:e=gw m g)
  (i:∀(b:U) (A:WQ) (outer:G Env) (s:We) (H:Hp) (E:XK),X9 k (A.deeper (WZ a (au st) s.heap.objs.size f b))->
   ∃t,PSs (fx kg P w K d base N a (au st) f b A outer s H E).nox (bQ st) t/\SO K E t g):FnOk P w K d base kg (k+1) f fd c (y1 K n e):=by
 subst h hm;show Vz F S j i
abbrev Uo(P:Wz)(w:WX)(K:lD)(b:Str->I U)(base:Heap)(k:Nat)(x:Str)(a:G Str)(n:Nat)(F:FN):Prop:=vS P w K b base k x a (y1 K n F)
end L3
namespace L3
open PySem L2
abbrev nd(n:Nat):D:=.int (n:Int)
def aR(a:G Nat):G D:=a.map nd
def dQ(a:G Nat):(aR a).length=a.length:=by ext aR;rw[V9]
def JR(xs a:G Nat):aR (xs++a)=aR xs++aR a:=by ext aR;rw[WJ]
def tX{i:Nat}(h:(aR ns)[i]?=M d):∃n,ns[i]?=M n/\d=nd n:=by
 unfold aR at h;rw[Wl]at h;cases e:ns[i]? with
 |none=>rw[e]at h;ext h
 |some n=>rw[e]at h;show#[n,W,(Wt h).symm]
theorem aA(a:α):Res.Xf (M a)=.ok a:=W
theorem xl(a:α):jK (Res.ok a)=.ok a:=W
theorem yo(i:Nat)(a:aL):aa i a=AB a i a[i]? :=W
theorem E3(a:aL)(i:Nat)(d:D):AB a i (M (M (.fz d)))=.ok (.fz d,a):=W
theorem ER(a:aL)(i:Nat)(ds:G D):AB a i (M (M (.ow ds)))=.ok (.pl i,a):=W
theorem iB(ds:G D):xB (M (M (.ow ds)))=M ds:=W
theorem Ez(i:Nat)(d:D)(a:aL):gN i (.fz d) a=.ok (a.set i (M (.fz d))):=W
theorem zO(i:Int):T4 (.int i)=M i:=W
theorem vX(b:Bool):Uh (.bool b)=M b:=W
theorem jD(ds:G D):dY [.tuple ds]=M (.fz (nd ds.length)):=W
theorem fS(ds:G D):dY [.list ds]=M (.fz (nd ds.length)):=W
theorem mr(i j:Int):PB (.int i) (.int j)=M (.fz (.bool (decide (i<j)))):=W
theorem GR(i j:Int):Q8 (.int i) (.int j)=M (.fz (.bool (decide (i<=j)))):=W
theorem zD(i j:Int):Ed (.int i) (.int j)=M (.fz (.bool (decide (j<i)))):=W
theorem Bh(i j:Int):TD (.int i) (.int j)=M (.fz (.bool (decide (j<=i)))):=W
theorem i4(i j:Int):cT (.int i) (.int j)=M (.fz (.int (i+j))):=W
theorem uT(i j:Int):qE (.int i) (.int j)=M (.fz (.int (i - j))):=W
def tT(h:0<j):qU (.int i) (.int j)=M (.fz (.int (i % j))):=by show(if Og i j=S then _ else _)=_;rw[ax (show Og i j=S from bg h)]
def E1(h:0<j/\j<2^128):yS (.int i) (.int j)=M (.fz (.int (i/j))):=by show(if Ng i j=S then _ else _)=_;rw[ax (show Ng i j=S from bg h)]
def JH(h: -(2^64)<i/\i<2^64):Ce (.int i) (.int j)=M (.fz (.int (i*j))):=by show(if(gx i||gx j)=S then _ else _)=_;rw[ax (by rw[show gx i=S from bg h,YL])]
def K8(h: -(2^64)<j/\j<2^64):Ce (.int i) (.int j)=M (.fz (.int (i*j))):=by show(if(gx i||gx j)=S then _ else _)=_;rw[ax (by rw[show gx j=S from bg h,Zw])]
def J1(h:j9 j):kF [.int j]=M (fU 0 j.toNat):=by show(if j9 j then _ else _)=_;rw[ax h]
def FH(n:Nat):fU 0 n=aR (WK n):=by unfold fU aR;apply Zr;intro k _;rw[Int.zero_add]
def oO(h:n<=1000000):kF [nd n]=M (aR (WK n)):=by rw[J1 (by ext j9;ext),FH,X0]
def Fa(h:f C=.ok (.nx o)):bH f g C=g o:=by ext bH;rw[h];rfl
def EF(h:f o=.ok (.rt C)):bH f g o=.ok (.rt C):=by ext bH;rw[h];rfl
def T7(h:c C=.ok (S,o)):lh c f g C=f o:=by ext lh;rw[h];rfl
def UF(h:c C=.ok (R,o)):lh c f g C=g o:=by ext lh;rw[h];rfl
def yO(h:fi C=.ok (ds,o)):rE fi gt b C=nK gt b ds o:=by ext rE;rw[h];rfl
def jF(gt:FG)(f:FT)(g:FE)(d:D)(c:aL):Res (I D×aL):=(gt (.fz d) c).bind λe=>(f e).bind λb=>if b.1=S then(g b.2).bind λa=>(Res.Xf (wb a.2 a.1)).bind λx=>.ok (M x.1,cB x.2)else .ok (P,cB b.2)
def pR(h:jF gt ft fe d ρ=.ok (o,C))(g:acc.length<1000000):cY gt ft fe (d::r) ρ acc=cY gt ft fe r C (acc++o.toList):=by
 unfold jF at h;show(gt (.fz d) ρ).bind _=_;cases l:gt (.fz d) ρ with
 |er x=>rw[l]at h;ext h
 |bad=>rw[l]at h;ext h
 |ok f=>
  rw[l,eg]at h;rw[eg];cases j:ft f with
  |er x=>rw[j]at h;ext h
  |bad=>rw[j]at h;ext h
  |ok b=>
   let(b,e):=b;rw[j,eg]at h;rw[eg];cases b with
   |false=>rw[bb Wr]at h⊢;ext h;rw[adn,W5]
   |true=>
    rw[ax W]at h⊢;cases i:fe e with
    |er x=>rw[i]at h;ext h
    |bad=>rw[i]at h;ext h
    |ok a=>
     rw[i,eg]at h;rw[eg];cases m:wb a.2 a.1 with
     |none=>rw[m]at h;ext h
     |some x=>rw[m]at h;ext h;show(if acc.length<1000000 then _ else _)=_;rw[ax g];rfl
def QS(a b:Nat):decide ((a:Int)=(b:Int))=decide (a=b):=by
 by_cases h:a=b
 .rw[bg h,bg (by rw[h])]
 .rw[bt h,bt ()]
theorem Fq(a b:Nat):Wa.eqv (nd a) (nd b)=decide (a=b):=QS a b
def oS(a b:Int):cC (.int a) (.int b)=M (.fz (.bool (decide (a=b)))):=by rfl
def uL(a b:Int):mG (.int a) (.int b)=M (.fz (.bool (!decide (a=b)))):=by rfl
theorem gv:∀ns:G Nat,Wa.canLayAll0 (aR ns)=S
 |[]=>rfl
 |n::r=>by show(Wa.canLay0 (nd n)&&Wa.canLayAll0 (aR r))=S;rw[gv r];rfl
theorem jb:∀ns:G Nat,Wa.depthAll (aR ns)=0
 |[]=>rfl
 |n::r=>by show max (Wa.depth (nd n)) (Wa.depthAll (aR r))=0;rw[jb r];rfl
theorem uw:∀xs ys:G Nat,Wa.eqvAll (aR xs) (aR ys)=decide (xs=ys)
 |[],[]=>rfl
 |[],_::_=>rfl
 |_::_,[]=>rfl
 |n::r,m::t=>by show(Wa.eqv (nd n) (nd m)&&Wa.eqvAll (aR r) (aR t))=_;rw[uw r t,Fq];rw[YS];simp
def Ol(a:G Nat):iH (.list (aR a))=S:=by show(Wa.canLayAll0 (aR a)&&decide (Wa.depthAll (aR a)+1<=64))=S;rw[gv,jb];rfl
def vf(xs a:G Nat):cC (.list (aR xs)) (.list (aR a))=M (.fz (.bool (decide (xs=a)))):=by ext cC;rw[Ol,show Wa.canLay0 (.list (aR a))=S from gv a,Xv,ax W,show Wa.eqv (.list (aR xs)) (.list (aR a))=_ from uw xs a]
def KZ(x:Nat)(xs:G Nat):((aR xs).any λe=>Wa.eqv e (nd x))=decide (x∈xs):=by
 induction xs with
 |nil=>rfl
 |cons y r a=>
  show(Wa.eqv (nd y) (nd x)||(aR r).any λe=>Wa.eqv e (nd x))=_;rw[a,Fq];by_cases h:y=x
  .rw[bg h,bg (show x∈y::r by rw[h];show Wh),YL]
  .rw[bt h,ZT]
   by_cases g:x∈r
   .rw[bg g,bg (Wj _ g)]
   .rw[bt g,bt (λz=>(WE.mp z).elim (λe=>h e.symm) g)]
def uf(x:Nat)(xs:G Nat):Hw (nd x) (.tuple (aR xs))=M (.fz (.bool (decide (x∈xs)))):=by show(if(iH (nd x)&&Wa.canLayAll0 (aR xs))=S then _ else _)=_;rw[gv,show iH (nd x)=S from rfl,Xv,ax W,KZ]
theorem Du{i:Nat}(h:xs[i]?=M v):kP xs (i:Int)=M v:=Bl h
def Pj(h:ds[i]?=M d):aQ (.tuple ds) (nd i)=M (.fz d):=by show(kP ds (i:Int)).map RV.fz=_;rw[Du h];rfl
def V2(h:ds[i]?=M d):aQ (.list ds) (nd i)=M (.fz d):=by show(kP ds (i:Int)).map RV.fz=_;rw[Du h];rfl
section
variable{Y ρ1 Z T:aL}{X L B Q:FE}{pa E pv:PV}{dx C d:D}{rv:RV}{N:b5 PV}{ds:b5 D}
def ag(h:Y[i]?=M (M (.fz d))):aa i Y=.ok (.fz d,Y):=by rw[yo,h,E3]
def mH(h:Y[i]?=M (M (.ow ds))):aa i Y=.ok (.pl i,Y):=by rw[yo,h,ER]
theorem aw:pC d Y=.ok (.fz d,Y):=W
def aF(c:X Y=.ok (pa,ρ1))(g:L ρ1=.ok (E,Z))(b:rB Z (bq pa)=M dx)(a:rB Z E=M C)(e:f dx C=M rv):aC f X L Y=.ok (rv.pv,Z):=by ext aC;rw[c,eg,g,eg,b,aA,eg,a,aA,eg,e,aA,eg]
def aU(c:X Y=.ok (pa,ρ1))(a:rB ρ1 pa=M (.bool b)):ay X Y=.ok (b,ρ1):=by ext ay;rw[c,eg,a,aA,eg,vX,aA,eg]
def on(c:f Y=.ok (a,ρ1))(e:a=S->g ρ1=.ok (b,ρ1)):nQ f g Y=.ok (a&&b,ρ1):=by
 ext nQ;rw[c,eg];cases a with
 |true=>rw[ax W,e W,ZU]
 |false=>rw[bb Wr,aaw]
def EW(c:f Y=.ok (a,ρ1))(e:a=R->g ρ1=.ok (b,ρ1)):Ph f g Y=.ok (a||b,ρ1):=by
 ext Ph;rw[c,eg];cases a with
 |true=>rw[ax W,YL]
 |false=>rw[bb Wr,e W,ZT]
def uS(b:f Y=.ok (a,ρ1)):wv f Y=.ok (!a,ρ1):=by ext wv;rw[b,eg]
def oV(c:ay X Y=.ok (a,ρ1))(e:a=S->L ρ1=.ok (.fz (.bool b),ρ1)):yh X L Y=.ok (.fz (.bool (a&&b)),ρ1):=by
 ext yh;rw[c,eg];cases a with
 |true=>rw[ax W,e W,ZU]
 |false=>rw[bb Wr,aaw]
theorem aB:aq Y=.ok ([],Y):=W
def ai(b:X Y=.ok (pa,ρ1))(a:fr ρ1=.ok (N,Z)):ad X fr Y=.ok (bq pa::N,Z):=by ext ad;rw[b,eg,a,eg]
def eY(b:fr Y=.ok (N,ρ1))(hd:sd ρ1 N=M ds)(a:f ds=M rv):gQ f fr Y=.ok (rv.pv,ρ1):=by ext gQ;rw[b,eg,hd,aA,eg,a,aA,eg]
def eV(c:fr Y=.ok (N,ρ1))(hd:nV ρ1 N=M (ds,Z))(b:ds.length=n)(a:F ds=.ok rv):d8 F n fr Y=.ok (rv.pv,Z):=by ext d8;rw[c,eg,hd,aA,eg];dsimp only;rw[ax b,a,xl,eg]
def bU(b:fr Y=.ok (N,ρ1))(hd:nV ρ1 N=M (ds,Z))(a:ds.length<=1000):aY fr Y=.ok (.fz (.tuple ds),Z):=by ext aY;rw[b,eg,hd,aA,eg];dsimp only;rw[ax a]
def mM(b:fr Y=.ok (N,ρ1))(hd:nV ρ1 N=M (ds,Z))(a:ds.length<=1000):cZ fr Y=.ok (.ow ds,Z):=by ext cZ;rw[b,eg,hd,aA,eg];dsimp only;rw[ax a]
def DF(c:X Y=.ok (pa,ρ1))(a:rB ρ1 pa=M dx)(b:Fe dx=M t):BX n X Y=.ok (.fz (.bool (KF n t)),ρ1):=by ext BX;rw[c,eg,a,aA,eg,b,aA,eg]
theorem pV:rb Y=.ok (P,Y):=W
def jv(b:X Y=.ok (pa,ρ1))(a:rB ρ1 pa=M (.int i)):ko X Y=.ok (M i,ρ1):=by ext ko;rw[b,eg,a,aA,eg,zO,aA,eg]
def zj(c:X Y=.ok (pa,ρ1))(b:fl ρ1=.ok (lo,Z))(e:fh Z=.ok (o,T))(a:rB T (bq pa)=M dx)(g:f dx lo o=M rv):J5 f X fl fh Y=.ok (rv.pv,T):=by ext J5;rw[c,eg,b,eg,e,eg,a,aA,eg,g,aA,eg]
def Fm(g:Y[i]?=M (M (.ow es)))(c:Q Y=.ok (pa,ρ1))(b:wb ρ1 pa=M (d,Z))(f:Z[i]?=M (M (.ow ds)))(e:ds.length<1000000)(a:Z.set i (M (.ow (ds++[d])))=x):Cz i Q Y=.ok (.fz .none,x):=by ext Cz;rw[g,iB,aA,eg,c,eg,b,aA,eg];dsimp only;rw[f,iB,aA,eg,ax e,a]
def dh(c:fi Y=.ok (ds,ρ1))(b:tq ρ1 o=M (cs,Z))(a:jK (cY gt ft Q ds (Wk n P++cs.map λd=>M (.fz d)) [])=.ok xs):dW n o fi gt ft Q Y=.ok (.ow xs,Z):=by ext dW;rw[c,eg];dsimp only;rw[b,aA,eg];dsimp only;rw[a,eg]
def Nr(a:c Y=.ok (S,ρ1))(h:X ρ1=.ok (pv,Z)):MG c X L Y=.ok (pv,Z):=by ext MG;rw[a,eg,ax W,h]
def O9(a:c Y=.ok (R,ρ1))(h:L ρ1=.ok (pv,Z)):MG c X L Y=.ok (pv,Z):=by ext MG;rw[a,eg,bb Wr,h]
theorem gG:aQ (.tuple (a::r)) (.int 0)=M (.fz a):=Pj W
theorem gX:aQ (.tuple (a::b::r)) (.int 1)=M (.fz b):=Pj W
theorem nM:aQ (.tuple (a::b::c::r)) (.int 2)=M (.fz c):=Pj W
def Pe(b:k<=1000)(a:xs.length<=1000):Ce (.list xs) (nd k)=M (.ow (Wk k xs).flatten):=by show(if xs.length*((k:Nat):Int).toNat<=1000000/\ -(2^63)<=(k:Int)/\(k:Int)<2^63 then M (RV.ow (Wk ((k:Nat):Int).toNat xs).flatten)else P)=_;rw[X0,ax #[WU (ab1 a b) (),by ext,by ext]]
def fO(c:Q Y=.ok (pa,ρ1))(a:wb ρ1 pa=M (d,Z))(b:eJ d=M es):im Q Y=.ok (es,Z):=by ext im;rw[c,eg,a,aA,eg];dsimp only;rw[b,aA,eg]
def KR(b:fr Y=.ok (N,ρ1))(hd:sd ρ1 N=M ds)(a:f ds=M es):pL f fr Y=.ok (es,ρ1):=by ext pL;rw[b,eg,hd,aA,eg,a,aA,eg]
def yu(b:Q Y=.ok (pv,ρ1))(a:g pv ρ1=.ok Z)(c:Z=T):eA Q g Y=.ok (.nx T):=by ext eA;rw[b,eg];dsimp only;rw[a,eg,c]
def Br(a:Q Y=.ok (pv,ρ1)):ny Q Y=.ok (.nx ρ1):=by ext ny;rw[a,eg]
def uG(b:Q Y=.ok (pv,ρ1))(a:BS ρ1 pv=M rv):dU Q Y=.ok (.rt rv):=by ext dU;rw[b,eg];dsimp only;rw[a,aA,eg]
def yB(e:gt (.fz d) Y=.ok ρ1)(b:ft ρ1=.ok (S,Z))(g:Q Z=.ok (pv,T))(a:wb T pv=M (x,ρ4))(f:cB ρ4=o):jF gt ft Q d Y=.ok (M x,o):=by ext jF;rw[e,eg,b,eg,ax W,g,eg,a,aA,eg,f]
def Nu(b:gt (.fz d) Y=.ok ρ1)(a:ft ρ1=.ok (R,Z))(e:cB Z=o):jF gt ft Q d Y=.ok (P,o):=by ext jF;rw[b,eg,a,eg,bb Wr,e]
end
end L3
namespace PySem
open Sem (wp)
open Builtin
open AutoSeq1 (wpAny_loadPart')
theorem l6:fillsNumberSlot (.type "tuple") "mul"=pure R:=
 fillsNumberSlot_seq F.slot_tuple_mul.lookup (by left) F.slot_tuple_rmul.lookup (by left)
def t8:seqRepeat? (.type "tuple")=pure (M (.builtin "tuple.__mul__")):=by unfold seqRepeat?;rw[seqSlot_of (name:= "__mul__") F.slot_tuple_mul.lookup (by left),seqSlot_of (name:= "__rmul__") F.slot_tuple_rmul.lookup (by left)];rfl
theorem qI(a:Int)(t:Tok)(l:J)(items:Array U)(n:Nat)(dct:I J)(e:Array (I U)):
  Meets (Builtin.«int.__rmul__» #[[.int a t,.ref l],[]]) (λ_ R s=>s.heap.get? l=M {cls:=.type "tuple",dict:=dct,data:=.seq items n,slots:=e}/\R (.ok (.ret V5.notImplemented)) s):=
 .of_wp λb w A R s h=>by let(j,g,d,f,i):=s;let(m,h):=h;wp_walk;show#[_,W,h]
theorem wE(l:J)(items:Array U)(n:Nat)(dct:I J)(b:Array (I U))(u:Tok):
  Meets (Builtin.«tuple.__mul__» #[[.ref l,.int 1 u],[]]) (λ_ R s=>s.heap.get? l=M {cls:=.type "tuple",dict:=dct,data:=.seq items n,slots:=b}/\R (.ok (.ret (V5.ref l))) s):=
 .of_wp λa w A R s h=>by
  let(i,g,d,e,f):=s;let(j,h):=h
  wp_walk
  show#[_,W,h]
theorem wM(l:Wd)(items:Array U)(n:Nat)(dct:b7 Wd)(i:Array (b7 U))(x:Int)(u:Tok)(I:2<=x)(q:x<=1000)(a:items.isEmpty=V8)(z:items.size<=1000):
  Meets (Builtin.«tuple.__mul__» #[[.ref l,.int x u],[]]) (λ_ R s=>s.heap.get? l=M {cls:=.type "tuple",dict:=dct,data:=.seq items n,slots:=i}/\R (.ok (.ret (V5.ref s.heap.objs.size))) {s with heap:=s.heap.push {cls:=V5.type "tuple",data:=Data.seq (Z9 (λk c=>k++c) #v[] (Wk x.toNat items))},toks:=s.toks}):=
 .of_wp λe w A R s h=>by
  let(G,g,d,E,F):=s;let(p,h):=h;let C:¬(decide (x< -(2^63))||decide (x≥2^63))=S:=by simp;ext
  let B:(x==1)=V8:=by simp;ext
  let y:decide (x<=0)=V8:=by simp;ext
  let K:(items.isEmpty||x==1)=V8:=by rw[a,B];rfl
  let J:(decide (x<=0)||items.isEmpty)=V8:=by rw[a,y];rfl
  let f:(items.size:Int)*x<=1000000:=by let:(items.size:Int)*x<=1000*1000:=Int.mul_le_mul () q () ();ext
  let v:¬(items.size:Int)*x>(2^63 - 1)/8:=by ext
  let t:¬Tuple.tupleTooMany ((items.size:Int)*x)=S:=by
   ext Tuple.tupleTooMany;simp;let:(Wm:Nat)=16777216:=by decide
   ext
  wp_walk
  rw[bb C]
  wp_walk using wpAny_loadPart' p
  rw[bb v];dsimp only;rw[bb t];let o:(Z9 (λk c=>k++c) #v[] (Wk x.toNat items)).size<=Wm:=by
   let r:∀(m:Nat) (b:Array U),(Z9 (λk c=>k++c) b (Wk m items)).size=b.size+m*items.size:=by
    intro m
    induction m with
    |zero=>intro b;simp
    |succ m j=>intro b;rw[Xr,aae,j,Array.size_append,ag4];ext
   rw[r];let H:x.toNat*items.size<=1000*1000:=ab1 () z;let:(Wm:Nat)=16777216:=by decide
   simp;ext
  wp_walk
  show#[_,W,h]
end PySem
namespace L3
open PySem PySem.Spec PyProof.Rows L2
def ME(K:lD):R2:=λx y H Q=>∃(a:J) (k:Nat) (xs:G V),x=.ref a/\y=.int (k:Int)/\ZP K H a xs/\xs≠[]/\1<=k/\k<=1000/\xs.length<=1000/\
 (k=1->Q (.ref a) H)/\(2<=k->∀p,H p=P->Q (.ref p) (aW H p (.tup (Wk k xs).flatten)))
def JG:OpR X (Yv .Mult) (ME X.K):=by
 intro j s S H x y v u Q I E C h;let(a,k,xs,rfl,rfl,L,i,Z,P,N,J,G):=h;ext E;let(t,rfl):=C;let(f,r,M,Y):=I.tuple L;let((cls,dd,p,g),e,o,n,m):=id M;simp only at o m;subst o m;let l:=r.length;show adm () #[_,e,W] (λB=>abp B k t) l6 F.fills_int_mul F.slot_int_rmul t8 F.slot_int_index.lookup
  (Zq F.slot_int_rmul (abp s k t) F.entry_int_rmul (F.args_int_rmul_2 _ _) (qI k t a f.toArray n dd g) #[e,W,#[_,e,W],?_])
 by_cases O:k=1
 .subst O;show Zq F.slot_tuple_mul #[_,e,W] F.entry_tuple_mul (F.args_tuple_mul_2 _ _) (wE a f.toArray n dd g t) #[e,#[.ref a,H,I,W,J W]]
 .show Zq F.slot_tuple_mul #[_,e,W] F.entry_tuple_mul (F.args_tuple_mul_2 _ _) (wM a f.toArray n dd g k t () () ?_ (by rw[Ws];ext)) #[e,?_]
  .cases f with
   |nil=>ext r;show b4 W i
   |cons y T=>rfl
  .let R:Z9 (λA w=>A++w) #v[] (Wk ((k:Nat):Int).toNat f.toArray)=(Wk k f).flatten.toArray:=by
    let:=mF f k [];rw[abA]at this;rw[X0];show this
   rw[R];show#[.ref s.heap.objs.size,_,I.laid (λb U q=>b9 _ q) (Wg _) ?_,W,G () _ (I.Xw.fresh (Wg _))];show#[?_,_,r.rep k,abf.new _ _];rw[AZ];show WU (ab1 P N) ()
def My(K:lD):R2:=λx y H Q=>Gf K x y H Q\/ME K x y H Q
theorem Ij:OpR X (Yv .Mult) (My X.K):=OpR.or Jz JG
def ie:D->D->I RV
 |.tuple xs,.int k=>if xs≠[]/\1<=k/\k<=1000/\xs.length<=1000 then M (.fz (.tuple (Wk k.toNat xs).flatten))else P
 |d,e=>Ce d e
def Dn{K:lD}:jG K (My K) ie:=by
 intro O H x y o j l Q n g f e q;unfold ie at e;split at e
 .rename_i ds k
  split at e
  .rename_i h
   ext e;ext f;let(a,xs,rfl,i,b):=Dc g;obtain⟨m,rfl⟩:∃m:Nat,k=(m:Int):=#[k.toNat,by ext];rw[X0]at q;show .inr #[a,m,xs,W,W,i.1,λz=>h.1 (b.ne.mp z),by ext,by ext,by rw[b.length];show h.2.2.2,λe=>?_,λ_=>Fin.aeq (b.flat m) n q];subst e;let e1:(Wk 1 ds).flatten=ds:=by simp
   rw[e1]at q;show q.at (.tup i b)
  .ext e
 .show .inl (Ja O H x y o j l Q n g f e q)
end L3
namespace PySem
open Sem (wp)
open Builtin Builtin.Str
def itAt:Bool->Heap->J->J->Nat->Prop
 |true,h,it,a,i=>h.IsTupleIter it a i
 |false,h,it,a,i=>h.IsListIter it a i
def sqAt:Bool->Heap->J->Array U->Prop
 |true,h,a,xs=>h.IsTuple a xs
 |false,h,a,xs=>h.IsList a xs
def xi:Bool->String
 |true=> "tuple_iterator"
 |false=> "list_iterator"
def itAt.ext(x:itAt b h it a i)(e:Heap.ExtBut c h h')(n:it≠c):itAt b h' it a i:=by
 cases b with
 |true=>show Heap.IsTupleIter.extBut x e n
 |false=>show Heap.IsListIter.extBut x e n
def itAt.to(x:itAt b h it a i)(e:∀o,h.get? it=M o->h'.get? it=M o):itAt b h' it a i:=by
 cases b with
 |true=>show Heap.IsTupleIter.at x e
 |false=>show Heap.IsListIter.at x e
def itAt.live(x:itAt b h it a i):∃o,h.get? it=M o/\∀v,o.data≠.cell v:=by
 cases b with
 |true=>let(o,e,_,d):=(show h.IsTupleIter it a i from x);show#[o,e,λv z=>by rw[d]at z;ext z]
 |false=>let(o,e,_,d):=(show h.IsListIter it a i from x);show#[o,e,λv z=>by rw[d]at z;ext z]
def sqAt.ext(x:sqAt b h a xs)(e:Heap.ExtBut c h h')(n:a≠c):sqAt b h' a xs:=by
 cases b with
 |true=>show Heap.IsTuple.extBut x e n
 |false=>show Heap.IsList.extBut x e n
def sqAt.psh(x:sqAt b h a xs)(o:Obj):sqAt b (h.push o) a xs:=by
 cases b with
 |true=>show Heap.IsTuple.push x o
 |false=>show Heap.IsList.push x o
def sqAt.lt(x:sqAt b h a xs):a<h.objs.size:=by
 cases b with
 |true=>let(o,e,_):=(show h.IsTuple a xs from x);show cc e
 |false=>let(o,e,_):=(show h.IsList a xs from x);show cc e
section
variable{prog:Wz}{w:WX}{A:WQ}{E:V5->We->Prop}{s:We}
def ul(d:itAt b s.heap it l i)(e:sqAt b s.heap l xs)(a:xs[i]?=M x)
  (q:∀c,itAt b c it l (i+1)->Heap.SameBut it s.heap c->Q x {s with heap:=c}):wpAny (model prog w) A (SmallTypes.nextOf (.ref it)) Q E s:=by
 cases b with
 |true=>show lY d e a q
 |false=>show wpAny_nextOf_list_item d e a q
def zY(g:A.handled=P)(d:itAt b s.heap it l i)(f:sqAt b s.heap l xs)(a:xs[i]?=P)
  (q:∀c e,Heap.ExtBut it s.heap c->(∃o,c.get? e=M o/\o.cls=.type "StopIteration")->E (.ref e) {s with heap:=c}):wpAny (model prog w) A (SmallTypes.nextOf (.ref it)) Q E s:=by
 cases b with
 |true=>show mE g d f a q
 |false=>show wpAny_nextOf_list_end g d f a q
def zA(a:sqAt b s.heap l xs)
  (q:Q (.ref s.heap.objs.size) {s with heap:=s.heap.push {cls:=.type (xi b),data:=.fields #v[.ref l,.int 0 0]}}):wpAny (model prog w) A (pyIter (.ref l)) Q E s:=by
 cases b with
 |true=>show aaN a q
 |false=>show ZI a q
def CD{Q:V5->We->Prop}(D:abE z TI TO i1 i2 l1 l2)(k:acS s.heap z TI TO .none)
  (hTI:IsPair s.heap TI (.ref i1) (.ref i2)) (hTO:IsPair s.heap TO a b) (h1:itAt b1 s.heap i1 l1 n) (h2:itAt b2 s.heap i2 l2 n) (hl1:sqAt b1 s.heap l1 xs) (V:sqAt b2 s.heap l2 ys) (hx:xs[n]?=cL x) (hy:ys[n]?=cL y)
  (q:∀d,acS d z TI TO (rawInt s.heap.objs.size)->IsPair d TO x y->itAt b1 d i1 l1 (n+1)->itAt b2 d i2 l2 (n+1)->IsPair d s.heap.objs.size x y->d.objs.size=s.heap.objs.size+1->
   (∀c o,c≠z->c≠TO->c≠i1->c≠i2->s.heap.get? c=cL o->d.get? c=cL o)->Q (.ref s.heap.objs.size) {s with heap:=d}):
  wpAny (model prog w) A (Builtin.«zip.__next__» #[[.ref z],[]]) (λfin s'=>∃v,fin=.done (.ret v)/\Q v s') E s:=by
 show wpAny _ _ (field (.ref z) 2>>=_) _ _ _;show CL (Xe k W W ?_);show wpAny _ _ (field (.ref z) 3>>=_) _ _ _;show CL (Xe k W W ?_);show CL (XB hTI W ?_);show wpAny _ _ (SmallTypes.ownedTupleIsFree (.ref z)>>=_) _ _ _;show CL ?_;ext SmallTypes.ownedTupleIsFree;show CL (Xe k W W (Wf ?_));simp only[if_true];show CL (aaA ?_);show CL (Xe k W W ?_);show CL (YB k (by simp) λk₁ t g=>?_);let ae4:=t;clear t;show CL ?_;simp only[aeJ,aeW,aag,abO];show CL (CL (abj ?_));show wpAny _ _ (SmallTypes.nextOf (.ref i1)>>=_) _ _ _;show CL (ul (h1.ext g.extBut D.i1z) (hl1.ext g.extBut D.l1z) hx λk₂ Y i=>Wf ?_);let J:=i.extBut _ _ D.TOi1 (g.extBut _ _ D.TOz hTO);show CL (XB J W ?_);show CL (aaZ J λk₃ I h=>?_);let M:=I;clear I;show CL (YQ (Wf ?_));show CL (CL (abj ?_));show wpAny _ _ (SmallTypes.nextOf (.ref i2)>>=_) _ _ _;show CL (ul (((h2.ext g.extBut D.i2z).ext i.extBut D.i12.symm).ext h.extBut D.TOi2.symm) (((V.ext g.extBut D.l2z).ext i.extBut D.l2i1).ext h.extBut D.l2TO) hy λk₄ X l=>Wf ?_);let H:=l.extBut _ _ D.TOi2 M;show CL (XB H W ?_);show CL (aaZ H λf G j=>?_);let p:IsPair f TO x y:=G;clear G;show CL (YQ (Wf (Wf ?_)));show CL (XB p W ?_);show CL (wpAny_newTuple ?_);let U:f.objs.size=s.heap.objs.size:=by rw[j.1,l.1,h.1,i.1,g.1]
 let C:=j.extBut _ _ D.TOz.symm (l.extBut _ _ D.i2z.symm (h.extBut _ _ D.TOz.symm (i.extBut _ _ D.i1z.symm ae4)));let kp:∀c o,c≠z->c≠TO->c≠i1->c≠i2->s.heap.get? c=cL o->f.get? c=cL o:=λc o N Z c3 c4 e=>
  j.extBut _ _ Z (l.extBut _ _ c4 (h.extBut _ _ Z (i.extBut _ _ c3 (g.extBut _ _ N e))))
 let T:=((Y.ext h.extBut D.TOi1.symm).ext l.extBut D.i12).ext j.extBut D.TOi1.symm;let S:=X.ext j.extBut D.TOi2.symm;let ZK:=cc C;show wpAny _ _ (SmallTypes.ownedTupleHandOut (.ref z) (.ref f.objs.size)>>=_) _ _ _;show CL ?_;ext SmallTypes.ownedTupleHandOut;let R:acS (f.push {cls:=.type "tuple",data:=.seq #v[x,y]}) z TI TO .ellipsis:=b9 _ C;show CL (YB R (by simp) λk₇ P B=>?_);let L:=P;show YB L (by simp) λr O u=>?_;let m:=O;let up:∀c o,c≠z->f.get? c=cL o->r.get? c=cL o:=λc o N e=>u.extBut _ _ N (B.extBut _ _ N (b9 _ e));let F:=u.extBut _ _ (Xn ZK) (B.extBut _ _ (Xn ZK) (ck _ W));let K:r.objs.size=f.objs.size+1:=by rw[u.1,B.1,c9]
 rw[U]at m F K;show Wf #[_,W,?_];rw[U];show q r m (up _ _ D.TOz p) (T.to λo e=>up _ o D.i1z e) (S.to λo e=>up _ o D.i2z e) F K λc o N Z c3 c4 e=>up c o N (kp c o N Z c3 c4 e)
def Dy(T:A.handled=Ld)(D:abE z TI TO i1 i2 l1 l2)(d:acS s.heap z TI TO .none)
  (M:IsPair s.heap TI (.ref i1) (.ref i2)) (L:IsPair s.heap TO a b) (U:itAt b1 s.heap i1 l1 n) (Z:itAt b2 s.heap i2 l2 n) (F:sqAt b1 s.heap l1 xs) (J:sqAt b2 s.heap l2 ys) (O:xs[n]?=Ld\/ys[n]?=Ld)
  (q:∀k e,(∀c o,c≠z->c≠TO->c≠i1->c≠i2->s.heap.get? c=cL o->k.get? c=cL o)->(∃o,k.get? e=cL o/\o.cls=.type "StopIteration")->E (.ref e) {s with heap:=k}):
  wpAny (model prog w) A (Builtin.«zip.__next__» #[[.ref z],[]]) Q E s:=by
 show wpAny _ _ (field (.ref z) 2>>=_) _ _ _;show CL (Xe d W W ?_);show wpAny _ _ (field (.ref z) 3>>=_) _ _ _;show CL (Xe d W W ?_);show CL (XB M W ?_);show wpAny _ _ (SmallTypes.ownedTupleIsFree (.ref z)>>=_) _ _ _;show CL ?_;ext SmallTypes.ownedTupleIsFree;show CL (Xe d W W (Wf ?_));simp only[if_true];show CL (aaA ?_);show CL (Xe d W W ?_);show CL (YB d (by simp) λS y f=>?_);let H:=y;show CL ?_;simp only[aeJ,aeW,aag,abO];show CL (CL (abj ?_));show wpAny _ _ (SmallTypes.nextOf (.ref i1)>>=_) _ _ _;cases hx:xs[n]? with
 |none=>
  show CL (zY T (U.ext f.extBut D.i1z) (F.ext f.extBut D.l1z) hx λC e g K=>?_);let(I,i,j):=K;let m:=g _ _ D.i1z.symm H;let ne:e≠z:=λt=>by subst t;rw[m]at i;ext i;simp at j
  show YB m (by simp) λr _ h=>q r e (λc o G _ N _ t=>h.extBut _ _ G (g _ _ N (f.extBut _ _ G t))) #[I,h.extBut _ _ ne i,j]
 |some x=>
  let Y:ys[n]?=Ld:=by
   rcases O with t|t
   .rw[hx]at t;ext t
   .show t
  show CL (ul (U.ext f.extBut D.i1z) (F.ext f.extBut D.l1z) hx λC X g=>Wf ?_);let p:=g.extBut _ _ D.TOi1 (f.extBut _ _ D.TOz L);show CL (XB p W ?_);show CL (aaZ p λr P h=>?_);show CL (YQ (Wf ?_));show CL (CL (abj ?_));show wpAny _ _ (SmallTypes.nextOf (.ref i2)>>=_) _ _ _;show CL (zY T (((Z.ext f.extBut D.i2z).ext g.extBut D.i12.symm).ext h.extBut D.TOi2.symm) (((J.ext f.extBut D.l2z).ext g.extBut D.l2i1).ext h.extBut D.l2TO) Y λR e v K=>?_);let(I,i,j):=K;let l:=v _ _ D.i2z.symm (h.extBut _ _ D.TOz.symm (g.extBut _ _ D.i1z.symm H));let ne:e≠z:=λt=>by subst t;rw[l]at i;ext i;simp at j
  show YB l (by simp) λB _ u=>q B e (λc o G c2 N c4 t=>u.extBut _ _ G (v _ _ c4 (h.extBut _ _ c2 (g.extBut _ _ N (f.extBut _ _ G t))))) #[I,u.extBut _ _ ne i,j]
end
section
variable{Y:Wz}{w:WX}{A:WQ}{E:V5->We->Prop}{s:We}
def wZ(D:abE z TI TO i1 i2 l1 l2)(k:acS s.heap z TI TO .none)
  (h:IsPair s.heap TI (.ref i1) (.ref i2)) (g:IsPair s.heap TO a b) (p:itAt b1 s.heap i1 l1 n) (m:itAt b2 s.heap i2 l2 n) (f:sqAt b1 s.heap l1 xs) (e:sqAt b2 s.heap l2 ys) (l:xs[n]?=M x) (j:ys[n]?=M y)
  (q:∀d,acS d z TI TO (rawInt s.heap.objs.size)->IsPair d TO x y->itAt b1 d i1 l1 (n+1)->itAt b2 d i2 l2 (n+1)->IsPair d s.heap.objs.size x y->d.objs.size=s.heap.objs.size+1->
   (∀c o,c≠z->c≠TO->c≠i1->c≠i2->s.heap.get? c=M o->d.get? c=M o)->Q (M (.ref s.heap.objs.size)) {s with heap:=d}):
  wpAny (model Y w) A (pyNext (.ref z)) Q E s:=by
 let i:s.TypeIs (.ref z) "zip":=#[_,k,W];ext pyNext;show CL (alo (X4 i F.slot_zip_next ?_));show Yd F.slot_zip_next i F.entry_zip_next (CD D k h g p m f e l j λd G C B v u t r=>Wf (q d G C B v u t r)) (F.args_zip_next_1 _)
def w6(r:A.handled=P)(D:abE z TI TO i1 C l1 l2)(k:acS s.heap z TI TO .none)
  (i:IsPair s.heap TI (.ref i1) (.ref C)) (h:IsPair s.heap TO a b) (y:itAt b1 s.heap i1 l1 n) (v:itAt b2 s.heap C l2 n) (g:sqAt b1 s.heap l1 xs) (f:sqAt b2 s.heap l2 ys) (j:xs[n]?=P\/ys[n]?=P)
  (q:∀d,(∀c o,c≠z->c≠TO->c≠i1->c≠C->s.heap.get? c=M o->d.get? c=M o)->Q P {s with heap:=d}):wpAny (model Y w) A (pyNext (.ref z)) Q E s:=by
 let l:s.TypeIs (.ref z) "zip":=#[_,k,W];ext pyNext;show CL (alo (X4 l F.slot_zip_next ?_));show Yd F.slot_zip_next l F.entry_zip_next (Dy r D k i h y v g f j λd e p t=>?_) (F.args_zip_next_1 _);let(o,m,u):=t;show CL (aat #[o,m,u] isSubtype_stop (Wf (q _ p)))
end
abbrev Q7(h:Heap)(b:Bool)(a:J):Heap:=h.push {cls:=.type (xi b),data:=.fields #v[.ref a,.int 0 0]}
abbrev S0(h:Heap)(f e:Bool)(b a:J):Heap:=(Q7 h f b).push {cls:=.type (xi e),data:=.fields #v[.ref a,.int 0 0]}
abbrev Ts(h:Heap)(b f:Bool)(a e:J):Heap:=(S0 h b f a e).push {cls:=.type "tuple",data:=.seq #v[.ref h.objs.size,.ref (Q7 h b a).objs.size]}
abbrev QV(h:Heap)(f e:Bool)(b a:J):Heap:=(Ts h f e b a).push {cls:=.type "tuple",data:=.seq #v[.none,.none]}
abbrev Uu(h:Heap)(f e:Bool)(b a:J):Heap:=(QV h f e b a).push {cls:=.type "zip",data:=.fields #v[.none,.bool R,.bool R,.ref (S0 h f e b a).objs.size,.ref (Ts h f e b a).objs.size]}
theorem pG(e f:Bool)(a b:J)(xs n:Array U):
  Meets (Builtin.«zip.__new__» #[[.type "zip",.ref a,.ref b],[]]) (λ_ R s=>sqAt e s.heap a xs/\sqAt f s.heap b n/\R (.ok (.ret (.ref (QV s.heap e f a b).objs.size))) {s with heap:=Uu s.heap e f a b}):=
 .of_wp λp w A R s h=>by
  let(r,g,d,o,q):=s;let(j,i,h):=h;let t:=sub_zip;let m:sqAt e (We.heap #[r,g,d,o,q]) a xs:=j;let l:sqAt f (We.heap #[r.push {cls:=.type (xi e),data:=.fields #v[.ref a,.int 0 0]},g,d,o,q]) b n:=sqAt.psh i _
  wp_walk using zA m,zA l
  show#[_,W,h]
section
variable{Y:Wz}{w:WX}{A:WQ}{E:V5->We->Prop}{s:We}
def G2(e:h.get? it=M {cls:=.type (xi b),data:=.fields #v[.ref l,.int 0 0]}):itAt b h it l 0:=by
 cases b with
 |true=>show#[_,e,W,W]
 |false=>show#[_,e,W,W]
def Cc(l:sqAt b1 s.heap l1 xs)(j:sqAt b2 s.heap C ys)
  (q:∀d,acS d (s.heap.objs.size+4) (s.heap.objs.size+2) (s.heap.objs.size+3) .none->IsPair d (s.heap.objs.size+2) (.ref s.heap.objs.size) (.ref (s.heap.objs.size+1))->
   IsPair d (s.heap.objs.size+3) .none .none->itAt b1 d s.heap.objs.size l1 0->itAt b2 d (s.heap.objs.size+1) C 0->(∀c o,s.heap.get? c=M o->d.get? c=M o)->Q (.ref (s.heap.objs.size+4)) {s with heap:=d}):
  wpAny (model Y w) A (call (.type "zip") [.ref l1,.ref C]) Q E s:=by
 show callType_new F.called_zip () (F.typeCall_zip_2 _ _) (F.newCall_zip_2 _ _) (λobj=>F.args_object_init_3 obj _ _) F.entry_zip_new (pG b1 b2 l1 C xs ys) #[l,j,?_];let i:(Q7 s.heap b1 l1).objs.size=s.heap.objs.size+1:=c9 ..;let h:(S0 s.heap b1 b2 l1 C).objs.size=s.heap.objs.size+2:=by rw[c9,i]
 let g:(Ts s.heap b1 b2 l1 C).objs.size=s.heap.objs.size+3:=by rw[c9,h]
 let p:(QV s.heap b1 b2 l1 C).objs.size=s.heap.objs.size+4:=by rw[c9,g]
 let v:∀c o,s.heap.get? c=M o->(Q7 s.heap b1 l1).get? c=M o:=λc o e=>b9 _ e;let n:∀c o,(Q7 s.heap b1 l1).get? c=M o->(S0 s.heap b1 b2 l1 C).get? c=M o:=λc o e=>b9 _ e;let f:∀c o,(S0 s.heap b1 b2 l1 C).get? c=M o->(Ts s.heap b1 b2 l1 C).get? c=M o:=λc o e=>b9 _ e;let b:∀c o,(Ts s.heap b1 b2 l1 C).get? c=M o->(QV s.heap b1 b2 l1 C).get? c=M o:=λc o e=>b9 _ e;let a:∀c o,(QV s.heap b1 b2 l1 C).get? c=M o->(Uu s.heap b1 b2 l1 C).get? c=M o:=λc o e=>b9 _ e;let m:(Uu s.heap b1 b2 l1 C).get? (QV s.heap b1 b2 l1 C).objs.size=M _:=ck _ W;let r:=a _ _ (ck _ W);let t:=a _ _ (b _ _ (ck _ W));let u:=a _ _ (b _ _ (f _ _ (ck _ W)));let y:=a _ _ (b _ _ (f _ _ (n _ _ (ck _ W))));rw[h,g,p]at m;rw[i,h]at t;rw[g]at r;rw[i]at u;rw[p];show#[#[_,m,W],q _ m t r (G2 y) (G2 u) λc o e=>a _ _ (b _ _ (f _ _ (n _ _ (v _ _ e))))]
end
end PySem
namespace L3
open PySem PySem.Spec PyProof.Rows L2
def C6(b:Bool)(K:lD)(H:Hp)(a:J)(xs:G V):Prop:=match b with
 |true=>ZP K H a xs
 |false=>Z1 K H a xs
def Ul(K:lD)(e b:Bool)(a c:J):It:=
 #[λi H=>∃xs ys x y,C6 e K H a xs/\C6 b K H c ys/\xs[i]?=M x/\ys[i]?=M y,
  λi H v f=>∃p x y,H p=P/\v=.ref p/\(∀xs,C6 e K H a xs->xs[i]?=M x)/\(∀ys,C6 b K H c ys->ys[i]?=M y)/\f=aW H p (.tup [x,y]),
  λi H=>∃xs ys,C6 e K H a xs/\C6 b K H c ys/\(xs.length<=i\/ys.length<=i)]
def Ln(I:Inv X pins σ H s)(i:Z1 X.K H a xs)(h:Z1 X.K H a ys):xs=ys:=by
 let(e,g,(o,k,e1,_,n,l),_):=I.list i;let(b,f,(m,k2,e2,_,p,j),_):=I.list h;rw[e1]at e2;ext e2;let:e=b:=by
  let q:e.toArray=b.toArray:=by injection l.symm.trans j
  simpa using q
 subst this;show g.inj f
def l8(I:Inv X pins σ H s)(h:C6 b X.K H a xs):∃c,Vals xs c/\sqAt b s.heap a c.toArray:=by
 cases b with
 |true=>let(c,f,p,e):=I.tuple h;show#[c,f,p]
 |false=>let(c,f,p,e):=I.list h;show#[c,f,p.isList]
def Af(I:Inv X pins σ H s)(f:C6 b X.K H a xs)(e:C6 b X.K H a ys):xs=ys:=by
 cases b with
 |true=>show JL I f e
 |false=>show Ln I f e
def BL{ch:G J}(I:Inv X pins σ H s)(g:∀b∈ch,lR X pins H b)
  (k:∀b u,b∉ch->s.heap.get? b=M u->C.get? b=M u):Inv X pins σ H {s with heap:=C,toks:=t'}:=by
 let f:∀b u,H b=M u->b∉ch:=λb u e z=>by rw[(g b z).1]at e;ext e
 show I.step (λb j=>?_) (λb u _ _ a e _=>k b u a e) (λb u _ _ a e _=>#[u.slots,k b u a e]) (λ_ _ _ _ n=>n)
  (λb u a e=>#[u,k b u a e]) (λ_ _ e=>e) (λ_ _ _ e=>e) (λb y e=>#[#v[],by rw[e];simp]) (λm hm=>?_) (λb u e=>?_) I.bare
 .let(_,t,_,p,o,l):=g b j;show#[p,t,o,l]
 .let(h,es,w,i,r):=hm;show#[h,es,w,k _ h (λz=>(g _ z).2.1 W) i,r]
 .show(I.Xw b u e).Z0 (λc v a q=>k c v ?_ q) (λ_ q=>q) λ_ _ q=>q
  rcases a with z|z
  .rw[z];show f b u e
  .show f c _ z
theorem Fv{K:lD}{d}(b1 V:Bool)(z TI TO C B U T:Wd)(D:abE z TI TO C B U T):
  Turn Pz0 w K (.Tuple elts d tp) (Ul K b1 V U T) [z,TI,TO,C,B] z (λi h=>acS h z TI TO .none/\IsPair h TI (.ref C) (.ref B)/\(∃a b,IsPair h TO a b)/\itAt b1 h C U i/\itAt V h B T i) where
 mem:=by simp
 obj:=λi h f b e=>by
  let(m,j,(a,c,p),A,r):=f;simp only[WE,XG,or_false]at e;rcases e with rfl|rfl|rfl|rfl|rfl
  .show#[_,m,λv q=>by cases(show Data.fields _=Data.cell v from q)]
  .show#[_,j,λv q=>by cases(show Data.seq _ _=Data.cell v from q)]
  .show#[_,p,λv q=>by cases(show Data.seq _ _=Data.cell v from q)]
  .show A.live
  .show r.live
 keep:=λi h h' f k=>by let(m,j,(a,c,p),A,r):=f;show#[k z (by simp) _ m,k TI (by simp) _ j,#[a,c,k TO (by simp) _ p],A.to λo q=>k C (by simp) o q,r.to λo q=>k B (by simp) o q]
 item:=by
  intro X hP hw hK hc i l s σ H E I N f hg;subst hP hw hK;let(m,j,(a,c,p),A,r):=f;let(xs,ys,x,y,L,J,hx,hy):=hg;let(W6,Q,S):=l8 I L;let(G,O,R):=l8 I J;let(u,hu,ru):=Q.get hx;let(t,ht,rt):=O.get hy;show wZ D m j p A r S R (by simpa using hu) (by simpa using ht) λk z1 o1 g1 g2 pr sz M=>#[_,W,?_];show wpAny_letOwnedTupleGo_zip z1 λF z2 e2=>?_;let Y:=cc m;let hIl:=cc j;let hOl:=cc p;let h1l:C<s.heap.objs.size:=by let(_,q,_):=A.live;show cc q
  let h2l:B<s.heap.objs.size:=by let(_,q,_):=r.live;show cc q
  let hn:=I.Xw.fresh (Wg _);let d:∀b o,b∉[z,TI,TO,C,B]->s.heap.get? b=cL o->F.get? b=cL o:=λb o e q=>by simp only[WE,XG,or_false,not_or]at e;show(e2.2 b e.1).trans (M b o e.1 e.2.2.1 e.2.2.2.1 e.2.2.2.2 q)
  let hT2:=(e2.2 _ (Xn Y)).trans pr
  let I2:Inv X l σ (aW H s.heap.objs.size (.tup [x,y])) {s with heap:=F}:=
   I.ac8 N d (Wg _) #[by show 2<=Wm;decide,[u,t],.cons ru (.cons rt .nil),#[_,hT2,#[W,_,W],W]]
  let g:∀b o,b≠z->k.get? b=cL o->F.get? b=cL o:=λb o n q=>(e2.2 b n).trans q;show#[.ref s.heap.objs.size,_,I2,W,#[_,x,y,hn,W,λzs hs=>by rw[Af I hs L];show hx,λzs hs=>by rw[Af I hs J];show hy,W],
   #[z2,g _ _ D.TIz (M _ _ D.TIz D.TITO D.TIi1 D.TIi2 j),#[_,_,g _ _ D.TOz o1],g1.to λo q=>g _ _ D.i1z q,g2.to λo q=>g _ _ D.i2z q],λb e=>?_]
  let hb2:b<s.heap.objs.size:=by simp only[WE,XG,or_false]at e;rcases e with rfl|rfl|rfl|rfl|rfl<;>assumption
  rw[ar (WG hb2)];show(N b e).1
 done:=by
  intro X hP hw hK hc i l s σ H E I N f hg;subst hP hw hK;let(m,j,(a,c,p),A,r):=f;let(xs,ys,L,J,Z):=hg;let(W6,Q,S):=l8 I L;let(G,O,R):=l8 I J;let hl1:=Q.length;let hl2:=O.length;let hd:W6.toArray[i]?=Ld\/G.toArray[i]?=Ld:=by
   rcases Z with q|q
   .show .inl (by simp;ext)
   .show .inr (by simp;ext)
  show w6 (I.ok.hd hc) D m j p A r S R hd λk M=>#[W,?_];show BL I N λb o e q=>by simp only[WE,XG,or_false,not_or]at e;show M b o e.1 e.2.2.1 e.2.2.2.1 e.2.2.2.2 q
 self:=λ_ _ _ _ _ f h=>ag6 f.1 h
def B1(n b a:Nat)(f:b<n)(e:a<n):abE (n+4) (n+2) (n+3) n (n+1) b a:=by constructor<;>(show(_:Nat)≠_;ext)
def M0(K:lD)(d:TA):TI:=λe H R=>d e H λg b=>∃a c b1 f,g=[.ref a,.ref c]/\(∃xs,C6 b1 K b a xs)/\(∃ys,C6 f K b c ys)/\R (Ul K b1 f a c) b
def Fo:Xg "zip"=M (.type "zip"):=by left
def P2{d}(S:Gl X "zip")(hm:X.mg "zip"=Ld)(k:PA X [l,m] ta)(O:Wu [l,m] X.env=(V8,eval l X.env)::Wu [m] X.env:=by rfl)(P:(backTo pos (Wu [m] X.env)).any (·.1)=V8:=by rfl):
  PI X (.Tuple elts d tp) (.Call (.Name "zip" p) [l,m] [] pos) (M0 X.K ta):=by
 intro f s y H R I h;show Call_ (jA I S hm Fo (XU (bJ (k pos f s y H _ I h) λus g #[vs,w,j,G,J2]=>?_) O P));let(a,c,Z,Y,e,(xs,E),(ys,C),q):=J2;subst e;let(u,t,rfl,F,rt):=Aa G;ext F;ext rt;let(W6,rx,r):=l8 j E;let(N,ry,o):=l8 j C;let U:∀b∈[g.heap.objs.size+4,g.heap.objs.size+2,g.heap.objs.size+3,g.heap.objs.size,g.heap.objs.size+1],lR X f w b:=λb v=>by
  let i:g.heap.objs.size<=b:=by simp only[WE,XG,or_false]at v;let T:=v;ext
  show j.acE i (j.Xw.fresh i)
 show Cc r o λh1 n M L B A Q=>?_;show ag6 n ?_;show#[g.heap.objs.size+4,_,_,_,w,W,j.kept Q,Fv Z Y _ _ _ _ _ a c (B1 _ _ _ r.lt o.lt),#[n,M,#[_,_,L],B,A],U,q]
def N8:Wy->Bool
 |.Starred _ _=>S
 |_=>R
def sE(e:Wy)(es:G Wy)(env:Env)(h:N8 e=R):Wu (e::es) env=(R,eval e env)::Wu es env:=by ext e<;>first|rfl|ext h
def kO:G D->G D->G D
 |x::r,y::q=>.tuple [x,y]::kO r q
 |_,_=>[]
theorem wX:∀(xs a:G D),(kO xs a).length=min xs.length a.length
 |[],_=>by simp[kO]
 |_::_,[]=>by simp[kO]
 |_::r,_::q=>by simp only[kO,Wo,wX r q];ext
theorem wm:∀(xs a:G D) (i:Nat),(kO xs a)[i]?=(xs[i]?).bind λx=>(a[i]?).map λy=>.tuple [x,y]
 |[],_,_=>by simp[kO]
 |x::r,[],i=>by ext i<;>simp[kO]
 |x::r,y::q,0=>by simp[kO]
 |x::r,y::q,i+1=>by simp only[kO,aco];show wm r q i
section
variable{K:lD}{E:XK}{B O Z:bE}{T H X:Hp}{N:L2.St}{Y ρ':aL}{v:V}
def acz(b:Bool)(O:bE)(K:lD)(H:Hp)(a:J)(xs:G V):Prop:=match b with
 |true=>aaj O K H a xs
 |false=>abg O K H a xs
def acz.ev(h:acz b O K H a xs)(e:Ev O H Z X):acz b Z K X a xs:=by
 cases b with
 |true=>show aaj.ev h e
 |false=>show abg.ev h e
def acz.at(h:acz b O K H a xs):C6 b K H a xs:=by
 cases b with
 |true=>show(show aaj O K H a xs from h).1
 |false=>show(show abg O K H a xs from h).1.sq
def ON(h:acz b1 O K H a xs)(hd:XS O K H xs ds)(g:acz b2 O K H c ys)(F:XS O K H ys es):xx K (Ul K b1 b2 a c) O H (kO ds es):=by
 intro Z X e n;let j:=h.ev e;let f:=hd.ev e;let m:=g.ev e;let l:=F.ev e;rw[wX];show#[λi hi=>?_,#[xs,ys,j.at,m.at,?_]]
 .let w:i<ds.length:=by ext
  let u:i<es.length:=by ext
  let(x,C,dx):=f.get (Ww w);let(y,A,G):=l.get (Ww u);show#[#[xs,ys,x,y,j.at,m.at,C,A],?_];rintro t I ⟨p,L,J,b,rfl,hx',Q,rfl⟩;let r:=hx' xs j.at;let o:=Q ys m.at;rw[C]at r;rw[A]at o;ext r;ext o;show#[bz b _,.tuple [ds[i],es[i]],?_,.tup #[ZP.of az,λq=>b4 q (n p b)] (.cons (dx.ev (Ev.grow (bz b _))) (.cons (G.ev (Ev.grow (bz b _))) .nil))];rw[wm,Ww w,Ww u];rfl
 .rw[hd.length,F.length];ext
def MH(h:DV O K H v d)(q:eJ d=M ds):∃b a xs,v=.ref a/\acz b O K H a xs/\XS O K H xs ds:=by
 cases h with
 |tup h e=>ext q;show#[S,_,_,W,h,e]
 |lst h e=>ext q;show#[R,_,_,W,h,e]
 |_=>ext q
def BQ(c:FA):FI:=λY=>(c Y).bind λa=>(Res.Xf (nV a.2 a.1)).bind λb=>match b.1 with
 |[d,e]=>(Res.Xf (eJ d)).bind λds=>(Res.Xf (eJ e)).bind λes=>.ok (kO ds es,b.2)
 |_=>.bad
def Qb(h:AO K E ta fa):IO K E (M0 K ta) (BQ fa):=by
 intro B T O N H Y L R w;show h B T O N H Y _ R (w.bind.imp λa b M Q I e1 F m=>?_);let((ds,i),q,b):=b.Xf;let(G,e2,R2,p):=re F m q;dsimp only at b;cases p with
 |nil=>show b.elim
 |cons o e=>
  cases e with
  |nil=>show b.elim
  |cons e n=>
   cases n with
   |cons _ _=>show b.elim
   |nil=>let(es,l,b):=WR.Xf b;let(fs,j,b):=WR.Xf b;let(y,C,xs,rfl,g,t):=MH o l;let(u,A,J,rfl,f,r):=MH e j;show#[C,A,y,u,W,#[_,g.at],#[_,f.at],b G _ I (e1.trans e2) R2 (ON g t f r)]
def iS(d e:D):I RV:=match d,e with
 |.str z,.int i=>if z.length<=1000000 then(kP z.cps.toList i).map λc=>.fz (.str #[#v[c]])else P
 |_,_=>P
def Kl:jG K (RK K) iS:=by
 intro O H x y l g j Q n b a e q;unfold iS at e;split at e
 .split at e
  .rename_i z i f
   cases h:kP z.cps.toList i with
   |none=>rw[h]at e;ext e
   |some c=>rw[h]at e;ext e;ext b;ext a;show .inr (.inr #[z,i,c,W,W,p7 f,h,q.at (.str _)])
  .ext e
 .ext e
def vP:G D->I RV
 |[.str z]=>if z.length<=1000000 then M (.fz (.int z.length))else P
 |_=>P
def J7:B2 K (λxs H Q=>∃x n,xs=[x]/\Qy K x H n/\Q (.int n) H) vP:=by
 intro O H xs ds h Q n a e q;unfold vP at e;split at e
 .split at e
  .rename_i z b
   ext e;cases a with
   |cons g f=>ext f;ext g;show#[_,z.length,W,#[p7 b,W],q.at (.int _)]
  .ext e
 .ext e
end
end L3
namespace L3
open PySem L2
def U2(N C:aL->Prop)(T:RV->Prop):Res Fl->Prop
 |.ok (.nx a)=>N a
 |.ok (.ct a)=>C a
 |.ok (.rt v)=>T v
 |_=>False
structure Go(r:Res Fl)(N C:aL->Prop)(T:RV->Prop):Prop where
 out:U2 N C T r
section
variable{ρ ρ1 Z ρ3:aL}{f g:FS}{fe:FE}{pv:PV}{d:D}{rv:RV}{ds:b5 D}{N C:aL->Prop}{T:RV->Prop}
def Go.eq(e:r=r')(h:Go r' N C T):Go r N C T:=by rw[e];show h
def Go.imp(h:Go r N C T)(b:∀ρ,N ρ->N' ρ)(e:∀ρ,C ρ->C' ρ)(a:∀v,T v->T' v):Go r N' C' T':=by
 show#[?_];let h:=h.out;cases r with
 |bad=>show h
 |er x=>show h
 |ok i=>
  cases i with
  |nx r=>show b _ h
  |ct r=>show e _ h
  |rt v=>show a _ h
  |bk r=>show h
def yr(h:Go (f ρ) (λr=>Go (g r) N C T) C T):Go (bH f g ρ) N C T:=by
 show#[?_];let h:=h.out;ext bH;cases q:f ρ with
 |bad=>rw[q]at h;show h.elim
 |er x=>rw[q]at h;show h.elim
 |ok a=>
  rw[q]at h;cases a with
  |nx r=>show(show Go (g r) N C T from h).out
  |ct r=>show h
  |rt v=>show h
  |bk r=>show h.elim
def Mz(h:c ρ=.ok (b,ρ1))(a:b=S->Go (f ρ1) N C T)(e:b=R->Go (g ρ1) N C T):Go (lh c f g ρ) N C T:=by
 ext lh;rw[h,eg];cases b with
 |true=>show a W
 |false=>show e W
theorem Fb(b:fe ρ=.ok (pv,ρ1))(a:gt pv ρ1=.ok Z)(h:N Z):Go (eA fe gt ρ) N C T:=.eq (yu b a W) #[h]
theorem tW(a:fe ρ=.ok (pv,ρ1))(h:N ρ1):Go (ny fe ρ) N C T:=.eq (Br a) #[h]
theorem fu(b:fe ρ=.ok (pv,ρ1))(a:BS ρ1 pv=M rv)(h:T rv):Go (dU fe ρ) N C T:=.eq (uG b a) #[h]
theorem zy(h:N ρ):Go (eN ρ) N C T:=#[h]
theorem Aq(I:Nat->aL->Prop):∀(ds:G D) (k:Nat) (ρ:aL),I k ρ->(∀i d ρ,ds[i]?=M d->I (k+i) ρ->∃ρ1,gt (.fz d) ρ=.ok ρ1/\Go (b ρ1) (I (k+i+1)) (I (k+i+1)) T)->Go (nK gt b ds ρ) (I (k+ds.length)) C T
 |[],k,ρ,h0,_=>#[h0]
 |d::r,k,ρ,h0,u=>by
  let(ρ1,o,a):=u 0 d ρ W h0;let a:=a.out;let l:∀j,I (k+1) j->Go (nK gt b r j) (I (k+(r.length+1))) C T:=λj h=>by
   let e:k+(r.length+1)=k+1+r.length:=by ext
   rw[e];show Aq I r (k+1) j h λi t m w n=>?_;let e:k+1+i=k+(i+1):=by ext
   rw[e]at n⊢;show u (i+1) t m (by simpa using w) n
  show#[?_];show U2 _ _ _ ((gt (.fz d) ρ).bind _);rw[o,eg];cases q:b ρ1 with
  |bad=>rw[q]at a;show a.elim
  |er x=>rw[q]at a;show a.elim
  |ok p=>
   rw[q]at a;cases p with
   |nx r=>show(l _ a).out
   |ct r=>show(l _ a).out
   |rt v=>show a
   |bk r=>show a.elim
def NU(I:Nat->aL->Prop)(k:o ρ=.ok (ds,ρ1))(j:I 0 ρ1)(a:∀i d ρ,ds[i]?=M d->I i ρ->∃ρ1,gt (.fz d) ρ=.ok ρ1/\Go (b ρ1) (I (i+1)) (I (i+1)) T)(e:∀c,I ds.length c->N c):Go (rE o gt b ρ) N C T:=by let:=Aq (C:=C) I ds 0 ρ1 j (by simpa using a);rw[Yj]at this;show .eq (yO k) (this.imp e (λ_ h=>h) λ_ h=>h)
def pz(a:ds.map (λd=>M (.fz d))++Wk (n - ds.length) P=ρ)(h:Go (g ρ) (λ_=>T (.fz .none)) (λ_=>False) T):∃rv,gw n g ds=.ok rv/\T rv:=by
 let h:=h.out;ext gw;rw[a];cases q:g ρ with
 |bad=>rw[q]at h;show h.elim
 |er x=>rw[q]at h;show h.elim
 |ok b=>
  rw[q]at h;cases b with
  |nx r=>show#[_,W,h]
  |ct r=>show h.elim
  |rt v=>show#[_,W,h]
  |bk r=>show h.elim
def iW(a:ds.map (λd=>M (.fz d))++Wk (n - ds.length) P=ρ)(h:Go (g ρ) (λ_=>RV.fz .none=v) (λ_=>False) (λr=>r=v)):gw n g ds=.ok v:=by let(rv,e,b):=pz (T:=λr=>r=v) a h;rw[e,b]
theorem cK(b:fe ρ=.ok (pv,ρ1))(a:gt pv ρ1=.ok Z)(c:Z=ρ3)(h:Go (g ρ3) N C T):Go (bH (eA fe gt) g ρ) N C T:=.eq (Fa (yu b a c)) h
theorem jI(b:fe ρ=.ok (pv,ρ1))(a:BS ρ1 pv=M rv)(h:T rv):Go (bH (dU fe) g ρ) N C T:=.eq (EF (uG b a)) #[h]
theorem fG(h:Go (g ρ) N C T):Go (bH eN g ρ) N C T:=.eq W h
def nt(i:c ρ=.ok (b,ρ1))(a:b=S->Go (bH f1 g ρ1) N C T)(h:b=R->Go (bH f2 g ρ1) N C T):Go (bH (lh c f1 f2) g ρ) N C T:=by
 let e:bH (lh c f1 f2) g ρ=if b=S then bH f1 g ρ1 else bH f2 g ρ1:=by unfold bH lh;rw[i,eg];ext b<;>rfl
 show .eq e ?_;cases b with
 |true=>show a W
 |false=>show h W
theorem xK(I:Nat->aL->Prop)(j:o ρ=.ok (ds,ρ1))(h:I 0 ρ1)(a:∀i d ρ,ds[i]?=M d->I i ρ->∃ρ1,gt (.fz d) ρ=.ok ρ1/\Go (b ρ1) (I (i+1)) (I (i+1)) T)(e:∀c,I ds.length c->Go (g c) N C T):Go (bH (rE o gt b) g ρ) N C T:=
 yr (NU I j h a e)
theorem sN(I:aL->Prop)(P:Nat->D->Prop):∀(ds:G D) (k:Nat) (ρ:aL) (acc:G D),I ρ->acc.length+ds.length<=1000000->(∀i d,ds[i]?=M d->∀ρ,I ρ->∃x c,jF gt ft fe d ρ=.ok (M x,c)/\I c/\P (k+i) x)->
  ∃xs,cY gt ft fe ds ρ acc=.ok (acc++xs)/\xs.length=ds.length/\∀i x,xs[i]?=M x->P (k+i) x
 |[],k,ρ,acc,_,_,_=>#[[],by show Res.ok acc=_;simp,W,λi x h=>by simp at h]
 |d::r,k,ρ,acc,h0,v,u=>by
  let(x,c,n,m,l):=u 0 d W ρ h0;rw[Wo]at v;let(xs,q,p,o):=sN I P r (k+1) c (acc++[x]) m (by rw[Wi];simp;ext) λi t w a j=>by
   let e:k+1+i=k+(i+1):=by ext
   rw[e];show u (i+1) t (by simpa using w) a j
  show#[x::xs,?_,by rw[Wo,p,Wo],λi y b=>?_]
  .rw[pR n ()];show cY gt ft fe r c (acc++[x])=_;rw[q,Xb];rfl
  .cases i with
   |zero=>cases(show M x=M y from b);show l
   |succ i=>
    let e:k+(i+1)=k+1+i:=by ext
    rw[e];show o i y (by simpa using b)
def lg(I:aL->Prop)(P:Nat->D->Prop)(e:I ρ)(b:ds.length<=1000000)(a:∀i d,ds[i]?=M d->∀ρ,I ρ->∃x c,jF gt ft fe d ρ=.ok (M x,c)/\I c/\P i x):
  ∃xs,jK (cY gt ft fe ds ρ [])=.ok xs/\xs.length=ds.length/\∀i x,xs[i]?=M x->P i x:=by
 let(xs,l,j,h):=sN I P ds 0 ρ [] e (by simpa using b) (by simpa using a);show#[xs,by rw[l];rfl,j,by simpa using h]
theorem lW{α:Type}{f:α->D}{Q:Nat->α->Prop}:∀(xs:G D) (k:Nat),(∀i x,xs[i]?=M x->∃a,x=f a/\Q (k+i) a)->∃as:G α,xs=as.map f/\∀i a,as[i]?=M a->Q (k+i) a
 |[],_,_=>#[[],W,λi a h=>by simp at h]
 |x::r,k,h=>by
  let(a,e,q):=h 0 x W;let(as,e2,l):=lW (f:=f) (Q:=Q) r (k+1) λi y m=>by
   let e:k+1+i=k+(i+1):=by ext
   rw[e];show h (i+1) y (by simpa using m)
  show#[a::as,by rw[e,e2];rfl,λi b j=>?_];cases i with
  |zero=>cases(show M a=M b from j);show q
  |succ i=>
   let e:k+(i+1)=k+1+i:=by ext
   rw[e];show l i b (by simpa using j)
def SS(c:Wa.strOk a=S)(e:Wa.strOk b=S):cC (.str a) (.str b)=M (.fz (.bool (a==b))):=by ext cC;rw[show iH (.str a)=S by ext iH;rw[show Wa.canLay0 (.str a)=S from c];rfl,show Wa.canLay0 (.str b)=S from e,Xv,ax W];rfl
def Me(b:Wa.strOk a=S):cC (.str a) (.str a)=M (.fz (.bool S)):=by rw[SS b b,d9]
def AX(c:Wa.strOk a=S)(e:Wa.strOk b=S)(h:(a==b)=R):cC (.str a) (.str b)=M (.fz (.bool R)):=by rw[SS c e,h]
theorem vh{α:Type}{xs:G α}{i:Int}{v:α}(a:0<=i)(h:xs[i.toNat]?=M v):kP xs i=M v:=PP a h
def R8(a:0<=i)(h:ds[i.toNat]?=M d):aQ (.list ds) (.int i)=M (.fz d):=by show(kP ds i).map RV.fz=_;rw[vh a h];rfl
def IR{s:G Nat}(e:s.Pairwise (·<·))(h:∀k∈s,k<n):s.length<=n:=by
 let:∀(s:G Nat) (a:Nat),s.Pairwise (·<·)->(∀k∈s,a<=k/\k<n)->s.length<=n - a:=by
  intro s
  induction s with
  |nil=>intro a _ _;show W0 _
  |cons x r i=>intro a e h;let(l,j):=XA.mp e;let m:=h x Wh;let:=i (x+1) j λk b=>#[l k b,(h k (Wj _ b)).2];rw[Wo];ext
 show this s 0 e λk b=>#[W0 _,h k b]
def zl(c:fr ρ=.ok (o,ρ1))(hd:nV ρ1 o=M ([d,e],Z))(b:eJ d=M es)(a:eJ e=M fs):BQ fr ρ=.ok (kO es fs,Z):=by ext BQ;rw[c,eg,hd,aA,eg];dsimp only;rw[b,aA,eg,a,aA,eg]
def wS{f g:D->D->I RV}(k:fa ρ=.ok (pa,ρ))(j:fb ρ=.ok (o,ρ))(i:fc ρ=.ok (pc,ρ))(b:rB ρ (bq pa)=M dx)(a:rB ρ (bq o)=M dy)(c:rB ρ pc=M dz)(h:f dx dy=M (.fz (.bool b1)))(e:b1=S->g dy dz=M (.fz (.bool b2))):kS f g fa fb fc ρ=.ok (.fz (.bool (b1&&b2)),ρ):=by
 ext kS;rw[k,eg,j,eg];dsimp only;rw[b,aA,eg,a,aA,eg,h,aA,eg];cases b1 with
 |false=>rfl
 |true=>dsimp only;rw[i,eg];dsimp only;rw[a,aA,eg,c,aA,eg,e W,aA,eg];rfl
end
end L3
namespace L3
open PySem PySem.Spec PyProof.Rows L2 PySem.Builtin PySem.Builtin.Str
section
variable{X:Cx}
theorem Fh{z:Str}{u:U}(h:RelV (.str z) u):∃t,u=.str z t:=h
theorem sj:∀{a:G Str} {b:G U},Vals (a.map V.str) b->∃l,b=strValues l/\l.map (·.1)=a
 |[],_,.nil=>#[[],W,W]
 |z::r,_,.cons h t=>by let(k,rfl):=Fh h;let(l,rfl,e):=sj t;show#[(z,k)::l,W,by rw[Wv,e]]
def ML(K:lD):V->G V->Hp->VK->Prop:=λx xs H Q=>∃a l b,x=.str a/\xs=[.ref l]/\Z1 K H l (b.map V.str)/\ad8 a b=S/\Q (.str (Txt.join a b)) H
def Kp:Q1 X "str.join" (ML X.K):=by
 rintro f s j H x xs v m Q I h b ⟨a,l,n,rfl,rfl,y,Xw,q⟩;let(t,rfl):=Fh h;let(u,rfl,i):=b.one;ext i;let(r,w,pl,p):=I.list y;let(e,rfl,rfl):=sj w;let g:tooLong ((e.map (·.1)).toArray.foldl (·+·.length+a.length) 0)=R:=by unfold ad8 at Xw;rwa [Yi]at Xw
 show Zq F.slot_str_join (acP _ _ _) F.entry_str_join (F.args_str_join_2 _ _) (meets_str_join_list a t l e g) #[pl.isList,post_join e #[joinFit_length g,λo k=>#[.str _,H,I.tok k,#[_,W],q]]]
def RP:V->I Int->I Int->Hp->VK->Prop:=λx lo a H Q=>∃z,x=.str z/\z.length<=Wm/\Q (.str (Txt.slice z lo a)) H
def Pt:MC X RP:=by
 rintro b s h H x v p o lo w r Q I n e pl g ⟨z,rfl,y,q⟩;let(t,rfl):=Fh n;show#["str",_,F.slot_str_getitem.lookup,acP _ _ _,?_];let a:(Txt.slice z lo w).length<=Wm/\∀f k,EP X b h Q (.str (Txt.slice z lo w) f) {s with toks:=k}:=#[WU (Txt.slice_le z _ _) y,λf k=>#[.str _,H,I.tok k,#[_,W],q]];cases pl with
 |none=>cases g with
  |none=>show Zb (l:=P) (u:=P) (st:=P) e W (aaG a)
  |int j u=>show Zb (l:=P) (u:=M (j,u)) (st:=P) e W (aaG a)
 |int i u=>cases g with
  |none=>show Zb (l:=M (i,u)) (u:=P) (st:=P) e W (aaG a)
  |int j m=>show Zb (l:=M (i,u)) (u:=M (j,m)) (st:=P) e W (aaG a)
end
section
variable{K:lD}{E:XK}{B O N:bE}{Y H L:Hp}{Z:L2.St}{X T:aL}{v:V}
def A2:PV->I Str
 |.fz (.str z)=>M z
 |_=>P
def Ea{pv:PV}{z:Str}(p:Z7 K Y O Z H X v pv)(e:A2 pv=M z):v=.str z:=by
 unfold A2 at e;split at e
 .ext e;cases(show DV O K H v (.str z)from p);rfl
 .ext e
def UE(K:lD)(r:V->G V->Hp->VK->Prop)(f:Str->G D->I RV):Prop:=∀(O:bE) (H:Hp) (z:Str) (xs:G V) (ds:G D) (a:RV) (Q:VK),lZ O H->Paired (DX O K H) xs ds->f z ds=M a->Fin O K H Q a->r (.str z) xs H Q
def Pw(f:Str->G D->I RV)(c:FE)(d:FA):FE:=λX=>(c X).bind λa=>(Res.Xf (A2 a.1)).bind λz=>(d a.2).bind λb=>(Res.Xf (sd b.2 b.1)).bind λds=>(Res.Xf (f z ds)).bind λe=>.ok (e.pv,b.2)
def Rn{r:V->b5 V->Hp->VK->Prop}{f:Str->b5 D->I RV}{to:TE}{c:TA}{d:FE}{k:FA}(o:UE K r f)(p:EO K E to d)(s:AO K E c k):EO K E (OU K "str" r to c) (Pw f d k):=by intro B Y O Z H X Q R w;show p B Y O Z H X _ R (w.bind.imp λa g A x G e1 t n=>?_);let(z,h,g):=g.Xf;obtain rfl:=Ea n h;show#[W,?_];show s B Y A Z G a.2 _ t (g.bind.imp λb e y xs F e2 R2 m=>?_);let(ds,j,e):=e.Xf;let(rv,i,e):=e.Xf;show o y F z xs ds rv Q R2.od (uW R2 m j) i (jx R2 λu v C e3 q l=>e u v C (e1.trans (e2.trans e3)) q l)
def tZ:G D->I (G Str)
 |[]=>M []
 |.str b::r=>(tZ r).map (b::·)
 |_=>P
theorem zL{O:bE}{H:Hp}:∀{xs:G V} {ds:G D} {bs:G Str},XS O K H xs ds->tZ ds=M bs->xs=bs.map V.str
 |_,_,_,.nil,e=>by ext e;rfl
 |_,_,bs,.cons (vs:=g) (ds:=r) h t,e=>by
  cases h with
  |str b=>
   let a:(tZ r).map (b::·)=M bs:=e;cases q:tZ r with
   |none=>rw[q]at a;ext a
   |some f=>rw[q]at a;ext a;rw[zL t q];rfl
  |_=>ext e
def EL(a:G Str):tZ (a.map .str)=M a:=by
 induction a with
 |nil=>rfl
 |cons n r b=>show(tZ (r.map .str)).map (n::·)=_;rw[b];rfl
def pU(z:Str):G D->I RV
 |[.list ds]=>(match tZ ds with
  |some a=>if ad8 z a=S then M (.fz (.str (Txt.join z a)))else P
  |none=>P)
 |_=>P
def Ik:UE K (ML K) pU:=by
 intro O H z xs ds m Q n h e q;unfold pU at e;split at e
 .rename_i es
  cases l:tZ es with
  |none=>rw[l]at e;ext e
  |some g=>
   rw[l]at e;dsimp only at e;split at e
   .rename_i i
    ext e;cases h with
    |cons f b=>ext b;let(a,j,rfl,f,b):=AI f;let:=zL b l;subst this;show#[z,a,g,W,W,f.sq,i,q.at (.str _)]
   .ext e
 .ext e
def rN:D->I Int->I Int->I RV
 |.str z,lo,a=>if z.length<=1000000 then M (.fz (.str (Txt.slice z lo a)))else P
 |_,_,_=>P
def Jn:RG K RP rN:=by
 intro O H x lo g h f Q n a e q;unfold rN at e;split at e
 .split at e
  .rename_i b;ext e;ext a;show#[_,W,p7 b,q.at (.str _)]
  .ext e
 .ext e
end
end L3
namespace L2
open PySem PySem.Spec PyProof.Rows
section
variable{Y:Type}[DecidableEq Y]
def jq(b:G (Y×V))(k:Y):I V:=(b.find? λa=>decide (a.1=k)).map (·.2)
def iJ(b:G (Y×V))(k:Y)(v:V):G (Y×V):=
 if(b.any λa=>decide (a.1=k))=S then b.map (λa=>if a.1=k then(a.1,v)else a)else b++[(k,v)]
def lM(b:G (Y×V))(k:Y):G (Y×V):=b.filter λa=>decide (a.1≠k)
def p8{k:Y}(e:p.1=k):jq (p::r) k=M p.2:=by simp[jq,W9,e]
def rp{k:Y}(e:¬p.1=k):jq (p::r) k=jq r k:=by simp[jq,W9,e]
theorem vM(k:Y):∀a:G (Y×V),(a.any λb=>decide (b.1=k))=(jq a k).isSome
 |[]=>rfl
 |p::r=>by
  rw[Zl];by_cases e:p.1=k
  .simp only[p8 e,bg e,YL,adl]
  .rw[rp e,bt e,ZT];show vM k r
def jJ(a:G (Y×V))(k:Y)(v:V):(iJ a k v).length<=a.length+1:=by
 ext iJ;split
 .rw[V9];ext
 .rw[Wi,Wo,Yy];ext
def ZH.ZO(r:ZH o u):o.isSome=u.isSome:=by
 cases o with
 |none=>cases u with
  |none=>rfl
  |some _=>show(show False from r).elim
 |some _=>cases u with
  |none=>show(show False from r).elim
  |some _=>rfl
def KV.val{d:G (Y×V)}{c:G (Y×U)}(r:KV d c)(k:Y):ZH (jq d k) (valueAt c k):=by
 unfold KV at r
 induction r with
 |nil=>show True.intro
 | @cons p q l i h t j=>
  let(f,g):=h;by_cases e:p.1=k
  .let a:q.1=k:=f.symm.trans e
   let b:valueAt (q::i) k=M q.2:=by simp[valueAt,W9,a]
   rw[p8 e,b];show g
  .let a:¬q.1=k:=λz=>e (f.trans z)
   let b:valueAt (q::i) k=valueAt i k:=by simp[valueAt,W9,a]
   rw[rp e,b];show j
def KV.any(r:KV WH vs)(k:Y):(WH.any λb=>decide (b.1=k))=vs.any λb=>decide (b.1=k):=by
 unfold KV at r
 induction r with
 |nil=>rfl
 |cons h t a=>rw[Zl,Zl,a,h.1]
def KV.af7(r:KV WH vs)(k:Y)(b:RelV y u):
  KV (WH.map λc=>if c.1=k then(c.1,y)else c) (vs.map λc=>if c.1=k then(c.1,u)else c):=by
 unfold KV at r⊢
 induction r with
 |nil=>show .nil
 | @cons p q j i h t g=>
  rw[Wv,Wv];show .cons ?_ g;let(a,f):=h;by_cases e:p.1=k
  .rw[ax e,ax (a.symm.trans e)];show#[a,b]
  .rw[bb e,bb (λz=>e (a.trans z))];show#[a,f]
def KV.put(r:KV WH vs)(k:Y)(a:RelV y u):KV (iJ WH k y) (stored vs k u):=by
 unfold iJ stored;rw[r.any k];by_cases e:(vs.any λb=>decide (b.1=k))=S
 .rw[ax e,ax e];show r.af7 k a
 .rw[bb e,bb e];show Paired.snoc r #[W,a]
def KV.drop(r:KV WH vs)(k:Y):KV (lM WH k) (without vs k):=by
 unfold KV at r⊢;unfold lM without
 induction r with
 |nil=>show .nil
 | @cons p q m l h t j=>
  let(f,g):=h;rw[Zi,Zi];by_cases e:p.1=k
  .let a:¬decide (p.1≠k)=S:=by simp[e]
   let b:¬decide (q.1≠k)=S:=by simp[f.symm.trans e]
   rw[bb a,bb b];show j
  .let i:¬q.1=k:=λz=>e (f.trans z)
   let a:decide (p.1≠k)=S:=by simp[e]
   let b:decide (q.1≠k)=S:=by simp[i]
   rw[ax a,ax b];show .cons #[f,g] j
def KV.keys{b:G (Y×U)}(r:KV WH b):WH.map (·.1)=b.map (·.1):=by
 unfold KV at r
 induction r with
 |nil=>rfl
 |cons h t a=>rw[Wv,Wv,a,h.1]
theorem KV.length(r:KV WH vs):WH.length=vs.length:=Paired.length r
theorem El(a:G (Y×V))(k:Y):(lM a k).length<=a.length:=Zg _ _
end
def sY(r:RelV (kV k) u):(cb a w).is k u=S:=by
 cases k with
 |inl i=>let(t,e):=(show∃t,u=V5.int i t from r);subst e;show wQ a w i t
 |inr x=>let(t,e):=(show∃t,u=V5.str x t from r);subst e;show vK a w x t
theorem tD:∀{b:G bZ} {us:G U},Vals (b.map kV) us->ItemsAre (cb a w) b us
 |[],_,r=>by rw[Zv]at r;ext r;show .nil
 |k::b,_,r=>by
  rw[Wv]at r;cases r with
  |cons h t=>show .cons (sY h) (tD t)
abbrev KT(H:Hp):G (G bZ×V)->G (G bZ×J×U)->Prop:=Paired λp q=>p.1=q.1/\H q.2.1=M (.tup (p.1.map kV))/\RelV p.2 q.2.2
def KT.val(r:KT H WH xs)(k:G bZ):ZH (jq WH k) ((atKey xs k).map (·.2)):=by
 induction r with
 |nil=>show True.intro
 | @cons p q l i h t j=>
  let(f,_,g):=h;by_cases e:p.1=k
  .let a:=f.symm.trans e
   let b:atKey (q::i) k=M q.2:=by simp[atKey,W9,a]
   rw[p8 e,b];show g
  .let a:¬q.1=k:=λz=>e (f.trans z)
   let b:atKey (q::i) k=atKey i k:=by simp[atKey,W9,a]
   rw[rp e,b];show j
def KT.af7(r:KT H WH xs)(k:G bZ)(f:RelV y u):
  KT H (WH.map λc=>if c.1=k then(c.1,y)else c) (xs.map (putAt k u)):=by
 induction r with
 |nil=>show .nil
 | @cons p q l j h t i=>
  rw[Wv,Wv];show .cons ?_ i;let(a,b,g):=h;ext putAt;by_cases e:p.1=k
  .rw[ax e,ax (a.symm.trans e)];show#[a,b,f]
  .rw[bb e,bb (λz=>e (a.trans z))];show#[a,b,g]
def KT.put(r:KT H WH xs)(k:G bZ)(g:H b=M (.tup (k.map kV)))(a:RelV y u):
  KT H (iJ WH k y) (storedH xs k b u):=by
 let e:(WH.any λf=>decide (f.1=k))=(atKey xs k).isSome:=by rw[vM,(r.val k).ZO,ZD]
 unfold iJ storedH;rw[e];by_cases q:(atKey xs k).isSome=S
 .rw[ax q,ax q];show r.af7 k a
 .rw[bb q,bb q];show Paired.snoc r #[W,g,a]
theorem KT.keeps(r:KT H WH xs)(a:∀b ys,H b=M (.tup ys)->H' b=M (.tup ys)):KT H' WH xs:=
 Paired.ZF r λ_ _ z=>#[z.1,a _ _ z.2.1,z.2.2]
section
variable{P:Wz}{w:WX}{H:Hp}{h:Heap}{a:Wd}
theorem MP(ok:HOk P w H h)(e:Rd H a u):ObjOk P w H h a u:=e.ok ok
theorem wO(ok:HOk P w H h)(e:Rd H a (.dK o)):o.length<=Wm/\(a==Yf)=R/\∃b,KV o b/\h.DictOf (cb P w) a b:=
 show ObjOk P w H h a (.dK o)from MP ok e
theorem wK(ok:HOk P w H h)(e:H a=M (.dK o)):o.length<=Wm/\(a==Yf)=R/\∃b,KV o b/\h.DictOf (cb P w) a b:=wO ok (.inl e)
def tK{c:G bZ}(ok:HOk P w H h)(e:H a=M (.tup (c.map kV))):(tupleKind (cb P w)).is h c a:=by let(_,i,r,o,g,(f,n,b),_):=(show ObjOk P w H h a (.tup (c.map kV))from ok a _ e);show#[o,i.toArray,n,g,f,b,by simpa using tD r]
def vG(ok:HOk P w H h)(e:Rd H a (.dT C)):C.length<=Wm/\(a==Yf)=R/\
  ∃xs,KT H C xs/\h.DictOfH (tupleKind (cb P w)) a xs:=by
 let(z,y,xs,r,o,es,u,n,j,i,g,f):=(show ObjOk P w H h a (.dT C)from MP ok e);show#[z,y,xs,r,o,es,u,n,j,i,g,λx b=>?_,f];let all:∀{l:G (G bZ×V)} {m:G (G bZ×J×U)},KT H l m->∀x∈m,(tupleKind (cb P w)).is h x.1 x.2.1:=by
  intro l m q
  induction q with
  |nil=>intro x b;show nomatch b
  | @cons p q E B v t A=>
   intro x b;rcases WE.mp b with e|b
   .subst e;show tK ok (by rw[<-v.1];show v.2.1)
   .show A x b
 show all r x b
theorem Tf(ok:HOk P w H h)(e:H a=M (.dT o)):o.length<=Wm/\(a==Yf)=R/\
  ∃xs,KT H o xs/\h.DictOfH (tupleKind (cb P w)) a xs:=vG ok (.inl e)
end
def ab8(H:Hp)(a:J)(y:V)(r:I V):Prop:=
 (∃e k,Rd H a (.dK e)/\y=kV k/\r=jq e k)\/∃e k b,Rd H a (.dT e)/\y=.ref b/\H b=M (.tup (k.map kV))/\r=jq e k
def aeC(H:Hp)(a:J)(y v:V)(H':Hp):Prop:=
 (∃e k,H a=M (.dK e)/\y=kV k/\e.length<Wm/\H'=aW H a (.dK (iJ e k v)))\/
 ∃e k b,H a=M (.dT e)/\y=.ref b/\H b=M (.tup (k.map kV))/\e.length<Wm/\H'=aW H a (.dT (iJ e k v))
theorem ab8.k{k:bZ}(e:H a=M (.dK WH)):ab8 H a (kV k) (jq WH k):=.inl #[WH,k,.inl e,W,W]
theorem aeC.k{k:bZ}(e:H a=M (.dK WH))(b:WH.length<Wm):aeC H a (kV k) v (aW H a (.dK (iJ WH k v))):=.inl #[WH,k,e,W,b,W]
section
variable{X:Cx}{Z:b5 (Wd×Obj)}{Y:St}{H:Hp}{s:We}{a:Wd}{y v:V}{u r:V5}{o:b7 V}{A:WQ}{E:V5->We->Prop}
def Inv.big(I:Inv X Z Y H s):Yf<s.heap.objs.size:=by let h:=(I.mod.glob.keeps I.bk).lt;show Y9 () h
def Ck{Q:U->We->Prop}(t:A.units+1<cLine)(I:Inv X Z Y H s)(g:ab8 H a y (M v))(q:RelV y u)(h:∀c d,Inv X Z Y H d->RelV v c->Q c d):
  wpAny (model X.prog X.w) A (getItem (.ref a) u) Q E s:=by
 rcases g with⟨L,k,e,n,l⟩|⟨L,k,b,e,n,F,l⟩
 .subst n;let(z,C,w,i,dd):=wO I.Xw e;let(c,j,f):=ZH.some_of (v:=v) (o:=valueAt w k) (by rw[l];show i.val k);show wpAny_getItem_of (sY q) dd.mapOf j (h c _ (I.tok _) f)
 .subst n;cases(show u=V5.ref b from q);let(z,C,xs,i,dd):=vG I.Xw e;let(c,j,f):=ZH.some_of (v:=v) (o:=(atKey xs k).map (·.2)) (by rw[l];show i.val k);let(p,B,m):=Z2.mp j;show afK (abq t) (tK I.Xw F) dd B ?_;rw[m];show h c _ (I.tok _) f
def Us{Q:U->We->Prop}(n:A.units+1<cLine)(I:Inv X Z Y H s)(g:ab8 H a y o)(m:RelV y u)(h:∀c,Inv X Z Y H c->Q (.bool o.isSome) c):
  wpAny (model X.prog X.w) A (Xx .In u (.ref a)) Q E s:=by
 rcases g with⟨t,k,e,j,l⟩|⟨t,k,b,e,j,p,l⟩
 .subst j;let(z,i,w,f,dd):=wO I.Xw e;show wpAny_in_of (sY m) i dd.mapOf ?_;rw[<-(f.val k).ZO,<-l];show h _ (I.tok _)
 .subst j;cases(show u=V5.ref b from m);let(z,i,xs,f,dd):=vG I.Xw e;show alp (abq n) (tK I.Xw p) i dd ?_;let q:=(f.val k).ZO;rw[ZD]at q;rw[<-q,<-l];show h _ (I.tok _)
theorem oB{c:Heap}{d:Nat}{f:HO}(I:Inv X Z Y H s)(g:R9 (H a))(h:Heap.SameBut a s.heap c)(i:∃q,c.get? a=M q)(new:ObjOk X.prog X.w (aW H a f) c a f):
  Inv X Z Y (aW H a f) {s with heap:=c,toks:=d}:=
 I.write (x:=a) (e:=a) g (.inl W) (λb q j z=>(h.2 b j).trans z) i new
theorem yV(z:WH.length<=Wm)(hd:(a==Yf)=R)(b:KV WH C)(dd:h'.DictOf (cb e w) a C):
  ObjOk e w H' h' a (.dK WH):=#[z,hd,C,b,dd]
def CF{H':Hp}{Q:Unit->We->Prop}(L:A.units+1<cLine)(I:Inv X Z Y H s)(g:aeC H a y v H')(F:RelV y u)(x:RelV v r)(h:∀d,Inv X Z Y H' d->Q ⟨⟩ d):
  wpAny (model X.prog X.w) A (setItem (.ref a) u r) Q E s:=by
 rcases g with⟨w,k,e,B,l,C⟩|⟨w,k,b,e,B,K,l,C⟩
 .subst B C
  let(z,t,vs,f,dd):=wK I.Xw e;let m:vs.length<=Wm:=by rw[<-f.length];show z
  let p:(iJ w k v).length<=Wm:=by let:=jJ w k v;ext
  show wpAny_setItem_pairs (hsz:=m) (sY F) dd λG i n=>h _ ?_;let M:∃q,G.get? a=cL q:=let#[q,_,_,j,_]:=i;#[q,j]
  show oB I (by rw[e];show True.intro) n M (yV p t (f.put k x) i)
 .subst B C
  cases(show u=V5.ref b from F);let(z,t,xs,f,dd):=Tf I.Xw e;let m:xs.length<=Wm:=by rw[<-Paired.length f];show z
  let p:(iJ w k v).length<=Wm:=by let:=jJ w k v;ext
  show afL (hsz:=m) (abq L) (tK I.Xw K) dd λG i n=>h _ ?_;let(q,es,S,j,R,P,O,_,N):=i;show oB I (by rw[e];show True.intro) n #[q,j] #[p,t,_,(f.put k K x).keeps λc T J=>?_,q,es,S,j,R,P,O,N];rw[ar (RH J e (λz=>nomatch z))];show J
end
section
variable{X:Cx}{Z:b5 (Wd×Obj)}{T:St}{H:Hp}{s:We}{a:Wd}{Y:b5 (bZ×V)}{k:bZ}{u:V5}{A:WQ}{E:V5->We->Prop}
def Su{v:V}{b:G U}{Q:U->We->Prop}(I:Inv X Z T H s)(e:H a=M (.dK Y))(j:RelV (kV k) u)(l:jq Y k=M v)(hm:b=[]\/∃x,b=[x])
  (h:∀c d,Inv X Z T (aW H a (.dK (lM Y k))) d->RelV v c->Q c d):wpAny (model X.prog X.w) A (call (.builtin "dict.pop") (.ref a::u::b)) Q E s:=by
 let(z,B,w,f,dd):=wK I.Xw e;let(c,n,m):=ZH.some_of (v:=v) (o:=valueAt w k) (by rw[<-l];show f.val k);let r:(keyPart u).isSome=S:=by
  cases k with
  |inl i=>let(t,q):=(show∃t,u=V5.int i t from j);subst q;rfl
  |inr x=>let(t,q):=(show∃t,u=V5.str x t from j);subst q;rfl
 let N:argsOk "dict.pop" #[.ref a::u::b,[]]:=by
  rcases hm with q|⟨x,q⟩
  .subst q;show PySem.F.args_dict_pop_2 _ _
  .subst q;show PySem.F.args_dict_pop_3 _ _ _
 show call_meetsIn acg dd.typeIs PySem.F.entry_dict_pop N (meets_dict_pop_there (cb X.prog X.w) a (sY j) b hm r)
  #[w,c,dd,by rw[<-f.length];show z,n,λC g p=>h c _ ?_ m]
 let y:∃q,C.get? a=M q:=let#[q,_,_,L,_]:=g;#[q,L]
 show oB I (by rw[e];show True.intro) p y (yV (WU (El Y k) z) B (f.drop k) g)
end
def Qa(i:Wy):Prop:=∀a b,subscripted i R a b=operate [a,b] (getItem a b)
def Bm{T id:String}
  (m:typeLookup (.type T) "__getitem__"=pure (M (.builtin id))) (l:Qa slice)
  (h:wpAny (model prog w) A (eval value env) (λo d=>wpAny (model prog w) A (eval slice env) (λi c=>c.TypeIs o T/\wpAny (model prog w) A (getItem o i) Q E c) E d) E s):
  wpAny (model prog w) A (eval (.Subscript value slice pos) env) Q E s:=by
 show Subscript_ (wpAny_mono h (λo d g=>wpAny_mono g (λi c a=>?_) λ_ _ x=>x) λ_ _ x=>x);let(j,a):=a;ext subscriptTail;show CL ?_;rw[getitemInPython_of_ne j.not_modules];show CL (aaH j m ?_);let e:wpAny (model prog w) A (subscripted slice R o i) (λr b=>wpAny (model prog w) A (letTemporaryGo value o r>>=λ_=>pure r) Q E b) E c:=by rw[l o i];show wpAny_operating (wpAny_mono a (λr b f=>CL (wpAny_letTemporaryGo (Wf f))) λ_ _ x=>x)
 first
  |show Wf (CL e)
  |show CL (Wf (CL e))
  |show CL e
def vA(I:Inv X pins σ H s)(g:ab8 H a y o):s.TypeIs (.ref a) "dict":=by
 rcases g with⟨f,k,e,_,_⟩|⟨f,k,b,e,_,_,_⟩
 .let(_,_,h,_,dd):=wO I.Xw e;show dd.typeIs
 .let(_,_,xs,_,dd):=vG I.Xw e;show dd.typeIs
def Ms(f ty:TE):TE:=λb H Q=>f b H λx g=>ty b g λy e=>∃a v,x=.ref a/\ab8 e a y (M v)/\Q v e
def SC(ty f:TE):TE:=λb H Q=>ty b H λy g=>f b g λx e=>∃a o,x=.ref a/\ab8 e a y o/\Q (.bl o.isSome) e
def LK(f ty e:TE):TS:=λD b H=>e b H λv i=>f b i λx h=>ty b h λy g=>∃a j,x=.ref a/\aeC g a y v j/\D.nx b j
section
variable{X:Cx}{o i e Z:Wy}{pos Y ajJ:Pos}{T U tv:TE}
def II(t:X.A.units+1<cLine)(B:PE X o T)(c:PE X i U)(w:Qa i):PE X (.Subscript o i pos) (Ms T U):=by intro b s j H Q I h;show Bm abB.lookup w (bJ (B b s j H _ I h) λu m #[x,A,F,p,r]=>bJ (c b m j A _ F r) λN M a=>?_);let(y,G,l,n,a,v,C,g,q):=a;subst C;obtain rfl:=p;show#[vA l g,Ck t l g n λK L E f=>#[v,G,E,f,q]]
def Gw(r:X.A.units+1<cLine)(c:PE X i U)(t:PE X o T):PC X .In i o (SC U T):=by intro b s f H Q I h;show bJ (c b s f H _ I h) λK j #[y,F,C,l,p]=>bJ (t b j f F _ C p) λu J a=>?_;let(x,E,B,m,a,q,v,g,n):=a;subst v;obtain rfl:=m;show Us r B g l λG w=>#[.bl q.isSome,E,w,W,n]
def Lm(B:X.A.units+1<cLine)(E:PE X o T)(c:PE X i U)(w:PE X Z tv)(C:Yu Z (cL (.Subscript o i Y)) pos.line X.env=pure V8):
  PS X (.Assign [.Subscript o i Y] Z pos) (LK T U tv):=by
 intro b s f H D I h;show ad9 (bJ (w b s f H _ I h) λr l #[v,O,L,rv,t]=>bJ (E b l f O _ L t) λu j #[x,N,K,n,q]=>bJ (c b j f N _ K q) λR Q a=>?_) C;let(y,S1,A,m,a,Mz0,F,g,p):=a;subst F;obtain rfl:=n;show CF B A g m rv λP G=>#[f,Mz0,G,p]
end
def l4(c a:G (bZ×V)):G (bZ×V):=a.foldl (λb e=>iJ b e.1 e.2) c
def KV.merge:∀{a:G (bZ×V)} {b:G (bZ×U)} {d:G (bZ×V)} {c:G (bZ×U)},KV a b->KV d c->KV (l4 d a) (merged c b):=by
 intro a b d c r;unfold KV at r
 induction r generalizing d c with
 |nil=>intro q;show q
 | @cons p q j i h t g=>
  intro f;let e:KV (iJ d p.1 p.2) (stored c q.1 q.2):=by let:=f.put p.1 h.2;rw[<-h.1];show this
  show g e
theorem kz:∀(a c:G (bZ×V)),(l4 c a).length<=c.length+a.length
 |[],c=>by show c.length<=c.length+0;ext
 |p::r,c=>by let e:=kz r (iJ c p.1 p.2);let b:=jJ c p.1 p.2;show(l4 (iJ c p.1 p.2) r).length<=_;rw[Wo];ext
structure M1(X:Cx)(o:Wy)(m:Str)(apos:Pos)(e:Wy)(YY:Pos):Prop where
 base:attributeBase o m X.env (eval o X.env)=eval o X.env
 few:((backTo YY (Wu [e] X.env)).all (λx=> !x.1)&&(backToKw YY (keywordEach [] X.env)).all (λx=>x.1.isSome)
  &&decide (([e]:G Wy).length+([]:G Z8).length+(if([]:G Z8).isEmpty then 0 else 1)<30))=S
 line:(apos.endLine==YY.line)=S
 trees:backTo YY (Wu [e] X.env)=[(R,eval e X.env)]
structure M2(X:Cx)(o:Wy)(m:Str)(apos:Pos)(e f:Wy)(YY:Pos):Prop where
 base:attributeBase o m X.env (eval o X.env)=eval o X.env
 few:((backTo YY (Wu [e,f] X.env)).all (λx=> !x.1)&&(backToKw YY (keywordEach [] X.env)).all (λx=>x.1.isSome)
  &&decide (([e,f]:G Wy).length+([]:G Z8).length+(if([]:G Z8).isEmpty then 0 else 1)<30))=S
 line:(apos.endLine==YY.line)=S
 trees:backTo YY (Wu [e,f] X.env)=[(R,eval e X.env),(R,eval f X.env)]
def U1(H:Hp)(a:J):Prop:=(∃b,Rd H a (.dK b))\/∃b,Rd H a (.dT b)
def Nz(I:Inv X pins σ H s)(d:U1 H a):
  s.TypeIs (.ref a) "dict"/\(∀b,V5.ref a=.ref b->∃c,s.heap.get? b=M c/\c.dict=P)/\(a==Yf)=R:=by
 rcases d with⟨i,e⟩|⟨i,e⟩
 .let(_,f,j,_,dd):=wO I.Xw e;show#[dd.typeIs,λb q=>?_,f];ext q;let(c,_,_,h,g,_):=dd;show#[c,h,g.2.1]
 .let(_,f,xs,_,dd):=vG I.Xw e;show#[dd.typeIs,λb q=>?_,f];ext q;let(c,_,_,h,g,_):=dd;show#[c,h,g.2.1]
def GJ(g ty:TE):TE:=λb H Q=>g b H λx f=>∃a,x=.ref a/\U1 f a/\ty b f λy e=>∃h k v,e a=M (.dK h)/\y=kV k/\jq h k=M v/\Q v (aW e a (.dK (lM h k)))
section
variable{X:Cx}{o e f:Wy}{Z YY:Pos}{td ty tx:TE}
def EB(B:PE X o td)(C:PE X e ty)(m:M1 X o "pop" Z e YY):PE X (.Call (.Attribute o "pop" Z) [e] [] YY) (GJ td ty):=by intro b s i H Q I h;show wpAny_Call_method m.base m.few m.line abP acg PySem.F.type_dict_pop (bJ (B b s i H _ I h) λu q a=>?_);let(x,T,j,t,a,G,d,A):=a;subst G;obtain rfl:=t;let(p,n,_):=Nz j d;show#[p,n,?_];rw[m.trees];show Calls.callWith_builtin W (Calls.evalArgs_plain (Calls.spliced_cons (bJ (C b q i T _ j A) λR P a=>?_)));let(y,Y,L,r,WH,k,v,F,E,l,w):=a;show Calls.spliced_nil ?_;subst E;show Su L F r l (.inl W) λN O K g=>#[v,_,K,g,w]
end
end L2
namespace L4
open PySem PySem.Spec PyProof.Rows L2 L3
def Hz(h:Heap)(e:J)(c:U)(d:I J)(a:U)(hd:I J):Prop:=
 ∃b fs,h.get? e=M b/\b.cls=c/\b.dict=d/\b.data=.fields fs/\fs[0]?=M a/\
  match hd with
  |none=>fs[1]?=M .none
  |some T=>fs[1]?=M (.ref T)/\T≠e/\∃oT f,h.get? T=M oT/\oT.data=.fields f/\f[3]?=M .none
structure Lft(l:G Env)(e:J)(hd:I J)(h h':Heap):Prop where
 keep:∀b o,h.get? b=M o->b≠e->hd≠M b->b∉wC l->h'.get? b=M o
 slot:∀b o,h.get? b=M o->b≠e->hd≠M b->∃sl,h'.get? b=M {o with slots:=sl}
 here:∀b o,h.get? b=M o->∃o',h'.get? b=M o'
section
variable{M:acM}{A:WQ}{E:V5->We->Prop}{s:We}
def je
  (I:A.frames=cL (env::outer)) (B:s.heap.FunFrames base (env::outer)) (H:env.frame=cL L) (C:s.heap.get? e=cL ob) (p:ob.data=.fields fs) (m:1<fs.size) (J:fs[0]?=cL a0)
  (k:∀D T,s.heap.objs.size<=T->Hz D e ob.cls ob.dict a0 (cL T)->Lft (env::outer) e Ld s.heap D->Q ⟨⟩ {s with heap:=D}):
  wpAny M A (frameOf env>>=λfr=>entryPlaceOf L nx>>=λpl=>EntryCells.newEntry hv fr .none (rawInt L) .none pl>>=λb=>setField (.ref e) 1 b) (λ_ V=>wpAny M A (setFlight (.ref e) Ld) Q E V) E s:=by
 let j:e∉(env::outer).filterMap (·.frame):=λz=>by let(_,o,q,n):=B.mem z;rw[C]at q;ext q;show n fs p
 show CL (wpAny_frameOf_fun I B H λa S=>?_);show CL (wpAny_entryPlaceOf λpl P=>?_);unfold EntryCells.newEntry newFields;show CL (Xu ?_ (P.sizeOk5 _ _ _ _ _));let y:=(S.2.1 e j).trans C;generalize X:({cls:=.type "traceback",dict:=Ld,data:=.fields ([hv,.ref L,.none,rawInt L,.none]++(if pl.isEmpty then Wk 6 V5.none else pl)).toArray}:Obj)=N;let g:N.data=.fields ([hv,.ref L,.none,rawInt L,.none]++(if pl.isEmpty then Wk 6 V5.none else pl)).toArray:=by rw[<-X]
 let K:=dw g;let w:=b9 N y;show Yw w p m ?_;let l:=Xn (cc y);let r:=dt p (·.setIfInBounds 1 (V5.ref a.objs.size));let i:=cv (Obj.mapFields (·.setIfInBounds 1 (V5.ref a.objs.size))) w (dw r)
 let u:=
  (cn (a.push N) (Obj.mapFields (·.setIfInBounds 1 (V5.ref a.objs.size))) l.symm).trans (ck a K)
 ext setFlight;show CL (Xe i r (x:=.ref a.objs.size) (by simp[m]) ?_);rw[ax (show(V5.ref a.objs.size !=V5.none)=V6 from by simp)];let t:3<([hv,.ref L,.none,rawInt L,.none]++(if pl.isEmpty then Wk 6 V5.none else pl)).toArray.size:=by simp only[Ws,Wi,Wo,Yy];ext
 show Yw u g t ?_;let v:=cn ((a.push N).update e (Obj.mapFields (·.setIfInBounds 1 (V5.ref a.objs.size)))) (Obj.mapFields (·.setIfInBounds 3 ((Ld:b7 Wd).elim V5.none λf=>rawInt f))) l;let F:=cv (Obj.mapFields (·.setIfInBounds 3 ((Ld:b7 Wd).elim V5.none λf=>rawInt f))) u (dw (dt g _));let Z0:∀b o,b≠e->a.get? b=cL o->(((a.push N).update e (Obj.mapFields (·.setIfInBounds 1 (V5.ref a.objs.size)))).update a.objs.size (Obj.mapFields (·.setIfInBounds 3 ((Ld:b7 Wd).elim V5.none λf=>rawInt f)))).get? b=cL o:=λb o ne q=>by rw[cn _ _ (Xn (cc q)),cn _ _ ne.symm];show b9 N q
 show k _ a.objs.size (by rw[S.1];show Wg _) #[_,_,v.trans i,Obj.cls_mapFields _ _,?_,r,?_,?_,l,_,_,F,dt g _,?_] #[λb o q ne _ G=>Z0 b o ne ((S.2.1 b G).trans q),λb o q ne _=>?_,λb o q=>?_]
 .cases ob with
  |mk c d O h=>ext O<;>rfl
 .rw[aa7 ()];show J
 .simp[m]
 .rw[aam t];rfl
 .let(h,z):=S.2.2 b o q;show#[h,Z0 b _ ne z]
 .by_cases ne:b=e
  .subst ne;show#[_,v.trans i]
  .let(h,z):=S.2.2 b o q;show#[_,Z0 b _ ne z]
def CN
  (v:A.frames=cL (env::outer)) (u:s.heap.FunFrames base (env::outer)) (h:env.frame=cL L) (F:Hz s.heap e c dx a0 hd)
  (k:∀x T,s.heap.objs.size<=T->Hz x e c dx a0 (cL T)->Lft (env::outer) e hd s.heap x->Q ⟨⟩ {s with heap:=x}):wpAny M A (leaving env (.ref e)) Q E s:=by
 let(N,fs,q,I,H,d,w,r):=F;subst I H;cases hd with
 |none=>let r:=r;unfold leaving noteFrame;simp only[h];show CL (CL (Xe q d r ?_));rw[bb ()];show je v u h q d (Xk.mp r).1 w k
 |some T=>
  let(r,C,oT,B,g,dT,p):=r;unfold leaving noteFrame;simp only[h];show CL (CL (Xe q d r ?_));rw[ax (show(V5.ref T !=V5.none)=S from by simp)];show CL (Xe g dT p ?_);rw[bb (show¬((V5.none==rawInt L)=S)from by simp[rawInt])];show CL (Yw g dT (Xk.mp p).1 ?_);let a:∀b,b≠T->(s.heap.update T (Obj.mapFields (·.setIfInBounds 3 V5.none))).get? b=s.heap.get? b:=λb ne=>cn _ _ ne.symm;let f:=cv (Obj.mapFields (·.setIfInBounds 3 V5.none)) g (dw (dt dT _));let m:∀b o,s.heap.get? b=cL o->(∀X,o.data≠.fields X)->b≠T:=λb o z n y=>by rw[y,g]at z;ext z;show n B dT
  show je v (u.of_keeps λb o z n=>#[o,(a b (m b o z n)).trans z,W]) h ((a e C.symm).trans q) d (Xk.mp r).1 w λx J t K i=>k x J (by rw[Heap.size_after_update]at t;show t) K #[λb o z l j G=>?_,λb o z l j=>?_,λb o z=>?_]
  .show i.keep b o ((a b λy=>j (by rw[y])).trans z) l (by simp) G
  .show i.slot b o ((a b λy=>j (by rw[y])).trans z) l (by simp)
  .by_cases y:b=T
   .subst y;show i.here b _ f
   .show i.here b o ((a b y).trans z)
end
theorem Lft.Xw{P:Wz}{w:WX}{l:G Env}{e:J}{hd:I J}{H:Hp}{h d:Heap}(L:Lft l e hd h d)(m:HOk P w H h)(ne:H e=Ld)(i:∀T,hd=M T->H T=Ld)(j:∀b∈wC l,H b=Ld):HOk P w H d:=λb u q=>by
 let free:∀c v,H c=M v->c≠e/\hd≠M c/\c∉wC l:=λc v z=>#[(λy=>by rw[y,ne]at z;ext z),(λy=>by rw[i c y]at z;ext z),(λy=>by rw[j c y]at z;ext z)];show(m b u q).Z0 (λc v n z=>?_) (λ_ z=>z) λ_ _ z=>z;rcases n with y|y
 .rw[y]at z⊢;let(g,f,a):=free b u q;show L.keep b v z g f a
 .let(g,f,a):=free c _ y;show L.keep c v z g f a
def kN(P:Wz)(w:WX):tS:=λa H s E x b=>
 ∃e c f a0 T H',x=.ref e/\s.heap.get? e=Ld/\s.heap.get? T=Ld/\Hz b.heap e c f a0 (M T)/\H' e=Ld/\H' T=Ld/\
  b.os=s.os/\AllBare b.gens/\Un (wC a) [] H H' s.heap b.heap/\HOk P w H' b.heap/\E c f H'
def MZ{P:Wz}{w:WX}{K:lD}{k:Str->b7 V5}{base:Heap}{N:b5 Str}{i:Str}{a:Yk}{f:Wd}{v:V5}{A:WQ}{outer:b5 Env}{g:We}{G:Hp}{E:XK}
  {l:b5 (Wd×Obj)} {J:L2.St} {H:Hp} {s:We} {e:Wd} {c C:V5} {d hd:b7 Wd} (I:L2.Inv (fx (kN P w) P w K k base N i a f v A outer g G E) l J H s)
  (F:Hz s.heap e c d C hd) (u:g.heap.get? e=Ld) (S:∀T,hd=cL T->g.heap.get? T=Ld) (ne:H e=Ld) (Q:∀T,hd=cL T->H T=Ld) (q:E c d H):
  (fx (kN P w) P w K k base N i a f v A outer g G E).xe (.ref e) s:=by
 let Z:=I.ok.frames;let Y:=I.stack;show CN (L:=g.heap.objs.size) Z Y W F λh' T t F' L=>?_;let R:=L.Xw I.Xw ne Q I.abn;let X:H T=Ld:=I.Xw.fresh t;let p:∀b o,g.heap.get? b=cL o->b<g.heap.objs.size:=λb o z=>cc z;let h:∀b o,g.heap.get? b=cL o->b≠e/\hd≠cL b:=λb o z=>#[(λy=>by rw[y,u]at z;ext z),(λy=>by rw[S b y]at z;ext z)];let sz:=I.sz;show#[e,c,d,C,T,H,W,u,da (WU sz t),F',ne,X,I.os,I.bare,?_,R,q];let B:=I.base;show#[λb o z n r _=>?_,λb o z n U _=>?_,λb o z n _=>?_,λb o z _=>?_,B.aa2,B.aaQ,B.aa6]
 .let j:=B.keep b o z n r (λy=>nomatch y)
  show L.keep b o j (h b o z).1 (h b o z).2 λy=>?_;rcases WE.mp (I.aa5 b y)with y|y
  .let y:b=g.heap.objs.size:=y;show b4 (p b o z) (by rw[y];show XJ _)
  .show r y
 .let(sl,j):=B.slot b o z n U (λy=>nomatch y);let(m,M):=L.slot b _ j (h b o z).1 (h b o z).2;show#[m,M]
 .show B.free b o z n (λy=>nomatch y)
 .let(O,j):=B.there b o z (λy=>nomatch y);show L.here b O j
def GW{P:Wz}{w:WX}{K:lD}{d:Str->b7 U}{base:Heap}{N:G Str}{g:Str}{a:Yk}{f:J}{l:U}{A:WQ}{outer:G Env}{h:We}{p:Hp}{E:XK}:
  dX (kN P w) (fx (kN P w) P w K d base N g a f l A outer h p E) E:=by
 rintro j r H s x t I ⟨e,c,Q,v,T,B,rfl,le,L,F,ne,C,os,bare,un,Xw,q⟩;let n:=I.aeF (ch:=[]) os un Xw bare (λb z=>nomatch z);let old:∀b,s.heap.get? b=Ld->h.heap.get? b=Ld:=λb z=>by
  cases y:h.heap.get? b with
  |none=>rfl
  |some o=>let(u,i):=I.base.there b o y (λy=>nomatch y);rw[z]at i;ext i
 show MZ n F (old e le) (λm z=>by ext z;show old T L) ne (λm z=>by ext z;show C) q
def PN(x:ObjOk b w H h a o):∃c,h.get? a=M c:=by
 cases o with
 |lst xs=>let(_,_,_,_,e):=x;show#[_,e]
 |tup xs=>let(_,_,_,c,e,_):=x;show#[c,e]
 |dK i=>let(_,_,_,_,o,_,_,e,_):=x;show#[o,e]
 |dT i=>let(_,_,_,_,o,_,_,e,_):=x;show#[o,e]
 |set S n=>let(o,_,_,_,e,_):=x;show#[o,e]
 |ins C m fs=>let(_,_,_,e,_):=x;show#[_,e]
 |own y=>show x
 |xd fs=>let(_,(o,_,_,e,_),_):=x;show#[o,e]
 |rng lo l=>let(_,_,_,e):=x;show#[_,e]
 |frz c u=>show#[c,x.1]
 |tbl j=>show#[_,x]
 |met f y=>show#[_,x]
 |ext g=>show x.2.1
 |exw g=>show x.2.1
def vO(k:HOk e w H h)(n:h.get? a=Ld):H a=Ld:=by
 cases q:H a with
 |none=>rfl
 |some o=>let(b,z):=PN (k a o q);rw[n]at z;ext z
section
variable{M:acM}{A:WQ}{E:V5->We->Prop}{s:We}
def IJ{base:Heap}{env:Env}{outer:b5 Env}{L e:Wd}{c B:U}{D hd:b7 Wd}{Q:Unit->We->Prop}
  (v:A.frames=cL (env::outer)) (u:s.heap.FunFrames base (env::outer)) (h:env.frame=cL L) (F:Hz s.heap e c D B hd)
  (k:∀x T,s.heap.objs.size<=T->Hz x e c D B (cL T)->Lft (env::outer) e hd s.heap x->Q ⟨⟩ {s with heap:=x}):
  wpAny M A (noteFrame (.ref e) env) (λ_ s2=>wpAny M A (setFlight (.ref e) P) Q E s2) E s:=by
 let(O,fs,q,J,I,d,w,r):=F;subst J I;cases hd with
 |none=>let r:fs[1]?=cL .none:=r;ext noteFrame;simp only[h];show CL (Xe q d r ?_);rw[bb ()];show je v u h q d (Xk.mp r).1 w k
 |some T=>
  let(r,G,oT,C,g,dT,p):=r;ext noteFrame;simp only[h];show CL (Xe q d r ?_);rw[ax (show(V5.ref T !=V5.none)=S from by simp)];show CL (Xe g dT p ?_);rw[bb (show¬((V5.none==rawInt L)=S)from by simp[rawInt])];show CL (Yw g dT (Xk.mp p).1 ?_);let a:∀b,b≠T->(s.heap.update T (Obj.mapFields (·.setIfInBounds 3 V5.none))).get? b=s.heap.get? b:=λb ne=>cn _ _ ne.symm;let f:=cv (Obj.mapFields (·.setIfInBounds 3 V5.none)) g (dw (dt dT _));let m:∀b o,s.heap.get? b=cL o->(∀X,o.data≠.fields X)->b≠T:=λb o z n y=>by rw[y,g]at z;ext z;show n C dT
  show je v (u.of_keeps λb o z n=>#[o,(a b (m b o z n)).trans z,W]) h ((a e G.symm).trans q) d (Xk.mp r).1 w λx K t N i=>k x K (by rw[Heap.size_after_update]at t;show t) N #[λb o z l j H=>?_,λb o z l j=>?_,λb o z=>?_]
  .show i.keep b o ((a b λy=>j (by rw[y])).trans z) l (by simp) H
  .show i.slot b o ((a b λy=>j (by rw[y])).trans z) l (by simp)
  .by_cases y:b=T
   .subst y;show i.here b _ f
   .show i.here b o ((a b y).trans z)
def Nd{e T:J}{c l:U}{x:I J}{Q:Unit->We->Prop}(F:Hz s.heap e c x l (cL T))
  (k:∀w,Hz w e c x l (cL T)->(∀b,b≠T->w.get? b=s.heap.get? b)->(∃o,w.get? T=cL o)->Q ⟨⟩ {s with heap:=w}):wpAny M A (setFlight (.ref e) P) Q E s:=by
 let(n,fs,q,t,p,d,u,r,j,oT,v,i,dT,m):=F;ext setFlight;show CL (Xe q d r ?_);rw[ax (show(V5.ref T !=V5.none)=S from by simp)];let h:=(Xk.mp m).1;show Yw i dT h ?_;let g:∀b,b≠T->(s.heap.update T (Obj.mapFields (·.setIfInBounds 3 ((P:I J).elim V5.none λf=>rawInt f)))).get? b=s.heap.get? b:=λb ne=>cn _ _ ne.symm;let a:=cv (Obj.mapFields (·.setIfInBounds 3 ((P:I J).elim V5.none λf=>rawInt f))) i (dw (dt dT _));show k _ #[n,fs,(g e j.symm).trans q,t,p,d,u,r,j,_,_,a,dt dT _,?_] g #[_,a];rw[aam h];rfl
end
section
variable{P:Wz}{w:WX}{K:lD}{mg:Str->b7 V5}{base:Heap}{N:b5 Str}{qual:Str}{scope:Yk}{f:Wd}{cd:V5}{A:WQ}{outer:b5 Env}{s0:We}{H0:Hp}{E:XK}{CX:tS}
  {σ:L2.St} {H:Hp} {s:We} {h':Heap} {X:Cx}
def wy(I:L2.Inv X [] σ H s)(S:Wd->Prop)(J:X.ex=[])(C:∀p∈X.pn,¬S p.1)(keep:∀b o,s.heap.get? b=cL o->¬S b->b∉wC X.stack->h'.get? b=cL o)
  (slot:∀b o,s.heap.get? b=cL o->¬S b->∃d,h'.get? b=cL {o with slots:=d}) (j:∀b o,s.heap.get? b=cL o->∃k,h'.get? b=cL k)
  (U:∀b,S b->X.s₀.heap.get? b=Ld) (Q:¬S X.env.locals) (T:∀x c,X.env.cells.lookup x=cL c->¬S c) (R:∀b,S b->H b=Ld):L2.Inv X [] σ H {s with heap:=h'}:=by
 let M:∀b o,X.s₀.heap.get? b=cL o->¬S b:=λb o z y=>by rw[U b y]at z;ext z
 let h:∀b,b∉X.ex:=λb z=>by rw[J]at z;ext z
 let B:=I.base;let a:∀x c,X.env.cells.lookup x=cL c->∀v,s.heap.IsCell c v->h'.IsCell c v:=λx c z v #[o,G,L]=>by let(d,q):=slot c o G (T x c z);show#[_,q,L]
 show#[I.ok,I.os,I.bare,#[λb o z n g _=>?_,λb o z n Z _=>?_,λb o z n x=>B.free b o z n x,λb o z x=>?_,B.aa2,B.aaQ,B.aa6],?_,λx c z=>?_,I.free,I.Y7,λp F=>?_,λb u q=>?_,I.len]
 .let e:=B.keep b o z n g (h b)
  show keep b o e (M b o z) λy=>?_;rcases WE.mp (I.aa5 b y)with y|y
  .rw[y]at z;show b4 (cc z) (Nat.not_lt_of_le I.ok.above)
  .show g y
 .let(d,e):=B.slot b o z n Z (h b);let(t,O):=slot b _ e (M b o z);show#[t,O]
 .let(k,e):=B.there b o z x;show j b k e
 .let(m,hn,Y):=I.loc
  let(o,es,ep,G,L,r):=hn;let(d,q):=slot _ o G Q;show#[m,#[_,es,ep,q,L,r],λi x v a1 a2 a3=>?_];let(u,rv,l):=Y i x v a1 a2 a3;show#[u,rv,?_];rcases l with l|⟨kd,c,z,y⟩
  .show .inl l
  .show .inr #[kd,c,z,a x c z _ y]
 .let(v,y):=I.cell x c z;show#[v,a x c z v y]
 .let(z,n,ne,g,dd):=I.pin p F
  rw[W5]at F;show#[keep p.1 p.2 z (C p F) (λy=>?_),n,ne,g,dd];rcases WE.mp (I.aa5 _ y)with y|y
  .show ne y
  .show g y
 .let free:∀c v,H c=cL v->¬S c/\c∉wC X.stack:=λc v z=>#[(λy=>by rw[R c y]at z;ext z),(λy=>by rw[I.abn c y]at z;ext z)]
  show(I.Xw b u q).Z0 (λc v hc z=>?_) (λ_ z=>z) λ_ _ z=>z;rcases hc with y|y
  .rw[y]at z⊢;show keep b v z (free b u q).1 (free b u q).2
  .show keep c v z (free c _ y).1 (free c _ y).2
end
section
variable{M:acM}{A:WQ}{E:V5->We->Prop}{h:Heap}{g:Array aar}{d:adR}{t:Nat}{os:acF}
def Dw{C U e:Wd}{j:Obj}{B w y v:Str}{D z:Wd}{b1 l x a:b5 V5}{c Z:Bool}{u r:b5 Str}{q p:b5 V5}{a1 a2:Bool}{s k:b7 Bool}{o n:b7 Wd}{P O N L K J I H G F:b7 V5}{f b:String}{Q:Bool->We->Prop}
  (Y:h.get? C=cL (excClassObj B w C D b1 l c u q a1 s o P O N L K f)) (m:h.get? U=cL (excClassObj y v U z x a Z r p a2 k n J I H G F b)) (S:h.get? e=cL j) (T:j.cls=.ref C)
  (X:a.contains (.type "BaseException")=V6) (hm:(V5.ref C::l).contains (.ref U)=V6) (R:Q V6 #[h,g,d,t,os]):wpAny M A (excMatches (.ref e) (.ref U)) Q E #[h,g,d,t,os]:=by
 let i:(V5.ref U::a).contains (.type "BaseException")=V6:=by rw[Zz,X,Zw]
 let ft:=tc_notTuple;ext excMatches
 repeat (first|(specialize X6 S ?_;rw[T])|specialize X6 m ?_|(specialize YX m ?_;rw[i])|(specialize YX Y ?_;rw[hm])|wp_step)
 show R
end
abbrev Cx.marked(X:Cx)(e:J):Cx:={X with A:=X.A.mark (M (.ref e)),calm:=R,xe:=λ_ _=>False}
section
variable{X:Cx}{Z:L2.St}{H:Hp}{s:We}{Y:Heap}{e:Wd}
theorem qD(I:L2.Inv X [] Z H s)(e:J):L2.Inv (Cx.marked X e) [] Z H s:=
 #[#[I.ok.mod,I.ok.kind,I.ok.glob,I.ok.blt,I.ok.above,I.ok.inj,I.ok.has,I.ok.cab,(λz=>nomatch z),I.ok.frames,I.ok.stk,I.ok.exf,I.ok.bs,I.ok.bsz,I.ok.acx,I.ok.acB,I.ok.aaC,I.ok.frf],I.os,I.bare,I.base,I.loc,I.cell,I.free,I.Y7,I.pin,I.Xw,I.len]
theorem qW(ok:X.Ok)(I:L2.Inv (Cx.marked X e) [] Z H s):L2.Inv X [] Z H s:=
 #[ok,I.os,I.bare,I.base,I.loc,I.cell,I.free,I.Y7,I.pin,I.Xw,I.len]
def Cg(I:L2.Inv X [] Z H s){g:Obj}(h:∀p∈X.pn,p.1≠e)(q:s.heap.get? e=M g)(ne:H e=P)(t:X.s₀.heap.get? e=P)(l:e≠X.env.locals)(m:∀x c,X.env.cells.lookup x=M c->c≠e):L2.Inv X [] Z (aW H e (.frz g (.own e))) s:=by
 let j:∀b o,X.s₀.heap.get? b=M o->b≠e:=λb o z y=>by rw[y,t]at z;ext z
 let a:∀b o,H b=M o->b≠e:=λb o z y=>by rw[y,ne]at z;ext z
 let B:=I.base;show#[I.ok,I.os,I.bare,#[B.keep,B.slot,λb o z n x=>?_,B.there,λb xs z=>?_,λb o u z=>?_,λb v z=>?_],I.loc,I.cell,?_,λx c z=>?_,λp i=>?_,λb u z=>?_,I.len]
 .rw[ar (j b o z)];show B.free b o z n x
 .let:=B.aa2 b xs z;rw[ar (a b _ this)];show this
 .let:=B.aaQ b o u z;rw[ar (a b _ this)];show this
 .let(f,y):=B.aa6 b v z;show#[f,by rw[ar (a b _ y)];show y]
 .rw[ar l.symm];show I.free
 .rw[ar (m x c z)];show I.Y7 x c z
 .let(z,n,r):=I.pin p i;rw[W5]at i;show#[z,by rw[ar (h p i)];show n,r]
 .by_cases y:b=e
  .subst y;rw[az]at z;ext z;show#[q,g,q]
  .rw[ar y]at z;show(I.Xw b u z).Z0 (λ_ _ _ y=>y) (λc y=>by rw[ar (a c _ y)];show y) λc xs y=>by rw[ar (a c _ y)];show y
def sU{M:acM}{A:WQ}{E:U->We->Prop}(I:L2.Inv X [] Z H s){n:Str}{i:Nat}{pos:Pos}{Q:Unit->We->Prop}(D:X.N.Nodup)(l:X.N[i]?=cL n)(d:X.env.kindOf n=cL .local)
  (k:∀h,L2.Inv X [] (Z.set i P) H h->Q ⟨⟩ h):wpAny M A (do bindName X.env n .none;unbindBehindTheSuite X.env n pos) Q E s:=by
 let(m,hn,hl):=id I.loc;let g:(X.env.scope.kind==.class||(X.env.scope.kind==.module&&X.env.locals !=X.env.globals))=R:=by rw[I.ok.kind];rfl
 show wpAny_nameGoes_keeps d hn g λh2 v hm S=>k _ ?_;let B:=I.base;let cne:=I.cne;let old:∀b o,X.s₀.heap.get? b=cL o->h2.get? b=s.heap.get? b:=λb o z=>S.2 b (WG (WC (cc z) I.ok.above));let f:i<Z.length:=by rw[I.len];show(Wb.mp l).1
 show#[I.ok,I.os,I.bare,#[λb o z n nf x=>(old b o z).trans (B.keep b o z n nf x),λb o z n hf x=>?_,B.free,λb o z x=>?_,B.aa2,B.aaQ,B.aa6],#[_,hm,λj y t a1 a2 a3=>?_],λy c z=>?_,I.free,I.Y7,λp hp=>?_,λb u z=>?_,by rw[Xp];show I.len]
 .let(L,y):=B.slot b o z n hf x;show#[L,(old b o z).trans y]
 .let(T,y):=B.there b o z x;show#[T,(old b o z).trans y]
 .by_cases hj:j=i
  .subst hj;rw[Xm f]at a2;ext a2
  .rw[W3 (dN hj)]at a2
   let(C,N,q):=hl j y t a1 a2 a3;show#[C,N,?_];rcases q with⟨kd,z⟩|⟨kd,c,z,w⟩
   .show .inl #[kd,?_];let:y≠n:=λz=>hj (pO D a1 (z▸l));simp[this,z]
   .show .inr #[kd,c,z,w.sameBut S (cne y c z)]
 .let(w,a):=I.cell y c z;show#[w,a.sameBut S (cne y c z)]
 .let(z,n,ne,r):=I.pin p hp;show#[(S.2 p.1 ne).trans z,n,ne,r]
 .let free:∀c u,H c=cL u->c≠X.env.locals:=λc u z y=>by rw[y,I.free]at z;ext z
  show(I.Xw b u z).Z0 (λc w hc y=>(S.2 c ?_).trans y) (λ_ y=>y) λ_ _ y=>y;rcases hc with a|a
  .rw[a];show free b u z
  .show free c _ a
end
def Bw(K:lD)(C:J)(m:G U):Prop:=∃nm q N bs hd sn sub b col dd a k1 k2 k3 k5 id,K.lookup C=M (excClassObj nm q C N bs m hd sn sub b col dd a k1 k2 k3 k5 id)
structure Apart(X:Cx)(a:J):Prop where
 n0:X.s₀.heap.get? a=P
 nL:a≠X.env.locals
 nC:∀y c,X.env.cells.lookup y=M c->c≠a
 nP:∀p∈X.pn,p.1≠a
def rD(I:L2.Inv X pins σ H s)(e:X.ex=[])(n:s.heap.get? a=P):Apart X a:=by
 let ne:∀b o,s.heap.get? b=M o->b≠a:=λb o z y=>by rw[y,n]at z;ext z
 show#[?_,?_,λy c z=>?_,λp h=>?_]
 .cases z:X.s₀.heap.get? a with
  |none=>rfl
  |some o=>let(g,y):=I.base.there a o z (by rw[e];simp);show b4 W (ne a g y)
 .let(m,(o,_,_,z,_),_):=I.loc;show(ne _ o z).symm
 .let(v,o,f,_):=I.cell y c z;show ne c o f
 .show ne _ _ (I.pin p (XD _ h)).1
abbrev Cx.pinned(X:Cx)(l:G (J×Obj)):Cx:={X with pn:=l}
theorem Je(I:L2.Inv X pins σ H s):L2.Inv (Cx.pinned X (X.pn++pins)) [] σ H s:=
 #[#[I.ok.mod,I.ok.kind,I.ok.glob,I.ok.blt,I.ok.above,I.ok.inj,I.ok.has,I.ok.cab,I.ok.hd,I.ok.frames,I.ok.stk,I.ok.exf,I.ok.bs,I.ok.bsz,I.ok.acx,I.ok.acB,I.ok.aaC,I.ok.frf],I.os,I.bare,I.base,I.loc,I.cell,I.free,I.Y7,(λp a=>I.pin p (by rw[W5]at a;show a)),I.Xw,I.len]
theorem gC(ok:X.Ok)(I:L2.Inv (Cx.pinned X (X.pn++pins)) [] σ H s):L2.Inv X pins σ H s:=
 #[ok,I.os,I.bare,I.base,I.loc,I.cell,I.free,I.Y7,(λp a=>I.pin p (by rw[W5];show a)),I.Xw,I.len]
end L4
namespace L4
open PySem PySem.Spec PySem.W PyProof.Rows L2 L3
section
variable{X:Wz}{w:WX}{A:WQ}{E:V5->We->Prop}{h:Heap}{g:Array aar}{d:adR}{t:Nat}{T:acF}{a C:Wd}{o:Obj}{K:lD}
  {N L:Str} {B:Wd} {y Z:b5 V5} {v:Bool} {u:b5 Str} {r:b5 V5} {q:Bool} {p:b7 Bool} {n:b7 Wd} {l i1 i2 i3 i5:b7 V5} {Y:String}
def xI{M:acM}{b:U}{Q:Unit->We->Prop}(j:h.get? C=cL (excClassObj N L C B y Z v u r q p n l i1 i2 i3 i5 Y))(i:Z.contains (.type "BaseException")=S)
  (e:h.get? a=cL o) (f:o.cls=.ref C) (k:Q ⟨⟩ #[h,g,d,t,T]):wpAny M A (checkBuiltinCall "BaseException.__getattribute__" #[[.ref a,b],[]]) Q E #[h,g,d,t,T]:=by
 let e1:builtinKind "BaseException.__getattribute__"=cL .slot:=by left
 let e2:splitId "BaseException.__getattribute__"=cL ("BaseException","__getattribute__"):=by left
 let e3:(V5.ref C::Z).contains (.type "BaseException")=S:=by rw[Zz,i,Zw]
 let e4:=F.args_bexc_ga (.ref a) b;simp only[checkBuiltinCall,e1,e2];show CL ?_;ext isInstance
 repeat (first|(specialize X6 e ?_;rw[f])|(specialize YX j ?_;rw[e3])|wp_step)
 show k
structure ac5(K:lD)(C:J)(m:G U):Prop where
 cl:Bw K C m
 be:m.contains (.type "BaseException")=S
 ga:findIn K (.ref C) "__getattribute__"=M (M (.builtin "BaseException.__getattribute__"))
 gt:findIn K (.ref C) "__getattr__"=M P
 cs:findIn K (.ref C) "__class__"=M (M (.builtin "object.__class__"))
 ob:mroIn K C (.type "object")=M S
end
end L4
namespace HT
open PySem PySem.Spec PyProof.Rows
section
variable{Y:Wz}{w:WX}{A:WQ}{E:V5->We->Prop}{s:We}
def getItem_tuple_all{t b:J}{items:Array U}{l j:U}{lo c:I Int}{Q:U->We->Prop}(a:IsTup s.heap t items)(o:s.heap.IsSliceOf b l j .none)(pl:aaX l lo)(p:aaX j c)
  (n:sIx items.size 0 lo=0/\sIx items.size items.size c=items.size) (h:Q (.ref t) s):wpAny (model Y w) A (getItem (.ref t) (.ref b)) Q E s:=by
 let(q,e,f,r):=id o;let g:s.TypeIs (.ref b) "slice":=#[q,e,f];ext getItem
 try specialize XN ?_
 first|show CL (Wf ?_)|skip
 show CL (agr a.typeIs () ?_);show CL (X4 (name:=Str.ofString "__getitem__") a.typeIs Xq
  (Yd Xq a.typeIs entry_tuple_getitem ?_ (args_tuple_getitem _ _)))
 show wpAny _ _ (Builtin.Tuple.tupleItemsOf (.ref t)>>=_) _ _ s;show CL (tupleItemsOf_ a ?_);show CL (Zk g ?_);rw[ax ()];show CL (iz o pl p ?_);let i:((((sIx items.size 0 lo:Nat):Int)==0&&(1:Int)==1&&(sIx items.size items.size c - sIx items.size 0 lo)==items.size)=S):=by rw[n.1,n.2];simp
 show wpAny _ _ (if(((sIx items.size 0 lo:Nat):Int)==0&&(1:Int)==1&&(sIx items.size items.size c - sIx items.size 0 lo)==items.size)=S then _ else _) _ _ s;rw[ax i];show CL (m:=Builtin.Tuple.tupleIsExact _) ?_;ext Builtin.Tuple.tupleIsExact;show CL (Zk a.typeIs (Wf ?_));rw[ax ()];show CL (aaA ?_);show Wf #[_,W,Wf h]
end
end HT
namespace L3
open PySem PySem.Spec PyProof.Rows L2
def RO(K:lD):V->I Int->I Int->Hp->VK->Prop:=λx lo b H Q=>∃(a:J) (xs:G V),x=.ref a/\ZP K H a xs/\(HT.sIx xs.length 0 lo=0/\HT.sIx xs.length xs.length b=xs.length)/\Q (.ref a) H
def FV{X:Cx}:MC X (RO X.K):=by
 intro e s o H x v t p lo y u Q I g m pl i h;let(a,xs,rfl,j,l,q):=h;ext g;let(n,r,f,w):=I.tuple j;let b:n.toArray.size=xs.length:=by rw[Ws];show r.length.symm
 show#["tuple",_,Xq.lookup,f.typeIs,?_];show HT.getItem_tuple_all f m pl i (by rw[b];show l) #[.ref a,H,I,W,q]
def SQ(K:lD):V->I Int->I Int->Hp->VK->Prop:=λx lo a H Q=>Po K x lo a H Q\/RO K x lo a H Q
def JW{X:Cx}:MC X (SQ X.K):=by
 intro a s b H x v f e lo l g Q I h j pl i q;rcases q with q|q
 .show Ew a s b H x v f e lo l g Q I h j pl i q
 .show FV a s b H x v f e lo l g Q I h j pl i q
def Tz:D->I Int->I Int->I RV
 |.list ds,lo,a=>M (.ow (mV ds lo a))
 |.tuple ds,lo,a=>M (.fz (.tuple (mV ds lo a)))
 |_,_,_=>P
def J4{ds:G D}{lo a:I Int}(h:HT.sIx ds.length 0 lo=0/\HT.sIx ds.length ds.length a=ds.length):mV ds lo a=ds:=by ext mV;rw[h.1,h.2,abQ,acT,YM]
def Sr{K:lD}:RG K (SQ K) Tz:=by
 intro O H x lo i l j Q n b e q;cases l with
 |list ds=>show .inl (uU O H x lo i _ j Q n b e q)
 |tuple ds=>
  ext e;by_cases f:HT.sIx ds.length 0 lo=0/\HT.sIx ds.length ds.length i=ds.length
  .let(a,xs,rfl,h,g):=Dc b;rw[J4 f]at q;show .inr #[a,xs,W,h.1,by rw[g.length];show f,q.at (.tup h g)]
  .show .inl (uU O H x lo i (.tuple ds) _ Q n b ?_ q)
   show(if jN ds.length lo i=S then P else M (RV.fz (.tuple (mV ds lo i))))=_;let z:jN ds.length lo i=R:=by ext jN;show bt f
   rw[z,bb Wr]
 |_=>ext e
section
variable{K:lD}{E:XK}
end
end L3
namespace L9
open PySem PySem.Spec PyProof.Rows
section
variable{M:acM}{A:WQ}{E:V5->We->Prop}{Y:Env}
variable{nm q:Str}{C N:Wd}{bs Z:b5 V5}{hdct:Bool}{sn:b5 Str}{sub:b5 V5}{ab:Bool}{col:b7 Bool}{dd:b7 Wd}{k0 k1 k2 k3 k5:b7 V5}{newId:String}
def ig(i:Z.contains (.type "BaseException")=S)(o:A.handled=P)
  (h:wpAny M A x (λv c=>∃e k,v=.ref e/\c.heap.get? C=cL (excClassObj nm q C N bs Z hdct sn sub ab col dd k0 k1 k2 k3 k5 newId)/\c.heap.get? e=cL k/\k.cls=.ref C/\(∃fs,k.data=.fields fs/\fs[1]?=cL V5.none)/\E (.ref e) c) E s):
  wpAny M A (raiseStmt Y (cL x) P) Q E s:=by
 let f:(V5.ref C::Z).contains (.type "BaseException")=S:=by rw[Zz,i,Zw]
 ext raiseStmt;show CL (wpAny_mono h (λv c a=>?_) λ_ _ x=>x);let(e,k,rfl,m,p,l,(fs,j,b),r):=a;let(y,w,n):=k;dsimp only at l j;subst l j;let(B,g,d,t,u):=c
 repeat (first|specialize X6 p ?_|specialize X6 m ?_|(specialize YX m ?_;rw[f])|wp_step)
 rw[b]
 repeat wp_step
 show afn o r
end
section
variable{prog:Wz}{w:WX}{A:WQ}{E:V5->We->Prop}{h:Heap}{g:Array aar}{d:adR}{t:Nat}{os:acF}
variable{nm q:Str}{C N:Wd}{bs S Z:b5 V5}{hdct:Bool}{sn:b5 Str}{sub:b5 V5}{ab:Bool}{col:b7 Bool}{dd:b7 Wd}{k0 k1 k2 k3 k5:b7 V5}{B P L Y R X:String}{U:b5 V5}
def nZ(Fn:Zm P L X U)(j:Z.contains (.type P)=V6)(F:Zm B Y R Z)(T:agt h Z S)
  (i:h.get? C=M (excClassObj nm q C N bs S hdct sn sub ab col dd k0 k1 k2 k3 k5 L)) (s:h.Ns N mN) (z:mN "__init__"=M (.ref fI)) (p:h.get? fI=M oI) (n:oI.cls=.type "function")
  (G:∀k e,Heap.MadeExcOf h k e (.ref C) rest->wpAny (model prog w) A (call (.ref fI) (.ref e::rest)) (λr c=>r=.none/\Q (.done (.ret (.ref e))) c) E #[k,g,d,t,os]) (hrest:rest.length<=Wm):
  wpAny (model prog w) A (Builtin.«type.__call__» #[.ref C::rest,[]]) Q E #[h,g,d,t,os]:=by
 repeat (first|specialize X6 i ?_|specialize wpAny_madeBy_exc i ?_|wp_step)
 show codeAny_call_builtin_code (acO.quiet_builtin _ Fn.quiet) (wpAny_check_new_subU Fn j T i ?_);show codeAny_exc_new_subU Fn j F T i ?_ hrest
 let a:=b9 {cls:=.ref C,data:=.fields #v[.ref h.objs.size,.none,.none,.none,.bool V8,.none]}
  (b9 {cls:=.type "tuple",data:=.seq rest.toArray} i)
 let v:=b9 {cls:=.ref C,data:=.fields #v[.ref h.objs.size,.none,.none,.none,.bool V8,.none]}
  (b9 {cls:=.type "tuple",data:=.seq rest.toArray} p)
 let f:((h.push {cls:=.type "tuple",data:=.seq rest.toArray}).push {cls:=.ref C,data:=.fields #v[.ref h.objs.size,.none,.none,.none,.bool V8,.none]}).Ns N mN:=
  let#[o,es,ep,e,r]:=s;#[o,es,ep,b9 _ (b9 _ e),r]
 let l:((h.push {cls:=.type "tuple",data:=.seq rest.toArray}).push
   {cls:=.ref C,data:=.fields #v[.ref h.objs.size,.none,.none,.none,.bool V8,.none]}).get? (h.objs.size+1)=M
   {cls:=.ref C,data:=.fields #v[.ref h.objs.size,.none,.none,.none,.bool V8,.none]}:=by heap_get
 let u:(V5.ref C::S).contains (.ref C)=V6:=by simp
 let m:=T.keeps (h':=(h.push {cls:=.type "tuple",data:=.seq rest.toArray}).push {cls:=.ref C,data:=.fields #v[.ref h.objs.size,.none,.none,.none,.bool V8,.none]})
  λb o e=>b9 _ (b9 _ e)
 ext isInstance
 repeat (first|specialize X6 l ?_|(specialize YX a ?_;rw[u])|wp_step)
 show wpAny_typeLookup_tail a f m F.mroIs F.init.lookup ?_;rw[z];show XN (CL ?_);ext bindSpecial;show CL (Zk #[_,v,n] ?_);rw[ax ()];show Wf (CL (wpAny_mono (G _ (h.objs.size+1) #[λb o H=>b9 _ (b9 _ H),da (ZQ _),h.objs.size,l,da (Wg _),?_]) (λr c y=>?_) λ_ _ x=>x))
 .show b9 _ (Heap.get?_push_at W W)
 .let(rfl,I):=y
  wp_walk
  show I
def y8(Fn:Zm P L X U)(i:Z.contains (.type P)=V6)(F:Zm B Y R Z)(T:agt h Z S)
  (a:h.get? C=M (excClassObj nm q C N bs S hdct sn sub ab col dd k0 k1 k2 k3 k5 L)) (p:h.Ns N mN) (s:mN "__init__"=M (.ref fI)) (f:h.get? fI=M o) (b:o.cls=.type "function")
  (j:∀c e,Heap.MadeExcOf h c e (.ref C) rest->wpAny (model prog w) (A.under (.builtin "type.__call__" #[.ref C::rest,[]])) (call (.ref fI) (.ref e::rest)) (λr k=>r=.none/\Q (.ref e) k) E #[c,g,d,t,os]) (hrest:rest.length<=Wm):
  wpAny (model prog w) A (call (.ref C) rest) Q E #[h,g,d,t,os]:=by
 let n:=tc_lookup;let m:=tc_bind (.ref C);let l:(#[h,g,d,t,os]:We).TypeIs (.ref C) "type":=#[_,a,W];show ZX (codeAny_of_tree ?_)
 repeat (any_goals (first|assumption|specialize X6 a ?_|wp_step))
 show#[W,?_];show codeAny_call_builtin_at (acO.quiet_builtin _ (by left)) entry_typeCall (wpAny_check_type_call_sub a (nZ (hrest:=hrest) Fn i F T a p s f b λc e hm=>?_));show j c e hm
end
section
variable{prog:Wz}{w:WX}{A:WQ}{E:V5->We->Prop}{s:We}{env:Env}
variable{nm q:Str}{C N:Wd}{bs Y Z:b5 V5}{hdct:Bool}{sn:b5 Str}{sub:b5 V5}{ab:Bool}{col:b7 Bool}{dd:b7 Wd}{k0 k1 k2 k3 k5:b7 V5}{B Bn newId X R U:String}{S:b5 V5}
def wa(Fn:Zm Bn newId U S)(u:Z.contains (.type Bn)=V6)(F:Zm B X R Z)
  (m:Y.contains (.type "BaseException")=V6) (p:A.handled=Ld) (y:(backTo YY (Wu args env)).any (·.1)=V8) (hi:mN "__init__"=cL (.ref fI)) (t:oI.cls=.type "function")
  (h:wpAny (model prog w) A (eval (.Name x np) env) (λf k=>f=.ref C/\wpAny (model prog w) A (evalArgs (.ref C) V6 (backTo YY (Wu args env)) [])
   (λa c=>a.kw=[]/\a.pos.length<=Wm/\c.heap.get? C=cL (excClassObj nm q C N bs Y hdct sn sub ab col dd k0 k1 k2 k3 k5 newId)/\c.heap.Ns N mN/\c.heap.get? fI=cL oI/\agt c.heap Z Y/\
    ∀V e,Heap.MadeExcOf c.heap V e (.ref C) a.pos->wpAny (model prog w) (A.under (.builtin "type.__call__" #[.ref C::a.pos,[]])) (call (.ref fI) (.ref e::a.pos)) (λr D=>r=.none/\∃z,D.heap.get? C=cL (excClassObj nm q C N bs Y hdct sn sub ab col dd k0 k1 k2 k3 k5 newId)/\D.heap.get? e=cL z/\z.cls=.ref C/\(∃fs,z.data=.fields fs/\fs[1]?=cL V5.none)/\E (.ref e) D) E {c with heap:=V}) E k) E s):
  wpAny (model prog w) A (exec (.Raise (cL (.Call (.Name x np) args [] YY)) Ld pos) env) Q E s:=by
 rw[arm_exec_Raise]
 first
  |show CL (Yq (ig m p (CL (wpAny_mono (abF (wpAny_mono h (λf k i=>?_) λ_ _ x=>x)) (λv l b=>CL (Yq (Wf b))) λ_ _ x=>x))))
  |(simp only[evalOpt,Option.map];show CL (Yq (ig (C:=C) (nm:=nm) (q:=q) (N:=N) (bs:=bs) (hdct:=hdct) (sn:=sn) (sub:=sub) (ab:=ab) (col:=col) (dd:=dd) (k0:=k0) (k1:=k1) (k2:=k2) (k3:=k3) (k5:=k5) (newId:=newId) m p (CL (wpAny_mono (abF (wpAny_mono h (λf k i=>?_) λ_ _ x=>x)) (λv l b=>CL (Yq (Wf b))) λ_ _ x=>x)))))
  |(show CL (Yq (ig m p ?_));show CL (wpAny_mono (abF (wpAny_mono h (λf k i=>?_) λ_ _ x=>x)) (λv l b=>CL (Yq (Wf b))) λ_ _ x=>x))
 let(rfl,i):=i;ext callWith;show CL (XN (wpAny_mono i (λa c j=>CL (Yq ?_)) λ_ _ x=>x));let(H,akw):=a;let(o,n,G,hn,J,T,j):=j;obtain rfl:=o;let(hp,g,d,tk,os):=c;simp only[y];show CL (wpAny_keeperOf_exc G ?_);show CL (y8 (hrest:=n) Fn u F T G hn hi J t λV e hm=>wpAny_mono (j V e hm) (λr D #[I,z,Pz0,O,Mz0,L,K]=>#[I,CL (XN (wpAny_point (Wf ?_)))]) λ_ _ x=>x);show#[e,z,W,Pz0,O,Mz0,L,K]
end
end L9
namespace L9
open PySem PySem.W PyProof.Rows Builtin Builtin.ObjectAttr
abbrev HB:G U:=[.type "ValueError",.type "Exception",.type "BaseException",.type "object"]
section
variable{prog:Wz}{w:WX}{A:WQ}{K:Frag}{B C x:Wd}{s:We}{R:aaW->We->Prop}{Z:ClassData}{name:Str}{Y:Tok}{v:V5}{fs:Array V5}
def KM(X:K.In s.heap)(E:clsIn K C=cL Z)(hm:Z.mro=.ref C:: .ref B::HB)(hd:Z.hasDict=V6)(z:findIn K (.ref C) name=cL Ld)(i:s.heap.get? x=cL #[.ref C,Ld,.fields fs,#v[]])
  (J:∀c k,c.get? x=cL #[.ref C,cL s.heap.objs.size,.fields fs,#v[]]->c.Ns1 s.heap.objs.size (λy=>if y=name then cL v else Ld)->(∀b o,b≠x->s.heap.get? b=cL o->c.get? b=cL o)->R (.ok (.ret .none)) {s with heap:=c,toks:=k}):
  codeAny (model prog w) A (.call (.builtin "object.__setattr__") #[[.ref x,.str name Y,v],[]]) R s:=by
 let I:InstAt s.heap x #[.ref C,Ld,.fields fs,#v[]] C Ld:=#[i,W,W,True.intro];let m:=PySem.F.store_object;let sub:Looks (model prog w) s.heap (isInstance (.ref x) (.type "object")) V6:=I.type.andThen (looks_mroIn X (by ext mroIn;rw[E,Option.bind_some,hm,bb (by simp)];simp));show YR m.slot.plain m.entry (@check_slot (model prog w) _ _ s "object.__setattr__" "object" "__setattr__" (.ref x) [.str name Y,v] [] _ m.kind m.split sub (m.args (.ref x) (.str name Y) v) ?_);let l:Looks (model prog w) s.heap (mroOf (.ref C)) Z.mro:=(looks_clsIn X E).andThen .now;rw[osa_eq,refuse_eq];show CL (CL (I.type.here (CL (l.here ?_))));rw[hm,ajr,ajr,PySem.F.store_ValueError.passes];show Wf (CL (I.type.here (CL ((looks_findIn X z).here (CL (Wf ?_))))));ext storeInOwnDict;show CL (Wf (CL ?_));unfold ownDictForStores instanceDict;show CL (ajk i (CL ((looks_clsIn X E).here ?_)));rw[hd,bb ()];show wpAny _ _ (if(!V6|| !typeHasDict (.ref C))=V6 then pure Ld else(do
        let d<-alloc {cls:=V5.type "dict",data:=Data.dict #v[]}
        update x λo=>{cls:=o.cls,dict:=cL d,data:=o.data,slots:=o.slots}
        dictMade (.ref C) x d)) _ _ _
 rw[bb (by simp[typeHasDict])];let(h,g,d,t,T):=s;dsimp only at X i J I sub l⊢;let f:(h.push {cls:=.type "dict",data:=.dict #v[]}).get? x=cL #[.ref C,Ld,.fields fs,#v[]]:=b9 _ i;let a:=WG (cc i);show CL (wpAny_alloc' ?_);show CL (wpAny_update' f ?_);show Wf ?_
 let q:((h.push {cls:=.type "dict",data:=.dict #v[]}).update x λo=>{cls:=o.cls,dict:=cL h.objs.size,data:=o.data,slots:=o.slots}).get? h.objs.size
   =cL {cls:=.type "dict",data:=.dict #v[]}:=
  (Heap.get?_update_ne _ _ _ _ a.symm).trans (Heap.get?_push_at W W)
 let p:((h.push {cls:=.type "dict",data:=.dict #v[]}).update x λo=>{cls:=o.cls,dict:=cL h.objs.size,data:=o.data,slots:=o.slots}).Ns h.objs.size (λ_=>Ld):=
  #[_,#v[],_,q,W,λe N=>b4 N (by simp),λ_=>W]
 unfold storeInDict newKeyGuard;show CL (Wf (CL (wpAny_nsSet1 (Heap.Ns1.of_empty p) λc j H=>?_)));let(oD,P,Q,n,r,u):=j.count (Within.cons name v Within.nil);show CL (ag0 n (by rw[r];show ag1 (WU u (by rw[Wo,Yy,YA];ext))) ?_);show Wf (J c _ ?_ ?_ λb U G L=>?_)
 .show(H.2 x a).trans (cv _ f W)
 .let(M,es,S,e1,e2,e3,O,e4):=j;show#[M,es,S,e1,e2,e3,O,λy=>by rw[e4 y]]
 .show(H.2 b (WG (cc L))).trans ((Heap.get?_update_ne _ _ _ _ G).trans (b9 _ L))
theorem Ka(X:K.In s.heap)(g:clsIn K C=M Z)(hm:Z.mro=.ref C:: .ref B::HB)(hd:Z.hasDict=S)(a:findIn K (.ref C) "__setattr__"=M (M (.builtin "object.__setattr__")))(h:findIn K (.ref C) name=M P)(e:s.heap.get? x=M #[.ref C,P,.fields fs,#v[]])
  (f:∀c d,c.get? x=M #[.ref C,M s.heap.objs.size,.fields fs,#v[]]->c.Ns1 s.heap.objs.size (λy=>if y=name then M v else P)->(∀b o,b≠x->s.heap.get? b=M o->c.get? b=M o)->Q ⟨⟩ {s with heap:=c,toks:=d}):
  wpAny (model prog w) A (setAttr (.ref x) name v) Q E s:=
 set_plain X (#[e,W,W,True.intro]:InstAt s.heap x #[.ref C,P,.fields fs,#v[]] C P) a (KM X g hm hd h e f)
end
section
variable{y:Wz}{w:WX}{A:WQ}{E:V5->We->Prop}{h:Heap}{g:Array aar}{d:adR}{t:Nat}{u:acF}
variable{nm q:Str}{C N:Wd}{bs r Z:b5 V5}{v:Bool}{sn:b5 Str}{sub:b5 V5}{ab:Bool}{col:b7 Bool}{dd:b7 Wd}{k0 k1 k2 k3 k5:b7 V5}{B L X Y:String}
def Cv(F:Zm B X Y Z)(T:agt h Z r)
  (p:h.get? C=M (excClassObj nm q C N bs r v sn sub ab col dd k0 k1 k2 k3 k5 L)) (j:h.get? e=M #[.ref C,P,.fields fs,#v[]]) (l:fs[0]?=M (.ref t0))
  (m:∀s k,s.get? e=M #[.ref C,P,.fields k,#v[]]->k[0]?=M (.ref h.objs.size)->(∀i,i≠0->k[i]?=fs[i]?)->(∀b o,b≠e->h.get? b=M o->s.get? b=M o)->Q .none #[s,g,d,t,u]) (c:rest.length<=Wm):
  wpAny (model y w) A (call (.builtin Y) (.ref e::rest)) Q E #[h,g,d,t,u]:=by
 show ZX (YR F.init.plain F.initEntry (wpAny_check_init_subU F T p j W ?_));unfold Builtin.«BaseException.__init__»;dsimp only;rw[bb (by simp)];unfold newTuple Builtin.BaseException.bexcPut;let f:=(Xk.mp l).1;let a:(h.push {cls:=.type "tuple",data:=.seq rest.toArray}).get? e=M #[.ref C,P,.fields fs,#v[]]:=b9 _ j;show CL (Xu (CL (CL (Xe a W l (CL (Yw a W f ?_))))) (by show rest.toArray.size<=Wm;rw[Ws];show c));show YQ (Wf (m _ (fs.setIfInBounds 0 (.ref h.objs.size)) ?_ (by simp[f]) (λi hi=>by rw[aa7 (dN hi)]) λb o n z=>?_))
 .show cv (Obj.mapFields (·.setIfInBounds 0 (.ref h.objs.size))) a W
 .show(cn _ _ (dN n)).trans (b9 _ z)
end
end L9
namespace L9
open PySem PySem.Spec PyProof.Rows L2
def Q2(v:V):Prop:=v=.Ye\/∃i:Int,v=.int i/\i.natAbs.log2<1920
def Lx{i:Int}(h:i.natAbs.log2<1920):(Str.ofString (toString i)).length<=5000:=by let e:=int_text_length_le () h;rw[PySem.ofString_length];ext
def PF(I:Inv X pins σ H s)(r:RelV v u)(f:Q2 v)
  (h:∀(y:Str) (t:Tok) (a:We),y.length<=5000->Inv X pins σ H a->Q (.str y t) a):wpAny (model X.prog X.w) A (formatField u Str.empty) Q E s:=by
 rcases f with rfl|⟨i,rfl,b⟩
 .obtain rfl:=r;show wpAny_formatField_none (h _ _ _ () (I.tok _))
 .let(t,rfl):=r;show formatField_int_small b (h _ _ _ (Lx b) (I.tok _))
def PJ(X:Cx)(es:G Wy)(n:Nat)(t:L2.St->Hp->(Hp->Prop)->Prop):Prop:=
 ∀(a:G (J×Obj)) (s:We) (e:L2.St) (H:Hp) (b:Str) (Q:Hp->Prop),Inv X a e H s->b.length+n<=1000000->t e H Q->
  wpAny (model X.prog X.w) X.A (joinParts b (evalEach es X.env)) (λv h=>∃(y:Str) (g:Tok) (f:Hp),v=.str y g/\Inv X a e f h/\Q f) X.xe s
section
variable{X:Cx}{e:Wy}{es:b5 Wy}{n:Nat}{T:TE}{t:L2.St->Hp->(Hp->Prop)->Prop}{Y:Pos}
def M7:PJ X [] 0 (λ_ H Q=>Q H):=by intro a s f H b Q I g h;show joinParts_nil #[_,_,H,W,I.tok _,h] (by rw[YA];ext)
def Qs(i:x.length<=5000)(g:PJ X es n t):PJ X (.Constant (.str x) k Y::es) (n+5000) t:=by intro a s f H b Q I j h;show joinParts_consE (joinParts_cons (Calls.Constant_str ?_));let e:=alq b x;show#[by rw[YA];ext,g a _ f H (b++x) Q (I.tok _) () h]
def Ov(i:PE X e T)(g:PJ X es n t):PJ X (.FormattedValue e (-1) P Y::es) (n+5000) (λσ H Q=>T σ H λv H1=>Q2 v/\t σ H1 Q):=by intro a s σ H b Q I A h;show joinParts_consE (joinParts_cons (FormattedValue_plain (bJ (i a s σ H _ I h) λu o a=>?_)));let(v,H1,j,r,f,q):=a;show PF j r f λy m p w l=>?_;let e:=alq b y;show#[by rw[YA];ext,g a _ σ H1 (b++y) Q l () q]
def JK(h:PJ X (e1::e2::es) n t)(c:n<=900000):PE X (.JoinedStr (e1::e2::es) Y) (λσ H Q=>t σ H λH1=>∀y:Str,Q (.str y) H1):=by intro a s σ H Q I b;show JoinedStr_many (bJ (h a s σ H Str.empty _ I (by show 0+n<=1000000;ext) b) λv j #[y,i,H1,f,g,q]=>?_);subst f;show#[.str y,H1,g,#[_,W],q y]
end
def HC(C e:J):Heap->Prop:=λh=>∃fs t0,h.get? e=M #[.ref C,P,.fields fs,#v[]]/\fs[0]?=M (.ref t0)/\fs[1]?=M .none
def QY(C e p:J):Heap->Prop:=λh=>∃fs a0,h.get? e=M #[.ref C,M p,.fields fs,#v[]]/\fs[0]?=M a0/\fs[1]?=M .none
structure XC(K:lD)(C B fI:J):Prop where
 obj:∃nm q N bs sn sub ab col dd k0 k1 k2 k3 k5,K.lookup C=M (excClassObj nm q C N bs (.ref B::HB) S sn sub ab col dd k0 k1 k2 k3 k5 "ValueError.__new__")/\abr K N=S/\WI K N "__init__"=M (M (.ref fI))
 base:Zc K B HB "ValueError.__new__"=S
 sa:WW K (.ref C) "__setattr__"=M (M (.builtin "object.__setattr__"))
def xh{K:lD}(q:Zc K B HB n=S):aah K HB (.ref B::HB)=S:=by
 unfold Zc at q;split at q
 .rename_i dd f e b
  split at q
  .simp only[V7,beq_iff_eq,Yi]at q;let(((((_,_),_),_),Xw),a):=q;ext aah;dsimp only;rw[b];dsimp only;rw[Xw,a,show aah K HB HB=S from by ext aah;rw[d9,YL],d9,Xv,Xv,Zw]
  .ext q
 .ext q
section
variable{X:Cx}{B C fI:Wd}{pos U Y:Pos}{Z:Wy}{as:b5 Wy}{t:TA}{b:Str}
def F5(h:H a=M o):aW H a o=H:=by
 funext c;by_cases z:c=a
 .rw[z,az,h]
 .rw[ar z]
def Qr(C:J)(t:TA):TE:=λf H Q=>t f H λg a=>∃e y,g=[.ref e,.str y]/\a e=M (.ext (HC C e))/\Q .Ye a
def G8{pl:Sem Bool}(V:Gl X b)(hm:X.mg b=cL (.ref B))(D:abc X.K B (.type "type")=V6)(hf:abd X.K (.ref B) (.type "type") "__init__"=cL (.val (.builtin "ValueError.__init__")))
  (k:YV X.K (.ref B) "__getattribute__"=cL (cL (.builtin "type.__getattribute__"))) (A:XC X.K C B fI) (ha:PA X (Z::as) t)
  (db:Wu (Z::as) X.env=(V8,eval Z X.env)::Wu as X.env:=by rfl) (l:(backTo pos (Wu as X.env)).any (·.1)=V8:=by rfl) (m:(b==("__debug__":Str))=V8:=by decide)
  (c:eval (.Call (.Attribute (.Name b U) "__init__" Y) (Z::as) [] pos) X.env=(do
   let ov<-eval (.Name b U) X.env
   standAt Y.atName
   let(f,first)<-holding [ov] (getMethod ov "__init__" pl)
   callWith pos f first (backTo pos (Wu (Z::as) X.env)) (backToKw pos (keywordEach [] X.env))):=by rfl):
  PE X (.Call (.Attribute (.Name b U) "__init__" Y) (Z::as) [] pos) (Qr C t):=by
 intro a s G H Q I h;show Z5 (pl:=pl) (iY I V hm ?_ m) c;show PySem.W.method_cls I.kIn k (PySem.W.cls_value I.kIn D hf () ?_);let E:=ha pos a {s with toks:=s.toks+1} G H _ (I.tok _) h;rw[db]at E⊢;show Calls.callWith_builtin (by show(V8||(backTo pos (Wu as X.env)).any (·.1))=V8;rw[l]<;>rfl) (Calls.evalArgs_plain (bJ E λus v #[vs,F,i,r,e,y,ev,n,q]=>?_));subst ev;let(O,u2,rfl,S,R):=Aa r;obtain rfl:O=.ref e:=S;let(tk,rfl):=R;let((fs,t0,g1,g2,g3),_,gk):=(show ObjOk X.prog X.w F v.heap e (.ext (HC C e))from i.Xw e _ n);let(nm,q',N,bs,sn,sub,ab,col,dd,k0,k1,k2,k3,k5,lk,Xw,hin):=A.obj;let T:=acU i.kIn (xh A.base);let(h2,g,d,j,os):=v;show Cv YC T (i.kIn _ _ lk) g1 g2 (λh' p e1 e2 e3 e4=>?_) (by show 1<=Wm;decide);show#[.Ye,F,?_,W,q];let w:=i.write (x:=e) (e:=e) (o:=.ext (HC C e)) (h':=h') (t':=j) (by rw[n];show True.intro) (.inl W) (λb u hb z=>e4 b u hb z) #[_,e1] #[#[p,_,e1,e2,by rw[e3 1 ()];show g3],#[_,e1],λh1 h2 #[f1,Pz0,Mz0,L,J2] hk=>#[f1,Pz0,hk _ Mz0,L,J2]];rw[F5 n]at w;show w
def Sd(C:J)(f:Str)(c h:TE):TS:=λD a H=>h a H λv i=>c a i λx g=>∃e,x=.ref e/\g e=M (.ext (HC C e))/\∀p,g p=P->p≠e->D.nx a (aW (aW g e (.ext (QY C e p))) p (.xd [(f,v)]))
def Jl(O:XC X.K C B fI)(V:WW X.K (.ref C) f=cL Ld)(ha:PE X o ta)(c:PE X value tv)(d:Yu value (cL (.Attribute o f pos')) pos.line X.env=pure V8):PS X (.Assign [.Attribute o f pos'] value pos) (Sd C f ta tv):=by
 intro l s F H D I h;show abM (bJ (c l s F H _ I h) λu s1 #[v,H1,I1,rv,q]=>bJ (ha l s1 F H1 _ I1 q) λov p a=>?_) d;let(x,Q,A,rx,e,ex,j,q2):=a;subst ex;obtain rfl:=rx;let((fs,t0,P,g2,g3),_,gk):=(show ObjOk X.prog X.w Q p.heap e (.ext (HC C e))from A.Xw e _ j);let(nm,q',N,bs,sn,sub,ab,col,dd,k0,k1,k2,k3,k5,lk,Xw,hin):=O.obj;obtain⟨E,hc,J,L⟩:∃E,aeK X.K C=cL E/\E.mro=.ref C:: .ref B::HB/\E.hasDict=V6:=by ext aeK;rw[lk];show#[_,W,W,W]
 show Ka A.kIn hc J L O.sa V P λh' tk' e1 e2 e3=>?_;let pe:=Xn (cc P);let r:=A.Xw.fresh (Wg _);show#[F,_,?_,q2 p.heap.objs.size r pe];let m:∀b o,p.heap.get? b=cL o->b≠p.heap.objs.size:=λb o z=>WG (cc z);show A.un #[λb o z n _ _=>e3 b o (λy=>by rw[y,j]at n;ext n) z,λb o z n _ _=>#[o.slots,e3 b o (λy=>by rw[y,j]at n;ext n) z],λb o z n _=>?_,λb o z _=>?_,λb xs z=>?_,λb o u z=>?_,λb ps z=>#[#v[],?_]] ?_
 .rw[ar (m b o z),ar (λy=>by rw[y,j]at n;ext n)];show n
 .by_cases y:b=e
  .subst y;show#[_,e1]
  .show#[o,e3 b o y z]
 .rw[ar (λy=>by rw[y,r]at z;ext z),ar (λy=>by rw[y,j]at z;ext z)];show z
 .rw[ar (λy=>by rw[y,r]at z;ext z),ar (λy=>by rw[y,j]at z;ext z)];show z
 .rw[ar (λy=>by rw[y,r]at z;ext z),ar (λy=>by rw[y,j]at z;ext z),z];simp
 .intro a o z
  by_cases M:a=p.heap.objs.size
  .subst M
   rw[az]at z;ext z;show#[_,e2,λg=>?_];show ZH (match g==f with|true=>cL v|false=>Yg g []) (if g=f then cL u else Ld);cases i:g==f with
   |true=>rw[ax (beq_iff_eq.mp i)];show rv
   |false=>rw[bb (λw=>by rw[beq_iff_eq.mpr w]at i;ext i)];show True.intro
  .rw[ar M]at z
   by_cases G:a=e
   .subst G;rw[az]at z;ext z;show#[#[fs,_,e1,g2,g3],#[_,e1],λh1 h2 #[f1,t1,T,S1,R1] hk=>#[f1,t1,hk _ T,S1,R1]]
   .rw[ar G]at z
    let own:∀b,Q b=cL (.own a)->b≠e/\b≠p.heap.objs.size:=λb y=>#[(λk=>by rw[k,j]at y;ext y),(λk=>by rw[k,r]at y;ext y)];show(A.Xw a o z).Z0 (λb w i y=>e3 b w (λk=>?_) y) (λb y=>by rw[ar (own b y).2,ar (own b y).1];show y) λb xs y=>by rw[ar (λk=>by rw[k,r]at y;ext y),ar (λk=>by rw[k,j]at y;ext y)];show y
    rcases i with i|i
    .show G (i.symm.trans k)
    .show(own b i).1 k
end
end L9
namespace L9
open PySem PySem.Spec PyProof.Rows L2 L4
def QU(H:Hp)(e:J):Hp:=λa=>if a=e then P else H a
theorem qZ:QU H e e=P:=ax W
theorem iP(h:a≠e):QU H e a=H a:=bb h
def x8{K:lD}(X:K.In h)(G:h.Ns N C)(e:WI K N n=M (M v)):C n=M v:=by
 let(o,es,p,f,j,_,g):=G;unfold WI at e;split at e
 .rename_i l m b a
  let:=(X _ _ a).symm.trans f;ext this;ext j;split at e
  .rename_i q i;ext e;rw[<-g];unfold nsFind findBy;rw[<-ady,i];rfl
  .split at e<;>ext e
 .ext e
def Nv{K:lD}(i:Yp K (.ref f)=S)(l:K.lookup f=M o):o.cls=.type "function":=by unfold Yp ad5 at i;dsimp only at i;rw[l]at i;show Wt (beq_iff_eq.mp i)
section
variable{X:Cx}{Z:b5 (Wd×Obj)}{Y:L2.St}{H:Hp}{s:We}{T:Heap}{e:Wd}{o:HO}
def Jh(I:L2.Inv X Z Y H s)(k:∀b u,s.heap.get? b=M u->T.get? b=M u)(n:s.heap.get? e=P)(new:ObjOk X.prog X.w (aW H e o) T e o):L2.Inv X Z Y (aW H e o) {s with heap:=T,toks:=t'}:=by
 let f:=vO I.Xw n;let ne:∀b u,s.heap.get? b=M u->b≠e:=λb u z y=>by rw[y,n]at z;ext z
 show I.un #[λb u z _ _ _=>k b u z,λb u z _ _ _=>#[u.slots,k b u z],λb u z q _=>by rw[ar (ne b u z)];show q,λb u z _=>#[u,k b u z],λb xs z=>?_,λb u v z=>?_,λb g z=>#[#v[],?_]] ?_
 .rw[ar (λy=>by rw[y,f]at z;ext z)];show z
 .rw[ar (λy=>by rw[y,f]at z;ext z)];show z
 .rw[ar (λy=>by rw[y,f]at z;ext z),z];simp
 .intro a u z
  by_cases y:a=e
  .subst y;rw[az]at z;ext z;show new
  .rw[ar y]at z;show(I.Xw a u z).Z0 (λb w _ q=>k b w q) (λb q=>by rw[ar (λw=>by rw[w,f]at q;ext q)];show q) λb xs q=>by rw[ar (λw=>by rw[w,f]at q;ext q)];show q
def IH(I:L2.Inv X Z Y H s)(f:H e=M (.ext C)):L2.Inv X Z Y (QU H e) s:=by
 let:=I.un (t':=s.toks) (H':=QU H e) #[λb u z _ _ _=>z,λb u z _ _ _=>#[u.slots,z],λb u z q _=>?_,λb u z _=>#[u,z],λb xs z=>?_,λb u v z=>?_,λb g z=>#[#v[],?_]] ?_
 .show this
 .by_cases y:b=e
  .rw[y];show qZ
  .rw[iP y];show q
 .rw[iP (λy=>by rw[y,f]at z;ext z)];show z
 .rw[iP (λy=>by rw[y,f]at z;ext z)];show z
 .rw[iP (λy=>by rw[y,f]at z;ext z),z];simp
 .intro a u z
  let y:a≠e:=λy=>by rw[y,qZ]at z;ext z
  rw[iP y]at z;show(I.Xw a u z).Z0 (λb w _ q=>q) (λb q=>by rw[iP (λw=>by rw[w,f]at q;ext q)];show q) λb xs q=>by rw[iP (λw=>by rw[w,f]at q;ext q)];show q
end
def AJ(C:J)(sp:Sp)(E:XK)(c:TA):TS:=λ_ f H=>c f H λg b=>g.length<=Wm/\∀e,b e=P->sp (.ref e::(g++[])) (aW b e (.ext (HC C e))) (λv a=>v=.Ye/\∃p,a e=M (.ext (QY C e p))/\E (.ref C) (M p) (QU a e)) E0
def CP{K:lD}
  (c:XC K C B fI) (U:K.lookup fI=cL oI) (d:Yp K (.ref fI)=V6) (FI:FnOk Pz0 w K mg base kg k fI fdI ps sp) (bI:Binds K fdI ps [])
  (hr:X9 (k+1) (fx (kN Pz0 w) Pz0 w K mg base N qual scope f cd A outer s0 H0 E).A)
  (hg:Gl (fx (kN Pz0 w) Pz0 w K mg base N qual scope f cd A outer s0 H0 E) x) (hm:mg x=cL (.ref C)) (ha:PA (fx (kN Pz0 w) Pz0 w K mg base N qual scope f cd A outer s0 H0 E) (e0::es) ta)
  (J:(x==("__debug__":Str))=V8:=by decide)
  (Y:Wu (e0::es) (fx (kN Pz0 w) Pz0 w K mg base N qual scope f cd A outer s0 H0 E).env=(V8,eval e0 (fx (kN Pz0 w) Pz0 w K mg base N qual scope f cd A outer s0 H0 E).env)::Wu es (fx (kN Pz0 w) Pz0 w K mg base N qual scope f cd A outer s0 H0 E).env:=by rfl)
  (F:(backTo YY (Wu es (fx (kN Pz0 w) Pz0 w K mg base N qual scope f cd A outer s0 H0 E).env)).any (·.1)=V8:=by rfl):
  PS (fx (kN Pz0 w) Pz0 w K mg base N qual scope f cd A outer s0 H0 E) (.Raise (cL (.Call (.Name x np) (e0::es) [] YY)) Ld pos) (AJ C sp E ta):=by
 intro l s σ H D I h;let(nm,qn,Nn,bs,sn,sub,ab,col,dd,k0,k1,k2,k3,k5,S,Xw,G):=c.obj;let a:=I.ok.mod.kin;let oC:=a _ _ S;let R:=Heap.Ns.of_isNs (PySem.W.isNs_of_in a Xw);let ni:=x8 a R G;let oF:=a _ _ U;let T:=acU a (xh c.base);show wa (nm:=nm) (q:=qn) (N:=Nn) (bs:=bs) (hdct:=V6) (sn:=sn) (sub:=sub) (ab:=ab) (col:=col) (dd:=dd) (k0:=k0) (k1:=k1) (k2:=k2) (k3:=k3) (k5:=k5) YC (by left) YC (T.hasType YC.hasBase) (I.ok.hd W)
  (by rw[Y];show(ZT _).trans F) ni (Nv d U) (iY I hg hm #[W,?_] J)
 let go:=ha YY l s σ H _ I h;rw[Y]at go⊢;show Calls.evalArgs_plain (bJ go λg j a=>?_);let(vs,H1,i,r,hl,q):=a;show#[W,by rw[<-r.length];show hl,i.bk _ _ oC,R.keeps i.bk,i.bk _ _ oF,T.keeps i.bk,λh' e m=>?_];let(t,y,y2,y3):=m.there;let hn:=vO i.Xw m.new;let X:=q e hn;let M:=Jh (t':=j.toks) (o:=.ext (HC C e)) i m.keeps m.new #[#[_,t,y,W,W],#[_,y],λh1 h2 #[f1,t1,z1,z2,z3] hk=>#[f1,t1,hk _ z1,z2,z3]];let Q:Vals (V.ref e::(vs++[])) (V5.ref e::(g++[])):=.cons W (r.append .nil);let n:(V5.ref e::g++[]).length=ps.length:=by let z:=Q.length;rw[FI.len _ _ _ _ X]at z;show z.symm
 let old:s0.heap.get? e=Ld:=by
  cases z:s0.heap.get? e with
  |none=>rfl
  |some o=>let(o',O):=i.base.there e o z (λy=>nomatch y);rw[m.new]at O;ext O
 let bi:=bI {heap:=h',gens:=j.gens,drawn:=j.drawn,toks:=j.toks,os:=j.os} (V5.ref e::g) M.kIn n;rw[aeL]at bi;show ZX (ZL (FI.run _ (fx (kN Pz0 w) Pz0 w K mg base N qual scope f cd A outer s0 H0 E).stack _ _ #[V5.ref e::g,[]] (V5.ref e::(g++[])) _ _ E0 (hr.make C g []) (M.afb.make C g []) bi Q X) λr s' b=>?_);cases r with
 |error e=>show b.elim
 |ok fl=>
  cases fl with
  |ret u=>let(v,H',L,rv,ev,p,Z,q3):=M.after b;subst ev;let((fs,a0,g1,g2,g3),_,_):=(show ObjOk _ _ H' s'.heap e (.ext (QY C e p))from L.Xw e _ Z);show#[rv,_,L.kIn _ _ S,g1,W,#[fs,W,g3],?_];show MZ (hd:=Ld) (IH L Z) #[_,_,g1,W,W,W,g2,g3] old (λT z=>nomatch z) qZ (λT z=>nomatch z) q3
  |next=>show False.elim b
  |brk=>show False.elim b
  |cont=>show False.elim b
end L9
namespace L9
open PySem PySem.Spec PySem.W PyProof.Rows L2 L3 L4
section
variable{T:Wz}{w:WX}{A:WQ}{E:V5->We->Prop}{h:Heap}{g:Array aar}{d:adR}{t:Nat}{L:acF}{a C:Wd}{o:Obj}{K:lD}{Z:b7 Obj}{N:Str}{v:V5}
  {n1 q1:Str} {N1:Wd} {b1 B:b5 V5} {d1:Bool} {s1:b5 Str} {u1:b5 V5} {a1:Bool} {c1:b7 Bool} {x1:b7 Wd} {i0 i1 i2 i3 i5:b7 V5} {Y:String}
def yq(X:K.In h)(I:aad h a o C Z)(b:findObj K C Z N=cL (.value v))
  (k:Q (.done (.ret v)) #[h,g,d,t,L]):wpAny (model T w) A (Builtin.«object.__getattribute__» #[[.ref a,.str N tk],[]]) Q E #[h,g,d,t,L]:=by
 let f:=I.type (M:=model T w);let e:=looks_find (M:=model T w) X I b;show CL (Wf (CL (Wf (CL (f.at (CL (e.at ?_)))))));show Wf k
def BB(X:K.In h)(I:aad h a o C Z)(n:h.get? C=cL (excClassObj n1 q1 C N1 b1 B d1 s1 u1 a1 c1 x1 i0 i1 i2 i3 i5 Y))(m:B.contains (.type "BaseException")=S)
  (f:findIn K (.ref C) "__getattribute__"=cL (cL (.builtin "BaseException.__getattribute__"))) (e:findIn K (.ref C) "__getattr__"=cL P) (l:findObj K C Z N=cL (.value v)) (j:handedIn v=S)
  (k:Q v #[h,g,d,t+1,L]):wpAny (model T w) A (getAttr (.ref a) N expr) Q E #[h,g,d,t,L]:=by
 let y:=abk.ga.bind (.ref a);let b:(V5.builtin "BaseException.__getattribute__"==V5.builtin "object.__getattribute__")=R:=by left
 let u:(onTheHeap (V5.ref C)&&V5.builtin "BaseException.__getattribute__"==V5.builtin "object.__getattribute__")=R:=by rw[b];rfl
 let r:=I.type (M:=model T w);let q:=looks_findIn (M:=model T w) X f;let p:=looks_findIn (M:=model T w) X e;unfold getAttr getAttrBy
 repeat (any_goals (first|assumption|specialize r.at ?_|specialize q.at ?_|specialize p.at ?_|wp_step))
 rw[show(expr&&onTheHeap (V5.builtin "BaseException.__getattribute__"))=R from by ext expr<;>rfl,bb Wr];ext boundAndCalled
 repeat (any_goals (first|assumption|wp_step))
 show YR abk.ga.plain F.entry_bexc_ga (xI n m I.at_ I.cls (yq X I l ?_));let i:=handedOut_of j;show wpAny _ _ (handedOut v) _ _ _;rw[i];show Wf k
end
def MJ(K:lD)(c:TE)(f:Str):TE:=λb H Q=>c b H λx a=>∃e g C m p fs v,x=.ref e/\a e=M (.frz g (.own e))/\g.cls=.ref C/\g.dict=M p/\notCls g=S/\ac5 K C m/\hasDictIn K C=S/\findIn K (.ref C) f=M P/\
 a p=M (.xd fs)/\fs.lookup f=M v/\Q v a
def Lz(S:PE X o ta)(Y:attributeBase o f X.env (eval o X.env)=eval o X.env):PE X (.Attribute o f pos) (MJ X.K ta f):=by intro a s A H Q I h;show zr Y (bJ (S a s A H _ I h) λu n a=>?_);let(x,y,b,B,e,F,C,m,p,fs,v,Z,ea,Uz0,T,hn,L,w,ha,N,l,q):=a;subst Z;obtain rfl:=B;let z:=(b.Xw e _ ea).1;let(mA,G,i):=(show ObjOk X.prog X.w y n.heap p (.xd fs)from b.Xw p _ N);let(u',M,r):=ZH.some_of (by rw[<-l];show i f);let(E,O,P):=sK G;let(_,_,_,_,_,_,_,_,_,_,_,_,_,_,_,_,J):=L.cl;let(j,g,d,t,os):=n;show BB b.kIn (#[z,Uz0,hn,by rw[T];show O]:aad j e F C (cL E)) (b.kIn _ _ J) L.be L.ga L.gt (findObj_own w ha W (by rw[P,M])) (sB r) #[v,y,b.tok _,r,q]
def ur(C:J)(f:Str):Sp:=λa H Q _=>∃e v,a=[.ref e,v]/\Q2 v/\H e=M (.ext (HC C e))/\∀p,H p=P->p≠e->Q .Ye (aW (aW H e (.ext (QY C e p))) p (.xd [(f,v)]))
def Rs:D->Bool
 |.none=>S
 |.int i=>decide (i.natAbs.log2<1920)
 |_=>R
end L9
namespace L3
open PySem PySem.Spec PyProof.Rows L2
mutual
def U5:Wa->Bool
 |.tuple ds=>PU ds
 |.int _=>V6
 |.str _=>V6
 |.bool _=>V6
 |.none=>V6
 |_=>V8
def PU:b5 Wa->Bool
 |[]=>V6
 |d::r=>U5 d&&PU r
end
section
variable{K:lD}{E:XK}{B:bE}{Y:Hp}{O Z:bE}{X:L2.St}{H T:Hp}{Q:aL}
def KJ(h:ZP K H a xs)(l:H a=M (.lst ys)):ZP K (λ_=>P) a xs:=by
 rcases h with(h|⟨o,h⟩)|h
 .rw[l]at h;ext h
 .rw[l]at h;ext h
 .show .inr h
mutual
theorem K6(f:∀b,O b->¬Z b->∃ys,H b=cL (.lst ys)):∀{v:V} {d:D},DV Z K H v d->U5 d=V6->DV O K H v d
 |_,_,.Ye,_=>.Ye
 |_,_,.bl b,_=>.bl b
 |_,_,.int i,_=>.int i
 |_,_,.str x,_=>.str x
 |_,_,.tup (a:=a) h hs,e=>.tup ⟨h.1,λz=>by
   by_cases y:Z a
   .exact h.2 y
   .obtain⟨ys,q⟩:=f a z y;exact KJ h.1 q⟩ (vH f hs e)
 |_,_,.lst h hs,e=>by cases e
theorem vH(a:∀b,O b->¬Z b->∃ys,H b=cL (.lst ys)):∀{vs:b5 V} {ds:b5 D},XS Z K H vs ds->PU ds=V6->XS O K H vs ds
 |_,_,.nil,_=>.nil
 |_,_,.cons h hs,e=>by have f:=Bool.and_eq_true_iff.mp e;exact .cons (K6 a h f.1) (vH a hs f.2)
end
end
end L3
namespace PyProof.Rows
open PySem
section
variable{Y:Wz}{w:WX}{A:WQ}{E:V5->We->Prop}{s:We}
def pJ(b:h.get? a=M (seqObj "list" o.toArray n)):∃e,(sortedHeap h a o out).get? a=M (seqObj "list" out e):=by let f:=get?_update_seq b (λ_=> #v[]);show#[_,get?_update_seq (b9 _ (b9 _ f)) _]
theorem na(f:b≠a)(e:h.get? b=M o):(sortedHeap h a C out).get? b=M o:=
 (cn _ _ (dN f)).trans (b9 _ (b9 _ ((cn _ _ (dN f)).trans e)))
def yc{l:J}{c:b5 U}{j:b5 Int}{Q:U->We->Prop}(p:s.heap.IsTuple l c.toArray)(y:IntsAre c j)(i:c.length<64)
  (h:∀(a d:Heap) (out:Array U) (e:Nat) (f:b5 Int),(∀b o,s.heap.get? b=M o->a.get? b=M o)->d.get? a.objs.size=M (seqObj "list" out e)->(∀b o,a.get? b=M o->d.get? b=M o)->IntsAre out.toList f->f.Perm j->f.Pairwise (·<=·)->Q (.ref a.objs.size) {s with heap:=d}):
  wpAny (model Y w) A (call (.builtin "sorted") [.ref l]) Q E s:=by
 let(o,q,v,n,u):=p;show Calls.call_function_entry kind_sorted plain_sorted entry_sorted (args_sorted1 _) (CL (m:=checkCount "sorted" 1 1 _) (Wf (CL (wpAny_collect_seq l (.inr W) q v u (λa r=>CL (alr ?_)) (by rw[Ws,YA];ext)))));let g:(a.push (seqObj "list" c.toArray 0)).get? a.objs.size=M (seqObj "list" c.toArray 0):=ck _ W;show CL (XN (Yd slot_list_sort #[_,g,W] entry_list_sort (list_sort_tree g y i λout f F C B=>#[_,W,Wf #[_,W,?_]]) (args_list_sort _)));let(e,t):=pJ (out:=out) g;show h a _ out e f r t (λb G z=>na (WG (cc z)) (b9 _ z)) F C B
end
end PyProof.Rows
namespace L9
open PySem PySem.Spec PyProof.Rows L2 L3
section
variable{K:lD}{E:XK}
def tU:YG X (.builtin "sorted") (λxs H Q=>∃(p:Wd) (f:b5 Int),xs=[.ref p]/\ZP X.K H p (f.map V.int)/\f.length<64/\∀(l:Wd) (a:b5 Int),H l=P->a.Perm f->a.Pairwise (·<=·)->Q (.ref l) (aW H l (.lst (a.map V.int)))):=by
 intro j s F H xs G Q I r h;let(p,f,rfl,v,B,q):=h;let(u,rfl,o):=kq r;ext o;let(M,N,pl,J):=I.tuple v;let w:=N.length;rw[V9]at w;show yc pl (kR N) () λC L g e a y A i T m t=>?_;let b:=m.length_eq;let n:=I.kept (t':=s.toks) y;show#[.ref C.objs.size,_,n.laid i (Wg _) ?_,W,q _ a (n.Xw.fresh (Wg _)) m t];show#[?_,g.toList,e,iA T,A];rw[V9,b];let:(64:Nat)<=Wm:=by decide
 ext
theorem uK:YG X (.builtin "sorted") (λxs H Q=>(∃(p:J) (a:G Int),xs=[.ref p]/\Z1 X.K H p (a.map V.int)/\a.length<64/\∀(l:J) (b:G Int),H l=P->b.Perm a->b.Pairwise (·<=·)->Q (.ref l) (aW H l (.lst (b.map V.int))))\/
  (∃(p:J) (a:G Int),xs=[.ref p]/\ZP X.K H p (a.map V.int)/\a.length<64/\∀(l:J) (b:G Int),H l=P->b.Perm a->b.Pairwise (·<=·)->Q (.ref l) (aW H l (.lst (b.map V.int))))):=L2.YG.or vV tU
def fD:G D->I RV
 |[.tuple ds]=>(match mI ds with
  |some a=>if a.length<64 then M (.ow ((jw a).map .int))else P
  |none=>P)
 |ds=>tR ds
def yx:B2 K (λxs H Q=>(∃(p:J) (b:G Int),xs=[.ref p]/\Z1 K H p (b.map V.int)/\b.length<64/\∀(l:J) (f:G Int),H l=P->f.Perm b->f.Pairwise (·<=·)->Q (.ref l) (aW H l (.lst (f.map V.int))))\/
  (∃(p:J) (b:G Int),xs=[.ref p]/\ZP K H p (b.map V.int)/\b.length<64/\∀(l:J) (f:G Int),H l=P->f.Perm b->f.Pairwise (·<=·)->Q (.ref l) (aW H l (.lst (f.map V.int))))) fD:=by
 intro O H xs ds u Q n h e q;unfold fD at e;split at e
 .split at e
  .rename_i b j
   split at e
   .rename_i v
    ext e;cases h with
    |cons r o=>ext o;let(a,w,rfl,i,t):=Dc r;rw[oP t j]at i;show .inr #[a,b,W,i.1,v,λl f m g db=>?_];let e2:=jZ (g.trans (eB b).symm) db (dR b);subst e2;show q.new (pK _) l m
   .ext e
  .ext e
 .show .inl (BN O H xs ds u Q n h e q)
end
end L9
namespace L9
open PySem PySem.W PyProof.Rows Builtin Builtin.ObjectAttr
open PySem.Spec L2
open L3 L4
def GC(C:J)(f g:Str):Sp:=λa H Q _=>∃e v u,a=[.ref e,v,u]/\Q2 v/\Q2 u/\H e=M (.ext (HC C e))/\∀p,H p=P->p≠e->Q .Ye (aW (aW H e (.ext (QY C e p))) p (.xd [(g,u),(f,v)]))
end L9
namespace LD
open PySem PyProof.Rows L2 L3
mutual
def kd:Wa->Bool
 |.none=>V6
 |.int _=>V6
 |.str x=>Wa.strOk x
 |.tuple xs=>kds xs
 |_=>V8
def kds:b5 Wa->Bool
 |[]=>V6
 |x::r=>kd x&&kds r
end
def keyD:Wa->Bool
 |.tuple xs=>kds xs&&decide ((Wa.tuple xs).depth<=8)
 |_=>R
mutual
theorem kd_lay:∀d:Wa,kd d=V6->d.canLay0=V6
 |.none,_=>rfl
 |.int _,_=>rfl
 |.str x,h=>by unfold Wa.canLay0;unfold kd at h;exact h
 |.tuple xs,h=>by unfold Wa.canLay0;unfold kd at h;exact zS xs h
 |.bool _,h|.list _,h|.dict _,h=>by simp[kd]at h
theorem zS:∀xs:b5 Wa,kds xs=V6->Wa.canLayAll0 xs=V6
 |[],_=>rfl
 |x::r,h=>by unfold kds at h;rw[V7]at h;unfold Wa.canLayAll0;rw[kd_lay x h.1,zS r h.2];rfl
end
mutual
theorem kd_eqv:∀d e:Wa,kd d=V6->kd e=V6->Wa.eqv d e=V6->d=e
 |.none,e,_,h,q=>by cases e<;>simp_all [kd,Wa.eqv]
 |.int i,e,_,h,q=>by cases e<;>simp_all [kd,Wa.eqv]
 |.str x,e,_,h,q=>by cases e<;>simp_all [kd,Wa.eqv]
 |.tuple xs,e,g,h,q=>by
  cases e with
  |tuple a=>rw[Wa.eqv]at q;unfold kd at g h;rw[Ba xs a g h q]
  |_=>simp_all [kd,Wa.eqv]
 |.bool _,_,h,_,_|.list _,_,h,_,_|.dict _,_,h,_,_=>by simp[kd]at h
theorem Ba:∀xs ys:b5 Wa,kds xs=V6->kds ys=V6->Wa.eqvAll xs ys=V6->xs=ys
 |[],[],_,_,_=>rfl
 |[],_::_,_,_,q=>by simp[Wa.eqvAll]at q
 |_::_,[],_,_,q=>by simp[Wa.eqvAll]at q
 |x::xs,y::ys,g,h,q=>by unfold kds at g h;rw[Wa.eqvAll]at q;rw[V7]at g h q;rw[kd_eqv x y g.1 h.1 q.1,Ba xs ys g.2 h.2 q.2]
end
def Gz[Decidable (d=e)](hd:kd d=S)(a:kd e=S):Wa.eqv d e=decide (d=e):=by
 by_cases q:d=e
 .subst q;rw[bg W];show SeqAt.eqv_refl d (kd_lay d hd)
 .rw[bt q]
  cases z:Wa.eqv d e with
  |false=>rfl
  |true=>show b4 (kd_eqv d e hd a z) q
def keyD_kd(h:keyD d=S):kd d=S/\d.depth<=8:=by
 cases d with
 |tuple xs=>unfold keyD at h;rw[V7]at h;show#[by ext kd;show h.1,b3 h.2]
 |_=>simp[keyD]at h
mutual
def qH(w:WX):Wa->Int
 |.none=>reduceHash 0xFCA86420
 |.int i=>hashInt i
 |.str x=>hashStr w x
 |.tuple xs=>reduceHash (Builtin.Tuple.tupleHashOf (qS w xs))
 |_=>0
def qS(w:WX):b5 Wa->b5 Int
 |[]=>[]
 |x::r=>qH w x::qS w r
end
mutual
def TL:Wa->Nat
 |.tuple xs=>Iq xs+1
 |_=>1
def Iq:b5 Wa->Nat
 |[]=>0
 |x::r=>TL x+Iq r
end
section
variable{prog:Wz}{w:WX}{E:V5->We->Prop}
mutual
theorem Bi:∀(d:Wa) (v:V5) (as:b5 Wd) (A:WQ) (s:We) (Q:Int->We->Prop),kd d=V6->acR s.heap v d as->A.units+d.depth<cLine->Q (qH w d) {s with toks:=s.toks+TL d}->wpAny (model prog w) A (pyHash v) Q E s
 |.none,_,_,A,s,Q,_,r,hu,h=>by cases r;exact acG (T:= "NoneType") rfl F.slot_NoneType_hash F.entry_NoneType_hash (F.args_NoneType_hash_1 _) (ag7 _) (.inr (by ext)) (CL (Wf (CL (wpAny_mkInt (Wf ⟨_,_,rfl,h⟩)))))
 |.int i,_,_,A,s,Q,_,r,_,h=>by cases r;exact agT h
 |.str x,_,_,A,s,Q,_,r,_,h=>by cases r;exact agU h
 |.tuple xs,_,_,A,s,Q,hk,r,hu,h=>by
  cases r with
  | @tuple a o vs n _ _ h1 h2 h3 h4=>
   refine acG (T:= "tuple") ⟨_,h1,h2⟩ F.slot_tuple_hash F.entry_tuple_hash (F.args_tuple_hash_1 _) (ag7 _) (.inr (by ext)) ?_;show wpAny _ _ (Builtin.Tuple.tupleItemsOf (.ref a)>>=_) _ _ s;refine CL (wpAny_tupleItemsOf h1 h3 ?_);refine CL ?_;rw[<-adB];unfold kd at hk;refine sT xs vs.toList _ A.in1 s #v[] _ hk h4 (by simp only[Wa.depth,WQ.in1_units]at hu⊢;ext) λb e=>?_;show wpAny _ _ (retInt (Builtin.Tuple.tupleHashOf b.toList)) _ _ _;rw[e];refine CL (wpAny_mkInt (Wf ⟨_,_,rfl,?_⟩));unfold qH TL at h
   simpa [aaT]using h
 |.bool _,_,_,_,_,_,h,_,_,_|.list _,_,_,_,_,_,h,_,_,_|.dict _,_,_,_,_,_,h,_,_,_=>by simp[kd]at h
theorem sT:∀(xs:b5 Wa) (vs:b5 V5) (as:b5 Wd) (A:WQ) (s:We) (b:Array Int) (Q:Array Int->We->Prop),kds xs=V6->aaY s.heap vs xs as->A.units+Wa.depthAll xs<cLine->
  (∀b':Array Int,b'.toList=b.toList++qS w xs->Q b' {s with toks:=s.toks+Iq xs})->
  wpAny (model prog w) A (forIn vs b λx r=>do let h<-pyHash x;pure PUnit.unit;pure (ForInStep.yield (r.push h))) Q E s
 |[],_,_,A,s,b,Q,_,x,_,h=>by cases x;exact Wf (h b (by simp[qS]))
 |k::xs,_,_,A,s,b,Q,hk,x,hu,h=>by
  cases x with
  |cons e a=>
   unfold kds at hk;simp only[V7,Wa.depthAll]at hk hu;rw[aag];refine CL (CL (Bi k _ _ A s _ hk.1 e (by ext) ?_));refine CL (Wf (Wf ?_));refine sT xs _ _ A _ _ Q hk.2 a (by ext) λb' f=>?_;have:=h b' (by simp[f,qS]);unfold Iq at this
   simpa [aaT]using this
end
theorem v9:∀(n:Nat) (d:Wa) (v:U) (as:G J) (A:WQ) (s:We) (Q:Bool->We->Prop),kd d=S->acR s.heap v d as->d.depth<=n->Q S s->wpAny (model prog w) A (eqIsQuiet n v) Q E s
 |n,.none,_,_,A,s,Q,_,r,_,h=>by ext r;rw[abG _ W];show Wf h
 |n,.int i,_,_,A,s,Q,_,r,_,h=>by ext r;rw[abG _ W];show Wf h
 |n,.str i,_,_,A,s,Q,_,r,_,h=>by ext r;rw[abG _ W];show Wf h
 |0,.tuple xs,_,_,A,s,Q,t,r,q,h=>by simp only[Wa.depth]at q;ext
 |n+1,.tuple xs,_,_,A,s,Q,t,r,q,h=>by
  cases r with
  | @tuple a o L m _ _ h1 C B u=>
   let g:s.TypeIs (.ref a) "tuple":=#[_,h1,C];simp only[Wa.depth]at q;ext eqIsQuiet;show CL (aaH g F.slot_tuple_eq.lookup ?_);show CL (aat g isSubtype_tuple_tuple ?_);simp only[ach,Yt,if_false];show CL (XB h1 B ?_);show CL ?_;rw[<-adB];unfold kd at t;show wpAny_forIn_list _ (λb r e=>r.1=P/\e=s/\∃ys bs,kds ys=S/\aaY s.heap b ys bs/\Wa.depthAll ys<=n) _ ?_ ?_ _ _ #[W,W,xs,_,t,u,by ext]
   .rintro v b r e ⟨f,rfl,ys,bs,k1,k2,k3⟩
    cases k2 with
    | @cons _ _ y p _ _ g1 g2=>unfold kds at k1;simp only[V7,Wa.depthAll]at k1 k3;show CL (v9 n y v _ A e _ k1.1 g1 () ?_);simp only[ach,Yt,if_false];show Wf #[W,W,p,_,k1.2,g2,by ext]
   .rintro⟨l,j⟩ e ⟨f,rfl,_⟩;simp only at f;subst f;show Wf h
 |_,.bool _,_,_,_,_,_,h,_,_,_|_,.list _,_,_,_,_,_,h,_,_,_|_,.dict _,_,_,_,_,_,h,_,_,_=>by simp[kd]at h
end
mutual
theorem tj{h h':Heap}{x:Wd}{e:Obj}{es:Array Za}{j:Nat}(f:h.get? x=cL e)(i:e.data=.dict es j)(g:Heap.SameBut x h h'):∀(d:Wa) (v:V5) (as:b5 Wd),kd d=V6->acR h v d as->acR h' v d as
 |.none,_,_,_,r=>by cases r;exact .none
 |.int _,_,_,_,r=>by cases r;exact .int _ _
 |.str _,_,_,_,r=>by cases r;exact .str _ _
 |.tuple xs,_,_,k,r=>by
  cases r with
  | @tuple a o vs n _ _ h1 h2 h3 h4=>
   have b:a≠x:=by rintro rfl;rw[f]at h1;cases h1;rw[i]at h3;exact nomatch h3
   unfold kd at k;exact .tuple ((g.2 a b).trans h1) h2 h3 (pE f i g xs _ _ k h4)
 |.bool _,_,_,h,_|.list _,_,_,h,_|.dict _,_,_,h,_=>by simp[kd]at h
theorem pE{h h':Heap}{x:Wd}{a:Obj}{es:Array Za}{j:Nat}(b:h.get? x=cL a)(f:a.data=.dict es j)(e:Heap.SameBut x h h'):∀(ds:b5 Wa) (vs:b5 V5) (as:b5 Wd),kds ds=V6->aaY h vs ds as->aaY h' vs ds as
 |[],_,_,_,r=>by cases r;exact .nil
 |d::ds,_,_,k,r=>by
  cases r with
  |cons i g=>unfold kds at k;rw[V7]at k;exact .cons (tj b f e d _ _ k.1 i) (pE b f e ds _ _ k.2 g)
end
abbrev KD:={d:Wa//keyD d=S}
noncomputable instance kdDec:DecidableEq KD:=λ_ _=>Classical.propDecidable _
def fT(prog:Wz)(w:WX):HeapKind prog w KD where
 is:=λh k a=>∃as,acR h (.ref a) k.1 as
 hash:=λk=>qH w k.1
 draws:=λk=>TL k.1
 room:=λA=>A.units+8<cLine
 inj:=λ#[_,r] #[_,f]=>Subtype.ext (acR.unique r _ _ f).1
 keeps:=λ{h l k a d o es m} #[as,r] j hd i=>#[as,tj j hd i k.1 _ _ (keyD_kd k.2).1 r]
 pyHash:=λ{A E s k a Q} g #[as,r] q=>Bi k.1 _ as A s Q (keyD_kd k.2).1 r (by let:=(keyD_kd k.2).2;ext) q
 eqBool:=λ{A E s x y a b Q} g #[as,r] #[bs,f] q=>SeqAt.eqAt_reads x.1 y.1 A s _ _ as bs r f (kd_lay _ (keyD_kd x.2).1) (kd_lay _ (keyD_kd y.2).1) (by let:=(keyD_kd x.2).2;ext) prog w E Q (by
  haveI:Decidable (x.1=y.1):=Classical.propDecidable _
  rw[Gz (keyD_kd x.2).1 (keyD_kd y.2).1];by_cases e:x=y
  .rw[bg e]at q;rw[bg (d7 Subtype.val e)];show q
  .rw[bt e]at q;rw[bt λz=>e (Subtype.ext z)];show q)
 quiet:=λ{A E s k a Q} #[as,r] q=>v9 8 k.1 _ as A s Q (keyD_kd k.2).1 r (keyD_kd k.2).2 q
def Vm(a:J)(xs:G (KD×J×V))(w:WX)(h:Heap):Prop:=
 (xs.length<=Wm/\(a==Yf)=R/\(xs.map (·.1)).Nodup)/\∃o es b,h.get? a=M o/\o.ExactDict/\o.data=.dict es b/\Paired (λ(x:KD×J×V) (e:Za)=>e.hash=qH w x.1.1/\e.key=.ref x.2.1/\RelV x.2.2 e.val) xs es.toList
abbrev DkO(a:J)(xs:G (KD×J×V)):HO:=.exw (Vm a xs)
abbrev PrD(O:bE)(K:lD)(H:Hp):G (KD×J×V)->G (D×D)->Prop:=
 Paired λx a=>x.1.1=a.1/\L3.DV O K H (.ref x.2.1) a.1/\L3.DV O K H x.2.2 a.2
end LD
namespace L10
open PySem L2 L3
inductive AV where
 |fz (d:D)
 |rf (i:Nat)
inductive SV where
 |fz (d:D)
 |rf (i:Nat)
 |tp (l:G AV)
def AV.sv:AV->SV
 |.fz d=>.fz d
 |.rf i=>.rf i
inductive Cell where
 |lst (xs:G SV)
 |dct (WH:G (bZ×SV))
 |obj (C:Str) (fs:G (Str×SV))
 |dd (WH:G (D×D))
 |dead
abbrev aJ:=G Cell
abbrev aP:=G (I SV)
inductive RS(α:Type) where
 |ok (a:α) (ω:aJ)
 |er (x:Xc) (ω:aJ)
 |bad
def RS.bind(r:RS α)(f:α->aJ->RS β):RS β:=match r with
 |.ok a b=>f a b
 |.er x b=>.er x b
 |.bad=>.bad
def RS.Xf(b:aJ):I α->RS α
 |some a=>.ok a b
 |none=>.bad
theorem RS.bind_ok(a:α)(b:aJ)(f:α->aJ->RS β):(RS.ok a b).bind f=f a b:=W
abbrev eh:=@RS.bind_ok
def Lv(α:G J)(a:aJ):bE:=λb=>∃(i:Nat) (c:Cell),α[i]?=M b/\a[i]?=M c/\c≠Cell.dead
def ow(B:bE)(α:G J)(a:aJ):bE:=λb=>B b\/Lv α a b
section
variable(O:bE)(K:lD)(H:Hp)(Z:b5 Wd)
def AOk(v:V):AV->Prop
 |.fz d=>DV O K H v d
 |.rf i=>∃a,Z[i]?=M a/\v=.ref a
def Y0(v:V):SV->Prop
 |.fz d=>DV O K H v d
 |.rf i=>∃a,Z[i]?=M a/\v=.ref a
 |.tp l=>∃a xs,v=.ref a/\aaj O K H a xs/\Paired (AOk O K H Z) xs l
abbrev YI:G V->G SV->Prop:=Paired (Y0 O K H Z)
def COk(a:J):Cell->Prop
 |.lst xs=>∃e,H a=M (.lst e)/\YI O K H Z e xs
 |.dct b=>∃ws:G (bZ×V),H a=M (.dK ws)/\Paired (λ(p:bZ×V) (q:bZ×SV)=>p.1=q.1/\Y0 O K H Z p.2 q.2) ws b
 |.obj C fs=>∃Ca f ws,WI K Wx C=M (M (.ref Ca))/\H a=M (.ins Ca f ws)/\Paired (λ(p:Str×V) (q:Str×SV)=>p.1=q.1/\Y0 O K H Z p.2 q.2) ws fs
 |.dd b=>∃xs,H a=M (LD.DkO a xs)/\LD.PrD O K H xs b
 |.dead=>True
def YU(a:L2.St)(b:aP):Prop:=a.length=b.length/\∀(i:Nat) (x:SV),b[i]?=M (M x)->∃v,a[i]?=M (M v)/\Y0 O K H Z v x
end
structure WT(B:bE)(K:lD)(H:Hp)(α:G J)(ω:aJ):Prop where
 len:α.length=ω.length
 nd:∀(i j:Nat) (a:J),α[i]?=M a->α[j]?=M a->i=j
 bn:∀a,B a->H a≠P
 ba:∀a,B a->∀i:Nat,α[i]?≠M a
 al:∀(i:Nat) (a:J),α[i]?=M a->H a≠P
 cel:∀(i:Nat) (a:J) (c:Cell),α[i]?=M a->ω[i]?=M c->COk (ow B α ω) K H α a c
structure X7(α:G J)(ω:aJ)(H:Hp)(α':G J)(ω':aJ)(H':Hp):Prop where
 pre:∀(i:Nat) (a:J),α[i]?=M a->α'[i]?=M a
 kp:∀b o,H b=M o->¬Lv α ω b->H' b=M o
 lv:∀b,Lv α' ω' b->Lv α ω b\/H b=P
section
variable{B O Q:bE}{K:lD}{E:XK}{H t S N:Hp}{Z Y U T:b5 Wd}{L X ω1 R:aJ}{σ:L2.St}{ρ:aP}{v:V}
theorem X7.refl:X7 Z L H Z L H:=#[λ_ _ h=>h,λ_ _ h _=>h,λ_ h=>.inl h]
def X7.trans(a:X7 Z L H U ω1 S)(b:X7 U ω1 S T R N):X7 Z L H T R N:=by
 let e:∀b o,H b=M o->¬Lv Z L b->¬Lv U ω1 b:=λb o h n z=>(a.lv b z).elim n λq=>by simp_all
 show#[λi p h=>b.pre i p (a.pre i p h),λp o h n=>b.kp p o (a.kp p o h n) (e p o h n),λp h=>?_];rcases b.lv p h with h|h
 .show a.lv p h
 .cases q:H p with
  |none=>simp_all
  |some o=>show .inl (Classical.byContradiction λn=>?_);rw[a.kp p o q n]at h;ext h
theorem X7.same(s:XZ H t):X7 Z L H Z L t:=#[λ_ _ h=>h,λb o h _=>s b o h,λ_ h=>.inl h]
theorem X7.ev(e:X7 Z L H Y X t):Ev (ow B Z L) H (ow B Y X) t:=λb o h n=>
 #[e.kp b o h λz=>n (.inr z),λz=>z.elim (λq=>n (.inl q)) λq=>(e.lv b q).elim (λq=>n (.inr q)) λq=>by simp_all]
def AOk.ev(e:Ev O H Q t)(p:∀(i:Nat) (a:J),Z[i]?=M a->Y[i]?=M a)(h:AOk O K H Z v x):AOk Q K t Y v x:=by
 cases x with
 |fz d=>show DV.ev e h
 |rf i=>let(a,f,b):=h;show#[a,p i a f,b]
def Y0.ev(e:Ev O H Q t)(p:∀(i:Nat) (a:J),Z[i]?=M a->Y[i]?=M a)(h:Y0 O K H Z v x):Y0 Q K t Y v x:=by
 cases x with
 |fz d=>show DV.ev e h
 |rf i=>let(a,f,b):=h;show#[a,p i a f,b]
 |tp l=>let(a,xs,f,b,g):=h;show#[a,xs,f,b.ev e,Paired.ZF g λ_ _ q=>q.ev e p]
theorem Y0.YD(e:X7 Z L H Y X t)(h:Y0 (ow B Z L) K H Z v x):Y0 (ow B Y X) K t Y v x:=h.ev e.ev e.pre
theorem YI.YD(e:X7 Z L H Y X t)(h:YI (ow B Z L) K H Z vs xs):YI (ow B Y X) K t Y vs xs:=Paired.ZF h λ_ _ q=>q.YD e
theorem YU.YD(e:X7 Z L H Y X t)(h:YU (ow B Z L) K H Z σ ρ):YU (ow B Y X) K t Y σ ρ:=#[h.1,λi x q=>let#[v,h1,a]:=h.2 i x q;#[v,h1,a.YD e]]
def COk.ev(e:Ev O H Q t)(p:∀(i:Nat) (a:J),Z[i]?=M a->Y[i]?=M a)(d:∀o,H a=M o->t a=M o)(h:COk O K H Z a c):COk Q K t Y a c:=by
 cases c with
 |lst xs=>let(j,f,b):=h;show#[j,d _ f,Paired.ZF b λ_ _ q=>q.ev e p]
 |dct m=>let(ws,f,b):=h;show#[ws,d _ f,Paired.ZF b λ_ _ q=>#[q.1,q.2.ev e p]]
 |obj C fs=>let(Ca,l,ws,g,f,b):=h;show#[Ca,l,ws,g,d _ f,Paired.ZF b λ_ _ q=>#[q.1,q.2.ev e p]]
 |dd m=>let(xs,f,b):=h;show#[xs,d _ f,Paired.ZF b λ_ _ q=>#[q.1,q.2.1.ev e,q.2.2.ev e]]
 |dead=>trivial
theorem WT.noO(s:WT B K H Z L):lZ (ow B Z L) H:=λa h z=>z.elim (λq=>s.bn a q h) λ#[i,c,q,_]=>s.al i a q h
theorem WT.owd(s:WT B K H Z L):∀a,ow B Z L a->H a≠P:=λa z h=>s.noO a h z
def WT.grow(s:WT B K H Z L)(e:XZ H t):WT B K t Z L:=by let n:∀a,H a≠P->t a≠P:=λa h z=>h (e.free z);show#[s.len,s.nd,λa h=>n a (s.bn a h),s.ba,λi a h=>n a (s.al i a h),λi a c f b=>(s.cel i a c f b).ev (Ev.grow e) (λ_ _ h=>h) λo h=>e _ _ h]
def WT.at(s:WT B K H Z L){i:Nat}(h:L[i]?=M c):∃a,Z[i]?=M a:=by let:i<L.length:=(Wb.mp h).1;rw[<-s.len]at this;simp_all
theorem WT.aeZ(s:WT B K H Z L){i:Nat}(h:Z[i]?=M a):¬B a:=λz=>s.ba a z i h
def yY{i:Nat}{c m:Cell}(h:L[i]?=M c)(n:c≠.dead)(g:m≠.dead){b:J}:Lv Z (L.set i m) b↔Lv Z L b:=by
 constructor
 .rintro⟨j,d,f,a,l⟩
  rcases bP a with⟨rfl,rfl⟩|⟨_,a⟩
  .show#[j,c,f,h,n]
  .show#[j,d,f,a,l]
 .rintro⟨j,d,f,a,l⟩
  by_cases e:j=i
  .subst e;show#[j,m,f,by rw[Xm (Wb.mp h).1],g]
  .show#[j,d,f,by rw[W3 (λz=>e z.symm)];show a,l]
def Ox(h:L[i]?=M c)(e:c≠.dead)(a:o≠.dead):ow B Z (L.set i o)=ow B Z L:=by funext b;show propext #[λz=>z.imp id (yY h e a).mp,λz=>z.imp id (yY h e a).mpr]
theorem X7.put(d:Z[i]?=M a)(h:L[i]?=M c)(g:c≠.dead)(f:c'≠.dead):X7 Z L H Z (L.set i c') (aW H a o):=
 #[λ_ _ h=>h,λb j q n=>by let z:b≠a:=λe=>n #[i,c,by simp_all,h,g];rw[ar z];show q,λb z=>.inl ((yY h g f).mp z)]
def WT.put(s:WT B K H Z L)(k:Z[i]?=M a)(h:L[i]?=M c)(p:c≠.dead)(f:c'≠.dead)(new:COk (ow B Z L) K (aW H a o) Z a c'):WT B K (aW H a o) Z (L.set i c'):=by
 let e:X7 Z L H Z (L.set i c') (aW H a o):=X7.put k h p f;let n:∀b,H b≠P->aW H a o b≠P:=λb h=>by
  by_cases z:b=a
  .subst z;rw[az];simp
  .rw[ar z];show h
 show#[by rw[Xp];show s.len,s.nd,λb h=>n b (s.bn b h),s.ba,λj b h=>n b (s.al j b h),λj b d m l=>?_];rcases bP l with⟨rfl,rfl⟩|⟨g,l⟩
 .rw[k]at m;ext m;rw[Ox h p f];show new
 .show(s.cel j b d m l).ev e.ev e.pre λu q=>by rw[ar (λz=>g (s.nd j i a (by simp_all) k))];show q
theorem pp{i:Nat}{a:J}{c:Cell}{o:HO}(d:Z[i]?=M a)(h:L[i]?=M c)(b:c≠.dead):Ev (ow B Z L) H (ow B Z L) (aW H a o):=Ev.mut (.inr #[i,c,d,h,b]) o
def bK{Z:Type}{l:G Z}{x y:Z}{i:Nat}(h:(l++[x])[i]?=M y):l[i]?=M y\/(i=l.length/\y=x):=by
 by_cases hi:i<l.length
 .rw[Wn hi]at h;show .inl h
 .rw[WO ()]at h
  cases q:i - l.length with
  |zero=>rw[q]at h;ext h;show .inr #[by ext,W]
  |succ n=>rw[q]at h;ext h
def gK{Z:Type}{l:G Z}{x y:Z}{i:Nat}(h:l[i]?=M y):(l++[x])[i]?=M y:=by rw[Wn (Wb.mp h).1];show h
def aO:(l++[x])[l.length]?=M x:=by simp
def tM(g:Z.length=L.length)(h:Lv (Z++[p]) (L++[c]) b):Lv Z L b\/b=p:=by
 let(i,d,e,a,f):=h;rcases bK e with e|⟨e1,e2⟩
 .rcases bK a with a|⟨e1,e2⟩
  .show .inl #[i,d,e,a,f]
  simp_all
 .show .inr e2
theorem X7.abK(f:Z.length=L.length)(s:XZ H t)(g:H p=P):X7 Z L H (Z++[p]) (L++[c]) t:=
 #[λi a h=>gK h,λb u q _=>s b u q,λb z=>(tM f z).imp id λe=>by simp_all]
def WT.abK(s:WT B K H Z L)(e:XZ H t)(l:H p=P)(m:t p≠P)(new:COk (ow B (Z++[p]) (L++[c])) K t (Z++[p]) p c):WT B K t (Z++[p]) (L++[c]):=by
 let ev:X7 Z L H (Z++[p]) (L++[c]) t:=X7.abK s.len e l;let n:∀b,H b≠P->t b≠P:=λb h z=>h (e.free z);show#[by rw[Wi,Wi,s.len];rfl,λi j a f g=>?_,λa h=>n a (s.bn a h),λa h i q=>?_,λi a h=>?_,λi a d f g=>?_]
 .rcases bK f with g1|⟨e1,e2⟩<;>rcases bK g with g2|⟨e3,e4⟩
  .show s.nd i j a g1 g2
  .show b4 (by rw[e4];show l) (s.al i a g1)
  .show b4 (by rw[e2];show l) (s.al j a g2)
  .omega
 .rcases bK q with q|⟨_,e2⟩
  .show s.ba a h i q
  .subst e2;show s.bn a h l
 .rcases bK h with h|⟨_,e2⟩
  .show n a (s.al i a h)
  simp_all
 .rcases bK g with g|⟨e1,e2⟩
  .rcases bK f with f|⟨e1,_⟩
   .show(s.cel i a d f g).ev ev.ev ev.pre λo q=>e _ _ q
   .let:=(Wb.mp g).1;let:=s.len;ext
  .rcases bK f with f|⟨_,e3⟩
   .let:=(Wb.mp f).1;let:=s.len;ext
   simp_all
def WS(K:lD)(E:XK)(B:bE)(H:Hp)(Z:G J)(L:aJ)(P:A->G J->aJ->Hp->Prop):RS A->Prop
 |.ok a X=>∀Y t,X7 Z L H Y X t->WT B K t Y X->P a Y X t
 |.er x X=>∀c b Y t,X7 Z L H Y X t->WT B K t Y X->XOk K (ow B Y X) t c b x->E c b t
 |.bad=>False
def WS.from(e:X7 Z L H U ω1 S)(h:WS K E B H Z L f r):WS K E B S U ω1 f r:=by
 cases r with
 |ok a R=>show λT N e2 b=>h T N (e.trans e2) b
 |er x R=>show λc g T N e2 b=>h c g T N (e.trans e2) b
 |bad=>show h
def WS.bind(h:WS K E B H Z L b (r.bind k)):WS K E B H Z L (λa U ω1 S=>WS K E B S U ω1 b (k a ω1)) r:=by
 cases r with
 |ok a ω1=>show λU S e1 _=>WS.from e1 h
 |er x ω1=>show h
 |bad=>show h
def WS.Xf(h:WS K E B H Z L b ((RS.Xf L o).bind k)):∃a,o=M a/\WS K E B H Z L b (k a L):=by
 cases o with
 |none=>show h.elim
 |some a=>show#[a,W,h]
def WS.imp(h:WS K E B H Z L e r)(g:∀a Y X t,X7 Z L H Y X t->WT B K t Y X->e a Y X t->P' a Y X t):WS K E B H Z L P' r:=by
 cases r with
 |ok a ω1=>show λU S e1 b=>g a U ω1 S e1 b (h U S e1 b)
 |er x ω1=>show h
 |bad=>show h
theorem WS.now(s:WT B K H Z L)(h:WS K E B H Z L b (.ok a L)):b a Z L H:=h Z H .refl s
end
abbrev cU:=aP->aJ->RS SV
abbrev sg:=aP->aJ->RS Bool
abbrev sJ:=aP->aJ->RS (G SV)
def cy(K:lD)(E:XK)(t:TE)(f:cU):Prop:=
 ∀(B:bE) (e:L2.St) (H:Hp) (α:G J) (h:aJ) (i:aP) (Q:VK),WT B K H α h->YU (ow B α h) K H α e i->WS K E B H α h (λx a b g=>∀v,Y0 (ow B a b) K g a v x->Q v g) (f i h)->t e H Q
def vq(K:lD)(E:XK)(t:TT)(f:sg):Prop:=
 ∀(B:bE) (a:L2.St) (H:Hp) (α:G J) (g:aJ) (h:aP) (Q:Bool->Hp->Prop),WT B K H α g->YU (ow B α g) K H α a h->WS K E B H α g (λb _ _ e=>Q b e) (f h g)->t a H Q
def sD(K:lD)(E:XK)(t:TA)(f:sJ):Prop:=
 ∀(B:bE) (e:L2.St) (H:Hp) (α:G J) (h:aJ) (i:aP) (Q:G V->Hp->Prop),WT B K H α h->YU (ow B α h) K H α e i->WS K E B H α h (λxs a b g=>∀j,YI (ow B a b) K g a j xs->Q j g) (f i h)->t e H Q
section
variable{B O N:bE}{K:lD}{E:XK}{H H' U H2:Hp}{Z P Y J:b5 Wd}{ω M ω1 T:aJ}{X:L2.St}{ρ:aP}{v:V}
def Mo:I SV->I PV
 |some (.fz d)=>cL (.fz d)
 |_=>Ld
def bO(ρ:aP):aL:=ρ.map Mo
def sC{i:Nat}(h:(bO ρ)[i]?=cL (cL x)):∃d,x=.fz d/\ρ[i]?=cL (cL (.fz d)):=by
 unfold bO at h;rw[Wl]at h;cases q:ρ[i]? with
 |none=>simp_all
 |some o=>
  rw[q]at h;let a:=Wt h;unfold Mo at a;split at a
  .ext a;show#[_,W,W]
  .ext a
def D2(s:WT B K H Z ω)(a:YU (ow B Z ω) K H Z X ρ):Rl K (ow B Z ω) H (ow B Z ω) X H (bO ρ):=by
 show#[XZ.refl _,λ_ h=>h,s.owd,s.noO,by ext bO;rw[V9];show a.1,λi x h=>?_,λi j ds es w h=>?_]
 .let(d,rfl,b):=sC h;let(v,g,f):=a.2 i _ b;show#[v,g,f]
 .let(d,e,_):=sC h;ext e
def ky(ω:aJ):RV->RS SV
 |.fz d=>.ok (.fz d) ω
 |.ow ds=>.ok (.rf ω.length) (ω++[.lst (ds.map .fz)])
abbrev PQ(B:bE)(K:lD)(Q:VK):SV->G Wd->aJ->Hp->Prop:=λx P M H'=>∀v,Y0 (ow B P M) K H' P v x->Q v H'
theorem i6(O:bE)(Z:G Wd):∀{a:G V} {ds:G D},XS O K H a ds->YI O K H Z a (ds.map .fz)
 |_,_,.nil=>.nil
 |_,_,.cons h t=>.cons h (i6 O Z t)
theorem Hl:∀{a:G V} {ds:G D},YI O K H Z a (ds.map .fz)->XS O K H a ds
 |_,[],.nil=>.nil
 |_,_::_,.cons h t=>.cons h (Hl t)
def qh(s:WT B K H Z ω)(w:WS K E B H Z ω (PQ B K Q) (ky ω (.ow ds)))(e:XZ H H')(a:H p=Ld)(h:H' p=cL (.lst o))(hd:XS N K H' o ds)(f:∀b,ow B Z ω b->N b)(g:N p):Q (.ref p) H':=by
 let sub:∀b,ow B (Z++[p]) (ω++[.lst (ds.map .fz)]) b->N b:=λb z=>z.elim (λq=>f b (.inl q)) λq=>(tM s.len q).elim (λq=>f b (.inr q)) λq=>by simp_all
 show w (Z++[p]) H' (X7.abK s.len e a) (s.abK e a (by rw[h];simp) #[o,h,i6 _ _ (hd.ev (Ev.sub sub))]) (.ref p) #[p,by rw[<-s.len];show aO,W]
def G5(s:WT B K H Z ω)(w:WS K E B H Z ω (PQ B K Q) (ky ω o)):Fin (ow B Z ω) K H Q o:=by
 cases o with
 |fz d=>show λv H' e a=>w Z H' (X7.same e) (s.grow e) v a
 |ow ds=>show λp g H' e f h a=>qh s w e f h a (λb z=>.inl z) (.inr W)
def ae(f:FE):cU:=λρ ω=>match f (bO ρ)with
 |.ok (.fz d,_)=>.ok (.fz d) ω
 |.ok (.ow ds,_)=>ky ω (.ow ds)
 |.ok (.pl _,_)=>.bad
 |.er x=>.er x ω
 |.bad=>.bad
def wj(h:EO K E t f):cy K E t (ae f):=by
 intro B X H Z ω ρ Q s g w;show h (ow B Z ω) H (ow B Z ω) X H (bO ρ) Q (D2 s g) ?_;unfold ae at w;cases q:f (bO ρ)with
 |bad=>rw[q]at w;show w.elim
 |er x=>rw[q]at w;show λc u H' e k=>w c u Z H' (X7.same e) (s.grow e) k
 |ok r=>
  let(pv,b):=r;rw[q]at w;intro N v H' e R p;cases pv with
  |fz d=>show w Z H' (X7.same R.same) (s.grow R.same) v (DV.ev (Ev.sub R.bo) p)
  |ow ds=>let(a,y,rfl,n,m,l,j,o):=p;show qh s w R.same m l j R.bo n
  |pl i=>show w.elim
def bj(f:FT):sg:=λρ ω=>match f (bO ρ)with
 |.ok (b,_)=>.ok b ω
 |.er x=>.er x ω
 |.bad=>.bad
def Ft(h:TTO K E t f):vq K E t (bj f):=by
 intro B X H Z ω ρ Q s g w;show h (ow B Z ω) H (ow B Z ω) X H (bO ρ) Q (D2 s g) ?_;unfold bj at w;cases q:f (bO ρ)with
 |bad=>rw[q]at w;show w.elim
 |er x=>rw[q]at w;show λc i H' e k=>w c i Z H' (X7.same e) (s.grow e) k
 |ok r=>let(b,a):=r;rw[q]at w;show λN H' e R=>w Z H' (X7.same R.same) (s.grow R.same)
def am(i:Nat):cU:=λρ ω=>match ρ[i]? with
 |some (cL x)=>.ok x ω
 |_=>.bad
def Jr:cy K E (rO i) (am i):=by
 intro B X H Z ω ρ Q s a w;unfold am at w;cases q:ρ[i]? with
 |none=>rw[q]at w;show w.elim
 |some o=>
  cases o with
  |none=>rw[q]at w;show w.elim
  |some x=>rw[q]at w;let(v,e,b):=a.2 i x q;show#[v,e,WS.now s w v b]
def kh(K:lD)(C:Str)(fs:G Str):Prop:=∃Ca,WI K Wx C=cL (cL (.ref Ca))/\Cls K Ca/\∀f∈fs,ZE K Ca f
def aN(C f:Str)(e:cU):cU:=λρ ω=>(e ρ ω).bind λx ω1=>match x with
 |.rf i=>(match ω1[i]? with
  |some (.obj D fs)=>if D=C then RS.Xf ω1 (fs.lookup f)else .bad
  |_=>.bad)
 |_=>.bad
def BF:∀{ws:G (Str×V)} {fs:G (Str×SV)},Paired (λ(p:Str×V) (q:Str×SV)=>p.1=q.1/\Y0 O K H Z p.2 q.2) ws fs->fs.lookup f=cL x->∃v,ws.lookup f=cL v/\Y0 O K H Z v x:=by
 intro ws fs p
 induction p with
 |nil=>intro h;ext h
 | @cons a b _ _ q t i=>
  let(a,v):=a;let(b,y):=b;let(g,e):=q;intro h;ext g;rw[W7]at h⊢;split at h
  .ext h;show#[v,W,e]
  .show i h
def B7:∀{ws:G (Str×V)} {fs:G (Str×SV)},Paired (λ(p:Str×V) (q:Str×SV)=>p.1=q.1/\Y0 O K H Z p.2 q.2) ws fs->fs.lookup f=Ld->ws.lookup f=Ld:=by
 intro ws fs p
 induction p with
 |nil=>intro h;rfl
 | @cons a b _ _ q t i=>
  let(a,v):=a;let(b,y):=b;let(e,g):=q;intro h;ext e;rw[W7]at h⊢;split at h
  .ext h
  .show i h
def An(o:kh K C L)(n:f∈L)(k:cy K E ta fa):cy K E (Nc K ta f) (aN C f fa):=by
 intro B X H Z ω ρ Q s h w;show k B X H Z ω ρ _ s h (w.bind.imp λx Y ω1 U e1 e b v j=>?_);cases x with
 |fz d=>show b.elim
 |tp l=>show b.elim
 |rf i=>
  let(a,k,rfl):=j;dsimp only at b;cases q:ω1[i]? with
  |none=>rw[q]at b;show b.elim
  |some c=>
   rw[q]at b;cases c with
   |obj D fs=>
    dsimp only at b;by_cases z:D=C
    .subst z
     rw[ax W]at b;let(Ca,dx,ws,t,r,p):=e.cel i a _ k q;cases ql:fs.lookup f with
     |none=>rw[ql]at b;show b.elim
     |some x=>rw[ql]at b;let(u,m,g):=BF p ql;let(F,g0,A,y):=o;rw[t]at g0;ext g0;show#[a,Ca,dx,ws,u,W,r,A,y f n,m,WS.now e b u g]
    .rw[bb z]at b;show b.elim
   |_=>show b.elim
def av{Z a:Type}(f:Z->I a):G Z->I (G a)
 |[]=>cL []
 |x::r=>match f x with
  |some y=>(match av f r with
   |some b=>cL (y::b)
   |none=>Ld)
  |none=>Ld
def rX:Nat->aJ->SV->I D
 |_,_,.fz d=>cL d
 |0,_,_=>Ld
 |n+1,ω,.rf i=>match ω[i]? with
  |some (.lst xs)=>(av (rX n ω) xs).map .list
  |_=>Ld
 |n+1,ω,.tp l=>(av (λx=>rX n ω x.sv) l).map .tuple
theorem bW{Z a:Type}{f:Z->I a}{R:V->Z->Prop}{S:V->a->Prop}(h:∀v x y,R v x->f x=cL y->S v y):∀{c:G V} {xs:G Z} {g:G a},Paired R c xs->av f xs=cL g->Paired S c g
 |_,_,_,.nil,e=>by ext e;show .nil
 |_,_,_,.cons (b:=x) (l₂:=xs) r t,e=>by
  unfold av at e;cases q:f x with
  |none=>simp_all
  |some y=>
   rw[q]at e;dsimp only at e;cases i:av f xs with
   |none=>simp_all
   |some g=>rw[i]at e;ext e;show .cons (h _ _ _ r q) (bW h t i)
def iQ:∀{b:G V} {ds:G D},Paired (DV O K H) b ds->XS O K H b ds:=by
 intro _ _ p
 induction p with
 |nil=>show .nil
 |cons h t a=>show .cons h a
theorem LW:Ev O H noO H:=Ev.sub λ_ z=>z.elim
theorem iX(s:WT B K H Z ω):∀(n:Nat) {v:V} {x:SV} {d:D},Y0 (ow B Z ω) K H Z v x->rX n ω x=cL d->DV noO K H v d
 |n,v,.fz o,d,h,e=>by
  let g:cL o=cL d:=by ext n<;>show e
  ext g;show DV.ev LW h
 |0,v,.rf i,d,h,e=>by ext e
 |0,v,.tp l,d,h,e=>by ext e
 |n+1,v,.rf i,d,h,e=>by
  let(a,m,rfl):=h;unfold rX at e;cases q:ω[i]? with
  |none=>simp_all
  |some c=>
   rw[q]at e;cases c with
   |lst xs=>
    dsimp only at e;cases j:av (rX n ω) xs with
    |none=>simp_all
    |some ds=>rw[j]at e;ext e;let(p,f,b):=s.cel i a _ m q;show .lst #[Zu.of f,λz=>z.elim] (iQ (bW (R:=Y0 (ow B Z ω) K H Z) (λv x y r e=>iX s n r e) b j))
   |_=>ext e
 |n+1,v,.tp l,d,h,e=>by
  let(a,xs,rfl,f,b):=h;unfold rX at e;cases j:av (λx=>rX n ω x.sv) l with
  |none=>simp_all
  |some ds=>rw[j]at e;ext e;show .tup (f.ev LW) (iQ (bW (λv x y r e=>iX s n (by ext x<;>show r) e) b j))
def ve:SV->I D
 |.fz d=>cL d
 |_=>Ld
def sh(ω:aJ):SV->I D
 |.fz d=>cL d
 |.rf i=>match ω[i]? with
  |some (.lst xs)=>(av ve xs).map .list
  |_=>Ld
 |.tp _=>Ld
def Ga(s:WT B K H Z ω)(h:Y0 (ow B Z ω) K H Z v x)(e:sh ω x=cL d):DX (ow B Z ω) K H v d:=by
 cases x with
 |fz g=>ext e;show DV.x h
 |tp l=>ext e
 |rf i=>
  let(a,n,rfl):=h;unfold sh at e;dsimp only at e;cases q:ω[i]? with
  |none=>simp_all
  |some c=>
   rw[q]at e;cases c with
   |lst xs=>
    dsimp only at e;cases j:av ve xs with
    |none=>simp_all
    |some ds=>
     rw[j]at e;ext e;let(m,f,b):=s.cel i a _ n q;show#[a,m,W,Zu.of f,iQ (bW (λv x y r e=>?_) b j)];cases x with
     |fz d=>ext e;show r
     |rf i=>ext e
     |tp l=>ext e
   |_=>ext e
def wf:D->Bool
 |.none=>S
 |.bool _=>S
 |.int _=>S
 |.str _=>S
 |_=>R
def Lq(h:wf d=S)(a:DV O K H v d):DV N K H' v d:=by
 cases a with
 |Ye=>show .Ye
 |bl b=>show .bl b
 |int i=>show .int i
 |str x=>show .str x
 |tup _ _=>ext h
 |lst _ _=>ext h
def sF(ω:aJ):RV->RS SV
 |.fz d=>if wf d=S then .ok (.fz d) ω else .bad
 |.ow _=>.bad
def AY(s:WT B K H Z ω)(w:WS K E B H Z ω (PQ B K Q) (sF ω o)):Fin noO K H Q o:=by
 cases o with
 |fz d=>
  let w:WS K E B H Z ω (PQ B K Q) (if wf d=S then RS.ok (SV.fz d) ω else RS.bad):=w;by_cases z:wf d=S
  .rw[ax z]at w;show λv H' e a=>w Z H' (X7.same e) (s.grow e) v (Lq z a)
  .rw[bb z]at w;show w.elim
 |ow ds=>show w.elim
theorem EH:lZ noO H:=λ_ _ z=>z
def qN(f:D->D->I RV)(x y:SV)(ω:aJ):RS SV:=match sh ω x,sh ω y with
 |some g,cL b=>(RS.Xf ω (f g b)).bind λe ω1=>ky ω1 e
 |_,_=>(RS.Xf ω (rX 6 ω x)).bind λg ω1=>(RS.Xf ω1 (rX 6 ω1 y)).bind λb T=>(RS.Xf T (f g b)).bind λe a=>sF a e
def yN(n:jG K r f)(s:WT B K H Z ω)(m:Y0 (ow B Z ω) K H Z x a)(l:Y0 (ow B Z ω) K H Z y b)(w:WS K E B H Z ω (PQ B K Q) (qN f a b ω)):r x y H Q:=by
 let o:WS K E B H Z ω (PQ B K Q) ((RS.Xf ω (rX 6 ω a)).bind λq ω1=>(RS.Xf ω1 (rX 6 ω1 b)).bind λe T=>(RS.Xf T (f q e)).bind λp i=>sF i p)->r x y H Q:=λw=>by let(q,h,w):=w.Xf;let(e,g,w):=w.Xf;let(p,j,w):=w.Xf;show n noO H x y q e p Q EH (DV.x (iX s 6 m h)) (DV.x (iX s 6 l g)) j (AY s w)
 unfold qN at w;cases h:sh ω a with
 |none=>simp_all
 |some q=>
  cases g:sh ω b with
  |none=>simp_all
  |some e=>rw[h,g]at w;let(p,j,w):=w.Xf;show n _ H x y q e p Q s.noO (Ga s m h) (Ga s l g) j (G5 s w)
def jp(f:D->D->I RV)(a fb:cU):cU:=λρ ω=>(a ρ ω).bind λx ω1=>(fb ρ ω1).bind λy T=>qN f x y T
def DA(l:jG K r f)(c:cy K E C fa)(m:cy K E o fb):cy K E (ED r C o) (jp f fa fb):=by intro B X H Z ω ρ Q s a w;show c B X H Z ω ρ _ s a (w.bind.imp λx Y ω1 U e1 h e v i=>?_);show m B X U Y ω1 ρ _ h (a.YD e1) (e.bind.imp λy J T H2 e2 g b u j=>?_);show yN l g (i.YD e2) j b
def KB:SV->I Bool
 |.fz (.bool b)=>cL b
 |_=>Ld
def JC(e:KB x=cL b)(h:Y0 O K H Z v x):v=.bl b:=by
 unfold KB at e;split at e
 .ext e;ext h;rfl
 .ext e
def aX(a:cU):sg:=λρ ω=>(a ρ ω).bind λx ω1=>RS.Xf ω1 (KB x)
def pP(c:cy K E o C):vq K E (sM o) (aX C):=by
 intro B X H Z ω ρ Q s e w;show c B X H Z ω ρ _ s e (w.bind.imp λx Y ω1 U e1 f a v g=>?_);cases q:KB x with
 |none=>rw[q]at a;show a.elim
 |some b=>rw[q]at a;show#[b,JC q g,WS.now f a]
theorem F6(a:cy K E o C):vq K E (tB o) (aX C):=pP a
def kY(a fb:sg):sg:=λρ ω=>(a ρ ω).bind λb ω1=>if b=S then fb ρ ω1 else .ok R ω1
def zx(a fb:sg):sg:=λρ ω=>(a ρ ω).bind λb ω1=>if b=S then .ok S ω1 else fb ρ ω1
def n6(a:sg):sg:=λρ ω=>(a ρ ω).bind λb ω1=>.ok (!b) ω1
def JO(j:vq K E t f)(i:vq K E u g):vq K E (Qi t u) (kY f g):=by
 intro B X H Z ω ρ Q s e w;show j B X H Z ω ρ _ s e (w.bind.imp λb Y ω1 U e1 h a=>?_);cases b with
 |true=>show i B X U Y ω1 ρ Q h (e.YD e1) a
 |false=>show WS.now h a
def NT(j:vq K E t f)(i:vq K E u g):vq K E (Ut t u) (zx f g):=by
 intro B X H Z ω ρ Q s e w;show j B X H Z ω ρ _ s e (w.bind.imp λb Y ω1 U e1 h a=>?_);cases b with
 |true=>show WS.now h a
 |false=>show i B X U Y ω1 ρ Q h (e.YD e1) a
def Ji(h:vq K E t f):vq K E (Jc t) (n6 f):=by intro B X H Z ω ρ Q s e w;show h B X H Z ω ρ _ s e (w.bind.imp λb Y ω1 U e1 g a=>WS.now g a)
def nG:sg:=λ_ ω=>.ok S ω
theorem GY:vq K E FJ nG:=λB X H Z ω ρ Q s a w=>WS.now s w
def xF(a fb:cU):cU:=λρ ω=>(aX a ρ ω).bind λb ω1=>if b=S then fb ρ ω1 else .ok (.fz (.bool R)) ω1
def IL(d:cy K E C fa)(g:cy K E o fb):cy K E (Dk C o) (xF fa fb):=by
 intro B X H Z ω ρ Q s e w;show pP d B X H Z ω ρ (λc U=>if c=S then o X U Q else Q (.bl R) U) s e (w.bind.imp λb Y ω1 U e1 f a=>?_);cases b with
 |true=>show g B X U Y ω1 ρ Q f (e.YD e1) a
 |false=>show WS.now f a _ (.bl R)
def Fi(c:sg)(a fb:cU):cU:=λρ ω=>(c ρ ω).bind λb ω1=>if b=S then a ρ ω1 else fb ρ ω1
def ND(g:vq K E t c)(d:cy K E C fa)(h:cy K E o fb):cy K E (S4 t C o) (Fi c fa fb):=by
 intro B X H Z ω ρ Q s a w;show g B X H Z ω ρ _ s a (w.bind.imp λb Y ω1 U e1 f e=>?_);cases b with
 |true=>show d B X U Y ω1 ρ Q f (a.YD e1) e
 |false=>show h B X U Y ω1 ρ Q f (a.YD e1) e
def aH:sJ:=λ_ ω=>.ok [] ω
def ah(b:cU)(a:sJ):sJ:=λρ ω=>(b ρ ω).bind λx ω1=>(a ρ ω1).bind λxs T=>.ok (x::xs) T
theorem AC:sD K E ja aH:=λB X H Z ω ρ Q s a w=>WS.now s w [] .nil
def FQ(c:cy K E o C)(j:sD K E tr fr):sD K E (fV o tr) (ah C fr):=by intro B X H Z ω ρ Q s b w;show c B X H Z ω ρ _ s b (w.bind.imp λx Y ω1 U e1 h f v i=>?_);show j B X U Y ω1 ρ _ h (b.YD e1) (f.bind.imp λxs J T H2 e2 g e l a=>?_);show WS.now g e (v::l) (.cons (i.YD e2) a)
def TZ:SV->I AV
 |.fz d=>cL (.fz d)
 |.rf i=>cL (.rf i)
 |.tp _=>Ld
def TB(xs:G SV):I SV:=match av ve xs with
 |some ds=>cL (.fz (.tuple ds))
 |none=>(av TZ xs).map .tp
def kE(a:sJ):cU:=λρ ω=>(a ρ ω).bind λxs ω1=>if xs.length<=1000 then RS.Xf ω1 (TB xs)else .bad
def yt(r:Y0 O K H Z v x)(e:ve x=cL d):DV O K H v d:=by
 cases x with
 |fz d=>ext e;show r
 |rf i=>ext e
 |tp l=>ext e
def QP(r:Y0 O K H Z v x)(e:TZ x=cL d):AOk O K H Z v d:=by
 cases x with
 |fz d=>ext e;show r
 |rf i=>ext e;show r
 |tp l=>ext e
def Lw(c:sD K E C fa):cy K E (KP C) (kE fa):=by
 intro B X H Z ω ρ Q s m w;show c B X H Z ω ρ _ s m (w.bind.imp λxs Y ω1 U e1 f a n g=>?_);by_cases hn:xs.length<=1000
 .rw[ax hn]at a
  show#[by rw[g.length];show yI hn,λp j=>?_];let b:XZ U (aW U p (.tup n)):=bz j _;let e:X7 Y ω1 U Y ω1 (aW U p (.tup n)):=X7.same b;let i:aaj (ow B Y ω1) K (aW U p (.tup n)) p n:=#[ZP.of az,λz=>b4 z (f.noO p j)];unfold TB at a;cases q:av ve xs with
  |some ds=>rw[q]at a;show a Y _ e (f.grow b) _ (.tup i (iQ (bW (R:=Y0 (ow B Y ω1) K U Y) (λv x y r h=>(yt r h).ev e.ev) g q)))
  |none=>
   rw[q]at a;dsimp only at a;cases o:av TZ xs with
   |none=>rw[o]at a;show a.elim
   |some l=>rw[o]at a;show a Y _ e (f.grow b) _ #[p,n,W,i,bW (R:=Y0 (ow B Y ω1) K U Y) (λv x y r h=>(QP r h).ev e.ev e.pre) g o]
 .rw[bb hn]at a;show a.elim
def Oe(f:G D->I RV)(xs:G SV)(ω:aJ):RS SV:=match av (sh ω) xs with
 |some ds=>(RS.Xf ω (f ds)).bind λb ω1=>ky ω1 b
 |_=>(RS.Xf ω (av (rX 6 ω) xs)).bind λds ω1=>(RS.Xf ω1 (f ds)).bind λb a=>sF a b
def Db(f:G D->I RV)(a:sJ):cU:=λρ ω=>(a ρ ω).bind λxs ω1=>Oe f xs ω1
def PR(i:B2 K r f)(c:sD K E C fa):cy K E (De r C) (Db f fa):=by
 intro B X H Z ω ρ Q s j w;show c B X H Z ω ρ _ s j (w.bind.imp λxs Y ω1 U e1 b a o h=>?_);unfold Oe at a;cases n:av (sh ω1) xs with
 |none=>rw[n]at a;let(ds,l,a):=a.Xf;let(m,g,a):=a.Xf;show i noO U o ds m Q EH (bW (R:=Y0 (ow B Y ω1) K U Y) (λv x y r e=>DV.x (iX b 6 r e)) h l) g (AY b a)
 |some ds=>rw[n]at a;let(m,g,a):=a.Xf;show i _ U o ds m Q b.noO (bW (R:=Y0 (ow B Y ω1) K U Y) (λv x y r e=>Ga b r e) h n) g (G5 b a)
end
section
variable{B O O':bE}{K:lD}{E:XK}{H H' N M:Hp}{Z L U T:b5 Wd}{ω X ω1 Y:aJ}{S:L2.St}{ρ:aP}{v:V}
theorem yE:∀{c:G V} {xs:G β} {i:Nat} {x:β},Paired f c xs->xs[i]?=cL x->∃v,c[i]?=cL v/\f v x
 |_,_,_,_,.nil,e=>by simp at e
 |_,_,0,_,.cons h _,e=>by simp_all
 |_,_,i+1,x,.cons _ t,e=>by let(v,b,a):=yE t (by simpa using e);simp_all
def LJ{b:G V}(h:Paired a b xs)(e:kP xs i=cL x):∃v,kP b i=cL v/\a v x:=by
 unfold kP at e⊢;rw[h.length];cases q:MV xs.length i with
 |none=>simp_all
 |some j=>rw[q]at e;show yE h e
def Fc:SV->I Int
 |.fz (.int i)=>cL i
 |_=>P
def zQ(e:Fc x=cL i)(h:Y0 O K H Z v x):v=.int i:=by
 unfold Fc at e;split at e
 .ext e;ext h;rfl
 .ext e
def NK(x y:SV)(ω:aJ):RS SV:=match x with
 |.fz _=>qN aQ x y ω
 |.rf j=>(match ω[j]? with
  |some (.lst xs)=>(RS.Xf ω (Fc y)).bind λi ω1=>RS.Xf ω1 (kP xs i)
  |_=>.bad)
 |.tp l=>(RS.Xf ω (Fc y)).bind λi ω1=>RS.Xf ω1 ((kP l i).map AV.sv)
def iS(a fb:cU):cU:=λρ ω=>(a ρ ω).bind λx ω1=>(fb ρ ω1).bind λy Y=>NK x y Y
def QG(k:cy K E ta fa)(C:cy K E tb fb):cy K E (ED (RK K) ta tb) (iS fa fb):=by
 intro B S H Z ω ρ Q s r w;show k B S H Z ω ρ _ s r (w.bind.imp λx U ω1 N e1 A t v e=>?_);show C B S N U ω1 ρ _ A (r.YD e1) (t.bind.imp λy T Y M e2 f b u n=>?_);let e:=e.YD e2;unfold NK at b;cases x with
 |fz d=>show yN Dz f e n b
 |rf j=>
  let(a,k,rfl):=e;dsimp only at b;cases q:Y[j]? with
  |none=>rw[q]at b;show b.elim
  |some c=>
   rw[q]at b;cases c with
   |lst xs=>
    let(i,h,b):=WS.Xf b;cases qa:kP xs i with
    |none=>rw[qa]at b;show b.elim
    |some x=>rw[qa]at b;let(vs,p,o):=f.cel j a _ k q;let(z,m,g):=LJ o qa;show .inl #[a,vs,i,z,W,zQ h n,Z1.of p,m,WS.now f b z g]
   |_=>show b.elim
 |tp l=>
  let(a,xs,rfl,p,o):=e;let(i,h,b):=WS.Xf b;cases qa:kP l i with
  |none=>rw[qa]at b;show b.elim
  |some x=>rw[qa]at b;let(z,m,g):=LJ o qa;show .inr (.inl #[a,xs,i,z,W,zQ h n,p.1,m,WS.now f b z (by ext x<;>show g)])
def Jf(h:Lv Z (ω.set i .dead) b):Lv Z ω b:=by
 let(j,c,f,a,e):=h;rcases bP a with⟨rfl,rfl⟩|⟨_,a⟩
 .simp_all
 .show#[j,c,f,a,e]
theorem X7.kill:X7 Z ω H Z (ω.set i .dead) H:=#[λ_ _ h=>h,λ_ _ h _=>h,λ_ h=>.inl (Jf h)]
def WT.kill(s:WT B K H Z ω)(i:Nat):WT B K H Z (ω.set i .dead):=by
 let e:X7 Z ω H Z (ω.set i .dead) H:=X7.kill;show#[by rw[Xp];show s.len,s.nd,s.bn,s.ba,s.al,λj b d g a=>?_];rcases bP a with⟨rfl,rfl⟩|⟨f,a⟩
 .show trivial
 .show(s.cel j b d g a).ev e.ev e.pre λu q=>q
def WT.af5(s:WT B K H Z ω)(d:Z[i]?=cL a):¬ow B Z (ω.set i .dead) a:=by
 rintro(z|⟨j,c,g,f,e⟩)
 .show s.aeZ d z
 .let:=s.nd j i a g d
  subst this;rcases bP f with⟨_,rfl⟩|⟨b,_⟩
  .show e W
  .show b W
def n9(g:aJ->SV->I (D×aJ)):aJ->G SV->I (G D×aJ)
 |ω,[]=>cL ([],ω)
 |ω,x::r=>match g ω x with
  |some (d,ω1)=>(match n9 g ω1 r with
   |some (ds,Y)=>cL (d::ds,Y)
   |none=>P)
  |none=>P
def frz:Nat->aJ->SV->I (D×aJ)
 |_,ω,.fz d=>cL (d,ω)
 |0,_,_=>P
 |n+1,ω,.rf i=>match ω[i]? with
  |some (.lst xs)=>(match n9 (frz n) ω xs with
   |some (ds,ω1)=>cL (.list ds,ω1.set i .dead)
   |none=>P)
  |_=>P
 |n+1,ω,.tp l=>match n9 (frz n) ω (l.map AV.sv)with
  |some (ds,ω1)=>cL (.tuple ds,ω1)
  |none=>P
theorem uA(a:∀{ω X:aJ} {v:V} {x:SV} {d:D},WT B K H Z ω->Y0 (ow B Z ω) K H Z v x->g ω x=cL (d,X)->WT B K H Z X/\X7 Z ω H Z X H/\L3.DV (ow B Z X) K H v d):
  ∀{c:G V} {xs:G SV} {ds:G D} {ω X:aJ},WT B K H Z ω->YI (ow B Z ω) K H Z c xs->n9 g ω xs=cL (ds,X)->WT B K H Z X/\X7 Z ω H Z X H/\L3.XS (ow B Z X) K H c ds
 |_,_,_,ω,X,s,.nil,e=>by ext e;show#[s,.refl,.nil]
 |_,_,_,ω,X,s,.cons (b:=x) (l₂:=xs) r t,e=>by
  unfold n9 at e;cases q:g ω x with
  |none=>simp_all
  |some p=>
   let(d,ω1):=p;rw[q]at e;dsimp only at e;let(h,e1,l):=a s r q;cases m:n9 g ω1 xs with
   |none=>simp_all
   |some i=>let(ds,Y):=i;rw[m]at e;ext e;let(f,e2,j):=uA a h (YI.YD e1 t) m;show#[f,e1.trans e2,.cons (l.ev e2.ev) j]
theorem tO:∀{a:G V} {l:G AV},Paired (AOk O K H Z) a l->YI O K H Z a (l.map AV.sv)
 |_,_,.nil=>.nil
 |_,_,.cons (b:=x) h t=>.cons (by ext x<;>show h) (tO t)
theorem uR:∀(n:Nat) {ω X:aJ} {v:V} {x:SV} {d:D},WT B K H Z ω->Y0 (ow B Z ω) K H Z v x->frz n ω x=cL (d,X)->WT B K H Z X/\X7 Z ω H Z X H/\L3.DV (ow B Z X) K H v d
 |n,ω,X,v,.fz t,d,s,h,e=>by
  let m:cL (t,ω)=cL (d,X):=by ext n<;>show e
  ext m;show#[s,.refl,h]
 |0,_,_,v,.rf i,d,s,h,e=>by ext e
 |0,_,_,v,.tp l,d,s,h,e=>by ext e
 |n+1,ω,X,v,.rf i,d,s,h,e=>by
  let(a,r,rfl):=h;unfold frz at e;cases q:ω[i]? with
  |none=>simp_all
  |some c=>
   rw[q]at e;cases c with
   |lst xs=>
    dsimp only at e;let(u,g,f):=s.cel i a _ r q;cases o:n9 (frz n) ω xs with
    |none=>simp_all
    |some p=>let(ds,ω1):=p;rw[o]at e;ext e;let(b,e1,j):=uA (λs h e=>uR n s h e) s f o;show#[b.kill i,e1.trans X7.kill,tH g (b.af5 r) (j.ev (X7.kill).ev)]
   |_=>ext e
 |n+1,ω,X,v,.tp l,d,s,h,e=>by
  let(a,xs,rfl,g,f):=h;unfold frz at e;cases o:n9 (frz n) ω (l.map AV.sv)with
  |none=>simp_all
  |some p=>let(ds,ω1):=p;rw[o]at e;ext e;let(b,e1,j):=uA (λs h e=>uR n s h e) s (tO f) o;show#[b,e1,.tup (g.ev e1.ev) j]
def Qx(x:SV)(ω:aJ):RS SV:=match frz 4 ω x with
 |some (d,ω1)=>.ok (.fz d) ω1
 |none=>.bad
def kW(f:cU):cU:=λρ ω=>(f ρ ω).bind λx ω1=>Qx x ω1
def zm(h:cy K E t f):cy K E t (kW f):=by
 intro B S H Z ω ρ Q s b w;show h B S H Z ω ρ _ s b (w.bind.imp λx U ω1 N e1 g a v i=>?_);unfold Qx at a;cases q:frz 4 ω1 x with
 |none=>rw[q]at a;show a.elim
 |some p=>let(d,Y):=p;rw[q]at a;let(e,e2,j):=uR 4 g i q;show a U N e2 e v j
def XOk.sub(h:∀b,O' b->O b)(k:XOk K O H c dx x):XOk K O' H c dx x:=by let(i,fs,g,a):=k;show#[i,fs,g,λf d e=>let#[g1,v,g2,g3]:=a f d e;#[g1,v,g2,g3.ev (Ev.sub h)]]
def wG(F:FN)(n:Nat)(xs:G SV)(ω:aJ):RS SV:=if xs.length=n then(match av ve xs with
 |some ds=>(match F ds with
  |.ok a=>ky ω a
  |.er x=>.er x ω
  |.bad=>.bad)
 |none=>(RS.Xf ω (av (rX 6 ω) xs)).bind λds ω1=>(match F ds with
  |.ok a=>sF ω1 a
  |_=>.bad))else .bad
def ku:RS A->RS A
 |.er _ _=>.bad
 |r=>r
def ic(F:FN)(n:Nat)(a:sJ):cU:=λρ ω=>(a ρ ω).bind λxs ω1=>ku (wG F n xs ω1)
def WS.e0(h:WS K E B H Z ω b (ku r)):WS K E0 B H Z ω b r:=by
 cases r with
 |ok a ω=>show h
 |er x ω=>show h.elim
 |bad=>show h
def IS(s:WT B K H Z ω)(b:YI (ow B Z ω) K H Z o xs)(w:WS K E B H Z ω (PQ B K Q) (wG F n xs ω)):y1 K n F o H Q E:=by
 unfold wG at w;by_cases hn:xs.length=n
 .rw[ax hn]at w
  show#[b.length.trans hn,?_];cases q:av ve xs with
  |some ds=>
   rw[q]at w;show#[ow B Z ω,ds,s.owd,iQ (bW (R:=Y0 (ow B Z ω) K H Z) (λv x y r e=>yt r e) b q),?_];dsimp only at w;cases g:F ds with
   |ok h=>rw[g]at w;show G5 s w
   |er x=>rw[g]at w;show λc i H' e k=>w c i Z H' (X7.same e) (s.grow e) k
   |bad=>rw[g]at w;show w.elim
  |none=>
   rw[q]at w;let(ds,f,w):=WS.Xf w;show#[noO,ds,λa z=>z.elim,iQ (bW (R:=Y0 (ow B Z ω) K H Z) (λv x y r e=>iX s 6 r e) b f),?_];cases g:F ds with
   |ok h=>rw[g]at w;show AY s w
   |er x=>rw[g]at w;show w.elim
   |bad=>rw[g]at w;show w.elim
 .rw[bb hn]at w;show w.elim
def Iv(c:sD K E o C):cy K E (jo (y1 K n F) [] E0 o) (ic F n C):=by intro B S H Z ω ρ Q s b w;show c B S H Z ω ρ _ s b (w.bind.imp λxs U ω1 N e1 e a g f=>?_);rw[W5];show IS e f (WS.e0 a)
abbrev fy:=G SV->aJ->RS SV
def jR(K:lD)(n:Nat)(F:fy):Sp:=λa H Q E=>a.length=n/\∃(B:bE) (Z:G J) (ω:aJ) (xs:G SV),WT B K H Z ω/\YI (ow B Z ω) K H Z a xs/\WS K E B H Z ω (PQ B K Q) (F xs ω)
def xo(F:fy)(n:Nat)(a:sJ):cU:=λρ ω=>(a ρ ω).bind λxs ω1=>if xs.length=n then ku (F xs ω1)else .bad
def BI(c:sD K E o C):cy K E (jo (jR K n F) [] E0 o) (xo F n C):=by
 intro B S H Z ω ρ Q s e w;show c B S H Z ω ρ _ s e (w.bind.imp λxs U ω1 N e1 f a g b=>?_);rw[W5];by_cases hn:xs.length=n
 .rw[ax hn]at a;show#[b.length.trans hn,B,U,ω1,xs,f,b,WS.e0 a]
 .rw[bb hn]at a;show a.elim
def kr(ω:aJ)(C m:Str):SV->Bool
 |.rf i=>match ω[i]? with
  |some (.obj D fs)=>decide (D=C)&&(fs.lookup m).isNone
  |_=>R
 |_=>R
def nz(C m:Str)(F:fy)(n:Nat)(a:cU)(b:sJ):cU:=λρ ω=>(a ρ ω).bind λx ω1=>if kr ω1 C m x=V6 then(b ρ ω1).bind λxs Y=>(if(x::xs).length=n then F (x::xs) Y else .bad)else .bad
def aI(C m:Str)(F:fy)(n:Nat)(a:cU)(b:sJ):cU:=λρ ω=>(a ρ ω).bind λx ω1=>if kr ω1 C m x=V6 then(b ρ ω1).bind λxs Y=>(if(x::xs).length=n then ku (F (x::xs) Y)else .bad)else .bad
def F1(f:WI K Wx C=cL (cL (.ref Ca)))(s:WT B K H Z ω)(b:Y0 (ow B Z ω) K H Z v x)(h:kr ω C m x=V6):∃a k fs,v=.ref a/\H a=cL (.ins Ca k fs)/\fs.lookup m=P:=by
 cases x with
 |fz d=>ext h
 |tp l=>ext h
 |rf i=>
  let(a,r,rfl):=b;unfold kr at h;dsimp only at h;cases q:ω[i]? with
  |none=>simp_all
  |some c=>
   rw[q]at h;cases c with
   |obj D fs=>rw[V7]at h;let(j,g):=h;let e:=b3 j;subst e;let(p,k,ws,g0,o,n):=s.cel i a _ r q;rw[f]at g0;ext g0;show#[a,k,ws,W,o,B7 n (YH.mp g)]
   |_=>ext h
def EU(q:WI K Wx C=cL (cL (.ref Ca)))(p:cy K E to fo)(c:sD K E ta fa):cy K E (sr Ca m (jR K n F) [] E to ta) (nz C m F n fo fa):=by
 intro B S H Z ω ρ Q s g w;show p B S H Z ω ρ _ s g (w.bind.imp λx U ω1 N e1 i e v j=>?_);by_cases h:kr ω1 C m x=V6
 .rw[ax h]at e
  let(a,y,fs,rfl,t,r):=F1 q i j h;show#[a,y,fs,W,t,r,?_];show c B S N U ω1 ρ _ i (g.YD e1) (e.bind.imp λxs T Y M e2 o b u f=>?_);rw[W5];let l:YI (ow B T Y) K M T (.ref a::u) (x::xs):=.cons (j.YD e2) f;by_cases hn:(x::xs).length=n
  .rw[ax hn]at b;show#[l.length.trans hn,B,T,Y,_,o,l,b]
  .rw[bb hn]at b;show b.elim
 .rw[bb h]at e;show e.elim
def Cp(q:WI K Wx C=cL (cL (.ref Ca)))(p:cy K E to fo)(c:sD K E ta fa):cy K E (sr Ca m (jR K n F) [] E0 to ta) (aI C m F n fo fa):=by
 intro B S H Z ω ρ Q s g w;show p B S H Z ω ρ _ s g (w.bind.imp λx U ω1 N e1 i e v j=>?_);by_cases h:kr ω1 C m x=V6
 .rw[ax h]at e
  let(a,y,fs,rfl,t,r):=F1 q i j h;show#[a,y,fs,W,t,r,?_];show c B S N U ω1 ρ _ i (g.YD e1) (e.bind.imp λxs T Y M e2 o b u f=>?_);rw[W5];let l:YI (ow B T Y) K M T (.ref a::u) (x::xs):=.cons (j.YD e2) f;by_cases hn:(x::xs).length=n
  .rw[ax hn]at b;show#[l.length.trans hn,B,T,Y,_,o,l,WS.e0 b]
  .rw[bb hn]at b;show b.elim
 .rw[bb h]at e;show e.elim
def B4:SV->Bool
 |.fz .none=>V6
 |_=>R
def sI(C:Str)(F:fy)(n:Nat)(xs:G SV)(ω:aJ):RS SV:=if(SV.rf ω.length::xs).length=n then(F (.rf ω.length::xs) (ω++[.obj C []])).bind λr Y=>(if B4 r=V6 then .ok (.rf ω.length) Y else .bad)else .bad
def BV(C:Str)(F:fy)(n:Nat)(a:sJ):cU:=λρ ω=>(a ρ ω).bind λxs ω1=>sI C F n xs ω1
def rQ(C:Str)(F:fy)(n:Nat)(a:sJ):cU:=λρ ω=>(a ρ ω).bind λxs ω1=>ku (sI C F n xs ω1)
def K0(h:B4 x=V6)(a:Y0 O K H Z v x):v=.Ye:=by
 unfold B4 at h;split at h
 .ext a;rfl
 .ext h
def E4(q:WI K Wx C=cL (cL (.ref Ca)))(s:WT B K H Z ω)(p:YI (ow B Z ω) K H Z vs xs)(w:WS K E B H Z ω (PQ B K Q) (sI C F n xs ω)):
  ∀x c,H x=P->H c=P->c≠x->jR K n F (.ref x::(vs++[])) (aW (aW H c (.own x)) x (.ins Ca c [])) (λv M=>v=.Ye/\Q (.ref x) M) E:=by
 intro x c f i h;rw[W5];unfold sI at w;let j:XZ H (aW (aW H c (.own x)) x (.ins Ca c [])):=(bz i _).trans (bz (by rw[ar (λz=>h z.symm)];show f) _);let e:X7 Z ω H (Z++[x]) (ω++[.obj C []]) (aW (aW H c (.own x)) x (.ins Ca c [])):=X7.abK s.len j f;let o:WT B K (aW (aW H c (.own x)) x (.ins Ca c [])) (Z++[x]) (ω++[.obj C []]):=s.abK j f (by rw[az];simp) #[Ca,c,[],q,az,.nil];let a:∀{L:G J} {X:aJ} {H':Hp},X7 (Z++[x]) (ω++[.obj C []]) (aW (aW H c (.own x)) x (.ins Ca c [])) L X H'->Y0 (ow B L X) K H' L (.ref x) (.rf ω.length):=λe=>#[x,e.pre _ _ (by rw[<-s.len];show aO),W];by_cases hn:(SV.rf ω.length::xs).length=n
 .rw[ax hn]at w
  let l:YI (ow B (Z++[x]) (ω++[.obj C []])) K (aW (aW H c (.own x)) x (.ins Ca c [])) (Z++[x]) (.ref x::vs) (.rf ω.length::xs):=.cons (a .refl) (YI.YD e p);show#[l.length.trans hn,B,_,_,_,o,l,?_];show WS.imp (WS.from e w.bind) λr T Y M e2 m b v g=>?_;by_cases z:B4 r=V6
  .rw[ax z]at b;show#[K0 z g,WS.now m b _ (a e2)]
  .rw[bb z]at b;show b.elim
 .rw[bb hn]at w;show w.elim
def Ie(g:WI K Wx C=cL (cL (.ref Ca)))(c:sD K E o fa):cy K E (we Ca (jR K n F) [] E o) (BV C F n fa):=by intro B S H Z ω ρ Q s b w;show c B S H Z ω ρ _ s b (w.bind.imp λxs U ω1 N e1 e a h f=>?_);show E4 g e f a
def D0(g:WI K Wx C=cL (cL (.ref Ca)))(c:sD K E o fa):cy K E (we Ca (jR K n F) [] E0 o) (rQ C F n fa):=by intro B S H Z ω ρ Q s b w;show c B S H Z ω ρ _ s b (w.bind.imp λxs U ω1 N e1 e a h f=>?_);show E4 g e f (WS.e0 a)
def gL(ω:aJ):SV->I (Nat×G SV)
 |.rf i=>match ω[i]? with
  |some (.lst xs)=>cL (i,xs)
  |_=>P
 |_=>P
def ud(s:WT B K H Z ω)(b:Y0 (ow B Z ω) K H Z v x)(h:gL ω x=cL (i,xs)):ω[i]?=cL (.lst xs)/\∃a k,Z[i]?=cL a/\v=.ref a/\H a=cL (.lst k)/\YI (ow B Z ω) K H Z k xs:=by
 cases x with
 |fz d=>ext h
 |tp l=>ext h
 |rf j=>
  let(a,n,rfl):=b;unfold gL at h;dsimp only at h;cases q:ω[j]? with
  |none=>simp_all
  |some c=>
   rw[q]at h;cases c with
   |lst m=>let e:=Wt h;ext e;let(k,g,f):=s.cel i a _ n q;show#[q,a,k,n,W,g,f]
   |_=>ext h
def uO(h:Paired e o xs)(r:e v x):Paired e (o++[v]) (xs++[x]):=by
 induction h with
 |nil=>show .cons r .nil
 |cons a _ b=>show .cons a b
def ki(b c:cU):cU:=λρ ω=>(b ρ ω).bind λo ω1=>(RS.Xf ω1 (gL ω1 o)).bind λ_ ω1=>(c ρ ω1).bind λx Y=>(RS.Xf Y (gL Y o)).bind λp a=>
 if p.2.length<1000000 then .ok (.fz .none) (a.set p.1 (.lst (p.2++[x])))else .bad
def HV(F:cy K E to fo)(G:cy K E te fe):cy K E (OU K "list" tL to (fV te ja)) (ki fo fe):=by
 intro B S H Z ω ρ Q s j w;show F B S H Z ω ρ _ s j (w.bind.imp λo U ω1 N e1 m e v n=>?_);let((P,y),A,e):=WS.Xf e;let(_,t,f,_,rfl,g0,_):=ud m n A;show#[.inl #[W,f,Z1.of g0],?_];show G B S N U ω1 ρ _ m (j.YD e1) (e.bind.imp λx T Y M e2 l b u C=>?_);let((i,xs),q,b):=WS.Xf b;let(g,a,vs,ha,J,I,p):=ud l (n.YD e2) q;ext J;dsimp only at b;by_cases hn:xs.length<1000000
 .rw[ax hn]at b;let ev:Ev (ow B T Y) M (ow B T Y) (aW M t (.lst (vs++[u]))):=pp ha g (by nofun);show#[t,vs,u,W,W,I,sS (by rw[p.length];show hn),?_];show b T _ (X7.put ha g (by nofun) (by nofun)) (l.put ha g (by nofun) (by nofun) #[_,az,uO (Paired.ZF p λ_ _ r=>r.ev ev λ_ _ h=>h) (C.ev ev λ_ _ h=>h)]) _ .Ye
 .rw[bb hn]at b;show b.elim
end
inductive FlS where
 |nx (ρ:aP)
 |bk (ρ:aP)
 |ct (ρ:aP)
 |rt (x:SV)
abbrev di:=aP->aJ->RS FlS
abbrev Bt:=SV->aP->aJ->RS aP
abbrev BM:=G SV->aP->aJ->RS aP
def wD(B:bE)(K:lD)(D:Ends):FlS->G J->aJ->Hp->Prop
 |.nx b,α,a,H=>∀σ,YU (ow B α a) K H α σ b->D.nx σ H
 |.bk b,α,a,H=>∀σ,YU (ow B α a) K H α σ b->D.bk σ H
 |.ct b,α,a,H=>∀σ,YU (ow B α a) K H α σ b->D.ct σ H
 |.rt x,α,a,H=>∀v,Y0 (ow B α a) K H α v x->D.rt v H
def mW(K:lD)(E:XK)(t:TS)(g:di):Prop:=
 ∀(B:bE) (a:L2.St) (H:Hp) (α:G J) (b:aJ) (e:aP) (D:Ends),WT B K H α b->YU (ow B α b) K H α a e->WS K E B H α b (wD B K D) (g e b)->t D a H
def LF(K:lD)(E:XK)(g:TG)(f:Bt):Prop:=
 ∀(B:bE) (h:L2.St) (H:Hp) (α:G J) (j:aJ) (m:aP) (v:V) (x:SV) (Q:L2.St->Hp->Prop),WT B K H α j->YU (ow B α j) K H α h m->Y0 (ow B α j) K H α v x->WS K E B H α j (λe a b i=>∀l,YU (ow B a b) K i a l e->Q l i) (f x m j)->g v h H Q
def Hd(K:lD)(E:XK)(g:yf)(f:BM):Prop:=
 ∀(B:bE) (h:L2.St) (H:Hp) (α:G J) (j:aJ) (m:aP) (n:G V) (xs:G SV) (Q:L2.St->Hp->Prop),WT B K H α j->YU (ow B α j) K H α h m->YI (ow B α j) K H α n xs->WS K E B H α j (λe a b i=>∀l,YU (ow B a b) K i a l e->Q l i) (f xs m j)->g n h H Q
section
variable{B O O':bE}{K:lD}{E:XK}{H H' S P:Hp}{X M U Y:b5 Wd}{ω N ω1 Z:aJ}{T:L2.St}{ρ:aP}{v:V}
def YU.set(a:YU O K H X T ρ)(h:Y0 O K H X v x):YU O K H X (T.set i (cL v)) (ρ.set i (cL x)):=by
 show#[by rw[Xp,Xp];show a.1,λj y g=>?_];rcases bP g with⟨rfl,e⟩|⟨f,b⟩
 .ext e;show#[v,?_,h];rw[Xm];let:=uF g;rw[a.1];show this
 .let(u,m,l):=a.2 j y b;show#[u,by rw[W3 (λz=>f z.symm)];show m,l]
def eK(i:Nat):Bt:=λx ρ ω=>.ok (ρ.set i (cL x)) ω
theorem pT:LF K E (mY i) (eK i):=λB T H X ω ρ v x Q s a h w=>WS.now s w _ (a.set h)
def yp:BM:=λxs ρ ω=>match xs with
 |[]=>.ok ρ ω
 |_=>.bad
def lL(f:Bt)(g:BM):BM:=λxs ρ ω=>match xs with
 |x::r=>(f x ρ ω).bind λa ω1=>g r a ω1
 |[]=>.bad
def Iw:Hd K E Kf yp:=by
 intro B T H X ω ρ b xs Q s a h w;cases h with
 |nil=>show#[W,WS.now s w _ a]
 |cons _ _=>show w.elim
def DY(p:LF K E t f)(o:Hd K E u g):Hd K E (AF t u) (lL f g):=by
 intro B T H X ω ρ q xs Q s m h w;cases h with
 |nil=>show w.elim
 |cons a b=>show#[_,_,W,p B T H X ω ρ _ _ _ s m a (WS.imp (WS.bind w) λi U ω1 S e1 n l e j=>?_)];show o B e S U ω1 i _ _ _ n j (YI.YD e1 b) l
def G1:SV->I (G SV)
 |.fz (.tuple ds)=>cL (ds.map .fz)
 |.tp l=>cL (l.map AV.sv)
 |_=>Ld
def Op(h:Y0 O K H X v x)(e:G1 x=cL xs):∃a c,v=.ref a/\aaj O K H a c/\YI O K H X c xs:=by
 unfold G1 at e;split at e
 .ext e
  cases h with
  |tup h f=>show#[_,_,W,h,i6 _ _ f]
 .ext e;let(a,b,rfl,i,g):=h;show#[a,b,W,i,tO g]
 .ext e
def OW(n:Nat)(f:BM):Bt:=λx ρ ω=>(RS.Xf ω (G1 x)).bind λxs ω1=>if xs.length=n then f xs ρ ω1 else .bad
def Ig(h:Hd K E t f):LF K E (Lr K n t) (OW n f):=by
 intro B T H X ω ρ v x Q s e g w;let(xs,q,w):=WS.Xf w;let(a,j,rfl,i,b):=Op g q;by_cases hn:xs.length=n
 .rw[ax hn]at w;show#[a,j,W,i.1,b.length.trans hn,h B T H X ω ρ j xs Q s e b w]
 .rw[bb hn]at w;show w.elim
def b6:di:=λρ ω=>.ok (.nx ρ) ω
def aD(f g:di):di:=λρ ω=>(f ρ ω).bind λa ω1=>match a with
 |.nx b=>g b ω1
 |a=>.ok a ω1
def bf(f:cU):di:=λρ ω=>(f ρ ω).bind λ_ ω1=>.ok (.nx ρ) ω1
def bX(f:cU)(g:Bt):di:=λρ ω=>(f ρ ω).bind λx ω1=>(g x ρ ω1).bind λa Z=>.ok (.nx a) Z
def bT(c:sg)(f g:di):di:=λρ ω=>(c ρ ω).bind λb ω1=>if b=V6 then f ρ ω1 else g ρ ω1
def fW(f:cU):di:=λρ ω=>(f ρ ω).bind λx ω1=>.ok (.rt x) ω1
def rH:di:=λ_ ω=>.ok (.rt (.fz .none)) ω
theorem FC:mW K E Eb b6:=λB T H X ω ρ D s a w=>WS.now s w T a
theorem DB:mW K E LX rH:=λB T H X ω ρ D s a w=>WS.now s w .Ye .Ye
def Kt(m:mW K E t f)(l:mW K E u g):mW K E (Eo t u) (aD f g):=by
 intro B T H X ω ρ D s j w;show m B T H X ω ρ {D with nx:=u D} s j (WS.imp (WS.bind w) λn U ω1 S e1 e b=>?_);cases n with
 |nx a=>show λh i=>l B h S U ω1 a D e i b
 |rt x=>show WS.now (E:=E) e b
 |bk a=>show WS.now (E:=E) e b
 |ct a=>show WS.now (E:=E) e b
def Ey(h:cy K E t f):mW K E (sO t) (bf f):=by intro B T H X ω ρ D s a w;show h B T H X ω ρ _ s a (WS.imp (WS.bind w) λx U ω1 S e1 e b v g=>WS.now e b T (a.YD e1))
def AH(h:cy K E t f)(p:LF K E g C):mW K E (wR t g) (bX f C):=by intro B T H X ω ρ D s e w;show h B T H X ω ρ _ s e (WS.imp (WS.bind w) λx U ω1 S e1 n l v o=>?_);show p B T S U ω1 ρ v x _ n (e.YD e1) o (WS.imp (WS.bind l) λi Y Z P e2 m j a b=>WS.now m j a b)
def PD(i:vq K E c o)(l:mW K E t f)(j:mW K E u g):mW K E (Ia c t u) (bT o f g):=by
 intro B T H X ω ρ D s a w;show i B T H X ω ρ _ s a (WS.imp (WS.bind w) λb U ω1 S e1 h e=>?_);cases b with
 |true=>show l B T S U ω1 ρ D h (a.YD e1) e
 |false=>show j B T S U ω1 ρ D h (a.YD e1) e
def JE(h:cy K E t f):mW K E (DH t) (fW f):=by intro B T H X ω ρ D s b w;show h B T H X ω ρ _ s b (WS.imp (WS.bind w) λx U ω1 S e1 e a v g=>WS.now e a v g)
def C3(i:Nat)(f:D->D->I RV)(b:cU):di:=λρ ω=>(am i ρ ω).bind λx ω1=>(b ρ ω1).bind λy Z=>(qN f x y Z).bind λz a=>.ok (.nx (ρ.set i (cL z))) a
def Kb(m:jG K r f)(n:cy K E C fe):mW K E (SG i C r) (C3 i f fe):=by
 intro B T H X ω ρ D s a w;unfold C3 am at w;cases q:ρ[i]? with
 |none=>rw[q]at w;show w.elim
 |some o=>
  cases o with
  |none=>rw[q]at w;show w.elim
  |some x=>rw[q]at w;let(v,A,p):=a.2 i x q;show#[v,A,n B T H X ω ρ _ s a (WS.imp (WS.bind w) λy U ω1 S e1 h e u j=>?_)];show yN m h (p.YD e1) j (WS.imp (WS.bind e) λz Y Z P e2 g b t l=>WS.now g b _ ((a.YD (e1.trans e2)).set l))
def gU(f:Str)(x:SV):G (Str×SV)->G (Str×SV)
 |[]=>[(f,x)]
 |(g,y)::r=>if g=f then(g,x)::r else(g,y)::gU f x r
def OC(h:Y0 O K H X v x):∀{ws:G (Str×V)} {fs:G (Str×SV)},Paired (λ(p:Str×V) (q:Str×SV)=>p.1=q.1/\Y0 O K H X p.2 q.2) ws fs->Paired (λ(p:Str×V) (q:Str×SV)=>p.1=q.1/\Y0 O K H X p.2 q.2) (ip f v ws) (gU f x fs):=by
 intro ws fs p
 induction p with
 |nil=>show .cons #[W,h] .nil
 | @cons a b _ _ q t j=>
  let(g,u):=a;let(i,y):=b;let(e,k):=q;ext e;unfold ip gU;by_cases z:g=f
  .rw[ax z,ax z];show .cons #[W,h] t
  .rw[bb z,bb z];show .cons #[W,k] j
def G4(ω:aJ)(C:Str):SV->I (Nat×G (Str×SV))
 |.rf i=>match ω[i]? with
  |some (.obj D fs)=>if D=C then cL (i,fs)else Ld
  |_=>Ld
 |_=>Ld
def Rx(s:WT B K H X ω)(b:Y0 (ow B X ω) K H X v x)(h:G4 ω C x=cL (i,fs)):ω[i]?=cL (.obj C fs)/\∃a Ca k ws,X[i]?=cL a/\v=.ref a/\WI K Wx C=cL (cL (.ref Ca))/\H a=cL (.ins Ca k ws)/\Paired (λ(p:Str×V) (q:Str×SV)=>p.1=q.1/\Y0 (ow B X ω) K H X p.2 q.2) ws fs:=by
 cases x with
 |fz d=>ext h
 |tp l=>ext h
 |rf j=>
  let(a,n,rfl):=b;unfold G4 at h;dsimp only at h;cases q:ω[j]? with
  |none=>simp_all
  |some c=>
   rw[q]at h;cases c with
   |obj D gs=>
    dsimp only at h;by_cases z:D=C
    .subst z;rw[ax W]at h;let e:=Wt h;ext e;let(Ca,k,ws,m,g,f):=s.cel i a _ n q;show#[q,a,Ca,k,ws,n,W,m,g,f]
    simp_all
   |_=>ext h
def eO(C f:Str)(b c:cU):di:=λρ ω=>(c ρ ω).bind λx ω1=>(b ρ ω1).bind λo Z=>(RS.Xf Z (G4 Z C o)).bind λp a=>if p.2.length<100 then .ok (.nx ρ) (a.set p.1 (.obj C (gU f x p.2)))else .bad
def Kq(I:kh K C L)(F:f∈L)(A:cy K E to fo)(G:cy K E te fe):mW K E (Om K to te f) (eO C f fo fe):=by
 intro B T H X ω ρ D s e w;show G B T H X ω ρ _ s e (WS.imp (WS.bind w) λx U ω1 S e1 p n v t=>?_);show A B T S U ω1 ρ _ p (e.YD e1) (WS.imp (WS.bind n) λo Y Z P e2 j b u y=>?_);let((i,fs),q,b):=WS.Xf b;let(g,a,Ca,dx,ws,ha,rfl,m,J,l):=Rx j y q;let(Cb,g0,R,Q):=I;rw[m]at g0;ext g0;dsimp only at b;by_cases hn:fs.length<100
 .rw[ax hn]at b;let ev:Ev (ow B Y Z) P (ow B Y Z) (aW P a (.ins Ca dx (ip f v ws))):=pp ha g (by simp_all);let e3:X7 Y Z P Y (Z.set i (.obj C (gU f x fs))) (aW P a (.ins Ca dx (ip f v ws))):=X7.put ha g (by simp_all) (by simp_all);let hl:=Paired.length l;show#[a,Ca,dx,ws,W,J,R,Q f F,by ext,?_];show b Y _ e3 (j.put ha g (by simp_all) (by simp_all) #[Ca,dx,_,m,az,OC ((t.YD e2).ev ev λ_ _ h=>h) (Paired.ZF l λ_ _ r=>#[r.1,r.2.ev ev λ_ _ h=>h])]) T ((e.YD (e1.trans e2)).YD e3)
 .rw[bb hn]at b;show b.elim
abbrev NQ:=aP->aJ->RS (G D)
def Rg(K:lD)(E:XK)(b:TI)(e:NQ):Prop:=
 ∀(B:bE) (T:L2.St) (H:Hp) (X:G Wd) (ω:aJ) (ρ:aP) (a:It->Hp->Prop),WT B K H X ω->YU (ow B X ω) K H X T ρ->WS K E B H X ω (λds M N H'=>∀J,xx K J (ow B M N) H' ds->a J H') (e ρ ω)->b T H a
def lJ(f:FI):NQ:=λρ ω=>match f (bO ρ)with
 |.ok (ds,_)=>.ok ds ω
 |.er x=>.er x ω
 |.bad=>.bad
def D9(h:IO K E C f):Rg K E C (lJ f):=by
 intro B T H X ω ρ j s g w;show h (ow B X ω) H (ow B X ω) T H (bO ρ) j (D2 s g) ?_;unfold lJ at w;cases q:f (bO ρ)with
 |bad=>rw[q]at w;show w.elim
 |er x=>rw[q]at w;show λc m H' e k=>w c m X H' (X7.same e) (s.grow e) k
 |ok r=>let(ds,a):=r;rw[q]at w;show λO' J H' e R i=>w X H' (X7.same R.same) (s.grow R.same) J λl P e2 n=>i l P (λb o h z=>e2 b o h λy=>z (R.bo b y)) n
def ia(a:cU):NQ:=λρ ω=>(a ρ ω).bind λx ω1=>(match frz 4 ω1 x with
 |some (d,Z)=>RS.Xf Z (eJ d)
 |none=>.bad)
def KA(h:cy K E o C):Rg K E (Hr K o) (ia C):=by
 intro B T H X ω ρ l s f w;show h B T H X ω ρ _ s f (WS.imp (WS.bind w) λx U ω1 S e1 g a v i=>?_);cases q:frz 4 ω1 x with
 |none=>rw[q]at a;show a.elim
 |some p=>
  let(d,Z):=p;rw[q]at a;let(e,e2,j):=uR 4 g i q;dsimp only at a;cases m:eJ d with
  |none=>rw[m]at a;show a.elim
  |some ds=>
   rw[m]at a;cases j with
   |tup h b=>ext m;show#[_,W,.inr #[#[_,h.1],a U S e2 e _ (Dq h b)]]
   |lst h b=>ext m;show#[_,W,.inl #[#[_,h.1.sq],a U S e2 e _ (zK h b)]]
   |_=>ext m
def iK(gt:Bt)(b:di):G D->di
 |[],ρ,ω=>.ok (.nx ρ) ω
 |d::r,ρ,ω=>(gt (.fz d) ρ ω).bind λa ω1=>(b a ω1).bind λe Z=>match e with
  |.nx f=>iK gt b r f Z
  |.ct f=>iK gt b r f Z
  |.bk f=>.ok (.nx f) Z
  |.rt x=>.ok (.rt x) Z
def nW(a:NQ)(gt:Bt)(b:di):di:=λρ ω=>(a ρ ω).bind λds ω1=>iK gt b ds ρ ω1
def Jg(c:Rg K E wi fi)(k:LF K E g gt)(z:mW K E tb b):mW K E (Jx wi g tb) (nW fi gt b):=by
 intro B T H X ω ρ D s R w;show c B T H X ω ρ _ s R (WS.imp (WS.bind w) λds U ω1 S e1 s1 w1 J it=>?_);show#[λi m a H'=>m=ds.length - i/\i<=ds.length/\∃Y Z ρ2,X7 U ω1 S Y Z H'/\WT B K H' Y Z/\YU (ow B Y Z) K H' Y a ρ2/\WS K E B H' Y Z (wD B K D) (iK gt b (ds.drop i) ρ2 Z),#[_,W,W0 _,U,ω1,ρ,.refl,s1,R.YD e1,w1],?_];rintro i m l P ⟨rfl,c,Y,Z,ρ2,e2,s2,sl2,w2⟩;let(go,o):=it (ow B Y Z) P e2.ev s2.noO;by_cases u:i<ds.length
 .let(g1,g2):=go i u
  show .inr #[g1,λa H'=>i+1<=ds.length/\∃Y Z ρ2,X7 U ω1 S Y Z H'/\WT B K H' Y Z/\YU (ow B Y Z) K H' Y a ρ2/\WS K E B H' Y Z (wD B K D) (iK gt b (ds.drop (i+1)) ρ2 Z),λa H' #[h1,h2]=>#[ds.length - (i+1),by ext,W,h1,h2],λx Q y=>?_];let(s3,d,hd,dv):=g2 x Q y;let ed:ds.drop i=d::ds.drop (i+1):=by let(_,q):=Wb.mp hd;rw[YN u,q]
  rw[ed]at w2;let e3:X7 Y Z P Y Z Q:=X7.same s3;show k B l Q Y Z ρ2 x (.fz d) _ (s2.grow s3) (sl2.YD e3) dv (WS.imp (WS.bind (WS.from e3 w2)) λG I A H4 e4 s4 w3 F L=>?_);show z B F H4 I A G _ s4 L (WS.imp (WS.bind w3) λfl n j H5 e5 t r=>?_);let p:=e2.trans (e3.trans (e4.trans e5));cases fl with
  |nx f=>show λC h=>#[u,n,j,f,p,t,h,r]
  |ct f=>show λC h=>#[u,n,j,f,p,t,h,r]
  |bk f=>show WS.now (E:=E) t r
  |rt x=>show WS.now (E:=E) t r
 .let e:i=ds.length:=by ext
  subst e;rw[X5 (Wg _)]at w2;show .inl #[o,WS.now s2 w2 l sl2]
def rY(c:sg)(b:di):Nat->di
 |0,_,_=>.bad
 |n+1,ρ,ω=>(c ρ ω).bind λk ω1=>if k=V6 then(b ρ ω1).bind λa Z=>match a with
  |.nx e=>rY c b n e Z
  |.ct e=>rY c b n e Z
  |.bk e=>.ok (.nx e) Z
  |.rt x=>.ok (.rt x) Z else .ok (.nx ρ) ω1
def qY(c:sg)(b:di):di:=rY c b 1000000
def Cf(I:vq K E c fc)(J:mW K E tb b):mW K E (DN c tb) (qY fc b):=by
 intro B T H X ω ρ D s F w;show#[λm e H'=>∃Y Z a,X7 X ω H Y Z H'/\WT B K H' Y Z/\YU (ow B Y Z) K H' Y e a/\WS K E B H' Y Z (wD B K D) (rY fc b m a Z),#[_,X,ω,ρ,.refl,s,F,w],?_];rintro m g P ⟨Y,Z,a,e2,G,i,A⟩;cases m with
 |zero=>show A.elim
 |succ m=>
  show I B g P Y Z a _ G i (WS.imp (WS.bind A) λk y t Q e3 C p=>?_);cases k with
  |true=>
   rw[ax W]at p⊢;show#[λe H'=>∃Y Z a,X7 X ω H Y Z H'/\WT B K H' Y Z/\YU (ow B Y Z) K H' Y e a/\WS K E B H' Y Z (wD B K D) (rY fc b m a Z),λe H' q=>#[m,Zj m,q],?_];show J B g Q y t a _ C (i.YD e3) (WS.imp (WS.bind p) λL l j R e5 r o=>?_);let n:=e2.trans (e3.trans e5);cases L with
   |nx f=>show λu h=>#[l,j,f,n,r,h,o]
   |ct f=>show λu h=>#[l,j,f,n,r,h,o]
   |bk f=>show WS.now (E:=E) r o
   |rt x=>show WS.now (E:=E) r o
  |false=>rw[bb Wr]at p⊢;show WS.now C p g (i.YD e3)
end
section
variable{B O O':bE}{K:lD}{E:XK}{H H' T M:Hp}{U S X Y:b5 Wd}{ω ω' ω1 Z:aJ}{R:L2.St}{ρ:aP}{v:V}
def dG(gt:Bt)(c:sg)(f:cU):G D->aP->aJ->G SV->RS (G SV)
 |[],_,ω,acc=>.ok acc ω
 |d::r,ρ,ω,acc=>(gt (.fz d) ρ ω).bind λa ω1=>(c a ω1).bind λb Z=>if b=V6 then(f a Z).bind λx e=>(if acc.length<1000000 then dG gt c f r a e (acc++[x])else .bad)else dG gt c f r a Z acc
def nI(n:Nat)(a:G Nat)(ρ:aP):aP:=Wk n P++a.map λj=>(ρ[j]?).join
def mZ(n:Nat)(a:G Nat)(b:NQ)(gt:Bt)(c:sg)(d:cU):cU:=λρ ω=>(b ρ ω).bind λds ω1=>(ku (dG gt c d ds (nI n a ρ) ω1 [])).bind λxs Z=>.ok (.rf Z.length) (Z++[.lst xs])
def Kv{own:G Str}{e:G (Str×Nat)}{n:Nat}{g:G Nat}(c:own.length=n)(i:e.map (·.2)=g)(l:YU O K H U R ρ):YU O K H U (ib own e R) (nI n g ρ):=by
 unfold ib nI;rw[Bo c];let m:e.length=g.length:=by rw[<-i,V9]
 show#[by simp_all,λj x b=>?_];by_cases h:j<n
 .rw[Wn (by rw[Xy];show h),Yn,ax h]at b;ext b
 .rw[WO (by simp_all),Xy,Wl]at b⊢
  subst i;rw[Wl]at b;cases q:e[j - n]? with
  |none=>simp_all
  |some p=>
   rw[q]at b;let a:(ρ[p.2]?).join=cL x:=Wt b;let f:ρ[p.2]?=cL (cL x):=by
    cases y:ρ[p.2]? with
    |none=>rw[y]at a;ext a
    |some o=>rw[y]at a;show d7 cL a
   let(u,t,r):=l.2 p.2 x f;simp_all
def D4{p:J}{c:Cell}(a:U.length=ω.length)(e:c≠.dead):ow (cg B p) U ω=ow B (U++[p]) (ω++[c]):=by
 funext b;show propext #[λz=>?_,λz=>?_]
 .rcases z with(z|z)|⟨i,d,h1,g,f⟩
  .show .inl z
  .show .inr #[U.length,c,by rw[z];show aO,by rw[a];show aO,e]
  .show .inr #[i,d,gK h1,gK g,f]
 .rcases z with z|z
  .show .inl (.inl z)
  .rcases tM a z with z|z
   .show .inr z
   .show .inl (.inr z)
def WT.adopt{p:J}{c:G V}{xs:G SV}(s:WT (cg B p) K H U ω)(l:H p=cL (.lst c))(g:YI (ow (cg B p) U ω) K H U c xs)(n:¬B p):WT B K H (U++[p]) (ω++[.lst xs]):=by
 let eo:ow (cg B p) U ω=ow B (U++[p]) (ω++[.lst xs]):=D4 s.len (by simp_all);let b:∀(i:Nat) (a:J),U[i]?=cL a->(U++[p])[i]?=cL a:=λi a h=>gK h;let m:∀i:Nat,U[i]?≠cL p:=s.ba p (.inr W);show#[by rw[Wi,Wi,s.len];rfl,λi j a e f=>?_,λa h=>s.bn a (.inl h),λa h i q=>?_,λi a h=>?_,λi a d e f=>?_]
 .rcases bK e with g1|⟨e1,e2⟩<;>rcases bK f with g2|⟨e3,e4⟩
  .show s.nd i j a g1 g2
  .simp_all
  .simp_all
  .omega
 .rcases bK q with q|⟨_,e2⟩
  .show s.ba a (.inl h) i q
  simp_all
 .rcases bK h with h|⟨_,e2⟩
  .show s.al i a h
  simp_all
 .rw[<-eo]
  rcases bK f with g2|⟨e1,e2⟩
  .rcases bK e with g1|⟨e1,_⟩
   .show(s.cel i a d g1 g2).ev .refl b λo q=>q
   .let:=(Wb.mp g2).1;let:=s.len;ext
  .rcases bK e with g1|⟨_,e3⟩
   .let:=(Wb.mp g1).1;let:=s.len;ext
   .rw[e2,e3];show#[c,l,Paired.ZF g λ_ _ r=>r.ev .refl b]
def WT.hide{p:J}{o:HO}(s:WT B K H U ω)(j:H p=P):WT (cg B p) K (aW H p o) U ω:=by let f:XZ H (aW H p o):=bz j o;let g:=s.grow f;let ev:Ev (ow B U ω) H (ow (cg B p) U ω) (aW H p o):=λb u h n=>#[f b u h,λz=>z.elim (λz=>z.elim (λz=>n (.inl z)) λz=>by simp_all) λz=>n (.inr z)];show#[g.len,g.nd,λa h=>h.elim (g.bn a) λe=>by rw[e,az];simp,λa h i q=>h.elim (λh=>g.ba a h i q) λe=>by rw[e]at q;show s.al i p q j,g.al,λi a c m l=>?_];show(s.cel i a c m l).ev ev (λ_ _ h=>h) λo q=>f _ _ q
def WT.ajT{p:J}{o e:HO}(s:WT (cg B p) K H U ω)(j:H p=cL o):WT (cg B p) K (aW H p e) U ω:=by
 let ev:Ev (ow (cg B p) U ω) H (ow (cg B p) U ω) (aW H p e):=Ev.mut (.inl (.inr W)) e;let n:∀b,H b≠P->aW H p e b≠P:=λb h=>by
  by_cases z:b=p
  .subst z;rw[az];simp
  .rw[ar z];show h
 show#[s.len,s.nd,λa h=>n a (s.bn a h),s.ba,λi a h=>n a (s.al i a h),λi a c f g=>(s.cel i a c f g).ev ev (λ_ _ h=>h) λu q=>?_];let:a≠p:=λz=>s.ba p (.inr W) i (by rw[<-z];show f);rw[ar this];show q
theorem X7.dd{p:J}{o:HO}(e:X7 X ω1 T U ω H)(a:T p=P):X7 X ω1 T U ω (aW H p o):=#[e.pre,λb u h n=>by rw[ar (bw h a)];show e.kp b u h n,e.lv]
theorem WT.af0{p:J}(s:WT (cg B p) K H U ω):WT B K H U ω:=
 #[s.len,s.nd,λa h=>s.bn a (.inl h),λa h=>s.ba a (.inl h),s.al,λi a c f e=>(s.cel i a c f e).ev (λb o h n=>#[h,λy=>n (y.elim (λy=>.inl (.inl y)) .inr)]) (λ_ _ h=>h) λ_ h=>h]
def yL{own:b5 Str}{fv:b5 (Str×Nat)}{g:TG}{tc:TT}{te:TE}{gt:Bt}{s:sg}{k:cU}{n:Nat}{fj:b5 Nat}{J:It}{Q:VK}{ds:b5 D}(hn:own.length=n)(hf:fv.map (·.2)=fj)
  (hg:LF K E g gt) (ht:vq K E tc s) (he:cy K E te k) (s1:WT B K T X ω1) (sl1:YU (ow B X ω1) K T X R ρ) (it:xx K J (ow B X ω1) T ds) (w1:WS K E B T X ω1 (PQ B K Q) ((dG gt s k ds (nI n fj ρ) ω1 []).bind λxs Z=>.ok (.rf Z.length) (Z++[.lst xs]))):
  ∀D,T D=Ld->Ej J D (ib own fv R) g tc te T λH'=>Q (.ref D) H':=by
 intro p hD;let slc:YU (ow B X ω1) K T X (ib own fv R) (nI n fj ρ):=Kv hn hf sl1;generalize qr:dG gt s k ds (nI n fj ρ) ω1 []=rr at w1;by_cases C:rr=.bad
 .subst C;show w1.elim
 .
  let hB:¬B p:=λz=>s1.bn p z hD;let evH:∀{Y:b5 Wd} {Z:aJ} {H':Hp},X7 X ω1 T Y Z H'->Ev (ow B X ω1) T (ow (cg B p) Y Z) H':=λe b o h n=>#[e.kp b o h λz=>n (.inr z),λz=>by
   rcases z with(z|z)|z
   .show n (.inl z)
   .simp_all
   .show(e.lv b z).elim (λq=>n (.inr q)) λq=>by simp_all]
  show#[λi m σ' H'=>m=ds.length - i/\i<=ds.length/\∃Y Z ρc acc ys,X7 X ω1 T Y Z H'/\WT (cg B p) K H' Y Z/\YU (ow (cg B p) Y Z) K H' Y σ' ρc/\H' p=cL (.lst ys)/\YI (ow (cg B p) Y Z) K H' Y ys acc/\dG gt s k (ds.drop i) ρc Z acc=rr,
   #[_,W,W0 _,X,ω1,nI n fj ρ,[],[],X7.same (bz hD _),s1.hide hD,?_,az,.nil,qr],?_]
  .show#[slc.1,λj x hx=>let#[v,h1,h2]:=slc.2 j x hx;#[v,h1,h2.ev (evH (X7.same (bz hD _))) λ_ _ h=>h]]
  .rintro i m σ2 M ⟨rfl,hi,Y,Z,ρ2,acc,ys,e2,s2,sl2,hy,vy,f⟩
   let(go,stop):=it (ow (cg B p) Y Z) M (evH e2) s2.noO;by_cases ZK:i<ds.length
   .let(g1,g2):=go i ZK
    show .inr #[g1,λσ5 G=>i+1<=ds.length/\∃Y Z ρc acc ys,X7 X ω1 T Y Z G/\WT (cg B p) K G Y Z/\YU (ow (cg B p) Y Z) K G Y σ5 ρc/\G p=cL (.lst ys)/\YI (ow (cg B p) Y Z) K G Y ys acc/\dG gt s k (ds.drop (i+1)) ρc Z acc=rr,
     λσ5 G #[h1,h2]=>#[ds.length - (i+1),by ext,W,h1,h2],λx H3 y=>?_]
    let(s3,d,hd,dv):=g2 x H3 y;let ed:ds.drop i=d::ds.drop (i+1):=by let(_,q):=Wb.mp hd;rw[YN ZK,q]
    rw[ed]at f;unfold dG at f;let e3:X7 Y Z M Y Z H3:=X7.same s3;let kD:∀{αx αy:b5 Wd} {ωx ωy:aJ} {Hx Hy:Hp} {o:HO},WT (cg B p) K Hx αx ωx->X7 αx ωx Hx αy ωy Hy->Hx p=cL o->Hy p=cL o:=λsx ex h=>ex.kp _ _ h λ#[i,c,q,_]=>sx.ba p (.inr W) i q;let w:∀{N:b5 Wd} {u:aJ} {H3:Hp} {z:Xc} {t:aJ},X7 X ω1 T N u H3->RS.er z t=rr->∀c dx S H',X7 N u H3 S t H'->WT (cg B p) K H' S t->XOk K (ow (cg B p) S t) H' c dx z->E c dx H':=λ{N u H3 z t} e3 q c dx S H' e s' x'=>by subst q;show w1 c dx S H' (e3.trans e) s'.af0 (XOk.sub (λb y=>y.elim (λy=>.inl (.inl y)) .inr) x')
    show hg (cg B p) σ2 H3 Y Z ρ2 x (.fz d) _ (s2.grow s3) (sl2.YD e3) dv ?_;cases qg:gt (.fz d) ρ2 Z with
    |er z t=>rw[qg]at f;show w (e2.trans e3) f
    |bad=>rw[qg]at f;show C f.symm
    |ok l I=>
     rw[qg]at f;intro α4 H4 e4 s4 σ4 sl4;show ht (cg B p) σ4 H4 α4 I l _ s4 sl4 ?_;let f:((s l I).bind λb Z=>if b=V6 then(k l Z).bind λx u=>(if acc.length<1000000 then dG gt s k (ds.drop (i+1)) l u (acc++[x])else .bad)else dG gt s k (ds.drop (i+1)) l Z acc)=rr:=f;cases qt:s l I with
     |er z t=>rw[qt]at f;show w (e2.trans (e3.trans e4)) f
     |bad=>rw[qt]at f;show C f.symm
     |ok b A=>
      rw[qt]at f;intro α5 G e5 s5;let P:=sl4.YD e5;let L8:=e3.trans (e4.trans e5);cases b with
      |false=>let f:dG gt s k (ds.drop (i+1)) l A acc=rr:=f;show#[ZK,α5,A,l,acc,ys,e2.trans L8,s5,P,kD s2 L8 hy,YI.YD L8 vy,f]
      |true=>
       let f:((k l A).bind λx u=>(if acc.length<1000000 then dG gt s k (ds.drop (i+1)) l u (acc++[x])else .bad))=rr:=f;rw[ax W];show he (cg B p) σ4 G α5 A l _ s5 P ?_;cases qe:k l A with
       |er z t=>rw[qe]at f;show w (e2.trans L8) f
       |bad=>rw[qe]at f;show C f.symm
       |ok x6 F=>
        rw[qe]at f;intro L H6 e6 s6 v6 hv6;let f:(if acc.length<1000000 then dG gt s k (ds.drop (i+1)) l F (acc++[x6])else .bad)=rr:=f;by_cases hl6:acc.length<1000000
        .rw[ax hl6]at f;let e36:=L8.trans e6;let hy6:H6 p=cL (.lst ys):=kD s2 e36 hy;let vy6:=YI.YD e36 vy;let em:Ev (ow (cg B p) L F) H6 (ow (cg B p) L F) (aW H6 p (.lst (ys++[v6]))):=Ev.mut (.inl (.inr W)) _;let sl6:=P.YD e6;show#[ys,hy6,sS (by rw[vy6.length];show hl6),ZK,L,F,l,acc++[x6],ys++[v6],(e2.trans e36).dd hD,s6.ajT hy6,#[sl6.1,λj x hx=>let#[v,h1,h2]:=sl6.2 j x hx;#[v,h1,h2.ev em λ_ _ h=>h]],az,uO (Paired.ZF vy6 λ_ _ r=>r.ev em λ_ _ h=>h) (hv6.ev em λ_ _ h=>h),f]
        .rw[bb hl6]at f;show b4 f.symm C
   .let e:i=ds.length:=by ext
    subst e;rw[X5 (Wg _)]at f;let f:RS.ok acc Z=rr:=f;subst f;show .inl #[stop,?_];show w1 (Y++[p]) M #[λi a h=>gK (e2.pre i a h),e2.kp,λb z=>(tM s2.len z).elim (e2.lv b) λz=>.inr (by rw[z];show hD)] (s2.adopt hy vy hB) (.ref p) #[p,by rw[<-s2.len];show aO,W]
def QR{A C:Type}{P:C->G J->aJ->Hp->Prop}{r:RS A}{k:A->aJ->C}{m:A->aJ->aJ}(w:WS K E B H U ω P ((ku r).bind λa o=>.ok (k a o) (m a o))):WS K E0 B H U ω P (r.bind λa o=>.ok (k a o) (m a o)):=by
 cases r with
 |ok a o=>show w
 |er x o=>show w.elim
 |bad=>show w
def Dl{own:G Str}{h:G (Str×Nat)}{a:TI}{g:TG}{e:TT}{b:TE}{j:NQ}{gt:Bt}{c:sg}{d:cU}{n:Nat}{i:G Nat}(k:own.length=n)(r:h.map (·.2)=i)
  (u:Rg K E a j) (q:LF K E0 g gt) (p:vq K E0 e c) (t:cy K E0 b d):cy K E (tf own h a g e b) (mZ n i j gt c d):=by
 intro B R H U ω ρ Q s f w;show u B R H U ω ρ _ s f (WS.imp (WS.bind w) λds X ω1 T e1 m l J o=>?_);show yL k r q p t m (f.YD e1) o (QR l)
def cj(N:Nat)(g:di):fy:=λxs ω=>(g (xs.map cL++Wk (N - xs.length) P) ω).bind λa ω1=>match a with
 |.rt x=>.ok x ω1
 |.nx _=>.ok (.fz .none) ω1
 |_=>.bad
def Hk{N:G Str}{c:G V}{xs:G SV}(h:YI O K H U c xs):YU O K H U (L2.start N c) (xs.map cL++Wk (N.length - xs.length) P):=by
 let e:c.length=xs.length:=Paired.length h;ext L2.start;show#[by simp_all,λi x a=>?_];by_cases hi:i<xs.length
 .rw[Wn (by simp_all),Wl]at a
  cases q:xs[i]? with
  |none=>rw[q]at a;ext a
  |some d=>rw[q]at a;ext a;let(v,b,f):=yE h q;show#[v,?_,f];rw[Wn (by rw[V9,e];show hi),Wl,b];rfl
 .rw[WO (by rw[V9];ext),Yn]at a;split at a<;>ext a
def y0{N:G Str}{c:G V}{xs:G SV}{g:di}{t:TS}{Q:VK}{n:Nat}(f:mW K E t g)(h:jR K n (cj N.length g) c H Q E):t {nx:=λ_ H'=>Q .Ye H',rt:=Q} (L2.start N c) H:=by
 let(l,B,U,ω,xs,s,e,w):=h;show f B _ H U ω _ _ s (Hk e) (WS.imp (WS.bind w) λi X ω1 T e1 b a=>?_);cases i with
 |rt x=>show WS.now (E:=E) b a
 |nx ρ=>show λR j=>WS.now (E:=E) b a .Ye .Ye
 |bk ρ=>show a.elim
 |ct ρ=>show a.elim
end
def UL{P:Wz}{w:WX}{K:lD}{d:Str->I U}{base:Heap}{x a:Str}{st:X1}{f:J}{fd:Xj}{N c:G Str}{k n m:Nat}{g:di}{e:fy}(F:Fun K x a st f fd)(S:Yr N c (au st))(r:c.length=n)(hm:N.length=m)(o:e=cj m g)
  (p:∀(b:U) (A:WQ) (outer:G Env) (s:We) (H:Hp) (E:XK),X9 k (A.deeper (WZ a (au st) s.heap.objs.size f b))->
   ∃t,PSs (fx kg P w K d base N a (au st) f b A outer s H E).nox (bQ st) t/\mW K E t g):FnOk P w K d base kg (k+1) f fd c (jR K n e):=by
 subst o hm;show F.ok S (λq H Q E h=>h.1.trans r.symm) (λb A outer s H q Q E l h=>?_);let(t,i,j):=p b A outer s H E l;show#[t,i,y0 (xs:=[]) j h]
def UA{P:Wz}{w:WX}{K:lD}{d:Str->b7 U}{base:Heap}{x a:Str}{st:X1}{f:J}{fd:Xj}{N c:b5 Str}{k n m:Nat}{g:di}{j:fy}(F:Fun K x a st f fd)(S:Yr N c (au st))(z:c.length=n)(hm:N.length=m)(u:j=cj m g)
  (y:∀(b:U) (A:WQ) (outer:b5 Env) (s:We) (H:Hp) (E:XK),X9 k (A.deeper (WZ a (au st) s.heap.objs.size f b))->
   ∃t,PSs (fx (L4.kN P w) P w K d base N a (au st) f b A outer s H E) (bQ st) t/\mW K E t g):FnOk P w K d base (L4.kN P w) (k+1) f fd c (jR K n j):=by
 subst u hm;let(G,C,kV,v,B,I,b,ct,l,rfl,o,i):=F.ex;show Gc o i S (λL H Q E h=>h.1.trans z.symm) λA outer s H L Q E r e=>?_;let(t,p,q):=y b A outer s H E r;show#[t,p,y0 (xs:=[]) q e]
end L10
namespace PySem.W
open PySem PySem.Calls PyProof.Rows PyProof.V PySem.Spec
section
variable{Y:Wz}{w:WX}{A:WQ}{E:V5->We->Prop}{s:We}{T:String}{r d:Wd}{n:Nat}{P:Nat->V5->Prop}{X:Heap->Prop}
def collect_kdl(K:KdlSrc Y w T r d n P X)(m:A.handled=Ld)(Xw:X s.heap)(u:n<=Wm)
  (q:∀c k acc,(∀b o,s.heap.get? b=M o->c.get? b=M o)->aau P acc n->Q acc.toList {s with heap:=c,toks:=k}):wpAny (model Y w) A (collect (.ref r)) Q E s:=by
 let i:=K.there _ Xw;ext collect;show CL (wpAny_runValue (Y2 F.entry_proto_collect ?_));rw[WQ.under_plainId F.plain_proto_collect _];show CL (Xu ?_);show Wf #[YF F.plain_list_iadd _,Y2 F.entry_list_iadd ?_];rw[WQ.under_plainId F.plain_list_iadd _];let p:(s.heap.push {cls:=.type "list",data:=.seq ([]:G U).toArray}).get? s.heap.objs.size=M {cls:=.type "list",data:=.seq ([]:G U).toArray}:=ck _ W;show kdl_extend (R:=wants (λv j=>wpAny (model Y w) A (match v with|.ref a=>(load a>>=λo=>match o.data with|.seq xs _=>pure xs.toList|_=>unsupported "internal:collect")|_=>unsupported "internal:collect") Q E j) E) (s:={s with heap:=s.heap.push {cls:=.type "list",data:=.seq ([]:G U).toArray}}) K m (K.keep _ _ Xw λb _ o e=>b9 _ e) _ (Xn i.1) (Xn i.2) _ 0 p (λc k h t l f g=>?_) u;show CL (afJ f ?_);show Wf (q c k h (λb o e=>l b o (WG (cc e)) (b9 _ e)) g)
end
end PySem.W
namespace PyProof.Rows
open PySem
section
variable{Y:Wz}{w:WX}{A:WQ}{E:V5->We->Prop}{s:We}{T:String}{r d:Wd}{n:Nat}{P:Nat->V5->Prop}{X:Heap->Prop}
def zg(K:PySem.W.KdlSrc Y w T r d n P X)(p:A.handled=Ld)(Xw:X s.heap)(l:n<64)(t:∀acc:Array U,aau P acc n->IntsAre acc.toList ns)
  (h:∀(a c:Heap) (g:Nat) (out:Array U) (e:Nat) (f:G Int),(∀b o,s.heap.get? b=M o->a.get? b=M o)->c.get? a.objs.size=M (seqObj "list" out e)->(∀b o,a.get? b=M o->c.get? b=M o)->IntsAre out.toList f->f.Perm ns->f.Pairwise (·<=·)->Q (.ref a.objs.size) {s with heap:=c,toks:=g}):
  wpAny (model Y w) A (call (.builtin "sorted") [.ref r]) Q E s:=by
 show Calls.call_function_entry kind_sorted plain_sorted entry_sorted (args_sorted1 _) (CL (Wf (CL (PySem.W.collect_kdl K p Xw (by rw[YA];ext) (λa g acc m C=>CL (alr ?_ (hsz:=by rw[Xh,C.1,YA];ext)))))));let i:(a.push (seqObj "list" acc.toList.toArray 0)).get? a.objs.size=M (seqObj "list" acc.toList.toArray 0):=ck _ W;let j:=t acc C;show CL (XN (Yd slot_list_sort #[_,i,W] entry_list_sort (list_sort_tree i j (by rw[Xh,C.1];show l) λout f y v u=>#[_,W,Wf #[_,W,?_]]) (args_list_sort _)));let(e,q):=pJ i;show h a _ g out e f m q (λb B z=>na (WG (cc z)) (b9 _ z)) y v u
end
end PyProof.Rows
namespace L10
open PySem PySem.Spec PyProof.Rows L2 L3
def TV(p d:J):HO:=.ext λh=>h.IsValuesView p d
theorem Sm(x:h.IsValuesView p d):ObjOk g w H h p (TV p d):=#[x,let#[o,a,_]:=x;#[o,a],λf e #[o,a,b] k=>#[o,k o a,b]]
def Ml:V->G V->Hp->VK->Prop:=λx b H Q=>∃a e,x=.ref a/\b=[]/\H a=M (.dK e)/\∀p,H p=P->Q (.ref p) (aW H p (TV p a))
def B9:Q1 X "dict.values" Ml:=by intro g s m H x xs v n Q I i f h;let(a,r,rfl,rfl,e,q):=h;ext i;ext f;let(z,l,p,j,dd):=wK I.Xw e;show call_meetsIn abH dd.typeIs PySem.F.entry_dict_values (PySem.F.args_dict_values_1 _) (meets_dict_values (cb X.prog X.w) a l) #[#[p,dd],?_];show#[.ref s.heap.objs.size,_,I.laid (λb o e=>b9 _ e) (Wg _) (Sm #[_,ck _ W,W,W]),W,q _ (I.Xw.fresh (Wg _))]
def DU:G V->Hp->VK->Prop:=λxs H Q=>∃p a b,xs=[.ref p]/\H p=M (TV p a)/\H a=M (.dK b)/\∀l,H l=P->Q (.ref l) (aW H l (.lst (b.map (·.2))))
def JQ:∀{c:G (o×V)} {b:G (o×U)},KV c b->Vals (c.map (·.2)) (b.map (·.2)):=by
 intro _ _ a
 induction a with
 |nil=>show .nil
 | @cons _ _ _ _ h t e=>show .cons h.2 (e)
def ze(n:X.calm=S):YG X (.type "list") DU:=by intro g s C H xs E Q I r h;let(p,a,N,rfl,w,e,q):=h;let(u,rfl,l):=kq r;ext l;let(z,G,T,b,dd):=wK I.Xw e;let(K,B):=dd.dictAt;let(i,_,_):=I.Xw p _ w;show PySem.W.kdl_call (PySem.W.kdl_values) (I.ok.hd n) #[i,B] (by rw[<-b.length];show z) λJ F f c m t L=>?_;let A:=PySem.W.kdl_vals_eq f.toList (by rw[Xh];show L.1) λj v y=>L.2 j v (by rw[<-Zd];show y);show#[.ref s.heap.objs.size,_,I.laid (o:=.lst (N.map (·.2))) m (Wg _) #[by rw[V9];show z,f.toList,c,by rw[A];show JQ b,by rw[acV];show t],W,q _ (I.Xw.fresh (Wg _))]
def yn:G V->Hp->VK->Prop:=λxs H Q=>∃(p:J) (e:G (bZ×V)) (a:G Int),xs=[.ref p]/\H p=M (.dK e)/\e.map (·.1)=a.map Sum.inl/\a.length<64/\∀(l:J) (b:G Int),H l=P->b.Perm a->b.Pairwise (·<=·)->Q (.ref l) (aW H l (.lst (b.map V.int)))
theorem qG:∀{c:G (bZ×U)} {a:G Int} {us:G U},c.map (·.1)=a.map Sum.inl->us.length=c.length->(∀(j:Nat) (u:U),us[j]?=M u->∃k x,c[j]?=M (k,x)/\(cb prog w).is k u=S)->IntsAre us a
 |[],[],[],_,_,_=>.nil
 |[],[],_::_,_,h,_=>by simp at h
 |[],_::_,_,h,_,_=>by simp at h
 |_::_,[],_,h,_,_=>by simp at h
 |_::_,_::_,[],_,h,_=>by simp at h
 |(k,y)::c,n::a,u::us,h1,m,l=>by rw[Wv,Wv,am9]at h1;let(i,x,e,f):=l 0 u W;ext e;let g:=h1.1;subst g;let(t,rfl):=V5.isInt_shape (show V5.isInt n u=S from f);show .cons _ _ (qG h1.2 (by simpa using m) λj b e=>l (j+1) b (by simpa using e))
def yD(E:X.calm=V6):YG X (.builtin "sorted") yn:=by
 intro i s N H xs O Q I r h;let(p,WH,l,rfl,e,J,F,q):=h;let(u,rfl,t):=kq r;ext t;let(z,C,vs,b,dd):=wK I.Xw e;let(T,L):=dd.dictAt;let m:vs.map (·.1)=l.map Sum.inl:=by rw[<-b.keys];show J
 let R:vs.length=l.length:=by let:=d7 ZM m;simpa using this
 show zg (PySem.W.kdl_dict C) (I.ok.hd E) L () (λM Y=>qG m (by rw[Xh];show Y.1) λj v K=>Y.2 j v (by rw[<-Zd];show K)) λG S P f e2 w A B g Y n y=>?_;let a:=n.length_eq;let o:=I.kept (t':=s.toks) A;show#[.ref G.objs.size,_,o.laid g (Wg _) ?_,W,q _ w (o.Xw.fresh (Wg _)) n y];show#[?_,f.toList,e2,iA Y,B];rw[V9,a];let:(64:Nat)<=Wm:=by decide
 ext
end L10
namespace PySem
open Sem (wp)
namespace F
def lk_tuple_keys:typeLookup (.type "tuple") "keys"=pure P:=by rw[aaI,Zn];kernel_rfl
def lk_tuple_hook:typeLookup (.type "tuple") "__getattr__"=pure P:=by rw[aaI,Zn];kernel_rfl
def sub_ae:isSubtype (.type "AttributeError") (.type "AttributeError")=pure S:=by rw[ajs];kernel_rfl
end F
section
variable{Y:Wz}{w:WX}{A:WQ}{E:V5->We->Prop}{h:Heap}{g:Array aar}{d:adR}{t:Nat}{X:acF}{a:Wd}{o:Obj}
def xA{α:Type}{name f:Str}{Q:α->We->Prop}{E:U->We->Prop}(hm:f.length<=Wm)(l:A.handled=P)(i:∀e c k,(∀b o,h.get? b=M o->c.get? b=M o)->(#[c,g,d,k,X]:We).TypeIs e "AttributeError"->E e #[c,g,d,k,X]):
  wpAny (model Y w) A (raiseAttrError (.ref a) name f:Sem α) Q E #[h,g,d,t,X]:=by
 let j:¬f.length>Wm:=Nat.not_lt.mpr hm;unfold raiseAttrError newExc newTuple
 repeat (any_goals (first|assumption|wp_step))
 show acf (a:=S) F.sub_ae ?_
 repeat (any_goals (first|assumption|wp_step))
 show afn l (i _ _ _ (λb o e=>?_) ?_)
 .show(cn _ _ (dN (WG (cc (b9 _ e))))).trans (b9 _ (b9 _ e))
 .show#[_,cv _ (ck _ W) W,W]
def ml{f:Tok}{Q:Fin->We->Prop}{E:U->We->Prop}{p:Array U}{n:Nat}{i:Array (I U)}(j:h.get? a=M #[.type "tuple",P,.seq p n,i])(m:A.handled=P)(l:∀e c k,(∀b o,h.get? b=M o->c.get? b=M o)->(#[c,g,d,k,X]:We).TypeIs e "AttributeError"->E e #[c,g,d,k,X]):
  wpAny (model Y w) A (Builtin.«object.__getattribute__» #[[.ref a,.str "keys" f],[]]) Q E #[h,g,d,t,X]:=by
 let q:(#[h,g,d,t,X]:We).TypeIs (.ref a) "tuple":=#[_,j,W];let r:=F.lk_tuple_keys
 repeat (any_goals (first|assumption|wp_step))
 show xA (by left) m l
def rT{f:Tok}{Q:U->We->Prop}{E:U->We->Prop}{u:Array U}{n:Nat}{l:Array (I U)}(i:h.get? a=M #[.type "tuple",P,.seq u n,l])(q:A.handled=P)(m:∀e c k,(∀b o,h.get? b=M o->c.get? b=M o)->(#[c,g,d,k,X]:We).TypeIs e "AttributeError"->E e #[c,g,d,k,X]):
  wpAny (model Y w) A (getAttrBy (.ref a) (.str "keys" f) R) Q E #[h,g,d,t,X]:=by
 let r:(#[h,g,d,t,X]:We).TypeIs (.ref a) "tuple":=#[_,i,W];let B:=F.slot_tuple_getattribute.lookup;let y:=F.slot_tuple_getattribute.bind (.ref a);let v:=F.lk_tuple_hook
 repeat (any_goals (first|assumption|wp_step))
 show YR F.slot_tuple_getattribute.plain F.entry_tuple_ga (F.slot_tuple_getattribute.check _ _ _ _ _ _ _ _ r (F.args_tuple_getattribute_2 _ _) (ml i q λe c k p j=>?_));let fs:=F.sub_ae;show wpAny (model Y w) A (getattributeRaised (V5.ref a) (V5.str (Str.ofString "keys") f) (V5.type "tuple") e P R R) Q E _;ext getattributeRaised;show CL (aat j fs ?_)
 repeat (any_goals (first|assumption|wp_step))
 show m e c k p j
def og(f:h.get? a=M #[.type "tuple",P,.seq W6 n,C])(l:A.handled=P)(i:∀c k,(∀b o,h.get? b=M o->c.get? b=M o)->Q P #[c,g,d,k,X]):
  wpAny (model Y w) A (getAttr? (.ref a) "keys") Q E #[h,g,d,t,X]:=by
 unfold getAttr? getAttrBy?;let fs:=F.sub_ae;show CL ?_
 repeat (any_goals (first|assumption|(specialize rT f l λe c k j m=>?_)|wp_step))
 show i c k j
namespace F
theorem entry_upd_loop:entryFor table "dict.update.loop"=M Builtin.«dict.update.loop»:=entryFor_of_tree (by kernel_rfl)
def plain_upd_loop:plainId "dict.update.loop"=S:=by left
end F
end
section
variable{prog:Wz}{w:WX}{A:WQ}{E:V5->We->Prop}{s:We}{K:Type}[DecidableEq K]{knd:KeyKind prog w K}{I dd Z:Wd}{items:Array V5}{ks:b5 (K×V5)}{R:aaW->We->Prop}
def xJ(a:G (K×U))(k:K)(v:U):(stored a k v).length<=a.length+1:=by
 ext stored;split
 .rw[V9];ext
 .rw[Wi];show Wg _
theorem nk:∀(a c:G (K×U)),(merged c a).length<=c.length+a.length
 |[],c=>Wg _
 |p::r,c=>by let e:=nk r (stored c p.1 p.2);let b:=xJ c p.1 p.2;show(merged (stored c p.1 p.2) r).length<=_;rw[Wo];ext
def xQ(a:G (K×U)):(merged [] a).length<=a.length:=by let:=nk a [];simpa using this
def GK{Q:Heap}(D:A.handled=Ld)(H:Z≠I)(P:I≠dd)(O:Z≠dd)(d:∀(i:Nat) (v:V5),items[i]?=cL v->∃q key k x,v=.ref q/\q≠dd/\q≠I/\ks[i]?=cL (k,x)/\knd.is k key=V6/\Q.IsTuple q #v[key,x])(hs:ks.length=items.size)(hz:items.size<=Wm)
  (V:∀c l,c.DictOf knd dd (merged [] ks)->(∀b o,b≠dd->b≠I->Q.get? b=cL o->c.get? b=cL o)->R (.ok (.ret .none)) {s with heap:=c,toks:=l}):
  ∀(m i:Nat) (h:Heap) (l:Nat),items.size - i=m->i<=items.size->h.IsTupleIter I Z i->h.IsTuple Z items->h.DictOf knd dd (merged [] (ks.take i))->(∀b o,b≠dd->b≠I->Q.get? b=cL o->h.get? b=cL o)->
   codeAny (model prog w) A (.builtin "dict.update.loop" #[[.ref dd,.ref I,rawInt i,.none],[]]) R {s with heap:=h,toks:=l}:=by
 let W:=Walks.tuple (prog:=prog) (w:=w) (A:=A.in1) D I Z H items;intro m
 induction m with
 |zero=>
  intro i h l hm hi B u t r;let e:i=items.size:=by ext
  subst e;show Y2 F.entry_upd_loop ?_;rw[WQ.under_plainId F.plain_upd_loop _];show CL (W.done _ _ _ #[B,u] λc f g=>?_);rw[aaa ()]at t;show CL (Wf (Wf ?_));show V c f (t.at λo e=>g dd o (by simp;show λz=>P z.symm) e) λb o j a e=>g b o (by simp;show a) (r b o j a e)
 |succ m ih=>
  intro i h l hm hi B u t r;let U:i<items.size:=by ext
  show Y2 F.entry_upd_loop ?_;rw[WQ.under_plainId F.plain_upd_loop _];show CL (W.item i _ _ _ U #[B,u] λv c f hv T g=>?_);let(q,key,k,x,rfl,G,n,L,J,ht):=d i v hv;let C:=ht.at λo e=>g q o (by simp;show n) (r q o G n e);let S:=t.at λo e=>g dd o (by simp;show λz=>P z.symm) e;let y:=λb o j a e=>g b o (by simp;show a) (r b o j a e);let(oq,p,N,nq,M):=C;let(cq,dq,dtq,X):=oq;ext N;ext M;let hT:({s with heap:=c,toks:=f}:We).TypeIs (.ref q) "tuple":=#[_,p,rfl];show CL (XN (CL ?_));show aa0 ?_;ext Builtin.Dict.pairItems;show CL (Zk hT ?_);rw[ax ()];show CL ?_;unfold seqItems?;show CL (afJ p (Wf (Wf ?_)));show XN (wpAny_dictSet_pairs J S (λa d2 Y=>?_) ?_)
  .show Wf #[YF F.plain_upd_loop _,?_];let e2:∀b o,b≠dd->c.get? b=cL o->a.get? b=cL o:=λb o hb e=>(Y.2 b hb).trans e;show ih (i+1) a (f+1) () U (T.1.at λo e=>e2 I o P e) (T.2.at λo e=>e2 Z o O e) ?_ λb o j a e=>e2 b o j (y b o j a e);rw[merged_take_succ [] ks i (k,x) L];show d2
  .let:(merged [] (ks.take i)).length<=(ks.take i).length:=xQ _;rw[Xl]at this;ext
end
end PySem
namespace PySem
open Sem (wp)
open PyProof.Rows
section
variable{T:Wz}{w:WX}{A:WQ}{E:V5->We->Prop}{s:We}{K:Type}[DecidableEq K]{X:KeyKind T w K}{Z:Wd}{Y:Array V5}{ks:b5 (K×V5)}{R:aaW->We->Prop}
def nO(C:A.handled=P)(B:s.heap.get? Z=cL #[.type "tuple",P,.seq Y n,sl])(H:ks.length=Y.size)(z:Y.size<=Wm)
  (I:∀(i:Nat) (v:U),Y[i]?=cL v->∃q key k x,v=.ref q/\ks[i]?=cL (k,x)/\X.is k key=S/\s.heap.IsTuple q #v[key,x])
  (h:∀c d,c.DictOf X s.heap.objs.size (merged [] ks)->(∀b o,s.heap.get? b=cL o->c.get? b=cL o)->Q (.ref s.heap.objs.size) {s with heap:=c,toks:=d}):
  wpAny (model T w) A (call (.type "dict") [.ref Z]) Q E s:=by
 show ajt (Q₁:=λobj f=>obj=.ref s.heap.objs.size/\f={s with heap:=s.heap.push {cls:=.type "dict",data:=.dict #v[]}}) F.kt_called_dict (F.kt_typeCall_dict_1 _) F.entry_dict_init (kt_code_dict_new _ #[W,W]) ?_;rintro obj f ⟨rfl,rfl⟩;let a:(s.heap.push {cls:=.type "dict",data:=.dict #v[]}).DictOf X s.heap.objs.size []:=Heap.DictOf.new s.heap;let g:(s.heap.push {cls:=.type "dict",data:=.dict #v[]}).get? Z=cL #[.type "tuple",P,.seq Y n,sl]:=b9 _ B;let J:({s with heap:=s.heap.push {cls:=.type "dict",data:=.dict #v[]}}:We).TypeIs (.ref Z) "tuple":=#[_,g,W];show#[a.typeIs,F.args_dict_init_2 _ _,?_];unfold Builtin.«dict.__init__»;show CL ?_;ext Builtin.Dict.selfAndRest;show CL (wpAny_notOrdered_dict a.typeIs ?_);show Wf ?_;show wpAny _ _ (Builtin.Dict.updateFrom "dict.__init__" s.heap.objs.size (.ref Z) [] .none) _ _ _;ext Builtin.Dict.updateFrom;show CL (Zk J ?_);rw[ax ()];show CL (og g C λc G m=>?_);rw[ax (show(P:b7 U).isNone=S from rfl)];show CL (aaA ?_);let l:=m _ _ g;let t:c.IsTuple Z Y:=#[_,l,W,n,W];show CL (aaN t ?_);show Wf #[YF F.plain_upd_loop _,?_];let Q0:s.heap.objs.size<c.objs.size:=by let(o,_,_,p,_):=a;show cc (m _ _ p)
 let j:=cc B;show GK (A:=A.in1) (knd:=X) C (WG (Y9 j Q0)) (Xn Q0) (WG j) (λi v e=>?_) H z (λu r N k2=>?_) Y.size 0 _ G () (W0 _) #[_,ck _ W,W,W] #[_,b9 _ l,W,n,W] ?_ λb o _ _ e=>e
 .let(q,key,k,x,rfl,M,u,o,p,L):=I i v e;let y:=cc p;show#[q,key,k,x,W,WG y,WG (Y9 y Q0),M,u,o,b9 _ (m _ _ (b9 _ p)),L]
 .show#[W,h u r N λb o e=>?_];let lb:=cc e;show k2 b o (WG lb) (WG (Y9 lb Q0)) (b9 _ (m _ _ (b9 _ e)))
 .let:=a.at (h':=c.push {cls:=.type "tuple_iterator",data:=.fields #v[.ref Z,.int 0 0]}) λo e=>b9 _ (m _ _ e);show this
end
end PySem
namespace L10
open PySem PySem.Spec PyProof.Rows L2 L3
inductive abW(K:lD)(H:Hp):G V->G (bZ×V)->Prop
 |nil:abW K H [] []
 |cons {q:J} {k:bZ} {v:V} {vs:G V} {WH:G (bZ×V)}:ZP K H q [kV k,v]->abW K H vs WH->abW K H (.ref q::vs) ((k,v)::WH)
def xZ(K:lD):G V->Hp->VK->Prop:=λxs H Q=>∃p ys a,xs=[.ref p]/\ZP K H p ys/\abW K H ys a/\∀d,H d=P->Q (.ref d) (aW H d (.dK (l4 [] a)))
theorem Gh(I:Inv X pins σ H s):∀{j:G V} {z:G (bZ×V)} {us:G U},abW X.K H j z->Vals j us->∃d:G (bZ×U),KV z d/\d.length=us.length/\∀(i:Nat) (v:U),us[i]?=M v->∃q key k x,v=.ref q/\d[i]?=M (k,x)/\(cb X.prog X.w).is k key=S/\s.heap.IsTuple q #v[key,x]
 |_,_,_,.nil,.nil=>#[[],.nil,W,λi v e=>by simp at e]
 |_,_,_,.cons (q:=q) (k:=k) (v:=v) h t,.cons r rs=>by
  let(d,p,o,n):=Gh I t rs;let(y,A,pl,_):=I.tuple h;ext r;obtain⟨g,f,rfl,m,l⟩:∃g f,y=[g,f]/\RelV (kV k) g/\RelV v f:=by
   cases A with
   |cons a b=>cases b with
    |cons b c=>ext c;show#[_,_,W,a,b]
  show#[(k,f)::d,.cons #[W,l] p,by rw[Wo,Wo,o],λi u e=>?_];cases i with
  |zero=>ext e;show#[q,g,k,f,W,W,sY m,pl]
  |succ i=>show n i u (by simpa using e)
def xS(F:X.calm=V6):YG X (.type "dict") (xZ X.K):=by
 intro f s G H xs L Q I r h;let(p,J,Y,rfl,t,w,q):=h;let(u,rfl,g):=kq r;ext g;let(S,T,(o,y,(b,n,E),a),m):=I.afP t;let(P,k1,k2,k3):=Gh I w T;let(O,N,l,j):=o;ext b;ext E;ext a;let A:=T.length;let B:=k1.length;show nO (I.ok.hd F) y (by rw[Ws];show k2) (by rw[Ws,<-A];show m) (λi v e=>k3 i v (by simpa using e)) λR M dd C=>?_;show#[.ref s.heap.objs.size,_,I.laid C (Wg _) ?_,W,q _ (I.Xw.fresh (Wg _))];show yV ?_ ?_ (KV.merge k1 .nil) dd
 .let:=kz Y [];rw[Yy]at this;ext
 .show beq_eq_false_iff_ne.mpr (Xn I.big)
end L10
namespace L10
open PySem PyProof.Rows L2 L3
def OQ:Xg "dict"=M (.type "dict"):=by left
section
variable{B O O':bE}{K:lD}{E:XK}{H H' S R:Hp}{Y α' X U:b5 Wd}{ω ω' ω1 Z:aJ}{T:L2.St}{ρ:aP}{v:V}
def rS:SV->I bZ
 |.fz (.int i)=>M (.inl i)
 |.fz (.str x)=>M (.inr x)
 |_=>P
def oz(e:rS x=M k)(h:Y0 O K H Y v x):v=kV k:=by
 unfold rS at e;split at e
 .ext e;ext h;rfl
 .ext e;ext h;rfl
 .ext e
abbrev vi(O:bE)(K:lD)(H:Hp)(Y:G J):G (bZ×V)->G (bZ×SV)->Prop:=Paired (λ(p:bZ×V) (q:bZ×SV)=>p.1=q.1/\Y0 O K H Y p.2 q.2)
def gO(ω:aJ):SV->I (Nat×G (bZ×SV))
 |.rf i=>match ω[i]? with
  |some (.dct a)=>M (i,a)
  |_=>P
 |_=>P
def kJ(s:WT B K H Y ω)(b:Y0 (ow B Y ω) K H Y v x)(h:gO ω x=M (i,o)):ω[i]?=M (.dct o)/\∃a ws,Y[i]?=M a/\v=.ref a/\H a=M (.dK ws)/\vi (ow B Y ω) K H Y ws o:=by
 cases x with
 |fz d=>ext h
 |tp l=>ext h
 |rf j=>
  let(a,n,rfl):=b;unfold gO at h;dsimp only at h;cases q:ω[j]? with
  |none=>rw[q]at h;ext h
  |some c=>
   rw[q]at h;cases c with
   |dct m=>let e:=Wt h;ext e;let(ws,g,f):=s.cel i a _ n q;show#[q,a,ws,n,W,g,f]
   |_=>ext h
def jc(b:G (bZ×SV))(k:bZ):I SV:=(b.find? λa=>decide (a.1=k)).map (·.2)
def jh(b:G (bZ×SV))(k:bZ)(x:SV):G (bZ×SV):=
 if(b.any λa=>decide (a.1=k))=V6 then b.map (λa=>if a.1=k then(a.1,x)else a)else b++[(k,x)]
def kK(b:G (bZ×SV))(k:bZ):G (bZ×SV):=b.filter λa=>decide (a.1≠k)
def vo:∀{ws:G (bZ×V)} {c:G (bZ×SV)},vi O K H Y ws c->(∀x,jc c k=M x->∃v,jq ws k=M v/\Y0 O K H Y v x)/\(jc c k=P->jq ws k=P):=by
 intro _ _ f
 induction f with
 |nil=>show#[λx e=>(by ext e),λ_=>W]
 | @cons m l ws c j t n=>
  let(a,u):=m;let(b,y):=l;let(i,g):=j;ext i;unfold jc jq;rw[W9,W9];by_cases e:a=k
  .simp only[bg e];show#[λx h=>#[u,W,by ext h;show g],λh=>by ext h]
  .simp only[bt e];show n
def T5:∀{ws:G (bZ×V)} {d:G (bZ×SV)},vi O K H Y ws d->(ws.any λc=>decide (c.1=k))=d.any λc=>decide (c.1=k):=by
 intro _ _ e
 induction e with
 |nil=>show W
 | @cons j i ws d h t l=>let(a,u):=j;let(b,y):=i;let(f,g):=h;ext f;rw[Zl,Zl,l]
def T8(g:Y0 O K H Y v x):∀{ws:G (bZ×V)} {d:G (bZ×SV)},vi O K H Y ws d->vi O K H Y (ws.map (λc=>if c.1=k then(c.1,v)else c)) (d.map (λc=>if c.1=k then(c.1,x)else c)):=by
 intro _ _ f
 induction f with
 |nil=>show .nil
 | @cons n m ws d l t j=>
  let(a,u):=n;let(b,y):=m;let(i,h):=l;ext i;rw[Wv,Wv];by_cases e:a=k
  .rw[ax e,ax e];show .cons #[W,g] (j)
  .rw[bb e,bb e];show .cons #[W,h] (j)
def F9(h:vi O K H Y ws o)(r:p.1=q.1/\Y0 O K H Y p.2 q.2):vi O K H Y (ws++[p]) (o++[q]):=by
 induction h with
 |nil=>show .cons r .nil
 |cons a _ b=>show .cons a b
def AU(a:Y0 O K H Y v x)(h:vi O K H Y ws o):vi O K H Y (iJ ws k v) (jh o k x):=by
 unfold iJ jh;rw[T5 h];split
 .show T8 a h
 .show F9 h #[W,a]
def DW:∀{ws:G (bZ×V)} {c:G (bZ×SV)},vi O K H Y ws c->vi O K H Y (lM ws k) (kK c k):=by
 intro _ _ f
 induction f with
 |nil=>show .nil
 | @cons m l ws c j t i=>
  let(a,u):=m;let(b,y):=l;let(h,g):=j;ext h;unfold lM kK;rw[Zi,Zi];by_cases e:a=k
  .let z:decide (a≠k)=V8:=bt λn=>n e;simp only[z];show i
  .let z:=bg e;simp only[z];show .cons #[W,g] (i)
def r9(neg:Bool)(a fd:cU):cU:=λρ ω=>(a ρ ω).bind λx ω1=>(fd ρ ω1).bind λo Z=>(RS.Xf Z (rS x)).bind λk Z=>(RS.Xf Z (gO Z o)).bind λp Z=>.ok (.fz (.bool ((jc p.2 k).isSome !=neg))) Z
def DK(h:vi O K H Y ws o):(jq ws k).isSome=(jc o k).isSome:=by
 let(b,a):=vo h;cases q:jc o k with
 |none=>rw[a q];rfl
 |some x=>let(u,e,_):=b x q;rw[e];rfl
def KY(p:cy K E C fk)(hd:cy K E td fd):cy K E (SC C td) (r9 V8 fk fd):=by intro B T H Y ω ρ Q s e w;show p B T H Y ω ρ _ s e (w.bind.imp λx X ω1 S e1 h g v m=>?_);show hd B T S X ω1 ρ _ h (e.YD e1) (g.bind.imp λo U Z R e2 f b u n=>?_);let(k,l,b):=WS.Xf b;let((i,y),j,b):=WS.Xf b;let(_,a,ws,t,rfl,r,q):=kJ f n j;show#[a,jq ws k,W,by rw[oz l m];show ab8.k r,?_];rw[DK q];show WS.now f b _ ?_;rw[afo];show .bl _
def pM(fd a:cU):cU:=λρ ω=>(fd ρ ω).bind λo ω1=>(a ρ ω1).bind λx Z=>(RS.Xf Z (rS x)).bind λk Z=>(RS.Xf Z (gO Z o)).bind λp Z=>RS.Xf Z (jc p.2 k)
def Et(hd:cy K E td fd)(t:cy K E tk fk):cy K E (Ms td tk) (pM fd fk):=by
 intro B T H Y ω ρ Q s e w;show hd B T H Y ω ρ _ s e (w.bind.imp λo X ω1 S e1 j g u r=>?_);show t B T S X ω1 ρ _ j (e.YD e1) (g.bind.imp λx U Z R e2 f b v p=>?_);let(k,m,b):=WS.Xf b;let((i,L),l,b):=WS.Xf b;let(_,a,ws,N,rfl,C,A):=kJ f (r.YD e2) l;dsimp only at b;cases q:jc L k with
 |none=>rw[q]at b;show b.elim
 |some y=>rw[q]at b;let(z,n,h):=(vo A).1 y q;show#[a,z,W,by rw[oz m p,<-n];show ab8.k C,WS.now f b z h]
def tm(fd e b:cU):di:=λρ ω=>(b ρ ω).bind λy ω1=>(fd ρ ω1).bind λo Z=>(e ρ Z).bind λx a=>(RS.Xf a (rS x)).bind λk a=>(RS.Xf a (gO a o)).bind λp a=>if p.2.length<1000000 then .ok (.nx ρ) (a.set p.1 (.dct (jh p.2 k y)))else .bad
def FP(hd:cy K E td fd)(N:cy K E tk fk)(L:cy K E tv fv):mW K E (LK td tk tv) (tm fd fk fv):=by
 intro B T H Y ω ρ D s g w;show L B T H Y ω ρ _ s g (WS.imp (WS.bind w) λy X ω1 S e1 F A n m=>?_);show hd B T S X ω1 ρ _ F (g.YD e1) (WS.imp (WS.bind A) λo U Z R e2 C t u M=>?_);show N B T R U Z ρ _ C (g.YD (e1.trans e2)) (WS.imp (WS.bind t) λx b e j e3 p f z J=>?_);let(k,I,f):=WS.Xf f;let((i,WH),G,f):=WS.Xf f;let(l,a,ws,ha,rfl,P,q):=kJ p (M.YD e3) G;dsimp only at f;by_cases hn:WH.length<1000000
 .rw[ax hn]at f;let ev:Ev (ow B b e) j (ow B b e) (aW j a (.dK (iJ ws k n))):=pp ha l (by nofun);let e4:X7 b e j b (e.set i (.dct (jh WH k y))) (aW j a (.dK (iJ ws k n))):=X7.put ha l (by nofun) (by nofun);let Q:=Paired.length q;show#[a,_,W,by rw[oz I J];show aeC.k P (sS ()),?_];show f b _ e4 (p.put ha l (by nofun) (by nofun) #[_,az,AU ((m.YD (e2.trans e3)).ev ev λ_ _ h=>h) (Paired.ZF q λ_ _ r=>#[r.1,r.2.ev ev λ_ _ h=>h])]) T ((g.YD (e1.trans (e2.trans e3))).YD e4)
 .rw[bb hn]at f;show f.elim
def sV(fd a:cU):cU:=λρ ω=>(fd ρ ω).bind λo ω1=>(RS.Xf ω1 (gO ω1 o)).bind λ_ ω1=>(a ρ ω1).bind λx Z=>(RS.Xf Z (rS x)).bind λk Z=>(RS.Xf Z (gO Z o)).bind λp Z=>(RS.Xf Z (jc p.2 k)).bind λy Z=>.ok y (Z.set p.1 (.dct (kK p.2 k)))
def GG(hd:cy K E td fd)(J:cy K E tk fk):cy K E (GJ td tk) (sV fd fk):=by intro B T H Y ω ρ Q s j w;show hd B T H Y ω ρ _ s j (w.bind.imp λo X ω1 S e1 m f u n=>?_);let((P,N),F,f):=WS.Xf f;let(_,a,e,_,rfl,g0,_):=kJ m n F;show#[a,W,.inl #[e,.inl g0],?_];show J B T S X ω1 ρ _ m (j.YD e1) (f.bind.imp λx U Z R e2 l b v I=>?_);let(k,C,b):=WS.Xf b;let((i,WH),A,b):=WS.Xf b;let(g,a',ws,ha,M,L,p):=kJ l (n.YD e2) A;ext M;dsimp only at b;let(y,q,b):=WS.Xf b;let(z,G,t):=(vo p).1 y q;let ev:Ev (ow B U Z) R (ow B U Z) (aW R a (.dK (lM ws k))):=pp ha g (by nofun);let e4:X7 U Z R U (Z.set i (.dct (kK WH k))) (aW R a (.dK (lM ws k))):=X7.put ha g (by nofun) (by nofun);show#[ws,k,z,L,oz C I,G,?_];show b U _ e4 (l.put ha g (by nofun) (by nofun) #[_,az,DW (Paired.ZF p λ_ _ r=>#[r.1,r.2.ev ev λ_ _ h=>h])]) z (t.YD e4)
def lj(s:WT B K H Y ω)(a:H p=P)(w:WS K E B H Y ω (PQ B K Q) (.ok (.rf ω.length) (ω++[c])))(f:∀e:X7 Y ω H (Y++[p]) (ω++[c]) (aW H p o),COk (ow B (Y++[p]) (ω++[c])) K (aW H p o) (Y++[p]) p c):Q (.ref p) (aW H p o):=by let b:XZ H (aW H p o):=bz a _;let e:X7 Y ω H (Y++[p]) (ω++[c]) (aW H p o):=X7.abK s.len b a;show w _ _ e (s.abK b a (by rw[az];simp) (f e)) _ #[p,by rw[<-s.len];show aO,W]
def wk(fd:cU):cU:=λρ ω=>(fd ρ ω).bind λo ω1=>(RS.Xf ω1 (gO ω1 o)).bind λp ω1=>.ok (.rf ω1.length) (ω1++[.lst (p.2.map (·.2))])
def Hn:∀{ws:G (bZ×V)} {b:G (bZ×SV)},vi O K H Y ws b->YI O K H Y (ws.map (·.2)) (b.map (·.2)):=by
 intro _ _ a
 induction a with
 |nil=>show .nil
 | @cons _ _ _ _ h t e=>show .cons h.2 (e)
def Hm(hd:cy K E td fd):cy K E (De DU (fV (S8 K "dict" Ml td) ja)) (wk fd):=by intro B T H Y ω ρ Q s m w;show hd B T H Y ω ρ _ s m (w.bind.imp λo X ω1 S e1 h f u t=>?_);let((i,N),q,f):=WS.Xf f;let(F,a,ws,L,rfl,g,C):=kJ h t q;show#[.inr (.inr (.inl #[W,.inl #[ws,g]])),a,ws,W,W,g,λp y=>?_];let b:XZ S (aW S p (TV p a)):=bz y _;let n:=h.grow b;let j:=WS.from (X7.same b) f;show#[p,a,ws,W,az,b _ _ g,λl A=>?_];show lj n A j λe=>#[_,az,Hn (Paired.ZF C λ_ _ r=>#[r.1,(r.2.YD (X7.same b)).YD e])]
def yZ:bZ->I Int
 |.inl i=>M i
 |.inr _=>P
def rK(fd:cU):cU:=λρ ω=>(fd ρ ω).bind λo ω1=>(RS.Xf ω1 (gO ω1 o)).bind λp ω1=>(RS.Xf ω1 (av yZ (p.2.map (·.1)))).bind λa ω1=>if a.length<64 then .ok (.rf ω1.length) (ω1++[.lst ((jw a).map λi=>SV.fz (.int i))])else .bad
theorem rq:∀{c:G bZ} {a:G Int},av yZ c=M a->c=a.map Sum.inl
 |[],_,e=>by ext e;rfl
 |k::r,a,e=>by
  unfold av at e;cases k with
  |inr x=>ext e
  |inl i=>
   dsimp only[yZ]at e;cases q:av yZ r with
   |none=>rw[q]at e;ext e
   |some b=>rw[q]at e;ext e;rw[Wv,<-rq q]
def Dm:∀{ws:G (bZ×V)} {b:G (bZ×SV)},vi O K H Y ws b->ws.map (·.1)=b.map (·.1):=by
 intro _ _ a
 induction a with
 |nil=>show W
 | @cons _ _ _ _ h t e=>rw[Wv,Wv,h.1,e]
theorem zk(O:bE)(K:lD)(H:Hp)(Y:G J):∀ns:G Int,YI O K H Y (ns.map V.int) (ns.map λi=>SV.fz (.int i))
 |[]=>.nil
 |n::r=>.cons (.int n) (zk O K H Y r)
def Gi(hd:cy K E td fd):cy K E (De yn (fV td ja)) (rK fd):=by
 intro B T H Y ω ρ Q s h w;show hd B T H Y ω ρ _ s h (w.bind.imp λo X ω1 S e1 g b u n=>?_);let((i,N),m,b):=WS.Xf b;let(C,a,ws,L,rfl,y,t):=kJ g n m;let(f,j,b):=WS.Xf b;by_cases hn:f.length<64
 .rw[ax hn]at b;show#[a,ws,f,W,y,by rw[Dm t];show rq j,hn,λl F r q p=>?_];let A:=jZ (q.trans (eB f).symm) p (dR f);subst A;show lj g r b λe=>#[_,az,zk _ _ _ _ _]
 .rw[bb hn]at b;show b.elim
def qJ:D->I (bZ×SV)
 |.tuple [.int i,d]=>M (.inl i,.fz d)
 |.tuple [.str x,d]=>M (.inr x,.fz d)
 |_=>P
def t9:SV->I (G (bZ×SV))
 |.fz (.tuple ds)=>av qJ ds
 |_=>P
def CY(e:t9 x=M o):∃ds,x=.fz (.tuple ds)/\av qJ ds=M o:=by
 unfold t9 at e;split at e
 .show#[_,W,e]
 .ext e
def kB(c a:G (bZ×SV)):G (bZ×SV):=a.foldl (λb e=>jh b e.1 e.2) c
def su(b:cU):cU:=λρ ω=>(b ρ ω).bind λx ω1=>(RS.Xf ω1 (t9 x)).bind λa ω1=>.ok (.rf ω1.length) (ω1++[.dct (kB [] a)])
theorem xp:∀{k:G V} {ds:G D} {j:G (bZ×SV)},L3.XS O K H k ds->av qJ ds=M j->∃g,abW K H k g/\vi O K H Y g j
 |_,_,_,.nil,e=>by ext e;show#[[],.nil,.nil]
 |_,_,_,.cons (d:=d) (ds:=ds) h t,e=>by
  unfold av at e;cases q:qJ d with
  |none=>rw[q]at e;ext e
  |some p=>
   rw[q]at e;dsimp only at e;cases i:av qJ ds with
   |none=>rw[i]at e;ext e
   |some j=>
    rw[i]at e;ext e;let(g,k1,k2):=xp t i;unfold qJ at q;split at q
    .ext q
     cases h with
     |tup h f=>cases f with
      |cons a b=>cases b with
       |cons b c=>ext c;ext a;show#[(.inl _,_)::g,.cons h.1 k1,.cons #[W,b] k2]
    .ext q
     cases h with
     |tup h f=>cases f with
      |cons a b=>cases b with
       |cons b c=>ext c;ext a;show#[(.inr _,_)::g,.cons h.1 k1,.cons #[W,b] k2]
    .ext q
theorem Ao:∀{e:G (bZ×V)} {f:G (bZ×SV)} {ws:G (bZ×V)} {c:G (bZ×SV)},vi O K H Y e f->vi O K H Y ws c->vi O K H Y (l4 ws e) (kB c f)
 |_,_,_,_,.nil,h=>h
 |(a,u)::e,(b,y)::f,_,_,.cons r t,h=>by let(i,g):=r;ext i;show vi O K H Y (l4 (iJ _ a u) e) (kB (jh _ a y) f);show Ao t (AU g h)
def Hf(l:cy K E o C):cy K E (De (xZ K) (fV o ja)) (su C):=by
 intro B T H Y ω ρ Q s f w;show l B T H Y ω ρ _ s f (w.bind.imp λx X ω1 S e1 g b u i=>?_);let(p,q,a):=WS.Xf b;let(ds,rfl,q):=CY q;let a:=a;cases i with
 |tup h j=>let(n,k1,k2):=xp j q;show#[_,_,n,W,h.1,k1,λd m=>lj g m a λe=>#[_,az,Ao (Paired.ZF k2 λ_ _ r=>#[r.1,r.2.YD e]) .nil]]
end
end L10
namespace PySem
open PyProof.Rows
def jy:I Int->Int->I Int
 |none,x=>M x
 |some m,x=>M (if x>m then x else m)
def SX:I (Int×Tok)->Array U
 |none=> #v[]
 |some (m,t)=> #v[.int m t,.int m t]
def MU(d:U):I (Int×Tok)->U
 |none=>d
 |some (m,t)=>.int m t
namespace F
def args_maxd(a b:U):checkBuiltinCall "max" #[[a],[("default",b)]]=pure ⟨⟩:=by kernel_rfl
end F
section
variable{prog:Wz}{w:WX}{A:WQ}{E:V5->We->Prop}{R:aaW->We->Prop}{I l S:Wd}{vs:b5 V5}{d:V5}
def Km(V:A.handled=Ld)(z:l≠I)(r:S≠I)(Q:S≠l){s:We}:
  ∀{C:b5 V5} {Z:b5 Int},IntsAre C Z->∀(i:Nat) (h:Heap) (N:Nat) (b:b7 (Int×Tok)) (c:Nat),vs=vs.take i++C->i<=vs.length->h.IsListIter I l i->h.IsList l vs.toArray->h.get? S=cL {cls:=.type "list",dict:=Ld,data:=.seq (SX b) c,slots:= #v[]}->
  (∀x N D,D.map (·.1)=Z.foldl jy (b.map (·.1))->(∀a o,a≠I->a≠S->h.get? a=cL o->x.get? a=cL o)->R (.ok (.ret (MU d D))) {s with heap:=x,toks:=N})->
  codeAny (model prog w) A (.builtin "max.loop" #[[.ref I,.none,.ref S],[("default",d)]]) R {s with heap:=h,toks:=N}:=by
 let W:=Walks.list (prog:=prog) (w:=w) (A:=A.in1) V I l z vs.toArray;intro C Z hi
 induction hi with
 |nil=>
  intro i h N b c u hi it li T M;let e:i=vs.toArray.size:=by rw[W5]at u;let:=d7 ZM u;rw[Xl]at this;rw[Ws];ext
  show Y2 F.entry_max_loop ?_;rw[WQ.under_plainId F.plain_max_loop _];show CL (XB T rfl ?_);show CL (aa0 (W.done _ _ _ (e▸#[it,li]) λx g y=>?_));let f:=y S _ (by simpa using r) T;cases b with
  |none=>show CL (aaA (Wf ?_));show M x g Ld rfl λa o j B e=>y a o (by simpa using j) e
  |some p=>let(m,t):=p;show CL (aaJ f rfl (CL (YQ (Wf ?_))) (hz:=by show 2<=Wm;decide));show M _ g (cL (m,t)) rfl λa o j B e=>(cn _ _ (dN B)).trans (y a o (by simpa using j) e)
 | @cons n t akm ahY hr ih=>
  intro i h N b c u hi it li T M;let ZK:i<vs.toArray.size:=by let:=d7 ZM u;rw[Wi,Xl,Wo]at this;rw[Ws];ext
  let O:vs[i]?=cL (.int n t):=by rw[u,WO (by rw[Xl];ext),Xl,afp hi,acW];rfl
  let G:vs=vs.take (i+1)++akm:=by rw[Y3,O];rw[Xb];show u
  let H:i+1<=vs.length:=by rw[Ws]at ZK;show ZK
  show Y2 F.entry_max_loop ?_;rw[WQ.under_plainId F.plain_max_loop _];show CL (XB T rfl ?_);show CL (aa0 (W.item i _ _ _ ZK #[it,li] λv x g hP L y=>?_));let ev:v=.int n t:=by let U:=hP;rw[List.getElem?_toArray,O]at U;show(Wt U).symm
  subst ev;let f:=y S _ (by simpa using r) T;let K:(toString "max"++toString ".loop":String)= "max.loop":=by decide
  cases b with
  |none=>
   show wpAny _ A.in1 (updateSeq S (λ_=> #v[V5.int n t,V5.int n t])>>=_) _ _ _;show CL (aaJ f rfl ?_);rw[K];show Wf #[YF F.plain_max_loop _,ih (i+1) _ g (cL (n,t)) _ G H (L.1.at λo e=>?_) (L.2.at λo e=>?_) (cv _ f rfl) λB q X e2 k2=>M B q X e2 λa o j J e=>k2 a o j J ((cn _ _ (dN J)).trans (y a o (by simpa using j) e))]
   .show(cn _ _ r).trans e
   .show(cn _ _ Q).trans e
  |some p=>
   let(m,t0):=p;show wpAny _ A.in1 (tryCatch (holding [V5.int n t,V5.int n t] (richCompare .Gt (V5.int n t) (V5.int m t0)>>=_)) _>>=_) _ _ _;let ali:=CmpOf.ints_gt (prog:=prog) (w:=w) (A:=A.in1) (P:=λ(k:Nat) v=>(k=0/\v=V5.int n t)\/(k=1/\v=V5.int m t0)) (λk=>if k=0 then n else m) λk v u=>by
    rcases u with⟨rfl,rfl⟩|⟨rfl,rfl⟩
    .show#[t,rfl]
    .show#[t0,rfl]
   show CL (aa0 (XN (CL (ali 0 1 _ _ _ _ _ (.inl #[rfl,rfl]) (.inr #[rfl,rfl]) ?_))));show CL (XN (XO ?_));show CL (YQ (Wf ?_));show wpAny _ A.in1 (if decide (n>m)=V6 then _ else _) _ _ _;by_cases Y:n>m
   .rw[ax (bg Y)]
    show CL (aaJ f rfl (CL (YQ ?_)) (hz:=by show 2<=Wm;decide));rw[K];show Wf #[YF F.plain_max_loop _,ih (i+1) _ g (cL (n,t)) _ G H (L.1.at λo e=>?_) (L.2.at λo e=>?_) (cv _ f rfl) λB q X e2 k2=>M B q X ?_ λa o j J e=>k2 a o j J ((cn _ _ (dN J)).trans (y a o (by simpa using j) e))]
    .show(cn _ _ r).trans e
    .show(cn _ _ Q).trans e
    .rw[e2];show _=ahY.foldl jy (cL (if n>m then n else m));rw[ax Y];rfl
   .rw[bb (by rw[bt Y];show Wr)];show CL (YQ ?_);rw[K];show Wf #[YF F.plain_max_loop _,ih (i+1) _ g (cL (m,t0)) c G H L.1 L.2 f λB q X e2 k2=>M B q X ?_ λa o j J e=>k2 a o j J (y a o (by simpa using j) e)];rw[e2];show _=ahY.foldl jy (cL (if n>m then n else m));rw[bb Y];rfl
def Cm(n:A.handled=P)(g:s.heap.IsList l vs.toArray)(r:IntsAre vs ns)
  (q:∀c k b,b.map (·.1)=ns.foldl jy P->(∀a o,s.heap.get? a=M o->c.get? a=M o)->Q (MU d b) {s with heap:=c,toks:=k}):
  wpAny (model prog w) A (call (.builtin "max") [.ref l] [("default",d)]) Q E s:=by
 let j:l<s.heap.objs.size:=by let(_,e,_):=g;show cc e
 let h:(toString "max"++toString ".loop":String)= "max.loop":=by decide
 show ZX (YR F.plain_max F.entry_max (acf (F.args_maxd _ _) ?_));show CL (acf (show Builtin.Builtins.bindParams "max" ["key","default"] 0 #[[],[("default",d)]]=pure [P,M d]from rfl) ?_);show CL (Wf ?_);show CL (ZI g ?_);show CL (Xu ?_);rw[h];let f:(s.heap.push {cls:=.type "list_iterator",data:=.fields #v[.ref l,.int 0 0]}).objs.size=s.heap.objs.size+1:=c9 _ _;show Wf #[YF F.plain_max_loop _,Km n (WG j) (by rw[f];show Nat.succ_ne_self _) (by rw[f];show Xn (ZS j)) r 0 _ s.toks P 0 W (W0 _) #[_,b9 _ (ck _ W),W,W] ((g.push _).push _) (ck _ W) λc k b p m=>?_];show q c k b p λa o e=>?_;let i:=cc e;show m a o (WG i) (by rw[f];show WG (ZS i)) (b9 _ (b9 _ e))
end
end PySem
namespace L10
open PySem PySem.Spec PyProof.Rows L2 L3
def Mj(K:lD)(i:Int):G V->Hp->VK->Prop:=λxs H Q=>∃(p:J) (a:G Int),xs=[.ref p]/\Z1 K H p (a.map V.int)/\Q (.int ((a.foldl jy P).getD i)) H
def Jt(E:X.calm=S)(C:Gl X "max")(hm:X.mg "max"=Ld)(c:PA X [l] ta)(g:N8 l=R:=by rfl):
  PE X (.Call (.Name "max" p) [l] [#[cL "default",.Constant (.int i) j p1,p2]] pos) (De (Mj X.K i) ta):=by
 intro e s n H Q I h;show XX (jA I C hm Mm (callWith_kw (bJ (c pos e s n H _ I h) λJ o #[Y,G,f,v,w]=>?_) (by rw[sE _ _ _ g];rfl) (by rw[sE _ _ _ g];rfl) W W));let(a,y,rfl,A,q):=w;let(u,rfl,r):=kq v;ext r;let(O,T,pl,M):=f.list A;show aid (afH (aie ?_));let P:=f.tok (o.toks+1);show Cm (f.ok.hd E) pl.isList (kR T) λN L b F B=>?_;show#[.int ((y.foldl jy Ld).getD i),G,f.kept B,?_,q];rw[<-F];cases b with
 |none=>show#[_,W]
 |some p=>let(m,t):=p;show#[t,W]
def zP(i:Int):G D->I RV
 |[.list ds]=>(mI ds).map λa=>.fz (.int ((a.foldl jy P).getD i))
 |_=>P
def Im{K:lD}:B2 K (Mj K i) (zP i):=by
 intro O H xs ds p Q n f e q;unfold zP at e;split at e
 .rename_i es
  cases f with
  |cons l j=>
   ext j;cases m:mI es with
   |none=>rw[m]at e;ext e
   |some b=>rw[m]at e;ext e;let(a,o,rfl,h,g):=AI l;obtain rfl:=oP g m;show#[a,b,W,h.sq,q.at (.int _)]
 .ext e
end L10
namespace L10
open PySem L2 L3
section
variable{B O O':bE}{K:lD}{E:XK}{H H' H1 H2:Hp}{X Y U α2:b5 Wd}{ω Z ω1 ω2:aJ}{σ:L2.St}{ρ:aP}{v:V}
def gu{l r:G A}(h:(l++r)[i]?=M y):l[i]?=M y\/∃j,i=l.length+j/\r[j]?=M y:=by
 by_cases hi:i<l.length
 .rw[Wn hi]at h;show .inl h
 .rw[WO ()]at h;show .inr #[i - l.length,by ext,h]
def HH{l r:G A}{i:Nat}(h:l[i]?=M y):(l++r)[i]?=M y:=by rw[Wn (Wb.mp h).1];show h
def D5{l r:G A}(h:r[i]?=M y):(l++r)[l.length+i]?=M y:=by rw[WO (),YZ];show h
def E8(g:X.length=ω.length)(h:Lv (X++o) (ω++cs) b):Lv X ω b\/b∈o:=by
 let(i,d,f,e,a):=h;rcases gu f with g1|⟨j,e1,g1⟩
 .rcases gu e with g2|⟨k,e2,g2⟩
  .show .inl #[i,d,g1,g2,a]
  .let:=(Wb.mp g1).1;ext
 .show .inr (WL g1)
theorem X7.acb(s:WT B K H X ω)(e:XZ H H')(f:∀p∈ps,H p=P):X7 X ω H (X++ps) (ω++cs) H':=
 #[λi a h=>HH h,λb u q _=>e b u q,λb z=>(E8 s.len z).imp id λz=>f b z]
def WT.acb(s:WT B K H X ω)(e:XZ H H')(f:∀p∈ps,H p=P)(m:∀p∈ps,H' p≠P)(nd:∀(i j:Nat) (a:J),ps[i]?=M a->ps[j]?=M a->i=j)(t:ps.length=cs.length)
  (new:∀(i:Nat) (a:J) (c:Cell),ps[i]?=M a->cs[i]?=M c->COk (ow B (X++ps) (ω++cs)) K H' (X++ps) a c):WT B K H' (X++ps) (ω++cs):=by
 let ev:X7 X ω H (X++ps) (ω++cs) H':=X7.acb s e f;let n:∀b,H b≠P->H' b≠P:=λb h z=>h (e.free z);show#[by rw[Wi,Wi,s.len,t],λi j a g l=>?_,λa h=>n a (s.bn a h),λa h i q=>?_,λi a h=>?_,λi a d g l=>?_]
 .rcases gu g with g1|⟨y,e1,g1⟩<;>rcases gu l with g2|⟨u,e2,g2⟩
  .show s.nd i j a g1 g2
  .show b4 (f a (WL g2)) (s.al i a g1)
  .show b4 (f a (WL g1)) (s.al j a g2)
  .let:=nd y u a g1 g2;ext
 .rcases gu q with q|⟨j,_,q⟩
  .show s.ba a h i q
  .show s.bn a h (f a (WL q))
 .rcases gu h with h|⟨j,_,h⟩
  .show n a (s.al i a h)
  .show m a (WL h)
 .let r:=s.len
  rcases gu l with g2|⟨j,e2,g2⟩
  .rcases gu g with g1|⟨k,e1,g1⟩
   .show(s.cel i a d g1 g2).ev ev.ev ev.pre λo q=>e _ _ q
   .let:=(Wb.mp g2).1;ext
  .rcases gu g with g1|⟨k,e1,g1⟩
   .let:=(Wb.mp g1).1;ext
   .let:k=j:=by ext
    subst this;show new k a d g1 g2
def C4(Z:aJ):Nat->G AV->I (G AV×G (G D)×G Nat)
 |_,[]=>M ([],[],[])
 |n,.fz d::r=>match C4 Z n r with
  |some (l,cs,a)=>M (.fz d::l,cs,a)
  |none=>P
 |n,.rf i::r=>match sh Z (.rf i)with
  |some (.list ds)=>(match C4 Z (n+1) r with
   |some (l,cs,a)=>M (.rf n::l,ds::cs,i::a)
   |none=>P)
  |_=>P
def TK(ds:G D):Cell:=.lst (ds.map .fz)
def oW(x:SV)(Z ω:aJ):RS SV:=match x with
 |.fz d=>.ok (.fz d) ω
 |.rf i=>(match sh Z (.rf i)with
  |some (.list ds)=>ky ω (.ow ds)
  |_=>.bad)
 |.tp l=>(match C4 Z ω.length l with
  |some (a,cs,b)=>if b.Nodup then .ok (.tp a) (ω++cs.map TK)else .bad
  |none=>.bad)
def oE(h:sh ω (.rf i)=M (.list ds)):∃xs,ω[i]?=M (.lst xs)/\av ve xs=M ds:=by
 unfold sh at h;dsimp only at h;cases q:ω[i]? with
 |none=>rw[q]at h;ext h
 |some c=>
  rw[q]at h;cases c with
  |lst xs=>
   dsimp only at h;cases a:av ve xs with
   |none=>rw[a]at h;ext h
   |some es=>rw[a]at h;ext h;show#[xs,W,a]
  |_=>ext h
def gI(s:WT B K H X ω)(h:sh ω (.rf i)=M (.list ds)):∃a c,X[i]?=M a/\H a=M (.lst c)/\L3.XS (ow B X ω) K H c ds/\ow B X ω a:=by let(xs,b,f):=oE h;let(a,l):=s.at b;let(c,j,g):=s.cel i a _ l b;show#[a,c,l,j,iQ (bW (R:=Y0 (ow B X ω) K H X) (λv x y r e=>yt r e) g f),.inr #[i,_,l,b,by intro z;ext z]]
def Tt{o:bE}(s:WT o K H' Y Z):∀{n:Nat} {l u:b5 AV} {cs:b5 (b5 D)} {g:b5 Nat} {xs:b5 V},C4 Z n l=cL (u,cs,g)->Paired (AOk (ow o Y Z) K H' Y) xs l->
  ∃c:b5 Wd,c.length=g.length/\cs.length=g.length/\(∀(k j:Nat),g[k]?=cL j->∃a ds z,c[k]?=cL a/\cs[k]?=cL ds/\Y[j]?=cL a/\H' a=cL (.lst z)/\L3.XS (ow o Y Z) K H' z ds/\ow o Y Z a)/\
   ∀(b:b5 Wd),b.length=n->Paired (AOk (ow o Y Z) K H' (b++c)) xs u:=by
 intro n l u cs g xs e p
 induction p generalizing n u cs g with
 |nil=>ext e;show#[[],W,W,λk j h=>by simp at h,λb _=>.nil]
 | @cons _ x _ r h t T=>
  cases x with
  |fz d=>
   unfold C4 at e;cases q:C4 Z n r with
   |none=>rw[q]at e;ext e
   |some p=>let(J,G,w):=p;rw[q]at e;ext e;let(c,F,C,A,y):=T q;show#[c,F,C,A,λb f=>.cons h (y b f)]
  |rf i=>
   unfold C4 at e;cases Q:sh Z (.rf i)with
   |none=>rw[Q]at e;ext e
   |some d=>
    rw[Q]at e;cases d with
    |list ds=>
     dsimp only at e;cases q:C4 Z (n+1) r with
     |none=>rw[q]at e;ext e
     |some p=>
      let(J,G,w):=p;rw[q]at e;ext e;let(c,F,C,A,y):=T q;let(a,z,ha,L,N,M):=gI s Q;show#[a::c,by rw[Wo,Wo,F],by rw[Wo,Wo,C],λk j I=>?_,λb f=>?_]
      .cases k with
       |zero=>ext I;show#[a,ds,z,W,W,ha,L,N,M]
       |succ k=>show A k j (by simpa using I)
      .let e2:b++a::c=(b++[a])++c:=by simp
       let(P,m,rfl):=h;rw[ha]at m;ext m;show .cons #[a,by rw[<-f];show D5 (l:=b) (r:=a::c) (i:=0) W,W] ?_;rw[e2];show y (b++[a]) (by rw[Wi,f];rfl)
    |_=>ext e
def Bx(s:WT B K H X ω)(w:WS K E B H X ω (PQ B K Q) (oW x Z ω))(D:X7 [] [] H Y Z H')(G:WT (ow B X ω) K H' Y Z)(J:Y0 (ow (ow B X ω) Y Z) K H' Y v x):Q v H':=by
 let C:=λb o h=>D.kp b o h λ#[i,c,q,_]=>by simp at q
 let sub:∀b,ow B X ω b->ow (ow B X ω) Y Z b:=λb z=>.inl z;let fr:=λi a c R h2 h3=>(D.lv a #[i,c,R,h2,h3]).elim (λ#[i,c,q,_]=>by simp at q) id;cases x with
 |fz d=>show w X H' (X7.same C) (s.grow C) v (DV.ev (Ev.sub sub) J)
 |rf i=>
  unfold oW at w;dsimp only at w;cases qs:sh Z (.rf i)with
  |none=>rw[qs]at w;show w.elim
  |some d=>
   rw[qs]at w;cases d with
   |list ds=>let(a,vs,ha,R,hd,M):=gI G qs;let(xs,e,_):=oE qs;let(a',F,rfl):=J;rw[ha]at F;ext F;show qh s w C (fr i a _ ha e (by nofun)) R hd sub M
   |_=>show w.elim
 |tp l=>
  unfold oW at w;dsimp only at w;cases qg:C4 Z ω.length l with
  |none=>rw[qg]at w;show w.elim
  |some p=>
   let(l',cs,I):=p;rw[qg]at w;dsimp only at w;by_cases hn:I.Nodup
   .rw[ax hn]at w
    let(a,xs,rfl,ht,hl):=J;let(ps,g1,g2,g3,g4):=Tt G qg hl;let A:∀(k:Nat) (b:Wd),ps[k]?=cL b->∃j ds vs,I[k]?=cL j/\cs[k]?=cL ds/\Y[j]?=cL b/\H' b=cL (.lst vs)/\L3.XS (ow (ow B X ω) Y Z) K H' vs ds/\ow (ow B X ω) Y Z b:=λk b hb=>by
     let f:k<I.length:=by rw[<-g1];show(Wb.mp hb).1
     let(b',ds,vs,e,y,u,m,t,g):=g3 k _ (Ww f);rw[hb]at e;ext e;show#[_,ds,vs,Ww f,y,u,m,t,g]
    let nB:∀(j:Nat) (b:Wd),Y[j]?=cL b->ow (ow B X ω) Y Z b->H b=Ld:=λj b N M=>by
     rcases M with z|⟨i,c,z1,z2,z3⟩
     .show b4 N (G.ba b z j)
     .show fr i b c z1 z2 z3
    let fp:∀p∈ps,H p=Ld:=λp L=>by let(k,f):=Xi.mp L;let(j,ds,vs,e,y,u,m,t,g):=A k p f;show nB j p u g
    let n:∀b,ow B (X++ps) (ω++cs.map TK) b->ow (ow B X ω) Y Z b:=λb z=>by
     rcases z with z|z
     .show .inl (.inl z)
     .rcases E8 s.len z with z|z
      .show .inl (.inr z)
      .let(k,f):=Xi.mp z;let(j,ds,vs,e,y,u,m,t,g):=A k b f;show g
    let ev:=X7.acb (cs:=cs.map TK) s C fp;show w (X++ps) H' ev (s.acb C fp (λp L=>?_) (λi j b hi N=>?_) (by rw[V9,g1,g2]) λi b c hi T=>?_) (.ref a) #[a,xs,W,ht.ev (Ev.sub n),Paired.ZF (g4 X s.len) λ_ _ r=>r.ev (Ev.sub n) λ_ _ h=>h]
    .let(k,f):=Xi.mp L;let(j,ds,vs,e,y,u,m,t,g):=A k p f;rw[m];simp
    .let(j1,_,_,S,_,p3,_):=A i b hi;let(j2,_,_,r1,_,r3,_):=A j b N;let:=G.nd j1 j2 b p3 r3;subst this;let P:=(Wb.mp S).1;show(aea P hn).mp (S.trans r1.symm)
    .let(j,ds,vs,e,y,u,m,t,g):=A i b hi;rw[Wl,y]at T;ext T;show#[vs,m,i6 _ _ (t.ev (Ev.sub n))]
   .rw[bb hn]at w;show w.elim
def lK(F:fy)(n:Nat)(xs:G SV)(ω:aJ):RS SV:=if xs.length=n then(match av ve xs with
 |some ds=>(match F (ds.map .fz) []with
  |.ok x Z=>oW x Z ω
  |.er x _=>.er x ω
  |.bad=>.bad)
 |none=>.bad)else .bad
def pY(F:fy)(n:Nat)(a:sJ):cU:=λρ ω=>(a ρ ω).bind λxs ω1=>ku (lK F n xs ω1)
theorem yj(h:∀a,B a->H a≠P):WT B K H [] []:=#[W,λi j a h=>by simp at h,h,λa h i=>by simp,λi a h=>by simp at h,λi a c h=>by simp at h]
theorem Ap:∀{xs:G SV} {ds:G D},av ve xs=M ds->xs=ds.map .fz
 |[],_,e=>by ext e;rfl
 |x::r,ds,e=>by
  unfold av at e;cases x with
  |fz d=>
   dsimp only[ve]at e;cases q:av ve r with
   |none=>rw[q]at e;ext e
   |some es=>rw[q]at e;ext e;rw[Wv,<-Ap q]
  |rf i=>ext e
  |tp l=>ext e
def wI(s:WT B K H X ω)(e:YI (ow B X ω) K H X C xs)(w:WS K E B H X ω (PQ B K Q) (lK F n xs ω)):jR K n F C H Q E:=by
 unfold lK at w;by_cases hn:xs.length=n
 .rw[ax hn]at w
  show#[e.length.trans hn,?_];cases q:av ve xs with
  |none=>rw[q]at w;show w.elim
  |some ds=>
   rw[q]at w;dsimp only at w;let l:=Ap q;show#[ow B X ω,[],[],ds.map .fz,yj s.owd,?_,?_]
   .rw[l]at e;show i6 _ _ ((Hl e).ev (Ev.sub λb z=>z.elim id λ#[i,c,q,_]=>by simp at q))
   .cases m:F (ds.map .fz) []with
    |bad=>rw[m]at w;show w.elim
    |ok x Z=>rw[m]at w;show λY H' f j v a=>Bx s w f j a
    |er x Z=>
     rw[m]at w;intro c p Y H' f j k;let g:=λb o h=>f.kp b o h λ#[i,c,q,_]=>by simp at q
     show w c p X H' (X7.same g) (s.grow g) (XOk.sub (λb z=>.inl z) k)
 .rw[bb hn]at w;show w.elim
def CV(c:sD K E o C):cy K E (jo (jR K n F) [] E0 o) (pY F n C):=by intro B σ H X ω ρ Q s b w;show c B σ H X ω ρ _ s b (w.bind.imp λxs U ω1 H1 e1 e a g f=>?_);rw[W5];show wI e f (WS.e0 a)
def Ri(F:fy):FN:=λds=>match F (ds.map .fz) []with
 |.ok (.fz d) _=>.ok (.fz d)
 |.ok (.rf i) ω=>(match sh ω (.rf i)with
  |some (.list ds)=>.ok (.ow ds)
  |_=>.bad)
 |.ok (.tp _) _=>.bad
 |.er x _=>.er x
 |.bad=>.bad
def OM(h:y1 K n (Ri F) vs H Q E):jR K n F vs H Q E:=by
 let(u,B,ds,A,G,w):=h;show#[u,B,[],[],ds.map .fz,yj A,i6 _ _ (G.ev (Ev.sub λb z=>z.elim id λ#[i,c,q,_]=>by simp at q)),?_];unfold Ri at w;cases N:F (ds.map .fz) []with
 |bad=>rw[N]at w;show w.elim
 |er x Z=>rw[N]at w;intro c dx Y H' f j k;show w c dx H' (λb o h=>f.kp b o h λ#[i,c,q,_]=>by simp at q) (XOk.sub (λb z=>.inl z) k)
 |ok x Z=>
  rw[N]at w;intro Y H' f j v m;let g:=λb o h=>f.kp b o h λ#[i,c,q,_]=>by simp at q
  cases x with
  |fz d=>show w v H' g (DV.ev (Ev.sub λb z=>.inl z) m)
  |tp l=>show w.elim
  |rf i=>
   dsimp only at w;cases L:sh Z (.rf i)with
   |none=>rw[L]at w;show w.elim
   |some d=>
    rw[L]at w;cases d with
    |list es=>let(a,p,T,C,y,t):=gI j L;let(xs,r,_):=oE L;let(I,e,rfl):=m;rw[T]at e;ext e;show w a p H' g ((f.lv a #[i,_,T,r,by intro z;ext z]).elim (λ#[i,c,q,_]=>by simp at q) id) C (y.ev (Ev.sub λb z=>z.elim (λz=>.inl z) λz=>by rw[z];show t))
    |_=>show w.elim
end
def mx(P:Wz)(w:WX)(K:lD)(c:Str->I U)(base:Heap)(a:tS)(k:Nat)(C m:Str)(b:G Str)(sp:Sp):Prop:=
 ∃Ca f fd,WI K Wx C=M (M (.ref Ca))/\Cls K Ca/\Meth K Ca m f/\FnOk P w K c base a k f fd b sp/\Binds K fd b []
def wU(P:Wz)(w:WX)(K:lD)(c:Str->I U)(base:Heap)(a:tS)(k:Nat)(C:Str)(b:G Str)(sp:Sp):Prop:=
 ∃Ca f fd,WI K Wx C=M (M (.ref Ca))/\c C=M (.ref Ca)/\Mk K Ca f/\FnOk P w K c base a k f fd b sp/\Binds K fd b []
def l7(K:lD)(C m:Str)(sp:Sp)(E:XK)(b:TE)(t:TA):TE:=λa H Q=>∃Ca,WI K Wx C=M (M (.ref Ca))/\sr Ca m sp [] E b t a H Q
def xH(K:lD)(C:Str)(sp:Sp)(E:XK)(t:TA):TE:=λa H Q=>∃Ca,WI K Wx C=M (M (.ref Ca))/\we Ca sp [] E t a H Q
section
variable{X:Cx}{Y:tS}{E:XK}{k j:Nat}{C m:Str}{ps:b5 Str}{sp:Sp}{o e:Wy}{es:b5 Wy}{ta:TE}{t:TA}{Z T p:Pos}
def Tq(M:mx X.prog X.w X.K X.mg X.base Y k C m ps sp)(n:dX Y X E)(r:X9 j X.A)(u:PE X o ta)(c:PA X (e::es) t)(g:k<=j:=by decide)
  (db:Wu (e::es) X.env=(R,eval e X.env)::Wu es X.env:=by rfl) (b:(backTo T (Wu es X.env)).any (·.1)=R:=by rfl)
  (q:eval (.Call (.Attribute o m Z) (e::es) [] T) X.env=(do
   let ov<-eval o X.env
   standAt Z.atName
   let(f,first)<-holding [ov] (getMethod ov m pl)
   callWith T f first (backTo T (Wu (e::es) X.env)) (backToKw T (keywordEach [] X.env))):=by rfl):PE X (.Call (.Attribute o m Z) (e::es) [] T) (l7 X.K C m sp E ta t):=by
 let(Ca,f,J,G,F,B,y,v):=M;intro a s l H Q I #[L,i,h];rw[G]at i;ext i;show J0 u F B y (r.mono g) v .nil n c db b q a s l H Q I h
def PH(M:mx X.prog X.w X.K X.mg X.base Y k C m ps sp)(l:dX Y X E)(q:X9 j X.A)(r:PE X o ta)(b:k<=j:=by decide)
  (n:eval (.Call (.Attribute o m Z) [] [] T) X.env=(do
   let ov<-eval o X.env
   standAt Z.atName
   let(f,first)<-holding [ov] (getMethod ov m pl)
   callWith T f first (backTo T (Wu [] X.env)) (backToKw T (keywordEach [] X.env))):=by rfl):PE X (.Call (.Attribute o m Z) [] [] T) (l7 X.K C m sp E ta ja):=by
 let(Ca,f,G,F,B,y,v,u):=M;intro a s i H Q I #[A,g,h];rw[F]at g;ext g;show Gy r B y v (q.mono b) u .nil l n a s i H Q I h
def L6(M:wU X.prog X.w X.K X.mg X.base Y k C ps sp)(q:dX Y X E)(r:X9 j X.A)(c:PA X (e::es) t)(g:k+1<=j:=by decide)(u:Gl X C:=by rfl)
  (i:(C==("__debug__":Str))=R:=by decide) (v:Wu (e::es) X.env=(R,eval e X.env)::Wu es X.env:=by rfl) (b:(backTo T (Wu es X.env)).any (·.1)=R:=by rfl):
  PE X (.Call (.Name C p) (e::es) [] T) (xH X.K C sp E t):=by
 let(Ca,f,L,J,G,F,B,y):=M;intro a s n H Q I #[N,l,h];rw[J]at l;ext l;show KC F B (r.mono g) u G y .nil q c i v b a s n H Q I h
end
section
variable{K:lD}{E:XK}{C m:Str}{F:fy}{n:Nat}{to:TE}{Y:TA}{T:cU}{X:sJ}{L:b5 Str}
def No(a:kh K C L)(f:cy K E to T)(c:sD K E Y X):cy K E (l7 K C m (jR K n F) E to Y) (nz C m F n T X):=by let(Ca,a,_):=a;show λB b H α g h Q s e w=>#[Ca,a,EU a f c B b H α g h Q s e w]
def zC(a:kh K C L)(f:cy K E to T)(c:sD K E Y X):cy K E (l7 K C m (jR K n F) E0 to Y) (aI C m F n T X):=by let(Ca,a,_):=a;show λB b H α g h Q s e w=>#[Ca,a,Cp a f c B b H α g h Q s e w]
def QA(a:kh K C L)(c:sD K E Y X):cy K E (xH K C (jR K n F) E Y) (BV C F n X):=by let(Ca,a,_):=a;show λB b H α f g Q s e w=>#[Ca,a,Ie a c B b H α f g Q s e w]
def JD(a:kh K C L)(c:sD K E Y X):cy K E (xH K C (jR K n F) E0 Y) (rQ C F n X):=by let(Ca,a,_):=a;show λB b H α f g Q s e w=>#[Ca,a,D0 a c B b H α f g Q s e w]
end
section
variable{ρ ρ1 B:aP}{X Y Z T A:aJ}{x y z:SV}{i n:Nat}{d Q L:D}{ds:b5 D}{b:Bool}
def aV(h:ρ[i]?=M (M x)):am i ρ X=.ok x X:=by ext am;rw[h]
def af(h:f (bO ρ)=.ok (.fz d,ρ')):ae f ρ X=.ok (.fz d) X:=by ext ae;rw[h]
def dL(h:f (bO ρ)=.ok (.ow ds,ρ')):ae f ρ X=.ok (.rf X.length) (X++[.lst (ds.map .fz)]):=by ext ae;rw[h];rfl
def a9(h:f (bO ρ)=.ok (b,o)):bj f ρ X=.ok b X:=by ext bj;rw[h]
def qj(h:f (bO ρ)=.ok (ds,o)):lJ f ρ X=.ok ds X:=by ext lJ;rw[h]
def fZ(g:e ρ X=.ok (.rf i) Y)(h:Y[i]?=M (.obj C fs))(a:fs.lookup f=M x):aN C f e ρ X=.ok x Y:=by ext aN;rw[g,eh];dsimp only;rw[h];dsimp only;rw[ax W,a];rfl
def cF(c:o ρ X=.ok x Y)(e:fb ρ Y=.ok y Z)(a:qN f x y Z=.ok z T):jp f o fb ρ X=.ok z T:=by ext jp;rw[c,eh,e,eh,a]
def bL(h:f Q L=M (.fz d)):qN f (.fz Q) (.fz L) X=.ok (.fz d) X:=by ext qN;show((RS.Xf X (f Q L)).bind λa Y=>ky Y a)=_;rw[h];rfl
def uz(e:sh X x=M Q)(a:sh X y=M L)(h:f Q L=M (.fz d)):qN f x y X=.ok (.fz d) X:=by ext qN;rw[e,a];show((RS.Xf X (f Q L)).bind λg Y=>ky Y g)=_;rw[h];rfl
theorem lH:∀ds:G D,av ve (ds.map .fz)=M ds
 |[]=>rfl
 |d::r=>by rw[Wv];ext av;rw[lH r];rfl
def gf(h:X[i]?=M (.lst (ds.map .fz))):sh X (.rf i)=M (.list ds):=by ext sh;dsimp only;rw[h];dsimp only;rw[lH];rfl
def aM(h:o ρ X=.ok (.fz (.bool b)) Y):aX o ρ X=.ok b Y:=by ext aX;rw[h];rfl
def iE(h:o ρ X=.ok S Y)(k:fb ρ Y=r):kY o fb ρ X=r:=by ext kY;rw[h,eh,ax W,k]
def gD(h:o ρ X=.ok R Y):kY o fb ρ X=.ok R Y:=by ext kY;rw[h,eh,bb Wr]
def pN(h:o ρ X=.ok S Y):zx o fb ρ X=.ok S Y:=by ext zx;rw[h,eh,ax W]
def iG(h:o ρ X=.ok R Y)(k:fb ρ Y=r):zx o fb ρ X=r:=by ext zx;rw[h,eh,bb Wr,k]
def lV(h:o ρ X=.ok b Y):n6 o ρ X=.ok (!b) Y:=by ext n6;rw[h];rfl
def C0(h:aX o ρ X=.ok S Y)(k:fb ρ Y=r):xF o fb ρ X=r:=by ext xF;rw[h,eh,ax W,k]
def CZ(h:aX o ρ X=.ok R Y):xF o fb ρ X=.ok (.fz (.bool R)) Y:=by ext xF;rw[h,eh,bb Wr]
def Bq(h:c ρ X=.ok S Y)(k:o ρ Y=r):Fi c o fb ρ X=r:=by ext Fi;rw[h,eh,ax W,k]
def zU(h:c ρ X=.ok R Y)(k:fb ρ Y=r):Fi c o fb ρ X=r:=by ext Fi;rw[h,eh,bb Wr,k]
theorem aG:aH ρ X=.ok [] X:=W
def aj(c:o ρ X=.ok x Y)(a:fr ρ Y=.ok xs Z):ah o fr ρ X=.ok (x::xs) Z:=by ext ah;rw[c,eh,a,eh]
def u6(c:o ρ X=.ok (ds.map .fz) Y)(a:ds.length<=1000):kE o ρ X=.ok (.fz (.tuple ds)) Y:=by ext kE;rw[c,eh,V9,ax a];ext TB;rw[lH];rfl
def MM(c:o ρ X=.ok xs Y)(a:xs.length<=1000)(f:av ve xs=P)(e:av TZ xs=M l):kE o ρ X=.ok (.tp l) Y:=by ext kE;rw[c,eh,ax a];ext TB;rw[f];dsimp only;rw[e];rfl
def Bf(c:o ρ X=.ok xs Y)(a:av (sh Y) xs=M ds)(h:f ds=M (.fz d)):Db f o ρ X=.ok (.fz d) Y:=by ext Db;rw[c,eh];ext Oe;rw[a];show((RS.Xf Y (f ds)).bind λe Y=>ky Y e)=_;rw[h];rfl
def zd(e:o ρ X=.ok (ds.map .fz) Y)(c:ds.length=n)(a:F ds=.ok (.fz d)):ic F n o ρ X=.ok (.fz d) Y:=by ext ic;rw[e,eh];ext wG;rw[V9,ax c,lH];dsimp only;rw[a];rfl
def vn(e:o ρ X=.ok (ds.map .fz) Y)(c:ds.length=n)(a:F ds=.ok (.ow es)):ic F n o ρ X=.ok (.rf Y.length) (Y++[.lst (es.map .fz)]):=by ext ic;rw[e,eh];ext wG;rw[V9,ax c,lH];dsimp only;rw[a];rfl
theorem xb:ku (RS.ok a X)=.ok a X:=W
def Az(e:o ρ X=.ok (.rf i) Y)(f:Y[i]?=M (.obj C fs))(hm:fs.lookup m=P)(h:fa ρ Y=.ok xs Z)(c:(SV.rf i::xs).length=n)(g:F (.rf i::xs) Z=.ok x T):aI C m F n o fa ρ X=.ok x T:=by
 let a:kr Y C m (.rf i)=S:=by ext kr;dsimp only;rw[f];dsimp only;rw[hm,bg W];rfl
 ext aI;rw[e,eh,ax a,h,eh,ax c,g];rfl
def OP(e:o ρ X=.ok xs Y)(c:(SV.rf Y.length::xs).length=n)(a:F (.rf Y.length::xs) (Y++[.obj C []])=.ok (.fz .none) Z):rQ C F n o ρ X=.ok (.rf Y.length) Z:=by ext rQ;rw[e,eh];ext sI;rw[ax c,a,eh,ax (show B4 (.fz .none)=S from rfl)];rfl
def cJ(c:o ρ X=.ok (.fz Q) Y)(a:fb ρ Y=.ok (.fz L) Z)(h:aQ Q L=M (.fz d)):iS o fb ρ X=.ok (.fz d) Z:=by ext iS;rw[c,eh,a,eh];show bL h
def kG(a:fo ρ X=.ok (.rf i) Y)(h:Y[i]?=M (.lst xs))(f:fe ρ Y=.ok x Z)(g:Z[i]?=M (.lst ys))(e:ys.length<1000000):ki fo fe ρ X=.ok (.fz .none) (Z.set i (.lst (ys++[x]))):=by
 let e1:gL Y (.rf i)=M (i,xs):=by ext gL;dsimp only;rw[h]
 let e2:gL Z (.rf i)=M (i,ys):=by ext gL;dsimp only;rw[g]
 ext ki;rw[a,eh,e1];show((fe ρ Y).bind _)=_;rw[f,eh,e2];show(if ys.length<1000000 then _ else _)=_;rw[ax e]
def kM(h:X[i]?=M (.dct o)):gO X (.rf i)=M (i,o):=by ext gO;dsimp only;rw[h]
def xY(a:o ρ X=.ok x Y)(hd:fd ρ Y=.ok (.rf i) Z)(f:rS x=M k)(e:Z[i]?=M (.dct C)):r9 neg o fd ρ X=.ok (.fz (.bool ((jc C k).isSome !=neg))) Z:=by ext r9;rw[a,eh,hd,eh,f];show((RS.Xf Z (gO Z (.rf i))).bind _)=_;rw[kM e];rfl
def Ii(hd:fd ρ X=.ok (.rf i) Y)(a:C ρ Y=.ok x Z)(g:rS x=M k)(f:Z[i]?=M (.dct o))(e:jc o k=M y):pM fd C ρ X=.ok y Z:=by ext pM;rw[hd,eh,a,eh,g];show((RS.Xf Z (gO Z (.rf i))).bind _)=_;rw[kM f];show RS.Xf Z (jc o k)=_;rw[e];rfl
def Kw(a:C ρ X=.ok y Y)(hd:fd ρ Y=.ok (.rf i) Z)(f:fk ρ Z=.ok x T)(h:rS x=M k)(g:T[i]?=M (.dct o))(e:o.length<1000000):tm fd fk C ρ X=.ok (.nx ρ) (T.set i (.dct (jh o k y))):=by ext tm;rw[a,eh,hd,eh,f,eh,h];show((RS.Xf T (gO T (.rf i))).bind _)=_;rw[kM g];show(if o.length<1000000 then _ else _)=_;rw[ax e]
def Jm(hd:fd ρ X=.ok (.rf i) Y)(h:Y[i]?=M (.dct akN))(a:C ρ Y=.ok x Z)(g:rS x=M k)(f:Z[i]?=M (.dct o))(e:jc o k=M y):sV fd C ρ X=.ok y (Z.set i (.dct (kK o k))):=by ext sV;rw[hd,eh,kM h];show((C ρ Y).bind _)=_;rw[a,eh,g];show((RS.Xf Z (gO Z (.rf i))).bind _)=_;rw[kM f];show((RS.Xf Z (jc o k)).bind _)=_;rw[e];rfl
def JT(hd:fd ρ X=.ok (.rf i) Y)(h:Y[i]?=M (.dct o)):wk fd ρ X=.ok (.rf Y.length) (Y++[.lst (o.map (·.2))]):=by ext wk;rw[hd,eh,kM h];rfl
def HP(hd:fd ρ X=.ok (.rf i) Y)(h:Y[i]?=M (.dct o))(e:av yZ (o.map (·.1))=M ns)(a:ns.length<64):rK fd ρ X=.ok (.rf Y.length) (Y++[.lst ((jw ns).map λi=>SV.fz (.int i))]):=by ext rK;rw[hd,eh,kM h];show((RS.Xf Y (av yZ (o.map (·.1)))).bind _)=_;rw[e];show(if ns.length<64 then _ else _)=_;rw[ax a]
def Ll(a:C ρ X=.ok x Y)(h:t9 x=M o):su C ρ X=.ok (.rf Y.length) (Y++[.dct (kB [] o)]):=by ext su;rw[a,eh,h];rfl
variable{v:FlS}{r:RS FlS}
def cA(h:f ρ X=.ok (.nx ρ1) Y)(k:g ρ1 Y=r):aD f g ρ X=r:=by ext aD;rw[h,eh];show k
def my(h:f ρ X=.ok (.rt x) Y):aD f g ρ X=.ok (.rt x) Y:=by ext aD;rw[h];rfl
def eX(h:c ρ X=.ok S Y)(k:f ρ Y=r):bT c f g ρ X=r:=by ext bT;rw[h,eh,ax W,k]
def gH(h:c ρ X=.ok R Y)(k:g ρ Y=r):bT c f g ρ X=r:=by ext bT;rw[h,eh,bb Wr,k]
def ir(h:f ρ X=.ok x Y):fW f ρ X=.ok (.rt x) Y:=by ext fW;rw[h];rfl
def fP(h:f ρ X=.ok x Y):bf f ρ X=.ok (.nx ρ) Y:=by ext bf;rw[h];rfl
def vg(h:f ρ X=.ok x Y)(e:ρ.set i (M x)=ρ1):bX f (eK i) ρ X=.ok (.nx ρ1) Y:=by subst e;ext bX;rw[h];rfl
theorem gq:b6 ρ X=.ok (.nx ρ) X:=W
def mi(h:fe ρ X=.ok x Y)(a:o ρ Y=.ok (.rf i) Z)(j:Z[i]?=M (.obj C fs))(g:fs.length<100):eO C f o fe ρ X=.ok (.nx ρ) (Z.set i (.obj C (gU f x fs))):=by
 let e:G4 Z C (.rf i)=M (i,fs):=by ext G4;dsimp only;rw[j];dsimp only;rw[ax W]
 ext eO;rw[h,eh,a,eh,e];show(if fs.length<100 then _ else _)=_;rw[ax g]
def kI(h:f ρ X=.ok x Y)(k:frz 4 Y x=M (d,Z)):kW f ρ X=.ok (.fz d) Z:=by ext kW;rw[h,eh];ext Qx;rw[k]
def i8(e:xs.map M++Wk (N - xs.length) P=ρ)(h:g ρ X=.ok (.rt x) Y):cj N g xs X=.ok x Y:=by subst e;ext cj;rw[h];rfl
def lG(e:xs.map M++Wk (N - xs.length) P=ρ)(h:g ρ X=.ok (.nx ρ1) Y):cj N g xs X=.ok (.fz .none) Y:=by subst e;ext cj;rw[h];rfl
end
section
variable{ρ X L:aP}{Y ω1 Z ω3 ω4:aJ}{x y z:SV}{i n:Nat}{d dx dy:D}{ds:b5 D}{b:Bool}
theorem mw(e:α->D)(f:α->SV)(Y:aJ)(I:aP->Prop):∀(xs:G α) (ρ:aP) (acc:G SV),I ρ->acc.length+xs.length<=1000000->(∀x∈xs,∀ρ,I ρ->∃c,gt (.fz (e x)) ρ Y=.ok c Y/\C c Y=.ok S Y/\fe c Y=.ok (f x) Y/\I c)->dG gt C fe (xs.map e) ρ Y acc=.ok (acc++xs.map f) Y
 |[],ρ,acc,_,_,_=>by show RS.ok acc Y=_;rw[Zv,W5]
 |x::r,ρ,acc,h0,o,m=>by let(c,l,j,h,g):=m x Wh ρ h0;rw[Wo]at o;show((gt (.fz (e x)) ρ Y).bind _)=_;rw[l,eh,j,eh,ax W,h,eh,ax (),mw e f Y I r c _ g (by rw[Wi,Zf];ext) λy a=>m y (Wj _ a),Xb];rfl
def zn(c:fi ρ Y=.ok ds ω1)(a:dG gt o fe ds (nI n C ρ) ω1 []=.ok xs Z):mZ n C fi gt o fe ρ Y=.ok (.rf Z.length) (Z++[.lst xs]):=by ext mZ;rw[c,eh,a,xb,eh]
theorem tP(m:Nat):∀(ds:G D),n9 (frz m) Y (ds.map .fz)=M (ds,Y)
 |[]=>rfl
 |d::r=>by rw[Wv];ext n9;rw[show frz m Y (.fz d)=M (d,Y) by ext m<;>rfl];dsimp only;rw[tP m r]
def iZ(h:Y[i]?=M (.lst (ds.map .fz))):frz 4 Y (.rf i)=M (.list ds,Y.set i .dead):=by ext frz;rw[h];dsimp only;rw[tP]
def yi(h:o ρ Y=.ok (.rf i) ω1)(a:ω1[i]?=M (.lst (ds.map .fz))):ia o ρ Y=.ok ds (ω1.set i .dead):=by ext ia;rw[h,eh,iZ a];rfl
def Sk(N C:aP->aJ->Prop)(T:SV->aJ->Prop):RS FlS->Prop
 |.ok (.nx ρ) Y=>N ρ Y
 |.ok (.ct ρ) Y=>C ρ Y
 |.ok (.rt v) Y=>T v Y
 |_=>False
structure Ze(r:RS FlS)(N C:aP->aJ->Prop)(T:SV->aJ->Prop):Prop where
 out:Sk N C T r
variable{f g:di}{Q:cU}{N C:aP->aJ->Prop}{T:SV->aJ->Prop}
def Ze.eq(e:r=r')(h:Ze r' N C T):Ze r N C T:=by rw[e];show h
def Ze.imp(h:Ze r N C T)(e:∀ρ Y,N ρ Y->N' ρ Y)(j:∀ρ Y,C ρ Y->C' ρ Y)(a:∀v Y,T v Y->T' v Y):Ze r N' C' T':=by
 show#[?_];let h:=h.out;cases r with
 |bad=>show h
 |er x Y=>show h
 |ok l Y=>
  cases l with
  |nx r=>show e _ _ h
  |ct r=>show j _ _ h
  |rt v=>show a _ _ h
  |bk r=>show h
def mO(h:Ze (f ρ Y) (λr o=>Ze (g r o) N C T) C T):Ze (aD f g ρ Y) N C T:=by
 show#[?_];let h:=h.out;ext aD;cases q:f ρ Y with
 |bad=>rw[q]at h;show h.elim
 |er x o=>rw[q]at h;show h.elim
 |ok a o=>
  rw[q]at h;cases a with
  |nx r=>show(show Ze (g r o) N C T from h).out
  |ct r=>show h
  |rt v=>show h
  |bk r=>show h.elim
def xk(h:c ρ Y=.ok b ω1)(a:b=S->Ze (f ρ ω1) N C T)(e:b=R->Ze (g ρ ω1) N C T):Ze (bT c f g ρ Y) N C T:=by
 ext bT;rw[h,eh];cases b with
 |true=>show a W
 |false=>show e W
theorem pW(e:c ρ Y=.ok S ω1)(a:Ze (f ρ ω1) N C T):Ze (bT c f g ρ Y) N C T:=xk e (λ_=>a) λh=>by ext h
theorem dr(e:c ρ Y=.ok R ω1)(a:Ze (g ρ ω1) N C T):Ze (bT c f g ρ Y) N C T:=xk e (λh=>by ext h) λ_=>a
def Dp(e:Q ρ Y=.ok x ω1)(a:gt x ρ ω1=.ok X Z)(h:N X Z):Ze (bX Q gt ρ Y) N C T:=by show#[?_];ext bX;rw[e,eh,a,eh];show h
theorem lz(a:f ρ Y=.ok (.nx X) ω1)(h:N X ω1):Ze (f ρ Y) N C T:=#[by rw[a];show h]
theorem Ru(a:f ρ Y=.ok (.rt x) ω1)(h:T x ω1):Ze (f ρ Y) N C T:=#[by rw[a];show h]
theorem hV(a:Q ρ Y=.ok x ω1)(h:N ρ ω1):Ze (bf Q ρ Y) N C T:=lz (fP a) h
theorem Dr(a:Q ρ Y=.ok x ω1)(h:T x ω1):Ze (fW Q ρ Y) N C T:=Ru (ir a) h
theorem KL(h:T (.fz .none) Y):Ze (rH ρ Y) N C T:=#[h]
theorem jS(h:N ρ Y):Ze (b6 ρ Y) N C T:=#[h]
theorem gc{gt:Bt}(e:Q ρ Y=.ok x ω1)(a:gt x ρ ω1=.ok X Z)(h:Ze (g X Z) N C T):Ze (aD (bX Q gt) g ρ Y) N C T:=mO (Dp e a h)
theorem A5(a:f ρ Y=.ok (.nx X) ω1)(h:Ze (g X ω1) N C T):Ze (aD f g ρ Y) N C T:=mO (lz a h)
theorem i9(a:Q ρ Y=.ok x ω1)(h:Ze (g ρ ω1) N C T):Ze (aD (bf Q) g ρ Y) N C T:=mO (hV a h)
def xg{h a:di}(m:c ρ Y=.ok b ω1)(j:b=S->Ze (aD h g ρ ω1) N C T)(l:b=R->Ze (aD a g ρ ω1) N C T):Ze (aD (bT c h a) g ρ Y) N C T:=by
 let e:aD (bT c h a) g ρ Y=if b=S then aD h g ρ ω1 else aD a g ρ ω1:=by unfold aD bT;rw[m,eh];ext b<;>rfl
 show .eq e ?_;cases b with
 |true=>show j W
 |false=>show l W
theorem ub{a l:di}(j:c ρ Y=.ok S ω1)(e:Ze (aD a g ρ ω1) N C T):Ze (aD (bT c a l) g ρ Y) N C T:=xg j (λ_=>e) λh=>by ext h
theorem pk{l a:di}(j:c ρ Y=.ok R ω1)(e:Ze (aD a g ρ ω1) N C T):Ze (aD (bT c l a) g ρ Y) N C T:=xg j (λh=>by ext h) λ_=>e
theorem ui(h:T (.fz .none) Y):Ze (aD rH g ρ Y) N C T:=mO (KL h)
theorem lm(h:Ze (g ρ Y) N C T):Ze (aD b6 g ρ Y) N C T:=mO (jS h)
def Pd{a e:di}(h:Ze (aD a (aD e g) ρ Y) N C T):Ze (aD (aD a e) g ρ Y) N C T:=by
 show .eq ?_ h;ext aD;cases a ρ Y with
 |bad=>rfl
 |er x o=>rfl
 |ok j o=>ext j<;>rfl
theorem Aw{b:di}(I:Nat->aP->aJ->Prop):∀(ds:G D) (k:Nat) (ρ:aP) (Y:aJ),I k ρ Y->(∀i d ρ Y,ds[i]?=M d->I (k+i) ρ Y->∃X ω1,gt (.fz d) ρ Y=.ok X ω1/\Ze (b X ω1) (I (k+i+1)) (I (k+i+1)) T)->Ze (iK gt b ds ρ Y) (I (k+ds.length)) C T
 |[],k,ρ,Y,h0,_=>#[h0]
 |d::r,k,ρ,Y,h0,hs=>by
  let(X,ω1,w,a):=hs 0 d ρ Y W h0;let a:=a.out;let m:∀l j,I (k+1) l j->Ze (iK gt b r l j) (I (k+(r.length+1))) C T:=λl j h=>by
   let e:k+(r.length+1)=k+1+r.length:=by ext
   rw[e];show Aw I r (k+1) l j h λi B t p hi u=>?_;let e:k+1+i=k+(i+1):=by ext
   rw[e]at u⊢;show hs (i+1) B t p (by simpa using hi) u
  show#[?_];show Sk _ _ _ ((gt (.fz d) ρ Y).bind _);rw[w,eh];cases q:b X ω1 with
  |bad=>rw[q]at a;show a.elim
  |er x o=>rw[q]at a;show a.elim
  |ok A o=>
   rw[q]at a;cases A with
   |nx r=>show(m _ _ a).out
   |ct r=>show(m _ _ a).out
   |rt v=>show a
   |bk r=>show a.elim
def Pk{b:di}(I:Nat->aP->aJ->Prop)(l:o ρ Y=.ok ds ω1)(j:I 0 ρ ω1)(a:∀i d ρ Y,ds[i]?=M d->I i ρ Y->∃X ω1,gt (.fz d) ρ Y=.ok X ω1/\Ze (b X ω1) (I (i+1)) (I (i+1)) T)(e:∀k c,I ds.length k c->N k c):Ze (nW o gt b ρ Y) N C T:=by let:=Aw (C:=C) I ds 0 ρ ω1 j (by simpa using a);rw[Yj]at this;show .eq ?_ (this.imp e (λ_ _ h=>h) λ_ _ h=>h);ext nW;rw[l,eh]
def NO(a:xs.map M++Wk (n - xs.length) P=ρ)(h:Ze (g ρ Y) (λ_ c=>T (.fz .none) c) (λ_ _=>False) T):∃x c,cj n g xs Y=.ok x c/\T x c:=by
 let h:=h.out;ext cj;rw[a];cases q:g ρ Y with
 |bad=>rw[q]at h;show h.elim
 |er x o=>rw[q]at h;show h.elim
 |ok e o=>
  rw[q]at h;cases e with
  |nx r=>show#[_,_,W,h]
  |ct r=>show h.elim
  |rt v=>show#[_,_,W,h]
  |bk r=>show h.elim
def gR{W:aJ->Prop}(a:xs.map M++Wk (n - xs.length) P=ρ)(h:Ze (g ρ Y) (λ_ c=>SV.fz .none=v/\W c) (λ_ _=>False) (λr c=>r=v/\W c)):∃c,cj n g xs Y=.ok v c/\W c:=by let(x,c,l,j,e):=NO (T:=λr c=>r=v/\W c) a h;show#[c,by rw[l,j],e]
end
def TQ(a:aJ):AV->I D
 |.fz d=>M d
 |.rf i=>sh a (.rf i)
def TF(F:fy):FN:=λds=>match F (ds.map .fz) []with
 |.ok (.fz d) _=>.ok (.fz d)
 |.ok (.rf i) a=>(match sh a (.rf i)with
  |some (.list ds)=>.ok (.ow ds)
  |_=>.bad)
 |.ok (.tp l) a=>(match av (TQ a) l with
  |some ds=>.ok (.fz (.tuple ds))
  |none=>.bad)
 |.er x _=>.er x
 |.bad=>.bad
section
variable{B O O':bE}{K:lD}{E:XK}{H T H1 H2:Hp}{X Y α1 α2:b5 Wd}{ω Z ω1 ω2:aJ}{σ:L2.St}{ρ:aP}{v:V}
def Sx(s:WT B K H X ω)(h:AOk (ow B X ω) K H X v x)(e:TQ ω x=M d):L3.DV B K H v d:=by
 let sub:∀b,B b->ow B X ω b:=λb z=>.inl z;cases x with
 |fz n=>ext e;show DV.ev (Ev.sub sub) h
 |rf i=>
  let(a,p,rfl):=h;let f:sh ω (.rf i)=M d:=e;let:∃ds,d=.list ds:=by
   unfold sh at f;dsimp only at f;split at f
   .rename_i xs _
    cases q:av ve xs with
    |none=>rw[q]at f;ext f
    |some ds=>rw[q]at f;ext f;show#[_,W]
   .ext f
  let(ds,rfl):=this;let(o,r,g,l,j,m):=gI s f;rw[p]at g;ext g;show .lst #[Zu.of l,λz=>b4 p (s.ba a z i)] (j.ev (Ev.sub sub))
def Qj(h:y1 K n (TF F) vs H Q E):jR K n F vs H Q E:=by
 let(I,B,ds,L,N,w):=h;show#[I,B,[],[],ds.map .fz,yj L,i6 _ _ (N.ev (Ev.sub λb z=>z.elim id λ#[i,c,q,_]=>by simp at q)),?_];unfold TF at w;cases qF:F (ds.map .fz) []with
 |bad=>rw[qF]at w;show w.elim
 |er x Z=>rw[qF]at w;intro c dx Y T g m k;show w c dx T (λb o h=>g.kp b o h λ#[i,c,q,_]=>by simp at q) (XOk.sub (λb z=>.inl z) k)
 |ok x Z=>
  rw[qF]at w;intro Y T g m v p;let j:=λb o h=>g.kp b o h λ#[i,c,q,_]=>by simp at q
  cases x with
  |fz d=>show w v T j (DV.ev (Ev.sub λb z=>.inl z) p)
  |tp l=>
   dsimp only at w;cases qs:av (TQ Z) l with
   |none=>rw[qs]at w;show w.elim
   |some es=>rw[qs]at w;let(a,xs,rfl,A,C):=p;show w (.ref a) T j (.tup (A.ev (Ev.sub λb z=>.inl z)) (iQ (bW (R:=AOk (ow B Y Z) K T Y) (λv x y r e=>Sx m r e) C qs)))
  |rf i=>
   dsimp only at w;cases qs:sh Z (.rf i)with
   |none=>rw[qs]at w;show w.elim
   |some d=>
    rw[qs]at w;cases d with
    |list es=>let(a,t,ha,M,J,G):=gI m qs;let(xs,u,_):=oE qs;let(P,f,rfl):=p;rw[ha]at f;ext f;show w a t T j ((g.lv a #[i,_,ha,u,by intro z;ext z]).elim (λ#[i,c,q,_]=>by simp at q) id) M (J.ev (Ev.sub λb z=>z.elim (λz=>.inl z) λz=>by rw[z];show G))
    |_=>show w.elim
end
end L10
namespace L10
open PySem PySem.SeqAt PySem.Spec PySem.W PyProof.Rows L2 L3
section
variable{K:lD}{E:XK}
def FW(i:Nat)(c:FE):FE:=λb=>(Res.Xf (xB b[i]?)).bind λ_=>(c b).bind λa=>match a.1 with
 |.ow es=>(Res.Xf (xB a.2[i]?)).bind λds=>if ds.length+es.length<=1000000 then .ok (.fz .none,a.2.set i (M (.ow (ds++es))))else .bad
 |_=>.bad
def Qu{i:Nat}{o:TE}{c:FE}(C:EO K E o c):EO K E (OU K "list" zz (rO i) (fV o ja)) (FW i c):=by
 intro B M O r H ρ Q R w;let(I,u,w):=w.Xf;let(v,m,a,vs,rfl,Y,X,F,U):=R.slot i _ (oQ u);show#[_,m,.inl #[W,_,Z1.of F],?_];show C B M O r H ρ _ R (w.bind.imp λb e L y H1 e1 n p=>?_);let(pv,t):=b;dsimp only at e n p;cases pv with
 |fz d=>show e.elim
 |pl j=>show e.elim
 |ow es=>
  dsimp only at e;let(ds,f,e):=e.Xf;let f:=oQ f;let(J,g,rfl,T,S,A,q,P):=p;let(N,k1,Z,h,G,k2,k3,k4,k5):=n.slot i _ f;subst G;rw[m]at k1;ext k1;by_cases l:ds.length+es.length<=1000000
  .rw[ax l]at e;show#[a,J,h,g,W,W,k4,A,p7 (by rw[k5.length,q.length];show l),?_];show e L .Ye _ (e1.trans (Ev.mut k2 _)) (n.mut f m k2 k3 (k5.append q)) .Ye
  .rw[bb l]at e;show e.elim
def Qd{i:Nat}{h:FE}{d c:aL}{a ds es:G D}(g:d[i]?=M (M (.ow a)))(f:h d=.ok (.ow es,c))(e:c[i]?=M (M (.ow ds)))(b:ds.length+es.length<=1000000):FW i h d=.ok (.fz .none,c.set i (M (.ow (ds++es)))):=by ext FW;rw[g,iB,aA,eg,f,eg];dsimp only;rw[e,iB,aA,eg,ax b]
end
end L10
namespace L10
open PySem PyProof.Rows L2 L3
section
variable{B O A:bE}{K:lD}{E:XK}{H u t r:Hp}{q Q N L:b5 Wd}{T C Y Z:aJ}{p:L2.St}{X:aP}{v:V}
def xO{c fb:cU}{y z:SV}{i:Nat}{n:Int}{xs:G SV}(f:c X T=.ok (.rf i) Y)(e:fb X Y=.ok y Z)(d:Fc y=M n)(a:Z[i]?=M (.lst xs))(b:kP xs n=M z):iS c fb X T=.ok z Z:=by ext iS;rw[f,eh,e,eh];ext NK;simp only[a,d];show RS.Xf Z (kP xs n)=_;rw[b];rfl
end
end L10
namespace L10
open PySem PyProof.Rows L2 L3
section
variable{O Z:bE}{K:lD}{H X:Hp}{a b:Wd}{T:b5 V}{Y:Heap->Prop}
def TY(a:J)(O:bE)(H:Hp)(Z:bE)(X:Hp):Prop:=∀b o,b≠a->H b=M o->¬O b->X b=M o/\¬Z b
def abg.evx(i:H a=M (.ext Y))(h:abg O K H b T)(e:TY a O H Z X):abg Z K X b T:=by
 let(h,k):=h;by_cases z:O b
 .show#[Zu.same (jT X) (k z),λ_=>k z]
 .rcases h with(h|⟨o,h⟩)|h
  .let(g,f):=e b _ (λy=>by rw[y,i]at h;ext h) h z;show#[.inl (.inl g),λy=>b4 y f]
  .let(g,f):=e b _ (λy=>by rw[y,i]at h;ext h) h z;show#[.inl (.inr #[o,g]),λy=>b4 y f]
  .show#[.inr h,λ_=>.inr h]
def aaj.evx(i:H a=M (.ext Y))(h:aaj O K H b T)(e:TY a O H Z X):aaj Z K X b T:=by
 let(h,k):=h;by_cases z:O b
 .show#[(jT X).tup (k z),λ_=>k z]
 .rcases h with(h|⟨o,h⟩)|h
  .let(g,f):=e b _ (λy=>by rw[y,i]at h;ext h) h z;show#[.inl (.inl g),λy=>b4 y f]
  .let(g,f):=e b _ (λy=>by rw[y,i]at h;ext h) h z;show#[.inl (.inr #[o,g]),λy=>b4 y f]
  .show#[.inr h,λ_=>.inr h]
mutual
theorem DV.evx(f:H a=cL (.ext Y))(e:TY a O H Z X):∀{v:V} {d:D},L3.DV O K H v d->L3.DV Z K X v d
 |_,_,.Ye=>.Ye
 |_,_,.bl b=>.bl b
 |_,_,.int i=>.int i
 |_,_,.str x=>.str x
 |_,_,.tup h hs=>.tup (aaj.evx f h e) (XS.evx f e hs)
 |_,_,.lst h hs=>.lst (abg.evx f h e) (XS.evx f e hs)
theorem XS.evx(f:H a=cL (.ext Y))(e:TY a O H Z X):∀{vs:b5 V} {ds:b5 D},L3.XS O K H vs ds->L3.XS Z K X vs ds
 |_,_,.nil=>.nil
 |_,_,.cons h hs=>.cons (DV.evx f e h) (XS.evx f e hs)
end
end
end L10
namespace L3
open PySem L2
structure NI(K:lD)(f:J)(n:Str)(t:X1):Prop where
 a:WI K Wx n=M (M (.ref f))
 F:∃fd,Fun K n n t f fd
structure MI(K:lD)(C f:J)(m q:Str)(t:X1):Prop where
 a:WW K (.ref C) m=M (M (.ref f))
 i:Yp K (.ref f)=S
 F:∃fd,Fun K m q t f fd
structure CI(K:lD)(C:J)(n:Str)(fs:G Str):Prop where
 a:WI K Wx n=M (M (.ref C))
 pg:Y8 K C Str.empty=S
 hd:Yx K C=S
 po:aaM K C=S
 sa:WW K (.ref C) "__setattr__"=M (M (.builtin "object.__setattr__"))
 mm:aba K C=S
 kc:XT K (.ref C)=S
 fl:∀x∈fs,ZE K C x
def BA(n q:Str)(t:X1)(c:G Str):Prop:=∀(kV b e:U) (f:I J) (g ct:U) (a:G U),a.length=c.length->bindArgs (XI n q (eS t) (bQ t) (au t) .none kV b e f g ct) #[a,[]]=pure (c.zip a)
section
variable{P:Wz}{w:WX}{K:lD}{Y:Str->b7 V5}{base h:Heap}{f C:Wd}{n m q:Str}{t:X1}{Q fs:b5 Str}{Z k:Nat}{T N:Sp}
theorem CI.cls(c:CI K C n fs):Cls K C:=#[c.pg,c.hd,c.po,c.sa]
theorem CI.cf(c:CI K C n fs):L10.kh K n fs:=#[C,c.a,c.cls,c.fl]
theorem NI.cal(i:NI K f n t)(X:K.In h)(G:h.Ns Wx Y)(b:BA n n t Q)(ok:∀fd,Fun K n n t f fd->FnOk P w K Y base kg Z f fd Q T):vS P w K Y base Z n Q T:=
 let#[fd,z]:=i.F;#[f,fd,ok fd z,z.binds b,z.kp,X3 X G i.a]
def NI.law(i:NI K f "law" t)(X:K.In h)(G:h.Ns Wx Y)(b:Y "law"=M (.ref fa))(p:BA "law" "law" t [x])(ok:∀base fd,Fun K "law" "law" t f fd->FnOk P w K Y base kg Z f fd [x] T):∃fd:Xj,(∀(s:We) (v:U),aaz s fd #[[v],[]] [(x,v)])/\∀base:Heap,K.In base->base.Ns Wx Y->FnOk P w K Y base kg Z fa fd [x] T:=by let e:=b.symm.trans (X3 X G i.a);ext e;let(fd,z):=i.F;let(A,y,kV,g,j,r,u,ct,l,rfl,B,o):=z.ex;show#[_,λs v=>.of_eq (p kV g j r u ct [v] W),λbase _ _=>ok base _ z]
def sL(a:X9 k A):A.units+65<cLine:=by let:=a.un;ext
theorem Ls{W:J}{a:Array U}{i:Nat}{g:Array (I U)}{xs:G V}{ds:G D}(l:K.lookup W=M #[.type "tuple",Ld,.seq a i,g])(e:a.size<=Wm)(b:Vals xs a.toList)(hd:∀O H,XS O K H xs ds):∀O H,DV O K H (.ref W) (.tuple ds):=λO H=>
 .tup (xs:=xs) #[.inr #[_,_,_,l,#[rfl,rfl],rfl,e,b],λ_=>.inr #[_,_,_,l,#[rfl,rfl],rfl,e,b]] (hd O H)
end
end L3
namespace L10R
open PySem PySem.Calls PyProof.Rows
def N9:typeLookup (.type "list_reverseiterator") "__len__"=pure P:=by rw[aaI,Zn];kernel_rfl
def Cd:typeLookup (.type "list_reverseiterator") "__length_hint__"=pure (M (.builtin "list_reverseiterator.__length_hint__")):=by rw[aaI,Zn];kernel_rfl
section
variable{Y:Wz}{w:WX}{A:WQ}{E:V5->We->Prop}{s:We}{r l:Wd}{items:Array V5}
def Fk{Q:Bool->We->Prop}(e:s.TypeIs (.ref r) "list_reverseiterator")(h:Q R s):wpAny (model Y w) A (Builtin.List.listLengthHint (.ref r)) Q E s:=by
 ext Builtin.List.listLengthHint;show CL (aaH e N9 ?_);dsimp only;show Y4 (λa=>b4 a ()) (λ_=>?_);show Y4 (λa=>b4 a ()) (λ_=>?_);show CL (aaH e Cd ?_);generalize f:("list_reverseiterator.__length_hint__":String)=g
 wp_delta
 rw[show splitId g=M ("list_reverseiterator","__length_hint__")from by subst f;left];subst f;show CL (aat (T:= "list_reverseiterator") (b:=S) e (by rw[ajs];kernel_rfl) ?_);show Y4 (λa=>b4 a ()) (λ_=>?_);show Y4 (λ_=>?_) (λa=>b4 (by left) a);show Y4 (λa=>b4 a (by left)) (λ_=>?_);show Wf h
def y9{R:aaW->We->Prop}(H:A.handled=P)(n:l≠r)(G:s.heap.IsList l items)(j:s.heap.IsRevIter r l ((items.size:Int) - 1))(S:Wd)(h:S≠r)(u:S≠l)(res:U)(a:Nat)(J:s.heap.get? S=cL {cls:=.type "list",data:=.seq #v[] a})
  (K:∀x z c k,(∀b o,b≠S->b≠r->s.heap.get? b=cL o->x.get? b=cL o)->x.get? S=cL {cls:=.type "list",dict:=P,data:=.seq c k,slots:= #v[]}->aau (λi v=>items[items.size - 1 - i]?=cL v) c items.size->R (.ok (.ret res)) {s with heap:=x,toks:=z}) (D:items.size<=Wm):
  wpAny (model Y w) A.in1 (Builtin.List.listExtendWith (.ref S) (.ref r) res)
   (λfin d=>match fin with|.done f=>R (.ok f) d|.again k=>k.quiet=V6/\codeAny (model Y w) A k R d) (λe d=>R (.error e) d) s:=by
 let t:S∉[r,l]:=by simp only[WE,XG,or_false,not_or];show#[h,u]
 let W:=Walks.listRev (prog:=Y) (w:=w) (A:=A.in1) H r l n items;let C:0<=items.size/\s.heap.IsRevIter r l ((items.size:Int) - 1 - ((0:Nat):Int))/\s.heap.IsList l items:=#[W0 _,by rw[show(items.size:Int) - 1 - ((0:Nat):Int)=(items.size:Int) - 1 by ext];show j,G];let m:codeAny (model Y w) A (.builtin "list.extend.loop" #[[.ref S,.ref r,res],[]]) R s:=by
  show codeAny_extend_loopS W.toS D S t res items.size 0 _ #v[] a rfl (W0 _) C J (aau.nil _) λd c k hm y B=>?_;rw[Moved.eq_with hm];show K d.heap d.toks c k (λb o I p e=>hm.heap b o (λg=>?_) e) y B;rcases WE.mp g with Q|g
  .show I Q
  .show p (WB.mp g)
 ext Builtin.List.listExtendWith;show CL (Zk (T:= "list_reverseiterator") j.typeIs ?_);let N:Builtin.List.listSameRef (.ref S) (.ref r)=V8:=by simp[Builtin.List.listSameRef,h]
 let M:(V5.type "list_reverseiterator"==V5.type "list")=V8:=by left
 let L:(V5.type "list_reverseiterator"==V5.type "tuple")=V8:=by left
 simp only[N,M,L,ace,Yt,if_false];show CL (wpAny_pyIter_revIter j ?_);show CL (XN (Fk j.typeIs ?_));show Y4 (λq=>b4 q (by left)) (λ_=>Wf #[YF PySem.F.plain_extend_loop _,m])
def D6{R:aaW->We->Prop}(F:A.handled=P)(n:l≠r)(B:s.heap.IsList l items)(y:s.heap.IsRevIter r l ((items.size:Int) - 1))(S:J)(h:S≠r)(j:S≠l)(t:s.heap.get? S=M {cls:=.type "list",data:=.seq #v[]})
  (G:∀k z c d,(∀b o,b≠S->b≠r->s.heap.get? b=M o->k.get? b=M o)->k.get? S=M {cls:=.type "list",dict:=P,data:=.seq c d,slots:= #v[]}->aau (λi v=>items[items.size - 1 - i]?=M v) c items.size->R (.ok (.ret .none)) {s with heap:=k,toks:=z}) (D:items.size<=Wm):
  wpAny (model Y w) A.in1 (Builtin.«list.__init__» #[[.ref S,.ref r],[]])
   (λfin x=>match fin with|.done f=>R (.ok f) x|.again d=>d.quiet=V6/\codeAny (model Y w) A d R x) (λe x=>R (.error e) x) s:=by
 show wpAny _ _ (do let old<-Builtin.List.listItems (.ref S);Builtin.List.listUpdate (.ref S) (λ_=> #v[]);letGo old.toList.reverse;Builtin.List.listExtendWith (.ref S) (.ref r) .none) _ _ s;show CL ?_;ext Builtin.List.listItems;show CL (XB t W (Wf ?_));show wpAny _ _ (updateSeq S (λ_=> #v[])>>=λ_=>letGo (#v[]:Array U).toList.reverse>>=λ_=>Builtin.List.listExtendWith (.ref S) (.ref r) .none) _ _ s;show CL (aaJ t W ?_);let g:=cv (Obj.mapSeq (λ_=>(#v[]:Array U))) t W
 let a:∀b o,b≠S->s.heap.get? b=M o->(s.heap.update S (Obj.mapSeq (λ_=>(#v[]:Array U)))).get? b=M o:=
  λb o m e=>(cn _ _ (dN m)).trans e
 show CL (YQ ?_);show y9 F n (B.at λo e=>a l o j.symm e) (y.at λo e=>a r o h.symm e) S h j .none _ g (λk z c d C q u=>?_) D;show G k z c d (λb o m p e=>C b o m p (a b o m e)) q u
def aet{Q:U->We->Prop}(y:A.handled=P)(g:l≠r)(n:s.heap.IsList l items)(m:s.heap.IsRevIter r l ((items.size:Int) - 1))(z:items.size<=Wm)
  (C:∀d k c x,(∀b o,b≠r->s.heap.get? b=M o->d.get? b=M o)->d.get? s.heap.objs.size=M {cls:=.type "list",dict:=P,data:=.seq c x,slots:= #v[]}->aau (λi v=>items[items.size - 1 - i]?=M v) c items.size->Q (.ref s.heap.objs.size) {s with heap:=d,toks:=k}):
  wpAny (model Y w) A (call (.type "list") [.ref r]) Q E s:=by
 show ajt (Q₁:=λobj a=>obj=.ref s.heap.objs.size/\a={s with heap:=s.heap.push {cls:=.type "list",data:=.seq #v[]}}) PySem.F.called_list (PySem.F.typeCall_list_1 _) PySem.F.entry_list_init
  (code_list_new _ #[W,W]) λobj a f=>?_
 let(rfl,rfl):=f;let p:(s.heap.push {cls:=.type "list",data:=.seq #v[]}).get? s.heap.objs.size=M {cls:=.type "list",data:=.seq #v[]}:=ck _ W;let q:r<s.heap.objs.size:=by let(o,e,_):=m;show cc e
 let t:l<s.heap.objs.size:=by let(o,e,_):=n;show cc e
 show#[#[_,p,W],PySem.F.args_list_init_2 _ _,D6 (A:=A.in1) y g (n.at λo e=>b9 _ e) (m.at λo e=>b9 _ e) _ (Xn q) (Xn t) p (λd k c x u h j=>?_) z];show#[W,C d k c x (λb o B e=>u b o (WG (cc e)) B (b9 _ e)) h j]
end
end L10R
namespace L2
open PySem PySem.Spec PyProof.Rows
section
variable{X:Cx}{e:Wy}{Z:TE}{p q p1 Y:Pos}
def wo(K:lD)(Z:TE):TE:=λf H Q=>Z f H λx b=>∃a xs,x=.ref a/\Z1 K b a xs/\∀l,b l=P->Q (.ref l) (aW b l (.lst xs.reverse))
def zb:Xg "reversed"=M (.type "reversed"):=by rfl
def BO{xs:G V}{us:G U}(h:Vals xs us):Vals xs.reverse us.reverse:=by
 induction h with
 |nil=>show .nil
 |cons h _ a=>rw[Y5,Y5];show a.append (.cons h .nil)
def Cw{items acc:Array U}(h:aau (λi v=>items[items.size - 1 - i]?=M v) acc items.size):acc.toList=items.toList.reverse:=by
 apply List.ext_getElem?;intro j;by_cases a:j<items.size
 .let b:j<acc.size:=by rw[h.1];show a
  let e:=h.2 j _ (abS b);rw[Zd,abS b,List.getElem?_reverse (by rw[Xh];show a),Xh,Zd];show e.symm
 .rw[acX (by rw[Xh,h.1];ext),acX (by rw[aaK,Xh];ext)]
def Fr{a:G (J×Obj)}{j:St}{H:Hp}{s:We}{e:J}{o:HO}(I:Inv X a j H s)(f:lR X a H e)(A:X.s₀.heap.get? e=P)(new:ObjOk X.prog X.w (aW H e o) s.heap e o):Inv X a j (aW H e o) s:=by
 let(ne,t,_,_,v,i):=f;let m:∀b o,X.s₀.heap.get? b=M o->b≠e:=λb o z y=>by rw[y,A]at z;ext z
 let g:∀b o,H b=M o->b≠e:=λb o z y=>by rw[y,ne]at z;ext z
 let B:=I.base;show#[I.ok,I.os,I.bare,#[B.keep,B.slot,λb o z n x=>?_,B.there,λb xs z=>?_,λb o u z=>?_,λb C z=>?_],I.loc,I.cell,?_,λx c z=>?_,λp l=>?_,λb u z=>?_,I.len]
 .rw[ar (m b o z)];show B.free b o z n x
 .let:=B.aa2 b xs z;rw[ar (g b _ this)];show this
 .let:=B.aaQ b o u z;rw[ar (g b _ this)];show this
 .let(h,y):=B.aa6 b C z;show#[h,by rw[ar (g b _ y)];show y]
 .rw[ar t.symm];show I.free
 .rw[ar (v x c z)];show I.Y7 x c z
 .let(z,n,r):=I.pin p l;show#[z,by rw[ar (i p l)];show n,r]
 .by_cases y:b=e
  .subst y;rw[az]at z;ext z;show new
  .rw[ar y]at z;show(I.Xw b u z).Z0 (λ_ _ _ y=>y) (λc y=>by rw[ar (g c _ y)];show y) λc xs y=>by rw[ar (g c _ y)];show y
def xL(d:X.calm=V6)(C:Gl X "list")(A:X.mg "list"=Ld)(B:Gl X "reversed")(y:X.mg "reversed"=Ld)(U:PE X e Z)
  (L:Wu [.Call (.Name "reversed" q) [e] [] Y] X.env=[(V8,eval (.Call (.Name "reversed" q) [e] [] Y) X.env)]:=by rfl) (J:Wu [e] X.env=[(V8,eval e X.env)]:=by rfl):
  PE X (.Call (.Name "list" p) [.Call (.Name "reversed" q) [e] [] Y] [] p1) (wo X.K Z):=by
 intro g s v H Q I h;show XX (jA I C A xz ?_);show XU ?_ L W;rw[L];show wpAny _ _ (spliced ((V8,eval (.Call (.Name "reversed" q) [e] [] Y) X.env)::[])) _ _ s;show Calls.spliced_cons ?_;show XX (jA I B y zb ?_);show XU ?_ J W;rw[J];show wpAny _ _ (spliced ((V8,eval e X.env)::[])) _ _ s;show Calls.spliced_cons (bJ (U g s v H _ I h) λu f a=>?_);let(x,t,m,N,a,xs,ex,S1,O):=a;show Calls.spliced_nil ?_;subst ex;obtain rfl:u=V5.ref a:=N;let(i,rv,pl,G):=m.list S1;let w:=pl.isList;show call_reversed_list w (Calls.spliced_nil ?_);let R:a<f.heap.objs.size:=by let(o,e,_):=w;show cc e
 let n:Inv X g v t {f with heap:=f.heap.push (revObj a ((i.toArray.size:Int) - 1))}:=m.kept (t':=f.toks) λb o e=>b9 _ e;let j:i.toArray.size<=Wm:=by rw[Ws,<-rv.length];show G
 show L10R.aet (r:=f.heap.objs.size) (l:=a) (items:=i.toArray) (m.ok.hd d) (WG R) (w.at λo e=>b9 _ e) #[_,ck _ W,W,W] j λh' F E c T hL hi=>?_;let(f0,f1,M,f3,f4,f5):=m.acE (Wg f.heap.objs.size) (m.Xw.fresh (Wg _));let I3:Inv X g v t {f with heap:=h',toks:=F}:=Inv.turned (s:={f with heap:=f.heap.push (revObj a ((i.toArray.size:Int) - 1))}) (t':=F) (it:=f.heap.objs.size) n (λb o hb e=>T b o hb e) f0 f1 f3 f4 f5;let ea:=Cw hi;let hn:t (f.heap.push (revObj a ((i.toArray.size:Int) - 1))).objs.size=Ld:=n.Xw.fresh (Wg _);show#[.ref (f.heap.push (revObj a ((i.toArray.size:Int) - 1))).objs.size,_,?_,W,O _ hn];let M:=n.acE (H':=t) (Wg (f.heap.push (revObj a ((i.toArray.size:Int) - 1))).objs.size) hn;let P:X.s₀.heap.get? (f.heap.push (revObj a ((i.toArray.size:Int) - 1))).objs.size=Ld:=by
  cases z:X.s₀.heap.get? (f.heap.push (revObj a ((i.toArray.size:Int) - 1))).objs.size with
  |none=>rfl
  |some o=>show b4 (WC (cc z) n.sz) (XJ _)
 show Fr I3 M P #[by rw[aaK];show G,E.toList,c,by rw[ea];show BO rv,by rw[acV];show hL]
end
end L2
namespace L10
open PySem PySem.Spec PyProof.Rows L2 L3
section
variable{B O O':bE}{K:lD}{E:XK}{H H' X H2:Hp}{C α' Y α2:b5 Wd}{L ω' T Z:aJ}{A:L2.St}{N:aP}{v:V}
def v7(a:cU):cU:=λN L=>(a N L).bind λx T=>(RS.Xf T (gL T x)).bind λp Z=>.ok (.rf Z.length) (Z++[.lst p.2.reverse])
def Qf{a:Type}{R:V->a->Prop}{c:G V}{xs:G a}(h:Paired R c xs):Paired R c.reverse xs.reverse:=by
 induction h with
 |nil=>show .nil
 |cons h t b=>rw[Y5,Y5];show uO b h
def G6{h:TE}{c:cU}(o:cy K E h c):cy K E (wo K h) (v7 c):=by intro B A H C L N Q s m w;show o B A H C L N _ s m (w.bind.imp λx Y T X e1 b f u n=>?_);let((i,xs),q,f):=WS.Xf f;let(t,a,y,ha,rfl,r,p):=ud b n q;show#[a,y,W,Z1.of r,λl g=>?_];let j:XZ X (aW X l (.lst y.reverse)):=bz g _;let e:X7 Y T X (Y++[l]) (T++[.lst xs.reverse]) (aW X l (.lst y.reverse)):=X7.abK b.len j g;show f _ _ e (b.abK j g (by rw[az];simp) #[_,az,Paired.ZF (Qf p) λ_ _ d=>d.YD e]) _ #[l,by rw[<-b.len];show aO,W]
def K3{i:Nat}{b:cU}{xs:G SV}(h:b N L=.ok (.rf i) T)(a:T[i]?=M (.lst xs)):v7 b N L=.ok (.rf T.length) (T++[.lst xs.reverse]):=by
 let e1:gL T (.rf i)=M (i,xs):=by ext gL;dsimp only;rw[a]
 ext v7;rw[h,eh,e1];rfl
def Qz{i:Nat}{f:D->D->I RV}{c:cU}{x y:SV}{z:SV}{ω3:aJ}(a:N[i]?=M (M x))(e:c N L=.ok y T)(b:qN f x y T=.ok z Z):C3 i f c N L=.ok (.nx (N.set i (M z))) Z:=by ext C3;rw[aV a,eh,e,eh,b,eh]
end
end L10
namespace L4
open PySem PySem.Spec PyProof.Rows L2 L3
def Sa(X:Cx)(st:G X1)(b:L2.St)(t:TS):Prop:=∀(a:G (J×Obj)) (s:We) (H:Hp) (D:Ends),L2.Inv X a b H s->t D b H->wpAny (model X.prog X.w) X.A (execs st X.env) (SP X a D) X.xe s
def oK(X:Cx)(b:L2.St)(d:XK):U->We->Prop:=λx a=>∃H1 e c f a0 T,x=.ref e/\L2.Inv X [] b H1 a/\Hz a.heap e c f a0 (M T)/\Apart X e/\Apart X T/\H1 e=P/\H1 T=P/\d c f H1
end L4
namespace LD
open PySem PyProof.Rows L2 L3
def oh(xs:G (KD×J×V))(k:KD):I V:=(xs.find? λx=>decide (x.1=k)).map (·.2.2)
def pS(xs:G (KD×J×V))(k:KD)(b:J)(v:V):G (KD×J×V):=
 if(xs.find? λx=>decide (x.1=k)).isSome=S then xs.map (λx=>if x.1=k then(x.1,x.2.1,v)else x)else xs++[(k,b,v)]
abbrev RX:G (KD×J×V)->G (KD×J×U)->Prop:=Paired λx y=>x.1=y.1/\x.2.1=y.2.1/\RelV x.2.2 y.2.2
def A8:∀{xs:G (KD×J×V)} {a:G (KD×J×U)},RX xs a->xs.map (·.1)=a.map (·.1):=by
 intro _ _ b
 induction b with
 |nil=>show W
 | @cons _ _ _ _ h t e=>rw[Wv,Wv,h.1,e]
def yF:∀{xs:G (KD×J×V)} {a:G (KD×J×U)},RX xs a->ZH (oh xs k) ((atKey a k).map (·.2)):=by
 intro _ _ b
 induction b with
 |nil=>unfold oh atKey;show trivial
 | @cons x y xs a h t f=>
  unfold oh atKey;rw[W9,W9,h.1];by_cases e:y.1=k
  .rw[bg e];show h.2.2
  .rw[bt e];show f
def KQ:∀{xs:G (KD×J×V)} {a:G (KD×J×U)},RX xs a->(xs.find? λx=>decide (x.1=k)).isSome=(atKey a k).isSome:=by
 intro _ _ b
 induction b with
 |nil=>show W
 | @cons x y xs a h t f=>
  ext atKey;rw[W9,W9,h.1];by_cases e:y.1=k
  .rw[bg e];rfl
  .rw[bt e];show f
def N6(r:RelV v u):∀{xs:G (KD×J×V)} {a:G (KD×J×U)},RX xs a->RX (xs.map λx=>if x.1=k then(x.1,x.2.1,v)else x) (a.map (putAt k u)):=by
 intro _ _ b
 induction b with
 |nil=>show .nil
 | @cons x y xs a h t f=>
  rw[Wv,Wv];show .cons ?_ (f);ext putAt;by_cases e:y.1=k
  .rw[ax (h.1.trans e),ax e];show#[h.1,h.2.1,r]
  .rw[bb (by rw[h.1];show e),bb e];show h
def Lb(h:x.1=y.1/\x.2.1=y.2.1/\RelV x.2.2 y.2.2):∀{xs:G (KD×J×V)} {a:G (KD×J×U)},RX xs a->RX (xs++[x]) (a++[y]):=by
 intro _ _ b
 induction b with
 |nil=>show .cons h .nil
 | @cons _ _ _ _ g t e=>show .cons g (e)
def Oy(r:RelV v u)(h:RX xs ys):RX (pS xs k b v) (storedH ys k b u):=by
 unfold pS storedH;rw[KQ h];split
 .show N6 r h
 .show Lb #[W,W,r] h
def vI(xs:G (KD×J×V))(k:KD)(b:J)(v:V):(pS xs k b v).length<=xs.length+1:=by
 ext pS;split
 .rw[V9];ext
 .rw[Wi];show Wg _
def t6(K:lD)(H:Hp)(xs:G (KD×J×V)):Prop:=∀x∈xs,L2.DV K H (.ref x.2.1) x.1.1
section
variable{X:Cx}{Z:b5 (Wd×Obj)}{Y:L2.St}{H:Hp}{s:We}{a b:Wd}{T:b5 (KD×Wd×V)}{k:KD}{v:V}{u r:V5}{A:WQ}{E:V5->We->Prop}
def Sh:∀{T:G (KD×J×V)} {es:G Za},Paired (λ(x:KD×J×V) (e:Za)=>e.hash=qH w x.1.1/\e.key=.ref x.2.1/\RelV x.2.2 e.val) T es->∃ys,RX T ys/\es=ys.map (entryOfKey (fT o w)):=by
 intro _ _ h
 induction h with
 |nil=>show#[[],.nil,W]
 | @cons x e _ _ p t q=>let(g,f,i):=p;let(ys,l,j):=q;show#[(x.1,x.2.1,e.val)::ys,.cons #[W,W,i] l,?_];rw[Wv,<-j];let(n,m,ev):=e;dsimp only at g f;subst g f;rfl
def Tl:∀{T:G (KD×J×V)} {f:G (KD×J×U)},RX T f->Paired (λ(x:KD×J×V) (e:Za)=>e.hash=qH w x.1.1/\e.key=.ref x.2.1/\RelV x.2.2 e.val) T (f.map (entryOfKey (fT i w))):=by
 intro _ _ g
 induction g with
 |nil=>show .nil
 | @cons _ _ _ _ h t j=>show .cons #[by rw[h.1];rfl,by rw[h.2.1];rfl,h.2.2] (j)
theorem rh(I:L2.Inv X Z Y H s)(h:L2.DV X.K H (.ref b) k.1):(fT X.prog X.w).is s.heap k b:=L2.DV.reads I h W
def zM(I:L2.Inv X Z Y H s)(e:H a=M (DkO a T))(j:t6 X.K H T):T.length<=Wm/\(a==Yf)=R/\∃ys,RX T ys/\s.heap.DictOfH (fT X.prog X.w) a ys:=by
 let(((z,n,nd),o,es,L,G,F,C,B),_):=(show ObjOk X.prog X.w H s.heap a (DkO a T)from I.Xw a _ e);let(ys,h,J):=Sh B;show#[z,n,ys,h,o,es,L,G,F,C,J,?_,by rw[<-A8 h];show nd];let all:∀{l:b5 (KD×Wd×V)} {m:b5 (KD×Wd×U)},RX l m->(∀x∈l,L2.DV X.K H (.ref x.2.1) x.1.1)->∀y∈m,(fT X.prog X.w).is s.heap y.1 y.2.1:=by
  intro l m q
  induction q with
  |nil=>intro _ y f;show nomatch f
  | @cons p q ps qs N t Q=>
   intro g y f;rcases WE.mp f with e|f
   .subst e;let:=rh I (g p (Wh ..));rw[N.1,N.2.1]at this;show this
   .show Q (λx i=>g x (Wj _ i)) y f
 show all h j
def FL(z:T.length<=Wm)(hd:(a==Yf)=R)(e:RX T ys)(dd:C.DictOfH (fT y w) a ys):ObjOk y w H' C a (DkO a T):=by let(o,es,f,g,m,l,j,n,i):=dd;show#[#[#[z,hd,by rw[A8 e];show i],o,es,f,g,m,l,by rw[j];show Tl e],#[o,g],?_];rintro t p ⟨q,o,es,f,e1,e2⟩ h;show#[q,o,es,f,h o e1,e2]
def ou(e:A.units+64<cLine):(fT X.prog X.w).room A.in1:=by show A.in1.units+8<cLine;rw[WQ.in1_units];ext
def Qv(m:A.units+64<cLine)(I:L2.Inv X Z Y H s)(e:H a=M (DkO a T))(o:t6 X.K H T)(q:L2.DV X.K H (.ref b) k.1)(g:oh T k=M v)(h:∀c d,L2.Inv X Z Y H d->RelV v c->Q c d):
  wpAny (model X.prog X.w) A (getItem (.ref a) (.ref b)) Q E s:=by
 let(z,y,t,i,dd):=zM I e o;let(c,l,f):=ZH.some_of (by rw[<-g];show yF i);let(p,n,j):=Z2.mp l;show afK (ou m) (rh I q) dd n ?_;rw[j];show h c _ (I.tok _) f
def Ss(g:A.units+64<cLine)(I:L2.Inv X Z Y H s)(e:H a=M (DkO a T))(i:t6 X.K H T)(l:L2.DV X.K H (.ref b) k.1)(h:∀c,L2.Inv X Z Y H c->Q (.bool (oh T k).isSome) c):
  wpAny (model X.prog X.w) A (Xx .In (.ref b) (.ref a)) Q E s:=by
 let(z,j,m,f,dd):=zM I e i;show alp (ou g) (rh I l) j dd ?_;let q:=(yF (k:=k) f).ZO;rw[ZD]at q;rw[<-q];show h _ (I.tok _)
def Pn(g:A.units+64<cLine)(I:L2.Inv X Z Y H s)(e:H a=M (DkO a T))(i:t6 X.K H T)(l:L2.DV X.K H (.ref b) k.1)(h:∀c,L2.Inv X Z Y H c->Q (.bool (!(oh T k).isSome)) c):
  wpAny (model X.prog X.w) A (Xx .NotIn (.ref b) (.ref a)) Q E s:=by
 let(z,j,m,f,dd):=zM I e i;show wpAny_notIn_heap (ou g) (rh I l) j dd ?_;let q:=(yF (k:=k) f).ZO;rw[ZD]at q;rw[<-q];show h _ (I.tok _)
def Oi(m:A.units+64<cLine)(I:L2.Inv X Z Y H s)(e:H a=M (DkO a T))(o:t6 X.K H T)(y:L2.DV X.K H (.ref b) k.1)(d:RelV v r)(C:T.length<Wm)(h:∀c,L2.Inv X Z Y (aW H a (DkO a (pS T k b v))) c->Q ⟨⟩ c):
  wpAny (model X.prog X.w) A (setItem (.ref a) (.ref b) r) Q E s:=by
 let(z,t,j,f,dd):=zM I e o;let l:j.length<=Wm:=by rw[<-Paired.length f];show z
 let i:(pS T k b v).length<=Wm:=by let:=vI T k b v;ext
 show afL (hsz:=l) (ou m) (rh I y) dd λB g n=>h _ ?_;let p:∃q,B.get? a=M q:=let#[q,_,_,L,_]:=g;#[q,L]
 show oB I (by rw[e];show True.intro) n p (FL i t (Oy d f) g)
def K1(I:L2.Inv X Z Y H s)(e:H a=M (DkO a T)):s.TypeIs (.ref a) "dict"/\(∀b,V5.ref a=.ref b->∃c,s.heap.get? b=M c/\c.dict=P)/\(a==Yf)=R:=by let(((z,h,nd),o,es,l,g,f,j,i),_):=(show ObjOk X.prog X.w H s.heap a (DkO a T)from I.Xw a _ e);show#[#[o,g,f.1],λb q=>?_,h];ext q;show#[o,g,f.2.1]
end
section
variable(K:lD)
def Dh(neg:Bool)(ty g:TE):TE:=λf H Q=>ty f H λy h=>g f h λx e=>∃a b xs k,x=.ref a/\y=.ref b/\e a=M (DkO a xs)/\t6 K e xs/\L2.DV K e (.ref b) k.1/\Q (.bl ((oh xs k).isSome !=neg)) e
def D1(g ty:TE):TE:=λf H Q=>g f H λx h=>ty f h λy e=>∃a b xs k v,x=.ref a/\y=.ref b/\e a=M (DkO a xs)/\t6 K e xs/\L2.DV K e (.ref b) k.1/\oh xs k=M v/\Q v e
def ES(h ty g:TE):TS:=λD e H=>g e H λv j=>h e j λx i=>ty e i λy f=>∃a b xs k,x=.ref a/\y=.ref b/\f a=M (DkO a xs)/\t6 K f xs/\L2.DV K f (.ref b) k.1/\xs.length<Wm/\D.nx e (aW f a (DkO a (pS xs k b v)))
def DE:TE:=λ_ H Q=>∀p,H p=P->Q (.ref p) (aW H p (DkO p []))
end
section
variable{X:Cx}{o i e f Z:Wy}{U Y tx tv:TE}{pos T apos YY:Pos}
def pc_ddin(v:X.A.units+64<cLine)(c:PE X i Y)(w:PE X o U):PC X .In i o (Dh X.K R Y U):=by intro g s j H Q I h;show bJ (c g s j H _ I h) λO m #[y,L,G,n,q]=>bJ (w g m j L _ G q) λu N a=>?_;let(x,A,F,p,a,b,xs,k,C,B,e,r,t,l):=a;subst C B;obtain rfl:=p;obtain rfl:=n;rw[afo]at l;show Ss v F e r t λM E=>#[.bl _,A,E,W,l]
def pc_ddnin(v:X.A.units+64<cLine)(c:PE X i Y)(w:PE X o U):PC X .NotIn i o (Dh X.K S Y U):=by intro g s j H Q I h;show bJ (c g s j H _ I h) λO m #[y,L,G,n,q]=>bJ (w g m j L _ G q) λu N a=>?_;let(x,A,F,p,a,b,xs,k,C,B,e,r,t,l):=a;subst C B;obtain rfl:=p;obtain rfl:=n;rw[Bool.bne_true]at l;show Pn v F e r t λM E=>#[.bl _,A,E,W,l]
def pe_ddget(E:X.A.units+64<cLine)(G:PE X o U)(c:PE X i Y)(F:Qa i):PE X (.Subscript o i pos) (D1 X.K U Y):=by intro j s m H Q I h;show Bm abB.lookup F (bJ (G j s m H _ I h) λu p #[x,Pz0,N,r,w]=>bJ (c j p m Pz0 _ N w) λiv s2 a=>?_);let(y,O,n,q,a,b,xs,k,v,L,A,e,B,C,g,t):=a;subst L A;obtain rfl:=r;obtain rfl:=q;show#[(K1 n e).1,Qv E n e B C g λR S M l=>#[v,O,M,l,t]]
def ps_ddput(F:X.A.units+64<cLine)(J:PE X o U)(c:PE X i Y)(E:PE X Z tv)(G:Yu Z (cL (.Subscript o i T)) pos.line X.env=pure V8):
  PS X (.Assign [.Subscript o i T] Z pos) (ES X.K U Y tv):=by
 intro g s j H D I h;show ad9 (bJ (E g s j H _ I h) λr m #[v,H1,R1,rv,w]=>bJ (J g m j H1 _ R1 w) λu l #[x,S1,Q,p,t]=>bJ (c g l j S1 _ Q t) λiv s3 a=>?_) G;let(y,H3,Pz0,n,a,b,xs,k,N,A,e,B,C,L,q):=a;subst N A;obtain rfl:=p;obtain rfl:=n;show Oi F Pz0 e B C rv L λs4 O=>#[j,_,O,q]
theorem pe_ddnew:PE X (.Dict [] [] pos) DE:=λa s b H Q I h=>
 wpAny_Dict_empty #[.ref s.heap.objs.size,_,I.laid (λ_ _ q=>b9 _ q) (Wg _) (FL (W0 _) (beq_eq_false_iff_ne.mpr (dN (WG I.big))) .nil (Heap.DictOfH.new s.heap)),W,h _ (I.Xw.fresh (Wg _))]
end
mutual
def Q0:Wa->Wa->b7 Bool
 |.int i,.int j=>cL (decide (i<j))
 |.str x,.str y=>cL (decide (x.cps.toList<y.cps.toList))
 |.tuple xs,.tuple ys=>Ra xs ys
 |_,_=>Ld
def Ra:b5 Wa->b5 Wa->b7 Bool
 |[],[]=>cL V8
 |[],_::_=>cL V6
 |_::_,[]=>cL V8
 |x::xs,y::ys=>if Wa.eqv x y=V6 then Ra xs ys else Q0 x y
end
end LD
namespace LD
open PySem PyProof.Rows
structure VE(es:G Za)(WH:G (Unit×U)):Prop where
 vals:es.map (·.val)=WH.map (·.2)
end LD
namespace L10
open PySem PyProof.Rows L2 L3 LD
def nJ:SV->I D
 |.fz d=>if keyD d=S then M d else P
 |_=>P
def UT:SV->I D
 |.fz d=>M d
 |_=>P
def rU(a:aJ):SV->I (Nat×G (D×D))
 |.rf i=>match a[i]? with
  |some (.dd b)=>M (i,b)
  |_=>P
 |_=>P
def gZ(b:G (D×D))(k:D):I D:=(b.find? λa=>Wa.eqv a.1 k).map (·.2)
def qK(b:G (D×D))(k v:D):G (D×D):=if(b.find? λa=>Wa.eqv a.1 k).isSome=S then b.map (λa=>if Wa.eqv a.1 k=S then(a.1,v)else a)else b++[(k,v)]
section
variable{B O O':bE}{K:lD}{E:XK}{H H' S R:Hp}{Y α' X T:b5 Wd}{ω ω' ω1 Z:aJ}{U:L2.St}{ρ:aP}{v:V}{k:KD}
def qM(e:nJ x=M d)(h:Y0 O K H Y v x):∃(k:KD) (b:J),k.1=d/\v=.ref b/\L3.DV O K H (.ref b) d:=by
 cases x with
 |fz z=>
  let e:(if keyD z=V6 then M z else P)=M d:=e;by_cases a:keyD z=V6
  .rw[ax a]at e
   ext e;let h:=h;cases d with
   |tuple xs=>cases h with
    |tup g f=>show#[#[_,a],_,W,W,.tup g f]
   |_=>simp[keyD]at a
  .rw[bb a]at e;ext e
 |rf i=>ext e
 |tp l=>ext e
def G0(s:WT B K H Y ω)(b:Y0 (ow B Y ω) K H Y v x)(h:rU ω x=M (i,o)):ω[i]?=M (.dd o)/\∃a xs,Y[i]?=M a/\v=.ref a/\H a=M (DkO a xs)/\PrD (ow B Y ω) K H xs o:=by
 cases x with
 |fz d=>ext h
 |tp l=>ext h
 |rf j=>
  let(a,n,rfl):=b;unfold rU at h;dsimp only at h;cases q:ω[j]? with
  |none=>rw[q]at h;ext h
  |some c=>
   rw[q]at h;cases c with
   |dd m=>let e:=Wt h;ext e;let(ws,g,f):=s.cel i a _ n q;show#[q,a,ws,n,W,g,f]
   |_=>ext h
def DS:∀{xs:G (KD×J×V)} {c:G (D×D)},PrD O K H xs c->t6 K H xs:=by
 intro _ _ b
 induction b with
 |nil=>show λ_ h=>nomatch h
 | @cons x g xs c h t f=>
  intro y a;rcases WE.mp a with e|a
  .subst e;rw[h.1];show h.2.1.plain
  .show f y a
def u7{x:KD×J×V}{a:D×D}(h:x.1.1=a.1):decide (x.1=k)=Wa.eqv a.1 k.1:=by
 rw[<-h]
 haveI:Decidable (x.1.1=k.1):=Classical.propDecidable _
 rw[Gz (keyD_kd x.1.2).1 (keyD_kd k.2).1];by_cases e:x.1=k
 .rw[bg e,bg (d7 Subtype.val e)]
 .rw[bt e,bt λz=>e (Subtype.ext z)]
def vL:∀{xs:G (KD×J×V)} {b:G (D×D)},PrD O K H xs b->(∀d,gZ b k.1=M d->∃v,oh xs k=M v/\L3.DV O K H v d)/\(gZ b k.1=P->oh xs k=P):=by
 intro _ _ a
 induction a with
 |nil=>show#[λx e=>(by ext e),λ_=>W]
 | @cons x f xs b h t g=>
  unfold gZ oh;rw[W9,W9,u7 h.1];cases Wa.eqv f.1 k.1 with
  |true=>show#[λd e=>#[x.2.2,W,by ext e;show h.2.2],λe=>by ext e]
  |false=>show g
def yC(h:PrD O K H xs o):(oh xs k).isSome=(gZ o k.1).isSome:=by
 let(b,a):=vL h;cases q:gZ o k.1 with
 |none=>rw[a q];rfl
 |some x=>let(u,e,_):=b x q;rw[e];rfl
def Nh:∀{xs:G (KD×J×V)} {c:G (D×D)},PrD O K H xs c->(xs.find? λx=>decide (x.1=k)).isSome=(c.find? λb=>Wa.eqv b.1 k.1).isSome:=by
 intro _ _ a
 induction a with
 |nil=>show W
 | @cons x b xs c h t e=>
  rw[W9,W9,u7 h.1];cases Wa.eqv b.1 k.1 with
  |true=>rfl
  |false=>show e
def So(b:L3.DV O K H v d):∀{xs:G (KD×J×V)} {f:G (D×D)},PrD O K H xs f->PrD O K H (xs.map λx=>if x.1=k then(x.1,x.2.1,v)else x) (f.map λc=>if Wa.eqv c.1 k.1=V6 then(c.1,d)else c):=by
 intro _ _ a
 induction a with
 |nil=>show .nil
 | @cons x c xs f h t g=>
  rw[Wv,Wv];show .cons ?_ (g);let e:=u7 (k:=k) h.1;by_cases z:x.1=k
  .rw[ax z,ax (by rw[<-e];show bg z)];show#[h.1,h.2.1,b]
  .rw[bb z,bb (by rw[<-e,bt z];simp)];show h
def Hu(r:x.1.1=o.1/\L3.DV O K H (.ref x.2.1) o.1/\L3.DV O K H x.2.2 o.2):∀{xs:G (KD×J×V)} {b:G (D×D)},PrD O K H xs b->PrD O K H (xs++[x]) (b++[o]):=by
 intro _ _ a
 induction a with
 |nil=>show .cons r .nil
 | @cons _ _ _ _ g t e=>show .cons g (e)
def Fy(e:L3.DV O K H (.ref b) k.1)(a:L3.DV O K H v d)(h:PrD O K H xs o):PrD O K H (pS xs k b v) (qK o k.1 d):=by
 unfold pS qK;rw[Nh h];split
 .show So a h
 .show Hu #[W,e,a] h
theorem Ql(e:Ev O H O' H')(h:PrD O K H xs o):PrD O' K H' xs o:=Paired.ZF h λ_ _ q=>#[q.1,q.2.1.ev e,q.2.2.ev e]
def qu(neg:Bool)(a fd:cU):cU:=λρ ω=>(a ρ ω).bind λx ω1=>(fd ρ ω1).bind λo Z=>(RS.Xf Z (nJ x)).bind λk Z=>(RS.Xf Z (rU Z o)).bind λp Z=>.ok (.fz (.bool ((gZ p.2 k).isSome !=neg))) Z
def w9(r:cy K E C fk)(hd:cy K E td fd):cy K E (Dh K neg C td) (qu neg fk fd):=by intro B U H Y ω ρ Q s f w;show r B U H Y ω ρ _ s f (w.bind.imp λx X ω1 S e1 l j v p=>?_);show hd B U S X ω1 ρ _ l (f.YD e1) (j.bind.imp λo T Z R e2 g e u q=>?_);let(d,n,e):=WS.Xf e;let((i,L),m,e):=WS.Xf e;let(_,a,xs,A,rfl,y,h):=G0 g q m;let(k,b,rfl,rfl,t):=qM n (p.YD e2);show#[a,b,xs,k,W,W,y,DS h,t.plain,?_];rw[yC h];show WS.now g e _ (.bl _)
def jH(fd a:cU):cU:=λρ ω=>(fd ρ ω).bind λo ω1=>(a ρ ω1).bind λx Z=>(RS.Xf Z (nJ x)).bind λk Z=>(RS.Xf Z (rU Z o)).bind λp Z=>(RS.Xf Z (gZ p.2 k)).bind λd Z=>.ok (.fz d) Z
def CW(hd:cy K E td fd)(C:cy K E tk fk):cy K E (D1 K td tk) (jH fd fk):=by intro B U H Y ω ρ Q s f w;show hd B U H Y ω ρ _ s f (w.bind.imp λo X ω1 S e1 m j u A=>?_);show C B U S X ω1 ρ _ m (f.YD e1) (j.bind.imp λx T Z R e2 g e v t=>?_);let(d,q,e):=WS.Xf e;let((i,N),p,e):=WS.Xf e;let(_,a,xs,L,rfl,G,h):=G0 g (A.YD e2) p;let(k,b,rfl,rfl,F):=qM q t;let(y,n,e):=WS.Xf e;let(z,r,l):=(vL h).1 y n;show#[a,b,xs,k,z,W,W,G,DS h,F.plain,r,WS.now g e z l]
def pB(fd e b:cU):di:=λρ ω=>(b ρ ω).bind λy ω1=>(fd ρ ω1).bind λo Z=>(e ρ Z).bind λx a=>(RS.Xf a (nJ x)).bind λk a=>(RS.Xf a (rU a o)).bind λp a=>(RS.Xf a (UT y)).bind λd a=>if p.2.length<1000000 then .ok (.nx ρ) (a.set p.1 (.dd (qK p.2 k d)))else .bad
def O0(e:UT x=M d)(h:Y0 O K H Y v x):L3.DV O K H v d:=by
 cases x with
 |fz z=>ext e;show h
 |rf i=>ext e
 |tp l=>ext e
def Cu(hd:cy K E td fd)(Q:cy K E tk fk)(N:cy K E tv fv):mW K E (ES K td tk tv) (pB fd fk fv):=by
 intro B U H Y ω ρ D s h w;show N B U H Y ω ρ _ s h (WS.imp (WS.bind w) λy X ω1 S e1 F A p m=>?_);show hd B U S X ω1 ρ _ F (h.YD e1) (WS.imp (WS.bind A) λo T Z R e2 C t u P=>?_);show Q B U R T Z ρ _ C (h.YD (e1.trans e2)) (WS.imp (WS.bind t) λx e g j e3 q f z L=>?_);let(kd,J,f):=WS.Xf f;let((i,WH),I,f):=WS.Xf f;let(d,G,f):=WS.Xf f;let(l,a,xs,ha,rfl,g1,n):=G0 q (P.YD e3) I;let(k,b,rfl,rfl,r):=qM J L;let M:=O0 G (m.YD (e2.trans e3));dsimp only at f;by_cases hn:WH.length<1000000
 .rw[ax hn]at f;let ev:Ev (ow B e g) j (ow B e g) (aW j a (DkO a (pS xs k b p))):=pp ha l (by nofun);let e4:X7 e g j e (g.set i (.dd (qK WH k.1 d))) (aW j a (DkO a (pS xs k b p))):=X7.put ha l (by nofun) (by nofun);let hl:=Paired.length n;show#[a,b,xs,k,W,W,g1,DS n,r.plain,sS (),?_];show f e _ e4 (q.put ha l (by nofun) (by nofun) #[_,az,Fy (r.ev ev) (M.ev ev) (Ql ev n)]) U ((h.YD (e1.trans (e2.trans e3))).YD e4)
 .rw[bb hn]at f;show f.elim
def uE:cU:=λ_ ω=>.ok (.rf ω.length) (ω++[.dd []])
def Cs:cy K E DE uE:=by intro B U H Y ω ρ Q s b w;show λp a=>lj s a w λ_=>#[[],az,.nil]
end
end L10
namespace L3
open PySem PyProof.Rows L2
structure acs(K:lD)(x qual:Str)(st:X1)(f:J)(fd:Xj)(T:J)(W6:Array U):Prop where
 ex:∃(oc:U) (od:I J) (kV doc pm:U) (an:I J) (X8 ct:U) (osl:Array (I U)),
  fd=XI x qual (eS st) (bQ st) (au st) (.ref T) kV doc pm an X8 ct/\K.lookup f=M #[oc,od,.func fd,osl]/\Zp K X8 qual=S
 kp:XT K (.ref f)=S
 tp:∃o n,K.lookup T=M o/\o.data=.seq W6 n
section
variable{P:Wz}{w:WX}{K:lD}{A:Str->b7 V5}{base:Heap}{x Z:Str}{Y:X1}{f:Wd}{Q:Xj}{T:Wd}{y:Array V5}{N ps:b5 Str}{k n m:Nat}{B:Sp}{L:b5 V5}
def acs.binds(F:acs K x Z Y f Q T y)
  (h:∀(kV a b:U) (e:I J) (g ct:U) (us:G U),(us++L).length=ps.length->∃k:I (Array U)->Sem (G (Str×U)),bindArgs (XI x Z (eS Y) (bQ Y) (au Y) (.ref T) kV a b e g ct) #[us,[]]=seqItems? (.ref T)>>=k/\k (M y)=pure (ps.zip (us++L))):Binds K Q ps L:=by
 let(t,r,kV,a,b,e,g,ct,i,rfl,u,l):=F.ex;let(o,n,q,p):=F.tp;intro s us X j;let(k,e1,e2):=h kV a b e g ct us j;show aaz.of_defaults (fd:=XI x Z (eS Y) (bQ Y) (au Y) (.ref T) kV a b e g ct) W (X _ _ q) p e1 e2
def wx(P:Wz)(w:WX)(K:lD)(A:Str->I U)(base:Heap)(b:tS)(k:Nat)(x:Str)(ps:G Str)(a:G V)(B:Sp):Prop:=
 ∃(f:J) (Q:Xj) (L:G U),FnOk P w K A base b k f Q ps B/\Binds K Q ps L/\Vals a L/\XT K (.ref f)=S/\A x=M (.ref f)
def AM(C:wx X.prog X.w X.K X.mg X.base CX k x ps Z4 B)(o:X9 j X.A)(l:dX CX X E)(c:PA X (e::es) t)(g:k<=j:=by decide)(q:Gl X x:=by rfl)
  (h:(x==("__debug__":Str))=R:=by decide) (r:Wu (e::es) X.env=(R,eval e X.env)::Wu es X.env:=by rfl) (a:(backTo pos (Wu es X.env)).any (·.1)=R:=by rfl):
  PE X (.Call (.Name x p) (e::es) [] pos) (jo B Z4 E t):=by
 let(f,Q,L,F,b,v,i,m):=C;show zN F (o.mono g) q m i b v l c h r a
end
end L3
namespace L10
open PySem PyProof.Rows L2 L3
section
variable{P:Wz}{w:WX}{K:lD}{L:Str->b7 V5}{base:Heap}{x Z:Str}{Y:X1}{f:Wd}{fd:Xj}{T:Wd}{W6:Array V5}{N X:b5 Str}{k n m:Nat}{g:di}{FF:fy}
def RI(F:acs K x Z Y f fd T W6)(S:Yr N X (au Y))(c:X.length=n)(hm:N.length=m)(q:FF=cj m g)
  (u:∀(a:U) (A:WQ) (outer:G Env) (s:We) (H:Hp) (E:XK),X9 k (A.deeper (WZ Z (au Y) s.heap.objs.size f a))->
   ∃t,PSs (fx (L4.kN P w) P w K L base N Z (au Y) f a A outer s H E) (bQ Y) t/\mW K E t g):FnOk P w K L base (L4.kN P w) (k+1) f fd X (jR K n FF):=by
 subst q hm;let(B,y,kV,r,v,C,a,ct,i,rfl,j,e):=F.ex;show Gc j e S (λvs H Q E h=>h.1.trans c.symm) λA outer s H vs Q E p b=>?_;let(t,l,o):=u a A outer s H E p;show#[t,l,y0 (xs:=[]) o b]
end
section
variable{K:lD}{E:XK}
def nF(F:fy)(n:Nat)(es:G D)(c:sJ):cU:=λe b=>(c e b).bind λxs a=>if(xs++es.map SV.fz).length=n then F (xs++es.map SV.fz) a else .bad
theorem xX:∀{c ws:G V} {xs b:G SV},YI O K H α c xs->YI O K H α ws b->YI O K H α (c++ws) (xs++b)
 |_,_,_,_,.nil,h=>h
 |_,_,_,_,.cons a t,h=>.cons a (xX t h)
def Cj(hd:∀O H,L3.XS O K H Z4 es)(c:sD K E C fa):cy K E (jo (jR K n F) Z4 E C) (nF F n es fa):=by
 intro B g H α m o Q s h w;show c B g H α m o _ s h (w.bind.imp λxs a b l e1 i f p j=>?_);by_cases hn:(xs++es.map SV.fz).length=n
 .rw[ax hn]at f;let e:=xX j (i6 (ow B a b) a (hd (ow B a b) l));show#[e.length.trans hn,B,a,b,_,i,e,f]
 .rw[bb hn]at f;show f.elim
end
end L10
namespace L3
open PySem L2
section
variable{P:Wz}{w:WX}{K:lD}{Q:Str->b7 V5}{base h:Heap}{f C:Wd}{n m q:Str}{t:X1}{T fs:b5 Str}{Z k:Nat}{N L:Sp}{Y:tS}
theorem MI.ahM(i:MI K C f m q t)(c:CI K C n fs)(b:BA m q t T)(ok:∀fd,Fun K m q t f fd->FnOk P w K Q base Y Z f fd T N):L10.mx P w K Q base Y Z n m T N:=
 let#[fd,z]:=i.F;#[C,f,fd,c.a,c.cls,#[i.a,i.i,z.kp],ok fd z,z.binds b]
theorem MI.aks(i:MI K C f "__init__" q t)(c:CI K C n fs)(X:K.In h)(G:h.Ns Wx Q)(b:BA "__init__" q t T)(ok:∀fd,Fun K "__init__" q t f fd->FnOk P w K Q base Y Z f fd T N):L10.wU P w K Q base Y Z n T N:=
 let#[fd,z]:=i.F;#[C,f,fd,c.a,X3 X G c.a,#[c.mm,i.a,i.i,c.kc],ok fd z,z.binds b]
end
end L3
namespace L10
open PySem PySem.Spec PyProof.Rows L2 L3
section
variable{B O O':bE}{K:lD}{E:XK}{H H' Y H2:Hp}{α α' Z α2:b5 Wd}{T ω' X ω2:aJ}{σ:L2.St}{Q:aP}{v:V}
def lQ(c f:Str)(a:cU):di:=λQ T=>(a Q T).bind λx X=>match x with
 |.fz d=>if L9.Rs d=S then .er #[c,[(f,d)]] X else .bad
 |_=>.bad
def yJ(M:WI K Wx c=cL (cL (.ref C)))(L:cy K E te fe):mW K E (L9.AJ C (L9.ur C f) E (fV te ja)) (lQ c f fe):=by
 intro B σ H α T Q D s G w;show L B σ H α T Q _ s G (WS.imp (WS.bind w) λx Z X Y e1 I a v h=>?_)
 match x,h,a with
 |.fz d,h,a=>
  let h:=h;dsimp only at a;by_cases r:L9.Rs d=S
  .rw[ax r]at a
   let j:L9.Q2 v/\∀(O':bE) (H':Hp),L3.DV O' K H' v d:=by
    cases d with
    |none=>ext h;show#[.inl W,λ_ _=>.Ye]
    |int i=>ext h;show#[.inr #[i,W,b3 r],λ_ _=>.int i]
    |_=>ext r
   show#[by show 1<=Wm;decide,λe hn=>#[e,v,W,j.1,az,λp F g=>#[W,p,?_,?_]]]
   .rw[ar (dN g),az]
   .let u:Y p=Ld:=by rw[ar g]at F;show F
    let A:XZ Y (L9.QU (aW (aW (aW Y e (.ext (L9.HC C e))) e (.ext (L9.QY C e p))) p (.xd [(f,v)])) e):=λb o z=>by
     let t:b≠e:=λy=>by rw[y,hn]at z;ext z
     let J:b≠p:=λy=>by rw[y,u]at z;ext z
     rw[L9.iP t,ar J,ar t,ar t];show z
    show a (.ref C) (cL p) Z _ (X7.same A) (I.grow A) #[#[C,W,M],[(f,v)],λP q=>?_,λm N l=>#[(λz=>nomatch z),?_]]
    .ext q;rw[L9.iP g,az]
    .let n:(match m==f with|true=>cL d|false=>Yg m [])=cL N:=l
     cases hb:m==f with
     |true=>rw[hb]at n;ext n;show#[v,?_,j.2 _ _];show(match m==f with|true=>cL v|false=>Yg m [])=cL v;rw[hb]
     |false=>rw[hb]at n;ext n
  .rw[bb r]at a;show a.elim
 |.rf _,_,a=>show a.elim
 |.tp _,_,a=>show a.elim
end
end L10
namespace L3
open PySem L2
theorem GI{X:Cx}{P:Wz}{w:WX}:dX (L4.kN P w) X E0:=λ_ _ _ _ _ _ _ h=>by let(_,_,_,_,_,_,_,_,_,_,_,_,_,_,_,_,h):=h;show h.elim
end L3
namespace L10
open PySem PyProof.Rows L2 L3
section
variable{B O r:bE}{K:lD}{E:XK}{H q N p:Hp}{L A Z y:b5 Wd}{X u Y t:aJ}{C:L2.St}{T:aP}{v:V}
def kX(F:fy)(n:Nat)(es:G D)(a:sJ):cU:=λT X=>(a T X).bind λxs Y=>if(xs++es.map SV.fz).length=n then ku (F (xs++es.map SV.fz) Y)else .bad
def yw(hd:∀O H,L3.XS O K H Z4 es)(c:sD K E o fa):cy K E (jo (jR K n F) Z4 E0 o) (kX F n es fa):=by
 intro B C H L X T Q s e w;show c B C H L X T _ s e (w.bind.imp λxs Z Y N e1 f b h g=>?_);by_cases hn:(xs++es.map SV.fz).length=n
 .rw[ax hn]at b;let a:=xX g (i6 (ow B Z Y) Z (hd (ow B Z Y) N));show#[a.length.trans hn,B,Z,Y,_,f,a,WS.e0 b]
 .rw[bb hn]at b;show b.elim
end
end L10
namespace L4
open PySem PySem.Spec PySem.W PyProof.Rows L2 L3
def xC{X:Cx}{i:L2.St}{d:XK}{K:lD}{P:Wz}{w:WX}{mg:Str->b7 V5}{base:Heap}{k j:Nat}{x:Str}{V:b5 Str}{sp:Sp}{e:Wy}{es:b5 Wy}{t:TA}{p a B:Pos}(o:X.ex=[])(C:wx P w K mg base (L4.kN P w) k x V [] sp)(hP:X.prog=P)(hw:X.w=w)(hK:X.K=K)(hm:X.mg=mg)(O:X.base=base)(hr:X9 j X.A)(ha:PA (X.ZZ (oK X i d)) (e::es) t)(L:k<=j:=by decide)(hg:Gl X x:=by rfl)
  (N:(x==("__debug__":Str))=V8:=by decide) (he:Wu (e::es) X.env=(V8,eval e X.env)::Wu es X.env:=by rfl) (J:(backTo a (Wu es X.env)).any (·.1)=V8:=by rfl) (hs:Yu (.Call (.Name x p) (e::es) [] a) Ld B.line X.env=pure V8:=by rfl):
  Sa (X.ZZ (oK X i d)) [.Expr (.Call (.Name x p) (e::es) [] a) B] i (sO (jo sp [] d t)):=by
 subst hP hw hK hm O;let(f,fd,dsv,Y,b,M,kp,m):=C;ext M;intro g s H D I h;show abY (bJ (aji (Q:=SP (X.ZZ (oK X i d)) g D) ?_ I.quiet hs) λR G q=>?_)
 .show XX (iY I hg m ?_ N)
  show Zo (h₀:=X.base) I.ok.mod.kin kp (bJ (ha a g s i H _ I h) λl G #[A,H1,E,r,q]=>#[E.kIn,?_]) he J;let U:Vals (A++[]) (l++[]):=r.append .nil;let hl:(l++[]).length=V.length:=by rw[<-U.length];show Y.len _ _ _ _ q
  show ZX (ZL (Y.run X.A X.stack G H1 #[l,[]] (l++[]) (A++[]) _ d (hr.mono L) E.afb (b G l E.kIn hl) U q) λr s' n=>?_);cases r with
  |error ex=>let(e,c,dx,a0,T,H',rfl,le,lT,F,ne,nT,os,y,un,Xw,q):=n;let S:=E.Zs;let I':=S.aeF (ch:=[]) os un Xw y (λb z=>nomatch z);show#[H',e,c,dx,a0,T,W,I'.ab5 (λp z=>nomatch z),F,rD S o le,rD S o lT,ne,nT,q]
  |ok R=>
   cases R with
   |ret u=>let(v,H2,I2,rv,Z):=E.after n;show#[i,H2,I2,Z]
   |next=>show False.elim n
   |brk=>show False.elim n
   |cont=>show False.elim n
 .cases R with
  |next=>show Y1 q
  |ret v=>show q
  |brk=>show q
  |cont=>show q
end L4
namespace L10
open PySem L2 L3
def UB(T:A->aJ->Prop)(X:Xc->Prop):RS A->Prop
 |.ok a b=>T a b
 |.er x _=>X x
 |.bad=>False
structure Out{A:Type}(r:RS A)(T:A->aJ->Prop)(X:Xc->Prop):Prop where
 out:UB T X r
section
variable{A B:Type}{r Q:RS A}{T N:A->aJ->Prop}{U:B->aJ->Prop}{X:Xc->Prop}{Y:aJ}
def Out.eq(e:r=Q)(h:Out Q T X):Out r T X:=by rw[e];show h
def Out.imp(h:Out r T X)(k:∀a Y,T a Y->N a Y):Out r N X:=by
 show#[?_];let h:=h.out;cases r with
 |bad=>show h
 |er x o=>show h
 |ok a o=>show k a o h
def Out.bind(h:Out r (λa o=>Out (f a o) U X) X):Out (r.bind f) U X:=by
 show#[?_];let h:=h.out;cases r with
 |bad=>show h
 |er x o=>show h
 |ok a o=>show(show Out (f a o) U X from h).out
def Out.all(h:Out r T λ_=>False):∃a o,r=.ok a o/\T a o:=by
 let h:=h.out;cases r with
 |bad=>show h.elim
 |er x o=>show h.elim
 |ok a o=>show#[a,o,W,h]
def Out.er(h:Out r (λ_ _=>False) X):∃x o,r=.er x o/\X x:=by
 let h:=h.out;cases r with
 |bad=>show h.elim
 |er x o=>show#[x,o,W,h]
 |ok a o=>show h.elim
end
section
variable{ρ ρ1 Y:aP}{ω ω1 Z B:aJ}{x y z:SV}{i n:Nat}{d:D}{L:b5 D}{b:Bool}{f g:di}{Q:cU}{N:aP->aJ->Prop}{T:SV->aJ->Prop}{X:Xc->Prop}
def Vw(N:aP->aJ->Prop)(T:SV->aJ->Prop):FlS->aJ->Prop
 |.nx ρ,ω=>N ρ ω
 |.rt v,ω=>T v ω
 |_,_=>False
abbrev lf(r:RS FlS)(N:aP->aJ->Prop)(T:SV->aJ->Prop)(X:Xc->Prop):Prop:=Out r (Vw N T) X
def jz(h:lf (f ρ ω) (λr o=>lf (g r o) N T X) T X):lf (aD f g ρ ω) N T X:=by
 show Out.bind (h.imp λa o k=>?_);cases a with
 |nx r=>show k
 |rt v=>show#[k]
 |ct r=>show k.elim
 |bk r=>show k.elim
theorem Ay(a:f ρ ω=.ok (.nx ρ1) ω1)(h:lf (g ρ1 ω1) N T X):lf (aD f g ρ ω) N T X:=jz (.eq a #[h])
theorem x4(a:f ρ ω=.ok (.nx ρ1) ω1)(h:N ρ1 ω1):lf (f ρ ω) N T X:=.eq a #[h]
theorem de(e:Q ρ ω=.ok x ω1)(a:gt x ρ ω1=.ok ρ1 Z)(h:lf (g ρ1 Z) N T X):lf (aD (bX Q gt) g ρ ω) N T X:=Ay (by ext bX;rw[e,eh,a,eh]) h
theorem AD(a:Out (Q ρ ω) (λx ω1=>lf (g (ρ.set i (M x)) ω1) N T X) X):lf (aD (bX Q (eK i)) g ρ ω) N T X:=jz (Out.bind (a.imp λ_ _ k=>#[k]))
theorem FY(a:Out (Q ρ ω) (λ_ ω1=>N ρ ω1) X):lf (bf Q ρ ω) N T X:=Out.bind (a.imp λ_ _ k=>#[k])
def Hc{a j:di}(e:c ρ ω=.ok S ω1)(h:lf (aD a g ρ ω1) N T X):lf (aD (bT c a j) g ρ ω) N T X:=by show .eq ?_ h;unfold aD bT;rw[e,eh,ax W]
def uX{j a:di}(e:c ρ ω=.ok R ω1)(h:lf (aD a g ρ ω1) N T X):lf (aD (bT c j a) g ρ ω) N T X:=by show .eq ?_ h;unfold aD bT;rw[e,eh,bb Wr]
theorem oM(h:lf (g ρ ω) N T X):lf (aD b6 g ρ ω) N T X:=jz #[h]
theorem mh(a:Q ρ ω=.ok x ω1)(h:T x ω1):lf (fW Q ρ ω) N T X:=.eq (ir a) #[h]
theorem zJ(a:Q ρ ω=.ok x ω1)(h:T x ω1):lf (aD (fW Q) g ρ ω) N T X:=jz (mh a h)
def rj(a:xs.map M++Wk (n - xs.length) P=ρ)(h:lf (g ρ ω) (λ_ c=>T (.fz .none) c) T X):Out (cj n g xs ω) T X:=by
 ext cj;rw[a];show Out.bind (h.imp λe o k=>?_);cases e with
 |nx r=>show#[k]
 |rt v=>show#[k]
 |ct r=>show k.elim
 |bk r=>show k.elim
theorem Gu{b:di}(I:Nat->aP->aJ->Prop)(M:Nat)(j:∀n ρ ω,I n ρ ω->(∃ω1,c ρ ω=.ok R ω1/\N ρ ω1)\/(n<M/\∃ω1,c ρ ω=.ok S ω1/\lf (b ρ ω1) (I (n+1)) T X)):∀(m n:Nat) (ρ:aP) (ω:aJ),M - n<m->I n ρ ω->lf (rY c b m ρ ω) N T X
 |0,n,_,_,h,_=>by ext
 |m+1,n,ρ,ω,h,h0=>by
  rcases j n ρ ω h0 with⟨ω1,e,p⟩|⟨q,ω1,e,l⟩
  .show .eq (show rY c b (m+1) ρ ω=.ok (.nx ρ) ω1 from ?_) #[p];show((c ρ ω).bind _)=_;rw[e,eh,bb Wr]
  .show .eq (show rY c b (m+1) ρ ω=(b ρ ω1).bind λa Z=>match a with
    |.nx Y=>rY c b m Y Z
    |.ct Y=>rY c b m Y Z
    |.bk Y=>.ok (.nx Y) Z
    |.rt x=>.ok (.rt x) Z from ?_) (Out.bind (l.imp λa o k=>?_))
   .show((c ρ ω).bind _)=_
    rw[e,eh,ax W]
    all_goals (cases b ρ ω1 with
     |bad=>rfl
     |er x o=>rfl
     |ok a o=>ext a<;>rfl)
   .cases a with
    |nx r=>show Gu I M j m (n+1) r o () k
    |rt v=>show#[k]
    |ct r=>show k.elim
    |bk r=>show k.elim
theorem wY{b:di}(I:Nat->aP->aJ->Prop)(M:Nat)(h:M<1000000)(e:I 0 ρ ω)(a:∀n ρ ω,I n ρ ω->(∃ω1,c ρ ω=.ok R ω1/\N ρ ω1)\/(n<M/\∃ω1,c ρ ω=.ok S ω1/\lf (b ρ ω1) (I (n+1)) T X)):lf (qY c b ρ ω) N T X:=Gu I M a 1000000 0 ρ ω () e
theorem ug{b:di}(I:Nat->aP->aJ->Prop):∀(L:G D) (k:Nat) (ρ:aP) (ω:aJ),I k ρ ω->(∀i d ρ ω,L[i]?=M d->I (k+i) ρ ω->∃ρ1 ω1,gt (.fz d) ρ ω=.ok ρ1 ω1/\lf (b ρ1 ω1) (I (k+i+1)) T X)->lf (iK gt b L ρ ω) (I (k+L.length)) T X
 |[],k,ρ,ω,h0,_=>#[h0]
 |d::r,k,ρ,ω,h0,C=>by
  let(ρ1,ω1,w,u):=C 0 d ρ ω W h0;let p:∀j a,I (k+1) j a->lf (iK gt b r j a) (I (k+(r.length+1))) T X:=λj a h=>by
   let e:k+(r.length+1)=k+1+r.length:=by ext
   rw[e];show ug I r (k+1) j a h λi A m l hi t=>?_;let e:k+1+i=k+(i+1):=by ext
   rw[e]at t⊢;show C (i+1) A m l (by simpa using hi) t
  show .eq (show iK gt b (d::r) ρ ω=(b ρ1 ω1).bind λq Z=>match q with
   |.nx Y=>iK gt b r Y Z
   |.ct Y=>iK gt b r Y Z
   |.bk Y=>.ok (.nx Y) Z
   |.rt x=>.ok (.rt x) Z from ?_) (Out.bind (u.imp λq o k=>?_))
  .show((gt (.fz d) ρ ω).bind _)=_
   rw[w,eh]
   all_goals (cases b ρ1 ω1 with
    |bad=>rfl
    |er x o=>rfl
    |ok q o=>ext q<;>rfl)
  .cases q with
   |nx r=>show p _ _ k
   |rt v=>show#[k]
   |ct r=>show k.elim
   |bk r=>show k.elim
def Py{b:di}(I:Nat->aP->aJ->Prop)(m:C ρ ω=.ok L ω1)(h:I 0 ρ ω1)(a:∀i d ρ ω,L[i]?=M d->I i ρ ω->∃ρ1 ω1,gt (.fz d) ρ ω=.ok ρ1 ω1/\lf (b ρ1 ω1) (I (i+1)) T X)(e:∀l c,I L.length l c->N l c):lf (nW C gt b ρ ω) N T X:=by
 let:=ug I L 0 ρ ω1 h (by simpa using a);rw[Yj]at this;show .eq ?_ (this.imp λj o k=>?_)
 .ext nW;rw[m,eh]
 .cases j with
  |nx r=>show e _ _ k
  |rt v=>show k
  |ct r=>show k.elim
  |bk r=>show k.elim
def AL(a:fo ρ ω=.ok (.rf i) ω1)(h:ω1[i]?=M (.obj C fs))(hm:fs.lookup m=P)(j:fa ρ ω1=.ok xs Z)(c:(SV.rf i::xs).length=n):nz C m F n fo fa ρ ω=F (.rf i::xs) Z:=by
 let e:kr ω1 C m (.rf i)=S:=by ext kr;dsimp only;rw[h];dsimp only;rw[hm];simp
 ext nz;rw[a,eh,ax e,j,eh,ax c]
def NA(c:fa ρ ω=.ok xs ω1)(a:(SV.rf ω1.length::xs).length=n):BV C F n fa ρ ω=(F (.rf ω1.length::xs) (ω1++[.obj C []])).bind λr Z=>(if B4 r=S then .ok (.rf ω1.length) Z else .bad):=by ext BV;rw[c,eh];ext sI;rw[ax a]
def wL(c:fa ρ ω=.ok xs ω1)(a:(xs++es.map SV.fz).length=n):nF F n es fa ρ ω=F (xs++es.map SV.fz) ω1:=by ext nF;rw[c,eh,ax a]
def mL(e:o ρ ω=.ok xs ω1)(c:(xs++es.map SV.fz).length=n)(a:F (xs++es.map SV.fz) ω1=.ok x Z):kX F n es o ρ ω=.ok x Z:=by ext kX;rw[e,eh,ax c,a];rfl
def Ci{c f:Str}(h:Q ρ ω=.ok (.fz d) ω1)(hd:L9.Rs d=S):lQ c f Q ρ ω=.er #[c,[(f,d)]] ω1:=by ext lQ;rw[h,eh];dsimp only;rw[ax hd]
end
end L10
namespace L3
open PySem PyProof.Rows L2
section
variable{P:Wz}{w:WX}{K:lD}{N:Str->b7 V5}{base h:Heap}{f T:Wd}{n:Str}{t:X1}{Q:b5 Str}{Y:Nat}{L:Sp}{U:tS}{Z:Array V5}
theorem NI.akY(i:NI K f n t)(X:K.In h)(G:h.Ns Wx N)(b:BA n n t Q)(ok:∀fd,Fun K n n t f fd->FnOk P w K N base U Y f fd Q L):wx P w K N base U Y n Q [] L:=
 let#[fd,z]:=i.F;#[f,fd,[],ok fd z,z.binds b,.nil,z.kp,X3 X G i.a]
structure DI(K:lD)(f T:J)(n:Str)(t:X1)(Z:Array V5):Prop where
 a:WI K Wx n=M (M (.ref f))
 F:∃fd,acs K n n t f fd T Z
theorem IU{x a:Str}{st:X1}{q:V5}{p:I J}{kV b i:V5}{j:I J}{g ct:V5}{e:Array (I V5)}{o:V5}{m:I J}{k:Nat}{l:Array (I V5)}
  (r:K.lookup f=M #[q,p,.func (XI x a (eS st) (bQ st) (au st) (.ref T) kV b i j g ct),e]) (v:Zp K g a=S) (u:XT K (.ref f)=S) (lt:K.lookup T=M #[o,m,.seq Z k,l]):acs K x a st f (XI x a (eS st) (bQ st) (au st) (.ref T) kV b i j g ct) T Z:=
 #[#[_,_,_,_,_,_,_,_,_,W,r,v],u,_,_,lt,W]
def BD(n:Str)(t:X1)(T:J)(Z:Array V5)(Q:G Str)(ds:G V5):Prop:=∀(kV b e:V5) (g:I J) (i ct:V5) (a:G V5),(a++ds).length=Q.length->∃k:I (Array V5)->Sem (G (Str×V5)),bindArgs (XI n n (eS t) (bQ t) (au t) (.ref T) kV b e g i ct) #[a,[]]=seqItems? (.ref T)>>=k/\k (M Z)=pure (Q.zip (a++ds))
theorem DI.cal{ds:b5 V5}{b:b5 V}(i:DI K f T n t Z)(X:K.In h)(G:h.Ns Wx N)(g:BD n t T Z Q ds)(e:Vals b ds)(ok:∀fd,acs K n n t f fd T Z->FnOk P w K N base U Y f fd Q L):wx P w K N base U Y n Q b L:=
 let#[fd,z]:=i.F;#[f,fd,ds,ok fd z,z.binds g,e,z.kp,X3 X G i.a]
end
structure Tp(P:Wz)(w:WX)(K:lD)(mg:Str->I U)(base h:Heap):Prop where
 X:K.In h
 G:h.Ns Wx mg
section
variable{P:Wz}{w:WX}{K:lD}{X:Str->b7 V5}{base h:Heap}{f C T:Wd}{n m q:Str}{t:X1}{Q fs:b5 Str}{Z:Nat}{N:Sp}{Y:tS}{U:Array V5}
theorem NI.c(i:NI K f n t)(W:Tp P w K X base h)(ok:∀fd,Fun K n n t f fd->FnOk P w K X base kg Z f fd Q N)(a:BA n n t Q:=by ext:2):vS P w K X base Z n Q N:=i.cal W.X W.G a ok
theorem NI.d(i:NI K f n t)(W:Tp P w K X base h)(ok:∀fd,Fun K n n t f fd->FnOk P w K X base Y Z f fd Q N)(a:BA n n t Q:=by ext:2):wx P w K X base Y Z n Q [] N:=i.akY W.X W.G a ok
theorem MI.mt(i:MI K C f m q t)(c:CI K C n fs)(W:Tp P w K X base h)(ok:∀fd,Fun K m q t f fd->FnOk P w K X base Y Z f fd Q N)(a:BA m q t Q:=by ext:2):L10.mx P w K X base Y Z n m Q N:=i.ahM c a ok
theorem MI.k(i:MI K C f "__init__" q t)(c:CI K C n fs)(W:Tp P w K X base h)(ok:∀fd,Fun K "__init__" q t f fd->FnOk P w K X base Y Z f fd Q N)(a:BA "__init__" q t Q:=by ext:2):L10.wU P w K X base Y Z n Q N:=i.aks c W.X W.G a ok
theorem DI.c{ds:G V5}{a:G V}(i:DI K f T n t U)(W:Tp P w K X base h)(b:Vals a ds)(ok:∀fd,acs K n n t f fd T U->FnOk P w K X base Y Z f fd Q N)(e:BD n t T U Q ds:=by ext:8):wx P w K X base Y Z n Q a N:=i.cal W.X W.G e b ok
end
end L3
namespace L10
open PySem PySem.Spec PyProof.Rows L2 L3
def P7:D->D->I RV:=fI λi j=>i+j
def LN:R2:=UR λi j=>i+j
theorem K2{X:Cx}:TH X .Add LN:=PM
def BC{K:lD}:jG K LN P7:=by intro O H x y h f g Q n b a e q;let(i,j,rfl,rfl,rfl):=wT e;ext b;ext a;show#[_,_,W,W,q.at (.int _)]
end L10
namespace L4
open PySem PySem.Spec PyProof.Rows L2 L3
def LC(k:XK)(i:Nat)(d g:TS):TS:=λD f H=>d D f H/\∀c j H1,k c j H1->∀(e:J) (a:Obj),H1 e=P->a.cls=c->a.dict=j->aeb a=S->
 g {nx:=λb h=>D.nx (b.set i P) h,rt:=D.rt} (f.set i (M (.ref e))) (aW H1 e (.frz a (.own e)))
def JV{X:Cx}{body V:G X1}{b0:X1}{tb ts:TS}{E2:XK}{U:J}{x n:Str}{i:Nat}{np akB pos:Pos}{mU:G V5}
  (hex:X.ex=[]) (hN:X.N.Nodup) (db:X.stack=X.env::X.outer) (hfr:X.env.frame=M X.env.locals) (hg:Gl X x) (hm:X.mg x=M (.ref U)) (hU:Bw X.K U mU) (hbU:mU.contains (.type "BaseException")=S)
  (hi:X.N[i]?=M n) (d:X.env.kindOf n=M .local) (hb:∀l σ,Sa ((Cx.pinned X l).ZZ (oK (Cx.pinned X l) σ E2)) body σ tb) (hs:∀l e,PSs (Cx.marked (Cx.pinned X l) e) (b0::V) ts)
  (hE:∀c dx H,E2 c dx H->∃C m,c=.ref C/\Bw X.K C m/\(V5.ref C::m).contains (.ref U)=S) (hdb:(x==("__debug__":Str))=R:=by decide):
  PS X (.Try body [.ExceptHandler (M (.Name x np)) (M n) (b0::V) akB] [] [] pos) (LC E2 i tb ts):=by
 intro pins s σ H D I #[h,hc];let IY:=Je I;let Y:(Cx.pinned X (X.pn++pins)).ex=[]:=hex;show wpAny_Try_except (wpAny_mono (hb (X.pn++pins) σ [] s H D (IY.ZZ _) h) (λf s1 hf=>?_) (λv s1 hx=>?_))
 .let hf:=SP.Zs hf
  cases f with
  |next=>let(a,H1,g,B):=hf;show Y1 #[a,H1,gC I.ok g,B]
  |brk=>let(a,H1,g,B):=hf;show#[a,H1,gC I.ok g,B]
  |cont=>let(a,H1,g,B):=hf;show#[a,H1,gC I.ok g,B]
  |ret u=>let(v,a,H1,g,r,B):=hf;show#[v,a,H1,gC I.ok g,r,B]
 .let(H1,e,c,dx,a0,T,rfl,g,F,L,aT,ne,nT,q):=hx
  let(C,mC,hcC,(n1,B,N1,b1,d1,t1,u1,a1,l1,x1,i0,i1,i2,i3,i5,id1,kC),hup):=hE c dx H1 q;let(n2,q2,N2,b2,d2,t2,u2,a2,l2,x2,j0,j1,j2,j3,j5,id2,kU):=hU;let fr:X.A.frames=M (X.env::X.outer):=by rw[<-db];show I.ok.frames
  let ff:s1.heap.FunFrames X.base (X.env::X.outer):=by rw[<-db];show g.stack
  show IJ fr ff hfr F λh2 T2 z2 F2 L2'=>?_
  let I2:L2.Inv (Cx.pinned X (X.pn++pins)) [] σ H1 {s1 with heap:=h2}:=wy g (λb=>b=e\/b=T) Y (λp hp y=>y.elim (L.nP p hp) (aT.nP p hp))
   (λb o z t nf=>L2'.keep b o z (λy=>t (.inl y)) (λy=>t (.inr (Wt y).symm)) (by rw[<-db];show nf))
   (λb o z t=>L2'.slot b o z (λy=>t (.inl y)) (λy=>t (.inr (Wt y).symm))) L2'.here
   (λb y=>y.elim (λy=>by rw[y];show L.n0) (λy=>by rw[y];show aT.n0)) (λy=>y.elim (λy=>L.nL y.symm) (λy=>aT.nL y.symm))
   (λy k z w=>w.elim (L.nC y k z) (aT.nC y k z)) (λb y=>y.elim (λy=>by rw[y];show ne) (λy=>by rw[y];show nT))
  let A:Apart (Cx.pinned X (X.pn++pins)) T2:=rD g Y (da z2);let nT2:H1 T2=P:=g.Xw.fresh z2;show wpAny_handleBy_cons (codeAny_handlers_test (iY (X:=Cx.marked (Cx.pinned X (X.pn++pins)) e) (qD I2 e) hg hm ?_ hdb)) (by nofun);let F2':=F2;let(ob,fs,qe,cE,dE,dF,_):=F2';show Dw (I2.kIn _ _ kC) (I2.kIn _ _ kU) qe (cE.trans hcC) hbU hup ?_;show codeAny_handlers_suite_as (Nd F2 λh3 F3 j hT3=>?_);let neT:e≠T2:=λy=>by let(_,_,_,_,_,_,_,_,w,_):=F2;show w y.symm
  let I3:L2.Inv (Cx.pinned X (X.pn++pins)) [] σ H1 {s1 with heap:=h3}:=wy (s:={s1 with heap:=h2}) I2 (λb=>b=T2) Y (λp hp y=>A.nP p hp y)
   (λb o z t _=>(j b t).trans z) (λb o z t=>#[o.slots,(j b t).trans z])
   (λb o z=>(Classical.em (b=T2)).elim (λy=>by rw[y];show hT3) (λy=>#[o,(j b y).trans z])) (λb y=>by rw[y];show A.n0) (λy=>A.nL y.symm) (λy k z w=>A.nC y k z w) (λb y=>by rw[y];show nT2)
  let I4:=Cg I3 L.nP ((j e neT).trans qe) ne L.n0 L.nL L.nC;show lx (X:=Cx.marked (Cx.pinned X (X.pn++pins)) e) (qD I4 e) hN hi (.inl d) (v:=.ref e) W (λs4 I5=>?_) (.inr d);let w:=hc c dx H1 q e ob ne cE dE (by ext aeb;rw[dF]);show wpAny_mono (hs (X.pn++pins) e [] s4 _ _ _ I5 w) (λf s5 hf=>?_) (λy s5 z=>z.elim);cases f with
  |next=>let(N,H2,I6,Q):=hf;show sU (qW IY.ok I6) hN hi d λs6 I7=>#[_,_,gC I.ok I7,Q]
  |brk=>let(N,H2,I6,Q):=hf;show Q.elim
  |cont=>let(N,H2,I6,Q):=hf;show Q.elim
  |ret u=>let(v,N,H2,I6,r,Q):=hf;show sU (qW IY.ok I6) hN hi d λs6 I7=>#[v,_,H2,gC I.ok I7,r,Q]
end L4
namespace L10
open PySem PyProof.Rows L2 L3
def BG(F:FN)(n:Nat)(c:sJ):cU:=λe b=>(c e b).bind λxs a=>match av (rX 6 a) xs with
 |some ds=>if ds.length=n then(match F ds with
  |.ok f=>sF a f
  |_=>.bad)else .bad
 |none=>.bad
def Dv{K:lD}{E:XK}{F:FN}{n:Nat}{c:sJ}(d:sD K E C c):cy K E (jo (y1 K n F) [] E0 C) (BG F n c):=by
 intro B j H α p t Q s l w;show d B j H α p t _ s l (w.bind.imp λxs f b i e1 g a u m=>?_);rw[W5];cases o:av (rX 6 b) xs with
 |none=>rw[o]at a;show a.elim
 |some ds=>
  rw[o]at a;let h:XS noO K i u ds:=iQ (bW (R:=Y0 (ow B f b) K i f) (λv x y r e=>iX g 6 r e) m o);dsimp only at a;by_cases hn:ds.length=n
  .rw[ax hn]at a
   show#[h.length.trans hn,noO,ds,λ_ z=>z.elim,h,?_];cases q:F ds with
   |bad=>rw[q]at a;show a.elim
   |er x=>rw[q]at a;show a.elim
   |ok A=>rw[q]at a;show AY g a
  .rw[bb hn]at a;show a.elim
def KI{F:FN}{n:Nat}{g:sJ}{f:aP}{e c:aJ}{xs:G SV}{ds:G D}{d:D}(i:g f e=.ok xs c)(hd:av (rX 6 c) xs=M ds)(h:ds.length=n)(b:F ds=.ok (.fz d))(a:wf d=S):BG F n g f e=.ok (.fz d) c:=by ext BG;rw[i,eh,hd];dsimp only;rw[ax h,b];show ax a
end L10
namespace PySem
namespace SetTable
def Vd(xs:Array Nat):Prop:=xs.toList.Pairwise (·<·)
structure TI(b:Bool)(t:SetTable):Prop where
 led:t.led=b
 dm:t.dummies= #v[]
 ris:Vd t.place
end SetTable
end PySem
namespace PySem
open SetTable
section
variable{prog:Wz}{w:WX}{K:Type}[DecidableEq K]{knd:KeyKind prog w K}{A:WQ}{E:V5->We->Prop}{s:We}{b:Bool}{a:Wd}{es:Array (Int×V5)}
structure SetX(knd:KeyKind prog w K)(b:Bool)(h:Heap)(a:J)(es:Array (Int×U)):Prop where
 x:∃o ep t,h.get? a=M o/\o.ExactSet/\o.data=.set es ep t/\t.fits es.size=S/\TI b t
 el:ElemsOf knd es.toList
 sz:es.size<scanBound
end
end PySem
namespace PySem
namespace SetTable
structure TT(t:SetTable)(n:Nat):Prop where
 k:∃k,t.mask+1=2^k
 dm:t.dummies= #v[]
 ris:Vd t.place
 le:∀v∈t.place.toList,v<=t.mask
 sz:t.place.size=n
 few:n*5<t.mask*3
section
variable{t:SetTable}{n:Nat}{p:Probe}
structure PI(t:SetTable)(p:Probe):Prop where
 nine:p.more<=9
 jm:p.j+p.more<=t.mask
 pt:p.perturb<2^64
 dm:p.dummy=P
end
end SetTable
end PySem
namespace LD
open PySem PySem.SetTable PyProof.Rows L2 L3
section
variable{prog:Wz}{w:WX}{E:V5->We->Prop}
variable{A:WQ}{s:We}
structure SetH(prog:Wz)(w:WX)(b:Bool)(h:Heap)(a:J)(es:Array (Int×U))(ks:G (KD×J)):Prop where
 x:∃o ep t,h.get? a=M o/\o.ExactSet/\o.data=.set es ep t/\TT t es.size/\t.led=b/\t.mask<=8*es.size+8
 el:∀e∈es.toList,∃k c,(k,c)∈ks/\e.2=.ref c/\(fT prog w).is h k c
mutual
theorem C1{h h':Heap}{x:Wd}{e:Obj}(f:h.get? x=cL e)(i:∀vs n,e.data≠.seq vs n)(g:Heap.SameBut x h h'):∀(d:Wa) (v:V5) (as:b5 Wd),kd d=V6->acR h v d as->acR h' v d as
 |.none,_,_,_,r=>by cases r;exact .none
 |.int _,_,_,_,r=>by cases r;exact .int _ _
 |.str _,_,_,_,r=>by cases r;exact .str _ _
 |.tuple xs,_,_,k,r=>by
  cases r with
  | @tuple a o vs n _ _ h1 h2 h3 h4=>
   have b:a≠x:=by rintro rfl;rw[f]at h1;cases h1;exact i _ _ h3
   unfold kd at k;exact .tuple ((g.2 a b).trans h1) h2 h3 (qL f i g xs _ _ k h4)
 |.bool _,_,_,h,_|.list _,_,_,h,_|.dict _,_,_,h,_=>by simp[kd]at h
theorem qL{h h':Heap}{x:Wd}{a:Obj}(b:h.get? x=cL a)(f:∀vs n,a.data≠.seq vs n)(e:Heap.SameBut x h h'):∀(ds:b5 Wa) (vs:b5 V5) (as:b5 Wd),kds ds=V6->aaY h vs ds as->aaY h' vs ds as
 |[],_,_,_,r=>by cases r;exact .nil
 |d::ds,_,_,k,r=>by
  cases r with
  |cons i g=>unfold kds at k;rw[V7]at k;exact .cons (C1 b f e d _ _ k.1 i) (qL b f e ds _ _ k.2 g)
end
end
end LD
namespace L2
open PySem PySem.Spec PyProof.Rows
variable{X:Cx}{a b:Wy}{Y:b5 Wy}{T:Pos}{Q N:TE}
end L2
namespace CC
open PySem L2 L3 L10
def iR:Wy->Bool
 |.BinOp .. |.UnaryOp .. |.IfExp .. |.ListComp .. |.Compare .. |.Call .. |.Constant .. |.Attribute .. |.Subscript .. |.Name .. |.List .. |.Tuple .. |.BoolOp .. |.JoinedStr .. |.Dict .. =>S
 |_=>R
def fF:Wy->Bool
 |.BinOp .. |.Call .. |.Attribute .. |.Subscript .. |.Name .. =>S
 |_=>R
def Qm:Wy->Bool
 |.ListComp .. =>S
 |_=>R
def RD:Wy->Bool
 |.Constant .. |.Attribute .. |.Subscript .. |.Name .. =>S
 |_=>R
section
variable{e o a b:Wy}{es:b5 Wy}{env:Env}{Y p:Pos}{n k:Nat}
def iT(h:iR e=S):Wu (e::es) env=(R,eval e env)::Wu es env:=by ext e<;>first|rfl|ext h
def uN(h:iR e=S):A9 e:=by ext e<;>first|(intro _ _;rfl)|ext h
def zX(h:iR e=S):∀x,foldedSetIterable e env x=pure x:=by ext e<;>first|(intro _;rfl)|ext h
def HM(h:fF e=S):∀whole:Sem U,isTrue e env whole=(do let v<-whole;standAt e.pos;holding [v] (truthy v)):=by ext e<;>first|(intro _;rfl)|ext h
def Ab{t}(h:(iR e&& !Qm e)=S):Yu e t n env=pure R:=by ext e<;>first|rfl|ext h
def S5{f p}(h:iR e=S):Yu e (M (.Attribute o f p)) n env=pure R:=by ext e<;>first|rfl|ext h
def Mu(h:iR e=S):Yu e (M (.Subscript o a p)) n env=pure R:=by ext e<;>first|rfl|ext h
def gz{f:Str}(h:RD e=S):attributeBase e f env (eval e env)=eval e env:=by ext e<;>first|rfl|ext h
def JJ(h:iR e=S):N8 e=R:=by ext e<;>first|rfl|ext h
def JY(h:fF e=S):swapsWithSole [.Tuple es k p] e n env=pure R:=by ext e<;>first|rfl|ext h
def Cq(h:fF e=S):swappedStores [.Tuple es k p] e env=pure P:=by ext e<;>first|rfl|ext h
def Pa(h:es.all iR=S):((backTo Y (Wu es env)).any λx=>x.1)=R:=by
 induction es with
 |nil=>rfl
 |cons e es f=>rw[Yz,V7]at h;rw[iT h.1];show f h.2
def Ps(h:es.all iR=S):((backTo Y (Wu es env)).all λx=> !x.1)=S:=by
 induction es with
 |nil=>rfl
 |cons e es f=>rw[Yz,V7]at h;rw[iT h.1];show f h.2
def dA(h:(e::es).all iR=S):Wu (e::es) env=(R,eval e env)::Wu es env:=by rw[Yz,V7]at h;show iT h.1
def gM(h:(e::es).all iR=S):((backTo Y (Wu es env)).any λx=>x.1)=R:=by rw[Yz,V7]at h;show Pa h.2
def oG(h:es.all iR=S)(f:es.length<20):methodCallForm (es.length+([]:G Z8).length) (backTo Y (Wu es env)) (backToKw Y (keywordEach [] env))=S:=by ext methodCallForm;rw[Ps h,ZU];show(V7 _ _).mpr #[W,bg ?_];show es.length+0+0<30;ext
def Sz{q}{m:Str}(h:RD o=S)(g:es.all iR=S)(i:es.length<20)(j:(p.endLine==q.line)=S):∃pl,eval (.Call (.Attribute o m p) es [] q) env=(do
   let C<-eval o env
   standAt p.atName
   let(f,first)<-holding [C] (getMethod C m pl)
   callWith q f first (backTo q (Wu es env)) (backToKw q (keywordEach [] env))):=by
 show#[do return(<-importBound o env).getD S,?_];show(do
  let C<-attributeBase o m env (eval o env)
  standAt p.atName
  methodCall o m p q env C (es.length+([]:G Z8).length) (backTo q (Wu es env)) (backToKw q (keywordEach [] env)))=_
 rw[gz h];unfold methodCall calleeOf methodCallPos;rw[oG g i,j];rfl
def RZ{elt g sc x}(h1:env.scope.kind=.function)(f:env.kindOf x=M .local)(d:(p.line==Y.line)=S)(c:(sc.names.any λy=>y.1==x&&(y.2==.local||y.2==.cell))=R):Yu (.ListComp elt [g] sc Y) (M (.Name x p)) n env=pure S:=by show(pure _:Sem Bool)=_;rw[show env.blockKind=.function by ext Env.blockKind;rw[h1];rfl,f];show(pure (_&&(p.line==Y.line)&& !(sc.names.any λy=>y.1==x&&(y.2==.local||y.2==.cell))):Sem Bool)=_;rw[d,c];rfl
end
def a8{α:Type}{o:I α}{p:α->Bool}(h:o.any p=S):∃x,o=M x/\p x=S:=by
 cases o with
 |none=>ext h
 |some x=>show#[x,W,h]
def pI{α:Type}{P:α->Prop}{o:I α}(k:o.elim True P){x:α}(h:o=M x):P x:=by subst h;show k
def vN:Wy->I (Str×Pos)
 |.Name x p=>M (x,p)
 |_=>P
def vC:Wy->I Const
 |.Constant c _ _=>M c
 |_=>P
def Tu:Wy->I (Wy×acN×Wy)
 |.BinOp a o b _=>M (a,o,b)
 |_=>P
def QO:Wy->I (Wy×G abh×G Wy)
 |.Compare a o b _=>M (a,o,b)
 |_=>P
def wN:Wy->I (Wy×Wy×Pos)
 |.Subscript a b p=>M (a,b,p)
 |_=>P
def UQ:Wy->I (I Wy×I Wy×I Wy)
 |.Slice a b c _=>M (a,b,c)
 |_=>P
def DM:Wy->I (G Wy)
 |.Tuple es _ _=>M es
 |_=>P
def Tn:Wy->I (G Wy)
 |.List es _=>M es
 |_=>P
def v8:Wy->I (Wy×G Wy×G Z8×Pos)
 |.Call f es a p=>M (f,es,a,p)
 |_=>P
def Td:Wy->I (Wy×Str×Pos)
 |.Attribute o x p=>M (o,x,p)
 |_=>P
def U8:Wy->I (Wy×Wy×Wy)
 |.IfExp c a b _=>M (c,a,b)
 |_=>P
def T3:Wy->I (BoolOp×G Wy×Pos)
 |.BoolOp o es p=>M (o,es,p)
 |_=>P
def U3:Wy->I (UnaryOp×Wy)
 |.UnaryOp o a _=>M (o,a)
 |_=>P
def UO:Wy->I (Wy×G Zx×Yk×Pos)
 |.ListComp e g s p=>M (e,g,s,p)
 |_=>P
def UP:Wy->I (G (I Wy)×G Wy)
 |.Dict k v _=>M (k,v)
 |_=>P
section
variable{e:Wy}
theorem pd(h:vN e=M x):e=.Name x.1 x.2:=pI (P:=λx=>e=.Name x.1 x.2) (by ext e<;>first|show trivial|rfl|show#[_,W]|show#[_,_,W]) h
theorem LV(h:vC e=M x):∃k p,e=.Constant x k p:=pI (P:=λx=>∃k p,e=.Constant x k p) (by ext e<;>first|show trivial|rfl|show#[_,W]|show#[_,_,W]) h
theorem JA(h:Tu e=M x):∃p,e=.BinOp x.1 x.2.1 x.2.2 p:=pI (P:=λx=>∃p,e=.BinOp x.1 x.2.1 x.2.2 p) (by ext e<;>first|show trivial|rfl|show#[_,W]|show#[_,_,W]) h
theorem AQ(h:QO e=M x):∃p,e=.Compare x.1 x.2.1 x.2.2 p:=pI (P:=λx=>∃p,e=.Compare x.1 x.2.1 x.2.2 p) (by ext e<;>first|show trivial|rfl|show#[_,W]|show#[_,_,W]) h
theorem iO(h:wN e=M x):e=.Subscript x.1 x.2.1 x.2.2:=pI (P:=λx=>e=.Subscript x.1 x.2.1 x.2.2) (by ext e<;>first|show trivial|rfl|show#[_,W]|show#[_,_,W]) h
theorem Qq(h:UQ e=M x):∃p,e=.Slice x.1 x.2.1 x.2.2 p:=pI (P:=λx=>∃p,e=.Slice x.1 x.2.1 x.2.2 p) (by ext e<;>first|show trivial|rfl|show#[_,W]|show#[_,_,W]) h
theorem uI(h:DM e=M x):∃k p,e=.Tuple x k p:=pI (P:=λx=>∃k p,e=.Tuple x k p) (by ext e<;>first|show trivial|rfl|show#[_,W]|show#[_,_,W]) h
theorem KS(h:Tn e=M x):∃p,e=.List x p:=pI (P:=λx=>∃p,e=.List x p) (by ext e<;>first|show trivial|rfl|show#[_,W]|show#[_,_,W]) h
theorem lF(h:v8 e=M x):e=.Call x.1 x.2.1 x.2.2.1 x.2.2.2:=pI (P:=λx=>e=.Call x.1 x.2.1 x.2.2.1 x.2.2.2) (by ext e<;>first|show trivial|rfl|show#[_,W]|show#[_,_,W]) h
theorem uZ(h:Td e=M x):e=.Attribute x.1 x.2.1 x.2.2:=pI (P:=λx=>e=.Attribute x.1 x.2.1 x.2.2) (by ext e<;>first|show trivial|rfl|show#[_,W]|show#[_,_,W]) h
theorem PL(h:U8 e=M x):∃p,e=.IfExp x.1 x.2.1 x.2.2 p:=pI (P:=λx=>∃p,e=.IfExp x.1 x.2.1 x.2.2 p) (by ext e<;>first|show trivial|rfl|show#[_,W]|show#[_,_,W]) h
theorem Df(h:T3 e=M x):e=.BoolOp x.1 x.2.1 x.2.2:=pI (P:=λx=>e=.BoolOp x.1 x.2.1 x.2.2) (by ext e<;>first|show trivial|rfl|show#[_,W]|show#[_,_,W]) h
theorem M8(h:U3 e=M x):∃p,e=.UnaryOp x.1 x.2 p:=pI (P:=λx=>∃p,e=.UnaryOp x.1 x.2 p) (by ext e<;>first|show trivial|rfl|show#[_,W]|show#[_,_,W]) h
theorem Qk(h:UO e=M x):e=.ListComp x.1 x.2.1 x.2.2.1 x.2.2.2:=pI (P:=λx=>e=.ListComp x.1 x.2.1 x.2.2.1 x.2.2.2) (by ext e<;>first|show trivial|rfl|show#[_,W]|show#[_,_,W]) h
theorem OO(h:UP e=M x):∃p,e=.Dict x.1 x.2 p:=pI (P:=λx=>∃p,e=.Dict x.1 x.2 p) (by ext e<;>first|show trivial|rfl|show#[_,W]|show#[_,_,W]) h
def Bs(e:Wy):Bool:=(DM e).isSome
def vZ(h:Bs e=S):∃l k p,e=.Tuple l k p:=by let(x,h):=XQ.mp h;show#[x,uI h]
end
abbrev Fd:=Wz->WX->lD->(Str->I U)->Heap->Prop
abbrev kA(lv:Nat)(x:Str)(b:G Str)(n:Nat)(F:FN):Fd:=λP w K a base=>Uo P w K a base lv x b n F
abbrev Hv(lv:Nat)(x:Str)(b:G Str)(n:Nat)(F:fy):Fd:=λP w K a base=>vS P w K a base lv x b (jR K n F)
abbrev xq(b:Bool)(lv:Nat)(C x:Str)(c:G Str)(n:Nat)(F:fy):Fd:=λP w K a base=>mx P w K a base (if b then L4.kN P w else kg) lv C x c (jR K n F)
abbrev Ve(lv:Nat)(C:Str)(b:G Str)(n:Nat)(F:fy):Fd:=λP w K a base=>wU P w K a base kg lv C b (jR K n F)
structure Md where
 bl:G Str
 ex:G Str
 cs:G (Str×D)
 cl:G (Str×G Str)
structure Gm where
 M:Md
 N:G Str
 sc:G (Str×WA)
 lv:Nat
 rz:Bool
 fa:Bool
 fc:G Str
 top:Nat
abbrev Sl:G U:=[.type "ValueError",.type "Exception",.type "BaseException",.type "object"]
structure acA(K:lD)(mg:Str->I U)(M:Md):Prop where
 bl:∀x∈M.bl,mg x=P
 ex:∀x∈M.ex,∃C,WI K Wx x=cL (cL (.ref C))/\mg x=cL (.ref C)/\Zc K C Sl "ValueError.__new__"=S
 cs:∀x d,M.cs.lookup x=cL d->∃v u,mg x=cL u/\RelV v u/\∀O H,DV O K H v d
 cl:∀C L,M.cl.lookup C=cL L->kh K C L
structure Ct(T:G Fd)(Γ:Gm)(X:Cx)(E:XK):Prop where
 n:X.N=Γ.N
 nd:X.N.Nodup
 sc:X.env.scope.names=Γ.sc
 kd:X.env.scope.kind=.function
 cm:X.calm=S
 rm:X9 Γ.lv X.A
 po:Γ.fa=S->abZ (model X.prog X.w) X.A X.env X.xe
 px:Γ.rz=S->∃(N:G Str) (qual:Str) (scope:Yk) (f:J) (cd:U) (A:WQ) (outer:G Env) (s0:We) (H0:Hp),X=fx (L4.kN X.prog X.w) X.prog X.w X.K X.mg X.base N qual scope f cd A outer s0 H0 E
 fc:∀x∈Γ.fc,X.fn x=S
 md:acA X.K X.mg Γ.M
 fs:∀i fd,i<Γ.top->T[i]?=M fd->fd X.prog X.w X.K X.mg X.base
def SM(s:G (Str×WA))(x:Str):Bool:=s.lookup x==M .local||s.lookup x==M .cell||s.lookup x==M .free
def Mg(x:Str):Bool:= !(x==("__debug__":Str))&& !(x==("__classdict__":Str))&& !(x==("__name__":Str))
def QT(a:Gm)(x:Str):Bool:=a.sc.lookup x==M .globalImplicit&&Mg x
def blt(a:Gm)(x:Str):Bool:=QT a x&&a.M.bl.contains x
def eC{a:I WA}{b:WA}(h:(a==M b)=S):a=M b:=by
 cases a with
 |none=>ext h
 |some a=>ext a<;>ext b<;>first|rfl|ext h
section
variable{T:b5 Fd}{Z:Gm}{X:Cx}{E:XK}{x:Str}{i:Nat}
def t7(h:Mg x=S):(x==("__debug__":Str))=R/\(x==("__classdict__":Str))=R/\x≠("__name__":Str):=by unfold Mg at h;simp only[V7,Yi]at h;show#[h.1.1,h.1.2,λe=>by rw[e,d9]at h;cases h.2]
def mv(c:Ct T Z X E)(h:QT Z x=S):Gl X x/\(x==("__debug__":Str))=R/\x≠("__name__":Str):=by unfold QT at h;rw[V7]at h;show#[?_,(t7 h.2).1,(t7 h.2).2.2];show X.env.scope.names.lookup x=_;rw[c.sc];show eC h.1
def kZ(c:Ct T Z X E)(h:blt Z x=S):Gl X x/\X.mg x=P/\(x==("__debug__":Str))=R/\x≠("__name__":Str):=by unfold blt at h;rw[V7]at h;let(b,a):=mv c h.1;show#[b,c.md.bl x (aan.mp h.2),a]
def EI(c:Ct T Z X E)(h:Z.rz=S):dX (L4.kN X.prog X.w) X E:=by let(N,g,a,f,l,A,b,j,m,e):=c.px h;rw[e];show L4.GW
end
abbrev Jd(a:Type):=lD->XK->a->Prop
def eo(g:FE):Jd TE:=λK E t=>EO K E t g
def es(g:cU):Jd TE:=λK E t=>cy K E t g
def ao(g:FA):Jd TA:=λK E t=>AO K E t g
def as(g:sJ):Jd TA:=λK E t=>sD K E t g
def ke(g:FT):Jd TT:=λK E t=>TTO K E t g
def mj(g:sg):Jd TT:=λK E t=>vq K E t g
def oo(g:FO):Jd TO:=λK E t=>SD K E t g
def go(g:FG):Jd TG:=λK E t=>GO K E t g
def IE(g:Bt):Jd TG:=λK E t=>LF K E t g
def gs(g:Q5):Jd yf:=λK E t=>Ro K E t g
def QX(g:BM):Jd yf:=λK E t=>Hd K E t g
def io(g:FI):Jd TI:=λK E t=>L3.IO K E t g
def QH(g:FI):Jd TI:=λK E t=>T6 K E t g
def Q4(g:NQ):Jd TI:=λK E t=>Rg K E t g
def so(g:FS):Jd TS:=λK E t=>SO K E t g
def cO(g:di):Jd TS:=λK E t=>mW K E t g
class CK (T:G Fd) {α τ:Type} (P:Cx->α->τ->Prop) (J:Jd τ) where
 chk:Gm->α->Bool
 ok:∀{Γ X E a},Ct T Γ X E->chk Γ a=S->∃t,P X a t/\J X.K E t
def Vk(X:Cx)(e:Wy)(t:TG):Prop:=PG X e t/\∀r,assignEach (e::r) X.env=(R,assign e X.env)::assignEach r X.env
def Vq(X:Cx)(r:G Wy)(t:yf):Prop:=Sy X r t/\(assignEach r X.env).length=r.length/\List.findIdx? (λx=>x.1) (assignEach r X.env)=P
def VV(X:Cx)(p:Wy×Wy)(t:TI):Prop:=PI X p.1 p.2 t/\iR p.2=S
abbrev CE(T:G Fd)(J:Jd TE):=CK T PE J
abbrev CA(T:G Fd)(J:Jd TA):=CK T PA J
abbrev CT(T:G Fd)(J:Jd TT):=CK T PT J
abbrev CQ(T:G Fd)(J:Jd TT):=CK T ym J
abbrev CO(T:G Fd)(J:Jd TO):=CK T PO J
abbrev CG(T:G Fd)(J:Jd TG):=CK T Vk J
abbrev CH(T:G Fd)(J:Jd yf):=CK T Vq J
abbrev CI(T:G Fd)(J:Jd TI):=CK T VV J
abbrev CU(T:G Fd)(J:Jd TS):=CK T PS J
abbrev CS(T:G Fd)(J:Jd TS):=CK T PSs J
def xm{T:G Fd}{α a:Type}{P:Cx->α->a->Prop}{A J:Jd a}[x:CK T P A](k:∀{K E t},A K E t->J K E t):CK T P J:=#[x.chk,λc h=>let#[t,p,q]:=x.ok c h;#[t,p,k q]]
end CC
set_option warn.classDefReducibility false
namespace CC
open PySem L2 L3 L10
variable{T:b5 Fd}
def IP(i:Nat)(a:Gm)(e:Wy):Bool:=(vN e).any λx=>a.N[i]? ==M x.1&&SM a.sc x.1&&Mg x.1
def yl{a:Gm}{X:Cx}{E:XK}{i:Nat}{e:Wy}(c:Ct T a X E)(h:IP i a e=S):PE X e (rO i):=by
 let(x,q,h):=a8 h;rw[pd q];unfold SM at h;simp only[V7,Xz]at h;show FU (by rw[c.n];show beq_iff_eq.mp h.1.1) ?_ (t7 h.2).1 (t7 h.2).2.1;ext SL;rw[c.sc];rcases h.1.2 with(z|z)|z
 .show .inl (eC z)
 .show .inr (.inl (eC z))
 .show .inr (.inr (eC z))
def MW{J:Jd TE}(i:Nat)(k:∀{K E},J K E (rO i)):CE T J:=#[IP i,λc h=>#[_,yl c h,k]]
noncomputable instance:CE T (eo (aa i)):=MW i Oh
noncomputable instance:CE T (es (am i)):=MW i Jr
def dq:Nat->D->D->Bool
 |0,_,_=>R
 |_+1,.int a,.int b=>a==b
 |_+1,.str a,.str b=>a==b
 |_+1,.none,.none=>S
 |_+1,.bool a,.bool b=>a==b
 |n+1,.tuple a,.tuple b=>a.length==b.length&&(a.zip b).all λp=>dq n p.1 p.2
 |n+1,.list a,.list b=>a.length==b.length&&(a.zip b).all λp=>dq n p.1 p.2
 |_,_,_=>R
def N3{f:D->D->Bool}(j:∀a b,f a b=S->a=b):∀{a b:G D},(a.length==b.length&&(a.zip b).all λp=>f p.1 p.2)=S->a=b:=by
 intro a
 induction a with
 |nil=>
  intro b h;cases b with
  |nil=>rfl
  |cons y s=>ext h
 |cons x r i=>
  intro b h;cases b with
  |nil=>ext h
  |cons y s=>rw[V7]at h;let(g,e):=h;rw[List.zip_cons_cons,Yz,V7]at e;let g:=eq_of_beq g;rw[j x y e.1,i (b:=s) (by rw[V7];show#[beq_iff_eq.mpr (by simpa using g),e.2])]
def DT:∀(n:Nat) (a b:D),dq n a b=S->a=b:=by
 intro n
 induction n with
 |zero=>intro a b h;ext h
 |succ n e=>intro a b h;ext a<;>ext b<;>first|show b4 h Wr|rfl|show d7 _ (eq_of_beq h)|show d7 _ (N3 e h)
def cD:Const->I D
 |.int i=>M (.int i)
 |.str x=>M (.str x)
 |.bool b=>M (.bool b)
 |.none=>M .none
 |_=>P
noncomputable instance{d:D}:CE T (eo (pC d)) where
 chk Γ e:=(((vC e).bind cD).any λa=>dq 9 a d)||((vN e).any λx=>QT Γ x.1&&((Γ.M.cs.lookup x.1).any λa=>dq 9 a d))
 ok c h:=by
  rcases(Xz _ _).mp h with h|h
  .let(a,q,h):=a8 h
   obtain rfl:=DT _ _ _ h;let(k,f,b):=Xa.mp q;let(_,_,rfl):=LV f;ext k<;>ext b
   .show#[_,P8,OL]
   .show#[_,M3,Th]
   .show#[_,Nw,Pv]
   .show#[_,Oz,P3]
  .let(x,q,h):=a8 h;rw[V7]at h;let(a,b,g):=a8 h.2;obtain rfl:=DT _ _ _ g;let(j,i,_):=mv c h.1;let(v,u,e1,e2,e3):=c.md.cs _ _ b;rw[pd q];show#[_,HK j e1 e2 i,Gb e3]
class BOp (f:D->D->I RV) where
 sp:Wy->I (Wy×Wy)
 ok:∀{X:Cx} {e p ta tb},sp e=M p->X.A.units+65<cLine->iR p.2=S->PE X p.1 ta->PE X p.2 tb->∃r,PE X e (ED r ta tb)/\jG X.K r f
def Rb{f:D->D->I RV}(op:acN)(g:∀{X:Cx},∃r,OpR X (Yv op) r/\jG X.K r f):BOp f where
 sp e:=(Tu e).bind λx=>if x.2.1=op then M (x.1,x.2.2)else P
 ok h hu _ ha hb:=by
  let(x,q,a):=Xa.mp h;let(_,rfl):=JA q;split at a
  .rename_i z;ext a;let(r,b,i):=g;rw[<-z]at b;show#[r,SJ b ha hb,i]
  .ext a
def UY{f:D->D->I RV}(k:∀{K},jG K (RK K) f):BOp f where
 sp e:=(wN e).map λx=>(x.1,x.2.1)
 ok h _ hp ha hb:=by let(x,q,a):=Z2.mp h;ext a;rw[iO q];show#[_,LI Hg ha hb (uN hp),k]
class COp (f:D->D->I RV) where
 op:abh
 ok:∀{X:Cx},X.A.units+65<cLine->∃r,OpR X (Xx op) r/\jG X.K r f
def Tc(op:abh)(e:Wy):I (Wy×Wy):=(QO e).bind λx=>match x.2.2 with
 |[b]=>if x.2.1=[op]&& !behindInMarks op b then M (x.1,b)else P
 |_=>P
def tY{op:abh}{e:Wy}{p:Wy×Wy}(h:Tc op e=M p):∃pos,e=.Compare p.1 [op] [p.2] pos/\behindInMarks op p.2=R:=by
 let((a,o,b),q,f):=Xa.mp h;let(_,rfl):=AQ q;dsimp only at f;split at f
 .split at f
  .rename_i z;ext f;rw[V7,decide_eq_true_eq,Yi]at z;show#[_,by rw[z.1],z.2]
  .ext f
 .ext f
noncomputable instance[o:COp f]:BOp f where
 sp:=Tc o.op
 ok h hu _ ha hb:=by let(p,rfl,q):=tY h;let(r,b,a):=o.ok hu;show#[r,Ah b ha hb q,a]
noncomputable instance:BOp aQ:=UY Dz
noncomputable instance:BOp L3.iS:=UY Kl
noncomputable instance:COp cC:=#[.Eq,λh=>#[_,Pz (),Oq]]
noncomputable instance:COp mG:=#[.NotEq,λh=>#[_,P9 (),Nt]]
noncomputable instance:COp Q8:=#[.LtE,λ_=>#[_,SR,OH]]
noncomputable instance:COp PB:=#[.Lt,λ_=>#[_,Ry,P1]]
noncomputable instance:COp Ed:=#[.Gt,λ_=>#[_,Ta,Pi]]
noncomputable instance:COp TD:=#[.GtE,λ_=>#[_,Sc,Qh]]
noncomputable instance:COp Hw:=#[.In,λh=>#[_,OE h,Pp]]
noncomputable instance:COp mn:=#[.NotIn,λh=>#[_,Ju h,Ic]]
noncomputable instance:COp kj:=#[.Is,λ_=>#[_,N7,HQ]]
noncomputable instance:COp jB:=#[.IsNot,λ_=>#[_,JP,JZ]]
noncomputable instance:BOp cT:=Rb .Add #[_,Iu,La]
noncomputable instance:BOp qE:=Rb .Sub #[_,Oo,Lu]
noncomputable instance:BOp qU:=Rb .Mod #[_,NX,J6]
noncomputable instance:BOp yS:=Rb .FloorDiv #[_,G3,JF]
noncomputable instance:BOp ie:=Rb .Mult #[_,Ij,Dn]
section
variable{A B C J:Jd TE}{U Z:Jd TA}{Q R S:Jd TT}
def RB(A B:Jd TE){f:D->D->I RV}[o:BOp f][x:CE T A][y:CE T B](k:∀{K E r m d},jG K r f->A K E m->B K E d->J K E (ED r m d)):CE T J where
 chk Γ e:=(o.sp e).any λp=>iR p.2&&x.chk Γ p.1&&y.chk Γ p.2
 ok c h:=by let(p,q,h):=a8 h;simp only[V7]at h;let(m,l,j):=x.ok c h.1.2;let(d,i,g):=y.ok c h.2;let(r,b,a):=o.ok q (sL c.rm) h.1.1 l i;show#[_,b,k a j g]
noncomputable instance[BOp f][CE T (eo a)][CE T (eo b)]:CE T (eo (aC f a b)):=RB (eo a) (eo b) Mh
noncomputable instance[BOp f][CE T (es a)][CE T (es b)]:CE T (es (jp f a b)):=RB (es a) (es b) DA
noncomputable instance[CE T (es a)][CE T (es b)]:CE T (es (L10.iS a b)) where
 chk Γ e:=(wN e).any λp=>iR p.2.1&&CK.chk T PE (es a) Γ p.1&&CK.chk T PE (es b) Γ p.2.1
 ok c h:=by let(p,q,h):=a8 h;simp only[V7]at h;let(m,j,i):=CK.ok c h.1.2;let(l,g,f):=CK.ok c h.2;rw[iO q];show#[_,LI Hg j g (uN h.1.1),QG i f]
def LO(k:∀{K E},Z K E ja):CA T Z:=#[λ_ l=>l.isEmpty,λ_ h=>by rw[W8.mp h];show#[_,jO,k]]
def G9(A:Jd TE)(U:Jd TA)[x:CE T A][y:CA T U](k:∀{K E i d},A K E i->U K E d->Z K E (fV i d)):CA T Z where
 chk Γ l:=match l with
  |e::r=>iR e&&x.chk Γ e&&y.chk Γ r
  |[]=>V8
 ok c h:=by
  split at h
  .simp only[V7]at h;let(i,g,f):=x.ok c h.1.2;let(d,b,a):=y.ok c h.2;show#[_,ei g b (iT h.1.1),k f a]
  .ext h
noncomputable instance:CA T (ao aq):=LO Qw
noncomputable instance:CA T (as aH):=LO AC
noncomputable instance[CE T (eo a)][CA T (ao b)]:CA T (ao (ad a b)):=G9 (eo a) (ao b) Lj
noncomputable instance[CE T (es a)][CA T (as b)]:CA T (as (ah a b)):=G9 (es a) (as b) FQ
def MA(U:Jd TA)[x:CA T U](k:∀{K E t},U K E t->J K E (KP t)):CE T J where
 chk Γ e:=(DM e).any (x.chk Γ)
 ok c h:=by let(l,q,h):=a8 h;let(_,_,rfl):=uI q;let(t,b,a):=x.ok c h;show#[_,QI b,k a]
def SI(U:Jd TA)[x:CA T U](k:∀{K E t},U K E t->J K E (OD t)):CE T J where
 chk Γ e:=(Tn e).any (x.chk Γ)
 ok c h:=by let(l,q,h):=a8 h;let(_,rfl):=KS q;let(t,b,a):=x.ok c h;show#[_,Ou b,k a]
noncomputable instance[CA T (ao a)]:CE T (eo (aY a)):=MA (ao a) QM
noncomputable instance[CA T (as a)]:CE T (es (kE a)):=MA (as a) Lw
noncomputable instance[CA T (ao a)]:CE T (eo (cZ a)):=SI (ao a) NZ
noncomputable instance[CE T (eo a)]:CE T (es (ae a)):=xm (A:=eo a) wj
noncomputable instance[CE T (es a)]:CE T (es (kW a)):=xm (A:=es a) zm
class Fn (T:G Fd) {φ:Type} (k:Nat->Str->G Str->Nat->φ->Fd) (F:φ) (n:Nat) where
 i:Nat
 lv:Nat
 x:Str
 ps:G Str
 h:T[i]?=M (k lv x ps n F)
def QZ(b:Gm)(i lv:Nat)(x:Str)(e:Wy):I (Wy×G Wy×Pos×Pos):=(v8 e).bind λy=>match y.2.1 with
 |a::r=>(vN y.1).bind λz=>if z.1==x&&QT b x&&decide (i<b.top)&&decide (lv<=b.lv)&&(a::r).all iR&&y.2.2.1.isEmpty then M (a,r,z.2,y.2.2.2)else P
 |[]=>P
def rF{c:Gm}{i lv:Nat}{x:Str}{e:Wy}{y:Wy×G Wy×Pos×Pos}(h:QZ c i lv x e=M y):e=.Call (.Name x y.2.2.1) (y.1::y.2.1) [] y.2.2.2/\QT c x=V6/\i<c.top/\lv<=c.lv/\(y.1::y.2.1).all iR=V6:=by
 let((f,l,o,p),q,a):=Xa.mp h;rw[lF q];dsimp only at a;split at a
 .let(z,b,g):=Xa.mp a
  obtain rfl:=pd b;split at g
  .rename_i z;ext g;simp only[V7,decide_eq_true_eq,beq_iff_eq,W8]at z;let(((((rfl,b),n),m),j),rfl):=z;show#[W,b,n,m,j]
  .ext g
 .ext a
def rC(U:Jd TA){d:Type}(D:Nat->Str->G Str->Nat->d->Fd)(F:d)(n:Nat)[o:Fn T D F n][u:CA T U](s:Bool)(k:∀{X:Cx} {E lv x L t e r p q},D lv x L n F X.prog X.w X.K X.mg X.base->(s=V6->dX (L4.kN X.prog X.w) X E)->X9 lv X.A->Gl X x->(x==("__debug__":Str))=V8->(e::r).all iR=V6->PA X (e::r) t->U X.K E t->∃i,PE X (.Call (.Name x p) (e::r) [] q) i/\J X.K E i):CE T J where
 chk Γ e:=(!s||Γ.rz)&&(QZ Γ o.i o.lv o.x e).any λy=>u.chk Γ (y.1::y.2.1)
 ok c h:=by rw[V7]at h;let(y,q,j):=a8 h.2;let(rfl,g,N,b,a):=rF q;let(v,m,_):=mv c g;let(t,l,f):=u.ok c j;show k (c.fs _ _ N o.h) (λz=>EI c (by let:=h.1;rw[z]at this;show this)) (c.rm.mono b) v m a l f
noncomputable instance[Fn T kA F n][CA T (ao a)]:CE T (eo (d8 F n a)):=rC (ao a) kA F n V8 λf _ r g d p e b=>#[_,rJ f r e (Wg _) g d (dA p) (gM p),N5 b]
noncomputable instance[Fn T kA F n][CA T (as a)]:CE T (es (ic F n a)):=rC (as a) kA F n V8 λf _ r g d p e b=>#[_,rJ f r e (Wg _) g d (dA p) (gM p),Iv b]
noncomputable instance[Fn T Hv F n][CA T (as a)]:CE T (es (xo F n a)):=rC (as a) Hv F n V8 λf _ r g d p e b=>#[_,rJ f r e (Wg _) g d (dA p) (gM p),BI b]
noncomputable instance[Fn T Hv F n][CA T (as a)]:CE T (es (pY F n a)):=rC (as a) Hv F n V8 λf _ r g d p e b=>#[_,rJ f r e (Wg _) g d (dA p) (gM p),CV b]
class CB (f:G D->I RV) where
 x:Str
 v:V5
 b:Xg x=M v
 y:(∃id,v=.builtin id)\/∃ty,v=.type ty
 ok:∀{X:Cx},X.calm=V6->∃r,YG X v r/\B2 X.K r f
def Da(a:Gm)(x:Str)(e:Wy):I (Wy×G Wy×Pos×Pos):=if blt a x then QZ {a with top:=1} 0 0 x e else P
def jL{c:Gm}{x:Str}{e:Wy}{y:Wy×G Wy×Pos×Pos}(h:Da c x e=M y):e=.Call (.Name x y.2.2.1) (y.1::y.2.1) [] y.2.2.2/\blt c x=V6/\(y.1::y.2.1).all iR=V6:=by
 unfold Da at h;split at h
 .rename_i z;let(b,_,_,_,a):=rF h;show#[b,z,a]
 .ext h
def vk{d:Gm}{X:Cx}{E:XK}{x:Str}{v:V5}{r:G V->Hp->VK->Prop}{e:Wy}{l:G Wy}{p q:Pos}{t:TA}(c:Ct T d X E)(m:blt d x=V6)(b:Xg x=M v)(y:(∃id,v=.builtin id)\/∃ty,v=.type ty)(k:YG X v r)(a:(e::l).all iR=V6)(h:PA X (e::l) t):PE X (.Call (.Name x p) (e::l) [] q) (De r t):=by
 let(j,g,i,f):=kZ c m;rcases y with⟨id,rfl⟩|⟨id,rfl⟩
 .show Gj k j g b h f i (dA a) (gM a)
 .show Cn k j g b h f i (dA a) (gM a)
def RJ(U:Jd TA)(f:G D->I RV)[o:CB f][u:CA T U](k:∀{K E r t},B2 K r f->U K E t->J K E (De r t)):CE T J where
 chk Γ e:=(Da Γ o.x e).any λy=>u.chk Γ (y.1::y.2.1)
 ok c h:=by let(y,q,j):=a8 h;let(rfl,g,a):=jL q;let(t,l,i):=u.ok c j;let(r,k1,k2):=o.ok c.cm;show#[_,vk c g o.b o.y k1 a l,k k2 i]
noncomputable instance[CB f][CA T (ao a)]:CE T (eo (gQ f a)):=RJ (ao a) f Mc
noncomputable instance[CB f][CA T (as a)]:CE T (es (Db f a)):=RJ (as a) f PR
noncomputable instance:CB dY:=#["len",_,M4,.inl #[_,W],λ_=>#[_,vE,O8]]
noncomputable instance:CB vP:=#["len",_,M4,.inl #[_,W],λ_=>#[_,vE,J7]]
noncomputable instance:CB mJ:=#["tuple",_,Jb,.inr #[_,W],λ_=>#[_,se,FR]]
noncomputable instance:CB C2:=#["all",_,Rj,.inl #[_,W],λh=>#[_,He h,Pr]]
noncomputable instance:CB r8:=#["list",_,xz,.inr #[_,W],λ_=>#[_,uC,Ke]]
noncomputable instance:CB L9.fD:=#["sorted",_,wP,.inl #[_,W],λ_=>#[_,L9.uK,L9.yx]]
noncomputable instance:CB vQ:=#["max",_,Mm,.inl #[_,W],λh=>#[_,CM h,Kr]]
def Vf(a:Gm)(x y:Str)(i:Int)(e:Wy):I Wy:=(v8 e).bind λc=>match c.2.1,c.2.2.1 with
 |[l],[#[M w,v,_]]=>if(vN c.1).any (λz=>z.1==x)&&blt a x&&w==y&&((vC v).bind cD).any (λz=>dq 2 z (.int i))&&iR l then M l else P
 |_,_=>P
def Ni{k:Gm}{x y:Str}{i:Int}{e l:Wy}(h:Vf k x y i e=M l):(∃p s L D j,e=.Call (.Name x p) [l] [#[M y,.Constant (.int i) j s,L]] D)/\blt k x=V6/\iR l=V6:=by
 let((f,a,G,p),q,b):=Xa.mp h;rw[lF q];dsimp only at b;split at b
 .split at b
  .rename_i z;ext b;simp only[V7,beq_iff_eq]at z;let((((r,o),rfl),m),g):=z;let(n,F,E):=a8 r;let(d,w,v):=a8 m;let(c,u,t):=Xa.mp w;obtain rfl:=DT _ _ _ v;let(j,s,rfl):=LV u;ext c<;>ext t;rw[pd F,beq_iff_eq.mp E];show#[#[_,_,_,_,_,W],o,g]
  .ext b
 .ext b
noncomputable instance[u:CA T (ao a)]:CE T (eo (gQ (L10.zP i) a)) where
 chk Γ e:=(Vf Γ "max" "default" i e).any λl=>u.chk Γ [l]
 ok c h:=by let(l,q,m):=a8 h;let((_,_,_,_,_,rfl),g,b):=Ni q;let(o,n,_):=kZ c g;let(t,j,f):=u.ok c m;show#[_,L10.Jt c.cm o n j (JJ b),Mc L10.Im f]
noncomputable instance:CO T (oo rb):=#[λ_ e=>e.isNone,λ_ h=>by rw[YH.mp h];show#[_,HL,Ee]]
noncomputable instance[x:CE T (eo a)]:CO T (oo (ko a)) where
 chk Γ e:=e.any (x.chk Γ)
 ok c h:=by let(e,q,g):=a8 h;subst q;let(t,f,b):=x.ok c g;show#[_,IV f,Fs b]
class SOp (f:D->I Int->I Int->I RV) where
 ok:∀{X:Cx},∃r,MC X r/\RG X.K r f
noncomputable instance:SOp OV:=#[#[_,Ew,uU]]
noncomputable instance:SOp Tz:=#[#[_,JW,Sr]]
noncomputable instance:SOp rN:=#[#[_,Pt,Jn]]
noncomputable instance[o:SOp f][x:CE T (eo a)][m:CO T (oo l)][n:CO T (oo u)]:CE T (eo (J5 f a l u)) where
 chk Γ e:=(wN e).any λy=>(UQ y.2.1).any λz=>z.2.2.isNone&&x.chk Γ y.1&&m.chk Γ z.1&&n.chk Γ z.2.1
 ok c h:=by let((e,s,p),q,E):=a8 h;rw[iO q];let((H,G,F),i,g):=a8 E;let(_,b):=Qq i;let b:s=_:=b;subst b;simp only[V7,YH]at g;let(((rfl,w),v),j):=g;let(t,k1,k2):=x.ok c w;let(K,k3,k4):=m.ok c v;let(I,k5,k6):=n.ok c j;let(r,k7,k8):=o.ok;show#[_,Dx k7 k1 k3 k5,Rh k8 k2 k4 k6]
def RY(op:BoolOp)(A B:Jd TE)[x:CE T A][y:CE T B]{f:TE->TE->TE}(p:∀{X:Cx} {a b pos s d},PE X a s->PE X (.BoolOp op [b] pos) d->PE X (.BoolOp op [a,b] pos) (f s d))(k:∀{K E s d},A K E s->B K E d->J K E (f s d)):CE T J where
 chk Γ e:=(T3 e).any λz=>decide (z.1=op)&&match z.2.1 with
  |[l,r]=>x.chk Γ l&&y.chk Γ r
  |_=>V8
 ok c h:=by
  let((o,l,p),q,i):=a8 h;rw[Df q];simp only[V7,decide_eq_true_eq]at i;let(rfl,g):=i;split at g
  .rw[V7]at g;let(s,t,n):=x.ok c g.1;let(d,m,j):=y.ok c g.2;show#[_,p t (NN m),k n j]
  .ext g
noncomputable instance[CE T (eo a)][CE T (eo b)]:CE T (eo (yh a b)):=RY .And (eo a) (eo b) Ff NP
noncomputable instance[CE T (es a)][CE T (es b)]:CE T (es (xF a b)):=RY .And (es a) (es b) Ff IL
def SZ(Q:Jd TT)(A B:Jd TE)[z:CT T Q][x:CE T A][y:CE T B](k:∀{K E t n d},Q K E t->A K E n->B K E d->J K E (S4 t n d)):CE T J where
 chk Γ e:=(U8 e).any λw=>z.chk Γ w.1&&x.chk Γ w.2.1&&y.chk Γ w.2.2
 ok c h:=by let(w,q,a):=a8 h;let(_,rfl):=PL q;simp only[V7]at a;let(m,f,b):=z.ok c a.1.1;let(n,l,j):=x.ok c a.1.2;let(d,i,g):=y.ok c a.2;show#[_,Ho f l i,k b j g]
noncomputable instance[CT T (ke q)][CE T (eo a)][CE T (eo b)]:CE T (eo (MG q a b)):=SZ (ke q) (eo a) (eo b) Rk
noncomputable instance[CT T (mj q)][CE T (es a)][CE T (es b)]:CE T (es (Fi q a b)):=SZ (mj q) (es a) (es b) ND
def U9(o p:abh)(e:Wy):I (Wy×Wy×Wy):=(QO e).bind λx=>match x.2.2 with
 |[b,c]=>if x.2.1=[o,p]&& !lastMarks [o,p] [b,c]then M (x.1,b,c)else P
 |_=>P
def QQ{o p:abh}{e:Wy}{y:Wy×Wy×Wy}(h:U9 o p e=M y):∃pos,e=.Compare y.1 [o,p] [y.2.1,y.2.2] pos/\lastMarks [o,p] [y.2.1,y.2.2]=V8:=by
 let((a,u,b),q,f):=Xa.mp h;let(_,rfl):=AQ q;dsimp only at f;split at f
 .split at f
  .rename_i z;ext f;rw[V7,decide_eq_true_eq,Yi]at z;show#[_,by rw[z.1],z.2]
  .ext f
 .ext f
section
variable{f g:D->D->b7 RV}{a b d:FE}[o:COp f][p:COp g][x:CE T (eo a)][y:CE T (eo b)][v:CE T (eo d)]
def R0(x:CE T (eo a))(y:CE T (eo b))(v:CE T (eo d))(o:COp f)(p:COp g)(c:Gm)(e:Wy):Bool:=(U9 o.op p.op e).any λw=>x.chk c w.1&&y.chk c w.2.1&&v.chk c w.2.2
def Jw{k X E e}(c:Ct T k X E)(h:R0 x y v o p k e=V6):∃t,PE X e t/\PT X e (sM t)/\EO X.K E t (kS f g a b d):=by let(w,q,i):=a8 h;let(u,rfl,j):=QQ q;simp only[V7]at i;let(N,n,H):=x.ok c i.1.1;let(L,m,G):=y.ok c i.1.2;let(I,l,F):=v.ok c i.2;let(r,k1,k2):=o.ok (sL c.rm);let(s,k3,k4):=p.ok (sL c.rm);show#[_,Ec k1 k3 n m l j,Fu k1 k3 n m l j,En k2 k4 H G F]
end
def UN(A:Jd TE)[x:CE T A](k:∀{K E t},A K E t->Q K E (tB t)):CT T Q where
 chk Γ e:=fF e&&x.chk Γ e
 ok c h:=by rw[V7]at h;let(t,b,a):=x.ok c h.2;show#[_,PX b (HM h.1),k a]
def M6(A B:Jd TE){f:D->D->I RV}[o:COp f][x:CE T A][y:CE T B](k:∀{K E r s d},jG K r f->A K E s->B K E d->Q K E (sM (ED r s d))):CT T Q where
 chk Γ e:=(Tc o.op e).any λp=>x.chk Γ p.1&&y.chk Γ p.2
 ok c h:=by let(p,q,a):=a8 h;rw[V7]at a;let(s,n,m):=x.ok c a.1;let(d,l,j):=y.ok c a.2;let(_,rfl,b):=tY q;let(r,i,g):=o.ok (sL c.rm);show#[_,K7 i n l b,k g m j]
noncomputable instance[CE T (eo a)]:CT T (ke (ay a)):=UN (eo a) Rt
noncomputable instance[CE T (es a)]:CT T (mj (aX a)):=UN (es a) F6
noncomputable instance[COp f][CE T (eo a)][CE T (eo b)]:CT T (ke (ay (aC f a b))):=M6 (eo a) (eo b) λh g e=>lS (Mh h g e)
noncomputable instance[COp f][CE T (es a)][CE T (es b)]:CT T (mj (aX (jp f a b))):=M6 (es a) (es b) λh g e=>pP (DA h g e)
noncomputable instance[o:COp f][p:COp g][x:CE T (eo a)][y:CE T (eo b)][v:CE T (eo d)]:CT T (ke (ay (kS f g a b d))):=#[R0 x y v o p,λc h=>let#[_,_,h1,e]:=Jw c h;#[_,h1,lS e]]
def LZ(R:Jd TT)[z:CT T R](k:∀{K E t},R K E t->Q K E (Jc t)):CT T Q where
 chk Γ e:=(U3 e).any λy=>(match y.1 with|.Not=>V6|_=>V8)&&z.chk Γ y.2
 ok c h:=by let((o,e),q,a):=a8 h;let(_,rfl):=M8 q;rw[V7]at a;let(t,f,b):=z.ok c a.2;ext o<;>first|show#[_,QK f,k b]|cases a.1
theorem Q9{X:Cx}{op:BoolOp}{b:G Wy}{a:Pos}{t:TT}(h:PT X (.BoolOp op b a) t):PW X (.BoolOp op b a) t:=λ_=>h
def K9(op:BoolOp)(R S:Jd TT)[z:CT T R][v:CT T S]{f:TT->TT->TT}(H:∀{X:Cx} {a pos t},PT X a t->PW X (.BoolOp op [a] pos) t)(p:∀{X:Cx} {a b r pos x d},PT X a x->PW X (.BoolOp op (b::r) pos) d->PW X (.BoolOp op (a::b::r) pos) (f x d))(k:∀{K E x d},R K E x->S K E d->Q K E (f x d)):CT T Q where
 chk Γ e:=(T3 e).any λy=>decide (y.1=op)&&match y.2.1 with
  |[l,m]=>z.chk Γ l&&v.chk Γ m
  |l::m::n::s=>z.chk Γ l&&v.chk Γ (.BoolOp op (m::n::s) y.2.2)
  |_=>V8
 ok c h:=by
  let((o,l,w),q,G):=a8 h;rw[Df q];simp only[V7,decide_eq_true_eq]at G;let(rfl,g):=G;split at g
  .rw[V7]at g;let(x,F,u):=z.ok c g.1;let(d,j,i):=v.ok c g.2;show#[_,(p F (H j)).pt,k u i]
  .rw[V7]at g;let(x,F,u):=z.ok c g.1;let(d,j,i):=v.ok c g.2;show#[_,(p F (Q9 j)).pt,k u i]
  .ext g
noncomputable instance[CT T (ke q)]:CT T (ke (wv q)):=LZ (ke q) HG
noncomputable instance[CT T (mj q)]:CT T (mj (L10.n6 q)):=LZ (mj q) Ji
noncomputable instance[CT T (ke q)][CT T (ke r)]:CT T (ke (nQ q r)):=K9 .And (ke q) (ke r) zZ Hi KN
noncomputable instance[CT T (ke q)][CT T (ke r)]:CT T (ke (Ph q r)):=K9 .Or (ke q) (ke r) Gr MN NM
noncomputable instance[CT T (mj q)][CT T (mj r)]:CT T (mj (kY q r)):=K9 .And (mj q) (mj r) zZ Hi JO
noncomputable instance[CT T (mj q)][CT T (mj r)]:CT T (mj (zx q r)):=K9 .Or (mj q) (mj r) Gr MN NT
noncomputable instance[CT T (ke q)]:CT T (mj (bj q)):=xm (A:=ke q) Ft
end
end CC
set_option warn.classDefReducibility false
namespace CC
open PySem L2 L3 L10
variable{T:b5 Fd}{A B C J:Jd TE}{U Z:Jd TA}
def Q3(x:Str)(e:Wy):I (Wy×G Wy×Pos×Pos):=(v8 e).bind λy=>(Td y.1).bind λz=>if z.2.1==x&&RD z.1&&z.2.2.endLine==y.2.2.2.line&&y.2.1.all iR&&decide (y.2.1.length<20)&&y.2.2.1.isEmpty then M (z.1,y.2.1,z.2.2,y.2.2.2)else P
def qV{x:Str}{e:Wy}{y:Wy×G Wy×Pos×Pos}(h:Q3 x e=M y):e=.Call (.Attribute y.1 x y.2.2.1) y.2.1 [] y.2.2.2/\RD y.1=S/\(y.2.2.1.endLine==y.2.2.2.line)=S/\y.2.1.all iR=S/\y.2.1.length<20:=by
 let((f,l,v,p),q,w):=Xa.mp h;let((o,n,r),u,a):=Xa.mp w;rw[lF q,show f=_ from uZ u];split at a
 .rename_i z;ext a;simp only[V7,decide_eq_true_eq,W8]at z;let(((((t,m),j),i),g),b):=z;show#[?_,m,j,i,g];rw[show n=x from beq_iff_eq.mp t,show v=[]from b]
 .ext a
class MS (f:Str->G D->I RV) where
 x:Str
 ok:∀{X:Cx},∃id r,Slot "str" x id/\typeOf (.builtin id)=pure (.type "method_descriptor")/\Q1 X id r/\UE X.K r f
noncomputable instance[o:MS f][x:CE T (eo a)][u:CA T (ao b)]:CE T (eo (Pw f a b)) where
 chk Γ e:=(Q3 o.x e).any λy=>decide (0<y.2.1.length)&&x.chk Γ y.1&&u.chk Γ y.2.1
 ok c h:=by
  let((b,l,p,q),z,i):=a8 h;let(rfl,K,I,g,H):=qV z;simp only[V7,decide_eq_true_eq]at i;let((G,E),w):=i;let(t,v,n):=x.ok c E;let(L,m,j):=u.ok c w;let(id,r,k1,k2,k3,k4):=o.ok;cases l with
  |nil=>ext G
  |cons e l=>show#[_,Mb PySem.F.plainAttrs_str k1 k2 k3 v m (gz K) (oG g H) I (dA g) (gM g),Rn k4 n j]
noncomputable instance:MS pU:=#["join",#[_,_,PySem.F.slot_str_join,PySem.F.type_str_join,Kp,Ik]]
def NH(m:Str){id:String}{r:V->b5 V->Hp->VK->Prop}(s:Slot "list" m id)(ty:typeOf (.builtin id)=pure (.type "method_descriptor"))(mt:∀{X:Cx},Q1 X id r)(i:Gm->Wy->Bool)(G:Jd TE)(A:Jd TE)[x:CE T A](j:∀{d X E e},Ct T d X E->i d e=S->∃t,PE X e t/\G X.K E t)(k:∀{K E to t},G K E to->A K E t->J K E (OU K "list" r to (fV t ja))):CE T J where
 chk d e:=(Q3 m e).any λy=>i d y.1&&match y.2.1 with
  |[e]=>x.chk d e
  |_=>R
 ok c h:=by
  let((b,l,p,q),z,g):=a8 h;let(rfl,I,H,a,L):=qV z;rw[V7]at g;let(w,f):=g;let(to,v,u):=j c w
  match l,a,f with
  |[e],a,f=>let a:[e].all iR=S:=a;let(t,o,n):=x.ok c f;show#[OU _ "list" r to (fV t ja),?_,k u n];show Mb PySem.F.plainAttrs_list s ty mt v (ei o jO (dA a)) (gz I) (oG a (by show 1<20;decide)) H (dA a) W
def vJ(i:Nat):Jd TE:=λ_ _ t=>t=rO i
noncomputable instance[CE T (eo a)]:CE T (eo (Cz i a)):=NH "append" abI abJ l9 (IP i) (vJ i) (eo a) (λc h=>#[_,yl c h,W]) λh k=>by ext h;show Pf k
noncomputable instance[CE T (eo a)]:CE T (eo (L10.FW i a)):=NH "extend" PySem.F.slot_list_extend PySem.F.type_list_extend B5 (IP i) (vJ i) (eo a) (λc h=>#[_,yl c h,W]) λh k=>by ext h;show L10.Qu k
noncomputable instance[x:CE T (es o)][CE T (es a)]:CE T (es (ki o a)):=NH "append" abI abJ l9 x.chk (es o) (es a) x.ok HV
def Kx(a:Gm)(C f:Str):Bool:=(a.M.cl.lookup C).any λL=>L.contains f
def vj{b:Gm}{X:Cx}{E:XK}{C f:Str}(c:Ct T b X E)(h:Kx b C f=S):∃L,kh X.K C L/\f∈L:=by let(L,q,a):=a8 h;show#[L,c.md.cl _ _ q,aan.mp a]
noncomputable instance{C f:Str}[x:CE T (es a)]:CE T (es (aN C f a)) where
 chk Γ e:=(Td e).any λy=>y.2.1==f&&Kx Γ C f&&RD y.1&&x.chk Γ y.1
 ok c h:=by let((o,n,p),q,b):=a8 h;rw[uZ q];simp only[V7,beq_iff_eq]at b;let(((rfl,u),r),m):=b;let(L,i,g):=vj c u;let(t,l,j):=x.ok c m;show#[_,GP l (gz r),An i g j]
class FM (T:G Fd) (rz:Bool) (C m:Str) (F:fy) (n:Nat) where
 i:Nat
 lv:Nat
 ps:G Str
 h:T[i]?=M (xq rz lv C m ps n F)
section
variable{C m:Str}{F:fy}{n:Nat}
def IB(T:G Fd)(b hd:Bool)(C m:Str)(F:fy)(n:Nat)[o:FM T b C m F n](x:Gm->Wy->Bool)(u:Gm->G Wy->Bool)(a:Gm)(e:Wy):Bool:=(!hd||a.rz&&b)&&decide (o.i<a.top)&&decide (o.lv<=a.lv)&&(a.M.cl.lookup C).isSome&&(Q3 m e).any λy=>x a y.1&&u a y.2.1
def Bu{d hd:Bool}[o:FM T d C m F n]{x:Gm->Wy->Bool}{u:Gm->b5 Wy->Bool}{k:Gm}{X:Cx}{E:XK}{e:Wy}(c:Ct T k X E)(h:IB T d hd C m F n x u k e=S):∃(b:Wy) (l:b5 Wy) (p q:Pos) (L:b5 Str) (pl:Sem Bool),e=.Call (.Attribute b m p) l [] q/\x k b=S/\u k l=S/\kh X.K C L/\mx X.prog X.w X.K X.mg X.base (if d then L4.kN X.prog X.w else kg) o.lv C m o.ps (jR X.K n F)/\X9 o.lv X.A/\dX (if d then L4.kN X.prog X.w else kg) X (if hd then E else E0)/\l.all iR=S/\eval (.Call (.Attribute b m p) l [] q) X.env=(do
   let ov<-eval b X.env
   standAt p.atName
   let(f,first)<-holding [ov] (getMethod ov m pl)
   callWith q f first (backTo q (Wu l X.env)) (backToKw q (keywordEach [] X.env))):=by
 unfold IB at h;simp only[V7,decide_eq_true_eq]at h;let((((a,y),v),t),r):=h;let((b,l,p,q),z,g):=a8 r;let(rfl,I,H,i,G):=qV z;rw[V7]at g;let(L,j):=XQ.mp t;let(pl,ev):=Sz (m:=m) (env:=X.env) I i G H;show#[b,l,p,q,L,pl,W,g.1,g.2,c.md.cl _ _ j,c.fs _ _ y o.h,c.rm.mono v,?_,i,ev];cases hd with
 |true=>let a:=(V7 _ _).mp a;rw[a.2];show EI c a.1
 |false=>cases d with
  |true=>show GI
  |false=>show Fx
def Sj(d hd:Bool)(A:Jd TE)(U:Jd TA)[o:FM T d C m F n][x:CE T A][u:CA T U](k:∀{K E L to t},kh K C L->A K E to->U K E t->J K E (l7 K C m (jR K n F) (if hd then E else E0) to t)):CE T J where
 chk:=IB T d hd C m F n x.chk λy l=> !l.isEmpty&&u.chk y l
 ok c h:=by
  let(b,l,p,q,L,pl,rfl,w,a,v,r,j,i,f,g):=Bu c h;rw[V7]at a;let(to,k1,k2):=x.ok c w;let(t,k3,k4):=u.ok c a.2;cases l with
  |nil=>cases a.1
  |cons e l=>show#[_,Tq r i j k1 k3 (Wg _) (dA f) (gM f) g,k v k2 k4]
def Si(d hd:Bool)(A:Jd TE)[o:FM T d C m F n][x:CE T A](k:∀{K E L to},kh K C L->A K E to->J K E (l7 K C m (jR K n F) (if hd then E else E0) to ja)):CE T J where
 chk:=IB T d hd C m F n x.chk λ_ l=>l.isEmpty
 ok c h:=by let(b,l,p,q,L,pl,rfl,r,a,j,i,g,f,t,e):=Bu c h;let(to,k1,k2):=x.ok c r;rw[W8]at a;subst a;show#[_,PH i f g k1 (Wg _) e,k j k2]
noncomputable instance[FM T R C m F n][CE T (es o)][CE T (es a)][CA T (as b)]:CE T (es (aI C m F n o (ah a b))):=Sj (C:=C) (m:=m) (F:=F) (n:=n) R R (es o) (as (ah a b)) zC
noncomputable instance[FM T R C m F n][CE T (es o)]:CE T (es (aI C m F n o aH)):=Si (C:=C) (m:=m) (F:=F) (n:=n) R R (es o) λh k=>zC h k AC
noncomputable instance[FM T S C m F n][CE T (es o)][CE T (es a)][CA T (as b)]:CE T (es (nz C m F n o (ah a b))):=Sj (C:=C) (m:=m) (F:=F) (n:=n) S S (es o) (as (ah a b)) No
class FK (T:G Fd) (C:Str) (F:fy) (n:Nat) where
 i:Nat
 lv:Nat
 ps:G Str
 h:T[i]?=M (Ve lv C ps n F)
noncomputable instance[o:FK T C F n][x:CE T (es a)][u:CA T (as b)]:CE T (es (rQ C F n (ah a b))) where
 chk Γ e:=(Γ.M.cl.lookup C).isSome&&(QZ Γ o.i (o.lv+1) C e).any λy=>CK.chk T PA (as (ah a b)) Γ (y.1::y.2.1)
 ok c h:=by rw[V7]at h;let(L,l):=XQ.mp h.1;let(y,q,r):=a8 h.2;let(rfl,g,i,j,f):=rF q;let(E,w,_):=mv c g;let(t,v,p):=CK.ok c r;show#[_,L6 (c.fs _ _ i o.h) Fx c.rm v j E w (dA f) (gM f),JD (c.md.cl _ _ l) p]
end
end CC
set_option warn.classDefReducibility false
namespace CC
open PySem L2 L3 L10
variable{T:b5 Fd}{A B C J:Jd TE}{U Z:Jd TA}{Q R:Jd TT}
theorem TN{a:Gm}{X:Cx}{E:XK}(c:Ct T a X E):X.A.units+1<cLine:=Gg c.rm
noncomputable instance[x:CE T (es d)][y:CE T (es k)]:CE T (es (pM d k)) where
 chk Γ e:=(wN e).any λp=>iR p.2.1&&x.chk Γ p.1&&y.chk Γ p.2.1
 ok c h:=by let(p,q,a):=a8 h;simp only[V7]at a;let(l,i,g):=x.ok c a.1.2;let(j,f,b):=y.ok c a.2;rw[iO q];show#[_,II (TN c) i f (uN a.1.1),Et g b]
def Mr(x y:Gm->Wy->Bool)(a:Gm)(e:Wy):Bool:=(Tc .In e).any λp=>x a p.1&&y a p.2
def GZ[x:CE T (es k)][y:CE T (es d)]{l X E e}(c:Ct T l X E)(h:Mr x.chk y.chk l e=S):∃t,PE X e t/\PT X e (tB t)/\cy X.K E t (r9 V8 k d):=by let(p,q,a):=a8 h;rw[V7]at a;let(_,rfl,b):=tY q;let(n,g,j):=x.ok c a.1;let(m,f,i):=y.ok c a.2;show#[_,y4 (Gw (TN c) g f) b,xP (Gw (TN c) g f) b,KY j i]
noncomputable instance[x:CE T (es k)][y:CE T (es d)]:CT T (mj (aX (r9 V8 k d))):=#[Mr x.chk y.chk,λc h=>let#[_,_,h1,a]:=GZ c h;#[_,h1,F6 a]]
noncomputable instance[x:CE T (es d)][y:CE T (es k)]:CE T (es (sV d k)) where
 chk Γ e:=(Q3 "pop" e).any λz=>x.chk Γ z.1&&match z.2.1 with
  |[e]=>y.chk Γ e
  |_=>V8
 ok c h:=by
  let((b,l,p,q),z,g):=a8 h;let(rfl,m,j,a,u):=qV z;rw[V7]at g;let(i,f):=g;let(L,t,r):=x.ok c i
  match l,a,f with
  |[e],a,f=>let a:[e].all iR=S:=a;let(v,o,n):=y.ok c f;show#[_,EB t o #[gz m,oG a (by show 1<20;decide),j,?_],GG r n];rw[dA a];rfl
noncomputable instance[x:CE T (es d)]:CE T (es (wk d)) where
 chk Γ e:=(Da Γ "list" e).any λy=>y.2.1.isEmpty&&(Q3 "values" y.1).any λz=>z.2.1.isEmpty&&x.chk Γ z.1
 ok c h:=by let((e,l,E,w),q,f):=a8 h;let(rfl,g,i):=jL q;simp only[V7,W8]at f;let(rfl,o):=f;let((b,l,v,u),z,a):=a8 o;let(rfl,r,p,H,G):=qV z;simp only[V7,W8]at a;let(rfl,n):=a;let(t,m,j):=x.ok c n;show#[_,vk c g xz (.inr #[_,W]) (L10.ze c.cm) i (ei (Nj abP abH PySem.F.type_dict_values L10.B9 m (gz r) p) jO (iT W)),Hm j]
def RU(x:Str){v:V5}(b:Xg x=M v)(y:(∃id,v=.builtin id)\/∃ty,v=.type ty)(A:Jd TE)[z:CE T A]{r:lD->G V->Hp->VK->Prop}(n:∀{X:Cx},X.calm=S->YG X v (r X.K))(k:∀{K E t},A K E t->J K E (De (r K) (fV t ja))):CE T J where
 chk Γ e:=(Da Γ x e).any λy=>y.2.1.isEmpty&&z.chk Γ y.1
 ok c h:=by let((e,l,p,o),q,f):=a8 h;let(rfl,g,a):=jL q;simp only[V7,W8]at f;let(rfl,m):=f;let(t,j,i):=z.ok c m;show#[_,vk c g b y (n c.cm) a (ei j jO (dA a)),k i]
noncomputable instance[CE T (es d)]:CE T (es (rK d)):=RU "sorted" wP (.inl #[_,W]) (es d) (r:=λ_=>yn) L10.yD Gi
noncomputable instance[CE T (es d)]:CE T (es (su d)):=RU "dict" L10.OQ (.inr #[_,W]) (es d) (r:=xZ) L10.xS Hf
def Hq(i:Nat)(a:Gm)(e:Wy):Bool:=(vN e).any λx=>a.N[i]? ==M x.1&&(a.sc.lookup x.1==M .local||(a.sc.lookup x.1==M .cell&&a.fc.contains x.1))
def ox{b:Gm}{X:Cx}{E:XK}{i:Nat}{e:Wy}(c:Ct T b X E)(h:Hq i b e=S):∃x p,e=.Name x p/\X.N[i]?=M x/\L2.OT X.env.scope x/\(X.fn x=S\/Yg x X.env.scope.names=M WA.local):=by
 let((x,p),q,a):=a8 h;simp only[V7,Xz]at a;show#[x,p,pd q,by rw[c.n];show beq_iff_eq.mp a.1,?_];ext L2.OT;rw[c.sc];rcases a.2 with z|⟨z,w⟩
 .show#[.inl (eC z),.inr (eC z)]
 .show#[.inr (eC z),.inl (c.fc _ (aan.mp w))]
def S9{G:Jd TG}(i:Nat)(k:∀{K E},G K E (mY i)):CG T G where
 chk:=Hq i
 ok c h:=by let(x,p,rfl,e,b,a):=ox c h;show#[_,#[JB c.nd e b a,λ_=>W],k]
noncomputable instance:CG T (go (gN i)):=S9 i uu
noncomputable instance:CG T (IE (eK i)):=S9 i pT
def Tx{G:Jd yf}(k:∀{K E},G K E Kf):CH T G:=#[λ_ l=>l.isEmpty,λ_ h=>by rw[W8.mp h];show#[_,#[IW,W,W],k]]
noncomputable instance:CH T (gs IK):=Tx NB
noncomputable instance:CH T (QX yp):=Tx Iw
def RQ{I:Jd yf}(G:Jd TG)(H:Jd yf)[x:CG T G][y:CH T H](k:∀{K E t u},G K E t->H K E u->I K E (AF t u)):CH T I where
 chk Γ l:=match l with
  |e::r=>x.chk Γ e&&y.chk Γ r
  |[]=>V8
 ok c h:=by
  split at h
  .rw[V7]at h;let(o,(m,a),j):=x.ok c h.1;let(n,(i,f,b),g):=y.ok c h.2;show#[_,#[Ek m i (by rw[a];rfl),by rw[a,Wo,Wo,f],by rw[a,List.findIdx?_cons,b];rfl],k j g]
  .ext h
noncomputable instance[CG T (go g)][CH T (gs r)]:CH T (gs (xu g r)):=RQ (go g) (gs r) Ib
noncomputable instance[CG T (IE g)][CH T (QX r)]:CH T (QX (lL g r)):=RQ (IE g) (QX r) DY
def S3{I:Jd TG}(n:Nat)(H:Jd yf)[y:CH T H](k:∀{K E t},H K E t->I K E (Lr K n t)):CG T I where
 chk Γ e:=(DM e).any λl=>decide (l.length=n)&&y.chk Γ l
 ok c h:=by let(l,q,a):=a8 h;let(_,_,rfl):=uI q;simp only[V7,decide_eq_true_eq]at a;let(rfl,b):=a;let(t,(j,g,f),i):=y.ok c b;show#[_,#[Oc c.cm j g f,λ_=>W],k i]
noncomputable instance[CH T (gs r)]:CG T (go (gT n r)):=S3 n (gs r) OJ
noncomputable instance[CH T (QX r)]:CG T (IE (OW n r)):=S3 n (QX r) Ig
def Ty(A:Jd TE){I:Jd TI}[x:CE T A]{f:lD->TE->TI}(p:∀{X:Cx} {d e t},PE X e t->PI X d e (f X.K t))(k:∀{K E t},A K E t->I K E (f K t)):CI T I where
 chk Γ p:=iR p.2&&x.chk Γ p.2
 ok c h:=by rw[V7]at h;let(t,b,a):=x.ok c h.2;show#[_,#[p b,h.1],k a]
noncomputable instance[CE T (eo a)]:CI T (io (im a)):=Ty (eo a) DZ P5
noncomputable instance[CE T (es a)]:CI T (Q4 (ia a)):=Ty (es a) DZ KA
noncomputable instance[CI T (io f)]:CI T (QH f):=xm (A:=io f) λh=>L3.IO.s h
noncomputable instance[CI T (io f)]:CI T (Q4 (lJ f)):=xm (A:=io f) D9
noncomputable instance[u:CA T (ao a)]:CI T (io (pL kF a)) where
 chk L p:=(Da L "range" p.2).any λy=>y.2.1.isEmpty&&u.chk L [y.1]
 ok {L X E p} c h:=by let((e,l,F,w),q,b):=a8 h;let(z,g,i):=jL q;simp only[V7,W8]at b;let(rfl,n):=b;let(r,o,_):=kZ c g;let(t,m,j):=u.ok c n;let(v,f):=p;let z:f=_:=z;subst z;show#[_,#[BJ r o m (dA i),W],Kn j]
noncomputable instance[u:CA T (ao a)]:CI T (io (BQ a)) where
 chk L p:=Bs p.1&&(Da L "zip" p.2).any λy=>match y.2.1 with
  |[r]=>u.chk L [y.1,r]
  |_=>V8
 ok {L X E p} c h:=by
  rw[V7]at h;let((e,l,G,F),q,f):=a8 h.2;let(z,g,b):=jL q;let(w,v,_):=kZ c g;let(i,j):=p;let z:j=_:=z;subst z;let o:Bs i=S:=h.1
  match l,b,f with
  |[r],b,f=>let b:[e,r].all iR=S:=b;let(t,n,m):=u.ok c f;let(_,_,_,rfl):=vZ o;show#[_,#[P2 w v n (dA b) (gM b),W],Qb m]
end CC
set_option warn.classDefReducibility false
namespace CC
open PySem L2 L3 L10
variable{T:b5 Fd}{A B C J:Jd TE}{U Z:Jd TA}{Q R:Jd TT}{G:Jd TG}{I:Jd TI}
noncomputable instance:CQ T (ke d4):=#[λ_ l=>l.isEmpty,λ_ h=>by rw[W8.mp h];show#[_,wF,GS]]
noncomputable instance:CQ T (mj nG):=#[λ_ l=>l.isEmpty,λ_ h=>by rw[W8.mp h];show#[_,wF,GY]]
def Vv(Q:Jd TT)[z:CT T Q]:CQ T Q where
 chk Γ l:=match l with
  |[e]=>z.chk Γ e
  |_=>V8
 ok c h:=by
  split at h
  .let(t,b,a):=z.ok c h;show#[_,GF b,a]
  .ext h
noncomputable instance[CT T (ke q)]:CQ T (ke q):=Vv (ke q)
def t0{b:Type}(P:Jd (St->Hp->b->Prop))(K:lD)(E:XK):St->Hp->b->Prop:=λa H Q=>∀t,P K E t->t a H Q
def g0(P:Jd TG)(K:lD)(E:XK):TG:=λv a H Q=>∀t,P K E t->t v a H Q
class Cl {τ:Type} (P:Jd (St->Hp->τ->Prop)):Prop where
 cl:∀{K E},P K E (t0 P K E)
class ClG (P:Jd TG):Prop where
 cl:∀{K E},P K E (g0 P K E)
noncomputable instance:Cl (eo g):=#[λB b O a H e Q R w _ h=>h B b O a H e Q R w]
noncomputable instance:Cl (es g):=#[λB a H α b e Q s l w _ h=>h B a H α b e Q s l w]
noncomputable instance:Cl (ke g):=#[λB b O a H e Q R w _ h=>h B b O a H e Q R w]
noncomputable instance:Cl (mj g):=#[λB a H α b e Q s l w _ h=>h B a H α b e Q s l w]
noncomputable instance:ClG (go g):=#[λB b O a H e v pv Q R p w _ h=>h B b O a H e v pv Q R p w]
noncomputable instance:ClG (IE g):=#[λB a H α b e v x Q s l p w _ h=>h B a H α b e v x Q s l p w]
def Pm(e:Wy):b5 Str:=((vN e).map (·.1)).toList++((DM e).getD []).filterMap λe=>(vN e).map (·.1)
def Nm(l:b5 (Str×WA)):b5 Str:=(l.filter λy=>y.2==WA.cell&&l.all λp=> !(p.1==y.1)|| !(p.2==WA.free)).map (·.1)
def T9(a:Gm)(l:b5 (Str×WA)):b5 (Str×WA):=l.map λp=>if(p.2==WA.free&&(ScopeKind.function==ScopeKind.function)&&a.sc.lookup p.1==M .cell)then(p.1,.cell)else p
def Gm.inn(b:Gm)(own:b5 Str)(a:b5 (Str×Nat))(sc:b5 (Str×WA)):Gm:={b with N:=own++a.map (·.1),sc:=T9 b sc,rz:=V8,fa:=V8,fc:=Nm sc}
def yU(b:Gm)(a:b5 Nat):b5 (Str×Nat):=a.filterMap λj=>(b.N[j]?).map λx=>(x,j)
def Uc(b:Gm)(sc:Yk)(a:b5 (Str×Nat)):Bool:=a.all λp=>b.N[p.2]? ==M p.1&&sc.names.lookup p.1==M .free&&(b.sc.lookup p.1==M .cell||b.sc.lookup p.1==M .free)
theorem Mf{d:Gm}{X:Cx}{E:XK}{sc:Yk}(c:Ct T d X E):∀{a:b5 (Str×Nat)},Uc d sc a=S->ab3 X sc a
 |[],_=>trivial
 |p::r,h=>by unfold Uc at h;simp only[Yz,V7,Xz]at h;let(((g,f),e),b):=h;show#[#[by rw[c.n];show beq_iff_eq.mp g,eC f,?_],Mf c b];rw[c.sc];show e.imp eC eC
theorem zH{env:Env}{y:Str}:∀{l:b5 (Str×WA)} {acc:b5 (Str×Wd)},(∀p∈l,p.1=y->(p.2==WA.free)=V8)->acc.lookup y=P->(gh env l acc).lookup y=P
 |[],_,_,h=>h
 |(n,k)::r,acc,h,f=>by
  let a:=λacc=>zH (env:=env) (y:=y) (l:=r) (acc:=acc) λp b=>h p (Wj _ b);ext gh;split
  .rename_i q
   let ne:n≠y:=λe=>by rw[h (n,k) Wh e]at q;ext q
   split
   .show a _ (by rw[W7,show(y==n)=V8 from beq_eq_false_iff_ne.mpr (dN ne)];show f)
   .show a _ f
  .show a _ f
def DJ{env:Env}{l:b5 (Str×WA)}{y:Str}(h:y∈Nm l):((gh env l []).lookup y).isNone=S:=by
 let(p,f,rfl):=WM.mp h;let(_,a):=Xo.mp f;rw[V7]at a;rw[zH (λq b e=>?_) W]
 .rfl
 .let:=XF.mp a.2 q b;rw[e,d9]at this;revert this;cases q.2==WA.free<;>intro h<;>first|rfl|ext h
structure Lc(T:b5 Fd)(Γ':Gm)(X:Cx)(E:XK)(n:Nat)(fj:b5 Nat)(I:Jd TI)(G:Jd TG)(Q:Jd TT)(A:Jd TE)(sc:Yk)(elt:Wy)(cp:Zx) where
 own:b5 Str
 fv:b5 (Str×Nat)
 wi:TI
 e:cp.is_async=0
 ln:own.length=n
 fj:fv.map (·.2)=fj
 pi:PI X cp.target cp.iter wi
 i:I X.K E wi
 pg:∀s H C fp,PG (bV X s H sc C (dg own fv) fp) cp.target (g0 G X.K E0)
 g:G X.K E0 (g0 G X.K E0)
 pq:∀s H C fp,ym (bV X s H sc C (dg own fv) fp) cp.ifs (t0 Q X.K E0)
 q:Q X.K E0 (t0 Q X.K E0)
 pe:∀s H C fp,PE (bV X s H sc C (dg own fv) fp) elt (t0 A X.K E0)
 a:A X.K E0 (t0 A X.K E0)
 fvk:ab3 X sc fv
 fr:(sc.names.all λy=> !(y.2==WA.free)||X.env.scope.names.lookup y.1==M .cell||X.env.scope.names.lookup y.1==M .free)=S
 kd:sc.kind=.function
 nd:(sc.names.map (·.1)).Nodup
 nm:∀y∈sc.names,y.2=.local->sc.names.lookup y.1=M .local
 fold:∀z,foldedSetIterable cp.iter X.env z=pure z
 ct:∀s H C fp W E',Ct T Γ' ((bV X s H sc C (dg own fv) fp).ZZ W) E'
def KH(n:Nat)(d:b5 Nat)(i:CI T I)(g:CG T G)(w:CQ T Q)(x:CE T A)(b:Gm)(elt:Wy)(c:Zx)(sc:Yk):Bool:=
 let own:=Pm c.target
 let e:=yU b d
 let a:=b.inn own e sc.names
 decide (own.length=n)&&decide (e.map (·.2)=d)&&decide (c.is_async=0)&&Uc b sc e&&(sc.names.all λy=> !(y.2==WA.free)||b.sc.lookup y.1==M .cell||b.sc.lookup y.1==M .free)&&decide (sc.kind=.function)&&decide ((sc.names.map (·.1)).Nodup)&&(sc.names.all λy=> !(y.2==WA.local)||sc.names.lookup y.1==M .local)&&decide ((own++e.map (·.1)).Nodup)&&i.chk b (c.target,c.iter)&&g.chk a c.target&&w.chk a c.ifs&&x.chk a elt
def Ai[Cl A][Cl Q][ClG G]{i:CI T I}{g:CG T G}{w:CQ T Q}{x:CE T A}{n:Nat}{f:b5 Nat}{d:Gm}{X:Cx}{E:XK}{o:Wy}{j:Zx}{sc:Yk}(c:Ct T d X E)(h:KH n f i g w x d o j sc=V6):Nonempty (Lc T (d.inn (Pm j.target) (yU d f) sc.names) X E n f I G Q A sc o j):=by
 unfold KH at h;simp only[V7,decide_eq_true_eq]at h;let((((((((((((h1,h2),h3),k1),k2),k3),k4),k5),k6),h5),Y),S),P):=h;let(L,(O,M),N):=i.ok c h5;let ct:∀s H C a W K,Ct T (d.inn (Pm j.target) (yU d f) sc.names) ((bV X s H sc C (dg (Pm j.target) (yU d f)) a).ZZ W) K:=λs H C a W K=>
  #[rfl,k6,by show(relabel sc X.env).names=T9 d sc.names;unfold relabel T9 Env.kindOf;rw[c.kd,c.sc],k3,c.cm,c.rm,λz=>(abl z),λz=>(abl z),λy p=>DJ p,c.md,c.fs]
 let q:∀s H C a,Ct T (d.inn (Pm j.target) (yU d f) sc.names) (bV X s H sc C (dg (Pm j.target) (yU d f)) a) E0:=λs H C a=>ct s H C a _ E0;show#[#[Pm j.target,yU d f,L,h3,h1,h2,O,N,λs H C a=>?_,ClG.cl,λs H C a=>?_,Cl.cl,λs H C a=>?_,Cl.cl,Mf c k1,?_,k3,k4,λy p e=>?_,zX M,ct]]
 .let(t,(m,_),l):=g.ok (q s H C a) Y;show λb s F H v u Q I r z=>m _ _ _ _ _ _ _ I r (z _ l)
 .let(t,m,l):=w.ok (q s H C a) S;show λb s F H Q I z=>m _ _ _ _ _ I (z _ l)
 .let(t,m,l):=x.ok (q s H C a) P;show λb s F H Q I z=>m _ _ _ _ _ I (z _ l)
 .rw[c.sc];show k2
 .let:=XF.mp k5 y p;rw[e]at this;show eC this
def P4(e:Wy):b7 (Wy×Zx×Yk×Pos):=(UO e).bind λy=>match y.2.1 with
 |[a]=>M (y.1,a,y.2.2)
 |_=>P
def A0{e:Wy}{y:Wy×Zx×Yk×Pos}(h:P4 e=M y):e=.ListComp y.1 [y.2.1] y.2.2.1 y.2.2.2:=by
 let((a,l,s,p),q,b):=Xa.mp h;rw[Qk q]
 match l,b with
 |[f],b=>ext b;rfl
def S6(I:Jd TI)(G:Jd TG)(Q:Jd TT)(A:Jd TE)[Cl A][Cl Q][ClG G][i:CI T I][g:CG T G][w:CQ T Q][x:CE T A](n:Nat)(f:b5 Nat)(k:∀{K E own v a g s d},own.length=n->v.map (·.2)=f->I K E a->G K E0 g->Q K E0 s->A K E0 d->J K E (tf own v a g s d)):CE T J where
 chk Γ e:=(P4 e).any λy=>KH n f i g w x Γ y.1 y.2.1 y.2.2.1
 ok c h:=by let((o,r,u,p),q,m):=a8 h;rw[A0 q];let⟨l⟩:=Ai c m;let(t,b,j,as):=r;obtain rfl:as=0:=l.e;show#[_,zF l.own l.fv c.cm l.pi l.pg l.pq l.pe l.fvk l.fr l.kd l.nd l.nm l.fold,k l.ln l.fj l.i l.g l.q l.a]
noncomputable instance[CI T (QH f)][CG T (go g)][CQ T (ke q)][CE T (eo a)]:CE T (eo (dW n l f g q a)):=S6 (QH f) (go g) (ke q) (eo a) n l qv
noncomputable instance[CI T (Q4 f)][CG T (IE g)][CQ T (mj q)][CE T (es a)]:CE T (es (mZ n l f g q a)):=S6 (Q4 f) (IE g) (mj q) (es a) n l Dl
end CC
set_option warn.classDefReducibility false
namespace CC
open PySem L2 L3 L10
variable{T:b5 Fd}{A B C J:Jd TE}{U Z:Jd TA}{Q R:Jd TT}{G:Jd TG}{I:Jd TI}{S Y X:Jd TS}
def RM:X1->b7 (Wy×b5 X1×b5 X1)
 |.If c a b _=>M (c,a,b)
 |_=>P
def EC:X1->b7 (b7 Wy)
 |.Return e _=>M e
 |_=>P
def Mi:X1->b7 Wy
 |.Expr e _=>M e
 |_=>P
def qO:X1->b7 (Wy×Wy)
 |.Assign [t] e _=>M (t,e)
 |_=>P
def LS:X1->b7 (Wy×Wy×b5 X1)
 |.For t i b [] _=>M (t,i,b)
 |_=>P
def ST:X1->b7 (Wy×b5 X1)
 |.While c b [] _=>M (c,b)
 |_=>P
def RL:X1->b7 Wy
 |.Raise (M e) P _=>M e
 |_=>P
section
variable{s:X1}
theorem HD(h:RM s=M x):∃p,s=.If x.1 x.2.1 x.2.2 p:=pI (P:=λx=>∃p,s=.If x.1 x.2.1 x.2.2 p) (by ext s<;>first|show trivial|show#[_,W]) h
theorem vU(h:EC s=M x):∃p,s=.Return x p:=pI (P:=λx=>∃p,s=.Return x p) (by ext s<;>first|show trivial|show#[_,W]) h
theorem Hj(h:Mi s=M x):∃p,s=.Expr x p:=pI (P:=λx=>∃p,s=.Expr x p) (by ext s<;>first|show trivial|show#[_,W]) h
theorem iC(h:qO s=M x):∃p,s=.Assign [x.1] x.2 p:=pI (P:=λx=>∃p,s=.Assign [x.1] x.2 p) (by ext s<;>first|show trivial|(rename_i l _ _;rcases l with _|⟨t,_|⟨_,_⟩⟩<;>first|show trivial|show#[_,W])) h
theorem F0(h:LS s=M x):∃p,s=.For x.1 x.2.1 x.2.2 [] p:=pI (P:=λx=>∃p,s=.For x.1 x.2.1 x.2.2 [] p) (by ext s<;>first|show trivial|(rename_i l _;ext l<;>first|show trivial|show#[_,W])) h
theorem Io(h:ST s=M x):∃p,s=.While x.1 x.2 [] p:=pI (P:=λx=>∃p,s=.While x.1 x.2 [] p) (by ext s<;>first|show trivial|(rename_i l _;ext l<;>first|show trivial|show#[_,W])) h
theorem Ih(h:RL s=M x):∃p,s=.Raise (M x) Ld p:=pI (P:=λx=>∃p,s=.Raise (M x) Ld p) (by ext s<;>first|show trivial|(rename_i a b _;ext a<;>ext b<;>first|show trivial|show#[_,W])) h
end
def UV(S:Jd TS)[o:CU T S]:CS T S where
 chk Γ b:=match b with
  |[s]=>o.chk Γ s
  |_=>V8
 ok c h:=by
  split at h
  .let(t,e,a):=o.ok c h;show#[_,oj e,a]
  .ext h
noncomputable instance[CU T (so f)]:CS T (so f):=UV (so f)
noncomputable instance[CU T (cO f)]:CS T (cO f):=UV (cO f)
noncomputable instance:CS T (so eN):=#[λ_ b=>b.isEmpty,λ_ h=>by rw[W8.mp h];show#[_,zp,Ku]]
noncomputable instance:CS T (cO b6):=#[λ_ b=>b.isEmpty,λ_ h=>by rw[W8.mp h];show#[_,zp,FC]]
def Mq(Y X:Jd TS)[o:CU T Y][n:CS T X](k:∀{K E t u},Y K E t->X K E u->S K E (Eo t u)):CS T S where
 chk Γ b:=match b with
  |s::r=>o.chk Γ s&&n.chk Γ r
  |_=>V8
 ok c h:=by
  split at h
  .rw[V7]at h;let(t,g,f):=o.ok c h.1;let(i,e,a):=n.ok c h.2;show#[_,pH g e,k f a]
  .ext h
noncomputable instance[CU T (so f)][CS T (so g)]:CS T (so (bH f g)):=Mq (so f) (so g) Ot
noncomputable instance[CU T (cO f)][CS T (cO g)]:CS T (cO (aD f g)):=Mq (cO f) (cO g) Kt
def MF(Q:Jd TT)(Y X:Jd TS)[z:CT T Q][m:CS T Y][n:CS T X](k:∀{K E c t u},Q K E c->Y K E t->X K E u->S K E (Ia c t u)):CU T S where
 chk Γ s:=(RM s).any λy=>z.chk Γ y.1&&m.chk Γ y.2.1&&n.chk Γ y.2.2
 ok c h:=by let(y,q,a):=a8 h;let(_,rfl):=HD q;simp only[V7]at a;let(t,j,i):=z.ok c a.1.1;let(o,g,f):=m.ok c a.1.2;let(l,e,b):=n.ok c a.2;show#[_,SY j g e,k i f b]
noncomputable instance[CT T (ke q)][CS T (so f)][CS T (so g)]:CU T (so (lh q f g)):=MF (ke q) (so f) (so g) S7
noncomputable instance[CT T (mj q)][CS T (cO f)][CS T (cO g)]:CU T (cO (bT q f g)):=MF (mj q) (cO f) (cO g) PD
def Mp(A:Jd TE)[x:CE T A](k:∀{K E t},A K E t->S K E (DH t)):CU T S where
 chk Γ s:=(EC s).any λy=>y.any (x.chk Γ)
 ok c h:=by let(y,q,i):=a8 h;let(e,a,g):=a8 i;let(_,rfl):=vU q;subst a;let(t,f,b):=x.ok c g;show#[_,xV f,k b]
noncomputable instance[CE T (eo a)]:CU T (so (dU a)):=Mp (eo a) Ow
noncomputable instance[CE T (es a)]:CU T (cO (L10.fW a)):=Mp (es a) JE
noncomputable instance:CU T (cO rH) where
 chk _ s:=(EC s).any (·.isNone)
 ok c h:=by let(y,q,a):=a8 h;let(_,rfl):=vU q;rw[YH.mp a];show#[_,Kh,DB]
def Er(A:Jd TE)[x:CE T A](k:∀{K E t},A K E t->S K E (sO t)):CU T S where
 chk Γ s:=(Mi s).any λe=>(iR e&& !Qm e)&&x.chk Γ e
 ok c h:=by let(y,q,a):=a8 h;let(_,rfl):=Hj q;let a:=(V7 _ _).mp a;let(t,f,b):=x.ok c a.2;show#[_,zE f (Ab a.1),k b]
noncomputable instance[CE T (eo a)]:CU T (so (ny a)):=Er (eo a) Lk
noncomputable instance[CE T (es a)]:CU T (cO (bf a)):=Er (es a) Ey
def M5(i:Nat)(A:Jd TE)[x:CE T A](k:∀{K E t},A K E t->S K E (wR t (mY i))):CU T S where
 chk Γ s:=(qO s).any λy=>(iR y.2&& !Qm y.2)&&(Hq i Γ y.1&&x.chk Γ y.2)
 ok c h:=by let((f,e),q,a):=a8 h;let(_,rfl):=iC q;let a:=(V7 _ _).mp a;let b:=(V7 _ _).mp a.2;let(t,j,g):=x.ok c b.2;let(y,p,z,k1,k2,k3):=ox c b.1;let z:f=_:=z;subst z;show#[_,E7 c.nd k1 k2 j (Ab a.1) k3,k g]
noncomputable instance[CE T (eo a)]:CU T (so (eA a (gN i))):=M5 i (eo a) λh=>x3 h uu
noncomputable instance[CE T (es a)]:CU T (cO (bX a (eK i))):=M5 i (es a) λh=>AH h pT
def UG(A:Jd TE)(G:Jd TG)[x:CE T A][y:CG T G](k:∀{K E t g},A K E t->G K E g->S K E (wR t g)):CU T S where
 chk Γ s:=(qO s).any λz=>fF z.2&&Bs z.1&&y.chk Γ z.1&&x.chk Γ z.2
 ok c h:=by let((m,e),q,a):=a8 h;let(_,rfl):=iC q;simp only[V7]at a;let(((b,j),i),f):=a;let(t,l,a):=x.ok c f;let(n,(k1,k3),k2):=y.ok c i;let(_,_,_,rfl):=vZ j;show#[_,P6 l k1 (JY b) (Cq b) (by rw[k3];rfl),k a k2]
noncomputable instance[CE T (eo a)][CH T (gs r)]:CU T (so (eA a (gT n r))):=UG (eo a) (go (gT n r)) x3
def PY{elt b sc x p n}{a:Pos}{env:Env}(h:env.kindOf x=M .cell):Yu (.ListComp elt [b] sc a) (M (.Name x p)) n env=pure V8:=by show(pure _:Sem Bool)=_;rw[h];congr 1;show(((_&&V8)&&_)&&_)=V8;rw[afm];rfl
def L5(I:Jd TI)(G:Jd TG)(Q:Jd TT)(A:Jd TE)[Cl A][Cl Q][ClG G][ii:CI T I][g:CG T G][w:CQ T Q][x:CE T A](n:Nat)(r:b5 Nat)(i:Nat)(k:∀{K E own o b g j d},own.length=n->o.map (·.2)=r->I K E b->G K E0 g->Q K E0 j->A K E0 d->S K E (wR (tf own o b g j d) (mY i))):CU T S where
 chk Γ s:=(qO s).any λz=>(vN z.1).any λv=>(P4 z.2).any λy=>Hq i Γ z.1&&(Γ.sc.lookup v.1==M .cell||(Γ.sc.lookup v.1==M .local&&v.2.line==y.2.2.2.line&& !(y.2.2.1.names.any λy=>y.1==v.1&&(y.2==.local||y.2==.cell))))&&KH n r ii g w x Γ y.1 y.2.1 y.2.2.1
 ok c h:=by
  let((f,e),q,h2):=a8 h;let(_,rfl):=iC q;let((v,vp),N,h3):=a8 h2;let((elt,cp,sc,p),L,m):=a8 h3;let u:f=_:=pd N;let t:e=_:=A0 L;subst u t;simp only[V7,Yi,Xz]at m;let((hg,a),hc):=m;let(_,_,z,k1,k2,k3):=ox c hg;ext z;let⟨l⟩:=Ai c hc;let(f,iter,ifs,as):=cp;obtain rfl:as=0:=l.e;show#[_,?_,k l.ln l.fj l.i l.g l.q l.a];rcases a with a|⟨⟨a,hp⟩,ha⟩
  .let a:=eC a;rw[<-c.sc]at a;show E7 c.nd k1 k2 (zF l.own l.fv c.cm l.pi l.pg l.pq l.pe l.fvk l.fr l.kd l.nd l.nm l.fold) (PY a) k3
  .let a:=eC a;rw[<-c.sc]at a;show Ip l.own l.fv c.nd k1 a c.cm l.pi l.pg l.pq l.pe l.fvk l.fr (RZ c.kd a hp ha) l.kd l.nd l.nm l.fold
noncomputable instance[CI T (QH f)][CG T (go g)][CQ T (ke q)][CE T (eo a)]:CU T (so (eA (dW n l f g q a) (gN i))):=L5 (QH f) (go g) (ke q) (eo a) n l i λo m j h e b=>x3 (qv o m j h e b) uu
noncomputable instance[CI T (QH f)][CG T (go g)][CQ T (ke q)][CE T (eo a)]:CU T (cO (bX (kW (ae (dW n l f g q a))) (eK i))):=L5 (QH f) (go g) (ke q) (eo a) n l i λo m j h e b=>AH (zm (wj (qv o m j h e b))) pT
noncomputable instance{C f:Str}[x:CE T (es o)][y:CE T (es a)]:CU T (cO (eO C f o a)) where
 chk Γ s:=(qO s).any λz=>(Td z.1).any λw=>w.2.1==f&&Kx Γ C f&&iR z.2&&x.chk Γ w.1&&y.chk Γ z.2
 ok c h:=by let((i,e),q,F):=a8 h;let(_,rfl):=iC q;let((b,n,p),j,g):=a8 F;let z:i=_:=uZ j;subst z;simp only[V7,beq_iff_eq]at g;let((((rfl,E),v),u),r):=g;let(L,m,l):=vj c E;let(t,k1,k2):=x.ok c u;let(H,k3,k4):=y.ok c r;show#[_,QD k1 k3 (S5 v),Kq m l k2 k4]
noncomputable instance[x:CE T (es d)][y:CE T (es k)][z:CE T (es v)]:CU T (cO (tm d k v)) where
 chk Γ s:=(qO s).any λr=>(wN r.1).any λw=>iR r.2&&x.chk Γ w.1&&y.chk Γ w.2.1&&z.chk Γ r.2
 ok c h:=by let((b,e),q,m):=a8 h;let(_,rfl):=iC q;let(w,f,a):=a8 m;let z:b=_:=iO f;subst z;simp only[V7]at a;let(((l,j),i),g):=a;let(t,k1,k2):=x.ok c j;let(o,k3,k4):=y.ok c i;let(n,k5,k6):=CK.ok c g;show#[_,Lm (TN c) k1 k3 k5 (Mu l),FP k2 k4 k6]
def MK(I:Jd TI)(G:Jd TG)(Y:Jd TS)[v:CI T I][y:CG T G][m:CS T Y](k:∀{K E d g t},I K E d->G K E g->Y K E t->S K E (Jx d g t)):CU T S where
 chk Γ s:=Γ.fa&&(LS s).any λz=>v.chk Γ (z.1,z.2.1)&&y.chk Γ z.1&&m.chk Γ z.2.2
 ok c h:=by rw[V7]at h;let(z,q,a):=a8 h.2;let(_,rfl):=F0 q;simp only[V7]at a;let(t,(f,b),e):=v.ok c a.1.1;let(j,(k1,_),k2):=y.ok c a.1.2;let(i,k3,k4):=m.ok c a.2;show#[_,Nq (c.po h.1) c.cm f k1 k3 (zX b),k e k2 k4]
noncomputable instance[CI T (io f)][CG T (go g)][CS T (so b)]:CU T (so (rE f g b)):=MK (io f) (go g) (so b) NW
noncomputable instance[CI T (Q4 f)][CG T (IE g)][CS T (cO b)]:CU T (cO (nW f g b)):=MK (Q4 f) (IE g) (cO b) Jg
def gm(M:Md)(N:b5 Str)(st:X1)(lv top:Nat)(a:Bool):Gm:=#[M,N,(au st).names,lv,a,V6,Nm (au st).names,top]
def Ue(N a:b5 Str)(sc:Yk):Bool:=decide (sc.kind=.function)&& !sc.isCoroutine&& !sc.isGenerator&&decide N.Nodup&&decide (N.take a.length=a)&&a.all (λx=>sc.names.lookup x==M .local||sc.names.lookup x==M .cell)&&sc.names.all (λy=> !(y.2==.free))
def tF{N c:b5 Str}{sc:Yk}(h:Ue N c sc=V6):Yr N c sc:=by
 unfold Ue at h;simp only[V7,decide_eq_true_eq,Yi]at h;let((((((n,m),l),j),i),g),f):=h;show#[n,m,l,j,i,λx b=>?_,λy a e=>?_]
 .let:=XF.mp g x b;rw[Xz]at this;show this.imp eC eC
 .let:=XF.mp f y a;rw[e]at this;ext this
section
variable{P:Wz}{w:WX}{K:lD}{v:Str->b7 V5}{base:Heap}{f:Wd}{L:Xj}{M:Md}{Z x:Str}{N u:b5 Str}{k n top:Nat}{y:X1}
def Ya(T:b5 Fd)(S:Jd TS)[c:CS T S](M:Md)(N u:b5 Str)(y:X1)(k top:Nat)(a:Bool):Bool:=Ue N u (au y)&&c.chk (gm M N y k top a) (bQ y)
theorem UJ(a:acA K v M)(fs:∀i L,i<top->T[i]?=cL L->L P w K v base)(S:Yr N u (au y)){c A outer s H E}(b:X9 k (A.deeper (WZ Z (au y) s.heap.objs.size f c))):Ct T (gm M N y k top V8) (fx kg P w K v base N Z (au y) f c A outer s H E).nox E:=
 #[W,S.nd,W,S.kind,W,b,λ_=>abZ.never,λz=>abl z,λ_ _=>W,a,fs]
theorem U0(a:acA K v M)(fs:∀i L,i<top->T[i]?=cL L->L P w K v base)(S:Yr N u (au y)){c A outer s H E}(b:X9 k (A.deeper (WZ Z (au y) s.heap.objs.size f c))):Ct T (gm M N y k top V6) (fx (L4.kN P w) P w K v base N Z (au y) f c A outer s H E) E:=
 #[W,S.nd,W,S.kind,W,b,λ_=>abZ.leaving,λ_=>#[_,_,_,_,_,_,_,_,_,W],λ_ _=>W,a,fs]
def nX{g:FS}{b:FN}[c:CS T (so g)](e:acA K v M)(fs:∀i L,i<top->T[i]?=cL L->L P w K v base)(F:Fun K x Z y f L)(h:Ya T (so g) M N u y k top V8=V6)(d:u.length=n:=by rfl)(l:b=gw N.length g:=by rfl):FnOk P w K v base kg (k+1) f L u (y1 K n b):=by let h:=(V7 _ _).mp h;let S:=tF h.1;show UZ F S d W l λm A a s H E j=>c.ok (UJ e fs S j) h.2
def jd{g:di}{b:fy}[c:CS T (cO g)](e:acA K v M)(fs:∀i L,i<top->T[i]?=cL L->L P w K v base)(F:Fun K x Z y f L)(h:Ya T (cO g) M N u y k top V8=V6)(d:u.length=n:=by rfl)(l:b=cj N.length g:=by rfl):FnOk P w K v base kg (k+1) f L u (jR K n b):=by let h:=(V7 _ _).mp h;let S:=tF h.1;show UL F S d W l λm A a s H E j=>c.ok (UJ e fs S j) h.2
def QC{g:di}{b:fy}[c:CS T (cO g)](e:acA K v M)(fs:∀i L,i<top->T[i]?=cL L->L P w K v base)(F:Fun K x Z y f L)(h:Ya T (cO g) M N u y k top V6=V6)(d:u.length=n:=by rfl)(l:b=cj N.length g:=by rfl):FnOk P w K v base (L4.kN P w) (k+1) f L u (jR K n b):=by let h:=(V7 _ _).mp h;let S:=tF h.1;show UA F S d W l λm A a s H E j=>c.ok (U0 e fs S j) h.2
end
section
variable{T:b5 Fd}{P:Wz}{w:WX}{K:lD}{mg:Str->b7 V5}{base:Heap}
theorem Vl:∀i fd,i<0->T[i]?=M fd->fd P w K mg base:=λ_ _ h=>b4 h (afq _)
theorem jf{n:Nat}{x:Fd}(h:∀i fd,i<n->T[i]?=M fd->fd P w K mg base)(e:T[n]?=M x)(a:x P w K mg base):∀i fd,i<n+1->T[i]?=M fd->fd P w K mg base:=λi fd b q=>by
 rcases Nat.lt_succ_iff_lt_or_eq.mp b with z|rfl
 .show h i fd z q
 .rw[e]at q;ext q;show a
theorem look{α:Type}{R:Str->α->Prop}{y:Str}{e:α}{l:b5 (Str×α)}(h:R y e)(r:∀x d,l.lookup x=M d->R x d):∀x d,((y,e)::l).lookup x=M d->R x d:=λx d q=>by
 rw[W7]at q;split at q
 .rename_i z;rw[beq_iff_eq]at z;ext q;rw[z];show h
 .show r x d q
abbrev Ti(K:lD)(mg:Str->b7 V5):Str->D->Prop:=λx d=>∃v u,mg x=M u/\RelV v u/\∀O H,DV O K H v d
theorem Vs:∀x d,([]:b5 (Str×D)).lookup x=M d->Ti K mg x d:=λ_ _ h=>nomatch h
theorem UH{y:Str}{e:D}{l:b5 (Str×D)}(h:Ti K mg y e)(r:∀x d,l.lookup x=M d->Ti K mg x d):∀x d,((y,e)::l).lookup x=M d->Ti K mg x d:=look h r
theorem Uj{x:Str}{a:Wd}{d:D}(h:mg x=M (.ref a))(k:∀O H,DV O K H (.ref a) d):Ti K mg x d:=#[.ref a,_,h,W,k]
theorem V3:∀C L,([]:b5 (Str×b5 Str)).lookup C=M L->kh K C L:=λ_ _ h=>nomatch h
theorem US{y:Str}{e:b5 Str}{l:b5 (Str×b5 Str)}(h:kh K y e)(r:∀x d,l.lookup x=M d->kh K x d):∀x d,((y,e)::l).lookup x=M d->kh K x d:=look h r
abbrev Vr(K:lD)(mg:Str->b7 V5)(x:Str):Prop:=∃C,WI K Wx x=M (M (.ref C))/\mg x=M (.ref C)/\Zc K C Sl "ValueError.__new__"=V6
theorem VH:∀x∈([]:b5 Str),Vr K mg x:=λ_ h=>nomatch h
end
end CC
set_option warn.classDefReducibility false
namespace CC
open PySem L2 L3 L10
variable{T:b5 Fd}
def T1(n:String):Bool:=n== "int"||n== "bool"||n== "str"||n== "list"||n== "tuple"
def Nk{n:String}(h:T1 n=S):(n= "int"\/n= "bool"\/n= "str"\/n= "list"\/n= "tuple")/\Xg (Str.ofString n)=M (.type n):=by unfold T1 at h;simp only[Xz,beq_iff_eq]at h;rcases h with(((rfl|rfl)|rfl)|rfl)|rfl<;>show#[by simp,W]
noncomputable instance[x:CE T (eo a)]:CE T (eo (BX n a)) where
 chk L e:=(Da L "isinstance" e).any λy=>match y.2.1 with
  |[b]=>(vN b).any (λz=>z.1==Str.ofString n)&&blt L (Str.ofString n)&&T1 n&&x.chk L y.1
  |_=>R
 ok {L X E e} c h:=by
  let((e,l,K,J),q,j):=a8 h;let(rfl,g,i):=jL q
  match l,i,j with
  |[b],i,j=>simp only[V7]at j;let(((f,B),A),w):=j;let(z,p,f):=a8 f;let m:=pd p;let(o,I):=z;let f:=beq_iff_eq.mp f;let f:o=_:=f;subst f;let m:b=_:=m;subst m;let(k1,k2):=Nk A;let(H,F,G,C):=kZ c B;let(t,u,r):=x.ok c w;simp only[Yz,V7]at i;show#[_,vk c g uH (.inl #[_,W]) BZ (by simp only[Yz,V7];show i) (ei u (ei (KO (v:=.ty _) H F k2 W C G) jO (iT i.2.1)) (iT i.1)),Ob k1 r]
end CC
set_option warn.classDefReducibility false
namespace CC
open PySem L2 L3 L10
variable{T:b5 Fd}{A B C J:Jd TE}{U Z:Jd TA}{Q R:Jd TT}
end CC
set_option warn.classDefReducibility false
namespace CC
open PySem L2 L3 L10
variable{T:b5 Fd}{A B C J:Jd TE}{U Z:Jd TA}{Q R:Jd TT}
theorem B0{a:Gm}{X:Cx}{E:XK}(c:Ct T a X E):X.A.units+64<cLine:=c.rm.units
noncomputable instance:CE T (es uE) where
 chk _ e:=(UP e).any λy=>y.1.isEmpty&&y.2.isEmpty
 ok _ h:=by let((k,v),q,a):=a8 h;let(_,rfl):=OO q;simp only[V7,W8]at a;let(rfl,rfl):=a;show#[_,LD.pe_ddnew,Cs]
noncomputable instance[x:CE T (es d)][y:CE T (es k)]:CE T (es (jH d k)) where
 chk Γ e:=(wN e).any λp=>iR p.2.1&&x.chk Γ p.1&&y.chk Γ p.2.1
 ok c h:=by let(p,q,a):=a8 h;simp only[V7]at a;let(l,i,g):=x.ok c a.1.2;let(j,f,b):=y.ok c a.2;rw[iO q];show#[_,LD.pe_ddget (B0 c) i f (uN a.1.1),CW g b]
def MD(op:abh)(x y:Gm->Wy->Bool)(a:Gm)(e:Wy):Bool:=(Tc op e).any λp=>x a p.1&&y a p.2
def SK(neg:Bool):abh:=if neg then .NotIn else .In
def DQ{neg:Bool}[x:CE T (es k)][y:CE T (es d)]{l X E e}(c:Ct T l X E)(h:MD (SK neg) x.chk y.chk l e=S):∃t,PE X e t/\PT X e (tB t)/\cy X.K E t (qu neg k d):=by
 let(p,q,g):=a8 h;rw[V7]at g;let(_,rfl,a):=tY q;let(n,f,j):=x.ok c g.1;let(m,b,i):=y.ok c g.2;cases neg with
 |false=>show#[_,y4 (LD.pc_ddin (B0 c) f b) a,xP (LD.pc_ddin (B0 c) f b) a,w9 j i]
 |true=>show#[_,y4 (LD.pc_ddnin (B0 c) f b) a,xP (LD.pc_ddnin (B0 c) f b) a,w9 j i]
noncomputable instance[x:CE T (es k)][y:CE T (es d)]:CT T (mj (aX (qu neg k d))):=#[MD (SK neg) x.chk y.chk,λc h=>let#[_,_,h1,a]:=DQ c h;#[_,h1,F6 a]]
noncomputable instance[x:CE T (es d)][y:CE T (es k)][z:CE T (es v)]:CU T (cO (pB d k v)) where
 chk Γ s:=(qO s).any λr=>(wN r.1).any λw=>iR r.2&&x.chk Γ w.1&&y.chk Γ w.2.1&&z.chk Γ r.2
 ok c h:=by let((b,e),q,m):=a8 h;let(_,rfl):=iC q;let(w,f,a):=a8 m;let z:b=_:=iO f;subst z;simp only[V7]at a;let(((l,j),i),g):=a;let(t,k1,k2):=x.ok c j;let(o,k3,k4):=y.ok c i;let(n,k5,k6):=CK.ok c g;show#[_,LD.ps_ddput (B0 c) k1 k3 k5 (Mu l),Cu k2 k4 k6]
def LP:X1->I (Wy×acN×Wy)
 |.AugAssign t o e _=>M (t,o,e)
 |_=>P
theorem GM{s:X1}(h:LP s=M x):∃p,s=.AugAssign x.1 x.2.1 x.2.2 p:=pI (P:=λx=>∃p,s=.AugAssign x.1 x.2.1 x.2.2 p) (by ext s<;>first|show trivial|show#[_,W]) h
class IOp (f:D->D->I RV) where
 op:acN
 ok:∀{X:Cx},∃ti,TH X op ti/\jG X.K ti f
noncomputable instance:IOp P7:=#[.Add,#[_,K2,BC]]
noncomputable instance[o:IOp f][x:CE T (es a)]:CU T (cO (C3 i f a)) where
 chk Γ s:=(LP s).any λy=>decide (y.2.1=o.op)&&(Hq i Γ y.1&&x.chk Γ y.2.2)
 ok c h:=by let((g,op,e),q,b):=a8 h;let(_,rfl):=GM q;simp only[V7,decide_eq_true_eq]at b;let(rfl,u,r):=b;let(t,n,m):=x.ok c r;let(y,p,z,k1,k2,k3):=ox c u;let z:g=_:=z;subst z;let(v,l,j):=o.ok;show#[_,OY c.nd k1 k2 n l k3,Kb j m]
noncomputable instance[z:CT T (mj q)][m:CS T (cO b)]:CU T (cO (qY q b)) where
 chk Γ s:=Γ.fa&&(ST s).any λy=>z.chk Γ y.1&&m.chk Γ y.2
 ok c h:=by rw[V7]at h;let(y,q,a):=a8 h.2;let(_,rfl):=Io q;rw[V7]at a;let(t,f,e):=z.ok c a.1;let(g,k1,k2):=m.ok c a.2;show#[_,Gk (c.po h.1) f k1,Cf e k2]
def vD:D->V
 |.int i=>.int i
 |_=>.Ye
class aem (l:G D):Prop where
 h:∀K O H,XS O K H (l.map vD) l
noncomputable instance:aem []:=#[λ_ _ _=>.nil]
noncomputable instance[r:aem l]:aem (.int i::l):=#[λK O H=>.cons (.int i) (r.h K O H)]
abbrev C7(ds:G D)(lv:Nat)(x:Str)(b:G Str)(n:Nat)(F:fy):Fd:=λP w K a base=>wx P w K a base (L4.kN P w) lv x b (ds.map vD) (jR K n F)
noncomputable instance[a:aem ds][Fn T (C7 ds) F n][CA T (as u)]:CE T (es (nF F n ds u)):=rC (as u) (C7 ds) F n S λf x r g d p e b=>#[_,AM f r (x W) e (Wg _) g d (dA p) (gM p),Cj (λO H=>a.h _ O H) b]
noncomputable instance[a:aem ds][Fn T (C7 ds) F n][CA T (as u)]:CE T (es (kX F n ds u)):=rC (as u) (C7 ds) F n V8 λf x r g d p e b=>#[_,AM f r GI e (Wg _) g d (dA p) (gM p),yw (λO H=>a.h _ O H) b]
def Va(e:Wy):Bool:=(v8 e).any λy=> !y.2.1.isEmpty
def Rz{o:Wy}{f:Str}{env:Env}(h:Va o=S):attributeBase o f env (eval o env)=eval o env:=by
 let((b,l,e,p),q,h):=a8 h;rw[lF q];cases l with
 |nil=>ext h
 |cons a r=>ext b<;>rfl
noncomputable instance{C f:Str}[x:CE T (es (nF F n ds u))]:CE T (es (aN C f (nF F n ds u))) where
 chk Γ e:=(Td e).any λy=>y.2.1==f&&Kx Γ C f&&Va y.1&&x.chk Γ y.1
 ok c h:=by let((o,n,p),q,a):=a8 h;rw[uZ q];simp only[V7,beq_iff_eq]at a;let(((rfl,r),m),l):=a;let(L,g,b):=vj c r;let(t,j,i):=x.ok c l;show#[_,GP j (Rz m),An g b i]
abbrev Tm(lv:Nat)(C:Str)(b:G Str)(n:Nat)(F:fy):Fd:=λP w K a base=>wU P w K a base (L4.kN P w) lv C b (jR K n F)
class FKE (T:G Fd) (C:Str) (F:fy) (n:Nat) where
 i:Nat
 lv:Nat
 ps:G Str
 h:T[i]?=M (Tm lv C ps n F)
noncomputable instance{C:Str}[o:FKE T C F n][x:CE T (es a)][u:CA T (as b)]:CE T (es (BV C F n (ah a b))) where
 chk Γ e:=Γ.rz&&(Γ.M.cl.lookup C).isSome&&(QZ Γ o.i (o.lv+1) C e).any λy=>CK.chk T PA (as (ah a b)) Γ (y.1::y.2.1)
 ok c h:=by simp only[V7]at h;let(L,l):=XQ.mp h.1.2;let(y,q,p):=a8 h.2;let(rfl,g,i,j,f):=rF q;let(w,v,_):=mv c g;let(t,r,m):=CK.ok c p;show#[_,L6 (c.fs _ _ i o.h) (EI c h.1.1) c.rm r j w v (dA f) (gM f),QA (c.md.cl _ _ l) m]
abbrev U6(lv:Nat)(x f:Str):Fd:=λP w K b base=>∃(C B fI:Wd) (e:Obj) (a:Xj) (g:G Str),L9.XC K C B fI/\K.lookup fI=M e/\Yp K (.ref fI)=S/\FnOk P w K b base kg lv fI a g (L9.ur C f)/\Binds K a g []/\WI K Wx x=M (M (.ref C))/\b x=M (.ref C)
class FX (T:G Fd) (x f:Str) where
 i:Nat
 lv:Nat
 h:T[i]?=M (U6 lv x f)
noncomputable instance{k f:Str}[o:FX T k f][x:CE T (es a)]:CU T (cO (lQ k f a)) where
 chk i s:=i.rz&&(RL s).any λe=>(QZ i o.i (o.lv+1) k e).any λy=>y.2.1.isEmpty&&x.chk i y.1
 ok {i X E s} c h:=by rw[V7]at h;let(S,P):=h;let(e,q,O):=a8 P;let(_,rfl):=Ih q;let((e0,l,p1,p2),w,b):=a8 O;let(rfl,g,hi,K,n):=rF w;simp only[V7,W8]at b;let(rfl,b):=b;let(v,Y,_):=mv c (x:=k) g;let(C,B,fI,oI,fdI,ps,L,H,I,FI,bI,F,G):=c.fs _ _ hi o.h;let(t,u,M):=x.ok c b;let r:=c.rm.mono K;let(N,p,j,f,cd,A,m,s0,H0,e):=c.px S;show#[_,?_,yJ F M];rw[e]at v u r⊢;show L9.CP L H I FI bI r v G (ei u jO (dA n)) Y (dA n) (gM n)
def GQ{P:Wz}{w:WX}{K:lD}{q:Str->I V5}{base:Heap}{f:Wd}{fd:Xj}{M:Md}{a x:Str}{N d:G Str}{k n top:Nat}{st:X1}{g:di}{e:fy}{TT:Wd}{o:Array V5}[c:CS T (cO g)](j:acA K q M)(fs:∀i fd,i<top->T[i]?=cL fd->fd P w K q base)(F:acs K x a st f fd TT o)(h:Ya T (cO g) M N d st k top V6=V6)(r:d.length=n:=by rfl)(m:e=cj N.length g:=by rfl):FnOk P w K q base (L4.kN P w) (k+1) f fd d (jR K n e):=by let h:=(V7 _ _).mp h;let S:=tF h.1;show RI F S r W m λp A b s H E l=>c.ok (U0 j fs S l) h.2
end CC
set_option warn.classDefReducibility false
namespace CC
open PySem L2 L3 L10
variable{T:b5 Fd}{A B C J:Jd TE}{U Z:Jd TA}{Q R:Jd TT}
abbrev Uz(lv:Nat)(x f g:Str):Fd:=λP w K b base=>∃(C B fI:Wd) (e:Obj) (a:Xj) (h:G Str),L9.XC K C B fI/\K.lookup fI=M e/\Yp K (.ref fI)=S/\FnOk P w K b base kg lv fI a h (L9.GC C f g)/\Binds K a h []/\WI K Wx x=M (M (.ref C))/\b x=M (.ref C)
class FX2 (T:G Fd) (x f g:Str) where
 i:Nat
 lv:Nat
 h:T[i]?=M (Uz lv x f g)
end CC
set_option warn.classDefReducibility false
namespace CC
open PySem L2 L3 L10
variable{T:b5 Fd}{A B C J:Jd TE}{U Z:Jd TA}{Q R:Jd TT}
noncomputable instance[Fn T kA F n][CA T (as a)]:CE T (es (BG F n a)):=rC (as a) kA F n V8 λf _ r g d p e b=>#[_,rJ f r e (Wg _) g d (dA p) (gM p),Dv b]
noncomputable instance[x:CE T (es a)]:CE T (es (v7 a)) where
 chk N e:=(Da N "list" e).any λy=>y.2.1.isEmpty&&(Da N "reversed" y.1).any λz=>z.2.1.isEmpty&&x.chk N z.1
 ok {N X E e} c h:=by let((e,l,L,K),q,i):=a8 h;let(rfl,g,m):=jL q;simp only[V7,W8]at i;let(rfl,r):=i;let((e2,M,I,H),j,f):=a8 r;let(z,u,b):=jL j;let z:e=_:=z;subst z;simp only[V7,W8]at f;let(rfl,p):=f;let(t,o,n):=x.ok c p;let(G,F,_):=kZ c g;let(w,v,_):=kZ c u;show#[_,xL c.cm G F w v o (dA m) (dA b),G6 n]
end CC
set_option warn.classDefReducibility false
namespace CC
open PySem L2 L3 L10
variable{T:b5 Fd}
end CC
set_option warn.classDefReducibility false
namespace CC
open PySem L2 L3 L10
variable{T:b5 Fd}{A B:Jd TE}
end CC
namespace M02
inductive Con(E:G (Nat×Nat))(r0:Nat):Bool->Nat->Prop
 |base:Con E r0 S r0
 |col {r c:Nat}:Con E r0 S r->(r,c)∈E->Con E r0 R c
 |row {r c:Nat}:Con E r0 R c->(r,c)∈E->Con E r0 S r
def has(n c:Nat):Prop:=n.testBit c=S
structure Nums(E:G (Nat×Nat))(R C:Nat)(ns:G Nat):Prop where
 len:ns.length=R
 lt:∀n∈ns,n<2^C
 own:∀r c,(r,c)∈E->has (ns.getD r 0) c
 snd:∀r,r<R->∀c,has (ns.getD r 0) c->Con E r V8 c
abbrev NF:=G Nat×G Nat
structure aoi(E:G (Nat×Nat))(r0:Nat)(s:NF):Prop where
 a:r0∈s.1
 n:∀x∈s.1,Con E r0 S x
 f:∀x∈s.2,Con E r0 R x
 d:s.2.Nodup
 d1:s.1.Nodup
structure aoL(R C:Nat)(ss:G (Nat×Nat)):Prop where
 r1:1<=R
 r6:R<=6
 c1:1<=C
 c6:C<=6
 l1:1<=ss.length
 l12:ss.length<=12
 nd:ss.Nodup
 inn:∀s∈ss,s.1<R/\s.2<C
end M02
local macro_rules(kind:=«term{_}»)|`({$a})=>`(L3.ad $a L3.aq)|`({$a,$b})=>`(L3.ad $a (L3.ad $b L3.aq))|`({$a,$b,$c})=>`(L3.ad $a (L3.ad $b (L3.ad $c L3.aq)))|`({$a,$b,$c,$d})=>`(L3.ad $a (L3.ad $b (L3.ad $c (L3.ad $d L3.aq))))
local macro_rules|`(~~~$n)=>`(L3.pC (.int $n))
namespace STP
open PySem L2 L3
def gF:FS:=(bH (lh (ay (aC jB (aC aQ (aa 0) (~~~2)) (pC .none))) (dU (aC aQ (aa 0) (~~~2))) eN)
 (dU (gQ (L10.zP 0) {dW 2 [] (im (aC aQ (aa 0) (~~~0))) (gT 2 (xu (gN 0) (xu (gN 1) IK))) (ay (aC cC (aC aQ (aa 1) (~~~0)) (pC (.str "layer")))) (aC aQ (aa 1) (~~~1))})))
def dI:FN:=gw 1 gF
def fX:FS:=(bH (eA (aC aQ (aC aQ (aC aQ (aa 0) (~~~1)) (aa 1)) (aa 2)) (gN 3))
 (bH (lh (ay (aC cC (aC aQ (aa 3) (~~~0)) (pC (.str "below")))) (dU (aC aQ (aC aQ (aC aQ (aa 0) (~~~1)) (~~~0)) (aa 2))) eN)
 (dU (aa 3))))
def hJ:FN:=gw 4 fX
def d6:FS:=(dU (dW 1 [1] (im (aC aQ (aa 0) (~~~2))) (gN 0) (ay (gQ C2 {dW 1 [0] (im (aa 1)) (gN 0) d4 (aC Hw (aa 0) (aC aQ (aa 1) (~~~0)))})) (aa 0)))
def bu:FN:=gw 2 d6
def eP:FS:=(bH (rE (im (aC aQ (aa 0) (~~~2))) (gN 2) (lh (ay (aC cC (gQ r8 {aC aQ (aa 2) (~~~0)}) (gQ L9.fD {aa 1}))) (dU (aC cT (cZ {aY {pC (.str "letter"),aC aQ (aa 2) (~~~1)}}) (aC ie (cZ {pC (.tuple [(.str "none")])}) (aC qE (gQ dY {aa 1}) (~~~1))))) eN))
 (dU (dW 1 [0] (im (aa 1)) (gN 0) d4 (aC aQ (aC aQ (aC aQ (aa 1) (~~~1)) (~~~0)) (aa 0)))))
def eT:FN:=gw 3 eP
open L10
def et:di:=(aD (eO "Hand" "bed" (am 0) (ae (aa 1)))
 (aD (eO "Hand" "acts" (am 0) (su (ae (aC aQ (aa 2) (~~~0)))))
 (aD (eO "Hand" "waiting" (am 0) (ae (aC aQ (aa 2) (~~~1))))
 (aD (eO "Hand" "once" (am 0) (ae (aC aQ (aa 2) (~~~2))))
 (eO "Hand" "sent" (am 0) (ae (cZ aq)))))))
def cX:fy:=cj 3 et
def fJ:di:=(fW (kE (ah (Db mJ (ah (mZ 1 [0] (ia (rK (aN "Hand" "acts" (am 0)))) (eK 0) nG (kE (ah (ae (aa 0)) (ah (pM (aN "Hand" "acts" (am 1)) (ae (aa 0))) aH)))) aH)) (ah (aN "Hand" "waiting" (am 0)) (ah (aN "Hand" "once" (am 0)) aH)))))
def bv:fy:=cj 1 fJ
def df:di:=(fW (xF (jp jB (aN "Hand" "waiting" (am 0)) (ae (pC .none))) (jp Hw (ae (aa 1)) (iS (aN "Hand" "waiting" (am 0)) (ae (~~~0))))))
def bS:fy:=cj 2 df
def fw:di:=(fW (jp Hw (ae (aa 1)) (wk (aN "Hand" "acts" (am 0)))))
def bB:fy:=cj 2 fw
def g8:di:=(aD (bT (kY (bj (ay (aC cC (aC aQ (aa 2) (~~~0)) (pC (.str "letter"))))) (n6 (aX (aI "Hand" "has_act" bB 2 (am 0) (ah (ae (aa 2)) aH))))) (bf (ki (aN "Hand" "sent" (am 0)) (ae (aY {aC aQ (aa 2) (~~~1),pC (.str "down")})))) b6)
 (tm (aN "Hand" "acts" (am 0)) (ae (aa 1)) (ae (aa 2))))
def bh:fy:=cj 3 g8
def jU:di:=(aD (bX (sV (aN "Hand" "acts" (am 0)) (ae (aa 1))) (eK 2))
 (bT (kY (bj (ay (aC cC (aC aQ (aa 2) (~~~0)) (pC (.str "letter"))))) (n6 (aX (aI "Hand" "has_act" bB 2 (am 0) (ah (ae (aa 2)) aH))))) (bf (ki (aN "Hand" "sent" (am 0)) (ae (aY {aC aQ (aa 2) (~~~1),pC (.str "up")})))) b6))
def iL:fy:=cj 3 jU
def fM:di:=(aD (bX (iS (aN "Hand" "waiting" (am 0)) (ae (~~~0))) (eK 1))
 (aD (bX (iS (aN "Hand" "waiting" (am 0)) (ae (~~~2))) (eK 2))
 (aD (eO "Hand" "waiting" (am 0) (ae (pC .none)))
 (aD (bX (kW (Fi (bj (ay (aC cC (aa 2) (pC (.tuple [(.str "chord")]))))) (ic eT 2 (ah (aN "Hand" "bed" (am 0)) (ah (ae (aa 1)) aH))) (ae (cZ {aY {pC (.str "layer"),aC aQ (aa 2) (~~~2)}})))) (eK 3))
 (nW (lJ (BQ {aa 1,aa 3})) (OW 2 (lL (eK 4) (lL (eK 5) yp))) (bf (aI "Hand" "come" bh 3 (am 0) (ah (ae (aa 4)) (ah (ae (aa 5)) aH)))))))))
def cz:fy:=cj 6 fM
def cP:di:=(aD (bT (zx (aX (jp kj (aN "Hand" "waiting" (am 0)) (ae (pC .none)))) (zx (aX (jp mG (iS (aN "Hand" "waiting" (am 0)) (ae (~~~2))) (ae (pC (.tuple [(.str "chord")]))))) (aX (jp mG (ic dI 1 (ah (aI "Hand" "stands" bv 1 (am 0) aH) aH)) (ae (~~~0)))))) (fW (ae (pC (.bool R)))) b6)
 (fW (jp mG (ic bu 2 (ah (aN "Hand" "bed" (am 0)) (ah (jp cT (iS (aN "Hand" "waiting" (am 0)) (ae (~~~0))) (ae (aY {aa 1}))) aH))) (ae (cZ aq)))))
def cS:fy:=cj 2 cP
def cI:di:=(aD (bX (jp cT (iS (aN "Hand" "waiting" (am 0)) (ae (~~~0))) (ae (aY {aa 1}))) (eK 2))
 (aD (eO "Hand" "waiting" (am 0) (kE (ah (ae (aa 2)) (ah (iS (aN "Hand" "waiting" (am 0)) (ae (~~~1))) (ah (ae (pC (.tuple [(.str "chord")]))) aH)))))
 (bT (aX (jp cC (mZ 1 [] (ia (ic bu 2 (ah (aN "Hand" "bed" (am 0)) (ah (ae (aa 2)) aH)))) (eK 0) nG (ae (gQ dY {aC aQ (aa 0) (~~~0)}))) (ae (cZ {gQ dY {aa 2}})))) (bf (aI "Hand" "decide" cz 1 (am 0) aH)) b6)))
def cG:fy:=cj 3 cI
def gy:di:=(aD (bX (ic dI 1 (ah (aI "Hand" "stands" bv 1 (am 0) aH) aH)) (eK 2))
 (aD (bX (ic hJ 3 (ah (aN "Hand" "bed" (am 0)) (ah (ae (aa 2)) (ah (ae (aa 1)) aH)))) (eK 3))
 (aD (bX (ae (aC aQ (aa 3) (~~~0))) (eK 4))
 (aD (bT (bj (ay (aC mn (aa 4) (aY {pC (.str "layer"),pC (.str "once")})))) (eO "Hand" "once" (am 0) (ae (pC .none))) b6)
 (bT (bj (ay (aC cC (aa 4) (pC (.str "tap"))))) (eO "Hand" "waiting" (am 0) (ae (aY {aY {aa 1},~~~0,aa 3}))) (bT (kY (bj (ay (aC cC (aa 4) (pC (.str "letter"))))) (kY (bj (ay (aC cC (aa 2) (~~~0)))) (aX (jp mG (ic bu 2 (ah (aN "Hand" "bed" (am 0)) (ah (ae (aY {aa 1})) aH))) (ae (cZ aq)))))) (eO "Hand" "waiting" (am 0) (ae (aY {aY {aa 1},~~~0,pC (.tuple [(.str "chord")])}))) (bT (bj (ay (aC cC (aa 4) (pC (.str "once"))))) (aD (bf (aI "Hand" "come" bh 3 (am 0) (ah (ae (aa 1)) (ah (ae (pC (.tuple [(.str "none")]))) aH))))
 (eO "Hand" "once" (am 0) (ae (aC aQ (aa 3) (~~~1))))) (bf (aI "Hand" "come" bh 3 (am 0) (ah (ae (aa 1)) (ah (ae (aa 3)) aH)))))))))))
def eW:fy:=cj 5 gy
def gB:di:=(aD (bT (zx (aX (r9 R (ae (aa 1)) (aN "Hand" "acts" (am 0)))) (aX (aI "Hand" "is_waiting" bS 2 (am 0) (ah (ae (aa 1)) aH)))) rH b6)
 (aD (bT (aX (aI "Hand" "makes_chord" cS 2 (am 0) (ah (ae (aa 1)) aH))) (aD (bf (aI "Hand" "put_to_chord" cG 2 (am 0) (ah (ae (aa 1)) aH)))
 rH) b6)
 (aD (bT (aX (jp jB (aN "Hand" "waiting" (am 0)) (ae (pC .none)))) (bf (aI "Hand" "decide" cz 1 (am 0) aH)) b6)
 (bf (aI "Hand" "begin" eW 2 (am 0) (ah (ae (aa 1)) aH))))))
def gr:fy:=cj 2 gB
def fE:di:=(aD (bX (iS (aN "Hand" "waiting" (am 0)) (ae (~~~2))) (eK 2))
 (bT (bj (ay (aC cC (aa 2) (pC (.tuple [(.str "chord")]))))) (bf (aI "Hand" "decide" cz 1 (am 0) aH)) (aD (eO "Hand" "waiting" (am 0) (ae (pC .none)))
 (bf (aI "Hand" "come" bh 3 (am 0) (ah (ae (aa 1)) (ah (ae (aY {pC (.str "letter"),aC aQ (aa 2) (~~~1)})) aH)))))))
def fL:fy:=cj 3 fE
def g6:di:=(aD (bT (aX (aI "Hand" "is_waiting" bS 2 (am 0) (ah (ae (aa 1)) aH))) (bf (aI "Hand" "settle" fL 2 (am 0) (ah (ae (aa 1)) aH))) b6)
 (bT (aX (r9 R (ae (aa 1)) (aN "Hand" "acts" (am 0)))) (bf (aI "Hand" "go" iL 2 (am 0) (ah (ae (aa 1)) aH))) b6))
def hW:fy:=cj 2 g6
def eZ:di:=(aD (bT (aX (jp kj (aN "Hand" "waiting" (am 0)) (ae (pC .none)))) rH b6)
 (aD (bX (jp cT (iS (aN "Hand" "waiting" (am 0)) (ae (~~~1))) (ae (~~~1))) (eK 1))
 (aD (eO "Hand" "waiting" (am 0) (kE (ah (iS (aN "Hand" "waiting" (am 0)) (ae (~~~0))) (ah (ae (aa 1)) (ah (iS (aN "Hand" "waiting" (am 0)) (ae (~~~2))) aH)))))
 (bT (aX (jp cC (ae (aa 1)) (iS (aN "Hand" "bed" (am 0)) (ae (~~~3))))) (bf (aI "Hand" "decide" cz 1 (am 0) aH)) b6))))
def eR:fy:=cj 2 eZ
def tI:di:=(aD (bX (rQ "Hand" cX 3 (ah (ae (aa 0)) (ah (ae (aa 1)) aH))) (eK 3))
 (aD (bT (bj (ay (aC cC (aC aQ (aa 2) (~~~0)) (pC (.str "turn"))))) (bf (aI "Hand" "wait_on" eR 1 (am 3) aH)) (bT (bj (ay (aC cC (aC aQ (aa 2) (~~~0)) (pC (.str "down"))))) (bf (aI "Hand" "press" gr 2 (am 3) (ah (ae (aC aQ (aa 2) (~~~1))) aH))) (bf (aI "Hand" "lift" hW 2 (am 3) (ah (ae (aC aQ (aa 2) (~~~1))) aH)))))
 (fW (kE (ah (aN "Hand" "sent" (am 3)) (ah (aI "Hand" "stands" bv 1 (am 3) aH) aH))))))
def kQ:fy:=cj 4 tI
end STP
local macro_rules| `(tactic|ext:4)=> `(tactic|·first|((simp only[adW,adX]);rfl)|rfl)| `(tactic|ext:3)=> `(tactic|first|with_reducible assumption|change L3.i4 _ _|change L3.uT _ _|change L3.mr _ _|change L3.GR _ _|change L3.zD _ _|change L3.Bh _ _|change L3.aj3 _ _|change L3.ajy _ _|change L3.oS _ _|change L3.uL _ _|change L3.aeA _ _|change L3.aez _ _|change L3.aiz _ _|change L3.aiT _ _|change L3.vf _ _|change L3.aii _ _|change L3.aje _ _|change L3.ahs _ _|change L3.uf _ _|change L3.ahX _ _|change L3.ah0 _ _|change L3.ail _ _|change L3.ajH _ _|change L3.gG|change L3.gX|change L3.nM|change L3.aqh|change L3.aoQ|change L3.al1|change L3.jD _|change L3.fS _|(with_reducible rfl))| `(tactic|ext:0)=> `(tactic|first
 |change L3.aw
 |((with_reducible apply L3.ag);rfl)
 |((with_reducible apply L3.mH);rfl)
 |change L3.aB
 |change L3.pV
 |((with_reducible apply L3.aF);(·ext:0);(·ext:0);(·rfl);(·rfl);(·ext:3))
 |((with_reducible apply L3.amW);(·ext:0);(·rfl);(·rfl))
 |((with_reducible apply L3.ai);(·ext:0);(·ext:0))
 |((with_reducible apply L3.aU);(·ext:0);(·rfl))
 |((with_reducible apply L3.eY);(·ext:0);(·rfl);(·first|ext:3|rfl))
 |((with_reducible apply L3.eV);(·ext:0);(·rfl);(·rfl);(·with_reducible assumption))
 |((with_reducible apply L3.bU);(·ext:0);(·rfl);(·exact Wc rfl))
 |((with_reducible apply L3.mM);(·ext:0);(·rfl);(·exact Wc rfl))
 |((with_reducible apply L3.DF);(·ext:0);(·rfl);(·rfl))
 |((with_reducible apply L3.jv);(·ext:0);(·rfl))
 |((with_reducible apply L3.zj);(·ext:0);(·ext:0);(·ext:0);(·rfl);(·first|with_reducible assumption|rfl))
 |((with_reducible apply L3.uS);(·ext:0))
 |((with_reducible apply L3.on);(·ext:0);(·intro _;ext:0))
 |((with_reducible apply L3.EW);(·ext:0);(·intro _;ext:0))
 |((with_reducible apply L3.ait);(·ext:0))
 |((with_reducible apply L3.oV);(·ext:0);(·intro _;ext:0))
 |((with_reducible apply L3.af1);(·ext:0);(·intro _;ext:0))
 |((with_reducible apply L3.KR);(·ext:0);(·rfl);(·first|with_reducible assumption|rfl))
 |((with_reducible apply L3.fO);(·ext:0);(·rfl);(·rfl))
 |((with_reducible apply L3.ahR);(·ext:0);(·rfl);(·rfl))
 |((with_reducible apply L3.Fm);(·rfl);(·ext:0);(·rfl);(·rfl);(·first|with_reducible assumption|(simp only[Yy,Wo,L3.dQ] at*;ext));ext:4)
 |((with_reducible apply L3.ak4);(·rfl);(·ext:0);(·rfl);(·rfl);(·with_reducible assumption);(·with_reducible assumption);(·with_reducible assumption);ext:4)
 |((with_reducible apply L3.yu);(·ext:0);(·rfl);ext:4)
 |((with_reducible apply L3.Br);(·ext:0))
 |((with_reducible apply L3.uG);(·ext:0);(·rfl)))
local macro_rules| `(tactic|ext:7)=> `(tactic|first
 |((with_reducible apply L3.akt);(·ext:0);(·ext:0);(·rfl);(·rfl);(·ext:3))
 |((with_reducible apply L3.ajg);(·ext:0);(·rfl);(·rfl);(·with_reducible assumption))
 |((with_reducible apply L3.ajF);(·ext:0);(·rfl);(·first|ext:3|rfl))
 |ext:0)
local macro_rules| `(tactic|ext:0)=> `(tactic|first
 |with_reducible assumption
 |((with_reducible apply L3.oV);(·ext:0);(·intro _;ext:7))
 |((with_reducible apply L3.af1);(·ext:0);(·intro _;ext:7))
 |((with_reducible apply L3.wS);(·ext:0);(·ext:0);(·ext:0);(·rfl);(·rfl);(·rfl);(·ext:3);(·intro _;ext:3))
 |((with_reducible apply L3.zl);(·ext:0);(·rfl);(·rfl);(·rfl)))
local macro_rules| `(tactic|ext:1)=> `(tactic|first
 |((with_reducible apply L3.cK);(·ext:0);(·rfl);ext:4;try ext:1)
 |((with_reducible apply L3.aiy);(·ext:0);try ext:1)
 |((with_reducible apply L3.ajB);try ext:1)
 |((with_reducible apply L3.fG);try ext:1)
 |((with_reducible apply L3.jI);(·ext:0);(·rfl))
 |((with_reducible apply L3.nt);(·ext:0))
 |((with_reducible apply L3.ak1);(·ext:0);(·rfl);ext:4)
 |((with_reducible apply L3.tW);(·ext:0))
 |((with_reducible apply L3.fu);(·ext:0);(·rfl))
 |((with_reducible apply L3.Mz);(·ext:0))
 |(with_reducible apply L3.zy))
namespace STP
open PySem L2 L3
def dM(c:Nat):Str:=#[#v[97+c]]
inductive Mn where
 |WN (c:Nat)
 |Yo (n:Int)
 |Z6 (c:Nat) (n:Int)
 |once (n:Int)
 |none
 |below
 deriving DecidableEq
def mD:Mn->D
 |.WN c=>.tuple [.str "letter",.str (dM c)]
 |.Yo n=>.tuple [.str "layer",.int n]
 |.Z6 c n=>.tuple [.str "tap",.str (dM c),.int n]
 |.once n=>.tuple [.str "once",.int n]
 |.none=>.tuple [.str "none"]
 |.below=>.tuple [.str "below"]
def VM(L a:Int):Mn->Prop
 |.WN c=>c<26
 |.Yo n=>1<=n/\n<a
 |.Z6 c n=>c<26/\1<=n/\n<a
 |.once n=>1<=n/\n<a
 |.none=>True
 |.below=>L≠0
def Mn.isL:Mn->Bool
 |.WN _=>S
 |_=>R
structure Bd where
 n:Int
 ls:G (G Mn)
 cs:G (G Nat×Nat)
 wt:Int
def ka(l:G Mn):D:=.tuple (l.map mD)
def Ya(c:G Nat×Nat):D:=.tuple [.tuple (aR c.1),.str (dM c.2)]
def bD(b:Bd):D:=.tuple [.int b.n,.tuple (b.ls.map ka),.tuple (b.cs.map Ya),.int b.wt]
def VL(n a:Int)(b:G (G Mn)):Prop:=∀(i:Nat) l,b[i]?=M l->(l.length:Int)=n/\∀m∈l,VM i a m
def vt(l0:G Mn)(k:Nat):Bool:=(l0[k]?.map Mn.isL).getD R
def VC(l0:G Mn)(c:G Nat×Nat):Prop:=2<=c.1.length/\c.1.Pairwise (·<·)/\(∀k∈c.1,vt l0 k=S)/\c.2<26
structure VB(b:Bd):Prop where
 n1:1<=b.n
 n5:b.n<=5
 l1:1<=b.ls.length
 l3:b.ls.length<=3
 vl:VL b.n b.ls.length b.ls
 c4:b.cs.length<=4
 vc:∀c∈b.cs,VC (b.ls.headD []) c
 cu:b.cs.Pairwise λa c=>a.1≠c.1
 w1:1<=b.wt
 w4:b.wt<=4
def wn:Mn->Nat
 |.WN _=>0
 |.Yo _=>1
 |.Z6 _ _=>2
 |.once _=>3
 |.none=>4
 |.below=>5
def ws:Nat->Str
 |0=> "letter"
 |1=> "layer"
 |2=> "tap"
 |3=> "once"
 |4=> "none"
 |_=> "below"
def wd(m:Mn):Str:=ws (wn m)
def nw(m:Mn):wn m<6:=by ext m<;>show Wc W
def nu(m:Mn):aQ (mD m) (.int 0)=M (.fz (.str (wd m))):=by ext m<;>show gG
theorem Mv(m:Mn):Wa.strOk (wd m)=S:=(by left:∀i,i<6->Wa.strOk (ws i)=S) _ (nw m)
def xn:∀i,i<6->∀j,j<6->(ws i==ws j)=decide (i=j):=by left
def wB(m:Mn)(j:Nat)(a:j<6):cC (.str (wd m)) (.str (ws j))=M (.fz (.bool (decide (wn m=j)))):=by rw[SS (Mv m) ((by left:∀i,i<6->Wa.strOk (ws i)=S) j a)];ext wd;rw[xn _ (nw m) _ a]
def Mn.isB:Mn->Bool
 |.below=>S
 |_=>R
def Mn.adI:Mn->Bool
 |.Yo _=>S
 |_=>R
def Mn.isT:Mn->Bool
 |.Z6 _ _=>S
 |_=>R
def Mn.isO:Mn->Bool
 |.once _=>S
 |_=>R
theorem j8(m:Mn):cC (.str (wd m)) (.str "letter")=M (.fz (.bool m.isL)):=(wB m 0 ()).trans (by ext m<;>rfl)
theorem EN(m:Mn):cC (.str (wd m)) (.str "below")=M (.fz (.bool m.isB)):=(wB m 5 ()).trans (by ext m<;>rfl)
theorem Ds(m:Mn):cC (.str (wd m)) (.str "layer")=M (.fz (.bool m.adI)):=(wB m 1 ()).trans (by ext m<;>rfl)
theorem Od(m:Mn):cC (.str (wd m)) (.str "tap")=M (.fz (.bool m.isT)):=(wB m 2 ()).trans (by ext m<;>rfl)
theorem K4(m:Mn):cC (.str (wd m)) (.str "once")=M (.fz (.bool m.isO)):=(wB m 3 ()).trans (by ext m<;>rfl)
def RE(m:Mn):mn (.str (wd m)) (.tuple [.str "layer",.str "once"])=M (.fz (.bool (!(m.adI||m.isO)))):=by
 let h:∀a:Str,Wa.strOk a=S->mn (.str a) (.tuple [.str "layer",.str "once"])=M (.fz (.bool (!(("layer":Str)==a||("once":Str)==a)))):=λa b=>by show(if(iH (.str a)&&(Wa.strOk "layer"&&(Wa.strOk "once"&&S)))=S then M (RV.fz (.bool (!(Wa.eqv (.str "layer") (.str a)||(Wa.eqv (.str "once") (.str a)||false)))))else P)=_;rw[show iH (.str a)=S by ext iH;rw[show Wa.canLay0 (.str a)=S from b];rfl,show Wa.strOk "layer"=S by left,show Wa.strOk "once"=S by left,ace];rfl
 rw[h _ (Mv m)];ext wd;rw[show(("layer":Str)==ws (wn m))=_ from xn 1 () _ (nw m),show(("once":Str)==ws (wn m))=_ from xn 3 () _ (nw m)];ext m<;>rfl
def LB:Mn->Prop
 |.WN c=>c<26
 |.Z6 c _=>c<26
 |_=>True
def VM.lb(h:VM L nL m):LB m:=by
 cases m with
 |WN c=>show h
 |Z6 c n=>show h.1
 |_=>trivial
def rG(h:c<26):Wa.strOk (dM c)=S:=by show((#v[97+c]:Array Nat).all λc=>decide (c<0x110000))=S;simp;ext
def tN(h:dM c=dM d):c=d:=by
 let:(97+c)=97+d:=by let a:=d7 (λz:Str=>z.cps.toList) h;show List.head_eq_of_cons_eq a
 ext
def uD(h:LB m):Wa.canLay0 (mD m)=S:=by
 cases m with
 |WN c=>show(Wa.strOk "letter"&&(Wa.strOk (dM c)&&S))=S;rw[rG h,show Wa.strOk "letter"=S by left];rfl
 |Yo n=>show(Wa.strOk "layer"&&(S&&S))=S;left
 |Z6 c n=>show(Wa.strOk "tap"&&(Wa.strOk (dM c)&&(S&&S)))=S;rw[rG h,show Wa.strOk "tap"=S by left];rfl
 |once n=>show(Wa.strOk "once"&&(S&&S))=S;left
 |none=>show(Wa.strOk "none"&&S)=S;left
 |below=>show(Wa.strOk "below"&&S)=S;left
def D3(h:LB m):iH (mD m)=S:=by ext iH;rw[uD h];ext m<;>rfl
def mR:Mn->G D
 |.WN c=>[.str (dM c)]
 |.Yo n=>[.int n]
 |.Z6 c n=>[.str (dM c),.int n]
 |.once n=>[.int n]
 |.none=>[]
 |.below=>[]
def LG(m:Mn):mD m=.tuple (.str (wd m)::mR m):=by ext m<;>rfl
def Rv(a b:Mn):decide (wd a=wd b)=decide (wn a=wn b):=by
 let h:=xn _ (nw a) _ (nw b)
 assumption
theorem zV(c d:Nat):decide (dM c=dM d)=decide (c=d):=decide_eq_decide.mpr #[tN,λh=>by rw[h]]
def NS(a b:Mn)(h:wn a=wn b):Wa.eqvAll (mR a) (mR b)=decide (a=b):=by
 ext a<;>ext b<;>first|ext h|skip
 .show(decide (dM _=dM _)&&S)=_;rw[zV,aaO];show decide_eq_decide.mpr #[λh=>by rw[h],λh=>by ext h;rfl]
 .show(decide (_=_)&&S)=_;rw[aaO];show decide_eq_decide.mpr #[λh=>by rw[h],λh=>by ext h;rfl]
 .show(decide (dM _=dM _)&&(decide (_=_)&&S))=_;rw[zV,aaO,<-Bool.decide_and];show decide_eq_decide.mpr #[λh=>by rw[h.1,h.2],λh=>by ext h;show#[W,W]]
 .show(decide (_=_)&&S)=_;rw[aaO];show decide_eq_decide.mpr #[λh=>by rw[h],λh=>by ext h;rfl]
 .rfl
 .rfl
def Pc(a b:Mn):Wa.eqv (mD a) (mD b)=decide (a=b):=by
 rw[LG,LG];show(decide (wd a=wd b)&&Wa.eqvAll (mR a) (mR b))=_;rw[Rv];by_cases h:wn a=wn b
 .rw[bg h,ZU,NS a b h]
 .rw[bt h,aaw,bt λz=>h (by rw[z])]
theorem AE:∀{l:G Mn},(∀m∈l,LB m)->Wa.canLayAll0 (l.map mD)=S
 |[],_=>rfl
 |m::r,h=>by show(Wa.canLay0 (mD m)&&Wa.canLayAll0 (r.map mD))=S;rw[uD (h m Wh),AE λx a=>h x (Wj _ a)];rfl
theorem zh(a:Mn):∀l:G Mn,((l.map mD).any λe=>Wa.eqv e (mD a))=decide (a∈l)
 |[]=>rfl
 |m::r=>by
  rw[Wv,Zl,zh a r,Pc,<-Bool.decide_or]
  grind
def Jk{l:G Mn}(c:LB a)(b:∀m∈l,LB m):Hw (mD a) (.list (l.map mD))=M (.fz (.bool (decide (a∈l)))):=by show(if(iH (mD a)&&Wa.canLayAll0 (l.map mD))=S then _ else _)=_;rw[D3 c,AE b,Xv,ax W,zh]
def uB(e:α->D)(g:α->b7 D)(I:aL->Prop)(xs:G α)(p:I d)(i:xs.length<=1000)(b:∀x∈xs,∀d,I d->∃c,jF gt C fe (e x) d=.ok (g x,c)/\I c):jK (cY gt C fe (xs.map e) d [])=.ok (xs.filterMap g):=by
 let h:∀(xs:G α) (a:G D) (d:aL),I d->a.length+xs.length<=1000->(∀x∈xs,∀d,I d->∃c,jF gt C fe (e x) d=.ok (g x,c)/\I c)->cY gt C fe (xs.map e) d a=.ok (a++xs.filterMap g):=by
  intro xs
  induction xs with
  |nil=>intro a d _ _ _;show Res.ok a=_;simp_all
  |cons x r j=>
   intro a d m i b;rw[Wo]at i;let(c,o,n):=b x Wh d m;rw[Wv,pR o ()];let f:(a++(g x).toList).length+r.length<=1000:=by
    rw[Wi];cases g x with
    |none=>rw[adn,Yy];ext
    |some y=>rw[Option.toList_some,Zf];ext
   rw[j _ c n f λy l=>b y (Wj _ l),Xb];cases q:g x with
   |none=>rw[ZV q];rfl
   |some y=>rw[ZW q];rfl
 rw[h xs [] d p (by simpa using i) b];rfl
def Bg(a:cB o=o):cB (M (PV.fz d)::o)=M (.fz d)::o:=by show GL _::cB o=_;rw[a];rfl
def oH{α:Type}{c:FT}{d:FE}{a:aL}(e f:α->D)(p:α->Bool)(xs:G α)(j:xs.length<=1000)(m:cB a=a)(h:∀x∈xs,c (M (.fz (e x))::a)=.ok (p x,M (.fz (e x))::a))(l:∀x∈xs,p x=S->d (M (.fz (e x))::a)=.ok (.fz (f x),M (.fz (e x))::a)):jK (cY (gN 0) c d (xs.map e) (P::a) [])=.ok ((xs.filter p).map f):=by
 rw[uB e (λx=>if p x=S then M (f x)else P) (λn=>∃o,n=o::a) xs #[P,W] j ?_]
 .congr 1
  clear j h l
  induction xs with
  |nil=>rfl
  |cons x r i=>
   cases q:p x with
   |true=>rw[ZW (b:=f x) (by rw[ax q]),acq q,i];rfl
   |false=>rw[ZV (by rw[bb (by rw[q];simp)]),acr (by rw[q];simp),i]
 .rintro x g n ⟨o,rfl⟩
  cases q:p x with
  |true=>show#[_,yB W ((h x g).trans (by rw[q])) (l x g q) W (Bg m),_,W]
  |false=>show#[_,Nu W ((h x g).trans (by rw[q])) (Bg m),_,W]
theorem yG(xs:G α):xs.filter (λ_=>S)=xs:=List.filter_eq_self.mpr λ_ _=>W
def lB{α:Type}(e f:α->D)(xs:G α)(b:xs.length<=1000)(h:cB o=o)(g:∀x∈xs,C (M (.fz (e x))::o)=.ok (.fz (f x),M (.fz (e x))::o)):jK (cY (gN 0) d4 C (xs.map e) (P::o) [])=.ok (xs.map f):=by rw[oH e f (λ_=>S) xs b h (λ_ _=>W) λx a _=>g x a,yG]
theorem vB(p:α->Bool):∀l:G α,vd (l.map λc=>Wa.bool (p c))=M (l.map p)
 |[]=>rfl
 |c::r=>by show(vd (r.map λc=>Wa.bool (p c))).map (p c::·)=_;rw[vB p r];rfl
def Eh(p:α->Bool)(l:G α):C2 [.list (l.map λc=>Wa.bool (p c))]=M (.fz (.bool (l.all p))):=by show(vd _).map (λbs=>RV.fz (.bool (bs.all id)))=_;rw[vB];simp_all
theorem qB:∀ns:G Int,mI (ns.map Wa.int)=M ns
 |[]=>rfl
 |n::r=>by show(mI (r.map Wa.int)).map (n::·)=_;rw[qB r];rfl
abbrev Ac:=Nat->I Mn
abbrev Wq:=I (G Nat×Int×I (Nat×Int))
structure Yl where
 ac:Ac
 wt:Wq
 oc:I Int
def fH(ac:Ac):G (Nat×Mn):=(WK 5).filterMap λk=>(ac k).map λa=>(k,a)
def pD(p:Nat×Mn):D:=.tuple [nd p.1,mD p.2]
def rA:I (Nat×Int)->D
 |some (c,n)=>mD (.Z6 c n)
 |none=>.tuple [.str "chord"]
def iw:Wq->D
 |some (b,a,w)=>.tuple [.tuple (aR b),.int a,rA w]
 |none=>.none
def nY:I Int->D
 |some o=>.int o
 |none=>.none
def ef(s:Yl):D:=.tuple [.tuple ((fH s.ac).map pD),iw s.wt,nY s.oc]
inductive ZG where
 |down (k:Nat)
 |up (k:Nat)
 |turn
def cH:ZG->D
 |.down k=>.tuple [.str "down",nd k]
 |.up k=>.tuple [.str "up",nd k]
 |.turn=>.tuple [.str "turn",.int 0]
def ez:p∈fH ac↔p.1<5/\ac p.1=M p.2:=by
 ext fH;rw[Zy];constructor
 .rintro⟨k,e,b⟩
  cases q:ac k with
  |none=>simp_all
  |some a=>rw[q]at b;ext b;show#[Ym.mp e,q]
 .rintro⟨e,b⟩;show#[p.1,Ym.mpr e,by rw[b];rfl]
theorem u8(ac:Ac):(fH ac).length<=5:=List.length_filterMap_le _ _
def HA:Nat×Mn->I Int
 |(_,.Yo n)=>M n
 |_=>P
def wq(ac:Ac):Int:=(((fH ac).filterMap HA).foldl jy P).getD 0
def iU(ac:Ac):I Int->Int
 |some o=>o
 |none=>wq ac
def Gn(ac:Ac):jK (cY (gT 2 (xu (gN 0) (xu (gN 1) IK))) (ay (aC cC (aC aQ (aa 1) (~~~0)) (pC (.str "layer")))) (aC aQ (aa 1) (~~~1)) ((fH ac).map pD) [P,P] [])=.ok (((fH ac).filterMap HA).map .int):=by
 rw[uB pD (λp=>(HA p).map .int) (λg=>∃e b,g=[e,b]) (fH ac) #[P,P,W] (WU (u8 ac) ()) ?_,List.map_filterMap];rintro⟨k,a⟩ _ g ⟨e,b,rfl⟩;let e1:=nu a;let e2:=Ds a;let f:ay (aC cC (aC aQ (aa 1) (~~~0)) (pC (.str "layer"))) [M (.fz (nd k)),M (.fz (mD a))]=.ok (a.adI,[M (.fz (nd k)),M (.fz (mD a))]):=by ext:0
 show#[[M (.fz (nd k)),M (.fz (mD a))],?_,_,_,W];cases a with
 |Yo n=>show yB W f (aF (ag W) aw W W gX) W W
 |_=>show Nu W f W
def ww(s:Yl):dI [ef s]=.ok (.fz (.int (iU s.ac s.oc))):=by
 show iW W ?_;let e2:aQ (ef s) (.int 2)=M (.fz (nY s.oc)):=nM;let e0:aQ (ef s) (.int 0)=M (.fz (.tuple ((fH s.ac).map pD))):=gG;ext gF;cases q:s.oc with
 |some o=>
  rw[q]at e2;let e3:jB (nY (M o)) .none=M (.fz (.bool S)):=W;ext:1
  .intro _;show jI (by ext:0) W W
  .intro h;ext h
 |none=>
  rw[q]at e2;let e3:jB (nY P) .none=M (.fz (.bool R)):=W;ext:1
  .intro h;ext h
  .intro _;show fG (fu (eY (rv:=.fz (.int (wq s.ac))) (ai (dh (by ext:0) W (Gn s.ac)) aB) W ?_) W W);show(mI _).map _=_;rw[qB];rfl
def ji(b:Bd)(L k:Nat):Mn:=((b.ls[L]?.getD [])[k]?).getD .none
def look(b:Bd)(L:Int)(k:Nat):Mn:=if(ji b L.toNat k).isB=S then ji b 0 k else ji b L.toNat k
section
variable{b:Bd}(Z:VB b)
include Z
def LQ{L k:Nat}(a:L<b.ls.length)(e:(k:Int)<b.n):∃l,b.ls[L]?=M l/\l[k]?=M (ji b L k):=by
 let g:=Z.vl L _ (Ww a);let f:k<(b.ls[L]).length:=by ext
 show#[_,Ww a,?_];ext ji;simp_all
def xD{L k:Nat}(e:L<b.ls.length)(a:(k:Int)<b.n):VM L b.ls.length (ji b L k):=by let(l,g,f):=LQ Z e a;show(Z.vl L l g).2 _ (WL f)
def Fp{L k:Nat}(e:L<b.ls.length)(a:(k:Int)<b.n):∃d,aQ (.tuple (b.ls.map ka)) (nd L)=M (.fz d)/\aQ d (nd k)=M (.fz (mD (ji b L k))):=by let(l,f,g):=LQ Z e a;show#[ka l,Pj (by rw[Wl,f];rfl),Pj (by simp_all)]
def Kk{L:Int}{k:Nat}(i:0<=L)(h:L<b.ls.length)(e:(k:Int)<b.n):hJ [bD b,.int L,nd k]=.ok (.fz (mD (look b L k))):=by
 obtain⟨n,rfl⟩:∃n:Nat,L=(n:Int):=#[L.toNat,by ext];let g:=Z.l1;let(d,e2,e3):=Fp Z (L:=n) () e;let(f,e4,e5):=Fp Z (L:=0) () e;let e1:aQ (bD b) (.int 1)=M (.fz (.tuple (b.ls.map ka))):=gX;let e6:=nu (ji b n k);let e7:=EN (ji b n k);let e8:aQ (.tuple (b.ls.map ka)) (.int 0)=M (.fz f):=e4;let a:look b (n:Int) k=if(ji b n k).isB=S then ji b 0 k else ji b n k:=W
 rw[a];generalize ji b n k=m at e3 e6 e7 a;generalize ji b 0 k=m0 at e5 a;show iW W ?_;ext fX;ext:1
 .intro q;rw[ax q];show jI (by ext:0) W W
 .intro q;rw[bb (by rw[q];simp)];show fG (fu (by ext:0) W W)
def uJ{L:Int}{k:Nat}(g:0<=L)(i:L<b.ls.length)(f:(k:Int)<b.n):VM L b.ls.length (look b L k)/\look b L k≠.below:=by
 let h:=Z.l1;let a:=xD Z (L:=0) (k:=k) () f;let v:=xD Z (L:=L.toNat) (k:=k) () f;let e:ji b 0 k≠.below:=λz=>by rw[z]at a;show a W
 rw[adT g]at v;ext look;split
 .show#[?_,e]
  generalize ji b 0 k=m at a e;cases m with
  |below=>show b4 W e
  |_=>show a
 .rename_i q;show#[v,λz=>?_];rw[z]at q;show q W
omit Z in
theorem EK(ks:b5 Nat)(a:ks.length<=5)(c:b5 Nat×Nat):ay (gQ C2 {dW 1 [0] (im (aa 1)) (gN 0) d4 (aC Hw (aa 0) (aC aQ (aa 1) (~~~0)))}) [cL (.fz (Ya c)),cL (.fz (.tuple (aR ks)))]=.ok (ks.all λk=>decide (k∈c.1),[cL (.fz (Ya c)),cL (.fz (.tuple (aR ks)))]):=by
 have e:jK (cY (gN 0) d4 (aC Hw (aa 0) (aC aQ (aa 1) (~~~0))) (aR ks) [Ld,cL (.fz (Ya c))] [])=.ok (ks.map λk=>.bool (decide (k∈c.1))):=lB nd (λk=>.bool (decide (k∈c.1))) ks (by ext) rfl λk _=>by have e0:aQ (Ya c) (.int 0)=cL (.fz (.tuple (aR c.1))):=gG;exact aF (rv:=.fz (.bool (decide (k∈c.1)))) (ag rfl) (by ext:0) rfl rfl (uf _ _)
 exact aU (eY (rv:=.fz (.bool (ks.all λk=>decide (k∈c.1)))) (ds:=[.list (ks.map λk=>.bool (decide (k∈c.1)))]) (ai (dh (cs:=[Ya c]) (ds:=aR ks) (by ext:0) rfl e) aB) rfl (Eh _ _)) rfl
def dc(b:Bd)(a:G Nat):G (G Nat×Nat):=b.cs.filter λc=>a.all λk=>decide (k∈c.1)
def A6(a:o.length<=5):bu [bD b,.tuple (aR o)]=.ok (.ow ((dc b o).map Ya)):=by let e2:aQ (bD b) (.int 2)=M (.fz (.tuple (b.cs.map Ya))):=nM;let e:=Z.c4;show iW W ?_;ext d6;show fu (dh (cs:=[.tuple (aR o)]) (by ext:0) W (oH Ya Ya (λc=>o.all λk=>decide (k∈c.1)) b.cs () W (λc _=>EK o a c) λc _ _=>ag W)) W W
def nU(a:G Nat):G Nat:=(jw (a.map abt)).map acH
omit Z in
theorem qA(ks:b5 Nat):(nU ks).Perm ks:=by have h:=(eB (ks.map abt)).map acH;rw[W2]at h;exact h.trans (by rw[show(acH∘abt)=id from funext λx=>rfl,List.map_id])
omit Z in
theorem Ix(ks:b5 Nat):(jw (ks.map abt)).map Wa.int=aR (nU ks):=by unfold nU aR;rw[W2];refine Zr λx a=>?_;obtain⟨n,_,rfl⟩:=WM.mp ((eB _).mem_iff.mp a);rfl
omit Z in
theorem zc(ks:b5 Nat):(nU ks).Pairwise (·<=·):=by
 have h:∀l:b5 Int,l.Pairwise (·<=·)->(l.map acH).Pairwise (·<=·):=λl h=>by rw[ZN];exact h.imp λh=>by ext
 exact h _ (dR _)
omit Z in
theorem J8(ks:b5 Nat):(nU ks).length=ks.length:=(qA ks).length_eq
omit Z in
theorem wg{ks:b5 Nat}(h:ks.length<64):L9.fD [.tuple (aR ks)]=cL (.ow (aR (nU ks))):=by
 have e:aR ks=(ks.map abt).map Wa.int:=by rw[W2];rfl
 show(match mI (aR ks)with
  |some a=>if a.length<64 then cL (RV.ow ((jw a).map .int))else Ld
  |none=>Ld)=_
 rw[e,qB];dsimp only;rw[ax (by rw[V9];exact h),Ix]
def LH(b:Bd)(a:G Nat):G Mn:=match b.cs.find? λc=>decide (c.1=nU a)with
 |some c=>.WN c.2::Wk (a.length - 1) .none
 |none=>a.map (ji b 0)
omit Z in
omit Z in
theorem SB(n:Nat)(d:D):(Wk n [d]).flatten=Wk n d:=by
 induction n with
 |zero=>rfl
 |succ n a=>rw[Xr,Yh,a];rfl
def NV{n:b5 Nat}(H:1<=n.length)(G:n.length<=5)(C:∀k∈n,(k:Int)<b.n):eT [bD b,.tuple (aR n)]=.ok (.ow ((LH b n).map mD)):=by
 let e2:aQ (bD b) (.int 2)=M (.fz (.tuple (b.cs.map Ya))):=nM;let e1:aQ (bD b) (.int 1)=M (.fz (.tuple (b.ls.map ka))):=gX;let F:=Z.l1;let i:=wg (ks:=n) ();show iW W ?_;ext eP;let rt:∀c:b5 Nat×Nat,(aC cT (cZ {aY {pC (.str "letter"),aC aQ (aa 2) (~~~1)}}) (aC ie (cZ {pC (.tuple [(.str "none")])}) (aC qE (gQ dY {aa 1}) (~~~1)))) [M (.fz (bD b)),M (.fz (.tuple (aR n))),M (.fz (Ya c))]=.ok (.ow ((Mn.WN c.2::Wk (n.length - 1) Mn.none).map mD),[M (.fz (bD b)),M (.fz (.tuple (aR n))),M (.fz (Ya c))]):=λc=>by
  let l:aQ (Ya c) (.int 1)=M (.fz (.str (dM c.2))):=gX;let j:ie (.list [.tuple [.str "none"]]) (.int (((aR n).length:Int) - 1))=M (.ow (Wk (n.length - 1) (.tuple [.str "none"]))):=by rw[dQ,show((n.length:Int) - 1)=((n.length - 1:Nat):Int) by ext];show(Pe () ()).trans (by rw[SB])
  let y:cT (.list [mD (.WN c.2)]) (.list (Wk (n.length - 1) (.tuple [.str "none"])))=M (.ow ((Mn.WN c.2::Wk (n.length - 1) Mn.none).map mD)):=by show(if 1+(Wk (n.length - 1) (Wa.tuple [.str "none"])).length<=1000000 then M (RV.ow ([mD (.WN c.2)]++Wk (n.length - 1) (Wa.tuple [.str "none"])))else P)=_;rw[Xy,ax (),Wv,List.map_replicate];rfl
  show aF (by ext:0) (aF (by ext:0) (aF (by ext:0) aw W W (uT _ _)) W W j) W W y
 let f:∀(e:b5 (b5 Nat×Nat)) (o:b7 PV),(∀c,e.find? (λc=>decide (c.1=nU n))=M c->nK (gN 2) (lh (ay (aC cC (gQ r8 {aC aQ (aa 2) (~~~0)}) (gQ L9.fD {aa 1}))) (dU (aC cT (cZ {aY {pC (.str "letter"),aC aQ (aa 2) (~~~1)}}) (aC ie (cZ {pC (.tuple [(.str "none")])}) (aC qE (gQ dY {aa 1}) (~~~1))))) eN) (e.map Ya) [M (.fz (bD b)),M (.fz (.tuple (aR n))),o]=.ok (.rt (.ow ((Mn.WN c.2::Wk (n.length - 1) Mn.none).map mD))))/\
   (e.find? (λc=>decide (c.1=nU n))=P->∃u,nK (gN 2) (lh (ay (aC cC (gQ r8 {aC aQ (aa 2) (~~~0)}) (gQ L9.fD {aa 1}))) (dU (aC cT (cZ {aY {pC (.str "letter"),aC aQ (aa 2) (~~~1)}}) (aC ie (cZ {pC (.tuple [(.str "none")])}) (aC qE (gQ dY {aa 1}) (~~~1))))) eN) (e.map Ya) [M (.fz (bD b)),M (.fz (.tuple (aR n))),o]=.ok (.nx [M (.fz (bD b)),M (.fz (.tuple (aR n))),u])):=by
  intro e
  induction e with
  |nil=>show λo=>#[λc h=>(by ext h),λ_=>#[o,W]]
  |cons c r B=>
   intro o;let E:aQ (Ya c) (.int 0)=M (.fz (.tuple (aR c.1))):=gG
   let a:ay (aC cC (gQ r8 {aC aQ (aa 2) (~~~0)}) (gQ L9.fD {aa 1})) [M (.fz (bD b)),M (.fz (.tuple (aR n))),M (.fz (Ya c))]=.ok (decide (c.1=nU n),[M (.fz (bD b)),M (.fz (.tuple (aR n))),M (.fz (Ya c))]):=
    aU (aF (eY (by ext:0) W W) (eY (by ext:0) W i) W W (vf _ _)) W
   rw[W9];by_cases h:c.1=nU n
   .rw[bg h]at a⊢;show#[λI t=>?_,λt=>(by ext t)];ext t;show((gN 2 (.fz (Ya c)) [M (.fz (bD b)),M (.fz (.tuple (aR n))),o]).bind λg=>_)=_;rw[Ez,eg];show((lh _ _ _ [M (.fz (bD b)),M (.fz (.tuple (aR n))),M (.fz (Ya c))]).bind _)=_;rw[T7 a,uG (rt c) W];rfl
   .rw[bt h]at a⊢
    let w:nK (gN 2) (lh (ay (aC cC (gQ r8 {aC aQ (aa 2) (~~~0)}) (gQ L9.fD {aa 1}))) (dU (aC cT (cZ {aY {pC (.str "letter"),aC aQ (aa 2) (~~~1)}}) (aC ie (cZ {pC (.tuple [(.str "none")])}) (aC qE (gQ dY {aa 1}) (~~~1))))) eN) ((c::r).map Ya) [M (.fz (bD b)),M (.fz (.tuple (aR n))),o]=nK (gN 2) (lh (ay (aC cC (gQ r8 {aC aQ (aa 2) (~~~0)}) (gQ L9.fD {aa 1}))) (dU (aC cT (cZ {aY {pC (.str "letter"),aC aQ (aa 2) (~~~1)}}) (aC ie (cZ {pC (.tuple [(.str "none")])}) (aC qE (gQ dY {aa 1}) (~~~1))))) eN) (r.map Ya) [M (.fz (bD b)),M (.fz (.tuple (aR n))),M (.fz (Ya c))]:=by show((gN 2 (.fz (Ya c)) [M (.fz (bD b)),M (.fz (.tuple (aR n))),o]).bind λg=>_)=_;rw[Ez,eg];show((lh _ _ _ [M (.fz (bD b)),M (.fz (.tuple (aR n))),M (.fz (Ya c))]).bind _)=_;rw[UF a];rfl
    rw[w];show B _
 let(A,m):=f b.cs P;let v:im (aC aQ (aa 0) (~~~2)) [M (.fz (bD b)),M (.fz (.tuple (aR n))),P]=.ok (b.cs.map Ya,[M (.fz (bD b)),M (.fz (.tuple (aR n))),P]):=by ext:0
 ext LH;cases q:b.cs.find? λc=>decide (c.1=nU n)with
 |some c=>show .eq (EF ((yO v).trans (A c q))) #[W]
 |none=>let(u,m):=m q;show .eq (Fa ((yO v).trans m)) ?_;show fu (dh (by ext:0) W ?_) W W;rw[W2];show lB nd (mD∘ji b 0) n () W λk p=>?_;let(d,l,j):=Fp Z (L:=0) () (C k p);let l:aQ (.tuple (b.ls.map ka)) (.int 0)=M (.fz d):=l;show aF (by ext:0) (ag W) W W j
end
end STP
local macro_rules|`(-($x))=>`(Option.some (.fz $x))
namespace STP
open PySem L2 L3
open L10
def ju(p:Nat×Mn):bZ×SV:=(.inl (p.1:Int),.fz (mD p.2))
def jP(ac:Ac)(k:Nat)(o:I Mn):Ac:=λj=>if j=k then o else ac j
def cW:jP ac k o k=o:=by ext jP;simp_all
def eD(h:j≠k):jP ac k o j=ac j:=by ext jP;rw[bb h]
def E9(ac:Ac):(fH ac).Pairwise λp q=>p.1<q.1:=by
 ext fH;show ag8 _ (λa g h p f q b=>?_) (acI);cases e:ac a with
 |none=>simp_all
 |some x=>
  cases i:ac g with
  |none=>simp_all
  |some y=>rw[e]at f;rw[i]at b;ext f;ext b;show h
def ri(ac:Ac):((fH ac).map (·.1)).Nodup:=by rw[aif,ZN];show(E9 ac).imp λh=>WG h
def AN{l:G (Nat×Mn)}(h:(l.map (·.1)).Nodup):l.Nodup:=by rw[aif,ZN]at h;show h.imp λh e=>h (by rw[e])
theorem pA{l:G (Nat×Mn)}(h:(l.map (·.1)).Nodup)(hm:∀p,p∈l↔p.1<5/\ac p.1=M p.2):l.Perm (fH ac):=
 (List.perm_ext_iff_of_nodup (AN h) (AN (ri ac))).mpr λp=>(hm p).trans ez.symm
section
variable{Y:b5 (Nat×Mn)}{X:Ac}(Z:Y.Perm (fH X))
include Z
theorem jC:p∈Y↔p.1<5/\X p.1=M p.2:=Z.mem_iff.trans ez
theorem D7:(Y.map (·.1)).Nodup:=(Z.map (·.1)).nodup_iff.mpr (ri X)
def DR:Y.length<=5:=by rw[Z.length_eq];show u8 X
def lC{k:Nat}(f:k<5):jc (Y.map ju) (.inl (k:Int))=(X k).map λa=>SV.fz (mD a):=by
 ext jc;cases q:(Y.map ju).find? λb=>decide (b.1=(.inl (k:Int):bZ))with
 |none=>
  cases e:X k with
  |none=>rfl
  |some a=>let:=List.find?_eq_none.mp q (ju (k,a)) (WM.mpr #[(k,a),(jC Z).mpr #[f,e],W]);show b4 (bg W) this
 |some b=>
  let(p,i,rfl):=WM.mp (ZJ q);let h:=b3 (List.find?_some (p:=λb:bZ×SV=>decide (b.1=(.inl (k:Int):bZ))) q);let g:p.1=k:=by let:=Sum.inl.inj h;ext
  rw[<-g,((jC Z).mp i).2];rfl
def HI{k:Nat}(o:k<5):∃c:G (Nat×Mn),jh (Y.map ju) (.inl (k:Int)) (.fz (mD a))=c.map ju/\c.Perm (fH (jP X k (M a))):=by
 ext jh;let i:∀p:Nat×Mn,((ju p).1=(.inl (k:Int):bZ))↔p.1=k:=λp=>#[λh=>by let:=Sum.inl.inj h;ext,λh=>by rw[<-h];rfl];split
 .rename_i h
  show#[Y.map λp=>if p.1=k then(k,a)else p,?_,pA ?_ λp=>?_]
  .rw[W2,W2]
   show Zr λp _=>?_;show(if(ju p).1=(.inl (k:Int):bZ)then((ju p).1,SV.fz (mD a))else ju p)=ju (if p.1=k then(k,a)else p);by_cases e:p.1=k
   .rw[ax ((i p).mpr e),ax e,(i p).mpr e];rfl
   simp_all
  .rw[W2,show Y.map ((·.1)∘λp:Nat×Mn=>if p.1=k then(k,a)else p)=Y.map (·.1)from Zr λp _=>by
    show(if p.1=k then(k,a)else p).1=p.1;split
    .rename_i e;show e.symm
    .rfl]
   show D7 Z
  .let(w,l,j):=abm.mp h
   let(n,v,rfl):=WM.mp l;let b:=(i n).mp (b3 j);rw[WM];constructor
   .rintro⟨r,u,rfl⟩
    split
    .show#[o,cW]
    .rename_i e;let:=(jC Z).mp u;show#[this.1,by rw[eD e];show this.2]
   .rintro⟨f,g⟩
    by_cases e:p.1=k
    .rw[e,cW]at g;show#[n,v,?_];rw[ax b,<-e,Wt g]
    .rw[eD e]at g;show#[p,(jC Z).mpr #[f,g],by rw[bb e]]
 .rename_i h
  let A:=λp m e=>h (abm.mpr #[ju p,WM.mpr #[p,m,W],bg ((i p).mpr e)]);show#[Y++[(k,a)],by rw[WJ];rfl,pA ?_ λp=>?_]
  .rw[WJ,Y6];show#[D7 Z,XM.mpr #[XG,aax],λx t y q=>?_];let(p,b,rfl):=WM.mp t;rw[WB.mp q];show A p b
  .rw[Xd,WB]
   constructor
   .rintro(b|rfl)
    .let:=(jC Z).mp b;show#[this.1,by rw[eD (A p b)];show this.2]
    .show#[o,cW]
   .rintro⟨b,f⟩
    by_cases e:p.1=k
    .rw[e,cW]at f;show .inr (by rw[<-e,Wt f])
    .rw[eD e]at f;show .inl ((jC Z).mpr #[b,f])
def D8{k:Nat}:∃c:G (Nat×Mn),kK (Y.map ju) (.inl (k:Int))=c.map ju/\c.Perm (fH (jP X k P)):=by
 let g:∀p:Nat×Mn,((ju p).1=(.inl (k:Int):bZ))↔p.1=k:=λp=>#[λh=>by let:=Sum.inl.inj h;ext,λh=>by rw[<-h];rfl];show#[Y.filter λp=>decide (p.1≠k),?_,pA ?_ λp=>?_]
 .ext kK;rw[List.filter_map];congr 1;show List.filter_congr λp _=>?_;show decide_eq_decide.mpr (not_congr (g p))
 .show als ((List.filter_sublist).map _) (D7 Z)
 .rw[Xo,jC Z,decide_eq_true_eq]
  constructor
  .rintro⟨⟨b,a⟩,f⟩;show#[b,by rw[eD f];show a]
  .rintro⟨b,a⟩
   by_cases e:p.1=k
   .rw[e,cW]at a;ext a
   .rw[eD e]at a;show#[#[b,a],e]
def FB:av yZ ((Y.map ju).map (·.1))=M (Y.map λp=>(p.1:Int)):=by
 clear Z
 induction Y with
 |nil=>rfl
 |cons p r a=>rw[Wv,Wv];ext av;rw[a];rfl
def EX:jw (Y.map λp=>(p.1:Int))=(fH X).map λp=>(p.1:Int):=by show jZ ((eB _).trans (Z.map _)) (dR _) ?_;rw[ZN];show(E9 X).imp λh=>by ext
end
abbrev Sn:=G (Nat×Bool)
def kH(ac:Ac)(a:Mn):Bool:=decide (a∈(fH ac).map (·.2))
def qk(ac:Ac):Mn->Sn
 |.WN c=>if kH ac (.WN c)=S then[]else[(c,S)]
 |_=>[]
def Mx(ac:Ac):Mn->Sn
 |.WN c=>if kH ac (.WN c)=S then[]else[(c,R)]
 |_=>[]
def eF(p:Yl×Sn)(k:Nat)(a:Mn):Yl×Sn:=({p.1 with ac:=jP p.1.ac k (M a)},p.2++qk p.1.ac a)
def go(p:Yl×Sn)(k:Nat):Yl×Sn:=match p.1.ac k with
 |some a=>({p.1 with ac:=jP p.1.ac k P},p.2++Mx (jP p.1.ac k P) a)
 |none=>p
def gS(p:Yl×Sn)(a:G (Nat×Mn)):Yl×Sn:=a.foldl (λp q=>eF p q.1 q.2) p
def gJ(b:Bd)(a:G Nat):I (Nat×Int)->G Mn
 |some (_,n)=>[.Yo n]
 |none=>LH b a
def bF(b:Bd)(p:Yl×Sn):Yl×Sn:=match p.1.wt with
 |none=>p
 |some (a,_,w)=>gS ({p.1 with wt:=P},p.2) (a.zip (gJ b a w))
def AG:Wq->Nat->Bool
 |some (a,_,_),k=>decide (k∈a)
 |none,_=>R
def B3(b:Bd)(s:Yl)(k:Nat):Bool:=match s.wt with
 |some (a,_,P)=>decide (iU s.ac s.oc=0)&& !(dc b (a++[k])).isEmpty
 |_=>R
def qC(b:Bd)(p:Yl×Sn)(k:Nat):Yl×Sn:=match p.1.wt with
 |some (a,g,_)=>if(dc b (a++[k])).map (·.1.length)=[(a++[k]).length]then bF b ({p.1 with wt:=M (a++[k],g,P)},p.2)else({p.1 with wt:=M (a++[k],g,P)},p.2)
 |none=>p
def dJ(s:Yl)(m:Mn):Yl:=if(m.adI||m.isO)=S then s else{s with oc:=P}
def u0(b:Bd)(L:Int)(p:Yl×Sn)(k:Nat):Mn->Yl×Sn
 |.Z6 c n=>({p.1 with wt:=M ([k],0,M (c,n))},p.2)
 |.WN c=>if(decide (L=0)&& !(dc b [k]).isEmpty)=S then({p.1 with wt:=M ([k],0,P)},p.2)else eF p k (.WN c)
 |.once n=>({(eF p k .none).1 with oc:=M n},(eF p k .none).2)
 |m=>eF p k m
def zi(b:Bd)(p:Yl×Sn)(k:Nat):Yl×Sn:=
 u0 b (iU p.1.ac p.1.oc) (dJ p.1 (look b (iU p.1.ac p.1.oc) k),p.2) k (look b (iU p.1.ac p.1.oc) k)
def gP(b:Bd)(p:Yl×Sn)(k:Nat):Yl×Sn:=
 if((p.1.ac k).isSome||AG p.1.wt k)=S then p else if B3 b p.1 k=S then qC b p k else zi b (bF b p) k
def bq(b:Bd)(p:Yl×Sn)(k:Nat):Yl×Sn:=match p.1.wt with
 |some (_,_,P)=>bF b p
 |some (_,_,M (c,_))=>eF ({p.1 with wt:=P},p.2) k (.WN c)
 |none=>p
def lA(b:Bd)(p:Yl×Sn)(k:Nat):Yl×Sn:=go (if AG p.1.wt k=S then bq b p k else p) k
def gj(b:Bd)(p:Yl×Sn):Yl×Sn:=match p.1.wt with
 |none=>p
 |some (a,g,w)=>if g+1=b.wt then bF b ({p.1 with wt:=M (a,g+1,w)},p.2)else({p.1 with wt:=M (a,g+1,w)},p.2)
def bc(b:Bd)(s:Yl):ZG->Yl×Sn
 |.down k=>gP b (s,[]) k
 |.up k=>lA b (s,[]) k
 |.turn=>gj b (s,[])
def Ir(b:Bd)(s:Yl):G (Str×SV):=[("bed",.fz (bD b)),("acts",.rf 1),("waiting",.fz (iw s.wt)),("once",.fz (nY s.oc)),("sent",.rf 2)]
def mK(p:Nat×Bool):D:=.tuple [.str (dM p.1),.str (if p.2=S then "down" else "up")]
def db(b:Bd)(s:Yl)(sn:Sn)(a:G (Nat×Mn))(J:aJ):aJ:=.obj "Hand" (Ir b s):: .dct (a.map ju):: .lst ((sn.map mK).map .fz)::J
def HS(b:Bd)(p:Yl×Sn)(c:aJ):Prop:=∃a J,a.Perm (fH p.1.ac)/\c=db b p.1 p.2 a J
section
variable{b:Bd}{s:Yl}{sn:Sn}{Y:b5 (Nat×Mn)}{J:aJ}{ρ:aP}{i:Nat}{X:aJ}{p:Yl×Sn}{k:Nat}{a:Mn}
def Oj:(Ir b s).lookup ("bed":Str)=-(bD b):=by rfl
def JU:(Ir b s).lookup ("acts":Str)=M (.rf 1):=by rfl
def HJ:(Ir b s).lookup ("waiting":Str)=-(iw s.wt):=by rfl
def IZ:(Ir b s).lookup ("once":Str)=-(nY s.oc):=by rfl
def HZ:(Ir b s).lookup ("sent":Str)=M (.rf 2):=by rfl
def Uv(m:Str):Bool:=(m== "bed"||m== "acts"||m== "waiting"||m== "once"||m== "sent")==R
def Rp(h:Uv m=S):(Ir b s).lookup m=P:=by unfold Uv at h;simp only[beq_iff_eq,ado]at h;let((((l,j),g),f),e):=h;ext Ir;simp_all
theorem mP(h:ρ[i]?=M (M (.rf 0))):aN "Hand" "bed" (am i) ρ (db b s sn Y J)=.ok (.fz (bD b)) (db b s sn Y J):=fZ (aV h) W Oj
theorem gn(h:ρ[i]?=M (M (.rf 0))):aN "Hand" "acts" (am i) ρ (db b s sn Y J)=.ok (.rf 1) (db b s sn Y J):=fZ (aV h) W JU
theorem bp(h:ρ[i]?=M (M (.rf 0))):aN "Hand" "waiting" (am i) ρ (db b s sn Y J)=.ok (.fz (iw s.wt)) (db b s sn Y J):=fZ (aV h) W HJ
theorem Bj(h:ρ[i]?=M (M (.rf 0))):aN "Hand" "once" (am i) ρ (db b s sn Y J)=.ok (.fz (nY s.oc)) (db b s sn Y J):=fZ (aV h) W IZ
theorem uv(h:ρ[i]?=M (M (.rf 0))):aN "Hand" "sent" (am i) ρ (db b s sn Y J)=.ok (.rf 2) (db b s sn Y J):=fZ (aV h) W HZ
theorem j7(w:Wq)(h:ρ[i]?=M (M (.rf 0)))(e:o ρ X=.ok (.fz (iw w)) (db b s sn Y J)):eO "Hand" "waiting" (am i) o ρ X=.ok (.nx ρ) (db b {s with wt:=w} sn Y J):=
 (mi e (aV h) W (by show Wc W)).trans (by rfl)
theorem AR(o:I Int)(h:ρ[i]?=M (M (.rf 0)))(e:C ρ X=.ok (.fz (nY o)) (db b s sn Y J)):eO "Hand" "once" (am i) C ρ X=.ok (.nx ρ) (db b {s with oc:=o} sn Y J):=
 (mi e (aV h) W (by show Wc W)).trans (by rfl)
def bC(e:HS b p X)(hm:Uv m=S)(h:ρ[i]?=M (M (.rf 0)))(d:fa ρ X=.ok xs X)(c:(SV.rf 0::xs).length=n)(f:F (.rf 0::xs) X=.ok x o):aI "Hand" m F n (am i) fa ρ X=.ok x o:=by let(Y,J,g,rfl):=e;show Az (aV h) W (Rp hm) d c f
def Gq(Y:G (Nat×Mn)):(Y.map ju).map (·.2)=((Y.map (·.2)).map mD).map SV.fz:=by rw[W2,W2,W2];rfl
def AK(ac:Ac):Prop:=∀k a,ac k=M a->k<5/\LB a
def GV(f:HS b p X)(g:AK p.1.ac)(d:LB a):∃c,bB [.rf 0,.fz (mD a)] X=.ok (.fz (.bool (kH p.1.ac a))) c/\HS b p c:=by
 let(Y,J,e,rfl):=f;let e1:kH p.1.ac a=decide (a∈Y.map (·.2)):=decide_eq_decide.mpr (e.map (·.2)).symm.mem_iff;let lb:∀m∈Y.map (·.2),LB m:=λm hm=>by let(q,h,rfl):=WM.mp hm;show(g _ _ ((jC e).mp h).2).2
 show#[db b p.1 p.2 Y (J++[.lst ((Y.map ju).map (·.2))]),?_,Y,_,e,W];rw[e1];show i8 W (ir (cF (af (ag W)) (JT (gn W) W) (uz W (gf (by rw[Gq];show aO)) (Jk d lb))))
theorem z8(f:sn.length<1000)(h:ρ[i]?=M (M (.rf 0)))(e:o ρ (db b s sn Y J)=.ok (.fz (mK (c,d))) (db b s sn Y J)):ki (aN "Hand" "sent" (am i)) o ρ (db b s sn Y J)=.ok (.fz .none) (db b s (sn++[(c,d)]) Y J):=
 (kG (uv h) W e W (by rw[V9,V9];ext)).trans (by ext db;rw[WJ,WJ];rfl)
def pf(e:Y.Perm (fH s.ac))(h:k<5)(o:ρ[0]?=M (M (.rf 0)))(n:ρ[1]?=M (-(nd k)))(m:ρ[2]?=M (-(mD a))):∃c:G (Nat×Mn),c.Perm (fH (jP s.ac k (M a)))/\tm (aN "Hand" "acts" (am 0)) (ae (aa 1)) (ae (aa 2)) ρ (db b s sn Y J)=.ok (.nx ρ) (db b {s with ac:=jP s.ac k (M a)} sn c J):=by let(c,l,j):=HI e h;let g:aa 1 (bO ρ)=.ok (.fz (nd k),bO ρ):=ag (by ext bO;rw[Wl,n];rfl);let f:aa 2 (bO ρ)=.ok (.fz (mD a),bO ρ):=ag (by ext bO;rw[Wl,m];rfl);show#[c,j,(Kw (af f) (gn o) (af g) W W (by rw[V9];let:=DR e;ext)).trans ?_];rw[l];rfl
def oZ(n:HS b p X)(w:AK p.1.ac)(x:LB a)(o:k<5)(v:p.2.length<1000):∃d,bh [.rf 0,.fz (nd k),.fz (mD a)] X=.ok (.fz .none) d/\HS b (eF p k a) d:=by
 let e0:=nu a;let e1:=j8 a;cases q:a.isL with
 |false=>
  let(Y,J,h,rfl):=n;rw[q]at e1;let(f,j,y):=pf (ρ:=[M (.rf 0),-(nd k),-(mD a)]) h o W W W;show#[_,lG W (cA (gH (gD (a9 (by ext:0))) gq) y),f,J,j,?_];let:qk p.1.ac a=[]:=by ext a<;>first|rfl|ext q
  ext eF;simp_all
 |true=>
  rw[q]at e1;let(l,j,m):=GV n w x;let g:∀u,kH p.1.ac a=u->(kY (bj (ay (aC cC (aC aQ (aa 2) (~~~0)) (pC (.str "letter"))))) (n6 (aX (aI "Hand" "has_act" bB 2 (am 0) (ah (ae (aa 2)) aH))))) [M (.rf 0),-(nd k),-(mD a)] X=.ok (!u) l:=λu e=>by rw[e]at j;show iE (a9 (by ext:0)) (lV (aM (bC n (by rfl) W (aj (af (ag W)) aG) W j)))
  let(Y,J,h,rfl):=m;cases B:kH p.1.ac a with
  |true=>
   let(f,t,r):=pf (ρ:=[M (.rf 0),-(nd k),-(mD a)]) h o W W W;show#[_,lG W (cA (gH (g S B) gq) r),f,J,t,?_];let:qk p.1.ac a=[]:=by
    ext a<;>first|ext q|skip
    show(if kH p.1.ac _=S then _ else _)=_;simp_all
   ext eF;simp_all
  |false=>
   ext a<;>first|ext q|skip
   rename_i c;let(f,t,r):=pf (ρ:=[M (.rf 0),-(nd k),-(mD (.WN c))]) (sn:=p.2++[(c,S)]) h o W W W;let A:aQ (mD (.WN c)) (.int 1)=-(.str (dM c)):=gX;show#[_,lG W (cA (eX (g R B) (fP (z8 v W (af (show _=Res.ok (PV.fz (.tuple [.str (dM c),.str "down"]),_) by ext:0))))) r),f,J,t,?_];let:qk p.1.ac (.WN c)=[(c,S)]:=by show(if kH p.1.ac _=S then _ else _)=_;simp_all
   ext eF;rw[this]
end
end STP
namespace STP
open PySem L2 L3 L10
def VA(a:Int):Mn->Prop
 |.WN c=>c<26
 |.Yo n=>1<=n/\n<a
 |.none=>True
 |_=>False
def VA.lb(h:VA nL m):LB m:=by
 cases m with
 |WN c=>show h
 |Z6 c n=>show h.elim
 |_=>trivial
structure SA(b:Bd)(s:Yl):Prop where
 ac:∀k a,s.ac k=M a->(k:Int)<b.n/\VA b.ls.length a
 oc:∀o,s.oc=M o->1<=o/\o<b.ls.length
structure WV(b:Bd)(ac:Ac)(ks:G Nat)(g:Int)(w:I (Nat×Int)):Prop where
 ne:ks≠[]
 nd:ks.Nodup
 kn:∀k∈ks,(k:Int)<b.n
 kf:∀k∈ks,ac k=P
 g0:0<=g
 tp:∀c n,w=M (c,n)->c<26/\(1<=n/\n<b.ls.length)/\ks.length=1
 ch:w=P->∀k∈ks,vt (b.ls.headD []) k=S
structure SW(b:Bd)(s:Yl):Prop where
 sa:SA b s
 wt:∀ks g w,s.wt=M (ks,g,w)->WV b s.ac ks g w/\g<b.wt
def yR{c:G Nat}(hd:c.Nodup)(h:∀k∈c,k<n):c.length<=n:=by rw[<-J8 c];let b:=(qA c).nodup_iff.mpr hd;show IR (((zc c).and b).imp λh=>by ext) λk a=>h k ((qA c).mem_iff.mp a)
section
variable{b:Bd}(Z:VB b){s:Yl}{p:Yl×Sn}{Y:b5 Nat}{g:Int}{w:b7 (Nat×Int)}{X:Ac}{k:Nat}{a:Mn}
include Z
theorem WV.len(h:WV b X Y g w):Y.length<=5:=yR h.nd λk e=>by let:=h.kn k e;let:=Z.n5;ext
omit Z in
theorem WV.ake(h:WV b X Y g w):1<=Y.length:=List.length_pos_iff.mpr h.ne
theorem SA.ak(h:SA b s):AK s.ac:=λk a e=>by let:=h.ac k a e;let:=Z.n5;show#[by ext,(h.ac k a e).2.lb]
omit Z in
theorem SA.cm(h:SA b p.1)(f:(k:Int)<b.n)(ha:VA b.ls.length a):SA b (eF p k a).1:=by
 refine⟨λj x e=>?_,h.oc⟩;by_cases z:j=k
 .subst z;have i:cL a=cL x:=(cW (ac:=p.1.ac) (k:=j) (o:=cL a)).symm.trans e;cases i;exact⟨f,ha⟩
 .exact h.ac j x ((eD z).symm.trans e)
omit Z in
theorem SA.gg(h:SA b p.1):SA b (go p k).1:=by
 unfold go;split
 .refine⟨λj x e=>?_,h.oc⟩
  by_cases z:j=k
  .subst z;exact b4 ((cW (ac:=p.1.ac) (k:=j) (o:=Ld)).symm.trans e) (by simp)
  .exact h.ac j x ((eD z).symm.trans e)
 .exact h
omit Z in
theorem lU:(eF p k a).2.length<=p.2.length+1:=by
 show(p.2++qk p.1.ac a).length<=_;rw[Wi];have:(qk p.1.ac a).length<=1:=by
  cases a with
  |WN c=>show(if _ then _ else _:Sn).length<=1;split<;>simp
  |_=>simp[qk]
 ext
omit Z in
theorem BK(e:b5 (Nat×Mn)):∀p:Yl×Sn,(gS p e).2.length<=p.2.length+e.length:=by
 induction e with
 |nil=>exact λp=>Wg _
 |cons q r f=>intro p;have i:=f (eF p q.1 q.2);have h:=lU (p:=p) (k:=q.1) (a:=q.2);show(gS (eF p q.1 q.2) r).2.length<=_;rw[Wo];ext
omit Z in
theorem SA.cms(e:b5 (Nat×Mn)):∀{p:Yl×Sn},SA b p.1->(∀q∈e,(q.1:Int)<b.n/\VA b.ls.length q.2)->SA b (gS p e).1/\(gS p e).1.wt=p.1.wt/\(gS p e).1.oc=p.1.oc:=by
 induction e with
 |nil=>exact λh _=>⟨h,rfl,rfl⟩
 |cons q r j=>intro p h f;have i:=f q Wh;exact j (h.cm i.1 i.2) λx l=>f x (Wj _ l)
def yQ(h:vt (b.ls.headD []) k=S):∃c,ji b 0 k=.WN c:=by
 let i:=Z.l1;obtain⟨f,r,e⟩:∃f r,b.ls=f::r:=by
  cases q:b.ls with
  |nil=>rw[q]at i;ext i
  |cons l r=>show#[l,r,W]
 unfold vt at h;ext ji;rw[e]at h⊢;rw[acp,adU];rw[aeX]at h;cases q:f[k]? with
 |none=>rw[q]at h;ext h
 |some m=>
  rw[q]at h;cases m with
  |WN c=>show#[c,W]
  |_=>ext h
def JX(f:(k:Int)<b.n)(h:vt (b.ls.headD []) k=S):VA b.ls.length (ji b 0 k):=by let i:=Z.l1;let(c,e):=yQ Z h;let:=xD Z (L:=0) () f;rw[e]at this⊢;show this
def NY(h:WV b X Y g P):∀m∈LH b Y,VA b.ls.length m:=by
 intro m hm;unfold LH at hm;split at hm
 .rename_i c f
  rcases WE.mp hm with rfl|hm
  .show(Z.vc c (ZJ f)).2.2.2
  .rw[(adY.mp hm).2];trivial
 .let(j,e,rfl):=WM.mp hm;show JX Z (h.kn j e) (h.ch W j e)
def uV(h:WV b X Y g w):∀q∈Y.zip (gJ b Y w),(q.1:Int)<b.n/\VA b.ls.length q.2:=by
 intro q f;let e:=YT f;show#[h.kn _ e.1,?_];cases w with
 |none=>show NY Z h _ e.2
 |some i=>let(c,n):=i;rw[WB.mp e.2];show(h.tp c n W).2.1
def WD(b:Bd)(s:Yl):Prop:=∀Y g w,s.wt=M (Y,g,w)->WV b s.ac Y g w
def dC(h:SA b p.1)(f:WD b p.1):SW b (bF b p).1/\(bF b p).1.wt=P/\(bF b p).2.length<=p.2.length+5/\(bF b p).1.oc=p.1.oc:=by
 ext bF;split
 .rename_i q;show#[#[h,λY g w e=>by simp_all],q,abu _ _,W]
 .rename_i Y g w q
  let v:=f Y g w q;let(l,j,i):=SA.cms (Y.zip (gJ b Y w)) (p:=({p.1 with wt:=P},p.2)) #[h.ac,h.oc] (uV Z v);show#[#[l,λ_ _ _ e=>?_],j,?_,i]
  .simp_all
  .let:=BK (Y.zip (gJ b Y w)) ({p.1 with wt:=P},p.2)
   let m:=v.len Z
   grind
omit Z in
theorem zW:∀(l:b5 Int) (m:b7 Int),l.foldl jy m=m\/∃x∈l,l.foldl jy m=cL x
 |[],m=>.inl rfl
 |x::r,m=>by
  rw[aae];rcases zW r (jy m x)with h|⟨y,hy,h⟩
  .rw[h]
   cases m with
   |none=>exact .inr ⟨x,Wh,rfl⟩
   |some z=>
    show cL (if x>z then x else z)=cL z\/_;split
    .exact .inr ⟨x,Wh,by show cL (if x>z then x else z)=_;rename_i q;rw[ax q]⟩
    .exact .inl rfl
  .exact .inr ⟨y,Wj _ hy,h⟩
omit Z in
theorem Au:∀(l:b5 Int) (m:b7 Int),(∀x∈l,∃y,l.foldl jy m=cL y/\x<=y)/\∀z,m=cL z->∃y,l.foldl jy m=cL y/\z<=y
 |[],m=>⟨λx f=>(by cases f),λz h=>⟨z,h,aaB _⟩⟩
 |x::r,m=>by
  rw[aae];obtain⟨o,n⟩:=Au r (jy m x);have j:∃z,jy m x=cL z/\x<=z/\∀u,m=cL u->u<=z:=by
   cases m with
   |none=>exact⟨x,rfl,aaB _,λu h=>by cases h⟩
   |some u=>
    refine⟨if x>u then x else u,rfl,?_,λv h=>?_⟩
    .split<;>ext
    .cases h;split<;>ext
  obtain⟨z,e1,e2,e3⟩:=j;obtain⟨y,e4,e5⟩:=n z e1;refine⟨λv e=>?_,λu i=>⟨y,e4,by have:=e3 u i;ext⟩⟩;rcases WE.mp e with rfl|e
  .exact⟨y,e4,by ext⟩
  .exact o v e
omit Z in
theorem AW{X:Ac}{n:Int}:n∈(fH X).filterMap HA↔∃k,k<5/\X k=cL (.Yo n):=by
 rw[Zy];constructor
 .rintro⟨⟨k,m⟩,f,e⟩
  have h:=ez.mp f;cases m with
  |Yo x=>have:x=n:=Wt e;subst this;exact⟨k,h.1,h.2⟩
  |_=>cases e
 .rintro⟨k,f,e⟩;exact⟨(k,.Yo n),ez.mpr ⟨f,e⟩,rfl⟩
def Kc(h:SA b s):0<=wq s.ac/\wq s.ac<b.ls.length/\(∀k n,s.ac k=M (.Yo n)->n<=wq s.ac)/\(wq s.ac=0\/∃k,s.ac k=M (.Yo (wq s.ac))):=by
 let l:=Z.l1;let o:=Z.n5;ext wq;generalize hm:((fH s.ac).filterMap HA).foldl jy P=m;let i:=(Au ((fH s.ac).filterMap HA) P).1;let f:=zW ((fH s.ac).filterMap HA) P;rw[hm]at i f;let up:∀k n,s.ac k=M (.Yo n)->∃y,m=M y/\n<=y:=λk n e=>i n (AW.mpr #[k,by let:=(h.ac k _ e).1;ext,e]);cases m with
 |none=>show#[aaB _,by show(0:Int)<_;ext,λk n e=>?_,.inl W];let(y,e2,_):=up k n e;ext e2
 |some x=>
  rcases f with f|⟨y,q,f⟩
  .ext f
  .ext f;let(k,_,e):=AW.mp q;let:=(h.ac k _ e).2;let:1<=x/\x<b.ls.length:=this;show#[by show 0<=x;ext,by show x<_;ext,λk n e=>?_,.inr #[k,e]];let(y,e2,j):=up k n e;ext e2;show j
def uQ(h:SA b s):0<=iU s.ac s.oc/\iU s.ac s.oc<b.ls.length:=by
 cases q:s.oc with
 |none=>let:=Kc Z h;show#[this.1,this.2.1]
 |some o=>let:=h.oc o q;show#[by show 0<=o;ext,this.2]
end
section
variable{b:Bd}{s:Yl}{Q:Sn}{Y:b5 (Nat×Mn)}{J:aJ}{T:aP}{i:Nat}{X:aJ}{p:Yl×Sn}{k:Nat}{a:Mn}
def x9(h:f x=M y):av f [x]=M [y]:=by ext av;rw[h];rfl
def eU:(l++[c]).set l.length o=l++[o]:=by simp
def mB(f:HS b p X):∃c,bv [.rf 0] X=.ok (.fz (ef p.1)) c/\HS b p c:=by
 let(Y,J,e,rfl):=f;let h:=DR e;let j:ia (rK (aN "Hand" "acts" (am 0))) [M (.rf 0)] (db b p.1 p.2 Y J)=.ok ((fH p.1.ac).map λq=>nd q.1) (db b p.1 p.2 Y (J++[.dead])):=by
  show(yi (ds:=(fH p.1.ac).map λq=>nd q.1) (HP (gn W) W (FB e) (by rw[V9];ext)) ?_).trans ?_
  .rw[EX e];show aO.trans ?_;rw[W2,W2];rfl
  .rw[eU];rfl
 let l:dG (eK 0) nG (kE (ah (ae (aa 0)) (ah (pM (aN "Hand" "acts" (am 1)) (ae (aa 0))) aH))) ((fH p.1.ac).map λq=>nd q.1) [P,M (.rf 0)] (db b p.1 p.2 Y (J++[.dead])) []=.ok (((fH p.1.ac).map pD).map .fz) (db b p.1 p.2 Y (J++[.dead])):=by show(mw (λq:Nat×Mn=>nd q.1) (λq=>.fz (pD q)) _ (λT=>∃o,T=[o,M (.rf 0)]) (fH p.1.ac) _ [] #[P,W] (by let:=u8 p.1.ac;grind) ?_).trans (by rw[W2];rfl);rintro q g T ⟨o,rfl⟩;let hm:=ez.mp g;show#[[-(nd q.1),M (.rf 0)],W,W,?_,_,W];show u6 (aj (af (ag W)) (aj (Ii (gn W) (af (ag W)) W W (by rw[lC e hm.1,hm.2];rfl)) aG)) (Wc W)
 let tp:Db mJ (ah (mZ 1 [0] (ia (rK (aN "Hand" "acts" (am 0)))) (eK 0) nG (kE (ah (ae (aa 0)) (ah (pM (aN "Hand" "acts" (am 1)) (ae (aa 0))) aH)))) aH) [M (.rf 0)] (db b p.1 p.2 Y J)=.ok (.fz (.tuple ((fH p.1.ac).map pD))) (db b p.1 p.2 Y (J++[.dead]++[.lst (((fH p.1.ac).map pD).map .fz)])):=
  Bf (aj (zn j l) aG) (x9 (gf aO)) W
 show#[_,i8 W (ir (u6 (aj tp (aj (bp W) (aj (Bj W) aG))) (Wc W))),Y,_,e,W]
def Fj(f:HS b p X):bS [.rf 0,.fz (nd k)] X=.ok (.fz (.bool (AG p.1.wt k))) X:=by
 let(Y,J,h,rfl):=f;show i8 W (ir ?_);cases q:p.1.wt with
 |none=>
  let e1:jB (iw p.1.wt) .none=-(.bool R):=by rw[q];rfl
  show CZ (aM (cF (bp W) (af aw) (bL e1)))
 |some x=>
  let(e,g,w):=x;let e1:jB (iw p.1.wt) .none=-(.bool S):=by rw[q];rfl
  let e2:aQ (iw p.1.wt) (.int 0)=-(.tuple (aR e)):=by rw[q];show gG
  show C0 (aM (cF (bp W) (af aw) (bL e1))) (cF (af (ag W)) (cJ (bp W) (af aw) e2) (bL (uf _ _)))
def Sw(F:HS b p X)(u:AK p.1.ac)(N:p.1.ac k=M a)(G:p.2.length<1000):∃D,iL [.rf 0,.fz (nd k)] X=.ok (.fz .none) D/\HS b (go p k) D:=by
 let(Y,J,C,rfl):=F;let H:=(u k a N).1;let lb:=(u k a N).2;let(f,K,y):=D8 C
 let n:sV (aN "Hand" "acts" (am 0)) (ae (aa 1)) [M (.rf 0),-(nd k),P] (db b p.1 p.2 Y J)=.ok (.fz (mD a)) (db b {p.1 with ac:=jP p.1.ac k P} p.2 f J):=
  (Jm (gn W) W (af (ag W)) W W (by rw[lC C H,N];rfl)).trans (by rw[K];rfl)
 let I:go p k=({p.1 with ac:=jP p.1.ac k P},p.2++Mx (jP p.1.ac k P) a):=by ext go;rw[N]
 rw[I];let t:AK (jP p.1.ac k P):=λj x e=>by
  by_cases z:j=k
  .subst z;rw[cW]at e;ext e
  .rw[eD z]at e;show u j x e
 let e0:=nu a;let e1:=j8 a;let l:ay (aC cC (aC aQ (aa 2) (~~~0)) (pC (.str "letter"))) (bO [M (.rf 0),-(nd k),-(mD a)])=.ok (a.isL,bO [M (.rf 0),-(nd k),-(mD a)]):=by ext:0
 let w:Ze (bT (kY (bj (ay (aC cC (aC aQ (aa 2) (~~~0)) (pC (.str "letter"))))) (n6 (aX (aI "Hand" "has_act" bB 2 (am 0) (ah (ae (aa 2)) aH))))) (bf (ki (aN "Hand" "sent" (am 0)) (ae (aY {aC aQ (aa 2) (~~~1),pC (.str "up")})))) b6 [M (.rf 0),-(nd k),-(mD a)] (db b {p.1 with ac:=jP p.1.ac k P} p.2 f J)) (λ_ D=>SV.fz .none=.fz .none/\HS b ({p.1 with ac:=jP p.1.ac k P},p.2++Mx (jP p.1.ac k P) a) D) (λ_ _=>False) (λr D=>r=.fz .none/\HS b ({p.1 with ac:=jP p.1.ac k P},p.2++Mx (jP p.1.ac k P) a) D):=by
  cases q:a.isL with
  |false=>
   rw[q]at l;show dr (gD (a9 l)) (jS #[W,f,J,y,?_]);let:Mx (jP p.1.ac k P) a=[]:=by ext a<;>first|rfl|ext q
   simp_all
  |true=>
   rw[q]at l;let(h,v,o):=GV (p:=({p.1 with ac:=jP p.1.ac k P},p.2)) #[f,J,y,W] t lb;let g:∀m,kH (jP p.1.ac k P) a=m->(kY (bj (ay (aC cC (aC aQ (aa 2) (~~~0)) (pC (.str "letter"))))) (n6 (aX (aI "Hand" "has_act" bB 2 (am 0) (ah (ae (aa 2)) aH))))) [M (.rf 0),-(nd k),-(mD a)] (db b {p.1 with ac:=jP p.1.ac k P} p.2 f J)=.ok (!m) h:=λm e=>by
    let v:bB [.rf 0,.fz (mD a)] (db b {p.1 with ac:=jP p.1.ac k P} p.2 f J)=.ok (.fz (.bool m)) h:=by rw[<-e];show v
    show iE (a9 l) (lV (aM (bC (p:=({p.1 with ac:=jP p.1.ac k P},p.2)) #[f,J,y,W] (by rfl) W (aj (af (ag W)) aG) W v)))
   let(A,E,B,e2):=o;rw[e2]at g;cases q2:kH (jP p.1.ac k P) a with
   |true=>
    show dr (g S q2) (jS #[W,A,E,B,?_]);let:Mx (jP p.1.ac k P) a=[]:=by
     ext a<;>first|ext q|skip
     show(if kH (jP p.1.ac k P) _=S then _ else _)=_;rw[ax q2]
    simp_all
   |false=>
    ext a<;>first|ext q|skip
    rename_i c;let L:aQ (mD (.WN c)) (.int 1)=-(.str (dM c)):=gX;show pW (g R q2) (hV (z8 (d:=R) G W (af (show _=Res.ok (PV.fz (.tuple [.str (dM c),.str "up"]),_) by ext:0))) #[W,A,E,B,?_]);let:Mx (jP p.1.ac k P) (.WN c)=[(c,R)]:=by show(if kH (jP p.1.ac k P) _=S then _ else _)=_;simp_all
    rw[this]
 show gR W (gc n W w)
end
section
variable{b:Bd}(Z:VB b){s:Yl}{sn:Sn}{X:b5 (Nat×Mn)}{J:aJ}{Q:aP}{i:Nat}{T:aJ}{p:Yl×Sn}{k:Nat}{a:Mn}{Y:b5 Nat}{g:Int}{w:b7 (Nat×Int)}
theorem GX:∀(Y:G Nat) (as:G Mn),kO (aR Y) (as.map mD)=(Y.zip as).map pD
 |[],_=>by rfl
 |_::_,[]=>rfl
 |k::r,a::t=>by show Wa.tuple [nd k,mD a]::kO (aR r) (t.map mD)=_;rw[GX r t];rfl
def yd(h:∀c n,w=M (c,n)->c<26):cC (rA w) (.tuple [.str "chord"])=-(.bool w.isNone)/\mG (rA w) (.tuple [.str "chord"])=-(.bool w.isSome):=by
 cases w with
 |none=>
  let l:iH (.tuple [.str "chord"])=S:=by left
  let j:Wa.canLay0 (.tuple [.str "chord"])=S:=by left
  let f:Wa.eqv (.tuple [.str "chord"]) (.tuple [.str "chord"])=S:=by rfl
  constructor
  .show(if(iH (.tuple [.str "chord"])&&Wa.canLay0 (.tuple [.str "chord"]))=S then M (RV.fz (.bool (Wa.eqv (.tuple [.str "chord"]) (.tuple [.str "chord"]))))else P)=_;rw[l,j,f];rfl
  .show(if(iH (.tuple [.str "chord"])&&Wa.canLay0 (.tuple [.str "chord"]))=S then M (RV.fz (.bool (!Wa.eqv (.tuple [.str "chord"]) (.tuple [.str "chord"]))))else P)=_;rw[l,j,f];rfl
 |some m=>
  let(c,n):=m;let lb:LB (.Z6 c n):=h c n W;let e:Wa.eqv (mD (.Z6 c n)) (.tuple [.str "chord"])=R:=by rfl
  constructor
  .show(if(iH (mD (.Z6 c n))&&Wa.canLay0 (.tuple [.str "chord"]))=S then M (RV.fz (.bool (Wa.eqv (mD (.Z6 c n)) (.tuple [.str "chord"]))))else P)=_;rw[D3 lb,show Wa.canLay0 (.tuple [.str "chord"])=S by left,e];rfl
  .show(if(iH (mD (.Z6 c n))&&Wa.canLay0 (.tuple [.str "chord"]))=S then M (RV.fz (.bool (!Wa.eqv (mD (.Z6 c n)) (.tuple [.str "chord"]))))else P)=_;rw[D3 lb,show Wa.canLay0 (.tuple [.str "chord"])=S by left,e];rfl
theorem wJ(Y:G Nat)(w:I (Nat×Int))(as:G Mn):∀(h:G (Nat×Mn)) (p:Yl×Sn) (T:aJ) (n m:I SV),HS b p T->AK p.1.ac->(∀q∈h,q.1<5/\LB q.2)->p.2.length+h.length<1000->
  ∃d c,iK (OW 2 (lL (eK 4) (lL (eK 5) yp))) (bf (aI "Hand" "come" bh 3 (am 0) (ah (ae (aa 4)) (ah (ae (aa 5)) aH)))) (h.map pD) [M (.rf 0),-(.tuple (aR Y)),-(rA w),-(.list (as.map mD)),n,m] T=.ok (.nx d) c/\HS b (gS p h) c
 |[],p,T,n,m,B,_,_,_=>#[_,T,W,B]
 |q::r,p,T,n,m,B,L,C,N=>by
  rw[Wo]at N;let l:=C q Wh;let(f,e1,t):=oZ B L l.2 l.1 ();let u:AK (eF p q.1 q.2).1.ac:=λj x e=>by
   by_cases z:j=q.1
   .let A:M q.2=M x:=by rw[z]at e;show(cW).symm.trans e
    ext A;show#[by rw[z];show l.1,l.2]
   .show L j x ((eD z).symm.trans e)
  let:=lU (p:=p) (k:=q.1) (a:=q.2);let(d,c,e2,o):=wJ Y w as r (eF p q.1 q.2) f (-(nd q.1)) (-(mD q.2)) t u (λx y=>C x (Wj _ y)) ();show#[d,c,?_,o]
  let v:bf (aI "Hand" "come" bh 3 (am 0) (ah (ae (aa 4)) (ah (ae (aa 5)) aH))) [M (.rf 0),-(.tuple (aR Y)),-(rA w),-(.list (as.map mD)),-(nd q.1),-(mD q.2)] T=.ok (.nx [M (.rf 0),-(.tuple (aR Y)),-(rA w),-(.list (as.map mD)),-(nd q.1),-(mD q.2)]) f:=
   fP (bC B (by left) W (aj (af (ag W)) (aj (af (ag W)) aG)) W e1)
  show((bf (aI "Hand" "come" bh 3 (am 0) (ah (ae (aa 4)) (ah (ae (aa 5)) aH))) [M (.rf 0),-(.tuple (aR Y)),-(rA w),-(.list (as.map mD)),-(nd q.1),-(mD q.2)] T).bind _)=_;rw[v,eh];show e2
include Z
def jX(y:HS b p T)(r:SA b p.1)(j:p.1.wt=cL (Y,g,w))(v:WV b p.1.ac Y g w)(L:p.2.length<900):∃d,cz [.rf 0] T=.ok (.fz .none) d/\HS b (bF b p) d:=by
 let(X,J,B,rfl):=y;let e0:aQ (iw p.1.wt) (.int 0)=-(.tuple (aR Y)):=by rw[j];show gG
 let e2:aQ (iw p.1.wt) (.int 2)=-(rA w):=by rw[j];show nM
 let t:=v.len Z;let u:=v.ake;let G:=yd λc n h=>(v.tp c n h).1;let F:bF b p=gS ({p.1 with wt:=P},p.2) (Y.zip (gJ b Y w)):=by ext bF;rw[j]
 rw[F];let o:ay (aC cC (aa 2) (pC (.tuple [.str "chord"]))) (bO [cL (.rf 0),-(.tuple (aR Y)),-(rA w),P,P,P])=.ok (w.isNone,bO [cL (.rf 0),-(.tuple (aR Y)),-(rA w),P,P,P]):=aU (aF (ag W) aw W W G.1) W;let m:kW (Fi (bj (ay (aC cC (aa 2) (pC (.tuple [(.str "chord")]))))) (ic eT 2 (ah (aN "Hand" "bed" (am 0)) (ah (ae (aa 1)) aH))) (ae (cZ {aY {pC (.str "layer"),aC aQ (aa 2) (~~~2)}}))) [cL (.rf 0),-(.tuple (aR Y)),-(rA w),P,P,P] (db b {p.1 with wt:=P} p.2 X J)=.ok (.fz (.list ((gJ b Y w).map mD))) (db b {p.1 with wt:=P} p.2 X (J++[.dead])):=by
  cases w with
  |none=>let I:=NV Z u t v.kn;show(kI (Bq (a9 o) (vn (aj (mP W) (aj (af (ag W)) aG)) W I)) (iZ aO)).trans (by rw[eU];rfl)
  |some H=>let(c,n):=H;let K:aQ (rA (cL (c,n))) (.int 2)=-(.int n):=nM;show(kI (zU (a9 o) (dL (show _=Res.ok (PV.ow [.tuple [.str "layer",.int n]],_) by ext:0))) (iZ aO)).trans (by rw[eU];rfl)
 let f:∃e d,nW (lJ (BQ {aa 1,aa 3})) (OW 2 (lL (eK 4) (lL (eK 5) yp))) (bf (aI "Hand" "come" bh 3 (am 0) (ah (ae (aa 4)) (ah (ae (aa 5)) aH)))) [cL (.rf 0),-(.tuple (aR Y)),-(rA w),-(.list ((gJ b Y w).map mD)),P,P] (db b {p.1 with wt:=P} p.2 X (J++[.dead]))=.ok (.nx e) d/\HS b (gS ({p.1 with wt:=P},p.2) (Y.zip (gJ b Y w))) d:=by
  let M:=Z.n5;let(e,d,E,C):=wJ Y w (gJ b Y w) (Y.zip (gJ b Y w)) ({p.1 with wt:=P},p.2) (db b {p.1 with wt:=P} p.2 X (J++[.dead])) P P #[X,_,B,W] (SA.ak Z #[r.ac,r.oc]) (λq A=>by
   let:=uV Z v q A;show#[by ext,this.2.lb]) (by
   rw[List.length_zip];show p.2.length+_<1000;ext)
  show#[e,d,?_,C];ext nW;rw[qj (zl (ai (ag W) (ai (ag W) aB)) W W W),eh,GX];show E
 let(e,d,f,l):=f;show#[d,lG (ρ1:=e) W ?_,l];show cA (vg (cJ (bp W) (af aw) e0) W) (cA (vg (cJ (bp W) (af aw) e2) W) (cA (j7 P W (af aw)) (cA (vg m W) f)))
omit Z in
theorem Jp{c:b5 Nat×Nat}(h:c.2<26):Wa.canLay0 (Ya c)=V6:=by show(Wa.canLayAll0 (aR c.1)&&(Wa.strOk (dM c.2)&&V6))=V6;rw[gv,rG h];rfl
omit Z in
theorem QL:∀{cs:b5 (b5 Nat×Nat)},(∀c∈cs,c.2<26)->mG (.list (cs.map Ya)) (.list [])=-(.bool (!cs.isEmpty)):=by
 intro cs h;have j:∀cs:b5 (b5 Nat×Nat),(∀c∈cs,c.2<26)->Wa.canLayAll0 (cs.map Ya)=V6:=by
  intro cs
  induction cs with
  |nil=>exact λ_=>rfl
  |cons c r e=>intro h;show(Wa.canLay0 (Ya c)&&Wa.canLayAll0 (r.map Ya))=V6;rw[Jp (h c Wh),e λx l=>h x (Wj _ l)];rfl
 have f:∀cs:b5 (b5 Nat×Nat),Wa.depthAll (cs.map Ya)<=2:=by
  intro cs
  induction cs with
  |nil=>exact W0 _
  |cons c r e=>show max (Wa.depth (Ya c)) (Wa.depthAll (r.map Ya))<=2;refine ajv.mpr ⟨?_,e⟩;show max (Wa.depthAll (aR c.1)+1) (max 0 0)+1<=2;rw[jb];decide
 show(if((Wa.canLayAll0 (cs.map Ya)&&decide (Wa.depthAll (cs.map Ya)+1<=64))&&V6)=V6 then cL (RV.fz (.bool (!Wa.eqvAll (cs.map Ya) [])))else Ld)=_;rw[j cs h,bg (show Wa.depthAll (cs.map Ya)+1<=64 by have:=f cs;ext)];cases cs<;>rfl
theorem Ly(h:c∈dc b Y):c.2<26:=(Z.vc c (Xo.mp h).1).2.2.2
omit Z in
theorem Am(h:Y≠[])(e:Y.length<=5):cT (.tuple (aR Y)) (.tuple [nd k])=-(.tuple (aR (Y++[k]))):=by
 show(if aR Y≠[]/\(aR Y).length+1<=1000000 then cL (RV.fz (.tuple (aR Y++[nd k])))else Ld)=_;rw[ax ⟨by cases Y with
  |nil=>exact b4 rfl h
  |cons x r=>simp[aR],by rw[dQ];ext⟩,JR]
 rfl
def Av{d:cU}{ω1:aJ}(e:∃X J,ω1=db b s sn X J)(l:Q[0]?=M (M (.rf 0)))(f:Y.length<=5)(h:d Q ω1=.ok (.fz (.tuple (aR Y))) ω1):jp mG (ic bu 2 (ah (aN "Hand" "bed" (am 0)) (ah d aH))) (ae (cZ aq)) Q ω1=.ok (.fz (.bool (!(dc b Y).isEmpty))) (ω1++[.lst (((dc b Y).map Ya).map .fz)]++[.lst []]):=by let(X,J,rfl):=e;show cF (vn (ds:=[bD b,.tuple (aR Y)]) (aj (mP l) (aj h aG)) W (A6 Z f)) (dL (ds:=[]) (ρ':=bO Q) (mM aB W (W0 _))) ?_;show uz (gf (gK aO)) (gf (ds:=[]) aO) (QL λc j=>Ly Z j)
def Qg(o:HS b p T)(E:SW b p.1)(L:(k:Int)<b.n)(z:AG p.1.wt k=R):∃d,cS [.rf 0,.fz (nd k)] T=.ok (.fz (.bool (B3 b p.1 k))) d/\HS b p d:=by
 cases q:p.1.wt with
 |none=>
  let r:B3 b p.1 k=R:=by ext B3;rw[q]
  rw[r];let(X,J,l,rfl):=o;let e1:kj (iw p.1.wt) .none=-(.bool S):=by rw[q];rfl
  show#[_,i8 W (my (eX (pN (aM (cF (bp W) (af aw) (bL e1)))) (ir (af aw)))),X,J,l,W]
 |some x=>
  let(Y,g,w):=x;let v:=(E.wt Y g w q).1;let F:=v.len Z;let e1:kj (iw p.1.wt) .none=-(.bool R):=by rw[q];rfl
  let e2:aQ (iw p.1.wt) (.int 2)=-(rA w):=by rw[q];show nM
  let e0:aQ (iw p.1.wt) (.int 0)=-(.tuple (aR Y)):=by rw[q];show gG
  let C:=(yd λc n h=>(v.tp c n h).1).2;cases w with
  |some N=>
   let r:B3 b p.1 k=R:=by ext B3;rw[q]
   rw[r];let(X,J,l,rfl):=o;show#[_,i8 W (my (eX (iG (aM (cF (bp W) (af aw) (bL e1))) (pN (aM (cF (cJ (bp W) (af aw) e2) (af aw) (bL C))))) (ir (af aw)))),X,J,l,W]
  |none=>
   let r:B3 b p.1 k=(decide (iU p.1.ac p.1.oc=0)&& !(dc b (Y++[k])).isEmpty):=by ext B3;rw[q]
   rw[r];let(j,H,m):=mB o;let f:(zx (aX (jp kj (aN "Hand" "waiting" (am 0)) (ae (pC .none)))) (zx (aX (jp mG (iS (aN "Hand" "waiting" (am 0)) (ae (~~~2))) (ae (pC (.tuple [(.str "chord")]))))) (aX (jp mG (ic dI 1 (ah (aI "Hand" "stands" bv 1 (am 0) aH) aH)) (ae (~~~0)))))) [cL (.rf 0),-(nd k)] T=.ok (!decide (iU p.1.ac p.1.oc=0)) j:=by
    let I:aX (jp mG (ic dI 1 (ah (aI "Hand" "stands" bv 1 (am 0) aH) aH)) (ae (~~~0))) [cL (.rf 0),-(nd k)] T=.ok (!decide (iU p.1.ac p.1.oc=0)) j:=
     aM (cF (zd (aj (bC o (by rfl) W aG W H) aG) W (ww p.1)) (af aw) (bL (uL _ _)))
    let(X,J,l,rfl):=o;show iG (aM (cF (bp W) (af aw) (bL e1))) (iG (aM (cF (cJ (bp W) (af aw) e2) (af aw) (bL C))) I)
   by_cases B:iU p.1.ac p.1.oc=0
   .rw[bg B]at f⊢
    let(X,J,l,rfl):=m;let u:k∉Y:=by rw[q]at z;show of_decide_eq_false z
    let t:(Y++[k]).Nodup:=by rw[Y6];show#[v.nd,XM.mpr #[XG,aax],λx A y K e=>u (by simp_all)]
    let G:(Y++[k]).length<=5:=yR t λx A=>by
     let M:=Z.n5;rcases Xd.mp A with h|h
     .let:=v.kn x h;ext
     .rw[WB.mp h];ext
    show#[_,i8 W (cA (gH f gq) (ir (Av Z #[X,J,W] W G (cF (cJ (bp W) (af aw) e0) (af (bU (ai (ag W) aB) W (Wc W))) (bL (Am v.ne F)))))),X,_,l,W]
   .rw[bt B]at f⊢;show#[j,i8 W (my (eX f (ir (af aw)))),m]
end
section
variable{b:Bd}(Z:VB b){s:Yl}{sn:Sn}{ps:b5 (Nat×Mn)}{J:aJ}{ρ:aP}{i:Nat}{ω:aJ}{p:Yl×Sn}{k:Nat}{a:Mn}{ks:b5 Nat}{g:Int}{w:b7 (Nat×Int)}
include Z
def OZ(v:WV b p.1.ac ks g w)(c:k∉ks)(m:(k:Int)<b.n):(ks++[k]).Nodup/\(ks++[k]).length<=5:=by
 let f:(ks++[k]).Nodup:=by rw[Y6];show#[v.nd,XM.mpr #[XG,aax],λx j y l e=>c (by simp_all)]
 show#[f,yR f λx j=>?_];let o:=Z.n5;rcases Xd.mp j with h|h
 .let:=v.kn x h;ext
 .rw[WB.mp h];ext
def uh(o:SW b p.1)(m:(k:Int)<b.n)(z:p.1.ac k=P)(d:AG p.1.wt k=R)(hm:B3 b p.1 k=S):∃ks g,p.1.wt=M (ks,g,P)/\k∉ks/\WV b p.1.ac (ks++[k]) g P/\g<b.wt:=by
 unfold B3 at hm;split at hm
 .rename_i ks g q
  rw[V7]at hm;let(v,t):=o.wt ks g P q;let f:k∉ks:=by rw[q]at d;show of_decide_eq_false d
  let(l,B):=OZ Z v f m;show#[ks,g,q,f,#[by simp,l,λx e=>?_,λx e=>?_,v.g0,λc n h=>(by ext h),λ_ x e=>?_],t]
  .rcases Xd.mp e with h|h
   .show v.kn x h
   .rw[WB.mp h];show m
  .rcases Xd.mp e with h|h
   .show v.kf x h
   .rw[WB.mp h];show z
  .let j:=hm.2
   cases C:dc b (ks++[k])with
   |nil=>rw[C]at j;ext j
   |cons c r=>
    let u:c∈dc b (ks++[k]):=by rw[C];show Wh
    let(A,y):=Xo.mp u;let:=XF.mp y x e;show(Z.vc c A).2.2.1 x (b3 this)
 .ext hm
def Kj(y:HS b p ω)(l:SW b p.1)(h:p.1.wt=M (ks,g,P))(v:WV b p.1.ac (ks++[k]) g P)(j:WV b p.1.ac ks g P)(A:p.2.length<900):∃d,cG [.rf 0,.fz (nd k)] ω=.ok (.fz .none) d/\HS b (qC b p k) d:=by
 let(ps,J,m,rfl):=y;let r:=v.len Z;let e0:aQ (iw p.1.wt) (.int 0)=-(.tuple (aR ks)):=by rw[h];show gG
 let e1:aQ (iw p.1.wt) (.int 1)=-(.int g):=by rw[h];show gX
 let F:qC b p k=if(dc b (ks++[k])).map (·.1.length)=[(ks++[k]).length]then bF b ({p.1 with wt:=M (ks++[k],g,P)},p.2)else({p.1 with wt:=M (ks++[k],g,P)},p.2):=by ext qC;rw[h]
 let u:HS b ({p.1 with wt:=M (ks++[k],g,P)},p.2) (db b {p.1 with wt:=M (ks++[k],g,P)} p.2 ps J):=#[ps,J,m,W];let G:dG (eK 0) nG (ae (gQ dY {aC aQ (aa 0) (~~~0)})) ((dc b (ks++[k])).map Ya) [P] (db b {p.1 with wt:=M (ks++[k],g,P)} p.2 ps (J++[.dead])) []=.ok ((aR ((dc b (ks++[k])).map (·.1.length))).map .fz) (db b {p.1 with wt:=M (ks++[k],g,P)} p.2 ps (J++[.dead])):=by
  show(mw Ya (λc=>.fz (nd c.1.length)) _ (λρ=>∃o,ρ=[o]) (dc b (ks++[k])) _ [] #[P,W] ?_ ?_).trans (by ext aR;rw[W2,W2];rfl)
  .let:=Zg (λc:b5 Nat×Nat=>(ks++[k]).all λk=>decide (k∈c.1)) b.cs;let:=Z.c4;show 0+(dc b (ks++[k])).length<=_;ext dc;ext
  .rintro c _ ρ ⟨o,rfl⟩;let t:aQ (Ya c) (.int 0)=-(.tuple (aR c.1)):=gG;show#[[-(Ya c)],W,W,af (eY (ai (aF (ag W) aw W W t) aB) W ((jD _).trans (by rw[dQ]))),_,W]
 let E:ia (ic bu 2 (ah (aN "Hand" "bed" (am 0)) (ah (ae (aa 2)) aH))) [M (.rf 0),-(nd k),-(.tuple (aR (ks++[k])))] (db b {p.1 with wt:=M (ks++[k],g,P)} p.2 ps J)=.ok ((dc b (ks++[k])).map Ya) (db b {p.1 with wt:=M (ks++[k],g,P)} p.2 ps (J++[.dead])):=
  (yi (vn (aj (mP W) (aj (af (ag W)) aG)) W (A6 Z r)) aO).trans (by rw[eU];rfl)
 let rt:cZ {gQ dY {aa 2}} (bO [M (.rf 0),-(nd k),-(.tuple (aR (ks++[k])))])=.ok (.ow (aR [(ks++[k]).length]),bO [M (.rf 0),-(nd k),-(.tuple (aR (ks++[k])))]):=by show mM (ai (eY (ai (ag W) aB) W ((jD _).trans (by rw[dQ]))) aB) W (Wc W)
 let f:aX (jp cC (mZ 1 [] (ia (ic bu 2 (ah (aN "Hand" "bed" (am 0)) (ah (ae (aa 2)) aH)))) (eK 0) nG (ae (gQ dY {aC aQ (aa 0) (~~~0)}))) (ae (cZ {gQ dY {aa 2}}))) [M (.rf 0),-(nd k),-(.tuple (aR (ks++[k])))] (db b {p.1 with wt:=M (ks++[k],g,P)} p.2 ps J)=.ok (decide ((dc b (ks++[k])).map (·.1.length)=[(ks++[k]).length])) (db b {p.1 with wt:=M (ks++[k],g,P)} p.2 ps (J++[.dead])++[.lst ((aR ((dc b (ks++[k])).map (·.1.length))).map .fz)]++[.lst ((aR [(ks++[k]).length]).map .fz)]):=
  aM (cF (zn E G) (dL rt) (uz (gf (gK aO)) (gf aO) (vf _ _)))
 let e:HS b ({p.1 with wt:=M (ks++[k],g,P)},p.2) (db b {p.1 with wt:=M (ks++[k],g,P)} p.2 ps (J++[.dead])++[.lst ((aR ((dc b (ks++[k])).map (·.1.length))).map .fz)]++[.lst ((aR [(ks++[k]).length]).map .fz)]):=#[ps,_,m,W];generalize (db b {p.1 with wt:=M (ks++[k],g,P)} p.2 ps (J++[.dead])++[.lst ((aR ((dc b (ks++[k])).map (·.1.length))).map .fz)]++[.lst ((aR [(ks++[k]).length]).map .fz)]:aJ)=L at f e;rw[F];show gR W (gc (cF (cJ (bp W) (af aw) e0) (af (bU (ai (ag W) aB) W (Wc W))) (bL (Am j.ne (j.len Z)))) W (A5 (j7 (M (ks++[k],g,P)) W (u6 (aj (af (ag W)) (aj (cJ (bp W) (af aw) e1) (aj (af aw) aG))) (Wc W))) (xk f (λq=>?_) λq=>?_)))
 .rw[ax (b3 q)];let(n,C,B):=jX Z e #[l.sa.ac,l.sa.oc] W v A;show hV (bC e (by rfl) W aG W C) #[W,B]
 .rw[bb (of_decide_eq_false q)];show jS #[W,e]
def HY(f:SW b p.1)(h:p.1.wt=M (ks,g,P))(v:WV b p.1.ac (ks++[k]) g P)(j:g<b.wt):SW b (qC b p k).1:=by
 let l:qC b p k=if(dc b (ks++[k])).map (·.1.length)=[(ks++[k]).length]then bF b ({p.1 with wt:=M (ks++[k],g,P)},p.2)else({p.1 with wt:=M (ks++[k],g,P)},p.2):=by ext qC;rw[h]
 rw[l];split
 .show(dC Z (p:=({p.1 with wt:=M (ks++[k],g,P)},p.2)) #[f.sa.ac,f.sa.oc] λ_ _ _ e=>by ext e;show v).1
 .show#[#[f.sa.ac,f.sa.oc],λ_ _ _ e=>by ext e;show#[v,j]]
omit Z in
theorem zT(s:Yl)(m:Mn):(dJ s m).ac=s.ac/\(dJ s m).wt=s.wt:=by unfold dJ;split<;>exact⟨rfl,rfl⟩
omit Z in
theorem zt{m:Mn}(h:SA b s):SA b (dJ s m):=by
 unfold dJ;split
 .exact h
 .exact⟨h.ac,λo e=>by cases e⟩
def Np(F:HS b p ω)(R:SA b p.1)(hw:p.1.wt=Ld)(U:(k:Int)<b.n)(D:p.2.length<900):∃z,eW [.rf 0,.fz (nd k)] ω=.ok (.fz .none) z/\HS b (zi b p k) z:=by
 let(Q,P):=uQ Z R;let I:=Kk Z Q P U;let(v,S):=uJ Z Q P U;let(ω1,h1,M):=mB F;let h5:=Z.n5;let eb:zi b p k=u0 b (iU p.1.ac p.1.oc) (dJ p.1 (look b (iU p.1.ac p.1.oc) k),p.2) k (look b (iU p.1.ac p.1.oc) k):=W;rw[eb];let T:ic dI 1 (ah (aI "Hand" "stands" bv 1 (am 0) aH) aH) [cL (.rf 0),-(nd k),Ld,Ld,Ld] ω=.ok (.fz (.int (iU p.1.ac p.1.oc))) ω1:=zd (aj (bC F (by rfl) W aG W h1) aG) W (ww p.1);generalize iU p.1.ac p.1.oc=L at I v S T Q P;generalize look b L k=m at I v S;let(ps,J,hp,rfl):=M;let lb:=v.lb;let c0:=nu m;let c1:=RE m;let c2:=Od m;let c3:=j8 m;let c4:=K4 m;let eL:cC (.int L) (.int 0)=-(.bool (decide (L=0))):=oS _ _;let B:(aD (bT (bj (ay (aC mn (aa 4) (aY {pC (.str "layer"),pC (.str "once")})))) (eO "Hand" "once" (am 0) (ae (pC .none))) b6) b6) [cL (.rf 0),-(nd k),-(.int L),-(mD m),-(.str (wd m))] (db b p.1 p.2 ps J)=.ok (.nx [cL (.rf 0),-(nd k),-(.int L),-(mD m),-(.str (wd m))]) (db b (dJ p.1 m) p.2 ps J):=by
  let t:bj (ay (aC mn (aa 4) (aY {pC (.str "layer"),pC (.str "once")}))) [cL (.rf 0),-(nd k),-(.int L),-(mD m),-(.str (wd m))] (db b p.1 p.2 ps J)=.ok (!(m.adI||m.isO)) (db b p.1 p.2 ps J):=a9 (by ext:0);ext dJ;cases q:(m.adI||m.isO)with
  |true=>rw[q]at t;rw[ax W];show cA (gH t gq) gq
  |false=>rw[q]at t;rw[bb Wr];show cA (eX t (AR Ld W (af aw))) gq
 let X:=zT p.1 m;let H:SA b (dJ p.1 m):=zt R;let j:ps.Perm (fH (dJ p.1 m).ac):=by simp_all
 let e:HS b (dJ p.1 m,p.2) (db b (dJ p.1 m) p.2 ps J):=#[ps,J,j,W];generalize dJ p.1 m=s2 at B X H j e;let O:Ze ((bT (bj (ay (aC cC (aa 4) (pC (.str "tap"))))) (eO "Hand" "waiting" (am 0) (ae (aY {aY {aa 1},~~~0,aa 3}))) (bT (kY (bj (ay (aC cC (aa 4) (pC (.str "letter"))))) (kY (bj (ay (aC cC (aa 2) (~~~0)))) (aX (jp mG (ic bu 2 (ah (aN "Hand" "bed" (am 0)) (ah (ae (aY {aa 1})) aH))) (ae (cZ aq)))))) (eO "Hand" "waiting" (am 0) (ae (aY {aY {aa 1},~~~0,pC (.tuple [(.str "chord")])}))) (bT (bj (ay (aC cC (aa 4) (pC (.str "once"))))) (aD (bf (aI "Hand" "come" bh 3 (am 0) (ah (ae (aa 1)) (ah (ae (pC (.tuple [(.str "none")]))) aH))))
 (eO "Hand" "once" (am 0) (ae (aC aQ (aa 3) (~~~1))))) (bf (aI "Hand" "come" bh 3 (am 0) (ah (ae (aa 1)) (ah (ae (aa 3)) aH))))))) [cL (.rf 0),-(nd k),-(.int L),-(mD m),-(.str (wd m))] (db b s2 p.2 ps J)) (λ_ z=>SV.fz .none=.fz .none/\HS b (u0 b L (s2,p.2) k m) z) (λ_ _=>False) (λr z=>r=.fz .none/\HS b (u0 b L (s2,p.2) k m) z):=by
  let A:∀{ω:aJ},bj (ay (aC cC (aa 4) (pC (.str "tap")))) [cL (.rf 0),-(nd k),-(.int L),-(mD m),-(.str (wd m))] ω=.ok m.isT ω:=a9 (by ext:0);let E:∀{ω:aJ},bj (ay (aC cC (aa 4) (pC (.str "letter")))) [cL (.rf 0),-(nd k),-(.int L),-(mD m),-(.str (wd m))] ω=.ok m.isL ω:=a9 (by ext:0);let C:∀{ω:aJ},bj (ay (aC cC (aa 4) (pC (.str "once")))) [cL (.rf 0),-(nd k),-(.int L),-(mD m),-(.str (wd m))] ω=.ok m.isO ω:=a9 (by ext:0);let G:∀{ω:aJ},bj (ay (aC cC (aa 2) (~~~0))) [cL (.rf 0),-(nd k),-(.int L),-(mD m),-(.str (wd m))] ω=.ok (decide (L=0)) ω:=a9 (by ext:0);let kt:∀{ω:aJ},ae (aY {aa 1}) [cL (.rf 0),-(nd k),-(.int L),-(mD m),-(.str (wd m))] ω=.ok (.fz (.tuple (aR [k]))) ω:=af (bU (ai (ag W) aB) W (Wc W));let cm:∀{ω:aJ},HS b (s2,p.2) ω->VA b.ls.length m->∃z,bf (aI "Hand" "come" bh 3 (am 0) (ah (ae (aa 1)) (ah (ae (aa 3)) aH))) [cL (.rf 0),-(nd k),-(.int L),-(mD m),-(.str (wd m))] ω=.ok (.nx [cL (.rf 0),-(nd k),-(.int L),-(mD m),-(.str (wd m))]) z/\HS b (eF (s2,p.2) k m) z:=λ{ω} F va=>by let(z,u,l):=oZ (k:=k) F (H.ak Z) va.lb () (show p.2.length<1000 by ext);show#[z,fP (bC F (by rfl) W (aj (af (ag W)) (aj (af (ag W)) aG)) W u),l]
  cases m with
  |below=>simp_all
  |Z6 c n=>show pW A (lz (j7 (cL ([k],0,cL (c,n))) W (af (ρ':=bO [cL (.rf 0),-(nd k),-(.int L),-(mD (.Z6 c n)),-(.str (wd (.Z6 c n)))]) ?_)) #[W,ps,J,j,W]);rfl
  |WN c=>
   obtain⟨d1,d2⟩:VA b.ls.length (.WN c)/\True:=#[v,trivial];by_cases N:L=0
   .rw[bg N]at G
    let ov:=Av Z (ω1:=db b s2 p.2 ps J) #[ps,J,W] W (Wc W) kt;let K:HS b (s2,p.2) (db b s2 p.2 ps J++[.lst (((dc b [k]).map Ya).map .fz)]++[.lst []]):=#[ps,_,j,W];let y:u0 b L (s2,p.2) k (.WN c)=if(!(dc b [k]).isEmpty)=V6 then({s2 with wt:=cL ([k],0,Ld)},p.2)else eF (s2,p.2) k (.WN c):=by show(if(decide (L=0)&& !(dc b [k]).isEmpty)=V6 then _ else _)=_;rw[bg N,ZU]
    rw[y];show dr A (xk (iE E (iE G (aM ov))) (λq=>?_) λq=>?_)
    .rw[ax q];show lz (j7 (cL ([k],0,Ld)) W (af (ρ':=bO [cL (.rf 0),-(nd k),-(.int L),-(mD (.WN c)),-(.str (wd (.WN c)))]) ?_)) #[W,ps,_,j,W];rfl
    .rw[bb (by rw[q];simp)];let(z,u,l):=cm K v;show dr C (lz u #[W,l])
   .rw[bt N]at G
    let y:u0 b L (s2,p.2) k (.WN c)=eF (s2,p.2) k (.WN c):=by show(if(decide (L=0)&& !(dc b [k]).isEmpty)=V6 then _ else _)=_;simp_all
    rw[y];let(z,u,l):=cm e v;show dr A (dr (iE E (gD G)) (dr C (lz u #[W,l])))
  |Yo n=>let(z,u,l):=cm e v;show dr A (dr (gD E) (dr C (lz u #[W,l])))
  |none=>let(z,u,l):=cm e trivial;show dr A (dr (gD E) (dr C (lz u #[W,l])))
  |once n=>let(z,u,l):=oZ (k:=k) (a:=.none) e (H.ak Z) trivial () (show p.2.length<1000 by ext);let i1:aQ (mD (.once n)) (.int 1)=-(.int n):=gX;let(qs,J2,hq,rfl):=l;show dr A (dr (gD E) (pW C (A5 (fP (bC e (by rfl) W (aj (af (ag W)) (aj (af aw) aG)) W u)) (lz (AR (cL n) W (af (ρ':=bO [cL (.rf 0),-(nd k),-(.int L),-(mD (.once n)),-(.str (wd (.once n)))]) ?_)) #[W,qs,J2,hq,W]))));rfl
 show gR (ρ:=[cL (.rf 0),-(nd k),Ld,Ld,Ld]) W (gc T W (gc (zd (ds:=[bD b,.int L,nd k]) (aj (mP W) (aj (af (ag W)) (aj (af (ag W)) aG))) W I) W (gc (af (d:=.str (wd m)) (ρ':=bO [cL (.rf 0),-(nd k),-(.int L),-(mD m),Ld]) (aF (rv:=.fz (.str (wd m))) (ag W) aw W W c0)) W ?_)));show .eq ?_ O;let Y:∀{f g:di} {ρ:aP} {ω z:aJ},aD f b6 ρ ω=.ok (.nx ρ) z->aD f g ρ ω=g ρ z:=λ{f g ρ ω z} h=>by
  unfold aD at h⊢;cases q:f ρ ω with
  |bad=>rw[q]at h;ext h
  |er x o=>rw[q]at h;ext h
  |ok fl o=>
   rw[q]at h;cases fl with
   |nx r=>ext h;rfl
   |_=>ext h
 show Y B
end
section
variable{b:Bd}(Z:VB b){s:Yl}{sn:Sn}{ps:b5 (Nat×Mn)}{J:aJ}{ρ:aP}{i:Nat}{Y:aJ}{p:Yl×Sn}{k:Nat}{a:Mn}{X:b5 Nat}{g:Int}{w:b7 (Nat×Int)}
include Z
omit Z in
theorem z9(h:SA b s)(f:s.wt=Ld):SW b s:=⟨h,λ_ _ _ e=>by rw[f]at e;cases e⟩
def Qo(y:SA b p.1)(M:p.1.wt=Ld)(F:(k:Int)<b.n)(d:p.1.ac k=Ld):SW b (zi b p k).1:=by
 let(H,G):=uQ Z y;let(f,A):=uJ Z H G F;let O:zi b p k=u0 b (iU p.1.ac p.1.oc) (dJ p.1 (look b (iU p.1.ac p.1.oc) k),p.2) k (look b (iU p.1.ac p.1.oc) k):=W;rw[O];generalize iU p.1.ac p.1.oc=L at f A H G;generalize look b L k=m at f A;let v:=zT p.1 m;let j:SA b (dJ p.1 m):=zt y;let l:=v.2.trans M;let u:(dJ p.1 m).ac k=Ld:=by rw[v.1];show d
 generalize dJ p.1 m=s2 at j l u;let S:=Z.w1;let B:[k].Nodup:=XM.mpr #[XG,aax];let C:∀x∈[k],(x:Int)<b.n:=λx t=>by simp_all
 let E:∀x∈[k],s2.ac x=Ld:=λx t=>by simp_all
 let cm:∀m,VA b.ls.length m->SW b (eF (s2,p.2) k m).1:=λm I=>z9 (j.cm F I) l;cases m with
 |below=>simp_all
 |Z6 c n=>show#[#[j.ac,j.oc],λ_ _ _ e=>?_];ext e;show#[#[by simp,B,C,E,aaB _,λR K e=>by ext e;show#[f.1,f.2,W],λe=>by ext e],by ext]
 |WN c=>
  show SW b (if(decide (L=0)&& !(dc b [k]).isEmpty)=V6 then({s2 with wt:=cL ([k],0,Ld)},p.2)else eF (s2,p.2) k (.WN c)).1;split
  .rename_i q
   show#[#[j.ac,j.oc],λ_ _ _ e=>?_];ext e;show#[#[by simp,B,C,E,aaB _,λR K e=>(by ext e),λ_ x t=>?_],by ext];let T:=(V7 _ _▸q:_/\_).2;cases qo:dc b [k]with
   |nil=>simp_all
   |cons c r=>
    let N:c∈dc b [k]:=by simp_all
    let(Q,P):=Xo.mp N;show(Z.vc c Q).2.2.1 x (b3 (XF.mp P x t))
  .show cm _ f
 |Yo n=>show cm _ f
 |none=>show cm _ trivial
 |once n=>let h:=cm .none trivial;show#[#[h.sa.ac,λo e=>by ext e;show f],λX g w e=>by let e:s2.wt=cL (X,g,w):=e;simp_all]
theorem SW.wd(h:SW b s):WD b s:=λX g w e=>(h.wt X g w e).1
omit Z in
theorem y6(e:b5 (Nat×Mn)):∀{p:Yl×Sn},p.1.ac k=Ld->k∉e.map (·.1)->(gS p e).1.ac k=Ld:=by
 induction e with
 |nil=>exact λh _=>h
 |cons q r f=>intro p h hn;rw[Wv,WE,not_or]at hn;exact f (p:=eF p q.1 q.2) ((eD hn.1).trans h) hn.2
omit Z in
theorem yA(ha:p.1.ac k=Ld)(hn:AG p.1.wt k=V8):(bF b p).1.ac k=Ld:=by
 unfold bF;split
 .exact ha
 .rename_i X g w q;refine y6 _ (p:=({p.1 with wt:=Ld},p.2)) ha λz=>?_;rw[q]at hn;obtain⟨x,e,rfl⟩:=WM.mp z;exact of_decide_eq_false hn (YT e).1
def Eu(e:SW b p.1)(f:(k:Int)<b.n):SW b (gP b p k).1:=by
 ext gP;split
 .show e
 .rename_i q
  rw[Xz,not_or]at q;let l:p.1.ac k=P:=by simp_all
  let j:AG p.1.wt k=R:=by simp_all
  split
  .rename_i h;let(X,g,e1,e2,e3,e4):=uh Z e f l j h;show HY Z e e1 e3 e4
  .let d:=dC Z e.sa (SW.wd Z e);show Qo Z d.1.sa d.2.1 f (yA l j)
def Hh(l:HS b p Y)(j:SW b p.1)(B:(k:Int)<b.n)(O:p.2.length<800):∃c,gr [.rf 0,.fz (nd k)] Y=.ok (.fz .none) c/\HS b (gP b p k) c:=by
 let P:=Z.n5;let A:k<5:=by ext
 let N:zx (aX (r9 R (ae (aa 1)) (aN "Hand" "acts" (am 0)))) (aX (aI "Hand" "is_waiting" bS 2 (am 0) (ah (ae (aa 1)) aH))) [cL (.rf 0),-(nd k)] Y=.ok ((p.1.ac k).isSome||AG p.1.wt k) Y:=by
  let K:=bC (ρ:=[cL (.rf 0),-(nd k)]) (i:=0) (m:= "is_waiting") (fa:=ah (ae (aa 1)) aH) l (by rfl) W (aj (af (ag W)) aG) W (Fj l);let(ps,J,y,rfl):=l
  let t:r9 R (ae (aa 1)) (aN "Hand" "acts" (am 0)) [cL (.rf 0),-(nd k)] (db b p.1 p.2 ps J)=.ok (.fz (.bool (p.1.ac k).isSome)) (db b p.1 p.2 ps J):=
   (xY (af (ag W)) (gn W) W W).trans (by rw[show jc (ps.map ju) (.inl (k:Int))=_ from lC y A];simp_all)
  cases q:(p.1.ac k).isSome with
  |true=>rw[q]at t;rw[YL];show pN (aM t)
  |false=>rw[q]at t;rw[ZT];show iG (aM t) (aM K)
 show gR W (xg N (λq=>?_) λq=>lm ?_)
 .ext gP;rw[ax q];show ui #[W,l]
 rw[ado]at q;let T:p.1.ac k=Ld:=by simp_all
 let M:gP b p k=if B3 b p.1 k=S then qC b p k else zi b (bF b p) k:=by ext gP;simp_all
 rw[M];let(u,I,h):=Qg Z l j B q.2;show xg (aM (bC l (by rfl) W (aj (af (ag W)) aG) W I)) (λo=>?_) λo=>lm ?_
 .rw[ax o];let(X,g,e1,e2,e3,e4):=uh Z j B T q.2 o;let(e,C,f):=Kj Z h j e1 e3 (j.wt _ _ _ e1).1 ();show Pd (i9 (bC h (by rfl) W (aj (af (ag W)) aG) W C) (ui #[W,f]))
 .rw[bb (by rw[o];simp)]
  let d:=dC Z j.sa (SW.wd Z j);let F:∀e,HS b (bF b p) e->Ze (bf (aI "Hand" "begin" eW 2 (am 0) (ah (ae (aa 1)) aH)) [cL (.rf 0),-(nd k)] e) (λ_ c=>SV.fz .none=.fz .none/\HS b (zi b (bF b p) k) c) (λ_ _=>False) (λr c=>r=.fz .none/\HS b (zi b (bF b p) k) c):=λe f=>by let(G,L,v):=Np Z f d.1.sa d.2.1 B ();show hV (bC f (by rfl) W (aj (af (ag W)) aG) W L) #[W,v]
  cases n:p.1.wt with
  |none=>
   let Q:bF b p=p:=by ext bF;rw[n]
   let e1:jB (iw p.1.wt) .none=-(.bool R):=by rw[n];rfl
   let E:=F u (by simp_all);let(ps,J,y,rfl):=h;show pk (aM (cF (bp W) (af aw) (bL e1))) (lm E)
  |some x=>
   let(X,g,w):=x;let e1:jB (iw p.1.wt) .none=-(.bool S):=by rw[n];rfl
   let(e,C,f):=jX Z h j.sa n (j.wt _ _ _ n).1 ();let H:=bC (ρ:=[cL (.rf 0),-(nd k)]) (i:=0) (m:= "decide") h (by rfl) W aG W C;let(ps,J,y,rfl):=h;show ub (aM (cF (bp W) (af aw) (bL e1))) (i9 H (F e f))
def j6(e:SW b p.1)(f:AG p.1.wt k=S):SW b (bq b p k).1/\(bq b p k).2.length<=p.2.length+5:=by
 ext bq;split
 .let d:=dC Z e.sa (SW.wd Z e);simp_all
 .rename_i X g c n q
  let v:=(e.wt _ _ _ q).1;rw[q]at f;let h:=v.kn k (b3 f);let j:=(v.tp c n W).1;show#[z9 (SA.cm #[e.sa.ac,e.sa.oc] h j) W,?_];let:=lU (p:=({p.1 with wt:=P},p.2)) (k:=k) (a:=.WN c)
  grind
 simp_all
def fC(o:HS b p Y)(j:SW b p.1)(l:AG p.1.wt k=S)(H:p.2.length<800):∃d,fL [.rf 0,.fz (nd k)] Y=.ok (.fz .none) d/\HS b (bq b p k) d:=by
 let K:=Z.n5;cases q:p.1.wt with
 |none=>rw[q]at l;ext l
 |some x=>
  let(X,g,w):=x;let v:=(j.wt _ _ _ q).1;let t:k∈X:=by rw[q]at l;show b3 l
  let e2:aQ (iw p.1.wt) (.int 2)=-(rA w):=by rw[q];show nM
  let F:=(yd λc n h=>(v.tp c n h).1).1;let y:∀{Y:aJ},bj (ay (aC cC (aa 2) (pC (.tuple [.str "chord"])))) [M (.rf 0),-(nd k),-(rA w)] Y=.ok w.isNone Y:=a9 (aU (aF (ag W) aw W W F) W);cases w with
  |none=>
   let es:bq b p k=bF b p:=by ext bq;rw[q]
   rw[es];let(r,u,e):=jX Z o j.sa q v ();let B:=bC (ρ:=[M (.rf 0),-(nd k),-(rA P)]) (i:=0) (m:= "decide") o (by left) W aG W u;let(ps,J,A,rfl):=o;show gR W (gc (cJ (bp W) (af aw) e2) W (pW y (hV B #[W,e])))
  |some G=>
   let(c,n):=G;let es:bq b p k=eF ({p.1 with wt:=P},p.2) k (.WN c):=by ext bq;rw[q]
   rw[es];let E:=(v.tp c n W).1;let I:=v.kn k t;let(ps,J,A,rfl):=o;let f:HS b ({p.1 with wt:=P},p.2) (db b {p.1 with wt:=P} p.2 ps J):=#[ps,J,A,W];let(r,u,e):=oZ (k:=k) (a:=.WN c) f (SA.ak Z #[j.sa.ac,j.sa.oc]) E () (show p.2.length<1000 by ext);let C:aQ (rA (M (c,n))) (.int 1)=-(.str (dM c)):=gX;show gR W (gc (cJ (bp W) (af aw) e2) W (dr y (A5 (j7 P W (af aw)) (hV (bC f (by left) W (aj (af (ag W)) (aj (af (bU (ai aw (ai (aF (ag W) aw W W C) aB)) W (Wc W))) aG)) W u) #[W,e]))))
omit Z in
theorem Mw(f:SW b p.1):SW b (go p k).1:=by
 refine⟨f.sa.gg,?_⟩;unfold go;split
 .intro X g w e;obtain⟨v,j⟩:=f.wt X g w e;exact⟨⟨v.ne,v.nd,v.kn,λx h=>by
   by_cases z:x=k
   .rw[z];exact cW
   .exact(eD z).trans (v.kf x h),v.g0,v.tp,v.ch⟩,j⟩
 .exact f.wt
def Il(e:SW b p.1):SW b (lA b p k).1:=by
 ext lA;split
 .rename_i q;show Mw (j6 Z e q).1
 .show Mw e
def Ko(e:HS b p Y)(h:SW b p.1)(F:(k:Int)<b.n)(A:p.2.length<700):∃c,hW [.rf 0,.fz (nd k)] Y=.ok (.fz .none) c/\HS b (lA b p k) c:=by
 let G:=Z.n5;let j:k<5:=by ext
 let f:∀{p:Yl×Sn} {Y:aJ},HS b p Y->SW b p.1->p.2.length<800->Ze (bT (aX (r9 R (ae (aa 1)) (aN "Hand" "acts" (am 0)))) (bf (aI "Hand" "go" iL 2 (am 0) (ah (ae (aa 1)) aH))) b6 [M (.rf 0),-(nd k)] Y) (λ_ c=>SV.fz .none=.fz .none/\HS b (go p k) c) (λ_ _=>False) (λr c=>r=.fz .none/\HS b (go p k) c):=λ{p Y} e h A=>by
  cases n:p.1.ac k with
  |none=>
   let E:go p k=p:=by ext go;rw[n]
   rw[E];let(ps,J,l,rfl):=e;show dr (aM ((xY (af (ag W)) (gn W) W W).trans (by rw[show jc (ps.map ju) (.inl (k:Int))=_ from lC l j,n];rfl))) (jS #[W,ps,J,l,W])
  |some a=>let(u,B,o):=Sw e (h.sa.ak Z) n ();let y:=bC (ρ:=[M (.rf 0),-(nd k)]) (i:=0) (m:= "go") (fa:=ah (ae (aa 1)) aH) e (by rfl) W (aj (af (ag W)) aG) W B;let(ps,J,l,rfl):=e;show pW (aM ((xY (af (ag W)) (gn W) W W).trans (by rw[show jc (ps.map ju) (.inl (k:Int))=_ from lC l j,n];rfl))) (hV y #[W,o])
 show gR W (xg (aM (bC e (by rfl) W (aj (af (ag W)) aG) W (Fj e))) (λq=>?_) λq=>?_)
 .ext lA;rw[ax q];let(v,C,t):=fC Z e h q ();let z:=j6 Z h q;show i9 (bC e (by rfl) W (aj (af (ag W)) aG) W C) (f t z.1 ())
 .ext lA;rw[bb (by rw[q];simp)];show lm (f e h ())
def Lf(f:SW b p.1):SW b (gj b p).1:=by
 ext gj;split
 .show f
 .rename_i X g w q
  let(v,l):=f.wt X g w q;let j:WV b p.1.ac X (g+1) w:=#[v.ne,v.nd,v.kn,v.kf,by let:=v.g0;ext,v.tp,v.ch];split
  .show(dC Z (p:=({p.1 with wt:=M (X,g+1,w)},p.2)) #[f.sa.ac,f.sa.oc] λ_ _ _ e=>by simp_all).1
  .rename_i h;show#[#[f.sa.ac,f.sa.oc],λ_ _ _ e=>by ext e;show#[j,by ext]]
def JN(o:HS b p Y)(f:SW b p.1)(t:p.2.length<800):∃c,eR [.rf 0] Y=.ok (.fz .none) c/\HS b (gj b p) c:=by
 let(ps,J,l,rfl):=o;cases q:p.1.wt with
 |none=>
  let j:gj b p=p:=by ext gj;rw[q]
  rw[j];let e1:kj (iw p.1.wt) .none=-(.bool S):=by rw[q];rfl
  show gR W (ub (aM (cF (bp W) (af aw) (bL e1))) (ui #[W,ps,J,l,W]))
 |some x=>
  let(X,g,w):=x;let v:=(f.wt _ _ _ q).1;let n:WV b p.1.ac X (g+1) w:=#[v.ne,v.nd,v.kn,v.kf,by let:=v.g0;ext,v.tp,v.ch];let j:gj b p=if g+1=b.wt then bF b ({p.1 with wt:=M (X,g+1,w)},p.2)else({p.1 with wt:=M (X,g+1,w)},p.2):=by ext gj;rw[q]
  rw[j];let e1:kj (iw p.1.wt) .none=-(.bool R):=by rw[q];rfl
  let e0:aQ (iw p.1.wt) (.int 0)=-(.tuple (aR X)):=by rw[q];show gG
  let e2:aQ (iw p.1.wt) (.int 2)=-(rA w):=by rw[q];show nM
  let e3:aQ (iw p.1.wt) (.int 1)=-(.int g):=by rw[q];show gX
  let e4:aQ (bD b) (.int 3)=-(.int b.wt):=Pj W;let e:HS b ({p.1 with wt:=M (X,g+1,w)},p.2) (db b {p.1 with wt:=M (X,g+1,w)} p.2 ps J):=#[ps,J,l,W];show gR W (pk (aM (cF (bp W) (af aw) (bL e1))) (lm (gc (cF (cJ (bp W) (af aw) e3) (af aw) (bL (i4 _ _))) W (A5 (j7 (M (X,g+1,w)) W (u6 (aj (cJ (bp W) (af aw) e0) (aj (af (ag W)) (aj (cJ (bp W) (af aw) e2) aG))) (Wc W))) (xk (aM (cF (af (ag W)) (cJ (mP W) (af aw) e4) (bL (oS _ _)))) (λz=>?_) λz=>?_)))))
  .rw[ax (b3 z)];let(m,r,h):=jX Z e #[f.sa.ac,f.sa.oc] W n (show p.2.length<900 by ext);show hV (bC e (by rfl) W aG W r) #[W,h]
  .rw[bb (of_decide_eq_false z)];show jS #[W,e]
def ZG.aeG:ZG->Bool
 |.turn=>S
 |_=>R
def ZG.isDown:ZG->Bool
 |.down _=>S
 |_=>R
def EV(b:Bd):ZG->Prop
 |.down k=>(k:Int)<b.n
 |.up k=>(k:Int)<b.n
 |.turn=>True
def ot(f:SW b s)(h:EV b e):SW b (bc b s e).1:=by
 cases e with
 |down k=>show Eu Z f h
 |up k=>show Il Z f
 |turn=>show Lf Z f
omit Z in
theorem tE:∀l:b5 (Nat×Mn),av qJ (l.map pD)=cL (l.map ju)
 |[]=>rfl
 |q::r=>by rw[Wv];unfold av;rw[tE r];rfl
omit Z in
theorem v5:∀(l acc:b5 (Nat×Mn)),((acc++l).map (·.1)).Nodup->kB (acc.map ju) (l.map ju)=(acc++l).map ju
 |[],acc,_=>by rw[W5];rfl
 |q::r,acc,h=>by
  have hn:∀x∈acc,x.1≠q.1:=λx f e=>by rw[WJ,Y6]at h;exact h.2.2 _ (WM.mpr ⟨x,f,rfl⟩) q.1 Wh e
  have e1:jh (acc.map ju) (ju q).1 (ju q).2=(acc++[q]).map ju:=by
   unfold jh;rw[bb ?_,WJ]
   .rfl
   .intro z;obtain⟨o,n,m⟩:=abm.mp z;obtain⟨x,j,rfl⟩:=WM.mp n;have:=Sum.inl.inj (b3 m);exact hn x j (by ext)
  show kB (jh (acc.map ju) (ju q).1 (ju q).2) (r.map ju)=_;rw[e1,v5 r (acc++[q]) (by rw[Xb];exact h),Xb];rfl
omit Z in
theorem HF:cX [.rf 0,.fz (bD b),.fz (ef s)] [.obj "Hand" []]=.ok (.fz .none) (db b s [] (fH s.ac) []):=by
 have e0:aQ (ef s) (.int 0)=-(.tuple ((fH s.ac).map pD)):=gG;have e1:aQ (ef s) (.int 1)=-(iw s.wt):=gX;have e2:aQ (ef s) (.int 2)=-(nY s.oc):=nM;have v:gU "bed" (.fz (bD b)) []=([("bed",.fz (bD b))]:b5 (Str×SV)):=rfl;have q:gU "acts" (.rf 1) ([("bed",.fz (bD b))]:b5 (Str×SV))=([("bed",.fz (bD b)),("acts",.rf 1)]:b5 (Str×SV)):=by unfold gU;rw[bb (by left)];rfl
 have o:gU "waiting" (.fz (iw s.wt)) ([("bed",.fz (bD b)),("acts",.rf 1)]:b5 (Str×SV))=([("bed",.fz (bD b)),("acts",.rf 1),("waiting",.fz (iw s.wt))]:b5 (Str×SV)):=by unfold gU;rw[bb (by left)];unfold gU;rw[bb (by left)];rfl
 have n:gU "once" (.fz (nY s.oc)) ([("bed",.fz (bD b)),("acts",.rf 1),("waiting",.fz (iw s.wt))]:b5 (Str×SV))=([("bed",.fz (bD b)),("acts",.rf 1),("waiting",.fz (iw s.wt)),("once",.fz (nY s.oc))]:b5 (Str×SV)):=by unfold gU;rw[bb (by left)];unfold gU;rw[bb (by left)];unfold gU;rw[bb (by left)];rfl
 have m:gU "sent" (.rf 2) ([("bed",.fz (bD b)),("acts",.rf 1),("waiting",.fz (iw s.wt)),("once",.fz (nY s.oc))]:b5 (Str×SV))=Ir b s:=by unfold gU;rw[bb (by left)];unfold gU;rw[bb (by left)];unfold gU;rw[bb (by left)];unfold gU;rw[bb (by left)];rfl
 have r:kB [] ((fH s.ac).map ju)=(fH s.ac).map ju:=v5 (fH s.ac) [] (ri s.ac);have j:∀{x:SV} {ρ:aP} {fs:b5 (Str×SV)} {Y:aJ} {l:cU} {f:Str} {c:Cell} {e:aJ},ρ[0]?=cL (cL (.rf 0))->l ρ Y=.ok x (.obj "Hand" fs::e)->fs.length<100->eO "Hand" f (am 0) l ρ Y=.ok (.nx ρ) (.obj "Hand" (gU f x fs)::e):=λh u t=>(mi u (aV h) rfl t).trans rfl
 have ha:su (ae (aC aQ (aa 2) (~~~0))) [cL (.rf 0),-(bD b),-(ef s)] [.obj "Hand" ([("bed",.fz (bD b))]:b5 (Str×SV))]=.ok (.rf 1) [.obj "Hand" ([("bed",.fz (bD b))]:b5 (Str×SV)),.dct ((fH s.ac).map ju)]:=
  (Ll (af (d:=.tuple ((fH s.ac).map pD)) (aF (rv:=.fz (.tuple ((fH s.ac).map pD))) (ag rfl) aw rfl rfl e0)) (tE _)).trans (by rw[r];rfl)
 refine lG (ρ:=[cL (.rf 0),-(bD b),-(ef s)]) (ρ1:=[cL (.rf 0),-(bD b),-(ef s)]) rfl (cA (j rfl (c:=.dead) (af (d:=bD b) (ag rfl)) (Wc rfl)) (cA (j rfl (c:=.dead) ha (Wc rfl)) (cA (j rfl (c:=.dead) (af (d:=iw s.wt) (aF (rv:=.fz (iw s.wt)) (ag rfl) aw rfl rfl e1)) (Wc rfl)) (cA (j rfl (c:=.dead) (af (d:=nY s.oc) (aF (rv:=.fz (nY s.oc)) (ag rfl) aw rfl rfl e2)) (Wc rfl)) ?_))));rw[q,o,n];refine(j (fs:=([("bed",.fz (bD b)),("acts",.rf 1),("waiting",.fz (iw s.wt)),("once",.fz (nY s.oc))]:b5 (Str×SV))) rfl (c:=.dead) (dL (ds:=[]) (mM aB rfl (W0 _))) (Wc rfl)).trans ?_;show RS.ok _ (Cell.obj "Hand" (gU "sent" (.rf 2) ([("bed",.fz (bD b)),("acts",.rf 1),("waiting",.fz (iw s.wt)),("once",.fz (nY s.oc))]:b5 (Str×SV)))::_)=_;rw[m];rfl
omit Z in
theorem JI(e:ZG):∃x:Str,aQ (cH e) (.int 0)=-(.str x)/\cC (.str x) (.str "turn")=-(.bool (e.aeG))/\cC (.str x) (.str "down")=-(.bool (e.isDown)):=by
 have h:Wa.strOk "down"=V6:=by left
 have j:Wa.strOk "up"=V6:=by left
 have f:Wa.strOk "turn"=V6:=by left
 cases e with
 |down k=>exact⟨"down",gG,AX h f (by left),Me h⟩
 |up k=>exact⟨"up",gG,AX j f (by left),AX j h (by left)⟩
 |turn=>exact⟨"turn",gG,Me f,AX f h (by left)⟩
def HN(q:SW b s)(y:EV b e):∃c,kQ [.fz (bD b),.fz (ef s),.fz (cH e)] []=.ok (.tp [.rf 2,.fz (ef (bc b s e).1)]) c/\sh c (.rf 2)=M (.list ((bc b s e).2.map mK)):=by
 let h:HS b (s,[]) (db b s [] (fH s.ac) []):=#[fH s.ac,[],.refl _,W];let(x,u,B,A):=JI e;let o:∀{Y:aJ},bj (ay (aC cC (aC aQ (aa 2) (~~~0)) (pC (.str "turn")))) [-(bD b),-(ef s),-(cH e),M (.rf 0)] Y=.ok (e.aeG) Y:=a9 (aU (aF (aF (ag W) aw W W u) aw W W B) W);let v:∀{Y:aJ},bj (ay (aC cC (aC aQ (aa 2) (~~~0)) (pC (.str "down")))) [-(bD b),-(ef s),-(cH e),M (.rf 0)] Y=.ok (e.isDown) Y:=a9 (aU (aF (aF (ag W) aw W W u) aw W W A) W);let n:∀{Y:aJ},HS b (bc b s e) Y->Ze (fW (kE (ah (aN "Hand" "sent" (am 3)) (ah (aI "Hand" "stands" bv 1 (am 3) aH) aH))) [-(bD b),-(ef s),-(cH e),M (.rf 0)] Y) (λ_ c=>SV.fz .none=.tp [.rf 2,.fz (ef (bc b s e).1)]/\sh c (.rf 2)=M (.list ((bc b s e).2.map mK))) (λ_ _=>False) (λr c=>r=.tp [.rf 2,.fz (ef (bc b s e).1)]/\sh c (.rf 2)=M (.list ((bc b s e).2.map mK))):=λ{Y} L=>by let(j,l,f):=mB L;let m:=bC (ρ:=[-(bD b),-(ef s),-(cH e),M (.rf 0)]) (i:=3) (m:= "stands") L (by rfl) W aG W l;let(ps,J,G,rfl):=L;let(E,H,F,rfl):=f;show Dr (MM (aj (uv W) (aj m aG)) (Wc W) W W) #[W,gf W]
 let C:rQ "Hand" cX 3 (ah (ae (aa 0)) (ah (ae (aa 1)) aH)) [-(bD b),-(ef s),-(cH e),P] []=.ok (.rf 0) (db b s [] (fH s.ac) []):=OP (aj (af (ag W)) (aj (af (ag W)) aG)) W HF;show gR W (gc C W ?_);cases e with
 |turn=>let(j,l,f):=JN Z h q (show 0<800 by decide);show ub o (i9 (bC h (by rfl) W aG W l) (n f))
 |down k=>let(j,l,f):=Hh Z h q y (show 0<800 by decide);let t:aQ (cH (.down k)) (.int 1)=-(nd k):=gX;show pk o (ub v (i9 (bC h (by rfl) W (aj (af (aF (ag W) aw W W t)) aG) W l) (n f)))
 |up k=>let(j,l,f):=Ko Z h q y (show 0<700 by decide);let t:aQ (cH (.up k)) (.int 1)=-(nd k):=gX;show pk o (pk v (i9 (bC h (by rfl) W (aj (af (aF (ag W) aw W W t)) aG) W l) (n f)))
def Tr{e:ZG}(h:SW b s)(l:EV b e):lK kQ 3 [.fz (bD b),.fz (ef s),.fz (cH e)] Y=.ok (.tp [.rf Y.length,.fz (ef (bc b s e).1)]) (Y++[.lst (((bc b s e).2.map mK).map .fz)]):=by
 let(f,n,m):=HN Z h l;ext lK;rw[ax (show([.fz (bD b),.fz (ef s),.fz (cH e)]:G SV).length=3 from rfl),show av ve [.fz (bD b),.fz (ef s),.fz (cH e)]=M [bD b,ef s,cH e]from rfl];dsimp only;rw[show[bD b,ef s,cH e].map SV.fz=[.fz (bD b),.fz (ef s),.fz (cH e)]from rfl,n];show(match C4 f Y.length [.rf 2,.fz (ef (bc b s e).1)]with
  |some (o,cs,q)=>if q.Nodup then RS.ok (SV.tp o) (Y++cs.map TK)else .bad
  |none=>.bad)=_
 let j:C4 f Y.length [.rf 2,.fz (ef (bc b s e).1)]=M ([.rf Y.length,.fz (ef (bc b s e).1)],[(bc b s e).2.map mK],[2]):=by ext C4;rw[m];rfl
 rw[j];dsimp only;rw[ax ()];rfl
end
def br:Yl:=#[λ_=>P,P,P]
theorem gA(b:Bd):SW b br:=#[#[λk a e=>(by ext e),λo e=>(by ext e)],λf g w e=>(by ext e)]
theorem Ae{α:Type}{f:α->D}:∀{l:G α},(∀a∈l,Wa.canLay0 (f a)=S)->Wa.canLayAll0 (l.map f)=S
 |[],_=>rfl
 |a::r,h=>by show(Wa.canLay0 (f a)&&Wa.canLayAll0 (r.map f))=S;rw[h a Wh,Ae λx b=>h x (Wj _ b)];rfl
theorem uq{α:Type}{f:α->D}{n:Nat}:∀{l:G α},(∀a∈l,Wa.depth (f a)<=n)->Wa.depthAll (l.map f)<=n
 |[],_=>W0 _
 |a::r,h=>ajv.mpr #[h a Wh,uq λx b=>h x (Wj _ b)]
def rP{d:D}(b:Wa.canLay0 d=S)(a:Wa.depth d<=64):iH d=S:=by ext iH;simp_all
def mq{d:D}(h:iH d=S):Wa.canLay0 d=S:=by unfold iH at h;simp_all
def zR{d:D}(h:iH d=S):mG d d=-(.bool R):=by ext mG;rw[h,mq h,Xv,ax W,ZY d (mq h)];rfl
def oU{d:D}(h:iH d=S):cC d d=-(.bool S):=by ext cC;rw[h,mq h,Xv,ax W,ZY d (mq h)]
def Zt(sn:Sn):Prop:=∀q∈sn,q.1<26
def FD{b:Bd}{s:Yl}(h:SW b s):iH (ef s)=S:=by
 let l:Wa.canLayAll0 ((fH s.ac).map pD)=S:=Ae λq j=>by show(S&&(Wa.canLay0 (mD q.2)&&S))=S;rw[uD (h.sa.ac _ _ (ez.mp j).2).2.lb];rfl
 let p:∀m:Mn,Wa.depth (mD m)<=1:=λm=>by ext m<;>show Wc W
 let o:Wa.depthAll ((fH s.ac).map pD)<=2:=uq λq _=>by show max 0 (max (Wa.depth (mD q.2)) 0)+1<=2;simp_all
 let i:Wa.canLay0 (iw s.wt)=S/\Wa.depth (iw s.wt)<=2:=by
  cases q:s.wt with
  |none=>show#[W,W0 _]
  |some x=>
   let(a,g,w):=x;let v:=(h.wt a g w q).1;constructor
   .show(Wa.canLayAll0 (aR a)&&(S&&(Wa.canLay0 (rA w)&&S)))=S
    rw[gv];cases w with
    |none=>show Wa.canLay0 (.tuple [.str "chord"])&&S=S;left
    |some e=>let(c,n):=e;let lb:LB (.Z6 c n):=(v.tp c n W).1;show(Wa.canLay0 (mD (.Z6 c n))&&S)=S;rw[uD lb];rfl
   .show max (Wa.depthAll (aR a)+1) (max 0 (max (Wa.depth (rA w)) 0))+1<=2
    rw[jb];cases w with
    |none=>show Wc W
    |some e=>show Wc W
 let f:Wa.canLay0 (nY s.oc)=S/\Wa.depth (nY s.oc)=0:=by cases s.oc<;>show#[W,W]
 show rP ?_ ?_
 .show(Wa.canLayAll0 ((fH s.ac).map pD)&&(Wa.canLay0 (iw s.wt)&&(Wa.canLay0 (nY s.oc)&&S)))=S;simp_all
 .show max (Wa.depthAll ((fH s.ac).map pD)+1) (max (Wa.depth (iw s.wt)) (max (Wa.depth (nY s.oc)) 0))+1<=64;rw[f.2];let:=i.2;ext
section
variable{b:Bd}(Z:VB b){s:Yl}{p:Yl×Sn}{k:Nat}{a:Mn}
theorem Zt.app{x y:Sn}(f:Zt x)(e:Zt y):Zt (x++y):=λq g=>(Xd.mp g).elim (f q) (e q)
def jY(h:Zt p.2)(d:LB a):Zt (eF p k a).2:=by
 show h.app λq e=>?_;cases a with
 |WN c=>
  let e:q∈(if kH p.1.ac (.WN c)=S then[]else[(c,S)]:Sn):=e;split at e
  .ext e
  .rw[WB.mp e];show d
 |_=>ext e
def GU(e:G (Nat×Mn)):∀{p:Yl×Sn},Zt p.2->(∀q∈e,LB q.2)->Zt (gS p e).2:=by
 induction e with
 |nil=>show λh _=>h
 |cons q r g=>show λh f=>g (jY h (f q Wh)) λx i=>f x (Wj _ i)
def MY(h:Zt p.2)(d:SA b p.1):Zt (go p k).2:=by
 ext go;split
 .rename_i a q
  let lb:=(d.ac k a q).2.lb;show h.app λx e=>?_;cases a with
  |WN c=>
   let e:x∈(if kH (jP p.1.ac k P) (.WN c)=S then[]else[(c,R)]:Sn):=e;split at e
   .ext e
   .rw[WB.mp e];show lb
  |_=>ext e
 .show h
include Z
def lu(h:Zt p.2)(i:WD b p.1):Zt (bF b p).2:=by
 ext bF;split
 .show h
 .rename_i e g w q;show GU _ (p:=({p.1 with wt:=P},p.2)) h λx f=>(uV Z (i e g w q) x f).2.lb
def Nf(h:Zt p.2)(f:SA b p.1)(i:(k:Int)<b.n):Zt (zi b p k).2:=by
 let(o,l):=uQ Z f;let(e,g):=uJ Z (k:=k) o l i;let j:zi b p k=u0 b (iU p.1.ac p.1.oc) (dJ p.1 (look b (iU p.1.ac p.1.oc) k),p.2) k (look b (iU p.1.ac p.1.oc) k):=W;rw[j];generalize look b (iU p.1.ac p.1.oc) k=m at e g;generalize iU p.1.ac p.1.oc=L at e;let lb:=e.lb;cases m with
 |Z6 c n=>show h
 |WN c=>
  show Zt (if(decide (L=0)&& !(dc b [k]).isEmpty)=S then({dJ p.1 (.WN c)with wt:=M ([k],0,P)},p.2)else eF (dJ p.1 (.WN c),p.2) k (.WN c)).2;split
  .show h
  .show jY (p:=(dJ p.1 (.WN c),p.2)) h lb
 |Yo n=>show jY (p:=(dJ p.1 (.Yo n),p.2)) h lb
 |once n=>show jY (p:=(dJ p.1 (.once n),p.2)) (k:=k) (a:=.none) h trivial
 |none=>show jY (p:=(dJ p.1 .none,p.2)) h lb
 |below=>simp_all
def AA{e:ZG}(h:SW b s)(j:EV b e):Zt (bc b s e).2:=by
 let f:Zt []:=λq m=>by ext m
 cases e with
 |turn=>
  show Zt (gj b (s,[])).2;ext gj;split
  .show f
  .rename_i i g w q
   let v:=(h.wt i g w q).1;split
   .show lu Z (p:=({s with wt:=M (i,g+1,w)},[])) f λ_ _ _ e=>by ext e;show#[v.ne,v.nd,v.kn,v.kf,by let:=v.g0;ext,v.tp,v.ch]
   .show f
 |up k=>
  show Zt (lA b (s,[]) k).2;ext lA;split
  .rename_i q
   let z:=j6 Z (p:=(s,[])) h q;show MY ?_ z.1.sa;ext bq;split
   .show lu Z (p:=(s,[])) f (SW.wd Z h)
   .rename_i c n e;let o:c<26:=((h.wt _ _ _ e).1.tp c n W).1;show jY (p:=({s with wt:=P},[])) f o
   .show f
  .show MY (p:=(s,[])) f h.sa
 |down k=>
  show Zt (gP b (s,[]) k).2;ext gP;split
  .show f
  .rename_i q
   rw[Xz,not_or]at q;let t:s.ac k=P:=by simp_all
   let r:AG s.wt k=R:=by simp_all
   split
   .rename_i l
    let(i,g,e1,e2,e3,e4):=uh Z (p:=(s,[])) h j t r l;let e1:s.wt=M (i,g,P):=e1;ext qC;dsimp only;rw[e1];dsimp only;split
    .show lu Z (p:=({s with wt:=M (i++[k],g,P)},[])) f λ_ _ _ e=>by ext e;show e3
    .show f
   .let d:=dC Z (p:=(s,[])) h.sa (SW.wd Z h);show Nf Z (lu Z (p:=(s,[])) f (SW.wd Z h)) d.1.sa j
end
def cN(b:Bd):Yl->G ZG->Yl×G Sn
 |s,[]=>(s,[])
 |s,e::r=>((cN b (bc b s e).1 r).1,(bc b s e).2::(cN b (bc b s e).1 r).2)
theorem wV(b:Bd):∀(xs a:G ZG) (s:Yl),cN b s (xs++a)=((cN b (cN b s xs).1 a).1,(cN b s xs).2++(cN b (cN b s xs).1 a).2)
 |[],_,_=>rfl
 |e::r,a,s=>by show((cN b (bc b s e).1 (r++a)).1,_::(cN b (bc b s e).1 (r++a)).2)=_;rw[wV b r a];rfl
theorem ph(b:Bd):∀(xs:G ZG) (s:Yl),(cN b s xs).2.length=xs.length
 |[],_=>rfl
 |e::r,s=>by show(_::(cN b (bc b s e).1 r).2).length=_;rw[Wo,ph b r,Wo]
theorem uP(b:Bd):∀(xs:G ZG) (s:Yl) (i:Nat) (e:ZG),xs[i]?=M e->(cN b s (xs.take (i+1))).1=(bc b (cN b s (xs.take i)).1 e).1/\(cN b s xs).2[i]?=M (bc b (cN b s (xs.take i)).1 e).2
 |[],_,_,_,h=>by ext h
 |x::r,s,0,e,h=>by ext h;show#[W,W]
 |x::r,s,i+1,e,h=>by let:=uP b r (bc b s x).1 i e h;show this
theorem uj{b:Bd}(a:VB b):∀(xs:G ZG) {s:Yl},SW b s->(∀e∈xs,EV b e)->SW b (cN b s xs).1
 |[],_,h,_=>h
 |e::r,s,h,he=>uj a r (ot a h (he e Wh)) λx f=>he x (Wj _ f)
def vx(b:G Sn):G D:=b.map λa=>.list (a.map mK)
def Eg(a:G Sn):(vx a).length=a.length:=by ext vx;simp_all
end STP
namespace K72
open PySem L2 L3 STP
def g9:FS:=(dU (MG (ay (aC PB (aa 1) (gQ dY {aa 0}))) (aC aQ (aa 0) (aa 1)) (~~~0)))
def cw:FN:=gw 2 g9
def hG:FS:=(bH (eA (aC qU (aC ie (aC cT (aC qU (aa 0) (~~~1000033)) (aa 1)) (aC cT (aa 1) (~~~521))) (~~~1000033)) (gN 3))
 (bH (eA (aC qU (aC cT (aC cT (aC ie (aa 3) (aa 3)) (aC yS (aa 0) (~~~1000033))) (aC ie (~~~7) (aa 1))) (~~~999983)) (gN 3))
 (dU (aC qU (aC yS (aa 3) (~~~3)) (aa 2)))))
def aZ:FN:=gw 4 hG
def cM:FS:=(bH (eA (aC iS (pC (.str "abc")) (d8 aZ 3 {aa 0,~~~5,~~~3})) (gN 3))
 (bH (eA (aC cT (~~~1) (d8 aZ 3 {aa 0,~~~7,gQ vQ {~~~1,aC qE (aa 2) (~~~1)}})) (gN 4))
 (bH (eA (d8 aZ 3 {aa 0,~~~3,~~~8}) (gN 5))
 (bH (lh (nQ (ay (aC Ed (aa 1) (~~~0))) (ay (aC Ed (aa 5) (~~~5)))) (dU (aY {pC (.str "below")})) eN)
 (bH (lh (nQ (ay (aC Ed (aa 2) (~~~1))) (ay (aC cC (aa 5) (~~~3)))) (dU (aY {pC (.str "layer"),aa 4})) eN)
 (bH (lh (nQ (ay (aC Ed (aa 2) (~~~1))) (ay (aC cC (aa 5) (~~~4)))) (dU (aY {pC (.str "tap"),aa 3,aa 4})) eN)
 (bH (lh (nQ (ay (aC Ed (aa 2) (~~~1))) (ay (aC cC (aa 5) (~~~5)))) (dU (aY {pC (.str "once"),aa 4})) eN)
 (dU (aY {pC (.str "letter"),aa 3})))))))))
def dD:FN:=gw 6 cM
def fA:FS:=(bH (eA (d8 cw 2 {aa 0,~~~0}) (gN 2))
 (bH (eA (aC cT (~~~1) (d8 aZ 3 {aa 2,~~~1,aa 1})) (gN 3))
 (bH (eA (aC cT (~~~1) (d8 aZ 3 {aa 2,~~~2,~~~2})) (gN 4))
 (bH (eA (cZ aq) (gN 5))
 (bH (rE (pL kF {aa 4}) (gN 6) (bH (eA (dW 1 [0,3,6] (pL kF {aa 3}) (gN 0) d4 (d8 cw 2 {aa 1,aC cT (aC cT (~~~1) (aC ie (aa 2) (aa 3))) (aa 0)})) (gN 7))
 (ny (Cz 5 (gQ mJ {dW 1 [6,4] (im (aa 7)) (gN 0) d4 (d8 dD 3 {aa 0,aa 1,aa 2})})))))
 (bH (eA (gQ mJ {dW 1 [5] (pL kF {aa 3}) (gN 0) (ay (aC cC (aC aQ (aC aQ (aC aQ (aa 1) (~~~0)) (aa 0)) (~~~0)) (pC (.str "letter")))) (aa 0)}) (gN 8))
 (bH (eA (aY aq) (gN 9))
 (bH (lh (nQ (ay (aC Ed (gQ dY {aa 8}) (~~~1))) (ay (aC Ed (d8 aZ 3 {aa 2,~~~17,~~~3}) (~~~0)))) (eA (aY {aY {J5 Tz (aa 8) rb (ko (~~~2)),aC iS (pC (.str "abd")) (d8 aZ 3 {aa 2,~~~19,~~~3})}}) (gN 9)) eN)
 (dU (aY {aa 3,gQ mJ {aa 5},aa 9,aC cT (~~~1) (d8 aZ 3 {aa 2,~~~23,~~~2})}))))))))))
def iV:FN:=gw 10 fA
def eG:FS:=(bH (eA (d8 cw 2 {aa 0,~~~9}) (gN 1))
 (bH (eA (dW 1 [0] (pL kF {d8 aZ 3 {aa 1,~~~131,~~~4}}) (gN 0) d4 (d8 aZ 3 {d8 cw 2 {aa 1,aC cT (~~~10) (aa 0)},~~~127,~~~7})) (gN 2))
 (dU (Pw pU (pC (.str "")) {dW 1 [] (im (aa 2)) (gN 0) d4 (aC iS (pC (.str "aabbcdz")) (aa 0))}))))
def gY:FN:=gw 3 eG
section
open L10
def oY:di:=(aD (bX (ae (pC (.tuple [(.tuple []),.none,.none]))) (eK 2))
 (aD (bX (ae (cZ aq)) (eK 3))
 (aD (nW (lJ (im (aa 1))) (eK 4) (aD (bX (kW (pY kQ 3 (ah (ae (aa 0)) (ah (ae (aa 2)) (ah (ae (aa 4)) aH))))) (eK 5))
 (aD (bf (ki (am 3) (ae (aC aQ (aa 5) (~~~0)))))
 (bX (ae (aC aQ (aa 5) (~~~1))) (eK 2)))))
 (fW (kE (ah (am 3) (ah (ae (aa 2)) aH)))))))
def oJ:fy:=cj 6 oY
end
def pX:FN:=L10.TF oJ
def dS:FS:=(bH (lh (wv (ay (BX "list" (aa 2)))) (dU (pC (.bool R))) eN)
 (bH (rE (im (aa 2)) (gN 3) (lh (nQ (ay (aC mG (aa 3) (aY {pC (.str "turn"),~~~0}))) (Ph (ay (aC mn (aC aQ (aa 3) (~~~0)) (aY {pC (.str "down"),pC (.str "up")}))) (wv (ay (kS Q8 PB (~~~0) (aC aQ (aa 3) (~~~1)) (aC aQ (aa 0) (~~~0))))))) (dU (pC (.bool R))) eN))
 (bH (eA (d8 pX 2 {aa 0,aa 2}) (gT 2 (xu (gN 4) (xu (gN 5) IK))))
 (bH (eA (cZ aq) (gN 6))
 (bH (rE (im (aa 4)) (gN 7) (ny (L10.FW 6 (dW 2 [] (im (aa 7)) (gT 2 (xu (gN 0) (xu (gN 1) IK))) (ay (aC cC (aa 1) (pC (.str "down")))) (aa 0)))))
 (dU (yh (aC cC (Pw pU (pC (.str "")) {aa 6}) (aa 1)) (aC cC (aa 5) (aY {aY aq,pC .none,pC .none})))))))))
def cQ:FN:=gw 8 dS
def fY:FS:=(bH (eA (dW 1 [] (pL kF {aC aQ (aa 0) (~~~0)}) (gN 0) d4 (aY {pC (.str "down"),aa 0})) (gN 1))
 (bH (eA (dW 1 [] (pL kF {aC aQ (aa 0) (~~~0)}) (gN 0) d4 (aY {pC (.str "up"),aa 0})) (gN 2))
 (dU (aC cT (aC cT (aa 1) (aa 2)) (cZ {aY {pC (.str "turn"),~~~0}})))))
def fR:FN:=gw 3 fY
def dZ:FS:=(bH (eA (Pw pU (pC (.str "")) {dW 2 [] (im (aa 2)) (gT 2 (xu (gN 0) (xu (gN 1) IK))) (ay (aC cC (aa 1) (pC (.str "down")))) (aa 0)}) (gN 3))
 (bH (eA (aC cT (aa 1) (gQ vP {aa 3})) (gN 4))
 (bH (lh (ay (aC mG (J5 rN (aa 0) (ko (aa 1)) (ko (aa 4))) (aa 3))) (dU (pC .none)) eN)
 (dU (aa 4)))))
def fQ:FN:=gw 5 dZ
end K72
namespace K72
open PySem L2 L3 L10 STP
def bN:di:=(aD (bT (aX (qu S (ae (aa 1)) (aN "Places" "numbers" (am 0)))) (aD (bT (aX (jp TD (Db dY (ah (aN "Places" "found" (am 0)) aH)) (aN "Places" "most" (am 0)))) (lQ "TooMany" "most" (aN "Places" "most" (am 0))) b6)
 (aD (pB (aN "Places" "numbers" (am 0)) (ae (aa 1)) (Db dY (ah (aN "Places" "found" (am 0)) aH)))
 (bf (ki (aN "Places" "found" (am 0)) (ae (aY {aa 1,aa 2,aa 3})))))) b6)
 (fW (jH (aN "Places" "numbers" (am 0)) (ae (aa 1)))))
def bM:fy:=cj 4 bN
def bA:di:=(aD (eO "Places" "most" (am 0) (ae (aa 2)))
 (aD (eO "Places" "found" (am 0) (ae (cZ aq)))
 (aD (eO "Places" "numbers" (am 0) uE)
 (bf (nz "Places" "enter" bM 4 (am 0) (ah (ae (aa 1)) (ah (ae (pC .none)) (ah (ae (pC .none)) aH))))))))
def ci:fy:=cj 3 bA
def cV:di:=(aD (bX (ae (cZ aq)) (eK 2))
 (aD (bX (iS (aN "Places" "found" (am 0)) (ae (aa 1))) (eK 3))
 (aD (qY (bj (ay (aC jB (aC aQ (aa 3) (~~~1)) (pC .none)))) (aD (bf (ki (am 2) (ae (aC aQ (aa 3) (~~~2)))))
 (bX (iS (aN "Places" "found" (am 0)) (ae (aC aQ (aa 3) (~~~1)))) (eK 3))))
 (fW (v7 (am 2))))))
def b8:fy:=cj 4 cV
def g7:di:=(aD (bX (kW (ae (d8 fR 1 {aa 0}))) (eK 3))
 (aD (bX (BV "Places" ci 3 (ah (ae (aY {pC (.tuple [(.tuple []),.none,.none]),~~~0})) (ah (ae (aa 2)) aH))) (eK 4))
 (aD (bX (ae (~~~0)) (eK 5))
 (aD (qY (aX (jp PB (ae (aa 5)) (Db dY (ah (aN "Places" "found" (am 4)) aH)))) (aD (bX (iS (iS (aN "Places" "found" (am 4)) (ae (aa 5))) (ae (~~~0))) (eK 6))
 (aD (nW (lJ (im (aa 3))) (eK 7) (aD (bX (kW (pY STP.kQ 3 (ah (ae (aa 0)) (ah (ae (aC aQ (aa 6) (~~~0))) (ah (ae (aa 7)) aH))))) (eK 8))
 (aD (bX (ae (d8 fQ 3 {aa 1,aC aQ (aa 6) (~~~1),aC aQ (aa 8) (~~~0)})) (eK 9))
 (bT (bj (ay (aC jB (aa 9) (pC .none)))) (bf (nz "Places" "enter" bM 4 (am 4) (ah (ae (aY {aC aQ (aa 8) (~~~1),aa 9})) (ah (ae (aa 5)) (ah (ae (aa 7)) aH))))) b6))))
 (C3 5 P7 (ae (~~~1))))))
 (fW (am 4))))))
def dj:fy:=cj 10 g7
def dH:di:=(aD (bX (ae (cZ aq)) (eK 3))
 (aD (bX (ae (cZ aq)) (eK 4))
 (aD (nW (ia (aN "Places" "found" (nF dj 3 [] (ah (ae (aa 0)) (ah (ae (aa 1)) (ah (ae (aa 2)) aH)))))) (OW 3 (lL (eK 5) (lL (eK 6) (lL (eK 7) yp)))) (aD (bX (Fi (bj (ay (aC kj (aa 6) (pC .none)))) (ae (~~~0)) (jp cT (iS (am 3) (ae (aa 6))) (ae (~~~1)))) (eK 8))
 (aD (bf (ki (am 3) (ae (aa 8))))
 (bf (ki (am 4) (ae (aY {aC aQ (aa 5) (~~~0),aC aQ (aa 5) (~~~1),aa 8})))))))
 (fW (am 4)))))
def fq:fy:=cj 9 dH
def lX:di:=(aD (bX (nF dj 3 [] (ah (ae (aa 0)) (ah (ae (aa 1)) (ah (ae (aa 2)) aH)))) (eK 3))
 (aD (bX (ae (aY {pC (.tuple [(.tuple []),.none,.none]),gQ vP {aa 1}})) (eK 4))
 (aD (bT (aX (qu S (ae (aa 4)) (aN "Places" "numbers" (am 3)))) (fW (ae (pC .none))) b6)
 (fW (aI "Places" "way_to" b8 2 (am 3) (ah (jH (aN "Places" "numbers" (am 3)) (ae (aa 4))) aH))))))
def cR:fy:=cj 5 lX
def bx:fy
 |[.fz b,.fz t,.fz (.int m)],a=>(match cR [.fz b,.fz t,.fz (.int m)] []with
  |.er x _=>if x.cls=("TooMany":Str)then(match x.fs with
   |[(f,.int k)]=>if f=("most":Str)/\k=m then .ok (.fz (.bool S)) a else .bad
   |_=>.bad)else .bad
  |_=>.bad)
 |_,_=>.bad
def wA:di:=(aD (bX (ae (d8 iV 2 {aa 0,~~~2})) (eK 1))
 (aD (bX (ae (d8 gY 1 {aa 0})) (eK 2))
 (aD (bX (kW (kX fq 3 [(.int 400)] (ah (ae (aa 1)) (ah (ae (aa 2)) aH)))) (eK 3))
 (aD (bX (kX cR 3 [] (ah (ae (aa 1)) (ah (ae (aa 2)) (ah (ae (gQ dY {aa 3})) aH)))) (eK 4))
 (aD (bT (n6 (aX (xo bx 3 (ah (ae (aa 1)) (ah (ae (aa 2)) (ah (ae (aC qE (gQ dY {aa 3}) (~~~1))) aH)))))) (fW (ae (pC (.bool R)))) b6)
 (aD (bX (kW (ae (dW 1 [2] (im (aa 3)) (gN 0) (ay (aC cC (J5 OV (aa 0) rb (ko (~~~2))) (aY {aY {aY aq,pC .none,pC .none},gQ vP {aa 1}}))) (aC aQ (aa 0) (~~~2))))) (eK 5))
 (aD (bT (bj (ay (aC cC (aa 5) (cZ aq)))) (fW (jp kj (am 4) (ae (pC .none)))) b6)
 (aD (bT (zx (aX (jp kj (am 4) (ae (pC .none)))) (zx (n6 (aX (BG cQ 3 (ah (ae (aa 1)) (ah (ae (aa 2)) (ah (am 4) aH)))))) (aX (jp mG (Db dY (ah (am 4) aH)) (ae (aC aQ (aa 5) (~~~0))))))) (fW (ae (pC (.bool R)))) b6)
 (aD (bf (ki (am 4) (ae (pC .none))))
 (aD (bX (kW (kX cR 3 [(.int 400)] (ah (ae (aa 1)) (ah (ae (aa 2)) aH)))) (eK 6))
 (fW (ae (yh (d8 cQ 3 {aa 1,aa 2,aa 6}) (aC cC (gQ dY {aa 6}) (aC aQ (aa 5) (~~~0))))))))))))))))
def F_law:fy:=cj 7 wA
section
variable{T L:aP}{N X Z Q:aJ}{x y z:SV}{i:Nat}{d:D}{Y:b5 (D×D)}
def DD(h:N[i]?=M (.dd Y)):rU N (.rf i)=M (i,Y):=by ext rU;dsimp only;rw[h]
def A7(a:o T N=.ok x X)(hd:fd T X=.ok (.rf i) Z)(e:nJ x=M k)(b:Z[i]?=M (.dd Y)):qu neg o fd T N=.ok (.fz (.bool ((gZ Y k).isSome !=neg))) Z:=by ext qu;rw[a,eh,hd,eh,e];show((RS.Xf Z (rU Z (.rf i))).bind _)=_;rw[DD b];rfl
def xa(hd:fd T N=.ok (.rf i) X)(a:o T X=.ok x Z)(f:nJ x=M k)(e:Z[i]?=M (.dd Y))(b:gZ Y k=M d):jH fd o T N=.ok (.fz d) Z:=by ext jH;rw[hd,eh,a,eh,f];show((RS.Xf Z (rU Z (.rf i))).bind _)=_;rw[DD e];show((RS.Xf Z (gZ Y k)).bind _)=_;rw[b];rfl
def EG(a:o T N=.ok (.fz d) X)(hd:fd T X=.ok (.rf i) Z)(e:C T Z=.ok x Q)(g:nJ x=M k)(f:Q[i]?=M (.dd Y))(b:Y.length<1000000):pB fd C o T N=.ok (.nx T) (Q.set i (.dd (qK Y k d))):=by ext pB;rw[a,eh,hd,eh,e,eh,g];show((RS.Xf Q (rU Q (.rf i))).bind _)=_;rw[DD f];show(if Y.length<1000000 then _ else _)=_;rw[ax b]
def J9(c:o T N=.ok xs X)(b:xs.length=n)(a:F xs X=.ok x Z):xo F n o T N=.ok x Z:=by ext xo;rw[c,eh,ax b,a,xb]
end
def xj{l r:aJ}:(l++r)[l.length+t]?=r[t]? :=by rw[WO (),YZ]
def Jo{l r:aJ}:(l++r).set (l.length+t) c=l++r.set t c:=by rw[List.set_append_right _ _ (),YZ]
structure Pl where
 p:D
 b:D
 e:D
def vv(q:Pl):D:=.tuple [q.p,q.b,q.e]
def gW:G Pl->D->I Nat
 |[],_=>P
 |q::r,p=>if Wa.eqv q.p p=S then M 0 else(gW r p).map (·+1)
def iq:Nat->G Pl->G (D×D)
 |_,[]=>[]
 |k,q::r=>(q.p,nd k)::iq (k+1) r
theorem iy:∀(k:Nat) (fs:G Pl) (p:D),gZ (iq k fs) p=(gW fs p).map λi=>nd (k+i)
 |_,[],_=>rfl
 |k,q::r,p=>by
  let a:=iy (k+1) r p;unfold gZ at a⊢;unfold iq gW;rw[W9];cases Wa.eqv q.p p with
  |true=>rfl
  |false=>dsimp only;rw[a,bb Wr,Option.map_map];congr 1;funext i;show nd (k+1+i)=nd (k+(i+1));rw[aaT,acQ 1 i]
theorem wz:∀(k:Nat) (fs:G Pl) (q:Pl),iq k (fs++[q])=iq k fs++[(q.p,nd (k+fs.length))]
 |k,[],q=>rfl
 |k,a::r,q=>by show(a.p,nd k)::iq (k+1) (r++[q])=(a.p,nd k)::(iq (k+1) r++[(q.p,nd (k+(r.length+1)))]);rw[wz (k+1) r q,aaT,acQ 1 r.length]
theorem Ar:∀(k:Nat) (fs:G Pl),(iq k fs).length=fs.length
 |_,[]=>rfl
 |k,q::r=>d7 (·+1) (Ar (k+1) r)
def Ki(h:gW fs p=P):qK (iq 0 fs) p (nd fs.length)=iq 0 (fs++[#[p,b,e]]):=by
 let g:=iy 0 fs p;rw[h]at g;unfold gZ at g;let f:((iq 0 fs).find? λa=>Wa.eqv a.1 p)=P:=by
  cases q:(iq 0 fs).find? λa=>Wa.eqv a.1 p with
  |none=>rfl
  |some x=>rw[q]at g;ext g
 ext qK;rw[f,wz,Yj];rfl
def DC(h:gW fs q.p=P)(f:Wa.eqv q.p q.p=S):gW (fs++[q]) q.p=M fs.length:=by
 induction fs with
 |nil=>show(if Wa.eqv q.p q.p=S then M 0 else _)=_;rw[ax f];rfl
 |cons a r b=>
  unfold gW at h;show(if Wa.eqv a.p q.p=S then M 0 else(gW (r++[q]) q.p).map (·+1))=_;by_cases e:Wa.eqv a.p q.p=S
  .rw[ax e]at h;ext h
  .rw[bb e]at h⊢;rw[b (by cases k:gW r q.p with|none=>rfl|some _=>rw[k]at h;ext h)];rfl
def oy(h:LD.keyD p=S):Wa.eqv p p=S:=by
 show ZY p (LD.kd_lay p ?_);cases p with
 |tuple xs=>unfold LD.keyD at h;rw[V7]at h;ext LD.kd;show h.1
 |_=>simp[LD.keyD]at h
def pF(m:Int)(j k:Nat):G (Str×SV):=[("most",.fz (.int m)),("found",.rf j),("numbers",.rf k)]
structure PSt(i j k:Nat)(m:Int)(fs:G Pl)(ω:aJ):Prop where
 o:ω[i]?=M (.obj "Places" (pF m j k))
 f:ω[j]?=M (.lst ((fs.map vv).map .fz))
 n:ω[k]?=M (.dd (iq 0 fs))
 jk:j≠k
 ij:i≠j
 ik:i≠k
 lt:fs.length<100000
def rZ(j k:Nat)(fs:G Pl)(a:aJ):aJ:=(a.set k (.dd (iq 0 fs))).set j (.lst ((fs.map vv).map .fz))
section
variable{i j k:Nat}{m:Int}{fs:b5 Pl}{Y:aJ}{p b e:D}
def PSt.ent(h:PSt i j k m fs Y)(l:fs.length+1<100000):PSt i j k m (fs++[q]) (rZ j k (fs++[q]) Y):=by
 let g:=(Wb.mp h.f).1;let a:=(Wb.mp h.n).1;show#[?_,?_,?_,h.jk,h.ij,h.ik,by rw[Wi];show l]
 .ext rZ;rw[W3 (dN h.ij),W3 (dN h.ik)];show h.o
 .ext rZ;rw[Xm (by rw[Xp];show g)]
 .ext rZ;rw[W3 h.jk,Xm a]
def Ex:(pF m j k).lookup ("most":Str)=-(.int m):=by rfl
def jW:(pF m j k).lookup ("found":Str)=M (.rf j):=by rfl
def nc:(pF m j k).lookup ("numbers":Str)=M (.rf k):=by rfl
def sX:(pF m j k).lookup ("enter":Str)=P:=by rfl
theorem vY(a:LD.keyD p=S):nJ (.fz p)=M p:=ax a
def sH(h:PSt i j k m fs Y)(hm:L9.Rs (.int m)=S)(M:m<=1000)(E:LD.keyD p=S):bM [.rf i,.fz p,.fz b,.fz e] Y=(match gW fs p with
  |some t=>.ok (.fz (nd t)) Y
  |none=>if m<=(fs.length:Int)then .er #["TooMany",[("most",.int m)]] Y else .ok (.fz (nd fs.length)) (rZ j k (fs++[#[p,b,e]]) Y)):=by
 let w:=vY E;let A:∀{a:aJ},a[i]?=cL (.obj "Places" (pF m j k))->aN "Places" "numbers" (am 0) [cL (.rf i),-(p),-(b),-(e)] a=.ok (.rf k) a:=λz=>fZ (aV W) z nc;let F:∀{a:aJ},a[i]?=cL (.obj "Places" (pF m j k))->aN "Places" "found" (am 0) [cL (.rf i),-(p),-(b),-(e)] a=.ok (.rf j) a:=λz=>fZ (aV W) z jW;let B:∀{a:aJ},a[i]?=cL (.obj "Places" (pF m j k))->aN "Places" "most" (am 0) [cL (.rf i),-(p),-(b),-(e)] a=.ok (.fz (.int m)) a:=λz=>fZ (aV W) z Ex;let u:∀{a:aJ},ae (aa 1) [cL (.rf i),-(p),-(b),-(e)] a=.ok (.fz p) a:=af (ag W);let g:=A7 (neg:=S) u (A h.o) w h.n;rw[iy]at g;let get:∀{l:b5 Pl} {a:aJ} {t:Nat},a[i]?=cL (.obj "Places" (pF m j k))->a[k]?=cL (.dd (iq 0 l))->gW l p=cL t->fW (jH (aN "Places" "numbers" (am 0)) (ae (aa 1))) [cL (.rf i),-(p),-(b),-(e)] a=.ok (.rt (.fz (nd t))) a:=λK J I=>by show ir (xa (A K) u w J ?_);rw[iy,I];show cL (nd (0+_))=_;rw[Yj]
 let v:=Bf (aj (F h.o) aG) (by ext av;rw[gf h.f];rfl) ((fS _).trans (by rw[V9]));cases q:gW fs p with
 |some t=>rw[q]at g;show i8 W ?_;show cA (gH (aM g) gq) (get h.o h.n q)
 |none=>
  rw[q]at g;dsimp only;by_cases r:m<=(fs.length:Int)
  .rw[ax r]
   let y:=aM (cF v (B h.o) (bL ((Bh _ _).trans (by rw[bg r]))));show cj 4 bN _ _=_;ext cj;show((bN [cL (.rf i),-(p),-(b),-(e)] Y).bind _)=_;let e1:bN [cL (.rf i),-(p),-(b),-(e)] Y=.er #["TooMany",[("most",.int m)]] Y:=by ext bN;ext aD;rw[eX (aM g) W,eX y W,Ci (B h.o) hm];rfl
   rw[e1];rfl
  .rw[bb r]
   let y:=aM (cF v (B h.o) (bL ((Bh _ _).trans (by rw[bt r]))));let C:=EG v (A h.o) u w h.n (by rw[Ar];let:=h.lt;ext);rw[Ki q]at C;let L:(Y.set k (.dd (iq 0 (fs++[#[p,b,e]]))))[i]?=cL (.obj "Places" (pF m j k)):=(W3 (dN h.ik)).trans h.o;let G:(Y.set k (.dd (iq 0 (fs++[#[p,b,e]]))))[j]?=cL (.lst ((fs.map vv).map .fz)):=(W3 (dN h.jk)).trans h.f;let H:=kG (fe:=ae (aY {aa 1,aa 2,aa 3})) (x:=.fz (vv #[p,b,e])) (F L) G (af (bU (ai (ag W) (ai (ag W) (ai (ag W) aB))) W (Wc W))) G (by rw[V9,V9];let:=h.lt;ext);let es:(Y.set k (.dd (iq 0 (fs++[#[p,b,e]])))).set j (.lst ((fs.map vv).map SV.fz++[.fz (vv #[p,b,e])]))=rZ j k (fs++[#[p,b,e]]) Y:=by ext rZ;rw[WJ,WJ];rfl
   rw[es]at H;let P:=h.ent (q:=#[p,b,e]) ();show i8 W ?_;show cA (eX (aM g) (cA (gH y gq) (cA C (fP H)))) (get P.o P.n (DC q (oy E)))
end
def iu(a:aJ)(m:Int)(fs:G Pl)(J:aJ):aJ:=a++(Cell.obj "Places" (pF m (a.length+1) (a.length+2)):: .lst ((fs.map vv).map .fz):: .dd (iq 0 fs)::J)
theorem tJ(h:fs.length<100000):PSt o.length (o.length+1) (o.length+2) m fs (iu o m fs a):=
 #[by let:=xj (l:=o) (r:=Cell.obj "Places" (pF m (o.length+1) (o.length+2)):: .lst ((fs.map vv).map .fz):: .dd (iq 0 fs)::a) (t:=0);show this,xj,xj,by ext,by ext,by ext,h]
def Ag:rZ (o.length+1) (o.length+2) C (iu o m fs a)=iu o m C a:=by unfold rZ iu;rw[Jo,Jo];rfl
def TM(m:Int):Xc:=#["TooMany",[("most",.int m)]]
def wc(a:0<=m)(h:m<=1000):L9.Rs (.int m)=S:=by show bg (ad6 (Nat.log2_le_self m.natAbs) ?_);ext
def Es(l:LD.keyD p=S)(j:0<=m)(f:m<=1000):ci [.rf o.length,.fz p,.fz (.int m)] (o++[.obj "Places" []])=if m<=0 then .er (TM m) (iu o m [] [])else .ok (.fz .none) (iu o m [#[p,.none,.none]] []):=by
 let i:eO "Places" "most" (am 0) (ae (aa 2)) [M (.rf o.length),-(p),-(.int m)] (o++[.obj "Places" []])=.ok (.nx [M (.rf o.length),-(p),-(.int m)]) (o++[.obj "Places" [("most",.fz (.int m))]]):=
  (mi (af (ag W)) (aV W) aO ()).trans (by rw[eU];rfl)
 let h:eO "Places" "found" (am 0) (ae (cZ aq)) [M (.rf o.length),-(p),-(.int m)] (o++[.obj "Places" [("most",.fz (.int m))]])=.ok (.nx [M (.rf o.length),-(p),-(.int m)]) (o++[.obj "Places" [("most",.fz (.int m)),("found",.rf (o.length+1))],.lst []]):=by show(mi (dL (by ext:0)) (aV W) (by rw[Xb];show xj (t:=0)) (Wc W)).trans ?_;rw[Xb,show o.length=o.length+0 from rfl,Jo,Wi];rfl
 let g:eO "Places" "numbers" (am 0) uE [M (.rf o.length),-(p),-(.int m)] (o++[.obj "Places" [("most",.fz (.int m)),("found",.rf (o.length+1))],.lst []])=.ok (.nx [M (.rf o.length),-(p),-(.int m)]) (iu o m [] []):=by show(mi W (aV W) (by rw[Xb];show xj (t:=0)) (Wc W)).trans ?_;rw[Xb,show o.length=o.length+0 from rfl,Jo,Wi];rfl
 let P:PSt o.length (o.length+1) (o.length+2) m [] (iu o m [] []):=tJ ();let n:=sH (b:=.none) (e:=.none) P (wc j f) f l;let a:=AL (F:=bM) (fo:=am 0) (fa:=ah (ae (aa 1)) (ah (ae (pC .none)) (ah (ae (pC .none)) aH))) (ρ:=[M (.rf o.length),-(p),-(.int m)]) (aV W) P.o sX (aj (af (ag W)) (aj (af aw) (aj (af aw) aG))) W;rw[n]at a;let a:nz "Places" "enter" bM 4 (am 0) (ah (ae (aa 1)) (ah (ae (pC .none)) (ah (ae (pC .none)) aH))) [M (.rf o.length),-(p),-(.int m)] (iu o m [] [])=if m<=0 then .er (TM m) (iu o m [] [])else .ok (.fz (nd 0)) (rZ (o.length+1) (o.length+2) [#[p,.none,.none]] (iu o m [] [])):=a
 rw[Ag]at a;show cj 3 bA _ _=_;ext cj;show((bA [M (.rf o.length),-(p),-(.int m)] (o++[.obj "Places" []])).bind _)=_;ext bA;rw[cA i W,cA h W,cA g W];ext bf;rw[a];split<;>rfl
theorem uy:∀{l:G α},(∀a∈l,LD.kd (f a)=S)->LD.kds (l.map f)=S
 |[],_=>by rw[Zv,LD.kds]
 |a::r,h=>by rw[Wv,LD.kds,h a Wh,uy λx b=>h x (Wj _ b)];rfl
theorem IQ:∀b:G Nat,LD.kds (aR b)=S:=λb=>uy λa _=>by show LD.kd (.int a)=S;rw[LD.kd]
def LL(h:LB m):LD.kd (mD m)=S:=by
 cases m with
 |WN c=>show LD.kd (.tuple [.str "letter",.str (dM c)])=S;simp only[LD.kd,LD.kds];rw[rG h,show Wa.strOk "letter"=S by left];rfl
 |Yo n=>show LD.kd (.tuple [.str "layer",.int n])=S;simp only[LD.kd,LD.kds];rw[show Wa.strOk "layer"=S by left];rfl
 |Z6 c n=>show LD.kd (.tuple [.str "tap",.str (dM c),.int n])=S;simp only[LD.kd,LD.kds];rw[rG h,show Wa.strOk "tap"=S by left];rfl
 |once n=>show LD.kd (.tuple [.str "once",.int n])=S;simp only[LD.kd,LD.kds];rw[show Wa.strOk "once"=S by left];rfl
 |none=>show LD.kd (.tuple [.str "none"])=S;simp only[LD.kd,LD.kds];rw[show Wa.strOk "none"=S by left];rfl
 |below=>show LD.kd (.tuple [.str "below"])=S;simp only[LD.kd,LD.kds];rw[show Wa.strOk "below"=S by left];rfl
def GH(h:SW b s):LD.kd (ef s)=S/\Wa.depth (ef s)<=4:=by
 let j:LD.kds ((fH s.ac).map pD)=S:=uy λq l=>by show LD.kd (.tuple [nd q.1,mD q.2])=S;simp only[LD.kd,LD.kds];rw[LL (h.sa.ac _ _ (ez.mp l).2).2.lb];rfl
 let o:∀m:Mn,Wa.depth (mD m)<=1:=λm=>by ext m<;>show Wc W
 let p:Wa.depthAll ((fH s.ac).map pD)<=2:=uq λq _=>by show max 0 (max (Wa.depth (mD q.2)) 0)+1<=2;let:=o q.2;ext
 let f:LD.kd (iw s.wt)=S/\Wa.depth (iw s.wt)<=2:=by
  cases q:s.wt with
  |none=>show#[by show LD.kd .none=S;rw[LD.kd],W0 _]
  |some x=>
   let(a,g,w):=x;let v:=(h.wt a g w q).1;constructor
   .show LD.kd (.tuple [.tuple (aR a),.int g,rA w])=S
    simp only[LD.kd,LD.kds];rw[IQ];cases w with
    |none=>show(S&&(S&&(LD.kd (.tuple [.str "chord"])&&S)))=S;simp only[LD.kd,LD.kds];rw[show Wa.strOk "chord"=S by left];rfl
    |some i=>let(c,n):=i;let lb:LB (.Z6 c n):=(v.tp c n W).1;show(S&&(S&&(LD.kd (mD (.Z6 c n))&&S)))=S;rw[LL lb];rfl
   .show max (Wa.depthAll (aR a)+1) (max 0 (max (Wa.depth (rA w)) 0))+1<=2
    rw[jb];cases w with
    |none=>show Wc W
    |some i=>show Wc W
 let e:LD.kd (nY s.oc)=S/\Wa.depth (nY s.oc)=0:=by cases s.oc<;>show#[by show LD.kd _=S;ext nY;simp only[LD.kd],W]
 constructor
 .show LD.kd (.tuple [.tuple ((fH s.ac).map pD),iw s.wt,nY s.oc])=S;simp only[LD.kd,LD.kds];rw[j,f.1,e.1];rfl
 .show max (Wa.depthAll ((fH s.ac).map pD)+1) (max (Wa.depth (iw s.wt)) (max (Wa.depth (nY s.oc)) 0))+1<=4;rw[e.2];let:=f.2;ext
def rR(n:Nat):G ZG:=(WK n).map .down++(WK n).map .up++[.turn]
def yM{b:Bd}{n:Nat}(c:b.n=n):∀e∈rR n,EV b e:=by
 intro e a;rcases Xd.mp a with a|a
 .rcases Xd.mp a with a|a
  .let(k,f,rfl):=WM.mp a;let:=Ym.mp f;show(k:Int)<b.n;ext
  .let(k,f,rfl):=WM.mp a;let:=Ym.mp f;show(k:Int)<b.n;ext
 .rw[WB.mp a];trivial
theorem Sg(h:xs.length+ys.length<=1000000):cT (.list xs) (.list ys)=M (.ow (xs++ys)):=ax h
theorem Sv(b:Bd):aQ (bD b) (.int 0)=-(.int b.n):=gG
def Qt{b:Bd}{n:Nat}(c:b.n=n)(l:n<=5):fR [bD b]=.ok (.ow ((rR n).map cH)):=by
 let i:kF [.int b.n]=M (aR (WK n)):=by rw[c];show oO ()
 let j:=Sv b;let a:(WK n).length<=1000:=by rw[Xt];ext
 let f:jK (cY (gN 0) d4 (aY {pC (.str "down"),aa 0}) (aR (WK n)) [P] [])=.ok ((WK n).map λk=>cH (.down k)):=lB nd (λk=>cH (.down k)) (WK n) a W λk _=>bU (ai aw (ai (ag W) aB)) W (Wc W);let e:jK (cY (gN 0) d4 (aY {pC (.str "up"),aa 0}) (aR (WK n)) [P] [])=.ok ((WK n).map λk=>cH (.up k)):=lB nd (λk=>cH (.up k)) (WK n) a W λk _=>bU (ai aw (ai (ag W) aB)) W (Wc W);let h:cT (.list ((WK n).map λk=>cH (.down k))) (.list ((WK n).map λk=>cH (.up k)))=M (.ow (((WK n).map λk=>cH (.down k))++(WK n).map λk=>cH (.up k))):=Sg (by rw[V9,V9];ext);let g:cT (.list (((WK n).map λk=>cH (.down k))++(WK n).map λk=>cH (.up k))) (.list [cH .turn])=M (.ow ((rR n).map cH)):=(Sg (by rw[Wi,V9,V9];show _+1<=_;ext)).trans (by ext rR;rw[WJ,WJ,W2,W2];rfl);show iW W ?_;ext fY;show cK (dh (by ext:0) W f) W W ?_;show cK (dh (by ext:0) W e) W W ?_;show fu (aF (aF (mH W) (mH W) W W h) (mM (ai (bU (ai aw (ai aw aB)) W (Wc W)) aB) W (Wc W)) W W g) W W
abbrev zf(d:D):I PV:=-(d)
abbrev zo(l:G D):I PV:=M (.ow l)
def dP(w:G Nat):Str:=#[(w.map (97+·)).toArray]
def oX(w:G Nat):(dP w).length=w.length:=by show((w.map (97+·)).toArray).size=_;rw[Ws,V9]
def Li{v w:G Nat}(h:dP v=dP w):v=w:=by let a:v.map (97+·)=w.map (97+·):=d7 (λz:Str=>z.cps.toList) h;show(aaU λx y e=>by ext).mp a
def xN{w:G Nat}(h:∀c∈w,c<26):Wa.strOk (dP w)=S:=by show((w.map (97+·)).toArray.all λc=>decide (c<0x110000))=S;rw[<-aec];show XF.mpr λc b=>?_;let(d,a,rfl):=WM.mp b;let:=h d a;show bg ()
def Bc(v w:G Nat):dP v++dP w=dP (v++w):=by show(#[(v.map (97+·)).toArray++(w.map (97+·)).toArray]:Str)=#[((v++w).map (97+·)).toArray];rw[WJ];simp
def xy{w:G Nat}(h:w.length<=1000):vP [.str (dP w)]=-(nd w.length):=by show(if(dP w).length<=1000000 then M (RV.fz (.int (dP w).length))else P)=_;rw[oX,ax ()]
def MO(a b n:Nat):Builtin.Str.strSliceIndices (M (a:Int)) (M (b:Int)) 1 n=Builtin.Str.strSliceIndices (M (Nat.cast (min a n):Int)) (M (Nat.cast (min b n):Int)) 1 n:=by
 ext Builtin.Str.strSliceIndices
 grind
def HW{w:G Nat}(h:w.length<=1000){a b:Nat}(j:a<=b):rN (.str (dP w)) (M (a:Int)) (M (b:Int))=-(.str (dP ((w.drop a).take (b - a)))):=by
 let f:=oX w;let g:Txt.slice (dP w) (M (a:Int)) (M (b:Int))=dP ((w.drop a).take (b - a)):=by
  let e:=ag9 (dP w) (a:=min a w.length) (b:=min b w.length) () (by rw[f];ext);rw[f,<-MO]at e;let e2:((dP w).cps.toList.drop (min a w.length)).take (min b w.length - min a w.length)=((w.drop a).take (b - a)).map (97+·):=by
   show((w.map (97+·)).drop (min a w.length)).take (min b w.length - min a w.length)=_;rw[List.map_take,List.map_drop];by_cases q:a<=w.length
   .rw[afp q,List.take_eq_take_iff,YK,V9];ext
   .rw[X5 (by rw[V9];ext),X5 (by rw[V9];ext),afM,afM]
  rw[e2]at e;ext Txt.slice;rw[f];split
  .rename_i z
   rw[V7]at z;let z:=eq_of_beq z.2;let m:=PySem.sliceIndices_le (M (a:Int)) (M (b:Int)) w.length;let l:(afr (λi=>(dP w).cps[i]?) (Builtin.Str.strSliceIndices (M (a:Int)) (M (b:Int)) 1 w.length)).length=((w.drop a).take (b - a)).length:=by rw[e,V9]
   rw[MO,aha () (),V9,Xt]at z;rw[aaa (by rw[YK];ext)];by_cases q:a=0
   .rw[q];rfl
   .rw[List.length_eq_zero_iff.mp (show w.length=0 by ext),List.drop_nil]
  .show(#[(afr (λi=>(dP w).cps[i]?) _).toArray]:Str)=_;rw[e];rfl
 show(if(dP w).length<=1000000 then M (RV.fz (.str (Txt.slice (dP w) (M (a:Int)) (M (b:Int)))))else P)=_;rw[f,ax (),g]
theorem EJ:∀w:G Nat,abe (#[#v[]]:Str) (w.map dM)=dP w
 |[]=>rfl
 |[c]=>rfl
 |c::d::r=>by show dM c++(#[#v[]]:Str)++abe (#[#v[]]:Str) ((d::r).map dM)=_;rw[EJ (d::r),show dM c++(#[#v[]]:Str)=dM c by show(#[#v[97+c]++ #v[]]:Str)=_;simp;rfl];show Bc [c] (d::r)
def uM{w:G Nat}(h:w.length<=1000):pU "" [.list (w.map λc=>.str (dM c))]=-(.str (dP w)):=by
 let a:("":Str)=#[#v[]]:=by left
 show(match tZ (w.map λc=>.str (dM c))with
   |some b=>if ad8 "" b=S then M (RV.fz (.str (Txt.join "" b)))else P
   |none=>P)=_
 rw[show(w.map λc=>Wa.str (dM c))=(w.map dM).map .str by rw[W2];rfl,EL];dsimp only;let ok:ad8 "" (w.map dM)=S:=by ext ad8;let:=ahb (sep:= "") (texts:=w.map dM) (B:=1) (λz e=>by let(n,_,rfl):=WM.mp e;show Wg _) (by rw[V9,a];show _+_*0<=_;ext);rw[this];rfl
 rw[ax ok,show Txt.join "" (w.map dM)=abe "" (w.map dM)from ahc _ _,a,EJ]
def Iy(v w:G Nat):Wa.eqv (.str (dP v)) (.str (dP w))=decide (v=w):=by
 rw[Wa.eqv];by_cases h:v=w
 .rw[bg h,h];simp
 .rw[bt h];show beq_eq_false_iff_ne.mpr λz=>h (Li z)
def Pu{v w:G Nat}(b:∀c∈v,c<26)(a:∀c∈w,c<26):mG (.str (dP v)) (.str (dP w))=-(.bool (!decide (v=w))):=by ext mG;rw[show iH (.str (dP v))=S from rP (xN b) (by show 0<=64;decide),show Wa.canLay0 (.str (dP w))=S from xN a,Xv,ax W,Iy]
def G7{f:Str->G D->I RV}{h:FE}{i:FA}{d c a:aL}{pv:PV}{z:Str}{g:G PV}{ds:G D}{rv:RV}(b:h d=.ok (pv,c))(j:A2 pv=M z)(k:i c=.ok (g,a))(hd:sd a g=M ds)(e:f z ds=M rv):Pw f h i d=.ok (rv.pv,a):=by ext Pw;rw[b,eg];dsimp only;rw[j,aA,eg,k,eg,hd,aA,eg,e,aA,eg]
def jt(sn:Sn):G Nat:=(sn.filter (·.2)).map (·.1)
theorem Ny{sn:Sn}(h:Zt sn):∀c∈jt sn,c<26:=λc b=>by let(q,a,rfl):=WM.mp b;show h q (Xo.mp a).1
def Al(sn:Sn):(jt sn).length<=sn.length:=by ext jt;rw[V9];show Zg _ _
def vF{sn:Sn}(g:sn.length<=1000):jK (cY (gT 2 (xu (gN 0) (xu (gN 1) IK))) (ay (aC cC (aa 1) (pC (.str "down")))) (aa 0) (sn.map mK) [P,P] [])=.ok ((jt sn).map λc=>.str (dM c)):=by
 let e:∀d:Bool,cC (.str (if d=S then "down" else "up")) (.str "down")=-(.bool d):=λd=>by
  ext d
  .show(SS (by left) (by left)).trans (by rw[show((if R=S then "down" else "up":Str)== "down")=R by left])
  .show(SS (by left) (by left)).trans (by rw[show((if S=S then "down" else "up":Str)== "down")=S by left])
 rw[uB mK (λq=>if q.2=S then M (Wa.str (dM q.1))else P) (λi=>∃a d,i=[a,d]) sn #[P,P,W] g ?_]
 .congr 1
  ext jt;rw[W2];clear g
  induction sn with
  |nil=>rfl
  |cons x r f=>
   cases q:x.2 with
   |true=>rw[ZW (b:=Wa.str (dM x.1)) (by rw[ax q]),acq q,f];rfl
   |false=>rw[ZV (by rw[bb (by rw[q];simp)]),acr (by rw[q];simp),f]
 .rintro⟨c,d⟩ h i ⟨x,y,rfl⟩
  cases d with
  |true=>show#[[zf (.str (dM c)),zf (.str (if S=S then "down" else "up"))],yB (x:=.str (dM c)) W (aU (aF (rv:=.fz (.bool S)) (ag W) aw W W (e S)) W) (ag W) W W,_,_,W]
  |false=>show#[[zf (.str (dM c)),zf (.str (if R=S then "down" else "up"))],Nu W (aU (aF (rv:=.fz (.bool R)) (ag W) aw W W (e R)) W) W,_,_,W]
def C9(w:G Nat)(d:Nat)(sn:Sn):I Nat:=if(w.drop d).take (jt sn).length=jt sn then M (d+(jt sn).length)else P
def Uw:I Nat->D
 |some k=>nd k
 |none=>.none
def HE{w:G Nat}(i:∀c∈w,c<26)(m:w.length<=3){d:Nat}(hd:d<=3){sn:Sn}(j:Zt sn)(n:sn.length<=900):fQ [.str (dP w),nd d,.list (sn.map mK)]=.ok (.fz (Uw (C9 w d sn))):=by
 let o:=Al sn;let cm:=vF (sn:=sn) ();let h:=uM (w:=jt sn) ();let g:=xy (w:=jt sn) ();let e:=Ny j;let f:=HW (w:=w) () (a:=d) (b:=d+(jt sn).length) ();rw[YZ]at f;let ne:=Pu (v:=(w.drop d).take (jt sn).length) (w:=jt sn) (λc l=>i c (List.mem_of_mem_drop (aay l))) e;show iW (ρ:=[zf (.str (dP w)),zf (nd d),zf (.list (sn.map mK)),P,P]) W ?_;ext dZ;show cK (ρ3:=[zf (.str (dP w)),zf (nd d),zf (.list (sn.map mK)),zf (.str (dP (jt sn))),P]) (G7 (rv:=.fz (.str (dP (jt sn)))) aw W (ai (dh (cs:=[]) (ds:=sn.map mK) (fO (d:=.list (sn.map mK)) (ag W) W W) W cm) aB) W h) W W ?_;show cK (ρ3:=[zf (.str (dP w)),zf (nd d),zf (.list (sn.map mK)),zf (.str (dP (jt sn))),zf (nd (d+(jt sn).length))]) (aF (rv:=.fz (nd (d+(jt sn).length))) (ag W) (eY (rv:=.fz (nd (jt sn).length)) (ai (ag W) aB) W g) W W (i4 _ _)) W W ?_;show nt (aU (aF (zj (rv:=.fz (.str (dP ((w.drop d).take (jt sn).length)))) (ag W) (jv (ag W) W) (jv (ag W) W) W f) (ag W) W W ne) W) (λq=>?_) (λq=>fG ?_)
 .let q:¬(w.drop d).take (jt sn).length=jt sn:=by simpa using q
  show jI (rv:=.fz .none) aw W ?_;ext C9;rw[bb q];rfl
 .let q:(w.drop d).take (jt sn).length=jt sn:=by simpa using q
  show fu (rv:=.fz (nd (d+(jt sn).length))) (ag W) W ?_;ext C9;rw[ax q];rfl
def AO:Mn->Mn
 |.Z6 _ n=>.Yo n
 |.once _=>.none
 |m=>m
def QF:Mn->I (Nat×Int)
 |.Z6 c n=>M (c,n)
 |_=>P
def Ca(b:Bd)(x:Nat)(k:Nat)(a:Mn):Prop:=a=ji b 0 k\/a=.WN x\/a=.none
def Na(b:Bd)(k:Nat)(a:Mn):Prop:=a=AO (ji b 0 k)\/a=AO (ji b 1 k)
structure IN(b:Bd)(s:Yl):Prop where
 ac:∀k a,s.ac k=M a->Na b k a
 wt:∀ks g w,s.wt=M (ks,g,w)->∃k c n,ks=[k]/\w=M (c,n)/\(ji b 0 k=.Z6 c n\/ji b 1 k=.Z6 c n)
structure IC(b:Bd)(x:Nat)(s:Yl):Prop where
 ac:∀k a,s.ac k=M a->Ca b x k a
 wt:∀ks g w,s.wt=M (ks,g,w)->w=P/\∃k,ks=[k]
 oc:s.oc=P
section
variable{b:Bd}{p:Yl×Sn}{s:Yl}{k x:Nat}
theorem Bb{Q:Nat->Mn->Prop}(h:∀k a,ac k=M a->Q k a)(f:∀a,o=M a->Q k a):∀j a,jP ac k o j=M a->Q j a:=λj a e=>by
 by_cases z:j=k
 .subst z;rw[cW]at e;show f a e
 .rw[eD z]at e;show h j a e
theorem zw{Q:Nat->Mn->Prop}(h:∀j a,j≠k->p.1.ac j=M a->Q j a):∀j a,(go p k).1.ac j=M a->Q j a:=λj a e=>by
 unfold go at e;cases z:p.1.ac k with
 |none=>rw[z]at e;show h j a (λq=>by subst q;rw[z]at e;ext e) e
 |some y=>
  rw[z]at e;by_cases q:j=k
  .subst q;show b4 ((cW).symm.trans e) (by simp)
  .show h j a q ((eD q).symm.trans e)
def sG:(go p k).1.wt=p.1.wt/\(go p k).1.oc=p.1.oc:=by ext go;split<;>show#[W,W]
def Gd(s:Yl)(m:Mn):(dJ s m).ac=s.ac/\(dJ s m).wt=s.wt:=by ext dJ;split<;>show#[W,W]
def Lo(a:VB b)(f:SA b s)(g:b.ls.length<=2):look b (iU s.ac s.oc) k=ji b 0 k\/look b (iU s.ac s.oc) k=ji b 1 k:=by
 let(i,h):=uQ a f;let:(iU s.ac s.oc).toNat=0\/(iU s.ac s.oc).toNat=1:=by ext
 ext look;split
 .show .inl W
 .rcases this with e|e<;>rw[e]
  .show .inl W
  .show .inr W
def IN.dec(h:IN b p.1):IN b (bF b p).1/\(bF b p).1.wt=P:=by
 ext bF;split
 .rename_i q;show#[h,q]
 .rename_i f g w q
  let(k,c,n,rfl,rfl,i):=h.wt f g w q;show#[#[?_,λ_ _ _ e=>(by ext e)],W];show Bb h.ac λa e=>?_;ext e;rcases i with e|e
  .show .inl (by rw[e];rfl)
  .show .inr (by rw[e];rfl)
def IN.step(l:VB b)(C:b.ls.length<=2)(i:b.cs=[])(r:SW b s)(h:IN b s)(I:EV b e):IN b (bc b s e).1:=by
 let t:∀f,dc b f=[]:=λf=>by ext dc;rw[i];rfl
 cases e with
 |turn=>
  show IN b (gj b (s,[])).1;ext gj;split
  .show h
  .rename_i f g w q
   let v:IN b {s with wt:=M (f,g+1,w)}:=#[h.ac,λ_ _ _ e=>by ext e;show h.wt f g w q];split
   .show(IN.dec v).1
   .show v
 |up k=>
  show IN b (lA b (s,[]) k).1;ext lA;split
  .rename_i q
   cases z:s.wt with
   |none=>rw[show AG s.wt k=R by rw[z];rfl]at q;ext q
   |some y=>
    let(f,g,w):=y;let(G,c,n,rfl,rfl,H):=h.wt f g w z;let e:STP.bq b (s,[]) k=eF ({s with wt:=P},[]) k (.WN c):=by ext STP.bq;dsimp only;rw[z]
    rw[e];show#[zw λj a B o=>h.ac j a ((eD B).symm.trans o),λf g w e=>?_];rw[sG.1]at e;ext e
  .show#[zw λj a _ o=>h.ac j a o,λf g w e=>?_];rw[sG.1]at e;show h.wt f g w e
 |down k=>
  show IN b (gP b (s,[]) k).1;ext gP;split
  .show h
  .rw[bb (by
    ext B3;split
    .rw[t];simp
    .simp)]
   let d:=IN.dec (p:=(s,[])) h;let A:=dC l (p:=(s,[])) r.sa (SW.wd l r);generalize bF b (s,[])=p at d A;let(h,E):=d;let lo:=Lo (k:=k) l A.1.sa C;ext zi;let u:=Gd p.1 (look b (iU p.1.ac p.1.oc) k);generalize dJ p.1 (look b (iU p.1.ac p.1.oc) k)=N at u;generalize look b (iU p.1.ac p.1.oc) k=m at lo;generalize iU p.1.ac p.1.oc=L;let i:∀a,a=AO m->IN b (eF (N,p.2) k a).1:=λa F=>by
    show#[Bb (λj y e=>h.ac j y (by rw[<-u.1];show e)) λy e=>?_,λf g w e=>?_]
    .ext e
     rw[F];rcases lo with e|e
     .show .inl (by rw[e])
     .show .inr (by rw[e])
    .let e:N.wt=_:=e;rw[u.2,E]at e;ext e
   cases m with
   |Z6 c n=>show#[λj y e=>h.ac j y (by rw[<-u.1];show e),λf g w e=>?_];ext e;show#[k,c,n,W,W,by rcases lo with e|e<;>simp[<-e]]
   |WN c=>show IN b (if(decide (L=0)&& !(dc b [k]).isEmpty)=S then _ else eF (N,p.2) k (.WN c)).1;rw[t,bb (by simp)];show i _ W
   |once n=>let:=i .none W;show#[this.ac,this.wt]
   |Yo n=>show i _ W
   |none=>show i _ W
   |below=>show i _ W
theorem zu:∀{l:G α},q∈l.zip (l.map f)->q.2=f q.1
 |[],h=>by ext h
 |a::r,h=>by
  rcases WE.mp h with rfl|h
  .rfl
  .show zu h
def Qe{Q:Nat->Mn->Prop}(f:G (Nat×Mn)):∀{p:Yl×Sn},(∀k a,p.1.ac k=M a->Q k a)->(∀q∈f,Q q.1 q.2)->(∀k a,(gS p f).1.ac k=M a->Q k a)/\(gS p f).1.wt=p.1.wt/\(gS p f).1.oc=p.1.oc:=by
 induction f with
 |nil=>show λh _=>#[h,W,W]
 |cons q r i=>intro p h g;show i (Bb h λa e=>by ext e;show g q Wh) λy j=>g y (Wj _ j)
def RA(f:b.cs=[([0,1],x)])(d:G Nat):∀q∈d.zip (LH b d),Ca b x q.1 q.2:=by
 intro q a;unfold LH at a;split at a
 .rename_i c e
  let cm:=ZJ e;rw[f]at cm;let cm:=WB.mp cm;rcases WE.mp (YT a).2 with h|h
  .show .inr (.inl (by rw[h,cm]))
  .show .inr (.inr (adY.mp h).2)
 .show .inl (zu a)
structure IC0(b:Bd)(x:Nat)(s:Yl):Prop where
 ac:∀k a,s.ac k=M a->Ca b x k a
 wt:∀ks g w,s.wt=M (ks,g,w)->w=P
 oc:s.oc=P
theorem IC.z(h:IC b x s):IC0 b x s:=#[h.ac,λa g w e=>(h.wt a g w e).1,h.oc]
def IC0.dec(j:b.cs=[([0,1],x)])(h:IC0 b x p.1):IC b x (bF b p).1/\(bF b p).1.wt=P:=by
 ext bF;split
 .rename_i q;show#[#[h.ac,λ_ _ _ e=>(by rw[q]at e;ext e),h.oc],q]
 .rename_i a g w q;let i:=h.wt a g w q;subst i;let(m,f,l):=Qe (p:=({p.1 with wt:=P},p.2)) (a.zip (LH b a)) h.ac (RA j a);show#[#[m,λ_ _ _ e=>(by rw[show(gS ({p.1 with wt:=P},p.2) (a.zip (gJ b a P))).1.wt=P from f]at e;ext e),l.trans h.oc],f]
def SE(f:VB b)(i:SA b s)(l:b.cs=[([0,1],x)])(o:b.n<=2)(h:IC b x s):iU s.ac s.oc=0:=by
 rw[h.oc];show(((fH s.ac).filterMap HA).foldl jy P).getD 0=0;let:(fH s.ac).filterMap HA=[]:=List.filterMap_eq_nil_iff.mpr λq j=>by
  let g:=(ez.mp j).2;let r:=(i.ac q.1 q.2 g).1;let ok:=(f.vc ([0,1],x) (by rw[l];show Wh)).2.2.1 q.1 (by
   let:q.1=0\/q.1=1:=by ext
   rcases this with e|e<;>simp[e])
  let(c,m):=yQ f ok;let(k,a):=q;rcases h.ac k a g with rfl|rfl|rfl
  .show HA (k,ji b 0 k)=P;rw[m];rfl
  .rfl
  .rfl
 rw[this];rfl
def IC.step(m:VB b)(H:b.n<=2)(l:b.cs=[([0,1],x)])(C:SW b s)(h:IC b x s)(J:EV b e):IC b x (bc b s e).1:=by
 cases e with
 |turn=>
  show IC b x (gj b (s,[])).1;ext gj;split
  .show h
  .rename_i i g w q
   let E:IC b x {s with wt:=M (i,g+1,w)}:=#[h.ac,λ_ _ _ e=>by ext e;show h.wt i g w q,h.oc];split
   .show(IC0.dec l E.z).1
   .show E
 |up k=>
  show IC b x (lA b (s,[]) k).1;ext lA;split
  .rename_i q
   cases z:s.wt with
   |none=>rw[show AG s.wt k=R by rw[z];rfl]at q;ext q
   |some y=>
    let(i,g,w):=y;let(rfl,A,rfl):=h.wt i g w z;let e:STP.bq b (s,[]) k=bF b (s,[]):=by ext STP.bq;dsimp only;rw[z]
    rw[e];let(d,t):=IC0.dec l (p:=(s,[])) h.z;show#[zw λj a _ B=>d.ac j a B,λi g w e=>(by rw[sG.1,t]at e;ext e),sG.2.trans d.oc]
  .show#[zw λj a _ B=>h.ac j a B,λi g w e=>(by rw[sG.1]at e;show h.wt i g w e),sG.2.trans h.oc]
 |down k=>
  show IC b x (gP b (s,[]) k).1;ext gP;split
  .show h
  .split
   .rename_i o
    unfold B3 at o;split at o
    .rename_i i g z
     rw[V7]at o;let(_,A,rfl):=h.wt i g P z;let G:dc b ([A]++[k])=[([0,1],x)]:=by
      let r:=o.2;unfold dc at r⊢;rw[l]at r⊢;rw[Zi]at r⊢;split
      .rfl
      .rename_i f;rw[bb f]at r;simp at r
     ext qC;rw[z];dsimp only;rw[G,ax (show alu (λx=>x.1.length) [(([0,1]:b5 Nat),x)]=[([A]++[k]).length]from rfl)];show(IC0.dec l #[h.ac,λ_ _ _ e=>(by ext e;rfl),h.oc]).1
    .ext o
   .let(d,t):=IC0.dec l (p:=(s,[])) h.z
    let ds:=dC m (p:=(s,[])) C.sa (SW.wd m C);generalize bF b (s,[])=p at d t ds;let K:(k:Int)<b.n:=J;let ok:=(m.vc ([0,1],x) (by rw[l];show Wh)).2.2.1 k (by
     let:k=0\/k=1:=by ext
     rcases this with e|e<;>simp[e])
    let(c,F):=yQ m ok;ext zi;let I:look b 0 k=.WN c:=by ext look;rw[show(0:Int).toNat=0 from rfl,F];rfl
    rw[SE m ds.1.sa l H d,I];let u:=Gd p.1 (.WN c);let v:(dJ p.1 (.WN c)).oc=P:=W;generalize dJ p.1 (.WN c)=n at u v;show IC b x (if(decide ((0:Int)=0)&& !(dc b [k]).isEmpty)=S then({n with wt:=M ([k],0,P)},p.2)else eF (n,p.2) k (.WN c)).1;split
    .show#[λj y e=>d.ac j y (by rw[<-u.1];show e),λi g w e=>(by ext e;show#[W,k,W]),v]
    .show#[Bb (λj y e=>d.ac j y (by rw[<-u.1];show e)) λy e=>(by ext e;show .inl F.symm),λi g w e=>(by let e:n.wt=_:=e;rw[u.2,t]at e;ext e),v]
def Re(e a:I Mn):Ac:=λk=>if k=0 then e else if k=1 then a else P
theorem RF(f:SA b s)(g:b.n<=2):s.ac=Re (s.ac 0) (s.ac 1):=funext λk=>by
 ext Re;split
 .rename_i e;rw[e]
 .split
  .rename_i e;rw[e]
  .cases q:s.ac k with
   |none=>rfl
   |some a=>let:=(f.ac k a q).1;ext
def A3(b:Bd)(k:Nat):G (I Mn):=[P,M (AO (ji b 0 k)),M (AO (ji b 1 k))]
def A4(b:Bd)(x k:Nat):G (I Mn):=[P,M (ji b 0 k),M (.WN x),M .none]
def W4(b:Bd)(k:Nat):G (Int×I (Nat×Int)):=[(0,QF (ji b 0 k)),(0,QF (ji b 1 k)),(1,QF (ji b 0 k)),(1,QF (ji b 1 k))]
def Ua(F:Nat->G (I Mn))(W:Nat->G (Int×I (Nat×Int)))(o:I Int):G Yl:=
 ((F 0).flatMap λe=>(F 1).map λa=>#[Re e a,P,o])++((W 0).flatMap λw=>(F 1).map λa=>#[Re P a,M ([0],w.1,w.2),o])++(W 1).flatMap λw=>(F 0).map λe=>#[Re e P,M ([1],w.1,w.2),o]
def Ak(f:SW b s)(i:b.n<=2)(e:∀k,s.ac k∈F k)(j:∀c g w,s.wt=M (c,g,w)->∃k,c=[k]/\(g,w)∈m k):s∈Ua F m s.oc:=by
 let a:=RF f.sa i;cases q:s.wt with
 |none=>show XD _ (XD _ (Z3.mpr #[s.ac 0,e 0,WM.mpr #[s.ac 1,e 1,?_]]));rw[<-a,<-q]
 |some y=>
  let(c,g,w):=y;let(k,rfl,hm):=j c g w q;let v:=(f.wt _ _ _ q).1;let l:=v.kn k Wh;let h:=v.kf k Wh;let:k=0\/k=1:=by ext
  rcases this with rfl|rfl
  .rw[h]at a;show XD _ (WY _ (Z3.mpr #[(g,w),hm,WM.mpr #[s.ac 1,e 1,?_]]));rw[<-a,<-q]
  .rw[h]at a;show WY _ (Z3.mpr #[(g,w),hm,WM.mpr #[s.ac 0,e 0,?_]]);rw[<-a,<-q]
def few(i:VB b)(A:b.n<=2)(J:b.ls.length<=2)(P:b.wt<=2):∃(l:b5 Yl) (I:Yl->Prop),l.length<=66/\I br/\(∀s,I s->SW b s/\s∈l)/\∀s e,I s->EV b e->I (bc b s e).1:=by
 by_cases F:b.cs=[]
 .show#[([Ld,cL 1]:b5 (b7 Int)).flatMap (Ua (A3 b) (W4 b)),λs=>SW b s/\IN b s,Wg 66,#[gA b,λk a e=>(by ext e),λm g w e=>(by ext e)],λs h=>#[h.1,?_],λs e h u=>#[ot i h.1 u,h.2.step i J F h.1 u]]
  show Z3.mpr #[s.oc,?_,Ak h.1 A (λk=>?_) λm g w e=>?_]
  .cases q:s.oc with
   |none=>show Wh
   |some o=>
    let:=h.1.sa.oc o q;let e:o=1:=by ext
    rw[e];show Wj _ Wh
  .cases q:s.ac k with
   |none=>show Wh
   |some a=>
    rcases h.2.ac k a q with rfl|rfl
    .show Wj _ Wh
    .show Wj _ (Wj _ Wh)
  .let(k,c,n,rfl,rfl,B):=h.2.wt m g w e
   let v:=h.1.wt _ _ _ e;let g0:=v.1.g0;let L:=v.2;let t:cL (c,n)=QF (ji b 0 k)\/cL (c,n)=QF (ji b 1 k):=by rcases B with e|e<;>simp[e,QF]
   let:g=0\/g=1:=by ext
   show#[k,W,?_];ext W4;rcases this with rfl|rfl<;>rcases t with e|e<;>rw[e]<;>simp
 .obtain⟨x,K⟩:∃x,b.cs=[([0,1],x)]:=by
   let one:∀c∈b.cs,c.1=[0,1]:=λc hm=>by
    let(O,N,M,_):=i.vc c hm;let j:∀k∈c.1,k<2:=λk B=>by
     let E:=i.l1;obtain⟨l,r,H⟩:∃l r,b.ls=l::r:=by
      cases q:b.ls with
      |nil=>rw[q]at E;ext E
      |cons l r=>show#[l,r,W]
     let Q:=i.vl 0 l (by rw[H];rfl);let:=M k B;unfold vt at this;rw[H,aeX]at this;cases q:l[k]? with
     |none=>rw[q]at this;ext this
     |some y=>let:=(Wb.mp q).1;ext
    match hq:c.1,O,N,j with
    |[a,d],_,h,j=>
     let:=j a Wh;let:=j d (Wj _ Wh);let h:=(XA.mp h).1 d Wh;obtain rfl:a=0:=by ext
     obtain rfl:d=1:=by ext
     rfl
    |a::d::f::r,_,h,j=>let C:=(XA.mp h).1 d Wh;let G:=(XA.mp (XA.mp h).2).1 f Wh;let:=j f (Wj _ (Wj _ Wh));ext
   cases e:b.cs with
   |nil=>show b4 e F
   |cons c r=>
    let C:=one c (by rw[e];show Wh);cases r with
    |nil=>show#[c.2,by rw[<-C]]
    |cons d r=>let G:=one d (by rw[e];show Wj _ Wh);let:=i.cu;rw[e]at this;show b4 (C.trans G.symm) ((XA.mp this).1 d Wh)
  show#[Ua (A4 b x) (λ_=>[(0,Ld),(1,Ld)]) Ld,λs=>SW b s/\IC b x s,by show 32<=66;decide,#[gA b,λk a e=>(by ext e),λm g w e=>(by ext e),W],λs h=>#[h.1,?_],λs e h u=>#[ot i h.1 u,h.2.step i A K h.1 u]];rw[<-h.2.oc];show Ak h.1 A (λk=>?_) λm g w e=>?_
  .cases q:s.ac k with
   |none=>show Wh
   |some a=>rcases h.2.ac k a q with rfl|rfl|rfl<;>simp[A4]
  .let(rfl,k,rfl):=h.2.wt m g w e
   let v:=h.1.wt _ _ _ e;let g0:=v.1.g0;let L:=v.2;let:g=0\/g=1:=by ext
   show#[k,W,by rcases this with rfl|rfl<;>simp]
end
theorem Jq(h:aR o=aR C):o=C:=(aaU λx y e=>by injection e with e;show abv e).mp h
def EA(h:mD m=mD n):m=n:=by
 let e:=(nu m).symm.trans ((d7 (λz=>aQ z (.int 0)) h).trans (nu n));injection e with e;injection e with e;injection e with e
 let w:=xn _ (nw m) _ (nw n);rw[show ws (wn m)=ws (wn n)from e,d9]at w;ext m<;>ext n<;>first|rfl|(exfalso;revert w;simp[wn];done)|(injection h with h;injection h with _ h;injection h with h g;injection h with h)
 .rw[tN h]
 .rw[h]
 .injection g with g;injection g with g;rw[tN h,g]
 .rw[h]
def NL(l:VB b)(j:VB c)(C:SW b s)(B:SW c t)(h:ef s=ef t):s=t:=by
 injection h with h
 injection h with h1 h
 injection h with h2 h
 injection h with h3 _
 injection h1 with h1
 let f:=(aaU λx y e=>by
  injection e with e;injection e with e1 e;injection e with e2 _;injection e1 with e1
  show Prod.ext (abv e1) (EA e2)).mp h1
 let F:=funext λk=>Option.ext λa=>#[λe=>by
   let:=(ez (p:=(k,a))).mpr #[(SA.ak l C.sa k a e).1,e];rw[f]at this;show(ez.mp this).2,λe=>by
   let:=(ez (p:=(k,a))).mpr #[(SA.ak j B.sa k a e).1,e];rw[<-f]at this;show(ez.mp this).2]
 let E:s.wt=t.wt:=by
  revert h2;cases s.wt with
  |none=>cases t.wt with
   |none=>show λ_=>W
   |some y=>show λe=>by ext e
  |some x=>cases t.wt with
   |none=>show λe=>by ext e
   |some y=>
    let(G,g,w):=x;let(H,i,v):=y;intro e;injection e with e;injection e with e1 e;injection e with e2 e;injection e with e3 _;injection e1 with e1;injection e2 with e2;let e1:=Jq e1;let:w=v:=by
     revert e3;cases w with
     |none=>cases v with
      |none=>show λ_=>W
      |some q=>show λe=>by injection e with e;injection e with _ e;ext e
     |some p=>cases v with
      |none=>show λe=>by injection e with e;injection e with _ e;ext e
      |some q=>let(A,u):=p;let(r,o):=q;show λe=>by let:=EA (m:=.Z6 A u) (n:=.Z6 r o) e;injection this with a b;rw[a,b]
    rw[e1,e2,this]
 let eo:s.oc=t.oc:=by
  revert h3;cases s.oc<;>cases t.oc<;>intro e
  .rfl
  .ext e
  .ext e
  .injection e with e;rw[e]
 ext s;ext t;ext F;ext E;ext eo;rfl
abbrev TP:=Yl×Nat
def kT(p:TP):D:=.tuple [ef p.1,nd p.2]
def FZ(b:Bd)(w:G Nat)(p:TP)(e:ZG):I TP:=(C9 w p.2 (bc b p.1 e).2).map λd=>((bc b p.1 e).1,d)
def C8:TP:=(br,0)
def RT(b:Bd)(w:G Nat)(es:G ZG):Nat->TP->Prop
 |0,p=>p=C8
 |k+1,p=>∃q e,RT b w es k q/\e∈es/\FZ b w q e=M p
structure TC(b:Bd)(w:G Nat)(es:G ZG):Prop where
 vb:VB b
 eb:∀e∈es,EV b e
 w26:∀c∈w,c<26
 wl:w.length<=3
def TW(b:Bd)(w:G Nat)(p:TP):Prop:=SW b p.1/\p.2<=w.length
theorem yW:∀{fs:G Pl} {d:D} {t:Nat},gW fs d=M t->∃q,fs[t]?=M q/\Wa.eqv q.p d=S
 |[],_,_,h=>by ext h
 |a::r,d,t,h=>by
  unfold gW at h;split at h
  .rename_i e;ext h;show#[a,W,e]
  .cases q:gW r d with
   |none=>rw[q]at h;ext h
   |some j=>rw[q]at h;ext h;let(x,f,b):=yW q;show#[x,by simpa using f,b]
theorem pZ:∀{fs:G Pl} {d:D},gW fs d=P->∀q∈fs,Wa.eqv q.p d=R
 |[],_,_,_,b=>by ext b
 |a::r,d,h,q,b=>by
  unfold gW at h;by_cases e:Wa.eqv a.p d=S
  .rw[ax e]at h;ext h
  .rw[bb e]at h
   rcases WE.mp b with rfl|b
   .show Bool.eq_false_iff.mpr e
   .show pZ (by cases z:gW r d with|none=>rfl|some _=>rw[z]at h;ext h) q b
def OG{w:G Nat}{d k:Nat}{sn:Sn}(hd:d<=w.length)(h:C9 w d sn=M k):k<=w.length:=by
 unfold C9 at h;split at h
 .rename_i q;ext h;let:=d7 ZM q;rw[Xl,YK]at this;ext
 .ext h
section
variable{b:Bd}{w:b5 Nat}{es:b5 ZG}
def TC.nx(h:TC b w es)(a:TW b w p)(f:e∈es)(c:FZ b w p e=M q):TW b w q:=by
 unfold FZ at c;cases z:C9 w p.2 (bc b p.1 e).2 with
 |none=>rw[z]at c;ext c
 |some d=>rw[z]at c;ext c;show#[ot h.vb a.1 (h.eb e f),OG a.2 z]
theorem TC.rw(h:TC b w es):∀{k p},RT b w es k p->TW b w p
 |0,p,e=>by rw[show p=C8 from e];show#[gA b,W0 _]
 |k+1,p,#[q,e,a,he,f]=>h.nx (h.rw a) he f
theorem RT.inv(h:TC b w es){I:Yl->Prop}(f:I br)(a:∀s e,I s->EV b e->I (bc b s e).1):∀{k p},RT b w es k p->I p.1
 |0,p,e=>by rw[show p=C8 from e];show f
 |k+1,p,#[q,e,i,he,g]=>by
  unfold FZ at g;cases z:C9 w q.2 (bc b q.1 e).2 with
  |none=>rw[z]at g;ext g
  |some d=>rw[z]at g;ext g;show a _ _ (RT.inv h f a i) (h.eb e he)
def xG(h:TC b w es)(f:TW b w p)(a:TW b w q)(e:kT p=kT q):p=q:=by
 injection e with e;injection e with e1 e;injection e with e2 _;injection e2 with e2
 show Prod.ext (NL h.vb h.vb f.1 a.1 e1) (abv e2)
def gb(a:TW b w p):LD.keyD (kT p)=S:=by let(e,f):=GH a.1;ext kT;rw[LD.keyD];simp only[LD.kds];rw[e,show LD.kd (nd p.2)=S by show LD.kd (.int _)=S;rw[LD.kd],bg (show Wa.depth (.tuple [ef p.1,nd p.2])<=8 by show max (Wa.depth (ef p.1)) (max 0 0)+1<=8;ext)];rfl
end
structure Te where
 p:TP
 b:D
 e:D
 d:Nat
def fF(q:Te):Pl:=#[kT q.p,q.b,q.e]
def SN:Te:=#[C8,.none,.none,0]
def Dt(b:Bd)(w:G Nat)(fs:G Te)(q:Te)(e:ZG):Prop:=∀p,FZ b w q.p e=M p->∃r∈fs,r.p=p/\r.d<=q.d+1
structure BT(b:Bd)(w:G Nat)(es:G ZG)(fs:G Te)(n:Nat):Prop where
 z:fs[0]?=M SN
 bk:∀i q,fs[i]?=M q->0<i->∃j r,j<i/\fs[j]?=M r/\q.b=nd j/\q.d=r.d+1/\∃e,q.e=cH e/\e∈es/\FZ b w r.p e=M q.p
 rw:∀q∈fs,RT b w es q.d q.p
 mo:fs.Pairwise λq r=>q.d<=r.d
 up:∀q,fs[n]?=M q->∀r∈fs,r.d<=q.d+1
 un:(fs.map (·.p)).Nodup
 dn:∀j q,j<n->fs[j]?=M q->∀e∈es,Dt b w fs q e
section
variable{b:Bd}{w:b5 Nat}{es:b5 ZG}{fs:b5 Te}{n:Nat}
def VI:BT b w es [SN] 0:=by
 show#[W,λi q h g=>?_,λq a=>?_,XY _ _,λq a r e=>?_,XY _ _,λj q f=>b4 f (afq _)]
 .match i,g,h with
  |i+1,_,h=>ext h
 .rw[WB.mp a];rfl
 .rw[WB.mp e];show W0 _
theorem Dt.mono(h:Dt b w fs q e)(l:G Te):Dt b w (fs++l) q e:=λp f=>by let(r,a,x):=h p f;show#[r,XD _ a,x]
theorem BT.old(B:TC b w es)(h:BT b w es fs n)(l:fs[n]?=M q)(o:e∈es)(m:FZ b w q.p e=M p)(c:gW (fs.map fF) (kT p)=M t):Dt b w fs q e:=λy a=>by
 rw[m]at a;ext a;let(r,f,v):=yW c;rw[Wl]at f;cases z:fs[t]? with
 |none=>rw[z]at f;ext f
 |some u=>rw[z]at f;ext f;let g:=WL z;let i:=B.rw (h.rw u g);let j:=B.nx (B.rw (h.rw q (WL l))) o m;show#[u,g,xG B i j (LD.kd_eqv _ _ (LD.keyD_kd (gb i)).1 (LD.keyD_kd (gb j)).1 v),h.up q l u g]
def BT.new(B:TC b w es)(h:BT b w es fs n)(l:fs[n]?=M q)(v:e∈es)(o:FZ b w q.p e=M p)(c:gW (fs.map fF) (kT p)=P):BT b w es (fs++[#[p,nd n,cH e,q.d+1]]) n:=by
 let C:=(Wb.mp l).1;let A:=WL l;let old:∀{i:Nat} {r:Te},fs[i]?=M r->(fs++[#[p,L3.nd n,cH e,q.d+1]])[i]?=M r:=λx=>(Wn (Wb.mp x).1).trans x;show#[old h.z,λi r a t=>?_,λr a=>?_,?_,λr a u g=>?_,?_,λj r G a f H=>?_]
 .by_cases E:i<fs.length
  .rw[Wn E]at a;let(j,u,K,J,I):=h.bk i r a t;show#[j,u,K,old J,I]
  .rw[WO ()]at a
   let z:i - fs.length=0:=by let:=(Wb.mp a).1;rw[Zf]at this;ext
   rw[z]at a;ext a;show#[n,q,by ext,old l,W,W,e,W,v,o]
 .rcases Xd.mp a with a|a
  .show h.rw r a
  .rw[WB.mp a];show#[q.p,e,h.rw q A,v,o]
 .rw[adp];show#[h.mo,XY _ _,λr a u g=>?_];rw[WB.mp g];show h.up q l r a
 .rw[Wn C,l]at a
  ext a;rcases Xd.mp g with g|g
  .show h.up q l u g
  .rw[WB.mp g];show Wg _
 .rw[WJ,Y6];show#[h.un,XY _ _,λx F y m e1=>?_];let(r,a,rfl):=WM.mp F;let m:y=p:=WB.mp m;let:=pZ c (fF r) (WM.mpr #[r,a,W]);rw[show(fF r).p=kT p by show kT r.p=_;rw[e1,m],oy (gb (B.nx (B.rw (h.rw q A)) v o))]at this;ext this
 .rw[Wn ()]at a;show(h.dn j r G a f H).mono _
def BT.next(h:BT b w es fs n)(f:fs[n]?=M q)(hd:∀e∈es,Dt b w fs q e):BT b w es fs (n+1):=by
 show#[h.z,h.bk,h.rw,h.mo,λr a u o=>?_,h.un,λj r p a e l=>?_]
 .let i:=(Wb.mp f);let g:=(Wb.mp a);let:=List.pairwise_iff_getElem.mp h.mo n (n+1) i.1 g.1 ();rw[i.2,g.2]at this;let:=h.up q f u o;ext
 .by_cases m:j<n
  .show h.dn j r m a e l
  .let:j=n:=by ext
   subst this;rw[f]at a;ext a;show hd e l
theorem BT.all(h:BT b w es fs n)(c:fs.length<=n):∀k p,RT b w es k p->∃r∈fs,r.p=p/\r.d<=k
 |0,p,q=>#[SN,WL h.z,(show p=C8 from q).symm,Wg _]
 |k+1,p,#[u,e,t,he,q]=>by let(r,l,i,o):=h.all c k u t;let(j,a):=Xi.mp l;let(v,g,f,m):=h.dn j r (WC (Wb.mp a).1 c) a e he p (by rw[i];show q);show#[v,g,f,by ext]
end
theorem rL{α:Type}:∀{m l:G α},m.Nodup->(∀x∈m,x∈l)->m.length<=l.length
 |[],_,_,_=>W0 _
 |a::r,l,h,g=>by
  let(f,e,rfl):=List.append_of_mem (g a Wh);rw[XM]at h;let:=rL (m:=r) (l:=f++e) h.2 λx b=>by
   rcases Xd.mp (g x (Wj _ b))with q|q
   .show XD _ q
   .rcases WE.mp q with rfl|q
    .show b4 b h.1
    .show WY _ q
  rw[Wi]at this⊢;rw[Wo,Wo];ext
def P0:G Yl->G TP
 |[]=>[]
 |s::r=>(s,0)::(s,1)::(s,2)::(s,3)::P0 r
theorem Bv:∀l:G Yl,(P0 l).length=4*l.length
 |[]=>rfl
 |s::r=>by show(P0 r).length+4=4*(r.length+1);rw[Bv r];ext
theorem Be{s:Yl}{d:Nat}(hd:d<=3):∀{l:G Yl},s∈l->(s,d)∈P0 l
 |[],h=>by ext h
 |a::r,h=>by
  rcases WE.mp h with rfl|h
  .let:d=0\/d=1\/d=2\/d=3:=by ext
   rcases this with rfl|rfl|rfl|rfl<;>simp[P0]
  .let:=Be hd h;simp only[P0,WE];show .inr (.inr (.inr (.inr this)))
def Tw{b:Bd}{w:G Nat}{es:G ZG}(B:TC b w es)(f:b.n<=2)(g:b.ls.length<=2)(e:b.wt<=2){l:G TP}(h:l.Nodup)(j:∀p∈l,∃k,RT b w es k p):l.length<=264:=by
 let(m,I,u,t,r,q):=few B.vb f g e;let:=rL (l:=P0 m) h λp o=>by let(k,a):=j p o;let i:=(r _ (a.inv B t q)).2;let:=(B.rw a).2;let:=B.wl;show Be (d:=p.2) () i
 rw[Bv]at this;ext
section
variable{b:Bd}(Z:VB b){s:Yl}{p:Yl×Sn}{k:Nat}
def GD:(go p k).2.length<=p.2.length+1:=by
 ext go;split
 .rename_i a q
  rw[Wi];let:(Mx (jP p.1.ac k P) a).length<=1:=by
   cases a with
   |WN c=>show(if kH (jP p.1.ac k P) (.WN c)=S then[]else[(c,R)]:Sn).length<=1;split<;>show Wc W
   |_=>show W0 _
  ext
 .omega
def IT:(zi b p k).2.length<=p.2.length+1:=by
 let e:zi b p k=u0 b (iU p.1.ac p.1.oc) (dJ p.1 (look b (iU p.1.ac p.1.oc) k),p.2) k (look b (iU p.1.ac p.1.oc) k):=W;rw[e];generalize look b (iU p.1.ac p.1.oc) k=m;generalize iU p.1.ac p.1.oc=L;let cm:∀a,(eF (dJ p.1 m,p.2) k a).2.length<=p.2.length+1:=λa=>lU;cases m with
 |Z6 c n=>show ZQ _
 |WN c=>
  show(if(decide (L=0)&& !(dc b [k]).isEmpty)=S then({dJ p.1 (.WN c)with wt:=M ([k],0,P)},p.2)else eF (dJ p.1 (.WN c),p.2) k (.WN c)).2.length<=_;split
  .show ZQ _
  .show cm _
 |once n=>show cm .none
 |Yo n=>show cm _
 |none=>show cm _
 |below=>show cm _
include Z
def wW(a:SW b s)(i:EV b e):(bc b s e).2.length<=100:=by
 let d:=dC Z (p:=(s,[])) a.sa (SW.wd Z a);let j:(bF b (s,[])).2.length<=5:=d.2.2.1;cases e with
 |turn=>
  show(gj b (s,[])).2.length<=100;ext gj;split
  .simp_all
  .rename_i f g w q
   let v:=(a.wt f g w q).1;split
   .let:=(dC Z (p:=({s with wt:=M (f,g+1,w)},[])) #[a.sa.ac,a.sa.oc] λ_ _ _ e=>by ext e;show#[v.ne,v.nd,v.kn,v.kf,by let:=v.g0;ext,v.tp,v.ch]).2.2.1;show WU this (show 0+5<=100 by decide)
   simp_all
 |up k=>
  show(lA b (s,[]) k).2.length<=100;ext lA;split
  .rename_i q;let z:=(j6 Z a q).2;let z:(STP.bq b (s,[]) k).2.length<=5:=z;let:=GD (p:=STP.bq b (s,[]) k) (k:=k);ext
  .show WU GD (show 0+1<=100 by decide)
 |down k=>
  show(gP b (s,[]) k).2.length<=100;ext gP;split
  .simp_all
  .rename_i q
   rw[Xz,not_or]at q;let m:s.ac k=P:=by simp_all
   let l:AG s.wt k=R:=by simp_all
   split
   .rename_i h
    let(f,g,e1,e2,e3,e4):=uh Z a i m l h;ext qC;rw[e1];dsimp only;split
    .let:=(dC Z (p:=({s with wt:=M (f++[k],g,P)},[])) #[a.sa.ac,a.sa.oc] λ_ _ _ e=>by ext e;show e3).2.2.1;show WU this (show 0+5<=100 by decide)
    .show W0 _
   .let:=IT (b:=b) (p:=bF b (s,[])) (k:=k);ext
end
section
variable{ρ:aP}{ω Y Z:aJ}{x:SV}
def E5(b:o ρ ω=.ok xs Y)(a:lK F n xs Y=.ok x Z):pY F n o ρ ω=.ok x Z:=by ext pY;rw[b,eh,a];rfl
def Fg(sn:G D)(st:D):frz 4 (ω++[.lst (sn.map .fz)]) (.tp [.rf ω.length,.fz st])=M (.tuple [.list sn,st],ω++[.dead]):=by
 let e1:frz 3 (ω++[.lst (sn.map .fz)]) (.rf ω.length)=M (.list sn,ω++[.dead]):=by ext frz;rw[aO];dsimp only;rw[tP];dsimp only;rw[eU]
 let e2:n9 (frz 3) (ω++[.lst (sn.map .fz)]) [.rf ω.length,.fz st]=M ([.list sn,st],ω++[.dead]):=by ext n9;rw[e1];rfl
 ext frz;rw[show([AV.rf ω.length,AV.fz st].map AV.sv)=[.rf ω.length,.fz st]from rfl,e2]
theorem Bp(a:VB b)(f:SW b s)(g:EV b e)(j:fa ρ ω=.ok (.fz (bD b)) ω)(i:fb ρ ω=.ok (.fz (ef s)) ω)(h:fc ρ ω=.ok (.fz (cH e)) ω):kW (pY STP.kQ 3 (ah fa (ah fb (ah fc aH)))) ρ ω=.ok (.fz (.tuple [.list ((bc b s e).2.map mK),ef (bc b s e).1])) (ω++[.dead]):=
 kI (E5 (aj j (aj i (aj h aG))) (Tr a f g)) (Fg _ _)
end
def lO(h:Out r T X)(k:∀a c,T a c->T' a c)(b:∀x,X x->X' x):Out r T' X':=by
 show#[?_];let h:=h.out;cases r with
 |bad=>show h
 |er x o=>show b x h
 |ok a o=>show k a o h
def Js:iu o m fs (a++K)=iu o m fs a++K:=by ext iu;rw[Xb];rfl
theorem Uq{n:Nat}{v:SV}(h:xs[n]?=M v):kP xs (n:Int)=M v:=vh () (by rw[X0];show h)
def FT(b:Bd)(w:G Nat):TP->G ZG->TP->Prop
 |q,[],p=>q=p
 |q,e::r,p=>∃a,FZ b w q e=M a/\FT b w a r p
def On{b:Bd}{w:b5 Nat}{es:b5 ZG}{fs:b5 Te}{n t i j k:Nat}{q:Te}{m:Int}{c:aJ}(B:BT b w es fs t)(h:PSt i j k m (fs.map fF) c)(F:fs[n]?=cL q):∃(J:aJ) (g:b5 ZG),b8 [.rf i,.fz (nd n)] c=.ok (.rf (c.length+1)) (c++J)/\J[1]?=cL (.lst ((g.map cH).map .fz))/\g.length=q.d/\(∀e∈g,e∈es)/\FT b w C8 g q.p:=by
 let lt:=h.lt;rw[V9]at lt;let E:Out (b8 [.rf i,.fz (nd n)] c) (λv u=>∃g:b5 ZG,v=.rf (c.length+1)/\u=c++[.lst ((g.reverse.map cH).map .fz),.lst ((g.map cH).map .fz)]/\g.length=q.d/\(∀e∈g,e∈es)/\FT b w C8 g q.p) (λ_=>False):=by
  show rj W ?_;ext cV;show de (ρ1:=[cL (.rf i),-(nd n),cL (.rf c.length),Ld]) (dL (by ext:0)) W ?_;let K:∀{X:aJ},PSt i j k m (fs.map fF) (c++X):=λ{X}=>by let U:=(Wb.mp h.o).1;let T:=(Wb.mp h.f).1;let S:=(Wb.mp h.n).1;show#[(Wn U).trans h.o,(Wn T).trans h.f,(Wn S).trans h.n,h.jk,h.ij,h.ik,h.lt]
  let I:∀{X:aJ} {o:aP} {f:cU} {a:Nat} {r:Te},o[0]?=cL (cL (.rf i))->f o (c++X)=.ok (.fz (nd a)) (c++X)->fs[a]?=cL r->iS (aN "Places" "found" (am 0)) f o (c++X)=.ok (.fz (vv (fF r))) (c++X):=λ{X o f a r} h0 C A=>xO (fZ (aV h0) K.o jW) C W K.f (Uq (by rw[Wl,Wl,Wl,A];rfl));show de (x:=.fz (vv (fF q))) (ρ1:=[cL (.rf i),-(nd n),cL (.rf c.length),-(vv (fF q))]) (I W (af (ag W)) F) W ?_;show jz (wY (λs o u=>∃(row:b5 ZG) (a:Nat) (r:Te),o=[cL (.rf i),-(nd n),cL (.rf c.length),-(vv (fF r))]/\u=c++[.lst ((row.reverse.map cH).map .fz)]/\fs[a]?=cL r/\row.length=s/\a+s<=n/\row.length+r.d=q.d/\(∀e∈row,e∈es)/\FT b w r.p row q.p) 100000 () #[[],n,q,W,W,F,W,Wg _,Yj _,λe O=>(by ext O),W] ?_);rintro s o u ⟨row,a,r,rfl,rfl,ha,hs,han,hd,hes,p⟩;let Z:=(Wb.mp F).1;by_cases Y:a=0
  .subst Y;rw[B.z]at ha;ext ha;let G:bj (ay (aC jB (aC aQ (aa 3) (~~~1)) (pC .none))) [cL (.rf i),-(nd n),cL (.rf c.length),-(vv (fF SN))] (c++[.lst ((row.reverse.map cH).map .fz)])=.ok V8 (c++[.lst ((row.reverse.map cH).map .fz)]):=a9 (aU (aF (rv:=.fz (.bool V8)) (aF (rv:=.fz .none) (ag W) aw W W gX) aw W W W) W);show .inl #[_,G,?_];show mh ((K3 (xs:=(row.reverse.map cH).map .fz) (aV W) aO).trans (by rw[Wi,Xb,<-aeM,<-aeM,List.reverse_reverse];rfl)) #[row,W,W,hd,hes,p]
  .let(M,H,C,A,y,h4,e,R,Q,P):=B.bk a r ha ();let G:bj (ay (aC jB (aC aQ (aa 3) (~~~1)) (pC .none))) [cL (.rf i),-(nd n),cL (.rf c.length),-(vv (fF r))] (c++[.lst ((row.reverse.map cH).map .fz)])=.ok V6 (c++[.lst ((row.reverse.map cH).map .fz)]):=a9 (aU (aF (rv:=.fz (.bool V6)) (aF (rv:=.fz r.b) (ag W) aw W W gX) aw W W (by rw[y];rfl)) W);show .inr #[by ext,_,G,?_];let L:=kG (ρ:=[cL (.rf i),-(nd n),cL (.rf c.length),-(vv (fF r))]) (fo:=am 2) (fe:=ae (aC aQ (aa 3) (~~~2))) (x:=.fz r.e) (aV W) (aO (l:=c) (x:=Cell.lst ((row.reverse.map cH).map .fz))) (af (aF (rv:=.fz r.e) (ag W) aw W W nM)) aO (by rw[V9,V9,aaK];ext);rw[eU,R,show(row.reverse.map cH).map SV.fz++[.fz (cH e)]=((e::row).reverse.map cH).map SV.fz by rw[Y5,WJ,WJ];rfl]at L;show Ay (fP L) ?_;show x4 (ρ1:=[cL (.rf i),-(nd n),cL (.rf c.length),-(vv (fF H))]) (vg (I W (af (aF (rv:=.fz (nd M)) (ag W) aw W W (by rw[<-y];show gX))) A) W) #[e::row,M,H,W,W,A,by rw[Wo,hs],by ext,by rw[Wo];ext,λf N=>(WE.mp N).elim (λz=>by rw[z];show Q) (hes f),_,P,p]
 let(v,u,C,g,rfl,rfl,y):=E.all;show#[_,g,C,W,y]
abbrev ET(b:Bd)(w:G Nat)(m:Int)(r:aP):aP:=-(bD b)::-(.str (dP w))::-(.int m)::r
abbrev E0(b:Bd)(w:G Nat)(m:Int)(es:G ZG)(l n:Nat)(g f e a:I SV):aP:=(ET b w m [-(.list (es.map cH)),M (.rf l),-(nd n),g,f,e,a])
def Rr(b:Bd)(w:G Nat)(es:G ZG)(m:Int)(x:Xc):Prop:=x=TM m/\∃l:G TP,l.Nodup/\(∀p∈l,∃k,RT b w es k p)/\m<(l.length:Int)
def qp(S:VB b){n:Nat}(x:b.n=n)(z:n<=5)(hw:∀c∈w,c<26)(wl:w.length<=3)(m0:0<=m)(X:m<=1000)(g:aJ):Out (dj [.fz (bD b),.fz (.str (dP w)),.fz (.int m)] g) (λv s=>∃(fs:b5 Te) (k:aJ),v=.rf (g.length+1)/\s=iu (g++[.dead]) m (fs.map fF) k/\BT b w (rR n) fs fs.length/\(fs.length:Int)<=m) (Rr b w (rR n) m):=by
 let Y:(rR n).length<=1000:=by ext rR;rw[Wi,Wi,V9,V9,Xt];show n+n+1<=_;ext
 let ev:=Qt x z;let B:TC b w (rR n):=#[S,yM x,hw,wl];generalize rR n=es at Y ev B;show rj W ?_;let e1:kW (ae (d8 fR 1 {aa 0})) (ET b w m [Ld,Ld,Ld,Ld,Ld,Ld,Ld]) g=.ok (.fz (.list (es.map cH))) (g++[.dead]):=by show kI (dL (eV (ai (ag W) aB) W W ev)) ?_;rw[iZ aO,eU]
 show de e1 W ?_;let O:g.length+1=(g++[Cell.dead]).length:=by rw[Wi];rfl
 rw[O];generalize g++[Cell.dead]=base;let N:=NA (C:= "Places") (F:=ci) (fa:=ah (ae (aY {pC (.tuple [(.tuple []),.none,.none]),~~~0})) (ah (ae (aa 2)) aH)) (ρ:=(ET b w m [-(.list (es.map cH)),Ld,Ld,Ld,Ld,Ld,Ld])) (ω:=base) (aj (af (d:=kT C8) (bU (ai aw (ai aw aB)) W (Wc W))) (aj (af (ag W)) aG)) W;rw[Es (gb (w:=w) #[gA b,W0 _]) m0 X]at N;by_cases mz:m<=0
 .rw[ax mz]at N;show AD (.eq N #[#[W,[C8],XY _ _,λp I=>#[0,WB.mp I],by show m<1;ext]])
 rw[bb mz]at N;show de N W ?_;show de (af aw) W ?_;show jz (wY (λn ρ ω=>∃(fs:b5 Te) (k:aJ) (K E A y:b7 SV),ρ=E0 b w m es base.length n K E A y/\ω=iu base m (fs.map fF) k/\BT b w es fs n/\n<=fs.length/\(fs.length:Int)<=m) 1000 () #[[SN],[],Ld,Ld,Ld,Ld,W,W,VI,W0 _,by show(1:Int)<=m;ext] ?_);rintro n ρ ω ⟨fs,k,K,E,A,y,rfl,rfl,bi,hle,hlm⟩;let P:∀{fs:b5 Te} {k:aJ},(fs.length:Int)<=m->PSt base.length (base.length+1) (base.length+2) m (fs.map fF) (iu base m (fs.map fF) k):=λ{fs k} h=>tJ (by rw[V9];ext);let ff:∀{fs:b5 Te} {k:aJ} {K E A y:b7 SV},(fs.length:Int)<=m->aN "Places" "found" (am 4) (E0 b w m es base.length n K E A y) (iu base m (fs.map fF) k)=.ok (.rf (base.length+1)) (iu base m (fs.map fF) k):=λh=>fZ (aV W) (P h).o jW;let R:Db dY (ah (aN "Places" "found" (am 4)) aH) (E0 b w m es base.length n K E A y) (iu base m (fs.map fF) k)=.ok (.fz (nd fs.length)) (iu base m (fs.map fF) k):=Bf (aj (ff hlm) aG) (by ext av;rw[gf (P hlm).f];rfl) ((fS _).trans (by rw[V9,V9]));let G:=aM (cF (af (f:=aa 5) (ag W)) R (bL (mr (n:Int) (fs.length:Int))));by_cases ZK:n<fs.length
 case neg=>
  rw[bt ()]at G;let e:n=fs.length:=by ext
  subst e;show .inl #[_,G,mh (aV W) #[fs,k,W,W,bi,hlm]]
 case pos=>
  rw[bg ()]at G;show .inr #[by ext,_,G,?_];obtain⟨q,l⟩:∃q,fs[n]?=cL q:=#[_,Ww ZK];let st:iS (iS (aN "Places" "found" (am 4)) (ae (aa 5))) (ae (~~~0)) (E0 b w m es base.length n K E A y) (iu base m (fs.map fF) k)=.ok (.fz (kT q.p)) (iu base m (fs.map fF) k):=cJ (xO (ff hlm) (af (ag W)) W (P hlm).f (Uq (by rw[Wl,Wl,Wl,l];rfl))) (af aw) gG;show de st W ?_;show jz (Py (λi ρ ω=>∃(fs:b5 Te) (k:aJ) (E A y:b7 SV),ρ=E0 b w m es base.length n (-(kT q.p)) E A y/\ω=iu base m (fs.map fF) k/\BT b w es fs n/\fs[n]?=cL q/\(fs.length:Int)<=m/\∀e∈es.take i,Dt b w fs q e) (qj (fO (ag W) W W)) #[fs,k,E,A,y,W,W,bi,l,hlm,λe he=>by ext he] ?_ ?_)
  .clear G R st ZK l hle bi hlm
   rintro i d ρ ω Q ⟨fs,k,E,A,y,rfl,rfl,bi,l,hlm,dn⟩;rw[Wl]at Q;cases qe:es[i]? with
   |none=>rw[qe]at Q;ext Q
   |some e=>
    rw[qe]at Q;cases Wt Q;let L:=WL qe;let M:=B.rw (bi.rw q (WL l));show#[E0 b w m es base.length n (-(kT q.p)) (-(cH e)) A y,_,W,?_];let s1:=Bp (ρ:=E0 b w m es base.length n (-(kT q.p)) (-(cH e)) A y) (ω:=iu base m (fs.map fF) k) S M.1 (B.eb e L) (fa:=ae (aa 0)) (fb:=ae (aC aQ (aa 6) (~~~0))) (fc:=ae (aa 7)) (af (ag W)) (af (aF (ag W) aw W W gG)) (af (ag W));rw[<-Js]at s1;let k1:=AA S M.1 (B.eb e L);let k2:=wW S M.1 (B.eb e L);let dk:=HE hw wl (d:=q.p.2) (by let:=M.2;ext) k1 ();let j:FZ b w q.p e=(C9 w q.p.2 (bc b q.p.1 e).2).map λd=>((bc b q.p.1 e).1,d):=W;show de s1 W ?_;generalize bc b q.p.1 e=u at k1 dk j;generalize k++[Cell.dead]=k;show de (af (eV (ai (ag W) (ai (aF (ag W) aw W W gX) (ai (aF (ag W) aw W W gG) aB))) W W dk)) W ?_;let T:es.take (i+1)=es.take i++[e]:=by rw[Y3,qe];rfl
    cases qd:C9 w q.p.2 u.2 with
    |none=>
     rw[qd]at j;show .eq (gH (a9 (aU (aF (ag W) aw W W W) W)) gq) #[fs,k,_,_,_,W,W,bi,l,hlm,λf a=>?_];rw[T]at a;rcases Xd.mp a with a|a
     .show dn f a
     .rw[WB.mp a];intro p I;rw[j]at I;ext I
    |some d=>
     rw[qd]at j;let t2:bj (ay (aC jB (aa 9) (pC .none))) (E0 b w m es base.length n (-(kT q.p)) (-(cH e)) (-(.tuple [.list (u.2.map mK),ef u.1])) (-(Uw (cL d)))) (iu base m (fs.map fF) k)=.ok V6 (iu base m (fs.map fF) k):=a9 (aU (aF (ag W) aw W W W) W);let pn:=B.nx M L j;let H:=AL (F:=bM) (fo:=am 4) (fa:=ah (ae (aY {aC aQ (aa 8) (~~~1),aa 9})) (ah (ae (aa 5)) (ah (ae (aa 7)) aH))) (ρ:=E0 b w m es base.length n (-(kT q.p)) (-(cH e)) (-(.tuple [.list (u.2.map mK),ef u.1])) (-(Uw (cL d)))) (ω:=iu base m (fs.map fF) k) (aV W) (P hlm).o sX (aj (af (d:=kT (u.1,d)) (bU (ai (aF (ag W) aw W W gX) (ai (ag W) aB)) W (Wc W))) (aj (af (ag W)) (aj (af (ag W)) aG))) W;rw[sH (P hlm) (wc () X) X (gb pn)]at H;show .eq (eX t2 W) (FY ?_);cases qi:gW (fs.map fF) (kT (u.1,d))with
     |some t=>
      rw[qi]at H;show .eq H #[fs,k,_,_,_,W,W,bi,l,hlm,λf a=>?_];rw[T]at a;rcases Xd.mp a with a|a
      .show dn f a
      .rw[WB.mp a];show bi.old B l L j qi
     |none=>
      rw[qi]at H;rw[V9]at H;let Z:=bi.new B l L j qi;by_cases hm:m<=(fs.length:Int)
      .rw[ax hm]at H
       show .eq H #[W,_,Z.un,λp I=>?_,?_]
       .let(r,hr,rfl):=WM.mp I;show#[r.d,Z.rw r hr]
       .rw[V9,Wi];show m<((fs.length+1:Nat):Int);ext
      .rw[bb hm,Ag]at H
       let U:=(Wb.mp l).1;show .eq H #[fs++[#[(u.1,d),nd n,cH e,q.d+1]],k,_,_,_,W,by rw[WJ];rfl,Z,(Wn U).trans l,?_,λf a=>?_]
       .rw[Wi];show((fs.length+1:Nat):Int)<=m;ext
       .rw[T]at a
        rcases Xd.mp a with a|a
        .show(dn f a).mono _
        .rw[WB.mp a];intro p I;rw[j]at I;ext I;show#[_,WY _ Wh,W,Wg _]
  .rintro ρ ω ⟨fs,k,E,A,y,rfl,rfl,bi,l,hlm,dn⟩;rw[V9,YM]at dn;let U:=(Wb.mp l).1;show x4 (Qz (ω3:=[]) W (af aw) (bL W)) #[fs,k,_,_,_,_,W,W,bi.next l dn,U,hlm]
section
variable{b:Bd}{w:b5 Nat}{es:b5 ZG}{fs gs:b5 Te}
def BT.len(h:BT b w es fs fs.length){l:G TP}(a:l.Nodup)(e:∀p∈l,∃k,RT b w es k p):l.length<=fs.length:=by
 let:=rL a λp f=>by let(k,g):=e p f;let(r,j,i,_):=h.all (Wg _) k p g;show WM.mpr #[r,j,i]
 rw[V9]at this;show this
def BT.one(h:BT b w es fs fs.length)(c:BT b w es gs gs.length):fs.length=gs.length:=by
 let g:=h.len c.un λp e=>by let(r,a,rfl):=WM.mp e;show#[_,c.rw r a]
 let f:=c.len h.un λp e=>by let(r,a,rfl):=WM.mp e;show#[_,h.rw r a]
 rw[V9]at g f;ext
def BT.uniq(h:BT b w es fs n)(l:q∈fs)(g:r∈fs)(e:q.p=r.p):q=r:=by let(i,m):=Xi.mp l;let(j,a):=Xi.mp g;let f:=(Wb.mp m).1;let:i=j:=(aea (show i<(fs.map (·.p)).length by rw[V9];show f) h.un).mp (by rw[Wl,Wl,m,a];show d7 M e);subst this;rw[m]at a;show Wt a
def BT.min(h:BT b w es fs fs.length)(a:q∈fs)(e:RT b w es k q.p):q.d<=k:=by let(r,i,g,f):=h.all (Wg _) k _ e;rw[h.uniq a i g.symm];show f
def BT.ahG(h:BT b w es fs fs.length)(c:BT b w es gs gs.length)(f:q∈fs)(a:r∈gs)(e:q.p=r.p):q.d=r.d:=by let i:=h.min f (by rw[e];show c.rw r a);let g:=c.min a (by rw[<-e];show h.rw q f);ext
end
def VW(b:Bd)(w:G Nat)(es:G ZG)(m:Int)(c:aJ)(v:SV)(f:aJ):Prop:=∃fs:G Te,BT b w es fs fs.length/\(fs.length:Int)<=m/\((v=.fz .none/\∀q∈fs,q.p≠(br,w.length))\/∃(i:Nat) (a:G ZG) (q:Te),v=.rf i/\f[i]?=M (.lst ((a.map cH).map .fz))/\q∈fs/\q.p=(br,w.length)/\a.length=q.d/\(∀e∈a,e∈es)/\FT b w C8 a q.p)
def mS{b:Bd}(y:VB b){n:Nat}(s:b.n=n)(Y:n<=5){w:b5 Nat}(G:∀c∈w,c<26)(r:w.length<=3){m:Int}(S:0<=m)(R:m<=1000)(k:aJ):Out (cR [.fz (bD b),.fz (.str (dP w)),.fz (.int m)] k) (VW b w (rR n) m k) (Rr b w (rR n) m):=by
 let B:TC b w (rR n):=#[y,yM s,G,r];show rj W ?_;ext lX;let ca:=wL (F:=dj) (es:=[]) (fa:=ah (ae (aa 0)) (ah (ae (aa 1)) (ah (ae (aa 2)) aH))) (ρ:=(ET b w m [Ld,Ld])) (ω:=k) (n:=3) (aj (af (ag W)) (aj (af (ag W)) (aj (af (ag W)) aG))) W;show AD (.eq ca ((qp y s Y G r S R k).imp λv I U=>?_));let(fs,J,rfl,rfl,l,a):=U;let f:k.length+1=(k++[Cell.dead]).length:=by rw[Wi];rfl
 rw[f];generalize k++[Cell.dead]=base;let P:PSt base.length (base.length+1) (base.length+2) m (fs.map fF) (iu base m (fs.map fF) J):=tJ (by rw[V9];ext);let T:=xy (w:=w) ();show lf (aD _ _ (ET b w m [cL (.rf base.length),Ld]) _) _ _ _;show de (ρ1:=(ET b w m [cL (.rf base.length),-(kT (br,w.length))])) (af (d:=kT (br,w.length)) (bU (ds:=[ef br,nd w.length]) (ai aw (ai (eY (rv:=.fz (nd w.length)) (ai (ag W) aB) W T) aB)) W (Wc W))) W ?_;let j:TW b w (br,w.length):=#[gA b,Wg _];let g:=vY (gb j);let H:aN "Places" "numbers" (am 3) (ET b w m [cL (.rf base.length),-(kT (br,w.length))]) (iu base m (fs.map fF) J)=.ok (.rf (base.length+2)) (iu base m (fs.map fF) J):=fZ (aV W) P.o nc;let A:∀{o:aJ},ae (aa 4) (ET b w m [cL (.rf base.length),-(kT (br,w.length))]) o=.ok (.fz (kT (br,w.length))) o:=af (ag W);let i:=aM (A7 (neg:=V6) A H g P.n);rw[iy]at i;cases ht:gW (fs.map fF) (kT (br,w.length))with
 |none=>rw[ht]at i;show Hc i (zJ (af aw) #[fs,l,a,.inl #[W,λq X e=>?_]]);let:=pZ ht (fF q) (WM.mpr #[q,X,W]);rw[show(fF q).p=kT (br,w.length) by show kT q.p=_;rw[e],oy (gb j)]at this;ext this
 |some t=>
  rw[ht]at i;show uX i (oM ?_);let(x,h,Z):=yW ht;rw[Wl]at h;cases z:fs[t]? with
  |none=>rw[z]at h;ext h
  |some u=>
   rw[z]at h;ext h;let C:=WL z;let E:=B.rw (l.rw u C);let O:=xG B E j (LD.kd_eqv _ _ (LD.keyD_kd (gb E)).1 (LD.keyD_kd (gb j)).1 Z);let(K,YJ,N,M,L):=On l P z;let gg:gZ (iq 0 (fs.map fF)) (kT (br,w.length))=cL (nd t):=by rw[iy,ht];show cL (nd (0+t))=_;rw[Yj]
   let Q:aI "Places" "way_to" b8 2 (am 3) (ah (jH (aN "Places" "numbers" (am 3)) (ae (aa 4))) aH) (ET b w m [cL (.rf base.length),-(kT (br,w.length))]) (iu base m (fs.map fF) J)=.ok (.rf ((iu base m (fs.map fF) J).length+1)) (iu base m (fs.map fF) J++K):=Az (aV W) P.o (by rfl) (aj (xa H A g P.n gg) aG) W N;show mh Q #[fs,l,a,.inr #[_,YJ,u,W,xj.trans M,C,O,L]]
def IA(a:Out (e ρ ω) (λv c=>∃(i:Nat) (fs:G (Str×SV)) (j:Nat) (ds:G D),v=.rf i/\c[i]?=M (.obj C fs)/\fs.lookup f=M (.rf j)/\c[j]?=M (.lst (ds.map .fz))/\T ds (c.set j .dead)) X):Out (ia (aN C f e) ρ ω) T X:=by
 let h:=a.out;show#[?_];cases q:e ρ ω with
 |bad=>rw[q]at h;show h.elim
 |er x o=>
  rw[q]at h;let:ia (aN C f e) ρ ω=.er x o:=by unfold ia aN;rw[q];rfl
  rw[this];show h
 |ok v o=>rw[q]at h;let(i,fs,j,ds,rfl,m,l,g,b):=h;rw[yi (fZ q m l) g];show b
def C5(q:Te):D:=.tuple [ef q.p.1,nd q.p.2,nd q.d]
def xU{b:Bd}(R:VB b){n:Nat}(z:b.n=n)(V:n<=5){w:b5 Nat}(hw:∀c∈w,c<26)(Q:w.length<=3){m:Int}(Y:0<=m)(U:m<=1000)(e:aJ):Out (fq [.fz (bD b),.fz (.str (dP w)),.fz (.int m)] e) (λv s=>∃(fs:b5 Te) (i:Nat),BT b w (rR n) fs fs.length/\(fs.length:Int)<=m/\v=.rf i/\s[i]?=cL (.lst ((fs.map C5).map .fz))) (Rr b w (rR n) m):=by
 show rj W ?_;ext dH;show de (ρ1:=(ET b w m [cL (.rf e.length),Ld,Ld,Ld,Ld,Ld])) (dL (by ext:0)) W ?_;show de (ρ1:=(ET b w m [cL (.rf e.length),cL (.rf (e.length+1)),Ld,Ld,Ld,Ld])) ((dL (by ext:0)).trans (by rw[Wi];rfl)) W ?_;let N:(e++[Cell.lst (([]:b5 D).map .fz)]++[Cell.lst (([]:b5 D).map .fz)])[e.length]?=cL (.lst []):=by rw[Xb];show xj (t:=0)
 let M:(e++[Cell.lst (([]:b5 D).map .fz)]++[Cell.lst (([]:b5 D).map .fz)])[e.length+1]?=cL (.lst []):=by rw[Xb];show xj (t:=1)
 let A:(e++[Cell.lst (([]:b5 D).map .fz)]++[Cell.lst (([]:b5 D).map .fz)]).length=e.length+2:=by rw[Wi,Wi];rfl
 generalize e++[Cell.lst (([]:b5 D).map .fz)]++[Cell.lst (([]:b5 D).map .fz)]=p at N M A;let ca:=wL (F:=dj) (es:=[]) (fa:=ah (ae (aa 0)) (ah (ae (aa 1)) (ah (ae (aa 2)) aH))) (ρ:=(ET b w m [cL (.rf e.length),cL (.rf (e.length+1)),Ld,Ld,Ld,Ld])) (ω:=p) (n:=3) (aj (af (ag W)) (aj (af (ag W)) (aj (af (ag W)) aG))) W;show jz (Out.bind (IA (C:= "Places") (f:= "found") (.eq ca ((qp R z V hw Q Y U p).imp λv s hv=>?_))));let(fs,J,rfl,rfl,I,H):=hv;let P:PSt (p++[Cell.dead]).length ((p++[Cell.dead]).length+1) ((p++[Cell.dead]).length+2) m (fs.map fF) (iu (p++[.dead]) m (fs.map fF) J):=tJ (by rw[V9];ext);let bl:(p++[Cell.dead]).length=e.length+3:=by rw[Wi,A];rfl
 show#[_,_,_,fs.map λq=>vv (fF q),by rw[bl,A],P.o,jW,by rw[W2];let:=P.f;rw[W2,W2]at this;show this,?_];let g0:((iu (p++[.dead]) m (fs.map fF) J).set ((p++[Cell.dead]).length+1) .dead)[e.length]?=cL (.lst []):=by rw[W3 ()];ext iu;rw[Wn (),Wn ()];show N
 let O:((iu (p++[.dead]) m (fs.map fF) J).set ((p++[Cell.dead]).length+1) .dead)[e.length+1]?=cL (.lst []):=by rw[W3 ()];ext iu;rw[Wn (),Wn ()];show M
 generalize (iu (p++[.dead]) m (fs.map fF) J).set ((p++[Cell.dead]).length+1) .dead=ω2 at g0 O;let go:=ug (gt:=OW 3 (lL (eK 5) (lL (eK 6) (lL (eK 7) yp)))) (T:=λv s=>∃(fs:b5 Te) (i:Nat),BT b w (rR n) fs fs.length/\(fs.length:Int)<=m/\v=.rf i/\s[i]?=cL (.lst ((fs.map C5).map .fz))) (X:=Rr b w (rR n) m) (b:=(aD (bX (Fi (bj (ay (aC kj (aa 6) (pC .none)))) (ae (~~~0)) (jp cT (iS (am 3) (ae (aa 6))) (ae (~~~1)))) (eK 8)) (aD (bf (ki (am 3) (ae (aa 8)))) (bf (ki (am 4) (ae (aY {aC aQ (aa 5) (~~~0),aC aQ (aa 5) (~~~1),aa 8}))))))) (λi ρ s=>∃G E B u:b7 SV,ρ=(ET b w m [cL (.rf e.length),cL (.rf (e.length+1)),G,E,B,u])/\s[e.length]?=cL (.lst (((fs.take i).map λq=>nd q.d).map .fz))/\s[e.length+1]?=cL (.lst (((fs.take i).map C5).map .fz))) (fs.map λq=>vv (fF q)) 0 (ET b w m [cL (.rf e.length),cL (.rf (e.length+1)),Ld,Ld,Ld,Ld]) ω2 #[Ld,Ld,Ld,Ld,W,g0,O] (by
  rintro i d ρ s y ⟨G,E,B,u,rfl,g,l⟩;rw[Yj]at g l⊢;rw[Wl]at y;cases qi:fs[i]? with
  |none=>rw[qi]at y;ext y
  |some q=>
   rw[qi]at y;cases Wt y;let il:=(Wb.mp qi).1;show#[(ET b w m [cL (.rf e.length),cL (.rf (e.length+1)),-(kT q.p),-(q.b),-(q.e),u]),s,W,?_];let S:Fi (bj (ay (aC kj (aa 6) (pC .none)))) (ae (~~~0)) (jp cT (iS (am 3) (ae (aa 6))) (ae (~~~1))) (ET b w m [cL (.rf e.length),cL (.rf (e.length+1)),-(kT q.p),-(q.b),-(q.e),u]) s=.ok (.fz (nd q.d)) s:=by
    by_cases i0:i=0
    .subst i0;rw[I.z]at qi;ext qi;show Bq (a9 (aU (aF (rv:=.fz (.bool V6)) (ag W) aw W W W) W)) (af aw)
    .let(j,r,h1,h2,h3,h4,_):=I.bk i q qi ();rw[h3];show zU (a9 (aU (aF (rv:=.fz (.bool V8)) (ag W) aw W W W) W)) ?_;show(cF (xO (aV W) (af (d:=nd j) (ag W)) W g (Uq (v:=.fz (nd r.d)) ?_)) (af aw) (bL (i4 (r.d:Int) 1))).trans (by rw[h4];rfl);rw[Wl,Wl,acd h1,h2];rfl
   show de (ρ1:=(ET b w m [cL (.rf e.length),cL (.rf (e.length+1)),-(kT q.p),-(q.b),-(q.e),-(nd q.d)])) S W ?_;let ap:=kG (ρ:=(ET b w m [cL (.rf e.length),cL (.rf (e.length+1)),-(kT q.p),-(q.b),-(q.e),-(nd q.d)])) (fo:=am 3) (fe:=ae (aa 8)) (x:=.fz (nd q.d)) (aV W) g (af (ag W)) g (by rw[V9,V9,Xl];ext);show Ay (fP ap) ?_;let l0:=(Wb.mp g).1;let Z:=(Wb.mp l).1;let h:=(W3 (a:=Cell.lst (((fs.take i).map λq=>nd q.d).map SV.fz++[.fz (nd q.d)])) (show e.length≠e.length+1 by ext)).trans l;let K:=kG (ρ:=(ET b w m [cL (.rf e.length),cL (.rf (e.length+1)),-(kT q.p),-(q.b),-(q.e),-(nd q.d)])) (fo:=am 4) (fe:=ae (aY {aC aQ (aa 5) (~~~0),aC aQ (aa 5) (~~~1),aa 8})) (x:=.fz (C5 q)) (aV W) h (af (bU (ds:=[ef q.p.1,nd q.p.2,nd q.d]) (ai (aF (rv:=.fz (ef q.p.1)) (ag W) aw W W gG) (ai (aF (rv:=.fz (nd q.p.2)) (ag W) aw W W gX) (ai (ag W) aB))) W (Wc W))) h (by rw[V9,V9,Xl];ext);let L:fs.take (i+1)=fs.take i++[q]:=by rw[Y3,qi];rfl
   show x4 (fP K) #[_,_,_,_,W,?_,?_]
   .rw[W3 (),Xm l0,L,WJ,WJ];rfl
   .rw[Xm (by rw[Xp];show Z),L,WJ,WJ];rfl)
 rw[Yj,V9,YM]at go;show go.imp λfl o k=>?_;cases fl with
 |nx r=>let(G,E,B,u,rfl,g,l):=k;show mh (aV W) #[fs,_,I,H,W,l]
 |rt v=>show k
 |ct r=>show k.elim
 |bk r=>show k.elim
def LA(j:VB b)(es:G ZG)(y:es.length<=1000)(m:∀e∈es,EV b e):∃c,oJ [.fz (bD b),.fz (.list (es.map cH))] []=.ok (.tp [.rf 0,.fz (ef (cN b br es).1)]) c/\sh c (.rf 0)=M (.list (vx (cN b br es).2)):=by
 show gR W ?_;show gc (af (show _=Res.ok (PV.fz (.tuple [.tuple [],.none,.none]),_)from aw)) W ?_;show gc (dL (by ext:0)) W ?_;show mO (Pk (λi C B=>∃(f a:I SV) (J:aJ),C=[-(bD b),-(.list (es.map cH)),-(ef (cN b br (es.take i)).1),M (.rf 0),f,a]/\B=.lst ((vx (cN b br (es.take i)).2).map .fz)::J) (qj (fO (ag W) W W)) #[_,_,[],W,W] ?_ ?_)
 .rintro i d C B A ⟨f,a,J,rfl,rfl⟩
  rw[Wl]at A;cases q:es[i]? with
  |none=>rw[q]at A;ext A
  |some e=>
   rw[q]at A;cases Wt A;show#[_,_,W,?_];let g:=m e (WL q);let o:SW b (cN b br (es.take i)).1:=uj j _ (gA b) λe h=>m e (aay h);let(r,v):=uP b es br i e q;let n:(cN b br (es.take (i+1))).2=(cN b br (es.take i)).2++[(bc b (cN b br (es.take i)).1 e).2]:=by rw[Y3,q,wV];rfl
   let w:(cN b br (es.take i)).2.length<=1000:=by rw[ph,Xl];ext
   rw[r,n];let l:=Bp (ρ:=[-(bD b),-(.list (es.map cH)),-(ef (cN b br (es.take i)).1),M (.rf 0),-(cH e),a]) (ω:=.lst ((vx (cN b br (es.take i)).2).map .fz)::J) j o g (fa:=ae (aa 0)) (fb:=ae (aa 2)) (fc:=ae (aa 4)) (af (ag W)) (af (ag W)) (af (ag W));generalize bc b (cN b br (es.take i)).1 e=p at l;show gc l W ?_;let u:aQ (.tuple [.list (p.2.map mK),ef p.1]) (.int 0)=-(.list (p.2.map mK)):=gG;let t:aQ (.tuple [.list (p.2.map mK),ef p.1]) (.int 1)=-(ef p.1):=gX;show i9 (ω1:=Cell.lst ((vx ((cN b br (es.take i)).2++[p.2])).map .fz)::(J++[Cell.dead])) ((kG (aV W) W (af (aF (ag W) aw W W u)) W (by rw[V9,Eg];ext)).trans (by ext vx;rw[WJ,WJ];rfl)) ?_;show Dp (af (aF (ag W) aw W W t)) W #[_,_,_,W,W]
 .rintro C B ⟨f,a,J,rfl,rfl⟩;rw[V9,YM];show Dr (MM (aj (aV W) (aj (af (ag W)) aG)) (Wc W) W W) #[W,gf W]
def Rc(f:VB b)(es:G ZG)(g:es.length<=1000)(h:∀e∈es,EV b e):pX [bD b,.list (es.map cH)]=.ok (.fz (.tuple [.list (vx (cN b br es).2),ef (cN b br es).1])):=by let(a,j,i):=LA f es g h;unfold pX TF;rw[show[bD b,.list (es.map cH)].map SV.fz=[.fz (bD b),.fz (.list (es.map cH))]from rfl,j];dsimp only;ext av;rw[show TQ a (.rf 0)=M (.list (vx (cN b br es).2))from i];rfl
theorem Ht{b:Bd}{w:G Nat}:∀(row:G ZG) {q p:TP},FT b w q row p->(cN b q.1 row).1=p.1/\q.2<=p.2/\((cN b q.1 row).2.map jt).flatten=(w.drop q.2).take (p.2 - q.2)
 |[],q,p,h=>by rw[show q=p from h];show#[W,Wg _,by rw[acW,List.take_zero];rfl]
 |e::r,q,p,#[j,h1,i]=>by
  unfold FZ at h1;cases z:C9 w q.2 (bc b q.1 e).2 with
  |none=>rw[z]at h1;ext h1
  |some d=>
   rw[z]at h1;ext h1;let(g,a,f):=Ht r i;unfold C9 at z;split at z
   .rename_i c;ext z;show#[g,WU (abu _ _) a,?_];show jt (bc b q.1 e).2++((cN b (bc b q.1 e).1 r).2.map jt).flatten=_;rw[f];dsimp only at a⊢;rw[show p.2 - q.2=(jt (bc b q.1 e).2).length+(p.2 - (q.2+(jt (bc b q.1 e).2).length)) by ext,List.take_add,c,List.drop_drop]
   .ext z
def Di{x:Str}(h:x= "down"\/x= "up"):mn (.str x) (.tuple [.str "down",.str "up"])=-(.bool R):=by
 show(if(iH (.str x)&&(Wa.strOk "down"&&(Wa.strOk "up"&&S)))=S then M (RV.fz (.bool (!(Wa.eqv (.str "down") (.str x)||(Wa.eqv (.str "up") (.str x)||false)))))else P)=_;rw[show Wa.strOk "down"=S by left,show Wa.strOk "up"=S by left];rcases h with rfl|rfl
 .rw[show iH (.str "down")=S by left,show Wa.eqv (.str "down") (.str "down")=S by left];rfl
 .rw[show iH (.str "up")=S by left,show Wa.eqv (.str "up") (.str "up")=S by left,YL,Zw];rfl
abbrev oT:L3.FT:=nQ (ay (aC mG (aa 3) (aY {pC (.str "turn"),~~~0}))) (Ph (ay (aC mn (aC aQ (aa 3) (~~~0)) (aY {pC (.str "down"),pC (.str "up")}))) (wv (ay (kS Q8 PB (~~~0) (aC aQ (aa 3) (~~~1)) (aC aQ (aa 0) (~~~0))))))
def Px{b:Bd}{e:ZG}(i:EV b e)(c:aL)(m:c[0]?=M (zf (bD b)))(g:c[3]?=M (zf (cH e))):oT c=.ok (R,c):=by
 let h:aY {pC (.str "turn"),~~~0} c=.ok (.fz (.tuple [.str "turn",.int 0]),c):=bU (ai aw (ai aw aB)) W (Wc W);let p:aY {pC (.str "down"),pC (.str "up")} c=.ok (.fz (.tuple [.str "down",.str "up"]),c):=bU (ai aw (ai aw aB)) W (Wc W);let f:∀(x:Str) (k:Nat),cH e=.tuple [.str x,nd k]->(k:Int)<b.n->mG (.tuple [.str x,nd k]) (.tuple [.str "turn",.int 0])=-(.bool S)->mn (.str x) (.tuple [.str "down",.str "up"])=-(.bool R)->oT c=.ok (R,c):=λx k o l ne j=>by rw[o]at g;show on (a:=S) (b:=R) (aU (aF (rv:=.fz (.bool S)) (ag g) h W W ne) W) λ_=>EW (a:=R) (b:=R) (aU (aF (rv:=.fz (.bool R)) (aF (rv:=.fz (.str x)) (ag g) aw W W gG) p W W j) W) λ_=>uS (a:=S) (aU (wS (dx:=.int 0) (dy:=nd k) (dz:=.int b.n) aw (aF (rv:=.fz (nd k)) (ag g) aw W W gX) (aF (rv:=.fz (.int b.n)) (ag m) aw W W (Sv b)) W W W ((GR 0 (k:Int)).trans (by rw[bg ()])) (λ_=>(mr (k:Int) b.n).trans (by rw[bg l]))) W)
 cases e with
 |turn=>show on (a:=R) (b:=S) (aU (aF (rv:=.fz (.bool R)) (ag g) h W W (zR (d:=.tuple [.str "turn",.int 0]) (by left))) W) λq=>nomatch q
 |down k=>
  show f "down" k W i ?_ ?_
  .ext mG;rw[show iH (.tuple [.str "down",nd k])=S from rP (by show(Wa.strOk "down"&&(S&&S))=S;left) (Wc W),show Wa.canLay0 (.tuple [.str "turn",.int 0])=S by left,Xv,ax W];rw[show Wa.eqv (.tuple [.str "down",nd k]) (.tuple [.str "turn",.int 0])=R by rw[Wa.eqv,Wa.eqvAll,Wa.eqv,show(("down":Str)== "turn")=R by left];rfl];rfl
  .show Di (.inl W)
 |up k=>
  show f "up" k W i ?_ ?_
  .ext mG;rw[show iH (.tuple [.str "up",nd k])=S from rP (by show(Wa.strOk "up"&&(S&&S))=S;left) (Wc W),show Wa.canLay0 (.tuple [.str "turn",.int 0])=S by left,Xv,ax W];rw[show Wa.eqv (.tuple [.str "up",nd k]) (.tuple [.str "turn",.int 0])=R by rw[Wa.eqv,Wa.eqvAll,Wa.eqv,show(("up":Str)== "turn")=R by left];rfl];rfl
  .show Di (.inr W)
abbrev EY(b:Bd)(w:G Nat)(a:G ZG)(r:aL):aL:=zf (bD b)::zf (.str (dP w))::zf (.list (a.map cH))::r
def EE{b:Bd}(l:VB b){w:b5 Nat}(G:∀c∈w,c<26)(v:w.length<=3){f:b5 ZG}(H:f.length<=1000)(m:∀e∈f,EV b e)(y:FT b w C8 f (br,w.length)):cQ [bD b,.str (dP w),.list (f.map cH)]=.ok (.fz (.bool S)):=by
 let(n,_,j):=Ht f y;let p:=Rc l f H m;let n:(cN b br f).1=br:=n;rw[n]at p;let B:=ph b f br;let sn:∀x∈(cN b br f).2,Zt x/\x.length<=100:=by intro x F;let(i,Y):=Xi.mp F;let u:=(Wb.mp Y).1;rw[B]at u;let C:=(uP b f br i f[i] (Ww u)).2;rw[Y]at C;let A:=uj l (f.take i) (gA b) λe h=>m e (aay h);let ev:=m _ (abi u);cases Wt C;show#[AA l A ev,wW l A ev]
 let j:((cN b br f).2.map jt).flatten=w:=j.trans (by show(w.drop 0).take (w.length - 0)=w;rw[abQ,acT,YM]);generalize (cN b br f).2=L at p B sn j;let t:∃X,gw 8 dS [bD b,.str (dP w),.list (f.map cH)]=.ok X/\X=.fz (.bool S):=by
  show pz (T:=λX=>X=.fz (.bool S)) (ρ:=(EY b w f [P,P,P,P,P])) W ?_;ext dS;show nt (b:=R) (uS (a:=S) (aU (DF (dx:=.list (f.map cH)) (ag W) W W) W)) (λq=>nomatch q) (λ_=>fG ?_);show xK (λ_ Q=>∃o,Q=(EY b w f [o,P,P,P,P])) (ds:=f.map cH) (fO (d:=.list (f.map cH)) (ag W) W W) #[P,W] ?_ ?_
  .rintro i d Q g ⟨o,rfl⟩
   rw[Wl]at g;cases N:f[i]? with
   |none=>rw[N]at g;ext g
   |some e=>rw[N]at g;cases Wt g;show#[(EY b w f [zf (cH e),P,P,P,P]),W,?_];show Mz (b:=R) (Px (m e (WL N)) _ W W) (λq=>nomatch q) (λ_=>zy #[_,W])
  rintro Q ⟨o,rfl⟩;show cK (ρ3:=(EY b w f [o,zf (.list (vx L)),zf (ef br),P,P])) (eV (rv:=.fz (.tuple [.list (vx L),ef br])) (ai (ag W) (ai (ag W) aB)) W W p) W W ?_;show cK (ρ3:=(EY b w f [o,zf (.list (vx L)),zf (ef br),zo [],P])) (by ext:0) W W ?_;show xK (λi Q=>∃r,Q=(EY b w f [o,zf (.list (vx L)),zf (ef br),zo ((((L.take i).map jt).flatten).map λc=>.str (dM c)),r])) (ds:=vx L) (fO (d:=.list (vx L)) (ag W) W W) #[P,W] ?_ ?_
  .rintro i d Q g ⟨r,rfl⟩
   unfold vx at g;rw[Wl]at g;cases N:L[i]? with
   |none=>rw[N]at g;ext g
   |some x=>
    rw[N]at g;cases Wt g;let xs:=sn x (WL N);let cm:=vF (sn:=x) ();let J:(((L.take i).map jt).flatten).length<=w.length:=by
     rw[<-j]
     conv=>rhs;rw[<-List.take_append_drop i L]
     rw[WJ,adC,Wi];show abu _ _
    let K:=Al x;show#[(EY b w f [o,zf (.list (vx L)),zf (ef br),zo ((((L.take i).map jt).flatten).map λc=>.str (dM c)),zf (.list (x.map mK))]),W,?_];show tW (L10.Qd (i:=6) (es:=(jt x).map λc=>.str (dM c)) W (dh (cs:=[]) (ds:=x.map mK) (fO (d:=.list (x.map mK)) (ag W) W W) W cm) W (by rw[V9,V9];let:=v;ext)) #[zf (.list (x.map mK)),?_];rw[Y3,N,WJ,adC,WJ];show _=(EY b w f [o,zf (.list (vx L)),zf (ef br),zo (_++([jt x].flatten).map λc=>.str (dM c)),zf (.list (x.map mK))]);rw[List.flatten_singleton];rfl
  rintro Q ⟨r,rfl⟩;rw[Eg,YM,j];let E:=uM (w:=w) ();let I:cC (.str (dP w)) (.str (dP w))=-(.bool S):=STP.oU (rP (xN G) (by show 0<=64;decide));let er:cC (ef br) (.tuple [.tuple [],.none,.none])=-(.bool S):=STP.oU (FD (gA b));show fu (rv:=.fz (.bool S)) (oV (a:=S) (b:=S) (aU (aF (rv:=.fz (.bool S)) (G7 (rv:=.fz (.str (dP w))) aw W (ai (mH W) aB) W E) (ag W) W W I) W) λ_=>aF (rv:=.fz (.bool S)) (ag W) (bU (ds:=[.tuple [],.none,.none]) (ai (bU aB W (Wc W)) (ai aw (ai aw aB))) W (Wc W)) W W er) W W
 let(X,h,rfl):=t;show h
def om(a:G Int)(k:Int)(e:0<=k):∃c:Int,cw [.list (a.map .int),.int k]=.ok (.fz (.int c)):=by
 obtain⟨n,rfl⟩:∃n:Nat,k=(n:Int):=#[k.toNat,by ext];let b:dY [.list (a.map .int)]=-(nd a.length):=(fS _).trans (by simp_all);by_cases h:n<a.length
 .show#[a[n],iW (ρ:=[-(.list (a.map .int)),-(nd n)]) W (fu (pv:=.fz (.int a[n])) (rv:=.fz (.int a[n])) (Nr (aU (aF (rv:=.fz (.bool S)) (ag W) (eY (rv:=.fz (nd a.length)) (ai (ag W) aB) W b) W W ?_) W) (aF (rv:=.fz (.int a[n])) (ag W) (ag W) W W (V2 ?_))) W W)]
  .rw[mr,bg ()]
  simp_all
 .show#[0,iW (ρ:=[-(.list (a.map .int)),-(nd n)]) W (fu (pv:=.fz (.int 0)) (rv:=.fz (.int 0)) (O9 (aU (aF (rv:=.fz (.bool R)) (ag W) (eY (rv:=.fz (nd a.length)) (ai (ag W) aB) W b) W W ?_) W) aw) W W)];rw[mr,bt ()]
theorem Vc{i j:Int}(h: -2^64<i/\i<2^64):ie (.int i) (.int j)=-(.int (i*j)):=JH h
theorem UX{i j:Int}(h: -2^64<j/\j<2^64):ie (.int i) (.int j)=-(.int (i*j)):=K8 h
def Ax(x s m:Int):Int:=((x % 1000033+s)*(s+521) % 1000033*((x % 1000033+s)*(s+521) % 1000033)+x/1000033+7*s) % 999983/3 % m
theorem jM{x s m:Int}(hm:0<m):0<=Ax x s m/\Ax x s m<m:=#[afs _ (),aed _ hm]
def fK(x:Int){s m:Int}(p:0<=s)(o:s<1000)(hm:0<m):aZ [.int x,.int s,.int m]=.ok (.fz (.int (Ax x s m))):=by ext Ax;let n:qU (.int x) (.int 1000033)=-(.int (x % 1000033)):=tT ();let f:ie (.int (x % 1000033+s)) (.int (s+521))=-(.int ((x % 1000033+s)*(s+521))):=UX #[by ext,by ext];generalize (x % 1000033+s)*(s+521)=y at f;let e:qU (.int y) (.int 1000033)=-(.int (y % 1000033)):=tT ();let g:0<=y % 1000033/\y % 1000033<1000033:=#[afs _ (),aed _ ()];generalize y % 1000033=z at e g;let b:ie (.int z) (.int z)=-(.int (z*z)):=UX #[by ext,by ext];let l:yS (.int x) (.int 1000033)=-(.int (x/1000033)):=E1 #[by decide,by decide];let j:ie (.int 7) (.int s)=-(.int (7*s)):=Vc #[by decide,by decide];generalize z*z=u at b;let a:qU (.int (u+x/1000033+7*s)) (.int 999983)=-(.int ((u+x/1000033+7*s) % 999983)):=tT ();generalize (u+x/1000033+7*s) % 999983=v at a;let i:yS (.int v) (.int 3)=-(.int (v/3)):=E1 #[by decide,by decide];let h:qU (.int (v/3)) (.int m)=-(.int (v/3 % m)):=tT hm;show iW (ρ:=[-(.int x),-(.int s),-(.int m),P]) W (yr (Fb (by ext:0) W (yr (Fb (by ext:0) W (fu (by ext:0) W W)))))
def NG{z:Str}{cs:G Nat}(d:z.cps.toList=cs.map (97+·))(a:z.length<=1000000){r:Int}{c:Nat}(b:0<=r)(h:cs[r.toNat]?=M c):L3.iS (.str z) (.int r)=-(.str (dM c)):=by show(if z.length<=1000000 then(kP z.cps.toList r).map (λc=>RV.fz (.str #[#v[c]]))else P)=_;rw[ax a,d,vh (v:=97+c) b (by simp_all)];rfl
def yk{z:Str}(cs:G Nat)(d:z.cps.toList=cs.map (97+·))(b:z.length<=1000000)(e:∀c∈cs,c<26){r:Int}(f:0<=r)(g:r<cs.length):∃c,c<26/\L3.iS (.str z) (.int r)=-(.str (dM c)):=by
 let a:r.toNat<cs.length:=by ext
 show#[cs[r.toNat],e _ (abi a),NG d b f (Ww a)]
def F4{n i k:Nat}(h:(WK n)[i]?=M k):k=i/\i<n:=by let(b,a):=Wb.mp h;rw[List.getElem_range]at a;rw[Xt]at b;show#[a.symm,b]
def KG{n a:Int}{e:G (G Mn)}{b:G Mn}(h:VL n a e)(g:(b.length:Int)=n)(f:∀m∈b,VM e.length a m):VL n a (e++[b]):=by
 intro i l j;rcases L10.bK j with o|⟨rfl,rfl⟩
 .show h i l o
 .show#[g,f]
def OB{a:Int}(b:1<=a):∃M:Int,vQ [.int 1,.int (a - 1)]=-(.int M)/\1<=M/\(1<a->M=a - 1):=by show#[_,W,?_];split<;>ext
def IG(c:Int)(L:Nat)(a:Int)(n:1<=a):∃m:Mn,VM L a m/\dD [.int c,nd L,.int a]=.ok (.fz (mD m)):=by
 let r:=fK c (s:=5) (m:=3) () () ();let g:=jM (x:=c) (s:=5) (m:=3) ();generalize Ax c 5 3=C at r g;let(l,i,w):=yk (z:= "abc") [0,1,2] (by left) (by left) () g.1 (show C<3 from g.2);let(M,v,M1,M2):=OB n;let p:=fK c (s:=7) (m:=M) () () ();let u:=jM (x:=c) (s:=7) (m:=M) ();generalize Ax c 7 M=y at p u;let t:=fK c (s:=3) (m:=8) () () ();generalize Ax c 3 8=A at t;let o:Ed (nd L) (.int 0)=-(.bool (decide ((0:Int)<L))):=W;let f:∃B,gw 6 cM [.int c,nd L,.int a]=.ok B/\∃m:Mn,VM L a m/\B=.fz (mD m):=by
  show pz (T:=λB=>∃m:Mn,VM L a m/\B=.fz (mD m)) (ρ:=[zf (.int c),zf (nd L),zf (.int a),P,P,P]) W ?_;ext cM;show cK (ρ3:=[zf (.int c),zf (nd L),zf (.int a),zf (.str (dM l)),P,P]) (by ext:0) W W ?_;show cK (ρ3:=[zf (.int c),zf (nd L),zf (.int a),zf (.str (dM l)),zf (.int (1+y)),P]) (by ext:0) W W ?_;show cK (ρ3:=[zf (.int c),zf (nd L),zf (.int a),zf (.str (dM l)),zf (.int (1+y)),zf (.int A)]) (by ext:0) W W ?_;show nt (b:=(decide ((0:Int)<L)&&decide (5<A))) (ρ1:=[zf (.int c),zf (nd L),zf (.int a),zf (.str (dM l)),zf (.int (1+y)),zf (.int A)]) (by ext:0) (λq=>?_) (λ_=>fG ?_)
  .rw[V7]at q;let e:=b3 q.1;show jI (pv:=.fz (mD .below)) (ρ1:=[zf (.int c),zf (nd L),zf (.int a),zf (.str (dM l)),zf (.int (1+y)),zf (.int A)]) (show _=Res.ok (PV.fz (.tuple [.str "below"]),_) by ext:0) W #[.below,by show(L:Int)≠0;ext,W]
  show nt (b:=(decide (1<a)&&decide (A=3))) (ρ1:=[zf (.int c),zf (nd L),zf (.int a),zf (.str (dM l)),zf (.int (1+y)),zf (.int A)]) (by ext:0) (λq=>?_) (λ_=>fG ?_)
  .rw[V7]at q;let e:=M2 (b3 q.1);show jI (pv:=.fz (mD (.Yo (1+y)))) (ρ1:=[zf (.int c),zf (nd L),zf (.int a),zf (.str (dM l)),zf (.int (1+y)),zf (.int A)]) (show _=Res.ok (PV.fz (.tuple [.str "layer",.int (1+y)]),_) by ext:0) W #[.Yo (1+y),#[by ext,by ext],W]
  show nt (b:=(decide (1<a)&&decide (A=4))) (ρ1:=[zf (.int c),zf (nd L),zf (.int a),zf (.str (dM l)),zf (.int (1+y)),zf (.int A)]) (by ext:0) (λq=>?_) (λ_=>fG ?_)
  .rw[V7]at q;let e:=M2 (b3 q.1);show jI (pv:=.fz (mD (.Z6 l (1+y)))) (ρ1:=[zf (.int c),zf (nd L),zf (.int a),zf (.str (dM l)),zf (.int (1+y)),zf (.int A)]) (show _=Res.ok (PV.fz (.tuple [.str "tap",.str (dM l),.int (1+y)]),_) by ext:0) W #[.Z6 l (1+y),#[i,by ext,by ext],W]
  show nt (b:=(decide (1<a)&&decide (A=5))) (ρ1:=[zf (.int c),zf (nd L),zf (.int a),zf (.str (dM l)),zf (.int (1+y)),zf (.int A)]) (by ext:0) (λq=>?_) (λ_=>fG ?_)
  .rw[V7]at q;let e:=M2 (b3 q.1);show jI (pv:=.fz (mD (.once (1+y)))) (ρ1:=[zf (.int c),zf (nd L),zf (.int a),zf (.str (dM l)),zf (.int (1+y)),zf (.int A)]) (show _=Res.ok (PV.fz (.tuple [.str "once",.int (1+y)]),_) by ext:0) W #[.once (1+y),#[by ext,by ext],W]
  show fu (pv:=.fz (mD (.WN l))) (ρ1:=[zf (.int c),zf (nd L),zf (.int a),zf (.str (dM l)),zf (.int (1+y)),zf (.int A)]) (show _=Res.ok (PV.fz (.tuple [.str "letter",.str (dM l)]),_) by ext:0) W #[.WN l,i,W]
 let(B,h,m,j,rfl):=f;show#[m,j,h]
structure CsV(l0:G Mn)(cs:G (G Nat×Nat)):Prop where
 vc:∀c∈cs,VC l0 c
 un:cs.Pairwise λa c=>a.1≠c.1
theorem CsV.nil(l0:G Mn):CsV l0 []:=#[λc a=>(by ext a),aaf]
def CsV.add(h:CsV l0 cs)(j:2<=s.length)(f:s.Pairwise (·<·))(i:∀k∈s,vt l0 k=S)(g:l<26)(e:s∉cs.map (·.1)):CsV l0 (cs++[(s,l)]):=by
 show#[λc b=>(Xd.mp b).elim (h.vc c) λz=>?_,adp.mpr #[h.un,XY _ _,λa m c b=>?_]]
 .rw[WB.mp z];show#[j,f,i,g]
 .rw[WB.mp b];show λz=>e (WM.mpr #[a,m,z])
def PZ(a:k<l0.length):∃d,aQ (ka l0) (nd k)=-(d)/\∃w,aQ d (.int 0)=-(.str w)/\cC (.str w) (.str "letter")=-(.bool (vt l0 k)):=by
 let e5:vt l0 k=l0[k].isL:=by ext vt;rw[Ww a];rfl
 rw[e5];show#[mD l0[k],Pj (by rw[Wl,Ww a];rfl),_,nu _,j8 _]
def Sb(h:1<=n)(g:n<=5)(j:rs.length<=3)(b:rs[0]?=M l0)(i:VL n rs.length rs)(a:CsV l0 cs)(l:cs.length<=4)(f:1<=w)(e:w<=4):VB #[n,rs,cs,w]:=by
 cases rs with
 |nil=>ext b
 |cons x r=>cases Wt b;show#[h,g,by simp_all,j,i,l,a.vc,a.un,f,e]
def Pq(p:b5 Int):∃b:Bd,(VB b/\b.n<=2/\b.ls.length<=2/\b.wt<=2)/\iV [.list (p.map .int),.int 2]=.ok (.fz (bD b)):=by
 let(g,e0):=om p 0 ();let d1:=fK g (s:=1) (m:=2) () () ();let b1:=jM (x:=g) (s:=1) (m:=2) ();generalize Ax g 1 2=r1 at d1 b1;let d2:=fK g (s:=2) (m:=2) () () ();let b2:=jM (x:=g) (s:=2) (m:=2) ();generalize Ax g 2 2=r2 at d2 b2;let G:=fK g (s:=23) (m:=2) () () ();let b23:=jM (x:=g) (s:=23) (m:=2) ();generalize Ax g 23 2=r23 at G b23;let I:=fK g (s:=17) (m:=3) () () ();generalize Ax g 17 3=r17 at I;let H:=fK g (s:=19) (m:=3) () () ();let C:=jM (x:=g) (s:=19) (m:=3) ();generalize Ax g 19 3=r19 at H C;let(E,Y,elc):=yk (z:= "abd") [0,1,3] (by left) (by left) () C.1 (show r19<3 from C.2);obtain⟨n,hn⟩:∃n:Nat,1+r1=(n:Int):=#[(1+r1).toNat,by ext];obtain⟨nl,S⟩:∃n:Nat,1+r2=(n:Int):=#[(1+r2).toNat,by ext];let rgn:kF [.int (1+r1)]=cL (aR (WK n)):=by rw[hn];show oO ()
 let rgl:kF [.int (1+r2)]=cL (aR (WK nl)):=by rw[S];show oO ()
 let R:∃rv,gw 10 fA [.list (p.map .int),.int 2]=.ok rv/\∃b:Bd,(VB b/\b.n<=2/\b.ls.length<=2/\b.wt<=2)/\rv=.fz (bD b):=by
  show pz (T:=λrv=>∃b:Bd,(VB b/\b.n<=2/\b.ls.length<=2/\b.wt<=2)/\rv=.fz (bD b)) (ρ:=[zf (.list (p.map .int)),zf (.int 2),Ld,Ld,Ld,Ld,Ld,Ld,Ld,Ld]) W ?_;ext fA;show cK (ρ3:=[zf (.list (p.map .int)),zf (.int 2),zf (.int g),Ld,Ld,Ld,Ld,Ld,Ld,Ld]) (by ext:0) W W ?_;show cK (ρ3:=[zf (.list (p.map .int)),zf (.int 2),zf (.int g),zf (.int (1+r1)),Ld,Ld,Ld,Ld,Ld,Ld]) (by ext:0) W W ?_;show cK (ρ3:=[zf (.list (p.map .int)),zf (.int 2),zf (.int g),zf (.int (1+r1)),zf (.int (1+r2)),Ld,Ld,Ld,Ld,Ld]) (by ext:0) W W ?_;show cK (ρ3:=[zf (.list (p.map .int)),zf (.int 2),zf (.int g),zf (.int (1+r1)),zf (.int (1+r2)),zo [],Ld,Ld,Ld,Ld]) (by ext:0) W W ?_;show xK (λi ρ=>∃(e:b5 (b5 Mn)) (A v:b7 PV),e.length=i/\VL (1+r1) (1+r2) e/\ρ=[zf (.list (p.map .int)),zf (.int 2),zf (.int g),zf (.int (1+r1)),zf (.int (1+r2)),zo (e.map ka),A,v,Ld,Ld]) (ds:=aR (WK nl)) (ρ1:=[zf (.list (p.map .int)),zf (.int 2),zf (.int g),zf (.int (1+r1)),zf (.int (1+r2)),zo [],Ld,Ld,Ld,Ld]) (by ext:0) #[[],Ld,Ld,W,(λj r h=>by ext h),W] ?_ ?_
  .rintro i d ρ hi ⟨e,A,v,M,K,rfl⟩
   let(L,hL,rfl):=tX hi;let(rfl,hin):=F4 hL;show#[[zf (.list (p.map .int)),zf (.int 2),zf (.int g),zf (.int (1+r1)),zf (.int (1+r2)),zo (e.map ka),zf (nd L),v,Ld,Ld],W,?_];let mu:ie (.int (1+r1)) (nd L)=-(.int ((1+r1)*L)):=Vc #[by ext,by ext];let(xs,c1,c2,c3):=lg (gt:=gN 0) (ft:=d4) (fe:=d8 cw 2 {aa 1,aC cT (aC cT (~~~1) (aC ie (aa 2) (aa 3))) (aa 0)}) (ds:=aR (WK n)) (ρ:=[Ld,-(.list (p.map .int)),-(.int (1+r1)),-(nd L)]) (λρ=>∃o,ρ=[o,-(.list (p.map .int)),-(.int (1+r1)),-(nd L)]) (λ_ x=>∃a:Int,x=.int a/\True) #[Ld,W] (by rw[dQ,Xt];ext) (by rintro j d u ρ ⟨o,rfl⟩;let(k,hk,rfl):=tX u;let(c,ec):=om p (1+(1+r1)*L+k) (by let:=Int.mul_nonneg (show 0<=1+r1 by ext) (show(0:Int)<=L by ext);ext);show#[.int c,_,yB (ρ1:=[-(nd k),-(.list (p.map .int)),-(.int (1+r1)),-(nd L)]) W W (eV (rv:=.fz (.int c)) (ds:=[.list (p.map .int),.int (1+(1+r1)*L+k)]) (ai (ag W) (ai (aF (rv:=.fz (.int (1+(1+r1)*L+k))) (aF (rv:=.fz (.int (1+(1+r1)*L))) aw (aF (rv:=.fz (.int ((1+r1)*L))) (ag W) (ag W) W W mu) W W (i4 _ _)) (ag W) W W (i4 _ _)) aB)) W W ec) W W,#[_,W],c,W,trivial]);let(cs,rfl,_):=lW (f:=Wa.int) (Q:=λ_ (_:Int)=>True) xs 0 c3;rw[dQ,Xt,V9]at c2;show cK (pv:=.ow (cs.map .int)) (ρ3:=[zf (.list (p.map .int)),zf (.int 2),zf (.int g),zf (.int (1+r1)),zf (.int (1+r2)),zo (e.map ka),zf (nd L),zo (cs.map .int),Ld,Ld]) (dh (cs:=[.list (p.map .int),.int (1+r1),nd L]) (ds:=aR (WK n)) (by ext:0) W c1) W W ?_;let(ys,c4,c5,c6):=lg (gt:=gN 0) (ft:=d4) (fe:=d8 dD 3 {aa 0,aa 1,aa 2}) (ds:=cs.map .int) (ρ:=[Ld,-(nd L),-(.int (1+r2))]) (λρ=>∃o,ρ=[o,-(nd L),-(.int (1+r2))]) (λ_ x=>∃a:Mn,x=mD a/\VM L (1+r2) a) #[Ld,W] (by rw[V9];ext) (by
    rintro j d u ρ ⟨o,rfl⟩;obtain⟨c,rfl⟩:∃c:Int,d=.int c:=by
     rw[Wl]at u;cases q:cs[j]? with
     |none=>rw[q]at u;ext u
     |some x=>rw[q]at u;show#[x,(Wt u).symm]
    let(m,N,em):=IG c L (1+r2) ();show#[mD m,_,yB (ρ1:=[-(.int c),-(nd L),-(.int (1+r2))]) W W (eV (rv:=.fz (mD m)) (ds:=[.int c,nd L,.int (1+r2)]) (ai (ag W) (ai (ag W) (ai (ag W) aB))) W W em) W W,#[_,W],m,W,N])
   let(y,rfl,q6):=lW (f:=mD) (Q:=λ_ a=>VM L (1+r2) a) ys 0 c6;rw[V9,V9]at c5;let P:mJ [.list (y.map mD)]=-(ka y):=W;let X:(e.map ka).length<1000000:=by rw[V9];ext
   show tW (pv:=.fz .none) (ρ1:=[zf (.list (p.map .int)),zf (.int 2),zf (.int g),zf (.int (1+r1)),zf (.int (1+r2)),zo (e.map ka++[ka y]),zf (nd L),zf (.list (cs.map .int)),Ld,Ld]) (Fm (pa:=.fz (ka y)) (d:=ka y) W (eY (rv:=.fz (ka y)) (ds:=[.list (y.map mD)]) (ai (dh (cs:=[nd L,.int (1+r2)]) (ds:=cs.map .int) (fO (mH W) W W) W c4) aB) W P) W W X W) #[e++[y],_,_,by rw[Wi,M];rfl,KG K () (λm hm=>?_),by rw[WJ];rfl];let(t,ht):=Xi.mp hm;rw[M];show q6 t m ht
  .rintro ρ ⟨e,A,v,M,K,rfl⟩
   rw[dQ,Xt]at M;obtain⟨l0,Z⟩:∃l0,e[0]?=cL l0:=#[_,Ww (show 0<e.length by ext)];let hl0:=(K 0 l0 Z).1;let i0:aQ (.list (e.map ka)) (.int 0)=-(ka l0):=R8 () (by show(e.map ka)[0]?=_;rw[Wl,Z];rfl);let J:jK (cY (gN 0) (ay (aC cC (aC aQ (aC aQ (aC aQ (aa 1) (~~~0)) (aa 0)) (~~~0)) (pC (.str "letter")))) (aa 0) (aR (WK n)) [Ld,-(.list (e.map ka))] [])=.ok (((WK n).filter (vt l0)).map nd):=oH nd nd (vt l0) (WK n) (by rw[Xt];ext) W (λj u=>by let(d,e1,w,e2,e3):=PZ (l0:=l0) (k:=j) (by let:=Ym.mp u;ext);show aU (aF (aF (aF (aF (rv:=.fz (ka l0)) (ag W) aw W W i0) (ag W) W W e1) aw W W e2) aw W W e3) W) λj _ _=>ag W;let sp:((WK n).filter (vt l0)).Pairwise (·<·):=ahd _ acI;let sm:∀j∈(WK n).filter (vt l0),vt l0 j=V6:=λj u=>(Xo.mp u).2;let sl:((WK n).filter (vt l0)).length<=2:=by let:=Zg (vt l0) (WK n);rw[Xt]at this;ext
   generalize (WK n).filter (vt l0)=s at J sp sm sl;let O:mJ [.list (s.map nd)]=-(.tuple (aR s)):=W;show cK (ρ3:=[zf (.list (p.map .int)),zf (.int 2),zf (.int g),zf (.int (1+r1)),zf (.int (1+r2)),zf (.list (e.map ka)),A,v,zf (.tuple (aR s)),Ld]) (eY (rv:=.fz (.tuple (aR s))) (ds:=[.list (s.map nd)]) (ai (dh (cs:=[.list (e.map ka)]) (ds:=aR (WK n)) (by ext:0) W J) aB) W O) W W ?_;show cK (ρ3:=[zf (.list (p.map .int)),zf (.int 2),zf (.int g),zf (.int (1+r1)),zf (.int (1+r2)),zf (.list (e.map ka)),A,v,zf (.tuple (aR s)),zf (.tuple [])]) (bU (ds:=[]) aB W (Wc W)) W W ?_;let F:∀cs:b5 (b5 Nat×Nat),CsV l0 cs->cs.length<=4->Go (dU (aY {aa 3,gQ mJ {aa 5},aa 9,aC cT (~~~1) (d8 aZ 3 {aa 2,~~~23,~~~2})}) [zf (.list (p.map .int)),zf (.int 2),zf (.int g),zf (.int (1+r1)),zf (.int (1+r2)),zf (.list (e.map ka)),A,v,zf (.tuple (aR s)),zf (.tuple (cs.map Ya))]) (λ_=>∃b:Bd,(VB b/\b.n<=2/\b.ls.length<=2/\b.wt<=2)/\RV.fz .none=.fz (bD b)) (λ_=>False) (λrv=>∃b:Bd,(VB b/\b.n<=2/\b.ls.length<=2/\b.wt<=2)/\rv=.fz (bD b)):=λcs N v2=>by let P:mJ [.list (e.map ka)]=-(.tuple (e.map ka)):=W;show fu (pv:=.fz (bD #[1+r1,e,cs,1+r23])) (rv:=.fz (bD #[1+r1,e,cs,1+r23])) (bU (ds:=[.int (1+r1),.tuple (e.map ka),.tuple (cs.map Ya),.int (1+r23)]) (ai (ag W) (ai (eY (rv:=.fz (.tuple (e.map ka))) (ds:=[.list (e.map ka)]) (ai (ag W) aB) W P) (ai (ag W) (ai (aF (rv:=.fz (.int (1+r23))) aw (eV (rv:=.fz (.int r23)) (ds:=[.int g,.int 23,.int 2]) (ai (ag W) (ai aw (ai aw aB))) W W G) W W (i4 _ _)) aB)))) W (Wc W)) W #[#[1+r1,e,cs,1+r23],#[Sb () () () Z (by rw[show((e.length:Nat):Int)=1+r2 by ext];show K) N v2 () (),by show 1+r1<=2;ext,by show e.length<=2;ext,by show 1+r23<=2;ext],W]
   let U:dY [.tuple (aR s)]=-(nd s.length):=(jD _).trans (by rw[dQ]);show nt (b:=decide ((1:Int)<s.length)&&decide (0<r17)) (on (aU (aF (rv:=.fz (.bool (decide ((1:Int)<s.length)))) (eY (rv:=.fz (nd s.length)) (ai (ag W) aB) W U) aw W W (zD _ _)) W) λ_=>aU (aF (rv:=.fz (.bool (decide (0<r17)))) (eV (rv:=.fz (.int r17)) (ds:=[.int g,.int 17,.int 3]) (ai (ag W) (ai aw (ai aw aB))) W W I) aw W W (zD _ _)) W) (λq=>?_) (λ_=>fG (F [] (CsV.nil _) (W0 _)));rw[V7]at q;let q1:=b3 q.1;let s2:s.length=2:=by ext
   let cut:Tz (.tuple (aR s)) Ld (cL 2)=-(.tuple (aR s)):=by show cL (RV.fz (.tuple (mV (aR s) Ld (cL ((2:Nat):Int)))))=_;ext mV;rw[HT.sIx_nat,HT.sIx_none,dQ,s2,Nat.min_self,abQ,acT,aaa (by rw[dQ,s2];show Wg _)]
   show cK (ρ3:=[zf (.list (p.map .int)),zf (.int 2),zf (.int g),zf (.int (1+r1)),zf (.int (1+r2)),zf (.list (e.map ka)),A,v,zf (.tuple (aR s)),zf (.tuple ([(s,E)].map Ya))]) (bU (ds:=[Ya (s,E)]) (ai (bU (ds:=[.tuple (aR s),.str (dM E)]) (ai (zj (rv:=.fz (.tuple (aR s))) (ag W) pV (jv aw W) W cut) (ai (aF (rv:=.fz (.str (dM E))) aw (eV (rv:=.fz (.int r19)) (ds:=[.int g,.int 19,.int 3]) (ai (ag W) (ai aw (ai aw aB))) W W H) W W elc) aB)) W (Wc W)) aB) W (Wc W)) W W ?_;show F [(s,E)] (by let:=(CsV.nil l0).add (s:=s) (l:=E) () sp sm Y (λz=>by ext z);show this) (by show 1<=4;decide)
 let(rv,h,b,B,rfl):=R;show#[b,B,h]
def KU(b:b5 Int):∃w:b5 Nat,(∀c∈w,c<26)/\w.length<=3/\gY [.list (b.map .int)]=.ok (.fz (.str (dP w))):=by
 let(g,e9):=om b 9 ();let E:=fK g (s:=131) (m:=4) () () ();let L:=jM (x:=g) (s:=131) (m:=4) ();generalize Ax g 131 4=r at E L;obtain⟨n,hn⟩:∃n:Nat,r=(n:Int):=#[r.toNat,by ext];let M:kF [.int r]=cL (aR (WK n)):=by rw[hn];show oO ()
 let(xs,K,J,I):=lg (gt:=gN 0) (ft:=d4) (fe:=d8 aZ 3 {d8 cw 2 {aa 1,aC cT (~~~10) (aa 0)},~~~127,~~~7}) (ds:=aR (WK n)) (ρ:=[P,-(.list (b.map .int))]) (λX=>∃o,X=[o,-(.list (b.map .int))]) (λ_ x=>∃a:Int,x=.int a/\(0<=a/\a<7)) #[P,W] (by rw[dQ,Xt];ext) (by rintro j d e X ⟨o,rfl⟩;let(k,N,rfl):=tX e;let(c,p):=om b (10+k) ();let dd:=fK c (s:=127) (m:=7) () () ();let v:=jM (x:=c) (s:=127) (m:=7) ();generalize Ax c 127 7=a at dd v;show#[.int a,_,yB (ρ1:=[-(nd k),-(.list (b.map .int))]) W W (eV (rv:=.fz (.int a)) (ds:=[.int c,.int 127,.int 7]) (ai (eV (rv:=.fz (.int c)) (ds:=[.list (b.map .int),.int (10+k)]) (ai (ag W) (ai (aF (rv:=.fz (.int (10+k))) aw (ag W) W W (i4 _ _)) aB)) W W p) (ai aw (ai aw aB))) W W dd) W W,#[_,W],a,W,v]);let(cs,rfl,q):=lW (f:=Wa.int) (Q:=λ_ (a:Int)=>0<=a/\a<7) xs 0 I;rw[dQ,Xt,V9]at J;let(y,H,G,F):=lg (gt:=gN 0) (ft:=d4) (fe:=aC L3.iS (pC (.str "aabbcdz")) (aa 0)) (ds:=cs.map .int) (ρ:=[P]) (λX=>∃o,X=[o]) (λ_ x=>∃a:Nat,x=.str (dM a)/\a<26) #[P,W] (by rw[V9];ext) (by
  rintro j d e X ⟨o,rfl⟩;rw[Wl]at e;cases z:cs[j]? with
  |none=>rw[z]at e;ext e
  |some a=>rw[z]at e;cases Wt e;let u:=q j a z;let(c,l,p):=yk (z:= "aabbcdz") [0,0,1,1,2,3,25] (by left) (by left) () u.1 (show a<7 from u.2);show#[.str (dM c),_,yB (ρ1:=[-(.int a)]) W W (aF (rv:=.fz (.str (dM c))) aw (ag W) W W p) W W,#[_,W],c,W,l])
 let(w,rfl,A):=lW (f:=λc=>Wa.str (dM c)) (Q:=λ_ (a:Nat)=>a<26) y 0 F;rw[V9,V9]at G;let B:=uM (w:=w) ();show#[w,λc l=>?_,by ext,?_]
 .let(t,C):=Xi.mp l;show A t c C
 let i:∃Y,gw 3 eG [.list (b.map .int)]=.ok Y/\Y=.fz (.str (dP w)):=by show pz (T:=λY=>Y=.fz (.str (dP w))) (ρ:=[zf (.list (b.map .int)),P,P]) W ?_;ext eG;show cK (ρ3:=[zf (.list (b.map .int)),zf (.int g),P]) (by ext:0) W W ?_;show cK (pv:=.ow (cs.map .int)) (ρ3:=[zf (.list (b.map .int)),zf (.int g),zo (cs.map .int)]) (dh (cs:=[.list (b.map .int)]) (ds:=aR (WK n)) (by ext:0) W K) W W ?_;show fu (rv:=.fz (.str (dP w))) (G7 (rv:=.fz (.str (dP w))) aw W (ai (dh (cs:=[]) (ds:=cs.map .int) (fO (mH W) W W) W H) aB) W B) W W
 let(Y,h,rfl):=i;show h
def xT{b:Bd}(g:VB b){n:Nat}(k:b.n=n)(j:n<=5){w:G Nat}(i:∀c∈w,c<26)(f:w.length<=3){fs:G Te}(e:BT b w (rR n) fs fs.length)(r:fs.length<=400)(d:aJ):bx [.fz (bD b),.fz (.str (dP w)),.fz (.int ((fs.length:Int) - 1))] d=.ok (.fz (.bool S)) d:=by
 let p:=(Wb.mp e.z).1;obtain⟨o,h⟩:∃o,cR [.fz (bD b),.fz (.str (dP w)),.fz (.int ((fs.length:Int) - 1))] []=.er (TM ((fs.length:Int) - 1)) o:=by let ty:=lO (mS g k j i f (m:=(fs.length:Int) - 1) () () []) (T':=λ_ _=>False) (X':=λx=>x=TM ((fs.length:Int) - 1)) (λa o #[gs,l,q,_]=>by let:=e.one l;ext) (λx h=>h.1);let(x,o,h,rfl):=ty.er;show#[o,h]
 ext bx;dsimp only;rw[h];ext TM;dsimp only;rw[ax W,ax #[W,W]]
def Gx{b:Bd}{w:G Nat}{p:TP}(a:TW b w p):iH (kT p)=S:=by
 let(_,e):=GH a.1;show rP ?_ ?_
 .show(Wa.canLay0 (ef p.1)&&(S&&S))=S;rw[mq (FD a.1)];rfl
 .show max (Wa.depth (ef p.1)) (max 0 0)+1<=64;ext
def Rm{b:Bd}{w:G Nat}{p q:TP}(e:TW b w p)(a:TW b w q):cC (kT p) (kT q)=-(.bool (Wa.eqv (kT p) (kT q))):=by ext cC;rw[Gx e,mq (Gx a),Xv,ax W]
theorem Hs(B:TC b w es)(e:TW b w p)(a:TW b w q):Wa.eqv (kT p) (kT q)=S↔p=q:=
 #[λh=>xG B e a (LD.kd_eqv _ _ (LD.keyD_kd (gb e)).1 (LD.keyD_kd (gb a)).1 h),λh=>by rw[h];show oy (gb a)]
theorem Oa(q:Te):OV (C5 q) P (M 2)=-(kT q.p):=W
theorem Gv(a:aJ):∀ds:G D,av (rX 5 a) (ds.map .fz)=M ds
 |[]=>rfl
 |d::r=>by unfold alu av;rw[show rX 5 a (.fz d)=M d from rfl,Gv a r]
theorem z0(a:G Nat):iH (.list (aR a))=S:=rP (gv a) (by show Wa.depthAll (aR a)+1<=64;rw[jb];decide)
abbrev EM(a:G Int)(b:Bd)(w:G Nat)(fs:G Te)(r:aP):aP:=-(.list (a.map .int))::-(bD b)::-(.str (dP w))::-(.list (fs.map C5))::r
def main(f:b5 Int)(c:f.length<=63):L10.Ri F_law [.list (f.map .int)]=.ok (.fz (.bool V6)):=by
 let(b,(H,n2,l2,w2),e0):=Pq f;let(w,J,I,e1):=KU f;obtain⟨n,hn⟩:∃n:Nat,b.n=n:=#[b.n.toNat,by let:=H.n1;ext];let X:n<=5:=by ext
 let B:TC b w (rR n):=#[H,yM hn,J,I];let few:∀x,¬Rr b w (rR n) 400 x:=λx #[_,l,N,h2,h3]=>by let:=Tw B n2 l2 w2 N h2;ext
 let Z:TW b w (br,w.length):=#[gA b,Wg _];let key:Out (F_law [.fz (.list (f.map .int))] []) (λx _=>x=.fz (.bool V6)) (λ_=>False):=by
  show rj W ?_;ext wA;show de (ρ1:=[-(.list (f.map .int)),-(bD b),Ld,Ld,Ld,Ld,Ld]) (af (eV (ai (ag W) (ai aw aB)) W W e0)) W ?_;show de (ρ1:=[-(.list (f.map .int)),-(bD b),-(.str (dP w)),Ld,Ld,Ld,Ld]) (af (eV (ai (ag W) aB) W W e1)) W ?_;let(v,ω1,N,fs,i,A,fl,rfl,hi):=(lO (xU H hn X J I (m:=400) () () []) (X':=λ_=>False) (λa o h=>h) few).all;let f1:frz 4 ω1 (.rf i)=cL (.list (fs.map C5),ω1.set i .dead):=iZ hi;show de (ρ1:=(EM f b w fs [Ld,Ld,Ld])) (kI (mL (xs:=[.fz (bD b),.fz (.str (dP w))]) (aj (af (ag W)) (aj (af (ag W)) aG)) W N) f1) W ?_;generalize ω1.set i .dead=ω2;let l1:=(Wb.mp A.z).1;let ln:dY [.list (fs.map C5)]=-(nd fs.length):=(fS _).trans (by rw[V9]);let(v,C,h2,gs,Q,gl,U):=(lO (mS H hn X J I (m:=(fs.length:Int)) () () ω2) (X':=λ_=>False) (λa o h=>h) (λx #[_,l,T,p,a3]=>by let:=A.len T p;ext)).all;show de (ρ1:=(EM f b w fs [cL v,Ld,Ld])) (mL (xs:=[.fz (bD b),.fz (.str (dP w)),.fz (nd fs.length)]) (aj (af (ag W)) (aj (af (ag W)) (aj (af (eY (rv:=.fz (nd fs.length)) (ai (ag W) aB) W ln)) aG))) W h2) W ?_;let rf:=xT H hn X J I A () C;show uX (lV (aM (J9 (xs:=[.fz (bD b),.fz (.str (dP w)),.fz (.int ((fs.length:Int) - 1))]) (aj (af (ag W)) (aj (af (ag W)) (aj (af (aF (rv:=.fz (.int ((fs.length:Int) - 1))) (eY (rv:=.fz (nd fs.length)) (ai (ag W) aB) W ln) aw W W (uT _ _))) aG))) W rf))) (oM ?_);let lw:=xy (w:=w) ();let O:jK (cY (gN 0) (ay (aC cC (J5 OV (aa 0) rb (ko (~~~2))) (aY {aY {aY aq,pC .none,pC .none},gQ vP {aa 1}}))) (aC aQ (aa 0) (~~~2)) (fs.map C5) [Ld,-(.str (dP w))] [])=.ok ((fs.filter λq=>Wa.eqv (kT q.p) (kT (br,w.length))).map λq=>nd q.d):=oH C5 (λq=>nd q.d) (λq=>Wa.eqv (kT q.p) (kT (br,w.length))) fs () W (λq u=>aU (aF (rv:=.fz (.bool (Wa.eqv (kT q.p) (kT (br,w.length))))) (zj (rv:=.fz (kT q.p)) (ag W) pV (jv aw W) W (Oa q)) (bU (ds:=[ef br,nd w.length]) (ai (bU (ds:=[.tuple [],.none,.none]) (ai (bU aB W (Wc W)) (ai aw (ai aw aB))) W (Wc W)) (ai (eY (rv:=.fz (nd w.length)) (ai (ag W) aB) W lw) aB)) W (Wc W)) W W (Rm (B.rw (A.rw q u)) Z)) W) λq _ _=>aF (rv:=.fz (nd q.d)) (ag W) aw W W nM;let M:∀q∈fs,q.p=(br,w.length)->q∈fs.filter λq=>Wa.eqv (kT q.p) (kT (br,w.length)):=λq u e=>Xo.mpr #[u,(Hs B (B.rw (A.rw q u)) Z).mpr e];let L:∀q∈fs.filter λq=>Wa.eqv (kT q.p) (kT (br,w.length)),q∈fs/\q.p=(br,w.length):=λq u=>#[(Xo.mp u).1,(Hs B (B.rw (A.rw q (Xo.mp u).1)) Z).mp (Xo.mp u).2];generalize (fs.filter λq=>Wa.eqv (kT q.p) (kT (br,w.length)))=G at O M L;show de (ρ1:=(EM f b w fs [cL v,-(.list (aR (G.map (·.d)))),Ld])) (kI (dL (ds:=aR (G.map (·.d))) (dh (cs:=[.str (dP w)]) (ds:=fs.map C5) (fO (d:=.list (fs.map C5)) (ag W) W W) W (O.trans (by ext aR;rw[W2];rfl)))) (by rw[iZ aO,eU])) W ?_;let c5:∀{P:b5 D} {r:Bool} {ω:aJ},cC (.list P) (.list [])=-(.bool r)->bj (ay (aC cC (aa 5) (cZ aq))) ((EM f b w fs [cL v,-(.list P),Ld])) ω=.ok r ω:=λh=>a9 (aU (aF (rv:=.fz (.bool _)) (ag W) (mM (ds:=[]) aB W (Wc W)) W W h) W);cases G with
  |nil=>
   show Hc (c5 (STP.oU (z0 []))) (zJ (ω1:=C++[.dead]) ?_ W);rcases U with⟨rfl,_⟩|⟨j,t,q,rfl,_,u,hp,_⟩
   .show cF (aV W) (af aw) (bL W)
   .let(r,r1,r2,_):=A.all (Wg _) q.d q.p (Q.rw q u);show b4 (M r r1 (r2.trans hp)) (by nofun)
  |cons g R=>
   let(gm,gp):=L g Wh;let ne5:cC (.list (aR ((g::R).map (·.d)))) (.list [])=-(.bool V8):=by ext cC;rw[z0,show Wa.canLay0 (.list [])=V6 from rfl,Xv,ax W];rfl
   show uX (c5 ne5) (oM ?_);let i5:aQ (.list (aR ((g::R).map (·.d)))) (.int 0)=-(nd g.d):=R8 () W;generalize aR ((g::R).map (·.d))=P at i5;let gd:g.d<=1000:=by
    let:∀(k:Nat) (q:Te),fs[k]?=cL q->q.d<=k:=by
     intro k
     induction k using Nat.strongRecOn with
     |_ k ih=>
      intro q u;by_cases k0:k=0
      .subst k0;rw[A.z]at u;ext u;show Wg _
      .let(j,r,T,p,_,a4,_):=A.bk k q u ();let:=ih j T r p;ext
    let(k,hk):=Xi.mp gm;let:=this k g hk;let:=(Wb.mp hk).1;ext
   let F:∀{gs:b5 Te} {v:SV} {ω:aJ},BT b w (rR n) gs gs.length->((v=.fz .none/\∀q∈gs,q.p≠(br,w.length))\/∃(i:Nat) (t:b5 ZG) (q:Te),v=.rf i/\ω[i]?=cL (.lst ((t.map cH).map .fz))/\q∈gs/\q.p=(br,w.length)/\t.length=q.d/\(∀e∈t,e∈rR n)/\FT b w C8 t q.p)->∃(i:Nat) (t:b5 ZG),v=.rf i/\ω[i]?=cL (.lst ((t.map cH).map .fz))/\t.length=g.d/\cQ [bD b,.str (dP w),.list (t.map cH)]=.ok (.fz (.bool V6)):=λ{gs v ω} Q U=>by
    rcases U with⟨_,h⟩|⟨i,t,q,T,p,a3,a4,a5,a6,a7⟩
    .let(r,r1,r2,_):=Q.all (Wg _) g.d g.p (A.rw g gm);show b4 (r2.trans gp) (h r r1)
    .let dd:=A.ahG Q gm a3 (gp.trans a4.symm);rw[a4]at a7;show#[i,t,T,p,by ext,EE H J I () (λe he=>B.eb e (a6 e he)) a7]
   let(j,t,rfl,hj,el,ty):=F Q U;let jl:=(Wb.mp hj).1;let y:(C++[Cell.dead])[j]?=cL (.lst ((t.map cH).map .fz)):=(Wn jl).trans hj;generalize C++[Cell.dead]=ω4 at y;let c6:aX (jp kj (am 4) (ae (pC .none))) (EM f b w fs [cL (.rf j),-(.list P),Ld]) ω4=.ok V8 ω4:=aM (cF (aV W) (af aw) (uz (gf y) W W));let rd:rX 6 ω4 (.rf j)=cL (.list (t.map cH)):=by show(match ω4[j]? with|some (.lst xs)=>(av (rX 5 ω4) xs).map Wa.list|_=>Ld)=_;rw[y];show(av (rX 5 ω4) ((t.map cH).map .fz)).map Wa.list=_;rw[Gv];rfl
   let c7:n6 (aX (BG cQ 3 (ah (ae (aa 1)) (ah (ae (aa 2)) (ah (am 4) aH))))) ((EM f b w fs [cL (.rf j),-(.list P),Ld])) ω4=.ok V8 ω4:=lV (aM (KI (ds:=[bD b,.str (dP w),.list (t.map cH)]) (aj (af (ag W)) (aj (af (ag W)) (aj (aV W) aG))) (by unfold av av av av;rw[rd];rfl) W ty W));let le:dY [.list (t.map cH)]=-(nd g.d):=(fS _).trans (by rw[V9,el]);let c8:aX (jp mG (Db dY (ah (am 4) aH)) (ae (aC aQ (aa 5) (~~~0)))) (EM f b w fs [cL (.rf j),-(.list P),Ld]) ω4=.ok V8 ω4:=aM (cF (Bf (d:=nd g.d) (aj (aV W) aG) (by ext av;rw[gf y];rfl) le) (af (d:=nd g.d) (aF (rv:=.fz (nd g.d)) (ag W) aw W W i5)) (bL (STP.zR W)));show uX (iG c6 (iG c7 c8)) (oM ?_);show Ay (fP (kG (x:=.fz .none) (aV W) y (af aw) y (by rw[V9,V9];ext))) ?_;generalize ω4.set j _=ω5;let(v,K,h3,gs',bg',gl',hv'):=(lO (mS H hn X J I (m:=400) () () ω5) (X':=λ_=>False) (λa o h=>h) few).all;let(j',E,rfl,hj7,el',Y):=F bg' hv';let f2:frz 4 K (.rf j')=cL (.list (E.map cH),K.set j' .dead):=iZ hj7;let le':dY [.list (E.map cH)]=-(nd g.d):=(fS _).trans (by rw[V9,el']);show de (ρ1:=(EM f b w fs [cL (.rf j),-(.list P),-(.list (E.map cH))])) (kI (mL (xs:=[.fz (bD b),.fz (.str (dP w))]) (aj (af (ag W)) (aj (af (ag W)) aG)) W h3) f2) W ?_;show mh (af (oV (a:=V6) (b:=V6) (aU (eV (rv:=.fz (.bool V6)) (ai (ag W) (ai (ag W) (ai (ag W) aB))) W W Y) W) λ_=>aF (rv:=.fz (.bool V6)) (eY (rv:=.fz (nd g.d)) (ds:=[.list (E.map cH)]) (ai (ag W) aB) W le') (aF (rv:=.fz (nd g.d)) (ag W) aw W W i5) W W (STP.oU W))) W
 let(x,ω',N,rfl):=key.all;ext L10.Ri;rw[show[Wa.list (f.map .int)].map SV.fz=[.fz (.list (f.map .int))]from rfl,N]
end K72
namespace K72
open PySem L2 L3 L10 STP CC
set_option synthInstance.maxHeartbeats 400000
set_option synthInstance.maxSize 4000
def top(i:Nat):X1:=PySem.Challenge.pw_chordbed_k72_typed.main.body.getD i (.Pass ⟨0,0,0,0⟩)
def bG:G Fd:=[U6 1 "TooMany" "most",
 kA 1 "layer_of" ["standing"] 1 dI,
 kA 1 "looked_up" ["bed","layer","key"] 3 hJ,
 kA 1 "chords_over" ["bed","keys"] 2 bu,
 kA 1 "chord_acts" ["bed","keys"] 2 eT,
 kA 1 "_law_cell" ["_law_script","_law_k"] 2 cw,
 kA 1 "_law_draw" ["_law_cell_here","_law_salt","_law_many"] 3 aZ,
 kA 2 "_law_meaning" ["_law_cell_here","_law_layer","_law_layers"] 3 dD,
 kA 3 "_law_bed" ["_law_script","_law_most"] 2 iV,
 kA 2 "_law_text" ["_law_script"] 1 gY,
 kA 1 "events_of" ["bed"] 1 fR,
 kA 1 "done_behind" ["text","done","sent"] 3 fQ,
 Ve 3 "Hand" ["self","bed","standing"] 3 cX,
 xq R 3 "Hand" "stands" ["self"] 1 bv,
 xq R 3 "Hand" "is_waiting" ["self","key"] 2 bS,
 xq R 3 "Hand" "has_act" ["self","act"] 2 bB,
 xq R 4 "Hand" "come" ["self","key","act"] 3 bh,
 xq R 4 "Hand" "go" ["self","key"] 2 iL,
 xq R 5 "Hand" "decide" ["self"] 1 cz,
 xq R 4 "Hand" "makes_chord" ["self","key"] 2 cS,
 xq R 6 "Hand" "put_to_chord" ["self","key"] 2 cG,
 xq R 5 "Hand" "begin" ["self","key"] 2 eW,
 xq R 7 "Hand" "press" ["self","key"] 2 gr,
 xq R 6 "Hand" "settle" ["self","key"] 2 fL,
 xq R 7 "Hand" "lift" ["self","key"] 2 hW,
 xq R 6 "Hand" "wait_on" ["self"] 1 eR,
 Hv 8 "step" ["bed","standing","event"] 3 STP.kQ,
 Hv 9 "play" ["bed","events"] 2 oJ,
 kA 9 "play" ["bed","events"] 2 pX,
 kA 10 "_law_types" ["_law_bed_here","_law_text_here","_law_events"] 3 cQ,
 xq S 3 "Places" "enter" ["self","place","back","event"] 4 bM,
 Tm 4 "Places" ["self","first","most"] 3 ci,
 xq R 3 "Places" "way_to" ["self","number"] 2 b8,
 C7 [] 9 "places_on" ["bed","text","most"] 3 dj,
 C7 [(.int 400)] 10 "typing_rooms" ["bed","text","most"] 3 fq,
 C7 [(.int 400)] 10 "typed" ["bed","text","most"] 3 cR,
 C7 [] 10 "typed" ["bed","text","most"] 3 cR,
 Hv 12 "_law_refused" ["_law_bed_here","_law_text_here","_law_most"] 3 bx]
def jr:Md:=⟨["max","all","list","sorted","len","range","tuple","isinstance","dict","zip","reversed"],[],[("NONE",(.tuple [(.str "none")])),("CHORD",(.tuple [(.str "chord")])),("AT_REST",(.tuple [(.tuple []),.none,.none]))],[("Hand",["bed","acts","waiting","once","sent"]),("Places",["most","found","numbers"])]⟩
noncomputable instance:FX bG "TooMany" "most":=⟨0,1,W⟩
noncomputable instance:Fn bG kA dI 1:=⟨1,1,"layer_of",["standing"],W⟩
noncomputable instance:Fn bG kA hJ 3:=⟨2,1,"looked_up",["bed","layer","key"],W⟩
noncomputable instance:Fn bG kA bu 2:=⟨3,1,"chords_over",["bed","keys"],W⟩
noncomputable instance:Fn bG kA eT 2:=⟨4,1,"chord_acts",["bed","keys"],W⟩
noncomputable instance:Fn bG kA cw 2:=⟨5,1,"_law_cell",["_law_script","_law_k"],W⟩
noncomputable instance:Fn bG kA aZ 3:=⟨6,1,"_law_draw",["_law_cell_here","_law_salt","_law_many"],W⟩
noncomputable instance:Fn bG kA dD 3:=⟨7,2,"_law_meaning",["_law_cell_here","_law_layer","_law_layers"],W⟩
noncomputable instance:Fn bG kA iV 2:=⟨8,3,"_law_bed",["_law_script","_law_most"],W⟩
noncomputable instance:Fn bG kA gY 1:=⟨9,2,"_law_text",["_law_script"],W⟩
noncomputable instance:Fn bG kA fR 1:=⟨10,1,"events_of",["bed"],W⟩
noncomputable instance:Fn bG kA fQ 3:=⟨11,1,"done_behind",["text","done","sent"],W⟩
noncomputable instance:FK bG "Hand" cX 3:=⟨12,3,["self","bed","standing"],W⟩
noncomputable instance:FM bG R "Hand" "stands" bv 1:=⟨13,3,["self"],W⟩
noncomputable instance:FM bG R "Hand" "is_waiting" bS 2:=⟨14,3,["self","key"],W⟩
noncomputable instance:FM bG R "Hand" "has_act" bB 2:=⟨15,3,["self","act"],W⟩
noncomputable instance:FM bG R "Hand" "come" bh 3:=⟨16,4,["self","key","act"],W⟩
noncomputable instance:FM bG R "Hand" "go" iL 2:=⟨17,4,["self","key"],W⟩
noncomputable instance:FM bG R "Hand" "decide" cz 1:=⟨18,5,["self"],W⟩
noncomputable instance:FM bG R "Hand" "makes_chord" cS 2:=⟨19,4,["self","key"],W⟩
noncomputable instance:FM bG R "Hand" "put_to_chord" cG 2:=⟨20,6,["self","key"],W⟩
noncomputable instance:FM bG R "Hand" "begin" eW 2:=⟨21,5,["self","key"],W⟩
noncomputable instance:FM bG R "Hand" "press" gr 2:=⟨22,7,["self","key"],W⟩
noncomputable instance:FM bG R "Hand" "settle" fL 2:=⟨23,6,["self","key"],W⟩
noncomputable instance:FM bG R "Hand" "lift" hW 2:=⟨24,7,["self","key"],W⟩
noncomputable instance:FM bG R "Hand" "wait_on" eR 1:=⟨25,6,["self"],W⟩
noncomputable instance:Fn bG Hv STP.kQ 3:=⟨26,8,"step",["bed","standing","event"],W⟩
noncomputable instance:Fn bG Hv oJ 2:=⟨27,9,"play",["bed","events"],W⟩
noncomputable instance:Fn bG kA pX 2:=⟨28,9,"play",["bed","events"],W⟩
noncomputable instance:Fn bG kA cQ 3:=⟨29,10,"_law_types",["_law_bed_here","_law_text_here","_law_events"],W⟩
noncomputable instance:FM bG S "Places" "enter" bM 4:=⟨30,3,["self","place","back","event"],W⟩
noncomputable instance:FKE bG "Places" ci 3:=⟨31,4,["self","first","most"],W⟩
noncomputable instance:FM bG R "Places" "way_to" b8 2:=⟨32,3,["self","number"],W⟩
noncomputable instance:Fn bG (C7 []) dj 3:=⟨33,9,"places_on",["bed","text","most"],W⟩
noncomputable instance:Fn bG (C7 [(.int 400)]) fq 3:=⟨34,10,"typing_rooms",["bed","text","most"],W⟩
noncomputable instance:Fn bG (C7 [(.int 400)]) cR 3:=⟨35,10,"typed",["bed","text","most"],W⟩
noncomputable instance:Fn bG (C7 []) cR 3:=⟨36,10,"typed",["bed","text","most"],W⟩
noncomputable instance:Fn bG Hv bx 3:=⟨37,12,"_law_refused",["_law_bed_here","_law_text_here","_law_most"],W⟩
noncomputable instance k1:CS bG (so gF):=by delta gF;infer_instance
def e1:CC.Ya bG (so gF) jr ["standing"] ["standing"] (top 4) 0 1 R=S:=by left
noncomputable instance k2:CS bG (so fX):=by delta fX;infer_instance
def e2:CC.Ya bG (so fX) jr ["bed","layer","key","meaning"] ["bed","layer","key"] (top 8) 0 2 R=S:=by left
noncomputable instance k3:CS bG (so d6):=by delta d6;infer_instance
def e3:CC.Ya bG (so d6) jr ["bed","keys"] ["bed","keys"] (top 9) 0 3 R=S:=by left
noncomputable instance k4:CS bG (so eP):=by delta eP;infer_instance
def e4:CC.Ya bG (so eP) jr ["bed","keys","chord"] ["bed","keys"] (top 10) 0 4 R=S:=by left
noncomputable instance k5:CS bG (so g9):=by delta g9;infer_instance
def e5:CC.Ya bG (so g9) jr ["_law_script","_law_k"] ["_law_script","_law_k"] (top 23) 0 5 R=S:=by left
noncomputable instance k6:CS bG (so hG):=by delta hG;infer_instance
def e6:CC.Ya bG (so hG) jr ["_law_cell_here","_law_salt","_law_many","_law_number"] ["_law_cell_here","_law_salt","_law_many"] (top 24) 0 6 R=S:=by left
noncomputable instance k7:CS bG (so cM):=by delta cM;infer_instance
def e7:CC.Ya bG (so cM) jr ["_law_cell_here","_law_layer","_law_layers","_law_letter","_law_other","_law_kind"] ["_law_cell_here","_law_layer","_law_layers"] (top 25) 1 7 R=S:=by left
noncomputable instance k8:CS bG (so fA):=by delta fA;infer_instance
def e8:CC.Ya bG (so fA) jr ["_law_script","_law_most","_law_cell_here","_law_keys","_law_layers","_law_rows","_law_layer","_law_cells","_law_some","_law_chords"] ["_law_script","_law_most"] (top 26) 2 8 R=S:=by left
noncomputable instance k9:CS bG (so eG):=by delta eG;infer_instance
def e9:CC.Ya bG (so eG) jr ["_law_script","_law_cell_here","_law_letters"] ["_law_script"] (top 27) 1 9 R=S:=by left
noncomputable instance k10:CS bG (so fY):=by delta fY;infer_instance
def VN:CC.Ya bG (so fY) jr ["bed","downs","ups"] ["bed"] (top 15) 0 10 R=S:=by left
noncomputable instance k11:CS bG (so dZ):=by delta dZ;infer_instance
def Vo:CC.Ya bG (so dZ) jr ["text","done","sent","downs","behind"] ["text","done","sent"] (top 21) 0 11 R=S:=by left
noncomputable instance k12:CS bG (cO et):=by delta et;infer_instance
def VQ:CC.Ya bG (cO et) jr ["self","bed","standing"] ["self","bed","standing"] (aK (top 7) 0) 2 12 R=S:=by left
noncomputable instance k13:CS bG (cO fJ):=by delta fJ;infer_instance
def VR:CC.Ya bG (cO fJ) jr ["self"] ["self"] (aK (top 7) 1) 2 13 R=S:=by left
noncomputable instance k14:CS bG (cO df):=by delta df;infer_instance
def VX:CC.Ya bG (cO df) jr ["self","key"] ["self","key"] (aK (top 7) 2) 2 14 R=S:=by left
noncomputable instance k15:CS bG (cO fw):=by delta fw;infer_instance
def V1:CC.Ya bG (cO fw) jr ["self","act"] ["self","act"] (aK (top 7) 13) 2 15 R=S:=by left
noncomputable instance k16:CS bG (cO g8):=by delta g8;infer_instance
def Vn:CC.Ya bG (cO g8) jr ["self","key","act"] ["self","key","act"] (aK (top 7) 11) 3 16 R=S:=by left
noncomputable instance k17:CS bG (cO jU):=by delta jU;infer_instance
def Vt:CC.Ya bG (cO jU) jr ["self","key","act"] ["self","key"] (aK (top 7) 12) 3 17 R=S:=by left
noncomputable instance k18:CS bG (cO fM):=by delta fM;infer_instance
def VT:CC.Ya bG (cO fM) jr ["self","keys","what","acts","key","act"] ["self"] (aK (top 7) 10) 4 18 R=S:=by left
noncomputable instance k19:CS bG (cO cP):=by delta cP;infer_instance
def Vh:CC.Ya bG (cO cP) jr ["self","key"] ["self","key"] (aK (top 7) 4) 3 19 R=S:=by left
noncomputable instance k20:CS bG (cO cI):=by delta cI;infer_instance
def Vp:CC.Ya bG (cO cI) jr ["self","key","keys"] ["self","key"] (aK (top 7) 5) 5 20 R=S:=by left
noncomputable instance k21:CS bG (cO gy):=by delta gy;infer_instance
def VO:CC.Ya bG (cO gy) jr ["self","key","layer","meaning","word"] ["self","key"] (aK (top 7) 6) 4 21 R=S:=by left
noncomputable instance k22:CS bG (cO gB):=by delta gB;infer_instance
def Vi:CC.Ya bG (cO gB) jr ["self","key"] ["self","key"] (aK (top 7) 3) 6 22 R=S:=by left
noncomputable instance k23:CS bG (cO fE):=by delta fE;infer_instance
def VS:CC.Ya bG (cO fE) jr ["self","key","what"] ["self","key"] (aK (top 7) 8) 5 23 R=S:=by left
noncomputable instance k24:CS bG (cO g6):=by delta g6;infer_instance
def V0:CC.Ya bG (cO g6) jr ["self","key"] ["self","key"] (aK (top 7) 7) 6 24 R=S:=by left
noncomputable instance k25:CS bG (cO eZ):=by delta eZ;infer_instance
def Vj:CC.Ya bG (cO eZ) jr ["self","age"] ["self"] (aK (top 7) 9) 5 25 R=S:=by left
noncomputable instance k26:CS bG (cO STP.tI):=by delta STP.tI;infer_instance
def VD:CC.Ya bG (cO STP.tI) jr ["bed","standing","event","hand"] ["bed","standing","event"] (top 5) 7 26 R=S:=by left
noncomputable instance k27:CS bG (cO oY):=by delta oY;infer_instance
def U7:CC.Ya bG (cO oY) jr ["bed","events","standing","all_sent","event","answer"] ["bed","events"] (top 6) 8 27 R=S:=by left
noncomputable instance k29:CS bG (so dS):=by delta dS;infer_instance
def VY:CC.Ya bG (so dS) jr ["_law_bed_here","_law_text_here","_law_events","_law_event","_law_sent","_law_standing","_law_downs","_law_some"] ["_law_bed_here","_law_text_here","_law_events"] (top 28) 9 29 R=S:=by left
noncomputable instance k30:CS bG (cO bN):=by delta bN;infer_instance
def VG:CC.Ya bG (cO bN) jr ["self","place","back","event"] ["self","place","back","event"] (aK (top 16) 1) 2 30 S=S:=by left
noncomputable instance k31:CS bG (cO bA):=by delta bA;infer_instance
def VJ:CC.Ya bG (cO bA) jr ["self","first","most"] ["self","first","most"] (aK (top 16) 0) 3 31 S=S:=by left
noncomputable instance k32:CS bG (cO cV):=by delta cV;infer_instance
def VP:CC.Ya bG (cO cV) jr ["self","number","row","place"] ["self","number"] (aK (top 16) 2) 2 32 R=S:=by left
noncomputable instance k33:CS bG (cO g7):=by delta g7;infer_instance
def VF:CC.Ya bG (cO g7) jr ["bed","text","most","events","places","number","place","event","answer","done"] ["bed","text","most"] (top 20) 8 33 S=S:=by left
noncomputable instance k34:CS bG (cO dH):=by delta dH;infer_instance
def Vx:CC.Ya bG (cO dH) jr ["bed","text","most","prices","found","place","back","event","price"] ["bed","text","most"] (top 18) 9 34 S=S:=by left
noncomputable instance k35:CS bG (cO lX):=by delta lX;infer_instance
def L8:CC.Ya bG (cO lX) jr ["bed","text","most","places","end"] ["bed","text","most"] (top 19) 9 35 S=S:=by left
noncomputable instance k38:CS bG (cO wA):=by delta wA;infer_instance
def Vy:CC.Ya bG (cO wA) jr ["_law_script","_law_bed_here","_law_text_here","_law_spots","_law_found","_law_prices","_law_again"] ["_law_script"] (top 30) 12 38 R=S:=by left
end K72
namespace L2
open PySem PySem.Spec PyProof.Rows
section
variable{Z:St}{H:Hp}{Q:VK}{D:Ends}
theorem HU{K:lD}{c b:TE}{f:Str}(h:b Z H λy H1=>c Z H1 λx e=>∃a C d fs,x=.ref a/\e a=M (.ins C d fs)/\Cls K C/\ZE K C f/\fs.length<1000/\D.nx Z (aW e a (.ins C d (ip f y fs)))):Om K c b f D Z H:=h
theorem M9{c:TT}{t u:TE}(h:c Z H λb H1=>if b=S then t Z H1 Q else u Z H1 Q):S4 c t u Z H Q:=h
theorem NJ{K:lD}{b:TE}{f:Str}(h:b Z H λx H1=>∃a C c fs v,x=.ref a/\H1 a=M (.ins C c fs)/\Cls K C/\ZE K C f/\fs.lookup f=M v/\Q v H1):Nc K b f Z H Q:=h
theorem Jj{C:J}{m:Str}{sp:Sp}{E:XK}{b:TE}{t:TA}(h:b Z H λx H1=>∃a d fs,x=.ref a/\H1 a=M (.ins C d fs)/\fs.lookup m=P/\t Z H1 λc e=>sp (x::(c++[])) e Q E):sr C m sp [] E b t Z H Q:=h
theorem JS{C:J}{sp:Sp}{E:XK}{t:TA}(h:t Z H λb H1=>∀x a,H1 x=P->H1 a=P->a≠x->sp (.ref x::(b++[])) (aW (aW H1 a (.own x)) x (.ins C a [])) (λv c=>v=.Ye/\Q (.ref x) c) E):we C sp [] E t Z H Q:=h
end
end L2
local macro_rules| `(tactic|ext:5)=> `(tactic|repeat (first
 |specialize L2.OA ?_
 |specialize L2.aku ?_
 |specialize L2.HU ?_
 |specialize L2.M9 ?_
 |specialize L2.NJ ?_
 |specialize L2.Jj ?_
 |specialize L2.JS ?_
 |specialize L2.ain ?_
 |((with_reducible show L2.rO _ _ _ _);refine⟨_,rfl,?_⟩)
 |specialize L2.anK ?_
 |specialize L2.Tj ?_
 |specialize L2.aml ?_
 |specialize L2.amv ?_
 |specialize L2.ao4 ?_
 |((specialize L2.anB ?_ ?_);first|exact⟨by decide,by decide⟩|exact⟨by decide,by decide,by decide⟩|exact(show(0:Int)<_ by decide)|exact⟨by decide,by left⟩)
 |((specialize L2.Rq ?_ ?_);exact rfl)
 |((specialize L2.al6 ?_ ?_);exact rfl)
 |specialize L2.OI ?_
 |specialize L2.KW ?_
 |specialize L2.aj1 ?_
 |specialize L2.aiM ?_
 |specialize L2.ahD ?_
 |specialize L2.aiI ?_
 |specialize L2.ai2 ?_
 |specialize L2.apZ ?_
 |specialize L2.al9 ?_
 |specialize L2.akE ?_
 |specialize L2.amm ?_
 |specialize L2.ak6 ?_
 |specialize L2.aiX ?_
 |specialize L2.akF ?_
 |specialize L2.ajb ?_
 |specialize L2.N0 ?_
 |specialize L2.Kg ?_
 |specialize L2.al7 ?_
 |specialize L2.HR ?_
 |specialize L2.akM ?_
 |specialize L2.alf ?_
 |specialize L2.alN ?_
 |specialize L2.alU ?_
 |specialize L2.agS ?_
 |specialize L2.ais ?_
 |specialize L2.akl ?_
 |specialize L2.ahu ?_
 |specialize L2.ahl ?_
 |specialize L2.aiH ?_
 |specialize L2.aiG ?_
 |specialize L2.akG ?_
 |specialize L2.ai7 ?_
 |specialize L2.aiW ?_
 |specialize L2.ahS ?_
 |specialize L2.ajc ?_
 |specialize L2.ahE ?_
 |specialize L2.aiJ ?_
 |specialize L2.aiY ?_))
namespace K72
open PySem L2
section
open L3 L4
variable{P:Wz}{w:WX}{K:lD}{mg:Str->b7 V5}{base:Heap}{f:Wd}{Y:Xj}
theorem km:Yr ["self","most"] ["self","most"] (au (aK (top 13) 0)):=⟨W,W,W,by left,W,by left,by left⟩
def B6{C B fI:J}(F:Fun K "__init__" "TooMany.__init__" (aK (top 13) 0) f Y)(o:L9.XC K C B fI)(l:mg "BedError"=M (.ref B))(g:abc K B (.type "type")=S)(m:abd K (.ref B) (.type "type") "__init__"=M (.val (.builtin "ValueError.__init__")))
  (b:YV K (.ref B) "__getattribute__"=M (M (.builtin "type.__getattribute__"))) (j:WW K (.ref C) "most"=M Ld):FnOk P w K mg base kg 1 f Y ["self","most"] (L9.ur C "most"):=by
 show F.ok km (λL H Q E h=>?_) (λu A a s H L Q E t h=>?_)
 .let(_,_,rfl,_):=h;rfl
 let(e,v,rfl,r,n,q):=h;show⟨_,(pH (zE (L9.G8 W l g m b o (ei (pv 0) (ei (L9.JK (L9.Qs () (L9.Ov (pv 1) L9.M7)) ()) jO)))) (oj (L9.Jl o j (pv 0) (pv 1) W))),?_⟩;ext:5;show⟨V.ref e,W,v,W,r,λy=>⟨e,y,W,n,?_⟩⟩;show⟨v,W,V.ref e,W,e,W,n,λp j i=>q p j i⟩
end
end K72
namespace K72
open PySem L2
section
variable{P:Wz}{w:WX}{K:lD}{mg:Str->b7 V5}{base:Heap}{f:Wd}{fd:Xj}
theorem jj:Yr ["_law_bed_here","_law_text_here","_law_most","e"] ["_law_bed_here","_law_text_here","_law_most"] (au (top 29)):=⟨W,W,W,by left,W,by left,by left⟩
def oi{C:Wd}{m:b5 V5}(F:Fun K "_law_refused" "_law_refused" (top 29) f fd)(Z:L3.wx P w K mg base (L4.kN P w) 10 "typed" ["bed","text","most"] [] (L10.jR K 3 cR))
  (d:mg "TooMany"=cL (.ref C)) (L:L4.ac5 K C m) (bR:m.contains (.type "BaseException")=V6) (D:WI K Wx "TooMany"=cL (cL (.ref C))) (hh:Yx K C=V6) (V:WW K (.ref C) "most"=cL Ld):
  FnOk P w K mg base kg 12 f fd ["_law_bed_here","_law_text_here","_law_most"] (L10.jR K 3 bx):=by
 show F.ok jj (λvs H Q E h=>h.1) (λX8 A T s H vs Q E hr h=>?_);let hu:=hr.units;let(hl,B,α,ω,xs,so,hv,G):=h;obtain⟨b,t,a,y,rfl,J,X⟩:∃b t a y,xs=[.fz b,.fz t,.fz (.int a)]/\cR [.fz b,.fz t,.fz (.int a)] []=.er ⟨"TooMany",[("most",.int a)]⟩ y/\bx xs ω=.ok (.fz (.bool V6)) ω:=by
  let g:bx xs ω≠.bad:=λz=>by rw[z]at G;show G
  clear G;unfold bx at g⊢;split at g
  .rename_i b t a
   show⟨b,t,a,?_⟩;cases J:cR [.fz b,.fz t,.fz (.int a)] []with
   |bad=>rw[J]at g;show b4 W g
   |ok rv o=>rw[J]at g;show b4 W g
   |er x o=>
    rw[J]at g;let(xc,xf):=x;dsimp only at g⊢;by_cases N:xc= "TooMany"
    .subst N
     rw[ax W]at g⊢;split at g
     .rename_i f k
      by_cases hf:f=("most":Str)/\k=a
      .let(rfl,rfl):=hf;show⟨o,W,W,ax ⟨W,W⟩⟩
      .rw[bb hf]at g;show b4 W g
     .show b4 W g
    .rw[bb N]at g;show b4 W g
  .show b4 W g
 rw[X]at G;obtain⟨S,R,O,rfl,d0,d1,Y⟩:∃S R O,vs=[S,R,O]/\L3.DV (L10.ow B α ω) K H S b/\L3.DV (L10.ow B α ω) K H R t/\L3.DV (L10.ow B α ω) K H O (.int a):=by
  cases hv with
  |cons d0 r0=>
   cases r0 with
   |cons d1 r1=>
    cases r1 with
    |cons Y r2=>ext r2;show⟨_,_,_,W,d0,d1,Y⟩
 ext Y;let xR:=L.cl;show⟨_,(pH (L4.JV (i:=3) (E2:=λc dx q=>∃j,L10.X7 α ω H j ω q/\L10.WT B K q j ω/\c=.ref C/\∃p fs,dx=cL p/\q p=cL (.xd fs)/\fs.lookup ("most":Str)=cL (.int a)) W jj.nd W W W d xR bR W W
   (λl σ=>L4.xC W Z W W W W W hr (ei (pv 0) (ei (pv 1) (ei (pv 2) jO))))
   (λl e=>by show oj (xV (Ah (ta:=L9.MJ K (rO 3) "most") Tk ?_ (pv 2) (OX _)));show L9.Lz (pv 3) ?_;rfl)
   (λc dx q h=>let⟨_,_,_,h,_⟩:=h;⟨C,m,h,xR,by rw[Zz,d9,YL]⟩))
  (oj (xV M3))),?_⟩
 ext:5;ext L4.LC;show⟨?_,λc dx q X e I he N hd hn=>?_⟩
 .ext:5
  show L10.wI so hv (F:=cR) (n:=3) ?_;show L10.WS K _ B H α ω _ (L10.lK cR 3 [.fz b,.fz t,.fz (.int a)] ω);let ce:L10.lK cR 3 [.fz b,.fz t,.fz (.int a)] ω=.er ⟨"TooMany",[("most",.int a)]⟩ ω:=by ext L10.lK;rw[ax (show[L10.SV.fz b,.fz t,.fz (.int a)].length=3 from rfl),show L10.av L10.ve [.fz b,.fz t,.fz (.int a)]=cL [b,t,.int a]from rfl];dsimp only;rw[show[b,t,Wa.int a].map L10.SV.fz=[.fz b,.fz t,.fz (.int a)]from rfl,J]
  rw[ce];rintro c dx j H' u r ⟨⟨a',e1,e2⟩,fs,g2,g3⟩;let(nn,v,k1,k2):=g3 "most" (.int a) W;let e3:=D.symm.trans e2;ext e3;ext k2;cases dx with
  |none=>show b4 W nn
  |some p=>show⟨j,u,r,e1,p,fs,W,g2 p W,k1⟩
 .let(j,u,r,rfl,p,fs,rfl,hx,U):=X;let M:XZ q (aW q e (.frz I (.own e))):=bz he _;let eE:(aW q e (.frz I (.own e))) e=cL (.frz I (.own e)):=az;generalize aW q e (.frz I (.own e))=H2 at M eE;ext:5;show⟨.ref e,W,e,I,C,m,p,fs,.int a,W,eE,N,hd,hn,L,hh,V,M _ _ hx,U,?_⟩;ext:5;rw[bg W];show G j H2 (u.trans (L10.X7.same M)) (r.grow M) (.bl V6) (.bl V6)
end
end K72
theorem Ub{α:Type}:∀{l:G α},l.length=1->∃a,l=[a]
 |[a],_=>⟨a,W⟩
theorem Uf{α:Type}:∀{l:G α},l.length=2->∃a b,l=[a,b]
 |[a,b],_=>⟨a,b,W⟩
theorem Vg{α:Type}:∀{l:G α},l.length=3->∃a b c,l=[a,b,c]
 |[a,b,c],_=>⟨a,b,c,W⟩
theorem VU{α:Type}:∀{l:G α},l.length=4->∃a b c d,l=[a,b,c,d]
 |[a,b,c,d],_=>⟨a,b,c,d,W⟩
local macro_rules| `(tactic|ext:2)=> `(tactic|(intro _ _ _ _ _ _ us hl;first|(obtain⟨_,h⟩:=Ub hl;subst h;kernel_rfl)|(obtain⟨_,_,h⟩:=Uf hl;subst h;kernel_rfl)|(obtain⟨_,_,_,h⟩:=Vg hl;subst h;kernel_rfl)|(obtain⟨_,_,_,_,h⟩:=VU hl;subst h;kernel_rfl)|(match us,hl with|[_,_,_,_,_],_=>rfl)|(match us,hl with|[_,_,_,_,_,_],_=>rfl)|(match us,hl with|[],_=>rfl)))| `(tactic|ext:8)=> `(tactic|(intro _ _ _ _ _ _ us hl;first|((have h1:us.length=1:=by simpa using hl);obtain⟨_,h⟩:=Ub h1;subst h;exact⟨_,rfl,rfl⟩)|((have h1:us.length=2:=by simpa using hl);obtain⟨_,_,h⟩:=Uf h1;subst h;exact⟨_,rfl,rfl⟩)|((have h1:us.length=3:=by simpa using hl);obtain⟨_,_,_,h⟩:=Vg h1;subst h;exact⟨_,rfl,rfl⟩)|((have h1:us.length=4:=by simpa using hl);(match us,h1 with|[_,_,_,_],_=>exact⟨_,rfl,rfl⟩))))| `(tactic|ext:6)=> `(tactic|first|exact List.forall_mem_nil _|(refine List.forall_mem_cons.mpr ⟨?_,?_⟩;(·first|(show WW _ _ _=_;k_is)|(show WI _ _ _=_;k_is));ext:6))| `(tactic|ext:9)=> `(tactic|first|(refine' L3.NI.mk ?a' ⟨_,L2.Dj ?b' ?c' ?d'⟩;(case a'=>k_is);(case b'=>k_is);(case c'=>k_is);(case d'=>k_is))|(refine' L3.MI.mk ?a' ?e' ⟨_,L2.Dj ?b' ?c' ?d'⟩;(case a'=>k_is);(case e'=>k_is);(case b'=>k_is);(case c'=>k_is);(case d'=>k_is))|(refine' L3.CI.mk ?a' ?b' ?c' ?d' ?e' ?f' ?g' ?i';(case a'=>k_is);(case b'=>k_is);(case c'=>k_is);(case d'=>k_is);(case e'=>k_is);(case f'=>k_is);(case g'=>k_is);(case i'=>ext:6))|(refine' L3.DI.mk ?a' ⟨_,L3.IU ?b' ?c' ?d' ?e'⟩;(case a'=>k_is);(case b'=>k_is);(case c'=>k_is);(case d'=>k_is);(case e'=>k_is))|k_is|k_exc|rfl|ext:6|left|(rw[<-aec];rfl))
namespace K72
open PySem L2 L3 CC
def F_lawH:FN:=L10.Ri F_law
def all_mk{l:adV}{w:WX}{K:lD}{h:Heap}{c:Str->b7 V5}{fa:Wd}
  {aew:Tok}
  {aep:Wd} {afc:Nat} {ae7:Array (b7 V5)}
  {adK:Tok}
  {adq:Wd} {aey:Nat} {ael:Array (b7 V5)}
  {r:Wd} {ab4:Nat} {ab9:Array (b7 V5)}
  {abV:Wd} {ac3:Nat} {ac6:Array (b7 V5)}
  {abx:Wd} {ZA:Tok}
  {afh:Wd} {abz:Tok}
  {f0 f1 f2 f3 f4 f5 f6 f7 f8 f9 f10 f11 f12 f13 f14 f15 f16 f17 f18 f f20 f21 f22 f23 f24 f25 f26 f27 f28 f29 f30 f31 f32 f33 m f35 f36 f37 q:Wd}
  {g n:Wd}
  {nmR qR:Str} {NR:Wd} {bsR:b5 V5} {snR:b5 Str} {akx:b5 V5} {abR:Bool} {aki:b7 Bool} {ddR:b7 Wd} {k0R k1R k2R k3R k5R:b7 V5}
  {ocN:V5} {odN:b7 Wd} {V:Array Za} {nN:Nat} {slN:Array (b7 V5)} (X:K.In h) (G:h.Ns Wx c) (hfa:c "law"=cL (.ref fa))
  (h0:NI K f0 "layer_of" (top 4))
  (h1:NI K f1 "looked_up" (top 8))
  (h2:NI K f2 "chords_over" (top 9))
  (h3:NI K f3 "chord_acts" (top 10))
  (h4:NI K f4 "_law_cell" (top 23))
  (h5:NI K f5 "_law_draw" (top 24))
  (h6:NI K f6 "_law_meaning" (top 25))
  (h7:NI K f7 "_law_bed" (top 26))
  (h8:NI K f8 "_law_text" (top 27))
  (h9:NI K f9 "_law_types" (top 28))
  (h10:NI K f10 "events_of" (top 15))
  (h11:NI K f11 "done_behind" (top 21))
  (h12:NI K f12 "step" (top 5))
  (F:NI K f13 "play" (top 6))
  (h14:NI K f14 "places_on" (top 20))
  (h15:DI K f15 abx "typing_rooms" (top 18) #v[.int 400 ZA])
  (D:DI K f16 afh "typed" (top 19) #v[.int 400 abz])
  (h17:NI K f17 "_law_refused" (top 29))
  (h18:NI K f18 "law" (top 30))
  (b:CI K f "Hand" ["bed","acts","waiting","once","sent"])
  (h20:MI K f f20 "__init__" "Hand.__init__" (aK (top 7) 0))
  (h21:MI K f f21 "stands" "Hand.stands" (aK (top 7) 1))
  (h22:MI K f f22 "is_waiting" "Hand.is_waiting" (aK (top 7) 2))
  (h23:MI K f f23 "has_act" "Hand.has_act" (aK (top 7) 13))
  (h24:MI K f f24 "come" "Hand.come" (aK (top 7) 11))
  (h25:MI K f f25 "go" "Hand.go" (aK (top 7) 12))
  (h26:MI K f f26 "decide" "Hand.decide" (aK (top 7) 10))
  (h27:MI K f f27 "makes_chord" "Hand.makes_chord" (aK (top 7) 4))
  (h28:MI K f f28 "put_to_chord" "Hand.put_to_chord" (aK (top 7) 5))
  (h29:MI K f f29 "begin" "Hand.begin" (aK (top 7) 6))
  (h30:MI K f f30 "press" "Hand.press" (aK (top 7) 3))
  (h31:MI K f f31 "settle" "Hand.settle" (aK (top 7) 8))
  (h32:MI K f f32 "lift" "Hand.lift" (aK (top 7) 7))
  (h33:MI K f f33 "wait_on" "Hand.wait_on" (aK (top 7) 9))
  (j:CI K m "Places" ["most","found","numbers"])
  (h35:MI K m f35 "enter" "Places.enter" (aK (top 16) 1))
  (h36:MI K m f36 "__init__" "Places.__init__" (aK (top 16) 0))
  (h37:MI K m f37 "way_to" "Places.way_to" (aK (top 16) 2))
  (t:WI K Wx "TooMany"=cL (cL (.ref g)))
  (acw:WI K Wx "BedError"=cL (cL (.ref n)))
  (xR:K.lookup g=cL (excClassObj nmR qR g NR bsR (.ref n::[.type "ValueError",.type "Exception",.type "BaseException",.type "object"]) V6 snR akx abR aki ddR k0R k1R k2R k3R k5R "ValueError.__new__"))
  (eI:Zc K n [.type "ValueError",.type "Exception",.type "BaseException",.type "object"] "ValueError.__new__"=V6)
  (lN:K.lookup NR=cL ⟨ocN,odN,.dict V nN,slN⟩)
  (Mg:(V.all λe=>match e.key with|.str _ _=>V6|_=>V8)=V6)
  (inN:WI K NR "__init__"=cL (cL (.ref q)))
  (saR:WW K (.ref g) "__setattr__"=cL (cL (.builtin "object.__setattr__")))
  (d:WW K (.ref g) "most"=cL Ld)
  (rdB:abc K n (.type "type")=V6)
  (fcB:abd K (.ref n) (.type "type") "__init__"=cL (.val (.builtin "ValueError.__init__")))
  (Da:YV K (.ref n) "__getattribute__"=cL (cL (.builtin "type.__getattribute__")))
  (gaR:WW K (.ref g) "__getattribute__"=cL (cL (.builtin "BaseException.__getattribute__")))
  (gtR:WW K (.ref g) "__getattr__"=cL Ld)
  (csR:WW K (.ref g) "__class__"=cL (cL (.builtin "object.__class__")))
  (obR:aeI K g (.type "object")=cL V6)
  (hdR:Yx K g=V6)
  (k:MI K g q "__init__" "TooMany.__init__" (aK (top 13) 0))
  (afj:WI K Wx "NONE"=cL (cL (.ref aep)))
  (aex:WI K Wx "CHORD"=cL (cL (.ref adq)))
  (ada:WI K Wx "AT_REST"=cL (cL (.ref abV)))
  (ac9:K.lookup abV=cL ⟨.type "tuple",Ld,.seq #v[.ref r,.none,.none] ac3,ac6⟩)
  (ab6:K.lookup r=cL ⟨.type "tuple",Ld,.seq #v[] ab4,ab9⟩)
  (aeh:K.lookup adq=cL ⟨.type "tuple",Ld,.seq #v[.str "chord" adK] aey,ael⟩)
  (afi:K.lookup aep=cL ⟨.type "tuple",Ld,.seq #v[.str "none" aew] afc,ae7⟩)
  (yb:∀x∈jr.bl,WI K Wx x=cL Ld):
  ∃fd:Xj,(∀(s:We) (v:V5),aaz s fd ⟨[v],[]⟩ [("_law_script",v)])/\∀base:Heap,K.In base->base.Ns Wx c->FnOk l.prog w K c base kg 13 fa fd ["_law_script"] (L3.y1 K 1 F_lawH):=by
 let af9:=Ls (xs:=[.str "none"]) (ds:=[(.str "none")]) afi (by show 1<=Wm;decide) (.cons ⟨_,rfl⟩ .nil) λO H=>(.cons (.str _) .nil);let ae8:=Ls (xs:=[.str "chord"]) (ds:=[(.str "chord")]) aeh (by show 1<=Wm;decide) (.cons ⟨_,rfl⟩ .nil) λO H=>(.cons (.str _) .nil);let acy:=Ls (xs:=[]) (ds:=[]) ab6 (by show 0<=Wm;decide) .nil λO H=>.nil;let adF:=Ls (xs:=[.ref r,.Ye,.Ye]) (ds:=[(.tuple []),.none,.none]) ac9 (by show 3<=Wm;decide) (.cons rfl (.cons rfl (.cons rfl .nil))) λO H=>(.cons (acy O H) (.cons .Ye (.cons .Ye .nil)));show h18.law X G hfa (by ext:2) λbase fd afZ=>?_;let W:Tp l.prog w K c base h:=⟨X,G⟩;let Mg:abr K NR=V6:=by ext abr;rw[lN];show Mg
 let XR:L4.Bw K g (.ref n::[.type "ValueError",.type "Exception",.type "BaseException",.type "object"]):=⟨_,_,_,_,_,_,_,_,_,_,_,_,_,_,_,_,xR⟩;let LR:L4.ac5 K g (.ref n::[.type "ValueError",.type "Exception",.type "BaseException",.type "object"]):=⟨XR,rfl,gaR,gtR,csR,obR⟩;let abw:L9.XC K g n q:=⟨⟨_,_,_,_,_,_,_,_,_,_,_,_,_,_,xR,Mg,inN⟩,eI,saR⟩;let aap:=X3 X G t;let ac0:=X3 X G acw;let(fdI,zI):=k.F;let(_,_,_,_,_,_,_,_,_,rfl,adh,_):=zI.ex;let adb:=k.i;let ac7:=B6 (P:=l.prog) (w:=w) (mg:=c) (base:=base) zI abw ac0 rdB fcB Da d;let acY:=zI.binds (ps:=["self","most"]) (by ext:2);let a:acA K c jr:=⟨λx hx=>PySem.W.mg_none_of X G (yb x hx),VH,(UH (Uj (X3 X G afj) af9) (UH (Uj (X3 X G aex) ae8) (UH (Uj (X3 X G ada) adF) Vs))),(US b.cf (US j.cf V3))⟩;let s0:=Vl (T:=bG) (P:=l.prog) (w:=w) (K:=K) (mg:=c) (base:=base);let s1:=jf s0 rfl (⟨_,_,_,_,_,_,abw,adh,adb,ac7,acY,t,aap⟩);let s2:=jf s1 rfl (h0.c W λ_ z=>nX a s1 z e1);let s3:=jf s2 rfl (h1.c W λ_ z=>nX a s2 z e2);let s4:=jf s3 rfl (h2.c W λ_ z=>nX a s3 z e3);let s5:=jf s4 rfl (h3.c W λ_ z=>nX a s4 z e4);let s6:=jf s5 rfl (h4.c W λ_ z=>nX a s5 z e5);let s7:=jf s6 rfl (h5.c W λ_ z=>nX a s6 z e6);let s8:=jf s7 rfl (h6.c W λ_ z=>nX a s7 z e7);let s9:=jf s8 rfl (h7.c W λ_ z=>nX a s8 z e8);let s10:=jf s9 rfl (h8.c W λ_ z=>nX a s9 z e9);let s11:=jf s10 rfl (h10.c W λ_ z=>nX a s10 z VN);let s12:=jf s11 rfl (h11.c W λ_ z=>nX a s11 z Vo);let s13:=jf s12 rfl (h20.k b W λ_ z=>jd a s12 z VQ);let s14:=jf s13 rfl (h21.mt b W λ_ z=>jd a s13 z VR);let s15:=jf s14 rfl (h22.mt b W λ_ z=>jd a s14 z VX);let i:=jf s15 rfl (h23.mt b W λ_ z=>jd a s15 z V1);let Z:=jf i rfl (h24.mt b W λ_ z=>jd a i z Vn);let Y:=jf Z rfl (h25.mt b W λ_ z=>jd a Z z Vt);let U:=jf Y rfl (h26.mt b W λ_ z=>jd a Y z VT);let S:=jf U rfl (h27.mt b W λ_ z=>jd a U z Vh);let R:=jf S rfl (h28.mt b W λ_ z=>jd a S z Vp);let Q:=jf R rfl (h29.mt b W λ_ z=>jd a R z VO);let N:=jf Q rfl (h30.mt b W λ_ z=>jd a Q z Vi);let M:=jf N rfl (h31.mt b W λ_ z=>jd a N z VS);let L:=jf M rfl (h32.mt b W λ_ z=>jd a M z V0);let J:=jf L rfl (h33.mt b W λ_ z=>jd a L z Vj);let p:=jf J rfl (h12.c W λ_ z=>jd a J z VD);let s28:=jf p rfl (F.c W λ_ z=>jd a p z U7);let I:=jf s28 rfl (F.c W λ_ z=>(jd a p z U7).imp (λ_ _ _ _ h=>L10.Qj h));let E:=jf I rfl (h9.c W λ_ z=>nX a I z VY);let C:=jf E rfl (h35.mt j W λ_ z=>QC a E z VG);let B:=jf C rfl (h36.k j W λ_ z=>QC a C z VJ);let A:=jf B rfl (h37.mt j W λ_ z=>jd a B z VP);let y:=jf A rfl (h14.d W λ_ z=>QC a A z VF);let o:=jf y rfl (h15.c (ds:=[.int 400 ZA]) W (.cons ⟨_,rfl⟩ .nil) λ_ z=>GQ a y z Vx);let s36:=jf o rfl (D.c (ds:=[.int 400 abz]) W (.cons ⟨_,rfl⟩ .nil) λ_ z=>GQ a o z L8);let u:=jf s36 rfl (D.c (ds:=[]) W .nil λ_ z=>GQ a o z L8);let s38:=jf u rfl (h17.c W λ_ z=>oi z (u 36 _ () rfl) aap LR rfl t hdR d);show(jd a s38 afZ Vy).imp λ_ _ _ _ h=>L10.OM h
end K72
local macro_rules|`(universe $i*)=>do
 let t:=fun (c:Lean.Name)=>`(theorem $(Lean.mkIdent ((`PySem.W.Fast).str ("tw"++toString c.hash))):ident:True:=trivial)
 let b:=`PySem.Challenge.cw_chordbed_k72_typed_holds
 let o←(List.range 442).mapM fun n=>t (b.str ("o_"++toString n))
 let l←i.mapM fun j=>t (b++j.getId)
 return Lean.mkNullNode (((o.toArray++l).push (←t `PySem.Challenge.pw_chordbed_k72_typed)))
universe heap_39 heap_442 view_39 tree_441 tree_379 tree_326 sts_380 tree_299 sts_74 tree_183 tree_264 sts_327 sts_49 sts_268 sts_300 tree_73 heap_46 tree_47 env_41
open PySem PySem.W PyProof.Rows
set_option maxRecDepth 100000 in
set_option maxHeartbeats 0 in
theorem PySem.Challenge.cw_chordbed_k72_typed_holds : PySem.Challenge.rw_chordbed_k72_typed.Holds := by
 w_on;o_law;k_head;(case hw=>w_witness2)
 k_fill
 refine L3.To (l:=PySem.Challenge.rw_chordbed_k72_typed) (n:=63) (k:=13) (x:= "_law_script") (F:=K72.F_lawH) rfl (by decide) rfl ⟨rfl,by decide,by decide⟩ (λw h Y=>PySem.W.kIn_of Y) ?F K72.main
 case F=>
  intro w e f h b G a
  apply K72.all_mk b G a
  all_goals ext:9
