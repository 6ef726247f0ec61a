import PyProof.Rows.All
import Wide.All
import OpenK.AllK
import Wide.FinOn
import Lean
import PyProof.EqAt
import PyProof.EqKinds
import PyProof.TupleCall
import KE.KIntText
import KE.KRevSl
import PyProof.Rows.SeqMore
import PyProof.WalkInts
import PyProof.Rows.MinMaxN
import PyProof.ExcInit
import OpenK.KMake
import PyProof.InstStoreFacts
import PyProof.FString2
import PyProof.Rows.FStr
import PyProof.Rows.SetFrom
import PyProof.SeqRoads2
import PyProof.RangeFor
import PyProof.WalksMore
import PyProof.StrBlock2
import PyProof.Rows.SortShell
import PyProof.TupleOfSeq
import KE.KDictList
import KE.KDictOf
import PyProof.IsiH_tuple
import PyProof.Rows.RuleN_abs
import PyProof.Rows.Range3
import KE.KRevIter
import PyProof.StrLawsRepr
import PyProof.ReprStr
import PyProof.IsiH_list
import PyProof.Rows.TupDisplay
import PySem.Challenge.RW_chordbed_k44_whole_no_machine_has_fewer
set_option compiler.extract_closed false
set_option genSizeOf false
set_option genInjectivity false
set_option Elab.async false
set_option linter.all false
set_option maxRecDepth 100000
abbrev av:=@if_pos
abbrev ax:=@if_neg
abbrev aE:=@decide_eq_true
abbrev aP:=@decide_eq_false
abbrev a6:=@of_decide_eq_true
abbrev a7:=@absurd
abbrev bb:=@Or.inl
abbrev bg:=@Or.inr
abbrev br:=@List
abbrev bP:=@Option
abbrev cj:=@PySem.Heap.get?_push_of_some
abbrev cn:=@PySem.Heap.lt_size
abbrev cN:=@PySem.Heap.get?_push_size
abbrev da:=@PySem.Heap.get?_update_other
abbrev dk:=@PySem.Heap.get?_update_self
abbrev dt:=@PySem.Heap.size_push
abbrev dN:=@PySem.Heap.get?_none_of_le
abbrev dP:=@PySem.Obj.data_mapFields
abbrev d0:=@PySem.Obj.isFreed_of_fields
abbrev d3:=@Ne.symm
abbrev eh:=@congrArg
abbrev ej:=@beq_self_eq_true
open Lean in
def cvP:Nat→TSyntax `term→MacroM (TSyntax `rcasesPat)
 |0,_=>Macro.throwUnsupported
 |n+1,t=>let f:=fun (a:Array Term)=>do
   let l←(←a.mapM (cvP n)).mapM fun p=>`(Lean.Parser.Tactic.rcasesPatLo|$p:rcasesPat)
   `(rcasesPat|⟨$l,*⟩)
  match t with
  |`(⟨$a,*⟩)=>f a
  |`(($a,$b,*))=>f (#[a]++b.getElems)
  |`($i:ident)=>`(rcasesPat|$i:ident)
  |`(_)=>`(rcasesPat|_)
  |_=>Macro.throwUnsupported
local macro_rules|`(tactic|let $d:letDecl)=>`(tactic|have $d:letDecl)
local macro_rules|`(tactic|let $p:term:=$e)=>if p.raw.isIdent then Lean.Macro.throwUnsupported else do let q←cvP 9 p;`(tactic|obtain $q:rcasesPat:=$e)
local macro_rules|`(tactic|left)=>`(tactic|decide+kernel)|`(tactic|change $e)=>`(tactic|with_reducible exact $e)|`(tactic|specialize $e)=>`(tactic|with_reducible refine $e)
local macro_rules|`(tactic|exists $e)=>`(tactic|with_reducible apply $e)|`(def $i:declId $s:optDeclSig $v:declVal)=>if v.raw[1].isOfKind ``Lean.Parser.Term.byTactic then `(theorem $i:declId $(⟨Lean.mkNode ``Lean.Parser.Command.declSig #[s.raw[0],s.raw[1][0]]⟩):declSig $v:declVal) else `(noncomputable def $i:declId $s:optDeclSig $v:declVal)|`(abbrev $i:declId $s:optDeclSig $v:declVal)=>`(noncomputable abbrev $i:declId $s:optDeclSig $v:declVal)
local macro_rules|`(tactic|ext)=>`(tactic|decide)
local macro_rules|`(tactic|ext)=>`(tactic|omega)
local macro_rules|`(tactic|ext)=>`(tactic|lia)
local macro_rules|`(tactic|show $e)=>`(tactic|refine $e)
local macro_rules|`(tactic|ext $i:ident)=>`(tactic|cases $i:ident)
local macro_rules|`(tactic|ext $i:ident)=>`(tactic|unfold $i:ident)
local macro_rules|`(#[$a,*])=>`(⟨$a,*⟩)|`(#v[$a,*])=>`(List.toArray [$a,*])
local macro_rules|`(())=>`(by ext)
open Option renaming some->lD,none->Wh,map_eq_some_iff->ZI,isSome_map->acb,getD_some->acs,isSome_iff_exists->adw,isSome_some->aeY,toList_none->ae0,getD_none->afv
open PySem.W renaming Frag->Ld,nsIn->WW,findIn->Xy,mg_none_of->XO,emptyDict->X5,fnOf->X6,keepIn->Yh,mg_of->Yt,instObj->YA,isFn->Zc,kia_one->Zq,specialIn->ZG,cellsFrom_some->ZH,plainGet->ZP,codeIn->aah,hasDictIn->aaq,methodCall_KW->aa1,lookIn->aa6,tailIn->abc,plainGet_of->abv,excIn->abz,callWith_K->abJ,methodObj->abX,plainOver->abY,takerIn->acC,makesIn->acD,readsIn->acG,findCls->acH,nsOkIn->acR,pyHash_slot->aeq,tail_of_in->aez,handedIn->ae9,OpenLaw->afw,typeIn->afL,kitOne->afM,clsIn->agl
open PySem renaming wpAny_bind->Wf,Value->Wi,PyData->Wn,Addr->Wo,Shared->Ws,wpAny_pure->Wt,sizeLine->WG,mainGlobals->WN,Program->WX,starEach->W5,Builtin->W7,Around->W8,wpAny_field->Xd,NameKind->Xf,World->Xm,wpAny_newObj_type->Xx,Expr->XB,FuncData->XF,bootBuiltins->XS,wpAny_callSpecial?_slot->X0,wpAny_setField->X1,wpAny_holding->X2,sysModules->X4,wpAny_seqItems->Ya,swapsWith->Yc,compareOp->Yl,wpAny_call_entry->Ym,mem_of_lookup->Yr,wpAny_truthy_bool->Yv,binaryOp->Yx,cellsFrom->YC,Stmt->YK,sizeLine_eq->YO,wpAny_loadPart_at->YQ,wpAny_standAt->YU,wpAny_Call_Name_kw->Y2,call_meets->Y3,wpAny_setField_rec->Y4,wpAny_passesOwn->Zb,Scope->Zt,wpAny_letGo->Zu,plainId_quiet->ZJ,codeAny_builtin->ZM,PassesOwn->ZU,DictEntry->ZV,wpAny_typeOf->Z7,ExcBaseFacts->Z9,wpAny_rule->aai,codeAny_call_builtin->aal,wpAny_execs_nil->aat,wpAny_pyIter_list->aaz,wpAny_isSubtype_exc->aaA,IsPart->aa7,wpAny_comprehension_free->abb,GenState->abu,BindsTo->abG,wpAny_call->abH,codeAny_mono->abI,wpAny_pyIter_tuple->ab0,wpAny_updateSeq_pair->acg,wpAny_tryCatch->ach,wpAny_onRaise->acM,typeIs_int->acP,tupleKind_room_in1->acQ,Keyword->adb,wpAny_sequenceKey->adf,Reads->adg,ZipApart->adh,call_meetsIn->adi,wpAny_Call_ofName->adj,eqIsQuiet_byValue->adk,plainObj_wpAny_Assign_Attribute->adv,Result->adE,wpAny_isInstance->adG,wpAny_of_eq->adW,Within->ad6,pushCells_keeps->ad7,wpAny_updateSeq->ad9,OsState->aep,Code->aew,ReadsAll->aex,IsZip->aey,wpAny_binaryOp_repeat_ref->aeZ,evalPart_none->afa,Drawn->afs,Model->aft,wpAny_Assign_Subscript->afN,wpAny_isTrue_Compare1->agi,builtinLookup_eq_fast->agn,wpAny_notOrdered_dict->ago,wpAny_mkInt->agA,wpAny_pyIter_revIter->agB,wpAny_raiseNew_none->ag8,wpAny_Name->ahs,wpAny_Constant_int->aht,wpAny_load->ahv,wpAny_getItem_heap->ahx,wpAny_setItem_heap->ahy,wpAny_entryPlaceOf->ahz,passOn->ahA,wpAny_assign_Name->aic,slot_list_getitem->aid,wpAny_Call_method->aie,wpAny_frameOf_fun->aif,OwnTail->aih,wpAny_dictEntries->aii,wpAny_pyHash_int->aiK,wpAny_pyHash_str->aiL,wpAny_execs_cons->aiM,wpAny_lookBehind->aiO,pastItsLine_dict->aiP,noFill_tuple_add->aiQ,call->aiT,wpAny_pyIter_zip->aiV,beq_builtin_none->aiX,wpAny_specialOf->aj0,typeLookup_type->aj1,size_of_entries->aj4,wpAny_loadPart->ak8,refuseLoop_ref->alf,HeapKind->alg,intBits_le_64->ank,seq_tuple_add->anl,call_list_seq->anm,eval_ListComp->ano,wpAny_attempt->anp,strLen_append->anq,wpAny_newList->anr,ItemsOf->ans
open List renaming length_map->Wg,getElem?_eq_some_iff->Wj,range->Wk,length_append->Wm,getElem?_eq_getElem->Wr,getElem?_map->Wv,length_range->Wy,replicate->Wz,size_toArray->WA,getElem?_append_left->WB,mem_of_getElem?->WC,mem_cons_of_mem->WH,map_append->WI,length_cons->WJ,mem_cons_self->WK,map_cons->WL,mem_singleton->WO,map_map->WQ,lookup_cons->WT,append_assoc->WY,mem_cons->W2,append_nil->W4,getElem?_append_right->Xb,mem_map->Xe,Nodup->Xi,getElem?_set_ne->Xj,length_replicate->Xl,mem_append->Xn,find?_cons->Xv,getElem?_set_self->Xw,mem_range->Xz,mem_append_right->XG,replicate_succ->XJ,length_set->XQ,length_take->XT,getElem?_set->XW,not_mem_nil->Yf,nodup_cons->Yp,nil_append->Yq,map_congr_left->Ys,getElem_mem->Yw,mem_iff_getElem?->Yz,drop_eq_getElem_cons->YF,length_nil->YG,flatten_cons->YI,take_add_one->YJ,getElem?_replicate->YR,all_eq_true->YS,lookup->YY,mem_filter->YZ,lookup_cons_self->Y1,getElem_toArray->Ze,map_nil->Zi,prefix_refl->Zk,filterMap_cons->Zp,length_reverse->Zr,range_succ->ZD,pairwise_cons->ZF,drop_eq_nil_of_le->ZL,nodup_append->ZN,any_cons->Z8,mem_append_left->aab,pairwise_append->aac,of_mem_zip->aaf,mem_filterMap->aap,contains_cons->aar,reverse_cons->aaE,pairwise_map->aaF,filter_cons->aaW,take_length->aaX,pairwise_singleton->aaY,foldl->aa4,take_of_length_le->aa5,foldl_cons->aa8,forIn_cons->aba,length_singleton->abp,length_filter_le->abq,length->abx,mem_iff_getElem->aby,nodup_nil->abA,map_inj_right->acd,foldl_append->acv,any_eq_true->acN,getElem?_concat_length->adm,forIn_nil->ady,drop_zero->adz,take_zero->adA,mem_of_find?_eq_some->adH,getElem?_take_of_lt->adV,filterMap_cons_none->ad0,filterMap_cons_some->ad1,getElem?_cons_succ->ad8,getElem?_cons_zero->aea,pairwise_lt_range->aet,getElem?_reverse->aeB,getElem?_range->afb,mem_map_of_mem->afd,filterMap_map->afu,set_cons_zero->afx,set_cons_succ->afy,getElem_range->afz,prefix_append->afA,map_singleton->afB,length_drop->agj,zipIdx_cons->agk,cons_append->agm,zipIdx_nil->agz,length_zip->agE,all_map->aij,set->anu,map->anv
open Bool renaming true->Wl,false->Wu,false_ne_true->WM,and_eq_true->WU,and_self->Y0,true_or->Zj,false_eq_true->ZE,false_and->ZK,or_eq_true->aag,false_or->aaM,true_and->ab1,and_true->ab2,or_true->acu,not_true->adY,or_eq_false_iff->ae1,eq_false_iff->afO,eq_iff_iff->agy,and_false->ag6,or_false->ahw
open Nat renaming le_refl->Ww,le_of_ble_eq_true->Wx,ne_of_lt->WZ,lt_of_lt_of_le->W0,le_trans->Xo,zero_le->Xq,zero_add->Xt,lt_irrefl->XU,ne_of_gt->XX,add_assoc->Yj,lt_succ_self->Yy,le_of_eq->Zm,le_of_lt->ZO,lt_trans->ZQ,le_of_succ_le->aaK,lt_succ_of_lt->aaL,min_le_right->aa2,add_sub_cancel_left->aa3,mul_le_mul->abK,lt_of_le_of_lt->acf,lt_of_le_of_ne->aci,add_comm->acE,lt_trichotomy->acJ,le_succ->ac6,sub_self->aeA,add_sub_cancel'->afD,le_add_right->agD,min_eq_left->ag9,not_lt_zero->ahb,succ_mul->aiS,sub_zero->aiW,lt_or_ge->ai0,max_le->ali
open Option.some renaming inj->WE
open PyProof.Rows renaming envOfC->W6,slot_tuple_getitem->Xr,callWith_type1->YT,callWith_builtin1->ajZ,kws_cons->aj2,kws_nil->aj3
open Array renaming getElem?_eq_some_iff->Xa,length_toList->XD,getElem?_setIfInBounds_self_of_lt->Yg,getElem?_setIfInBounds_ne->ZR,getElem?_toList->aer,find?_toList->ae8,forIn_toList->afc,toList->ahu
open PySem.F renaming plainAttrs_list->Xh,slot_list_index->XH,slot_list_append->Yd,type_list_append->Ye,type_list_index->Yk,excBase_ValueError->Y5,plainAttrs_dict->ZA,args_list_index_2->aam,slot_dict_values->aau,entry_list_index->aav,slot_dict_setdefault->acI,slot_dict_getitem->ac7,args_tuple_add_2->ade,slot_list_extend->adn,type_list_extend->ado,type_dict_values->adp,entry_tuple_add->adx,slot_tuple_add->adF,slot_dict_pop->adX,slot_dict_len->adZ
open Int renaming toNat_natCast->XN,le_refl->aaN,toNat_of_nonneg->abZ,ofNat->acS,fdiv_eq_ediv_of_nonneg->adD,toNat->aes,emod_lt_of_pos->afP,le_antisymm->ag7,emod_nonneg->aha,ediv_one->aiR,zero_add->aiU
open Nat.le renaming dest->Y9
open List.Pairwise renaming nil->aa9,filterMap->aiY,filter->aiZ
open List.Perm renaming refl->acF,swap->aoR
open PySem.SeqAt renaming eqv_refl->adl,compareEq_reads->ak9,compareNe_reads->ala,in_list_reads->alb,in_tuple_reads->alc,notIn_list_reads->ald,notIn_tuple_reads->ale,eqAt_reads->alh
open Int.ofNat renaming inj->afC
open Nat.succ renaming inj->agp
open PySem.SeqAt.Reads renaming unique->agC
open PySem.PassesOwn renaming never->ahB
open PySem.W.Looks renaming here->aiN
open PySem.Within renaming cons->ajY
open List.Nodup renaming sublist->ant
open PySem.IsL renaming update->aoQ
open List.cons renaming injEq->aoS
abbrev W:=@rfl
abbrev G:=@List
abbrev I:=@Option
open Option renaming some->R,none->U
open Bool renaming true->P
open PySem renaming Addr->M,Value->B
namespace L2
open PySem PySem.Spec PyProof.Rows
abbrev dI:=Sum Int Str
def xl:dI->B->Bool
 |.inl k,v=>Wi.isInt k v
 |.inr x,v=>Wi.isStrOf x v
def Vs(w:Xm):dI->Int
 |.inl k=>hashInt k
 |.inr x=>hashStr w x
theorem d6:∀{k:dI} {v:B},xl k v=P->(∃i t,k=Sum.inl i/\v=Wi.int i t)\/(∃x t,k=Sum.inr x/\v=Wi.str x t)
 |.inl i,v,h=>by let(t,e):=Wi.isInt_shape h;show .inl #[i,t,W,e]
 |.inr x,v,h=>by let(t,e):=Wi.isStrOf_shape h;show .inr #[x,t,W,e]
def Io(i:Int)(t:Tok):xl (.inl i) (.int i t)=P:=by simp[xl,Wi.isInt]
def G8(x:Str)(t:Tok):xl (.inr x) (.str x t)=P:=by simp[xl,Wi.isStrOf]
def Sw(a b:Int):decide ((Sum.inl a:dI)=Sum.inl b)=(a==b):=by
 by_cases e:a=b
 .subst e;simp
 .let h:¬(Sum.inl a:dI)=Sum.inl b:=λq=>e (Sum.inl.inj q);rw[aP h];show(beq_eq_false_iff_ne.mpr e).symm
def Sb(a b:Str):decide ((Sum.inr a:dI)=Sum.inr b)=decide (a=b):=by
 by_cases e:a=b
 .subst e;simp
 .let h:¬(Sum.inr a:dI)=Sum.inr b:=λq=>e (Sum.inr.inj q);rw[aP h,aP e]
theorem S5(a:Int)(b:Str):decide ((Sum.inl a:dI)=Sum.inr b)=Wu:=aP (λq=>nomatch q)
theorem RP(a:Str)(b:Int):decide ((Sum.inr a:dI)=Sum.inl b)=Wu:=aP (λq=>nomatch q)
def dY(prog:WX)(w:Xm):PySem.KeyKind prog w dI where
 is:=xl
 hash:=Vs w
 inj:=λv a b m g=>by
  rcases d6 m with⟨i,t,rfl,rfl⟩|⟨x,t,rfl,rfl⟩
  .rcases d6 g with⟨j,u,rfl,e⟩|⟨y,u,rfl,e⟩
   .injection e with e1 _;rw[e1]
   .show nomatch e
  .rcases d6 g with⟨j,u,rfl,e⟩|⟨y,u,rfl,e⟩
   .show nomatch e
   .injection e with e1 _;rw[e1]
 byValue:=λk v h=>by rcases d6 h with⟨i,t,rfl,rfl⟩|⟨x,t,rfl,rfl⟩<;>rfl
 pyHash:=λf h=>by
  rcases d6 f with⟨i,t,rfl,rfl⟩|⟨x,t,rfl,rfl⟩
  .show aiK h
  .show aiL h
 eqBool:=λl f h=>by
  rcases d6 l with⟨i,t,rfl,rfl⟩|⟨x,t,rfl,rfl⟩
  .rcases d6 f with⟨j,u,rfl,rfl⟩|⟨y,u,rfl,rfl⟩
   .rw[Sw]at h;show wpAny_eqBool_int h
   .rw[S5]at h;show SeqAt.EqAt.int_str i t y u _ _ _ _ h
  .rcases d6 f with⟨j,u,rfl,rfl⟩|⟨y,u,rfl,rfl⟩
   .rw[RP]at h;show SeqAt.EqAt.str_int x t j u _ _ _ _ h
   .rw[Sb]at h;show wpAny_eqBool_str h
 «strs»:=λk x t v h=>by
  rcases d6 h with⟨i,u,rfl,e⟩|⟨y,u,rfl,e⟩
  .show nomatch e
  .injection e with e1 _
   subst e1;ext v<;>rfl
theorem A5(prog:WX)(w:Xm)(i:Int)(t:Tok):(dY prog w).is (.inl i) (.int i t)=P:=Io i t
theorem AE(prog:WX)(w:Xm)(x:Str)(t:Tok):(dY prog w).is (.inr x) (.str x t)=P:=G8 x t
inductive V where
 |YM|bl (b:Bool)|int (i:Int)|str (x:Str)|byt (b:Array UInt8)|flt (b:UInt64)|ref (a:M)|ty (n:String)
 deriving DecidableEq
def RelV:V->B->Prop
 |.YM,u=>u=Wi.none
 |.bl b,u=>u=Wi.bool b
 |.int i,u=>∃t,u=Wi.int i t
 |.str x,u=>∃t,u=Wi.str x t
 |.byt b,u=>∃t,u=Wi.bytes b t
 |.flt b,u=>∃t,u=Wi.float b t
 |.ref a,u=>u=Wi.ref a
 |.ty n,u=>u=Wi.type n
abbrev Vals:G V->G B->Prop:=Paired RelV
theorem Vals.length(r:Vals xs us):xs.length=us.length:=Paired.length r
theorem Vals.get:∀{xs:G V} {us:G B} {i:Nat} {x:V},Vals xs us->xs[i]?=R x->∃u,us[i]?=R u/\RelV x u
 |_,_,_,_,.nil,e=>by simp at e
 |_,_,0,_,.cons r _,e=>by simp at e;subst e;show#[_,W,r]
 |_,_,i+1,x,.cons _ t,e=>by let(u,b,a):=Vals.get t (by simpa using e);show#[u,by simpa using b,a]
theorem Vals.append:∀{xs a:G V} {us ws:G B},Vals xs us->Vals a ws->Vals (xs++a) (us++ws)
 |_,_,_,_,.nil,s=>s
 |_,_,_,_,.cons r t,s=>.cons r (Vals.append t s)
theorem Vals.take:∀{xs:G V} {us:G B} (n:Nat),Vals xs us->Vals (xs.take n) (us.take n)
 |_,_,0,_=>.nil
 |_,_,_+1,.nil=>.nil
 |_,_,n+1,.cons r t=>.cons r (Vals.take n t)
theorem Vals.drop:∀{xs:G V} {us:G B} (n:Nat),Vals xs us->Vals (xs.drop n) (us.drop n)
 |_,_,0,r=>r
 |_,_,_+1,.nil=>.nil
 |_,_,n+1,.cons _ t=>Vals.drop n t
def aaJ:I V->I B->Prop
 |some v,R u=>RelV v u
 |none,U=>True
 |_,_=>False
def KV:G (a×V)->G (a×B)->Prop:=Paired λ(p:a×V) (q:a×B)=>p.1=q.1/\RelV p.2 q.2
def kV:dI->V
 |.inl i=>.int i
 |.inr x=>.str x
inductive HO where
 |lst (xs:G V)
 |tup (xs:G V)
 |dK (W3:G (dI×V))|dT (W3:G (G dI×V))
 |set (S:Int->Bool) (n:Nat)
 |ins (C dx:M) (fs:G (Str×V))
 |own (x:M)
 |xd (fs:G (Str×V))
 |met (f x:M)
 |rng (lo hi:Int)
 |frz (o:Obj) (u:HO)
 |tbl (ps:Array B)
 |ext (φ:Heap->Prop)
 |exw (φ:Xm->Heap->Prop)
abbrev Hp:=M->I HO
def bW(H:Hp)(a:M)(o:HO):Hp:=λb=>if b=a then R o else H b
def aY:bW H a o a=R o:=by ext bW;rw[av W]
def aU(h:b≠a):bW H a o b=H b:=by ext bW;rw[ax h]
def UG{H:Hp}{a b:M}{o u:HO}(h:H a=R o)(c:H b=R u)(d:o≠u):a≠b:=by intro e;subst e;rw[h]at c;show d (WE c)
def cM{H:Hp}(h:H a=R o)(c:H b=U):a≠b:=by intro e;subst e;rw[h]at c;ext c
def aco(h:Heap)(a:M)(b:Array B):Prop:=∃o,h.get? a=R o/\(o.cls=.type "tuple"/\∃n,o.data=.seq b n)/\o.dict=U
theorem aco.tup(x:aco h a items):IsTup h a items:=let#[o,e,c,_]:=x;#[o,e,c]
theorem aco.lt(x:aco h a items):a<h.objs.size:=let#[_,e,_]:=x;cn e
theorem aco.new(h:Heap)(xs:Array B):aco (h.push {cls:=.type "tuple",data:=.seq xs}) h.objs.size xs:=#[_,cN _ W,#[W,_,W],W]
section
variable(P:WX)(w:Xm)
def ObjOk(H:Hp)(h:Heap)(a:M):HO->Prop
 |.lst xs=>xs.length<=WG/\∃(b:G B) (n:Nat),Vals xs b/\h.get? a=R {cls:=.type "list",data:=.seq b.toArray n}
 |.tup xs=>xs.length<=WG/\∃b:G B,Vals xs b/\aco h a b.toArray
 |.dK l=>l.length<=WG/\(a==X4)=Wu/\∃r,KV l r/\h.DictOf (dY P w) a r
 |.dT l=>l.length<=WG/\(a==X4)=Wu/\∃xs:G (G dI×M×B),
   Paired (λ(p:G dI×V) (q:G dI×M×B)=>p.1=q.1/\H q.2.1=R (.tup (p.1.map kV))/\RelV p.2 q.2.2) l xs/\
   ∃o y E,h.get? a=R o/\o.ExactDict/\o.data=.dict y E/\y.toList=xs.map (entryOfKey (tupleKind (dY P w)))/\(xs.map (·.1)).Nodup
 |.set S n=>h.SetOf (intKind P w) a S n
 |.ins C m fs=>H m=R (.own a)/\fs.length<=1000/\m≠a/\h.get? a=R (YA C m)/\
   ∃g,h.Ns1 m g/\(∀f,aaJ (fs.lookup f) (g f))/\ad6 g (fs.map (·.1))
 |.own _=>∃o,h.get? a=R o
 |.xd fs=>∃g,h.Ns1 a g/\∀f,aaJ (fs.lookup f) (g f)
 |.rng lo A=>∃t u v,h.get? a=R {cls:=.type "range",data:=.fields #v[.int lo t,.int A u,.int 1 v]}
 |.frz o u=>h.get? a=R o/\ObjOk H h a u
 |.tbl z=>h.get? a=R {cls:=.none,data:=.fields z}
 |.met f x=>h.get? a=R (abX (.ref f) (.ref x))
 |.ext e=>e h/\(∃o,h.get? a=R o)/\∀j i:Heap,e j->(∀o,j.get? a=R o->i.get? a=R o)->e i
 |.exw e=>e w h/\(∃o,h.get? a=R o)/\∀j i:Heap,e w j->(∀o,j.get? a=R o->i.get? a=R o)->e w i
def HOk(H:Hp)(h:Heap):Prop:=∀a o,H a=R o->ObjOk P w H h a o
end
section
variable{P:WX}{w:Xm}{H Z:Hp}{h h':Heap}{a:Wo}{o:HO}
def ObjOk.lt(x:ObjOk P w H h a o):a<h.objs.size:=by
 cases o with
 |lst xs=>let(_,_,_,_,e):=x;show cn e
 |tup xs=>let(_,_,_,p):=x;show p.lt
 |dK i=>let(_,_,_,_,o,_,_,e,_):=x;show cn e
 |dT i=>let(_,_,_,_,o,_,_,e,_):=x;show cn e
 |set S n=>let(o,_,_,_,e,_):=x;show cn e
 |ins C m fs=>let(_,_,_,e,_):=x;show cn e
 |own y=>let(_,e):=x;show cn e
 |xd fs=>let(_,(_,_,_,e,_),_):=x;show cn e
 |rng lo l=>let(_,_,_,e):=x;show cn e
 |frz b u=>let(e,_):=x;show cn e
 |tbl j=>show cn (show h.get? a=R _ from x)
 |met f y=>show cn (show h.get? a=R _ from x)
 |ext g=>let(_,(_,e),_):=x;show cn e
 |exw g=>let(_,(_,e),_):=x;show cn e
theorem Paired.aax:∀{d:br α} {c:br β},Paired F d c->(∀a b,F a b->e a b)->Paired e d c
 |_,_,.nil,_=>.nil
 |_,_,.cons r t,f=>.cons (f _ _ r) (Paired.aax t f)
def ObjOk.aaG(x:ObjOk P w H h a o)(k:∀b u,(b=a\/H b=R (.own a))->h.get? b=R u->h'.get? b=R u)
  (G:∀b,H b=R (.own a)->Z b=R (.own a)) (F:∀b xs,H b=R (.tup xs)->Z b=R (.tup xs)):ObjOk P w Z h' a o:=by
 induction o with
 |lst xs=>let(z,B,n,r,e):=x;show#[z,B,n,r,k _ _ (.inl W) e]
 |tup xs=>let(z,B,r,g,e,c):=x;show#[z,B,r,g,k _ _ (.inl W) e,c]
 |dK N=>let(z,y,L,r,g,i,j,e,c):=x;show#[z,y,L,r,g,i,j,k _ _ (.inl W) e,c]
 |dT N=>let(z,y,xs,r,g,i,j,e,c):=x;show#[z,y,xs,Paired.aax r λp q z=>#[z.1,F _ _ z.2.1,z.2.2],g,i,j,k _ _ (.inl W) e,c]
 |set S n=>let(g,i,j,t,e,c):=x;show#[g,i,j,t,k _ _ (.inl W) e,c]
 |ins C Q fs=>let(d,z,ne,e,A,(m,i,j,I,c),r):=x;show#[G _ d,z,ne,k _ _ (.inl W) e,A,#[m,i,j,k _ _ (.inr d) I,c],r]
 |own y=>let(g,e):=x;show#[g,k _ _ (.inl W) e]
 |xd fs=>let(A,(m,i,j,e,c),r):=x;show#[A,#[m,i,j,k _ _ (.inl W) e,c],r]
 |rng lo O=>let(t,u,v,e):=x;show#[t,u,v,k _ _ (.inl W) e]
 |frz g u E=>let(e,q):=x;show#[k _ _ (.inl W) e,E q]
 |tbl J=>let e:h.get? a=R {cls:=.none,data:=.fields J}:=x;show h'.get? a=R {cls:=.none,data:=.fields J};show k a _ (.inl W) e
 |met f y=>let e:h.get? a=R (abX (.ref f) (.ref y)):=x;show h'.get? a=R (abX (.ref f) (.ref y));show k a _ (.inl W) e
 |ext K=>let(p,(o,e),l):=x;show#[l _ _ p λo q=>k _ _ (.inl W) q,#[o,k _ _ (.inl W) e],l]
 |exw K=>let(p,(o,e),l):=x;show#[l _ _ p λo q=>k _ _ (.inl W) q,#[o,k _ _ (.inl W) e],l]
theorem HOk.lt(x:HOk P w H h)(e:H a=R o):a<h.objs.size:=(x a o e).lt
def HOk.fresh(x:HOk P w H h)(e:h.objs.size<=a):H a=U:=by
 cases q:H a with
 |none=>rfl
 |some u=>show a7 (W0 (x.lt q) e) (XU _)
theorem HOk.kept(x:HOk P w H h)(k:∀b u,h.get? b=R u->h'.get? b=R u):HOk P w H h':=λa o e=>
 (x a o e).aaG (λb u _ q=>k b u q) (λ_ q=>q) λ_ _ q=>q
theorem HOk.laid(x:HOk P w H h)(k:∀b u,h.get? b=R u->h'.get? b=R u)(g:h.objs.size<=a)(new:ObjOk P w (bW H a o) h' a o):HOk P w (bW H a o) h':=λb u e=>by
 let i:=x.fresh g;by_cases f:b=a
 .subst f;rw[aY]at e;ext e;show new
 .rw[aU f]at e;show(x b u e).aaG (λc v _ q=>k c v q) (λc q=>by rw[aU (cM q i)];show q) λc xs q=>by rw[aU (cM q i)];show q
end
def Rd(H:Hp)(a:M)(u:HO):Prop:=H a=R u\/∃o,H a=R (.frz o u)
def Rd.ok(r:Rd H a u)(x:HOk b w H h):ObjOk b w H h a u:=by
 rcases r with r|⟨o,r⟩
 .show x a u r
 .let(_,q):=x a _ r;show q
def UL:I HO->Prop
 |some (.lst _)=>True
 |some (.dK _)=>True
 |some (.dT _)=>True
 |some (.set _ _)=>True
 |some (.ins _ _ _)=>True
 |some (.ext _)=>True
 |some (.exw _)=>True
 |_=>False
section
variable{P:WX}{w:Xm}{H:Hp}{h h':Heap}{x e:Wo}{Z:HO}
theorem HOk.write(ok:HOk P w H h)(g:UL (H x))(o:e=x\/H e=R (.own x))(k:∀b u,b≠e->h.get? b=R u->h'.get? b=R u)(l:∃u,h'.get? e=R u)
  (new:ObjOk P w (bW H x Z) h' x Z):HOk P w (bW H x Z) h':=λb u q=>by
 let f:∀c y,H c=R (.own y)->c≠x:=λc y r z=>by subst z;rw[r]at g;show g
 let m:∀c xs,H c=R (.tup xs)->c≠x:=λc xs r z=>by subst z;rw[r]at g;show g
 by_cases j:b=x
 .subst j;rw[aY]at q;ext q;show new
 .rw[aU j]at q
  by_cases a:b=e
  .let n:H b=R (.own x):=by
    rcases o with z|z
    .show a7 (a.trans z) j
    .rw[a];show z
   rw[q]at n;ext n;let(v,p):=l;show#[v,by rw[a];show p]
  .show(ok b u q).aaG (λc v i r=>k c v ?_ r) (λc r=>by rw[aU (f c b r)];show r) λc xs r=>by rw[aU (m c xs r)];show r
   rcases i with rfl|i
   .show a
   .rintro rfl
    rcases o with z|z
    .show f c b i z
    .rw[i]at z;ext z;show j W
end
structure Un(fs ex:G M)(H H':Hp)(h h':Heap):Prop where
 keep:∀b o,h.get? b=R o->H b=U->b∉fs->b∉ex->h'.get? b=R o
 slot:∀b o,h.get? b=R o->H b=U->b∈fs->b∉ex->∃sl,h'.get? b=R {o with slots:=sl}
 free:∀b o,h.get? b=R o->H b=U->b∉ex->H' b=U
 there:∀b o,h.get? b=R o->b∉ex->∃o',h'.get? b=R o'
 acX:∀b xs,H b=R (.tup xs)->H' b=R (.tup xs)
 acL:∀b o u,H b=R (.frz o u)->H' b=R (.frz o u)
 acU:∀b ps,H b=R (.tbl ps)->∃more,H' b=R (.tbl (ps++more))
section
variable{fs X Z T:br Wo}{H S Q:Hp}{h Y O h':Heap}{a x e:Wo}{o:HO}
def Un.any(u:Un fs Z H S h Y)(q:h.get? b=R ob)(n:H b=U)(f:b∉Z):∃c,Y.get? b=R {ob with slots:=c}:=by
 by_cases g:b∈fs
 .show u.slot b ob q n g f
 .show#[ob.slots,u.keep b ob q n g f]
theorem Un.kept(k:∀b u,h.get? b=R u->h'.get? b=R u):Un fs Z H H h h':=
 #[λb f q _ _ _=>k b f q,λb f q _ _ _=>#[f.slots,k b f q],λ_ _ _ n _=>n,λb f q _=>#[f,k b f q],λ_ _ q=>q,λ_ _ _ q=>q,λ_ g q=>#[#v[],by rw[q];simp]]
theorem Un.refl:Un fs Z H H h h:=Un.kept λ_ _ q=>q
theorem Un.laid(k:∀b u,h.get? b=R u->h'.get? b=R u)(f:h.objs.size<=a)(c:H a=U):Un fs Z H (bW H a o) h h' where
 keep:=λb u q _ _ _=>k b u q
 slot:=λb u q _ _ _=>#[u.slots,k b u q]
 free:=λb u q n _=>by rw[aU (WZ (W0 (cn q) f))];show n
 there:=λb u q _=>#[u,k b u q]
 acX:=λb xs q=>by rw[aU (cM q c)];show q
 acL:=λb u xs q=>by rw[aU (cM q c)];show q
 acU:=λb g q=>#[#v[],by rw[aU (cM q c),q];simp]
def Un.write(g:UL (H x))(p:e=x\/H e=R (.own x))(k:∀b u,b≠e->h.get? b=R u->h'.get? b=R u)(i:∃u,h'.get? e=R u):Un fs Z H (bW H x o) h h':=by
 let j:∀b,H b=U->b≠x:=λb n z=>by subst z;rw[n]at g;show g
 let l:∀b,H b=U->b≠e:=λb n z=>by
  subst z;rcases p with r|r
  .show j b n r
  .rw[n]at r;ext r
 let hm:∀b u,H b=R u->¬UL (R u)->b≠x:=λb u q m z=>by subst z;rw[q]at g;show m g
 show#[λb u q n _ _=>k b u (l b n) q,λb u q n _ _=>#[u.slots,k b u (l b n) q],λb u q n _=>by rw[aU (j b n)];show n,λb u q _=>?_,
  λb xs q=>by rw[aU (hm b _ q λz=>z)];show q,λb u xs q=>by rw[aU (hm b _ q λz=>z)];show q,λb t q=>#[#v[],by rw[aU (hm b _ q λz=>z),q];simp]]
 by_cases f:b=e
 .subst f;show i
 .show#[u,k b u f q]
end
def Vb(h:Heap)(H:Hp):G M:=(Wk h.objs.size).filter λa=>(H a).isSome
def zO(h:Heap)(H:Hp):Heap:=PySem.W.hideAll h (Vb h H)
theorem HW(h:Heap)(H:Hp):(zO h H).objs.size=h.objs.size:=PySem.W.hideAll_size _ _
theorem JP(e:h.get? b=R o)(n:H b=U):(zO h H).get? b=R o:=
 PySem.W.hideAll_get _ e λhm=>by let q:=(YZ.mp hm).2;rw[n]at q;simp at q
def Ox(e:(zO h H).get? b=R o):h.get? b=R o/\H b=U:=by
 let a:=PySem.W.of_hideAll (Vb h H) e;show#[a,?_];cases q:H b with
 |none=>rfl
 |some x=>let hm:b∈Vb h H:=YZ.mpr #[Xz.mpr (cn a),by simp[q]];let z:(zO h H).get? b=U:=PySem.W.hideAll_none (Vb h H) hm;rw[z]at e;ext e
structure Mod(K:Ld)(mg:Str->I B)(base:Heap):Prop where
 kin:K.In base
 glob:base.Ns WN mg
 blt:∃mb,base.Ns builtinsNs mb/\∀x:Str,x≠ "__name__"->mb x=XS x
 nolimit:base.NoLimit
structure Cx where
 prog:WX
 w:Xm
 K:Ld
 mg:Str->I B
 base:Heap
 A:W8
 N:G Str
 s₀:Ws
 H₀:Hp
 env:Env
 outer:G Env
 stack:G Env
 ex:G M
 fn:Str->Bool
 calm:Bool
 pn:G (M×Obj)
 xe:B->Ws->Prop
def Al(l:G Env):G M:=l.filterMap (·.frame)
abbrev Cx.fs(X:Cx):G M:=Al X.outer
def Vv(sc:Zt)(x:Str):Prop:=sc.names.lookup x=R .local\/sc.names.lookup x=R .cell\/sc.names.lookup x=R .free
def U7(sc:Zt)(x:Str):Prop:=sc.names.lookup x=R .local\/sc.names.lookup x=R .cell
def Vq(env:Env)(h:Heap)(m:Str->I B)(x:Str)(u:B):Prop:=
 (env.kindOf x=R .local/\m x=R u)\/((env.kindOf x=R .cell\/env.kindOf x=R .free)/\∃c,env.cells.lookup x=R c/\h.IsCell c (R u))
structure Cx.Ok(X:Cx):Prop where
 mod:Mod X.K X.mg X.base
 kind:X.env.scope.kind=.function
 glob:X.env.globals=WN
 blt:X.env.builtins=builtinsNs
 above:X.s₀.heap.objs.size<=X.env.locals
 inj:∀x y c,X.env.cells.lookup x=R c->X.env.cells.lookup y=R c->x=y
 has:∀x,(X.env.kindOf x=R .cell\/X.env.kindOf x=R .free)->∃c,X.env.cells.lookup x=R c
 cab:∀x c,X.fn x=P->X.env.cells.lookup x=R c->X.s₀.heap.objs.size<=c
 hd:X.calm=P->X.A.handled=U
 frames:X.A.frames=R X.stack
 stk:X.stack=X.outer\/(X.stack=X.env::X.outer/\X.env.frame=R X.env.locals)
 exf:∀b∈X.ex,b≠X.env.locals/\∀x c,X.env.cells.lookup x=R c->c≠b
 bs:∀b o,X.base.get? b=R o->X.s₀.heap.get? b=R o/\X.H₀ b=U
 bsz:X.base.objs.size<=X.s₀.heap.objs.size
 aed:∀b o,X.base.get? b=R o->b∉X.ex
 aef:∀b∈X.ex,b∉X.fs
 abS:X.s₀.heap.FunFrames X.base X.outer
 frf:∀b∈X.fs,X.H₀ b=U
structure Inv(X:Cx)(pins:G (M×Obj))(σ:G (I V))(H:Hp)(s:Ws):Prop where
 ok:X.Ok
 os:s.os=X.s₀.os
 bare:AllBare s.gens
 base:Un X.fs X.ex X.H₀ H X.s₀.heap s.heap
 loc:∃m,s.heap.Ns X.env.locals m/\∀(i:Nat) (x:Str) (v:V),X.N[i]?=R x->σ[i]?=R (R v)->Vv X.env.scope x->∃u,RelV v u/\Vq X.env s.heap m x u
 cell:∀x c,X.env.cells.lookup x=R c->∃v,s.heap.IsCell c v
 free:H X.env.locals=U
 aae:∀x c,X.env.cells.lookup x=R c->H c=U
 pin:∀p∈X.pn++pins,s.heap.get? p.1=R p.2/\H p.1=U/\p.1≠X.env.locals/\p.1∉X.fs/\∀v,p.2.data≠.cell v
 XY:HOk X.prog X.w H s.heap
 len:σ.length=X.N.length
section
variable{X:Cx}{Z:br (Wo×Obj)}{Y:br (bP V)}{H H':Hp}{s:Ws}{h':Heap}
theorem Cx.Ok.amj(ok:X.Ok)(e:X.base.get? b=R o):b∉X.fs:=λa=>by let:=(ok.abS.mem a).1;rw[e]at this;ext this
theorem Inv.bs(I:Inv X Z Y H s):∀b o,X.base.get? b=R o->s.heap.get? b=R o/\H b=U:=λb o e=>
 #[I.base.keep b o (I.ok.bs b o e).1 (I.ok.bs b o e).2 (I.ok.amj e) (I.ok.aed b o e),I.base.free b o (I.ok.bs b o e).1 (I.ok.bs b o e).2 (I.ok.aed b o e)]
theorem Inv.bk(I:Inv X Z Y H s):∀b o,X.base.get? b=R o->s.heap.get? b=R o:=λb o e=>(I.bs b o e).1
theorem Inv.mod(I:Inv X Z Y H s):Mod X.K X.mg X.base:=I.ok.mod
theorem Inv.kIn(I:Inv X Z Y H s):X.K.In s.heap:=I.ok.mod.kin.keeps I.bk
theorem Inv.lt(I:Inv X Z Y H s):X.env.locals<s.heap.objs.size:=let#[_,a,_]:=I.loc;a.lt
theorem Inv.sz(I:Inv X Z Y H s):X.s₀.heap.objs.size<=s.heap.objs.size:=Xo I.ok.above (ZO I.lt)
theorem Inv.anc(I:Inv X Z Y H s)(h:s.heap.objs.size<=a):a∉X.fs:=λe=>by let(_,o,b,_):=I.ok.abS.mem e;show a7 (W0 (cn b) (Xo I.sz h)) (XU _)
theorem Inv.cne(I:Inv X Z Y H s):∀x c,X.env.cells.lookup x=R c->c≠X.env.locals:=λx c e z=>by let(v,o,f,g):=I.cell x c e;let(m,(h,i,j,a,b,_),_):=I.loc;rw[z,a]at f;ext f;rw[b]at g;ext g
def Inv.abS(I:Inv X Z Y H s):s.heap.FunFrames X.base X.outer:=by
 let all:∀(l:G Env),(∀b∈Al l,b∈X.fs)->X.s₀.heap.FunFrames X.base l->s.heap.FunFrames X.base l:=by
  intro l
  induction l with
  |nil=>intro _ _;trivial
  |cons t r i=>intro h n;let(p,(L,o,a,v,m,q),j):=n;let g:=h L (by ext Al;rw[Zp,a];show WK);let(u,e):=I.base.slot L o m (I.ok.frf L g) g λz=>I.ok.aef L z g;show#[p,#[L,_,a,v,e,q],i (λb f=>h b (by ext Al;rw[Zp,a];show WH _ f)) j]
 show all X.outer (λ_ f=>f) I.ok.abS
def Inv.stack(I:Inv X Z Y H s):s.heap.FunFrames X.base X.stack:=by
 rcases I.ok.stk with e|⟨e,hf⟩
 .rw[e];show I.abS
 .rw[e];let(m,a,_):=I.loc;show .cons (by rw[I.ok.kind];decide) hf a ?_ I.abS;show dN (Xo I.ok.bsz I.ok.above)
theorem Inv.abL(I:Inv X Z Y H s):∀b∈Al X.stack,b∈X.env.locals::X.fs:=λb a=>by
 rcases I.ok.stk with e|⟨e,hf⟩
 .rw[e]at a;show WH _ a
 .rw[e]at a;unfold Al at a;rw[Zp,hf]at a;show a
theorem Inv.ab8(I:Inv X Z Y H s):∀b∈Al X.stack,H b=U:=λb a=>by
 rcases W2.mp (I.abL b a)with e|a
 .rw[e];show I.free
 .let(_,o,f,_):=I.ok.abS.mem a;show I.base.free b o f (I.ok.frf b a) λz=>I.ok.aef b z a
def Inv.step{g':Array abu}{t':Nat}{d':afs}{ch:br Wo}(I:Inv X Z Y H s)
  (g:∀b∈ch,(b∈X.ex\/X.s₀.heap.objs.size<=b)/\b≠X.env.locals/\(∀x c,X.env.cells.lookup x=lD c->c≠b)/\∀p∈X.pn++Z,p.1≠b)
  (keep:∀b o,b≠X.env.locals->b∉X.fs->b∉ch->s.heap.get? b=lD o->H b=Wh->h'.get? b=lD o)
  (y:∀b o,b≠X.env.locals->b∈X.fs->b∉ch->s.heap.get? b=lD o->H b=Wh->∃sl,h'.get? b=lD {o with slots:=sl}) (free:∀b o,b∉ch->s.heap.get? b=lD o->H b=Wh->H' b=Wh)
  (A:∀b o,b∉ch->s.heap.get? b=lD o->∃w,h'.get? b=lD w)
  (K:∀b xs,H b=lD (.tup xs)->H' b=lD (.tup xs)) (M:∀b o u,H b=lD (.frz o u)->H' b=lD (.frz o u)) (L:∀b D,H b=lD (.tbl D)->∃more,H' b=lD (.tbl (D++more)))
  (ns:∀m,s.heap.Ns X.env.locals m->h'.Ns X.env.locals m) (XY:HOk X.prog X.w H' h') (T:AllBare g'):
  Inv X Z Y H' {s with heap:=h',gens:=g',drawn:=d',toks:=t'}:=by
 let E:∀b o,X.s₀.heap.get? b=lD o->b≠X.env.locals:=λb o e=>WZ (W0 (cn e) I.ok.above);let j:∀b o,X.s₀.heap.get? b=lD o->b∉X.ex->b∉ch:=λb o e a B=>by
  rcases(g b B).1 with z|z
  .show a z
  .show a7 (W0 (cn e) z) (XU _)
 let h:∀x c,X.env.cells.lookup x=lD c->∀v,s.heap.IsCell c v->h'.IsCell c v:=λx c e v #[o,C,J]=>by
  let f:c∉ch:=λz=>(g c z).2.2.1 x c e W;by_cases P:c∈X.fs
  .let(sl,q):=y c o (I.cne x c e) P f C (I.aae x c e);show#[_,q,J]
  .show#[o,keep c o (I.cne x c e) P f C (I.aae x c e),J]
 show#[I.ok,I.os,T,#[λb o e n B a=>?_,λb o e n B a=>?_,λb o e n a=>?_,λb o e a=>?_,λb xs e=>K b xs (I.base.acX b xs e),λb o xs e=>M b o xs (I.base.acL b o xs e),λb D e=>?_],?_,λx c e=>?_,?_,λx c e=>?_,λp O=>?_,XY,I.len]
 .show keep b o (E b o e) B (j b o e a) (I.base.keep b o e n B a) (I.base.free b o e n a)
 .let(sl,t):=I.base.slot b o e n B a;let(G,F):=y b _ (E b o e) B (j b o e a) t (I.base.free b o e n a);show#[G,F]
 .let(w,t):=I.base.there b o e a;show free b w (j b o e a) t (I.base.free b o e n a)
 .let(w,t):=I.base.there b o e a;show A b w (j b o e a) t
 .let(R,t):=I.base.acU b D e;let(Q,F):=L b _ t;show#[R++Q,by rw[F,Array.append_assoc]]
 .let(m,hn,S):=I.loc
  show#[m,ns m hn,λi x v t F U=>?_];let(u,r,l):=S i x v t F U;show#[u,r,?_];rcases l with l|⟨k,c,e,z⟩
  .show .inl l
  .show .inr #[k,c,e,h x c e _ z]
 .let(v,z):=I.cell x c e;show#[v,h x c e v z]
 .let(m,(o,_,_,C,_),_):=I.loc;show free _ o (λz=>(g _ z).2.1 W) C I.free
 .let(v,o,C,J):=I.cell x c e;show free c o (λz=>(g c z).2.2.1 x c e W) C (I.aae x c e)
 .let(e,n,ne,N,d):=I.pin p O;let f:p.1∉ch:=λz=>(g p.1 z).2.2.2 p O W;show#[keep p.1 p.2 ne N f e n,free p.1 p.2 f e n,ne,N,d]
def Inv.un{t':Nat}(I:Inv X Z Y H s)(u:Un X.fs [] H H' s.heap h')(XY:HOk X.prog X.w H' h'):Inv X Z Y H' {s with heap:=h',toks:=t'}:=by let(m,(o,v,y,i,r),_):=id I.loc;let(p,l):=u.any i I.free (by simp);show I.step (g':=s.gens) (d':=s.drawn) (ch:=[]) (λ_ z=>nomatch z) (λb o _ f _ e n=>u.keep b o e n f (by simp)) (λb o _ f _ e n=>u.slot b o e n f (by simp)) (λb o _ e n=>u.free b o e n (by simp)) (λb o _ e=>u.there b o e (by simp)) u.acX u.acL u.acU (λt hm=>by let(q,g,h,a,j):=hm;rw[i]at a;ext a;show#[_,g,h,l,j]) XY I.bare
def Inv.call{g':Array abu}{t':Nat}{d':afs}{ch:G M}(I:Inv X Z Y H s)(u:Un (Al X.stack) ch H H' s.heap h')(XY:HOk X.prog X.w H' h')(t:AllBare g')
  (g:∀b∈ch,(b∈X.ex\/X.s₀.heap.objs.size<=b)/\b≠X.env.locals/\(∀x c,X.env.cells.lookup x=R c->c≠b)/\∀p∈X.pn++Z,p.1≠b):
  Inv X Z Y H' {s with heap:=h',gens:=g',drawn:=d',toks:=t'}:=by
 let(m,(o,C,E,l,r),_):=id I.loc;let(y,h):=u.any l I.free λz=>(g _ z).2.1 W;show I.step (ch:=ch) g (λb o h v a e n=>u.keep b o e n (λz=>(W2.mp (I.abL b z)).elim h v) a) (λb o _ _ a e n=>u.any e n a) (λb o a e n=>u.free b o e n a) (λb o a e=>u.there b o e a) u.acX u.acL u.acU (λB hm=>by let(A,i,j,f,q):=hm;rw[l]at f;ext f;show#[_,i,j,h,q]) XY t
def Inv.turned{t':Nat}{a:M}(I:Inv X Z Y H s)(k:∀b o,b≠a->s.heap.get? b=R o->h'.get? b=R o)(d:H a=U)(h:a≠X.env.locals)
  (w:a∈X.ex\/X.s₀.heap.objs.size<=a) (t:∀x c,X.env.cells.lookup x=R c->c≠a) (l:∀p∈X.pn++Z,p.1≠a):Inv X Z Y H {s with heap:=h',toks:=t'}:=by
 let g:∀b u,H b=R u->b≠a:=λb u e z=>by rw[z,d]at e;ext e
 show I.step (g':=s.gens) (d':=s.drawn) (ch:=[a]) (λb j=>?_) (λb o _ _ f e _=>k b o (λz=>f (by simp[z])) e) (λb o _ _ f e _=>#[o.slots,k b o (λz=>f (by simp[z])) e]) (λ_ _ _ _ n=>n)
  (λb o f e=>#[o,k b o (λz=>f (by simp[z])) e]) (λ_ _ e=>e) (λ_ _ _ e=>e) (λb C e=>#[#v[],by rw[e];simp]) (λm hm=>?_) (λb u e=>?_) I.bare
 .let e:b=a:=by simpa using j
  subst e;show#[w,h,t,l]
 .let(o,y,A,i,r):=hm;show#[o,y,A,k _ o (d3 h) i,r]
 .show(I.XY b u e).aaG (λc v f q=>k c v ?_ q) (λ_ q=>q) λ_ _ q=>q
  rcases f with z|z
  .rw[z];show g b u e
  .show g c _ z
theorem Inv.tok(I:Inv X Z Y H s)(t:Nat):Inv X Z Y H {s with toks:=t}:=I.un Un.refl I.XY
theorem Inv.kept{t':Nat}(I:Inv X Z Y H s)(k:∀b u,s.heap.get? b=R u->h'.get? b=R u):Inv X Z Y H {s with heap:=h',toks:=t'}:=I.un (Un.kept k) (I.XY.kept k)
theorem Inv.laid{a:M}{o:HO}{t':Nat}(I:Inv X Z Y H s)(k:∀b u,s.heap.get? b=R u->h'.get? b=R u)(e:s.heap.objs.size<=a)(new:ObjOk X.prog X.w (bW H a o) h' a o):
  Inv X Z Y (bW H a o) {s with heap:=h',toks:=t'}:=I.un (Un.laid k e (I.XY.fresh e)) (I.XY.laid k e new)
theorem Inv.write{x e:M}{o:HO}{t':Nat}(I:Inv X Z Y H s)(f:UL (H x))(g:e=x\/H e=R (.own x))(k:∀b u,b≠e->s.heap.get? b=R u->h'.get? b=R u)(a:∃u,h'.get? e=R u)
  (new:ObjOk X.prog X.w (bW H x o) h' x o):Inv X Z Y (bW H x o) {s with heap:=h',toks:=t'}:=I.un (Un.write f g k a) (I.XY.write f g k a new)
theorem Inv.adS(I:Inv X Z Y H s)(h:∀p∈ajj,s.heap.get? p.1=R p.2/\H p.1=U/\p.1≠X.env.locals/\p.1∉X.fs/\∀v,p.2.data≠.cell v):Inv X ajj Y H s:=
 #[I.ok,I.os,I.bare,I.base,I.loc,I.cell,I.free,I.aae,λp a=>(Xn.mp a).elim (λz=>I.pin p (aab _ z)) (h p),I.XY,I.len]
def Bl{N:G Str}(e:N.Nodup){i j:Nat}(a:N[i]?=R x)(b:N[j]?=R x):i=j:=by let(l,g):=Wj.mp a;let(h,f):=Wj.mp b;show(List.getElem_inj e).mp (g.trans f.symm)
def xk{M:aft}{A:W8}{E:B->Ws->Prop}{i:Nat}{x:Str}{v:V}{u:B}{Q:Unit->Ws->Prop}(I:Inv X Z Y H s)(hN:X.N.Nodup)(D:X.N[i]?=R x)(t:U7 X.env.scope x)(r:RelV v u)
  (h:∀F,Inv X Z (Y.set i (R v)) H F->(∃a,Heap.SameBut a s.heap F.heap/\(a=X.env.locals\/X.env.cells.lookup x=R a))->Q ⟨⟩ F) (hf:X.fn x=P\/X.env.scope.names.lookup x=R .local:=by first|show .inl W|show .inr W|assumption):wpAny M A (storeName X.env x u) Q E s:=by
 let(m,hn,hl):=id I.loc;let al6:(X.env.scope.kind==.class||(X.env.scope.kind==.module&&X.env.locals !=X.env.globals))=Wu:=by rw[I.ok.kind];rfl
 let J:i<Y.length:=by rw[I.len];show(Wj.mp D).1
 let cne:=I.cne;let tracked:∀{a:Wo} {h':Heap},(∃o,s.heap.get? a=R o/\H a=U)->Heap.SameBut a s.heap h'->HOk X.prog X.w H h':=λ{a h'} ha f b ob e=>by
  let(_,_,S):=ha;show(I.XY b ob e).aaG (λc T l q=>(f.2 c ?_).trans q) (λ_ q=>q) λ_ _ q=>q;rintro rfl;rcases l with rfl|l
  .rw[S]at e;ext e
  .rw[S]at l;ext l
 rcases t with C|C
 .show wpAny_storeName_local C hn (λh' hn' f=>?_) al6
  let(oL,_,_,hoL,_):=id hn;show h _ #[I.ok,I.os,I.bare,#[λb o e n L t=>?_,λb o e n L t=>?_,I.base.free,λb o e t=>?_,I.base.acX,I.base.acL,I.base.acU],#[_,hn',λj y v' g w e3=>?_],λy c e=>?_,I.free,I.aae,λp hp=>?_,tracked #[oL,hoL,I.free] f,by simpa using I.len] #[_,f,.inl W]
  .show(f.2 b (WZ (W0 (cn e) I.ok.above))).trans (I.base.keep b o e n L t)
  .let(sl,g):=I.base.slot b o e n L t;show#[sl,(f.2 b (WZ (W0 (cn e) I.ok.above))).trans g]
  .let(o',g):=I.base.there b o e t;show#[o',(f.2 b (WZ (W0 (cn e) I.ok.above))).trans g]
  .by_cases hj:j=i
   .subst hj;rw[D]at g;ext g;rw[Xw J]at w;ext w;show#[u,r,.inl #[C,by simp]]
   .rw[Xj (d3 hj)]at w
    let(u',r',q):=hl j y v' g w e3;show#[u',r',?_];rcases q with⟨k,e⟩|⟨k,c,e,z⟩
    .show .inl #[k,?_];let:y≠x:=λe=>hj (Bl hN g (e▸D));simp[this,e]
    .show .inr #[k,c,e,z.sameBut f (cne y c e)]
  .let(T,z):=I.cell y c e;show#[T,z.sameBut f (cne y c e)]
  .let(e,n,ne,nf,d):=I.pin p hp;show#[(f.2 p.1 ne).trans e,n,ne,nf,d]
 .let K:X.fn x=P:=by
   rcases hf with z|z
   .show z
   .rw[z]at C;ext C
  let(c,l):=I.ok.has x (.inl C);let(T,z):=I.cell x c l;show wpAny_storeName_cell I.ok.kind C l z (λh' O f=>?_);let(oc,N,amS):=id z;show h {s with heap:=h'} #[I.ok,I.os,I.bare,#[λb o e n L t=>?_,λb o e n L t=>?_,I.base.free,λb o e t=>?_,I.base.acX,I.base.acL,I.base.acU],#[m,hn.sameBut f (d3 (cne x c l)),λj y v' g w e3=>?_],λy c' e=>?_,I.free,I.aae,λp hp=>?_,tracked #[oc,N,I.aae x c l] f,by simpa using I.len] #[c,f,.inr l]
  .show(f.2 b (WZ (W0 (cn e) (I.ok.cab x c K l)))).trans (I.base.keep b o e n L t)
  .let(sl,g):=I.base.slot b o e n L t;show#[sl,(f.2 b (WZ (W0 (cn e) (I.ok.cab x c K l)))).trans g]
  .let(o',g):=I.base.there b o e t;show#[o',(f.2 b (WZ (W0 (cn e) (I.ok.cab x c K l)))).trans g]
  .by_cases hj:j=i
   .subst hj;rw[D]at g;ext g;rw[Xw J]at w;ext w;show#[u,r,.inr #[.inl C,c,l,O]]
   .rw[Xj (d3 hj)]at w
    let(u',r',q):=hl j y v' g w e3;show#[u',r',?_];rcases q with q|⟨k,c',e,z'⟩
    .show .inl q
    .show .inr #[k,c',e,z'.sameBut f ?_];rintro rfl;show hj (Bl hN g (I.ok.inj _ _ _ e l▸D))
  .by_cases hcc:c'=c
   .subst hcc;show#[_,O]
   .let(w2,z2):=I.cell y c' e;show#[w2,z2.sameBut f hcc]
  .let(e,n,ne,nf,d):=I.pin p hp;show#[(f.2 p.1 ?_).trans e,n,ne,nf,d];intro q;rw[q,N]at e;let q':oc=p.2:=WE e;show d T (by rw[<-q'];show amS)
theorem AF{i:Nat}{v:V}{u:B}{Q:Unit->Ws->Prop}(I:Inv X Z Y H s)(e:X.N.Nodup)(d:X.N[i]?=R x)(c:U7 X.env.scope x)(r:RelV v u)
  (h:∀b,Inv X Z (Y.set i (R v)) H b->Q ⟨⟩ b) (hf:X.fn x=P\/X.env.scope.names.lookup x=R .local:=by first|show .inl W|show .inr W|assumption):wpAny a A (storeName X.env x u) Q E s:=
 xk I e d c r (λb f _=>h b f) hf
def Inv.aei{d:Ws}{ch:G M}(I:Inv X Z Y H s)(g:d.os=s.os)(u:Un (Al X.stack) ch H H' s.heap d.heap)(XY:HOk X.prog X.w H' d.heap)(h:AllBare d.gens)
  (a:∀b∈ch,(b∈X.ex\/X.s₀.heap.objs.size<=b)/\b≠X.env.locals/\(∀x c,X.env.cells.lookup x=R c->c≠b)/\∀p∈X.pn++Z,p.1≠b):Inv X Z Y H' d:=by
 let(h',j,l,i,f):=d;let e:f=s.os:=g;subst e;show I.call (g':=j) (t':=i) (d':=l) u XY h a
end
abbrev XK:=B->I M->Hp->Prop
abbrev St:=G (I V)
abbrev VK:=V->Hp->Prop
abbrev TE:=St->Hp->VK->Prop
abbrev TT:=St->Hp->(Bool->Hp->Prop)->Prop
abbrev TA:=St->Hp->(G V->Hp->Prop)->Prop
structure Ends where
 nx:St->Hp->Prop
 rt:VK
 bk:St->Hp->Prop:=λ_ _=>False
 ct:St->Hp->Prop:=λ_ _=>False
abbrev TS:=Ends->St->Hp->Prop
def EP(X:Cx)(a:G (M×Obj))(b:St)(Q:VK)(u:B)(c:Ws):Prop:=∃v e,Inv X a b e c/\RelV v u/\Q v e
def TP(X:Cx)(a:G (M×Obj))(e:St)(Q:Bool->Hp->Prop)(b:Bool)(c:Ws):Prop:=∃f,Inv X a e f c/\Q b f
def AP(X:Cx)(a:G (M×Obj))(b:St)(Q:G V->Hp->Prop)(us:G B)(c:Ws):Prop:=∃e f,Inv X a b f c/\Vals e us/\Q e f
def SP(X:Cx)(a:G (M×Obj))(D:Ends)(f:Flow)(c:Ws):Prop:=
 match f with
 |.next=>∃b e,Inv X a b e c/\D.nx b e
 |.brk=>∃b e,Inv X a b e c/\D.bk b e
 |.cont=>∃b e,Inv X a b e c/\D.ct b e
 |.ret u=>∃v b e,Inv X a b e c/\RelV v u/\D.rt v e
def PE(X:Cx)(e:XB)(t:TE):Prop:=
 ∀(a:G (M×Obj)) (s:Ws) (b:St) (H:Hp) (Q:VK),Inv X a b H s->t b H Q->wpAny (model X.prog X.w) X.A (eval e X.env) (EP X a b Q) X.xe s
def PT(X:Cx)(e:XB)(t:TT):Prop:=
 ∀(a:G (M×Obj)) (s:Ws) (b:St) (H:Hp) (Q:Bool->Hp->Prop),Inv X a b H s->t b H Q->wpAny (model X.prog X.w) X.A (isTrue e X.env (eval e X.env)) (TP X a b Q) X.xe s
def PW(X:Cx)(e:XB)(t:TT):Prop:=
 ∀(b:Sem B) (a:G (M×Obj)) (s:Ws) (f:St) (H:Hp) (Q:Bool->Hp->Prop),Inv X a f H s->t f H Q->wpAny (model X.prog X.w) X.A (isTrue e X.env b) (TP X a f Q) X.xe s
theorem PW.pt(h:PW X e t):PT X e t:=h _
def PA(X:Cx)(c:G XB)(t:TA):Prop:=
 ∀(e:Pos) (a:G (M×Obj)) (s:Ws) (b:St) (H:Hp) (Q:G V->Hp->Prop),Inv X a b H s->t b H Q->wpAny (model X.prog X.w) X.A (spliced (backTo e (W5 c X.env))) (AP X a b Q) X.xe s
def PS(X:Cx)(e:YK)(t:TS):Prop:=
 ∀(a:G (M×Obj)) (s:Ws) (b:St) (H:Hp) (D:Ends),Inv X a b H s->t D b H->wpAny (model X.prog X.w) X.A (exec e X.env) (SP X a D) X.xe s
def PSs(X:Cx)(e:G YK)(t:TS):Prop:=
 ∀(a:G (M×Obj)) (s:Ws) (b:St) (H:Hp) (D:Ends),Inv X a b H s->t D b H->wpAny (model X.prog X.w) X.A (execs e X.env) (SP X a D) X.xe s
theorem de{α:Type}{t:Sem α}{Q b:α->Ws->Prop}{M:aft}{A:W8}{E:B->Ws->Prop}{s:Ws}(h:wpAny M A t Q E s)(e:∀a s,Q a s->b a s):wpAny M A t b E s:=wpAny_mono h e λ_ _ x=>x
section
variable{X:Cx}
def vG(i:Nat):TE:=λa H Q=>∃v,a[i]?=R (R v)/\Q v H
def tC(v:V):TE:=λ_ H Q=>Q v H
def SD(t:X.N[i]?=R x)(p:Vv X.env.scope x)(hd:(x==("__debug__":Str))=Wu:=by decide)(j:(x==("__classdict__":Str))=Wu:=by decide):PE X (.Name x pos) (vG i):=by
 intro f s o H Q I h;let(v,e,h):=h;let(m,w,q):=I.loc;let(u,r,l):=q i x v t e p;let b:EP X f o Q u s:=#[v,H,I,r,h];rcases l with⟨a,hm⟩|⟨a,c,n,g⟩
 .show ahs (wpAny_loadName_local I.ok.kind a w hm b) hd
 .rcases a with a|a
  .show ahs (wpAny_loadName_cell I.ok.kind a n g b) hd
  .show ahs (wpAny_loadName_free I.ok.kind a n g b j) hd
theorem bj{i j pos}:PE X (.Constant (.int i) j pos) (tC (.int i)):=λ_ _ _ H _ I h=>aht #[.int i,H,I.tok _,#[_,W],h]
theorem BO{b j pos}:PE X (.Constant (.bool b) j pos) (tC (.bl b)):=λ_ _ _ H _ I h=>Constant_bool #[.bl b,H,I,W,h]
theorem jV{j pos}:PE X (.Constant .none j pos) (tC .YM):=λ_ _ _ H _ I h=>Constant_none #[.YM,H,I,W,h]
theorem rK{x j pos}:PE X (.Constant (.str x) j pos) (tC (.str x)):=λ_ _ _ H _ I h=>Calls.Constant_str #[.str x,H,I.tok _,#[_,W],h]
def Gl(X:Cx)(x:Str):Prop:=X.env.kindOf x=R .globalImplicit
theorem og(I:Inv X pins σ H s)(a:Gl X x)(hm:X.mg x=R u)(h:Q u s)
  (hd:(x==("__debug__":Str))=Wu:=by decide):wpAny (model X.prog X.w) X.A (eval (.Name x pos) X.env) Q E s:=
 Calls.Name_function_global I.ok.kind a (Calls.loadGlobal_global (by rw[I.ok.glob];show I.mod.glob.keeps I.bk) hm h) hd
def pW(I:Inv X pins σ H s)(b:Gl X x)(hm:X.mg x=U)(a:XS x=R u)(h:Q u s)
  (c:x≠ "__name__":=by decide) (hd:(x==("__debug__":Str))=Wu:=by decide):wpAny (model X.prog X.w) X.A (eval (.Name x pos) X.env) Q E s:=by
 let(g,f,e):=I.mod.blt;show Calls.Name_function_global I.ok.kind b (Calls.loadGlobal_builtin (by rw[I.ok.glob];show I.mod.glob.keeps I.bk) hm (by rw[I.ok.blt];show f.keeps I.bk) ((e x c).trans a) h) hd
theorem F1{x:Str}{v:V}{u:B}{a:Pos}(b:Gl X x)(hm:X.mg x=R u)(r:RelV v u)(hd:(x==("__debug__":Str))=Wu:=by decide):PE X (.Name x a) (tC v):=
 λ_ _ _ H _ I h=>og I b hm #[v,H,I,r,h] hd
theorem GH(b:Gl X x)(hm:X.mg x=U)(a:XS x=R u)(r:RelV v u)(c:x≠ "__name__":=by decide)(hd:(x==("__debug__":Str))=Wu:=by decide):PE X (.Name x pos) (tC v):=
 λ_ _ _ H _ I h=>pW I b hm a #[v,H,I,r,h] c hd
variable{a b:XB}{Y Z:TE}{O:Pos}
def PC(X:Cx)(i:CmpOp)(a b:XB)(t:TE):Prop:=
 ∀(e:G (M×Obj)) (s:Ws) (h:St) (H:Hp) (Q:VK),Inv X e h H s->t h H Q->
  wpAny (model X.prog X.w) X.A (eval a X.env) (λv g=>wpAny (model X.prog X.w) X.A (eval b X.env) (λu f=>wpAny (model X.prog X.w) X.A (Yl i v u) (EP X e h Q) X.xe f) X.xe g) X.xe s
def tB(t:TE):TT:=λe H Q=>t e H λx f=>∃c,x=.bl c/\Q c f
def Kz(h:PC X op a b t)(f:behindInMarks op b=Wu:=by first|show y _ () ()|rfl):PT X (.Compare a [op] [b] O) (tB t):=by intro e s g H Q I l;show agi (de (h e s g H _ I l) λv w f=>de f λu r m=>de m λc p #[x,o,n,i,j]=>?_) f;let(d,rfl,q):=j;ext i;show Yv #[o,n,q]
def wb{e:XB}{t:TE}(h:PE X e t)(m:∀whole,isTrue e X.env whole=(do let v<-whole;standAt e.pos;holding [v] (truthy v)):=by intro _;rfl):PT X e (tB t):=by intro f s g H Q I l;show isTrue_plain (de (h f s g H _ I l) λv p #[x,o,n,i,j]=>?_) (m _);let(d,rfl,q):=j;ext i;show Yv #[o,n,q]
variable{T S:TT}{U:br XB}
def R9(t u:TT):TT:=λe H Q=>t e H λc f=>if c=P then u e f Q else Q Wu f
def Vi(t u:TT):TT:=λe H Q=>t e H λc f=>if c=P then Q P f else u e f Q
def Sk(t:TT):TT:=λe H Q=>t e H λc f=>Q (!c) f
def OW(d:PT X a T):PW X (.BoolOp .And [a] O) T:=by
 intro i f s g H Q I h;show isTrue_and (de (d f s g H Q I h) λc j e=>?_);cases c with
 |true=>show isTrue_and_nil e
 |false=>show e
def Dp(d:PT X a T):PW X (.BoolOp .Or [a] O) T:=by
 intro i f s g H Q I h;show isTrue_or (de (d f s g H Q I h) λc j e=>?_);cases c with
 |false=>show isTrue_or_nil e
 |true=>show e
def RB(d:PT X a T)(n:PW X (.BoolOp .And (b::U) O) S):PW X (.BoolOp .And (a::b::U) O) (R9 T S):=by
 intro l e s f H Q I h;show isTrue_and (de (d e s f H _ I h) λc m a=>?_);let(j,i,g):=a;cases c with
 |true=>show n l e m f j Q i g
 |false=>show#[j,i,g]
def GI(d:PT X a T)(n:PW X (.BoolOp .Or (b::U) O) S):PW X (.BoolOp .Or (a::b::U) O) (Vi T S):=by
 intro l e s f H Q I h;show isTrue_or (de (d e s f H _ I h) λc m a=>?_);let(j,i,g):=a;cases c with
 |true=>show#[j,i,g]
 |false=>show n l e m f j Q i g
def vR(d:PT X a T):PT X (.UnaryOp .Not a O) (Sk T):=by intro e s f H Q I h;show isTrue_not (d e s f H (λc g=>Q (!c) g) I h)
def IA(Y Z:TE):TE:=λe H Q=>Y e H λx f=>∃c,x=.bl c/\if c=P then Z e f Q else Q (.bl Wu) f
theorem yG{op}(h:PE X a t):PE X (.BoolOp op [a] O) t:=λe s f H Q I g=>BoolOp_one (h e s f H Q I g)
def z5(d:PE X a Y)(n:PE X (.BoolOp .And (b::U) O) Z):PE X (.BoolOp .And (a::b::U) O) (IA Y Z):=by
 intro e s g H Q I h;show BoolOp_and (de (d e s g H _ I h) λv l a=>?_);let(x,j,i,m,f):=a;let(c,rfl,f):=f;ext m;show Yv ?_;cases c with
 |true=>show n e l g j Q i f
 |false=>show#[.bl Wu,j,i,W,f]
def U5(t:TT)(Y Z:TE):TE:=λe H Q=>t e H λc f=>if c=P then Y e f Q else Z e f Q
def Ju(m:PT X c T)(k:PE X a Y)(n:PE X b Z):PE X (.IfExp c a b O) (U5 T Y Z):=by
 intro e s f H Q I h;show wpAny_IfExp (de (m e s f H _ I h) λd g a=>?_);let(l,j,i):=a;cases d with
 |true=>show k e g f l Q j i
 |false=>show n e g f l Q j i
end
def SqL(K:Ld)(H:Hp)(a:M)(xs:G V):Prop:=
 Rd H a (.lst xs)\/
  ∃(o:Obj) (b:Array B) (n:Nat),K.lookup a=R o/\o.cls=.type "list"/\o.dict=U/\o.data=.seq b n/\b.size<=WG/\Vals xs b.toList
def SqT(K:Ld)(H:Hp)(a:M)(xs:G V):Prop:=
 Rd H a (.tup xs)\/
  ∃(o:Obj) (b:Array B) (n:Nat),K.lookup a=R o/\(o.cls=.type "tuple"/\o.dict=U)/\o.data=.seq b n/\b.size<=WG/\Vals xs b.toList
def Vx:B->I V
 |.none=>R .YM
 |.bool b=>R (.bl b)
 |.int i _=>R (.int i)
 |.str x _=>R (.str x)
 |.bytes b _=>R (.byt b)
 |.float b _=>R (.flt b)
 |.ref a=>R (.ref a)
 |.type n=>R (.ty n)
 |_=>U
def RelV.abs(r:RelV x u):Vx u=R x:=by
 cases x with
 |YM=>ext r;rfl
 |bl _=>ext r;rfl
 |int _=>let(t,rfl):=r;rfl
 |str _=>let(t,rfl):=r;rfl
 |byt _=>let(t,rfl):=r;rfl
 |flt _=>let(t,rfl):=r;rfl
 |ref _=>ext r;rfl
 |ty _=>ext r;rfl
theorem RelV.inj(r:RelV x u)(q:RelV y u):x=y:=WE (r.abs.symm.trans q.abs)
theorem Vals.inj:∀{xs a:G V} {us:G B},Vals xs us->Vals a us->xs=a
 |_,_,_,.nil,.nil=>rfl
 |_,_,_,.cons r t,.cons e b=>by rw[r.inj e,Vals.inj t b]
section
variable{X:Cx}{Z:br (Wo×Obj)}{Y:St}{H:Hp}{s:Ws}{a:Wo}{T U:br V}
theorem SqL.of{K:Ld}(h:H a=R (.lst T)):SqL K H a T:=.inl (.inl h)
theorem SqT.of{K:Ld}(h:H a=R (.tup T)):SqT K H a T:=.inl (.inl h)
def Inv.list(I:Inv X Z Y H s)(h:SqL X.K H a T):∃b:G B,Vals T b/\PlainL s.heap a b.toArray/\T.length<=WG:=by
 rcases h with h|⟨o,b,n,g,i,hd,f,j,r⟩
 .let(z,b,n,r,e):=h.ok I.XY;show#[b,r,#[_,n,e,W,W,W],z]
 .show#[b.toList,r,#[o,n,I.kIn a o g,i,hd,by simpa using f],?_];let e:=r.length;simp only[XD]at e;ext
def Inv.tuple(I:Inv X Z Y H s)(h:SqT X.K H a T):∃b:G B,Vals T b/\IsTup s.heap a b.toArray/\T.length<=WG:=by
 rcases h with h|⟨o,b,n,g,i,f,j,r⟩
 .let(z,b,r,p):=h.ok I.XY;show#[b,r,p.tup,z]
 .show#[b.toList,r,#[o,I.kIn a o g,i.1,n,by simpa using f],?_];let e:=r.length;simp only[XD]at e;ext
def Inv.ahN(I:Inv X Z Y H s)(h:SqT X.K H a T):∃b:G B,Vals T b/\aco s.heap a b.toArray/\T.length<=WG:=by
 rcases h with h|⟨o,b,n,i,f,g,j,r⟩
 .let(z,b,r,p):=h.ok I.XY;show#[b,r,p,z]
 .show#[b.toList,r,#[o,I.kIn a o i,#[f.1,n,by simpa using g],f.2],?_];let e:=r.length;simp only[XD]at e;ext
def Inv.aeg(I:Inv X Z Y H s)(h:SqL X.K H a T)(c:SqL X.K H a U):T=U:=by
 let(j,r,(o,n,e,_,_,d),_):=I.list h;let(b,i,(l,m,f,_,_,g),_):=I.list c;rw[e]at f;ext f;rw[d]at g;injection g with d1 _;let:j=b:=by simpa using eh ahu d1
 subst this;show r.inj i
def Inv.afe(I:Inv X Z Y H s)(h:SqT X.K H a T)(c:SqT X.K H a U):T=U:=by
 let(j,r,(o,e,_,n,d),_):=I.tuple h;let(b,i,(l,f,_,m,g),_):=I.tuple c;rw[e]at f;ext f;rw[d]at g;injection g with d1 _;let:j=b:=by simpa using eh ahu d1
 subst this;show r.inj i
end
abbrev Cx.abj(X:Cx)(E:B->Ws->Prop):Cx:={X with xe:=E}
abbrev Cx.nox(X:Cx):Cx:=X.abj λ_ _=>False
theorem Cx.Ok.abj{X:Cx}(ok:X.Ok)(E:B->Ws->Prop):(X.abj E).Ok:=
 #[ok.mod,ok.kind,ok.glob,ok.blt,ok.above,ok.inj,ok.has,ok.cab,ok.hd,ok.frames,ok.stk,ok.exf,ok.bs,ok.bsz,ok.aed,ok.aef,ok.abS,ok.frf]
theorem Cx.Ok.aaa{X:Cx}(ok:(X.abj E).Ok):X.Ok:=
 #[ok.mod,ok.kind,ok.glob,ok.blt,ok.above,ok.inj,ok.has,ok.cab,ok.hd,ok.frames,ok.stk,ok.exf,ok.bs,ok.bsz,ok.aed,ok.aef,ok.abS,ok.frf]
section
variable{X:Cx}{Z:br (Wo×Obj)}{Y:St}{H:Hp}{s:Ws}{E:Wi->Ws->Prop}
theorem Inv.abj(I:Inv X Z Y H s)(E:B->Ws->Prop):Inv (X.abj E) Z Y H s:=#[I.ok.abj E,I.os,I.bare,I.base,I.loc,I.cell,I.free,I.aae,I.pin,I.XY,I.len]
theorem Inv.aaa(I:Inv (X.abj E) Z Y H s):Inv X Z Y H s:=#[I.ok.aaa,I.os,I.bare,I.base,I.loc,I.cell,I.free,I.aae,I.pin,I.XY,I.len]
def SP.aaa(h:SP (X.abj E) Z D f s'):SP X Z D f s':=by
 cases f with
 |next=>let(a,b,I,q):=h;show#[a,b,I.aaa,q]
 |brk=>let(a,b,I,q):=h;show#[a,b,I.aaa,q]
 |cont=>let(a,b,I,q):=h;show#[a,b,I.aaa,q]
 |ret u=>let(v,a,b,I,r,q):=h;show#[v,a,b,I.aaa,r,q]
theorem PSs.nox{a:G YK}(h:PSs X.nox a t):PSs X a t:=λZ s Y H D I b=>
 wpAny_mono (h Z s Y H D (I.abj _) b) (λ_ _ q=>q.aaa) λ_ _ z=>False.elim z
end
section
variable{X:Cx}{U:YK}{Y:br YK}{t u:TS}{e:XB}{Z:TE}{T:Pos}
def IZ:TS:=λD a H=>D.nx a H
def NT(t u:TS):TS:=λD a H=>t {D with nx:=u D} a H
theorem kg:PSs X [] IZ:=λ_ _ a H _ I h=>aat #[a,H,I,h]
def ay(l:PS X U t)(j:PSs X Y u):PSs X (U::Y) (NT t u):=by
 intro a s g H D I h;show aiM (de (l a s g H {D with nx:=u D} I h) λf i q=>?_);cases f with
 |next=>let(b,n,m,q):=q;show j a i b n D m q
 |ret v=>show q
 |brk=>show q
 |cont=>show q
def aR(g:PS X U t):PSs X [U] t:=by
 intro a s b H D I h;show aiM (de (g a s b H D I h) λf i q=>?_);cases f with
 |next=>show aat q
 |ret v=>show q
 |brk=>show q
 |cont=>show q
def Inv.quiet{a:G (M×Obj)}{b:St}{H:Hp}{s:Ws}(I:Inv X a b H s):interactive X.env=Wu:=by simp[interactive,I.ok.kind]
def FO(Z:TE):TS:=λD a H=>Z a H λ_ b=>D.nx a b
def im(i:PE X e Z)(g:Yc e Wh T.line X.env=pure Wu:=by rfl):PS X (.Expr e T) (FO Z):=by intro a s b H D I h;show wpAny_Expr_any (de (i a s b H _ I h) λv m #[x,l,j,n,f]=>#[b,l,j,f]) I.quiet g
def Rz(Z:TE):TS:=λD a H=>Z a H D.rt
def cV(i:PE X e Z):PS X (.Return (R e) T) (Rz Z):=by intro a s b H D I h;show wpAny_Return_some (de (i a s b H _ I h) λv m #[x,l,j,f,g]=>#[x,b,l,j,f,g])
def QK:TS:=λD _ H=>D.rt .YM H
theorem Nb:PS X (.Return Wh T) QK:=λ_ _ a H _ I h=>wpAny_Return_none #[.YM,a,H,I,W,h]
def Sx(c:TT)(t u:TS):TS:=λD a H=>c a H λb f=>if b=P then t D a f else u D a f
def tq(n:PT X c p)(k:PSs X a t)(o:PSs X b u):PS X (.If c a b T) (Sx p t u):=by
 intro f s g H D I h;show wpAny_If (de (n f s g H _ I h) λd i a=>?_);let(m,l,j):=a;cases d with
 |true=>show k f i g m D l j
 |false=>show o f i g m D l j
end
abbrev TG:=V->St->Hp->(St->Hp->Prop)->Prop
abbrev RN:=G V->St->Hp->(St->Hp->Prop)->Prop
def PG(X:Cx)(a:XB)(t:TG):Prop:=
 ∀(b:G (M×Obj)) (s:Ws) (e:St) (H:Hp) (v:V) (u:B) (Q:St->Hp->Prop),Inv X b e H s->RelV v u->t v e H Q->
  wpAny (model X.prog X.w) X.A (assign a X.env u) (λ_ f=>∃g h,Inv X b g h f/\Q g h) X.xe s
def Vc(X:Cx)(f:G XB)(t:RN):Prop:=
 ∀(a:G (M×Obj)) (s:Ws) (b:St) (H:Hp) (i:G V) (e:G B) (Q:St->Hp->Prop),Inv X a b H s->Vals i e->t i b H Q->
  wpAny (model X.prog X.w) X.A (assignInOrder ((assignEach f X.env).map (·.2)) e) (λ_ g=>∃h j,Inv X a h j g/\Q h j) X.xe s
section
variable{X:Cx}{Z:Pos}
def xn(i:Nat):TG:=λv a H Q=>Q (a.set i (R v)) H
def bz(c:X.N.Nodup)(b:X.N[i]?=R x)(a:U7 X.env.scope x)(hf:X.fn x=P\/X.env.scope.names.lookup x=R .local:=by first|show .inl W|show .inr W|assumption):PG X (.Name x Z) (xn i):=by intro pins s σ H v u Q I r h;show aic (AF I c b a r (λf e=>#[_,H,e,h]) hf)
def Sa:RN:=λb a H Q=>b=[]/\Q a H
def JN(t:TG)(u:RN):RN:=λf b H Q=>∃v r,f=v::r/\t v b H λa e=>u r a e Q
def uc:Vc X [] Sa:=by intro a s b H g f Q I r h;let(e,h):=h;subst e;ext r;show assignInOrder_nil #[b,H,I,h]
def jJ(n:PG X e t)(m:Vc X z u)
  (l:(assignEach (e::z) X.env).map (·.2)=assign e X.env::(assignEach z X.env).map (·.2):=by rfl):Vc X (e::z) (JN t u):=by
 intro a s f H A y Q I r h;let(v,w,o,h):=h;subst o;cases r with
 |cons r i=>rw[l];show assignInOrder_cons (de (n a s f H _ _ _ I r h) λ_ g a=>?_);let(b,q,p,j):=a;show m a g b q _ _ Q p i j
def S8(K:Ld)(n:Nat)(t:RN):TG:=λv b H Q=>∃a xs,v=.ref a/\SqT K H a xs/\xs.length=n/\t xs b H Q
def Ah(q:X.calm=P)(h:Vc X C t)
  (c:(assignEach C X.env).length=n:=by rfl) (eX:(assignEach C X.env).findIdx? (·.1)=U:=by rfl):PG X (.Tuple C k Z) (S8 X.K n t):=by
 intro f s i H v u Q I r g;let(a,xs,w,m,p,g):=g;subst w;ext r;let(B,E,l,z):=I.tuple m;show assign_Tuple_tuple (I.ok.hd q) l (by simp[c,<-p,E.length]) eX λA j=>?_;let y:=I.kept (t':=s.toks) λb o e=>j b o (WZ (cn e)) e;show h f _ i H xs _ Q y (by simpa using E) g
def Lq(b:TE)(g:TG):TS:=λD a H=>b a H λx e=>g x a e D.nx
def bX{i:Nat}{x:Str}{e:XB}{a:TE}{pos':Pos}(j:X.N.Nodup)(g:X.N[i]?=R x)(c:U7 X.env.scope x)(he:PE X e a)(d:Yc e (R (.Name x pos')) Z.line X.env=pure Wu:=by rfl)(hf:X.fn x=P\/X.env.scope.names.lookup x=R .local:=by first|show .inl W|show .inr W|assumption):
  PS X (.Assign [.Name x pos'] e Z) (Lq a (xn i)):=by
 intro pins s σ H D I h;show wpAny_Assign_Name (de (he pins s σ H _ I h) λv s1 #[y,H1,m,b,f]=>?_) d;show AF m j g c b (λs2 l=>#[_,H1,l,f]) hf
end
section
variable{X:Cx}{Z:Pos}
def Kc(c:TT)(f:TS):TS:=λD a H=>∃W:Nat->St->Hp->Prop,(∃m,W m a H)/\∀m a H,W m a H->
 c a H λb e=>if b=P then∃N:St->Hp->Prop,(∀g i,N g i->∃h,h<m/\W h g i)/\f {D with nx:=N,ct:=N,bk:=D.nx} a e else D.nx a e
def vq(r:ZU (model X.prog X.w) X.A X.env X.xe)(L:PT X c Q)(M:PSs X body S):PS X (.While c body [] Z) (Kc Q S):=by
 intro e s B H D I h;let(W,(K,E),turn):=h;show wpAny_While (codeAny_whileLoop (λn J=>∃w A,Inv X e w A J/\W n w A) ?_ K #[B,H,I,E]);rintro n G ⟨g,z,O,C⟩;show Zb r (de (L e G g z _ O (turn n g z C)) λb F a=>?_);let(y,u,l):=a;cases b with
 |true=>
  let(N,t,l):=l;rw[av rfl];show Zb r (de (M e F g y _ u l) λf P j=>?_);cases f with
  |next=>let(a,i,q,o):=j;let(p,hm,m):=t a i o;show#[p,hm,a,i,q,m]
  |cont=>let(a,i,q,o):=j;let(p,hm,m):=t a i o;show#[p,hm,a,i,q,m]
  |brk=>show j
  |ret v=>show j
 |false=>rw[ax WM];show aat #[g,y,u,l]
end
structure It where
 go:Nat->Hp->Prop
 yld:Nat->Hp->V->Hp->Prop
 stop:Nat->Hp->Prop
def sM(X:Cx)(a:G (M×Obj))(H:Hp)(b:M):Prop:=
 H b=U/\b≠X.env.locals/\b∉X.fs/\(b∈X.ex\/X.s₀.heap.objs.size<=b)/\(∀x c,X.env.cells.lookup x=R c->c≠b)/\∀p∈X.pn++a,p.1≠b
def Inv.adt(I:Inv X pins σ H s)(a:s.heap.objs.size<=b)(d:H' b=U):sM X pins H' b:=by
 show#[d,XX (W0 I.lt a),I.anc a,.inr (Xo I.sz a),λx c e z=>?_,λp f z=>?_]
 .let(v,q):=I.cell x c e;show a7 (W0 q.lt (by rw[z];show a)) (XU _)
 .show a7 (W0 (cn (I.pin p f).1) (by rw[z];show a)) (XU _)
structure Turn(P:WX)(w:Xm)(K:Ld)(tg:XB)(J:It)(fp:G M)(it:M)(tn:Nat->Heap->Prop):Prop where
 mem:it∈fp
 obj:∀i h,tn i h->∀b∈fp,∃o,h.get? b=R o/\∀v,o.data≠.cell v
 keep:∀i h h',tn i h->(∀b∈fp,∀o,h.get? b=R o->h'.get? b=R o)->tn i h'
 item:∀(X:Cx),X.prog=P->X.w=w->X.K=K->X.calm=Wl->∀(i:Nat) (pins:G (M×Obj)) (s:Ws) (σ:St) (H:Hp) (E:B->Ws->Prop),Inv X pins σ H s->(∀b∈fp,sM X pins H b)->tn i s.heap->J.go i H->
  wpAny (model P w) X.A (pyNext (.ref it)) (λr s1=>∃u,r=R u/\
   wpAny (model P w) X.A (letOwnedTupleGo tg (.ref it) u) (λ_ s2=>∃x H',Inv X pins σ H' s2/\RelV x u/\J.yld i H x H'/\tn (i+1) s2.heap/\∀b∈fp,H' b=U) E s1) E s
 done:∀(X:Cx),X.prog=P->X.w=w->X.K=K->X.calm=Wl->∀(i:Nat) (pins:G (M×Obj)) (s:Ws) (σ:St) (H:Hp) (E:B->Ws->Prop),Inv X pins σ H s->(∀b∈fp,sM X pins H b)->tn i s.heap->J.stop i H->
  wpAny (model P w) X.A (pyNext (.ref it)) (λr s1=>r=U/\Inv X pins σ H s1) E s
 self:∀(A:W8) (i:Nat) (s:Ws) (Q:B->Ws->Prop) (E:B->Ws->Prop),tn i s.heap->Q (.ref it) s->wpAny (model P w) A (pyIter (.ref it)) Q E s
abbrev TI:=St->Hp->(It->Hp->Prop)->Prop
def VU(X:Cx)(a:G (M×Obj))(l:St)(m:XB)(R:It->Hp->Prop)(e:B)(h:Ws):Prop:=
 ∃(i:M) (j:G M) (g:Nat->Heap->Prop) (J:It) (f:Hp),e=.ref i/\Inv X a l f h/\Turn X.prog X.w X.K m J j i g/\g 0 h.heap/\(∀b∈j,sM X a f b)/\R J f
def PI(X:Cx)(g b:XB)(f:TI):Prop:=
 ∀(a:G (M×Obj)) (s:Ws) (e:St) (H:Hp) (R:It->Hp->Prop),Inv X a e H s->f e H R->
  wpAny (model X.prog X.w) X.A (eval b X.env) (λv h=>wpAny (model X.prog X.w) X.A (pyIter v) (VU X a e g R) X.xe h) X.xe s
def Fz{M:aft}{A:W8}{E:B->Ws->Prop}{s:Ws}{b:XB}{e:Wo}{u:B}{o:Obj}{n:String}{c:Array B}{Q:Unit->Ws->Prop}(f:s.heap.get? e=R o)(g:o.cls=.type n)(hd:o.data=.fields c)
  (d:["enumerate","zip","dict_itemiterator","dict_reverseitemiterator","odict_iterator","itertools.zip_longest","itertools.pairwise"].contains n=Wu) (a:Q ⟨⟩ s):wpAny M A (letOwnedTupleGo b (.ref e) u) Q E s:=by
 ext letOwnedTupleGo;ext b<;>first
  |show Wt a
  |(ext u<;>first
    |show Wt a
    |(show Wf (ahv f ?_)
      rw[g,hd];show wpAny M A (if(["enumerate","zip","dict_itemiterator","dict_reverseitemiterator","odict_iterator","itertools.zip_longest","itertools.pairwise"].contains n&&c[0]? ==R (rawInt _))=P then _ else _) Q E s;rw[ax (by intro h;rw[d,ZK]at h;ext h)];show Wt a))
def Vk(K:Ld)(a:M):It:=
 #[λi H=>∃xs x,SqL K H a xs/\xs[i]?=R x,λi H x b=>b=H/\∀xs,SqL K H a xs->xs[i]?=R x,λi H=>∃xs,SqL K H a xs/\xs.length<=i]
def Vr(K:Ld)(a:M):It:=
 #[λi H=>∃xs x,SqT K H a xs/\xs[i]?=R x,λi H x b=>b=H/\∀xs,SqT K H a xs->xs[i]?=R x,λi H=>∃xs,SqT K H a xs/\xs.length<=i]
def U0(lo:Int)(n:Nat):It:=#[λi _=>i<n,λi H x a=>a=H/\x=.int (lo+i),λi _=>n<=i]
theorem HC{K:Ld}(a g:Wo):Turn Pz0 w K tg (Vk K a) [g] g (λi h=>h.IsListIter g a i) where
 mem:=by simp
 obj:=λi h f b j=>by
  let e:b=g:=by simpa using j
  subst e;let(o,e,c,d):=f;show#[o,e,λv z=>by rw[d]at z;ext z]
 keep:=λi h N f k=>f.at λo e=>k g (by simp) o e
 item:=by intro X A t B M i m s O H E I q f y;subst A t B;let(xs,x,n,r):=y;let(Xp,rv,p,S):=I.list n;let(u,U,R):=rv.get r;let(L,J,Y,G,F,C):=q g (by simp);show wpAny_pyNext_list_item f p.isList (by simpa using U) λN l Q=>?_;let I1:=I.turned (t':=s.toks) (λb o j e=>(Q.2 b j).trans e) L J G F C;let(o,e,c,d):=id l;show#[u,W,Fz e c d () #[x,H,I1,R,#[W,λys T=>by rw[I.aeg T n];show r],l,λb j=>(q b j).1]]
 done:=by intro X A t B M i m s O H E I q f y;subst A t B;let(xs,n,r):=y;let(Xp,rv,p,S):=I.list n;let(L,J,Y,G,F,C):=q g (by simp);let hl:=rv.length;show wpAny_pyNext_list_end (I.ok.hd M) f p.isList (by simp;ext) λN Z=>#[W,I.turned (λb o j e=>Z b o j e) L J G F C]
 self:=λ_ _ _ _ _ f h=>wpAny_pyIter_listiter f h
theorem Cq{K:Ld}(a g:Wo):Turn Pz0 w K tg (Vr K a) [g] g (λi h=>h.IsTupleIter g a i) where
 mem:=by simp
 obj:=λi h f b j=>by
  let e:b=g:=by simpa using j
  subst e;let(o,e,c,d):=f;show#[o,e,λv z=>by rw[d]at z;ext z]
 keep:=λi h O f k=>f.at λo e=>k g (by simp) o e
 item:=by intro X A t B N i m s Q H E I q f y;subst A t B;let(xs,x,n,r):=y;let(M,rv,p,T):=I.tuple n;let(u,Y,S):=rv.get r;let(L,J,Z,G,F,C):=q g (by simp);show wpAny_pyNext_tuple_item f (show s.heap.IsTuple a M.toArray from p) (by simpa using Y) λO l R=>?_;let I1:=I.turned (t':=s.toks) (λb o j e=>(R.2 b j).trans e) L J G F C;let(o,e,c,d):=id l;show#[u,W,Fz e c d () #[x,H,I1,S,#[W,λys U=>by rw[I.afe U n];show r],l,λb j=>(q b j).1]]
 done:=by intro X A t B N i m s Q H E I q f y;subst A t B;let(xs,n,r):=y;let(M,rv,p,T):=I.tuple n;let(L,J,Z,G,F,C):=q g (by simp);let hl:=rv.length;show wpAny_pyNext_tuple_end (I.ok.hd N) f (show s.heap.IsTuple a M.toArray from p) (by simp;ext) λO eb=>#[W,I.turned (λb o j e=>eb b o j e) L J G F C]
 self:=λ_ _ _ _ _ f h=>wpAny_pyIter_tupleiter f h
theorem DH{K:Ld}(g:Wo)(lo:Int)(n:Nat):Turn Y w K Z (U0 lo n) [g] g (λi h=>IsRangeIter h g (lo+(i:Nat)*1) ((n:Int) - (i:Nat)) 1) where
 mem:=by simp
 obj:=λi h a b j=>by
  let e:b=g:=by simpa using j
  subst e;show#[_,a,λv z=>by let M:=z;ext M]
 keep:=λi h A a k=>k g (by simp) _ a
 item:=by intro X u p y r i f s L H E I m a q;subst u p y;let(J,G,R,F,C,B):=m g (by simp);let W:=Walks.range (prog:=X.prog) (w:=X.w) (I.ok.hd r) g lo 1 n;show W.item i s _ _ q a λv A N Q l O=>?_;let(t,rfl):=Q;let T:Inv X f L H {s with heap:=A,toks:=N}:=I.turned (λb o j e=>O b o (by simpa using j) e) J G F C B;show#[_,rfl,Fz l rfl rfl () #[.int (lo+i),H,T,#[t,?_],#[rfl,rfl],l,λb j=>(m b j).1]];rw[Int.mul_one]
 done:=by intro X u p y r i f s L H E I m a q;subst u p y;let(J,G,R,F,C,B):=m g (by simp);show wpAny_pyNext_range_end (I.ok.hd r) a (by let:n<=i:=q;ext) λA S=>#[rfl,I.turned (λb o j e=>S b o j e) J G F C B]
 self:=λ_ _ _ _ _ a h=>wpAny_pyIter_rangeiter a h
section
variable{X:Cx}{Z:XB}
def Jf{a:G (M×Obj)}{f:St}{H:Hp}{s:Ws}{R:It->Hp->Prop}{E:B->Ws->Prop}{lo c:Int}{t u v:Tok}{g:Nat}(I:Inv X a f H s)(n: -(2^62)<=lo)(m:lo<2^62)(l: -(2^62)<=c)(j:c<2^62)
  (q:R (U0 lo (c - lo).toNat) H):wpAny (model X.prog X.w) X.A (pyIter (.ref s.heap.objs.size)) (VU X a f Z R) E {s with heap:=s.heap.push {cls:=.type "range",data:=.fields #v[.int lo t,.int c u,.int 1 v]},toks:=g}:=by
 show wpAny_pyIter_range (IsRange.new ..) (small_one n m l j) ?_;let h:Inv X a f H {s with heap:=s.heap.push {cls:=.type "range",data:=.fields #v[.int lo t,.int c u,.int 1 v]},toks:=g}:=I.kept λb o e=>cj _ e;show#[(s.heap.push {cls:=.type "range",data:=.fields #v[.int lo t,.int c u,.int 1 v]}).objs.size,[(s.heap.push {cls:=.type "range",data:=.fields #v[.int lo t,.int c u,.int 1 v]}).objs.size],_,_,H,W,
  h.kept (t':=g) λb o e=>cj _ e,DH _ lo (c - lo).toNat,?_,λb i=>?_,q]
 .let r:lo+((0:Nat):Int)*1=lo:=by simp
  let p:(((c - lo).toNat:Nat):Int) - ((0:Nat):Int)=W7.Range.rangeSize lo c 1:=by rw[rangeSize_one];split<;>ext
  show IsRangeIter _ _ (lo+((0:Nat):Int)*1) ((((c - lo).toNat:Nat):Int) - ((0:Nat):Int)) 1;rw[r,p];show cN _ W
 .let e:b=(s.heap.push {cls:=.type "range",data:=.fields #v[.int lo t,.int c u,.int 1 v]}).objs.size:=by simpa using i
  subst e;show h.adt (Ww _) (h.XY.fresh (Ww _))
def L6(b:TA):TI:=λa H R=>b a H λf e=>∃j:Int,f=[.int j]/\ -(2^62)<=j/\j<2^62/\R (U0 0 j.toNat) e
def dS(o:Gl X "range")(hm:X.mg "range"=U)(c:PA X [a] z)(n:W5 [a] X.env=[(Wu,eval a X.env)]:=by rfl):PI X Z (.Call (.Name "range" p) [a] [] pos) (L6 z):=by
 intro b s g H R I h;show Call_ (pW I o hm boot_range (YT (de (c pos b s g H _ I h) λv w #[A,y,u,l,f]=>?_) n W));let(j,e,f,m,q):=f;subst e;cases l with
 |cons r i=>ext i;let(t,rfl):=r;show call_range_1 (Jf u () () f m (by simpa using q))
def RL(e:TI)(g:TG)(f:TS):TS:=λD a H=>e a H λJ j=>∃W:Nat->Nat->St->Hp->Prop,(∃m,W 0 m a j)/\∀i m a H,W i m a H->
 (J.stop i H/\D.nx a H)\/(J.go i H/\∃N:St->Hp->Prop,(∀l n,N l n->∃o,o<m/\W (i+1) o l n)/\∀x n,J.yld i H x n->g x a n λb h=>f {D with nx:=N,ct:=N,bk:=D.nx} b h)
def uW(a:G M)(h:Heap):G (M×Obj):=a.filterMap λb=>(h.get? b).map λo=>(b,o)
theorem lj(a:b∈f)(e:h.get? b=R o):(b,o)∈uW f h:=aap.mpr #[b,a,by rw[e];rfl]
def HZ(a:p∈uW i h):p.1∈i/\h.get? p.1=R p.2:=by
 let(b,f,e):=aap.mp a;cases q:h.get? b with
 |none=>rw[q]at e;ext e
 |some o=>rw[q]at e;let g:=WE e;subst g;show#[f,q]
theorem Inv.pinned(I:Inv X pins σ H s)(i:∀b∈fp,sM X pins H b)(h:∀b∈fp,∃o,s.heap.get? b=R o/\∀v,o.data≠.cell v):Inv X (pins++uW fp s.heap) σ H s:=
 I.adS λp g=>(Xn.mp g).elim (λz=>I.pin p (XG _ z)) λz=>by let(a,e):=HZ z;let(m,l,j,_):=i p.1 a;let(o,f,d):=h p.1 a;rw[e]at f;ext f;show#[e,m,l,j,d]
theorem Inv.ab6(I:Inv X (pins++pl) σ H s):Inv X pins σ H s:=I.adS λp a=>I.pin p (XG _ (aab _ a))
def pE(L:ZU (model X.prog X.w) X.A X.env X.xe)(c:X.calm=Wl)(V:PI X Z iter wi)(hg:PG X Z g)(p:PSs X body tb)
  (k:∀x,foldedSetIterable iter X.env x=pure x:=by intro _;rfl):PS X (.For Z iter body [] pos) (RL wi g tb):=by
 intro j s σ H D I h;show wpAny_For (de (V j s σ H _ I h) λv s1 h1=>de h1 λitv s2 h2=>?_) k;let(it,O,tn,J,H2,e,I2,T,R,f2,W,(m0,w0),turn):=h2;subst e;let E:∀{z:Hp},(∀b∈O,z b=Wh)->∀b∈O,sM X j z b:=λhn b p=>#[hn b p,(f2 b p).2];show codeAny_forLoop_any (λn s'=>∃i A z,Inv X j A z s'/\tn i s'.heap/\(∀b∈O,z b=Wh)/\W i n A z) ?_ m0 #[0,σ,H2,I2,R,λb p=>(f2 b p).1,w0];rintro n s3 ⟨i,l,P,I3,G,M,w3⟩;rcases turn i n l P w3 with⟨F,qn⟩|⟨go,N,hN,step⟩
 .show Zb L (de (T.done X rfl rfl rfl c i j s3 l P X.xe I3 (E M) G F) λr s4 #[w,I4]=>?_);subst w;show aat #[l,P,I4,qn]
 .show Zb L (de (T.item X rfl rfl rfl c i j s3 l P X.xe I3 (E M) G go) λr s4 #[u,w,h4]=>?_)
  subst w;show Zb L (de h4 λ_ s5 a=>?_);let(x,H5,I5,r5,y5,C,Y):=a;let I5':=I5.pinned (E Y) (T.obj _ _ C);show Zb L (de (hg _ s5 l H5 x u _ I5' r5 (step x H5 y5)) λ_ s6 a=>?_);let(Q,H6,I6,q6):=a;show Zb L (de (p _ s6 Q H6 _ I6 q6) λf S B=>?_);let q:∀{a:St} {y:Hp},Inv X (j++uW O s5.heap) a y S->N a y->∃m,m<n/\∃i A z,Inv X j A z S/\tn i S.heap/\(∀b∈O,z b=Wh)/\W i m A z:=λ{a y} t K=>by let(m',hm,w7):=hN a y K;show#[m',hm,i+1,a,y,t.ab6,T.keep _ _ _ C λb p o e=>(t.pin (b,o) (XG _ (XG _ (lj p e)))).1,λb p=>?_,w7];let(o,e,d):=T.obj _ _ C b p;show(t.pin (b,o) (XG _ (XG _ (lj p e)))).2.1
  cases f with
  |next=>let(a,y,t,K):=B;show q t K
  |cont=>let(a,y,t,K):=B;show q t K
  |brk=>let(a,y,t,B):=B;show#[a,y,t.ab6,B]
  |ret v=>let(x7,a,y,t,r7,B):=B;show#[x7,a,y,t.ab6,r7,B]
end
abbrev R2:=V->V->Hp->VK->Prop
def OpR(X:Cx)(f:B->B->Sem B)(r:R2):Prop:=
 ∀(a:G (M×Obj)) (s:Ws) (b:St) (H:Hp) (x y:V) (v u:B) (Q:VK),Inv X a b H s->RelV x v->RelV y u->r x y H Q->
  wpAny (model X.prog X.w) X.A (f v u) (EP X a b Q) X.xe s
def VD(X:Cx)(f:B->Sem B)(r:V->Hp->VK->Prop):Prop:=
 ∀(a:G (M×Obj)) (s:Ws) (b:St) (H:Hp) (x:V) (v:B) (Q:VK),Inv X a b H s->RelV x v->r x H Q->
  wpAny (model X.prog X.w) X.A (f v) (EP X a b Q) X.xe s
def Zf(X:Cx)(f:B)(r:G V->Hp->VK->Prop):Prop:=
 ∀(a:G (M×Obj)) (s:Ws) (b:St) (H:Hp) (xs:G V) (e:G B) (Q:VK),Inv X a b H s->Vals xs e->r xs H Q->
  wpAny (model X.prog X.w) X.A (call f e) (EP X a b Q) X.xe s
def To(r:R2)(e b:TE):TE:=λa H Q=>e a H λx g=>b a g λy f=>r x y f Q
def Vz(r:V->Hp->VK->Prop)(b:TE):TE:=λa H Q=>b a H λx e=>r x e Q
def rI(C:Int->Int->Prop)(g:Int->Int->V):R2:=λx y H Q=>∃i j,x=.int i/\y=.int j/\C i j/\Q (g i j) H
def Aj(g:Int->Int->V):R2:=λx y H Q=>∃i j,x=.int i/\y=.int j/\Q (g i j) H
def rU(g:Int->V):V->Hp->VK->Prop:=λx H Q=>∃i,x=.int i/\Q (g i) H
section
variable{X:Cx}{a b c:XB}{Z Y S:TE}{T:Pos}
def So(r:PE X a Z)(n:PE X b Y){R:V->V->Hp->Prop}(I:Inv X pins σ H s)
  (h:Z σ H λx H1=>Y σ H1 λy d=>R x y d) {f:B->B->Sem B}
  (m:∀v u s2 x y d,Inv X pins σ d s2->RelV x v->RelV y u->R x y d->wpAny (model X.prog X.w) X.A (f v u) Q X.xe s2):
  wpAny (model X.prog X.w) X.A (eval a X.env) (λv q=>wpAny (model X.prog X.w) X.A (eval b X.env) (λu k=>wpAny (model X.prog X.w) X.A (f v u) Q X.xe k) X.xe q) X.xe s:=by
 show de (r pins s σ H _ I h) λv e a=>?_;let(x,H1,p,i,l):=a;show de (n pins e σ H1 _ p l) λu s2 a=>?_;let(y,d,o,g,j):=a;show m v u s2 x y d o i g j
def nw(l:OpR X (Yx op) r)(d:PE X a Z)(m:PE X b Y):PE X (.BinOp a op b T) (To r Z Y):=by intro e s f H Q I h;show wpAny_BinOp (So d m I h λv u g x y o n j i q=>l e g f o x y v u Q n j i q)
def Ez(l:VD X (unaryOp op) r)(d:PE X a Z):PE X (.UnaryOp op a T) (Vz r Z):=by intro e s f H Q I h;show UnaryOp_ (de (d e s f H _ I h) λv g #[x,n,m,i,j]=>l e g f n x v Q m i j)
def Tw{g:Int->Int->Int}
  (e:∀(i j:Int) (t u:Tok) (s:Ws) (Q:B->Ws->Prop) (E:B->Ws->Prop),C i j->Q (.int (g i j) s.toks) {s with toks:=s.toks+1}->wpAny (model X.prog X.w) X.A (f (.int i t) (.int j u)) Q E s):
  OpR X f (rI C λi j=>.int (g i j)):=by
 intro l s r H x y v u Q I o n h;let(i,j,rfl,rfl,p,q):=h;let(t,rfl):=o;let(m,rfl):=n;show e i j t m s _ _ p #[.int (g i j),H,I.tok _,#[_,W],q]
def QT{g:Int->Int->Int}
  (e:∀(i j:Int) (t u:Tok) (s:Ws) (Q:B->Ws->Prop) (E:B->Ws->Prop),Q (.int (g i j) s.toks) {s with toks:=s.toks+1}->wpAny (model X.prog X.w) X.A (f (.int i t) (.int j u)) Q E s):
  OpR X f (Aj λi j=>.int (g i j)):=by
 intro l s p H x y v u Q I o n h;let(i,j,rfl,rfl,q):=h;let(t,rfl):=o;let(m,rfl):=n;show e i j t m s _ _ #[.int (g i j),H,I.tok _,#[_,W],q]
def MR{g:Int->Int->Bool}
  (e:∀(i j:Int) (t u:Tok) (s:Ws) (Q:B->Ws->Prop) (E:B->Ws->Prop),Q (.bool (g i j)) s->wpAny (model X.prog X.w) X.A (f (.int i t) (.int j u)) Q E s):
  OpR X f (Aj λi j=>.bl (g i j)):=by
 intro l s p H x y v u Q I o n h;let(i,j,rfl,rfl,q):=h;let(t,rfl):=o;let(m,rfl):=n;show e i j t m s _ _ #[.bl (g i j),H,I,W,q]
def Lr(i j:Int):Prop:=0<=j/\j<=1000000/\i.natAbs<2^64
def agU(i j:Int):Prop:=(-(2^64)<i/\i<2^64)\/(-(2^64)<j/\j<2^64)
def agU.ok(h:agU i j):IntMulOk i j:=by
 rcases h with⟨f,e⟩|⟨f,e⟩
 .show .of_left (ank f e)
 .show .of_right (ank f e)
def two_pow_nn(k:Nat):(0:Int)<=2^k:=by rw[two_pow_cast];show Int.natCast_nonneg _
theorem Rc:OpR X (Yx .Add) (Aj λi j=>.int (i+j)):=QT λ_ _ _ _ _ _ _ q=>add_int q
theorem RF:OpR X (Yx .Sub) (Aj λi j=>.int (i - j)):=QT λ_ _ _ _ _ _ _ q=>sub_int q
theorem Tl:OpR X (Yx .Mult) (rI agU λi j=>.int (i*j)):=Tw λ_ _ _ _ _ _ _ e q=>mul_int q e.ok
theorem Sy:OpR X (Yx .Mod) (rI (λ_ j=>0<j) λi j=>.int (i % j)):=Tw λi j _ _ _ _ _ e q=>by let f:(0:Int)<j:=e;show mod_int' () (by rw[Int.fmod_eq_emod_of_nonneg i ()];show q)
theorem SH:OpR X (Yx .Pow) (rI Lr λi j=>.int (i^j.toNat)):=Tw λ_ _ _ _ _ _ _ e q=>pow_int_small e.1 e.2.1 e.2.2 q
theorem IK:OpR X (Yx .LShift) (rI Lr λi j=>.int (i*2^j.toNat)):=Tw λ_ _ _ _ _ _ _ e q=>lshift_int_small e.1 e.2.1 e.2.2 q
theorem Mp:OpR X (Yx .RShift) (rI (λ_ j=>0<=j) λi j=>.int (i/2^j.toNat)):=Tw λi j _ _ _ _ _ e q=>
 rshift_int e (by rw[adD i (two_pow_nn _)];show q)
theorem Ku:OpR X (Yx .BitAnd) (Aj λi j=>.int (W7.bitAnd i j)):=QT λ_ _ _ _ _ _ _ q=>and_int q
def V2{g:Int->Int}
  (e:∀(i:Int) (t:Tok) (s:Ws) (Q:B->Ws->Prop) (E:B->Ws->Prop),Q (.int (g i) s.toks) {s with toks:=s.toks+1}->wpAny (model X.prog X.w) X.A (f (.int i t)) Q E s):
  VD X f (rU λi=>.int (g i)):=by
 intro j s m H x v Q I l h;let(i,rfl,q):=h;let(t,rfl):=l;show e i t s _ _ #[.int (g i),H,I.tok _,#[_,W],q]
theorem yc:VD X (unaryOp .USub) (rU λi=>.int (-i)):=V2 λ_ _ _ _ _ q=>neg_int q
end
section
variable{X:Cx}{a b c:XB}{Y Z U:TE}{pos:Pos}
def K1(I:Inv X pins σ H s)(q:Q (.bl k) H)(e:k=f):EP X pins σ Q (.bool f) s:=by subst e;show#[.bl k,H,I,W,q]
theorem PU:OpR X (Yl .Lt) (Aj λi j=>.bl (decide (i<j))):=MR λ_ _ _ _ _ _ _ q=>lt_int q
theorem Kq:OpR X (Yl .LtE) (Aj λi j=>.bl (decide (i<=j))):=MR λ_ _ _ _ _ _ _ q=>le_int q
theorem FU:OpR X (Yl .Gt) (Aj λi j=>.bl (decide (j<i))):=MR λ_ _ _ _ _ _ _ q=>gt_int q
theorem PZ:OpR X (Yl .GtE) (Aj λi j=>.bl (decide (j<=i))):=MR λ_ _ _ _ _ _ _ q=>ge_int q
def CL:OpR X (Yl .Is) (λx y H Q=>y=.YM/\Q (.bl (decide (x=.YM))) H):=by
 intro f s i H x y v u Q I e g h;let(rfl,q):=h;ext g;show is_none_gen (K1 I q ?_);ext x<;>first
  |(ext e;rfl)
  |(let(t,rfl):=e;rfl)
def Fi:OpR X (Yl .IsNot) (λx y H Q=>y=.YM/\Q (.bl (!decide (x=.YM))) H):=by
 intro f s i H x y v u Q I e g h;let(rfl,q):=h;ext g;show isnot_none_gen (K1 I q ?_);ext x<;>first
  |(ext e;rfl)
  |(let(t,rfl):=e;rfl)
def gp(b:XB)(h:op≠.In:=by decide)(e:op≠.NotIn:=by decide):behindInMarks op b=Wu:=by
 let g:(op==CmpOp.In)=Wu:=by ext op<;>first|rfl|show a7 W h
 let f:(op==CmpOp.NotIn)=Wu:=by ext op<;>first|rfl|show a7 W e
 ext b<;>simp[behindInMarks,g,f]
def gA{f:CmpOp}{r:R2}(m:OpR X (Yl f) r)(d:PE X a Y)(n:PE X b Z)(hm:behindInMarks f b=Wu):PE X (.Compare a [f] [b] pos) (To r Y Z):=by intro e s g H Q I h;show wpAny_Compare1 (So d n I h λv u i x y p o l j q=>m e i g p x y v u Q o l j q) hm
def Gx(t:TE):TT:=λe H Q=>t e H λx f=>∃k,x=.bl k/\Q k f
def iJ(t:OpR X (Yl op) r)(d:PE X a Y)(w:PE X b Z)(hm:behindInMarks op b=Wu):PT X (.Compare a [op] [b] pos) (Gx (To r Y Z)):=by
 intro f s g H Q I h;show agi (de (d f s g H _ I h) λv j #[x,G,C,n,q]=>de (w f j g G _ C q) λu i #[y,F,K,m,p]=>
  de (t f i g F x y v u _ K n m p) λc J #[z,E,A,l,k,e,o]=>?_) hm
 subst e;ext l;show Yv #[E,A,o]
def JJ(r d:R2)(Y Z U:TE):TE:=λe H Q=>Y e H λx j=>Z e j λy i=>r x y i λz f=>∃k,z=.bl k/\
 (if k=P then U e f λg h=>d y g h Q else Q (.bl Wu) f)
def Bm(N:OpR X (Yl op) r)(i:OpR X (Yl op') r')(D:PE X a Y)(P:PE X b Z)(O:PE X c U)
  (hm:lastMarks [op,op'] [b,c]=Wu:=by with_unfolding_all rfl):PT X (.Compare a [op,op'] [b,c] pos) (Gx (JJ r r' Y Z U)):=by
 intro f s g H Q I h;show isTrue_chain (de (D f s g H _ I h) λv A #[x,H1,I1,F,L]=>test_link (de (P f A g H1 _ I1 L) λu w #[y,H2,I2,j,K]=>
  de (N f w g H2 x y v u _ I2 F j K) λd t #[z,n,m,E,k,e,l]=>?_)) hm
 subst e;ext E;show Yv ?_;cases k with
 |false=>let(k',S,M):=l;ext S;show ite_ff #[n,m,M]
 |true=>show ite_tt (test_last (de (O f t g n _ m l) λp q #[o,H4,I4,C,J]=>de (i f q g H4 y o u p _ I4 j C J) λd' s5 a=>?_));let(z2,H5,T,Bz0,k2,R1,G):=a;subst R1;ext Bz0;show Yv #[H5,T,G]
def yA:(WG:Nat)<2^63:=by rw[YO];decide
def mn(r:Vals [x] us):∃u,us=[u]/\RelV x u:=by
 cases r with
 |cons f e=>ext e;show#[_,W,f]
def Fp(r:Vals [x,y] us):∃u d,us=[u,d]/\RelV x u/\RelV y d:=by
 cases r with
 |cons h g=>
  cases g with
  |cons f e=>ext e;show#[_,_,W,h,f]
def Ih(g:X.calm=P):Zf X (.builtin "max") (λxs H Q=>∃i j,xs=[.int i,.int j]/\Q (.int (if j>i then j else i)) H):=by
 intro f s l H xs n Q I r h;let(i,j,rfl,q):=h;let(u,m,rfl,(t,rfl),(p,rfl)):=Fp r;show max_two_ints (I.ok.hd g) λv o k=>#[_,H,I.kept k,?_,q];by_cases e:j>i
 .rw[av e,av e];show#[_,W]
 .rw[ax e,ax e];show#[_,W]
def N5(K:Ld)(x:V)(H:Hp)(n:Nat):Prop:=
 match x with
 |.str y=>y.length<=WG/\n=y.length
 |.byt y=>y.size<=WG/\n=y.size
 |.ref p=>(∃xs,SqL K H p xs/\n=xs.length)\/∃xs,SqT K H p xs/\n=xs.length
 |_=>False
def dG:Zf X (.builtin "len") (λxs H Q=>∃x n,xs=[x]/\N5 X.K x H n/\Q (.int n) H):=by
 intro m s z H xs A Q I r h;let(x,n,rfl,e,q):=h;let(u,rfl,i):=mn r;let C:=yA;let B:=YO;cases x with
 |str y=>let(t,rfl):=i;let(v,g):=e;subst g;show len_str () #[.int _,H,I.tok _,#[_,W],q]
 |byt y=>let(t,rfl):=i;let(v,g):=e;subst g;show PySem.W.len_bytes () #[.int _,H,I.tok _,#[_,W],q]
 |ref p=>
  ext i;let g:=e;rcases g with⟨xs,l,g⟩|⟨xs,l,g⟩
  .subst g;let(w,j,pl,o):=I.list l;let f:=j.length;show Calls.call_len_list pl.isList (by simp only[WA];ext) #[.int xs.length,H,I.tok _,#[_,by simp only[WA];rw[f]],q]
  .subst g;let(w,j,pl,o):=I.tuple l;let f:=j.length;show len_tuple pl (by simp only[WA];ext) #[.int xs.length,H,I.tok _,#[_,by simp only[WA];rw[f]],q]
 |_=>show(show False from e).elim
end
structure aeM(h:Heap)(x dx C:M)(mA:Str->I B):Prop where
 obj:h.get? x=R (YA C dx)
 ns:h.Ns1 dx mA
 ne:dx≠x
def Hu{h:Heap}(n:h.Ns1 u r):∃c,h.get? u=R c/\∀name,aa6 name c=R (r name):=by
 let(o,f,p,i,l,j,_,hm):=n;show#[o,i,λname=>?_];let e:=hm name;unfold nsFind findBy at e;rw[<-ae8]at e;ext aa6;rw[l];dsimp only;split
 .rename_i y q;rw[q]at e;show eh R e
 .rename_i q
  rw[q]at e;let a:f.toList.any (·.refKey)=Wu:=by rw[List.any_eq_false];intro y g;let(z,t,b):=j y (Array.mem_toList_iff.mp g);simp[ZV.refKey,b]
  let m:¬f.toList.any (·.refKey)=P:=by rw[a];show WM
  rw[ax m];show eh R e
theorem aeM.look(I:aeM h x dx C mA):∃a,PySem.W.InstAt h x (YA C dx) C (R a)/\∀name,aa6 name a=R (mA name):=
 let#[a,b,e]:=Hu I.ns
 #[a,#[I.obj,W,W,b],e]
section
variable{T:WX}{w:Xm}{A:W8}{E:Wi->Ws->Prop}{s:Ws}{K:Ld}{x S C f:Wo}{Z:Str->bP Wi}{Y:Str}{v:Wi}
def Pn(X:K.In s.heap)(I:aeM s.heap x S C Z)(i:ZP K C Y=P)(g:aaq K C=P)
  (c:Xy K (.ref C) Y=R U) (b:Z Y=R v) (a:ae9 v=P) (h:Q v {s with toks:=s.toks+1}):
  wpAny (model T w) A (getAttr (.ref x) Y expr) Q E s:=by
 let(j,J,e):=I.look;show PySem.W.get_value X J (abv i).1 (PySem.W.findObj_own g c W (by rw[e,b])) a h
def II(X:K.In s.heap)(I:aeM s.heap x S C Z)(a:ZP K C Y=P)
  (j:Xy K (.ref C) Y=R (R (.ref f))) (g:Zc K (.ref f)=P) (e:Z Y=U) (h:Q (.ref f,[.ref x]) s):
  wpAny (model T w) A (getMethod (.ref x) Y pl) Q E s:=by
 let(b,J,i):=I.look;show PySem.W.method_fn X J (abv a).1 (abv a).2 j (beq_iff_eq.mp g) (by show(aa6 Y b).map (·.isSome)=R Wu;rw[i,e];rfl) h
def NK(X:K.In s.heap)(I:aeM s.heap x S C Z)
  (p:Xy K (.ref C) "__setattr__"=R (R (.builtin "object.__setattr__"))) (q:abY K C=P) (o:acC K C Y=R U) (r:aaq K C=P)
  (n:ad6 Z ns) (d:ns.length<=WG)
  (h:∀c,aeM c x S C (λy=>if y=Y then R v else Z y)->Heap.SameBut S s.heap c->Q ⟨⟩ {s with heap:=c,toks:=s.toks+2}):
  wpAny (model T w) A (setAttr (.ref x) Y v) Q E s:=by
 let(B,J,G):=I.look;show PySem.W.set_plain X J p (PySem.W.osa_open X J q o λb=>?_);let(H,t,j):=PySem.W.any_some r;let m:=I.obj;show Wf (Wt (Wf (Wf (ak8 m (Wf (aiN (PySem.W.looks_clsIn X t) ?_))))));rw[j];show Wt (Wf (Wt (Wf ?_)));show wpAny_nsSet1 I.ns λc e a=>?_;let(F,u,z,g,i,l):=e.count (ajY Y v n);show Wf (aiO g (by rw[i];show aiP (Xo l (by rw[WJ];ext))) ?_);show Wt (h _ #[(a.2 _ (d3 I.ne)).trans I.obj,e,I.ne] a)
def JW{R:adE->Ws->Prop}{c:G B}{b:G (Str×B)}(X:K.In s.heap)(hm:acD K C=P)
  (k:Xy K (.ref C) "__init__"=lD (lD (.ref f))) (e:afL K (.ref f)=lD (.type "function"))
  (h:codeAny (model T w) (A.under (.builtin "type.__call__" #[.ref C::c,b])) (.call (.ref f) #[.ref (s.heap.objs.size+1)::c,b]) (PySem.W.InitBack (s.heap.objs.size+1) R)
   {s with heap:=(s.heap.push X5).push (YA C s.heap.objs.size)}):
  codeAny (model T w) A (.call (.ref C) #[c,b]) R s:=by
 let(j,g,d,t,i):=s;show PySem.W.make_core (PySem.W.makes_of X hm) (PySem.W.looks_findIn X k) (λa=>PySem.W.bind_fn X a e) (.inl W) h
end
def kE(f:Str)(v:V):G (Str×V)->G (Str×V)
 |[]=>[(f,v)]
 |(g,x)::r=>if g=f then(g,v)::r else(g,x)::kE f v r
theorem sX(f g:Str)(v:V):∀fs:G (Str×V),(kE f v fs).lookup g=if g=f then R v else fs.lookup g
 |[]=>by
  show YY g [(f,v)]=_;by_cases h:g=f
  .let a:=beq_iff_eq.mpr h;simp only[YY,a,av h]
  .let a:=beq_eq_false_iff_ne.mpr h;simp only[YY,a,ax h]
 |(k,x)::r=>by
  let i:=sX f g v r;rw[show kE f v ((k,x)::r)=(if k=f then(k,v)::r else(k,x)::kE f v r)from rfl];by_cases b:k=f
  .rw[av b]
   by_cases h:g=k
   .let a:=beq_iff_eq.mpr h;simp only[YY,a,av (h.trans b)]
   .let a:=beq_eq_false_iff_ne.mpr h;simp only[YY,a,ax (λe:g=f=>h (e.trans b.symm))]
  .rw[ax b]
   by_cases h:g=k
   .let a:=beq_iff_eq.mpr h;simp only[YY,a,ax (λe:g=f=>b (h.symm.trans e))]
   .let a:=beq_eq_false_iff_ne.mpr h;simp only[YY,a];show i
theorem sB(f:Str)(v:V):∀fs:G (Str×V),f∈(kE f v fs).map (·.1)/\∀g,g∈fs.map (·.1)->g∈(kE f v fs).map (·.1)
 |[]=>#[by simp[kE],λg h=>by simp at h]
 |(k,x)::r=>by
  let(i,b):=sB f v r;rw[show kE f v ((k,x)::r)=(if k=f then(k,v)::r else(k,x)::kE f v r)from rfl];by_cases a:k=f
  .rw[av a];subst a;show#[by simp,λg h=>by simpa using h]
  .rw[ax a]
   show#[?_,λg h=>?_]
   .rw[WL];show WH _ i
   .rw[WL]at h⊢
    rcases W2.mp h with e|e
    .show W2.mpr (.inl e)
    .show WH _ (b g e)
theorem tG(f:Str)(v:V):∀fs:G (Str×V),(kE f v fs).length<=fs.length+1
 |[]=>by simp[kE]
 |(k,x)::r=>by
  let b:=tG f v r;rw[show kE f v ((k,x)::r)=(if k=f then(k,v)::r else(k,x)::kE f v r)from rfl];by_cases a:k=f
  .rw[av a,WJ,WJ];ext
  .rw[ax a,WJ,WJ];ext
def aaJ.some_of(r:aaJ (R v) o):∃u,o=R u/\RelV v u:=by
 cases o with
 |none=>show(show False from r).elim
 |some u=>show#[u,W,r]
def aaJ.none_of(r:aaJ U o):o=U:=by
 cases o with
 |none=>rfl
 |some u=>show(show False from r).elim
def Ij(r:RelV v u):ae9 u=P:=by
 cases v with
 |YM=>cases(show u=Wi.none from r);rfl
 |bl b=>cases(show u=Wi.bool b from r);rfl
 |int i=>let(t,e):=(show∃t,u=Wi.int i t from r);ext e;rfl
 |str x=>let(t,e):=(show∃t,u=Wi.str x t from r);ext e;rfl
 |byt b=>let(t,e):=(show∃t,u=Wi.bytes b t from r);ext e;rfl
 |flt b=>let(t,e):=(show∃t,u=Wi.float b t from r);ext e;rfl
 |ref a=>cases(show u=Wi.ref a from r);rfl
 |ty n=>cases(show u=Wi.type n from r);rfl
section
variable{P:WX}{w:Xm}{H X:Hp}{h T:Heap}{a C Z:Wo}{fs Y:br (Str×V)}
def yw(XY:HOk P w H h)(e:H a=R (.ins C Z fs)):∃c,aeM h a Z C c/\(∀f,aaJ (fs.lookup f) (c f))/\ad6 c (fs.map (·.1))/\fs.length<=1000/\H Z=R (.own a):=by let(d,z,ne,b,c,n,r,q):=(show ObjOk P w H h a (.ins C Z fs)from XY a _ e);show#[c,#[b,n,ne],r,q,z,d]
end
structure Cls(K:Ld)(C:M):Prop where
 pg:ZP K C Str.empty=P
 hd:aaq K C=P
 po:abY K C=P
 sa:Xy K (.ref C) "__setattr__"=R (R (.builtin "object.__setattr__"))
theorem Cls.get{K:Ld}(c:Cls K C)(f:Str):ZP K C f=P:=c.pg
def aaw(K:Ld)(C:M)(f:Str):Prop:=Xy K (.ref C) f=R U
def aaw.ajW{K:Ld}(n:aaw K C f):acC K C f=R U:=by ext acC;rw[show Xy K (.ref C) f=R U from n];rfl
structure Con(K:Ld)(C:M)(f:Str)(v:V)(u:B):Prop where
 at_:Xy K (.ref C) f=R (R u)
 rel:RelV v u
 get:ZG K u "__get__"=R U
 cp:PySem.W.copiedNames.contains f=Wu
structure Meth(K:Ld)(C:M)(m:Str)(f:M):Prop where
 at_:Xy K (.ref C) m=R (R (.ref f))
 fn:Zc K (.ref f)=P
 kp:Yh K (.ref f)=P
section
variable{X:Cx}{Z:br (Wo×Obj)}{Y:St}{H:Hp}{s:Ws}{a C T:Wo}{fs:br (Str×V)}{f:Str}{v:V}{A:W8}{E:Wi->Ws->Prop}
def Dc(I:Inv X Z Y H s)(e:H a=R (.ins C T fs))(c:Cls X.K C)(n:aaw X.K C f)(l:fs.lookup f=R v)
  (h:∀u d,Inv X Z Y H d->RelV v u->Q u d):wpAny (model X.prog X.w) A (getAttr (.ref a) f b) Q E s:=by
 let(j,O,r,_,_,_):=yw I.XY e;let(u,i,g):=aaJ.some_of (by rw[<-l];show r f);show Pn I.kIn O (c.get f) c.hd n i (Ij g) (h u _ (I.tok _) g)
def ve(I:Inv X Z Y H s)(e:H a=R (.ins C T fs))(c:Cls X.K C)(k:Meth X.K C m g)(l:fs.lookup m=U)
  (h:Q (.ref g,[.ref a]) s):wpAny (model X.prog X.w) A (getMethod (.ref a) m pl) Q E s:=by
 let(b,O,r,_,_,_):=yw I.XY e;let i:=aaJ.none_of (by rw[<-l];show r m);show II I.kIn O (c.get m) k.at_ k.fn i h
def C3(I:Inv X Z Y H s)(e:H a=R (.ins C T fs))(c:Cls X.K C)(n:aaw X.K C f)(M:fs.length<1000)(t:RelV y u)
  (h:∀d,Inv X Z Y (bW H a (.ins C T (kE f y fs))) d->Q ⟨⟩ d):wpAny (model X.prog X.w) A (setAttr (.ref a) f u) Q E s:=by
 let(l,O,r,j,_,m):=yw I.XY e;let B:(fs.map (·.1)).length<=WG:=by rw[Wg,YO];ext
 show NK I.kIn O c.sa c.po n.ajW c.hd j B λL i p=>h _ ?_;let G:∃o,L.get? T=R o:=let#[o,_,_,w,_]:=i.ns;#[o,w]
 show I.write (by rw[e];show True.intro) (.inr m) (λb q J z=>(p.2 b J).trans z) G ?_;show#[by rw[aU O.ne];show m,?_,O.ne,i.obj,_,i.ns,λg=>?_,λg F=>?_]
 .let:=tG f y fs;ext
 .show aaJ ((kE f y fs).lookup g) (if g=f then R u else l g)
  rw[sX];by_cases q:g=f
  .rw[av q,av q];show t
  .rw[ax q,ax q];show r g
 .by_cases q:g=f
  .rw[q];show(sB f y fs).1
  .show(sB f y fs).2 g (j g λz=>F ?_);show(if g=f then R u else l g)=U;rw[ax q];show z
def Inv.made(I:Inv X Z Y H s):Inv X Z Y (bW (bW H s.heap.objs.size (.own (s.heap.objs.size+1))) (s.heap.objs.size+1) (.ins C s.heap.objs.size []))
  {s with heap:=(s.heap.push X5).push (YA C s.heap.objs.size)}:=by
 let g:(s.heap.push X5).get? s.heap.objs.size=R X5:=cN s.heap W;let l:((s.heap.push X5).push (YA C s.heap.objs.size)).get? (s.heap.objs.size+1)=R (YA C s.heap.objs.size):=by let:=cN (s.heap.push X5) (o:=YA C s.heap.objs.size) W;rwa [dt]at this
 let j:(s.heap.push X5).Ns s.heap.objs.size (λ_=>U):=#[X5,#v[],_,g,W,(λe i=>a7 i (by simp)),λ_=>W];let m:=I.laid (a:=s.heap.objs.size) (o:=.own (s.heap.objs.size+1)) (h':=s.heap.push X5) (t':=s.toks) (λb u q=>cj _ q) (Ww _) #[_,g];show m.laid (a:=s.heap.objs.size+1) (o:=.ins C s.heap.objs.size []) (t':=s.toks) (λb u q=>cj _ q) (Zm (dt _ _)) ?_;let ne:s.heap.objs.size≠s.heap.objs.size+1:=WZ (Yy _);show#[by rw[aU ne,aY],Xq _,ne,l,λ_=>U,(Heap.Ns1.of_empty j).at λo q=>cj _ q,λ_=>True.intro,λy h=>a7 W h]
theorem OV{prog:WX}{w:Xm}{env:Env}{e:XB}{f:Str}{b:Pos}{s:Ws}{Q:B->Ws->Prop}(g:attributeBase e f env (eval e env)=eval e env)
  (h:wpAny (model prog w) A (eval e env) (λo c=>wpAny (model prog w) A (getAttr o f P) Q E c) E s):wpAny (model prog w) A (eval (.Attribute e f b) env) Q E s:=
 Attribute_any_ h (by rw[arm_eval_Attribute,g])
end
def Ri(K:Ld)(g:TE)(f:Str):TE:=λe H Q=>g e H λx b=>∃a C h fs v,x=.ref a/\b a=R (.ins C h fs)/\Cls K C/\aaw K C f/\fs.lookup f=R v/\Q v b
def Ss(K:Ld)(h g:TE)(f:Str):TS:=λD b H=>g b H λy i=>h b i λx e=>∃a C j fs,x=.ref a/\e a=R (.ins C j fs)/\Cls K C/\aaw K C f/\fs.length<1000/\
 D.nx b (bW e a (.ins C j (kE f y fs)))
section
variable{X:Cx}{o e Z:XB}{f:Str}{T Y O:Pos}{U S:TE}
def b9(m:PE X e U)(p:attributeBase e f X.env (eval e X.env)=eval e X.env):PE X (.Attribute e f T) (Ri X.K U f):=by intro b s g H Q I h;show OV p (de (m b s g H _ I h) λu E a=>?_);let(x,z,y,i,a,C,J,fs,v,r,t,c,n,l,q):=a;subst r;obtain rfl:=i;show Dc y t c n l λA B w j=>#[v,z,w,j,q]
def lg(d:PE X o U)(r:PE X Z S)(t:Yc Z (R (.Attribute o f Y)) T.line X.env=pure Wu):PS X (.Assign [.Attribute o f Y] Z T) (Ss X.K U S f):=by intro b s g H D I h;show adv (de (r b s g H _ I h) λu i #[y,E,K,j,q]=>de (d b i g E _ K q) λJ G #[x,L,A,m,a,C,N,fs,v,w,c,n,l,p]=>?_) t;subst v;obtain rfl:=m;show C3 A w c n l j λF z=>#[g,_,z,p]
end
section
variable{X:Cx}{Z:br (Wo×Obj)}{Y:St}{H:Hp}{s:Ws}{A:W8}{E:Wi->Ws->Prop}{Q:Wi->Ws->Prop}{c:Wi}{b:Bool}
inductive acZ(K:Ld)(H:Hp):V->B->Prop where
 |YM:acZ K H .YM (.type "NoneType")
 |bl (x:Bool):acZ K H (.bl x) (.type "bool")
 |int (i:Int):acZ K H (.int i) (.type "int")
 |str (x:Str):acZ K H (.str x) (.type "str")
 |flt (x:UInt64):acZ K H (.flt x) (.type "float")
 |lst {a:M} {xs:G V} (e:H a=R (.lst xs)):acZ K H (.ref a) (.type "list")
 |frz {a:M} {o:Obj} {xs:G V} (e:H a=R (.frz o (.lst xs))):acZ K H (.ref a) (.type "list")
 |tup {a:M} {xs:G V} (e:H a=R (.tup xs)):acZ K H (.ref a) (.type "tuple")
 |dK {a:M} {W3:G (dI×V)} (e:H a=R (.dK W3)):acZ K H (.ref a) (.type "dict")
 |dT {a:M} {W3:G (G dI×V)} (e:H a=R (.dT W3)):acZ K H (.ref a) (.type "dict")
 |ins {a C dx:M} {fs:G (Str×V)} (e:H a=R (.ins C dx fs)) (cl:Cls K C) (ha:Xy K (.ref C) "__class__"=R (R (.builtin "object.__class__")))
   (hn:ZG K (.builtin "object.__class__") "__get__"=R (R (.builtin "getset_descriptor.__get__"))) (htk:PySem.W.takesIn K (.builtin "object.__class__")=R P)
   (hm:PySem.W.mroIn K C (.type "object")=R P):acZ K H (.ref a) (.ref C)
end
structure YL(k:Nat)(A:W8):Prop where
 hd:A.handled=U
 dp:A.depth+3*k+5<recursionLimit
 un:A.units+16*k+200<cLine
theorem YL.mono(r:YL k A)(h:j<=k):YL j A:=#[r.hd,by let:=r.dp;ext,by let:=r.un;ext]
theorem YL.deeper(r:YL (k+1) A)(env:Env):YL k (A.deeper env):=
 #[r.hd,by let:=r.dp;show A.depth+1+3*k+5<_;ext,by let:=r.un;show A.units+3+16*k+200<_;ext]
def Dh{A:W8}:(A.under (.builtin "type.__call__" #[.ref C::us,kw])).depth=A.depth+1:=by
 first|rfl|simp[W8.under,aew.weight,aew.isCreation,aew.isGuard,aew.isCaller,aew.frames,aew.isFrame,guardIds]
def CZ{A:W8}:(A.under (.builtin "type.__call__" #[.ref C::us,kw])).units=A.units+1:=by
 first|rfl|simp[W8.under,aew.cUnits,aew.frames,aew.isFrame]
theorem YL.make(r:YL (k+1) A)(C:M)(us:G B)(a:G (Str×B)):YL k (A.under (.builtin "type.__call__" #[.ref C::us,a])):=
 #[r.hd,by let:=r.dp;rw[Dh];ext,by let:=r.un;rw[CZ];ext]
def YL.depth(r:YL k A):A.depth<recursionLimit:=by let:=r.dp;ext
def YL.units(r:YL k A):A.units+64<cLine:=by let:=r.un;ext
def ju:TA:=λ_ H Q=>Q [] H
def fL(e:TE)(b:TA):TA:=λa H Q=>e a H λx g=>b a g λxs f=>Q (x::xs) f
section
variable{X:Cx}{e:XB}{Y:br XB}{T:TE}{t:TA}{Z:Pos}
theorem aB:PA X [] ju:=λ_ _ _ _ H Q I h=>Calls.spliced_nil #[[],H,I,.nil,h]
def aj(c:PE X e T)(n:PA X Y t)(m:W5 (e::Y) X.env=(Wu,eval e X.env)::W5 Y X.env:=by rfl):PA X (e::Y) (fL T t):=by intro Z a s b H Q I h;rw[m];show Calls.spliced_cons (de (c a s b H _ I h) λu f a=>?_);let(x,r,p,i,l):=a;show de (n Z a f b r _ p l) λv w #[xs,q,o,g,j]=>#[x::xs,q,o,.cons i g,j]
def RY(t:TA):TE:=λb H Q=>t b H λxs a=>xs.length<=WG/\∀p,a p=U->Q (.ref p) (bW a p (.tup xs))
def Tf(t:TA):TE:=λb H Q=>t b H λxs a=>xs.length<=WG/\∀p,a p=U->Q (.ref p) (bW a p (.lst xs))
def kJ{c}(h:PA X Y t):PE X (.Tuple Y c Z) (RY t):=by intro a s i H Q I l;show wpAny_Tuple_spliced (de (h Z a s i H _ I l) λj f #[xs,n,g,r,z,q]=>#[by rw[<-r.length];show z,?_]);let m:=g.XY.fresh (Ww _);show#[.ref f.heap.objs.size,bW n f.heap.objs.size (.tup xs),g.laid (λb u e=>cj _ e) (Ww _) ?_,W,q _ m];show#[z,j,r,#[_,cN _ W,#[W,_,W],W]]
def jP(h:PA X Y t):PE X (.List Y Z) (Tf t):=by intro a s i H Q I l;show wpAny_List_spliced (de (h Z a s i H _ I l) λj f #[xs,n,g,r,z,q]=>#[by rw[<-r.length];show z,?_]);let m:=g.XY.fresh (Ww _);show#[.ref f.heap.objs.size,bW n f.heap.objs.size (.lst xs),g.laid (λb u e=>cj _ e) (Ww _) ?_,W,q _ m];show#[z,j,0,r,cN _ W]
end
abbrev Sp:=G V->Hp->VK->XK->Prop
abbrev zK:=G Env->Hp->Ws->XK->B->Ws->Prop
structure Env0(P:WX)(w:Xm)(K:Ld)(mg:Str->I B)(base:Heap)(A:W8)(outer:G Env)(s:Ws)(H:Hp):Prop where
 frames:A.frames=R outer
 mod:Mod K mg base
 bs:∀b o,base.get? b=R o->s.heap.get? b=R o/\H b=U
 bsz:base.objs.size<=s.heap.objs.size
 abS:s.heap.FunFrames base outer
 frf:∀b∈Al outer,H b=U
 XY:HOk P w H s.heap
 bare:AllBare s.gens
def CE(outer:G Env)(P:WX)(w:Xm)(H:Hp)(s:Ws)(Q:VK)(u:B)(a:Ws):Prop:=
 ∃v b,a.os=s.os/\AllBare a.gens/\Un (Al outer) [] H b s.heap a.heap/\HOk P w b a.heap/\RelV v u/\Q v b
def CR(a:zK)(outer:G Env)(P:WX)(w:Xm)(H:Hp)(s:Ws)(Q:VK)(E:XK)(r:adE)(b:Ws):Prop:=
 match r with
 |.ok (.ret u)=>CE outer P w H s Q u b
 |.ok _=>False
 |.error e=>a outer H s E e b
structure FnOk(P:WX)(w:Xm)(K:Ld)(mg:Str->I B)(base:Heap)(CX:zK)(k:Nat)(f:M)(fd:XF)(ps:G Str)(sp:Sp):Prop where
 len:∀vs H Q E,sp vs H Q E->vs.length=ps.length
 run:∀(A:W8) (outer:G Env) (s:Ws) (H:Hp) (args:Args) (us:G B) (vs:G V) (Q:VK) (E:XK),YL k A->Env0 P w K mg base A outer s H->abG s fd args (ps.zip us)->Vals vs us->sp vs H Q E->
  codeAny (model P w) A (.call (.ref f) args) (CR CX outer P w H s Q E) s
theorem FnOk.imp{P:WX}{w:Xm}{K:Ld}{p:Str->I B}{base:Heap}{g:zK}{k:Nat}{f:M}{fd:XF}{d:G Str}{sp b:Sp}(F:FnOk P w K p base g k f fd d sp)
  (h:∀c H Q E,b c H Q E->sp c H Q E):FnOk P w K p base g k f fd d b:=
 #[λc H Q E q=>F.len c H Q E (h _ _ _ _ q),λA a s H e i c Q E m n o j l=>F.run A a s H e i c Q E m n o j (h _ _ _ _ l)]
theorem Env0.make{K:Ld}(e:Env0 b w K mg base A outer s H)(C:M)(us:G B)(a:G (Str×B)):
  Env0 b w K mg base (A.under (.builtin "type.__call__" #[.ref C::us,a])) outer s H:=#[by first|show e.frames|(simpa [W8.under,aew.envs,aew.isFrame,pushEnvs]using e.frames),e.mod,e.bs,e.bsz,e.abS,e.frf,e.XY,e.bare]
section
variable{X:Cx}{Z:br (Wo×Obj)}{Y:St}{H:Hp}{s T:Ws}
theorem Inv.ahU(I:Inv X Z Y H s):Env0 X.prog X.w X.K X.mg X.base X.A X.stack s H:=
 #[I.ok.frames,I.ok.mod,I.bs,Xo I.ok.bsz I.sz,I.stack,I.ab8,I.XY,I.bare]
def Inv.after{Q:VK}{u:B}(I:Inv X Z Y H s)(h:CE X.stack X.prog X.w H s Q u T):EP X Z Y Q u T:=by let(v,j,f,a,un,XY,r,q):=h;let(i,g,d,t,e):=T;obtain rfl:e=s.os:=f;show#[v,j,I.call (h':=i) (g':=g) (d':=d) (t':=t) (ch:=[]) un XY a (λb z=>a7 z (by simp)),r,q]
end
def mo(sp:Sp)(c:G V)(E:XK)(t:TA):TE:=λa H Q=>t a H λe b=>sp (e++c) b Q E
def xy(C:M)(m:Str)(sp:Sp)(c:G V)(E:XK)(f:TE)(t:TA):TE:=λb H Q=>f b H λx e=>∃a i fs,x=.ref a/\e a=R (.ins C i fs)/\fs.lookup m=U/\
 t b e λh g=>sp (x::(h++c)) g Q E
def A6(C:M)(sp:Sp)(c:G V)(E:XK)(t:TA):TE:=λb H Q=>t b H λg a=>∀x f,a x=U->a f=U->f≠x->
 sp (.ref x::(g++c)) (bW (bW a f (.own x)) x (.ins C f [])) (λv e=>v=.YM/\Q (.ref x) e) E
def Binds(K:Ld)(fd:XF)(b:G Str)(ds:G B):Prop:=
 ∀(s:Ws) (a:G B),K.In s.heap->(a++ds).length=b.length->abG s fd #[a,[]] (b.zip (a++ds))
theorem Binds.all{K:Ld}{fd:XF}{b:G Str}(h:∀us:G B,us.length=b.length->bindArgs fd #[us,[]]=pure (b.zip us)):Binds K fd b []:=λs us _ a=>by rw[W4]at a⊢;show .of_eq (h us a)
def gH(g:zK)(X:Cx)(E:XK):Prop:=∀(a:G (M×Obj)) (f:St) (H:Hp) (s:Ws) (e:B) (b:Ws),Inv X a f H s->g X.stack H s E e b->X.xe e b
section
variable{X:Cx}{Y:zK}{k:Nat}{f C:Wo}{fd:XF}{ps:br Str}{sp:Sp}{A:br V}{ds:br Wi}{E:XK}{x m:Str}{p T Z:Pos}{e o:XB}{es:br XB}{U:TE}{t:TA}
def DK{a:G (M×Obj)}{g:St}{H:Hp}{s:Ws}{Q:VK}{us:G B}{vs:G V}(F:FnOk X.prog X.w X.K X.mg X.base Y k f fd ps sp)(n:YL k X.A)(v:Binds X.K fd ps ds)(hd:Vals A ds)(l:gH Y X E)
  (I:Inv X a g H s) (r:Vals vs us) (h:sp (vs++A) H Q E):wpAny (model X.prog X.w) X.A (call (.ref f) us) (EP X a g Q) X.xe s:=by
 let i:Vals (vs++A) (us++ds):=r.append hd;let q:(us++ds).length=ps.length:=by rw[<-i.length];show F.len _ _ _ _ h
 show abH (abI (F.run X.A X.stack s H #[us,[]] (us++ds) (vs++A) Q E n I.ahU (v s us I.kIn q) i h) λr j b=>?_);cases r with
 |error e=>show l a g H s e j I b
 |ok y=>
  cases y with
  |ret u=>show I.after b
  |next=>show False.elim b
  |brk=>show False.elim b
  |cont=>show False.elim b
def Eo(F:FnOk X.prog X.w X.K X.mg X.base Y k f fd ps sp)(n:YL k X.A)(v:Gl X x)(hm:X.mg x=R (.ref f))(u:Yh X.K (.ref f)=P)(z:Binds X.K fd ps ds)(hd:Vals A ds)(l:gH Y X E)
  (c:PA X (e::es) t) (g:(x==("__debug__":Str))=Wu:=by decide) (y:W5 (e::es) X.env=(Wu,eval e X.env)::W5 es X.env:=by rfl) (b:(backTo T (W5 es X.env)).any (·.1)=Wu:=by rfl):
  PE X (.Call (.Name x p) (e::es) [] T) (mo sp A E t):=by
 intro a s j H Q I h;show Y2 (og I v hm ?_ g);show abJ I.ok.mod.kin u (de (c T a s j H _ I h) λB G #[w,J,i,r,q]=>#[i.kIn,?_]) y b;show DK F n z hd l i r q
def Ob{pl:Sem Bool}(L:PE X o U)(c:Cls X.K C)(hm:Meth X.K C m f)(F:FnOk X.prog X.w X.K X.mg X.base Y k f fd ps sp)(J:YL k X.A)(M:Binds X.K fd ps ds)(hd:Vals A ds)(B:gH Y X E)(d:PA X (e::es) t)
  (eX:W5 (e::es) X.env=(Wu,eval e X.env)::W5 es X.env:=by rfl) (g:(backTo T (W5 es X.env)).any (·.1)=Wu:=by rfl)
  (G:eval (.Call (.Attribute o m Z) (e::es) [] T) X.env=(do
   let K<-eval o X.env
   standAt Z.atName
   let(f,first)<-holding [K] (getMethod K m pl)
   callWith T f first (backTo T (W5 (e::es) X.env)) (backToKw T (keywordEach [] X.env))):=by rfl):
  PE X (.Call (.Attribute o m Z) (e::es) [] T) (xy C m sp A E U t):=by
 intro b s i H Q I h;show aa1 (pl:=pl) (de (L b s i H _ I h) λu v #[x,w,n,y,a,dx,fs,N,O,l,q]=>?_) G;subst N;obtain rfl:u=Wi.ref a:=y;show ve n O c hm l ?_;show abJ (first:=[.ref a]) (h₀:=X.base) I.ok.mod.kin hm.kp (de (d T b v i w _ n q) λus R #[vs,S,j,r,z]=>#[j.kIn,?_]) eX g;show DK (us:=.ref a::us) (vs:=.ref a::vs) F J M hd B j (.cons W r) z
def LF{pl:Sem Bool}(y:PE X o U)(c:Cls X.K C)(hm:Meth X.K C m f)(F:FnOk X.prog X.w X.K X.mg X.base Y k f fd ps sp)(v:YL k X.A)(z:Binds X.K fd ps ds)(hd:Vals A ds)(n:gH Y X E)
  (r:eval (.Call (.Attribute o m Z) [] [] T) X.env=(do
   let K<-eval o X.env
   standAt Z.atName
   let(f,first)<-holding [K] (getMethod K m pl)
   callWith T f first (backTo T (W5 [] X.env)) (backToKw T (keywordEach [] X.env))):=by rfl):
  PE X (.Call (.Attribute o m Z) [] [] T) (xy C m sp A E U ju):=by
 intro b s i H Q I h;show aa1 (pl:=pl) (de (y b s i H _ I h) λu J #[x,L,g,j,a,N,fs,w,G,l,q]=>?_) r;subst w;obtain rfl:u=Wi.ref a:=j;show ve g G c hm l ?_;show PySem.W.callWith_K0 (first:=[.ref a]) g.kIn hm.kp (DK (us:=[.ref a]) (vs:=[.ref a]) F v z hd n g (.cons W .nil) q)
structure Mk(K:Ld)(C f:M):Prop where
 makes:acD K C=P
 init:Xy K (.ref C) "__init__"=R (R (.ref f))
 fn:Zc K (.ref f)=P
 kp:Yh K (.ref C)=P
def KY(M:Mk X.K C f)(F:FnOk X.prog X.w X.K X.mg X.base Y k f fd ps sp)(q:YL (k+1) X.A)(z:Binds X.K fd ps ds)(hd:Vals A ds)
  (n:gH Y X E) (I:Inv X pins σ H s) (r:Vals w us)
  (h:∀x c,H x=Wh->H c=Wh->c≠x->sp (.ref x::(w++A)) (bW (bW H c (.own x)) x (.ins C c [])) (λv d=>v=.YM/\Q (.ref x) d) E):
  wpAny (model X.prog X.w) X.A (call (.ref C) us) (EP X pins σ Q) X.xe s:=by
 let i:=h (s.heap.objs.size+1) s.heap.objs.size (I.XY.fresh (ac6 _)) (I.XY.fresh (Ww _)) (WZ (Yy _));let b:=Inv.made (C:=C) I;let g:Vals (V.ref (s.heap.objs.size+1)::(w++A)) (Wi.ref (s.heap.objs.size+1)::(us++ds)):=.cons W (r.append hd);let y:(Wi.ref (s.heap.objs.size+1)::us++ds).length=ps.length:=by let e:=g.length;rw[F.len _ _ _ _ i]at e;show e.symm
 show abH (JW I.kIn M.makes M.init (beq_iff_eq.mp M.fn) (abI (F.run _ X.stack _ _ #[Wi.ref (s.heap.objs.size+1)::us,[]] (Wi.ref (s.heap.objs.size+1)::(us++ds)) _ _ E (q.make C us [])
  (b.ahU.make C us []) (z _ (Wi.ref (s.heap.objs.size+1)::us) b.kIn y) g i) λr j a=>?_))
 cases r with
 |error e=>show n pins σ _ _ e j b a
 |ok B=>
  cases B with
  |ret u=>let(v,J,G,K,ev,l):=b.after a;subst ev;show#[K,#[V.ref (s.heap.objs.size+1),J,G,W,l]]
  |next=>show False.elim a
  |brk=>show False.elim a
  |cont=>show False.elim a
def PN(M:Mk X.K C f)(F:FnOk X.prog X.w X.K X.mg X.base Y k f fd ps sp)(n:YL (k+1) X.A)(u:Gl X x)(hm:X.mg x=R (.ref C))(y:Binds X.K fd ps ds)(hd:Vals A ds)(l:gH Y X E)
  (c:PA X (e::es) t) (g:(x==("__debug__":Str))=Wu:=by decide) (v:W5 (e::es) X.env=(Wu,eval e X.env)::W5 es X.env:=by rfl) (b:(backTo T (W5 es X.env)).any (·.1)=Wu:=by rfl):
  PE X (.Call (.Name x p) (e::es) [] T) (A6 C sp A E t):=by
 intro a s j H Q I h;show Y2 (og I u hm ?_ g);show abJ I.ok.mod.kin M.kp (de (c T a s j H _ I h) λz B #[w,G,i,r,q]=>#[i.kIn,?_]) v b;show KY M F n y hd l i r q
end
section
variable{X:Cx}{Q:zK}{k:Nat}{f C:Wo}{fd:XF}{ps ks:br Str}{O:Sp}{E:XK}{x m:Str}{p Y Z T:Pos}{e o:XB}{N:br XB}{S:br adb}{L J:TE}{t H:TA}{A:bP Str}
structure amH(K:Ld)(fd:XF)(ps ks:G Str)(g:G B->G B->G B)(gV:G V->G V->G V):Prop where
 to:∀(s:Ws) (us ws:G B),K.In s.heap->(g us ws).length=ps.length->abG s fd #[us,ks.zip ws] (ps.zip (g us ws))
 rel:∀{vs:G V} {us:G B} {zs:G V} {ws:G B},Vals vs us->Vals zs ws->Vals (gV vs zs) (g us ws)
variable{g:br Wi->br Wi->br Wi}{K:br V->br V->br V}
end
structure YW(N P:G Str)(sc:Zt):Prop where
 kind:sc.kind=.function
 co:sc.isCoroutine=Wu
 gen:sc.isGenerator=Wu
 nd:N.Nodup
 pre:N.take P.length=P
 par:∀x∈P,sc.names.lookup x=R .local\/sc.names.lookup x=R .cell
 ahV:∀y∈sc.names,y.2≠.free
theorem x9{a:Str->I Xf}:∀{binds:G (Str×B)} {m:Str->I B},(∀v,(x,v)∉binds)->bindL a binds m x=m x
 |[],_,_=>rfl
 |(n,v)::r,m,h=>by
  ext bindL;rw[x9 λw b=>h w (WH _ b)];split
  .let:x≠n:=by rintro rfl;show h v WK
   simp[this]
  .rfl
theorem xI{a:Str->I Xf}:∀{binds:G (Str×B)} {m:Str->I B},(∀v,(x,v)∉binds)->bindC a binds m x=m x
 |[],_,_=>rfl
 |(n,v)::r,m,h=>by
  ext bindC;rw[xI λw b=>h w (WH _ b)];split
  .rfl
  .let:x≠n:=by rintro rfl;show h v WK
   simp[this]
theorem xH{kindOf:Str->I Xf}:∀{a:G Str} {b:G B} {i:Nat} {m:Str->I B},a.Nodup->a[i]?=R x->b[i]?=R v->kindOf x=R .local->
  bindL kindOf (a.zip b) m x=R v
 |[],_,_,_,_,h,_,_=>by simp at h
 |_::_,[],_,_,_,_,h,_=>by simp at h
 |p::a,w::b,0,m,nd,f,e,g=>by simp at f e;subst f;subst e;show bindL kindOf ((p,w)::a.zip b) m p=_;ext bindL;rw[x9 λv j=>(Yp.mp nd).1 (aaf j).1,av g];simp
 |p::a,w::b,i+1,m,nd,f,e,g=>by ext bindL;show xH (Yp.mp nd).2 (by simpa using f) (by simpa using e) g
theorem xP{kindOf:Str->I Xf}:∀{a:G Str} {b:G B} {i:Nat} {m:Str->I B},a.Nodup->a[i]?=R x->b[i]?=R v->kindOf x≠R .local->
  bindC kindOf (a.zip b) m x=R v
 |[],_,_,_,_,h,_,_=>by simp at h
 |_::_,[],_,_,_,_,h,_=>by simp at h
 |p::a,w::b,0,m,nd,f,e,g=>by simp at f e;subst f;subst e;show bindC kindOf ((p,w)::a.zip b) m p=_;ext bindC;rw[xI λv j=>(Yp.mp nd).1 (aaf j).1,ax g];simp
 |p::a,w::b,i+1,m,nd,f,e,g=>by ext bindC;show xP (Yp.mp nd).2 (by simpa using f) (by simpa using e) g
def start(N:G Str)(a:G V):St:=a.map R++Wz (N.length - a.length) U
def gM(i:zK)(P:WX)(w:Xm)(K:Ld)(c:Str->I B)(base:Heap)(N:G Str)(b:Str)(a:Zt)(f:M)(h:B)(A:W8)(outer:G Env)(s:Ws)(H:Hp)(E:XK):Cx where
 prog:=P
 w:=w
 K:=K
 mg:=c
 base:=base
 A:=A.deeper (envOfC b a s.heap.objs.size f h)
 N:=N
 s₀:=s
 H₀:=H
 env:=envOfC b a s.heap.objs.size f h
 outer:=outer
 stack:=envOfC b a s.heap.objs.size f h::outer
 ex:=[]
 calm:=Wl
 fn:=λ_=>Wl
 pn:=[]
 xe:=λe j=>wpAny (model P w) (A.deeper (envOfC b a s.heap.objs.size f h)) (leaving (envOfC b a s.heap.objs.size f h) e) (λ_ g=>i outer H s E e g) (λl g=>i outer H s E l g) j
def Cc{a:Zt}(h:a.names.lookup x=R .cell):∃c,(YC n a.names []).lookup x=R c:=by let q:=ZH a.names n [] (.inl h);show adw.mp q
def Ie{K:Ld}
  (S:YW N O scope) (hd:A.handled=U) (e0:Env0 J w K T base A outer s H) (G:L.length=O.length) (r:Vals L us)
  (x:InCallC s s.heap.objs.size (bindL (envOfC qual scope s.heap.objs.size f cd).kindOf (O.zip us) λ_=>U) (YC (s.heap.objs.size+1) scope.names []) (bindC (envOfC qual scope s.heap.objs.size f cd).kindOf (O.zip us) λ_=>U) s1):
  Inv (gM Z J w K T base N qual scope f cd A outer s H E) [] (start N L) H s1:=by
 let C:O.length<=N.length:=by let:=eh abx S.pre;rw[XT]at this;ext
 let(o,F,rfl,B):=x.done;let j:∀b:M,b∉(gM Z J w K T base N qual scope f cd A outer s H E).ex:=λb z=>a7 (show b∈([]:br M)from z) (by simp);show#[#[e0.mod,S.kind,W,W,Ww _,λy z c o g=>?_,λy l=>?_,λy c _ h=>?_,λ_=>hd,W8.frames_deeper e0.frames,.inr #[W,W],λb z=>a7 z (j b),e0.bs,e0.bsz,λb _ _=>j b,λb z=>a7 z (j b),e0.abS,e0.frf],
  W,e0.bare,Un.kept B,#[_,x.toInCall.ns,λi y v o g I=>?_],λy c h=>#[_,x.cell y c h],e0.XY.fresh (Ww _),λy c h=>?_,λp n=>a7 (show p∈([]:br (M×Obj))from n) (by simp),e0.XY.kept B,?_]
 .show name_of_addr x.apart (Yr o) (Yr g)
 .let l:=l
  rcases l with l|l
  .show Cc l
  .show a7 W (S.ahV _ (Yr l))
 .show ZO (x.above y c (Yr h))
 .let Q:i<L.length:=by
   unfold start at g;by_cases Q:i<L.length
   .show Q
   .rw[Xb (by simpa using Q)]at g;rw[YR]at g;split at g<;>ext g
  let Y:L[i]?=R v:=by
   unfold start at g;rw[WB (by simpa using Q),Wv]at g;cases e:L[i]? with
   |none=>rw[e]at g;ext g
   |some a=>rw[e]at g;ext g;rfl
  let(u,t,X):=r.get Y;let n:O[i]?=R y:=by rw[<-S.pre,adV ()];show o
  let m:O.Nodup:=by rw[<-S.pre];show S.nd.sublist (List.take_sublist _ _)
  show#[u,X,?_];rcases S.par y (WC n)with k|k
  .show .inl #[k,xH m n t k]
  .let(c,e):=Cc k;show .inr #[.inl k,c,e,?_];let q:=x.cell y c e;rw[xP m n t (by show scope.names.lookup y≠_;rw[k];decide)]at q;show q
 .show e0.XY.fresh (ZO (x.above y c (Yr h)))
 .ext start;show _=N.length;rw[Wm,Wg,Xl];ext
def Mi{m:zK}{P:WX}{w:Xm}{K:Ld}{l:Str->bP B}{base:Heap}{k:Nat}{f:M}{name qual:Str}{params:Arguments}{body:G YK}{scope:Zt}{dV kV doc pm g ct T:B}{an F:bP M}
  {C:Array (bP B)} {N j:G Str} {sp:Sp} (X:K.lookup f=R #[T,F,.func (X6 name qual params body scope dV kV doc pm an g ct),C]) (D:aah K g qual=Wl) (S:YW N j scope)
  (len:∀c H Q E,sp c H Q E->c.length=j.length)
  (Zn:∀(A:W8) (outer:G Env) (s:Ws) (H:Hp) (c:G V) (Q:VK) (E:XK),YL k (A.deeper (envOfC qual scope s.heap.objs.size f g))->sp c H Q E->
   ∃t,PSs (gM m P w K l base N qual scope f g A outer s H E) body t/\t {nx:=λ_ d=>Q .YM d,rt:=Q} (start N c) H):
  FnOk P w K l base m (k+1) f (X6 name qual params body scope dV kV doc pm an g ct) j sp:=by
 show#[len,λA outer s H args us c Q E L e0 hb r i=>?_];let hl:=len _ _ _ _ i;let O:K.In s.heap:=e0.mod.kin.keeps λb o e=>(e0.bs b o e).1;let lim:s.heap.NoLimit:=e0.mod.nolimit.keeps λb o e=>(e0.bs b o e).1;let ZZ:∀y∈j.zip us,scope.names.lookup y.1=R .local\/(scope.names.lookup y.1=R .cell/\((YC (s.heap.objs.size+1) scope.names []).lookup y.1).isSome=Wl):=λ#[n,v] Y=>by
  rcases S.par n (aaf Y).1 with q|q
  .show .inl q
  .show .inr #[q,ZH _ _ _ (.inl q)]
 show codeAny_call_function L.depth (O _ _ X) W S.co S.gen W (PySem.W.codeRec_of O D) (hb _ _ _ _ ?_);show wpAny_newFunctionEnv_cells S.kind ZZ λenv he s1 x=>?_;subst he;show#[lim.keeps x.toInCall.keep,codeAny_func ?_];let(t,Z,hq):=Zn A outer s H c Q E (L.deeper _) i;let I:Inv (gM m P w K l base N qual scope f g A outer s H E) [] (start N c) H s1:=Ie S L.hd e0 hl r x;show wpAny_mono (Z [] s1 (start N c) H _ I hq) (λfl p h=>?_) λe p h=>h
 let fin:∀{a:St} {d:Hp} {v:V} {u:B},Inv (gM m P w K l base N qual scope f g A outer s H E) [] a d p->RelV v u->Q v d->CE outer P w H s Q u p:=
  λ{a d v u} J z q=>#[v,d,J.os,J.bare,J.base,J.XY,z,q]
 cases fl with
 |ret u=>let(v,a,d,J,z,q):=h;show fin J z q
 |next=>let(a,d,J,q):=h;show fin (v:=V.YM) (u:=Wi.none) J W q
 |brk=>let(_,_,_,q):=h;show False.elim q
 |cont=>let(_,_,_,q):=h;show False.elim q
section
variable{X:Cx}{x:Str}{p Z:Pos}{e:XB}{Y:br XB}{t:TA}{S T:String}{r:br V->Hp->VK->Prop}
def Hi(r:G V->Hp->VK->Prop)(t:TA):TE:=λa H Q=>t a H λf b=>r f b Q
def bU(u:Zf X (.builtin S) r)(o:Gl X x)(hm:X.mg x=U)(n:XS x=R (.builtin S))(d:PA X (e::Y) t)(c:x≠ "__name__":=by decide)(f:(x==("__debug__":Str))=Wu:=by decide)
  (q:W5 (e::Y) X.env=(Wu,eval e X.env)::W5 Y X.env:=by rfl) (b:(backTo Z (W5 Y X.env)).any (·.1)=Wu:=by rfl):PE X (.Call (.Name x p) (e::Y) [] Z) (Hi r t):=by
 intro a s g H Q I h;show Y2 (pW I o hm n ?_ c f);show ajZ (de (d Z a s g H _ I h) λi j #[y,w,v,l,m]=>u a j g w y i Q v l m) q b
def dU(u:Zf X (.type T) r)(o:Gl X x)(hm:X.mg x=U)(n:XS x=R (.type T))(d:PA X (e::Y) t)(c:x≠ "__name__":=by decide)(f:(x==("__debug__":Str))=Wu:=by decide)
  (q:W5 (e::Y) X.env=(Wu,eval e X.env)::W5 Y X.env:=by rfl) (b:(backTo Z (W5 Y X.env)).any (·.1)=Wu:=by rfl):PE X (.Call (.Name x p) (e::Y) [] Z) (Hi r t):=by
 intro a s g H Q I h;show Y2 (pW I o hm n ?_ c f);show YT (de (d Z a s g H _ I h) λi j #[y,w,v,l,m]=>u a j g w y i Q v l m) q b
end
end L2
namespace HT
open PySem PyProof.Rows
section
open PySem.SeqAt
open PySem.AutoSeq1 (wpAny_loadPart')
open PySem.MeetsSeq PySem.MeetsSeq2 PySem.MeetsSeq3
end
section
variable{Z:WX}{w:Xm}{A:W8}{E:Wi->Ws->Prop}{s:Ws}
def cat_tup{t b:M}{c ws:G Wi}{Q:Wi->Ws->Prop}(v:IsTup s.heap t c.toArray)(y:IsTup s.heap b ws.toArray)(q:c≠[])
  (B:ws=[]->Q (.ref t) s) (z:ws≠[]->Q (.ref s.heap.objs.size) {s with heap:=s.heap.push {cls:=.type "tuple",data:=.seq (c++ws).toArray}})
  (d:c.length+ws.length<=WG):wpAny (model Z w) A (Yx .Add (.ref t) (.ref b)) Q E s:=by
 let((cls,dd,data,o),l,u,n,r):=id v;let((C,i,m,f),a,h,p,g):=id y;simp only at u r h g;subst u r h g;let e:c.toArray++ws.toArray=(c++ws).toArray:=by simp
 by_cases j:ws=[]
 .show concat_meets #[_,l,W] #[_,a,W] aiQ anl adF adx (ade _ _)
   (tuple_addW1 t b c.toArray ws.toArray n p dd i o f (by simpa using q) (by simp[j])) #[l,a,B j]
 .show concat_meets #[_,l,W] #[_,a,W] aiQ anl adF adx (ade _ _)
   (tuple_addW2 t b c.toArray ws.toArray n p dd i o f (by simpa using q) (by simpa using j) (by rw[WA,WA];show d)) #[l,a,?_]
  rw[e];show z j
def sIx(n d:Nat):I Int->Nat
 |none=>d
 |some v=>if v<0 then(v+(n:Int)).toNat else min v.toNat n
theorem sIx_none(n d:Nat):sIx n d U=d:=W
def sIx_nat(n d k:Nat):sIx n d (R (k:Int))=min k n:=by show(if(k:Int)<0 then((k:Int)+(n:Int)).toNat else min (k:Int).toNat n)=min k n;rw[ax (),XN]
def Q5(n d:Nat)(hd:d<=n)(o:I Int):sIx n d o<=n:=by
 cases o with
 |none=>show hd
 |some v=>
  show(if v<0 then(v+(n:Int)).toNat else min v.toNat n)<=n;by_cases a:v<0
  .rw[av a];ext
  .rw[ax a];show aa2 _ _
def Fe(v:Int)(n d:Nat):(if v<0 then max (v+(n:Int)) 0 else min v (n:Int))=((sIx n d (R v):Nat):Int):=by
 show(if v<0 then max (v+(n:Int)) 0 else min v (n:Int))=(((if v<0 then(v+(n:Int)).toNat else min v.toNat n):Nat):Int);by_cases a:v<0
 .simp only[av a];ext
 .simp only[ax a];ext
def DZ(lo b:I Int)(n:Nat):W7.Slice.sliceAdjust lo b 1 (n:Int)=(((sIx n 0 lo:Nat):Int),((sIx n n b:Nat):Int)):=by
 let a:¬((1:Int)<0):=by ext
 ext W7.Slice.sliceAdjust;simp only[a,if_false];show Prod.ext ?_ ?_
 .cases lo with
  |none=>rfl
  |some v=>show Fe v n 0
 .cases b with
  |none=>rfl
  |some v=>show Fe v n n
def De(i j:Nat):W7.Slice.slicePlaces (i:Int) (j:Int) 1=j - i:=by
 ext W7.Slice.slicePlaces;let a:(1:Int)>0:=by ext
 simp only[a,if_true,aiR];split<;>ext
def jR(p:aa7 v o)(h:Q o s):wpAny (model Z w) A (W7.Slice.slicePartIndex v) Q E s:=by
 cases p with
 |none=>show slicePart_none h
 |int i t=>show slicePart_int h
def kS{lo c:I Int}{Q:Int×Int×Nat->Ws->Prop}(f:s.heap.IsSliceOf m l j .none)(pl:aa7 l lo)(e:aa7 j c)
  (h:Q (((sIx n 0 lo:Nat):Int),1,sIx n n c - sIx n 0 lo) s):wpAny (model Z w) A (W7.Slice.sliceApplied (.ref m) (pure (n:Int))) Q E s:=by
 let(i,a,g,b):=id f;unfold W7.Slice.sliceApplied W7.Slice.sliceFields;show Wf (Wf (Xd a b W (Wf (Xd a b W (Wf (Xd a b W (Wt ?_)))))));show Wf (slicePart_none ?_);rw[ax ()];show Wf (jR pl (Wf (jR e (Wf (Wt ?_)))));show wpAny _ _ (match W7.Slice.sliceAdjust lo c 1 (n:Int)with|(lo,c)=>pure (lo,(1:Int),W7.Slice.slicePlaces lo c 1)) _ _ s;rw[DZ lo c n];show wpAny _ _ (pure (((sIx n 0 lo:Nat):Int),(1:Int),W7.Slice.slicePlaces ((sIx n 0 lo:Nat):Int) ((sIx n n c:Nat):Int) 1)) _ _ s;rw[De];show Wt h
def IQ(xs:Array B)(i k:Nat):((Wk k).filterMap λ(m:Nat)=>xs[((i:Int)+(m:Int)*1).toNat]?).toArray=((xs.toList.drop i).take k).toArray:=by
 let e:(λ(m:Nat)=>xs[((i:Int)+(m:Int)*1).toNat]?)=λm=>xs[i+m]? :=by
  funext m;let:((i:Int)+(m:Int)*1).toNat=i+m:=by ext
  rw[this]
 rw[e];let:=pick_run xs i k;rw[afu]at this;let a:((λx=>xs[x]?)∘λx=>i+x)=λm=>xs[i+m]? :=W;rw[a]at this;rw[this]
def getItem_tuple_cut{lo c:I Int}(b:IsTup s.heap t items)(j:s.heap.IsSliceOf v z y .none)(pl:aa7 z lo)(l:aa7 y c)
  (n:¬(sIx items.size 0 lo=0/\sIx items.size items.size c=items.size))
  (h:Q (.ref s.heap.objs.size) {s with heap:=s.heap.push {cls:=.type "tuple",data:=.seq ((items.toList.drop (sIx items.size 0 lo)).take (sIx items.size items.size c - sIx items.size 0 lo)).toArray}})
  (d:items.size<=WG):wpAny (model Z w) A (getItem (.ref t) (.ref v)) Q E s:=by
 let a:sizeOk (.seq ((items.toList.drop (sIx items.size 0 lo)).take (sIx items.size items.size c - sIx items.size 0 lo)).toArray):=by show((items.toList.drop (sIx items.size 0 lo)).take (sIx items.size items.size c - sIx items.size 0 lo)).toArray.size<=WG;rw[WA,XT,agj,XD];ext
 let u:sIx items.size items.size c<=items.size:=Q5 _ _ (Ww _) c;let(m,e,g,o):=id j;let i:s.TypeIs (.ref v) "slice":=#[m,e,g];ext getItem
 try specialize X2 ?_
 first|show Wf (Wt ?_)|skip
 show Wf (adf b.typeIs () ?_);show Wf (X0 b.typeIs Xr
  (Ym Xr b.typeIs entry_tuple_getitem ?_ (args_tuple_getitem _ _)))
 show wpAny _ _ (W7.Tuple.tupleItemsOf (.ref t)>>=_) _ _ s;show Wf (tupleItemsOf_ b ?_);show Wf (Z7 i ?_);rw[av ()];show Wf (kS j pl l ?_);let f:¬((((sIx items.size 0 lo:Nat):Int)==0&&(1:Int)==1&&(sIx items.size items.size c - sIx items.size 0 lo)==items.size)=P):=by intro q;rw[WU,WU]at q;let r:=eq_of_beq q.1.1;let p:=eq_of_beq q.2;show n #[by ext,by ext]
 show wpAny _ _ (if(((sIx items.size 0 lo:Nat):Int)==0&&(1:Int)==1&&(sIx items.size items.size c - sIx items.size 0 lo)==items.size)=P then _ else _) _ _ s;rw[ax f,IQ]
 first
  |show Wf (Xx (Wt #[_,W,Wt h]) a)
  |show Wf (Xx (Wf (Wt (Wt #[_,W,Wt h]))) a)
  |show Wf (Wf (Xx (Wt (Wt #[_,W,Wt h])) a))
  |show Wf (Wf (Xx (Wt #[_,W,Wt h]) a))
end
end HT
namespace L2
open PySem PySem.Spec PyProof.Rows
abbrev TO:=St->Hp->(I Int->Hp->Prop)->Prop
def PO(X:Cx)(e:I XB)(t:TO):Prop:=
 ∀(a:G (M×Obj)) (s:Ws) (b:St) (H:Hp) (Q:I Int->Hp->Prop),Inv X a b H s->t b H Q->
  wpAny (model X.prog X.w) X.A (evalPart e X.env) (λu f=>∃o g,Inv X a b g f/\aa7 u o/\Q o g) X.xe s
def E8:TO:=λ_ H Q=>Q U H
def IW(t:TE):TO:=λa H Q=>t a H λx b=>∃i,x=.int i/\Q (R i) b
def lH:∀{us:G B},Vals (ns.map V.int) us->IntsAre us ns:=by
 induction ns with
 |nil=>intro us r;rw[Zi]at r;ext r;show .nil
 |cons n ns f=>
  intro us r;rw[WL]at r;cases r with
  |cons b a=>let(t,e):=b;subst e;show .cons n t (f a)
section
variable{X:Cx}{e:XB}{U:TE}{Z Y:bP XB}{S R:TO}{pos p2:Pos}
def El:PO X Wh E8:=by intro a s b H Q I h;rw[afa];show Wt #[Wh,H,I,.none,h]
def EB(h:PE X e U):PO X (lD e) (IW U):=by intro a s b H Q I j;rw[evalPart_some];show de (h a s b H _ I j) λu n a=>?_;let(x,m,l,f,g):=a;let(i,rfl,q):=g;let(t,rfl):=f;show#[lD i,m,l,.int i t,q]
def TF(X:Cx)(r:V->I Int->I Int->Hp->VK->Prop):Prop:=
 ∀(a:G (M×Obj)) (s:Ws) (b:St) (H:Hp) (x:V) (v g f:B) (Z Y:I Int) (h:M) (Q:VK),Inv X a b H s->RelV x v->s.heap.IsSliceOf h g f .none->aa7 g Z->aa7 f Y->r x Z Y H Q->
  ∃T id,typeLookup (.type T) "__getitem__"=pure (lD (.builtin id))/\s.TypeIs v T/\wpAny (model X.prog X.w) X.A (getItem v (.ref h)) (EP X a b Q) X.xe s
def VP(r:V->I Int->I Int->Hp->VK->Prop)(U:TE)(S R:TO):TE:=λa H Q=>U a H λx g=>S a g λl f=>R a f λu b=>r x l u b Q
def BR{r:V->bP Int->bP Int->Hp->VK->Prop}(F:TF X r)(K:PE X e U)(G:PO X Z S)(C:PO X Y R):PE X (.Subscript e (.Slice Z Y Wh p2) pos) (VP r U S R):=by intro a s g H Q I h;show Subscript_ (de (K a s g H _ I h) λv o a=>?_);let(x,H1,A,p,z):=a;show wpAny_Slice (de (G a o g H1 _ A z) λj n #[l,H2,O,pl,y]=>de (C a n g H2 _ O y) λi f a=>?_);let(u,m,N,w,t):=a;rw[afa];show Wt ?_;let M:Inv X a g m {f with heap:=f.heap.push {cls:=.type "slice",data:=.fields #v[j,i,.none]}}:=N.kept (t':=f.toks) λb ob q=>cj _ q;let(T,id,L,E,J):=F a {f with heap:=f.heap.push {cls:=.type "slice",data:=.fields #v[j,i,.none]}} g m x v j i l u f.heap.objs.size Q M p (Heap.IsSliceOf.new ..) pl w t;show wpAny (model X.prog X.w) X.A (subscriptTail e (.Slice Z Y Wh p2) v (.ref f.heap.objs.size)) (EP X a g Q) X.xe {f with heap:=f.heap.push {cls:=.type "slice",data:=.fields #v[j,i,.none]}};show tail_any (ops:=[.ref f.heap.objs.size,v]) E L J (by with_unfolding_all rfl)
def Hn(xs:G V)(Z Y:I Int):G V:=(xs.drop (HT.sIx xs.length 0 Z)).take (HT.sIx xs.length xs.length Y - HT.sIx xs.length 0 Z)
def tH(xs:G V)(Z Y:I Int):(Hn xs Z Y).length<=xs.length:=by ext Hn;rw[XT,agj];ext
def TR(K:Ld):V->I Int->I Int->Hp->VK->Prop:=λx Z Y H Q=>∃a xs,x=.ref a/\SqT K H a xs/\
 ¬(HT.sIx xs.length 0 Z=0/\HT.sIx xs.length xs.length Y=xs.length)/\∀p,H p=Wh->Q (.ref p) (bW H p (.tup (Hn xs Z Y)))
def Ta:TF X (TR X.K):=by
 intro g s u H x v y w Z Y z Q I l p pl m h;let(a,xs,rfl,n,o,q):=h;ext l;let(t,r,j,i):=I.tuple n;let f:t.toArray.size=xs.length:=by rw[WA];show r.length.symm
 show#["tuple",_,Xr.lookup,j.typeIs,?_];show HT.getItem_tuple_cut j p pl m (by rw[f];show o) ?_ (by rw[f];show i);rw[f];show#[.ref s.heap.objs.size,_,I.laid (λb A q=>cj _ q) (Ww _) ?_,W,q _ (I.XY.fresh (Ww _))];show#[Xo (tH xs Z Y) i,_,(r.drop (HT.sIx xs.length 0 Z)).take (HT.sIx xs.length xs.length Y - HT.sIx xs.length 0 Z),aco.new _ _]
def P6(K:Ld):R2:=λx y H Q=>∃a b xs f,x=.ref a/\y=.ref b/\SqT K H a xs/\SqT K H b f/\xs≠[]/\xs.length+f.length<=WG/\
 (f=[]->Q (.ref a) H)/\(f≠[]->∀p,H p=Wh->Q (.ref p) (bW H p (.tup (xs++f))))
def Vals.adP(r:Vals xs us):us=[]↔xs=[]:=by
 cases r with
 |nil=>simp
 |cons _ _=>simp
def Pe:OpR X (Yx .Add) (P6 X.K):=by intro i s B H x y v u Q I m l h;let(a,b,xs,C,rfl,rfl,J,t,r,j,o,n):=h;ext m;ext l;let(F,g,p,_):=I.tuple J;let(A,f,p2,_):=I.tuple t;show HT.cat_tup p p2 (λz=>r (g.adP.mp z)) (λz=>#[.ref a,H,I,W,o (f.adP.mp z)]) (λz=>?_) (by rw[<-g.length,<-f.length];show j);show#[.ref s.heap.objs.size,_,I.laid (λb E q=>cj _ q) (Ww _) ?_,W,n (λw=>z (f.adP.mpr w)) _ (I.XY.fresh (Ww _))];show#[by rw[Wm];show j,_,g.append f,aco.new _ _]
end
def Iy(n:Nat)(i:Int):I Nat:=if 0<=i then(if i<n then R i.toNat else U)else if -(n:Int)<=i then R (i+n).toNat else U
def m9(xs:G α)(i:Int):I α:=(Iy xs.length i).bind λj=>xs[j]?
def MX(h:Iy n i=R j):seqIndex? i n=R j/\j<n/\ -(n:Int)<=i/\i<n:=by
 unfold Iy at h;by_cases b:0<=i
 .rw[av b]at h
  by_cases a:i<n
  .rw[av a]at h;let e:=WE h;show#[by rw[seqIndex_of b a,e],by ext,by ext,a]
  .rw[ax a]at h;ext h
 .rw[ax b]at h
  by_cases a: -(n:Int)<=i
  .rw[av a]at h;let e:=WE h;show#[by rw[seqIndex_neg () a,e],by ext,a,by ext]
  .rw[ax a]at h;ext h
def yX(h:m9 xs i=R v):∃j,seqIndex? i xs.length=R j/\xs[j]?=R v/\j<xs.length/\ -(xs.length:Int)<=i/\i<xs.length:=by
 unfold m9 at h;cases e:Iy xs.length i with
 |none=>rw[e]at h;ext h
 |some j=>rw[e]at h;let(g,f,b,a):=MX e;show#[j,g,h,f,b,a]
def GV{j:Nat}(h:xs[j]?=R v):m9 xs (j:Int)=R v:=by
 let a:=(Wj.mp h).1;let e:Iy xs.length (j:Int)=R j:=by ext Iy;rw[av (),av ()];simp
 ext m9;rw[e];show h
def vv(xs:G α)(v:α):m9 (xs++[v]) (-1)=R v:=by
 let a:(xs++[v]).length=xs.length+1:=by simp
 let e:Iy (xs++[v]).length (-1)=R xs.length:=by ext Iy;rw[a,ax (),av ()];congr 1;ext
 ext m9;rw[e];simp
def Pj(b:XB):Prop:=∀o i,subscripted b Wu o i=operate [o,i] (getItem o i)
def IxR(X:Cx)(r:R2):Prop:=
 ∀(e a:XB) (b:G (M×Obj)) (s:Ws) (f:St) (H:Hp) (x y:V) (v u:B) (Q:VK),Inv X b f H s->RelV x v->RelV y u->r x y H Q->
  subscripted a Wu v u=operate [v,u] (getItem v u)->wpAny (model X.prog X.w) X.A (subscriptTail e a v u) (EP X b f Q) X.xe s
def TL(X:Cx)(f:String)(r:V->G V->Hp->VK->Prop):Prop:=
 ∀(a:G (M×Obj)) (s:Ws) (b:St) (H:Hp) (x:V) (xs:G V) (v:B) (e:G B) (Q:VK),Inv X a b H s->RelV x v->Vals xs e->r x xs H Q->
  wpAny (model X.prog X.w) X.A (call (.builtin f) (v::e)) (EP X a b Q) X.xe s
section
variable{X:Cx}{a b:XB}{ta tb:TE}{pos:Pos}
def IxR.or(h:IxR X r)(c:IxR X r'):IxR X (λx y H Q=>r x y H Q\/r' x y H Q):=by
 intro e f g s i H x y v u Q I l j q m;rcases q with q|q
 .show h e f g s i H x y v u Q I l j q m
 .show c e f g s i H x y v u Q I l j q m
def bQ{r:R2}(m:IxR X r)(c:PE X a ta)(n:PE X b tb)(l:Pj b):PE X (.Subscript a b pos) (To r ta tb):=by intro e s f H Q I h;show Subscript_ (So c n I h λv u g x y p o j i q=>m a b e g f p x y v u Q o j i q (l _ _))
def TX(K:Ld):R2:=λx y H Q=>∃p xs i v,x=.ref p/\y=.int i/\SqL K H p xs/\m9 xs i=R v/\Q v H
def Uk(K:Ld):R2:=λx y H Q=>∃p xs i v,x=.ref p/\y=.int i/\SqT K H p xs/\m9 xs i=R v/\Q v H
def Us:R2:=λx y H Q=>∃z i c,x=.str z/\y=.int i/\z.length<=WG/\m9 z.cps.toList i=R c/\Q (.str #[#v[c]]) H
def NU:IxR X (TX X.K):=by
 intro l m e s E H x y v u Q I G F h A;let(p,xs,i,z,rfl,rfl,J,M,q):=h;ext G;let(t,rfl):=F;let(R,r,pl,S):=I.list J;let(j,g,P,T,O,N):=yX M;let(w,C,n):=r.get P;let L:=r.length;let K:=yA;let f:EP X e E Q w s:=#[z,H,I,n,q];by_cases B:0<=i
 .let o:i.toNat=j:=by
   rw[seqIndex_of B N]at g;show WE g
  show item_listR pl.isList B () (by rw[o];simpa using C) f A
 .let o:(i+(R.toArray.size:Int)).toNat=j:=by
   rw[seqIndex_neg () O]at g;rw[WA,<-L];show WE g
  show subscriptTail_builtinR pl.isList.typeIs aid.lookup
   (wpAny_getItem_list_neg pl.isList () (by rw[WA]<;>ext) () (by rw[o];simpa using C) #[W,f]) A
def S3:IxR X (Uk X.K):=by
 intro f g e s n H x y v u Q I A o h B;let(p,xs,i,z,rfl,rfl,C,F,q):=h;ext A;let(t,rfl):=o;let(R,r,pl,M):=I.tuple C;let(j,J,G,P,O,N):=yX F;let(w,L,l):=r.get G;let E:=r.length;let K:=yA;let m:EP X e n Q w s:=#[z,H,I,l,q];show subscriptTail_builtinR pl.typeIs slot_tuple_getitem.lookup
  (getItem_tuple pl () () (by rw[WA,<-E];show J) (by simpa using L) #[W,m]) B
def RU:IxR X Us:=by
 intro e f g s F H x y v u Q I n m h o;let(z,i,c,rfl,rfl,J,r,q):=h;let(t,rfl):=n;let(G,rfl):=m;let(j,l,B,K,A,w):=yX r;let p:z.cps.toList.length=z.length:=by simp[Str.length]
 rw[p]at l A w;let L:=yA;show tail_any (typeIs_str s z t) slot_str_getitem.lookup (getItem_str (by let E:decide (i< -(2^63:Int))=Wu:=aP ();let C:decide (i≥2^63)=Wu:=aP ();rw[E,C,ahw]) (by rw[l];simpa using B) #[.str #[#v[c]],H,I.tok _,#[_,W],q]) o
def U1(K:Ld):R2:=λx y H Q=>TX K x y H Q\/Uk K x y H Q\/Us x y H Q
theorem bv:IxR X (U1 X.K):=NU.or (S3.or RU)
def yl(lo c:I Int)(n:Nat):(sliceBounds lo c U n).1=((HT.sIx n 0 lo:Nat):Int)/\(sliceBounds lo c U n).2.1=((HT.sIx n n c:Nat):Int)/\(sliceBounds lo c U n).2.2=1:=by
 show#[?_,?_,W]
 .cases lo with
  |none=>simp[sliceBounds,HT.sIx]
  |some i=>
   simp only[sliceBounds,HT.sIx,afv,show(1:Int)>0 by decide,if_true];by_cases h:i<0
   .simp only[h,if_true]<;>ext
   .simp only[h,if_false]<;>ext
 .cases c with
  |none=>simp[sliceBounds,HT.sIx]
  |some i=>
   simp only[sliceBounds,HT.sIx,afv,show(1:Int)>0 by decide,if_true];by_cases h:i<0
   .simp only[h,if_true]<;>ext
   .simp only[h,if_false]<;>ext
def wN(e:G B)(lo c:I Int):slicePick e.toArray lo c U=((e.drop (HT.sIx e.length 0 lo)).take (HT.sIx e.length e.length c - HT.sIx e.length 0 lo)).toArray:=by let(h,g,f):=yl lo c e.toArray.size;ext slicePick;rw[h,g,f];simp only[sliceRange_one,pick_run,WA]<;>rfl
def UE(K:Ld):V->I Int->I Int->Hp->VK->Prop:=λx lo e H Q=>∃a xs,x=.ref a/\SqL K H a xs/\∀p,H p=U->Q (.ref p) (bW H p (.lst (Hn xs lo e)))
def PF:TF X (UE X.K):=by intro f s o H x v t p lo z u Q I i n pl j h;let(a,xs,rfl,m,q):=h;ext i;let(y,r,g,l):=I.list m;let e:=r.length;show#["list",_,aid.lookup,g.isList.typeIs,?_];show wpAny_getItem_list_slice g.isList n pl j .none (by simp) ?_ (by rw[WA]<;>ext);rw[wN,<-e];show#[.ref s.heap.objs.size,_,I.laid (λb w q=>cj _ q) (Ww _) ?_,W,q _ (I.XY.fresh (Ww _))];show#[Xo (tH xs lo z) l,_,0,(r.drop (HT.sIx xs.length 0 lo)).take (HT.sIx xs.length xs.length z - HT.sIx xs.length 0 lo),cN _ W]
def Zf.or(h:Zf X f r)(c:Zf X f r'):Zf X f (λxs H Q=>r xs H Q\/r' xs H Q):=by
 intro e s g H xs i Q I j q;rcases q with q|q
 .show h e s g H xs i Q I j q
 .show c e s g H xs i Q I j q
def yB:Zf X (.type "list") (λxs H Q=>∃p c,xs=[.ref p]/\(SqL X.K H p c\/SqT X.K H p c)/\∀l,H l=U->Q (.ref l) (bW H l (.lst c))):=by
 intro m s F H xs J Q I r h;let(p,c,rfl,y,q):=h;let(u,rfl,G):=mn r;ext G
 let A:∀(g:br Wi),Vals c g->c.length<=WG->∀(f:Heap) (j:Nat),(∀b w,s.heap.get? b=R w->f.get? b=R w)->
   f.get? s.heap.objs.size=R {cls:=.type "list",dict:=U,data:=.seq g.toArray j,slots:= #v[]}->EP X m F Q (.ref s.heap.objs.size) {s with heap:=f}:=λg i v f j t e=>
  #[.ref s.heap.objs.size,_,I.laid t (Ww _) (show ObjOk X.prog X.w _ f _ (.lst c)from#[v,g,j,i,e]),W,q _ (I.XY.fresh (Ww _))]
 rcases y with y|y
 .let(g,i,pl,v):=I.list y;let z:=i.length;let(o,B,E,n,C):=pl.isList;show anm p (.inl W) B E C (λf j t e=>A g i v f j t e) (by simp only[WA]<;>ext)
 .let(g,i,pl,v):=I.tuple y;let z:=i.length;let(o,B,E,n,C):=pl;show anm p (.inr W) B E C (λf j t e=>A g i v f j t e) (by simp only[WA]<;>ext)
def cy:Zf X (.type "tuple") (λxs H Q=>∃p c,xs=[.ref p]/\((SqL X.K H p c/\∀l,H l=U->Q (.ref l) (bW H l (.tup c)))\/(SqT X.K H p c/\Q (.ref p) H))):=by
 intro i s B H xs C Q I r h;let(p,c,rfl,h):=h;let(u,rfl,v):=mn r;ext v;rcases h with⟨g,q⟩|⟨g,q⟩
 .let(n,f,pl,j):=I.list g
  let m:=f.length;show call_tuple_list pl.isList (λz y=>?_) (by simp only[WA]<;>ext);let t:=I.kept (t':=s.toks) y
  let A:=
   t.laid (t':=s.toks) (λb o e=>cj _ e) (Ww _) (show ObjOk X.prog X.w _ _ _ (.tup c)from#[j,n,f,aco.new _ _])
  show#[.ref z.objs.size,_,A,W,q _ (t.XY.fresh (Ww _))]
 .let(n,f,pl,j):=I.tuple g;show call_tuple_same pl #[.ref p,H,I,W,q]
def U4(K:Ld)(T:String)(x:V)(H:Hp):Prop:=match x with
 |.str _=>T= "str"
 |.int _=>T= "int"
 |.ref p=>(T= "list"/\∃xs,SqL K H p xs)\/(T= "tuple"/\∃o,K.lookup p=R o/\o.cls=.type "tuple"/\o.dict=U)\/
   (T= "dict"/\((∃e,H p=R (.dK e))\/∃e,H p=R (.dT e)))\/(T= "set"/\∃S n,H p=R (.set S n))
 |_=>False
def JE(I:Inv X pins σ H s)(r:RelV x v)(ty:U4 X.K T x H):
  s.TypeIs v T/\∀a,v=.ref a->∃d,s.heap.get? a=R d/\d.dict=U:=by
 cases x with
 |str z=>let(t,rfl):=r;cases(show T= "str" from ty);show#[typeIs_str s z t,λ_ e=>nomatch e]
 |int i=>let(t,rfl):=r;cases(show T= "int" from ty);show#[acP s i t,λ_ e=>nomatch e]
 |ref p=>
  ext r;rcases ty with⟨rfl,xs,l⟩|⟨rfl,o,f,m,h⟩|⟨rfl,f⟩|⟨rfl,S,n,f⟩
  .let(q,_,pl,_):=I.list l;show#[pl.isList.typeIs,λa e=>?_];ext e;let(o,n,e,c,h,_):=pl;show#[o,e,h]
  .show#[#[o,I.kIn p o f,m],λa e=>?_];ext e;show#[o,I.kIn _ o f,h]
  .let z:∃o,s.heap.get? p=R o/\o.ExactDict:=by
    rcases f with⟨u,f⟩|⟨u,f⟩
    .let(_,_,_,_,o,_,_,e,g,_):=I.XY p _ f;show#[o,e,g]
    .let(_,_,_,_,o,_,_,e,g,_):=I.XY p _ f;show#[o,e,g]
   let(o,e,g):=z;show#[#[o,e,g.1],λa j=>?_];ext j;show#[o,e,g.2.1]
  .let(o,_,_,_,e,g,_):=I.XY p _ f;show#[#[o,e,g.1],λa j=>?_];ext j;show#[o,e,g.2.1]
 |_=>show False.elim ty
def Tm(K:Ld)(T:String)(r:V->G V->Hp->VK->Prop)(to:TE):TE:=λf H Q=>to f H λx e=>U4 K T x e/\r x [] e Q
def Qd(K:Ld)(T:String)(r:V->G V->Hp->VK->Prop)(to:TE)(t:TA):TE:=λe H Q=>to e H λx f=>U4 K T x f/\t e f λxs g=>r x xs g Q
variable{o e:XB}{es:br XB}{to:TE}{t:TA}{name:Str}{Z Y:Pos}{T U:String}{r:V->br V->Hp->VK->Prop}
def D6(c:PlainAttrs T)(g:Slot T name U)(i:typeOf (.builtin U)=pure (.type "method_descriptor"))(hm:TL X U r)(w:PE X o to)
  (l:attributeBase o name X.env (eval o X.env)=eval o X.env:=by rfl) (j:(Z.endLine==Y.line)=P:=by rfl):PE X (.Call (.Attribute o name Z) [] [] Y) (Tm X.K T r to):=by
 intro f s m H Q I h;show wpAny_Call_method0_late l j (de (w f s m H _ I h) λv q a=>?_);let(x,A,p,n,ty,u):=a;let(z,y):=JE p n ty;show#[T,U,c,g,i,z,y,Calls.callWith_builtin W (PySem.evalArgs_none (hm f q m A x [] v [] Q p n .nil u))]
def kN(c:PlainAttrs T)(g:Slot T name U)(j:typeOf (.builtin U)=pure (.type "method_descriptor"))(hm:TL X U r)(G:PE X o to)(d:PA X (e::es) t)
  (p:attributeBase o name X.env (eval o X.env)=eval o X.env:=by rfl)
  (l:((backTo Y (W5 (e::es) X.env)).all (λx=> !x.1)&&(backToKw Y (keywordEach [] X.env)).all (λx=>x.1.isSome)
   &&decide ((e::es).length+([]:br adb).length+(if([]:br adb).isEmpty then 0 else 1)<30))=P:=by rfl)
  (m:(Z.endLine==Y.line)=P:=by rfl) (F:W5 (e::es) X.env=(Wu,eval e X.env)::W5 es X.env:=by rfl) (n:(backTo Y (W5 es X.env)).any (·.1)=Wu:=by rfl):
  PE X (.Call (.Attribute o name Z) (e::es) [] Y) (Qd X.K T r to t):=by
 intro f s i H Q I h;show wpAny_Call_method_late p l m W (de (G f s i H _ I h) λv A a=>?_);let(x,O,w,q,ty,E):=a;let(L,J):=JE w q ty;show#[T,U,c,g,j,L,J,?_];let u:=d Y f A i O _ w E;rw[F]at u⊢;show Calls.callWith_builtin (by show(Wu||(backTo Y (W5 es X.env)).any (·.1))=Wu;rw[n]<;>rfl) (Calls.evalArgs_plain ?_);show de u λy z #[vs,N,S,K,C]=>hm f z i N x vs v y Q S q K C
end
def Vy(X:Cx)(f:String)(r:V->G V->Hp->VK->Prop):Prop:=
 ∀(a:G (M×Obj)) (s:Ws) (b:St) (H:Hp) (x:V) (xs:G V) (v:B) (e:G B) (Q:VK),Inv X a b H s->RelV x v->Vals xs e->r x xs H Q->
  wpAny (model X.prog X.w) X.A (call (.builtin f) (v::e)) (EP X a b Q) X.xe s
theorem Vals.one:∀{x:V} {us:G B},Vals [x] us->∃u,us=[u]/\RelV x u
 |_,_,.cons r .nil=>#[_,W,r]
theorem Vals.zero:∀{us:G B},Vals [] us->us=[]
 |_,.nil=>rfl
theorem Vals.rep(h:Vals xs us):∀k:Nat,Vals (Wz k xs).flatten (Wz k us).flatten
 |0=>.nil
 |k+1=>by rw[XJ,XJ,YI,YI];show Vals.append h (Vals.rep h k)
theorem sL(b:G B):∀(k:Nat) (a:G B),
  aa4 (λd c=>d++c) a.toArray (Wz k b.toArray)=(a++(Wz k b).flatten).toArray
 |0,a=>by simp
 |k+1,a=>by
  let e:a.toArray++b.toArray=(a++b).toArray:=by simp
  let f:(a++b)++(Wz k b).flatten=a++(Wz (k+1) b).flatten:=by rw[XJ,YI,WY]
  rw[<-f,<-sL b k (a++b),<-e,XJ,aa8]
section
variable{X:Cx}{Z:br (Wo×Obj)}{Y:St}{H:Hp}{s:Ws}{l b:Wo}{T U S:br V}
def Inv.ahS{g a:G B}(I:Inv X Z Y H s)(o:H l=R (.lst T))
  (e:s.heap.get? l=R {cls:=.type "list",data:=.seq g.toArray n}) (j:f g.toArray=a.toArray) (h:Vals U a) (c:U.length<=WG):
  Inv X Z Y (bW H l (.lst U)) {s with heap:=s.heap.update l (Obj.mapSeq f),toks:=t'}:=by
 let q:=aoQ e f;rw[j]at q;show I.write (by rw[o];show trivial) (.inl W) (λp u m i=>(da s.heap (Obj.mapSeq f) (d3 m)).trans i) #[_,q] ?_;show#[c,a,_,h,q]
theorem Inv.ajz(I:Inv X Z Y H s)(a:Vals U Xp)(c:U.length<=WG):
  Inv X Z Y (bW H s.heap.objs.size (.lst U)) {s with heap:=s.heap.push {cls:=.type "list",data:=.seq Xp.toArray},toks:=t'}:=
 I.laid (λ_ _ q=>cj _ q) (Ww _) #[c,Xp,0,a,cN _ W]
theorem Inv.fresh(I:Inv X Z Y H s):H s.heap.objs.size=Wh:=I.XY.fresh (Ww _)
def Inv.agb(I:Inv X Z Y H s)(f:H l=R (.lst T)):T.length<=WG/\∃(a:G B) (n:Nat),Vals T a/\T.length=a.length/\s.heap.get? l=R {cls:=.type "list",data:=.seq a.toArray n}:=by let(z,a,n,r,e):=I.XY l _ f;show#[z,a,n,r,r.length,e]
def BU(h:n<=WG):W7.List.listTooLong n=Wu:=by ext W7.List.listTooLong;show aP ()
end
section
variable{X:Cx}
def yk:V->G V->Hp->VK->Prop:=λx a H Q=>∃l xs y,x=.ref l/\a=[y]/\H l=R (.lst xs)/\xs.length<WG/\Q .YM (bW H l (.lst (xs++[y])))
def iA:Vy X "list.append" yk:=by intro a s j H x w v m Q I f t h;let(l,xs,y,rfl,rfl,b,o,q):=h;ext f;let(u,rfl,g):=t.one;let(z,i,n,r,p,e):=I.agb b;show Y3 F.slot_list_append #[_,e,W] F.entry_list_append (F.args_list_append_2 _ _) (PySem.list_append l i.toArray n u (by rw[WA];ext)) #[e,?_];show#[.YM,_,I.ahS b e (by simp) (r.append (.cons g .nil)) ?_,W,q];rw[Wm,abp];ext
def F8:V->G V->Hp->VK->Prop:=λx a H Q=>∃l b xs zs,x=.ref l/\a=[.ref b]/\H l=R (.lst xs)/\H b=R (.lst zs)/\xs.length+zs.length<=WG/\Q .YM (bW H l (.lst (xs++zs)))
def xF:Vy X "list.extend" F8:=by
 intro j s C H x O v J Q I o N h;let(l,b,xs,E,rfl,rfl,m,A,K,q):=h;ext o;let(u,rfl,p):=N.one;ext p;let(z,f,n,r,L,e):=I.agb m;let(G,a,w,t,y,B):=I.agb A;let g:f.toArray.size+a.toArray.size<=WG:=by rw[WA,WA];ext
 let i:¬(!f.toArray.isEmpty&&W7.List.listTooLong (f.toArray.size+a.toArray.size))=P:=by rw[BU g,ag6];show WM
 show Y3 F.slot_list_extend #[_,e,W] F.entry_list_extend (F.args_list_extend_2 _ _)
  (AutoSeq1.list_extend_list_list_0 l f.toArray n b a.toArray w i (by rw[WA];ext) ()) #[e,B,?_]
 show#[.YM,_,I.ahS m e (by simp) (r.append t) ?_,W,q];rw[Wm];ext
def LV:V->G V->Hp->VK->Prop:=λx a H Q=>∃l xs,x=.ref l/\a=[]/\H l=R (.lst xs)/\Q .YM (bW H l (.lst []))
def Lj:Vy X "list.clear" LV:=by intro b s j H x t v m Q I g p h;let(l,xs,rfl,rfl,f,q):=h;ext g;let a:=p.zero;subst a;let(z,i,n,r,o,e):=I.agb f;show Y3 F.slot_list_clear #[_,e,W] F.entry_list_clear (F.args_list_clear_1 _) (AutoSeq1.list_clear_list_0 l i.toArray n (by rw[WA];ext)) #[e,?_];show#[.YM,_,I.ahS f e W .nil (Xq _),W,q]
def Gf(xs:G α)(k:Nat):(Wz k xs).flatten.length=k*xs.length:=by
 induction k with
 |zero=>simp
 |succ k a=>rw[XJ,YI,Wm,a,aiS,acE]
end
section
variable{Z:WX}{w:Xm}{A:W8}{E:Wi->Ws->Prop}{s:Ws}
set_option maxRecDepth 100000 in
end
end L2
namespace Att
open PySem PySem.W PySem.Calls PyProof.Rows
def tQ:∀(ns:G Int) (c:G B),WellAll f h c (ns.map WData.int)->IntsAre c ns:=by
 intro ns
 induction ns with
 |nil=>intro c w;rw[Zi]at w;ext w;show .nil
 |cons n ns e=>
  intro c w;rw[WL]at w;cases w with
  |cons a b=>ext a;show .cons _ _ (e _ b)
def Hv{l:OpenLaw}(k:l.most=R n)
  (e:l.row.toRowW.claim.pre args=Wl) (i:WellAll A h vals args):
  ∃a c ns,vals=[Wi.ref a]/\args=[WData.list (ns.map WData.int)]/\h.get? a=R {cls:=.type "list",data:=.seq c.toArray}/\IntsAre c ns/\ns.length<=n:=by
 let j:=(pre_splitW e).1;let o:l.pre.holds [] {args:=args}=Wl:=(pre_splitW e).2;let(d,r,rfl,z,y):=hasAllW_cons j;obtain rfl:=hasAllW_nil y;let(xs,rfl,w):=hasW_list z;let(ns,rfl):=items_int w;let b:ns.length<=n:=by
  unfold OpenLaw.pre at o;let g:(WTm.not (.lt (.lit (.int (n:Int))) (.len (.arg 0)))).holds [] {args:=[.list (ns.map .int)]}=Wl:=by let g:=(holds_andW o).1;rw[k]at g;show g
  let f:=condW_of g (w_not (w_lt w_lit (w_len_list (w_arg W))));rw[Wg]at f;show Nat.le_of_not_lt λq=>?_;let u:(n:Int)<((ns.length:Nat):Int):=by ext
  first
   |(rw[aE u]at f;show a7 f ())
   |(simp at f;ext)
 cases i with
 |cons t p=>
  ext p;cases t with
  |list v m=>show#[_,_,ns,W,W,v,tQ ns _ m,b]
theorem HQ(l:OpenLaw)(args:G WData):l.row.toRowW.claim.post args (.bool P) args=P:=
 postW_of
  (show WShape.has [] (.bool P) .bool=P by first|rfl|decide|simp[WShape.has,WShape.arms,WShape.armsAll])
  (show(WTm.eq .res (.lit (.bool P))).value [] {args:=args,res:=R (.bool P),after:=args}=R (.bool (P==P))from w_eq_bool (w_res W) w_lit) W
def attach_call{l:OpenLaw}{n:Nat}{q:WX}{e:br Str}{H:(Str->bP Wi)->Heap->Prop}{F:Xm->Heap->Prop}{d:DefRec}
  (T:l.most=lD n) (v:d.params.defaults=[])
  (call:∀(w:Xm) (c b:Ws) (D p:Str->bP Wi) (s:Wo) (o:Obj) (m j h:Wi) (a:Wo) (k:br Wi) (ns:br Int),
   Ground q e [] H w c D p b.heap->F w b.heap->
   b.heap.get? s=lD o->o.data=.func (docDef d.name d.params d.body d.scope m j h)->b.heap.CodeRec j d.name->D d.name=lD (.ref s)->
   b.heap.get? a=lD {cls:=.type "list",data:=.seq k.toArray}->IntsAre k ns->ns.length<=n->b.gens= #v[]->
   codeAny (model l.prog w) callerA (.call (.ref s) #[[.ref a],[]]) (λr x=>r=.ok (.ret (.bool Wl))/\OldK b.heap x.heap/\x.os=b.os/\AllBare x.gens) b):
  WalkO q e H F l.row.toRowW d [] (λf k=>aiT f k):=by
 intro w c b D p G Y s o m j h dV kV K N y C u M E B S A R I t L;obtain rfl:dV=.none:=Dflts.none C v;obtain rfl:kV=.none:=Dflts.noKw C;let(a,k,ns,rfl,rfl,z,g,i):=Hv T A t;show enter_call (abI (call w c b D p s o m j h a k ns G Y K (fd_plain N) y u z g i M) λr x J=>?_);let(rfl,Q,P,O):=J;show#[.inl #[.bool Wl,.bool Wl,[],W,λ_=>W,.bool Wl,HQ l _,λ_=>#[aa9,λ_ hm=>(nomatch hm)]],Q,P,O]
end Att
namespace L2
open PySem PySem.Spec PyProof.Rows
theorem kY:∀{a:G B} {ns:G Int},IntsAre a ns->Vals (ns.map V.int) a
 |_,_,.nil=>.nil
 |_,_,.cons n t h=>.cons #[t,W] (kY h)
def UF(H:Hp):Prop:=∀b,H b=U\/∃o xs,H b=R (.frz o (.lst xs))
def LL{P:WX}{w:Xm}{K:Ld}{mg G:Str->bP Wi}{Z:zK}{k:Nat}{fa a:Wo}{fd:XF}{x:Str}{sp:Sp}{f:Ws}{D:br Wi}{ns:br Int}
  (Y:K.In f.heap) (p:f.heap.Ns WN mg) (g:f.heap.Ns builtinsNs G) (J:∀x:Str,x≠ "__name__"->G x=XS x) (Q:f.heap.NoLimit) (hg:f.gens= #v[])
  (ha:f.heap.get? a=lD {cls:=.type "list",data:=.seq D.toArray}) (hi:IntsAre D ns) (S:ns.length<=WG) (hr:YL k callerA)
  (F:∀base:Heap,K.In base->base.Ns WN mg->FnOk P w K mg base Z k fa fd [x] sp) (R:∀(s:Ws) (u:Wi),abG s fd #[[u],[]] [(x,u)])
  (I:∀H:Hp,UF H->SqL K H a (ns.map V.int)->sp [.ref a] H (λv _=>v=.bl Wl) λ_ _ _=>False)
  (L:∀H e c,Z [] H f (λ_ _ _=>False) e c->False):
  codeAny (model P w) callerA (.call (.ref fa) #[[.ref a],[]]) (λr c=>r=.ok (.ret (.bool Wl))/\OldK f.heap c.heap/\c.os=f.os/\AllBare c.gens) f:=by
 let rv:=kY hi;let O:=hi.length
 let j:∀H:Hp,UF H->SqL K H a (ns.map V.int)->HOk P w H f.heap->(∀b,H b≠Wh->b=a)->(H a≠Wh->K.lookup a=Wh)->
   codeAny (model P w) callerA (.call (.ref fa) #[[.ref a],[]]) (λr c=>r=.ok (.ret (.bool Wl))/\OldK f.heap c.heap/\c.os=f.os/\AllBare c.gens) f:=by
  intro H T hS XY U hK;let C:∀{b:Wo} {o:Obj},f.heap.get? b=lD o->H b=Wh->(zO f.heap H).get? b=lD o:=λe n=>JP e n;let E:∀{b:Wo} {o:Obj} {y:Array ZV} {A:Nat},f.heap.get? b=lD o->o.data=.dict y A->H b=Wh:=λ{b o y A} e d=>by
   cases q:H b with
   |none=>rfl
   |some u=>let M:b=a:=U b (by rw[q];simp);subst M;rw[ha]at e;ext e;let d':Data.seq D.toArray _=Data.dict y A:=d;ext d'
  let i:∀{b:Wo} {m:Str->bP Wi},f.heap.Ns b m->(zO f.heap H).Ns b m:=λ{b m} #[o,y,A,e,d,r]=>#[o,y,A,C e (E e d),d,r];let t:K.In (zO f.heap H):=λb o e=>C (Y b o e) (by
   cases q:H b with
   |none=>rfl
   |some u=>let M:b=a:=U b (by rw[q];simp);subst M;rw[hK (by rw[q];simp)]at e;ext e)
  let hM:Mod K mg (zO f.heap H):=#[t,i p,#[G,i g,J],let#[mc,h1,h2]:=Q;#[mc,i h1,h2]];let e0:Env0 P w K mg (zO f.heap H) callerA [] f H:=#[W,hM,λb o e=>Ox e,Zm (HW _ _),trivial,λb g=>a7 (show b∈([]:br Wo)from g) (by simp),XY,.of_eq hg];show abI ((F _ t (i p)).run callerA [] f H #[[.ref a],[]] [.ref a] [.ref a] _ _ hr e0 (R f (.ref a)) (.cons W .nil) (I H T hS)) λr c h=>?_;cases r with
  |error e=>show(L H e c h).elim
  |ok fl=>
   cases fl with
   |next=>show False.elim h
   |brk=>show False.elim h
   |cont=>show False.elim h
   |ret u=>
    let(v,H',os,B,un,N,r',q):=h;let q':v=.bl Wl:=q;subst q';obtain rfl:u=Wi.bool Wl:=r';show#[W,OldK.of_keep λb o e=>?_,os,B];cases q:H b with
    |none=>show un.keep b o e q (by intro z;show a7 (show b∈([]:br Wo)from z) (by simp)) (by simp)
    |some u=>
     rcases T b with z|⟨ob,xs,z⟩
     .rw[q]at z;ext z
     .let z2:=un.acL b ob _ z;let(X,_):=XY b _ z;let(e2,_):=N b _ z2;rw[e]at X;ext X;show e2
 cases hk:K.lookup a with
 |some o=>let e:=Y a o hk;rw[ha]at e;ext e;show j (λ_=>Wh) (λ_=>.inl W) (.inr #[_,D.toArray,_,hk,W,W,W,by rw[WA,O];show S,by simpa using rv]) (λb u z=>by let l:(Wh:bP HO)=lD u:=z;ext l) (λb z=>a7 W z) λz=>a7 W z
 |none=>
  show j (λb=>if b=a then lD (.frz {cls:=.type "list",data:=.seq D.toArray} (.lst (ns.map V.int)))else Wh) (λb=>?_) (.inl (.inr #[{cls:=.type "list",data:=.seq D.toArray},av W])) (λb u z=>?_) (λb z=>?_) λ_=>hk
  .by_cases g:b=a
   .show .inr #[_,_,av g]
   .show .inl (ax g)
  .by_cases g:b=a
   .let l:=(av g).symm.trans z;ext l;subst g;show#[ha,by rw[Wg];show S,D,_,rv,ha]
   .let l:=(ax g).symm.trans z;ext l
  .by_cases g:b=a
   .show g
   .show a7 (ax g) z
def bx(s:YK)(j:Nat):YK:=match s with
 |.ClassDef _ _ _ body _ _ _ _ _ _ _=>body.getD j (.Pass #[0,0,0,0])
 |_=>.Pass #[0,0,0,0]
def g8(s:YK):Arguments:=match s with
 |.FunctionDef _ a _ _ _ _ _ _ _ _=>a
 |_=>{posonlyargs:=[],args:=[],vararg:=U,kwonlyargs:=[],kw_defaults:=[],kwarg:=U,defaults:=[]}
def cY(s:YK):G YK:=match s with
 |.FunctionDef _ _ b _ _ _ _ _ _ _=>b
 |_=>[]
def aG(s:YK):Zt:=match s with
 |.FunctionDef _ _ _ _ _ _ sc _ _ _=>sc
 |_=>{kind:=.function,names:=[],isGenerator:=Wu,isCoroutine:=Wu}
abbrev ef:zK:=λ_ _ _ _ _ _=>False
abbrev E0:XK:=λ_ _ _=>False
theorem Bv:gH ef X E0:=λ_ _ _ _ _ _ _ h=>h.elim
structure Zl(K:Ld)(x qual:Str)(st:YK)(f:M)(fd:XF):Prop where
 ex:∃(oc:B) (od:I M) (kV doc pm:B) (an:I M) (X3 ct:B) (osl:Array (I B)),
  fd=X6 x qual (g8 st) (cY st) (aG st) .none kV doc pm an X3 ct/\K.lookup f=R #[oc,od,.func fd,osl]/\aah K X3 qual=P
 kp:Yh K (.ref f)=P
section
variable{P:WX}{w:Xm}{K:Ld}{Z:Str->bP Wi}{base:Heap}
def Zl.ok{x a:Str}{b:YK}{f:M}{fd:XF}{N d:G Str}{k:Nat}{sp:Sp}(F:Zl K x a b f fd)(S:YW N d (aG b))(len:∀c H Q E,sp c H Q E->c.length=d.length)
  (o:∀(e:B) (A:W8) (outer:G Env) (s:Ws) (H:Hp) (c:G V) (Q:VK) (E:XK),YL k (A.deeper (envOfC a (aG b) s.heap.objs.size f e))->sp c H Q E->
   ∃t,PSs (gM ef P w K Z base N a (aG b) f e A outer s H E).nox (cY b) t/\t {nx:=λ_ y=>Q .YM y,rt:=Q} (start N c) H):FnOk P w K Z base ef (k+1) f fd d sp:=by
 let(u,r,kV,n,p,v,e,ct,j,rfl,l,i):=F.ex;show Mi l i S len λA outer s H c Q E m g=>?_;let(t,h,q):=o e A outer s H c Q E m g;show#[t,h.nox,q]
def Zl.binds{x a:Str}{e:YK}{f:M}{fd:XF}{ps:G Str}(F:Zl K x a e f fd)
  (h:∀(kV b g:B) (i:I M) (j ct:B) (us:G B),us.length=ps.length->bindArgs (X6 x a (g8 e) (cY e) (aG e) .none kV b g i j ct) #[us,[]]=pure (ps.zip us)):Binds K fd ps []:=by
 let(o,n,kV,b,g,i,j,ct,l,rfl,p,m):=F.ex;show .all (h kV b g i j ct)
theorem J1{a:YK}{kV b g e ct:B}(l:K.lookup f=R #[j,i,.func (X6 x qual (g8 a) (cY a) (aG a) .none kV b g an e ct),h])
  (c:aah K e qual=Wl) (k:Yh K (.ref f)=Wl):Zl K x qual a f (X6 x qual (g8 a) (cY a) (aG a) .none kV b g an e ct):=#[#[j,i,kV,b,g,an,e,ct,h,W,l,c],k]
end
theorem Fx(a:YL k A):A.units+1<cLine:=acf (Nat.add_le_add_left (by decide:1<=64) _) a.units
section
variable{X:Cx}
theorem pv(i:Nat)(e:X.N[i]?=R x:=by rfl)(b:Vv X.env.scope x:=by first|show bb W|show bg (bb W)|show bg (bg W))(hd:(x==("__debug__":Str))=Wu:=by decide)
  (a:(x==("__classdict__":Str))=Wu:=by decide):PE X (.Name x pos) (vG i):=SD e b hd a
end
def Yo(H a:Hp):Prop:=∀b o,H b=R o->a b=R o
theorem Yo.refl(H:Hp):Yo H H:=λ_ _ h=>h
theorem Yo.trans(a:Yo H H1)(b:Yo H1 H2):Yo H H2:=λc o h=>b c o (a c o h)
def Yo.free(e:Yo H H')(h:H' l=U):H l=U:=by
 cases q:H l with
 |none=>rfl
 |some o=>rw[e l o q]at h;ext h
end L2
set_option maxHeartbeats 4000000
namespace L2
open PySem PySem.Spec PyProof.Rows
section
variable{X:Cx}{Z:br (Wo×Obj)}{T:St}{H:Hp}{s:Ws}{Y:Heap}
def Inv.aeP{ch:G M}(I:Inv X Z T H s)(i:∀b∈ch,sM X Z H b)
  (k:∀b u,b∉ch->s.heap.get? b=R u->Y.get? b=R u) (l:s.heap.objs.size<=p)
  (new:ObjOk X.prog X.w (bW H p o) Y p o):Inv X Z T (bW H p o) {s with heap:=Y,toks:=t'}:=by
 let w:=I.XY.fresh l;let f:∀b u,H b=R u->b∉ch:=λb u e z=>by rw[(i b z).1]at e;ext e
 let h:∀b u,s.heap.get? b=R u->b≠p:=λb u e=>WZ (W0 (cn e) l);show I.step (λb g=>?_) (λb u _ _ a e _=>k b u a e) (λb u _ _ a e _=>#[u.slots,k b u a e])
  (λb u _ e n=>by rw[aU (h b u e)];show n) (λb u a e=>#[u,k b u a e]) (λb xs e=>by rw[aU (cM e w)];show e)
  (λb u xs e=>by rw[aU (cM e w)];show e) (λb J e=>#[#v[],by rw[aU (cM e w),e];simp]) (λm hm=>?_) (λb u e=>?_) I.bare
 .let(_,C,_,B,A,y):=i b g;show#[B,C,A,y]
 .let(j,E,F,t,r):=hm;show#[j,E,F,k _ j (λz=>(i _ z).2.1 W) t,r]
 .by_cases g:b=p
  .subst g;rw[aY]at e;ext e;show new
  .rw[aU g]at e
   show(I.XY b u e).aaG (λc v a q=>k c v ?_ q) (λc q=>by rw[aU (cM q w)];show q) λc xs q=>by rw[aU (cM q w)];show q
   rcases a with z|z
   .rw[z];show f b u e
   .show f c _ z
end
mutual
inductive DV(K:Ld)(H:Hp):V->Wn->Prop
 |YM:DV K H .YM .none
 |bl (b:Bool):DV K H (.bl b) (.bool b)
 |int (i:Int):DV K H (.int i) (.int i)
 |str (x:Str):DV K H (.str x) (.str x)
 |tup {a:Wo} {xs:br V} {ds:br Wn}:SqT K H a xs->Yb K H xs ds->DV K H (.ref a) (.tuple ds)
 |lst {a:Wo} {xs:br V} {ds:br Wn}:SqL K H a xs->Yb K H xs ds->DV K H (.ref a) (.list ds)
inductive Yb(K:Ld)(H:Hp):br V->br Wn->Prop
 |nil:Yb K H [] []
 |cons {v:V} {vs:br V} {d:Wn} {ds:br Wn}:DV K H v d->Yb K H vs ds->Yb K H (v::vs) (d::ds)
end
section
variable{X:Cx}{Z:br (Wo×Obj)}{σ:St}{H:Hp}{s:Ws}
mutual
theorem DV.reads(I:Inv X Z σ H s):∀{v:V} {d:Wn} {u:Wi},DV X.K H v d->RelV v u->∃as,adg s.heap u d as
 |_,_,_,.YM,r=>by cases r;exact⟨_,.none⟩
 |_,_,_,.bl b,r=>by cases r;exact⟨_,.bool b⟩
 |_,_,_,.int i,r=>by obtain⟨t,rfl⟩:=r;exact⟨_,.int i t⟩
 |_,_,_,.str x,r=>by obtain⟨t,rfl⟩:=r;exact⟨_,.str x t⟩
 |_,_,_,.tup h hs,r=>by cases r;obtain⟨a,rv,⟨o,e,c,n,d⟩,_⟩:=I.tuple h;obtain⟨as,q⟩:=Yb.reads I hs rv;exact⟨_,.tuple e c d (by simpa using q)⟩
 |_,_,_,.lst h hs,r=>by cases r;obtain⟨a,rv,⟨o,n,e,c,_,d⟩,_⟩:=I.list h;obtain⟨as,q⟩:=Yb.reads I hs rv;exact⟨_,.list e c d (by simpa using q)⟩
theorem Yb.reads(I:Inv X Z σ H s):∀{vs:br V} {ds:br Wn} {us:br Wi},Yb X.K H vs ds->Vals vs us->∃as,aex s.heap us ds as
 |_,_,_,.nil,r=>by cases r;exact⟨_,.nil⟩
 |_,_,_,.cons h hs,r=>by
  cases r with
  |cons b a=>obtain⟨as,q⟩:=DV.reads I h b;obtain⟨bs,e⟩:=Yb.reads I hs a;exact⟨_,.cons q e⟩
end
end
def NZ(K:Ld)(neg:Bool):R2:=λx y H Q=>∃a b,DV K H x a/\DV K H y b/\a.canLay0=P/\b.canLay0=P/\a.depth<=64/\Q (.bl (if neg then !Wn.eqv a b else Wn.eqv a b)) H
section
variable{X:Cx}
def pG(o:X.A.units+64<cLine):OpR X (Yl .Eq) (NZ X.K Wu):=by intro a s n H x y v u Q I e b h;let(w,r,m,l,j,i,p,q):=h;let(t,g):=m.reads I e;let(bs,f):=l.reads I b;show ak9 g f j i () #[.bl _,H,I,W,q]
def DG(o:X.A.units+64<cLine):OpR X (Yl .NotEq) (NZ X.K P):=by intro a s n H x y v u Q I e b h;let(w,r,m,l,j,i,p,q):=h;let(t,g):=m.reads I e;let(bs,f):=l.reads I b;show ala g f j i () #[.bl _,H,I,W,q]
theorem Kh:OpR X (Yx .FloorDiv) (rI (λ_ j=>0<j/\j.natAbs.log2<9000) λi j=>.int (i/j)):=Tw λi j _ _ _ _ _ a q=>by let b:(0:Int)<j:=a.1;show floordiv_int () (by rw[adD i ()];show q) (.inl (PyProof.noPylong_of_log2 a.2))
end
def jZ(env:Env):G (Str×Xf)->G (Str×M)->G (Str×M)
 |[],acc=>acc
 |(n,k)::r,acc=>if(k==Xf.free)=P then(match env.cells.lookup n with|some c=>jZ env r ((n,c)::acc)|none=>jZ env r acc)else jZ env r acc
theorem pR{f:Str×Xf->G (Str×M)->Sem (ForInStep (G (Str×M)))}
  (i:∀n k a,(k==Xf.free)=Wu->f (n,k) a=pure (.yield a)) (g:∀n c a,env.cells.lookup n=R c->f (n,.free) a=pure (.yield ((n,c)::a))):
  ∀(names:G (Str×Xf)) (a:G (Str×M)),(∀y∈names,y.2=.free->∃c,env.cells.lookup y.1=R c)->forIn names a f=pure (jZ env names a)
 |[],a,_=>rfl
 |(n,k)::r,a,h=>by
  let j:=λy m=>h y (WH _ m);rw[aba];cases o:(k==Xf.free)with
  |false=>rw[i n k a o,pure_bind];show forIn r a f=_;rw[pR i g r a j];simp only[jZ,o,ZE,if_false]
  |true=>
   let e:k=.free:=by simpa using o
   subst e;let(c,l):=h _ WK W;rw[g n c a l,pure_bind];show forIn r ((n,c)::a) f=_;rw[pR i g r _ j];let b:=l;simp only[jZ,o,if_true,b]
def qp(h:∀y∈scope.names,y.2=.free->∃c,env.cells.lookup y.1=R c):closureFor scope env=pure (jZ env scope.names []):=by simp only[closureFor];rw[pR (λn k a b=>by simp only[b,ZE,if_false]) (λn c a e=>by simp only[ej,if_true,cellOf,e,pure_bind]) scope.names [] h,pure_bind]
theorem nr:∀(names:G (Str×Xf)) (a:G (Str×M)),(∀x c,a.lookup x=R c->env.cells.lookup x=R c)->∀x c,(jZ env names a).lookup x=R c->env.cells.lookup x=R c
 |[],_,h,x,c,e=>h x c e
 |(n,k)::r,a,h,x,c,e=>by
  unfold jZ at e;split at e
  .split at e
   .rename_i g b
    show nr r _ (λy d q=>?_) x c e;rw[WT]at q;split at q
    .rename_i f;ext q;rw[eq_of_beq f];show b
    .show h y d q
   .show nr r a h x c e
  .show nr r a h x c e
theorem n6:∀(names:G (Str×Xf)) (a:G (Str×M)) (x:Str),(a.lookup x).isSome=P->((jZ env names a).lookup x).isSome=P
 |[],_,_,h=>h
 |(n,k)::r,a,x,h=>by
  ext jZ;split
  .split
   .show n6 r _ x ?_
    rw[WT];split
    .rfl
    .show h
   .show n6 r a x h
  .show n6 r a x h
theorem rm:∀(names:G (Str×Xf)) (a:G (Str×M)) (x:Str) (c:M),(x,Xf.free)∈names->env.cells.lookup x=R c->((jZ env names a).lookup x).isSome=P
 |[],_,_,_,h,_=>by ext h
 |(n,k)::r,a,x,c,h,b=>by
  rcases W2.mp h with z|h
  .ext z;simp only[jZ,ej,if_true,b];show n6 r _ _ (by simp[WT])
  .ext jZ
   split
   .split
    .show rm r _ x c h b
    .show rm r a x c h b
   .show rm r a x c h b
def Cd(h:(x,Xf.free)∈names)(a:env.cells.lookup x=R c):(jZ env names []).lookup x=R c:=by
 let q:=rm names [] x c h a;cases e:(jZ env names []).lookup x with
 |none=>rw[e]at q;ext q
 |some d=>let z:=nr names [] (λy d q=>by ext q) x d e;rw[a]at z;show z.symm
def Cf{env:Env}{a:Zt}{x:Str}{k:Xf}(h:(relabel a env).names.lookup x=R k):∃c,(x,c)∈a.names/\(k=c\/(c=.free/\k=.cell)):=by
 let((n,c),hm,e):=Xe.mp (Yr h);simp only at e;split at e
 .rename_i b
  ext e;let f:(c==Xf.free)=P:=by rw[WU,WU]at b;show b.1.1
  show#[c,hm,.inr #[by simpa using f,W]]
 .ext e;show#[_,hm,.inl W]
theorem lJ{env:Env}:∀{names:G (Str×Xf)} {x:Str},names.lookup x=R .free->
  (names.map λ(n,k)=>if(k==Xf.free&&env.scope.kind==.function&&env.kindOf n==R .cell)then(n,Xf.cell)else(n,k)).lookup x=R .cell\/
  (names.map λ(n,k)=>if(k==Xf.free&&env.scope.kind==.function&&env.kindOf n==R .cell)then(n,Xf.cell)else(n,k)).lookup x=R .free
 |[],_,h=>by ext h
 |(n,k)::r,x,h=>by
  rw[WT]at h;rw[WL];dsimp only;by_cases a:(k==Xf.free&&env.scope.kind==.function&&env.kindOf n==R .cell)=P
  .rw[av a,WT]
   cases b:x==n with
   |true=>show .inl W
   |false=>rw[b]at h;show lJ h
  .rw[ax a,WT]
   cases b:x==n with
   |true=>rw[b]at h;show .inr h
   |false=>rw[b]at h;show lJ h
def gh(own:G Str)(a:G (Str×Nat)):G Str:=own++a.map (·.1)
def kA(own:G Str)(b:G (Str×Nat))(a:St):St:=own.map (λ_=>U)++b.map λp=>(a[p.2]?).join
def aee(X:Cx)(a:Zt):G (Str×Nat)->Prop
 |[]=>True
 |p::r=>(X.N[p.2]?=R p.1/\a.names.lookup p.1=R .free/\(X.env.scope.names.lookup p.1=R .cell\/X.env.scope.names.lookup p.1=R .free))/\aee X a r
theorem aee.mem:∀{a:G (Str×Nat)},aee X scope a->∀p∈a,X.N[p.2]?=R p.1/\scope.names.lookup p.1=R .free/\(X.env.scope.names.lookup p.1=R .cell\/X.env.scope.names.lookup p.1=R .free)
 |[],_,p,b=>by ext b
 |q::r,h,p,b=>by
  rcases W2.mp b with z|b
  .rw[z];show h.1
  .show h.2.mem p b
def zN(X:Cx)(a:Zt)(C:M):G (Str×M):=YC (C+1) a.names (jZ X.env a.names [])
theorem vF:∀(names:G (Str×Xf)) (n:Nat) (b:G (Str×M)) (x:Str) (c:M),(YC n names b).lookup x=R c->(n<=c/\(x,Xf.cell)∈names)\/b.lookup x=R c
 |[],_,_,_,_,h=>.inr h
 |(y,k)::r,n,b,x,c,h=>by
  unfold YC at h;by_cases f:(k==Xf.cell)=P
  .rw[av f]at h
   let e:k=.cell:=by simpa using f
   rcases vF r _ _ x c h with⟨a,g⟩|a
   .show .inl #[aaK a,WH _ g]
   .rw[WT]at a
    split at a
    .rename_i i;ext a;show .inl #[Ww _,by rw[eq_of_beq i,e];show WK]
    .show .inr a
  .rw[ax f]at h
   rcases vF r _ _ x c h with⟨a,g⟩|a
   .show .inl #[a,WH _ g]
   .show .inr a
theorem Lh:∀(names:G (Str×Xf)) (n:Nat) (a:G (Str×M)) (x:Str),(x,Xf.cell)∉names->(YC n names a).lookup x=a.lookup x
 |[],_,_,_,_=>rfl
 |(y,k)::r,n,a,x,h=>by
  let f:=λz=>h (WH _ z);ext YC;by_cases b:(k==Xf.cell)=P
  .let e:k=.cell:=by simpa using b
   rw[av b,Lh r _ _ x f,WT];let g:(x==y)=Wu:=by show beq_eq_false_iff_ne.mpr λz=>h ?_;rw[z,e];show WK
   rw[g]
  .rw[ax b];show Lh r _ _ x f
theorem vi:∀(names:G (Str×Xf)) (h:Heap) (b:G (Str×M)) (x:Str) (c:M),(YC h.objs.size names b).lookup x=R c->(h.objs.size<=c/\(pushCells h names).IsCell c U)\/b.lookup x=R c
 |[],_,_,_,_,e=>.inr e
 |(y,k)::r,h,b,x,c,e=>by
  unfold YC at e;ext pushCells;by_cases f:(k==Xf.cell)=P
  .rw[av f]at e⊢
   rw[<-dt h {cls:=.type "cell",data:=.cell U}]at e;rcases vi r _ _ x c e with⟨a,g⟩|a
   .rw[dt]at a;show .inl #[aaK a,g]
   .rw[WT]at a
    split at a
    .ext a;show .inl #[Ww _,_,ad7 _ _ _ _ (cN _ W),W]
    .show .inr a
  .rw[ax f]at e⊢;show vi r _ _ x c e
theorem Cv:∀(names:G (Str×Xf)) (n:Nat) (e:G (Str×M)),(∀x c,e.lookup x=R c->c<n)->(∀x y c,e.lookup x=R c->e.lookup y=R c->x=y)->∀x y c,(YC n names e).lookup x=R c->(YC n names e).lookup y=R c->x=y
 |[],_,_,_,m,x,y,c,l,j=>m x y c l j
 |(z,k)::r,n,e,o,m,x,y,c,l,j=>by
  unfold YC at l j;by_cases h:(k==Xf.cell)=P
  .rw[av h]at l j
   show Cv r (n+1) ((z,n)::e) (λa d q=>?_) (λa b d g f=>?_) x y c l j
   .rw[WT]at q
    split at q
    .ext q;show Yy _
    .show aaL (o a d q)
   .rw[WT]at g f
    split at g
    .rename_i p
     split at f
     .rename_i i;rw[eq_of_beq p,eq_of_beq i]
     .ext g;show a7 (o b _ f) (XU _)
    .split at f
     .ext f;show a7 (o a _ g) (XU _)
     .show m a b d g f
  .rw[ax h]at l j;show Cv r n e o m x y c l j
theorem DL:∀{names:G (Str×Xf)} {x:Str} {k a:Xf},(names.map (·.1)).Nodup->names.lookup x=R k->(x,a)∈names->k=a
 |[],_,_,_,_,h,_=>by ext h
 |(y,j)::r,x,k,a,f,h,hm=>by
  rw[WL,Yp]at f;rw[WT]at h;rcases W2.mp hm with e|b
  .ext e;rw[ej]at h;show(WE h).symm
  .cases g:x==y with
   |true=>rw[eq_of_beq g]at b;show a7 (Xe.mpr #[_,b,W]) f.1
   |false=>rw[g]at h;show DL f.2 h b
def dj(X:Cx)(s:Ws)(H:Hp)(a:Zt)(C:M)(N:G Str)(b:G M):Cx:=
 {X with N:=N,s₀:=s,H₀:=H,env:=compEnvC a (zN X a C) C X.env,outer:=X.stack,stack:=X.stack,ex:=b,fn:=λx=>((jZ X.env a.names []).lookup x).isNone,pn:=[],xe:=λ_ _=>False}
section
variable{X:Cx}{Z:br (Wo×Obj)}{Y:St}{H:Hp}{s:Ws}
def w6{a:Zt}(I:Inv X Z Y H s)(e:(jZ X.env a.names []).lookup x=R c):X.env.cells.lookup x=R c/\c<s.heap.objs.size:=by let h:=nr _ _ (λ_ _ q=>by ext q) x c e;let(v,o,z,_):=I.cell x c h;show#[h,cn z]
theorem Eu(I:Inv X Z Y H s)(M:scope.kind=.function)(n:(scope.names.map (·.1)).Nodup)
  (v:∀y∈scope.names,y.2=.free->∃c,X.env.cells.lookup y.1=R c) (g:s.heap.objs.size<=C) (j:∀b∈Q,sM X Z H b) (f:∀b∈Q,b<s.heap.objs.size):(dj X s H scope C N Q).Ok where
 mod:=I.ok.mod
 kind:=M
 glob:=I.ok.glob
 blt:=I.ok.blt
 above:=g
 inj:=Cv _ _ _ (λx c e=>aaL (W0 (w6 I e).2 g)) λx y c B A=>I.ok.inj x y c (w6 I B).1 (w6 I A).1
 has:=λx G=>by
  let m:∃k,(relabel scope X.env).names.lookup x=R k/\(k=.cell\/k=.free):=by
   rcases G with z|z
   .show#[_,z,.inl W]
   .show#[_,z,.inr W]
  let(k,K,t):=m;let(E,hm,u):=Cf K;let e:E=.free\/E=.cell:=by
   rcases u with z|⟨z,_⟩
   .subst z
    rcases t with z|z
    .show .inr z
    .show .inl z
   .show .inl z
  let q:((zN X scope C).lookup x).isSome=P:=by
   rcases e with e|e
   .subst e;let(c,L):=v _ hm W;show ZH _ _ _ (.inr (by rw[Cd hm L];rfl))
   .subst e
    show ZH _ _ _ (.inl ?_);cases z:scope.names.lookup x with
    |none=>show a7 hm (λhm=>by
      let:∀{l:br (Str×Xf)},l.lookup x=U->(x,Xf.cell)∉l:=λ{l}=>by
       induction l with
       |nil=>show λ_=>by simp
       |cons p r F=>
        intro h q;rw[WT]at h;rcases W2.mp q with q|q
        .rw[<-q,ej]at h;ext h
        .split at h
         .ext h
         .show F h q
      show this z hm)
    |some O=>rw[DL n z hm]
  show adw.mp q
 cab:=λx c B A=>by
  let i:((jZ X.env scope.names []).lookup x).isNone=P:=B;let w:=A;rcases vF _ _ _ x c w with⟨z,_⟩|z
  .show Xo g (aaK z)
  .rw[z]at i;ext i
 hd:=I.ok.hd
 frames:=I.ok.frames
 stk:=.inl W
 exf:=λb a=>#[WZ (W0 (f b a) g),λx c e=>by
  rcases vF _ _ _ x c e with⟨z,_⟩|z
  .show XX (W0 (W0 (f b a) g) (aaK z))
  .show(j b a).2.2.2.2.1 x c (w6 I z).1]
 bs:=I.bs
 bsz:=Xo I.ok.bsz I.sz
 aed:=λb o e a=>by
  rcases(j b a).2.2.2.1 with z|z
  .show I.ok.aed b o e z
  .show a7 (W0 (cn e) (Xo I.ok.bsz z)) (XU _)
 aef:=λb a J=>by
  rcases W2.mp (I.abL b J)with z|z
  .show(j b a).2.1 z
  .show(j b a).2.2.1 z
 abS:=I.stack
 frf:=I.ab8
def Jy(I:Inv X Z Y H s)(ZZ:scope.kind=.function)(d:(scope.names.map (·.1)).Nodup)
  (Q:∀y∈scope.names,y.2=.free->∃c,X.env.cells.lookup y.1=R c) (O:aee X scope h) (F:s.heap.objs.size<=D) (t:D<C) (hC:s.heap.objs.size<=C) (hf:∀b∈fp,sM X Z H b) (S:∀b∈fp,b<s.heap.objs.size)
  (N:J.Ns C m) (K:∀x c,(zN X scope C).lookup x=R c->C<c->∃v,J.IsCell c v) (A:∀b o,s.heap.get? b=R o->J.get? b=R o) (hd:∃n,J.get? D=R {cls:=.type "list",data:=.seq #v[] n}):
  Inv (dj X s H scope C (gh own h) fp) [] (kA own h Y) (bW H D (.lst [])) {s with heap:=J,toks:=t1}:=by
 let hn:=I.XY.fresh F;let(n,hd):=hd;let T:=XX t;let j:∀x c,(zN X scope C).lookup x=R c->C<c\/(X.env.cells.lookup x=R c/\c<s.heap.objs.size):=λx c e=>by
  rcases vF _ _ _ x c e with⟨z,_⟩|z
  .show .inl z
  .show .inr (w6 I z)
 show#[Eu I ZZ d Q hC hf S,W,I.bare,Un.laid A F hn,#[m,N,λi x v e1 e2 e3=>?_],λx c e=>?_,?_,λx c e=>?_,λp hp=>a7 (show p∈([]:G (M×Obj))from hp) (by simp),?_,?_]
 .
  let f:(own++h.map (·.1))[i]?=R x:=e1;let a:(own.map (λ_=>(U:bP V))++h.map λp=>(Y[p.2]?).join)[i]?=R (R v):=e2;let E:own.length<=i:=by
   by_cases E:i<own.length
   .rw[WB (by simpa using E),Wv]at a
    cases q:own[i]? with
    |none=>rw[q]at a;ext a
    |some _=>rw[q]at a;ext a
   .omega
  rw[Xb E,Wv]at f;rw[Xb (by simpa using E),Wv,Wg]at a;cases q:h[i - own.length]? with
  |none=>rw[q]at f;ext f
  |some p=>
   rw[q]at f a;let ex:=WE f;subst ex;let ev:(Y[p.2]?).join=R v:=WE a;let(g1,g2,g3):=O.mem p (WC q);let ev2:Y[p.2]?=R (R v):=by
    cases z:Y[p.2]? with
    |none=>rw[z]at ev;ext ev
    |some y=>rw[z]at ev;show eh R ev
   let(m0,_,hl):=I.loc;let(u,r,l):=hl p.2 p.1 v g1 ev2 (.inr g3);show#[u,r,?_];let l2:∃c,X.env.cells.lookup p.1=R c/\s.heap.IsCell c (R u):=by
    rcases l with⟨k,_⟩|⟨_,c,e,z⟩
    .let w:X.env.scope.names.lookup p.1=R .local:=k
     rcases g3 with z|z
     .rw[z]at w;ext w
     .rw[z]at w;ext w
    .show#[c,e,z]
   let(c,e,o,L,g):=l2;show .inr #[?_,c,?_,o,A c o L,g]
   .show lJ g2
   .show(zN X scope C).lookup p.1=R c;ext zN;rw[Lh _ _ _ _ λz=>by cases DL d g2 z];show Cd (Yr g2) e
 .rcases j x c e with z|⟨z,_⟩
  .show K x c e z
  .let(v,o,L,g):=I.cell x c z;show#[v,o,A c o L,g]
 .show bW H D (.lst []) C=U;rw[aU T];show I.XY.fresh hC
 .show bW H D (.lst []) c=U
  rcases j x c e with z|⟨z1,z2⟩
  .rw[aU (XX (ZQ t z))];show I.XY.fresh (Xo hC (ZO z))
  .rw[aU (WZ (W0 z2 F))];show I.aae x c z1
 .show I.XY.laid A F #[by show 0<=WG;show Xq _,[],n,.nil,hd]
 .show(own.map (λ_=>(U:bP V))++h.map λp=>(Y[p.2]?).join).length=(own++h.map (·.1)).length;simp
end
def Ii(X:Cx)(e:G XB)(t:TT):Prop:=
 ∀(a:G (M×Obj)) (s:Ws) (b:St) (H:Hp) (Q:Bool->Hp->Prop),Inv X a b H s->t b H Q->
  wpAny (model X.prog X.w) X.A (forIn e P λc r=>if r=P then do let ok<-isTrue c X.env (eval c X.env);pure (ForInStep.yield ok)else pure (ForInStep.yield r)) (TP X a b Q) X.xe s
def JK:TT:=λ_ H Q=>Q P H
theorem bM:Ii X [] JK:=λ_ _ _ H _ I h=>wpAny_tests_nil #[H,I,h]
theorem uR(h:PT X c f):Ii X [c] f:=λa s b H Q I e=>wpAny_tests_one (h a s b H Q I e)
def LJ(J:It)(D:M)(e:St)(g:TG)(l:TT)(j:TE)(o:Hp)(Fin:Hp->Prop):Prop:=
 ∃W:Nat->Nat->St->Hp->Prop,(∃m,W 0 m e (bW o D (.lst [])))/\∀i m σ H,W i m σ H->
  (J.stop i H/\Fin H)\/(J.go i H/\∃N:St->Hp->Prop,(∀p q,N p q->∃t,t<m/\W (i+1) t p q)/\
   ∀x q,J.yld i H x q->g x σ q λa n=>l a n λb h=>if b=P then j a h λy f=>∃r,f D=R (.lst r)/\r.length<WG/\N a (bW f D (.lst (r++[y])))else N a h)
section
variable{Y:WX}{w:Xm}{A:W8}{s:Ws}
def HR{i p f:XB}{g:br XB}{b:Zt}{l:Pos}{q j:Wi}{env:Env}{R:adE->Ws->Prop}{XE:Wi->Ws->Prop}(F:∀x s1,XE x s1->notedBy (model Y w) A env (λe s2=>R (.error e) s2) x s1)(I:Nat->Ws->Prop)
  (turn:∀n s,I n s->wpAny (model Y w) A (pyNext q) (λr s1=>match r with
   |none=>R (.ok .next) s1
   |some v=>wpAny (model Y w) A (letOwnedTupleGo p q v) (λ_ s2=>wpAny (model Y w) A (assign p env v) (λ_ s3=>
     wpAny (model Y w) A (forIn g P λc r=>if r=P then do let ok<-isTrue c env (eval c env);pure (ForInStep.yield ok)else pure (ForInStep.yield r)) (λok s4=>
      if ok=P then wpAny (model Y w) A (eval i env) (λx s5=>
       wpAny (model Y w) A (call (.builtin "list.append") [j,x]) (λ_ d=>∃m,m<n/\I m d) (λ_ _=>False) s5) XE s4
      else∃m,m<n/\I m s4) (λ_ _=>False) s3) (λ_ _=>False) s2) (λ_ _=>False) s1) (λ_ _=>False) s)
  (n:Nat) (h:I n s):codeAny (model Y w) A (.compLoop (.ListComp i [#[p,f,g,0]] b l) 0 q j env) R s:=by
 show codeAny_loop W I (λn s G=>?_) n h;show wpAny _ A (Sem.onRaise (compTurn (.ListComp i [#[p,f,g,0]] b l) 0 q j env) (λx=>do noteFrame x env;theTreesLotGoes x)) _ _ s;show wpAny_noted ?_;rw[compTurn_list]
 let o:∀{α:Type} {t:Sem α} {Q C:α->Ws->Prop} {E:Wi->Ws->Prop} {s:Ws},wpAny (model Y w) A t Q (λ_ _=>False) s->(∀a L,Q a L->C a L)->wpAny (model Y w) A t C E s:=
  λu y=>wpAny_mono u y λ_ _ z=>False.elim z
 show Wf (YU (Wf (o (turn n s G) λr s1 u=>?_)));cases r with
 |none=>show Wt u
 |some v=>
  show Wf (o u λ_ s2 y=>Wf (o y λ_ s3 K=>Wf (o K λok s4 B=>?_)));cases ok with
  |false=>show Wt #[W,B]
  |true=>show Wf (Wf (wpAny_mono B (λx s5 J=>Wf (o J λ_ d H=>Wt (Wt #[W,H]))) F))
end
section
variable{X:Cx}{Z:br (Wo×Obj)}{Y:St}{H:Hp}{s:Ws}
def yS
  (h:Q (newEnv scope s.heap.objs.size globals (YC (s.heap.objs.size+1) scope.names closure) qual U .none (R env) builtinsNs) {s with heap:=pushCells (s.heap.push {cls:=.type "dict",data:=.dict #v[]}) scope.names}):
  wpAny f A (newFunctionEnv scope globals closure [] qual U .none (R env)) Q E s:=by
 simp only[newFunctionEnv,aeY,if_true];show Wf (wpAny_alloc ?_);show Wf (wpAny_layCells _ (λe a b=>by cases g:a==Xf.cell<;>simp[g]) _ _ _ _ ?_);rw[show({s with heap:=s.heap.push {cls:=.type "dict",data:=.dict #v[]}}:Ws).heap.objs.size=s.heap.objs.size+1 from dt ..];rw[ady];show Wf (Wt (Wt h))
def pT{P tg q:XB}{F:br XB}{scope:Zt}{pos:Pos}{own:br Str}{h:br (Str×Nat)}{g:TG}{tc:TT}{te:TE}{E:Wi->Ws->Prop}{it:Wo}{k:br Wo}{tn:Nat->Heap->Prop}{J:It}{Fin:Wo->Hp->Prop}
  {RR:Wi->Wo->adE->Ws->Prop} (I:Inv X Z Y H s) (hc:X.calm=Wl) (ZZ:scope.kind=.function) (hnd:(scope.names.map (·.1)).Nodup) (hfr:∀y∈scope.names,y.2=.free->∃c,X.env.cells.lookup y.1=lD c) (hfv:aee X scope h)
  (T:Turn X.prog X.w X.K tg J k it tn) (st:tn 0 s.heap) (L:∀b∈k,sM X Z H b)
  (hg:∀C,PG (dj X s H scope C (gh own h) k) tg g) (ht:∀C,Ii (dj X s H scope C (gh own h) k) F tc) {W:Wo->Wi->Ws->Prop} (he:∀C,PE ((dj X s H scope C (gh own h) k).abj (W C)) P te) (hEE:∀D C x s1,s.heap.objs.size<=C->W C x s1->notedBy (model X.prog X.w) X.A (compEnvC scope (zN X scope C) C X.env) (λe s2=>RR (.ref D) C (.error e) s2) x s1)
  (hR:∀D,H D=Wh->LJ J D (kA own h Y) g tc te H (Fin D))
  (hRR:∀D C V s',Inv X Z Y V s'->Fin D V->(∃m,s'.heap.Ns C m)->s.heap.objs.size<=C->V C=Wh->RR (.ref D) C (.ok .next) s'):
  wpAny (model X.prog X.w) X.A (newList []) (λacc s3=>wpAny (model X.prog X.w) X.A (newFunctionEnv scope X.env.globals (jZ X.env scope.names []) [] X.env.qual Wh .none (lD X.env)) (λaeU s4=>
   codeAny (model X.prog X.w) X.A (.compStart (.ListComp P [#[tg,q,F,0]] scope pos) 0 (.ref it) acc {aeU with scope:=relabel scope X.env}) (RR acc aeU.locals) s4) E s3) E s:=by
 show Xx ?_;generalize hH2:s.heap.push {cls:=.type "list",dict:=Wh,data:=.seq ([]:br Wi).toArray}=h2;let hz:h2.objs.size=s.heap.objs.size+1:=by rw[<-hH2,dt]
 show yS (s:={s with heap:=h2}) ?_;let M:s.heap.objs.size<h2.objs.size:=by rw[hz];show Yy _
 let hC:s.heap.objs.size<=h2.objs.size:=ZO M;generalize hH1:pushCells (h2.push {cls:=.type "dict",data:=.dict #v[]}) scope.names=h1;let kp2:∀b o,h2.get? b=lD o->h1.get? b=lD o:=λb o e=>by rw[<-hH1];show ad7 _ _ b o (cj _ e)
 let kp:∀b o,s.heap.get? b=lD o->h1.get? b=lD o:=λb o e=>kp2 b o (by rw[<-hH2];show cj _ e);let hns:h1.Ns h2.objs.size (λ_=>Wh):=by rw[<-hH1];show(Heap.Ns.new h2 (.type "dict")).keeps (ad7 _ _)
 let hoc:∀x c,(zN X scope h2.objs.size).lookup x=lD c->h2.objs.size<c->∃v,h1.IsCell c v:=λx c e hlt=>by
  let e':(YC (h2.push {cls:=.type "dict",data:=.dict #v[]}).objs.size scope.names (jZ X.env scope.names [])).lookup x=lD c:=by rw[dt];show e
  rcases vi _ _ _ x c e' with⟨_,z⟩|z
  .show#[Wh,by rw[<-hH1];show z]
  .show a7 (ZQ (w6 I z).2 (ZQ M hlt)) (XU _)
 let hd:∃n,h1.get? s.heap.objs.size=lD {cls:=.type "list",data:=.seq #v[] n}:=#[0,kp2 _ _ (by rw[<-hH2];show cN _ rfl)];let G:∀b∈k,b<s.heap.objs.size:=λb f=>by let(o,e,_):=T.obj 0 _ st b f;show cn e
 let hn:H s.heap.objs.size=Wh:=I.XY.fresh (Ww _);let(W,(m0,w0),turn):=hR s.heap.objs.size hn;let O:∀{pl:br (Wo×Obj)} {V:Hp},(∀b∈k,V b=Wh)->(∀p∈pl,p.1∉k)->∀b∈k,sM (dj X s H scope h2.objs.size (gh own h) k) pl V b:=λ{pl V} hn' hpl b f=>by let ok:=Eu (C:=h2.objs.size) (N:=gh own h) I ZZ hnd hfr hC L G;show#[hn' b f,(ok.exf b f).1,ok.aef b f,.inl f,(ok.exf b f).2,λp hp=>by let hp':p∈([]:br (Wo×Obj))++pl:=hp;intro z;show hpl p (by simpa using hp') (by rw[z];show f)]
 let l:∀s4:Ws,s4={s with heap:=h1}->
   codeAny (model X.prog X.w) X.A (.compLoop (.ListComp P [#[tg,q,F,0]] scope pos) 0 (.ref it) (.ref s.heap.objs.size) (compEnvC scope (zN X scope h2.objs.size) h2.objs.size X.env)) (RR (.ref s.heap.objs.size) h2.objs.size) s4:=by
  rintro s4 rfl
  let I0:Inv (dj X s H scope h2.objs.size (gh own h) k) [] (kA own h Y) (bW H s.heap.objs.size (.lst [])) {s with heap:=h1}:=
   Jy I ZZ hnd hfr hfv (Ww _) M hC L G hns hoc kp hd
  let st0:tn 0 h1:=T.keep 0 _ _ st λb _ o e=>kp b o e;let fr0:∀b∈k,(bW H s.heap.objs.size (.lst [])) b=Wh:=λb f=>by rw[aU (WZ (G b f))];show(L b f).1
  show HR (λx s1 z=>hEE _ _ x s1 hC z) (λn s'=>∃i σ' V,Inv (dj X s H scope h2.objs.size (gh own h) k) [] σ' V s'/\tn i s'.heap/\(∀b∈k,V b=Wh)/\W i n σ' V) ?_ m0 #[0,_,_,I0,st0,fr0,w0];rintro n s5 ⟨i,j,H5,I5,st5,fr5,w5⟩;rcases turn i n j H5 w5 with⟨stop,fin⟩|⟨go,N,hN,step⟩
  .show de (T.done (dj X s H scope h2.objs.size (gh own h) k) rfl rfl rfl hc i [] s5 j H5 (λ_ _=>False) I5 (O fr5 (by simp)) st5 stop) λr s6 #[hr,S]=>?_;subst hr;let(mm,hm,_):=S.loc;show hRR _ _ H5 s6 ?_ fin #[mm,hm] hC S.free;show I.aei (ch:=k) S.os S.base S.XY S.bare λb f=>#[(L b f).2.2.2.1,(L b f).2.1,(L b f).2.2.2.2.1,(L b f).2.2.2.2.2]
  .show de (T.item (dj X s H scope h2.objs.size (gh own h) k) rfl rfl rfl hc i [] s5 j H5 (λ_ _=>False) I5 (O fr5 (by simp)) st5 go) λr s6 #[u,hr,h6]=>?_
   subst hr;show de h6 λ_ s7 a=>?_;let(x,H7,I7,r7,y7,w,fr7):=a;let I7':=I7.pinned (fp:=k) (O fr7 (by simp)) (T.obj _ _ w);let t:∀{a:St} {Q:Hp} {A:Ws},Inv (dj X s H scope h2.objs.size (gh own h) k) ([]++uW k s7.heap) a Q A->N a Q->∃m,m<n/\∃i σ' V,Inv (dj X s H scope h2.objs.size (gh own h) k) [] σ' V A/\tn i A.heap/\(∀b∈k,V b=Wh)/\W i m σ' V:=λ{a Q A} I8 n8=>by let(m',hm,w8):=hN a Q n8;show#[m',hm,i+1,a,Q,I8.ab6,T.keep _ _ _ w λb f o e=>(I8.pin (b,o) (XG _ (XG _ (lj f e)))).1,λb f=>?_,w8];let(o,e,d):=T.obj _ _ w b f;show(I8.pin (b,o) (XG _ (XG _ (lj f e)))).2.1
   show de (hg _ _ s7 j H7 x u _ I7' r7 (step x H7 y7)) λ_ A a=>?_;let(a,Q,I8,q8):=a;show de (ht _ _ A a Q _ I8 q8) λok s9 a=>?_;let(H9,I9,q9):=a;cases ok with
   |false=>rw[ax WM]at q9⊢;show t I9 q9
   |true=>rw[av rfl]at q9⊢;show de (he _ _ s9 a H9 _ (I9.abj _) q9) λy s10 a=>?_;let(K,H10,alu,r10,ys,hy,hl,q10):=a;let I10:=alu.aaa;show de (iA _ s10 a H10 (.ref s.heap.objs.size) [K] (.ref s.heap.objs.size) [y] (λ_ H11=>N a H11) I10 rfl (.cons r10 .nil) #[_,ys,K,rfl,rfl,hy,hl,q10]) λ_ s11 a=>?_;let(v11,H11,I11,_,q11):=a;show t I11 q11
 show codeAny_compStart_list (l _ rfl) (T.self _ 0 _ _ _ (T.keep 0 _ _ st λb _ o e=>kp b o e) (l _ rfl))
def u9(own:G Str)(h:G (Str×Nat))(b:TI)(g:TG)(f:TT)(e:TE):TE:=λY H Q=>b Y H λJ a=>∀D,a D=U->LJ J D (kA own h Y) g f e a λi=>Q (.ref D) i
theorem om{a:Zt}(ok:X.Ok)(h:∀y∈a.names,y.2=.free->(X.env.scope.names.lookup y.1=R .cell\/X.env.scope.names.lookup y.1=R .free)):∀y∈a.names,y.2=.free->∃c,X.env.cells.lookup y.1=R c:=
 λy b e=>ok.has y.1 (h y b e)
theorem LR{a b:Zt}(h:(a.names.all λy=> !(y.2==Xf.free)||(b.names.lookup y.1==R Xf.cell)||(b.names.lookup y.1==R Xf.free))=P):
  ∀y∈a.names,y.2=.free->(b.names.lookup y.1=R .cell\/b.names.lookup y.1=R .free):=λy f e=>by
 let q:=YS.mp h y f;rw[e]at q
 simpa using q
def cB{elt d iter:XB}{ifs:G XB}{scope:Zt}{pos:Pos}(own:G Str)(c:G (Str×Nat)){t:TI}{g:TG}{v:TT}{u:TE}(V:X.calm=P)(O:PI X d iter t)
  (S:∀s H C a,PG (dj X s H scope C (gh own c) a) d g) (F:∀s H C a,Ii (dj X s H scope C (gh own c) a) ifs v) (he:∀s H C a,PE (dj X s H scope C (gh own c) a) elt u) (l:aee X scope c)
  (n:(scope.names.all λy=> !(y.2==Xf.free)||(X.env.scope.names.lookup y.1==lD Xf.cell)||(X.env.scope.names.lookup y.1==lD Xf.free))=P)
  (w:scope.kind=.function:=by rfl) (k:(scope.names.map (·.1)).Nodup:=by left)
  (p:∀y∈scope.names,y.2=.local->scope.names.lookup y.1=lD .local:=by left) (L:∀x,foldedSetIterable iter X.env x=pure x:=by intro _;rfl):
  PE X (.ListComp elt [#[d,iter,ifs,0]] scope pos) (u9 own c t g v u):=by
 intro Z s Y H Q I h;let f:=LR n;rw[ano];show abb (use:=U) rfl L (qp (om I.ok f)) w p (de (O Z s Y H _ I h) λxv s1 h1=>de h1 λK s2 h2=>?_);let(it,a,tn,J,H2,e,A,T,i,f2,R):=h2;subst e;show pT A V w k (om I.ok f) l T i f2 (λC=>S _ _ C _) (λC=>F _ _ C _) (W:=λ_ _ _=>False) (λC=>he _ _ C _) (λ_ _ _ _ _ z=>z.elim) (Fin:=λD r=>Q (.ref D) r) R ?_;intro D C r E I' fin hm hC N;let(m,hm):=hm;show#[m,hm,λh' j=>#[.ref D,r,?_,rfl,fin]];let(f0,f1,_,f3,f4,f5):=A.adt hC N;show I'.turned (t':=E.toks) (λb o hb q=>(j.2 b hb).trans q) f0 f1 f3 f4 f5
def rA{elt d iter:XB}{ifs:G XB}{scope:Zt}{pos k py:Pos}{i:Nat}{x:Str}(own:G Str)(j:G (Str×Nat)){S:TI}{g:TG}{tc:TT}{V:TE}(hN:X.N.Nodup)(w:X.N[i]?=lD x)(hx:X.env.scope.names.lookup x=lD .local)
  (hc:X.calm=P) (hi:PI X d iter S)
  (hg:∀s H C c,PG (dj X s H scope C (gh own j) c) d g) (ht:∀s H C c,Ii (dj X s H scope C (gh own j) c) ifs tc) (he:∀s H C c,PE (dj X s H scope C (gh own j) c) elt V) (A:aee X scope j)
  (F:(scope.names.all λy=> !(y.2==Xf.free)||(X.env.scope.names.lookup y.1==lD Xf.cell)||(X.env.scope.names.lookup y.1==lD Xf.free))=P)
  (r:Yc (.ListComp elt [#[d,iter,ifs,0]] scope pos) (lD (.Name x py)) k.line X.env=pure P:=by rfl)
  (ZZ:scope.kind=.function:=by rfl) (u:(scope.names.map (·.1)).Nodup:=by left)
  (K:∀y∈scope.names,y.2=.local->scope.names.lookup y.1=lD .local:=by left) (hs:∀x,foldedSetIterable iter X.env x=pure x:=by intro _;rfl):
  PS X (.Assign [.Name x py] (.ListComp elt [#[d,iter,ifs,0]] scope pos) k) (Lq (u9 own j S g tc V) (xn i)):=by
 intro Z s Y H D I h;let f:=LR F;rw[exec_Assign_Name_used _ _ _ _ r];show Wf (YU (Wf ?_));show wpAny _ _ (do let _<-comprehension (.ListComp elt [#[d,iter,ifs,0]] scope pos) scope X.env _ (newList []) Wu (eval iter X.env) (lD (assign (.Name x py) X.env))) _ _ s;show Wf (de (abb (use:=lD (assign (.Name x py) X.env)) (Q:=λ_ l=>SP X Z D .next l) rfl hs (qp (om I.ok f)) ZZ K
  (de (hi Z s Y H _ I h) λxv s1 h1=>de h1 λitv s2 h2=>?_)) λ_ l q=>Wt (Wt q))
 let(it,c,tn,J,H2,e,I2,T,n,f2,R):=h2;subst e;show pT I2 hc ZZ u (om I.ok f) A T n f2 (λC=>hg _ _ C _) (λC=>ht _ _ C _) (W:=λ_ _ _=>False) (λC=>he _ _ C _) (λ_ _ _ _ _ z=>z.elim) (Fin:=λL O=>D.nx (Y.set i (lD (.ref L))) O) R ?_;intro L C O l I' fin hm hC hn;let(m,hm):=hm;let(f0,f1,f2',f3,f4,f5):=I2.adt hC hn;show wpAny _ _ (assign (.Name x py) X.env (.ref L)) _ _ l;show aic (xk I' hN w (.inl hx) (v:=.ref L) rfl (λp N #[a,sb,ha]=>?_) (.inr hx));let E:C≠a:=by
  rcases ha with z|z
  .rw[z];show f1
  .show λq=>f4 x a z q.symm
 show#[m,hm.sameBut sb E,λh' t=>#[_,O,?_,fin]];show N.turned (t':=p.toks) (λb o hb q=>(t.2 b hb).trans q) f0 f1 f3 f4 f5
end
def Bp(P:WX)(w:Xm)(K:Ld)(c:Str->I B)(base:Heap)(k:Nat)(x:Str)(b:G Str)(sp:Sp):Prop:=
 ∃(f:M) (a:XF),FnOk P w K c base ef k f a b sp/\Binds K a b []/\Yh K (.ref f)=Wl/\c x=R (.ref f)
def fR(C:Bp X.prog X.w X.K X.mg X.base k x u sp)(l:YL j X.A)(c:PA X (e::r) t)(g:k<=j:=by decide)(n:Gl X x:=by rfl)
  (h:(x==("__debug__":Str))=Wu:=by decide) (o:W5 (e::r) X.env=(Wu,eval e X.env)::W5 r X.env:=by rfl) (a:(backTo pos (W5 r X.env)).any (·.1)=Wu:=by rfl):
  PE X (.Call (.Name x p) (e::r) [] pos) (mo sp [] E0 t):=by
 let(f,q,F,b,i,m):=C;show Eo F (l.mono g) n m i b .nil Bv c h o a
section
variable{Z:St}{H:Hp}{Q:VK}{D:Ends}
theorem Tj(h:t {D with nx:=u D} Z H):NT t u D Z H:=h
theorem Q7(h:a Z H λx H1=>g x Z H1 D.nx):Lq a g D Z H:=h
theorem Na{Q:St->Hp->Prop}(h:Q (Z.set i (R v)) H):xn i v Z H Q:=h
theorem Vo(h:Q v H):tC v Z H Q:=h
theorem PK(h:a Z H λ_ H1=>D.nx Z H1):FO a D Z H:=h
end
def Sg{α:Type}{xs:G α}{i:Int}{v:α}(a:0<=i)(h:xs[i.toNat]?=R v):m9 xs i=R v:=by let q:=GV h;rwa [abZ a]at q
def Yo.tup{K:Ld}(e:Yo H H')(h:SqT K H a xs):SqT K H' a xs:=by
 rcases h with(h|⟨o,h⟩)|h
 .show .inl (.inl (e _ _ h))
 .show .inl (.inr #[o,e _ _ h])
 .show .inr h
theorem cU(h:H p=U)(o:HO):Yo H (bW H p o):=λb u q=>by rw[aU (cM q h)];show q
def Bh:XS "max"=R (.builtin "max"):=by left
def rp:XS "isinstance"=R (.builtin "isinstance"):=by left
def jg:XS "len"=R (.builtin "len"):=by left
def Ay:XS "sorted"=R (.builtin "sorted"):=by left
def GJ:XS "all"=R (.builtin "all"):=by left
def Di:XS "list"=R (.type "list"):=by left
def gY:XS "tuple"=R (.type "tuple"):=by left
section
variable{X:Cx}
def Cl:Zf X (.builtin "sorted") (λxs H Q=>∃(p:M) (ns:br Int),xs=[.ref p]/\SqL X.K H p (ns.map V.int)/\ns.length<64/\∀(l:M) (a:br Int),H l=U->a.Perm ns->a.Pairwise (·<=·)->Q (.ref l) (bW H l (.lst (a.map V.int)))):=by
 intro i s C H xs E Q I r h;let(p,ns,rfl,t,y,q):=h;let(u,rfl,m):=mn r;ext m;let(B,J,pl,G):=I.list t;let v:=J.length;rw[Wg]at v;show sorted_ints pl.isList (lH J) () λf a K j n=>?_;let(e,w):=sortedAll_at s.heap B f;let g:a.length=ns.length:=j.length_eq;let A:f.toList.length=a.length:=K.length;show#[.ref (s.heap.objs.size+1),_,I.laid (t':=s.toks) (o:=.lst (a.map V.int)) (λb F z=>sortedAll_old z) (ac6 _) ?_,W,q _ a (I.XY.fresh (ac6 _)) j n];show#[?_,f.toList,e,kY K,w];rw[Wg,g];let:(64:Nat)<=WG:=by decide
 ext
end
end L2
namespace L3
open PySem L2
abbrev D:=Wn
inductive PV where
 |fz (d:D)
 |ow (ds:G D)
 |pl (i:Nat)
abbrev bC:=G (I PV)
structure Xc where
 cls:Str
 fs:G (Str×D)
inductive Res(α:Type) where
 |ok (a:α)
 |er (x:Xc)
 |bad
namespace Res
def bind(r:Res α)(f:α->Res β):Res β:=match r with
 |.ok a=>f a
 |.er x=>.er x
 |.bad=>.bad
def Xu:I α->Res α
 |some a=>.ok a
 |none=>.bad
theorem bind_ok(a:α)(f:α->Res β):(Res.ok a).bind f=f a:=W
end Res
abbrev en:=@Res.bind_ok
abbrev cS:=M->Prop
def dX(O:cS)(p:M):cS:=λb=>O b\/b=p
def Me(O:cS)(p:M):cS:=λb=>O b/\b≠p
def noO:cS:=λ_=>False
def Ev(O:cS)(H:Hp)(a:cS)(c:Hp):Prop:=∀b o,H b=R o->¬O b->c b=R o/\¬a b
theorem Ev.refl:Ev O H O H:=λ_ _ h n=>#[h,n]
theorem Ev.trans(a:Ev O H O1 H1)(b:Ev O1 H1 O2 H2):Ev O H O2 H2:=λp o h n=>let#[f,e]:=a p o h n;b p o f e
theorem Ev.grow(s:Yo H H'):Ev O H O H':=λb o h n=>#[s b o h,n]
theorem Ev.add(s:Yo H H')(a:H p=U):Ev O H (dX O p) H':=λb o h n=>#[s b o h,λz=>z.elim n λe=>by subst e;rw[h]at a;ext a]
theorem Ev.sub(h:∀b,O' b->O b):Ev O H O' H:=λb o e n=>#[e,λz=>n (h b z)]
theorem Ev.mut(a:O p)(u:HO):Ev O H O (bW H p u):=λb o h n=>#[by rw[aU (λe=>n (by rw[e];show a))];show h,n]
def aan(K:Ld)(H:Hp)(a:M)(xs:G V):Prop:=Rd H a (.lst xs)\/∃(b:G B) (n:Nat),K.lookup a=R {cls:=.type "list",data:=.seq b.toArray n}/\xs.length<=WG/\Vals xs b
def aan.sq(h:aan K H a xs):SqL K H a xs:=by
 rcases h with h|⟨g,n,f,e,b⟩
 .show .inl h
 .show .inr #[_,g.toArray,n,f,W,W,W,by rw[WA,<-b.length];show e,by simpa using b]
theorem aan.of(h:H a=R (.lst xs)):aan K H a xs:=.inl (.inl h)
def aan.same(e:Yo H H')(h:aan K H a xs):aan K H' a xs:=by
 rcases h with(h|⟨o,h⟩)|h
 .show .inl (.inl (e _ _ h))
 .show .inl (.inr #[o,e _ _ h])
 .show .inr h
theorem oo(H:Hp):Yo (λ_=>U) H:=λ_ _ h=>by ext h
def acn(O:cS)(K:Ld)(H:Hp)(a:M)(xs:G V):Prop:=aan K H a xs/\(O a->aan K (λ_=>U) a xs)
def abg(O:cS)(K:Ld)(H:Hp)(a:M)(xs:G V):Prop:=SqT K H a xs/\(O a->SqT K (λ_=>U) a xs)
section
variable{O Z:cS}{K:Ld}{H Y:Hp}{a:Wo}{X:br V}
def acn.ev(h:acn O K H a X)(e:Ev O H Z Y):acn Z K Y a X:=by
 let(h,k):=h;by_cases z:O a
 .show#[aan.same (oo Y) (k z),λ_=>k z]
 .rcases h with(h|⟨o,h⟩)|h
  .let(f,b):=e a _ h z;show#[.inl (.inl f),λy=>a7 y b]
  .let(f,b):=e a _ h z;show#[.inl (.inr #[o,f]),λy=>a7 y b]
  .show#[.inr h,λ_=>.inr h]
def abg.ev(h:abg O K H a X)(e:Ev O H Z Y):abg Z K Y a X:=by
 let(h,k):=h;by_cases z:O a
 .show#[(oo Y).tup (k z),λ_=>k z]
 .rcases h with(h|⟨o,h⟩)|h
  .let(f,b):=e a _ h z;show#[.inl (.inl f),λy=>a7 y b]
  .let(f,b):=e a _ h z;show#[.inl (.inr #[o,f]),λy=>a7 y b]
  .show#[.inr h,λ_=>.inr h]
end
mutual
inductive DV(O:cS)(K:Ld)(H:Hp):V->D->Prop
 |YM:DV O K H .YM .none
 |bl (b:Bool):DV O K H (.bl b) (.bool b)
 |int (i:Int):DV O K H (.int i) (.int i)
 |str (x:Str):DV O K H (.str x) (.str x)
 |tup {a:Wo} {xs:br V} {ds:br D}:abg O K H a xs->Yb O K H xs ds->DV O K H (.ref a) (.tuple ds)
 |lst {a:Wo} {xs:br V} {ds:br D}:acn O K H a xs->Yb O K H xs ds->DV O K H (.ref a) (.list ds)
inductive Yb(O:cS)(K:Ld)(H:Hp):br V->br D->Prop
 |nil:Yb O K H [] []
 |cons {v:V} {vs:br V} {d:D} {ds:br D}:DV O K H v d->Yb O K H vs ds->Yb O K H (v::vs) (d::ds)
end
section
variable{O Z:cS}{K:Ld}{H H':Hp}
mutual
theorem DV.ev(e:Ev O H Z H'):∀{v:V} {d:D},DV O K H v d->DV Z K H' v d
 |_,_,.YM=>.YM
 |_,_,.bl b=>.bl b
 |_,_,.int i=>.int i
 |_,_,.str x=>.str x
 |_,_,.tup h hs=>.tup (h.ev e) (Yb.ev e hs)
 |_,_,.lst h hs=>.lst (h.ev e) (Yb.ev e hs)
theorem Yb.ev(e:Ev O H Z H'):∀{vs:br V} {ds:br D},Yb O K H vs ds->Yb Z K H' vs ds
 |_,_,.nil=>.nil
 |_,_,.cons h hs=>.cons (DV.ev e h) (Yb.ev e hs)
end
theorem Yb.length:∀{a:G V} {ds:G D},Yb O K H a ds->a.length=ds.length
 |_,_,.nil=>rfl
 |_,_,.cons _ t=>by rw[WJ,WJ,t.length]
theorem Yb.get:∀{c:G V} {ds:G D} {i:Nat} {d:D},Yb O K H c ds->ds[i]?=R d->∃v,c[i]?=R v/\DV O K H v d
 |_,_,_,_,.nil,e=>by simp at e
 |_,_,0,_,.cons h _,e=>by simp at e;subst e;show#[_,W,h]
 |_,_,i+1,d,.cons _ t,e=>by let(v,b,a):=Yb.get t (by simpa using e);show#[v,by simpa using b,a]
theorem Yb.agI:∀{c:G V} {ds:G D} {i:Nat} {v:V},Yb O K H c ds->c[i]?=R v->∃d,ds[i]?=R d/\DV O K H v d
 |_,_,_,_,.nil,e=>by simp at e
 |_,_,0,_,.cons h _,e=>by simp at e;subst e;show#[_,W,h]
 |_,_,i+1,v,.cons _ t,e=>by let(d,b,a):=Yb.agI t (by simpa using e);show#[d,by simpa using b,a]
theorem Yb.append:∀{a ws:G V} {ds b:G D},Yb O K H a ds->Yb O K H ws b->Yb O K H (a++ws) (ds++b)
 |_,_,_,_,.nil,h=>h
 |_,_,_,_,.cons h t,g=>.cons h (Yb.append t g)
theorem Yb.take:∀{a:G V} {ds:G D} (n:Nat),Yb O K H a ds->Yb O K H (a.take n) (ds.take n)
 |_,_,0,_=>.nil
 |_,_,_+1,.nil=>.nil
 |_,_,n+1,.cons h t=>.cons h (Yb.take n t)
theorem Yb.drop:∀{a:G V} {ds:G D} (n:Nat),Yb O K H a ds->Yb O K H (a.drop n) (ds.drop n)
 |_,_,0,h=>h
 |_,_,_+1,.nil=>.nil
 |_,_,n+1,.cons _ t=>Yb.drop n t
theorem Yb.flat(h:Yb O K H vs ds):∀n:Nat,Yb O K H (Wz n vs).flatten (Wz n ds).flatten
 |0=>.nil
 |n+1=>by rw[XJ,XJ,YI,YI];show h.append (Yb.flat h n)
mutual
theorem DV.plain:∀{v:V} {d:D},DV O K H v d->L2.DV K H v d
 |_,_,.YM=>.YM
 |_,_,.bl b=>.bl b
 |_,_,.int i=>.int i
 |_,_,.str x=>.str x
 |_,_,.tup h hs=>.tup h.1 (Yb.plain hs)
 |_,_,.lst h hs=>.lst h.1.sq (Yb.plain hs)
theorem Yb.plain:∀{vs:br V} {ds:br D},Yb O K H vs ds->L2.Yb K H vs ds
 |_,_,.nil=>.nil
 |_,_,.cons h hs=>.cons (DV.plain h) (Yb.plain hs)
end
end
def DX(O:cS)(K:Ld)(H:Hp)(v:V):D->Prop
 |.list ds=>∃a xs,v=.ref a/\aan K H a xs/\Yb O K H xs ds
 |d=>DV O K H v d
def DV.x(h:DV O K H v d):DX O K H v d:=by
 cases h with
 |lst h a=>show#[_,_,W,h.1,a]
 |YM=>show .YM
 |bl b=>show .bl b
 |int i=>show .int i
 |str x=>show .str x
 |tup h a=>show .tup h a
def DX.plain(h:DX O K H v d):L2.DV K H v d:=by
 cases d with
 |list ds=>let(a,xs,rfl,f,e):=h;show .lst f.sq e.plain
 |none=>show DV.plain h
 |bool b=>show DV.plain h
 |int i=>show DV.plain h
 |str x=>show DV.plain h
 |tuple ds=>show DV.plain h
 |dict g=>show DV.plain h
def adM(K:Ld)(b:Hp)(O:cS)(H:Hp)(v:V):PV->Prop
 |.fz d=>DV O K H v d
 |.ow ds=>∃a e,v=.ref a/\O a/\b a=U/\H a=R (.lst e)/\Yb O K H e ds
 |.pl _=>False
structure Rl(K:Ld)(B:cS)(H0:Hp)(O:cS)(σ:St)(H:Hp)(ρ:bC):Prop where
 same:Yo H0 H
 bo:∀a,B a->O a
 bd:∀a,B a->H0 a≠U
 od:∀a,H a=U->¬O a
 len:σ.length=ρ.length
 slot:∀(i:Nat) (x:PV),ρ[i]?=R (R x)->∃v,σ[i]?=R (R v)/\adM K H0 O H v x
 one:∀(i j:Nat) (ds es:G D) (v:V),ρ[i]?=R (R (.ow ds))->ρ[j]?=R (R (.ow es))->σ[i]?=R (R v)->σ[j]?=R (R v)->i=j
def abi(K:Ld)(f:Hp)(O:cS)(b:St)(H:Hp)(c:bC)(v:V):PV->Prop
 |.fz d=>DV O K H v d
 |.ow ds=>∃a g,v=.ref a/\O a/\f a=U/\H a=R (.lst g)/\Yb O K H g ds/\∀(i:Nat) (e:G D),c[i]?=R (R (.ow e))->b[i]?≠R (R (.ref a))
 |.pl i=>b[i]?=R (R v)
def nW:PV->Prop
 |.ow _=>False
 |_=>True
def dR:PV->PV
 |.ow ds=>.fz (.list ds)
 |p=>p
section
variable{K:Ld}{B O X:cS}{Z H H':Hp}{Y:St}{ρ ρ':bC}{v:V}
def adM.grow(s:Yo H H')(h:adM K Z O H v x):adM K Z O H' v x:=by
 cases x with
 |fz d=>show DV.ev (Ev.grow s) h
 |ow ds=>let(a,l,e,j,g,f,b):=h;show#[a,l,e,j,g,s _ _ f,b.ev (Ev.grow s)]
 |pl i=>show h
theorem Rl.grow(R:Rl K B Z O Y H ρ)(s:Yo H H'):Rl K B Z O Y H' ρ:=
 #[R.same.trans s,R.bo,R.bd,λa h=>R.od a (s.free h),R.len,λi x h=>let#[v,e,b]:=R.slot i x h;#[v,e,b.grow s],R.one]
theorem Rl.ahd(R:Rl K B Z O Y H ρ)(h:H p=U):Z p=U:=R.same.free h
def Rl.add(R:Rl K B Z O Y H ρ)(s:Yo H H')(f:H p=U)(g:H' p≠U):Rl K B Z (dX O p) Y H' ρ:=by
 show#[R.same.trans s,λa h=>.inl (R.bo a h),R.bd,λa h z=>z.elim (R.od a (s.free h)) λe=>g (by rw[<-e];show h),R.len,λi x h=>?_,R.one];let(v,j,b):=R.slot i x h;show#[v,j,?_];cases x with
 |fz d=>show DV.ev (Ev.add s f) b
 |ow ds=>let(a,q,e,o,n,m,l):=b;show#[a,q,e,.inl o,n,s _ _ m,l.ev (Ev.add s f)]
 |pl i=>show b
theorem Rl.agQ(R:Rl K B Z O Y H ρ)(h:Z a=U):¬B a:=λz=>R.bd a z h
def Rl.sub(R:Rl K B Z O Y H ρ){a:M}(m:Z a=U)(h:∀(i:Nat) (c:G D),ρ[i]?=lD (lD (.ow c))->Y[i]?≠lD (lD (.ref a))):Rl K B Z (Me O a) Y H ρ:=by
 show#[R.same,λb f=>#[R.bo b f,λe=>R.agQ m (e▸f)],R.bd,λb f z=>R.od b f z.1,R.len,λi x j=>?_,R.one];let(v,l,g):=R.slot i x j;show#[v,l,?_];cases x with
 |fz d=>show DV.ev (Ev.sub λb z=>z.1) g
 |ow ds=>let(b,r,e,q,p,o,n):=g;subst e;show#[b,r,W,#[q,λe=>h i ds j (by rw[l,e])],p,o,n.ev (Ev.sub λb z=>z.1)]
 |pl i=>show g
theorem zH(h:H a=R (.lst b))(n:¬O a)(hd:Yb O K H b ds):DV O K H (.ref a) (.list ds):=.lst #[aan.of h,λz=>a7 z n] hd
def jD{pv:PV}(R:Rl K B Z O Y H ρ)(h:abi K Z O Y H ρ v pv):∃X,Ev O H X H/\Rl K B Z X Y H ρ/\abi K Z X Y H ρ v (dR pv):=by
 cases pv with
 |fz d=>show#[O,.refl,R,h]
 |pl i=>show#[O,.refl,R,h]
 |ow ds=>let(a,m,rfl,l,j,g,f,e):=h;show#[Me O a,Ev.sub λb z=>z.1,R.sub j e,zH g (λz=>z.2 W) (f.ev (Ev.sub λb z=>z.1))]
def qS(pv:PV):nW (dR pv):=by ext pv<;>trivial
def abi.keep{pv:PV}(a:nW pv)(e:Ev O H X H')(h:abi K Z O Y H ρ v pv):abi K Z X Y H' ρ' v pv:=by
 cases pv with
 |fz d=>show DV.ev e h
 |pl i=>show h
 |ow ds=>show a.elim
def VJ:I (I PV)->I D
 |some (R (.fz d))=>R d
 |some (R (.ow ds))=>R (.list ds)
 |_=>U
def tD(ρ:bC):PV->I D
 |.fz d=>R d
 |.ow ds=>R (.list ds)
 |.pl i=>VJ ρ[i]?
def kr{pv:PV}(R:Rl K B Z O Y H ρ)(h:abi K Z O Y H ρ v pv)(e:tD ρ pv=lD d):DX O K H v d:=by
 cases pv with
 |fz t=>ext e;show DV.x h
 |ow ds=>ext e;let(a,E,rfl,C,A,p,n,z):=h;show#[a,E,W,aan.of p,n]
 |pl i=>
  let b:VJ ρ[i]?=lD d:=e;let r:=h;cases q:ρ[i]? with
  |none=>rw[q]at b;ext b
  |some o=>
   cases o with
   |none=>rw[q]at b;ext b
   |some x=>
    let(u,g,f):=R.slot i x q;rw[r]at g;ext g;rw[q]at b;cases x with
    |fz t=>ext b;show DV.x f
    |ow ds=>ext b;let(a,E,rfl,y,w,m,l):=f;show#[a,E,W,aan.of m,l]
    |pl j=>show f.elim
def Vh(ρ:bC)(i:Nat):I (I PV)->I (D×bC)
 |some (R (.fz d))=>R (d,ρ)
 |some (R (.ow ds))=>R (.list ds,ρ.set i (R (.fz (.list ds))))
 |_=>U
def B0(ρ:bC):PV->I (D×bC)
 |.fz d=>R (d,ρ)
 |.ow ds=>R (.list ds,ρ)
 |.pl i=>Vh ρ i ρ[i]?
def dc{l:G α}(h:(l.set i x)[j]?=R y):(j=i/\y=x)\/(j≠i/\l[j]?=R y):=by
 rw[XW]at h;by_cases e:i=j
 .rw[av e]at h
  split at h
  .ext h;show .inl #[e.symm,W]
  .ext h
 .rw[ax e]at h;show .inr #[λz=>e z.symm,h]
def xb{pv:PV}(R:Rl K B Z O Y H ρ)(h:abi K Z O Y H ρ v pv)(e:B0 ρ pv=lD (d,ρ')):∃X,Ev O H X H/\Rl K B Z X Y H ρ'/\DV X K H v d:=by
 cases pv with
 |fz d'=>ext e;show#[O,.refl,R,h]
 |ow ds=>ext e;let(a,vs,rfl,h1,h2,h3,h4,U):=h;show#[Me O a,Ev.sub λb z=>z.1,R.sub h2 U,zH h3 (λz=>z.2 W) (h4.ev (Ev.sub λb z=>z.1))]
 |pl i=>
  let f:Vh ρ i ρ[i]?=lD (d,ρ'):=e;let A:=h;cases q:ρ[i]? with
  |none=>rw[q]at f;ext f
  |some o=>
   cases o with
   |none=>rw[q]at f;ext f
   |some x=>
    let(u,F,C):=R.slot i x q;rw[A]at F;ext F;rw[q]at f;cases x with
    |fz d'=>ext f;show#[O,.refl,R,C]
    |pl j=>show C.elim
    |ow ds=>
     ext f;let(a,vs,rfl,k1,T,S,Q):=C;let n:Ev O H (Me O a) H:=Ev.sub λb z=>z.1;let G:=zH S (λz=>z.2 W) (Q.ev n);show#[Me O a,n,#[R.same,λb m=>#[R.bo b m,λe=>R.agQ T (e▸m)],R.bd,λb m z=>R.od b m z.1,by rw[XQ];show R.len,λj x l=>?_,λj k xs I w y t=>?_],G]
     .rcases dc l with⟨rfl,g⟩|⟨r,l⟩
      .ext g;show#[_,A,G]
      .let(u,E,p):=R.slot j x l
       show#[u,E,?_];cases x with
       |fz d=>show DV.ev n p
       |pl i=>show p
       |ow xs=>let(b,J,rfl,P,N,M,L):=p;show#[b,J,W,#[P,λz=>r (R.one j i xs ds (.ref a) l q (by rw[E,z]) A)],N,M,L.ev n]
     .rcases dc y with⟨rfl,g⟩|⟨_,y⟩
      .ext g
      .rcases dc t with⟨rfl,g⟩|⟨_,t⟩
       .ext g
       .show R.one j k xs I w y t
end
def XOk(K:Ld)(B:cS)(H:Hp)(c:Wi)(b:I M)(x:Xc):Prop:=
 (∃a,c=.ref a/\WW K WN x.cls=R (R (.ref a)))/\∃fs,(∀p,b=R p->H p=R (.xd fs))/\∀f d,x.fs.lookup f=R d->b≠U/\∃v,fs.lookup f=R v/\DV B K H v d
def XE(K:Ld)(B:cS)(a:Hp)(E:XK)(x:Xc):Prop:=∀c b H',Yo a H'->XOk K B H' c b x->E c b H'
def WR(K:Ld)(E:XK)(B:cS)(b:Hp)(P:α->Prop):Res α->Prop
 |.ok a=>P a
 |.er x=>XE K B b E x
 |.bad=>False
section
variable{K:Ld}{E:XK}{B:cS}{Z:Hp}
def WR.bind(h:WR K E B Z b (r.bind k)):WR K E B Z (λa=>WR K E B Z b (k a)) r:=by ext r<;>show h
def WR.Xu(h:WR K E B Z b ((Res.Xu o).bind k)):∃a,o=R a/\WR K E B Z b (k a):=by
 cases o with
 |none=>show h.elim
 |some a=>show#[a,W,h]
def WR.imp(h:WR K E B Z b r)(g:∀a,b a->P' a):WR K E B Z P' r:=by
 cases r with
 |ok a=>show g a h
 |er x=>show h
 |bad=>show h
end
abbrev FE:=bC->Res (PV×bC)
abbrev FT:=bC->Res (Bool×bC)
abbrev FA:=bC->Res (G PV×bC)
def EO(K:Ld)(E:XK)(t:TE)(f:FE):Prop:=
 ∀(B:cS) (b:Hp) (O:cS) (a:St) (H:Hp) (g:bC) (Q:VK),Rl K B b O a H g->WR K E B b (λr=>∀e v H',Ev O H e H'->Rl K B b e a H' r.2->abi K b e a H' r.2 v r.1->Q v H') (f g)->t a H Q
def TTO(K:Ld)(E:XK)(t:TT)(f:FT):Prop:=
 ∀(B:cS) (b:Hp) (O:cS) (a:St) (H:Hp) (e:bC) (Q:Bool->Hp->Prop),Rl K B b O a H e->WR K E B b (λr=>∀g H',Ev O H g H'->Rl K B b g a H' r.2->Q r.1 H') (f e)->t a H Q
def AO(K:Ld)(E:XK)(t:TA)(f:FA):Prop:=
 ∀(B:cS) (b:Hp) (O:cS) (a:St) (H:Hp) (g:bC) (Q:G V->Hp->Prop),Rl K B b O a H g->WR K E B b (λr=>∀e h H',Ev O H e H'->Rl K B b e a H' r.2->Paired (λv pv=>abi K b e a H' r.2 v pv/\nW pv) h r.1->Q h H') (f g)->t a H Q
inductive RV where
 |fz (d:D)
 |ow (ds:G D)
def RV.pv:RV->PV
 |.fz d=>.fz d
 |.ow ds=>.ow ds
def Fin(O:cS)(K:Ld)(H:Hp)(Q:VK):RV->Prop
 |.fz d=>∀v H',Yo H H'->DV O K H' v d->Q v H'
 |.ow ds=>∀p a H',Yo H H'->H p=U->H' p=R (.lst a)->Yb (dX O p) K H' a ds->Q (.ref p) H'
def qW(O:cS)(H:Hp):Prop:=∀a,H a=U->¬O a
section
variable{K:Ld}{E:XK}{B O X:cS}{Y H H':Hp}{Z:St}{ρ ρ':bC}{v:V}
def mZ(R:Rl K B Y O Z H ρ)(h:∀X v H',Ev O H X H'->Rl K B Y X Z H' ρ->abi K Y X Z H' ρ v rv.pv->Q v H'):Fin O K H Q rv:=by
 cases rv with
 |fz d=>show λv H' s f=>h O v H' (Ev.grow s) (R.grow s) f
 |ow ds=>intro p t H' s b e f;show h (dX O p) (.ref p) H' (Ev.add s b) (R.add s b (by rw[e];simp)) #[p,t,W,.inr W,R.ahd b,e,f,λi r w z=>?_];let(u,g,a,m,l,q,o,j,n):=R.slot i _ w;rw[z]at g;ext g;ext l;rw[b]at j;ext j
theorem Fin.new(hd:Yb O K H vs ds)(h:Fin O K H Q (.ow ds)):∀p,H p=U->Q (.ref p) (bW H p (.lst vs)):=λp a=>
 h p vs _ (cU a _) a aY (hd.ev (Ev.add (cU a _) a))
theorem Fin.afn(hd:Yb O K H vs ds)(b:qW O H)(h:Fin O K H Q (.fz (.tuple ds))):∀p,H p=U->Q (.ref p) (bW H p (.tup vs)):=λp a=>
 h (.ref p) _ (cU a _) (.tup #[SqT.of aY,λz=>a7 z (b p a)] (hd.ev (Ev.grow (cU a _))))
theorem Fin.at(h:Fin O K H Q (.fz d))(a:DV O K H v d):Q v H:=h v H (Yo.refl H) a
def FQ(ρ:bC)(i:Nat):I (I PV)->Res (PV×bC)
 |some (R (.fz d))=>.ok (.fz d,ρ)
 |some (R (.ow _))=>.ok (.pl i,ρ)
 |_=>.bad
def aa(i:Nat):FE:=λρ=>FQ ρ i ρ[i]?
def ar:EO K E (vG i) (aa i):=by
 intro B Y O Z H ρ Q R w;unfold aa at w;cases q:ρ[i]? with
 |none=>rw[q]at w;show w.elim
 |some o=>
  cases o with
  |none=>rw[q]at w;show w.elim
  |some x=>
   rw[q]at w;let(v,a,b):=R.slot i x q;cases x with
   |fz d=>show#[v,a,w O v H .refl R b]
   |ow ds=>show#[v,a,w O v H .refl R a]
   |pl j=>show w.elim
def pC(d:D):FE:=λρ=>.ok (.fz d,ρ)
theorem DD(h:∀O H,DV O K H v d):EO K E (tC v) (pC d):=λB Y O Z H ρ Q R w=>w O v H .refl R (h O H)
theorem bq:EO K E (tC (.int i)) (pC (.int i)):=DD λ_ _=>.int i
theorem Jt:EO K E (tC (.bl b)) (pC (.bool b)):=DD λ_ _=>.bl b
theorem rM:EO K E (tC (.str x)) (pC (.str x)):=DD λ_ _=>.str x
theorem lh:EO K E (tC .YM) (pC .none):=DD λ_ _=>.YM
def qv(K:Ld)(r:R2)(f:D->D->I RV):Prop:=∀(O:cS) (H:Hp) (x y:V) (e a:D) (b:RV) (Q:VK),qW O H->DX O K H x e->DX O K H y a->f e a=R b->Fin O K H Q b->r x y H Q
def aW(f:D->D->I RV)(c fb:FE):FE:=λρ=>(c ρ).bind λa=>(fb a.2).bind λb=>(Res.Xu (tD b.2 (dR a.1))).bind λh=>(Res.Xu (tD b.2 b.1)).bind λe=>(Res.Xu (f h e)).bind λg=>.ok (g.pv,b.2)
def bH(t:qv K r f)(c:EO K E ta fa)(u:EO K E tb fb):EO K E (To r ta tb) (aW f fa fb):=by intro B Y O Z H ρ Q R w;show c B Y O Z H ρ _ R (w.bind.imp λa j T x S C I q=>?_);let(M,A,R2,p2):=jD I q;show u B Y M Z S a.2 _ R2 (j.bind.imp λb e L y P i g p=>?_);let h:=p2.keep (qS a.1) i (ρ':=b.2);let(dx,m,e):=e.Xu;let(F,l,e):=e.Xu;let(rv,n,e):=e.Xu;show t L P x y dx F rv Q g.od (kr g h m) (kr g p l) n (mZ g λJ v N z G o=>?_);show e J v N (C.trans (A.trans (i.trans z))) G o
def VQ(K:Ld)(r:V->Hp->VK->Prop)(f:D->I RV):Prop:=∀(O:cS) (H:Hp) (x:V) (b:D) (a:RV) (Q:VK),qW O H->DX O K H x b->f b=R a->Fin O K H Q a->r x H Q
def Cp(f:D->I RV)(c:FE):FE:=λρ=>(c ρ).bind λa=>(Res.Xu (tD a.2 a.1)).bind λe=>(Res.Xu (f e)).bind λb=>.ok (b.pv,a.2)
def FD(l:VQ K r f)(c:EO K E y A):EO K E (Vz r y) (Cp f A):=by intro B Y O Z H ρ Q R w;show c B Y O Z H ρ _ R (w.bind.imp λa b q x u n e j=>?_);let(C,g,b):=b.Xu;let(z,h,b):=b.Xu;show l q u x C z Q e.od (kr e j g) h (mZ e λp v t m o i=>b p v t (n.trans m) o i)
def Vt:D->I Bool
 |.bool b=>R b
 |_=>U
def Rt(h:DX O K H x d)(e:Vt d=R b):x=.bl b:=by ext d<;>ext e;ext h;rfl
def a9(c:FE):bC->Res (Bool×bC):=λρ=>(c ρ).bind λa=>(Res.Xu (tD a.2 a.1)).bind λd=>(Res.Xu (Vt d)).bind λb=>.ok (b,a.2)
def g7(c:EO K E n o):TTO K E (Gx n) (a9 o):=by intro B Y O Z H ρ Q R w;show c B Y O Z H ρ _ R (w.bind.imp λa e l x m j f i=>?_);let(d,g,e):=e.Xu;let(b,h,e):=e.Xu;show#[b,Rt (kr f i g) h,e l m j f]
theorem Fq(b:EO K E a e):TTO K E (tB a) (a9 e):=g7 b
def CO(b fb:FT):FT:=λρ=>(b ρ).bind λa=>if a.1=P then fb a.2 else .ok (Wu,a.2)
def LM(b fb:FT):FT:=λρ=>(b ρ).bind λa=>if a.1=P then .ok (P,a.2)else fb a.2
def wV(b:FT):FT:=λρ=>(b ρ).bind λa=>.ok (!a.1,a.2)
theorem TTO.next(h:TTO K E t f)(R:Rl K B Y O1 Z H1 ρ)(a:Ev O H O1 H1)(w:WR K E B Y (λr=>∀X H',Ev O H X H'->Rl K B Y X Z H' r.2->Q r.1 H') (f ρ)):t Z H1 Q:=
 h B Y O1 Z H1 ρ Q R (w.imp λr q X H' b e=>q X H' (a.trans b) e)
theorem EO.next(h:EO K E t f)(R:Rl K B Y O1 Z H1 ρ)(b:Ev O H O1 H1)(w:WR K E B Y (λr=>∀X v H',Ev O H X H'->Rl K B Y X Z H' r.2->abi K Y X Z H' r.2 v r.1->Q v H') (f ρ)):t Z H1 Q:=
 h B Y O1 Z H1 ρ Q R (w.imp λr q X v H' e g a=>q X v H' (b.trans e) g a)
def Pm(m:TTO K E t f)(l:TTO K E u g):TTO K E (R9 t u) (CO f g):=by
 intro B Y O Z H ρ Q R w;show m B Y O Z H ρ _ R (w.bind.imp λa e n o h i=>?_);let(b,j):=a;cases b with
 |true=>show l.next i h e
 |false=>show e n o h i
def Da(m:TTO K E t f)(l:TTO K E u g):TTO K E (Vi t u) (LM f g):=by
 intro B Y O Z H ρ Q R w;show m B Y O Z H ρ _ R (w.bind.imp λa e n o h i=>?_);let(b,j):=a;cases b with
 |true=>show e n o h i
 |false=>show l.next i h e
def ug(e:TTO K E t f):TTO K E (Sk t) (wV f):=by intro B Y O Z H ρ Q R w;show e B Y O Z H ρ _ R (w.bind.imp λa b i j g h=>b i j g h)
def c9:FT:=λρ=>.ok (P,ρ)
theorem d4:TTO K E JK c9:=λB Y O Z H ρ Q R w=>w O H .refl R
def JO(b fb:FE):FE:=λρ=>(a9 b ρ).bind λa=>if a.1=P then fb a.2 else .ok (.fz (.bool Wu),a.2)
def La(d:EO K E n o)(j:EO K E m fb):EO K E (IA n m) (JO o fb):=by
 intro B Y O Z H ρ Q R w;show g7 d B Y O Z H ρ (λc e=>if c=P then m Z e Q else Q (.bl Wu) e) R (w.bind.imp λa f l e g h=>?_);let(b,i):=a;cases b with
 |true=>show j.next h g f
 |false=>show f l _ e g h (.bl Wu)
def P0(c:FT)(b fb:FE):FE:=λρ=>(c ρ).bind λa=>if a.1=P then b a.2 else fb a.2
def Uo(i:TTO K E t c)(d:EO K E o p)(j:EO K E n fb):EO K E (U5 t o n) (P0 c p fb):=by
 intro B Y O Z H ρ Q R w;show i B Y O Z H ρ _ R (w.bind.imp λa e l m f g=>?_);let(b,h):=a;cases b with
 |true=>show d.next g f e
 |false=>show j.next g f e
def vE(f g:D->D->I RV)(d fb h:FE):FE:=λρ=>(d ρ).bind λa=>(fb a.2).bind λb=>(Res.Xu (tD b.2 (dR a.1))).bind λm=>(Res.Xu (tD b.2 (dR b.1))).bind λj=>
 (Res.Xu (f m j)).bind λl=>match l with
  |.fz (.bool P)=>(h b.2).bind λc=>(Res.Xu (tD c.2 (dR b.1))).bind λe=>(Res.Xu (tD c.2 c.1)).bind λi=>(Res.Xu (g e i)).bind λl=>.ok (l.pv,c.2)
  |.fz (.bool Wu)=>.ok (.fz (.bool Wu),b.2)
  |_=>.bad
def vT(D:qv K r f)(q:qv K r' g)(ha:EO K E ta fa)(hb:EO K E tb fb)(hc:EO K E tc fc):EO K E (JJ r r' ta tb tc) (vE f g fa fb fc):=by
 intro B Y O Z H ρ Q R w;show ha B Y O Z H ρ _ R (w.bind.imp λa N O1 x H1 J R1 p1=>?_);let(O2,I,R2,p2):=jD R1 p1;show hb B Y O2 Z H1 a.2 _ R2 (N.bind.imp λb e O3' y M u C o=>?_);let(j,i,m,F):=jD C o;let i:=u.trans i;let p:=p2.keep (qS a.1) i (ρ':=b.2);let(dx,T,e):=e.Xu;let(dy,S,e):=e.Xu;let(rv,qf,e):=e.Xu;show D j M x y dx dy rv _ m.od (kr m p T) (kr m F S) qf ?_;cases rv with
 |ow ds=>show e.elim
 |fz d=>
  intro v H' s dv;cases dv with
  |bl k=>
   show#[k,W,?_];let L:=m.grow s;let t:Ev j M j H':=Ev.grow s;cases k with
   |false=>show e j _ H' (J.trans (I.trans (i.trans t))) L (.bl Wu)
   |true=>rw[av W];show hc B Y j Z H' b.2 _ L (WR.imp (WR.bind e) λc h O5 z H5 G l p5=>?_);let(A,n,h):=h.Xu;let(dz,P,h):=h.Xu;let(rv,U,h):=h.Xu;show q O5 H5 y z A dz rv Q l.od (kr l (F.keep (qS b.1) (t.trans G)) n) (kr l p5 P) U (mZ l λO6 v H6 e6 R6 p6=>?_);show h O6 v H6 (J.trans (I.trans (i.trans (t.trans (G.trans e6))))) R6 p6
  |_=>show e.elim
def aC:FA:=λρ=>.ok ([],ρ)
def ah(c:FE)(e:FA):FA:=λρ=>(c ρ).bind λa=>(e a.2).bind λb=>.ok (dR a.1::b.1,b.2)
theorem bt:AO K E ju aC:=λB Y O Z H ρ Q R w=>w O [] H .refl R .nil
def aF(c:EO K E A C)(l:AO K E z fr):AO K E (fL A z) (ah C fr):=by intro B Y O Z H ρ Q R w;show c B Y O Z H ρ _ R (w.bind.imp λa h y x u n p j=>?_);let(r,m,R2,p2):=jD p j;show l B Y r Z u a.2 _ R2 (h.bind.imp λb g q f t e o i=>?_);show g q (x::f) t (n.trans (m.trans e)) o (.cons #[p2.keep (qS a.1) e,qS a.1] i)
def Cg(ρ:bC):G PV->I (G D)
 |[]=>R []
 |p::r=>match tD ρ p with
  |some d=>(match Cg ρ r with
   |some ds=>R (d::ds)
   |none=>U)
  |none=>U
theorem D5(R:Rl K B Y O Z H ρ):∀{g:G V} {c:G PV} {ds:G D},Paired (λv pv=>abi K Y O Z H ρ v pv/\nW pv) g c->Cg ρ c=lD ds->Paired (DX O K H) g ds
 |_,_,_,.nil,e=>by ext e;show .nil
 |_,_,_,.cons (l₂:=c) (b:=p) h t,e=>by
  unfold Cg at e;cases q:tD ρ p with
  |none=>rw[q]at e;ext e
  |some d=>
   rw[q]at e;dsimp only at e;cases f:Cg ρ c with
   |none=>rw[f]at e;ext e
   |some a=>rw[f]at e;ext e;show .cons (kr R h.1 q) (D5 R t f)
def tV(ρ:bC):G PV->I (G D×bC)
 |[]=>R ([],ρ)
 |p::r=>match B0 ρ p with
  |some (d,b)=>(match tV b r with
   |some (ds,a)=>R (d::ds,a)
   |none=>U)
  |none=>U
theorem uY:∀{k:G V} {c:G PV} {ds:G D} {O:cS} {ρ ρ':bC},Rl K B Y O Z H ρ->Paired (λv pv=>abi K Y O Z H ρ v pv/\nW pv) k c->tV ρ c=lD (ds,ρ')->∃X,Ev O H X H/\Rl K B Y X Z H ρ'/\Yb X K H k ds
 |_,_,_,O,_,_,C,.nil,e=>by ext e;show#[O,.refl,C,.nil]
 |_,_,_,O,ρ,ρ',C,.cons (l₁:=k) (l₂:=c) (b:=p) h t,e=>by
  unfold tV at e;cases q:B0 ρ p with
  |none=>rw[q]at e;ext e
  |some r=>
   let(d,a):=r;rw[q]at e;dsimp only at e;cases J:tV a c with
   |none=>rw[J]at e;ext e
   |some m=>let(o,j):=m;rw[J]at e;ext e;let(A,i,y,w):=xb C h.1 q;let l:Paired (λv pv=>abi K Y A Z H a v pv/\nW pv) k c:=Paired.aax t λv pv #[n,f]=>#[n.keep f i,f];let(z,g,R2,u):=uY y l J;show#[z,i.trans g,R2,.cons (w.ev g) u]
abbrev FN:=G D->Res RV
def qC(K:Ld)(n:Nat)(F:FN):Sp:=λb H Q E=>b.length=n/\∃(B:cS) (ds:G D),(∀a,B a->H a≠U)/\Yb B K H b ds/\WR K E B H (Fin B K H Q) (F ds)
def df(c:FA):FE:=λρ=>(c ρ).bind λa=>(Res.Xu (tV a.2 a.1)).bind λb=>if b.1.length<=1000 then .ok (.fz (.tuple b.1),b.2)else .bad
def di(c:FA):FE:=λρ=>(c ρ).bind λa=>(Res.Xu (tV a.2 a.1)).bind λb=>if b.1.length<=1000 then .ok (.ow b.1,b.2)else .bad
theorem ze(h:n<=1000):n<=WG:=Xo h ()
def uF(c:AO K E z A):EO K E (RY z) (df A):=by
 intro B Y O Z H ρ Q R w;show c B Y O Z H ρ _ R (w.bind.imp λa g u C y m o i=>?_);let((ds,f),q,b):=g.Xu;let(t,l,R2,e):=uY o i q;dsimp only at b;by_cases hn:ds.length<=1000
 .rw[av hn]at b;show#[by rw[e.length];show ze hn,Fin.afn e R2.od (mZ R2 λp v r j n h=>b p v r (m.trans (l.trans j)) n h)]
 .rw[ax hn]at b;show b.elim
def jG(c:AO K E z A):EO K E (Tf z) (di A):=by
 intro B Y O Z H ρ Q R w;show c B Y O Z H ρ _ R (w.bind.imp λa g u C y m o i=>?_);let((ds,f),q,b):=g.Xu;let(t,l,R2,e):=uY o i q;dsimp only at b;by_cases hn:ds.length<=1000
 .rw[av hn]at b;show#[by rw[e.length];show ze hn,Fin.new e (mZ R2 λp v r j n h=>b p v r (m.trans (l.trans j)) n h)]
 .rw[ax hn]at b;show b.elim
def Iv(K:Ld)(r:G V->Hp->VK->Prop)(f:G D->I RV):Prop:=∀(O:cS) (H:Hp) (xs:G V) (ds:G D) (a:RV) (Q:VK),qW O H->Paired (DX O K H) xs ds->f ds=R a->Fin O K H Q a->r xs H Q
def gq(f:G D->I RV)(c:FA):FE:=λρ=>(c ρ).bind λa=>(Res.Xu (Cg a.2 a.1)).bind λds=>(Res.Xu (f ds)).bind λb=>.ok (b.pv,a.2)
def iy(l:Iv K r f)(c:AO K E A J):EO K E (Hi r A) (gq f J):=by intro B Y O Z H ρ Q R w;show c B Y O Z H ρ _ R (w.bind.imp λa g t z y n e j=>?_);let(ds,q,b):=g.Xu;let(C,h,b):=b.Xu;show l t y z ds C Q e.od (D5 e j q) h (mZ e λp v u m o i=>b p v u (n.trans m) o i)
def VF(K:Ld)(r:V->I Int->I Int->Hp->VK->Prop)(f:D->I Int->I Int->I RV):Prop:=∀(O:cS) (H:Hp) (x:V) (lo b:I Int) (e:D) (a:RV) (Q:VK),qW O H->DX O K H x e->f e lo b=R a->Fin O K H Q a->r x lo b H Q
end
def yW{l:G α}(h:(l.set i x)[i]?=R y):i<l.length:=by
 rw[XW]at h;rw[av W]at h;split at h
 .assumption
 .ext h
section
variable{K:Ld}{E:XK}{B O U:cS}{Z H H':Hp}{Y:St}{ρ ρ':bC}{v:V}
def Rl.mut{i:Nat}{ds g:br D}{a:Wo}{f:br V}(R:Rl K B Z O Y H ρ)(c:ρ[i]?=lD (lD (.ow ds)))(J:Y[i]?=lD (lD (.ref a)))(L:O a)(M:Z a=Wh)(hd:Yb O K H f g):
  Rl K B Z O Y (bW H a (.lst f)) (ρ.set i (lD (.ow g))):=by
 let ev:Ev O H O (bW H a (.lst f)):=Ev.mut L _;show#[λb o e=>by rw[aU (cM e M)];show R.same b o e,R.bo,R.bd,λb m=>?_,by rw[XQ];show R.len,λj x l=>?_,λj k xs G w hj X A t=>?_]
 .by_cases e:b=a
  .rw[e,aY]at m;ext m
  .rw[aU e]at m;show R.od b m
 .rcases dc l with⟨rfl,ee⟩|⟨r,l⟩
  .ext ee;show#[_,J,a,f,W,L,M,aY,hd.ev ev]
  .let(u,I,q):=R.slot j x l
   show#[u,I,?_];cases x with
   |fz d=>show DV.ev ev q
   |pl i=>show q
   |ow xs=>let(b,N,rfl,T,S,Q,P):=q;let F:b≠a:=λz=>r (R.one j i xs ds (.ref a) l c (by rw[I,z]) J);show#[b,N,W,T,S,by rw[aU F];show Q,P.ev ev]
 .let own:∀{j:Nat} {xs:br D},(ρ.set i (lD (.ow g)))[j]?=lD (lD (.ow xs))->∃G,ρ[j]?=lD (lD (.ow G)):=λ{j xs} h=>by
   rcases dc h with⟨rfl,_⟩|⟨_,h⟩
   .show#[_,c]
   .show#[_,h]
  let(p,C):=own hj;let(n,y):=own X;show R.one j k p n w C y A t
theorem vf(h:n<1000000):n<WG:=W0 h ()
def CP:I (I PV)->I (G D)
 |some (R (.ow ds))=>R ds
 |_=>Wh
def t7(h:CP o=R ds):o=R (R (.ow ds)):=by
 unfold CP at h;split at h
 .ext h;rfl
 .ext h
def BT(i:Nat)(c:FE):FE:=λρ=>(Res.Xu (CP ρ[i]?)).bind λ_=>(c ρ).bind λa=>(Res.Xu (B0 a.2 a.1)).bind λb=>(Res.Xu (CP b.2[i]?)).bind λds=>
 if ds.length<1000000 then .ok (.fz .none,b.2.set i (R (.ow (ds++[b.1]))))else .bad
def Kf(z:EO K E te fe):EO K E (Qd K "list" yk (vG i) (fL te ju)) (BT i fe):=by
 intro B Z O Y H ρ Q R w;let(J,q,w):=w.Xu;let(v,j,a,vs,rfl,T,S,A,P):=R.slot i _ (t7 q);show#[_,j,.inl #[W,_,SqL.of A],?_];show z B Z O Y H ρ _ R (w.bind.imp λb e O1 y H1 F L r=>?_);let((d,o),p,e):=e.Xu;let(M,C,R2,I):=xb L r p;let(ds,f,e):=e.Xu;let f:=t7 f;let(N,n,X,g,G,m,u,t,l):=R2.slot i _ f;subst G;rw[j]at n;ext n;dsimp only at e;by_cases h:ds.length<1000000
 .rw[av h]at e;show#[a,g,y,W,W,t,vf (by rw[l.length];show h),?_];show e M .YM _ (F.trans (C.trans (Ev.mut m _))) (R2.mut f j m u (l.append (.cons I .nil))) .YM
 .rw[ax h]at e;show e.elim
abbrev FG:=PV->bC->Res bC
abbrev UH:=G D->bC->Res bC
def GO(K:Ld)(E:XK)(g:TG)(f:FG):Prop:=
 ∀(B:cS) (Z:Hp) (O:cS) (Y:St) (H:Hp) (ρ:bC) (v:V) (pv:PV) (Q:St->Hp->Prop),Rl K B Z O Y H ρ->abi K Z O Y H ρ v pv->WR K E B Z (λρ'=>∀U a H',Ev O H U H'->Rl K B Z U a H' ρ'->Q a H') (f pv ρ)->g v Y H Q
def UW(K:Ld)(E:XK)(g:RN)(f:UH):Prop:=
 ∀(B:cS) (Z:Hp) (O:cS) (Y:St) (H:Hp) (ρ:bC) (b:G V) (ds:G D) (Q:St->Hp->Prop),Rl K B Z O Y H ρ->Yb O K H b ds->WR K E B Z (λρ'=>∀U a H',Ev O H U H'->Rl K B Z U a H' ρ'->Q a H') (f ds ρ)->g b Y H Q
def Rl.ajH(R:Rl K B Z O Y H ρ)(h:DV O K H v d):Rl K B Z O (Y.set i (lD v)) H (ρ.set i (lD (.fz d))):=by
 show#[R.same,R.bo,R.bd,R.od,by rw[XQ,XQ];show R.len,λj x f=>?_,λj k xs o w m l b a=>?_]
 .rcases dc f with⟨rfl,e⟩|⟨g,f⟩
  .ext e;let:=yW f;show#[v,by rw[XW,av W,av (by rw[R.len];show this)],h]
  .let(u,t,r):=R.slot j x f;show#[u,by rw[XW,ax (λz=>g z.symm)];show t,r]
 .rcases dc m with⟨rfl,n⟩|⟨q,m⟩
  .ext n
  .rcases dc l with⟨rfl,n⟩|⟨p,l⟩
   .ext n
   .rw[XW,ax (λz=>q z.symm)]at b;rw[XW,ax (λz=>p z.symm)]at a;show R.one j k xs o w m l b a
def Rl.alm(R:Rl K B Z O Y H ρ)(h:abi K Z O Y H ρ v (.ow ds)):Rl K B Z O (Y.set i (lD v)) H (ρ.set i (lD (.ow ds))):=by
 let(a,N,rfl,J,I,G,F,q):=h;show#[R.same,R.bo,R.bd,R.od,by rw[XQ,XQ];show R.len,λj x m=>?_,λj k xs p w C l f b=>?_]
 .rcases dc m with⟨rfl,e⟩|⟨o,m⟩
  .ext e;let:=yW m;show#[.ref a,by rw[XW,av W,av (by rw[R.len];show this)],a,N,W,J,I,G,F]
  .let(u,y,t):=R.slot j x m;show#[u,by rw[XW,ax (λz=>o z.symm)];show y,t]
 .rcases dc C with⟨rfl,M⟩|⟨r,g⟩
  .rcases dc l with⟨rfl,L⟩|⟨n,l⟩
   .rfl
   .rw[XW,ax (λz=>n z.symm)]at b
    rcases dc f with⟨_,e⟩|⟨z,_⟩
    .ext e;show a7 b (q k p l)
    .show a7 W z
  .let A:=g
   rw[XW,ax (λz=>r z.symm)]at f;rcases dc l with⟨rfl,M⟩|⟨n,l⟩
   .rcases dc b with⟨_,e⟩|⟨z,_⟩
    .ext e;show a7 f (q j xs g)
    .show a7 W z
   .rw[XW,ax (λz=>n z.symm)]at b;show R.one j k xs p w g l f b
def gN(i:Nat):FG:=λpv ρ=>match pv with
 |.ow ds=>.ok (ρ.set i (R (.ow ds)))
 |.fz d=>.ok (ρ.set i (R (.fz d)))
 |.pl j=>(Res.Xu (B0 ρ (.pl j))).bind λb=>.ok (b.2.set i (R (.fz b.1)))
def bF:GO K E (xn i) (gN i):=by
 intro B Z O Y H ρ v pv Q R p w;cases pv with
 |ow ds=>show w O _ H .refl (R.alm p)
 |fz d=>show w O _ H .refl (R.ajH p)
 |pl j=>let((d,a),q,w):=WR.Xu (show WR K E B Z _ ((Res.Xu (B0 ρ (.pl j))).bind λb=>.ok (b.2.set i (lD (.fz b.1))))from w);let(g,e,R2,f):=xb R p q;show w g _ H e (R2.ajH f)
def Tx:UH:=λds ρ=>match ds with
 |[]=>.ok ρ
 |_=>.bad
def MK(f:FG)(g:UH):UH:=λds ρ=>match ds with
 |[]=>.bad
 |d::r=>(f (.fz d) ρ).bind λa=>g r a
def D9:UW K E Sa Tx:=by
 intro B Z O Y H ρ b ds Q R a w;cases a with
 |nil=>show#[W,w O Y H .refl R]
 |cons _ _=>show w.elim
def rB(o:GO K E t f)(n:UW K E u g):UW K E (JN t u) (MK f g):=by
 intro B Z O Y H ρ J ds Q R r w;cases r with
 |nil=>show w.elim
 |cons m l=>rename_i v J d ds;show#[_,_,W,o B Z O Y H ρ _ (.fz d) _ R m (WR.imp (WR.bind w) λe j A b F h y=>?_)];show n B Z A b F e _ _ Q y (l.ev h) (j.imp λi q z a C p R2=>q z a C (h.trans p) R2)
def VS:D->I (G D)
 |.tuple ds=>R ds
 |_=>Wh
def Lm(h:DX O K H x d)(e:VS d=R ds):∃a xs,x=.ref a/\abg O K H a xs/\Yb O K H xs ds:=by
 ext d<;>ext e;cases h with
 |tup h b=>show#[_,_,W,h,b]
def gT(n:Nat)(f:UH):FG:=λpv ρ=>(Res.Xu (tD ρ pv)).bind λd=>(Res.Xu (VS d)).bind λds=>if ds.length=n then f ds ρ else .bad
def C0(h:UW K E t f):GO K E (S8 K n t) (gT n f):=by
 intro B Z O Y H ρ v pv Q R p w;let(d,g,w):=w.Xu;let(ds,e,w):=w.Xu;let(a,xs,rfl,i,b):=Lm (kr R p g) e;by_cases hn:ds.length=n
 .rw[av hn]at w;show#[a,xs,W,i.1,b.length.trans hn,h B Z O Y H ρ xs ds Q R b w]
 .rw[ax hn]at w;show w.elim
inductive Fl where
 |nx (ρ:bC)
 |rt (rv:RV)
 |bk (ρ:bC)
 |ct (ρ:bC)
abbrev FS:=bC->Res Fl
def afg(K:Ld)(B:cS)(Z:Hp)(O:cS)(H:Hp)(D:Ends):Fl->Prop
 |.nx ρ'=>∀U a H',Ev O H U H'->Rl K B Z U a H' ρ'->D.nx a H'
 |.bk ρ'=>∀U a H',Ev O H U H'->Rl K B Z U a H' ρ'->D.bk a H'
 |.ct ρ'=>∀U a H',Ev O H U H'->Rl K B Z U a H' ρ'->D.ct a H'
 |.rt b=>Fin B K Z D.rt b
def SO(K:Ld)(E:XK)(t:TS)(g:FS):Prop:=
 ∀(B:cS) (Z:Hp) (O:cS) (Y:St) (H:Hp) (ρ:bC) (D:Ends),Rl K B Z O Y H ρ->WR K E B Z (afg K B Z O H D) (g ρ)->t D Y H
def afg.ev{D:Ends}(e:Ev O H O1 H1)(h:afg K B Z O H D fl):afg K B Z O1 H1 D fl:=by
 cases fl with
 |nx ρ'=>show λU a H' b f=>h U a H' (e.trans b) f
 |bk ρ'=>show λU a H' b f=>h U a H' (e.trans b) f
 |ct ρ'=>show λU a H' b f=>h U a H' (e.trans b) f
 |rt g=>show h
def fV:FS:=λρ=>.ok (.nx ρ)
def bZ(f g:FS):FS:=λρ=>(f ρ).bind λa=>match a with
 |.nx b=>g b
 |a=>.ok a
def pp(f:FE):FS:=λρ=>(f ρ).bind λa=>.ok (.nx a.2)
def gw(f:FE)(g:FG):FS:=λρ=>(f ρ).bind λa=>(g a.1 a.2).bind λb=>.ok (.nx b)
def pq(c:FT)(f g:FS):FS:=λρ=>(c ρ).bind λa=>if a.1=P then f a.2 else g a.2
def Hr(ρ:bC):PV->I RV
 |.fz d=>R (.fz d)
 |.ow ds=>R (.ow ds)
 |.pl i=>match ρ[i]? with
  |some (R (.fz d))=>R (.fz d)
  |some (R (.ow ds))=>R (.ow ds)
  |_=>Wh
def fC(f:FE):FS:=λρ=>(f ρ).bind λa=>(Res.Xu (Hr a.2 a.1)).bind λb=>.ok (.rt b)
theorem yj:SO K E IZ fV:=λB Z O Y H ρ D R w=>w O Y H .refl R
def cQ(j:SO K E t f)(i:SO K E u g):SO K E (NT t u) (bZ f g):=by
 intro B Z O Y H ρ D R w;show j B Z O Y H ρ {D with nx:=u D} R (WR.imp (WR.bind w) λh b=>?_);cases h with
 |nx a=>show λn e o l m=>i B Z n e o a D m (WR.imp b λh q=>q.ev l)
 |rt p=>show b
 |bk a=>show b
 |ct a=>show b
def z6(h:EO K E t f):SO K E (FO t) (pp f):=by intro B Z O Y H ρ D R w;show h B Z O Y H ρ _ R (w.bind.imp λa b i x j e g l=>b i Y j e g)
def g9(h:EO K E t f)(m:GO K E g z):SO K E (Lq t g) (gw f z):=by intro B Z O Y H ρ D R w;show h B Z O Y H ρ _ R (w.bind.imp λa j r x y o p l=>?_);show m B Z r Y y a.2 x a.1 _ p l (j.bind.imp λe i q b u n R2=>i q b u (o.trans n) R2)
def KF(n:TTO K E c y)(p:SO K E t f)(o:SO K E u g):SO K E (Sx c t u) (pq y f g):=by
 intro B Z O Y H ρ D R w;show n B Z O Y H ρ _ R (w.bind.imp λa h l m i j=>?_);let(b,e):=a;cases b with
 |true=>show p B Z l Y m e D j (WR.imp h λr q=>q.ev i)
 |false=>show o B Z l Y m e D j (WR.imp h λr q=>q.ev i)
def Sq{pv:PV}(R:Rl K B Z O Y H ρ)(p:abi K Z O Y H ρ v pv)(e:Hr ρ pv=lD C)(w:Fin B K Z Q C):Q v H:=by
 let ow:∀{a:M} {A:G V} {ds:G D},O a->Z a=Wh->H a=lD (.lst A)->Yb O K H A ds->Fin B K Z Q (.ow ds)->Q (.ref a) H:=λ{a A ds} m l g f w=>
  w a A H R.same l g (f.ev (Ev.sub λb z=>z.elim (R.bo b) λe=>by rw[e];show m))
 let fz:∀{d:D},DV O K H v d->Fin B K Z Q (.fz d)->Q v H:=λ{d} h w=>w v H R.same (h.ev (Ev.sub R.bo));cases pv with
 |fz d=>ext e;show fz p w
 |ow ds=>ext e;let(a,A,rfl,m,l,g,f,y):=p;show ow m l g f w
 |pl i=>
  let t:=p;unfold Hr at e;dsimp only at e;cases q:ρ[i]? with
  |none=>rw[q]at e;ext e
  |some o=>
   cases o with
   |none=>rw[q]at e;ext e
   |some x=>
    let(u,r,n):=R.slot i x q;rw[t]at r;ext r;rw[q]at e;cases x with
    |fz d=>ext e;show fz n w
    |ow ds=>ext e;let(a,A,rfl,m,l,g,f):=n;show ow m l g f w
    |pl j=>show n.elim
def ja(h:EO K E t f):SO K E (Rz t) (fC f):=by intro B Z O Y H ρ D R w;show h B Z O Y H ρ _ R (w.bind.imp λa b j x l i g e=>?_);let(m,q,b):=b.Xu;show Sq g e q b
def A0(K:Ld)(J:It)(O:cS)(H:Hp)(ds:G D):Prop:=∀U H',Ev O H U H'->qW U H'->
 (∀i,i<ds.length->J.go i H'/\∀x a,J.yld i H' x a->Yo H' a/\∃d,ds[i]?=R d/\DV U K a x d)/\J.stop ds.length H'
abbrev FI:=bC->Res (G D×bC)
def IO(K:Ld)(E:XK)(b:TI)(e:FI):Prop:=
 ∀(B:cS) (Z:Hp) (O:cS) (Y:St) (H:Hp) (ρ:bC) (a:It->Hp->Prop),Rl K B Z O Y H ρ->WR K E B Z (λr=>∀U J H',Ev O H U H'->Rl K B Z U Y H' r.2->A0 K J U H' r.1->a J H') (e ρ)->b Y H a
def tS(gt:FG)(b:FS):G D->FS
 |[],ρ=>.ok (.nx ρ)
 |d::r,ρ=>(gt (.fz d) ρ).bind λa=>(b a).bind λe=>match e with
  |.nx f=>tS gt b r f
  |.ct f=>tS gt b r f
  |.bk f=>.ok (.nx f)
  |.rt g=>.ok (.rt g)
def pZ(e:FI)(gt:FG)(b:FS):FS:=λρ=>(e ρ).bind λa=>tS gt b a.1 a.2
def uS(c:IO K E wi fi)(k:GO K E g gt)(s:SO K E tb b):SO K E (RL wi g tb) (pZ fi gt b):=by
 intro B Z O Y H ρ D R w;show c B Z O Y H ρ _ R (w.bind.imp λa N G J X S T Q=>?_);let(ds,F):=a;dsimp only at N Q T;show#[λi m f H'=>m=ds.length - i/\i<=ds.length/\∃O2 ρ2,Ev G X O2 H'/\Rl K B Z O2 f H' ρ2/\WR K E B Z (afg K B Z O H D) (tS gt b (ds.drop i) ρ2),#[_,W,Xq _,G,F,.refl,T,N],?_];rintro i m o M ⟨rfl,c,O2,ρ2,e2,R2,w2⟩;let(go,p):=Q O2 M e2 R2.od;by_cases j:i<ds.length
 .let(g1,g2):=go i j
  show .inr #[g1,λf H'=>i+1<=ds.length/\∃O2 ρ2,Ev G X O2 H'/\Rl K B Z O2 f H' ρ2/\WR K E B Z (afg K B Z O H D) (tS gt b (ds.drop (i+1)) ρ2),λf H' #[h1,h2]=>#[ds.length - (i+1),by ext,W,h1,h2],λx L y=>?_];let(P,d,hd,dv):=g2 x L y;let ed:ds.drop i=d::ds.drop (i+1):=by let(_,q):=Wj.mp hd;rw[YF j,q]
  rw[ed]at w2;let e3:Ev O2 M O2 L:=Ev.grow P;show k B Z O2 o L ρ2 x (.fz d) _ (R2.grow P) dv (WR.imp (WR.bind w2) λC w3 O4 A H4 e4 R4=>?_);let n:=e2.trans (e3.trans e4);show s B Z O4 A H4 C _ R4 (WR.imp (WR.bind w3) λfl z=>?_);cases fl with
  |nx h=>show λu l I r t=>#[j,u,h,n.trans r,t,z]
  |ct h=>show λu l I r t=>#[j,u,h,n.trans r,t,z]
  |bk h=>show λu l I r t=>z u l I (S.trans (n.trans r)) t
  |rt rv=>show z
 .let e:i=ds.length:=by ext
  subst e;rw[ZL (Ww _)]at w2;show .inl #[p,w2 O2 o M (S.trans e2) R2]
def eZ:D->I (G D)
 |.tuple ds=>R ds
 |.list ds=>R ds
 |_=>Wh
def K0(K:Ld)(e:TE):TI:=λY H R=>e Y H λx b=>∃a,x=.ref a/\(((∃xs,SqL K b a xs)/\R (Vk K a) b)\/((∃xs,SqT K b a xs)/\R (Vr K a) b))
def dH(y:PE X l z):PI X C l (K0 X.K z):=by
 intro i s Y H R I h;show de (y i s Y H _ I h) λv g a=>?_;let(x,r,f,t,u):=a;let(a,e,q):=u;subst e;ext t;rcases q with⟨⟨xs,j⟩,q⟩|⟨⟨xs,j⟩,q⟩
 .let(n,A,p,w):=f.list j
  show aaz p.isList ?_;show#[g.heap.objs.size,[g.heap.objs.size],_,_,r,W,f.kept λb o e=>cj _ e,HC a _,#[_,cN _ W,W,W],λb m=>?_,q];let e:b=g.heap.objs.size:=by simpa using m
  subst e;show f.adt (Ww _) (f.XY.fresh (Ww _))
 .let(n,A,p,w):=f.tuple j
  show ab0 (show g.heap.IsTuple a n.toArray from p) ?_;show#[g.heap.objs.size,[g.heap.objs.size],_,_,r,W,f.kept λb o e=>cj _ e,Cq a _,#[_,cN _ W,W,W],λb m=>?_,q];let e:b=g.heap.objs.size:=by simpa using m
  subst e;show f.adt (Ww _) (f.XY.fresh (Ww _))
def Gn(h:acn O K H a xs)(hd:Yb O K H xs ds):A0 K (Vk K a) O H ds:=by intro U H' e n;let f:=h.ev e;let b:=hd.ev e;show#[λi p=>?_,#[xs,f.1.sq,by rw[hd.length];show Ww _]];let(x,l,_):=b.get (Wr p);show#[#[xs,x,f.1.sq,l],?_];rintro y m ⟨rfl,o⟩;let(d,j,g):=b.agI (o xs f.1.sq);show#[Yo.refl _,d,j,g]
def JL(h:abg O K H a xs)(hd:Yb O K H xs ds):A0 K (Vr K a) O H ds:=by intro U H' e n;let f:=h.ev e;let b:=hd.ev e;show#[λi p=>?_,#[xs,f.1,by rw[hd.length];show Ww _]];let(x,l,_):=b.get (Wr p);show#[#[xs,x,f.1,l],?_];rintro y m ⟨rfl,o⟩;let(d,j,g):=b.agI (o xs f.1);show#[Yo.refl _,d,j,g]
def gU(c:FE):FI:=λρ=>(c ρ).bind λa=>(Res.Xu (B0 a.2 a.1)).bind λb=>(Res.Xu (eZ b.1)).bind λds=>.ok (ds,b.2)
def ib(h:EO K E u y):IO K E (K0 K u) (gU y):=by
 intro B Z O Y H ρ r R w;show h B Z O Y H ρ _ R (w.bind.imp λa b t x l i p n=>?_);let((d,m),q,b):=b.Xu;let(j,g,R2,o):=xb p n q;let(ds,e,b):=b.Xu;dsimp only at e;cases o with
 |tup h f=>ext e;show#[_,W,.inr #[#[_,h.1],b j _ l (i.trans g) R2 (JL h f)]]
 |lst h f=>ext e;show#[_,W,.inl #[#[_,h.1.sq],b j _ l (i.trans g) R2 (Gn h f)]]
 |_=>ext e
def ig(lo:Int)(n:Nat):G D:=(Wk n).map λ(k:Nat)=>.int (lo+(k:Int))
def AH:A0 K (U0 lo n) O H (ig lo n):=by
 intro U H' e f;let a:(ig lo n).length=n:=by ext ig;rw[Wg,Wy]
 show#[λi g=>?_,by show n<=_;rw[a];show Ww _];rw[a]at g;show#[g,?_];rintro x b ⟨rfl,rfl⟩;show#[Yo.refl _,.int (lo+i),by ext ig;rw[Wv,afb g];rfl,.int _]
def lS(i:Int):Prop:= -(2^62)<=i/\i<2^62
noncomputable instance(i:Int):Decidable (lS i):=by ext lS;infer_instance
def gW:G D->I (G D)
 |[.int j]=>if lS j then R (ig 0 j.toNat)else Wh
 |_=>Wh
def k7(f:G D->I (G D))(b:FA):FI:=λρ=>(b ρ).bind λa=>(Res.Xu (Cg a.2 a.1)).bind λds=>(Res.Xu (f ds)).bind λxs=>.ok (xs,a.2)
def hV(h:AO K E u y):IO K E (L6 u) (k7 gW y):=by
 intro B Z O Y H ρ t R w;show h B Z O Y H ρ _ R (w.bind.imp λa e p z r o g l=>?_);let(ds,q,e):=e.Xu;let(xs,b,e):=e.Xu;let i:=D5 g l q;unfold gW at b;split at b
 .rename_i j
  split at b
  .rename_i f
   ext b;cases i with
   |cons n m=>ext m;ext n;show#[j,W,f.1,f.2,e p _ r o g AH]
  .ext b
 .ext b
end
section
variable{K:Ld}{E:XK}{B O Y:cS}{X H H':Hp}{Z:St}{ρ ρ':bC}{v:V}
def Jv:I PV->I PV
 |some (.fz d)=>R (.fz d)
 |_=>U
def eU(ρ:bC):bC:=ρ.map Jv
def Dq{i:Nat}(h:(eU ρ)[i]?=R (R x)):∃d,x=.fz d/\ρ[i]?=R (R (.fz d)):=by
 unfold eU at h;rw[Wv]at h;cases q:ρ[i]? with
 |none=>rw[q]at h;ext h
 |some o=>
  rw[q]at h;let a:=WE h;unfold Jv at a;split at a
  .ext a;show#[_,W,W]
  .ext a
def x8(ρ:bC):G Nat->I (G D×bC)
 |[]=>R ([],ρ)
 |j::r=>match B0 ρ (.pl j)with
  |some (d,b)=>(match x8 b r with
   |some (c,a)=>R (d::c,a)
   |none=>U)
  |none=>U
def HP(R:Rl K B X O Z H ρ)(h:B0 ρ (.pl i)=lD (d,ρ')):∃v,Z[i]?=lD (lD v):=by
 let a:Vh ρ i ρ[i]?=lD (d,ρ'):=h;cases q:ρ[i]? with
 |none=>rw[q]at a;ext a
 |some o=>
  cases o with
  |none=>rw[q]at a;ext a
  |some x=>let(v,b,_):=R.slot i x q;show#[v,b]
theorem Aw:∀{f:G Nat} {ds:G D} {O:cS} {ρ ρ':bC},Rl K B X O Z H ρ->x8 ρ f=lD (ds,ρ')->∃Y k,Ev O H Y H/\Rl K B X Y Z H ρ'/\Yb Y K H k ds/\f.map (λj=>(Z[j]?).join)=k.map lD
 |[],_,O,_,_,w,e=>by ext e;show#[O,[],.refl,w,.nil,W]
 |j::r,_,O,ρ,ρ',w,e=>by
  unfold x8 at e;cases q:B0 ρ (.pl j)with
  |none=>rw[q]at e;ext e
  |some p=>
   let(d,a):=p;rw[q]at e;dsimp only at e;cases y:x8 a r with
   |none=>rw[y]at e;ext e
   |some p2=>let(c,h):=p2;rw[y]at e;ext e;let(v,b):=HP w q;let(u,l,o,n):=xb (pv:=.pl j) w b q;let(t,k,g,R2,m,i):=Aw o y;show#[t,v::k,l.trans g,R2,.cons (n.ev g) m,by rw[WL,WL,i,b];rfl]
def fu(gt:FG)(c:FT)(f:FE):G D->bC->G D->Res (G D)
 |[],_,acc=>.ok acc
 |d::r,ρ,acc=>(gt (.fz d) ρ).bind λe=>(c e).bind λb=>if b.1=P then(f b.2).bind λa=>(Res.Xu (B0 a.2 a.1)).bind λx=>
   if acc.length<1000000 then fu gt c f r (eU x.2) (acc++[x.1])else .bad
  else fu gt c f r (eU b.2) acc
def mv:Res α->Res α
 |.er _=>.bad
 |r=>r
def eB(n:Nat)(b:G Nat)(e:FI)(gt:FG)(f:FT)(g:FE):FE:=λρ=>(e ρ).bind λa=>(Res.Xu (x8 a.2 b)).bind λc=>
 (mv (fu gt f g a.1 (Wz n U++c.1.map λd=>R (.fz d)) [])).bind λxs=>.ok (.ow xs,c.2)
def Gu{own:G Str}(h:own.length=n):own.map (λ_=>(U:I V))=Wz n U:=by
 subst h
 induction own with
 |nil=>rfl
 |cons x r a=>rw[WL,a,WJ,XJ]
def GG(h:WR K E B X b (mv r)):∃a,r=.ok a/\b a:=by
 cases r with
 |ok a=>show#[a,W,h]
 |er x=>show h.elim
 |bad=>show h.elim
def Uy(K:Ld)(J:It)(O:cS)(H:Hp)(ds:G D):Prop:=∀Y H',Ev O H Y H'->Yo H H'->qW Y H'->
 (∀i,i<ds.length->J.go i H'/\∀x a,J.yld i H' x a->Yo H' a/\∃d,ds[i]?=R d/\DV Y K a x d)/\J.stop ds.length H'
def VT(K:Ld)(E:XK)(b:TI)(e:FI):Prop:=
 ∀(B:cS) (X:Hp) (O:cS) (Z:St) (H:Hp) (ρ:bC) (a:It->Hp->Prop),Rl K B X O Z H ρ->WR K E B X (λr=>∀Y J H',Ev O H Y H'->Rl K B X Y Z H' r.2->Uy K J Y H' r.1->a J H') (e ρ)->b Z H a
theorem IO.s(h:IO K E wi fi):VT K E wi fi:=λB X O Z H ρ f R w=>h B X O Z H ρ f R (w.imp λr q Y J H' e R a=>q Y J H' e R λg i b _ n=>a g i b n)
def Ln(c:own.length=n)(hf:fv.map (·.2)=fj)
  (hi:VT K E wi fi) (hg:GO K E0 g gt) (ht:TTO K E0 tc ft) (he:EO K E0 te fe):EO K E (u9 own fv wi g tc te) (eB n fj fi gt ft fe):=by
 intro B X O Z H ρ Q R w;show hi B X O Z H ρ _ R (w.bind.imp λa w1 O1 J H1 e1 R1 it=>?_);let(ds,ρ1):=a;let((cs,ρ2),qc,w1):=w1.Xu;dsimp only at qc it;let(I,vs,e2,R2,dvs,hvs):=Aw R1 qc;let(xs,qx,w1):=GG (WR.bind w1);intro l F;let hB:∀{H':Hp},Yo H1 H'->H' l≠Wh->∀a,dX I l a->H' a≠Wh:=λ{H'} s nd a h z=>h.elim (λq=>R2.od a (s.free z) q) λe=>nd (by rw[<-e];show z);show#[λi m L H'=>m=ds.length - i/\i<=ds.length/\∃(A:br D) (G:br V) (t:bC),Yo H1 H'/\H' l=lD (.lst G)/\Yb (dX I l) K H' G A/\L.length=t.length/\(∀(j:Nat) (x:PV),t[j]?=lD (lD x)->∃d u,x=PV.fz d/\L[j]?=lD (lD u)/\DV (dX I l) K H' u d)/\fu gt ft fe (ds.drop i) t A=.ok xs,
  #[_,W,Xq _,[],[],_,cU F _,aY,.nil,?_,λj x M=>?_,qx],?_]
 .ext kA;rw[Wm,Wm,Wg,Wg,Xl,Wg,c,<-dvs.length];let:=eh abx hvs;rw[Wg,Wg,<-hf,Wg]at this;ext
 .let hm:fv.map (λp=>(Z[p.2]?).join)=vs.map lD:=by rw[<-hvs,<-hf,WQ];rfl
  ext kA;rw[Gu c,hm];by_cases hj:j<n
  .rw[WB (by rw[Xl];show hj),YR,av hj]at M;ext M
  .rw[Xb (by rw[Xl];ext),Xl,Wv]at M⊢
   cases qd:cs[j - n]? with
   |none=>rw[qd]at M;ext M
   |some d=>rw[qd]at M;ext M;let(u,hu,du):=dvs.get qd;show#[d,u,W,by rw[hu];rfl,du.ev (Ev.add (cU F _) F)]
 .rintro i m L H' ⟨rfl,hi,A,G,t,s,hD,dys,hl,hsl,f⟩
  let nD:H' l≠Wh:=by rw[hD];simp
  let no':=λa z h=>hB s nD a h z;let ev1:=e2.trans (Ev.add s F);let(go,stop):=it (dX I l) H' ev1 s no';by_cases T:i<ds.length
  .let(g1,g2):=go i T
   show .inr #[g1,λC N=>i+1<=ds.length/\∃(A:br D) (G:br V) (t:bC),Yo H1 N/\N l=lD (.lst G)/\Yb (dX I l) K N G A/\C.length=t.length/\(∀(j:Nat) (x:PV),t[j]?=lD (lD x)->∃d u,x=PV.fz d/\C[j]?=lD (lD u)/\DV (dX I l) K N u d)/\fu gt ft fe (ds.drop (i+1)) t A=.ok xs,
    λC N #[h1,h2]=>#[ds.length - (i+1),by ext,W,h1,h2],λx H3 y=>?_]
   let(s3,d,hd,dv):=g2 x H3 y;let ed:ds.drop i=d::ds.drop (i+1):=by let(_,q):=Wj.mp hd;rw[YF T,q]
   rw[ed]at f;let hD3:=s3 _ _ hD;let nD3:H3 l≠Wh:=by rw[hD3];simp
   let sv:=s.trans s3;let RC:Rl K (dX I l) H3 (dX I l) L H3 t:=#[Yo.refl _,λ_ h=>h,hB sv nD3,λa z h=>hB sv nD3 a h z,hl,λj x M=>by let(d,u,rfl,h1,h2):=hsl j x M;show#[u,h1,h2.ev (Ev.grow s3)],λj k xs G w hj=>by let(d,u,e,_):=hsl j _ hj;ext e];unfold fu at f;let back:∀{O5:cS} {C:St} {N:Hp} {Pz0:bC} {H6:Hp},Rl K (dX I l) H3 O5 C N Pz0->(∀b o,b≠l->N b=lD o->H6 b=lD o)->C.length=(eU Pz0).length/\∀(j:Nat) (x:PV),(eU Pz0)[j]?=lD (lD x)->∃d u,x=PV.fz d/\C[j]?=lD (lD u)/\DV (dX I l) K H6 u d:=λ{O5 C N Pz0 H6} U k=>by show#[by ext eU;rw[Wg];show U.len,λj x M=>?_];let(d,rfl,hxx):=Dq M;let(u,h1,h2):=U.slot j _ hxx;show#[d,u,W,h1,DV.ev (λb o h n=>#[k b o (λe=>n (.inr e)) h,n]) (DV.ev (Ev.sub U.bo) h2)]
   show hg _ _ _ L H3 t x (.fz d) _ RC dv ?_;cases qg:gt (.fz d) t with
   |er z=>rw[qg]at f;ext f
   |bad=>rw[qg]at f;ext f
   |ok ρ3=>
    rw[qg,en]at f;intro O4 σ4 H4 e4 R4;show ht _ _ _ σ4 H4 ρ3 _ R4 ?_;cases qt:ft ρ3 with
    |er z=>rw[qt]at f;ext f
    |bad=>rw[qt]at f;ext f
    |ok b=>
     let(b,ρ4):=b;rw[qt,en]at f;intro O5 N e5 U;cases b with
     |false=>rw[ax WM]at f⊢;let(l5,k5):=back U λb o _ h=>h;show#[T,A,G,eU ρ4,sv.trans U.same,U.same _ _ hD3,?_,l5,k5,f];show dys.ev (Ev.grow (s3.trans U.same))
     |true=>
      rw[av W]at f⊢;show he _ _ _ σ4 N ρ4 _ U ?_;cases qe:fe ρ4 with
      |er z=>rw[qe]at f;ext f
      |bad=>rw[qe]at f;ext f
      |ok r=>
       rw[qe,en]at f;intro O6 yv H6 e6 R6 p6;cases q7:B0 r.2 r.1 with
       |none=>rw[q7]at f;ext f
       |some xr=>
        let(xd,ρ7):=xr;rw[q7]at f;let(O7,e7,R7,dv7):=xb R6 p6 q7;let hD7:=R7.same _ _ hD3;let S:(if A.length<1000000 then fu gt ft fe (ds.drop (i+1)) (eU ρ7) (A++[xd])else .bad)=.ok xs:=f;by_cases hl6:A.length<1000000
        .rw[av hl6]at S
         let up:∀b o,b≠l->H6 b=lD o->bW H6 l (.lst (G++[yv])) b=lD o:=λb o hb h=>by rw[aU hb];show h
         let cP:Ev (dX I l) H6 (dX I l) (bW H6 l (.lst (G++[yv]))):=λb o h n=>#[up b o (λe=>n (.inr e)) h,n];let alx:=dys.ev (Ev.grow (s3.trans R7.same));let(l5,k5):=back R7 up;show#[G,hD7,vf (by rw[dys.length];show hl6),T,A++[xd],G++[yv],eU ρ7,λb o h=>?_,aY,?_,l5,k5,S]
         .rw[aU (cM h F)];show R7.same _ _ (sv _ _ h)
         .show(alx.append (.cons (DV.ev (Ev.sub R7.bo) dv7) .nil)).ev cP
        .rw[ax hl6]at S;ext S
  .let e:i=ds.length:=by ext
   subst e;rw[ZL (Ww _)]at f;let f:=f;ext f;show .inl #[stop,?_];show w1 (dX I l) (.ref l) H' (e1.trans ev1) (R2.add s F nD) #[l,G,W,.inr W,R2.ahd F,hD,dys,λk es hk z=>?_];let(u,h1,b,us,e2,g1,g2,g3,g4):=R2.slot k _ hk;rw[z]at h1;ext h1;ext e2;rw[F]at g3;ext g3
theorem eO(c:own.length=n)(e:l.map (·.2)=o)
  (d:IO K E h p) (b:GO K E0 g gt) (a:TTO K E0 j m) (f:EO K E0 i q):EO K E (u9 own l h g j i) (eB n o p gt m q):=Ln c e d.s b a f
def eE(F:FN)(n:Nat)(c:FA):FE:=λρ=>(c ρ).bind λa=>(Res.Xu (tV a.2 a.1)).bind λb=>if b.1.length=n then(mv (F b.1)).bind λe=>.ok (e.pv,b.2)else .bad
def jO(c:AO K E J L):EO K E (mo (qC K n F) [] E0 J) (eE F n L):=by
 intro B X O Z H ρ Q R w;show c B X O Z H ρ _ R (w.bind.imp λa g C N G p t j=>?_);let((ds,f),q,b):=g.Xu;let(y,o,R2,e):=uY t j q;dsimp only at b;by_cases hn:ds.length=n
 .rw[av hn]at b;let(S,h,b):=GG (WR.bind b);rw[W4];show#[e.length.trans hn,y,ds,λa z l=>R2.od a l z,e,?_];rw[h];show mZ R2 λu v A m r i=>b u v A (p.trans (o.trans m)) r i
 .rw[ax hn]at b;show b.elim
end
def gI(N:Nat)(g:FS):FN:=λds=>(g (ds.map (λd=>R (.fz d))++Wz (N - ds.length) U)).bind λa=>match a with
 |.rt b=>.ok b
 |.nx _=>.ok (.fz .none)
 |_=>.bad
def KM(g:∀a,t a->H a≠U)(l:Yb t K H y ds):Rl K t H t (L2.start N y) H (ds.map (λd=>R (.fz d))++Wz (N.length - ds.length) U):=by
 let n:=l.length;show#[Yo.refl _,λ_ h=>h,g,λa z h=>g a h z,?_,λi x m=>?_,λi j xs r w u=>?_]
 .ext L2.start;rw[Wm,Wm,Wg,Wg,Xl,Xl,n]
 all_goals
  let b:∀{i:Nat} {x:PV},(ds.map (λd=>R (PV.fz d))++Wz (N.length - ds.length) U)[i]?=R (R x)->∃d,x=.fz d/\ds[i]?=R d:=λ{i x} h=>by
   by_cases u:i<ds.length
   .rw[WB (by rw[Wg];show u),Wv]at h
    cases q:ds[i]? with
    |none=>rw[q]at h;ext h
    |some d=>rw[q]at h;ext h;show#[d,W,W]
   .rw[Xb (by rw[Wg];ext),YR]at h;split at h<;>ext h
 .let(d,rfl,o):=b m;let(v,f,p):=l.get o;show#[v,?_,p];let u:=(Wj.mp f).1;ext L2.start;rw[WB (by rw[Wg];show u),Wv,f];rfl
 .let(d,e,_):=b u;ext e
def V1(F:Zl K x qual st f fd)(S:YW N J (aG st))(c:J.length=n)
  (r:∀(a:Wi) (A:W8) (outer:G Env) (s:Ws) (H:Hp) (E:XK),YL k (A.deeper (W6 qual (aG st) s.heap.objs.size f a))->
   ∃t,PSs (gM ef z w K T base N qual (aG st) f a A outer s H E).nox (cY st) t/\SO K E t g):FnOk z w K T base ef (k+1) f fd J (qC K n (gI N.length g)):=by
 show F.ok S (λL H Q E h=>h.1.trans c.symm) (λa A outer s H L Q E l h=>?_);let(t,i,j):=r a A outer s H E l;let(v,B,ds,m,p,h):=h;show#[t,i,j B H B _ H _ _ (KM m p) (WR.imp (WR.bind h) λo q=>?_)];cases o with
 |rt X=>show q
 |nx C=>show λy b u e R=>q .YM u R.same .YM
 |bk C=>show q.elim
 |ct C=>show q.elim
end L3
namespace L3
open PySem PySem.Spec PyProof.Rows L2
def OpR.or(h:OpR X f r)(c:OpR X f r'):OpR X f (λx y H Q=>r x y H Q\/r' x y H Q):=by
 intro a s b H x y v u Q I g e q;rcases q with q|q
 .show h a s b H x y v u Q I g e q
 .show c a s b H x y v u Q I g e q
def QQ(I:Inv X pins σ H s)(h:aan X.K H l xs):xs.length<=WG/\∃(a:G B) (n:Nat),Vals xs a/\xs.length=a.length/\s.heap.get? l=R {cls:=.type "list",data:=.seq a.toArray n}:=by
 rcases h with(h|⟨o,h⟩)|⟨a,n,g,f,b⟩
 .show I.agb h
 .let(_,z,a,n,r,e):=I.XY l _ h;show#[z,a,n,r,r.length,e]
 .show#[f,a,n,b,b.length,I.kIn _ _ g]
def Ql(K:Ld):R2:=λx y H Q=>∃l b xs zs,x=.ref l/\y=.ref b/\aan K H l xs/\aan K H b zs/\xs.length+zs.length<=WG/\∀p,H p=U->Q (.ref p) (bW H p (.lst (xs++zs)))
def Om:OpR X (Yx .Add) (Ql X.K):=by
 intro f s B H x y v u Q I j i h;let(l,b,xs,C,rfl,rfl,p,t,G,q):=h;ext j;ext i;let(z,g,n,r,J,e):=QQ I p;let(E,a,F,m,o,A):=QQ I t;show PySem.P.add_list e A ?_ (by rw[WA,WA];ext);let w:g.toArray++a.toArray=(g++a).toArray:=by simp
 rw[w];show#[.ref _,_,I.ajz (r.append m) (by rw[Wm];ext),W,q _ I.fresh]
def Qz(K:Ld):R2:=λx y H Q=>∃l k xs,x=.ref l/\y=.int k/\aan K H l xs/\ -(2^63)<=k/\k<2^63/\xs.length*k.toNat<=WG/\
 ∀p,H p=U->Q (.ref p) (bW H p (.lst (Wz k.toNat xs).flatten))
def OL:OpR X (Yx .Mult) (Qz X.K):=by
 intro p s P H x y v u Q I G E h;let(l,k,xs,rfl,rfl,L,N,M,w,q):=h;ext G;let(t,rfl):=E;let(z,b,n,r,J,e):=QQ I L;let f:b.toArray.size*k.toNat<=WG:=by rw[WA,<-J];show w
 let o:¬b.toArray.size*k.toNat>(2^63 - 1)/8:=by
  let:(WG:Nat)<=(2^63 - 1)/8:=by decide
  ext
 let g:¬(!W7.List.listFitsIndex k)=Wl:=by rw[fitsIndex_both N M];show WM
 let j:¬W7.List.listTooLong (b.toArray.size*k.toNat)=Wl:=by rw[BU f];show WM
 let i:aa4 (λB A=>B++A) #v[] (Wz (if b.toArray.isEmpty=Wl then 0 else k.toNat) b.toArray)=(Wz k.toNat b).flatten.toArray:=by
  let O:=λm=>by let:=sL b m [];rw[Yq]at this;show this
  rw[O];cases b with
  |nil=>simp
  |cons a R=>rw[ax (by simp)]
 show aeZ () #[_,e,W] (λC=>acP C k t) noFill_list_mul F.fills_int_mul F.slot_int_rmul repeat_list F.slot_int_index.lookup
  (Y3 F.slot_int_rmul (acP s k t) F.entry_int_rmul (F.args_int_rmul_2 _ _) (int___rmul___int_list k t l b.toArray n)
   #[e,W,#[_,e,W],Y3 F.slot_list_mul #[_,e,W] F.entry_list_mul (F.args_list_mul_2 _ _) (AutoListH.list___mul___list_int_3 l b.toArray n k t g o j) #[e,?_]])
 rw[i];show#[.ref _,_,I.ajz (r.rep k.toNat) (by rw[Gf,Nat.mul_comm];show w),W,q _ I.fresh]
section
variable{K:Ld}
def fI(g:Int->Int->Int):D->D->I RV
 |.int i,.int j=>R (.fz (.int (g i j)))
 |_,_=>U
def fB(g:Int->Int->Bool):D->D->I RV
 |.int i,.int j=>R (.fz (.bool (g i j)))
 |_,_=>U
def SC(C:Int->Int->Bool)(g:Int->Int->Int):D->D->I RV
 |.int i,.int j=>if C i j=P then R (.fz (.int (g i j)))else U
 |_,_=>U
def JT(h:fI g e b=R a):∃i j,e=.int i/\b=.int j/\a=.fz (.int (g i j)):=by
 unfold fI at h;split at h
 .ext h;show#[_,_,W,W,W]
 .ext h
def Qi:qv K (Aj λi j=>.int (g i j)) (fI g):=by intro O H x y l f h Q n b a e q;let(i,j,rfl,rfl,rfl):=JT e;ext b;ext a;show#[i,j,W,W,q.at (.int _)]
def GP:qv K (Aj λi j=>.bl (g i j)) (fB g):=by
 intro O H x y l f h Q n b a e q;unfold fB at e;split at e
 .ext e;ext b;ext a;show#[_,_,W,W,q.at (.bl _)]
 .ext e
def vd(h:∀i j,C i j=P->m i j):qv K (rI m λi j=>.int (g i j)) (SC C g):=by
 intro O H x y p l o Q n b a e q;unfold SC at e;split at e
 .split at e
  .rename_i f;ext e;ext b;ext a;show#[_,_,W,W,h _ _ f,q.at (.int _)]
  .ext e
 .ext e
theorem Du(h:DX O K H x (.list ds)):∃a xs,x=.ref a/\aan K H a xs/\Yb O K H xs ds:=h
theorem EL(h:DX O K H x (.tuple ds)):∃a xs,x=.ref a/\abg O K H a xs/\Yb O K H xs ds:=Lm h W
def Qf(K:Ld):R2:=λx y H Q=>Aj (λi j=>.int (i+j)) x y H Q\/Ql K x y H Q\/P6 K x y H Q
theorem lz:OpR X (Yx .Add) (Qf X.K):=OpR.or Rc (OpR.or Om Pe)
def dC:D->D->I RV
 |.int i,.int j=>R (.fz (.int (i+j)))
 |.list xs,.list a=>if xs.length+a.length<=1000000 then R (.ow (xs++a))else U
 |.tuple xs,.tuple a=>if xs≠[]/\xs.length+a.length<=1000000 then R (.fz (.tuple (xs++a)))else U
 |_,_=>U
theorem AQ(h:n<=1000000):n<=WG:=Xo h ()
def Yb.ne(h:Yb O K H vs ds):vs=[]↔ds=[]:=by ext h<;>simp
def lP:qv K (Qf K) dC:=by
 intro O H x y u r t Q n m l e q;unfold dC at e;split at e
 .ext e;ext m;ext l;show .inl #[_,_,W,W,q.at (.int _)]
 .split at e
  .rename_i h;ext e;let(a,xs,rfl,i,f):=Du m;let(b,j,rfl,o,g):=Du l;show .inr (.inl #[a,b,xs,j,W,W,i,o,AQ (by rw[f.length,g.length];show h),Fin.new (f.append g) q])
  .ext e
 .split at e
  .rename_i h;ext e;let(a,xs,rfl,i,f):=EL m;let(b,j,rfl,o,g):=EL l;show .inr (.inr #[a,b,xs,j,W,W,i.1,o.1,λz=>h.1 (f.ne.mp z),AQ (by rw[f.length,g.length];show h.2),λz=>?_,λ_=>Fin.afn (f.append g) n q]);let p:=g.ne.mp z;subst p;rw[W4]at q;show q.at (.tup i f)
  .ext e
 .ext e
def JI(K:Ld):R2:=λx y H Q=>rI agU (λi j=>.int (i*j)) x y H Q\/Qz K x y H Q
theorem O0:OpR X (Yx .Mult) (JI X.K):=OpR.or Tl OL
def jv(i:Int):Bool:=decide (-(2^64)<i/\i<2^64)
theorem vM(h:jv i=P): -(2^64)<i/\i<2^64:=a6 h
def DJ:D->D->I RV
 |.int i,.int j=>if(jv i||jv j)=P then R (.fz (.int (i*j)))else U
 |.list xs,.int k=>if xs.length*k.toNat<=1000000/\ -(2^63)<=k/\k<2^63 then R (.ow (Wz k.toNat xs).flatten)else U
 |_,_=>U
def OA:qv K (JI K) DJ:=by
 intro O H x y m j l Q n g f e q;unfold DJ at e;split at e
 .split at e
  .rename_i b
   ext e;ext g;ext f;show .inl #[_,_,W,W,?_,q.at (.int _)];rcases(aag _ _).mp b with z|z
   .show .inl (vM z)
   .show .inr (vM z)
  .ext e
 .split at e
  .rename_i b;ext e;ext f;let(a,xs,rfl,i,h):=Du g;show .inr #[a,_,xs,W,W,i,b.2.1,b.2.2,AQ (by rw[h.length];show b.1),Fin.new (h.flat _) q]
  .ext e
 .ext e
def wQ:=fI λi j=>i - j
theorem N0:qv K (Aj λi j=>.int (i - j)) wQ:=Qi
def SL(_ j:Int):Bool:=decide (0<j)
def uK:=SC SL λi j=>i % j
theorem NN:qv K (rI (λ_ j=>0<j) λi j=>.int (i % j)) uK:=vd λi j h=>a6 h
def Te(_ j:Int):Bool:=decide (0<j/\j<2^128)
def Ip:=SC Te λi j=>i/j
theorem OQ:qv K (rI (λ_ j=>0<j/\j.natAbs.log2<9000) λi j=>.int (i/j)) Ip:=vd λi j h=>by
 let a:=a6 h;show#[a.1,?_];let b:j.natAbs<2^128:=by let:=a.2;ext
 let e:=(Nat.log2_lt ()).mpr b;ext
def Bu(i j:Int):Bool:=decide (0<=j/\j<=1000000/\i.natAbs<2^64)
def GW(i j:Int)(h:Bu i j=P):Lr i j:=by unfold Bu at h;show(show 0<=j/\j<=1000000/\i.natAbs<2^64 from a6 h)
def N9:=SC Bu λi j=>i^j.toNat
theorem OB:qv K (rI Lr λi j=>.int (i^j.toNat)) N9:=vd GW
def Tb:=SC Bu λi j=>i*2^j.toNat
theorem FM:qv K (rI Lr λi j=>.int (i*2^j.toNat)) Tb:=vd GW
def Ve(_ j:Int):Bool:=decide (0<=j)
def OZ:=SC Ve λi j=>i/2^j.toNat
theorem Fh:qv K (rI (λ_ j=>0<=j) λi j=>.int (i/2^j.toNat)) OZ:=vd λi j h=>a6 h
def EA:=fI λi j=>W7.bitAnd i j
theorem Gh:qv K (Aj λi j=>.int (W7.bitAnd i j)) EA:=Qi
def Tv:=fB λi j=>decide (i<j)
def P7:=fB λi j=>decide (i<=j)
def G1:=fB λi j=>decide (j<i)
def Vd:=fB λi j=>decide (j<=i)
theorem J9:qv K (Aj λi j=>.bl (decide (i<j))) Tv:=GP
theorem D2:qv K (Aj λi j=>.bl (decide (i<=j))) P7:=GP
theorem zm:qv K (Aj λi j=>.bl (decide (j<i))) G1:=GP
theorem MD:qv K (Aj λi j=>.bl (decide (j<=i))) Vd:=GP
def kF(d:D):Bool:=d.canLay0&&decide (d.depth<=64)
def eR(d e:D):I RV:=if(kF d&&e.canLay0)=P then R (.fz (.bool (Wn.eqv d e)))else U
def wC(d e:D):I RV:=if(kF d&&e.canLay0)=P then R (.fz (.bool (!Wn.eqv d e)))else U
def qh:qv K (NZ K Wu) eR:=by
 intro O H x y h g i Q n f b e q;unfold eR at e;split at e
 .rename_i a;ext e;unfold kF at a;simp only[WU,decide_eq_true_eq]at a;show#[h,g,f.plain,b.plain,a.1.1,a.2,a.1.2,q.at (.bl _)]
 .ext e
def Db:qv K (NZ K P) wC:=by
 intro O H x y h g i Q n f b e q;unfold wC at e;split at e
 .rename_i a;ext e;unfold kF at a;simp only[WU,decide_eq_true_eq]at a;show#[h,g,f.plain,b.plain,a.1.1,a.2,a.1.2,q.at (.bl _)]
 .ext e
def tW:D->D->I RV
 |.none,.none=>R (.fz (.bool P))
 |_,.none=>R (.fz (.bool Wu))
 |_,_=>U
def vt:D->D->I RV
 |.none,.none=>R (.fz (.bool Wu))
 |_,.none=>R (.fz (.bool P))
 |_,_=>U
def IV(h:DX O K H x d)(hd:d≠.none):x≠.YM:=by
 cases d with
 |none=>show a7 W hd
 |list ds=>let(a,xs,rfl,_):=Du h;simp
 |tuple ds=>let(a,xs,rfl,_):=EL h;simp
 |bool b=>ext h;simp
 |int b=>ext h;simp
 |str b=>ext h;simp
 |dict b=>ext h
def zy:qv K (λx y H Q=>y=.YM/\Q (.bl (decide (x=.YM))) H) tW:=by
 intro O H x y i g h Q n b a e q;unfold tW at e;split at e
 .ext e;ext b;ext a;show#[W,q.at (.bl _)]
 .rename_i f;ext e;ext a;show#[W,?_];rw[aP (IV b f)];show q.at (.bl _)
 .ext e
def Fo:qv K (λx y H Q=>y=.YM/\Q (.bl (!decide (x=.YM))) H) vt:=by
 intro O H x y i g h Q n b a e q;unfold vt at e;split at e
 .ext e;ext b;ext a;show#[W,q.at (.bl _)]
 .rename_i f;ext e;ext a;show#[W,?_];rw[aP (IV b f)];show q.at (.bl _)
 .ext e
def Pr(K:Ld)(neg:Bool):R2:=λx y H Q=>∃d ds,L2.DV K H x d/\(L2.DV K H y (.list ds)\/L2.DV K H y (.tuple ds))/\d.canLay0=P/\Wn.canLayAll0 ds=P/\d.depth<=64/\Q (.bl (if neg then !(ds.any λe=>Wn.eqv e d)else ds.any λe=>Wn.eqv e d)) H
def v5(p:X.A.units+65<cLine):OpR X (Yl .In) (Pr X.K Wu):=by
 intro g s o H x y v u Q I l e h;let(d,ds,n,a,j,i,m,q):=h;let(r,f):=n.reads I l;let hm:min (Wn.depthAll ds) d.depth<=64:=Xo (aa2 _ _) m;rcases a with a|a
 .let(bs,b):=a.reads I e;show alb b f i j () #[.bl _,H,I,W,q]
 .let(bs,b):=a.reads I e;show alc b f i j () #[.bl _,H,I,W,q]
def Nv(p:X.A.units+65<cLine):OpR X (Yl .NotIn) (Pr X.K P):=by
 intro g s o H x y v u Q I l e h;let(d,ds,n,a,j,i,m,q):=h;let(r,f):=n.reads I l;let hm:min (Wn.depthAll ds) d.depth<=64:=Xo (aa2 _ _) m;rcases a with a|a
 .let(bs,b):=a.reads I e;show ald b f i j () #[.bl _,H,I,W,q]
 .let(bs,b):=a.reads I e;show ale b f i j () #[.bl _,H,I,W,q]
def HY(d e:D):I RV:=match eZ e with
 |some ds=>if(kF d&&Wn.canLayAll0 ds)=P then R (.fz (.bool (ds.any λe=>Wn.eqv e d)))else U
 |none=>U
def C5(d e:D):I RV:=match eZ e with
 |some ds=>if(kF d&&Wn.canLayAll0 ds)=P then R (.fz (.bool (!ds.any λe=>Wn.eqv e d)))else U
 |none=>U
def Jb(a:DX O K H y e)(h:eZ e=R ds):L2.DV K H y (.list ds)\/L2.DV K H y (.tuple ds):=by
 unfold eZ at h;split at h
 .ext h;show .inr a.plain
 .ext h;show .inl a.plain
 .ext h
def uN:qv K (Pr K Wu) HY:=by
 intro O H x y i h j Q n f b e q;unfold HY at e;split at e
 .rename_i ds g
  split at e
  .rename_i a;ext e;unfold kF at a;simp only[WU,decide_eq_true_eq]at a;show#[i,ds,f.plain,Jb b g,a.1.1,a.2,a.1.2,q.at (.bl _)]
  .ext e
 .ext e
def OJ:qv K (Pr K P) C5:=by
 intro O H x y i h j Q n f b e q;unfold C5 at e;split at e
 .rename_i ds g
  split at e
  .rename_i a;ext e;unfold kF at a;simp only[WU,decide_eq_true_eq]at a;show#[i,ds,f.plain,Jb b g,a.1.1,a.2,a.1.2,q.at (.bl _)]
  .ext e
 .ext e
def bB(d e:D):I RV:=match eZ d,e with
 |some ds,.int i=>(m9 ds i).map .fz
 |_,_=>U
def LG(h:Yb O K H xs ds)(e:m9 ds i=R d):∃v,m9 xs i=R v/\DV O K H v d:=by
 unfold m9 at e⊢;rw[h.length];cases q:Iy ds.length i with
 |none=>rw[q]at e;ext e
 |some j=>rw[q]at e;show h.get e
def bS:qv K (U1 K) bB:=by
 intro O H x y t o r Q n l m e q;unfold bB at e;split at e
 .rename_i ds i b
  ext m;cases p:m9 ds i with
  |none=>rw[p]at e;ext e
  |some d=>
   rw[p]at e;ext e;unfold eZ at b;split at b
   .ext b;let(a,xs,rfl,h,g):=EL l;let(v,f,j):=LG g p;show .inr (.inl #[a,xs,i,v,W,W,h.1,f,q.at j])
   .ext b;let(a,xs,rfl,h,g):=Du l;let(v,f,j):=LG g p;show .inl #[a,xs,i,v,W,W,h.sq,f,q.at j]
   .ext b
 .ext e
def vx(xs:G D)(lo a:I Int):G D:=(xs.drop (HT.sIx xs.length 0 lo)).take (HT.sIx xs.length xs.length a - HT.sIx xs.length 0 lo)
def LY{lo a:I Int}(h:Yb O K H xs ds):Yb O K H (Hn xs lo a) (vx ds lo a):=by unfold Hn vx;rw[h.length];show(h.drop _).take _
def mH(n:Nat)(lo a:I Int):Bool:=decide (HT.sIx n 0 lo=0/\HT.sIx n n a=n)
def S0(K:Ld):V->I Int->I Int->Hp->VK->Prop:=λx lo a H Q=>UE K x lo a H Q\/TR K x lo a H Q
def KZ:TF X (S0 X.K):=by
 intro a s b H x v f e lo m g Q I i l pl j h;rcases h with h|h
 .show PF a s b H x v f e lo m g Q I i l pl j h
 .show Ta a s b H x v f e lo m g Q I i l pl j h
def VX:D->I Int->I Int->I RV
 |.list ds,lo,a=>R (.ow (vx ds lo a))
 |.tuple ds,lo,a=>if mH ds.length lo a=P then U else R (.fz (.tuple (vx ds lo a)))
 |_,_,_=>U
def z8:VF K (S0 K) VX:=by
 intro O H x lo j l i Q n g e q;unfold VX at e;split at e
 .ext e;let(a,xs,rfl,f,b):=Du g;show .inl #[a,xs,W,f.sq,Fin.new (LY b) q]
 .split at e
  .ext e
  .rename_i h;ext e;let(a,xs,rfl,f,b):=EL g;show .inr #[a,xs,W,f.1,λz=>h ?_,Fin.afn (LY b) n q];ext mH;rw[<-b.length];show aE z
 .ext e
def tO:D->I RV
 |.int i=>R (.fz (.int (-i)))
 |_=>U
def uA:VQ K (rU λi=>.int (-i)) tO:=by
 intro O H x f b Q n a e q;unfold tO at e;split at e
 .ext e;ext a;show#[_,W,q.at (.int _)]
 .ext e
def cO:G D->I RV
 |[d]=>(match eZ d with
  |some ds=>R (.fz (.int ds.length))
  |none=>U)
 |_=>U
def gF:Iv K (λxs H Q=>∃x n,xs=[x]/\N5 K x H n/\Q (.int n) H) cO:=by
 intro O H xs ds j Q n h e q;unfold cO at e;split at e
 .split at e
  .rename_i i f
   ext e;cases h with
   |cons b g=>
    ext g;unfold eZ at f;split at f
    .ext f;let(a,xs,rfl,b,g):=EL b;show#[_,xs.length,W,.inr #[xs,b.1,W],by rw[g.length];show q.at (.int _)]
    .ext f;let(a,xs,rfl,b,g):=Du b;show#[_,xs.length,W,.inl #[xs,b.sq,W],by rw[g.length];show q.at (.int _)]
    .ext f
  .ext e
 .ext e
def gO:G D->I RV
 |[.tuple ds]=>R (.fz (.tuple ds))
 |[.list ds]=>R (.fz (.tuple ds))
 |_=>U
def fP:Iv K (λxs H Q=>∃p c,xs=[.ref p]/\((SqL K H p c/\∀l,H l=U->Q (.ref l) (bW H l (.tup c)))\/(SqT K H p c/\Q (.ref p) H))) gO:=by
 intro O H xs ds h Q n g e q;unfold gO at e;split at e
 .ext e
  cases g with
  |cons b f=>ext f;let(a,xs,rfl,b,f):=EL b;show#[a,xs,W,.inr #[b.1,q.at (.tup b f)]]
 .ext e
  cases g with
  |cons b f=>ext f;let(a,xs,rfl,b,f):=Du b;show#[a,xs,W,.inl #[b.sq,Fin.afn f n q]]
 .ext e
def yZ:G D->I RV
 |[d]=>(eZ d).map .ow
 |_=>U
def Pq:Iv K (λxs H Q=>∃p c,xs=[.ref p]/\(SqL K H p c\/SqT K H p c)/\∀l,H l=U->Q (.ref l) (bW H l (.lst c))) yZ:=by
 intro O H xs ds j Q n g e q;unfold yZ at e;split at e
 .rename_i d
  cases g with
  |cons b f=>
   ext f;cases i:eZ d with
   |none=>rw[i]at e;ext e
   |some h=>
    rw[i]at e;ext e;unfold eZ at i;split at i
    .ext i;let(a,xs,rfl,b,f):=EL b;show#[a,xs,W,.inr b.1,Fin.new f q]
    .ext i;let(a,xs,rfl,b,f):=Du b;show#[a,xs,W,.inl b.sq,Fin.new f q]
    .ext i
 .ext e
def GM:G D->I RV
 |[.int i,.int j]=>R (.fz (.int (if j>i then j else i)))
 |_=>U
def PM:Iv K (λxs H Q=>∃i j,xs=[.int i,.int j]/\Q (.int (if j>i then j else i)) H) GM:=by
 intro O H xs ds h Q n b e q;unfold GM at e;split at e
 .ext e
  cases b with
  |cons g a=>
   cases a with
   |cons a f=>ext f;ext g;ext a;show#[_,_,W,q.at (.int _)]
 .ext e
end
end L3
namespace PySem
open Sem (wp)
open AutoSeq1 (wpAny_loadPart')
open Builtin Builtin.Str
section
variable{Y:WX}{w:Xm}{A:W8}{E:Wi->Ws->Prop}{s:Ws}
def rD(a:s.heap.IsTupleIter it t i)(j:s.heap.IsTuple t items)(h:items[i]?=R x)
  (m:∀c,c.IsTupleIter it t (i+1)->Heap.SameBut it s.heap c->Q x {s with heap:=c}):wpAny (model Y w) A (W7.SmallTypes.nextOf (.ref it)) Q E s:=by
 let(o,e,l,b):=id a;let(n,f,_,p,g):=j;ext W7.SmallTypes.nextOf;show Wf (X0 a.typeIs F.slot_tuple_iterator_next
  (Ym F.slot_tuple_iterator_next a.typeIs F.entry_tuple_iterator_next ?_ (F.args_tuple_iterator_next_1 _)))
 show wpAny _ _ (field (.ref it) 0>>=_) _ _ s;show Wf (Xd e b W ?_);show wpAny _ _ (if(Wi.ref t==Wi.none)=P then _ else _) _ _ s;rw[ax (show¬((Wi.ref t==Wi.none)=P)from WM)];show Wf (Xd e b W ?_);show Wf (Ya f g ?_);simp only[XN,h];show Wf (X1 e b (by simp) (Wt #[x,W,Wt (m _ ?_ (Heap.SameBut.update ..))]));show#[_,dk _ e (d0 (dP b _)),(Obj.cls_mapFields ..).trans l,by rw[dP b];simp[rawInt]]
def sR(j:A.handled=U)(a:s.heap.IsTupleIter it t i)(m:s.heap.IsTuple t items)(l:items[i]?=U)
  (n:∀c e,Heap.ExtBut it s.heap c->(∃o,c.get? e=R o/\o.cls=.type "StopIteration")->E (.ref e) {s with heap:=c}):wpAny (model Y w) A (W7.SmallTypes.nextOf (.ref it)) Q E s:=by
 let(o,f,r,h):=id a;let(p,b,_,q,g):=m;ext W7.SmallTypes.nextOf;show Wf (X0 a.typeIs F.slot_tuple_iterator_next
  (Ym F.slot_tuple_iterator_next a.typeIs F.entry_tuple_iterator_next ?_ (F.args_tuple_iterator_next_1 _)))
 show wpAny _ _ (field (.ref it) 0>>=_) _ _ s;show Wf (Xd f h W ?_);show wpAny _ _ (if(Wi.ref t==Wi.none)=P then _ else _) _ _ s;rw[ax (show¬((Wi.ref t==Wi.none)=P)from WM)];show Wf (Xd f h W ?_);show Wf (Ya b g ?_);simp only[XN,l];show Wf (aai (Wf (X1 f h (by simp) ?_)));show Wf ?_;simp only[newExc,newTuple];show Wf (Xx ?_ (by size_fits));show Wf (adW (by first|rfl|(simp only[firstArgMember];rfl)) ?_);show Xx ?_ (by size_fits);simp only[raiseNew];show Wf (wpAny_handled ?_)
 first|rw[show A.in1.handled=U from j]|rw[j]
 show Wf (Wt (wpAny_throw ?_));show n _ _ (((Heap.SameBut.update ..).extBut.push _).push _) #[_,cN _ W,W]
end
end PySem
namespace L3
open PySem PySem.Spec PyProof.Rows L2
def Oh(I:Inv X pins σ H s)(l:SqT X.K H a xs)(j:SqT X.K H a u):xs=u:=by
 let(g,i,(o,m,_,n,p),_):=I.tuple l;let(b,h,(r,e,_,t,f),_):=I.tuple j;rw[m]at e;ext e;rw[p]at f;let:g=b:=by
  let q:g.toArray=b.toArray:=by injection f
  simpa using q
 subst this;show i.inj h
def Hm{bs:G Bool}(r:Vals (bs.map V.bl) j){i:Nat}(h:j[i]?=R v):∃b,bs[i]?=R b/\v=.bool b:=by
 let e:=r.length;rw[Wg]at e;let g:i<bs.length:=by rw[e];show(Wj.mp h).1
 let(u,a,f):=r.get (by rw[Wv,Wr g];rfl);rw[h]at a;ext a;show#[bs[i],Wr g,f]
def Cw(bs:G Bool):((Wk bs.length).all λi=>(bs[i]?).getD P)=bs.all id:=by
 rw[agy,YS,YS];constructor
 .intro h b a;let(i,f,e):=aby.mp a;let:=h i (Xz.mpr f);rw[Wr f,e]at this;show this
 .intro h i f;let f:=Xz.mp f;rw[Wr f];show h _ (Yw f)
section
variable{X:Cx}
def qX(y:X.calm=P):Zf X (.builtin "all") (λxs H Q=>∃(p:Wo) (bs:br Bool),xs=[.ref p]/\SqL X.K H p (bs.map V.bl)/\Q (.bl (bs.all id)) H):=by
 intro g s B H xs C Q I r h;let(l,bs,rfl,t,q):=h;let(u,rfl,n):=mn r;ext n;let(m,N,pl,G):=I.list t;let a:=N.length;rw[Wg]at a;let f:l<s.heap.objs.size:=by let(_,_,e,_):=pl;show cn e
 show call_all_walk (aaz pl.isList ?_);show#[s.heap.objs.size,[s.heap.objs.size,l],[s.heap.objs.size],m.toArray.size,_,_,λi=>(bs[i]?).getD P,W,Walks.list (A:=X.A.in1) (I.ok.hd y) _ l (WZ f) m.toArray,
  #[#[_,cN _ W,W,W],pl.isList.push _],λi v F L M z j=>?_,λJ E w=>?_]
 .let(b,e,rfl):=Hm N (by simpa using z);simp only[e,acs]at j;show Yv j
 .rw[WA,<-a,Cw];show#[.bl _,H,I.kept λb o e=>w b o (λhm=>?_) (cj _ e),W,q];rw[WO.mp hm]at e;show XU _ (cn e)
end
section
variable{K:Ld}
def pJ:G D->I (G Bool)
 |[]=>R []
 |.bool b::r=>(pJ r).map (b::·)
 |_=>U
theorem yt:∀{xs:G V} {ds:G D} {bs:G Bool},Yb O K H xs ds->pJ ds=R bs->xs=bs.map V.bl
 |_,_,_,.nil,e=>by ext e;rfl
 |_,_,bs,.cons (ds:=r) h t,e=>by
  cases h with
  |bl b=>
   let a:(pJ r).map (b::·)=R bs:=e;cases q:pJ r with
   |none=>rw[q]at a;ext a
   |some f=>rw[q]at a;ext a;rw[yt t q];rfl
  |_=>ext e
def yr:G D->I RV
 |[.list ds]=>(pJ ds).map λbs=>.fz (.bool (bs.all id))
 |_=>U
def zU:Iv K (λxs H Q=>∃(p:M) (bs:G Bool),xs=[.ref p]/\SqL K H p (bs.map V.bl)/\Q (.bl (bs.all id)) H) yr:=by
 intro O H xs ds l Q n g e q;unfold yr at e;split at e
 .rename_i h
  cases j:pJ h with
  |none=>rw[j]at e;ext e
  |some bs=>
   rw[j]at e;ext e;cases g with
   |cons f b=>ext b;let(a,i,rfl,f,b):=Du f;let:=yt b j;subst this;show#[a,bs,W,f.sq,q.at (.bl _)]
 .ext e
def my:G D->I (G Int)
 |[]=>R []
 |.int b::r=>(my r).map (b::·)
 |_=>U
theorem nZ:∀{xs:G V} {ds:G D} {bs:G Int},Yb O K H xs ds->my ds=R bs->xs=bs.map V.int
 |_,_,_,.nil,e=>by ext e;rfl
 |_,_,bs,.cons (ds:=r) h t,e=>by
  cases h with
  |int b=>
   let a:(my r).map (b::·)=R bs:=e;cases q:my r with
   |none=>rw[q]at a;ext a
   |some f=>rw[q]at a;ext a;rw[nZ t q];rfl
  |_=>ext e
def iZ(ns:G Int):my (ns.map .int)=R ns:=by
 induction ns with
 |nil=>rfl
 |cons n r a=>show(my (r.map .int)).map (n::·)=_;rw[a];rfl
def Dv(x:Int):G Int->G Int
 |[]=>[x]
 |y::r=>if x<=y then x::y::r else y::Dv x r
def nK:G Int->G Int
 |[]=>[]
 |x::r=>Dv x (nK r)
theorem sA(x:Int):∀l,(Dv x l).Perm (x::l)
 |[]=>acF _
 |y::r=>by
  ext Dv;split
  .show acF _
  .show((sA x r).cons y).trans (aoR x y r)
theorem gG:∀l,(nK l).Perm l
 |[]=>acF _
 |x::r=>(sA x _).trans ((gG r).cons x)
theorem sU(x:Int):∀l:G Int,l.Pairwise (·<=·)->(Dv x l).Pairwise (·<=·)
 |[],_=>by simp[Dv]
 |y::r,h=>by
  ext Dv;let(f,g):=ZF.mp h;split
  .rename_i a
   show ZF.mpr #[λz b=>?_,h];rcases W2.mp b with e|e
   .rw[e];show a
   .let:=f z e;ext
  .rename_i a
   show ZF.mpr #[λz b=>?_,sU x r g];rcases W2.mp ((sA x r).mem_iff.mp b)with e|e
   .rw[e];ext
   .show f z e
theorem fY:∀l,(nK l).Pairwise (·<=·)
 |[]=>aa9
 |x::r=>sU x _ (fY r)
theorem oj{l m:G Int}(e:l.Perm m)(f:l.Pairwise (·<=·))(hm:m.Pairwise (·<=·)):l=m:=e.eq_of_pairwise (λa b _ _ h g=>ag7 h g) f hm
def zC:G D->I RV
 |[.list ds]=>(match my ds with
  |some a=>if a.length<64 then R (.ow ((nK a).map .int))else U
  |none=>U)
 |_=>U
def vV(ns:G Int):Yb O K H (ns.map V.int) (ns.map .int):=by
 induction ns with
 |nil=>show .nil
 |cons n r a=>show .cons (.int n) a
def w9:Iv K (λxs H Q=>∃(p:M) (ns:G Int),xs=[.ref p]/\SqL K H p (ns.map V.int)/\ns.length<64/\∀(l:M) (b:G Int),H l=U->b.Perm ns->b.Pairwise (·<=·)->Q (.ref l) (bW H l (.lst (b.map V.int)))) zC:=by
 intro O H xs ds u Q n f e q;unfold zC at e;split at e
 .rename_i m
  cases t:my m with
  |none=>rw[t]at e;ext e
  |some ns=>
   rw[t]at e;dsimp only at e;split at e
   .rename_i g
    ext e;cases f with
    |cons i h=>ext h;let(a,r,rfl,i,h):=Du i;let:=nZ h t;subst this;show#[a,ns,W,i.sq,g,λl b g f j=>?_];let o:=oj (f.trans (gG ns).symm) j (fY ns);subst o;show Fin.new (vV _) q l g
   .ext e
 .ext e
end
def VW(K:Ld)(H:Hp)(x:V)(t:String):Prop:=match x with
 |.YM=>t= "NoneType"
 |.bl _=>t= "bool"
 |.int _=>t= "int"
 |.str _=>t= "str"
 |.ref a=>(t= "list"/\∃xs,SqL K H a xs)\/(t= "tuple"/\∃xs,SqT K H a xs)
 |_=>False
def Qh(K:Ld):G V->Hp->VK->Prop:=λxs H Q=>∃x n t b,xs=[x,.ty n]/\VW K H x t/\afM K (.type t) (.type n)=R b/\Q (.bl b) H
def xX{X:Cx}:Zf X (.builtin "isinstance") (Qh X.K):=by
 intro j s v H xs C Q I r h;let(x,n,t,b,rfl,ty,e,q):=h;let(u,w,rfl,g,A):=Fp r;obtain rfl:w=Wi.type n:=A;let f:∀l,EP X j v Q (.bool b) {s with toks:=l}:=λl=>#[.bl b,H,I.tok l,W,q];cases x with
 |YM=>cases(show t= "NoneType" from ty);cases(show u=Wi.none from g);show Zq PySem.W.kitx_none I.kIn True.intro e (λz=>nomatch z) f
 |bl y=>cases(show t= "bool" from ty);cases(show u=Wi.bool y from g);show Zq PySem.W.kitx_bool I.kIn True.intro e (λz=>nomatch z) f
 |int i=>cases(show t= "int" from ty);let(t,q):=(show∃t,u=Wi.int i t from g);ext q;show Zq PySem.W.kitx_int I.kIn True.intro e (λz=>nomatch z) f
 |str y=>cases(show t= "str" from ty);let(t,q):=(show∃t,u=Wi.str y t from g);ext q;show Zq PySem.W.kitx_str I.kIn True.intro e (λz=>nomatch z) f
 |ref a=>
  cases(show u=Wi.ref a from g);rcases ty with⟨rfl,xs,h⟩|⟨rfl,xs,h⟩
  .let(B,r,(o,k,p,m,_),_):=I.list h;show Zq PySem.W.kitx_list I.kIn #[_,p,m] e (λz=>nomatch z) f
  .let(B,r,(o,p,m,_),_):=I.tuple h;show Zq PySem.W.kitx_tuple I.kIn #[o,p,m] e (λz=>nomatch z) f
 |_=>show(show False from ty).elim
section
variable{K:Ld}{E:XK}{B O N:cS}{X H L:Hp}{T:L2.St}{Y S:bC}{v:V}
def JX:D->I String
 |.none=>R "NoneType"
 |.bool _=>R "bool"
 |.int _=>R "int"
 |.str _=>R "str"
 |.list _=>R "list"
 |.tuple _=>R "tuple"
 |.dict _=>U
def Pb(n t:String):Bool:=n==t||(n== "int"&&t== "bool")
def NV{n t:String}(b:n= "int"\/n= "bool"\/n= "str"\/n= "list"\/n= "tuple"){d:D}(a:JX d=R t):afM K (.type t) (.type n)=R (Pb n t):=by ext d<;>(ext a;try (rcases b with rfl|rfl|rfl|rfl|rfl<;>rfl))
def T0{x:V}{d:D}{t:String}(h:DX O K H x d)(e:JX d=R t):VW K H x t:=by
 cases d with
 |none=>ext e;ext h;rfl
 |bool b=>ext e;ext h;rfl
 |int b=>ext e;ext h;rfl
 |str b=>ext e;ext h;rfl
 |dict b=>ext e
 |list ds=>ext e;let(a,xs,rfl,f,_):=Du h;show .inl #[W,xs,f.sq]
 |tuple ds=>ext e;let(a,xs,rfl,f,_):=EL h;show .inr #[W,xs,f.1]
def HX(n:String)(b:FE):FE:=λY=>(b Y).bind λa=>(Res.Xu (tD a.2 a.1)).bind λd=>(Res.Xu (JX d)).bind λt=>.ok (.fz (.bool (Pb n t)),a.2)
def Kx{n:String}{e:TE}{c:FE}(k:n= "int"\/n= "bool"\/n= "str"\/n= "list"\/n= "tuple")(m:EO K E e c):EO K E (Hi (Qh K) (fL e (fL (tC (.ty n)) ju))) (HX n c):=by intro B X O T H Y Q R w;show m B X O T H Y _ R (w.bind.imp λa b j x l i g h=>?_);let(d,q,b):=b.Xu;let(t,f,b):=b.Xu;show#[x,n,t,Pb n t,W,T0 (kr g h q) f,NV k f,b j _ l i g (.bl _)]
end
def HK{P:WX}{w:Xm}{K:Ld}{D l:Str->bP Wi}{k:Nat}{T a:Wo}{fd:XF}{x:Str}{F:FN}{b:Ws}{c:br Wi}{ns:br Int}
  (p:K.In b.heap) (f:b.heap.Ns WN D) (B:b.heap.Ns builtinsNs l) (g:∀x:Str,x≠ "__name__"->l x=XS x) (i:b.heap.NoLimit) (A:b.gens= #v[])
  (N:b.heap.get? a=R {cls:=.type "list",data:=.seq c.toArray}) (V:IntsAre c ns) (m:ns.length<=WG) (y:YL k callerA)
  (J:∀base:Heap,K.In base->base.Ns WN D->FnOk P w K D base ef k T fd [x] (qC K 1 F)) (j:∀(s:Ws) (u:Wi),abG s fd #[[u],[]] [(x,u)])
  (G:F [.list (ns.map .int)]=.ok (.fz (.bool Wl))):
  codeAny (model P w) callerA (.call (.ref T) #[[.ref a],[]]) (λr d=>r=.ok (.ret (.bool Wl))/\OldK b.heap d.heap/\d.os=b.os/\AllBare d.gens) b:=by
 show LL (sp:=λc H Q E=>qC K 1 F c H Q E\/(c.length=1/\False)) p f B g i A N V m y (λbase t q=>(J base t q).imp λc H Q E h=>?_) j (λH L C=>?_) λ_ _ _ h=>h
 .rcases h with h|h
  .show h
  .show h.2.elim
 .show .inl #[W,noO,[.list (ns.map .int)],λa z=>z.elim,.cons (.lst #[?_,λz=>z.elim] (vV ns)) .nil,?_]
  .rcases C with h|⟨o,Xp,n,S,h2,h3,Y,h5,X⟩
   .show .inl h
   .let e:=p a o S;rw[N]at e;ext e;ext Y;show .inr #[c,0,S,by rw[Wg];show m,by simpa using X]
  .rw[G];show λv M s I=>by ext I;rfl
def UI{l:afw}{n k:Nat}{q:WX}{i:br Str}{N:(Str->bP Wi)->Heap->Prop}{A:Xm->Heap->Prop}{d:DefRec}{K:Params->Ld}{F:FN}{x:Str}
  (D:l.most=lD n) (m:n<=WG) (r:d.params.defaults=[]) (C:YL k callerA)
  (J:∀(w:Xm) (h:Heap),A w h->(K w.params).In h)
  (O:∀(w:Xm) (b:Str->bP Wi) (c:Wo) (h:Heap),(K w.params).In h->h.Ns WN b->b d.name=lD (.ref c)->
   ∃fd:XF,(∀(s:Ws) (u:Wi),abG s fd #[[u],[]] [(x,u)])/\∀base:Heap,(K w.params).In base->base.Ns WN b->FnOk l.prog w (K w.params) b base ef k c fd [x] (qC (K w.params) 1 F))
  (L:∀ns:br Int,ns.length<=n->F [.list (ns.map .int)]=.ok (.fz (.bool Wl))):
  PySem.W.WalkO q i N A l.row.toRowW d [] (λf g=>aiT f g):=by
 show Att.attach_call D r λw z y b Q c o P U M a g ns G Y R S H p v j e E=>?_;let B:=J w _ Y;let(fd,I,t):=O w b c _ B G.T.g p;show HK B G.T.g G.T.b G.T.builtins G.T.nolimit E v j (Xo e m) C t I (L ns e)
def V8{P:WX}{w:Xm}{K:Ld}{d:Str->I B}{base:Heap}{x a:Str}{b:YK}{f:M}{fd:XF}{N c:G Str}{k n m:Nat}{g:FS}{h:FN}(F:Zl K x a b f fd)(S:YW N c (aG b))(l:c.length=n)(hm:N.length=m)(i:h=gI m g)
  (j:∀(e:B) (A:W8) (outer:G Env) (s:Ws) (H:Hp) (E:XK),YL k (A.deeper (W6 a (aG b) s.heap.objs.size f e))->
   ∃t,PSs (gM ef P w K d base N a (aG b) f e A outer s H E).nox (cY b) t/\SO K E t g):FnOk P w K d base ef (k+1) f fd c (qC K n h):=by
 subst i hm;show V1 F S l j
abbrev gQ(P:WX)(w:Xm)(K:Ld)(b:Str->I B)(base:Heap)(k:Nat)(x:Str)(a:G Str)(n:Nat)(F:FN):Prop:=Bp P w K b base k x a (qC K n F)
end L3
namespace L3
open PySem L2
abbrev nd(n:Nat):D:=.int (n:Int)
def bN(ns:G Nat):G D:=ns.map nd
def iC(ns:G Nat):(bN ns).length=ns.length:=by ext bN;rw[Wg]
def NQ(xs a:G Nat):bN (xs++a)=bN xs++bN a:=by ext bN;rw[WI]
def lw{i:Nat}(h:(bN ns)[i]?=R d):∃n,ns[i]?=R n/\d=nd n:=by
 unfold bN at h;rw[Wv]at h;cases e:ns[i]? with
 |none=>rw[e]at h;ext h
 |some n=>rw[e]at h;show#[n,W,(WE h).symm]
theorem bh(a:α):Res.Xu (R a)=.ok a:=W
theorem Bf(a:α):mv (Res.ok a)=.ok a:=W
theorem Dk(i:Nat)(a:bC):aa i a=FQ a i a[i]? :=W
theorem Kw(a:bC)(i:Nat)(d:D):FQ a i (R (R (.fz d)))=.ok (.fz d,a):=W
theorem IH(a:bC)(i:Nat)(ds:G D):FQ a i (R (R (.ow ds)))=.ok (.pl i,a):=W
theorem kO(ds:G D):CP (R (R (.ow ds)))=R ds:=W
theorem Ka(i:Nat)(d:D)(a:bC):gN i (.fz d) a=.ok (a.set i (R (.fz d))):=W
theorem Ch(b:Bool):Vt (.bool b)=R b:=W
theorem mM(ds:G D):cO [.tuple ds]=R (.fz (nd ds.length)):=W
theorem gr(ds:G D):cO [.list ds]=R (.fz (nd ds.length)):=W
theorem rR(i j:Int):Tv (.int i) (.int j)=R (.fz (.bool (decide (i<j)))):=W
theorem Fk(i j:Int):P7 (.int i) (.int j)=R (.fz (.bool (decide (i<=j)))):=W
theorem xu(i j:Int):G1 (.int i) (.int j)=R (.fz (.bool (decide (j<i)))):=W
theorem B3(i j:Int):Vd (.int i) (.int j)=R (.fz (.bool (decide (j<=i)))):=W
theorem gJ(i j:Int):dC (.int i) (.int j)=R (.fz (.int (i+j))):=W
theorem vj(i j:Int):wQ (.int i) (.int j)=R (.fz (.int (i - j))):=W
def yz(h:0<j):uK (.int i) (.int j)=R (.fz (.int (i % j))):=by show(if SL i j=P then _ else _)=_;rw[av (show SL i j=P from aE h)]
def Kb(h:0<j/\j<2^128):Ip (.int i) (.int j)=R (.fz (.int (i/j))):=by show(if Te i j=P then _ else _)=_;rw[av (show Te i j=P from aE h)]
def OX(h: -(2^64)<i/\i<2^64):DJ (.int i) (.int j)=R (.fz (.int (i*j))):=by show(if(jv i||jv j)=P then _ else _)=_;rw[av (by rw[show jv i=P from aE h,Zj])]
def Pz(h: -(2^64)<j/\j<2^64):DJ (.int i) (.int j)=R (.fz (.int (i*j))):=by show(if(jv i||jv j)=P then _ else _)=_;rw[av (by rw[show jv j=P from aE h,acu])]
def t9(h:lS j):gW [.int j]=R (ig 0 j.toNat):=by show(if lS j then _ else _)=_;rw[av h]
def Jr(n:Nat):ig 0 n=bN (Wk n):=by unfold ig bN;apply Ys;intro k _;rw[aiU]
def iG(h:n<=1000000):gW [nd n]=R (bN (Wk n)):=by rw[t9 (by ext lS;ext),Jr,XN]
def Iz(h:f b=.ok (.nx a)):bZ f g b=g a:=by ext bZ;rw[h];rfl
def JU(h:f a=.ok (.rt b)):bZ f g a=.ok (.rt b):=by ext bZ;rw[h];rfl
def Uz(h:c b=.ok (P,a)):pq c f g b=f a:=by ext pq;rw[h];rfl
def T3(h:c b=.ok (Wu,a)):pq c f g b=g a:=by ext pq;rw[h];rfl
def C9(h:f e=.ok (ds,a)):pZ f gt b e=tS gt b ds a:=by ext pZ;rw[h];rfl
def QX(h:j<=1000000/\i.natAbs<2^64):N9 (.int i) (nd j)=R (.fz (.int (i^j))):=by show(if Bu i (j:Int)=P then R (RV.fz (.int (i^((j:Nat):Int).toNat)))else U)=_;rw[av (by ext Bu;show aE #[by ext,by ext,h.2]),XN]
theorem P9:N9 (.int 10) (.int 18)=R (.fz (.int (10^18))):=QX #[by decide,by decide]
def nc(gt:FG)(f:FT)(g:FE)(d:D)(c:bC):Res (I D×bC):=(gt (.fz d) c).bind λe=>(f e).bind λb=>if b.1=P then(g b.2).bind λa=>(Res.Xu (B0 a.2 a.1)).bind λx=>.ok (R x.1,eU x.2)else .ok (U,eU b.2)
def vS(h:nc gt p q d j=.ok (o,i))(g:acc.length<1000000):fu gt p q (d::r) j acc=fu gt p q r i (acc++o.toList):=by
 unfold nc at h;show(gt (.fz d) j).bind _=_;cases n:gt (.fz d) j with
 |er x=>rw[n]at h;ext h
 |bad=>rw[n]at h;ext h
 |ok f=>
  rw[n,en]at h;rw[en];cases m:p f with
  |er x=>rw[m]at h;ext h
  |bad=>rw[m]at h;ext h
  |ok b=>
   let(b,e):=b;rw[m,en]at h;rw[en];cases b with
   |false=>rw[ax WM]at h⊢;ext h;rw[ae0,W4]
   |true=>
    rw[av W]at h⊢;cases l:q e with
    |er x=>rw[l]at h;ext h
    |bad=>rw[l]at h;ext h
    |ok a=>
     rw[l,en]at h;rw[en];cases t:B0 a.2 a.1 with
     |none=>rw[t]at h;ext h
     |some x=>rw[t]at h;ext h;show(if acc.length<1000000 then _ else _)=_;rw[av g];rfl
def M3(c:Nat)(h:c<=1000):Tb (.int 1) (nd c)=R (.fz (nd (2^c))):=by show(if Bu 1 (c:Int)=P then R (RV.fz (.int (1*2^((c:Nat):Int).toNat)))else U)=_;rw[av (by ext Bu;show aE #[by ext,by ext,by decide]),Int.one_mul,XN];congr 3
def Mj(a b:Nat):decide ((a:Int)=(b:Int))=decide (a=b):=by
 by_cases h:a=b
 .rw[aE h,aE (by rw[h])]
 .rw[aP h,aP ()]
theorem rN(a b:Nat):Wn.eqv (nd a) (nd b)=decide (a=b):=Mj a b
def ko(a b:Int):eR (.int a) (.int b)=R (.fz (.bool (decide (a=b)))):=by rfl
def yC(a b:Int):wC (.int a) (.int b)=R (.fz (.bool (!decide (a=b)))):=by rfl
def yh(a b:Nat):eR (nd a) (nd b)=R (.fz (.bool (decide (a=b)))):=by rw[ko,Mj]
theorem oA:∀ns:G Nat,Wn.canLayAll0 (bN ns)=P
 |[]=>rfl
 |n::r=>by show(Wn.canLay0 (nd n)&&Wn.canLayAll0 (bN r))=P;rw[oA r];rfl
theorem oh:∀ns:G Nat,Wn.depthAll (bN ns)=0
 |[]=>rfl
 |n::r=>by show max (Wn.depth (nd n)) (Wn.depthAll (bN r))=0;rw[oh r];rfl
theorem EY:∀xs a:G Nat,Wn.eqvAll (bN xs) (bN a)=decide (xs=a)
 |[],[]=>rfl
 |[],_::_=>rfl
 |_::_,[]=>rfl
 |n::r,m::t=>by show(Wn.eqv (nd n) (nd m)&&Wn.eqvAll (bN r) (bN t))=_;rw[EY r t,rN];rw[agy];simp
def Sc(ns:G Nat):kF (.list (bN ns))=P:=by show(Wn.canLayAll0 (bN ns)&&decide (Wn.depthAll (bN ns)+1<=64))=P;rw[oA,oh];rfl
def zM(xs a:G Nat):eR (.list (bN xs)) (.list (bN a))=R (.fz (.bool (decide (xs=a)))):=by ext eR;rw[Sc,show Wn.canLay0 (.list (bN a))=P from oA a,Y0,av W,show Wn.eqv (.list (bN xs)) (.list (bN a))=_ from EY xs a]
def M6(x:Nat)(xs:G Nat):((bN xs).any λe=>Wn.eqv e (nd x))=decide (x∈xs):=by
 induction xs with
 |nil=>rfl
 |cons y r a=>
  show(Wn.eqv (nd y) (nd x)||(bN r).any λe=>Wn.eqv e (nd x))=_;rw[a,rN];by_cases h:y=x
  .rw[aE h,aE (show x∈y::r by rw[h];show WK),Zj]
  .rw[aP h,aaM]
   by_cases g:x∈r
   .rw[aE g,aE (WH _ g)]
   .rw[aP g,aP (λz=>(W2.mp z).elim (λe=>h e.symm) g)]
def yn(x:Nat)(xs:G Nat):HY (nd x) (.tuple (bN xs))=R (.fz (.bool (decide (x∈xs)))):=by show(if(kF (nd x)&&Wn.canLayAll0 (bN xs))=P then _ else _)=_;rw[oA,show kF (nd x)=P from rfl,Y0,av W,M6]
theorem Ed{i:Nat}(h:xs[i]?=R v):m9 xs (i:Int)=R v:=GV h
def Hg(h:ds[i]?=R d):bB (.tuple ds) (nd i)=R (.fz d):=by show(m9 ds (i:Int)).map RV.fz=_;rw[Ed h];rfl
def qM(h:ds[i]?=R d):bB (.list ds) (nd i)=R (.fz d):=by show(m9 ds (i:Int)).map RV.fz=_;rw[Ed h];rfl
section
variable{Y ρ1 X N:bC}{T fb E S:FE}{pa L pv:PV}{dx J d:D}{rv:RV}{Q:br PV}{ds:br D}
def af(h:Y[i]?=R (R (.fz d))):aa i Y=.ok (.fz d,Y):=by rw[Dk,h,Kw]
def hJ(h:Y[i]?=R (R (.ow ds))):aa i Y=.ok (.pl i,Y):=by rw[Dk,h,IH]
theorem aQ:pC d Y=.ok (.fz d,Y):=W
def aK(c:T Y=.ok (pa,ρ1))(g:fb ρ1=.ok (L,X))(b:tD X (dR pa)=R dx)(a:tD X L=R J)(e:f dx J=R rv):aW f T fb Y=.ok (rv.pv,X):=by ext aW;rw[c,en,g,en,b,bh,en,a,bh,en,e,bh,en]
def xT(c:T Y=.ok (pa,ρ1))(a:tD ρ1 pa=R dx)(b:f dx=R rv):Cp f T Y=.ok (rv.pv,ρ1):=by ext Cp;rw[c,en,a,bh,en,b,bh,en]
def ci(c:T Y=.ok (pa,ρ1))(a:tD ρ1 pa=R (.bool b)):a9 T Y=.ok (b,ρ1):=by ext a9;rw[c,en,a,bh,en,Ch,bh,en]
def yO(c:f Y=.ok (a,ρ1))(e:a=P->g ρ1=.ok (b,ρ1)):CO f g Y=.ok (a&&b,ρ1):=by
 ext CO;rw[c,en];cases a with
 |true=>rw[av W,e W,ab1]
 |false=>rw[ax WM,ZK]
def zT(c:f Y=.ok (a,ρ1))(e:a=Wu->g ρ1=.ok (b,ρ1)):LM f g Y=.ok (a||b,ρ1):=by
 ext LM;rw[c,en];cases a with
 |true=>rw[av W,Zj]
 |false=>rw[ax WM,e W,aaM]
def uy(b:f Y=.ok (a,ρ1)):wV f Y=.ok (!a,ρ1):=by ext wV;rw[b,en]
def yp(c:a9 T Y=.ok (a,ρ1))(e:a=P->fb ρ1=.ok (.fz (.bool b),ρ1)):JO T fb Y=.ok (.fz (.bool (a&&b)),ρ1):=by
 ext JO;rw[c,en];cases a with
 |true=>rw[av W,e W,ab1]
 |false=>rw[ax WM,ZK]
theorem aH:aC Y=.ok ([],Y):=W
def aq(b:T Y=.ok (pa,ρ1))(a:fr ρ1=.ok (Q,X)):ah T fr Y=.ok (dR pa::Q,X):=by ext ah;rw[b,en,a,en]
def eA(b:fr Y=.ok (Q,ρ1))(hd:Cg ρ1 Q=R ds)(a:f ds=R rv):gq f fr Y=.ok (rv.pv,ρ1):=by ext gq;rw[b,en,hd,bh,en,a,bh,en]
def cI(c:fr Y=.ok (Q,ρ1))(hd:tV ρ1 Q=R (ds,X))(b:ds.length=n)(a:F ds=.ok rv):eE F n fr Y=.ok (rv.pv,X):=by ext eE;rw[c,en,hd,bh,en];dsimp only;rw[av b,a,Bf,en]
def hW(b:fr Y=.ok (Q,ρ1))(hd:tV ρ1 Q=R (ds,X))(a:ds.length<=1000):df fr Y=.ok (.fz (.tuple ds),X):=by ext df;rw[b,en,hd,bh,en];dsimp only;rw[av a]
def mK(b:fr Y=.ok (Q,ρ1))(hd:tV ρ1 Q=R (ds,X))(a:ds.length<=1000):di fr Y=.ok (.ow ds,X):=by ext di;rw[b,en,hd,bh,en];dsimp only;rw[av a]
def Ja(c:T Y=.ok (pa,ρ1))(a:tD ρ1 pa=R dx)(b:JX dx=R t):HX n T Y=.ok (.fz (.bool (Pb n t)),ρ1):=by ext HX;rw[c,en,a,bh,en,b,bh,en]
def u0(g:Y[i]?=R (R (.ow h)))(c:S Y=.ok (pa,ρ1))(b:B0 ρ1 pa=R (d,X))(f:X[i]?=R (R (.ow ds)))(e:ds.length<1000000)(a:X.set i (R (.ow (ds++[d])))=x):BT i S Y=.ok (.fz .none,x):=by ext BT;rw[g,kO,bh,en,c,en,b,bh,en];dsimp only;rw[f,kO,bh,en,av e,a]
def eN(c:g Y=.ok (ds,ρ1))(b:x8 ρ1 e=R (cs,X))(a:mv (fu gt f S ds (Wz n U++cs.map λd=>R (.fz d)) [])=.ok xs):eB n e g gt f S Y=.ok (.ow xs,X):=by ext eB;rw[c,en];dsimp only;rw[b,bh,en];dsimp only;rw[a,en]
def Rp(a:c Y=.ok (P,ρ1))(h:T ρ1=.ok (pv,X)):P0 c T fb Y=.ok (pv,X):=by ext P0;rw[a,en,av W,h]
def Sd(a:c Y=.ok (Wu,ρ1))(h:fb ρ1=.ok (pv,X)):P0 c T fb Y=.ok (pv,X):=by ext P0;rw[a,en,ax WM,h]
theorem jF:bB (.tuple (a::r)) (.int 0)=R (.fz a):=Hg W
theorem lZ:bB (.tuple (a::b::r)) (.int 1)=R (.fz b):=Hg W
theorem uX:bB (.tuple (a::b::c::r)) (.int 2)=R (.fz c):=Hg W
def Sz(b:k<=1000)(a:xs.length<=1000):DJ (.list xs) (nd k)=R (.ow (Wz k xs).flatten):=by show(if xs.length*((k:Nat):Int).toNat<=1000000/\ -(2^63)<=(k:Int)/\(k:Int)<2^63 then R (RV.ow (Wz ((k:Nat):Int).toNat xs).flatten)else U)=_;rw[XN,av #[Xo (abK a b) (),by ext,by ext]]
def iR(c:S Y=.ok (pa,ρ1))(a:B0 ρ1 pa=R (d,X))(b:eZ d=R e):gU S Y=.ok (e,X):=by ext gU;rw[c,en,a,bh,en];dsimp only;rw[b,bh,en]
def oa(b:fr Y=.ok (Q,ρ1))(hd:Cg ρ1 Q=R ds)(a:f ds=R e):k7 f fr Y=.ok (e,ρ1):=by ext k7;rw[b,en,hd,bh,en,a,bh,en]
def zW(b:S Y=.ok (pv,ρ1))(a:g pv ρ1=.ok X)(c:X=N):gw S g Y=.ok (.nx N):=by ext gw;rw[b,en];dsimp only;rw[a,en,c]
def Ej(a:S Y=.ok (pv,ρ1)):pp S Y=.ok (.nx ρ1):=by ext pp;rw[a,en]
def yL(b:S Y=.ok (pv,ρ1))(a:Hr ρ1 pv=R rv):fC S Y=.ok (.rt rv):=by ext fC;rw[b,en];dsimp only;rw[a,bh,en]
def HU(e:gt (.fz d) Y=.ok ρ1)(b:j ρ1=.ok (P,X))(g:S X=.ok (pv,N))(a:B0 N pv=R (x,i))(f:eU i=h):nc gt j S d Y=.ok (R x,h):=by ext nc;rw[e,en,b,en,av W,g,en,a,bh,en,f]
def UQ(b:gt (.fz d) Y=.ok ρ1)(a:g ρ1=.ok (Wu,X))(e:eU X=f):nc gt g S d Y=.ok (U,f):=by ext nc;rw[b,en,a,en,ax WM,e]
end
end L3
namespace PySem
open Sem (wp)
open Builtin
open AutoSeq1 (wpAny_loadPart')
theorem sO:fillsNumberSlot (.type "tuple") "mul"=pure Wu:=
 fillsNumberSlot_seq F.slot_tuple_mul.lookup (by left) F.slot_tuple_rmul.lookup (by left)
def yV:seqRepeat? (.type "tuple")=pure (R (.builtin "tuple.__mul__")):=by unfold seqRepeat?;rw[seqSlot_of (name:= "__mul__") F.slot_tuple_mul.lookup (by left),seqSlot_of (name:= "__rmul__") F.slot_tuple_rmul.lookup (by left)];rfl
theorem vK(a:Int)(t:Tok)(l:M)(b:Array B)(n:Nat)(dct:I M)(f:Array (I B)):
  Meets (W7.«int.__rmul__» #[[.int a t,.ref l],[]]) (λ_ R s=>s.heap.get? l=lD {cls:=.type "tuple",dict:=dct,data:=.seq b n,slots:=f}/\R (.ok (.ret Wi.notImplemented)) s):=
 .of_wp λe w A R s h=>by let(m,g,d,i,j):=s;let(o,h):=h;wp_walk;show#[_,W,h]
theorem AI(l:M)(a:Array B)(n:Nat)(dct:I M)(e:Array (I B))(u:Tok):
  Meets (W7.«tuple.__mul__» #[[.ref l,.int 1 u],[]]) (λ_ R s=>s.heap.get? l=lD {cls:=.type "tuple",dict:=dct,data:=.seq a n,slots:=e}/\R (.ok (.ret (Wi.ref l))) s):=
 .of_wp λb w A R s h=>by
  let(j,g,d,f,i):=s;let(m,h):=h
  wp_walk
  show#[_,W,h]
theorem Ba(l:M)(a:Array Wi)(n:Nat)(dct:bP M)(j:Array (bP Wi))(x:Int)(u:Tok)(I:2<=x)(r:x<=1000)(e:a.isEmpty=Wu)(D:a.size<=1000):
  Meets (W7.«tuple.__mul__» #[[.ref l,.int x u],[]]) (λ_ R s=>s.heap.get? l=lD {cls:=.type "tuple",dict:=dct,data:=.seq a n,slots:=j}/\R (.ok (.ret (Wi.ref s.heap.objs.size))) {s with heap:=s.heap.push {cls:=Wi.type "tuple",data:=Data.seq (aa4 (λk c=>k++c) #v[] (Wz x.toNat a))},toks:=s.toks}):=
 .of_wp λf w A R s h=>by
  let(G,g,d,E,F):=s;let(q,h):=h;let C:¬(decide (x< -(2^63))||decide (x≥2^63))=P:=by simp;ext
  let B:(x==1)=Wu:=by simp;ext
  let z:decide (x<=0)=Wu:=by simp;ext
  let K:(a.isEmpty||x==1)=Wu:=by rw[e,B];rfl
  let J:(decide (x<=0)||a.isEmpty)=Wu:=by rw[e,z];rfl
  let i:(a.size:Int)*x<=1000000:=by let:(a.size:Int)*x<=1000*1000:=Int.mul_le_mul () r () ();ext
  let y:¬(a.size:Int)*x>(2^63 - 1)/8:=by ext
  let v:¬Tuple.tupleTooMany ((a.size:Int)*x)=P:=by
   ext Tuple.tupleTooMany;simp;let:(WG:Nat)=16777216:=by decide
   ext
  wp_walk
  rw[ax C]
  wp_walk using wpAny_loadPart' q
  rw[ax y];dsimp only;rw[ax v];let p:(aa4 (λk c=>k++c) #v[] (Wz x.toNat a)).size<=WG:=by
   let t:∀(m:Nat) (b:Array Wi),(aa4 (λk c=>k++c) b (Wz m a)).size=b.size+m*a.size:=by
    intro m
    induction m with
    |zero=>intro b;simp
    |succ m o=>intro b;rw[XJ,aa8,o,Array.size_append,aiS];ext
   rw[t];let H:x.toNat*a.size<=1000*1000:=abK () D;let:(WG:Nat)=16777216:=by decide
   simp;ext
  wp_walk
  show#[_,W,h]
end PySem
namespace L3
open PySem PySem.Spec PyProof.Rows L2
def Qw(K:Ld):R2:=λx y H Q=>∃(a:M) (k:Nat) (xs:G V),x=.ref a/\y=.int (k:Int)/\SqT K H a xs/\xs≠[]/\1<=k/\k<=1000/\xs.length<=1000/\
 (k=1->Q (.ref a) H)/\(2<=k->∀p,H p=U->Q (.ref p) (bW H p (.tup (Wz k xs).flatten)))
def Oy:OpR X (Yx .Mult) (Qw X.K):=by
 intro j s R H x y v u Q I C B h;let(a,k,xs,rfl,rfl,J,i,Y,O,M,G,E):=h;ext C;let(t,rfl):=B;let(f,r,L,U):=I.tuple J;let((cls,dd,p,g),e,o,n,m):=id L;simp only at o m;subst o m;let l:=r.length;show aeZ () #[_,e,W] (λA=>acP A k t) sO F.fills_int_mul F.slot_int_rmul yV F.slot_int_index.lookup
  (Y3 F.slot_int_rmul (acP s k t) F.entry_int_rmul (F.args_int_rmul_2 _ _) (vK k t a f.toArray n dd g) #[e,W,#[_,e,W],?_])
 by_cases N:k=1
 .subst N;show Y3 F.slot_tuple_mul #[_,e,W] F.entry_tuple_mul (F.args_tuple_mul_2 _ _) (AI a f.toArray n dd g t) #[e,#[.ref a,H,I,W,G W]]
 .show Y3 F.slot_tuple_mul #[_,e,W] F.entry_tuple_mul (F.args_tuple_mul_2 _ _) (Ba a f.toArray n dd g k t () () ?_ (by rw[WA];ext)) #[e,?_]
  .cases f with
   |nil=>ext r;show a7 W i
   |cons y S=>rfl
  .let P:aa4 (λz w=>z++w) #v[] (Wz ((k:Nat):Int).toNat f.toArray)=(Wz k f).flatten.toArray:=by
    let:=sL f k [];rw[Yq]at this;rw[XN];show this
   rw[P];show#[.ref s.heap.objs.size,_,I.laid (λb T q=>cj _ q) (Ww _) ?_,W,E () _ (I.XY.fresh (Ww _))];show#[?_,_,r.rep k,aco.new _ _];rw[Gf];show Xo (abK O M) ()
def QL(K:Ld):R2:=λx y H Q=>JI K x y H Q\/Qw K x y H Q
theorem Fj:OpR X (Yx .Mult) (QL X.K):=OpR.or O0 Oy
def jK:D->D->I RV
 |.tuple xs,.int k=>if xs≠[]/\1<=k/\k<=1000/\xs.length<=1000 then R (.fz (.tuple (Wz k.toNat xs).flatten))else U
 |d,e=>DJ d e
def AR{K:Ld}:qv K (QL K) jK:=by
 intro O H x y p l o Q n g f e q;unfold jK at e;split at e
 .rename_i ds k
  split at e
  .rename_i h
   ext e;ext f;let(a,xs,rfl,i,b):=EL g;obtain⟨m,rfl⟩:∃m:Nat,k=(m:Int):=#[k.toNat,by ext];rw[XN]at q;show .inr #[a,m,xs,W,W,i.1,λz=>h.1 (b.ne.mp z),by ext,by ext,by rw[b.length];show h.2.2.2,λe=>?_,λ_=>Fin.afn (b.flat m) n q];subst e;let j:(Wz 1 ds).flatten=ds:=by simp
   rw[j]at q;show q.at (.tup i b)
  .ext e
 .show .inl (OA O H x y p l o Q n g f e q)
theorem BJ(i j:Int):jK (.int i) (.int j)=DJ (.int i) (.int j):=W
theorem rh(h: -(2^64)<i/\i<2^64):jK (.int i) (.int j)=R (.fz (.int (i*j))):=(BJ i j).trans (OX h)
theorem J0(h: -(2^64)<j/\j<2^64):jK (.int i) (.int j)=R (.fz (.int (i*j))):=(BJ i j).trans (Pz h)
end L3
namespace PySem
open Sem (wp)
open Builtin Builtin.Str
def itAt:Bool->Heap->M->M->Nat->Prop
 |true,h,it,a,i=>h.IsTupleIter it a i
 |false,h,it,a,i=>h.IsListIter it a i
def sqAt:Bool->Heap->M->Array B->Prop
 |true,h,a,xs=>h.IsTuple a xs
 |false,h,a,xs=>h.IsList a xs
def AG:Bool->String
 |true=> "tuple_iterator"
 |false=> "list_iterator"
def itAt.ext(x:itAt b h it a i)(e:Heap.ExtBut c h h')(n:it≠c):itAt b h' it a i:=by
 cases b with
 |true=>show Heap.IsTupleIter.extBut x e n
 |false=>show Heap.IsListIter.extBut x e n
def itAt.to(x:itAt b h it a i)(e:∀o,h.get? it=R o->h'.get? it=R o):itAt b h' it a i:=by
 cases b with
 |true=>show Heap.IsTupleIter.at x e
 |false=>show Heap.IsListIter.at x e
def itAt.live(x:itAt b h it a i):∃o,h.get? it=R o/\∀v,o.data≠.cell v:=by
 cases b with
 |true=>let(o,e,_,d):=(show h.IsTupleIter it a i from x);show#[o,e,λv z=>by rw[d]at z;ext z]
 |false=>let(o,e,_,d):=(show h.IsListIter it a i from x);show#[o,e,λv z=>by rw[d]at z;ext z]
def sqAt.ext(x:sqAt b h a xs)(e:Heap.ExtBut c h h')(n:a≠c):sqAt b h' a xs:=by
 cases b with
 |true=>show Heap.IsTuple.extBut x e n
 |false=>show Heap.IsList.extBut x e n
def sqAt.psh(x:sqAt b h a xs)(o:Obj):sqAt b (h.push o) a xs:=by
 cases b with
 |true=>show Heap.IsTuple.push x o
 |false=>show Heap.IsList.push x o
def sqAt.lt(x:sqAt b h a xs):a<h.objs.size:=by
 cases b with
 |true=>let(o,e,_):=(show h.IsTuple a xs from x);show cn e
 |false=>let(o,e,_):=(show h.IsList a xs from x);show cn e
section
variable{prog:WX}{w:Xm}{A:W8}{E:Wi->Ws->Prop}{s:Ws}
def yy(d:itAt b s.heap it l i)(e:sqAt b s.heap l xs)(a:xs[i]?=R x)
  (q:∀c,itAt b c it l (i+1)->Heap.SameBut it s.heap c->Q x {s with heap:=c}):wpAny (model prog w) A (SmallTypes.nextOf (.ref it)) Q E s:=by
 cases b with
 |true=>show rD d e a q
 |false=>show wpAny_nextOf_list_item d e a q
def F9(g:A.handled=U)(d:itAt b s.heap it l i)(f:sqAt b s.heap l xs)(a:xs[i]?=U)
  (q:∀c e,Heap.ExtBut it s.heap c->(∃o,c.get? e=R o/\o.cls=.type "StopIteration")->E (.ref e) {s with heap:=c}):wpAny (model prog w) A (SmallTypes.nextOf (.ref it)) Q E s:=by
 cases b with
 |true=>show sR g d f a q
 |false=>show wpAny_nextOf_list_end g d f a q
def FZ(a:sqAt b s.heap l xs)
  (q:Q (.ref s.heap.objs.size) {s with heap:=s.heap.push {cls:=.type (AG b),data:=.fields #v[.ref l,.int 0 0]}}):wpAny (model prog w) A (pyIter (.ref l)) Q E s:=by
 cases b with
 |true=>show ab0 a q
 |false=>show aaz a q
def G4{Q:Wi->Ws->Prop}(D:adh z TI TO i1 i2 l1 l2)(k:aey s.heap z TI TO .none)
  (hTI:IsPair s.heap TI (.ref i1) (.ref i2)) (hTO:IsPair s.heap TO a b) (h1:itAt b1 s.heap i1 l1 n) (h2:itAt b2 s.heap i2 l2 n) (hl1:sqAt b1 s.heap l1 xs) (V:sqAt b2 s.heap l2 ys) (hx:xs[n]?=lD x) (hy:ys[n]?=lD y)
  (q:∀d,aey d z TI TO (rawInt s.heap.objs.size)->IsPair d TO x y->itAt b1 d i1 l1 (n+1)->itAt b2 d i2 l2 (n+1)->IsPair d s.heap.objs.size x y->d.objs.size=s.heap.objs.size+1->
   (∀c o,c≠z->c≠TO->c≠i1->c≠i2->s.heap.get? c=lD o->d.get? c=lD o)->Q (.ref s.heap.objs.size) {s with heap:=d}):
  wpAny (model prog w) A (W7.«zip.__next__» #[[.ref z],[]]) (λfin s'=>∃v,fin=.done (.ret v)/\Q v s') E s:=by
 show wpAny _ _ (field (.ref z) 2>>=_) _ _ _;show Wf (Xd k W W ?_);show wpAny _ _ (field (.ref z) 3>>=_) _ _ _;show Wf (Xd k W W ?_);show Wf (Ya hTI W ?_);show wpAny _ _ (SmallTypes.ownedTupleIsFree (.ref z)>>=_) _ _ _;show Wf ?_;ext SmallTypes.ownedTupleIsFree;show Wf (Xd k W W (Wt ?_));simp only[if_true];show Wf (aai ?_);show Wf (Xd k W W ?_);show Wf (Y4 k (by simp) λk₁ t g=>?_);let agP:=t;clear t;show Wf ?_;simp only[agk,agz,aba,ady];show Wf (Wf (acM ?_));show wpAny _ _ (SmallTypes.nextOf (.ref i1)>>=_) _ _ _;show Wf (yy (h1.ext g.extBut D.i1z) (hl1.ext g.extBut D.l1z) hx λk₂ Z i=>Wt ?_);let J:=i.extBut _ _ D.TOi1 (g.extBut _ _ D.TOz hTO);show Wf (Ya J W ?_);show Wf (acg J λk₃ I h=>?_);let M:=I;clear I;show Wf (Zu (Wt ?_));show Wf (Wf (acM ?_));show wpAny _ _ (SmallTypes.nextOf (.ref i2)>>=_) _ _ _;show Wf (yy (((h2.ext g.extBut D.i2z).ext i.extBut D.i12.symm).ext h.extBut D.TOi2.symm) (((V.ext g.extBut D.l2z).ext i.extBut D.l2i1).ext h.extBut D.l2TO) hy λk₄ Y l=>Wt ?_);let H:=l.extBut _ _ D.TOi2 M;show Wf (Ya H W ?_);show Wf (acg H λf G j=>?_);let p:IsPair f TO x y:=G;clear G;show Wf (Zu (Wt (Wt ?_)));show Wf (Ya p W ?_);show Wf (wpAny_newTuple ?_);let U:f.objs.size=s.heap.objs.size:=by rw[j.1,l.1,h.1,i.1,g.1]
 let C:=j.extBut _ _ D.TOz.symm (l.extBut _ _ D.i2z.symm (h.extBut _ _ D.TOz.symm (i.extBut _ _ D.i1z.symm agP)));let kp:∀c o,c≠z->c≠TO->c≠i1->c≠i2->s.heap.get? c=lD o->f.get? c=lD o:=λc o N c2 c3 c4 e=>
  j.extBut _ _ c2 (l.extBut _ _ c4 (h.extBut _ _ c2 (i.extBut _ _ c3 (g.extBut _ _ N e))))
 let T:=((Z.ext h.extBut D.TOi1.symm).ext l.extBut D.i12).ext j.extBut D.TOi1.symm;let S:=Y.ext j.extBut D.TOi2.symm;let X:=cn C;show wpAny _ _ (SmallTypes.ownedTupleHandOut (.ref z) (.ref f.objs.size)>>=_) _ _ _;show Wf ?_;ext SmallTypes.ownedTupleHandOut;let R:aey (f.push {cls:=.type "tuple",data:=.seq #v[x,y]}) z TI TO .ellipsis:=cj _ C;show Wf (Y4 R (by simp) λk₇ P B=>?_);let L:=P;show Y4 L (by simp) λr O u=>?_;let m:=O;let up:∀c o,c≠z->f.get? c=lD o->r.get? c=lD o:=λc o N e=>u.extBut _ _ N (B.extBut _ _ N (cj _ e));let F:=u.extBut _ _ (XX X) (B.extBut _ _ (XX X) (cN _ W));let K:r.objs.size=f.objs.size+1:=by rw[u.1,B.1,dt]
 rw[U]at m F K;show Wt #[_,W,?_];rw[U];show q r m (up _ _ D.TOz p) (T.to λo e=>up _ o D.i1z e) (S.to λo e=>up _ o D.i2z e) F K λc o N c2 c3 c4 e=>up c o N (kp c o N c2 c3 c4 e)
def LO(T:A.handled=Wh)(D:adh z TI TO i1 i2 l1 l2)(d:aey s.heap z TI TO .none)
  (M:IsPair s.heap TI (.ref i1) (.ref i2)) (L:IsPair s.heap TO a b) (U:itAt b1 s.heap i1 l1 n) (Z:itAt b2 s.heap i2 l2 n) (F:sqAt b1 s.heap l1 xs) (J:sqAt b2 s.heap l2 ys) (O:xs[n]?=Wh\/ys[n]?=Wh)
  (q:∀k e,(∀c o,c≠z->c≠TO->c≠i1->c≠i2->s.heap.get? c=lD o->k.get? c=lD o)->(∃o,k.get? e=lD o/\o.cls=.type "StopIteration")->E (.ref e) {s with heap:=k}):
  wpAny (model prog w) A (W7.«zip.__next__» #[[.ref z],[]]) Q E s:=by
 show wpAny _ _ (field (.ref z) 2>>=_) _ _ _;show Wf (Xd d W W ?_);show wpAny _ _ (field (.ref z) 3>>=_) _ _ _;show Wf (Xd d W W ?_);show Wf (Ya M W ?_);show wpAny _ _ (SmallTypes.ownedTupleIsFree (.ref z)>>=_) _ _ _;show Wf ?_;ext SmallTypes.ownedTupleIsFree;show Wf (Xd d W W (Wt ?_));simp only[if_true];show Wf (aai ?_);show Wf (Xd d W W ?_);show Wf (Y4 d (by simp) λS y f=>?_);let H:=y;show Wf ?_;simp only[agk,agz,aba,ady];show Wf (Wf (acM ?_));show wpAny _ _ (SmallTypes.nextOf (.ref i1)>>=_) _ _ _;cases hx:xs[n]? with
 |none=>
  show Wf (F9 T (U.ext f.extBut D.i1z) (F.ext f.extBut D.l1z) hx λC e g K=>?_);let(I,i,j):=K;let m:=g _ _ D.i1z.symm H;let ne:e≠z:=λt=>by subst t;rw[m]at i;ext i;simp at j
  show Y4 m (by simp) λr _ h=>q r e (λc o G _ N _ t=>h.extBut _ _ G (g _ _ N (f.extBut _ _ G t))) #[I,h.extBut _ _ ne i,j]
 |some x=>
  let Y:ys[n]?=Wh:=by
   rcases O with t|t
   .rw[hx]at t;ext t
   .show t
  show Wf (yy (U.ext f.extBut D.i1z) (F.ext f.extBut D.l1z) hx λC X g=>Wt ?_);let p:=g.extBut _ _ D.TOi1 (f.extBut _ _ D.TOz L);show Wf (Ya p W ?_);show Wf (acg p λr P h=>?_);show Wf (Zu (Wt ?_));show Wf (Wf (acM ?_));show wpAny _ _ (SmallTypes.nextOf (.ref i2)>>=_) _ _ _;show Wf (F9 T (((Z.ext f.extBut D.i2z).ext g.extBut D.i12.symm).ext h.extBut D.TOi2.symm) (((J.ext f.extBut D.l2z).ext g.extBut D.l2i1).ext h.extBut D.l2TO) Y λR e v K=>?_);let(I,i,j):=K;let l:=v _ _ D.i2z.symm (h.extBut _ _ D.TOz.symm (g.extBut _ _ D.i1z.symm H));let ne:e≠z:=λt=>by subst t;rw[l]at i;ext i;simp at j
  show Y4 l (by simp) λB _ u=>q B e (λc o G c2 N c4 t=>u.extBut _ _ G (v _ _ c4 (h.extBut _ _ c2 (g.extBut _ _ N (f.extBut _ _ G t))))) #[I,u.extBut _ _ ne i,j]
end
section
variable{Y:WX}{w:Xm}{A:W8}{E:Wi->Ws->Prop}{s:Ws}
def B5(D:adh z TI TO L J S N)(k:aey s.heap z TI TO .none)
  (h:IsPair s.heap TI (.ref L) (.ref J)) (g:IsPair s.heap TO a b) (p:itAt X s.heap L S n) (m:itAt T s.heap J N n) (f:sqAt X s.heap S xs) (e:sqAt T s.heap N ys) (l:xs[n]?=R x) (j:ys[n]?=R y)
  (q:∀d,aey d z TI TO (rawInt s.heap.objs.size)->IsPair d TO x y->itAt X d L S (n+1)->itAt T d J N (n+1)->IsPair d s.heap.objs.size x y->d.objs.size=s.heap.objs.size+1->
   (∀c o,c≠z->c≠TO->c≠L->c≠J->s.heap.get? c=R o->d.get? c=R o)->Q (R (.ref s.heap.objs.size)) {s with heap:=d}):
  wpAny (model Y w) A (pyNext (.ref z)) Q E s:=by
 let i:s.TypeIs (.ref z) "zip":=#[_,k,W];ext pyNext;show Wf (anp (X0 i F.slot_zip_next ?_));show Ym F.slot_zip_next i F.entry_zip_next (G4 D k h g p m f e l j λd G C B v u t r=>Wt (q d G C B v u t r)) (F.args_zip_next_1 _)
def Be(r:A.handled=U)(D:adh z TI TO J C N L)(k:aey s.heap z TI TO .none)
  (i:IsPair s.heap TI (.ref J) (.ref C)) (h:IsPair s.heap TO a b) (y:itAt X s.heap J N n) (v:itAt T s.heap C L n) (g:sqAt X s.heap N xs) (f:sqAt T s.heap L S) (j:xs[n]?=U\/S[n]?=U)
  (q:∀d,(∀c o,c≠z->c≠TO->c≠J->c≠C->s.heap.get? c=R o->d.get? c=R o)->Q U {s with heap:=d}):wpAny (model Y w) A (pyNext (.ref z)) Q E s:=by
 let l:s.TypeIs (.ref z) "zip":=#[_,k,W];ext pyNext;show Wf (anp (X0 l F.slot_zip_next ?_));show Ym F.slot_zip_next l F.entry_zip_next (LO r D k i h y v g f j λd e p t=>?_) (F.args_zip_next_1 _);let(o,m,u):=t;show Wf (adG #[o,m,u] isSubtype_stop (Wt (q _ p)))
end
abbrev T8(h:Heap)(b:Bool)(a:M):Heap:=h.push {cls:=.type (AG b),data:=.fields #v[.ref a,.int 0 0]}
abbrev Uv(h:Heap)(f e:Bool)(b a:M):Heap:=(T8 h f b).push {cls:=.type (AG e),data:=.fields #v[.ref a,.int 0 0]}
abbrev Uf(h:Heap)(b f:Bool)(a e:M):Heap:=(Uv h b f a e).push {cls:=.type "tuple",data:=.seq #v[.ref h.objs.size,.ref (T8 h b a).objs.size]}
abbrev Ty(h:Heap)(f e:Bool)(b a:M):Heap:=(Uf h f e b a).push {cls:=.type "tuple",data:=.seq #v[.none,.none]}
abbrev Vl(h:Heap)(f e:Bool)(b a:M):Heap:=(Ty h f e b a).push {cls:=.type "zip",data:=.fields #v[.none,.bool Wu,.bool Wu,.ref (Uv h f e b a).objs.size,.ref (Uf h f e b a).objs.size]}
theorem vD(e f:Bool)(a b:M)(xs n:Array B):
  Meets (W7.«zip.__new__» #[[.type "zip",.ref a,.ref b],[]]) (λ_ R s=>sqAt e s.heap a xs/\sqAt f s.heap b n/\R (.ok (.ret (.ref (Ty s.heap e f a b).objs.size))) {s with heap:=Vl s.heap e f a b}):=
 .of_wp λp w A R s h=>by
  let(r,g,d,o,q):=s;let(j,i,h):=h;let t:=sub_zip;let m:sqAt e (Ws.heap #[r,g,d,o,q]) a xs:=j;let l:sqAt f (Ws.heap #[r.push {cls:=.type (AG e),data:=.fields #v[.ref a,.int 0 0]},g,d,o,q]) b n:=sqAt.psh i _
  wp_walk using FZ m,FZ l
  show#[_,W,h]
section
variable{Y:WX}{w:Xm}{A:W8}{E:Wi->Ws->Prop}{s:Ws}
def Kr(e:h.get? it=R {cls:=.type (AG b),data:=.fields #v[.ref l,.int 0 0]}):itAt b h it l 0:=by
 cases b with
 |true=>show#[_,e,W,W]
 |false=>show#[_,e,W,W]
def Im(l:sqAt C s.heap z xs)(j:sqAt L s.heap J N)
  (q:∀d,aey d (s.heap.objs.size+4) (s.heap.objs.size+2) (s.heap.objs.size+3) .none->IsPair d (s.heap.objs.size+2) (.ref s.heap.objs.size) (.ref (s.heap.objs.size+1))->
   IsPair d (s.heap.objs.size+3) .none .none->itAt C d s.heap.objs.size z 0->itAt L d (s.heap.objs.size+1) J 0->(∀c o,s.heap.get? c=R o->d.get? c=R o)->Q (.ref (s.heap.objs.size+4)) {s with heap:=d}):
  wpAny (model Y w) A (call (.type "zip") [.ref z,.ref J]) Q E s:=by
 show callType_new F.called_zip () (F.typeCall_zip_2 _ _) (F.newCall_zip_2 _ _) (λobj=>F.args_object_init_3 obj _ _) F.entry_zip_new (vD C L z J xs N) #[l,j,?_];let i:(T8 s.heap C z).objs.size=s.heap.objs.size+1:=dt ..;let h:(Uv s.heap C L z J).objs.size=s.heap.objs.size+2:=by rw[dt,i]
 let g:(Uf s.heap C L z J).objs.size=s.heap.objs.size+3:=by rw[dt,h]
 let p:(Ty s.heap C L z J).objs.size=s.heap.objs.size+4:=by rw[dt,g]
 let v:∀c o,s.heap.get? c=R o->(T8 s.heap C z).get? c=R o:=λc o e=>cj _ e;let n:∀c o,(T8 s.heap C z).get? c=R o->(Uv s.heap C L z J).get? c=R o:=λc o e=>cj _ e;let f:∀c o,(Uv s.heap C L z J).get? c=R o->(Uf s.heap C L z J).get? c=R o:=λc o e=>cj _ e;let b:∀c o,(Uf s.heap C L z J).get? c=R o->(Ty s.heap C L z J).get? c=R o:=λc o e=>cj _ e;let a:∀c o,(Ty s.heap C L z J).get? c=R o->(Vl s.heap C L z J).get? c=R o:=λc o e=>cj _ e;let m:(Vl s.heap C L z J).get? (Ty s.heap C L z J).objs.size=R _:=cN _ W;let r:=a _ _ (cN _ W);let t:=a _ _ (b _ _ (cN _ W));let u:=a _ _ (b _ _ (f _ _ (cN _ W)));let y:=a _ _ (b _ _ (f _ _ (n _ _ (cN _ W))));rw[h,g,p]at m;rw[i,h]at t;rw[g]at r;rw[i]at u;rw[p];show#[#[_,m,W],q _ m t r (Kr y) (Kr u) λc o e=>a _ _ (b _ _ (f _ _ (n _ _ (v _ _ e))))]
end
end PySem
namespace L3
open PySem PySem.Spec PyProof.Rows L2
def Iu(b:Bool)(K:Ld)(H:Hp)(a:M)(xs:G V):Prop:=match b with
 |true=>SqT K H a xs
 |false=>SqL K H a xs
def Vj(K:Ld)(e b:Bool)(a c:M):It:=
 #[λi H=>∃xs g x y,Iu e K H a xs/\Iu b K H c g/\xs[i]?=R x/\g[i]?=R y,
  λi H v f=>∃p x y,H p=U/\v=.ref p/\(∀xs,Iu e K H a xs->xs[i]?=R x)/\(∀g,Iu b K H c g->g[i]?=R y)/\f=bW H p (.tup [x,y]),
  λi H=>∃xs g,Iu e K H a xs/\Iu b K H c g/\(xs.length<=i\/g.length<=i)]
def Nz(I:Inv X pins σ H s)(j:SqL X.K H a xs)(i:SqL X.K H a v):xs=v:=by
 let(f,h,(o,k,l,_,n,p),_):=I.list j;let(b,g,(r,u,e,_,t,m),_):=I.list i;rw[l]at e;ext e;let:f=b:=by
  let q:f.toArray=b.toArray:=by injection p.symm.trans m
  simpa using q
 subst this;show h.inj g
def se(I:Inv X pins σ H s)(h:Iu b X.K H a xs):∃c,Vals xs c/\sqAt b s.heap a c.toArray:=by
 cases b with
 |true=>let(c,f,p,e):=I.tuple h;show#[c,f,p]
 |false=>let(c,f,p,e):=I.list h;show#[c,f,p.isList]
def EE(I:Inv X pins σ H s)(f:Iu b X.K H a xs)(e:Iu b X.K H a g):xs=g:=by
 cases b with
 |true=>show Oh I f e
 |false=>show Nz I f e
def HH{ch:G M}(I:Inv X pins σ H s)(g:∀b∈ch,sM X pins H b)
  (k:∀b u,b∉ch->s.heap.get? b=R u->A.get? b=R u):Inv X pins σ H {s with heap:=A,toks:=C}:=by
 let f:∀b u,H b=R u->b∉ch:=λb u e z=>by rw[(g b z).1]at e;ext e
 show I.step (λb j=>?_) (λb u _ _ a e _=>k b u a e) (λb u _ _ a e _=>#[u.slots,k b u a e]) (λ_ _ _ _ n=>n)
  (λb u a e=>#[u,k b u a e]) (λ_ _ e=>e) (λ_ _ _ e=>e) (λb E e=>#[#v[],by rw[e];simp]) (λm hm=>?_) (λb u e=>?_) I.bare
 .let(_,t,_,p,o,l):=g b j;show#[p,t,o,l]
 .let(h,w,y,i,r):=hm;show#[h,w,y,k _ h (λz=>(g _ z).2.1 W) i,r]
 .show(I.XY b u e).aaG (λc v a q=>k c v ?_ q) (λ_ q=>q) λ_ _ q=>q
  rcases a with z|z
  .rw[z];show f b u e
  .show f c _ z
theorem IE{K:Ld}{d}(b1 V:Bool)(z TI TO C B U T:Wo)(D:adh z TI TO C B U T):
  Turn Pz0 w K (.Tuple elts d tp) (Vj K b1 V U T) [z,TI,TO,C,B] z (λi h=>aey h z TI TO .none/\IsPair h TI (.ref C) (.ref B)/\(∃a b,IsPair h TO a b)/\itAt b1 h C U i/\itAt V h B T i) where
 mem:=by simp
 obj:=λi h f b e=>by
  let(m,j,(a,c,p),A,r):=f;simp only[W2,Yf,or_false]at e;rcases e with rfl|rfl|rfl|rfl|rfl
  .show#[_,m,λv q=>by cases(show Data.fields _=Data.cell v from q)]
  .show#[_,j,λv q=>by cases(show Data.seq _ _=Data.cell v from q)]
  .show#[_,p,λv q=>by cases(show Data.seq _ _=Data.cell v from q)]
  .show A.live
  .show r.live
 keep:=λi h h' f k=>by let(m,j,(a,c,p),A,r):=f;show#[k z (by simp) _ m,k TI (by simp) _ j,#[a,c,k TO (by simp) _ p],A.to λo q=>k C (by simp) o q,r.to λo q=>k B (by simp) o q]
 item:=by
  intro X hP hw hK hc i l s σ H E I N f hg;subst hP hw hK;let(m,j,(a,c,p),A,r):=f;let(xs,ys,x,y,L,J,hx,hy):=hg;let(Xp,Q,S):=se I L;let(G,O,R):=se I J;let(u,hu,ru):=Q.get hx;let(t,ht,rt):=O.get hy;show B5 D m j p A r S R (by simpa using hu) (by simpa using ht) λk z1 o1 g1 g2 pr sz M=>#[_,W,?_];show wpAny_letOwnedTupleGo_zip z1 λF z2 e2=>?_;let Y:=cn m;let hIl:=cn j;let hOl:=cn p;let h1l:C<s.heap.objs.size:=by let(_,q,_):=A.live;show cn q
  let h2l:B<s.heap.objs.size:=by let(_,q,_):=r.live;show cn q
  let hn:=I.XY.fresh (Ww _);let d:∀b o,b∉[z,TI,TO,C,B]->s.heap.get? b=lD o->F.get? b=lD o:=λb o e q=>by simp only[W2,Yf,or_false,not_or]at e;show(e2.2 b e.1).trans (M b o e.1 e.2.2.1 e.2.2.2.1 e.2.2.2.2 q)
  let hT2:=(e2.2 _ (XX Y)).trans pr
  let I2:Inv X l σ (bW H s.heap.objs.size (.tup [x,y])) {s with heap:=F}:=
   I.aeP N d (Ww _) #[by show 2<=WG;decide,[u,t],.cons ru (.cons rt .nil),#[_,hT2,#[W,_,W],W]]
  let g:∀b o,b≠z->k.get? b=lD o->F.get? b=lD o:=λb o n q=>(e2.2 b n).trans q;show#[.ref s.heap.objs.size,_,I2,W,#[_,x,y,hn,W,λzs hs=>by rw[EE I hs L];show hx,λzs hs=>by rw[EE I hs J];show hy,W],
   #[z2,g _ _ D.TIz (M _ _ D.TIz D.TITO D.TIi1 D.TIi2 j),#[_,_,g _ _ D.TOz o1],g1.to λo q=>g _ _ D.i1z q,g2.to λo q=>g _ _ D.i2z q],λb e=>?_]
  let hb2:b<s.heap.objs.size:=by simp only[W2,Yf,or_false]at e;rcases e with rfl|rfl|rfl|rfl|rfl<;>assumption
  rw[aU (WZ hb2)];show(N b e).1
 done:=by
  intro X hP hw hK hc i l s σ H E I N f hg;subst hP hw hK;let(m,j,(a,c,p),A,r):=f;let(xs,ys,L,J,Z):=hg;let(Xp,Q,S):=se I L;let(G,O,R):=se I J;let hl1:=Q.length;let hl2:=O.length;let hd:Xp.toArray[i]?=Wh\/G.toArray[i]?=Wh:=by
   rcases Z with q|q
   .show .inl (by simp;ext)
   .show .inr (by simp;ext)
  show Be (I.ok.hd hc) D m j p A r S R hd λk M=>#[W,?_];show HH I N λb o e q=>by simp only[W2,Yf,or_false,not_or]at e;show M b o e.1 e.2.2.1 e.2.2.2.1 e.2.2.2.2 q
 self:=λ_ _ _ _ _ f h=>aiV f.1 h
def He(n b a:Nat)(f:b<n)(e:a<n):adh (n+4) (n+2) (n+3) n (n+1) b a:=by constructor<;>(show(_:Nat)≠_;ext)
def QH(K:Ld)(f:TA):TI:=λe H R=>f e H λj b=>∃a c h g,j=[.ref a,.ref c]/\(∃xs,Iu h K b a xs)/\(∃i,Iu g K b c i)/\R (Vj K h g a c) b
def Je:XS "zip"=R (.type "zip"):=by left
def DT{d}(P:Gl X "zip")(hm:X.mg "zip"=Wh)(k:PA X [l,m] ta)(M:W5 [l,m] X.env=(Wu,eval l X.env)::W5 [m] X.env:=by rfl)(N:(backTo pos (W5 [m] X.env)).any (·.1)=Wu:=by rfl):
  PI X (.Tuple elts d tp) (.Call (.Name "zip" p) [l,m] [] pos) (QH X.K ta):=by
 intro f s y H R I h;show Call_ (pW I P hm Je (YT (de (k pos f s y H _ I h) λZ g #[vs,w,j,F,G]=>?_) M N));let(a,c,U,T,e,(xs,C),(Y,B),q):=G;subst e;let(u,t,rfl,E,rt):=Fp F;ext E;ext rt;let(Xp,rx,r):=se j C;let(L,ry,o):=se j B;let S:∀b∈[g.heap.objs.size+4,g.heap.objs.size+2,g.heap.objs.size+3,g.heap.objs.size,g.heap.objs.size+1],sM X f w b:=λb v=>by
  let i:g.heap.objs.size<=b:=by simp only[W2,Yf,or_false]at v;let Q:=v;ext
  show j.adt i (j.XY.fresh i)
 show Im r o λh1 n J p2 A z O=>?_;show aiV n ?_;show#[g.heap.objs.size+4,_,_,_,w,W,j.kept O,IE U T _ _ _ _ _ a c (He _ _ _ r.lt o.lt),#[n,J,#[_,_,p2],A,z],S,q]
def UK:XB->Bool
 |.Starred _ _=>P
 |_=>Wu
def wY(e:XB)(a:G XB)(env:Env)(h:UK e=Wu):W5 (e::a) env=(Wu,eval e env)::W5 a env:=by ext e<;>first|rfl|ext h
def mf:G D->G D->G D
 |x::r,y::q=>.tuple [x,y]::mf r q
 |_,_=>[]
theorem vW:∀(xs a:G D),(mf xs a).length=min xs.length a.length
 |[],_=>by simp[mf]
 |_::_,[]=>by simp[mf]
 |_::r,_::q=>by simp only[mf,WJ,vW r q];ext
theorem u6:∀(xs a:G D) (i:Nat),(mf xs a)[i]?=(xs[i]?).bind λx=>(a[i]?).map λy=>.tuple [x,y]
 |[],_,_=>by simp[mf]
 |x::r,[],i=>by ext i<;>simp[mf]
 |x::r,y::q,0=>by simp[mf]
 |x::r,y::q,i+1=>by simp only[mf,ad8];show u6 r q i
section
variable{K:Ld}{E:XK}{B O Z:cS}{T H X:Hp}{S:L2.St}{Y ρ':bC}{v:V}
def aeo(b:Bool)(O:cS)(K:Ld)(H:Hp)(a:M)(xs:G V):Prop:=match b with
 |true=>abg O K H a xs
 |false=>acn O K H a xs
def aeo.ev(h:aeo b O K H a xs)(e:Ev O H Z X):aeo b Z K X a xs:=by
 cases b with
 |true=>show abg.ev h e
 |false=>show acn.ev h e
def aeo.at(h:aeo b O K H a xs):Iu b K H a xs:=by
 cases b with
 |true=>show(show abg O K H a xs from h).1
 |false=>show(show acn O K H a xs from h).1.sq
def S9(h:aeo b1 O K H a xs)(hd:Yb O K H xs ds)(g:aeo b2 O K H c L)(C:Yb O K H L es):A0 K (Vj K b1 b2 a c) O H (mf ds es):=by
 intro Z X e n;let j:=h.ev e;let f:=hd.ev e;let m:=g.ev e;let l:=C.ev e;rw[vW];show#[λi hi=>?_,#[xs,L,j.at,m.at,?_]]
 .let w:i<ds.length:=by ext
  let u:i<es.length:=by ext
  let(x,A,dx):=f.get (Wr w);let(y,z,F):=l.get (Wr u);show#[#[xs,L,x,y,j.at,m.at,A,z],?_];rintro t G ⟨p,J,I,b,rfl,Q,N,rfl⟩;let r:=Q xs j.at;let o:=N L m.at;rw[A]at r;rw[z]at o;ext r;ext o;show#[cU b _,.tuple [ds[i],es[i]],?_,.tup #[SqT.of aY,λq=>a7 q (n p b)] (.cons (dx.ev (Ev.grow (cU b _))) (.cons (F.ev (Ev.grow (cU b _))) .nil))];rw[u6,Wr w,Wr u];rfl
 .rw[hd.length,C.length];ext
def Qx(h:DV O K H v d)(q:eZ d=R ds):∃b a xs,v=.ref a/\aeo b O K H a xs/\Yb O K H xs ds:=by
 cases h with
 |tup h e=>ext q;show#[P,_,_,W,h,e]
 |lst h e=>ext q;show#[Wu,_,_,W,h,e]
 |_=>ext q
def zA(c:FA):FI:=λY=>(c Y).bind λa=>(Res.Xu (tV a.2 a.1)).bind λb=>match b.1 with
 |[d,e]=>(Res.Xu (eZ d)).bind λds=>(Res.Xu (eZ e)).bind λf=>.ok (mf ds f,b.2)
 |_=>.bad
def Dw(h:AO K E Q fa):IO K E (QH K Q) (zA fa):=by
 intro B T O S H Y N R w;show h B T O S H Y _ R (w.bind.imp λa b P vs J r G m=>?_);let((ds,i),q,b):=b.Xu;let(I,p,R2,t):=uY G m q;dsimp only at b;cases t with
 |nil=>show b.elim
 |cons o e=>
  cases e with
  |nil=>show b.elim
  |cons e n=>
   cases n with
   |cons _ _=>show b.elim
   |nil=>let(M,l,b):=WR.Xu b;let(fs,j,b):=WR.Xu b;let(A,F,xs,rfl,g,y):=Qx o l;let(z,C,L,rfl,f,u):=Qx e j;show#[F,C,A,z,W,#[_,g.at],#[_,f.at],b I _ J (r.trans p) R2 (S9 g y f u)]
def gL(d e:D):I RV:=match d,e with
 |.str z,.int i=>if z.length<=1000000 then(m9 z.cps.toList i).map λc=>.fz (.str #[#v[c]])else U
 |_,_=>U
def zb:qv K (U1 K) gL:=by
 intro O H x y l g j Q n b a e q;unfold gL at e;split at e
 .split at e
  .rename_i z i f
   cases h:m9 z.cps.toList i with
   |none=>rw[h]at e;ext e
   |some c=>rw[h]at e;ext e;ext b;ext a;show .inr (.inr #[z,i,c,W,W,AQ f,h,q.at (.str _)])
  .ext e
 .ext e
end
end L3
namespace L3
open PySem L2
def VR(N C:bC->Prop)(T:RV->Prop):Res Fl->Prop
 |.ok (.nx a)=>N a
 |.ok (.ct a)=>C a
 |.ok (.rt v)=>T v
 |_=>False
structure Go(r:Res Fl)(N C:bC->Prop)(T:RV->Prop):Prop where
 out:VR N C T r
section
variable{ρ ρ1 ρ2 ρ3:bC}{f g:FS}{fe:FE}{pv:PV}{d:D}{rv:RV}{ds:br D}{N C:bC->Prop}{T:RV->Prop}
def Go.eq(e:r=r')(h:Go r' N C T):Go r N C T:=by rw[e];show h
def Go.imp(h:Go r N C T)(b:∀ρ,N ρ->N' ρ)(e:∀ρ,C ρ->C' ρ)(a:∀v,T v->T' v):Go r N' C' T':=by
 show#[?_];let h:=h.out;cases r with
 |bad=>show h
 |er x=>show h
 |ok i=>
  cases i with
  |nx r=>show b _ h
  |ct r=>show e _ h
  |rt v=>show a _ h
  |bk r=>show h
def KW(h:Go (f ρ) (λr=>Go (g r) N C T) C T):Go (bZ f g ρ) N C T:=by
 show#[?_];let h:=h.out;ext bZ;cases q:f ρ with
 |bad=>rw[q]at h;show h.elim
 |er x=>rw[q]at h;show h.elim
 |ok a=>
  rw[q]at h;cases a with
  |nx r=>show(show Go (g r) N C T from h).out
  |ct r=>show h
  |rt v=>show h
  |bk r=>show h.elim
def Kj(h:c ρ=.ok (b,ρ1))(a:b=P->Go (f ρ1) N C T)(e:b=Wu->Go (g ρ1) N C T):Go (pq c f g ρ) N C T:=by
 ext pq;rw[h,en];cases b with
 |true=>show a W
 |false=>show e W
theorem DY(b:fe ρ=.ok (pv,ρ1))(a:gt pv ρ1=.ok ρ2)(h:N ρ2):Go (gw fe gt ρ) N C T:=.eq (zW b a W) #[h]
theorem nY(a:fe ρ=.ok (pv,ρ1))(h:N ρ1):Go (pp fe ρ) N C T:=.eq (Ej a) #[h]
theorem fJ(b:fe ρ=.ok (pv,ρ1))(a:Hr ρ1 pv=R rv)(h:T rv):Go (fC fe ρ) N C T:=.eq (yL b a) #[h]
theorem zZ(h:N ρ):Go (fV ρ) N C T:=#[h]
theorem Gm(I:Nat->bC->Prop):∀(ds:G D) (k:Nat) (ρ:bC),I k ρ->(∀i d ρ,ds[i]?=R d->I (k+i) ρ->∃ρ1,gt (.fz d) ρ=.ok ρ1/\Go (b ρ1) (I (k+i+1)) (I (k+i+1)) T)->Go (tS gt b ds ρ) (I (k+ds.length)) C T
 |[],k,ρ,h0,_=>#[h0]
 |d::r,k,ρ,h0,u=>by
  let(ρ1,o,a):=u 0 d ρ W h0;let a:=a.out;let l:∀j,I (k+1) j->Go (tS gt b r j) (I (k+(r.length+1))) C T:=λj h=>by
   let e:k+(r.length+1)=k+1+r.length:=by ext
   rw[e];show Gm I r (k+1) j h λi t m w n=>?_;let e:k+1+i=k+(i+1):=by ext
   rw[e]at n⊢;show u (i+1) t m (by simpa using w) n
  show#[?_];show VR _ _ _ ((gt (.fz d) ρ).bind _);rw[o,en];cases q:b ρ1 with
  |bad=>rw[q]at a;show a.elim
  |er x=>rw[q]at a;show a.elim
  |ok p=>
   rw[q]at a;cases p with
   |nx r=>show(l _ a).out
   |ct r=>show(l _ a).out
   |rt v=>show a
   |bk r=>show a.elim
def Mf(I:Nat->bC->Prop)(k:l ρ=.ok (ds,ρ1))(j:I 0 ρ1)(a:∀i d ρ,ds[i]?=R d->I i ρ->∃ρ1,gt (.fz d) ρ=.ok ρ1/\Go (b ρ1) (I (i+1)) (I (i+1)) T)(e:∀c,I ds.length c->N c):Go (pZ l gt b ρ) N C T:=by let:=Gm (C:=C) I ds 0 ρ1 j (by simpa using a);rw[Xt]at this;show .eq (C9 k) (this.imp e (λ_ h=>h) λ_ h=>h)
def ng(a:ds.map (λd=>R (.fz d))++Wz (n - ds.length) U=ρ)(h:Go (g ρ) (λ_=>T (.fz .none)) (λ_=>False) T):∃rv,gI n g ds=.ok rv/\T rv:=by
 let h:=h.out;ext gI;rw[a];cases q:g ρ with
 |bad=>rw[q]at h;show h.elim
 |er x=>rw[q]at h;show h.elim
 |ok b=>
  rw[q]at h;cases b with
  |nx r=>show#[_,W,h]
  |ct r=>show h.elim
  |rt v=>show#[_,W,h]
  |bk r=>show h.elim
def jL(a:ds.map (λd=>R (.fz d))++Wz (n - ds.length) U=ρ)(h:Go (g ρ) (λ_=>RV.fz .none=v) (λ_=>False) (λr=>r=v)):gI n g ds=.ok v:=by let(rv,e,b):=ng (T:=λr=>r=v) a h;rw[e,b]
theorem d9(b:fe ρ=.ok (pv,ρ1))(a:gt pv ρ1=.ok ρ2)(c:ρ2=ρ3)(h:Go (g ρ3) N C T):Go (bZ (gw fe gt) g ρ) N C T:=.eq (Iz (zW b a c)) h
theorem kB(b:fe ρ=.ok (pv,ρ1))(a:Hr ρ1 pv=R rv)(h:T rv):Go (bZ (fC fe) g ρ) N C T:=.eq (JU (yL b a)) #[h]
theorem hG(h:Go (g ρ) N C T):Go (bZ fV g ρ) N C T:=.eq W h
def Il:bZ (bZ f1 f2) g ρ=bZ f1 (bZ f2 g) ρ:=by
 ext bZ;cases f1 ρ with
 |bad=>rfl
 |er x=>rfl
 |ok a=>ext a<;>rfl
theorem Mq(h:Go (bZ f1 (bZ f2 g) ρ) N C T):Go (bZ (bZ f1 f2) g ρ) N C T:=.eq Il h
def pz(i:c ρ=.ok (b,ρ1))(a:b=P->Go (bZ f1 g ρ1) N C T)(h:b=Wu->Go (bZ f2 g ρ1) N C T):Go (bZ (pq c f1 f2) g ρ) N C T:=by
 let e:bZ (pq c f1 f2) g ρ=if b=P then bZ f1 g ρ1 else bZ f2 g ρ1:=by unfold bZ pq;rw[i,en];ext b<;>rfl
 show .eq e ?_;cases b with
 |true=>show a W
 |false=>show h W
theorem pI(I:Nat->bC->Prop)(j:l ρ=.ok (ds,ρ1))(h:I 0 ρ1)(a:∀i d ρ,ds[i]?=R d->I i ρ->∃ρ1,gt (.fz d) ρ=.ok ρ1/\Go (b ρ1) (I (i+1)) (I (i+1)) T)(e:∀c,I ds.length c->Go (g c) N C T):Go (bZ (pZ l gt b) g ρ) N C T:=
 KW (Mf I j h a e)
theorem xA(I:bC->Prop)(P:Nat->D->Prop):∀(ds:G D) (k:Nat) (ρ:bC) (a:G D),I ρ->a.length+ds.length<=1000000->(∀i d,ds[i]?=R d->∀ρ,I ρ->∃x c,nc gt w fe d ρ=.ok (R x,c)/\I c/\P (k+i) x)->
  ∃xs,fu gt w fe ds ρ a=.ok (a++xs)/\xs.length=ds.length/\∀i x,xs[i]?=R x->P (k+i) x
 |[],k,ρ,a,_,_,_=>#[[],by show Res.ok a=_;simp,W,λi x h=>by simp at h]
 |d::r,k,ρ,a,h0,z,v=>by
  let(x,c,o,n,m):=v 0 d W ρ h0;rw[WJ]at z;let(xs,t,q,p):=xA I P r (k+1) c (a++[x]) n (by rw[Wm];simp;ext) λi u A b l=>by
   let e:k+1+i=k+(i+1):=by ext
   rw[e];show v (i+1) u (by simpa using A) b l
  show#[x::xs,?_,by rw[WJ,q,WJ],λi y j=>?_]
  .rw[vS o ()];show fu gt w fe r c (a++[x])=_;rw[t,WY];rfl
  .cases i with
   |zero=>cases(show R x=R y from j);show m
   |succ i=>
    let e:k+(i+1)=k+1+i:=by ext
    rw[e];show p i y (by simpa using j)
def qJ(I:bC->Prop)(P:Nat->D->Prop)(e:I ρ)(b:ds.length<=1000000)(a:∀i d,ds[i]?=R d->∀ρ,I ρ->∃x c,nc gt ft fe d ρ=.ok (R x,c)/\I c/\P i x):
  ∃xs,mv (fu gt ft fe ds ρ [])=.ok xs/\xs.length=ds.length/\∀i x,xs[i]?=R x->P i x:=by
 let(xs,l,j,h):=xA I P ds 0 ρ [] e (by simpa using b) (by simpa using a);show#[xs,by rw[l];rfl,j,by simpa using h]
theorem qE{α:Type}{f:α->D}{Q:Nat->α->Prop}:∀(xs:G D) (k:Nat),(∀i x,xs[i]?=R x->∃a,x=f a/\Q (k+i) a)->∃as:G α,xs=as.map f/\∀i a,as[i]?=R a->Q (k+i) a
 |[],_,_=>#[[],W,λi a h=>by simp at h]
 |x::r,k,h=>by
  let(a,e,q):=h 0 x W;let(as,n,l):=qE (f:=f) (Q:=Q) r (k+1) λi y m=>by
   let e:k+1+i=k+(i+1):=by ext
   rw[e];show h (i+1) y (by simpa using m)
  show#[a::as,by rw[e,n];rfl,λi b j=>?_];cases i with
  |zero=>cases(show R a=R b from j);show q
  |succ i=>
   let e:k+(i+1)=k+1+i:=by ext
   rw[e];show l i b (by simpa using j)
def Vp(c:Wn.strOk a=P)(e:Wn.strOk b=P):eR (.str a) (.str b)=R (.fz (.bool (a==b))):=by ext eR;rw[show kF (.str a)=P by ext kF;rw[show Wn.canLay0 (.str a)=P from c];rfl,show Wn.canLay0 (.str b)=P from e,Y0,av W];rfl
def Qa(b:Wn.strOk a=P):eR (.str a) (.str a)=R (.fz (.bool P)):=by rw[Vp b b,ej]
def FK(c:Wn.strOk a=P)(e:Wn.strOk b=P)(h:(a==b)=Wu):eR (.str a) (.str b)=R (.fz (.bool Wu)):=by rw[Vp c e,h]
theorem yo{α:Type}{xs:G α}{i:Int}{v:α}(a:0<=i)(h:xs[i.toNat]?=R v):m9 xs i=R v:=Sg a h
def NH(a:0<=i)(h:ds[i.toNat]?=R d):bB (.list ds) (.int i)=R (.fz d):=by show(m9 ds i).map RV.fz=_;rw[yo a h];rfl
def Nr{s:G Nat}(e:s.Pairwise (·<·))(h:∀k∈s,k<n):s.length<=n:=by
 let:∀(s:G Nat) (a:Nat),s.Pairwise (·<·)->(∀k∈s,a<=k/\k<n)->s.length<=n - a:=by
  intro s
  induction s with
  |nil=>intro a _ _;show Xq _
  |cons x r i=>intro a e h;let(l,j):=ZF.mp e;let m:=h x WK;let:=i (x+1) j λk b=>#[l k b,(h k (WH _ b)).2];rw[WJ];ext
 show this s 0 e λk b=>#[Xq _,h k b]
def uw(c:fr ρ=.ok (h,ρ1))(hd:tV ρ1 h=R ([d,e],ρ2))(b:eZ d=R i)(a:eZ e=R fs):zA fr ρ=.ok (mf i fs,ρ2):=by ext zA;rw[c,en,hd,bh,en];dsimp only;rw[b,bh,en,a,bh,en]
def BQ{f g:D->D->I RV}(k:q ρ=.ok (o,ρ))(j:fb ρ=.ok (n,ρ))(i:p ρ=.ok (pc,ρ))(b:tD ρ (dR o)=R t)(a:tD ρ (dR n)=R m)(c:tD ρ pc=R r)(h:f t m=R (.fz (.bool l)))(e:l=P->g m r=R (.fz (.bool u))):vE f g q fb p ρ=.ok (.fz (.bool (l&&u)),ρ):=by
 ext vE;rw[k,en,j,en];dsimp only;rw[b,bh,en,a,bh,en,h,bh,en];cases l with
 |false=>rfl
 |true=>dsimp only;rw[i,en];dsimp only;rw[a,bh,en,c,bh,en,e W,bh,en];rfl
end
end L3
namespace L2
open PySem PySem.Spec PyProof.Rows
section
variable{Y:Type}[DecidableEq Y]
def mB(b:G (Y×V))(k:Y):I V:=(b.find? λa=>decide (a.1=k)).map (·.2)
def kL(b:G (Y×V))(k:Y)(v:V):G (Y×V):=
 if(b.any λa=>decide (a.1=k))=P then b.map (λa=>if a.1=k then(a.1,v)else a)else b++[(k,v)]
def qI(b:G (Y×V))(k:Y):G (Y×V):=b.filter λa=>decide (a.1≠k)
def vN{k:Y}(e:p.1=k):mB (p::r) k=R p.2:=by simp[mB,Xv,e]
def uP{k:Y}(e:¬p.1=k):mB (p::r) k=mB r k:=by simp[mB,Xv,e]
theorem BL(k:Y):∀a:G (Y×V),(a.any λb=>decide (b.1=k))=(mB a k).isSome
 |[]=>rfl
 |p::r=>by
  rw[Z8];by_cases e:p.1=k
  .simp only[vN e,aE e,Zj,aeY]
  .rw[uP e,aP e,aaM];show BL k r
def nM(a:G (Y×V))(k:Y)(v:V):(kL a k v).length<=a.length+1:=by
 ext kL;split
 .rw[Wg];ext
 .rw[Wm,WJ,YG];ext
def aaJ.abr(r:aaJ o u):o.isSome=u.isSome:=by
 cases o with
 |none=>cases u with
  |none=>rfl
  |some _=>show(show False from r).elim
 |some _=>cases u with
  |none=>show(show False from r).elim
  |some _=>rfl
def KV.val{d:G (Y×V)}{c:G (Y×B)}(r:KV d c)(k:Y):aaJ (mB d k) (valueAt c k):=by
 unfold KV at r
 induction r with
 |nil=>show True.intro
 | @cons p q l i h t j=>
  let(f,g):=h;by_cases e:p.1=k
  .let a:q.1=k:=f.symm.trans e
   let b:valueAt (q::i) k=R q.2:=by simp[valueAt,Xv,a]
   rw[vN e,b];show g
  .let a:¬q.1=k:=λz=>e (f.trans z)
   let b:valueAt (q::i) k=valueAt i k:=by simp[valueAt,Xv,a]
   rw[uP e,b];show j
def KV.any(r:KV W3 vs)(k:Y):(W3.any λb=>decide (b.1=k))=vs.any λb=>decide (b.1=k):=by
 unfold KV at r
 induction r with
 |nil=>rfl
 |cons h t a=>rw[Z8,Z8,a,h.1]
def KV.ahD(r:KV W3 vs)(k:Y)(b:RelV y u):
  KV (W3.map λc=>if c.1=k then(c.1,y)else c) (vs.map λc=>if c.1=k then(c.1,u)else c):=by
 unfold KV at r⊢
 induction r with
 |nil=>show .nil
 | @cons p q j i h t g=>
  rw[WL,WL];show .cons ?_ g;let(a,f):=h;by_cases e:p.1=k
  .rw[av e,av (a.symm.trans e)];show#[a,b]
  .rw[ax e,ax (λz=>e (a.trans z))];show#[a,f]
def KV.put(r:KV W3 vs)(k:Y)(a:RelV y u):KV (kL W3 k y) (stored vs k u):=by
 unfold kL stored;rw[r.any k];by_cases e:(vs.any λb=>decide (b.1=k))=P
 .rw[av e,av e];show r.ahD k a
 .rw[ax e,ax e];show Paired.snoc r #[W,a]
def KV.drop(r:KV W3 vs)(k:Y):KV (qI W3 k) (without vs k):=by
 unfold KV at r⊢;unfold qI without
 induction r with
 |nil=>show .nil
 | @cons p q m l h t j=>
  let(f,g):=h;rw[aaW,aaW];by_cases e:p.1=k
  .let a:¬decide (p.1≠k)=P:=by simp[e]
   let b:¬decide (q.1≠k)=P:=by simp[f.symm.trans e]
   rw[ax a,ax b];show j
  .let i:¬q.1=k:=λz=>e (f.trans z)
   let a:decide (p.1≠k)=P:=by simp[e]
   let b:decide (q.1≠k)=P:=by simp[i]
   rw[av a,av b];show .cons #[f,g] j
def KV.keys{b:G (Y×B)}(r:KV W3 b):W3.map (·.1)=b.map (·.1):=by
 unfold KV at r
 induction r with
 |nil=>rfl
 |cons h t a=>rw[WL,WL,a,h.1]
theorem KV.length(r:KV W3 vs):W3.length=vs.length:=Paired.length r
theorem MF(a:G (Y×V))(k:Y):(qI a k).length<=a.length:=abq _ _
end
def xO(r:RelV (kV k) u):(dY a w).is k u=Wl:=by
 cases k with
 |inl i=>let(t,e):=(show∃t,u=Wi.int i t from r);subst e;show A5 a w i t
 |inr x=>let(t,e):=(show∃t,u=Wi.str x t from r);subst e;show AE a w x t
theorem xK:∀{b:G dI} {us:G B},Vals (b.map kV) us->ItemsAre (dY a w) b us
 |[],_,r=>by rw[Zi]at r;ext r;show .nil
 |k::b,_,r=>by
  rw[WL]at r;cases r with
  |cons h t=>show .cons (xO h) (xK t)
abbrev KT(H:Hp):G (G dI×V)->G (G dI×M×B)->Prop:=Paired λp q=>p.1=q.1/\H q.2.1=R (.tup (p.1.map kV))/\RelV p.2 q.2.2
def KT.val(r:KT H W3 xs)(k:G dI):aaJ (mB W3 k) ((atKey xs k).map (·.2)):=by
 induction r with
 |nil=>show True.intro
 | @cons p q l i h t j=>
  let(f,_,g):=h;by_cases e:p.1=k
  .let a:=f.symm.trans e
   let b:atKey (q::i) k=R q.2:=by simp[atKey,Xv,a]
   rw[vN e,b];show g
  .let a:¬q.1=k:=λz=>e (f.trans z)
   let b:atKey (q::i) k=atKey i k:=by simp[atKey,Xv,a]
   rw[uP e,b];show j
def KT.ahD(r:KT H W3 xs)(k:G dI)(f:RelV y u):
  KT H (W3.map λc=>if c.1=k then(c.1,y)else c) (xs.map (putAt k u)):=by
 induction r with
 |nil=>show .nil
 | @cons p q l j h t i=>
  rw[WL,WL];show .cons ?_ i;let(a,b,g):=h;ext putAt;by_cases e:p.1=k
  .rw[av e,av (a.symm.trans e)];show#[a,b,f]
  .rw[ax e,ax (λz=>e (a.trans z))];show#[a,b,g]
def KT.put(r:KT H W3 xs)(k:G dI)(g:H b=R (.tup (k.map kV)))(a:RelV y u):
  KT H (kL W3 k y) (storedH xs k b u):=by
 let e:(W3.any λf=>decide (f.1=k))=(atKey xs k).isSome:=by rw[BL,(r.val k).abr,acb]
 unfold kL storedH;rw[e];by_cases q:(atKey xs k).isSome=P
 .rw[av q,av q];show r.ahD k a
 .rw[ax q,ax q];show Paired.snoc r #[W,g,a]
theorem KT.keeps(r:KT H W3 xs)(a:∀b c,H b=R (.tup c)->H' b=R (.tup c)):KT H' W3 xs:=
 Paired.aax r λ_ _ z=>#[z.1,a _ _ z.2.1,z.2.2]
section
variable{P:WX}{w:Xm}{H:Hp}{h:Heap}{a:Wo}
theorem QC(ok:HOk P w H h)(e:Rd H a u):ObjOk P w H h a u:=e.ok ok
theorem B6(ok:HOk P w H h)(e:Rd H a (.dK b)):b.length<=WG/\(a==X4)=Wu/\∃c,KV b c/\h.DictOf (dY P w) a c:=
 show ObjOk P w H h a (.dK b)from QC ok e
theorem BF(ok:HOk P w H h)(e:H a=R (.dK f)):f.length<=WG/\(a==X4)=Wu/\∃b,KV f b/\h.DictOf (dY P w) a b:=B6 ok (.inl e)
def ye{c:G dI}(ok:HOk P w H h)(e:H a=R (.tup (c.map kV))):(tupleKind (dY P w)).is h c a:=by let(_,i,r,o,g,(f,n,b),_):=(show ObjOk P w H h a (.tup (c.map kV))from ok a _ e);show#[o,i.toArray,n,g,f,b,by simpa using xK r]
def AY(ok:HOk P w H h)(e:Rd H a (.dT A)):A.length<=WG/\(a==X4)=Wu/\
  ∃xs,KT H A xs/\h.DictOfH (tupleKind (dY P w)) a xs:=by
 let(z,y,xs,r,o,u,v,n,j,i,g,f):=(show ObjOk P w H h a (.dT A)from QC ok e);show#[z,y,xs,r,o,u,v,n,j,i,g,λx b=>?_,f];let all:∀{l:G (G dI×V)} {m:G (G dI×M×B)},KT H l m->∀x∈m,(tupleKind (dY P w)).is h x.1 x.2.1:=by
  intro l m q
  induction q with
  |nil=>intro x b;show nomatch b
  | @cons p q L J C t E=>
   intro x b;rcases W2.mp b with e|b
   .subst e;show ye ok (by rw[<-C.1];show C.2.1)
   .show E x b
 show all r x b
theorem TV(ok:HOk P w H h)(e:H a=R (.dT b)):b.length<=WG/\(a==X4)=Wu/\
  ∃xs,KT H b xs/\h.DictOfH (tupleKind (dY P w)) a xs:=AY ok (.inl e)
end
def adK(H:Hp)(a:M)(y:V)(r:I V):Prop:=
 (∃e k,Rd H a (.dK e)/\y=kV k/\r=mB e k)\/∃e k b,Rd H a (.dT e)/\y=.ref b/\H b=R (.tup (k.map kV))/\r=mB e k
def afW(H:Hp)(a:M)(y v:V)(H':Hp):Prop:=
 (∃e k,H a=R (.dK e)/\y=kV k/\e.length<WG/\H'=bW H a (.dK (kL e k v)))\/
 ∃e k b,H a=R (.dT e)/\y=.ref b/\H b=R (.tup (k.map kV))/\e.length<WG/\H'=bW H a (.dT (kL e k v))
theorem adK.k{k:dI}(e:H a=R (.dK W3)):adK H a (kV k) (mB W3 k):=.inl #[W3,k,.inl e,W,W]
theorem afW.k{k:dI}(e:H a=R (.dK W3))(b:W3.length<WG):afW H a (kV k) v (bW H a (.dK (kL W3 k v))):=.inl #[W3,k,e,W,b,W]
section
variable{X:Cx}{Z:br (Wo×Obj)}{Y:St}{H:Hp}{s:Ws}{a:Wo}{y v:V}{u r:Wi}{o:bP V}{A:W8}{E:Wi->Ws->Prop}
def Inv.big(I:Inv X Z Y H s):X4<s.heap.objs.size:=by let h:=(I.mod.glob.keeps I.bk).lt;show ZQ () h
def HL{Q:Wi->Ws->Prop}(t:A.units+1<cLine)(I:Inv X Z Y H s)(g:adK H a y (R v))(q:RelV y u)(h:∀c d,Inv X Z Y H d->RelV v c->Q c d):
  wpAny (model X.prog X.w) A (getItem (.ref a) u) Q E s:=by
 rcases g with⟨J,k,e,n,l⟩|⟨J,k,b,e,n,F,l⟩
 .subst n;let(z,C,w,i,dd):=B6 I.XY e;let(c,j,f):=aaJ.some_of (v:=v) (o:=valueAt w k) (by rw[l];show i.val k);show wpAny_getItem_of (xO q) dd.mapOf j (h c _ (I.tok _) f)
 .subst n;cases(show u=Wi.ref b from q);let(z,C,xs,i,dd):=AY I.XY e;let(c,j,f):=aaJ.some_of (v:=v) (o:=(atKey xs k).map (·.2)) (by rw[l];show i.val k);let(p,B,m):=ZI.mp j;show ahx (acQ t) (ye I.XY F) dd B ?_;rw[m];show h c _ (I.tok _) f
def Vm{Q:B->Ws->Prop}(n:A.units+1<cLine)(I:Inv X Z Y H s)(g:adK H a y o)(m:RelV y u)(h:∀c,Inv X Z Y H c->Q (.bool o.isSome) c):
  wpAny (model X.prog X.w) A (Yl .In u (.ref a)) Q E s:=by
 rcases g with⟨t,k,e,j,l⟩|⟨t,k,b,e,j,p,l⟩
 .subst j;let(z,i,w,f,dd):=B6 I.XY e;show wpAny_in_of (xO m) i dd.mapOf ?_;rw[<-(f.val k).abr,<-l];show h _ (I.tok _)
 .subst j;cases(show u=Wi.ref b from m);let(z,i,xs,f,dd):=AY I.XY e;show wpAny_in_heap (acQ n) (ye I.XY p) i dd ?_;let q:=(f.val k).abr;rw[acb]at q;rw[<-q,<-l];show h _ (I.tok _)
theorem qH{c:Heap}{d:Nat}{f:HO}(I:Inv X Z Y H s)(g:UL (H a))(h:Heap.SameBut a s.heap c)(i:∃q,c.get? a=R q)(new:ObjOk X.prog X.w (bW H a f) c a f):
  Inv X Z Y (bW H a f) {s with heap:=c,toks:=d}:=
 I.write (x:=a) (e:=a) g (.inl W) (λb q j z=>(h.2 b j).trans z) i new
theorem DF(z:g.length<=WG)(hd:(a==X4)=Wu)(b:KV g f)(dd:h.DictOf (dY e w) a f):
  ObjOk e w H' h a (.dK g):=#[z,hd,f,b,dd]
def G2{H':Hp}{Q:Unit->Ws->Prop}(L:A.units+1<cLine)(I:Inv X Z Y H s)(g:afW H a y v H')(F:RelV y u)(x:RelV v r)(h:∀d,Inv X Z Y H' d->Q ⟨⟩ d):
  wpAny (model X.prog X.w) A (setItem (.ref a) u r) Q E s:=by
 rcases g with⟨w,k,e,B,l,C⟩|⟨w,k,b,e,B,K,l,C⟩
 .subst B C
  let(z,t,vs,f,dd):=BF I.XY e;let m:vs.length<=WG:=by rw[<-f.length];show z
  let p:(kL w k v).length<=WG:=by let:=nM w k v;ext
  show wpAny_setItem_pairs (hsz:=m) (xO F) dd λG i n=>h _ ?_;let M:∃q,G.get? a=lD q:=let#[q,_,_,j,_]:=i;#[q,j]
  show qH I (by rw[e];show True.intro) n M (DF p t (f.put k x) i)
 .subst B C
  cases(show u=Wi.ref b from F);let(z,t,xs,f,dd):=TV I.XY e;let m:xs.length<=WG:=by rw[<-Paired.length f];show z
  let p:(kL w k v).length<=WG:=by let:=nM w k v;ext
  show ahy (hsz:=m) (acQ L) (ye I.XY K) dd λG i n=>h _ ?_;let(q,S,T,j,R,P,O,_,N):=i;show qH I (by rw[e];show True.intro) n #[q,j] #[p,t,_,(f.put k K x).keeps λc U J=>?_,q,S,T,j,R,P,O,N];rw[aU (UG J e (λz=>nomatch z))];show J
end
section
variable{X:Cx}{Z:br (Wo×Obj)}{T:St}{H:Hp}{s:Ws}{a:Wo}{Y:br (dI×V)}{k:dI}{u:Wi}{A:W8}{E:Wi->Ws->Prop}
def UP{v:V}{b:G Wi}{Q:Wi->Ws->Prop}(I:Inv X Z T H s)(e:H a=R (.dK Y))(j:RelV (kV k) u)(l:mB Y k=R v)(hm:b=[]\/∃x,b=[x])
  (h:∀c d,Inv X Z T (bW H a (.dK (qI Y k))) d->RelV v c->Q c d):wpAny (model X.prog X.w) A (call (.builtin "dict.pop") (.ref a::u::b)) Q E s:=by
 let(z,B,w,f,dd):=BF I.XY e;let(c,n,m):=aaJ.some_of (v:=v) (o:=valueAt w k) (by rw[<-l];show f.val k);let r:(keyPart u).isSome=P:=by
  cases k with
  |inl i=>let(t,q):=(show∃t,u=Wi.int i t from j);subst q;rfl
  |inr x=>let(t,q):=(show∃t,u=Wi.str x t from j);subst q;rfl
 let L:argsOk "dict.pop" #[.ref a::u::b,[]]:=by
  rcases hm with q|⟨x,q⟩
  .subst q;show PySem.F.args_dict_pop_2 _ _
  .subst q;show PySem.F.args_dict_pop_3 _ _ _
 show adi adX dd.typeIs PySem.F.entry_dict_pop L (meets_dict_pop_there (dY X.prog X.w) a (xO j) b hm r)
  #[w,c,dd,by rw[<-f.length];show z,n,λC g p=>h c _ ?_ m]
 let y:∃q,C.get? a=R q:=let#[q,_,_,J,_]:=g;#[q,J]
 show qH I (by rw[e];show True.intro) p y (DF (Xo (MF Y k) z) B (f.drop k) g)
end
def RM(i:XB):Prop:=∀a b,subscripted i Wu a b=operate [a,b] (getItem a b)
def Et{T l:String}
  (n:typeLookup (.type T) "__getitem__"=pure (R (.builtin l))) (m:RM slice)
  (h:wpAny (model prog w) A (eval value env) (λo d=>wpAny (model prog w) A (eval slice env) (λi c=>c.TypeIs o T/\wpAny (model prog w) A (getItem o i) Q E c) E d) E s):
  wpAny (model prog w) A (eval (.Subscript value slice pos) env) Q E s:=by
 show Subscript_ (wpAny_mono h (λo d g=>wpAny_mono g (λi c a=>?_) λ_ _ x=>x) λ_ _ x=>x);let(j,a):=a;ext subscriptTail;show Wf ?_;rw[getitemInPython_of_ne j.not_modules];show Wf (aj0 j n ?_);let e:wpAny (model prog w) A (subscripted slice Wu o i) (λr b=>wpAny (model prog w) A (letTemporaryGo value o r>>=λ_=>pure r) Q E b) E c:=by rw[m o i];show wpAny_operating (wpAny_mono a (λr b f=>Wf (wpAny_letTemporaryGo (Wt f))) λ_ _ x=>x)
 first
  |show Wt (Wf e)
  |show Wf (Wt (Wf e))
  |show Wf e
def Ci(I:Inv X pins σ H s)(g:adK H a y o):s.TypeIs (.ref a) "dict":=by
 rcases g with⟨f,k,e,_,_⟩|⟨f,k,b,e,_,_,_⟩
 .let(_,_,h,_,dd):=B6 I.XY e;show dd.typeIs
 .let(_,_,xs,_,dd):=AY I.XY e;show dd.typeIs
def Qy(f ty:TE):TE:=λb H Q=>f b H λx g=>ty b g λy e=>∃a v,x=.ref a/\adK e a y (R v)/\Q v e
def T9(ty f:TE):TE:=λb H Q=>ty b H λy g=>f b g λx e=>∃a o,x=.ref a/\adK e a y o/\Q (.bl o.isSome) e
def QA(f ty e:TE):TS:=λD b H=>e b H λv i=>f b i λx h=>ty b h λy g=>∃a j,x=.ref a/\afW g a y v j/\D.nx b j
section
variable{X:Cx}{o i e Z:XB}{pos Y ang:Pos}{T U tv:TE}
def Gr(t:X.A.units+1<cLine)(z:PE X o T)(c:PE X i U)(w:RM i):PE X (.Subscript o i pos) (Qy T U):=by intro b s j H Q I h;show Et ac7.lookup w (de (z b s j H _ I h) λu m #[x,G,E,p,r]=>de (c b m j G _ E r) λM L a=>?_);let(y,F,l,n,a,v,A,g,q):=a;subst A;obtain rfl:=p;show#[Ci l g,HL t l g n λJ K C f=>#[v,F,C,f,q]]
def RI(r:X.A.units+1<cLine)(c:PE X i U)(t:PE X o T):PC X .In i o (T9 U T):=by intro b s f H Q I h;show de (c b s f H _ I h) λJ j #[y,E,A,l,p]=>de (t b j f E _ A p) λu G a=>?_;let(x,C,z,m,a,q,v,g,n):=a;subst v;obtain rfl:=m;show Vm r z g l λF w=>#[.bl q.isSome,C,w,W,n]
def NC(z:X.A.units+1<cLine)(C:PE X o T)(c:PE X i U)(w:PE X Z tv)(B:Yc Z (lD (.Subscript o i Y)) pos.line X.env=pure Wu):
  PS X (.Assign [.Subscript o i Y] Z pos) (QA T U tv):=by
 intro b s f H D I h;show afN (de (w b s f H _ I h) λr l #[v,N,K,rv,t]=>de (C b l f N _ K t) λu j #[x,A,J,n,q]=>de (c b j f A _ J q) λQ P #[y,S,G,m,a,L,E,g,p]=>?_) B;subst E;obtain rfl:=n;show G2 z G g m rv λO F=>#[f,L,F,p]
end
def sK(c a:G (dI×V)):G (dI×V):=a.foldl (λb e=>kL b e.1 e.2) c
def KV.merge:∀{a:G (dI×V)} {b:G (dI×B)} {d:G (dI×V)} {c:G (dI×B)},KV a b->KV d c->KV (sK d a) (merged c b):=by
 intro a b d c r;unfold KV at r
 induction r generalizing d c with
 |nil=>intro q;show q
 | @cons p q j i h t g=>
  intro f;let e:KV (kL d p.1 p.2) (stored c q.1 q.2):=by let:=f.put p.1 h.2;rw[<-h.1];show this
  show g e
theorem pf:∀(a c:G (dI×V)),(sK c a).length<=c.length+a.length
 |[],c=>by show c.length<=c.length+0;ext
 |p::r,c=>by let e:=pf r (kL c p.1 p.2);let b:=nM c p.1 p.2;show(sK (kL c p.1 p.2) r).length<=_;rw[WJ];ext
structure M1(X:Cx)(o:XB)(m:Str)(apos:Pos)(e:XB)(Zo:Pos):Prop where
 base:attributeBase o m X.env (eval o X.env)=eval o X.env
 few:((backTo Zo (W5 [e] X.env)).all (λx=> !x.1)&&(backToKw Zo (keywordEach [] X.env)).all (λx=>x.1.isSome)
  &&decide (([e]:G XB).length+([]:G adb).length+(if([]:G adb).isEmpty then 0 else 1)<30))=P
 line:(apos.endLine==Zo.line)=P
 trees:backTo Zo (W5 [e] X.env)=[(Wu,eval e X.env)]
structure M2(X:Cx)(o:XB)(m:Str)(apos:Pos)(e f:XB)(Zo:Pos):Prop where
 base:attributeBase o m X.env (eval o X.env)=eval o X.env
 few:((backTo Zo (W5 [e,f] X.env)).all (λx=> !x.1)&&(backToKw Zo (keywordEach [] X.env)).all (λx=>x.1.isSome)
  &&decide (([e,f]:G XB).length+([]:G adb).length+(if([]:G adb).isEmpty then 0 else 1)<30))=P
 line:(apos.endLine==Zo.line)=P
 trees:backTo Zo (W5 [e,f] X.env)=[(Wu,eval e X.env),(Wu,eval f X.env)]
def VO(H:Hp)(a:M):Prop:=(∃b,Rd H a (.dK b))\/∃b,Rd H a (.dT b)
def QW(I:Inv X pins σ H s)(d:VO H a):
  s.TypeIs (.ref a) "dict"/\(∀b,Wi.ref a=.ref b->∃c,s.heap.get? b=R c/\c.dict=U)/\(a==X4)=Wu:=by
 rcases d with⟨i,e⟩|⟨i,e⟩
 .let(_,f,j,_,dd):=B6 I.XY e;show#[dd.typeIs,λb q=>?_,f];ext q;let(c,_,_,h,g,_):=dd;show#[c,h,g.2.1]
 .let(_,f,xs,_,dd):=AY I.XY e;show#[dd.typeIs,λb q=>?_,f];ext q;let(c,_,_,h,g,_):=dd;show#[c,h,g.2.1]
def Mx(g ty:TE):TE:=λb H Q=>g b H λx f=>∃a,x=.ref a/\VO f a/\ty b f λy e=>∃h k v,e a=R (.dK h)/\y=kV k/\mB h k=R v/\Q v (bW e a (.dK (qI h k)))
section
variable{X:Cx}{o e f:XB}{Z Y:Pos}{T ty S:TE}
def KP(A:PE X o T)(B:PE X e ty)(m:M1 X o "pop" Z e Y):PE X (.Call (.Attribute o "pop" Z) [e] [] Y) (Mx T ty):=by intro b s i H Q I h;show aie m.base m.few m.line ZA adX PySem.F.type_dict_pop (de (A b s i H _ I h) λu q a=>?_);let(x,L,j,t,a,E,d,z):=a;subst E;obtain rfl:=t;let(p,n,_):=QW j d;show#[p,n,?_];rw[m.trees];show Calls.callWith_builtin W (Calls.evalArgs_plain (Calls.spliced_cons (de (B b q i L _ j z) λP O a=>?_)));let(y,F,K,r,W3,k,v,G,C,l,w):=a;show Calls.spliced_nil ?_;subst C;show UP K G r l (.inl W) λM N J g=>#[v,_,J,g,w]
end
end L2
namespace HT
open PySem PySem.Spec PyProof.Rows PySem.Calls
def CC(n:Nat):W7.Slice.sliceAdjust U U (-1) (n:Int)=((n:Int) - 1,-1):=by
 ext W7.Slice.sliceAdjust;let a:(-1:Int)<0:=by decide
 simp only[a,if_true]
def Ef(n:Nat):W7.Slice.slicePlaces ((n:Int) - 1) (-1) (-1)=n:=by
 ext W7.Slice.slicePlaces;let a:¬((-1:Int)>0):=by decide
 simp only[a,if_false];by_cases h:(n:Int) - 1> -1
 .rw[av h,show(- -1:Int)=1 by decide,aiR];ext
 .rw[ax h];ext
def IJ(xs:Array B):((Wk xs.size).filterMap λ(m:Nat)=>xs[((xs.size:Int) - 1+(m:Int)*(-1)).toNat]?).toArray=xs.toList.reverse.toArray:=by
 let e:(Wk xs.size).filterMap (λ(m:Nat)=>xs[((xs.size:Int) - 1+(m:Int)*(-1)).toNat]?)=((Wk xs.size).map λk=>xs.size - 1 - k).filterMap (xs[·]?):=by
  rw[afu];let a:∀l:G Nat,(∀m∈l,m<xs.size)->l.filterMap (λ(m:Nat)=>xs[((xs.size:Int) - 1+(m:Int)*(-1)).toNat]?)=l.filterMap ((xs[·]?)∘λk=>xs.size - 1 - k):=by
   intro l
   induction l with
   |nil=>intro _;rfl
   |cons m r b=>
    intro h;let hm:=h m (.head _);let g:((xs.size:Int) - 1+(m:Int)*(-1)).toNat=xs.size - 1 - m:=by ext
    rw[Zp,Zp,b λk f=>h k (.tail _ f),g];rfl
  show a _ λm hm=>Xz.mp hm
 rw[e,PySem.W.krv_range,List.filterMap_reverse,PySem.W.krv_all]
section
variable{Y:WX}{w:Xm}{A:W8}{E:Wi->Ws->Prop}{s:Ws}
def rX{f:M}{e:B}{n:Nat}{Q:Int×Int×Nat->Ws->Prop}(i:s.heap.IsSliceOf f .none .none e)(g:aa7 e (R (-1)))
  (h:Q ((n:Int) - 1,-1,n) s):wpAny (model Y w) A (W7.Slice.sliceApplied (.ref f) (pure (n:Int))) Q E s:=by
 let(l,a,j,b):=id i;unfold W7.Slice.sliceApplied W7.Slice.sliceFields;show Wf (Wf (Xd a b (x:=.none) W (Wf (Xd a b (x:=.none) W (Wf (Xd a b (x:=e) W (Wt ?_)))))));show Wf (jR g ?_);show wpAny _ _ (if((-1:Int)==0)=P then _ else _) _ _ s;rw[ax ()];show Wf (jR .none (Wf (jR .none (Wf (Wt ?_)))));show wpAny _ _ (match W7.Slice.sliceAdjust U U (-1) (n:Int)with|(lo,m)=>pure (lo,(-1:Int),W7.Slice.slicePlaces lo m (-1))) _ _ s;rw[CC n];show wpAny _ _ (pure ((n:Int) - 1,(-1:Int),W7.Slice.slicePlaces ((n:Int) - 1) (-1) (-1))) _ _ s;rw[Ef];show Wt h
def getItem_tuple_rev{t f:M}{a:Array B}{l:B}{Q:B->Ws->Prop}(e:IsTup s.heap t a)(n:s.heap.IsSliceOf f .none .none l)(o:aa7 l (R (-1)))
  (h:Q (.ref s.heap.objs.size) {s with heap:=s.heap.push {cls:=.type "tuple",data:=.seq a.toList.reverse.toArray}})
  (c:a.size<=WG):wpAny (model Y w) A (getItem (.ref t) (.ref f)) Q E s:=by
 let b:sizeOk (.seq a.toList.reverse.toArray):=by show a.toList.reverse.toArray.size<=WG;rw[WA,Zr,XD];show c
 let(p,g,i,q):=id n;let j:s.TypeIs (.ref f) "slice":=#[p,g,i];ext getItem
 try specialize X2 ?_
 first|show Wf (Wt ?_)|skip
 show Wf (adf e.typeIs () ?_);show Wf (X0 (name:=Str.ofString "__getitem__") e.typeIs Xr
  (Ym Xr e.typeIs entry_tuple_getitem ?_ (args_tuple_getitem _ _)))
 show wpAny _ _ (W7.Tuple.tupleItemsOf (.ref t)>>=_) _ _ s;show Wf (tupleItemsOf_ e ?_);show Wf (Z7 j ?_);rw[av ()];show Wf (rX n o ?_);show wpAny _ _ (if(((a.size:Int) - 1)==0&&(-1:Int)==1&&a.size==a.size)=P then _ else _) _ _ s;rw[ax (by rw[show((-1:Int)==1)=Wu from by decide,ag6,ZK];show WM),IJ]
 first
  |show Wf (m:=W7.Tuple.tupleExact _) (Xx (Wt #[_,W,Wt h]) b)
  |show Wf (m:=W7.Tuple.tupleExact _) (Xx (Wf (Wt (Wt #[_,W,Wt h]))) b)
  |show Wf (Wf (m:=W7.Tuple.tupleExact _) (Xx (Wt (Wt #[_,W,Wt h])) b))
  |show Wf (Wf (m:=W7.Tuple.tupleExact _) (Xx (Wt #[_,W,Wt h]) b))
end
end HT
namespace L2
open PySem PySem.Spec PyProof.Rows
def Jp{xs:G V}{a:G B}(h:Vals xs a):Vals xs.reverse a.reverse:=by
 induction h with
 |nil=>show .nil
 |cons h t b=>rw[aaE,aaE];show b.append (.cons h .nil)
def Um(K:Ld)(g:TE)(f:TO):TE:=λe H Q=>g e H λx h=>f e h λo b=>o=R (-1)/\∃a xs,x=.ref a/\SqT K b a xs/\∀p,b p=U->Q (.ref p) (bW b p (.tup xs.reverse))
def RE{X:Cx}{e l:XB}{p2 m:Pos}{u:TE}{t:TO}(N:PE X e u)(M:PO X (lD l) t):PE X (.Subscript e (.Slice Wh Wh (lD l) p2) m) (Um X.K u t):=by
 intro f s j H Q I h;show Subscript_ (de (N f s j H _ I h) λv B a=>?_);let(x,Y,T,C,F):=a;show wpAny_Slice ?_;rw[afa];show Wt ?_;show Wt (de (M f B j Y _ T F) λp g a=>?_);let(o,A,S,G,w,a,xs,O,L,E):=a;subst w O;ext C;let n:Inv X f j A {g with heap:=g.heap.push {cls:=.type "slice",data:=.fields #v[.none,.none,p]}}:=S.kept (t':=g.toks) λb J q=>cj _ q;let(R,r,z,y):=n.tuple L;let i:R.toArray.size=xs.length:=by rw[WA];show r.length.symm
 show wpAny (model X.prog X.w) X.A (subscriptTail e (.Slice Wh Wh (lD l) p2) (.ref a) (.ref g.heap.objs.size)) (EP X f j Q) X.xe {g with heap:=g.heap.push {cls:=.type "slice",data:=.fields #v[.none,.none,p]}};show tail_any (ops:=[.ref a,.ref g.heap.objs.size]) z.typeIs Xr.lookup ?_ (by with_unfolding_all rfl);show HT.getItem_tuple_rev z (Heap.IsSliceOf.new ..) G ?_ (by rw[i];show y);show#[.ref _,_,n.laid (t':=g.toks) (o:=.tup xs.reverse) (λb J q=>cj _ q) (Ww _) ?_,W,E _ (n.XY.fresh (Ww _))];show#[by rw[Zr];show y,_,Jp r,aco.new _ _]
end L2
namespace L4
open PySem PySem.Spec PyProof.Rows L2 L3
def HN(h:Heap)(e:M)(c:B)(d:I M)(a:B)(hd:I M):Prop:=
 ∃b fs,h.get? e=R b/\b.cls=c/\b.dict=d/\b.data=.fields fs/\fs[0]?=R a/\
  match hd with
  |none=>fs[1]?=R .none
  |some T=>fs[1]?=R (.ref T)/\T≠e/\∃g f,h.get? T=R g/\g.data=.fields f/\f[3]?=R .none
structure Lft(l:G Env)(e:M)(hd:I M)(h h':Heap):Prop where
 keep:∀b o,h.get? b=R o->b≠e->hd≠R b->b∉Al l->h'.get? b=R o
 slot:∀b o,h.get? b=R o->b≠e->hd≠R b->∃sl,h'.get? b=R {o with slots:=sl}
 here:∀b o,h.get? b=R o->∃o',h'.get? b=R o'
section
variable{M:aft}{A:W8}{E:Wi->Ws->Prop}{s:Ws}
def jU
  (I:A.frames=R (env::outer)) (B:s.heap.FunFrames base (env::outer)) (H:env.frame=R L) (C:s.heap.get? e=R X) (p:X.data=.fields fs) (m:1<fs.size) (J:fs[0]?=R a0)
  (k:∀D T,s.heap.objs.size<=T->HN D e X.cls X.dict a0 (R T)->Lft (env::outer) e U s.heap D->Q ⟨⟩ {s with heap:=D}):
  wpAny M A (frameOf env>>=λfr=>entryPlaceOf L nx>>=λpl=>EntryCells.newEntry Y fr .none (rawInt L) .none pl>>=λb=>setField (.ref e) 1 b) (λ_ V=>wpAny M A (setFlight (.ref e) U) Q E V) E s:=by
 let j:e∉(env::outer).filterMap (·.frame):=λz=>by let(_,o,q,n):=B.mem z;rw[C]at q;ext q;show n fs p
 show Wf (aif I B H λa S=>?_);show Wf (ahz λpl P=>?_);unfold EntryCells.newEntry newFields;show Wf (Xx ?_ (P.sizeOk5 _ _ _ _ _));let y:=(S.2.1 e j).trans C;generalize hN:({cls:=.type "traceback",dict:=U,data:=.fields ([Y,.ref L,.none,rawInt L,.none]++(if pl.isEmpty then Wz 6 Wi.none else pl)).toArray}:Obj)=N;let g:N.data=.fields ([Y,.ref L,.none,rawInt L,.none]++(if pl.isEmpty then Wz 6 Wi.none else pl)).toArray:=by rw[<-hN]
 let K:=d0 g;let w:=cj N y;show X1 w p m ?_;let l:=XX (cn y);let r:=dP p (·.setIfInBounds 1 (Wi.ref a.objs.size));let i:=dk (Obj.mapFields (·.setIfInBounds 1 (Wi.ref a.objs.size))) w (d0 r)
 let u:=
  (da (a.push N) (Obj.mapFields (·.setIfInBounds 1 (Wi.ref a.objs.size))) l.symm).trans (cN a K)
 ext setFlight;show Wf (Xd i r (x:=.ref a.objs.size) (by simp[m]) ?_);rw[av (show(Wi.ref a.objs.size !=Wi.none)=Wl from by simp)];let t:3<([Y,.ref L,.none,rawInt L,.none]++(if pl.isEmpty then Wz 6 Wi.none else pl)).toArray.size:=by simp only[WA,Wm,WJ,YG];ext
 show X1 u g t ?_;let v:=da ((a.push N).update e (Obj.mapFields (·.setIfInBounds 1 (Wi.ref a.objs.size)))) (Obj.mapFields (·.setIfInBounds 3 ((U:bP Wo).elim Wi.none λf=>rawInt f))) l;let F:=dk (Obj.mapFields (·.setIfInBounds 3 ((U:bP Wo).elim Wi.none λf=>rawInt f))) u (d0 (dP g _));let aaG:∀b o,b≠e->a.get? b=R o->(((a.push N).update e (Obj.mapFields (·.setIfInBounds 1 (Wi.ref a.objs.size)))).update a.objs.size (Obj.mapFields (·.setIfInBounds 3 ((U:bP Wo).elim Wi.none λf=>rawInt f)))).get? b=R o:=λb o ne q=>by rw[da _ _ (XX (cn q)),da _ _ ne.symm];show cj N q
 show k _ a.objs.size (by rw[S.1];show Ww _) #[_,_,v.trans i,Obj.cls_mapFields _ _,?_,r,?_,?_,l,_,_,F,dP g _,?_] #[λb o q ne _ G=>aaG b o ne ((S.2.1 b G).trans q),λb o q ne _=>?_,λb o q=>?_]
 .cases X with
  |mk c d O h=>ext O<;>rfl
 .rw[ZR ()];show J
 .simp[m]
 .rw[Yg t];rfl
 .let(h,z):=S.2.2 b o q;show#[h,aaG b _ ne z]
 .by_cases ne:b=e
  .subst ne;show#[_,v.trans i]
  .let(h,z):=S.2.2 b o q;show#[_,aaG b _ ne z]
def HG
  (v:A.frames=R (env::outer)) (u:s.heap.FunFrames base (env::outer)) (h:env.frame=R L) (F:HN s.heap e c X Y hd)
  (k:∀x T,s.heap.objs.size<=T->HN x e c X Y (R T)->Lft (env::outer) e hd s.heap x->Q ⟨⟩ {s with heap:=x}):wpAny M A (leaving env (.ref e)) Q E s:=by
 let(N,fs,q,I,H,d,w,r):=F;subst I H;cases hd with
 |none=>let r:=r;unfold leaving noteFrame;simp only[h];show Wf (Wf (Xd q d r ?_));rw[ax ()];show jU v u h q d (Xa.mp r).1 w k
 |some T=>
  let(r,C,O,B,g,dT,p):=r;unfold leaving noteFrame;simp only[h];show Wf (Wf (Xd q d r ?_));rw[av (show(Wi.ref T !=Wi.none)=P from by simp)];show Wf (Xd g dT p ?_);rw[ax (show¬((Wi.none==rawInt L)=P)from by simp[rawInt])];show Wf (X1 g dT (Xa.mp p).1 ?_);let a:∀b,b≠T->(s.heap.update T (Obj.mapFields (·.setIfInBounds 3 Wi.none))).get? b=s.heap.get? b:=λb ne=>da _ _ ne.symm;let f:=dk (Obj.mapFields (·.setIfInBounds 3 Wi.none)) g (d0 (dP dT _));let m:∀b o,s.heap.get? b=R o->(∀S,o.data≠.fields S)->b≠T:=λb o z n y=>by rw[y,g]at z;ext z;show n B dT
  show jU v (u.of_keeps λb o z n=>#[o,(a b (m b o z n)).trans z,W]) h ((a e C.symm).trans q) d (Xa.mp r).1 w λx J t K i=>k x J (by rw[Heap.size_after_update]at t;show t) K #[λb o z l j G=>?_,λb o z l j=>?_,λb o z=>?_]
  .show i.keep b o ((a b λy=>j (by rw[y])).trans z) l (by simp) G
  .show i.slot b o ((a b λy=>j (by rw[y])).trans z) l (by simp)
  .by_cases y:b=T
   .subst y;show i.here b _ f
   .show i.here b o ((a b y).trans z)
end
theorem Lft.XY{P:WX}{w:Xm}{l:G Env}{e:M}{hd:I M}{H:Hp}{h d:Heap}(L:Lft l e hd h d)(m:HOk P w H h)(ne:H e=U)(i:∀T,hd=R T->H T=U)(j:∀b∈Al l,H b=U):HOk P w H d:=λb u q=>by
 let free:∀c v,H c=R v->c≠e/\hd≠R c/\c∉Al l:=λc v z=>#[(λy=>by rw[y,ne]at z;ext z),(λy=>by rw[i c y]at z;ext z),(λy=>by rw[j c y]at z;ext z)];show(m b u q).aaG (λc v n z=>?_) (λ_ z=>z) λ_ _ z=>z;rcases n with y|y
 .rw[y]at z⊢;let(g,f,a):=free b u q;show L.keep b v z g f a
 .let(g,f,a):=free c _ y;show L.keep c v z g f a
def jp(P:WX)(w:Xm):zK:=λa H s E x b=>
 ∃e c f g T H',x=.ref e/\s.heap.get? e=U/\s.heap.get? T=U/\HN b.heap e c f g (R T)/\H' e=U/\H' T=U/\
  b.os=s.os/\AllBare b.gens/\Un (Al a) [] H H' s.heap b.heap/\HOk P w H' b.heap/\E c f H'
def Qr{P:WX}{w:Xm}{K:Ld}{k:Str->bP Wi}{base:Heap}{N:br Str}{i:Str}{a:Zt}{f:Wo}{v:Wi}{A:W8}{outer:br Env}{g:Ws}{G:Hp}{E:XK}
  {l:br (Wo×Obj)} {J:L2.St} {H:Hp} {s:Ws} {e:Wo} {c C:Wi} {d hd:bP Wo} (I:L2.Inv (gM (jp P w) P w K k base N i a f v A outer g G E) l J H s)
  (F:HN s.heap e c d C hd) (u:g.heap.get? e=Wh) (S:∀T,hd=lD T->g.heap.get? T=Wh) (ne:H e=Wh) (Q:∀T,hd=lD T->H T=Wh) (q:E c d H):
  (gM (jp P w) P w K k base N i a f v A outer g G E).xe (.ref e) s:=by
 let Z:=I.ok.frames;let Y:=I.stack;show HG (L:=g.heap.objs.size) Z Y W F λh' T t F' L=>?_;let R:=L.XY I.XY ne Q I.ab8;let X:H T=Wh:=I.XY.fresh t;let p:∀b o,g.heap.get? b=lD o->b<g.heap.objs.size:=λb o z=>cn z;let h:∀b o,g.heap.get? b=lD o->b≠e/\hd≠lD b:=λb o z=>#[(λy=>by rw[y,u]at z;ext z),(λy=>by rw[S b y]at z;ext z)];let sz:=I.sz;show#[e,c,d,C,T,H,W,u,dN (Xo sz t),F',ne,X,I.os,I.bare,?_,R,q];let B:=I.base;show#[λb o z n r _=>?_,λb o z n U _=>?_,λb o z n _=>?_,λb o z _=>?_,B.acX,B.acL,B.acU]
 .let j:=B.keep b o z n r (λy=>nomatch y)
  show L.keep b o j (h b o z).1 (h b o z).2 λy=>?_;rcases W2.mp (I.abL b y)with y|y
  .let y:b=g.heap.objs.size:=y;show a7 (p b o z) (by rw[y];show XU _)
  .show r y
 .let(sl,j):=B.slot b o z n U (λy=>nomatch y);let(m,M):=L.slot b _ j (h b o z).1 (h b o z).2;show#[m,M]
 .show B.free b o z n (λy=>nomatch y)
 .let(O,j):=B.there b o z (λy=>nomatch y);show L.here b O j
def kR{P:WX}{w:Xm}{K:Ld}{d:Str->bP Wi}{base:Heap}{N:G Str}{g:Str}{a:Zt}{f:M}{m:Wi}{A:W8}{outer:G Env}{i:Ws}{r:Hp}{E:XK}:
  gH (jp P w) (gM (jp P w) P w K d base N g a f m A outer i r E) E:=by
 rintro l t H s x u I ⟨e,c,Q,B,T,C,rfl,le,L,F,ne,J,os,bare,un,XY,q⟩;let p:=I.aei (ch:=[]) os un XY bare (λb z=>nomatch z);let h:∀b,s.heap.get? b=U->i.heap.get? b=U:=λb z=>by
  cases y:i.heap.get? b with
  |none=>rfl
  |some o=>let(v,j):=I.base.there b o y (λy=>nomatch y);rw[z]at j;ext j
 show Qr p F (h e le) (λn z=>by ext z;show h T L) ne (λn z=>by ext z;show J) q
def Rx(x:ObjOk b w H h a o):∃c,h.get? a=R c:=by
 cases o with
 |lst xs=>let(_,_,_,_,e):=x;show#[_,e]
 |tup xs=>let(_,_,_,c,e,_):=x;show#[c,e]
 |dK i=>let(_,_,_,_,o,_,_,e,_):=x;show#[o,e]
 |dT i=>let(_,_,_,_,o,_,_,e,_):=x;show#[o,e]
 |set S n=>let(o,_,_,_,e,_):=x;show#[o,e]
 |ins C m fs=>let(_,_,_,e,_):=x;show#[_,e]
 |own y=>show x
 |xd fs=>let(_,(o,_,_,e,_),_):=x;show#[o,e]
 |rng lo l=>let(_,_,_,e):=x;show#[_,e]
 |frz c u=>show#[c,x.1]
 |tbl j=>show#[_,x]
 |met f y=>show#[_,x]
 |ext g=>show x.2.1
 |exw g=>show x.2.1
def B2(k:HOk e w H h)(n:h.get? a=U):H a=U:=by
 cases q:H a with
 |none=>rfl
 |some o=>let(b,z):=Rx (k a o q);rw[n]at z;ext z
section
variable{M:aft}{A:W8}{E:Wi->Ws->Prop}{s:Ws}
def Oi{base:Heap}{env:Env}{outer:br Env}{L e:Wo}{c B:Wi}{D hd:bP Wo}{Q:Unit->Ws->Prop}
  (v:A.frames=R (env::outer)) (u:s.heap.FunFrames base (env::outer)) (h:env.frame=R L) (F:HN s.heap e c D B hd)
  (k:∀x T,s.heap.objs.size<=T->HN x e c D B (R T)->Lft (env::outer) e hd s.heap x->Q ⟨⟩ {s with heap:=x}):
  wpAny M A (noteFrame (.ref e) env) (λ_ s2=>wpAny M A (setFlight (.ref e) U) Q E s2) E s:=by
 let(O,fs,q,J,I,d,w,r):=F;subst J I;cases hd with
 |none=>let r:fs[1]?=R .none:=r;ext noteFrame;simp only[h];show Wf (Xd q d r ?_);rw[ax ()];show jU v u h q d (Xa.mp r).1 w k
 |some T=>
  let(r,G,P,C,g,dT,p):=r;ext noteFrame;simp only[h];show Wf (Xd q d r ?_);rw[av (show(Wi.ref T !=Wi.none)=Wl from by simp)];show Wf (Xd g dT p ?_);rw[ax (show¬((Wi.none==rawInt L)=Wl)from by simp[rawInt])];show Wf (X1 g dT (Xa.mp p).1 ?_);let a:∀b,b≠T->(s.heap.update T (Obj.mapFields (·.setIfInBounds 3 Wi.none))).get? b=s.heap.get? b:=λb ne=>da _ _ ne.symm;let f:=dk (Obj.mapFields (·.setIfInBounds 3 Wi.none)) g (d0 (dP dT _));let m:∀b o,s.heap.get? b=R o->(∀S,o.data≠.fields S)->b≠T:=λb o z n y=>by rw[y,g]at z;ext z;show n C dT
  show jU v (u.of_keeps λb o z n=>#[o,(a b (m b o z n)).trans z,W]) h ((a e G.symm).trans q) d (Xa.mp r).1 w λx K t N i=>k x K (by rw[Heap.size_after_update]at t;show t) N #[λb o z l j H=>?_,λb o z l j=>?_,λb o z=>?_]
  .show i.keep b o ((a b λy=>j (by rw[y])).trans z) l (by simp) H
  .show i.slot b o ((a b λy=>j (by rw[y])).trans z) l (by simp)
  .by_cases y:b=T
   .subst y;show i.here b _ f
   .show i.here b o ((a b y).trans z)
def SR{e T:Wo}{c l:B}{y:I Wo}{Q:Unit->Ws->Prop}(F:HN s.heap e c y l (R T))
  (k:∀x,HN x e c y l (R T)->(∀b,b≠T->x.get? b=s.heap.get? b)->(∃o,x.get? T=R o)->Q ⟨⟩ {s with heap:=x}):wpAny M A (setFlight (.ref e) U) Q E s:=by
 let(n,fs,q,t,p,d,u,r,j,w,v,i,dT,m):=F;ext setFlight;show Wf (Xd q d r ?_);rw[av (show(Wi.ref T !=Wi.none)=P from by simp)];let h:=(Xa.mp m).1;show X1 i dT h ?_;let g:∀b,b≠T->(s.heap.update T (Obj.mapFields (·.setIfInBounds 3 ((U:I Wo).elim Wi.none λf=>rawInt f)))).get? b=s.heap.get? b:=λb ne=>da _ _ ne.symm;let a:=dk (Obj.mapFields (·.setIfInBounds 3 ((U:I Wo).elim Wi.none λf=>rawInt f))) i (d0 (dP dT _));show k _ #[n,fs,(g e j.symm).trans q,t,p,d,u,r,j,_,_,a,dP dT _,?_] g #[_,a];rw[Yg h];rfl
end
section
variable{P:WX}{w:Xm}{K:Ld}{mg:Str->bP Wi}{base:Heap}{N:br Str}{qual:Str}{scope:Zt}{f:Wo}{cd:Wi}{A:W8}{outer:br Env}{s0:Ws}{H0:Hp}{E:XK}{CX:zK}
  {σ:L2.St} {H:Hp} {s:Ws} {h':Heap} {X:Cx}
def wq(I:L2.Inv X [] σ H s)(S:Wo->Prop)(L:X.ex=[])(F:∀p∈X.pn,¬S p.1)(keep:∀b o,s.heap.get? b=lD o->¬S b->b∉Al X.stack->h'.get? b=lD o)
  (a:∀b o,s.heap.get? b=lD o->¬S b->∃d,h'.get? b=lD {o with slots:=d}) (t:∀b o,s.heap.get? b=lD o->∃k,h'.get? b=lD k)
  (Y:∀b,S b->X.s₀.heap.get? b=Wh) (R:¬S X.env.locals) (U:∀x c,X.env.cells.lookup x=lD c->¬S c) (T:∀b,S b->H b=Wh):L2.Inv X [] σ H {s with heap:=h'}:=by
 let O:∀b o,X.s₀.heap.get? b=lD o->¬S b:=λb o z y=>by rw[Y b y]at z;ext z
 let j:∀b,b∉X.ex:=λb z=>by rw[L]at z;ext z
 let B:=I.base;let e:∀x c,X.env.cells.lookup x=lD c->∀v,s.heap.IsCell c v->h'.IsCell c v:=λx c z v #[o,J,Mz0]=>by let(d,q):=a c o J (U x c z);show#[_,q,Mz0]
 show#[I.ok,I.os,I.bare,#[λb o z n h _=>?_,λb o z n hf _=>?_,λb o z n x=>B.free b o z n x,λb o z x=>?_,B.acX,B.acL,B.acU],?_,λx c z=>?_,I.free,I.aae,λp G=>?_,λb u q=>?_,I.len]
 .let g:=B.keep b o z n h (j b)
  show keep b o g (O b o z) λy=>?_;rcases W2.mp (I.abL b y)with y|y
  .rw[y]at z;show a7 (cn z) (Nat.not_lt_of_le I.ok.above)
  .show h y
 .let(d,g):=B.slot b o z n hf (j b);let(C,Q):=a b _ g (O b o z);show#[C,Q]
 .let(k,g):=B.there b o z x;show t b k g
 .let(m,hn,Z):=I.loc
  let(o,es,ep,J,Mz0,r):=hn;let(d,q):=a _ o J R;show#[m,#[_,es,ep,q,Mz0,r],λi x v a1 a2 a3=>?_];let(u,rv,l):=Z i x v a1 a2 a3;show#[u,rv,?_];rcases l with l|⟨kd,c,z,y⟩
  .show .inl l
  .show .inr #[kd,c,z,e x c z _ y]
 .let(v,y):=I.cell x c z;show#[v,e x c z v y]
 .let(z,n,ne,h,dd):=I.pin p G
  rw[W4]at G;show#[keep p.1 p.2 z (F p G) (λy=>?_),n,ne,h,dd];rcases W2.mp (I.abL _ y)with y|y
  .show ne y
  .show h y
 .let free:∀c v,H c=lD v->¬S c/\c∉Al X.stack:=λc v z=>#[(λy=>by rw[T c y]at z;ext z),(λy=>by rw[I.ab8 c y]at z;ext z)]
  show(I.XY b u q).aaG (λc v hc z=>?_) (λ_ z=>z) λ_ _ z=>z;rcases hc with y|y
  .rw[y]at z⊢;show keep b v z (free b u q).1 (free b u q).2
  .show keep c v z (free c _ y).1 (free c _ y).2
end
section
variable{M:aft}{A:W8}{E:Wi->Ws->Prop}{h:Heap}{g:Array abu}{d:afs}{t:Nat}{os:aep}
def Ky{C U e:Wo}{j:Obj}{z w y v:Str}{V D:Wo}{x l s a:br Wi}{Z Y:Bool}{u r:br Str}{q p:br Wi}{a1 a2:Bool}{k c:bP Bool}{o n:bP Wo}{O N L K J I H G F B:bP Wi}{f b:String}{Q:Bool->Ws->Prop}
  (X:h.get? C=lD (excClassObj z w C V x l Z u q a1 k o O N L K J f)) (m:h.get? U=lD (excClassObj y v U D s a Y r p a2 c n I H G F B b)) (R:h.get? e=lD j) (S:j.cls=.ref C)
  (T:a.contains (.type "BaseException")=Wl) (hm:(Wi.ref C::l).contains (.ref U)=Wl) (P:Q Wl #[h,g,d,t,os]):wpAny M A (excMatches (.ref e) (.ref U)) Q E #[h,g,d,t,os]:=by
 let i:(Wi.ref U::a).contains (.type "BaseException")=Wl:=by rw[aar,T,acu]
 let ft:=tc_notTuple;ext excMatches
 repeat (first|(specialize YQ R ?_;rw[S])|specialize YQ m ?_|(specialize aaA m ?_;rw[i])|(specialize aaA X ?_;rw[hm])|wp_step)
 show P
end
abbrev Cx.marked(X:Cx)(e:M):Cx:={X with A:=X.A.mark (R (.ref e)),calm:=Wu,xe:=λ_ _=>False}
section
variable{X:Cx}{Z:L2.St}{H:Hp}{s:Ws}{Y:Heap}{e:Wo}
theorem uQ(I:L2.Inv X [] Z H s)(e:M):L2.Inv (Cx.marked X e) [] Z H s:=
 #[#[I.ok.mod,I.ok.kind,I.ok.glob,I.ok.blt,I.ok.above,I.ok.inj,I.ok.has,I.ok.cab,(λz=>nomatch z),I.ok.frames,I.ok.stk,I.ok.exf,I.ok.bs,I.ok.bsz,I.ok.aed,I.ok.aef,I.ok.abS,I.ok.frf],I.os,I.bare,I.base,I.loc,I.cell,I.free,I.aae,I.pin,I.XY,I.len]
theorem D7(ok:X.Ok)(I:L2.Inv (Cx.marked X e) [] Z H s):L2.Inv X [] Z H s:=
 #[ok,I.os,I.bare,I.base,I.loc,I.cell,I.free,I.aae,I.pin,I.XY,I.len]
end
def xJ(K:Ld)(C:M)(m:G B):Prop:=∃nm q N bs hd sn sub h col dd g f e b a id,K.lookup C=R (excClassObj nm q C N bs m hd sn sub h col dd g f e b a id)
structure Apart(X:Cx)(a:M):Prop where
 n0:X.s₀.heap.get? a=U
 nL:a≠X.env.locals
 nC:∀y c,X.env.cells.lookup y=R c->c≠a
 nP:∀p∈X.pn,p.1≠a
def JR(X:Cx)(d:XK):B->Ws->Prop:=λx a=>∃b H1 e c f g T,x=.ref e/\L2.Inv X [] b H1 a/\HN a.heap e c f g (R T)/\Apart X e/\Apart X T/\H1 e=U/\H1 T=U/\d c f H1
def vh(I:L2.Inv X pins σ H s)(e:X.ex=[])(n:s.heap.get? a=U):Apart X a:=by
 let ne:∀b o,s.heap.get? b=R o->b≠a:=λb o z y=>by rw[y,n]at z;ext z
 show#[?_,?_,λy c z=>?_,λp h=>?_]
 .cases z:X.s₀.heap.get? a with
  |none=>rfl
  |some o=>let(g,y):=I.base.there a o z (by rw[e];simp);show a7 W (ne a g y)
 .let(m,(o,_,_,z,_),_):=I.loc;show(ne _ o z).symm
 .let(v,o,f,_):=I.cell y c z;show ne c o f
 .show ne _ _ (I.pin p (aab _ h)).1
def v8{X:Cx}(a:X.ex=[]):gH (jp X.prog X.w) (X.abj (JR X t)) t:=by rintro g h H s x m I ⟨e,c,r,i,T,l,rfl,le,o,F,ne,n,os,bare,un,XY,q⟩;let f:=I.aaa;let j:=f.aei os un XY bare (λb z=>nomatch z);show#[h,l,e,c,r,i,T,W,j.adS (λp z=>nomatch z),F,vh f a le,vh f a o,ne,n,q]
abbrev Cx.pinned(X:Cx)(l:G (M×Obj)):Cx:={X with pn:=l}
theorem Nx(I:L2.Inv X pins σ H s):L2.Inv (Cx.pinned X (X.pn++pins)) [] σ H s:=
 #[#[I.ok.mod,I.ok.kind,I.ok.glob,I.ok.blt,I.ok.above,I.ok.inj,I.ok.has,I.ok.cab,I.ok.hd,I.ok.frames,I.ok.stk,I.ok.exf,I.ok.bs,I.ok.bsz,I.ok.aed,I.ok.aef,I.ok.abS,I.ok.frf],I.os,I.bare,I.base,I.loc,I.cell,I.free,I.aae,(λp a=>I.pin p (by rw[W4]at a;show a)),I.XY,I.len]
theorem k6(ok:X.Ok)(I:L2.Inv (Cx.pinned X (X.pn++pins)) [] σ H s):L2.Inv X pins σ H s:=
 #[ok,I.os,I.bare,I.base,I.loc,I.cell,I.free,I.aae,(λp a=>I.pin p (by rw[W4];show a)),I.XY,I.len]
end L4
namespace L4
open PySem PySem.Spec PySem.W PyProof.Rows L2 L3
section
variable{Y:WX}{w:Xm}{A:W8}{E:Wi->Ws->Prop}{h:Heap}{g:Array abu}{d:afs}{t:Nat}{T:aep}{a C:Wo}{o:Obj}{K:Ld}
  {S Q:Str} {N:Wo} {L J:br Wi} {z:Bool} {y:br Str} {v:br Wi} {u:Bool} {r:bP Bool} {q:bP Wo} {p n l j i:bP Wi} {X:String}
structure amh(K:Ld)(C:M)(m:G B):Prop where
 cl:xJ K C m
 be:m.contains (.type "BaseException")=P
 ga:findIn K (.ref C) "__getattribute__"=R (R (.builtin "BaseException.__getattribute__"))
 gt:findIn K (.ref C) "__getattr__"=R U
 cs:findIn K (.ref C) "__class__"=R (R (.builtin "object.__class__"))
 ob:mroIn K C (.type "object")=R P
end
end L4
namespace L4
open PySem PySem.SeqAt PySem.Spec PySem.W PyProof.Rows L2 L3
theorem zw:∀{bs:G Bool} {a:G B},Vals (bs.map V.bl) a->a=bs.map Wi.bool
 |[],_,.nil=>rfl
 |b::r,_,.cons h t=>by let h:=h;rw[h,zw t];rfl
def T5(k:Bool){bs:G Bool}(h:y∈bs.map Wi.bool)(A:W8)(s:Ws):EqAt A s y (.bool k) (isBoolOf k y):=by let(b,_,rfl):=Xe.mp h;show EqAt.bool_bool b k
end L4
namespace L3
open PySem PySem.Spec PyProof.Rows L2
def HV:G Int->Int
 |[]=>0
 |[a]=>a
 |a::r=>if HV r<=a then a else HV r
theorem zg:∀{ns:G Int},0<ns.length->HV ns∈ns/\∀i,i∈ns->i<=HV ns
 |[a],_=>#[WK,λi h=>by rw[WO.mp h];show aaN _]
 |a::b::r,_=>by
  let(f,e):=zg (ns:=b::r) (by rw[WJ];ext);show(if HV (b::r)<=a then a else HV (b::r))∈a::b::r/\∀i,i∈a::b::r->i<=(if HV (b::r)<=a then a else HV (b::r));by_cases q:HV (b::r)<=a
  .rw[av q]
   show#[WK,λi h=>?_];rcases W2.mp h with z|z
   .omega
   .let:=e i z;ext
  .rw[ax q]
   show#[WH _ f,λi h=>?_];rcases W2.mp h with z|z
   .omega
   .show e i z
end L3
namespace HT
open PySem PySem.Spec PyProof.Rows
section
variable{Y:WX}{w:Xm}{A:W8}{E:Wi->Ws->Prop}{s:Ws}
def getItem_tuple_all{t e:M}{a:Array B}{n l:B}{lo c:I Int}{Q:B->Ws->Prop}(b:IsTup s.heap t a)(p:s.heap.IsSliceOf e n l .none)(pl:aa7 n lo)(q:aa7 l c)
  (o:sIx a.size 0 lo=0/\sIx a.size a.size c=a.size) (h:Q (.ref t) s):wpAny (model Y w) A (getItem (.ref t) (.ref e)) Q E s:=by
 let(r,f,g,u):=id p;let i:s.TypeIs (.ref e) "slice":=#[r,f,g];ext getItem
 try specialize X2 ?_
 first|show Wf (Wt ?_)|skip
 show Wf (adf b.typeIs () ?_);show Wf (X0 (name:=Str.ofString "__getitem__") b.typeIs Xr
  (Ym Xr b.typeIs entry_tuple_getitem ?_ (args_tuple_getitem _ _)))
 show wpAny _ _ (W7.Tuple.tupleItemsOf (.ref t)>>=_) _ _ s;show Wf (tupleItemsOf_ b ?_);show Wf (Z7 i ?_);rw[av ()];show Wf (kS p pl q ?_);let j:((((sIx a.size 0 lo:Nat):Int)==0&&(1:Int)==1&&(sIx a.size a.size c - sIx a.size 0 lo)==a.size)=P):=by rw[o.1,o.2];simp
 show wpAny _ _ (if(((sIx a.size 0 lo:Nat):Int)==0&&(1:Int)==1&&(sIx a.size a.size c - sIx a.size 0 lo)==a.size)=P then _ else _) _ _ s;rw[av j];show Wf (m:=W7.Tuple.tupleIsExact _) ?_;ext W7.Tuple.tupleIsExact;show Wf (Z7 b.typeIs (Wt ?_));rw[av ()];show Wf (aai ?_);show Wt #[_,W,Wt h]
end
end HT
namespace L3
open PySem PySem.Spec PyProof.Rows L2
def Uj(K:Ld):V->I Int->I Int->Hp->VK->Prop:=λx lo b H Q=>∃(a:M) (xs:G V),x=.ref a/\SqT K H a xs/\(HT.sIx xs.length 0 lo=0/\HT.sIx xs.length xs.length b=xs.length)/\Q (.ref a) H
def Lu{X:Cx}:TF X (Uj X.K):=by
 intro e s o H x v t p lo y u Q I g m pl i h;let(a,xs,rfl,j,l,q):=h;ext g;let(n,r,f,w):=I.tuple j;let b:n.toArray.size=xs.length:=by rw[WA];show r.length.symm
 show#["tuple",_,Xr.lookup,f.typeIs,?_];show HT.getItem_tuple_all f m pl i (by rw[b];show l) #[.ref a,H,I,W,q]
def Ue(K:Ld):V->I Int->I Int->Hp->VK->Prop:=λx lo a H Q=>S0 K x lo a H Q\/Uj K x lo a H Q
def GU{X:Cx}:TF X (Ue X.K):=by
 intro a s b H x v f e lo l g Q I h j pl i q;rcases q with q|q
 .show KZ a s b H x v f e lo l g Q I h j pl i q
 .show Lu a s b H x v f e lo l g Q I h j pl i q
def TN:D->I Int->I Int->I RV
 |.list ds,lo,a=>R (.ow (vx ds lo a))
 |.tuple ds,lo,a=>R (.fz (.tuple (vx ds lo a)))
 |_,_,_=>U
def Oz{ds:G D}{lo a:I Int}(h:HT.sIx ds.length 0 lo=0/\HT.sIx ds.length ds.length a=ds.length):vx ds lo a=ds:=by ext vx;rw[h.1,h.2,adz,aiW,aaX]
def Qt{K:Ld}:VF K (Ue K) TN:=by
 intro O H x lo i l j Q n b e q;cases l with
 |list ds=>show .inl (z8 O H x lo i _ j Q n b e q)
 |tuple ds=>
  ext e;by_cases f:HT.sIx ds.length 0 lo=0/\HT.sIx ds.length ds.length i=ds.length
  .let(a,xs,rfl,h,g):=EL b;rw[Oz f]at q;show .inr #[a,xs,W,h.1,by rw[g.length];show f,q.at (.tup h g)]
  .show .inl (z8 O H x lo i (.tuple ds) _ Q n b ?_ q)
   show(if mH ds.length lo i=P then U else R (RV.fz (.tuple (vx ds lo i))))=_;let z:mH ds.length lo i=Wu:=by ext mH;show aP f
   rw[z,ax WM]
 |_=>ext e
section
variable{K:Ld}{E:XK}
end
end L3
namespace L9
open PySem PySem.Spec PyProof.Rows
section
variable{M:aft}{A:W8}{E:Wi->Ws->Prop}{Y:Env}
variable{nm q:Str}{C N:Wo}{bs Z:br Wi}{hdct:Bool}{sn:br Str}{sub:br Wi}{ab:Bool}{col:bP Bool}{dd:bP Wo}{k0 k1 k2 k3 k5:bP Wi}{newId:String}
def ku(i:Z.contains (.type "BaseException")=P)(o:A.handled=U)
  (h:wpAny M A x (λv c=>∃e k,v=.ref e/\c.heap.get? C=R (excClassObj nm q C N bs Z hdct sn sub ab col dd k0 k1 k2 k3 k5 newId)/\c.heap.get? e=R k/\k.cls=.ref C/\(∃fs,k.data=.fields fs/\fs[1]?=R Wi.none)/\E (.ref e) c) E s):
  wpAny M A (raiseStmt Y (R x) U) Q E s:=by
 let f:(Wi.ref C::Z).contains (.type "BaseException")=P:=by rw[aar,i,acu]
 ext raiseStmt;show Wf (wpAny_mono h (λv c a=>?_) λ_ _ x=>x);let(e,k,rfl,m,p,l,(fs,j,b),r):=a;let(y,w,n):=k;dsimp only at l j;subst l j;let(z,g,d,t,u):=c
 repeat (first|specialize YQ p ?_|specialize YQ m ?_|(specialize aaA m ?_;rw[f])|wp_step)
 rw[b]
 repeat wp_step
 show ag8 o r
end
section
variable{J:WX}{w:Xm}{A:W8}{E:Wi->Ws->Prop}{h:Heap}{g:Array abu}{d:afs}{t:Nat}{os:aep}
variable{nm q:Str}{C N:Wo}{bs S Z:br Wi}{hdct:Bool}{sn:br Str}{sub:br Wi}{ab:Bool}{col:bP Bool}{dd:bP Wo}{k0 k1 k2 k3 k5:bP Wi}{B P L Y R X:String}{U:br Wi}
def tK(y:Z9 P L X U)(j:Z.contains (.type P)=Wl)(F:Z9 B Y R Z)(T:aih h Z S)
  (i:h.get? C=lD (excClassObj nm q C N bs S hdct sn sub ab col dd k0 k1 k2 k3 k5 L)) (s:h.Ns N mN) (D:mN "__init__"=lD (.ref fI)) (p:h.get? fI=lD oI) (n:oI.cls=.type "function")
  (G:∀k e,Heap.MadeExcOf h k e (.ref C) rest->wpAny (model J w) A (call (.ref fI) (.ref e::rest)) (λr c=>r=.none/\Q (.done (.ret (.ref e))) c) E #[k,g,d,t,os]) (hrest:rest.length<=WG):
  wpAny (model J w) A (W7.«type.__call__» #[.ref C::rest,[]]) Q E #[h,g,d,t,os]:=by
 repeat (first|specialize YQ i ?_|specialize wpAny_madeBy_exc i ?_|wp_step)
 show codeAny_call_builtin_code (aew.quiet_builtin _ y.quiet) (wpAny_check_new_subU y j T i ?_);show codeAny_exc_new_subU y j F T i ?_ hrest
 let a:=cj {cls:=.ref C,data:=.fields #v[.ref h.objs.size,.none,.none,.none,.bool Wu,.none]}
  (cj {cls:=.type "tuple",data:=.seq rest.toArray} i)
 let v:=cj {cls:=.ref C,data:=.fields #v[.ref h.objs.size,.none,.none,.none,.bool Wu,.none]}
  (cj {cls:=.type "tuple",data:=.seq rest.toArray} p)
 let f:((h.push {cls:=.type "tuple",data:=.seq rest.toArray}).push {cls:=.ref C,data:=.fields #v[.ref h.objs.size,.none,.none,.none,.bool Wu,.none]}).Ns N mN:=
  let#[o,es,ep,e,r]:=s;#[o,es,ep,cj _ (cj _ e),r]
 let l:((h.push {cls:=.type "tuple",data:=.seq rest.toArray}).push
   {cls:=.ref C,data:=.fields #v[.ref h.objs.size,.none,.none,.none,.bool Wu,.none]}).get? (h.objs.size+1)=lD
   {cls:=.ref C,data:=.fields #v[.ref h.objs.size,.none,.none,.none,.bool Wu,.none]}:=by heap_get
 let u:(Wi.ref C::S).contains (.ref C)=Wl:=by simp
 let m:=T.keeps (h':=(h.push {cls:=.type "tuple",data:=.seq rest.toArray}).push {cls:=.ref C,data:=.fields #v[.ref h.objs.size,.none,.none,.none,.bool Wu,.none]})
  λb o e=>cj _ (cj _ e)
 ext isInstance
 repeat (first|specialize YQ l ?_|(specialize aaA a ?_;rw[u])|wp_step)
 show wpAny_typeLookup_tail a f m F.mroIs F.init.lookup ?_;rw[D];show X2 (Wf ?_);ext bindSpecial;show Wf (Z7 #[_,v,n] ?_);rw[av ()];show Wt (Wf (wpAny_mono (G _ (h.objs.size+1) #[λb o H=>cj _ (cj _ H),dN (ac6 _),h.objs.size,l,dN (Ww _),?_]) (λr c z=>?_) λ_ _ x=>x))
 .show cj _ (Heap.get?_push_at W W)
 .let(rfl,I):=z
  wp_walk
  show I
def Dz(l:Z9 P L X U)(i:Z.contains (.type P)=Wl)(F:Z9 B Y R Z)(T:aih h Z S)
  (a:h.get? C=lD (excClassObj nm q C N bs S hdct sn sub ab col dd k0 k1 k2 k3 k5 L)) (s:h.Ns N u) (v:u "__init__"=lD (.ref fI)) (f:h.get? fI=lD p) (b:p.cls=.type "function")
  (j:∀c e,Heap.MadeExcOf h c e (.ref C) rest->wpAny (model J w) (A.under (.builtin "type.__call__" #[.ref C::rest,[]])) (call (.ref fI) (.ref e::rest)) (λr k=>r=.none/\Q (.ref e) k) E #[c,g,d,t,os]) (hrest:rest.length<=WG):
  wpAny (model J w) A (call (.ref C) rest) Q E #[h,g,d,t,os]:=by
 let o:=tc_lookup;let n:=tc_bind (.ref C);let m:(#[h,g,d,t,os]:Ws).TypeIs (.ref C) "type":=#[_,a,W];show abH (codeAny_of_tree ?_)
 repeat (any_goals (first|assumption|specialize YQ a ?_|wp_step))
 show#[W,?_];show codeAny_call_builtin_at (aew.quiet_builtin _ (by left)) entry_typeCall (wpAny_check_type_call_sub a (tK (hrest:=hrest) l i F T a s v f b λc e hm=>?_));show j c e hm
end
section
variable{prog:WX}{w:Xm}{A:W8}{E:Wi->Ws->Prop}{s:Ws}{env:Env}
variable{nm q:Str}{C N:Wo}{bs Y Z:br Wi}{hdct:Bool}{sn:br Str}{sub:br Wi}{ab:Bool}{col:bP Bool}{dd:bP Wo}{k0 k1 k2 k3 k5:bP Wi}{B Bn newId X R U:String}{S:br Wi}
def BK(Fn:Z9 Bn newId U S)(u:Z.contains (.type Bn)=Wl)(F:Z9 B X R Z)
  (m:Y.contains (.type "BaseException")=Wl) (p:A.handled=Wh) (y:(backTo Zo (W5 args env)).any (·.1)=Wu) (hi:mN "__init__"=lD (.ref fI)) (t:oI.cls=.type "function")
  (h:wpAny (model prog w) A (eval (.Name x np) env) (λf k=>f=.ref C/\wpAny (model prog w) A (evalArgs (.ref C) Wl (backTo Zo (W5 args env)) [])
   (λa c=>a.kw=[]/\a.pos.length<=WG/\c.heap.get? C=lD (excClassObj nm q C N bs Y hdct sn sub ab col dd k0 k1 k2 k3 k5 newId)/\c.heap.Ns N mN/\c.heap.get? fI=lD oI/\aih c.heap Z Y/\
    ∀h' e,Heap.MadeExcOf c.heap h' e (.ref C) a.pos->wpAny (model prog w) (A.under (.builtin "type.__call__" #[.ref C::a.pos,[]])) (call (.ref fI) (.ref e::a.pos)) (λr V=>r=.none/\∃D,V.heap.get? C=lD (excClassObj nm q C N bs Y hdct sn sub ab col dd k0 k1 k2 k3 k5 newId)/\V.heap.get? e=lD D/\D.cls=.ref C/\(∃fs,D.data=.fields fs/\fs[1]?=lD Wi.none)/\E (.ref e) V) E {c with heap:=h'}) E k) E s):
  wpAny (model prog w) A (exec (.Raise (lD (.Call (.Name x np) args [] Zo)) Wh pos) env) Q E s:=by
 rw[arm_exec_Raise]
 first
  |show Wf (YU (ku m p (Wf (wpAny_mono (adj (wpAny_mono h (λf k i=>?_) λ_ _ x=>x)) (λv l b=>Wf (YU (Wt b))) λ_ _ x=>x))))
  |(simp only[evalOpt,Option.map];show Wf (YU (ku (C:=C) (nm:=nm) (q:=q) (N:=N) (bs:=bs) (hdct:=hdct) (sn:=sn) (sub:=sub) (ab:=ab) (col:=col) (dd:=dd) (k0:=k0) (k1:=k1) (k2:=k2) (k3:=k3) (k5:=k5) (newId:=newId) m p (Wf (wpAny_mono (adj (wpAny_mono h (λf k i=>?_) λ_ _ x=>x)) (λv l b=>Wf (YU (Wt b))) λ_ _ x=>x)))))
  |(show Wf (YU (ku m p ?_));show Wf (wpAny_mono (adj (wpAny_mono h (λf k i=>?_) λ_ _ x=>x)) (λv l b=>Wf (YU (Wt b))) λ_ _ x=>x))
 let(rfl,i):=i;ext callWith;show Wf (X2 (wpAny_mono i (λa c j=>Wf (YU ?_)) λ_ _ x=>x));let(G,P):=a;let(o,n,z,hn,I,T,j):=j;obtain rfl:=o;let(hp,g,d,tk,os):=c;simp only[y];show Wf (wpAny_keeperOf_exc z ?_);show Wf (Dz (hrest:=n) Fn u F T z hn hi I t λh' e hm=>wpAny_mono (j h' e hm) (λr V #[H,D,O,Mz0,L,K,J]=>#[H,Wf (X2 (wpAny_point (Wt ?_)))]) λ_ _ x=>x);show#[e,D,W,O,Mz0,L,K,J]
end
end L9
namespace L9
open PySem PySem.W PyProof.Rows Builtin Builtin.ObjectAttr
abbrev MH:G B:=[.type "ValueError",.type "Exception",.type "BaseException",.type "object"]
section
variable{prog:WX}{w:Xm}{A:W8}{K:Frag}{B C x:Wo}{s:Ws}{R:adE->Ws->Prop}{Z:ClassData}{name:Str}{Y:Tok}{v:Wi}{fs:Array Wi}
def Nw(X:K.In s.heap)(z:clsIn K C=lD Z)(hm:Z.mro=.ref C:: .ref B::MH)(hd:Z.hasDict=Wl)(D:findIn K (.ref C) name=lD Wh)(i:s.heap.get? x=lD #[.ref C,Wh,.fields fs,#v[]])
  (H:∀c k,c.get? x=lD #[.ref C,lD s.heap.objs.size,.fields fs,#v[]]->c.Ns1 s.heap.objs.size (λy=>if y=name then lD v else Wh)->(∀b o,b≠x->s.heap.get? b=lD o->c.get? b=lD o)->R (.ok (.ret .none)) {s with heap:=c,toks:=k}):
  codeAny (model prog w) A (.call (.builtin "object.__setattr__") #[[.ref x,.str name Y,v],[]]) R s:=by
 let I:InstAt s.heap x #[.ref C,Wh,.fields fs,#v[]] C Wh:=#[i,W,W,True.intro];let m:=PySem.F.store_object;let sub:Looks (model prog w) s.heap (isInstance (.ref x) (.type "object")) Wl:=I.type.andThen (looks_mroIn X (by ext mroIn;rw[z,Option.bind_some,hm,ax (by simp)];simp));show aal m.slot.plain m.entry (@check_slot (model prog w) _ _ s "object.__setattr__" "object" "__setattr__" (.ref x) [.str name Y,v] [] _ m.kind m.split sub (m.args (.ref x) (.str name Y) v) ?_);let l:Looks (model prog w) s.heap (mroOf (.ref C)) Z.mro:=(looks_clsIn X z).andThen .now;rw[osa_eq,refuse_eq];show Wf (Wf (I.type.here (Wf (l.here ?_))));rw[hm,alf,alf,PySem.F.store_ValueError.passes];show Wt (Wf (I.type.here (Wf ((looks_findIn X D).here (Wf (Wt ?_))))));ext storeInOwnDict;show Wf (Wt (Wf ?_));unfold ownDictForStores instanceDict;show Wf (ak8 i (Wf ((looks_clsIn X z).here ?_)));rw[hd,ax ()];show wpAny _ _ (if(!Wl|| !typeHasDict (.ref C))=Wl then pure Wh else(do
        let d<-alloc {cls:=Wi.type "dict",data:=Data.dict #v[]}
        update x λo=>{cls:=o.cls,dict:=lD d,data:=o.data,slots:=o.slots}
        dictMade (.ref C) x d)) _ _ _
 rw[ax (by simp[typeHasDict])];let(h,g,d,t,os):=s;dsimp only at X i H I sub l⊢;let f:(h.push {cls:=.type "dict",data:=.dict #v[]}).get? x=lD #[.ref C,Wh,.fields fs,#v[]]:=cj _ i;let a:=WZ (cn i);show Wf (wpAny_alloc' ?_);show Wf (wpAny_update' f ?_);show Wt ?_
 let q:((h.push {cls:=.type "dict",data:=.dict #v[]}).update x λo=>{cls:=o.cls,dict:=lD h.objs.size,data:=o.data,slots:=o.slots}).get? h.objs.size
   =lD {cls:=.type "dict",data:=.dict #v[]}:=
  (Heap.get?_update_ne _ _ _ _ a.symm).trans (Heap.get?_push_at W W)
 let p:((h.push {cls:=.type "dict",data:=.dict #v[]}).update x λo=>{cls:=o.cls,dict:=lD h.objs.size,data:=o.data,slots:=o.slots}).Ns h.objs.size (λ_=>Wh):=
  #[_,#v[],_,q,W,λe M=>a7 M (by simp),λ_=>W]
 unfold storeInDict newKeyGuard;show Wf (Wt (Wf (wpAny_nsSet1 (Heap.Ns1.of_empty p) λc j G=>?_)));let(oD,O,Q,n,r,u):=j.count (Within.cons name v Within.nil);show Wf (aiO n (by rw[r];show aiP (Xo u (by rw[WJ,YG,YO];ext))) ?_);show Wt (H c _ ?_ ?_ λb ob E J=>?_)
 .show(G.2 x a).trans (dk _ f W)
 .let(L,P,S,e1,e2,U,N,T):=j;show#[L,P,S,e1,e2,U,N,λy=>by rw[T y]]
 .show(G.2 b (WZ (cn J))).trans ((Heap.get?_update_ne _ _ _ _ E).trans (cj _ J))
theorem Px(X:K.In s.heap)(g:clsIn K C=lD Z)(hm:Z.mro=.ref C:: .ref B::MH)(hd:Z.hasDict=P)(a:findIn K (.ref C) "__setattr__"=lD (lD (.builtin "object.__setattr__")))(h:findIn K (.ref C) name=lD U)(e:s.heap.get? x=lD #[.ref C,U,.fields fs,#v[]])
  (f:∀c d,c.get? x=lD #[.ref C,lD s.heap.objs.size,.fields fs,#v[]]->c.Ns1 s.heap.objs.size (λy=>if y=name then lD v else U)->(∀b o,b≠x->s.heap.get? b=lD o->c.get? b=lD o)->Q ⟨⟩ {s with heap:=c,toks:=d}):
  wpAny (model prog w) A (setAttr (.ref x) name v) Q E s:=
 set_plain X (#[e,W,W,True.intro]:InstAt s.heap x #[.ref C,U,.fields fs,#v[]] C U) a (Nw X g hm hd h e f)
end
section
variable{L:WX}{w:Xm}{A:W8}{E:Wi->Ws->Prop}{h:Heap}{g:Array abu}{d:afs}{t:Nat}{y:aep}
variable{u q:Str}{C N:Wo}{bs v Z:br Wi}{J:Bool}{r:br Str}{sub:br Wi}{ab:Bool}{col:bP Bool}{dd:bP Wo}{k0 k1 k2 k3 k5:bP Wi}{B S X Y:String}
def HE(F:Z9 B X Y Z)(T:aih h Z v)
  (p:h.get? C=R (excClassObj u q C N bs v J r sub ab col dd k0 k1 k2 k3 k5 S)) (j:h.get? e=R #[.ref C,U,.fields fs,#v[]]) (l:fs[0]?=R (.ref t0))
  (m:∀s k,s.get? e=R #[.ref C,U,.fields k,#v[]]->k[0]?=R (.ref h.objs.size)->(∀i,i≠0->k[i]?=fs[i]?)->(∀b o,b≠e->h.get? b=R o->s.get? b=R o)->Q .none #[s,g,d,t,y]) (c:rest.length<=WG):
  wpAny (model L w) A (call (.builtin Y) (.ref e::rest)) Q E #[h,g,d,t,y]:=by
 show abH (aal F.init.plain F.initEntry (wpAny_check_init_subU F T p j W ?_));unfold W7.«BaseException.__init__»;dsimp only;rw[ax (by simp)];unfold newTuple W7.BaseException.bexcPut;let f:=(Xa.mp l).1;let a:(h.push {cls:=.type "tuple",data:=.seq rest.toArray}).get? e=R #[.ref C,U,.fields fs,#v[]]:=cj _ j;show Wf (Xx (Wf (Wf (Xd a W l (Wf (X1 a W f ?_))))) (by show rest.toArray.size<=WG;rw[WA];show c));show Zu (Wt (m _ (fs.setIfInBounds 0 (.ref h.objs.size)) ?_ (by simp[f]) (λi hi=>by rw[ZR (d3 hi)]) λb o n z=>?_))
 .show dk (Obj.mapFields (·.setIfInBounds 0 (.ref h.objs.size))) a W
 .show(da _ _ (d3 n)).trans (cj _ z)
end
end L9
namespace L9
open PySem PySem.Spec PyProof.Rows L2
def U8(v:V):Prop:=v=.YM\/∃i:Int,v=.int i/\i.natAbs.log2<1920
def OU{i:Int}(h:i.natAbs.log2<1920):(Str.ofString (toString i)).length<=5000:=by let e:=int_text_length_le () h;rw[PySem.ofString_length];ext
def Td(I:Inv X pins σ H s)(r:RelV v u)(f:U8 v)
  (h:∀(y:Str) (t:Tok) (a:Ws),y.length<=5000->Inv X pins σ H a->Q (.str y t) a):wpAny (model X.prog X.w) A (formatField u Str.empty) Q E s:=by
 rcases f with rfl|⟨i,rfl,b⟩
 .obtain rfl:=r;show wpAny_formatField_none (h _ _ _ () (I.tok _))
 .let(t,rfl):=r;show formatField_int_small b (h _ _ _ (OU b) (I.tok _))
def PJ(X:Cx)(c:G XB)(n:Nat)(t:L2.St->Hp->(Hp->Prop)->Prop):Prop:=
 ∀(a:G (M×Obj)) (s:Ws) (e:L2.St) (H:Hp) (b:Str) (Q:Hp->Prop),Inv X a e H s->b.length+n<=1000000->t e H Q->
  wpAny (model X.prog X.w) X.A (joinParts b (evalEach c X.env)) (λv h=>∃(y:Str) (g:Tok) (f:Hp),v=.str y g/\Inv X a e f h/\Q f) X.xe s
section
variable{X:Cx}{e:XB}{T:br XB}{n:Nat}{S:TE}{t:L2.St->Hp->(Hp->Prop)->Prop}{Y:Pos}
def QO:PJ X [] 0 (λ_ H Q=>Q H):=by intro a s f H b Q I g h;show joinParts_nil #[_,_,H,W,I.tok _,h] (by rw[YO];ext)
def Re(i:x.length<=5000)(g:PJ X T n t):PJ X (.Constant (.str x) k Y::T) (n+5000) t:=by intro a s f H b Q I j h;show joinParts_consE (joinParts_cons (Calls.Constant_str ?_));let e:=anq b x;show#[by rw[YO];ext,g a _ f H (b++x) Q (I.tok _) () h]
def Tt(i:PE X e S)(g:PJ X T n t):PJ X (.FormattedValue e (-1) U Y::T) (n+5000) (λσ H Q=>S σ H λv H1=>U8 v/\t σ H1 Q):=by intro a s σ H b Q I z h;show joinParts_consE (joinParts_cons (FormattedValue_plain (de (i a s σ H _ I h) λu o a=>?_)));let(v,H1,j,r,f,q):=a;show Td j r f λy m p w l=>?_;let e:=anq b y;show#[by rw[YO];ext,g a _ σ H1 (b++y) Q l () q]
def No(h:PJ X (g::m::T) n t)(c:n<=900000):PE X (.JoinedStr (g::m::T) Y) (λσ H Q=>t σ H λH1=>∀y:Str,Q (.str y) H1):=by intro a s σ H Q I b;show JoinedStr_many (de (h a s σ H Str.empty _ I (by show 0+n<=1000000;ext) b) λv l #[y,j,H1,f,i,q]=>?_);subst f;show#[.str y,H1,i,#[_,W],q y]
end
def MV(C e:M):Heap->Prop:=λh=>∃fs t0,h.get? e=R #[.ref C,U,.fields fs,#v[]]/\fs[0]?=R (.ref t0)/\fs[1]?=R .none
def Ul(C e p:M):Heap->Prop:=λh=>∃fs a,h.get? e=R #[.ref C,R p,.fields fs,#v[]]/\fs[0]?=R a/\fs[1]?=R .none
structure XC(K:Ld)(C B fI:M):Prop where
 obj:∃nm q N bs sn sub ab col dd k0 k1 k2 k3 k5,K.lookup C=R (excClassObj nm q C N bs (.ref B::MH) P sn sub ab col dd k0 k1 k2 k3 k5 "ValueError.__new__")/\acR K N=P/\WW K N "__init__"=R (R (.ref fI))
 base:abz K B MH "ValueError.__new__"=P
 sa:Xy K (.ref C) "__setattr__"=R (R (.builtin "object.__setattr__"))
def BS{K:Ld}(q:abz K g MH n=P):abc K MH (.ref g::MH)=P:=by
 unfold abz at q;split at q
 .rename_i dd f e b
  split at q
  .simp only[WU,beq_iff_eq,Bool.not_eq_true']at q;let(((((_,_),_),_),XY),a):=q;ext abc;dsimp only;rw[b];dsimp only;rw[XY,a,show abc K MH MH=P from by ext abc;rw[ej,Zj],ej,Y0,Y0,acu]
  .ext q
 .ext q
section
variable{X:Cx}{B C fI:Wo}{pos U p2:Pos}{Y:XB}{Z:br XB}{t:TA}{b:Str}
def vX(h:H a=R o):bW H a o=H:=by
 funext c;by_cases z:c=a
 .rw[z,aY,h]
 .rw[aU z]
def SJ(C:M)(t:TA):TE:=λf H Q=>t f H λg a=>∃e y,g=[.ref e,.str y]/\a e=R (.ext (MV C e))/\Q .YM a
def Jh{pl:Sem Bool}(V:Gl X b)(hm:X.mg b=lD (.ref B))(D:acG X.K B (.type "type")=Wl)(hf:acH X.K (.ref B) (.type "type") "__init__"=lD (.val (.builtin "ValueError.__init__")))
  (k:ZG X.K (.ref B) "__getattribute__"=lD (lD (.builtin "type.__getattribute__"))) (E:XC X.K C B fI) (ha:PA X (Y::Z) t)
  (eX:W5 (Y::Z) X.env=(Wu,eval Y X.env)::W5 Z X.env:=by rfl) (l:(backTo pos (W5 Z X.env)).any (·.1)=Wu:=by rfl) (m:(b==("__debug__":Str))=Wu:=by decide)
  (c:eval (.Call (.Attribute (.Name b U) "__init__" p2) (Y::Z) [] pos) X.env=(do
   let ov<-eval (.Name b U) X.env
   standAt p2.atName
   let(f,first)<-holding [ov] (getMethod ov "__init__" pl)
   callWith pos f first (backTo pos (W5 (Y::Z) X.env)) (backToKw pos (keywordEach [] X.env))):=by rfl):
  PE X (.Call (.Attribute (.Name b U) "__init__" p2) (Y::Z) [] pos) (SJ C t):=by
 intro a s J H Q I h;show aa1 (pl:=pl) (og I V hm ?_ m) c;show PySem.W.method_cls I.kIn k (PySem.W.cls_value I.kIn D hf () ?_);let F:=ha pos a {s with toks:=s.toks+1} J H _ (I.tok _) h;rw[eX]at F⊢;show Calls.callWith_builtin (by show(Wu||(backTo pos (W5 Z X.env)).any (·.1))=Wu;rw[l]<;>rfl) (Calls.evalArgs_plain (de F λus A #[vs,G,i,r,e,y,ev,n,q]=>?_));subst ev;let(P,u2,rfl,r1,S):=Fp r;obtain rfl:P=.ref e:=r1;let(tk,rfl):=S;let((fs,t0,g1,g2,g3),_,gk):=(show ObjOk X.prog X.w G A.heap e (.ext (MV C e))from i.XY e _ n);let(nm,q',N,bs,sn,sub,ab,col,dd,k0,k1,k2,k3,k5,lk,XY,hin):=E.obj;let T:=aez i.kIn (BS E.base);let(h2,g,d,j,os):=A;show HE Y5 T (i.kIn _ _ lk) g1 g2 (λh' p v e2 e3 e4=>?_) (by show 1<=WG;decide);show#[.YM,G,?_,W,q];let w:=i.write (x:=e) (e:=e) (o:=.ext (MV C e)) (h':=h') (t':=j) (by rw[n];show True.intro) (.inl W) (λb u hb z=>e4 b u hb z) #[_,v] #[#[p,_,v,e2,by rw[e3 1 ()];show g3],#[_,v],λh1 h2 #[f1,R1,O,Mz0,L] hk=>#[f1,R1,hk _ O,Mz0,L]];rw[vX n]at w;show w
def Ug(C:M)(f:Str)(i h:TE):TS:=λD a H=>h a H λv j=>i a j λx g=>∃e,x=.ref e/\g e=R (.ext (MV C e))/\∀p,g p=Wh->p≠e->D.nx a (bW (bW g e (.ext (Ul C e p))) p (.xd [(f,v)]))
def NJ(Q:XC X.K C B fI)(V:Xy X.K (.ref C) f=lD Wh)(ha:PE X o ta)(c:PE X value tv)(d:Yc value (lD (.Attribute o f pos')) pos.line X.env=pure Wu):PS X (.Assign [.Attribute o f pos'] value pos) (Ug C f ta tv):=by
 intro l s G H D I h;show adv (de (c l s G H _ I h) λu s1 #[v,H1,I1,rv,q]=>de (ha l s1 G H1 _ I1 q) λov p #[x,S,A,rx,e,ex,j,q2]=>?_) d;subst ex;obtain rfl:=rx;let((fs,t0,R,g2,g3),_,gk):=(show ObjOk X.prog X.w S p.heap e (.ext (MV C e))from A.XY e _ j);let(nm,q',N,bs,sn,sub,ab,col,dd,k0,k1,k2,k3,k5,lk,XY,hin):=Q.obj;obtain⟨F,hc,L,M⟩:∃F,agl X.K C=lD F/\F.mro=.ref C:: .ref B::MH/\F.hasDict=Wl:=by ext agl;rw[lk];show#[_,W,W,W]
 show Px A.kIn hc L M Q.sa V R λh' tk' O e2 E=>?_;let pe:=XX (cn R);let r:=A.XY.fresh (Ww _);show#[G,_,?_,q2 p.heap.objs.size r pe];let m:∀b o,p.heap.get? b=lD o->b≠p.heap.objs.size:=λb o z=>WZ (cn z);show A.un #[λb o z n _ _=>E b o (λy=>by rw[y,j]at n;ext n) z,λb o z n _ _=>#[o.slots,E b o (λy=>by rw[y,j]at n;ext n) z],λb o z n _=>?_,λb o z _=>?_,λb xs z=>?_,λb o u z=>?_,λb ps z=>#[#v[],?_]] ?_
 .rw[aU (m b o z),aU (λy=>by rw[y,j]at n;ext n)];show n
 .by_cases y:b=e
  .subst y;show#[_,O]
  .show#[o,E b o y z]
 .rw[aU (λy=>by rw[y,r]at z;ext z),aU (λy=>by rw[y,j]at z;ext z)];show z
 .rw[aU (λy=>by rw[y,r]at z;ext z),aU (λy=>by rw[y,j]at z;ext z)];show z
 .rw[aU (λy=>by rw[y,r]at z;ext z),aU (λy=>by rw[y,j]at z;ext z),z];simp
 .intro a o z
  by_cases P:a=p.heap.objs.size
  .subst P
   rw[aY]at z;ext z;show#[_,e2,λg=>?_];show aaJ (match g==f with|true=>lD v|false=>YY g []) (if g=f then lD u else Wh);cases i:g==f with
   |true=>rw[av (beq_iff_eq.mp i)];show rv
   |false=>rw[ax (λw=>by rw[beq_iff_eq.mpr w]at i;ext i)];show True.intro
  .rw[aU P]at z
   by_cases J:a=e
   .subst J;rw[aY]at z;ext z;show#[#[fs,_,O,g2,g3],#[_,O],λh1 h2 #[f1,t1,z1,z2,T] hk=>#[f1,t1,hk _ z1,z2,T]]
   .rw[aU J]at z
    let own:∀b,S b=lD (.own a)->b≠e/\b≠p.heap.objs.size:=λb y=>#[(λk=>by rw[k,j]at y;ext y),(λk=>by rw[k,r]at y;ext y)];show(A.XY a o z).aaG (λb w i y=>E b w (λk=>?_) y) (λb y=>by rw[aU (own b y).2,aU (own b y).1];show y) λb xs y=>by rw[aU (λk=>by rw[k,r]at y;ext y),aU (λk=>by rw[k,j]at y;ext y)];show y
    rcases i with i|i
    .show J (i.symm.trans k)
    .show(own b i).1 k
end
end L9
namespace L9
open PySem PySem.Spec PyProof.Rows L2 L4
def TC(H:Hp)(e:M):Hp:=λa=>if a=e then U else H a
theorem vp:TC H e e=U:=av W
theorem lW(h:a≠e):TC H e a=H a:=ax h
def DN{K:Ld}(X:K.In h)(G:h.Ns N t)(e:WW K N n=R (R v)):t n=R v:=by
 let(o,p,q,f,j,_,g):=G;unfold WW at e;split at e
 .rename_i l m b a
  let:=(X _ _ a).symm.trans f;ext this;ext j;split at e
  .rename_i r i;ext e;rw[<-g];unfold nsFind findBy;rw[<-ae8,i];rfl
  .split at e<;>ext e
 .ext e
def QR{K:Ld}(i:Zc K (.ref f)=P)(l:K.lookup f=R o):o.cls=.type "function":=by unfold Zc afL at i;dsimp only at i;rw[l]at i;show WE (beq_iff_eq.mp i)
section
variable{X:Cx}{Z:br (Wo×Obj)}{Y:L2.St}{H:Hp}{s:Ws}{T:Heap}{e:Wo}{o:HO}
def Pt(I:L2.Inv X Z Y H s)(k:∀b u,s.heap.get? b=R u->T.get? b=R u)(n:s.heap.get? e=U)(new:ObjOk X.prog X.w (bW H e o) T e o):L2.Inv X Z Y (bW H e o) {s with heap:=T,toks:=t'}:=by
 let f:=B2 I.XY n;let ne:∀b u,s.heap.get? b=R u->b≠e:=λb u z y=>by rw[y,n]at z;ext z
 show I.un #[λb u z _ _ _=>k b u z,λb u z _ _ _=>#[u.slots,k b u z],λb u z q _=>by rw[aU (ne b u z)];show q,λb u z _=>#[u,k b u z],λb xs z=>?_,λb u v z=>?_,λb g z=>#[#v[],?_]] ?_
 .rw[aU (λy=>by rw[y,f]at z;ext z)];show z
 .rw[aU (λy=>by rw[y,f]at z;ext z)];show z
 .rw[aU (λy=>by rw[y,f]at z;ext z),z];simp
 .intro a u z
  by_cases y:a=e
  .subst y;rw[aY]at z;ext z;show new
  .rw[aU y]at z;show(I.XY a u z).aaG (λb w _ q=>k b w q) (λb q=>by rw[aU (λw=>by rw[w,f]at q;ext q)];show q) λb xs q=>by rw[aU (λw=>by rw[w,f]at q;ext q)];show q
def Oq(I:L2.Inv X Z Y H s)(f:H e=R (.ext g)):L2.Inv X Z Y (TC H e) s:=by
 let:=I.un (t':=s.toks) (H':=TC H e) #[λb u z _ _ _=>z,λb u z _ _ _=>#[u.slots,z],λb u z q _=>?_,λb u z _=>#[u,z],λb xs z=>?_,λb u v z=>?_,λb h z=>#[#v[],?_]] ?_
 .show this
 .by_cases y:b=e
  .rw[y];show vp
  .rw[lW y];show q
 .rw[lW (λy=>by rw[y,f]at z;ext z)];show z
 .rw[lW (λy=>by rw[y,f]at z;ext z)];show z
 .rw[lW (λy=>by rw[y,f]at z;ext z),z];simp
 .intro a u z
  let y:a≠e:=λy=>by rw[y,vp]at z;ext z
  rw[lW y]at z;show(I.XY a u z).aaG (λb w _ q=>q) (λb q=>by rw[lW (λw=>by rw[w,f]at q;ext q)];show q) λb xs q=>by rw[lW (λw=>by rw[w,f]at q;ext q)];show q
end
def Ex(C:M)(sp:Sp)(E:XK)(g:TA):TS:=λ_ f H=>g f H λh b=>h.length<=WG/\∀e,b e=U->sp (.ref e::(h++[])) (bW b e (.ext (MV C e))) (λv a=>v=.YM/\∃p,a e=R (.ext (Ul C e p))/\E (.ref C) (R p) (TC a e)) E0
def G6{K:Ld}
  (c:XC K C Bz0 fI) (X:K.lookup fI=lD oI) (d:Zc K (.ref fI)=Wl) (FI:FnOk Pz0 w K mg base ef k fI fdI ps sp) (bI:Binds K fdI ps [])
  (hr:YL (k+1) (gM (jp Pz0 w) Pz0 w K mg base N qual scope f cd A outer s0 H0 E).A)
  (hg:Gl (gM (jp Pz0 w) Pz0 w K mg base N qual scope f cd A outer s0 H0 E) x) (hm:mg x=lD (.ref C)) (ha:PA (gM (jp Pz0 w) Pz0 w K mg base N qual scope f cd A outer s0 H0 E) (e0::es) ta)
  (L:(x==("__debug__":Str))=Wu:=by decide)
  (Z:W5 (e0::es) (gM (jp Pz0 w) Pz0 w K mg base N qual scope f cd A outer s0 H0 E).env=(Wu,eval e0 (gM (jp Pz0 w) Pz0 w K mg base N qual scope f cd A outer s0 H0 E).env)::W5 es (gM (jp Pz0 w) Pz0 w K mg base N qual scope f cd A outer s0 H0 E).env:=by rfl)
  (G:(backTo Zo (W5 es (gM (jp Pz0 w) Pz0 w K mg base N qual scope f cd A outer s0 H0 E).env)).any (·.1)=Wu:=by rfl):
  PS (gM (jp Pz0 w) Pz0 w K mg base N qual scope f cd A outer s0 H0 E) (.Raise (lD (.Call (.Name x np) (e0::es) [] Zo)) Wh pos) (Ex C sp E ta):=by
 intro l s σ H D I h;let(nm,qn,Nn,bs,sn,sub,ab,col,dd,k0,k1,k2,k3,k5,U,XY,J):=c.obj;let a:=I.ok.mod.kin;let oC:=a _ _ U;let S:=Heap.Ns.of_isNs (PySem.W.isNs_of_in a XY);let ni:=DN a S J;let oF:=a _ _ X;let T:=aez a (BS c.base);show BK (nm:=nm) (q:=qn) (N:=Nn) (bs:=bs) (hdct:=Wl) (sn:=sn) (sub:=sub) (ab:=ab) (col:=col) (dd:=dd) (k0:=k0) (k1:=k1) (k2:=k2) (k3:=k3) (k5:=k5) Y5 (by left) Y5 (T.hasType Y5.hasBase) (I.ok.hd W)
  (by rw[Z];show(aaM _).trans G) ni (QR d X) (og I hg hm #[W,?_] L)
 let go:=ha Zo l s σ H _ I h;rw[Z]at go⊢;show Calls.evalArgs_plain (de go λg j a=>?_);let(vs,H1,i,r,hl,q):=a;show#[W,by rw[<-r.length];show hl,i.bk _ _ oC,S.keeps i.bk,i.bk _ _ oF,T.keeps i.bk,λh' e m=>?_];let(t,y,y2,y3):=m.there;let hn:=B2 i.XY m.new;let Y:=q e hn;let O:=Pt (t':=j.toks) (o:=.ext (MV C e)) i m.keeps m.new #[#[_,t,y,W,W],#[_,y],λh1 h2 #[f1,t1,z1,z2,z3] hk=>#[f1,t1,hk _ z1,z2,z3]];let R:Vals (V.ref e::(vs++[])) (Wi.ref e::(g++[])):=.cons W (r.append .nil);let n:(Wi.ref e::g++[]).length=ps.length:=by let z:=R.length;rw[FI.len _ _ _ _ Y]at z;show z.symm
 let F:s0.heap.get? e=Wh:=by
  cases z:s0.heap.get? e with
  |none=>rfl
  |some o=>let(o',Q):=i.base.there e o z (λy=>nomatch y);rw[m.new]at Q;ext Q
 let bi:=bI {heap:=h',gens:=j.gens,drawn:=j.drawn,toks:=j.toks,os:=j.os} (Wi.ref e::g) O.kIn n;rw[agm]at bi;show abH (abI (FI.run _ (gM (jp Pz0 w) Pz0 w K mg base N qual scope f cd A outer s0 H0 E).stack _ _ #[Wi.ref e::g,[]] (Wi.ref e::(g++[])) _ _ E0 (hr.make C g []) (O.ahU.make C g []) bi R Y) λr s' b=>?_);cases r with
 |error e=>show b.elim
 |ok fl=>
  cases fl with
  |ret u=>let(v,H',M,rv,ev,p,hE,q3):=O.after b;subst ev;let((fs,a0,g1,g2,g3),_,_):=(show ObjOk _ _ H' s'.heap e (.ext (Ul C e p))from M.XY e _ hE);show#[rv,_,M.kIn _ _ U,g1,W,#[fs,W,g3],?_];show Qr (hd:=Wh) (Oq M hE) #[_,_,g1,W,W,W,g2,g3] F (λT z=>nomatch z) vp (λT z=>nomatch z) q3
  |next=>show False.elim b
  |brk=>show False.elim b
  |cont=>show False.elim b
end L9
namespace L9
open PySem PySem.Spec PySem.W PyProof.Rows L2 L3 L4
section
variable{Y:WX}{w:Xm}{A:W8}{E:Wi->Ws->Prop}{h:Heap}{g:Array abu}{d:afs}{t:Nat}{S:aep}{a C:Wo}{o:Obj}{K:Ld}{Q:bP Obj}{X:Str}{v:Wi}
  {N L:Str} {J:Wo} {z y:br Wi} {u:Bool} {r:br Str} {q:br Wi} {p:Bool} {n:bP Bool} {m:bP Wo} {l j i f e:bP Wi} {T:String}
end
def ym(C:M)(f:Str):Sp:=λa H Q _=>∃e v,a=[.ref e,v]/\U8 v/\H e=R (.ext (MV C e))/\∀p,H p=U->p≠e->Q .YM (bW (bW H e (.ext (Ul C e p))) p (.xd [(f,v)]))
def Up:D->Bool
 |.none=>P
 |.int i=>decide (i.natAbs.log2<1920)
 |_=>Wu
end L9
namespace L3
open PySem PySem.Spec PyProof.Rows L2
mutual
def VN:Wn->Bool
 |.tuple ds=>SG ds
 |.int _=>Wl
 |.str _=>Wl
 |.bool _=>Wl
 |.none=>Wl
 |_=>Wu
def SG:br Wn->Bool
 |[]=>Wl
 |d::r=>VN d&&SG r
end
section
variable{K:Ld}{E:XK}{B:cS}{Y:Hp}{O Z:cS}{X:L2.St}{H T:Hp}{S:bC}
def Ph(h:SqT K H a xs)(l:H a=R (.lst b)):SqT K (λ_=>U) a xs:=by
 rcases h with(h|⟨o,h⟩)|h
 .rw[l]at h;ext h
 .rw[l]at h;ext h
 .show .inr h
mutual
theorem Ps(f:∀b,O b->¬Z b->∃ys,H b=lD (.lst ys)):∀{v:V} {d:D},DV Z K H v d->VN d=Wl->DV O K H v d
 |_,_,.YM,_=>.YM
 |_,_,.bl b,_=>.bl b
 |_,_,.int i,_=>.int i
 |_,_,.str x,_=>.str x
 |_,_,.tup (a:=a) h hs,e=>.tup ⟨h.1,λz=>by
   by_cases y:Z a
   .exact h.2 y
   .obtain⟨ys,q⟩:=f a z y;exact Ph h.1 q⟩ (BM f hs e)
 |_,_,.lst h hs,e=>by cases e
theorem BM(a:∀b,O b->¬Z b->∃ys,H b=lD (.lst ys)):∀{vs:br V} {ds:br D},Yb Z K H vs ds->SG ds=Wl->Yb O K H vs ds
 |_,_,.nil,_=>.nil
 |_,_,.cons h hs,e=>by have f:=Bool.and_eq_true_iff.mp e;exact .cons (Ps a h f.1) (BM a hs f.2)
end
end
end L3
namespace PyProof.Rows
open PySem
section
variable{Y:WX}{w:Xm}{A:W8}{E:Wi->Ws->Prop}{s:Ws}
def vQ(b:h.get? a=R (seqObj "list" g.toArray n)):∃e,(sortedHeap h a g out).get? a=R (seqObj "list" out e):=by let f:=get?_update_seq b (λ_=> #v[]);show#[_,get?_update_seq (cj _ (cj _ f)) _]
theorem tI(f:b≠a)(e:h.get? b=R o):(sortedHeap h a g out).get? b=R o:=
 (da _ _ (d3 f)).trans (cj _ (cj _ ((da _ _ (d3 f)).trans e)))
def CU{l:M}{c:G Wi}{ns:G Int}{Q:Wi->Ws->Prop}(j:s.heap.IsTuple l c.toArray)(v:IntsAre c ns)(i:c.length<64)
  (h:∀(a d:Heap) (out:Array Wi) (e:Nat) (f:G Int),(∀b o,s.heap.get? b=R o->a.get? b=R o)->d.get? a.objs.size=R (seqObj "list" out e)->(∀b o,a.get? b=R o->d.get? b=R o)->IntsAre out.toList f->f.Perm ns->f.Pairwise (·<=·)->Q (.ref a.objs.size) {s with heap:=d}):
  wpAny (model Y w) A (call (.builtin "sorted") [.ref l]) Q E s:=by
 let(o,p,u,n,t):=j;show Calls.call_function_entry kind_sorted plain_sorted entry_sorted (args_sorted1 _) (Wf (m:=checkCount "sorted" 1 1 _) (Wt (Wf (wpAny_collect_seq l (.inr W) p u t (λa q=>Wf (anr ?_)) (by rw[WA,YO];ext)))));let g:(a.push (seqObj "list" c.toArray 0)).get? a.objs.size=R (seqObj "list" c.toArray 0):=cN _ W;show Wf (X2 (Ym slot_list_sort #[_,g,W] entry_list_sort (list_sort_tree g v i λout f C B y=>#[_,W,Wt #[_,W,?_]]) (args_list_sort _)));let(e,r):=vQ (out:=out) g;show h a _ out e f q r (λb F z=>tI (WZ (cn z)) (cj _ z)) C B y
end
end PyProof.Rows
namespace L9
open PySem PySem.Spec PyProof.Rows L2 L3
section
variable{K:Ld}{E:XK}
def zD:Zf X (.builtin "sorted") (λxs H Q=>∃(p:M) (ns:br Int),xs=[.ref p]/\SqT X.K H p (ns.map V.int)/\ns.length<64/\∀(l:M) (a:br Int),H l=U->a.Perm ns->a.Pairwise (·<=·)->Q (.ref l) (bW H l (.lst (a.map V.int)))):=by
 intro i s B H xs C Q I r h;let(p,ns,rfl,t,z,q):=h;let(u,rfl,n):=mn r;ext n;let(J,L,pl,F):=I.tuple t;let v:=L.length;rw[Wg]at v;show CU pl (lH L) () λA G f e a w y g N j o=>?_;let b:=j.length_eq;let m:=I.kept (t':=s.toks) w;show#[.ref A.objs.size,_,m.laid g (Ww _) ?_,W,q _ a (m.XY.fresh (Ww _)) j o];show#[?_,f.toList,e,kY N,y];rw[Wg,b];let:(64:Nat)<=WG:=by decide
 ext
theorem zB:Zf X (.builtin "sorted") (λxs H Q=>(∃(p:M) (ns:G Int),xs=[.ref p]/\SqL X.K H p (ns.map V.int)/\ns.length<64/\∀(l:M) (a:G Int),H l=U->a.Perm ns->a.Pairwise (·<=·)->Q (.ref l) (bW H l (.lst (a.map V.int))))\/
  (∃(p:M) (ns:G Int),xs=[.ref p]/\SqT X.K H p (ns.map V.int)/\ns.length<64/\∀(l:M) (a:G Int),H l=U->a.Perm ns->a.Pairwise (·<=·)->Q (.ref l) (bW H l (.lst (a.map V.int))))):=L2.Zf.or Cl zD
def jq:G D->I RV
 |[.tuple ds]=>(match my ds with
  |some a=>if a.length<64 then R (.ow ((nK a).map .int))else U
  |none=>U)
 |ds=>zC ds
def Ee:Iv K (λxs H Q=>(∃(p:M) (ns:G Int),xs=[.ref p]/\SqL K H p (ns.map V.int)/\ns.length<64/\∀(l:M) (b:G Int),H l=U->b.Perm ns->b.Pairwise (·<=·)->Q (.ref l) (bW H l (.lst (b.map V.int))))\/
  (∃(p:M) (ns:G Int),xs=[.ref p]/\SqT K H p (ns.map V.int)/\ns.length<64/\∀(l:M) (b:G Int),H l=U->b.Perm ns->b.Pairwise (·<=·)->Q (.ref l) (bW H l (.lst (b.map V.int))))) jq:=by
 intro O H xs ds u Q n g e q;unfold jq at e;split at e
 .split at e
  .rename_i ns i
   split at e
   .rename_i v
    ext e;cases g with
    |cons o m=>ext m;let(a,w,rfl,h,r):=EL o;rw[nZ r i]at h;show .inr #[a,ns,W,h.1,v,λl b j f eX=>?_];let t:=oj (f.trans (gG ns).symm) eX (fY ns);subst t;show q.new (vV _) l j
   .ext e
  .ext e
 .show .inl (w9 O H xs ds u Q n g e q)
end
end L9
namespace L9
open PySem PySem.W PyProof.Rows Builtin Builtin.ObjectAttr
open PySem.Spec L2
open L3 L4
def MZ:D->I RV
 |.tuple ds=>R (.fz (.tuple ds.reverse))
 |_=>U
theorem EX{K:Ld}{O:cS}{H:Hp}:∀{a:G V} {ds:G D},Yb O K H a ds->Yb O K H a.reverse ds.reverse
 |_,_,.nil=>.nil
 |_,_,.cons h t=>by rw[aaE,aaE];show(EX t).append (.cons h .nil)
def Si{K:Ld}{E:XK}{h:TE}{c:FE}(k:EO K E h c):EO K E (Um K h (IW (Vz (rU λi=>.int (-i)) (tC (.int 1))))) (Cp MZ c):=by
 intro B z O j H J Q R w;show k B z O j H J _ R (w.bind.imp λa e A x C r g n=>?_);let(d,l,e):=e.Xu;let(S,f,e):=e.Xu;let N:=kr g n l;unfold MZ at f;split at f
 .ext f;let(b,L,rfl,p,o):=EL N;show#[1,W,-1,W,W,b,L,W,p.1,?_];show Fin.afn (EX o) g.od (mZ (rv:=.fz (.tuple _)) g λu v y q t m=>e u v y (r.trans q) t m)
 .ext f
end L9
namespace LD
open PySem PyProof.Rows L2 L3
mutual
def kd:Wn->Bool
 |.none=>Wl
 |.int _=>Wl
 |.str x=>Wn.strOk x
 |.tuple xs=>kds xs
 |_=>Wu
def kds:br Wn->Bool
 |[]=>Wl
 |x::r=>kd x&&kds r
end
def keyD:Wn->Bool
 |.tuple xs=>kds xs&&decide ((Wn.tuple xs).depth<=8)
 |_=>Wu
mutual
theorem kd_lay:∀d:Wn,kd d=Wl->d.canLay0=Wl
 |.none,_=>rfl
 |.int _,_=>rfl
 |.str x,h=>by unfold Wn.canLay0;unfold kd at h;exact h
 |.tuple xs,h=>by unfold Wn.canLay0;unfold kd at h;exact En xs h
 |.bool _,h|.list _,h|.dict _,h=>by simp[kd]at h
theorem En:∀xs:br Wn,kds xs=Wl->Wn.canLayAll0 xs=Wl
 |[],_=>rfl
 |x::r,h=>by unfold kds at h;rw[WU]at h;unfold Wn.canLayAll0;rw[kd_lay x h.1,En r h.2];rfl
end
mutual
theorem kd_eqv:∀d e:Wn,kd d=Wl->kd e=Wl->Wn.eqv d e=Wl->d=e
 |.none,e,_,h,q=>by cases e<;>simp_all [kd,Wn.eqv]
 |.int i,e,_,h,q=>by cases e<;>simp_all [kd,Wn.eqv]
 |.str x,e,_,h,q=>by cases e<;>simp_all [kd,Wn.eqv]
 |.tuple xs,e,g,h,q=>by
  cases e with
  |tuple a=>rw[Wn.eqv]at q;unfold kd at g h;rw[Ei xs a g h q]
  |_=>simp_all [kd,Wn.eqv]
 |.bool _,_,h,_,_|.list _,_,h,_,_|.dict _,_,h,_,_=>by simp[kd]at h
theorem Ei:∀xs ys:br Wn,kds xs=Wl->kds ys=Wl->Wn.eqvAll xs ys=Wl->xs=ys
 |[],[],_,_,_=>rfl
 |[],_::_,_,_,q=>by simp[Wn.eqvAll]at q
 |_::_,[],_,_,q=>by simp[Wn.eqvAll]at q
 |x::xs,y::ys,g,h,q=>by unfold kds at g h;rw[Wn.eqvAll]at q;rw[WU]at g h q;rw[kd_eqv x y g.1 h.1 q.1,Ei xs ys g.2 h.2 q.2]
end
def LW[Decidable (d=e)](hd:kd d=P)(a:kd e=P):Wn.eqv d e=decide (d=e):=by
 by_cases q:d=e
 .subst q;rw[aE W];show SeqAt.eqv_refl d (kd_lay d hd)
 .rw[aP q]
  cases z:Wn.eqv d e with
  |false=>rfl
  |true=>show a7 (kd_eqv d e hd a z) q
def gz(h:keyD d=P):kd d=P/\d.depth<=8:=by
 cases d with
 |tuple xs=>unfold keyD at h;rw[WU]at h;show#[by ext kd;show h.1,a6 h.2]
 |_=>simp[keyD]at h
mutual
def vg(w:Xm):Wn->Int
 |.none=>reduceHash 0xFCA86420
 |.int i=>hashInt i
 |.str x=>hashStr w x
 |.tuple xs=>reduceHash (W7.Tuple.tupleHashOf (uE w xs))
 |_=>0
def uE(w:Xm):br Wn->br Int
 |[]=>[]
 |x::r=>vg w x::uE w r
end
mutual
def UY:Wn->Nat
 |.tuple xs=>Ol xs+1
 |_=>1
def Ol:br Wn->Nat
 |[]=>0
 |x::r=>UY x+Ol r
end
section
variable{prog:WX}{w:Xm}{E:Wi->Ws->Prop}
mutual
theorem FV:∀(d:Wn) (v:Wi) (f:br Wo) (A:W8) (s:Ws) (Q:Int->Ws->Prop),kd d=Wl->adg s.heap v d f->A.units+d.depth<cLine->Q (vg w d) {s with toks:=s.toks+UY d}->wpAny (model prog w) A (pyHash v) Q E s
 |.none,_,_,A,s,Q,_,r,hu,h=>by cases r;exact aeq (T:= "NoneType") rfl F.slot_NoneType_hash F.entry_NoneType_hash (F.args_NoneType_hash_1 _) (aiX _) (.inr (by ext)) (Wf (Wt (Wf (agA (Wt ⟨_,_,rfl,h⟩)))))
 |.int i,_,_,A,s,Q,_,r,_,h=>by cases r;exact aiK h
 |.str x,_,_,A,s,Q,_,r,_,h=>by cases r;exact aiL h
 |.tuple xs,_,_,A,s,Q,hk,r,hu,h=>by
  cases r with
  | @tuple a o vs n _ _ h1 h2 h3 h4=>
   refine aeq (T:= "tuple") ⟨_,h1,h2⟩ F.slot_tuple_hash F.entry_tuple_hash (F.args_tuple_hash_1 _) (aiX _) (.inr (by ext)) ?_;show wpAny _ _ (W7.Tuple.tupleItemsOf (.ref a)>>=_) _ _ s;refine Wf (wpAny_tupleItemsOf h1 h3 ?_);refine Wf ?_;rw[<-afc];unfold kd at hk;refine xE xs vs.toList _ A.in1 s #v[] _ hk h4 (by simp only[Wn.depth,W8.in1_units]at hu⊢;ext) λb e=>?_;show wpAny _ _ (retInt (W7.Tuple.tupleHashOf b.toList)) _ _ _;rw[e];refine Wf (agA (Wt ⟨_,_,rfl,?_⟩));unfold vg UY at h
   simpa [Yj]using h
 |.bool _,_,_,_,_,_,h,_,_,_|.list _,_,_,_,_,_,h,_,_,_|.dict _,_,_,_,_,_,h,_,_,_=>by simp[kd]at h
theorem xE:∀(xs:br Wn) (vs:br Wi) (g:br Wo) (A:W8) (s:Ws) (b:Array Int) (Q:Array Int->Ws->Prop),kds xs=Wl->aex s.heap vs xs g->A.units+Wn.depthAll xs<cLine->
  (∀b':Array Int,b'.toList=b.toList++uE w xs->Q b' {s with toks:=s.toks+Ol xs})->
  wpAny (model prog w) A (forIn vs b λx r=>do let h<-pyHash x;pure PUnit.unit;pure (ForInStep.yield (r.push h))) Q E s
 |[],_,_,A,s,b,Q,_,x,_,h=>by cases x;exact Wt (h b (by simp[uE]))
 |k::xs,_,_,A,s,b,Q,hk,x,hu,h=>by
  cases x with
  |cons e a=>
   unfold kds at hk;simp only[WU,Wn.depthAll]at hk hu;rw[aba];refine Wf (Wf (FV k _ _ A s _ hk.1 e (by ext) ?_));refine Wf (Wt (Wt ?_));refine xE xs _ _ A _ _ Q hk.2 a (by ext) λb' f=>?_;have:=h b' (by simp[f,uE]);unfold Ol at this
   simpa [Yj]using this
end
theorem B4:∀(n:Nat) (d:Wn) (v:B) (j:G M) (A:W8) (s:Ws) (Q:Bool->Ws->Prop),kd d=P->adg s.heap v d j->d.depth<=n->Q P s->wpAny (model prog w) A (eqIsQuiet n v) Q E s
 |n,.none,_,_,A,s,Q,_,r,_,h=>by ext r;rw[adk _ W];show Wt h
 |n,.int i,_,_,A,s,Q,_,r,_,h=>by ext r;rw[adk _ W];show Wt h
 |n,.str i,_,_,A,s,Q,_,r,_,h=>by ext r;rw[adk _ W];show Wt h
 |0,.tuple xs,_,_,A,s,Q,C,r,z,h=>by simp only[Wn.depth]at z;ext
 |n+1,.tuple xs,_,_,A,s,Q,C,r,z,h=>by
  cases r with
  | @tuple a o Y m _ _ J X T S=>
   let g:s.TypeIs (.ref a) "tuple":=#[_,J,X];simp only[Wn.depth]at z;ext eqIsQuiet;show Wf (aj0 g F.slot_tuple_eq.lookup ?_);show Wf (adG g isSubtype_tuple_tuple ?_);simp only[adY,ZE,if_false];show Wf (Ya J T ?_);show Wf ?_;rw[<-afc];unfold kd at C;show wpAny_forIn_list _ (λb r e=>r.1=U/\e=s/\∃q bs,kds q=P/\aex s.heap b q bs/\Wn.depthAll q<=n) _ ?_ ?_ _ _ #[W,W,xs,_,C,S,by ext]
   .rintro v b r e ⟨f,rfl,q,bs,t,N,L⟩
    cases N with
    | @cons _ _ y u _ _ g1 g2=>unfold kds at t;simp only[WU,Wn.depthAll]at t L;show Wf (B4 n y v _ A e _ t.1 g1 () ?_);simp only[adY,ZE,if_false];show Wt #[W,W,u,_,t.2,g2,by ext]
   .rintro⟨p,l⟩ e ⟨f,rfl,_⟩;simp only at f;subst f;show Wt h
 |_,.bool _,_,_,_,_,_,h,_,_,_|_,.list _,_,_,_,_,_,h,_,_,_|_,.dict _,_,_,_,_,_,h,_,_,_=>by simp[kd]at h
end
mutual
theorem xw{h h':Heap}{x:Wo}{e:Obj}{es:Array ZV}{l:Nat}(f:h.get? x=lD e)(i:e.data=.dict es l)(g:Heap.SameBut x h h'):∀(d:Wn) (v:Wi) (j:br Wo),kd d=Wl->adg h v d j->adg h' v d j
 |.none,_,_,_,r=>by cases r;exact .none
 |.int _,_,_,_,r=>by cases r;exact .int _ _
 |.str _,_,_,_,r=>by cases r;exact .str _ _
 |.tuple xs,_,_,k,r=>by
  cases r with
  | @tuple a o vs n _ _ h1 h2 h3 h4=>
   have b:a≠x:=by rintro rfl;rw[f]at h1;cases h1;rw[i]at h3;exact nomatch h3
   unfold kd at k;exact .tuple ((g.2 a b).trans h1) h2 h3 (vo f i g xs _ _ k h4)
 |.bool _,_,_,h,_|.list _,_,_,h,_|.dict _,_,_,h,_=>by simp[kd]at h
theorem vo{h h':Heap}{x:Wo}{a:Obj}{es:Array ZV}{l:Nat}(b:h.get? x=lD a)(f:a.data=.dict es l)(e:Heap.SameBut x h h'):∀(ds:br Wn) (vs:br Wi) (g:br Wo),kds ds=Wl->aex h vs ds g->aex h' vs ds g
 |[],_,_,_,r=>by cases r;exact .nil
 |d::ds,_,_,k,r=>by
  cases r with
  |cons j i=>unfold kds at k;rw[WU]at k;exact .cons (xw b f e d _ _ k.1 j) (vo b f e ds _ _ k.2 i)
end
abbrev KD:={d:Wn//keyD d=P}
noncomputable instance kdDec:DecidableEq KD:=λ_ _=>Classical.propDecidable _
def jX(prog:WX)(w:Xm):alg prog w KD where
 is:=λh k a=>∃as,adg h (.ref a) k.1 as
 hash:=λk=>vg w k.1
 draws:=λk=>UY k.1
 room:=λA=>A.units+8<cLine
 inj:=λ#[_,r] #[_,f]=>Subtype.ext (adg.unique r _ _ f).1
 keeps:=λ{h l k a d o m n} #[as,r] j hd i=>#[as,xw j hd i k.1 _ _ (gz k.2).1 r]
 pyHash:=λ{A E s k a Q} g #[as,r] q=>FV k.1 _ as A s Q (gz k.2).1 r (by let:=(gz k.2).2;ext) q
 eqBool:=λ{A E s x y a b Q} g #[as,r] #[bs,f] q=>SeqAt.eqAt_reads x.1 y.1 A s _ _ as bs r f (kd_lay _ (gz x.2).1) (kd_lay _ (gz y.2).1) (by let:=(gz x.2).2;ext) prog w E Q (by
  haveI:Decidable (x.1=y.1):=Classical.propDecidable _
  rw[LW (gz x.2).1 (gz y.2).1];by_cases e:x=y
  .rw[aE e]at q;rw[aE (eh Subtype.val e)];show q
  .rw[aP e]at q;rw[aP λz=>e (Subtype.ext z)];show q)
 quiet:=λ{A E s k a Q} #[as,r] q=>B4 8 k.1 _ as A s Q (gz k.2).1 r (gz k.2).2 q
def V3(a:M)(xs:G (KD×M×V))(w:Xm)(h:Heap):Prop:=
 (xs.length<=WG/\(a==X4)=Wu/\(xs.map (·.1)).Nodup)/\∃o b f,h.get? a=R o/\o.ExactDict/\o.data=.dict b f/\Paired (λ(x:KD×M×V) (e:ZV)=>e.hash=vg w x.1.1/\e.key=.ref x.2.1/\RelV x.2.2 e.val) xs b.toList
abbrev DkO(a:M)(xs:G (KD×M×V)):HO:=.exw (V3 a xs)
abbrev PrD(O:cS)(K:Ld)(H:Hp):G (KD×M×V)->G (D×D)->Prop:=
 Paired λx a=>x.1.1=a.1/\L3.DV O K H (.ref x.2.1) a.1/\L3.DV O K H x.2.2 a.2
end LD
namespace L10
open PySem L2 L3
inductive AV where
 |fz (d:D)
 |rf (i:Nat)
inductive SV where
 |fz (d:D)
 |rf (i:Nat)
 |tp (l:G AV)
def AV.sv:AV->SV
 |.fz d=>.fz d
 |.rf i=>.rf i
inductive Cell where
 |lst (xs:G SV)
 |dct (W3:G (dI×SV))
 |obj (C:Str) (fs:G (Str×SV))
 |dd (W3:G (D×D))
 |dead
abbrev bA:=G Cell
abbrev bK:=G (I SV)
inductive RS(α:Type) where
 |ok (a:α) (Z:bA)
 |er (x:Xc) (Z:bA)
 |bad
def RS.bind(r:RS α)(f:α->bA->RS β):RS β:=match r with
 |.ok a Z=>f a Z
 |.er x Z=>.er x Z
 |.bad=>.bad
def RS.Xu(Z:bA):I α->RS α
 |some a=>.ok a Z
 |none=>.bad
theorem RS.bind_ok(a:α)(Z:bA)(f:α->bA->RS β):(RS.ok a Z).bind f=f a Z:=W
abbrev eo:=@RS.bind_ok
def Lv(α:G M)(Z:bA):cS:=λb=>∃(i:Nat) (c:Cell),α[i]?=R b/\Z[i]?=R c/\c≠Cell.dead
def ow(B:cS)(α:G M)(Z:bA):cS:=λb=>B b\/Lv α Z b
section
variable(O:cS)(K:Ld)(H:Hp)(Z:br Wo)
def AOk(v:V):AV->Prop
 |.fz d=>DV O K H v d
 |.rf i=>∃a,Z[i]?=R a/\v=.ref a
def ZC(v:V):SV->Prop
 |.fz d=>DV O K H v d
 |.rf i=>∃a,Z[i]?=R a/\v=.ref a
 |.tp l=>∃a xs,v=.ref a/\abg O K H a xs/\Paired (AOk O K H Z) xs l
abbrev Zh:G V->G SV->Prop:=Paired (ZC O K H Z)
def COk(a:M):Cell->Prop
 |.lst xs=>∃e,H a=R (.lst e)/\Zh O K H Z e xs
 |.dct b=>∃ws:G (dI×V),H a=R (.dK ws)/\Paired (λ(p:dI×V) (q:dI×SV)=>p.1=q.1/\ZC O K H Z p.2 q.2) ws b
 |.obj C fs=>∃f g ws,WW K WN C=R (R (.ref f))/\H a=R (.ins f g ws)/\Paired (λ(p:Str×V) (q:Str×SV)=>p.1=q.1/\ZC O K H Z p.2 q.2) ws fs
 |.dd b=>∃xs,H a=R (LD.DkO a xs)/\LD.PrD O K H xs b
 |.dead=>True
def Zg(a:L2.St)(b:bK):Prop:=a.length=b.length/\∀(i:Nat) (x:SV),b[i]?=R (R x)->∃v,a[i]?=R (R v)/\ZC O K H Z v x
end
structure Xg(B:cS)(K:Ld)(H:Hp)(α:G M)(Z:bA):Prop where
 len:α.length=Z.length
 nd:∀(i j:Nat) (a:M),α[i]?=R a->α[j]?=R a->i=j
 bn:∀a,B a->H a≠U
 ba:∀a,B a->∀i:Nat,α[i]?≠R a
 al:∀(i:Nat) (a:M),α[i]?=R a->H a≠U
 cel:∀(i:Nat) (a:M) (c:Cell),α[i]?=R a->Z[i]?=R c->COk (ow B α Z) K H α a c
structure Yn(α:G M)(Z:bA)(H:Hp)(α':G M)(Z':bA)(H':Hp):Prop where
 pre:∀(i:Nat) (a:M),α[i]?=R a->α'[i]?=R a
 kp:∀b o,H b=R o->¬Lv α Z b->H' b=R o
 lv:∀b,Lv α' Z' b->Lv α Z b\/H b=U
section
variable{B O Q:cS}{K:Ld}{E:XK}{H L R N:Hp}{Y X U S:br Wo}{Z T J M:bA}{t:L2.St}{ρ:bK}{v:V}
theorem Yn.refl:Yn Y Z H Y Z H:=#[λ_ _ h=>h,λ_ _ h _=>h,λ_ h=>.inl h]
def Yn.trans(a:Yn Y Z H U J R)(b:Yn U J R S M N):Yn Y Z H S M N:=by
 let e:∀b o,H b=lD o->¬Lv Y Z b->¬Lv U J b:=λb o h n z=>(a.lv b z).elim n λq=>by rw[h]at q;ext q
 show#[λi p h=>b.pre i p (a.pre i p h),λp o h n=>b.kp p o (a.kp p o h n) (e p o h n),λp h=>?_];rcases b.lv p h with h|h
 .show a.lv p h
 .cases q:H p with
  |none=>show .inr W
  |some o=>show .inl (Classical.byContradiction λn=>?_);rw[a.kp p o q n]at h;ext h
theorem Yn.same(s:Yo H L):Yn Y Z H Y Z L:=#[λ_ _ h=>h,λb o h _=>s b o h,λ_ h=>.inl h]
theorem Yn.ev(e:Yn Y Z H X T L):Ev (ow B Y Z) H (ow B X T) L:=λb o h n=>
 #[e.kp b o h λz=>n (.inr z),λz=>z.elim (λq=>n (.inl q)) λq=>(e.lv b q).elim (λq=>n (.inr q)) λq=>by rw[h]at q;ext q]
def AOk.ev(e:Ev O H Q L)(p:∀(i:Nat) (a:Wo),Y[i]?=lD a->X[i]?=lD a)(h:AOk O K H Y v x):AOk Q K L X v x:=by
 cases x with
 |fz d=>show DV.ev e h
 |rf i=>let(a,f,b):=h;show#[a,p i a f,b]
def ZC.ev(e:Ev O H Q L)(p:∀(i:Nat) (a:Wo),Y[i]?=lD a->X[i]?=lD a)(h:ZC O K H Y v x):ZC Q K L X v x:=by
 cases x with
 |fz d=>show DV.ev e h
 |rf i=>let(a,f,b):=h;show#[a,p i a f,b]
 |tp l=>let(a,xs,f,b,g):=h;show#[a,xs,f,b.ev e,Paired.aax g λ_ _ q=>q.ev e p]
theorem ZC.YV(e:Yn Y Z H X T L)(h:ZC (ow B Y Z) K H Y v x):ZC (ow B X T) K L X v x:=h.ev e.ev e.pre
theorem Zh.YV(e:Yn Y Z H X T L)(h:Zh (ow B Y Z) K H Y vs xs):Zh (ow B X T) K L X vs xs:=Paired.aax h λ_ _ q=>q.YV e
theorem Zg.YV(e:Yn Y Z H X T L)(h:Zg (ow B Y Z) K H Y t ρ):Zg (ow B X T) K L X t ρ:=#[h.1,λi x q=>let#[v,b,a]:=h.2 i x q;#[v,b,a.YV e]]
def COk.ev(e:Ev O H Q L)(p:∀(i:Nat) (a:Wo),Y[i]?=lD a->X[i]?=lD a)(d:∀o,H a=lD o->L a=lD o)(h:COk O K H Y a c):COk Q K L X a c:=by
 cases c with
 |lst xs=>let(l,f,b):=h;show#[l,d _ f,Paired.aax b λ_ _ q=>q.ev e p]
 |dct n=>let(ws,f,b):=h;show#[ws,d _ f,Paired.aax b λ_ _ q=>#[q.1,q.2.ev e p]]
 |obj C fs=>let(j,m,ws,g,f,b):=h;show#[j,m,ws,g,d _ f,Paired.aax b λ_ _ q=>#[q.1,q.2.ev e p]]
 |dd n=>let(xs,f,b):=h;show#[xs,d _ f,Paired.aax b λ_ _ q=>#[q.1,q.2.1.ev e,q.2.2.ev e]]
 |dead=>trivial
theorem Xg.noO(s:Xg B K H Y Z):qW (ow B Y Z) H:=λa h z=>z.elim (λq=>s.bn a q h) λ#[i,c,q,_]=>s.al i a q h
theorem Xg.owd(s:Xg B K H Y Z):∀a,ow B Y Z a->H a≠Wh:=λa z h=>s.noO a h z
def Xg.grow(s:Xg B K H Y Z)(e:Yo H L):Xg B K L Y Z:=by let n:∀a,H a≠Wh->L a≠Wh:=λa h z=>h (e.free z);show#[s.len,s.nd,λa h=>n a (s.bn a h),s.ba,λi a h=>n a (s.al i a h),λi a c f b=>(s.cel i a c f b).ev (Ev.grow e) (λ_ _ h=>h) λo h=>e _ _ h]
def Xg.at(s:Xg B K H Y Z){i:Nat}(h:Z[i]?=lD c):∃a,Y[i]?=lD a:=by let:i<Z.length:=(Wj.mp h).1;rw[<-s.len]at this;show#[_,Wr this]
theorem Xg.agQ(s:Xg B K H Y Z){i:Nat}(h:Y[i]?=lD a):¬B a:=λz=>s.ba a z i h
def C6{i:Nat}{c m:Cell}(h:Z[i]?=lD c)(n:c≠.dead)(g:m≠.dead){b:Wo}:Lv Y (Z.set i m) b↔Lv Y Z b:=by
 constructor
 .rintro⟨j,d,f,a,l⟩
  rcases dc a with⟨rfl,rfl⟩|⟨_,a⟩
  .show#[j,c,f,h,n]
  .show#[j,d,f,a,l]
 .rintro⟨j,d,f,a,l⟩
  by_cases e:j=i
  .subst e;show#[j,m,f,by rw[Xw (Wj.mp h).1],g]
  .show#[j,d,f,by rw[Xj (λz=>e z.symm)];show a,l]
def Sr(h:Z[i]?=lD c)(e:c≠.dead)(a:f≠.dead):ow B Y (Z.set i f)=ow B Y Z:=by funext b;show propext #[λz=>z.imp id (C6 h e a).mp,λz=>z.imp id (C6 h e a).mpr]
theorem Yn.put(d:Y[i]?=lD a)(h:Z[i]?=lD c)(g:c≠.dead)(f:c'≠.dead):Yn Y Z H Y (Z.set i c') (bW H a o):=
 #[λ_ _ h=>h,λb j q n=>by let z:b≠a:=λe=>n #[i,c,by rw[e];show d,h,g];rw[aU z];show q,λb z=>.inl ((C6 h g f).mp z)]
def Xg.put(s:Xg B K H Y Z)(k:Y[i]?=lD a)(h:Z[i]?=lD c)(p:c≠.dead)(f:c'≠.dead)(new:COk (ow B Y Z) K (bW H a o) Y a c'):Xg B K (bW H a o) Y (Z.set i c'):=by
 let e:Yn Y Z H Y (Z.set i c') (bW H a o):=Yn.put k h p f;let n:∀b,H b≠Wh->bW H a o b≠Wh:=λb h=>by
  by_cases z:b=a
  .subst z;rw[aY];simp
  .rw[aU z];show h
 show#[by rw[XQ];show s.len,s.nd,λb h=>n b (s.bn b h),s.ba,λj b h=>n b (s.al j b h),λj b d g m=>?_];rcases dc m with⟨rfl,rfl⟩|⟨l,m⟩
 .rw[k]at g;ext g;rw[Sr h p f];show new
 .show(s.cel j b d g m).ev e.ev e.pre λu q=>by rw[aU (λz=>l (s.nd j i a (by rw[<-z];show g) k))];show q
theorem rL{i:Nat}{a:Wo}{c:Cell}{o:HO}(d:Y[i]?=lD a)(h:Z[i]?=lD c)(b:c≠.dead):Ev (ow B Y Z) H (ow B Y Z) (bW H a o):=Ev.mut (.inr #[i,c,d,h,b]) o
def c7{Y:Type}{l:G Y}{x y:Y}{i:Nat}(h:(l++[x])[i]?=lD y):l[i]?=lD y\/(i=l.length/\y=x):=by
 by_cases hi:i<l.length
 .rw[WB hi]at h;show .inl h
 .rw[Xb ()]at h
  cases q:i - l.length with
  |zero=>rw[q]at h;ext h;show .inr #[by ext,W]
  |succ n=>rw[q]at h;ext h
def jI{Y:Type}{l:G Y}{x y:Y}{i:Nat}(h:l[i]?=lD y):(l++[x])[i]?=lD y:=by rw[WB (Wj.mp h).1];show h
def aO:(l++[x])[l.length]?=lD x:=by simp
def yF(g:Y.length=Z.length)(h:Lv (Y++[p]) (Z++[c]) b):Lv Y Z b\/b=p:=by
 let(i,d,a,e,f):=h;rcases c7 a with a|⟨l,j⟩
 .rcases c7 e with e|⟨l,j⟩
  .show .inl #[i,d,a,e,f]
  .let:=(Wj.mp a).1;ext
 .show .inr j
theorem Yn.adu(g:Y.length=Z.length)(s:Yo H L)(f:H p=Wh):Yn Y Z H (Y++[p]) (Z++[c]) L:=
 #[λi a h=>jI h,λb u q _=>s b u q,λb z=>(yF g z).imp id λe=>by rw[e];show f]
def Xg.adu(s:Xg B K H Y Z)(e:Yo H L)(l:H p=Wh)(m:L p≠Wh)(new:COk (ow B (Y++[p]) (Z++[c])) K L (Y++[p]) p c):Xg B K L (Y++[p]) (Z++[c]):=by
 let ev:Yn Y Z H (Y++[p]) (Z++[c]) L:=Yn.adu s.len e l;let n:∀b,H b≠Wh->L b≠Wh:=λb h z=>h (e.free z);show#[by rw[Wm,Wm,s.len];rfl,λi j a f g=>?_,λa h=>n a (s.bn a h),λa h i q=>?_,λi a h=>?_,λi a d f g=>?_]
 .rcases c7 f with g1|⟨y,r⟩<;>rcases c7 g with g2|⟨u,A⟩
  .show s.nd i j a g1 g2
  .show a7 (by rw[A];show l) (s.al i a g1)
  .show a7 (by rw[r];show l) (s.al j a g2)
  .omega
 .rcases c7 q with q|⟨_,r⟩
  .show s.ba a h i q
  .subst r;show s.bn a h l
 .rcases c7 h with h|⟨_,r⟩
  .show n a (s.al i a h)
  .subst r;show m
 .rcases c7 g with g|⟨y,r⟩
  .rcases c7 f with f|⟨y,_⟩
   .show(s.cel i a d f g).ev ev.ev ev.pre λo q=>e _ _ q
   .let:=(Wj.mp g).1;let:=s.len;ext
  .rcases c7 f with f|⟨_,u⟩
   .let:=(Wj.mp f).1;let:=s.len;ext
   .subst r u;show new
def WS(K:Ld)(E:XK)(B:cS)(H:Hp)(Y:G Wo)(Z:bA)(P:A->G Wo->bA->Hp->Prop):RS A->Prop
 |.ok a T=>∀X L,Yn Y Z H X T L->Xg B K L X T->P a X T L
 |.er x T=>∀c b X L,Yn Y Z H X T L->Xg B K L X T->XOk K (ow B X T) L c b x->E c b L
 |.bad=>False
def WS.from(e:Yn Y Z H U J R)(h:WS K E B H Y Z g r):WS K E B R U J g r:=by
 cases r with
 |ok a M=>show λS N f b=>h S N (e.trans f) b
 |er x M=>show λc i S N f b=>h c i S N (e.trans f) b
 |bad=>show h
def WS.bind(h:WS K E B H Y Z e (r.bind k)):WS K E B H Y Z (λa U J R=>WS K E B R U J e (k a J)) r:=by
 cases r with
 |ok a J=>show λU R b _=>WS.from b h
 |er x J=>show h
 |bad=>show h
def WS.Xu(h:WS K E B H Y Z b ((RS.Xu Z o).bind k)):∃a,o=lD a/\WS K E B H Y Z b (k a Z):=by
 cases o with
 |none=>show h.elim
 |some a=>show#[a,W,h]
def WS.imp(h:WS K E B H Y Z f r)(g:∀a X T L,Yn Y Z H X T L->Xg B K L X T->f a X T L->P' a X T L):WS K E B H Y Z P' r:=by
 cases r with
 |ok a J=>show λU R e b=>g a U J R e b (h U R e b)
 |er x J=>show h
 |bad=>show h
theorem WS.now(s:Xg B K H Y Z)(h:WS K E B H Y Z b (.ok a Z)):b a Y Z H:=h Y H .refl s
end
abbrev dA:=bK->bA->RS SV
abbrev wF:=bK->bA->RS Bool
abbrev Am:=bK->bA->RS (G SV)
def c8(K:Ld)(E:XK)(t:TE)(f:dA):Prop:=
 ∀(B:cS) (b:L2.St) (H:Hp) (α:G M) (Z:bA) (h:bK) (Q:VK),Xg B K H α Z->Zg (ow B α Z) K H α b h->WS K E B H α Z (λx a g e=>∀v,ZC (ow B a g) K e a v x->Q v e) (f h Z)->t b H Q
def xW(K:Ld)(E:XK)(t:TT)(f:wF):Prop:=
 ∀(B:cS) (a:L2.St) (H:Hp) (α:G M) (Z:bA) (g:bK) (Q:Bool->Hp->Prop),Xg B K H α Z->Zg (ow B α Z) K H α a g->WS K E B H α Z (λb _ _ e=>Q b e) (f g Z)->t a H Q
def xU(K:Ld)(E:XK)(t:TA)(f:Am):Prop:=
 ∀(B:cS) (b:L2.St) (H:Hp) (α:G M) (Z:bA) (h:bK) (Q:G V->Hp->Prop),Xg B K H α Z->Zg (ow B α Z) K H α b h->WS K E B H α Z (λxs a g e=>∀i,Zh (ow B a g) K e a i xs->Q i e) (f h Z)->t b H Q
section
variable{B O M:cS}{K:Ld}{E:XK}{H H' T H2:Hp}{Y N X J:br Wo}{Z Z' Z1 P:bA}{U:L2.St}{ρ:bK}{v:V}
def QE:I SV->I PV
 |some (.fz d)=>R (.fz d)
 |_=>Wh
def cw(ρ:bK):bC:=ρ.map QE
def xc{i:Nat}(h:(cw ρ)[i]?=R (R x)):∃d,x=.fz d/\ρ[i]?=R (R (.fz d)):=by
 unfold cw at h;rw[Wv]at h;cases q:ρ[i]? with
 |none=>rw[q]at h;ext h
 |some o=>
  rw[q]at h;let a:=WE h;unfold QE at a;split at a
  .ext a;show#[_,W,W]
  .ext a
def Mg(s:Xg B K H Y Z)(a:Zg (ow B Y Z) K H Y U ρ):Rl K (ow B Y Z) H (ow B Y Z) U H (cw ρ):=by
 show#[Yo.refl _,λ_ h=>h,s.owd,s.noO,by ext cw;rw[Wg];show a.1,λi x h=>?_,λi j ds l w h=>?_]
 .let(d,rfl,b):=xc h;let(v,g,f):=a.2 i _ b;show#[v,g,f]
 .let(d,e,_):=xc h;ext e
def mX(Z:bA):RV->RS SV
 |.fz d=>.ok (.fz d) Z
 |.ow ds=>.ok (.rf Z.length) (Z++[.lst (ds.map .fz)])
abbrev PQ(B:cS)(K:Ld)(Q:VK):SV->G Wo->bA->Hp->Prop:=λx N Z' H'=>∀v,ZC (ow B N Z') K H' N v x->Q v H'
theorem nt(O:cS)(Y:G Wo):∀{a:G V} {ds:G D},Yb O K H a ds->Zh O K H Y a (ds.map .fz)
 |_,_,.nil=>.nil
 |_,_,.cons h t=>.cons h (nt O Y t)
theorem IL:∀{a:G V} {ds:G D},Zh O K H Y a (ds.map .fz)->Yb O K H a ds
 |_,[],.nil=>.nil
 |_,_::_,.cons h t=>.cons h (IL t)
def wy(s:Xg B K H Y Z)(w:WS K E B H Y Z (PQ B K Q) (mX Z (.ow ds)))(e:Yo H H')(a:H p=Wh)(h:H' p=R (.lst i))(hd:Yb M K H' i ds)(f:∀b,ow B Y Z b->M b)(g:M p):Q (.ref p) H':=by
 let sub:∀b,ow B (Y++[p]) (Z++[.lst (ds.map .fz)]) b->M b:=λb z=>z.elim (λq=>f b (.inl q)) λq=>(yF s.len q).elim (λq=>f b (.inr q)) λq=>by rw[q];show g
 show w (Y++[p]) H' (Yn.adu s.len e a) (s.adu e a (by rw[h];simp) #[i,h,nt _ _ (hd.ev (Ev.sub sub))]) (.ref p) #[p,by rw[<-s.len];show aO,W]
def EN(s:Xg B K H Y Z)(w:WS K E B H Y Z (PQ B K Q) (mX Z g)):Fin (ow B Y Z) K H Q g:=by
 cases g with
 |fz d=>show λv H' e a=>w Y H' (Yn.same e) (s.grow e) v a
 |ow ds=>show λp i H' e f h a=>wy s w e f h a (λb z=>.inl z) (.inr W)
def ag(f:FE):dA:=λρ Z=>match f (cw ρ)with
 |.ok (.fz d,_)=>.ok (.fz d) Z
 |.ok (.ow ds,_)=>mX Z (.ow ds)
 |.ok (.pl _,_)=>.bad
 |.er x=>.er x Z
 |.bad=>.bad
def aw(h:EO K E t f):c8 K E t (ag f):=by
 intro B U H Y Z ρ Q s g w;show h (ow B Y Z) H (ow B Y Z) U H (cw ρ) Q (Mg s g) ?_;unfold ag at w;cases q:f (cw ρ)with
 |bad=>rw[q]at w;show w.elim
 |er x=>rw[q]at w;show λc u H' e k=>w c u Y H' (Yn.same e) (s.grow e) k
 |ok r=>
  let(pv,b):=r;rw[q]at w;intro M v H' e R p;cases pv with
  |fz d=>show w Y H' (Yn.same R.same) (s.grow R.same) v (DV.ev (Ev.sub R.bo) p)
  |ow ds=>let(a,y,rfl,n,m,l,j,o):=p;show wy s w R.same m l j R.bo n
  |pl i=>show w.elim
def db(f:FT):wF:=λρ Z=>match f (cw ρ)with
 |.ok (b,_)=>.ok b Z
 |.er x=>.er x Z
 |.bad=>.bad
def AZ(h:TTO K E t f):xW K E t (db f):=by
 intro B U H Y Z ρ Q s g w;show h (ow B Y Z) H (ow B Y Z) U H (cw ρ) Q (Mg s g) ?_;unfold db at w;cases q:f (cw ρ)with
 |bad=>rw[q]at w;show w.elim
 |er x=>rw[q]at w;show λc i H' e k=>w c i Y H' (Yn.same e) (s.grow e) k
 |ok r=>let(b,a):=r;rw[q]at w;show λM H' e R=>w Y H' (Yn.same R.same) (s.grow R.same)
def az(i:Nat):dA:=λρ Z=>match ρ[i]? with
 |some (R x)=>.ok x Z
 |_=>.bad
def aI:c8 K E (vG i) (az i):=by
 intro B U H Y Z ρ Q s a w;unfold az at w;cases q:ρ[i]? with
 |none=>rw[q]at w;show w.elim
 |some o=>
  cases o with
  |none=>rw[q]at w;show w.elim
  |some x=>rw[q]at w;let(v,e,b):=a.2 i x q;show#[v,e,WS.now s w v b]
def gS(K:Ld)(C:Str)(fs:G Str):Prop:=∃a,WW K WN C=R (R (.ref a))/\Cls K a/\∀f∈fs,aaw K a f
def a8(C f:Str)(e:dA):dA:=λρ Z=>(e ρ Z).bind λx Z1=>match x with
 |.rf i=>(match Z1[i]? with
  |some (.obj D fs)=>if D=C then RS.Xu Z1 (fs.lookup f)else .bad
  |_=>.bad)
 |_=>.bad
theorem xh:∀{ws:G (Str×V)} {fs:G (Str×SV)},Paired (λ(p:Str×V) (q:Str×SV)=>p.1=q.1/\ZC O K H Y p.2 q.2) ws fs->fs.lookup f=R x->∃v,ws.lookup f=R v/\ZC O K H Y v x
 |_,_,.nil,h=>by ext h
 |(a,v)::ws,(b,y)::fs,.cons #[g,e] t,h=>by
  ext g;rw[WT]at h⊢;split at h
  .ext h;show#[v,W,e]
  .show xh t h
theorem wZ:∀{ws:G (Str×V)} {fs:G (Str×SV)},Paired (λ(p:Str×V) (q:Str×SV)=>p.1=q.1/\ZC O K H Y p.2 q.2) ws fs->fs.lookup f=Wh->ws.lookup f=Wh
 |_,_,.nil,h=>rfl
 |(a,v)::ws,(b,y)::fs,.cons #[e,g] t,h=>by
  ext e;rw[WT]at h⊢;split at h
  .ext h
  .show wZ t h
def bL(p:gS K C L)(o:f∈L)(k:c8 K E ta fa):c8 K E (Ri K ta f) (a8 C f fa):=by
 intro B U H Y Z ρ Q s j w;show k B U H Y Z ρ _ s j (w.bind.imp λx X Z1 T I e b v m=>?_);cases x with
 |fz d=>show b.elim
 |tp l=>show b.elim
 |rf i=>
  let(a,k,rfl):=m;dsimp only at b;cases q:Z1[i]? with
  |none=>rw[q]at b;show b.elim
  |some c=>
   rw[q]at b;cases c with
   |obj D fs=>
    dsimp only at b;by_cases z:D=C
    .subst z
     rw[av W]at b;let(G,dx,ws,y,t,r):=e.cel i a _ k q;cases S:fs.lookup f with
     |none=>rw[S]at b;show b.elim
     |some x=>rw[S]at b;let(u,n,h):=xh r S;let(R,g,F,A):=p;rw[y]at g;ext g;show#[a,G,dx,ws,u,W,t,F,A f o,n,WS.now e b u h]
    .rw[ax z]at b;show b.elim
   |_=>show b.elim
def aD{Y a:Type}(f:Y->I a):G Y->I (G a)
 |[]=>R []
 |x::r=>match f x with
  |some y=>(match aD f r with
   |some b=>R (y::b)
   |none=>Wh)
  |none=>Wh
def oX:Nat->bA->SV->I D
 |_,_,.fz d=>R d
 |0,_,_=>Wh
 |n+1,Z,.rf i=>match Z[i]? with
  |some (.lst xs)=>(aD (oX n Z) xs).map .list
  |_=>Wh
 |n+1,Z,.tp l=>(aD (λx=>oX n Z x.sv) l).map .tuple
theorem eS{Y a:Type}{f:Y->I a}{R:V->Y->Prop}{S:V->a->Prop}(h:∀v x y,R v x->f x=lD y->S v y):∀{c:G V} {xs:G Y} {g:G a},Paired R c xs->aD f xs=lD g->Paired S c g
 |_,_,_,.nil,e=>by ext e;show .nil
 |_,_,_,.cons (b:=x) (l₂:=xs) r t,e=>by
  unfold aD at e;cases q:f x with
  |none=>rw[q]at e;ext e
  |some y=>
   rw[q]at e;dsimp only at e;cases i:aD f xs with
   |none=>rw[i]at e;ext e
   |some g=>rw[i]at e;ext e;show .cons (h _ _ _ r q) (eS h t i)
theorem mV:∀{a:G V} {ds:G D},Paired (DV O K H) a ds->Yb O K H a ds
 |_,_,.nil=>.nil
 |_,_,.cons h t=>.cons h (mV t)
theorem PY:Ev O H noO H:=Ev.sub λ_ z=>z.elim
theorem lV(s:Xg B K H Y Z):∀(n:Nat) {v:V} {x:SV} {d:D},ZC (ow B Y Z) K H Y v x->oX n Z x=lD d->DV noO K H v d
 |n,v,.fz o,d,h,e=>by
  let g:lD o=lD d:=by ext n<;>show e
  ext g;show DV.ev PY h
 |0,v,.rf i,d,h,e=>by ext e
 |0,v,.tp l,d,h,e=>by ext e
 |n+1,v,.rf i,d,h,e=>by
  let(a,m,rfl):=h;unfold oX at e;cases q:Z[i]? with
  |none=>rw[q]at e;ext e
  |some c=>
   rw[q]at e;cases c with
   |lst xs=>
    dsimp only at e;cases j:aD (oX n Z) xs with
    |none=>rw[j]at e;ext e
    |some ds=>rw[j]at e;ext e;let(p,f,b):=s.cel i a _ m q;show .lst #[aan.of f,λz=>z.elim] (mV (eS (R:=ZC (ow B Y Z) K H Y) (λv x y r e=>lV s n r e) b j))
   |_=>ext e
 |n+1,v,.tp l,d,h,e=>by
  let(a,xs,rfl,f,b):=h;unfold oX at e;cases j:aD (λx=>oX n Z x.sv) l with
  |none=>rw[j]at e;ext e
  |some ds=>rw[j]at e;ext e;show .tup (f.ev PY) (mV (eS (λv x y r e=>lV s n (by ext x<;>show r) e) b j))
def Ak:SV->I D
 |.fz d=>R d
 |_=>Wh
def sh(Z:bA):SV->I D
 |.fz d=>R d
 |.rf i=>match Z[i]? with
  |some (.lst xs)=>(aD Ak xs).map .list
  |_=>Wh
 |.tp _=>Wh
def FW(s:Xg B K H Y Z)(h:ZC (ow B Y Z) K H Y v x)(e:sh Z x=R d):DX (ow B Y Z) K H v d:=by
 cases x with
 |fz g=>ext e;show DV.x h
 |tp l=>ext e
 |rf i=>
  let(a,n,rfl):=h;unfold sh at e;dsimp only at e;cases q:Z[i]? with
  |none=>rw[q]at e;ext e
  |some c=>
   rw[q]at e;cases c with
   |lst xs=>
    dsimp only at e;cases j:aD Ak xs with
    |none=>rw[j]at e;ext e
    |some ds=>
     rw[j]at e;ext e;let(m,f,b):=s.cel i a _ n q;show#[a,m,W,aan.of f,mV (eS (λv x y r e=>?_) b j)];cases x with
     |fz d=>ext e;show r
     |rf i=>ext e
     |tp l=>ext e
   |_=>ext e
def Hk:D->Bool
 |.none=>Wl
 |.bool _=>Wl
 |.int _=>Wl
 |.str _=>Wl
 |_=>Wu
def Nf(h:Hk d=Wl)(a:DV O K H v d):DV M K H' v d:=by
 cases a with
 |YM=>show .YM
 |bl b=>show .bl b
 |int i=>show .int i
 |str x=>show .str x
 |tup _ _=>ext h
 |lst _ _=>ext h
def nU(Z:bA):RV->RS SV
 |.fz d=>if Hk d=Wl then .ok (.fz d) Z else .bad
 |.ow _=>.bad
def Ep(s:Xg B K H Y Z)(w:WS K E B H Y Z (PQ B K Q) (nU Z b)):Fin noO K H Q b:=by
 cases b with
 |fz d=>
  let w:WS K E B H Y Z (PQ B K Q) (if Hk d=Wl then RS.ok (SV.fz d) Z else RS.bad):=w;by_cases z:Hk d=Wl
  .rw[av z]at w;show λv H' e a=>w Y H' (Yn.same e) (s.grow e) v (Nf z a)
  .rw[ax z]at w;show w.elim
 |ow ds=>show w.elim
theorem C2:qW noO H:=λ_ _ z=>z
def qV(f:D->D->I RV)(x y:SV)(Z:bA):RS SV:=match sh Z x,sh Z y with
 |some g,R a=>(RS.Xu Z (f g a)).bind λe Z1=>mX Z1 e
 |_,_=>(RS.Xu Z (oX 6 Z x)).bind λg Z1=>(RS.Xu Z1 (oX 6 Z1 y)).bind λa P=>(RS.Xu P (f g a)).bind λe b=>nU b e
def Kd(n:qv K r f)(s:Xg B K H Y Z)(m:ZC (ow B Y Z) K H Y x a)(l:ZC (ow B Y Z) K H Y y b)(w:WS K E B H Y Z (PQ B K Q) (qV f a b Z)):r x y H Q:=by
 let e:WS K E B H Y Z (PQ B K Q) ((RS.Xu Z (oX 6 Z a)).bind λq Z1=>(RS.Xu Z1 (oX 6 Z1 b)).bind λi P=>(RS.Xu P (f q i)).bind λp o=>nU o p)->r x y H Q:=λw=>by let(q,g,w):=w.Xu;let(i,h,w):=w.Xu;let(p,j,w):=w.Xu;show n noO H x y q i p Q C2 (DV.x (lV s 6 m g)) (DV.x (lV s 6 l h)) j (Ep s w)
 unfold qV at w;cases g:sh Z a with
 |none=>rw[g]at w;show e w
 |some q=>
  cases h:sh Z b with
  |none=>rw[g,h]at w;show e w
  |some i=>rw[g,h]at w;let(p,j,w):=w.Xu;show n _ H x y q i p Q s.noO (FW s m g) (FW s l h) j (EN s w)
def mq(f:D->D->I RV)(a fb:dA):dA:=λρ Z=>(a ρ Z).bind λx Z1=>(fb ρ Z1).bind λy P=>qV f x y P
def jd(l:qv K r f)(c:c8 K E q t)(m:c8 K E p fb):c8 K E (To r q p) (mq f t fb):=by intro B U H Y Z ρ Q s a w;show c B U H Y Z ρ _ s a (w.bind.imp λx X Z1 T o h e v i=>?_);show m B U T X Z1 ρ _ h (a.YV o) (e.bind.imp λy J P H2 n g b u j=>?_);show Kd l g (i.YV n) j b
def Tc(f:D->I RV)(x:SV)(Z:bA):RS SV:=match sh Z x with
 |some e=>(RS.Xu Z (f e)).bind λb Z1=>mX Z1 b
 |_=>(RS.Xu Z (oX 6 Z x)).bind λe Z1=>(RS.Xu Z1 (f e)).bind λb a=>nU a b
def MN:SV->I Bool
 |.fz (.bool b)=>R b
 |_=>Wh
def Os(e:MN x=R b)(h:ZC O K H Y v x):v=.bl b:=by
 unfold MN at e;split at e
 .ext e;ext h;rfl
 .ext e
def b8(a:dA):wF:=λρ Z=>(a ρ Z).bind λx Z1=>RS.Xu Z1 (MN x)
def iX(c:c8 K E i j):xW K E (Gx i) (b8 j):=by
 intro B U H Y Z ρ Q s e w;show c B U H Y Z ρ _ s e (w.bind.imp λx X Z1 T h f a v g=>?_);cases q:MN x with
 |none=>rw[q]at a;show a.elim
 |some b=>rw[q]at a;show#[b,Os q g,WS.now f a]
theorem JG(b:c8 K E a e):xW K E (tB a) (b8 e):=iX b
def qL(a fb:wF):wF:=λρ Z=>(a ρ Z).bind λb Z1=>if b=Wl then fb ρ Z1 else .ok Wu Z1
def EJ(a fb:wF):wF:=λρ Z=>(a ρ Z).bind λb Z1=>if b=Wl then .ok Wl Z1 else fb ρ Z1
def wP(a:wF):wF:=λρ Z=>(a ρ Z).bind λb Z1=>.ok (!b) Z1
def OG(j:xW K E t f)(i:xW K E u g):xW K E (R9 t u) (qL f g):=by
 intro B U H Y Z ρ Q s e w;show j B U H Y Z ρ _ s e (w.bind.imp λb X Z1 T l h a=>?_);cases b with
 |true=>show i B U T X Z1 ρ Q h (e.YV l) a
 |false=>show WS.now h a
def L7(j:xW K E t f)(i:xW K E u g):xW K E (Vi t u) (EJ f g):=by
 intro B U H Y Z ρ Q s e w;show j B U H Y Z ρ _ s e (w.bind.imp λb X Z1 T l h a=>?_);cases b with
 |true=>show WS.now h a
 |false=>show i B U T X Z1 ρ Q h (e.YV l) a
def FH(h:xW K E t f):xW K E (Sk t) (wP f):=by intro B U H Y Z ρ Q s e w;show h B U H Y Z ρ _ s e (w.bind.imp λb X Z1 T i g a=>WS.now g a)
def cF:wF:=λ_ Z=>.ok Wl Z
theorem dZ:xW K E JK cF:=λB U H Y Z ρ Q s a w=>WS.now s w
def Cz(a fb:dA):dA:=λρ Z=>(b8 a ρ Z).bind λb Z1=>if b=Wl then fb ρ Z1 else .ok (.fz (.bool Wu)) Z1
def yu(d:c8 K E j l)(g:c8 K E i fb):c8 K E (IA j i) (Cz l fb):=by
 intro B U H Y Z ρ Q s e w;show iX d B U H Y Z ρ (λc T=>if c=Wl then i U T Q else Q (.bl Wu) T) s e (w.bind.imp λb X Z1 T h f a=>?_);cases b with
 |true=>show g B U T X Z1 ρ Q f (e.YV h) a
 |false=>show WS.now f a _ (.bl Wu)
def Tn(c:wF)(a fb:dA):dA:=λρ Z=>(c ρ Z).bind λb Z1=>if b=Wl then a ρ Z1 else fb ρ Z1
def ST(h:xW K E t c)(d:c8 K E l m)(i:c8 K E j fb):c8 K E (U5 t l j) (Tn c m fb):=by
 intro B U H Y Z ρ Q s a w;show h B U H Y Z ρ _ s a (w.bind.imp λb X Z1 T g f e=>?_);cases b with
 |true=>show d B U T X Z1 ρ Q f (a.YV g) e
 |false=>show i B U T X Z1 ρ Q f (a.YV g) e
def aJ:Am:=λ_ Z=>.ok [] Z
def am(b:dA)(a:Am):Am:=λρ Z=>(b ρ Z).bind λx Z1=>(a ρ Z1).bind λxs P=>.ok (x::xs) P
theorem bp:xU K E ju aJ:=λB U H Y Z ρ Q s a w=>WS.now s w [] .nil
def aA(c:c8 K E p q)(j:xU K E o fr):xU K E (fL p o) (am q fr):=by intro B U H Y Z ρ Q s b w;show c B U H Y Z ρ _ s b (w.bind.imp λx X Z1 T m h f v i=>?_);show j B U T X Z1 ρ _ h (b.YV m) (f.bind.imp λxs J P H2 l g e n a=>?_);show WS.now g e (v::n) (.cons (i.YV l) a)
def U6:SV->I AV
 |.fz d=>R (.fz d)
 |.rf i=>R (.rf i)
 |.tp _=>Wh
def UZ(xs:G SV):I SV:=match aD Ak xs with
 |some ds=>R (.fz (.tuple ds))
 |none=>(aD U6 xs).map .tp
def oP(a:Am):dA:=λρ Z=>(a ρ Z).bind λxs Z1=>if xs.length<=1000 then RS.Xu Z1 (UZ xs)else .bad
def Df(r:ZC O K H Y v x)(e:Ak x=R d):DV O K H v d:=by
 cases x with
 |fz d=>ext e;show r
 |rf i=>ext e
 |tp l=>ext e
def Tr(r:ZC O K H Y v x)(e:U6 x=R d):AOk O K H Y v d:=by
 cases x with
 |fz d=>ext e;show r
 |rf i=>ext e;show r
 |tp l=>ext e
def oE(c:xU K E u A):c8 K E (RY u) (oP A):=by
 intro B U H Y Z ρ Q s m w;show c B U H Y Z ρ _ s m (w.bind.imp λxs X Z1 T n f a o g=>?_);by_cases hn:xs.length<=1000
 .rw[av hn]at a
  show#[by rw[g.length];show ze hn,λp j=>?_];let b:Yo T (bW T p (.tup o)):=cU j _;let e:Yn X Z1 T X Z1 (bW T p (.tup o)):=Yn.same b;let i:abg (ow B X Z1) K (bW T p (.tup o)) p o:=#[SqT.of aY,λz=>a7 z (f.noO p j)];unfold UZ at a;cases q:aD Ak xs with
  |some ds=>rw[q]at a;show a X _ e (f.grow b) _ (.tup i (mV (eS (R:=ZC (ow B X Z1) K T X) (λv x y r h=>(Df r h).ev e.ev) g q)))
  |none=>
   rw[q]at a;dsimp only at a;cases t:aD U6 xs with
   |none=>rw[t]at a;show a.elim
   |some l=>rw[t]at a;show a X _ e (f.grow b) _ #[p,o,W,i,eS (R:=ZC (ow B X Z1) K T X) (λv x y r h=>(Tr r h).ev e.ev e.pre) g t]
 .rw[ax hn]at a;show a.elim
def M5(a:Am):dA:=λρ Z=>(a ρ Z).bind λxs Z1=>if xs.length<=1000 then .ok (.rf Z1.length) (Z1++[.lst xs])else .bad
def Pf(c:xU K E m n):c8 K E (Tf m) (M5 n):=by
 intro B U H Y Z ρ Q s i w;show c B U H Y Z ρ _ s i (w.bind.imp λxs X Z1 T j b a l h=>?_);by_cases hn:xs.length<=1000
 .rw[av hn]at a;show#[by rw[h.length];show ze hn,λp f=>?_];let g:Yo T (bW T p (.lst l)):=cU f _;let e:Yn X Z1 T (X++[p]) (Z1++[.lst xs]) (bW T p (.lst l)):=Yn.adu b.len g f;show a _ _ e (b.adu g f (by rw[aY];simp) #[l,aY,Paired.aax h λ_ _ d=>d.YV e]) _ #[p,by rw[<-b.len];show aO,W]
 .rw[ax hn]at a;show a.elim
def wL(f:G D->I RV)(xs:G SV)(Z:bA):RS SV:=match aD (sh Z) xs with
 |some ds=>(RS.Xu Z (f ds)).bind λb Z1=>mX Z1 b
 |_=>(RS.Xu Z (aD (oX 6 Z) xs)).bind λds Z1=>(RS.Xu Z1 (f ds)).bind λb a=>nU a b
def kK(f:G D->I RV)(a:Am):dA:=λρ Z=>(a ρ Z).bind λxs Z1=>wL f xs Z1
def fS(i:Iv K r f)(c:xU K E q t):c8 K E (Hi r q) (kK f t):=by
 intro B U H Y Z ρ Q s j w;show c B U H Y Z ρ _ s j (w.bind.imp λxs X Z1 T m b a p h=>?_);unfold wL at a;cases o:aD (sh Z1) xs with
 |none=>rw[o]at a;let(ds,l,a):=a.Xu;let(n,g,a):=a.Xu;show i noO T p ds n Q C2 (eS (R:=ZC (ow B X Z1) K T X) (λv x y r e=>DV.x (lV b 6 r e)) h l) g (Ep b a)
 |some ds=>rw[o]at a;let(n,g,a):=a.Xu;show i _ T p ds n Q b.noO (eS (R:=ZC (ow B X Z1) K T X) (λv x y r e=>FW b r e) h o) g (EN b a)
end
section
variable{B O O':cS}{K:Ld}{E:XK}{H H' M L:Hp}{Y J X U:br Wo}{Z N Z1 T:bA}{S:L2.St}{ρ:bK}{v:V}
theorem D1:∀{c:G V} {xs:G β} {i:Nat} {x:β},Paired f c xs->xs[i]?=lD x->∃v,c[i]?=lD v/\f v x
 |_,_,_,_,.nil,e=>by simp at e
 |_,_,0,_,.cons h _,e=>by simp at e;subst e;show#[_,W,h]
 |_,_,i+1,x,.cons _ t,e=>by let(v,b,a):=D1 t (by simpa using e);show#[v,by simpa using b,a]
def Qp{b:G V}(h:Paired a b xs)(e:m9 xs i=lD x):∃v,m9 b i=lD v/\a v x:=by
 unfold m9 at e⊢;rw[h.length];cases q:Iy xs.length i with
 |none=>rw[q]at e;ext e
 |some j=>rw[q]at e;show D1 h e
def LN:SV->I Int
 |.fz (.int i)=>R i
 |_=>Wh
def EC(e:LN x=R i)(h:ZC O K H Y v x):v=.int i:=by
 unfold LN at e;split at e
 .ext e;ext h;rfl
 .ext e
def SY(x y:SV)(Z:bA):RS SV:=match x with
 |.fz _=>qV bB x y Z
 |.rf j=>(match Z[j]? with
  |some (.lst xs)=>(RS.Xu Z (LN y)).bind λi Z1=>RS.Xu Z1 (m9 xs i)
  |_=>.bad)
 |.tp l=>(RS.Xu Z (LN y)).bind λi Z1=>RS.Xu Z1 ((m9 l i).map AV.sv)
def gL(a fb:dA):dA:=λρ Z=>(a ρ Z).bind λx Z1=>(fb ρ Z1).bind λy T=>SY x y T
def gC(k:c8 K E ta fa)(C:c8 K E tb fb):c8 K E (To (U1 K) ta tb) (gL fa fb):=by
 intro B S H Y Z ρ Q s r w;show k B S H Y Z ρ _ s r (w.bind.imp λx X Z1 M G A t v e=>?_);show C B S M X Z1 ρ _ A (r.YV G) (t.bind.imp λy U T L F f b u n=>?_);let e:=e.YV F;unfold SY at b;cases x with
 |fz d=>show Kd bS f e n b
 |rf j=>
  let(a,k,rfl):=e;dsimp only at b;cases q:T[j]? with
  |none=>rw[q]at b;show b.elim
  |some c=>
   rw[q]at b;cases c with
   |lst xs=>
    let(i,h,b):=WS.Xu b;cases qa:m9 xs i with
    |none=>rw[qa]at b;show b.elim
    |some x=>rw[qa]at b;let(vs,p,o):=f.cel j a _ k q;let(z,m,g):=Qp o qa;show .inl #[a,vs,i,z,W,EC h n,SqL.of p,m,WS.now f b z g]
   |_=>show b.elim
 |tp l=>
  let(a,xs,rfl,p,o):=e;let(i,h,b):=WS.Xu b;cases qa:m9 l i with
  |none=>rw[qa]at b;show b.elim
  |some x=>rw[qa]at b;let(z,m,g):=Qp o qa;show .inr (.inl #[a,xs,i,z,W,EC h n,p.1,m,WS.now f b z (by ext x<;>show g)])
def Nm(h:Lv Y (Z.set i .dead) b):Lv Y Z b:=by
 let(j,c,f,a,e):=h;rcases dc a with⟨rfl,rfl⟩|⟨_,a⟩
 .show a7 W e
 .show#[j,c,f,a,e]
theorem Yn.kill:Yn Y Z H Y (Z.set i .dead) H:=#[λ_ _ h=>h,λ_ _ h _=>h,λ_ h=>.inl (Nm h)]
def Xg.kill(s:Xg B K H Y Z)(i:Nat):Xg B K H Y (Z.set i .dead):=by
 let e:Yn Y Z H Y (Z.set i .dead) H:=Yn.kill;show#[by rw[XQ];show s.len,s.nd,s.bn,s.ba,s.al,λj b d g a=>?_];rcases dc a with⟨rfl,rfl⟩|⟨f,a⟩
 .show trivial
 .show(s.cel j b d g a).ev e.ev e.pre λu q=>q
def Xg.ahG(s:Xg B K H Y Z)(d:Y[i]?=R a):¬ow B Y (Z.set i .dead) a:=by
 rintro(z|⟨j,c,g,f,e⟩)
 .show s.agQ d z
 .let:=s.nd j i a g d
  subst this;rcases dc f with⟨_,rfl⟩|⟨b,_⟩
  .show e W
  .show b W
def j4(g:bA->SV->I (D×bA)):bA->G SV->I (G D×bA)
 |Z,[]=>R ([],Z)
 |Z,x::r=>match g Z x with
  |some (d,Z1)=>(match j4 g Z1 r with
   |some (ds,T)=>R (d::ds,T)
   |none=>Wh)
  |none=>Wh
def frz:Nat->bA->SV->I (D×bA)
 |_,Z,.fz d=>R (d,Z)
 |0,_,_=>Wh
 |n+1,Z,.rf i=>match Z[i]? with
  |some (.lst xs)=>(match j4 (frz n) Z xs with
   |some (ds,Z1)=>R (.list ds,Z1.set i .dead)
   |none=>Wh)
  |_=>Wh
 |n+1,Z,.tp l=>match j4 (frz n) Z (l.map AV.sv)with
  |some (ds,Z1)=>R (.tuple ds,Z1)
  |none=>Wh
theorem zG(a:∀{Z N:bA} {v:V} {x:SV} {d:D},Xg B K H Y Z->ZC (ow B Y Z) K H Y v x->g Z x=R (d,N)->Xg B K H Y N/\Yn Y Z H Y N H/\L3.DV (ow B Y N) K H v d):
  ∀{c:G V} {xs:G SV} {ds:G D} {Z N:bA},Xg B K H Y Z->Zh (ow B Y Z) K H Y c xs->j4 g Z xs=R (ds,N)->Xg B K H Y N/\Yn Y Z H Y N H/\L3.Yb (ow B Y N) K H c ds
 |_,_,_,Z,N,s,.nil,e=>by ext e;show#[s,.refl,.nil]
 |_,_,_,Z,N,s,.cons (b:=x) (l₂:=xs) r t,e=>by
  unfold j4 at e;cases q:g Z x with
  |none=>rw[q]at e;ext e
  |some p=>
   let(d,Z1):=p;rw[q]at e;dsimp only at e;let(j,h,m):=a s r q;cases n:j4 g Z1 xs with
   |none=>rw[n]at e;ext e
   |some p2=>let(ds,T):=p2;rw[n]at e;ext e;let(i,f,l):=zG a j (Zh.YV h t) n;show#[i,h.trans f,.cons (m.ev f.ev) l]
theorem zt:∀{a:G V} {l:G AV},Paired (AOk O K H Y) a l->Zh O K H Y a (l.map AV.sv)
 |_,_,.nil=>.nil
 |_,_,.cons (b:=x) h t=>.cons (by ext x<;>show h) (zt t)
theorem sk:∀(n:Nat) {Z N:bA} {v:V} {x:SV} {d:D},Xg B K H Y Z->ZC (ow B Y Z) K H Y v x->frz n Z x=R (d,N)->Xg B K H Y N/\Yn Y Z H Y N H/\L3.DV (ow B Y N) K H v d
 |n,Z,N,v,.fz u,d,s,h,e=>by
  let o:R (u,Z)=R (d,N):=by ext n<;>show e
  ext o;show#[s,.refl,h]
 |0,_,_,v,.rf i,d,s,h,e=>by ext e
 |0,_,_,v,.tp l,d,s,h,e=>by ext e
 |n+1,Z,N,v,.rf i,d,s,h,e=>by
  let(a,t,rfl):=h;unfold frz at e;cases q:Z[i]? with
  |none=>rw[q]at e;ext e
  |some c=>
   rw[q]at e;cases c with
   |lst xs=>
    dsimp only at e;let(y,j,g):=s.cel i a _ t q;cases r:j4 (frz n) Z xs with
    |none=>rw[r]at e;ext e
    |some p=>let(ds,Z1):=p;rw[r]at e;ext e;let(b,f,m):=zG (λs h e=>sk n s h e) s g r;show#[b.kill i,f.trans Yn.kill,zH j (b.ahG t) (m.ev (Yn.kill).ev)]
   |_=>ext e
 |n+1,Z,N,v,.tp l,d,s,h,e=>by
  let(a,xs,rfl,j,g):=h;unfold frz at e;cases r:j4 (frz n) Z (l.map AV.sv)with
  |none=>rw[r]at e;ext e
  |some p=>let(ds,Z1):=p;rw[r]at e;ext e;let(b,f,m):=zG (λs h e=>sk n s h e) s (zt g) r;show#[b,f,.tup (j.ev f.ev) m]
def PL(x:SV)(Z:bA):RS SV:=match frz 4 Z x with
 |some (d,Z1)=>.ok (.fz d) Z1
 |none=>.bad
def mw(f:dA):dA:=λρ Z=>(f ρ Z).bind λx Z1=>PL x Z1
def kj(h:c8 K E t f):c8 K E t (mw f):=by
 intro B S H Y Z ρ Q s b w;show h B S H Y Z ρ _ s b (w.bind.imp λx X Z1 M m g a v i=>?_);unfold PL at a;cases q:frz 4 Z1 x with
 |none=>rw[q]at a;show a.elim
 |some p=>let(d,T):=p;rw[q]at a;let(e,j,l):=sk 4 g i q;show a X M j e v l
def XOk.sub(h:∀b,O' b->O b)(k:XOk K O H c dx x):XOk K O' H c dx x:=by let(i,fs,g,a):=k;show#[i,fs,g,λf d e=>let#[g1,v,g2,g3]:=a f d e;#[g1,v,g2,g3.ev (Ev.sub h)]]
def wg(F:FN)(n:Nat)(xs:G SV)(Z:bA):RS SV:=if xs.length=n then(match aD Ak xs with
 |some ds=>(match F ds with
  |.ok a=>mX Z a
  |.er x=>.er x Z
  |.bad=>.bad)
 |none=>(RS.Xu Z (aD (oX 6 Z) xs)).bind λds Z1=>(match F ds with
  |.ok a=>nU Z1 a
  |_=>.bad))else .bad
def iw:RS A->RS A
 |.er _ _=>.bad
 |r=>r
def iq(F:FN)(n:Nat)(a:Am):dA:=λρ Z=>(a ρ Z).bind λxs Z1=>iw (wg F n xs Z1)
def WS.e0(h:WS K E B H Y Z b (iw r)):WS K E0 B H Y Z b r:=by
 cases r with
 |ok a Z=>show h
 |er x Z=>show h.elim
 |bad=>show h
def OE(s:Xg B K H Y Z)(b:Zh (ow B Y Z) K H Y h xs)(w:WS K E B H Y Z (PQ B K Q) (wg F n xs Z)):qC K n F h H Q E:=by
 unfold wg at w;by_cases hn:xs.length=n
 .rw[av hn]at w
  show#[b.length.trans hn,?_];cases q:aD Ak xs with
  |some ds=>
   rw[q]at w;show#[ow B Y Z,ds,s.owd,mV (eS (R:=ZC (ow B Y Z) K H Y) (λv x y r e=>Df r e) b q),?_];dsimp only at w;cases g:F ds with
   |ok i=>rw[g]at w;show EN s w
   |er x=>rw[g]at w;show λc j H' e k=>w c j Y H' (Yn.same e) (s.grow e) k
   |bad=>rw[g]at w;show w.elim
  |none=>
   rw[q]at w;let(ds,f,w):=WS.Xu w;show#[noO,ds,λa z=>z.elim,mV (eS (R:=ZC (ow B Y Z) K H Y) (λv x y r e=>lV s 6 r e) b f),?_];cases g:F ds with
   |ok i=>rw[g]at w;show Ep s w
   |er x=>rw[g]at w;show w.elim
   |bad=>rw[g]at w;show w.elim
 .rw[ax hn]at w;show w.elim
def ue(c:xU K E h i):c8 K E (mo (qC K n F) [] E0 h) (iq F n i):=by intro B S H Y Z ρ Q s b w;show c B S H Y Z ρ _ s b (w.bind.imp λxs X Z1 M g e a j f=>?_);rw[W4];show OE e f (WS.e0 a)
abbrev jA:=G SV->bA->RS SV
def dJ(K:Ld)(n:Nat)(F:jA):Sp:=λa H Q E=>a.length=n/\∃(B:cS) (Y:G Wo) (Z:bA) (xs:G SV),Xg B K H Y Z/\Zh (ow B Y Z) K H Y a xs/\WS K E B H Y Z (PQ B K Q) (F xs Z)
def Su(F:jA)(n:Nat)(a:Am):dA:=λρ Z=>(a ρ Z).bind λxs Z1=>if xs.length=n then F xs Z1 else .bad
def nG(F:jA)(n:Nat)(a:Am):dA:=λρ Z=>(a ρ Z).bind λxs Z1=>if xs.length=n then iw (F xs Z1)else .bad
def KK(c:xU K E h i):c8 K E (mo (dJ K n F) [] E h) (Su F n i):=by
 intro B S H Y Z ρ Q s e w;show c B S H Y Z ρ _ s e (w.bind.imp λxs X Z1 M g f a j b=>?_);rw[W4];by_cases hn:xs.length=n
 .rw[av hn]at a;show#[b.length.trans hn,B,X,Z1,xs,f,b,a]
 .rw[ax hn]at a;show a.elim
def sr(c:xU K E h i):c8 K E (mo (dJ K n F) [] E0 h) (nG F n i):=by
 intro B S H Y Z ρ Q s e w;show c B S H Y Z ρ _ s e (w.bind.imp λxs X Z1 M g f a j b=>?_);rw[W4];by_cases hn:xs.length=n
 .rw[av hn]at a;show#[b.length.trans hn,B,X,Z1,xs,f,b,WS.e0 a]
 .rw[ax hn]at a;show a.elim
def pd(Z:bA)(C m:Str):SV->Bool
 |.rf i=>match Z[i]? with
  |some (.obj D fs)=>decide (D=C)&&(fs.lookup m).isNone
  |_=>Wu
 |_=>Wu
def sW(C m:Str)(F:jA)(n:Nat)(a:dA)(b:Am):dA:=λρ Z=>(a ρ Z).bind λx Z1=>if pd Z1 C m x=P then(b ρ Z1).bind λxs T=>(if(x::xs).length=n then F (x::xs) T else .bad)else .bad
def bw(C m:Str)(F:jA)(n:Nat)(a:dA)(b:Am):dA:=λρ Z=>(a ρ Z).bind λx Z1=>if pd Z1 C m x=P then(b ρ Z1).bind λxs T=>(if(x::xs).length=n then iw (F (x::xs) T)else .bad)else .bad
def Lf(g:WW K WN C=R (R (.ref u)))(s:Xg B K H Y Z)(f:ZC (ow B Y Z) K H Y v x)(h:pd Z C m x=P):∃a k fs,v=.ref a/\H a=R (.ins u k fs)/\fs.lookup m=Wh:=by
 cases x with
 |fz d=>ext h
 |tp l=>ext h
 |rf i=>
  let(a,t,rfl):=f;unfold pd at h;dsimp only at h;cases q:Z[i]? with
  |none=>rw[q]at h;ext h
  |some c=>
   rw[q]at h;cases c with
   |obj D fs=>rw[WU]at h;let(n,j):=h;let e:=a6 n;subst e;let(r,k,ws,b,p,o):=s.cel i a _ t q;rw[g]at b;ext b;show#[a,k,ws,W,p,wZ o (Option.isNone_iff_eq_none.mp j)]
   |_=>ext h
def LU(q:WW K WN C=R (R (.ref Ca)))(p:c8 K E to fo)(c:xU K E A fa):c8 K E (xy Ca m (dJ K n F) [] E to A) (sW C m F n fo fa):=by
 intro B S H Y Z ρ Q s g w;show p B S H Y Z ρ _ s g (w.bind.imp λx X Z1 M y i e v j=>?_);by_cases h:pd Z1 C m x=P
 .rw[av h]at e
  let(a,dx,fs,rfl,t,r):=Lf q i j h;show#[a,dx,fs,W,t,r,?_];show c B S M X Z1 ρ _ i (g.YV y) (e.bind.imp λxs U T L u o b z f=>?_);rw[W4];let l:Zh (ow B U T) K L U (.ref a::z) (x::xs):=.cons (j.YV u) f;by_cases hn:(x::xs).length=n
  .rw[av hn]at b;show#[l.length.trans hn,B,U,T,_,o,l,b]
  .rw[ax hn]at b;show b.elim
 .rw[ax h]at e;show e.elim
def HA(q:WW K WN C=R (R (.ref Ca)))(p:c8 K E to fo)(c:xU K E A fa):c8 K E (xy Ca m (dJ K n F) [] E0 to A) (bw C m F n fo fa):=by
 intro B S H Y Z ρ Q s g w;show p B S H Y Z ρ _ s g (w.bind.imp λx X Z1 M y i e v j=>?_);by_cases h:pd Z1 C m x=P
 .rw[av h]at e
  let(a,dx,fs,rfl,t,r):=Lf q i j h;show#[a,dx,fs,W,t,r,?_];show c B S M X Z1 ρ _ i (g.YV y) (e.bind.imp λxs U T L u o b z f=>?_);rw[W4];let l:Zh (ow B U T) K L U (.ref a::z) (x::xs):=.cons (j.YV u) f;by_cases hn:(x::xs).length=n
  .rw[av hn]at b;show#[l.length.trans hn,B,U,T,_,o,l,WS.e0 b]
  .rw[ax hn]at b;show b.elim
 .rw[ax h]at e;show e.elim
def HD:SV->Bool
 |.fz .none=>P
 |_=>Wu
def x0(C:Str)(F:jA)(n:Nat)(xs:G SV)(Z:bA):RS SV:=if(SV.rf Z.length::xs).length=n then(F (.rf Z.length::xs) (Z++[.obj C []])).bind λr T=>(if HD r=P then .ok (.rf Z.length) T else .bad)else .bad
def Ap(C:Str)(F:jA)(n:Nat)(a:Am):dA:=λρ Z=>(a ρ Z).bind λxs Z1=>x0 C F n xs Z1
def xf(C:Str)(F:jA)(n:Nat)(a:Am):dA:=λρ Z=>(a ρ Z).bind λxs Z1=>iw (x0 C F n xs Z1)
def Nk(h:HD x=P)(a:ZC O K H Y v x):v=.YM:=by
 unfold HD at h;split at h
 .ext a;rfl
 .ext h
def JA(q:WW K WN C=R (R (.ref u)))(s:Xg B K H Y Z)(p:Zh (ow B Y Z) K H Y y xs)(w:WS K E B H Y Z (PQ B K Q) (x0 C F n xs Z)):
  ∀x c,H x=Wh->H c=Wh->c≠x->dJ K n F (.ref x::(y++[])) (bW (bW H c (.own x)) x (.ins u c [])) (λv L=>v=.YM/\Q (.ref x) L) E:=by
 intro x c f i h;rw[W4];unfold x0 at w;let j:Yo H (bW (bW H c (.own x)) x (.ins u c [])):=(cU i _).trans (cU (by rw[aU (λz=>h z.symm)];show f) _);let e:Yn Y Z H (Y++[x]) (Z++[.obj C []]) (bW (bW H c (.own x)) x (.ins u c [])):=Yn.adu s.len j f;let o:Xg B K (bW (bW H c (.own x)) x (.ins u c [])) (Y++[x]) (Z++[.obj C []]):=s.adu j f (by rw[aY];simp) #[u,c,[],q,aY,.nil];let a:∀{J:G Wo} {N:bA} {H':Hp},Yn (Y++[x]) (Z++[.obj C []]) (bW (bW H c (.own x)) x (.ins u c [])) J N H'->ZC (ow B J N) K H' J (.ref x) (.rf Z.length):=λe=>#[x,e.pre _ _ (by rw[<-s.len];show aO),W];by_cases hn:(SV.rf Z.length::xs).length=n
 .rw[av hn]at w
  let l:Zh (ow B (Y++[x]) (Z++[.obj C []])) K (bW (bW H c (.own x)) x (.ins u c [])) (Y++[x]) (.ref x::y) (.rf Z.length::xs):=.cons (a .refl) (Zh.YV e p);show#[l.length.trans hn,B,_,_,_,o,l,?_];show WS.imp (WS.from e w.bind) λr U T L t m b v g=>?_;by_cases z:HD r=P
  .rw[av z]at b;show#[Nk z g,WS.now m b _ (a t)]
  .rw[ax z]at b;show b.elim
 .rw[ax hn]at w;show w.elim
def Pv(g:WW K WN C=R (R (.ref l)))(c:xU K E i j):c8 K E (A6 l (dJ K n F) [] E i) (Ap C F n j):=by intro B S H Y Z ρ Q s b w;show c B S H Y Z ρ _ s b (w.bind.imp λxs X Z1 M h e a m f=>?_);show JA g e f a
def Jq(g:WW K WN C=R (R (.ref l)))(c:xU K E i j):c8 K E (A6 l (dJ K n F) [] E0 i) (xf C F n j):=by intro B S H Y Z ρ Q s b w;show c B S H Y Z ρ _ s b (w.bind.imp λxs X Z1 M h e a m f=>?_);show JA g e f (WS.e0 a)
def ic(Z:bA):SV->I (Nat×G SV)
 |.rf i=>match Z[i]? with
  |some (.lst xs)=>R (i,xs)
  |_=>Wh
 |_=>Wh
def yN(s:Xg B K H Y Z)(b:ZC (ow B Y Z) K H Y v x)(h:ic Z x=R (i,xs)):Z[i]?=R (.lst xs)/\∃a k,Y[i]?=R a/\v=.ref a/\H a=R (.lst k)/\Zh (ow B Y Z) K H Y k xs:=by
 cases x with
 |fz d=>ext h
 |tp l=>ext h
 |rf j=>
  let(a,n,rfl):=b;unfold ic at h;dsimp only at h;cases q:Z[j]? with
  |none=>rw[q]at h;ext h
  |some c=>
   rw[q]at h;cases c with
   |lst m=>let e:=WE h;ext e;let(k,g,f):=s.cel i a _ n q;show#[q,a,k,n,W,g,f]
   |_=>ext h
def E6(h:Paired e f xs)(r:e v x):Paired e (f++[v]) (xs++[x]):=by
 induction h with
 |nil=>show .cons r .nil
 |cons a _ b=>show .cons a b
def l6(b c:dA):dA:=λρ Z=>(b ρ Z).bind λo Z1=>(RS.Xu Z1 (ic Z1 o)).bind λ_ Z1=>(c ρ Z1).bind λx T=>(RS.Xu T (ic T o)).bind λp a=>
 if p.2.length<1000000 then .ok (.fz .none) (a.set p.1 (.lst (p.2++[x])))else .bad
def rc(F:c8 K E to fo)(G:c8 K E te fe):c8 K E (Qd K "list" yk to (fL te ju)) (l6 fo fe):=by
 intro B S H Y Z ρ Q s j w;show F B S H Y Z ρ _ s j (w.bind.imp λo X Z1 M e1 m e v n=>?_);let((i0,y),A,e):=WS.Xu e;let(_,t,f,_,rfl,P,_):=yN m n A;show#[.inl #[W,f,SqL.of P],?_];show G B S M X Z1 ρ _ m (j.YV e1) (e.bind.imp λx U T L e2 l b u C=>?_);let((i,xs),q,b):=WS.Xu b;let(g,a,vs,z,R,I,p):=yN l (n.YV e2) q;ext R;dsimp only at b;by_cases hn:xs.length<1000000
 .rw[av hn]at b;let ev:Ev (ow B U T) L (ow B U T) (bW L t (.lst (vs++[u]))):=rL z g (by nofun);show#[t,vs,u,W,W,I,vf (by rw[p.length];show hn),?_];show b U _ (Yn.put z g (by nofun) (by nofun)) (l.put z g (by nofun) (by nofun) #[_,aY,E6 (Paired.aax p λ_ _ r=>r.ev ev λ_ _ h=>h) (C.ev ev λ_ _ h=>h)]) _ .YM
 .rw[ax hn]at b;show b.elim
end
inductive FlS where
 |nx (ρ:bK)
 |bk (ρ:bK)
 |ct (ρ:bK)
 |rt (x:SV)
abbrev gl:=bK->bA->RS FlS
abbrev Ec:=SV->bK->bA->RS bK
abbrev JH:=G SV->bK->bA->RS bK
def BC(B:cS)(K:Ld)(D:Ends):FlS->G M->bA->Hp->Prop
 |.nx a,α,Z,H=>∀σ,Zg (ow B α Z) K H α σ a->D.nx σ H
 |.bk a,α,Z,H=>∀σ,Zg (ow B α Z) K H α σ a->D.bk σ H
 |.ct a,α,Z,H=>∀σ,Zg (ow B α Z) K H α σ a->D.ct σ H
 |.rt x,α,Z,H=>∀v,ZC (ow B α Z) K H α v x->D.rt v H
def rH(K:Ld)(E:XK)(t:TS)(g:gl):Prop:=
 ∀(B:cS) (a:L2.St) (H:Hp) (α:G M) (Z:bA) (b:bK) (D:Ends),Xg B K H α Z->Zg (ow B α Z) K H α a b->WS K E B H α Z (BC B K D) (g b Z)->t D a H
def ML(K:Ld)(E:XK)(g:TG)(f:Ec):Prop:=
 ∀(B:cS) (e:L2.St) (H:Hp) (α:G M) (Z:bA) (l:bK) (v:V) (x:SV) (Q:L2.St->Hp->Prop),Xg B K H α Z->Zg (ow B α Z) K H α e l->ZC (ow B α Z) K H α v x->WS K E B H α Z (λb a i h=>∀j,Zg (ow B a i) K h a j b->Q j h) (f x l Z)->g v e H Q
def Oe(K:Ld)(E:XK)(g:RN)(f:JH):Prop:=
 ∀(B:cS) (e:L2.St) (H:Hp) (α:G M) (Z:bA) (l:bK) (m:G V) (xs:G SV) (Q:L2.St->Hp->Prop),Xg B K H α Z->Zg (ow B α Z) K H α e l->Zh (ow B α Z) K H α m xs->WS K E B H α Z (λb a i h=>∀j,Zg (ow B a i) K h a j b->Q j h) (f xs l Z)->g m e H Q
section
variable{B O O':cS}{K:Ld}{E:XK}{H H' P N:Hp}{U M T Y:br Wo}{Z Z' Z1 X:bA}{S:L2.St}{ρ:bK}{v:V}
def Zg.set(a:Zg O K H U S ρ)(h:ZC O K H U v x):Zg O K H U (S.set i (R v)) (ρ.set i (R x)):=by
 show#[by rw[XQ,XQ];show a.1,λj y g=>?_];rcases dc g with⟨rfl,e⟩|⟨f,b⟩
 .ext e;show#[v,?_,h];rw[Xw];let:=yW g;rw[a.1];show this
 .let(u,m,l):=a.2 j y b;show#[u,by rw[Xj (λz=>f z.symm)];show m,l]
def dB(i:Nat):Ec:=λx ρ Z=>.ok (ρ.set i (R x)) Z
theorem bc:ML K E (xn i) (dB i):=λB S H U Z ρ v x Q s a h w=>WS.now s w _ (a.set h)
def Hc:JH:=λxs ρ Z=>match xs with
 |[]=>.ok ρ Z
 |_=>.bad
def vP(f:Ec)(g:JH):JH:=λxs ρ Z=>match xs with
 |x::r=>(f x ρ Z).bind λa Z1=>g r a Z1
 |[]=>.bad
def Ey:Oe K E Sa Hc:=by
 intro B S H U Z ρ b xs Q s a h w;cases h with
 |nil=>show#[W,WS.now s w _ a]
 |cons _ _=>show w.elim
def we(p:ML K E t f)(o:Oe K E u g):Oe K E (JN t u) (vP f g):=by
 intro B S H U Z ρ r xs Q s m h w;cases h with
 |nil=>show w.elim
 |cons a b=>show#[_,_,W,p B S H U Z ρ _ _ _ s m a (WS.imp (WS.bind w) λi T Z1 P q n l e j=>?_)];show o B e P T Z1 i _ _ _ n j (Zh.YV q b) l
def KR:SV->I (G SV)
 |.fz (.tuple ds)=>R (ds.map .fz)
 |.tp l=>R (l.map AV.sv)
 |_=>Wh
def SB(h:ZC O K H U v x)(e:KR x=R xs):∃a c,v=.ref a/\abg O K H a c/\Zh O K H U c xs:=by
 unfold KR at e;split at e
 .ext e
  cases h with
  |tup h f=>show#[_,_,W,h,nt _ _ f]
 .ext e;let(a,b,rfl,i,g):=h;show#[a,b,W,i,zt g]
 .ext e
def TB(n:Nat)(f:JH):Ec:=λx ρ Z=>(RS.Xu Z (KR x)).bind λxs Z1=>if xs.length=n then f xs ρ Z1 else .bad
def Fc(h:Oe K E t f):ML K E (S8 K n t) (TB n f):=by
 intro B S H U Z ρ v x Q s e g w;let(xs,q,w):=WS.Xu w;let(a,j,rfl,i,b):=SB g q;by_cases hn:xs.length=n
 .rw[av hn]at w;show#[a,j,W,i.1,b.length.trans hn,h B S H U Z ρ j xs Q s e b w]
 .rw[ax hn]at w;show w.elim
def eD:gl:=λρ Z=>.ok (.nx ρ) Z
def aX(f g:gl):gl:=λρ Z=>(f ρ Z).bind λa Z1=>match a with
 |.nx b=>g b Z1
 |a=>.ok a Z1
def cr(f:dA):gl:=λρ Z=>(f ρ Z).bind λ_ Z1=>.ok (.nx ρ) Z1
def cX(f:dA)(g:Ec):gl:=λρ Z=>(f ρ Z).bind λx Z1=>(g x ρ Z1).bind λa X=>.ok (.nx a) X
def dw(c:wF)(f g:gl):gl:=λρ Z=>(c ρ Z).bind λb Z1=>if b=Wl then f ρ Z1 else g ρ Z1
def ip(f:dA):gl:=λρ Z=>(f ρ Z).bind λx Z1=>.ok (.rt x) Z1
def xz:gl:=λ_ Z=>.ok (.rt (.fz .none)) Z
theorem kW:rH K E IZ eD:=λB S H U Z ρ D s a w=>WS.now s w S a
theorem Mh:rH K E QK xz:=λB S H U Z ρ D s a w=>WS.now s w .YM .YM
def aN(m:rH K E t f)(l:rH K E u g):rH K E (NT t u) (aX f g):=by
 intro B S H U Z ρ D s j w;show m B S H U Z ρ {D with nx:=u D} s j (WS.imp (WS.bind w) λn T Z1 P o e b=>?_);cases n with
 |nx a=>show λh i=>l B h P T Z1 a D e i b
 |rt x=>show WS.now (E:=E) e b
 |bk a=>show WS.now (E:=E) e b
 |ct a=>show WS.now (E:=E) e b
def i4(h:c8 K E t f):rH K E (FO t) (cr f):=by intro B S H U Z ρ D s a w;show h B S H U Z ρ _ s a (WS.imp (WS.bind w) λx T Z1 P g e b v i=>WS.now e b S (a.YV g))
def cT(h:c8 K E t f)(p:ML K E g u):rH K E (Lq t g) (cX f u):=by intro B S H U Z ρ D s e w;show h B S H U Z ρ _ s e (WS.imp (WS.bind w) λx T Z1 P q n l v o=>?_);show p B S P T Z1 ρ v x _ n (e.YV q) o (WS.imp (WS.bind l) λi Y X N r m j a b=>WS.now m j a b)
def rJ(j:xW K E c n)(m:rH K E t f)(l:rH K E u g):rH K E (Sx c t u) (dw n f g):=by
 intro B S H U Z ρ D s a w;show j B S H U Z ρ _ s a (WS.imp (WS.bind w) λb T Z1 P i h e=>?_);cases b with
 |true=>show m B S P T Z1 ρ D h (a.YV i) e
 |false=>show l B S P T Z1 ρ D h (a.YV i) e
def fK(h:c8 K E t f):rH K E (Rz t) (ip f):=by intro B S H U Z ρ D s b w;show h B S H U Z ρ _ s b (WS.imp (WS.bind w) λx T Z1 P i e a v g=>WS.now e a v g)
def eF(f:Str)(x:SV):G (Str×SV)->G (Str×SV)
 |[]=>[(f,x)]
 |(g,y)::r=>if g=f then(g,x)::r else(g,y)::eF f x r
theorem LZ(h:ZC O K H U v x):∀{ws:G (Str×V)} {fs:G (Str×SV)},Paired (λ(p:Str×V) (q:Str×SV)=>p.1=q.1/\ZC O K H U p.2 q.2) ws fs->Paired (λ(p:Str×V) (q:Str×SV)=>p.1=q.1/\ZC O K H U p.2 q.2) (kE f v ws) (eF f x fs)
 |_,_,.nil=>.cons #[W,h] .nil
 |(g,u)::ws,(a,y)::fs,.cons #[e,k] t=>by
  ext e;unfold kE eF;by_cases z:g=f
  .rw[av z,av z];show .cons #[W,h] t
  .rw[ax z,ax z];show .cons #[W,k] (LZ h t)
def KG(Z:bA)(C:Str):SV->I (Nat×G (Str×SV))
 |.rf i=>match Z[i]? with
  |some (.obj D fs)=>if D=C then R (i,fs)else Wh
  |_=>Wh
 |_=>Wh
def T4(s:Xg B K H U Z)(b:ZC (ow B U Z) K H U v x)(h:KG Z C x=R (i,fs)):Z[i]?=R (.obj C fs)/\∃a k o ws,U[i]?=R a/\v=.ref a/\WW K WN C=R (R (.ref k))/\H a=R (.ins k o ws)/\Paired (λ(p:Str×V) (q:Str×SV)=>p.1=q.1/\ZC (ow B U Z) K H U p.2 q.2) ws fs:=by
 cases x with
 |fz d=>ext h
 |tp l=>ext h
 |rf j=>
  let(a,r,rfl):=b;unfold KG at h;dsimp only at h;cases q:Z[j]? with
  |none=>rw[q]at h;ext h
  |some c=>
   rw[q]at h;cases c with
   |obj D n=>
    dsimp only at h;by_cases z:D=C
    .subst z;rw[av W]at h;let e:=WE h;ext e;let(k,o,ws,m,g,f):=s.cel i a _ r q;show#[q,a,k,o,ws,r,W,m,g,f]
    .rw[ax z]at h;ext h
   |_=>ext h
def fM(C f:Str)(b c:dA):gl:=λρ Z=>(c ρ Z).bind λx Z1=>(b ρ Z1).bind λo X=>(RS.Xu X (KG X C o)).bind λp a=>if p.2.length<100 then .ok (.nx ρ) (a.set p.1 (.obj C (eF f x p.2)))else .bad
def jx(c:gS K C L)(R:f∈L)(Q:c8 K E to fo)(he:c8 K E te fe):rH K E (Ss K to te f) (fM C f fo fe):=by
 intro B S H U Z ρ D s g w;show he B S H U Z ρ _ s g (WS.imp (WS.bind w) λx T Z1 P A G F v I=>?_);show Q B S P T Z1 ρ _ G (g.YV A) (WS.imp (WS.bind F) λo Y X N y l b u J=>?_);let((i,fs),q,b):=WS.Xu b;let(j,a,e,z,ws,ha,rfl,n,h1,m):=T4 l J q;let(Cb,p,g1,g2):=c;rw[n]at p;ext p;dsimp only at b;by_cases hn:fs.length<100
 .rw[av hn]at b;let ev:Ev (ow B Y X) N (ow B Y X) (bW N a (.ins e z (kE f v ws))):=rL ha j (by nofun);let t:Yn Y X N Y (X.set i (.obj C (eF f x fs))) (bW N a (.ins e z (kE f v ws))):=Yn.put ha j (by nofun) (by nofun);let hl:=Paired.length m;show#[a,e,z,ws,W,h1,g1,g2 f R,by ext,?_];show b Y _ t (l.put ha j (by nofun) (by nofun) #[e,z,_,n,aY,LZ ((I.YV y).ev ev λ_ _ h=>h) (Paired.aax m λ_ _ r=>#[r.1,r.2.ev ev λ_ _ h=>h])]) S ((g.YV (A.trans y)).YV t)
 .rw[ax hn]at b;show b.elim
abbrev MG:=bK->bA->RS (G D)
def Ra(K:Ld)(E:XK)(b:TI)(e:MG):Prop:=
 ∀(B:cS) (S:L2.St) (H:Hp) (U:G Wo) (Z:bA) (ρ:bK) (a:It->Hp->Prop),Xg B K H U Z->Zg (ow B U Z) K H U S ρ->WS K E B H U Z (λds M Z' H'=>∀J,A0 K J (ow B M Z') H' ds->a J H') (e ρ Z)->b S H a
def ii(f:FI):MG:=λρ Z=>match f (cw ρ)with
 |.ok (ds,_)=>.ok ds Z
 |.er x=>.er x Z
 |.bad=>.bad
def kZ(h:IO K E p f):Ra K E p (ii f):=by
 intro B S H U Z ρ l s g w;show h (ow B U Z) H (ow B U Z) S H (cw ρ) l (Mg s g) ?_;unfold ii at w;cases q:f (cw ρ)with
 |bad=>rw[q]at w;show w.elim
 |er x=>rw[q]at w;show λc t H' e k=>w c t U H' (Yn.same e) (s.grow e) k
 |ok r=>let(ds,a):=r;rw[q]at w;show λO' J H' e R i=>w U H' (Yn.same R.same) (s.grow R.same) J λm N j n=>i m N (λb o h z=>j b o h λy=>z (R.bo b y)) n
def eT(a:dA):MG:=λρ Z=>(a ρ Z).bind λx Z1=>(match frz 4 Z1 x with
 |some (d,X)=>RS.Xu X (eZ d)
 |none=>.bad)
def iL(h:c8 K E r t):Ra K E (K0 K r) (eT t):=by
 intro B S H U Z ρ n s g w;show h B S H U Z ρ _ s g (WS.imp (WS.bind w) λx T Z1 P m i a v j=>?_);cases q:frz 4 Z1 x with
 |none=>rw[q]at a;show a.elim
 |some p=>
  let(d,X):=p;rw[q]at a;let(e,f,l):=sk 4 i j q;dsimp only at a;cases o:eZ d with
  |none=>rw[o]at a;show a.elim
  |some ds=>
   rw[o]at a;cases l with
   |tup h b=>ext o;show#[_,W,.inr #[#[_,h.1],a T P f e _ (JL h b)]]
   |lst h b=>ext o;show#[_,W,.inl #[#[_,h.1.sq],a T P f e _ (Gn h b)]]
   |_=>ext o
def mJ(gt:Ec)(b:gl):G D->gl
 |[],ρ,Z=>.ok (.nx ρ) Z
 |d::r,ρ,Z=>(gt (.fz d) ρ Z).bind λa Z1=>(b a Z1).bind λe X=>match e with
  |.nx f=>mJ gt b r f X
  |.ct f=>mJ gt b r f X
  |.bk f=>.ok (.nx f) X
  |.rt x=>.ok (.rt x) X
def A9(a:MG)(gt:Ec)(b:gl):gl:=λρ Z=>(a ρ Z).bind λds Z1=>mJ gt b ds ρ Z1
def z7(c:Ra K E wi fi)(k:ML K E g gt)(hb:rH K E tb b):rH K E (RL wi g tb) (A9 fi gt b):=by
 intro B S H U Z ρ D s L w;show c B S H U Z ρ _ s L (WS.imp (WS.bind w) λds T Z1 P e1 s1 w1 J it=>?_);show#[λi m a H'=>m=ds.length - i/\i<=ds.length/\∃Y X ρ2,Yn T Z1 P Y X H'/\Xg B K H' Y X/\Zg (ow B Y X) K H' Y a ρ2/\WS K E B H' Y X (BC B K D) (mJ gt b (ds.drop i) ρ2 X),#[_,W,Xq _,T,Z1,ρ,.refl,s1,L.YV e1,w1],?_];rintro i m l N ⟨rfl,c,Y,X,ρ2,e2,s2,sl2,w2⟩;let(go,o):=it (ow B Y X) N e2.ev s2.noO;by_cases h:i<ds.length
 .let(g1,g2):=go i h
  show .inr #[g1,λa H'=>i+1<=ds.length/\∃Y X ρ2,Yn T Z1 P Y X H'/\Xg B K H' Y X/\Zg (ow B Y X) K H' Y a ρ2/\WS K E B H' Y X (BC B K D) (mJ gt b (ds.drop (i+1)) ρ2 X),λa H' #[h1,h2]=>#[ds.length - (i+1),by ext,W,h1,h2],λx I y=>?_];let(Q,d,hd,dv):=g2 x I y;let ed:ds.drop i=d::ds.drop (i+1):=by let(_,q):=Wj.mp hd;rw[YF h,q]
  rw[ed]at w2;let G:Yn Y X N Y X I:=Yn.same Q;show k B l I Y X ρ2 x (.fz d) _ (s2.grow Q) (sl2.YV G) dv (WS.imp (WS.bind (WS.from G w2)) λA C Z4 H4 e4 s4 w3 z F=>?_);show hb B z H4 C Z4 A _ s4 F (WS.imp (WS.bind w3) λfl n R H5 e5 t r=>?_);let p:=e2.trans (G.trans (e4.trans e5));cases fl with
  |nx f=>show λu j=>#[h,n,R,f,p,t,j,r]
  |ct f=>show λu j=>#[h,n,R,f,p,t,j,r]
  |bk f=>show WS.now (E:=E) t r
  |rt x=>show WS.now (E:=E) t r
 .let e:i=ds.length:=by ext
  subst e;rw[ZL (Ww _)]at w2;show .inl #[o,WS.now s2 w2 l sl2]
def wK(c:wF)(b:gl):Nat->gl
 |0,_,_=>.bad
 |n+1,ρ,Z=>(c ρ Z).bind λk Z1=>if k=Wl then(b ρ Z1).bind λa X=>match a with
  |.nx e=>wK c b n e X
  |.ct e=>wK c b n e X
  |.bk e=>.ok (.nx e) X
  |.rt x=>.ok (.rt x) X else .ok (.nx ρ) Z1
def sg(c:wF)(b:gl):gl:=wK c b 1000000
def sH(G:xW K E c fc)(I:rH K E tb b):rH K E (Kc c tb) (sg fc b):=by
 intro B S H U Z ρ D s C w;show#[λm e H'=>∃Y X a,Yn U Z H Y X H'/\Xg B K H' Y X/\Zg (ow B Y X) K H' Y e a/\WS K E B H' Y X (BC B K D) (wK fc b m a X),#[_,U,Z,ρ,.refl,s,C,w],?_];rintro m g N ⟨Y,X,a,Q,F,i,y⟩;cases m with
 |zero=>show y.elim
 |succ m=>
  show G B g N Y X a _ F i (WS.imp (WS.bind y) λk t R H3 u z o=>?_);cases k with
  |true=>
   rw[av W]at o⊢;show#[λe H'=>∃Y X a,Yn U Z H Y X H'/\Xg B K H' Y X/\Zg (ow B Y X) K H' Y e a/\WS K E B H' Y X (BC B K D) (wK fc b m a X),λe H' q=>#[m,Yy m,q],?_];show I B g H3 t R a _ z (i.YV u) (WS.imp (WS.bind o) λJ j A H5 L p n=>?_);let l:=Q.trans (u.trans L);cases J with
   |nx f=>show λr h=>#[j,A,f,l,p,h,n]
   |ct f=>show λr h=>#[j,A,f,l,p,h,n]
   |bk f=>show WS.now (E:=E) p n
   |rt x=>show WS.now (E:=E) p n
  |false=>rw[ax WM]at o⊢;show WS.now z o g (i.YV u)
end
section
variable{B O O':cS}{K:Ld}{E:XK}{H H' S L:Hp}{U R X Y:br Wo}{Z Z' Z1 T:bA}{M:L2.St}{ρ:bK}{v:V}
def cR(gt:Ec)(c:wF)(f:dA):G D->bK->bA->G SV->RS (G SV)
 |[],_,Z,acc=>.ok acc Z
 |d::r,ρ,Z,acc=>(gt (.fz d) ρ Z).bind λa Z1=>(c a Z1).bind λb T=>if b=P then(f a T).bind λx e=>(if acc.length<1000000 then cR gt c f r a e (acc++[x])else .bad)else cR gt c f r a T acc
def gj(n:Nat)(a:G Nat)(ρ:bK):bK:=Wz n Wh++a.map λj=>(ρ[j]?).join
def eC(n:Nat)(c:G Nat)(a:MG)(gt:Ec)(b:wF)(d:dA):dA:=λρ Z=>(a ρ Z).bind λds Z1=>(iw (cR gt b d ds (gj n c ρ) Z1 [])).bind λxs T=>.ok (.rf T.length) (T++[.lst xs])
def PP{own:G Str}{e:G (Str×Nat)}{n:Nat}{c:G Nat}(d:own.length=n)(h:e.map (·.2)=c)(i:Zg O K H U M ρ):Zg O K H U (kA own e M) (gj n c ρ):=by
 unfold kA gj;rw[Gu d];let l:e.length=c.length:=by rw[<-h,Wg]
 show#[by rw[Wm,Wm,Xl,Xl,Wg,Wg,l],λj x b=>?_];by_cases g:j<n
 .rw[WB (by rw[Xl];show g),YR,av g]at b;ext b
 .rw[Xb (by rw[Xl];ext),Xl,Wv]at b⊢
  subst h;rw[Wv]at b;cases q:e[j - n]? with
  |none=>rw[q]at b;ext b
  |some p=>
   rw[q]at b;let a:(ρ[p.2]?).join=lD x:=WE b;let f:ρ[p.2]?=lD (lD x):=by
    cases t:ρ[p.2]? with
    |none=>rw[t]at a;ext a
    |some o=>rw[t]at a;show eh lD a
   let(u,r,m):=i.2 p.2 x f;show#[u,by show lD ((M[p.2]?).join)=_;rw[r];rfl,m]
def Jx{p:Wo}{c:Cell}(a:U.length=Z.length)(e:c≠.dead):ow (dX B p) U Z=ow B (U++[p]) (Z++[c]):=by
 funext b;show propext #[λz=>?_,λz=>?_]
 .rcases z with(z|z)|⟨i,d,h,g,f⟩
  .show .inl z
  .show .inr #[U.length,c,by rw[z];show aO,by rw[a];show aO,e]
  .show .inr #[i,d,jI h,jI g,f]
 .rcases z with z|z
  .show .inl (.inl z)
  .rcases yF a z with z|z
   .show .inr z
   .show .inl (.inr z)
def Xg.adopt{p:Wo}{c:G V}{xs:G SV}(s:Xg (dX B p) K H U Z)(l:H p=lD (.lst c))(m:Zh (ow (dX B p) U Z) K H U c xs)(n:¬B p):Xg B K H (U++[p]) (Z++[.lst xs]):=by
 let t:ow (dX B p) U Z=ow B (U++[p]) (Z++[.lst xs]):=Jx s.len (by nofun);let b:∀(i:Nat) (a:Wo),U[i]?=lD a->(U++[p])[i]?=lD a:=λi a h=>jI h;let g:∀i:Nat,U[i]?≠lD p:=s.ba p (.inr W);show#[by rw[Wm,Wm,s.len];rfl,λi j a e f=>?_,λa h=>s.bn a (.inl h),λa h i q=>?_,λi a h=>?_,λi a d e f=>?_]
 .rcases c7 e with g1|⟨z,u⟩<;>rcases c7 f with g2|⟨y,A⟩
  .show s.nd i j a g1 g2
  .rw[A]at g1;show a7 g1 (g i)
  .rw[u]at g2;show a7 g2 (g j)
  .omega
 .rcases c7 q with q|⟨_,u⟩
  .show s.ba a (.inl h) i q
  .subst u;show n h
 .rcases c7 h with h|⟨_,u⟩
  .show s.al i a h
  .rw[u,l];simp
 .rw[<-t]
  rcases c7 f with g2|⟨z,u⟩
  .rcases c7 e with g1|⟨z,_⟩
   .show(s.cel i a d g1 g2).ev .refl b λo q=>q
   .let:=(Wj.mp g2).1;let:=s.len;ext
  .rcases c7 e with g1|⟨_,y⟩
   .let:=(Wj.mp g1).1;let:=s.len;ext
   .rw[u,y];show#[c,l,Paired.aax m λ_ _ r=>r.ev .refl b]
def Xg.hide{p:Wo}{o:HO}(s:Xg B K H U Z)(j:H p=Wh):Xg (dX B p) K (bW H p o) U Z:=by let f:Yo H (bW H p o):=cU j o;let g:=s.grow f;let ev:Ev (ow B U Z) H (ow (dX B p) U Z) (bW H p o):=λb u h n=>#[f b u h,λz=>z.elim (λz=>z.elim (λz=>n (.inl z)) λz=>by rw[z,j]at h;ext h) λz=>n (.inr z)];show#[g.len,g.nd,λa h=>h.elim (g.bn a) λe=>by rw[e,aY];simp,λa h i q=>h.elim (λh=>g.ba a h i q) λe=>by rw[e]at q;show s.al i p q j,g.al,λi a c m l=>?_];show(s.cel i a c m l).ev ev (λ_ _ h=>h) λo q=>f _ _ q
def Xg.amE{p:Wo}{o e:HO}(s:Xg (dX B p) K H U Z)(j:H p=lD o):Xg (dX B p) K (bW H p e) U Z:=by
 let ev:Ev (ow (dX B p) U Z) H (ow (dX B p) U Z) (bW H p e):=Ev.mut (.inl (.inr W)) e;let n:∀b,H b≠Wh->bW H p e b≠Wh:=λb h=>by
  by_cases z:b=p
  .subst z;rw[aY];simp
  .rw[aU z];show h
 show#[s.len,s.nd,λa h=>n a (s.bn a h),s.ba,λi a h=>n a (s.al i a h),λi a c f g=>(s.cel i a c f g).ev ev (λ_ _ h=>h) λu q=>?_];let:a≠p:=λz=>s.ba p (.inr W) i (by rw[<-z];show f);rw[aU this];show q
theorem Yn.dd{p:Wo}{o:HO}(e:Yn X Z1 S U Z H)(a:S p=Wh):Yn X Z1 S U Z (bW H p o):=#[e.pre,λb u h n=>by rw[aU (cM h a)];show e.kp b u h n,e.lv]
theorem Xg.ahT{p:Wo}(s:Xg (dX B p) K H U Z):Xg B K H U Z:=
 #[s.len,s.nd,λa h=>s.bn a (.inl h),λa h=>s.ba a (.inl h),s.al,λi a c f e=>(s.cel i a c f e).ev (λb o h n=>#[h,λy=>n (y.elim (λy=>.inl (.inl y)) .inr)]) (λ_ _ h=>h) λ_ h=>h]
def v9{own:br Str}{fv:br (Str×Nat)}{g:TG}{tc:TT}{te:TE}{gt:Ec}{s:wF}{k:dA}{n:Nat}{fj:br Nat}{J:It}{Q:VK}{ds:br D}(hn:own.length=n)(hf:fv.map (·.2)=fj)
  (hg:ML K E g gt) (ht:xW K E tc s) (he:c8 K E te k) (s1:Xg B K S X Z1) (sl1:Zg (ow B X Z1) K S X M ρ) (it:A0 K J (ow B X Z1) S ds) (w1:WS K E B S X Z1 (PQ B K Q) ((cR gt s k ds (gj n fj ρ) Z1 []).bind λxs T=>.ok (.rf T.length) (T++[.lst xs]))):
  ∀D,S D=Wh->LJ J D (kA own fv M) g tc te S λH'=>Q (.ref D) H':=by
 intro p hD;let slc:Zg (ow B X Z1) K S X (kA own fv M) (gj n fj ρ):=PP hn hf sl1;generalize qr:cR gt s k ds (gj n fj ρ) Z1 []=rr at w1;by_cases w:rr=.bad
 .subst w;show w1.elim
 .
  let hB:¬B p:=λz=>s1.bn p z hD;let evH:∀{Y:br Wo} {T:bA} {H':Hp},Yn X Z1 S Y T H'->Ev (ow B X Z1) S (ow (dX B p) Y T) H':=λe b o h n=>#[e.kp b o h λz=>n (.inr z),λz=>by
   rcases z with(z|z)|z
   .show n (.inl z)
   .rw[z,hD]at h;ext h
   .show(e.lv b z).elim (λq=>n (.inr q)) λq=>by rw[h]at q;ext q]
  show#[λi m σ' H'=>m=ds.length - i/\i<=ds.length/\∃Y T ρc acc ys,Yn X Z1 S Y T H'/\Xg (dX B p) K H' Y T/\Zg (ow (dX B p) Y T) K H' Y σ' ρc/\H' p=lD (.lst ys)/\Zh (ow (dX B p) Y T) K H' Y ys acc/\cR gt s k (ds.drop i) ρc T acc=rr,
   #[_,W,Xq _,X,Z1,gj n fj ρ,[],[],Yn.same (cU hD _),s1.hide hD,?_,aY,.nil,qr],?_]
  .show#[slc.1,λj x hx=>let#[v,h1,h2]:=slc.2 j x hx;#[v,h1,h2.ev (evH (Yn.same (cU hD _))) λ_ _ h=>h]]
  .rintro i m σ2 L ⟨rfl,hi,Y,T,ρ2,acc,ys,e2,s2,sl2,hy,vy,f⟩
   let(go,stop):=it (ow (dX B p) Y T) L (evH e2) s2.noO;by_cases A:i<ds.length
   .let(g1,g2):=go i A
    show .inr #[g1,λσ5 F=>i+1<=ds.length/\∃Y T ρc acc ys,Yn X Z1 S Y T F/\Xg (dX B p) K F Y T/\Zg (ow (dX B p) Y T) K F Y σ5 ρc/\F p=lD (.lst ys)/\Zh (ow (dX B p) Y T) K F Y ys acc/\cR gt s k (ds.drop (i+1)) ρc T acc=rr,
     λσ5 F #[h1,h2]=>#[ds.length - (i+1),by ext,W,h1,h2],λx H3 y=>?_]
    let(s3,d,hd,dv):=g2 x H3 y;let ed:ds.drop i=d::ds.drop (i+1):=by let(_,q):=Wj.mp hd;rw[YF A,q]
    rw[ed]at f;unfold cR at f;let e3:Yn Y T L Y T H3:=Yn.same s3;let kD:∀{αx αy:br Wo} {Zx Zy:bA} {Hx Hy:Hp} {o:HO},Xg (dX B p) K Hx αx Zx->Yn αx Zx Hx αy Zy Hy->Hx p=lD o->Hy p=lD o:=λsx ex h=>ex.kp _ _ h λ#[i,c,q,_]=>sx.ba p (.inr W) i q;let t:∀{I:br Wo} {Z3:bA} {H3:Hp} {z:Xc} {C:bA},Yn X Z1 S I Z3 H3->RS.er z C=rr->∀c dx R H',Yn I Z3 H3 R C H'->Xg (dX B p) K H' R C->XOk K (ow (dX B p) R C) H' c dx z->E c dx H':=λ{I Z3 H3 z C} e3 q c dx R H' e s' x'=>by subst q;show w1 c dx R H' (e3.trans e) s'.ahT (XOk.sub (λb y=>y.elim (λy=>.inl (.inl y)) .inr) x')
    show hg (dX B p) σ2 H3 Y T ρ2 x (.fz d) _ (s2.grow s3) (sl2.YV e3) dv ?_;cases qg:gt (.fz d) ρ2 T with
    |er z C=>rw[qg]at f;show t (e2.trans e3) f
    |bad=>rw[qg]at f;show w f.symm
    |ok l Z4=>
     rw[qg]at f;intro α4 H4 e4 s4 σ4 sl4;show ht (dX B p) σ4 H4 α4 Z4 l _ s4 sl4 ?_;let f:((s l Z4).bind λb T=>if b=Wl then(k l T).bind λx Z3=>(if acc.length<1000000 then cR gt s k (ds.drop (i+1)) l Z3 (acc++[x])else .bad)else cR gt s k (ds.drop (i+1)) l T acc)=rr:=f;cases qt:s l Z4 with
     |er z C=>rw[qt]at f;show t (e2.trans (e3.trans e4)) f
     |bad=>rw[qt]at f;show w f.symm
     |ok b Z5=>
      rw[qt]at f;intro α5 F e5 s5;let N:=sl4.YV e5;let u:=e3.trans (e4.trans e5);cases b with
      |false=>let f:cR gt s k (ds.drop (i+1)) l Z5 acc=rr:=f;show#[A,α5,Z5,l,acc,ys,e2.trans u,s5,N,kD s2 u hy,Zh.YV u vy,f]
      |true=>
       let f:((k l Z5).bind λx Z3=>(if acc.length<1000000 then cR gt s k (ds.drop (i+1)) l Z3 (acc++[x])else .bad))=rr:=f;rw[av W];show he (dX B p) σ4 F α5 Z5 l _ s5 N ?_;cases qe:k l Z5 with
       |er z C=>rw[qe]at f;show t (e2.trans u) f
       |bad=>rw[qe]at f;show w f.symm
       |ok x6 Z6=>
        rw[qe]at f;intro G H6 e6 s6 v6 hv6;let f:(if acc.length<1000000 then cR gt s k (ds.drop (i+1)) l Z6 (acc++[x6])else .bad)=rr:=f;by_cases P:acc.length<1000000
        .rw[av P]at f;let e36:=u.trans e6;let hy6:H6 p=lD (.lst ys):=kD s2 e36 hy;let vy6:=Zh.YV e36 vy;let em:Ev (ow (dX B p) G Z6) H6 (ow (dX B p) G Z6) (bW H6 p (.lst (ys++[v6]))):=Ev.mut (.inl (.inr W)) _;let sl6:=N.YV e6;show#[ys,hy6,vf (by rw[vy6.length];show P),A,G,Z6,l,acc++[x6],ys++[v6],(e2.trans e36).dd hD,s6.amE hy6,#[sl6.1,λj x hx=>let#[v,h1,h2]:=sl6.2 j x hx;#[v,h1,h2.ev em λ_ _ h=>h]],aY,E6 (Paired.aax vy6 λ_ _ r=>r.ev em λ_ _ h=>h) (hv6.ev em λ_ _ h=>h),f]
        .rw[ax P]at f;show a7 f.symm w
   .let e:i=ds.length:=by ext
    subst e;rw[ZL (Ww _)]at f;let f:RS.ok acc T=rr:=f;subst f;show .inl #[stop,?_];show w1 (Y++[p]) L #[λi a h=>jI (e2.pre i a h),e2.kp,λb z=>(yF s2.len z).elim (e2.lv b) λz=>.inr (by rw[z];show hD)] (s2.adopt hy vy hB) (.ref p) #[p,by rw[<-s2.len];show aO,W]
def Q4{A C:Type}{P:C->G Wo->bA->Hp->Prop}{r:RS A}{k:A->bA->C}{m:A->bA->bA}(w:WS K E B H U Z P ((iw r).bind λa o=>.ok (k a o) (m a o))):WS K E0 B H U Z P (r.bind λa o=>.ok (k a o) (m a o)):=by
 cases r with
 |ok a o=>show w
 |er x o=>show w.elim
 |bad=>show w
def eV{own:G Str}{h:G (Str×Nat)}{a:TI}{g:TG}{e:TT}{b:TE}{i:MG}{gt:Ec}{c:wF}{k:dA}{n:Nat}{d:G Nat}(u:own.length=n)(q:h.map (·.2)=d)
  (x:Ra K E a i) (p:ML K E0 g gt) (o:xW K E0 e c) (r:c8 K E0 b k):c8 K E (u9 own h a g e b) (eC n d i gt c k):=by
 intro B M H U Z ρ Q s f w;show x B M H U Z ρ _ s f (WS.imp (WS.bind w) λds X Z1 S t l j J m=>?_);show v9 u q p o r l (f.YV t) m (Q4 j)
def dL(N:Nat)(g:gl):jA:=λxs Z=>(g (xs.map lD++Wz (N - xs.length) Wh) Z).bind λa Z1=>match a with
 |.rt x=>.ok x Z1
 |.nx _=>.ok (.fz .none) Z1
 |_=>.bad
def Jk{N:G Str}{c:G V}{xs:G SV}(h:Zh O K H U c xs):Zg O K H U (L2.start N c) (xs.map lD++Wz (N.length - xs.length) Wh):=by
 let b:c.length=xs.length:=Paired.length h;ext L2.start;show#[by rw[Wm,Wm,Wg,Wg,Xl,Xl,b],λi x a=>?_];by_cases hi:i<xs.length
 .rw[WB (by rw[Wg];show hi),Wv]at a
  cases q:xs[i]? with
  |none=>rw[q]at a;ext a
  |some d=>rw[q]at a;ext a;let(v,e,f):=D1 h q;show#[v,?_,f];rw[WB (by rw[Wg,b];show hi),Wv,e];rfl
 .rw[Xb (by rw[Wg];ext),YR]at a;split at a<;>ext a
def CB{N:G Str}{c:G V}{xs:G SV}{g:gl}{t:TS}{Q:VK}{n:Nat}(f:rH K E t g)(h:dJ K n (dL N.length g) c H Q E):t {nx:=λ_ H'=>Q .YM H',rt:=Q} (L2.start N c) H:=by
 let(l,B,U,Z,xs,s,e,w):=h;show f B _ H U Z _ _ s (Jk e) (WS.imp (WS.bind w) λi X Z1 S m b a=>?_);cases i with
 |rt x=>show WS.now (E:=E) b a
 |nx ρ=>show λM j=>WS.now (E:=E) b a .YM .YM
 |bk ρ=>show a.elim
 |ct ρ=>show a.elim
end
def V4{P:WX}{w:Xm}{K:Ld}{d:Str->I B}{base:Heap}{x a:Str}{b:YK}{f:M}{fd:XF}{N c:G Str}{k n m:Nat}{g:gl}{i:jA}(F:Zl K x a b f fd)(S:YW N c (aG b))(u:c.length=n)(hm:N.length=m)(p:i=dL m g)
  (q:∀(e:B) (A:W8) (outer:G Env) (s:Ws) (H:Hp) (E:XK),YL k (A.deeper (W6 a (aG b) s.heap.objs.size f e))->
   ∃t,PSs (gM ef P w K d base N a (aG b) f e A outer s H E).nox (cY b) t/\rH K E t g):FnOk P w K d base ef (k+1) f fd c (dJ K n i):=by
 subst p hm;show F.ok S (λr H Q E h=>h.1.trans u.symm) (λe A outer s H r Q E o h=>?_);let(t,j,l):=q e A outer s H E o;show#[t,j,CB (xs:=[]) l h]
def Vw{P:WX}{w:Xm}{K:Ld}{d:Str->bP Wi}{base:Heap}{x a:Str}{b:YK}{f:M}{fd:XF}{N c:br Str}{k n m:Nat}{g:gl}{l:jA}(F:Zl K x a b f fd)(S:YW N c (aG b))(D:c.length=n)(hm:N.length=m)(v:l=dL m g)
  (z:∀(e:Wi) (A:W8) (outer:br Env) (s:Ws) (H:Hp) (E:XK),YL k (A.deeper (W6 a (aG b) s.heap.objs.size f e))->
   ∃t,PSs (gM (L4.jp P w) P w K d base N a (aG b) f e A outer s H E) (cY b) t/\rH K E t g):FnOk P w K d base (L4.jp P w) (k+1) f fd c (dJ K n l):=by
 subst v hm;let(G,C,kV,y,B,I,e,ct,o,rfl,p,j):=F.ex;show Mi p j S (λJ H Q E h=>h.1.trans D.symm) λA outer s H J Q E u i=>?_;let(t,q,r):=z e A outer s H E u;show#[t,q,CB (xs:=[]) r i]
abbrev NM(P:WX)(w:Xm)(K:Ld)(b:Str->I B)(base:Heap)(k:Nat)(x:Str)(a:G Str)(n:Nat)(F:jA):Prop:=Bp P w K b base k x a (dJ K n F)
end L10
namespace PySem.W
open PySem PySem.Calls PyProof.Rows PyProof.V PySem.Spec
section
variable{Y:WX}{w:Xm}{A:W8}{E:Wi->Ws->Prop}{s:Ws}{T:String}{r d:Wo}{n:Nat}{P:Nat->Wi->Prop}{X:Heap->Prop}
def collect_kdl(K:KdlSrc Y w T r d n P X)(m:A.handled=U)(XY:X s.heap)(u:n<=WG)
  (q:∀c k acc,(∀b o,s.heap.get? b=lD o->c.get? b=lD o)->ans P acc n->Q acc.toList {s with heap:=c,toks:=k}):wpAny (model Y w) A (collect (.ref r)) Q E s:=by
 let f:=K.there _ XY;ext collect;show Wf (wpAny_runValue (ZM F.entry_proto_collect ?_));rw[W8.under_plainId F.plain_proto_collect _];show Wf (Xx ?_);show Wt #[ZJ F.plain_list_iadd _,ZM F.entry_list_iadd ?_];rw[W8.under_plainId F.plain_list_iadd _];let p:(s.heap.push {cls:=.type "list",data:=.seq ([]:G B).toArray}).get? s.heap.objs.size=lD {cls:=.type "list",data:=.seq ([]:G B).toArray}:=cN _ W;show kdl_extend (R:=wants (λv j=>wpAny (model Y w) A (match v with|.ref a=>(load a>>=λo=>match o.data with|.seq xs _=>pure xs.toList|_=>unsupported "internal:collect")|_=>unsupported "internal:collect") Q E j) E) (s:={s with heap:=s.heap.push {cls:=.type "list",data:=.seq ([]:G B).toArray}}) K m (K.keep _ _ XY λb _ o e=>cj _ e) _ (XX f.1) (XX f.2) _ 0 p (λc k i t l g h=>?_) u;show Wf (ahv g ?_);show Wt (q c k i (λb o e=>l b o (WZ (cn e)) (cj _ e)) h)
end
end PySem.W
namespace PyProof.Rows
open PySem
section
variable{Y:WX}{w:Xm}{A:W8}{E:Wi->Ws->Prop}{s:Ws}{T:String}{r d:Wo}{n:Nat}{P:Nat->Wi->Prop}{X:Heap->Prop}
def Dl(K:PySem.W.KdlSrc Y w T r d n P X)(p:A.handled=U)(XY:X s.heap)(l:n<64)(t:∀acc:Array Wi,ans P acc n->IntsAre acc.toList ns)
  (h:∀(a c:Heap) (g:Nat) (out:Array Wi) (e:Nat) (f:G Int),(∀b o,s.heap.get? b=R o->a.get? b=R o)->c.get? a.objs.size=R (seqObj "list" out e)->(∀b o,a.get? b=R o->c.get? b=R o)->IntsAre out.toList f->f.Perm ns->f.Pairwise (·<=·)->Q (.ref a.objs.size) {s with heap:=c,toks:=g}):
  wpAny (model Y w) A (call (.builtin "sorted") [.ref r]) Q E s:=by
 show Calls.call_function_entry kind_sorted plain_sorted entry_sorted (args_sorted1 _) (Wf (Wt (Wf (PySem.W.collect_kdl K p XY (by rw[YO];ext) (λa g acc m C=>Wf (anr ?_ (hsz:=by rw[XD,C.1,YO];ext)))))));let i:(a.push (seqObj "list" acc.toList.toArray 0)).get? a.objs.size=R (seqObj "list" acc.toList.toArray 0):=cN _ W;let j:=t acc C;show Wf (X2 (Ym slot_list_sort #[_,i,W] entry_list_sort (list_sort_tree i j (by rw[XD,C.1];show l) λout f y v u=>#[_,W,Wt #[_,W,?_]]) (args_list_sort _)));let(e,q):=vQ i;show h a _ g out e f m q (λb B z=>tI (WZ (cn z)) (cj _ z)) y v u
end
end PyProof.Rows
namespace L10
open PySem PySem.Spec PyProof.Rows L2 L3
def UX(p d:M):HO:=.ext λh=>h.IsValuesView p d
theorem TY(x:h.IsValuesView p d):ObjOk g w H h p (UX p d):=#[x,let#[o,a,_]:=x;#[o,a],λf e #[o,a,b] k=>#[o,k o a,b]]
def QB:V->G V->Hp->VK->Prop:=λx b H Q=>∃a e,x=.ref a/\b=[]/\H a=R (.dK e)/\∀p,H p=U->Q (.ref p) (bW H p (UX p a))
def xx:TL X "dict.values" QB:=by intro g s m H x xs v n Q I i f h;let(a,r,rfl,rfl,e,q):=h;ext i;ext f;let(z,l,p,j,dd):=BF I.XY e;show adi aau dd.typeIs PySem.F.entry_dict_values (PySem.F.args_dict_values_1 _) (meets_dict_values (dY X.prog X.w) a l) #[#[p,dd],?_];show#[.ref s.heap.objs.size,_,I.laid (λb o e=>cj _ e) (Ww _) (TY #[_,cN _ W,W,W]),W,q _ (I.XY.fresh (Ww _))]
def My:G V->Hp->VK->Prop:=λxs H Q=>∃p a b,xs=[.ref p]/\H p=R (UX p a)/\H a=R (.dK b)/\∀l,H l=U->Q (.ref l) (bW H l (.lst (b.map (·.2))))
theorem EZ:∀{b:G (e×V)} {a:G (e×B)},KV b a->Vals (b.map (·.2)) (a.map (·.2))
 |_,_,.nil=>.nil
 |_,_,.cons h t=>.cons h.2 (EZ t)
def wz(n:X.calm=P):Zf X (.type "list") My:=by intro g s C H xs E Q I r h;let(p,a,N,rfl,w,e,q):=h;let(u,rfl,l):=mn r;ext l;let(z,G,S,b,dd):=BF I.XY e;let(K,B):=dd.dictAt;let(i,_,_):=I.XY p _ w;show PySem.W.kdl_call (PySem.W.kdl_values) (I.ok.hd n) #[i,B] (by rw[<-b.length];show z) λJ F f c m t L=>?_;let A:=PySem.W.kdl_vals_eq f.toList (by rw[XD];show L.1) λj v y=>L.2 j v (by rw[<-aer];show y);show#[.ref s.heap.objs.size,_,I.laid (o:=.lst (N.map (·.2))) m (Ww _) #[by rw[Wg];show z,f.toList,c,by rw[A];show EZ b,by rw[Array.toArray_toList];show t],W,q _ (I.XY.fresh (Ww _))]
def LQ:G V->Hp->VK->Prop:=λxs H Q=>∃(p:M) (e:G (dI×V)) (a:G Int),xs=[.ref p]/\H p=R (.dK e)/\e.map (·.1)=a.map Sum.inl/\a.length<64/\∀(l:M) (b:G Int),H l=U->b.Perm a->b.Pairwise (·<=·)->Q (.ref l) (bW H l (.lst (b.map V.int)))
theorem vJ:∀{c:G (dI×B)} {ns:G Int} {us:G B},c.map (·.1)=ns.map Sum.inl->us.length=c.length->(∀(j:Nat) (u:B),us[j]?=R u->∃k x,c[j]?=R (k,x)/\(dY prog w).is k u=P)->IntsAre us ns
 |[],[],[],_,_,_=>.nil
 |[],[],_::_,_,h,_=>by simp at h
 |[],_::_,_,h,_,_=>by simp at h
 |_::_,[],_,h,_,_=>by simp at h
 |_::_,_::_,[],_,h,_=>by simp at h
 |(k,y)::c,n::ns,u::us,i,m,l=>by rw[WL,WL,aoS]at i;let(g,x,e,b):=l 0 u W;ext e;let f:=i.1;subst f;let(t,rfl):=Wi.isInt_shape (show Wi.isInt n u=P from b);show .cons _ _ (vJ i.2 (by simpa using m) λj a e=>l (j+1) a (by simpa using e))
def uM(E:X.calm=Wl):Zf X (.builtin "sorted") LQ:=by
 intro i s O H xs P Q I r h;let(p,W3,l,rfl,e,J,F,q):=h;let(u,rfl,t):=mn r;ext t;let(z,C,vs,b,dd):=BF I.XY e;let(U,M):=dd.dictAt;let m:vs.map (·.1)=l.map Sum.inl:=by rw[<-b.keys];show J
 let S:vs.length=l.length:=by let:=eh abx m;simpa using this
 show Dl (PySem.W.kdl_dict C) (I.ok.hd E) M () (λN Y=>vJ m (by rw[XD];show Y.1) λj v K=>Y.2 j v (by rw[<-aer];show K)) λG T R f L w A B g Y n y=>?_;let a:=n.length_eq;let o:=I.kept (t':=s.toks) A;show#[.ref G.objs.size,_,o.laid g (Ww _) ?_,W,q _ w (o.XY.fresh (Ww _)) n y];show#[?_,f.toList,L,kY Y,B];rw[Wg,a];let:(64:Nat)<=WG:=by decide
 ext
end L10
namespace PySem
open Sem (wp)
namespace F
def lk_tuple_keys:typeLookup (.type "tuple") "keys"=pure U:=by rw[aj1,agn];kernel_rfl
def lk_tuple_hook:typeLookup (.type "tuple") "__getattr__"=pure U:=by rw[aj1,agn];kernel_rfl
def sub_ae:isSubtype (.type "AttributeError") (.type "AttributeError")=pure P:=by rw[isSubtype_type];kernel_rfl
end F
section
variable{Y:WX}{w:Xm}{A:W8}{E:Wi->Ws->Prop}{h:Heap}{g:Array abu}{d:afs}{t:Nat}{X:aep}{a:Wo}{o:Obj}
def CK{α:Type}{name f:Str}{Q:α->Ws->Prop}{E:B->Ws->Prop}(hm:f.length<=WG)(l:A.handled=U)(i:∀e c k,(∀b o,h.get? b=R o->c.get? b=R o)->(#[c,g,d,k,X]:Ws).TypeIs e "AttributeError"->E e #[c,g,d,k,X]):
  wpAny (model Y w) A (raiseAttrError (.ref a) name f:Sem α) Q E #[h,g,d,t,X]:=by
 let j:¬f.length>WG:=Nat.not_lt.mpr hm;unfold raiseAttrError newExc newTuple
 repeat (any_goals (first|assumption|wp_step))
 show adW (a:=P) F.sub_ae ?_
 repeat (any_goals (first|assumption|wp_step))
 show ag8 l (i _ _ _ (λb o e=>?_) ?_)
 .show(da _ _ (d3 (WZ (cn (cj _ e))))).trans (cj _ (cj _ e))
 .show#[_,dk _ (cN _ W) W,W]
def rT{f:Tok}{Q:Fin->Ws->Prop}{E:B->Ws->Prop}{p:Array B}{n:Nat}{i:Array (I B)}(j:h.get? a=R #[.type "tuple",U,.seq p n,i])(m:A.handled=U)(l:∀e c k,(∀b o,h.get? b=R o->c.get? b=R o)->(#[c,g,d,k,X]:Ws).TypeIs e "AttributeError"->E e #[c,g,d,k,X]):
  wpAny (model Y w) A (W7.«object.__getattribute__» #[[.ref a,.str "keys" f],[]]) Q E #[h,g,d,t,X]:=by
 let q:(#[h,g,d,t,X]:Ws).TypeIs (.ref a) "tuple":=#[_,j,W];let r:=F.lk_tuple_keys
 repeat (any_goals (first|assumption|wp_step))
 show CK (by left) m l
def wU{f:Tok}{Q:B->Ws->Prop}{E:B->Ws->Prop}{u:Array B}{n:Nat}{l:Array (I B)}(i:h.get? a=R #[.type "tuple",U,.seq u n,l])(q:A.handled=U)(m:∀e c k,(∀b o,h.get? b=R o->c.get? b=R o)->(#[c,g,d,k,X]:Ws).TypeIs e "AttributeError"->E e #[c,g,d,k,X]):
  wpAny (model Y w) A (getAttrBy (.ref a) (.str "keys" f) Wu) Q E #[h,g,d,t,X]:=by
 let r:(#[h,g,d,t,X]:Ws).TypeIs (.ref a) "tuple":=#[_,i,W];let z:=F.slot_tuple_getattribute.lookup;let y:=F.slot_tuple_getattribute.bind (.ref a);let v:=F.lk_tuple_hook
 repeat (any_goals (first|assumption|wp_step))
 show aal F.slot_tuple_getattribute.plain F.entry_tuple_ga (F.slot_tuple_getattribute.check _ _ _ _ _ _ _ _ r (F.args_tuple_getattribute_2 _ _) (rT i q λe c k p j=>?_));let fs:=F.sub_ae;show wpAny (model Y w) A (getattributeRaised (Wi.ref a) (Wi.str (Str.ofString "keys") f) (Wi.type "tuple") e U Wu Wu) Q E _;ext getattributeRaised;show Wf (adG j fs ?_)
 repeat (any_goals (first|assumption|wp_step))
 show m e c k p j
def tX(f:h.get? a=R #[.type "tuple",U,.seq q n,p])(l:A.handled=U)(i:∀c k,(∀b o,h.get? b=R o->c.get? b=R o)->Q U #[c,g,d,k,X]):
  wpAny (model Y w) A (getAttr? (.ref a) "keys") Q E #[h,g,d,t,X]:=by
 unfold getAttr? getAttrBy?;let fs:=F.sub_ae;show Wf ?_
 repeat (any_goals (first|assumption|(specialize wU f l λe c k j m=>?_)|wp_step))
 show i c k j
namespace F
theorem entry_upd_loop:entryFor table "dict.update.loop"=R W7.«dict.update.loop»:=entryFor_of_tree (by kernel_rfl)
def plain_upd_loop:plainId "dict.update.loop"=P:=by left
end F
end
section
variable{prog:WX}{w:Xm}{A:W8}{E:Wi->Ws->Prop}{s:Ws}{K:Type}[DecidableEq K]{knd:KeyKind prog w K}{I dd Y:Wo}{Z:Array Wi}{ks:br (K×Wi)}{R:adE->Ws->Prop}
def Cs(a:G (K×B))(k:K)(v:B):(stored a k v).length<=a.length+1:=by
 ext stored;split
 .rw[Wg];ext
 .rw[Wm];show Ww _
theorem sS:∀(a c:G (K×B)),(merged c a).length<=c.length+a.length
 |[],c=>Ww _
 |p::r,c=>by let e:=sS r (stored c p.1 p.2);let b:=Cs c p.1 p.2;show(merged (stored c p.1 p.2) r).length<=_;rw[WJ];ext
def D4(a:G (K×B)):(merged [] a).length<=a.length:=by let:=sS a [];simpa using this
def Ma{S:Heap}(D:A.handled=Wh)(J:Y≠I)(Q:I≠dd)(P:Y≠dd)(d:∀(i:Nat) (v:Wi),Z[i]?=lD v->∃q key k x,v=.ref q/\q≠dd/\q≠I/\ks[i]?=lD (k,x)/\knd.is k key=Wl/\S.IsTuple q #v[key,x])(hs:ks.length=Z.size)(hz:Z.size<=WG)
  (V:∀c l,c.DictOf knd dd (merged [] ks)->(∀b o,b≠dd->b≠I->S.get? b=lD o->c.get? b=lD o)->R (.ok (.ret .none)) {s with heap:=c,toks:=l}):
  ∀(m i:Nat) (h:Heap) (l:Nat),Z.size - i=m->i<=Z.size->h.IsTupleIter I Y i->h.IsTuple Y Z->h.DictOf knd dd (merged [] (ks.take i))->(∀b o,b≠dd->b≠I->S.get? b=lD o->h.get? b=lD o)->
   codeAny (model prog w) A (.builtin "dict.update.loop" #[[.ref dd,.ref I,rawInt i,.none],[]]) R {s with heap:=h,toks:=l}:=by
 let W:=Walks.tuple (prog:=prog) (w:=w) (A:=A.in1) D I Y J Z;intro m
 induction m with
 |zero=>
  intro i h l hm hi C y u t;let e:i=Z.size:=by ext
  subst e;show ZM F.entry_upd_loop ?_;rw[W8.under_plainId F.plain_upd_loop _];show Wf (W.done _ _ _ #[C,y] λc f g=>?_);rw[aa5 ()]at u;show Wf (Wt (Wt ?_));show V c f (u.at λo e=>g dd o (by simp;show λz=>Q z.symm) e) λb o j a e=>g b o (by simp;show a) (t b o j a e)
 |succ m ih=>
  intro i h l hm hi C y u t;let r:i<Z.size:=by ext
  show ZM F.entry_upd_loop ?_;rw[W8.under_plainId F.plain_upd_loop _];show Wf (W.item i _ _ _ r #[C,y] λv c f hv X g=>?_);let(q,key,k,x,rfl,H,n,M,L,ht):=d i v hv;let G:=ht.at λo e=>g q o (by simp;show n) (t q o H n e);let U:=u.at λo e=>g dd o (by simp;show λz=>Q z.symm) e;let B:=λb o j a e=>g b o (by simp;show a) (t b o j a e);let(oq,p,O,nq,N):=G;let(cq,dq,dtq,slq):=oq;ext O;ext N;let hT:({s with heap:=c,toks:=f}:Ws).TypeIs (.ref q) "tuple":=#[_,p,rfl];show Wf (X2 (Wf ?_));show ach ?_;ext W7.Dict.pairItems;show Wf (Z7 hT ?_);rw[av ()];show Wf ?_;unfold seqItems?;show Wf (ahv p (Wt (Wt ?_)));show X2 (wpAny_dictSet_pairs L U (λa d2 s2=>?_) ?_)
  .show Wt #[ZJ F.plain_upd_loop _,?_];let T:∀b o,b≠dd->c.get? b=lD o->a.get? b=lD o:=λb o hb e=>(s2.2 b hb).trans e;show ih (i+1) a (f+1) () r (X.1.at λo e=>T I o Q e) (X.2.at λo e=>T Y o P e) ?_ λb o j a e=>T b o j (B b o j a e);rw[merged_take_succ [] ks i (k,x) M];show d2
  .let:(merged [] (ks.take i)).length<=(ks.take i).length:=D4 _;rw[XT]at this;ext
end
end PySem
namespace PySem
open Sem (wp)
open PyProof.Rows
section
variable{T:WX}{w:Xm}{A:W8}{E:Wi->Ws->Prop}{s:Ws}{K:Type}[DecidableEq K]{X:KeyKind T w K}{Y:Wo}{Z:Array Wi}{S:br (K×Wi)}{R:adE->Ws->Prop}
def tM(B:A.handled=U)(z:s.heap.get? Y=lD #[.type "tuple",U,.seq Z n,sl])(H:S.length=Z.size)(D:Z.size<=WG)
  (I:∀(i:Nat) (v:Wi),Z[i]?=lD v->∃q key k x,v=.ref q/\S[i]?=lD (k,x)/\X.is k key=P/\s.heap.IsTuple q #v[key,x])
  (h:∀c d,c.DictOf X s.heap.objs.size (merged [] S)->(∀b o,s.heap.get? b=lD o->c.get? b=lD o)->Q (.ref s.heap.objs.size) {s with heap:=c,toks:=d}):
  wpAny (model T w) A (call (.type "dict") [.ref Y]) Q E s:=by
 show callType_codes (Q₁:=λobj f=>obj=.ref s.heap.objs.size/\f={s with heap:=s.heap.push {cls:=.type "dict",data:=.dict #v[]}}) F.kt_called_dict (F.kt_typeCall_dict_1 _) F.entry_dict_init (kt_code_dict_new _ #[W,W]) ?_;rintro obj f ⟨rfl,rfl⟩;let a:(s.heap.push {cls:=.type "dict",data:=.dict #v[]}).DictOf X s.heap.objs.size []:=Heap.DictOf.new s.heap;let g:(s.heap.push {cls:=.type "dict",data:=.dict #v[]}).get? Y=lD #[.type "tuple",U,.seq Z n,sl]:=cj _ z;let J:({s with heap:=s.heap.push {cls:=.type "dict",data:=.dict #v[]}}:Ws).TypeIs (.ref Y) "tuple":=#[_,g,W];show#[a.typeIs,F.args_dict_init_2 _ _,?_];unfold W7.«dict.__init__»;show Wf ?_;ext W7.Dict.selfAndRest;show Wf (ago a.typeIs ?_);show Wt ?_;show wpAny _ _ (W7.Dict.updateFrom "dict.__init__" s.heap.objs.size (.ref Y) [] .none) _ _ _;ext W7.Dict.updateFrom;show Wf (Z7 J ?_);rw[av ()];show Wf (tX g B λc C m=>?_);rw[av (show(U:bP Wi).isNone=P from rfl)];show Wf (aai ?_);let l:=m _ _ g;let t:c.IsTuple Y Z:=#[_,l,W,n,W];show Wf (ab0 t ?_);show Wt #[ZJ F.plain_upd_loop _,?_];let TK:s.heap.objs.size<c.objs.size:=by let(o,_,_,p,_):=a;show cn (m _ _ p)
 let j:=cn z;show Ma (A:=A.in1) (knd:=X) B (WZ (ZQ j TK)) (XX TK) (WZ j) (λi v e=>?_) H D (λu r N G=>?_) Z.size 0 _ C () (Xq _) #[_,cN _ W,W,W] #[_,cj _ l,W,n,W] ?_ λb o _ _ e=>e
 .let(q,key,k,x,rfl,M,u,o,p,L):=I i v e;let y:=cn p;show#[q,key,k,x,W,WZ y,WZ (ZQ y TK),M,u,o,cj _ (m _ _ (cj _ p)),L]
 .show#[W,h u r N λb o e=>?_];let lb:=cn e;show G b o (WZ lb) (WZ (ZQ lb TK)) (cj _ (m _ _ (cj _ e)))
 .let:=a.at (h':=c.push {cls:=.type "tuple_iterator",data:=.fields #v[.ref Y,.int 0 0]}) λo e=>cj _ (m _ _ e);show this
end
end PySem
namespace L10
open PySem PySem.Spec PyProof.Rows L2 L3
inductive adC(K:Ld)(H:Hp):G V->G (dI×V)->Prop
 |nil:adC K H [] []
 |cons {q:M} {k:dI} {v:V} {vs:G V} {W3:G (dI×V)}:SqT K H q [kV k,v]->adC K H vs W3->adC K H (.ref q::vs) ((k,v)::W3)
def Km(K:Ld):G V->Hp->VK->Prop:=λxs H Q=>∃p a b,xs=[.ref p]/\SqT K H p a/\adC K H a b/\∀d,H d=U->Q (.ref d) (bW H d (.dK (sK [] b)))
theorem JF(I:Inv X pins σ H s):∀{j:G V} {z:G (dI×V)} {us:G B},adC X.K H j z->Vals j us->∃d:G (dI×B),KV z d/\d.length=us.length/\∀(i:Nat) (v:B),us[i]?=R v->∃q key k x,v=.ref q/\d[i]?=R (k,x)/\(dY X.prog X.w).is k key=P/\s.heap.IsTuple q #v[key,x]
 |_,_,_,.nil,.nil=>#[[],.nil,W,λi v e=>by simp at e]
 |_,_,_,.cons (q:=q) (k:=k) (v:=v) h t,.cons r rs=>by
  let(d,p,o,n):=JF I t rs;let(y,A,pl,_):=I.tuple h;ext r;obtain⟨g,f,rfl,m,l⟩:∃g f,y=[g,f]/\RelV (kV k) g/\RelV v f:=by
   cases A with
   |cons a b=>cases b with
    |cons b c=>ext c;show#[_,_,W,a,b]
  show#[(k,f)::d,.cons #[W,l] p,by rw[WJ,WJ,o],λi u e=>?_];cases i with
  |zero=>ext e;show#[q,g,k,f,W,W,xO m,pl]
  |succ i=>show n i u (by simpa using e)
def DU(J:X.calm=Wl):Zf X (.type "dict") (Km X.K):=by
 intro f s L H xs N Q I r h;let(p,M,W3,rfl,z,A,q):=h;let(u,rfl,j):=mn r;ext j;let(U,Y,(o,B,(b,n,G),a),y):=I.ahN z;let(S,g,w,t):=JF I A Y;let(R,P,m,l):=o;ext b;ext G;ext a;let C:=Y.length;let E:=g.length;show tM (I.ok.hd J) B (by rw[WA];show w) (by rw[WA,<-C];show y) (λi v e=>t i v (by simpa using e)) λT O dd F=>?_;show#[.ref s.heap.objs.size,_,I.laid F (Ww _) ?_,W,q _ (I.XY.fresh (Ww _))];show DF ?_ ?_ (KV.merge g .nil) dd
 .let:=pf W3 [];rw[YG]at this;ext
 .show beq_eq_false_iff_ne.mpr (XX I.big)
end L10
namespace L10
open PySem PyProof.Rows L2 L3
def Rh:XS "dict"=R (.type "dict"):=by left
section
variable{B O O':cS}{K:Ld}{E:XK}{H H' R P:Hp}{Y α' U T:br Wo}{Z Z' Z1 X:bA}{S:L2.St}{ρ:bK}{v:V}
def wI:SV->I dI
 |.fz (.int i)=>lD (.inl i)
 |.fz (.str x)=>lD (.inr x)
 |_=>Wh
def uv(e:wI x=lD k)(h:ZC O K H Y v x):v=kV k:=by
 unfold wI at e;split at e
 .ext e;ext h;rfl
 .ext e;ext h;rfl
 .ext e
abbrev yg(O:cS)(K:Ld)(H:Hp)(Y:G M):G (dI×V)->G (dI×SV)->Prop:=Paired (λ(p:dI×V) (q:dI×SV)=>p.1=q.1/\ZC O K H Y p.2 q.2)
def jH(Z:bA):SV->I (Nat×G (dI×SV))
 |.rf i=>match Z[i]? with
  |some (.dct a)=>lD (i,a)
  |_=>Wh
 |_=>Wh
def pK(s:Xg B K H Y Z)(b:ZC (ow B Y Z) K H Y v x)(h:jH Z x=lD (i,o)):Z[i]?=lD (.dct o)/\∃a ws,Y[i]?=lD a/\v=.ref a/\H a=lD (.dK ws)/\yg (ow B Y Z) K H Y ws o:=by
 cases x with
 |fz d=>ext h
 |tp l=>ext h
 |rf j=>
  let(a,n,rfl):=b;unfold jH at h;dsimp only at h;cases q:Z[j]? with
  |none=>rw[q]at h;ext h
  |some c=>
   rw[q]at h;cases c with
   |dct m=>let e:=WE h;ext e;let(ws,g,f):=s.cel i a _ n q;show#[q,a,ws,n,W,g,f]
   |_=>ext h
def lQ(b:G (dI×SV))(k:dI):I SV:=(b.find? λa=>decide (a.1=k)).map (·.2)
def mr(b:G (dI×SV))(k:dI)(x:SV):G (dI×SV):=
 if(b.any λa=>decide (a.1=k))=Wl then b.map (λa=>if a.1=k then(a.1,x)else a)else b++[(k,x)]
def p7(b:G (dI×SV))(k:dI):G (dI×SV):=b.filter λa=>decide (a.1≠k)
theorem ud:∀{ws:G (dI×V)} {c:G (dI×SV)},yg O K H Y ws c->(∀x,lQ c k=lD x->∃v,mB ws k=lD v/\ZC O K H Y v x)/\(lQ c k=Wh->mB ws k=Wh)
 |_,_,.nil=>#[λx e=>(by ext e),λ_=>W]
 |(a,u)::ws,(b,y)::c,.cons #[g,f] t=>by
  ext g;unfold lQ mB;rw[Xv,Xv];by_cases e:a=k
  .simp only[aE e];show#[λx h=>#[u,W,by ext h;show f],λh=>by ext h]
  .simp only[aP e];show ud t
theorem UM:∀{ws:G (dI×V)} {d:G (dI×SV)},yg O K H Y ws d->(ws.any λc=>decide (c.1=k))=d.any λc=>decide (c.1=k)
 |_,_,.nil=>rfl
 |(a,u)::ws,(b,y)::d,.cons #[e,f] t=>by ext e;rw[Z8,Z8,UM t]
theorem Se(f:ZC O K H Y v x):∀{ws:G (dI×V)} {d:G (dI×SV)},yg O K H Y ws d->yg O K H Y (ws.map (λc=>if c.1=k then(c.1,v)else c)) (d.map (λc=>if c.1=k then(c.1,x)else c))
 |_,_,.nil=>.nil
 |(a,u)::ws,(b,y)::d,.cons #[h,g] t=>by
  ext h;rw[WL,WL];by_cases e:a=k
  .rw[av e,av e];show .cons #[W,f] (Se f t)
  .rw[ax e,ax e];show .cons #[W,g] (Se f t)
def Jc(h:yg O K H Y ws e)(r:p.1=q.1/\ZC O K H Y p.2 q.2):yg O K H Y (ws++[p]) (e++[q]):=by
 induction h with
 |nil=>show .cons r .nil
 |cons a _ b=>show .cons a b
def Fy(a:ZC O K H Y v x)(h:yg O K H Y ws b):yg O K H Y (kL ws k v) (mr b k x):=by
 unfold kL mr;rw[UM h];split
 .show Se a h
 .show Jc h #[W,a]
theorem uT:∀{ws:G (dI×V)} {c:G (dI×SV)},yg O K H Y ws c->yg O K H Y (qI ws k) (p7 c k)
 |_,_,.nil=>.nil
 |(a,u)::ws,(b,y)::c,.cons #[g,f] t=>by
  ext g;unfold qI p7;rw[aaW,aaW];by_cases e:a=k
  .let z:decide (a≠k)=Wu:=aP λn=>n e;simp only[z];show uT t
  .let z:=aE e;simp only[z];show .cons #[W,f] (uT t)
def BP(neg:Bool)(a fd:dA):dA:=λρ Z=>(a ρ Z).bind λx Z1=>(fd ρ Z1).bind λo X=>(RS.Xu X (wI x)).bind λk X=>(RS.Xu X (jH X o)).bind λp X=>.ok (.fz (.bool ((lQ p.2 k).isSome !=neg))) X
def KU(h:yg O K H Y ws f):(mB ws k).isSome=(lQ f k).isSome:=by
 let(b,a):=ud h;cases q:lQ f k with
 |none=>rw[a q];rfl
 |some x=>let(u,e,_):=b x q;rw[e];rfl
def MU(p:c8 K E z C)(hd:c8 K E A fd):c8 K E (T9 z A) (BP Wu C fd):=by intro B S H Y Z ρ Q s e w;show p B S H Y Z ρ _ s e (w.bind.imp λx U Z1 R t h g v m=>?_);show hd B S R U Z1 ρ _ h (e.YV t) (g.bind.imp λo T X P y f b u n=>?_);let(k,l,b):=WS.Xu b;let((i,L),j,b):=WS.Xu b;let(_,a,ws,J,rfl,r,q):=pK f n j;show#[a,mB ws k,W,by rw[uv l m];show adK.k r,?_];rw[KU q];show WS.now f b _ ?_;rw[Bool.bne_false];show .bl _
def xm(fd a:dA):dA:=λρ Z=>(fd ρ Z).bind λo Z1=>(a ρ Z1).bind λx X=>(RS.Xu X (wI x)).bind λk X=>(RS.Xu X (jH X o)).bind λp X=>RS.Xu X (lQ p.2 k)
def A1(hd:c8 K E L fd)(t:c8 K E J N):c8 K E (Qy L J) (xm fd N):=by
 intro B S H Y Z ρ Q s e w;show hd B S H Y Z ρ _ s e (w.bind.imp λo U Z1 R G j g u r=>?_);show t B S R U Z1 ρ _ j (e.YV G) (g.bind.imp λx T X P F f b v p=>?_);let(k,m,b):=WS.Xu b;let((i,W3),l,b):=WS.Xu b;let(_,a,ws,ha,rfl,C,A):=pK f (r.YV F) l;dsimp only at b;cases q:lQ W3 k with
 |none=>rw[q]at b;show b.elim
 |some y=>rw[q]at b;let(z,n,h):=(ud A).1 y q;show#[a,z,W,by rw[uv m p,<-n];show adK.k C,WS.now f b z h]
def B9(fd e b:dA):gl:=λρ Z=>(b ρ Z).bind λy Z1=>(fd ρ Z1).bind λo X=>(e ρ X).bind λx a=>(RS.Xu a (wI x)).bind λk a=>(RS.Xu a (jH a o)).bind λp a=>if p.2.length<1000000 then .ok (.nx ρ) (a.set p.1 (.dct (mr p.2 k y)))else .bad
def Ls(hd:c8 K E td fd)(d:c8 K E tk fk)(c:c8 K E tv fv):rH K E (QA td tk tv) (B9 fd fk fv):=by
 intro B S H Y Z ρ D s f w;show c B S H Y Z ρ _ s f (WS.imp (WS.bind w) λy U Z1 R q L I t m=>?_);show hd B S R U Z1 ρ _ L (f.YV q) (WS.imp (WS.bind I) λo T X P p J G u hu=>?_);show d B S P T X ρ _ J (f.YV (q.trans p)) (WS.imp (WS.bind G) λx b g j n A e z Q=>?_);let(k,N,e):=WS.Xu e;let((i,W3),M,e):=WS.Xu e;let(l,a,ws,ha,rfl,g1,C):=pK A (hu.YV n) M;dsimp only at e;by_cases hn:W3.length<1000000
 .rw[av hn]at e;let ev:Ev (ow B b g) j (ow B b g) (bW j a (.dK (kL ws k t))):=rL ha l (by nofun);let F:Yn b g j b (g.set i (.dct (mr W3 k y))) (bW j a (.dK (kL ws k t))):=Yn.put ha l (by nofun) (by nofun);let hl:=Paired.length C;show#[a,_,W,by rw[uv N Q];show afW.k g1 (vf ()),?_];show e b _ F (A.put ha l (by nofun) (by nofun) #[_,aY,Fy ((m.YV (p.trans n)).ev ev λ_ _ h=>h) (Paired.aax C λ_ _ r=>#[r.1,r.2.ev ev λ_ _ h=>h])]) S ((f.YV (q.trans (p.trans n))).YV F)
 .rw[ax hn]at e;show e.elim
def AX(fd a:dA):dA:=λρ Z=>(fd ρ Z).bind λo Z1=>(RS.Xu Z1 (jH Z1 o)).bind λ_ Z1=>(a ρ Z1).bind λx X=>(RS.Xu X (wI x)).bind λk X=>(RS.Xu X (jH X o)).bind λp X=>(RS.Xu X (lQ p.2 k)).bind λy X=>.ok y (X.set p.1 (.dct (p7 p.2 k)))
def Li(hd:c8 K E td fd)(L:c8 K E tk fk):c8 K E (Mx td tk) (AX fd fk):=by intro B S H Y Z ρ Q s j w;show hd B S H Y Z ρ _ s j (w.bind.imp λo U Z1 R e1 m f u n=>?_);let((i0,ai5),G,f):=WS.Xu f;let(_,a,e,_,rfl,N,_):=pK m n G;show#[a,W,.inl #[e,.inl N],?_];show L B S R U Z1 ρ _ m (j.YV e1) (f.bind.imp λx T X P e2 l b v J=>?_);let(k,F,b):=WS.Xu b;let((i,W3),C,b):=WS.Xu b;let(g,a',ws,ha,ea,M,p):=pK l (n.YV e2) C;ext ea;dsimp only at b;let(y,q,b):=WS.Xu b;let(z,I,A):=(ud p).1 y q;let ev:Ev (ow B T X) P (ow B T X) (bW P a (.dK (qI ws k))):=rL ha g (by nofun);let t:Yn T X P T (X.set i (.dct (p7 W3 k))) (bW P a (.dK (qI ws k))):=Yn.put ha g (by nofun) (by nofun);show#[ws,k,z,M,uv F J,I,?_];show b T _ t (l.put ha g (by nofun) (by nofun) #[_,aY,uT (Paired.aax p λ_ _ r=>#[r.1,r.2.ev ev λ_ _ h=>h])]) z (A.YV t)
def rj(s:Xg B K H Y Z)(a:H p=Wh)(w:WS K E B H Y Z (PQ B K Q) (.ok (.rf Z.length) (Z++[c])))(f:∀e:Yn Y Z H (Y++[p]) (Z++[c]) (bW H p o),COk (ow B (Y++[p]) (Z++[c])) K (bW H p o) (Y++[p]) p c):Q (.ref p) (bW H p o):=by let b:Yo H (bW H p o):=cU a _;let e:Yn Y Z H (Y++[p]) (Z++[c]) (bW H p o):=Yn.adu s.len b a;show w _ _ e (s.adu b a (by rw[aY];simp) (f e)) _ #[p,by rw[<-s.len];show aO,W]
def E3(fd:dA):dA:=λρ Z=>(fd ρ Z).bind λo Z1=>(RS.Xu Z1 (jH Z1 o)).bind λp Z1=>.ok (.rf Z1.length) (Z1++[.lst (p.2.map (·.2))])
theorem Bj:∀{ws:G (dI×V)} {a:G (dI×SV)},yg O K H Y ws a->Zh O K H Y (ws.map (·.2)) (a.map (·.2))
 |_,_,.nil=>.nil
 |_,_,.cons h t=>.cons h.2 (Bj t)
def Ar(hd:c8 K E J fd):c8 K E (Hi My (fL (Tm K "dict" QB J) ju)) (E3 fd):=by intro B S H Y Z ρ Q s m w;show hd B S H Y Z ρ _ s m (w.bind.imp λo U Z1 R F h f u t=>?_);let((i,N),q,f):=WS.Xu f;let(C,a,ws,L,rfl,g,A):=pK h t q;show#[.inr (.inr (.inl #[W,.inl #[ws,g]])),a,ws,W,W,g,λp y=>?_];let b:Yo R (bW R p (UX p a)):=cU y _;let n:=h.grow b;let j:=WS.from (Yn.same b) f;show#[p,a,ws,W,aY,b _ _ g,λl z=>?_];show rj n z j λe=>#[_,aY,Bj (Paired.aax A λ_ _ r=>#[r.1,(r.2.YV (Yn.same b)).YV e])]
def CV:dI->I Int
 |.inl i=>lD i
 |.inr _=>Wh
def x4(fd:dA):dA:=λρ Z=>(fd ρ Z).bind λo Z1=>(RS.Xu Z1 (jH Z1 o)).bind λp Z1=>(RS.Xu Z1 (aD CV (p.2.map (·.1)))).bind λa Z1=>if a.length<64 then .ok (.rf Z1.length) (Z1++[.lst ((nK a).map λi=>SV.fz (.int i))])else .bad
theorem uH:∀{b:G dI} {ns:G Int},aD CV b=lD ns->b=ns.map Sum.inl
 |[],_,e=>by ext e;rfl
 |k::r,ns,e=>by
  unfold aD at e;cases k with
  |inr x=>ext e
  |inl i=>
   dsimp only[CV]at e;cases q:aD CV r with
   |none=>rw[q]at e;ext e
   |some a=>rw[q]at e;ext e;rw[WL,<-uH q]
theorem Bt:∀{ws:G (dI×V)} {a:G (dI×SV)},yg O K H Y ws a->ws.map (·.1)=a.map (·.1)
 |_,_,.nil=>rfl
 |_,_,.cons h t=>by rw[WL,WL,h.1,Bt t]
theorem ES(O:cS)(K:Ld)(H:Hp)(Y:G M):∀ns:G Int,Zh O K H Y (ns.map V.int) (ns.map λi=>SV.fz (.int i))
 |[]=>.nil
 |n::r=>.cons (.int n) (ES O K H Y r)
def AD(hd:c8 K E J fd):c8 K E (Hi LQ (fL J ju)) (x4 fd):=by
 intro B S H Y Z ρ Q s h w;show hd B S H Y Z ρ _ s h (w.bind.imp λo U Z1 R F g b u n=>?_);let((i,N),m,b):=WS.Xu b;let(A,a,ws,L,rfl,y,t):=pK g n m;let(f,j,b):=WS.Xu b;by_cases hn:f.length<64
 .rw[av hn]at b;show#[a,ws,f,W,y,by rw[Bt t];show uH j,hn,λl C r q p=>?_];let z:=oj (q.trans (gG f).symm) p (fY f);subst z;show rj g r b λe=>#[_,aY,ES _ _ _ _ _]
 .rw[ax hn]at b;show b.elim
def uV:D->I (dI×SV)
 |.tuple [.int i,d]=>lD (.inl i,.fz d)
 |.tuple [.str x,d]=>lD (.inr x,.fz d)
 |_=>Wh
def yJ:SV->I (G (dI×SV))
 |.fz (.tuple ds)=>aD uV ds
 |_=>Wh
def Hd(e:yJ x=lD a):∃ds,x=.fz (.tuple ds)/\aD uV ds=lD a:=by
 unfold yJ at e;split at e
 .show#[_,W,e]
 .ext e
def pM(c a:G (dI×SV)):G (dI×SV):=a.foldl (λb e=>mr b e.1 e.2) c
def BV(b:dA):dA:=λρ Z=>(b ρ Z).bind λx Z1=>(RS.Xu Z1 (yJ x)).bind λa Z1=>.ok (.rf Z1.length) (Z1++[.dct (pM [] a)])
theorem Ck:∀{m:G V} {ds:G D} {k:G (dI×SV)},L3.Yb O K H m ds->aD uV ds=lD k->∃j,adC K H m j/\yg O K H Y j k
 |_,_,_,.nil,e=>by ext e;show#[[],.nil,.nil]
 |_,_,_,.cons (d:=d) (ds:=ds) h t,e=>by
  unfold aD at e;cases q:uV d with
  |none=>rw[q]at e;ext e
  |some p=>
   rw[q]at e;dsimp only at e;cases l:aD uV ds with
   |none=>rw[l]at e;ext e
   |some k=>
    rw[l]at e;ext e;let(j,i,g):=Ck t l;unfold uV at q;split at q
    .ext q
     cases h with
     |tup h f=>cases f with
      |cons a b=>cases b with
       |cons b c=>ext c;ext a;show#[(.inl _,_)::j,.cons h.1 i,.cons #[W,b] g]
    .ext q
     cases h with
     |tup h f=>cases f with
      |cons a b=>cases b with
       |cons b c=>ext c;ext a;show#[(.inr _,_)::j,.cons h.1 i,.cons #[W,b] g]
    .ext q
theorem Gy:∀{e:G (dI×V)} {f:G (dI×SV)} {ws:G (dI×V)} {c:G (dI×SV)},yg O K H Y e f->yg O K H Y ws c->yg O K H Y (sK ws e) (pM c f)
 |_,_,_,_,.nil,h=>h
 |(a,u)::e,(b,y)::f,_,_,.cons r t,h=>by let(i,g):=r;ext i;show yg O K H Y (sK (kL _ a u) e) (pM (mr _ a y) f);show Gy t (Fy g h)
def Ko(n:c8 K E t y):c8 K E (Hi (Km K) (fL t ju)) (BV y):=by
 intro B S H Y Z ρ Q s f w;show n B S H Y Z ρ _ s f (w.bind.imp λx U Z1 R p g b u l=>?_);let(A,q,a):=WS.Xu b;let(ds,rfl,q):=Hd q;let a:=a;cases l with
 |tup h m=>let(z,j,i):=Ck m q;show#[_,_,z,W,h.1,j,λd o=>rj g o a λe=>#[_,aY,Gy (Paired.aax i λ_ _ r=>#[r.1,r.2.YV e]) .nil]]
end
end L10
namespace PySem
open PyProof.Rows
def oW:I Int->Int->I Int
 |none,x=>R x
 |some m,x=>R (if x>m then x else m)
def Ui:I (Int×Tok)->Array B
 |none=> #v[]
 |some (m,t)=> #v[.int m t,.int m t]
def QD(d:B):I (Int×Tok)->B
 |none=>d
 |some (m,t)=>.int m t
namespace F
def args_maxd(a b:B):checkBuiltinCall "max" #[[a],[("default",b)]]=pure ⟨⟩:=by kernel_rfl
end F
section
variable{prog:WX}{w:Xm}{A:W8}{E:Wi->Ws->Prop}{R:adE->Ws->Prop}{I l S:Wo}{vs:br Wi}{d:Wi}
def ON(hh:A.handled=Wh)(D:l≠I)(r:S≠I)(T:S≠l){s:Ws}:
  ∀{B:br Wi} {ns:br Int},IntsAre B ns->∀(i:Nat) (h:Heap) (N:Nat) (b:bP (Int×Tok)) (c:Nat),vs=vs.take i++B->i<=vs.length->h.IsListIter I l i->h.IsList l vs.toArray->h.get? S=lD {cls:=.type "list",dict:=Wh,data:=.seq (Ui b) c,slots:= #v[]}->
  (∀x N V,V.map (·.1)=ns.foldl oW (b.map (·.1))->(∀a o,a≠I->a≠S->h.get? a=lD o->x.get? a=lD o)->R (.ok (.ret (QD d V))) {s with heap:=x,toks:=N})->
  codeAny (model prog w) A (.builtin "max.loop" #[[.ref I,.none,.ref S],[("default",d)]]) R {s with heap:=h,toks:=N}:=by
 let W:=Walks.list (prog:=prog) (w:=w) (A:=A.in1) hh I l D vs.toArray;intro B ns hi
 induction hi with
 |nil=>
  intro i h N b c u hi it li U M;let e:i=vs.toArray.size:=by rw[W4]at u;let:=eh abx u;rw[XT]at this;rw[WA];ext
  show ZM F.entry_max_loop ?_;rw[W8.under_plainId F.plain_max_loop _];show Wf (Ya U rfl ?_);show Wf (ach (W.done _ _ _ (e▸#[it,li]) λx g y=>?_));let f:=y S _ (by simpa using r) U;cases b with
  |none=>show Wf (aai (Wt ?_));show M x g Wh rfl λa o j z e=>y a o (by simpa using j) e
  |some p=>let(m,t):=p;show Wf (ad9 f rfl (Wf (Zu (Wt ?_))) (hz:=by show 2<=WG;decide));show M _ g (lD (m,t)) rfl λa o j z e=>(da _ _ (d3 z)).trans (y a o (by simpa using j) e)
 | @cons n t ama ajS hr ih=>
  intro i h N b c u hi it li U M;let G:i<vs.toArray.size:=by let:=eh abx u;rw[Wm,XT,WJ]at this;rw[WA];ext
  let Q:vs[i]?=lD (.int n t):=by rw[u,Xb (by rw[XT];ext),XT,ag9 hi,aeA];rfl
  let C:vs=vs.take (i+1)++ama:=by rw[YJ,Q];rw[WY];show u
  let H:i+1<=vs.length:=by rw[WA]at G;show G
  show ZM F.entry_max_loop ?_;rw[W8.under_plainId F.plain_max_loop _];show Wf (Ya U rfl ?_);show Wf (ach (W.item i _ _ _ G #[it,li] λv x g hP L y=>?_));let ev:v=.int n t:=by let X:=hP;rw[List.getElem?_toArray,Q]at X;show(WE X).symm
  subst ev;let f:=y S _ (by simpa using r) U;let K:(toString "max"++toString ".loop":String)= "max.loop":=by decide
  cases b with
  |none=>
   show wpAny _ A.in1 (updateSeq S (λ_=> #v[Wi.int n t,Wi.int n t])>>=_) _ _ _;show Wf (ad9 f rfl ?_);rw[K];show Wt #[ZJ F.plain_max_loop _,ih (i+1) _ g (lD (n,t)) _ C H (L.1.at λo e=>?_) (L.2.at λo e=>?_) (dk _ f rfl) λz q Z Y O=>M z q Z Y λa o j J e=>O a o j J ((da _ _ (d3 J)).trans (y a o (by simpa using j) e))]
   .show(da _ _ r).trans e
   .show(da _ _ T).trans e
  |some p=>
   let(m,t0):=p;show wpAny _ A.in1 (tryCatch (holding [Wi.int n t,Wi.int n t] (richCompare .Gt (Wi.int n t) (Wi.int m t0)>>=_)) _>>=_) _ _ _;let alV:=CmpOf.ints_gt (prog:=prog) (w:=w) (A:=A.in1) (P:=λ(k:Nat) v=>(k=0/\v=Wi.int n t)\/(k=1/\v=Wi.int m t0)) (λk=>if k=0 then n else m) λk v u=>by
    rcases u with⟨rfl,rfl⟩|⟨rfl,rfl⟩
    .show#[t,rfl]
    .show#[t0,rfl]
   show Wf (ach (X2 (Wf (alV 0 1 _ _ _ _ _ (.inl #[rfl,rfl]) (.inr #[rfl,rfl]) ?_))));show Wf (X2 (Yv ?_));show Wf (Zu (Wt ?_));show wpAny _ A.in1 (if decide (n>m)=Wl then _ else _) _ _ _;by_cases hb:n>m
   .rw[av (aE hb)]
    show Wf (ad9 f rfl (Wf (Zu ?_)) (hz:=by show 2<=WG;decide));rw[K];show Wt #[ZJ F.plain_max_loop _,ih (i+1) _ g (lD (n,t)) _ C H (L.1.at λo e=>?_) (L.2.at λo e=>?_) (dk _ f rfl) λz q Z Y O=>M z q Z ?_ λa o j J e=>O a o j J ((da _ _ (d3 J)).trans (y a o (by simpa using j) e))]
    .show(da _ _ r).trans e
    .show(da _ _ T).trans e
    .rw[Y];show _=ajS.foldl oW (lD (if n>m then n else m));rw[av hb];rfl
   .rw[ax (by rw[aP hb];show WM)];show Wf (Zu ?_);rw[K];show Wt #[ZJ F.plain_max_loop _,ih (i+1) _ g (lD (m,t0)) c C H L.1 L.2 f λz q Z Y O=>M z q Z ?_ λa o j J e=>O a o j J (y a o (by simpa using j) e)];rw[Y];show _=ajS.foldl oW (lD (if n>m then n else m));rw[ax hb];rfl
def Ho(n:A.handled=U)(h:s.heap.IsList l vs.toArray)(r:IntsAre vs ns)
  (q:∀c k b,b.map (·.1)=ns.foldl oW U->(∀a o,s.heap.get? a=lD o->c.get? a=lD o)->Q (QD d b) {s with heap:=c,toks:=k}):
  wpAny (model prog w) A (call (.builtin "max") [.ref l] [("default",d)]) Q E s:=by
 let g:l<s.heap.objs.size:=by let(_,e,_):=h;show cn e
 let i:(toString "max"++toString ".loop":String)= "max.loop":=by decide
 show abH (aal F.plain_max F.entry_max (adW (F.args_maxd _ _) ?_));show Wf (adW (show W7.Builtins.bindParams "max" ["key","default"] 0 #[[],[("default",d)]]=pure [U,lD d]from rfl) ?_);show Wf (Wt ?_);show Wf (aaz h ?_);show Wf (Xx ?_);rw[i];let f:(s.heap.push {cls:=.type "list_iterator",data:=.fields #v[.ref l,.int 0 0]}).objs.size=s.heap.objs.size+1:=dt _ _;show Wt #[ZJ F.plain_max_loop _,ON n (WZ g) (by rw[f];show Nat.succ_ne_self _) (by rw[f];show XX (aaL g)) r 0 _ s.toks U 0 W (Xq _) #[_,cj _ (cN _ W),W,W] ((h.push _).push _) (cN _ W) λc k b p m=>?_];show q c k b p λa o e=>?_;let j:=cn e;show m a o (WZ j) (by rw[f];show WZ (aaL j)) (cj _ (cj _ e))
end
end PySem
namespace L10
open PySem PySem.Spec PyProof.Rows L2 L3
def Qg(K:Ld)(i:Int):G V->Hp->VK->Prop:=λxs H Q=>∃(p:M) (a:G Int),xs=[.ref p]/\SqL K H p (a.map V.int)/\Q (.int ((a.foldl oW U).getD i)) H
def Gc(C:X.calm=P)(B:Gl X "max")(hm:X.mg "max"=U)(c:PA X [l] S)(g:UK l=Wu:=by rfl):
  PE X (.Call (.Name "max" p) [l] [#[R "default",.Constant (.int i) j p1,p2]] pos) (Hi (Qg X.K i) S):=by
 intro e s n H Q I h;show Y2 (pW I B hm Bh (callWith_kw (de (c pos e s n H _ I h) λG o #[Y,F,f,v,w]=>?_) (by rw[wY _ _ _ g];rfl) (by rw[wY _ _ _ g];rfl) W W));let(a,y,rfl,z,q):=w;let(u,rfl,r):=mn v;ext r;let(N,T,pl,L):=f.list z;show aj2 (aht (aj3 ?_));let O:=f.tok (o.toks+1);show Ho (f.ok.hd C) pl.isList (lH T) λM J b E A=>?_;show#[.int ((y.foldl oW U).getD i),F,f.kept A,?_,q];rw[<-E];cases b with
 |none=>show#[_,W]
 |some p=>let(m,t):=p;show#[t,W]
def Mb(i:Int):G D->I RV
 |[.list ds]=>(my ds).map λa=>.fz (.int ((a.foldl oW U).getD i))
 |_=>U
def Fu{K:Ld}:Iv K (Qg K i) (Mb i):=by
 intro O H xs ds r Q n f e q;unfold Mb at e;split at e
 .rename_i m
  cases f with
  |cons l j=>
   ext j;cases o:my m with
   |none=>rw[o]at e;ext e
   |some b=>rw[o]at e;ext e;let(a,p,rfl,h,g):=Du l;obtain rfl:=nZ g o;show#[a,b,W,h.sq,q.at (.int _)]
 .ext e
end L10
namespace L10
open PySem L2 L3
section
variable{B O O':cS}{K:Ld}{E:XK}{H H' H1 H2:Hp}{X Y T α2:br Wo}{Z U Z1 Z2:bA}{σ:L2.St}{ρ:bK}{v:V}
def jr{l r:G A}(h:(l++r)[i]?=R y):l[i]?=R y\/∃j,i=l.length+j/\r[j]?=R y:=by
 by_cases hi:i<l.length
 .rw[WB hi]at h;show .inl h
 .rw[Xb ()]at h;show .inr #[i - l.length,by ext,h]
def NA{l r:G A}{i:Nat}(h:l[i]?=R y):(l++r)[i]?=R y:=by rw[WB (Wj.mp h).1];show h
def J4{l r:G A}(h:r[i]?=R y):(l++r)[l.length+i]?=R y:=by rw[Xb (),aa3];show h
def JV(g:X.length=Z.length)(h:Lv (X++l) (Z++cs) b):Lv X Z b\/b∈l:=by
 let(i,d,f,e,a):=h;rcases jr f with g1|⟨j,n,g1⟩
 .rcases jr e with g2|⟨k,m,g2⟩
  .show .inl #[i,d,g1,g2,a]
  .let:=(Wj.mp g1).1;ext
 .show .inr (WC g1)
theorem Yn.adN(s:Xg B K H X Z)(e:Yo H H')(f:∀p∈ps,H p=Wh):Yn X Z H (X++ps) (Z++cs) H':=
 #[λi a h=>NA h,λb u q _=>e b u q,λb z=>(JV s.len z).imp id λz=>f b z]
def Xg.adN(s:Xg B K H X Z)(e:Yo H H')(f:∀p∈ps,H p=Wh)(m:∀p∈ps,H' p≠Wh)(nd:∀(i j:Nat) (a:M),ps[i]?=R a->ps[j]?=R a->i=j)(t:ps.length=cs.length)
  (new:∀(i:Nat) (a:M) (c:Cell),ps[i]?=R a->cs[i]?=R c->COk (ow B (X++ps) (Z++cs)) K H' (X++ps) a c):Xg B K H' (X++ps) (Z++cs):=by
 let ev:Yn X Z H (X++ps) (Z++cs) H':=Yn.adN s e f;let n:∀b,H b≠Wh->H' b≠Wh:=λb h z=>h (e.free z);show#[by rw[Wm,Wm,s.len,t],λi j a g l=>?_,λa h=>n a (s.bn a h),λa h i q=>?_,λi a h=>?_,λi a d g l=>?_]
 .rcases jr g with g1|⟨A,u,g1⟩<;>rcases jr l with g2|⟨y,C,g2⟩
  .show s.nd i j a g1 g2
  .show a7 (f a (WC g2)) (s.al i a g1)
  .show a7 (f a (WC g1)) (s.al j a g2)
  .let:=nd A y a g1 g2;ext
 .rcases jr q with q|⟨j,_,q⟩
  .show s.ba a h i q
  .show s.bn a h (f a (WC q))
 .rcases jr h with h|⟨j,_,h⟩
  .show n a (s.al i a h)
  .show m a (WC h)
 .let r:=s.len
  rcases jr l with g2|⟨j,C,g2⟩
  .rcases jr g with g1|⟨k,u,g1⟩
   .show(s.cel i a d g1 g2).ev ev.ev ev.pre λo q=>e _ _ q
   .let:=(Wj.mp g2).1;ext
  .rcases jr g with g1|⟨k,u,g1⟩
   .let:=(Wj.mp g1).1;ext
   .let:k=j:=by ext
    subst this;show new k a d g1 g2
def Iw(U:bA):Nat->G AV->I (G AV×G (G D)×G Nat)
 |_,[]=>R ([],[],[])
 |n,.fz d::r=>match Iw U n r with
  |some (l,cs,a)=>R (.fz d::l,cs,a)
  |none=>Wh
 |n,.rf i::r=>match sh U (.rf i)with
  |some (.list ds)=>(match Iw U (n+1) r with
   |some (l,cs,a)=>R (.rf n::l,ds::cs,i::a)
   |none=>Wh)
  |_=>Wh
def Va(ds:G D):Cell:=.lst (ds.map .fz)
def uC(x:SV)(U Z:bA):RS SV:=match x with
 |.fz d=>.ok (.fz d) Z
 |.rf i=>(match sh U (.rf i)with
  |some (.list ds)=>mX Z (.ow ds)
  |_=>.bad)
 |.tp l=>(match Iw U Z.length l with
  |some (a,cs,b)=>if b.Nodup then .ok (.tp a) (Z++cs.map Va)else .bad
  |none=>.bad)
def zu(h:sh Z (.rf i)=R (.list ds)):∃xs,Z[i]?=R (.lst xs)/\aD Ak xs=R ds:=by
 unfold sh at h;dsimp only at h;cases q:Z[i]? with
 |none=>rw[q]at h;ext h
 |some c=>
  rw[q]at h;cases c with
  |lst xs=>
   dsimp only at h;cases b:aD Ak xs with
   |none=>rw[b]at h;ext h
   |some a=>rw[b]at h;ext h;show#[xs,W,b]
  |_=>ext h
def pO(s:Xg B K H X Z)(h:sh Z (.rf i)=lD (.list ds)):∃a c,X[i]?=lD a/\H a=lD (.lst c)/\L3.Yb (ow B X Z) K H c ds/\ow B X Z a:=by let(xs,b,f):=zu h;let(a,l):=s.at b;let(c,j,g):=s.cel i a _ l b;show#[a,c,l,j,mV (eS (R:=ZC (ow B X Z) K H X) (λv x y r e=>Df r e) g f),.inr #[i,_,l,b,by intro z;ext z]]
theorem Jw{o:cS}(s:Xg o K H' Y U):∀{n:Nat} {l u:br AV} {cs:br (br D)} {g:br Nat} {xs:br V},Iw U n l=R (u,cs,g)->Paired (AOk (ow o Y U) K H' Y) xs l->
  ∃c:br Wo,c.length=g.length/\cs.length=g.length/\(∀(k j:Nat),g[k]?=R j->∃a ds x,c[k]?=R a/\cs[k]?=R ds/\Y[j]?=R a/\H' a=R (.lst x)/\L3.Yb (ow o Y U) K H' x ds/\ow o Y U a)/\
   ∀(b:br Wo),b.length=n->Paired (AOk (ow o Y U) K H' (b++c)) xs u
 |_,[],_,_,_,_,e,.nil=>by ext e;show#[[],W,W,λk j h=>by simp at h,λb _=>.nil]
 |n,.fz d::r,u,cs,g,_,e,.cons h t=>by
  unfold Iw at e;cases q:Iw U n r with
  |none=>rw[q]at e;ext e
  |some p=>let(I,F,w):=p;rw[q]at e;ext e;let(c,C,A,z,y):=Jw s q t;show#[c,C,A,z,λb f=>.cons h (y b f)]
 |n,.rf i::r,u,cs,g,_,e,.cons h t=>by
  unfold Iw at e;cases Q:sh U (.rf i)with
  |none=>rw[Q]at e;ext e
  |some d=>
   rw[Q]at e;cases d with
   |list ds=>
    dsimp only at e;cases q:Iw U (n+1) r with
    |none=>rw[q]at e;ext e
    |some p=>
     let(I,F,w):=p;rw[q]at e;ext e;let(c,C,A,z,y):=Jw s q t;let(a,x,S,J,M,L):=pO s Q;show#[a::c,by rw[WJ,WJ,C],by rw[WJ,WJ,A],λk j G=>?_,λb f=>?_]
     .cases k with
      |zero=>ext G;show#[a,ds,x,W,W,S,J,M,L]
      |succ k=>show z k j (by simpa using G)
     .let N:b++a::c=(b++[a])++c:=by simp
      let(P,m,rfl):=h;rw[S]at m;ext m;show .cons #[a,by rw[<-f];show J4 (l:=b) (r:=a::c) (i:=0) W,W] ?_;rw[N];show y (b++[a]) (by rw[Wm,f];rfl)
   |_=>ext e
def G5(s:Xg B K H X Z)(w:WS K E B H X Z (PQ B K Q) (uC x U Z))(e':Yn [] [] H Y U H')(D:Xg (ow B X Z) K H' Y U)(I:ZC (ow (ow B X Z) Y U) K H' Y v x):Q v H':=by
 let C:=λb o h=>e'.kp b o h λ#[i,c,q,_]=>by simp at q
 let sub:∀b,ow B X Z b->ow (ow B X Z) Y U b:=λb z=>.inl z;let fr:=λi a c P h2 h3=>(e'.lv a #[i,c,P,h2,h3]).elim (λ#[i,c,q,_]=>by simp at q) id;cases x with
 |fz d=>show w X H' (Yn.same C) (s.grow C) v (DV.ev (Ev.sub sub) I)
 |rf i=>
  unfold uC at w;dsimp only at w;cases qs:sh U (.rf i)with
  |none=>rw[qs]at w;show w.elim
  |some d=>
   rw[qs]at w;cases d with
   |list ds=>let(a,vs,ha,P,hd,L):=pO D qs;let(xs,e,_):=zu qs;let(a',F,rfl):=I;rw[ha]at F;ext F;show wy s w C (fr i a _ ha e (by nofun)) P hd sub L
   |_=>show w.elim
 |tp l=>
  unfold uC at w;dsimp only at w;cases qg:Iw U Z.length l with
  |none=>rw[qg]at w;show w.elim
  |some p=>
   let(l',cs,G):=p;rw[qg]at w;dsimp only at w;by_cases hn:G.Nodup
   .rw[av hn]at w
    let(a,xs,rfl,ht,hl):=I;let(ps,g1,g2,g3,g4):=Jw D qg hl;let A:∀(k:Nat) (b:Wo),ps[k]?=lD b->∃j ds vs,G[k]?=lD j/\cs[k]?=lD ds/\Y[j]?=lD b/\H' b=lD (.lst vs)/\L3.Yb (ow (ow B X Z) Y U) K H' vs ds/\ow (ow B X Z) Y U b:=λk b hb=>by
     let f:k<G.length:=by rw[<-g1];show(Wj.mp hb).1
     let(b',ds,vs,e,y,u,m,t,g):=g3 k _ (Wr f);rw[hb]at e;ext e;show#[_,ds,vs,Wr f,y,u,m,t,g]
    let nB:∀(j:Nat) (b:Wo),Y[j]?=lD b->ow (ow B X Z) Y U b->H b=Wh:=λj b M L=>by
     rcases L with z|⟨i,c,z1,z2,z3⟩
     .show a7 M (D.ba b z j)
     .show fr i b c z1 z2 z3
    let fp:∀p∈ps,H p=Wh:=λp J=>by let(k,f):=Yz.mp J;let(j,ds,vs,e,y,u,m,t,g):=A k p f;show nB j p u g
    let n:∀b,ow B (X++ps) (Z++cs.map Va) b->ow (ow B X Z) Y U b:=λb z=>by
     rcases z with z|z
     .show .inl (.inl z)
     .rcases JV s.len z with z|z
      .show .inl (.inr z)
      .let(k,f):=Yz.mp z;let(j,ds,vs,e,y,u,m,t,g):=A k b f;show g
    let ev:=Yn.adN (cs:=cs.map Va) s C fp;show w (X++ps) H' ev (s.adN C fp (λp J=>?_) (λi j b hi M=>?_) (by rw[Wg,g1,g2]) λi b c hi S=>?_) (.ref a) #[a,xs,W,ht.ev (Ev.sub n),Paired.aax (g4 X s.len) λ_ _ r=>r.ev (Ev.sub n) λ_ _ h=>h]
    .let(k,f):=Yz.mp J;let(j,ds,vs,e,y,u,m,t,g):=A k p f;rw[m];simp
    .let(j1,_,_,R,_,p3,_):=A i b hi;let(j2,_,_,r1,_,r3,_):=A j b M;let:=D.nd j1 j2 b p3 r3;subst this;let N:=(Wj.mp R).1;show(List.getElem?_inj N hn).mp (R.trans r1.symm)
    .let(j,ds,vs,e,y,u,m,t,g):=A i b hi;rw[Wv,y]at S;ext S;show#[vs,m,nt _ _ (t.ev (Ev.sub n))]
   .rw[ax hn]at w;show w.elim
def xM(F:jA)(n:Nat)(xs:G SV)(Z:bA):RS SV:=if xs.length=n then(match aD Ak xs with
 |some ds=>(match F (ds.map .fz) []with
  |.ok x U=>uC x U Z
  |.er x _=>.er x Z
  |.bad=>.bad)
 |none=>.bad)else .bad
def AL(F:jA)(n:Nat)(a:Am):dA:=λρ Z=>(a ρ Z).bind λxs Z1=>iw (xM F n xs Z1)
theorem LA(h:∀a,B a->H a≠Wh):Xg B K H [] []:=#[W,λi j a h=>by simp at h,h,λa h i=>by simp,λi a h=>by simp at h,λi a c h=>by simp at h]
theorem Gb:∀{xs:G SV} {ds:G D},aD Ak xs=R ds->xs=ds.map .fz
 |[],_,e=>by ext e;rfl
 |x::r,ds,e=>by
  unfold aD at e;cases x with
  |fz d=>
   dsimp only[Ak]at e;cases q:aD Ak r with
   |none=>rw[q]at e;ext e
   |some a=>rw[q]at e;ext e;rw[WL,<-Gb q]
  |rf i=>ext e
  |tp l=>ext e
def Jg(s:Xg B K H X Z)(e:Zh (ow B X Z) K H X p xs)(w:WS K E B H X Z (PQ B K Q) (xM F n xs Z)):dJ K n F p H Q E:=by
 unfold xM at w;by_cases hn:xs.length=n
 .rw[av hn]at w
  show#[e.length.trans hn,?_];cases q:aD Ak xs with
  |none=>rw[q]at w;show w.elim
  |some ds=>
   rw[q]at w;dsimp only at w;let l:=Gb q;show#[ow B X Z,[],[],ds.map .fz,LA s.owd,?_,?_]
   .rw[l]at e;show nt _ _ ((IL e).ev (Ev.sub λb z=>z.elim id λ#[i,c,q,_]=>by simp at q))
   .cases m:F (ds.map .fz) []with
    |bad=>rw[m]at w;show w.elim
    |ok x U=>rw[m]at w;show λY H' f j v a=>G5 s w f j a
    |er x U=>
     rw[m]at w;intro c r Y H' f j k;let g:=λb o h=>f.kp b o h λ#[i,c,q,_]=>by simp at q
     show w c r X H' (Yn.same g) (s.grow g) (XOk.sub (λb z=>.inl z) k)
 .rw[ax hn]at w;show w.elim
def xB(c:xU K E h i):c8 K E (mo (dJ K n F) [] E0 h) (AL F n i):=by intro B σ H X Z ρ Q s b w;show c B σ H X Z ρ _ s b (w.bind.imp λxs T Z1 H1 g e a j f=>?_);rw[W4];show Jg e f (WS.e0 a)
def Ux(F:jA):FN:=λds=>match F (ds.map .fz) []with
 |.ok (.fz d) _=>.ok (.fz d)
 |.ok (.rf i) Z=>(match sh Z (.rf i)with
  |some (.list ds)=>.ok (.ow ds)
  |_=>.bad)
 |.ok (.tp _) _=>.bad
 |.er x _=>.er x
 |.bad=>.bad
def R0(h:qC K n (Ux F) vs H Q E):dJ K n F vs H Q E:=by
 let(u,B,ds,A,G,w):=h;show#[u,B,[],[],ds.map .fz,LA A,nt _ _ (G.ev (Ev.sub λb z=>z.elim id λ#[i,c,q,_]=>by simp at q)),?_];unfold Ux at w;cases N:F (ds.map .fz) []with
 |bad=>rw[N]at w;show w.elim
 |er x U=>rw[N]at w;intro c dx Y H' f j k;show w c dx H' (λb o h=>f.kp b o h λ#[i,c,q,_]=>by simp at q) (XOk.sub (λb z=>.inl z) k)
 |ok x U=>
  rw[N]at w;intro Y H' f j v m;let g:=λb o h=>f.kp b o h λ#[i,c,q,_]=>by simp at q
  cases x with
  |fz d=>show w v H' g (DV.ev (Ev.sub λb z=>.inl z) m)
  |tp l=>show w.elim
  |rf i=>
   dsimp only at w;cases L:sh U (.rf i)with
   |none=>rw[L]at w;show w.elim
   |some d=>
    rw[L]at w;cases d with
    |list I=>let(a,p,S,C,y,t):=pO j L;let(xs,r,_):=zu L;let(J,e,rfl):=m;rw[S]at e;ext e;show w a p H' g ((f.lv a #[i,_,S,r,by intro z;ext z]).elim (λ#[i,c,q,_]=>by simp at q) id) C (y.ev (Ev.sub λb z=>z.elim (λz=>.inl z) λz=>by rw[z];show t))
    |_=>show w.elim
end
def cC(P:WX)(w:Xm)(K:Ld)(d:Str->I B)(base:Heap)(a:zK)(k:Nat)(C m:Str)(c:G Str)(sp:Sp):Prop:=
 ∃b f fd,WW K WN C=R (R (.ref b))/\Cls K b/\Meth K b m f/\FnOk P w K d base a k f fd c sp/\Binds K fd c []
def wx(P:WX)(w:Xm)(K:Ld)(d:Str->I B)(base:Heap)(a:zK)(k:Nat)(C:Str)(c:G Str)(sp:Sp):Prop:=
 ∃b f fd,WW K WN C=R (R (.ref b))/\d C=R (.ref b)/\Mk K b f/\FnOk P w K d base a k f fd c sp/\Binds K fd c []
def zQ(K:Ld)(C m:Str)(sp:Sp)(E:XK)(b:TE)(t:TA):TE:=λa H Q=>∃e,WW K WN C=R (R (.ref e))/\xy e m sp [] E b t a H Q
def Ea(K:Ld)(C:Str)(sp:Sp)(E:XK)(t:TA):TE:=λa H Q=>∃b,WW K WN C=R (R (.ref b))/\A6 b sp [] E t a H Q
section
variable{X:Cx}{Y:zK}{E:XK}{k j:Nat}{C m:Str}{ps:br Str}{A:Sp}{o e:XB}{S:br XB}{U:TE}{t:TA}{Z T p:Pos}
def Bw(M:cC X.prog X.w X.K X.mg X.base Y k C m ps A)(n:gH Y X E)(r:YL j X.A)(u:PE X o U)(c:PA X (e::S) t)(g:k<=j:=by decide)
  (eX:W5 (e::S) X.env=(Wu,eval e X.env)::W5 S X.env:=by rfl) (b:(backTo T (W5 S X.env)).any (·.1)=Wu:=by rfl)
  (q:eval (.Call (.Attribute o m Z) (e::S) [] T) X.env=(do
   let N<-eval o X.env
   standAt Z.atName
   let(f,first)<-holding [N] (getMethod N m pl)
   callWith T f first (backTo T (W5 (e::S) X.env)) (backToKw T (keywordEach [] X.env))):=by rfl):PE X (.Call (.Attribute o m Z) (e::S) [] T) (zQ X.K C m A E U t):=by
 let(L,f,G,F,B,z,y,v):=M;intro a s l H Q I #[J,i,h];rw[F]at i;ext i;show Ob u B z y (r.mono g) v .nil n c eX b q a s l H Q I h
def Jj(M:cC X.prog X.w X.K X.mg X.base Y k C m ps A)(l:gH Y X E)(q:YL j X.A)(r:PE X o U)(b:k<=j:=by decide)
  (n:eval (.Call (.Attribute o m Z) [] [] T) X.env=(do
   let L<-eval o X.env
   standAt Z.atName
   let(f,first)<-holding [L] (getMethod L m pl)
   callWith T f first (backTo T (W5 [] X.env)) (backToKw T (keywordEach [] X.env))):=by rfl):PE X (.Call (.Attribute o m Z) [] [] T) (zQ X.K C m A E U ju):=by
 let(J,f,F,B,z,y,v,u):=M;intro a s i H Q I #[G,g,h];rw[B]at g;ext g;show LF r z y v (q.mono b) u .nil l n a s i H Q I h
def GS(M:wx X.prog X.w X.K X.mg X.base Y k C ps A)(q:gH Y X E)(r:YL j X.A)(c:PA X (e::S) t)(g:k+1<=j:=by decide)(u:Gl X C:=by rfl)
  (i:(C==("__debug__":Str))=Wu:=by decide) (v:W5 (e::S) X.env=(Wu,eval e X.env)::W5 S X.env:=by rfl) (b:(backTo T (W5 S X.env)).any (·.1)=Wu:=by rfl):
  PE X (.Call (.Name C p) (e::S) [] T) (Ea X.K C A E t):=by
 let(N,f,J,G,F,B,z,y):=M;intro a s n H Q I #[L,l,h];rw[G]at l;ext l;show PN B z (r.mono g) u F y .nil q c i v b a s n H Q I h
end
section
variable{K:Ld}{E:XK}{C m:Str}{F:jA}{n:Nat}{to:TE}{Y:TA}{T:dA}{X:Am}{L:br Str}
def Jo(a:gS K C L)(f:c8 K E to T)(c:xU K E Y X):c8 K E (zQ K C m (dJ K n F) E to Y) (sW C m F n T X):=by let(g,a,_):=a;show λB b H α Z h Q s e w=>#[g,a,LU a f c B b H α Z h Q s e w]
def uo(a:gS K C L)(f:c8 K E to T)(c:xU K E Y X):c8 K E (zQ K C m (dJ K n F) E0 to Y) (bw C m F n T X):=by let(g,a,_):=a;show λB b H α Z h Q s e w=>#[g,a,HA a f c B b H α Z h Q s e w]
def CA(a:gS K C L)(c:xU K E Y X):c8 K E (Ea K C (dJ K n F) E Y) (Ap C F n X):=by let(f,a,_):=a;show λB b H α Z g Q s e w=>#[f,a,Pv a c B b H α Z g Q s e w]
def MO(a:gS K C L)(c:xU K E Y X):c8 K E (Ea K C (dJ K n F) E0 Y) (xf C F n X):=by let(f,a,_):=a;show λB b H α Z g Q s e w=>#[f,a,Jq a c B b H α Z g Q s e w]
end
section
variable{ρ ρ1 S:bK}{Z T Y X Q:bA}{x y z:SV}{i n:Nat}{d dx dy:D}{ds:br D}{b:Bool}
def bf(h:ρ[i]?=R (R x)):az i ρ Z=.ok x Z:=by ext az;rw[h]
def ai(h:f (cw ρ)=.ok (.fz d,ρ')):ag f ρ Z=.ok (.fz d) Z:=by ext ag;rw[h]
def d5(h:f (cw ρ)=.ok (.ow ds,ρ')):ag f ρ Z=.ok (.rf Z.length) (Z++[.lst (ds.map .fz)]):=by ext ag;rw[h];rfl
def cJ(h:f (cw ρ)=.ok (b,a)):db f ρ Z=.ok b Z:=by ext db;rw[h]
def kP(h:f (cw ρ)=.ok (ds,a)):ii f ρ Z=.ok ds Z:=by ext ii;rw[h]
def cW(g:e ρ Z=.ok (.rf i) T)(h:T[i]?=R (.obj C fs))(a:fs.lookup f=R x):a8 C f e ρ Z=.ok x T:=by ext a8;rw[g,eo];dsimp only;rw[h];dsimp only;rw[av W,a];rfl
def dM(c:g ρ Z=.ok x T)(e:fb ρ T=.ok y Y)(a:qV f x y Y=.ok z X):mq f g fb ρ Z=.ok z X:=by ext mq;rw[c,eo,e,eo,a]
def cZ(h:f dx dy=R (.fz d)):qV f (.fz dx) (.fz dy) Z=.ok (.fz d) Z:=by ext qV;show((RS.Xu Z (f dx dy)).bind λa T=>mX T a)=_;rw[h];rfl
def yP(e:sh Z x=R dx)(a:sh Z y=R dy)(h:f dx dy=R (.fz d)):qV f x y Z=.ok (.fz d) Z:=by ext qV;rw[e,a];show((RS.Xu Z (f dx dy)).bind λg T=>mX T g)=_;rw[h];rfl
def SS(a:sh Z x=U\/sh Z y=U)(j:oX 6 Z x=R dx)(g:oX 6 Z y=R dy)(h:f dx dy=R (.fz d))(hd:Hk d=P):qV f x y Z=.ok (.fz d) Z:=by
 let e:((RS.Xu Z (oX 6 Z x)).bind λdx T=>(RS.Xu T (oX 6 T y)).bind λdy Y=>(RS.Xu Y (f dx dy)).bind λl X=>nU X l)=.ok (.fz d) Z:=by rw[j];show((RS.Xu Z (oX 6 Z y)).bind λdy Y=>(RS.Xu Y (f dx dy)).bind λl X=>nU X l)=_;rw[g];show((RS.Xu Z (f dx dy)).bind λl X=>nU X l)=_;rw[h];show(if Hk d=P then RS.ok (SV.fz d) Z else RS.bad)=_;rw[av hd]
 ext qV;rcases a with a|a
 .rw[a];show e
 .rw[a];cases sh Z x<;>show e
theorem qA:∀ds:G D,aD Ak (ds.map .fz)=R ds
 |[]=>rfl
 |d::r=>by rw[WL];ext aD;rw[qA r];rfl
def dQ(h:Z[i]?=R (.lst (ds.map .fz))):sh Z (.rf i)=R (.list ds):=by ext sh;dsimp only;rw[h];dsimp only;rw[qA];rfl
def bG(h:a ρ Z=.ok (.fz (.bool b)) T):b8 a ρ Z=.ok b T:=by ext b8;rw[h];rfl
def kQ(h:a ρ Z=.ok P T)(k:fb ρ T=r):qL a fb ρ Z=r:=by ext qL;rw[h,eo,av W,k]
def jB(h:a ρ Z=.ok Wu T):qL a fb ρ Z=.ok Wu T:=by ext qL;rw[h,eo,ax WM]
def qD(h:a ρ Z=.ok P T):EJ a fb ρ Z=.ok P T:=by ext EJ;rw[h,eo,av W]
def nu(h:a ρ Z=.ok Wu T)(k:fb ρ T=r):EJ a fb ρ Z=r:=by ext EJ;rw[h,eo,ax WM,k]
def qO(h:a ρ Z=.ok b T):wP a ρ Z=.ok (!b) T:=by ext wP;rw[h];rfl
def xD(h:b8 a ρ Z=.ok P T)(k:fb ρ T=r):Cz a fb ρ Z=r:=by ext Cz;rw[h,eo,av W,k]
def G3(h:b8 a ρ Z=.ok Wu T):Cz a fb ρ Z=.ok (.fz (.bool Wu)) T:=by ext Cz;rw[h,eo,ax WM]
def MQ(h:c ρ Z=.ok P T)(k:a ρ T=r):Tn c a fb ρ Z=r:=by ext Tn;rw[h,eo,av W,k]
def Nh(h:c ρ Z=.ok Wu T)(k:fb ρ T=r):Tn c a fb ρ Z=r:=by ext Tn;rw[h,eo,ax WM,k]
theorem aL:aJ ρ Z=.ok [] Z:=W
def au(c:e ρ Z=.ok x T)(a:fr ρ T=.ok xs Y):am e fr ρ Z=.ok (x::xs) Y:=by ext am;rw[c,eo,a,eo]
def rO(c:e ρ Z=.ok (ds.map .fz) T)(a:ds.length<=1000):oP e ρ Z=.ok (.fz (.tuple ds)) T:=by ext oP;rw[c,eo,Wg,av a];ext UZ;rw[qA];rfl
def P4(c:g ρ Z=.ok xs T)(a:xs.length<=1000)(f:aD Ak xs=U)(e:aD U6 xs=R l):oP g ρ Z=.ok (.tp l) T:=by ext oP;rw[c,eo,av a];ext UZ;rw[f];dsimp only;rw[e];rfl
def QZ(c:e ρ Z=.ok xs T)(a:xs.length<=1000):M5 e ρ Z=.ok (.rf T.length) (T++[.lst xs]):=by ext M5;rw[c,eo,av a]
def nk(c:g ρ Z=.ok xs T)(a:aD (sh T) xs=R ds)(h:f ds=R (.fz d)):kK f g ρ Z=.ok (.fz d) T:=by ext kK;rw[c,eo];ext wL;rw[a];show((RS.Xu T (f ds)).bind λe T=>mX T e)=_;rw[h];rfl
def zY(e:f ρ Z=.ok (ds.map .fz) T)(c:ds.length=n)(a:F ds=.ok (.fz d)):iq F n f ρ Z=.ok (.fz d) T:=by ext iq;rw[e,eo];ext wg;rw[Wg,av c,qA];dsimp only;rw[a];rfl
def zS(e:f ρ Z=.ok (ds.map .fz) T)(c:ds.length=n)(a:F ds=.ok (.ow g)):iq F n f ρ Z=.ok (.rf T.length) (T++[.lst (g.map .fz)]):=by ext iq;rw[e,eo];ext wg;rw[Wg,av c,qA];dsimp only;rw[a];rfl
theorem BN:iw (RS.ok a Z)=.ok a Z:=W
def yD(e:j ρ Z=.ok (.rf i) T)(f:T[i]?=R (.obj C fs))(hm:fs.lookup m=U)(h:l ρ T=.ok xs Y)(c:(SV.rf i::xs).length=n)(g:F (.rf i::xs) Y=.ok x X):bw C m F n j l ρ Z=.ok x X:=by
 let a:pd T C m (.rf i)=P:=by ext pd;dsimp only;rw[f];dsimp only;rw[hm,aE W];rfl
 ext bw;rw[e,eo,av a,h,eo,av c,g];rfl
def Ro(e:f ρ Z=.ok xs T)(c:(SV.rf T.length::xs).length=n)(a:F (.rf T.length::xs) (T++[.obj C []])=.ok (.fz .none) Y):xf C F n f ρ Z=.ok (.rf T.length) Y:=by ext xf;rw[e,eo];ext x0;rw[av c,a,eo,av (show HD (.fz .none)=P from rfl)];rfl
def ck(c:e ρ Z=.ok (.fz dx) T)(a:fb ρ T=.ok (.fz dy) Y)(h:bB dx dy=R (.fz d)):gL e fb ρ Z=.ok (.fz d) Y:=by ext gL;rw[c,eo,a,eo];show cZ h
def vA(a:fo ρ Z=.ok (.rf i) T)(h:T[i]?=R (.lst xs))(f:fe ρ T=.ok x Y)(g:Y[i]?=R (.lst m))(e:m.length<1000000):l6 fo fe ρ Z=.ok (.fz .none) (Y.set i (.lst (m++[x]))):=by
 let l:ic T (.rf i)=R (i,xs):=by ext ic;dsimp only;rw[h]
 let j:ic Y (.rf i)=R (i,m):=by ext ic;dsimp only;rw[g]
 ext l6;rw[a,eo,l];show((fe ρ T).bind _)=_;rw[f,eo,j];show(if m.length<1000000 then _ else _)=_;rw[av e]
def qu(h:Z[i]?=R (.dct a)):jH Z (.rf i)=R (i,a):=by ext jH;dsimp only;rw[h]
def Dg(a:g ρ Z=.ok x T)(hd:fd ρ T=.ok (.rf i) Y)(f:wI x=R k)(e:Y[i]?=R (.dct h)):BP neg g fd ρ Z=.ok (.fz (.bool ((lQ h k).isSome !=neg))) Y:=by ext BP;rw[a,eo,hd,eo,f];show((RS.Xu Y (jH Y (.rf i))).bind _)=_;rw[qu e];rfl
def M0(hd:fd ρ Z=.ok (.rf i) T)(a:j ρ T=.ok x Y)(g:wI x=R k)(f:Y[i]?=R (.dct h))(e:lQ h k=R y):xm fd j ρ Z=.ok y Y:=by ext xm;rw[hd,eo,a,eo,g];show((RS.Xu Y (jH Y (.rf i))).bind _)=_;rw[qu f];show RS.Xu Y (lQ h k)=_;rw[e];rfl
def PB(a:l ρ Z=.ok y T)(hd:fd ρ T=.ok (.rf i) Y)(f:m ρ Y=.ok x X)(h:wI x=R k)(g:X[i]?=R (.dct j))(e:j.length<1000000):B9 fd m l ρ Z=.ok (.nx ρ) (X.set i (.dct (mr j k y))):=by ext B9;rw[a,eo,hd,eo,f,eo,h];show((RS.Xu X (jH X (.rf i))).bind _)=_;rw[qu g];show(if j.length<1000000 then _ else _)=_;rw[av e]
def Ow(hd:fd ρ Z=.ok (.rf i) T)(h:T[i]?=R (.dct m))(a:l ρ T=.ok x Y)(g:wI x=R k)(f:Y[i]?=R (.dct j))(e:lQ j k=R y):AX fd l ρ Z=.ok y (Y.set i (.dct (p7 j k))):=by ext AX;rw[hd,eo,qu h];show((l ρ T).bind _)=_;rw[a,eo,g];show((RS.Xu Y (jH Y (.rf i))).bind _)=_;rw[qu f];show((RS.Xu Y (lQ j k)).bind _)=_;rw[e];rfl
def M9(hd:fd ρ Z=.ok (.rf i) T)(h:T[i]?=R (.dct a)):E3 fd ρ Z=.ok (.rf T.length) (T++[.lst (a.map (·.2))]):=by ext E3;rw[hd,eo,qu h];rfl
def Ov(hd:fd ρ Z=.ok (.rf i) T)(h:T[i]?=R (.dct f))(e:aD CV (f.map (·.1))=R ns)(a:ns.length<64):x4 fd ρ Z=.ok (.rf T.length) (T++[.lst ((nK ns).map λi=>SV.fz (.int i))]):=by ext x4;rw[hd,eo,qu h];show((RS.Xu T (aD CV (f.map (·.1)))).bind _)=_;rw[e];show(if ns.length<64 then _ else _)=_;rw[av a]
def NW(a:f ρ Z=.ok x T)(h:yJ x=R e):BV f ρ Z=.ok (.rf T.length) (T++[.dct (pM [] e)]):=by ext BV;rw[a,eo,h];rfl
variable{L:FlS}{r:RS FlS}
def dD(h:f ρ Z=.ok (.nx ρ1) T)(k:g ρ1 T=r):aX f g ρ Z=r:=by ext aX;rw[h,eo];show k
def sF(h:f ρ Z=.ok (.rt x) T):aX f g ρ Z=.ok (.rt x) T:=by ext aX;rw[h];rfl
def iU(h:c ρ Z=.ok P T)(k:f ρ T=r):dw c f g ρ Z=r:=by ext dw;rw[h,eo,av W,k]
def jT(h:c ρ Z=.ok Wu T)(k:g ρ T=r):dw c f g ρ Z=r:=by ext dw;rw[h,eo,ax WM,k]
def jb(h:f ρ Z=.ok x T):ip f ρ Z=.ok (.rt x) T:=by ext ip;rw[h];rfl
def iH(h:f ρ Z=.ok x T):cr f ρ Z=.ok (.nx ρ) T:=by ext cr;rw[h];rfl
def mP(h:f ρ Z=.ok x T)(e:ρ.set i (R x)=ρ1):cX f (dB i) ρ Z=.ok (.nx ρ1) T:=by subst e;ext cX;rw[h];rfl
theorem jo:eD ρ Z=.ok (.nx ρ) Z:=W
def lB(h:m ρ Z=.ok x T)(a:l ρ T=.ok (.rf i) Y)(j:Y[i]?=R (.obj C fs))(g:fs.length<100):fM C f l m ρ Z=.ok (.nx ρ) (Y.set i (.obj C (eF f x fs))):=by
 let e:KG Y C (.rf i)=R (i,fs):=by ext KG;dsimp only;rw[j];dsimp only;rw[av W]
 ext fM;rw[h,eo,a,eo,e];show(if fs.length<100 then _ else _)=_;rw[av g]
def jQ(h:f ρ Z=.ok x T)(k:frz 4 T x=R (d,Y)):mw f ρ Z=.ok (.fz d) Y:=by ext mw;rw[h,eo];ext PL;rw[k]
def jN(e:xs.map R++Wz (N - xs.length) U=ρ)(h:g ρ Z=.ok (.rt x) T):dL N g xs Z=.ok x T:=by subst e;ext dL;rw[h];rfl
def qU(e:xs.map R++Wz (N - xs.length) U=ρ)(h:g ρ Z=.ok (.nx ρ1) T):dL N g xs Z=.ok (.fz .none) T:=by subst e;ext dL;rw[h];rfl
end
section
variable{ρ S L:bK}{Z X Y J A:bA}{x y z:SV}{i n:Nat}{d u t:D}{ds:br D}{b:Bool}
theorem fZ(e:α->D)(f:α->SV)(Z:bA)(I:bK->Prop):∀(xs:G α) (ρ:bK) (a:G SV),I ρ->a.length+xs.length<=1000000->(∀x∈xs,∀ρ,I ρ->∃c,gt (.fz (e x)) ρ Z=.ok c Z/\ft c Z=.ok P Z/\fe c Z=.ok (f x) Z/\I c)->cR gt ft fe (xs.map e) ρ Z a=.ok (a++xs.map f) Z
 |[],ρ,a,_,_,_=>by show RS.ok a Z=_;rw[Zi,W4]
 |x::r,ρ,a,h0,p,o=>by let(c,m,l,j,h):=o x WK ρ h0;rw[WJ]at p;show((gt (.fz (e x)) ρ Z).bind _)=_;rw[m,eo,l,eo,av W,j,eo,av (),fZ e f Z I r c _ h (by rw[Wm,abp];ext) λy g=>o y (WH _ g),WY];rfl
def gy(c:f ρ Z=.ok ds X)(a:cR gt e g ds (gj n fj ρ) X []=.ok xs Y):eC n fj f gt e g ρ Z=.ok (.rf Y.length) (Y++[.lst xs]):=by ext eC;rw[c,eo,a,BN,eo]
theorem t6(m:Nat):∀(ds:G D),j4 (frz m) Z (ds.map .fz)=R (ds,Z)
 |[]=>rfl
 |d::r=>by rw[WL];ext j4;rw[show frz m Z (.fz d)=R (d,Z) by ext m<;>rfl];dsimp only;rw[t6 m r]
def iE(h:Z[i]?=R (.lst (ds.map .fz))):frz 4 Z (.rf i)=R (.list ds,Z.set i .dead):=by ext frz;rw[h];dsimp only;rw[t6]
def Eb(h:e ρ Z=.ok (.rf i) X)(a:X[i]?=R (.lst (ds.map .fz))):eT e ρ Z=.ok ds (X.set i .dead):=by ext eT;rw[h,eo,iE a];rfl
def GD(h:fe ρ Z=.ok (.fz d) X)(a:eZ d=R ds):eT fe ρ Z=.ok ds X:=by ext eT;rw[h,eo];show RS.Xu X (eZ d)=_;rw[a];rfl
def VG(N C:bK->bA->Prop)(T:SV->bA->Prop):RS FlS->Prop
 |.ok (.nx ρ) Z=>N ρ Z
 |.ok (.ct ρ) Z=>C ρ Z
 |.ok (.rt v) Z=>T v Z
 |_=>False
structure GoS(r:RS FlS)(N C:bK->bA->Prop)(T:SV->bA->Prop):Prop where
 out:VG N C T r
variable{f g:gl}{Q:dA}{N C:bK->bA->Prop}{T:SV->bA->Prop}
def GoS.eq(e:r=r')(h:GoS r' N C T):GoS r N C T:=by rw[e];show h
def vH(h:GoS (f ρ Z) (λr o=>GoS (g r o) N C T) C T):GoS (aX f g ρ Z) N C T:=by
 show#[?_];let h:=h.out;ext aX;cases q:f ρ Z with
 |bad=>rw[q]at h;show h.elim
 |er x o=>rw[q]at h;show h.elim
 |ok a o=>
  rw[q]at h;cases a with
  |nx r=>show(show GoS (g r o) N C T from h).out
  |ct r=>show h
  |rt v=>show h
  |bk r=>show h.elim
def A7(h:c ρ Z=.ok b X)(a:b=P->GoS (f ρ X) N C T)(e:b=Wu->GoS (g ρ X) N C T):GoS (dw c f g ρ Z) N C T:=by
 ext dw;rw[h,eo];cases b with
 |true=>show a W
 |false=>show e W
theorem u8(e:c ρ Z=.ok P X)(a:GoS (f ρ X) N C T):GoS (dw c f g ρ Z) N C T:=A7 e (λ_=>a) λh=>by ext h
theorem fX(e:c ρ Z=.ok Wu X)(a:GoS (g ρ X) N C T):GoS (dw c f g ρ Z) N C T:=A7 e (λh=>by ext h) λ_=>a
def SU(e:Q ρ Z=.ok x X)(a:gt x ρ X=.ok S Y)(h:N S Y):GoS (cX Q gt ρ Z) N C T:=by show#[?_];ext cX;rw[e,eo,a,eo];show h
theorem ra(a:f ρ Z=.ok (.nx S) X)(h:N S X):GoS (f ρ Z) N C T:=#[by rw[a];show h]
theorem T7(a:f ρ Z=.ok (.rt x) X)(h:T x X):GoS (f ρ Z) N C T:=#[by rw[a];show h]
theorem j7(a:Q ρ Z=.ok x X)(h:N ρ X):GoS (cr Q ρ Z) N C T:=ra (iH a) h
theorem SM(a:Q ρ Z=.ok x X)(h:T x X):GoS (ip Q ρ Z) N C T:=T7 (jb a) h
theorem Pp(h:T (.fz .none) Z):GoS (xz ρ Z) N C T:=#[h]
theorem n9(h:N ρ Z):GoS (eD ρ Z) N C T:=#[h]
theorem l7{gt:Ec}(e:Q ρ Z=.ok x X)(a:gt x ρ X=.ok S Y)(h:GoS (g S Y) N C T):GoS (aX (cX Q gt) g ρ Z) N C T:=vH (SU e a h)
theorem Fs(a:f ρ Z=.ok (.nx S) X)(h:GoS (g S X) N C T):GoS (aX f g ρ Z) N C T:=vH (ra a h)
theorem oH(a:Q ρ Z=.ok x X)(h:GoS (g ρ X) N C T):GoS (aX (cr Q) g ρ Z) N C T:=vH (j7 a h)
def BW{h a:gl}(m:c ρ Z=.ok b X)(j:b=P->GoS (aX h g ρ X) N C T)(l:b=Wu->GoS (aX a g ρ X) N C T):GoS (aX (dw c h a) g ρ Z) N C T:=by
 let e:aX (dw c h a) g ρ Z=if b=P then aX h g ρ X else aX a g ρ X:=by unfold aX dw;rw[m,eo];ext b<;>rfl
 show .eq e ?_;cases b with
 |true=>show j W
 |false=>show l W
theorem yQ{a l:gl}(j:c ρ Z=.ok P X)(e:GoS (aX a g ρ X) N C T):GoS (aX (dw c a l) g ρ Z) N C T:=BW j (λ_=>e) λh=>by ext h
theorem vO{l a:gl}(j:c ρ Z=.ok Wu X)(e:GoS (aX a g ρ X) N C T):GoS (aX (dw c l a) g ρ Z) N C T:=BW j (λh=>by ext h) λ_=>e
theorem zR(h:T (.fz .none) Z):GoS (aX xz g ρ Z) N C T:=vH (Pp h)
theorem qY(h:GoS (g ρ Z) N C T):GoS (aX eD g ρ Z) N C T:=vH (n9 h)
def RQ{a e:gl}(h:GoS (aX a (aX e g) ρ Z) N C T):GoS (aX (aX a e) g ρ Z) N C T:=by
 show .eq ?_ h;ext aX;cases a ρ Z with
 |bad=>rfl
 |er x o=>rfl
 |ok j o=>ext j<;>rfl
def S4(a:xs.map R++Wz (n - xs.length) U=ρ)(h:GoS (g ρ Z) (λ_ c=>T (.fz .none) c) (λ_ _=>False) T):∃x c,dL n g xs Z=.ok x c/\T x c:=by
 let h:=h.out;ext dL;rw[a];cases q:g ρ Z with
 |bad=>rw[q]at h;show h.elim
 |er x o=>rw[q]at h;show h.elim
 |ok e o=>
  rw[q]at h;cases e with
  |nx r=>show#[_,_,W,h]
  |ct r=>show h.elim
  |rt v=>show#[_,_,W,h]
  |bk r=>show h.elim
def kH{W:bA->Prop}(a:xs.map R++Wz (n - xs.length) U=ρ)(h:GoS (g ρ Z) (λ_ c=>SV.fz .none=v/\W c) (λ_ _=>False) (λr c=>r=v/\W c)):∃c,dL n g xs Z=.ok v c/\W c:=by let(x,c,l,j,e):=S4 (T:=λr c=>r=v/\W c) a h;show#[c,by rw[l,j],e]
end
end L10
namespace L10
open PySem PySem.SeqAt PySem.Spec PySem.W PyProof.Rows L2 L3
section
variable{K:Ld}{E:XK}
def NS(i:Nat)(c:FE):FE:=λb=>(Res.Xu (CP b[i]?)).bind λ_=>(c b).bind λa=>match a.1 with
 |.ow e=>(Res.Xu (CP a.2[i]?)).bind λds=>if ds.length+e.length<=1000000 then .ok (.fz .none,a.2.set i (R (.ow (ds++e))))else .bad
 |_=>.bad
def IC{i:Nat}{o:TE}{c:FE}(J:EO K E o c):EO K E (Qd K "list" F8 (vG i) (fL o ju)) (NS i c):=by
 intro B X O z H ρ Q R w;let(S,C,w):=w.Xu;let(v,m,a,vs,rfl,g2,g3,L,g5):=R.slot i _ (t7 C);show#[_,m,.inl #[W,_,SqL.of L],?_];show J B X O z H ρ _ R (w.bind.imp λb e U y H1 N n p=>?_);let(pv,A):=b;dsimp only at e n p;cases pv with
 |fz d=>show e.elim
 |pl j=>show e.elim
 |ow M=>
  dsimp only at e;let(ds,f,e):=e.Xu;let f:=t7 f;let(T,g,rfl,m1,m2,F,q,Z):=p;let(Y,u,a',h,P,t,I,G,r):=n.slot i _ f;subst P;rw[m]at u;ext u;by_cases l:ds.length+M.length<=1000000
  .rw[av l]at e;show#[a,T,h,g,W,W,G,F,AQ (by rw[r.length,q.length];show l),?_];show e U .YM _ (N.trans (Ev.mut t _)) (n.mut f m t I (r.append q)) .YM
  .rw[ax l]at e;show e.elim
def Tk{i:Nat}{j:FE}{d c:bC}{a ds h:G D}(g:d[i]?=R (R (.ow a)))(f:j d=.ok (.ow h,c))(e:c[i]?=R (R (.ow ds)))(b:ds.length+h.length<=1000000):NS i j d=.ok (.fz .none,c.set i (R (.ow (ds++h)))):=by ext NS;rw[g,kO,bh,en,f,en];dsimp only;rw[e,kO,bh,en,av b]
def tT(k:Int):G Int->I Nat
 |[]=>U
 |n::r=>if n=k then R 0 else(tT k r).map (·+1)
theorem yd{k:Int}:∀{ns:G Int} {j:Nat},tT k ns=R j->ns[j]?=R k/\∀m,m<j->ns[m]?≠R k
 |[],_,h=>by ext h
 |n::r,j,h=>by
  unfold tT at h;split at h
  .rename_i e;ext h;show#[by rw[<-e];rfl,λm hm=>by ext]
  .rename_i e
   cases q:tT k r with
   |none=>rw[q]at h;ext h
   |some i=>
    rw[q]at h;ext h;let(b,a):=yd q;show#[b,λm hm=>?_];cases m with
    |zero=>intro z;show e (WE z)
    |succ m=>show a m (by let hm:m+1<i+1:=hm;ext)
def P1(K:Ld):V->G V->Hp->VK->Prop:=λx xs H Q=>∃(l:M) (a:G Int) (k:Int) (j:Nat),x=.ref l/\SqL K H l (a.map V.int)/\xs=[.int k]/\a[j]?=R k/\(∀m,m<j->a[m]?≠R k)/\j<1000/\Q (.int (j:Nat)) H
def rY{X:Cx}:TL X "list.index" (P1 X.K):=by
 rintro C s T H x xs v U Q I M f ⟨l,w,k,j,rfl,hl,rfl,hj,hno,hs,q⟩;obtain rfl:v=.ref l:=M;let(u,rfl,g):=f.one;let(t,rfl):=g;let(b,r,(o,n,G,S,Z,A),_):=I.list hl;let J:b.length=w.length:=by let:=r.length;rw[Wg]at this;show this.symm
 let a:∀(m:Nat) (hm:m<b.length),∃t,b[m]=.int (w[m]'()) t:=λm hm=>by let(u,F,g):=r.get (i:=m) (x:=.int (w[m]'())) (by rw[Wv,Wr ()];rfl);let(t,rfl):=g;rw[Wr hm]at F;show#[t,WE F]
 let(Y,P):=Wj.mp hj;let(O,N,p,h):=o;obtain rfl:O=.type "list":=S;obtain rfl:p=.seq b.toArray n:=A;show Y3 XH #[_,G,W] aav (aam _ _) (list_indexAt l b.toArray n N h (.int k t) (Wi.isInt k) j (by rw[WA];ext) () ?_ λm hm lt=>?_) #[G,λy R=>?_,?_]
 .let(t,e):=a j ();rw[Ze,e,P];simp[Wi.isInt]
 .let B:m<b.length:=by rw[WA]at hm;show hm
  let(t,e):=a m B;rw[Ze,e];let:=hno m lt;rw[Wr ()]at this;simp only[Wi.isInt];show beq_eq_false_iff_ne.mpr λz=>this (by rw[z])
 .let(m,hm,rfl):=aby.mp (by simpa using R:y∈b);let(L,e):=a m hm;rw[e];show(MeetsSeq.EqGives.int _ k L t).at _ _
 .show#[.int (j:Nat),H,I.tok _,#[_,W],q]
def Bx(ds:G D)(d:D):I Nat:=match my ds,d with
 |some ns,.int k=>(match tT k ns with
  |some j=>if j<1000 then R j else U
  |none=>U)
 |_,_=>U
def Kt(c:FE)(b:bC):I (I PV)->Res (PV×bC)
 |some (R (.fz (.list ds)))=>(c b).bind λa=>(Res.Xu (tD a.2 a.1)).bind λd=>(Res.Xu (Bx ds d)).bind λj=>.ok (.fz (nd j),a.2)
 |_=>.bad
def yY(i:Nat)(b:FE):FE:=λa=>Kt b a a[i]?
def CS{i:Nat}{p:TE}{c:FE}(G:EO K E p c):EO K E (Qd K "list" (P1 K) (vG i) (fL p ju)) (yY i c):=by
 intro B S O u H ρ Q R w;unfold yY at w;cases T:ρ[i]? with
 |none=>rw[T]at w;show w.elim
 |some o=>
  cases o with
  |none=>rw[T]at w;show w.elim
  |some pv=>
   cases pv with
   |ow ds=>rw[T]at w;show w.elim
   |pl j=>rw[T]at w;show w.elim
   |fz J=>
    cases J with
    |list ds=>
     rw[T]at w;let(v,I,n):=R.slot i _ T;let n:L3.DV O K H v (.list ds):=n;cases n with
     |lst e m=>
      show#[_,I,.inl #[W,_,e.1.sq],?_];show G B S O u H ρ _ R (WR.imp (WR.bind w) λb g N y P r t C=>?_);let(d,A,g):=g.Xu;let(j,a,z):=g.Xu;let h:=kr t C A;unfold Bx at a;cases Y:my ds with
      |none=>rw[Y]at a;ext a
      |some q=>
       rw[Y]at a;cases d with
       |int k=>
        dsimp only at a;cases X:tT k q with
        |none=>rw[X]at a;ext a
        |some F=>
         rw[X]at a;dsimp only at a;by_cases l:F<1000
         .rw[av l]at a
          ext a;let h:y=.int k:=by ext h;rfl
          subst h;let(M,L):=yd X;let f:=e.ev r;let ev:=nZ m Y;rw[ev]at f;show#[_,q,k,_,W,f.1.sq,W,M,L,l,z N _ P r t (.int _)]
         .rw[ax l]at a;ext a
       |_=>ext a
    |_=>rw[T]at w;show w.elim
def IP{i j:Nat}{h:FE}{g c:bC}{pv:PV}{ds:G D}{d:D}(f:g[i]?=R (R (.fz (.list ds))))(e:h g=.ok (pv,c))(b:tD c pv=R d)(a:Bx ds d=R j):yY i h g=.ok (.fz (nd j),c):=by ext yY;rw[f];show(h g).bind _=_;rw[e,en];show(Res.Xu (tD c pv)).bind _=_;rw[b,bh,en,a,bh,en]
end
end L10
namespace L10
open PySem PyProof.Rows L2 L3
section
variable{B O L:cS}{K:Ld}{E:XK}{H J C A:Hp}{u S Q N:br Wo}{Z t T Y:bA}{r:L2.St}{X:bK}{v:V}
def wj{c fb:dA}{y z:SV}{i:Nat}{n:Int}{xs:G SV}(f:c X Z=.ok (.rf i) T)(e:fb X T=.ok y Y)(d:LN y=R n)(a:Y[i]?=R (.lst xs))(b:m9 xs n=R z):gL c fb X Z=.ok z Y:=by ext gL;rw[f,eo,e,eo];ext SY;simp only[a,d];show RS.Xu Y (m9 xs n)=_;rw[b];rfl
end
end L10
namespace L10
open PySem PyProof.Rows L2 L3
section
variable{O Z:cS}{K:Ld}{H X:Hp}{a b:Wo}{T:br V}{Y:Heap->Prop}
def U9(a:M)(O:cS)(H:Hp)(Z:cS)(X:Hp):Prop:=∀b o,b≠a->H b=R o->¬O b->X b=R o/\¬Z b
def acn.evx(i:H a=R (.ext Y))(h:acn O K H b T)(e:U9 a O H Z X):acn Z K X b T:=by
 let(h,k):=h;by_cases z:O b
 .show#[aan.same (oo X) (k z),λ_=>k z]
 .rcases h with(h|⟨o,h⟩)|h
  .let(g,f):=e b _ (λy=>by rw[y,i]at h;ext h) h z;show#[.inl (.inl g),λy=>a7 y f]
  .let(g,f):=e b _ (λy=>by rw[y,i]at h;ext h) h z;show#[.inl (.inr #[o,g]),λy=>a7 y f]
  .show#[.inr h,λ_=>.inr h]
def abg.evx(i:H a=R (.ext Y))(h:abg O K H b T)(e:U9 a O H Z X):abg Z K X b T:=by
 let(h,k):=h;by_cases z:O b
 .show#[(oo X).tup (k z),λ_=>k z]
 .rcases h with(h|⟨o,h⟩)|h
  .let(g,f):=e b _ (λy=>by rw[y,i]at h;ext h) h z;show#[.inl (.inl g),λy=>a7 y f]
  .let(g,f):=e b _ (λy=>by rw[y,i]at h;ext h) h z;show#[.inl (.inr #[o,g]),λy=>a7 y f]
  .show#[.inr h,λ_=>.inr h]
mutual
theorem DV.evx(f:H a=lD (.ext Y))(e:U9 a O H Z X):∀{v:V} {d:D},L3.DV O K H v d->L3.DV Z K X v d
 |_,_,.YM=>.YM
 |_,_,.bl b=>.bl b
 |_,_,.int i=>.int i
 |_,_,.str x=>.str x
 |_,_,.tup h hs=>.tup (abg.evx f h e) (Yb.evx f e hs)
 |_,_,.lst h hs=>.lst (acn.evx f h e) (Yb.evx f e hs)
theorem Yb.evx(f:H a=lD (.ext Y))(e:U9 a O H Z X):∀{vs:br V} {ds:br D},L3.Yb O K H vs ds->L3.Yb Z K X vs ds
 |_,_,.nil=>.nil
 |_,_,.cons h hs=>.cons (DV.evx f e h) (Yb.evx f e hs)
end
end
end L10
namespace PySem
open Sem (wp)
open PyProof.Rows
section
variable{Y:WX}{w:Xm}{A:W8}{E:Wi->Ws->Prop}{s:Ws}{t:Wo}{X:Array (Int×Tok)}
def Lp{k:G B}{ns:G Int}{Q:B->Ws->Prop}(r:A.handled=U)(l:s.heap.IsList t k.toArray)(x:IntsAre k ns)(i:0<ns.length)
  (h:∀d M (u:Tok) c,(∀b o,s.heap.get? b=R o->d.get? b=R o)->M∈ns->(∀a,a∈ns->a<=M)->Q (.int M u) {s with heap:=d,toks:=c}):
  wpAny (model Y w) A (call (.builtin "max") [.ref t]) Q E s:=by
 let(X,e):=x.allInts.items;let f:ns=X.toList.map (·.1):=by rw[<-x.numsOf,<-nums_intItems,<-e]
 let g:0<X.size:=by let m:=i;rw[f,Wg,XD]at m;show m
 rw[e]at l;show max_intList r l g λv d c n p=>?_;let(t,rfl):=intItems_at n;let(z,y):=argBest_gt (numAt X) (X.size - 1);show h _ _ t c p ?_ λa C=>?_
 .rw[f,numAt_eq];show getD_mem (by rw[Wg,XD];ext)
 .rw[f]at C;let(j,q,rfl):=mem_getD C;rw[Wg,XD]at q;rw[<-numAt_eq];show y j ()
end
end PySem
namespace L10
open PySem PySem.Spec PyProof.Rows L2 L3
def Qe(K:Ld):G V->Hp->VK->Prop:=λxs H Q=>∃(a:Wo) (b:G Int),xs=[.ref a]/\SqL K H a (b.map V.int)/\0<b.length/\∀M,M∈b->(∀i,i∈b->i<=M)->Q (.int M) H
def nX{X:Cx}(l:X.calm=P):Zf X (.builtin "max") (Qe X.K):=by intro b s o H xs p Q I r h;let(a,v,rfl,g,z,q):=h;let(u,rfl,f):=mn r;ext f;let(y,e,i,_):=I.list g;show Lp (I.ok.hd l) i.isList (lH e) z λw M u t j n m=>#[.int M,H,I.kept j,#[_,W],q M n m]
def jW:G D->I RV
 |[.list ds]=>(match my ds with
  |some a=>if 0<a.length then R (.fz (.int (HV a)))else U
  |none=>U)
 |_=>U
def t8{K:Ld}:Iv K (Qe K) jW:=by
 intro O H xs ds v Q n m e q;unfold jW at e;split at e
 .split at e
  .rename_i b l
   split at e
   .rename_i t
    ext e;cases m with
    |cons p o=>ext o;let(a,u,rfl,f,r):=Du p;rw[nZ r l]at f;show#[a,b,W,f.sq,t,λM h g=>?_];let(j,i):=zg t;let:M=HV b:=ag7 (i M h) (g _ j);subst this;show q.at (.int _)
   .ext e
  .ext e
 .ext e
end L10
namespace L3
open PySem L2
structure NI(K:Ld)(f:M)(n:Str)(t:YK):Prop where
 a:WW K WN n=R (R (.ref f))
 F:∃fd,Zl K n n t f fd
structure MI(K:Ld)(C f:M)(m q:Str)(t:YK):Prop where
 a:Xy K (.ref C) m=R (R (.ref f))
 i:Zc K (.ref f)=P
 F:∃fd,Zl K m q t f fd
structure CI(K:Ld)(C:M)(n:Str)(fs:G Str):Prop where
 a:WW K WN n=R (R (.ref C))
 pg:ZP K C Str.empty=P
 hd:aaq K C=P
 po:abY K C=P
 sa:Xy K (.ref C) "__setattr__"=R (R (.builtin "object.__setattr__"))
 mm:acD K C=P
 kc:Yh K (.ref C)=P
 fl:∀x∈fs,aaw K C x
def BA(n q:Str)(t:YK)(c:G Str):Prop:=∀(kV b e:B) (f:I M) (g ct:B) (a:G B),a.length=c.length->bindArgs (X6 n q (g8 t) (cY t) (aG t) .none kV b e f g ct) #[a,[]]=pure (c.zip a)
section
variable{P:WX}{w:Xm}{K:Ld}{Y:Str->bP Wi}{base h:Heap}{f C:Wo}{n m q:Str}{t:YK}{T fs:br Str}{Z k:Nat}{Q L:Sp}
theorem CI.cls(c:CI K C n fs):Cls K C:=#[c.pg,c.hd,c.po,c.sa]
theorem CI.cf(c:CI K C n fs):L10.gS K n fs:=#[C,c.a,c.cls,c.fl]
theorem NI.cal(i:NI K f n t)(X:K.In h)(G:h.Ns WN Y)(b:BA n n t T)(ok:∀fd,Zl K n n t f fd->FnOk P w K Y base ef Z f fd T Q):Bp P w K Y base Z n T Q:=
 let#[fd,z]:=i.F;#[f,fd,ok fd z,z.binds b,z.kp,Yt X G i.a]
def NI.law(i:NI K f "law" t)(X:K.In h)(G:h.Ns WN Y)(b:Y "law"=R (.ref fa))(p:BA "law" "law" t [x])(ok:∀base fd,Zl K "law" "law" t f fd->FnOk P w K Y base ef Z f fd [x] Q):∃fd:XF,(∀(s:Ws) (v:Wi),abG s fd #[[v],[]] [(x,v)])/\∀base:Heap,K.In base->base.Ns WN Y->FnOk P w K Y base ef Z fa fd [x] Q:=by let e:=b.symm.trans (Yt X G i.a);ext e;let(fd,z):=i.F;let(A,y,kV,g,j,r,u,ct,l,rfl,B,o):=z.ex;show#[_,λs v=>.of_eq (p kV g j r u ct [v] W),λbase _ _=>ok base _ z]
def Ew(a:YL k A):A.units+65<cLine:=by let:=a.un;ext
theorem Cy(p:SO K E u g)(h:PSs X b u):∃t,PSs X b t/\SO K E t g:=#[_,h,p]
theorem Ao(p:L10.rH K E u g)(h:PSs X b u):∃t,PSs X b t/\L10.rH K E t g:=#[_,h,p]
theorem nI{x a:Str}{b:YK}{fd:XF}{N:G Str}{n m:Nat}{g:FS}{j:FN}(F:Zl K x a b f fd)(S:YW N T (aG b))(c:T.length=n)(hm:N.length=m)(l:j=gI m g)
  (o:∀(e:B) (A:W8) (outer:G Env) (s:Ws) (H:Hp) (E:XK),N.Nodup->YL k (A.deeper (W6 a (aG b) s.heap.objs.size f e))->(A.deeper (W6 a (aG b) s.heap.objs.size f e)).units+64<cLine->(A.deeper (W6 a (aG b) s.heap.objs.size f e)).units+1<cLine->(A.deeper (W6 a (aG b) s.heap.objs.size f e)).units+65<cLine->
   ∃t,PSs (gM ef P w K Y base N a (aG b) f e A outer s H E).nox (cY b) t/\SO K E t g):FnOk P w K Y base ef (k+1) f fd T (qC K n j):=
 V8 F S c hm l λe A outer s H E i=>o e A outer s H E S.nd i i.units (Fx i) (Ew i)
theorem md{n m:Nat}(F:Zl K x qual st f fd)(S:YW N T (aG st))(c:T.length=n)(hm:N.length=m)(e:j=L10.dL m g)
  (i:∀(a:B) (A:W8) (outer:G Env) (s:Ws) (H:Hp) (E:XK),N.Nodup->YL k (A.deeper (W6 qual (aG st) s.heap.objs.size f a))->(A.deeper (W6 qual (aG st) s.heap.objs.size f a)).units+64<cLine->(A.deeper (W6 qual (aG st) s.heap.objs.size f a)).units+1<cLine->(A.deeper (W6 qual (aG st) s.heap.objs.size f a)).units+65<cLine->
   ∃t,PSs (gM ef P w K Y base N qual (aG st) f a A outer s H E).nox (cY st) t/\L10.rH K E t g):FnOk P w K Y base ef (k+1) f fd T (L10.dJ K n j):=
 L10.V4 F S c hm e λa A outer s H E b=>i a A outer s H E S.nd b b.units (Fx b) (Ew b)
theorem OM{W:M}{a:Array B}{g:Nat}{ss:Array (I B)}{xs:G V}{ds:G D}(l:K.lookup W=R #[.type "tuple",U,.seq a g,ss])(e:a.size<=WG)(b:Vals xs a.toList)(hd:∀O H,Yb O K H xs ds):∀O H,DV O K H (.ref W) (.tuple ds):=λO H=>
 .tup (xs:=xs) #[.inr #[_,_,_,l,#[rfl,rfl],rfl,e,b],λ_=>.inr #[_,_,_,l,#[rfl,rfl],rfl,e,b]] (hd O H)
end
end L3
namespace L2
open PySem PySem.Spec PyProof.Rows
section
variable{X:Cx}{e:XB}{Y:TE}{p q T p2:Pos}
def CJ:XS "reversed"=R (.type "reversed"):=by rfl
end
end L2
namespace LD
open PySem PyProof.Rows L2 L3
def mS(xs:G (KD×M×V))(k:KD):I V:=(xs.find? λx=>decide (x.1=k)).map (·.2.2)
def oV(xs:G (KD×M×V))(k:KD)(b:M)(v:V):G (KD×M×V):=
 if(xs.find? λx=>decide (x.1=k)).isSome=P then xs.map (λx=>if x.1=k then(x.1,x.2.1,v)else x)else xs++[(k,b,v)]
abbrev RX:G (KD×M×V)->G (KD×M×B)->Prop:=Paired λx y=>x.1=y.1/\x.2.1=y.2.1/\RelV x.2.2 y.2.2
theorem zh:∀{xs:G (KD×M×V)} {a:G (KD×M×B)},RX xs a->xs.map (·.1)=a.map (·.1)
 |_,_,.nil=>rfl
 |_,_,.cons h t=>by rw[WL,WL,h.1,zh t]
theorem zL:∀{xs:G (KD×M×V)} {a:G (KD×M×B)},RX xs a->aaJ (mS xs k) ((atKey a k).map (·.2))
 |_,_,.nil=>by unfold mS atKey;show trivial
 |x::xs,y::a,.cons h t=>by
  unfold mS atKey;rw[Xv,Xv,h.1];by_cases e:y.1=k
  .rw[aE e];show h.2.2
  .rw[aP e];show zL t
theorem Gz:∀{xs:G (KD×M×V)} {a:G (KD×M×B)},RX xs a->(xs.find? λx=>decide (x.1=k)).isSome=(atKey a k).isSome
 |_,_,.nil=>rfl
 |x::xs,y::a,.cons h t=>by
  ext atKey;rw[Xv,Xv,h.1];by_cases e:y.1=k
  .rw[aE e];rfl
  .rw[aP e];show Gz t
theorem Ks(r:RelV v u):∀{xs:G (KD×M×V)} {a:G (KD×M×B)},RX xs a->RX (xs.map λx=>if x.1=k then(x.1,x.2.1,v)else x) (a.map (putAt k u))
 |_,_,.nil=>.nil
 |x::xs,y::a,.cons h t=>by
  rw[WL,WL];show .cons ?_ (Ks r t);ext putAt;by_cases e:y.1=k
  .rw[av (h.1.trans e),av e];show#[h.1,h.2.1,r]
  .rw[ax (by rw[h.1];show e),ax e];show h
theorem F7(h:x.1=y.1/\x.2.1=y.2.1/\RelV x.2.2 y.2.2):∀{xs:G (KD×M×V)} {a:G (KD×M×B)},RX xs a->RX (xs++[x]) (a++[y])
 |_,_,.nil=>.cons h .nil
 |_,_,.cons g t=>.cons g (F7 h t)
def LS(r:RelV v u)(h:RX xs a):RX (oV xs k b v) (storedH a k b u):=by
 unfold oV storedH;rw[Gz h];split
 .show Ks r h
 .show F7 #[W,W,r] h
def tf(xs:G (KD×M×V))(k:KD)(b:M)(v:V):(oV xs k b v).length<=xs.length+1:=by
 ext oV;split
 .rw[Wg];ext
 .rw[Wm];show Ww _
def u7(K:Ld)(H:Hp)(xs:G (KD×M×V)):Prop:=∀x∈xs,L2.DV K H (.ref x.2.1) x.1.1
section
variable{X:Cx}{Z:br (Wo×Obj)}{Y:L2.St}{H:Hp}{s:Ws}{a b:Wo}{T:br (KD×Wo×V)}{k:KD}{v:V}{u r:Wi}{A:W8}{E:Wi->Ws->Prop}
theorem Qn:∀{T:G (KD×M×V)} {d:G ZV},Paired (λ(x:KD×M×V) (e:ZV)=>e.hash=vg w x.1.1/\e.key=.ref x.2.1/\RelV x.2.2 e.val) T d->∃c,RX T c/\d=c.map (entryOfKey (jX j w))
 |_,_,.nil=>#[[],.nil,W]
 |x::_,e::_,.cons #[m,l,n] t=>by let(c,g,f):=Qn t;show#[(x.1,x.2.1,e.val)::c,.cons #[W,W,n] g,?_];rw[WL,<-f];let(i,h,ev):=e;dsimp only at m l;subst m l;rfl
theorem QI:∀{T:G (KD×M×V)} {f:G (KD×M×B)},RX T f->Paired (λ(x:KD×M×V) (e:ZV)=>e.hash=vg w x.1.1/\e.key=.ref x.2.1/\RelV x.2.2 e.val) T (f.map (entryOfKey (jX g w)))
 |_,_,.nil=>.nil
 |_,_,.cons h t=>.cons #[by rw[h.1];rfl,by rw[h.2.1];rfl,h.2.2] (QI t)
theorem wm(I:L2.Inv X Z Y H s)(h:L2.DV X.K H (.ref b) k.1):(jX X.prog X.w).is s.heap k b:=L2.DV.reads I h W
def Bb(I:L2.Inv X Z Y H s)(e:H a=R (DkO a T))(j:u7 X.K H T):T.length<=WG/\(a==X4)=Wu/\∃c,RX T c/\s.heap.DictOfH (jX X.prog X.w) a c:=by
 let(((z,n,nd),o,L,M,G,F,C,B),_):=(show ObjOk X.prog X.w H s.heap a (DkO a T)from I.XY a _ e);let(c,h,J):=Qn B;show#[z,n,c,h,o,L,M,G,F,C,J,?_,by rw[<-zh h];show nd];let all:∀{l:br (KD×Wo×V)} {m:br (KD×Wo×Wi)},RX l m->(∀x∈l,L2.DV X.K H (.ref x.2.1) x.1.1)->∀y∈m,(jX X.prog X.w).is s.heap y.1 y.2.1:=by
  intro l m q
  induction q with
  |nil=>intro _ y f;show nomatch f
  | @cons p q ps S N t Q=>
   intro g y f;rcases W2.mp f with e|f
   .subst e;let:=wm I (g p (WK ..));rw[N.1,N.2.1]at this;show this
   .show Q (λx i=>g x (WH _ i)) y f
 show all h j
def DM(z:T.length<=WG)(hd:(a==X4)=Wu)(e:RX T J)(dd:L.DictOfH (jX F w) a J):ObjOk F w H' L a (DkO a T):=by let(o,f,g,h,n,m,l,y,j):=dd;show#[#[#[z,hd,by rw[zh e];show j],o,f,g,h,n,m,by rw[l];show QI e],#[o,h],?_];rintro C B ⟨q,o,f,g,t,p⟩ i;show#[q,o,f,g,i o t,p]
def uf(e:A.units+64<cLine):(jX X.prog X.w).room A.in1:=by show A.in1.units+8<cLine;rw[W8.in1_units];ext
def Tg(m:A.units+64<cLine)(I:L2.Inv X Z Y H s)(e:H a=R (DkO a T))(o:u7 X.K H T)(q:L2.DV X.K H (.ref b) k.1)(g:mS T k=R v)(h:∀c d,L2.Inv X Z Y H d->RelV v c->Q c d):
  wpAny (model X.prog X.w) A (getItem (.ref a) (.ref b)) Q E s:=by
 let(z,y,t,i,dd):=Bb I e o;let(c,l,f):=aaJ.some_of (by rw[<-g];show zL i);let(p,n,j):=ZI.mp l;show ahx (uf m) (wm I q) dd n ?_;rw[j];show h c _ (I.tok _) f
def Sl(g:A.units+64<cLine)(I:L2.Inv X Z Y H s)(e:H a=R (DkO a T))(i:u7 X.K H T)(l:L2.DV X.K H (.ref b) k.1)(h:∀c,L2.Inv X Z Y H c->Q (.bool (!(mS T k).isSome)) c):
  wpAny (model X.prog X.w) A (Yl .NotIn (.ref b) (.ref a)) Q E s:=by
 let(z,j,m,f,dd):=Bb I e i;show wpAny_notIn_heap (uf g) (wm I l) j dd ?_;let q:=(zL (k:=k) f).abr;rw[acb]at q;rw[<-q];show h _ (I.tok _)
def RT(m:A.units+64<cLine)(I:L2.Inv X Z Y H s)(e:H a=R (DkO a T))(o:u7 X.K H T)(y:L2.DV X.K H (.ref b) k.1)(d:RelV v r)(C:T.length<WG)(h:∀c,L2.Inv X Z Y (bW H a (DkO a (oV T k b v))) c->Q ⟨⟩ c):
  wpAny (model X.prog X.w) A (setItem (.ref a) (.ref b) r) Q E s:=by
 let(z,t,j,f,dd):=Bb I e o;let l:j.length<=WG:=by rw[<-Paired.length f];show z
 let i:(oV T k b v).length<=WG:=by let:=tf T k b v;ext
 show ahy (hsz:=l) (uf m) (wm I y) dd λB g n=>h _ ?_;let p:∃q,B.get? a=R q:=let#[q,_,_,J,_]:=g;#[q,J]
 show qH I (by rw[e];show True.intro) n p (DM i t (LS d f) g)
def Gd(I:L2.Inv X Z Y H s)(e:H a=R (DkO a T)):s.TypeIs (.ref a) "dict"/\(∀b,Wi.ref a=.ref b->∃c,s.heap.get? b=R c/\c.dict=U)/\(a==X4)=Wu:=by let(((z,h,nd),o,l,m,g,f,j,i),_):=(show ObjOk X.prog X.w H s.heap a (DkO a T)from I.XY a _ e);show#[#[o,g,f.1],λb q=>?_,h];ext q;show#[o,g,f.2.1]
end
section
variable(K:Ld)
def QM(neg:Bool)(ty g:TE):TE:=λf H Q=>ty f H λy h=>g f h λx e=>∃a b xs k,x=.ref a/\y=.ref b/\e a=R (DkO a xs)/\u7 K e xs/\L2.DV K e (.ref b) k.1/\Q (.bl ((mS xs k).isSome !=neg)) e
def Lb(g ty:TE):TE:=λf H Q=>g f H λx h=>ty f h λy e=>∃a b xs k v,x=.ref a/\y=.ref b/\e a=R (DkO a xs)/\u7 K e xs/\L2.DV K e (.ref b) k.1/\mS xs k=R v/\Q v e
def Js(h ty g:TE):TS:=λD e H=>g e H λv j=>h e j λx i=>ty e i λy f=>∃a b xs k,x=.ref a/\y=.ref b/\f a=R (DkO a xs)/\u7 K f xs/\L2.DV K f (.ref b) k.1/\xs.length<WG/\D.nx e (bW f a (DkO a (oV xs k b v)))
def Kn:TE:=λ_ H Q=>∀p,H p=U->Q (.ref p) (bW H p (DkO p []))
end
section
variable{X:Cx}{o i e f Z:XB}{T U tx tv:TE}{pos Y apos Zo:Pos}
def agc(v:X.A.units+64<cLine)(c:PE X i U)(w:PE X o T):PC X .NotIn i o (QM X.K P U T):=by intro g s j H Q I h;show de (c g s j H _ I h) λN m #[y,J,F,n,q]=>de (w g m j J _ F q) λu M a=>?_;let(x,G,E,p,a,b,xs,k,A,z,e,r,t,l):=a;subst A z;obtain rfl:=p;obtain rfl:=n;rw[Bool.bne_true]at l;show Sl v E e r t λL C=>#[.bl _,G,C,W,l]
def af7(C:X.A.units+64<cLine)(F:PE X o T)(c:PE X i U)(E:RM i):PE X (.Subscript o i pos) (Lb X.K T U):=by intro j s m H Q I h;show Et ac7.lookup E (de (F j s m H _ I h) λu p #[x,O,Mz0,r,w]=>de (c j p m O _ Mz0 w) λiv S a=>?_);let(y,N,n,q,a,b,xs,k,v,J,G,e,z,A,g,t):=a;subst J G;obtain rfl:=r;obtain rfl:=q;show#[(Gd n e).1,Tg C n e z A g λP R L l=>#[v,N,L,l,t]]
def afR(E:X.A.units+64<cLine)(G:PE X o T)(c:PE X i U)(C:PE X Z tv)(F:Yc Z (lD (.Subscript o i Y)) pos.line X.env=pure Wu):
  PS X (.Assign [.Subscript o i Y] Z pos) (Js X.K T U tv):=by
 intro g s j H D I h;show afN (de (C g s j H _ I h) λr m #[v,S,Q,rv,w]=>de (G g m j S _ Q w) λu l #[x,R1,Pz0,p,t]=>de (c g l j R1 _ Pz0 t) λiv s3 #[y,H3,O,n,a,b,xs,k,Mz0,L,e,z,A,J,q]=>?_) F;subst Mz0 L;obtain rfl:=p;obtain rfl:=n;show RT E O e z A rv J λs4 N=>#[j,_,N,q]
theorem aej:PE X (.Dict [] [] pos) Kn:=λa s b H Q I h=>
 wpAny_Dict_empty #[.ref s.heap.objs.size,_,I.laid (λ_ _ q=>cj _ q) (Ww _) (DM (Xq _) (beq_eq_false_iff_ne.mpr (d3 (WZ I.big))) .nil (Heap.DictOfH.new s.heap)),W,h _ (I.XY.fresh (Ww _))]
end
mutual
def TK:Wn->Wn->bP Bool
 |.int i,.int j=>lD (decide (i<j))
 |.str x,.str y=>lD (decide (x.cps.toList<y.cps.toList))
 |.tuple xs,.tuple ys=>UT xs ys
 |_,_=>Wh
def UT:br Wn->br Wn->bP Bool
 |[],[]=>lD Wu
 |[],_::_=>lD Wl
 |_::_,[]=>lD Wu
 |x::xs,y::ys=>if Wn.eqv x y=Wl then UT xs ys else TK x y
end
end LD
namespace LD
open PySem PyProof.Rows
structure VE(es:G ZV)(W3:G (Unit×B)):Prop where
 vals:es.map (·.val)=W3.map (·.2)
end LD
namespace L10
open PySem PyProof.Rows L2 L3 LD
def na:SV->I D
 |.fz d=>if keyD d=P then R d else U
 |_=>U
def TQ:SV->I D
 |.fz d=>R d
 |_=>U
def su(Z:bA):SV->I (Nat×G (D×D))
 |.rf i=>match Z[i]? with
  |some (.dd a)=>R (i,a)
  |_=>U
 |_=>U
def jh(b:G (D×D))(k:D):I D:=(b.find? λa=>Wn.eqv a.1 k).map (·.2)
def rb(b:G (D×D))(k v:D):G (D×D):=if(b.find? λa=>Wn.eqv a.1 k).isSome=P then b.map (λa=>if Wn.eqv a.1 k=P then(a.1,v)else a)else b++[(k,v)]
section
variable{B O O':cS}{K:Ld}{E:XK}{H H' R P:Hp}{X α' U S:br Wo}{Z Z' Z1 Y:bA}{T:L2.St}{ρ:bK}{v:V}{k:KD}
def qZ(e:na x=lD d)(h:ZC O K H X v x):∃(k:KD) (b:M),k.1=d/\v=.ref b/\L3.DV O K H (.ref b) d:=by
 cases x with
 |fz z=>
  let e:(if keyD z=Wl then lD z else Wh)=lD d:=e;by_cases a:keyD z=Wl
  .rw[av a]at e
   ext e;let h:=h;cases d with
   |tuple xs=>cases h with
    |tup g f=>show#[#[_,a],_,W,W,.tup g f]
   |_=>simp[keyD]at a
  .rw[ax a]at e;ext e
 |rf i=>ext e
 |tp l=>ext e
def xY(s:Xg B K H X Z)(b:ZC (ow B X Z) K H X v x)(h:su Z x=lD (i,o)):Z[i]?=lD (.dd o)/\∃a xs,X[i]?=lD a/\v=.ref a/\H a=lD (DkO a xs)/\PrD (ow B X Z) K H xs o:=by
 cases x with
 |fz d=>ext h
 |tp l=>ext h
 |rf j=>
  let(a,n,rfl):=b;unfold su at h;dsimp only at h;cases q:Z[j]? with
  |none=>rw[q]at h;ext h
  |some c=>
   rw[q]at h;cases c with
   |dd m=>let e:=WE h;ext e;let(ws,g,f):=s.cel i a _ n q;show#[q,a,ws,n,W,g,f]
   |_=>ext h
theorem xj:∀{xs:G (KD×M×V)} {b:G (D×D)},PrD O K H xs b->u7 K H xs
 |_,_,.nil=>λ_ h=>nomatch h
 |x::xs,f::b,.cons h t=>λy a=>by
  rcases W2.mp a with e|a
  .subst e;rw[h.1];show h.2.1.plain
  .show xj t y a
def zn{x:KD×M×V}{a:D×D}(h:x.1.1=a.1):decide (x.1=k)=Wn.eqv a.1 k.1:=by
 rw[<-h]
 haveI:Decidable (x.1.1=k.1):=Classical.propDecidable _
 rw[LW (gz x.1.2).1 (gz k.2).1];by_cases e:x.1=k
 .rw[aE e,aE (eh Subtype.val e)]
 .rw[aP e,aP λz=>e (Subtype.ext z)]
theorem rq:∀{xs:G (KD×M×V)} {a:G (D×D)},PrD O K H xs a->(∀d,jh a k.1=lD d->∃v,mS xs k=lD v/\L3.DV O K H v d)/\(jh a k.1=Wh->mS xs k=Wh)
 |_,_,.nil=>#[λx e=>(by ext e),λ_=>W]
 |x::xs,b::a,.cons h t=>by
  unfold jh mS;rw[Xv,Xv,zn h.1];cases Wn.eqv b.1 k.1 with
  |true=>show#[λd e=>#[x.2.2,W,by ext e;show h.2.2],λe=>by ext e]
  |false=>show rq t
def DQ(h:PrD O K H xs f):(mS xs k).isSome=(jh f k.1).isSome:=by
 let(b,a):=rq h;cases q:jh f k.1 with
 |none=>rw[a q];rfl
 |some x=>let(u,e,_):=b x q;rw[e];rfl
theorem J5:∀{xs:G (KD×M×V)} {b:G (D×D)},PrD O K H xs b->(xs.find? λx=>decide (x.1=k)).isSome=(b.find? λa=>Wn.eqv a.1 k.1).isSome
 |_,_,.nil=>rfl
 |x::xs,a::b,.cons h t=>by
  rw[Xv,Xv,zn h.1];cases Wn.eqv a.1 k.1 with
  |true=>rfl
  |false=>show J5 t
theorem Qj(a:L3.DV O K H v d):∀{xs:G (KD×M×V)} {c:G (D×D)},PrD O K H xs c->PrD O K H (xs.map λx=>if x.1=k then(x.1,x.2.1,v)else x) (c.map λb=>if Wn.eqv b.1 k.1=Wl then(b.1,d)else b)
 |_,_,.nil=>.nil
 |x::xs,b::c,.cons h t=>by
  rw[WL,WL];show .cons ?_ (Qj a t);let e:=zn (k:=k) h.1;by_cases z:x.1=k
  .rw[av z,av (by rw[<-e];show aE z)];show#[h.1,h.2.1,a]
  .rw[ax z,ax (by rw[<-e,aP z];simp)];show h
theorem AB(r:x.1.1=a.1/\L3.DV O K H (.ref x.2.1) a.1/\L3.DV O K H x.2.2 a.2):∀{xs:G (KD×M×V)} {b:G (D×D)},PrD O K H xs b->PrD O K H (xs++[x]) (b++[a])
 |_,_,.nil=>.cons r .nil
 |_,_,.cons g t=>.cons g (AB r t)
def AW(e:L3.DV O K H (.ref b) k.1)(a:L3.DV O K H v d)(h:PrD O K H xs f):PrD O K H (oV xs k b v) (rb f k.1 d):=by
 unfold oV rb;rw[J5 h];split
 .show Qj a h
 .show AB #[W,e,a] h
theorem KS(e:Ev O H O' H')(h:PrD O K H xs a):PrD O' K H' xs a:=Paired.aax h λ_ _ q=>#[q.1,q.2.1.ev e,q.2.2.ev e]
def Fa(neg:Bool)(a fd:dA):dA:=λρ Z=>(a ρ Z).bind λx Z1=>(fd ρ Z1).bind λo Y=>(RS.Xu Y (na x)).bind λk Y=>(RS.Xu Y (su Y o)).bind λp Y=>.ok (.fz (.bool ((jh p.2 k).isSome !=neg))) Y
def IM(r:c8 K E C L)(hd:c8 K E J fd):c8 K E (QM K neg C J) (Fa neg L fd):=by intro B T H X Z ρ Q s f w;show r B T H X Z ρ _ s f (w.bind.imp λx U Z1 R A l j v p=>?_);show hd B T R U Z1 ρ _ l (f.YV A) (j.bind.imp λo S Y P z g e u q=>?_);let(d,n,e):=WS.Xu e;let((i,W3),m,e):=WS.Xu e;let(_,a,xs,N,rfl,y,h):=xY g q m;let(k,b,rfl,rfl,t):=qZ n (p.YV z);show#[a,b,xs,k,W,W,y,xj h,t.plain,?_];rw[DQ h];show WS.now g e _ (.bl _)
def wA(fd a:dA):dA:=λρ Z=>(fd ρ Z).bind λo Z1=>(a ρ Z1).bind λx Y=>(RS.Xu Y (na x)).bind λk Y=>(RS.Xu Y (su Y o)).bind λp Y=>(RS.Xu Y (jh p.2 k)).bind λd Y=>.ok (.fz d) Y
def Hw(hd:c8 K E N fd)(C:c8 K E L fk):c8 K E (Lb K N L) (wA fd fk):=by intro B T H X Z ρ Q s f w;show hd B T H X Z ρ _ s f (w.bind.imp λo U Z1 R J m j u A=>?_);show C B T R U Z1 ρ _ m (f.YV J) (j.bind.imp λx S Y P I g e v t=>?_);let(d,q,e):=WS.Xu e;let((i,W3),p,e):=WS.Xu e;let(_,a,xs,ha,rfl,G,h):=xY g (A.YV I) p;let(k,b,rfl,rfl,F):=qZ q t;let(y,n,e):=WS.Xu e;let(z,r,l):=(rq h).1 y n;show#[a,b,xs,k,z,W,W,G,xj h,F.plain,r,WS.now g e z l]
def yE(fd e b:dA):gl:=λρ Z=>(b ρ Z).bind λy Z1=>(fd ρ Z1).bind λo Y=>(e ρ Y).bind λx a=>(RS.Xu a (na x)).bind λk a=>(RS.Xu a (su a o)).bind λp a=>(RS.Xu a (TQ y)).bind λd a=>if p.2.length<1000000 then .ok (.nx ρ) (a.set p.1 (.dd (rb p.2 k d)))else .bad
def SZ(e:TQ x=lD d)(h:ZC O K H X v x):L3.DV O K H v d:=by
 cases x with
 |fz z=>ext e;show h
 |rf i=>ext e
 |tp l=>ext e
def Hl(hd:c8 K E td fd)(hk:c8 K E tk fk)(c:c8 K E tv fv):rH K E (Js K td tk tv) (yE fd fk fv):=by
 intro B T H X Z ρ D s g w;show c B T H X Z ρ _ s g (WS.imp (WS.bind w) λy U Z1 R r L I t m=>?_);show hd B T R U Z1 ρ _ L (g.YV r) (WS.imp (WS.bind I) λo S Y P q J G u hu=>?_);show hk B T P S Y ρ _ J (g.YV (r.trans q)) (WS.imp (WS.bind G) λx e h j p A f z hz=>?_);let(kd,Q,f):=WS.Xu f;let((i,W3),N,f):=WS.Xu f;let(d,M,f):=WS.Xu f;let(l,a,xs,ha,rfl,g1,n):=xY A (hu.YV p) N;let(k,b,rfl,rfl,C):=qZ Q hz;let hy:=SZ M (m.YV (q.trans p));dsimp only at f;by_cases hn:W3.length<1000000
 .rw[av hn]at f;let ev:Ev (ow B e h) j (ow B e h) (bW j a (DkO a (oV xs k b t))):=rL ha l (by nofun);let F:Yn e h j e (h.set i (.dd (rb W3 k.1 d))) (bW j a (DkO a (oV xs k b t))):=Yn.put ha l (by nofun) (by nofun);let hl:=Paired.length n;show#[a,b,xs,k,W,W,g1,xj n,C.plain,vf (),?_];show f e _ F (A.put ha l (by nofun) (by nofun) #[_,aY,AW (C.ev ev) (hy.ev ev) (KS ev n)]) T ((g.YV (r.trans (q.trans p))).YV F)
 .rw[ax hn]at f;show f.elim
def Ag:dA:=λ_ Z=>.ok (.rf Z.length) (Z++[.dd []])
def xG:c8 K E Kn Ag:=by intro B T H X Z ρ Q s b w;show λp a=>rj s a w λ_=>#[[],aY,.nil]
end
end L10
namespace L3
open PySem PyProof.Rows L2
structure acT(K:Ld)(x qual:Str)(st:YK)(f:M)(fd:XF)(T:M)(Xp:Array B):Prop where
 ex:∃(oc:B) (od:I M) (kV doc pm:B) (an:I M) (X3 ct:B) (osl:Array (I B)),
  fd=X6 x qual (g8 st) (cY st) (aG st) (.ref T) kV doc pm an X3 ct/\K.lookup f=R #[oc,od,.func fd,osl]/\aah K X3 qual=P
 kp:Yh K (.ref f)=P
 tp:∃o n,K.lookup T=R o/\o.data=.seq Xp n
section
variable{P:WX}{w:Xm}{K:Ld}{J:Str->bP Wi}{base:Heap}{x Z:Str}{Y:YK}{f:Wo}{S:XF}{T:Wo}{A:Array Wi}{N ps:br Str}{k n m:Nat}{L:Sp}{Q:br Wi}
def acT.binds(F:acT K x Z Y f S T A)
  (h:∀(kV a b:B) (e:I M) (g ct:B) (us:G B),(us++Q).length=ps.length->∃k:I (Array B)->Sem (G (Str×B)),bindArgs (X6 x Z (g8 Y) (cY Y) (aG Y) (.ref T) kV a b e g ct) #[us,[]]=seqItems? (.ref T)>>=k/\k (R A)=pure (ps.zip (us++Q))):Binds K S ps Q:=by
 let(v,u,kV,a,b,e,g,ct,i,rfl,y,l):=F.ex;let(o,n,q,p):=F.tp;intro s us X j;let(k,t,r):=h kV a b e g ct us j;show abG.of_defaults (fd:=X6 x Z (g8 Y) (cY Y) (aG Y) (.ref T) kV a b e g ct) W (X _ _ q) p t r
def pP(P:WX)(w:Xm)(K:Ld)(J:Str->I B)(base:Heap)(a:zK)(k:Nat)(x:Str)(ps:G Str)(b:G V)(L:Sp):Prop:=
 ∃(f:M) (S:XF) (Q:G B),FnOk P w K J base a k f S ps L/\Binds K S ps Q/\Vals b Q/\Yh K (.ref f)=Wl/\J x=R (.ref f)
def ke(C:pP X.prog X.w X.K X.mg X.base z k x ps y L)(o:YL j X.A)(l:gH z X E)(c:PA X (e::u) t)(g:k<=j:=by decide)(q:Gl X x:=by rfl)
  (h:(x==("__debug__":Str))=Wu:=by decide) (r:W5 (e::u) X.env=(Wu,eval e X.env)::W5 u X.env:=by rfl) (a:(backTo pos (W5 u X.env)).any (·.1)=Wu:=by rfl):
  PE X (.Call (.Name x p) (e::u) [] pos) (mo L y E t):=by
 let(f,S,Q,F,b,v,i,m):=C;show Eo F (o.mono g) q m i b v l c h r a
end
end L3
namespace L10
open PySem PyProof.Rows L2 L3
section
variable{P:WX}{w:Xm}{K:Ld}{L:Str->bP Wi}{base:Heap}{x Z:Str}{Y:YK}{f:Wo}{J:XF}{T:Wo}{Xp:Array Wi}{N X:br Str}{k n m:Nat}{g:gl}{C:jA}
def Uu(F:acT K x Z Y f J T Xp)(S:YW N X (aG Y))(c:X.length=n)(hm:N.length=m)(q:C=dL m g)
  (u:∀(a:Wi) (A:W8) (outer:G Env) (s:Ws) (H:Hp) (E:XK),YL k (A.deeper (W6 Z (aG Y) s.heap.objs.size f a))->
   ∃t,PSs (gM (L4.jp P w) P w K L base N Z (aG Y) f a A outer s H E) (cY Y) t/\rH K E t g):FnOk P w K L base (L4.jp P w) (k+1) f J X (dJ K n C):=by
 subst q hm;let(z,y,kV,r,v,B,a,ct,i,rfl,j,e):=F.ex;show Mi j e S (λvs H Q E h=>h.1.trans c.symm) λA outer s H vs Q E p b=>?_;let(t,l,o):=u a A outer s H E p;show#[t,l,CB (xs:=[]) o b]
end
section
variable{K:Ld}{E:XK}
def sV(F:jA)(n:Nat)(b:G D)(c:Am):dA:=λe Z=>(c e Z).bind λxs a=>if(xs++b.map SV.fz).length=n then F (xs++b.map SV.fz) a else .bad
theorem C7:∀{c ws:G V} {xs b:G SV},Zh O K H α c xs->Zh O K H α ws b->Zh O K H α (c++ws) (xs++b)
 |_,_,_,_,.nil,h=>h
 |_,_,_,_,.cons a t,h=>.cons a (C7 t h)
def rS(hd:∀O H,L3.Yb O K H o p)(c:xU K E r t):c8 K E (mo (dJ K n F) o E r) (sV F n p t):=by
 intro B g H α Z q Q s h w;show c B g H α Z q _ s h (w.bind.imp λxs a f l m i e u j=>?_);by_cases hn:(xs++p.map SV.fz).length=n
 .rw[av hn]at e;let b:=C7 j (nt (ow B a f) a (hd (ow B a f) l));show#[b.length.trans hn,B,a,f,_,i,b,e]
 .rw[ax hn]at e;show e.elim
end
end L10
namespace L4
open PySem PyProof.Rows L2 L3
def acY(h:Heap)(e:M)(c:B)(d:I M)(a:B)(T:M)(v:B):Prop:=
 ∃b fs,h.get? e=R b/\b.cls=c/\b.dict=d/\b.data=.fields fs/\fs[0]?=R a/\fs[1]?=R (.ref T)/\T≠e/\∃g f,h.get? T=R g/\g.data=.fields f/\f[3]?=R v
section
variable{M:aft}{A:W8}{E:Wi->Ws->Prop}{s:Ws}
def uL
  (C:A.frames=R (env::outer)) (r:s.heap.FunFrames base (env::outer)) (B:env.frame=R L) (t:s.heap.get? e=R J) (h:J.data=.fields fs) (p:1<fs.size) (F:fs[0]?=R a0)
  (k:∀x T,s.heap.objs.size<=T->acY x e J.cls J.dict a0 T (rawInt L)->Lft (env::outer) e U s.heap x->Q ⟨⟩ {s with heap:=x}):
  wpAny M A (frameOf env>>=λfr=>entryPlaceOf L nx>>=λpl=>EntryCells.newEntry X fr .none (rawInt L) .none pl>>=λb=>setField (.ref e) 1 b) Q E s:=by
 let g:e∉(env::outer).filterMap (·.frame):=λz=>by let(_,o,q,n):=r.mem z;rw[t]at q;ext q;show n fs h
 show Wf (aif C r B λa S=>?_);show Wf (ahz λpl P=>?_);unfold EntryCells.newEntry newFields;show Wf (Xx ?_ (P.sizeOk5 _ _ _ _ _));let l:=(S.2.1 e g).trans t;generalize Y:({cls:=.type "traceback",dict:=U,data:=.fields ([X,.ref L,.none,rawInt L,.none]++(if pl.isEmpty then Wz 6 Wi.none else pl)).toArray}:Obj)=N;let u:N.data=.fields ([X,.ref L,.none,rawInt L,.none]++(if pl.isEmpty then Wz 6 Wi.none else pl)).toArray:=by rw[<-Y]
 let G:=d0 u;let j:=cj N l;show X1 j h p ?_;let m:=XX (cn l);let v:=dP h (·.setIfInBounds 1 (Wi.ref a.objs.size));let i:=dk (Obj.mapFields (·.setIfInBounds 1 (Wi.ref a.objs.size))) j (d0 v)
 let w:=
  (da (a.push N) (Obj.mapFields (·.setIfInBounds 1 (Wi.ref a.objs.size))) m.symm).trans (cN a G)
 let aaG:∀b o,b≠e->a.get? b=R o->((a.push N).update e (Obj.mapFields (·.setIfInBounds 1 (Wi.ref a.objs.size)))).get? b=R o:=λb o ne q=>by rw[da _ _ ne.symm];show cj N q
 show k _ a.objs.size (by rw[S.1];show Ww _) #[_,_,i,Obj.cls_mapFields _ _,?_,v,?_,?_,m,_,_,w,u,?_] #[λb o q ne _ y=>aaG b o ne ((S.2.1 b y).trans q),λb o q ne _=>?_,λb o q=>?_]
 .cases J with
  |mk c d H f=>ext H<;>rfl
 .rw[ZR ()];show F
 .simp[p]
 .rfl
 .let(f,z):=S.2.2 b o q;show#[f,aaG b _ ne z]
 .by_cases ne:b=e
  .subst ne;show#[_,i]
  .let(f,z):=S.2.2 b o q;show#[_,aaG b _ ne z]
def Tq{base:Heap}{env:Env}{outer:br Env}{L e:Wo}{c B:Wi}{D hd:bP Wo}{Q:Unit->Ws->Prop}
  (v:A.frames=R (env::outer)) (u:s.heap.FunFrames base (env::outer)) (h:env.frame=R L) (F:HN s.heap e c D B hd)
  (k:∀x T,s.heap.objs.size<=T->acY x e c D B T (rawInt L)->Lft (env::outer) e hd s.heap x->Q ⟨⟩ {s with heap:=x}):wpAny M A (noteFrame (.ref e) env) Q E s:=by
 let(O,fs,q,J,I,d,w,r):=F;subst J I;cases hd with
 |none=>let r:fs[1]?=R .none:=r;ext noteFrame;simp only[h];show Wf (Xd q d r ?_);rw[ax ()];show uL v u h q d (Xa.mp r).1 w k
 |some T=>
  let(r,G,P,C,g,dT,p):=r;ext noteFrame;simp only[h];show Wf (Xd q d r ?_);rw[av (show(Wi.ref T !=Wi.none)=Wl from by simp)];show Wf (Xd g dT p ?_);rw[ax (show¬((Wi.none==rawInt L)=Wl)from by simp[rawInt])];show Wf (X1 g dT (Xa.mp p).1 ?_);let a:∀b,b≠T->(s.heap.update T (Obj.mapFields (·.setIfInBounds 3 Wi.none))).get? b=s.heap.get? b:=λb ne=>da _ _ ne.symm;let f:=dk (Obj.mapFields (·.setIfInBounds 3 Wi.none)) g (d0 (dP dT _));let m:∀b o,s.heap.get? b=R o->(∀S,o.data≠.fields S)->b≠T:=λb o z n y=>by rw[y,g]at z;ext z;show n C dT
  show uL v (u.of_keeps λb o z n=>#[o,(a b (m b o z n)).trans z,W]) h ((a e G.symm).trans q) d (Xa.mp r).1 w λx K t N i=>k x K (by rw[Heap.size_after_update]at t;show t) N #[λb o z l j H=>?_,λb o z l j=>?_,λb o z=>?_]
  .show i.keep b o ((a b λy=>j (by rw[y])).trans z) l (by simp) H
  .show i.slot b o ((a b λy=>j (by rw[y])).trans z) l (by simp)
  .by_cases y:b=T
   .subst y;show i.here b _ f
   .show i.here b o ((a b y).trans z)
def HM{base:Heap}{env:Env}{outer:br Env}{L e T:Wo}{c G v:Wi}{V:bP Wo}{Q:Unit->Ws->Prop}
  (P:A.frames=lD (env::outer)) (O:s.heap.FunFrames base (env::outer)) (B:env.frame=lD L) (F:acY s.heap e c V G T v)
  (k:∀x D,(D=T\/s.heap.objs.size<=D)->HN x e c V G (lD D)->Lft (env::outer) e (lD T) s.heap x->Q ⟨⟩ {s with heap:=x}):wpAny M A (leaving env (.ref e)) Q E s:=by
 let(I,fs,q,N,K,d,C,r,m,S,H,h,dT,t):=F;subst N K;let a:∀b,b≠T->(s.heap.update T (Obj.mapFields (·.setIfInBounds 3 Wi.none))).get? b=s.heap.get? b:=λb ne=>da _ _ ne.symm;let f:=dk (Obj.mapFields (·.setIfInBounds 3 Wi.none)) h (d0 (dP dT _));let l:=(Xa.mp t).1;unfold leaving noteFrame;simp only[B];show Wf (Wf (Xd q d r ?_));rw[av (show(Wi.ref T !=Wi.none)=Wl from by simp)];show Wf (Xd h dT t ?_);by_cases u:(v==rawInt L)=Wl
 .rw[av u]
  show Wt ?_;ext setFlight;show Wf (Xd q d r ?_);rw[av (show(Wi.ref T !=Wi.none)=Wl from by simp)];show X1 h dT l ?_;show k _ T (.inl W) #[I,fs,(a e m.symm).trans q,W,W,d,C,r,m,_,_,f,dP dT _,?_] #[λb o z i g _=>?_,λb o z i g=>#[o.slots,?_],λb o z=>?_]
  .rw[Yg l]
  .show(a b λy=>g (by rw[y])).trans z
  .show(a b λy=>g (by rw[y])).trans z
  .by_cases y:b=T
   .subst y;show#[_,f]
   .show#[o,(a b y).trans z]
 .rw[ax u]
  show Wf (X1 h dT l ?_);let p:∀b o,s.heap.get? b=lD o->(∀X,o.data≠.fields X)->b≠T:=λb o z n y=>by rw[y,h]at z;ext z;show n H dT
  show jU P (O.of_keeps λb o z n=>#[o,(a b (p b o z n)).trans z,W]) B ((a e m.symm).trans q) d (Xa.mp r).1 C λx D w R j=>k x D (.inr (by rw[Heap.size_after_update]at w;show w)) R #[λb o z i g J=>?_,λb o z i g=>?_,λb o z=>?_]
  .show j.keep b o ((a b λy=>g (by rw[y])).trans z) i (by simp) J
  .show j.slot b o ((a b λy=>g (by rw[y])).trans z) i (by simp)
  .by_cases y:b=T
   .subst y;show j.here b _ f
   .show j.here b o ((a b y).trans z)
def K9{g:Env}{i:String}{e T:Wo}{c n v:Wi}{D:I Wo}{Q:Wi->Ws->Prop}(F:acY s.heap e c D n T v)
  (k:∀x J,acY x e c D n T J->(∀b o,b≠T->s.heap.get? b=R o->x.get? b=R o)->(∃o,x.get? T=R o)->E (.ref e) {s with heap:=x}):wpAny M A (ahA i (.ref e) g:Sem Wi) Q E s:=by
 let(t,fs,q,w,u,d,y,r,m,C,B,l,dT,p):=F;subst w u;let j:=(Xa.mp p).1;ext ahA;show Wf (Xd q d r ?_);rw[ax (show¬((Wi.ref T==Wi.none)=P)from by simp)];ext setFlight;show Wf (Wf (Xd q d r ?_));rw[av (show(Wi.ref T !=Wi.none)=P from by simp)];show X1 l dT j (wpAny_throw ?_);let h:∀b,b≠T->(s.heap.update T (Obj.mapFields (·.setIfInBounds 3 (g.frame.elim Wi.none λf=>rawInt f)))).get? b=s.heap.get? b:=λb ne=>da _ _ ne.symm;let a:=dk (Obj.mapFields (·.setIfInBounds 3 (g.frame.elim Wi.none λf=>rawInt f))) l (d0 (dP dT _));show k _ _ #[t,fs,(h e m.symm).trans q,W,W,d,y,r,m,_,_,a,dP dT _,Yg j] (λb o ne z=>(h b ne).trans z) #[_,a]
end
end L4
namespace L2
open PySem PySem.Spec PyProof.Rows
def VY(Y:Cx)(E:XK):B->Ws->Prop:=λx a=>∃pins b H1 e c f g hd,x=.ref e/\Inv Y pins b H1 a/\L4.HN a.heap e c f g hd/\(Y.s₀.heap.get? e=U\/e∈Y.ex)/\(∀T,hd=R T->Y.s₀.heap.get? T=U\/T∈Y.ex)/\H1 e=U/\(∀T,hd=R T->H1 T=U)/\E c f H1
end L2
namespace L4
open PySem PyProof.Rows L2 L3
def RZ{P:WX}{w:Xm}{K:Ld}{k:Str->bP Wi}{base:Heap}{N:br Str}{i:Str}{a:Zt}{f:Wo}{M:Wi}{A:W8}{outer:br Env}{g:Ws}{Q:Hp}{E:XK}
  {m:br (Wo×Obj)} {R:L2.St} {H:Hp} {s:Ws} {e T:Wo} {c O v:Wi} {d:bP Wo} (I:L2.Inv (gM (jp P w) P w K k base N i a f M A outer g Q E) m R H s)
  (F:acY s.heap e c d O T v) (J:g.heap.get? e=Wh) (G:g.heap.get? T=Wh) (ne:H e=Wh) (u:H T=Wh) (q:E c d H):
  (gM (jp P w) P w K k base N i a f M A outer g Q E).xe (.ref e) s:=by
 let hA:=I.ok.frames;let hF:=I.stack;show HM (L:=g.heap.objs.size) hA hF W F λh' t j F' L=>?_;let X:=L.XY I.XY ne (λT1 z=>by ext z;show u) I.ab8;let sz:=I.sz;let Z:H t=Wh:=by
  rcases j with e|j
  .rw[e];show u
  .show I.XY.fresh j
 let gT:g.heap.get? t=Wh:=by
  rcases j with e|j
  .rw[e];show G
  .show dN (Xo sz j)
 let r:∀b o,g.heap.get? b=lD o->b<g.heap.objs.size:=λb o z=>cn z;let h:∀b o,g.heap.get? b=lD o->b≠e/\lD T≠lD b:=λb o z=>#[(λy=>by rw[y,J]at z;ext z),(λy=>by ext y;rw[G]at z;ext z)];show#[e,c,d,O,t,H,W,J,gT,F',ne,Z,I.os,I.bare,?_,X,q];let B:=I.base;show#[λb o z n C _=>?_,λb o z n Y _=>?_,λb o z n _=>?_,λb o z _=>?_,B.acX,B.acL,B.acU]
 .let l:=B.keep b o z n C (λy=>nomatch y)
  show L.keep b o l (h b o z).1 (h b o z).2 λy=>?_;rcases W2.mp (I.abL b y)with y|y
  .let y:b=g.heap.objs.size:=y;show a7 (r b o z) (by rw[y];show XU _)
  .show C y
 .let(sl,l):=B.slot b o z n Y (λy=>nomatch y);let(p,S):=L.slot b _ l (h b o z).1 (h b o z).2;show#[p,S]
 .show B.free b o z n (λy=>nomatch y)
 .let(U,l):=B.there b o z (λy=>nomatch y);show L.here b U l
def Qu(X:Cx)(E:XK):Prop:=∀(a:L2.St) (H:Hp) (s:Ws) (e T:M) (c b v:B) (f:I M),L2.Inv X [] a H s->acY s.heap e c f b T v->X.s₀.heap.get? e=U->X.s₀.heap.get? T=U->H e=U->H T=U->E c f H->X.xe (.ref e) s
theorem M8{P:WX}{w:Xm}{K:Ld}{d:Str->bP B}{base:Heap}{N:G Str}{b:Str}{a:Zt}{f:M}{m:B}{A:W8}{outer:G Env}{g:Ws}{n:Hp}{E:XK}:
  Qu (gM (jp P w) P w K d base N b a f m A outer g n E) E:=λo H s e T c p v r I F l j i h q=>RZ I F l j i h q
def IS{X:Cx}{h:Ws}{l:Hp}{a:Zt}{C:M}{N:G Str}{d:G M}{E:XK}:
  gH (jp X.prog X.w) ((dj X h l a C N d).abj (VY (dj X h l a C N d) E)) E:=by
 rintro f m H s x u I ⟨e,c,L,n,T,t,rfl,le,J,F,ne,A,os,bare,un,XY,q⟩;let r:=I.aei (ch:=[]) os un XY bare (λb z=>nomatch z);let g:∀b,s.heap.get? b=U->h.heap.get? b=U\/b∈d:=λb z=>by
  by_cases j:b∈d
  .show .inr j
  .show .inl ?_
   cases y:h.heap.get? b with
   |none=>rfl
   |some o=>let(v,i):=I.base.there b o y j;rw[z]at i;ext i
 show#[f,m,t,e,c,L,n,R T,W,r.aaa,F,g e le,(λp z=>by ext z;show g T J),ne,(λp z=>by ext z;show A),q]
def acY.at{h h':Heap}{e T:M}{c a v:B}{s:I M}(F:acY h e c s a T v)(k:∀b o,b=e\/b=T->h.get? b=R o->h'.get? b=R o):acY h' e c s a T v:=by let(j,fs,q,p,n,d,t,r,m,l,f,i,dT,g):=F;show#[j,fs,k _ _ (.inl W) q,p,n,d,t,r,m,l,f,k _ _ (.inr W) i,dT,g]
end L4
namespace L2
open PySem PySem.Spec PyProof.Rows
theorem Inv.ajr{X:Cx}{a:G (M×Obj)}{b:St}{H:Hp}{s:Ws}(I:Inv X a b H s):Inv X [] b H s:=
 #[I.ok,I.os,I.bare,I.base,I.loc,I.cell,I.free,I.aae,λp e=>I.pin p (by rw[W4]at e;show aab _ e),I.XY,I.len]
def K5{X:Cx}{elt V iter:XB}{ifs:G XB}{scope:Zt}{pos:Pos}(own:G Str)(u:G (Str×Nat)){wi:TI}{g:TG}{tc:TT}{te:TE}{EK:XK}(eX:X.stack=X.env::X.outer/\X.env.frame=lD X.env.locals)(hex:X.ex=[])(k:X.pn=[])(PX:L4.Qu X EK)(hc:X.calm=P)(hi:PI X V iter wi)
  (hg:∀s H C i,PG (dj X s H scope C (gh own u) i) V g) (ht:∀s H C i,Ii (dj X s H scope C (gh own u) i) ifs tc) (he:∀s H C i,PE ((dj X s H scope C (gh own u) i).abj (VY (dj X s H scope C (gh own u) i) EK)) elt te) (hfv:aee X scope u)
  (af9:(scope.names.all λy=> !(y.2==Xf.free)||(X.env.scope.names.lookup y.1==lD Xf.cell)||(X.env.scope.names.lookup y.1==lD Xf.free))=P)
  (ZZ:scope.kind=.function:=by rfl) (hnd:(scope.names.map (·.1)).Nodup:=by left)
  (ac4:∀y∈scope.names,y.2=.local->scope.names.lookup y.1=lD .local:=by left) (hs:∀x,foldedSetIterable iter X.env x=pure x:=by intro _;rfl):
  PE X (.ListComp elt [#[V,iter,ifs,0]] scope pos) (u9 own u wi g tc te):=by
 intro pins s σ H Q I h;let S:=LR af9;rw[ano];show abb (use:=U) W hs (qp (om I.ok S)) ZZ ac4 (de (hi pins s σ H _ I h) λxv s1 h1=>de h1 λitv s2 h2=>?_);let(it,i,tn,J,H2,e,j,T,st2,f2,R):=h2;subst e;show pT j hc ZZ hnd (om I.ok S) hfv T st2 f2 (λC=>hg _ _ C _) (λC=>ht _ _ C _) (λC=>he _ _ C _) ?_ (Fin:=λD H'=>Q (.ref D) H') R ?_
 .rintro D C x s3 hC ⟨an2,σ3,l,e,c,dx,a0,hd,rfl,f,F,fe,fT,ne,nT,q⟩
  let hsz:s2.heap.objs.size<=s3.heap.objs.size:=f.sz;show wpAny (model X.prog X.w) X.A (noteFrame (.ref e) X.env) _ _ s3;show L4.Tq (env:=X.env) (outer:=X.outer) (base:=X.base) (L:=X.env.locals) (by rw[<-eX.1];show f.ok.frames) (by rw[<-eX.1];show f.stack) eX.2 F λh' T' Y F' L=>?_;rw[<-eX.1]at L;let(m,hm,_):=f.loc;let hm:s3.heap.Ns C m:=hm;let hn3:l C=U:=f.free;let fo:∀b,b=e\/hd=lD b->s2.heap.get? b=U\/b∈i:=λb z=>by
   rcases z with z|z
   .rw[z];show fe
   .show fT b z
  let alk:∀b,b=e\/hd=lD b->∃o vs,s3.heap.get? b=lD o/\o.data=.fields vs:=λb z=>by
   let(ob,fs,q1,_,_,d,_,r):=F;rcases z with z|z
   .rw[z];show#[ob,fs,q1,d]
   .subst z;let(_,_,oT,ts,qT,dT,_):=r;show#[oT,ts,qT,dT]
  let nC:¬(C=e\/hd=lD C):=λz=>by let(o,vs,q1,d):=alk C z;let(o',es,ep,q2,d2,_):=hm;rw[q1]at q2;ext q2;rw[d]at d2;ext d2
  let nfr:C∉Al X.stack:=λz=>by let(_,o,t,_):=j.stack.mem z;show a7 (W0 (cn t) hC) (XU _)
  let IX:Inv X [] σ l s3:=(j.aei (ch:=i) f.os f.base f.XY f.bare λb a=>#[(f2 b a).2.2.2.1,(f2 b a).2.1,(f2 b a).2.2.2.2.1,(f2 b a).2.2.2.2.2]).ajr;let n0:∀b,b=e\/hd=lD b->X.s₀.heap.get? b=U:=λb z=>by
   rcases fo b z with y|y
   .cases z0:X.s₀.heap.get? b with
    |none=>rfl
    |some o=>let(o',z1):=j.base.there b o z0 (by rw[hex];show λy=>nomatch y);rw[y]at z1;ext z1
   .rcases(f2 b y).2.2.2.1 with w|w
    .rw[hex]at w;ext w
    .show dN w
  let Ia:Inv X [] σ l {s3 with heap:=h'}:=by
   show L4.wq IX (λb=>b=e\/hd=lD b) hex (by rw[k];show λp N=>nomatch N) (λb o z n nf=>L.keep b o z (λy=>n (.inl y)) (λy=>n (.inr y)) nf) (λb o z n=>L.slot b o z (λy=>n (.inl y)) (λy=>n (.inr y))) L.here n0 (λz=>?_) (λx cc z y=>?_) (λb z=>?_)
   .rcases fo _ z with y|y
    .let(mm,hn,_):=j.loc;let(o,_,_,t,_):=hn;rw[y]at t;ext t
    .show(f2 _ y).2.1 W
   .rcases fo _ y with w|w
    .let(v,o,t,_):=j.cell x cc z;rw[w]at t;ext t
    .show(f2 _ w).2.2.2.2.1 x cc z W
   .rcases z with z|z
    .rw[z];show ne
    .show nT b z
  let A:l T'=U:=f.XY.fresh Y;show#[m,hm.at' λo z=>L.keep C o z (λy=>nC (.inl y)) (λy=>nC (.inr y)) nfr,λh4 sb aeU _=>?_];let CT:C<s3.heap.objs.size:=hm.lt;let F4:L4.acY h4 e c dx a0 T' (rawInt X.env.locals):=F'.at λb o z y=>by
   show(sb.2 b λw=>?_).trans y;rcases z with z|z
   .show nC (.inl (w.symm.trans z))
   .let this:T'=C:=z.symm.trans w;rw[this]at Y;show a7 (W0 CT Y) (XU _)
  show L4.K9 F4 λh5 v' F5 k5 t5=>?_;let(f0,f1,_,f3,f4,f5):=j.adt (H':=l) hC hn3;let Ib:Inv X [] σ l {s3 with heap:=h4}:=Ia.turned (t':=s3.toks) (λb o a z=>(sb.2 b a).trans z) f0 f1 f3 f4 (by rw[k];show λp N=>nomatch N);let(g0,g1,_,g3,g4,g5):=j.adt (H':=l) (Xo hsz Y) A;let Ic:Inv X [] σ l {s3 with heap:=h5}:=Ib.turned (t':=s3.toks) (λb o a z=>k5 b o a z) g0 g1 g3 g4 (by rw[k];show λp N=>nomatch N);show PX σ l _ e T' c a0 v' dx Ic F5 (n0 e (.inl W)) ?_ ne A q;rcases g3 with w|w
  .rw[hex]at w;ext w
  .show dN w
 .intro D C H' s' I' fin hm hC hn;let(m,hm):=hm;show#[m,hm,λh' hs'=>#[.ref D,H',?_,W,fin]];let(f0,f1,_,f3,f4,f5):=j.adt hC hn;show I'.turned (t':=s'.toks) (λb o a q=>(hs'.2 b a).trans q) f0 f1 f3 f4 f5
end L2
namespace L10
open PySem PyProof.Rows L2 L3
section
variable{B O z:cS}{K:Ld}{E:XK}{H y L u:Hp}{X C U A:br Wo}{Z Z' N T:bA}{Y:L2.St}{S:bK}{v:V}
theorem RK{g:TG}{gt:Ec}(h:ML K E0 g gt):ML K E g (λx S Z=>iw (gt x S Z)):=λB Y H X Z S v x Q s a r w=>h B Y H X Z S v x Q s a r (WS.e0 w)
theorem Ts{t:TT}{b:wF}(h:xW K E0 t b):xW K E t (λS Z=>iw (b S Z)):=λB Y H X Z S Q s a w=>h B Y H X Z S Q s a (WS.e0 w)
def vL(n:Nat)(c:G Nat)(a:MG)(gt:Ec)(b:wF)(d:dA):dA:=λS Z=>(a S Z).bind λds N=>(cR (λx S Z=>iw (gt x S Z)) (λS Z=>iw (b S Z)) d ds (gj n c S) N []).bind λxs T=>.ok (.rf T.length) (T++[.lst xs])
def Hs{own:G Str}{h:G (Str×Nat)}{a:TI}{g:TG}{e:TT}{b:TE}{i:MG}{gt:Ec}{c:wF}{k:dA}{n:Nat}{d:G Nat}(x:own.length=n)(q:h.map (·.2)=d)
  (D:Ra K E a i) (p:ML K E0 g gt) (o:xW K E0 e c) (r:c8 K E b k):c8 K E (u9 own h a g e b) (vL n d i gt c k):=by
 intro B Y H X Z S Q s f w;show D B Y H X Z S _ s f (WS.imp (WS.bind w) λds U N L t l j J m=>?_);show v9 x q (RK p) (Ts o) r l (f.YV t) m j
end
end L10
namespace L3
open PySem L2
section
variable{P:WX}{w:Xm}{K:Ld}{S:Str->bP Wi}{base h:Heap}{f C:Wo}{n m q:Str}{t:YK}{T fs:br Str}{Z k:Nat}{Q N:Sp}{Y:zK}
theorem MI.ai3(i:MI K C f m q t)(c:CI K C n fs)(b:BA m q t T)(ok:∀fd,Zl K m q t f fd->FnOk P w K S base Y Z f fd T Q):L10.cC P w K S base Y Z n m T Q:=
 let#[fd,z]:=i.F;#[C,f,fd,c.a,c.cls,#[i.a,i.i,z.kp],ok fd z,z.binds b]
theorem MI.alA(i:MI K C f "__init__" q t)(c:CI K C n fs)(X:K.In h)(G:h.Ns WN S)(b:BA "__init__" q t T)(ok:∀fd,Zl K "__init__" q t f fd->FnOk P w K S base Y Z f fd T Q):L10.wx P w K S base Y Z n T Q:=
 let#[fd,z]:=i.F;#[C,f,fd,c.a,Yt X G c.a,#[c.mm,i.a,i.i,c.kc],ok fd z,z.binds b]
end
end L3
namespace L10
open PySem PySem.Spec PyProof.Rows L2 L3
section
variable{B O O':cS}{K:Ld}{E:XK}{H H' X H2:Hp}{α α' Y α2:br Wo}{Z Z' S Z2:bA}{σ:L2.St}{T:bK}{v:V}
def uj(c f:Str)(a:dA):gl:=λT Z=>(a T Z).bind λx S=>match x with
 |.fz d=>if L9.Up d=P then .er #[c,[(f,d)]] S else .bad
 |_=>.bad
def Dy(M:WW K WN c=R (R (.ref C)))(L:c8 K E te fe):rH K E (L9.Ex C (L9.ym C f) E (fL te ju)) (uj c f fe):=by
 intro B σ H α Z T D s G w;show L B σ H α Z T _ s G (WS.imp (WS.bind w) λx Y S X Q I a v h=>?_)
 match x,h,a with
 |.fz d,h,a=>
  let h:=h;dsimp only at a;by_cases r:L9.Up d=Wl
  .rw[av r]at a
   let j:L9.U8 v/\∀(O':cS) (H':Hp),L3.DV O' K H' v d:=by
    cases d with
    |none=>ext h;show#[.inl W,λ_ _=>.YM]
    |int i=>ext h;show#[.inr #[i,W,a6 r],λ_ _=>.int i]
    |_=>ext r
   show#[by show 1<=WG;decide,λe hn=>#[e,v,W,j.1,aY,λp F g=>#[W,p,?_,?_]]]
   .rw[aU (d3 g),aY]
   .let u:X p=U:=by rw[aU g]at F;show F
    let A:Yo X (L9.TC (bW (bW (bW X e (.ext (L9.MV C e))) e (.ext (L9.Ul C e p))) p (.xd [(f,v)])) e):=λb o z=>by
     let t:b≠e:=λy=>by rw[y,hn]at z;ext z
     let J:b≠p:=λy=>by rw[y,u]at z;ext z
     rw[L9.lW t,aU J,aU t,aU t];show z
    show a (.ref C) (R p) Y _ (Yn.same A) (I.grow A) #[#[C,W,M],[(f,v)],λP q=>?_,λm N l=>#[(λz=>nomatch z),?_]]
    .ext q;rw[L9.lW g,aY]
    .let n:(match m==f with|true=>R d|false=>YY m [])=R N:=l
     cases hb:m==f with
     |true=>rw[hb]at n;ext n;show#[v,?_,j.2 _ _];show(match m==f with|true=>R v|false=>YY m [])=R v;rw[hb]
     |false=>rw[hb]at n;ext n
  .rw[ax r]at a;show a.elim
 |.rf _,_,a=>show a.elim
 |.tp _,_,a=>show a.elim
end
end L10
namespace L10
open PySem L2 L3
section
variable{P:WX}{w:Xm}{K:Ld}{L:Str->bP Wi}{base:Heap}{x Z:Str}{Y:YK}{f:Wo}{J:XF}{T:Wo}{C:Array Wi}{N Q:br Str}{k n m:Nat}{g:gl}{X:jA}
theorem GC(F:Zl K x Z Y f J)(S:YW N Q (aG Y))(c:Q.length=n)(hm:N.length=m)(e:X=dL m g)
  (h:∀(a:B) (A:W8) (outer:G Env) (s:Ws) (H:Hp) (E:XK),N.Nodup->YL k (A.deeper (W6 Z (aG Y) s.heap.objs.size f a))->(A.deeper (W6 Z (aG Y) s.heap.objs.size f a)).units+64<cLine->(A.deeper (W6 Z (aG Y) s.heap.objs.size f a)).units+1<cLine->(A.deeper (W6 Z (aG Y) s.heap.objs.size f a)).units+65<cLine->
   ∃t,PSs (gM (L4.jp P w) P w K L base N Z (aG Y) f a A outer s H E) (cY Y) t/\rH K E t g):FnOk P w K L base (L4.jp P w) (k+1) f J Q (dJ K n X):=
 Vw F S c hm e λa A outer s H E b=>h a A outer s H E S.nd b b.units (Fx b) (Ew b)
theorem Dx(F:acT K x Z Y f J T C)(S:YW N Q (aG Y))(c:Q.length=n)(hm:N.length=m)(e:X=dL m g)
  (h:∀(a:B) (A:W8) (outer:G Env) (s:Ws) (H:Hp) (E:XK),N.Nodup->YL k (A.deeper (W6 Z (aG Y) s.heap.objs.size f a))->(A.deeper (W6 Z (aG Y) s.heap.objs.size f a)).units+64<cLine->(A.deeper (W6 Z (aG Y) s.heap.objs.size f a)).units+1<cLine->(A.deeper (W6 Z (aG Y) s.heap.objs.size f a)).units+65<cLine->
   ∃t,PSs (gM (L4.jp P w) P w K L base N Z (aG Y) f a A outer s H E) (cY Y) t/\rH K E t g):FnOk P w K L base (L4.jp P w) (k+1) f J Q (dJ K n X):=
 Uu F S c hm e λa A outer s H E b=>h a A outer s H E S.nd b b.units (Fx b) (Ew b)
end
end L10
namespace L3
open PySem L2
theorem zz{X:Cx}{P:WX}{w:Xm}:gH (L4.jp P w) X E0:=λ_ _ _ _ _ _ _ a=>by let(_,_,_,_,_,_,_,_,_,_,_,_,_,_,_,_,h):=a;show h.elim
end L3
namespace L10
open PySem PyProof.Rows L2 L3
section
variable{B O A:cS}{K:Ld}{E:XK}{H z S y:Hp}{N J Y C:br Wo}{Z u X t:bA}{L:L2.St}{T:bK}{v:V}
def pN(F:jA)(n:Nat)(a:G D)(b:Am):dA:=λT Z=>(b T Z).bind λxs X=>if(xs++a.map SV.fz).length=n then iw (F (xs++a.map SV.fz) X)else .bad
def lL(hd:∀O H,L3.Yb O K H i j)(c:xU K E l m):c8 K E (mo (dJ K n F) i E0 l) (pN F n j m):=by
 intro B L H N Z T Q s e w;show c B L H N Z T _ s e (w.bind.imp λxs Y X S h f b o g=>?_);by_cases hn:(xs++j.map SV.fz).length=n
 .rw[av hn]at b;let a:=C7 g (nt (ow B Y X) Y (hd (ow B Y X) S));show#[a.length.trans hn,B,Y,X,_,f,a,WS.e0 b]
 .rw[ax hn]at b;show b.elim
end
end L10
namespace L10
open PySem L2 L3
def Vn(T:A->bA->Prop)(X:Xc->Prop):RS A->Prop
 |.ok a Z=>T a Z
 |.er x _=>X x
 |.bad=>False
structure Out{A:Type}(r:RS A)(T:A->bA->Prop)(X:Xc->Prop):Prop where
 out:Vn T X r
section
variable{A B:Type}{r r':RS A}{T Y:A->bA->Prop}{U:B->bA->Prop}{X:Xc->Prop}{Z:bA}
def Out.eq(e:r=r')(h:Out r' T X):Out r T X:=by rw[e];show h
def Out.imp(h:Out r T X)(k:∀a Z,T a Z->Y a Z):Out r Y X:=by
 show#[?_];let h:=h.out;cases r with
 |bad=>show h
 |er x o=>show h
 |ok a o=>show k a o h
def Out.bind(h:Out r (λa o=>Out (f a o) U X) X):Out (r.bind f) U X:=by
 show#[?_];let h:=h.out;cases r with
 |bad=>show h
 |er x o=>show h
 |ok a o=>show(show Out (f a o) U X from h).out
def Out.all(h:Out r T λ_=>False):∃a o,r=.ok a o/\T a o:=by
 let h:=h.out;cases r with
 |bad=>show h.elim
 |er x o=>show h.elim
 |ok a o=>show#[a,o,W,h]
def Out.er(h:Out r (λ_ _=>False) X):∃x o,r=.er x o/\X x:=by
 let h:=h.out;cases r with
 |bad=>show h.elim
 |er x o=>show#[x,o,W,h]
 |ok a o=>show h.elim
end
section
variable{ρ ρ1 Q:bK}{Z S Y J:bA}{x y z:SV}{i n:Nat}{d:D}{L:br D}{b:Bool}{f g:gl}{fe:dA}{N:bK->bA->Prop}{T:SV->bA->Prop}{X:Xc->Prop}
def V7(N:bK->bA->Prop)(T:SV->bA->Prop):FlS->bA->Prop
 |.nx ρ,Z=>N ρ Z
 |.rt v,Z=>T v Z
 |_,_=>False
abbrev mz(r:RS FlS)(N:bK->bA->Prop)(T:SV->bA->Prop)(X:Xc->Prop):Prop:=Out r (V7 N T) X
def mI(h:mz (f ρ Z) (λr o=>mz (g r o) N T X) T X):mz (aX f g ρ Z) N T X:=by
 show Out.bind (h.imp λa o k=>?_);cases a with
 |nx r=>show k
 |rt v=>show#[k]
 |ct r=>show k.elim
 |bk r=>show k.elim
theorem sZ(a:f ρ Z=.ok (.nx ρ1) S)(h:mz (g ρ1 S) N T X):mz (aX f g ρ Z) N T X:=mI (.eq a #[h])
theorem C4(a:f ρ Z=.ok (.nx ρ1) S)(h:N ρ1 S):mz (f ρ Z) N T X:=.eq a #[h]
theorem dm(e:fe ρ Z=.ok x S)(a:gt x ρ S=.ok ρ1 Y)(h:mz (g ρ1 Y) N T X):mz (aX (cX fe gt) g ρ Z) N T X:=sZ (by ext cX;rw[e,eo,a,eo]) h
theorem zx(a:Out (fe ρ Z) (λx S=>mz (g (ρ.set i (R x)) S) N T X) X):mz (aX (cX fe (dB i)) g ρ Z) N T X:=mI (Out.bind (a.imp λ_ _ k=>#[k]))
theorem Mm(a:Out (fe ρ Z) (λ_ S=>mz (g ρ S) N T X) X):mz (aX (cr fe) g ρ Z) N T X:=mI (Out.bind (a.imp λ_ _ k=>#[k]))
def Lg{a j:gl}(e:c ρ Z=.ok P S)(h:mz (aX a g ρ S) N T X):mz (aX (dw c a j) g ρ Z) N T X:=by show .eq ?_ h;unfold aX dw;rw[e,eo,av W]
def Dt{j a:gl}(e:c ρ Z=.ok Wu S)(h:mz (aX a g ρ S) N T X):mz (aX (dw c j a) g ρ Z) N T X:=by show .eq ?_ h;unfold aX dw;rw[e,eo,ax WM]
theorem yi(h:mz (g ρ Z) N T X):mz (aX eD g ρ Z) N T X:=mI #[h]
theorem sI(a:fe ρ Z=.ok x S)(h:T x S):mz (ip fe ρ Z) N T X:=.eq (jb a) #[h]
theorem GQ(a:fe ρ Z=.ok x S)(h:T x S):mz (aX (ip fe) g ρ Z) N T X:=mI (sI a h)
theorem O9(a:Out (fe ρ Z) T X):mz (ip fe ρ Z) N T X:=Out.bind (a.imp λ_ _ k=>#[k])
def mG(a:xs.map R++Wz (n - xs.length) U=ρ)(h:mz (g ρ Z) (λ_ c=>T (.fz .none) c) T X):Out (dL n g xs Z) T X:=by
 ext dL;rw[a];show Out.bind (h.imp λe o k=>?_);cases e with
 |nx r=>show#[k]
 |rt v=>show#[k]
 |ct r=>show k.elim
 |bk r=>show k.elim
theorem Lx{b:gl}(I:Nat->bK->bA->Prop)(M:Nat)(j:∀n ρ Z,I n ρ Z->(∃S,c ρ Z=.ok Wu S/\N ρ S)\/(n<M/\∃S,c ρ Z=.ok P S/\mz (b ρ S) (I (n+1)) T X)):∀(m n:Nat) (ρ:bK) (Z:bA),M - n<m->I n ρ Z->mz (wK c b m ρ Z) N T X
 |0,n,_,_,h,_=>by ext
 |m+1,n,ρ,Z,h,h0=>by
  rcases j n ρ Z h0 with⟨S,e,p⟩|⟨q,S,e,l⟩
  .show .eq (show wK c b (m+1) ρ Z=.ok (.nx ρ) S from ?_) #[p];show((c ρ Z).bind _)=_;rw[e,eo,ax WM]
  .show .eq (show wK c b (m+1) ρ Z=(b ρ S).bind λa Y=>match a with
    |.nx Q=>wK c b m Q Y
    |.ct Q=>wK c b m Q Y
    |.bk Q=>.ok (.nx Q) Y
    |.rt x=>.ok (.rt x) Y from ?_) (Out.bind (l.imp λa o k=>?_))
   .show((c ρ Z).bind _)=_
    rw[e,eo,av W]
    all_goals (cases b ρ S with
     |bad=>rfl
     |er x o=>rfl
     |ok a o=>ext a<;>rfl)
   .cases a with
    |nx r=>show Lx I M j m (n+1) r o () k
    |rt v=>show#[k]
    |ct r=>show k.elim
    |bk r=>show k.elim
theorem A8{b:gl}(I:Nat->bK->bA->Prop)(M:Nat)(h:M<1000000)(e:I 0 ρ Z)(a:∀n ρ Z,I n ρ Z->(∃S,c ρ Z=.ok Wu S/\N ρ S)\/(n<M/\∃S,c ρ Z=.ok P S/\mz (b ρ S) (I (n+1)) T X)):mz (sg c b ρ Z) N T X:=Lx I M a 1000000 0 ρ Z () e
theorem ED{b:gl}(I:Nat->bK->bA->Prop):∀(L:G D) (k:Nat) (ρ:bK) (Z:bA),I k ρ Z->(∀i d ρ Z,L[i]?=R d->I (k+i) ρ Z->∃ρ1 S,gt (.fz d) ρ Z=.ok ρ1 S/\mz (b ρ1 S) (I (k+i+1)) T X)->mz (mJ gt b L ρ Z) (I (k+L.length)) T X
 |[],k,ρ,Z,h0,_=>#[h0]
 |d::r,k,ρ,Z,h0,C=>by
  let(ρ1,S,w,u):=C 0 d ρ Z W h0;let l:∀a p,I (k+1) a p->mz (mJ gt b r a p) (I (k+(r.length+1))) T X:=λa p h=>by
   let e:k+(r.length+1)=k+1+r.length:=by ext
   rw[e];show ED I r (k+1) a p h λi A j q hi t=>?_;let e:k+1+i=k+(i+1):=by ext
   rw[e]at t⊢;show C (i+1) A j q (by simpa using hi) t
  show .eq (show mJ gt b (d::r) ρ Z=(b ρ1 S).bind λm Y=>match m with
   |.nx Q=>mJ gt b r Q Y
   |.ct Q=>mJ gt b r Q Y
   |.bk Q=>.ok (.nx Q) Y
   |.rt x=>.ok (.rt x) Y from ?_) (Out.bind (u.imp λm o k=>?_))
  .show((gt (.fz d) ρ Z).bind _)=_
   rw[w,eo]
   all_goals (cases b ρ1 S with
    |bad=>rfl
    |er x o=>rfl
    |ok m o=>ext m<;>rfl)
  .cases m with
   |nx r=>show l _ _ k
   |rt v=>show#[k]
   |ct r=>show k.elim
   |bk r=>show k.elim
def J3{b:gl}(I:Nat->bK->bA->Prop)(m:p ρ Z=.ok L S)(h:I 0 ρ S)(a:∀i d ρ Z,L[i]?=R d->I i ρ Z->∃ρ1 S,gt (.fz d) ρ Z=.ok ρ1 S/\mz (b ρ1 S) (I (i+1)) T X)(e:∀c l,I L.length c l->N c l):mz (A9 p gt b ρ Z) N T X:=by
 let:=ED I L 0 ρ S h (by simpa using a);rw[Xt]at this;show .eq ?_ (this.imp λj o k=>?_)
 .ext A9;rw[m,eo]
 .cases j with
  |nx r=>show e _ _ k
  |rt v=>show k
  |ct r=>show k.elim
  |bk r=>show k.elim
theorem jz(I:Nat->bK->bA->G SV->Prop):∀(L:G D) (k:Nat) (ρ:bK) (Z:bA) (a:G SV),I k ρ Z a->(∀i d ρ Z a,L[i]?=R d->I (k+i) ρ Z a->a.length<1000000/\∃ρ1,gt (.fz d) ρ Z=.ok ρ1 Z/\ft ρ1 Z=.ok P Z/\Out (fe ρ1 Z) (λx Y=>I (k+i+1) ρ1 Y (a++[x])) X)->Out (cR gt ft fe L ρ Z a) (λxs s=>∃c,I (k+L.length) c s xs) X
 |[],k,ρ,Z,a,h0,_=>#[ρ,h0]
 |d::r,k,ρ,Z,a,h0,A=>by
  let(q,ρ1,v,u,t):=A 0 d ρ Z a W h0;show .eq (show cR gt ft fe (d::r) ρ Z a=(fe ρ1 Z).bind λx J=>cR gt ft fe r ρ1 J (a++[x])from ?_) (Out.bind (t.imp λx o p=>?_))
  .show((gt (.fz d) ρ Z).bind _)=_
   rw[v,eo,u,eo,av W];cases fe ρ1 Z with
   |bad=>rfl
   |er x o=>rfl
   |ok x o=>show(if a.length<1000000 then _ else _)=_;rw[av q];rfl
  .let e:k+(d::r).length=k+1+r.length:=by rw[WJ];ext
   rw[e];show jz I r (k+1) ρ1 o _ p λi w h l j C m=>?_;let e:k+1+i=k+(i+1):=by ext
   rw[e]at m⊢;show A (i+1) w h l j (by simpa using C) m
def D3(c:j ρ Z=.ok L S)(a:Out (cR (λx ρ Z=>iw (gt x ρ Z)) (λρ Z=>iw (e ρ Z)) fe L (gj n h ρ) S []) (λxs Y=>T (.rf Y.length) (Y++[.lst xs])) X):Out (vL n h j gt e fe ρ Z) T X:=by ext vL;rw[c,eo];show Out.bind (a.imp λ_ _ k=>#[k])
def E4(a:fo ρ Z=.ok (.rf i) S)(h:S[i]?=R (.obj C fs))(hm:fs.lookup m=U)(j:fa ρ S=.ok xs Y)(c:(SV.rf i::xs).length=n):sW C m F n fo fa ρ Z=F (.rf i::xs) Y:=by
 let e:pd S C m (.rf i)=P:=by ext pd;dsimp only;rw[h];dsimp only;rw[hm];simp
 ext sW;rw[a,eo,av e,j,eo,av c]
def Ct(c:fa ρ Z=.ok xs S)(a:(SV.rf S.length::xs).length=n):Ap C F n fa ρ Z=(F (.rf S.length::xs) (S++[.obj C []])).bind λr Y=>(if HD r=P then .ok (.rf S.length) Y else .bad):=by ext Ap;rw[c,eo];ext x0;rw[av a]
def Bz(c:fa ρ Z=.ok xs S)(a:(xs++es.map SV.fz).length=n):sV F n es fa ρ Z=F (xs++es.map SV.fz) S:=by ext sV;rw[c,eo,av a]
def oz(h:j ρ Z=.ok xs S)(c:(xs++e.map SV.fz).length=n)(a:F (xs++e.map SV.fz) S=.ok x Y):pN F n e j ρ Z=.ok x Y:=by ext pN;rw[h,eo,av c,a];rfl
def Hf{c f:Str}(h:fe ρ Z=.ok (.fz d) S)(hd:L9.Up d=P):uj c f fe ρ Z=.er #[c,[(f,d)]] S:=by ext uj;rw[h,eo];dsimp only;rw[av hd]
end
end L10
namespace L3
open PySem PyProof.Rows L2
section
variable{P:WX}{w:Xm}{K:Ld}{Q:Str->bP Wi}{base h:Heap}{f T:Wo}{n:Str}{t:YK}{S:br Str}{Y:Nat}{N:Sp}{U:zK}{Z:Array Wi}
theorem NI.amJ(i:NI K f n t)(X:K.In h)(G:h.Ns WN Q)(b:BA n n t S)(ok:∀fd,Zl K n n t f fd->FnOk P w K Q base U Y f fd S N):pP P w K Q base U Y n S [] N:=
 let#[fd,z]:=i.F;#[f,fd,[],ok fd z,z.binds b,.nil,z.kp,Yt X G i.a]
structure DI(K:Ld)(f T:M)(n:Str)(t:YK)(Z:Array B):Prop where
 a:WW K WN n=R (R (.ref f))
 F:∃fd,acT K n n t f fd T Z
theorem Ny{x a:Str}{b:YK}{r:B}{q:I M}{kV e j:B}{l:I M}{i ct:B}{g:Array (I B)}{p:B}{o:I M}{k:Nat}{m:Array (I B)}
  (u:K.lookup f=R #[r,q,.func (X6 x a (g8 b) (cY b) (aG b) (.ref T) kV e j l i ct),g]) (y:aah K i a=Wl) (v:Yh K (.ref f)=Wl) (lt:K.lookup T=R #[p,o,.seq Z k,m]):acT K x a b f (X6 x a (g8 b) (cY b) (aG b) (.ref T) kV e j l i ct) T Z:=
 #[#[_,_,_,_,_,_,_,_,_,W,u,y],v,_,_,lt,W]
def BD(n:Str)(t:YK)(T:M)(Z:Array B)(S:G Str)(ds:G B):Prop:=∀(kV b e:B) (g:I M) (i ct:B) (a:G B),(a++ds).length=S.length->∃k:I (Array B)->Sem (G (Str×B)),bindArgs (X6 n n (g8 t) (cY t) (aG t) (.ref T) kV b e g i ct) #[a,[]]=seqItems? (.ref T)>>=k/\k (R Z)=pure (S.zip (a++ds))
theorem DI.cal{ds:br B}{a:br V}(i:DI K f T n t Z)(X:K.In h)(G:h.Ns WN Q)(e:BD n t T Z S ds)(b:Vals a ds)(ok:∀fd,acT K n n t f fd T Z->FnOk P w K Q base U Y f fd S N):pP P w K Q base U Y n S a N:=
 let#[fd,z]:=i.F;#[f,fd,ds,ok fd z,z.binds e,b,z.kp,Yt X G i.a]
end
structure Tp(P:WX)(w:Xm)(K:Ld)(mg:Str->I B)(base h:Heap):Prop where
 X:K.In h
 G:h.Ns WN mg
section
variable{P:WX}{w:Xm}{K:Ld}{X:Str->bP Wi}{base h:Heap}{f C T:Wo}{n m q:Str}{t:YK}{S fs:br Str}{Z:Nat}{Q:Sp}{Y:zK}{U:Array Wi}
theorem NI.c(i:NI K f n t)(W:Tp P w K X base h)(ok:∀fd,Zl K n n t f fd->FnOk P w K X base ef Z f fd S Q)(a:BA n n t S:=by ext:18):Bp P w K X base Z n S Q:=i.cal W.X W.G a ok
theorem NI.d(i:NI K f n t)(W:Tp P w K X base h)(ok:∀fd,Zl K n n t f fd->FnOk P w K X base Y Z f fd S Q)(a:BA n n t S:=by ext:18):pP P w K X base Y Z n S [] Q:=i.amJ W.X W.G a ok
theorem MI.mt(i:MI K C f m q t)(c:CI K C n fs)(W:Tp P w K X base h)(ok:∀fd,Zl K m q t f fd->FnOk P w K X base Y Z f fd S Q)(a:BA m q t S:=by ext:18):L10.cC P w K X base Y Z n m S Q:=i.ai3 c a ok
theorem MI.k(i:MI K C f "__init__" q t)(c:CI K C n fs)(W:Tp P w K X base h)(ok:∀fd,Zl K "__init__" q t f fd->FnOk P w K X base Y Z f fd S Q)(a:BA "__init__" q t S:=by ext:18):L10.wx P w K X base Y Z n S Q:=i.alA c W.X W.G a ok
theorem DI.c{ds:G B}{dvs:G V}(i:DI K f T n t U)(W:Tp P w K X base h)(a:Vals dvs ds)(ok:∀fd,acT K n n t f fd T U->FnOk P w K X base Y Z f fd S Q)(b:BD n t T U S ds:=by ext:31):pP P w K X base Y Z n S dvs Q:=i.cal W.X W.G b a ok
end
end L3
namespace LD
open PySem PySem.Spec PyProof.Rows L2 L3
section
variable{X:WX}{w:Xm}{K:Type}[DecidableEq K]{Y:alg X w K}{A:W8}{E:Wi->Ws->Prop}{s:Ws}
def Ha(t:Y.room A)(g:Y.is s.heap k a)(hm:s.heap.DictOfH Y d xs)(D:xs.length<=WG)
  (F:∀p,atKey xs k=R p->Q p.2 {s with toks:=s.toks+Y.draws k})
  (C:atKey xs k=U->∀c,c.DictOfH Y d (storedH xs k a v)->Heap.SameBut d s.heap c->Q v {s with heap:=c,toks:=s.toks+Y.draws k}):wpAny (model X w) A (dictSetDefault d (.ref a) v) Q E s:=by
 let(o,H,G,h,B,f,n,m,J):=hm;ext dictSetDefault
 try specialize X2 ?_
 show Wf (Y.pyHash t g (Wf (wpAny_dictFind_heap t g h f n m J (λi=>?_) λj p u=>?_)))
 .let l:=atKey_none_of_get i
  let q:=C l;rw[storedH_new l]at q;let r:=not_mem_keys_of_get i;show Wf (aai (Wf (wpAny_updateDictKeys (hz:=by let e:=aj4 n;ext) h f (Wt (q _ #[_,_,G+1,dk _ h (Obj.isFreed_of_dict (Obj.data_mapDictKeys f _)),B.mapDictKeys _,Obj.data_mapDictKeys f _,by simp[n,entryOfKey],λx b=>?_,?_] (Heap.SameBut.update ..))))))
  .rcases Xn.mp b with b|b
   .show Y.keeps (m x b) h f (Heap.SameBut.update ..)
   .rw[WO.mp b];show Y.keeps g h f (Heap.SameBut.update ..)
  .rw[WI,ZN];show#[J,by simp,λx b y z e=>r (by rw[WO.mp z]at e;rw[show k=x from e.symm];show b)]
 .let q:=F p (atKey_of_get J u);show Wf (aii h f ?_);rw[entry_at n j,u];show Wf (aai (Wt q))
theorem Bk(d a:M)(hd:(d==X4)=Wu)(v:B):MeetsIn X w (W7.«dict.setdefault» #[[.ref d,.ref a,v],[]]) (λA R s=>Y.room A.in1/\∃k xs,Y.is s.heap k a/\s.heap.DictOfH Y d xs/\xs.length<=WG/\
  (∀p,atKey xs k=lD p->R (.ok (.ret p.2)) {s with toks:=s.toks+Y.draws k})/\(atKey xs k=U->∀c,c.DictOfH Y d (storedH xs k a v)->Heap.SameBut d s.heap c->R (.ok (.ret v)) {s with heap:=c,toks:=s.toks+Y.draws k})):=
 .of_wp λA R s #[h,k,xs,g,hm,b,l,j]=>by show Wf ?_;show Wf (ago hm.typeIs ?_);show Wt ?_;show wpAny _ _ (if(d==X4)=P then _ else(dictSetDefault d (.ref a) v>>=_)) _ _ s;rw[ax (by rw[hd];show WM)];show Wf (Ha h g hm b (λp i=>Wt #[p.2,W,l p i]) λm c f e=>Wt #[v,W,j m c f e])
end
section
variable{X:Cx}{Z:br (Wo×Obj)}{Y:L2.St}{H:Hp}{s:Ws}{A:W8}{E:Wi->Ws->Prop}{a b:Wo}{T:br (KD×Wo×V)}{k:KD}{v:V}{r:Wi}
def Ou(M:A.units+64<cLine)(I:L2.Inv X Z Y H s)(e:H a=R (DkO a T))(y:u7 X.K H T)(C:L2.DV X.K H (.ref b) k.1)(x:RelV v r)(N:T.length<WG)
  (J:∀u d c,mS T k=R u->L2.Inv X Z Y H c->RelV u d->Q d c) (G:mS T k=U->∀c,L2.Inv X Z Y (bW H a (DkO a (oV T k b v))) c->Q r c):
  wpAny (model X.prog X.w) A (call (.builtin "dict.setdefault") [.ref a,.ref b,r]) Q E s:=by
 let(z,m,l,h,dd):=Bb I e y;let n:l.length<=WG:=by rw[<-Paired.length h];show z
 let j:(oV T k b v).length<=WG:=by let:=tf T k b v;ext
 let f:=zL (k:=k) h;show adi acI dd.typeIs PySem.F.entry_dict_setdefault (PySem.F.args_dict_setdefault_3 _ _ _) (Bk a b m r) #[uf (),k,l,wm I C,dd,n,λp t=>?_,λhn L i o=>?_]
 .rw[t]at f
  cases g:mS T k with
  |none=>rw[g]at f;show f.elim
  |some u=>rw[g]at f;show J u p.2 _ g (I.tok _) f
 .rw[hn]at f
  cases g:mS T k with
  |some u=>rw[g]at f;show f.elim
  |none=>
   show G g _ ?_;let B:∃q,L.get? a=R q:=let#[q,_,_,S,_]:=i;#[q,S]
   show qH I (by rw[e];show True.intro) o B (DM j m (LS x h) i)
def P3(K:Ld)(h ty g:TE):TE:=λY H Q=>h Y H λx f=>∃a j,x=.ref a/\f a=R (DkO a j)/\ty Y f λy i=>g Y i λz e=>∃b T k,y=.ref b/\e a=R (DkO a T)/\u7 K e T/\L2.DV K e (.ref b) k.1/\T.length<WG/\
 (∀u,mS T k=R u->Q u e)/\(mS T k=U->Q z (bW e a (DkO a (oV T k b z))))
end
section
variable{X:Cx}{o e f:XB}{td ty tx:TE}{Z Zo:Pos}
def ag3(R:X.A.units+64<cLine)(S:PE X o td)(Y:PE X e ty)(U:PE X f tx)(m:M2 X o "setdefault" Z e f Zo):PE X (.Call (.Attribute o "setdefault" Z) [e,f] [] Zo) (P3 X.K td ty tx):=by
 intro i s j H Q I h;show aie m.base m.few m.line ZA acI PySem.F.type_dict_setdefault (de (S i s j H _ I h) λu C a=>?_);let(x,H1,q,G,a,r,ex,e0,N):=a;subst ex;obtain rfl:=G;let(v,t,_):=Gd q e0;show#[v,t,?_];rw[m.trees];show Calls.callWith_builtin W (Calls.evalArgs_plain (Calls.spliced_cons (de (Y i C j H1 _ q N) λiv B #[y,H2,I2,E,A]=>
  Calls.spliced_cons (de (U i B j H2 _ I2 A) λfv s3 a=>?_))));let(z,H3,I3,p,b,xs,k,ey,e3,O,F,T,L,J):=a;show Calls.spliced_nil ?_
 subst ey;obtain rfl:=E;show Ou R I3 e3 O F p T (λu w' w g n l=>#[u,H3,n,l,L u g]) λg w n=>#[z,_,n,p,J g]
end
end LD
namespace L10
open PySem PyProof.Rows L2 L3 LD
section
variable{B O O':cS}{K:Ld}{E:XK}{H H' H1 H2:Hp}{α α' U X:br Wo}{Z Z' Z1 S Y:bA}{T:L2.St}{ρ:bK}{v:V}
def B7(fd b a:dA):dA:=λρ Z=>(fd ρ Z).bind λo Z1=>(RS.Xu Z1 (su Z1 o)).bind λ_ Z1=>(b ρ Z1).bind λx S=>(a ρ S).bind λz Y=>(RS.Xu Y (na x)).bind λk Y=>(RS.Xu Y (TQ z)).bind λe Y=>(RS.Xu Y (su Y o)).bind λp Y=>
 if p.2.length<1000000 then(match jh p.2 k with
  |some d=>.ok (.fz d) Y
  |none=>.ok (.fz e) (Y.set p.1 (.dd (rb p.2 k e))))else .bad
def Mu(hd:c8 K E td fd)(D:c8 K E tk fk)(c:c8 K E tx fx):c8 K E (P3 K td tk tx) (B7 fd fk fx):=by
 intro B T H α Z ρ Q s t w;show hd B T H α Z ρ _ s t (w.bind.imp λo U Z1 H1 e1 L r u N=>?_);let((i0,ai5),q0,r):=WS.Xu r;let(_,a,p,_,rfl,g0,_):=xY L N q0;show#[a,p,W,g0,?_];show D B T H1 U Z1 ρ _ L (t.YV e1) (r.bind.imp λx X S H2 e2 s2 w2 v hv=>?_);show c B T H2 X S ρ _ s2 (t.YV (e1.trans e2)) (w2.bind.imp λz f Y j e3 A g l hz=>?_);let(d,q1,g):=WS.Xu g;let(e,C,g):=WS.Xu g;let((i,W3),q2,g):=WS.Xu g;let(F,a',xs,ha,ea,g1,n):=xY A (N.YV (e2.trans e3)) q2;ext ea;let(k,b,rfl,rfl,P):=qZ q1 (hv.YV e3);let h:L3.DV (ow B f Y) K j l e:=by
  cases z with
  |fz d=>ext C;show hz
  |rf _=>ext C
  |tp _=>ext C
 by_cases I:W3.length<1000000
 .rw[av I]at g
  let G:xs.length<WG:=vf (by rw[Paired.length n];show I);let(M,p2):=rq n;show#[b,xs,k,W,g1,xj n,P.plain,G,λu m=>?_,λR=>?_]
  .cases q:jh W3 k.1 with
   |none=>rw[p2 q]at m;ext m
   |some y=>rw[q]at g;let(u',J,h'):=M y q;rw[J]at m;ext m;show WS.now A g _ h'
  .cases q:jh W3 k.1 with
   |some y=>let(u',J,_):=M y q;rw[J]at R;ext R
   |none=>rw[q]at g;let ev:Ev (ow B f Y) j (ow B f Y) (bW j a (DkO a (oV xs k b l))):=rL ha F (by nofun);let e4:Yn f Y j f (Y.set i (.dd (rb W3 k.1 e))) (bW j a (DkO a (oV xs k b l))):=Yn.put ha F (by nofun) (by nofun);show g f _ e4 (A.put ha F (by nofun) (by nofun) #[_,aY,AW (P.ev ev) (h.ev ev) (KS ev n)]) l (ZC.YV e4 h)
 .rw[ax I]at g;show g.elim
end
end L10
namespace LD
open PySem PySem.Spec PyProof.Rows L2 L3
section
variable{Y:WX}{w:Xm}{K:Type}[DecidableEq K]{X:alg Y w K}{A:W8}{E:Wi->Ws->Prop}{s:Ws}
theorem Dj(d:M)(hd:(d==X4)=Wu):MeetsIn Y w (W7.«dict.__len__» #[[.ref d],[]]) (λ_ R s=>∃xs,s.heap.DictOfH X d xs/\R (.ok (.ret (.int xs.length s.toks))) {s with toks:=s.toks+1}):=
 .of_wp λA R s #[xs,hm,h]=>by let(o,i,j,b,g,a,f,e,l):=hm;show wpAny _ _ (dictSize d>>=_) _ _ s;show Wf (Wf (aii b a (Wt ?_)));show Wf (wpAny_pendingCount_other hd ?_);show wpAny_ret_mkInt ?_;rw[Nat.add_zero,aj4 f];show h
def LK(hd:(d==X4)=Wu)(hm:s.heap.DictOfH X d xs)(a:(xs.length:Int)<2^63)
  (h:Q (.int xs.length (s.toks+1)) {s with toks:=s.toks+1+1}):wpAny (model Y w) A (call (.builtin "len") [.ref d]) Q E s:=by
 show Calls.call_function_entry kind_len plain_len entry_len (args_len1 _) ?_;show Wf (Wt ?_);show Wf (X0 hm.typeIs adZ
  (adi adZ hm.typeIs PySem.F.entry_dict_len (PySem.F.args_dict_len_1 _) (Dj d hd) #[xs,hm,?_]))
 show Wf (X2 (Wt ?_));show Wf (Zu ?_);rw[ax ()];rw[ax ()];show Wf (agA (Wt #[_,W,h]))
end
def ME(K:Ld):G V->Hp->(V->Hp->Prop)->Prop:=λxs H Q=>∃a b,xs=[V.ref a]/\H a=R (DkO a b)/\u7 K H b/\Q (.int b.length) H
def aeS:Zf X (.builtin "len") (ME X.K):=by intro e s j H xs m Q I r h;let(a,o,rfl,n,g,q):=h;let(u,rfl,f):=mn r;ext f;let(z,i,l,b,dd):=Bb I n g;show LK i dd (by rw[<-Paired.length b];rw[YO]at z;ext) ?_;rw[<-Paired.length b];show#[.int o.length,H,I.tok _,#[_,W],q]
end LD
namespace L10
open PySem PyProof.Rows L2 L3 LD
section
variable{B O Y:cS}{K:Ld}{E:XK}
def sj(fd:dA):dA:=λb Z=>(fd b Z).bind λo a=>(RS.Xu a (su a o)).bind λp a=>.ok (.fz (.int p.2.length)) a
def HB(hd:c8 K E v fd):c8 K E (Hi (ME K) (fL v ju)) (sj fd):=by intro B h H α Z t Q s j w;show hd B h H α Z t _ s j (w.bind.imp λo b q r p f e u m=>?_);let((i,z),l,e):=WS.Xu e;let(_,a,xs,y,rfl,n,g):=xY f m l;show#[a,xs,W,n,xj g,?_];rw[Paired.length g];show e b _ .refl f _ (.int _)
def nv(c:dA):MG:=λb Z=>(c b Z).bind λx a=>(RS.Xu a (TQ x)).bind λd a=>RS.Xu a (gW [d])
def KB(h:c8 K E y z):Ra K E (L6 (fL y ju)) (nv z):=by
 intro B i H α Z u r s l w;show h B i H α Z u _ s l (WS.imp (WS.bind w) λx b p g q m a v n=>?_);let(d,e,a):=WS.Xu a;cases t:gW [d]with
 |none=>rw[t]at a;show a.elim
 |some ds=>
  rw[t]at a;let o:L3.DV (ow B b p) K g v d:=by
   cases x with
   |fz d=>ext e;show n
   |rf _=>ext e
   |tp _=>ext e
  cases d with
  |int j=>
   unfold gW at t;dsimp only at t;split at t
   .rename_i f;ext t;ext o;show#[j,W,f.1,f.2,a b g .refl m _ AH]
   .ext t
  |_=>ext t
end
end L10
namespace L4
open PySem PySem.Spec PyProof.Rows L2 L3
def J6(d:XK)(f e:TS):TS:=λD b H=>f D b H/\∀c g H1,d c g H1->∀(a:L2.St),a.length=b.length->e {nx:=D.nx,rt:=λ_ _=>False} a H1
def EW{X:Cx}{G Q:br YK}{b0:YK}{tb ts:TS}{E2:XK}{U:Wo}{x:Str}{np amu pos:Pos}{mU:br Wi}
  (hex:X.ex=[]) (eX:X.stack=X.env::X.outer) (V:X.env.frame=lD X.env.locals) (hg:Gl X x) (hm:X.mg x=lD (.ref U)) (hU:xJ X.K U mU) (hbU:mU.contains (.type "BaseException")=Wl)
  (hb:∀l,PSs ((Cx.pinned X l).abj (JR (Cx.pinned X l) E2)) G tb) (hs:∀l e,PSs (Cx.marked (Cx.pinned X l) e) (b0::Q) ts)
  (hE:∀c d H,E2 c d H->∃C m,c=.ref C/\xJ X.K C m/\(Wi.ref C::m).contains (.ref U)=Wl) (hdb:(x==("__debug__":Str))=Wu:=by decide):
  PS X (.Try G [.ExceptHandler (lD (.Name x np)) Wh (b0::Q) amu] [] [] pos) (J6 E2 tb ts):=by
 intro g s σ H D I #[h,hc];let IY:=Nx I;let N:(Cx.pinned X (X.pn++g)).ex=[]:=hex;show wpAny_Try_except (wpAny_mono (hb (X.pn++g) [] s σ H D (IY.abj _) h) (λf P n=>?_) (λv P hx=>?_))
 .let n:=SP.aaa n
  cases f with
  |next=>let(a,j,i,E):=n;show aat #[a,j,k6 I.ok i,E]
  |brk=>let(a,j,i,E):=n;show#[a,j,k6 I.ok i,E]
  |cont=>let(a,j,i,E):=n;show#[a,j,k6 I.ok i,E]
  |ret u=>let(v,a,j,i,r,E):=n;show#[v,a,j,k6 I.ok i,r,E]
 .let(a,j,e,c,d,a0,T,rfl,i,F,Y,S,ne,nT,q):=hx
  let(C,mC,hcC,(n1,E,N1,b1,d1,t1,u1,a1,l1,x1,i0,i1,i2,i3,i5,id1,kC),hup):=hE c d j q;let(n2,q2,N2,b2,d2,t2,u2,a2,l2,x2,j0,j1,j2,j3,j5,id2,kU):=hU;let fr:X.A.frames=lD (X.env::X.outer):=by rw[<-eX];show I.ok.frames
  let ff:P.heap.FunFrames X.base (X.env::X.outer):=by rw[<-eX];show i.stack
  show Oi fr ff V F λh2 Z z2 F2 O=>?_
  let I2:L2.Inv (Cx.pinned X (X.pn++g)) [] a j {P with heap:=h2}:=wq i (λb=>b=e\/b=T) N (λp R y=>y.elim (Y.nP p R) (S.nP p R))
   (λb o z t nf=>O.keep b o z (λy=>t (.inl y)) (λy=>t (.inr (WE y).symm)) (by rw[<-eX];show nf))
   (λb o z t=>O.slot b o z (λy=>t (.inl y)) (λy=>t (.inr (WE y).symm))) O.here
   (λb y=>y.elim (λy=>by rw[y];show Y.n0) (λy=>by rw[y];show S.n0)) (λy=>y.elim (λy=>Y.nL y.symm) (λy=>S.nL y.symm))
   (λy k z w=>w.elim (Y.nC y k z) (S.nC y k z)) (λb y=>y.elim (λy=>by rw[y];show ne) (λy=>by rw[y];show nT))
  let B:Apart (Cx.pinned X (X.pn++g)) Z:=vh i N (dN z2);let nT2:j Z=Wh:=i.XY.fresh z2;show wpAny_handleBy_cons (codeAny_handlers_test (og (X:=Cx.marked (Cx.pinned X (X.pn++g)) e) (uQ I2 e) hg hm ?_ hdb)) (by nofun);let F2':=F2;let(ob,fs,qe,cE,dE,dF,_):=F2';show Ky (I2.kIn _ _ kC) (I2.kIn _ _ kU) qe (cE.trans hcC) hbU hup ?_;show codeAny_handlers_suite (SR F2 λh3 F3 M hT3=>?_)
  let I3:L2.Inv (Cx.pinned X (X.pn++g)) [] a j {P with heap:=h3}:=wq (s:={P with heap:=h2}) I2 (λb=>b=Z) N (λp R y=>B.nP p R y)
   (λb o z t _=>(M b t).trans z) (λb o z t=>#[o.slots,(M b t).trans z])
   (λb o z=>(Classical.em (b=Z)).elim (λy=>by rw[y];show hT3) (λy=>#[o,(M b y).trans z])) (λb y=>by rw[y];show B.n0) (λy=>B.nL y.symm) (λy k z w=>B.nC y k z w) (λb y=>by rw[y];show nT2)
  let w:=hc c d j q a (i.len.trans I.len.symm);show wpAny_mono (hs (X.pn++g) e [] _ _ _ _ (uQ I3 e) w) (λf s5 n=>?_) (λy s5 z=>z.elim);cases f with
  |next=>let(J,H2,A,L):=n;show#[_,_,k6 I.ok (D7 IY.ok A),L]
  |brk=>let(J,H2,A,L):=n;show L.elim
  |cont=>let(J,H2,A,L):=n;show L.elim
  |ret u=>let(v,J,H2,A,r,L):=n;show L.elim
end L4
namespace L10
open PySem PySem.Spec PyProof.Rows L2 L3
def Nq(c:dA):dA:=λb Z=>(c b Z).bind λo a=>(RS.Xu a (ic a o)).bind λp a=>.ok (.fz .none) (a.set p.1 (.lst []))
def Py{K:Ld}{E:XK}{to:TE}{c:dA}(n:c8 K E to c):c8 K E (Tm K "list" LV to) (Nq c):=by intro B j H α Z A Q s l w;show n B j H α Z A _ s l (w.bind.imp λo b t u r f e v m=>?_);let((i,xs),q,e):=WS.Xu e;let(g,a,y,z,rfl,h,p):=yN f m q;show#[.inl #[W,y,SqL.of h],a,y,W,W,h,?_];show e b _ (Yn.put z g (by nofun) (by nofun)) (f.put z g (by nofun) (by nofun) #[_,aY,.nil]) _ .YM
def Q0{c:bK}{Z b:bA}{i:Nat}{d:dA}{xs:G SV}(h:d c Z=.ok (.rf i) b)(a:b[i]?=R (.lst xs)):Nq d c Z=.ok (.fz .none) (b.set i (.lst [])):=by ext Nq;rw[h,eo,show ic b (.rf i)=R (i,xs) by ext ic;dsimp only;rw[a]];rfl
end L10
namespace L10
open PySem PySem.Calls PyProof.Rows L2 L3
def Vg(K:Ld)(a:M)(n:Nat):It:=
 #[λi H=>∃xs x,SqL K H a xs/\i<n/\xs[n - 1 - i]?=R x,λi H x b=>b=H/\∀xs,SqL K H a xs->xs[n - 1 - i]?=R x,λi _=>n<=i]
theorem LX{P:WX}{w:Xm}{K:Ld}{S:XB}(a g:Wo)(n:Nat):Turn P w K S (Vg K a n) [g] g (λi h=>i<=n/\h.IsRevIter g a ((n:Int) - 1 - (i:Int))) where
 mem:=by simp
 obj:=λi h f b m=>by
  let e:b=g:=by simpa using m
  subst e;let(_,o,e,c,d):=f;show#[o,e,λv z=>by rw[d]at z;ext z]
 keep:=λi h t f k=>#[f.1,f.2.at λo e=>k g (by simp) o e]
 item:=by
  intro X B A C R i j s N H E I r f q;subst B A C;let(xs,x,Q,hi,O):=q;let(Xp,rv,p,hz):=I.list Q;let(u,Z,U):=rv.get O;let(M,L,f2,J,G,F):=r g (by simp);let l:s.heap.IsRevIter g a ((n - 1 - i:Nat):Int):=by let:=f.2;rwa [show(n:Int) - 1 - (i:Int)=((n - 1 - i:Nat):Int) by ext]at this
  show wpAny_pyNext_rev_item l p.isList (x:=u) (by simpa using Z) λt y T=>?_;let I1:Inv X j N H {s with heap:=t}:=I.turned (t':=s.toks) (λb o m e=>(T.2 b m).trans e) M L J G F;let(o,e,c,d):=id y;show#[u,W,Fz (s:={s with heap:=t}) e c d () #[x,H,I1,U,#[W,λys Y=>by rw[I.aeg Y Q];show O],#[hi,?_],λb m=>(r b m).1]];rwa [show(n:Int) - 1 - ((i+1:Nat):Int)=((n - 1 - i:Nat):Int) - 1 by ext]
 done:=by
  intro X B A C R i j s N H E I r f q;subst B A C;let(M,L,f2,J,G,F):=r g (by simp);let q:n<=i:=q;let l:s.heap.IsRevIter g a (-1):=by let:=f.2;rwa [show(n:Int) - 1 - (i:Int)= -1 by let:=f.1;ext]at this
  show wpAny_pyNext_rev_end (I.ok.hd R) l λt eb=>#[W,I.turned (t':=s.toks) (λb o m e=>eb b o m e) M L J G F]
 self:=λ_ _ _ _ _ f h=>agB f.2 h
def Qk(K:Ld)(f:TE):TI:=λe H R=>f e H λx b=>∃a xs,x=.ref a/\SqL K b a xs/\R (Vg K a xs.length) b
def Tu{X:Cx}{t e:XB}{m:TE}{p l:Pos}(z:Gl X "reversed")(hm:X.mg "reversed"=U)(A:PE X e m)(q:W5 [e] X.env=[(Wu,eval e X.env)]:=by rfl):PI X t (.Call (.Name "reversed" p) [e] [] l) (Qk X.K m):=by
 intro g s r H R I h;show Y2 (pW I z hm CJ ?_);show YT ?_ q W;rw[q];show wpAny _ _ (spliced ((Wu,eval e X.env)::[])) _ _ s;show Calls.spliced_cons (de (A g s r H _ I h) λu f a=>?_);let(x,E,j,v,a,xs,C,y,w):=a;show Calls.spliced_nil ?_;subst C;obtain rfl:u=Wi.ref a:=v;let(i,J,pl,F):=j.list y;show call_reversed_list pl.isList ?_;let n:(f.heap.push (revObj a ((i.toArray.size:Int) - 1))).IsRevIter f.heap.objs.size a ((i.toArray.size:Int) - 1):=#[_,cN _ W,W,W];show agB (s:={f with heap:=f.heap.push (revObj a ((i.toArray.size:Int) - 1))}) n ?_;show#[f.heap.objs.size,[f.heap.objs.size],_,_,E,W,j.kept (t':=f.toks) λb o e=>cj _ e,LX a _ xs.length,#[Xq _,?_],λb B=>?_,w]
 .let:i.toArray.size=xs.length:=by rw[WA,<-J.length]
  rw[this]at n;rwa [show((xs.length:Nat):Int) - 1 - ((0:Nat):Int)=(xs.length:Int) - 1 by ext,this]
 .let e:b=f.heap.objs.size:=by simpa using B
  subst e;show j.adt (Ww _) (j.XY.fresh (Ww _))
def SI{O:cS}{K:Ld}{H:Hp}{a:M}{xs:G V}{ds:G D}(h:acn O K H a xs)(hd:Yb O K H xs ds):A0 K (Vg K a xs.length) O H ds.reverse:=by intro p q e n;let g:=h.ev e;let b:=hd.ev e;let f:xs.length=ds.length:=hd.length;show#[λi t=>?_,by show xs.length<=ds.reverse.length;rw[Zr,f];show Ww _];rw[Zr]at t;let(x,m,_):=b.get (i:=xs.length - 1 - i) (Wr ());show#[#[xs,x,g.1.sq,by ext,m],?_];rintro y o ⟨rfl,r⟩;let(d,l,j):=b.agI (r xs g.1.sq);show#[Yo.refl _,d,?_,j];rw[aeB (),<-f];show l
def FC(c:dA):MG:=λb Z=>(c b Z).bind λx a=>(match frz 4 a x with
 |some (.list ds,e)=>.ok ds.reverse e
 |_=>.bad)
def Pd{K:Ld}{E:XK}{e:TE}{c:dA}(h:c8 K E e c):Ra K E (Qk K e) (FC c):=by
 intro B f H α Z A z s g w;show h B f H α Z A _ s g (WS.imp (WS.bind w) λx b r t u j a v l=>?_);cases q:frz 4 r x with
 |none=>rw[q]at a;show a.elim
 |some p=>
  let(d,y):=p;rw[q]at a;let(i,n,o):=sk 4 j l q;cases o with
  |lst h m=>show#[_,_,W,h.1.sq,a b t n i _ (SI h m)]
  |_=>show a.elim
end L10
namespace L10
open PySem PyProof.Rows L2 L3
def BZ(f:Str)(c:dA):dA:=λg Z=>(c g Z).bind λx a=>match x with
 |.rf i=>(match a[i]? with
  |some (.obj _ b)=>(match b.lookup f with
   |some (.rf j)=>(match frz 4 a (.rf j)with
    |some (d,e)=>(match e[i]? with
     |some (.obj C fs)=>(match fs.lookup f with
      |some (.rf k)=>if k=j then .ok (.rf i) (e.set i (.obj C (eF f (.fz d) fs)))else .bad
      |_=>.bad)
     |_=>.bad)
    |_=>.bad)
   |_=>.bad)
  |_=>.bad)
 |_=>.bad
section
variable{B O:cS}{K:Ld}{E:XK}{H:Hp}{Y:br Wo}{f:Str}
theorem DB{y:SV}:∀{ws:G (Str×V)} {fs:G (Str×SV)},Paired (λ(p:Str×V) (q:Str×SV)=>p.1=q.1/\ZC O K H Y p.2 q.2) ws fs->fs.lookup f=R y->∃v,ZC O K H Y v y/\∀x,ZC O K H Y v x->Paired (λ(p:Str×V) (q:Str×SV)=>p.1=q.1/\ZC O K H Y p.2 q.2) ws (eF f x fs)
 |_,_,.nil,h=>by ext h
 |w::ws,(g,z)::fs,.cons r t,h=>by
  rw[WT]at h;ext eF;by_cases e:f=g
  .subst e;rw[ej]at h;ext h;show#[w.2,r.2,λx a=>by rw[av W];show .cons #[r.1,a] t]
  .rw[beq_eq_false_iff_ne.mpr e]at h;let(v,i,b):=DB t h;show#[v,i,λx a=>by rw[ax λz=>e z.symm];show .cons r (b x a)]
def IU{t:TE}{c:dA}(h:c8 K E t c):c8 K E t (BZ f c):=by
 intro B M H Y Z ρ Q s R w;show h B M H Y Z ρ _ s R (w.bind.imp λx g Z1 l e1 G b v hv=>?_);cases x with
 |fz _=>show b.elim
 |tp _=>show b.elim
 |rf i=>
  dsimp only at b;split at b
  .rename_i fs1 X
   split at b
   .rename_i j U
    split at b
    .rename_i d r T
     split at b
     .rename_i C fs m
      split at b
      .rename_i k S
       by_cases e:k=j
       .rw[av e]at b
        subst e;let(a,z,rfl):=hv;let(Ca1,dx1,N,_,g1,o):=G.cel i a _ z X;let(u,J,_):=DB o U;let(F,e2,d2):=sk 4 G J T;let(y,dx,ws,n2,q,n):=F.cel i a _ z m;let(P,p,pt):=DB n S;let eu:P=u:=by let(b1,k1,rfl):=J;let(b2,I,rfl):=p;rw[k1]at I;ext I;rfl
        subst eu;let L:Yn g r l g (r.set i (.obj C (eF f (.fz d) fs))) (bW l a (.ins y dx ws)):=Yn.put z m (by nofun) (by nofun);let A:Xg B K (bW l a (.ins y dx ws)) g (r.set i (.obj C (eF f (.fz d) fs))):=F.put z m (by nofun) (by nofun) (by rw[L9.vX q];show#[y,dx,ws,n2,q,pt _ d2]);rw[L9.vX q]at L A;show b g l (e2.trans L) A _ #[a,z,W]
       .rw[ax e]at b;show b.elim
      .show b.elim
     .show b.elim
    .show b.elim
   .show b.elim
  .show b.elim
def Nd{p:dA}{k:bK}{Z c b:bA}{i j:Nat}{C o:Str}{a fs:G (Str×SV)}{d:D}(h:p k Z=.ok (.rf i) c)(n:c[i]?=R (.obj o a))(m:a.lookup f=R (.rf j))(l:frz 4 c (.rf j)=R (d,b))(g:b[i]?=R (.obj C fs))(e:fs.lookup f=R (.rf j)):BZ f p k Z=.ok (.rf i) (b.set i (.obj C (eF f (.fz d) fs))):=by ext BZ;rw[h,eo];dsimp only;rw[n];dsimp only;rw[m];dsimp only;rw[l];dsimp only;rw[g];dsimp only;rw[e];show av W
end
end L10
namespace L10
open PySem PySem.Spec PySem.W PyProof.Rows L2 L3 PySem.SeqAt
def FJ(K:Ld):V->G V->Hp->VK->Prop:=λx xs H Q=>∃(l:M) (bs:G Bool) (j:Nat),x=.ref l/\SqL K H l (bs.map V.bl)/\xs=[.bl P]/\bs[j]?=R P/\(∀m,m<j->bs[m]?≠R P)/\j<1000/\Q (.int (j:Nat)) H
def xq{X:Cx}:TL X "list.index" (FJ X.K):=by
 rintro h s F H x xs v p Q I t a ⟨l,bs,j,rfl,N,rfl,S,L,T,q⟩;obtain rfl:v=.ref l:=t;obtain rfl:p=[.bool P]:=L4.zw (bs:=[P]) a;let(J,r,(o,n,i,E,G,f),_):=I.list N;obtain rfl:=L4.zw r;let(A,B):=Wj.mp S;let(w,u,e,b):=o;obtain rfl:w=.type "list":=E;obtain rfl:e=.seq (bs.map Wi.bool).toArray n:=f;show Y3 XH #[_,i,W] aav (aam _ _) (list_indexAt l (bs.map Wi.bool).toArray n u b (.bool P) (isBoolOf P) j (by simpa using A) () ?_ λm hm lt=>?_) #[i,λy C=>L4.T5 P (by simpa using C) _ _,?_]
 .simp[isBoolOf,B]
 .let g:m<bs.length:=by simpa using hm
  let:=L m lt;rw[Wr g]at this;simp only[Ze,List.getElem_map,isBoolOf];show beq_eq_false_iff_ne.mpr λz=>this (by rw[z])
 .show#[.int (j:Nat),H,I.tok _,#[_,W],q]
def CM:G Bool->I Nat
 |[]=>U
 |b::r=>if b=P then R 0 else(CM r).map (·+1)
theorem ur:∀{bs:G Bool} {j:Nat},CM bs=R j->bs[j]?=R P/\∀m,m<j->bs[m]?≠R P
 |[],_,h=>by ext h
 |b::r,j,h=>by
  unfold CM at h;split at h
  .rename_i e;ext h;show#[by rw[e];rfl,λm hm=>by ext]
  .rename_i e
   cases q:CM r with
   |none=>rw[q]at h;ext h
   |some i=>
    rw[q]at h;ext h;let(f,a):=ur q;show#[f,λm hm=>?_];cases m with
    |zero=>intro z;show e (WE z)
    |succ m=>show a m (by let hm:m+1<i+1:=hm;ext)
def mW:G D->I RV
 |[.list a]=>(match pJ a with
  |some bs=>(match CM bs with
   |some j=>if j<1000 then R (.fz (nd j))else U
   |none=>U)
  |none=>U)
 |_=>U
def Vf(K:Ld):G V->Hp->VK->Prop:=λxs H Q=>match xs with
 |[x]=>U4 K "list" x H/\FJ K x [.bl P] H Q
 |_=>False
def FB{K:Ld}:Iv K (Vf K) mW:=by
 intro O H xs ds r Q n m e q;unfold mW at e;split at e
 .rename_i p
  split at e
  .rename_i bs g
   split at e
   .rename_i j h
    split at e
    .rename_i lt
     ext e;cases m with
     |cons b f=>ext f;let(a,o,rfl,b,f):=Du b;let:=yt f g;subst this;let(l,i):=ur h;show#[.inl #[W,_,b.sq],a,bs,j,W,b.sq,W,l,i,lt,q.at (.int _)]
    .ext e
   .ext e
  .ext e
 .ext e
def NY{K:Ld}{E:XK}{a:TE}{b:FE}(h:EO K E a b):EO K E (Qd K "list" (FJ K) a (fL (tC (.bl P)) ju)) (gq mW (ah b aC)):=by show EO K E (Hi (Vf K) (fL a ju)) _;show iy FB (aF h bt)
def K6{K:Ld}{E:XK}{a:TE}{b:dA}(h:c8 K E a b):c8 K E (Qd K "list" (FJ K) a (fL (tC (.bl P)) ju)) (kK mW (am b aJ)):=by show c8 K E (Hi (Vf K) (fL a ju)) _;show fS FB (aA h bp)
end L10
namespace L10
open PySem PyProof.Rows L2 L3
abbrev UD:=bK->bA->RS (I Int)
def AN:UD:=λ_ Z=>.ok U Z
def xp(c:dA):UD:=λb Z=>(c b Z).bind λx a=>match x with
 |.fz (.int i)=>.ok (R i) a
 |_=>.bad
section
variable{K:Ld}{E:XK}
def U2(K:Ld)(E:XK)(t:TO)(f:UD):Prop:=∀(B:cS) (a:L2.St) (H:Hp) (α:G M) (Z:bA) (h:bK) (Q:I Int->Hp->Prop),Xg B K H α Z->Zg (ow B α Z) K H α a h->WS K E B H α Z (λi b g e=>Q i e) (f h Z)->t a H Q
theorem JB:U2 K E E8 AN:=λB a H α Z e Q s b w=>w α H Yn.refl s
def L5{f:TE}{c:dA}(k:c8 K E f c):U2 K E (IW f) (xp c):=by
 intro B h H α Z o Q s j w;show k B h H α Z o _ s j (w.bind.imp λx a m g n l b v e=>?_);cases x with
 |rf _=>show b.elim
 |tp _=>show b.elim
 |fz d=>
  cases d with
  |int i=>let e:L3.DV (ow B a m) K g v (.int i):=e;ext e;show#[i,W,b a g Yn.refl l]
  |_=>show b.elim
def UC(f:D->I Int->I Int->I RV)(j:dA)(a c:UD):dA:=λi Z=>(j i Z).bind λx g=>(a i g).bind λl e=>(c i e).bind λh b=>Tc (λd=>f d l h) x b
def Sf{r:V->bP Int->bP Int->Hp->VK->Prop}{f:D->bP Int->bP Int->bP RV}{q:TE}{o p:TO}{d:dA}{u c:UD}(t:VF K r f)(k:c8 K E q d)(M:U2 K E o u)(N:U2 K E p c):c8 K E (VP r q o p) (UC f d u c):=by
 intro B g H α Z X Q s m w;show k B g H α Z X _ s m (w.bind.imp λx j S U z J G v e=>?_);show M B g U j S X _ J (m.YV z) (G.bind.imp λl i R T y I F=>?_);show N B g T i R X _ I ((m.YV z).YV y) (F.bind.imp λh C P A O b a=>?_);let e:=(e.YV y).YV O;unfold Tc at a;cases q1:sh P x with
 |none=>rw[q1]at a;let(dx,L,a):=a.Xu;let(Y,n,a):=a.Xu;show t noO A v l h dx Y Q C2 (DV.x (lV b 6 e L)) n (Ep b a)
 |some dx=>rw[q1]at a;let(Y,n,a):=a.Xu;show t _ A v l h dx Y Q b.noO (FW b e q1) n (EN b a)
end
end L10
namespace L10
open PySem PySem.Spec PySem.W PyProof.Rows L2 L3 PySem.SeqAt
def Qs(K:Ld):V->G V->Hp->VK->Prop:=λx xs H Q=>∃(l:M) (a:G V) (y:V) (ds:G D) (d:D) (j:Nat),x=.ref l/\SqL K H l a/\xs=[y]/\L2.Yb K H a ds/\L2.DV K H y d/\Wn.canLayAll0 ds=P/\d.canLay0=P/\d.depth<=32/\(∃e,ds[j]?=R e/\Wn.eqv e d=P)/\(∀m e,m<j->ds[m]?=R e->Wn.eqv e d=Wu)/\j<1000/\Q (.int (j:Nat)) H
theorem F6{K:Ld}{H:Hp}:∀{a:G V} {ds:G D} {m:Nat} {v:V},L2.Yb K H a ds->Wn.canLayAll0 ds=P->a[m]?=R v->∃e,ds[m]?=R e/\L2.DV K H v e/\e.canLay0=P
 |_,_,_,_,.nil,_,h=>by ext h
 |_::_,d::ds,m,v,.cons h t,l,hm=>by
  let l:(Wn.canLay0 d&&Wn.canLayAll0 ds)=P:=l;rw[WU]at l;cases m with
  |zero=>cases WE hm;show#[_,W,h,l.1]
  |succ m=>show F6 t l.2 (m:=m) hm
theorem Es{K:Ld}{H:Hp}:∀{a:G V} {ds:G D},L2.Yb K H a ds->a.length=ds.length
 |_,_,.nil=>rfl
 |_::_,_::_,.cons _ t=>eh (·+1) (Es t)
open Classical in
theorem Hz{X:Cx}(hu:X.A.units+64<cLine):TL X "list.index" (Qs X.K):=by
 rintro M s σ H x xs v us Q I S p ⟨l,vs,y,ds,d,j,rfl,hl,rfl,hds,hd,sD,amv,dep,⟨e0,he0,hit⟩,hno,hj,q⟩;obtain rfl:v=.ref l:=S;obtain⟨u,rfl,T⟩:=p.one;obtain⟨h,r,⟨o,n,R,hc,hdd,F⟩,_⟩:=I.list hl;obtain⟨as,U⟩:=hd.reads I T;have E:∀(m:Nat) (hm:m<h.length),∃e bs,ds[m]?=lD e/\adg s.heap h[m] e bs/\e.canLay0=Wl:=λm hm=>by have P:vs[m]?=lD (vs[m]'(by rw[r.length];exact hm)):=Wr _;obtain⟨w,i,t⟩:=r.get P;rw[Wr hm]at i;cases WE i;obtain⟨e,b,a,f⟩:=F6 hds sD P;obtain⟨bs,h4⟩:=a.reads I t;exact⟨e,bs,b,h4,f⟩
 have J:∀{w:Wi} {e:D} {bs:br Wo},adg s.heap w e bs->e.canLay0=Wl->decide (∃g bs,adg s.heap w g bs/\Wn.eqv g d=Wl)=Wn.eqv e d:=λ{w e bs} b a=>by
  cases z:Wn.eqv e d with
  |true=>exact aE ⟨e,bs,b,z⟩
  |false=>refine aP ?_;rintro⟨g,L,k1,N⟩;rw[<-agC e g w bs L a b k1,z]at N;cases N
 have O:j<h.length:=by have:=(Wj.mp he0).1;have a:=Es hds;have f:=r.length;ext
 obtain⟨Z,Y,C,B⟩:=o;obtain rfl:Z=.type "list":=hc;obtain rfl:C=.seq h.toArray n:=F;refine Y3 XH ⟨_,R,rfl⟩ aav (aam _ _) (list_indexAt l h.toArray n Y B u (λw=>decide (∃g bs,adg s.heap w g bs/\Wn.eqv g d=Wl)) j (by rw[WA];exact O) (by ext) ?_ λm hm lt=>?_) ⟨R,λw i=>?_,?_⟩
 .obtain⟨e,bs,b,a,f⟩:=E j O;rw[he0]at b;cases b;rw[Ze,J a f];exact hit
 .have G:m<h.length:=by rw[WA]at hm;exact hm
  obtain⟨e,bs,b,a,f⟩:=E m G;rw[Ze,J a f];exact hno m e lt b
 .obtain⟨m,hm,rfl⟩:=aby.mp (by simpa using i:w∈h);obtain⟨e,bs,b,a,f⟩:=E m hm;rw[J a f];refine alh e d _ s _ u bs as a U f amv ?_;rw[W8.in1_units];have:=aa2 e.depth d.depth;ext
 .exact⟨.int (j:Nat),H,I.tok _,⟨_,rfl⟩,q⟩
def Hj(d:D):G D->I Nat
 |[]=>U
 |e::r=>if Wn.eqv e d=P then R 0 else(Hj d r).map (·+1)
theorem Gk{d:D}:∀{ds:G D} {j:Nat},Hj d ds=R j->(∃e,ds[j]?=R e/\Wn.eqv e d=P)/\∀m e,m<j->ds[m]?=R e->Wn.eqv e d=Wu
 |[],_,h=>by ext h
 |e::r,j,h=>by
  unfold Hj at h;split at h
  .rename_i z;ext h;show#[#[e,W,z],λm _ hm=>by ext]
  .rename_i z
   cases q:Hj d r with
   |none=>rw[q]at h;ext h
   |some i=>
    rw[q]at h;ext h;let(f,b):=Gk q;show#[f,λm x hm a=>?_];cases m with
    |zero=>cases WE a;show afO.mpr z
    |succ m=>show b m x (by let hm:m+1<i+1:=hm;ext) a
def Fw(ds:G D):D->I Nat
 |.tuple a=>if(Wn.canLayAll0 ds&&(Wn.canLay0 (.tuple a)&&decide (Wn.depth (.tuple a)<=32)))=P then(match Hj (.tuple a) ds with
  |some j=>if j<1000 then R j else U
  |none=>U)else U
 |_=>U
def RA(c:FE)(b:bC):I (I PV)->Res (PV×bC)
 |some (R (.fz (.list ds)))=>(c b).bind λa=>(Res.Xu (tD a.2 a.1)).bind λd=>(Res.Xu (Fw ds d)).bind λj=>.ok (.fz (nd j),a.2)
 |_=>.bad
def Cm(i:Nat)(b:FE):FE:=λa=>RA b a a[i]?
def Nc{K:Ld}{E:XK}{i:Nat}{p:TE}{c:FE}(J:EO K E p c):EO K E (Qd K "list" (Qs K) (vG i) (fL p ju)) (Cm i c):=by
 intro B U O r H ρ Q R w;unfold Cm at w;cases qi:ρ[i]? with
 |none=>rw[qi]at w;show w.elim
 |some o=>
  cases o with
  |none=>rw[qi]at w;show w.elim
  |some pv=>
   cases pv with
   |ow ds=>rw[qi]at w;show w.elim
   |pl j=>rw[qi]at w;show w.elim
   |fz M=>
    cases M with
    |list ds=>
     rw[qi]at w;let(v,L,m):=R.slot i _ qi;let m:L3.DV O K H v (.list ds):=m;cases m with
     |lst f l=>
      show#[_,L,.inl #[W,_,f.1.sq],?_];show J B U O r H ρ _ R (WR.imp (WR.bind w) λb h S y T n q A=>?_);let(d,z,h):=h.Xu;let(j,e,t):=h.Xu;let G:=kr q A z;cases d with
      |tuple g=>
       let e:(if(Wn.canLayAll0 ds&&(Wn.canLay0 (.tuple g)&&decide (Wn.depth (.tuple g)<=32)))=Wl then(match Hj (.tuple g) ds with
        |some j=>if j<1000 then lD j else Wh
        |none=>Wh)else Wh)=lD j:=e
       split at e
       .rename_i ok
        rw[WU,WU]at ok;split at e
        .rename_i Y u
         split at e
         .rename_i I;ext e;let(a,X,rfl,F,C):=EL G;let(P,N):=Gk u;show#[_,_,_,ds,.tuple g,_,W,(f.ev n).1.sq,W,(l.ev n).plain,(L3.DV.tup F C).plain,ok.1,ok.2.1,a6 ok.2.2,P,N,I,t S _ T n q (.int _)]
         .ext e
        .ext e
       .ext e
      |_=>ext e
    |_=>rw[qi]at w;show w.elim
def MS{i j:Nat}{h:FE}{g c:bC}{pv:PV}{ds:G D}{d:D}(f:g[i]?=R (R (.fz (.list ds))))(e:h g=.ok (pv,c))(b:tD c pv=R d)(a:Fw ds d=R j):Cm i h g=.ok (.fz (nd j),c):=by ext Cm;rw[f];show(h g).bind _=_;rw[e,en,b];show(Res.Xu (Fw ds d)).bind _=_;rw[a];rfl
end L10
namespace M02
inductive Con(E:G (Nat×Nat))(r0:Nat):Bool->Nat->Prop
 |base:Con E r0 P r0
 |col {r c:Nat}:Con E r0 P r->(r,c)∈E->Con E r0 Wu c
 |row {r c:Nat}:Con E r0 Wu c->(r,c)∈E->Con E r0 P r
def has(n c:Nat):Prop:=n.testBit c=P
structure Nums(E:G (Nat×Nat))(R C:Nat)(ns:G Nat):Prop where
 len:ns.length=R
 lt:∀n∈ns,n<2^C
 own:∀r c,(r,c)∈E->has (ns.getD r 0) c
 snd:∀r,r<R->∀c,has (ns.getD r 0) c->Con E r Wu c
abbrev NF:=G Nat×G Nat
structure aql(E:G (Nat×Nat))(r0:Nat)(s:NF):Prop where
 a:r0∈s.1
 n:∀x∈s.1,Con E r0 P x
 f:∀x∈s.2,Con E r0 Wu x
 d:s.2.Nodup
 d1:s.1.Nodup
structure apL(R C:Nat)(ss:G (Nat×Nat)):Prop where
 r1:1<=R
 r6:R<=6
 c1:1<=C
 c6:C<=6
 l1:1<=ss.length
 l12:ss.length<=12
 nd:ss.Nodup
 inn:∀s∈ss,s.1<R/\s.2<C
end M02
local macro_rules(kind:=«term{_}»)|`({$a})=>`(L3.ah $a L3.aC)|`({$a,$b})=>`(L3.ah $a (L3.ah $b L3.aC))|`({$a,$b,$c})=>`(L3.ah $a (L3.ah $b (L3.ah $c L3.aC)))|`({$a,$b,$c,$d})=>`(L3.ah $a (L3.ah $b (L3.ah $c (L3.ah $d L3.aC))))
local macro_rules|`(~~~$n)=>`(L3.pC (.int $n))
namespace STP
open PySem L2 L3
def pS:FS:=(bZ (pq (a9 (aW vt (aW bB (aa 0) (~~~2)) (pC .none))) (fC (aW bB (aa 0) (~~~2))) fV)
 (fC (gq (L10.Mb 0) {eB 2 [] (gU (aW bB (aa 0) (~~~0))) (gT 2 (MK (gN 0) (MK (gN 1) Tx))) (a9 (aW eR (aW bB (aa 1) (~~~0)) (pC (.str "layer")))) (aW bB (aa 1) (~~~1))})))
def fD:FN:=gI 1 pS
def mL:FS:=(bZ (gw (aW bB (aW bB (aW bB (aa 0) (~~~1)) (aa 1)) (aa 2)) (gN 3))
 (bZ (pq (a9 (aW eR (aW bB (aa 3) (~~~0)) (pC (.str "below")))) (fC (aW bB (aW bB (aW bB (aa 0) (~~~1)) (~~~0)) (aa 2))) fV)
 (fC (aa 3))))
def j9:FN:=gI 4 mL
def kz:FS:=(fC (eB 1 [1] (gU (aW bB (aa 0) (~~~2))) (gN 0) (a9 (gq yr {eB 1 [0] (gU (aa 1)) (gN 0) c9 (aW HY (aa 0) (aW bB (aa 1) (~~~0)))})) (aa 0)))
def b6:FN:=gI 2 kz
def l9:FS:=(bZ (pZ (gU (aW bB (aa 0) (~~~2))) (gN 2) (pq (a9 (aW eR (gq yZ {aW bB (aa 2) (~~~0)}) (gq L9.jq {aa 1}))) (fC (aW dC (di {df {pC (.str "letter"),aW bB (aa 2) (~~~1)}}) (aW jK (di {pC (.tuple [(.str "none")])}) (aW wQ (gq cO {aa 1}) (~~~1))))) fV))
 (fC (eB 1 [0] (gU (aa 1)) (gN 0) c9 (aW bB (aW bB (aW bB (aa 1) (~~~1)) (~~~0)) (aa 0)))))
def gX:FN:=gI 3 l9
open L10
def mj:gl:=(aX (fM "Hand" "bed" (az 0) (ag (aa 1)))
 (aX (fM "Hand" "acts" (az 0) (BV (ag (aW bB (aa 2) (~~~0)))))
 (aX (fM "Hand" "waiting" (az 0) (ag (aW bB (aa 2) (~~~1))))
 (aX (fM "Hand" "once" (az 0) (ag (aW bB (aa 2) (~~~2))))
 (fM "Hand" "sent" (az 0) (ag (di aC)))))))
def fF:jA:=dL 3 mj
def ph:gl:=(ip (oP (am (kK gO (am (eC 1 [0] (eT (x4 (a8 "Hand" "acts" (az 0)))) (dB 0) cF (oP (am (ag (aa 0)) (am (xm (a8 "Hand" "acts" (az 1)) (ag (aa 0))) aJ)))) aJ)) (am (a8 "Hand" "waiting" (az 0)) (am (a8 "Hand" "once" (az 0)) aJ)))))
def b7:jA:=dL 1 ph
def j6:gl:=(ip (Cz (mq vt (a8 "Hand" "waiting" (az 0)) (ag (pC .none))) (mq HY (ag (aa 1)) (gL (a8 "Hand" "waiting" (az 0)) (ag (~~~0))))))
def cH:jA:=dL 2 j6
def mQ:gl:=(ip (mq HY (ag (aa 1)) (E3 (a8 "Hand" "acts" (az 0)))))
def cz:jA:=dL 2 mQ
def nj:gl:=(aX (dw (qL (db (a9 (aW eR (aW bB (aa 2) (~~~0)) (pC (.str "letter"))))) (wP (b8 (bw "Hand" "has_act" cz 2 (az 0) (am (ag (aa 2)) aJ))))) (cr (l6 (a8 "Hand" "sent" (az 0)) (ag (df {aW bB (aa 2) (~~~1),pC (.str "down")})))) eD)
 (B9 (a8 "Hand" "acts" (az 0)) (ag (aa 1)) (ag (aa 2))))
def bT:jA:=dL 3 nj
def sQ:gl:=(aX (cX (AX (a8 "Hand" "acts" (az 0)) (ag (aa 1))) (dB 2))
 (dw (qL (db (a9 (aW eR (aW bB (aa 2) (~~~0)) (pC (.str "letter"))))) (wP (b8 (bw "Hand" "has_act" cz 2 (az 0) (am (ag (aa 2)) aJ))))) (cr (l6 (a8 "Hand" "sent" (az 0)) (ag (df {aW bB (aa 2) (~~~1),pC (.str "up")})))) eD))
def kX:jA:=dL 3 sQ
def pA:gl:=(aX (cX (gL (a8 "Hand" "waiting" (az 0)) (ag (~~~0))) (dB 1))
 (aX (cX (gL (a8 "Hand" "waiting" (az 0)) (ag (~~~2))) (dB 2))
 (aX (fM "Hand" "waiting" (az 0) (ag (pC .none)))
 (aX (cX (mw (Tn (db (a9 (aW eR (aa 2) (pC (.tuple [(.str "chord")]))))) (iq gX 2 (am (a8 "Hand" "bed" (az 0)) (am (ag (aa 1)) aJ))) (ag (di {df {pC (.str "layer"),aW bB (aa 2) (~~~2)}})))) (dB 3))
 (A9 (ii (zA {aa 1,aa 3})) (TB 2 (vP (dB 4) (vP (dB 5) Hc))) (cr (bw "Hand" "come" bT 3 (az 0) (am (ag (aa 4)) (am (ag (aa 5)) aJ)))))))))
def cG:jA:=dL 6 pA
def gD:gl:=(aX (dw (EJ (b8 (mq tW (a8 "Hand" "waiting" (az 0)) (ag (pC .none)))) (EJ (b8 (mq wC (gL (a8 "Hand" "waiting" (az 0)) (ag (~~~2))) (ag (pC (.tuple [(.str "chord")]))))) (b8 (mq wC (iq fD 1 (am (bw "Hand" "stands" b7 1 (az 0) aJ) aJ)) (ag (~~~0)))))) (ip (ag (pC (.bool Wu)))) eD)
 (ip (mq wC (iq b6 2 (am (a8 "Hand" "bed" (az 0)) (am (mq dC (gL (a8 "Hand" "waiting" (az 0)) (ag (~~~0))) (ag (df {aa 1}))) aJ))) (ag (di aC)))))
def fy:jA:=dL 2 gD
def ji:gl:=(aX (cX (mq dC (gL (a8 "Hand" "waiting" (az 0)) (ag (~~~0))) (ag (df {aa 1}))) (dB 2))
 (aX (fM "Hand" "waiting" (az 0) (oP (am (ag (aa 2)) (am (gL (a8 "Hand" "waiting" (az 0)) (ag (~~~1))) (am (ag (pC (.tuple [(.str "chord")]))) aJ)))))
 (dw (b8 (mq eR (eC 1 [] (eT (iq b6 2 (am (a8 "Hand" "bed" (az 0)) (am (ag (aa 2)) aJ)))) (dB 0) cF (ag (gq cO {aW bB (aa 0) (~~~0)}))) (ag (di {gq cO {aa 2}})))) (cr (bw "Hand" "decide" cG 1 (az 0) aJ)) eD)))
def eP:jA:=dL 3 ji
def lU:gl:=(aX (cX (iq fD 1 (am (bw "Hand" "stands" b7 1 (az 0) aJ) aJ)) (dB 2))
 (aX (cX (iq j9 3 (am (a8 "Hand" "bed" (az 0)) (am (ag (aa 2)) (am (ag (aa 1)) aJ)))) (dB 3))
 (aX (cX (ag (aW bB (aa 3) (~~~0))) (dB 4))
 (aX (dw (db (a9 (aW C5 (aa 4) (df {pC (.str "layer"),pC (.str "once")})))) (fM "Hand" "once" (az 0) (ag (pC .none))) eD)
 (dw (db (a9 (aW eR (aa 4) (pC (.str "tap"))))) (fM "Hand" "waiting" (az 0) (ag (df {df {aa 1},~~~0,aa 3}))) (dw (qL (db (a9 (aW eR (aa 4) (pC (.str "letter"))))) (qL (db (a9 (aW eR (aa 2) (~~~0)))) (b8 (mq wC (iq b6 2 (am (a8 "Hand" "bed" (az 0)) (am (ag (df {aa 1})) aJ))) (ag (di aC)))))) (fM "Hand" "waiting" (az 0) (ag (df {df {aa 1},~~~0,pC (.tuple [(.str "chord")])}))) (dw (db (a9 (aW eR (aa 4) (pC (.str "once"))))) (aX (cr (bw "Hand" "come" bT 3 (az 0) (am (ag (aa 1)) (am (ag (pC (.tuple [(.str "none")]))) aJ))))
 (fM "Hand" "once" (az 0) (ag (aW bB (aa 3) (~~~1))))) (cr (bw "Hand" "come" bT 3 (az 0) (am (ag (aa 1)) (am (ag (aa 3)) aJ)))))))))))
def g6:jA:=dL 5 lU
def lM:gl:=(aX (dw (EJ (b8 (BP Wu (ag (aa 1)) (a8 "Hand" "acts" (az 0)))) (b8 (bw "Hand" "is_waiting" cH 2 (az 0) (am (ag (aa 1)) aJ)))) xz eD)
 (aX (dw (b8 (bw "Hand" "makes_chord" fy 2 (az 0) (am (ag (aa 1)) aJ))) (aX (cr (bw "Hand" "put_to_chord" eP 2 (az 0) (am (ag (aa 1)) aJ)))
 xz) eD)
 (aX (dw (b8 (mq vt (a8 "Hand" "waiting" (az 0)) (ag (pC .none)))) (cr (bw "Hand" "decide" cG 1 (az 0) aJ)) eD)
 (cr (bw "Hand" "begin" g6 2 (az 0) (am (ag (aa 1)) aJ))))))
def jy:jA:=dL 2 lM
def ky:gl:=(aX (cX (gL (a8 "Hand" "waiting" (az 0)) (ag (~~~2))) (dB 2))
 (dw (db (a9 (aW eR (aa 2) (pC (.tuple [(.str "chord")]))))) (cr (bw "Hand" "decide" cG 1 (az 0) aJ)) (aX (fM "Hand" "waiting" (az 0) (ag (pC .none)))
 (cr (bw "Hand" "come" bT 3 (az 0) (am (ag (aa 1)) (am (ag (df {pC (.str "letter"),aW bB (aa 2) (~~~1)})) aJ)))))))
def iK:jA:=dL 3 ky
def nJ:gl:=(aX (dw (b8 (bw "Hand" "is_waiting" cH 2 (az 0) (am (ag (aa 1)) aJ))) (cr (bw "Hand" "settle" iK 2 (az 0) (am (ag (aa 1)) aJ))) eD)
 (dw (b8 (BP Wu (ag (aa 1)) (a8 "Hand" "acts" (az 0)))) (cr (bw "Hand" "go" kX 2 (az 0) (am (ag (aa 1)) aJ))) eD))
def kh:jA:=dL 2 nJ
def jE:gl:=(aX (dw (b8 (mq tW (a8 "Hand" "waiting" (az 0)) (ag (pC .none)))) xz eD)
 (aX (cX (mq dC (gL (a8 "Hand" "waiting" (az 0)) (ag (~~~1))) (ag (~~~1))) (dB 1))
 (aX (fM "Hand" "waiting" (az 0) (oP (am (gL (a8 "Hand" "waiting" (az 0)) (ag (~~~0))) (am (ag (aa 1)) (am (gL (a8 "Hand" "waiting" (az 0)) (ag (~~~2))) aJ)))))
 (dw (b8 (mq eR (ag (aa 1)) (gL (a8 "Hand" "bed" (az 0)) (ag (~~~3))))) (cr (bw "Hand" "decide" cG 1 (az 0) aJ)) eD))))
def gZ:jA:=dL 2 jE
def Cu:gl:=(aX (cX (xf "Hand" fF 3 (am (ag (aa 0)) (am (ag (aa 1)) aJ))) (dB 3))
 (aX (dw (db (a9 (aW eR (aW bB (aa 2) (~~~0)) (pC (.str "turn"))))) (cr (bw "Hand" "wait_on" gZ 1 (az 3) aJ)) (dw (db (a9 (aW eR (aW bB (aa 2) (~~~0)) (pC (.str "down"))))) (cr (bw "Hand" "press" jy 2 (az 3) (am (ag (aW bB (aa 2) (~~~1))) aJ))) (cr (bw "Hand" "lift" kh 2 (az 3) (am (ag (aW bB (aa 2) (~~~1))) aJ)))))
 (ip (oP (am (a8 "Hand" "sent" (az 3)) (am (bw "Hand" "stands" b7 1 (az 3) aJ) aJ))))))
def nO:jA:=dL 4 Cu
end STP
local macro_rules| `(tactic|ext:20)=> `(tactic|·first|((simp only[afx,afy]);rfl)|rfl)| `(tactic|ext:19)=> `(tactic|first|with_reducible assumption|change L3.gJ _ _|change L3.vj _ _|change L3.rR _ _|change L3.Fk _ _|change L3.xu _ _|change L3.B3 _ _|change L3.yh _ _|change L3.amT _ _|change L3.ko _ _|change L3.yC _ _|change L3.af3 _ _|change L3.af0 _ _|change L3.akZ _ _|change L3.akM _ _|change L3.zM _ _|change L3.aki _ _|change L3.akW _ _|change L3.ajK _ _|change L3.yn _ _|change L3.ajA _ _|change L3.ai7 _ _|change L3.akd _ _|change L3.alS _ _|change L3.jF|change L3.lZ|change L3.uX|change L3.apZ|change L3.ass|change L3.P9|change L3.mM _|change L3.gr _|(with_reducible rfl))| `(tactic|ext:0)=> `(tactic|first
 |change L3.aQ
 |((exists L3.af);rfl)
 |((exists L3.hJ);rfl)
 |change L3.aH
 |change L3.ajl
 |((exists L3.aK);(·ext:0);(·ext:0);(·rfl);(·rfl);(·ext:19))
 |((exists L3.xT);(·ext:0);(·rfl);(·rfl))
 |((exists L3.aq);(·ext:0);(·ext:0))
 |((exists L3.ci);(·ext:0);(·rfl))
 |((exists L3.eA);(·ext:0);(·rfl);(·first|ext:19|rfl))
 |((exists L3.cI);(·ext:0);(·rfl);(·rfl);(·with_reducible assumption))
 |((exists L3.hW);(·ext:0);(·rfl);(·exact Wx rfl))
 |((exists L3.mK);(·ext:0);(·rfl);(·exact Wx rfl))
 |((exists L3.Ja);(·ext:0);(·rfl);(·rfl))
 |((exists L3.ajo);(·ext:0);(·rfl))
 |((exists L3.aox);(·ext:0);(·ext:0);(·ext:0);(·rfl);(·first|with_reducible assumption|rfl))
 |((exists L3.uy);(·ext:0))
 |((exists L3.yO);(·ext:0);(·intro _;ext:0))
 |((exists L3.zT);(·ext:0);(·intro _;ext:0))
 |((exists L3.ake);(·ext:0))
 |((exists L3.yp);(·ext:0);(·intro _;ext:0))
 |((exists L3.ahC);(·ext:0);(·intro _;ext:0))
 |((exists L3.oa);(·ext:0);(·rfl);(·first|with_reducible assumption|rfl))
 |((exists L3.iR);(·ext:0);(·rfl);(·rfl))
 |((exists L3.ajF);(·ext:0);(·rfl);(·rfl))
 |((exists L3.u0);(·rfl);(·ext:0);(·rfl);(·rfl);(·first|with_reducible assumption|(simp only[YG,WJ,L3.iC] at*;ext));ext:20)
 |((exists L3.amR);(·rfl);(·ext:0);(·rfl);(·rfl);(·with_reducible assumption);(·with_reducible assumption);(·with_reducible assumption);ext:20)
 |((exists L3.zW);(·ext:0);(·rfl);ext:20)
 |((exists L3.Ej);(·ext:0))
 |((exists L3.yL);(·ext:0);(·rfl)))
local macro_rules| `(tactic|ext:29)=> `(tactic|first
 |((exists L3.al3);(·ext:0);(·ext:0);(·rfl);(·rfl);(·ext:19))
 |((exists L3.ak1);(·ext:0);(·rfl);(·rfl);(·with_reducible assumption))
 |((exists L3.amy);(·ext:0);(·rfl);(·first|ext:19|rfl))
 |ext:0)
local macro_rules| `(tactic|ext:0)=> `(tactic|first
 |with_reducible assumption
 |((exists L3.yp);(·ext:0);(·intro _;ext:29))
 |((exists L3.ahC);(·ext:0);(·intro _;ext:29))
 |((exists L3.BQ);(·ext:0);(·ext:0);(·ext:0);(·rfl);(·rfl);(·rfl);(·ext:19);(·intro _;ext:19))
 |((exists L3.uw);(·ext:0);(·rfl);(·rfl);(·rfl)))
local macro_rules| `(tactic|ext:15)=> `(tactic|first
 |((exists L3.d9);(·ext:0);(·rfl);ext:20;try ext:15)
 |((exists L3.akB);(·ext:0);try ext:15)
 |((exists L3.Mq);try ext:15)
 |((exists L3.hG);try ext:15)
 |((exists L3.kB);(·ext:0);(·rfl))
 |((exists L3.pz);(·ext:0))
 |((exists L3.amf);(·ext:0);(·rfl);ext:20)
 |((exists L3.nY);(·ext:0))
 |((exists L3.fJ);(·ext:0);(·rfl))
 |((exists L3.Kj);(·ext:0))
 |(exists L3.zZ))
namespace STP
open PySem L2 L3
def mh(c:Nat):Str:=#[#v[97+c]]
inductive Mn where
 |Xs (c:Nat)
 |Y8 (n:Int)
 |tap (c:Nat) (n:Int)
 |once (n:Int)
 |none
 |below
 deriving DecidableEq
def mD:Mn->D
 |.Xs c=>.tuple [.str "letter",.str (mh c)]
 |.Y8 n=>.tuple [.str "layer",.int n]
 |.tap c n=>.tuple [.str "tap",.str (mh c),.int n]
 |.once n=>.tuple [.str "once",.int n]
 |.none=>.tuple [.str "none"]
 |.below=>.tuple [.str "below"]
def VM(L a:Int):Mn->Prop
 |.Xs c=>c<26
 |.Y8 n=>1<=n/\n<a
 |.tap c n=>c<26/\1<=n/\n<a
 |.once n=>1<=n/\n<a
 |.none=>True
 |.below=>L≠0
def Mn.isL:Mn->Bool
 |.Xs _=>P
 |_=>Wu
structure Bd where
 n:Int
 ls:G (G Mn)
 cs:G (G Nat×Nat)
 wt:Int
def mF(l:G Mn):D:=.tuple (l.map mD)
def iz(c:G Nat×Nat):D:=.tuple [.tuple (bN c.1),.str (mh c.2)]
def bD(b:Bd):D:=.tuple [.int b.n,.tuple (b.ls.map mF),.tuple (b.cs.map iz),.int b.wt]
def VL(n a:Int)(b:G (G Mn)):Prop:=∀(i:Nat) l,b[i]?=R l->(l.length:Int)=n/\∀m∈l,VM i a m
def Ir(a:G Mn)(k:Nat):Bool:=(a[k]?.map Mn.isL).getD Wu
def VC(a:G Mn)(c:G Nat×Nat):Prop:=2<=c.1.length/\c.1.Pairwise (·<·)/\(∀k∈c.1,Ir a k=P)/\c.2<26
structure VB(b:Bd):Prop where
 n1:1<=b.n
 n5:b.n<=5
 l1:1<=b.ls.length
 l3:b.ls.length<=3
 vl:VL b.n b.ls.length b.ls
 c4:b.cs.length<=4
 vc:∀c∈b.cs,VC (b.ls.headD []) c
 cu:b.cs.Pairwise λa c=>a.1≠c.1
 w1:1<=b.wt
 w4:b.wt<=4
def wn:Mn->Nat
 |.Xs _=>0
 |.Y8 _=>1
 |.tap _ _=>2
 |.once _=>3
 |.none=>4
 |.below=>5
def ws:Nat->Str
 |0=> "letter"
 |1=> "layer"
 |2=> "tap"
 |3=> "once"
 |4=> "none"
 |_=> "below"
def wd(m:Mn):Str:=ws (wn m)
def tt(m:Mn):wn m<6:=by ext m<;>show Wx W
def tE(m:Mn):bB (mD m) (.int 0)=R (.fz (.str (wd m))):=by ext m<;>show jF
theorem QJ(m:Mn):Wn.strOk (wd m)=P:=(by left:∀i,i<6->Wn.strOk (ws i)=P) _ (tt m)
def B8:∀i,i<6->∀j,j<6->(ws i==ws j)=decide (i=j):=by left
def AC(m:Mn)(j:Nat)(a:j<6):eR (.str (wd m)) (.str (ws j))=R (.fz (.bool (decide (wn m=j)))):=by rw[Vp (QJ m) ((by left:∀i,i<6->Wn.strOk (ws i)=P) j a)];ext wd;rw[B8 _ (tt m) _ a]
def Mn.isB:Mn->Bool
 |.below=>P
 |_=>Wu
def Mn.afh:Mn->Bool
 |.Y8 _=>P
 |_=>Wu
def Mn.isT:Mn->Bool
 |.tap _ _=>P
 |_=>Wu
def Mn.isO:Mn->Bool
 |.once _=>P
 |_=>Wu
theorem oK(m:Mn):eR (.str (wd m)) (.str "letter")=R (.fz (.bool m.isL)):=(AC m 0 ()).trans (by ext m<;>rfl)
theorem MC(m:Mn):eR (.str (wd m)) (.str "below")=R (.fz (.bool m.isB)):=(AC m 5 ()).trans (by ext m<;>rfl)
theorem IT(m:Mn):eR (.str (wd m)) (.str "layer")=R (.fz (.bool m.afh)):=(AC m 1 ()).trans (by ext m<;>rfl)
theorem QS(m:Mn):eR (.str (wd m)) (.str "tap")=R (.fz (.bool m.isT)):=(AC m 2 ()).trans (by ext m<;>rfl)
theorem Ni(m:Mn):eR (.str (wd m)) (.str "once")=R (.fz (.bool m.isO)):=(AC m 3 ()).trans (by ext m<;>rfl)
def UO(m:Mn):C5 (.str (wd m)) (.tuple [.str "layer",.str "once"])=R (.fz (.bool (!(m.afh||m.isO)))):=by
 let h:∀a:Str,Wn.strOk a=P->C5 (.str a) (.tuple [.str "layer",.str "once"])=R (.fz (.bool (!(("layer":Str)==a||("once":Str)==a)))):=λa b=>by show(if(kF (.str a)&&(Wn.strOk "layer"&&(Wn.strOk "once"&&P)))=P then R (RV.fz (.bool (!(Wn.eqv (.str "layer") (.str a)||(Wn.eqv (.str "once") (.str a)||false)))))else U)=_;rw[show kF (.str a)=P by ext kF;rw[show Wn.canLay0 (.str a)=P from b];rfl,show Wn.strOk "layer"=P by left,show Wn.strOk "once"=P by left,ahw];rfl
 rw[h _ (QJ m)];ext wd;rw[show(("layer":Str)==ws (wn m))=_ from B8 1 () _ (tt m),show(("once":Str)==ws (wn m))=_ from B8 3 () _ (tt m)];ext m<;>rfl
def LB:Mn->Prop
 |.Xs c=>c<26
 |.tap c _=>c<26
 |_=>True
def VM.lb(h:VM L nL m):LB m:=by
 cases m with
 |Xs c=>show h
 |tap c n=>show h.1
 |_=>trivial
def pX(h:c<26):Wn.strOk (mh c)=P:=by show((#v[97+c]:Array Nat).all λc=>decide (c<0x110000))=P;simp;ext
def zr(h:mh c=mh d):c=d:=by
 let:(97+c)=97+d:=by let a:=eh (λz:Str=>z.cps.toList) h;show List.head_eq_of_cons_eq a
 ext
def Mv(h:LB m):Wn.canLay0 (mD m)=P:=by
 cases m with
 |Xs c=>show(Wn.strOk "letter"&&(Wn.strOk (mh c)&&P))=P;rw[pX h,show Wn.strOk "letter"=P by left];rfl
 |Y8 n=>show(Wn.strOk "layer"&&(P&&P))=P;left
 |tap c n=>show(Wn.strOk "tap"&&(Wn.strOk (mh c)&&(P&&P)))=P;rw[pX h,show Wn.strOk "tap"=P by left];rfl
 |once n=>show(Wn.strOk "once"&&(P&&P))=P;left
 |none=>show(Wn.strOk "none"&&P)=P;left
 |below=>show(Wn.strOk "below"&&P)=P;left
def Mr(h:LB m):kF (mD m)=P:=by ext kF;rw[Mv h];ext m<;>rfl
def mR:Mn->G D
 |.Xs c=>[.str (mh c)]
 |.Y8 n=>[.int n]
 |.tap c n=>[.str (mh c),.int n]
 |.once n=>[.int n]
 |.none=>[]
 |.below=>[]
def QF(m:Mn):mD m=.tuple (.str (wd m)::mR m):=by ext m<;>rfl
def Uc(a b:Mn):decide (wd a=wd b)=decide (wn a=wn b):=by let h:=B8 _ (tt a) _ (tt b);ext wd;rw[<-h];rfl
theorem EI(c d:Nat):decide (mh c=mh d)=decide (c=d):=decide_eq_decide.mpr #[zr,λh=>by rw[h]]
def QP(a b:Mn)(h:wn a=wn b):Wn.eqvAll (mR a) (mR b)=decide (a=b):=by
 ext a<;>ext b<;>first|ext h|skip
 .show(decide (mh _=mh _)&&P)=_;rw[EI,ab2];show decide_eq_decide.mpr #[λh=>by rw[h],λh=>by ext h;rfl]
 .show(decide (_=_)&&P)=_;rw[ab2];show decide_eq_decide.mpr #[λh=>by rw[h],λh=>by ext h;rfl]
 .show(decide (mh _=mh _)&&(decide (_=_)&&P))=_;rw[EI,ab2,<-Bool.decide_and];show decide_eq_decide.mpr #[λh=>by rw[h.1,h.2],λh=>by ext h;show#[W,W]]
 .show(decide (_=_)&&P)=_;rw[ab2];show decide_eq_decide.mpr #[λh=>by rw[h],λh=>by ext h;rfl]
 .rfl
 .rfl
def SN(a b:Mn):Wn.eqv (mD a) (mD b)=decide (a=b):=by
 rw[QF,QF];show(decide (wd a=wd b)&&Wn.eqvAll (mR a) (mR b))=_;rw[Uc];by_cases h:wn a=wn b
 .rw[aE h,ab1,QP a b h]
 .rw[aP h,ZK,aP λz=>h (by rw[z])]
theorem Ff:∀{l:G Mn},(∀m∈l,LB m)->Wn.canLayAll0 (l.map mD)=P
 |[],_=>rfl
 |m::r,h=>by show(Wn.canLay0 (mD m)&&Wn.canLayAll0 (r.map mD))=P;rw[Mv (h m WK),Ff λx a=>h x (WH _ a)];rfl
theorem Fm(a:Mn):∀l:G Mn,((l.map mD).any λe=>Wn.eqv e (mD a))=decide (a∈l)
 |[]=>rfl
 |m::r=>by rw[WL,Z8,Fm a r,SN,<-Bool.decide_or];show decide_eq_decide.mpr (by rw[W2];show#[λh=>h.imp (λz=>z.symm) id,λh=>h.imp (λz=>z.symm) id])
def N3{l:G Mn}(c:LB a)(b:∀m∈l,LB m):HY (mD a) (.list (l.map mD))=R (.fz (.bool (decide (a∈l)))):=by show(if(kF (mD a)&&Wn.canLayAll0 (l.map mD))=P then _ else _)=_;rw[Mr c,Ff b,Y0,av W,Fm]
def Gg(e:α->D)(g:α->bP D)(I:bC->Prop)(xs:G α)(p:I d)(i:xs.length<=1000)(b:∀x∈xs,∀d,I d->∃c,nc gt t u (e x) d=.ok (g x,c)/\I c):mv (fu gt t u (xs.map e) d [])=.ok (xs.filterMap g):=by
 let h:∀(xs:G α) (a:G D) (d:bC),I d->a.length+xs.length<=1000->(∀x∈xs,∀d,I d->∃c,nc gt t u (e x) d=.ok (g x,c)/\I c)->fu gt t u (xs.map e) d a=.ok (a++xs.filterMap g):=by
  intro xs
  induction xs with
  |nil=>intro a d _ _ _;show Res.ok a=_;rw[List.filterMap_nil,W4]
  |cons x r j=>
   intro a d m i b;rw[WJ]at i;let(c,o,n):=b x WK d m;rw[WL,vS o ()];let f:(a++(g x).toList).length+r.length<=1000:=by
    rw[Wm];cases g x with
    |none=>rw[ae0,YG];ext
    |some y=>rw[Option.toList_some,abp];ext
   rw[j _ c n f λy l=>b y (WH _ l),WY];cases q:g x with
   |none=>rw[ad0 q];rfl
   |some y=>rw[ad1 q];rfl
 rw[h xs [] d p (by simpa using i) b];rfl
def GX(a:eU b=b):eU (R (PV.fz d)::b)=R (.fz d)::b:=by show Jv _::eU b=_;rw[a];rfl
def zd{α:Type}{d:FT}{k:FE}{c:bC}(e f:α->D)(p:α->Bool)(xs:G α)(i:xs.length<=1000)(l:eU c=c)(g:∀x∈xs,d (R (.fz (e x))::c)=.ok (p x,R (.fz (e x))::c))(j:∀x∈xs,p x=P->k (R (.fz (e x))::c)=.ok (.fz (f x),R (.fz (e x))::c)):mv (fu (gN 0) d k (xs.map e) (U::c) [])=.ok ((xs.filter p).map f):=by
 rw[Gg e (λx=>if p x=P then R (f x)else U) (λm=>∃o,m=o::c) xs #[U,W] i ?_]
 .congr 1
  clear i g j
  induction xs with
  |nil=>rfl
  |cons x r h=>
   cases q:p x with
   |true=>rw[ad1 (b:=f x) (by rw[av q]),List.filter_cons_of_pos q,h];rfl
   |false=>rw[ad0 (by rw[ax (by rw[q];simp)]),List.filter_cons_of_neg (by rw[q];simp),h]
 .rintro x a m ⟨o,rfl⟩
  cases q:p x with
  |true=>show#[_,HU W ((g x a).trans (by rw[q])) (j x a q) W (GX l),_,W]
  |false=>show#[_,UQ W ((g x a).trans (by rw[q])) (GX l),_,W]
theorem Dr(xs:G α):xs.filter (λ_=>P)=xs:=List.filter_eq_self.mpr λ_ _=>W
def jm{α:Type}(e f:α->D)(xs:G α)(b:xs.length<=1000)(h:eU cp=cp)(g:∀x∈xs,i (R (.fz (e x))::cp)=.ok (.fz (f x),R (.fz (e x))::cp)):mv (fu (gN 0) c9 i (xs.map e) (U::cp) [])=.ok (xs.map f):=by rw[zd e f (λ_=>P) xs b h (λ_ _=>W) λx a _=>g x a,Dr]
theorem ny(p:α->Bool):∀l:G α,pJ (l.map λc=>Wn.bool (p c))=R (l.map p)
 |[]=>rfl
 |c::r=>by show(pJ (r.map λc=>Wn.bool (p c))).map (p c::·)=_;rw[ny p r];rfl
def rE(p:α->Bool)(l:G α):yr [.list (l.map λc=>Wn.bool (p c))]=R (.fz (.bool (l.all p))):=by show(pJ _).map (λbs=>RV.fz (.bool (bs.all id)))=_;rw[ny];show R (RV.fz (.bool _))=_;rw[aij];rfl
theorem iZ:∀ns:G Int,my (ns.map Wn.int)=R ns
 |[]=>rfl
 |n::r=>by show(my (r.map Wn.int)).map (n::·)=_;rw[iZ r];rfl
abbrev Ac:=Nat->I Mn
abbrev Wq:=I (G Nat×Int×I (Nat×Int))
structure Za where
 ac:Ac
 wt:Wq
 oc:I Int
def jC(ac:Ac):G (Nat×Mn):=(Wk 5).filterMap λk=>(ac k).map λa=>(k,a)
def pD(p:Nat×Mn):D:=.tuple [nd p.1,mD p.2]
def wO:I (Nat×Int)->D
 |some (c,n)=>mD (.tap c n)
 |none=>.tuple [.str "chord"]
def lY:Wq->D
 |some (b,a,w)=>.tuple [.tuple (bN b),.int a,wO w]
 |none=>.none
def wE:I Int->D
 |some o=>.int o
 |none=>.none
def eY(s:Za):D:=.tuple [.tuple ((jC s.ac).map pD),lY s.wt,wE s.oc]
inductive Evn where
 |down (k:Nat)
 |up (k:Nat)
 |turn
def cP:Evn->D
 |.down k=>.tuple [.str "down",nd k]
 |.up k=>.tuple [.str "up",nd k]
 |.turn=>.tuple [.str "turn",.int 0]
def iO:p∈jC ac↔p.1<5/\ac p.1=R p.2:=by
 ext jC;rw[aap];constructor
 .rintro⟨k,e,b⟩
  cases q:ac k with
  |none=>rw[q]at b;ext b
  |some a=>rw[q]at b;ext b;show#[Xz.mp e,q]
 .rintro⟨e,b⟩;show#[p.1,Xz.mpr e,by rw[b];rfl]
theorem zP(ac:Ac):(jC ac).length<=5:=List.length_filterMap_le _ _
def Rj:Nat×Mn->I Int
 |(_,.Y8 n)=>R n
 |_=>U
def Az(ac:Ac):Int:=(((jC ac).filterMap Rj).foldl oW U).getD 0
def sD(ac:Ac):I Int->Int
 |some o=>o
 |none=>Az ac
def K3(ac:Ac):mv (fu (gT 2 (MK (gN 0) (MK (gN 1) Tx))) (a9 (aW eR (aW bB (aa 1) (~~~0)) (pC (.str "layer")))) (aW bB (aa 1) (~~~1)) ((jC ac).map pD) [U,U] [])=.ok (((jC ac).filterMap Rj).map .int):=by
 rw[Gg pD (λp=>(Rj p).map .int) (λi=>∃e b,i=[e,b]) (jC ac) #[U,U,W] (Xo (zP ac) ()) ?_,List.map_filterMap];rintro⟨k,a⟩ _ i ⟨e,b,rfl⟩;let h:=tE a;let g:=IT a;let f:a9 (aW eR (aW bB (aa 1) (~~~0)) (pC (.str "layer"))) [R (.fz (nd k)),R (.fz (mD a))]=.ok (a.afh,[R (.fz (nd k)),R (.fz (mD a))]):=by ext:0
 show#[[R (.fz (nd k)),R (.fz (mD a))],?_,_,_,W];cases a with
 |Y8 n=>show HU W f (aK (af W) aQ W W lZ) W W
 |_=>show UQ W f W
def Bg(s:Za):fD [eY s]=.ok (.fz (.int (sD s.ac s.oc))):=by
 show jL W ?_;let a:bB (eY s) (.int 2)=R (.fz (wE s.oc)):=uX;let e0:bB (eY s) (.int 0)=R (.fz (.tuple ((jC s.ac).map pD))):=jF;ext pS;cases q:s.oc with
 |some o=>
  rw[q]at a;let b:vt (wE (R o)) .none=R (.fz (.bool P)):=W;ext:15
  .intro _;show kB (by ext:0) W W
  .intro h;ext h
 |none=>
  rw[q]at a;let b:vt (wE U) .none=R (.fz (.bool Wu)):=W;ext:15
  .intro h;ext h
  .intro _;show hG (fJ (eA (rv:=.fz (.int (Az s.ac))) (aq (eN (by ext:0) W (K3 s.ac)) aH) W ?_) W W);show(my _).map _=_;rw[iZ];rfl
def wT(b:Bd)(L k:Nat):Mn:=((b.ls[L]?.getD [])[k]?).getD .none
def look(b:Bd)(L:Int)(k:Nat):Mn:=if(wT b L.toNat k).isB=P then wT b 0 k else wT b L.toNat k
section
variable{b:Bd}(Z:VB b)
include Z
def Qb{L k:Nat}(a:L<b.ls.length)(f:(k:Int)<b.n):∃l,b.ls[L]?=R l/\l[k]?=R (wT b L k):=by
 let g:=Z.vl L _ (Wr a);let e:k<(b.ls[L]).length:=by ext
 show#[_,Wr a,?_];ext wT;rw[Wr a,acs,Wr e];rfl
def DR{L k:Nat}(e:L<b.ls.length)(a:(k:Int)<b.n):VM L b.ls.length (wT b L k):=by let(l,g,f):=Qb Z e a;show(Z.vl L l g).2 _ (WC f)
def LH{L k:Nat}(e:L<b.ls.length)(a:(k:Int)<b.n):∃d,bB (.tuple (b.ls.map mF)) (nd L)=R (.fz d)/\bB d (nd k)=R (.fz (mD (wT b L k))):=by let(l,g,f):=Qb Z e a;show#[mF l,Hg (by rw[Wv,g];rfl),Hg (by rw[Wv,f];rfl)]
def OH{L:Int}{k:Nat}(r:0<=L)(p:L<b.ls.length)(e:(k:Int)<b.n):j9 [bD b,.int L,nd k]=.ok (.fz (mD (look b L k))):=by
 obtain⟨n,rfl⟩:∃n:Nat,L=(n:Int):=#[L.toNat,by ext];let o:=Z.l1;let(d,u,j):=LH Z (L:=n) () e;let(l,i,h):=LH Z (L:=0) () e;let v:bB (bD b) (.int 1)=R (.fz (.tuple (b.ls.map mF))):=lZ;let g:=tE (wT b n k);let f:=MC (wT b n k);let t:bB (.tuple (b.ls.map mF)) (.int 0)=R (.fz l):=i;let a:look b (n:Int) k=if(wT b n k).isB=P then wT b 0 k else wT b n k:=W
 rw[a];generalize wT b n k=m at j g f a;generalize wT b 0 k=m0 at h a;show jL W ?_;ext mL;ext:15
 .intro q;rw[av q];show kB (by ext:0) W W
 .intro q;rw[ax (by rw[q];simp)];show hG (fJ (by ext:0) W W)
def zi{L:Int}{k:Nat}(g:0<=L)(i:L<b.ls.length)(f:(k:Int)<b.n):VM L b.ls.length (look b L k)/\look b L k≠.below:=by
 let h:=Z.l1;let a:=DR Z (L:=0) (k:=k) () f;let v:=DR Z (L:=L.toNat) (k:=k) () f;let e:wT b 0 k≠.below:=λz=>by rw[z]at a;show a W
 rw[abZ g]at v;ext look;split
 .show#[?_,e]
  generalize wT b 0 k=m at a e;cases m with
  |below=>show a7 W e
  |_=>show a
 .rename_i q;show#[v,λz=>?_];rw[z]at q;show q W
omit Z in
theorem KC(ks:br Nat)(a:ks.length<=5)(c:br Nat×Nat):a9 (gq yr {eB 1 [0] (gU (aa 1)) (gN 0) c9 (aW HY (aa 0) (aW bB (aa 1) (~~~0)))}) [lD (.fz (iz c)),lD (.fz (.tuple (bN ks)))]=.ok (ks.all λk=>decide (k∈c.1),[lD (.fz (iz c)),lD (.fz (.tuple (bN ks)))]):=by
 have e:mv (fu (gN 0) c9 (aW HY (aa 0) (aW bB (aa 1) (~~~0))) (bN ks) [Wh,lD (.fz (iz c))] [])=.ok (ks.map λk=>.bool (decide (k∈c.1))):=jm nd (λk=>.bool (decide (k∈c.1))) ks (by ext) rfl λk _=>by have e0:bB (iz c) (.int 0)=lD (.fz (.tuple (bN c.1))):=jF;exact aK (rv:=.fz (.bool (decide (k∈c.1)))) (af rfl) (by ext:0) rfl rfl (yn _ _)
 exact ci (eA (rv:=.fz (.bool (ks.all λk=>decide (k∈c.1)))) (ds:=[.list (ks.map λk=>.bool (decide (k∈c.1)))]) (aq (eN (cs:=[iz c]) (ds:=bN ks) (by ext:0) rfl e) aH) rfl (rE _ _)) rfl
def gP(b:Bd)(a:G Nat):G (G Nat×Nat):=b.cs.filter λc=>a.all λk=>decide (k∈c.1)
def EU(a:g.length<=5):b6 [bD b,.tuple (bN g)]=.ok (.ow ((gP b g).map iz)):=by let f:bB (bD b) (.int 2)=R (.fz (.tuple (b.cs.map iz))):=uX;let e:=Z.c4;show jL W ?_;ext kz;show fJ (eN (cs:=[.tuple (bN g)]) (by ext:0) W (zd iz iz (λc=>g.all λk=>decide (k∈c.1)) b.cs () W (λc _=>KC g a c) λc _ _=>af W)) W W
def tU(a:G Nat):G Nat:=(nK (a.map acS)).map aes
omit Z in
theorem wu(ks:br Nat):(tU ks).Perm ks:=by have h:=(gG (ks.map acS)).map aes;rw[WQ]at h;exact h.trans (by rw[show(aes∘acS)=id from funext λx=>rfl,List.map_id])
omit Z in
theorem Pi(ks:br Nat):(nK (ks.map acS)).map Wn.int=bN (tU ks):=by unfold tU bN;rw[WQ];refine Ys λx a=>?_;obtain⟨n,_,rfl⟩:=Xe.mp ((gG _).mem_iff.mp a);rfl
omit Z in
theorem CH(ks:br Nat):(tU ks).Pairwise (·<=·):=by
 have h:∀l:br Int,l.Pairwise (·<=·)->(l.map aes).Pairwise (·<=·):=λl h=>by rw[aaF];exact h.imp λh=>by ext
 exact h _ (fY _)
omit Z in
theorem Nl(ks:br Nat):(tU ks).length=ks.length:=(wu ks).length_eq
omit Z in
theorem AU{ks:br Nat}(h:ks.length<64):L9.jq [.tuple (bN ks)]=lD (.ow (bN (tU ks))):=by
 have e:bN ks=(ks.map acS).map Wn.int:=by rw[WQ];rfl
 show(match my (bN ks)with
  |some a=>if a.length<64 then lD (RV.ow ((nK a).map .int))else Wh
  |none=>Wh)=_
 rw[e,iZ];dsimp only;rw[av (by rw[Wg];exact h),Pi]
def Uq(b:Bd)(a:G Nat):G Mn:=match b.cs.find? λc=>decide (c.1=tU a)with
 |some c=>.Xs c.2::Wz (a.length - 1) .none
 |none=>a.map (wT b 0)
omit Z in
omit Z in
theorem UR(n:Nat)(d:D):(Wz n [d]).flatten=Wz n d:=by
 induction n with
 |zero=>rfl
 |succ n a=>rw[XJ,YI,a];rfl
def QU{n:br Nat}(G:1<=n.length)(F:n.length<=5)(B:∀k∈n,(k:Int)<b.n):gX [bD b,.tuple (bN n)]=.ok (.ow ((Uq b n).map mD)):=by
 let H:bB (bD b) (.int 2)=R (.fz (.tuple (b.cs.map iz))):=uX;let I:bB (bD b) (.int 1)=R (.fz (.tuple (b.ls.map mF))):=lZ;let E:=Z.l1;let i:=AU (ks:=n) ();show jL W ?_;ext l9;let rt:∀c:br Nat×Nat,(aW dC (di {df {pC (.str "letter"),aW bB (aa 2) (~~~1)}}) (aW jK (di {pC (.tuple [(.str "none")])}) (aW wQ (gq cO {aa 1}) (~~~1)))) [R (.fz (bD b)),R (.fz (.tuple (bN n))),R (.fz (iz c))]=.ok (.ow ((Mn.Xs c.2::Wz (n.length - 1) Mn.none).map mD),[R (.fz (bD b)),R (.fz (.tuple (bN n))),R (.fz (iz c))]):=λc=>by
  let l:bB (iz c) (.int 1)=R (.fz (.str (mh c.2))):=lZ;let j:jK (.list [.tuple [.str "none"]]) (.int (((bN n).length:Int) - 1))=R (.ow (Wz (n.length - 1) (.tuple [.str "none"]))):=by rw[iC,show((n.length:Int) - 1)=((n.length - 1:Nat):Int) by ext];show(Sz () ()).trans (by rw[UR])
  let y:dC (.list [mD (.Xs c.2)]) (.list (Wz (n.length - 1) (.tuple [.str "none"])))=R (.ow ((Mn.Xs c.2::Wz (n.length - 1) Mn.none).map mD)):=by show(if 1+(Wz (n.length - 1) (Wn.tuple [.str "none"])).length<=1000000 then R (RV.ow ([mD (.Xs c.2)]++Wz (n.length - 1) (Wn.tuple [.str "none"])))else U)=_;rw[Xl,av (),WL,List.map_replicate];rfl
  show aK (by ext:0) (aK (by ext:0) (aK (by ext:0) aQ W W (vj _ _)) W W j) W W y
 let f:∀(e:br (br Nat×Nat)) (o:bP PV),(∀c,e.find? (λc=>decide (c.1=tU n))=R c->tS (gN 2) (pq (a9 (aW eR (gq yZ {aW bB (aa 2) (~~~0)}) (gq L9.jq {aa 1}))) (fC (aW dC (di {df {pC (.str "letter"),aW bB (aa 2) (~~~1)}}) (aW jK (di {pC (.tuple [(.str "none")])}) (aW wQ (gq cO {aa 1}) (~~~1))))) fV) (e.map iz) [R (.fz (bD b)),R (.fz (.tuple (bN n))),o]=.ok (.rt (.ow ((Mn.Xs c.2::Wz (n.length - 1) Mn.none).map mD))))/\
   (e.find? (λc=>decide (c.1=tU n))=U->∃u,tS (gN 2) (pq (a9 (aW eR (gq yZ {aW bB (aa 2) (~~~0)}) (gq L9.jq {aa 1}))) (fC (aW dC (di {df {pC (.str "letter"),aW bB (aa 2) (~~~1)}}) (aW jK (di {pC (.tuple [(.str "none")])}) (aW wQ (gq cO {aa 1}) (~~~1))))) fV) (e.map iz) [R (.fz (bD b)),R (.fz (.tuple (bN n))),o]=.ok (.nx [R (.fz (bD b)),R (.fz (.tuple (bN n))),u])):=by
  intro e
  induction e with
  |nil=>show λo=>#[λc h=>(by ext h),λ_=>#[o,W]]
  |cons c r A=>
   intro o;let C:bB (iz c) (.int 0)=R (.fz (.tuple (bN c.1))):=jF
   let a:a9 (aW eR (gq yZ {aW bB (aa 2) (~~~0)}) (gq L9.jq {aa 1})) [R (.fz (bD b)),R (.fz (.tuple (bN n))),R (.fz (iz c))]=.ok (decide (c.1=tU n),[R (.fz (bD b)),R (.fz (.tuple (bN n))),R (.fz (iz c))]):=
    ci (aK (eA (by ext:0) W W) (eA (by ext:0) W i) W W (zM _ _)) W
   rw[Xv];by_cases h:c.1=tU n
   .rw[aE h]at a⊢;show#[λJ t=>?_,λt=>(by ext t)];ext t;show((gN 2 (.fz (iz c)) [R (.fz (bD b)),R (.fz (.tuple (bN n))),o]).bind λg=>_)=_;rw[Ka,en];show((pq _ _ _ [R (.fz (bD b)),R (.fz (.tuple (bN n))),R (.fz (iz c))]).bind _)=_;rw[Uz a,yL (rt c) W];rfl
   .rw[aP h]at a⊢
    let w:tS (gN 2) (pq (a9 (aW eR (gq yZ {aW bB (aa 2) (~~~0)}) (gq L9.jq {aa 1}))) (fC (aW dC (di {df {pC (.str "letter"),aW bB (aa 2) (~~~1)}}) (aW jK (di {pC (.tuple [(.str "none")])}) (aW wQ (gq cO {aa 1}) (~~~1))))) fV) ((c::r).map iz) [R (.fz (bD b)),R (.fz (.tuple (bN n))),o]=tS (gN 2) (pq (a9 (aW eR (gq yZ {aW bB (aa 2) (~~~0)}) (gq L9.jq {aa 1}))) (fC (aW dC (di {df {pC (.str "letter"),aW bB (aa 2) (~~~1)}}) (aW jK (di {pC (.tuple [(.str "none")])}) (aW wQ (gq cO {aa 1}) (~~~1))))) fV) (r.map iz) [R (.fz (bD b)),R (.fz (.tuple (bN n))),R (.fz (iz c))]:=by show((gN 2 (.fz (iz c)) [R (.fz (bD b)),R (.fz (.tuple (bN n))),o]).bind λg=>_)=_;rw[Ka,en];show((pq _ _ _ [R (.fz (bD b)),R (.fz (.tuple (bN n))),R (.fz (iz c))]).bind _)=_;rw[T3 a];rfl
    rw[w];show A _
 let(z,m):=f b.cs U;let v:gU (aW bB (aa 0) (~~~2)) [R (.fz (bD b)),R (.fz (.tuple (bN n))),U]=.ok (b.cs.map iz,[R (.fz (bD b)),R (.fz (.tuple (bN n))),U]):=by ext:0
 ext Uq;cases q:b.cs.find? λc=>decide (c.1=tU n)with
 |some c=>show .eq (JU ((C9 v).trans (z c q))) #[W]
 |none=>let(u,m):=m q;show .eq (Iz ((C9 v).trans m)) ?_;show fJ (eN (by ext:0) W ?_) W W;rw[WQ];show jm nd (mD∘wT b 0) n () W λk p=>?_;let(d,l,j):=LH Z (L:=0) () (B k p);let l:bB (.tuple (b.ls.map mF)) (.int 0)=R (.fz d):=l;show aK (by ext:0) (af W) W W j
end
end STP
local macro_rules|`(-($x))=>`(Option.some (.fz $x))
namespace STP
open PySem L2 L3
open L10
def mE(p:Nat×Mn):dI×SV:=(.inl (p.1:Int),.fz (mD p.2))
def pB(ac:Ac)(k:Nat)(o:I Mn):Ac:=λj=>if j=k then o else ac j
def gv:pB ac k o k=o:=by ext pB;rw[av W]
def i9(h:j≠k):pB ac k o j=ac j:=by ext pB;rw[ax h]
def MA(ac:Ac):(jC ac).Pairwise λp q=>p.1<q.1:=by
 ext jC;show aiY _ (λa g h p f q b=>?_) (aet);cases e:ac a with
 |none=>rw[e]at f;ext f
 |some x=>
  cases i:ac g with
  |none=>rw[i]at b;ext b
  |some y=>rw[e]at f;rw[i]at b;ext f;ext b;show h
def v4(ac:Ac):((jC ac).map (·.1)).Nodup:=by rw[Xi,aaF];show(MA ac).imp λh=>WZ h
def EG{l:G (Nat×Mn)}(h:(l.map (·.1)).Nodup):l.Nodup:=by rw[Xi,aaF]at h;show h.imp λh e=>h (by rw[e])
theorem vZ{l:G (Nat×Mn)}(h:(l.map (·.1)).Nodup)(hm:∀p,p∈l↔p.1<5/\ac p.1=R p.2):l.Perm (jC ac):=
 (List.perm_ext_iff_of_nodup (EG h) (EG (v4 ac))).mpr λp=>(hm p).trans iO.symm
section
variable{Y:br (Nat×Mn)}{X:Ac}(Z:Y.Perm (jC X))
include Z
theorem mY:p∈Y↔p.1<5/\X p.1=R p.2:=Z.mem_iff.trans iO
theorem Kp:(Y.map (·.1)).Nodup:=(Z.map (·.1)).nodup_iff.mpr (v4 X)
def JQ:Y.length<=5:=by rw[Z.length_eq];show zP X
def qK{k:Nat}(f:k<5):lQ (Y.map mE) (.inl (k:Int))=(X k).map λa=>SV.fz (mD a):=by
 ext lQ;cases q:(Y.map mE).find? λb=>decide (b.1=(.inl (k:Int):dI))with
 |none=>
  cases e:X k with
  |none=>rfl
  |some a=>let:=List.find?_eq_none.mp q (mE (k,a)) (Xe.mpr #[(k,a),(mY Z).mpr #[f,e],W]);show a7 (aE W) this
 |some b=>
  let(p,i,rfl):=Xe.mp (adH q);let h:=a6 (List.find?_some (p:=λb:dI×SV=>decide (b.1=(.inl (k:Int):dI))) q);let g:p.1=k:=by let:=Sum.inl.inj h;ext
  rw[<-g,((mY Z).mp i).2];rfl
def Pc{k:Nat}(o:k<5):∃c:G (Nat×Mn),mr (Y.map mE) (.inl (k:Int)) (.fz (mD a))=c.map mE/\c.Perm (jC (pB X k (R a))):=by
 ext mr;let g:∀p:Nat×Mn,((mE p).1=(.inl (k:Int):dI))↔p.1=k:=λp=>#[λh=>by let:=Sum.inl.inj h;ext,λh=>by rw[<-h];rfl];split
 .rename_i h
  show#[Y.map λp=>if p.1=k then(k,a)else p,?_,vZ ?_ λp=>?_]
  .rw[WQ,WQ]
   show Ys λp _=>?_;show(if(mE p).1=(.inl (k:Int):dI)then((mE p).1,SV.fz (mD a))else mE p)=mE (if p.1=k then(k,a)else p);by_cases e:p.1=k
   .rw[av ((g p).mpr e),av e,(g p).mpr e];rfl
   .rw[ax (λz=>e ((g p).mp z)),ax e]
  .rw[WQ,show Y.map ((·.1)∘λp:Nat×Mn=>if p.1=k then(k,a)else p)=Y.map (·.1)from Ys λp _=>by
    show(if p.1=k then(k,a)else p).1=p.1;split
    .rename_i e;show e.symm
    .rfl]
   show Kp Z
  .let(w,l,j):=acN.mp h
   let(n,v,rfl):=Xe.mp l;let b:=(g n).mp (a6 j);rw[Xe];constructor
   .rintro⟨r,u,rfl⟩
    split
    .show#[o,gv]
    .rename_i e;let:=(mY Z).mp u;show#[this.1,by rw[i9 e];show this.2]
   .rintro⟨f,i⟩
    by_cases e:p.1=k
    .rw[e,gv]at i;show#[n,v,?_];rw[av b,<-e,WE i]
    .rw[i9 e]at i;show#[p,(mY Z).mpr #[f,i],by rw[ax e]]
 .rename_i h
  let A:=λp m e=>h (acN.mpr #[mE p,Xe.mpr #[p,m,W],aE ((g p).mpr e)]);show#[Y++[(k,a)],by rw[WI];rfl,vZ ?_ λp=>?_]
  .rw[WI,ZN];show#[Kp Z,Yp.mpr #[Yf,abA],λx t y q=>?_];let(p,b,rfl):=Xe.mp t;rw[WO.mp q];show A p b
  .rw[Xn,WO]
   constructor
   .rintro(b|rfl)
    .let:=(mY Z).mp b;show#[this.1,by rw[i9 (A p b)];show this.2]
    .show#[o,gv]
   .rintro⟨b,f⟩
    by_cases e:p.1=k
    .rw[e,gv]at f;show .inr (by rw[<-e,WE f])
    .rw[i9 e]at f;show .inl ((mY Z).mpr #[b,f])
def Jl{k:Nat}:∃c:G (Nat×Mn),p7 (Y.map mE) (.inl (k:Int))=c.map mE/\c.Perm (jC (pB X k U)):=by
 let g:∀p:Nat×Mn,((mE p).1=(.inl (k:Int):dI))↔p.1=k:=λp=>#[λh=>by let:=Sum.inl.inj h;ext,λh=>by rw[<-h];rfl];show#[Y.filter λp=>decide (p.1≠k),?_,vZ ?_ λp=>?_]
 .ext p7;rw[List.filter_map];congr 1;show List.filter_congr λp _=>?_;show decide_eq_decide.mpr (not_congr (g p))
 .show ant ((List.filter_sublist).map _) (Kp Z)
 .rw[YZ,mY Z,decide_eq_true_eq]
  constructor
  .rintro⟨⟨b,a⟩,f⟩;show#[b,by rw[i9 f];show a]
  .rintro⟨b,a⟩
   by_cases e:p.1=k
   .rw[e,gv]at a;ext a
   .rw[i9 e]at a;show#[#[b,a],e]
def K7:aD CV ((Y.map mE).map (·.1))=R (Y.map λp=>(p.1:Int)):=by
 clear Z
 induction Y with
 |nil=>rfl
 |cons p r a=>rw[WL,WL];ext aD;rw[a];rfl
def MB:nK (Y.map λp=>(p.1:Int))=(jC X).map λp=>(p.1:Int):=by show oj ((gG _).trans (Z.map _)) (fY _) ?_;rw[aaF];show(MA X).imp λh=>by ext
end
abbrev Sn:=G (Nat×Bool)
def qQ(ac:Ac)(a:Mn):Bool:=decide (a∈(jC ac).map (·.2))
def uD(ac:Ac):Mn->Sn
 |.Xs c=>if qQ ac (.Xs c)=P then[]else[(c,P)]
 |_=>[]
def Th(ac:Ac):Mn->Sn
 |.Xs c=>if qQ ac (.Xs c)=P then[]else[(c,Wu)]
 |_=>[]
def iW(p:Za×Sn)(k:Nat)(a:Mn):Za×Sn:=({p.1 with ac:=pB p.1.ac k (R a)},p.2++uD p.1.ac a)
def go(p:Za×Sn)(k:Nat):Za×Sn:=match p.1.ac k with
 |some a=>({p.1 with ac:=pB p.1.ac k U},p.2++Th (pB p.1.ac k U) a)
 |none=>p
def mi(p:Za×Sn)(a:G (Nat×Mn)):Za×Sn:=a.foldl (λp q=>iW p q.1 q.2) p
def jc(b:Bd)(a:G Nat):I (Nat×Int)->G Mn
 |some (_,n)=>[.Y8 n]
 |none=>Uq b a
def fq(b:Bd)(p:Za×Sn):Za×Sn:=match p.1.wt with
 |none=>p
 |some (a,_,w)=>mi ({p.1 with wt:=U},p.2) (a.zip (jc b a w))
def Ht:Wq->Nat->Bool
 |some (a,_,_),k=>decide (k∈a)
 |none,_=>Wu
def Md(b:Bd)(s:Za)(k:Nat):Bool:=match s.wt with
 |some (a,_,U)=>decide (sD s.ac s.oc=0)&& !(gP b (a++[k])).isEmpty
 |_=>Wu
def z9(b:Bd)(p:Za×Sn)(k:Nat):Za×Sn:=match p.1.wt with
 |some (a,g,_)=>if(gP b (a++[k])).map (·.1.length)=[(a++[k]).length]then fq b ({p.1 with wt:=R (a++[k],g,U)},p.2)else({p.1 with wt:=R (a++[k],g,U)},p.2)
 |none=>p
def i8(s:Za)(m:Mn):Za:=if(m.afh||m.isO)=P then s else{s with oc:=U}
def Cj(b:Bd)(L:Int)(p:Za×Sn)(k:Nat):Mn->Za×Sn
 |.tap c n=>({p.1 with wt:=R ([k],0,R (c,n))},p.2)
 |.Xs c=>if(decide (L=0)&& !(gP b [k]).isEmpty)=P then({p.1 with wt:=R ([k],0,U)},p.2)else iW p k (.Xs c)
 |.once n=>({(iW p k .none).1 with oc:=R n},(iW p k .none).2)
 |m=>iW p k m
def MM(b:Bd)(p:Za×Sn)(k:Nat):Za×Sn:=
 Cj b (sD p.1.ac p.1.oc) (i8 p.1 (look b (sD p.1.ac p.1.oc) k),p.2) k (look b (sD p.1.ac p.1.oc) k)
def rG(b:Bd)(p:Za×Sn)(k:Nat):Za×Sn:=
 if((p.1.ac k).isSome||Ht p.1.wt k)=P then p else if Md b p.1 k=P then z9 b p k else MM b (fq b p) k
def dR(b:Bd)(p:Za×Sn)(k:Nat):Za×Sn:=match p.1.wt with
 |some (_,_,U)=>fq b p
 |some (_,_,R (c,_))=>iW ({p.1 with wt:=U},p.2) k (.Xs c)
 |none=>p
def BG(b:Bd)(p:Za×Sn)(k:Nat):Za×Sn:=go (if Ht p.1.wt k=P then dR b p k else p) k
def pw(b:Bd)(p:Za×Sn):Za×Sn:=match p.1.wt with
 |none=>p
 |some (a,g,w)=>if g+1=b.wt then fq b ({p.1 with wt:=R (a,g+1,w)},p.2)else({p.1 with wt:=R (a,g+1,w)},p.2)
def aZ(b:Bd)(s:Za):Evn->Za×Sn
 |.down k=>rG b (s,[]) k
 |.up k=>BG b (s,[]) k
 |.turn=>pw b (s,[])
def xt(b:Bd)(s:Za):G (Str×SV):=[("bed",.fz (bD b)),("acts",.rf 1),("waiting",.fz (lY s.wt)),("once",.fz (wE s.oc)),("sent",.rf 2)]
def oU(p:Nat×Bool):D:=.tuple [.str (mh p.1),.str (if p.2=P then "down" else "up")]
def eX(b:Bd)(s:Za)(sn:Sn)(a:G (Nat×Mn))(J:bA):bA:=.obj "Hand" (xt b s):: .dct (a.map mE):: .lst ((sn.map oU).map .fz)::J
def HS(b:Bd)(p:Za×Sn)(Z:bA):Prop:=∃a J,a.Perm (jC p.1.ac)/\Z=eX b p.1 p.2 a J
section
variable{b:Bd}{s:Za}{sn:Sn}{Y:br (Nat×Mn)}{J:bA}{ρ:bK}{i:Nat}{Z:bA}{p:Za×Sn}{k:Nat}{a:Mn}
def QY:(xt b s).lookup ("bed":Str)=-(bD b):=by ext xt;rw[Y1]
def M4:(xt b s).lookup ("acts":Str)=R (.rf 1):=by ext xt;rw[WT,show(("acts":Str)== "bed")=Wu by left];dsimp only;rw[Y1]
def Pg:(xt b s).lookup ("waiting":Str)=-(lY s.wt):=by ext xt;rw[WT,show(("waiting":Str)== "bed")=Wu by left];dsimp only;rw[WT,show(("waiting":Str)== "acts")=Wu by left];dsimp only;rw[Y1]
def Np:(xt b s).lookup ("once":Str)=-(wE s.oc):=by ext xt;rw[WT,show(("once":Str)== "bed")=Wu by left];dsimp only;rw[WT,show(("once":Str)== "acts")=Wu by left];dsimp only;rw[WT,show(("once":Str)== "waiting")=Wu by left];dsimp only;rw[Y1]
def Ot:(xt b s).lookup ("sent":Str)=R (.rf 2):=by ext xt;rw[WT,show(("sent":Str)== "bed")=Wu by left];dsimp only;rw[WT,show(("sent":Str)== "acts")=Wu by left];dsimp only;rw[WT,show(("sent":Str)== "waiting")=Wu by left];dsimp only;rw[WT,show(("sent":Str)== "once")=Wu by left];dsimp only;rw[Y1]
def Vu(m:Str):Bool:=(m== "bed"||m== "acts"||m== "waiting"||m== "once"||m== "sent")==Wu
def T6(h:Vu m=P):(xt b s).lookup m=U:=by unfold Vu at h;simp only[beq_iff_eq,ae1]at h;let((((l,j),g),f),e):=h;ext xt;rw[WT,l];dsimp only;rw[WT,j];dsimp only;rw[WT,g];dsimp only;rw[WT,f];dsimp only;rw[WT,e];rfl
theorem r8(h:ρ[i]?=R (R (.rf 0))):a8 "Hand" "bed" (az i) ρ (eX b s sn Y J)=.ok (.fz (bD b)) (eX b s sn Y J):=cW (bf h) W QY
theorem jn(h:ρ[i]?=R (R (.rf 0))):a8 "Hand" "acts" (az i) ρ (eX b s sn Y J)=.ok (.rf 1) (eX b s sn Y J):=cW (bf h) W M4
theorem cA(h:ρ[i]?=R (R (.rf 0))):a8 "Hand" "waiting" (az i) ρ (eX b s sn Y J)=.ok (.fz (lY s.wt)) (eX b s sn Y J):=cW (bf h) W Pg
theorem Fd(h:ρ[i]?=R (R (.rf 0))):a8 "Hand" "once" (az i) ρ (eX b s sn Y J)=.ok (.fz (wE s.oc)) (eX b s sn Y J):=cW (bf h) W Np
theorem zk(h:ρ[i]?=R (R (.rf 0))):a8 "Hand" "sent" (az i) ρ (eX b s sn Y J)=.ok (.rf 2) (eX b s sn Y J):=cW (bf h) W Ot
def JM(w:Wq):eF "waiting" (.fz (lY w)) (xt b s)=xt b {s with wt:=w}:=by ext xt;ext eF;rw[ax (by left)];ext eF;rw[ax (by left)];ext eF;rw[av W]
def Ll(o:I Int):eF "once" (.fz (wE o)) (xt b s)=xt b {s with oc:=o}:=by ext xt;ext eF;rw[ax (by left)];ext eF;rw[ax (by left)];ext eF;rw[ax (by left)];ext eF;rw[av W]
theorem oJ(w:Wq)(h:ρ[i]?=R (R (.rf 0)))(e:f ρ Z=.ok (.fz (lY w)) (eX b s sn Y J)):fM "Hand" "waiting" (az i) f ρ Z=.ok (.nx ρ) (eX b {s with wt:=w} sn Y J):=
 (lB e (bf h) W (by show Wx W)).trans (by rw[JM];rfl)
theorem Gs(o:I Int)(h:ρ[i]?=R (R (.rf 0)))(e:f ρ Z=.ok (.fz (wE o)) (eX b s sn Y J)):fM "Hand" "once" (az i) f ρ Z=.ok (.nx ρ) (eX b {s with oc:=o} sn Y J):=
 (lB e (bf h) W (by show Wx W)).trans (by rw[Ll];rfl)
def cL(e:HS b p Z)(hm:Vu m=P)(h:ρ[i]?=R (R (.rf 0)))(d:fa ρ Z=.ok xs Z)(c:(SV.rf 0::xs).length=n)(f:F (.rf 0::xs) Z=.ok x j):bw "Hand" m F n (az i) fa ρ Z=.ok x j:=by let(Y,J,g,rfl):=e;show yD (bf h) W (T6 hm) d c f
def Jn(Y:G (Nat×Mn)):(Y.map mE).map (·.2)=((Y.map (·.2)).map mD).map SV.fz:=by rw[WQ,WQ,WQ];rfl
def AK(ac:Ac):Prop:=∀k a,ac k=R a->k<5/\LB a
def KN(f:HS b p Z)(g:AK p.1.ac)(d:LB a):∃c,cz [.rf 0,.fz (mD a)] Z=.ok (.fz (.bool (qQ p.1.ac a))) c/\HS b p c:=by
 let(Y,J,e,rfl):=f;let j:qQ p.1.ac a=decide (a∈Y.map (·.2)):=decide_eq_decide.mpr (e.map (·.2)).symm.mem_iff;let lb:∀m∈Y.map (·.2),LB m:=λm hm=>by let(q,h,rfl):=Xe.mp hm;show(g _ _ ((mY e).mp h).2).2
 show#[eX b p.1 p.2 Y (J++[.lst ((Y.map mE).map (·.2))]),?_,Y,_,e,W];rw[j];show jN W (jb (dM (ai (af W)) (M9 (jn W) W) (yP W (dQ (by rw[Jn];show aO)) (N3 d lb))))
theorem Eg(f:sn.length<1000)(h:ρ[i]?=R (R (.rf 0)))(e:g ρ (eX b s sn Y J)=.ok (.fz (oU (c,d))) (eX b s sn Y J)):l6 (a8 "Hand" "sent" (az i)) g ρ (eX b s sn Y J)=.ok (.fz .none) (eX b s (sn++[(c,d)]) Y J):=
 (vA (zk h) W e W (by rw[Wg,Wg];ext)).trans (by ext eX;rw[WI,WI];rfl)
def vI(e:Y.Perm (jC s.ac))(g:k<5)(n:ρ[0]?=R (R (.rf 0)))(m:ρ[1]?=R (-(nd k)))(l:ρ[2]?=R (-(mD a))):∃c:G (Nat×Mn),c.Perm (jC (pB s.ac k (R a)))/\B9 (a8 "Hand" "acts" (az 0)) (ag (aa 1)) (ag (aa 2)) ρ (eX b s sn Y J)=.ok (.nx ρ) (eX b {s with ac:=pB s.ac k (R a)} sn c J):=by let(c,j,h):=Pc e g;let f:aa 1 (cw ρ)=.ok (.fz (nd k),cw ρ):=af (by ext cw;rw[Wv,m];rfl);let p2:aa 2 (cw ρ)=.ok (.fz (mD a),cw ρ):=af (by ext cw;rw[Wv,l];rfl);show#[c,h,(PB (ai p2) (jn n) (ai f) W W (by rw[Wg];let:=JQ e;ext)).trans ?_];rw[j];rfl
def uu(m:HS b p Z)(w:AK p.1.ac)(x:LB a)(n:k<5)(v:p.2.length<1000):∃d,bT [.rf 0,.fz (nd k),.fz (mD a)] Z=.ok (.fz .none) d/\HS b (iW p k a) d:=by
 let e0:=tE a;let u:=oK a;cases q:a.isL with
 |false=>
  let(Y,J,h,rfl):=m;rw[q]at u;let(f,j,y):=vI (ρ:=[R (.rf 0),-(nd k),-(mD a)]) h n W W W;show#[_,qU W (dD (jT (jB (cJ (by ext:0))) jo) y),f,J,j,?_];let:uD p.1.ac a=[]:=by ext a<;>first|rfl|ext q
  ext iW;rw[this,W4]
 |true=>
  rw[q]at u;let(z,j,l):=KN m w x;let g:∀t,qQ p.1.ac a=t->(qL (db (a9 (aW eR (aW bB (aa 2) (~~~0)) (pC (.str "letter"))))) (wP (b8 (bw "Hand" "has_act" cz 2 (az 0) (am (ag (aa 2)) aJ))))) [R (.rf 0),-(nd k),-(mD a)] Z=.ok (!t) z:=λt e=>by rw[e]at j;show kQ (cJ (by ext:0)) (qO (bG (cL m (by left) W (au (ai (af W)) aL) W j)))
  let(Y,J,h,rfl):=l;cases C:qQ p.1.ac a with
  |true=>
   let(f,r,o):=vI (ρ:=[R (.rf 0),-(nd k),-(mD a)]) h n W W W;show#[_,qU W (dD (jT (g P C) jo) o),f,J,r,?_];let:uD p.1.ac a=[]:=by
    ext a<;>first|ext q|skip
    show(if qQ p.1.ac _=P then _ else _)=_;rw[av C]
   ext iW;rw[this,W4]
  |false=>
   ext a<;>first|ext q|skip
   rename_i c;let(f,r,o):=vI (ρ:=[R (.rf 0),-(nd k),-(mD (.Xs c))]) (sn:=p.2++[(c,P)]) h n W W W;let A:bB (mD (.Xs c)) (.int 1)=-(.str (mh c)):=lZ;show#[_,qU W (dD (iU (g Wu C) (iH (Eg v W (ai (show _=Res.ok (PV.fz (.tuple [.str (mh c),.str "down"]),_) by ext:0))))) o),f,J,r,?_];let:uD p.1.ac (.Xs c)=[(c,P)]:=by show(if qQ p.1.ac _=P then _ else _)=_;rw[ax (by rw[C];simp)]
   ext iW;rw[this]
end
end STP
namespace STP
open PySem L2 L3 L10
def VA(a:Int):Mn->Prop
 |.Xs c=>c<26
 |.Y8 n=>1<=n/\n<a
 |.none=>True
 |_=>False
def VA.lb(h:VA nL m):LB m:=by
 cases m with
 |Xs c=>show h
 |tap c n=>show h.elim
 |_=>trivial
structure SA(b:Bd)(s:Za):Prop where
 ac:∀k a,s.ac k=R a->(k:Int)<b.n/\VA b.ls.length a
 oc:∀o,s.oc=R o->1<=o/\o<b.ls.length
structure WV(b:Bd)(ac:Ac)(ks:G Nat)(g:Int)(w:I (Nat×Int)):Prop where
 ne:ks≠[]
 nd:ks.Nodup
 kn:∀k∈ks,(k:Int)<b.n
 kf:∀k∈ks,ac k=U
 g0:0<=g
 tp:∀c n,w=R (c,n)->c<26/\(1<=n/\n<b.ls.length)/\ks.length=1
 ch:w=U->∀k∈ks,Ir (b.ls.headD []) k=P
structure SW(b:Bd)(s:Za):Prop where
 sa:SA b s
 wt:∀ks g w,s.wt=R (ks,g,w)->WV b s.ac ks g w/\g<b.wt
def D0{c:G Nat}(hd:c.Nodup)(h:∀k∈c,k<n):c.length<=n:=by rw[<-Nl c];let b:=(wu c).nodup_iff.mpr hd;show Nr (((CH c).and b).imp λh=>by ext) λk a=>h k ((wu c).mem_iff.mp a)
section
variable{b:Bd}(Z:VB b){s:Za}{p:Za×Sn}{Y:br Nat}{g:Int}{w:bP (Nat×Int)}{X:Ac}{k:Nat}{a:Mn}
include Z
theorem WV.len(h:WV b X Y g w):Y.length<=5:=D0 h.nd λk e=>by let:=h.kn k e;let:=Z.n5;ext
omit Z in
theorem WV.aly(h:WV b X Y g w):1<=Y.length:=List.length_pos_iff.mpr h.ne
theorem SA.ak(h:SA b s):AK s.ac:=λk a e=>by let:=h.ac k a e;let:=Z.n5;show#[by ext,(h.ac k a e).2.lb]
omit Z in
theorem SA.cm(h:SA b p.1)(f:(k:Int)<b.n)(ha:VA b.ls.length a):SA b (iW p k a).1:=by
 refine⟨λj x e=>?_,h.oc⟩;by_cases z:j=k
 .subst z;have i:lD a=lD x:=(gv (ac:=p.1.ac) (k:=j) (o:=lD a)).symm.trans e;cases i;exact⟨f,ha⟩
 .exact h.ac j x ((i9 z).symm.trans e)
omit Z in
theorem SA.gg(h:SA b p.1):SA b (go p k).1:=by
 unfold go;split
 .refine⟨λj x e=>?_,h.oc⟩
  by_cases z:j=k
  .subst z;exact a7 ((gv (ac:=p.1.ac) (k:=j) (o:=Wh)).symm.trans e) (by simp)
  .exact h.ac j x ((i9 z).symm.trans e)
 .exact h
omit Z in
theorem wa:(iW p k a).2.length<=p.2.length+1:=by
 show(p.2++uD p.1.ac a).length<=_;rw[Wm];have:(uD p.1.ac a).length<=1:=by
  cases a with
  |Xs c=>show(if _ then _ else _:Sn).length<=1;split<;>simp
  |_=>simp[uD]
 ext
omit Z in
theorem Ig(e:br (Nat×Mn)):∀p:Za×Sn,(mi p e).2.length<=p.2.length+e.length:=by
 induction e with
 |nil=>exact λp=>Ww _
 |cons q r f=>intro p;have i:=f (iW p q.1 q.2);have h:=wa (p:=p) (k:=q.1) (a:=q.2);show(mi (iW p q.1 q.2) r).2.length<=_;rw[WJ];ext
omit Z in
theorem SA.cms(e:br (Nat×Mn)):∀{p:Za×Sn},SA b p.1->(∀q∈e,(q.1:Int)<b.n/\VA b.ls.length q.2)->SA b (mi p e).1/\(mi p e).1.wt=p.1.wt/\(mi p e).1.oc=p.1.oc:=by
 induction e with
 |nil=>exact λh _=>⟨h,rfl,rfl⟩
 |cons q r j=>intro p h f;have i:=f q WK;exact j (h.cm i.1 i.2) λx l=>f x (WH _ l)
def Rk(h:Ir (b.ls.headD []) k=P):∃c,wT b 0 k=.Xs c:=by
 let i:=Z.l1;obtain⟨f,r,e⟩:∃f r,b.ls=f::r:=by
  cases q:b.ls with
  |nil=>rw[q]at i;ext i
  |cons l r=>show#[l,r,W]
 unfold Ir at h;ext wT;rw[e]at h⊢;rw[aea,acs];rw[List.headD_cons]at h;cases q:f[k]? with
 |none=>rw[q]at h;ext h
 |some m=>
  rw[q]at h;cases m with
  |Xs c=>show#[c,W]
  |_=>ext h
def Nj(f:(k:Int)<b.n)(h:Ir (b.ls.headD []) k=P):VA b.ls.length (wT b 0 k):=by let i:=Z.l1;let(c,e):=Rk Z h;let:=DR Z (L:=0) () f;rw[e]at this⊢;show this
def S7(h:WV b X Y g U):∀m∈Uq b Y,VA b.ls.length m:=by
 intro m hm;unfold Uq at hm;split at hm
 .rename_i c f
  rcases W2.mp hm with rfl|hm
  .show(Z.vc c (adH f)).2.2.2
  .rw[(List.mem_replicate.mp hm).2];trivial
 .let(j,e,rfl):=Xe.mp hm;show Nj Z (h.kn j e) (h.ch W j e)
def zj(h:WV b X Y g w):∀q∈Y.zip (jc b Y w),(q.1:Int)<b.n/\VA b.ls.length q.2:=by
 intro q f;let e:=aaf f;show#[h.kn _ e.1,?_];cases w with
 |none=>show S7 Z h _ e.2
 |some i=>let(c,n):=i;rw[WO.mp e.2];show(h.tp c n W).2.1
def WD(b:Bd)(s:Za):Prop:=∀Y g w,s.wt=R (Y,g,w)->WV b s.ac Y g w
def kM(h:SA b p.1)(i:WD b p.1):SW b (fq b p).1/\(fq b p).1.wt=U/\(fq b p).2.length<=p.2.length+5/\(fq b p).1.oc=p.1.oc:=by
 ext fq;split
 .rename_i q;show#[#[h,λY g w e=>by rw[q]at e;ext e],q,agD _ _,W]
 .rename_i Y g w q
  let v:=i Y g w q;let(l,f,j):=SA.cms (Y.zip (jc b Y w)) (p:=({p.1 with wt:=U},p.2)) #[h.ac,h.oc] (zj Z v);show#[#[l,λ_ _ _ e=>?_],f,?_,j]
  .rw[f]at e;ext e
  .let:=Ig (Y.zip (jc b Y w)) ({p.1 with wt:=U},p.2);let m:=v.len Z;rw[agE]at this;let:(mi ({p.1 with wt:=U},p.2) (Y.zip (jc b Y w))).2.length<=p.2.length+min Y.length (jc b Y w).length:=this;ext
omit Z in
theorem GN:∀(l:br Int) (m:bP Int),l.foldl oW m=m\/∃x∈l,l.foldl oW m=lD x
 |[],m=>.inl rfl
 |x::r,m=>by
  rw[aa8];rcases GN r (oW m x)with h|⟨y,hy,h⟩
  .rw[h]
   cases m with
   |none=>exact .inr ⟨x,WK,rfl⟩
   |some z=>
    show lD (if x>z then x else z)=lD z\/_;split
    .exact .inr ⟨x,WK,by show lD (if x>z then x else z)=_;rename_i q;rw[av q]⟩
    .exact .inl rfl
  .exact .inr ⟨y,WH _ hy,h⟩
omit Z in
theorem Eh:∀(l:br Int) (m:bP Int),(∀x∈l,∃y,l.foldl oW m=lD y/\x<=y)/\∀z,m=lD z->∃y,l.foldl oW m=lD y/\z<=y
 |[],m=>⟨λx i=>(by cases i),λz h=>⟨z,h,aaN _⟩⟩
 |x::r,m=>by
  rw[aa8];obtain⟨q,o⟩:=Eh r (oW m x);have n:∃z,oW m x=lD z/\x<=z/\∀u,m=lD u->u<=z:=by
   cases m with
   |none=>exact⟨x,rfl,aaN _,λu h=>by cases h⟩
   |some u=>
    refine⟨if x>u then x else u,rfl,?_,λv h=>?_⟩
    .split<;>ext
    .cases h;split<;>ext
  obtain⟨z,A,C,t⟩:=n;obtain⟨y,f,B⟩:=o z A;refine⟨λv e=>?_,λu j=>⟨y,f,by have:=t u j;ext⟩⟩;rcases W2.mp e with rfl|e
  .exact⟨y,f,by ext⟩
  .exact q v e
omit Z in
theorem FL{X:Ac}{n:Int}:n∈(jC X).filterMap Rj↔∃k,k<5/\X k=lD (.Y8 n):=by
 rw[aap];constructor
 .rintro⟨⟨k,m⟩,f,e⟩
  have h:=iO.mp f;cases m with
  |Y8 x=>have:x=n:=WE e;subst this;exact⟨k,h.1,h.2⟩
  |_=>cases e
 .rintro⟨k,f,e⟩;exact⟨(k,.Y8 n),iO.mpr ⟨f,e⟩,rfl⟩
def N8(h:SA b s):0<=Az s.ac/\Az s.ac<b.ls.length/\(∀k n,s.ac k=R (.Y8 n)->n<=Az s.ac)/\(Az s.ac=0\/∃k,s.ac k=R (.Y8 (Az s.ac))):=by
 let o:=Z.l1;let q:=Z.n5;ext Az;generalize hm:((jC s.ac).filterMap Rj).foldl oW U=m;let j:=(Eh ((jC s.ac).filterMap Rj) U).1;let f:=GN ((jC s.ac).filterMap Rj) U;rw[hm]at j f;let up:∀k n,s.ac k=R (.Y8 n)->∃y,m=R y/\n<=y:=λk n e=>j n (FL.mpr #[k,by let:=(h.ac k _ e).1;ext,e]);cases m with
 |none=>show#[aaN _,by show(0:Int)<_;ext,λk n e=>?_,.inl W];let(y,i,_):=up k n e;ext i
 |some x=>
  rcases f with f|⟨y,r,f⟩
  .ext f
  .ext f;let(k,_,e):=FL.mp r;let:=(h.ac k _ e).2;let:1<=x/\x<b.ls.length:=this;show#[by show 0<=x;ext,by show x<_;ext,λk n e=>?_,.inr #[k,e]];let(y,i,l):=up k n e;ext i;show l
def DS(h:SA b s):0<=sD s.ac s.oc/\sD s.ac s.oc<b.ls.length:=by
 cases q:s.oc with
 |none=>let:=N8 Z h;show#[this.1,this.2.1]
 |some o=>let:=h.oc o q;show#[by show 0<=o;ext,this.2]
end
section
variable{b:Bd}{s:Za}{T:Sn}{Y:br (Nat×Mn)}{J:bA}{X:bK}{i:Nat}{Z:bA}{p:Za×Sn}{k:Nat}{a:Mn}
def C8(h:f x=R y):aD f [x]=R [y]:=by ext aD;rw[h];rfl
def fG:(l++[c]).set l.length e=l++[e]:=by simp
def sJ(f:HS b p Z):∃c,b7 [.rf 0] Z=.ok (.fz (eY p.1)) c/\HS b p c:=by
 let(Y,J,e,rfl):=f;let h:=JQ e;let j:eT (x4 (a8 "Hand" "acts" (az 0))) [R (.rf 0)] (eX b p.1 p.2 Y J)=.ok ((jC p.1.ac).map λq=>nd q.1) (eX b p.1 p.2 Y (J++[.dead])):=by
  show(Eb (ds:=(jC p.1.ac).map λq=>nd q.1) (Ov (jn W) W (K7 e) (by rw[Wg];ext)) ?_).trans ?_
  .rw[MB e];show aO.trans ?_;rw[WQ,WQ];rfl
  .rw[fG];rfl
 let l:cR (dB 0) cF (oP (am (ag (aa 0)) (am (xm (a8 "Hand" "acts" (az 1)) (ag (aa 0))) aJ))) ((jC p.1.ac).map λq=>nd q.1) [U,R (.rf 0)] (eX b p.1 p.2 Y (J++[.dead])) []=.ok (((jC p.1.ac).map pD).map .fz) (eX b p.1 p.2 Y (J++[.dead])):=by show(fZ (λq:Nat×Mn=>nd q.1) (λq=>.fz (pD q)) _ (λX=>∃o,X=[o,R (.rf 0)]) (jC p.1.ac) _ [] #[U,W] (by let:=zP p.1.ac;rw[YG];ext) ?_).trans (by rw[WQ];rfl);rintro q g X ⟨o,rfl⟩;let hm:=iO.mp g;show#[[-(nd q.1),R (.rf 0)],W,W,?_,_,W];show rO (au (ai (af W)) (au (M0 (jn W) (ai (af W)) W W (by rw[qK e hm.1,hm.2];rfl)) aL)) (Wx W)
 let tp:kK gO (am (eC 1 [0] (eT (x4 (a8 "Hand" "acts" (az 0)))) (dB 0) cF (oP (am (ag (aa 0)) (am (xm (a8 "Hand" "acts" (az 1)) (ag (aa 0))) aJ)))) aJ) [R (.rf 0)] (eX b p.1 p.2 Y J)=.ok (.fz (.tuple ((jC p.1.ac).map pD))) (eX b p.1 p.2 Y (J++[.dead]++[.lst (((jC p.1.ac).map pD).map .fz)])):=
  nk (au (gy j l) aL) (C8 (dQ aO)) W
 show#[_,jN W (jb (rO (au tp (au (cA W) (au (Fd W) aL))) (Wx W))),Y,_,e,W]
def J7(h:HS b p Z):cH [.rf 0,.fz (nd k)] Z=.ok (.fz (.bool (Ht p.1.wt k))) Z:=by
 let(Y,J,l,rfl):=h;show jN W (jb ?_);cases q:p.1.wt with
 |none=>
  let e:vt (lY p.1.wt) .none=-(.bool Wu):=by rw[q];rfl
  show G3 (bG (dM (cA W) (ai aQ) (cZ e)))
 |some x=>
  let(f,g,w):=x;let e:vt (lY p.1.wt) .none=-(.bool P):=by rw[q];rfl
  let j:bB (lY p.1.wt) (.int 0)=-(.tuple (bN f)):=by rw[q];show jF
  show xD (bG (dM (cA W) (ai aQ) (cZ e))) (dM (ai (af W)) (ck (cA W) (ai aQ) j) (cZ (yn _ _)))
def TW(F:HS b p Z)(t:AK p.1.ac)(S:p.1.ac k=R a)(G:p.2.length<1000):∃D,kX [.rf 0,.fz (nd k)] Z=.ok (.fz .none) D/\HS b (go p k) D:=by
 let(Y,J,B,rfl):=F;let H:=(t k a S).1;let lb:=(t k a S).2;let(f,L,w):=Jl B
 let m:AX (a8 "Hand" "acts" (az 0)) (ag (aa 1)) [R (.rf 0),-(nd k),U] (eX b p.1 p.2 Y J)=.ok (.fz (mD a)) (eX b {p.1 with ac:=pB p.1.ac k U} p.2 f J):=
  (Ow (jn W) W (ai (af W)) W W (by rw[qK B H,S];rfl)).trans (by rw[L];rfl)
 let I:go p k=({p.1 with ac:=pB p.1.ac k U},p.2++Th (pB p.1.ac k U) a):=by ext go;rw[S]
 rw[I];let o:AK (pB p.1.ac k U):=λj x e=>by
  by_cases z:j=k
  .subst z;rw[gv]at e;ext e
  .rw[i9 z]at e;show t j x e
 let e0:=tE a;let N:=oK a;let h:a9 (aW eR (aW bB (aa 2) (~~~0)) (pC (.str "letter"))) (cw [R (.rf 0),-(nd k),-(mD a)])=.ok (a.isL,cw [R (.rf 0),-(nd k),-(mD a)]):=by ext:0
 let v:GoS (dw (qL (db (a9 (aW eR (aW bB (aa 2) (~~~0)) (pC (.str "letter"))))) (wP (b8 (bw "Hand" "has_act" cz 2 (az 0) (am (ag (aa 2)) aJ))))) (cr (l6 (a8 "Hand" "sent" (az 0)) (ag (df {aW bB (aa 2) (~~~1),pC (.str "up")})))) eD [R (.rf 0),-(nd k),-(mD a)] (eX b {p.1 with ac:=pB p.1.ac k U} p.2 f J)) (λ_ D=>SV.fz .none=.fz .none/\HS b ({p.1 with ac:=pB p.1.ac k U},p.2++Th (pB p.1.ac k U) a) D) (λ_ _=>False) (λr D=>r=.fz .none/\HS b ({p.1 with ac:=pB p.1.ac k U},p.2++Th (pB p.1.ac k U) a) D):=by
  cases q:a.isL with
  |false=>
   rw[q]at h;show fX (jB (cJ h)) (n9 #[W,f,J,w,?_]);let:Th (pB p.1.ac k U) a=[]:=by ext a<;>first|rfl|ext q
   rw[this,W4]
  |true=>
   rw[q]at h;let(C,u,n):=KN (p:=({p.1 with ac:=pB p.1.ac k U},p.2)) #[f,J,w,W] o lb;let g:∀l,qQ (pB p.1.ac k U) a=l->(qL (db (a9 (aW eR (aW bB (aa 2) (~~~0)) (pC (.str "letter"))))) (wP (b8 (bw "Hand" "has_act" cz 2 (az 0) (am (ag (aa 2)) aJ))))) [R (.rf 0),-(nd k),-(mD a)] (eX b {p.1 with ac:=pB p.1.ac k U} p.2 f J)=.ok (!l) C:=λl e=>by
    let u:cz [.rf 0,.fz (mD a)] (eX b {p.1 with ac:=pB p.1.ac k U} p.2 f J)=.ok (.fz (.bool l)) C:=by rw[<-e];show u
    show kQ (cJ h) (qO (bG (cL (p:=({p.1 with ac:=pB p.1.ac k U},p.2)) #[f,J,w,W] (by left) W (au (ai (af W)) aL) W u)))
   let(y,E,A,K):=n;rw[K]at g;cases Q:qQ (pB p.1.ac k U) a with
   |true=>
    show fX (g P Q) (n9 #[W,y,E,A,?_]);let:Th (pB p.1.ac k U) a=[]:=by
     ext a<;>first|ext q|skip
     show(if qQ (pB p.1.ac k U) _=P then _ else _)=_;rw[av Q]
    rw[this,W4]
   |false=>
    ext a<;>first|ext q|skip
    rename_i c;let M:bB (mD (.Xs c)) (.int 1)=-(.str (mh c)):=lZ;show u8 (g Wu Q) (j7 (Eg (d:=Wu) G W (ai (show _=Res.ok (PV.fz (.tuple [.str (mh c),.str "up"]),_) by ext:0))) #[W,y,E,A,?_]);let:Th (pB p.1.ac k U) (.Xs c)=[(c,Wu)]:=by show(if qQ (pB p.1.ac k U) _=P then _ else _)=_;rw[ax (by rw[Q];simp)]
    rw[this]
 show kH W (l7 m W v)
end
section
variable{b:Bd}(Y:VB b){s:Za}{Q:Sn}{T:br (Nat×Mn)}{J:bA}{S:bK}{i:Nat}{Z:bA}{p:Za×Sn}{k:Nat}{a:Mn}{X:br Nat}{g:Int}{w:bP (Nat×Int)}
theorem Ly:∀(X:G Nat) (e:G Mn),mf (bN X) (e.map mD)=(X.zip e).map pD
 |[],_=>by cases ‹G Mn›<;>rfl
 |_::_,[]=>rfl
 |k::r,a::t=>by show Wn.tuple [nd k,mD a]::mf (bN r) (t.map mD)=_;rw[Ly r t];rfl
def Dm(h:∀c n,w=R (c,n)->c<26):eR (wO w) (.tuple [.str "chord"])=-(.bool w.isNone)/\wC (wO w) (.tuple [.str "chord"])=-(.bool w.isSome):=by
 cases w with
 |none=>
  let l:kF (.tuple [.str "chord"])=P:=by left
  let j:Wn.canLay0 (.tuple [.str "chord"])=P:=by left
  let f:Wn.eqv (.tuple [.str "chord"]) (.tuple [.str "chord"])=P:=by left
  constructor
  .show(if(kF (.tuple [.str "chord"])&&Wn.canLay0 (.tuple [.str "chord"]))=P then R (RV.fz (.bool (Wn.eqv (.tuple [.str "chord"]) (.tuple [.str "chord"]))))else U)=_;rw[l,j,f];rfl
  .show(if(kF (.tuple [.str "chord"])&&Wn.canLay0 (.tuple [.str "chord"]))=P then R (RV.fz (.bool (!Wn.eqv (.tuple [.str "chord"]) (.tuple [.str "chord"]))))else U)=_;rw[l,j,f];rfl
 |some m=>
  let(c,n):=m;let lb:LB (.tap c n):=h c n W;let e:Wn.eqv (mD (.tap c n)) (.tuple [.str "chord"])=Wu:=by show(decide (("tap":Str)= "chord")&&Wn.eqvAll [.str (mh c),.int n] [])=Wu;rw[show decide (("tap":Str)= "chord")=Wu by left];rfl
  constructor
  .show(if(kF (mD (.tap c n))&&Wn.canLay0 (.tuple [.str "chord"]))=P then R (RV.fz (.bool (Wn.eqv (mD (.tap c n)) (.tuple [.str "chord"]))))else U)=_;rw[Mr lb,show Wn.canLay0 (.tuple [.str "chord"])=P by left,e];rfl
  .show(if(kF (mD (.tap c n))&&Wn.canLay0 (.tuple [.str "chord"]))=P then R (RV.fz (.bool (!Wn.eqv (mD (.tap c n)) (.tuple [.str "chord"]))))else U)=_;rw[Mr lb,show Wn.canLay0 (.tuple [.str "chord"])=P by left,e];rfl
theorem Br(X:G Nat)(w:I (Nat×Int))(f:G Mn):∀(h:G (Nat×Mn)) (p:Za×Sn) (Z:bA) (n m:I SV),HS b p Z->AK p.1.ac->(∀q∈h,q.1<5/\LB q.2)->p.2.length+h.length<1000->
  ∃c d,mJ (TB 2 (vP (dB 4) (vP (dB 5) Hc))) (cr (bw "Hand" "come" bT 3 (az 0) (am (ag (aa 4)) (am (ag (aa 5)) aJ)))) (h.map pD) [R (.rf 0),-(.tuple (bN X)),-(wO w),-(.list (f.map mD)),n,m] Z=.ok (.nx c) d/\HS b (mi p h) d
 |[],p,Z,n,m,L,_,_,_=>#[_,Z,W,L]
 |q::r,p,Z,n,m,L,hA,N,hl=>by
  rw[WJ]at hl;let l:=N q WK;let(v,C,t):=uu L hA l.2 l.1 ();let u:AK (iW p q.1 q.2).1.ac:=λj x e=>by
   by_cases z:j=q.1
   .let E:R q.2=R x:=by rw[z]at e;show(gv).symm.trans e
    ext E;show#[by rw[z];show l.1,l.2]
   .show hA j x ((i9 z).symm.trans e)
  let:=wa (p:=p) (k:=q.1) (a:=q.2);let(c,d,B,o):=Br X w f r (iW p q.1 q.2) v (-(nd q.1)) (-(mD q.2)) t u (λx A=>N x (WH _ A)) ();show#[c,d,?_,o]
  let y:cr (bw "Hand" "come" bT 3 (az 0) (am (ag (aa 4)) (am (ag (aa 5)) aJ))) [R (.rf 0),-(.tuple (bN X)),-(wO w),-(.list (f.map mD)),-(nd q.1),-(mD q.2)] Z=.ok (.nx [R (.rf 0),-(.tuple (bN X)),-(wO w),-(.list (f.map mD)),-(nd q.1),-(mD q.2)]) v:=
   iH (cL L (by left) W (au (ai (af W)) (au (ai (af W)) aL)) W C)
  show((cr (bw "Hand" "come" bT 3 (az 0) (am (ag (aa 4)) (am (ag (aa 5)) aJ))) [R (.rf 0),-(.tuple (bN X)),-(wO w),-(.list (f.map mD)),-(nd q.1),-(mD q.2)] Z).bind _)=_;rw[y,eo];show B
include Y
def oG(u:HS b p Z)(o:SA b p.1)(f:p.1.wt=R (X,g,w))(v:WV b p.1.ac X g w)(K:p.2.length<900):∃d,cG [.rf 0] Z=.ok (.fz .none) d/\HS b (fq b p) d:=by
 let(T,J,z,rfl):=u;let e0:bB (lY p.1.wt) (.int 0)=-(.tuple (bN X)):=by rw[f];show jF
 let F:bB (lY p.1.wt) (.int 2)=-(wO w):=by rw[f];show uX
 let r:=v.len Y;let t:=v.aly;let E:=Dm λc n h=>(v.tp c n h).1;let C:fq b p=mi ({p.1 with wt:=U},p.2) (X.zip (jc b X w)):=by ext fq;rw[f]
 rw[C];let m:a9 (aW eR (aa 2) (pC (.tuple [.str "chord"]))) (cw [R (.rf 0),-(.tuple (bN X)),-(wO w),U,U,U])=.ok (w.isNone,cw [R (.rf 0),-(.tuple (bN X)),-(wO w),U,U,U]):=ci (aK (af W) aQ W W E.1) W;let l:mw (Tn (db (a9 (aW eR (aa 2) (pC (.tuple [(.str "chord")]))))) (iq gX 2 (am (a8 "Hand" "bed" (az 0)) (am (ag (aa 1)) aJ))) (ag (di {df {pC (.str "layer"),aW bB (aa 2) (~~~2)}}))) [R (.rf 0),-(.tuple (bN X)),-(wO w),U,U,U] (eX b {p.1 with wt:=U} p.2 T J)=.ok (.fz (.list ((jc b X w).map mD))) (eX b {p.1 with wt:=U} p.2 T (J++[.dead])):=by
  cases w with
  |none=>let H:=QU Y t r v.kn;show(jQ (MQ (cJ m) (zS (au (r8 W) (au (ai (af W)) aL)) W H)) (iE aO)).trans (by rw[fG];rfl)
  |some G=>let(c,n):=G;let I:bB (wO (R (c,n))) (.int 2)=-(.int n):=uX;show(jQ (Nh (cJ m) (d5 (show _=Res.ok (PV.ow [.tuple [.str "layer",.int n]],_) by ext:0))) (iE aO)).trans (by rw[fG];rfl)
 let lp:∃e d,A9 (ii (zA {aa 1,aa 3})) (TB 2 (vP (dB 4) (vP (dB 5) Hc))) (cr (bw "Hand" "come" bT 3 (az 0) (am (ag (aa 4)) (am (ag (aa 5)) aJ)))) [R (.rf 0),-(.tuple (bN X)),-(wO w),-(.list ((jc b X w).map mD)),U,U] (eX b {p.1 with wt:=U} p.2 T (J++[.dead]))=.ok (.nx e) d/\HS b (mi ({p.1 with wt:=U},p.2) (X.zip (jc b X w))) d:=by
  let L:=Y.n5;let(e,d,B,A):=Br X w (jc b X w) (X.zip (jc b X w)) ({p.1 with wt:=U},p.2) (eX b {p.1 with wt:=U} p.2 T (J++[.dead])) U U #[T,_,z,W] (SA.ak Y #[o.ac,o.oc]) (λq y=>by
   let:=zj Y v q y;show#[by ext,this.2.lb]) (by
   rw[agE];show p.2.length+_<1000;ext)
  show#[e,d,?_,A];ext A9;rw[kP (uw (aq (af W) (aq (af W) aH)) W W W),eo,Ly];show B
 let(e,d,lp,j):=lp;show#[d,qU (ρ1:=e) W ?_,j];show dD (mP (ck (cA W) (ai aQ) e0) W) (dD (mP (ck (cA W) (ai aQ) F) W) (dD (oJ U W (ai aQ)) (dD (mP l W) lp)))
omit Y in
theorem M7{c:br Nat×Nat}(h:c.2<26):Wn.canLay0 (iz c)=Wl:=by show(Wn.canLayAll0 (bN c.1)&&(Wn.strOk (mh c.2)&&Wl))=Wl;rw[oA,pX h];rfl
omit Y in
theorem R8:∀{cs:br (br Nat×Nat)},(∀c∈cs,c.2<26)->wC (.list (cs.map iz)) (.list [])=-(.bool (!cs.isEmpty)):=by
 intro cs h;have j:∀cs:br (br Nat×Nat),(∀c∈cs,c.2<26)->Wn.canLayAll0 (cs.map iz)=Wl:=by
  intro cs
  induction cs with
  |nil=>exact λ_=>rfl
  |cons c r e=>intro h;show(Wn.canLay0 (iz c)&&Wn.canLayAll0 (r.map iz))=Wl;rw[M7 (h c WK),e λx l=>h x (WH _ l)];rfl
 have f:∀cs:br (br Nat×Nat),Wn.depthAll (cs.map iz)<=2:=by
  intro cs
  induction cs with
  |nil=>exact Xq _
  |cons c r e=>show max (Wn.depth (iz c)) (Wn.depthAll (r.map iz))<=2;refine ali.mpr ⟨?_,e⟩;show max (Wn.depthAll (bN c.1)+1) (max 0 0)+1<=2;rw[oh];decide
 show(if((Wn.canLayAll0 (cs.map iz)&&decide (Wn.depthAll (cs.map iz)+1<=64))&&Wl)=Wl then lD (RV.fz (.bool (!Wn.eqvAll (cs.map iz) [])))else Wh)=_;rw[j cs h,aE (show Wn.depthAll (cs.map iz)+1<=64 by have:=f cs;ext)];cases cs<;>rfl
theorem Og(h:c∈gP b X):c.2<26:=(Y.vc c (YZ.mp h).1).2.2.2
omit Y in
theorem GF(h:X≠[])(e:X.length<=5):dC (.tuple (bN X)) (.tuple [nd k])=-(.tuple (bN (X++[k]))):=by
 show(if bN X≠[]/\(bN X).length+1<=1000000 then lD (RV.fz (.tuple (bN X++[nd k])))else Wh)=_;rw[av ⟨by cases X with
  |nil=>exact a7 rfl h
  |cons x r=>simp[bN],by rw[iC];ext⟩,NQ]
 rfl
def Er{d:dA}{Z1:bA}(e:∃T J,Z1=eX b s Q T J)(l:S[0]?=R (R (.rf 0)))(f:X.length<=5)(h:d S Z1=.ok (.fz (.tuple (bN X))) Z1):mq wC (iq b6 2 (am (a8 "Hand" "bed" (az 0)) (am d aJ))) (ag (di aC)) S Z1=.ok (.fz (.bool (!(gP b X).isEmpty))) (Z1++[.lst (((gP b X).map iz).map .fz)]++[.lst []]):=by let(T,J,rfl):=e;show dM (zS (ds:=[bD b,.tuple (bN X)]) (au (r8 l) (au h aL)) W (EU Y f)) (d5 (ds:=[]) (ρ':=cw S) (mK aH W (Xq _))) ?_;show yP (dQ (jI aO)) (dQ (ds:=[]) aO) (R8 λc j=>Og Y j)
def Q6(m:HS b p Z)(F:SW b p.1)(M:(k:Int)<b.n)(d:Ht p.1.wt k=Wu):∃D,fy [.rf 0,.fz (nd k)] Z=.ok (.fz (.bool (Md b p.1 k))) D/\HS b p D:=by
 cases q:p.1.wt with
 |none=>
  let o:Md b p.1 k=Wu:=by ext Md;rw[q]
  rw[o];let(T,J,j,rfl):=m;let r:tW (lY p.1.wt) .none=-(.bool P):=by rw[q];rfl
  show#[_,jN W (sF (iU (qD (bG (dM (cA W) (ai aQ) (cZ r)))) (jb (ai aQ)))),T,J,j,W]
 |some x=>
  let(X,g,w):=x;let v:=(F.wt X g w q).1;let G:=v.len Y;let r:tW (lY p.1.wt) .none=-(.bool Wu):=by rw[q];rfl
  let E:bB (lY p.1.wt) (.int 2)=-(wO w):=by rw[q];show uX
  let e0:bB (lY p.1.wt) (.int 0)=-(.tuple (bN X)):=by rw[q];show jF
  let C:=(Dm λc n h=>(v.tp c n h).1).2;cases w with
  |some O=>
   let o:Md b p.1 k=Wu:=by ext Md;rw[q]
   rw[o];let(T,J,j,rfl):=m;show#[_,jN W (sF (iU (nu (bG (dM (cA W) (ai aQ) (cZ r))) (qD (bG (dM (ck (cA W) (ai aQ) E) (ai aQ) (cZ C))))) (jb (ai aQ)))),T,J,j,W]
  |none=>
   let o:Md b p.1 k=(decide (sD p.1.ac p.1.oc=0)&& !(gP b (X++[k])).isEmpty):=by ext Md;rw[q]
   rw[o];let(A,K,l):=sJ m;let f:(EJ (b8 (mq tW (a8 "Hand" "waiting" (az 0)) (ag (pC .none)))) (EJ (b8 (mq wC (gL (a8 "Hand" "waiting" (az 0)) (ag (~~~2))) (ag (pC (.tuple [(.str "chord")]))))) (b8 (mq wC (iq fD 1 (am (bw "Hand" "stands" b7 1 (az 0) aJ) aJ)) (ag (~~~0)))))) [R (.rf 0),-(nd k)] Z=.ok (!decide (sD p.1.ac p.1.oc=0)) A:=by
    let L:b8 (mq wC (iq fD 1 (am (bw "Hand" "stands" b7 1 (az 0) aJ) aJ)) (ag (~~~0))) [R (.rf 0),-(nd k)] Z=.ok (!decide (sD p.1.ac p.1.oc=0)) A:=
     bG (dM (zY (au (cL m (by left) W aL W K) aL) W (Bg p.1)) (ai aQ) (cZ (yC _ _)))
    let(T,J,j,rfl):=m;show nu (bG (dM (cA W) (ai aQ) (cZ r))) (nu (bG (dM (ck (cA W) (ai aQ) E) (ai aQ) (cZ C))) L)
   by_cases B:sD p.1.ac p.1.oc=0
   .rw[aE B]at f⊢
    let(T,J,j,rfl):=l;let z:k∉X:=by rw[q]at d;show of_decide_eq_false d
    let t:(X++[k]).Nodup:=by rw[ZN];show#[v.nd,Yp.mpr #[Yf,abA],λx u y H e=>z (by rw[<-WO.mp H,<-e];show u)]
    let I:(X++[k]).length<=5:=D0 t λx u=>by
     let N:=Y.n5;rcases Xn.mp u with h|h
     .let:=v.kn x h;ext
     .rw[WO.mp h];ext
    show#[_,jN W (dD (jT f jo) (jb (Er Y #[T,J,W] W I (dM (ck (cA W) (ai aQ) e0) (ai (hW (aq (af W) aH) W (Wx W))) (cZ (GF v.ne G)))))),T,_,j,W]
   .rw[aP B]at f⊢;show#[A,jN W (sF (iU f (jb (ai aQ)))),l]
end
section
variable{b:Bd}(Y:VB b){s:Za}{sn:Sn}{ps:br (Nat×Mn)}{J:bA}{ρ:bK}{i:Nat}{Z:bA}{p:Za×Sn}{k:Nat}{a:Mn}{ks:br Nat}{g:Int}{w:bP (Nat×Int)}
include Y
def RO(v:WV b p.1.ac ks g w)(c:k∉ks)(m:(k:Int)<b.n):(ks++[k]).Nodup/\(ks++[k]).length<=5:=by
 let f:(ks++[k]).Nodup:=by rw[ZN];show#[v.nd,Yp.mpr #[Yf,abA],λx j y l e=>c (by rw[<-WO.mp l,<-e];show j)]
 show#[f,D0 f λx j=>?_];let o:=Y.n5;rcases Xn.mp j with h|h
 .let:=v.kn x h;ext
 .rw[WO.mp h];ext
def CG(o:SW b p.1)(m:(k:Int)<b.n)(D:p.1.ac k=U)(d:Ht p.1.wt k=Wu)(hm:Md b p.1 k=P):∃ks g,p.1.wt=R (ks,g,U)/\k∉ks/\WV b p.1.ac (ks++[k]) g U/\g<b.wt:=by
 unfold Md at hm;split at hm
 .rename_i ks g q
  rw[WU]at hm;let(v,t):=o.wt ks g U q;let f:k∉ks:=by rw[q]at d;show of_decide_eq_false d
  let(l,A):=RO Y v f m;show#[ks,g,q,f,#[by simp,l,λx e=>?_,λx e=>?_,v.g0,λc n h=>(by ext h),λ_ x e=>?_],t]
  .rcases Xn.mp e with h|h
   .show v.kn x h
   .rw[WO.mp h];show m
  .rcases Xn.mp e with h|h
   .show v.kf x h
   .rw[WO.mp h];show D
  .let j:=hm.2
   cases C:gP b (ks++[k])with
   |nil=>rw[C]at j;ext j
   |cons c r=>
    let u:c∈gP b (ks++[k]):=by rw[C];show WK
    let(z,y):=YZ.mp u;let:=YS.mp y x e;show(Y.vc c z).2.2.1 x (a6 this)
 .ext hm
def Pu(u:HS b p Z)(l:SW b p.1)(h:p.1.wt=R (ks,g,U))(v:WV b p.1.ac (ks++[k]) g U)(j:WV b p.1.ac ks g U)(y:p.2.length<900):∃d,eP [.rf 0,.fz (nd k)] Z=.ok (.fz .none) d/\HS b (z9 b p k) d:=by
 let(ps,J,m,rfl):=u;let n:=v.len Y;let e0:bB (lY p.1.wt) (.int 0)=-(.tuple (bN ks)):=by rw[h];show jF
 let E:bB (lY p.1.wt) (.int 1)=-(.int g):=by rw[h];show lZ
 let C:z9 b p k=if(gP b (ks++[k])).map (·.1.length)=[(ks++[k]).length]then fq b ({p.1 with wt:=R (ks++[k],g,U)},p.2)else({p.1 with wt:=R (ks++[k],g,U)},p.2):=by ext z9;rw[h]
 let t:HS b ({p.1 with wt:=R (ks++[k],g,U)},p.2) (eX b {p.1 with wt:=R (ks++[k],g,U)} p.2 ps J):=#[ps,J,m,W];let F:cR (dB 0) cF (ag (gq cO {aW bB (aa 0) (~~~0)})) ((gP b (ks++[k])).map iz) [U] (eX b {p.1 with wt:=R (ks++[k],g,U)} p.2 ps (J++[.dead])) []=.ok ((bN ((gP b (ks++[k])).map (·.1.length))).map .fz) (eX b {p.1 with wt:=R (ks++[k],g,U)} p.2 ps (J++[.dead])):=by
  show(fZ iz (λc=>.fz (nd c.1.length)) _ (λρ=>∃o,ρ=[o]) (gP b (ks++[k])) _ [] #[U,W] ?_ ?_).trans (by ext bN;rw[WQ,WQ];rfl)
  .let:=abq (λc:br Nat×Nat=>(ks++[k]).all λk=>decide (k∈c.1)) b.cs;let:=Y.c4;show 0+(gP b (ks++[k])).length<=_;ext gP;ext
  .rintro c _ ρ ⟨o,rfl⟩;let r:bB (iz c) (.int 0)=-(.tuple (bN c.1)):=jF;show#[[-(iz c)],W,W,ai (eA (aq (aK (af W) aQ W W r) aH) W ((mM _).trans (by rw[iC]))),_,W]
 let B:eT (iq b6 2 (am (a8 "Hand" "bed" (az 0)) (am (ag (aa 2)) aJ))) [R (.rf 0),-(nd k),-(.tuple (bN (ks++[k])))] (eX b {p.1 with wt:=R (ks++[k],g,U)} p.2 ps J)=.ok ((gP b (ks++[k])).map iz) (eX b {p.1 with wt:=R (ks++[k],g,U)} p.2 ps (J++[.dead])):=
  (Eb (zS (au (r8 W) (au (ai (af W)) aL)) W (EU Y n)) aO).trans (by rw[fG];rfl)
 let rt:di {gq cO {aa 2}} (cw [R (.rf 0),-(nd k),-(.tuple (bN (ks++[k])))])=.ok (.ow (bN [(ks++[k]).length]),cw [R (.rf 0),-(nd k),-(.tuple (bN (ks++[k])))]):=by show mK (aq (eA (aq (af W) aH) W ((mM _).trans (by rw[iC]))) aH) W (Wx W)
 let f:b8 (mq eR (eC 1 [] (eT (iq b6 2 (am (a8 "Hand" "bed" (az 0)) (am (ag (aa 2)) aJ)))) (dB 0) cF (ag (gq cO {aW bB (aa 0) (~~~0)}))) (ag (di {gq cO {aa 2}}))) [R (.rf 0),-(nd k),-(.tuple (bN (ks++[k])))] (eX b {p.1 with wt:=R (ks++[k],g,U)} p.2 ps J)=.ok (decide ((gP b (ks++[k])).map (·.1.length)=[(ks++[k]).length])) (eX b {p.1 with wt:=R (ks++[k],g,U)} p.2 ps (J++[.dead])++[.lst ((bN ((gP b (ks++[k])).map (·.1.length))).map .fz)]++[.lst ((bN [(ks++[k]).length]).map .fz)]):=
  bG (dM (gy B F) (d5 rt) (yP (dQ (jI aO)) (dQ aO) (zM _ _)))
 let e:HS b ({p.1 with wt:=R (ks++[k],g,U)},p.2) (eX b {p.1 with wt:=R (ks++[k],g,U)} p.2 ps (J++[.dead])++[.lst ((bN ((gP b (ks++[k])).map (·.1.length))).map .fz)]++[.lst ((bN [(ks++[k]).length]).map .fz)]):=#[ps,_,m,W];generalize (eX b {p.1 with wt:=R (ks++[k],g,U)} p.2 ps (J++[.dead])++[.lst ((bN ((gP b (ks++[k])).map (·.1.length))).map .fz)]++[.lst ((bN [(ks++[k]).length]).map .fz)]:bA)=L at f e;rw[C];show kH W (l7 (dM (ck (cA W) (ai aQ) e0) (ai (hW (aq (af W) aH) W (Wx W))) (cZ (GF j.ne (j.len Y)))) W (Fs (oJ (R (ks++[k],g,U)) W (rO (au (ai (af W)) (au (ck (cA W) (ai aQ) E) (au (ai aQ) aL))) (Wx W))) (A7 f (λq=>?_) λq=>?_)))
 .rw[av (a6 q)];let(G,A,z):=oG Y e #[l.sa.ac,l.sa.oc] W v y;show j7 (cL e (by left) W aL W A) #[W,z]
 .rw[ax (of_decide_eq_false q)];show n9 #[W,e]
def NL(f:SW b p.1)(h:p.1.wt=R (ks,g,U))(v:WV b p.1.ac (ks++[k]) g U)(j:g<b.wt):SW b (z9 b p k).1:=by
 let l:z9 b p k=if(gP b (ks++[k])).map (·.1.length)=[(ks++[k]).length]then fq b ({p.1 with wt:=R (ks++[k],g,U)},p.2)else({p.1 with wt:=R (ks++[k],g,U)},p.2):=by ext z9;rw[h]
 rw[l];split
 .show(kM Y (p:=({p.1 with wt:=R (ks++[k],g,U)},p.2)) #[f.sa.ac,f.sa.oc] λ_ _ _ e=>by ext e;show v).1
 .show#[#[f.sa.ac,f.sa.oc],λ_ _ _ e=>by ext e;show#[v,j]]
omit Y in
theorem Fb(s:Za)(m:Mn):(i8 s m).ac=s.ac/\(i8 s m).wt=s.wt:=by unfold i8;split<;>exact⟨rfl,rfl⟩
omit Y in
theorem EH{m:Mn}(h:SA b s):SA b (i8 s m):=by
 unfold i8;split
 .exact h
 .exact⟨h.ac,λo e=>by cases e⟩
def RD(E:HS b p Z)(S:SA b p.1)(hw:p.1.wt=Wh)(U:(k:Int)<b.n)(V:p.2.length<900):∃D,g6 [.rf 0,.fz (nd k)] Z=.ok (.fz .none) D/\HS b (MM b p k) D:=by
 let(Q,P):=DS Y S;let K:=OH Y Q P U;let(v,I):=zi Y Q P U;let(Z1,h1,N):=sJ E;let h5:=Y.n5;let eb:MM b p k=Cj b (sD p.1.ac p.1.oc) (i8 p.1 (look b (sD p.1.ac p.1.oc) k),p.2) k (look b (sD p.1.ac p.1.oc) k):=W;rw[eb];let T:iq fD 1 (am (bw "Hand" "stands" b7 1 (az 0) aJ) aJ) [lD (.rf 0),-(nd k),Wh,Wh,Wh] Z=.ok (.fz (.int (sD p.1.ac p.1.oc))) Z1:=zY (au (cL E (by left) W aL W h1) aL) W (Bg p.1);generalize sD p.1.ac p.1.oc=L at K v I T Q P;generalize look b L k=m at K v I;let(ps,J,hp,rfl):=N;let lb:=v.lb;let c0:=tE m;let c1:=UO m;let c2:=QS m;let c3:=oK m;let c4:=Ni m;let eL:eR (.int L) (.int 0)=-(.bool (decide (L=0))):=ko _ _;let A:(aX (dw (db (a9 (aW C5 (aa 4) (df {pC (.str "layer"),pC (.str "once")})))) (fM "Hand" "once" (az 0) (ag (pC .none))) eD) eD) [lD (.rf 0),-(nd k),-(.int L),-(mD m),-(.str (wd m))] (eX b p.1 p.2 ps J)=.ok (.nx [lD (.rf 0),-(nd k),-(.int L),-(mD m),-(.str (wd m))]) (eX b (i8 p.1 m) p.2 ps J):=by
  let t:db (a9 (aW C5 (aa 4) (df {pC (.str "layer"),pC (.str "once")}))) [lD (.rf 0),-(nd k),-(.int L),-(mD m),-(.str (wd m))] (eX b p.1 p.2 ps J)=.ok (!(m.afh||m.isO)) (eX b p.1 p.2 ps J):=cJ (by ext:0);ext i8;cases q:(m.afh||m.isO)with
  |true=>rw[q]at t;rw[av W];show dD (jT t jo) jo
  |false=>rw[q]at t;rw[ax WM];show dD (iU t (Gs Wh W (ai aQ))) jo
 let R:=Fb p.1 m;let H:SA b (i8 p.1 m):=EH S;let j:ps.Perm (jC (i8 p.1 m).ac):=by rw[R.1];show hp
 let e:HS b (i8 p.1 m,p.2) (eX b (i8 p.1 m) p.2 ps J):=#[ps,J,j,W];generalize i8 p.1 m=s2 at A R H j e;let O:GoS ((dw (db (a9 (aW eR (aa 4) (pC (.str "tap"))))) (fM "Hand" "waiting" (az 0) (ag (df {df {aa 1},~~~0,aa 3}))) (dw (qL (db (a9 (aW eR (aa 4) (pC (.str "letter"))))) (qL (db (a9 (aW eR (aa 2) (~~~0)))) (b8 (mq wC (iq b6 2 (am (a8 "Hand" "bed" (az 0)) (am (ag (df {aa 1})) aJ))) (ag (di aC)))))) (fM "Hand" "waiting" (az 0) (ag (df {df {aa 1},~~~0,pC (.tuple [(.str "chord")])}))) (dw (db (a9 (aW eR (aa 4) (pC (.str "once"))))) (aX (cr (bw "Hand" "come" bT 3 (az 0) (am (ag (aa 1)) (am (ag (pC (.tuple [(.str "none")]))) aJ))))
 (fM "Hand" "once" (az 0) (ag (aW bB (aa 3) (~~~1))))) (cr (bw "Hand" "come" bT 3 (az 0) (am (ag (aa 1)) (am (ag (aa 3)) aJ))))))) [lD (.rf 0),-(nd k),-(.int L),-(mD m),-(.str (wd m))] (eX b s2 p.2 ps J)) (λ_ D=>SV.fz .none=.fz .none/\HS b (Cj b L (s2,p.2) k m) D) (λ_ _=>False) (λr D=>r=.fz .none/\HS b (Cj b L (s2,p.2) k m) D):=by
  let z:∀{Z:bA},db (a9 (aW eR (aa 4) (pC (.str "tap")))) [lD (.rf 0),-(nd k),-(.int L),-(mD m),-(.str (wd m))] Z=.ok m.isT Z:=cJ (by ext:0);let C:∀{Z:bA},db (a9 (aW eR (aa 4) (pC (.str "letter")))) [lD (.rf 0),-(nd k),-(.int L),-(mD m),-(.str (wd m))] Z=.ok m.isL Z:=cJ (by ext:0);let B:∀{Z:bA},db (a9 (aW eR (aa 4) (pC (.str "once")))) [lD (.rf 0),-(nd k),-(.int L),-(mD m),-(.str (wd m))] Z=.ok m.isO Z:=cJ (by ext:0);let F:∀{Z:bA},db (a9 (aW eR (aa 2) (~~~0))) [lD (.rf 0),-(nd k),-(.int L),-(mD m),-(.str (wd m))] Z=.ok (decide (L=0)) Z:=cJ (by ext:0);let kt:∀{Z:bA},ag (df {aa 1}) [lD (.rf 0),-(nd k),-(.int L),-(mD m),-(.str (wd m))] Z=.ok (.fz (.tuple (bN [k]))) Z:=ai (hW (aq (af W) aH) W (Wx W));let cm:∀{Z:bA},HS b (s2,p.2) Z->VA b.ls.length m->∃D,cr (bw "Hand" "come" bT 3 (az 0) (am (ag (aa 1)) (am (ag (aa 3)) aJ))) [lD (.rf 0),-(nd k),-(.int L),-(mD m),-(.str (wd m))] Z=.ok (.nx [lD (.rf 0),-(nd k),-(.int L),-(mD m),-(.str (wd m))]) D/\HS b (iW (s2,p.2) k m) D:=λ{Z} E va=>by let(D,u,l):=uu (k:=k) E (H.ak Y) va.lb () (show p.2.length<1000 by ext);show#[D,iH (cL E (by left) W (au (ai (af W)) (au (ai (af W)) aL)) W u),l]
  cases m with
  |below=>show a7 W I
  |tap c n=>show u8 z (ra (oJ (lD ([k],0,lD (c,n))) W (ai (ρ':=cw [lD (.rf 0),-(nd k),-(.int L),-(mD (.tap c n)),-(.str (wd (.tap c n)))]) ?_)) #[W,ps,J,j,W]);show _=Res.ok (PV.fz (.tuple [.tuple [nd k],.int 0,mD (.tap c n)]),_);ext:0
  |Xs c=>
   obtain⟨d1,d2⟩:VA b.ls.length (.Xs c)/\True:=#[v,trivial];by_cases G:L=0
   .rw[aE G]at F
    let ov:=Er Y (Z1:=eX b s2 p.2 ps J) #[ps,J,W] W (Wx W) kt;let M:HS b (s2,p.2) (eX b s2 p.2 ps J++[.lst (((gP b [k]).map iz).map .fz)]++[.lst []]):=#[ps,_,j,W];let y:Cj b L (s2,p.2) k (.Xs c)=if(!(gP b [k]).isEmpty)=Wl then({s2 with wt:=lD ([k],0,Wh)},p.2)else iW (s2,p.2) k (.Xs c):=by show(if(decide (L=0)&& !(gP b [k]).isEmpty)=Wl then _ else _)=_;rw[aE G,ab1]
    rw[y];show fX z (A7 (kQ C (kQ F (bG ov))) (λq=>?_) λq=>?_)
    .rw[av q];show ra (oJ (lD ([k],0,Wh)) W (ai (ρ':=cw [lD (.rf 0),-(nd k),-(.int L),-(mD (.Xs c)),-(.str (wd (.Xs c)))]) ?_)) #[W,ps,_,j,W];show _=Res.ok (PV.fz (.tuple [.tuple [nd k],.int 0,.tuple [.str "chord"]]),_);ext:0
    .rw[ax (by rw[q];simp)];let(D,u,l):=cm M v;show fX B (ra u #[W,l])
   .rw[aP G]at F
    let y:Cj b L (s2,p.2) k (.Xs c)=iW (s2,p.2) k (.Xs c):=by show(if(decide (L=0)&& !(gP b [k]).isEmpty)=Wl then _ else _)=_;rw[aP G,ZK,ax WM]
    rw[y];let(D,u,l):=cm e v;show fX z (fX (kQ C (jB F)) (fX B (ra u #[W,l])))
  |Y8 n=>let(D,u,l):=cm e v;show fX z (fX (jB C) (fX B (ra u #[W,l])))
  |none=>let(D,u,l):=cm e trivial;show fX z (fX (jB C) (fX B (ra u #[W,l])))
  |once n=>let(D,u,l):=uu (k:=k) (a:=.none) e (H.ak Y) trivial () (show p.2.length<1000 by ext);let i1:bB (mD (.once n)) (.int 1)=-(.int n):=lZ;let(qs,J2,hq,rfl):=l;show fX z (fX (jB C) (u8 B (Fs (iH (cL e (by left) W (au (ai (af W)) (au (ai aQ) aL)) W u)) (ra (Gs (lD n) W (ai (ρ':=cw [lD (.rf 0),-(nd k),-(.int L),-(mD (.once n)),-(.str (wd (.once n)))]) ?_)) #[W,qs,J2,hq,W]))));show _=Res.ok (PV.fz (.int n),_);show aK (rv:=.fz (.int n)) (af W) aQ W W i1
 show kH (ρ:=[lD (.rf 0),-(nd k),Wh,Wh,Wh]) W (l7 T W (l7 (zY (ds:=[bD b,.int L,nd k]) (au (r8 W) (au (ai (af W)) (au (ai (af W)) aL))) W K) W (l7 (ai (d:=.str (wd m)) (ρ':=cw [lD (.rf 0),-(nd k),-(.int L),-(mD m),Wh]) (aK (rv:=.fz (.str (wd m))) (af W) aQ W W c0)) W ?_)));show .eq ?_ O;let X:∀{f g:gl} {ρ:bK} {Z D:bA},aX f eD ρ Z=.ok (.nx ρ) D->aX f g ρ Z=g ρ D:=λ{f g ρ Z D} h=>by
  unfold aX at h⊢;cases q:f ρ Z with
  |bad=>rw[q]at h;ext h
  |er x o=>rw[q]at h;ext h
  |ok fl o=>
   rw[q]at h;cases fl with
   |nx r=>ext h;rfl
   |_=>ext h
 show X A
end
section
variable{b:Bd}(Y:VB b){s:Za}{sn:Sn}{ps:br (Nat×Mn)}{J:bA}{ρ:bK}{i:Nat}{Z:bA}{p:Za×Sn}{k:Nat}{a:Mn}{X:br Nat}{g:Int}{w:bP (Nat×Int)}
include Y
omit Y in
theorem GL(h:SA b s)(f:s.wt=Wh):SW b s:=⟨h,λ_ _ _ e=>by rw[f]at e;cases e⟩
def Sh(A:SA b p.1)(M:p.1.wt=U)(y:(k:Int)<b.n)(d:p.1.ac k=U):SW b (MM b p k).1:=by
 let(H,G):=DS Y A;let(f,v):=zi Y H G y;let O:MM b p k=Cj b (sD p.1.ac p.1.oc) (i8 p.1 (look b (sD p.1.ac p.1.oc) k),p.2) k (look b (sD p.1.ac p.1.oc) k):=W;rw[O];generalize sD p.1.ac p.1.oc=L at f v H G;generalize look b L k=m at f v;let z:=Fb p.1 m;let l:SA b (i8 p.1 m):=EH A;let j:=z.2.trans M;let u:(i8 p.1 m).ac k=U:=by rw[z.1];show d
 generalize i8 p.1 m=s2 at l j u;let S:=Y.w1;let C:[k].Nodup:=Yp.mpr #[Yf,abA];let E:∀x∈[k],(x:Int)<b.n:=λx t=>by rw[WO.mp t];show y
 let F:∀x∈[k],s2.ac x=U:=λx t=>by rw[WO.mp t];show u
 let cm:∀m,VA b.ls.length m->SW b (iW (s2,p.2) k m).1:=λm I=>GL (l.cm y I) j;cases m with
 |below=>show a7 W v
 |tap c n=>show#[#[l.ac,l.oc],λ_ _ _ e=>?_];ext e;show#[#[by simp,C,E,F,aaN _,λR K e=>by ext e;show#[f.1,f.2,W],λe=>by ext e],by ext]
 |Xs c=>
  show SW b (if(decide (L=0)&& !(gP b [k]).isEmpty)=Wl then({s2 with wt:=lD ([k],0,U)},p.2)else iW (s2,p.2) k (.Xs c)).1;split
  .rename_i q
   show#[#[l.ac,l.oc],λ_ _ _ e=>?_];ext e;show#[#[by simp,C,E,F,aaN _,λR K e=>(by ext e),λ_ x t=>?_],by ext];let B:=(WU _ _▸q:_/\_).2;cases T:gP b [k]with
   |nil=>rw[T]at B;ext B
   |cons c r=>
    let N:c∈gP b [k]:=by rw[T];show WK
    let(Q,P):=YZ.mp N;show(Y.vc c Q).2.2.1 x (a6 (YS.mp P x t))
  .show cm _ f
 |Y8 n=>show cm _ f
 |none=>show cm _ trivial
 |once n=>let h:=cm .none trivial;show#[#[h.sa.ac,λo e=>by ext e;show f],λX g w e=>by let e:s2.wt=lD (X,g,w):=e;rw[j]at e;ext e]
theorem SW.wd(h:SW b s):WD b s:=λX g w e=>(h.wt X g w e).1
omit Y in
theorem Dn(e:br (Nat×Mn)):∀{p:Za×Sn},p.1.ac k=Wh->k∉e.map (·.1)->(mi p e).1.ac k=Wh:=by
 induction e with
 |nil=>exact λh _=>h
 |cons q r f=>intro p h hn;rw[WL,W2,not_or]at hn;exact f (p:=iW p q.1 q.2) ((i9 hn.1).trans h) hn.2
omit Y in
theorem DW(ha:p.1.ac k=Wh)(hn:Ht p.1.wt k=Wu):(fq b p).1.ac k=Wh:=by
 unfold fq;split
 .exact ha
 .rename_i X g w q;refine Dn _ (p:=({p.1 with wt:=Wh},p.2)) ha λz=>?_;rw[q]at hn;obtain⟨x,e,rfl⟩:=Xe.mp z;exact of_decide_eq_false hn (aaf e).1
def Lw(e:SW b p.1)(f:(k:Int)<b.n):SW b (rG b p k).1:=by
 ext rG;split
 .show e
 .rename_i q
  rw[aag,not_or]at q;let r:p.1.ac k=U:=by
   cases z:p.1.ac k with
   |none=>rfl
   |some x=>rw[z]at q;show a7 W q.1
  let n:Ht p.1.wt k=Wu:=by
   cases z:Ht p.1.wt k with
   |false=>rfl
   |true=>show a7 z q.2
  split
  .rename_i h;let(X,g,m,o,l,j):=CG Y e f r n h;show NL Y e m l j
  .let d:=kM Y e.sa (SW.wd Y e);show Sh Y d.1.sa d.2.1 f (DW r n)
def JY(j:HS b p Z)(h:SW b p.1)(B:(k:Int)<b.n)(Q:p.2.length<800):∃c,jy [.rf 0,.fz (nd k)] Z=.ok (.fz .none) c/\HS b (rG b p k) c:=by
 let R:=Y.n5;let A:k<5:=by ext
 let O:EJ (b8 (BP Wu (ag (aa 1)) (a8 "Hand" "acts" (az 0)))) (b8 (bw "Hand" "is_waiting" cH 2 (az 0) (am (ag (aa 1)) aJ))) [lD (.rf 0),-(nd k)] Z=.ok ((p.1.ac k).isSome||Ht p.1.wt k) Z:=by
  let I:=cL (ρ:=[lD (.rf 0),-(nd k)]) (i:=0) (m:= "is_waiting") (fa:=am (ag (aa 1)) aJ) j (by left) W (au (ai (af W)) aL) W (J7 j);let(ps,J,y,rfl):=j
  let u:BP Wu (ag (aa 1)) (a8 "Hand" "acts" (az 0)) [lD (.rf 0),-(nd k)] (eX b p.1 p.2 ps J)=.ok (.fz (.bool (p.1.ac k).isSome)) (eX b p.1 p.2 ps J):=
   (Dg (ai (af W)) (jn W) W W).trans (by rw[show lQ (ps.map mE) (.inl (k:Int))=_ from qK y A];cases p.1.ac k<;>rfl)
  cases q:(p.1.ac k).isSome with
  |true=>rw[q]at u;rw[Zj];show qD (bG u)
  |false=>rw[q]at u;rw[aaM];show nu (bG u) (bG I)
 show kH W (BW O (λq=>?_) λq=>qY ?_)
 .ext rG;rw[av q];show zR #[W,j]
 rw[ae1]at q;let ha:p.1.ac k=Wh:=by
  cases z:p.1.ac k with
  |none=>rfl
  |some x=>rw[z]at q;show a7 q.1 (by simp)
 let L:rG b p k=if Md b p.1 k=Wl then z9 b p k else MM b (fq b p) k:=by ext rG;rw[ax (by rw[q.1,q.2];simp)]
 rw[L];let(P,H,e):=Q6 Y j h B q.2;show BW (bG (cL j (by left) W (au (ai (af W)) aL) W H)) (λt=>?_) λt=>qY ?_
 .rw[av t];let(X,g,l,T,N,S):=CG Y h B ha q.2 t;let(o,C,f):=Pu Y e h l N (h.wt _ _ _ l).1 ();show RQ (oH (cL e (by left) W (au (ai (af W)) aL) W C) (zR #[W,f]))
 .rw[ax (by rw[t];simp)]
  let d:=kM Y h.sa (SW.wd Y h);let F:∀o,HS b (fq b p) o->GoS (cr (bw "Hand" "begin" g6 2 (az 0) (am (ag (aa 1)) aJ)) [lD (.rf 0),-(nd k)] o) (λ_ c=>SV.fz .none=.fz .none/\HS b (MM b (fq b p) k) c) (λ_ _=>False) (λr c=>r=.fz .none/\HS b (MM b (fq b p) k) c):=λo f=>by let(U,K,v):=RD Y f d.1.sa d.2.1 B (by let:=d.2.2.1;ext);show j7 (cL f (by left) W (au (ai (af W)) aL) W K) #[W,v]
  cases n:p.1.wt with
  |none=>
   let M:fq b p=p:=by ext fq;rw[n]
   let l:vt (lY p.1.wt) .none=-(.bool Wu):=by rw[n];rfl
   let E:=F P (by rw[M];show e);let(ps,J,y,rfl):=e;show vO (bG (dM (cA W) (ai aQ) (cZ l))) (qY E)
  |some x=>
   let(X,g,w):=x;let l:vt (lY p.1.wt) .none=-(.bool Wl):=by rw[n];rfl
   let(o,C,f):=oG Y e h.sa n (h.wt _ _ _ n).1 ();let G:=cL (ρ:=[lD (.rf 0),-(nd k)]) (i:=0) (m:= "decide") e (by left) W aL W C;let(ps,J,y,rfl):=e;show yQ (bG (dM (cA W) (ai aQ) (cZ l))) (oH G (F o f))
def sG(e:SW b p.1)(f:Ht p.1.wt k=P):SW b (dR b p k).1/\(dR b p k).2.length<=p.2.length+5:=by
 ext dR;split
 .let d:=kM Y e.sa (SW.wd Y e);show#[d.1,d.2.2.1]
 .rename_i X g c n q;let v:=(e.wt _ _ _ q).1;rw[q]at f;let h:=v.kn k (a6 f);let j:=(v.tp c n W).1;show#[GL (SA.cm #[e.sa.ac,e.sa.oc] h j) W,?_];let:=wa (p:=({p.1 with wt:=U},p.2)) (k:=k) (a:=.Xs c);let:(iW ({p.1 with wt:=U},p.2) k (.Xs c)).2.length<=p.2.length+1:=this;ext
 .show#[e,agD _ _]
def jD(o:HS b p Z)(j:SW b p.1)(l:Ht p.1.wt k=P)(I:p.2.length<800):∃d,iK [.rf 0,.fz (nd k)] Z=.ok (.fz .none) d/\HS b (dR b p k) d:=by
 let L:=Y.n5;cases q:p.1.wt with
 |none=>rw[q]at l;ext l
 |some x=>
  let(X,g,w):=x;let v:=(j.wt _ _ _ q).1;let r:k∈X:=by rw[q]at l;show a6 l
  let A:bB (lY p.1.wt) (.int 2)=-(wO w):=by rw[q];show uX
  let F:=(Dm λc n h=>(v.tp c n h).1).1;let y:∀{Z:bA},db (a9 (aW eR (aa 2) (pC (.tuple [.str "chord"])))) [R (.rf 0),-(nd k),-(wO w)] Z=.ok w.isNone Z:=cJ (ci (aK (af W) aQ W W F) W);cases w with
  |none=>
   let u:dR b p k=fq b p:=by ext dR;rw[q]
   rw[u];let(H,t,e):=oG Y o j.sa q v ();let B:=cL (ρ:=[R (.rf 0),-(nd k),-(wO U)]) (i:=0) (m:= "decide") o (by left) W aL W t;let(ps,J,z,rfl):=o;show kH W (l7 (ck (cA W) (ai aQ) A) W (u8 y (j7 B #[W,e])))
  |some G=>
   let(c,n):=G;let u:dR b p k=iW ({p.1 with wt:=U},p.2) k (.Xs c):=by ext dR;rw[q]
   rw[u];let E:=(v.tp c n W).1;let K:=v.kn k r;let(ps,J,z,rfl):=o;let f:HS b ({p.1 with wt:=U},p.2) (eX b {p.1 with wt:=U} p.2 ps J):=#[ps,J,z,W];let(H,t,e):=uu (k:=k) (a:=.Xs c) f (SA.ak Y #[j.sa.ac,j.sa.oc]) E () (show p.2.length<1000 by ext);let C:bB (wO (R (c,n))) (.int 1)=-(.str (mh c)):=lZ;show kH W (l7 (ck (cA W) (ai aQ) A) W (fX y (Fs (oJ U W (ai aQ)) (j7 (cL f (by left) W (au (ai (af W)) (au (ai (hW (aq aQ (aq (aK (af W) aQ W W C) aH)) W (Wx W))) aL)) W t) #[W,e]))))
omit Y in
theorem Qo(f:SW b p.1):SW b (go p k).1:=by
 refine⟨f.sa.gg,?_⟩;unfold go;split
 .intro X g w e;obtain⟨v,j⟩:=f.wt X g w e;exact⟨⟨v.ne,v.nd,v.kn,λx h=>by
   by_cases z:x=k
   .rw[z];exact gv
   .exact(i9 z).trans (v.kf x h),v.g0,v.tp,v.ch⟩,j⟩
 .exact f.wt
def OI(e:SW b p.1):SW b (BG b p k).1:=by
 ext BG;split
 .rename_i q;show Qo (sG Y e q).1
 .show Qo e
def Ng(e:HS b p Z)(h:SW b p.1)(C:(k:Int)<b.n)(v:p.2.length<700):∃c,kh [.rf 0,.fz (nd k)] Z=.ok (.fz .none) c/\HS b (BG b p k) c:=by
 let E:=Y.n5;let j:k<5:=by ext
 let f:∀{p:Za×Sn} {Z:bA},HS b p Z->SW b p.1->p.2.length<800->GoS (dw (b8 (BP Wu (ag (aa 1)) (a8 "Hand" "acts" (az 0)))) (cr (bw "Hand" "go" kX 2 (az 0) (am (ag (aa 1)) aJ))) eD [R (.rf 0),-(nd k)] Z) (λ_ c=>SV.fz .none=.fz .none/\HS b (go p k) c) (λ_ _=>False) (λr c=>r=.fz .none/\HS b (go p k) c):=λ{p Z} e h v=>by
  cases n:p.1.ac k with
  |none=>
   let B:go p k=p:=by ext go;rw[n]
   rw[B];let(ps,J,l,rfl):=e;show fX (bG ((Dg (ai (af W)) (jn W) W W).trans (by rw[show lQ (ps.map mE) (.inl (k:Int))=_ from qK l j,n];rfl))) (n9 #[W,ps,J,l,W])
  |some a=>let(F,y,o):=TW e (h.sa.ak Y) n ();let u:=cL (ρ:=[R (.rf 0),-(nd k)]) (i:=0) (m:= "go") (fa:=am (ag (aa 1)) aJ) e (by left) W (au (ai (af W)) aL) W y;let(ps,J,l,rfl):=e;show u8 (bG ((Dg (ai (af W)) (jn W) W W).trans (by rw[show lQ (ps.map mE) (.inl (k:Int))=_ from qK l j,n];rfl))) (j7 u #[W,o])
 show kH W (BW (bG (cL e (by left) W (au (ai (af W)) aL) W (J7 e))) (λq=>?_) λq=>?_)
 .ext BG;rw[av q];let(G,A,t):=jD Y e h q ();let z:=sG Y h q;show oH (cL e (by left) W (au (ai (af W)) aL) W A) (f t z.1 ())
 .ext BG;rw[ax (by rw[q];simp)];show qY (f e h ())
def Pa(f:SW b p.1):SW b (pw b p).1:=by
 ext pw;split
 .show f
 .rename_i X g w q
  let(v,l):=f.wt X g w q;let j:WV b p.1.ac X (g+1) w:=#[v.ne,v.nd,v.kn,v.kf,by let:=v.g0;ext,v.tp,v.ch];split
  .show(kM Y (p:=({p.1 with wt:=R (X,g+1,w)},p.2)) #[f.sa.ac,f.sa.oc] λ_ _ _ e=>by ext e;show j).1
  .rename_i h;show#[#[f.sa.ac,f.sa.oc],λ_ _ _ e=>by ext e;show#[j,by ext]]
def OC(o:HS b p Z)(f:SW b p.1)(A:p.2.length<800):∃c,gZ [.rf 0] Z=.ok (.fz .none) c/\HS b (pw b p) c:=by
 let(ps,J,m,rfl):=o;cases q:p.1.wt with
 |none=>
  let j:pw b p=p:=by ext pw;rw[q]
  rw[j];let l:tW (lY p.1.wt) .none=-(.bool P):=by rw[q];rfl
  show kH W (yQ (bG (dM (cA W) (ai aQ) (cZ l))) (zR #[W,ps,J,m,W]))
 |some x=>
  let(X,g,w):=x;let v:=(f.wt _ _ _ q).1;let n:WV b p.1.ac X (g+1) w:=#[v.ne,v.nd,v.kn,v.kf,by let:=v.g0;ext,v.tp,v.ch];let j:pw b p=if g+1=b.wt then fq b ({p.1 with wt:=R (X,g+1,w)},p.2)else({p.1 with wt:=R (X,g+1,w)},p.2):=by ext pw;rw[q]
  rw[j];let l:tW (lY p.1.wt) .none=-(.bool Wu):=by rw[q];rfl
  let e0:bB (lY p.1.wt) (.int 0)=-(.tuple (bN X)):=by rw[q];show jF
  let y:bB (lY p.1.wt) (.int 2)=-(wO w):=by rw[q];show uX
  let u:bB (lY p.1.wt) (.int 1)=-(.int g):=by rw[q];show lZ
  let t:bB (bD b) (.int 3)=-(.int b.wt):=Hg W;let e:HS b ({p.1 with wt:=R (X,g+1,w)},p.2) (eX b {p.1 with wt:=R (X,g+1,w)} p.2 ps J):=#[ps,J,m,W];show kH W (vO (bG (dM (cA W) (ai aQ) (cZ l))) (qY (l7 (dM (ck (cA W) (ai aQ) u) (ai aQ) (cZ (gJ _ _))) W (Fs (oJ (R (X,g+1,w)) W (rO (au (ck (cA W) (ai aQ) e0) (au (ai (af W)) (au (ck (cA W) (ai aQ) y) aL))) (Wx W))) (A7 (bG (dM (ai (af W)) (ck (r8 W) (ai aQ) t) (cZ (ko _ _)))) (λz=>?_) λz=>?_)))))
  .rw[av (a6 z)];let(B,r,h):=oG Y e #[f.sa.ac,f.sa.oc] W n (show p.2.length<900 by ext);show j7 (cL e (by left) W aL W r) #[W,h]
  .rw[ax (of_decide_eq_false z)];show n9 #[W,e]
def Evn.af4:Evn->Bool
 |.turn=>P
 |_=>Wu
def Evn.isDown:Evn->Bool
 |.down _=>P
 |_=>Wu
def EV(b:Bd):Evn->Prop
 |.down k=>(k:Int)<b.n
 |.up k=>(k:Int)<b.n
 |.turn=>True
def lG(f:SW b s)(h:EV b e):SW b (aZ b s e).1:=by
 cases e with
 |down k=>show Lw Y f h
 |up k=>show OI Y f
 |turn=>show Pa Y f
omit Y in
theorem xV:∀l:br (Nat×Mn),aD uV (l.map pD)=lD (l.map mE)
 |[]=>rfl
 |q::r=>by rw[WL];unfold aD;rw[xV r];rfl
omit Y in
theorem Bs:∀(l f:br (Nat×Mn)),((f++l).map (·.1)).Nodup->pM (f.map mE) (l.map mE)=(f++l).map mE
 |[],f,_=>by rw[W4];rfl
 |q::r,f,h=>by
  have hn:∀x∈f,x.1≠q.1:=λx j e=>by rw[WI,ZN]at h;exact h.2.2 _ (Xe.mpr ⟨x,j,rfl⟩) q.1 WK e
  have t:mr (f.map mE) (mE q).1 (mE q).2=(f++[q]).map mE:=by
   unfold mr;rw[ax ?_,WI]
   .rfl
   .intro z;obtain⟨u,o,n⟩:=acN.mp z;obtain⟨x,m,rfl⟩:=Xe.mp o;have:=Sum.inl.inj (a6 n);exact hn x m (by ext)
  show pM (mr (f.map mE) (mE q).1 (mE q).2) (r.map mE)=_;rw[t,Bs r (f++[q]) (by rw[WY];exact h),WY];rfl
omit Y in
theorem Oj:fF [.rf 0,.fz (bD b),.fz (eY s)] [.obj "Hand" []]=.ok (.fz .none) (eX b s [] (jC s.ac) []):=by
 have e0:bB (eY s) (.int 0)=-(.tuple ((jC s.ac).map pD)):=jF;have v:bB (eY s) (.int 1)=-(lY s.wt):=lZ;have u:bB (eY s) (.int 2)=-(wE s.oc):=uX;have y:eF "bed" (.fz (bD b)) []=([("bed",.fz (bD b))]:br (Str×SV)):=rfl;have o:eF "acts" (.rf 1) ([("bed",.fz (bD b))]:br (Str×SV))=([("bed",.fz (bD b)),("acts",.rf 1)]:br (Str×SV)):=by unfold eF;rw[ax (by left)];rfl
 have p2:eF "waiting" (.fz (lY s.wt)) ([("bed",.fz (bD b)),("acts",.rf 1)]:br (Str×SV))=([("bed",.fz (bD b)),("acts",.rf 1),("waiting",.fz (lY s.wt))]:br (Str×SV)):=by unfold eF;rw[ax (by left)];unfold eF;rw[ax (by left)];rfl
 have n:eF "once" (.fz (wE s.oc)) ([("bed",.fz (bD b)),("acts",.rf 1),("waiting",.fz (lY s.wt))]:br (Str×SV))=([("bed",.fz (bD b)),("acts",.rf 1),("waiting",.fz (lY s.wt)),("once",.fz (wE s.oc))]:br (Str×SV)):=by unfold eF;rw[ax (by left)];unfold eF;rw[ax (by left)];unfold eF;rw[ax (by left)];rfl
 have m:eF "sent" (.rf 2) ([("bed",.fz (bD b)),("acts",.rf 1),("waiting",.fz (lY s.wt)),("once",.fz (wE s.oc))]:br (Str×SV))=xt b s:=by unfold eF;rw[ax (by left)];unfold eF;rw[ax (by left)];unfold eF;rw[ax (by left)];unfold eF;rw[ax (by left)];rfl
 have q:pM [] ((jC s.ac).map mE)=(jC s.ac).map mE:=Bs (jC s.ac) [] (v4 s.ac);have e:∀{x:SV} {ρ:bK} {fs:br (Str×SV)} {Z:bA} {j:dA} {f:Str} {c:Cell} {l:bA},ρ[0]?=lD (lD (.rf 0))->j ρ Z=.ok x (.obj "Hand" fs::l)->fs.length<100->fM "Hand" f (az 0) j ρ Z=.ok (.nx ρ) (.obj "Hand" (eF f x fs)::l):=λh t r=>(lB t (bf h) rfl r).trans rfl
 have ha:BV (ag (aW bB (aa 2) (~~~0))) [lD (.rf 0),-(bD b),-(eY s)] [.obj "Hand" ([("bed",.fz (bD b))]:br (Str×SV))]=.ok (.rf 1) [.obj "Hand" ([("bed",.fz (bD b))]:br (Str×SV)),.dct ((jC s.ac).map mE)]:=
  (NW (ai (d:=.tuple ((jC s.ac).map pD)) (aK (rv:=.fz (.tuple ((jC s.ac).map pD))) (af rfl) aQ rfl rfl e0)) (xV _)).trans (by rw[q];rfl)
 refine qU (ρ:=[lD (.rf 0),-(bD b),-(eY s)]) (ρ1:=[lD (.rf 0),-(bD b),-(eY s)]) rfl (dD (e rfl (c:=.dead) (ai (d:=bD b) (af rfl)) (Wx rfl)) (dD (e rfl (c:=.dead) ha (Wx rfl)) (dD (e rfl (c:=.dead) (ai (d:=lY s.wt) (aK (rv:=.fz (lY s.wt)) (af rfl) aQ rfl rfl v)) (Wx rfl)) (dD (e rfl (c:=.dead) (ai (d:=wE s.oc) (aK (rv:=.fz (wE s.oc)) (af rfl) aQ rfl rfl u)) (Wx rfl)) ?_))));rw[o,p2,n];refine(e (fs:=([("bed",.fz (bD b)),("acts",.rf 1),("waiting",.fz (lY s.wt)),("once",.fz (wE s.oc))]:br (Str×SV))) rfl (c:=.dead) (d5 (ds:=[]) (mK aH rfl (Xq _))) (Wx rfl)).trans ?_;show RS.ok _ (Cell.obj "Hand" (eF "sent" (.rf 2) ([("bed",.fz (bD b)),("acts",.rf 1),("waiting",.fz (lY s.wt)),("once",.fz (wE s.oc))]:br (Str×SV)))::_)=_;rw[m];rfl
omit Y in
theorem MY(e:Evn):∃x:Str,bB (cP e) (.int 0)=-(.str x)/\eR (.str x) (.str "turn")=-(.bool (e.af4))/\eR (.str x) (.str "down")=-(.bool (e.isDown)):=by
 have h:Wn.strOk "down"=Wl:=by left
 have j:Wn.strOk "up"=Wl:=by left
 have f:Wn.strOk "turn"=Wl:=by left
 cases e with
 |down k=>exact⟨"down",jF,FK h f (by left),Qa h⟩
 |up k=>exact⟨"up",jF,FK j f (by left),FK j h (by left)⟩
 |turn=>exact⟨"turn",jF,Qa f,FK f h (by left)⟩
def N6(o:SW b s)(y:EV b e):∃c,nO [.fz (bD b),.fz (eY s),.fz (cP e)] []=.ok (.tp [.rf 2,.fz (eY (aZ b s e).1)]) c/\sh c (.rf 2)=R (.list ((aZ b s e).2.map oU)):=by
 let h:HS b (s,[]) (eX b s [] (jC s.ac) []):=#[jC s.ac,[],.refl _,W];let(x,u,A,z):=MY e;let n:∀{Z:bA},db (a9 (aW eR (aW bB (aa 2) (~~~0)) (pC (.str "turn")))) [-(bD b),-(eY s),-(cP e),R (.rf 0)] Z=.ok (e.af4) Z:=cJ (ci (aK (aK (af W) aQ W W u) aQ W W A) W);let v:∀{Z:bA},db (a9 (aW eR (aW bB (aa 2) (~~~0)) (pC (.str "down")))) [-(bD b),-(eY s),-(cP e),R (.rf 0)] Z=.ok (e.isDown) Z:=cJ (ci (aK (aK (af W) aQ W W u) aQ W W z) W);let l:∀{Z:bA},HS b (aZ b s e) Z->GoS (ip (oP (am (a8 "Hand" "sent" (az 3)) (am (bw "Hand" "stands" b7 1 (az 3) aJ) aJ))) [-(bD b),-(eY s),-(cP e),R (.rf 0)] Z) (λ_ c=>SV.fz .none=.tp [.rf 2,.fz (eY (aZ b s e).1)]/\sh c (.rf 2)=R (.list ((aZ b s e).2.map oU))) (λ_ _=>False) (λr c=>r=.tp [.rf 2,.fz (eY (aZ b s e).1)]/\sh c (.rf 2)=R (.list ((aZ b s e).2.map oU))):=λ{Z} L=>by let(t,j,f):=sJ L;let m:=cL (ρ:=[-(bD b),-(eY s),-(cP e),R (.rf 0)]) (i:=3) (m:= "stands") L (by left) W aL W j;let(ps,J,F,rfl):=L;let(C,G,E,rfl):=f;show SM (P4 (au (zk W) (au m aL)) (Wx W) W W) #[W,dQ W]
 let B:xf "Hand" fF 3 (am (ag (aa 0)) (am (ag (aa 1)) aJ)) [-(bD b),-(eY s),-(cP e),U] []=.ok (.rf 0) (eX b s [] (jC s.ac) []):=Ro (au (ai (af W)) (au (ai (af W)) aL)) W Oj;show kH W (l7 B W ?_);cases e with
 |turn=>let(t,j,f):=OC Y h o (show 0<800 by decide);show yQ n (oH (cL h (by left) W aL W j) (l f))
 |down k=>let(t,j,f):=JY Y h o y (show 0<800 by decide);let q:bB (cP (.down k)) (.int 1)=-(nd k):=lZ;show vO n (yQ v (oH (cL h (by left) W (au (ai (aK (af W) aQ W W q)) aL) W j) (l f)))
 |up k=>let(t,j,f):=Ng Y h o y (show 0<700 by decide);let q:bB (cP (.up k)) (.int 1)=-(nd k):=lZ;show vO n (vO v (oH (cL h (by left) W (au (ai (aK (af W) aQ W W q)) aL) W j) (l f)))
def Uw{e:Evn}(h:SW b s)(l:EV b e):xM nO 3 [.fz (bD b),.fz (eY s),.fz (cP e)] Z=.ok (.tp [.rf Z.length,.fz (eY (aZ b s e).1)]) (Z++[.lst (((aZ b s e).2.map oU).map .fz)]):=by
 let(f,n,m):=N6 Y h l;ext xM;rw[av (show([.fz (bD b),.fz (eY s),.fz (cP e)]:G SV).length=3 from rfl),show aD Ak [.fz (bD b),.fz (eY s),.fz (cP e)]=R [bD b,eY s,cP e]from rfl];dsimp only;rw[show[bD b,eY s,cP e].map SV.fz=[.fz (bD b),.fz (eY s),.fz (cP e)]from rfl,n];show(match Iw f Z.length [.rf 2,.fz (eY (aZ b s e).1)]with
  |some (o,cs,q)=>if q.Nodup then RS.ok (SV.tp o) (Z++cs.map Va)else .bad
  |none=>.bad)=_
 let j:Iw f Z.length [.rf 2,.fz (eY (aZ b s e).1)]=R ([.rf Z.length,.fz (eY (aZ b s e).1)],[(aZ b s e).2.map oU],[2]):=by ext Iw;rw[m];rfl
 rw[j];dsimp only;rw[av ()];rfl
end
def Ti:Za:=#[λ_=>U,U,U]
theorem yT(b:Bd):SW b Ti:=#[#[λk a e=>(by ext e),λo e=>(by ext e)],λf g w e=>(by ext e)]
theorem GZ{α:Type}{f:α->D}:∀{l:G α},(∀a∈l,Wn.canLay0 (f a)=P)->Wn.canLayAll0 (l.map f)=P
 |[],_=>rfl
 |a::r,h=>by show(Wn.canLay0 (f a)&&Wn.canLayAll0 (r.map f))=P;rw[h a WK,GZ λx b=>h x (WH _ b)];rfl
theorem rF{α:Type}{f:α->D}{n:Nat}:∀{l:G α},(∀a∈l,Wn.depth (f a)<=n)->Wn.depthAll (l.map f)<=n
 |[],_=>Xq _
 |a::r,h=>ali.mpr #[h a WK,rF λx b=>h x (WH _ b)]
def Qv{d:D}(b:Wn.canLay0 d=P)(a:Wn.depth d<=64):kF d=P:=by ext kF;rw[b,aE a];rfl
def Ds{d:D}(h:kF d=P):Wn.canLay0 d=P:=by unfold kF at h;show(WU _ _▸h:_/\_).1
def NO{d:D}(h:kF d=P):eR d d=-(.bool P):=by ext eR;rw[h,Ds h,Y0,av W,adl d (Ds h)]
def aao(sn:Sn):Prop:=∀q∈sn,q.1<26
def PD{q:Nat×Bool}(h:q.1<26):Wn.canLay0 (oU q)=P:=by show(Wn.strOk (mh q.1)&&(Wn.strOk (if q.2=P then "down" else "up")&&P))=P;rw[pX h];cases q.2<;>left
theorem FY(q:Nat×Bool):Wn.depth (oU q)<=1:=Wx W
section
variable{b:Bd}(Z:VB b){s:Za}{p:Za×Sn}{k:Nat}{a:Mn}
theorem aao.app{x y:Sn}(f:aao x)(e:aao y):aao (x++y):=λq g=>(Xn.mp g).elim (f q) (e q)
def oB(h:aao p.2)(d:LB a):aao (iW p k a).2:=by
 show h.app λq e=>?_;cases a with
 |Xs c=>
  let e:q∈(if qQ p.1.ac (.Xs c)=P then[]else[(c,P)]:Sn):=e;split at e
  .ext e
  .rw[WO.mp e];show d
 |_=>ext e
def LC(e:G (Nat×Mn)):∀{p:Za×Sn},aao p.2->(∀q∈e,LB q.2)->aao (mi p e).2:=by
 induction e with
 |nil=>show λh _=>h
 |cons q r g=>show λh f=>g (oB h (f q WK)) λx i=>f x (WH _ i)
def Qc(h:aao p.2)(d:SA b p.1):aao (go p k).2:=by
 ext go;split
 .rename_i a q
  let lb:=(d.ac k a q).2.lb;show h.app λx e=>?_;cases a with
  |Xs c=>
   let e:x∈(if qQ (pB p.1.ac k U) (.Xs c)=P then[]else[(c,Wu)]:Sn):=e;split at e
   .ext e
   .rw[WO.mp e];show lb
  |_=>ext e
 .show h
include Z
def qN(h:aao p.2)(i:WD b p.1):aao (fq b p).2:=by
 ext fq;split
 .show h
 .rename_i e g w q;show LC _ (p:=({p.1 with wt:=U},p.2)) h λx f=>(zj Z (i e g w q) x f).2.lb
def SK(h:aao p.2)(g:SA b p.1)(i:(k:Int)<b.n):aao (MM b p k).2:=by
 let(o,l):=DS Z g;let(e,f):=zi Z (k:=k) o l i;let j:MM b p k=Cj b (sD p.1.ac p.1.oc) (i8 p.1 (look b (sD p.1.ac p.1.oc) k),p.2) k (look b (sD p.1.ac p.1.oc) k):=W;rw[j];generalize look b (sD p.1.ac p.1.oc) k=m at e f;generalize sD p.1.ac p.1.oc=L at e;let lb:=e.lb;cases m with
 |tap c n=>show h
 |Xs c=>
  show aao (if(decide (L=0)&& !(gP b [k]).isEmpty)=P then({i8 p.1 (.Xs c)with wt:=R ([k],0,U)},p.2)else iW (i8 p.1 (.Xs c),p.2) k (.Xs c)).2;split
  .show h
  .show oB (p:=(i8 p.1 (.Xs c),p.2)) h lb
 |Y8 n=>show oB (p:=(i8 p.1 (.Y8 n),p.2)) h lb
 |once n=>show oB (p:=(i8 p.1 (.once n),p.2)) (k:=k) (a:=.none) h trivial
 |none=>show oB (p:=(i8 p.1 .none,p.2)) h lb
 |below=>show a7 W f
def Ab{e:Evn}(h:SW b s)(l:EV b e):aao (aZ b s e).2:=by
 let f:aao []:=λq o=>by ext o
 cases e with
 |turn=>
  show aao (pw b (s,[])).2;ext pw;split
  .show f
  .rename_i i g w q
   let v:=(h.wt i g w q).1;split
   .show qN Z (p:=({s with wt:=R (i,g+1,w)},[])) f λ_ _ _ e=>by ext e;show#[v.ne,v.nd,v.kn,v.kf,by let:=v.g0;ext,v.tp,v.ch]
   .show f
 |up k=>
  show aao (BG b (s,[]) k).2;ext BG;split
  .rename_i q
   let z:=sG Z (p:=(s,[])) h q;show Qc ?_ z.1.sa;ext dR;split
   .show qN Z (p:=(s,[])) f (SW.wd Z h)
   .rename_i c n e;let r:c<26:=((h.wt _ _ _ e).1.tp c n W).1;show oB (p:=({s with wt:=U},[])) f r
   .show f
  .show Qc (p:=(s,[])) f h.sa
 |down k=>
  show aao (rG b (s,[]) k).2;ext rG;split
  .show f
  .rename_i q
   rw[aag,not_or]at q;let C:s.ac k=U:=by
    cases z:s.ac k with
    |none=>rfl
    |some x=>show a7 (show(s.ac k).isSome=P by rw[z];rfl) q.1
   let A:Ht s.wt k=Wu:=by
    cases z:Ht s.wt k with
    |false=>rfl
    |true=>show a7 z q.2
   split
   .rename_i m
    let(i,g,j,y,t,u):=CG Z (p:=(s,[])) h l C A m;let j:s.wt=R (i,g,U):=j;ext z9;dsimp only;rw[j];dsimp only;split
    .show qN Z (p:=({s with wt:=R (i++[k],g,U)},[])) f λ_ _ _ e=>by ext e;show t
    .show f
   .let d:=kM Z (p:=(s,[])) h.sa (SW.wd Z h);show SK Z (qN Z (p:=(s,[])) f (SW.wd Z h)) d.1.sa l
end
def KI{n:Nat}(h:0<n):Iy n (-1)=R (n - 1):=by ext Iy;rw[ax ()];rw[show(if -(n:Int)<= -1 then _ else _)=_ from av ()];congr 1;ext
end STP
namespace K44
open PySem L2 L3 STP
def tm:FS:=(bZ (pq (a9 (aW Tv (aa 1) (gq cO {aa 0}))) (fC (aW bB (aa 0) (aa 1))) fV)
 (fC (~~~0)))
def bJ:FN:=gI 2 tm
def iV:FS:=(bZ (pq (LM (a9 (aW Tv (aa 0) (~~~0))) (a9 (aW Vd (aa 0) (aW N9 (~~~10) (~~~18))))) (bZ (pZ (k7 gW {aa 1}) (gN 3) (gw (aW Ip (aa 0) (~~~1000)) (gN 0)))
 (fC (aW uK (aa 0) (aa 2)))) fV)
 (bZ (gw (aW jK (aW dC (aW dC (aW uK (aa 0) (~~~1000033)) (aW jK (~~~77) (aa 1))) (~~~5)) (aW dC (aW jK (aa 1) (aa 1)) (~~~40009))) (gN 4))
 (fC (aW uK (aW Ip (aW uK (aW dC (aW jK (aW uK (aa 4) (~~~998857)) (~~~30011)) (aa 1)) (~~~999983)) (~~~3)) (aa 2)))))
def aV:FN:=gI 5 iV
def o9:FS:=(fC (aW gL (pC (.str "abz")) (eE aV 3 {aa 0,aa 1,~~~3})))
def d8:FN:=gI 2 o9
def fW:FS:=(bZ (gw (eE aV 3 {aa 0,~~~11,~~~12}) (gN 3))
 (bZ (pq (a9 (aW eR (aa 2) (~~~1))) (gw (aW bB (di {~~~1,~~~1,~~~1,~~~8}) (eE aV 3 {aa 0,~~~12,~~~4})) (gN 3)) fV)
 (bZ (gw (aW dC (~~~1) (eE aV 3 {aa 0,~~~13,gq GM {~~~1,aW wQ (aa 2) (~~~1)}})) (gN 4))
 (bZ (pq (LM (a9 (aW eR (aa 3) (~~~4))) (a9 (aW eR (aa 3) (~~~5)))) (fC (df {pC (.str "layer"),aa 4})) fV)
 (bZ (pq (LM (a9 (aW eR (aa 3) (~~~6))) (a9 (aW eR (aa 3) (~~~7)))) (fC (df {pC (.str "tap"),eE d8 2 {aa 0,~~~14},aa 4})) fV)
 (bZ (pq (a9 (aW eR (aa 3) (~~~8))) (fC (df {pC (.str "none")})) fV)
 (bZ (pq (a9 (aW eR (aa 3) (~~~9))) (fC (df {pC (.str "once"),aa 4})) fV)
 (bZ (pq (CO (a9 (aW G1 (aa 3) (~~~9))) (a9 (aW G1 (aa 1) (~~~0)))) (fC (df {pC (.str "below")})) fV)
 (fC (df {pC (.str "letter"),eE d8 2 {aa 0,~~~15}}))))))))))
def fQ:FN:=gI 5 fW
def iM:FS:=(bZ (gw (di aC) (gN 3))
 (bZ (pZ (k7 gW {aW Tb (~~~1) (aa 1)}) (gN 4) (bZ (gw (gq gO {eB 1 [4] (k7 gW {aa 1}) (gN 0) (a9 (aW eR (aW EA (aW OZ (aa 1) (aa 0)) (~~~1)) (~~~1))) (aa 0)}) (gN 5))
 (bZ (gw (JO (aW G1 (gq cO {aa 5}) (~~~1)) (gq yr {eB 1 [2] (gU (aa 5)) (gN 0) c9 (aW eR (aW bB (aW bB (aa 1) (aa 0)) (~~~0)) (pC (.str "letter")))})) (gN 6))
 (pq (CO (a9 (aa 6)) (CO (a9 (aW Tv (gq cO {aa 3}) (~~~4))) (a9 (aW eR (eE aV 3 {aa 0,aW dC (~~~20) (aa 4),~~~3}) (~~~0))))) (pp (BT 3 (df {aa 5,aW gL (pC (.str "abcz")) (eE aV 3 {aa 0,aW dC (~~~40) (aa 4),~~~4})}))) fV))))
 (fC (gq gO {aa 3}))))
def iQ:FN:=gI 7 iM
def l8:FS:=(bZ (gw (eE bJ 2 {aa 0,aa 1}) (gN 3))
 (bZ (gw (aW bB (di (ah (~~~1) {~~~2,~~~2,~~~2,~~~3})) (eE aV 3 {aa 3,~~~5,~~~5})) (gN 4))
 (bZ (gw (di aC) (gN 5))
 (bZ (pZ (k7 gW {aa 4}) (gN 6) (bZ (gw (eB 1 [0,1,2,6] (k7 gW {aa 2}) (gN 0) c9 (eE bJ 2 {aa 1,aW dC (aW dC (aW dC (aa 2) (~~~1)) (aW jK (aa 3) (aa 4))) (aa 0)})) (gN 7))
 (pp (BT 5 (gq gO {eB 1 [6,4] (gU (aa 7)) (gN 0) c9 (eE fQ 3 {aa 0,aa 1,aa 2})})))))
 (bZ (gw (eE iQ 3 {eE bJ 2 {aa 0,aW dC (aa 1) (~~~10)},aa 2,aW bB (aa 5) (~~~0)}) (gN 8))
 (fC (df {aa 2,gq gO {aa 5},aa 8,aW dC (~~~1) (eE aV 3 {aa 3,~~~6,aW bB (di {~~~4,~~~4,~~~2}) (aW wQ (aa 2) (~~~1))})})))))))
def lc:FN:=gI 9 l8
def sT:FS:=(fC (aW bB (di {~~~1,~~~2,~~~2,~~~3}) (eE aV 3 {eE bJ 2 {aa 0,~~~0},~~~1,~~~4})))
def j8:FN:=gI 1 sT
def nV:FS:=(bZ (gw (eB 1 [] (k7 gW {aW bB (aa 0) (~~~0)}) (gN 0) c9 (df {pC (.str "down"),aa 0})) (gN 1))
 (bZ (gw (eB 1 [] (k7 gW {aW bB (aa 0) (~~~0)}) (gN 0) c9 (df {pC (.str "up"),aa 0})) (gN 2))
 (fC (aW dC (aW dC (aa 1) (aa 2)) (di {df {pC (.str "turn"),~~~0}})))))
def fO:FN:=gI 3 nV
def kG:FS:=(bZ (gw (di aC) (gN 1))
 (bZ (pZ (gU (di {pC (.str "down"),pC (.str "up")})) (gN 2) (pZ (k7 gW {aW bB (aa 0) (~~~0)}) (gN 3) (pp (BT 1 (df {aa 2,aa 3})))))
 (fC (aW dC (aa 1) (di {df {pC (.str "turn"),~~~0}})))))
def iB:FN:=gI 4 kG
def tF:FS:=(fC (gq L10.mW {eB 2 [] (zA {aa 0,aa 1}) (gT 2 (MK (gN 0) (MK (gN 1) Tx))) c9 (aW wC (aa 0) (aa 1))}))
def iS:FN:=gI 2 tF
def lR:FS:=(bZ (gw (di aC) (gN 2))
 (bZ (pZ (k7 gW {aa 1}) (gN 3) (pp (L10.NS 2 (eB 1 [3] (k7 gW {aa 3}) (gN 0) c9 (df {aa 1,aa 0})))))
 (bZ (pq (a9 (aW G1 (gq cO {aa 2}) (~~~5))) (gw (eB 1 [2,0] (k7 gW {~~~5}) (gN 0) c9 (aW bB (aa 1) (eE aV 3 {aW dC (eE bJ 2 {aa 2,aW dC (~~~12) (aa 0)}) (aa 0),~~~61,gq cO {aa 1}}))) (gN 2)) fV)
 (bZ (gw (di aC) (gN 4))
 (bZ (pZ (k7 gW {gq cO {aa 2}}) (gN 5) (bZ (gw (aW eR (eE aV 3 {eE bJ 2 {aa 0,aW dC (~~~12) (aa 5)},~~~63,~~~2}) (~~~1)) (gN 6))
 (pp (BT 4 (P0 (a9 (aa 6)) (Cp L9.MZ (aW bB (aa 2) (aa 5))) (aW bB (aa 2) (aa 5)))))))
 (fC (aa 4)))))))
def jj:FN:=gI 7 lR
def ka:FS:=(bZ (gw (pC .none) (gN 4))
 (bZ (pZ (gU (aa 3)) (gN 5) (bZ (gw (L10.Cm 1 (aa 5)) (gN 6))
 (bZ (gw (aW bB (aW bB (aW bB (aa 0) (~~~1)) (aa 2)) (aa 6)) (gN 4))
 (gw (aW bB (aW bB (aW bB (aa 0) (~~~0)) (aa 2)) (aa 6)) (gN 2)))))
 (fC (aa 4))))
def fU:FN:=gI 7 ka
def lX:FS:=(bZ (pq (LM (wV (a9 (HX "list" (aa 3)))) (LM (wV (a9 (vE P7 P7 (~~~1) (gq cO {aa 3}) (gq cO {aW bB (aa 0) (~~~0)})))) (wV (a9 (gq yr {eB 1 [1] (gU (aa 3)) (gN 0) c9 (aW HY (aa 0) (aa 1))}))))) (fC (pC (.bool Wu))) fV)
 (fC (aW wC (eE fU 4 {aa 0,aa 1,aW bB (aa 2) (~~~0),aa 3}) (eE fU 4 {aa 0,aa 1,aW bB (aa 2) (~~~1),aa 3}))))
def gc:FN:=gI 4 lX
end K44
namespace K44
open PySem L2 L3 L10 STP
def eW:gl:=(aX (dw (b8 (Fa P (ag (aa 1)) (a8 "Places" "numbers" (az 0)))) (aX (dw (b8 (mq Vd (kK cO (am (a8 "Places" "found" (az 0)) aJ)) (a8 "Places" "most" (az 0)))) (uj "TooMany" "most" (a8 "Places" "most" (az 0))) eD)
 (aX (yE (a8 "Places" "numbers" (az 0)) (ag (aa 1)) (kK cO (am (a8 "Places" "found" (az 0)) aJ)))
 (cr (l6 (a8 "Places" "found" (az 0)) (ag (df {aa 1,aa 2,aa 3})))))) eD)
 (ip (wA (a8 "Places" "numbers" (az 0)) (ag (aa 1)))))
def cx:jA:=dL 4 eW
def d7:gl:=(aX (fM "Places" "most" (az 0) (ag (aa 2)))
 (aX (fM "Places" "found" (az 0) (ag (di aC)))
 (aX (fM "Places" "numbers" (az 0) Ag)
 (cr (sW "Places" "enter" cx 4 (az 0) (am (ag (aa 1)) (am (ag (pC .none)) (am (ag (pC .none)) aJ))))))))
def dW:jA:=dL 3 d7
def v3:gl:=(aX (cX (mw (ag (eE fO 1 {aa 0}))) (dB 2))
 (aX (cX (Ap "Places" dW 3 (am (ag (pC (.tuple [(.tuple []),.none,.none]))) (am (ag (aa 1)) aJ))) (dB 3))
 (aX (cX (ag (di aC)) (dB 4))
 (aX (cX (ag (di aC)) (dB 5))
 (aX (sg (b8 (mq Tv (kK cO (am (az 4) aJ)) (kK cO (am (a8 "Places" "found" (az 3)) aJ)))) (aX (cX (kK cO (am (az 4) aJ)) (dB 6))
 (aX (cX (gL (gL (a8 "Places" "found" (az 3)) (ag (aa 6))) (ag (~~~0))) (dB 7))
 (aX (cX (mw (eC 1 [0,7] (ii (gU (aa 2))) (dB 0) cF (AL STP.nO 3 (am (ag (aa 1)) (am (ag (aa 2)) (am (ag (aa 0)) aJ)))))) (dB 8))
 (aX (cr (l6 (az 4) (kK gO (am (vL 2 [3,6] (ii (zA {aa 2,aa 8})) (TB 2 (vP (dB 0) (vP (dB 1) Hc))) cF (sW "Places" "enter" cx 4 (az 2) (am (ag (aW bB (aa 1) (~~~1))) (am (ag (aa 3)) (am (ag (aa 0)) aJ))))) aJ))))
 (cr (l6 (az 5) (ag (gq gO {eB 1 [] (gU (aa 8)) (gN 0) c9 (gq gO {aW bB (aa 0) (~~~0)})})))))))))
 (ip (oP (am (a8 "Places" "found" (az 3)) (am (az 4) (am (az 5) aJ))))))))))
def iY:jA:=dL 9 v3
def zv:gl:=(ip (gL (sV iY 2 [] (am (ag (aa 0)) (am (ag (aa 1)) aJ))) (ag (~~~0))))
def fE:jA:=dL 2 zv
def pY:gl:=(aX (cX Ag (dB 1))
 (ip (eC 1 [1] (eT (az 0)) (dB 0) cF (B7 (az 1) (ag (aa 0)) (sj (az 1))))))
def fA:jA:=dL 2 pY
def km:gl:=(aX (cX (gL (a8 "Sorting" "rounds" (az 0)) (ag (Cp tO (~~~1)))) (dB 2))
 (ip (oP (am (gL (az 2) (ag (aa 1))) (am (kK gO (am (eC 1 [2] (eT (gL (a8 "Sorting" "steps" (az 0)) (ag (aa 1)))) (dB 0) cF (gL (az 1) (ag (aa 0)))) aJ)) aJ)))))
def bV:jA:=dL 3 km
def jf:gl:=(aX (cX (ag (di aC)) (dB 3))
 (aX (cX (kK mW (am (eC 1 [1,2] (eT (a8 "Sorting" "rounds" (az 0))) (dB 0) cF (ag (aW wC (aW bB (aa 0) (aa 1)) (aW bB (aa 0) (aa 2))))) aJ)) (dB 4))
 (aX (A9 (FC (UC TN (a8 "Sorting" "rounds" (az 0)) AN (xp (ag (aa 4))))) (dB 5) (aX (cX (iq iS 2 (am (eC 1 [5] (eT (gL (a8 "Sorting" "steps" (az 0)) (ag (aa 1)))) (dB 0) cF (ag (aW bB (aa 1) (aa 0)))) (am (eC 1 [5] (eT (gL (a8 "Sorting" "steps" (az 0)) (ag (aa 2)))) (dB 0) cF (ag (aW bB (aa 1) (aa 0)))) aJ))) (dB 6))
 (aX (cr (l6 (az 3) (ag (aa 6))))
 (aX (cX (gL (gL (a8 "Sorting" "steps" (az 0)) (ag (aa 1))) (ag (aa 6))) (dB 1))
 (cX (gL (gL (a8 "Sorting" "steps" (az 0)) (ag (aa 2))) (ag (aa 6))) (dB 2))))))
 (ip (mq dC (az 3) (M5 (am (iq iS 2 (am (gL (a8 "Sorting" "sends" (az 0)) (ag (aa 1))) (am (gL (a8 "Sorting" "sends" (az 0)) (ag (aa 2))) aJ))) aJ)))))))
def dh:jA:=dL 7 jf
def jM:gl:=(aX (cX (mw (sV iY 2 [] (am (ag (aa 1)) (am (ag (aa 2)) aJ)))) (dB 3))
 (aX (fM "Sorting" "steps" (az 0) (ag (aW bB (aa 3) (~~~1))))
 (aX (fM "Sorting" "sends" (az 0) (ag (aW bB (aa 3) (~~~2))))
 (aX (fM "Sorting" "rounds" (az 0) (ag (di aC)))
 (aX (cX (nG fA 1 (am (a8 "Sorting" "sends" (az 0)) aJ)) (dB 4))
 (sg (EJ (b8 (mq eR (a8 "Sorting" "rounds" (az 0)) (ag (di aC)))) (b8 (mq G1 (kK jW (am (az 4) aJ)) (kK jW (am (gL (a8 "Sorting" "rounds" (az 0)) (ag (Cp tO (~~~1)))) aJ))))) (aX (cr (l6 (a8 "Sorting" "rounds" (az 0)) (az 4)))
 (cX (nG fA 1 (am (eC 1 [0] (nv (kK cO (am (a8 "Sorting" "steps" (az 0)) aJ))) (dB 0) cF (bw "Sorting" "mark_of" bV 2 (az 1) (am (ag (aa 0)) aJ))) aJ)) (dB 4)))))))))
def bO:jA:=dL 5 jM
def xg:gl:=(aX (cX (Ap "Sorting" bO 3 (am (ag (aa 0)) (am (ag (aa 1)) aJ))) (dB 2))
 (aX (cX (mw (gL (a8 "Sorting" "rounds" (az 2)) (ag (Cp tO (~~~1))))) (dB 3))
 (aX (cX (mw (ag (eB 1 [3] (k7 gW {aW dC (gq L10.jW {aa 3}) (~~~1)}) (gN 0) c9 (L10.yY 1 (aa 0))))) (dB 4))
 (aX (cX (kK gO (am (eC 1 [2,3] (ii (gU (aa 4))) (dB 0) cF (kK gO (am (eC 1 [2] (eT (gL (a8 "Sorting" "steps" (az 1)) (ag (aa 0)))) (dB 0) cF (ag (aW bB (aa 1) (aa 0)))) aJ))) aJ)) (dB 5))
 (ip (oP (am (ag (aa 5)) (am (kK gO (am (eC 1 [2] (ii (gU (aa 4))) (dB 0) cF (gL (a8 "Sorting" "sends" (az 1)) (ag (aa 0)))) aJ)) aJ))))))))
def dn:jA:=dL 6 xg
def Ae:gl:=(aX (cX (BZ "rounds" (Ap "Sorting" bO 3 (am (ag (aa 0)) (am (ag (aa 3)) aJ)))) (dB 4))
 (aX (dw (db (a9 (aW eR (aa 1) (aa 2)))) (ip (ag (pC .none))) eD)
 (aX (cX (mw (gL (a8 "Sorting" "rounds" (az 4)) (ag (Cp tO (~~~1))))) (dB 5))
 (aX (cX (mw (ag (eE fO 1 {aa 0}))) (dB 6))
 (ip (eC 1 [6] (eT (bw "Sorting" "row_apart" dh 3 (az 4) (am (ag (L10.yY 5 (aa 1))) (am (ag (L10.yY 5 (aa 2))) aJ)))) (dB 0) cF (ag (aW bB (aa 1) (aa 0)))))))))
def gb:jA:=dL 7 Ae
def cK:jA
 |[.fz b],Z=>(match dn [.fz b,.fz (.int 40)] Z with
  |.ok x a=>.ok x a
  |.er x a=>if x.cls=("TooMany":Str)then .ok (.fz .none) a else .bad
  |_=>.bad)
 |_,_=>.bad
def e9:jA
 |[.fz b],Z=>(match fE [.fz b,.fz (.int 400)] Z with
  |.ok x a=>(match sh a x with
   |some (.list ds)=>.ok (.fz (nd ds.length)) a
   |_=>.bad)
  |.er x a=>if x.cls=("TooMany":Str)then .ok (.fz (.int 401)) a else .bad
  |_=>.bad)
 |_,_=>.bad
def P2:gl:=(aX (cX (ag (eE lc 3 {aa 0,~~~1,eE j8 1 {aa 0}})) (dB 1))
 (aX (cX (mw (nG cK 1 (am (ag (aa 1)) aJ))) (dB 2))
 (aX (dw (db (a9 (aW tW (aa 2) (pC .none)))) (ip (mq G1 (nG e9 1 (am (ag (aa 1)) aJ)) (ag (~~~40)))) eD)
 (aX (cX (mw (ag (eE iB 1 {aa 1}))) (dB 3))
 (aX (cX (ag (gq cO {aW bB (aa 2) (~~~0)})) (dB 4))
 (aX (A9 (ii (gU (eE jj 2 {aa 0,aa 4}))) (dB 5) (aX (cX (pN gb 4 [] (am (ag (aa 1)) (am (ag (aW bB (aa 5) (~~~0))) (am (ag (aW bB (aa 5) (~~~1))) (am (ag (~~~40)) aJ))))) (dB 6))
 (aX (dw (wP (b8 (iq gc 4 (am (ag (aa 2)) (am (ag (aa 3)) (am (ag (aa 5)) (am (az 6) aJ))))))) (ip (ag (pC (.bool Wu)))) eD)
 (aX (cr (Nq (az 6)))
 (dw (wP (b8 (iq gc 4 (am (ag (aa 2)) (am (ag (aa 3)) (am (ag (aa 5)) (am (pN gb 4 [] (am (ag (aa 1)) (am (ag (aW bB (aa 5) (~~~0))) (am (ag (aW bB (aa 5) (~~~1))) (am (ag (~~~40)) aJ))))) aJ))))))) (ip (ag (pC (.bool Wu)))) eD)))))
 (aX (cX (ag (eE aV 3 {eE bJ 2 {aa 0,~~~12},~~~62,aa 4})) (dB 7))
 (ip (Cz (mq tW (pN gb 4 [] (am (ag (aa 1)) (am (ag (aa 7)) (am (ag (aa 7)) (am (ag (~~~40)) aJ))))) (ag (pC .none))) (mq tW (pN gb 4 [(.int 400)] (am (ag (aa 1)) (am (ag (~~~0)) (am (ag (~~~0)) aJ)))) (ag (pC .none))))))))))))
def F_law:jA:=dL 8 P2
abbrev zf(d:D):I PV:=-(d)
abbrev zo(l:G D):I PV:=R (.ow l)
def lO(ns:G Int)(k:Nat):∃c:Int,bJ [.list (ns.map .int),nd k]=.ok (.fz (.int c)):=by
 let a:cO [.list (ns.map .int)]=-(nd ns.length):=(gr _).trans (by rw[Wg]);let lt:=rR (k:Int) (ns.length:Int);by_cases h:k<ns.length
 .rw[aE ()]at lt;let e:bB (.list (ns.map .int)) (nd k)=-(.int ns[k]):=qM (by rw[Wv,Wr h];rfl);show#[ns[k],jL (ρ:=[zf (.list (ns.map .int)),zf (nd k)]) W (pz (b:=P) (ci (aK (rv:=.fz (.bool P)) (af W) (eA (rv:=.fz (nd ns.length)) (aq (af W) aH) W a) W W lt) W) (λ_=>kB (pv:=.fz (.int ns[k])) (rv:=.fz (.int ns[k])) (aK (rv:=.fz (.int ns[k])) (af W) (af W) W W e) W W) λq=>nomatch q)]
 .rw[aP ()]at lt;show#[0,jL (ρ:=[zf (.list (ns.map .int)),zf (nd k)]) W (pz (b:=Wu) (ci (aK (rv:=.fz (.bool Wu)) (af W) (eA (rv:=.fz (nd ns.length)) (aq (af W) aH) W a) W W lt) W) (λq=>nomatch q) λ_=>hG (fJ (pv:=.fz (.int 0)) (rv:=.fz (.int 0)) aQ W W))]
abbrev ET(c:Int)(k m:Nat)(a b:I PV):bC:=[zf (.int c),zf (nd k),zf (nd m),a,b]
def gx(c:Int)(k m:Nat)(o:k<=1000)(hm:0<m):∃r:Nat,aV [.int c,nd k,nd m]=.ok (.fz (nd r))/\r<m:=by
 let a:∀x:Int,∃r:Nat,uK (.int x) (nd m)=-(nd r)/\r<m:=λx=>by let A:0<=x % (m:Int):=aha _ ();let J:x % (m:Int)<m:=afP _ ();show#[(x % (m:Int)).toNat,?_,by ext];rw[yz (),nd,abZ A]
 let g:∃L,gI 5 iV [.int c,nd k,nd m]=.ok L/\∃r:Nat,L=.fz (nd r)/\r<m:=by
  show ng (T:=λL=>∃r:Nat,L=.fz (nd r)/\r<m) (ρ:=ET c k m U U) W ?_;ext iV;let f:=P9;show pz (b:=decide (c<0)||decide ((10:Int)^18<=c)) (ρ1:=ET c k m U U) (zT (ci (aK (rv:=.fz (.bool (decide (c<0)))) (af W) aQ W W (rR _ _)) W) λ_=>ci (aK (rv:=.fz (.bool (decide ((10:Int)^18<=c)))) (af W) (aK (rv:=.fz (.int ((10:Int)^18))) aQ aQ W W f) W W (B3 _ _)) W) (λ_=>Mq ?_) (λ_=>hG ?_)
  .let B:=iG (n:=k) ()
   show pI (λ_ N=>∃(x:Int) (t:bP PV),N=ET x k m t U) (ds:=bN (Wk k)) (ρ1:=ET c k m U U) (by ext:0) #[c,U,W] ?_ ?_
   .rintro i d N S ⟨x,t,rfl⟩;let e:Ip (.int x) (.int 1000)=-(.int (x/1000)):=Kb #[by decide,by decide];show#[_,W,DY (ρ2:=ET (x/1000) k m (zf d) U) (aK (rv:=.fz (.int (x/1000))) (af W) aQ W W e) W #[_,_,W]]
   .rintro N ⟨x,t,rfl⟩;let(r,l,j):=a x;show kB (pv:=.fz (nd r)) (rv:=.fz (nd r)) (ρ1:=ET x k m t U) (aK (rv:=.fz (nd r)) (af W) (af W) W W l) W #[r,W,j]
  .let K:0<=c % 1000033/\c % 1000033<1000033:=#[aha _ (),afP _ ()]
   let I:(k:Int)*k<=1000000:=by
    let:k*k<=1000*1000:=abK o o;let e:(k:Int)*k=((k*k:Nat):Int):=by rw[Int.natCast_mul]
    ext
   let v:0<=(k:Int)*k:=Int.mul_nonneg () ();let H:uK (.int c) (.int 1000033)=-(.int (c % 1000033)):=yz ();let G:jK (.int 77) (nd k)=-(.int (77*k)):=rh #[by ext,by ext];let F:jK (nd k) (nd k)=-(.int (k*k)):=rh #[by ext,by ext];let u:jK (.int (c % 1000033+77*k+5)) (.int (k*k+40009))=-(.int ((c % 1000033+77*k+5)*(k*k+40009))):=rh #[by ext,by ext];generalize Q:(c % 1000033+77*(k:Int)+5)*(k*k+40009)=x at u;let E:uK (.int x) (.int 998857)=-(.int (x % 998857)):=yz ();let q:jK (.int (x % 998857)) (.int 30011)=-(.int (x % 998857*30011)):=J0 #[by ext,by ext];generalize x % 998857*30011=y at q;let p:uK (.int (y+k)) (.int 999983)=-(.int ((y+k) % 999983)):=yz ();generalize (y+(k:Int)) % 999983=z at p;let C:Ip (.int z) (.int 3)=-(.int (z/3)):=Kb #[by ext,by ext];let(r,l,j):=a (z/3);show d9 (ρ3:=ET c k m U (zf (.int x))) (by ext:0) W W ?_;show fJ (pv:=.fz (nd r)) (rv:=.fz (nd r)) (ρ1:=ET c k m U (zf (.int x))) (aK (rv:=.fz (nd r)) (by ext:0) (af W) W W l) W #[r,W,j]
 let(L,h,r,rfl,w):=g;show#[r,h,w]
def Q2{z:Str}{cs:G Nat}(d:z.cps.toList=cs.map (97+·))(a:z.length<=1000000){r:Int}{c:Nat}(b:0<=r)(h:cs[r.toNat]?=R c):L3.gL (.str z) (.int r)=-(.str (mh c)):=by show(if z.length<=1000000 then(m9 z.cps.toList r).map (λc=>RV.fz (.str #[#v[c]]))else U)=_;rw[av a,d,yo (v:=97+c) b (by rw[Wv,h];rfl)];rfl
def Kg{z:Str}(cs:G Nat)(d:z.cps.toList=cs.map (97+·))(b:z.length<=1000000)(e:∀c∈cs,c<26){r:Int}(f:0<=r)(g:r<cs.length):∃c,c<26/\L3.gL (.str z) (.int r)=-(.str (mh c)):=by
 let a:r.toNat<cs.length:=by ext
 show#[cs[r.toNat],e _ (Yw a),Q2 d b f (Wr a)]
def ri{n i k:Nat}(h:(Wk n)[i]?=R k):k=i/\i<n:=by let(b,a):=Wj.mp h;rw[afz]at a;rw[Wy]at b;show#[a.symm,b]
def OS{n a:Int}{e:G (G Mn)}{b:G Mn}(h:VL n a e)(g:(b.length:Int)=n)(f:∀m∈b,VM e.length a m):VL n a (e++[b]):=by
 intro i l j;rcases L10.c7 j with o|⟨rfl,rfl⟩
 .show h i l o
 .show#[g,f]
def xi(c:Int)(k:Nat)(e:k<=1000):∃l,l<26/\d8 [.int c,nd k]=.ok (.fz (.str (mh l))):=by let(r,er,g):=gx c k 3 e ();let a:aV [.int c,nd k,.int 3]=.ok (.fz (nd r)):=er;let(l,b,f):=Kg (z:= "abz") [0,1,25] (by left) (by left) () (show(0:Int)<=(r:Int) by ext) (show(r:Int)<3 by ext);show#[l,b,jL (ρ:=[zf (.int c),zf (nd k)]) W (fJ (pv:=.fz (.str (mh l))) (rv:=.fz (.str (mh l))) (ρ1:=[zf (.int c),zf (nd k)]) (aK (rv:=.fz (.str (mh l))) aQ (cI (rv:=.fz (nd r)) (ds:=[.int c,nd k,.int 3]) (aq (af W) (aq (af W) (aq aQ aH))) W W a) W W f) W W)]
def Ru{a:Nat}(b:1<=a):∃M:Nat,GM [.int 1,.int ((a:Int) - 1)]=-(nd M)/\1<=M/\(1<a->M=a - 1):=by
 by_cases h:1<a
 .show#[a - 1,?_,by ext,λ_=>W];show R (RV.fz (.int (if(1:Int)<(a:Int) - 1 then(a:Int) - 1 else 1)))=R (RV.fz (.int ((a - 1:Nat):Int)));congr 3;split<;>ext
 .obtain rfl:a=1:=by ext
  show#[1,W,by ext,λh=>by ext]
abbrev E5(c:Int)(L e:Nat)(a b:I PV):bC:=[zf (.int c),zf (nd L),zf (nd e),a,b]
def Op(c:Int)(L a:Nat)(o:1<=a)(Q:a<=1000):∃m:Mn,VM L a m/\fQ [.int c,nd L,nd a]=.ok (.fz (mD m)):=by
 let(j,e0,F):=gx c 11 12 () ();let(g,v,E):=gx c 12 4 () ();let(M,O,M1,M2):=Ru o;let(f,u,G):=gx c 13 M () ();let(n,I,A):=xi c 14 ();let(l,H,y):=xi c 15 ();let e0:aV [.int c,.int 11,.int 12]=.ok (.fz (nd j)):=e0;let v:aV [.int c,.int 12,.int 4]=.ok (.fz (nd g)):=v;let u:aV [.int c,.int 13,nd M]=.ok (.fz (nd f)):=u;let A:d8 [.int c,.int 14]=.ok (.fz (.str (mh n))):=A;let y:d8 [.int c,.int 15]=.ok (.fz (.str (mh l))):=y;let p:∃S,gI 5 fW [.int c,nd L,nd a]=.ok S/\∃m:Mn,VM L a m/\S=.fz (mD m):=by
  show ng (T:=λS=>∃m:Mn,VM L a m/\S=.fz (mD m)) (ρ:=E5 c L a U U) W ?_;ext fW;show d9 (ρ3:=E5 c L a (zf (nd j)) U) (cI (rv:=.fz (nd j)) (ds:=[.int c,.int 11,.int 12]) (aq (af W) (aq aQ (aq aQ aH))) W W e0) W W ?_;show KW (Go.imp (N:=λr=>∃w:Int,(a=1->w=1\/w=8)/\r=E5 c L a (zf (.int w)) U) (Kj (b:=decide ((a:Int)=1)) (ρ1:=E5 c L a (zf (nd j)) U) (ci (aK (rv:=.fz (.bool (decide ((a:Int)=1)))) (af W) aQ W W (ko _ _)) W) (λq=>?_) (λq=>?_)) (λr #[w,t,e]=>?_) (λ_ h=>h) (λ_ h=>h))
  .obtain⟨x,C,K⟩:∃x:Int,(x=1\/x=8)/\bB (.list [.int 1,.int 1,.int 1,.int 8]) (nd g)=-(.int x):=by
    let:g=0\/g=1\/g=2\/g=3:=by ext
    rcases this with rfl|rfl|rfl|rfl
    .show#[1,.inl W,qM W]
    .show#[1,.inl W,qM W]
    .show#[1,.inl W,qM W]
    .show#[8,.inr W,qM W]
   show DY (pv:=.fz (.int x)) (ρ2:=E5 c L a (zf (.int x)) U) (aK (rv:=.fz (.int x)) (by ext:0) (cI (rv:=.fz (nd g)) (ds:=[.int c,.int 12,.int 4]) (aq (af W) (aq aQ (aq aQ aH))) W W v) W W K) W #[x,λ_=>C,W]
  .let q:=of_decide_eq_false q;show zZ #[j,λz=>by ext,W]
  subst e;show d9 (ρ3:=E5 c L a (zf (.int w)) (zf (.int (1+(f:Int))))) (aK (rv:=.fz (.int (1+(f:Int)))) aQ (cI (rv:=.fz (nd f)) (ds:=[.int c,.int 13,nd M]) (aq (af W) (aq aQ (aq (eA (rv:=.fz (nd M)) (ds:=[.int 1,.int ((a:Int) - 1)]) (aq aQ (aq (aK (rv:=.fz (.int ((a:Int) - 1))) (af W) aQ W W (vj _ _)) aH)) W O) aH))) W W u) W W (gJ _ _)) W W ?_;let i:1<a->(1:Int)<=1+(f:Int)/\1+(f:Int)<a:=λz=>by let:=M2 z;ext
  show pz (b:=decide (w=4)||decide (w=5)) (ρ1:=E5 c L a (zf (.int w)) (zf (.int (1+(f:Int))))) (by ext:0) (λq=>?_) (λ_=>hG ?_)
  .show kB (pv:=.fz (mD (.Y8 (1+(f:Int))))) (rv:=.fz (mD (.Y8 (1+(f:Int))))) (ρ1:=E5 c L a (zf (.int w)) (zf (.int (1+(f:Int))))) (show _=Res.ok (PV.fz (.tuple [.str "layer",.int (1+(f:Int))]),_) by ext:0) W #[_,?_,W];rw[aag,decide_eq_true_eq,decide_eq_true_eq]at q;show i (aci o λz=>by let:=t z.symm;ext)
  show pz (b:=decide (w=6)||decide (w=7)) (ρ1:=E5 c L a (zf (.int w)) (zf (.int (1+(f:Int))))) (by ext:0) (λq=>?_) (λ_=>hG ?_)
  .show kB (pv:=.fz (mD (.tap n (1+(f:Int))))) (rv:=.fz (mD (.tap n (1+(f:Int))))) (ρ1:=E5 c L a (zf (.int w)) (zf (.int (1+(f:Int))))) (show _=Res.ok (PV.fz (.tuple [.str "tap",.str (mh n),.int (1+(f:Int))]),_) by ext:0) W #[_,?_,W];rw[aag,decide_eq_true_eq,decide_eq_true_eq]at q;show#[I,i (aci o λz=>by let:=t z.symm;ext)]
  show pz (b:=decide (w=8)) (ρ1:=E5 c L a (zf (.int w)) (zf (.int (1+(f:Int))))) (by ext:0) (λq=>?_) (λ_=>hG ?_)
  .show kB (pv:=.fz (mD .none)) (rv:=.fz (mD .none)) (ρ1:=E5 c L a (zf (.int w)) (zf (.int (1+(f:Int))))) (show _=Res.ok (PV.fz (.tuple [.str "none"]),_) by ext:0) W #[.none,trivial,W]
  show pz (b:=decide (w=9)) (ρ1:=E5 c L a (zf (.int w)) (zf (.int (1+(f:Int))))) (by ext:0) (λq=>?_) (λ_=>hG ?_)
  .show kB (pv:=.fz (mD (.once (1+(f:Int))))) (rv:=.fz (mD (.once (1+(f:Int))))) (ρ1:=E5 c L a (zf (.int w)) (zf (.int (1+(f:Int))))) (show _=Res.ok (PV.fz (.tuple [.str "once",.int (1+(f:Int))]),_) by ext:0) W #[_,?_,W];rw[decide_eq_true_eq]at q;show i (aci o λz=>by let:=t z.symm;ext)
  let J:G1 (nd L) (.int 0)=-(.bool (decide ((0:Int)<L))):=W;show pz (b:=(decide (9<w)&&decide ((0:Int)<L))) (ρ1:=E5 c L a (zf (.int w)) (zf (.int (1+(f:Int))))) (by ext:0) (λq=>?_) (λ_=>hG ?_)
  .rw[WU]at q;let P:=a6 q.2;show kB (pv:=.fz (mD .below)) (rv:=.fz (mD .below)) (ρ1:=E5 c L a (zf (.int w)) (zf (.int (1+(f:Int))))) (show _=Res.ok (PV.fz (.tuple [.str "below"]),_) by ext:0) W #[.below,by show(L:Int)≠0;ext,W]
  show fJ (pv:=.fz (mD (.Xs l))) (rv:=.fz (mD (.Xs l))) (ρ1:=E5 c L a (zf (.int w)) (zf (.int (1+(f:Int))))) (show _=Res.ok (PV.fz (.tuple [.str "letter",.str (mh l)]),_) by ext:0) W #[.Xs l,H,W]
 let(S,h,m,B,rfl):=p;show#[m,B,h]
structure CsV(l0:G Mn)(cs:G (G Nat×Nat)):Prop where
 vc:∀c∈cs,VC l0 c
 un:cs.Pairwise λa c=>a.1≠c.1
theorem CsV.nil(b:G Mn):CsV b []:=#[λc a=>(by ext a),aa9]
def CsV.add(h:CsV l0 cs)(j:2<=s.length)(f:s.Pairwise (·<·))(i:∀k∈s,Ir l0 k=P)(g:l<26)(e:s∉cs.map (·.1)):CsV l0 (cs++[(s,l)]):=by
 show#[λc b=>(Xn.mp b).elim (h.vc c) λz=>?_,aac.mpr #[h.un,aaY _ _,λa m c b=>?_]]
 .rw[WO.mp z];show#[j,f,i,g]
 .rw[WO.mp b];show λz=>e (Xe.mpr #[a,m,z])
def SX(a:k<l0.length):∃d,bB (mF l0) (nd k)=-(d)/\∃w,bB d (.int 0)=-(.str w)/\eR (.str w) (.str "letter")=-(.bool (Ir l0 k)):=by
 let b:Ir l0 k=l0[k].isL:=by ext Ir;rw[Wr a];rfl
 rw[b];show#[mD l0[k],Hg (by rw[Wv,Wr a];rfl),_,tE _,oK _]
def UA(i:Int)(k:Nat):OZ (.int i) (nd k)=-(.int (i/2^k)):=by show(if Ve i (k:Int)=P then R (RV.fz (.int (i/2^((k:Nat):Int).toNat)))else U)=_;rw[av (by ext Ve;show aE ()),XN]
def Q3(x:Int)(k:Nat):Bool:=decide (W7.bitAnd (x/2^k) 1=1)
def tL(n m:Nat):G Nat:=(Wk n).filter (Q3 m)
def NX:∀n,n<4->∀a,a<2^n->∀b,b<2^n->tL n a=tL n b->a=b:=by left
theorem ny(p:α->Bool):∀l:G α,pJ (l.map λc=>Wn.bool (p c))=R (l.map p)
 |[]=>rfl
 |c::r=>by show(pJ (r.map λc=>Wn.bool (p c))).map (p c::·)=_;rw[ny p r];rfl
def rE(p:α->Bool)(l:G α):yr [.list (l.map λc=>Wn.bool (p c))]=-(.bool (l.all p)):=by show(pJ _).map (λbs=>RV.fz (.bool (bs.all id)))=_;rw[ny];show R (RV.fz (.bool _))=_;rw[aij];rfl
abbrev E7(c:Int)(n:Nat)(e:G Mn)(cs:G (G Nat×Nat))(a b d:I PV):bC:=[zf (.int c),zf (nd n),zf (mF e),zo (cs.map iz),a,b,d]
def G0(c:Int)(n:Nat)(V:n<4)(D:br Mn)(hl:D.length=n):∃cs,CsV D cs/\cs.length<=4/\iQ [.int c,nd n,mF D]=.ok (.fz (.tuple (cs.map iz))):=by
 let p8:2^n<=8:=Xo (Nat.pow_le_pow_right () (show n<=3 by ext)) ();let rgm:gW [nd (2^n)]=lD (bN (Wk (2^n))):=iG ();let rgn:gW [nd n]=lD (bN (Wk n)):=iG ();let X:=M3 n ();let E:∃rv,gI 7 iM [.int c,nd n,mF D]=.ok rv/\∃cs,CsV D cs/\cs.length<=4/\rv=.fz (.tuple (cs.map iz)):=by
  show ng W ?_;ext iM;show d9 (ρ3:=E7 c n D [] Wh Wh Wh) (by ext:0) W W ?_;show pI (λi ρ=>∃(cs:br (br Nat×Nat)) (A p o:bP PV),CsV D cs/\cs.length<=4/\(∀s∈cs.map (·.1),∃m,m<i/\m<2^n/\s=tL n m)/\ρ=E7 c n D cs A p o) (by ext:0) #[[],Wh,Wh,Wh,CsV.nil _,Xq _,(λs F=>by ext F),W] ?_ ?_
  .rintro i d ρ hi ⟨cs,A,p,o,g,y,v,rfl⟩
   let(k,hk,rfl):=lw hi;let(rfl,e):=ri hk;show#[E7 c n D cs (zf (nd k)) p o,W,?_];let f:mv (fu (gN 0) (a9 (aW eR (aW EA (aW OZ (aa 1) (aa 0)) (~~~1)) (~~~1))) (aa 0) (bN (Wk n)) [Wh,-(nd k)] [])=.ok ((tL n k).map nd):=zd nd nd (Q3 k) (Wk n) (by rw[Wy];ext) W (λj r=>by let Z:=UA (k:Int) j;let Y:EA (.int ((k:Int)/2^j)) (.int 1)=-(.int (W7.bitAnd ((k:Int)/2^j) 1)):=W;show ci (aK (aK (aK (af W) (af W) W W Z) aQ W W Y) aQ W W (ko _ _)) W) λj _ _=>af W;let N:(tL n k).Pairwise (·<·):=aiZ _ aet;let P:∀j∈tL n k,j<n:=λj r=>Xz.mp (YZ.mp r).1;let U:(tL n k).length<=n:=by let:=abq (Q3 k) (Wk n);rw[Wy]at this;show this
   let O:tL n k∉cs.map (·.1):=λz=>by let(m,m1,C,B):=v _ z;let:=NX n V k e m C B;ext
   let b:∀s∈cs.map (·.1),∃m,m<k+1/\m<2^n/\s=tL n m:=λs F=>by let(m,m1,C,B):=v s F;show#[m,by ext,C,B]
   let Q:∃m,m<k+1/\m<2^n/\tL n k=tL n m:=#[k,by ext,e,W];generalize tL n k=s at f N P U O Q;show d9 (eA (aq (eN (by ext:0) W f) aH) W W) W W ?_;let G:cO [.tuple (bN s)]=-(nd s.length):=(mM _).trans (by rw[iC]);let L:mv (fu (gN 0) c9 (aW eR (aW bB (aW bB (aa 1) (aa 0)) (~~~0)) (pC (.str "letter"))) (bN s) [Wh,-(mF D)] [])=.ok (s.map λj=>.bool (Ir D j)):=jm nd (λj=>.bool (Ir D j)) s () W (λj r=>by let(d,e1,w,e2,e3):=SX (l0:=D) (k:=j) (by let:=P j r;ext);show aK (aK (aK (af W) (af W) W W e1) aQ W W e2) aQ W W e3);show d9 (yp (ci (aK (eA (aq (af W) aH) W G) aQ W W (xu _ _)) W) λ_=>eA (aq (eN (by ext:0) W L) aH) W (rE _ _)) W W ?_;let(t,K,ht):=gx c (20+k) 3 () ();let K:=K;let(u,J,hu):=gx c (40+k) 4 () ();let J:=J;let(l,M,el):=Kg (z:= "abcz") [0,1,2,25] (by left) (by left) () (show(0:Int)<=(u:Int) by ext) (show(u:Int)<4 by ext);let H:cO [.list (cs.map iz)]=-(nd cs.length):=(gr _).trans (by rw[Wg]);generalize hg:(decide ((1:Int)<(s.length:Int))&&s.all (Ir D))=gd;show Kj
    (yO (ci (af W) W) λ_=>yO (ci (aK (eA (aq (hJ W) aH) W H) aQ W W (rR _ _)) W) λ_=>ci (aK (cI (aq (af W) (aq (aK aQ (af W) W W (gJ _ _)) (aq aQ aH))) W W K) aQ W W (ko _ _)) W) (λq=>?_) λ_=>zZ #[cs,_,_,_,g,y,b,W]
   rw[WU,WU]at q;let(I,R,_):=q;let R:=a6 R;rw[<-hg,WU,YS]at I;let g3:=a6 I.1;show nY (u0 W (hW (aq (af W) (aq (aK aQ (cI (aq (af W) (aq (aK aQ (af W) W W (gJ _ _)) (aq aQ aH))) W W J) W W el) aH)) W (Wx W)) W W (by rw[Wg];ext) (by show _=[zf (.int c),zf (nd n),zf (mF D),zo ((cs++[(s,l)]).map iz),_,_,_];rw[WI];rfl)) #[cs++[(s,l)],_,_,_,g.add () N I.2 M O,by rw[Wm];show cs.length+1<=4;ext,λx a=>by
    rw[WI,Xn]at a;rcases a with a|a
    .show b x a
    .rw[WO.mp a];show Q,W]
  .rintro ρ ⟨cs,A,p,o,g,y,v,rfl⟩;show fJ (eA (aq (hJ W) aH) W W) W #[cs,g,y,W]
 let(rv,h,cs,T,S,rfl):=E;show#[cs,T,S,h]
def Ub(h:1<=n)(g:n<=5)(j:rs.length<=3)(b:rs[0]?=R m)(i:VL n rs.length rs)(a:CsV m cs)(l:cs.length<=4)(f:1<=w)(e:w<=4):VB #[n,rs,cs,w]:=by
 cases rs with
 |nil=>ext b
 |cons x r=>cases WE b;show#[h,g,by show 1<=r.length+1;ext,j,i,l,a.vc,a.un,f,e]
abbrev E9(ns:G Int)(a n:Nat)(c:Int)(g:Nat)(h f e b:I PV):bC:=[zf (.list (ns.map .int)),zf (nd a),zf (nd n),zf (.int c),zf (nd g),h,f,e,b]
def V5{n:Nat}(a:n=1\/n=2\/n=3):∃w:Nat,0<w/\w<=4/\bB (.list [.int 4,.int 4,.int 2]) (.int ((n:Int) - 1))=-(nd w):=by
 rcases a with rfl|rfl|rfl
 .show#[4,by decide,by decide,NH () W]
 .show#[4,by decide,by decide,NH () W]
 .show#[2,by decide,by decide,NH () W]
def V6{r:Nat}(a:r<5):∃w:Nat,1<=w/\w<=3/\bB (.list [.int 1,.int 2,.int 2,.int 2,.int 3]) (nd r)=-(nd w):=by
 let:r=0\/r=1\/r=2\/r=3\/r=4:=by ext
 rcases this with rfl|rfl|rfl|rfl|rfl
 .show#[1,by decide,by decide,qM W]
 .show#[2,by decide,by decide,qM W]
 .show#[2,by decide,by decide,qM W]
 .show#[2,by decide,by decide,qM W]
 .show#[3,by decide,by decide,qM W]
def Po(ns:G Int):∃n:Nat,(n=1\/n=2\/n=3)/\j8 [.list (ns.map .int)]=.ok (.fz (nd n)):=by
 let(c,a):=lO ns 0;let a:bJ [.list (ns.map .int),.int 0]=.ok (.fz (.int c)):=a;let(r,er,e):=gx c 1 4 () ();let er:aV [.int c,.int 1,.int 4]=.ok (.fz (nd r)):=er;obtain⟨n,f,b⟩:∃n:Nat,(n=1\/n=2\/n=3)/\bB (.list [.int 1,.int 2,.int 2,.int 3]) (nd r)=-(nd n):=by
  let:r=0\/r=1\/r=2\/r=3:=by ext
  rcases this with rfl|rfl|rfl|rfl
  .show#[1,by decide,qM W]
  .show#[2,by decide,qM W]
  .show#[2,by decide,qM W]
  .show#[3,by decide,qM W]
 show#[n,f,jL (ρ:=[zf (.list (ns.map .int))]) W (fJ (pv:=.fz (nd n)) (rv:=.fz (nd n)) (ρ1:=[zf (.list (ns.map .int))]) (aK (rv:=.fz (nd n)) (by ext:0) (cI (rv:=.fz (nd r)) (ds:=[.int c,.int 1,.int 4]) (aq (cI (rv:=.fz (.int c)) (ds:=[.list (ns.map .int),.int 0]) (aq (af W) (aq aQ aH)) W W a) (aq aQ (aq aQ aH))) W W er) W W b) W W)]
def Q1(ns:br Int)(a n:Nat)(s:n=1\/n=2\/n=3):∃b:Bd,VB b/\b.n=n/\lc [.list (ns.map .int),nd a,nd n]=.ok (.fz (bD b)):=by
 let(l,e0):=lO ns a;let(S,R,h5):=gx l 5 5 () ();let R:aV [.int l,.int 5,.int 5]=.ok (.fz (nd S)):=R;let(g,l1,l3,el):=V6 h5;let(w,X,w4,ew):=V5 s;let(A,P,h6):=gx l 6 w () X;let P:aV [.int l,.int 6,nd w]=.ok (.fz (nd A)):=P;let(I,z):=lO ns (a+10);let z:bJ [.list (ns.map .int),.int ((a:Int)+10)]=.ok (.fz (.int I)):=z;let n1:(1:Int)<=(n:Int):=by rcases s with rfl|rfl|rfl<;>decide
 let n3:(n:Int)<=3:=by rcases s with rfl|rfl|rfl<;>decide
 let Z:gW [nd n]=lD (bN (Wk n)):=iG ();let rgl:gW [nd g]=lD (bN (Wk g)):=iG ();let M:∃rv,gI 9 l8 [.list (ns.map .int),nd a,nd n]=.ok rv/\∃b:Bd,(VB b/\b.n=n)/\rv=.fz (bD b):=by
  show ng (T:=λrv=>∃b:Bd,(VB b/\b.n=n)/\rv=.fz (bD b)) (ρ:=[zf (.list (ns.map .int)),zf (nd a),zf (nd n),Wh,Wh,Wh,Wh,Wh,Wh]) W ?_;ext l8;show d9 (ρ3:=[zf (.list (ns.map .int)),zf (nd a),zf (nd n),zf (.int l),Wh,Wh,Wh,Wh,Wh]) (by ext:0) W W ?_;show d9 (ρ3:=E9 ns a n l g Wh Wh Wh Wh) (aK (rv:=.fz (nd g)) (by ext:0) (cI (rv:=.fz (nd S)) (ds:=[.int l,.int 5,.int 5]) (aq (af W) (aq aQ (aq aQ aH))) W W R) W W el) W W ?_;show d9 (ρ3:=E9 ns a n l g (zo []) Wh Wh Wh) (by ext:0) W W ?_;show pI (λi ρ=>∃(e:br (br Mn)) (E C:bP PV),e.length=i/\VL n g e/\ρ=E9 ns a n l g (zo (e.map mF)) E C Wh) (ds:=bN (Wk g)) (ρ1:=E9 ns a n l g (zo []) Wh Wh Wh) (by ext:0) #[[],Wh,Wh,W,(λj r h=>by ext h),W] ?_ ?_
  .rintro i d ρ hi ⟨e,E,C,F,H,rfl⟩
   let(L,hL,rfl):=lw hi;let(rfl,hin):=ri hL;show#[E9 ns a n l g (zo (e.map mF)) (zf (nd L)) C Wh,W,?_];let mu:jK (nd n) (nd L)=-(.int ((n:Int)*L)):=rh #[by ext,by ext];let(xs,c1,c2,c3):=qJ (gt:=gN 0) (ft:=c9) (fe:=eE bJ 2 {aa 1,aW dC (aW dC (aW dC (aa 2) (~~~1)) (aW jK (aa 3) (aa 4))) (aa 0)}) (ds:=bN (Wk n)) (ρ:=[Wh,zf (.list (ns.map .int)),zf (nd a),zf (nd n),zf (nd L)]) (λρ=>∃o,ρ=[o,zf (.list (ns.map .int)),zf (nd a),zf (nd n),zf (nd L)]) (λ_ x=>∃y:Int,x=.int y/\True) #[Wh,W] (by rw[iC,Wy];ext) (by rintro j d v ρ ⟨o,rfl⟩;let(k,hk,rfl):=lw v;let(c,G):=lO ns (a+1+n*L+k);let G:bJ [.list (ns.map .int),.int ((a:Int)+1+(n:Int)*L+k)]=.ok (.fz (.int c)):=G;show#[.int c,_,HU (ρ1:=[zf (nd k),zf (.list (ns.map .int)),zf (nd a),zf (nd n),zf (nd L)]) W W (cI (rv:=.fz (.int c)) (ds:=[.list (ns.map .int),.int ((a:Int)+1+(n:Int)*L+k)]) (aq (af W) (aq (aK (rv:=.fz (.int ((a:Int)+1+(n:Int)*L+k))) (aK (rv:=.fz (.int ((a:Int)+1+(n:Int)*L))) (aK (rv:=.fz (.int ((a:Int)+1))) (af W) aQ W W (gJ _ _)) (aK (rv:=.fz (.int ((n:Int)*L))) (af W) (af W) W W mu) W W (gJ _ _)) (af W) W W (gJ _ _)) aH)) W W G) W W,#[_,W],c,W,trivial]);let(cs,rfl,_):=qE (f:=Wn.int) (Q:=λ_ (_:Int)=>True) xs 0 c3;rw[iC,Wy,Wg]at c2;show d9 (pv:=.ow (cs.map .int)) (ρ3:=E9 ns a n l g (zo (e.map mF)) (zf (nd L)) (zo (cs.map .int)) Wh) (eN (cs:=[.list (ns.map .int),nd a,nd n,nd L]) (ds:=bN (Wk n)) (by ext:0) W c1) W W ?_;let(U,c4,c5,c6):=qJ (gt:=gN 0) (ft:=c9) (fe:=eE fQ 3 {aa 0,aa 1,aa 2}) (ds:=cs.map .int) (ρ:=[Wh,zf (nd L),zf (nd g)]) (λρ=>∃o,ρ=[o,zf (nd L),zf (nd g)]) (λ_ x=>∃y:Mn,x=mD y/\VM L g y) #[Wh,W] (by rw[Wg];ext) (by
    rintro j d v ρ ⟨o,rfl⟩;obtain⟨c,rfl⟩:∃c:Int,d=.int c:=by
     rw[Wv]at v;cases q:cs[j]? with
     |none=>rw[q]at v;ext v
     |some x=>rw[q]at v;show#[x,(WE v).symm]
    let(m,J,em):=Op c L g l1 ();show#[mD m,_,HU (ρ1:=[zf (.int c),zf (nd L),zf (nd g)]) W W (cI (rv:=.fz (mD m)) (ds:=[.int c,nd L,nd g]) (aq (af W) (aq (af W) (aq (af W) aH))) W W em) W W,#[_,W],m,W,J])
   let(p,rfl,q6):=qE (f:=mD) (Q:=λ_ y=>VM L g y) U 0 c6;rw[Wg,Wg]at c5;let K:gO [.list (p.map mD)]=-(mF p):=W;let N:(e.map mF).length<1000000:=by rw[Wg];ext
   show nY (pv:=.fz .none) (ρ1:=E9 ns a n l g (zo (e.map mF++[mF p])) (zf (nd L)) (zf (.list (cs.map .int))) Wh) (u0 (pa:=.fz (mF p)) (d:=mF p) W (eA (rv:=.fz (mF p)) (ds:=[.list (p.map mD)]) (aq (eN (cs:=[nd L,nd g]) (ds:=cs.map .int) (iR (hJ W) W W) W c4) aH) W K) W W N W) #[e++[p],_,_,by rw[Wm,F];rfl,OS H () (λm hm=>?_),by rw[WI];rfl];let(t,ht):=Yz.mp hm;rw[F];show q6 t m ht
  .rintro ρ ⟨e,E,C,F,H,rfl⟩;rw[iC,Wy]at F;obtain⟨u,O⟩:∃u,e[0]?=lD u:=#[_,Wr (show 0<e.length by ext)];let hl0:=(H 0 u O).1;let(cs,J,Y,G):=G0 I n () u ();let i0:bB (.list (e.map mF)) (.int 0)=-(mF u):=NH () (by show(e.map mF)[0]?=_;rw[Wv,O];rfl);show d9 (ρ3:=E9 ns a n l g (zo (e.map mF)) E C (zf (.tuple (cs.map iz)))) (cI (rv:=.fz (.tuple (cs.map iz))) (ds:=[.int I,nd n,mF u]) (aq (cI (rv:=.fz (.int I)) (ds:=[.list (ns.map .int),.int ((a:Int)+10)]) (aq (af W) (aq (aK (rv:=.fz (.int ((a:Int)+10))) (af W) aQ W W (gJ _ _)) aH)) W W z) (aq (af W) (aq (aK (rv:=.fz (mF u)) (dx:=.list (e.map mF)) (hJ W) aQ W W i0) aH))) W W G) W W ?_;let K:gO [.list (e.map mF)]=-(.tuple (e.map mF)):=W;show fJ (pv:=.fz (bD #[n,e,cs,1+(A:Int)])) (rv:=.fz (bD #[n,e,cs,1+(A:Int)])) (ρ1:=E9 ns a n l g (zo (e.map mF)) E C (zf (.tuple (cs.map iz)))) (hW (ds:=[nd n,.tuple (e.map mF),.tuple (cs.map iz),.int (1+(A:Int))]) (aq (af W) (aq (eA (rv:=.fz (.tuple (e.map mF))) (ds:=[.list (e.map mF)]) (aq (hJ W) aH) W K) (aq (af W) (aq (aK (rv:=.fz (.int (1+(A:Int)))) aQ (cI (rv:=.fz (nd A)) (ds:=[.int l,.int 6,nd w]) (aq (af W) (aq aQ (aq (aK (rv:=.fz (nd w)) (dx:=.list [.int 4,.int 4,.int 2]) (by ext:0) (aK (rv:=.fz (.int ((n:Int) - 1))) (af W) aQ W W (vj _ _)) W W ew) aH))) W W P) W W (gJ _ _)) aH)))) W (Wx W)) W #[_,#[Ub n1 (Int.le_trans n3 ()) () O (by rw[F];show H) J Y () (),W],W]
 let(rv,h,b,(B,hb),rfl):=M;show#[b,B,hb,h]
section
variable{T Q:bK}{Z S Y U:bA}{x y z:SV}{i:Nat}{d:D}{X:br (D×D)}
def xC(h:Z[i]?=R (.dd X)):su Z (.rf i)=R (i,X):=by ext su;dsimp only;rw[h]
def Oc(a:f T Z=.ok x S)(hd:fd T S=.ok (.rf i) Y)(e:na x=R k)(b:Y[i]?=R (.dd X)):Fa neg f fd T Z=.ok (.fz (.bool ((jh X k).isSome !=neg))) Y:=by ext Fa;rw[a,eo,hd,eo,e];show((RS.Xu Y (su Y (.rf i))).bind _)=_;rw[xC b];rfl
def Kk(hd:fd T Z=.ok (.rf i) S)(a:g T S=.ok x Y)(f:na x=R k)(e:Y[i]?=R (.dd X))(b:jh X k=R d):wA fd g T Z=.ok (.fz d) Y:=by ext wA;rw[hd,eo,a,eo,f];show((RS.Xu Y (su Y (.rf i))).bind _)=_;rw[xC e];show((RS.Xu Y (jh X k)).bind _)=_;rw[b];rfl
def KJ(a:h T Z=.ok (.fz d) S)(hd:fd T S=.ok (.rf i) Y)(e:j T Y=.ok x U)(g:na x=R k)(f:U[i]?=R (.dd X))(b:X.length<1000000):yE fd j h T Z=.ok (.nx T) (U.set i (.dd (rb X k d))):=by ext yE;rw[a,eo,hd,eo,e,eo,g];show((RS.Xu U (su U (.rf i))).bind _)=_;rw[xC f];show(if X.length<1000000 then _ else _)=_;rw[av b]
def qG(c:e T Z=.ok xs S)(b:xs.length=n)(a:F xs S=.ok x Y):nG F n e T Z=.ok x Y:=by ext nG;rw[c,eo,av b,a,BN]
end
def oZ{l r:bA}:(l++r)[l.length+t]?=r[t]? :=by rw[Xb (),aa3]
def uO{l r:bA}:(l++r).set (l.length+t) c=l++r.set t c:=by rw[List.set_append_right _ _ (),aa3]
structure Pl where
 p:D
 b:D
 e:D
def Gi(q:Pl):D:=.tuple [q.p,q.b,q.e]
def eK:G Pl->D->I Nat
 |[],_=>U
 |q::r,p=>if Wn.eqv q.p p=P then R 0 else(eK r p).map (·+1)
def fH:Nat->G Pl->G (D×D)
 |_,[]=>[]
 |k,q::r=>(q.p,nd k)::fH (k+1) r
theorem nQ:∀(k:Nat) (fs:G Pl) (p:D),jh (fH k fs) p=(eK fs p).map λi=>nd (k+i)
 |_,[],_=>rfl
 |k,q::r,p=>by
  let a:=nQ (k+1) r p;unfold jh at a⊢;unfold fH eK;rw[Xv];cases Wn.eqv q.p p with
  |true=>rfl
  |false=>dsimp only;rw[a,ax WM,Option.map_map];congr 1;funext i;show nd (k+1+i)=nd (k+(i+1));rw[Yj,acE 1 i]
theorem BX:∀(k:Nat) (fs:G Pl) (q:Pl),fH k (fs++[q])=fH k fs++[(q.p,nd (k+fs.length))]
 |k,[],q=>rfl
 |k,a::r,q=>by show(a.p,nd k)::fH (k+1) (r++[q])=(a.p,nd k)::(fH (k+1) r++[(q.p,nd (k+(r.length+1)))]);rw[BX (k+1) r q,Yj,acE 1 r.length]
theorem ui:∀(k:Nat) (fs:G Pl),(fH k fs).length=fs.length
 |_,[]=>rfl
 |k,q::r=>eh (·+1) (ui (k+1) r)
def GA(h:eK fs p=U):rb (fH 0 fs) p (nd fs.length)=fH 0 (fs++[#[p,b,e]]):=by
 let g:=nQ 0 fs p;rw[h]at g;unfold jh at g;let f:((fH 0 fs).find? λa=>Wn.eqv a.1 p)=U:=by
  cases q:(fH 0 fs).find? λa=>Wn.eqv a.1 p with
  |none=>rfl
  |some x=>rw[q]at g;ext g
 ext rb;rw[f,BX,Xt];rfl
def vU(h:eK fs q.p=U)(f:Wn.eqv q.p q.p=P):eK (fs++[q]) q.p=R fs.length:=by
 induction fs with
 |nil=>show(if Wn.eqv q.p q.p=P then R 0 else _)=_;rw[av f];rfl
 |cons a r b=>
  unfold eK at h;show(if Wn.eqv a.p q.p=P then R 0 else(eK (r++[q]) q.p).map (·+1))=_;by_cases e:Wn.eqv a.p q.p=P
  .rw[av e]at h;ext h
  .rw[ax e]at h⊢;rw[b (by cases k:eK r q.p with|none=>rfl|some _=>rw[k]at h;ext h)];rfl
def ut(h:LD.keyD p=P):Wn.eqv p p=P:=by
 show adl p (LD.kd_lay p ?_);cases p with
 |tuple xs=>unfold LD.keyD at h;rw[WU]at h;ext LD.kd;show h.1
 |_=>simp[LD.keyD]at h
def pF(m:Int)(j k:Nat):G (Str×SV):=[("most",.fz (.int m)),("found",.rf j),("numbers",.rf k)]
structure PSt(i j k:Nat)(m:Int)(fs:G Pl)(Z:bA):Prop where
 o:Z[i]?=R (.obj "Places" (pF m j k))
 f:Z[j]?=R (.lst ((fs.map Gi).map .fz))
 n:Z[k]?=R (.dd (fH 0 fs))
 jk:j≠k
 ij:i≠j
 ik:i≠k
 lt:fs.length<100000
def wW(j k:Nat)(fs:G Pl)(Z:bA):bA:=(Z.set k (.dd (fH 0 fs))).set j (.lst ((fs.map Gi).map .fz))
section
variable{i j k:Nat}{m:Int}{fs:br Pl}{Z:bA}{p b e:D}
def PSt.ent(h:PSt i j k m fs Z)(l:fs.length+1<100000):PSt i j k m (fs++[q]) (wW j k (fs++[q]) Z):=by
 let g:=(Wj.mp h.f).1;let a:=(Wj.mp h.n).1;show#[?_,?_,?_,h.jk,h.ij,h.ik,by rw[Wm];show l]
 .ext wW;rw[Xj (d3 h.ij),Xj (d3 h.ik)];show h.o
 .ext wW;rw[Xw (by rw[XQ];show g)]
 .ext wW;rw[Xj h.jk,Xw a]
def Ki:(pF m j k).lookup ("most":Str)=-(.int m):=by rfl
def xS:(pF m j k).lookup ("found":Str)=R (.rf j):=by rfl
def Bc:(pF m j k).lookup ("numbers":Str)=R (.rf k):=by rfl
def xL:(pF m j k).lookup ("enter":Str)=U:=by rfl
theorem L8(a:LD.keyD p=P):na (.fz p)=R p:=av a
def xa(h:PSt i j k m fs Z)(hm:L9.Up (.int m)=Wl)(O:m<=1000)(E:LD.keyD p=Wl):cx [.rf i,.fz p,.fz b,.fz e] Z=(match eK fs p with
  |some t=>.ok (.fz (nd t)) Z
  |none=>if m<=(fs.length:Int)then .er #["TooMany",[("most",.int m)]] Z else .ok (.fz (nd fs.length)) (wW j k (fs++[#[p,b,e]]) Z)):=by
 let w:=L8 E;let A:∀{a:bA},a[i]?=R (.obj "Places" (pF m j k))->a8 "Places" "numbers" (az 0) [R (.rf i),-(p),-(b),-(e)] a=.ok (.rf k) a:=λz=>cW (bf W) z Bc;let F:∀{a:bA},a[i]?=R (.obj "Places" (pF m j k))->a8 "Places" "found" (az 0) [R (.rf i),-(p),-(b),-(e)] a=.ok (.rf j) a:=λz=>cW (bf W) z xS;let B:∀{a:bA},a[i]?=R (.obj "Places" (pF m j k))->a8 "Places" "most" (az 0) [R (.rf i),-(p),-(b),-(e)] a=.ok (.fz (.int m)) a:=λz=>cW (bf W) z Ki;let u:∀{a:bA},ag (aa 1) [R (.rf i),-(p),-(b),-(e)] a=.ok (.fz p) a:=ai (af W);let g:=Oc (neg:=Wl) u (A h.o) w h.n;rw[nQ]at g;let get:∀{l:br Pl} {a:bA} {t:Nat},a[i]?=R (.obj "Places" (pF m j k))->a[k]?=R (.dd (fH 0 l))->eK l p=R t->ip (wA (a8 "Places" "numbers" (az 0)) (ag (aa 1))) [R (.rf i),-(p),-(b),-(e)] a=.ok (.rt (.fz (nd t))) a:=λK J I=>by show jb (Kk (A K) u w J ?_);rw[nQ,I];show R (nd (0+_))=_;rw[Xt]
 let v:=nk (au (F h.o) aL) (by ext aD;rw[dQ h.f];rfl) ((gr _).trans (by rw[Wg]));cases q:eK fs p with
 |some t=>rw[q]at g;show jN W ?_;show dD (jT (bG g) jo) (get h.o h.n q)
 |none=>
  rw[q]at g;dsimp only;by_cases r:m<=(fs.length:Int)
  .rw[av r]
   let y:=bG (dM v (B h.o) (cZ ((B3 _ _).trans (by rw[aE r]))));show dL 4 eW _ _=_;ext dL;show((eW [R (.rf i),-(p),-(b),-(e)] Z).bind _)=_;let N:eW [R (.rf i),-(p),-(b),-(e)] Z=.er #["TooMany",[("most",.int m)]] Z:=by ext eW;ext aX;rw[iU (bG g) W,iU y W,Hf (B h.o) hm];rfl
   rw[N];rfl
  .rw[ax r]
   let y:=bG (dM v (B h.o) (cZ ((B3 _ _).trans (by rw[aP r]))));let C:=KJ v (A h.o) u w h.n (by rw[ui];let:=h.lt;ext);rw[GA q]at C;let L:(Z.set k (.dd (fH 0 (fs++[#[p,b,e]]))))[i]?=R (.obj "Places" (pF m j k)):=(Xj (d3 h.ik)).trans h.o;let G:(Z.set k (.dd (fH 0 (fs++[#[p,b,e]]))))[j]?=R (.lst ((fs.map Gi).map .fz)):=(Xj (d3 h.jk)).trans h.f;let H:=vA (fe:=ag (df {aa 1,aa 2,aa 3})) (x:=.fz (Gi #[p,b,e])) (F L) G (ai (hW (aq (af W) (aq (af W) (aq (af W) aH))) W (Wx W))) G (by rw[Wg,Wg];let:=h.lt;ext);let M:(Z.set k (.dd (fH 0 (fs++[#[p,b,e]])))).set j (.lst ((fs.map Gi).map SV.fz++[.fz (Gi #[p,b,e])]))=wW j k (fs++[#[p,b,e]]) Z:=by ext wW;rw[WI,WI];rfl
   rw[M]at H;let P:=h.ent (q:=#[p,b,e]) ();show jN W ?_;show dD (iU (bG g) (dD (jT y jo) (dD C (iH H)))) (get P.o P.n (vU q (ut E)))
end
def oY(Z:bA)(m:Int)(fs:G Pl)(J:bA):bA:=Z++(Cell.obj "Places" (pF m (Z.length+1) (Z.length+2)):: .lst ((fs.map Gi).map .fz):: .dd (fH 0 fs)::J)
theorem CQ(h:fs.length<100000):PSt Z.length (Z.length+1) (Z.length+2) m fs (oY Z m fs J):=
 #[by let:=oZ (l:=Z) (r:=Cell.obj "Places" (pF m (Z.length+1) (Z.length+2)):: .lst ((fs.map Gi).map .fz):: .dd (fH 0 fs)::J) (t:=0);show this,oZ,oZ,by ext,by ext,by ext,h]
def Fr:wW (Z.length+1) (Z.length+2) a (oY Z m fs J)=oY Z m a J:=by unfold wW oY;rw[uO,uO];rfl
def TM(m:Int):Xc:=#["TooMany",[("most",.int m)]]
def A4(a:0<=m)(h:m<=1000):L9.Up (.int m)=P:=by show aE (acf (Nat.log2_le_self m.natAbs) ?_);ext
def JZ(l:LD.keyD p=Wl)(j:0<=m)(f:m<=1000):dW [.rf Z.length,.fz p,.fz (.int m)] (Z++[.obj "Places" []])=if m<=0 then .er (TM m) (oY Z m [] [])else .ok (.fz .none) (oY Z m [#[p,.none,.none]] []):=by
 let i:fM "Places" "most" (az 0) (ag (aa 2)) [R (.rf Z.length),-(p),-(.int m)] (Z++[.obj "Places" []])=.ok (.nx [R (.rf Z.length),-(p),-(.int m)]) (Z++[.obj "Places" [("most",.fz (.int m))]]):=
  (lB (ai (af W)) (bf W) aO ()).trans (by rw[fG];rfl)
 let h:fM "Places" "found" (az 0) (ag (di aC)) [R (.rf Z.length),-(p),-(.int m)] (Z++[.obj "Places" [("most",.fz (.int m))]])=.ok (.nx [R (.rf Z.length),-(p),-(.int m)]) (Z++[.obj "Places" [("most",.fz (.int m)),("found",.rf (Z.length+1))],.lst []]):=by show(lB (d5 (by ext:0)) (bf W) (by rw[WY];show oZ (t:=0)) (Wx W)).trans ?_;rw[WY,show Z.length=Z.length+0 from rfl,uO,Wm];rfl
 let g:fM "Places" "numbers" (az 0) Ag [R (.rf Z.length),-(p),-(.int m)] (Z++[.obj "Places" [("most",.fz (.int m)),("found",.rf (Z.length+1))],.lst []])=.ok (.nx [R (.rf Z.length),-(p),-(.int m)]) (oY Z m [] []):=by show(lB W (bf W) (by rw[WY];show oZ (t:=0)) (Wx W)).trans ?_;rw[WY,show Z.length=Z.length+0 from rfl,uO,Wm];rfl
 let P:PSt Z.length (Z.length+1) (Z.length+2) m [] (oY Z m [] []):=CQ ();let n:=xa (b:=.none) (e:=.none) P (A4 j f) f l;let a:=E4 (F:=cx) (fo:=az 0) (fa:=am (ag (aa 1)) (am (ag (pC .none)) (am (ag (pC .none)) aJ))) (ρ:=[R (.rf Z.length),-(p),-(.int m)]) (bf W) P.o xL (au (ai (af W)) (au (ai aQ) (au (ai aQ) aL))) W;rw[n]at a;let a:sW "Places" "enter" cx 4 (az 0) (am (ag (aa 1)) (am (ag (pC .none)) (am (ag (pC .none)) aJ))) [R (.rf Z.length),-(p),-(.int m)] (oY Z m [] [])=if m<=0 then .er (TM m) (oY Z m [] [])else .ok (.fz (nd 0)) (wW (Z.length+1) (Z.length+2) [#[p,.none,.none]] (oY Z m [] [])):=a
 rw[Fr]at a;show dL 3 d7 _ _=_;ext dL;show((d7 [R (.rf Z.length),-(p),-(.int m)] (Z++[.obj "Places" []])).bind _)=_;ext d7;rw[dD i W,dD h W,dD g W];ext cr;rw[a];split<;>rfl
theorem oi:∀{l:G α},(∀a∈l,LD.kd (f a)=P)->LD.kds (l.map f)=P
 |[],_=>by rw[Zi,LD.kds]
 |a::r,h=>by rw[WL,LD.kds,h a WK,oi λx b=>h x (WH _ b)];rfl
theorem FX:∀b:G Nat,LD.kds (bN b)=P:=λb=>oi λa _=>by show LD.kd (.int a)=P;rw[LD.kd]
def Qq(h:LB m):LD.kd (mD m)=P:=by
 cases m with
 |Xs c=>show LD.kd (.tuple [.str "letter",.str (mh c)])=P;simp only[LD.kd,LD.kds];rw[pX h,show Wn.strOk "letter"=P by left];rfl
 |Y8 n=>show LD.kd (.tuple [.str "layer",.int n])=P;simp only[LD.kd,LD.kds];rw[show Wn.strOk "layer"=P by left];rfl
 |tap c n=>show LD.kd (.tuple [.str "tap",.str (mh c),.int n])=P;simp only[LD.kd,LD.kds];rw[pX h,show Wn.strOk "tap"=P by left];rfl
 |once n=>show LD.kd (.tuple [.str "once",.int n])=P;simp only[LD.kd,LD.kds];rw[show Wn.strOk "once"=P by left];rfl
 |none=>show LD.kd (.tuple [.str "none"])=P;simp only[LD.kd,LD.kds];rw[show Wn.strOk "none"=P by left];rfl
 |below=>show LD.kd (.tuple [.str "below"])=P;simp only[LD.kd,LD.kds];rw[show Wn.strOk "below"=P by left];rfl
def Ua(h:SW b s):LD.kd (eY s)=P/\Wn.depth (eY s)<=4:=by
 let j:LD.kds ((jC s.ac).map pD)=P:=oi λq l=>by show LD.kd (.tuple [nd q.1,mD q.2])=P;simp only[LD.kd,LD.kds];rw[Qq (h.sa.ac _ _ (iO.mp l).2).2.lb];rfl
 let o:∀m:Mn,Wn.depth (mD m)<=1:=λm=>by ext m<;>show Wx W
 let p:Wn.depthAll ((jC s.ac).map pD)<=2:=rF λq _=>by show max 0 (max (Wn.depth (mD q.2)) 0)+1<=2;let:=o q.2;ext
 let f:LD.kd (lY s.wt)=P/\Wn.depth (lY s.wt)<=2:=by
  cases q:s.wt with
  |none=>show#[by show LD.kd .none=P;rw[LD.kd],Xq _]
  |some x=>
   let(a,g,w):=x;let v:=(h.wt a g w q).1;constructor
   .show LD.kd (.tuple [.tuple (bN a),.int g,wO w])=P
    simp only[LD.kd,LD.kds];rw[FX];cases w with
    |none=>show(P&&(P&&(LD.kd (.tuple [.str "chord"])&&P)))=P;simp only[LD.kd,LD.kds];rw[show Wn.strOk "chord"=P by left];rfl
    |some i=>let(c,n):=i;let lb:LB (.tap c n):=(v.tp c n W).1;show(P&&(P&&(LD.kd (mD (.tap c n))&&P)))=P;rw[Qq lb];rfl
   .show max (Wn.depthAll (bN a)+1) (max 0 (max (Wn.depth (wO w)) 0))+1<=2
    rw[oh];cases w with
    |none=>show Wx W
    |some i=>show Wx W
 let e:LD.kd (wE s.oc)=P/\Wn.depth (wE s.oc)=0:=by cases s.oc<;>show#[by show LD.kd _=P;ext wE;simp only[LD.kd],W]
 constructor
 .show LD.kd (.tuple [.tuple ((jC s.ac).map pD),lY s.wt,wE s.oc])=P;simp only[LD.kd,LD.kds];rw[j,f.1,e.1];rfl
 .show max (Wn.depthAll ((jC s.ac).map pD)+1) (max (Wn.depth (lY s.wt)) (max (Wn.depth (wE s.oc)) 0))+1<=4;rw[e.2];let:=f.2;ext
def sf(h:SW b s):LD.keyD (eY s)=P:=by let(a,e):=Ua h;unfold eY at a e⊢;rw[LD.kd]at a;rw[LD.keyD];rw[a,aE (show _<=8 by ext)];rfl
def bE(n:Nat):G Evn:=(Wk n).map .down++(Wk n).map .up++[.turn]
def wo{b:Bd}{n:Nat}(c:b.n=n):∀e∈bE n,EV b e:=by
 intro e a;rcases Xn.mp a with a|a
 .rcases Xn.mp a with a|a
  .let(k,f,rfl):=Xe.mp a;let:=Xz.mp f;show(k:Int)<b.n;ext
  .let(k,f,rfl):=Xe.mp a;let:=Xz.mp f;show(k:Int)<b.n;ext
 .rw[WO.mp a];trivial
theorem N7(h:xs.length+a.length<=1000000):dC (.list xs) (.list a)=R (.ow (xs++a)):=av h
theorem Ud(b:Bd):bB (bD b) (.int 0)=-(.int b.n):=jF
def Mw{b:Bd}{n:Nat}(c:b.n=n)(l:n<=5):fO [bD b]=.ok (.ow ((bE n).map cP)):=by
 let i:gW [.int b.n]=R (bN (Wk n)):=by rw[c];show iG ()
 let j:=Ud b;let a:(Wk n).length<=1000:=by rw[Wy];ext
 let f:mv (fu (gN 0) c9 (df {pC (.str "down"),aa 0}) (bN (Wk n)) [U] [])=.ok ((Wk n).map λk=>cP (.down k)):=jm nd (λk=>cP (.down k)) (Wk n) a W λk _=>hW (aq aQ (aq (af W) aH)) W (Wx W);let e:mv (fu (gN 0) c9 (df {pC (.str "up"),aa 0}) (bN (Wk n)) [U] [])=.ok ((Wk n).map λk=>cP (.up k)):=jm nd (λk=>cP (.up k)) (Wk n) a W λk _=>hW (aq aQ (aq (af W) aH)) W (Wx W);let h:dC (.list ((Wk n).map λk=>cP (.down k))) (.list ((Wk n).map λk=>cP (.up k)))=R (.ow (((Wk n).map λk=>cP (.down k))++(Wk n).map λk=>cP (.up k))):=N7 (by rw[Wg,Wg];ext);let g:dC (.list (((Wk n).map λk=>cP (.down k))++(Wk n).map λk=>cP (.up k))) (.list [cP .turn])=R (.ow ((bE n).map cP)):=(N7 (by rw[Wm,Wg,Wg];show _+1<=_;ext)).trans (by ext bE;rw[WI,WI,WQ,WQ];rfl);show jL W ?_;ext nV;show d9 (eN (by ext:0) W f) W W ?_;show d9 (eN (by ext:0) W e) W W ?_;show fJ (aK (aK (hJ W) (hJ W) W W h) (mK (aq (hW (aq aQ (aq aQ aH)) W (Wx W)) aH) W (Wx W)) W W g) W W
section
variable{Y:bK}{Z Q:bA}{i:Nat}{S:dA}{T:SV->bA->Prop}{X:Xc->Prop}
def AA(h:Z[i]?=R (.lst xs)):ic Z (.rf i)=R (i,xs):=by ext ic;dsimp only;rw[h]
def OY(a:l Y Z=.ok (.rf i) Z)(h:Z[i]?=R (.lst xs))(b:Out (S Y Z) (λx c=>∃d,c[i]?=R (.lst d)/\d.length<1000000/\T (.fz .none) (c.set i (.lst (d++[x])))) X):Out (l6 l S Y Z) T X:=by
 show .eq (show l6 l S Y Z=(S Y Z).bind λx c=>(RS.Xu c (ic c (.rf i))).bind λp j=>if p.2.length<1000000 then .ok (.fz .none) (j.set p.1 (.lst (p.2++[x])))else .bad from ?_) (Out.bind (b.imp λx c k=>?_))
 .ext l6;rw[a,eo,AA h];rfl
 .let(d,g,f,e):=k;show .eq (r':=RS.ok (SV.fz .none) (c.set i (.lst (d++[x])))) ?_ #[e];rw[AA g];show(if d.length<1000000 then _ else _)=_;rw[av f]
def Pw(a:Out (S Y Z) (λx c=>∃ds,sh c x=R (.list ds)/\T (.fz (.tuple ds)) c) X):Out (kK gO (am S aJ) Y Z) T X:=by
 show .eq (show kK gO (am S aJ) Y Z=(S Y Z).bind λx c=>wL gO [x] c from ?_) (Out.bind (a.imp λx c k=>?_))
 .unfold kK am;cases S Y Z<;>rfl
 .let(ds,e,b):=k;show .eq (r':=RS.ok (SV.fz (.tuple ds)) c) ?_ #[b];unfold wL aD aD;rw[e];rfl
end
structure Rm where
 s:Za
 b:D
 e:D
def kI(r:Rm):Pl:=#[eY r.s,r.b,r.e]
def nA(fs:G Rm)(s:Za)(b e:D):G Rm:=if(eK (fs.map kI) (eY s)).isSome=P then fs else fs++[#[s,b,e]]
def gm(fs:G Rm)(s:Za):Nat:=(eK (fs.map kI) (eY s)).getD fs.length
def gR(b:Bd)(s:Za)(r:Nat)(fs:G Rm)(a:G Evn):G Rm:=a.foldl (λfs e=>nA fs (aZ b s e).1 (nd r) (cP e)) fs
def Ce{a:G Evn}(h:a[i]?=R e):gR b s r fs (a.take (i+1))=nA (gR b s r fs (a.take i)) (aZ b s e).1 (nd r) (cP e):=by ext gR;rw[YJ,h,acv];rfl
def On(fs:G Rm)(s:Za)(b e:D):fs<+:nA fs s b e:=by
 ext nA;split
 .show Zk _
 .show afA _ _
theorem ul:∀(a:G Evn) (fs:G Rm),fs<+:gR b s r fs a
 |[],fs=>Zk _
 |e::a,fs=>(On fs _ _ _).trans (ul a _)
def BI(a:G Evn)(fs:G Rm)(i:Nat):gR b s r fs (a.take i)<+:gR b s r fs a:=by
 let e:gR b s r fs a=gR b s r (gR b s r fs (a.take i)) (a.drop i):=by ext gR;rw[<-acv,List.take_append_drop]
 rw[e];show ul _ _
theorem tZ:∀{fs b:G Pl},eK fs p=R t->eK (fs++b) p=R t
 |[],_,h=>by ext h
 |a::r,b,h=>by
  unfold eK at h;show(if Wn.eqv a.p p=P then R 0 else(eK (r++b) p).map (·+1))=_;split
  .rename_i e;rw[av e]at h;show h
  .rename_i e
   rw[ax e]at h;cases q:eK r p with
   |none=>rw[q]at h;ext h
   |some j=>rw[q]at h;rw[tZ q];show h
def Ga(h:fs<+:b)(a:eK (fs.map kI) (eY s)=R t):gm b s=t:=by let(l,rfl):=h;ext gm;rw[WI,tZ a];rfl
theorem Rn(h:SW b s):Wn.eqv (eY s) (eY s)=P:=ut (sf h)
def uz(h:SW b s)(x y:D):eK ((nA fs s x y).map kI) (eY s)=R (gm fs s):=by
 unfold nA gm;cases q:eK (fs.map kI) (eY s)with
 |some t=>show eK (fs.map kI) (eY s)=_;rw[q];rfl
 |none=>show eK ((fs++[(#[s,x,y]:Rm)]).map kI) (eY s)=R fs.length;rw[WI];let:=vU (q:=#[eY s,x,y]) q (Rn h);rw[Wg]at this;show this
def Rq(h:SW b s)(e:∀r∈fs,SW b r.s):∀r∈nA fs s x y,SW b r.s:=by
 ext nA;split
 .show e
 .intro r a
  rcases Xn.mp a with a|a
  .show e r a
  .rw[WO.mp a];show h
theorem DA(a:VB b)(f:SW b s):∀(c:G Evn) (fs:G Rm),(∀e∈c,EV b e)->(∀r∈fs,SW b r.s)->∀q∈gR b s r fs c,SW b q.s
 |[],fs,_,hf=>hf
 |e::c,fs,he,hf=>DA a f c _ (λx g=>he x (WH _ g)) (Rq (lG a f (he e WK)) hf)
def cD(b:Bd)(a:G Evn):Nat->G Rm
 |0=>[#[Ti,.none,.none]]
 |i+1=>match(cD b a i)[i]? with
  |some r=>gR b r.s i (cD b a i) a
  |none=>cD b a i
def rQ(h:(cD b a i)[i]?=R r):cD b a (i+1)=gR b r.s i (cD b a i) a:=by show(match(cD b a i)[i]? with|some r=>gR b r.s i (cD b a i) a|none=>cD b a i)=_;rw[h]
def zF(h:(cD b a i).length<=i):cD b a (i+1)=cD b a i:=by show(match(cD b a i)[i]? with|some r=>gR b r.s i (cD b a i) a|none=>cD b a i)=_;rw[List.getElem?_eq_none h]
def BE(b:Bd)(a:G Evn)(i:Nat):cD b a i<+:cD b a (i+1):=by
 by_cases h:i<(cD b a i).length
 .rw[rQ (Wr h)];show ul _ _
 .rw[zF ()];show Zk _
def um(b:Bd)(c:G Evn)(i k:Nat):cD b c i<+:cD b c (i+k):=by
 induction k with
 |zero=>show Zk _
 |succ k a=>show a.trans (BE b c (i+k))
def NG(h:(cD b e N).length<=N)(k:Nat):cD b e (N+k)=cD b e N:=by
 induction k with
 |zero=>rfl
 |succ k a=>rw[<-Yj,zF (by rw[a];ext),a]
def pH(h:(cD b a N).length<=N)(i:Nat):(cD b a i).length<=(cD b a N).length:=by
 by_cases hi:i<=N
 .let(k,rfl):=Y9 hi;show(um b a i k).length_le
 .let(k,rfl):=Y9 (show N<=i by ext);rw[NG h];show Ww _
def z4(h:(cD b g N).length=N)(c:(cD b g f).length=f):N=f:=by let e:=pH (Zm h) f;let a:=pH (Zm c) N;ext
theorem lu(a:VB b)(f:∀e∈j,EV b e):∀i,∀r∈cD b j i,SW b r.s
 |0=>λr g=>by rw[WO.mp g];show yT b
 |i+1=>by
  by_cases h:i<(cD b j i).length
  .rw[rQ (Wr h)];show DA a (lu a f i _ (Yw h)) j _ f (lu a f i)
  .rw[zF ()];show lu a f i
def yf(b:Bd)(a:G Evn)(i:Nat):1<=(cD b a i).length:=by let:=(um b a 0 i).length_le;rw[Xt]at this;show this
theorem SQ(h:i<(cD b a i).length):i+1<=(cD b a (i+1)).length:=Xo h (BE b a i).length_le
def jY(b:Bd)(s:Za)(e:Evn):D:=.tuple [.list ((aZ b s e).2.map oU),eY (aZ b s e).1]
def pQ(b:Bd)(s:Za)(e:Evn):Cell:=.lst (((aZ b s e).2.map oU).map .fz)
def GB(b:Bd)(s:Za):Nat->G Evn->G SV
 |_,[]=>[]
 |n,e::r=>.tp [.rf n,.fz (eY (aZ b s e).1)]::GB b s (n+1) r
theorem Av(b:Bd)(s:Za):∀(c:G Evn) (n:Nat) (e:Evn),GB b s n (c++[e])=GB b s n c++[.tp [.rf (n+c.length),.fz (eY (aZ b s e).1)]]
 |[],n,e=>rfl
 |a::r,n,e=>by show _::GB b s (n+1) (r++[e])=_::(GB b s (n+1) r++_);rw[Av b s r (n+1) e,Yj,acE 1 r.length];rfl
theorem Gv(b:Bd)(s:Za):∀(a:G Evn) (n:Nat),(GB b s n a).length=a.length
 |[],_=>rfl
 |_::r,n=>eh (·+1) (Gv b s r (n+1))
theorem Gj(b:Bd)(s:Za):∀(k:G Evn) (Z j:bA),j4 (frz 3) (Z++(k.map (pQ b s)++j)) (GB b s Z.length k)=lD (k.map (jY b s),Z++(Wz k.length .dead++j))
 |[],Z,j=>rfl
 |e::r,Z,j=>by
  let g:(Z++(pQ b s e::(r.map (pQ b s)++j)))[Z.length]?=lD (pQ b s e):=oZ (t:=0);let i:frz 2 (Z++(pQ b s e::(r.map (pQ b s)++j))) (.rf Z.length)=lD (.list ((aZ b s e).2.map oU),Z++(.dead::(r.map (pQ b s)++j))):=by ext frz;rw[g];ext pQ;dsimp only;rw[t6];dsimp only;let:=uO (l:=Z) (r:=pQ b s e::(r.map (pQ b s)++j)) (t:=0) (c:=.dead);show eh (λz=>lD (Wn.list ((aZ b s e).2.map oU),z)) this
  let h:frz 3 (Z++(pQ b s e::(r.map (pQ b s)++j))) (.tp [.rf Z.length,.fz (eY (aZ b s e).1)])=lD (jY b s e,Z++(.dead::(r.map (pQ b s)++j))):=by
   let f:j4 (frz 2) (Z++(pQ b s e::(r.map (pQ b s)++j))) [.rf Z.length,.fz (eY (aZ b s e).1)]=lD ([.list ((aZ b s e).2.map oU),eY (aZ b s e).1],Z++(.dead::(r.map (pQ b s)++j))):=by ext j4;rw[i];rfl
   ext frz;rw[show([AV.rf Z.length,AV.fz (eY (aZ b s e).1)].map AV.sv)=[.rf Z.length,.fz (eY (aZ b s e).1)]from rfl,f];rfl
  let a:=Gj b s r (Z++[.dead]) j;rw[Wm,WY,WY]at a;show(match frz 3 (Z++(pQ b s e::(r.map (pQ b s)++j))) (.tp [.rf Z.length,.fz (eY (aZ b s e).1)])with
   |some (d,n)=>(match j4 (frz 3) n (GB b s (Z.length+1) r)with
    |some (ds,m)=>lD (d::ds,m)
    |none=>U)
   |none=>U)=_
  rw[h];dsimp only;rw[show Z++(Cell.dead::(r.map (pQ b s)++j))=Z++([Cell.dead]++(r.map (pQ b s)++j))from rfl,show Z.length+1=Z.length+[Cell.dead].length from rfl,a];rfl
def CF(m:VB b)(n:SW b s){c:G Evn}(r:∀e∈c,EV b e)(z:c.length<=1000)(w:ρ[0]?=R (-(bD b)))(v:ρ[2]?=R (-(.list (c.map cP))))(u:ρ[7]?=R (-(eY s))):
  ∃J,mw (eC 1 [0,7] (ii (gU (aa 2))) (dB 0) cF (AL STP.nO 3 (am (ag (aa 1)) (am (ag (aa 2)) (am (ag (aa 0)) aJ))))) ρ Z=.ok (.fz (.list (c.map (jY b s)))) (Z++J):=by
 let C:ii (gU (aa 2)) ρ Z=.ok (c.map cP) Z:=kP (iR (af (by ext cw;rw[Wv,v];rfl)) W W);let h:gj 1 [0,7] ρ=[U,-(bD b),-(eY s)]:=by ext gj;show U::[(ρ[0]?).join,(ρ[7]?).join]=_;rw[w,u];rfl
 let t:=jz (X:=λ_=>False) (gt:=dB 0) (ft:=cF) (fe:=AL STP.nO 3 (am (ag (aa 1)) (am (ag (aa 2)) (am (ag (aa 0)) aJ)))) (λi a l g=>∃o,a=[o,-(bD b),-(eY s)]/\l=Z++(c.take i).map (pQ b s)/\g=GB b s Z.length (c.take i)) (c.map cP) 0 (gj 1 [0,7] ρ) Z [] #[U,h,by rw[adA,Zi,W4],W] (by
  rintro i d a l g f ⟨o,rfl,rfl,rfl⟩;rw[Xt];rw[Wv]at f;cases q:c[i]? with
  |none=>rw[q]at f;ext f
  |some e=>
   rw[q]at f;cases WE f;let y:=(Wj.mp q).1;show#[by rw[Gv,XT];ext,[-(cP e),-(bD b),-(eY s)],W,W,?_];let p:xM STP.nO 3 [.fz (bD b),.fz (eY s),.fz (cP e)] (Z++(c.take i).map (pQ b s))=.ok (.tp [.rf (Z++(c.take i).map (pQ b s)).length,.fz (eY (aZ b s e).1)]) ((Z++(c.take i).map (pQ b s))++[pQ b s e]):=Uw m n (r e (WC q));show .eq (r':=RS.ok (SV.tp [.rf (Z++(c.take i).map (pQ b s)).length,.fz (eY (aZ b s e).1)]) ((Z++(c.take i).map (pQ b s))++[pQ b s e])) ?_ #[_,W,?_,?_]
   .ext AL;rw[au (ai (af W)) (au (ai (af W)) (au (ai (af W)) aL)),eo,p];rfl
   .rw[YJ,q,WI,WY];rfl
   .rw[YJ,q];show GB b s Z.length (c.take i)++_=GB b s Z.length (c.take i++[e]);rw[Av,Wm,Wg])
 let(xs,A,j,a,o,_,rfl,rfl):=t.all;rw[Xt,Wg,aaX]at j;let cm:=gy C j;let fz:frz 4 ((Z++c.map (pQ b s))++[Cell.lst (GB b s Z.length c)]) (.rf (Z++c.map (pQ b s)).length)=R (.list (c.map (jY b s)),(Z++(Wz c.length Cell.dead++[Cell.lst (GB b s Z.length c)])).set (Z++c.map (pQ b s)).length .dead):=by ext frz;rw[aO];dsimp only;rw[WY,Gj b s c Z [Cell.lst (GB b s Z.length c)]]
 rw[Wm,uO]at fz;show#[_,jQ cm (by rw[Wm];show fz)]
theorem GY(f g:α->D):∀l:G α,mf (l.map f) (l.map g)=l.map λx=>.tuple [f x,g x]
 |[]=>rfl
 |x::r=>by show Wn.tuple [f x,g x]::mf (r.map f) (r.map g)=_;rw[GY f g r];rfl
def HI{b:Bd}(B:VB b){s:Za}(C:SW b s){c:br Evn}(G:∀e∈c,EV b e)(D:c.length<=1000){ρ:bK}{Z J:bA}{m:Int}{r:Nat}{fs:br Rm}(I:0<=m)(E:m<=1000)(T:(fs.length:Int)<=m)
  (R:ρ[2]?=lD (-(.list (c.map cP)))) (Q:ρ[3]?=lD (lD (.rf Z.length))) (O:ρ[6]?=lD (-(nd r))) (N:ρ[8]?=lD (-(.list (c.map (jY b s))))):
  Out (vL 2 [3,6] (ii (zA {aa 2,aa 8})) (TB 2 (vP (dB 0) (vP (dB 1) Hc))) cF (sW "Places" "enter" cx 4 (az 2) (am (ag (aW bB (aa 1) (~~~1))) (am (ag (aa 3)) (am (ag (aa 0)) aJ)))) ρ (oY Z m (fs.map kI) J))
   (λx k=>x=.rf (oY Z m ((gR b s r fs c).map kI) J).length/\k=oY Z m ((gR b s r fs c).map kI) (J++[.lst ((c.map λe=>nd (gm (gR b s r fs c) (aZ b s e).1)).map .fz)])/\((gR b s r fs c).length:Int)<=m)
   (λx=>x=TM m/\m<((gR b s r fs c).length:Int)):=by
 let hi:ii (zA {aa 2,aa 8}) ρ (oY Z m (fs.map kI) J)=.ok (c.map λe=>.tuple [cP e,jY b s e]) (oY Z m (fs.map kI) J):=by
  let p2:(cw ρ)[2]?=lD (-(.list (c.map cP))):=by ext cw;rw[Wv,R];rfl
  let H:(cw ρ)[8]?=lD (-(.list (c.map (jY b s)))):=by ext cw;rw[Wv,N];rfl
  rw[<-GY];show kP (uw (d:=.list (c.map cP)) (e:=.list (c.map (jY b s))) (aq (af p2) (aq (af H) aH)) W W W)
 let A:gj 2 [3,6] ρ=[Wh,Wh,lD (.rf Z.length),-(nd r)]:=by ext gj;show Wh::Wh::[(ρ[3]?).join,(ρ[6]?).join]=_;rw[Q,O];rfl
 show D3 hi (Out.imp (jz (λi f k l=>∃v u,f=[v,u,lD (.rf Z.length),-(nd r)]/\k=oY Z m ((gR b s r fs (c.take i)).map kI) J/\l=((c.take i).map λe=>nd (gm (gR b s r fs c) (aZ b s e).1)).map .fz/\((gR b s r fs (c.take i)).length:Int)<=m) (c.map λe=>.tuple [cP e,jY b s e]) 0 (gj 2 [3,6] ρ) (oY Z m (fs.map kI) J) [] #[Wh,Wh,A,W,W,T] ?_) ?_)
 .rintro i d f k l j ⟨v,u,rfl,rfl,rfl,hle⟩
  rw[Xt]at hle⊢;rw[Wv]at j;cases q:c[i]? with
  |none=>rw[q]at j;ext j
  |some e=>
   rw[q]at j;cases WE j;let Y:=(Wj.mp q).1;let y:=G e (WC q);let g:=lG B C y;let rt:=Ce (b:=b) (s:=s) (r:=r) (fs:=fs) q;let h:=BI (b:=b) (s:=s) (r:=r) c fs (i+1);let S:=DA B C (r:=r) (c.take i) fs (λx M=>G x (List.mem_of_mem_take M));generalize hF:gR b s r fs (c.take i)=F at hle rt;show#[by rw[Wg,Wg,XT];ext,[-(cP e),-(jY b s e),lD (.rf Z.length),-(nd r)],W,W,?_];let K:(F.map kI).length<100000:=by rw[Wg];ext
   let P:PSt Z.length (Z.length+1) (Z.length+2) m (F.map kI) (oY Z m (F.map kI) J):=CQ K;let U:=xa (b:=nd r) (e:=cP e) P (A4 I E) E (sf g);let L:bB (jY b s e) (.int 1)=-(eY (aZ b s e).1):=lZ;let a:=E4 (n:=4) (m:= "enter") (F:=cx) (fo:=az 2) (fa:=am (ag (aW bB (aa 1) (~~~1))) (am (ag (aa 3)) (am (ag (aa 0)) aJ))) (ρ:=[-(cP e),-(jY b s e),lD (.rf Z.length),-(nd r)]) (xs:=[.fz (eY (aZ b s e).1),.fz (nd r),.fz (cP e)]) (bf W) P.o xL (au (ai (aK (rv:=.fz (eY (aZ b s e).1)) (af W) aQ W W L)) (au (ai (af W)) (au (ai (af W)) aL))) W;rw[U]at a;let w:=Ga h (s:=(aZ b s e).1) (t:=gm F (aZ b s e).1) (by rw[rt];show uz g _ _);let X:((c.take (i+1)).map λe=>nd (gm (gR b s r fs c) (aZ b s e).1)).map SV.fz=((c.take i).map λe=>nd (gm (gR b s r fs c) (aZ b s e).1)).map .fz++[.fz (nd (gm F (aZ b s e).1))]:=by rw[YJ,q,WI,WI];show _++[SV.fz (nd (gm (gR b s r fs c) (aZ b s e).1))]=_;rw[w]
   rw[X,rt];cases o:eK (F.map kI) (eY (aZ b s e).1)with
   |some t=>
    rw[o]at a;let p:nA F (aZ b s e).1 (nd r) (cP e)=F:=by ext nA;rw[o];rfl
    let z:gm F (aZ b s e).1=t:=by ext gm;rw[o];rfl
    rw[p,z];show .eq a #[_,_,W,W,W,hle]
   |none=>
    rw[o]at a;let p:nA F (aZ b s e).1 (nd r) (cP e)=F++[#[(aZ b s e).1,nd r,cP e]]:=by ext nA;rw[o];rfl
    let z:gm F (aZ b s e).1=F.length:=by ext gm;rw[o];rfl
    dsimp only at a;rw[Wg]at a;by_cases hm:m<=(F.length:Int)
    .rw[av hm]at a;show .eq a #[W,?_];let:=h.length_le;rw[rt,p,Wm]at this;let this:F.length+1<=_:=this;ext
    .rw[ax hm,Fr]at a;rw[p,z];show .eq a #[_,_,W,by rw[WI];rfl,W,?_];rw[Wm];show((F.length+1:Nat):Int)<=m;ext
 .rintro xs k ⟨f,v,u,_,rfl,rfl,hle⟩;rw[Xt,Wg,aaX] at*;show#[W,?_,hle];ext oY;rw[WY];rfl
def kT(h:Out r T X)(k:∀a Z,T a Z->T' a Z)(b:∀x,X x->X' x):Out r T' X':=by
 show#[?_];let h:=h.out;cases r with
 |bad=>show h
 |er x o=>show b x h
 |ok a o=>show k a o h
def Lc(b:Bd)(a:G Evn)(j:Nat):D:=match(cD b a j)[j]? with
 |some r=>.tuple (a.map λe=>nd (gm (cD b a (j+1)) (aZ b r.s e).1))
 |none=>.none
def zX(b:Bd)(a:G Evn)(j:Nat):D:=match(cD b a j)[j]? with
 |some r=>.tuple (a.map λe=>.tuple ((aZ b r.s e).2.map oU))
 |none=>.none
def jS(b:Bd)(a:G Evn)(n:Nat):G D:=(Wk n).map (Lc b a)
def bu(b:Bd)(a:G Evn)(n:Nat):G D:=(Wk n).map (zX b a)
def wD(Z:bA)(m:Int)(b:Bd)(a:G Evn)(n:Nat)(J:bA):bA:=oY Z m ((cD b a n).map kI) (.lst ((jS b a n).map .fz):: .lst ((bu b a n).map .fz)::J)
def ub:oY Z m fs (J++K)=oY Z m fs J++K:=by ext oY;rw[WY];rfl
def Gq:(oY Z m fs J).length=Z.length+3+J.length:=by ext oY;rw[Wm];show Z.length+(J.length+1+1+1)=_;ext
theorem V0{n:Nat}{v:SV}(h:xs[n]?=R v):m9 xs (n:Int)=R v:=yo () (by rw[XN];show h)
abbrev W9(b:Bd)(m:Int)(c:G Evn)(l:Nat)(f e a:I SV):bK:=[-(bD b),-(.int m),-(.list (c.map cP)),R (.rf l),R (.rf (l+3)),R (.rf (l+4)),f,e,a]
def uU(B:VB b){n:Nat}(k:b.n=n)(s:n<=5)(T:0<=m)(S:m<=1000)(a:bA):Out (iY [.fz (bD b),.fz (.int m)] a) (λv c=>∃N J,(cD b (bE n) N).length=N/\(N:Int)<=m/\v=.tp [.rf (a.length+2),.rf (a.length+4),.rf (a.length+5)]/\c=wD (a++[.dead]) m b (bE n) N J) (λx=>x=TM m/\∃i,m<((cD b (bE n) i).length:Int)):=by
 let p:(bE n).length<=1000:=by ext bE;rw[Wm,Wm,Wg,Wg,Wy];show n+n+1<=_;ext
 let l:=wo k;let ev:=Mw k s;generalize bE n=f at p l ev;show mG W ?_;ext v3;let e1:mw (ag (eE fO 1 {aa 0})) [-(bD b),-(.int m),Wh,Wh,Wh,Wh,Wh,Wh,Wh] a=.ok (.fz (.list (f.map cP))) (a++[.dead]):=by show jQ (d5 (cI (aq (af W) aH) W W ev)) ?_;rw[iE aO,fG]
 show dm e1 W ?_;let X:(a++[Cell.dead]).length=a.length+1:=by rw[Wm];rfl
 let r2:a.length+2=(a++[Cell.dead]).length+1:=by ext
 let r4:a.length+4=(a++[Cell.dead]).length+3:=by ext
 let r5:a.length+5=(a++[Cell.dead]).length+4:=by ext
 rw[r2,r4,r5];generalize a++[Cell.dead]=base;let R:=Ct (C:= "Places") (F:=dW) (fa:=am (ag (pC (.tuple [(.tuple []),.none,.none]))) (am (ag (aa 1)) aJ)) (ρ:=[-(bD b),-(.int m),-(.list (f.map cP)),Wh,Wh,Wh,Wh,Wh,Wh]) (Z:=base) (au (ai (d:=eY Ti) (show _=Res.ok (PV.fz (.tuple [.tuple [],.none,.none]),_)from aQ)) (au (ai (af W)) aL)) W;rw[JZ (sf (yT b)) T S]at R;show zx (.eq R ?_);by_cases hm:m<=0
 .rw[av hm];show#[W,0,by show m<1;ext]
 rw[ax hm];show Out.eq W #[?_];show mz _ _ _ _;show dm (ρ1:=[-(bD b),-(.int m),-(.list (f.map cP)),lD (.rf base.length),lD (.rf (base.length+3)),Wh,Wh,Wh,Wh]) ((d5 (by ext:0)).trans (by rw[Gq,<-ub];rfl)) W ?_;show dm (ρ1:=W9 b m f base.length Wh Wh Wh) ((d5 (by ext:0)).trans (by rw[Gq,<-ub];rfl)) W ?_;show mI (A8 (λn o Z=>∃J j h g,o=W9 b m f base.length j h g/\Z=wD base m b f n J/\n<=(cD b f n).length/\((cD b f n).length:Int)<=m) 1000 () #[[],Wh,Wh,Wh,W,W,Xq _,by show(1:Int)<=m;ext] ?_);rintro n o Z ⟨J,j,h,g,rfl,rfl,hle,hlm⟩;let L:=lu B l n;let lF:((cD b f n).map kI).length<100000:=by rw[Wg];ext
 let P:PSt base.length (base.length+1) (base.length+2) m ((cD b f n).map kI) (wD base m b f n J):=CQ lF;let g3:(wD base m b f n J)[base.length+3]?=lD (.lst ((jS b f n).map .fz)):=oZ;let Q:(jS b f n).length=n:=by ext jS;rw[Wg,Wy]
 let dl:(bu b f n).length=n:=by ext bu;rw[Wg,Wy]
 let z:∀{j h g:bP SV},kK cO (am (az 4) aJ) (W9 b m f base.length j h g) (wD base m b f n J)=.ok (.fz (nd n)) (wD base m b f n J):=nk (au (bf W) aL) (by ext aD;rw[dQ g3];rfl) ((gr _).trans (by rw[Q]));let I:∀{j h g:bP SV},a8 "Places" "found" (az 3) (W9 b m f base.length j h g) (wD base m b f n J)=.ok (.rf (base.length+1)) (wD base m b f n J):=cW (bf W) P.o xS;let M:kK cO (am (a8 "Places" "found" (az 3)) aJ) (W9 b m f base.length j h g) (wD base m b f n J)=.ok (.fz (nd (cD b f n).length)) (wD base m b f n J):=nk (au I aL) (by ext aD;rw[dQ P.f];rfl) ((gr _).trans (by rw[Wg,Wg]));let q:=bG (dM z M (cZ (rR (n:Int) ((cD b f n).length:Int))));by_cases y:n<(cD b f n).length
 case neg=>
  rw[aP ()]at q;show .inl #[_,q,?_];let nN:(cD b f n).length=n:=by ext
  show sI (P4 (au I (au (bf W) (au (bf W) aL))) (Wx W) W W) #[n,J,nN,by ext,W,W]
 case pos=>
  rw[aE ()]at q;show .inr #[by ext,_,q,?_];obtain⟨r,w⟩:∃r,(cD b f n)[n]?=lD r:=#[_,Wr y];let u:=L r (WC w);show dm (x:=.fz (nd n)) (ρ1:=W9 b m f base.length (-(nd n)) h g) z W ?_;let st:gL (gL (a8 "Places" "found" (az 3)) (ag (aa 6))) (ag (~~~0)) (W9 b m f base.length (-(nd n)) h g) (wD base m b f n J)=.ok (.fz (eY r.s)) (wD base m b f n J):=ck (dx:=Gi (kI r)) (wj I (ai (d:=nd n) (af W)) W P.f (V0 (by rw[Wv,Wv,Wv,w];rfl))) (ai aQ) jF;show dm (x:=.fz (eY r.s)) (ρ1:=W9 b m f base.length (-(nd n)) (-(eY r.s)) g) st W ?_;let(O,ha):=CF B u l p (ρ:=W9 b m f base.length (-(nd n)) (-(eY r.s)) g) (Z:=wD base m b f n J) W W W;show dm (x:=.fz (.list (f.map (jY b r.s)))) (ρ1:=W9 b m f base.length (-(nd n)) (-(eY r.s)) (-(.list (f.map (jY b r.s))))) ha W ?_;let eJ:wD base m b f n J++O=wD base m b f n (J++O):=by ext wD;rw[<-ub];rfl
  rw[eJ];generalize J++O=J;let A:=HI B u l p (ρ:=W9 b m f base.length (-(nd n)) (-(eY r.s)) (-(.list (f.map (jY b r.s))))) (Z:=base) (J:=.lst ((jS b f n).map .fz):: .lst ((bu b f n).map .fz)::J) (m:=m) (r:=n) (fs:=cD b f n) T S hlm W W W W;rw[<-rQ w]at A;let G:Lc b f n=.tuple (f.map λe=>nd (gm (cD b f (n+1)) (aZ b r.s e).1)):=by ext Lc;rw[w]
  let H:zX b f n=.tuple (f.map λe=>.tuple ((aZ b r.s e).2.map oU)):=by ext zX;rw[w]
  let E:jS b f (n+1)=jS b f n++[Lc b f n]:=by ext jS;rw[ZD,WI];rfl
  let K:bu b f (n+1)=bu b f n++[zX b f n]:=by ext bu;rw[ZD,WI];rfl
  let A:=kT A (T':=λx c=>∃ds,sh c x=lD (.list ds)/\(∃ys,c[base.length+3]?=lD (.lst ys)/\ys.length<1000000/\mz (cr (l6 (az 5) (ag (gq gO {eB 1 [] (gU (aa 8)) (gN 0) c9 (gq gO {aW bB (aa 0) (~~~0)})}))) (W9 b m f base.length (-(nd n)) (-(eY r.s)) (-(.list (f.map (jY b r.s))))) (c.set (base.length+3) (.lst (ys++[.fz (.tuple ds)])))) (λo Z=>∃J j h g,o=W9 b m f base.length j h g/\Z=wD base m b f (n+1) J/\n+1<=(cD b f (n+1)).length/\((cD b f (n+1)).length:Int)<=m) (λv c=>∃N J,(cD b f N).length=N/\(N:Int)<=m/\v=.tp [.rf (base.length+1),.rf (base.length+3),.rf (base.length+4)]/\c=wD base m b f N J) (λx=>x=TM m/\∃i,m<((cD b f i).length:Int)))) (X':=λx=>x=TM m/\∃i,m<((cD b f i).length:Int)) ?_ (λx U=>#[U.1,n+1,U.2])
  .show Mm (OY (i:=base.length+3) (bf W) (oZ (t:=3)) (Pw A))
  rintro x c ⟨rfl,rfl,hm'⟩;show#[f.map λe=>nd (gm (cD b f (n+1)) (aZ b r.s e).1),?_,(jS b f n).map .fz,oZ (t:=3),by rw[Wg,Q];ext,?_]
  .show dQ ?_;rw[ub];show aO
  .let w1:(oY base m ((cD b f (n+1)).map kI) ((.lst ((jS b f n).map .fz):: .lst ((bu b f n).map .fz)::J)++[.lst ((f.map λe=>nd (gm (cD b f (n+1)) (aZ b r.s e).1)).map .fz)])).set (base.length+3) (.lst ((jS b f n).map SV.fz++[.fz (.tuple (f.map λe=>nd (gm (cD b f (n+1)) (aZ b r.s e).1)))]))=oY base m ((cD b f (n+1)).map kI) (.lst ((jS b f (n+1)).map .fz):: .lst ((bu b f n).map .fz)::(J++[.lst ((f.map λe=>nd (gm (cD b f (n+1)) (aZ b r.s e).1)).map .fz)])):=by
    ext oY;rw[uO,E,G,WI];rfl
   rw[w1];generalize J++[Cell.lst ((f.map λe=>nd (gm (cD b f (n+1)) (aZ b r.s e).1)).map .fz)]=J;let cm:mv (fu (gN 0) c9 (gq gO {aW bB (aa 0) (~~~0)}) (f.map (jY b r.s)) [Wh] [])=.ok (f.map λe=>.tuple ((aZ b r.s e).2.map oU)):=jm (cp:=[]) (jY b r.s) (λe=>.tuple ((aZ b r.s e).2.map oU)) f p W λe _=>by let i0:bB (jY b r.s e) (.int 0)=-(.list ((aZ b r.s e).2.map oU)):=jF;show eA (rv:=.fz (.tuple ((aZ b r.s e).2.map oU))) (ds:=[.list ((aZ b r.s e).2.map oU)]) (aq (aK (rv:=.fz (.list ((aZ b r.s e).2.map oU))) (af W) aQ W W i0) aH) W W
   let Y:(oY base m ((cD b f (n+1)).map kI) (.lst ((jS b f (n+1)).map .fz):: .lst ((bu b f n).map .fz)::J))[base.length+4]?=lD (.lst ((bu b f n).map .fz)):=oZ (t:=4);let ap:=vA (ρ:=W9 b m f base.length (-(nd n)) (-(eY r.s)) (-(.list (f.map (jY b r.s))))) (fo:=az 5) (fe:=ag (gq gO {eB 1 [] (gU (aa 8)) (gN 0) c9 (gq gO {aW bB (aa 0) (~~~0)})})) (x:=.fz (zX b f n)) (bf W) Y (by rw[H];show ai (eA (rv:=.fz (.tuple (f.map λe=>.tuple ((aZ b r.s e).2.map oU)))) (ds:=[.list (f.map λe=>.tuple ((aZ b r.s e).2.map oU))]) (aq (eN (cs:=[]) (ds:=f.map (jY b r.s)) (iR (d:=.list (f.map (jY b r.s))) (af W) W W) W cm) aH) W W)) Y (by rw[Wg,dl];ext);show C4 (iH ap) #[J,_,_,_,W,?_,SQ y,hm'];unfold wD oY;rw[uO,K,WI];rfl
def xZ(e:VB b){n:Nat}(d:b.n=n)(j:n<=5)(g:0<=m)(f:m<=1000)(a:bA):Out (fE [.fz (bD b),.fz (.int m)] a) (λv c=>∃N i K,(cD b (bE n) N).length=N/\(N:Int)<=m/\v=.rf (a.length+i)/\c=a++K/\K[i]?=R (.lst ((((cD b (bE n) N).map kI).map Gi).map .fz))) (λx=>x=TM m/\∃i,m<((cD b (bE n) i).length:Int)):=by show mG W ?_;ext zv;show O9 ?_;let p:=Bz (F:=iY) (es:=[]) (fa:=am (ag (aa 0)) (am (ag (aa 1)) aJ)) (ρ:=[-(bD b),-(.int m)]) (Z:=a) (au (ai (af W)) (au (ai (af W)) aL)) W;show Out.bind (.eq p ((uU e d j g f a).imp λv c h=>?_));let(N,J,o,l,rfl,rfl):=h;show .eq (r':=RS.ok (SV.rf (a.length+2)) (wD (a++[.dead]) m b (bE n) N J)) ?_ #[N,2,_,o,l,W,(by unfold wD oY;rw[WY]),W];rw[ai aQ,eo];rfl
def Cn(c:Nat->Nat):Nat->Nat
 |0=>0
 |l+1=>max (Cn c l) (c l+1)
def RG(c:Nat->Nat)(n:Nat):Prop:=∀i,i<n->c i<=Cn c i
section
variable{c f:Nat->Nat}{n:Nat}
theorem sE(l:Nat):Cn c (l+1)=max (Cn c l) (c l+1):=W
def zJ(k:Nat):Cn c i<=Cn c (i+k):=by
 induction k with
 |zero=>show Ww _
 |succ k a=>rw[<-Yj,sE];ext
def Lz(h:i<=j):Cn c i<=Cn c j:=by let(k,rfl):=Y9 h;show zJ k
def ki(h:i<l):c i<Cn c l:=by let:=Lz (c:=c) h;rw[sE]at this;ext
theorem Cr(h:RG c n):∀l,l<=n->Cn c l<=l
 |0,_=>Ww _
 |l+1,e=>by let b:=Cr h l ();let a:=h l ();rw[sE];ext
theorem mO(h:RG c n):∀l,l<=n->k<Cn c l->∃i,i<l/\c i=k/\Cn c i=k
 |0,_,j=>a7 j (ahb _)
 |l+1,m,j=>by
  by_cases e:k<Cn c l
  .let(i,a,b):=mO h l () e;show#[i,by ext,b]
  .let g:=h l ();rw[sE]at j;show#[l,by ext,by ext,by ext]
def PH(p:RG c n)(a:RG f n)(o:∀i j,i<n->j<n->f i=f j->c i=c j)(s:Cn f n<=Cn c n):∀i,i<n->f i=c i:=by
 let new:∀l,l<n->c l=Cn c l->f l=Cn f l:=λl g e=>by
  by_cases q:f l<Cn f l
  .let(j,h,b,_):=mO a l () q;let:=o j l () g b;let:=ki (c:=c) h;ext
  .let:=a l g;ext
 let d:∀l k,l+k<=n->Cn f l+Cn c (l+k)<=Cn f (l+k)+Cn c l:=by
  intro l k
  induction k with
  |zero=>intro _;show Ww _
  |succ k m=>
   intro A;let z:=m ();rw[<-Yj,sE,sE];let v:=p (l+k) ();let r:=a (l+k) ();by_cases q:c (l+k)=Cn c (l+k)
   .let:=new (l+k) () q;ext
   .omega
 let e:∀l,l<=n->Cn f l=Cn c l:=λl g=>by let(k,rfl):=Y9 g;let u:=d 0 l ();let B:=d l k (Ww _);rw[Xt]at u;let y:Cn f 0=0:=W;let w:Cn c 0=0:=W;ext
 intro i
 induction i using Nat.strongRecOn with
 |ind i m=>
  intro C;let e0:=e i ();let t:=e (i+1) ();rw[sE,sE]at t;let v:=p i C;let r:=a i C;by_cases q:f i<Cn f i
  .let(j,h,b,_):=mO a i () q;rw[<-b,m j h (),o j i () C b]
  .omega
def QG:Nat->G Nat->Prop
 |_,[]=>True
 |m,s::r=>s<=m/\QG (max m (s+1)) r
def E1(m:Nat)(r:G Nat):Nat:=r.foldl (λm s=>max m (s+1)) m
theorem OP(m s:Nat)(r:G Nat):E1 m (s::r)=E1 (max m (s+1)) r:=W
theorem AJ:∀{m:Nat} (r:G Nat),m<=E1 m r/\∀s∈r,s<E1 m r
 |m,[]=>#[Ww _,λ_ h=>nomatch h]
 |m,s::r=>by
  let(e,b):=AJ (m:=max m (s+1)) r;rw[OP];show#[by ext,λx a=>?_];rcases W2.mp a with rfl|a
  .omega
  .show b x a
end
def uG(fs:G Pl)(d:D):G Pl:=if(eK fs d).isSome=P then fs else fs++[#[d,.none,.none]]
def wR(fs:G Pl)(d:D):Nat:=(eK fs d).getD fs.length
def iu(ds:G D):G Pl:=ds.foldl uG []
def An(ds:G D)(i:Nat):Nat:=wR (iu (ds.take i)) (ds[i]?.getD .none)
def Tz(ds:G D):G Nat:=(Wk ds.length).map (An ds)
theorem rZ:∀{fs:G Pl} {d:D} {t:Nat},eK fs d=R t->∃q,fs[t]?=R q/\Wn.eqv q.p d=P
 |[],_,_,h=>by ext h
 |a::r,d,t,h=>by
  unfold eK at h;split at h
  .rename_i e;ext h;show#[a,W,e]
  .cases q:eK r d with
   |none=>rw[q]at h;ext h
   |some j=>rw[q]at h;ext h;let(x,f,b):=rZ q;show#[x,by simpa using f,b]
def sC(h:ds[i]?=R d):iu (ds.take (i+1))=uG (iu (ds.take i)) d/\An ds i=wR (iu (ds.take i)) d:=by
 show#[?_,?_]
 .ext iu;rw[YJ,h,acv];rfl
 .ext An;rw[h];rfl
def F0(fs:G Pl)(d:D):(uG fs d).length=max fs.length (wR fs d+1)/\wR fs d<=fs.length:=by
 unfold uG wR;cases q:eK fs d with
 |none=>rw[ax (by nofun),Wm];show fs.length+1=max fs.length (fs.length+1)/\fs.length<=fs.length;ext
 |some t=>let(x,a,_):=rZ q;let:=(Wj.mp a).1;rw[av (show(R t).isSome=P from rfl)];show fs.length=max fs.length (t+1)/\t<=fs.length;ext
theorem ww(ds:G D):∀i,i<=ds.length->(iu (ds.take i)).length=Cn (An ds) i
 |0,_=>by rw[adA];rfl
 |i+1,h=>by let e:=Wr (show i<ds.length by ext);let(b,a):=sC e;rw[b,(F0 _ _).1,ww ds i (),sE,a]
theorem IB(ds:G D):RG (An ds) ds.length:=λi h=>by rw[<-ww ds i (),(sC (Wr h)).2];show(F0 _ _).2
def JC(fs:G Pl)(d:D):fs<+:uG fs d:=by
 ext uG;split
 .show Zk _
 .show afA _ _
def KL(ds:G D)(i k:Nat):iu (ds.take i)<+:iu (ds.take (i+k)):=by
 induction k with
 |zero=>show Zk _
 |succ k a=>
  rw[<-Yj];cases q:ds[i+k]? with
  |none=>let b:=List.getElem?_eq_none_iff.mp q;rw[show ds.take (i+k+1)=ds.take (i+k) by rw[aa5 (),aa5 b]];show a
  |some d=>rw[(sC q).1];show a.trans (JC _ _)
def yq(h:fs<+:a)(q:eK fs p=R t):eK a p=R t:=by let(l,rfl):=h;show tZ q
def Jm(h:LD.keyD d=P):eK (uG fs d) d=R (wR fs d):=by
 unfold uG wR;cases q:eK fs d with
 |none=>rw[ax (by nofun)];show vU q (ut h)
 |some t=>rw[av (show(R t).isSome=P from rfl),q];rfl
theorem xN(Z:bA)(a:A):RS.Xu Z (R a)=.ok a Z:=W
def Ml(a:∀d∈ds,LD.keyD d=P)(h:ds[i]?=R d)(k:Nat):eK (iu (ds.take (i+1+k))) d=R (An ds i):=by let(e,b):=sC h;show yq (KL ds (i+1) k) ?_;rw[e,b];show Jm (a d (WC h))
def wv(h:LD.keyD d=P):LD.kd d=P:=by
 cases d with
 |tuple xs=>unfold LD.keyD at h;rw[WU]at h;show h.1
 |_=>simp[LD.keyD]at h
theorem yx{ds:G D}(a:∀d∈ds,LD.keyD d=P):∀i,i<=ds.length->∀q∈iu (ds.take i),LD.keyD q.p=P
 |0,_,q,b=>by rw[adA]at b;ext b
 |i+1,h,q,b=>by
  let e:=Wr (show i<ds.length by ext);rw[(sC e).1]at b;unfold uG at b;split at b
  .show yx a i () q b
  .rcases Xn.mp b with b|b
   .show yx a i () q b
   .rw[WO.mp b];show a _ (Yw _)
def LP(a:∀d∈ds,LD.keyD d=P)(c:ds[i]?=R d)(m:ds[j]?=R e):An ds i=An ds j↔d=e:=by
 let t:=(Wj.mp c).1;let r:=(Wj.mp m).1;let(k,v):=Y9 (show i+1<=ds.length from t);let(l,u):=Y9 (show j+1<=ds.length from r);let f:=Ml a c k;let b:=Ml a m l;rw[v]at f;rw[u]at b;constructor
 .intro z;rw[z]at f;let(q,p,y):=rZ f;let(A,o,w):=rZ b;rw[p]at o;ext o;let n:=wv (yx a _ (Ww _) q (WC p));let h:=wv (a d (WC c));let g:=wv (a e (WC m));rw[<-LD.kd_eqv _ _ n h y,<-LD.kd_eqv _ _ n g w]
 .rintro rfl;rw[f]at b;show WE b
def Nt(h:LD.keyD d=P):na (.fz d)=R d:=by
 cases d with
 |tuple xs=>ext na;dsimp only;rw[av h]
 |_=>simp[LD.keyD]at h
def ti(v:frz 4 (Z++[.dd []]) x=R (.list ds,Z1++[.dd []]))(j:Z1.length=Z.length)(u:∀d∈ds,LD.keyD d=P)(s:ds.length<=1000):
  fA [x] Z=.ok (.rf (Z.length+1)) (Z1++[.dd (fH 0 (iu ds)),.lst ((Tz ds).map λc=>.fz (nd c))]):=by
 let p:eT (az 0) [R x,R (.rf Z.length)] (Z++[.dd []])=.ok ds (Z1++[.dd []]):=by ext eT;rw[bf W,eo,v];rfl
 let h:Out (cR (dB 0) cF (B7 (az 1) (ag (aa 0)) (sj (az 1))) ds [U,R (.rf Z.length)] (Z1++[.dd []]) []) (λxs f=>∃a:bK,(∃o,a=[o,R (.rf Z.length)])/\f=Z1++[.dd (fH 0 (iu (ds.take (0+ds.length))))]/\xs=((Wk (0+ds.length)).map (An ds)).map λc=>.fz (nd c)) λ_=>False:=by
  show jz (λk C f b=>(∃o,C=[o,R (.rf Z.length)])/\f=Z1++[.dd (fH 0 (iu (ds.take k)))]/\b=((Wk k).map (An ds)).map λc=>.fz (nd c)) ds 0 _ _ _ #[#[U,W],W,W] ?_;rintro i d C f b z ⟨⟨o,rfl⟩,rfl,rfl⟩;rw[Xt];let A:=(Wj.mp z).1;show#[by rw[Wg,Wg,Wy];ext,[-(d),R (.rf Z.length)],W,W,?_];let kd:=u d (WC z);let(y,w):=sC z;let m:=ww ds i ();let B:=Cr (IB ds) i ();rw[y];let l:((Wk (i+1)).map (An ds)).map (λc=>SV.fz (nd c))=((Wk i).map (An ds)).map (λc=>SV.fz (nd c))++[.fz (nd (wR (iu (ds.take i)) d))]:=by rw[ZD,WI,WI,afB,afB,w]
  rw[l];generalize iu (ds.take i)=fs at m⊢;let g:(Z1++[Cell.dd (fH 0 fs)])[Z.length]?=R (.dd (fH 0 fs)):=by rw[<-j];show aO
  let n:sj (az 1) [-(d),R (.rf Z.length)] (Z1++[Cell.dd (fH 0 fs)])=.ok (.fz (nd fs.length)) (Z1++[Cell.dd (fH 0 fs)]):=by ext sj;rw[bf W,eo,xC g];show RS.ok (SV.fz (.int (fH 0 fs).length)) _=_;rw[ui]
  let r:(fH 0 fs).length<1000000:=by rw[ui];ext
  let ev:B7 (az 1) (ag (aa 0)) (sj (az 1)) [-(d),R (.rf Z.length)] (Z1++[Cell.dd (fH 0 fs)])=.ok (.fz (nd (wR fs d))) (Z1++[Cell.dd (fH 0 (uG fs d))]):=by
   ext B7;rw[bf W,eo,xC g,xN,eo,ai (af W),eo,n,eo,Nt kd,xN,eo,show TQ (.fz (nd fs.length))=R (nd fs.length)from rfl,xN,eo,xC g,xN,eo];rw[av r,nQ];unfold wR uG;cases q:eK fs d with
   |some t=>rw[av (show(R t).isSome=P from rfl)];show RS.ok (SV.fz (nd (0+t))) _=_;rw[Xt];rfl
   |none=>rw[ax (by nofun)];rw[GA q,<-j,fG];rfl
  show .eq ev #[#[_,W],W,W]
 let(xs,f,e,a,_,rfl,rfl):=h.all;rw[Xt,aaX]at e;show jN W ?_;ext pY;rw[dD (mP W W)];show(jb (gy p e)).trans ?_;rw[WY,Wm,j];rfl
def CW(St:Nat->G Nat)(r:Nat):D:=.tuple ((St r).map nd)
def uh(c:Nat->Nat)(St:Nat->G Nat)(r:Nat):D:=.tuple [nd (c r),.tuple ((St r).map λs=>nd (c s))]
abbrev AM(St:Nat->G Nat)(N:Nat)(a:D)(q:Nat):G (Str×SV):=[("steps",.fz (.list ((Wk N).map (CW St)))),("sends",.fz a),("rounds",.rf q)]
def wJ(c:Nat->Nat)(N:Nat):Cell:=.lst ((Wk N).map λi=>SV.fz (nd (c i)))
section
variable{N:Nat}{St:Nat->br Nat}{c:Nat->Nat}{Z:bA}{o q t r:Nat}{Y:br SV}{X:D}
def cg(h:r<N):((Wk N).map f)[r]?=R (f r):=by rw[Wv,afb h];rfl
theorem P8(a:Z[t]?=R (wJ c N))(h:r<N)(d:f e Z=.ok (.rf t) Z)(b:fb e Z=.ok (.fz (nd r)) Z):gL f fb e Z=.ok (.fz (nd (c r))) Z:=
 wj d b W a (Ed (cg h))
def ND(f:Z[o]?=R (.obj "Sorting" (AM St N X q)))(i:Z[q]?=R (.lst (Y++[.rf t])))(b:Z[t]?=R (wJ c N))(e:r<N)(h:∀s∈St r,s<N)(l:(St r).length<=1000):
  ∃C,bV [.rf o,.fz (nd r)] Z=.ok (.fz (uh c St r)) (Z++[C]):=by
 show#[.lst (((St r).map λs=>nd (c s)).map .fz),jN W ?_];let e0:gL (a8 "Sorting" "rounds" (az 0)) (ag (Cp tO (~~~1))) [R (.rf o),-(nd r),U] Z=.ok (.rf t) Z:=wj (cW (bf W) f W) (ai (xT (rv:=.fz (.int (-1))) aQ W W)) W i (vv _ _);show dD (mP e0 W) ?_;let g:eT (gL (a8 "Sorting" "steps" (az 0)) (ag (aa 1))) [R (.rf o),-(nd r),R (.rf t)] Z=.ok ((St r).map nd) Z:=by ext eT;rw[ck (cW (bf W) f W) (ai (af W)) (qM (cg e)),eo];rfl
 let cm:cR (dB 0) cF (gL (az 1) (ag (aa 0))) ((St r).map nd) [U,R (.rf t)] Z []=.ok ([]++(St r).map λs=>SV.fz (nd (c s))) Z:=by show fZ nd (λs=>SV.fz (nd (c s))) Z (λm=>∃o,m=[o,R (.rf t)]) (St r) _ [] #[_,W] (by show 0+_<=_;ext) ?_;rintro s a m ⟨x,rfl⟩;show#[[-(nd s),R (.rf t)],W,W,P8 b (h s a) (bf W) (ai (af W)),_,W]
 rw[Yq]at cm;let j:=gy (n:=1) (fj:=[2]) g cm;show jb (rO (au (P8 b e (bf W) (ai (af W))) (au (nk (ds:=[.list ((St r).map λs=>nd (c s))]) (au (by rw[WQ];show j) aL) ?_ W) aL)) (by show 2<=1000;ext));let:sh (Z++[.lst (((St r).map λs=>nd (c s)).map .fz)]) (.rf Z.length)=R (.list ((St r).map λs=>nd (c s))):=dQ aO;ext aD;rw[this];rfl
def t9(h:N<=1000):gW [nd N]=R ((Wk N).map nd):=by show(if lS (N:Int)then R (L3.ig 0 (N:Int).toNat)else U)=_;rw[av #[by ext,by ext],XN];congr 1;show Ys λk _=>?_;rw[aiU]
def Ji(p:Z[o]?=R (.obj "Sorting" (AM St N X q)))(y:Z[q]?=R (.lst (Y++[.rf t])))(w:Z[t]?=R (wJ c N))(u:∀r,r<N->(St r).length<=1000/\∀s∈St r,s<N)(z:N<=1000)(f:ρ[0]?=R (R (.rf o))):
  ∃K,eC 1 [0] (nv (kK cO (am (a8 "Sorting" "steps" (az 0)) aJ))) (dB 0) cF (bw "Sorting" "mark_of" bV 2 (az 1) (am (ag (aa 0)) aJ)) ρ Z=.ok (.rf (Z++K).length) (Z++K++[.lst (((Wk N).map (uh c St)).map .fz)]):=by
 let v:nv (kK cO (am (a8 "Sorting" "steps" (az 0)) aJ)) ρ Z=.ok ((Wk N).map nd) Z:=by ext nv;rw[nk (au (cW (bf f) p W) aL) W (by show R (RV.fz (.int ((Wk N).map (CW St)).length))=_;rw[Wg,Wy]),eo,show TQ (.fz (nd N))=R (nd N)from rfl,xN,eo,t9 z,xN]
 let n:Out (cR (dB 0) cF (bw "Sorting" "mark_of" bV 2 (az 1) (am (ag (aa 0)) aJ)) ((Wk N).map nd) [U,R (.rf o)] Z []) (λxs l=>∃a:bK,(∃x,a=[x,R (.rf o)])/\(∃K,l=Z++K)/\xs=((Wk (0+((Wk N).map nd).length)).map (uh c St)).map .fz) λ_=>False:=by
  show jz (λk ρ l g=>(∃x,ρ=[x,R (.rf o)])/\(∃K,l=Z++K)/\g=((Wk k).map (uh c St)).map .fz) _ 0 _ _ _ #[#[U,W],#[[],by rw[W4]],W] ?_;rintro i d ρ l g A ⟨⟨x,rfl⟩,⟨K,rfl⟩,rfl⟩;rw[Xt];let b:=(Wj.mp A).1;rw[Wg,Wy]at b;rw[cg b]at A;ext A;let m:∀{j:Nat} {C:Cell},Z[j]?=R C->(Z++K)[j]?=R C:=λ{j C} h=>by rw[WB (Wj.mp h).1];show h
  let(C,e):=ND (m p) (m y) (m w) b (u i b).2 (u i b).1;show#[by rw[Wg,Wg,Wy];ext,[-(nd i),R (.rf o)],W,W,?_];show .eq (yD (bf W) (m p) W (au (ai (af W)) aL) W e) #[#[_,W],#[K++[C],by rw[WY]],?_];rw[ZD,WI,WI];rfl
 let(xs,l,e,a,_,(K,rfl),rfl):=n.all;rw[Xt,Wg,Wy]at e;show#[K,gy v ?_];let:gj 1 [0] ρ=[U,R (.rf o)]:=by ext gj;show[U]++[(ρ[0]?).join]=_;rw[f];rfl
 rw[this];show e
end
def K8(c:Nat->Nat)(St:Nat->G Nat)(r:Nat):LD.keyD (uh c St r)=P:=by
 let e:(St r).map (λs=>nd (c s))=bN ((St r).map c):=by ext bN;rw[WQ];rfl
 ext uh;rw[e,LD.keyD];simp only[LD.kd,LD.kds];rw[FX];show(WU _ _).mpr #[W,aE ?_];show max 0 (max (Wn.depthAll (bN ((St r).map c))+1) 0)+1<=8;rw[oh];ext
def Aa(h:nd a=nd b):a=b:=by
 let:(a:Int)=b:=by injection h
 ext
def wc{xs a:G Nat}(h:xs.map (λs=>nd (c s))=a.map λs=>nd (c s)):xs.map c=a.map c:=by
 let e:∀l:G Nat,l.map (λs=>nd (c s))=(l.map c).map nd:=λl=>by rw[WQ];rfl
 rw[e,e]at h;show acd (λ_ _=>Aa)|>.mp h
section
variable{N:Nat}{St:Nat->br Nat}{c f:Nat->Nat}{Z:bA}{o q t:Nat}{Y:br SV}{sd:D}{ρ:bK}{fa:dA}
def zV:wJ c N=.lst (((Wk N).map λi=>nd (c i)).map .fz):=by ext wJ;rw[WQ];rfl
def P5(n:0<N)(h:RG c N)(g:Z[t]?=R (wJ c N))(d:fa ρ Z=.ok (.rf t) Z):kK jW (am fa aJ) ρ Z=.ok (.fz (.int ((Cn c N:Int) - 1))) Z:=by
 let e:(Wk N).map (λi=>nd (c i))=((Wk N).map λi=>((c i:Nat):Int)).map Wn.int:=by rw[WQ];rfl
 let a:0<((Wk N).map λi=>((c i:Nat):Int)).length:=by rw[Wg,Wy];show n
 let hm:HV ((Wk N).map λi=>((c i:Nat):Int))=(Cn c N:Int) - 1:=by let(m,l):=zg a;let(i,u,r):=Xe.mp m;let:=ki (c:=c) (Xz.mp u);let(j,b,p,_):=mO h (k:=Cn c N - 1) N (Ww _) ();let:=l (c j:Nat) (Xe.mpr #[j,Xz.mpr b,W]);ext
 show nk (ds:=[.list ((Wk N).map λi=>nd (c i))]) (au d aL) ?_ ?_
 .ext aD;rw[dQ (by rw[g,zV])];rfl
 .ext jW;dsimp only;rw[e,L3.iZ];dsimp only;rw[av a,hm]
def Rf(q N:Nat)(Z:bA)(x:SV):Prop:=∃t c,x=.rf t/\q<t/\Z[t]?=R (wJ c N)
theorem JD:∀{Y:G SV},(∀x∈Y,Rf q N Z x)->∃ds,aD (oX 5 Z) Y=R ds/\ds.length=Y.length/\Wn.canLayAll0 ds=P/\Wn.depthAll ds<=1
 |[],_=>#[[],W,W,W,Xq _]
 |x::r,h=>by
  let(ds,p,n,m,u):=JD λy g=>h y (WH _ g);let(t,c,rfl,_,j):=h x WK;let e:oX 5 Z (.rf t)=R (.list (bN ((Wk N).map c))):=by
   ext oX;rw[j,zV];show(aD (oX 4 Z) (((Wk N).map λi=>nd (c i)).map .fz)).map Wn.list=_;let:∀l:G D,aD (oX 4 Z) (l.map .fz)=R l:=λl=>by
    induction l with
    |nil=>rfl
    |cons a l b=>rw[WL];ext aD;rw[show oX 4 Z (.fz a)=R a from rfl,b]
   rw[this];ext bN;rw[WQ];rfl
  show#[.list (bN ((Wk N).map c))::ds,?_,by rw[WJ,WJ,n],?_,?_]
  .ext aD;rw[e,p]
  .ext Wn.canLayAll0;rw[m,show Wn.canLay0 (.list (bN ((Wk N).map c)))=P by ext Wn.canLay0;show oA _];rfl
  .show max (Wn.depthAll (bN ((Wk N).map c))+1) (Wn.depthAll ds)<=1;rw[oh];ext
def Ms(g:ρ[0]?=R (R (.rf o)))(p:Z[o]?=R (.obj "Sorting" (AM St N sd q)))(i:Z[q]?=R (.lst Y))(l:∀x∈Y,Rf q N Z x):
  b8 (mq eR (a8 "Sorting" "rounds" (az 0)) (ag (di aC))) ρ Z=.ok Y.isEmpty (Z++[.lst []]):=by
 let e:∀{j:Nat} {C:Cell},Z[j]?=R C->(Z++[Cell.lst []])[j]?=R C:=λ{j C} h=>by rw[WB (Wj.mp h).1];show h
 show bG (dM (cW (bf g) p W) (d5 (by ext:0)) ?_);show qV eR (.rf q) (.rf Z.length) (Z++[Cell.lst []])=_;cases Y with
 |nil=>show yP (dQ (ds:=[]) (e i)) (dQ (ds:=[]) aO) W
 |cons x r=>
  let(ds,v,m,u,w):=JD λy n=>let#[t,c,a,b,d]:=l y n;#[t,c,a,b,e d]
  let(t,c,rfl,_,_):=l x WK;show SS (dx:=.list ds) (dy:=.list []) (.inl ?_) ?_ ?_ ?_ W
  .ext sh;dsimp only;rw[e i];rfl
  .ext oX;rw[e i];dsimp only;rw[v];rfl
  .ext oX;rw[aO];rfl
  .cases ds with
   |nil=>rw[WJ]at m;ext m
   |cons d ds=>
    ext eR;rw[av]
    .rfl
    .rw[Qv (by ext Wn.canLay0;show u) (by show Wn.depthAll (d::ds)+1<=64;ext)];rfl
def sq(E:G D)(St:Nat->G Nat)(N:Nat):Nat->Nat->Nat
 |0=>An E
 |k+1=>An ((Wk N).map (uh (sq E St N k) St))
def Fv:((Wk N).map (uh c St)).length=N:=by rw[Wg,Wy]
theorem uZ(a:E.length=N):∀k,RG (sq E St N k) N
 |0=>by rw[<-a];show IB E
 |k+1=>by let:=IB ((Wk N).map (uh (sq E St N k) St));rw[Fv]at this;show this
theorem Ai(e:i<N)(a:j<N):An ((Wk N).map (uh c St)) i=An ((Wk N).map (uh c St)) j↔uh c St i=uh c St j:=
 LP (λd b=>by let(i,_,rfl):=Xe.mp b;show K8 _ _ _) (cg e) (cg a)
def HF(b:E.length=N)(h:Cn (sq E St N (k+1)) N<=Cn (sq E St N k) N)(d:i<N)(a:j<N)(e:sq E St N k i=sq E St N k j):(St i).map (sq E St N k)=(St j).map (sq E St N k):=by
 let g:=PH (uZ b k) (uZ b (k+1)) (λi j d a z=>by
  let:=(Ai d a).mp z;injection this with h
  injection h with h1 _
  show Aa h1) h
 let:=(Ai d a).mp ((g i d).trans (e.trans (g j a).symm));injection this with h
 injection h with _ h2
 injection h2 with h3 _
 injection h3 with h4
 show wc h4
def RJ(E:G D)(St:Nat->G Nat)(N:Nat)(Y:G SV)(t:Nat)(Z:bA):Prop:=∃a:G Nat,Y=a.map SV.rf/\(a++[t]).Pairwise (·<·)/\∀(j u:Nat),a[j]?=R u->Z[u]?=R (wJ (sq E St N j) N)
def LI(o q N:Nat)(St:Nat->G Nat)(E:G D)(e b a:I SV)(n:Nat)(ρ:bK)(Z:bA):Prop:=∃Y t,ρ=[R (.rf o),e,b,a,R (.rf t)]/\Z[o]?=R (.obj "Sorting" (AM St N (.list E) q))/\Z[q]?=R (.lst Y)/\q<t/\Z[t]?=R (wJ (sq E St N n) N)/\(∀x∈Y,Rf q N Z x)/\RJ E St N Y t Z/\Y.length=n/\(∀j,j+1<n->Cn (sq E St N j) N<Cn (sq E St N (j+1)) N)/\(n=0/\Y=[]\/∃k g h,n=k+1/\Y=g++[.rf h]/\Z[h]?=R (wJ (sq E St N k) N)/\k+1<=Cn (sq E St N k) N)
def SE(o q N:Nat)(St:Nat->G Nat)(E:G D)(Z:bA):Prop:=∃Y t k,Z[o]?=R (.obj "Sorting" (AM St N (.list E) q))/\Z[q]?=R (.lst (Y++[.rf t]))/\Z[t]?=R (wJ (sq E St N k) N)/\Cn (sq E St N (k+1)) N<=Cn (sq E St N k) N/\(∀j,j<k->Cn (sq E St N j) N<Cn (sq E St N (j+1)) N)/\∃a:G Nat,Y++[.rf t]=a.map SV.rf/\a.Pairwise (·<·)/\(∀u∈a,q<u)/\a.length=k+1/\∀(j u:Nat),a[j]?=R u->Z[u]?=R (wJ (sq E St N j) N)
def HJ(hN:∀ρ Z',SE o q N St E Z'->Nn ρ Z')(V:E.length=N)(h0:0<N)(h9:N<=1000)(hs:∀r,r<N->(St r).length<=1000/\∀s∈St r,s<N)(hi:LI o q N St E x1 x2 x3 0 ρ Z):
  mz (sg (EJ (b8 (mq eR (a8 "Sorting" "rounds" (az 0)) (ag (di aC)))) (b8 (mq G1 (kK jW (am (az 4) aJ)) (kK jW (am (gL (a8 "Sorting" "rounds" (az 0)) (ag (Cp tO (~~~1)))) aJ))))) (aX (cr (l6 (a8 "Sorting" "rounds" (az 0)) (az 4)))
 (cX (nG fA 1 (am (eC 1 [0] (nv (kK cO (am (a8 "Sorting" "steps" (az 0)) aJ))) (dB 0) cF (bw "Sorting" "mark_of" bV 2 (az 1) (am (ag (aa 0)) aJ))) aJ)) (dB 4))) ρ Z) Nn T X:=by
 show A8 (LI o q N St E x1 x2 x3) 2000 () hi ?_;rintro n ρ Z ⟨Y,t,rfl,ho,hq,qt,ht,G,⟨ts,rsE,tsp,tsc⟩,hrl,hup,hc⟩;let hf:=uZ (St:=St) V n;let M:sq E St N (n+1)=An ((Wk N).map (uh (sq E St N n) St)):=W;generalize hfn:sq E St N n=f at ht hf M;let p:∀{j:Nat} {C:Cell},Z[j]?=lD C->(Z++[Cell.lst []])[j]?=lD C:=λ{j C} h=>by rw[WB (Wj.mp h).1];show h
 let c1:=Ms (ρ:=[lD (.rf o),x1,x2,x3,lD (.rf t)]) W ho hq G;let fp:1<=Cn f N:=by let:=ki (c:=f) h0;ext
 let fN:=Cr hf N (Ww _)
 let A:n+1<=Cn f N->(∀j,j+1<n+1->Cn (sq E St N j) N<Cn (sq E St N (j+1)) N)->mz (aX (cr (l6 (a8 "Sorting" "rounds" (az 0)) (az 4)))
   (cX (nG fA 1 (am (eC 1 [0] (nv (kK cO (am (a8 "Sorting" "steps" (az 0)) aJ))) (dB 0) cF (bw "Sorting" "mark_of" bV 2 (az 1) (am (ag (aa 0)) aJ))) aJ)) (dB 4)) [lD (.rf o),x1,x2,x3,lD (.rf t)] (Z++[.lst []])) (LI o q N St E x1 x2 x3 (n+1)) T X:=λU alz=>by
  replace ho:=p ho;replace hq:=p hq;replace ht:=p ht;let G:∀x∈Y,Rf q N (Z++[.lst []]) x:=λy hy=>let#[t,c,a,b,d]:=G y hy;#[t,c,a,b,p d]
  replace tsc:∀(j u:Nat),ts[j]?=lD u->(Z++[Cell.lst []])[u]?=lD (wJ (sq E St N j) N):=λj u h=>p (tsc j u h);generalize Z++[Cell.lst []]=Z at ho hq ht G tsc;let ql:=(Wj.mp hq).1;let oq:q≠o:=λz=>by rw[z,ho]at hq;ext hq
  let rl:Y.length<1000000:=by ext
  show sZ (iH (vA (cW (bf W) ho W) hq (bf W) hq rl)) ?_;let ne:∀{j:Nat} {C C':Cell},q≠j->Z[j]?=lD C->(Z.set q C')[j]?=lD C:=λh e=>by rw[Xj h];show e
  let I:=ne (C':=.lst (Y++[.rf t])) oq ho;let H:(Z.set q (.lst (Y++[.rf t])))[q]?=lD (.lst (Y++[.rf t])):=Xw ql;let w:=ne (C':=.lst (Y++[.rf t])) (WZ qt) ht;let O:∀x∈Y++[.rf t],Rf q N (Z.set q (.lst (Y++[.rf t]))) x:=λx F=>by
   rcases Xn.mp F with F|F
   .let(J,c,a,b,d):=G x F;show#[J,c,a,b,ne (WZ b) d]
   .rw[WO.mp F];show#[t,f,W,qt,w]
  let P:∀(j u:Nat),ts[j]?=lD u->(Z.set q (.lst (Y++[.rf t])))[u]?=lD (wJ (sq E St N j) N):=λj u h=>by let(u',c,a,b',_):=G (.rf u) (by rw[rsE];show afd (WC h));ext a;show ne (WZ b') (tsc j u h)
  let R:q<(Z.set q (.lst (Y++[.rf t]))).length:=by rw[XQ];show ql
  generalize Z.set q (.lst (Y++[.rf t]))=Z1 at I H w O R P;let(K,cm):=Ji (ρ:=[lD (.rf o),x1,x2,x3,lD (.rf t)]) I H w hs h9 W;let ml:((Wk N).map (uh f St)).length=N:=Fv;let nb:=ti (by
   let g:(Z1++K++[Cell.lst (((Wk N).map (uh f St)).map .fz)]++[Cell.dd []])[(Z1++K).length]?=lD (.lst (((Wk N).map (uh f St)).map .fz)):=by rw[WB (by rw[Wm (bs:=[_])];show _<_+1;ext)];show aO
   rw[iE g,List.set_append_left _ _ (by rw[Wm (bs:=[_])];show _<_+1;ext),fG]) (by rw[Wm,Wm (bs:=[_])];rfl) (λd hd=>by let(i,_,rfl):=Xe.mp hd;show K8 _ _ _) (by rw[ml];show h9)
  generalize hZ2:Z1++K++[Cell.lst (((Wk N).map (uh f St)).map .fz)]=Z2 at cm nb;let S:Z2.length=(Z1++K++[Cell.dead]).length:=by rw[<-hZ2,Wm (bs:=[_]),Wm (bs:=[_])];rfl
  show C4 (mP (qG (au cm aL) W nb) W) ?_;let m:∀{j:Nat} {C:Cell},Z1[j]?=lD C->(Z1++K++[Cell.dead]++[Cell.dd (fH 0 (iu ((Wk N).map (uh f St)))),.lst ((Tz ((Wk N).map (uh f St))).map λc=>.fz (nd c))])[j]?=lD C:=λ{j C} h=>by rw[WY,WY,WB (Wj.mp h).1];show h
  let cl:(Z1++K++[Cell.dead]++[Cell.dd (fH 0 (iu ((Wk N).map (uh f St)))),.lst ((Tz ((Wk N).map (uh f St))).map λc=>.fz (nd c))])[Z2.length+1]?=lD (wJ (An ((Wk N).map (uh f St))) N):=by rw[S,oZ (t:=1)];show lD (Cell.lst _)=_;unfold wJ Tz;rw[ml,WQ];rfl
  rw[<-M]at cl;let tl1:=(Wj.mp w).1;let tsl:ts.length=n:=by rw[<-hrl,rsE,Wg]
  show#[Y++[.rf t],_,W,m I,m H,?_,cl,λx F=>?_,#[ts++[t],by rw[rsE,WI];rfl,aac.mpr #[tsp,aaY _ _,λu l v hv=>?_],λj u l=>?_],by rw[Wm,hrl];rfl,alz,.inr #[n,Y,t,W,W,by rw[hfn];show m w,by rw[hfn];show U]]
  .rw[S,Wm,Wm];ext
  .let(J,c,a,b,d):=O x F;show#[J,c,a,b,m d]
  .rw[WO.mp hv,S,Wm,Wm]
   let:u<=t:=by
    rcases Xn.mp l with l|l
    .show ZO ((aac.mp tsp).2.2 u l t (List.mem_singleton_self _))
    .rw[WO.mp l];show Ww _
   ext
  .by_cases jl:j<ts.length
   .rw[WB jl]at l;show m (P j u l)
   .rw[Xb ()]at l
    let j0:j - ts.length=0:=by let:=(Wj.mp l).1;simp at this;ext
    rw[j0]at l;ext l;let:j=n:=by ext
    rw[this,hfn];show m w
 rcases hc with⟨rfl,rfl⟩|⟨k,B,J,rfl,rfl,L,hnc⟩
 .show .inr #[by decide,_,qD c1,A fp λj hj=>by ext]
 .let ie:(B++[SV.rf J]).isEmpty=Wu:=by ext B<;>rfl
  let hc:=uZ (St:=St) V k;rw[ie]at c1;let m1:=P5 (fa:=az 4) (ρ:=[lD (.rf o),x1,x2,x3,lD (.rf t)]) h0 hf (p ht) (bf W);let m2:=P5 (fa:=gL (a8 "Sorting" "rounds" (az 0)) (ag (Cp tO (~~~1)))) (ρ:=[lD (.rf o),x1,x2,x3,lD (.rf t)]) h0 hc (p L) (wj (n:= -1) (cW (bf W) (p ho) W) (ai (d:=.int (-1)) (xT (rv:=.fz (.int (-1))) aQ W W)) W (p hq) (vv _ _));let Q:=nu c1 (bG (dM m1 m2 (cZ (xu _ _))));by_cases g:Cn (sq E St N k) N<Cn f N
  .rw[aE ()]at Q
   show .inr #[by ext,_,Q,A () λj hj=>?_];by_cases e:j=k
   .subst e;rw[hfn];show g
   .show hup j ()
  .rw[aP ()]at Q;show .inl #[_,Q,hN _ _ #[B,J,k,p ho,p hq,p L,by rw[hfn];ext,λj hj=>hup j (),ts,rsE,(aac.mp tsp).1,λu l=>by let(u',c,a,b',_):=G (.rf u) (by rw[rsE];show afd l);ext a;show b',by rw[<-hrl,rsE,Wg],λj u h=>p (tsc j u h)]]
end
def gK(b:Bd)(c:G Evn)(a:Nat):G Nat:=match(cD b c a)[a]? with
 |some r=>c.map λe=>gm (cD b c (a+1)) (aZ b r.s e).1
 |none=>[]
def Kl(fs:G Rm)(s:Za)(x y:D):(nA fs s x y).length=max fs.length (gm fs s+1)/\gm fs s<=fs.length:=by
 unfold nA gm;cases q:eK (fs.map kI) (eY s)with
 |none=>rw[ax (by nofun),Wm];show fs.length+1=max fs.length (fs.length+1)/\fs.length<=fs.length;ext
 |some t=>let(z,a,_):=rZ q;let:=(Wj.mp a).1;rw[Wg]at this;rw[av (show(R t).isSome=P from rfl)];show fs.length=max fs.length (t+1)/\t<=fs.length;ext
theorem Bo(a:VB b)(h:SW b s):∀(c:br Evn) (fs G:br Rm),(∀e∈c,EV b e)->gR b s r fs c=G->QG fs.length (c.map λe=>gm G (aZ b s e).1)/\E1 fs.length (c.map λe=>gm G (aZ b s e).1)=G.length
 |[],fs,G,_,e=>by ext e;show#[True.intro,W]
 |e::c,fs,G,he,o=>by let i:=lG a h (he e WK);let(g,f):=Bo a h c (nA fs (aZ b s e).1 (nd r) (cP e)) G (λx m=>he x (WH _ m)) o;let n:gm G (aZ b s e).1=gm fs (aZ b s e).1:=Ga (by rw[<-o];show ul c _) (uz i _ _);let(l,j):=Kl fs (aZ b s e).1 (nd r) (cP e);rw[l]at g f;rw[WL,n];show#[#[j,g],f]
def oM(g:VB b)(i:∀e∈n,EV b e)(j:(cD b n N).length=N)(c:a<N):a<(cD b n a).length/\(cD b n (a+1)).length<=N/\QG (cD b n a).length (gK b n a)/\E1 (cD b n a).length (gK b n a)=(cD b n (a+1)).length:=by
 let lt:a<(cD b n a).length:=by
  rcases ai0 a (cD b n a).length with h|h
  .show h
  .let:=pH h N;ext
 let le:=pH (Zm j) (a+1);let f:=Wr lt;let(m,l):=Bo g (lu g i a _ (Yw lt)) n _ _ i (rQ f).symm;show#[lt,by ext,?_];ext gK;rw[f];show#[m,l]
def FR(f:VB b)(i:∀e∈o,EV b e)(h:o.length<=1000)(j:(cD b o N).length=N)(c:a<N):(gK b o a).length<=1000/\∀s∈gK b o a,s<N:=by
 let(_,n,_,l):=oM f i j c;constructor
 .ext gK
  split
  .rw[Wg];show h
  .show Xq _
 .intro s g;let:=(AJ (m:=(cD b o a).length) (gK b o a)).2 s g;ext
def A3(f:VB b)(g:∀e∈i,EV b e)(h:(cD b i N).length=N):jS b i N=(Wk N).map (CW (gK b i)):=by show Ys λa j=>?_;let(lt,_):=oM f g h (Xz.mp j);unfold Lc CW gK;rw[Wr lt];rw[WQ];rfl
def PR(h:q.1<26):LD.kd (oU q)=P:=by
 ext oU;simp only[LD.kd,LD.kds];rw[pX h];cases q.2
 .rw[ax WM,show Wn.strOk "up"=P by left];rfl
 .rw[av W,show Wn.strOk "down"=P by left];rfl
theorem D8(g:VB b)(i:∀e∈p,EV b e)(o:(cD b p N).length=N):∀d∈bu b p N,LD.keyD d=P:=λd n=>by
 let(a,r,rfl):=Xe.mp n;let(lt,_):=oM g i o (Xz.mp r);let j:=lu g i a _ (Yw lt);ext zX;rw[Wr lt];rw[LD.keyD];show(WU _ _).mpr #[oi λe h=>?_,aE ?_]
 .rw[LD.kd];show oi λq m=>PR (Ab g j (i e h) q m)
 .show Wn.depthAll (p.map λe=>Wn.tuple ((aZ b (cD b p a)[a].s e).2.map oU))+1<=8
  let:=rF (f:=λe=>Wn.tuple ((aZ b (cD b p a)[a].s e).2.map oU)) (l:=p) λe _=>by show Wn.depthAll ((aZ b (cD b p a)[a].s e).2.map oU)+1<=2;let:=rF (l:=(aZ b (cD b p a)[a].s e).2) λq _=>FY q;ext
  ext
def Gw(m:Nat)(h:Z[i]?=R (.lst (ds.map .fz))):frz (m+1) Z (.rf i)=R (.list ds,Z.set i .dead):=by ext frz;rw[h];dsimp only;rw[t6]
def Jd:frz 4 (base++(A:: .lst (F.map .fz)::C:: .lst (S.map .fz):: .lst (E.map .fz)::J)) (.tp [.rf (base.length+1),.rf (base.length+3),.rf (base.length+4)])=R (.tuple [.list F,.list S,.list E],base++(A:: .dead::C:: .dead:: .dead::J)):=by
 let e:=Gw (Z:=base++(A:: .lst (F.map .fz)::C:: .lst (S.map .fz):: .lst (E.map .fz)::J)) 2 (oZ (t:=1));rw[uO]at e;let b:=Gw (Z:=base++(A:: .dead::C:: .lst (S.map .fz):: .lst (E.map .fz)::J)) 2 (oZ (t:=3));rw[uO]at b;let a:=Gw (Z:=base++(A:: .dead::C:: .dead:: .lst (E.map .fz)::J)) 2 (oZ (t:=4));rw[uO]at a;show(match j4 (frz 3) _ [.rf (base.length+1),.rf (base.length+3),.rf (base.length+4)]with|some (ds,g)=>R (Wn.tuple ds,g)|none=>U)=_;let f:j4 (frz 3) (base++(A:: .lst (F.map .fz)::C:: .lst (S.map .fz):: .lst (E.map .fz)::J)) [.rf (base.length+1),.rf (base.length+3),.rf (base.length+4)]=R ([.list F,.list S,.list E],base++(A:: .dead::C:: .dead:: .dead::J)):=by ext j4;rw[e];dsimp only;ext j4;rw[show anu (A::Cell.lst (F.map .fz)::C::Cell.lst (S.map .fz)::Cell.lst (E.map .fz)::J) 1 Cell.dead=A:: .dead::C:: .lst (S.map .fz):: .lst (E.map .fz)::J from rfl,b];dsimp only;ext j4;rw[show anu (A::Cell.dead::C::Cell.lst (S.map .fz)::Cell.lst (E.map .fz)::J) 3 Cell.dead=A:: .dead::C:: .dead:: .lst (E.map .fz)::J from rfl,a];rfl
 rw[f]
def G9{St:Nat->br Nat}(A:∀D k,(∃q,SE o q N St E k)->L D k)(i:Z[o]?=R (.obj "Sorting" []))(G:0<N)(B:N<=1000)(y:∀r,r<N->(St r).length<=1000/\∀s∈St r,s<N)(H:∀d∈E,LD.keyD d=P)(t:E.length=N):
  mz ((aX (fM "Sorting" "steps" (az 0) (ag (aW bB (aa 3) (~~~1))))
 (aX (fM "Sorting" "sends" (az 0) (ag (aW bB (aa 3) (~~~2))))
 (aX (fM "Sorting" "rounds" (az 0) (ag (di aC)))
 (aX (cX (nG fA 1 (am (a8 "Sorting" "sends" (az 0)) aJ)) (dB 4))
 (sg (EJ (b8 (mq eR (a8 "Sorting" "rounds" (az 0)) (ag (di aC)))) (b8 (mq G1 (kK jW (am (az 4) aJ)) (kK jW (am (gL (a8 "Sorting" "rounds" (az 0)) (ag (Cp tO (~~~1)))) aJ))))) (aX (cr (l6 (a8 "Sorting" "rounds" (az 0)) (az 4)))
 (cX (nG fA 1 (am (eC 1 [0] (nv (kK cO (am (a8 "Sorting" "steps" (az 0)) aJ))) (dB 0) cF (bw "Sorting" "mark_of" bV 2 (az 1) (am (ag (aa 0)) aJ))) aJ)) (dB 4)))))))) [R (.rf o),-(bd),-(.int m),-(.tuple [F,.list ((Wk N).map (CW St)),.list E]),U] Z) L T X:=by
 let f:=(Wj.mp i).1;show sZ (lB (ai (aK (af W) aQ W W lZ)) (bf W) i ()) ?_;let e:(Z.set o (.obj "Sorting" (eF "steps" (.fz (.list ((Wk N).map (CW St)))) [])))[o]?=R (.obj "Sorting" [("steps",.fz (.list ((Wk N).map (CW St))))]):=Xw f;generalize Z.set o (.obj "Sorting" (eF "steps" (.fz (.list ((Wk N).map (CW St)))) []))=Z at e⊢;let f:=(Wj.mp e).1;show sZ (lB (ai (aK (af W) aQ W W uX)) (bf W) e (Wx W)) ?_;let b:(Z.set o (.obj "Sorting" (eF "sends" (.fz (.list E)) [("steps",.fz (.list ((Wk N).map (CW St))))])))[o]?=R (.obj "Sorting" [("steps",.fz (.list ((Wk N).map (CW St)))),("sends",.fz (.list E))]):=Xw f;generalize Z.set o (.obj "Sorting" (eF "sends" (.fz (.list E)) [("steps",.fz (.list ((Wk N).map (CW St))))]))=Z at b⊢;let f:=(Wj.mp b).1;let n:(Z++[Cell.lst []])[o]?=R (.obj "Sorting" [("steps",.fz (.list ((Wk N).map (CW St)))),("sends",.fz (.list E))]):=by rw[WB f];show b
 show sZ (lB (d5 (ds:=[]) (by ext:0)) (bf W) n (Wx W)) ?_;show mz (aX _ _ _ ((Z++[Cell.lst []]).set o (.obj "Sorting" (AM St N (.list E) Z.length)))) _ _ _;let a:((Z++[Cell.lst []]).set o (.obj "Sorting" (AM St N (.list E) Z.length)))[o]?=R (.obj "Sorting" (AM St N (.list E) Z.length)):=Xw (by rw[Wm];ext);let l:((Z++[Cell.lst []]).set o (.obj "Sorting" (AM St N (.list E) Z.length)))[Z.length]?=R (.lst []):=by rw[Xj ()];show aO
 let p:Z.length<((Z++[Cell.lst []]).set o (.obj "Sorting" (AM St N (.list E) Z.length))).length:=by rw[XQ,Wm];show _<_+1;ext
 generalize (Z++[Cell.lst []]).set o (.obj "Sorting" (AM St N (.list E) Z.length))=J at a l p⊢;generalize Z.length=q at a l p;let v:=ti (x:=.fz (.list E)) (Z1:=J) W W H ();show sZ (mP (qG (au (cW (bf W) a W) aL) W v) W) ?_;let g:∀{j:Nat} {C:Cell},J[j]?=R C->(J++[Cell.dd (fH 0 (iu E)),.lst ((Tz E).map λc=>.fz (nd c))])[j]?=R C:=λ{j C} h=>by rw[WB (Wj.mp h).1];show h
 show HJ (λD k h=>A D k #[q,h]) t G B y #[[],J.length+1,W,g a,g l,by ext,?_,(λx w=>nomatch w),#[[],W,aaY _ _,λj u h=>nomatch h],W,(λj z=>a7 z (ahb _)),.inl #[W,W]];rw[oZ];unfold wJ Tz sq;rw[t,WQ];rfl
def BB(e:VB b){n:Nat}(d:b.n=n)(H:n<=5)(z:0<=m)(y:m<=1000)(p:Q[o]?=R (.obj "Sorting" [])):Out (bO [.rf o,.fz (bD b),.fz (.int m)] Q) (λv c=>v=.fz .none/\∃N q,(cD b (bE n) N).length=N/\(N:Int)<=m/\SE o q N (gK b (bE n)) (bu b (bE n) N) c) (λx=>x=TM m/\∃i,m<((cD b (bE n) i).length:Int)):=by
 let j:(bE n).length<=1000:=by ext bE;rw[Wm,Wm,Wg,Wg,Wy];show n+n+1<=_;ext
 let a:=wo d;show mG W ?_;show zx ?_;let L:=Bz (F:=iY) (es:=[]) (fa:=am (ag (aa 1)) (am (ag (aa 2)) aJ)) (ρ:=[R (.rf o),-(bD b),-(.int m),U,U]) (Z:=Q) (au (ai (af W)) (au (ai (af W)) aL)) W;show Out.bind (.eq L ((uU e d H z y Q).imp λv c B=>?_));let(N,J,g,I,rfl,rfl):=B;let t:=Jd (base:=Q++[.dead]) (A:=.obj "Places" (pF m ((Q++[Cell.dead]).length+1) ((Q++[Cell.dead]).length+2))) (C:=.dd (fH 0 ((cD b (bE n) N).map kI))) (F:=((cD b (bE n) N).map kI).map Gi) (S:=jS b (bE n) N) (E:=bu b (bE n) N) (J:=J);let M:(Q++[Cell.dead]).length=Q.length+1:=by rw[Wm];rfl
 rw[A3 e a g]at t;show .eq (r':=RS.ok (SV.fz (.tuple [.list (((cD b (bE n) N).map kI).map Gi),.list ((Wk N).map (CW (gK b (bE n)))),.list (bu b (bE n) N)])) (Q++[Cell.dead]++(.obj "Places" (pF m ((Q++[Cell.dead]).length+1) ((Q++[Cell.dead]).length+2)):: .dead:: .dd (fH 0 ((cD b (bE n) N).map kI)):: .dead:: .dead::J))) ?_ #[?_]
 .unfold PL wD oY;rw[A3 e a g,show Q.length+2=(Q++[Cell.dead]).length+1 by ext,show Q.length+4=(Q++[Cell.dead]).length+3 by ext,show Q.length+5=(Q++[Cell.dead]).length+4 by ext,t]
 let K:0<N:=by let:=yf b (bE n) N;ext
 let f:(Q++[Cell.dead]++(.obj "Places" (pF m ((Q++[Cell.dead]).length+1) ((Q++[Cell.dead]).length+2)):: .dead:: .dd (fH 0 ((cD b (bE n) N).map kI)):: .dead:: .dead::J))[o]?=R (.obj "Sorting" []):=by rw[WY,WB (Wj.mp p).1];show p
 generalize Q++[Cell.dead]++(Cell.obj "Places" (pF m ((Q++[Cell.dead]).length+1) ((Q++[Cell.dead]).length+2)):: .dead:: .dd (fH 0 ((cD b (bE n) N).map kI)):: .dead:: .dead::J)=Z at f;let l:∀r,r<N->(gK b (bE n) r).length<=1000/\∀s∈gK b (bE n) r,s<N:=λr G=>FR e a j g G;let w:=D8 e a g;let u:(bu b (bE n) N).length=N:=by ext bu;rw[Wg,Wy]
 generalize gK b (bE n)=St at l⊢;generalize X:bu b (bE n) N=E at w u⊢;generalize ((cD b (bE n) N).map kI).map Gi=F;generalize bD b=bd;show G9 (λY c h=>#[W,N,let#[q,T]:=h;#[q,g,I,by rw[X];show T]]) f K () l w u
section
variable{N:Nat}{St:Nat->br Nat}{c:Nat->Nat}{E:br D}{Z:bA}{o q t:Nat}
def k8(c:Nat->Nat)(N:Nat):G Int:=(Wk N).map λi=>((c i:Nat):Int)
def lK(c:Nat->Nat)(N k:Nat):Nat:=(tT (k:Int) (k8 c N)).getD 0
theorem xo:∀{ns:G Int},k∈ns->∃j,tT k ns=R j
 |n::r,h=>by
  ext tT;by_cases e:n=k
  .show#[0,av e]
  .rw[ax e];let(j,a):=xo ((W2.mp h).resolve_left λz=>e z.symm);show#[j+1,by rw[a];rfl]
def re(n:RG c N)(m:k<Cn c N):tT (k:Int) (k8 c N)=R (lK c N k)/\lK c N k<N/\c (lK c N k)=k/\Cn c (lK c N k)=k:=by
 let(i,h,g,p):=mO n N (Ww _) m;let(j,b):=xo (ns:=k8 c N) (Xe.mpr #[i,Xz.mpr h,by rw[g]]);let e:lK c N k=j:=by ext lK;rw[b];rfl
 rw[e];let(a,u):=yd b;let f:j<N:=by let:=(Wj.mp a).1;unfold k8 at this;rw[Wg,Wy]at this;show this
 unfold k8 at a;rw[cg f]at a;let r:c j=k:=by let:=WE a;ext
 let l:i=j:=by
  rcases acJ i j with z|z|z
  .show a7 ?_ (u i z);ext k8;rw[cg h,g]
  .show z
  .let:=ki (c:=c) z;ext
 show#[b,f,r,by rw[<-l];show p]
def Ix(St:Nat->G Nat)(c:Nat->Nat)(N k:Nat):D:=.tuple ((St (lK c N k)).map λs=>nd (c s))
def Iq(E:G D)(c:Nat->Nat)(N k:Nat):D:=(E[lK c N k]?).getD .none
def UB(St:Nat->G Nat)(E:G D)(c:Nat->Nat)(N:Nat):D:=.tuple [.tuple ((Wk (Cn c N)).map (Ix St c N)),.tuple ((Wk (Cn c N)).map (Iq E c N))]
def Hh(r:0<N)(y:N<=400)(e:RG c N):eB 1 [3] (k7 gW {aW dC (gq L10.jW {aa 3}) (~~~1)}) (gN 0) c9 (L10.yY 1 (aa 0)) [a,b,s,-(.list ((k8 c N).map .int)),U,C]=.ok (.ow ((Wk (Cn c N)).map λk=>nd (lK c N k)),[a,b,s,-(.list ((k8 c N).map .int)),U,C]):=by
 let f:0<(k8 c N).length:=by ext k8;rw[Wg,Wy];show r
 let B:=Cr e N (Ww _);let hm:HV (k8 c N)=(Cn c N:Int) - 1:=by let(p,n):=zg f;let(i,J,A):=Xe.mp p;let:=ki (c:=c) (Xz.mp J);let(j,h,w,_):=mO e (k:=Cn c N - 1) N (Ww _) ();let:=n (c j:Nat) (Xe.mpr #[j,Xz.mpr h,W]);ext
 let g:L10.jW [.list ((k8 c N).map .int)]=-(.int ((Cn c N:Int) - 1)):=by ext jW;dsimp only;rw[L3.iZ];dsimp only;rw[av f,hm]
 let v:dC (.int ((Cn c N:Int) - 1)) (.int 1)=-(nd (Cn c N)):=by rw[gJ,show(Cn c N:Int) - 1+1=(Cn c N:Int) by ext]
 show eN (oa (aq (aK (eA (aq (af W) aH) W g) aQ W W v) aH) W (t9 ())) W ?_;show jm nd (λk=>nd (lK c N k)) (Wk (Cn c N)) (by rw[Wy];ext) W λk m=>?_;let(u,z,_):=re e (Xz.mp m);let l:Bx ((k8 c N).map .int) (nd k)=R (lK c N k):=by ext Bx;rw[L3.iZ];show(match tT (k:Int) (k8 c N)with|some j=>if j<1000 then R j else U|none=>U)=_;rw[u];show av ()
 show Kt (aa 0) [-(nd k),-(.list ((k8 c N).map .int))] (R (-(.list ((k8 c N).map .int))))=_;ext Kt;rw[show aa 0 [R (PV.fz (nd k)),-(.list ((k8 c N).map .int))]=.ok (.fz (nd k),[-(nd k),-(.list ((k8 c N).map .int))])from af W];show((Res.Xu (Bx ((k8 c N).map .int) (nd k))).bind λj=>Res.ok (PV.fz (nd j),[R (PV.fz (nd k)),-(.list ((k8 c N).map .int))]))=_;rw[l];rfl
def G7(p:RG c N)(I:N<=400)(z:∀r,r<N->(St r).length<=1000/\∀s∈St r,s<N)(m:Z[o]?=R (.obj "Sorting" (AM St N (.list E) q)))(C:ρ[2]?=R (R (.rf o)))(B:ρ[3]?=R (-(.list ((k8 c N).map .int))))(A:(cw ρ)[4]?=R (-(.list ((Wk (Cn c N)).map λk=>nd (lK c N k))))):
  ∃K,kK gO (am (eC 1 [2,3] (ii (gU (aa 4))) (dB 0) cF (kK gO (am (eC 1 [2] (eT (gL (a8 "Sorting" "steps" (az 1)) (ag (aa 0)))) (dB 0) cF (ag (aW bB (aa 1) (aa 0)))) aJ))) aJ) ρ Z=.ok (.fz (.tuple ((Wk (Cn c N)).map (Ix St c N)))) (Z++K):=by
 let y:ii (gU (aa 4)) ρ Z=.ok ((Wk (Cn c N)).map λk=>nd (lK c N k)) Z:=kP (iR (af A) W W);let J:=Cr p N (Ww _);let g:Out (cR (dB 0) cF (kK gO (am (eC 1 [2] (eT (gL (a8 "Sorting" "steps" (az 1)) (ag (aa 0)))) (dB 0) cF (ag (aW bB (aa 1) (aa 0)))) aJ)) ((Wk (Cn c N)).map λk=>nd (lK c N k)) [U,R (.rf o),-(.list ((k8 c N).map .int))] Z []) (λxs f=>∃a:bK,(∃x,a=[x,R (.rf o),-(.list ((k8 c N).map .int))])/\(∃K,f=Z++K)/\xs=((Wk (0+((Wk (Cn c N)).map λk=>nd (lK c N k)).length)).map (Ix St c N)).map .fz) λ_=>False:=by
  show jz (λk ρ f b=>(∃x,ρ=[x,R (.rf o),-(.list ((k8 c N).map .int))])/\(∃K,f=Z++K)/\b=((Wk k).map (Ix St c N)).map .fz) _ 0 _ _ _ #[#[U,W],#[[],by rw[W4]],W] ?_;rintro i d ρ f b L ⟨⟨x,rfl⟩,⟨K,rfl⟩,rfl⟩;rw[Xt];let h:=(Wj.mp L).1;rw[Wg,Wy]at h;rw[cg h]at L;ext L;let(_,u,_):=re p h;let(H,v):=z _ u;let l:(Z++K)[o]?=R (.obj "Sorting" (AM St N (.list E) q)):=by rw[WB (Wj.mp m).1];show m
  show#[by rw[Wg,Wg,Wy];ext,[-(nd (lK c N i)),R (.rf o),-(.list ((k8 c N).map .int))],W,W,?_];let w:eT (gL (a8 "Sorting" "steps" (az 1)) (ag (aa 0))) [-(nd (lK c N i)),R (.rf o),-(.list ((k8 c N).map .int))] (Z++K)=.ok ((St (lK c N i)).map nd) (Z++K):=by ext eT;rw[ck (cW (bf W) l W) (ai (af W)) (qM (cg u)),eo];rfl
  let cm:cR (dB 0) cF (ag (aW bB (aa 1) (aa 0))) ((St (lK c N i)).map nd) [U,-(.list ((k8 c N).map .int))] (Z++K) []=.ok ([]++(St (lK c N i)).map λs=>SV.fz (nd (c s))) (Z++K):=by show fZ nd (λs=>SV.fz (nd (c s))) (Z++K) (λρ=>∃x,ρ=[x,-(.list ((k8 c N).map .int))]) (St (lK c N i)) _ [] #[_,W] (by show 0+_<=_;ext) ?_;rintro s j ρ ⟨x,rfl⟩;show#[[-(nd s),-(.list ((k8 c N).map .int))],W,W,ai (aK (af W) (af W) W W (qM ?_)),_,W];ext k8;rw[WQ];show cg (v s j)
  rw[Yq]at cm;let G:=gy (n:=1) (fj:=[2]) w cm;show .eq (nk (ds:=[.list ((St (lK c N i)).map λs=>nd (c s))]) (au G aL) ?_ W) #[#[_,W],#[K++[_],WY _ _ _],?_]
  .let:sh (Z++K++[.lst ((St (lK c N i)).map λs=>SV.fz (nd (c s)))]) (.rf (Z++K).length)=R (.list ((St (lK c N i)).map λs=>nd (c s))):=dQ (by rw[WQ];show aO);ext aD;rw[this];rfl
  .rw[ZD,WI,WI];rfl
 let(xs,f,e,a,_,(K,rfl),rfl):=g.all;rw[Xt,Wg,Wy]at e;let F:gj 1 [2,3] ρ=[U,R (.rf o),-(.list ((k8 c N).map .int))]:=by ext gj;show[U]++[(ρ[2]?).join,(ρ[3]?).join]=_;rw[C,B];rfl
 rw[<-F]at e;show#[K++[_],(nk (ds:=[.list ((Wk (Cn c N)).map (Ix St c N))]) (au (gy y e) aL) ?_ W).trans (by rw[WY])];let:sh (Z++K++[.lst (((Wk (Cn c N)).map (Ix St c N)).map .fz)]) (.rf (Z++K).length)=R (.list ((Wk (Cn c N)).map (Ix St c N))):=dQ aO;ext aD;rw[this];rfl
def Hq(a:RG c N)(l:N<=400)(j:E.length=N)(e:Z[o]?=R (.obj "Sorting" (AM St N (.list E) q)))(h:ρ[2]?=R (R (.rf o)))(g:(cw ρ)[4]?=R (-(.list ((Wk (Cn c N)).map λk=>nd (lK c N k))))):
  ∃K,kK gO (am (eC 1 [2] (ii (gU (aa 4))) (dB 0) cF (gL (a8 "Sorting" "sends" (az 1)) (ag (aa 0)))) aJ) ρ Z=.ok (.fz (.tuple ((Wk (Cn c N)).map (Iq E c N)))) (Z++K):=by
 let b:ii (gU (aa 4)) ρ Z=.ok ((Wk (Cn c N)).map λk=>nd (lK c N k)) Z:=kP (iR (af g) W W);let n:=Cr a N (Ww _);let cm:cR (dB 0) cF (gL (a8 "Sorting" "sends" (az 1)) (ag (aa 0))) ((Wk (Cn c N)).map λk=>nd (lK c N k)) [U,R (.rf o)] Z []=.ok ([]++(Wk (Cn c N)).map λk=>SV.fz (Iq E c N k)) Z:=by show fZ (λk=>nd (lK c N k)) (λk=>SV.fz (Iq E c N k)) Z (λρ=>∃x,ρ=[x,R (.rf o)]) (Wk (Cn c N)) _ [] #[_,W] (by show 0+_<=_;rw[Wy];ext) ?_;rintro k f ρ ⟨x,rfl⟩;let(_,m,_):=re a (Xz.mp f);show#[[-(nd (lK c N k)),R (.rf o)],W,W,ck (cW (bf W) e W) (ai (af W)) (qM ?_),_,W];ext Iq;rw[Wr ()];rfl
 rw[Yq]at cm;let i:gj 1 [2] ρ=[U,R (.rf o)]:=by ext gj;show[U]++[(ρ[2]?).join]=_;rw[h];rfl
 rw[<-i]at cm;show#[[_],nk (ds:=[.list ((Wk (Cn c N)).map (Iq E c N))]) (au (gy b cm) aL) ?_ W];let:sh (Z++[.lst ((Wk (Cn c N)).map λk=>SV.fz (Iq E c N k))]) (.rf Z.length)=R (.list ((Wk (Cn c N)).map (Iq E c N))):=dQ (by rw[WQ];show aO);ext aD;rw[this];rfl
end
def Od:wJ c N=.lst (((k8 c N).map Wn.int).map .fz):=by unfold wJ k8;rw[WQ,WQ];rfl
def MJ(E:G D)(St:Nat->G Nat)(N k:Nat):Prop:=Cn (sq E St N (k+1)) N<=Cn (sq E St N k) N/\∀j,j<k->Cn (sq E St N j) N<Cn (sq E St N (j+1)) N
def O8{St:Nat->G Nat}(h:MJ E St N k)(b:MJ E St N a):k=a:=by
 rcases acJ k a with q|q|q
 .let:=b.2 k q;let:=h.1;ext
 .show q
 .let:=h.2 a q;let:=b.1;ext
def tj(H:VB b){n:Nat}(d:b.n=n)(T:n<=5)(O:0<=m)(D:m<=400)(G:bA):Out (dn [.fz (bD b),.fz (.int m)] G) (λv _=>∃N k,(cD b (bE n) N).length=N/\(N:Int)<=m/\MJ (bu b (bE n) N) (gK b (bE n)) N k/\v=.fz (UB (gK b (bE n)) (bu b (bE n) N) (sq (bu b (bE n) N) (gK b (bE n)) N k) N)) (λx=>x=TM m/\∃i,m<((cD b (bE n) i).length:Int)):=by
 let A:(bE n).length<=1000:=by ext bE;rw[Wm,Wm,Wg,Wg,Wy];show n+n+1<=_;ext
 let y:=wo d;show mG W ?_;let M:=Ct (C:= "Sorting") (F:=bO) (fa:=am (ag (aa 0)) (am (ag (aa 1)) aJ)) (ρ:=[-(bD b),-(.int m),Wh,Wh,Wh,Wh]) (Z:=G) (au (ai (af W)) (au (ai (af W)) aL)) W;show zx (.eq M (Out.bind ((BB H d T O () aO).imp λv Z P=>?_)));let(rfl,N,q,J,U,rs,t,k,h,R,j,w,u,_):=P;let S:MJ (bu b (bE n) N) (gK b (bE n)) N k:=#[w,u];show .eq W #[?_];let I:∀r,r<N->(gK b (bE n) r).length<=1000/\∀s∈gK b (bE n) r,s<N:=λr Q=>FR H y A J Q;let B:(bu b (bE n) N).length=N:=by ext bu;rw[Wg,Wy]
 let X:0<N:=by let:=yf b (bE n) N;ext
 let p:=uZ (St:=gK b (bE n)) B k;let f:∀v,v=SV.fz (UB (gK b (bE n)) (bu b (bE n) N) (sq (bu b (bE n) N) (gK b (bE n)) N k) N)->∃N k,(cD b (bE n) N).length=N/\(N:Int)<=m/\MJ (bu b (bE n) N) (gK b (bE n)) N k/\v=.fz (UB (gK b (bE n)) (bu b (bE n) N) (sq (bu b (bE n) N) (gK b (bE n)) N k) N):=λv e=>#[N,k,J,U,S,e];generalize sq (bu b (bE n) N) (gK b (bE n)) N k=c at j p f;generalize gK b (bE n)=St at h I f;generalize bu b (bE n) N=E at h B f;generalize G.length=o at h;generalize bD b=bd;let L:t≠o:=λz=>by rw[z,h]at j;ext j
 rw[Od]at j;let e1:mw (gL (a8 "Sorting" "rounds" (az 2)) (ag (Cp tO (~~~1)))) [-(bd),-(.int m),lD (.rf o),Wh,Wh,Wh] Z=.ok (.fz (.list ((k8 c N).map .int))) (Z.set t .dead):=jQ (wj (cW (bf W) h W) (ai (xT (rv:=.fz (.int (-1))) aQ W W)) W R (vv _ _)) (iE j);show dm e1 W ?_;let g:(Z.set t .dead)[o]?=lD (.obj "Sorting" (AM St N (.list E) q)):=by rw[Xj L];show h
 generalize Z.set t .dead=Z1 at g;let e2:mw (ag (eB 1 [3] (k7 gW {aW dC (gq L10.jW {aa 3}) (~~~1)}) (gN 0) c9 (L10.yY 1 (aa 0)))) [-(bd),-(.int m),lD (.rf o),-(.list ((k8 c N).map .int)),Wh,Wh] Z1=.ok (.fz (.list ((Wk (Cn c N)).map λk=>nd (lK c N k)))) (Z1++[.dead]):=by show jQ (d5 (Hh X () p)) ?_;rw[iE aO,fG]
 show dm e2 W ?_;let a:(Z1++[Cell.dead])[o]?=lD (.obj "Sorting" (AM St N (.list E) q)):=by rw[WB (Wj.mp g).1];show g
 generalize Z1++[Cell.dead]=Z2 at a;let(K,e3):=G7 (ρ:=[-(bd),-(.int m),lD (.rf o),-(.list ((k8 c N).map .int)),-(.list ((Wk (Cn c N)).map λk=>nd (lK c N k))),Wh]) p () I a W W W;show dm e3 W ?_;let l:(Z2++K)[o]?=lD (.obj "Sorting" (AM St N (.list E) q)):=by rw[WB (Wj.mp a).1];show a
 generalize Z2++K=Z3 at l;let(K2,Y):=Hq (ρ:=[-(bd),-(.int m),lD (.rf o),-(.list ((k8 c N).map .int)),-(.list ((Wk (Cn c N)).map λk=>nd (lK c N k))),-(.tuple ((Wk (Cn c N)).map (Ix St c N)))]) p () B l W W;show sI (rO (au (ai (af W)) (au Y aL)) (by show 2<=1000;ext)) (f _ W)
def wk(w:Str)(k:Nat):D:=.tuple [.str w,nd k]
def Oo{b:Bd}{n:Nat}(c:b.n=n)(v:n<=5):iB [bD b]=.ok (.ow ((bE n).map cP)):=by
 let z:gW [.int b.n]=R (bN (Wk n)):=by rw[c];show iG ()
 let A:=Ud b;let y:dC (.list ((Wk n).map (wk "down")++(Wk n).map (wk "up"))) (.list [cP .turn])=R (.ow ((bE n).map cP)):=(N7 (by rw[Wm,Wg,Wg,Wy];show _+1<=_;ext)).trans (by ext bE;rw[WI,WI,WQ,WQ];rfl);show jL W ?_;show d9 (by ext:0) W W ?_;show pI (λi C=>∃f a:I PV,C=[zf (bD b),zo (((["down","up"]:G Str).take i).flatMap λw=>(Wk n).map (wk w)),f,a]) (iR (by ext:0) W W) #[U,U,W] ?_ ?_
 .rintro i d C J ⟨f,a,rfl⟩
  obtain⟨w,h,u⟩:∃w,(["down","up"]:G Str)[i]?=R w/\d=.str w:=by
   let:i=0\/i=1:=by let:=(Wj.mp J).1;simp at this;ext
   rcases this with rfl|rfl
   .show#["down",W,(WE J).symm]
   .show#["up",W,(WE J).symm]
  subst u;let nx:((["down","up"]:G Str).take (i+1)).flatMap (λw=>(Wk n).map (wk w))=((["down","up"]:G Str).take i).flatMap (λw=>(Wk n).map (wk w))++(Wk n).map (wk w):=by rw[YJ,h,List.flatMap_append];simp
  let B:i<2:=(Wj.mp h).1;let pl:((["down","up"]:G Str).take i).flatMap (λw=>(Wk n).map (wk w))=[]\/((["down","up"]:G Str).take i).flatMap (λw=>(Wk n).map (wk w))=(Wk n).map (wk "down"):=by
   let:i=0\/i=1:=by ext
   rcases this with rfl|rfl
   .show .inl W
   .show .inr (by simp)
  rw[nx];generalize ((["down","up"]:G Str).take i).flatMap (λw=>(Wk n).map (wk w))=pre at pl;let o:pre.length<=5:=by
   rcases pl with rfl|rfl
   .show Xq _
   .rw[Wg,Wy];show v
  show#[[zf (bD b),zo pre,zf (.str w),a],W,?_];show Mf (λj C=>∃a:I PV,C=[zf (bD b),zo (pre++(Wk j).map (wk w)),zf (.str w),a]) (by ext:0) #[a,by rw[List.range_zero,Zi,W4]] ?_ ?_
  .rintro j d C t ⟨a,rfl⟩
   let(k,q,rfl):=lw t;obtain⟨g,r⟩:k=j/\j<n:=by let(m,l):=Wj.mp q;rw[afz]at l;rw[Wy]at m;show#[l.symm,m]
   subst g;show#[[zf (bD b),zo (pre++(Wk k).map (wk w)),zf (.str w),zf (nd k)],W,?_];let p:(pre++(Wk k).map (wk w)).length<1000000:=by rw[Wm,Wg,Wy];ext
   show nY (u0 W (hW (aq (af W) (aq (af W) aH)) W (Wx W)) W W p (by rw[ZD,WI,<-WY];rfl)) #[_,W]
  .rintro C ⟨a,rfl⟩;rw[iC,Wy];show#[_,_,W]
 .rintro C ⟨f,a,rfl⟩
  let e:((["down","up"]:G Str).take 2).flatMap (λw=>(Wk n).map (wk w))=(Wk n).map (wk "down")++(Wk n).map (wk "up"):=by simp
  show Go (fC _ [zf (bD b),zo (((["down","up"]:G Str).take 2).flatMap λw=>(Wk n).map (wk w)),f,a]) _ _ _;rw[e];show fJ (aK (hJ W) (mK (aq (hW (aq aQ (aq aQ aH)) W (Wx W)) aH) W (Wx W)) W W y) W W
theorem Nu(h:bN a=bN b):a=b:=(acd λx y e=>by injection e with e;show afC e).mp h
def JS(h:mD m=mD n):m=n:=by
 let e:=(tE m).symm.trans ((eh (λz=>bB z (.int 0)) h).trans (tE n));injection e with e;injection e with e;injection e with e
 let w:=B8 _ (tt m) _ (tt n);rw[show ws (wn m)=ws (wn n)from e,ej]at w;ext m<;>ext n<;>first|rfl|(exfalso;revert w;simp[wn];done)|(injection h with h;injection h with _ h;injection h with h g;injection h with h)
 .rw[zr h]
 .rw[h]
 .injection g with g;injection g with g;rw[zr h,g]
 .rw[h]
def Sj(o:VB b)(l:VB c)(B:SW b s)(A:SW c t)(h:eY s=eY t):s=t:=by
 injection h with h
 injection h with h1 h
 injection h with h2 h
 injection h with h3 _
 injection h1 with h1
 let j:=(acd λx y e=>by
  injection e with e;injection e with f e;injection e with e2 _;injection f with f
  show Prod.ext (afC f) (JS e2)).mp h1
 let F:=funext λk=>Option.ext λa=>#[λe=>by
   let:=(iO (p:=(k,a))).mpr #[(SA.ak o B.sa k a e).1,e];rw[j]at this;show(iO.mp this).2,λe=>by
   let:=(iO (p:=(k,a))).mpr #[(SA.ak l A.sa k a e).1,e];rw[<-j]at this;show(iO.mp this).2]
 let C:s.wt=t.wt:=by
  revert h2;cases s.wt with
  |none=>cases t.wt with
   |none=>show λ_=>W
   |some y=>show λe=>by ext e
  |some x=>cases t.wt with
   |none=>show λe=>by ext e
   |some y=>
    let(G,g,w):=x;let(H,i,v):=y;intro e;injection e with e;injection e with f e;injection e with e2 e;injection e with e3 _;injection f with f;injection e2 with e2;let f:=Nu f;let:w=v:=by
     revert e3;cases w with
     |none=>cases v with
      |none=>show λ_=>W
      |some q=>show λe=>by injection e with e;injection e with _ e;ext e
     |some p=>cases v with
      |none=>show λe=>by injection e with e;injection e with _ e;ext e
      |some q=>let(z,p2):=p;let(u,r):=q;show λe=>by let:=JS (m:=.tap z p2) (n:=.tap u r) e;injection this with a b;rw[a,b]
    rw[f,e2,this]
 let E:s.oc=t.oc:=by
  revert h3;cases s.oc<;>cases t.oc<;>intro e
  .rfl
  .ext e
  .ext e
  .injection e with e;rw[e]
 ext s;ext t;ext F;ext C;ext E;rfl
def sY(c:Nat->Nat)(N:Nat):D:=.list ((Wk N).map λi=>nd (c i))
theorem Fg(f:Nat->Nat->Nat):∀(a:G Nat) (k:Nat) (Z:bA),a.Pairwise (·<·)->(∀(j u:Nat),a[j]?=R u->Z[u]?=R (wJ (f (k+j)) N))->∃c,j4 (frz 3) Z (a.map .rf)=R ((Wk a.length).map λj=>sY (f (k+j)) N,c)/\∀j,j∉a->c[j]?=Z[j]?
 |[],k,Z,_,_=>#[Z,W,λ_ _=>W]
 |u::a,k,Z,b,h=>by
  let b:=ZF.mp b;let i:=h 0 u W;rw[zV]at i;let n:=Gw 2 i;let(c,m,l):=Fg f a (k+1) (Z.set u .dead) b.2 λj v g=>by rw[Xj (WZ (b.1 v (WC g)))];let:=h (j+1) v g;rwa [show k+(j+1)=k+1+j by ext]at this
  show#[c,?_,λj e=>?_]
  .show j4 (frz 3) Z (.rf u::a.map .rf)=_;ext j4;rw[n];dsimp only;rw[m,WJ,List.range_succ_eq_map,WL,WQ];dsimp only;congr 3;show Ys λj _=>?_;show sY (f (k+1+j)) N=sY (f (k+(j+1))) N;rw[show k+1+j=k+(j+1) by ext]
  .rw[W2,not_or]at e;rw[l j e.2,Xj λz=>e.1 z.symm]
def CD(f:Nat->Nat->Nat){a:G Nat}(e:Z[q]?=R (.lst (a.map .rf)))(g:a.Pairwise (·<·))(h:∀(j u:Nat),a[j]?=R u->Z[u]?=R (wJ (f j) N)):∃c,frz 4 Z (.rf q)=R (.list ((Wk a.length).map λj=>sY (f j) N),c)/\∀j,j∉a->j≠q->c[j]?=Z[j]? :=by
 let(o,n,m):=Fg f a 0 Z g λj u b=>by rw[Xt];show h j u b
 show#[o.set q .dead,?_,λj l i=>by rw[Xj λz=>i z.symm];show m j l];ext frz;rw[e];dsimp only;rw[n];simp only[Xt]
def uI(h:∃j:Nat,bs[j]?=R P):∃j,CM bs=R j:=by
 induction bs with
 |nil=>let(j,h):=h;ext h
 |cons b r f=>
  ext CM;by_cases e:b=P
  .show#[0,av e]
  .rw[ax e]
   let(j,a):=h;cases j with
   |zero=>show a7 (WE a) e
   |succ j=>let(i,g):=f #[j,a];show#[i+1,by rw[g];rfl]
theorem si(p:α->Bool):∀l:G α,pJ (l.map λc=>Wn.bool (p c))=R (l.map p)
 |[]=>rfl
 |a::r=>by rw[WL];ext pJ;rw[si p r];rfl
def Rb(b:kF x=P)(a:kF y=P):wC x y=-(.bool (!Wn.eqv x y)):=by ext wC;rw[b,Ds a,Y0,av W]
def xQ(xs e:br D)(K:xs.length=e.length)(R:xs.length<=900)(G:∀d∈xs,kF d=Wl)(F:∀d∈e,kF d=Wl)(E:eZ x=lD xs)(C:eZ y=lD e)(o:∃(i:Nat) (x y:D),xs[i]?=lD x/\e[i]?=lD y/\Wn.eqv x y=Wu):∃(i:Nat) (a c:D),iS [x,y]=.ok (.fz (nd i))/\xs[i]?=lD a/\e[i]?=lD c/\Wn.eqv a c=Wu:=by
 let A:(mf xs e).length=xs.length:=by rw[vW,K,Nat.min_self]
 let(bs,O,N,M):=qJ (gt:=gT 2 (MK (gN 0) (MK (gN 1) Tx))) (ft:=c9) (fe:=aW wC (aa 0) (aa 1)) (ds:=mf xs e) (λρ=>∃t r,ρ=[t,r]) (λi v=>∃b:Bool,v=.bool b/\∃a c,xs[i]?=lD a/\e[i]?=lD c/\b= !Wn.eqv a c) #[U,U,W] () (by
  rintro i d f ρ ⟨t,r,rfl⟩;rw[u6]at f;cases X:xs[i]? with
  |none=>rw[X]at f;ext f
  |some a=>
   cases Y:e[i]? with
   |none=>rw[X,Y]at f;ext f
   |some c=>rw[X,Y]at f;cases WE f;show#[.bool (!Wn.eqv a c),_,HU W W (aK (af W) (af W) W W (Rb (G a (WC X)) (F c (WC Y)))) W W,#[_,_,W],_,W,a,c,W,W,W])
 let(B,rfl,q):=qE bs 0 λi v J=>by let(b,n,p):=M i v J;show#[b,n,by rw[Xt];show p]
 rw[Wg,A]at N;let(m,T,S,n,p,L):=o;let(j,u):=uI #[m,by let Q:=(Wj.mp n).1;let w:B[m]?=lD (B[m]'()):=Wr _;let(a,c,g,h,l):=q m _ w;rw[Xt,n]at g;rw[Xt,p]at h;ext g;ext h;rw[w,l,L];rfl];let(H,_):=ur u;let(a,c,g,h,l):=q j Wl H;rw[Xt]at g h;let P:=(Wj.mp g).1;let I:mW [.list (B.map .bool)]=-(nd j):=by ext mW;dsimp only;rw[si (λb=>b) B,List.map_id'];dsimp only;rw[u];show av ()
 show#[j,a,c,?_,g,h,by cases z:Wn.eqv a c with|true=>rw[z]at l;ext l|false=>rfl];show jL W ?_;show fJ (eA (aq (eN (uw (aq (af W) (aq (af W) aH)) W E C) W O) aH) W I) W W
def KH(E:G D)(St:Nat->G Nat):Nat->Nat->G Nat->Prop
 |_,_,[]=>False
 |x,y,[p]=>∃(e b:G D) (a c:D),E[x]?=R (.tuple e)/\E[y]?=R (.tuple b)/\e[p]?=R a/\b[p]?=R c/\Wn.eqv a c=Wu
 |x,y,p::f::r=>∃h g,(St x)[p]?=R h/\(St y)[p]?=R g/\KH E St h g (f::r)
section
variable{E:br D}{St:Nat->br Nat}{N:Nat}
def KO(b:(St x)[p]?=R f)(a:(St y)[p]?=R e)(h:KH E St f e r):KH E St x y (p::r):=by
 cases r with
 |nil=>show h.elim
 |cons q r=>show#[f,e,b,a,h]
def Ek(c:i<N)(e:j<N):sq E St N (l+1) i=sq E St N (l+1) j↔sq E St N l i=sq E St N l j/\(St i).map (sq E St N l)=(St j).map (sq E St N l):=by
 show(Ai c e).trans #[λh=>?_,λ#[b,a]=>?_]
 .injection h with h
  injection h with b h
  injection h with a _
  injection a with a
  show#[Aa b,wc a]
 .ext uh;rw[b];congr 3;let:=eh (anv nd) a;rw[WQ,WQ]at this;show eh Wn.tuple this
def rN(a c:Nat):Wn.eqv (nd a) (nd c)=decide (a=c):=by
 let h:=yh a c;unfold eR at h;rw[av (show(kF (nd a)&&Wn.canLay0 (nd c))=P from rfl)]at h;injection h with h
 injection h with h
 injection h
def Rs{xs b:G Nat}(f:xs.length=b.length)(h:xs≠b):∃(i a c:Nat),xs[i]?=R a/\b[i]?=R c/\a≠c:=by
 induction xs generalizing b with
 |nil=>cases b with
  |nil=>show a7 W h
  |cons _ _=>ext f
 |cons x r g=>cases b with
  |nil=>ext f
  |cons y s=>
   by_cases e:x=y
   .subst e;let(i,a,c,m,l,j):=g (agp f) λz=>h (by rw[z]);show#[i+1,a,c,m,l,j]
   .show#[0,x,y,W,W,e]
def MP{xs b:G D}(f:xs.length=b.length)(h:xs≠b):∃(i:Nat) (a c:D),xs[i]?=R a/\b[i]?=R c/\a≠c:=by
 induction xs generalizing b with
 |nil=>cases b with
  |nil=>show a7 W h
  |cons _ _=>ext f
 |cons x r g=>cases b with
  |nil=>ext f
  |cons y s=>
   by_cases e:x=y
   .subst e;let(i,a,c,m,l,j):=g (agp f) λz=>h (by rw[z]);show#[i+1,a,c,m,l,j]
   .show#[0,x,y,W,W,e]
end
section
variable{ρ:bK}{Z Y T:bA}{i j:Nat}{x y:SV}{ds X:br D}{d:D}
def RH(b:sh Z x=R g)(a:sh Z y=R e)(h:f g e=R (.ow ds)):qV f x y Z=.ok (.rf Z.length) (Z++[.lst (ds.map .fz)]):=by ext qV;rw[b,a];dsimp only;rw[h];rfl
def vY(h:Z[i]?=R (.lst (ds.map .fz))):oX 6 Z (.rf i)=R (.list ds):=by
 ext oX;rw[h];show(aD (oX 5 Z) (ds.map .fz)).map Wn.list=_;let:∀l:G D,aD (oX 5 Z) (l.map .fz)=R l:=λl=>by
  induction l with
  |nil=>rfl
  |cons d r a=>unfold anv aD;rw[a];rfl
 rw[this];rfl
def IG(c:g ρ Z=.ok [.rf i,.rf j] Y)(e:Y[i]?=R (.lst (ds.map .fz)))(b:Y[j]?=R (.lst (X.map .fz)))(a:F [.list ds,.list X]=.ok (.fz (nd n))):iq F 2 g ρ Z=.ok (.fz (nd n)) Y:=by
 ext iq;rw[c,eo];ext wg;rw[av (show[SV.rf i,.rf j].length=2 from rfl)];let:aD (oX 6 Y) [.rf i,.rf j]=R [.list ds,.list X]:=by unfold aD aD;rw[vY e,vY b];rfl
 rw[this];show iw (match F [.list ds,.list X]with|.ok f=>nU Y f|_=>.bad)=_;rw[a];rfl
def Q8(c:fa ρ Z=.ok (.fz (.list ds)) Y)(a:fh ρ Y=.ok (.fz (nd f)) Y)(b:f<=ds.length):FC (UC TN fa AN (xp fh)) ρ Z=.ok (ds.take f).reverse (Y++[.dead]):=by
 let e:UC TN fa AN (xp fh) ρ Z=.ok (.rf Y.length) (Y++[.lst ((ds.take f).map .fz)]):=by
  ext UC;rw[c,eo,show AN ρ Y=.ok U Y from rfl,eo,show xp fh ρ Y=.ok (R (f:Int)) Y by ext xp;rw[a];rfl,eo];ext Tc;show(RS.Xu Y (TN (.list ds) U (R (f:Int)))).bind _=_;let:TN (.list ds) U (R (f:Int))=R (.ow (ds.take f)):=by show R (RV.ow (vx ds U (R (f:Int))))=_;ext vx;rw[HT.sIx_nat,HT.sIx_none,adz,aiW,ag9 b]
  rw[this];rfl
 ext FC;rw[e,eo,iE aO,fG]
end
def S1(St:Nat->G Nat)(N:Nat)(E:G D)(k:Nat):G (Str×SV):=[("steps",.fz (.list ((Wk N).map (CW St)))),("sends",.fz (.list E)),("rounds",.fz (.list ((Wk (k+1)).map λj=>sY (sq E St N j) N)))]
abbrev ER(o x y:Nat)(r:bK):bK:=R (.rf o)::-(nd x)::-(nd y)::r
def Rv{St:Nat->br Nat}(ho:Z[o]?=lD (.obj "Sorting" (S1 St N E k)))(hE:E.length=N)(hk:∀d∈E,LD.keyD d=Wl)(k9:k<=400)(h9:N<=400)(L9:L<=100)(V:∀r,r<N->(St r).length=L/\∀s∈St r,s<N)(hx:x<N)(hy:y<N)
  (he:∀a,a<N->∃ex:br D,E[a]?=lD (.tuple ex)/\ex.length=L/\∀d∈ex,kF d=Wl/\LD.kd d=Wl) (hne:sq E St N k x≠sq E St N k y):∃(row:br Nat) (i:Nat) (t:bA),dh [.rf o,.fz (nd x),.fz (nd y)] Z=.ok (.rf i) t/\t[i]?=lD (.lst ((bN row).map .fz))/\KH E St x y row/\row.length<=k+1/\(∀p∈row,p<L):=by
 let ajL:∀a c:Nat,wC (nd a) (nd c)=-(.bool (!decide (a=c))):=λa c=>(Rb W W).trans (by rw[rN]);let key:Out (dh [.rf o,.fz (nd x),.fz (nd y)] Z) (λv t=>∃(row:br Nat) (i:Nat),v=.rf i/\t[i]?=lD (.lst ((bN row).map .fz))/\KH E St x y row/\row.length<=k+1/\(∀p∈row,p<L)) (λ_=>False):=by
  show mG W ?_;show dm (d5 (by ext:0)) W ?_;let ol:=(Wj.mp ho).1;let S:(Z++[Cell.lst []])[o]?=lD (.obj "Sorting" (S1 St N E k)):=(WB ol).trans ho;let hr1:(Z++[Cell.lst []])[Z.length]?=lD (.lst ((bN []).map .fz)):=adm;let cm:=fZ (gt:=dB 0) (ft:=cF) (fe:=ag (aW wC (aW bB (aa 0) (aa 1)) (aW bB (aa 0) (aa 2)))) (λj=>sY (sq E St N j) N) (λj=>SV.fz (.bool (!decide (sq E St N j x=sq E St N j y)))) (Z++[Cell.lst []]) (λρ=>∃Q,ρ=[Q,-(nd x),-(nd y)]) (Wk (k+1)) [Wh,-(nd x),-(nd y)] [] #[Wh,W] (by rw[Wy];show 0+(k+1)<=_;ext) (by rintro j _ ρ ⟨Q,rfl⟩;show#[[-(sY (sq E St N j) N),-(nd x),-(nd y)],W,W,ai (aK (rv:=.fz (.bool (!decide (sq E St N j x=sq E St N j y)))) (aK (af W) (af W) W W (qM (cg hx))) (aK (rv:=.fz (nd (sq E St N j y))) (af W) (af W) W W (qM (cg hy))) W W (ajL _ _)),#[_,W]]);let(f,hf):=uI (bs:=(Wk (k+1)).map λj=> !decide (sq E St N j x=sq E St N j y)) #[k,by rw[cg (Yy _),aP hne];rfl];let(f1,f2):=ur hf;let fl:=(Wj.mp f1).1;rw[Wg,Wy]at fl;rw[cg fl]at f1;let fd:sq E St N f x≠sq E St N f y:=λz=>by rw[aE z]at f1;ext f1
  let fe:∀l,l<f->sq E St N l x=sq E St N l y:=λl hl=>by let:=f2 l hl;rw[cg ()]at this;show Classical.byContradiction λz=>this (by rw[aP z];rfl)
  let ix:mW [.list ((Wk (k+1)).map λj=>.bool (!decide (sq E St N j x=sq E St N j y)))]=-(nd f):=by ext mW;dsimp only;rw[si (λj=> !decide (sq E St N j x=sq E St N j y)) (Wk (k+1))];dsimp only;rw[hf];show av ()
  let cs:=gy (n:=1) (fj:=[1,2]) (ρ:=ER o x y [lD (.rf Z.length),Wh,Wh,Wh]) (GD (fe:=a8 "Sorting" "rounds" (az 0)) (cW (bf W) S W) (show eZ (.list ((Wk (k+1)).map λj=>sY (sq E St N j) N))=lD _ from rfl)) cm;rw[Yq]at cs;let cb:=nk (f:=mW) (au cs aL) (ds:=[.list ((Wk (k+1)).map λj=>.bool (!decide (sq E St N j x=sq E St N j y)))]) (by ext aD;rw[dQ (ds:=(Wk (k+1)).map λj=>.bool (!decide (sq E St N j x=sq E St N j y))) (by rw[WQ];show aO)];rfl) ix;show dm (ρ1:=ER o x y [lD (.rf Z.length),-(nd f),Wh,Wh]) cb W ?_;let A:∀{t:bA} {C:Cell} {i:Nat} {c:Cell},t[i]?=lD c->(t++[C])[i]?=lD c:=λ{t C i c} h=>(WB (Wj.mp h).1).trans h;let K:=A (C:=.lst ((Wk (k+1)).map λj=>SV.fz (.bool (!decide (sq E St N j x=sq E St N j y))))) S;let H:=A (C:=.lst ((Wk (k+1)).map λj=>SV.fz (.bool (!decide (sq E St N j x=sq E St N j y))))) hr1;generalize Z++[Cell.lst []]++[Cell.lst ((Wk (k+1)).map λj=>SV.fz (.bool (!decide (sq E St N j x=sq E St N j y))))]=Z2 at K H;generalize Z.length=r at H;let it:=Q8 (ρ:=ER o x y [lD (.rf r),-(nd f),Wh,Wh]) (fa:=a8 "Sorting" "rounds" (az 0)) (fh:=ag (aa 4)) (ds:=(Wk (k+1)).map λj=>sY (sq E St N j) N) (f:=f) (cW (bf W) K W) (ai (af W)) (by rw[Wg,Wy];ext);let dg:∀i,i<f->(((Wk (k+1)).map λj=>sY (sq E St N j) N).take f).reverse[i]?=lD (sY (sq E St N (f - 1 - i)) N):=λi hi=>by
   let tl:(((Wk (k+1)).map λj=>sY (sq E St N j) N).take f).length=f:=by rw[XT,Wg,Wy];ext
   rw[aeB (),tl,adV (),cg ()]
  let dl:(((Wk (k+1)).map λj=>sY (sq E St N j) N).take f).reverse.length=f:=by rw[Zr,XT,Wg,Wy];ext
  generalize (((Wk (k+1)).map λj=>sY (sq E St N j) N).take f).reverse=dss at it dg dl;show mI (J3 (λi ρ t=>∃(m b:Nat) (rw:br Nat) (o5 G:bP SV),ρ=ER o m b [lD (.rf r),-(nd f),o5,G]/\m<N/\b<N/\sq E St N (f - i) m≠sq E St N (f - i) b/\(∀l,l<f - i->sq E St N l m=sq E St N l b)/\rw.length=i/\(∀p∈rw,p<L)/\(∀s,KH E St m b s->KH E St x y (rw++s))/\t[r]?=lD (.lst ((bN rw).map .fz))/\t[o]?=lD (.obj "Sorting" (S1 St N E k))) it #[x,y,[],Wh,Wh,W,hx,hy,fd,fe,W,(λp hp=>nomatch hp),(λs h=>h),A H,A K] ?_ ?_)
  .rintro i d ρ t F ⟨m,b,rw,o5,G,rfl,hx',hy',hd',heq,hrl,hrL,hrS,hr,ho'⟩
   let il:i<f:=by rw[<-dl];show(Wj.mp F).1
   rw[dg i il]at F;ext F;obtain⟨l,hl⟩:∃l,f - i=l+1:=#[f - 1 - i,by ext];rw[hl]at hd' heq;rw[show f - 1 - i=l by ext,show f - (i+1)=l by ext];show#[ER o m b [lD (.rf r),-(nd f),-(sY (sq E St N l) N),G],t,W,?_];let mne:(St m).map (sq E St N l)≠(St b).map (sq E St N l):=λz=>hd' ((Ek hx' hy').mpr #[heq l (Yy _),z]);let(lx,sx):=V m hx';let(ly,sy):=V b hy';let(i0,a0,c0,m1,m2,m3):=Rs (by rw[Wg,Wg,lx,ly]) mne;let mm:∀z:Nat,((St z).map λs=>nd (sq E St N l s))=bN ((St z).map (sq E St N l)):=λz=>by ext bN;rw[WQ];rfl
   let on:∀(z:Nat),∀d∈(St z).map (λs=>nd (sq E St N l s)),kF d=Wl:=λz d F=>by let(s,_,rfl):=Xe.mp F;rfl
   let U:∀{g:dA} {w:Nat} {q:bA},w<N->g (ER o m b [lD (.rf r),-(nd f),-(sY (sq E St N l) N),G]) q=.ok (.fz (nd w)) q->q[o]?=lD (.obj "Sorting" (S1 St N E k))->eC 1 [5] (eT (L10.gL (a8 "Sorting" "steps" (az 0)) g)) (dB 0) cF (ag (aW bB (aa 1) (aa 0))) (ER o m b [lD (.rf r),-(nd f),-(sY (sq E St N l) N),G]) q=.ok (.rf q.length) (q++[.lst (((St w).map λs=>nd (sq E St N l s)).map .fz)]):=by intro g w q hw hg hoo;let cv:=fZ (gt:=dB 0) (ft:=cF) (fe:=ag (aW bB (aa 1) (aa 0))) nd (λs=>SV.fz (nd (sq E St N l s))) q (λρ=>∃Q,ρ=[Q,-(sY (sq E St N l) N)]) (St w) [Wh,-(sY (sq E St N l) N)] [] #[Wh,W] (by rw[(V w hw).1];show 0+L<=_;ext) (by rintro s hs' ρ ⟨Q,rfl⟩;show#[[-(nd s),-(sY (sq E St N l) N)],W,W,ai (aK (rv:=.fz (nd (sq E St N l s))) (af W) (af W) W W (qM (cg ((V w hw).2 s hs')))),#[_,W]]);let:=gy (n:=1) (fj:=[5]) (ρ:=ER o m b [lD (.rf r),-(nd f),-(sY (sq E St N l) N),G]) (GD (ck (cW (C:= "Sorting") (f:= "steps") (e:=az 0) (bf W) hoo W) hg (qM (cg hw))) (show eZ (CW St w)=lD ((St w).map nd)from rfl)) cv;rw[Yq]at this;rw[WQ];show this
   let(p,a,c,u1,O,Y,X):=xQ (x:=.list ((St m).map λs=>nd (sq E St N l s))) (y:=.list ((St b).map λs=>nd (sq E St N l s))) ((St m).map λs=>nd (sq E St N l s)) ((St b).map λs=>nd (sq E St N l s)) (by rw[Wg,Wg,lx,ly]) (by rw[Wg,lx];ext) (on m) (on b) W W #[i0,nd a0,nd c0,by rw[mm];ext bN;rw[Wv,m1];rfl,by rw[mm];ext bN;rw[Wv,m2];rfl,by rw[rN];show aP m3];rw[Wv]at O Y;let(M,P,rfl):=ZI.mp O;let(y'',q2,rfl):=ZI.mp Y;rw[rN]at X;let nxy:=of_decide_eq_false X;let J:=A (C:=.lst (((St b).map λs=>nd (sq E St N l s)).map .fz)) (A (C:=.lst (((St m).map λs=>nd (sq E St N l s)).map .fz)) ho');let u:=A (C:=.lst (((St b).map λs=>nd (sq E St N l s)).map .fz)) (A (C:=.lst (((St m).map λs=>nd (sq E St N l s)).map .fz)) hr);show dm (ρ1:=ER o m b [lD (.rf r),-(nd f),-(sY (sq E St N l) N),-(nd p)]) (IG (au (U hx' (ai (af W)) ho') (au (U hy' (ai (af W)) (A ho')) aL)) (A aO) aO u1) W ?_;generalize t++[Cell.lst (((St m).map λs=>nd (sq E St N l s)).map .fz)]++[Cell.lst (((St b).map λs=>nd (sq E St N l s)).map .fz)]=Z3 at J u;show sZ (iH (vA (x:=.fz (nd p)) (bf W) u (ai (af W)) u (by ext bN;rw[Wg,Wg];ext))) ?_;let ro:r≠o:=λz=>by rw[z,J]at u;ext u
   let B:(Z3.set r (.lst ((bN rw).map .fz++[.fz (nd p)])))[o]?=lD (.obj "Sorting" (S1 St N E k)):=(Xj ro).trans J;let R:(Z3.set r (.lst ((bN rw).map .fz++[.fz (nd p)])))[r]?=lD (.lst ((bN (rw++[p])).map .fz)):=(Xw (Wj.mp u).1).trans (by ext bN;rw[WI,WI];rfl);generalize Z3.set r (.lst ((bN rw).map .fz++[.fz (nd p)]))=Z4 at B R;show dm (ρ1:=ER o M b [lD (.rf r),-(nd f),-(sY (sq E St N l) N),-(nd p)]) (ck (ck (cW (bf W) B W) (ai (af W)) (qM (cg hx'))) (ai (af W)) (Hg (by rw[Wv,P];rfl))) W ?_;show C4 (mP (ck (ck (cW (bf W) B W) (ai (af W)) (qM (cg hy'))) (ai (af W)) (Hg (by rw[Wv,q2];rfl))) W) #[M,y'',rw++[p],_,_,W,sx _ (WC P),sy _ (WC q2),nxy,λl' hl'=>?_,by rw[Wm,hrl];rfl,λp' I=>?_,λs h=>?_,R,B]
   .let:=eh (·[p]?) ((Ek hx' hy').mp (heq (l'+1) ())).2;simp only[Wv,P,q2]at this;show WE this
   .rcases Xn.mp I with h|h
    .show hrL p' h
    .rw[WO.mp h,<-lx];show(Wj.mp P).1
   .rw[WY];show hrS _ (KO P q2 h)
  .rintro ρ' t ⟨m,b,rw,o5,G,rfl,hx',hy',hd',_,hrl,hrL,hrS,hr,ho'⟩
   rw[dl,aeA]at hd';let(ex,a1,a2,a3):=he m hx';let(T,b1,b2,b3):=he b hy';let nE:ex≠T:=λz=>hd' ((LP hk a1 b1).mpr (by rw[z]));let(i0,a0,c0,m1,m2,m3):=MP (a2.trans b2.symm) nE;let(p,a,c,u1,O,Y,X):=xQ (x:=.tuple ex) (y:=.tuple T) ex T (a2.trans b2.symm) () (λd F=>(a3 d F).1) (λd F=>(b3 d F).1) W W #[i0,a0,c0,m1,m2,afO.mpr λz=>m3 (LD.kd_eqv _ _ (a3 a0 (WC m1)).2 (b3 c0 (WC m2)).2 z)];show sI (dM (bf W) (QZ (au (zY (ds:=[.tuple ex,.tuple T]) (au (ck (cW (bf W) ho' W) (ai (af W)) (qM a1)) (au (ck (cW (bf W) ho' W) (ai (af W)) (qM b1)) aL)) W u1) aL) (show 1<=1000 by decide)) (RH (dQ (A hr)) (dQ (ds:=[nd p]) aO) (N7 (by ext bN;rw[Wg];show _+1<=_;ext)))) #[rw++[p],_,W,?_,hrS [p] #[ex,T,a,c,a1,b1,O,Y,X],by rw[Wm,hrl,dl];show f+1<=_;ext,λp' I=>?_]
   .rw[show bN (rw++[p])=bN rw++[nd p] by ext bN;rw[WI];rfl];show aO
   .rcases Xn.mp I with h|h
    .show hrL p' h
    .rw[WO.mp h,<-a2];show(Wj.mp O).1
 let(v,t,h,row,i,rfl,h1,h2,h3,h4):=key.all;show#[row,i,t,h,h1,h2,h3,h4]
def Pk(a:VB b)(f:SW b s)(g:∀e∈j,EV b e){i:Nat}(h:j[i]?=R e):∃t,eK ((gR b s r fs j).map kI) (eY (aZ b s e).1)=R t:=by let:=BI (b:=b) (s:=s) (r:=r) j fs (i+1);rw[Ce h]at this;show#[_,yq (this.map kI) (uz (lG a f (g e (WC h))) _ _)]
def uB(f:VB b)(g:∀e∈A,EV b e)(v:(cD b A N).length=N)(c:a<N):∃r:Rm,(cD b A N)[a]?=R r/\SW b r.s/\zX b A a=.tuple (A.map λe=>.tuple ((aZ b r.s e).2.map oU))/\(gK b A a).length=A.length/\∀(i:Nat) e,A[i]?=R e->∃t q,(gK b A a)[i]?=R t/\t<N/\(cD b A N)[t]?=R q/\q.s=(aZ b r.s e).1/\eK ((cD b A N).map kI) (eY (aZ b r.s e).1)=R t:=by
 let(lt,_):=oM f g v c;let u:cD b A a<+:cD b A N:=by let:=um b A a (N - a);rwa [afD ()]at this
 let m:cD b A (a+1)<+:cD b A N:=by let:=um b A (a+1) (N - (a+1));rwa [afD ()]at this
 let q:(cD b A a)[a]?=R ((cD b A a)[a]'lt):=Wr lt;generalize (cD b A a)[a]'lt=r at q;let l:=lu f g a r (WC q);show#[r,?_,l,?_,?_,λi e J=>?_]
 .let(t,e):=u;rw[<-e,WB lt];show q
 .ext zX;rw[q]
 .ext gK;rw[q];show Wg ..
 .let(t,n):=Pk (r:=a) (fs:=cD b A a) f l g J
  rw[<-rQ q]at n;let p:=yq (m.map kI) n;let(z,j,w):=rZ p;rw[Wv]at j;cases C:(cD b A N)[t]? with
  |none=>rw[C]at j;ext j
  |some o=>rw[C]at j;cases WE j;let y:=(Wj.mp C).1;let h:=lu f g N o (WC C);show#[t,o,?_,by ext,C,Sj f f h (lG f l (g e (WC J))) (LD.kd_eqv _ _ (wv (sf h)) (wv (sf (lG f l (g e (WC J))))) w),p];ext gK;rw[q];show(A.map _)[i]?=_;rw[Wv,J];show R (gm _ _)=_;ext gm;rw[n];rfl
theorem GR{St:Nat->G Nat}(g:E.length=N)(a:∀d∈E,LD.keyD d=P)(c:i<N)(b:j<N):∀k,sq E St N k i=sq E St N k j->E[i]?=E[j]?
 |0,h=>by let f:E[i]?=R (E[i]'()):=Wr _;let e:E[j]?=R (E[j]'()):=Wr _;rw[f,e,(LP a f e).mp h]
 |k+1,h=>GR g a c b k (by
  let:=(Ai c b).mp h;injection this with this
  injection this with this
  show Aa this)
def QN(f:VB b){n:Nat}(d:b.n=n)(l:n<=5)(j:0<=m)(g:m<=1000)(h:∀N,(cD b (bE n) N).length=N->m<(N:Int))(Z:bA):∃c,fE [.fz (bD b),.fz (.int m)] Z=.er (TM m) c:=by let(x,o,e,a):=(kT (xZ f d l j g Z) (λv c #[N,i,K,p,q,_]=>by let:=h N p;ext) λx a=>a.1).er;subst a;show#[o,e]
def Sv(g:VB b){n N:Nat}(d:b.n=n)(a:n<=5)(l:0<=m)(j:m<=1000)(f:(cD b (bE n) N).length=N)(h:(N:Int)<=m)(Z:bA):∃i c,fE [.fz (bD b),.fz (.int m)] Z=.ok (.rf i) c/\c[i]?=R (.lst ((((cD b (bE n) N).map kI).map Gi).map .fz)):=by let(v,o,e,t,i,K,q,r,rfl,rfl,a):=(kT (xZ g d a l j Z) (λv c p=>p) λx #[_,i,u]=>by let:=pH (Zm f) i;ext).all;rw[z4 q f]at a;show#[_,_,e,oZ.trans a]
def Oa(f:VB b){n N:Nat}(d:b.n=n)(p:n<=5)(j:0<=m)(g:m<=400)(a:(cD b (bE n) N).length=N)(h:(N:Int)<=m)(Z:bA):∃k c,MJ (bu b (bE n) N) (gK b (bE n)) N k/\dn [.fz (bD b),.fz (.int m)] Z=.ok (.fz (UB (gK b (bE n)) (bu b (bE n) N) (sq (bu b (bE n) N) (gK b (bE n)) N k) N)) c:=by let(v,o,e,u,k,r,t,q,rfl):=(kT (tj f d p j g Z) (λv c l=>l) λx #[_,i,y]=>by let:=pH (Zm a) i;ext).all;cases z4 r a;show#[k,o,q,e]
theorem Ke(h:aao sn):kF (.tuple (sn.map oU))=P:=Qv (by ext Wn.canLay0;show GZ λq a=>PD (h q a)) (by show Wn.depthAll (sn.map oU)+1<=64;let:=rF (l:=sn) λq _=>FY q;ext)
section
variable{b:Bd}{Y:br Evn}{N:Nat}{c:Nat->Nat}
def TZ(f:RG c N)(e:∀i j,i<N->j<N->c i=c j->(bu b Y N)[i]?=(bu b Y N)[j]?)(d:a<N):bB (.tuple ((Wk (Cn c N)).map (Iq (bu b Y N) c N))) (nd (c a))=-(zX b Y a):=by let cl:=ki (c:=c) d;let(_,h,g,_):=re f cl;show Hg ?_;rw[cg cl];ext Iq;rw[e _ a h d g];ext bu;rw[cg d];rfl
def Ur{St:Nat->G Nat}(f:RG c N)(e:∀i j,i<N->j<N->c i=c j->(St i).map c=(St j).map c)(d:a<N):bB (.tuple ((Wk (Cn c N)).map (Ix St c N))) (nd (c a))=-(.tuple (bN ((St a).map c))):=by let cl:=ki (c:=c) d;let(_,h,g,_):=re f cl;show Hg ?_;rw[cg cl,<-e _ a h d g];unfold Ix bN;rw[WQ];rfl
end
def QV{sn:Sn}(h:aao sn):LD.kd (.tuple (sn.map oU))=P:=by rw[LD.kd];show oi λq a=>PR (h q a)
def OD(h:ds[ds.length - 1]?=R d):bB (.list ds) (.int (-1))=-(d):=by let l:=(Wj.mp h).1;show(m9 ds (-1)).map RV.fz=_;ext m9;rw[KI ()];simp[h]
def Mz(b:RG c N)(a:s<Cn c N):Bx ((Wk N).map λi=>nd (c i)) (nd s)=R (lK c N s)\/¬N<=400:=by
 by_cases f:N<=400
 .left
  let(g,h,_):=re b a;let e:((Wk N).map λi=>nd (c i))=(k8 c N).map Wn.int:=by ext k8;rw[WQ];rfl
  rw[e];ext Bx;rw[L3.iZ];show(match tT (s:Int) (k8 c N)with|some j=>if j<1000 then R j else U|none=>U)=_;rw[g];show av ()
 .show .inr f
def Co{i:Nat}(h:a[i]?=R (-(d))):(cw a)[i]?=R (-(d)):=by ext cw;rw[Wv,h];rfl
def v7(A:VB b){n N k:Nat}(s:b.n=n)(R:n<=5)(O:0<=m)(X:m<=400)(w:(cD b (bE n) N).length=N)(h:(N:Int)<=m)(I:MJ (bu b (bE n) N) (gK b (bE n)) N k)(Z:bA)(d:ρ[0]?=lD (-(bD b)))(K:ρ[3]?=lD (-(.int m))):∃c,BZ "rounds" (Ap "Sorting" bO 3 (am (ag (aa 0)) (am (ag (aa 3)) aJ))) ρ Z=.ok (.rf Z.length) c/\c[Z.length]?=lD (.obj "Sorting" (S1 (gK b (bE n)) N (bu b (bE n) N) k)):=by
 let J:(Z++[Cell.obj "Sorting" []])[Z.length]?=lD (.obj "Sorting" []):=adm;let(v,Z1,e,rfl,N',q,S,h2,U,t,Y,g,f,ht,o,l,B,H,G,T,E,r):=(kT (BB A s R O () J) (λv c P=>P) λx #[_,i,hi]=>by let:=pH (Zm w) i;ext).all;cases z4 S w;cases O8 I #[o,l];let u:=Ct (C:= "Sorting") (F:=bO) (Z:=Z) (au (ai (af (Co d))) (au (ai (af (Co K))) aL)) W;rw[e]at u;rw[H]at f;let(Z2,p,y):=CD (sq (bu b (bE n) N) (gK b (bE n)) N) f G r;let M:Z.length∉B:=λhm=>by let(j,Q):=Yz.mp hm;let:=r j _ Q;rw[g]at this;ext this
 let L:Z.length≠q:=λz=>by rw[<-z,g]at f;ext f
 let a:=(y _ M L).trans g;rw[E]at p;show#[_,Nd (u.trans W) g W p a W,Xw (Wj.mp a).1]
def BH(f:VB b){n N k:Nat}(d:b.n=n)(o:n<=5){m:Int}(j:0<=m)(i:m<=400)(l:(cD b (bE n) N).length=N)(h:(N:Int)<=m)(g:MJ (bu b (bE n) N) (gK b (bE n)) N k)(s:Nat)(Z:bA):∃c,gb [.fz (bD b),.fz (nd s),.fz (nd s),.fz (.int m)] Z=.ok (.fz .none) c:=by
 let(q,p,_):=v7 f d o j i l h g Z (ρ:=[-(bD b),-(nd s),-(nd s),-(.int m),U,U,U]) W W;let a:Out (gb [.fz (bD b),.fz (nd s),.fz (nd s),.fz (.int m)] Z) (λv _=>v=.fz .none) (λ_=>False):=by show mG W ?_;ext Ae;show dm (ρ1:=[-(bD b),-(nd s),-(nd s),-(.int m),R (.rf Z.length),U,U]) p W ?_;show Lg (cJ (ci (aK (rv:=.fz (.bool P)) (af W) (af W) W W (STP.NO W)) W)) (GQ (ai aQ) W)
 let(v,c,e,rfl):=a.all;show#[c,e]
def gf(n p:Nat):Evn:=((bE n)[p]?).getD .turn
def J8(g:VB b){n N k:Nat}(c:b.n=n)(I:n<=5)(U:0<=m)(T:m<=400)(t:(cD b (bE n) N).length=N)(h:(N:Int)<=m)(M:MJ (bu b (bE n) N) (gK b (bE n)) N k)(G:s<Cn (sq (bu b (bE n) N) (gK b (bE n)) N k) N)(o:s'<Cn (sq (bu b (bE n) N) (gK b (bE n)) N k) N)(ne:s≠s')(Y:k<=400)(Z:bA):∃(row:br Nat) (i:Nat) (l:bA),gb [.fz (bD b),.fz (nd s),.fz (nd s'),.fz (.int m)] Z=.ok (.rf i) l/\l[i]?=lD (.lst ((row.map λp=>cP (gf n p)).map .fz))/\KH (bu b (bE n) N) (gK b (bE n)) (lK (sq (bu b (bE n) N) (gK b (bE n)) N k) N s) (lK (sq (bu b (bE n) N) (gK b (bE n)) N k) N s') row/\row.length<=k+1/\∀p∈row,p<(bE n).length:=by
 let f:=wo c;let A:(bE n).length<=100:=by ext bE;rw[Wm,Wm,Wg,Wg,Wy];show n+n+1<=_;ext
 let ev:=Mw c I;let J:(bu b (bE n) N).length=N:=by ext bu;rw[Wg,Wy]
 let u:=uZ (St:=gK b (bE n)) J k;let(_,f2,f3,_):=re u G;let(_,g2,g3,_):=re u o;let B:N<=400:=by ext
 let(Z1,e1,y):=v7 g c I U T t h M Z (ρ:=[-(bD b),-(nd s),-(nd s'),-(.int m),Wh,Wh,Wh]) W W;let i1:=(Mz u G).resolve_right λz=>z B;let i2:=(Mz u o).resolve_right λz=>z B;let w:Out (gb [.fz (bD b),.fz (nd s),.fz (nd s'),.fz (.int m)] Z) (λv l=>∃(row:br Nat) (i:Nat),v=.rf i/\l[i]?=lD (.lst ((row.map λp=>cP (gf n p)).map .fz))/\KH (bu b (bE n) N) (gK b (bE n)) (lK (sq (bu b (bE n) N) (gK b (bE n)) N k) N s) (lK (sq (bu b (bE n) N) (gK b (bE n)) N k) N s') row/\row.length<=k+1/\∀p∈row,p<(bE n).length) (λ_=>False):=by
  show mG W ?_;show dm e1 W ?_;let eq:=yh s s';rw[aP ne]at eq;show Dt (cJ (ci (aK (af W) (af W) W W eq) W)) (yi ?_);let X:bB (.list ((Wk (k+1)).map λj=>sY (sq (bu b (bE n) N) (gK b (bE n)) N j) N)) (.int (-1))=-(sY (sq (bu b (bE n) N) (gK b (bE n)) N k) N):=OD (by rw[Wg,Wy];show cg (Yy _));show dm (jQ (ck (cW (bf W) y W) (ai (xT (rv:=.fz (.int (-1))) aQ W W)) X) W) W ?_;show dm (ρ1:=[-(bD b),-(nd s),-(nd s'),-(.int m),lD (.rf Z.length),-(sY (sq (bu b (bE n) N) (gK b (bE n)) N k) N),-(.list ((bE n).map cP))]) (jQ (d5 (cI (aq (af W) aH) W W ev)) (by rw[iE aO,fG])) W ?_;let q:(Z1++[Cell.dead])[Z.length]?=lD (.obj "Sorting" (S1 (gK b (bE n)) N (bu b (bE n) N) k)):=(WB (Wj.mp y).1).trans y;let(row,i,Z2,S,R,Q,P,E):=Rv q J (D8 g f t) Y B A (λr H=>by
   let(_,_,_,_,O,_):=uB g f t H;show#[O,(FR g f () t H).2]) f2 g2 (λa ha=>by
   let(r,_,L,dr,_,_):=uB g f t ha;show#[_,by ext bu;rw[cg ha,dr],Wg ..,λd hd=>?_];let(e,he,rfl):=Xe.mp hd;let C:=Ab g L (f e he);show#[Ke C,QV C]) (by rw[f3,g3];show ne)
  let K:=fZ (gt:=dB 0) (ft:=cF) (fe:=ag (aW bB (aa 1) (aa 0))) nd (λp=>SV.fz (cP (gf n p))) (Z2.set i .dead) (λρ=>∃F,ρ=[F,-(.list ((bE n).map cP))]) row [Wh,-(.list ((bE n).map cP))] [] #[Wh,W] (by show 0+_<=_;ext) (by rintro p hp ρ ⟨F,rfl⟩;show#[[-(nd p),-(.list ((bE n).map cP))],W,W,ai (aK (af W) (af W) W W (qM (by ext gf;rw[Wv,Wr (E p hp)];rfl))),#[_,W]]);rw[Yq]at K;show sI (gy (Eb (yD (bf W) q W (au (ai (IP W (af W) W i1)) (au (ai (IP W (af W) W i2)) aL)) W S) R) K) #[row,_,W,by rw[WQ];show aO,Q,P,E]
 let(v,l,e,row,i,rfl,a1,a2,a3,a4):=w.all;show#[row,i,l,e,a1,a2,a3,a4]
def A2(E:G D)(St:Nat->G Nat):Nat->G Nat->I D
 |_,[]=>U
 |a,[p]=>(match E[a]? with
  |some (.tuple ex)=>ex[p]?
  |_=>U)
 |a,p::q::r=>(match(St a)[p]? with
  |some b=>A2 E St b (q::r)
  |none=>U)
theorem EF{St:Nat->G Nat}:∀{row:G Nat} {x y:Nat},KH E St x y row->∃u v,A2 E St x row=R u/\A2 E St y row=R v/\Wn.eqv u v=Wu
 |[],_,_,h=>h.elim
 |[p],x,y,#[ex,t,a,c,i,g,m,l,j]=>#[a,c,by ext A2;rw[i];show m,by ext A2;rw[g];show l,j]
 |p::q::r,x,y,#[o,n,i,g,h]=>by let(u,v,f,e,b):=EF h;show#[u,v,by ext A2;rw[i];show f,by ext A2;rw[g];show e,b]
def KQ(a:n=1\/n=2\/n=3):∀p,p<(bE n).length->Fw ((bE n).map cP) (cP (gf n p))=R p/\(((bE n).map cP).any λe=>Wn.eqv e (cP (gf n p)))=P/\(kF (cP (gf n p))&&Wn.canLayAll0 ((bE n).map cP))=P:=by rcases a with rfl|rfl|rfl<;>left
def Uh(c:n=1\/n=2\/n=3)(a:p<(bE n).length):HY (cP (gf n p)) (.list ((bE n).map cP))=-(.bool P):=by let(_,e,b):=KQ c p a;show(if _ then _ else _)=_;rw[av b,e]
section
variable{E:br D}{St:Nat->br Nat}{N L n:Nat}{c:Nat->Nat}{A S:D}
def FP(V:n=1\/n=2\/n=3)(Y:L=(bE n).length)(J:∀r,r<N->(St r).length=L/\∀s∈St r,s<N)(M:∀a,a<N->∃ex:br D,E[a]?=lD (.tuple ex)/\ex.length=L/\∀d∈ex,kF d=Wl)(O:∀a,a<N->bB S (nd (c a))=-((E[a]?).getD .none))(P:∀a,a<N->bB A (nd (c a))=-(.tuple (bN ((St a).map c)))){a:Nat}(ha:a<N){row:br Nat}(K:∀p∈row,p<L){u:D}(I:A2 E St a row=lD u):fU [.tuple [A,S],.list ((bE n).map cP),nd (c a),.list (row.map λp=>cP (gf n p))]=.ok (.fz u):=by
 let o:∃rv,gI 7 ka [.tuple [A,S],.list ((bE n).map cP),nd (c a),.list (row.map λp=>cP (gf n p))]=.ok rv/\rv=.fz u:=by
  show ng (T:=λrv=>rv=.fz u) (ρ:=[zf (.tuple [A,S]),zf (.list ((bE n).map cP)),zf (nd (c a)),zf (.list (row.map λp=>cP (gf n p))),Wh,Wh,Wh]) W ?_;ext ka;show d9 (pv:=.fz .none) (ρ3:=[zf (.tuple [A,S]),zf (.list ((bE n).map cP)),zf (nd (c a)),zf (.list (row.map λp=>cP (gf n p))),zf .none,Wh,Wh]) aQ W W ?_;show pI (λi ρ=>∃(b:Nat) (t:D) (m l:bP PV),b<N/\(A2 E St b (row.drop i)=lD u\/(row.length<=i/\t=u))/\ρ=[zf (.tuple [A,S]),zf (.list ((bE n).map cP)),zf (nd (c b)),zf (.list (row.map λp=>cP (gf n p))),zf t,m,l]) (ds:=row.map λp=>cP (gf n p)) (iR (d:=.list (row.map λp=>cP (gf n p))) (af W) W W) #[a,.none,Wh,Wh,ha,.inl (by rw[adz];show I),W] ?_ ?_
  .rintro i d ρ j ⟨b,t,m,l,e,h,rfl⟩
   rw[Wv]at j;cases z:row[i]? with
   |none=>rw[z]at j;ext j
   |some p=>
    rw[z]at j;cases WE j;let H:=(Wj.mp z).1;let X:=K p (WC z);let h:A2 E St b (row.drop i)=lD u:=h.resolve_right λk=>by ext
    let(ex,B,Z,_):=M b e;let(Q,G):=J b e;obtain⟨w,y⟩:∃w,ex[p]?=lD w:=#[_,Wr ()];obtain⟨f,g⟩:∃x,(St b)[p]?=lD x:=#[_,Wr ()];let v:=O b e;rw[B]at v;let F:bB (.tuple ex) (nd p)=-(w):=Hg y;let C:bB (.tuple (bN ((St b).map c))) (nd p)=-(nd (c f)):=Hg (by ext bN;rw[Wv,Wv,g];rfl);show#[[zf (.tuple [A,S]),zf (.list ((bE n).map cP)),zf (nd (c b)),zf (.list (row.map λp=>cP (gf n p))),zf t,zf (cP (gf n p)),l],W,?_];show d9 (ρ3:=[zf (.tuple [A,S]),zf (.list ((bE n).map cP)),zf (nd (c b)),zf (.list (row.map λp=>cP (gf n p))),zf t,zf (cP (gf n p)),zf (nd p)]) (MS W (af W) W (KQ V p ()).1) W W ?_;show d9 (ρ3:=[zf (.tuple [A,S]),zf (.list ((bE n).map cP)),zf (nd (c b)),zf (.list (row.map λp=>cP (gf n p))),zf w,zf (cP (gf n p)),zf (nd p)]) (aK (rv:=.fz w) (aK (rv:=.fz (.tuple ex)) (aK (rv:=.fz S) (af W) aQ W W lZ) (af W) W W v) (af W) W W F) W W ?_;show DY (ρ2:=[zf (.tuple [A,S]),zf (.list ((bE n).map cP)),zf (nd (c f)),zf (.list (row.map λp=>cP (gf n p))),zf w,zf (cP (gf n p)),zf (nd p)]) (aK (rv:=.fz (nd (c f))) (aK (rv:=.fz (.tuple (bN ((St b).map c)))) (aK (rv:=.fz A) (af W) aQ W W jF) (af W) W W (P b e)) (af W) W W C) W #[f,w,_,_,G _ (WC g),?_,W];rw[YF H,(Wj.mp z).2]at h;cases q:row.drop (i+1)with
    |nil=>rw[q]at h;unfold A2 at h;rw[B]at h;let h:ex[p]?=lD u:=h;rw[y]at h;show .inr #[List.drop_eq_nil_iff.mp q,WE h]
    |cons U R=>rw[q]at h;unfold A2 at h;rw[g]at h;show .inl h
  .rintro ρ ⟨b,t,m,l,_,h,rfl⟩
   rw[Wg,List.drop_length]at h;let h:t=u:=by
    rcases h with h|h
    .unfold A2 at h;ext h
    .show h.2
   rw[h];show fJ (rv:=.fz u) (af W) W W
 let(rv,h,rfl):=o;show h
end
def Lk(c:n=1\/n=2\/n=3){row:G Nat}(o:fU [.tuple [.tuple A,S],.list ((bE n).map cP),nd s,.list (row.map λp=>cP (gf n p))]=.ok (.fz u))(lb:fU [.tuple [.tuple A,S],.list ((bE n).map cP),nd C,.list (row.map λp=>cP (gf n p))]=.ok (.fz v))(l:kF u=P)(j:kF v=P)(ne:Wn.eqv u v=Wu)(y:1<=row.length)(t:row.length<=A.length)(w:row.length<=900)(r:∀p∈row,p<(bE n).length):gc [.tuple [.tuple A,S],.list ((bE n).map cP),.tuple [nd s,nd C],.list (row.map λp=>cP (gf n p))]=.ok (.fz (.bool P)):=by
 let m:cO [.list (row.map λp=>cP (gf n p))]=-(nd row.length):=(gr _).trans (by rw[Wg]);let q:cO [.tuple A]=-(nd A.length):=W;let i:P7 (.int 1) (nd row.length)=-(.bool P):=(Fk _ _).trans (by rw[aE ()]);let g:P7 (nd row.length) (nd A.length)=-(.bool P):=(Fk _ _).trans (by rw[aE ()]);let cm:mv (fu (gN 0) c9 (aW HY (aa 0) (aa 1)) (row.map λp=>cP (gf n p)) [U,-(.list ((bE n).map cP))] [])=.ok (row.map λ_=>Wn.bool P):=jm (λp=>cP (gf n p)) (λ_=>.bool P) row () W λp h=>aK (af W) (af W) W W (Uh c (r p h));let e:=rE (λ_=>P) row;rw[YS.mpr (λ_ _=>W)]at e;let a:∃J,gI 4 lX [.tuple [.tuple A,S],.list ((bE n).map cP),.tuple [nd s,nd C],.list (row.map λp=>cP (gf n p))]=.ok J/\J=.fz (.bool P):=by show ng W ?_;let f:LM (wV (a9 (HX "list" (aa 3)))) (LM (wV (a9 (vE P7 P7 (~~~1) (gq cO {aa 3}) (gq cO {aW bB (aa 0) (~~~0)})))) (wV (a9 (gq yr {eB 1 [1] (gU (aa 3)) (gN 0) c9 (aW HY (aa 0) (aa 1))})))) [zf (.tuple [.tuple A,S]),zf (.list ((bE n).map cP)),zf (.tuple [nd s,nd C]),zf (.list (row.map λp=>cP (gf n p)))]=.ok (Wu,[zf (.tuple [.tuple A,S]),zf (.list ((bE n).map cP)),zf (.tuple [nd s,nd C]),zf (.list (row.map λp=>cP (gf n p)))]):=zT (uy (ci (Ja (dx:=.list (row.map λp=>cP (gf n p))) (af W) W W) W)) λ_=>zT (uy (ci (BQ aQ (eA (aq (af W) aH) W m) (eA (aq (aK (af W) aQ W W jF) aH) W q) W W W i λ_=>g) W)) λ_=>uy (ci (eA (aq (eN (iR (af W) W W) W cm) aH) W e) W);show pz f (λz=>by ext z) λ_=>hG ?_;let b:=Rb l j;rw[ne]at b;show fJ (aK (cI (aq (af W) (aq (af W) (aq (aK (af W) aQ W W jF) (aq (af W) aH)))) W W o) (cI (aq (af W) (aq (af W) (aq (aK (af W) aQ W W lZ) (aq (af W) aH)))) W W lb) W W b) W W
 let(J,h,rfl):=a;show h
def p2(x:Nat×Nat):D:=.tuple [nd x.1,nd x.2]
def Bq(M:Nat)(x:Nat×Nat):Prop:=x.1≠x.2/\x.1<M/\x.2<M
theorem US(h:f b=.ok (.nx a))(k:Go (g a) N C T):Go (bZ f g b) N C T:=.eq (by ext bZ;rw[h];rfl) k
def IR(ns:br Int)(M:Nat)(h0:0<M)(D:M<=40):∃s:br (Nat×Nat),(∀x∈s,Bq M x)/\jj [.list (ns.map .int),nd M]=.ok (.ow (s.map p2)):=by
 let U:=iG (n:=M) ();let H:∃rv,gI 7 lR [.list (ns.map .int),nd M]=.ok rv/\∃s:br (Nat×Nat),(∀x∈s,Bq M x)/\rv=.ow (s.map p2):=by
  show ng W ?_;show d9 (mK aH W (Xq _)) W W ?_;show pI (λi ρ=>∃(s:br (Nat×Nat)) (l:bP PV),(∀x∈s,Bq M x)/\s.length<=40*i/\ρ=[zf (.list (ns.map .int)),zf (nd M),zo (s.map p2),l,Wh,Wh,Wh]) (oa (aq (af W) aH) W U) #[[],Wh,(λx b=>nomatch b),Xq _,W] ?_ ?_
  .rintro i d ρ O ⟨s,l,A,L,rfl⟩
   let(a,ha,rfl):=lw O;let(rfl,aM):=ri ha;let cm:mv (fu (gN 0) c9 (df {aa 1,aa 0}) (bN (Wk a)) [Wh,-(nd a)] [])=.ok ((Wk a).map λc=>p2 (a,c)):=jm nd (λc=>p2 (a,c)) (Wk a) (by rw[Wy];ext) W λc _=>hW (aq (af W) (aq (af W) aH)) W (Wx W);show#[[zf (.list (ns.map .int)),zf (nd M),zo (s.map p2),zf (nd a),Wh,Wh,Wh],W,?_];show nY (Tk W (eN (oa (aq (af W) aH) W (iG ())) W cm) W (by rw[Wg,Wg,Wy];ext)) #[s++(Wk a).map λc=>(a,c),_,λx b=>?_,by rw[Wm,Wg,Wy];ext,by rw[WI,WQ];rfl];rcases Xn.mp b with b|b
   .show A x b
   .let(c,Z,rfl):=Xe.mp b;let:=Xz.mp Z;show#[by show a≠c;ext,aM,by show c<M;ext]
  .rintro ρ ⟨s,l,A,L,rfl⟩
   let L:s.length<=2000:=by
    let e:(bN (Wk M)).length=M:=by ext bN;rw[Wg,Wy]
    rw[e]at L;ext
   let I:∃ps':br (Nat×Nat),(∀x∈ps',Bq M x)/\ps'.length<=5/\pq (a9 (aW G1 (gq cO {aa 2}) (~~~5))) (gw (eB 1 [2,0] (k7 gW {~~~5}) (gN 0) c9 (aW bB (aa 1) (eE aV 3 {aW dC (eE bJ 2 {aa 2,aW dC (~~~12) (aa 0)}) (aa 0),~~~61,gq cO {aa 1}}))) (gN 2)) fV [zf (.list (ns.map .int)),zf (nd M),zo (s.map p2),l,Wh,Wh,Wh]=.ok (.nx [zf (.list (ns.map .int)),zf (nd M),zo (ps'.map p2),l,Wh,Wh,Wh]):=by
    let y:cO [.list (s.map p2)]=-(nd s.length):=(gr _).trans (by rw[Wg]);let B:a9 (aW G1 (gq cO {aa 2}) (~~~5)) [zf (.list (ns.map .int)),zf (nd M),zo (s.map p2),l,Wh,Wh,Wh]=.ok (decide ((5:Int)<(s.length:Int)),[zf (.list (ns.map .int)),zf (nd M),zo (s.map p2),l,Wh,Wh,Wh]):=ci (aK (eA (aq (hJ W) aH) W y) aQ W W (xu _ _)) W;by_cases g:(5:Int)<(s.length:Int)
    .rw[aE g]at B
     let(xs,c1,T,c3):=qJ (gt:=gN 0) (ft:=c9) (fe:=aW bB (aa 1) (eE aV 3 {aW dC (eE bJ 2 {aa 2,aW dC (~~~12) (aa 0)}) (aa 0),~~~61,gq cO {aa 1}})) (ds:=bN (Wk 5)) (λρ=>∃o,ρ=[o,-(.list (s.map p2)),-(.list (ns.map .int))]) (λ_ v=>∃q:Nat×Nat,v=p2 q/\Bq M q) #[Wh,W] () (by rintro j d N ρ ⟨o,rfl⟩;let(k,S,rfl):=lw N;let(c,P):=lO ns (12+k);let(r,E,t):=gx (c+k) 61 s.length () ();let K:=Wr t;show#[p2 (s[r]'t),_,HU W W (aK (af W) (cI (aq (aK (cI (aq (af W) (aq (aK aQ (af W) W W (gJ 12 (k:Int))) aH)) W W P) (af W) W W (gJ c (k:Int))) (aq aQ (aq (eA (aq (af W) aH) W y) aH))) W W E) W W (qM (by rw[Wv,K];rfl))) W W,#[_,W],_,W,A _ (Yw t)]);let(p,rfl,X):=qE (Q:=λ_ q=>Bq M q) xs 0 c3;show#[p,λx b=>?_,?_,?_]
     .let(j,N):=Yz.mp b;show X j x N
     .rw[Wg]at T;rw[T];decide
     .show(Uz B).trans (zW (eN (oa (aq aQ aH) W W) W c1) W W)
    .rw[aP g]at B;show#[s,A,by ext,(T3 B).trans W]
   let(p,K,ql,ei):=I;show US ei ?_;show d9 (mK aH W (Xq _)) W W ?_;let y:cO [.list (p.map p2)]=-(nd p.length):=(gr _).trans (by rw[Wg]);show pI (λi ρ=>∃(m:br (Nat×Nat)) (F w:bP PV),(∀x∈m,Bq M x)/\m.length=i/\ρ=[zf (.list (ns.map .int)),zf (nd M),zo (p.map p2),l,zo (m.map p2),F,w]) (oa (aq (eA (aq (hJ W) aH) W y) aH) W (iG ())) #[[],Wh,Wh,(λx b=>nomatch b),W,W] ?_ ?_
   .rintro i d ρ O ⟨m,F,w,J,t,rfl⟩
    let(k,S,rfl):=lw O;let(rfl,G):=ri S;let(c,P):=lO ns (12+k);let(r,E,_):=gx c 63 2 () ();let u:=Wr G;let f:=K _ (Yw G);generalize p[k]'G=q at u f;let R:bB (.list (p.map p2)) (nd k)=-(p2 q):=qM (by rw[Wv,u];rfl);show#[[zf (.list (ns.map .int)),zf (nd M),zo (p.map p2),l,zo (m.map p2),zf (nd k),w],W,?_];show d9 (aK (cI (aq (cI (aq (af W) (aq (aK aQ (af W) W W (gJ 12 (k:Int))) aH)) W W P) (aq aQ (aq aQ aH))) W W E) aQ W W (yh r 1)) W W ?_;let Y:∃z:Nat×Nat,Bq M z/\P0 (a9 (aa 6)) (Cp L9.MZ (aW bB (aa 2) (aa 5))) (aW bB (aa 2) (aa 5)) [zf (.list (ns.map .int)),zf (nd M),zo (p.map p2),l,zo (m.map p2),zf (nd k),zf (.bool (decide (r=1)))]=.ok (.fz (p2 z),[zf (.list (ns.map .int)),zf (nd M),zo (p.map p2),l,zo (m.map p2),zf (nd k),zf (.bool (decide (r=1)))]):=by
     by_cases e:r=1
     .rw[aE e];show#[(q.2,q.1),#[λz=>f.1 z.symm,f.2.2,f.2.1],Rp (ci (af W) W) (xT (rv:=.fz (p2 (q.2,q.1))) (aK (hJ W) (af W) W W R) W W)]
     .rw[aP e];show#[q,f,Sd (ci (af W) W) (aK (hJ W) (af W) W W R)]
    let(z,C,ez):=Y;show nY (u0 W ez W W (by rw[Wg];ext) W) #[m++[z],_,_,λx b=>?_,by rw[Wm,t];rfl,by rw[WI];rfl];rcases Xn.mp b with b|b
    .show J x b
    .rw[WO.mp b];show C
   .rintro ρ ⟨m,F,w,J,_,rfl⟩;show fJ (hJ W) W #[m,J,W]
 let(rv,h,s,h1,rfl):=H;show#[s,h1,h]
def Ax(i:j g Z=.ok xs f)(c:aD Ak xs=U)(a:aD (oX 6 f) xs=R ds)(d:xs.length=n)(e:F ds=.ok (.fz (.bool b))):iq F n j g Z=.ok (.fz (.bool b)) f:=by ext iq;rw[i,eo];ext wg;rw[av d,c];rw[a];show iw (match F ds with|.ok h=>nU f h|_=>.bad)=_;rw[e];rfl
theorem KA{St:Nat->G Nat}(a:MJ E St N k)(b:0<N):∀j,j<=k->j+1<=Cn (sq E St N j) N
 |0,_=>by let:=ki (c:=sq E St N 0) b;ext
 |j+1,h=>by let:=KA a b j ();let:=a.2 j ();ext
def Lo(h:dn [.fz (bD b),.fz (.int 40)] Z=.er (TM 40) a):cK [.fz (bD b)] Z=.ok (.fz .none) a:=by ext cK;dsimp only;rw[h];show av W
def Kv(h:dn [.fz (bD b),.fz (.int 40)] Z=.ok v a):cK [.fz (bD b)] Z=.ok v a:=by ext cK;dsimp only;rw[h]
def Mo(g:VB b){n:Nat}(c:b.n=n)(l:n<=5)(h:¬∃N,(cD b (bE n) N).length=N/\N<=40)(Z:bA):∃(M:Nat) (a:bA),40<M/\e9 [.fz (bD b)] Z=.ok (.fz (nd M)) a:=by
 by_cases j:∃M,(cD b (bE n) M).length=M/\M<=400
 .let(M,f,p):=j;let(i,a,e,q):=Sv g c l (m:=400) () () f () Z;show#[M,a,Nat.lt_of_not_le λz=>h #[M,f,z],?_];ext e9;dsimp only;rw[e];dsimp only;rw[dQ q];dsimp only;rw[Wg,Wg,f]
 .let(a,e):=QN g c l (m:=400) () () (λN o=>by
   let:¬N<=400:=λz=>j #[N,o,z];ext) Z
  show#[401,a,by decide,?_];ext e9;dsimp only;rw[e];show av W
abbrev GK(ns:G Int)(b:Bd)(n:Nat)(A S:D)(M:Nat)(r:bK):bK:=-(.list (ns.map .int))::-(bD b)::-(.tuple [A,S])::-(.list ((bE n).map cP))::-(nd M)::r
def main(ns:br Int)(V:ns.length<=63):L10.Ux F_law [.list (ns.map .int)]=.ok (.fz (.bool Wl)):=by
 let(n,hn,ek):=Po ns;let(b,g,y,eb):=Q1 ns 1 n hn;let C:n<=5:=by ext
 let e1:=Oo y C;let o:=wo y;let ell:(bE n).length<=100:=by ext bE;rw[Wm,Wm,Wg,Wg,Wy];show n+n+1<=_;ext
 let U:Out (F_law [.fz (.list (ns.map .int))] []) (λx _=>x=.fz (.bool Wl)) (λ_=>False):=by
  show mG W ?_;show dm (ai (cI (aq (af W) (aq aQ (aq (cI (aq (af W) aH) W W ek) aH))) W W eb)) W ?_;by_cases f:∃N,(cD b (bE n) N).length=N/\N<=40
  case neg=>
   let(x,Z',ee,rfl):=(kT (tj g y C () () []) (X':=λx=>x=TM 40) (λv Z' #[N,k,G,L,_]=>f #[N,G,by ext]) λx hx=>hx.1).er;show dm (jQ (qG (au (ai (af W)) aL) W (Lo ee)) (by rfl)) W ?_;let(M,P,hM,em):=Mo g y C f Z';let gt:=(xu (M:Int) 40).trans (by rw[aE ()]);show Lg (cJ (ci (aK (af W) aQ W W W) W)) (GQ (dM (qG (au (ai (af W)) aL) W em) (ai aQ) (cZ gt)) W)
  let(N,f,h40):=f;let(k,Z1,l,em):=Oa g y C (m:=40) () () f () [];let dl:(bu b (bE n) N).length=N:=by ext bu;rw[Wg,Wy]
  let h0:0<N:=by let:=yf b (bE n) N;ext
  let K:=uZ (St:=gK b (bE n)) dl k;let kC:=KA l h0 k (Ww _);let CN:=Cr K N (Ww _);let ao:=λ{s s'} Z G L h3=>J8 (s:=s) (s':=s') g y C (m:=40) () () f () l G L h3 () Z;let ae:=λs Z=>BH g y C (m:=40) () () f () l s Z;let ae4:=λs Z=>BH g y C (m:=400) () () f () l s Z;let sd:∀a,a<N->_:=λa ha=>TZ K (λi j hi Y e=>GR dl (D8 g o f) hi Y k e) ha;let Q:∀a,a<N->_:=λa ha=>Ur K (λi j hi Y e=>HF dl l.1 hi Y e) ha;let fo:∀s,s<Cn (sq (bu b (bE n) N) (gK b (bE n)) N k) N->_:=λs I=>re K I;let J:∀a,a<N->∃O:br D,(bu b (bE n) N)[a]?=lD (.tuple O)/\O.length=(bE n).length/\∀d∈O,kF d=Wl:=λa ha=>by let(r,_,sw,dr,_,_):=uB g o f ha;show#[_,by ext bu;rw[cg ha,dr],Wg ..,λd E=>?_];let(e,J,rfl):=Xe.mp E;show Ke (Ab g sw (o e J))
  let I:∀r,r<N->(gK b (bE n) r).length=(bE n).length/\∀s∈gK b (bE n) r,s<N:=λr hr=>by let(_,_,_,_,sl,_):=uB g o f hr;show#[sl,(FR g o () f hr).2]
  generalize sq (bu b (bE n) N) (gK b (bE n)) N k=c at*;show dm (jQ (qG (au (ai (af W)) aL) W (Kv em)) (by rfl)) W ?_;show Dt (cJ (ci (aK (af W) aQ W W W) W)) (yi ?_);let F:∀a,a<N->bB (.tuple ((Wk (Cn c N)).map (Iq (bu b (bE n) N) c N))) (nd (c a))=-(((bu b (bE n) N)[a]?).getD .none):=λa ha=>by rw[sd a ha];ext bu;rw[cg ha];rfl
  ext UB;let lA:((Wk (Cn c N)).map (Ix (gK b (bE n)) c N)).length=Cn c N:=by rw[Wg,Wy]
  generalize (Wk (Cn c N)).map (Ix (gK b (bE n)) c N)=As at Q lA;generalize Wn.tuple ((Wk (Cn c N)).map (Iq (bu b (bE n) N) c N))=S at F;show dm (jQ (d5 (cI (aq (af W) aH) W W e1)) (by rw[iE aO,fG])) W ?_;let lC:cO [.tuple As]=-(nd (Cn c N)):=by rw[<-lA];rfl
  show dm (ai (eA (aq (aK (af W) aQ W W jF) aH) W lC)) W ?_;let(ps,R,edr):=IR ns (Cn c N) () ();let rt:∀{s s':Nat} {row:br Nat},s<Cn c N->s'<Cn c N->KH (bu b (bE n) N) (gK b (bE n)) (lK c N s) (lK c N s') row->row.length<=k+1->(∀p∈row,p<(bE n).length)->gc [.tuple [.tuple As,S],.list ((bE n).map cP),.tuple [nd s,nd s'],.list (row.map λp=>cP (gf n p))]=.ok (.fz (.bool Wl)):=λ{s s' row} G L h3 h4 h5=>by
   let(u,v,u1,u2,u3):=EF h3;let(_,f2,f3,_):=fo s G;let(_,g2,g3,_):=fo s' L;let la:=FP hn W I J F Q f2 h5 u1;let lb:=FP hn W I J F Q g2 h5 u2;rw[f3]at la;rw[g3]at lb;let ok:∀{row:br Nat} {a:Nat} {u:D},a<N->(∀p∈row,p<(bE n).length)->A2 (bu b (bE n) N) (gK b (bE n)) a row=lD u->kF u=Wl:=λ{row}=>by
    induction row with
    |nil=>intro a u _ _ h;unfold A2 at h;ext h
    |cons p r ih=>
     intro a u ha hp h;cases r with
     |nil=>let(O,e1,_,e3):=J a ha;unfold A2 at h;rw[e1]at h;show e3 u (WC h)
     |cons q r=>
      unfold A2 at h;cases z:(gK b (bE n) a)[p]? with
      |none=>rw[z]at h;ext h
      |some a'=>rw[z]at h;show ih ((I a ha).2 a' (WC z)) (λp' X=>hp p' (WH _ X)) h
   let r1:1<=row.length:=by cases row with|nil=>show h3.elim|cons _ _=>show Nat.succ_le_succ (Xq _)
   show Lk hn la lb (ok f2 h5 u1) (ok g2 h5 u2) u3 r1 () () h5
  show mI (J3 (λi ρ _=>∃T Bz0:bP SV,ρ=GK ns b n (.tuple As) S (Cn c N) [T,Bz0,Wh]) (kP (iR (cI (aq (af W) (aq (af W) aH)) W W edr) W W)) #[Wh,Wh,W] ?_ ?_)
  .rintro i d ρ Z E ⟨T,Bz0,rfl⟩
   rw[Wv]at E;cases z:ps[i]? with
   |none=>rw[z]at E;ext E
   |some x=>rw[z]at E;cases WE E;let(s,s'):=x;let(H,w,t):=R _ (WC z);show#[GK ns b n (.tuple As) S (Cn c N) [-(.tuple [nd s,nd s']),Bz0,Wh],Z,W,?_];let A:∀{Bz0:bP SV} {Z:bA},am (ag (aa 1)) (am (ag (aW bB (aa 5) (~~~0))) (am (ag (aW bB (aa 5) (~~~1))) (am (ag (~~~40)) aJ))) (GK ns b n (.tuple As) S (Cn c N) [-(.tuple [nd s,nd s']),Bz0,Wh]) Z=.ok [.fz (bD b),.fz (nd s),.fz (nd s'),.fz (.int 40)] Z:=λ{Bz0 Z}=>au (ai (af W)) (au (ai (aK (af W) aQ W W jF)) (au (ai (aK (af W) aQ W W lZ)) (au (ai aQ) aL)));let(row,i6,P,a1,a2,a3,a4,a5):=ao Z w t H;show dm (oz A W a1) W ?_;show Dt (qO (bG (Ax (au (ai (af W)) (au (ai (af W)) (au (ai (af W)) (au (bf W) aL)))) W (by unfold aD aD aD aD aD;rw[vY a2];rfl) W (rt w t a3 a4 a5)))) (yi ?_);show sZ (iH (Q0 (bf W) a2)) ?_;generalize P.set i6 (.lst [])=Z3;let(arI,i7,Z4,b1,b2,b3,b4,b5):=ao Z3 w t H;show .eq (jT (qO (bG (Ax (au (ai (af W)) (au (ai (af W)) (au (ai (af W)) (au (oz A W b1) aL)))) W (by unfold aD aD aD aD aD;rw[vY b2];rfl) W (rt w t b3 b4 b5)))) jo) #[_,_,W]
  .rintro ρ Z ⟨T,Bz0,rfl⟩;let(c2,ec2):=lO ns 12;let(r,tk,_):=gx c2 62 (Cn c N) () ();show dm (ai (cI (aq (cI (aq (af W) (aq aQ aH)) W W ec2) (aq aQ (aq (af W) aH))) W W tk)) W ?_;let(P,z1):=ae r Z;let(Z3,z2):=ae4 0 P;show sI (xD (bG (dM (oz (au (ai (af W)) (au (ai (af W)) (au (ai (af W)) (au (ai aQ) aL)))) W z1) (ai aQ) (cZ W))) (dM (oz (au (ai (af W)) (au (ai aQ) (au (ai aQ) aL))) W z2) (ai aQ) (cZ W))) W
 let(x,Z',G,rfl):=U.all;ext L10.Ux;rw[show[Wn.list (ns.map .int)].map SV.fz=[.fz (.list (ns.map .int))]from rfl,G]
end K44
local macro_rules| `(tactic|ext:3)=> `(tactic|exact⟨rfl,rfl,rfl,by left,rfl,by left,by left⟩)| `(tactic|ext:23)=> `(tactic|first
 |exact .head _
 |(apply List.Mem.tail;ext:23))
local macro_rules| `(tactic|ext:21)=> `(tactic|first
 |change L3.qh
 |change L3.Db
 |change L3.J9
 |change L3.D2
 |change L3.zm
 |change L3.MD
 |change L3.uN
 |change L3.OJ
 |change L3.zy
 |change L3.Fo)
local macro_rules| `(tactic|ext:16)=> `(tactic|·first
 |ext:21
 |change L3.bS
 |change L3.lP
 |change L3.N0
 |change L3.zb
 |change L3.AR
 |change L3.NN
 |change L3.OQ
 |change L3.Gh
 |change L3.Fh
 |change L3.OB
 |change L3.FM
 |change L3.gF
 |change L3.fP
 |change L3.Pq
 |change L3.w9
 |change L3.zU
 |change L3.PM
 |change L3.t8
 |change L3.z8
 |change L3.Qt
 |change L3.uA
 |change L9.Ee
 |change L10.Fu
 |change L3.zb)
local macro_rules| `(tactic|ext:6)=> `(tactic|·first
 |change L3.ar
 |change L3.bq
 |(exists L3.bH);ext:16;ext:6;ext:6
 |change L3.rM
 |(exists L3.jO);ext:17
 |(exists L3.iy);ext:16;ext:17
 |(exists L3.uF);ext:17
 |(exists L3.jG);ext:17
 |(exists L3.Kf);ext:6
 |change L3.lh
 |change L3.Jt
 |(exists L3.Uo);ext:12;ext:6;ext:6
 |(exists L3.vT);ext:16;ext:16;ext:6;ext:6;ext:6
 |(exists L3.Kx);(·simp);ext:6
 |(exists L3.La);ext:6;ext:6
 |(exists L3.FD);ext:16;ext:6
 |(exists L10.IC);ext:6
 |(exists L9.Si);ext:6
 |(exists L3.DD);(·assumption))
local macro_rules| `(tactic|ext:17)=> `(tactic|·first
 |(exists L3.aF);ext:6;ext:17
 |change L3.bt)
local macro_rules| `(tactic|ext:12)=> `(tactic|·first
 |(exists L3.g7);(exists L3.bH);(·ext:21);ext:6;ext:6
 |(exists L3.g7);(exists L3.vT);(·ext:21);(·ext:21);ext:6;ext:6;ext:6
 |(exists L3.Pm);ext:12;ext:12
 |(exists L3.Da);ext:12;ext:12
 |(exists L3.ug);ext:12
 |(exists L3.Fq);ext:6
 |change L3.d4)
local macro_rules| `(tactic|ext:9)=> `(tactic|·first
 |change L3.bF
 |(exists L3.rB);ext:9;ext:9
 |change L3.D9
 |(exists L3.C0);ext:9
 |change L10.bc
 |(exists L10.we);ext:9;ext:9
 |change L10.Ey
 |(exists L10.Fc);ext:9)
local macro_rules| `(tactic|ext:24)=> `(tactic|·first
 |(exists L3.hV);ext:17
 |(exists L3.ib);ext:6
 |(exists L3.Dw);ext:17
 |(exists L10.kZ);ext:24
 |(exists L10.iL);ext:5)
local macro_rules| `(tactic|ext:5)=> `(tactic|·first
 |(exists L10.aw);ext:6
 |change L10.aI
 |(exists L10.A1);ext:5;ext:5
 |(exists L10.jd);ext:16;ext:5;ext:5
 |(exists L10.bL);(·assumption);(·ext:23);ext:5
 |(exists L10.sr);ext:10
 |(exists L10.xB);ext:10
 |(exists L10.ue);ext:10
 |(exists L10.rc);ext:5;ext:5
 |(exists L10.oE);ext:10
 |(exists L10.gC);ext:5;ext:5
 |(exists L10.uo);(·assumption);ext:5;ext:10
 |(exists L10.Ar);ext:5
 |(exists L10.AD);ext:5
 |(exists L10.Li);ext:5;ext:5
 |(exists L10.MU);ext:5;ext:5
 |(exists L10.fS);ext:16;ext:10
 |(exists L10.kj);ext:5
 |(exists L10.yu);ext:5;ext:5
 |(exists L10.ST);ext:13;ext:5;ext:5
 |(exists L10.Pf);ext:10
 |(exists L10.MO);(·assumption);ext:10
 |(exists L10.Ko);ext:5)
local macro_rules| `(tactic|ext:10)=> `(tactic|·first
 |(exists L10.aA);ext:5;ext:10
 |change L10.bp)
local macro_rules| `(tactic|ext:13)=> `(tactic|·first
 |(exists L10.iX);(exists L10.jd);(·ext:21);ext:5;ext:5
 |(exists L10.AZ);ext:12
 |(exists L10.OG);ext:13;ext:13
 |(exists L10.L7);ext:13;ext:13
 |(exists L10.FH);ext:13
 |(exists L10.JG);ext:5)
local macro_rules| `(tactic|ext:1)=> `(tactic|·first
 |(exists L3.cQ);ext:1;ext:1
 |(exists L3.g9);ext:6;ext:9
 |(exists L3.KF);ext:12;ext:1;ext:1
 |(exists L3.ja);ext:6
 |(exists L3.z6);ext:6
 |change L3.yj
 |(exists L3.uS);ext:24;ext:9;ext:1
 |(exists L10.aN);ext:1;ext:1
 |(exists L10.cT);ext:5;ext:9
 |(exists L10.rJ);ext:13;ext:1;ext:1
 |(exists L10.i4);ext:5
 |(exists L10.fK);ext:5
 |(exists L10.Ls);ext:5;ext:5;ext:5
 |(exists L10.jx);(·assumption);(·ext:23);ext:5;ext:5
 |change L10.kW
 |(exists L10.z7);ext:24;ext:9;ext:1
 |(exists L10.sH);ext:13;ext:1
 |change L10.Mh)
local macro_rules| `(tactic|ext:7)=> `(tactic|·first
 |exact L2.bv
 |exact L2.pG (by assumption)
 |exact L2.DG (by assumption)
 |exact L3.v5 (by assumption)
 |exact L3.Nv (by assumption)
 |exact L9.zB
 |exact L3.lz
 |exact L3.GU
 |exact L2.xF
 |exact L2.RF
 |exact L2.FU
 |exact L2.PU
 |exact L3.Fj
 |exact L2.Sy
 |exact L2.Kh
 |exact L2.CL
 |exact L2.Fi
 |exact L2.Kq
 |exact L2.PZ
 |exact L2.SH
 |exact L2.Mp
 |exact L2.Ku
 |exact L2.IK
 |exact L2.dG
 |exact L2.cy
 |exact L2.yB
 |exact L3.xX
 |exact L2.iA
 |exact L10.xx
 |exact L2.yc
 |exact L3.KZ
 |exact L2.Bv
 |exact ahB
 |exact L2.jg
 |exact L2.gY
 |exact L2.Di
 |exact L2.Bh
 |exact L2.Ay
 |exact L2.GJ
 |exact L10.Rh
 |exact L2.rp
 |change Xh
 |change Yd
 |change Ye
 |change PySem.F.slot_list_insert
 |change PySem.F.type_list_insert
 |change adn
 |change ado
 |change ZA
 |change aau
 |change adp
 |exact L2.Ih rfl
 |exact L3.qX rfl
 |exact L10.wz rfl
 |exact L10.uM rfl
 |exact L10.DU rfl
 |exact L10.nX rfl
 |rfl)
local macro_rules| `(tactic|ext:4)=> `(tactic|·first
 |(exists L2.pv);(·rfl);(·(first|exact bb rfl|exact bg (bb rfl)|exact bg (bg rfl)));(·decide);(·decide)
 |change L2.bj
 |(exists L2.bQ);ext:7;ext:4;ext:4;(·exact λ_ _=>rfl)
 |change L2.rK
 |(exists L2.nw);ext:7;ext:4;ext:4
 |(exists L2.Gr);(·assumption);ext:4;ext:4;(·exact λ_ _=>rfl)
 |(exists L2.fR);(·assumption);(·assumption);ext:8;(·decide);(·rfl);(·decide);(·rfl);(·rfl)
 |(exists L2.kJ);ext:8
 |change L2.jV
 |(exists L2.jP);ext:8
 |(exists L2.bU);ext:7;(·rfl);(·assumption);ext:7;ext:8;(·decide);(·decide);(·rfl);(·rfl)
 |(exists L2.dU);ext:7;(·rfl);(·assumption);ext:7;ext:8;(·decide);(·decide);(·rfl);(·rfl)
 |(exists L2.F1);(·rfl);(·assumption);(·(first|rfl|exact⟨_,rfl⟩));(·decide)
 |change L2.BO
 |(exists L2.gA);ext:7;ext:4;ext:4;(·(first|rfl|with_unfolding_all rfl))
 |(apply L2.b9);ext:4;(·rfl)
 |(apply L2.kN);ext:7;ext:7;ext:7;ext:7;ext:4;ext:8;(·rfl);(·rfl);(·decide);(·rfl);(·rfl)
 |(exists L2.Ju);ext:14;ext:4;ext:4
 |(apply L2.D6);ext:7;ext:7;ext:7;ext:7;ext:4;(·rfl);(·decide)
 |(exists L2.yG);ext:4
 |(exists L2.z5);ext:4;ext:4
 |(exists L2.Ez);ext:7;ext:4
 |(apply L2.BR);ext:7;ext:4;ext:25;ext:25
 |(apply L2.RE);ext:4;ext:25
 |(apply L2.KP);ext:4;ext:4;(·exact⟨rfl,rfl,rfl,rfl⟩)
 |(exists L2.GH);(·rfl);(·assumption);ext:7;(·(first|rfl|exact⟨_,rfl⟩));(·decide);(·decide)
 |(apply L10.Bw);(·assumption);ext:7;(·assumption);ext:4;ext:8;(·decide);(·rfl);(·rfl);(·rfl)
 |(apply L10.Jj);(·assumption);ext:7;(·assumption);ext:4;(·decide);(·rfl)
 |(apply L10.GS);(·assumption);ext:7;(·assumption);ext:8;(·decide);(·rfl);(·decide);(·rfl);(·rfl)
 |(apply L10.Gc);(·rfl);(·rfl);(·assumption);ext:8;(·rfl))
local macro_rules| `(tactic|ext:8)=> `(tactic|·first
 |(exists L2.aj);ext:4;ext:8;(·rfl)
 |change L2.aB)
local macro_rules| `(tactic|ext:14)=> `(tactic|·first
 |(exists L2.iJ);ext:7;ext:4;ext:4;(·(first|rfl|with_unfolding_all rfl))
 |(exists L2.vR);ext:14
 |(exists L2.Kz);ext:32;(·(first|rfl|with_unfolding_all rfl))
 |(exists L2.Bm);ext:7;ext:7;ext:4;ext:4;ext:4;(·rfl)
 |(exists L2.PW.pt);ext:26
 |(exists L2.wb);ext:4;(·(intro _;rfl)))
local macro_rules| `(tactic|ext:26)=> `(tactic|·first
 |(exists L2.OW);ext:14
 |(exists L2.RB);ext:14;ext:26
 |(exists L2.Dp);ext:14
 |(exists L2.GI);ext:14;ext:26)
local macro_rules| `(tactic|ext:32)=> `(tactic|·first
 |(exists L2.RI);(·assumption);ext:4;ext:4)
local macro_rules| `(tactic|ext:22)=> `(tactic|·first
 |(exists L2.bz);(·(first|assumption|left));(·rfl);(·(first|exact bb rfl|exact bg rfl|assumption|rfl));(·(first|exact bb rfl|exact bg rfl|assumption|rfl))
 |(exists L2.jJ);ext:22;ext:22;(·rfl)
 |change L2.uc
 |(apply L2.Ah);(·rfl);ext:22;(·rfl);(·rfl))
local macro_rules| `(tactic|ext:33)=> `(tactic|·first
 |(exists L2.dS);(·rfl);(·assumption);ext:8;(·rfl)
 |(apply L3.DT);(·rfl);(·assumption);ext:8;(·rfl);(·rfl)
 |(apply L3.dH);ext:4)
local macro_rules| `(tactic|ext:25)=> `(tactic|·first
 |change L2.El
 |(exists L2.EB);ext:4)
local macro_rules| `(tactic|ext:2)=> `(tactic|·first
 |(exists L2.aR);ext:2
 |change L2.kg
 |(exists L2.ay);ext:2;ext:2
 |(exists L2.bX);(·(first|assumption|left));(·rfl);(·(first|exact bb rfl|exact bg rfl|assumption|rfl));ext:4;(·rfl);(·(first|exact bb rfl|exact bg rfl|assumption|rfl))
 |(exists L2.im);ext:4;(·rfl)
 |(exists L2.cV);ext:4
 |(exists L2.tq);ext:14;ext:2;ext:2
 |(exists L2.pE);ext:7;(·rfl);ext:33;ext:22;ext:2;(·(intro _;rfl))
 |(apply L2.lg);ext:4;ext:4;(·rfl)
 |(exists L2.NC);(·assumption);ext:4;ext:4;ext:4;(·rfl)
 |change L2.Nb
 |(exists L2.vq);ext:7;ext:14;ext:2)
local macro_rules| `(tactic|ext:11)=> `(tactic|(intros;refine L3.Ao (by ext:1) ?_;first|(apply L2.ay);ext:2;ext:2|(apply L2.aR);ext:2))| `(tactic|ext:27)=> `(tactic|(intros;refine L3.Cy (by ext:1) ?_;first|(apply L2.ay);ext:2;ext:2|(apply L2.aR);ext:2))
namespace K44
open PySem L2 L3 STP
def top(i:Nat):YK:=PySem.Challenge.pw_chordbed_k44_whole_no_machine_has_fewer.main.body.getD i (.Pass ⟨0,0,0,0⟩)
def fb:YK->G YK
 |.For _ _ b _ _=>b
 |.If _ b _ _=>b
 |_=>[]
def ss:XB->XB
 |.Subscript _ v _=>v
 |e=>e
def lp:XB->Pos
 |.List _ p=>p
 |_=>⟨0,0,0,0⟩
def fI:YK->XB
 |.For _ i _ _ _=>i
 |_=>.Name "" ⟨0,0,0,0⟩
def nP:YK->Pos
 |.Assign [.Name _ p] _ _=>p
 |_=>⟨0,0,0,0⟩
def sv:XB->XB
 |.Subscript v _ _=>v
 |e=>e
def le:XB->G XB
 |.List l _=>l
 |_=>[]
def bl:XB->XB
 |.BinOp a _ _ _=>a
 |e=>e
def dK:XB->G (I XB)
 |.Dict k _ _=>k
 |_=>[]
def dV:XB->G XB
 |.Dict _ v _=>v
 |_=>[]
section
variable{P:WX}{w:Xm}{K:Ld}{Y:Str->bP Wi}{base:Heap}{f:Wo}{X:XF}
theorem B1(F:Zl K "layer_of" "layer_of" (top 8) f X)(b:Y "max"=U):FnOk P w K Y base ef 1 f X ["standing"] (qC K 1 fD):=nI (N:=["standing"]) (g:=pS) F (by ext:3) W W W λm A a s H E nd l h e j=>Cy (cQ (by ext:1)
   (ja (iy L10.Fu (aF (eO W W (ib (bH bS ar bq)) (C0 (rB bF (rB bF D9))) (g7 (bH qh (bH bS ar bq) rM)) (bH bS ar bq)) bt)))) (ay (by ext:2)
   (aR (cV (L10.Gc W W b (aj (cB ["key","act"] [] W (dH (bQ bv (pv 0) bj (λ_ _=>W))) (λ_ _ _ _=>(Ah W (jJ (bz (i:=0) (show Xi (["key","act"]:G Str) by left) W (bb W)) (jJ (bz (i:=1) (show Xi (["key","act"]:G Str) by left) W (bb W)) uc)))) (λ_ _ _ _=>(uR (iJ (pG h) (bQ bv (pv 1) bj (λ_ _=>W)) rK (gp _)))) (λ_ _ _ _=>(bQ bv (pv 1) bj (λ_ _=>W))) trivial W) aB)))))
theorem zE(F:Zl K "looked_up" "looked_up" (top 11) f X):FnOk P w K Y base ef 1 f X ["bed","layer","key"] (qC K 3 j9):=nI (N:=["bed","layer","key","meaning"]) (g:=mL) F (by ext:3) W W W λj A a s H E nd i h b e=>Cy (cQ (by ext:1)
   (cQ (by ext:1)
   (ja ar))) (ay (by ext:2)
   (ay (by ext:2)
   (aR (cV (pv 3)))))
theorem vB(F:Zl K "chords_over" "chords_over" (top 12) f X)(b:Y "all"=U):FnOk P w K Y base ef 1 f X ["bed","keys"] (qC K 2 b6):=nI (N:=["bed","keys"]) (g:=kz) F (by ext:3) W W W λm A a s H E nd l j h e=>Cy (ja (eO W W (ib (bH bS ar bq)) bF (Fq (iy zU (aF (eO W W (ib ar) bF d4 (bH uN ar (bH bS ar bq))) bt))) ar)) (aR (cV (cB ["chord"] [("keys",1)] W (dH (bQ bv (pv 0) bj (λ_ _=>W))) (λ_ _ _ _=>(bz (i:=0) (show Xi (["chord","keys"]:G Str) by left) W (bg W))) (λ_ _ _ _=>(uR (wb (bU (qX W) W b GJ (aj (cB ["key"] [("chord",0)] W (dH (pv 1)) (λ_ _ _ _=>(bz (i:=0) (show Xi (["key","chord"]:G Str) by left) W (bb W))) (λ_ _ _ _=>bM) (λ_ _ _ _=>(gA (v5 e) (pv 0) (bQ bv (pv 1) bj (λ_ _=>W)) (by with_unfolding_all rfl))) ⟨⟨W,W,bb W⟩,trivial⟩ W) aB))))) (λ_ _ _ _=>(pv 0)) ⟨⟨W,W,bb W⟩,trivial⟩ W)))
theorem wG(F:Zl K "chord_acts" "chord_acts" (top 13) f X)(l:Y "list"=U)(m:Y "sorted"=U)(q:Y "len"=U){a:M}(j:Y "NONE"=R (.ref a))(h:∀O H,DV O K H (.ref a) (.tuple [(.str "none")])):FnOk P w K Y base ef 1 f X ["bed","keys"] (qC K 2 gX):=nI (N:=["bed","keys","chord"]) (g:=l9) F (by ext:3) W W W λr A b s H E nd p o e n=>Cy (cQ (by ext:1)
   (ja (eO W W (ib ar) bF d4 (bH bS (bH bS (bH bS ar bq) bq) ar)))) (ay (by ext:2)
   (aR (cV (cB ["key"] [("bed",0)] W (dH (pv 1)) (λ_ _ _ _=>(bz (i:=0) (show Xi (["key","bed"]:G Str) by left) W (bb W))) (λ_ _ _ _=>bM) (λ_ _ _ _=>(bQ bv (bQ bv (bQ bv (pv 1) bj (λ_ _=>W)) bj (λ_ _=>W)) (pv 0) (λ_ _=>W))) ⟨⟨W,W,bb W⟩,trivial⟩ W))))
theorem yU(F:Zl K "_law_cell" "_law_cell" (top 26) f X)(j:Y "len"=U):FnOk P w K Y base ef 1 f X ["_law_script","_law_k"] (qC K 2 bJ):=nI (N:=["_law_script","_law_k"]) (g:=tm) F (by ext:3) W W W λl A a s H E nd i h b e=>Cy (cQ (by ext:1)
   (ja bq)) (ay (by ext:2)
   (aR (cV bj)))
theorem yI(F:Zl K "_law_take" "_law_take" (top 27) f X)(a:Y "range"=U):FnOk P w K Y base ef 1 f X ["_law_cell_here","_law_salt","_law_many_here"] (qC K 3 aV):=nI (N:=["_law_cell_here","_law_salt","_law_many_here","_law_turn","_law_number"]) (g:=iV) F (by ext:3) W W W (by delta iV;ext:27)
theorem wf(F:Zl K "_law_letter" "_law_letter" (top 28) f X)(h:gQ P w K Y base 1 "_law_take" ["_law_cell_here","_law_salt","_law_many_here"] 3 aV):FnOk P w K Y base ef 2 f X ["_law_cell_here","_law_salt"] (qC K 2 d8):=nI (N:=["_law_cell_here","_law_salt"]) (g:=o9) F (by ext:3) W W W λl A a s H E nd e j b i=>Cy (ja (bH zb rM (jO (aF ar (aF ar (aF bq bt)))))) (aR (cV (bQ bv rK (fR h e (aj (pv 0) (aj (pv 1) (aj bj aB)))) (λ_ _=>W))))
theorem tJ(F:Zl K "_law_meaning" "_law_meaning" (top 29) f X)(e:gQ P w K Y base 1 "_law_take" ["_law_cell_here","_law_salt","_law_many_here"] 3 aV)(a:gQ P w K Y base 2 "_law_letter" ["_law_cell_here","_law_salt"] 2 d8)(b:Y "max"=U):FnOk P w K Y base ef 3 f X ["_law_cell_here","_law_layer","_law_many_here"] (qC K 3 fQ):=nI (N:=["_law_cell_here","_law_layer","_law_many_here","_law_way","_law_level"]) (g:=fW) F (by ext:3) W W W (by delta fW;ext:27)
theorem wB(F:Zl K "_law_chords" "_law_chords" (top 30) f X)(p:gQ P w K Y base 1 "_law_take" ["_law_cell_here","_law_salt","_law_many_here"] 3 aV)(h:Y "range"=U)(l:Y "tuple"=U)(m:Y "len"=U)(b:Y "all"=U):FnOk P w K Y base ef 2 f X ["_law_cell_here","_law_keys_here","_law_first"] (qC K 3 iQ):=nI (N:=["_law_cell_here","_law_keys_here","_law_first","_law_found","_law_mask","_law_some","_law_good"]) (g:=iM) F (by ext:3) W W W λq A a s H E nd o e j n=>Cy (cQ (by ext:1)
   (cQ (uS (hV (aF (bH FM bq ar) bt)) bF (cQ (g9 (iy fP (aF (eO W W (hV (aF ar bt)) bF (g7 (bH qh (bH Gh (bH Fh ar ar) bq) bq)) ar) bt)) bF)
   (cQ (g9 (La (bH zm (iy gF (aF ar bt)) bq) (iy zU (aF (eO W W (ib ar) bF d4 (bH qh (bH bS (bH bS ar ar) bq) rM)) bt))) bF)
   (by ext:1))))
   (by ext:1))) (ay (by ext:2)
   (ay (pE ZU.never W (dS W h (aj (nw IK bj (pv 1)) aB)) (bz (i:=4) nd W (bg W)) (ay (bX (i:=5) nd W (bb W) (dU cy W l gY (aj (cB ["_law_key"] [("_law_mask",4)] W (dS W h (aj (pv 1) aB)) (λ_ _ _ _=>(bz (i:=0) (show Xi (["_law_key","_law_mask"]:G Str) by left) W (bb W))) (λ_ _ _ _=>(uR (iJ (pG e) (nw Ku (nw Mp (pv 1) (pv 0)) bj) bj (gp _)))) (λ_ _ _ _=>(pv 0)) ⟨⟨W,W,bb W⟩,trivial⟩ W) aB)))
   (ay (bX (i:=6) nd W (bb W) (z5 (gA FU (bU dG W m jg (aj (pv 5) aB)) bj (gp _)) (yG (bU (qX W) W b GJ (aj (cB ["_law_key"] [("_law_first",2)] W (dH (pv 5)) (λ_ _ _ _=>(bz (i:=0) (show Xi (["_law_key","_law_first"]:G Str) by left) W (bb W))) (λ_ _ _ _=>bM) (λ_ _ _ _=>(gA (pG e) (bQ bv (bQ bv (pv 1) (pv 0) (λ_ _=>W)) bj (λ_ _=>W)) rK (gp _))) ⟨⟨W,W,bb W⟩,trivial⟩ W) aB)))))
   (aR (by ext:2)))))
   (aR (by ext:2))))
theorem Aq(F:Zl K "_law_bed" "_law_bed" (top 31) f X)(m:gQ P w K Y base 1 "_law_cell" ["_law_script","_law_k"] 2 bJ)(q:gQ P w K Y base 1 "_law_take" ["_law_cell_here","_law_salt","_law_many_here"] 3 aV)(b:gQ P w K Y base 3 "_law_meaning" ["_law_cell_here","_law_layer","_law_many_here"] 3 fQ)(l:gQ P w K Y base 2 "_law_chords" ["_law_cell_here","_law_keys_here","_law_first"] 3 iQ)(h:Y "range"=U)(n:Y "tuple"=U):FnOk P w K Y base ef 4 f X ["_law_script","_law_at","_law_keys_here"] (qC K 3 lc):=nI (N:=["_law_script","_law_at","_law_keys_here","_law_cell_here","_law_many_here","_law_layers","_law_layer","_law_cells","_law_chords_here"]) (g:=l8) F (by ext:3) W W W λr A a s H E nd e p j o=>Cy (cQ (by ext:1)
   (cQ (by ext:1)
   (cQ (g9 (jG bt) bF)
   (cQ (uS (hV (aF ar bt)) bF (cQ (g9 (eO W W (hV (aF ar bt)) bF d4 (jO (aF ar (aF (bH lP (bH lP (bH lP ar bq) (bH AR ar ar)) ar) bt)))) bF)
   (z6 (Kf (iy fP (aF (eO W W (ib ar) bF d4 (jO (aF ar (aF ar (aF ar bt))))) bt))))))
   (cQ (by ext:1)
   (by ext:1)))))) (ay (by ext:2)
   (ay (by ext:2)
   (ay (bX (i:=5) nd W (bb W) (jP aB))
   (ay (pE ZU.never W (dS W h (aj (pv 4) aB)) (bz (i:=6) nd W (bg W)) (ay (rA (i:=7) ["_law_key"] [("_law_script",0),("_law_at",1),("_law_keys_here",2),("_law_layer",6)] nd W W W (dS W h (aj (pv 2) aB)) (λ_ _ _ _=>(bz (i:=0) (show Xi (["_law_key","_law_script","_law_at","_law_keys_here","_law_layer"]:G Str) by left) W (bb W))) (λ_ _ _ _=>bM) (λ_ _ _ _=>(fR m e (aj (pv 1) (aj (nw lz (nw lz (nw lz (pv 2) bj) (nw Fj (pv 3) (pv 4))) (pv 0)) aB)))) ⟨⟨W,W,bb W⟩,⟨⟨W,W,bb W⟩,⟨⟨W,W,bb W⟩,⟨⟨W,W,bb W⟩,trivial⟩⟩⟩⟩ W)
   (aR (im (kN Xh Yd Ye iA (pv 5) (aj (dU cy W n gY (aj (cB ["_law_one"] [("_law_layer",6),("_law_many_here",4)] W (dH (pv 7)) (λ_ _ _ _=>(bz (i:=0) (show Xi (["_law_one","_law_layer","_law_many_here"]:G Str) by left) W (bb W))) (λ_ _ _ _=>bM) (λ_ _ _ _=>(fR b e (aj (pv 0) (aj (pv 1) (aj (pv 2) aB))))) ⟨⟨W,W,bb W⟩,⟨⟨W,W,bb W⟩,trivial⟩⟩ W) aB)) aB))))))
   (ay (by ext:2)
   (aR (by ext:2)))))))
theorem yM(F:Zl K "_law_keys" "_law_keys" (top 32) f X)(h:gQ P w K Y base 1 "_law_cell" ["_law_script","_law_k"] 2 bJ)(i:gQ P w K Y base 1 "_law_take" ["_law_cell_here","_law_salt","_law_many_here"] 3 aV):FnOk P w K Y base ef 2 f X ["_law_script"] (qC K 1 j8):=nI (N:=["_law_script"]) (g:=sT) F (by ext:3) W W W λm A a s H E nd b l e j=>Cy (ja (bH bS (jG (aF bq (aF bq (aF bq (aF bq bt))))) (jO (aF (jO (aF ar (aF bq bt))) (aF bq (aF bq bt)))))) (aR (cV (bQ bv (jP (aj bj (aj bj (aj bj (aj bj aB))))) (fR i b (aj (fR h b (aj (pv 0) (aj bj aB))) (aj bj (aj bj aB)))) (λ_ _=>W))))
theorem zp(F:Zl K "events_of" "events_of" (top 15) f X)(b:Y "range"=U):FnOk P w K Y base ef 1 f X ["bed"] (qC K 1 fO):=nI (N:=["bed","downs","ups"]) (g:=nV) F (by ext:3) W W W λm A a s H E nd l j e h=>Cy (cQ (g9 (eO W W (hV (aF (bH bS ar bq) bt)) bF d4 (uF (aF rM (aF ar bt)))) bF)
   (cQ (g9 (eO W W (hV (aF (bH bS ar bq) bt)) bF d4 (uF (aF rM (aF ar bt)))) bF)
   (by ext:1))) (ay (rA (i:=1) ["key"] [] nd W W W (dS W b (aj (bQ bv (pv 0) bj (λ_ _=>W)) aB)) (λ_ _ _ _=>(bz (i:=0) (show Xi (["key"]:G Str) by left) W (bb W))) (λ_ _ _ _=>bM) (λ_ _ _ _=>(kJ (aj rK (aj (pv 0) aB)))) trivial W)
   (ay (rA (i:=2) ["key"] [] nd W W W (dS W b (aj (bQ bv (pv 0) bj (λ_ _=>W)) aB)) (λ_ _ _ _=>(bz (i:=0) (show Xi (["key"]:G Str) by left) W (bb W))) (λ_ _ _ _=>bM) (λ_ _ _ _=>(kJ (aj rK (aj (pv 0) aB)))) trivial W)
   (aR (by ext:2))))
theorem vn(F:Zl K "_law_events" "_law_events" (top 33) f X)(a:Y "range"=U):FnOk P w K Y base ef 1 f X ["_law_bed_here"] (qC K 1 iB):=nI (N:=["_law_bed_here","_law_found","_law_word","_law_key"]) (g:=kG) F (by ext:3) W W W (by delta kG;ext:27)
theorem yH(F:Zl K "unlike_at" "unlike_at" (top 24) f X)(b:Y "zip"=U):FnOk P w K Y base ef 1 f X ["ones","others"] (qC K 2 iS):=nI (N:=["ones","others"]) (g:=tF) F (by ext:3) W W W λm A a s H E nd l h e j=>Cy (ja (L10.NY (eO W W (Dw (aF ar (aF ar bt))) (C0 (rB bF (rB bF D9))) d4 (bH Db ar ar)))) (aR (cV (kN Xh XH Yk L10.xq (cB ["one","other"] [] W (DT W b (aj (pv 0) (aj (pv 1) aB))) (λ_ _ _ _=>(Ah W (jJ (bz (i:=0) (show Xi (["one","other"]:G Str) by left) W (bb W)) (jJ (bz (i:=1) (show Xi (["one","other"]:G Str) by left) W (bb W)) uc)))) (λ_ _ _ _=>bM) (λ_ _ _ _=>(gA (DG h) (pv 0) (pv 1) (gp _))) trivial W) (aj BO aB))))
theorem wH(F:Zl K "_law_drawn" "_law_drawn" (top 37) f X)(l:gQ P w K Y base 1 "_law_cell" ["_law_script","_law_k"] 2 bJ)(m:gQ P w K Y base 1 "_law_take" ["_law_cell_here","_law_salt","_law_many_here"] 3 aV)(b:Y "range"=U)(h:Y "len"=U):FnOk P w K Y base ef 2 f X ["_law_script","_law_many_here"] (qC K 2 jj):=nI (N:=["_law_script","_law_many_here","_law_pairs","_law_one","_law_found","_law_k","_law_turned"]) (g:=lR) F (by ext:3) W W W λp A a s H E nd e o j n=>Cy (cQ (g9 (jG bt) bF)
   (cQ (uS (hV (aF ar bt)) bF (z6 (L10.IC (eO W W (hV (aF ar bt)) bF d4 (uF (aF ar (aF ar bt)))))))
   (cQ (KF (g7 (bH zm (iy gF (aF ar bt)) bq)) (g9 (eO W W (hV (aF bq bt)) bF d4 (bH bS ar (jO (aF (bH lP (jO (aF ar (aF (bH lP bq ar) bt))) ar) (aF bq (aF (iy gF (aF ar bt)) bt)))))) bF) yj)
   (cQ (g9 (jG bt) bF)
   (cQ (by ext:1)
   (ja ar)))))) (ay (bX (i:=2) nd W (bg W) (jP aB))
   (ay (pE ZU.never W (dS W b (aj (pv 1) aB)) (bz (i:=3) nd W (bg W)) (aR (im (kN Xh adn ado xF (pv 2) (aj (cB ["_law_other"] [("_law_one",3)] W (dS W b (aj (pv 3) aB)) (λ_ _ _ _=>(bz (i:=0) (show Xi (["_law_other","_law_one"]:G Str) by left) W (bb W))) (λ_ _ _ _=>bM) (λ_ _ _ _=>(kJ (aj (pv 1) (aj (pv 0) aB)))) ⟨⟨W,W,bb W⟩,trivial⟩ W) aB)))))
   (ay (tq (iJ FU (bU dG W h jg (aj (pv 2) aB)) bj (gp _)) (aR (bX (i:=2) nd W (bg W) (cB ["_law_k"] [("_law_pairs",2),("_law_script",0)] W (dS W b (aj bj aB)) (λ_ _ _ _=>(bz (i:=0) (show Xi (["_law_k","_law_pairs","_law_script"]:G Str) by left) W (bb W))) (λ_ _ _ _=>bM) (λ_ _ _ _=>(bQ bv (pv 1) (fR m e (aj (nw lz (fR l e (aj (pv 2) (aj (nw lz bj (pv 0)) aB))) (pv 0)) (aj bj (aj (bU dG W h jg (aj (pv 1) aB)) aB)))) (λ_ _=>W))) ⟨⟨W,W,bb W⟩,⟨⟨W,W,bb W⟩,trivial⟩⟩ W))) kg)
   (ay (bX (i:=4) nd W (bb W) (jP aB))
   (ay (by ext:2)
   (aR (cV (pv 4))))))))
theorem yR(F:Zl K "_law_last" "_law_last" (top 36) f X):FnOk P w K Y base ef 1 f X ["_law_found","_law_events_here","_law_state","_law_row"] (qC K 4 fU):=nI (N:=["_law_found","_law_events_here","_law_state","_law_row","_law_sent","_law_event","_law_k"]) (g:=ka) F (by ext:3) W W W λl A a s H E nd j e b h=>Cy (cQ (g9 lh bF)
   (cQ (uS (ib ar) bF (cQ (g9 (L10.Nc ar) bF)
   (cQ (g9 (bH bS (bH bS (bH bS ar bq) ar) ar) bF)
   (g9 (bH bS (bH bS (bH bS ar bq) ar) ar) bF))))
   (ja ar))) (ay (bX (i:=4) nd W (bb W) jV)
   (ay (pE ZU.never W (dH (pv 3)) (bz (i:=5) nd W (bb W)) (ay (bX (i:=6) nd W (bb W) (kN Xh XH Yk (L10.Hz e) (pv 1) (aj (pv 5) aB)))
   (ay (bX (i:=4) nd W (bb W) (bQ bv (bQ bv (bQ bv (pv 0) bj (λ_ _=>W)) (pv 2) (λ_ _=>W)) (pv 6) (λ_ _=>W)))
   (aR (bX (i:=2) nd W (bb W) (bQ bv (bQ bv (bQ bv (pv 0) bj (λ_ _=>W)) (pv 2) (λ_ _=>W)) (pv 6) (λ_ _=>W)))))))
   (aR (cV (pv 4)))))
theorem wM(F:Zl K "_law_right" "_law_right" (top 38) f X)(n:gQ P w K Y base 1 "_law_last" ["_law_found","_law_events_here","_law_state","_law_row"] 4 fU)(h:Y "isinstance"=U)(e:Y "list"=U)(j:Y "len"=U)(b:Y "all"=U):FnOk P w K Y base ef 2 f X ["_law_found","_law_events_here","_law_pair","_law_row"] (qC K 4 gc):=nI (N:=["_law_found","_law_events_here","_law_pair","_law_row"]) (g:=lX) F (by ext:3) W W W λq A a s H E nd p o m l=>Cy (cQ (KF (Da (ug (Fq (Kx (by simp) ar))) (Da (ug (g7 (vT D2 D2 bq (iy gF (aF ar bt)) (iy gF (aF (bH bS ar bq) bt))))) (ug (Fq (iy zU (aF (eO W W (ib ar) bF d4 (bH uN ar ar)) bt)))))) (ja Jt) yj)
   (by ext:1)) (ay (tq (PW.pt (GI (vR (wb (bU xX W h rp (aj (pv 3) (aj (GH (v:=.ty "list") W e Di W) aB))))) (GI (vR (Bm Kq Kq bj (bU dG W j jg (aj (pv 3) aB)) (bU dG W j jg (aj (bQ bv (pv 0) bj (λ_ _=>W)) aB)))) (Dp (vR (wb (bU (qX W) W b GJ (aj (cB ["_law_event"] [("_law_events_here",1)] W (dH (pv 3)) (λ_ _ _ _=>(bz (i:=0) (show Xi (["_law_event","_law_events_here"]:G Str) by left) W (bb W))) (λ_ _ _ _=>bM) (λ_ _ _ _=>(gA (v5 l) (pv 0) (pv 1) (by with_unfolding_all rfl))) ⟨⟨W,W,bb W⟩,trivial⟩ W) aB)))))))) (aR (cV BO)) kg)
   (aR (by ext:2)))
end
end K44
namespace K44
open PySem L2 L3 L10 STP
section
variable{P:WX}{w:Xm}{K:Ld}{Y:Str->bP Wi}{base:Heap}{f:Wo}{X:XF}
theorem rV(F:Zl K "__init__" "Hand.__init__" (bx (top 10) 0) f X)(h:gS K "Hand" ["bed","acts","waiting","once","sent"])(e:Y "dict"=U):FnOk P w K Y base ef 3 f X ["self","bed","standing"] (dJ K 3 fF):=md (N:=["self","bed","standing"]) (g:=mj) F (by ext:3) W W W λm A a s H E nd l j b i=>Ao (aN (jx h (.head _) aI (aw ar))
   (aN (by ext:1)
   (aN (by ext:1)
   (aN (by ext:1)
   (by ext:1))))) (ay (lg (pv 0) (pv 1) W)
   (ay (by ext:2)
   (ay (by ext:2)
   (ay (by ext:2)
   (aR (by ext:2))))))
theorem vC(F:Zl K "stands" "Hand.stands" (bx (top 10) 1) f X)(a:gS K "Hand" ["bed","acts","waiting","once","sent"])(j:Y "tuple"=U)(h:Y "sorted"=U):FnOk P w K Y base ef 3 f X ["self"] (dJ K 1 b7):=md (N:=["self"]) (g:=ph) F (by ext:3) W W W λo A b s H E nd n m e l=>Ao (fK (oE (aA (fS fP (aA (eV W W (iL (AD (bL a (.tail _ (.head _)) aI))) bc dZ (oE (aA (aw ar) (aA (A1 (bL a (.tail _ (.head _)) aI) (aw ar)) bp)))) bp)) (aA (bL a (.tail _ (.tail _ (.head _))) aI) (aA (bL a (.tail _ (.tail _ (.tail _ (.head _)))) aI) bp))))) (aR (cV (kJ (aj (dU cy W j gY (aj (cB ["key"] [("self",0)] W (dH (bU (uM W) W h Ay (aj (b9 (pv 0) W) aB))) (λ_ _ _ _=>(bz (i:=0) (show Xi (["key","self"]:G Str) by left) W (bb W))) (λ_ _ _ _=>bM) (λ_ _ _ _=>(kJ (aj (pv 0) (aj (Gr e (b9 (pv 1) W) (pv 0) (λ_ _=>W)) aB)))) ⟨⟨W,W,bb W⟩,trivial⟩ W) aB)) (aj (b9 (pv 0) W) (aj (b9 (pv 0) W) aB))))))
theorem pV(F:Zl K "is_waiting" "Hand.is_waiting" (bx (top 10) 2) f X)(b:gS K "Hand" ["bed","acts","waiting","once","sent"]):FnOk P w K Y base ef 3 f X ["self","key"] (dJ K 2 cH):=md (N:=["self","key"]) (g:=j6) F (by ext:3) W W W λl A a s H E nd j i h e=>Ao (fK (yu (jd Fo (bL b (.tail _ (.tail _ (.head _))) aI) (aw lh)) (jd uN (aw ar) (gC (bL b (.tail _ (.tail _ (.head _))) aI) (aw bq))))) (aR (cV (z5 (gA Fi (b9 (pv 0) W) jV (gp _)) (yG (gA (v5 e) (pv 1) (bQ bv (b9 (pv 0) W) bj (λ_ _=>W)) (by with_unfolding_all rfl))))))
theorem tP(F:Zl K "has_act" "Hand.has_act" (bx (top 10) 13) f X)(i:gS K "Hand" ["bed","acts","waiting","once","sent"])(b:Y "list"=U):FnOk P w K Y base ef 3 f X ["self","act"] (dJ K 2 cz):=md (N:=["self","act"]) (g:=mQ) F (by ext:3) W W W λm A a s H E nd l j h e=>Ao (fK (jd uN (aw ar) (Ar (bL i (.tail _ (.head _)) aI)))) (aR (cV (gA (v5 e) (pv 1) (dU (wz W) W b Di (aj (D6 ZA aau adp xx (b9 (pv 0) W)) aB)) (by with_unfolding_all rfl))))
theorem Af(F:Zl K "come" "Hand.come" (bx (top 10) 11) f X)(b:gS K "Hand" ["bed","acts","waiting","once","sent"])(a:cC P w K Y base ef 3 "Hand" "has_act" ["self","act"] (dJ K 2 cz)):FnOk P w K Y base ef 4 f X ["self","key","act"] (dJ K 3 bT):=md (N:=["self","key","act"]) (g:=nj) F (by ext:3) W W W (by delta nj;ext:11)
theorem DC(F:Zl K "go" "Hand.go" (bx (top 10) 12) f X)(b:gS K "Hand" ["bed","acts","waiting","once","sent"])(a:cC P w K Y base ef 3 "Hand" "has_act" ["self","act"] (dJ K 2 cz)):FnOk P w K Y base ef 4 f X ["self","key"] (dJ K 2 kX):=md (N:=["self","key","act"]) (g:=sQ) F (by ext:3) W W W (by delta sQ;ext:11)
theorem uJ(F:Zl K "decide" "Hand.decide" (bx (top 10) 10) f X)(j:gS K "Hand" ["bed","acts","waiting","once","sent"])(o:cC P w K Y base ef 4 "Hand" "come" ["self","key","act"] (dJ K 3 bT))(i:gQ P w K Y base 1 "chord_acts" ["bed","keys"] 2 gX)(h:Y "zip"=U){b:M}(p:Y "CHORD"=R (.ref b))(q:∀O H,L3.DV O K H (.ref b) (.tuple [(.str "chord")])):FnOk P w K Y base ef 5 f X ["self"] (dJ K 1 cG):=md (N:=["self","keys","what","acts","key","act"]) (g:=pA) F (by ext:3) W W W λr A a s H E nd n m e l=>Ao (aN (by ext:1)
   (aN (by ext:1)
   (aN (jx j (.tail _ (.tail _ (.head _))) aI (aw lh))
   (aN (by ext:1)
   (by ext:1))))) (ay (by ext:2)
   (ay (by ext:2)
   (ay (lg (pv 0) jV W)
   (ay (by ext:2)
   (aR (by ext:2))))))
theorem oO(F:Zl K "makes_chord" "Hand.makes_chord" (bx (top 10) 4) f X)(l:gS K "Hand" ["bed","acts","waiting","once","sent"])(i:cC P w K Y base ef 3 "Hand" "stands" ["self"] (dJ K 1 b7))(b:gQ P w K Y base 1 "layer_of" ["standing"] 1 fD)(j:gQ P w K Y base 1 "chords_over" ["bed","keys"] 2 b6){a:M}(e:Y "CHORD"=R (.ref a))(h:∀O H,L3.DV O K H (.ref a) (.tuple [(.str "chord")])):FnOk P w K Y base ef 4 f X ["self","key"] (dJ K 2 fy):=md (N:=["self","key"]) (g:=gD) F (by ext:3) W W W (by delta gD;ext:11)
theorem nF(F:Zl K "put_to_chord" "Hand.put_to_chord" (bx (top 10) 5) f X)(h:gS K "Hand" ["bed","acts","waiting","once","sent"])(o:cC P w K Y base ef 5 "Hand" "decide" ["self"] (dJ K 1 cG))(n:gQ P w K Y base 1 "chords_over" ["bed","keys"] 2 b6)(j:Y "len"=U){e:M}(q:Y "CHORD"=R (.ref e))(r:∀O H,L3.DV O K H (.ref e) (.tuple [(.str "chord")])):FnOk P w K Y base ef 6 f X ["self","key"] (dJ K 2 eP):=md (N:=["self","key","keys"]) (g:=ji) F (by ext:3) W W W λt A a s H E nd b m l p=>Ao (aN (by ext:1)
   (aN (by ext:1)
   (rJ (iX (jd qh (eV W W (iL (ue (aA (bL h (.head _) aI) (aA (aw ar) bp)))) bc dZ (aw (iy gF (aF (bH bS ar bq) bt)))) (aw (jG (aF (iy gF (aF ar bt)) bt))))) (i4 (uo h aI bp)) kW))) (ay (by ext:2)
   (ay (by ext:2)
   (aR (tq (iJ (pG m) (cB ["chord"] [] W (dH (fR n b (aj (b9 (pv 0) W) (aj (pv 2) aB)))) (λ_ _ _ _=>(bz (i:=0) (show Xi (["chord"]:G Str) by left) W (bb W))) (λ_ _ _ _=>bM) (λ_ _ _ _=>(bU dG W j jg (aj (bQ bv (pv 0) bj (λ_ _=>W)) aB))) trivial W) (jP (aj (bU dG W j jg (aj (pv 2) aB)) aB)) (gp _)) (aR (im (Jj o Bv b (pv 0)))) kg))))
theorem wS(F:Zl K "begin" "Hand.begin" (bx (top 10) 6) f X)(q:gS K "Hand" ["bed","acts","waiting","once","sent"])(o:cC P w K Y base ef 3 "Hand" "stands" ["self"] (dJ K 1 b7))(l:cC P w K Y base ef 4 "Hand" "come" ["self","key","act"] (dJ K 3 bT))(j:gQ P w K Y base 1 "layer_of" ["standing"] 1 fD)(i:gQ P w K Y base 1 "looked_up" ["bed","layer","key"] 3 j9)(p:gQ P w K Y base 1 "chords_over" ["bed","keys"] 2 b6){b:M}(m:Y "CHORD"=R (.ref b))(n:∀O H,L3.DV O K H (.ref b) (.tuple [(.str "chord")])){a:M}(h:Y "NONE"=R (.ref a))(e:∀O H,L3.DV O K H (.ref a) (.tuple [(.str "none")])):FnOk P w K Y base ef 5 f X ["self","key"] (dJ K 2 g6):=md (N:=["self","key","layer","meaning","word"]) (g:=lU) F (by ext:3) W W W (by delta lU;ext:11)
theorem wX(F:Zl K "press" "Hand.press" (bx (top 10) 3) f X)(i:gS K "Hand" ["bed","acts","waiting","once","sent"])(h:cC P w K Y base ef 3 "Hand" "is_waiting" ["self","key"] (dJ K 2 cH))(b:cC P w K Y base ef 4 "Hand" "makes_chord" ["self","key"] (dJ K 2 fy))(e:cC P w K Y base ef 6 "Hand" "put_to_chord" ["self","key"] (dJ K 2 eP))(j:cC P w K Y base ef 5 "Hand" "decide" ["self"] (dJ K 1 cG))(a:cC P w K Y base ef 5 "Hand" "begin" ["self","key"] (dJ K 2 g6)):FnOk P w K Y base ef 7 f X ["self","key"] (dJ K 2 jy):=md (N:=["self","key"]) (g:=lM) F (by ext:3) W W W (by delta lM;ext:11)
theorem wl(F:Zl K "settle" "Hand.settle" (bx (top 10) 8) f X)(i:gS K "Hand" ["bed","acts","waiting","once","sent"])(j:cC P w K Y base ef 5 "Hand" "decide" ["self"] (dJ K 1 cG))(b:cC P w K Y base ef 4 "Hand" "come" ["self","key","act"] (dJ K 3 bT)){a:M}(e:Y "CHORD"=R (.ref a))(h:∀O H,L3.DV O K H (.ref a) (.tuple [(.str "chord")])):FnOk P w K Y base ef 6 f X ["self","key"] (dJ K 2 iK):=md (N:=["self","key","what"]) (g:=ky) F (by ext:3) W W W (by delta ky;ext:11)
theorem Ad(F:Zl K "lift" "Hand.lift" (bx (top 10) 7) f X)(h:gS K "Hand" ["bed","acts","waiting","once","sent"])(e:cC P w K Y base ef 3 "Hand" "is_waiting" ["self","key"] (dJ K 2 cH))(b:cC P w K Y base ef 6 "Hand" "settle" ["self","key"] (dJ K 2 iK))(a:cC P w K Y base ef 4 "Hand" "go" ["self","key"] (dJ K 2 kX)):FnOk P w K Y base ef 7 f X ["self","key"] (dJ K 2 kh):=md (N:=["self","key"]) (g:=nJ) F (by ext:3) W W W (by delta nJ;ext:11)
theorem tR(F:Zl K "wait_on" "Hand.wait_on" (bx (top 10) 9) f X)(a:gS K "Hand" ["bed","acts","waiting","once","sent"])(b:cC P w K Y base ef 5 "Hand" "decide" ["self"] (dJ K 1 cG)):FnOk P w K Y base ef 6 f X ["self"] (dJ K 1 gZ):=md (N:=["self","age"]) (g:=jE) F (by ext:3) W W W (by delta jE;ext:11)
theorem OO(F:Zl K "step" "step" (top 9) f X)(j:gS K "Hand" ["bed","acts","waiting","once","sent"])(a:wx P w K Y base ef 3 "Hand" ["self","bed","standing"] (dJ K 3 fF))(h:cC P w K Y base ef 6 "Hand" "wait_on" ["self"] (dJ K 1 gZ))(b:cC P w K Y base ef 7 "Hand" "press" ["self","key"] (dJ K 2 jy))(e:cC P w K Y base ef 7 "Hand" "lift" ["self","key"] (dJ K 2 kh))(i:cC P w K Y base ef 3 "Hand" "stands" ["self"] (dJ K 1 b7)):FnOk P w K Y base ef 8 f X ["bed","standing","event"] (dJ K 3 STP.nO):=md (N:=["bed","standing","event","hand"]) (g:=Cu) F (by ext:3) W W W (by delta Cu;ext:11)
theorem tN(F:Zl K "enter" "Places.enter" (bx (top 18) 1) f X)(b:gS K "Places" ["most","found","numbers"]){h l a:M}{e:XF}{q:Obj}(n:L9.XC K h l a)(t:K.lookup a=R q)(u:Zc K (.ref a)=Wl)(p:FnOk P w K Y base ef 1 a e ["self","most"] (L9.ym h "most"))(r:Binds K e ["self","most"] [])(m:WW K WN "TooMany"=R (R (.ref h)))(o:Y "TooMany"=R (.ref h))(v:Y "len"=U):FnOk P w K Y base (L4.jp P w) 3 f X ["self","place","back","event"] (dJ K 4 cx):=GC (N:=["self","place","back","event"]) (g:=eW) F (by ext:3) W W W λC A i s H E nd z j y B=>Ao (aN (rJ (JG (IM (aw ar) (bL b (.tail _ (.tail _ (.head _))) aI))) (aN (rJ (iX (jd MD (fS gF (aA (bL b (.tail _ (.head _)) aI) bp)) (bL b (.head _) aI))) (Dy m (bL b (.head _) aI)) kW)
   (aN (Hl (bL b (.tail _ (.tail _ (.head _))) aI) (aw ar) (fS gF (aA (bL b (.tail _ (.head _)) aI) bp)))
   (i4 (rc (bL b (.tail _ (.head _)) aI) (aw (uF (aF ar (aF ar (aF ar bt))))))))) kW)
   (fK (Hw (bL b (.tail _ (.tail _ (.head _))) aI) (aw ar)))) (ay (tq (Kz (LD.agc j (pv 1) (b9 (pv 0) W)) (by with_unfolding_all rfl)) (ay (tq (iJ PZ (bU dG W v jg (aj (b9 (pv 0) W) aB)) (b9 (pv 0) W) (gp _)) (aR (L9.G6 n t u p r (z.mono ()) W o (aj (b9 (pv 0) W) aB))) kg)
   (ay (LD.afR j (b9 (pv 0) W) (pv 1) (bU dG W v jg (aj (b9 (pv 0) W) aB)) W)
   (aR (im (kN Xh Yd Ye iA (b9 (pv 0) W) (aj (kJ (aj (pv 1) (aj (pv 2) (aj (pv 3) aB)))) aB)))))) kg)
   (aR (cV (LD.af7 j (b9 (pv 0) W) (pv 1) (λ_ _=>W)))))
theorem p9(F:Zl K "__init__" "Places.__init__" (bx (top 18) 0) f X)(a:gS K "Places" ["most","found","numbers"])(i:cC P w K Y base (L4.jp P w) 3 "Places" "enter" ["self","place","back","event"] (dJ K 4 cx)):FnOk P w K Y base (L4.jp P w) 4 f X ["self","first","most"] (dJ K 3 dW):=GC (N:=["self","first","most"]) (g:=d7) F (by ext:3) W W W λm A b s H E nd h l e j=>Ao (aN (jx a (.head _) aI (aw ar))
   (aN (jx a (.tail _ (.head _)) aI (aw (jG bt)))
   (aN (jx a (.tail _ (.tail _ (.head _))) aI xG)
   (i4 (Jo a aI (aA (aw ar) (aA (aw lh) (aA (aw lh) bp)))))))) (ay (lg (pv 0) (pv 2) W)
   (ay (lg (pv 0) (jP aB) W)
   (ay (lg (pv 0) LD.aej W)
   (aR (im (Bw i L4.kR h (pv 0) (aj (pv 1) (aj jV (aj jV aB)))))))))
theorem Hb(F:Zl K "walked" "walked" (top 17) f X)(b:gS K "Places" ["most","found","numbers"])(m:wx P w K Y base (L4.jp P w) 4 "Places" ["self","first","most"] (dJ K 3 dW))(t:cC P w K Y base (L4.jp P w) 3 "Places" "enter" ["self","place","back","event"] (dJ K 4 cx))(j:NM P w K Y base 8 "step" ["bed","standing","event"] 3 STP.nO)(u:gQ P w K Y base 1 "events_of" ["bed"] 1 fO)(q:Y "len"=U)(p:Y "tuple"=U)(l:Y "zip"=U){a:M}(o:Y "AT_REST"=R (.ref a))(n:∀O H,L3.DV O K H (.ref a) (.tuple [(.tuple []),.none,.none])):FnOk P w K Y base (L4.jp P w) 9 f X ["bed","most"] (dJ K 2 iY):=GC (N:=["bed","most","events","places","steps","sends","room","standing","answers"]) (g:=v3) F (by ext:3) W W W λB A h s H E nd e z r y=>Ao (aN (cT (kj (aw (jO (aF ar bt)))) bc)
   (aN (cT (CA b (aA (aw (DD n)) (aA (aw ar) bp))) bc)
   (aN (cT (aw (jG bt)) bc)
   (aN (cT (aw (jG bt)) bc)
   (aN (sH (iX (jd J9 (fS gF (aA aI bp)) (fS gF (aA (bL b (.tail _ (.head _)) aI) bp)))) (aN (cT (fS gF (aA aI bp)) bc)
   (aN (cT (gC (gC (bL b (.tail _ (.head _)) aI) (aw ar)) (aw bq)) bc)
   (aN (cT (kj (eV W W (kZ (ib ar)) bc dZ (xB (aA (aw ar) (aA (aw ar) (aA (aw ar) bp)))))) bc)
   (aN (i4 (rc aI (fS fP (aA (Hs W W (kZ (Dw (aF ar (aF ar bt)))) (Fc (we bc (we bc Ey))) dZ (Jo b aI (aA (aw (bH bS ar bq)) (aA (aw ar) (aA (aw ar) bp))))) bp))))
   (i4 (rc aI (aw (iy fP (aF (eO W W (ib ar) bF d4 (iy fP (aF (bH bS ar bq) bt))) bt))))))))))
   (fK (oE (aA (bL b (.tail _ (.head _)) aI) (aA aI (aA aI bp)))))))))) (ay (bX (i:=2) nd W (bb W) (fR u e (aj (pv 0) aB)))
   (ay (bX (i:=3) nd W (bg W) (GS m L4.kR e (aj (F1 (v:=.ref _) W o W) (aj (pv 1) aB))))
   (ay (bX (i:=4) nd W (bb W) (jP aB))
   (ay (bX (i:=5) nd W (bb W) (jP aB))
   (ay (vq ZU.leaving (iJ PU (bU dG W q jg (aj (pv 4) aB)) (bU dG W q jg (aj (b9 (pv 3) W) aB)) (gp _)) (ay (bX (i:=6) nd W (bg W) (bU dG W q jg (aj (pv 4) aB)))
   (ay (bX (i:=7) nd W (bg W) (bQ bv (bQ bv (b9 (pv 3) W) (pv 6) (λ_ _=>W)) bj (λ_ _=>W)))
   (ay (rA (i:=8) ["event"] [("bed",0),("standing",7)] nd W W W (dH (pv 2)) (λ_ _ _ _=>(bz (i:=0) (show Xi (["event","bed","standing"]:G Str) by left) W (bb W))) (λ_ _ _ _=>bM) (λ_ _ _ _=>(fR j e (aj (pv 1) (aj (pv 2) (aj (pv 0) aB))))) ⟨⟨W,W,bb W⟩,⟨⟨W,W,bb W⟩,trivial⟩⟩ W)
   (ay (im (kN Xh Yd Ye iA (pv 4) (aj (dU cy W p gY (aj (K5 ["event","answer"] [("places",3),("room",6)] ⟨W,W⟩ W W L4.M8 W (DT W l (aj (pv 2) (aj (pv 8) aB))) (λ_ _ _ _=>(Ah W (jJ (bz (i:=0) (show Xi (["event","answer","places","room"]:G Str) by left) W (bb W)) (jJ (bz (i:=1) (show Xi (["event","answer","places","room"]:G Str) by left) W (bb W)) uc)))) (λ_ _ _ _=>bM) (λ_ _ _ _=>(Bw t L4.IS e (pv 2) (aj (bQ bv (pv 1) bj (λ_ _=>W)) (aj (pv 3) (aj (pv 0) aB))))) ⟨⟨W,W,bb W⟩,⟨⟨W,W,bb W⟩,trivial⟩⟩ W) aB)) aB)))
   (aR (im (kN Xh Yd Ye iA (pv 5) (aj (dU cy W p gY (aj (cB ["answer"] [] W (dH (pv 8)) (λ_ _ _ _=>(bz (i:=0) (show Xi (["answer"]:G Str) by left) W (bb W))) (λ_ _ _ _=>bM) (λ_ _ _ _=>(dU cy W p gY (aj (bQ bv (pv 0) bj (λ_ _=>W)) aB))) trivial W) aB)) aB)))))))))
   (aR (cV (kJ (aj (b9 (pv 3) W) (aj (pv 4) (aj (pv 5) aB)))))))))))
theorem K4{j:M}{b:Array B}(F:acT K "rooms" "rooms" (top 16) f X j b)(i:pP P w K Y base (L4.jp P w) 9 "walked" ["bed","most"] [] (dJ K 2 iY)):FnOk P w K Y base (L4.jp P w) 10 f X ["bed","most"] (dJ K 2 fE):=Dx (N:=["bed","most"]) (g:=zv) F (by ext:3) W W W λn A a s H E nd h m e l=>Ao (fK (gC (rS (λ_ _=>.nil) (aA (aw ar) (aA (aw ar) bp))) (aw bq))) (aR (cV (bQ bv (ke i h L4.kR (aj (pv 0) (aj (pv 1) aB))) bj (λ_ _=>W))))
theorem Au(F:Zl K "numbered" "numbered" (top 23) f X)(h:Y "len"=U):FnOk P w K Y base ef 3 f X ["marks"] (dJ K 1 fA):=md (N:=["marks","numbers"]) (g:=pY) F (by ext:3) W W W λm A a s H E nd l e b j=>Ao (aN (cT xG bc)
   (fK (eV W W (iL aI) bc dZ (Mu aI (aw ar) (HB aI))))) (ay (bX (i:=1) nd W (bg W) LD.aej)
   (aR (cV (cB ["mark"] [("numbers",1)] W (dH (pv 0)) (λ_ _ _ _=>(bz (i:=0) (show Xi (["mark","numbers"]:G Str) by left) W (bb W))) (λ_ _ _ _=>bM) (λ_ _ _ _=>(LD.ag3 e (pv 1) (pv 0) (bU LD.aeS W h jg (aj (pv 1) aB)) ⟨W,W,W,W⟩)) ⟨⟨W,W,bb W⟩,trivial⟩ W))))
theorem pU(F:Zl K "mark_of" "Sorting.mark_of" (bx (top 22) 1) f X)(e:gS K "Sorting" ["steps","sends","rounds"])(h:Y "tuple"=U):FnOk P w K Y base ef 3 f X ["self","room"] (dJ K 2 bV):=md (N:=["self","room","alike"]) (g:=km) F (by ext:3) W W W λn A a s H E nd m l b j=>Ao (aN (by ext:1)
   (fK (oE (aA (gC aI (aw ar)) (aA (fS fP (aA (eV W W (iL (gC (bL e (.head _) aI) (aw ar))) bc dZ (gC aI (aw ar))) bp)) bp))))) (ay (by ext:2)
   (aR (cV (kJ (aj (bQ bv (pv 2) (pv 1) (λ_ _=>W)) (aj (dU cy W h gY (aj (cB ["there"] [("alike",2)] W (dH (bQ bv (b9 (pv 0) W) (pv 1) (λ_ _=>W))) (λ_ _ _ _=>(bz (i:=0) (show Xi (["there","alike"]:G Str) by left) W (bb W))) (λ_ _ _ _=>bM) (λ_ _ _ _=>(bQ bv (pv 1) (pv 0) (λ_ _=>W))) ⟨⟨W,W,bb W⟩,trivial⟩ W) aB)) aB))))))
theorem nz(F:Zl K "row_apart" "Sorting.row_apart" (bx (top 22) 2) f X)(a:gS K "Sorting" ["steps","sends","rounds"])(e:gQ P w K Y base 1 "unlike_at" ["ones","others"] 2 iS)(h:Y "reversed"=U):FnOk P w K Y base ef 3 f X ["self","one","other"] (dJ K 3 dh):=md (N:=["self","one","other","row","first","alike","place"]) (g:=jf) F (by ext:3) W W W λo A b s H E nd m l j n=>Ao (aN (by ext:1)
   (aN (cT (K6 (eV W W (iL (bL a (.tail _ (.tail _ (.head _))) aI)) bc dZ (aw (bH Db (bH bS ar ar) (bH bS ar ar))))) bc)
   (aN (z7 (Pd (Sf Qt (bL a (.tail _ (.tail _ (.head _))) aI) JB (L5 (aw ar)))) bc (aN (cT (ue (aA (eV W W (iL (gC (bL a (.head _) aI) (aw ar))) bc dZ (aw (bH bS ar ar))) (aA (eV W W (iL (gC (bL a (.head _) aI) (aw ar))) bc dZ (aw (bH bS ar ar))) bp))) bc)
   (aN (by ext:1)
   (aN (by ext:1)
   (by ext:1)))))
   (by ext:1)))) (ay (by ext:2)
   (ay (bX (i:=4) nd W (bb W) (kN Xh XH Yk xq (cB ["alike"] [("one",1),("other",2)] W (dH (b9 (pv 0) W)) (λ_ _ _ _=>(bz (i:=0) (show Xi (["alike","one","other"]:G Str) by left) W (bb W))) (λ_ _ _ _=>bM) (λ_ _ _ _=>(gA (DG l) (bQ bv (pv 0) (pv 1) (λ_ _=>W)) (bQ bv (pv 0) (pv 2) (λ_ _=>W)) (gp _))) ⟨⟨W,W,bb W⟩,⟨⟨W,W,bb W⟩,trivial⟩⟩ W) (aj BO aB)))
   (ay (pE ZU.never W (Tu W h (BR GU (b9 (pv 0) W) El (EB (pv 4)))) (bz (i:=5) nd W (bg W)) (ay (bX (i:=6) nd W (bb W) (fR e m (aj (cB ["room"] [("alike",5)] W (dH (bQ bv (b9 (pv 0) W) (pv 1) (λ_ _=>W))) (λ_ _ _ _=>(bz (i:=0) (show Xi (["room","alike"]:G Str) by left) W (bb W))) (λ_ _ _ _=>bM) (λ_ _ _ _=>(bQ bv (pv 1) (pv 0) (λ_ _=>W))) ⟨⟨W,W,bb W⟩,trivial⟩ W) (aj (cB ["room"] [("alike",5)] W (dH (bQ bv (b9 (pv 0) W) (pv 2) (λ_ _=>W))) (λ_ _ _ _=>(bz (i:=0) (show Xi (["room","alike"]:G Str) by left) W (bb W))) (λ_ _ _ _=>bM) (λ_ _ _ _=>(bQ bv (pv 1) (pv 0) (λ_ _=>W))) ⟨⟨W,W,bb W⟩,trivial⟩ W) aB))))
   (ay (by ext:2)
   (ay (by ext:2)
   (aR (by ext:2))))))
   (aR (by ext:2)))))
theorem oS(F:Zl K "__init__" "Sorting.__init__" (bx (top 22) 0) f X)(a:gS K "Sorting" ["steps","sends","rounds"])(o:pP P w K Y base (L4.jp P w) 9 "walked" ["bed","most"] [] (dJ K 2 iY))(n:cC P w K Y base ef 3 "Sorting" "mark_of" ["self","room"] (dJ K 2 bV))(b:NM P w K Y base 3 "numbered" ["marks"] 1 fA)(e:Y "max"=U)(p:Y "range"=U)(q:Y "len"=U):FnOk P w K Y base (L4.jp P w) 10 f X ["self","bed","most"] (dJ K 3 bO):=GC (N:=["self","bed","most","walk","finer"]) (g:=jM) F (by ext:3) W W W λt A j s H E nd h m l r=>Ao (aN (cT (kj (rS (λ_ _=>.nil) (aA (aw ar) (aA (aw ar) bp)))) bc)
   (aN (jx a (.head _) aI (aw (bH bS ar bq)))
   (aN (jx a (.tail _ (.head _)) aI (aw (bH bS ar bq)))
   (aN (jx a (.tail _ (.tail _ (.head _))) aI (aw (jG bt)))
   (aN (cT (sr (aA (bL a (.tail _ (.head _)) aI) bp)) bc)
   (sH (L7 (iX (jd qh (bL a (.tail _ (.tail _ (.head _))) aI) (aw (jG bt)))) (iX (jd zm (fS t8 (aA aI bp)) (fS t8 (aA (gC (bL a (.tail _ (.tail _ (.head _))) aI) (aw (FD uA bq))) bp))))) (aN (i4 (rc (bL a (.tail _ (.tail _ (.head _))) aI) aI))
   (cT (sr (aA (eV W W (KB (fS gF (aA (bL a (.head _) aI) bp))) bc dZ (uo a aI (aA (aw ar) bp))) bp)) bc)))))))) (ay (bX (i:=3) nd W (bb W) (ke o h L4.kR (aj (pv 1) (aj (pv 2) aB))))
   (ay (lg (pv 0) (bQ bv (pv 3) bj (λ_ _=>W)) W)
   (ay (lg (pv 0) (bQ bv (pv 3) bj (λ_ _=>W)) W)
   (ay (lg (pv 0) (jP aB) W)
   (ay (bX (i:=4) nd W (bb W) (fR b h (aj (b9 (pv 0) W) aB)))
   (aR (vq ZU.leaving (PW.pt (GI (iJ (pG m) (b9 (pv 0) W) (jP aB) (gp _)) (Dp (iJ FU (bU (nX W) W e Bh (aj (pv 4) aB)) (bU (nX W) W e Bh (aj (bQ bv (b9 (pv 0) W) (Ez yc bj) (λ_ _=>W)) aB)) (gp _))))) (ay (im (kN Xh Yd Ye iA (b9 (pv 0) W) (aj (pv 4) aB)))
   (aR (bX (i:=4) nd W (bb W) (fR b h (aj (cB ["room"] [("self",0)] W (dS W p (aj (bU dG W q jg (aj (b9 (pv 0) W) aB)) aB)) (λ_ _ _ _=>(bz (i:=0) (show Xi (["room","self"]:G Str) by left) W (bb W))) (λ_ _ _ _=>bM) (λ_ _ _ _=>(Bw n Bv h (pv 1) (aj (pv 0) aB))) ⟨⟨W,W,bb W⟩,trivial⟩ W) aB))))))))))))
theorem CY{p:M}{e:Array B}(F:acT K "machine" "machine" (top 20) f X p e)(a:gS K "Sorting" ["steps","sends","rounds"])(n:wx P w K Y base (L4.jp P w) 10 "Sorting" ["self","bed","most"] (dJ K 3 bO))(o:Y "range"=U)(h:Y "max"=U)(j:Y "tuple"=U):FnOk P w K Y base (L4.jp P w) 12 f X ["bed","most"] (dJ K 2 dn):=Dx (N:=["bed","most","sorting","state_of","firsts","steps"]) (g:=xg) F (by ext:3) W W W λt A b s H E nd m r l q=>Ao (aN (cT (CA a (aA (aw ar) (aA (aw ar) bp))) bc)
   (aN (cT (kj (gC (bL a (.tail _ (.tail _ (.head _))) aI) (aw (FD uA bq)))) bc)
   (aN (cT (kj (aw (eO W W (hV (aF (bH lP (iy L10.t8 (aF ar bt)) bq) bt)) bF d4 (L10.CS ar)))) bc)
   (aN (cT (fS fP (aA (eV W W (kZ (ib ar)) bc dZ (fS fP (aA (eV W W (iL (gC (bL a (.head _) aI) (aw ar))) bc dZ (aw (bH bS ar ar))) bp))) bp)) bc)
   (fK (oE (aA (aw ar) (aA (fS fP (aA (eV W W (kZ (ib ar)) bc dZ (gC (bL a (.tail _ (.head _)) aI) (aw ar))) bp)) bp)))))))) (ay (bX (i:=2) nd W (bg W) (GS n L4.kR m (aj (pv 0) (aj (pv 1) aB))))
   (ay (bX (i:=3) nd W (bg W) (bQ bv (b9 (pv 2) W) (Ez yc bj) (λ_ _=>W)))
   (ay (rA (i:=4) ["state"] [("state_of",3)] nd W W W (dS W o (aj (nw lz (bU (L10.nX W) W h Bh (aj (pv 3) aB)) bj) aB)) (λ_ _ _ _=>(bz (i:=0) (show Xi (["state","state_of"]:G Str) by left) W (bb W))) (λ_ _ _ _=>bM) (λ_ _ _ _=>(kN Xh XH Yk L10.rY (pv 1) (aj (pv 0) aB))) ⟨⟨W,W,bb W⟩,trivial⟩ W)
   (ay (bX (i:=5) nd W (bb W) (dU cy W j gY (aj (cB ["first"] [("sorting",2),("state_of",3)] W (dH (pv 4)) (λ_ _ _ _=>(bz (i:=0) (show Xi (["first","sorting","state_of"]:G Str) by left) W (bb W))) (λ_ _ _ _=>bM) (λ_ _ _ _=>(dU cy W j gY (aj (cB ["room"] [("state_of",2)] W (dH (bQ bv (b9 (pv 1) W) (pv 0) (λ_ _=>W))) (λ_ _ _ _=>(bz (i:=0) (show Xi (["room","state_of"]:G Str) by left) W (bb W))) (λ_ _ _ _=>bM) (λ_ _ _ _=>(bQ bv (pv 1) (pv 0) (λ_ _=>W))) ⟨⟨W,W,bb W⟩,trivial⟩ W) aB))) ⟨⟨W,W,bb W⟩,⟨⟨W,W,bb W⟩,trivial⟩⟩ W) aB)))
   (aR (cV (kJ (aj (pv 5) (aj (dU cy W j gY (aj (cB ["first"] [("sorting",2)] W (dH (pv 4)) (λ_ _ _ _=>(bz (i:=0) (show Xi (["first","sorting"]:G Str) by left) W (bb W))) (λ_ _ _ _=>bM) (λ_ _ _ _=>(bQ bv (b9 (pv 1) W) (pv 0) (λ_ _=>W))) ⟨⟨W,W,bb W⟩,trivial⟩ W) aB)) aB)))))))))
theorem Bi{p:M}{e:Array B}(F:acT K "apart" "apart" (top 21) f X p e)(h:gS K "Sorting" ["steps","sends","rounds"])(m:wx P w K Y base (L4.jp P w) 10 "Sorting" ["self","bed","most"] (dJ K 3 bO))(n:cC P w K Y base ef 3 "Sorting" "row_apart" ["self","one","other"] (dJ K 3 dh))(o:gQ P w K Y base 1 "events_of" ["bed"] 1 fO):FnOk P w K Y base (L4.jp P w) 12 f X ["bed","one","other","most"] (dJ K 4 gb):=Dx (N:=["bed","one","other","most","sorting","state_of","events"]) (g:=Ae) F (by ext:3) W W W λr A a s H E nd b l j q=>Ao (aN (cT (IU (CA h (aA (aw ar) (aA (aw ar) bp)))) bc)
   (aN (rJ (AZ (g7 (bH qh ar ar))) (fK (aw lh)) kW)
   (aN (cT (kj (gC (bL h (.tail _ (.tail _ (.head _))) aI) (aw (FD uA bq)))) bc)
   (aN (cT (kj (aw (jO (aF ar bt)))) bc)
   (fK (eV W W (iL (uo h aI (aA (aw (L10.CS ar)) (aA (aw (L10.CS ar)) bp)))) bc dZ (aw (bH bS ar ar)))))))) (ay (bX (i:=4) nd W (bb W) (GS m L4.kR b (aj (pv 0) (aj (pv 3) aB))))
   (ay (tq (iJ (pG l) (pv 1) (pv 2) (gp _)) (aR (cV jV)) kg)
   (ay (bX (i:=5) nd W (bb W) (bQ bv (b9 (pv 4) W) (Ez yc bj) (λ_ _=>W)))
   (ay (bX (i:=6) nd W (bg W) (fR o b (aj (pv 0) aB)))
   (aR (cV (cB ["place"] [("events",6)] W (dH (Bw n Bv b (pv 4) (aj (kN Xh XH Yk L10.rY (pv 5) (aj (pv 1) aB)) (aj (kN Xh XH Yk L10.rY (pv 5) (aj (pv 2) aB)) aB)))) (λ_ _ _ _=>(bz (i:=0) (show Xi (["place","events"]:G Str) by left) W (bb W))) (λ_ _ _ _=>bM) (λ_ _ _ _=>(bQ bv (pv 1) (pv 0) (λ_ _=>W))) ⟨⟨W,W,bb W⟩,trivial⟩ W)))))))
theorem Ry(F:Zl K "law" "law" (top 39) f X)(a:pP P w K Y base (L4.jp P w) 12 "apart" ["bed","one","other","most"] [] (dJ K 4 gb))(h:pP P w K Y base (L4.jp P w) 12 "apart" ["bed","one","other","most"] [.int 400] (dJ K 4 gb))(q:NM P w K Y base 13 "_law_machine" ["_law_bed_here"] 1 cK)(o:NM P w K Y base 13 "_law_many" ["_law_bed_here"] 1 e9)(n:gQ P w K Y base 2 "_law_keys" ["_law_script"] 1 j8)(p:gQ P w K Y base 4 "_law_bed" ["_law_script","_law_at","_law_keys_here"] 3 lc)(r:gQ P w K Y base 1 "_law_events" ["_law_bed_here"] 1 iB)(j:gQ P w K Y base 2 "_law_drawn" ["_law_script","_law_many_here"] 2 jj)(l:gQ P w K Y base 2 "_law_right" ["_law_found","_law_events_here","_law_pair","_law_row"] 4 gc)(v:gQ P w K Y base 1 "_law_cell" ["_law_script","_law_k"] 2 bJ)(y:gQ P w K Y base 1 "_law_take" ["_law_cell_here","_law_salt","_law_many_here"] 3 aV)(z:Y "len"=U):FnOk P w K Y base ef 14 f X ["_law_script"] (dJ K 1 F_law):=md (N:=["_law_script","_law_bed_here","_law_found","_law_events_here","_law_many_here","_law_pair","_law_row","_law_one"]) (g:=P2) F (by ext:3) W W W λB A e s H E nd b u m t=>Ao (aN (by ext:1)
   (aN (by ext:1)
   (aN (by ext:1)
   (aN (by ext:1)
   (aN (by ext:1)
   (aN (z7 (kZ (ib (jO (aF ar (aF ar bt))))) bc (aN (cT (lL (λ_ _=>.nil) (aA (aw ar) (aA (aw (bH bS ar bq)) (aA (aw (bH bS ar bq)) (aA (aw bq) bp))))) bc)
   (aN (by ext:1)
   (aN (i4 (Py aI))
   (rJ (FH (JG (ue (aA (aw ar) (aA (aw ar) (aA (aw ar) (aA (lL (λ_ _=>.nil) (aA (aw ar) (aA (aw (bH bS ar bq)) (aA (aw (bH bS ar bq)) (aA (aw bq) bp))))) bp))))))) (fK (aw Jt)) kW)))))
   (aN (by ext:1)
   (fK (yu (jd zy (lL (λ_ _=>.nil) (aA (aw ar) (aA (aw ar) (aA (aw ar) (aA (aw bq) bp))))) (aw lh)) (jd zy (lL (λ_ _=>(.cons (.int _) .nil)) (aA (aw ar) (aA (aw bq) (aA (aw bq) bp)))) (aw lh))))))))))) (ay (by ext:2)
   (ay (by ext:2)
   (ay (by ext:2)
   (ay (by ext:2)
   (ay (by ext:2)
   (ay (pE ZU.never W (dH (fR j b (aj (pv 0) (aj (pv 4) aB)))) (bz (i:=5) nd W (bb W)) (ay (bX (i:=6) nd W (bb W) (ke a b zz (aj (pv 1) (aj (bQ bv (pv 5) bj (λ_ _=>W)) (aj (bQ bv (pv 5) bj (λ_ _=>W)) (aj bj aB))))))
   (ay (by ext:2)
   (ay (im (D6 Xh PySem.F.slot_list_clear PySem.F.type_list_clear Lj (pv 6)))
   (aR (tq (vR (wb (fR l b (aj (pv 2) (aj (pv 3) (aj (pv 5) (aj (ke a b zz (aj (pv 1) (aj (bQ bv (pv 5) bj (λ_ _=>W)) (aj (bQ bv (pv 5) bj (λ_ _=>W)) (aj bj aB))))) aB))))))) (aR (cV BO)) kg))))))
   (ay (by ext:2)
   (aR (cV (z5 (gA CL (ke a b zz (aj (pv 1) (aj (pv 7) (aj (pv 7) (aj bj aB))))) jV (gp _)) (yG (gA CL (ke h b zz (aj (pv 1) (aj bj (aj bj aB)))) jV (gp _)))))))))))))
end
end K44
namespace L2
open PySem PySem.Spec PyProof.Rows
section
variable{Z:St}{H:Hp}{Q:VK}{D:Ends}
theorem MW{K:Ld}{e b:TE}{f:Str}(h:b Z H λy H1=>e Z H1 λx d=>∃a C c fs,x=.ref a/\d a=R (.ins C c fs)/\Cls K C/\aaw K C f/\fs.length<1000/\D.nx Z (bW d a (.ins C c (kE f y fs)))):Ss K e b f D Z H:=h
theorem S6{c:TT}{t u:TE}(h:c Z H λb H1=>if b=P then t Z H1 Q else u Z H1 Q):U5 c t u Z H Q:=h
theorem Rg{K:Ld}{b:TE}{f:Str}(h:b Z H λx H1=>∃a C c fs v,x=.ref a/\H1 a=R (.ins C c fs)/\Cls K C/\aaw K C f/\fs.lookup f=R v/\Q v H1):Ri K b f Z H Q:=h
theorem OT{C:M}{m:Str}{sp:Sp}{E:XK}{b:TE}{t:TA}(h:b Z H λx H1=>∃a d fs,x=.ref a/\H1 a=R (.ins C d fs)/\fs.lookup m=U/\t Z H1 λc e=>sp (x::(c++[])) e Q E):xy C m sp [] E b t Z H Q:=h
theorem NP{C:M}{sp:Sp}{E:XK}{t:TA}(h:t Z H λb H1=>∀x a,H1 x=U->H1 a=U->a≠x->sp (.ref x::(b++[])) (bW (bW H1 a (.own x)) x (.ins C a [])) (λv c=>v=.YM/\Q (.ref x) c) E):A6 C sp [] E t Z H Q:=h
end
end L2
local macro_rules| `(tactic|ext:28)=> `(tactic|repeat (first
 |specialize L2.Tj ?_
 |specialize L2.Q7 ?_
 |specialize L2.MW ?_
 |specialize L2.S6 ?_
 |specialize L2.Rg ?_
 |specialize L2.OT ?_
 |specialize L2.NP ?_
 |specialize L2.Na ?_
 |((with_reducible show L2.vG _ _ _ _);refine⟨_,rfl,?_⟩)
 |specialize L2.Vo ?_
 |specialize L2.anZ ?_
 |specialize L2.aor ?_
 |specialize L2.an0 ?_
 |specialize L2.ao1 ?_
 |((specialize L2.asa ?_ ?_);first|exact⟨by decide,by decide⟩|exact⟨by decide,by decide,by decide⟩|exact(show(0:Int)<_ by decide)|exact⟨by decide,by left⟩)
 |((specialize L2.aoh ?_ ?_);exact rfl)
 |((specialize L2.aoC ?_ ?_);exact rfl)
 |specialize L2.am5 ?_
 |specialize L2.PK ?_
 |specialize L2.amO ?_
 |specialize L2.akT ?_
 |specialize L2.ajx ?_
 |specialize L2.aj5 ?_
 |specialize L2.akj ?_
 |specialize L2.ao3 ?_
 |specialize L2.anN ?_
 |specialize L2.als ?_
 |specialize L2.aog ?_
 |specialize L2.amK ?_
 |specialize L2.akS ?_
 |specialize L2.alC ?_
 |specialize L2.akf ?_
 |specialize L2.aln ?_
 |specialize L2.aj8 ?_
 |specialize L2.an4 ?_
 |specialize L2.akO ?_
 |specialize L2.amd ?_
 |specialize L2.vY ?_
 |specialize L2.aow ?_
 |specialize L2.aop ?_
 |specialize L2.aiE ?_
 |specialize L2.ak4 ?_
 |specialize L2.alv ?_
 |specialize L2.ajy ?_
 |specialize L2.ajs ?_
 |specialize L2.aka ?_
 |specialize L2.akI ?_
 |specialize L2.amq ?_
 |specialize L2.akz ?_
 |specialize L2.akh ?_
 |specialize L2.ajU ?_
 |specialize L2.akG ?_
 |specialize L2.ajh ?_
 |specialize L2.akY ?_
 |specialize L2.akp ?_))
namespace K44
open PySem L2
section
open L3 L4
variable{P:WX}{w:Xm}{K:Ld}{mg:Str->bP Wi}{base:Heap}{f:Wo}{Y:XF}
theorem oQ:YW ["self","most"] ["self","most"] (aG (bx (top 3) 0)):=⟨W,W,W,by left,W,by left,by left⟩
def Ik{C B fI:M}(F:Zl K "__init__" "TooMany.__init__" (bx (top 3) 0) f Y)(o:L9.XC K C B fI)(l:mg "BedError"=R (.ref B))(g:acG K B (.type "type")=Wl)(m:acH K (.ref B) (.type "type") "__init__"=R (.val (.builtin "ValueError.__init__")))
  (b:ZG K (.ref B) "__getattribute__"=R (R (.builtin "type.__getattribute__"))) (j:Xy K (.ref C) "most"=R U):FnOk P w K mg base ef 1 f Y ["self","most"] (L9.ym C "most"):=by
 show F.ok oQ (λz H Q E h=>?_) (λu A a s H z Q E t h=>?_)
 .let(_,_,rfl,_):=h;rfl
 let(e,v,rfl,r,n,q):=h;show⟨_,(ay (im (L9.Jh W l g m b o (aj (pv 0) (aj (L9.No (L9.Re () (L9.Tt (pv 1) L9.QO)) ()) aB)))) (aR (L9.NJ o j (pv 0) (pv 1) W))),?_⟩;ext:28;show⟨V.ref e,W,v,W,r,λy=>⟨e,y,W,n,?_⟩⟩;show⟨v,W,V.ref e,W,e,W,n,λp j i=>q p j i⟩
end
end K44
namespace K44
open PySem L2
section
variable{P:WX}{w:Xm}{K:Ld}{mg:Str->bP Wi}{base:Heap}{f:Wo}{fd:XF}
theorem gB:YW ["_law_bed_here","_law_found"] ["_law_bed_here"] (aG (top 34)):=⟨W,W,W,by left,W,by left,by left⟩
def tY{C:Wo}{m:br Wi}(F:Zl K "_law_machine" "_law_machine" (top 34) f fd)(J:L3.pP P w K mg base (L4.jp P w) 12 "machine" ["bed","most"] [] (L10.dJ K 2 dn))
  (k:mg "TooMany"=lD (.ref C)) (M:L4.xJ K C m) (d:m.contains (.type "BaseException")=Wl) (Y:WW K WN "TooMany"=lD (lD (.ref C))):
  FnOk P w K mg base ef 13 f fd ["_law_bed_here"] (L10.dJ K 1 cK):=by
 show F.ok gB (λvs H Q E h=>h.1) (λX3 A u s H vs Q E O h=>?_);let hu:=O.units;let(hl,B,α,Z,xs,U,y,j):=h;let ev:∀{E2:XK},L10.c8 K E2 (mo (L10.dJ K 2 dn) [] E2 (fL (vG 0) (fL (tC (.int 40)) ju))) (L10.Su dn 2 (L10.am (L10.az 0) (L10.am (L10.ag (L3.pC (.int 40))) L10.aJ))):=L10.KK (L10.aA L10.aI (L10.aA (L10.aw (L3.DD λ_ _=>.int _)) L10.bp));obtain⟨b,rfl⟩:∃b,xs=[.fz b]:=by
  unfold cK at j;split at j
  .show⟨_,W⟩
  .show j.elim
 obtain⟨p,rfl,I⟩:∃p,vs=[p]/\L3.DV (L10.ow B α Z) K H p b:=by
  cases y with
  |cons I r0=>ext r0;show⟨_,W,I⟩
 let X:L10.Zg (L10.ow B α Z) K H α [lD p,lD .YM] [-(b),-(.none)]:=⟨W,λi x h=>by
  match i,h with
  |0,h=>ext h;show⟨p,W,I⟩
  |1,h=>ext h;show⟨.YM,W,.YM⟩
  |i+2,h=>ext h⟩
 suffices key:∃E2:XK,(∀c dx g,E2 c dx g->c=Wi.ref C)/\L10.WS K E2 B H α Z (L10.PQ B K Q) (L10.Su dn 2 (L10.am (L10.az 0) (L10.am (L10.ag (L3.pC (.int 40))) L10.aJ)) [-(b),-(.none)] Z)/\∀c dx g,E2 c dx g->Q .YM g by
  let(E2,k1,k2,k3):=key;show⟨_,(ay (bX (i:=1) gB.nd W (bb W) jV)
   (ay (L4.EW (E2:=E2) W W W W k M d
    (λl=>aR (bX (i:=1) gB.nd W (bb W) (L3.ke J O (L4.v8 W) (aj (pv 0) (aj bj aB)))))
    (λl e=>aR (bX (i:=1) gB.nd W (bb W) jV))
    (λc dx g h=>⟨C,m,k1 c dx g h,M,by rw[aar,ej,Zj]⟩))
   (aR (cV (pv 1))))),?_⟩
  ext:28;ext L4.J6;show⟨?_,λc dx g h2 o hs=>?_⟩
  .show ev B _ H α Z _ _ U X (k2.imp λx S Z1 g r q T v y=>⟨v,W,T v y⟩)
  .obtain⟨N,q,rfl⟩:∃N q,o=[N,q]:=by
    match o,hs with
    |[a,c],_=>show⟨a,c,W⟩
   show⟨.YM,W,k3 c dx g h2⟩
 unfold cK at j;dsimp only at j;show∃E2:XK,(∀c dx g,E2 c dx g->c=Wi.ref C)/\L10.WS K E2 B H α Z (L10.PQ B K Q) (dn [.fz b,.fz (.int 40)] Z)/\∀c dx g,E2 c dx g->Q .YM g;cases h1:dn [.fz b,.fz (.int 40)] Z with
 |bad=>rw[h1]at j;show j.elim
 |er x L=>
  rw[h1]at j;dsimp only at j;by_cases z:x.cls=("TooMany":Str)
  .rw[av z]at j;show⟨λc dx g=>∃n,L10.Yn α Z H n L g/\L10.Xg B K g n L/\c=.ref C,λc dx g ⟨_,_,_,h⟩=>h,?_,λc dx g ⟨n,r,q,_⟩=>j n g r q .YM .YM⟩;rintro c dx n H' G t ⟨⟨a',r,R⟩,_⟩;rw[z]at R;let e3:=Y.symm.trans R;ext e3;show⟨n,G,t,r⟩
  .rw[ax z]at j;show j.elim
 |ok x L=>rw[h1]at j;show⟨λ_ _ _=>False,λ_ _ _ h=>h.elim,j,λ_ _ _ h=>h.elim⟩
end
section
variable{P:WX}{w:Xm}{K:Ld}{mg:Str->bP Wi}{base:Heap}{f:Wo}{fd:XF}
theorem jw:YW ["_law_bed_here","_law_many_here"] ["_law_bed_here"] (aG (top 35)):=⟨W,W,W,by left,W,by left,by left⟩
def yK{C:Wo}{m:br Wi}(F:Zl K "_law_many" "_law_many" (top 35) f fd)(O:L3.pP P w K mg base (L4.jp P w) 10 "rooms" ["bed","most"] [.int 400] (L10.dJ K 2 fE))
  (V:mg "TooMany"=lD (.ref C)) (R:L4.xJ K C m) (D:m.contains (.type "BaseException")=Wl) (k:WW K WN "TooMany"=lD (lD (.ref C))) (X7:mg "len"=Wh):
  FnOk P w K mg base ef 13 f fd ["_law_bed_here"] (L10.dJ K 1 e9):=by
 show F.ok jw (λvs H Q E h=>h.1) (λX3 A I s H vs Q E T h=>?_);let hu:=T.units;let(hl,B,α,Z,xs,so,J,g):=h;let ev:∀{E2:XK},L10.c8 K E2 (Hi (λxs H Q=>∃x n,xs=[x]/\N5 K x H n/\Q (.int n) H) (fL (mo (L10.dJ K 2 fE) [.int 400] E2 (fL (vG 0) ju)) ju)) (L10.kK L3.cO (L10.am (L10.sV fE 2 [.int 400] (L10.am (L10.az 0) L10.aJ)) L10.aJ)):=L10.fS L3.gF (L10.aA (L10.rS (λ_ _=>(.cons (.int _) .nil)) (L10.aA L10.aI L10.bp)) L10.bp);obtain⟨b,rfl⟩:∃b,xs=[.fz b]:=by
  unfold e9 at g;split at g
  .show⟨_,W⟩
  .show g.elim
 obtain⟨r,rfl,N⟩:∃r,vs=[r]/\L3.DV (L10.ow B α Z) K H r b:=by
  cases J with
  |cons N r0=>ext r0;show⟨_,W,N⟩
 let sl:L10.Zg (L10.ow B α Z) K H α [lD r,lD (.int 401)] [-(b),-(.int 401)]:=⟨W,λi x h=>by
  match i,h with
  |0,h=>ext h;show⟨r,W,N⟩
  |1,h=>ext h;show⟨.int 401,W,.int _⟩
  |i+2,h=>ext h⟩
 suffices key:∃E2:XK,(∀c dx j,E2 c dx j->c=Wi.ref C)/\L10.WS K E2 B H α Z (L10.PQ B K Q) (L10.kK L3.cO (L10.am (L10.sV fE 2 [.int 400] (L10.am (L10.az 0) L10.aJ)) L10.aJ) [-(b),-(.int 401)] Z)/\∀c dx j,E2 c dx j->Q (.int 401) j by
  let(E2,k1,k2,k3):=key;show⟨_,(ay (bX (i:=1) jw.nd W (bb W) bj)
   (ay (L4.EW (E2:=E2) W W W W V R D
    (λl=>aR (bX (i:=1) jw.nd W (bb W) (bU (show Zf _ (.builtin "len") (λxs H Q=>∃x n,xs=[x]/\N5 K x H n/\Q (.int n) H)from dG) W X7 jg (aj (L3.ke O T (L4.v8 W) (aj (pv 0) aB)) aB))))
    (λl e=>aR (bX (i:=1) jw.nd W (bb W) bj))
    (λc dx j h=>⟨C,m,k1 c dx j h,R,by rw[aar,ej,Zj]⟩))
   (aR (cV (pv 1))))),?_⟩
  ext:28;ext L4.J6;show⟨?_,λc dx j u q hs=>?_⟩
  .show ev B _ H α Z _ _ so sl (k2.imp λx X Z1 j z t Y v J=>⟨v,W,Y v J⟩)
  .obtain⟨S,t,rfl⟩:∃S t,q=[S,t]:=by
    match q,hs with
    |[a,c],_=>show⟨a,c,W⟩
   show⟨.int 401,W,k3 c dx j u⟩
 unfold e9 at g;dsimp only at g;let ce:L10.kK L3.cO (L10.am (L10.sV fE 2 [.int 400] (L10.am (L10.az 0) L10.aJ)) L10.aJ) [-(b),-(.int 401)] Z=(fE [.fz b,.fz (.int 400)] Z).bind λx y=>L10.wL L3.cO [x] y:=by show(((fE [.fz b,.fz (.int 400)] Z).bind λx y=>(L10.RS.ok [] y).bind λxs Z3=>L10.RS.ok (x::xs) Z3).bind λxs y=>L10.wL L3.cO xs y)=_;cases fE [.fz b,.fz (.int 400)] Z<;>rfl
 rw[ce];cases h1:fE [.fz b,.fz (.int 400)] Z with
 |bad=>rw[h1]at g;show g.elim
 |er x p=>
  rw[h1]at g;dsimp only at g;by_cases L:x.cls=("TooMany":Str)
  .rw[av L]at g;show⟨λc dx j=>∃o,L10.Yn α Z H o p j/\L10.Xg B K j o p/\c=.ref C,λc dx j ⟨_,_,_,h⟩=>h,?_,λc dx j ⟨o,z,t,_⟩=>g o j z t (.int 401) (.int _)⟩;rintro c dx o H' M G ⟨⟨a',z,U⟩,_⟩;rw[L]at U;let e3:=k.symm.trans U;ext e3;show⟨o,M,G,z⟩
  .rw[ax L]at g;show g.elim
 |ok x p=>
  rw[h1]at g;dsimp only at g;cases u:L10.sh p x with
  |none=>rw[u]at g;show g.elim
  |some d=>
   rw[u]at g;cases d with
   |list ds=>
    show⟨λ_ _ _=>False,λ_ _ _ h=>h.elim,?_,λ_ _ _ h=>h.elim⟩;let e4:L10.wL L3.cO [x] p=.ok (.fz (L3.nd ds.length)) p:=by unfold L10.wL L10.aD L10.aD;rw[u];rfl
    show L10.WS K _ B H α Z _ (L10.wL L3.cO [x] p);rw[e4];show g
   |_=>show g.elim
end
end K44
theorem VH{α:Type}:∀{l:G α},l.length=1->∃a,l=[a]
 |[a],_=>⟨a,W⟩
theorem VV{α:Type}:∀{l:G α},l.length=2->∃a b,l=[a,b]
 |[a,b],_=>⟨a,b,W⟩
theorem VI{α:Type}:∀{l:G α},l.length=3->∃a b c,l=[a,b,c]
 |[a,b,c],_=>⟨a,b,c,W⟩
theorem VZ{α:Type}:∀{l:G α},l.length=4->∃a b c d,l=[a,b,c,d]
 |[a,b,c,d],_=>⟨a,b,c,d,W⟩
local macro_rules| `(tactic|ext:18)=> `(tactic|(intro _ _ _ _ _ _ us hl;first|(obtain⟨_,h⟩:=VH hl;subst h;rfl)|(obtain⟨_,_,h⟩:=VV hl;subst h;rfl)|(obtain⟨_,_,_,h⟩:=VI hl;subst h;rfl)|(obtain⟨_,_,_,_,h⟩:=VZ hl;subst h;rfl)|(match us,hl with|[_,_,_,_,_],_=>rfl)|(match us,hl with|[],_=>rfl)))| `(tactic|ext:31)=> `(tactic|(intro _ _ _ _ _ _ us hl;first|((have h1:us.length=1:=by simpa using hl);obtain⟨_,h⟩:=VH h1;subst h;exact⟨_,rfl,rfl⟩)|((have h1:us.length=2:=by simpa using hl);obtain⟨_,_,h⟩:=VV h1;subst h;exact⟨_,rfl,rfl⟩)|((have h1:us.length=3:=by simpa using hl);obtain⟨_,_,_,h⟩:=VI h1;subst h;exact⟨_,rfl,rfl⟩)|((have h1:us.length=4:=by simpa using hl);obtain⟨_,_,_,_,h⟩:=VZ h1;subst h;exact⟨_,rfl,rfl⟩)))| `(tactic|ext:30)=> `(tactic|first|exact List.forall_mem_nil _|(refine List.forall_mem_cons.mpr ⟨?_,?_⟩;(·(show Xy _ _ _=_;k_is));ext:30))| `(tactic|ext:34)=> `(tactic|first|(refine' L3.NI.mk ?a' ⟨_,L2.J1 ?b' ?c' ?d'⟩;(case a'=>k_is);(case b'=>k_is);(case c'=>k_is);(case d'=>k_is))|(refine' L3.MI.mk ?a' ?e' ⟨_,L2.J1 ?b' ?c' ?d'⟩;(case a'=>k_is);(case e'=>k_is);(case b'=>k_is);(case c'=>k_is);(case d'=>k_is))|(refine' L3.CI.mk ?a' ?b' ?c' ?d' ?e' ?f' ?g' ?i';(case a'=>k_is);(case b'=>k_is);(case c'=>k_is);(case d'=>k_is);(case e'=>k_is);(case f'=>k_is);(case g'=>k_is);(case i'=>ext:30))|(refine' L3.DI.mk ?a' ⟨_,L3.Ny ?b' ?c' ?d' ?e'⟩;(case a'=>k_is);(case b'=>k_is);(case c'=>k_is);(case d'=>k_is);(case e'=>k_is))|k_is|k_exc|rfl|left|(rw[<-Array.all_toList];rfl))
namespace K44
open PySem L2 L3
def F_lawH:FN:=L10.Ux F_law
def all_mk{l:afw}{w:Xm}{K:Ld}{h:Heap}{c:Str->bP Wi}{fa:Wo}
  {af8:Tok}
  {d:Wo} {agJ:Nat} {agK:Array (bP Wi)}
  {afm:Tok}
  {YD:Wo} {afY:Nat} {afT:Array (bP Wi)}
  {I:Wo} {adU:Nat} {adR:Array (bP Wi)}
  {k:Wo} {aeO:Nat} {aeJ:Array (bP Wi)}
  {agT:Wo} {U:Tok}
  {afi:Wo} {adO:Tok}
  {agL:Wo} {Y:Tok}
  {f0 f1 f2 f3 f4 f5 f6 f7 f8 f9 f10 f11 f12 f13 f14 f15 f16 f17 f18 f19 f20 f21 f22 f23 f24 f25 b f27 f28 f29 f30 f31 f32 f33 f34 f35 f36 f37 f38 f39 f40 A f42 f43 m f45 f46 f47 y:Wo}
  {p q:Wo}
  {nmR qR:Str} {x:Wo} {bsR:br Wi} {V:br Str} {ami:br Wi} {abR:Bool} {amM:bP Bool} {ddR:bP Wo} {k0R k1R k2R k3R k5R:bP Wi}
  {ocN:Wi} {odN:bP Wo} {R:Array ZV} {nN:Nat} {slN:Array (bP Wi)} (X:K.In h) (G:h.Ns WN c) (hfa:c "law"=lD (.ref fa))
  (h0:NI K f0 "layer_of" (top 8))
  (h1:NI K f1 "looked_up" (top 11))
  (h2:NI K f2 "chords_over" (top 12))
  (h3:NI K f3 "chord_acts" (top 13))
  (h4:NI K f4 "_law_cell" (top 26))
  (h5:NI K f5 "_law_take" (top 27))
  (h6:NI K f6 "_law_letter" (top 28))
  (h7:NI K f7 "_law_meaning" (top 29))
  (h8:NI K f8 "_law_chords" (top 30))
  (h9:NI K f9 "_law_bed" (top 31))
  (h10:NI K f10 "_law_keys" (top 32))
  (h11:NI K f11 "events_of" (top 15))
  (h12:NI K f12 "_law_events" (top 33))
  (h13:NI K f13 "unlike_at" (top 24))
  (h14:NI K f14 "_law_drawn" (top 37))
  (h15:NI K f15 "_law_last" (top 36))
  (h16:NI K f16 "_law_right" (top 38))
  (h17:NI K f17 "step" (top 9))
  (h18:NI K f18 "walked" (top 17))
  (h19:DI K f19 agT "rooms" (top 16) #v[.int 400 U])
  (h20:NI K f20 "numbered" (top 23))
  (h21:DI K f21 afi "machine" (top 20) #v[.int 400 adO])
  (Q:DI K f22 agL "apart" (top 21) #v[.int 400 Y])
  (h23:NI K f23 "_law_machine" (top 34))
  (h24:NI K f24 "_law_many" (top 35))
  (h25:NI K f25 "law" (top 39))
  (a:CI K b "Hand" ["bed","acts","waiting","once","sent"])
  (h27:MI K b f27 "__init__" "Hand.__init__" (bx (top 10) 0))
  (h28:MI K b f28 "stands" "Hand.stands" (bx (top 10) 1))
  (h29:MI K b f29 "is_waiting" "Hand.is_waiting" (bx (top 10) 2))
  (h30:MI K b f30 "has_act" "Hand.has_act" (bx (top 10) 13))
  (h31:MI K b f31 "come" "Hand.come" (bx (top 10) 11))
  (h32:MI K b f32 "go" "Hand.go" (bx (top 10) 12))
  (h33:MI K b f33 "decide" "Hand.decide" (bx (top 10) 10))
  (h34:MI K b f34 "makes_chord" "Hand.makes_chord" (bx (top 10) 4))
  (h35:MI K b f35 "put_to_chord" "Hand.put_to_chord" (bx (top 10) 5))
  (h36:MI K b f36 "begin" "Hand.begin" (bx (top 10) 6))
  (h37:MI K b f37 "press" "Hand.press" (bx (top 10) 3))
  (h38:MI K b f38 "settle" "Hand.settle" (bx (top 10) 8))
  (h39:MI K b f39 "lift" "Hand.lift" (bx (top 10) 7))
  (h40:MI K b f40 "wait_on" "Hand.wait_on" (bx (top 10) 9))
  (u:CI K A "Places" ["most","found","numbers"])
  (h42:MI K A f42 "enter" "Places.enter" (bx (top 18) 1))
  (h43:MI K A f43 "__init__" "Places.__init__" (bx (top 18) 0))
  (j:CI K m "Sorting" ["steps","sends","rounds"])
  (h45:MI K m f45 "mark_of" "Sorting.mark_of" (bx (top 22) 1))
  (h46:MI K m f46 "row_apart" "Sorting.row_apart" (bx (top 22) 2))
  (h47:MI K m f47 "__init__" "Sorting.__init__" (bx (top 22) 0))
  (n:WW K WN "TooMany"=lD (lD (.ref p)))
  (aec:WW K WN "BedError"=lD (lD (.ref q)))
  (xR:K.lookup p=lD (excClassObj nmR qR p x bsR (.ref q::[.type "ValueError",.type "Exception",.type "BaseException",.type "object"]) Wl V ami abR amM ddR k0R k1R k2R k3R k5R "ValueError.__new__"))
  (eI:abz K q [.type "ValueError",.type "Exception",.type "BaseException",.type "object"] "ValueError.__new__"=Wl)
  (lN:K.lookup x=lD ⟨ocN,odN,.dict R nN,slN⟩)
  (t:(R.all λe=>match e.key with|.str _ _=>Wl|_=>Wu)=Wl)
  (inN:WW K x "__init__"=lD (lD (.ref y)))
  (saR:Xy K (.ref p) "__setattr__"=lD (lD (.builtin "object.__setattr__")))
  (kI:Xy K (.ref p) "most"=lD Wh)
  (rdB:acG K q (.type "type")=Wl)
  (fcB:acH K (.ref q) (.type "type") "__init__"=lD (.val (.builtin "ValueError.__init__")))
  (F:ZG K (.ref q) "__getattribute__"=lD (lD (.builtin "type.__getattribute__")))
  (N:MI K p y "__init__" "TooMany.__init__" (bx (top 3) 0))
  (agN:WW K WN "NONE"=lD (lD (.ref d)))
  (aga:WW K WN "CHORD"=lD (lD (.ref YD)))
  (aeD:WW K WN "AT_REST"=lD (lD (.ref k)))
  (aeR:K.lookup k=lD ⟨.type "tuple",Wh,.seq #v[.ref I,.none,.none] aeO,aeJ⟩)
  (adL:K.lookup I=lD ⟨.type "tuple",Wh,.seq #v[] adU,adR⟩)
  (af1:K.lookup YD=lD ⟨.type "tuple",Wh,.seq #v[.str "chord" afm] afY,afT⟩)
  (agG:K.lookup d=lD ⟨.type "tuple",Wh,.seq #v[.str "none" af8] agJ,agK⟩)
  (y0:WW K WN "max"=lD Wh)
  (y1:WW K WN "all"=lD Wh)
  (y2:WW K WN "list"=lD Wh)
  (y3:WW K WN "sorted"=lD Wh)
  (y4:WW K WN "len"=lD Wh)
  (y5:WW K WN "range"=lD Wh)
  (y6:WW K WN "tuple"=lD Wh)
  (y7:WW K WN "zip"=lD Wh)
  (y8:WW K WN "isinstance"=lD Wh)
  (y9:WW K WN "dict"=lD Wh)
  (D:WW K WN "reversed"=lD Wh):
  ∃fd:XF,(∀(s:Ws) (v:Wi),abG s fd ⟨[v],[]⟩ [("_law_script",v)])/\∀base:Heap,K.In base->base.Ns WN c->FnOk l.prog w K c base ef 14 fa fd ["_law_script"] (L3.qC K 1 F_lawH):=by
 let o:=XO X G y0;let C:=XO X G y1;let E:=XO X G y2;let i:=XO X G y3;let g:=XO X G y4;let r:=XO X G y5;let M:=XO X G y6;let B:=XO X G y7;let aaU:=XO X G y8;let af6:=XO X G y9;let abQ:=XO X G D;let S:=OM (xs:=[.str "none"]) (ds:=[(.str "none")]) agG (by show 1<=WG;decide) (.cons ⟨_,rfl⟩ .nil) λO H=>(.cons (.str _) .nil);let ZW:=OM (xs:=[.str "chord"]) (ds:=[(.str "chord")]) af1 (by show 1<=WG;decide) (.cons ⟨_,rfl⟩ .nil) λO H=>(.cons (.str _) .nil);let aeh:=OM (xs:=[]) (ds:=[]) adL (by show 0<=WG;decide) .nil λO H=>.nil;let acm:=OM (xs:=[.ref I,.YM,.YM]) (ds:=[(.tuple []),.none,.none]) aeR (by show 3<=WG;decide) (.cons rfl (.cons rfl (.cons rfl .nil))) λO H=>(.cons (aeh O H) (.cons .YM (.cons .YM .nil)));let T:=Yt X G agN;let ZX:=Yt X G aga;let acj:=Yt X G aeD;show h25.law X G hfa (by ext:18) λbase fd aia=>?_;let W:Tp l.prog w K c base h:=⟨X,G⟩;let aaP:=h0.c W λ_ z=>B1 z o;let acy:=h1.c W λ_ z=>zE z;let YH:=h2.c W λ_ z=>vB z C;let ab9:=h3.c W λ_ z=>wG z E i g T S;let Yi:=h4.c W λ_ z=>yU z g;let J:=h5.c W λ_ z=>yI z r;let abD:=h6.c W λ_ z=>wf z J;let aaj:=h7.c W λ_ z=>tJ z J abD o;let abE:=h8.c W λ_ z=>wB z J r M g C;let ac1:=h9.c W λ_ z=>Aq z Yi J aaj abE r M;let acx:=h10.c W λ_ z=>yM z Yi J;let Y6:=h11.c W λ_ z=>zp z r;let abB:=h12.c W λ_ z=>vn z r;let abd:=h13.c W λ_ z=>yH z B;let aaV:=h14.c W λ_ z=>wH z Yi J r g;let acB:=h15.c W λ_ z=>yR z;let aaT:=h16.c W λ_ z=>wM z acB aaU E g C;let f:=a.cf;let XI:=u.cf;let L:=j.cf;let t:acR K x=Wl:=by ext acR;rw[lN];show t
 let XR:L4.xJ K p (.ref q::[.type "ValueError",.type "Exception",.type "BaseException",.type "object"]):=⟨_,_,_,_,_,_,_,_,_,_,_,_,_,_,_,_,xR⟩;let Z:L9.XC K p q y:=⟨⟨_,_,_,_,_,_,_,_,_,_,_,_,_,_,xR,t,inN⟩,eI,saR⟩;let ZT:=Yt X G n;let aeE:=Yt X G aec;let(fdI,zI):=N.F;let(_,_,_,_,_,_,_,_,_,rfl,abP,_):=zI.ex;let abM:=N.i;let abV:=Ik (P:=l.prog) (w:=w) (mg:=c) (base:=base) zI Z aeE rdB fcB F kI;let abT:=zI.binds (ps:=["self","most"]) (by ext:18);let ae6:=h27.k a W λ_ z=>rV z f af6;let YN:=h28.mt a W λ_ z=>vC z f M i;let YX:=h29.mt a W λ_ z=>pV z f;let Zs:=h30.mt a W λ_ z=>tP z f E;let Zd:=h31.mt a W λ_ z=>Af z f Zs;let ac0:=h32.mt a W λ_ z=>DC z f Zs;let X8:=h33.mt a W λ_ z=>uJ z f Zd ab9 B ZX ZW;let aad:=h34.mt a W λ_ z=>oO z f YN aaP YH ZX ZW;let ZY:=h35.mt a W λ_ z=>nF z f X8 YH g ZX ZW;let abC:=h36.mt a W λ_ z=>wS z f YN Zd aaP acy YH ZX ZW T S;let abF:=h37.mt a W λ_ z=>wX z f YX aad ZY X8 abC;let abn:=h38.mt a W λ_ z=>wl z f X8 Zd ZX ZW;let ab7:=h39.mt a W λ_ z=>Ad z f YX abn ac0;let aaZ:=h40.mt a W λ_ z=>tR z f X8;let aeX:=h17.c W λ_ z=>OO z f ae6 aaZ abF ab7 YN;let YB:=h42.mt u W λ_ z=>tN z XI Z abP abM abV abT n ZT g;let acp:=h43.k u W λ_ z=>p9 z XI YB;let ZS:=h18.d W λ_ z=>Hb z XI acp YB aeX Y6 g M B acj acm;let acr:L3.pP l.prog w K c base (L4.jp l.prog w) 10 "rooms" ["bed","most"] [.int 400] (L10.dJ K 2 fE):=h19.c (ds:=[.int 400 U]) (dvs:=[.int 400]) W (.cons ⟨_,rfl⟩ .nil) λ_ z=>K4 z ZS;let aaS:=h20.c W λ_ z=>Au z g;let Zw:=h45.mt j W λ_ z=>pU z L M;let YE:=h46.mt j W λ_ z=>nz z L abd abQ;let Zv:=h47.k j W λ_ z=>oS z L ZS Zw aaS o r g;let abm:L3.pP l.prog w K c base (L4.jp l.prog w) 12 "machine" ["bed","most"] [] (L10.dJ K 2 dn):=h21.c (ds:=[]) (dvs:=[]) W .nil λ_ z=>CY z L Zv r o M;let acq:L3.pP l.prog w K c base (L4.jp l.prog w) 12 "apart" ["bed","one","other","most"] [.int 400] (L10.dJ K 4 gb):=Q.c (ds:=[.int 400 Y]) (dvs:=[.int 400]) W (.cons ⟨_,rfl⟩ .nil) λ_ z=>Bi z L Zv YE Y6;let aaI:L3.pP l.prog w K c base (L4.jp l.prog w) 12 "apart" ["bed","one","other","most"] [] (L10.dJ K 4 gb):=Q.c (ds:=[]) (dvs:=[]) W .nil λ_ z=>Bi z L Zv YE Y6;let abh:=h23.c W λ_ z=>tY z abm ZT XR rfl n;let acw:=h24.c W λ_ z=>yK z acr ZT XR rfl n g;show(Ry aia aaI acq abh acw acx ac1 abB aaV aaT Yi J g).imp (λ_ _ _ _ h=>L10.R0 h)
end K44
local macro_rules|`(universe $i*)=>do
 let t:=fun (c:Lean.Name)=>`(theorem $(Lean.mkIdent ((`PySem.W.Fast).str ("tw"++toString c.hash))):ident:True:=trivial)
 let b:=`PySem.Challenge.cw_chordbed_k44_whole_no_machine_has_fewer_holds
 let o←(List.range 522).mapM fun n=>t (b.str ("o_"++toString n))
 let l←i.mapM fun j=>t (b++j.getId)
 return Lean.mkNullNode (((o.toArray++l).push (←t `PySem.Challenge.pw_chordbed_k44_whole_no_machine_has_fewer)))
universe heap_522 heap_39 tree_521 view_39 tree_443 tree_388 tree_339 sts_444 tree_218 sts_109 tree_299 sts_389 sts_303 sts_340 sts_71 tree_108 tree_70 sts_49 heap_46 tree_47 env_41
open PySem PySem.W PyProof.Rows
set_option maxRecDepth 100000 in
set_option maxHeartbeats 0 in
theorem PySem.Challenge.cw_chordbed_k44_whole_no_machine_has_fewer_holds : PySem.Challenge.rw_chordbed_k44_whole_no_machine_has_fewer.Holds := by
 w_on;o_law;k_head;(case hw=>w_witness2)
 k_fill
 refine L3.UI (l:=PySem.Challenge.rw_chordbed_k44_whole_no_machine_has_fewer) (n:=63) (k:=14) (x:= "_law_script") (F:=K44.F_lawH) rfl (by decide) rfl ⟨rfl,by decide,by decide⟩ (λw h Y=>PySem.W.kIn_of Y) ?F K44.main
 case F=>
  intro w e f h b G a
  apply K44.all_mk b G a
  all_goals ext:34
