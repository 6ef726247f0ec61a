import PyProof.Rows.All
import Wide.All
import OpenK.AllK
import Wide.FinOn
import Lean
import PyProof.EqAt
import PyProof.EqKinds
import PyProof.TupleCall
import KE.KIntText
import KE.KRevSl
import PyProof.Rows.SeqMore
import PyProof.WalkInts
import PyProof.Rows.MinMaxN
import PyProof.ExcInit
import OpenK.KMake
import PyProof.InstStoreFacts
import PyProof.FString2
import PyProof.Rows.FStr
import PyProof.Rows.SetFrom
import PyProof.SeqRoads2
import PyProof.RangeFor
import PyProof.WalksMore
import PyProof.StrBlock2
import PyProof.Rows.SortShell
import PyProof.TupleOfSeq
import KE.KDictList
import KE.KDictOf
import PyProof.IsiH_tuple
import PyProof.Rows.RuleN_abs
import PyProof.Rows.Range3
import KE.KRevIter
import PyProof.StrLawsRepr
import PyProof.ReprStr
import PyProof.IsiH_list
import PyProof.Rows.TupDisplay
import PyProof.SetKind
import PyProof.SetScanFacts
import PyProof.CollectIter
import PyProof.Rows.SortStr
import PySem.Challenge.RW_chordbed_k43_whole_the_machine_sends_the
set_option compiler.extract_closed false
set_option genSizeOf false
set_option genInjectivity false
set_option Elab.async false
set_option linter.all false
set_option maxRecDepth 100000
abbrev ax:=@if_pos
abbrev aE:=@if_neg
abbrev a4:=@decide_eq_true
abbrev a5:=@decide_eq_false
abbrev a6:=@of_decide_eq_true
abbrev a7:=@absurd
abbrev bg:=@List
abbrev b3:=@Option
abbrev b4:=@PySem.Heap.get?_push_of_some
abbrev cj:=@PySem.Heap.lt_size
abbrev ck:=@PySem.Heap.get?_push_size
abbrev cn:=@PySem.Heap.get?_update_other
abbrev cv:=@PySem.Heap.get?_update_self
abbrev cN:=@PySem.Heap.size_push
abbrev da:=@PySem.Heap.get?_none_of_le
abbrev dk:=@PySem.Obj.data_mapFields
abbrev dt:=@PySem.Obj.isFreed_of_fields
abbrev dN:=@Ne.symm
abbrev ec:=@congrArg
abbrev eg:=@beq_self_eq_true
open Lean in
def cvP:Nat→TSyntax `term→MacroM (TSyntax `rcasesPat)
 |0,_=>Macro.throwUnsupported
 |n+1,t=>let f:=fun (a:Array Term)=>do
   let l←(←a.mapM (cvP n)).mapM fun p=>`(Lean.Parser.Tactic.rcasesPatLo|$p:rcasesPat)
   `(rcasesPat|⟨$l,*⟩)
  match t with
  |`(⟨$a,*⟩)=>f a
  |`(($a,$b,*))=>f (#[a]++b.getElems)
  |`($i:ident)=>`(rcasesPat|$i:ident)
  |`(_)=>`(rcasesPat|_)
  |_=>Macro.throwUnsupported
local macro_rules|`(tactic|let $d:letDecl)=>`(tactic|have $d:letDecl)
local macro_rules|`(tactic|let $p:term:=$e)=>if p.raw.isIdent then Lean.Macro.throwUnsupported else do let q←cvP 99 p;`(tactic|obtain $q:rcasesPat:=$e)
local macro_rules|`(tactic|left)=>`(tactic|decide+kernel)|`(tactic|change $e)=>`(tactic|with_reducible exact $e)|`(tactic|specialize $e)=>`(tactic|with_reducible refine $e)
local macro_rules|`(def $i:declId $s:optDeclSig $v:declVal)=>if v.raw[1].isOfKind ``Lean.Parser.Term.byTactic then `(theorem $i:declId $(⟨Lean.mkNode ``Lean.Parser.Command.declSig #[s.raw[0],s.raw[1][0]]⟩):declSig $v:declVal) else `(noncomputable def $i:declId $s:optDeclSig $v:declVal)|`(abbrev $i:declId $s:optDeclSig $v:declVal)=>`(noncomputable abbrev $i:declId $s:optDeclSig $v:declVal)
local macro_rules|`(tactic|ext)=>`(tactic|decide)
local macro_rules|`(tactic|ext)=>`(tactic|omega)
local macro_rules|`(tactic|ext)=>`(tactic|lia)
local macro_rules|`(tactic|show $e)=>`(tactic|refine $e)
local macro_rules|`(tactic|ext $i:ident)=>`(tactic|cases $i:ident)
local macro_rules|`(tactic|ext $i:ident)=>`(tactic|unfold $i:ident)
local macro_rules|`(#[$a,*])=>`(⟨$a,*⟩)|`(#v[$a,*])=>`(List.toArray [$a,*])
local macro_rules|`(())=>`(by ext)
open Option renaming some->cL,none->Ld,bind_eq_some_iff->YH,isSome_iff_exists->Y8,isNone_iff_eq_none->aaM,isSome_map->aaO,map_eq_some_iff->abe,isSome_some->aeF,toList_none->aeI,getD_none->ae9,getD_some->afa
open PySem.W renaming Frag->lD,nsIn->Yh,findIn->YA,emptyDict->Y3,fnOf->Y4,keepIn->Zb,mg_of->Zh,instObj->Zq,isFn->ZD,kia_one->Z2,specialIn->aaa,cellsFrom_some->aab,plainGet->aaj,excIn->aap,codeIn->aaC,hasDictIn->aaK,methodCall_KW->abh,lookIn->abo,tailIn->abu,plainGet_of->abE,callWith_K->abM,methodObj->abX,plainOver->abY,takerIn->ack,makesIn->acm,readsIn->aco,findCls->acp,nsOkIn->acE,pyHash_slot->ad3,tail_of_in->aee,handedIn->aeQ,OpenLaw->afb,typeIn->afp,kitOne->afq,clsIn->afZ
open PySem renaming wpAny_bind->CL,Value->Xx,PyData->XG,Addr->XH,Shared->XI,wpAny_pure->XN,sizeLine->XY,starEach->X6,NameKind->X7,mainGlobals->X8,Program->Ya,Expr->Yc,Around->Ym,wpAny_field->Yo,World->Yq,Builtin->Yw,bootBuiltins->YI,FuncData->YN,wpAny_newObj_type->YO,wpAny_setField->YZ,sysModules->Y2,wpAny_holding->Y6,wpAny_seqItems->Y7,binaryOp->Zf,mem_of_lookup->Zg,Scope->Zj,compareOp->Zk,wpAny_callSpecial?_slot->Zl,Stmt->Zn,cellsFrom->Zr,wpAny_truthy_bool->Zx,sizeLine_eq->Zy,wpAny_loadPart_at->ZA,wpAny_standAt->ZE,wpAny_call_entry->ZH,wpAny_setField_rec->ZO,wpAny_passesOwn->ZT,swapsWith->ZU,wpAny_letGo->Z3,plainId_quiet->aad,codeAny_builtin->aah,wpAny_Call_Name_kw->aak,DictEntry->aao,ExcBaseFacts->aaw,call_meets->aaD,Comprehension->aaF,codeAny_call_builtin->aaI,wpAny_execs_nil->aaN,wpAny_pyIter_list->aaR,wpAny_isSubtype_exc->aaS,wpAny_rule->aba,Keyword->abk,wpAny_comprehension_free->abt,GenState->abD,BindsTo->abJ,wpAny_call->abK,codeAny_mono->abL,wpAny_pyIter_tuple->ab0,ReadsAll->acb,wpAny_updateSeq_pair->acd,wpAny_tryCatch->ace,wpAny_onRaise->acx,typeIs_int->acC,tupleKind_room_in1->acD,wpAny_typeOf->acQ,ZipApart->acR,call_meetsIn->acS,wpAny_Call_ofName->acT,eqIsQuiet_byValue->acU,plainObj_wpAny_Assign_Attribute->ac1,PassesOwn->ac8,Result->ada,IsPart->ade,wpAny_isInstance->adf,wpAny_of_eq->adx,Within->adH,pushCells_keeps->adI,wpAny_updateSeq->adK,OsState->ad2,Code->aeb,Reads->aec,IsZip->aed,wpAny_binaryOp_repeat_ref->aeG,Drawn->ae6,Model->ae7,CmpOp->ae8,wpAny_Assign_Subscript->afr,wpAny_isTrue_Compare1->afX,builtinLookup_eq_fast->af1,wpAny_notOrdered_dict->af2,Operator->agb,wpAny_mkInt->agf,wpAny_raiseNew_none->agF,wpAny_Name->agZ,wpAny_Constant_int->ag0,wpAny_load->ag2,wpAny_getItem_heap->ag4,wpAny_setItem_heap->ag5,wpAny_entryPlaceOf->ag6,passOn->ag7,wpAny_assign_Name->ahJ,slot_list_getitem->ahK,wpAny_Call_method->ahL,wpAny_frameOf_fun->ahM,OwnTail->ahN,wpAny_dictEntries->ahO,wpAny_pyHash_int->aih,wpAny_pyHash_str->aii,wpAny_execs_cons->aij,wpAny_lookBehind->ail,pastItsLine_dict->aim,noFill_tuple_add->ain,call->aip,wpAny_pyIter_zip->air,beq_builtin_none->ais,wpAny_specialOf->ajq,typeLookup_type->ajr,size_of_entries->aju,wpAny_Compare1->akz,wpAny_loadPart->akA,refuseLoop_ref->akH,HeapKind->akI,intBits_le_64->amI,seq_tuple_add->amJ,call_list_seq->amK,eval_ListComp->amL,wpAny_attempt->amM,wpAny_in_heap->amN,strLen_append->amO,wpAny_newList->amP,ItemsOf->amQ
open Bool renaming and_eq_true->Xy,true->XA,false->XF,false_ne_true->X9,or_eq_true->YW,and_self->ZK,false_eq_true->Z9,true_or->aaf,not_eq_true'->aag,false_or->aa6,true_and->aa7,false_and->abF,and_true->ab1,or_true->ach,noConfusion->acy,not_true->adz,or_eq_false_iff->aeK,eq_iff_iff->agd,bne_false->agG,or_false->ag3
open List renaming length_map->Xz,getElem?_eq_some_iff->XB,range->XD,length_append->XJ,getElem?_eq_getElem->XM,getElem?_map->XS,getElem?_append_left->XT,replicate->XU,length_range->XW,mem_cons_of_mem->XX,length_cons->XZ,mem_cons_self->X0,map_append->X2,mem_of_getElem?->X3,size_toArray->X4,map_cons->X5,append_assoc->Yb,map_map->Yg,mem_cons->Yi,mem_singleton->Yj,append_nil->Yl,getElem?_append_right->Yn,mem_map->Yr,find?_cons->Yv,lookup_cons->Yx,isEmpty_iff->Yy,getElem?_set_ne->YE,mem_append->YF,mem_range->YG,length_take->YJ,getElem?_set_self->YK,mem_append_right->YM,length_set->YQ,replicate_succ->YS,getElem?_set->YT,all_eq_true->YY,length_replicate->Y0,take_add_one->Y5,not_mem_nil->Y9,nodup_cons->Zd,mem_filter->Zt,lookup->Zu,flatten_cons->Zv,map_congr_left->Zz,getElem?_replicate->ZC,length_nil->ZI,all_cons->ZL,mem_iff_getElem?->ZN,map_nil->ZW,getElem_mem->ZX,prefix_refl->ZY,drop_eq_getElem_cons->Z0,nil_append->Z7,range_succ->Z8,drop_eq_nil_of_le->aae,nodup_append->aai,take_length->aat,any_cons->aav,mem_append_left->aay,of_mem_zip->aaB,mem_filterMap->aaJ,pairwise_cons->aaL,pairwise_map->aaY,filter_cons->abd,foldl->abl,take_of_length_le->abm,foldl_cons->abp,forIn_cons->abr,length_singleton->aby,length_filter_le->abz,contains_iff_mem->abA,length->abG,nodup_nil->abH,take_zero->abI,filterMap_cons->abV,contains_cons->ab8,map_inj_right->ab9,foldl_append->aci,length_drop->acw,any_eq_true->acz,getElem?_concat_length->acZ,forIn_nil->ac3,mem_of_find?_eq_some->adg,filterMap_cons_none->adB,filterMap_cons_some->adC,getElem?_cons_succ->adJ,getElem?_cons_zero->adL,pairwise_lt_range->ad6,set_append_right->aeg,mem_iff_getElem->aeH,getElem_toArray->aeJ,mem_of_mem_take->aeL,set_cons_zero->afc,set_cons_succ->afd,getElem_range->afe,prefix_append->aff,map_singleton->afg,zipIdx_cons->afY,cons_append->af0,zipIdx_nil->age,Nodup->ajv,set->amS
open Nat renaming le_refl->XO,le_of_ble_eq_true->XQ,lt_of_lt_of_le->Yd,ne_of_lt->Ye,le_trans->Ys,zero_add->YB,zero_le->YC,lt_irrefl->YR,ne_of_gt->YU,add_assoc->Y1,le_of_eq->ZZ,lt_trans->aal,lt_succ_self->aau,le_of_lt->aaG,add_comm->aaH,le_of_succ_le->aa4,lt_succ_of_lt->aa5,add_sub_cancel_left->abi,mul_le_mul->abN,lt_of_le_of_lt->aca,lt_of_le_of_ne->acf,lt_trichotomy->acr,min_le_right->acB,le_succ->acN,not_lt_zero->acY,sub_self->aef,add_sub_cancel'->afi,succ_mul->aio,lt_or_ge->aiv,max_le->akK
open Option.some renaming inj->X1
open Array renaming getElem?_eq_some_iff->Yk,length_toList->YL,getElem?_setIfInBounds_self_of_lt->Za,getElem?_setIfInBounds_ne->aam,getElem?_toList->ad4,find?_toList->aeP,forIn_toList->aeR,toList->ag1
open PyProof.Rows renaming envOfC->Yt,slot_tuple_getitem->Z5,callWith_type1->aan,callWith_builtin1->ajp,kws_cons->ajs,kws_nil->ajt
open Int renaming toNat_natCast->YV,le_refl->aa8,toNat_of_nonneg->abZ,ofNat->acF,fdiv_eq_ediv_of_nonneg->ac9,toNat->ad5,emod_lt_of_pos->afs,le_antisymm->agE,emod_nonneg->agH,zero_add->aiq
open PySem.F renaming excBase_ValueError->ZP,plainAttrs_dict->aaW,plainAttrs_list->aaX,slot_dict_setdefault->acq,slot_dict_getitem->acO,args_tuple_add_2->acP,slot_dict_values->acV,slot_list_append->acW,type_list_append->acX,entry_tuple_add->ac2,slot_list_index->ac4,slot_tuple_add->adb,slot_dict_pop->ady,slot_dict_len->adA
open Nat.le renaming dest->ZS
open PySem.SeqAt renaming eqv_refl->abb,compareEq_reads->akB,compareNe_reads->akC,in_list_reads->akD,in_tuple_reads->akE,notIn_list_reads->akF,notIn_tuple_reads->akG
open List.Pairwise renaming nil->abq,filterMap->ait,filter->aiu
open List.Perm renaming refl->acn,swap->aoI
open Int.ofNat renaming inj->afh
open PySem.W.Looks renaming here->aik
open PySem.Within renaming cons->ajo
open List.Nodup renaming sublist->amR
open PySem.IsL renaming update->aoH
open List.cons renaming injEq->aoJ
abbrev W:=@rfl
abbrev G:=@List
abbrev z:=@Option
open Option renaming some->M,none->R
open Bool renaming true->P
open PySem renaming Addr->I,Value->U
namespace L2
open PySem PySem.Spec PyProof.Rows
abbrev cB:=Sum Int Str
def uD:cB->U->Bool
 |.inl k,v=>Xx.isInt k v
 |.inr x,v=>Xx.isStrOf x v
def Wb(w:Yq):cB->Int
 |.inl k=>hashInt k
 |.inr x=>hashStr w x
theorem cO:∀{k:cB} {v:U},uD k v=P->(∃i t,k=Sum.inl i/\v=Xx.int i t)\/(∃x t,k=Sum.inr x/\v=Xx.str x t)
 |.inl i,v,h=>by let(t,e):=Xx.isInt_shape h;show .inl #[i,t,W,e]
 |.inr x,v,h=>by let(t,e):=Xx.isStrOf_shape h;show .inr #[x,t,W,e]
def C6(i:Int)(t:Tok):uD (.inl i) (.int i t)=P:=by simp[uD,Xx.isInt]
def DJ(x:Str)(t:Tok):uD (.inr x) (.str x t)=P:=by simp[uD,Xx.isStrOf]
def QV(a b:Int):decide ((Sum.inl a:cB)=Sum.inl b)=(a==b):=by
 by_cases e:a=b
 .subst e;simp
 .let h:¬(Sum.inl a:cB)=Sum.inl b:=λq=>e (Sum.inl.inj q);rw[a5 h];show(beq_eq_false_iff_ne.mpr e).symm
def Qz(a b:Str):decide ((Sum.inr a:cB)=Sum.inr b)=decide (a=b):=by
 by_cases e:a=b
 .subst e;simp
 .let h:¬(Sum.inr a:cB)=Sum.inr b:=λq=>e (Sum.inr.inj q);rw[a5 h,a5 e]
theorem Qv(a:Int)(b:Str):decide ((Sum.inl a:cB)=Sum.inr b)=XF:=a5 (λq=>nomatch q)
theorem Qa(a:Str)(b:Int):decide ((Sum.inr a:cB)=Sum.inl b)=XF:=a5 (λq=>nomatch q)
def cM(prog:Ya)(w:Yq):PySem.KeyKind prog w cB where
 is:=uD
 hash:=Wb w
 inj:=λv a b m g=>by
  rcases cO m with⟨i,t,rfl,rfl⟩|⟨x,t,rfl,rfl⟩
  .rcases cO g with⟨j,u,rfl,e⟩|⟨y,u,rfl,e⟩
   .injection e with e1 _;rw[e1]
   .show nomatch e
  .rcases cO g with⟨j,u,rfl,e⟩|⟨y,u,rfl,e⟩
   .show nomatch e
   .injection e with e1 _;rw[e1]
 byValue:=λk v h=>by rcases cO h with⟨i,t,rfl,rfl⟩|⟨x,t,rfl,rfl⟩<;>rfl
 pyHash:=λf h=>by
  rcases cO f with⟨i,t,rfl,rfl⟩|⟨x,t,rfl,rfl⟩
  .show aih h
  .show aii h
 eqBool:=λl f h=>by
  rcases cO l with⟨i,t,rfl,rfl⟩|⟨x,t,rfl,rfl⟩
  .rcases cO f with⟨j,u,rfl,rfl⟩|⟨y,u,rfl,rfl⟩
   .rw[QV]at h;show wpAny_eqBool_int h
   .rw[Qv]at h;show SeqAt.EqAt.int_str i t y u _ _ _ _ h
  .rcases cO f with⟨j,u,rfl,rfl⟩|⟨y,u,rfl,rfl⟩
   .rw[Qa]at h;show SeqAt.EqAt.str_int x t j u _ _ _ _ h
   .rw[Qz]at h;show wpAny_eqBool_str h
 «strs»:=λk x t v h=>by
  rcases cO h with⟨i,u,rfl,e⟩|⟨y,u,rfl,e⟩
  .show nomatch e
  .injection e with e1 _
   subst e1;ext v<;>rfl
theorem x4(prog:Ya)(w:Yq)(i:Int)(t:Tok):(cM prog w).is (.inl i) (.int i t)=P:=C6 i t
theorem yj(prog:Ya)(w:Yq)(x:Str)(t:Tok):(cM prog w).is (.inr x) (.str x t)=P:=DJ x t
inductive V where
 |Zw|bl (b:Bool)|int (i:Int)|str (x:Str)|byt (b:Array UInt8)|flt (b:UInt64)|ref (a:I)|ty (n:String)
 deriving DecidableEq
def RelV:V->U->Prop
 |.Zw,u=>u=Xx.none
 |.bl b,u=>u=Xx.bool b
 |.int i,u=>∃t,u=Xx.int i t
 |.str x,u=>∃t,u=Xx.str x t
 |.byt b,u=>∃t,u=Xx.bytes b t
 |.flt b,u=>∃t,u=Xx.float b t
 |.ref a,u=>u=Xx.ref a
 |.ty n,u=>u=Xx.type n
abbrev Vals:G V->G U->Prop:=Paired RelV
theorem Vals.length(r:Vals xs us):xs.length=us.length:=Paired.length r
theorem Vals.get:∀{xs:G V} {us:G U} {i:Nat} {x:V},Vals xs us->xs[i]?=M x->∃u,us[i]?=M u/\RelV x u
 |_,_,_,_,.nil,e=>by simp at e
 |_,_,0,_,.cons r _,e=>by simp at e;subst e;show#[_,W,r]
 |_,_,i+1,x,.cons _ t,e=>by let(u,b,a):=Vals.get t (by simpa using e);show#[u,by simpa using b,a]
theorem Vals.append:∀{xs a:G V} {us ws:G U},Vals xs us->Vals a ws->Vals (xs++a) (us++ws)
 |_,_,_,_,.nil,s=>s
 |_,_,_,_,.cons r t,s=>.cons r (Vals.append t s)
theorem Vals.take:∀{xs:G V} {us:G U} (n:Nat),Vals xs us->Vals (xs.take n) (us.take n)
 |_,_,0,_=>.nil
 |_,_,_+1,.nil=>.nil
 |_,_,n+1,.cons r t=>.cons r (Vals.take n t)
theorem Vals.drop:∀{xs:G V} {us:G U} (n:Nat),Vals xs us->Vals (xs.drop n) (us.drop n)
 |_,_,0,r=>r
 |_,_,_+1,.nil=>.nil
 |_,_,n+1,.cons _ t=>Vals.drop n t
def aa1:z V->z U->Prop
 |some v,M u=>RelV v u
 |none,R=>True
 |_,_=>False
def KV:G (o×V)->G (o×U)->Prop:=Paired λ(p:o×V) (q:o×U)=>p.1=q.1/\RelV p.2 q.2
def kV:cB->V
 |.inl i=>.int i
 |.inr x=>.str x
inductive HO where
 |lst (xs:G V)
 |tup (xs:G V)
 |dK (Yf:G (cB×V))|dT (Yf:G (G cB×V))
 |set (S:Int->Bool) (n:Nat)
 |ins (C dx:I) (fs:G (Str×V))
 |own (x:I)
 |xd (fs:G (Str×V))
 |met (f x:I)
 |rng (lo hi:Int)
 |frz (o:Obj) (u:HO)
 |tbl (ps:Array U)
 |ext (φ:Heap->Prop)
 |exw (φ:Yq->Heap->Prop)
abbrev Hp:=I->z HO
def bf(H:Hp)(a:I)(o:HO):Hp:=λb=>if b=a then M o else H b
def aI:bf H a o a=M o:=by ext bf;rw[ax W]
def az(h:b≠a):bf H a o b=H b:=by ext bf;rw[aE h]
def Uk{H:Hp}{a b:I}{o u:HO}(h:H a=M o)(c:H b=M u)(d:o≠u):a≠b:=by intro e;subst e;rw[h]at c;show d (X1 c)
def bA{H:Hp}(h:H a=M o)(c:H b=R):a≠b:=by intro e;subst e;rw[h]at c;ext c
def acs(h:Heap)(a:I)(b:Array U):Prop:=∃o,h.get? a=M o/\(o.cls=.type "tuple"/\∃n,o.data=.seq b n)/\o.dict=R
theorem acs.tup(x:acs h a items):IsTup h a items:=let#[o,e,c,_]:=x;#[o,e,c]
theorem acs.lt(x:acs h a items):a<h.objs.size:=let#[_,e,_]:=x;cj e
theorem acs.new(h:Heap)(xs:Array U):acs (h.push {cls:=.type "tuple",data:=.seq xs}) h.objs.size xs:=#[_,ck _ W,#[W,_,W],W]
section
variable(P:Ya)(w:Yq)
def ObjOk(H:Hp)(h:Heap)(a:I):HO->Prop
 |.lst xs=>xs.length<=XY/\∃(b:G U) (n:Nat),Vals xs b/\h.get? a=M {cls:=.type "list",data:=.seq b.toArray n}
 |.tup xs=>xs.length<=XY/\∃b:G U,Vals xs b/\acs h a b.toArray
 |.dK j=>j.length<=XY/\(a==Y2)=XF/\∃m,KV j m/\h.DictOf (cM P w) a m
 |.dT j=>j.length<=XY/\(a==Y2)=XF/\∃xs:G (G cB×I×U),
   Paired (λ(p:G cB×V) (q:G cB×I×U)=>p.1=q.1/\H q.2.1=M (.tup (p.1.map kV))/\RelV p.2 q.2.2) j xs/\
   ∃o es A,h.get? a=M o/\o.ExactDict/\o.data=.dict es A/\es.toList=xs.map (entryOfKey (tupleKind (cM P w)))/\(xs.map (·.1)).Nodup
 |.set S n=>h.SetOf (intKind P w) a S n
 |.ins C l fs=>H l=M (.own a)/\fs.length<=1000/\l≠a/\h.get? a=M (Zq C l)/\
   ∃g,h.Ns1 l g/\(∀f,aa1 (fs.lookup f) (g f))/\adH g (fs.map (·.1))
 |.own _=>∃o,h.get? a=M o
 |.xd fs=>∃g,h.Ns1 a g/\∀f,aa1 (fs.lookup f) (g f)
 |.rng lo y=>∃t u v,h.get? a=M {cls:=.type "range",data:=.fields #v[.int lo t,.int y u,.int 1 v]}
 |.frz o u=>h.get? a=M o/\ObjOk H h a u
 |.tbl r=>h.get? a=M {cls:=.none,data:=.fields r}
 |.met f x=>h.get? a=M (abX (.ref f) (.ref x))
 |.ext e=>e h/\(∃o,h.get? a=M o)/\∀h1 i:Heap,e h1->(∀o,h1.get? a=M o->i.get? a=M o)->e i
 |.exw e=>e w h/\(∃o,h.get? a=M o)/\∀h1 i:Heap,e w h1->(∀o,h1.get? a=M o->i.get? a=M o)->e w i
def HOk(H:Hp)(h:Heap):Prop:=∀a o,H a=M o->ObjOk P w H h a o
end
section
variable{P:Ya}{w:Yq}{H Z:Hp}{h h':Heap}{a:XH}{o:HO}
def ObjOk.lt(x:ObjOk P w H h a o):a<h.objs.size:=by
 cases o with
 |lst xs=>let(_,_,_,_,e):=x;show cj e
 |tup xs=>let(_,_,_,p):=x;show p.lt
 |dK i=>let(_,_,_,_,o,_,_,e,_):=x;show cj e
 |dT i=>let(_,_,_,_,o,_,_,e,_):=x;show cj e
 |set S n=>let(o,_,_,_,e,_):=x;show cj e
 |ins C m fs=>let(_,_,_,e,_):=x;show cj e
 |own y=>let(_,e):=x;show cj e
 |xd fs=>let(_,(_,_,_,e,_),_):=x;show cj e
 |rng lo l=>let(_,_,_,e):=x;show cj e
 |frz b u=>let(e,_):=x;show cj e
 |tbl j=>show cj (show h.get? a=M _ from x)
 |met f y=>show cj (show h.get? a=M _ from x)
 |ext g=>let(_,(_,e),_):=x;show cj e
 |exw g=>let(_,(_,e),_):=x;show cj e
theorem Paired.aa3:∀{d:bg α} {c:bg β},Paired F d c->(∀a b,F a b->e a b)->Paired e d c
 |_,_,.nil,_=>.nil
 |_,_,.cons r t,f=>.cons (f _ _ r) (Paired.aa3 t f)
def ObjOk.aa2(x:ObjOk P w H h a o)(k:∀b u,(b=a\/H b=M (.own a))->h.get? b=M u->h'.get? b=M u)
  (F:∀b,H b=M (.own a)->Z b=M (.own a)) (E:∀b xs,H b=M (.tup xs)->Z b=M (.tup xs)):ObjOk P w Z h' a o:=by
 induction o with
 |lst xs=>let(z,A,n,r,e):=x;show#[z,A,n,r,k _ _ (.inl W) e]
 |tup xs=>let(z,A,r,g,e,c):=x;show#[z,A,r,g,k _ _ (.inl W) e,c]
 |dK N=>let(z,y,L,r,g,es,i,e,c):=x;show#[z,y,L,r,g,es,i,k _ _ (.inl W) e,c]
 |dT N=>let(z,y,xs,r,g,es,i,e,c):=x;show#[z,y,xs,Paired.aa3 r λp q z=>#[z.1,E _ _ z.2.1,z.2.2],g,es,i,k _ _ (.inl W) e,c]
 |set S n=>let(g,es,i,t,e,c):=x;show#[g,es,i,t,k _ _ (.inl W) e,c]
 |ins C Q fs=>let(d,z,ne,e,m,(l,es,i,e2,c),r):=x;show#[F _ d,z,ne,k _ _ (.inl W) e,m,#[l,es,i,k _ _ (.inr d) e2,c],r]
 |own y=>let(g,e):=x;show#[g,k _ _ (.inl W) e]
 |xd fs=>let(m,(l,es,i,e,c),r):=x;show#[m,#[l,es,i,k _ _ (.inl W) e,c],r]
 |rng lo O=>let(t,u,v,e):=x;show#[t,u,v,k _ _ (.inl W) e]
 |frz g u B=>let(e,q):=x;show#[k _ _ (.inl W) e,B q]
 |tbl J=>let e:h.get? a=M {cls:=.none,data:=.fields J}:=x;show h'.get? a=M {cls:=.none,data:=.fields J};show k a _ (.inl W) e
 |met f y=>let e:h.get? a=M (abX (.ref f) (.ref y)):=x;show h'.get? a=M (abX (.ref f) (.ref y));show k a _ (.inl W) e
 |ext K=>let(p,(o,e),j):=x;show#[j _ _ p λo q=>k _ _ (.inl W) q,#[o,k _ _ (.inl W) e],j]
 |exw K=>let(p,(o,e),j):=x;show#[j _ _ p λo q=>k _ _ (.inl W) q,#[o,k _ _ (.inl W) e],j]
theorem HOk.lt(x:HOk P w H h)(e:H a=M o):a<h.objs.size:=(x a o e).lt
def HOk.fresh(x:HOk P w H h)(e:h.objs.size<=a):H a=R:=by
 cases q:H a with
 |none=>rfl
 |some u=>show a7 (Yd (x.lt q) e) (YR _)
theorem HOk.kept(x:HOk P w H h)(k:∀b u,h.get? b=M u->h'.get? b=M u):HOk P w H h':=λa o e=>
 (x a o e).aa2 (λb u _ q=>k b u q) (λ_ q=>q) λ_ _ q=>q
theorem HOk.laid(x:HOk P w H h)(k:∀b u,h.get? b=M u->h'.get? b=M u)(g:h.objs.size<=a)(new:ObjOk P w (bf H a o) h' a o):HOk P w (bf H a o) h':=λb u e=>by
 let i:=x.fresh g;by_cases f:b=a
 .subst f;rw[aI]at e;ext e;show new
 .rw[az f]at e;show(x b u e).aa2 (λc v _ q=>k c v q) (λc q=>by rw[az (bA q i)];show q) λc xs q=>by rw[az (bA q i)];show q
end
def Rd(H:Hp)(a:I)(u:HO):Prop:=H a=M u\/∃o,H a=M (.frz o u)
def Rd.ok(r:Rd H a u)(x:HOk b w H h):ObjOk b w H h a u:=by
 rcases r with r|⟨o,r⟩
 .show x a u r
 .let(_,q):=x a _ r;show q
def Uz:z HO->Prop
 |some (.lst _)=>True
 |some (.dK _)=>True
 |some (.dT _)=>True
 |some (.set _ _)=>True
 |some (.ins _ _ _)=>True
 |some (.ext _)=>True
 |some (.exw _)=>True
 |_=>False
section
variable{P:Ya}{w:Yq}{H:Hp}{h h':Heap}{x e:XH}{Z:HO}
theorem HOk.write(ok:HOk P w H h)(g:Uz (H x))(o:e=x\/H e=M (.own x))(k:∀b u,b≠e->h.get? b=M u->h'.get? b=M u)(l:∃u,h'.get? e=M u)
  (new:ObjOk P w (bf H x Z) h' x Z):HOk P w (bf H x Z) h':=λb u q=>by
 let f:∀c y,H c=M (.own y)->c≠x:=λc y r z=>by subst z;rw[r]at g;show g
 let m:∀c xs,H c=M (.tup xs)->c≠x:=λc xs r z=>by subst z;rw[r]at g;show g
 by_cases j:b=x
 .subst j;rw[aI]at q;ext q;show new
 .rw[az j]at q
  by_cases a:b=e
  .let n:H b=M (.own x):=by
    rcases o with z|z
    .show a7 (a.trans z) j
    .rw[a];show z
   rw[q]at n;ext n;let(v,p):=l;show#[v,by rw[a];show p]
  .show(ok b u q).aa2 (λc v i r=>k c v ?_ r) (λc r=>by rw[az (f c b r)];show r) λc xs r=>by rw[az (m c xs r)];show r
   rcases i with rfl|i
   .show a
   .rintro rfl
    rcases o with z|z
    .show f c b i z
    .rw[i]at z;ext z;show j W
end
structure Un(fs ex:G I)(H H':Hp)(h h':Heap):Prop where
 keep:∀b o,h.get? b=M o->H b=R->b∉fs->b∉ex->h'.get? b=M o
 slot:∀b o,h.get? b=M o->H b=R->b∈fs->b∉ex->∃sl,h'.get? b=M {o with slots:=sl}
 free:∀b o,h.get? b=M o->H b=R->b∉ex->H' b=R
 there:∀b o,h.get? b=M o->b∉ex->∃o',h'.get? b=M o'
 acH:∀b xs,H b=M (.tup xs)->H' b=M (.tup xs)
 acu:∀b o u,H b=M (.frz o u)->H' b=M (.frz o u)
 acM:∀b ps,H b=M (.tbl ps)->∃more,H' b=M (.tbl (ps++more))
section
variable{fs X Z T:bg XH}{H S Q:Hp}{h Y O h':Heap}{a x e:XH}{o:HO}
def Un.any(u:Un fs Z H S h Y)(q:h.get? b=M ob)(n:H b=R)(f:b∉Z):∃c,Y.get? b=M {ob with slots:=c}:=by
 by_cases g:b∈fs
 .show u.slot b ob q n g f
 .show#[ob.slots,u.keep b ob q n g f]
theorem Un.kept(k:∀b u,h.get? b=M u->h'.get? b=M u):Un fs Z H H h h':=
 #[λb f q _ _ _=>k b f q,λb f q _ _ _=>#[f.slots,k b f q],λ_ _ _ n _=>n,λb f q _=>#[f,k b f q],λ_ _ q=>q,λ_ _ _ q=>q,λ_ g q=>#[#v[],by rw[q];simp]]
theorem Un.refl:Un fs Z H H h h:=Un.kept λ_ _ q=>q
theorem Un.laid(k:∀b u,h.get? b=M u->h'.get? b=M u)(f:h.objs.size<=a)(c:H a=R):Un fs Z H (bf H a o) h h' where
 keep:=λb u q _ _ _=>k b u q
 slot:=λb u q _ _ _=>#[u.slots,k b u q]
 free:=λb u q n _=>by rw[az (Ye (Yd (cj q) f))];show n
 there:=λb u q _=>#[u,k b u q]
 acH:=λb xs q=>by rw[az (bA q c)];show q
 acu:=λb u xs q=>by rw[az (bA q c)];show q
 acM:=λb g q=>#[#v[],by rw[az (bA q c),q];simp]
def Un.write(g:Uz (H x))(p:e=x\/H e=M (.own x))(k:∀b u,b≠e->h.get? b=M u->h'.get? b=M u)(i:∃u,h'.get? e=M u):Un fs Z H (bf H x o) h h':=by
 let j:∀b,H b=R->b≠x:=λb n z=>by subst z;rw[n]at g;show g
 let l:∀b,H b=R->b≠e:=λb n z=>by
  subst z;rcases p with r|r
  .show j b n r
  .rw[n]at r;ext r
 let hm:∀b u,H b=M u->¬Uz (M u)->b≠x:=λb u q m z=>by subst z;rw[q]at g;show m g
 show#[λb u q n _ _=>k b u (l b n) q,λb u q n _ _=>#[u.slots,k b u (l b n) q],λb u q n _=>by rw[az (j b n)];show n,λb u q _=>?_,
  λb xs q=>by rw[az (hm b _ q λz=>z)];show q,λb u xs q=>by rw[az (hm b _ q λz=>z)];show q,λb t q=>#[#v[],by rw[az (hm b _ q λz=>z),q];simp]]
 by_cases f:b=e
 .subst f;show i
 .show#[u,k b u f q]
end
def Vn(h:Heap)(H:Hp):G I:=(XD h.objs.size).filter λa=>(H a).isSome
def wz(h:Heap)(H:Hp):Heap:=PySem.W.hideAll h (Vn h H)
theorem DC(h:Heap)(H:Hp):(wz h H).objs.size=h.objs.size:=PySem.W.hideAll_size _ _
theorem IL(e:h.get? b=M o)(n:H b=R):(wz h H).get? b=M o:=
 PySem.W.hideAll_get _ e λhm=>by let q:=(Zt.mp hm).2;rw[n]at q;simp at q
def MZ(e:(wz h H).get? b=M o):h.get? b=M o/\H b=R:=by
 let a:=PySem.W.of_hideAll (Vn h H) e;show#[a,?_];cases q:H b with
 |none=>rfl
 |some x=>let hm:b∈Vn h H:=Zt.mpr #[YG.mpr (cj a),by simp[q]];let z:(wz h H).get? b=R:=PySem.W.hideAll_none (Vn h H) hm;rw[z]at e;ext e
structure Mod(K:lD)(mg:Str->z U)(base:Heap):Prop where
 kin:K.In base
 glob:base.Ns X8 mg
 blt:∃mb,base.Ns builtinsNs mb/\∀x:Str,x≠ "__name__"->mb x=YI x
 nolimit:base.NoLimit
structure Cx where
 prog:Ya
 w:Yq
 K:lD
 mg:Str->z U
 base:Heap
 A:Ym
 N:G Str
 s₀:XI
 H₀:Hp
 env:Env
 outer:G Env
 stack:G Env
 ex:G I
 fn:Str->Bool
 calm:Bool
 pn:G (I×Obj)
 xe:U->XI->Prop
def xc(l:G Env):G I:=l.filterMap (·.frame)
abbrev Cx.fs(X:Cx):G I:=xc X.outer
def Vi(sc:Zj)(x:Str):Prop:=sc.names.lookup x=M .local\/sc.names.lookup x=M .cell\/sc.names.lookup x=M .free
def S5(sc:Zj)(x:Str):Prop:=sc.names.lookup x=M .local\/sc.names.lookup x=M .cell
def VD(env:Env)(h:Heap)(m:Str->z U)(x:Str)(u:U):Prop:=
 (env.kindOf x=M .local/\m x=M u)\/((env.kindOf x=M .cell\/env.kindOf x=M .free)/\∃c,env.cells.lookup x=M c/\h.IsCell c (M u))
structure Cx.Ok(X:Cx):Prop where
 mod:Mod X.K X.mg X.base
 kind:X.env.scope.kind=.function
 glob:X.env.globals=X8
 blt:X.env.builtins=builtinsNs
 above:X.s₀.heap.objs.size<=X.env.locals
 inj:∀x y c,X.env.cells.lookup x=M c->X.env.cells.lookup y=M c->x=y
 has:∀x,(X.env.kindOf x=M .cell\/X.env.kindOf x=M .free)->∃c,X.env.cells.lookup x=M c
 cab:∀x c,X.fn x=P->X.env.cells.lookup x=M c->X.s₀.heap.objs.size<=c
 hd:X.calm=P->X.A.handled=R
 frames:X.A.frames=M X.stack
 stk:X.stack=X.outer\/(X.stack=X.env::X.outer/\X.env.frame=M X.env.locals)
 exf:∀b∈X.ex,b≠X.env.locals/\∀x c,X.env.cells.lookup x=M c->c≠b
 bs:∀b o,X.base.get? b=M o->X.s₀.heap.get? b=M o/\X.H₀ b=R
 bsz:X.base.objs.size<=X.s₀.heap.objs.size
 ad0:∀b o,X.base.get? b=M o->b∉X.ex
 adP:∀b∈X.ex,b∉X.fs
 abQ:X.s₀.heap.FunFrames X.base X.outer
 frf:∀b∈X.fs,X.H₀ b=R
structure Inv(X:Cx)(pins:G (I×Obj))(σ:G (z V))(H:Hp)(s:XI):Prop where
 ok:X.Ok
 os:s.os=X.s₀.os
 bare:AllBare s.gens
 base:Un X.fs X.ex X.H₀ H X.s₀.heap s.heap
 loc:∃m,s.heap.Ns X.env.locals m/\∀(i:Nat) (x:Str) (v:V),X.N[i]?=M x->σ[i]?=M (M v)->Vi X.env.scope x->∃u,RelV v u/\VD X.env s.heap m x u
 cell:∀x c,X.env.cells.lookup x=M c->∃v,s.heap.IsCell c v
 free:H X.env.locals=R
 aaz:∀x c,X.env.cells.lookup x=M c->H c=R
 pin:∀p∈X.pn++pins,s.heap.get? p.1=M p.2/\H p.1=R/\p.1≠X.env.locals/\p.1∉X.fs/\∀v,p.2.data≠.cell v
 YX:HOk X.prog X.w H s.heap
 len:σ.length=X.N.length
section
variable{X:Cx}{Z:bg (XH×Obj)}{Y:bg (b3 V)}{H H':Hp}{s:XI}{h':Heap}
theorem Cx.Ok.akT(ok:X.Ok)(e:X.base.get? b=M o):b∉X.fs:=λa=>by let:=(ok.abQ.mem a).1;rw[e]at this;ext this
theorem Inv.bs(I:Inv X Z Y H s):∀b o,X.base.get? b=M o->s.heap.get? b=M o/\H b=R:=λb o e=>
 #[I.base.keep b o (I.ok.bs b o e).1 (I.ok.bs b o e).2 (I.ok.akT e) (I.ok.ad0 b o e),I.base.free b o (I.ok.bs b o e).1 (I.ok.bs b o e).2 (I.ok.ad0 b o e)]
theorem Inv.bk(I:Inv X Z Y H s):∀b o,X.base.get? b=M o->s.heap.get? b=M o:=λb o e=>(I.bs b o e).1
theorem Inv.mod(I:Inv X Z Y H s):Mod X.K X.mg X.base:=I.ok.mod
theorem Inv.kIn(I:Inv X Z Y H s):X.K.In s.heap:=I.ok.mod.kin.keeps I.bk
theorem Inv.lt(I:Inv X Z Y H s):X.env.locals<s.heap.objs.size:=let#[_,a,_]:=I.loc;a.lt
theorem Inv.sz(I:Inv X Z Y H s):X.s₀.heap.objs.size<=s.heap.objs.size:=Ys I.ok.above (aaG I.lt)
theorem Inv.amk(I:Inv X Z Y H s)(h:s.heap.objs.size<=a):a∉X.fs:=λe=>by let(_,o,b,_):=I.ok.abQ.mem e;show a7 (Yd (cj b) (Ys I.sz h)) (YR _)
theorem Inv.cne(I:Inv X Z Y H s):∀x c,X.env.cells.lookup x=M c->c≠X.env.locals:=λx c e z=>by let(v,o,f,g):=I.cell x c e;let(m,(h,es,i,a,b,_),_):=I.loc;rw[z,a]at f;ext f;rw[b]at g;ext g
def Inv.abQ(I:Inv X Z Y H s):s.heap.FunFrames X.base X.outer:=by
 let all:∀(l:G Env),(∀b∈xc l,b∈X.fs)->X.s₀.heap.FunFrames X.base l->s.heap.FunFrames X.base l:=by
  intro l
  induction l with
  |nil=>intro _ _;trivial
  |cons t r i=>intro h n;let(p,(L,o,a,v,m,q),j):=n;let g:=h L (by ext xc;rw[abV,a];show X0);let(u,e):=I.base.slot L o m (I.ok.frf L g) g λz=>I.ok.adP L z g;show#[p,#[L,_,a,v,e,q],i (λb f=>h b (by ext xc;rw[abV,a];show XX _ f)) j]
 show all X.outer (λ_ f=>f) I.ok.abQ
def Inv.stack(I:Inv X Z Y H s):s.heap.FunFrames X.base X.stack:=by
 rcases I.ok.stk with e|⟨e,hf⟩
 .rw[e];show I.abQ
 .rw[e];let(m,a,_):=I.loc;show .cons (by rw[I.ok.kind];decide) hf a ?_ I.abQ;show da (Ys I.ok.bsz I.ok.above)
theorem Inv.abO(I:Inv X Z Y H s):∀b∈xc X.stack,b∈X.env.locals::X.fs:=λb a=>by
 rcases I.ok.stk with e|⟨e,hf⟩
 .rw[e]at a;show XX _ a
 .rw[e]at a;unfold xc at a;rw[abV,hf]at a;show a
theorem Inv.ab3(I:Inv X Z Y H s):∀b∈xc X.stack,H b=R:=λb a=>by
 rcases Yi.mp (I.abO b a)with e|a
 .rw[e];show I.free
 .let(_,o,f,_):=I.ok.abQ.mem a;show I.base.free b o f (I.ok.frf b a) λz=>I.ok.adP b z a
def Inv.step{g':Array abD}{T:Nat}{d':ae6}{ch:bg XH}(I:Inv X Z Y H s)
  (g:∀b∈ch,(b∈X.ex\/X.s₀.heap.objs.size<=b)/\b≠X.env.locals/\(∀x c,X.env.cells.lookup x=cL c->c≠b)/\∀p∈X.pn++Z,p.1≠b)
  (keep:∀b o,b≠X.env.locals->b∉X.fs->b∉ch->s.heap.get? b=cL o->H b=R->h'.get? b=cL o)
  (slot:∀b o,b≠X.env.locals->b∈X.fs->b∉ch->s.heap.get? b=cL o->H b=R->∃N,h'.get? b=cL {o with slots:=N}) (free:∀b o,b∉ch->s.heap.get? b=cL o->H b=R->H' b=R)
  (there:∀b o,b∉ch->s.heap.get? b=cL o->∃w,h'.get? b=cL w)
  (S:∀b xs,H b=cL (.tup xs)->H' b=cL (.tup xs)) (O:∀b o u,H b=cL (.frz o u)->H' b=cL (.frz o u)) (Q:∀b D,H b=cL (.tbl D)->∃more,H' b=cL (.tbl (D++more)))
  (ns:∀m,s.heap.Ns X.env.locals m->h'.Ns X.env.locals m) (YX:HOk X.prog X.w H' h') (M:AllBare g'):
  Inv X Z Y H' {s with heap:=h',gens:=g',drawn:=d',toks:=T}:=by
 let A:∀b o,X.s₀.heap.get? b=cL o->b≠X.env.locals:=λb o e=>Ye (Yd (cj e) I.ok.above);let j:∀b o,X.s₀.heap.get? b=cL o->b∉X.ex->b∉ch:=λb o e a t=>by
  rcases(g b t).1 with z|z
  .show a z
  .show a7 (Yd (cj e) z) (YR _)
 let h:∀x c,X.env.cells.lookup x=cL c->∀v,s.heap.IsCell c v->h'.IsCell c v:=λx c e v #[o,y,C]=>by
  let f:c∉ch:=λz=>(g c z).2.2.1 x c e W;by_cases G:c∈X.fs
  .let(N,q):=slot c o (I.cne x c e) G f y (I.aaz x c e);show#[_,q,C]
  .show#[o,keep c o (I.cne x c e) G f y (I.aaz x c e),C]
 show#[I.ok,I.os,M,#[λb o e n t a=>?_,λb o e n t a=>?_,λb o e n a=>?_,λb o e a=>?_,λb xs e=>S b xs (I.base.acH b xs e),λb o xs e=>O b o xs (I.base.acu b o xs e),λb D e=>?_],?_,λx c e=>?_,?_,λx c e=>?_,λp F=>?_,YX,I.len]
 .show keep b o (A b o e) t (j b o e a) (I.base.keep b o e n t a) (I.base.free b o e n a)
 .let(N,e1):=I.base.slot b o e n t a;let(B,e2):=slot b _ (A b o e) t (j b o e a) e1 (I.base.free b o e n a);show#[B,e2]
 .let(w,e1):=I.base.there b o e a;show free b w (j b o e a) e1 (I.base.free b o e n a)
 .let(w,e1):=I.base.there b o e a;show there b w (j b o e a) e1
 .let(K,e1):=I.base.acM b D e;let(J,e2):=Q b _ e1;show#[K++J,by rw[e2,Array.append_assoc]]
 .let(m,hn,L):=I.loc
  show#[m,ns m hn,λi x v e1 e2 e3=>?_];let(u,r,l):=L i x v e1 e2 e3;show#[u,r,?_];rcases l with l|⟨k,c,e,z⟩
  .show .inl l
  .show .inr #[k,c,e,h x c e _ z]
 .let(v,z):=I.cell x c e;show#[v,h x c e v z]
 .let(m,(o,_,_,y,_),_):=I.loc;show free _ o (λz=>(g _ z).2.1 W) y I.free
 .let(v,o,y,C):=I.cell x c e;show free c o (λz=>(g c z).2.2.1 x c e W) y (I.aaz x c e)
 .let(e,n,ne,E,d):=I.pin p F;let f:p.1∉ch:=λz=>(g p.1 z).2.2.2 p F W;show#[keep p.1 p.2 ne E f e n,free p.1 p.2 f e n,ne,E,d]
def Inv.un{t':Nat}(I:Inv X Z Y H s)(u:Un X.fs [] H H' s.heap h')(YX:HOk X.prog X.w H' h'):Inv X Z Y H' {s with heap:=h',toks:=t'}:=by let(m,(o,es,v,i,r),_):=id I.loc;let(p,l):=u.any i I.free (by simp);show I.step (g':=s.gens) (d':=s.drawn) (ch:=[]) (λ_ z=>nomatch z) (λb o _ f _ e n=>u.keep b o e n f (by simp)) (λb o _ f _ e n=>u.slot b o e n f (by simp)) (λb o _ e n=>u.free b o e n (by simp)) (λb o _ e=>u.there b o e (by simp)) u.acH u.acu u.acM (λt hm=>by let(q,g,h,a,j):=hm;rw[i]at a;ext a;show#[_,g,h,l,j]) YX I.bare
def Inv.call{g':Array abD}{t':Nat}{d':ae6}{ch:G XH}(I:Inv X Z Y H s)(u:Un (xc X.stack) ch H H' s.heap h')(YX:HOk X.prog X.w H' h')(t:AllBare g')
  (g:∀b∈ch,(b∈X.ex\/X.s₀.heap.objs.size<=b)/\b≠X.env.locals/\(∀x c,X.env.cells.lookup x=M c->c≠b)/\∀p∈X.pn++Z,p.1≠b):
  Inv X Z Y H' {s with heap:=h',gens:=g',drawn:=d',toks:=t'}:=by
 let(m,(o,es,C,l,r),_):=id I.loc;let(y,h):=u.any l I.free λz=>(g _ z).2.1 W;show I.step (ch:=ch) g (λb o h v a e n=>u.keep b o e n (λz=>(Yi.mp (I.abO b z)).elim h v) a) (λb o _ _ a e n=>u.any e n a) (λb o a e n=>u.free b o e n a) (λb o a e=>u.there b o e a) u.acH u.acu u.acM (λB hm=>by let(A,i,j,f,q):=hm;rw[l]at f;ext f;show#[_,i,j,h,q]) YX t
def Inv.turned{t':Nat}{a:XH}(I:Inv X Z Y H s)(k:∀b o,b≠a->s.heap.get? b=M o->h'.get? b=M o)(d:H a=R)(h:a≠X.env.locals)
  (w:a∈X.ex\/X.s₀.heap.objs.size<=a) (t:∀x c,X.env.cells.lookup x=M c->c≠a) (l:∀p∈X.pn++Z,p.1≠a):Inv X Z Y H {s with heap:=h',toks:=t'}:=by
 let g:∀b u,H b=M u->b≠a:=λb u e z=>by rw[z,d]at e;ext e
 show I.step (g':=s.gens) (d':=s.drawn) (ch:=[a]) (λb j=>?_) (λb o _ _ f e _=>k b o (λz=>f (by simp[z])) e) (λb o _ _ f e _=>#[o.slots,k b o (λz=>f (by simp[z])) e]) (λ_ _ _ _ n=>n)
  (λb o f e=>#[o,k b o (λz=>f (by simp[z])) e]) (λ_ _ e=>e) (λ_ _ _ e=>e) (λb A e=>#[#v[],by rw[e];simp]) (λm hm=>?_) (λb u e=>?_) I.bare
 .let e:b=a:=by simpa using j
  subst e;show#[w,h,t,l]
 .let(o,es,y,i,r):=hm;show#[o,es,y,k _ o (dN h) i,r]
 .show(I.YX b u e).aa2 (λc v f q=>k c v ?_ q) (λ_ q=>q) λ_ _ q=>q
  rcases f with z|z
  .rw[z];show g b u e
  .show g c _ z
theorem Inv.tok(I:Inv X Z Y H s)(t:Nat):Inv X Z Y H {s with toks:=t}:=I.un Un.refl I.YX
theorem Inv.kept{t':Nat}(I:Inv X Z Y H s)(k:∀b u,s.heap.get? b=M u->h'.get? b=M u):Inv X Z Y H {s with heap:=h',toks:=t'}:=I.un (Un.kept k) (I.YX.kept k)
theorem Inv.laid{a:XH}{o:HO}{t':Nat}(I:Inv X Z Y H s)(k:∀b u,s.heap.get? b=M u->h'.get? b=M u)(e:s.heap.objs.size<=a)(new:ObjOk X.prog X.w (bf H a o) h' a o):
  Inv X Z Y (bf H a o) {s with heap:=h',toks:=t'}:=I.un (Un.laid k e (I.YX.fresh e)) (I.YX.laid k e new)
theorem Inv.write{x e:XH}{o:HO}{t':Nat}(I:Inv X Z Y H s)(f:Uz (H x))(g:e=x\/H e=M (.own x))(k:∀b u,b≠e->s.heap.get? b=M u->h'.get? b=M u)(a:∃u,h'.get? e=M u)
  (new:ObjOk X.prog X.w (bf H x o) h' x o):Inv X Z Y (bf H x o) {s with heap:=h',toks:=t'}:=I.un (Un.write f g k a) (I.YX.write f g k a new)
theorem Inv.ads(I:Inv X Z Y H s)(h:∀p∈ajb,s.heap.get? p.1=M p.2/\H p.1=R/\p.1≠X.env.locals/\p.1∉X.fs/\∀v,p.2.data≠.cell v):Inv X ajb Y H s:=
 #[I.ok,I.os,I.bare,I.base,I.loc,I.cell,I.free,I.aaz,λp a=>(YF.mp a).elim (λz=>I.pin p (aay _ z)) (h p),I.YX,I.len]
def xL{N:G Str}(e:N.Nodup){i j:Nat}(a:N[i]?=M x)(b:N[j]?=M x):i=j:=by let(g,e1):=XB.mp a;let(f,e2):=XB.mp b;show(List.getElem_inj e).mp (e1.trans e2.symm)
def uR{M:ae7}{A:Ym}{E:U->XI->Prop}{i:Nat}{x:Str}{v:V}{u:U}{Q:Unit->XI->Prop}(I:Inv X Z Y H s)(hN:X.N.Nodup)(D:X.N[i]?=cL x)(l:S5 X.env.scope x)(r:RelV v u)
  (h:∀F,Inv X Z (Y.set i (cL v)) H F->(∃a,Heap.SameBut a s.heap F.heap/\(a=X.env.locals\/X.env.cells.lookup x=cL a))->Q ⟨⟩ F) (hf:X.fn x=P\/X.env.scope.names.lookup x=cL .local:=by first|show .inl W|show .inr W|assumption):wpAny M A (storeName X.env x u) Q E s:=by
 let(m,hn,hl):=id I.loc;let ak9:(X.env.scope.kind==.class||(X.env.scope.kind==.module&&X.env.locals !=X.env.globals))=XF:=by rw[I.ok.kind];rfl
 let w:i<Y.length:=by rw[I.len];show(XB.mp D).1
 let cne:=I.cne;let tracked:∀{a:XH} {h':Heap},(∃o,s.heap.get? a=cL o/\H a=R)->Heap.SameBut a s.heap h'->HOk X.prog X.w H h':=λ{a h'} ha f b ob e=>by
  let(_,_,L):=ha;show(I.YX b ob e).aa2 (λc N g q=>(f.2 c ?_).trans q) (λ_ q=>q) λ_ _ q=>q;rintro rfl;rcases g with rfl|g
  .rw[L]at e;ext e
  .rw[L]at g;ext g
 rcases l with t|t
 .show wpAny_storeName_local t hn (λh' hn' f=>?_) ak9
  let(oL,_,_,hoL,_):=id hn;show h _ #[I.ok,I.os,I.bare,#[λb o e n C l=>?_,λb o e n C l=>?_,I.base.free,λb o e l=>?_,I.base.acH,I.base.acu,I.base.acM],#[_,hn',λj y S e1 e2 e3=>?_],λy c e=>?_,I.free,I.aaz,λp hp=>?_,tracked #[oL,hoL,I.free] f,by simpa using I.len] #[_,f,.inl W]
  .show(f.2 b (Ye (Yd (cj e) I.ok.above))).trans (I.base.keep b o e n C l)
  .let(sl,e1):=I.base.slot b o e n C l;show#[sl,(f.2 b (Ye (Yd (cj e) I.ok.above))).trans e1]
  .let(o',e1):=I.base.there b o e l;show#[o',(f.2 b (Ye (Yd (cj e) I.ok.above))).trans e1]
  .by_cases hj:j=i
   .subst hj;rw[D]at e1;ext e1;rw[YK w]at e2;ext e2;show#[u,r,.inl #[t,by simp]]
   .rw[YE (dN hj)]at e2
    let(T,r',q):=hl j y S e1 e2 e3;show#[T,r',?_];rcases q with⟨k,e⟩|⟨k,c,e,z⟩
    .show .inl #[k,?_];let:y≠x:=λe=>hj (xL hN e1 (e▸D));simp[this,e]
    .show .inr #[k,c,e,z.sameBut f (cne y c e)]
  .let(N,z):=I.cell y c e;show#[N,z.sameBut f (cne y c e)]
  .let(e,n,ne,nf,d):=I.pin p hp;show#[(f.2 p.1 ne).trans e,n,ne,nf,d]
 .let B:X.fn x=P:=by
   rcases hf with z|z
   .show z
   .rw[z]at t;ext t
  let(c,g):=I.ok.has x (.inl t);let(N,z):=I.cell x c g;show wpAny_storeName_cell I.ok.kind t g z (λh' K f=>?_);let(oc,J,alr):=id z;show h {s with heap:=h'} #[I.ok,I.os,I.bare,#[λb o e n C l=>?_,λb o e n C l=>?_,I.base.free,λb o e l=>?_,I.base.acH,I.base.acu,I.base.acM],#[m,hn.sameBut f (dN (cne x c g)),λj y S e1 e2 e3=>?_],λy O e=>?_,I.free,I.aaz,λp hp=>?_,tracked #[oc,J,I.aaz x c g] f,by simpa using I.len] #[c,f,.inr g]
  .show(f.2 b (Ye (Yd (cj e) (I.ok.cab x c B g)))).trans (I.base.keep b o e n C l)
  .let(sl,e1):=I.base.slot b o e n C l;show#[sl,(f.2 b (Ye (Yd (cj e) (I.ok.cab x c B g)))).trans e1]
  .let(o',e1):=I.base.there b o e l;show#[o',(f.2 b (Ye (Yd (cj e) (I.ok.cab x c B g)))).trans e1]
  .by_cases hj:j=i
   .subst hj;rw[D]at e1;ext e1;rw[YK w]at e2;ext e2;show#[u,r,.inr #[.inl t,c,g,K]]
   .rw[YE (dN hj)]at e2
    let(T,r',q):=hl j y S e1 e2 e3;show#[T,r',?_];rcases q with q|⟨k,O,e,z'⟩
    .show .inl q
    .show .inr #[k,O,e,z'.sameBut f ?_];rintro rfl;show hj (xL hN e1 (I.ok.inj _ _ _ e g▸D))
  .by_cases hcc:O=c
   .subst hcc;show#[_,K]
   .let(w2,z2):=I.cell y O e;show#[w2,z2.sameBut f hcc]
  .let(e,n,ne,nf,d):=I.pin p hp;show#[(f.2 p.1 ?_).trans e,n,ne,nf,d];intro q;rw[q,J]at e;let q':oc=p.2:=X1 e;show d N (by rw[<-q'];show alr)
theorem y4{i:Nat}{v:V}{u:U}{Q:Unit->XI->Prop}(I:Inv X Z Y H s)(e:X.N.Nodup)(d:X.N[i]?=cL x)(c:S5 X.env.scope x)(r:RelV v u)
  (h:∀b,Inv X Z (Y.set i (cL v)) H b->Q ⟨⟩ b) (hf:X.fn x=P\/X.env.scope.names.lookup x=cL .local:=by first|show .inl W|show .inr W|assumption):wpAny a A (storeName X.env x u) Q E s:=
 uR I e d c r (λb f _=>h b f) hf
def Inv.adU{a:XI}{ch:G XH}(I:Inv X Z Y H s)(h:a.os=s.os)(u:Un (xc X.stack) ch H H' s.heap a.heap)(YX:HOk X.prog X.w H' a.heap)(i:AllBare a.gens)
  (f:∀b∈ch,(b∈X.ex\/X.s₀.heap.objs.size<=b)/\b≠X.env.locals/\(∀x c,X.env.cells.lookup x=M c->c≠b)/\∀p∈X.pn++Z,p.1≠b):Inv X Z Y H' a:=by
 let(h',l,m,j,g):=a;let e:g=s.os:=h;subst e;show I.call (g':=l) (t':=j) (d':=m) u YX i f
end
abbrev XK:=U->z I->Hp->Prop
abbrev St:=G (z V)
abbrev VK:=V->Hp->Prop
abbrev TE:=St->Hp->VK->Prop
abbrev TT:=St->Hp->(Bool->Hp->Prop)->Prop
abbrev TA:=St->Hp->(G V->Hp->Prop)->Prop
structure Ends where
 nx:St->Hp->Prop
 rt:VK
 bk:St->Hp->Prop:=λ_ _=>False
 ct:St->Hp->Prop:=λ_ _=>False
abbrev TS:=Ends->St->Hp->Prop
def EP(X:Cx)(a:G (I×Obj))(b:St)(Q:VK)(u:U)(e:XI):Prop:=∃v f,Inv X a b f e/\RelV v u/\Q v f
def TP(X:Cx)(a:G (I×Obj))(e:St)(Q:Bool->Hp->Prop)(b:Bool)(f:XI):Prop:=∃g,Inv X a e g f/\Q b g
def AP(X:Cx)(a:G (I×Obj))(b:St)(Q:G V->Hp->Prop)(us:G U)(e:XI):Prop:=∃f g,Inv X a b g e/\Vals f us/\Q f g
def SP(X:Cx)(a:G (I×Obj))(D:Ends)(f:Flow)(b:XI):Prop:=
 match f with
 |.next=>∃e g,Inv X a e g b/\D.nx e g
 |.brk=>∃e g,Inv X a e g b/\D.bk e g
 |.cont=>∃e g,Inv X a e g b/\D.ct e g
 |.ret u=>∃v e g,Inv X a e g b/\RelV v u/\D.rt v g
def PE(X:Cx)(e:Yc)(t:TE):Prop:=
 ∀(a:G (I×Obj)) (s:XI) (b:St) (H:Hp) (Q:VK),Inv X a b H s->t b H Q->wpAny (model X.prog X.w) X.A (eval e X.env) (EP X a b Q) X.xe s
def PT(X:Cx)(e:Yc)(t:TT):Prop:=
 ∀(a:G (I×Obj)) (s:XI) (b:St) (H:Hp) (Q:Bool->Hp->Prop),Inv X a b H s->t b H Q->wpAny (model X.prog X.w) X.A (isTrue e X.env (eval e X.env)) (TP X a b Q) X.xe s
def PW(X:Cx)(e:Yc)(t:TT):Prop:=
 ∀(b:Sem U) (a:G (I×Obj)) (s:XI) (f:St) (H:Hp) (Q:Bool->Hp->Prop),Inv X a f H s->t f H Q->wpAny (model X.prog X.w) X.A (isTrue e X.env b) (TP X a f Q) X.xe s
theorem PW.pt(h:PW X e t):PT X e t:=h _
def PA(X:Cx)(es:G Yc)(t:TA):Prop:=
 ∀(e:Pos) (a:G (I×Obj)) (s:XI) (b:St) (H:Hp) (Q:G V->Hp->Prop),Inv X a b H s->t b H Q->wpAny (model X.prog X.w) X.A (spliced (backTo e (X6 es X.env))) (AP X a b Q) X.xe s
def PS(X:Cx)(e:Zn)(t:TS):Prop:=
 ∀(a:G (I×Obj)) (s:XI) (b:St) (H:Hp) (D:Ends),Inv X a b H s->t D b H->wpAny (model X.prog X.w) X.A (exec e X.env) (SP X a D) X.xe s
def PSs(X:Cx)(e:G Zn)(t:TS):Prop:=
 ∀(a:G (I×Obj)) (s:XI) (b:St) (H:Hp) (D:Ends),Inv X a b H s->t D b H->wpAny (model X.prog X.w) X.A (execs e X.env) (SP X a D) X.xe s
theorem bZ{α:Type}{t:Sem α}{Q b:α->XI->Prop}{M:ae7}{A:Ym}{E:U->XI->Prop}{s:XI}(h:wpAny M A t Q E s)(e:∀a s,Q a s->b a s):wpAny M A t b E s:=wpAny_mono h e λ_ _ x=>x
section
variable{X:Cx}
def qE(i:Nat):TE:=λa H Q=>∃v,a[i]?=M (M v)/\Q v H
def tC(v:V):TE:=λ_ H Q=>Q v H
def Jq(t:X.N[i]?=M x)(p:Vi X.env.scope x)(hd:(x==("__debug__":Str))=XF:=by decide)(j:(x==("__classdict__":Str))=XF:=by decide):PE X (.Name x pos) (qE i):=by
 intro f s o H Q I h;let(v,e,h):=h;let(m,w,q):=I.loc;let(u,r,l):=q i x v t e p;let b:EP X f o Q u s:=#[v,H,I,r,h];rcases l with⟨a,hm⟩|⟨a,c,n,g⟩
 .show agZ (wpAny_loadName_local I.ok.kind a w hm b) hd
 .rcases a with a|a
  .show agZ (wpAny_loadName_cell I.ok.kind a n g b) hd
  .show agZ (wpAny_loadName_free I.ok.kind a n g b j) hd
theorem Jr{i j pos}:PE X (.Constant (.int i) j pos) (tC (.int i)):=λ_ _ _ H _ I h=>ag0 #[.int i,H,I.tok _,#[_,W],h]
theorem U7{b j pos}:PE X (.Constant (.bool b) j pos) (tC (.bl b)):=λ_ _ _ H _ I h=>Constant_bool #[.bl b,H,I,W,h]
theorem Aq{j pos}:PE X (.Constant .none j pos) (tC .Zw):=λ_ _ _ H _ I h=>Constant_none #[.Zw,H,I,W,h]
theorem QT{x j pos}:PE X (.Constant (.str x) j pos) (tC (.str x)):=λ_ _ _ H _ I h=>Calls.Constant_str #[.str x,H,I.tok _,#[_,W],h]
def Gl(X:Cx)(x:Str):Prop:=X.env.kindOf x=M .globalImplicit
theorem lA(I:Inv X pins σ H s)(a:Gl X x)(hm:X.mg x=M u)(h:Q u s)
  (hd:(x==("__debug__":Str))=XF:=by decide):wpAny (model X.prog X.w) X.A (eval (.Name x pos) X.env) Q E s:=
 Calls.Name_function_global I.ok.kind a (Calls.loadGlobal_global (by rw[I.ok.glob];show I.mod.glob.keeps I.bk) hm h) hd
def pG(I:Inv X pins σ H s)(b:Gl X x)(hm:X.mg x=R)(a:YI x=M u)(h:Q u s)
  (c:x≠ "__name__":=by decide) (hd:(x==("__debug__":Str))=XF:=by decide):wpAny (model X.prog X.w) X.A (eval (.Name x pos) X.env) Q E s:=by
 let(g,f,e):=I.mod.blt;show Calls.Name_function_global I.ok.kind b (Calls.loadGlobal_builtin (by rw[I.ok.glob];show I.mod.glob.keeps I.bk) hm (by rw[I.ok.blt];show f.keeps I.bk) ((e x c).trans a) h) hd
theorem MR{x:Str}{v:V}{u:U}{a:Pos}(b:Gl X x)(hm:X.mg x=M u)(r:RelV v u)(hd:(x==("__debug__":Str))=XF:=by decide):PE X (.Name x a) (tC v):=
 λ_ _ _ H _ I h=>lA I b hm #[v,H,I,r,h] hd
theorem Ku(b:Gl X x)(hm:X.mg x=R)(a:YI x=M u)(r:RelV v u)(c:x≠ "__name__":=by decide)(hd:(x==("__debug__":Str))=XF:=by decide):PE X (.Name x pos) (tC v):=
 λ_ _ _ H _ I h=>pG I b hm a #[v,H,I,r,h] c hd
variable{a b:Yc}{Z Y:TE}{O:Pos}
def PC(X:Cx)(op:ae8)(a b:Yc)(t:TE):Prop:=
 ∀(e:G (I×Obj)) (s:XI) (h:St) (H:Hp) (Q:VK),Inv X e h H s->t h H Q->
  wpAny (model X.prog X.w) X.A (eval a X.env) (λv g=>wpAny (model X.prog X.w) X.A (eval b X.env) (λu f=>wpAny (model X.prog X.w) X.A (Zk op v u) (EP X e h Q) X.xe f) X.xe g) X.xe s
def tB(t:TE):TT:=λe H Q=>t e H λx f=>∃c,x=.bl c/\Q c f
theorem zC(h:PC X op a b t)(i:behindInMarks op b=XF:=by first|show o _ () ()|rfl):PE X (.Compare a [op] [b] O) t:=λe s f H Q I g=>akz (h e s f H Q I g) i
def zc(h:PC X op a b t)(f:behindInMarks op b=XF:=by first|show C _ () ()|rfl):PT X (.Compare a [op] [b] O) (tB t):=by intro e s g H Q I l;show afX (bZ (h e s g H _ I l) λv w f=>bZ f λu r m=>bZ m λc p a=>?_) f;let(x,o,n,i,j):=a;let(d,rfl,q):=j;ext i;show Zx #[o,n,q]
def Q7{e:Yc}{t:TE}(h:PE X e t)(m:∀whole,isTrue e X.env whole=(do let v<-whole;standAt e.pos;holding [v] (truthy v)):=by intro _;rfl):PT X e (tB t):=by intro f s g H Q I l;show isTrue_plain (bZ (h f s g H _ I l) λv p #[x,o,n,i,j]=>?_) (m _);let(d,rfl,q):=j;ext i;show Zx #[o,n,q]
variable{T S:TT}{U:bg Yc}
def Rc(t u:TT):TT:=λe H Q=>t e H λc f=>if c=P then u e f Q else Q XF f
def VG(t u:TT):TT:=λe H Q=>t e H λc f=>if c=P then Q P f else u e f Q
def Mf(t:TT):TT:=λe H Q=>t e H λc f=>Q (!c) f
def Bw(d:PT X a T):PW X (.BoolOp .And [a] O) T:=by
 intro i f s g H Q I h;show isTrue_and (bZ (d f s g H Q I h) λc j e=>?_);cases c with
 |true=>show isTrue_and_nil e
 |false=>show e
def JT(d:PT X a T):PW X (.BoolOp .Or [a] O) T:=by
 intro i f s g H Q I h;show isTrue_or (bZ (d f s g H Q I h) λc j e=>?_);cases c with
 |false=>show isTrue_or_nil e
 |true=>show e
def HR(d:PT X a T)(n:PW X (.BoolOp .And (b::U) O) S):PW X (.BoolOp .And (a::b::U) O) (Rc T S):=by
 intro l e s f H Q I h;show isTrue_and (bZ (d e s f H _ I h) λc m a=>?_);let(j,i,g):=a;cases c with
 |true=>show n l e m f j Q i g
 |false=>show#[j,i,g]
def N4(d:PT X a T)(n:PW X (.BoolOp .Or (b::U) O) S):PW X (.BoolOp .Or (a::b::U) O) (VG T S):=by
 intro l e s f H Q I h;show isTrue_or (bZ (d e s f H _ I h) λc m a=>?_);let(j,i,g):=a;cases c with
 |true=>show#[j,i,g]
 |false=>show n l e m f j Q i g
def S0(d:PT X a T):PT X (.UnaryOp .Not a O) (Mf T):=by intro e s f H Q I h;show isTrue_not (d e s f H (λc g=>Q (!c) g) I h)
def G4(Z Y:TE):TE:=λe H Q=>Z e H λx f=>∃c,x=.bl c/\if c=P then Y e f Q else Q (.bl XF) f
def Pd(Z:TE):TE:=λe H Q=>Z e H λx f=>∃c,x=.bl c/\Q (.bl (!c)) f
theorem SR{op}(h:PE X a t):PE X (.BoolOp op [a] O) t:=λe s f H Q I g=>BoolOp_one (h e s f H Q I g)
def JB(d:PE X a Z)(n:PE X (.BoolOp .And (b::U) O) Y):PE X (.BoolOp .And (a::b::U) O) (G4 Z Y):=by
 intro e s g H Q I h;show BoolOp_and (bZ (d e s g H _ I h) λv l a=>?_);let(x,j,i,m,f):=a;let(c,rfl,f):=f;ext m;show Zx ?_;cases c with
 |true=>show n e l g j Q i f
 |false=>show#[.bl XF,j,i,W,f]
def Ss(d:PE X a Z):PE X (.UnaryOp .Not a O) (Pd Z):=by intro e s g H Q I h;show UnaryOp_ (bZ (d e s g H _ I h) λv m a=>?_);let(x,l,j,i,f):=a;let(c,rfl,f):=f;ext i;show not_of (Zx #[.bl (!c),l,j,W,f])
def Vf(t:TT)(Z Y:TE):TE:=λe H Q=>t e H λc f=>if c=P then Z e f Q else Y e f Q
def EU(m:PT X c T)(k:PE X a Z)(n:PE X b Y):PE X (.IfExp c a b O) (Vf T Z Y):=by
 intro e s f H Q I h;show wpAny_IfExp (bZ (m e s f H _ I h) λd g a=>?_);let(l,j,i):=a;cases d with
 |true=>show k e g f l Q j i
 |false=>show n e g f l Q j i
end
def SqL(K:lD)(H:Hp)(a:I)(xs:G V):Prop:=
 Rd H a (.lst xs)\/
  ∃(o:Obj) (b:Array U) (n:Nat),K.lookup a=M o/\o.cls=.type "list"/\o.dict=R/\o.data=.seq b n/\b.size<=XY/\Vals xs b.toList
def SqT(K:lD)(H:Hp)(a:I)(xs:G V):Prop:=
 Rd H a (.tup xs)\/
  ∃(o:Obj) (b:Array U) (n:Nat),K.lookup a=M o/\(o.cls=.type "tuple"/\o.dict=R)/\o.data=.seq b n/\b.size<=XY/\Vals xs b.toList
def V9:U->z V
 |.none=>M .Zw
 |.bool b=>M (.bl b)
 |.int i _=>M (.int i)
 |.str x _=>M (.str x)
 |.bytes b _=>M (.byt b)
 |.float b _=>M (.flt b)
 |.ref a=>M (.ref a)
 |.type n=>M (.ty n)
 |_=>R
def RelV.abs(r:RelV x u):V9 u=M x:=by
 cases x with
 |Zw=>ext r;rfl
 |bl _=>ext r;rfl
 |int _=>let(t,rfl):=r;rfl
 |str _=>let(t,rfl):=r;rfl
 |byt _=>let(t,rfl):=r;rfl
 |flt _=>let(t,rfl):=r;rfl
 |ref _=>ext r;rfl
 |ty _=>ext r;rfl
theorem RelV.inj(r:RelV x u)(q:RelV y u):x=y:=X1 (r.abs.symm.trans q.abs)
theorem Vals.inj:∀{xs a:G V} {us:G U},Vals xs us->Vals a us->xs=a
 |_,_,_,.nil,.nil=>rfl
 |_,_,_,.cons r t,.cons e b=>by rw[r.inj e,Vals.inj t b]
section
variable{X:Cx}{Z:bg (XH×Obj)}{Y:St}{H:Hp}{s:XI}{a:XH}{T U:bg V}
theorem SqL.of{K:lD}(h:H a=M (.lst T)):SqL K H a T:=.inl (.inl h)
theorem SqT.of{K:lD}(h:H a=M (.tup T)):SqT K H a T:=.inl (.inl h)
def Inv.list(I:Inv X Z Y H s)(h:SqL X.K H a T):∃b:G Xx,Vals T b/\PlainL s.heap a b.toArray/\T.length<=XY:=by
 rcases h with h|⟨o,b,n,g,i,hd,f,j,r⟩
 .let(z,b,n,r,e):=h.ok I.YX;show#[b,r,#[_,n,e,W,W,W],z]
 .show#[b.toList,r,#[o,n,I.kIn a o g,i,hd,by simpa using f],?_];let e:=r.length;simp only[YL]at e;ext
def Inv.tuple(I:Inv X Z Y H s)(h:SqT X.K H a T):∃b:G Xx,Vals T b/\IsTup s.heap a b.toArray/\T.length<=XY:=by
 rcases h with h|⟨o,b,n,g,i,f,j,r⟩
 .let(z,b,r,p):=h.ok I.YX;show#[b,r,p.tup,z]
 .show#[b.toList,r,#[o,I.kIn a o g,i.1,n,by simpa using f],?_];let e:=r.length;simp only[YL]at e;ext
def Inv.ahh(I:Inv X Z Y H s)(h:SqT X.K H a T):∃b:G Xx,Vals T b/\acs s.heap a b.toArray/\T.length<=XY:=by
 rcases h with h|⟨o,b,n,i,f,g,j,r⟩
 .let(z,b,r,p):=h.ok I.YX;show#[b,r,p,z]
 .show#[b.toList,r,#[o,I.kIn a o i,#[f.1,n,by simpa using g],f.2],?_];let e:=r.length;simp only[YL]at e;ext
def Inv.afE(I:Inv X Z Y H s)(h:SqL X.K H a T)(c:SqL X.K H a U):T=U:=by
 let(j,r,(o,n,e,_,_,d),_):=I.list h;let(b,i,(l,m,f,_,_,g),_):=I.list c;rw[e]at f;ext f;rw[d]at g;injection g with d1 _;let:j=b:=by simpa using ec ag1 d1
 subst this;show r.inj i
def Inv.aeY(I:Inv X Z Y H s)(h:SqT X.K H a T)(c:SqT X.K H a U):T=U:=by
 let(j,r,(o,e,_,n,d),_):=I.tuple h;let(b,i,(l,f,_,m,g),_):=I.tuple c;rw[e]at f;ext f;rw[d]at g;injection g with d1 _;let:j=b:=by simpa using ec ag1 d1
 subst this;show r.inj i
end
abbrev Cx.abc(X:Cx)(E:U->XI->Prop):Cx:={X with xe:=E}
abbrev Cx.nox(X:Cx):Cx:=X.abc λ_ _=>False
theorem Cx.Ok.abc{X:Cx}(ok:X.Ok)(E:U->XI->Prop):(X.abc E).Ok:=
 #[ok.mod,ok.kind,ok.glob,ok.blt,ok.above,ok.inj,ok.has,ok.cab,ok.hd,ok.frames,ok.stk,ok.exf,ok.bs,ok.bsz,ok.ad0,ok.adP,ok.abQ,ok.frf]
theorem Cx.Ok.aax{X:Cx}(ok:(X.abc E).Ok):X.Ok:=
 #[ok.mod,ok.kind,ok.glob,ok.blt,ok.above,ok.inj,ok.has,ok.cab,ok.hd,ok.frames,ok.stk,ok.exf,ok.bs,ok.bsz,ok.ad0,ok.adP,ok.abQ,ok.frf]
section
variable{X:Cx}{Z:bg (XH×Obj)}{Y:St}{H:Hp}{s:XI}{E:Xx->XI->Prop}
theorem Inv.abc(I:Inv X Z Y H s)(E:U->XI->Prop):Inv (X.abc E) Z Y H s:=#[I.ok.abc E,I.os,I.bare,I.base,I.loc,I.cell,I.free,I.aaz,I.pin,I.YX,I.len]
theorem Inv.aax(I:Inv (X.abc E) Z Y H s):Inv X Z Y H s:=#[I.ok.aax,I.os,I.bare,I.base,I.loc,I.cell,I.free,I.aaz,I.pin,I.YX,I.len]
def SP.aax(h:SP (X.abc E) Z D f s'):SP X Z D f s':=by
 cases f with
 |next=>let(a,b,I,q):=h;show#[a,b,I.aax,q]
 |brk=>let(a,b,I,q):=h;show#[a,b,I.aax,q]
 |cont=>let(a,b,I,q):=h;show#[a,b,I.aax,q]
 |ret u=>let(v,a,b,I,r,q):=h;show#[v,a,b,I.aax,r,q]
theorem PSs.nox{a:G Zn}(h:PSs X.nox a t):PSs X a t:=λZ s Y H D I b=>
 wpAny_mono (h Z s Y H D (I.abc _) b) (λ_ _ q=>q.aax) λ_ _ z=>False.elim z
end
section
variable{X:Cx}{Y:Zn}{Z:bg Zn}{t u:TS}{e:Yc}{S:TE}{T:Pos}
def IC:TS:=λD a H=>D.nx a H
def EB(t u:TS):TS:=λD a H=>t {D with nx:=u D} a H
theorem B3:PSs X [] IC:=λ_ _ a H _ I h=>aaN #[a,H,I,h]
def nO(l:PS X Y t)(j:PSs X Z u):PSs X (Y::Z) (EB t u):=by
 intro a s g H D I h;show aij (bZ (l a s g H {D with nx:=u D} I h) λf i q=>?_);cases f with
 |next=>let(b,n,m,q):=q;show j a i b n D m q
 |ret v=>show q
 |brk=>show q
 |cont=>show q
def nQ(g:PS X Y t):PSs X [Y] t:=by
 intro a s b H D I h;show aij (bZ (g a s b H D I h) λf i q=>?_);cases f with
 |next=>show aaN q
 |ret v=>show q
 |brk=>show q
 |cont=>show q
def Inv.quiet{a:G (XH×Obj)}{b:St}{H:Hp}{s:XI}(I:Inv X a b H s):interactive X.env=XF:=by simp[interactive,I.ok.kind]
def yG(S:TE):TS:=λD a H=>S a H λ_ b=>D.nx a b
def Bx(i:PE X e S)(g:ZU e R T.line X.env=pure XF:=by rfl):PS X (.Expr e T) (yG S):=by intro a s b H D I h;show wpAny_Expr_any (bZ (i a s b H _ I h) λv m #[x,l,j,n,f]=>#[b,l,j,f]) I.quiet g
def Ks(S:TE):TS:=λD a H=>S a H D.rt
def HZ(i:PE X e S):PS X (.Return (M e) T) (Ks S):=by intro a s b H D I h;show wpAny_Return_some (bZ (i a s b H _ I h) λv m #[x,l,j,f,g]=>#[x,b,l,j,f,g])
def Oa:TS:=λD _ H=>D.rt .Zw H
theorem Mj:PS X (.Return R T) Oa:=λ_ _ a H _ I h=>wpAny_Return_none #[.Zw,a,H,I,W,h]
def Kx(c:TT)(t u:TS):TS:=λD a H=>c a H λb f=>if b=P then t D a f else u D a f
def UH(n:PT X c C)(k:PSs X a t)(o:PSs X b u):PS X (.If c a b T) (Kx C t u):=by
 intro f s g H D I h;show wpAny_If (bZ (n f s g H _ I h) λd i a=>?_);let(m,l,j):=a;cases d with
 |true=>show k f i g m D l j
 |false=>show o f i g m D l j
end
abbrev TG:=V->St->Hp->(St->Hp->Prop)->Prop
abbrev AJ:=G V->St->Hp->(St->Hp->Prop)->Prop
def PG(X:Cx)(a:Yc)(t:TG):Prop:=
 ∀(b:G (I×Obj)) (s:XI) (e:St) (H:Hp) (v:V) (u:U) (Q:St->Hp->Prop),Inv X b e H s->RelV v u->t v e H Q->
  wpAny (model X.prog X.w) X.A (assign a X.env u) (λ_ f=>∃g h,Inv X b g h f/\Q g h) X.xe s
def Ux(X:Cx)(f:G Yc)(t:AJ):Prop:=
 ∀(a:G (I×Obj)) (s:XI) (b:St) (H:Hp) (i:G V) (e:G U) (Q:St->Hp->Prop),Inv X a b H s->Vals i e->t i b H Q->
  wpAny (model X.prog X.w) X.A (assignInOrder ((assignEach f X.env).map (·.2)) e) (λ_ g=>∃h j,Inv X a h j g/\Q h j) X.xe s
abbrev W7:=V->V->Hp->VK->Prop
def Xo(X:Cx)(op:agb)(t:W7):Prop:=
 ∀(a:G (I×Obj)) (s:XI) (b:St) (H:Hp) (x y:V) (v u:U) (Q:VK),Inv X a b H s->RelV x v->RelV y u->t x y H Q->
  wpAny (model X.prog X.w) X.A (inplaceOp op v u) (EP X a b Q) X.xe s
section
variable{X:Cx}{Z:Pos}
def mZ(i:Nat):TG:=λv a H Q=>Q (a.set i (M v)) H
def Kn(c:X.N.Nodup)(b:X.N[i]?=M x)(a:S5 X.env.scope x)(hf:X.fn x=P\/X.env.scope.names.lookup x=M .local:=by first|show .inl W|show .inr W|assumption):PG X (.Name x Z) (mZ i):=by intro pins s σ H v u Q I r h;show ahJ (y4 I c b a r (λf e=>#[_,H,e,h]) hf)
def KO:AJ:=λb a H Q=>b=[]/\Q a H
def Cd(t:TG)(u:AJ):AJ:=λf b H Q=>∃v r,f=v::r/\t v b H λa e=>u r a e Q
def KN:Ux X [] KO:=by intro a s b H g f Q I r h;let(e,h):=h;subst e;ext r;show assignInOrder_nil #[b,H,I,h]
def JC(n:PG X e t)(m:Ux X es u)
  (l:(assignEach (e::es) X.env).map (·.2)=assign e X.env::(assignEach es X.env).map (·.2):=by rfl):Ux X (e::es) (Cd t u):=by
 intro a s f H y w Q I r h;let(v,q,e1,h):=h;subst e1;cases r with
 |cons r i=>rw[l];show assignInOrder_cons (bZ (n a s f H _ _ _ I r h) λ_ g a=>?_);let(b,p,o,j):=a;show m a g b p _ _ Q o i j
def ND(K:lD)(n:Nat)(t:AJ):TG:=λv b H Q=>∃a xs,v=.ref a/\SqT K H a xs/\xs.length=n/\t xs b H Q
def QB(q:X.calm=P)(h:Ux X es t)
  (c:(assignEach es X.env).length=n:=by rfl) (cW:(assignEach es X.env).findIdx? (·.1)=R:=by rfl):PG X (.Tuple es k Z) (ND X.K n t):=by
 intro f s i H v u Q I r g;let(a,xs,e1,m,p,g):=g;subst e1;ext r;let(A,B,l,y):=I.tuple m;show assign_Tuple_tuple (I.ok.hd q) l (by simp[c,<-p,B.length]) cW λz j=>?_;let w:=I.kept (t':=s.toks) λb o e=>j b o (Ye (cj e)) e;show h f _ i H xs _ Q w (by simpa using B) g
def vB(c:TE)(g:TG):TS:=λD a H=>c a H λx b=>g x a b D.nx
def Q8(o:PE X e J)(n:PG X C g)(m:swapsWithSole [C] e Z.line X.env=pure XF:=by rfl)(l:swappedStores [C] e X.env=pure R:=by rfl)
  (p:(assignEach [C] X.env).map (·.2)=[assign C X.env]:=by rfl):PS X (.Assign [C] e Z) (vB J g):=by
 intro a s b H D I h;show wpAny_Assign_stores (bZ (o a s b H _ I h) λv f a=>?_) m l;let(x,t,r,i,j):=a;rw[p];show bZ (n a f b t x v _ r i j) λ_ u q=>q
def tL{i:Nat}{x:Str}{e:Yc}{a:TE}{pos':Pos}(j:X.N.Nodup)(g:X.N[i]?=M x)(c:S5 X.env.scope x)(he:PE X e a)(d:ZU e (M (.Name x pos')) Z.line X.env=pure XF:=by rfl)(hf:X.fn x=P\/X.env.scope.names.lookup x=M .local:=by first|show .inl W|show .inr W|assumption):
  PS X (.Assign [.Name x pos'] e Z) (vB a (mZ i)):=by
 intro pins s σ H D I h;show wpAny_Assign_Name (bZ (he pins s σ H _ I h) λv s1 a=>?_) d;let(y,H1,m,b,f):=a;show y4 m j g c b (λs2 l=>#[_,H1,l,f]) hf
end
section
variable{X:Cx}{Z:Pos}
def Jl(c:TT)(d:TS):TS:=λD a H=>∃W:Nat->St->Hp->Prop,(∃m,W m a H)/\∀m a H,W m a H->
 c a H λb e=>if b=P then∃N:St->Hp->Prop,(∀f h,N f h->∃g,g<m/\W g f h)/\d {D with nx:=N,ct:=N,bk:=D.nx} a e else D.nx a e
def Gk(r:ac8 (model X.prog X.w) X.A X.env X.xe)(L:PT X c tc)(M:PSs X body tb):PS X (.While c body [] Z) (Jl tc tb):=by
 intro e s B H D I h;let(W,(K,E),turn):=h;show wpAny_While (codeAny_whileLoop (λn J=>∃w A,Inv X e w A J/\W n w A) ?_ K #[B,H,I,E]);rintro n G ⟨g,z,O,C⟩;show ZT r (bZ (L e G g z _ O (turn n g z C)) λb F a=>?_);let(y,u,l):=a;cases b with
 |true=>
  let(N,t,l):=l;rw[ax rfl];show ZT r (bZ (M e F g y _ u l) λf P j=>?_);cases f with
  |next=>let(a,i,q,o):=j;let(p,hm,m):=t a i o;show#[p,hm,a,i,q,m]
  |cont=>let(a,i,q,o):=j;let(p,hm,m):=t a i o;show#[p,hm,a,i,q,m]
  |brk=>show j
  |ret v=>show j
 |false=>rw[aE X9];show aaN #[g,y,u,l]
end
structure It where
 go:Nat->Hp->Prop
 yld:Nat->Hp->V->Hp->Prop
 stop:Nat->Hp->Prop
def oV(X:Cx)(a:G (I×Obj))(H:Hp)(b:I):Prop:=
 H b=R/\b≠X.env.locals/\b∉X.fs/\(b∈X.ex\/X.s₀.heap.objs.size<=b)/\(∀x c,X.env.cells.lookup x=M c->c≠b)/\∀p∈X.pn++a,p.1≠b
def Inv.adk(I:Inv X pins σ H s)(a:s.heap.objs.size<=b)(d:H' b=R):oV X pins H' b:=by
 show#[d,YU (Yd I.lt a),I.amk a,.inr (Ys I.sz a),λx c e z=>?_,λp f z=>?_]
 .let(v,q):=I.cell x c e;show a7 (Yd q.lt (by rw[z];show a)) (YR _)
 .show a7 (Yd (cj (I.pin p f).1) (by rw[z];show a)) (YR _)
structure Turn(P:Ya)(w:Yq)(K:lD)(tg:Yc)(J:It)(fp:G I)(it:I)(tn:Nat->Heap->Prop):Prop where
 mem:it∈fp
 obj:∀i h,tn i h->∀b∈fp,∃o,h.get? b=M o/\∀v,o.data≠.cell v
 keep:∀i h h',tn i h->(∀b∈fp,∀o,h.get? b=M o->h'.get? b=M o)->tn i h'
 item:∀(X:Cx),X.prog=P->X.w=w->X.K=K->X.calm=XA->∀(i:Nat) (pins:G (I×Obj)) (s:XI) (σ:St) (H:Hp) (E:U->XI->Prop),Inv X pins σ H s->(∀b∈fp,oV X pins H b)->tn i s.heap->J.go i H->
  wpAny (model P w) X.A (pyNext (.ref it)) (λr s1=>∃u,r=M u/\
   wpAny (model P w) X.A (letOwnedTupleGo tg (.ref it) u) (λ_ s2=>∃x H',Inv X pins σ H' s2/\RelV x u/\J.yld i H x H'/\tn (i+1) s2.heap/\∀b∈fp,H' b=R) E s1) E s
 done:∀(X:Cx),X.prog=P->X.w=w->X.K=K->X.calm=XA->∀(i:Nat) (pins:G (I×Obj)) (s:XI) (σ:St) (H:Hp) (E:U->XI->Prop),Inv X pins σ H s->(∀b∈fp,oV X pins H b)->tn i s.heap->J.stop i H->
  wpAny (model P w) X.A (pyNext (.ref it)) (λr s1=>r=R/\Inv X pins σ H s1) E s
 self:∀(A:Ym) (i:Nat) (s:XI) (Q:U->XI->Prop) (E:U->XI->Prop),tn i s.heap->Q (.ref it) s->wpAny (model P w) A (pyIter (.ref it)) Q E s
abbrev TI:=St->Hp->(It->Hp->Prop)->Prop
def Wl(X:Cx)(a:G (I×Obj))(l:St)(m:Yc)(R:It->Hp->Prop)(e:U)(h:XI):Prop:=
 ∃(i:I) (j:G I) (g:Nat->Heap->Prop) (J:It) (f:Hp),e=.ref i/\Inv X a l f h/\Turn X.prog X.w X.K m J j i g/\g 0 h.heap/\(∀b∈j,oV X a f b)/\R J f
def PI(X:Cx)(g b:Yc)(f:TI):Prop:=
 ∀(a:G (I×Obj)) (s:XI) (e:St) (H:Hp) (R:It->Hp->Prop),Inv X a e H s->f e H R->
  wpAny (model X.prog X.w) X.A (eval b X.env) (λv h=>wpAny (model X.prog X.w) X.A (pyIter v) (Wl X a e g R) X.xe h) X.xe s
def Ip{M:ae7}{A:Ym}{E:U->XI->Prop}{s:XI}{b:Yc}{e:I}{u:U}{o:Obj}{n:String}{c:Array U}{Q:Unit->XI->Prop}(f:s.heap.get? e=cL o)(g:o.cls=.type n)(hd:o.data=.fields c)
  (d:["enumerate","zip","dict_itemiterator","dict_reverseitemiterator","odict_iterator","itertools.zip_longest","itertools.pairwise"].contains n=XF) (a:Q ⟨⟩ s):wpAny M A (letOwnedTupleGo b (.ref e) u) Q E s:=by
 ext letOwnedTupleGo;ext b<;>first
  |show XN a
  |(ext u<;>first
    |show XN a
    |(show CL (ag2 f ?_)
      rw[g,hd];show wpAny M A (if(["enumerate","zip","dict_itemiterator","dict_reverseitemiterator","odict_iterator","itertools.zip_longest","itertools.pairwise"].contains n&&c[0]? ==cL (rawInt _))=P then _ else _) Q E s;rw[aE (by intro h;rw[d,abF]at h;ext h)];show XN a))
def VX(K:lD)(a:I):It:=
 #[λi H=>∃xs x,SqL K H a xs/\xs[i]?=M x,λi H x b=>b=H/\∀xs,SqL K H a xs->xs[i]?=M x,λi H=>∃xs,SqL K H a xs/\xs.length<=i]
def Vy(K:lD)(a:I):It:=
 #[λi H=>∃xs x,SqT K H a xs/\xs[i]?=M x,λi H x b=>b=H/\∀xs,SqT K H a xs->xs[i]?=M x,λi H=>∃xs,SqT K H a xs/\xs.length<=i]
def Vp(lo:Int)(n:Nat):It:=#[λi _=>i<n,λi H x a=>a=H/\x=.int (lo+i),λi _=>n<=i]
theorem DM{K:lD}(a g:XH):Turn Pz0 w K tg (VX K a) [g] g (λi h=>h.IsListIter g a i) where
 mem:=by simp
 obj:=λi h f b j=>by
  let e:b=g:=by simpa using j
  subst e;let(o,e,c,d):=f;show#[o,e,λv z=>by rw[d]at z;ext z]
 keep:=λi h N f k=>f.at λo e=>k g (by simp) o e
 item:=by intro X A t B M i m s O H E I q f y;subst A t B;let(xs,x,n,r):=y;let(Yz,rv,p,S):=I.list n;let(u,U,R):=rv.get r;let(L,J,Y,G,F,C):=q g (by simp);show wpAny_pyNext_list_item f p.isList (by simpa using U) λN l Q=>?_;let I1:=I.turned (t':=s.toks) (λb o j e=>(Q.2 b j).trans e) L J G F C;let(o,e,c,d):=id l;show#[u,W,Ip e c d () #[x,H,I1,R,#[W,λys T=>by rw[I.afE T n];show r],l,λb j=>(q b j).1]]
 done:=by intro X A t B M i m s O H E I q f y;subst A t B;let(xs,n,r):=y;let(Yz,rv,p,S):=I.list n;let(L,J,Y,G,F,C):=q g (by simp);let hl:=rv.length;show wpAny_pyNext_list_end (I.ok.hd M) f p.isList (by simp;ext) λN Z=>#[W,I.turned (λb o j e=>Z b o j e) L J G F C]
 self:=λ_ _ _ _ _ f h=>wpAny_pyIter_listiter f h
theorem Aw{K:lD}(a g:XH):Turn Pz0 w K tg (Vy K a) [g] g (λi h=>h.IsTupleIter g a i) where
 mem:=by simp
 obj:=λi h f b j=>by
  let e:b=g:=by simpa using j
  subst e;let(o,e,c,d):=f;show#[o,e,λv z=>by rw[d]at z;ext z]
 keep:=λi h O f k=>f.at λo e=>k g (by simp) o e
 item:=by intro X A t B N i m s Q H E I q f y;subst A t B;let(xs,x,n,r):=y;let(M,rv,p,T):=I.tuple n;let(u,Y,S):=rv.get r;let(L,J,Z,G,F,C):=q g (by simp);show wpAny_pyNext_tuple_item f (show s.heap.IsTuple a M.toArray from p) (by simpa using Y) λO l R=>?_;let I1:=I.turned (t':=s.toks) (λb o j e=>(R.2 b j).trans e) L J G F C;let(o,e,c,d):=id l;show#[u,W,Ip e c d () #[x,H,I1,S,#[W,λys U=>by rw[I.aeY U n];show r],l,λb j=>(q b j).1]]
 done:=by intro X A t B N i m s Q H E I q f y;subst A t B;let(xs,n,r):=y;let(M,rv,p,T):=I.tuple n;let(L,J,Z,G,F,C):=q g (by simp);let hl:=rv.length;show wpAny_pyNext_tuple_end (I.ok.hd N) f (show s.heap.IsTuple a M.toArray from p) (by simp;ext) λO eb=>#[W,I.turned (λb o j e=>eb b o j e) L J G F C]
 self:=λ_ _ _ _ _ f h=>wpAny_pyIter_tupleiter f h
theorem AR{K:lD}(g:XH)(lo:Int)(n:Nat):Turn Y w K tg (Vp lo n) [g] g (λi h=>IsRangeIter h g (lo+(i:Nat)*1) ((n:Int) - (i:Nat)) 1) where
 mem:=by simp
 obj:=λi h a b j=>by
  let e:b=g:=by simpa using j
  subst e;show#[_,a,λv z=>by let M:=z;ext M]
 keep:=λi h A a k=>k g (by simp) _ a
 item:=by intro X u p y r i f s L H E I m a q;subst u p y;let(J,G,R,F,C,B):=m g (by simp);let W:=Walks.range (prog:=X.prog) (w:=X.w) (I.ok.hd r) g lo 1 n;show W.item i s _ _ q a λv A N Q l O=>?_;let(t,rfl):=Q;let T:Inv X f L H {s with heap:=A,toks:=N}:=I.turned (λb o j e=>O b o (by simpa using j) e) J G F C B;show#[_,rfl,Ip l rfl rfl () #[.int (lo+i),H,T,#[t,?_],#[rfl,rfl],l,λb j=>(m b j).1]];rw[Int.mul_one]
 done:=by intro X u p y r i f s L H E I m a q;subst u p y;let(J,G,R,F,C,B):=m g (by simp);show wpAny_pyNext_range_end (I.ok.hd r) a (by let:n<=i:=q;ext) λA S=>#[rfl,I.turned (λb o j e=>S b o j e) J G F C B]
 self:=λ_ _ _ _ _ a h=>wpAny_pyIter_rangeiter a h
section
variable{X:Cx}{Z:Yc}
def Fr{a:G (XH×Obj)}{f:St}{H:Hp}{s:XI}{R:It->Hp->Prop}{E:U->XI->Prop}{lo c:Int}{t u v:Tok}{g:Nat}(I:Inv X a f H s)(n: -(2^62)<=lo)(m:lo<2^62)(l: -(2^62)<=c)(j:c<2^62)
  (q:R (Vp lo (c - lo).toNat) H):wpAny (model X.prog X.w) X.A (pyIter (.ref s.heap.objs.size)) (Wl X a f Z R) E {s with heap:=s.heap.push {cls:=.type "range",data:=.fields #v[.int lo t,.int c u,.int 1 v]},toks:=g}:=by
 show wpAny_pyIter_range (IsRange.new ..) (small_one n m l j) ?_;let h:Inv X a f H {s with heap:=s.heap.push {cls:=.type "range",data:=.fields #v[.int lo t,.int c u,.int 1 v]},toks:=g}:=I.kept λb o e=>b4 _ e;show#[(s.heap.push {cls:=.type "range",data:=.fields #v[.int lo t,.int c u,.int 1 v]}).objs.size,[(s.heap.push {cls:=.type "range",data:=.fields #v[.int lo t,.int c u,.int 1 v]}).objs.size],_,_,H,W,
  h.kept (t':=g) λb o e=>b4 _ e,AR _ lo (c - lo).toNat,?_,λb i=>?_,q]
 .let e1:lo+((0:Nat):Int)*1=lo:=by simp
  let e2:(((c - lo).toNat:Nat):Int) - ((0:Nat):Int)=Yw.Range.rangeSize lo c 1:=by rw[rangeSize_one];split<;>ext
  show IsRangeIter _ _ (lo+((0:Nat):Int)*1) ((((c - lo).toNat:Nat):Int) - ((0:Nat):Int)) 1;rw[e1,e2];show ck _ W
 .let e:b=(s.heap.push {cls:=.type "range",data:=.fields #v[.int lo t,.int c u,.int 1 v]}).objs.size:=by simpa using i
  subst e;show h.adk (XO _) (h.YX.fresh (XO _))
def Hw(c:TA):TI:=λa H R=>c a H λe b=>∃j:Int,e=[.int j]/\ -(2^62)<=j/\j<2^62/\R (Vp 0 j.toNat) b
def uQ(o:Gl X "range")(hm:X.mg "range"=Ld)(c:PA X [a] C)(n:X6 [a] X.env=[(XF,eval a X.env)]:=by rfl):PI X Z (.Call (.Name "range" p) [a] [] pos) (Hw C):=by
 intro b s g H R I h;show Call_ (pG I o hm boot_range (aan (bZ (c pos b s g H _ I h) λv w #[A,y,u,l,f]=>?_) n W));let(j,e,f,m,q):=f;subst e;cases l with
 |cons r i=>ext i;let(t,rfl):=r;show call_range_1 (Fr u () () f m (by simpa using q))
def LM(e:TI)(g:TG)(c:TS):TS:=λD a H=>e a H λJ h=>∃W:Nat->Nat->St->Hp->Prop,(∃m,W 0 m a h)/\∀i m a H,W i m a H->
 (J.stop i H/\D.nx a H)\/(J.go i H/\∃N:St->Hp->Prop,(∀j l,N j l->∃n,n<m/\W (i+1) n j l)/\∀x l,J.yld i H x l->g x a l λb f=>c {D with nx:=N,ct:=N,bk:=D.nx} b f)
def sC(a:G I)(h:Heap):G (I×Obj):=a.filterMap λb=>(h.get? b).map λo=>(b,o)
theorem jz(a:b∈C)(e:h.get? b=M o):(b,o)∈sC C h:=aaJ.mpr #[b,a,by rw[e];rfl]
def DS(a:p∈sC C h):p.1∈C/\h.get? p.1=M p.2:=by
 let(b,f,e):=aaJ.mp a;cases q:h.get? b with
 |none=>rw[q]at e;ext e
 |some o=>rw[q]at e;let g:=X1 e;subst g;show#[f,q]
theorem Inv.pinned(I:Inv X pins σ H s)(i:∀b∈fp,oV X pins H b)(h:∀b∈fp,∃o,s.heap.get? b=M o/\∀v,o.data≠.cell v):Inv X (pins++sC fp s.heap) σ H s:=
 I.ads λp g=>(YF.mp g).elim (λz=>I.pin p (YM _ z)) λz=>by let(a,e):=DS z;let(m,l,j,_):=i p.1 a;let(o,f,d):=h p.1 a;rw[e]at f;ext f;show#[e,m,l,j,d]
theorem Inv.ab6(I:Inv X (pins++pl) σ H s):Inv X pins σ H s:=I.ads λp a=>I.pin p (YM _ (aay _ a))
def PB(L:ac8 (model X.prog X.w) X.A X.env X.xe)(c:X.calm=XA)(V:PI X Z iter wi)(hg:PG X Z g)(p:PSs X body tb)
  (k:∀x,foldedSetIterable iter X.env x=pure x:=by intro _;rfl):PS X (.For Z iter body [] pos) (LM wi g tb):=by
 intro j s σ H D I h;show wpAny_For (bZ (V j s σ H _ I h) λv s1 h1=>bZ h1 λitv s2 h2=>?_) k;let(it,O,tn,J,H2,e,I2,T,R,f2,W,(m0,w0),turn):=h2;subst e;let E:∀{z:Hp},(∀b∈O,z b=Ld)->∀b∈O,oV X j z b:=λhn b p=>#[hn b p,(f2 b p).2];show codeAny_forLoop_any (λn s'=>∃i A z,Inv X j A z s'/\tn i s'.heap/\(∀b∈O,z b=Ld)/\W i n A z) ?_ m0 #[0,σ,H2,I2,R,λb p=>(f2 b p).1,w0];rintro n s3 ⟨i,l,P,I3,G,M,w3⟩;rcases turn i n l P w3 with⟨F,qn⟩|⟨go,N,hN,step⟩
 .show ZT L (bZ (T.done X rfl rfl rfl c i j s3 l P X.xe I3 (E M) G F) λr s4 #[w,I4]=>?_);subst w;show aaN #[l,P,I4,qn]
 .show ZT L (bZ (T.item X rfl rfl rfl c i j s3 l P X.xe I3 (E M) G go) λr s4 #[u,w,h4]=>?_)
  subst w;show ZT L (bZ h4 λ_ s5 a=>?_);let(x,H5,I5,r5,y5,C,Y):=a;let I5':=I5.pinned (E Y) (T.obj _ _ C);show ZT L (bZ (hg _ s5 l H5 x u _ I5' r5 (step x H5 y5)) λ_ s6 a=>?_);let(Q,H6,I6,q6):=a;show ZT L (bZ (p _ s6 Q H6 _ I6 q6) λf S B=>?_);let q:∀{a:St} {y:Hp},Inv X (j++sC O s5.heap) a y S->N a y->∃m,m<n/\∃i A z,Inv X j A z S/\tn i S.heap/\(∀b∈O,z b=Ld)/\W i m A z:=λ{a y} t K=>by let(m',hm,w7):=hN a y K;show#[m',hm,i+1,a,y,t.ab6,T.keep _ _ _ C λb p o e=>(t.pin (b,o) (YM _ (YM _ (jz p e)))).1,λb p=>?_,w7];let(o,e,d):=T.obj _ _ C b p;show(t.pin (b,o) (YM _ (YM _ (jz p e)))).2.1
  cases f with
  |next=>let(a,y,t,K):=B;show q t K
  |cont=>let(a,y,t,K):=B;show q t K
  |brk=>let(a,y,t,B):=B;show#[a,y,t.ab6,B]
  |ret v=>let(x7,a,y,t,r7,B):=B;show#[x7,a,y,t.ab6,r7,B]
end
abbrev R2:=V->V->Hp->VK->Prop
def OpR(X:Cx)(f:U->U->Sem U)(r:R2):Prop:=
 ∀(a:G (I×Obj)) (s:XI) (b:St) (H:Hp) (x y:V) (v u:U) (Q:VK),Inv X a b H s->RelV x v->RelV y u->r x y H Q->
  wpAny (model X.prog X.w) X.A (f v u) (EP X a b Q) X.xe s
def VT(X:Cx)(f:U->Sem U)(r:V->Hp->VK->Prop):Prop:=
 ∀(a:G (I×Obj)) (s:XI) (b:St) (H:Hp) (x:V) (v:U) (Q:VK),Inv X a b H s->RelV x v->r x H Q->
  wpAny (model X.prog X.w) X.A (f v) (EP X a b Q) X.xe s
def ZJ(X:Cx)(f:U)(r:G V->Hp->VK->Prop):Prop:=
 ∀(a:G (I×Obj)) (s:XI) (b:St) (H:Hp) (xs:G V) (e:G U) (Q:VK),Inv X a b H s->Vals xs e->r xs H Q->
  wpAny (model X.prog X.w) X.A (call f e) (EP X a b Q) X.xe s
def JZ(r:R2)(d c:TE):TE:=λa H Q=>d a H λx e=>c a e λy b=>r x y b Q
def Wf(r:V->Hp->VK->Prop)(c:TE):TE:=λa H Q=>c a H λx b=>r x b Q
def rI(C:Int->Int->Prop)(g:Int->Int->V):R2:=λx y H Q=>∃i j,x=.int i/\y=.int j/\C i j/\Q (g i j) H
def y9(g:Int->Int->V):R2:=λx y H Q=>∃i j,x=.int i/\y=.int j/\Q (g i j) H
def rU(g:Int->V):V->Hp->VK->Prop:=λx H Q=>∃i,x=.int i/\Q (g i) H
section
variable{X:Cx}{a b c:Yc}{Z Y S:TE}{T:Pos}
def P9(r:PE X a Z)(n:PE X b Y){R:V->V->Hp->Prop}(I:Inv X pins σ H s)
  (h:Z σ H λx H1=>Y σ H1 λy d=>R x y d) {f:U->U->Sem U}
  (m:∀v u s2 x y d,Inv X pins σ d s2->RelV x v->RelV y u->R x y d->wpAny (model X.prog X.w) X.A (f v u) Q X.xe s2):
  wpAny (model X.prog X.w) X.A (eval a X.env) (λv q=>wpAny (model X.prog X.w) X.A (eval b X.env) (λu k=>wpAny (model X.prog X.w) X.A (f v u) Q X.xe k) X.xe q) X.xe s:=by
 show bZ (r pins s σ H _ I h) λv e a=>?_;let(x,H1,p,i,l):=a;show bZ (n pins e σ H1 _ p l) λu s2 a=>?_;let(y,d,o,g,j):=a;show m v u s2 x y d o i g j
def TN(l:OpR X (Zf op) r)(d:PE X a Z)(m:PE X b Y):PE X (.BinOp a op b T) (JZ r Z Y):=by intro e s f H Q I h;show wpAny_BinOp (P9 d m I h λv u g x y o n j i q=>l e g f o x y v u Q n j i q)
def TJ(l:VT X (unaryOp op) r)(d:PE X a Z):PE X (.UnaryOp op a T) (Wf r Z):=by intro e s f H Q I h;show UnaryOp_ (bZ (d e s f H _ I h) λv g #[x,n,m,i,j]=>l e g f n x v Q m i j)
def Th{g:Int->Int->Int}
  (e:∀(i j:Int) (t u:Tok) (s:XI) (Q:U->XI->Prop) (E:U->XI->Prop),C i j->Q (.int (g i j) s.toks) {s with toks:=s.toks+1}->wpAny (model X.prog X.w) X.A (f (.int i t) (.int j u)) Q E s):
  OpR X f (rI C λi j=>.int (g i j)):=by
 intro l s r H x y v u Q I o n h;let(i,j,rfl,rfl,p,q):=h;let(t,rfl):=o;let(m,rfl):=n;show e i j t m s _ _ p #[.int (g i j),H,I.tok _,#[_,W],q]
def Rh{g:Int->Int->Int}
  (e:∀(i j:Int) (t u:Tok) (s:XI) (Q:U->XI->Prop) (E:U->XI->Prop),Q (.int (g i j) s.toks) {s with toks:=s.toks+1}->wpAny (model X.prog X.w) X.A (f (.int i t) (.int j u)) Q E s):
  OpR X f (y9 λi j=>.int (g i j)):=by
 intro l s p H x y v u Q I o n h;let(i,j,rfl,rfl,q):=h;let(t,rfl):=o;let(m,rfl):=n;show e i j t m s _ _ #[.int (g i j),H,I.tok _,#[_,W],q]
def QY{g:Int->Int->Bool}
  (e:∀(i j:Int) (t u:Tok) (s:XI) (Q:U->XI->Prop) (E:U->XI->Prop),Q (.bool (g i j)) s->wpAny (model X.prog X.w) X.A (f (.int i t) (.int j u)) Q E s):
  OpR X f (y9 λi j=>.bl (g i j)):=by
 intro l s p H x y v u Q I o n h;let(i,j,rfl,rfl,q):=h;let(t,rfl):=o;let(m,rfl):=n;show e i j t m s _ _ #[.bl (g i j),H,I,W,q]
def FQ(i j:Int):Prop:=0<=j/\j<=1000000/\i.natAbs<2^64
def agy(i j:Int):Prop:=(-(2^64)<i/\i<2^64)\/(-(2^64)<j/\j<2^64)
def agy.ok(h:agy i j):IntMulOk i j:=by
 rcases h with⟨f,e⟩|⟨f,e⟩
 .show .of_left (amI f e)
 .show .of_right (amI f e)
def two_pow_nn(k:Nat):(0:Int)<=2^k:=by rw[two_pow_cast];show Int.natCast_nonneg _
theorem So:OpR X (Zf .Add) (y9 λi j=>.int (i+j)):=Rh λ_ _ _ _ _ _ _ q=>add_int q
theorem Sk:OpR X (Zf .Sub) (y9 λi j=>.int (i - j)):=Rh λ_ _ _ _ _ _ _ q=>sub_int q
theorem SY:OpR X (Zf .Mult) (rI agy λi j=>.int (i*j)):=Th λ_ _ _ _ _ _ _ e q=>mul_int q e.ok
theorem Ql:OpR X (Zf .Mod) (rI (λ_ j=>0<j) λi j=>.int (i % j)):=Th λi j _ _ _ _ _ e q=>by let f:(0:Int)<j:=e;show mod_int' () (by rw[Int.fmod_eq_emod_of_nonneg i ()];show q)
theorem QM:OpR X (Zf .Pow) (rI FQ λi j=>.int (i^j.toNat)):=Th λ_ _ _ _ _ _ _ e q=>pow_int_small e.1 e.2.1 e.2.2 q
theorem Qm:OpR X (Zf .LShift) (rI FQ λi j=>.int (i*2^j.toNat)):=Th λ_ _ _ _ _ _ _ e q=>lshift_int_small e.1 e.2.1 e.2.2 q
theorem Qg:OpR X (Zf .RShift) (rI (λ_ j=>0<=j) λi j=>.int (i/2^j.toNat)):=Th λi j _ _ _ _ _ e q=>
 rshift_int e (by rw[ac9 i (two_pow_nn _)];show q)
theorem QJ:OpR X (Zf .BitAnd) (y9 λi j=>.int (Yw.bitAnd i j)):=Rh λ_ _ _ _ _ _ _ q=>and_int q
def W2{g:Int->Int}
  (e:∀(i:Int) (t:Tok) (s:XI) (Q:U->XI->Prop) (E:U->XI->Prop),Q (.int (g i) s.toks) {s with toks:=s.toks+1}->wpAny (model X.prog X.w) X.A (f (.int i t)) Q E s):
  VT X f (rU λi=>.int (g i)):=by
 intro j s m H x v Q I l h;let(i,rfl,q):=h;let(t,rfl):=l;show e i t s _ _ #[.int (g i),H,I.tok _,#[_,W],q]
theorem RQ:VT X (unaryOp .USub) (rU λi=>.int (-i)):=W2 λ_ _ _ _ _ q=>neg_int q
end
section
variable{X:Cx}{a b c:Yc}{Y Z S:TE}{T:Pos}
def F0(I:Inv X pins σ H s)(q:Q (.bl k) H)(e:k=o):EP X pins σ Q (.bool o) s:=by subst e;show#[.bl k,H,I,W,q]
theorem Ur:OpR X (Zk .Lt) (y9 λi j=>.bl (decide (i<j))):=QY λ_ _ _ _ _ _ _ q=>lt_int q
theorem UB:OpR X (Zk .Gt) (y9 λi j=>.bl (decide (j<i))):=QY λ_ _ _ _ _ _ _ q=>gt_int q
theorem Va:OpR X (Zk .GtE) (y9 λi j=>.bl (decide (j<=i))):=QY λ_ _ _ _ _ _ _ q=>ge_int q
def Ra:OpR X (Zk .Is) (λx y H Q=>y=.Zw/\Q (.bl (decide (x=.Zw))) H):=by
 intro f s i H x y v u Q I e g h;let(rfl,q):=h;ext g;show is_none_gen (F0 I q ?_);ext x<;>first
  |(ext e;rfl)
  |(let(t,rfl):=e;rfl)
def KU:OpR X (Zk .IsNot) (λx y H Q=>y=.Zw/\Q (.bl (!decide (x=.Zw))) H):=by
 intro f s i H x y v u Q I e g h;let(rfl,q):=h;ext g;show isnot_none_gen (F0 I q ?_);ext x<;>first
  |(ext e;rfl)
  |(let(t,rfl):=e;rfl)
def Kk{op:ae8}{r:R2}(l:OpR X (Zk op) r)(d:PE X a Y)(m:PE X b Z)(hm:behindInMarks op b=XF):PE X (.Compare a [op] [b] T) (JZ r Y Z):=by intro e s f H Q I h;show akz (P9 d m I h λv u g x y o n j i q=>l e g f o x y v u Q n j i q) hm
def Bz(t:TE):TT:=λe H Q=>t e H λx f=>∃k,x=.bl k/\Q k f
def La(t:OpR X (Zk op) r)(d:PE X a Y)(w:PE X b Z)(hm:behindInMarks op b=XF):PT X (.Compare a [op] [b] T) (Bz (JZ r Y Z)):=by
 intro f s g H Q I h;show afX (bZ (d f s g H _ I h) λv j #[x,G,C,n,q]=>bZ (w f j g G _ C q) λu i #[y,F,B,m,p]=>
  bZ (t f i g F x y v u _ B n m p) λc J a=>?_) hm;let(z,E,A,l,k,e,o):=a
 subst e;ext l;show Zx #[E,A,o]
def xa:(XY:Nat)<2^63:=by rw[Zy];decide
def jV(r:Vals [x] us):∃u,us=[u]/\RelV x u:=by
 cases r with
 |cons f e=>ext e;show#[_,W,f]
def Cq(r:Vals [x,y] us):∃u d,us=[u,d]/\RelV x u/\RelV y d:=by
 cases r with
 |cons h g=>
  cases g with
  |cons f e=>ext e;show#[_,_,W,h,f]
def DQ(g:X.calm=P):ZJ X (.builtin "max") (λxs H Q=>∃i j,xs=[.int i,.int j]/\Q (.int (if j>i then j else i)) H):=by
 intro f s l H xs n Q I r h;let(i,j,rfl,q):=h;let(u,m,rfl,(t,rfl),(p,rfl)):=Cq r;show max_two_ints (I.ok.hd g) λv o k=>#[_,H,I.kept k,?_,q];by_cases e:j>i
 .rw[ax e,ax e];show#[_,W]
 .rw[aE e,aE e];show#[_,W]
def Um(K:lD)(x:V)(H:Hp)(n:Nat):Prop:=
 match x with
 |.str y=>y.length<=XY/\n=y.length
 |.byt y=>y.size<=XY/\n=y.size
 |.ref p=>(∃xs,SqL K H p xs/\n=xs.length)\/∃xs,SqT K H p xs/\n=xs.length
 |_=>False
def Iq:ZJ X (.builtin "len") (λxs H Q=>∃x n,xs=[x]/\Um X.K x H n/\Q (.int n) H):=by
 intro m s z H xs A Q I r h;let(x,n,rfl,e,q):=h;let(u,rfl,i):=jV r;let C:=xa;let B:=Zy;cases x with
 |str y=>let(t,rfl):=i;let(v,g):=e;subst g;show len_str () #[.int _,H,I.tok _,#[_,W],q]
 |byt y=>let(t,rfl):=i;let(v,g):=e;subst g;show PySem.W.len_bytes () #[.int _,H,I.tok _,#[_,W],q]
 |ref p=>
  ext i;let g:=e;rcases g with⟨xs,l,g⟩|⟨xs,l,g⟩
  .subst g;let(w,j,pl,o):=I.list l;let f:=j.length;show Calls.call_len_list pl.isList (by simp only[X4];ext) #[.int xs.length,H,I.tok _,#[_,by simp only[X4];rw[f]],q]
  .subst g;let(w,j,pl,o):=I.tuple l;let f:=j.length;show len_tuple pl (by simp only[X4];ext) #[.int xs.length,H,I.tok _,#[_,by simp only[X4];rw[f]],q]
 |_=>show(show False from e).elim
end
structure aeD(h:Heap)(x dx C:I)(mA:Str->z U):Prop where
 obj:h.get? x=M (Zq C dx)
 ns:h.Ns1 dx mA
 ne:dx≠x
def DE{h:Heap}(n:h.Ns1 J C):∃c,h.get? J=M c/\∀name,abo name c=M (C name):=by
 let(o,es,m,g,j,i,_,hm):=n;show#[o,g,λname=>?_];let e:=hm name;unfold nsFind findBy at e;rw[<-aeP]at e;ext abo;rw[j];dsimp only;split
 .rename_i y q;rw[q]at e;show ec M e
 .rename_i q
  rw[q]at e;let a:es.toList.any (·.refKey)=XF:=by rw[List.any_eq_false];intro y f;let(z,t,b):=i y (Array.mem_toList_iff.mp f);simp[aao.refKey,b]
  let l:¬es.toList.any (·.refKey)=P:=by rw[a];show X9
  rw[aE l];show ec M e
theorem aeD.look(I:aeD h x dx C mA):∃a,PySem.W.InstAt h x (Zq C dx) C (M a)/\∀name,abo name a=M (mA name):=
 let#[a,b,e]:=DE I.ns
 #[a,#[I.obj,W,W,b],e]
section
variable{T:Ya}{w:Yq}{A:Ym}{E:Xx->XI->Prop}{s:XI}{K:lD}{x S C f:XH}{Z:Str->b3 Xx}{Y:Str}{v:Xx}
def MV(X:K.In s.heap)(I:aeD s.heap x S C Z)(i:aaj K C Y=P)(g:aaK K C=P)
  (c:YA K (.ref C) Y=M R) (b:Z Y=M v) (a:aeQ v=P) (h:Q v {s with toks:=s.toks+1}):
  wpAny (model T w) A (getAttr (.ref x) Y expr) Q E s:=by
 let(j,J,e):=I.look;show PySem.W.get_value X J (abE i).1 (PySem.W.findObj_own g c W (by rw[e,b])) a h
def FL(X:K.In s.heap)(I:aeD s.heap x S C Z)(a:aaj K C Y=P)
  (j:YA K (.ref C) Y=M (M (.ref f))) (g:ZD K (.ref f)=P) (e:Z Y=R) (h:Q (.ref f,[.ref x]) s):
  wpAny (model T w) A (getMethod (.ref x) Y pl) Q E s:=by
 let(b,J,i):=I.look;show PySem.W.method_fn X J (abE a).1 (abE a).2 j (beq_iff_eq.mp g) (by show(abo Y b).map (·.isSome)=M XF;rw[i,e];rfl) h
def K1(X:K.In s.heap)(I:aeD s.heap x S C Z)
  (p:YA K (.ref C) "__setattr__"=M (M (.builtin "object.__setattr__"))) (q:abY K C=P) (o:ack K C Y=M R) (r:aaK K C=P)
  (n:adH Z ns) (d:ns.length<=XY)
  (h:∀c,aeD c x S C (λy=>if y=Y then M v else Z y)->Heap.SameBut S s.heap c->Q ⟨⟩ {s with heap:=c,toks:=s.toks+2}):
  wpAny (model T w) A (setAttr (.ref x) Y v) Q E s:=by
 let(B,J,G):=I.look;show PySem.W.set_plain X J p (PySem.W.osa_open X J q o λb=>?_);let(H,t,j):=PySem.W.any_some r;let m:=I.obj;show CL (XN (CL (CL (akA m (CL (aik (PySem.W.looks_clsIn X t) ?_))))));rw[j];show XN (CL (XN (CL ?_)));show wpAny_nsSet1 I.ns λc e a=>?_;let(F,u,z,g,i,l):=e.count (ajo Y v n);show CL (ail g (by rw[i];show aim (Ys l (by rw[XZ];ext))) ?_);show XN (h _ #[(a.2 _ (dN I.ne)).trans I.obj,e,I.ne] a)
def JN{R:ada->XI->Prop}{c:G U}{b:G (Str×U)}(X:K.In s.heap)(hm:acm K C=P)
  (k:YA K (.ref C) "__init__"=M (M (.ref f))) (e:afp K (.ref f)=M (.type "function"))
  (h:codeAny (model T w) (A.under (.builtin "type.__call__" #[.ref C::c,b])) (.call (.ref f) #[.ref (s.heap.objs.size+1)::c,b]) (PySem.W.InitBack (s.heap.objs.size+1) R)
   {s with heap:=(s.heap.push Y3).push (Zq C s.heap.objs.size)}):
  codeAny (model T w) A (.call (.ref C) #[c,b]) R s:=by
 let(j,g,d,t,i):=s;show PySem.W.make_core (PySem.W.makes_of X hm) (PySem.W.looks_findIn X k) (λa=>PySem.W.bind_fn X a e) (.inl W) h
end
def i4(f:Str)(v:V):G (Str×V)->G (Str×V)
 |[]=>[(f,v)]
 |(g,x)::r=>if g=f then(g,v)::r else(g,x)::i4 f v r
theorem pM(f g:Str)(v:V):∀fs:G (Str×V),(i4 f v fs).lookup g=if g=f then M v else fs.lookup g
 |[]=>by
  show Zu g [(f,v)]=_;by_cases h:g=f
  .let a:=beq_iff_eq.mpr h;simp only[Zu,a,ax h]
  .let a:=beq_eq_false_iff_ne.mpr h;simp only[Zu,a,aE h]
 |(k,x)::r=>by
  let i:=pM f g v r;rw[show i4 f v ((k,x)::r)=(if k=f then(k,v)::r else(k,x)::i4 f v r)from rfl];by_cases b:k=f
  .rw[ax b]
   by_cases h:g=k
   .let a:=beq_iff_eq.mpr h;simp only[Zu,a,ax (h.trans b)]
   .let a:=beq_eq_false_iff_ne.mpr h;simp only[Zu,a,aE (λe:g=f=>h (e.trans b.symm))]
  .rw[aE b]
   by_cases h:g=k
   .let a:=beq_iff_eq.mpr h;simp only[Zu,a,aE (λe:g=f=>b (h.symm.trans e))]
   .let a:=beq_eq_false_iff_ne.mpr h;simp only[Zu,a];show i
theorem oB(f:Str)(v:V):∀fs:G (Str×V),f∈(i4 f v fs).map (·.1)/\∀g,g∈fs.map (·.1)->g∈(i4 f v fs).map (·.1)
 |[]=>#[by simp[i4],λg h=>by simp at h]
 |(k,x)::r=>by
  let(i,b):=oB f v r;rw[show i4 f v ((k,x)::r)=(if k=f then(k,v)::r else(k,x)::i4 f v r)from rfl];by_cases a:k=f
  .rw[ax a];subst a;show#[by simp,λg h=>by simpa using h]
  .rw[aE a]
   show#[?_,λg h=>?_]
   .rw[X5];show XX _ i
   .rw[X5]at h⊢
    rcases Yi.mp h with e|e
    .show Yi.mpr (.inl e)
    .show XX _ (b g e)
theorem pS(f:Str)(v:V):∀fs:G (Str×V),(i4 f v fs).length<=fs.length+1
 |[]=>by simp[i4]
 |(k,x)::r=>by
  let b:=pS f v r;rw[show i4 f v ((k,x)::r)=(if k=f then(k,v)::r else(k,x)::i4 f v r)from rfl];by_cases a:k=f
  .rw[ax a,XZ,XZ];ext
  .rw[aE a,XZ,XZ];ext
def aa1.some_of(r:aa1 (M v) o):∃u,o=M u/\RelV v u:=by
 cases o with
 |none=>show(show False from r).elim
 |some u=>show#[u,W,r]
def aa1.none_of(r:aa1 R o):o=R:=by
 cases o with
 |none=>rfl
 |some u=>show(show False from r).elim
def Dm(r:RelV v u):aeQ u=P:=by
 cases v with
 |Zw=>cases(show u=Xx.none from r);rfl
 |bl b=>cases(show u=Xx.bool b from r);rfl
 |int i=>let(t,e):=(show∃t,u=Xx.int i t from r);ext e;rfl
 |str x=>let(t,e):=(show∃t,u=Xx.str x t from r);ext e;rfl
 |byt b=>let(t,e):=(show∃t,u=Xx.bytes b t from r);ext e;rfl
 |flt b=>let(t,e):=(show∃t,u=Xx.float b t from r);ext e;rfl
 |ref a=>cases(show u=Xx.ref a from r);rfl
 |ty n=>cases(show u=Xx.type n from r);rfl
section
variable{P:Ya}{w:Yq}{H X:Hp}{h T:Heap}{a C Z:XH}{fs Y:bg (Str×V)}
def vH(YX:HOk P w H h)(e:H a=M (.ins C Z fs)):∃c,aeD h a Z C c/\(∀f,aa1 (fs.lookup f) (c f))/\adH c (fs.map (·.1))/\fs.length<=1000/\H Z=M (.own a):=by let(d,z,ne,b,c,n,r,q):=(show ObjOk P w H h a (.ins C Z fs)from YX a _ e);show#[c,#[b,n,ne],r,q,z,d]
end
structure Cls(K:lD)(C:I):Prop where
 pg:aaj K C Str.empty=P
 hd:aaK K C=P
 po:abY K C=P
 sa:YA K (.ref C) "__setattr__"=M (M (.builtin "object.__setattr__"))
theorem Cls.get{K:lD}(c:Cls K C)(f:Str):aaj K C f=P:=c.pg
def aaQ(K:lD)(C:I)(f:Str):Prop:=YA K (.ref C) f=M R
def aaQ.aiN{K:lD}(n:aaQ K C f):ack K C f=M R:=by ext ack;rw[show YA K (.ref C) f=M R from n];rfl
structure Con(K:lD)(C:I)(f:Str)(v:V)(u:U):Prop where
 at_:YA K (.ref C) f=M (M u)
 rel:RelV v u
 get:aaa K u "__get__"=M R
 cp:PySem.W.copiedNames.contains f=XF
structure Meth(K:lD)(C:I)(m:Str)(f:I):Prop where
 at_:YA K (.ref C) m=M (M (.ref f))
 fn:ZD K (.ref f)=P
 kp:Zb K (.ref f)=P
section
variable{X:Cx}{Z:bg (XH×Obj)}{Y:St}{H:Hp}{s:XI}{a C T:XH}{fs:bg (Str×V)}{f:Str}{v:V}{A:Ym}{E:Xx->XI->Prop}
def zG(I:Inv X Z Y H s)(e:H a=M (.ins C T fs))(c:Cls X.K C)(n:aaQ X.K C f)(l:fs.lookup f=M v)
  (h:∀u d,Inv X Z Y H d->RelV v u->Q u d):wpAny (model X.prog X.w) A (getAttr (.ref a) f b) Q E s:=by
 let(j,O,r,_,_,_):=vH I.YX e;let(u,i,g):=aa1.some_of (by rw[<-l];show r f);show MV I.kIn O (c.get f) c.hd n i (Dm g) (h u _ (I.tok _) g)
def sU(I:Inv X Z Y H s)(e:H a=M (.ins C T fs))(c:Cls X.K C)(k:Meth X.K C m g)(l:fs.lookup m=R)
  (h:Q (.ref g,[.ref a]) s):wpAny (model X.prog X.w) A (getMethod (.ref a) m pl) Q E s:=by
 let(b,O,r,_,_,_):=vH I.YX e;let i:=aa1.none_of (by rw[<-l];show r m);show FL I.kIn O (c.get m) k.at_ k.fn i h
def Al(I:Inv X Z Y H s)(e:H a=cL (.ins C T fs))(c:Cls X.K C)(n:aaQ X.K C f)(M:fs.length<1000)(t:RelV y u)
  (h:∀d,Inv X Z Y (bf H a (.ins C T (i4 f y fs))) d->Q ⟨⟩ d):wpAny (model X.prog X.w) A (setAttr (.ref a) f u) Q E s:=by
 let(l,O,r,j,_,m):=vH I.YX e;let B:(fs.map (·.1)).length<=XY:=by rw[Xz,Zy];ext
 show K1 I.kIn O c.sa c.po n.aiN c.hd j B λL i p=>h _ ?_;let G:∃o,L.get? T=cL o:=let#[o,_,_,w,_]:=i.ns;#[o,w]
 show I.write (by rw[e];show True.intro) (.inr m) (λb q J z=>(p.2 b J).trans z) G ?_;show#[by rw[az O.ne];show m,?_,O.ne,i.obj,_,i.ns,λg=>?_,λg F=>?_]
 .let:=pS f y fs;ext
 .show aa1 ((i4 f y fs).lookup g) (if g=f then cL u else l g)
  rw[pM];by_cases q:g=f
  .rw[ax q,ax q];show t
  .rw[aE q,aE q];show r g
 .by_cases q:g=f
  .rw[q];show(oB f y fs).1
  .show(oB f y fs).2 g (j g λz=>F ?_);show(if g=f then cL u else l g)=R;rw[aE q];show z
def Inv.made(I:Inv X Z Y H s):Inv X Z Y (bf (bf H s.heap.objs.size (.own (s.heap.objs.size+1))) (s.heap.objs.size+1) (.ins C s.heap.objs.size []))
  {s with heap:=(s.heap.push Y3).push (Zq C s.heap.objs.size)}:=by
 let e1:(s.heap.push Y3).get? s.heap.objs.size=M Y3:=ck s.heap W;let e2:((s.heap.push Y3).push (Zq C s.heap.objs.size)).get? (s.heap.objs.size+1)=M (Zq C s.heap.objs.size):=by let:=ck (s.heap.push Y3) (o:=Zq C s.heap.objs.size) W;rwa [cN]at this
 let e3:(s.heap.push Y3).Ns s.heap.objs.size (λ_=>R):=#[Y3,#v[],_,e1,W,(λe h=>a7 h (by simp)),λ_=>W];let i:=I.laid (a:=s.heap.objs.size) (o:=.own (s.heap.objs.size+1)) (h':=s.heap.push Y3) (t':=s.toks) (λb u q=>b4 _ q) (XO _) #[_,e1];show i.laid (a:=s.heap.objs.size+1) (o:=.ins C s.heap.objs.size []) (t':=s.toks) (λb u q=>b4 _ q) (ZZ (cN _ _)) ?_;let ne:s.heap.objs.size≠s.heap.objs.size+1:=Ye (aau _);show#[by rw[az ne,aI],YC _,ne,e2,λ_=>R,(Heap.Ns1.of_empty e3).at λo q=>b4 _ q,λ_=>True.intro,λy g=>a7 W g]
theorem MN{prog:Ya}{w:Yq}{env:Env}{e:Yc}{f:Str}{b:Pos}{s:XI}{Q:U->XI->Prop}(g:attributeBase e f env (eval e env)=eval e env)
  (h:wpAny (model prog w) A (eval e env) (λo c=>wpAny (model prog w) A (getAttr o f P) Q E c) E s):wpAny (model prog w) A (eval (.Attribute e f b) env) Q E s:=
 Attribute_any_ h (by rw[arm_eval_Attribute,g])
end
def ST(K:lD)(c:TE)(f:Str):TE:=λe H Q=>c e H λx b=>∃a C g fs v,x=.ref a/\b a=M (.ins C g fs)/\Cls K C/\aaQ K C f/\fs.lookup f=M v/\Q v b
def QZ(K:lD)(c g:TE)(f:Str):TS:=λD b H=>g b H λy h=>c b h λx e=>∃a C i fs,x=.ref a/\e a=M (.ins C i fs)/\Cls K C/\aaQ K C f/\fs.length<1000/\
 D.nx b (bf e a (.ins C i (i4 f y fs)))
section
variable{X:Cx}{o e Z:Yc}{f:Str}{T Y O:Pos}{U S:TE}
def JK(m:PE X e U)(p:attributeBase e f X.env (eval e X.env)=eval e X.env):PE X (.Attribute e f T) (ST X.K U f):=by intro b s g H Q I h;show MN p (bZ (m b s g H _ I h) λu E a=>?_);let(x,z,y,i,a,C,J,fs,v,r,t,c,n,l,q):=a;subst r;obtain rfl:=i;show zG y t c n l λA B w j=>#[v,z,w,j,q]
def Sq(d:PE X o U)(r:PE X Z S)(t:ZU Z (M (.Attribute o f Y)) T.line X.env=pure XF):PS X (.Assign [.Attribute o f Y] Z T) (QZ X.K U S f):=by intro b s g H D I h;show ac1 (bZ (r b s g H _ I h) λu i #[y,E,B,j,q]=>bZ (d b i g E _ B q) λJ G a=>?_) t;let(x,L,A,m,a,C,K,fs,v,w,c,n,l,p):=a;subst v;obtain rfl:=m;show Al A w c n l j λF z=>#[g,_,z,p]
end
section
variable{X:Cx}{Z:bg (XH×Obj)}{Y:St}{H:Hp}{s:XI}{A:Ym}{E:Xx->XI->Prop}{Q:Xx->XI->Prop}{c:Xx}{b:Bool}
inductive acK(K:lD)(H:Hp):V->U->Prop where
 |Zw:acK K H .Zw (.type "NoneType")
 |bl (x:Bool):acK K H (.bl x) (.type "bool")
 |int (i:Int):acK K H (.int i) (.type "int")
 |str (x:Str):acK K H (.str x) (.type "str")
 |flt (x:UInt64):acK K H (.flt x) (.type "float")
 |lst {a:I} {xs:G V} (e:H a=M (.lst xs)):acK K H (.ref a) (.type "list")
 |frz {a:I} {o:Obj} {xs:G V} (e:H a=M (.frz o (.lst xs))):acK K H (.ref a) (.type "list")
 |tup {a:I} {xs:G V} (e:H a=M (.tup xs)):acK K H (.ref a) (.type "tuple")
 |dK {a:I} {Yf:G (cB×V)} (e:H a=M (.dK Yf)):acK K H (.ref a) (.type "dict")
 |dT {a:I} {Yf:G (G cB×V)} (e:H a=M (.dT Yf)):acK K H (.ref a) (.type "dict")
 |ins {a C dx:I} {fs:G (Str×V)} (e:H a=M (.ins C dx fs)) (cl:Cls K C) (ha:YA K (.ref C) "__class__"=M (M (.builtin "object.__class__")))
   (hn:aaa K (.builtin "object.__class__") "__get__"=M (M (.builtin "getset_descriptor.__get__"))) (htk:PySem.W.takesIn K (.builtin "object.__class__")=M P)
   (hm:PySem.W.mroIn K C (.type "object")=M P):acK K H (.ref a) (.ref C)
end
structure Zp(k:Nat)(A:Ym):Prop where
 hd:A.handled=R
 dp:A.depth+3*k+5<recursionLimit
 un:A.units+16*k+200<cLine
theorem Zp.mono(r:Zp k A)(h:j<=k):Zp j A:=#[r.hd,by let:=r.dp;ext,by let:=r.un;ext]
theorem Zp.deeper(r:Zp (k+1) A)(env:Env):Zp k (A.deeper env):=
 #[r.hd,by let:=r.dp;show A.depth+1+3*k+5<_;ext,by let:=r.un;show A.units+3+16*k+200<_;ext]
def AU{A:Ym}:(A.under (.builtin "type.__call__" #[.ref C::us,kw])).depth=A.depth+1:=by
 first|rfl|simp[Ym.under,aeb.weight,aeb.isCreation,aeb.isGuard,aeb.isCaller,aeb.frames,aeb.isFrame,guardIds]
def zt{A:Ym}:(A.under (.builtin "type.__call__" #[.ref C::us,kw])).units=A.units+1:=by
 first|rfl|simp[Ym.under,aeb.cUnits,aeb.frames,aeb.isFrame]
theorem Zp.make(r:Zp (k+1) A)(C:I)(us:G U)(a:G (Str×U)):Zp k (A.under (.builtin "type.__call__" #[.ref C::us,a])):=
 #[r.hd,by let:=r.dp;rw[AU];ext,by let:=r.un;rw[zt];ext]
def Zp.depth(r:Zp k A):A.depth<recursionLimit:=by let:=r.dp;ext
def Zp.units(r:Zp k A):A.units+64<cLine:=by let:=r.un;ext
def iL:TA:=λ_ H Q=>Q [] H
def ei(c:TE)(b:TA):TA:=λa H Q=>c a H λx f=>b a f λxs e=>Q (x::xs) e
section
variable{X:Cx}{e:Yc}{es:bg Yc}{Y:TE}{t:TA}{Z:Pos}
theorem i8:PA X [] iL:=λ_ _ _ _ H Q I h=>Calls.spliced_nil #[[],H,I,.nil,h]
def d4(c:PE X e Y)(n:PA X es t)(m:X6 (e::es) X.env=(XF,eval e X.env)::X6 es X.env:=by rfl):PA X (e::es) (ei Y t):=by intro Z a s b H Q I h;rw[m];show Calls.spliced_cons (bZ (c a s b H _ I h) λu f a=>?_);let(x,r,p,i,l):=a;show bZ (n Z a f b r _ p l) λv w #[xs,q,o,g,j]=>#[x::xs,q,o,.cons i g,j]
def KK(t:TA):TE:=λb H Q=>t b H λxs a=>xs.length<=XY/\∀p,a p=R->Q (.ref p) (bf a p (.tup xs))
def QG(t:TA):TE:=λb H Q=>t b H λxs a=>xs.length<=XY/\∀p,a p=R->Q (.ref p) (bf a p (.lst xs))
def Qc{c}(h:PA X es t):PE X (.Tuple es c Z) (KK t):=by intro a s i H Q I l;show wpAny_Tuple_spliced (bZ (h Z a s i H _ I l) λj f #[xs,n,g,r,z,q]=>#[by rw[<-r.length];show z,?_]);let m:=g.YX.fresh (XO _);show#[.ref f.heap.objs.size,bf n f.heap.objs.size (.tup xs),g.laid (λb u e=>b4 _ e) (XO _) ?_,W,q _ m];show#[z,j,r,#[_,ck _ W,#[W,_,W],W]]
def PF(h:PA X es t):PE X (.List es Z) (QG t):=by intro a s i H Q I l;show wpAny_List_spliced (bZ (h Z a s i H _ I l) λj f #[xs,n,g,r,z,q]=>#[by rw[<-r.length];show z,?_]);let m:=g.YX.fresh (XO _);show#[.ref f.heap.objs.size,bf n f.heap.objs.size (.lst xs),g.laid (λb u e=>b4 _ e) (XO _) ?_,W,q _ m];show#[z,j,0,r,ck _ W]
end
abbrev Sp:=G V->Hp->VK->XK->Prop
abbrev wB:=G Env->Hp->XI->XK->U->XI->Prop
structure Env0(P:Ya)(w:Yq)(K:lD)(mg:Str->z U)(base:Heap)(A:Ym)(outer:G Env)(s:XI)(H:Hp):Prop where
 frames:A.frames=M outer
 mod:Mod K mg base
 bs:∀b o,base.get? b=M o->s.heap.get? b=M o/\H b=R
 bsz:base.objs.size<=s.heap.objs.size
 abQ:s.heap.FunFrames base outer
 frf:∀b∈xc outer,H b=R
 YX:HOk P w H s.heap
 bare:AllBare s.gens
def CE(outer:G Env)(P:Ya)(w:Yq)(H:Hp)(s:XI)(Q:VK)(u:U)(a:XI):Prop:=
 ∃v b,a.os=s.os/\AllBare a.gens/\Un (xc outer) [] H b s.heap a.heap/\HOk P w b a.heap/\RelV v u/\Q v b
def CR(b:wB)(outer:G Env)(P:Ya)(w:Yq)(H:Hp)(s:XI)(Q:VK)(E:XK)(r:ada)(a:XI):Prop:=
 match r with
 |.ok (.ret u)=>CE outer P w H s Q u a
 |.ok _=>False
 |.error e=>b outer H s E e a
structure FnOk(P:Ya)(w:Yq)(K:lD)(mg:Str->z U)(base:Heap)(CX:wB)(k:Nat)(f:I)(fd:YN)(ps:G Str)(sp:Sp):Prop where
 len:∀vs H Q E,sp vs H Q E->vs.length=ps.length
 run:∀(A:Ym) (outer:G Env) (s:XI) (H:Hp) (args:Args) (us:G U) (vs:G V) (Q:VK) (E:XK),Zp k A->Env0 P w K mg base A outer s H->abJ s fd args (ps.zip us)->Vals vs us->sp vs H Q E->
  codeAny (model P w) A (.call (.ref f) args) (CR CX outer P w H s Q E) s
theorem FnOk.imp{P:Ya}{w:Yq}{K:lD}{p:Str->z U}{base:Heap}{g:wB}{k:Nat}{f:I}{fd:YN}{d:G Str}{sp b:Sp}(F:FnOk P w K p base g k f fd d sp)
  (h:∀c H Q E,b c H Q E->sp c H Q E):FnOk P w K p base g k f fd d b:=
 #[λc H Q E q=>F.len c H Q E (h _ _ _ _ q),λA a s H e i c Q E m n o j l=>F.run A a s H e i c Q E m n o j (h _ _ _ _ l)]
theorem Env0.make{K:lD}(e:Env0 b w K mg base A outer s H)(C:I)(us:G U)(a:G (Str×U)):
  Env0 b w K mg base (A.under (.builtin "type.__call__" #[.ref C::us,a])) outer s H:=#[by first|show e.frames|(simpa [Ym.under,aeb.envs,aeb.isFrame,pushEnvs]using e.frames),e.mod,e.bs,e.bsz,e.abQ,e.frf,e.YX,e.bare]
section
variable{X:Cx}{Z:bg (XH×Obj)}{Y:St}{H:Hp}{s U:XI}
theorem Inv.ahE(I:Inv X Z Y H s):Env0 X.prog X.w X.K X.mg X.base X.A X.stack s H:=
 #[I.ok.frames,I.ok.mod,I.bs,Ys I.ok.bsz I.sz,I.stack,I.ab3,I.YX,I.bare]
def Inv.after{Q:VK}{u:Xx}(I:Inv X Z Y H s)(h:CE X.stack X.prog X.w H s Q u U):EP X Z Y Q u U:=by let(v,j,f,a,un,YX,r,q):=h;let(i,g,d,t,e):=U;obtain rfl:e=s.os:=f;show#[v,j,I.call (h':=i) (g':=g) (d':=d) (t':=t) (ch:=[]) un YX a (λb z=>a7 z (by simp)),r,q]
end
def jW(sp:Sp)(a:G V)(E:XK)(t:TA):TE:=λb H Q=>t b H λf e=>sp (f++a) e Q E
def uv(C:I)(m:Str)(sp:Sp)(b:G V)(E:XK)(c:TE)(t:TA):TE:=λe H Q=>c e H λx f=>∃a i fs,x=.ref a/\f a=M (.ins C i fs)/\fs.lookup m=R/\
 t e f λh g=>sp (x::(h++b)) g Q E
def yJ(C:I)(sp:Sp)(a:G V)(E:XK)(t:TA):TE:=λe H Q=>t e H λh b=>∀x g,b x=R->b g=R->g≠x->
 sp (.ref x::(h++a)) (bf (bf b g (.own x)) x (.ins C g [])) (λv f=>v=.Zw/\Q (.ref x) f) E
def Binds(K:lD)(fd:YN)(b:G Str)(ds:G U):Prop:=
 ∀(s:XI) (a:G U),K.In s.heap->(a++ds).length=b.length->abJ s fd #[a,[]] (b.zip (a++ds))
theorem Binds.all{K:lD}{fd:YN}{b:G Str}(h:∀us:G U,us.length=b.length->bindArgs fd #[us,[]]=pure (b.zip us)):Binds K fd b []:=λs us _ a=>by rw[Yl]at a⊢;show .of_eq (h us a)
def dL(g:wB)(X:Cx)(E:XK):Prop:=∀(a:G (I×Obj)) (f:St) (H:Hp) (s:XI) (e:U) (b:XI),Inv X a f H s->g X.stack H s E e b->X.xe e b
section
variable{X:Cx}{U:wB}{k:Nat}{f C:XH}{fd:YN}{ps:bg Str}{sp:Sp}{Z:bg V}{ds:bg Xx}{E:XK}{x m:Str}{p A Y:Pos}{e o:Yc}{es:bg Yc}{T:TE}{t:TA}
def Aa{a:G (XH×Obj)}{g:St}{H:Hp}{s:XI}{Q:VK}{us:G Xx}{vs:G V}(F:FnOk X.prog X.w X.K X.mg X.base U k f fd ps sp)(n:Zp k X.A)(v:Binds X.K fd ps ds)(hd:Vals Z ds)(l:dL U X E)
  (I:Inv X a g H s) (r:Vals vs us) (h:sp (vs++Z) H Q E):wpAny (model X.prog X.w) X.A (call (.ref f) us) (EP X a g Q) X.xe s:=by
 let i:Vals (vs++Z) (us++ds):=r.append hd;let q:(us++ds).length=ps.length:=by rw[<-i.length];show F.len _ _ _ _ h
 show abK (abL (F.run X.A X.stack s H #[us,[]] (us++ds) (vs++Z) Q E n I.ahE (v s us I.kIn q) i h) λr j b=>?_);cases r with
 |error e=>show l a g H s e j I b
 |ok y=>
  cases y with
  |ret u=>show I.after b
  |next=>show False.elim b
  |brk=>show False.elim b
  |cont=>show False.elim b
def BE(F:FnOk X.prog X.w X.K X.mg X.base U k f fd ps sp)(n:Zp k X.A)(v:Gl X x)(hm:X.mg x=M (.ref f))(u:Zb X.K (.ref f)=P)(z:Binds X.K fd ps ds)(hd:Vals Z ds)(l:dL U X E)
  (c:PA X (e::es) t) (g:(x==("__debug__":Str))=XF:=by decide) (y:X6 (e::es) X.env=(XF,eval e X.env)::X6 es X.env:=by rfl) (b:(backTo A (X6 es X.env)).any (·.1)=XF:=by rfl):
  PE X (.Call (.Name x p) (e::es) [] A) (jW sp Z E t):=by
 intro a s j H Q I h;show aak (lA I v hm ?_ g);show abM I.ok.mod.kin u (bZ (c A a s j H _ I h) λB G #[w,J,i,r,q]=>#[i.kIn,?_]) y b;show Aa F n z hd l i r q
def LN{pl:Sem Bool}(L:PE X o T)(c:Cls X.K C)(hm:Meth X.K C m f)(F:FnOk X.prog X.w X.K X.mg X.base U k f fd ps sp)(J:Zp k X.A)(M:Binds X.K fd ps ds)(hd:Vals Z ds)(B:dL U X E)(d:PA X (e::es) t)
  (cW:X6 (e::es) X.env=(XF,eval e X.env)::X6 es X.env:=by rfl) (g:(backTo A (X6 es X.env)).any (·.1)=XF:=by rfl)
  (G:eval (.Call (.Attribute o m Y) (e::es) [] A) X.env=(do
   let ov<-eval o X.env
   standAt Y.atName
   let(f,first)<-holding [ov] (getMethod ov m pl)
   callWith A f first (backTo A (X6 (e::es) X.env)) (backToKw A (keywordEach [] X.env))):=by rfl):
  PE X (.Call (.Attribute o m Y) (e::es) [] A) (uv C m sp Z E T t):=by
 intro b s i H Q I h;show abh (pl:=pl) (bZ (L b s i H _ I h) λu v a=>?_) G;let(x,w,n,y,a,dx,fs,N,O,l,q):=a;subst N;obtain rfl:u=Xx.ref a:=y;show sU n O c hm l ?_;show abM (first:=[.ref a]) (h₀:=X.base) I.ok.mod.kin hm.kp (bZ (d A b v i w _ n q) λus R #[K,S,j,r,z]=>#[j.kIn,?_]) cW g;show Aa (us:=.ref a::us) (vs:=.ref a::K) F J M hd B j (.cons W r) z
def Gc{pl:Sem Bool}(y:PE X o T)(c:Cls X.K C)(hm:Meth X.K C m f)(F:FnOk X.prog X.w X.K X.mg X.base U k f fd ps sp)(v:Zp k X.A)(z:Binds X.K fd ps ds)(hd:Vals Z ds)(n:dL U X E)
  (r:eval (.Call (.Attribute o m Y) [] [] A) X.env=(do
   let ov<-eval o X.env
   standAt Y.atName
   let(f,first)<-holding [ov] (getMethod ov m pl)
   callWith A f first (backTo A (X6 [] X.env)) (backToKw A (keywordEach [] X.env))):=by rfl):
  PE X (.Call (.Attribute o m Y) [] [] A) (uv C m sp Z E T iL):=by
 intro b s i H Q I h;show abh (pl:=pl) (bZ (y b s i H _ I h) λu J a=>?_) r;let(x,L,g,j,a,w,fs,B,G,l,q):=a;subst B;obtain rfl:u=Xx.ref a:=j;show sU g G c hm l ?_;show PySem.W.callWith_K0 (first:=[.ref a]) g.kIn hm.kp (Aa (us:=[.ref a]) (vs:=[.ref a]) F v z hd n g (.cons W .nil) q)
structure Mk(K:lD)(C f:I):Prop where
 makes:acm K C=P
 init:YA K (.ref C) "__init__"=M (M (.ref f))
 fn:ZD K (.ref f)=P
 kp:Zb K (.ref C)=P
def FU(M:Mk X.K C f)(F:FnOk X.prog X.w X.K X.mg X.base U k f fd ps sp)(q:Zp (k+1) X.A)(z:Binds X.K fd ps ds)(hd:Vals Z ds)
  (n:dL U X E) (I:Inv X pins σ H s) (r:Vals vs us)
  (h:∀x c,H x=R->H c=R->c≠x->sp (.ref x::(vs++Z)) (bf (bf H c (.own x)) x (.ins C c [])) (λv d=>v=.Zw/\Q (.ref x) d) E):
  wpAny (model X.prog X.w) X.A (call (.ref C) us) (EP X pins σ Q) X.xe s:=by
 let i:=h (s.heap.objs.size+1) s.heap.objs.size (I.YX.fresh (acN _)) (I.YX.fresh (XO _)) (Ye (aau _));let b:=Inv.made (C:=C) I;let g:Vals (V.ref (s.heap.objs.size+1)::(vs++Z)) (Xx.ref (s.heap.objs.size+1)::(us++ds)):=.cons W (r.append hd);let y:(Xx.ref (s.heap.objs.size+1)::us++ds).length=ps.length:=by let e:=g.length;rw[F.len _ _ _ _ i]at e;show e.symm
 show abK (JN I.kIn M.makes M.init (beq_iff_eq.mp M.fn) (abL (F.run _ X.stack _ _ #[Xx.ref (s.heap.objs.size+1)::us,[]] (Xx.ref (s.heap.objs.size+1)::(us++ds)) _ _ E (q.make C us [])
  (b.ahE.make C us []) (z _ (Xx.ref (s.heap.objs.size+1)::us) b.kIn y) g i) λr j a=>?_))
 cases r with
 |error e=>show n pins σ _ _ e j b a
 |ok B=>
  cases B with
  |ret u=>let(v,J,G,w,ev,l):=b.after a;subst ev;show#[w,#[V.ref (s.heap.objs.size+1),J,G,W,l]]
  |next=>show False.elim a
  |brk=>show False.elim a
  |cont=>show False.elim a
def Kp(M:Mk X.K C f)(F:FnOk X.prog X.w X.K X.mg X.base U k f fd ps sp)(n:Zp (k+1) X.A)(u:Gl X x)(hm:X.mg x=cL (.ref C))(y:Binds X.K fd ps ds)(hd:Vals Z ds)(l:dL U X E)
  (c:PA X (e::es) t) (g:(x==("__debug__":Str))=XF:=by decide) (v:X6 (e::es) X.env=(XF,eval e X.env)::X6 es X.env:=by rfl) (b:(backTo A (X6 es X.env)).any (·.1)=XF:=by rfl):
  PE X (.Call (.Name x p) (e::es) [] A) (yJ C sp Z E t):=by
 intro a s j H Q I h;show aak (lA I u hm ?_ g);show abM I.ok.mod.kin M.kp (bZ (c A a s j H _ I h) λz B #[w,G,i,r,q]=>#[i.kIn,?_]) v b;show FU M F n y hd l i r q
end
section
variable{X:Cx}{Q:wB}{k:Nat}{f C:XH}{fd:YN}{ps ks:bg Str}{O:Sp}{E:XK}{x m:Str}{p Y Z T:Pos}{e o:Yc}{es:bg Yc}{S:bg abk}{N L:TE}{t J:TA}{H:b3 Str}
structure amC(K:lD)(fd:YN)(ps ks:G Str)(g:G U->G U->G U)(gV:G V->G V->G V):Prop where
 to:∀(s:XI) (us ws:G U),K.In s.heap->(g us ws).length=ps.length->abJ s fd #[us,ks.zip ws] (ps.zip (g us ws))
 rel:∀{vs:G V} {us:G U} {zs:G V} {ws:G U},Vals vs us->Vals zs ws->Vals (gV vs zs) (g us ws)
variable{g:bg Xx->bg Xx->bg Xx}{K:bg V->bg V->bg V}
end
structure ZF(N P:G Str)(sc:Zj):Prop where
 kind:sc.kind=.function
 co:sc.isCoroutine=XF
 gen:sc.isGenerator=XF
 nd:N.Nodup
 pre:N.take P.length=P
 par:∀x∈P,sc.names.lookup x=M .local\/sc.names.lookup x=M .cell
 ahC:∀y∈sc.names,y.2≠.free
theorem u8{a:Str->z X7}:∀{binds:G (Str×U)} {m:Str->z U},(∀v,(x,v)∉binds)->bindL a binds m x=m x
 |[],_,_=>rfl
 |(n,v)::r,m,h=>by
  ext bindL;rw[u8 λw b=>h w (XX _ b)];split
  .let:x≠n:=by rintro rfl;show h v X0
   simp[this]
  .rfl
theorem uO{a:Str->z X7}:∀{binds:G (Str×U)} {m:Str->z U},(∀v,(x,v)∉binds)->bindC a binds m x=m x
 |[],_,_=>rfl
 |(n,v)::r,m,h=>by
  ext bindC;rw[uO λw b=>h w (XX _ b)];split
  .rfl
  .let:x≠n:=by rintro rfl;show h v X0
   simp[this]
theorem ut{kindOf:Str->z X7}:∀{a:G Str} {b:G U} {i:Nat} {m:Str->z U},a.Nodup->a[i]?=M x->b[i]?=M v->kindOf x=M .local->
  bindL kindOf (a.zip b) m x=M v
 |[],_,_,_,_,h,_,_=>by simp at h
 |_::_,[],_,_,_,_,h,_=>by simp at h
 |p::a,w::b,0,m,nd,h1,e,f=>by simp at h1 e;subst h1;subst e;show bindL kindOf ((p,w)::a.zip b) m p=_;ext bindL;rw[u8 λv g=>(Zd.mp nd).1 (aaB g).1,ax f];simp
 |p::a,w::b,i+1,m,nd,h1,e,f=>by ext bindL;show ut (Zd.mp nd).2 (by simpa using h1) (by simpa using e) f
theorem uX{kindOf:Str->z X7}:∀{a:G Str} {b:G U} {i:Nat} {m:Str->z U},a.Nodup->a[i]?=M x->b[i]?=M v->kindOf x≠M .local->
  bindC kindOf (a.zip b) m x=M v
 |[],_,_,_,_,h,_,_=>by simp at h
 |_::_,[],_,_,_,_,h,_=>by simp at h
 |p::a,w::b,0,m,nd,h1,e,f=>by simp at h1 e;subst h1;subst e;show bindC kindOf ((p,w)::a.zip b) m p=_;ext bindC;rw[uO λv g=>(Zd.mp nd).1 (aaB g).1,aE f];simp
 |p::a,w::b,i+1,m,nd,h1,e,f=>by ext bindC;show uX (Zd.mp nd).2 (by simpa using h1) (by simpa using e) f
def start(N:G Str)(a:G V):St:=a.map M++XU (N.length - a.length) R
def eO(i:wB)(P:Ya)(w:Yq)(K:lD)(c:Str->z U)(base:Heap)(N:G Str)(b:Str)(a:Zj)(f:I)(h:U)(A:Ym)(outer:G Env)(s:XI)(H:Hp)(E:XK):Cx where
 prog:=P
 w:=w
 K:=K
 mg:=c
 base:=base
 A:=A.deeper (envOfC b a s.heap.objs.size f h)
 N:=N
 s₀:=s
 H₀:=H
 env:=envOfC b a s.heap.objs.size f h
 outer:=outer
 stack:=envOfC b a s.heap.objs.size f h::outer
 ex:=[]
 calm:=XA
 fn:=λ_=>XA
 pn:=[]
 xe:=λe j=>wpAny (model P w) (A.deeper (envOfC b a s.heap.objs.size f h)) (leaving (envOfC b a s.heap.objs.size f h) e) (λ_ g=>i outer H s E e g) (λl g=>i outer H s E l g) j
def y6{sc:Zj}(h:sc.names.lookup x=M .cell):∃c,(Zr n sc.names []).lookup x=M c:=by let q:=aab sc.names n [] (.inl h);show Y8.mp q
def DZ{K:lD}
  (S:ZF N ps scope) (hd:A.handled=R) (e0:Env0 J w K mg base A outer s H) (G:vs.length=ps.length) (r:Vals vs us)
  (x:InCallC s s.heap.objs.size (bindL (envOfC qual scope s.heap.objs.size f cd).kindOf (ps.zip us) λ_=>R) (Zr (s.heap.objs.size+1) scope.names []) (bindC (envOfC qual scope s.heap.objs.size f cd).kindOf (ps.zip us) λ_=>R) s1):
  Inv (eO CX J w K mg base N qual scope f cd A outer s H E) [] (start N vs) H s1:=by
 let C:ps.length<=N.length:=by let:=ec abG S.pre;rw[YJ]at this;ext
 let(o,F,rfl,B):=x.done;let j:∀b:XH,b∉(eO CX J w K mg base N qual scope f cd A outer s H E).ex:=λb z=>a7 (show b∈([]:bg XH)from z) (by simp);show#[#[e0.mod,S.kind,W,W,XO _,λy z c o g=>?_,λy l=>?_,λy c _ h=>?_,λ_=>hd,Ym.frames_deeper e0.frames,.inr #[W,W],λb z=>a7 z (j b),e0.bs,e0.bsz,λb _ _=>j b,λb z=>a7 z (j b),e0.abQ,e0.frf],
  W,e0.bare,Un.kept B,#[_,x.toInCall.ns,λi y v o g I=>?_],λy c h=>#[_,x.cell y c h],e0.YX.fresh (XO _),λy c h=>?_,λp n=>a7 (show p∈([]:bg (XH×Obj))from n) (by simp),e0.YX.kept B,?_]
 .show name_of_addr x.apart (Zg o) (Zg g)
 .let l:=l
  rcases l with l|l
  .show y6 l
  .show a7 W (S.ahC _ (Zg l))
 .show aaG (x.above y c (Zg h))
 .let L:i<vs.length:=by
   unfold start at g;by_cases L:i<vs.length
   .show L
   .rw[Yn (by simpa using L)]at g;rw[ZC]at g;split at g<;>ext g
  let Q:vs[i]?=M v:=by
   unfold start at g;rw[XT (by simpa using L),XS]at g;cases e:vs[i]? with
   |none=>rw[e]at g;ext g
   |some a=>rw[e]at g;ext g;rfl
  let(u,t,O):=r.get Q;let n:ps[i]?=M y:=by rw[<-S.pre,List.getElem?_take_of_lt ()];show o
  let m:ps.Nodup:=by rw[<-S.pre];show S.nd.sublist (List.take_sublist _ _)
  show#[u,O,?_];rcases S.par y (X3 n)with k|k
  .show .inl #[k,ut m n t k]
  .let(c,e):=y6 k;show .inr #[.inl k,c,e,?_];let q:=x.cell y c e;rw[uX m n t (by show scope.names.lookup y≠_;rw[k];decide)]at q;show q
 .show e0.YX.fresh (aaG (x.above y c (Zg h)))
 .ext start;show _=N.length;rw[XJ,Xz,Y0];ext
def Iw{m:wB}{P:Ya}{w:Yq}{K:lD}{l:Str->z U}{base:Heap}{k:Nat}{f:XH}{name qual:Str}{params:Arguments}{body:G Zn}{scope:Zj}{T kV doc pm g ct Z:U}{an Y:z XH}
  {C:Array (z U)} {N j:G Str} {sp:Sp} (lk:K.lookup f=M #[Z,Y,.func (Y4 name qual params body scope T kV doc pm an g ct),C]) (D:aaC K g qual=XA) (S:ZF N j scope)
  (len:∀c H Q E,sp c H Q E->c.length=j.length)
  (F:∀(A:Ym) (outer:G Env) (s:XI) (H:Hp) (c:G V) (Q:VK) (E:XK),Zp k (A.deeper (envOfC qual scope s.heap.objs.size f g))->sp c H Q E->
   ∃t,PSs (eO m P w K l base N qual scope f g A outer s H E) body t/\t {nx:=λ_ d=>Q .Zw d,rt:=Q} (start N c) H):
  FnOk P w K l base m (k+1) f (Y4 name qual params body scope T kV doc pm an g ct) j sp:=by
 show#[len,λA outer s H args us c Q E L e0 hb r i=>?_];let hl:=len _ _ _ _ i;let X:K.In s.heap:=e0.mod.kin.keeps λb o e=>(e0.bs b o e).1;let lim:s.heap.NoLimit:=e0.mod.nolimit.keeps λb o e=>(e0.bs b o e).1;let O:∀y∈j.zip us,scope.names.lookup y.1=M .local\/(scope.names.lookup y.1=M .cell/\((Zr (s.heap.objs.size+1) scope.names []).lookup y.1).isSome=XA):=λ#[n,v] hy=>by
  rcases S.par n (aaB hy).1 with q|q
  .show .inl q
  .show .inr #[q,aab _ _ _ (.inl q)]
 show codeAny_call_function L.depth (X _ _ lk) W S.co S.gen W (PySem.W.codeRec_of X D) (hb _ _ _ _ ?_);show wpAny_newFunctionEnv_cells S.kind O λenv he s1 x=>?_;subst he;show#[lim.keeps x.toInCall.keep,codeAny_func ?_];let(t,ht,hq):=F A outer s H c Q E (L.deeper _) i;let I:Inv (eO m P w K l base N qual scope f g A outer s H E) [] (start N c) H s1:=DZ S L.hd e0 hl r x;show wpAny_mono (ht [] s1 (start N c) H _ I hq) (λfl p h=>?_) λe p h=>h
 let fin:∀{a:St} {d:Hp} {v:V} {u:U},Inv (eO m P w K l base N qual scope f g A outer s H E) [] a d p->RelV v u->Q v d->CE outer P w H s Q u p:=
  λ{a d v u} J B q=>#[v,d,J.os,J.bare,J.base,J.YX,B,q]
 cases fl with
 |ret u=>let(v,a,d,J,B,q):=h;show fin J B q
 |next=>let(a,d,J,q):=h;show fin (v:=V.Zw) (u:=Xx.none) J W q
 |brk=>let(_,_,_,q):=h;show False.elim q
 |cont=>let(_,_,_,q):=h;show False.elim q
section
variable{X:Cx}{x:Str}{p Z:Pos}{e:Yc}{es:bg Yc}{t:TA}{Y T:String}{r:bg V->Hp->VK->Prop}
def D1(r:G V->Hp->VK->Prop)(t:TA):TE:=λa H Q=>t a H λf b=>r f b Q
def Jz(u:ZJ X (.builtin Y) r)(o:Gl X x)(hm:X.mg x=R)(n:YI x=M (.builtin Y))(d:PA X (e::es) t)(c:x≠ "__name__":=by decide)(f:(x==("__debug__":Str))=XF:=by decide)
  (q:X6 (e::es) X.env=(XF,eval e X.env)::X6 es X.env:=by rfl) (b:(backTo Z (X6 es X.env)).any (·.1)=XF:=by rfl):PE X (.Call (.Name x p) (e::es) [] Z) (D1 r t):=by
 intro a s g H Q I h;show aak (pG I o hm n ?_ c f);show ajp (bZ (d Z a s g H _ I h) λi j #[y,w,v,l,m]=>u a j g w y i Q v l m) q b
def Dq(u:ZJ X (.type T) r)(o:Gl X x)(hm:X.mg x=R)(n:YI x=M (.type T))(d:PA X (e::es) t)(c:x≠ "__name__":=by decide)(f:(x==("__debug__":Str))=XF:=by decide)
  (q:X6 (e::es) X.env=(XF,eval e X.env)::X6 es X.env:=by rfl) (b:(backTo Z (X6 es X.env)).any (·.1)=XF:=by rfl):PE X (.Call (.Name x p) (e::es) [] Z) (D1 r t):=by
 intro a s g H Q I h;show aak (pG I o hm n ?_ c f);show aan (bZ (d Z a s g H _ I h) λi j #[y,w,v,l,m]=>u a j g w y i Q v l m) q b
end
end L2
namespace HT
open PySem PyProof.Rows
section
open PySem.SeqAt
open PySem.AutoSeq1 (wpAny_loadPart')
open PySem.MeetsSeq PySem.MeetsSeq2 PySem.MeetsSeq3
end
section
variable{Z:Ya}{w:Yq}{A:Ym}{E:Xx->XI->Prop}{s:XI}
def cat_tup{t b:I}{c ws:G U}{Q:U->XI->Prop}(v:IsTup s.heap t c.toArray)(y:IsTup s.heap b ws.toArray)(q:c≠[])
  (B:ws=[]->Q (.ref t) s) (z:ws≠[]->Q (.ref s.heap.objs.size) {s with heap:=s.heap.push {cls:=.type "tuple",data:=.seq (c++ws).toArray}})
  (d:c.length+ws.length<=XY):wpAny (model Z w) A (Zf .Add (.ref t) (.ref b)) Q E s:=by
 let((cls,dd,data,o),l,u,n,r):=id v;let((C,i,m,f),a,h,p,g):=id y;simp only at u r h g;subst u r h g;let e:c.toArray++ws.toArray=(c++ws).toArray:=by simp
 by_cases j:ws=[]
 .show concat_meets #[_,l,W] #[_,a,W] ain amJ adb ac2 (acP _ _)
   (tuple_addW1 t b c.toArray ws.toArray n p dd i o f (by simpa using q) (by simp[j])) #[l,a,B j]
 .show concat_meets #[_,l,W] #[_,a,W] ain amJ adb ac2 (acP _ _)
   (tuple_addW2 t b c.toArray ws.toArray n p dd i o f (by simpa using q) (by simpa using j) (by rw[X4,X4];show d)) #[l,a,?_]
  rw[e];show z j
def sIx(n d:Nat):z Int->Nat
 |none=>d
 |some v=>if v<0 then(v+(n:Int)).toNat else min v.toNat n
def Rn(n d:Nat)(hd:d<=n)(o:z Int):sIx n d o<=n:=by
 cases o with
 |none=>show hd
 |some v=>
  show(if v<0 then(v+(n:Int)).toNat else min v.toNat n)<=n;by_cases a:v<0
  .rw[ax a];ext
  .rw[aE a];show acB _ _
def AY(v:Int)(n d:Nat):(if v<0 then max (v+(n:Int)) 0 else min v (n:Int))=((sIx n d (M v):Nat):Int):=by
 show(if v<0 then max (v+(n:Int)) 0 else min v (n:Int))=(((if v<0 then(v+(n:Int)).toNat else min v.toNat n):Nat):Int);by_cases a:v<0
 .simp only[ax a];ext
 .simp only[aE a];ext
def zN(lo b:z Int)(n:Nat):Yw.Slice.sliceAdjust lo b 1 (n:Int)=(((sIx n 0 lo:Nat):Int),((sIx n n b:Nat):Int)):=by
 let a:¬((1:Int)<0):=by ext
 ext Yw.Slice.sliceAdjust;simp only[a,if_false];show Prod.ext ?_ ?_
 .cases lo with
  |none=>rfl
  |some v=>show AY v n 0
 .cases b with
  |none=>rfl
  |some v=>show AY v n n
def zV(i j:Nat):Yw.Slice.slicePlaces (i:Int) (j:Int) 1=j - i:=by
 ext Yw.Slice.slicePlaces;let a:(1:Int)>0:=by ext
 simp only[a,if_true,Int.ediv_one];split<;>ext
def tG(p:ade v o)(h:Q o s):wpAny (model Z w) A (Yw.Slice.slicePartIndex v) Q E s:=by
 cases p with
 |none=>show slicePart_none h
 |int i t=>show slicePart_int h
def pw{lo c:z Int}{Q:Int×Int×Nat->XI->Prop}(f:s.heap.IsSliceOf J C o .none)(pl:ade C lo)(e:ade o c)
  (h:Q (((sIx n 0 lo:Nat):Int),1,sIx n n c - sIx n 0 lo) s):wpAny (model Z w) A (Yw.Slice.sliceApplied (.ref J) (pure (n:Int))) Q E s:=by
 let(i,a,g,b):=id f;unfold Yw.Slice.sliceApplied Yw.Slice.sliceFields;show CL (CL (Yo a b W (CL (Yo a b W (CL (Yo a b W (XN ?_)))))));show CL (slicePart_none ?_);rw[aE ()];show CL (tG pl (CL (tG e (CL (XN ?_)))));show wpAny _ _ (match Yw.Slice.sliceAdjust lo c 1 (n:Int)with|(lo,c)=>pure (lo,(1:Int),Yw.Slice.slicePlaces lo c 1)) _ _ s;rw[zN lo c n];show wpAny _ _ (pure (((sIx n 0 lo:Nat):Int),(1:Int),Yw.Slice.slicePlaces ((sIx n 0 lo:Nat):Int) ((sIx n n c:Nat):Int) 1)) _ _ s;rw[zV];show XN h
def IS(xs:Array U)(i k:Nat):((XD k).filterMap λ(m:Nat)=>xs[((i:Int)+(m:Int)*1).toNat]?).toArray=((xs.toList.drop i).take k).toArray:=by
 let e:(λ(m:Nat)=>xs[((i:Int)+(m:Int)*1).toNat]?)=λm=>xs[i+m]? :=by
  funext m;let:((i:Int)+(m:Int)*1).toNat=i+m:=by ext
  rw[this]
 rw[e];let:=pick_run xs i k;rw[List.filterMap_map]at this;let e2:((λx=>xs[x]?)∘λx=>i+x)=λm=>xs[i+m]? :=W;rw[e2]at this;rw[this]
def getItem_tuple_cut{lo c:z Int}(b:IsTup s.heap t items)(j:s.heap.IsSliceOf C vl J .none)(pl:ade vl lo)(l:ade J c)
  (n:¬(sIx items.size 0 lo=0/\sIx items.size items.size c=items.size))
  (h:Q (.ref s.heap.objs.size) {s with heap:=s.heap.push {cls:=.type "tuple",data:=.seq ((items.toList.drop (sIx items.size 0 lo)).take (sIx items.size items.size c - sIx items.size 0 lo)).toArray}})
  (d:items.size<=XY):wpAny (model Z w) A (getItem (.ref t) (.ref C)) Q E s:=by
 let a:sizeOk (.seq ((items.toList.drop (sIx items.size 0 lo)).take (sIx items.size items.size c - sIx items.size 0 lo)).toArray):=by show((items.toList.drop (sIx items.size 0 lo)).take (sIx items.size items.size c - sIx items.size 0 lo)).toArray.size<=XY;rw[X4,YJ,acw,YL];ext
 let u:sIx items.size items.size c<=items.size:=Rn _ _ (XO _) c;let(m,e,g,o):=id j;let i:s.TypeIs (.ref C) "slice":=#[m,e,g];ext getItem
 try specialize Y6 ?_
 first|show CL (XN ?_)|skip
 show CL (wpAny_sequenceKey b.typeIs () ?_);show CL (Zl b.typeIs Z5
  (ZH Z5 b.typeIs entry_tuple_getitem ?_ (args_tuple_getitem _ _)))
 show wpAny _ _ (Yw.Tuple.tupleItemsOf (.ref t)>>=_) _ _ s;show CL (tupleItemsOf_ b ?_);show CL (acQ i ?_);rw[ax ()];show CL (pw j pl l ?_);let f:¬((((sIx items.size 0 lo:Nat):Int)==0&&(1:Int)==1&&(sIx items.size items.size c - sIx items.size 0 lo)==items.size)=P):=by intro q;rw[Xy,Xy]at q;let r:=eq_of_beq q.1.1;let p:=eq_of_beq q.2;show n #[by ext,by ext]
 show wpAny _ _ (if(((sIx items.size 0 lo:Nat):Int)==0&&(1:Int)==1&&(sIx items.size items.size c - sIx items.size 0 lo)==items.size)=P then _ else _) _ _ s;rw[aE f,IS]
 first
  |show CL (YO (XN #[_,W,XN h]) a)
  |show CL (YO (CL (XN (XN #[_,W,XN h]))) a)
  |show CL (CL (YO (XN (XN #[_,W,XN h])) a))
  |show CL (CL (YO (XN #[_,W,XN h]) a))
end
end HT
namespace L2
open PySem PySem.Spec PyProof.Rows
abbrev TO:=St->Hp->(z Int->Hp->Prop)->Prop
def PO(X:Cx)(e:z Yc)(t:TO):Prop:=
 ∀(a:G (I×Obj)) (s:XI) (b:St) (H:Hp) (Q:z Int->Hp->Prop),Inv X a b H s->t b H Q->
  wpAny (model X.prog X.w) X.A (evalPart e X.env) (λu f=>∃o g,Inv X a b g f/\ade u o/\Q o g) X.xe s
def OJ(t:TE):TO:=λa H Q=>t a H λx b=>∃i,x=.int i/\Q (M i) b
def jx:∀{us:G U},Vals (ns.map V.int) us->IntsAre us ns:=by
 induction ns with
 |nil=>intro us r;rw[ZW]at r;ext r;show .nil
 |cons n ns f=>
  intro us r;rw[X5]at r;cases r with
  |cons b a=>let(t,e):=b;subst e;show .cons n t (f a)
section
variable{X:Cx}{e:Yc}{te:TE}{Z Y:b3 Yc}{U S:TO}{pos R:Pos}
def Ll(h:PE X e te):PO X (M e) (OJ te):=by intro a s b H Q I j;rw[evalPart_some];show bZ (h a s b H _ I j) λu n a=>?_;let(x,m,l,f,g):=a;let(i,rfl,q):=g;let(t,rfl):=f;show#[M i,m,l,.int i t,q]
def Ud(X:Cx)(r:V->z Int->z Int->Hp->VK->Prop):Prop:=
 ∀(a:G (I×Obj)) (s:XI) (b:St) (H:Hp) (x:V) (v g f:Xx) (Z Y:z Int) (h:I) (Q:VK),Inv X a b H s->RelV x v->s.heap.IsSliceOf h g f .none->ade g Z->ade f Y->r x Z Y H Q->
  ∃T id,typeLookup (.type T) "__getitem__"=pure (M (.builtin id))/\s.TypeIs v T/\wpAny (model X.prog X.w) X.A (getItem v (.ref h)) (EP X a b Q) X.xe s
def Wk(r:V->z Int->z Int->Hp->VK->Prop)(te:TE)(U S:TO):TE:=λa H Q=>te a H λx g=>U a g λl f=>S a f λu b=>r x l u b Q
def JU{r:V->b3 Int->b3 Int->Hp->VK->Prop}(F:Ud X r)(K:PE X e te)(G:PO X Z U)(C:PO X Y S):PE X (.Subscript e (.Slice Z Y Ld R) pos) (Wk r te U S):=by intro a s g H Q I h;show Subscript_ (bZ (K a s g H _ I h) λv o a=>?_);let(x,H1,w,p,z):=a;show wpAny_Slice (bZ (G a o g H1 _ w z) λj n #[l,A,O,pl,y]=>bZ (C a n g A _ O y) λi f a=>?_);let(u,m,N,B,t):=a;rw[evalPart_none];show XN ?_;let M:Inv X a g m {f with heap:=f.heap.push {cls:=.type "slice",data:=.fields #v[j,i,.none]}}:=N.kept (t':=f.toks) λb ob q=>b4 _ q;let(T,id,L,E,J):=F a {f with heap:=f.heap.push {cls:=.type "slice",data:=.fields #v[j,i,.none]}} g m x v j i l u f.heap.objs.size Q M p (Heap.IsSliceOf.new ..) pl B t;show wpAny (model X.prog X.w) X.A (subscriptTail e (.Slice Z Y Ld R) v (.ref f.heap.objs.size)) (EP X a g Q) X.xe {f with heap:=f.heap.push {cls:=.type "slice",data:=.fields #v[j,i,.none]}};show tail_any (ops:=[.ref f.heap.objs.size,v]) E L J (by with_unfolding_all rfl)
def DF(xs:G V)(Z Y:z Int):G V:=(xs.drop (HT.sIx xs.length 0 Z)).take (HT.sIx xs.length xs.length Y - HT.sIx xs.length 0 Z)
def pO(xs:G V)(Z Y:z Int):(DF xs Z Y).length<=xs.length:=by ext DF;rw[YJ,acw];ext
def Tn(K:lD):V->z Int->z Int->Hp->VK->Prop:=λx Z Y H Q=>∃a xs,x=.ref a/\SqT K H a xs/\
 ¬(HT.sIx xs.length 0 Z=0/\HT.sIx xs.length xs.length Y=xs.length)/\∀p,H p=Ld->Q (.ref p) (bf H p (.tup (DF xs Z Y)))
def Qi:Ud X (Tn X.K):=by
 intro g s u H x v y w Z Y z Q I l p pl m h;let(a,xs,rfl,n,o,q):=h;ext l;let(t,r,j,i):=I.tuple n;let f:t.toArray.size=xs.length:=by rw[X4];show r.length.symm
 show#["tuple",_,Z5.lookup,j.typeIs,?_];show HT.getItem_tuple_cut j p pl m (by rw[f];show o) ?_ (by rw[f];show i);rw[f];show#[.ref s.heap.objs.size,_,I.laid (λb A q=>b4 _ q) (XO _) ?_,W,q _ (I.YX.fresh (XO _))];show#[Ys (pO xs Z Y) i,_,(r.drop (HT.sIx xs.length 0 Z)).take (HT.sIx xs.length xs.length Y - HT.sIx xs.length 0 Z),acs.new _ _]
def OE(K:lD):R2:=λx y H Q=>∃a b xs ys,x=.ref a/\y=.ref b/\SqT K H a xs/\SqT K H b ys/\xs≠[]/\xs.length+ys.length<=XY/\
 (ys=[]->Q (.ref a) H)/\(ys≠[]->∀p,H p=Ld->Q (.ref p) (bf H p (.tup (xs++ys))))
def Vals.adn(r:Vals xs us):us=[]↔xs=[]:=by
 cases r with
 |nil=>simp
 |cons _ _=>simp
def Kc:OpR X (Zf .Add) (OE X.K):=by intro i s B H x y v u Q I m l h;let(a,b,xs,C,rfl,rfl,J,t,r,j,o,n):=h;ext m;ext l;let(F,g,p,_):=I.tuple J;let(A,f,R,_):=I.tuple t;show HT.cat_tup p R (λz=>r (g.adn.mp z)) (λz=>#[.ref a,H,I,W,o (f.adn.mp z)]) (λz=>?_) (by rw[<-g.length,<-f.length];show j);show#[.ref s.heap.objs.size,_,I.laid (λb E q=>b4 _ q) (XO _) ?_,W,n (λw=>z (f.adn.mpr w)) _ (I.YX.fresh (XO _))];show#[by rw[XJ];show j,_,g.append f,acs.new _ _]
end
def JX(n:Nat)(i:Int):z Nat:=if 0<=i then(if i<n then M i.toNat else R)else if -(n:Int)<=i then M (i+n).toNat else R
def lJ(xs:G α)(i:Int):z α:=(JX xs.length i).bind λj=>xs[j]?
def LA(h:JX n i=M j):seqIndex? i n=M j/\j<n/\ -(n:Int)<=i/\i<n:=by
 unfold JX at h;by_cases b:0<=i
 .rw[ax b]at h
  by_cases a:i<n
  .rw[ax a]at h;let e:=X1 h;show#[by rw[seqIndex_of b a,e],by ext,by ext,a]
  .rw[aE a]at h;ext h
 .rw[aE b]at h
  by_cases a: -(n:Int)<=i
  .rw[ax a]at h;let e:=X1 h;show#[by rw[seqIndex_neg () a,e],by ext,a,by ext]
  .rw[aE a]at h;ext h
def v5(h:lJ xs i=M v):∃j,seqIndex? i xs.length=M j/\xs[j]?=M v/\j<xs.length/\ -(xs.length:Int)<=i/\i<xs.length:=by
 unfold lJ at h;cases e:JX xs.length i with
 |none=>rw[e]at h;ext h
 |some j=>rw[e]at h;let(g,f,b,a):=LA e;show#[j,g,h,f,b,a]
def Cs{j:Nat}(h:xs[j]?=M v):lJ xs (j:Int)=M v:=by
 let a:=(XB.mp h).1;let e:JX xs.length (j:Int)=M j:=by ext JX;rw[ax (),ax ()];simp
 ext lJ;rw[e];show h
def ny(xs:G α)(v:α):lJ (xs++[v]) (-1)=M v:=by
 let a:(xs++[v]).length=xs.length+1:=by simp
 let e:JX (xs++[v]).length (-1)=M xs.length:=by ext JX;rw[a,aE (),ax ()];congr 1;ext
 ext lJ;rw[e];simp
def Cz(b:Yc):Prop:=∀o i,subscripted b XF o i=operate [o,i] (getItem o i)
def IxR(X:Cx)(r:R2):Prop:=
 ∀(e a:Yc) (b:G (I×Obj)) (s:XI) (f:St) (H:Hp) (x y:V) (v u:U) (Q:VK),Inv X b f H s->RelV x v->RelV y u->r x y H Q->
  subscripted a XF v u=operate [v,u] (getItem v u)->wpAny (model X.prog X.w) X.A (subscriptTail e a v u) (EP X b f Q) X.xe s
def SZ(X:Cx)(id:String)(r:V->G V->Hp->VK->Prop):Prop:=
 ∀(a:G (I×Obj)) (s:XI) (b:St) (H:Hp) (x:V) (xs:G V) (v:U) (e:G U) (Q:VK),Inv X a b H s->RelV x v->Vals xs e->r x xs H Q->
  wpAny (model X.prog X.w) X.A (call (.builtin id) (v::e)) (EP X a b Q) X.xe s
section
variable{X:Cx}{a b:Yc}{ta tb:TE}{pos:Pos}
def IxR.or(h:IxR X r)(c:IxR X r'):IxR X (λx y H Q=>r x y H Q\/r' x y H Q):=by
 intro e f g s i H x y v u Q I l j q m;rcases q with q|q
 .show h e f g s i H x y v u Q I l j q m
 .show c e f g s i H x y v u Q I l j q m
def Oz{r:R2}(m:IxR X r)(c:PE X a ta)(n:PE X b tb)(l:Cz b):PE X (.Subscript a b pos) (JZ r ta tb):=by intro e s f H Q I h;show Subscript_ (P9 c n I h λv u g x y p o j i q=>m a b e g f p x y v u Q o j i q (l _ _))
def TV(K:lD):R2:=λx y H Q=>∃p xs i v,x=.ref p/\y=.int i/\SqL K H p xs/\lJ xs i=M v/\Q v H
def Uc(K:lD):R2:=λx y H Q=>∃p xs i v,x=.ref p/\y=.int i/\SqT K H p xs/\lJ xs i=M v/\Q v H
def Tk:R2:=λx y H Q=>∃z i c,x=.str z/\y=.int i/\z.length<=XY/\lJ z.cps.toList i=M c/\Q (.str #[#v[c]]) H
def Ny:IxR X (TV X.K):=by
 intro l m e s E H x y v u Q I G F h A;let(p,xs,i,z,rfl,rfl,J,M,q):=h;ext G;let(t,rfl):=F;let(R,r,pl,S):=I.list J;let(j,g,P,T,O,N):=v5 M;let(w,C,n):=r.get P;let L:=r.length;let K:=xa;let f:EP X e E Q w s:=#[z,H,I,n,q];by_cases B:0<=i
 .let o:i.toNat=j:=by
   rw[seqIndex_of B N]at g;show X1 g
  show item_listR pl.isList B () (by rw[o];simpa using C) f A
 .let o:(i+(R.toArray.size:Int)).toNat=j:=by
   rw[seqIndex_neg () O]at g;rw[X4,<-L];show X1 g
  show subscriptTail_builtinR pl.isList.typeIs ahK.lookup
   (wpAny_getItem_list_neg pl.isList () (by rw[X4]<;>ext) () (by rw[o];simpa using C) #[W,f]) A
def Sx:IxR X (Uc X.K):=by
 intro f g e s n H x y v u Q I A o h B;let(p,xs,i,z,rfl,rfl,C,F,q):=h;ext A;let(t,rfl):=o;let(R,r,pl,M):=I.tuple C;let(j,J,G,P,O,N):=v5 F;let(w,L,l):=r.get G;let E:=r.length;let K:=xa;let m:EP X e n Q w s:=#[z,H,I,l,q];show subscriptTail_builtinR pl.typeIs slot_tuple_getitem.lookup
  (getItem_tuple pl () () (by rw[X4,<-E];show J) (by simpa using L) #[W,m]) B
def SC:IxR X Tk:=by
 intro e f g s C H x y v u Q I n m h o;let(z,i,c,rfl,rfl,F,r,q):=h;let(t,rfl):=n;let(E,rfl):=m;let(j,l,B,G,A,w):=v5 r;let p:z.cps.toList.length=z.length:=by simp[Str.length]
 rw[p]at l A w;let J:=xa;show tail_any (typeIs_str s z t) slot_str_getitem.lookup (getItem_str (by let e1:decide (i< -(2^63:Int))=XF:=a5 ();let e2:decide (i≥2^63)=XF:=a5 ();rw[e1,e2,ag3]) (by rw[l];simpa using B) #[.str #[#v[c]],H,I.tok _,#[_,W],q]) o
def TU(K:lD):R2:=λx y H Q=>TV K x y H Q\/Uc K x y H Q\/Tk x y H Q
theorem G2:IxR X (TU X.K):=Ny.or (Sx.or SC)
def vn(lo c:z Int)(n:Nat):(sliceBounds lo c R n).1=((HT.sIx n 0 lo:Nat):Int)/\(sliceBounds lo c R n).2.1=((HT.sIx n n c:Nat):Int)/\(sliceBounds lo c R n).2.2=1:=by
 show#[?_,?_,W]
 .cases lo with
  |none=>simp[sliceBounds,HT.sIx]
  |some i=>
   simp only[sliceBounds,HT.sIx,ae9,show(1:Int)>0 by decide,if_true];by_cases h:i<0
   .simp only[h,if_true]<;>ext
   .simp only[h,if_false]<;>ext
 .cases c with
  |none=>simp[sliceBounds,HT.sIx]
  |some i=>
   simp only[sliceBounds,HT.sIx,ae9,show(1:Int)>0 by decide,if_true];by_cases h:i<0
   .simp only[h,if_true]<;>ext
   .simp only[h,if_false]<;>ext
def tY(e:G U)(lo c:z Int):slicePick e.toArray lo c R=((e.drop (HT.sIx e.length 0 lo)).take (HT.sIx e.length e.length c - HT.sIx e.length 0 lo)).toArray:=by let(h,g,f):=vn lo c e.toArray.size;ext slicePick;rw[h,g,f];simp only[sliceRange_one,pick_run,X4]<;>rfl
def Uu(K:lD):V->z Int->z Int->Hp->VK->Prop:=λx lo e H Q=>∃a xs,x=.ref a/\SqL K H a xs/\∀p,H p=R->Q (.ref p) (bf H p (.lst (DF xs lo e)))
def Nm:Ud X (Uu X.K):=by intro f s o H x v t p lo A u Q I i n pl j h;let(a,xs,rfl,m,q):=h;ext i;let(y,r,g,l):=I.list m;let e:=r.length;show#["list",_,ahK.lookup,g.isList.typeIs,?_];show wpAny_getItem_list_slice g.isList n pl j .none (by simp) ?_ (by rw[X4]<;>ext);rw[tY,<-e];show#[.ref s.heap.objs.size,_,I.laid (λb w q=>b4 _ q) (XO _) ?_,W,q _ (I.YX.fresh (XO _))];show#[Ys (pO xs lo A) l,_,0,(r.drop (HT.sIx xs.length 0 lo)).take (HT.sIx xs.length xs.length A - HT.sIx xs.length 0 lo),ck _ W]
def ZJ.or(h:ZJ X f r)(c:ZJ X f r'):ZJ X f (λxs H Q=>r xs H Q\/r' xs H Q):=by
 intro e s g H xs i Q I j q;rcases q with q|q
 .show h e s g H xs i Q I j q
 .show c e s g H xs i Q I j q
def vL:ZJ X (.type "list") (λxs H Q=>∃p ys,xs=[.ref p]/\(SqL X.K H p ys\/SqT X.K H p ys)/\∀l,H l=R->Q (.ref l) (bf H l (.lst ys))):=by
 intro m s F H xs J Q I r h;let(p,ys,rfl,y,q):=h;let(u,rfl,G):=jV r;ext G
 let A:∀(g:bg U),Vals ys g->ys.length<=XY->∀(f:Heap) (j:Nat),(∀b w,s.heap.get? b=M w->f.get? b=M w)->
   f.get? s.heap.objs.size=M {cls:=.type "list",dict:=R,data:=.seq g.toArray j,slots:= #v[]}->EP X m F Q (.ref s.heap.objs.size) {s with heap:=f}:=λg i v f j t e=>
  #[.ref s.heap.objs.size,_,I.laid t (XO _) (show ObjOk X.prog X.w _ f _ (.lst ys)from#[v,g,j,i,e]),W,q _ (I.YX.fresh (XO _))]
 rcases y with y|y
 .let(g,i,pl,v):=I.list y;let z:=i.length;let(o,B,E,n,C):=pl.isList;show amK p (.inl W) B E C (λf j t e=>A g i v f j t e) (by simp only[X4]<;>ext)
 .let(g,i,pl,v):=I.tuple y;let z:=i.length;let(o,B,E,n,C):=pl;show amK p (.inr W) B E C (λf j t e=>A g i v f j t e) (by simp only[X4]<;>ext)
def ui:ZJ X (.type "tuple") (λxs H Q=>∃p ys,xs=[.ref p]/\((SqL X.K H p ys/\∀l,H l=R->Q (.ref l) (bf H l (.tup ys)))\/(SqT X.K H p ys/\Q (.ref p) H))):=by
 intro i s B H xs C Q I r h;let(p,ys,rfl,h):=h;let(u,rfl,v):=jV r;ext v;rcases h with⟨g,q⟩|⟨g,q⟩
 .let(n,f,pl,j):=I.list g
  let m:=f.length;show call_tuple_list pl.isList (λz y=>?_) (by simp only[X4]<;>ext);let t:=I.kept (t':=s.toks) y
  let A:=
   t.laid (t':=s.toks) (λb o e=>b4 _ e) (XO _) (show ObjOk X.prog X.w _ _ _ (.tup ys)from#[j,n,f,acs.new _ _])
  show#[.ref z.objs.size,_,A,W,q _ (t.YX.fresh (XO _))]
 .let(n,f,pl,j):=I.tuple g;show call_tuple_same pl #[.ref p,H,I,W,q]
def Vv(K:lD)(T:String)(x:V)(H:Hp):Prop:=match x with
 |.str _=>T= "str"
 |.int _=>T= "int"
 |.ref p=>(T= "list"/\∃xs,SqL K H p xs)\/(T= "tuple"/\∃o,K.lookup p=M o/\o.cls=.type "tuple"/\o.dict=R)\/
   (T= "dict"/\((∃e,H p=M (.dK e))\/∃e,H p=M (.dT e)))\/(T= "set"/\∃S n,H p=M (.set S n))
 |_=>False
def G8(I:Inv X pins σ H s)(r:RelV x v)(ty:Vv X.K T x H):
  s.TypeIs v T/\∀a,v=.ref a->∃d,s.heap.get? a=M d/\d.dict=R:=by
 cases x with
 |str z=>let(t,rfl):=r;cases(show T= "str" from ty);show#[typeIs_str s z t,λ_ e=>nomatch e]
 |int i=>let(t,rfl):=r;cases(show T= "int" from ty);show#[acC s i t,λ_ e=>nomatch e]
 |ref p=>
  ext r;rcases ty with⟨rfl,xs,j⟩|⟨rfl,o,f,l,h⟩|⟨rfl,f⟩|⟨rfl,S,n,f⟩
  .let(m,_,pl,_):=I.list j;show#[pl.isList.typeIs,λa e=>?_];ext e;let(o,n,e,c,h,_):=pl;show#[o,e,h]
  .show#[#[o,I.kIn p o f,l],λa e=>?_];ext e;show#[o,I.kIn _ o f,h]
  .let z:∃o,s.heap.get? p=M o/\o.ExactDict:=by
    rcases f with⟨q,f⟩|⟨q,f⟩
    .let(_,_,_,_,o,_,_,e,g,_):=I.YX p _ f;show#[o,e,g]
    .let(_,_,_,_,o,_,_,e,g,_):=I.YX p _ f;show#[o,e,g]
   let(o,e,g):=z;show#[#[o,e,g.1],λa e2=>?_];ext e2;show#[o,e,g.2.1]
  .let(o,_,_,_,e,g,_):=I.YX p _ f;show#[#[o,e,g.1],λa e2=>?_];ext e2;show#[o,e,g.2.1]
 |_=>show False.elim ty
def EW(K:lD)(T:String)(r:V->G V->Hp->VK->Prop)(to:TE):TE:=λf H Q=>to f H λx e=>Vv K T x e/\r x [] e Q
def RZ(K:lD)(T:String)(r:V->G V->Hp->VK->Prop)(to:TE)(t:TA):TE:=λe H Q=>to e H λx f=>Vv K T x f/\t e f λxs g=>r x xs g Q
variable{o e:Yc}{es:bg Yc}{to:TE}{t:TA}{S:Str}{Z Y:Pos}{T U:String}{r:V->bg V->Hp->VK->Prop}
def Hq(c:PlainAttrs T)(slot:Slot T S U)(g:typeOf (.builtin U)=pure (.type "method_descriptor"))(hm:SZ X U r)(u:PE X o to)
  (j:attributeBase o S X.env (eval o X.env)=eval o X.env:=by rfl) (i:(Z.endLine==Y.line)=P:=by rfl):PE X (.Call (.Attribute o S Z) [] [] Y) (EW X.K T r to):=by
 intro f s l H Q I h;show wpAny_Call_method0_late j i (bZ (u f s l H _ I h) λv p a=>?_);let(x,z,n,m,ty,q):=a;let(y,w):=G8 n m ty;show#[T,U,c,slot,g,y,w,Calls.callWith_builtin W (PySem.evalArgs_none (hm f p l z x [] v [] Q n m .nil q))]
def OV(c:PlainAttrs T)(slot:Slot T S U)(i:typeOf (.builtin U)=pure (.type "method_descriptor"))(hm:SZ X U r)(F:PE X o to)(d:PA X (e::es) t)
  (n:attributeBase o S X.env (eval o X.env)=eval o X.env:=by rfl)
  (j:((backTo Y (X6 (e::es) X.env)).all (λx=> !x.1)&&(backToKw Y (keywordEach [] X.env)).all (λx=>x.1.isSome)
   &&decide ((e::es).length+([]:bg abk).length+(if([]:bg abk).isEmpty then 0 else 1)<30))=P:=by rfl)
  (l:(Z.endLine==Y.line)=P:=by rfl) (E:X6 (e::es) X.env=(XF,eval e X.env)::X6 es X.env:=by rfl) (m:(backTo Y (X6 es X.env)).any (·.1)=XF:=by rfl):
  PE X (.Call (.Attribute o S Z) (e::es) [] Y) (RZ X.K T r to t):=by
 intro f s g H Q I h;show wpAny_Call_method_late n j l W (bZ (F f s g H _ I h) λv z a=>?_);let(x,N,u,p,ty,C):=a;let(J,G):=G8 u p ty;show#[T,U,c,slot,i,J,G,?_];let q:=d Y f z g N _ u C;rw[E]at q⊢;show Calls.callWith_builtin (by show(XF||(backTo Y (X6 es X.env)).any (·.1))=XF;rw[m]<;>rfl) (Calls.evalArgs_plain ?_);show bZ q λw y #[O,K,L,A,B]=>hm f y g K x O v w Q L p A B
end
def Wx(X:Cx)(id:String)(r:V->G V->Hp->VK->Prop):Prop:=
 ∀(a:G (I×Obj)) (s:XI) (b:St) (H:Hp) (x:V) (xs:G V) (v:U) (e:G U) (Q:VK),Inv X a b H s->RelV x v->Vals xs e->r x xs H Q->
  wpAny (model X.prog X.w) X.A (call (.builtin id) (v::e)) (EP X a b Q) X.xe s
theorem Vals.one:∀{x:V} {us:G U},Vals [x] us->∃u,us=[u]/\RelV x u
 |_,_,.cons r .nil=>#[_,W,r]
theorem Vals.zero:∀{us:G U},Vals [] us->us=[]
 |_,.nil=>rfl
theorem Vals.rep(h:Vals xs us):∀k:Nat,Vals (XU k xs).flatten (XU k us).flatten
 |0=>.nil
 |k+1=>by rw[YS,YS,Zv,Zv];show Vals.append h (Vals.rep h k)
theorem oO(a:G U):∀(k:Nat) (acc:G U),
  abl (λc b=>c++b) acc.toArray (XU k a.toArray)=(acc++(XU k a).flatten).toArray
 |0,acc=>by simp
 |k+1,acc=>by
  let e:acc.toArray++a.toArray=(acc++a).toArray:=by simp
  let e2:(acc++a)++(XU k a).flatten=acc++(XU (k+1) a).flatten:=by rw[YS,Zv,Yb]
  rw[<-e2,<-oO a k (acc++a),<-e,YS,abp]
section
variable{X:Cx}{Z:bg (XH×Obj)}{Y:St}{H:Hp}{s:XI}{l b:XH}{T U S:bg V}
def Inv.aiZ{g a:G Xx}(I:Inv X Z Y H s)(o:H l=M (.lst T))
  (e:s.heap.get? l=M {cls:=.type "list",data:=.seq g.toArray n}) (j:f g.toArray=a.toArray) (h:Vals U a) (c:U.length<=XY):
  Inv X Z Y (bf H l (.lst U)) {s with heap:=s.heap.update l (Obj.mapSeq f),toks:=t'}:=by
 let q:=aoH e f;rw[j]at q;show I.write (by rw[o];show trivial) (.inl W) (λp u m i=>(cn s.heap (Obj.mapSeq f) (dN m)).trans i) #[_,q] ?_;show#[c,a,_,h,q]
theorem Inv.ajm(I:Inv X Z Y H s)(a:Vals U Yz)(c:U.length<=XY):
  Inv X Z Y (bf H s.heap.objs.size (.lst U)) {s with heap:=s.heap.push {cls:=.type "list",data:=.seq Yz.toArray},toks:=t'}:=
 I.laid (λ_ _ q=>b4 _ q) (XO _) #[c,Yz,0,a,ck _ W]
theorem Inv.fresh(I:Inv X Z Y H s):H s.heap.objs.size=R:=I.YX.fresh (XO _)
def Inv.ahm(I:Inv X Z Y H s)(f:H l=M (.lst T)):T.length<=XY/\∃(a:G Xx) (n:Nat),Vals T a/\T.length=a.length/\s.heap.get? l=M {cls:=.type "list",data:=.seq a.toArray n}:=by let(z,a,n,r,e):=I.YX l _ f;show#[z,a,n,r,r.length,e]
def Jy(h:n<=XY):Yw.List.listTooLong n=XF:=by ext Yw.List.listTooLong;show a5 ()
end
section
variable{X:Cx}
def wq:V->G V->Hp->VK->Prop:=λx a H Q=>∃l xs y,x=.ref l/\a=[y]/\H l=M (.lst xs)/\xs.length<XY/\Q .Zw (bf H l (.lst (xs++[y])))
def oW:Wx X "list.append" wq:=by intro a s j H x w v m Q I f t h;let(l,xs,y,rfl,rfl,b,o,q):=h;ext f;let(u,rfl,g):=t.one;let(z,i,n,r,p,e):=I.ahm b;show aaD F.slot_list_append #[_,e,W] F.entry_list_append (F.args_list_append_2 _ _) (PySem.list_append l i.toArray n u (by rw[X4];ext)) #[e,?_];show#[.Zw,_,I.aiZ b e (by simp) (r.append (.cons g .nil)) ?_,W,q];rw[XJ,aby];ext
def EG:V->G V->Hp->VK->Prop:=λx a H Q=>∃l xs,x=.ref l/\a=[]/\H l=M (.lst xs)/\Q .Zw (bf H l (.lst []))
def GJ:Wx X "list.clear" EG:=by intro b s j H x t v m Q I g p h;let(l,xs,rfl,rfl,f,q):=h;ext g;let a:=p.zero;subst a;let(z,i,n,r,o,e):=I.ahm f;show aaD F.slot_list_clear #[_,e,W] F.entry_list_clear (F.args_list_clear_1 _) (AutoSeq1.list_clear_list_0 l i.toArray n (by rw[X4];ext)) #[e,?_];show#[.Zw,_,I.aiZ f e W .nil (YC _),W,q]
def BV(xs:G α)(k:Nat):(XU k xs).flatten.length=k*xs.length:=by
 induction k with
 |zero=>simp
 |succ k a=>rw[YS,Zv,XJ,a,aio,aaH]
end
section
variable{Z:Ya}{w:Yq}{A:Ym}{E:Xx->XI->Prop}{s:XI}
set_option maxRecDepth 100000 in
end
end L2
namespace Att
open PySem PySem.W PySem.Calls PyProof.Rows
def qu:∀(ns:G Int) (c:G U),WellAll f h c (ns.map WData.int)->IntsAre c ns:=by
 intro ns
 induction ns with
 |nil=>intro c w;rw[ZW]at w;ext w;show .nil
 |cons n ns e=>
  intro c w;rw[X5]at w;cases w with
  |cons a b=>ext a;show .cons _ _ (e _ b)
def DY{l:OpenLaw}(k:l.most=M n)
  (e:l.row.toRowW.claim.pre args=XA) (i:WellAll A h vals args):
  ∃a c ns,vals=[Xx.ref a]/\args=[WData.list (ns.map WData.int)]/\h.get? a=M {cls:=.type "list",data:=.seq c.toArray}/\IntsAre c ns/\ns.length<=n:=by
 let j:=(pre_splitW e).1;let o:l.pre.holds [] {args:=args}=XA:=(pre_splitW e).2;let(d,r,rfl,z,y):=hasAllW_cons j;obtain rfl:=hasAllW_nil y;let(xs,rfl,w):=hasW_list z;let(ns,rfl):=items_int w;let b:ns.length<=n:=by
  unfold OpenLaw.pre at o;let g:(WTm.not (.lt (.lit (.int (n:Int))) (.len (.arg 0)))).holds [] {args:=[.list (ns.map .int)]}=XA:=by let g:=(holds_andW o).1;rw[k]at g;show g
  let f:=condW_of g (w_not (w_lt w_lit (w_len_list (w_arg W))));rw[Xz]at f;show Nat.le_of_not_lt λq=>?_;let u:(n:Int)<((ns.length:Nat):Int):=by ext
  first
   |(rw[a4 u]at f;show a7 f ())
   |(simp at f;ext)
 cases i with
 |cons t p=>
  ext p;cases t with
  |list v m=>show#[_,_,ns,W,W,v,qu ns _ m,b]
theorem Dl(l:OpenLaw)(args:G WData):l.row.toRowW.claim.post args (.bool P) args=P:=
 postW_of
  (show WShape.has [] (.bool P) .bool=P by first|rfl|decide|simp[WShape.has,WShape.arms,WShape.armsAll])
  (show(WTm.eq .res (.lit (.bool P))).value [] {args:=args,res:=M (.bool P),after:=args}=M (.bool (P==P))from w_eq_bool (w_res W) w_lit) W
def attach_call{l:OpenLaw}{n:Nat}{q:Ya}{e:bg Str}{H:(Str->b3 U)->Heap->Prop}{F:Yq->Heap->Prop}{d:DefRec}
  (T:l.most=cL n) (v:d.params.defaults=[])
  (call:∀(w:Yq) (c b:XI) (D p:Str->b3 U) (s:XH) (o:Obj) (m j h:U) (a:XH) (k:bg U) (ns:bg Int),
   Ground q e [] H w c D p b.heap->F w b.heap->
   b.heap.get? s=cL o->o.data=.func (docDef d.name d.params d.body d.scope m j h)->b.heap.CodeRec j d.name->D d.name=cL (.ref s)->
   b.heap.get? a=cL {cls:=.type "list",data:=.seq k.toArray}->IntsAre k ns->ns.length<=n->b.gens= #v[]->
   codeAny (model l.prog w) callerA (.call (.ref s) #[[.ref a],[]]) (λr x=>r=.ok (.ret (.bool XA))/\OldK b.heap x.heap/\x.os=b.os/\AllBare x.gens) b):
  WalkO q e H F l.row.toRowW d [] (λf k=>aip f k):=by
 intro w c b D p G Y s o m j h R kV K N y C u M E B as A S I t L;obtain rfl:R=.none:=Dflts.none C v;obtain rfl:kV=.none:=Dflts.noKw C;let(a,k,ns,rfl,rfl,z,g,i):=DY T A t;show enter_call (abL (call w c b D p s o m j h a k ns G Y K (fd_plain N) y u z g i M) λr x J=>?_);let(rfl,Q,P,O):=J;show#[.inl #[.bool XA,.bool XA,[],W,λ_=>W,.bool XA,Dl l _,λ_=>#[abq,λ_ hm=>(nomatch hm)]],Q,P,O]
end Att
namespace L2
open PySem PySem.Spec PyProof.Rows
theorem jq:∀{a:G U} {ns:G Int},IntsAre a ns->Vals (ns.map V.int) a
 |_,_,.nil=>.nil
 |_,_,.cons n t h=>.cons #[t,W] (jq h)
def UD(H:Hp):Prop:=∀b,H b=R\/∃o xs,H b=M (.frz o (.lst xs))
def Ji{P:Ya}{w:Yq}{K:lD}{mg C:Str->b3 Xx}{U:wB}{k:Nat}{fa a:XH}{fd:YN}{x:Str}{sp:Sp}{f:XI}{D:bg Xx}{ns:bg Int}
  (T:K.In f.heap) (p:f.heap.Ns X8 mg) (g:f.heap.Ns builtinsNs C) (G:∀x:Str,x≠ "__name__"->C x=YI x) (N:f.heap.NoLimit) (hg:f.gens= #v[])
  (ha:f.heap.get? a=cL {cls:=.type "list",data:=.seq D.toArray}) (hi:IntsAre D ns) (Q:ns.length<=XY) (hr:Zp k callerA)
  (F:∀base:Heap,K.In base->base.Ns X8 mg->FnOk P w K mg base U k fa fd [x] sp) (O:∀(s:XI) (u:Xx),abJ s fd #[[u],[]] [(x,u)])
  (E:∀H:Hp,UD H->SqL K H a (ns.map V.int)->sp [.ref a] H (λv _=>v=.bl XA) λ_ _ _=>False)
  (I:∀H e c,U [] H f (λ_ _ _=>False) e c->False):
  codeAny (model P w) callerA (.call (.ref fa) #[[.ref a],[]]) (λr c=>r=.ok (.ret (.bool XA))/\OldK f.heap c.heap/\c.os=f.os/\AllBare c.gens) f:=by
 let rv:=jq hi;let L:=hi.length
 let j:∀H:Hp,UD H->SqL K H a (ns.map V.int)->HOk P w H f.heap->(∀b,H b≠Ld->b=a)->(H a≠Ld->K.lookup a=Ld)->
   codeAny (model P w) callerA (.call (.ref fa) #[[.ref a],[]]) (λr c=>r=.ok (.ret (.bool XA))/\OldK f.heap c.heap/\c.os=f.os/\AllBare c.gens) f:=by
  intro H R hS YX S hK;let fF:∀{b:XH} {o:Obj},f.heap.get? b=cL o->H b=Ld->(wz f.heap H).get? b=cL o:=λe n=>IL e n;let B:∀{b:XH} {o:Obj} {es:Array aao} {y:Nat},f.heap.get? b=cL o->o.data=.dict es y->H b=Ld:=λ{b o es y} e d=>by
   cases q:H b with
   |none=>rfl
   |some u=>let J:b=a:=S b (by rw[q];simp);subst J;rw[ha]at e;ext e;let d':Data.seq D.toArray _=Data.dict es y:=d;ext d'
  let i:∀{b:XH} {m:Str->b3 Xx},f.heap.Ns b m->(wz f.heap H).Ns b m:=λ{b m} #[o,es,y,e,d,r]=>#[o,es,y,fF e (B e d),d,r];let t:K.In (wz f.heap H):=λb o e=>fF (T b o e) (by
   cases q:H b with
   |none=>rfl
   |some u=>let J:b=a:=S b (by rw[q];simp);subst J;rw[hK (by rw[q];simp)]at e;ext e)
  let hM:Mod K mg (wz f.heap H):=#[t,i p,#[C,i g,G],let#[mc,h1,h2]:=N;#[mc,i h1,h2]];let e0:Env0 P w K mg (wz f.heap H) callerA [] f H:=#[W,hM,λb o e=>MZ e,ZZ (DC _ _),trivial,λb g=>a7 (show b∈([]:bg XH)from g) (by simp),YX,.of_eq hg];show abL ((F _ t (i p)).run callerA [] f H #[[.ref a],[]] [.ref a] [.ref a] _ _ hr e0 (O f (.ref a)) (.cons W .nil) (E H R hS)) λr c h=>?_;cases r with
  |error e=>show(I H e c h).elim
  |ok fl=>
   cases fl with
   |next=>show False.elim h
   |brk=>show False.elim h
   |cont=>show False.elim h
   |ret u=>
    let(v,H',os,A,un,M,Y,q):=h;let Z:v=.bl XA:=q;subst Z;obtain rfl:u=Xx.bool XA:=Y;show#[W,OldK.of_keep λb o e=>?_,os,A];cases q:H b with
    |none=>show un.keep b o e q (by intro z;show a7 (show b∈([]:bg XH)from z) (by simp)) (by simp)
    |some u=>
     rcases R b with z|⟨ob,xs,z⟩
     .rw[q]at z;ext z
     .let X:=un.acu b ob _ z;let(e1,_):=YX b _ z;let(e2,_):=M b _ X;rw[e]at e1;ext e1;show e2
 cases hk:K.lookup a with
 |some o=>let e:=T a o hk;rw[ha]at e;ext e;show j (λ_=>Ld) (λ_=>.inl W) (.inr #[_,D.toArray,_,hk,W,W,W,by rw[X4,L];show Q,by simpa using rv]) (λb u z=>by let l:(Ld:b3 HO)=cL u:=z;ext l) (λb z=>a7 W z) λz=>a7 W z
 |none=>
  show j (λb=>if b=a then cL (.frz {cls:=.type "list",data:=.seq D.toArray} (.lst (ns.map V.int)))else Ld) (λb=>?_) (.inl (.inr #[{cls:=.type "list",data:=.seq D.toArray},ax W])) (λb u z=>?_) (λb z=>?_) λ_=>hk
  .by_cases g:b=a
   .show .inr #[_,_,ax g]
   .show .inl (aE g)
  .by_cases g:b=a
   .let l:=(ax g).symm.trans z;ext l;subst g;show#[ha,by rw[Xz];show Q,D,_,rv,ha]
   .let l:=(aE g).symm.trans z;ext l
  .by_cases g:b=a
   .show g
   .show a7 (aE g) z
def aO(s:Zn)(j:Nat):Zn:=match s with
 |.ClassDef _ _ _ body _ _ _ _ _ _ _=>body.getD j (.Pass #[0,0,0,0])
 |_=>.Pass #[0,0,0,0]
def fJ(s:Zn):Arguments:=match s with
 |.FunctionDef _ a _ _ _ _ _ _ _ _=>a
 |_=>{posonlyargs:=[],args:=[],vararg:=R,kwonlyargs:=[],kw_defaults:=[],kwarg:=R,defaults:=[]}
def bW(s:Zn):G Zn:=match s with
 |.FunctionDef _ _ b _ _ _ _ _ _ _=>b
 |_=>[]
def av(s:Zn):Zj:=match s with
 |.FunctionDef _ _ _ _ _ _ sc _ _ _=>sc
 |_=>{kind:=.function,names:=[],isGenerator:=XF,isCoroutine:=XF}
abbrev lK:wB:=λ_ _ _ _ _ _=>False
abbrev E0:XK:=λ_ _ _=>False
theorem GM:dL lK X E0:=λ_ _ _ _ _ _ _ h=>h.elim
structure Fun(K:lD)(x qual:Str)(st:Zn)(f:I)(fd:YN):Prop where
 ex:∃(oc:U) (od:z I) (kV doc pm:U) (an:z I) (Zo ct:U) (osl:Array (z U)),
  fd=Y4 x qual (fJ st) (bW st) (av st) .none kV doc pm an Zo ct/\K.lookup f=M #[oc,od,.func fd,osl]/\aaC K Zo qual=P
 kp:Zb K (.ref f)=P
section
variable{P:Ya}{w:Yq}{K:lD}{Z:Str->b3 Xx}{base:Heap}
def Fun.ok{x a:Str}{b:Zn}{f:I}{fd:YN}{N d:G Str}{k:Nat}{sp:Sp}(F:Fun K x a b f fd)(S:ZF N d (av b))(len:∀c H Q E,sp c H Q E->c.length=d.length)
  (j:∀(e:U) (A:Ym) (outer:G Env) (s:XI) (H:Hp) (c:G V) (Q:VK) (E:XK),Zp k (A.deeper (envOfC a (av b) s.heap.objs.size f e))->sp c H Q E->
   ∃t,PSs (eO lK P w K Z base N a (av b) f e A outer s H E).nox (bW b) t/\t {nx:=λ_ y=>Q .Zw y,rt:=Q} (start N c) H):FnOk P w K Z base lK (k+1) f fd d sp:=by
 let(u,r,kV,o,p,v,e,ct,l,rfl,m,i):=F.ex;show Iw m i S len λA outer s H c Q E n g=>?_;let(t,h,q):=j e A outer s H c Q E n g;show#[t,h.nox,q]
def Fun.binds{x a:Str}{e:Zn}{f:I}{fd:YN}{ps:G Str}(F:Fun K x a e f fd)
  (h:∀(kV b g:U) (i:z I) (j ct:U) (us:G U),us.length=ps.length->bindArgs (Y4 x a (fJ e) (bW e) (av e) .none kV b g i j ct) #[us,[]]=pure (ps.zip us)):Binds K fd ps []:=by
 let(o,n,kV,b,g,i,j,ct,l,rfl,p,m):=F.ex;show .all (h kV b g i j ct)
theorem JM{a:Zn}{kV b g e ct:U}(l:K.lookup f=M #[J,C,.func (Y4 x qual (fJ a) (bW a) (av a) .none kV b g an e ct),o])
  (c:aaC K e qual=XA) (k:Zb K (.ref f)=XA):Fun K x qual a f (Y4 x qual (fJ a) (bW a) (av a) .none kV b g an e ct):=#[#[J,C,kV,b,g,an,e,ct,o,W,l,c],k]
end
theorem ER(a:Zp k A):A.units+1<cLine:=aca (Nat.add_le_add_left (by decide:1<=64) _) a.units
section
variable{X:Cx}
theorem pv(i:Nat)(e:X.N[i]?=M x:=by rfl)(b:Vi X.env.scope x:=by first|show Or.inl W|show Or.inr (Or.inl W)|show Or.inr (Or.inr W))(hd:(x==("__debug__":Str))=XF:=by decide)
  (a:(x==("__classdict__":Str))=XF:=by decide):PE X (.Name x pos) (qE i):=Jq e b hd a
end
def Zi(H a:Hp):Prop:=∀b o,H b=M o->a b=M o
theorem Zi.refl(H:Hp):Zi H H:=λ_ _ h=>h
theorem Zi.trans(a:Zi H H1)(b:Zi H1 H2):Zi H H2:=λc o h=>b c o (a c o h)
def Zi.free(e:Zi H H')(h:H' l=R):H l=R:=by
 cases q:H l with
 |none=>rfl
 |some o=>rw[e l o q]at h;ext h
end L2
set_option maxHeartbeats 4000000
namespace L2
open PySem PySem.Spec PyProof.Rows
section
variable{X:Cx}{Z:bg (XH×Obj)}{T:St}{H:Hp}{s:XI}{Y:Heap}
def Inv.aev{ch:G XH}(I:Inv X Z T H s)(i:∀b∈ch,oV X Z H b)
  (k:∀b u,b∉ch->s.heap.get? b=M u->Y.get? b=M u) (l:s.heap.objs.size<=p)
  (new:ObjOk X.prog X.w (bf H p o) Y p o):Inv X Z T (bf H p o) {s with heap:=Y,toks:=t'}:=by
 let w:=I.YX.fresh l;let f:∀b u,H b=M u->b∉ch:=λb u e z=>by rw[(i b z).1]at e;ext e
 let h:∀b u,s.heap.get? b=M u->b≠p:=λb u e=>Ye (Yd (cj e) l);show I.step (λb g=>?_) (λb u _ _ a e _=>k b u a e) (λb u _ _ a e _=>#[u.slots,k b u a e])
  (λb u _ e n=>by rw[az (h b u e)];show n) (λb u a e=>#[u,k b u a e]) (λb xs e=>by rw[az (bA e w)];show e)
  (λb u xs e=>by rw[az (bA e w)];show e) (λb J e=>#[#v[],by rw[az (bA e w),e];simp]) (λm hm=>?_) (λb u e=>?_) I.bare
 .let(_,C,_,B,A,y):=i b g;show#[B,C,A,y]
 .let(j,es,E,t,r):=hm;show#[j,es,E,k _ j (λz=>(i _ z).2.1 W) t,r]
 .by_cases g:b=p
  .subst g;rw[aI]at e;ext e;show new
  .rw[az g]at e
   show(I.YX b u e).aa2 (λc v a q=>k c v ?_ q) (λc q=>by rw[az (bA q w)];show q) λc xs q=>by rw[az (bA q w)];show q
   rcases a with z|z
   .rw[z];show f b u e
   .show f c _ z
end
mutual
inductive DV(K:lD)(H:Hp):V->XG->Prop
 |Zw:DV K H .Zw .none
 |bl (b:Bool):DV K H (.bl b) (.bool b)
 |int (i:Int):DV K H (.int i) (.int i)
 |str (x:Str):DV K H (.str x) (.str x)
 |tup {a:XH} {xs:bg V} {ds:bg XG}:SqT K H a xs->Zc K H xs ds->DV K H (.ref a) (.tuple ds)
 |lst {a:XH} {xs:bg V} {ds:bg XG}:SqL K H a xs->Zc K H xs ds->DV K H (.ref a) (.list ds)
inductive Zc(K:lD)(H:Hp):bg V->bg XG->Prop
 |nil:Zc K H [] []
 |cons {v:V} {vs:bg V} {d:XG} {ds:bg XG}:DV K H v d->Zc K H vs ds->Zc K H (v::vs) (d::ds)
end
section
variable{X:Cx}{Z:bg (XH×Obj)}{σ:St}{H:Hp}{s:XI}
mutual
theorem DV.reads(I:Inv X Z σ H s):∀{v:V} {d:XG} {u:Xx},DV X.K H v d->RelV v u->∃as,aec s.heap u d as
 |_,_,_,.Zw,r=>by cases r;exact⟨_,.none⟩
 |_,_,_,.bl b,r=>by cases r;exact⟨_,.bool b⟩
 |_,_,_,.int i,r=>by obtain⟨t,rfl⟩:=r;exact⟨_,.int i t⟩
 |_,_,_,.str x,r=>by obtain⟨t,rfl⟩:=r;exact⟨_,.str x t⟩
 |_,_,_,.tup h hs,r=>by cases r;obtain⟨a,rv,⟨o,e,c,n,d⟩,_⟩:=I.tuple h;obtain⟨as,q⟩:=Zc.reads I hs rv;exact⟨_,.tuple e c d (by simpa using q)⟩
 |_,_,_,.lst h hs,r=>by cases r;obtain⟨a,rv,⟨o,n,e,c,_,d⟩,_⟩:=I.list h;obtain⟨as,q⟩:=Zc.reads I hs rv;exact⟨_,.list e c d (by simpa using q)⟩
theorem Zc.reads(I:Inv X Z σ H s):∀{vs:bg V} {ds:bg XG} {us:bg Xx},Zc X.K H vs ds->Vals vs us->∃as,acb s.heap us ds as
 |_,_,_,.nil,r=>by cases r;exact⟨_,.nil⟩
 |_,_,_,.cons h hs,r=>by
  cases r with
  |cons b a=>obtain⟨as,q⟩:=DV.reads I h b;obtain⟨bs,e⟩:=Zc.reads I hs a;exact⟨_,.cons q e⟩
end
end
def NV(K:lD)(neg:Bool):R2:=λx y H Q=>∃a b,DV K H x a/\DV K H y b/\a.canLay0=P/\b.canLay0=P/\a.depth<=64/\Q (.bl (if neg then !XG.eqv a b else XG.eqv a b)) H
section
variable{X:Cx}
def Rs(o:X.A.units+64<cLine):OpR X (Zk .Eq) (NV X.K XF):=by intro a s n H x y v u Q I e b h;let(t,r,m,l,j,i,p,q):=h;let(as,g):=m.reads I e;let(bs,f):=l.reads I b;show akB g f j i () #[.bl _,H,I,W,q]
def Rj(o:X.A.units+64<cLine):OpR X (Zk .NotEq) (NV X.K P):=by intro a s n H x y v u Q I e b h;let(t,r,m,l,j,i,p,q):=h;let(as,g):=m.reads I e;let(bs,f):=l.reads I b;show akC g f j i () #[.bl _,H,I,W,q]
theorem IT:OpR X (Zf .FloorDiv) (rI (λ_ j=>0<j/\j.natAbs.log2<9000) λi j=>.int (i/j)):=Th λi j _ _ _ _ _ a q=>by let b:(0:Int)<j:=a.1;show floordiv_int () (by rw[ac9 i ()];show q) (.inl (PyProof.noPylong_of_log2 a.2))
end
def gM(env:Env):G (Str×X7)->G (Str×I)->G (Str×I)
 |[],acc=>acc
 |(n,k)::r,acc=>if(k==X7.free)=P then(match env.cells.lookup n with|some c=>gM env r ((n,c)::acc)|none=>gM env r acc)else gM env r acc
theorem mI{f:Str×X7->G (Str×I)->Sem (ForInStep (G (Str×I)))}
  (g:∀n k acc,(k==X7.free)=XF->f (n,k) acc=pure (.yield acc)) (b:∀n c acc,env.cells.lookup n=M c->f (n,.free) acc=pure (.yield ((n,c)::acc))):
  ∀(names:G (Str×X7)) (acc:G (Str×I)),(∀y∈names,y.2=.free->∃c,env.cells.lookup y.1=M c)->forIn names acc f=pure (gM env names acc)
 |[],acc,_=>rfl
 |(n,k)::r,acc,h=>by
  let i:=λy l=>h y (XX _ l);rw[abr];cases m:(k==X7.free)with
  |false=>rw[g n k acc m,pure_bind];show forIn r acc f=_;rw[mI g b r acc i];simp only[gM,m,Z9,if_false]
  |true=>
   let e:k=.free:=by simpa using m
   subst e;let(c,j):=h _ X0 W;rw[b n c acc j,pure_bind];show forIn r ((n,c)::acc) f=_;rw[mI g b r _ i];let a:=j;simp only[gM,m,if_true,a]
def mj(h:∀y∈scope.names,y.2=.free->∃c,env.cells.lookup y.1=M c):closureFor scope env=pure (gM env scope.names []):=by simp only[closureFor];rw[mI (λn k a b=>by simp only[b,Z9,if_false]) (λn c a e=>by simp only[eg,if_true,cellOf,e,pure_bind]) scope.names [] h,pure_bind]
theorem kr:∀(names:G (Str×X7)) (acc:G (Str×I)),(∀x c,acc.lookup x=M c->env.cells.lookup x=M c)->∀x c,(gM env names acc).lookup x=M c->env.cells.lookup x=M c
 |[],_,h,x,c,e=>h x c e
 |(n,k)::r,acc,h,x,c,e=>by
  unfold gM at e;split at e
  .split at e
   .rename_i f a
    show kr r _ (λy d q=>?_) x c e;rw[Yx]at q;split at q
    .rename_i b;ext q;rw[eq_of_beq b];show a
    .show h y d q
   .show kr r acc h x c e
  .show kr r acc h x c e
theorem kY:∀(names:G (Str×X7)) (acc:G (Str×I)) (x:Str),(acc.lookup x).isSome=P->((gM env names acc).lookup x).isSome=P
 |[],_,_,h=>h
 |(n,k)::r,acc,x,h=>by
  ext gM;split
  .split
   .show kY r _ x ?_
    rw[Yx];split
    .rfl
    .show h
   .show kY r acc x h
  .show kY r acc x h
theorem nI:∀(names:G (Str×X7)) (acc:G (Str×I)) (x:Str) (c:I),(x,X7.free)∈names->env.cells.lookup x=M c->((gM env names acc).lookup x).isSome=P
 |[],_,_,_,h,_=>by ext h
 |(n,k)::r,acc,x,c,h,a=>by
  rcases Yi.mp h with z|h
  .ext z;simp only[gM,eg,if_true,a];show kY r _ _ (by simp[Yx])
  .ext gM
   split
   .split
    .show nI r _ x c h a
    .show nI r acc x c h a
   .show nI r acc x c h a
def xB(h:(x,X7.free)∈names)(a:env.cells.lookup x=M c):(gM env names []).lookup x=M c:=by
 let q:=nI names [] x c h a;cases e:(gM env names []).lookup x with
 |none=>rw[e]at q;ext q
 |some d=>let z:=kr names [] (λy d q=>by ext q) x d e;rw[a]at z;show z.symm
def yo{env:Env}{a:Zj}{x:Str}{k:X7}(h:(relabel a env).names.lookup x=M k):∃c,(x,c)∈a.names/\(k=c\/(c=.free/\k=.cell)):=by
 let((n,c),hm,e):=Yr.mp (Zg h);simp only at e;split at e
 .rename_i b
  ext e;let f:(c==X7.free)=P:=by rw[Xy,Xy]at b;show b.1.1
  show#[c,hm,.inr #[by simpa using f,W]]
 .ext e;show#[_,hm,.inl W]
theorem jQ{env:Env}:∀{names:G (Str×X7)} {x:Str},names.lookup x=M .free->
  (names.map λ(n,k)=>if(k==X7.free&&env.scope.kind==.function&&env.kindOf n==M .cell)then(n,X7.cell)else(n,k)).lookup x=M .cell\/
  (names.map λ(n,k)=>if(k==X7.free&&env.scope.kind==.function&&env.kindOf n==M .cell)then(n,X7.cell)else(n,k)).lookup x=M .free
 |[],_,h=>by ext h
 |(n,k)::r,x,h=>by
  rw[Yx]at h;rw[X5];dsimp only;by_cases a:(k==X7.free&&env.scope.kind==.function&&env.kindOf n==M .cell)=P
  .rw[ax a,Yx]
   cases b:x==n with
   |true=>show .inl W
   |false=>rw[b]at h;show jQ h
  .rw[aE a,Yx]
   cases b:x==n with
   |true=>rw[b]at h;show .inr h
   |false=>rw[b]at h;show jQ h
def cH(own:G Str)(a:G (Str×Nat)):G Str:=own++a.map (·.1)
def i7(own:G Str)(b:G (Str×Nat))(a:St):St:=own.map (λ_=>R)++b.map λp=>(a[p.2]?).join
def ac0(X:Cx)(a:Zj):G (Str×Nat)->Prop
 |[]=>True
 |p::r=>(X.N[p.2]?=M p.1/\a.names.lookup p.1=M .free/\(X.env.scope.names.lookup p.1=M .cell\/X.env.scope.names.lookup p.1=M .free))/\ac0 X a r
theorem ac0.mem:∀{b:G (Str×Nat)},ac0 X scope b->∀p∈b,X.N[p.2]?=M p.1/\scope.names.lookup p.1=M .free/\(X.env.scope.names.lookup p.1=M .cell\/X.env.scope.names.lookup p.1=M .free)
 |[],_,p,a=>by ext a
 |q::r,h,p,a=>by
  rcases Yi.mp a with z|a
  .rw[z];show h.1
  .show h.2.mem p a
def vi(X:Cx)(a:Zj)(C:I):G (Str×I):=Zr (C+1) a.names (gM X.env a.names [])
theorem tO:∀(names:G (Str×X7)) (n:Nat) (acc:G (Str×I)) (x:Str) (c:I),(Zr n names acc).lookup x=M c->(n<=c/\(x,X7.cell)∈names)\/acc.lookup x=M c
 |[],_,_,_,_,h=>.inr h
 |(y,k)::r,n,acc,x,c,h=>by
  unfold Zr at h;by_cases b:(k==X7.cell)=P
  .rw[ax b]at h
   let e:k=.cell:=by simpa using b
   rcases tO r _ _ x c h with⟨a,f⟩|a
   .show .inl #[aa4 a,XX _ f]
   .rw[Yx]at a
    split at a
    .rename_i g;ext a;show .inl #[XO _,by rw[eq_of_beq g,e];show X0]
    .show .inr a
  .rw[aE b]at h
   rcases tO r _ _ x c h with⟨a,f⟩|a
   .show .inl #[a,XX _ f]
   .show .inr a
theorem HQ:∀(names:G (Str×X7)) (n:Nat) (acc:G (Str×I)) (x:Str),(x,X7.cell)∉names->(Zr n names acc).lookup x=acc.lookup x
 |[],_,_,_,_=>rfl
 |(y,k)::r,n,acc,x,h=>by
  let b:=λz=>h (XX _ z);ext Zr;by_cases a:(k==X7.cell)=P
  .let e:k=.cell:=by simpa using a
   rw[ax a,HQ r _ _ x b,Yx];let f:(x==y)=XF:=by show beq_eq_false_iff_ne.mpr λz=>h ?_;rw[z,e];show X0
   rw[f]
  .rw[aE a];show HQ r _ _ x b
theorem rK:∀(names:G (Str×X7)) (h:Heap) (acc:G (Str×I)) (x:Str) (c:I),(Zr h.objs.size names acc).lookup x=M c->(h.objs.size<=c/\(pushCells h names).IsCell c R)\/acc.lookup x=M c
 |[],_,_,_,_,e=>.inr e
 |(y,k)::r,h,acc,x,c,e=>by
  unfold Zr at e;ext pushCells;by_cases b:(k==X7.cell)=P
  .rw[ax b]at e⊢
   rw[<-cN h {cls:=.type "cell",data:=.cell R}]at e;rcases rK r _ _ x c e with⟨a,f⟩|a
   .rw[cN]at a;show .inl #[aa4 a,f]
   .rw[Yx]at a
    split at a
    .ext a;show .inl #[XO _,_,adI _ _ _ _ (ck _ W),W]
    .show .inr a
  .rw[aE b]at e⊢;show rK r _ _ x c e
theorem AD:∀(names:G (Str×X7)) (n:Nat) (acc:G (Str×I)),(∀x c,acc.lookup x=M c->c<n)->(∀x y c,acc.lookup x=M c->acc.lookup y=M c->x=y)->∀x y c,(Zr n names acc).lookup x=M c->(Zr n names acc).lookup y=M c->x=y
 |[],_,_,_,i,x,y,c,e1,e2=>i x y c e1 e2
 |(z,k)::r,n,acc,h1,i,x,y,c,e1,e2=>by
  unfold Zr at e1 e2;by_cases g:(k==X7.cell)=P
  .rw[ax g]at e1 e2
   show AD r (n+1) ((z,n)::acc) (λa d q=>?_) (λa b d f e=>?_) x y c e1 e2
   .rw[Yx]at q
    split at q
    .ext q;show aau _
    .show aa5 (h1 a d q)
   .rw[Yx]at f e
    split at f
    .rename_i j
     split at e
     .rename_i h;rw[eq_of_beq j,eq_of_beq h]
     .ext f;show a7 (h1 b _ e) (YR _)
    .split at e
     .ext e;show a7 (h1 a _ f) (YR _)
     .show i a b d f e
  .rw[aE g]at e1 e2;show AD r n acc h1 i x y c e1 e2
theorem zT:∀{names:G (Str×X7)} {x:Str} {k a:X7},(names.map (·.1)).Nodup->names.lookup x=M k->(x,a)∈names->k=a
 |[],_,_,_,_,h,_=>by ext h
 |(y,j)::r,x,k,a,f,h,hm=>by
  rw[X5,Zd]at f;rw[Yx]at h;rcases Yi.mp hm with e|b
  .ext e;rw[eg]at h;show(X1 h).symm
  .cases g:x==y with
   |true=>rw[eq_of_beq g]at b;show a7 (Yr.mpr #[_,b,W]) f.1
   |false=>rw[g]at h;show zT f.2 h b
def bt(X:Cx)(s:XI)(H:Hp)(a:Zj)(C:I)(N:G Str)(b:G I):Cx:=
 {X with N:=N,s₀:=s,H₀:=H,env:=compEnvC a (vi X a C) C X.env,outer:=X.stack,stack:=X.stack,ex:=b,fn:=λx=>((gM X.env a.names []).lookup x).isNone,pn:=[],xe:=λ_ _=>False}
section
variable{X:Cx}{Z:bg (XH×Obj)}{Y:St}{H:Hp}{s:XI}
def u0{a:Zj}(I:Inv X Z Y H s)(e:(gM X.env a.names []).lookup x=M c):X.env.cells.lookup x=M c/\c<s.heap.objs.size:=by let h:=kr _ _ (λ_ _ q=>by ext q) x c e;let(v,o,z,_):=I.cell x c h;show#[h,cj z]
theorem BQ(I:Inv X Z Y H s)(E:scope.kind=.function)(n:(scope.names.map (·.1)).Nodup)
  (v:∀y∈scope.names,y.2=.free->∃c,X.env.cells.lookup y.1=cL c) (g:s.heap.objs.size<=C) (j:∀b∈fp,oV X Z H b) (f:∀b∈fp,b<s.heap.objs.size):(bt X s H scope C N fp).Ok where
 mod:=I.ok.mod
 kind:=E
 glob:=I.ok.glob
 blt:=I.ok.blt
 above:=g
 inj:=AD _ _ _ (λx c e=>aa5 (Yd (u0 I e).2 g)) λx y c B A=>I.ok.inj x y c (u0 I B).1 (u0 I A).1
 has:=λx J=>by
  let m:∃k,(relabel scope X.env).names.lookup x=cL k/\(k=.cell\/k=.free):=by
   rcases J with z|z
   .show#[_,z,.inl W]
   .show#[_,z,.inr W]
  let(k,L,t):=m;let(F,hm,u):=yo L;let e:F=.free\/F=.cell:=by
   rcases u with z|⟨z,_⟩
   .subst z
    rcases t with z|z
    .show .inr z
    .show .inl z
   .show .inl z
  let q:((vi X scope C).lookup x).isSome=P:=by
   rcases e with e|e
   .subst e;let(c,M):=v _ hm W;show aab _ _ _ (.inr (by rw[xB hm M];rfl))
   .subst e
    show aab _ _ _ (.inl ?_);cases z:scope.names.lookup x with
    |none=>show a7 hm (λhm=>by
      let:∀{l:bg (Str×X7)},l.lookup x=R->(x,X7.cell)∉l:=λ{l}=>by
       induction l with
       |nil=>show λ_=>by simp
       |cons p r G=>
        intro h q;rw[Yx]at h;rcases Yi.mp q with q|q
        .rw[<-q,eg]at h;ext h
        .split at h
         .ext h
         .show G h q
      show this z hm)
    |some O=>rw[zT n z hm]
  show Y8.mp q
 cab:=λx c B A=>by
  let i:((gM X.env scope.names []).lookup x).isNone=P:=B;let w:=A;rcases tO _ _ _ x c w with⟨z,_⟩|z
  .show Ys g (aa4 z)
  .rw[z]at i;ext i
 hd:=I.ok.hd
 frames:=I.ok.frames
 stk:=.inl W
 exf:=λb a=>#[Ye (Yd (f b a) g),λx c e=>by
  rcases tO _ _ _ x c e with⟨z,_⟩|z
  .show YU (Yd (Yd (f b a) g) (aa4 z))
  .show(j b a).2.2.2.2.1 x c (u0 I z).1]
 bs:=I.bs
 bsz:=Ys I.ok.bsz I.sz
 ad0:=λb o e a=>by
  rcases(j b a).2.2.2.1 with z|z
  .show I.ok.ad0 b o e z
  .show a7 (Yd (cj e) (Ys I.ok.bsz z)) (YR _)
 adP:=λb a K=>by
  rcases Yi.mp (I.abO b K)with z|z
  .show(j b a).2.1 z
  .show(j b a).2.2.1 z
 abQ:=I.stack
 frf:=I.ab3
def Hu(I:Inv X Z Y H s)(aas:scope.kind=.function)(d:(scope.names.map (·.1)).Nodup)
  (N:∀y∈scope.names,y.2=.free->∃c,X.env.cells.lookup y.1=M c) (L:ac0 X scope J) (B:s.heap.objs.size<=D) (j:D<C) (S:s.heap.objs.size<=C) (hf:∀b∈fp,oV X Z H b) (O:∀b∈fp,b<s.heap.objs.size)
  (F:h1.Ns C m) (E:∀x c,(vi X scope C).lookup x=M c->C<c->∃v,h1.IsCell c v) (w:∀b o,s.heap.get? b=M o->h1.get? b=M o) (hd:∃n,h1.get? D=M {cls:=.type "list",data:=.seq #v[] n}):
  Inv (bt X s H scope C (cH own J) fp) [] (i7 own J Y) (bf H D (.lst [])) {s with heap:=h1,toks:=t1}:=by
 let hn:=I.YX.fresh B;let(n,hd):=hd;let Q:=YU j;let h:∀x c,(vi X scope C).lookup x=M c->C<c\/(X.env.cells.lookup x=M c/\c<s.heap.objs.size):=λx c e=>by
  rcases tO _ _ _ x c e with⟨z,_⟩|z
  .show .inl z
  .show .inr (u0 I z)
 show#[BQ I aas d N S hf O,W,I.bare,Un.laid w B hn,#[m,F,λi x v e1 e2 e3=>?_],λx c e=>?_,?_,λx c e=>?_,λp hp=>a7 (show p∈([]:G (XH×Obj))from hp) (by simp),?_,?_]
 .
  let f:(own++J.map (·.1))[i]?=M x:=e1;let a:(own.map (λ_=>(R:b3 V))++J.map λp=>(Y[p.2]?).join)[i]?=M (M v):=e2;let A:own.length<=i:=by
   by_cases A:i<own.length
   .rw[XT (by simpa using A),XS]at a
    cases q:own[i]? with
    |none=>rw[q]at a;ext a
    |some _=>rw[q]at a;ext a
   .omega
  rw[Yn A,XS]at f;rw[Yn (by simpa using A),XS,Xz]at a;cases q:J[i - own.length]? with
  |none=>rw[q]at f;ext f
  |some p=>
   rw[q]at f a;let ex:=X1 f;subst ex;let ev:(Y[p.2]?).join=M v:=X1 a;let(g1,g2,g3):=L.mem p (X3 q);let T:Y[p.2]?=M (M v):=by
    cases z:Y[p.2]? with
    |none=>rw[z]at ev;ext ev
    |some y=>rw[z]at ev;show ec M ev
   let(m0,_,hl):=I.loc;let(u,r,l):=hl p.2 p.1 v g1 T (.inr g3);show#[u,r,?_];let l2:∃c,X.env.cells.lookup p.1=M c/\s.heap.IsCell c (M u):=by
    rcases l with⟨k,_⟩|⟨_,c,e,z⟩
    .let t:X.env.scope.names.lookup p.1=M .local:=k
     rcases g3 with z|z
     .rw[z]at t;ext t
     .rw[z]at t;ext t
    .show#[c,e,z]
   let(c,e,o,K,g):=l2;show .inr #[?_,c,?_,o,w c o K,g]
   .show jQ g2
   .show(vi X scope C).lookup p.1=M c;ext vi;rw[HQ _ _ _ _ λz=>by cases zT d g2 z];show xB (Zg g2) e
 .rcases h x c e with z|⟨z,_⟩
  .show E x c e z
  .let(v,o,K,g):=I.cell x c z;show#[v,o,w c o K,g]
 .show bf H D (.lst []) C=R;rw[az Q];show I.YX.fresh S
 .show bf H D (.lst []) c=R
  rcases h x c e with z|⟨z1,z2⟩
  .rw[az (YU (aal j z))];show I.YX.fresh (Ys S (aaG z))
  .rw[az (Ye (Yd z2 B))];show I.aaz x c z1
 .show I.YX.laid w B #[by show 0<=XY;show YC _,[],n,.nil,hd]
 .show(own.map (λ_=>(R:b3 V))++J.map λp=>(Y[p.2]?).join).length=(own++J.map (·.1)).length;simp
end
def yd(X:Cx)(e:G Yc)(t:TT):Prop:=
 ∀(a:G (I×Obj)) (s:XI) (b:St) (H:Hp) (Q:Bool->Hp->Prop),Inv X a b H s->t b H Q->
  wpAny (model X.prog X.w) X.A (forIn e P λc r=>if r=P then do let ok<-isTrue c X.env (eval c X.env);pure (ForInStep.yield ok)else pure (ForInStep.yield r)) (TP X a b Q) X.xe s
def FH:TT:=λ_ H Q=>Q P H
theorem xQ:yd X [] FH:=λ_ _ _ H _ I h=>wpAny_tests_nil #[H,I,h]
theorem Hh(h:PT X c o):yd X [c] o:=λa s b H Q I e=>wpAny_tests_one (h a s b H Q I e)
def Iy(J:It)(D:I)(e:St)(g:TG)(j:TT)(c:TE)(n:Hp)(Fin:Hp->Prop):Prop:=
 ∃W:Nat->Nat->St->Hp->Prop,(∃m,W 0 m e (bf n D (.lst [])))/\∀i m σ H,W i m σ H->
  (J.stop i H/\Fin H)\/(J.go i H/\∃N:St->Hp->Prop,(∀o p,N o p->∃q,q<m/\W (i+1) q o p)/\
   ∀x p,J.yld i H x p->g x σ p λa l=>j a l λb h=>if b=P then c a h λy f=>∃ys,f D=M (.lst ys)/\ys.length<XY/\N a (bf f D (.lst (ys++[y])))else N a h)
section
variable{Y:Ya}{w:Yq}{A:Ym}{s:XI}
def DT{i o f:Yc}{g:bg Yc}{b:Zj}{j:Pos}{p acc:U}{env:Env}{R:ada->XI->Prop}{XE:U->XI->Prop}(C:∀x s1,XE x s1->notedBy (model Y w) A env (λe s2=>R (.error e) s2) x s1)(I:Nat->XI->Prop)
  (turn:∀n s,I n s->wpAny (model Y w) A (pyNext p) (λr s1=>match r with
   |none=>R (.ok .next) s1
   |some v=>wpAny (model Y w) A (letOwnedTupleGo o p v) (λ_ s2=>wpAny (model Y w) A (assign o env v) (λ_ s3=>
     wpAny (model Y w) A (forIn g P λc r=>if r=P then do let ok<-isTrue c env (eval c env);pure (ForInStep.yield ok)else pure (ForInStep.yield r)) (λok s4=>
      if ok=P then wpAny (model Y w) A (eval i env) (λx s5=>
       wpAny (model Y w) A (call (.builtin "list.append") [acc,x]) (λ_ d=>∃m,m<n/\I m d) (λ_ _=>False) s5) XE s4
      else∃m,m<n/\I m s4) (λ_ _=>False) s3) (λ_ _=>False) s2) (λ_ _=>False) s1) (λ_ _=>False) s)
  (n:Nat) (h:I n s):codeAny (model Y w) A (.compLoop (.ListComp i [#[o,f,g,0]] b j) 0 p acc env) R s:=by
 show codeAny_loop W I (λn s F=>?_) n h;show wpAny _ A (Sem.onRaise (compTurn (.ListComp i [#[o,f,g,0]] b j) 0 p acc env) (λx=>do noteFrame x env;theTreesLotGoes x)) _ _ s;show wpAny_noted ?_;rw[compTurn_list]
 let l:∀{α:Type} {t:Sem α} {Q B:α->XI->Prop} {E:U->XI->Prop} {s:XI},wpAny (model Y w) A t Q (λ_ _=>False) s->(∀a K,Q a K->B a K)->wpAny (model Y w) A t B E s:=
  λq u=>wpAny_mono q u λ_ _ z=>False.elim z
 show CL (ZE (CL (l (turn n s F) λr s1 q=>?_)));cases r with
 |none=>show XN q
 |some v=>
  show CL (l q λ_ s2 u=>CL (l u λ_ s3 J=>CL (l J λok s4 y=>?_)));cases ok with
  |false=>show XN #[W,y]
  |true=>show CL (CL (wpAny_mono y (λx s5 H=>CL (l H λ_ d G=>XN (XN #[W,G]))) C))
end
section
variable{X:Cx}{Z:bg (XH×Obj)}{Y:St}{H:Hp}{s:XI}
def vq
  (h:Q (newEnv scope s.heap.objs.size globals (Zr (s.heap.objs.size+1) scope.names closure) qual R .none (cL env) builtinsNs) {s with heap:=pushCells (s.heap.push {cls:=.type "dict",data:=.dict #v[]}) scope.names}):
  wpAny f A (newFunctionEnv scope globals closure [] qual R .none (cL env)) Q E s:=by
 simp only[newFunctionEnv,aeF,if_true];show CL (wpAny_alloc ?_);show CL (wpAny_layCells _ (λe a b=>by cases g:a==X7.cell<;>simp[g]) _ _ _ _ ?_);rw[show({s with heap:=s.heap.push {cls:=.type "dict",data:=.dict #v[]}}:XI).heap.objs.size=s.heap.objs.size+1 from cN ..];rw[ac3];show CL (XN (XN h))
def mJ{O tg l:Yc}{B:bg Yc}{scope:Zj}{pos:Pos}{own:bg Str}{fv:bg (Str×Nat)}{g:TG}{tc:TT}{te:TE}{E:Xx->XI->Prop}{it:XH}{k:bg XH}{U:Nat->Heap->Prop}{J:It}{Fin:XH->Hp->Prop}
  {RR:Xx->XH->ada->XI->Prop} (I:Inv X Z Y H s) (hc:X.calm=XA) (aas:scope.kind=.function) (hnd:(scope.names.map (·.1)).Nodup) (hfr:∀y∈scope.names,y.2=.free->∃c,X.env.cells.lookup y.1=cL c) (hfv:ac0 X scope fv)
  (T:Turn X.prog X.w X.K tg J k it U) (st:U 0 s.heap) (G:∀b∈k,oV X Z H b)
  (hg:∀C,PG (bt X s H scope C (cH own fv) k) tg g) (ht:∀C,yd (bt X s H scope C (cH own fv) k) B tc) {W:XH->Xx->XI->Prop} (he:∀C,PE ((bt X s H scope C (cH own fv) k).abc (W C)) O te) (hEE:∀D C x s1,s.heap.objs.size<=C->W C x s1->notedBy (model X.prog X.w) X.A (compEnvC scope (vi X scope C) C X.env) (λe s2=>RR (.ref D) C (.error e) s2) x s1)
  (hR:∀D,H D=Ld->Iy J D (i7 own fv Y) g tc te H (Fin D))
  (hRR:∀D C V s',Inv X Z Y V s'->Fin D V->(∃m,s'.heap.Ns C m)->s.heap.objs.size<=C->V C=Ld->RR (.ref D) C (.ok .next) s'):
  wpAny (model X.prog X.w) X.A (newList []) (λacc s3=>wpAny (model X.prog X.w) X.A (newFunctionEnv scope X.env.globals (gM X.env scope.names []) [] X.env.qual Ld .none (cL X.env)) (λaei s4=>
   codeAny (model X.prog X.w) X.A (.compStart (.ListComp O [#[tg,l,B,0]] scope pos) 0 (.ref it) acc {aei with scope:=relabel scope X.env}) (RR acc aei.locals) s4) E s3) E s:=by
 show YO ?_;generalize hH2:s.heap.push {cls:=.type "list",dict:=Ld,data:=.seq ([]:bg Xx).toArray}=K;let hz:K.objs.size=s.heap.objs.size+1:=by rw[<-hH2,cN]
 show vq (s:={s with heap:=K}) ?_;let L:s.heap.objs.size<K.objs.size:=by rw[hz];show aau _
 let hC:s.heap.objs.size<=K.objs.size:=aaG L;generalize hH1:pushCells (K.push {cls:=.type "dict",data:=.dict #v[]}) scope.names=h1;let kp2:∀b o,K.get? b=cL o->h1.get? b=cL o:=λb o e=>by rw[<-hH1];show adI _ _ b o (b4 _ e)
 let kp:∀b o,s.heap.get? b=cL o->h1.get? b=cL o:=λb o e=>kp2 b o (by rw[<-hH2];show b4 _ e);let hns:h1.Ns K.objs.size (λ_=>Ld):=by rw[<-hH1];show(Heap.Ns.new K (.type "dict")).keeps (adI _ _)
 let hoc:∀x c,(vi X scope K.objs.size).lookup x=cL c->K.objs.size<c->∃v,h1.IsCell c v:=λx c e hlt=>by
  let e':(Zr (K.push {cls:=.type "dict",data:=.dict #v[]}).objs.size scope.names (gM X.env scope.names [])).lookup x=cL c:=by rw[cN];show e
  rcases rK _ _ _ x c e' with⟨_,z⟩|z
  .show#[Ld,by rw[<-hH1];show z]
  .show a7 (aal (u0 I z).2 (aal L hlt)) (YR _)
 let hd:∃n,h1.get? s.heap.objs.size=cL {cls:=.type "list",data:=.seq #v[] n}:=#[0,kp2 _ _ (by rw[<-hH2];show ck _ rfl)];let F:∀b∈k,b<s.heap.objs.size:=λb f=>by let(o,e,_):=T.obj 0 _ st b f;show cj e
 let hn:H s.heap.objs.size=Ld:=I.YX.fresh (XO _);let(W,(m0,w0),turn):=hR s.heap.objs.size hn;let M:∀{pl:bg (XH×Obj)} {V:Hp},(∀b∈k,V b=Ld)->(∀p∈pl,p.1∉k)->∀b∈k,oV (bt X s H scope K.objs.size (cH own fv) k) pl V b:=λ{pl V} hn' hpl b f=>by let ok:=BQ (C:=K.objs.size) (N:=cH own fv) I aas hnd hfr hC G F;show#[hn' b f,(ok.exf b f).1,ok.adP b f,.inl f,(ok.exf b f).2,λp hp=>by let hp':p∈([]:bg (XH×Obj))++pl:=hp;intro z;show hpl p (by simpa using hp') (by rw[z];show f)]
 let j:∀s4:XI,s4={s with heap:=h1}->
   codeAny (model X.prog X.w) X.A (.compLoop (.ListComp O [#[tg,l,B,0]] scope pos) 0 (.ref it) (.ref s.heap.objs.size) (compEnvC scope (vi X scope K.objs.size) K.objs.size X.env)) (RR (.ref s.heap.objs.size) K.objs.size) s4:=by
  rintro s4 rfl
  let I0:Inv (bt X s H scope K.objs.size (cH own fv) k) [] (i7 own fv Y) (bf H s.heap.objs.size (.lst [])) {s with heap:=h1}:=
   Hu I aas hnd hfr hfv (XO _) L hC G F hns hoc kp hd
  let st0:U 0 h1:=T.keep 0 _ _ st λb _ o e=>kp b o e;let fr0:∀b∈k,(bf H s.heap.objs.size (.lst [])) b=Ld:=λb f=>by rw[az (Ye (F b f))];show(G b f).1
  show DT (λx s1 z=>hEE _ _ x s1 hC z) (λn s'=>∃i σ' V,Inv (bt X s H scope K.objs.size (cH own fv) k) [] σ' V s'/\U i s'.heap/\(∀b∈k,V b=Ld)/\W i n σ' V) ?_ m0 #[0,_,_,I0,st0,fr0,w0];rintro n s5 ⟨i,h,H5,I5,st5,fr5,w5⟩;rcases turn i n h H5 w5 with⟨stop,fin⟩|⟨go,N,hN,step⟩
  .show bZ (T.done (bt X s H scope K.objs.size (cH own fv) k) rfl rfl rfl hc i [] s5 h H5 (λ_ _=>False) I5 (M fr5 (by simp)) st5 stop) λr s6 #[hr,A]=>?_;subst hr;let(mm,hm,_):=A.loc;show hRR _ _ H5 s6 ?_ fin #[mm,hm] hC A.free;show I.adU (ch:=k) A.os A.base A.YX A.bare λb f=>#[(G b f).2.2.2.1,(G b f).2.1,(G b f).2.2.2.2.1,(G b f).2.2.2.2.2]
  .show bZ (T.item (bt X s H scope K.objs.size (cH own fv) k) rfl rfl rfl hc i [] s5 h H5 (λ_ _=>False) I5 (M fr5 (by simp)) st5 go) λr s6 #[u,hr,h6]=>?_
   subst hr;show bZ h6 λ_ s7 a=>?_;let(x,H7,I7,r7,y7,t,fr7):=a;let I7':=I7.pinned (fp:=k) (M fr7 (by simp)) (T.obj _ _ t);let q:∀{a:St} {w:Hp} {Q:XI},Inv (bt X s H scope K.objs.size (cH own fv) k) ([]++sC k s7.heap) a w Q->N a w->∃m,m<n/\∃i σ' V,Inv (bt X s H scope K.objs.size (cH own fv) k) [] σ' V Q/\U i Q.heap/\(∀b∈k,V b=Ld)/\W i m σ' V:=λ{a w Q} I8 n8=>by let(m',hm,w8):=hN a w n8;show#[m',hm,i+1,a,w,I8.ab6,T.keep _ _ _ t λb f o e=>(I8.pin (b,o) (YM _ (YM _ (jz f e)))).1,λb f=>?_,w8];let(o,e,d):=T.obj _ _ t b f;show(I8.pin (b,o) (YM _ (YM _ (jz f e)))).2.1
   show bZ (hg _ _ s7 h H7 x u _ I7' r7 (step x H7 y7)) λ_ Q a=>?_;let(a,w,I8,q8):=a;show bZ (ht _ _ Q a w _ I8 q8) λok s9 a=>?_;let(H9,I9,q9):=a;cases ok with
   |false=>rw[aE X9]at q9⊢;show q I9 q9
   |true=>rw[ax rfl]at q9⊢;show bZ (he _ _ s9 a H9 _ (I9.abc _) q9) λy s10 a=>?_;let(S,H10,amf,r10,ys,hy,hl,q10):=a;let I10:=amf.aax;show bZ (oW _ s10 a H10 (.ref s.heap.objs.size) [S] (.ref s.heap.objs.size) [y] (λ_ H11=>N a H11) I10 rfl (.cons r10 .nil) #[_,ys,S,rfl,rfl,hy,hl,q10]) λ_ s11 a=>?_;let(v11,H11,I11,_,q11):=a;show q I11 q11
 show codeAny_compStart_list (j _ rfl) (T.self _ 0 _ _ _ (T.keep 0 _ _ st λb _ o e=>kp b o e) (j _ rfl))
def pP(own:G Str)(d:G (Str×Nat))(b:TI)(g:TG)(e:TT)(c:TE):TE:=λY H Q=>b Y H λJ a=>∀D,a D=R->Iy J D (i7 own d Y) g e c a λf=>Q (.ref D) f
theorem lc{a:Zj}(ok:X.Ok)(h:∀y∈a.names,y.2=.free->(X.env.scope.names.lookup y.1=M .cell\/X.env.scope.names.lookup y.1=M .free)):∀y∈a.names,y.2=.free->∃c,X.env.cells.lookup y.1=M c:=
 λy b e=>ok.has y.1 (h y b e)
theorem Gy{a sc:Zj}(h:(a.names.all λy=> !(y.2==X7.free)||(sc.names.lookup y.1==M X7.cell)||(sc.names.lookup y.1==M X7.free))=P):
  ∀y∈a.names,y.2=.free->(sc.names.lookup y.1=M .cell\/sc.names.lookup y.1=M .free):=λy b e=>by
 let q:=YY.mp h y b;rw[e]at q
 simpa using q
def B8{elt i iter:Yc}{ifs:G Yc}{scope:Zj}{pos:Pos}(own:G Str)(c:G (Str×Nat)){u:TI}{g:TG}{w:TT}{v:TE}(S:X.calm=P)(N:PI X i iter u)
  (O:∀s H C a,PG (bt X s H scope C (cH own c) a) i g) (F:∀s H C a,yd (bt X s H scope C (cH own c) a) ifs w) (he:∀s H C a,PE (bt X s H scope C (cH own c) a) elt v) (n:ac0 X scope c)
  (p:(scope.names.all λy=> !(y.2==X7.free)||(X.env.scope.names.lookup y.1==M X7.cell)||(X.env.scope.names.lookup y.1==M X7.free))=P)
  (d:scope.kind=.function:=by rfl) (k:(scope.names.map (·.1)).Nodup:=by left)
  (r:∀y∈scope.names,y.2=.local->scope.names.lookup y.1=M .local:=by left) (K:∀x,foldedSetIterable iter X.env x=pure x:=by intro _;rfl):
  PE X (.ListComp elt [#[i,iter,ifs,0]] scope pos) (pP own c u g w v):=by
 intro Z s Y H Q I h;let f:=Gy p;rw[amL];show abt (use:=Ld) rfl K (mj (lc I.ok f)) d r (bZ (N Z s Y H _ I h) λxv s1 h1=>bZ h1 λE s2 h2=>?_);let(it,a,tn,J,H2,e,A,T,j,f2,R):=h2;subst e;show mJ A S d k (lc I.ok f) n T j f2 (λC=>O _ _ C _) (λC=>F _ _ C _) (W:=λ_ _ _=>False) (λC=>he _ _ C _) (λ_ _ _ _ _ z=>z.elim) (Fin:=λD t=>Q (.ref D) t) R ?_;intro D C t B I' fin hm hC L;let(m,hm):=hm;show#[m,hm,λh' l=>#[.ref D,t,?_,rfl,fin]];let(f0,f1,_,f3,f4,f5):=A.adk hC L;show I'.turned (t':=B.toks) (λb o hb q=>(l.2 b hb).trans q) f0 f1 f3 f4 f5
def Kz{elt d iter:Yc}{ifs:G Yc}{scope:Zj}{pos k py:Pos}{i:Nat}{x:Str}(own:G Str)(j:G (Str×Nat)){S:TI}{g:TG}{tc:TT}{V:TE}(hN:X.N.Nodup)(A:X.N[i]?=M x)(hx:X.env.scope.names.lookup x=M .local)
  (hc:X.calm=P) (hi:PI X d iter S)
  (hg:∀s H C c,PG (bt X s H scope C (cH own j) c) d g) (ht:∀s H C c,yd (bt X s H scope C (cH own j) c) ifs tc) (he:∀s H C c,PE (bt X s H scope C (cH own j) c) elt V) (B:ac0 X scope j)
  (F:(scope.names.all λy=> !(y.2==X7.free)||(X.env.scope.names.lookup y.1==M X7.cell)||(X.env.scope.names.lookup y.1==M X7.free))=P)
  (t:ZU (.ListComp elt [#[d,iter,ifs,0]] scope pos) (M (.Name x py)) k.line X.env=pure P:=by rfl)
  (l:scope.kind=.function:=by rfl) (w:(scope.names.map (·.1)).Nodup:=by left)
  (K:∀y∈scope.names,y.2=.local->scope.names.lookup y.1=M .local:=by left) (hs:∀x,foldedSetIterable iter X.env x=pure x:=by intro _;rfl):
  PS X (.Assign [.Name x py] (.ListComp elt [#[d,iter,ifs,0]] scope pos) k) (vB (pP own j S g tc V) (mZ i)):=by
 intro Z s Y H D I h;let f:=Gy F;rw[exec_Assign_Name_used _ _ _ _ t];show CL (ZE (CL ?_));show wpAny _ _ (do let _<-comprehension (.ListComp elt [#[d,iter,ifs,0]] scope pos) scope X.env _ (newList []) XF (eval iter X.env) (M (assign (.Name x py) X.env))) _ _ s;show CL (bZ (abt (use:=M (assign (.Name x py) X.env)) (Q:=λ_ n=>SP X Z D .next n) rfl hs (mj (lc I.ok f)) l K
  (bZ (hi Z s Y H _ I h) λxv s1 h1=>bZ h1 λitv s2 h2=>?_)) λ_ n q=>XN (XN q))
 let(it,c,tn,J,H2,e,I2,T,p,f2,R):=h2;subst e;show mJ I2 hc l w (lc I.ok f) B T p f2 (λC=>hg _ _ C _) (λC=>ht _ _ C _) (W:=λ_ _ _=>False) (λC=>he _ _ C _) (λ_ _ _ _ _ z=>z.elim) (Fin:=λL O=>D.nx (Y.set i (M (.ref L))) O) R ?_;intro L C O n I' fin hm hC hn;let(m,hm):=hm;let(f0,f1,f2',f3,f4,f5):=I2.adk hC hn;show wpAny _ _ (assign (.Name x py) X.env (.ref L)) _ _ n;show ahJ (uR I' hN A (.inl hx) (v:=.ref L) rfl (λr N #[a,sb,ha]=>?_) (.inr hx));let E:C≠a:=by
  rcases ha with z|z
  .rw[z];show f1
  .show λq=>f4 x a z q.symm
 show#[m,hm.sameBut sb E,λh' u=>#[_,O,?_,fin]];show N.turned (t':=r.toks) (λb o hb q=>(u.2 b hb).trans q) f0 f1 f3 f4 f5
end
def xU(P:Ya)(w:Yq)(K:lD)(c:Str->z U)(base:Heap)(k:Nat)(x:Str)(b:G Str)(sp:Sp):Prop:=
 ∃(f:I) (a:YN),FnOk P w K c base lK k f a b sp/\Binds K a b []/\Zb K (.ref f)=XA/\c x=M (.ref f)
def tN(C:xU X.prog X.w X.K X.mg X.base k x J sp)(l:Zp j X.A)(c:PA X (e::es) t)(g:k<=j:=by decide)(n:Gl X x:=by rfl)
  (h:(x==("__debug__":Str))=XF:=by decide) (o:X6 (e::es) X.env=(XF,eval e X.env)::X6 es X.env:=by rfl) (a:(backTo pos (X6 es X.env)).any (·.1)=XF:=by rfl):
  PE X (.Call (.Name x p) (e::es) [] pos) (jW sp [] E0 t):=by
 let(f,q,F,b,i,m):=C;show BE F (l.mono g) n m i b .nil GM c h o a
section
variable{Z:St}{H:Hp}{Q:VK}{D:Ends}
theorem Po(h:t {D with nx:=u D} Z H):EB t u D Z H:=h
theorem R0(h:o Z H λx H1=>g x Z H1 D.nx):vB o g D Z H:=h
theorem Mx{Q:St->Hp->Prop}(h:Q (Z.set i (M v)) H):mZ i v Z H Q:=h
theorem VI(h:Q v H):tC v Z H Q:=h
theorem NX(h:o Z H λ_ H1=>D.nx Z H1):yG o D Z H:=h
end
def Sl{α:Type}{xs:G α}{i:Int}{v:α}(a:0<=i)(h:xs[i.toNat]?=M v):lJ xs i=M v:=by let q:=Cs h;rwa [abZ a]at q
def Zi.tup{K:lD}(e:Zi H H')(h:SqT K H a xs):SqT K H' a xs:=by
 rcases h with(h|⟨o,h⟩)|h
 .show .inl (.inl (e _ _ h))
 .show .inl (.inr #[o,e _ _ h])
 .show .inr h
theorem bO(h:H p=R)(o:HO):Zi H (bf H p o):=λb u q=>by rw[az (bA q h)];show q
def FC:YI "max"=M (.builtin "max"):=by left
def wm:YI "isinstance"=M (.builtin "isinstance"):=by left
def OH:YI "len"=M (.builtin "len"):=by left
def ye:YI "sorted"=M (.builtin "sorted"):=by left
def T5:YI "all"=M (.builtin "all"):=by left
def Jk:YI "list"=M (.type "list"):=by left
def J5:YI "tuple"=M (.type "tuple"):=by left
section
variable{X:Cx}
def xF:ZJ X (.builtin "sorted") (λxs H Q=>∃(p:XH) (ns:bg Int),xs=[.ref p]/\SqL X.K H p (ns.map V.int)/\ns.length<64/\∀(l:XH) (a:bg Int),H l=R->a.Perm ns->a.Pairwise (·<=·)->Q (.ref l) (bf H l (.lst (a.map V.int)))):=by
 intro i s C H xs E Q I r h;let(p,ns,rfl,t,y,q):=h;let(u,rfl,m):=jV r;ext m;let(B,J,pl,G):=I.list t;let v:=J.length;rw[Xz]at v;show sorted_ints pl.isList (jx J) () λf a K j n=>?_;let(e,w):=sortedAll_at s.heap B f;let g:a.length=ns.length:=j.length_eq;let A:f.toList.length=a.length:=K.length;show#[.ref (s.heap.objs.size+1),_,I.laid (t':=s.toks) (o:=.lst (a.map V.int)) (λb F z=>sortedAll_old z) (acN _) ?_,W,q _ a (I.YX.fresh (acN _)) j n];show#[?_,f.toList,e,jq K,w];rw[Xz,g];let:(64:Nat)<=XY:=by decide
 ext
end
end L2
namespace L3
open PySem L2
abbrev D:=XG
inductive PV where
 |fz (d:D)
 |ow (ds:G D)
 |pl (i:Nat)
abbrev aU:=G (z PV)
structure Xc where
 cls:Str
 fs:G (Str×D)
inductive Res(α:Type) where
 |ok (a:α)
 |er (x:Xc)
 |bad
namespace Res
def bind(r:Res α)(f:α->Res β):Res β:=match r with
 |.ok a=>f a
 |.er x=>.er x
 |.bad=>.bad
def YD:z α->Res α
 |some a=>.ok a
 |none=>.bad
theorem bind_ok(a:α)(f:α->Res β):(Res.ok a).bind f=f a:=W
end Res
abbrev eh:=@Res.bind_ok
abbrev bK:=I->Prop
def cJ(O:bK)(p:I):bK:=λb=>O b\/b=p
def IH(O:bK)(p:I):bK:=λb=>O b/\b≠p
def noO:bK:=λ_=>False
def Ev(O:bK)(H:Hp)(a:bK)(c:Hp):Prop:=∀b o,H b=M o->¬O b->c b=M o/\¬a b
theorem Ev.refl:Ev O H O H:=λ_ _ h n=>#[h,n]
theorem Ev.trans(a:Ev O H O1 H1)(b:Ev O1 H1 O2 H2):Ev O H O2 H2:=λp o h n=>let#[h1,e]:=a p o h n;b p o h1 e
theorem Ev.grow(s:Zi H H'):Ev O H O H':=λb o h n=>#[s b o h,n]
theorem Ev.add(s:Zi H H')(a:H p=R):Ev O H (cJ O p) H':=λb o h n=>#[s b o h,λz=>z.elim n λe=>by simp_all]
theorem Ev.sub(h:∀b,O' b->O b):Ev O H O' H:=λb o e n=>#[e,λz=>n (h b z)]
theorem Ev.mut(a:O p)(u:HO):Ev O H O (bf H p u):=λb o h n=>#[by rw[az (λe=>n (by simp_all))];show h,n]
def aaE(K:lD)(H:Hp)(a:I)(xs:G V):Prop:=Rd H a (.lst xs)\/∃(b:G U) (n:Nat),K.lookup a=M {cls:=.type "list",data:=.seq b.toArray n}/\xs.length<=XY/\Vals xs b
def aaE.sq(h:aaE K H a xs):SqL K H a xs:=by
 rcases h with h|⟨f,n,h1,e,b⟩
 .show .inl h
 .show .inr #[_,f.toArray,n,h1,W,W,W,by rw[X4,<-b.length];show e,by ext]
theorem aaE.of(h:H a=M (.lst xs)):aaE K H a xs:=.inl (.inl h)
def aaE.same(e:Zi H H')(h:aaE K H a xs):aaE K H' a xs:=by
 rcases h with(h|⟨o,h⟩)|h
 .show .inl (.inl (e _ _ h))
 .show .inl (.inr #[o,e _ _ h])
 .show .inr h
theorem lB(H:Hp):Zi (λ_=>R) H:=λ_ _ h=>by ext h
def acv(O:bK)(K:lD)(H:Hp)(a:I)(xs:G V):Prop:=aaE K H a xs/\(O a->aaE K (λ_=>R) a xs)
def abx(O:bK)(K:lD)(H:Hp)(a:I)(xs:G V):Prop:=SqT K H a xs/\(O a->SqT K (λ_=>R) a xs)
section
variable{O Z:bK}{K:lD}{H Y:Hp}{a:XH}{X:bg V}
def acv.ev(h:acv O K H a X)(e:Ev O H Z Y):acv Z K Y a X:=by
 let(h,k):=h;by_cases z:O a
 .show#[aaE.same (lB Y) (k z),λ_=>k z]
 .rcases h with(h|⟨o,h⟩)|h
  .let(f,b):=e a _ h z;show#[.inl (.inl f),λy=>a7 y b]
  .let(f,b):=e a _ h z;show#[.inl (.inr #[o,f]),λy=>a7 y b]
  .show#[.inr h,λ_=>.inr h]
def abx.ev(h:abx O K H a X)(e:Ev O H Z Y):abx Z K Y a X:=by
 let(h,k):=h;by_cases z:O a
 .show#[(lB Y).tup (k z),λ_=>k z]
 .rcases h with(h|⟨o,h⟩)|h
  .let(f,b):=e a _ h z;show#[.inl (.inl f),λy=>a7 y b]
  .let(f,b):=e a _ h z;show#[.inl (.inr #[o,f]),λy=>a7 y b]
  .show#[.inr h,λ_=>.inr h]
end
mutual
inductive DV(O:bK)(K:lD)(H:Hp):V->D->Prop
 |Zw:DV O K H .Zw .none
 |bl (b:Bool):DV O K H (.bl b) (.bool b)
 |int (i:Int):DV O K H (.int i) (.int i)
 |str (x:Str):DV O K H (.str x) (.str x)
 |tup {a:XH} {xs:bg V} {ds:bg D}:abx O K H a xs->Zc O K H xs ds->DV O K H (.ref a) (.tuple ds)
 |lst {a:XH} {xs:bg V} {ds:bg D}:acv O K H a xs->Zc O K H xs ds->DV O K H (.ref a) (.list ds)
inductive Zc(O:bK)(K:lD)(H:Hp):bg V->bg D->Prop
 |nil:Zc O K H [] []
 |cons {v:V} {vs:bg V} {d:D} {ds:bg D}:DV O K H v d->Zc O K H vs ds->Zc O K H (v::vs) (d::ds)
end
section
variable{O Z:bK}{K:lD}{H H':Hp}
mutual
theorem DV.ev(e:Ev O H Z H'):∀{v:V} {d:D},DV O K H v d->DV Z K H' v d
 |_,_,.Zw=>.Zw
 |_,_,.bl b=>.bl b
 |_,_,.int i=>.int i
 |_,_,.str x=>.str x
 |_,_,.tup h hs=>.tup (h.ev e) (Zc.ev e hs)
 |_,_,.lst h hs=>.lst (h.ev e) (Zc.ev e hs)
theorem Zc.ev(e:Ev O H Z H'):∀{vs:bg V} {ds:bg D},Zc O K H vs ds->Zc Z K H' vs ds
 |_,_,.nil=>.nil
 |_,_,.cons h hs=>.cons (DV.ev e h) (Zc.ev e hs)
end
theorem Zc.length:∀{a:G V} {ds:G D},Zc O K H a ds->a.length=ds.length
 |_,_,.nil=>rfl
 |_,_,.cons _ t=>by rw[XZ,XZ,t.length]
theorem Zc.get:∀{c:G V} {ds:G D} {i:Nat} {d:D},Zc O K H c ds->ds[i]?=M d->∃v,c[i]?=M v/\DV O K H v d
 |_,_,_,_,.nil,e=>by simp at e
 |_,_,0,_,.cons h _,e=>by simp_all
 |_,_,i+1,d,.cons _ t,e=>by let(v,b,a):=Zc.get t (by simpa using e);simp_all
theorem Zc.ahq:∀{c:G V} {ds:G D} {i:Nat} {v:V},Zc O K H c ds->c[i]?=M v->∃d,ds[i]?=M d/\DV O K H v d
 |_,_,_,_,.nil,e=>by simp at e
 |_,_,0,_,.cons h _,e=>by simp_all
 |_,_,i+1,v,.cons _ t,e=>by let(d,b,a):=Zc.ahq t (by simpa using e);simp_all
theorem Zc.append:∀{a ws:G V} {ds es:G D},Zc O K H a ds->Zc O K H ws es->Zc O K H (a++ws) (ds++es)
 |_,_,_,_,.nil,h=>h
 |_,_,_,_,.cons h t,g=>.cons h (Zc.append t g)
theorem Zc.take:∀{a:G V} {ds:G D} (n:Nat),Zc O K H a ds->Zc O K H (a.take n) (ds.take n)
 |_,_,0,_=>.nil
 |_,_,_+1,.nil=>.nil
 |_,_,n+1,.cons h t=>.cons h (Zc.take n t)
theorem Zc.drop:∀{a:G V} {ds:G D} (n:Nat),Zc O K H a ds->Zc O K H (a.drop n) (ds.drop n)
 |_,_,0,h=>h
 |_,_,_+1,.nil=>.nil
 |_,_,n+1,.cons _ t=>Zc.drop n t
theorem Zc.flat(h:Zc O K H vs ds):∀n:Nat,Zc O K H (XU n vs).flatten (XU n ds).flatten
 |0=>.nil
 |n+1=>by rw[YS,YS,Zv,Zv];show h.append (Zc.flat h n)
mutual
theorem DV.plain:∀{v:V} {d:D},DV O K H v d->L2.DV K H v d
 |_,_,.Zw=>.Zw
 |_,_,.bl b=>.bl b
 |_,_,.int i=>.int i
 |_,_,.str x=>.str x
 |_,_,.tup h hs=>.tup h.1 (Zc.plain hs)
 |_,_,.lst h hs=>.lst h.1.sq (Zc.plain hs)
theorem Zc.plain:∀{vs:bg V} {ds:bg D},Zc O K H vs ds->L2.Zc K H vs ds
 |_,_,.nil=>.nil
 |_,_,.cons h hs=>.cons (DV.plain h) (Zc.plain hs)
end
end
def DX(O:bK)(K:lD)(H:Hp)(v:V):D->Prop
 |.list ds=>∃a xs,v=.ref a/\aaE K H a xs/\Zc O K H xs ds
 |d=>DV O K H v d
def DV.x(h:DV O K H v d):DX O K H v d:=by
 cases h with
 |lst h a=>show#[_,_,W,h.1,a]
 |Zw=>show .Zw
 |bl b=>show .bl b
 |int i=>show .int i
 |str x=>show .str x
 |tup h a=>show .tup h a
def DX.plain(h:DX O K H v d):L2.DV K H v d:=by
 cases d with
 |list ds=>let(a,xs,rfl,f,e):=h;show .lst f.sq e.plain
 |none=>show DV.plain h
 |bool b=>show DV.plain h
 |int i=>show DV.plain h
 |str x=>show DV.plain h
 |tuple ds=>show DV.plain h
 |dict g=>show DV.plain h
def adu(K:lD)(b:Hp)(O:bK)(H:Hp)(v:V):PV->Prop
 |.fz d=>DV O K H v d
 |.ow ds=>∃a e,v=.ref a/\O a/\b a=R/\H a=M (.lst e)/\Zc O K H e ds
 |.pl _=>False
structure Rl(K:lD)(B:bK)(H0:Hp)(O:bK)(σ:St)(H:Hp)(ρ:aU):Prop where
 same:Zi H0 H
 bo:∀a,B a->O a
 bd:∀a,B a->H0 a≠R
 od:∀a,H a=R->¬O a
 len:σ.length=ρ.length
 slot:∀(i:Nat) (x:PV),ρ[i]?=M (M x)->∃v,σ[i]?=M (M v)/\adu K H0 O H v x
 one:∀(i j:Nat) (ds es:G D) (v:V),ρ[i]?=M (M (.ow ds))->ρ[j]?=M (M (.ow es))->σ[i]?=M (M v)->σ[j]?=M (M v)->i=j
def abv(K:lD)(e:Hp)(O:bK)(b:St)(H:Hp)(c:aU)(v:V):PV->Prop
 |.fz d=>DV O K H v d
 |.ow ds=>∃a f,v=.ref a/\O a/\e a=R/\H a=M (.lst f)/\Zc O K H f ds/\∀(i:Nat) (es:G D),c[i]?=M (M (.ow es))->b[i]?≠M (M (.ref a))
 |.pl i=>b[i]?=M (M v)
def lg:PV->Prop
 |.ow _=>False
 |_=>True
def dn:PV->PV
 |.ow ds=>.fz (.list ds)
 |p=>p
section
variable{K:lD}{B O X:bK}{Z H H':Hp}{Y:St}{ρ ρ':aU}{v:V}
def adu.grow(s:Zi H H')(h:adu K Z O H v x):adu K Z O H' v x:=by
 cases x with
 |fz d=>show DV.ev (Ev.grow s) h
 |ow ds=>let(a,l,e,j,g,f,b):=h;show#[a,l,e,j,g,s _ _ f,b.ev (Ev.grow s)]
 |pl i=>show h
theorem Rl.grow(R:Rl K B Z O Y H ρ)(s:Zi H H'):Rl K B Z O Y H' ρ:=
 #[R.same.trans s,R.bo,R.bd,λa h=>R.od a (s.free h),R.len,λi x h=>let#[v,h1,b]:=R.slot i x h;#[v,h1,b.grow s],R.one]
theorem Rl.agU(R:Rl K B Z O Y H ρ)(h:H p=Ld):Z p=Ld:=R.same.free h
def Rl.add(R:Rl K B Z O Y H ρ)(s:Zi H H')(f:H p=Ld)(g:H' p≠Ld):Rl K B Z (cJ O p) Y H' ρ:=by
 show#[R.same.trans s,λa h=>.inl (R.bo a h),R.bd,λa h z=>z.elim (R.od a (s.free h)) λe=>g (by simp_all),R.len,λi x h=>?_,R.one];let(v,j,b):=R.slot i x h;show#[v,j,?_];cases x with
 |fz d=>show DV.ev (Ev.add s f) b
 |ow ds=>let(a,q,e,o,n,m,l):=b;show#[a,q,e,.inl o,n,s _ _ m,l.ev (Ev.add s f)]
 |pl i=>show b
theorem Rl.agp(R:Rl K B Z O Y H ρ)(h:Z a=Ld):¬B a:=λz=>R.bd a z h
def Rl.sub(R:Rl K B Z O Y H ρ){a:I}(m:Z a=Ld)(h:∀(i:Nat) (es:G D),ρ[i]?=M (M (.ow es))->Y[i]?≠M (M (.ref a))):Rl K B Z (IH O a) Y H ρ:=by
 show#[R.same,λb f=>#[R.bo b f,λe=>R.agp m (e▸f)],R.bd,λb f z=>R.od b f z.1,R.len,λi x j=>?_,R.one];let(v,l,g):=R.slot i x j;show#[v,l,?_];cases x with
 |fz d=>show DV.ev (Ev.sub λb z=>z.1) g
 |ow ds=>let(b,r,e,q,p,o,n):=g;subst e;show#[b,r,W,#[q,λe=>h i ds j (by rw[l,e])],p,o,n.ev (Ev.sub λb z=>z.1)]
 |pl i=>show g
theorem wI(h:H a=M (.lst o))(n:¬O a)(hd:Zc O K H o ds):DV O K H (.ref a) (.list ds):=.lst #[aaE.of h,λz=>a7 z n] hd
def jj{pv:PV}(R:Rl K B Z O Y H ρ)(h:abv K Z O Y H ρ v pv):∃X,Ev O H X H/\Rl K B Z X Y H ρ/\abv K Z X Y H ρ v (dn pv):=by
 cases pv with
 |fz d=>show#[O,.refl,R,h]
 |pl i=>show#[O,.refl,R,h]
 |ow ds=>let(a,m,rfl,l,j,g,f,e):=h;show#[IH O a,Ev.sub λb z=>z.1,R.sub j e,wI g (λz=>z.2 W) (f.ev (Ev.sub λb z=>z.1))]
def qV(pv:PV):lg (dn pv):=by ext pv<;>trivial
def abv.keep{pv:PV}(a:lg pv)(e:Ev O H X H')(h:abv K Z O Y H ρ v pv):abv K Z X Y H' ρ' v pv:=by
 cases pv with
 |fz d=>show DV.ev e h
 |pl i=>show h
 |ow ds=>show a.elim
def We:z (z PV)->z D
 |some (M (.fz d))=>M d
 |some (M (.ow ds))=>M (.list ds)
 |_=>R
def xb(ρ:aU):PV->z D
 |.fz d=>M d
 |.ow ds=>M (.list ds)
 |.pl i=>We ρ[i]?
def lZ{pv:PV}(R:Rl K B Z O Y H ρ)(h:abv K Z O Y H ρ v pv)(e:xb ρ pv=M d):DX O K H v d:=by
 cases pv with
 |fz p=>ext e;show DV.x h
 |ow ds=>ext e;let(a,y,rfl,w,t,m,l,r):=h;show#[a,y,W,aaE.of m,l]
 |pl i=>
  let b:We ρ[i]?=M d:=e;let n:=h;cases q:ρ[i]? with
  |none=>rw[q]at b;ext b
  |some o=>
   cases o with
   |none=>rw[q]at b;ext b
   |some x=>
    let(u,g,f):=R.slot i x q;rw[n]at g;ext g;rw[q]at b;cases x with
    |fz p=>ext b;show DV.x f
    |ow ds=>ext b;let(a,y,rfl,k1,k2,k3,k4):=f;show#[a,y,W,aaE.of k3,k4]
    |pl j=>show f.elim
def Vw(ρ:aU)(i:Nat):z (z PV)->z (D×aU)
 |some (M (.fz d))=>M (d,ρ)
 |some (M (.ow ds))=>M (.list ds,ρ.set i (M (.fz (.list ds))))
 |_=>R
def xj(ρ:aU):PV->z (D×aU)
 |.fz d=>M (d,ρ)
 |.ow ds=>M (.list ds,ρ)
 |.pl i=>Vw ρ i ρ[i]?
def bU{l:G α}(h:(l.set i x)[j]?=M y):(j=i/\y=x)\/(j≠i/\l[j]?=M y):=by
 rw[YT]at h;by_cases e:i=j
 .rw[ax e]at h
  split at h
  .ext h;show .inl #[e.symm,W]
  .ext h
 .rw[aE e]at h;show .inr #[λz=>e z.symm,h]
def uB{pv:PV}(R:Rl K B Z O Y H ρ)(h:abv K Z O Y H ρ v pv)(e:xj ρ pv=cL (d,ρ')):∃X,Ev O H X H/\Rl K B Z X Y H ρ'/\DV X K H v d:=by
 cases pv with
 |fz U=>ext e;show#[O,.refl,R,h]
 |ow ds=>ext e;let(a,vs,rfl,h1,T,S,Q,P):=h;show#[IH O a,Ev.sub λb z=>z.1,R.sub T P,wI S (λz=>z.2 W) (Q.ev (Ev.sub λb z=>z.1))]
 |pl i=>
  let f:Vw ρ i ρ[i]?=cL (d,ρ'):=e;let y:=h;cases q:ρ[i]? with
  |none=>rw[q]at f;ext f
  |some o=>
   cases o with
   |none=>rw[q]at f;ext f
   |some x=>
    let(u,E,A):=R.slot i x q;rw[y]at E;ext E;rw[q]at f;cases x with
    |fz U=>ext f;show#[O,.refl,R,A]
    |pl j=>show A.elim
    |ow ds=>
     ext f;let(a,vs,rfl,k1,k2,k3,k4):=A;let es:Ev O H (IH O a) H:=Ev.sub λb z=>z.1;let F:=wI k3 (λz=>z.2 W) (k4.ev es);show#[IH O a,es,#[R.same,λb m=>#[R.bo b m,λe=>R.agp k2 (e▸m)],R.bd,λb m z=>R.od b m z.1,by rw[YQ];show R.len,λj x l=>?_,λj k xs G w t r=>?_],F]
     .rcases bU l with⟨rfl,g⟩|⟨p,l⟩
      .ext g;show#[_,y,F]
      .let(u,C,n):=R.slot j x l
       show#[u,C,?_];cases x with
       |fz d=>show DV.ev es n
       |pl i=>show n
       |ow xs=>let(b,I,rfl,N,M,L,J):=n;show#[b,I,W,#[N,λz=>p (R.one j i xs ds (.ref a) l q (by rw[C,z]) y)],M,L,J.ev es]
     .rcases bU t with⟨rfl,g⟩|⟨_,t⟩
      .ext g
      .rcases bU r with⟨rfl,g⟩|⟨_,r⟩
       .ext g
       .show R.one j k xs G w t r
end
def XOk(K:lD)(B:bK)(H:Hp)(c:U)(b:z I)(x:Xc):Prop:=
 (∃a,c=.ref a/\Yh K X8 x.cls=M (M (.ref a)))/\∃fs,(∀p,b=M p->H p=M (.xd fs))/\∀f d,x.fs.lookup f=M d->b≠R/\∃v,fs.lookup f=M v/\DV B K H v d
def XE(K:lD)(B:bK)(a:Hp)(E:XK)(x:Xc):Prop:=∀c b H',Zi a H'->XOk K B H' c b x->E c b H'
def WR(K:lD)(E:XK)(B:bK)(b:Hp)(P:α->Prop):Res α->Prop
 |.ok a=>P a
 |.er x=>XE K B b E x
 |.bad=>False
section
variable{K:lD}{E:XK}{B:bK}{Z:Hp}
def WR.bind(h:WR K E B Z b (r.bind k)):WR K E B Z (λa=>WR K E B Z b (k a)) r:=by ext r<;>show h
def WR.YD(h:WR K E B Z b ((Res.YD o).bind k)):∃a,o=M a/\WR K E B Z b (k a):=by
 cases o with
 |none=>show h.elim
 |some a=>show#[a,W,h]
def WR.imp(h:WR K E B Z b r)(g:∀a,b a->P' a):WR K E B Z P' r:=by
 cases r with
 |ok a=>show g a h
 |er x=>show h
 |bad=>show h
end
abbrev FE:=aU->Res (PV×aU)
abbrev FT:=aU->Res (Bool×aU)
abbrev FA:=aU->Res (G PV×aU)
def EO(K:lD)(E:XK)(t:TE)(f:FE):Prop:=
 ∀(B:bK) (b:Hp) (O:bK) (a:St) (H:Hp) (g:aU) (Q:VK),Rl K B b O a H g->WR K E B b (λr=>∀e v H',Ev O H e H'->Rl K B b e a H' r.2->abv K b e a H' r.2 v r.1->Q v H') (f g)->t a H Q
def TTO(K:lD)(E:XK)(t:TT)(f:FT):Prop:=
 ∀(B:bK) (b:Hp) (O:bK) (a:St) (H:Hp) (e:aU) (Q:Bool->Hp->Prop),Rl K B b O a H e->WR K E B b (λr=>∀g H',Ev O H g H'->Rl K B b g a H' r.2->Q r.1 H') (f e)->t a H Q
def AO(K:lD)(E:XK)(t:TA)(f:FA):Prop:=
 ∀(B:bK) (b:Hp) (O:bK) (a:St) (H:Hp) (g:aU) (Q:G V->Hp->Prop),Rl K B b O a H g->WR K E B b (λr=>∀e h H',Ev O H e H'->Rl K B b e a H' r.2->Paired (λv pv=>abv K b e a H' r.2 v pv/\lg pv) h r.1->Q h H') (f g)->t a H Q
inductive RV where
 |fz (d:D)
 |ow (ds:G D)
def RV.pv:RV->PV
 |.fz d=>.fz d
 |.ow ds=>.ow ds
def Fin(O:bK)(K:lD)(H:Hp)(Q:VK):RV->Prop
 |.fz d=>∀v H',Zi H H'->DV O K H' v d->Q v H'
 |.ow ds=>∀p a H',Zi H H'->H p=R->H' p=M (.lst a)->Zc (cJ O p) K H' a ds->Q (.ref p) H'
def l6(O:bK)(H:Hp):Prop:=∀a,H a=R->¬O a
section
variable{K:lD}{E:XK}{B O X:bK}{Y H S:Hp}{Z:St}{T ρ':aU}{v:V}
def mq(R:Rl K B Y O Z H T)(h:∀X v S,Ev O H X S->Rl K B Y X Z S T->abv K Y X Z S T v C.pv->Q v S):Fin O K H Q C:=by
 cases C with
 |fz d=>show λv S s f=>h O v S (Ev.grow s) (R.grow s) f
 |ow ds=>intro p q S s b e f;show h (cJ O p) (.ref p) S (Ev.add s b) (R.add s b (by rw[e];simp)) #[p,q,W,.inr W,R.agU b,e,f,λi es r z=>?_];let(u,g,a,l,e2,o,n,j,m):=R.slot i _ r;rw[z]at g;ext g;ext e2;rw[b]at j;ext j
theorem Fin.new(hd:Zc O K H vs ds)(h:Fin O K H Q (.ow ds)):∀p,H p=R->Q (.ref p) (bf H p (.lst vs)):=λp a=>
 h p vs _ (bO a _) a aI (hd.ev (Ev.add (bO a _) a))
theorem Fin.afA(hd:Zc O K H vs ds)(b:l6 O H)(h:Fin O K H Q (.fz (.tuple ds))):∀p,H p=R->Q (.ref p) (bf H p (.tup vs)):=λp a=>
 h (.ref p) _ (bO a _) (.tup #[SqT.of aI,λz=>a7 z (b p a)] (hd.ev (Ev.grow (bO a _))))
theorem Fin.at(h:Fin O K H Q (.fz d))(a:DV O K H v d):Q v H:=h v H (Zi.refl H) a
def BK(T:aU)(i:Nat):z (z PV)->Res (PV×aU)
 |some (M (.fz d))=>.ok (.fz d,T)
 |some (M (.ow _))=>.ok (.pl i,T)
 |_=>.bad
def aa(i:Nat):FE:=λT=>BK T i T[i]?
def RE:EO K E (qE i) (aa i):=by
 intro B Y O Z H T Q R w;unfold aa at w;cases q:T[i]? with
 |none=>rw[q]at w;show w.elim
 |some o=>
  cases o with
  |none=>rw[q]at w;show w.elim
  |some x=>
   rw[q]at w;let(v,a,b):=R.slot i x q;cases x with
   |fz d=>show#[v,a,w O v H .refl R b]
   |ow ds=>show#[v,a,w O v H .refl R a]
   |pl j=>show w.elim
def pC(d:D):FE:=λT=>.ok (.fz d,T)
theorem DK(h:∀O H,DV O K H v d):EO K E (tC v) (pC d):=λB Y O Z H T Q R w=>w O v H .refl R (h O H)
theorem P5:EO K E (tC (.int i)) (pC (.int i)):=DK λ_ _=>.int i
theorem TZ:EO K E (tC (.bl b)) (pC (.bool b)):=DK λ_ _=>.bl b
theorem Sd:EO K E (tC (.str x)) (pC (.str x)):=DK λ_ _=>.str x
theorem Ro:EO K E (tC .Zw) (pC .none):=DK λ_ _=>.Zw
def kZ(K:lD)(r:R2)(f:D->D->z RV):Prop:=∀(O:bK) (H:Hp) (x y:V) (e a:D) (b:RV) (Q:VK),l6 O H->DX O K H x e->DX O K H y a->f e a=M b->Fin O K H Q b->r x y H Q
def aH(f:D->D->z RV)(c fb:FE):FE:=λT=>(c T).bind λa=>(fb a.2).bind λb=>(Res.YD (xb b.2 (dn a.1))).bind λh=>(Res.YD (xb b.2 b.1)).bind λe=>(Res.YD (f h e)).bind λg=>.ok (g.pv,b.2)
def Ow(t:kZ K r f)(c:EO K E ta fa)(u:EO K E tb fb):EO K E (JZ r ta tb) (aH f fa fb):=by intro B Y O Z H T Q R w;show c B Y O Z H T _ R (w.bind.imp λa i N x M e1 C q=>?_);let(I,e2,R2,p):=jj C q;show u B Y I Z M a.2 _ R2 (i.bind.imp λb e G y L e3 g o=>?_);let h:=p.keep (qV a.1) e3 (ρ':=b.2);let(dx,l,e):=e.YD;let(z,j,e):=e.YD;let(rv,m,e):=e.YD;show t G L x y dx z rv Q g.od (lZ g h l) (lZ g o j) m (mq g λF v J e4 A n=>?_);show e F v J (e1.trans (e2.trans (e3.trans e4))) A n
def Wz(K:lD)(r:V->Hp->VK->Prop)(f:D->z RV):Prop:=∀(O:bK) (H:Hp) (x:V) (b:D) (a:RV) (Q:VK),l6 O H->DX O K H x b->f b=M a->Fin O K H Q a->r x H Q
def Ak(f:D->z RV)(c:FE):FE:=λT=>(c T).bind λa=>(Res.YD (xb a.2 a.1)).bind λe=>(Res.YD (f e)).bind λb=>.ok (b.pv,a.2)
def UU(l:Wz K r f)(c:EO K E C J):EO K E (Wf r C) (Ak f J):=by intro B Y O Z H T Q R w;show c B Y O Z H T _ R (w.bind.imp λa b o x q e1 e j=>?_);let(u,g,b):=b.YD;let(t,h,b):=b.YD;show l o q x u t Q e.od (lZ e j g) h (mq e λn v p e4 m i=>b n v p (e1.trans e4) m i)
def VS:D->z Bool
 |.bool b=>M b
 |_=>R
def Px(h:DX O K H x d)(e:VS d=M b):x=.bl b:=by ext d<;>ext e;ext h;rfl
def aJ(c:FE):aU->Res (Bool×aU):=λT=>(c T).bind λa=>(Res.YD (xb a.2 a.1)).bind λd=>(Res.YD (VS d)).bind λb=>.ok (b,a.2)
def nz(c:EO K E o C):TTO K E (Bz o) (aJ C):=by intro B Y O Z H T Q R w;show c B Y O Z H T _ R (w.bind.imp λa e j x l e1 f i=>?_);let(d,g,e):=e.YD;let(b,h,e):=e.YD;show#[b,Px (lZ f i g) h,e j l e1 f]
theorem Ui(a:EO K E o C):TTO K E (tB o) (aJ C):=nz a
def xZ(b fb:FT):FT:=λT=>(b T).bind λa=>if a.1=P then fb a.2 else .ok (XF,a.2)
def Er(b fb:FT):FT:=λT=>(b T).bind λa=>if a.1=P then .ok (P,a.2)else fb a.2
def Ag(b:FT):FT:=λT=>(b T).bind λa=>.ok (!a.1,a.2)
theorem TTO.next(h:TTO K E t f)(R:Rl K B Y O1 Z H1 T)(e1:Ev O H O1 H1)(w:WR K E B Y (λr=>∀X S,Ev O H X S->Rl K B Y X Z S r.2->Q r.1 S) (f T)):t Z H1 Q:=
 h B Y O1 Z H1 T Q R (w.imp λr q X S a b=>q X S (e1.trans a) b)
theorem EO.next(h:EO K E t f)(R:Rl K B Y O1 Z H1 T)(e1:Ev O H O1 H1)(w:WR K E B Y (λr=>∀X v S,Ev O H X S->Rl K B Y X Z S r.2->abv K Y X Z S r.2 v r.1->Q v S) (f T)):t Z H1 Q:=
 h B Y O1 Z H1 T Q R (w.imp λr q X v S b e a=>q X v S (e1.trans b) e a)
def Nh(l:TTO K E t f)(j:TTO K E u g):TTO K E (Rc t u) (xZ f g):=by
 intro B Y O Z H T Q R w;show l B Y O Z H T _ R (w.bind.imp λa e m n e1 h=>?_);let(b,i):=a;cases b with
 |true=>show j.next h e1 e
 |false=>show e m n e1 h
def Pp(l:TTO K E t f)(j:TTO K E u g):TTO K E (VG t u) (Er f g):=by
 intro B Y O Z H T Q R w;show l B Y O Z H T _ R (w.bind.imp λa e m n e1 h=>?_);let(b,i):=a;cases b with
 |true=>show e m n e1 h
 |false=>show j.next h e1 e
def Ma(e:TTO K E t f):TTO K E (Mf t) (Ag f):=by intro B Y O Z H T Q R w;show e B Y O Z H T _ R (w.bind.imp λa b h i e1 g=>b h i e1 g)
def cz:FT:=λT=>.ok (P,T)
theorem EA:TTO K E FH cz:=λB Y O Z H T Q R w=>w O H .refl R
def yK(b fb:FE):FE:=λT=>(aJ b T).bind λa=>if a.1=P then fb a.2 else .ok (.fz (.bool XF),a.2)
def Fj(b:FE):FE:=λT=>(aJ b T).bind λa=>.ok (.fz (.bool (!a.1)),a.2)
def Sb(d:EO K E C J)(i:EO K E o fb):EO K E (G4 C o) (yK J fb):=by
 intro B Y O Z H T Q R w;show nz d B Y O Z H T (λc e=>if c=P then o Z e Q else Q (.bl XF) e) R (w.bind.imp λa f j e e1 g=>?_);let(b,h):=a;cases b with
 |true=>show i.next g e1 f
 |false=>show f j _ e e1 g (.bl XF)
def Q2(d:EO K E o C):EO K E (Pd o) (Fj C):=by intro B Y O Z H T Q R w;show nz d B Y O Z H T (λc b=>Q (.bl (!c)) b) R (w.bind.imp λa e g b e1 f=>e g _ b e1 f (.bl _))
def ar:FA:=λT=>.ok ([],T)
def af(c:FE)(e:FA):FA:=λT=>(c T).bind λa=>(e a.2).bind λb=>.ok (dn a.1::b.1,b.2)
theorem Ps:AO K E iL ar:=λB Y O Z H T Q R w=>w O [] H .refl R .nil
def LC(c:EO K E C J)(l:AO K E tr fr):AO K E (ei C tr) (af J fr):=by intro B Y O Z H T Q R w;show c B Y O Z H T _ R (w.bind.imp λa g t x r e1 n j=>?_);let(p,e2,R2,i):=jj n j;show l B Y p Z r a.2 _ R2 (g.bind.imp λb f o e q e3 m h=>?_);show f o (x::e) q (e1.trans (e2.trans e3)) m (.cons #[i.keep (qV a.1) e3,qV a.1] h)
def ym(T:aU):G PV->z (G D)
 |[]=>M []
 |p::r=>match xb T p with
  |some d=>(match ym T r with
   |some ds=>M (d::ds)
   |none=>R)
  |none=>R
theorem An(R:Rl K B Y O Z H T):∀{f:G V} {c:G PV} {ds:G D},Paired (λv pv=>abv K Y O Z H T v pv/\lg pv) f c->ym T c=M ds->Paired (DX O K H) f ds
 |_,_,_,.nil,e=>by ext e;show .nil
 |_,_,_,.cons (l₂:=c) (b:=p) h t,e=>by
  unfold ym at e;cases q:xb T p with
  |none=>simp_all
  |some d=>
   rw[q]at e;dsimp only at e;cases g:ym T c with
   |none=>simp_all
   |some a=>rw[g]at e;ext e;show .cons (lZ R h.1 q) (An R t g)
def qh(T:aU):G PV->z (G D×aU)
 |[]=>M ([],T)
 |p::r=>match xj T p with
  |some (d,b)=>(match qh b r with
   |some (ds,a)=>M (d::ds,a)
   |none=>R)
  |none=>R
theorem sJ:∀{k:G V} {c:G PV} {ds:G D} {O:bK} {T ρ':aU},Rl K B Y O Z H T->Paired (λv pv=>abv K Y O Z H T v pv/\lg pv) k c->qh T c=M (ds,ρ')->∃X,Ev O H X H/\Rl K B Y X Z H ρ'/\Zc X K H k ds
 |_,_,_,O,_,_,A,.nil,e=>by ext e;show#[O,.refl,A,.nil]
 |_,_,_,O,T,ρ',A,.cons (l₁:=k) (l₂:=c) (b:=p) h t,e=>by
  unfold qh at e;cases q:xj T p with
  |none=>simp_all
  |some r=>
   let(d,a):=r;rw[q]at e;dsimp only at e;cases C:qh a c with
   |none=>simp_all
   |some j=>let(m,g):=j;rw[C]at e;ext e;let(y,e1,u,o):=uB A h.1 q;let i:Paired (λv pv=>abv K Y y Z H a v pv/\lg pv) k c:=Paired.aa3 t λv pv #[l,f]=>#[l.keep f e1,f];let(w,e2,R2,n):=sJ u i C;show#[w,e1.trans e2,R2,.cons (o.ev e2) n]
abbrev FN:=G D->Res RV
def Av(K:lD)(n:Nat)(F:FN):Sp:=λb H Q E=>b.length=n/\∃(B:bK) (ds:G D),(∀a,B a->H a≠R)/\Zc B K H b ds/\WR K E B H (Fin B K H Q) (F ds)
def b5(c:FA):FE:=λT=>(c T).bind λa=>(Res.YD (qh a.2 a.1)).bind λb=>if b.1.length<=1000 then .ok (.fz (.tuple b.1),b.2)else .bad
def ci(c:FA):FE:=λT=>(c T).bind λa=>(Res.YD (qh a.2 a.1)).bind λb=>if b.1.length<=1000 then .ok (.ow b.1,b.2)else .bad
theorem Au(h:n<=1000):n<=XY:=Ys h ()
def Ru(c:AO K E C J):EO K E (KK C) (b5 J):=by
 intro B Y O Z H T Q R w;show c B Y O Z H T _ R (w.bind.imp λa g p t r e1 l i=>?_);let((ds,f),q,b):=g.YD;let(o,e2,R2,e):=sJ l i q;dsimp only at b;by_cases hn:ds.length<=1000
 .rw[ax hn]at b;show#[by rw[e.length];show Au hn,Fin.afA e R2.od (mq R2 λm v n e3 j h=>b m v n (e1.trans (e2.trans e3)) j h)]
 .rw[aE hn]at b;show b.elim
def Pm(c:AO K E C J):EO K E (QG C) (ci J):=by
 intro B Y O Z H T Q R w;show c B Y O Z H T _ R (w.bind.imp λa g p t r e1 l i=>?_);let((ds,f),q,b):=g.YD;let(o,e2,R2,e):=sJ l i q;dsimp only at b;by_cases hn:ds.length<=1000
 .rw[ax hn]at b;show#[by rw[e.length];show Au hn,Fin.new e (mq R2 λm v n e3 j h=>b m v n (e1.trans (e2.trans e3)) j h)]
 .rw[aE hn]at b;show b.elim
def C5(K:lD)(r:G V->Hp->VK->Prop)(f:G D->z RV):Prop:=∀(O:bK) (H:Hp) (xs:G V) (ds:G D) (a:RV) (Q:VK),l6 O H->Paired (DX O K H) xs ds->f ds=M a->Fin O K H Q a->r xs H Q
def eE(f:G D->z RV)(c:FA):FE:=λT=>(c T).bind λa=>(Res.YD (ym a.2 a.1)).bind λds=>(Res.YD (f ds)).bind λb=>.ok (b.pv,a.2)
def OQ(l:C5 K r f)(c:AO K E C J):EO K E (D1 r C) (eE f J):=by intro B Y O Z H T Q R w;show c B Y O Z H T _ R (w.bind.imp λa g o u t e1 e j=>?_);let(ds,q,b):=g.YD;let(y,h,b):=b.YD;show l o t u ds y Q e.od (An e j q) h (mq e λn v p e4 m i=>b n v p (e1.trans e4) m i)
def VW:D->z Int
 |.int i=>M i
 |_=>R
def Qb(h:DX O K H x d)(e:VW d=M i):x=.int i:=by ext d<;>ext e;ext h;rfl
abbrev FO:=aU->Res (z Int×aU)
def Vd(K:lD)(E:XK)(t:TO)(f:FO):Prop:=
 ∀(B:bK) (Y:Hp) (O:bK) (Z:St) (H:Hp) (T:aU) (Q:z Int->Hp->Prop),Rl K B Y O Z H T->WR K E B Y (λr=>∀X S,Ev O H X S->Rl K B Y X Z S r.2->Q r.1 S) (f T)->t Z H Q
def sE(b:FE):FO:=λT=>(b T).bind λa=>(Res.YD (xb a.2 a.1)).bind λd=>(Res.YD (VW d)).bind λi=>.ok (M i,a.2)
def G1(c:EO K E o C):Vd K E (OJ o) (sE C):=by intro B Y O Z H T Q R w;show c B Y O Z H T _ R (w.bind.imp λa f j x l e1 e h=>?_);let(d,q,b):=f.YD;let(i,g,b):=b.YD;show#[i,Qb (lZ e h q) g,b j l e1 e]
def VQ(K:lD)(r:V->z Int->z Int->Hp->VK->Prop)(f:D->z Int->z Int->z RV):Prop:=∀(O:bK) (H:Hp) (x:V) (lo b:z Int) (e:D) (a:RV) (Q:VK),l6 O H->DX O K H x e->f e lo b=M a->Fin O K H Q a->r x lo b H Q
def Tb(f:D->z Int->z Int->z RV)(c:FE)(b e:FO):FE:=λT=>(c T).bind λa=>(b a.2).bind λl=>(e l.2).bind λh=>(Res.YD (xb h.2 (dn a.1))).bind λi=>(Res.YD (f i l.1 h.1)).bind λg=>.ok (g.pv,h.2)
def UE(q:VQ K r f)(c:EO K E ta fa)(t:Vd K E tl fl)(u:Vd K E th fh):EO K E (Wk r ta tl th) (Tb f fa fl fh):=by intro B Y O Z H T Q R w;show c B Y O Z H T _ R (w.bind.imp λa i P x N e1 A p=>?_);let(I,e2,R2,o):=jj A p;show t B Y I Z N a.2 _ R2 (i.bind.imp λl g G M e3 z=>?_);show u B Y G Z M l.2 _ z (g.bind.imp λh b F L e4 e=>?_);let(dx,j,b):=b.YD;let(rv,m,b):=b.YD;show q F L x l.1 h.1 dx rv Q e.od (lZ e (o.keep (qV a.1) (e3.trans e4)) j) m (mq e λC v J e5 y n=>b C v J (e1.trans (e2.trans (e3.trans (e4.trans e5)))) y n)
end
def wK{l:G α}(h:(l.set i x)[i]?=M y):i<l.length:=by
 rw[YT]at h;rw[ax W]at h;split at h
 .assumption
 .ext h
section
variable{K:lD}{E:XK}{B O U:bK}{Z H H':Hp}{Y:St}{ρ ρ':aU}{v:V}
def Rl.mut{i:Nat}{ds g:bg D}{a:XH}{f:bg V}(R:Rl K B Z O Y H ρ)(c:ρ[i]?=cL (cL (.ow ds)))(J:Y[i]?=cL (cL (.ref a)))(L:O a)(M:Z a=Ld)(hd:Zc O K H f g):
  Rl K B Z O Y (bf H a (.lst f)) (ρ.set i (cL (.ow g))):=by
 let ev:Ev O H O (bf H a (.lst f)):=Ev.mut L _;show#[λb o e=>by rw[az (bA e M)];show R.same b o e,R.bo,R.bd,λb m=>?_,by rw[YQ];show R.len,λj x l=>?_,λj k xs G w hj X A t=>?_]
 .by_cases e:b=a
  .rw[e,aI]at m;ext m
  .rw[az e]at m;show R.od b m
 .rcases bU l with⟨rfl,ee⟩|⟨r,l⟩
  .ext ee;show#[_,J,a,f,W,L,M,aI,hd.ev ev]
  .let(u,I,q):=R.slot j x l
   show#[u,I,?_];cases x with
   |fz d=>show DV.ev ev q
   |pl i=>show q
   |ow xs=>let(b,N,rfl,T,S,Q,P):=q;let F:b≠a:=λz=>r (R.one j i xs ds (.ref a) l c (by rw[I,z]) J);show#[b,N,W,T,S,by rw[az F];show Q,P.ev ev]
 .let own:∀{j:Nat} {xs:bg D},(ρ.set i (cL (.ow g)))[j]?=cL (cL (.ow xs))->∃G,ρ[j]?=cL (cL (.ow G)):=λ{j xs} h=>by
   rcases bU h with⟨rfl,_⟩|⟨_,h⟩
   .show#[_,c]
   .show#[_,h]
  let(p,C):=own hj;let(n,y):=own X;show R.one j k p n w C y A t
theorem rT(h:n<1000000):n<XY:=Yd h ()
def Hm:z (z PV)->z (G D)
 |some (M (.ow ds))=>M ds
 |_=>R
def CJ(h:Hm o=M ds):o=M (M (.ow ds)):=by
 unfold Hm at h;split at h
 .ext h;rfl
 .ext h
def xu(i:Nat)(c:FE):FE:=λρ=>(Res.YD (Hm ρ[i]?)).bind λ_=>(c ρ).bind λa=>(Res.YD (xj a.2 a.1)).bind λb=>(Res.YD (Hm b.2[i]?)).bind λds=>
 if ds.length<1000000 then .ok (.fz .none,b.2.set i (M (.ow (ds++[b.1]))))else .bad
def RN(p:EO K E te fe):EO K E (RZ K "list" wq (qE i) (ei te iL)) (xu i fe):=by
 intro B Z O Y H ρ Q R w;let(u,n,w):=w.YD;let(v,j,a,N,rfl,I,G,q,F):=R.slot i _ (CJ n);show#[_,j,.inl #[W,_,SqL.of q],?_];show p B Z O Y H ρ _ R (w.bind.imp λb e L y M e1 z o=>?_);let((d,l),m,e):=e.YD;let(A,e2,R2,t):=uB z o m;let(ds,f,e):=e.YD;let f:=CJ f;let(C,k1,J,g,r,k2,k3,k4,k5):=R2.slot i _ f;subst r;rw[j]at k1;ext k1;dsimp only at e;by_cases h:ds.length<1000000
 .rw[ax h]at e;show#[a,g,y,W,W,k4,rT (by rw[k5.length];show h),?_];show e A .Zw _ (e1.trans (e2.trans (Ev.mut k2 _))) (R2.mut f j k2 k3 (k5.append (.cons t .nil))) .Zw
 .rw[aE h]at e;show e.elim
abbrev FG:=PV->aU->Res aU
abbrev S6:=G D->aU->Res aU
def GO(K:lD)(E:XK)(g:TG)(f:FG):Prop:=
 ∀(B:bK) (Z:Hp) (O:bK) (Y:St) (H:Hp) (ρ:aU) (v:V) (pv:PV) (Q:St->Hp->Prop),Rl K B Z O Y H ρ->abv K Z O Y H ρ v pv->WR K E B Z (λρ'=>∀U a H',Ev O H U H'->Rl K B Z U a H' ρ'->Q a H') (f pv ρ)->g v Y H Q
def UA(K:lD)(E:XK)(g:AJ)(f:S6):Prop:=
 ∀(B:bK) (Z:Hp) (O:bK) (Y:St) (H:Hp) (ρ:aU) (b:G V) (ds:G D) (Q:St->Hp->Prop),Rl K B Z O Y H ρ->Zc O K H b ds->WR K E B Z (λρ'=>∀U a H',Ev O H U H'->Rl K B Z U a H' ρ'->Q a H') (f ds ρ)->g b Y H Q
def Rl.ajh(R:Rl K B Z O Y H ρ)(h:DV O K H v d):Rl K B Z O (Y.set i (M v)) H (ρ.set i (M (.fz d))):=by
 show#[R.same,R.bo,R.bd,R.od,by rw[YQ,YQ];show R.len,λj x f=>?_,λj k xs o w m l b a=>?_]
 .rcases bU f with⟨rfl,e⟩|⟨g,f⟩
  .ext e;let:=wK f;show#[v,by rw[YT,ax W,ax (by rw[R.len];show this)],h]
  .let(u,t,r):=R.slot j x f;show#[u,by rw[YT,aE (λz=>g z.symm)];show t,r]
 .rcases bU m with⟨rfl,n⟩|⟨q,m⟩
  .ext n
  .rcases bU l with⟨rfl,n⟩|⟨p,l⟩
   .ext n
   .rw[YT,aE (λz=>q z.symm)]at b;rw[YT,aE (λz=>p z.symm)]at a;show R.one j k xs o w m l b a
def Rl.alJ(R:Rl K B Z O Y H ρ)(h:abv K Z O Y H ρ v (.ow ds)):Rl K B Z O (Y.set i (cL v)) H (ρ.set i (cL (.ow ds))):=by
 let(a,N,rfl,J,I,G,F,q):=h;show#[R.same,R.bo,R.bd,R.od,by rw[YQ,YQ];show R.len,λj x m=>?_,λj k xs p w C l f b=>?_]
 .rcases bU m with⟨rfl,e⟩|⟨o,m⟩
  .ext e;let:=wK m;show#[.ref a,by rw[YT,ax W,ax (by rw[R.len];show this)],a,N,W,J,I,G,F]
  .let(u,y,t):=R.slot j x m;show#[u,by rw[YT,aE (λz=>o z.symm)];show y,t]
 .rcases bU C with⟨rfl,M⟩|⟨r,g⟩
  .rcases bU l with⟨rfl,L⟩|⟨n,l⟩
   .rfl
   .rw[YT,aE (λz=>n z.symm)]at b
    rcases bU f with⟨_,e⟩|⟨z,_⟩
    .ext e;show a7 b (q k p l)
    .show a7 W z
  .let A:=g
   rw[YT,aE (λz=>r z.symm)]at f;rcases bU l with⟨rfl,M⟩|⟨n,l⟩
   .rcases bU b with⟨_,e⟩|⟨z,_⟩
    .ext e;show a7 f (q j xs g)
    .show a7 W z
   .rw[YT,aE (λz=>n z.symm)]at b;show R.one j k xs p w g l f b
def gN(i:Nat):FG:=λpv ρ=>match pv with
 |.ow ds=>.ok (ρ.set i (M (.ow ds)))
 |.fz d=>.ok (ρ.set i (M (.fz d)))
 |.pl j=>(Res.YD (xj ρ (.pl j))).bind λb=>.ok (b.2.set i (M (.fz b.1)))
def wR:GO K E (mZ i) (gN i):=by
 intro B Z O Y H ρ v pv Q R p w;cases pv with
 |ow ds=>show w O _ H .refl (R.alJ p)
 |fz d=>show w O _ H .refl (R.ajh p)
 |pl j=>let((d,a),q,w):=WR.YD (show WR K E B Z _ ((Res.YD (xj ρ (.pl j))).bind λb=>.ok (b.2.set i (M (.fz b.1))))from w);let(f,e2,R2,e):=uB R p q;show w f _ H e2 (R2.ajh e)
def UX:S6:=λds ρ=>match ds with
 |[]=>.ok ρ
 |_=>.bad
def RB(f:FG)(g:S6):S6:=λds ρ=>match ds with
 |[]=>.bad
 |d::r=>(f (.fz d) ρ).bind λa=>g r a
def Rb:UA K E KO UX:=by
 intro B Z O Y H ρ b ds Q R a w;cases a with
 |nil=>show#[W,w O Y H .refl R]
 |cons _ _=>show w.elim
def NQ(n:GO K E t f)(m:UA K E u g):UA K E (Cd t u) (RB f g):=by
 intro B Z O Y H ρ C ds Q R o w;cases o with
 |nil=>show w.elim
 |cons l j=>rename_i v C d ds;show#[_,_,W,n B Z O Y H ρ _ (.fz d) _ R l (WR.imp (WR.bind w) λe i y b A e1 p=>?_)];show m B Z y b A e _ _ Q p (j.ev e1) (i.imp λh q r a z e2 R2=>q r a z (e1.trans e2) R2)
def Wm:D->z (G D)
 |.tuple ds=>M ds
 |_=>R
def Jv(h:DX O K H x d)(e:Wm d=M ds):∃a xs,x=.ref a/\abx O K H a xs/\Zc O K H xs ds:=by
 ext d<;>ext e;cases h with
 |tup h b=>show#[_,_,W,h,b]
def gT(n:Nat)(f:S6):FG:=λpv ρ=>(Res.YD (xb ρ pv)).bind λd=>(Res.YD (Wm d)).bind λds=>if ds.length=n then f ds ρ else .bad
def SX(h:UA K E t f):GO K E (ND K n t) (gT n f):=by
 intro B Z O Y H ρ v pv Q R p w;let(d,g,w):=w.YD;let(ds,e,w):=w.YD;let(a,xs,rfl,i,b):=Jv (lZ R p g) e;by_cases hn:ds.length=n
 .rw[ax hn]at w;show#[a,xs,W,i.1,b.length.trans hn,h B Z O Y H ρ xs ds Q R b w]
 .rw[aE hn]at w;show w.elim
inductive Fl where
 |nx (ρ:aU)
 |rt (rv:RV)
 |bk (ρ:aU)
 |ct (ρ:aU)
abbrev FS:=aU->Res Fl
def ae2(K:lD)(B:bK)(Z:Hp)(O:bK)(H:Hp)(D:Ends):Fl->Prop
 |.nx ρ'=>∀U a H',Ev O H U H'->Rl K B Z U a H' ρ'->D.nx a H'
 |.bk ρ'=>∀U a H',Ev O H U H'->Rl K B Z U a H' ρ'->D.bk a H'
 |.ct ρ'=>∀U a H',Ev O H U H'->Rl K B Z U a H' ρ'->D.ct a H'
 |.rt b=>Fin B K Z D.rt b
def SO(K:lD)(E:XK)(t:TS)(g:FS):Prop:=
 ∀(B:bK) (Z:Hp) (O:bK) (Y:St) (H:Hp) (ρ:aU) (D:Ends),Rl K B Z O Y H ρ->WR K E B Z (ae2 K B Z O H D) (g ρ)->t D Y H
def ae2.ev{D:Ends}(e:Ev O H O1 H1)(h:ae2 K B Z O H D fl):ae2 K B Z O1 H1 D fl:=by
 cases fl with
 |nx ρ'=>show λU a H' b f=>h U a H' (e.trans b) f
 |bk ρ'=>show λU a H' b f=>h U a H' (e.trans b) f
 |ct ρ'=>show λU a H' b f=>h U a H' (e.trans b) f
 |rt g=>show h
def d7:FS:=λρ=>.ok (.nx ρ)
def bw(f g:FS):FS:=λρ=>(f ρ).bind λa=>match a with
 |.nx b=>g b
 |a=>.ok a
def nK(f:FE):FS:=λρ=>(f ρ).bind λa=>.ok (.nx a.2)
def gL(f:FE)(g:FG):FS:=λρ=>(f ρ).bind λa=>(g a.1 a.2).bind λb=>.ok (.nx b)
def mL(c:FT)(f g:FS):FS:=λρ=>(c ρ).bind λa=>if a.1=P then f a.2 else g a.2
def Eh(ρ:aU):PV->z RV
 |.fz d=>M (.fz d)
 |.ow ds=>M (.ow ds)
 |.pl i=>match ρ[i]? with
  |some (M (.fz d))=>M (.fz d)
  |some (M (.ow ds))=>M (.ow ds)
  |_=>R
def dJ(f:FE):FS:=λρ=>(f ρ).bind λa=>(Res.YD (Eh a.2 a.1)).bind λb=>.ok (.rt b)
theorem ME:SO K E IC d7:=λB Z O Y H ρ D R w=>w O Y H .refl R
def Re(j:SO K E t f)(i:SO K E u g):SO K E (EB t u) (bw f g):=by
 intro B Z O Y H ρ D R w;show j B Z O Y H ρ {D with nx:=u D} R (WR.imp (WR.bind w) λh b=>?_);cases h with
 |nx a=>show λm e n e1 l=>i B Z m e n a D l (WR.imp b λh q=>q.ev e1)
 |rt o=>show b
 |bk a=>show b
 |ct a=>show b
def Mw(h:EO K E t f):SO K E (yG t) (nK f):=by intro B Z O Y H ρ D R w;show h B Z O Y H ρ _ R (w.bind.imp λa b g x i e1 e j=>b g Y i e1 e)
def HA(h:EO K E t f)(m:GO K E g C):SO K E (vB t g) (gL f C):=by intro B Z O Y H ρ D R w;show h B Z O Y H ρ _ R (w.bind.imp λa j p x r e1 n l=>?_);show m B Z p Y r a.2 x a.1 _ n l (j.bind.imp λe i o b q e2 R2=>i o b q (e1.trans e2) R2)
def UW(m:TTO K E c C)(o:SO K E t f)(n:SO K E u g):SO K E (Kx c t u) (mL C f g):=by
 intro B Z O Y H ρ D R w;show m B Z O Y H ρ _ R (w.bind.imp λa h j l e1 i=>?_);let(b,e):=a;cases b with
 |true=>show o B Z j Y l e D i (WR.imp h λp q=>q.ev e1)
 |false=>show n B Z j Y l e D i (WR.imp h λp q=>q.ev e1)
def Rk{pv:PV}(R:Rl K B Z O Y H ρ)(p:abv K Z O Y H ρ v pv)(e:Eh ρ pv=M C)(w:Fin B K Z Q C):Q v H:=by
 let ow:∀{a:I} {A:G V} {ds:G D},O a->Z a=Ld->H a=M (.lst A)->Zc O K H A ds->Fin B K Z Q (.ow ds)->Q (.ref a) H:=λ{a A ds} m l g f w=>
  w a A H R.same l g (f.ev (Ev.sub λb z=>z.elim (R.bo b) λe=>by simp_all))
 let fz:∀{d:D},DV O K H v d->Fin B K Z Q (.fz d)->Q v H:=λ{d} h w=>w v H R.same (h.ev (Ev.sub R.bo));cases pv with
 |fz d=>ext e;show fz p w
 |ow ds=>ext e;let(a,A,rfl,m,l,g,f,y):=p;show ow m l g f w
 |pl i=>
  let t:=p;unfold Eh at e;dsimp only at e;cases q:ρ[i]? with
  |none=>simp_all
  |some o=>
   cases o with
   |none=>simp_all
   |some x=>
    let(u,r,n):=R.slot i x q;rw[t]at r;ext r;rw[q]at e;cases x with
    |fz d=>ext e;show fz n w
    |ow ds=>ext e;let(a,A,rfl,m,l,g,f):=n;show ow m l g f w
    |pl j=>show n.elim
def SB(h:EO K E t f):SO K E (Ks t) (dJ f):=by intro B Z O Y H ρ D R w;show h B Z O Y H ρ _ R (w.bind.imp λa b i x j e1 g e=>?_);let(l,q,b):=b.YD;show Rk g e q b
def zR(K:lD)(J:It)(O:bK)(H:Hp)(ds:G D):Prop:=∀U H',Ev O H U H'->l6 U H'->
 (∀i,i<ds.length->J.go i H'/\∀x a,J.yld i H' x a->Zi H' a/\∃d,ds[i]?=M d/\DV U K a x d)/\J.stop ds.length H'
abbrev FI:=aU->Res (G D×aU)
def IO(K:lD)(E:XK)(b:TI)(e:FI):Prop:=
 ∀(B:bK) (Z:Hp) (O:bK) (Y:St) (H:Hp) (ρ:aU) (a:It->Hp->Prop),Rl K B Z O Y H ρ->WR K E B Z (λr=>∀U J H',Ev O H U H'->Rl K B Z U Y H' r.2->zR K J U H' r.1->a J H') (e ρ)->b Y H a
def p7(gt:FG)(b:FS):G D->FS
 |[],ρ=>.ok (.nx ρ)
 |d::r,ρ=>(gt (.fz d) ρ).bind λa=>(b a).bind λe=>match e with
  |.nx f=>p7 gt b r f
  |.ct f=>p7 gt b r f
  |.bk f=>.ok (.nx f)
  |.rt g=>.ok (.rt g)
def pE(e:FI)(gt:FG)(b:FS):FS:=λρ=>(e ρ).bind λa=>p7 gt b a.1 a.2
def Rq(c:IO K E wi fi)(X:GO K E g gt)(k:SO K E tb b):SO K E (LM wi g tb) (pE fi gt b):=by
 intro B Z O Y H ρ D R w;show c B Z O Y H ρ _ R (w.bind.imp λa M F J S e1 Q P=>?_);let(ds,C):=a;dsimp only at M P Q;show#[λi m f H'=>m=ds.length - i/\i<=ds.length/\∃O2 ρ2,Ev F S O2 H'/\Rl K B Z O2 f H' ρ2/\WR K E B Z (ae2 K B Z O H D) (p7 gt b (ds.drop i) ρ2),#[_,W,YC _,F,C,.refl,Q,M],?_];rintro i m o L ⟨rfl,c,O2,ρ2,e2,R2,w2⟩;let(go,p):=P O2 L e2 R2.od;by_cases j:i<ds.length
 .let(g1,g2):=go i j
  show .inr #[g1,λf H'=>i+1<=ds.length/\∃O2 ρ2,Ev F S O2 H'/\Rl K B Z O2 f H' ρ2/\WR K E B Z (ae2 K B Z O H D) (p7 gt b (ds.drop (i+1)) ρ2),λf H' #[h1,h2]=>#[ds.length - (i+1),by ext,W,h1,h2],λx I y=>?_];let(N,d,hd,dv):=g2 x I y;let ed:ds.drop i=d::ds.drop (i+1):=by let(_,q):=XB.mp hd;rw[Z0 j,q]
  rw[ed]at w2;let e3:Ev O2 L O2 I:=Ev.grow N;show X B Z O2 o I ρ2 x (.fz d) _ (R2.grow N) dv (WR.imp (WR.bind w2) λA T O4 z H4 e4 R4=>?_);let n:=e2.trans (e3.trans e4);show k B Z O4 z H4 A _ R4 (WR.imp (WR.bind T) λfl u=>?_);cases fl with
  |nx h=>show λt l G e5 r=>#[j,t,h,n.trans e5,r,u]
  |ct h=>show λt l G e5 r=>#[j,t,h,n.trans e5,r,u]
  |bk h=>show λt l G e5 r=>u t l G (e1.trans (n.trans e5)) r
  |rt rv=>show u
 .let e:i=ds.length:=by ext
  subst e;rw[aae (XO _)]at w2;show .inl #[p,w2 O2 o L (e1.trans e2) R2]
def eW:D->z (G D)
 |.tuple ds=>M ds
 |.list ds=>M ds
 |_=>R
def Fk(K:lD)(e:TE):TI:=λY H R=>e Y H λx b=>∃a,x=.ref a/\(((∃xs,SqL K b a xs)/\R (VX K a) b)\/((∃xs,SqT K b a xs)/\R (Vy K a) b))
def II(y:PE X l C):PI X J l (Fk X.K C):=by
 intro i s Y H R I h;show bZ (y i s Y H _ I h) λv g a=>?_;let(x,r,f,t,u):=a;let(a,e,q):=u;subst e;ext t;rcases q with⟨⟨xs,j⟩,q⟩|⟨⟨xs,j⟩,q⟩
 .let(n,A,p,w):=f.list j
  show aaR p.isList ?_;show#[g.heap.objs.size,[g.heap.objs.size],_,_,r,W,f.kept λb o e=>b4 _ e,DM a _,#[_,ck _ W,W,W],λb m=>?_,q];let e:b=g.heap.objs.size:=by simpa using m
  subst e;show f.adk (XO _) (f.YX.fresh (XO _))
 .let(n,A,p,w):=f.tuple j
  show ab0 (show g.heap.IsTuple a n.toArray from p) ?_;show#[g.heap.objs.size,[g.heap.objs.size],_,_,r,W,f.kept λb o e=>b4 _ e,Aw a _,#[_,ck _ W,W,W],λb m=>?_,q];let e:b=g.heap.objs.size:=by simpa using m
  subst e;show f.adk (XO _) (f.YX.fresh (XO _))
def Cg(h:acv O K H a xs)(hd:Zc O K H xs ds):zR K (VX K a) O H ds:=by intro U H' e n;let f:=h.ev e;let b:=hd.ev e;show#[λi p=>?_,#[xs,f.1.sq,by rw[hd.length];show XO _]];let(x,l,_):=b.get (XM p);show#[#[xs,x,f.1.sq,l],?_];rintro y m ⟨rfl,o⟩;let(d,j,g):=b.ahq (o xs f.1.sq);show#[Zi.refl _,d,j,g]
def Ie(h:abx O K H a xs)(hd:Zc O K H xs ds):zR K (Vy K a) O H ds:=by intro U H' e n;let f:=h.ev e;let b:=hd.ev e;show#[λi p=>?_,#[xs,f.1,by rw[hd.length];show XO _]];let(x,l,_):=b.get (XM p);show#[#[xs,x,f.1,l],?_];rintro y m ⟨rfl,o⟩;let(d,j,g):=b.ahq (o xs f.1);show#[Zi.refl _,d,j,g]
def eT(c:FE):FI:=λρ=>(c ρ).bind λa=>(Res.YD (xj a.2 a.1)).bind λb=>(Res.YD (eW b.1)).bind λds=>.ok (ds,b.2)
def SH(h:EO K E C J):IO K E (Fk K C) (eT J):=by
 intro B Z O Y H ρ o R w;show h B Z O Y H ρ _ R (w.bind.imp λa b p x i e1 n l=>?_);let((d,j),q,b):=b.YD;let(g,e2,R2,m):=uB n l q;let(ds,e,b):=b.YD;dsimp only at e;cases m with
 |tup h f=>ext e;show#[_,W,.inr #[#[_,h.1],b g _ i (e1.trans e2) R2 (Ie h f)]]
 |lst h f=>ext e;show#[_,W,.inl #[#[_,h.1.sq],b g _ i (e1.trans e2) R2 (Cg h f)]]
 |_=>ext e
def fM(lo:Int)(n:Nat):G D:=(XD n).map λ(k:Nat)=>.int (lo+(k:Int))
def xW:zR K (Vp lo n) O H (fM lo n):=by
 intro U H' e f;let a:(fM lo n).length=n:=by ext fM;simp_all
 show#[λi g=>?_,by show n<=_;rw[a];show XO _];rw[a]at g;show#[g,?_];rintro x b ⟨rfl,rfl⟩;show#[Zi.refl _,.int (lo+i),by ext fM;simp_all,.int _]
def jI(i:Int):Prop:= -(2^62)<=i/\i<2^62
noncomputable instance(i:Int):Decidable (jI i):=by ext jI;infer_instance
def fP:G D->z (G D)
 |[.int j]=>if jI j then M (fM 0 j.toNat)else R
 |_=>R
def jP(f:G D->z (G D))(b:FA):FI:=λρ=>(b ρ).bind λa=>(Res.YD (ym a.2 a.1)).bind λds=>(Res.YD (f ds)).bind λxs=>.ok (xs,a.2)
def KC(h:AO K E C J):IO K E (Hw C) (jP fP J):=by
 intro B Z O Y H ρ r R w;show h B Z O Y H ρ _ R (w.bind.imp λa e o t p e1 g l=>?_);let(ds,q,e):=e.YD;let(xs,b,e):=e.YD;let i:=An g l q;unfold fP at b;split at b
 .rename_i j
  split at b
  .rename_i f
   ext b;cases i with
   |cons n m=>ext m;ext n;show#[j,W,f.1,f.2,e o _ p e1 g xW]
  .ext b
 .ext b
end
section
variable{K:lD}{E:XK}{B O Y:bK}{X H H':Hp}{Z:St}{ρ ρ':aU}{v:V}
def Gw:z PV->z PV
 |some (.fz d)=>M (.fz d)
 |_=>R
def df(ρ:aU):aU:=ρ.map Gw
def zr{i:Nat}(h:(df ρ)[i]?=M (M x)):∃d,x=.fz d/\ρ[i]?=M (M (.fz d)):=by
 unfold df at h;rw[XS]at h;cases q:ρ[i]? with
 |none=>simp_all
 |some o=>
  rw[q]at h;let a:=X1 h;unfold Gw at a;split at a
  .ext a;show#[_,W,W]
  .ext a
def uP(ρ:aU):G Nat->z (G D×aU)
 |[]=>M ([],ρ)
 |j::r=>match xj ρ (.pl j)with
  |some (d,b)=>(match uP b r with
   |some (c,a)=>M (d::c,a)
   |none=>R)
  |none=>R
def DW(R:Rl K B X O Z H ρ)(h:xj ρ (.pl i)=M (d,ρ')):∃v,Z[i]?=M (M v):=by
 let a:Vw ρ i ρ[i]?=M (d,ρ'):=h;cases q:ρ[i]? with
 |none=>rw[q]at a;ext a
 |some o=>
  cases o with
  |none=>rw[q]at a;ext a
  |some x=>let(v,b,_):=R.slot i x q;show#[v,b]
theorem yu:∀{s:G Nat} {ds:G D} {O:bK} {ρ ρ':aU},Rl K B X O Z H ρ->uP ρ s=M (ds,ρ')->∃Y k,Ev O H Y H/\Rl K B X Y Z H ρ'/\Zc Y K H k ds/\s.map (λj=>(Z[j]?).join)=k.map M
 |[],_,O,_,_,t,e=>by ext e;show#[O,[],.refl,t,.nil,W]
 |j::r,_,O,ρ,ρ',t,e=>by
  unfold uP at e;cases q:xj ρ (.pl j)with
  |none=>simp_all
  |some p=>
   let(d,a):=p;rw[q]at e;dsimp only at e;cases u:uP a r with
   |none=>simp_all
   |some f=>let(c,b):=f;rw[u]at e;ext e;let(v,g):=DW t q;let(o,e1,l,i):=uB (pv:=.pl j) t g q;let(m,k,e2,R2,h,n):=yu l u;show#[m,v::k,e1.trans e2,R2,.cons (i.ev e2) h,by simp_all]
def di(gt:FG)(c:FT)(f:FE):G D->aU->G D->Res (G D)
 |[],_,acc=>.ok acc
 |d::r,ρ,acc=>(gt (.fz d) ρ).bind λe=>(c e).bind λb=>if b.1=P then(f b.2).bind λa=>(Res.YD (xj a.2 a.1)).bind λx=>
   if acc.length<1000000 then di gt c f r (df x.2) (acc++[x.1])else .bad
  else di gt c f r (df b.2) acc
def j4:Res α->Res α
 |.er _=>.bad
 |r=>r
def de(n:Nat)(e:G Nat)(b:FI)(gt:FG)(f:FT)(g:FE):FE:=λρ=>(b ρ).bind λa=>(Res.YD (uP a.2 e)).bind λc=>
 (j4 (di gt f g a.1 (XU n R++c.1.map λd=>M (.fz d)) [])).bind λxs=>.ok (.ow xs,c.2)
def Ci{own:G Str}(h:own.length=n):own.map (λ_=>(R:z V))=XU n R:=by
 subst h
 induction own with
 |nil=>rfl
 |cons x r a=>grind
def BN(h:WR K E B X b (j4 r)):∃a,r=.ok a/\b a:=by
 cases r with
 |ok a=>show#[a,W,h]
 |er x=>show h.elim
 |bad=>show h.elim
def T7(K:lD)(J:It)(O:bK)(H:Hp)(ds:G D):Prop:=∀Y H',Ev O H Y H'->Zi H H'->l6 Y H'->
 (∀i,i<ds.length->J.go i H'/\∀x a,J.yld i H' x a->Zi H' a/\∃d,ds[i]?=M d/\DV Y K a x d)/\J.stop ds.length H'
def V4(K:lD)(E:XK)(b:TI)(e:FI):Prop:=
 ∀(B:bK) (X:Hp) (O:bK) (Z:St) (H:Hp) (ρ:aU) (a:It->Hp->Prop),Rl K B X O Z H ρ->WR K E B X (λr=>∀Y J H',Ev O H Y H'->Rl K B X Y Z H' r.2->T7 K J Y H' r.1->a J H') (e ρ)->b Z H a
theorem IO.s(h:IO K E wi fi):V4 K E wi fi:=λB X O Z H ρ b R w=>h B X O Z H ρ b R (w.imp λr q Y J H' e R a=>q Y J H' e R λf g e2 _ n=>a f g e2 n)
def tq(c:own.length=n)(hf:fv.map (·.2)=fj)
  (hi:V4 K E wi fi) (hg:GO K E0 g gt) (ht:TTO K E0 tc ft) (he:EO K E0 te fe):EO K E (pP own fv wi g tc te) (de n fj fi gt ft fe):=by
 intro B X O Z H ρ Q R w;show hi B X O Z H ρ _ R (w.bind.imp λa w1 O1 J H1 e1 R1 it=>?_);let(ds,ρ1):=a;let((cs,ρ2),qc,w1):=w1.YD;dsimp only at qc it;let(I,vs,e2,R2,dvs,hvs):=yu R1 qc;let(xs,qx,w1):=BN (WR.bind w1);intro l F;let hB:∀{H':Hp},Zi H1 H'->H' l≠Ld->∀a,cJ I l a->H' a≠Ld:=λ{H'} s nd a h z=>h.elim (λq=>R2.od a (s.free z) q) λe=>nd (by rw[<-e];show z);show#[λi m L H'=>m=ds.length - i/\i<=ds.length/\∃(A:bg D) (G:bg V) (t:aU),Zi H1 H'/\H' l=cL (.lst G)/\Zc (cJ I l) K H' G A/\L.length=t.length/\(∀(j:Nat) (x:PV),t[j]?=cL (cL x)->∃d u,x=PV.fz d/\L[j]?=cL (cL u)/\DV (cJ I l) K H' u d)/\di gt ft fe (ds.drop i) t A=.ok xs,
  #[_,W,YC _,[],[],_,bO F _,aI,.nil,?_,λj x M=>?_,qx],?_]
 .ext i7
  rw[XJ,XJ,Xz,Xz,Y0,Xz,c,<-dvs.length];let:=ec abG hvs
  grind
 .let hm:fv.map (λp=>(Z[p.2]?).join)=vs.map cL:=by rw[<-hvs,<-hf,Yg];rfl
  ext i7;rw[Ci c,hm];by_cases hj:j<n
  .rw[XT (by rw[Y0];show hj),ZC,ax hj]at M;ext M
  .rw[Yn (by rw[Y0];ext),Y0,XS]at M⊢
   cases qd:cs[j - n]? with
   |none=>rw[qd]at M;ext M
   |some d=>rw[qd]at M;ext M;let(u,hu,du):=dvs.get qd;show#[d,u,W,by rw[hu];rfl,du.ev (Ev.add (bO F _) F)]
 .rintro i m L H' ⟨rfl,hi,A,G,t,s,hD,dys,hl,hsl,f⟩
  let nD:H' l≠Ld:=by rw[hD];simp
  let no':=λa z h=>hB s nD a h z;let ev1:=e2.trans (Ev.add s F);let(go,stop):=it (cJ I l) H' ev1 s no';by_cases T:i<ds.length
  .let(g1,g2):=go i T
   show .inr #[g1,λC N=>i+1<=ds.length/\∃(A:bg D) (G:bg V) (t:aU),Zi H1 N/\N l=cL (.lst G)/\Zc (cJ I l) K N G A/\C.length=t.length/\(∀(j:Nat) (x:PV),t[j]?=cL (cL x)->∃d u,x=PV.fz d/\C[j]?=cL (cL u)/\DV (cJ I l) K N u d)/\di gt ft fe (ds.drop (i+1)) t A=.ok xs,
    λC N #[h1,h2]=>#[ds.length - (i+1),by ext,W,h1,h2],λx H3 y=>?_]
   let(s3,d,hd,dv):=g2 x H3 y;let ed:ds.drop i=d::ds.drop (i+1):=by let(_,q):=XB.mp hd;rw[Z0 T,q]
   rw[ed]at f;let hD3:=s3 _ _ hD;let nD3:H3 l≠Ld:=by rw[hD3];simp
   let sv:=s.trans s3;let RC:Rl K (cJ I l) H3 (cJ I l) L H3 t:=#[Zi.refl _,λ_ h=>h,hB sv nD3,λa z h=>hB sv nD3 a h z,hl,λj x M=>by let(d,u,rfl,h1,h2):=hsl j x M;show#[u,h1,h2.ev (Ev.grow s3)],λj k xs G w hj=>by let(d,u,e,_):=hsl j _ hj;ext e];unfold di at f;let back:∀{O5:bK} {C:St} {N:Hp} {Pz0:aU} {H6:Hp},Rl K (cJ I l) H3 O5 C N Pz0->(∀b o,b≠l->N b=cL o->H6 b=cL o)->C.length=(df Pz0).length/\∀(j:Nat) (x:PV),(df Pz0)[j]?=cL (cL x)->∃d u,x=PV.fz d/\C[j]?=cL (cL u)/\DV (cJ I l) K H6 u d:=λ{O5 C N Pz0 H6} U k=>by show#[by ext df;rw[Xz];show U.len,λj x M=>?_];let(d,rfl,hxx):=zr M;let(u,h1,h2):=U.slot j _ hxx;show#[d,u,W,h1,DV.ev (λb o h n=>#[k b o (λe=>n (.inr e)) h,n]) (DV.ev (Ev.sub U.bo) h2)]
   show hg _ _ _ L H3 t x (.fz d) _ RC dv ?_;cases qg:gt (.fz d) t with
   |er z=>rw[qg]at f;ext f
   |bad=>rw[qg]at f;ext f
   |ok ρ3=>
    rw[qg,eh]at f;intro O4 σ4 H4 e4 R4;show ht _ _ _ σ4 H4 ρ3 _ R4 ?_;cases qt:ft ρ3 with
    |er z=>rw[qt]at f;ext f
    |bad=>rw[qt]at f;ext f
    |ok b=>
     let(b,ρ4):=b;rw[qt,eh]at f;intro O5 N e5 U;cases b with
     |false=>rw[aE X9]at f⊢;let(l5,k5):=back U λb o _ h=>h;show#[T,A,G,df ρ4,sv.trans U.same,U.same _ _ hD3,?_,l5,k5,f];show dys.ev (Ev.grow (s3.trans U.same))
     |true=>
      rw[ax W]at f⊢;show he _ _ _ σ4 N ρ4 _ U ?_;cases qe:fe ρ4 with
      |er z=>rw[qe]at f;ext f
      |bad=>rw[qe]at f;ext f
      |ok r=>
       rw[qe,eh]at f;intro O6 yv H6 e6 R6 p6;cases q7:xj r.2 r.1 with
       |none=>rw[q7]at f;ext f
       |some xr=>
        let(xd,ρ7):=xr;rw[q7]at f;let(O7,e7,R7,dv7):=uB R6 p6 q7;let hD7:=R7.same _ _ hD3;let S:(if A.length<1000000 then di gt ft fe (ds.drop (i+1)) (df ρ7) (A++[xd])else .bad)=.ok xs:=f;by_cases hl6:A.length<1000000
        .rw[ax hl6]at S
         let up:∀b o,b≠l->H6 b=cL o->bf H6 l (.lst (G++[yv])) b=cL o:=λb o hb h=>by rw[az hb];show h
         let c9:Ev (cJ I l) H6 (cJ I l) (bf H6 l (.lst (G++[yv]))):=λb o h n=>#[up b o (λe=>n (.inr e)) h,n];let amb:=dys.ev (Ev.grow (s3.trans R7.same));let(l5,k5):=back R7 up;show#[G,hD7,rT (by rw[dys.length];show hl6),T,A++[xd],G++[yv],df ρ7,λb o h=>?_,aI,?_,l5,k5,S]
         .rw[az (bA h F)];show R7.same _ _ (sv _ _ h)
         .show(amb.append (.cons (DV.ev (Ev.sub R7.bo) dv7) .nil)).ev c9
        .rw[aE hl6]at S;ext S
  .let e:i=ds.length:=by ext
   subst e;rw[aae (XO _)]at f;let f:=f;ext f;show .inl #[stop,?_];show w1 (cJ I l) (.ref l) H' (e1.trans ev1) (R2.add s F nD) #[l,G,W,.inr W,R2.agU F,hD,dys,λk es hk z=>?_];let(u,h1,b,us,e2,g1,g2,g3,g4):=R2.slot k _ hk;rw[z]at h1;ext h1;ext e2;rw[F]at g3;ext g3
def eA(F:FN)(n:Nat)(c:FA):FE:=λρ=>(c ρ).bind λa=>(Res.YD (qh a.2 a.1)).bind λb=>if b.1.length=n then(j4 (F b.1)).bind λe=>.ok (e.pv,b.2)else .bad
def RH(c:AO K E C J):EO K E (jW (Av K n F) [] E0 C) (eA F n J):=by
 intro B X O Z H ρ Q R w;show c B X O Z H ρ _ R (w.bind.imp λa g u A y e1 o j=>?_);let((ds,f),q,b):=g.YD;let(r,e2,R2,e):=sJ o j q;dsimp only at b;by_cases hn:ds.length=n
 .rw[ax hn]at b;let(L,h,b):=BN (WR.bind b);rw[Yl];show#[e.length.trans hn,r,ds,λa z l=>R2.od a l z,e,?_];rw[h];show mq R2 λp v t e3 m i=>b p v t (e1.trans (e2.trans e3)) m i
 .rw[aE hn]at b;show b.elim
end
def fV(N:Nat)(g:FS):FN:=λds=>(g (ds.map (λd=>M (.fz d))++XU (N - ds.length) R)).bind λa=>match a with
 |.rt b=>.ok b
 |.nx _=>.ok (.fz .none)
 |_=>.bad
def Jh(g:∀a,B a->H a≠R)(l:Zc B K H C ds):Rl K B H B (L2.start N C) H (ds.map (λd=>M (.fz d))++XU (N.length - ds.length) R):=by
 let r:=l.length;show#[Zi.refl _,λ_ h=>h,g,λa z h=>g a h z,?_,λi x m=>?_,λi j xs p w t=>?_]
 .ext L2.start;simp_all
 all_goals
  let b:∀{i:Nat} {x:PV},(ds.map (λd=>M (PV.fz d))++XU (N.length - ds.length) R)[i]?=M (M x)->∃d,x=.fz d/\ds[i]?=M d:=λ{i x} h=>by
   by_cases t:i<ds.length
   .rw[XT (by rw[Xz];show t),XS]at h
    cases q:ds[i]? with
    |none=>rw[q]at h;ext h
    |some d=>rw[q]at h;ext h;show#[d,W,W]
   .rw[Yn (by rw[Xz];ext),ZC]at h;split at h<;>ext h
 .let(d,rfl,n):=b m;let(v,f,o):=l.get n;show#[v,?_,o];let t:=(XB.mp f).1;ext L2.start;rw[XT (by rw[Xz];show t),XS,f];rfl
 .let(d,e,_):=b t;ext e
def W1(F:Fun K x qual st f fd)(S:ZF N ps (av st))(c:ps.length=n)
  (b:∀(a:U) (A:Ym) (outer:G Env) (s:XI) (H:Hp) (E:XK),Zp k (A.deeper (Yt qual (av st) s.heap.objs.size f a))->
   ∃t,PSs (eO lK C w K mg base N qual (av st) f a A outer s H E).nox (bW st) t/\SO K E t g):FnOk C w K mg base lK (k+1) f fd ps (Av K n (fV N.length g)):=by
 show F.ok S (λL H Q E h=>h.1.trans c.symm) (λa A outer s H L Q E m h=>?_);let(t,j,l):=b a A outer s H E m;let(v,B,ds,o,r,h):=h;show#[t,j,l B H B _ H _ _ (Jh o r) (WR.imp (WR.bind h) λp q=>?_)];cases p with
 |rt T=>show q
 |nx J=>show λy i u e R=>q .Zw u R.same .Zw
 |bk J=>show q.elim
 |ct J=>show q.elim
end L3
namespace L3
open PySem PySem.Spec PyProof.Rows L2
def OpR.or(h:OpR X f r)(c:OpR X f r'):OpR X f (λx y H Q=>r x y H Q\/r' x y H Q):=by
 intro a s b H x y v u Q I g e q;rcases q with q|q
 .show h a s b H x y v u Q I g e q
 .show c a s b H x y v u Q I g e q
def QP(I:Inv X pins σ H s)(h:aaE X.K H l xs):xs.length<=XY/\∃(a:G U) (n:Nat),Vals xs a/\xs.length=a.length/\s.heap.get? l=M {cls:=.type "list",data:=.seq a.toArray n}:=by
 rcases h with(h|⟨o,h⟩)|⟨a,n,h1,f,b⟩
 .show I.ahm h
 .let(_,z,a,n,r,e):=I.YX l _ h;show#[z,a,n,r,r.length,e]
 .show#[f,a,n,b,b.length,I.kIn _ _ h1]
def Oc(K:lD):R2:=λx y H Q=>∃l b xs zs,x=.ref l/\y=.ref b/\aaE K H l xs/\aaE K H b zs/\xs.length+zs.length<=XY/\∀p,H p=R->Q (.ref p) (bf H p (.lst (xs++zs)))
def NG:OpR X (Zf .Add) (Oc X.K):=by
 intro f s A H x y v u Q I j i h;let(l,b,xs,B,rfl,rfl,p,t,F,q):=h;ext j;ext i;let(z,g,n,r,G,e):=QP I p;let(C,a,E,m,o,e2):=QP I t;show PySem.P.add_list e e2 ?_ (by simp_all);let w:g.toArray++a.toArray=(g++a).toArray:=by simp
 rw[w];show#[.ref _,_,I.ajm (r.append m) (by simp_all),W,q _ I.fresh]
def Pj(K:lD):R2:=λx y H Q=>∃l k xs,x=.ref l/\y=.int k/\aaE K H l xs/\ -(2^63)<=k/\k<2^63/\xs.length*k.toNat<=XY/\
 ∀p,H p=R->Q (.ref p) (bf H p (.lst (XU k.toNat xs).flatten))
def M3:OpR X (Zf .Mult) (Pj X.K):=by
 intro p s O H x y v u Q I E C h;let(l,k,xs,rfl,rfl,J,M,L,G,q):=h;ext E;let(t,rfl):=C;let(z,b,n,r,R,e):=QP I J;let f:b.toArray.size*k.toNat<=XY:=by simp_all
 let j:¬b.toArray.size*k.toNat>(2^63 - 1)/8:=by
  let:(XY:Nat)<=(2^63 - 1)/8:=by decide
  ext
 let i:¬(!Yw.List.listFitsIndex k)=XA:=by rw[fitsIndex_both M L];simp_all
 let g:¬Yw.List.listTooLong (b.toArray.size*k.toNat)=XA:=by rw[Jy f];simp_all
 let o:abl (λA w=>A++w) #v[] (XU (if b.toArray.isEmpty=XA then 0 else k.toNat) b.toArray)=(XU k.toNat b).flatten.toArray:=by
  let N:=λm=>by let:=oO b m [];rw[Z7]at this;show this
  rw[N];cases b with
  |nil=>simp
  |cons a P=>rfl
 show aeG () #[_,e,W] (λB=>acC B k t) noFill_list_mul F.fills_int_mul F.slot_int_rmul repeat_list F.slot_int_index.lookup
  (aaD F.slot_int_rmul (acC s k t) F.entry_int_rmul (F.args_int_rmul_2 _ _) (int___rmul___int_list k t l b.toArray n)
   #[e,W,#[_,e,W],aaD F.slot_list_mul #[_,e,W] F.entry_list_mul (F.args_list_mul_2 _ _) (AutoListH.list___mul___list_int_3 l b.toArray n k t i j g) #[e,?_]])
 rw[o];show#[.ref _,_,I.ajm (r.rep k.toNat) (by rw[BV,Nat.mul_comm];show G),W,q _ I.fresh]
section
variable{K:lD}
def fI(g:Int->Int->Int):D->D->z RV
 |.int i,.int j=>M (.fz (.int (g i j)))
 |_,_=>R
def fB(g:Int->Int->Bool):D->D->z RV
 |.int i,.int j=>M (.fz (.bool (g i j)))
 |_,_=>R
def QE(C:Int->Int->Bool)(g:Int->Int->Int):D->D->z RV
 |.int i,.int j=>if C i j=P then M (.fz (.int (g i j)))else R
 |_,_=>R
def GZ(h:fI g J C=M o):∃i j,J=.int i/\C=.int j/\o=.fz (.int (g i j)):=by
 unfold fI at h;split at h
 .ext h;show#[_,_,W,W,W]
 .ext h
def OT:kZ K (y9 λi j=>.int (g i j)) (fI g):=by intro O H x y l f h Q n b a e q;let(i,j,rfl,rfl,rfl):=GZ e;ext b;ext a;show#[i,j,W,W,q.at (.int _)]
def Jp:kZ K (y9 λi j=>.bl (g i j)) (fB g):=by
 intro O H x y l f h Q n b a e q;unfold fB at e;split at e
 .ext e;ext b;ext a;show#[_,_,W,W,q.at (.bl _)]
 .ext e
def tm(h:∀i j,C i j=P->o i j):kZ K (rI o λi j=>.int (g i j)) (QE C g):=by
 intro O H x y p l m Q n b a e q;unfold QE at e;split at e
 .split at e
  .rename_i f;ext e;ext b;ext a;show#[_,_,W,W,h _ _ f,q.at (.int _)]
  .ext e
 .ext e
theorem A3(h:DX O K H x (.list ds)):∃a xs,x=.ref a/\aaE K H a xs/\Zc O K H xs ds:=h
theorem FP(h:DX O K H x (.tuple ds)):∃a xs,x=.ref a/\abx O K H a xs/\Zc O K H xs ds:=Jv h W
def N0(K:lD):R2:=λx y H Q=>y9 (λi j=>.int (i+j)) x y H Q\/Oc K x y H Q\/OE K x y H Q
theorem NO:OpR X (Zf .Add) (N0 X.K):=OpR.or So (OpR.or NG Kc)
def c7:D->D->z RV
 |.int i,.int j=>M (.fz (.int (i+j)))
 |.list xs,.list ys=>if xs.length+ys.length<=1000000 then M (.ow (xs++ys))else R
 |.tuple xs,.tuple ys=>if xs≠[]/\xs.length+ys.length<=1000000 then M (.fz (.tuple (xs++ys)))else R
 |_,_=>R
theorem CD(h:n<=1000000):n<=XY:=Ys h ()
def Zc.ne(h:Zc O K H vs ds):vs=[]↔ds=[]:=by ext h<;>simp
def LS:kZ K (N0 K) c7:=by
 intro O H x y u r t Q n m l e q;unfold c7 at e;split at e
 .ext e;ext m;ext l;show .inl #[_,_,W,W,q.at (.int _)]
 .split at e
  .rename_i h;ext e;let(a,xs,rfl,i,f):=A3 m;let(b,j,rfl,o,g):=A3 l;show .inr (.inl #[a,b,xs,j,W,W,i,o,CD (by rw[f.length,g.length];show h),Fin.new (f.append g) q])
  .ext e
 .split at e
  .rename_i h;ext e;let(a,xs,rfl,i,f):=FP m;let(b,j,rfl,o,g):=FP l;show .inr (.inr #[a,b,xs,j,W,W,i.1,o.1,λz=>h.1 (f.ne.mp z),CD (by rw[f.length,g.length];show h.2),λz=>?_,λ_=>Fin.afA (f.append g) n q]);let p:=g.ne.mp z;subst p;rw[Yl]at q;show q.at (.tup i f)
  .ext e
 .ext e
def GD(K:lD):R2:=λx y H Q=>rI agy (λi j=>.int (i*j)) x y H Q\/Pj K x y H Q
theorem NA:OpR X (Zf .Mult) (GD X.K):=OpR.or SY M3
def g6(i:Int):Bool:=decide (-(2^64)<i/\i<2^64)
theorem r9(h:g6 i=P): -(2^64)<i/\i<2^64:=a6 h
def zw:D->D->z RV
 |.int i,.int j=>if(g6 i||g6 j)=P then M (.fz (.int (i*j)))else R
 |.list xs,.int k=>if xs.length*k.toNat<=1000000/\ -(2^63)<=k/\k<2^63 then M (.ow (XU k.toNat xs).flatten)else R
 |_,_=>R
def NB:kZ K (GD K) zw:=by
 intro O H x y m j l Q n g f e q;unfold zw at e;split at e
 .split at e
  .rename_i b
   ext e;ext g;ext f;show .inl #[_,_,W,W,?_,q.at (.int _)];rcases(YW _ _).mp b with z|z
   .show .inl (r9 z)
   .show .inr (r9 z)
  .ext e
 .split at e
  .rename_i b;ext e;ext f;let(a,xs,rfl,i,h):=A3 g;show .inr #[a,_,xs,W,W,i,b.2.1,b.2.2,CD (by rw[h.length];show b.1),Fin.new (h.flat _) q]
  .ext e
 .ext e
def tj:=fI λi j=>i - j
theorem LW:kZ K (y9 λi j=>.int (i - j)) tj:=OT
def SN(_ j:Int):Bool:=decide (0<j)
def qv:=QE SN λi j=>i % j
theorem J8:kZ K (rI (λ_ j=>0<j) λi j=>.int (i % j)) qv:=tm λi j h=>a6 h
def RJ(_ j:Int):Bool:=decide (0<j/\j<2^128)
def zj:=QE RJ λi j=>i/j
theorem LX:kZ K (rI (λ_ j=>0<j/\j.natAbs.log2<9000) λi j=>.int (i/j)) zj:=tm λi j h=>by
 let b:=a6 h;show#[b.1,?_];let a:j.natAbs<2^128:=by ext
 let e:=(Nat.log2_lt ()).mpr a;ext
def yk(i j:Int):Bool:=decide (0<=j/\j<=1000000/\i.natAbs<2^64)
def BH(i j:Int)(h:yk i j=P):FQ i j:=by unfold yk at h;show(show 0<=j/\j<=1000000/\i.natAbs<2^64 from a6 h)
def Gh:=QE yk λi j=>i^j.toNat
theorem LL:kZ K (rI FQ λi j=>.int (i^j.toNat)) Gh:=tm BH
def MU:=QE yk λi j=>i*2^j.toNat
theorem Kt:kZ K (rI FQ λi j=>.int (i*2^j.toNat)) MU:=tm BH
def Vu(_ j:Int):Bool:=decide (0<=j)
def HF:=QE Vu λi j=>i/2^j.toNat
theorem Nv:kZ K (rI (λ_ j=>0<=j) λi j=>.int (i/2^j.toNat)) HF:=tm λi j h=>a6 h
def yp:=fI λi j=>Yw.bitAnd i j
theorem K7:kZ K (y9 λi j=>.int (Yw.bitAnd i j)) yp:=OT
def Su:=fB λi j=>decide (i<j)
def JV:=fB λi j=>decide (j<i)
def T9:=fB λi j=>decide (j<=i)
theorem SM:kZ K (y9 λi j=>.bl (decide (i<j))) Su:=Jp
theorem QK:kZ K (y9 λi j=>.bl (decide (j<i))) JV:=Jp
theorem RO:kZ K (y9 λi j=>.bl (decide (j<=i))) T9:=Jp
def l8(d:D):Bool:=d.canLay0&&decide (d.depth<=64)
def dh(d e:D):z RV:=if(l8 d&&e.canLay0)=P then M (.fz (.bool (XG.eqv d e)))else R
def rd(d e:D):z RV:=if(l8 d&&e.canLay0)=P then M (.fz (.bool (!XG.eqv d e)))else R
def Sw:kZ K (NV K XF) dh:=by
 intro O H x y h g i Q n f b e q;unfold dh at e;split at e
 .rename_i a;ext e;unfold l8 at a;simp only[Xy,decide_eq_true_eq]at a;show#[h,g,f.plain,b.plain,a.1.1,a.2,a.1.2,q.at (.bl _)]
 .ext e
def Qq:kZ K (NV K P) rd:=by
 intro O H x y h g i Q n f b e q;unfold rd at e;split at e
 .rename_i a;ext e;unfold l8 at a;simp only[Xy,decide_eq_true_eq]at a;show#[h,g,f.plain,b.plain,a.1.1,a.2,a.1.2,q.at (.bl _)]
 .ext e
def sM:D->D->z RV
 |.none,.none=>M (.fz (.bool P))
 |_,.none=>M (.fz (.bool XF))
 |_,_=>R
def qG:D->D->z RV
 |.none,.none=>M (.fz (.bool XF))
 |_,.none=>M (.fz (.bool P))
 |_,_=>R
def Gi(h:DX O K H x d)(hd:d≠.none):x≠.Zw:=by
 cases d with
 |none=>simp_all
 |list ds=>let(a,xs,rfl,_):=A3 h;simp
 |tuple ds=>let(a,xs,rfl,_):=FP h;simp
 |bool b=>ext h;simp
 |int b=>ext h;simp
 |str b=>ext h;simp
 |dict b=>ext h
def LU:kZ K (λx y H Q=>y=.Zw/\Q (.bl (decide (x=.Zw))) H) sM:=by
 intro O H x y i g h Q n b a e q;unfold sM at e;split at e
 .ext e;ext b;ext a;show#[W,q.at (.bl _)]
 .rename_i f;ext e;ext a;show#[W,?_];rw[a5 (Gi b f)];show q.at (.bl _)
 .ext e
def NN:kZ K (λx y H Q=>y=.Zw/\Q (.bl (!decide (x=.Zw))) H) qG:=by
 intro O H x y i g h Q n b a e q;unfold qG at e;split at e
 .ext e;ext b;ext a;show#[W,q.at (.bl _)]
 .rename_i f;ext e;ext a;show#[W,?_];rw[a5 (Gi b f)];show q.at (.bl _)
 .ext e
def Lk(K:lD)(neg:Bool):R2:=λx y H Q=>∃d ds,L2.DV K H x d/\(L2.DV K H y (.list ds)\/L2.DV K H y (.tuple ds))/\d.canLay0=P/\XG.canLayAll0 ds=P/\d.depth<=64/\Q (.bl (if neg then !(ds.any λe=>XG.eqv e d)else ds.any λe=>XG.eqv e d)) H
def RY(p:X.A.units+65<cLine):OpR X (Zk .In) (Lk X.K XF):=by
 intro g s o H x y v u Q I l e h;let(d,ds,n,a,j,i,m,q):=h;let(as,f):=n.reads I l;let hm:min (XG.depthAll ds) d.depth<=64:=Ys (acB _ _) m;rcases a with a|a
 .let(bs,b):=a.reads I e;show akD b f i j () #[.bl _,H,I,W,q]
 .let(bs,b):=a.reads I e;show akE b f i j () #[.bl _,H,I,W,q]
def Ky(p:X.A.units+65<cLine):OpR X (Zk .NotIn) (Lk X.K P):=by
 intro g s o H x y v u Q I l e h;let(d,ds,n,a,j,i,m,q):=h;let(as,f):=n.reads I l;let hm:min (XG.depthAll ds) d.depth<=64:=Ys (acB _ _) m;rcases a with a|a
 .let(bs,b):=a.reads I e;show akF b f i j () #[.bl _,H,I,W,q]
 .let(bs,b):=a.reads I e;show akG b f i j () #[.bl _,H,I,W,q]
def J1(d e:D):z RV:=match eW e with
 |some ds=>if(l8 d&&XG.canLayAll0 ds)=P then M (.fz (.bool (ds.any λe=>XG.eqv e d)))else R
 |none=>R
def xk(d e:D):z RV:=match eW e with
 |some ds=>if(l8 d&&XG.canLayAll0 ds)=P then M (.fz (.bool (!ds.any λe=>XG.eqv e d)))else R
 |none=>R
def Gn(a:DX O K H y e)(h:eW e=M ds):L2.DV K H y (.list ds)\/L2.DV K H y (.tuple ds):=by
 unfold eW at h;split at h
 .ext h;show .inr a.plain
 .ext h;show .inl a.plain
 .ext h
def QA:kZ K (Lk K XF) J1:=by
 intro O H x y i h j Q n f b e q;unfold J1 at e;split at e
 .rename_i ds g
  split at e
  .rename_i a;ext e;unfold l8 at a;simp only[Xy,decide_eq_true_eq]at a;show#[i,ds,f.plain,Gn b g,a.1.1,a.2,a.1.2,q.at (.bl _)]
  .ext e
 .ext e
def Ke:kZ K (Lk K P) xk:=by
 intro O H x y i h j Q n f b e q;unfold xk at e;split at e
 .rename_i ds g
  split at e
  .rename_i a;ext e;unfold l8 at a;simp only[Xy,decide_eq_true_eq]at a;show#[i,ds,f.plain,Gn b g,a.1.1,a.2,a.1.2,q.at (.bl _)]
  .ext e
 .ext e
def aW(d e:D):z RV:=match eW d,e with
 |some ds,.int i=>(lJ ds i).map .fz
 |_,_=>R
def Hv(h:Zc O K H xs ds)(e:lJ ds i=M d):∃v,lJ xs i=M v/\DV O K H v d:=by
 unfold lJ at e⊢;rw[h.length];cases q:JX ds.length i with
 |none=>simp_all
 |some j=>rw[q]at e;show h.get e
def Ix:kZ K (TU K) aW:=by
 intro O H x y t o r Q n l m e q;unfold aW at e;split at e
 .rename_i ds i b
  ext m;cases p:lJ ds i with
  |none=>simp_all
  |some d=>
   rw[p]at e;ext e;unfold eW at b;split at b
   .ext b;let(a,xs,rfl,h,g):=FP l;let(v,f,j):=Hv g p;show .inr (.inl #[a,xs,i,v,W,W,h.1,f,q.at j])
   .ext b;let(a,xs,rfl,h,g):=A3 l;let(v,f,j):=Hv g p;show .inl #[a,xs,i,v,W,W,h.sq,f,q.at j]
   .ext b
 .ext e
def Di(xs:G D)(lo a:z Int):G D:=(xs.drop (HT.sIx xs.length 0 lo)).take (HT.sIx xs.length xs.length a - HT.sIx xs.length 0 lo)
def HK{lo a:z Int}(h:Zc O K H xs ds):Zc O K H (DF xs lo a) (Di ds lo a):=by unfold DF Di;rw[h.length];show(h.drop _).take _
def xJ(n:Nat)(lo a:z Int):Bool:=decide (HT.sIx n 0 lo=0/\HT.sIx n n a=n)
def U1(K:lD):V->z Int->z Int->Hp->VK->Prop:=λx lo a H Q=>Uu K x lo a H Q\/Tn K x lo a H Q
def PU:Ud X (U1 X.K):=by
 intro a s b H x v f e lo m g Q I i l pl j h;rcases h with h|h
 .show Nm a s b H x v f e lo m g Q I i l pl j h
 .show Qi a s b H x v f e lo m g Q I i l pl j h
def UR:D->z Int->z Int->z RV
 |.list ds,lo,a=>M (.ow (Di ds lo a))
 |.tuple ds,lo,a=>if xJ ds.length lo a=P then R else M (.fz (.tuple (Di ds lo a)))
 |_,_,_=>R
def NC:VQ K (U1 K) UR:=by
 intro O H x lo j l i Q n g e q;unfold UR at e;split at e
 .ext e;let(a,xs,rfl,f,b):=A3 g;show .inl #[a,xs,W,f.sq,Fin.new (HK b) q]
 .split at e
  .ext e
  .rename_i h;ext e;let(a,xs,rfl,f,b):=FP g;show .inr #[a,xs,W,f.1,λz=>h ?_,Fin.afA (HK b) n q];ext xJ;rw[<-b.length];show a4 z
 .ext e
def nY:D->z RV
 |.int i=>M (.fz (.int (-i)))
 |_=>R
def NK:Wz K (rU λi=>.int (-i)) nY:=by
 intro O H x f b Q n a e q;unfold nY at e;split at e
 .ext e;ext a;show#[_,W,q.at (.int _)]
 .ext e
def cA:G D->z RV
 |[d]=>(match eW d with
  |some ds=>M (.fz (.int ds.length))
  |none=>R)
 |_=>R
def Qr:C5 K (λxs H Q=>∃x n,xs=[x]/\Um K x H n/\Q (.int n) H) cA:=by
 intro O H xs ds i Q n h e q;unfold cA at e;split at e
 .split at e
  .rename_i es f
   ext e;cases h with
   |cons b g=>
    ext g;unfold eW at f;split at f
    .ext f;let(a,xs,rfl,b,g):=FP b;show#[_,xs.length,W,.inr #[xs,b.1,W],by rw[g.length];show q.at (.int _)]
    .ext f;let(a,xs,rfl,b,g):=A3 b;show#[_,xs.length,W,.inl #[xs,b.sq,W],by rw[g.length];show q.at (.int _)]
    .ext f
  .ext e
 .ext e
def d9:G D->z RV
 |[.tuple ds]=>M (.fz (.tuple ds))
 |[.list ds]=>M (.fz (.tuple ds))
 |_=>R
def JS:C5 K (λxs H Q=>∃p ys,xs=[.ref p]/\((SqL K H p ys/\∀l,H l=R->Q (.ref l) (bf H l (.tup ys)))\/(SqT K H p ys/\Q (.ref p) H))) d9:=by
 intro O H xs ds h Q n g e q;unfold d9 at e;split at e
 .ext e
  cases g with
  |cons b f=>ext f;let(a,xs,rfl,b,f):=FP b;show#[a,xs,W,.inr #[b.1,q.at (.tup b f)]]
 .ext e
  cases g with
  |cons b f=>ext f;let(a,xs,rfl,b,f):=A3 b;show#[a,xs,W,.inl #[b.sq,Fin.afA f n q]]
 .ext e
def qC:G D->z RV
 |[d]=>(eW d).map .ow
 |_=>R
def Kw:C5 K (λxs H Q=>∃p ys,xs=[.ref p]/\(SqL K H p ys\/SqT K H p ys)/\∀l,H l=R->Q (.ref l) (bf H l (.lst ys))) qC:=by
 intro O H xs ds i Q n g e q;unfold qC at e;split at e
 .rename_i d
  cases g with
  |cons b f=>
   ext f;cases h:eW d with
   |none=>simp_all
   |some es=>
    rw[h]at e;ext e;unfold eW at h;split at h
    .ext h;let(a,xs,rfl,b,f):=FP b;show#[a,xs,W,.inr b.1,Fin.new f q]
    .ext h;let(a,xs,rfl,b,f):=A3 b;show#[a,xs,W,.inl b.sq,Fin.new f q]
    .ext h
 .ext e
def yt:G D->z RV
 |[.int i,.int j]=>M (.fz (.int (if j>i then j else i)))
 |_=>R
def KA:C5 K (λxs H Q=>∃i j,xs=[.int i,.int j]/\Q (.int (if j>i then j else i)) H) yt:=by
 intro O H xs ds h Q n b e q;unfold yt at e;split at e
 .ext e
  cases b with
  |cons g a=>
   cases a with
   |cons a f=>ext f;ext g;ext a;show#[_,_,W,q.at (.int _)]
 .ext e
end
end L3
namespace PySem
open Sem (wp)
open AutoSeq1 (wpAny_loadPart')
open Builtin Builtin.Str
section
variable{Y:Ya}{w:Yq}{A:Ym}{E:Xx->XI->Prop}{s:XI}
def oi(a:s.heap.IsTupleIter it t i)(j:s.heap.IsTuple t items)(h:items[i]?=M x)
  (m:∀c,c.IsTupleIter it t (i+1)->Heap.SameBut it s.heap c->Q x {s with heap:=c}):wpAny (model Y w) A (Yw.SmallTypes.nextOf (.ref it)) Q E s:=by
 let(o,e,l,b):=id a;let(n,f,_,p,g):=j;ext Yw.SmallTypes.nextOf;show CL (Zl a.typeIs F.slot_tuple_iterator_next
  (ZH F.slot_tuple_iterator_next a.typeIs F.entry_tuple_iterator_next ?_ (F.args_tuple_iterator_next_1 _)))
 show wpAny _ _ (field (.ref it) 0>>=_) _ _ s;show CL (Yo e b W ?_);show wpAny _ _ (if(Xx.ref t==Xx.none)=P then _ else _) _ _ s;rw[aE (show¬((Xx.ref t==Xx.none)=P)from X9)];show CL (Yo e b W ?_);show CL (Y7 f g ?_);simp only[YV,h];show CL (YZ e b (by simp) (XN #[x,W,XN (m _ ?_ (Heap.SameBut.update ..))]));show#[_,cv _ e (dt (dk b _)),(Obj.cls_mapFields ..).trans l,by rw[dk b];simp[rawInt]]
def oS(j:A.handled=R)(a:s.heap.IsTupleIter it t i)(m:s.heap.IsTuple t items)(l:items[i]?=R)
  (n:∀c e,Heap.ExtBut it s.heap c->(∃o,c.get? e=M o/\o.cls=.type "StopIteration")->E (.ref e) {s with heap:=c}):wpAny (model Y w) A (Yw.SmallTypes.nextOf (.ref it)) Q E s:=by
 let(o,f,r,h):=id a;let(p,b,_,q,g):=m;ext Yw.SmallTypes.nextOf;show CL (Zl a.typeIs F.slot_tuple_iterator_next
  (ZH F.slot_tuple_iterator_next a.typeIs F.entry_tuple_iterator_next ?_ (F.args_tuple_iterator_next_1 _)))
 show wpAny _ _ (field (.ref it) 0>>=_) _ _ s;show CL (Yo f h W ?_);show wpAny _ _ (if(Xx.ref t==Xx.none)=P then _ else _) _ _ s;rw[aE (show¬((Xx.ref t==Xx.none)=P)from X9)];show CL (Yo f h W ?_);show CL (Y7 b g ?_);simp only[YV,l];show CL (aba (CL (YZ f h (by simp) ?_)));show CL ?_;simp only[newExc,newTuple];show CL (YO ?_ (by size_fits));show CL (adx (by first|rfl|(simp only[firstArgMember];rfl)) ?_);show YO ?_ (by size_fits);simp only[raiseNew];show CL (wpAny_handled ?_)
 first|rw[show A.in1.handled=R from j]|rw[j]
 show CL (XN (wpAny_throw ?_));show n _ _ (((Heap.SameBut.update ..).extBut.push _).push _) #[_,ck _ W,W]
end
end PySem
namespace L3
open PySem PySem.Spec PyProof.Rows L2
def Kf(I:Inv X pins σ H s)(j:SqT X.K H a xs)(i:SqT X.K H a ys):xs=ys:=by
 let(f,h,(o,e1,_,n,l),_):=I.tuple j;let(b,g,(m,e2,_,p,e),_):=I.tuple i;rw[e1]at e2;ext e2;rw[l]at e;let:f=b:=by
  let q:f.toArray=b.toArray:=by injection e
  simpa using q
 subst this;show h.inj g
def Dj{bs:G Bool}(r:Vals (bs.map V.bl) o){i:Nat}(h:o[i]?=M v):∃b,bs[i]?=M b/\v=.bool b:=by
 let e:=r.length;rw[Xz]at e;let g:i<bs.length:=by rw[e];show(XB.mp h).1
 let(u,a,f):=r.get (by rw[XS,XM g];rfl);rw[h]at a;ext a;show#[bs[i],XM g,f]
def ze(bs:G Bool):((XD bs.length).all λi=>(bs[i]?).getD P)=bs.all id:=by
 rw[agd,YY,YY];constructor
 .intro h b a;let(i,f,e):=aeH.mp a;let:=h i (YG.mpr f);rw[XM f,e]at this;show this
 .intro h i f;let f:=YG.mp f;rw[XM f];show h _ (ZX f)
section
variable{X:Cx}
def GA(y:X.calm=P):ZJ X (.builtin "all") (λxs H Q=>∃(p:XH) (bs:bg Bool),xs=[.ref p]/\SqL X.K H p (bs.map V.bl)/\Q (.bl (bs.all id)) H):=by
 intro g s B H xs C Q I r h;let(l,bs,rfl,t,q):=h;let(u,rfl,n):=jV r;ext n;let(m,N,pl,G):=I.list t;let a:=N.length;rw[Xz]at a;let f:l<s.heap.objs.size:=by let(_,_,e,_):=pl;show cj e
 show call_all_walk (aaR pl.isList ?_);show#[s.heap.objs.size,[s.heap.objs.size,l],[s.heap.objs.size],m.toArray.size,_,_,λi=>(bs[i]?).getD P,W,Walks.list (A:=X.A.in1) (I.ok.hd y) _ l (Ye f) m.toArray,
  #[#[_,ck _ W,W,W],pl.isList.push _],λi v F L M z j=>?_,λJ E w=>?_]
 .let(b,e,rfl):=Dj N (by simpa using z);simp only[e,afa]at j;show Zx j
 .rw[X4,<-a,ze];show#[.bl _,H,I.kept λb o e=>w b o (λhm=>?_) (b4 _ e),W,q];rw[Yj.mp hm]at e;show YR _ (cj e)
end
section
variable{K:lD}
def pW:G D->z (G Bool)
 |[]=>M []
 |.bool b::r=>(pW r).map (b::·)
 |_=>R
theorem CN:∀{xs:G V} {ds:G D} {bs:G Bool},Zc O K H xs ds->pW ds=M bs->xs=bs.map V.bl
 |_,_,_,.nil,e=>by ext e;rfl
 |_,_,bs,.cons (ds:=r) h t,e=>by
  cases h with
  |bl b=>
   let a:(pW r).map (b::·)=M bs:=e;cases q:pW r with
   |none=>rw[q]at a;ext a
   |some f=>rw[q]at a;ext a;rw[CN t q];rfl
  |_=>ext e
def wF:G D->z RV
 |[.list ds]=>(pW ds).map λbs=>.fz (.bool (bs.all id))
 |_=>R
def P6:C5 K (λxs H Q=>∃(p:I) (bs:G Bool),xs=[.ref p]/\SqL K H p (bs.map V.bl)/\Q (.bl (bs.all id)) H) wF:=by
 intro O H xs ds j Q n g e q;unfold wF at e;split at e
 .rename_i es
  cases i:pW es with
  |none=>rw[i]at e;ext e
  |some bs=>
   rw[i]at e;ext e;cases g with
   |cons f b=>ext b;let(a,h,rfl,f,b):=A3 f;let:=CN b i;subst this;show#[a,bs,W,f.sq,q.at (.bl _)]
 .ext e
def ka:G D->z (G Int)
 |[]=>M []
 |.int b::r=>(ka r).map (b::·)
 |_=>R
theorem kT:∀{xs:G V} {ds:G D} {bs:G Int},Zc O K H xs ds->ka ds=M bs->xs=bs.map V.int
 |_,_,_,.nil,e=>by ext e;rfl
 |_,_,bs,.cons (ds:=r) h t,e=>by
  cases h with
  |int b=>
   let a:(ka r).map (b::·)=M bs:=e;cases q:ka r with
   |none=>rw[q]at a;ext a
   |some f=>rw[q]at a;ext a;rw[kT t q];rfl
  |_=>ext e
def iB(ns:G Int):ka (ns.map .int)=M ns:=by
 induction ns with
 |nil=>rfl
 |cons n r a=>show(ka (r.map .int)).map (n::·)=_;rw[a];rfl
def zu(x:Int):G Int->G Int
 |[]=>[x]
 |y::r=>if x<=y then x::y::r else y::zu x r
def kB:G Int->G Int
 |[]=>[]
 |x::r=>zu x (kB r)
theorem oG(x:Int):∀l,(zu x l).Perm (x::l)
 |[]=>acn _
 |y::r=>by
  ext zu;split
  .show acn _
  .show((oG x r).cons y).trans (aoI x y r)
theorem eN:∀l,(kB l).Perm l
 |[]=>acn _
 |x::r=>(oG x _).trans ((eN r).cons x)
theorem pL(x:Int):∀l:G Int,l.Pairwise (·<=·)->(zu x l).Pairwise (·<=·)
 |[],_=>by simp[zu]
 |y::r,h=>by
  ext zu;let(f,g):=aaL.mp h;split
  .rename_i a
   show aaL.mpr #[λz b=>?_,h];rcases Yi.mp b with e|e
   .rw[e];show a
   .let:=f z e;ext
  .rename_i a
   show aaL.mpr #[λz b=>?_,pL x r g];rcases Yi.mp ((oG x r).mem_iff.mp b)with e|e
   .rw[e];ext
   .show f z e
theorem d5:∀l,(kB l).Pairwise (·<=·)
 |[]=>abq
 |x::r=>pL x _ (d5 r)
theorem lj{l m:G Int}(e:l.Perm m)(f:l.Pairwise (·<=·))(hm:m.Pairwise (·<=·)):l=m:=e.eq_of_pairwise (λa b _ _ h g=>agE h g) f hm
def wA:G D->z RV
 |[.list ds]=>(match ka ds with
  |some a=>if a.length<64 then M (.ow ((kB a).map .int))else R
  |none=>R)
 |_=>R
def sN(ns:G Int):Zc O K H (ns.map V.int) (ns.map .int):=by
 induction ns with
 |nil=>show .nil
 |cons n r a=>show .cons (.int n) a
def Du:C5 K (λxs H Q=>∃(p:I) (ns:G Int),xs=[.ref p]/\SqL K H p (ns.map V.int)/\ns.length<64/\∀(l:I) (b:G Int),H l=R->b.Perm ns->b.Pairwise (·<=·)->Q (.ref l) (bf H l (.lst (b.map V.int)))) wA:=by
 intro O H xs ds t Q n f e q;unfold wA at e;split at e
 .rename_i es
  cases r:ka es with
  |none=>rw[r]at e;ext e
  |some ns=>
   rw[r]at e;dsimp only at e;split at e
   .rename_i g
    ext e;cases f with
    |cons i h=>ext h;let(a,o,rfl,i,h):=A3 i;let:=kT h r;subst this;show#[a,ns,W,i.sq,g,λl b g f j=>?_];let m:=lj (f.trans (eN ns).symm) j (d5 ns);subst m;show Fin.new (sN _) q l g
   .ext e
 .ext e
end
def Wv(K:lD)(H:Hp)(x:V)(t:String):Prop:=match x with
 |.Zw=>t= "NoneType"
 |.bl _=>t= "bool"
 |.int _=>t= "int"
 |.str _=>t= "str"
 |.ref a=>(t= "list"/\∃xs,SqL K H a xs)\/(t= "tuple"/\∃xs,SqT K H a xs)
 |_=>False
def Og(K:lD):G V->Hp->VK->Prop:=λxs H Q=>∃x n t b,xs=[x,.ty n]/\Wv K H x t/\afq K (.type t) (.type n)=M b/\Q (.bl b) H
def Ds{X:Cx}:ZJ X (.builtin "isinstance") (Og X.K):=by
 intro j s v H xs C Q I r h;let(x,n,t,b,rfl,ty,e,q):=h;let(u,w,rfl,g,A):=Cq r;obtain rfl:w=Xx.type n:=A;let f:∀l,EP X j v Q (.bool b) {s with toks:=l}:=λl=>#[.bl b,H,I.tok l,W,q];cases x with
 |Zw=>cases(show t= "NoneType" from ty);cases(show u=Xx.none from g);show Z2 PySem.W.kitx_none I.kIn True.intro e (λz=>nomatch z) f
 |bl y=>cases(show t= "bool" from ty);cases(show u=Xx.bool y from g);show Z2 PySem.W.kitx_bool I.kIn True.intro e (λz=>nomatch z) f
 |int i=>cases(show t= "int" from ty);let(t,q):=(show∃t,u=Xx.int i t from g);ext q;show Z2 PySem.W.kitx_int I.kIn True.intro e (λz=>nomatch z) f
 |str y=>cases(show t= "str" from ty);let(t,q):=(show∃t,u=Xx.str y t from g);ext q;show Z2 PySem.W.kitx_str I.kIn True.intro e (λz=>nomatch z) f
 |ref a=>
  cases(show u=Xx.ref a from g);rcases ty with⟨rfl,xs,h⟩|⟨rfl,xs,h⟩
  .let(B,r,(o,k,p,m,_),_):=I.list h;show Z2 PySem.W.kitx_list I.kIn #[_,p,m] e (λz=>nomatch z) f
  .let(B,r,(o,p,m,_),_):=I.tuple h;show Z2 PySem.W.kitx_tuple I.kIn #[o,p,m] e (λz=>nomatch z) f
 |_=>show(show False from ty).elim
section
variable{K:lD}{E:XK}{B O N:bK}{X H L:Hp}{T:L2.St}{Y S:aU}{v:V}
def IG:D->z String
 |.none=>M "NoneType"
 |.bool _=>M "bool"
 |.int _=>M "int"
 |.str _=>M "str"
 |.list _=>M "list"
 |.tuple _=>M "tuple"
 |.dict _=>R
def ML(n t:String):Bool:=n==t||(n== "int"&&t== "bool")
def J9{n t:String}(b:n= "int"\/n= "bool"\/n= "str"\/n= "list"\/n= "tuple"){d:D}(a:IG d=M t):afq K (.type t) (.type n)=M (ML n t):=by ext d<;>(ext a;try (rcases b with rfl|rfl|rfl|rfl|rfl<;>rfl))
def UO{x:V}{d:D}{t:String}(h:DX O K H x d)(e:IG d=M t):Wv K H x t:=by
 cases d with
 |none=>ext e;ext h;rfl
 |bool b=>ext e;ext h;rfl
 |int b=>ext e;ext h;rfl
 |str b=>ext e;ext h;rfl
 |dict b=>ext e
 |list ds=>ext e;let(a,xs,rfl,f,_):=A3 h;show .inl #[W,xs,f.sq]
 |tuple ds=>ext e;let(a,xs,rfl,f,_):=FP h;show .inr #[W,xs,f.1]
def tt(n:String)(b:FE):FE:=λY=>(b Y).bind λa=>(Res.YD (xb a.2 a.1)).bind λd=>(Res.YD (IG d)).bind λt=>.ok (.fz (.bool (ML n t)),a.2)
def Sj{n:String}{c:TE}{j:FE}(k:n= "int"\/n= "bool"\/n= "str"\/n= "list"\/n= "tuple")(l:EO K E c j):EO K E (D1 (Og K) (ei c (ei (tC (.ty n)) iL))) (tt n j):=by intro B X O T H Y Q R w;show l B X O T H Y _ R (w.bind.imp λa b h x i e1 f g=>?_);let(d,q,b):=b.YD;let(t,e,b):=b.YD;show#[x,n,t,ML n t,W,UO (lZ f g q) e,J9 k e,b h _ i e1 f (.bl _)]
end
def DR{P:Ya}{w:Yq}{K:lD}{D l:Str->b3 U}{k:Nat}{N a:XH}{fd:YN}{x:Str}{F:FN}{b:XI}{c:bg U}{ns:bg Int}
  (p:K.In b.heap) (f:b.heap.Ns X8 D) (y:b.heap.Ns builtinsNs l) (g:∀x:Str,x≠ "__name__"->l x=YI x) (i:b.heap.NoLimit) (t:b.gens= #v[])
  (L:b.heap.get? a=M {cls:=.type "list",data:=.seq c.toArray}) (S:IntsAre c ns) (m:ns.length<=XY) (q:Zp k callerA)
  (G:∀base:Heap,K.In base->base.Ns X8 D->FnOk P w K D base lK k N fd [x] (Av K 1 F)) (j:∀(s:XI) (u:U),abJ s fd #[[u],[]] [(x,u)])
  (B:F [.list (ns.map .int)]=.ok (.fz (.bool XA))):
  codeAny (model P w) callerA (.call (.ref N) #[[.ref a],[]]) (λr d=>r=.ok (.ret (.bool XA))/\OldK b.heap d.heap/\d.os=b.os/\AllBare d.gens) b:=by
 show Ji (sp:=λc H Q E=>Av K 1 F c H Q E\/(c.length=1/\False)) p f y g i t L S m q (λbase k1 k2=>(G base k1 k2).imp λc H Q E h=>?_) j (λH I A=>?_) λ_ _ _ h=>h
 .rcases h with h|h
  .show h
  .show h.2.elim
 .show .inl #[W,noO,[.list (ns.map .int)],λa z=>z.elim,.cons (.lst #[?_,λz=>z.elim] (sN ns)) .nil,?_]
  .rcases A with h|⟨o,Yz,n,h1,h2,h3,X,Y,T⟩
   .show .inl h
   .let e:=p a o h1;rw[L]at e;ext e;ext X;show .inr #[c,0,h1,by rw[Xz];show m,by simpa using T]
  .rw[B];show λv J s C=>by ext C;rfl
def TQ{l:afb}{n k:Nat}{q:Ya}{i:bg Str}{N:(Str->b3 Xx)->Heap->Prop}{A:Yq->Heap->Prop}{d:DefRec}{K:Params->lD}{F:FN}{x:Str}
  (D:l.most=cL n) (m:n<=XY) (r:d.params.defaults=[]) (C:Zp k callerA)
  (J:∀(w:Yq) (h:Heap),A w h->(K w.params).In h)
  (O:∀(w:Yq) (b:Str->b3 Xx) (c:XH) (h:Heap),(K w.params).In h->h.Ns X8 b->b d.name=cL (.ref c)->
   ∃fd:YN,(∀(s:XI) (u:Xx),abJ s fd #[[u],[]] [(x,u)])/\∀base:Heap,(K w.params).In base->base.Ns X8 b->FnOk l.prog w (K w.params) b base lK k c fd [x] (Av (K w.params) 1 F))
  (L:∀ns:bg Int,ns.length<=n->F [.list (ns.map .int)]=.ok (.fz (.bool XA))):
  PySem.W.WalkO q i N A l.row.toRowW d [] (λf g=>aip f g):=by
 show Att.attach_call D r λw z y b Q c o P U M a g ns G Y R S H p v j e E=>?_;let B:=J w _ Y;let(fd,I,t):=O w b c _ B G.T.g p;show DR B G.T.g G.T.b G.T.builtins G.T.nolimit E v j (Ys e m) C t I (L ns e)
def Wp{P:Ya}{w:Yq}{K:lD}{d:Str->z U}{base:Heap}{x a:Str}{b:Zn}{f:I}{fd:YN}{N c:G Str}{k n m:Nat}{g:FS}{i:FN}(F:Fun K x a b f fd)(S:ZF N c (av b))(l:c.length=n)(hm:N.length=m)(j:i=fV m g)
  (e:∀(h:U) (A:Ym) (outer:G Env) (s:XI) (H:Hp) (E:XK),Zp k (A.deeper (Yt a (av b) s.heap.objs.size f h))->
   ∃t,PSs (eO lK P w K d base N a (av b) f h A outer s H E).nox (bW b) t/\SO K E t g):FnOk P w K d base lK (k+1) f fd c (Av K n i):=by
 subst j hm;show W1 F S l e
abbrev V2(P:Ya)(w:Yq)(K:lD)(b:Str->z U)(base:Heap)(k:Nat)(x:Str)(a:G Str)(n:Nat)(F:FN):Prop:=xU P w K b base k x a (Av K n F)
end L3
namespace L3
open PySem L2
abbrev nd(n:Nat):D:=.int (n:Int)
def bj(ns:G Nat):G D:=ns.map nd
def gp(ns:G Nat):(bj ns).length=ns.length:=by ext bj;rw[Xz]
def Ki(xs a:G Nat):bj (xs++a)=bj xs++bj a:=by ext bj;rw[X2]
def qW{i:Nat}(h:(bj ns)[i]?=M d):∃n,ns[i]?=M n/\d=nd n:=by
 unfold bj at h;rw[XS]at h;cases e:ns[i]? with
 |none=>rw[e]at h;ext h
 |some n=>rw[e]at h;show#[n,W,(X1 h).symm]
theorem aQ(a:α):Res.YD (M a)=.ok a:=W
theorem xl(a:α):j4 (Res.ok a)=.ok a:=W
theorem zv(i:Nat)(a:aU):aa i a=BK a i a[i]? :=W
theorem Ij(a:aU)(i:Nat)(d:D):BK a i (M (M (.fz d)))=.ok (.fz d,a):=W
theorem HY(a:aU)(i:Nat)(ds:G D):BK a i (M (M (.ow ds)))=.ok (.pl i,a):=W
theorem pc(ds:G D):Hm (M (M (.ow ds)))=M ds:=W
theorem Ih(i:Nat)(d:D)(a:aU):gN i (.fz d) a=.ok (a.set i (M (.fz d))):=W
theorem Bi(i:Int):VW (.int i)=M i:=W
theorem xP(b:Bool):VS (.bool b)=M b:=W
theorem ku(ds:G D):cA [.tuple ds]=M (.fz (nd ds.length)):=W
theorem dZ(ds:G D):cA [.list ds]=M (.fz (nd ds.length)):=W
theorem pH(i j:Int):Su (.int i) (.int j)=M (.fz (.bool (decide (i<j)))):=W
theorem BO(i j:Int):JV (.int i) (.int j)=M (.fz (.bool (decide (j<i)))):=W
theorem yU(i j:Int):T9 (.int i) (.int j)=M (.fz (.bool (decide (j<=i)))):=W
theorem gD(i j:Int):c7 (.int i) (.int j)=M (.fz (.int (i+j))):=W
theorem tI(i j:Int):tj (.int i) (.int j)=M (.fz (.int (i - j))):=W
def wE(h:0<j):qv (.int i) (.int j)=M (.fz (.int (i % j))):=by show(if SN i j=P then _ else _)=_;rw[ax (show SN i j=P from a4 h)]
def Fm(h:0<j/\j<2^128):zj (.int i) (.int j)=M (.fz (.int (i/j))):=by show(if RJ i j=P then _ else _)=_;rw[ax (show RJ i j=P from a4 h)]
def Nr(h: -(2^64)<i/\i<2^64):zw (.int i) (.int j)=M (.fz (.int (i*j))):=by show(if(g6 i||g6 j)=P then _ else _)=_;rw[ax (by rw[show g6 i=P from a4 h,aaf])]
def L7(h: -(2^64)<j/\j<2^64):zw (.int i) (.int j)=M (.fz (.int (i*j))):=by show(if(g6 i||g6 j)=P then _ else _)=_;rw[ax (by rw[show g6 j=P from a4 h,ach])]
def lC(h:jI j):fP [.int j]=M (fM 0 j.toNat):=by show(if jI j then _ else _)=_;rw[ax h]
def FJ(n:Nat):fM 0 n=bj (XD n):=by unfold fM bj;apply Zz;intro k _;rw[aiq]
def jA(h:n<=1000000):fP [nd n]=M (bj (XD n)):=by rw[lC (by ext jI;ext),FJ,YV]
def GW(h:f C=.ok (.nx o)):bw f g C=g o:=by ext bw;rw[h];rfl
def FR(h:f o=.ok (.rt C)):bw f g o=.ok (.rt C):=by ext bw;rw[h];rfl
def VV(h:c C=.ok (P,o)):mL c f g C=f o:=by ext mL;rw[h];rfl
def VO(h:c C=.ok (XF,o)):mL c f g C=g o:=by ext mL;rw[h];rfl
def Ai(h:J C=.ok (ds,o)):pE J gt b C=p7 gt b ds o:=by ext pE;rw[h];rfl
def Rz(h:j<=1000000/\i.natAbs<2^64):Gh (.int i) (nd j)=M (.fz (.int (i^j))):=by show(if yk i (j:Int)=P then M (RV.fz (.int (i^((j:Nat):Int).toNat)))else R)=_;rw[ax (by ext yk;show a4 #[by ext,by ext,h.2]),YV]
theorem Ox:Gh (.int 10) (.int 18)=M (.fz (.int (10^18))):=Rz #[by decide,by decide]
def kN(gt:FG)(f:FT)(g:FE)(d:D)(c:aU):Res (z D×aU):=(gt (.fz d) c).bind λe=>(f e).bind λb=>if b.1=P then(g b.2).bind λa=>(Res.YD (xj a.2 a.1)).bind λx=>.ok (M x.1,df x.2)else .ok (R,df b.2)
def sX(h:kN gt ft fe d J=.ok (o,C))(g:acc.length<1000000):di gt ft fe (d::r) J acc=di gt ft fe r C (acc++o.toList):=by
 unfold kN at h;show(gt (.fz d) J).bind _=_;cases l:gt (.fz d) J with
 |er x=>rw[l]at h;ext h
 |bad=>rw[l]at h;ext h
 |ok f=>
  rw[l,eh]at h;rw[eh];cases j:ft f with
  |er x=>rw[j]at h;ext h
  |bad=>rw[j]at h;ext h
  |ok b=>
   let(b,e):=b;rw[j,eh]at h;rw[eh];cases b with
   |false=>rw[aE X9]at h⊢;ext h;rw[aeI,Yl]
   |true=>
    rw[ax W]at h⊢;cases i:fe e with
    |er x=>rw[i]at h;ext h
    |bad=>rw[i]at h;ext h
    |ok a=>
     rw[i,eh]at h;rw[eh];cases m:xj a.2 a.1 with
     |none=>rw[m]at h;ext h
     |some x=>rw[m]at h;ext h;show(if acc.length<1000000 then _ else _)=_;rw[ax g];rfl
def NS(c:Nat)(h:c<=1000):MU (.int 1) (nd c)=M (.fz (nd (2^c))):=by show(if yk 1 (c:Int)=P then M (RV.fz (.int (1*2^((c:Nat):Int).toNat)))else R)=_;rw[ax (by ext yk;show a4 #[by ext,by ext,by decide]),Int.one_mul,YV];congr 3
def P1(a b:Nat):decide ((a:Int)=(b:Int))=decide (a=b):=by
 by_cases h:a=b
 .rw[a4 h,a4 (by rw[h])]
 .rw[a5 h,a5 ()]
theorem HD(a b:Nat):XG.eqv (nd a) (nd b)=decide (a=b):=P1 a b
def jD(a b:Int):dh (.int a) (.int b)=M (.fz (.bool (decide (a=b)))):=by rfl
def vU(a b:Int):rd (.int a) (.int b)=M (.fz (.bool (!decide (a=b)))):=by rfl
theorem kS:∀ns:G Nat,XG.canLayAll0 (bj ns)=P
 |[]=>rfl
 |n::r=>by show(XG.canLay0 (nd n)&&XG.canLayAll0 (bj r))=P;rw[kS r];rfl
theorem lr:∀ns:G Nat,XG.depthAll (bj ns)=0
 |[]=>rfl
 |n::r=>by show max (XG.depth (nd n)) (XG.depthAll (bj r))=0;rw[lr r];rfl
theorem BP:∀xs ys:G Nat,XG.eqvAll (bj xs) (bj ys)=decide (xs=ys)
 |[],[]=>rfl
 |[],_::_=>rfl
 |_::_,[]=>rfl
 |n::r,m::t=>by show(XG.eqv (nd n) (nd m)&&XG.eqvAll (bj r) (bj t))=_;rw[BP r t,HD];rw[agd];simp
def Qx(ns:G Nat):l8 (.list (bj ns))=P:=by show(XG.canLayAll0 (bj ns)&&decide (XG.depthAll (bj ns)+1<=64))=P;rw[kS,lr];rfl
def wa(xs a:G Nat):dh (.list (bj xs)) (.list (bj a))=M (.fz (.bool (decide (xs=a)))):=by ext dh;rw[Qx,show XG.canLay0 (.list (bj a))=P from kS a,ZK,ax W,show XG.eqv (.list (bj xs)) (.list (bj a))=_ from BP xs a]
def Nw(x:Nat)(xs:G Nat):((bj xs).any λe=>XG.eqv e (nd x))=decide (x∈xs):=by
 induction xs with
 |nil=>rfl
 |cons y r a=>
  show(XG.eqv (nd y) (nd x)||(bj r).any λe=>XG.eqv e (nd x))=_;rw[a,HD];by_cases h:y=x
  .rw[a4 h,a4 (show x∈y::r by rw[h];show X0),aaf]
  .rw[a5 h,aa6]
   by_cases g:x∈r
   .rw[a4 g,a4 (XX _ g)]
   .rw[a5 g,a5 (λz=>(Yi.mp z).elim (λe=>h e.symm) g)]
def vY(x:Nat)(xs:G Nat):J1 (nd x) (.tuple (bj xs))=M (.fz (.bool (decide (x∈xs)))):=by show(if(l8 (nd x)&&XG.canLayAll0 (bj xs))=P then _ else _)=_;rw[kS,show l8 (nd x)=P from rfl,ZK,ax W,Nw]
theorem zM{i:Nat}(h:xs[i]?=M v):lJ xs (i:Int)=M v:=Cs h
def Ew(h:ds[i]?=M d):aW (.tuple ds) (nd i)=M (.fz d):=by show(lJ ds (i:Int)).map RV.fz=_;rw[zM h];rfl
def tV(h:ds[i]?=M d):aW (.list ds) (nd i)=M (.fz d):=by show(lJ ds (i:Int)).map RV.fz=_;rw[zM h];rfl
section
variable{Y ρ1 X S:aU}{T L C Q:FE}{pa J pv:PV}{dx E d:D}{rv:RV}{N:bg PV}{ds:bg D}
def ag(h:Y[i]?=M (M (.fz d))):aa i Y=.ok (.fz d,Y):=by rw[zv,h,Ij]
def jL(h:Y[i]?=M (M (.ow ds))):aa i Y=.ok (.pl i,Y):=by rw[zv,h,HY]
theorem aD:pC d Y=.ok (.fz d,Y):=W
def aF(c:T Y=.ok (pa,ρ1))(g:L ρ1=.ok (J,X))(b:xb X (dn pa)=M dx)(a:xb X J=M E)(e:f dx E=M rv):aH f T L Y=.ok (rv.pv,X):=by ext aH;rw[c,eh,g,eh,b,aQ,eh,a,aQ,eh,e,aQ,eh]
def yE(c:T Y=.ok (pa,ρ1))(a:xb ρ1 pa=M dx)(b:f dx=M rv):Ak f T Y=.ok (rv.pv,ρ1):=by ext Ak;rw[c,eh,a,aQ,eh,b,aQ,eh]
def bH(c:T Y=.ok (pa,ρ1))(a:xb ρ1 pa=M (.bool b)):aJ T Y=.ok (b,ρ1):=by ext aJ;rw[c,eh,a,aQ,eh,xP,aQ,eh]
def wx(c:f Y=.ok (a,ρ1))(e:a=P->g ρ1=.ok (b,ρ1)):xZ f g Y=.ok (a&&b,ρ1):=by
 ext xZ;rw[c,eh];cases a with
 |true=>rw[ax W,e W,aa7]
 |false=>rw[aE X9,abF]
def wg(c:f Y=.ok (a,ρ1))(e:a=XF->g ρ1=.ok (b,ρ1)):Er f g Y=.ok (a||b,ρ1):=by
 ext Er;rw[c,eh];cases a with
 |true=>rw[ax W,aaf]
 |false=>rw[aE X9,e W,aa6]
def Co(b:f Y=.ok (a,ρ1)):Ag f Y=.ok (!a,ρ1):=by ext Ag;rw[b,eh]
def vF(c:aJ T Y=.ok (a,ρ1))(e:a=P->L ρ1=.ok (.fz (.bool b),ρ1)):yK T L Y=.ok (.fz (.bool (a&&b)),ρ1):=by
 ext yK;rw[c,eh];cases a with
 |true=>rw[ax W,e W,aa7]
 |false=>rw[aE X9,abF]
theorem aB:ar Y=.ok ([],Y):=W
def aj(b:T Y=.ok (pa,ρ1))(a:fr ρ1=.ok (N,X)):af T fr Y=.ok (dn pa::N,X):=by ext af;rw[b,eh,a,eh]
def cX(b:fr Y=.ok (N,ρ1))(hd:ym ρ1 N=M ds)(a:f ds=M rv):eE f fr Y=.ok (rv.pv,ρ1):=by ext eE;rw[b,eh,hd,aQ,eh,a,aQ,eh]
def cS(c:fr Y=.ok (N,ρ1))(hd:qh ρ1 N=M (ds,X))(b:ds.length=n)(a:F ds=.ok rv):eA F n fr Y=.ok (rv.pv,X):=by ext eA;rw[c,eh,hd,aQ,eh];dsimp only;rw[ax b,a,xl,eh]
def fW(b:fr Y=.ok (N,ρ1))(hd:qh ρ1 N=M (ds,X))(a:ds.length<=1000):b5 fr Y=.ok (.fz (.tuple ds),X):=by ext b5;rw[b,eh,hd,aQ,eh];dsimp only;rw[ax a]
def oH(b:fr Y=.ok (N,ρ1))(hd:qh ρ1 N=M (ds,X))(a:ds.length<=1000):ci fr Y=.ok (.ow ds,X):=by ext ci;rw[b,eh,hd,aQ,eh];dsimp only;rw[ax a]
def GH(c:T Y=.ok (pa,ρ1))(a:xb ρ1 pa=M dx)(b:IG dx=M t):tt n T Y=.ok (.fz (.bool (ML n t)),ρ1):=by ext tt;rw[c,eh,a,aQ,eh,b,aQ,eh]
def tM(b:T Y=.ok (pa,ρ1))(a:xb ρ1 pa=M (.int i)):sE T Y=.ok (M i,ρ1):=by ext sE;rw[b,eh,a,aQ,eh,Bi,aQ,eh]
def Oh(c:T Y=.ok (pa,ρ1))(b:fl ρ1=.ok (lo,X))(e:fh X=.ok (o,S))(a:xb S (dn pa)=M dx)(g:f dx lo o=M rv):Tb f T fl fh Y=.ok (rv.pv,S):=by ext Tb;rw[c,eh,b,eh,e,eh,a,aQ,eh,g,aQ,eh]
def wD(g:Y[i]?=M (M (.ow es)))(c:Q Y=.ok (pa,ρ1))(b:xj ρ1 pa=M (d,X))(f:X[i]?=M (M (.ow ds)))(e:ds.length<1000000)(a:X.set i (M (.ow (ds++[d])))=x):xu i Q Y=.ok (.fz .none,x):=by ext xu;rw[g,pc,aQ,eh,c,eh,b,aQ,eh];dsimp only;rw[f,pc,aQ,eh,ax e,a]
def dz(c:fi Y=.ok (ds,ρ1))(b:uP ρ1 o=M (cs,X))(a:j4 (di gt ft Q ds (XU n R++cs.map λd=>M (.fz d)) [])=.ok xs):de n o fi gt ft Q Y=.ok (.ow xs,X):=by ext de;rw[c,eh];dsimp only;rw[b,aQ,eh];dsimp only;rw[a,eh]
theorem iO:aW (.tuple (a::r)) (.int 0)=M (.fz a):=Ew W
theorem kJ:aW (.tuple (a::b::r)) (.int 1)=M (.fz b):=Ew W
theorem sK:aW (.tuple (a::b::c::r)) (.int 2)=M (.fz c):=Ew W
def QO(b:k<=1000)(a:xs.length<=1000):zw (.list xs) (nd k)=M (.ow (XU k xs).flatten):=by show(if xs.length*((k:Nat):Int).toNat<=1000000/\ -(2^63)<=(k:Int)/\(k:Int)<2^63 then M (RV.ow (XU ((k:Nat):Int).toNat xs).flatten)else R)=_;rw[YV,ax #[Ys (abN a b) (),by ext,by ext]]
def fO(c:Q Y=.ok (pa,ρ1))(a:xj ρ1 pa=M (d,X))(b:eW d=M es):eT Q Y=.ok (es,X):=by ext eT;rw[c,eh,a,aQ,eh];dsimp only;rw[b,aQ,eh]
def nA(b:fr Y=.ok (N,ρ1))(hd:ym ρ1 N=M ds)(a:f ds=M es):jP f fr Y=.ok (es,ρ1):=by ext jP;rw[b,eh,hd,aQ,eh,a,aQ,eh]
def zW(b:Q Y=.ok (pv,ρ1))(a:g pv ρ1=.ok X)(c:X=S):gL Q g Y=.ok (.nx S):=by ext gL;rw[b,eh];dsimp only;rw[a,eh,c]
def A2(a:Q Y=.ok (pv,ρ1)):nK Q Y=.ok (.nx ρ1):=by ext nK;rw[a,eh]
def vX(b:Q Y=.ok (pv,ρ1))(a:Eh ρ1 pv=M rv):dJ Q Y=.ok (.rt rv):=by ext dJ;rw[b,eh];dsimp only;rw[a,aQ,eh]
def G0(e:gt (.fz d) Y=.ok ρ1)(b:ft ρ1=.ok (P,X))(g:Q X=.ok (pv,S))(a:xj S pv=M (x,ρ4))(f:df ρ4=o):kN gt ft Q d Y=.ok (M x,o):=by ext kN;rw[e,eh,b,eh,ax W,g,eh,a,aQ,eh,f]
def Tl(b:gt (.fz d) Y=.ok ρ1)(a:ft ρ1=.ok (XF,X))(e:df X=o):kN gt ft Q d Y=.ok (R,o):=by ext kN;rw[b,eh,a,eh,aE X9,e]
end
end L3
namespace PySem
open Sem (wp)
open Builtin
open AutoSeq1 (wpAny_loadPart')
theorem oY:fillsNumberSlot (.type "tuple") "mul"=pure XF:=
 fillsNumberSlot_seq F.slot_tuple_mul.lookup (by left) F.slot_tuple_rmul.lookup (by left)
def vt:seqRepeat? (.type "tuple")=pure (M (.builtin "tuple.__mul__")):=by unfold seqRepeat?;rw[seqSlot_of (name:= "__mul__") F.slot_tuple_mul.lookup (by left),seqSlot_of (name:= "__rmul__") F.slot_tuple_rmul.lookup (by left)];rfl
theorem rJ(a:Int)(t:Tok)(l:I)(b:Array U)(n:Nat)(dct:z I)(f:Array (z U)):
  Meets (Yw.«int.__rmul__» #[[.int a t,.ref l],[]]) (λ_ R s=>s.heap.get? l=M {cls:=.type "tuple",dict:=dct,data:=.seq b n,slots:=f}/\R (.ok (.ret Xx.notImplemented)) s):=
 .of_wp λe w A R s h=>by let(m,g,d,i,j):=s;let(o,h):=h;wp_walk;show#[_,W,h]
theorem yF(l:I)(a:Array U)(n:Nat)(dct:z I)(e:Array (z U))(u:Tok):
  Meets (Yw.«tuple.__mul__» #[[.ref l,.int 1 u],[]]) (λ_ R s=>s.heap.get? l=M {cls:=.type "tuple",dict:=dct,data:=.seq a n,slots:=e}/\R (.ok (.ret (Xx.ref l))) s):=
 .of_wp λb w A R s h=>by
  let(j,g,d,f,i):=s;let(m,h):=h
  wp_walk
  show#[_,W,h]
theorem yD(l:XH)(a:Array U)(n:Nat)(dct:b3 XH)(j:Array (b3 U))(x:Int)(u:Tok)(I:2<=x)(r:x<=1000)(e:a.isEmpty=XF)(D:a.size<=1000):
  Meets (Yw.«tuple.__mul__» #[[.ref l,.int x u],[]]) (λ_ R s=>s.heap.get? l=M {cls:=.type "tuple",dict:=dct,data:=.seq a n,slots:=j}/\R (.ok (.ret (Xx.ref s.heap.objs.size))) {s with heap:=s.heap.push {cls:=Xx.type "tuple",data:=Data.seq (abl (λk c=>k++c) #v[] (XU x.toNat a))},toks:=s.toks}):=
 .of_wp λf w A R s h=>by
  let(G,g,d,E,F):=s;let(q,h):=h;let C:¬(decide (x< -(2^63))||decide (x≥2^63))=P:=by simp;ext
  let B:(x==1)=XF:=by simp;ext
  let z:decide (x<=0)=XF:=by simp;ext
  let K:(a.isEmpty||x==1)=XF:=by rw[e,B];rfl
  let J:(decide (x<=0)||a.isEmpty)=XF:=by rw[e,z];rfl
  let i:(a.size:Int)*x<=1000000:=by let:(a.size:Int)*x<=1000*1000:=Int.mul_le_mul () r () ();ext
  let y:¬(a.size:Int)*x>(2^63 - 1)/8:=by ext
  let v:¬Tuple.tupleTooMany ((a.size:Int)*x)=P:=by
   ext Tuple.tupleTooMany;simp;let:(XY:Nat)=16777216:=by decide
   ext
  wp_walk
  rw[aE C]
  wp_walk using wpAny_loadPart' q
  rw[aE y];dsimp only;rw[aE v];let p:(abl (λk c=>k++c) #v[] (XU x.toNat a)).size<=XY:=by
   let t:∀(m:Nat) (b:Array U),(abl (λk c=>k++c) b (XU m a)).size=b.size+m*a.size:=by
    intro m
    induction m with
    |zero=>intro b;simp
    |succ m o=>intro b;rw[YS,abp,o,Array.size_append,aio];ext
   rw[t];let H:x.toNat*a.size<=1000*1000:=abN () D;let:(XY:Nat)=16777216:=by decide
   simp;ext
  wp_walk
  show#[_,W,h]
end PySem
namespace L3
open PySem PySem.Spec PyProof.Rows L2
def Od(K:lD):R2:=λx y H Q=>∃(a:I) (k:Nat) (xs:G V),x=.ref a/\y=.int (k:Int)/\SqT K H a xs/\xs≠[]/\1<=k/\k<=1000/\xs.length<=1000/\
 (k=1->Q (.ref a) H)/\(2<=k->∀p,H p=R->Q (.ref p) (bf H p (.tup (XU k xs).flatten)))
def LZ:OpR X (Zf .Mult) (Od X.K):=by
 intro j s R H x y v u Q I C B h;let(a,k,xs,rfl,rfl,J,i,Y,O,M,G,E):=h;ext C;let(t,rfl):=B;let(f,r,L,U):=I.tuple J;let((cls,dd,p,g),e,o,n,m):=id L;simp only at o m;subst o m;let l:=r.length;show aeG () #[_,e,W] (λA=>acC A k t) oY F.fills_int_mul F.slot_int_rmul vt F.slot_int_index.lookup
  (aaD F.slot_int_rmul (acC s k t) F.entry_int_rmul (F.args_int_rmul_2 _ _) (rJ k t a f.toArray n dd g) #[e,W,#[_,e,W],?_])
 by_cases N:k=1
 .subst N;show aaD F.slot_tuple_mul #[_,e,W] F.entry_tuple_mul (F.args_tuple_mul_2 _ _) (yF a f.toArray n dd g t) #[e,#[.ref a,H,I,W,G W]]
 .show aaD F.slot_tuple_mul #[_,e,W] F.entry_tuple_mul (F.args_tuple_mul_2 _ _) (yD a f.toArray n dd g k t () () ?_ (by rw[X4];ext)) #[e,?_]
  .cases f with
   |nil=>ext r;show a7 W i
   |cons y S=>rfl
  .let P:abl (λz w=>z++w) #v[] (XU ((k:Nat):Int).toNat f.toArray)=(XU k f).flatten.toArray:=by
    let:=oO f k [];rw[Z7]at this;rw[YV];show this
   rw[P];show#[.ref s.heap.objs.size,_,I.laid (λb T q=>b4 _ q) (XO _) ?_,W,E () _ (I.YX.fresh (XO _))];show#[?_,_,r.rep k,acs.new _ _];rw[BV];show Ys (abN O M) ()
def Pi(K:lD):R2:=λx y H Q=>GD K x y H Q\/Od K x y H Q
theorem K3:OpR X (Zf .Mult) (Pi X.K):=OpR.or NA LZ
def gW:D->D->z RV
 |.tuple xs,.int k=>if xs≠[]/\1<=k/\k<=1000/\xs.length<=1000 then M (.fz (.tuple (XU k.toNat xs).flatten))else R
 |d,e=>zw d e
def Fg{K:lD}:kZ K (Pi K) gW:=by
 intro O H x y o j l Q n g f e q;unfold gW at e;split at e
 .rename_i ds k
  split at e
  .rename_i h
   ext e;ext f;let(a,xs,rfl,i,b):=FP g;obtain⟨m,rfl⟩:∃m:Nat,k=(m:Int):=#[k.toNat,by ext];rw[YV]at q;show .inr #[a,m,xs,W,W,i.1,λz=>h.1 (b.ne.mp z),by ext,by ext,by rw[b.length];show h.2.2.2,λe=>?_,λ_=>Fin.afA (b.flat m) n q];subst e;let e1:(XU 1 ds).flatten=ds:=by simp
   rw[e1]at q;show q.at (.tup i b)
  .ext e
 .show .inl (NB O H x y o j l Q n g f e q)
theorem xE(i j:Int):gW (.int i) (.int j)=zw (.int i) (.int j):=W
theorem nU(h: -(2^64)<i/\i<2^64):gW (.int i) (.int j)=M (.fz (.int (i*j))):=(xE i j).trans (Nr h)
theorem HX(h: -(2^64)<j/\j<2^64):gW (.int i) (.int j)=M (.fz (.int (i*j))):=(xE i j).trans (L7 h)
end L3
namespace PySem
open Sem (wp)
open Builtin Builtin.Str
def itAt:Bool->Heap->I->I->Nat->Prop
 |true,h,it,a,i=>h.IsTupleIter it a i
 |false,h,it,a,i=>h.IsListIter it a i
def sqAt:Bool->Heap->I->Array U->Prop
 |true,h,a,xs=>h.IsTuple a xs
 |false,h,a,xs=>h.IsList a xs
def x9:Bool->String
 |true=> "tuple_iterator"
 |false=> "list_iterator"
def itAt.ext(x:itAt b h it a i)(e:Heap.ExtBut c h h')(n:it≠c):itAt b h' it a i:=by
 cases b with
 |true=>show Heap.IsTupleIter.extBut x e n
 |false=>show Heap.IsListIter.extBut x e n
def itAt.to(x:itAt b h it a i)(e:∀o,h.get? it=M o->h'.get? it=M o):itAt b h' it a i:=by
 cases b with
 |true=>show Heap.IsTupleIter.at x e
 |false=>show Heap.IsListIter.at x e
def itAt.live(x:itAt b h it a i):∃o,h.get? it=M o/\∀v,o.data≠.cell v:=by
 cases b with
 |true=>let(o,e,_,d):=(show h.IsTupleIter it a i from x);show#[o,e,λv z=>by rw[d]at z;ext z]
 |false=>let(o,e,_,d):=(show h.IsListIter it a i from x);show#[o,e,λv z=>by rw[d]at z;ext z]
def sqAt.ext(x:sqAt b h a xs)(e:Heap.ExtBut c h h')(n:a≠c):sqAt b h' a xs:=by
 cases b with
 |true=>show Heap.IsTuple.extBut x e n
 |false=>show Heap.IsList.extBut x e n
def sqAt.psh(x:sqAt b h a xs)(o:Obj):sqAt b (h.push o) a xs:=by
 cases b with
 |true=>show Heap.IsTuple.push x o
 |false=>show Heap.IsList.push x o
def sqAt.lt(x:sqAt b h a xs):a<h.objs.size:=by
 cases b with
 |true=>let(o,e,_):=(show h.IsTuple a xs from x);show cj e
 |false=>let(o,e,_):=(show h.IsList a xs from x);show cj e
section
variable{prog:Ya}{w:Yq}{A:Ym}{E:Xx->XI->Prop}{s:XI}
def wJ(d:itAt b s.heap it l i)(e:sqAt b s.heap l xs)(a:xs[i]?=M x)
  (q:∀c,itAt b c it l (i+1)->Heap.SameBut it s.heap c->Q x {s with heap:=c}):wpAny (model prog w) A (SmallTypes.nextOf (.ref it)) Q E s:=by
 cases b with
 |true=>show oi d e a q
 |false=>show wpAny_nextOf_list_item d e a q
def Bq(g:A.handled=R)(d:itAt b s.heap it l i)(f:sqAt b s.heap l xs)(a:xs[i]?=R)
  (q:∀c e,Heap.ExtBut it s.heap c->(∃o,c.get? e=M o/\o.cls=.type "StopIteration")->E (.ref e) {s with heap:=c}):wpAny (model prog w) A (SmallTypes.nextOf (.ref it)) Q E s:=by
 cases b with
 |true=>show oS g d f a q
 |false=>show wpAny_nextOf_list_end g d f a q
def A8(a:sqAt b s.heap l xs)
  (q:Q (.ref s.heap.objs.size) {s with heap:=s.heap.push {cls:=.type (x9 b),data:=.fields #v[.ref l,.int 0 0]}}):wpAny (model prog w) A (pyIter (.ref l)) Q E s:=by
 cases b with
 |true=>show ab0 a q
 |false=>show aaR a q
def D4{Q:Xx->XI->Prop}(D:acR z0 TI TO i1 i2 l1 l2)(k:aed s.heap z0 TI TO .none)
  (hTI:IsPair s.heap TI (.ref i1) (.ref i2)) (hTO:IsPair s.heap TO a b) (h1:itAt b1 s.heap i1 l1 n) (h2:itAt b2 s.heap i2 l2 n) (hl1:sqAt b1 s.heap l1 xs) (V:sqAt b2 s.heap l2 ys) (hx:xs[n]?=cL x) (hy:ys[n]?=cL y)
  (q:∀d,aed d z0 TI TO (rawInt s.heap.objs.size)->IsPair d TO x y->itAt b1 d i1 l1 (n+1)->itAt b2 d i2 l2 (n+1)->IsPair d s.heap.objs.size x y->d.objs.size=s.heap.objs.size+1->
   (∀c o,c≠z0->c≠TO->c≠i1->c≠i2->s.heap.get? c=cL o->d.get? c=cL o)->Q (.ref s.heap.objs.size) {s with heap:=d}):
  wpAny (model prog w) A (Yw.«zip.__next__» #[[.ref z0],[]]) (λfin s'=>∃v,fin=.done (.ret v)/\Q v s') E s:=by
 show wpAny _ _ (field (.ref z0) 2>>=_) _ _ _;show CL (Yo k W W ?_);show wpAny _ _ (field (.ref z0) 3>>=_) _ _ _;show CL (Yo k W W ?_);show CL (Y7 hTI W ?_);show wpAny _ _ (SmallTypes.ownedTupleIsFree (.ref z0)>>=_) _ _ _;show CL ?_;ext SmallTypes.ownedTupleIsFree;show CL (Yo k W W (XN ?_));simp only[if_true];show CL (aba ?_);show CL (Yo k W W ?_);show CL (ZO k (by simp) λk₁ t g=>?_);let agh:=t;clear t;show CL ?_;simp only[afY,age,abr,ac3];show CL (CL (acx ?_));show wpAny _ _ (SmallTypes.nextOf (.ref i1)>>=_) _ _ _;show CL (wJ (h1.ext g.extBut D.i1z) (hl1.ext g.extBut D.l1z) hx λk₂ Z i=>XN ?_);let J:=i.extBut _ _ D.TOi1 (g.extBut _ _ D.TOz hTO);show CL (Y7 J W ?_);show CL (acd J λk₃ I h=>?_);let M:=I;clear I;show CL (Z3 (XN ?_));show CL (CL (acx ?_));show wpAny _ _ (SmallTypes.nextOf (.ref i2)>>=_) _ _ _;show CL (wJ (((h2.ext g.extBut D.i2z).ext i.extBut D.i12.symm).ext h.extBut D.TOi2.symm) (((V.ext g.extBut D.l2z).ext i.extBut D.l2i1).ext h.extBut D.l2TO) hy λk₄ Y l=>XN ?_);let H:=l.extBut _ _ D.TOi2 M;show CL (Y7 H W ?_);show CL (acd H λf G j=>?_);let p:IsPair f TO x y:=G;clear G;show CL (Z3 (XN (XN ?_)));show CL (Y7 p W ?_);show CL (wpAny_newTuple ?_);let U:f.objs.size=s.heap.objs.size:=by rw[j.1,l.1,h.1,i.1,g.1]
 let C:=j.extBut _ _ D.TOz.symm (l.extBut _ _ D.i2z.symm (h.extBut _ _ D.TOz.symm (i.extBut _ _ D.i1z.symm agh)));let kp:∀c o,c≠z0->c≠TO->c≠i1->c≠i2->s.heap.get? c=cL o->f.get? c=cL o:=λc o N c2 c3 c4 e=>
  j.extBut _ _ c2 (l.extBut _ _ c4 (h.extBut _ _ c2 (i.extBut _ _ c3 (g.extBut _ _ N e))))
 let T:=((Z.ext h.extBut D.TOi1.symm).ext l.extBut D.i12).ext j.extBut D.TOi1.symm;let S:=Y.ext j.extBut D.TOi2.symm;let X:=cj C;show wpAny _ _ (SmallTypes.ownedTupleHandOut (.ref z0) (.ref f.objs.size)>>=_) _ _ _;show CL ?_;ext SmallTypes.ownedTupleHandOut;let R:aed (f.push {cls:=.type "tuple",data:=.seq #v[x,y]}) z0 TI TO .ellipsis:=b4 _ C;show CL (ZO R (by simp) λk₇ P B=>?_);let L:=P;show ZO L (by simp) λr O u=>?_;let m:=O;let up:∀c o,c≠z0->f.get? c=cL o->r.get? c=cL o:=λc o N e=>u.extBut _ _ N (B.extBut _ _ N (b4 _ e));let F:=u.extBut _ _ (YU X) (B.extBut _ _ (YU X) (ck _ W));let K:r.objs.size=f.objs.size+1:=by rw[u.1,B.1,cN]
 rw[U]at m F K;show XN #[_,W,?_];rw[U];show q r m (up _ _ D.TOz p) (T.to λo e=>up _ o D.i1z e) (S.to λo e=>up _ o D.i2z e) F K λc o N c2 c3 c4 e=>up c o N (kp c o N c2 c3 c4 e)
def Ga(T:A.handled=Ld)(D:acR z0 TI TO i1 i2 l1 l2)(d:aed s.heap z0 TI TO .none)
  (M:IsPair s.heap TI (.ref i1) (.ref i2)) (L:IsPair s.heap TO a b) (U:itAt b1 s.heap i1 l1 n) (Z:itAt b2 s.heap i2 l2 n) (F:sqAt b1 s.heap l1 xs) (J:sqAt b2 s.heap l2 ys) (O:xs[n]?=Ld\/ys[n]?=Ld)
  (q:∀k e,(∀c o,c≠z0->c≠TO->c≠i1->c≠i2->s.heap.get? c=cL o->k.get? c=cL o)->(∃o,k.get? e=cL o/\o.cls=.type "StopIteration")->E (.ref e) {s with heap:=k}):
  wpAny (model prog w) A (Yw.«zip.__next__» #[[.ref z0],[]]) Q E s:=by
 show wpAny _ _ (field (.ref z0) 2>>=_) _ _ _;show CL (Yo d W W ?_);show wpAny _ _ (field (.ref z0) 3>>=_) _ _ _;show CL (Yo d W W ?_);show CL (Y7 M W ?_);show wpAny _ _ (SmallTypes.ownedTupleIsFree (.ref z0)>>=_) _ _ _;show CL ?_;ext SmallTypes.ownedTupleIsFree;show CL (Yo d W W (XN ?_));simp only[if_true];show CL (aba ?_);show CL (Yo d W W ?_);show CL (ZO d (by simp) λS y f=>?_);let H:=y;show CL ?_;simp only[afY,age,abr,ac3];show CL (CL (acx ?_));show wpAny _ _ (SmallTypes.nextOf (.ref i1)>>=_) _ _ _;cases hx:xs[n]? with
 |none=>
  show CL (Bq T (U.ext f.extBut D.i1z) (F.ext f.extBut D.l1z) hx λC e g K=>?_);let(I,i,j):=K;let m:=g _ _ D.i1z.symm H;let ne:e≠z0:=λt=>by subst t;rw[m]at i;ext i;simp at j
  show ZO m (by simp) λr _ h=>q r e (λc o G _ N _ t=>h.extBut _ _ G (g _ _ N (f.extBut _ _ G t))) #[I,h.extBut _ _ ne i,j]
 |some x=>
  let Y:ys[n]?=Ld:=by
   rcases O with t|t
   .rw[hx]at t;ext t
   .show t
  show CL (wJ (U.ext f.extBut D.i1z) (F.ext f.extBut D.l1z) hx λC X g=>XN ?_);let p:=g.extBut _ _ D.TOi1 (f.extBut _ _ D.TOz L);show CL (Y7 p W ?_);show CL (acd p λr P h=>?_);show CL (Z3 (XN ?_));show CL (CL (acx ?_));show wpAny _ _ (SmallTypes.nextOf (.ref i2)>>=_) _ _ _;show CL (Bq T (((Z.ext f.extBut D.i2z).ext g.extBut D.i12.symm).ext h.extBut D.TOi2.symm) (((J.ext f.extBut D.l2z).ext g.extBut D.l2i1).ext h.extBut D.l2TO) Y λR e v K=>?_);let(I,i,j):=K;let l:=v _ _ D.i2z.symm (h.extBut _ _ D.TOz.symm (g.extBut _ _ D.i1z.symm H));let ne:e≠z0:=λt=>by subst t;rw[l]at i;ext i;simp at j
  show ZO l (by simp) λB _ u=>q B e (λc o G c2 N c4 t=>u.extBut _ _ G (v _ _ c4 (h.extBut _ _ c2 (g.extBut _ _ N (f.extBut _ _ G t))))) #[I,u.extBut _ _ ne i,j]
end
section
variable{Y:Ya}{w:Yq}{A:Ym}{E:Xx->XI->Prop}{s:XI}
def xS(D:acR J TI TO i1 i2 l1 l2)(k:aed s.heap J TI TO .none)
  (h:IsPair s.heap TI (.ref i1) (.ref i2)) (g:IsPair s.heap TO a b) (p:itAt b1 s.heap i1 l1 n) (m:itAt b2 s.heap i2 l2 n) (f:sqAt b1 s.heap l1 xs) (e:sqAt b2 s.heap l2 ys) (l:xs[n]?=M x) (j:ys[n]?=M y)
  (q:∀d,aed d J TI TO (rawInt s.heap.objs.size)->IsPair d TO x y->itAt b1 d i1 l1 (n+1)->itAt b2 d i2 l2 (n+1)->IsPair d s.heap.objs.size x y->d.objs.size=s.heap.objs.size+1->
   (∀c o,c≠J->c≠TO->c≠i1->c≠i2->s.heap.get? c=M o->d.get? c=M o)->Q (M (.ref s.heap.objs.size)) {s with heap:=d}):
  wpAny (model Y w) A (pyNext (.ref J)) Q E s:=by
 let i:s.TypeIs (.ref J) "zip":=#[_,k,W];ext pyNext;show CL (amM (Zl i F.slot_zip_next ?_));show ZH F.slot_zip_next i F.entry_zip_next (D4 D k h g p m f e l j λd G C B v u t r=>XN (q d G C B v u t r)) (F.args_zip_next_1 _)
def yM(r:A.handled=R)(D:acR B TI TO J C l1 l2)(k:aed s.heap B TI TO .none)
  (i:IsPair s.heap TI (.ref J) (.ref C)) (h:IsPair s.heap TO a b) (y:itAt b1 s.heap J l1 n) (v:itAt b2 s.heap C l2 n) (g:sqAt b1 s.heap l1 xs) (f:sqAt b2 s.heap l2 ys) (j:xs[n]?=R\/ys[n]?=R)
  (q:∀d,(∀c o,c≠B->c≠TO->c≠J->c≠C->s.heap.get? c=M o->d.get? c=M o)->Q R {s with heap:=d}):wpAny (model Y w) A (pyNext (.ref B)) Q E s:=by
 let l:s.TypeIs (.ref B) "zip":=#[_,k,W];ext pyNext;show CL (amM (Zl l F.slot_zip_next ?_));show ZH F.slot_zip_next l F.entry_zip_next (Ga r D k i h y v g f j λd e p t=>?_) (F.args_zip_next_1 _);let(o,m,u):=t;show CL (adf #[o,m,u] isSubtype_stop (XN (q _ p)))
end
abbrev Tx(h:Heap)(b:Bool)(a:I):Heap:=h.push {cls:=.type (x9 b),data:=.fields #v[.ref a,.int 0 0]}
abbrev Tj(h:Heap)(f e:Bool)(b a:I):Heap:=(Tx h f b).push {cls:=.type (x9 e),data:=.fields #v[.ref a,.int 0 0]}
abbrev Ti(h:Heap)(b f:Bool)(a e:I):Heap:=(Tj h b f a e).push {cls:=.type "tuple",data:=.seq #v[.ref h.objs.size,.ref (Tx h b a).objs.size]}
abbrev Td(h:Heap)(f e:Bool)(b a:I):Heap:=(Ti h f e b a).push {cls:=.type "tuple",data:=.seq #v[.none,.none]}
abbrev V7(h:Heap)(f e:Bool)(b a:I):Heap:=(Td h f e b a).push {cls:=.type "zip",data:=.fields #v[.none,.bool XF,.bool XF,.ref (Tj h f e b a).objs.size,.ref (Ti h f e b a).objs.size]}
theorem sL(e f:Bool)(a b:I)(xs n:Array U):
  Meets (Yw.«zip.__new__» #[[.type "zip",.ref a,.ref b],[]]) (λ_ R s=>sqAt e s.heap a xs/\sqAt f s.heap b n/\R (.ok (.ret (.ref (Td s.heap e f a b).objs.size))) {s with heap:=V7 s.heap e f a b}):=
 .of_wp λp w A R s h=>by
  let(r,g,d,o,q):=s;let(j,i,h):=h;let t:=sub_zip;let m:sqAt e (XI.heap #[r,g,d,o,q]) a xs:=j;let l:sqAt f (XI.heap #[r.push {cls:=.type (x9 e),data:=.fields #v[.ref a,.int 0 0]},g,d,o,q]) b n:=sqAt.psh i _
  wp_walk using A8 m,A8 l
  show#[_,W,h]
section
variable{Y:Ya}{w:Yq}{A:Ym}{E:Xx->XI->Prop}{s:XI}
def F1(e:h.get? it=M {cls:=.type (x9 b),data:=.fields #v[.ref l,.int 0 0]}):itAt b h it l 0:=by
 cases b with
 |true=>show#[_,e,W,W]
 |false=>show#[_,e,W,W]
def Dv(l:sqAt b1 s.heap l1 xs)(j:sqAt J s.heap C ys)
  (q:∀d,aed d (s.heap.objs.size+4) (s.heap.objs.size+2) (s.heap.objs.size+3) .none->IsPair d (s.heap.objs.size+2) (.ref s.heap.objs.size) (.ref (s.heap.objs.size+1))->
   IsPair d (s.heap.objs.size+3) .none .none->itAt b1 d s.heap.objs.size l1 0->itAt J d (s.heap.objs.size+1) C 0->(∀c o,s.heap.get? c=M o->d.get? c=M o)->Q (.ref (s.heap.objs.size+4)) {s with heap:=d}):
  wpAny (model Y w) A (call (.type "zip") [.ref l1,.ref C]) Q E s:=by
 show callType_new F.called_zip () (F.typeCall_zip_2 _ _) (F.newCall_zip_2 _ _) (λobj=>F.args_object_init_3 obj _ _) F.entry_zip_new (sL b1 J l1 C xs ys) #[l,j,?_];let i:(Tx s.heap b1 l1).objs.size=s.heap.objs.size+1:=cN ..;let h:(Tj s.heap b1 J l1 C).objs.size=s.heap.objs.size+2:=by rw[cN,i]
 let g:(Ti s.heap b1 J l1 C).objs.size=s.heap.objs.size+3:=by rw[cN,h]
 let p:(Td s.heap b1 J l1 C).objs.size=s.heap.objs.size+4:=by rw[cN,g]
 let v:∀c o,s.heap.get? c=M o->(Tx s.heap b1 l1).get? c=M o:=λc o e=>b4 _ e;let n:∀c o,(Tx s.heap b1 l1).get? c=M o->(Tj s.heap b1 J l1 C).get? c=M o:=λc o e=>b4 _ e;let f:∀c o,(Tj s.heap b1 J l1 C).get? c=M o->(Ti s.heap b1 J l1 C).get? c=M o:=λc o e=>b4 _ e;let b:∀c o,(Ti s.heap b1 J l1 C).get? c=M o->(Td s.heap b1 J l1 C).get? c=M o:=λc o e=>b4 _ e;let a:∀c o,(Td s.heap b1 J l1 C).get? c=M o->(V7 s.heap b1 J l1 C).get? c=M o:=λc o e=>b4 _ e;let m:(V7 s.heap b1 J l1 C).get? (Td s.heap b1 J l1 C).objs.size=M _:=ck _ W;let r:=a _ _ (ck _ W);let t:=a _ _ (b _ _ (ck _ W));let u:=a _ _ (b _ _ (f _ _ (ck _ W)));let y:=a _ _ (b _ _ (f _ _ (n _ _ (ck _ W))));rw[h,g,p]at m;rw[i,h]at t;rw[g]at r;rw[i]at u;rw[p];show#[#[_,m,W],q _ m t r (F1 y) (F1 u) λc o e=>a _ _ (b _ _ (f _ _ (n _ _ (v _ _ e))))]
end
end PySem
namespace L3
open PySem PySem.Spec PyProof.Rows L2
def Ex(b:Bool)(K:lD)(H:Hp)(a:I)(xs:G V):Prop:=match b with
 |true=>SqT K H a xs
 |false=>SqL K H a xs
def VP(K:lD)(e b:Bool)(a c:I):It:=
 #[λi H=>∃xs ys x y,Ex e K H a xs/\Ex b K H c ys/\xs[i]?=M x/\ys[i]?=M y,
  λi H v f=>∃p x y,H p=R/\v=.ref p/\(∀xs,Ex e K H a xs->xs[i]?=M x)/\(∀ys,Ex b K H c ys->ys[i]?=M y)/\f=bf H p (.tup [x,y]),
  λi H=>∃xs ys,Ex e K H a xs/\Ex b K H c ys/\(xs.length<=i\/ys.length<=i)]
def KB(I:Inv X pins σ H s)(i:SqL X.K H a xs)(h:SqL X.K H a ys):xs=ys:=by
 let(e,g,(o,k,e1,_,n,l),_):=I.list i;let(b,f,(m,k2,e2,_,p,j),_):=I.list h;rw[e1]at e2;ext e2;let:e=b:=by
  let q:e.toArray=b.toArray:=by injection l.symm.trans j
  simpa using q
 subst this;show g.inj f
def pA(I:Inv X pins σ H s)(h:Ex b X.K H a xs):∃c,Vals xs c/\sqAt b s.heap a c.toArray:=by
 cases b with
 |true=>let(c,f,p,e):=I.tuple h;show#[c,f,p]
 |false=>let(c,f,p,e):=I.list h;show#[c,f,p.isList]
def CP(I:Inv X pins σ H s)(f:Ex b X.K H a xs)(e:Ex b X.K H a ys):xs=ys:=by
 cases b with
 |true=>show Kf I f e
 |false=>show KB I f e
def Dg{ch:G XH}(I:Inv X pins σ H s)(g:∀b∈ch,oV X pins H b)
  (k:∀b u,b∉ch->s.heap.get? b=M u->C.get? b=M u):Inv X pins σ H {s with heap:=C,toks:=J}:=by
 let f:∀b u,H b=M u->b∉ch:=λb u e z=>by rw[(g b z).1]at e;ext e
 show I.step (λb j=>?_) (λb u _ _ a e _=>k b u a e) (λb u _ _ a e _=>#[u.slots,k b u a e]) (λ_ _ _ _ n=>n)
  (λb u a e=>#[u,k b u a e]) (λ_ _ e=>e) (λ_ _ _ e=>e) (λb y e=>#[#v[],by rw[e];simp]) (λm hm=>?_) (λb u e=>?_) I.bare
 .let(_,t,_,p,o,l):=g b j;show#[p,t,o,l]
 .let(h,es,w,i,r):=hm;show#[h,es,w,k _ h (λz=>(g _ z).2.1 W) i,r]
 .show(I.YX b u e).aa2 (λc v a q=>k c v ?_ q) (λ_ q=>q) λ_ _ q=>q
  rcases a with z|z
  .rw[z];show f b u e
  .show f c _ z
theorem Hz{K:lD}{d}(b1 V:Bool)(z TI TO C B U T:XH)(D:acR z TI TO C B U T):
  Turn Pz0 w K (.Tuple elts d tp) (VP K b1 V U T) [z,TI,TO,C,B] z (λi h=>aed h z TI TO .none/\IsPair h TI (.ref C) (.ref B)/\(∃a b,IsPair h TO a b)/\itAt b1 h C U i/\itAt V h B T i) where
 mem:=by simp
 obj:=λi h f b e=>by
  let(m,j,(a,c,p),A,r):=f;simp only[Yi,Y9,or_false]at e;rcases e with rfl|rfl|rfl|rfl|rfl
  .show#[_,m,λv q=>by cases(show Data.fields _=Data.cell v from q)]
  .show#[_,j,λv q=>by cases(show Data.seq _ _=Data.cell v from q)]
  .show#[_,p,λv q=>by cases(show Data.seq _ _=Data.cell v from q)]
  .show A.live
  .show r.live
 keep:=λi h h' f k=>by let(m,j,(a,c,p),A,r):=f;show#[k z (by simp) _ m,k TI (by simp) _ j,#[a,c,k TO (by simp) _ p],A.to λo q=>k C (by simp) o q,r.to λo q=>k B (by simp) o q]
 item:=by
  intro X hP hw hK hc i l s σ H E I N f hg;subst hP hw hK;let(m,j,(a,c,p),A,r):=f;let(xs,ys,x,y,L,J,hx,hy):=hg;let(Yz,Q,S):=pA I L;let(G,O,R):=pA I J;let(u,hu,ru):=Q.get hx;let(t,ht,rt):=O.get hy;show xS D m j p A r S R (by simpa using hu) (by simpa using ht) λk z1 o1 g1 g2 pr sz M=>#[_,W,?_];show wpAny_letOwnedTupleGo_zip z1 λF z2 e2=>?_;let Y:=cj m;let hIl:=cj j;let hOl:=cj p;let h1l:C<s.heap.objs.size:=by let(_,q,_):=A.live;show cj q
  let h2l:B<s.heap.objs.size:=by let(_,q,_):=r.live;show cj q
  let hn:=I.YX.fresh (XO _);let d:∀b o,b∉[z,TI,TO,C,B]->s.heap.get? b=cL o->F.get? b=cL o:=λb o e q=>by simp only[Yi,Y9,or_false,not_or]at e;show(e2.2 b e.1).trans (M b o e.1 e.2.2.1 e.2.2.2.1 e.2.2.2.2 q)
  let hT2:=(e2.2 _ (YU Y)).trans pr
  let I2:Inv X l σ (bf H s.heap.objs.size (.tup [x,y])) {s with heap:=F}:=
   I.aev N d (XO _) #[by show 2<=XY;decide,[u,t],.cons ru (.cons rt .nil),#[_,hT2,#[W,_,W],W]]
  let g:∀b o,b≠z->k.get? b=cL o->F.get? b=cL o:=λb o n q=>(e2.2 b n).trans q;show#[.ref s.heap.objs.size,_,I2,W,#[_,x,y,hn,W,λzs hs=>by rw[CP I hs L];show hx,λzs hs=>by rw[CP I hs J];show hy,W],
   #[z2,g _ _ D.TIz (M _ _ D.TIz D.TITO D.TIi1 D.TIi2 j),#[_,_,g _ _ D.TOz o1],g1.to λo q=>g _ _ D.i1z q,g2.to λo q=>g _ _ D.i2z q],λb e=>?_]
  let hb2:b<s.heap.objs.size:=by simp only[Yi,Y9,or_false]at e;rcases e with rfl|rfl|rfl|rfl|rfl<;>assumption
  rw[az (Ye hb2)];show(N b e).1
 done:=by
  intro X hP hw hK hc i l s σ H E I N f hg;subst hP hw hK;let(m,j,(a,c,p),A,r):=f;let(xs,ys,L,J,Z):=hg;let(Yz,Q,S):=pA I L;let(G,O,R):=pA I J;let hl1:=Q.length;let hl2:=O.length;let hd:Yz.toArray[i]?=Ld\/G.toArray[i]?=Ld:=by
   rcases Z with q|q
   .show .inl (by simp;ext)
   .show .inr (by simp;ext)
  show yM (I.ok.hd hc) D m j p A r S R hd λk M=>#[W,?_];show Dg I N λb o e q=>by simp only[Yi,Y9,or_false,not_or]at e;show M b o e.1 e.2.2.1 e.2.2.2.1 e.2.2.2.2 q
 self:=λ_ _ _ _ _ f h=>air f.1 h
def Dt(n b a:Nat)(f:b<n)(e:a<n):acR (n+4) (n+2) (n+3) n (n+1) b a:=by constructor<;>(show(_:Nat)≠_;ext)
def Ou(K:lD)(d:TA):TI:=λe H R=>d e H λg b=>∃a c b1 f,g=[.ref a,.ref c]/\(∃xs,Ex b1 K b a xs)/\(∃ys,Ex f K b c ys)/\R (VP K b1 f a c) b
def Ja:YI "zip"=M (.type "zip"):=by left
def PD{d}(Q:Gl X "zip")(hm:X.mg "zip"=Ld)(k:PA X [l,m] ta)(N:X6 [l,m] X.env=(XF,eval l X.env)::X6 [m] X.env:=by rfl)(O:(backTo pos (X6 [m] X.env)).any (·.1)=XF:=by rfl):
  PI X (.Tuple elts d tp) (.Call (.Name "zip" p) [l,m] [] pos) (Ou X.K ta):=by
 intro f s y H R I h;show Call_ (pG I Q hm Ja (aan (bZ (k pos f s y H _ I h) λus g #[vs,w,j,F,G]=>?_) N O));let(a,c,Y,U,e,(xs,C),(Z,B),q):=G;subst e;let(u,t,rfl,E,rt):=Cq F;ext E;ext rt;let(Yz,rx,r):=pA j C;let(M,ry,o):=pA j B;let T:∀b∈[g.heap.objs.size+4,g.heap.objs.size+2,g.heap.objs.size+3,g.heap.objs.size,g.heap.objs.size+1],oV X f w b:=λb v=>by
  let i:g.heap.objs.size<=b:=by simp only[Yi,Y9,or_false]at v;let S:=v;ext
  show j.adk i (j.YX.fresh i)
 show Dv r o λh1 n L J A z P=>?_;show air n ?_;show#[g.heap.objs.size+4,_,_,_,w,W,j.kept P,Hz Y U _ _ _ _ _ a c (Dt _ _ _ r.lt o.lt),#[n,L,#[_,_,J],A,z],T,q]
def Pq:Yc->Bool
 |.Starred _ _=>P
 |_=>XF
def uZ(e:Yc)(es:G Yc)(env:Env)(h:Pq e=XF):X6 (e::es) env=(XF,eval e env)::X6 es env:=by ext e<;>first|rfl|ext h
def jN:G D->G D->G D
 |x::r,y::q=>.tuple [x,y]::jN r q
 |_,_=>[]
theorem sI:∀(xs a:G D),(jN xs a).length=min xs.length a.length
 |[],_=>by simp[jN]
 |_::_,[]=>by simp[jN]
 |_::r,_::q=>by simp only[jN,XZ,sI r q];ext
theorem sD:∀(xs a:G D) (i:Nat),(jN xs a)[i]?=(xs[i]?).bind λx=>(a[i]?).map λy=>.tuple [x,y]
 |[],_,_=>by simp[jN]
 |x::r,[],i=>by ext i<;>simp[jN]
 |x::r,y::q,0=>by simp[jN]
 |x::r,y::q,i+1=>by simp only[jN,adJ];show sD r q i
section
variable{K:lD}{E:XK}{B O Z:bK}{T H X:Hp}{S:L2.St}{Y N:aU}{v:V}
def adV(b:Bool)(O:bK)(K:lD)(H:Hp)(a:I)(xs:G V):Prop:=match b with
 |true=>abx O K H a xs
 |false=>acv O K H a xs
def adV.ev(h:adV b O K H a xs)(e:Ev O H Z X):adV b Z K X a xs:=by
 cases b with
 |true=>show abx.ev h e
 |false=>show acv.ev h e
def adV.at(h:adV b O K H a xs):Ex b K H a xs:=by
 cases b with
 |true=>show(show abx O K H a xs from h).1
 |false=>show(show acv O K H a xs from h).1.sq
def Q1(h:adV b1 O K H a xs)(hd:Zc O K H xs ds)(g:adV b2 O K H c ys)(C:Zc O K H ys es):zR K (VP K b1 b2 a c) O H (jN ds es):=by
 intro Z X e n;let j:=h.ev e;let f:=hd.ev e;let m:=g.ev e;let l:=C.ev e;rw[sI];show#[λi hi=>?_,#[xs,ys,j.at,m.at,?_]]
 .let w:i<ds.length:=by ext
  let u:i<es.length:=by ext
  let(x,A,dx):=f.get (XM w);let(y,z,F):=l.get (XM u);show#[#[xs,ys,x,y,j.at,m.at,A,z],?_];rintro t G ⟨p,J,I,b,rfl,Q,L,rfl⟩;let r:=Q xs j.at;let o:=L ys m.at;rw[A]at r;rw[z]at o;ext r;ext o;show#[bO b _,.tuple [ds[i],es[i]],?_,.tup #[SqT.of aI,λq=>a7 q (n p b)] (.cons (dx.ev (Ev.grow (bO b _))) (.cons (F.ev (Ev.grow (bO b _))) .nil))];rw[sD,XM w,XM u];rfl
 .rw[hd.length,C.length];ext
def Oo(h:DV O K H v d)(q:eW d=M ds):∃b a xs,v=.ref a/\adV b O K H a xs/\Zc O K H xs ds:=by
 cases h with
 |tup h e=>ext q;show#[P,_,_,W,h,e]
 |lst h e=>ext q;show#[XF,_,_,W,h,e]
 |_=>ext q
def tW(c:FA):FI:=λY=>(c Y).bind λa=>(Res.YD (qh a.2 a.1)).bind λb=>match b.1 with
 |[d,e]=>(Res.YD (eW d)).bind λds=>(Res.YD (eW e)).bind λes=>.ok (jN ds es,b.2)
 |_=>.bad
def RP(h:AO K E ta fa):IO K E (Ou K ta) (tW fa):=by
 intro B T O S H Y J R w;show h B T O S H Y _ R (w.bind.imp λa b L Q G e1 C m=>?_);let((ds,i),q,b):=b.YD;let(F,e2,R2,p):=sJ C m q;dsimp only at b;cases p with
 |nil=>show b.elim
 |cons o e=>
  cases e with
  |nil=>show b.elim
  |cons e n=>
   cases n with
   |cons _ _=>show b.elim
   |nil=>let(es,l,b):=WR.YD b;let(fs,j,b):=WR.YD b;let(y,A,xs,rfl,g,t):=Oo o l;let(u,z,I,rfl,f,r):=Oo e j;show#[A,z,y,u,W,#[_,g.at],#[_,f.at],b F _ G (e1.trans e2) R2 (Q1 g t f r)]
def eD(d e:D):b3 RV:=match d,e with
 |.str z,.int i=>if z.length<=1000000 then(lJ z.cps.toList i).map λc=>.fz (.str #[#v[c]])else R
 |_,_=>R
def Nz:kZ K (TU K) eD:=by
 intro O H x y l g j Q n b a e q;unfold eD at e;split at e
 .split at e
  .rename_i z i f
   cases h:lJ z.cps.toList i with
   |none=>rw[h]at e;ext e
   |some c=>rw[h]at e;ext e;ext b;ext a;show .inr (.inr #[z,i,c,W,W,CD f,h,q.at (.str _)])
  .ext e
 .ext e
end
end L3
namespace L3
open PySem L2
def WA(N C:aU->Prop)(T:RV->Prop):Res Fl->Prop
 |.ok (.nx a)=>N a
 |.ok (.ct a)=>C a
 |.ok (.rt v)=>T v
 |_=>False
structure Go(r:Res Fl)(N C:aU->Prop)(T:RV->Prop):Prop where
 out:WA N C T r
section
variable{ρ ρ1 ρ2 ρ3:aU}{f g:FS}{fe:FE}{pv:PV}{d:D}{rv:RV}{ds:bg D}{N C:aU->Prop}{T:RV->Prop}
def Go.eq(e:r=r')(h:Go r' N C T):Go r N C T:=by rw[e];show h
def Go.imp(h:Go r N C T)(b:∀ρ,N ρ->N' ρ)(e:∀ρ,C ρ->C' ρ)(a:∀v,T v->T' v):Go r N' C' T':=by
 show#[?_];let h:=h.out;cases r with
 |bad=>show h
 |er x=>show h
 |ok i=>
  cases i with
  |nx r=>show b _ h
  |ct r=>show e _ h
  |rt v=>show a _ h
  |bk r=>show h
def EI(h:Go (f ρ) (λr=>Go (g r) N C T) C T):Go (bw f g ρ) N C T:=by
 show#[?_];let h:=h.out;ext bw;cases q:f ρ with
 |bad=>rw[q]at h;show h.elim
 |er x=>rw[q]at h;show h.elim
 |ok a=>
  rw[q]at h;cases a with
  |nx r=>show(show Go (g r) N C T from h).out
  |ct r=>show h
  |rt v=>show h
  |bk r=>show h.elim
def Ig(h:c ρ=.ok (b,ρ1))(a:b=P->Go (f ρ1) N C T)(e:b=XF->Go (g ρ1) N C T):Go (mL c f g ρ) N C T:=by
 ext mL;rw[h,eh];cases b with
 |true=>show a W
 |false=>show e W
theorem JG(b:fe ρ=.ok (pv,ρ1))(a:gt pv ρ1=.ok ρ2)(h:N ρ2):Go (gL fe gt ρ) N C T:=.eq (zW b a W) #[h]
theorem ra(a:fe ρ=.ok (pv,ρ1))(h:N ρ1):Go (nK fe ρ) N C T:=.eq (A2 a) #[h]
theorem eS(b:fe ρ=.ok (pv,ρ1))(a:Eh ρ1 pv=M rv)(h:T rv):Go (dJ fe ρ) N C T:=.eq (vX b a) #[h]
theorem wN(h:N ρ):Go (d7 ρ) N C T:=#[h]
theorem Bv(I:Nat->aU->Prop):∀(ds:G D) (k:Nat) (ρ:aU),I k ρ->(∀i d ρ,ds[i]?=M d->I (k+i) ρ->∃ρ1,gt (.fz d) ρ=.ok ρ1/\Go (b ρ1) (I (k+i+1)) (I (k+i+1)) T)->Go (p7 gt b ds ρ) (I (k+ds.length)) C T
 |[],k,ρ,h0,_=>#[h0]
 |d::r,k,ρ,h0,u=>by
  let(ρ1,o,a):=u 0 d ρ W h0;let a:=a.out;let l:∀j,I (k+1) j->Go (p7 gt b r j) (I (k+(r.length+1))) C T:=λj h=>by
   let e:k+(r.length+1)=k+1+r.length:=by ext
   rw[e];show Bv I r (k+1) j h λi t m w n=>?_;let e:k+1+i=k+(i+1):=by ext
   rw[e]at n⊢;show u (i+1) t m (by simpa using w) n
  show#[?_];show WA _ _ _ ((gt (.fz d) ρ).bind _);rw[o,eh];cases q:b ρ1 with
  |bad=>rw[q]at a;show a.elim
  |er x=>rw[q]at a;show a.elim
  |ok p=>
   rw[q]at a;cases p with
   |nx r=>show(l _ a).out
   |ct r=>show(l _ a).out
   |rt v=>show a
   |bk r=>show a.elim
def FZ(I:Nat->aU->Prop)(k:o ρ=.ok (ds,ρ1))(j:I 0 ρ1)(a:∀i d ρ,ds[i]?=M d->I i ρ->∃ρ1,gt (.fz d) ρ=.ok ρ1/\Go (b ρ1) (I (i+1)) (I (i+1)) T)(e:∀c,I ds.length c->N c):Go (pE o gt b ρ) N C T:=by let:=Bv (C:=C) I ds 0 ρ1 j (by simpa using a);rw[YB]at this;show .eq (Ai k) (this.imp e (λ_ h=>h) λ_ h=>h)
def oM(a:ds.map (λd=>M (.fz d))++XU (n - ds.length) R=ρ)(h:Go (g ρ) (λ_=>T (.fz .none)) (λ_=>False) T):∃rv,fV n g ds=.ok rv/\T rv:=by
 let h:=h.out;ext fV;rw[a];cases q:g ρ with
 |bad=>rw[q]at h;show h.elim
 |er x=>rw[q]at h;show h.elim
 |ok b=>
  rw[q]at h;cases b with
  |nx r=>show#[_,W,h]
  |ct r=>show h.elim
  |rt v=>show#[_,W,h]
  |bk r=>show h.elim
def iX(a:ds.map (λd=>M (.fz d))++XU (n - ds.length) R=ρ)(h:Go (g ρ) (λ_=>RV.fz .none=v) (λ_=>False) (λr=>r=v)):fV n g ds=.ok v:=by let(rv,e,b):=oM (T:=λr=>r=v) a h;rw[e,b]
theorem eU(b:fe ρ=.ok (pv,ρ1))(a:gt pv ρ1=.ok ρ2)(c:ρ2=ρ3)(h:Go (g ρ3) N C T):Go (bw (gL fe gt) g ρ) N C T:=.eq (GW (zW b a c)) h
theorem ja(b:fe ρ=.ok (pv,ρ1))(a:Eh ρ1 pv=M rv)(h:T rv):Go (bw (dJ fe) g ρ) N C T:=.eq (FR (vX b a)) #[h]
theorem fA(h:Go (g ρ) N C T):Go (bw d7 g ρ) N C T:=.eq W h
def D3:bw (bw f1 f2) g ρ=bw f1 (bw f2 g) ρ:=by
 ext bw;cases f1 ρ with
 |bad=>rfl
 |er x=>rfl
 |ok a=>ext a<;>rfl
theorem Gd(h:Go (bw f1 (bw f2 g) ρ) N C T):Go (bw (bw f1 f2) g ρ) N C T:=.eq D3 h
def l7(i:c ρ=.ok (b,ρ1))(a:b=P->Go (bw f1 g ρ1) N C T)(h:b=XF->Go (bw f2 g ρ1) N C T):Go (bw (mL c f1 f2) g ρ) N C T:=by
 let e:bw (mL c f1 f2) g ρ=if b=P then bw f1 g ρ1 else bw f2 g ρ1:=by unfold bw mL;rw[i,eh];ext b<;>rfl
 show .eq e ?_;cases b with
 |true=>show a W
 |false=>show h W
theorem wc(I:Nat->aU->Prop)(j:o ρ=.ok (ds,ρ1))(h:I 0 ρ1)(a:∀i d ρ,ds[i]?=M d->I i ρ->∃ρ1,gt (.fz d) ρ=.ok ρ1/\Go (b ρ1) (I (i+1)) (I (i+1)) T)(e:∀c,I ds.length c->Go (g c) N C T):Go (bw (pE o gt b) g ρ) N C T:=
 EI (FZ I j h a e)
theorem u7(I:aU->Prop)(P:Nat->D->Prop):∀(ds:G D) (k:Nat) (ρ:aU) (acc:G D),I ρ->acc.length+ds.length<=1000000->(∀i d,ds[i]?=M d->∀ρ,I ρ->∃x c,kN gt J fe d ρ=.ok (M x,c)/\I c/\P (k+i) x)->
  ∃xs,di gt J fe ds ρ acc=.ok (acc++xs)/\xs.length=ds.length/\∀i x,xs[i]?=M x->P (k+i) x
 |[],k,ρ,acc,_,_,_=>#[[],by show Res.ok acc=_;simp,W,λi x h=>by simp at h]
 |d::r,k,ρ,acc,h0,v,u=>by
  let(x,c,n,m,l):=u 0 d W ρ h0;rw[XZ]at v;let(xs,q,p,o):=u7 I P r (k+1) c (acc++[x]) m (by rw[XJ];simp;ext) λi t w a j=>by
   let e:k+1+i=k+(i+1):=by ext
   rw[e];show u (i+1) t (by simpa using w) a j
  show#[x::xs,?_,by rw[XZ,p,XZ],λi y b=>?_]
  .rw[sX n ()];show di gt J fe r c (acc++[x])=_;rw[q,Yb];rfl
  .cases i with
   |zero=>cases(show M x=M y from b);show l
   |succ i=>
    let e:k+(i+1)=k+1+i:=by ext
    rw[e];show o i y (by simpa using b)
def se(I:aU->Prop)(P:Nat->D->Prop)(e:I ρ)(b:ds.length<=1000000)(a:∀i d,ds[i]?=M d->∀ρ,I ρ->∃x c,kN gt ft fe d ρ=.ok (M x,c)/\I c/\P i x):
  ∃xs,j4 (di gt ft fe ds ρ [])=.ok xs/\xs.length=ds.length/\∀i x,xs[i]?=M x->P i x:=by
 let(xs,l,j,h):=u7 I P ds 0 ρ [] e (by simpa using b) (by simpa using a);show#[xs,by rw[l];rfl,j,by simpa using h]
theorem qN{α:Type}{f:α->D}{Q:Nat->α->Prop}:∀(xs:G D) (k:Nat),(∀i x,xs[i]?=M x->∃a,x=f a/\Q (k+i) a)->∃as:G α,xs=as.map f/\∀i a,as[i]?=M a->Q (k+i) a
 |[],_,_=>#[[],W,λi a h=>by simp at h]
 |x::r,k,h=>by
  let(a,e,q):=h 0 x W;let(as,e2,l):=qN (f:=f) (Q:=Q) r (k+1) λi y m=>by
   let e:k+1+i=k+(i+1):=by ext
   rw[e];show h (i+1) y (by simpa using m)
  show#[a::as,by rw[e,e2];rfl,λi b j=>?_];cases i with
  |zero=>cases(show M a=M b from j);show q
  |succ i=>
   let e:k+(i+1)=k+1+i:=by ext
   rw[e];show l i b (by simpa using j)
def Vz(c:XG.strOk a=P)(e:XG.strOk b=P):dh (.str a) (.str b)=M (.fz (.bool (a==b))):=by ext dh;rw[show l8 (.str a)=P by ext l8;rw[show XG.canLay0 (.str a)=P from c];rfl,show XG.canLay0 (.str b)=P from e,ZK,ax W];rfl
def Pa(b:XG.strOk a=P):dh (.str a) (.str a)=M (.fz (.bool P)):=by rw[Vz b b,eg]
def BG(c:XG.strOk a=P)(e:XG.strOk b=P)(h:(a==b)=XF):dh (.str a) (.str b)=M (.fz (.bool XF)):=by rw[Vz c e,h]
theorem vR{α:Type}{xs:G α}{i:Int}{v:α}(a:0<=i)(h:xs[i.toNat]?=M v):lJ xs i=M v:=Sl a h
def LO(a:0<=i)(h:ds[i.toNat]?=M d):aW (.list ds) (.int i)=M (.fz d):=by show(lJ ds i).map RV.fz=_;rw[vR a h];rfl
def J6{s:G Nat}(e:s.Pairwise (·<·))(h:∀k∈s,k<n):s.length<=n:=by
 let:∀(s:G Nat) (a:Nat),s.Pairwise (·<·)->(∀k∈s,a<=k/\k<n)->s.length<=n - a:=by
  intro s
  induction s with
  |nil=>intro a _ _;show YC _
  |cons x r i=>intro a e h;let(l,j):=aaL.mp e;let m:=h x X0;let:=i (x+1) j λk b=>#[l k b,(h k (XX _ b)).2];rw[XZ];ext
 show this s 0 e λk b=>#[YC _,h k b]
def qJ(c:fr ρ=.ok (o,ρ1))(hd:qh ρ1 o=M ([d,e],ρ2))(b:eW d=M es)(a:eW e=M fs):tW fr ρ=.ok (jN es fs,ρ2):=by ext tW;rw[c,eh,hd,aQ,eh];dsimp only;rw[b,aQ,eh,a,aQ,eh]
end
end L3
namespace L3
open PySem PySem.Spec PyProof.Rows L2 PySem.Builtin PySem.Builtin.Str
section
variable{K:lD}{E:XK}{B O X:bK}{T H S:Hp}{N:L2.St}{L Y:aU}{v:V}
def W8(K:lD)(r:V->G V->Hp->VK->Prop)(f:Str->G D->b3 RV):Prop:=∀(O:bK) (H:Hp) (z:Str) (xs:G V) (ds:G D) (a:RV) (Q:VK),l6 O H->Paired (DX O K H) xs ds->f z ds=M a->Fin O K H Q a->r (.str z) xs H Q
end
end L3
namespace L2
open PySem PySem.Spec PyProof.Rows
section
variable{Y:Type}[DecidableEq Y]
def ki(b:G (Y×V))(k:Y):z V:=(b.find? λa=>decide (a.1=k)).map (·.2)
def jg(b:G (Y×V))(k:Y)(v:V):G (Y×V):=
 if(b.any λa=>decide (a.1=k))=P then b.map (λa=>if a.1=k then(a.1,v)else a)else b++[(k,v)]
def nW(b:G (Y×V))(k:Y):G (Y×V):=b.filter λa=>decide (a.1≠k)
def r8{k:Y}(e:p.1=k):ki (p::r) k=M p.2:=by simp[ki,Yv,e]
def rA{k:Y}(e:¬p.1=k):ki (p::r) k=ki r k:=by simp[ki,Yv,e]
theorem xH(k:Y):∀a:G (Y×V),(a.any λb=>decide (b.1=k))=(ki a k).isSome
 |[]=>rfl
 |p::r=>by
  rw[aav];by_cases e:p.1=k
  .simp only[r8 e,a4 e,aaf,aeF]
  .rw[rA e,a5 e,aa6];show xH k r
def kP(a:G (Y×V))(k:Y)(v:V):(jg a k v).length<=a.length+1:=by
 ext jg;split
 .rw[Xz];ext
 .rw[XJ,XZ,ZI];ext
def aa1.aa0(r:aa1 o u):o.isSome=u.isSome:=by
 cases o with
 |none=>cases u with
  |none=>rfl
  |some _=>show(show False from r).elim
 |some _=>cases u with
  |none=>show(show False from r).elim
  |some _=>rfl
def KV.val{d:G (Y×V)}{c:G (Y×U)}(r:KV d c)(k:Y):aa1 (ki d k) (valueAt c k):=by
 unfold KV at r
 induction r with
 |nil=>show True.intro
 | @cons p q l i h t j=>
  let(f,g):=h;by_cases e:p.1=k
  .let a:q.1=k:=f.symm.trans e
   let b:valueAt (q::i) k=M q.2:=by simp[valueAt,Yv,a]
   rw[r8 e,b];show g
  .let a:¬q.1=k:=λz=>e (f.trans z)
   let b:valueAt (q::i) k=valueAt i k:=by simp[valueAt,Yv,a]
   rw[rA e,b];show j
def KV.any(r:KV Yf vs)(k:Y):(Yf.any λb=>decide (b.1=k))=vs.any λb=>decide (b.1=k):=by
 unfold KV at r
 induction r with
 |nil=>rfl
 |cons h t a=>rw[aav,aav,a,h.1]
def KV.ahe(r:KV Yf vs)(k:Y)(b:RelV y u):
  KV (Yf.map λc=>if c.1=k then(c.1,y)else c) (vs.map λc=>if c.1=k then(c.1,u)else c):=by
 unfold KV at r⊢
 induction r with
 |nil=>show .nil
 | @cons p q j i h t g=>
  rw[X5,X5];show .cons ?_ g;let(a,f):=h;by_cases e:p.1=k
  .rw[ax e,ax (a.symm.trans e)];show#[a,b]
  .rw[aE e,aE (λz=>e (a.trans z))];show#[a,f]
def KV.put(r:KV Yf vs)(k:Y)(a:RelV y u):KV (jg Yf k y) (stored vs k u):=by
 unfold jg stored;rw[r.any k];by_cases e:(vs.any λb=>decide (b.1=k))=P
 .rw[ax e,ax e];show r.ahe k a
 .rw[aE e,aE e];show Paired.snoc r #[W,a]
def KV.drop(r:KV Yf vs)(k:Y):KV (nW Yf k) (without vs k):=by
 unfold KV at r⊢;unfold nW without
 induction r with
 |nil=>show .nil
 | @cons p q m l h t j=>
  let(f,g):=h;rw[abd,abd];by_cases e:p.1=k
  .let a:¬decide (p.1≠k)=P:=by simp[e]
   let b:¬decide (q.1≠k)=P:=by simp[f.symm.trans e]
   rw[aE a,aE b];show j
  .let i:¬q.1=k:=λz=>e (f.trans z)
   let a:decide (p.1≠k)=P:=by simp[e]
   let b:decide (q.1≠k)=P:=by simp[i]
   rw[ax a,ax b];show .cons #[f,g] j
def KV.keys{b:G (Y×U)}(r:KV Yf b):Yf.map (·.1)=b.map (·.1):=by
 unfold KV at r
 induction r with
 |nil=>rfl
 |cons h t a=>rw[X5,X5,a,h.1]
theorem KV.length(r:KV Yf vs):Yf.length=vs.length:=Paired.length r
theorem G6(a:G (Y×V))(k:Y):(nW a k).length<=a.length:=abz _ _
end
def uI(r:RelV (kV k) u):(cM a w).is k u=XA:=by
 cases k with
 |inl i=>let(t,e):=(show∃t,u=Xx.int i t from r);subst e;show x4 a w i t
 |inr x=>let(t,e):=(show∃t,u=Xx.str x t from r);subst e;show yj a w x t
theorem uM:∀{b:G cB} {us:G U},Vals (b.map kV) us->ItemsAre (cM a w) b us
 |[],_,r=>by rw[ZW]at r;ext r;show .nil
 |k::b,_,r=>by
  rw[X5]at r;cases r with
  |cons h t=>show .cons (uI h) (uM t)
abbrev KT(H:Hp):G (G cB×V)->G (G cB×I×U)->Prop:=Paired λp q=>p.1=q.1/\H q.2.1=M (.tup (p.1.map kV))/\RelV p.2 q.2.2
def KT.val(r:KT H Yf xs)(k:G cB):aa1 (ki Yf k) ((atKey xs k).map (·.2)):=by
 induction r with
 |nil=>show True.intro
 | @cons p q l i h t j=>
  let(f,_,g):=h;by_cases e:p.1=k
  .let a:=f.symm.trans e
   let b:atKey (q::i) k=M q.2:=by simp[atKey,Yv,a]
   rw[r8 e,b];show g
  .let a:¬q.1=k:=λz=>e (f.trans z)
   let b:atKey (q::i) k=atKey i k:=by simp[atKey,Yv,a]
   rw[rA e,b];show j
def KT.ahe(r:KT H Yf xs)(k:G cB)(f:RelV y u):
  KT H (Yf.map λc=>if c.1=k then(c.1,y)else c) (xs.map (putAt k u)):=by
 induction r with
 |nil=>show .nil
 | @cons p q l j h t i=>
  rw[X5,X5];show .cons ?_ i;let(a,b,g):=h;ext putAt;by_cases e:p.1=k
  .rw[ax e,ax (a.symm.trans e)];show#[a,b,f]
  .rw[aE e,aE (λz=>e (a.trans z))];show#[a,b,g]
def KT.put(r:KT H Yf xs)(k:G cB)(g:H b=M (.tup (k.map kV)))(a:RelV y u):
  KT H (jg Yf k y) (storedH xs k b u):=by
 let e:(Yf.any λf=>decide (f.1=k))=(atKey xs k).isSome:=by rw[xH,(r.val k).aa0,aaO]
 unfold jg storedH;rw[e];by_cases q:(atKey xs k).isSome=P
 .rw[ax q,ax q];show r.ahe k a
 .rw[aE q,aE q];show Paired.snoc r #[W,g,a]
theorem KT.keeps(r:KT H Yf xs)(a:∀b ys,H b=M (.tup ys)->H' b=M (.tup ys)):KT H' Yf xs:=
 Paired.aa3 r λ_ _ z=>#[z.1,a _ _ z.2.1,z.2.2]
section
variable{P:Ya}{w:Yq}{H:Hp}{h:Heap}{a:XH}
theorem OS(ok:HOk P w H h)(e:Rd H a u):ObjOk P w H h a u:=e.ok ok
theorem yT(ok:HOk P w H h)(e:Rd H a (.dK o)):o.length<=XY/\(a==Y2)=XF/\∃b,KV o b/\h.DictOf (cM P w) a b:=
 show ObjOk P w H h a (.dK o)from OS ok e
theorem yl(ok:HOk P w H h)(e:H a=M (.dK o)):o.length<=XY/\(a==Y2)=XF/\∃b,KV o b/\h.DictOf (cM P w) a b:=yT ok (.inl e)
def v7{c:G cB}(ok:HOk P w H h)(e:H a=M (.tup (c.map kV))):(tupleKind (cM P w)).is h c a:=by let(_,i,r,o,g,(f,n,b),_):=(show ObjOk P w H h a (.tup (c.map kV))from ok a _ e);show#[o,i.toArray,n,g,f,b,by simpa using uM r]
def x0(ok:HOk P w H h)(e:Rd H a (.dT C)):C.length<=XY/\(a==Y2)=XF/\
  ∃xs,KT H C xs/\h.DictOfH (tupleKind (cM P w)) a xs:=by
 let(z,y,xs,r,o,es,u,n,j,i,g,f):=(show ObjOk P w H h a (.dT C)from OS ok e);show#[z,y,xs,r,o,es,u,n,j,i,g,λx b=>?_,f];let all:∀{l:G (G cB×V)} {m:G (G cB×I×U)},KT H l m->∀x∈m,(tupleKind (cM P w)).is h x.1 x.2.1:=by
  intro l m q
  induction q with
  |nil=>intro x b;show nomatch b
  | @cons p q E B v t A=>
   intro x b;rcases Yi.mp b with e|b
   .subst e;show v7 ok (by rw[<-v.1];show v.2.1)
   .show A x b
 show all r x b
theorem UG(ok:HOk P w H h)(e:H a=M (.dT o)):o.length<=XY/\(a==Y2)=XF/\
  ∃xs,KT H o xs/\h.DictOfH (tupleKind (cM P w)) a xs:=x0 ok (.inl e)
end
def adp(H:Hp)(a:I)(y:V)(r:z V):Prop:=
 (∃e k,Rd H a (.dK e)/\y=kV k/\r=ki e k)\/∃e k b,Rd H a (.dT e)/\y=.ref b/\H b=M (.tup (k.map kV))/\r=ki e k
def afy(H:Hp)(a:I)(y v:V)(H':Hp):Prop:=
 (∃e k,H a=M (.dK e)/\y=kV k/\e.length<XY/\H'=bf H a (.dK (jg e k v)))\/
 ∃e k b,H a=M (.dT e)/\y=.ref b/\H b=M (.tup (k.map kV))/\e.length<XY/\H'=bf H a (.dT (jg e k v))
theorem adp.k{k:cB}(e:H a=M (.dK Yf)):adp H a (kV k) (ki Yf k):=.inl #[Yf,k,.inl e,W,W]
theorem afy.k{k:cB}(e:H a=M (.dK Yf))(b:Yf.length<XY):afy H a (kV k) v (bf H a (.dK (jg Yf k v))):=.inl #[Yf,k,e,W,b,W]
section
variable{X:Cx}{Z:bg (XH×Obj)}{Y:St}{H:Hp}{s:XI}{a:XH}{y v:V}{u r:Xx}{o:b3 V}{A:Ym}{E:Xx->XI->Prop}
def Inv.big(I:Inv X Z Y H s):Y2<s.heap.objs.size:=by let h:=(I.mod.glob.keeps I.bk).lt;show aal () h
def C8{Q:U->XI->Prop}(t:A.units+1<cLine)(I:Inv X Z Y H s)(g:adp H a y (M v))(q:RelV y u)(h:∀c d,Inv X Z Y H d->RelV v c->Q c d):
  wpAny (model X.prog X.w) A (getItem (.ref a) u) Q E s:=by
 rcases g with⟨J,k,e,n,l⟩|⟨J,k,b,e,n,F,l⟩
 .subst n;let(z,C,w,i,dd):=yT I.YX e;let(c,j,f):=aa1.some_of (v:=v) (o:=valueAt w k) (by rw[l];show i.val k);show wpAny_getItem_of (uI q) dd.mapOf j (h c _ (I.tok _) f)
 .subst n;cases(show u=Xx.ref b from q);let(z,C,xs,i,dd):=x0 I.YX e;let(c,j,f):=aa1.some_of (v:=v) (o:=(atKey xs k).map (·.2)) (by rw[l];show i.val k);let(p,B,m):=abe.mp j;show ag4 (acD t) (v7 I.YX F) dd B ?_;rw[m];show h c _ (I.tok _) f
def V0{Q:U->XI->Prop}(n:A.units+1<cLine)(I:Inv X Z Y H s)(g:adp H a y o)(m:RelV y u)(h:∀c,Inv X Z Y H c->Q (.bool o.isSome) c):
  wpAny (model X.prog X.w) A (Zk .In u (.ref a)) Q E s:=by
 rcases g with⟨t,k,e,j,l⟩|⟨t,k,b,e,j,p,l⟩
 .subst j;let(z,i,w,f,dd):=yT I.YX e;show wpAny_in_of (uI m) i dd.mapOf ?_;rw[<-(f.val k).aa0,<-l];show h _ (I.tok _)
 .subst j;cases(show u=Xx.ref b from m);let(z,i,xs,f,dd):=x0 I.YX e;show amN (acD n) (v7 I.YX p) i dd ?_;let q:=(f.val k).aa0;rw[aaO]at q;rw[<-q,<-l];show h _ (I.tok _)
theorem nZ{c:Heap}{d:Nat}{f:HO}(I:Inv X Z Y H s)(g:Uz (H a))(h:Heap.SameBut a s.heap c)(i:∃q,c.get? a=M q)(new:ObjOk X.prog X.w (bf H a f) c a f):
  Inv X Z Y (bf H a f) {s with heap:=c,toks:=d}:=
 I.write (x:=a) (e:=a) g (.inl W) (λb q j z=>(h.2 b j).trans z) i new
theorem Ad(z:J.length<=XY)(hd:(a==Y2)=XF)(b:KV J C)(dd:h'.DictOf (cM e w) a C):
  ObjOk e w H' h' a (.dK J):=#[z,hd,C,b,dd]
def Eg{H':Hp}{Q:Unit->XI->Prop}(L:A.units+1<cLine)(I:Inv X Z Y H s)(g:afy H a y v H')(F:RelV y u)(x:RelV v r)(h:∀d,Inv X Z Y H' d->Q ⟨⟩ d):
  wpAny (model X.prog X.w) A (setItem (.ref a) u r) Q E s:=by
 rcases g with⟨w,k,e,B,l,C⟩|⟨w,k,b,e,B,K,l,C⟩
 .subst B C
  let(z,t,vs,f,dd):=yl I.YX e;let m:vs.length<=XY:=by rw[<-f.length];show z
  let p:(jg w k v).length<=XY:=by let:=kP w k v;ext
  show wpAny_setItem_pairs (hsz:=m) (uI F) dd λG i n=>h _ ?_;let M:∃q,G.get? a=cL q:=let#[q,_,_,j,_]:=i;#[q,j]
  show nZ I (by rw[e];show True.intro) n M (Ad p t (f.put k x) i)
 .subst B C
  cases(show u=Xx.ref b from F);let(z,t,xs,f,dd):=UG I.YX e;let m:xs.length<=XY:=by rw[<-Paired.length f];show z
  let p:(jg w k v).length<=XY:=by let:=kP w k v;ext
  show ag5 (hsz:=m) (acD L) (v7 I.YX K) dd λG i n=>h _ ?_;let(q,es,S,j,R,P,O,_,N):=i;show nZ I (by rw[e];show True.intro) n #[q,j] #[p,t,_,(f.put k K x).keeps λc T J=>?_,q,es,S,j,R,P,O,N];rw[az (Uk J e (λz=>nomatch z))];show J
end
section
variable{X:Cx}{Z:bg (XH×Obj)}{T:St}{H:Hp}{s:XI}{a:XH}{Y:bg (cB×V)}{k:cB}{u:Xx}{A:Ym}{E:Xx->XI->Prop}
def T0{v:V}{b:G U}{Q:U->XI->Prop}(I:Inv X Z T H s)(e:H a=M (.dK Y))(j:RelV (kV k) u)(l:ki Y k=M v)(hm:b=[]\/∃x,b=[x])
  (h:∀c d,Inv X Z T (bf H a (.dK (nW Y k))) d->RelV v c->Q c d):wpAny (model X.prog X.w) A (call (.builtin "dict.pop") (.ref a::u::b)) Q E s:=by
 let(z,B,w,f,dd):=yl I.YX e;let(c,n,m):=aa1.some_of (v:=v) (o:=valueAt w k) (by rw[<-l];show f.val k);let r:(keyPart u).isSome=P:=by
  cases k with
  |inl i=>let(t,q):=(show∃t,u=Xx.int i t from j);subst q;rfl
  |inr x=>let(t,q):=(show∃t,u=Xx.str x t from j);subst q;rfl
 let L:argsOk "dict.pop" #[.ref a::u::b,[]]:=by
  rcases hm with q|⟨x,q⟩
  .subst q;show PySem.F.args_dict_pop_2 _ _
  .subst q;show PySem.F.args_dict_pop_3 _ _ _
 show acS ady dd.typeIs PySem.F.entry_dict_pop L (meets_dict_pop_there (cM X.prog X.w) a (uI j) b hm r)
  #[w,c,dd,by rw[<-f.length];show z,n,λC g p=>h c _ ?_ m]
 let y:∃q,C.get? a=M q:=let#[q,_,_,J,_]:=g;#[q,J]
 show nZ I (by rw[e];show True.intro) p y (Ad (Ys (G6 Y k) z) B (f.drop k) g)
end
def Qk(i:Yc):Prop:=∀a b,subscripted i XF a b=operate [a,b] (getItem a b)
def Cm{T id:String}
  (m:typeLookup (.type T) "__getitem__"=pure (M (.builtin id))) (l:Qk slice)
  (h:wpAny (model prog w) A (eval value env) (λo d=>wpAny (model prog w) A (eval slice env) (λi c=>c.TypeIs o T/\wpAny (model prog w) A (getItem o i) Q E c) E d) E s):
  wpAny (model prog w) A (eval (.Subscript value slice pos) env) Q E s:=by
 show Subscript_ (wpAny_mono h (λo d g=>wpAny_mono g (λi c a=>?_) λ_ _ x=>x) λ_ _ x=>x);let(j,a):=a;ext subscriptTail;show CL ?_;rw[getitemInPython_of_ne j.not_modules];show CL (ajq j m ?_);let e:wpAny (model prog w) A (subscripted slice XF o i) (λr b=>wpAny (model prog w) A (letTemporaryGo value o r>>=λ_=>pure r) Q E b) E c:=by rw[l o i];show wpAny_operating (wpAny_mono a (λr b f=>CL (wpAny_letTemporaryGo (XN f))) λ_ _ x=>x)
 first
  |show XN (CL e)
  |show CL (XN (CL e))
  |show CL e
def xo(I:Inv X pins σ H s)(g:adp H a y o):s.TypeIs (.ref a) "dict":=by
 rcases g with⟨f,k,e,_,_⟩|⟨f,k,b,e,_,_,_⟩
 .let(_,_,h,_,dd):=yT I.YX e;show dd.typeIs
 .let(_,_,xs,_,dd):=x0 I.YX e;show dd.typeIs
def Oy(f ty:TE):TE:=λb H Q=>f b H λx g=>ty b g λy e=>∃a v,x=.ref a/\adp e a y (M v)/\Q v e
def Uq(ty f:TE):TE:=λb H Q=>ty b H λy g=>f b g λx e=>∃a o,x=.ref a/\adp e a y o/\Q (.bl o.isSome) e
def Ob(f ty e:TE):TS:=λD b H=>e b H λv i=>f b i λx h=>ty b h λy g=>∃a j,x=.ref a/\afy g a y v j/\D.nx b j
section
variable{X:Cx}{o i e Z:Yc}{pos Y amB:Pos}{T U tv:TE}
def NJ(t:X.A.units+1<cLine)(z:PE X o T)(c:PE X i U)(w:Qk i):PE X (.Subscript o i pos) (Oy T U):=by intro b s j H Q I h;show Cm acO.lookup w (bZ (z b s j H _ I h) λu m #[x,G,E,p,r]=>bZ (c b m j G _ E r) λM L a=>?_);let(y,F,l,n,a,v,B,g,q):=a;subst B;obtain rfl:=p;show#[xo l g,C8 t l g n λJ K C f=>#[v,F,C,f,q]]
def Iv(r:X.A.units+1<cLine)(c:PE X i U)(t:PE X o T):PC X .In i o (Uq U T):=by intro b s f H Q I h;show bZ (c b s f H _ I h) λJ j #[y,E,B,l,p]=>bZ (t b j f E _ B p) λu G a=>?_;let(x,C,z,m,a,q,v,g,n):=a;subst v;obtain rfl:=m;show V0 r z g l λF w=>#[.bl q.isSome,C,w,W,n]
def Mc(z:X.A.units+1<cLine)(C:PE X o T)(c:PE X i U)(w:PE X Z tv)(B:ZU Z (cL (.Subscript o i Y)) pos.line X.env=pure XF):
  PS X (.Assign [.Subscript o i Y] Z pos) (Ob T U tv):=by
 intro b s f H D I h;show afr (bZ (w b s f H _ I h) λr l #[v,N,K,rv,t]=>bZ (C b l f N _ K t) λu j #[x,A,J,n,q]=>bZ (c b j f A _ J q) λQ P a=>?_) B;let(y,S,G,m,a,L,E,g,p):=a;subst E;obtain rfl:=n;show Eg z G g m rv λO F=>#[f,L,F,p]
end
def pB(c a:G (cB×V)):G (cB×V):=a.foldl (λb e=>jg b e.1 e.2) c
def KV.merge:∀{a:G (cB×V)} {b:G (cB×U)} {d:G (cB×V)} {c:G (cB×U)},KV a b->KV d c->KV (pB d a) (merged c b):=by
 intro a b d c r;unfold KV at r
 induction r generalizing d c with
 |nil=>intro q;show q
 | @cons p q j i h t g=>
  intro f;let e:KV (jg d p.1 p.2) (stored c q.1 q.2):=by let:=f.put p.1 h.2;rw[<-h.1];show this
  show g e
theorem lX:∀(a c:G (cB×V)),(pB c a).length<=c.length+a.length
 |[],c=>by show c.length<=c.length+0;ext
 |p::r,c=>by let e:=lX r (jg c p.1 p.2);let b:=kP c p.1 p.2;show(pB (jg c p.1 p.2) r).length<=_;rw[XZ];ext
structure M1(X:Cx)(o:Yc)(m:Str)(apos:Pos)(e:Yc)(Z1:Pos):Prop where
 base:attributeBase o m X.env (eval o X.env)=eval o X.env
 few:((backTo Z1 (X6 [e] X.env)).all (λx=> !x.1)&&(backToKw Z1 (keywordEach [] X.env)).all (λx=>x.1.isSome)
  &&decide (([e]:G Yc).length+([]:G abk).length+(if([]:G abk).isEmpty then 0 else 1)<30))=P
 line:(apos.endLine==Z1.line)=P
 trees:backTo Z1 (X6 [e] X.env)=[(XF,eval e X.env)]
structure M2(X:Cx)(o:Yc)(m:Str)(apos:Pos)(e f:Yc)(Z1:Pos):Prop where
 base:attributeBase o m X.env (eval o X.env)=eval o X.env
 few:((backTo Z1 (X6 [e,f] X.env)).all (λx=> !x.1)&&(backToKw Z1 (keywordEach [] X.env)).all (λx=>x.1.isSome)
  &&decide (([e,f]:G Yc).length+([]:G abk).length+(if([]:G abk).isEmpty then 0 else 1)<30))=P
 line:(apos.endLine==Z1.line)=P
 trees:backTo Z1 (X6 [e,f] X.env)=[(XF,eval e X.env),(XF,eval f X.env)]
def Wr(H:Hp)(a:I):Prop:=(∃b,Rd H a (.dK b))\/∃b,Rd H a (.dT b)
def Sz(I:Inv X pins σ H s)(d:Wr H a):
  s.TypeIs (.ref a) "dict"/\(∀b,Xx.ref a=.ref b->∃c,s.heap.get? b=M c/\c.dict=R)/\(a==Y2)=XF:=by
 rcases d with⟨i,e⟩|⟨i,e⟩
 .let(_,f,j,_,dd):=yT I.YX e;show#[dd.typeIs,λb q=>?_,f];ext q;let(c,_,_,h,g,_):=dd;show#[c,h,g.2.1]
 .let(_,f,xs,_,dd):=x0 I.YX e;show#[dd.typeIs,λb q=>?_,f];ext q;let(c,_,_,h,g,_):=dd;show#[c,h,g.2.1]
def IB(g ty:TE):TE:=λb H Q=>g b H λx f=>∃a,x=.ref a/\Wr f a/\ty b f λy e=>∃h k v,e a=M (.dK h)/\y=kV k/\ki h k=M v/\Q v (bf e a (.dK (nW h k)))
section
variable{X:Cx}{o e f:Yc}{Z Y:Pos}{T ty S:TE}
def IW(A:PE X o T)(B:PE X e ty)(m:M1 X o "pop" Z e Y):PE X (.Call (.Attribute o "pop" Z) [e] [] Y) (IB T ty):=by intro b s i H Q I h;show ahL m.base m.few m.line aaW ady PySem.F.type_dict_pop (bZ (A b s i H _ I h) λu q a=>?_);let(x,L,j,t,a,E,d,z):=a;subst E;obtain rfl:=t;let(p,n,_):=Sz j d;show#[p,n,?_];rw[m.trees];show Calls.callWith_builtin W (Calls.evalArgs_plain (Calls.spliced_cons (bZ (B b q i L _ j z) λP O a=>?_)));let(y,F,K,r,Yf,k,v,G,C,l,w):=a;show Calls.spliced_nil ?_;subst C;show T0 K G r l (.inl W) λM N J g=>#[v,_,J,g,w]
end
end L2
namespace L4
open PySem PySem.Spec PyProof.Rows L2 L3
def Da(h:Heap)(e:I)(c:U)(d:z I)(a:U)(hd:z I):Prop:=
 ∃b fs,h.get? e=M b/\b.cls=c/\b.dict=d/\b.data=.fields fs/\fs[0]?=M a/\
  match hd with
  |none=>fs[1]?=M .none
  |some T=>fs[1]?=M (.ref T)/\T≠e/\∃g f,h.get? T=M g/\g.data=.fields f/\f[3]?=M .none
structure Lft(l:G Env)(e:I)(hd:z I)(h h':Heap):Prop where
 keep:∀b o,h.get? b=M o->b≠e->hd≠M b->b∉xc l->h'.get? b=M o
 slot:∀b o,h.get? b=M o->b≠e->hd≠M b->∃sl,h'.get? b=M {o with slots:=sl}
 here:∀b o,h.get? b=M o->∃o',h'.get? b=M o'
section
variable{M:ae7}{A:Ym}{E:Xx->XI->Prop}{s:XI}
def ip
  (I:A.frames=cL (env::outer)) (B:s.heap.FunFrames base (env::outer)) (H:env.frame=cL L) (C:s.heap.get? e=cL ob) (p:ob.data=.fields fs) (m:1<fs.size) (J:fs[0]?=cL a0)
  (k:∀D T,s.heap.objs.size<=T->Da D e ob.cls ob.dict a0 (cL T)->Lft (env::outer) e R s.heap D->Q ⟨⟩ {s with heap:=D}):
  wpAny M A (frameOf env>>=λfr=>entryPlaceOf L nx>>=λpl=>EntryCells.newEntry hv fr .none (rawInt L) .none pl>>=λb=>setField (.ref e) 1 b) (λ_ V=>wpAny M A (setFlight (.ref e) R) Q E V) E s:=by
 let j:e∉(env::outer).filterMap (·.frame):=λz=>by let(_,o,q,n):=B.mem z;rw[C]at q;ext q;show n fs p
 show CL (ahM I B H λa S=>?_);show CL (ag6 λpl P=>?_);unfold EntryCells.newEntry newFields;show CL (YO ?_ (P.sizeOk5 _ _ _ _ _));let y:=(S.2.1 e j).trans C;generalize X:({cls:=.type "traceback",dict:=R,data:=.fields ([hv,.ref L,.none,rawInt L,.none]++(if pl.isEmpty then XU 6 Xx.none else pl)).toArray}:Obj)=N;let g:N.data=.fields ([hv,.ref L,.none,rawInt L,.none]++(if pl.isEmpty then XU 6 Xx.none else pl)).toArray:=by rw[<-X]
 let K:=dt g;let w:=b4 N y;show YZ w p m ?_;let l:=YU (cj y);let r:=dk p (·.setIfInBounds 1 (Xx.ref a.objs.size));let i:=cv (Obj.mapFields (·.setIfInBounds 1 (Xx.ref a.objs.size))) w (dt r)
 let u:=
  (cn (a.push N) (Obj.mapFields (·.setIfInBounds 1 (Xx.ref a.objs.size))) l.symm).trans (ck a K)
 ext setFlight;show CL (Yo i r (x:=.ref a.objs.size) (by simp[m]) ?_);rw[ax (show(Xx.ref a.objs.size !=Xx.none)=XA from by simp)];let t:3<([hv,.ref L,.none,rawInt L,.none]++(if pl.isEmpty then XU 6 Xx.none else pl)).toArray.size:=by simp only[X4,XJ,XZ,ZI];ext
 show YZ u g t ?_;let v:=cn ((a.push N).update e (Obj.mapFields (·.setIfInBounds 1 (Xx.ref a.objs.size)))) (Obj.mapFields (·.setIfInBounds 3 ((R:b3 XH).elim Xx.none λf=>rawInt f))) l;let F:=cv (Obj.mapFields (·.setIfInBounds 3 ((R:b3 XH).elim Xx.none λf=>rawInt f))) u (dt (dk g _));let aa2:∀b o,b≠e->a.get? b=cL o->(((a.push N).update e (Obj.mapFields (·.setIfInBounds 1 (Xx.ref a.objs.size)))).update a.objs.size (Obj.mapFields (·.setIfInBounds 3 ((R:b3 XH).elim Xx.none λf=>rawInt f)))).get? b=cL o:=λb o ne q=>by rw[cn _ _ (YU (cj q)),cn _ _ ne.symm];show b4 N q
 show k _ a.objs.size (by rw[S.1];show XO _) #[_,_,v.trans i,Obj.cls_mapFields _ _,?_,r,?_,?_,l,_,_,F,dk g _,?_] #[λb o q ne _ G=>aa2 b o ne ((S.2.1 b G).trans q),λb o q ne _=>?_,λb o q=>?_]
 .cases ob with
  |mk c d O h=>ext O<;>rfl
 .rw[aam ()];show J
 .simp[m]
 .rw[Za t];rfl
 .let(h,z):=S.2.2 b o q;show#[h,aa2 b _ ne z]
 .by_cases ne:b=e
  .subst ne;show#[_,v.trans i]
  .let(h,z):=S.2.2 b o q;show#[_,aa2 b _ ne z]
def DL
  (v:A.frames=cL (env::outer)) (u:s.heap.FunFrames base (env::outer)) (h:env.frame=cL L) (F:Da s.heap e c dx a0 hd)
  (k:∀x T,s.heap.objs.size<=T->Da x e c dx a0 (cL T)->Lft (env::outer) e hd s.heap x->Q ⟨⟩ {s with heap:=x}):wpAny M A (leaving env (.ref e)) Q E s:=by
 let(N,fs,q,I,H,d,w,r):=F;subst I H;cases hd with
 |none=>let r:=r;unfold leaving noteFrame;simp only[h];show CL (CL (Yo q d r ?_));rw[aE ()];show ip v u h q d (Yk.mp r).1 w k
 |some T=>
  let(r,C,O,B,g,dT,p):=r;unfold leaving noteFrame;simp only[h];show CL (CL (Yo q d r ?_));rw[ax (show(Xx.ref T !=Xx.none)=P from by simp)];show CL (Yo g dT p ?_);rw[aE (show¬((Xx.none==rawInt L)=P)from by simp[rawInt])];show CL (YZ g dT (Yk.mp p).1 ?_);let a:∀b,b≠T->(s.heap.update T (Obj.mapFields (·.setIfInBounds 3 Xx.none))).get? b=s.heap.get? b:=λb ne=>cn _ _ ne.symm;let f:=cv (Obj.mapFields (·.setIfInBounds 3 Xx.none)) g (dt (dk dT _));let m:∀b o,s.heap.get? b=cL o->(∀S,o.data≠.fields S)->b≠T:=λb o z n y=>by rw[y,g]at z;ext z;show n B dT
  show ip v (u.of_keeps λb o z n=>#[o,(a b (m b o z n)).trans z,W]) h ((a e C.symm).trans q) d (Yk.mp r).1 w λx J t K i=>k x J (by rw[Heap.size_after_update]at t;show t) K #[λb o z l j G=>?_,λb o z l j=>?_,λb o z=>?_]
  .show i.keep b o ((a b λy=>j (by rw[y])).trans z) l (by simp) G
  .show i.slot b o ((a b λy=>j (by rw[y])).trans z) l (by simp)
  .by_cases y:b=T
   .subst y;show i.here b _ f
   .show i.here b o ((a b y).trans z)
end
theorem Lft.YX{P:Ya}{w:Yq}{l:G Env}{e:I}{hd:b3 I}{H:Hp}{h d:Heap}(L:Lft l e hd h d)(m:HOk P w H h)(ne:H e=R)(i:∀T,hd=M T->H T=R)(j:∀b∈xc l,H b=R):HOk P w H d:=λb u q=>by
 let free:∀c v,H c=M v->c≠e/\hd≠M c/\c∉xc l:=λc v z=>#[(λy=>by rw[y,ne]at z;ext z),(λy=>by rw[i c y]at z;ext z),(λy=>by rw[j c y]at z;ext z)];show(m b u q).aa2 (λc v n z=>?_) (λ_ z=>z) λ_ _ z=>z;rcases n with y|y
 .rw[y]at z⊢;let(g,f,a):=free b u q;show L.keep b v z g f a
 .let(g,f,a):=free c _ y;show L.keep c v z g f a
def kF(P:Ya)(w:Yq):wB:=λa H s E x b=>
 ∃e c f a0 T H',x=.ref e/\s.heap.get? e=R/\s.heap.get? T=R/\Da b.heap e c f a0 (M T)/\H' e=R/\H' T=R/\
  b.os=s.os/\AllBare b.gens/\Un (xc a) [] H H' s.heap b.heap/\HOk P w H' b.heap/\E c f H'
def OA{P:Ya}{w:Yq}{K:lD}{k:Str->b3 Xx}{base:Heap}{N:bg Str}{i:Str}{a:Zj}{f:XH}{v:Xx}{A:Ym}{outer:bg Env}{g:XI}{G:Hp}{E:XK}
  {l:bg (XH×Obj)} {J:L2.St} {H:Hp} {s:XI} {e:XH} {c C:Xx} {d hd:b3 XH} (I:L2.Inv (eO (kF P w) P w K k base N i a f v A outer g G E) l J H s)
  (F:Da s.heap e c d C hd) (u:g.heap.get? e=Ld) (S:∀T,hd=cL T->g.heap.get? T=Ld) (ne:H e=Ld) (Q:∀T,hd=cL T->H T=Ld) (q:E c d H):
  (eO (kF P w) P w K k base N i a f v A outer g G E).xe (.ref e) s:=by
 let Z:=I.ok.frames;let Y:=I.stack;show DL (L:=g.heap.objs.size) Z Y W F λh' T t F' L=>?_;let R:=L.YX I.YX ne Q I.ab3;let X:H T=Ld:=I.YX.fresh t;let p:∀b o,g.heap.get? b=cL o->b<g.heap.objs.size:=λb o z=>cj z;let h:∀b o,g.heap.get? b=cL o->b≠e/\hd≠cL b:=λb o z=>#[(λy=>by rw[y,u]at z;ext z),(λy=>by rw[S b y]at z;ext z)];let sz:=I.sz;show#[e,c,d,C,T,H,W,u,da (Ys sz t),F',ne,X,I.os,I.bare,?_,R,q];let B:=I.base;show#[λb o z n r _=>?_,λb o z n U _=>?_,λb o z n _=>?_,λb o z _=>?_,B.acH,B.acu,B.acM]
 .let j:=B.keep b o z n r (λy=>nomatch y)
  show L.keep b o j (h b o z).1 (h b o z).2 λy=>?_;rcases Yi.mp (I.abO b y)with y|y
  .let y:b=g.heap.objs.size:=y;show a7 (p b o z) (by rw[y];show YR _)
  .show r y
 .let(sl,j):=B.slot b o z n U (λy=>nomatch y);let(m,M):=L.slot b _ j (h b o z).1 (h b o z).2;show#[m,M]
 .show B.free b o z n (λy=>nomatch y)
 .let(O,j):=B.there b o z (λy=>nomatch y);show L.here b O j
def E3{P:Ya}{w:Yq}{K:lD}{d:Str->b3 U}{base:Heap}{N:G Str}{g:Str}{a:Zj}{f:XH}{m:U}{A:Ym}{outer:G Env}{i:XI}{r:Hp}{E:XK}:
  dL (kF P w) (eO (kF P w) P w K d base N g a f m A outer i r E) E:=by
 rintro l t H s x u I ⟨e,c,Q,B,T,C,rfl,le,L,F,ne,J,os,bare,un,YX,q⟩;let p:=I.adU (ch:=[]) os un YX bare (λb z=>nomatch z);let h:∀b,s.heap.get? b=R->i.heap.get? b=R:=λb z=>by
  cases y:i.heap.get? b with
  |none=>rfl
  |some o=>let(v,j):=I.base.there b o y (λy=>nomatch y);rw[z]at j;ext j
 show OA p F (h e le) (λn z=>by ext z;show h T L) ne (λn z=>by ext z;show J) q
def Pw(x:ObjOk b w H h a o):∃c,h.get? a=M c:=by
 cases o with
 |lst xs=>let(_,_,_,_,e):=x;show#[_,e]
 |tup xs=>let(_,_,_,c,e,_):=x;show#[c,e]
 |dK i=>let(_,_,_,_,o,_,_,e,_):=x;show#[o,e]
 |dT i=>let(_,_,_,_,o,_,_,e,_):=x;show#[o,e]
 |set S n=>let(o,_,_,_,e,_):=x;show#[o,e]
 |ins C m fs=>let(_,_,_,e,_):=x;show#[_,e]
 |own y=>show x
 |xd fs=>let(_,(o,_,_,e,_),_):=x;show#[o,e]
 |rng lo l=>let(_,_,_,e):=x;show#[_,e]
 |frz c u=>show#[c,x.1]
 |tbl j=>show#[_,x]
 |met f y=>show#[_,x]
 |ext g=>show x.2.1
 |exw g=>show x.2.1
def y8(k:HOk e w H h)(n:h.get? a=R):H a=R:=by
 cases q:H a with
 |none=>rfl
 |some o=>let(b,z):=Pw (k a o q);rw[n]at z;ext z
section
variable{M:ae7}{A:Ym}{E:Xx->XI->Prop}{s:XI}
def Lh{base:Heap}{env:Env}{outer:bg Env}{L e:XH}{c B:U}{D hd:b3 XH}{Q:Unit->XI->Prop}
  (v:A.frames=cL (env::outer)) (u:s.heap.FunFrames base (env::outer)) (h:env.frame=cL L) (F:Da s.heap e c D B hd)
  (k:∀x T,s.heap.objs.size<=T->Da x e c D B (cL T)->Lft (env::outer) e hd s.heap x->Q ⟨⟩ {s with heap:=x}):
  wpAny M A (noteFrame (.ref e) env) (λ_ s2=>wpAny M A (setFlight (.ref e) R) Q E s2) E s:=by
 let(O,fs,q,J,I,d,w,r):=F;subst J I;cases hd with
 |none=>let r:fs[1]?=cL .none:=r;ext noteFrame;simp only[h];show CL (Yo q d r ?_);rw[aE ()];show ip v u h q d (Yk.mp r).1 w k
 |some T=>
  let(r,G,P,C,g,dT,p):=r;ext noteFrame;simp only[h];show CL (Yo q d r ?_);rw[ax (show(Xx.ref T !=Xx.none)=XA from by simp)];show CL (Yo g dT p ?_);rw[aE (show¬((Xx.none==rawInt L)=XA)from by simp[rawInt])];show CL (YZ g dT (Yk.mp p).1 ?_);let a:∀b,b≠T->(s.heap.update T (Obj.mapFields (·.setIfInBounds 3 Xx.none))).get? b=s.heap.get? b:=λb ne=>cn _ _ ne.symm;let f:=cv (Obj.mapFields (·.setIfInBounds 3 Xx.none)) g (dt (dk dT _));let m:∀b o,s.heap.get? b=cL o->(∀S,o.data≠.fields S)->b≠T:=λb o z n y=>by rw[y,g]at z;ext z;show n C dT
  show ip v (u.of_keeps λb o z n=>#[o,(a b (m b o z n)).trans z,W]) h ((a e G.symm).trans q) d (Yk.mp r).1 w λx K t N i=>k x K (by rw[Heap.size_after_update]at t;show t) N #[λb o z l j H=>?_,λb o z l j=>?_,λb o z=>?_]
  .show i.keep b o ((a b λy=>j (by rw[y])).trans z) l (by simp) H
  .show i.slot b o ((a b λy=>j (by rw[y])).trans z) l (by simp)
  .by_cases y:b=T
   .subst y;show i.here b _ f
   .show i.here b o ((a b y).trans z)
def RF{e T:I}{c l:U}{y:z I}{Q:Unit->XI->Prop}(F:Da s.heap e c y l (cL T))
  (k:∀x,Da x e c y l (cL T)->(∀b,b≠T->x.get? b=s.heap.get? b)->(∃o,x.get? T=cL o)->Q ⟨⟩ {s with heap:=x}):wpAny M A (setFlight (.ref e) R) Q E s:=by
 let(n,fs,q,t,p,d,u,r,j,w,v,i,dT,m):=F;ext setFlight;show CL (Yo q d r ?_);rw[ax (show(Xx.ref T !=Xx.none)=P from by simp)];let h:=(Yk.mp m).1;show YZ i dT h ?_;let g:∀b,b≠T->(s.heap.update T (Obj.mapFields (·.setIfInBounds 3 ((R:z I).elim Xx.none λf=>rawInt f)))).get? b=s.heap.get? b:=λb ne=>cn _ _ ne.symm;let a:=cv (Obj.mapFields (·.setIfInBounds 3 ((R:z I).elim Xx.none λf=>rawInt f))) i (dt (dk dT _));show k _ #[n,fs,(g e j.symm).trans q,t,p,d,u,r,j,_,_,a,dk dT _,?_] g #[_,a];rw[Za h];rfl
end
section
variable{P:Ya}{w:Yq}{K:lD}{mg:Str->b3 Xx}{base:Heap}{N:bg Str}{qual:Str}{scope:Zj}{f:XH}{cd:Xx}{A:Ym}{outer:bg Env}{s0:XI}{H0:Hp}{E:XK}{CX:wB}
  {σ:L2.St} {H:Hp} {s:XI} {h':Heap} {X:Cx}
def rB(I:L2.Inv X [] σ H s)(S:XH->Prop)(J:X.ex=[])(C:∀p∈X.pn,¬S p.1)(keep:∀b o,s.heap.get? b=cL o->¬S b->b∉xc X.stack->h'.get? b=cL o)
  (slot:∀b o,s.heap.get? b=cL o->¬S b->∃d,h'.get? b=cL {o with slots:=d}) (j:∀b o,s.heap.get? b=cL o->∃k,h'.get? b=cL k)
  (U:∀b,S b->X.s₀.heap.get? b=Ld) (Q:¬S X.env.locals) (T:∀x c,X.env.cells.lookup x=cL c->¬S c) (R:∀b,S b->H b=Ld):L2.Inv X [] σ H {s with heap:=h'}:=by
 let M:∀b o,X.s₀.heap.get? b=cL o->¬S b:=λb o z y=>by rw[U b y]at z;ext z
 let h:∀b,b∉X.ex:=λb z=>by rw[J]at z;ext z
 let B:=I.base;let a:∀x c,X.env.cells.lookup x=cL c->∀v,s.heap.IsCell c v->h'.IsCell c v:=λx c z v #[o,G,L]=>by let(d,q):=slot c o G (T x c z);show#[_,q,L]
 show#[I.ok,I.os,I.bare,#[λb o z n g _=>?_,λb o z n Z _=>?_,λb o z n x=>B.free b o z n x,λb o z x=>?_,B.acH,B.acu,B.acM],?_,λx c z=>?_,I.free,I.aaz,λp F=>?_,λb u q=>?_,I.len]
 .let e:=B.keep b o z n g (h b)
  show keep b o e (M b o z) λy=>?_;rcases Yi.mp (I.abO b y)with y|y
  .rw[y]at z;show a7 (cj z) (Nat.not_lt_of_le I.ok.above)
  .show g y
 .let(d,e):=B.slot b o z n Z (h b);let(t,O):=slot b _ e (M b o z);show#[t,O]
 .let(k,e):=B.there b o z x;show j b k e
 .let(m,hn,Y):=I.loc
  let(o,es,ep,G,L,r):=hn;let(d,q):=slot _ o G Q;show#[m,#[_,es,ep,q,L,r],λi x v a1 a2 a3=>?_];let(u,rv,l):=Y i x v a1 a2 a3;show#[u,rv,?_];rcases l with l|⟨kd,c,z,y⟩
  .show .inl l
  .show .inr #[kd,c,z,a x c z _ y]
 .let(v,y):=I.cell x c z;show#[v,a x c z v y]
 .let(z,n,ne,g,dd):=I.pin p F
  rw[Yl]at F;show#[keep p.1 p.2 z (C p F) (λy=>?_),n,ne,g,dd];rcases Yi.mp (I.abO _ y)with y|y
  .show ne y
  .show g y
 .let free:∀c v,H c=cL v->¬S c/\c∉xc X.stack:=λc v z=>#[(λy=>by rw[R c y]at z;ext z),(λy=>by rw[I.ab3 c y]at z;ext z)]
  show(I.YX b u q).aa2 (λc v hc z=>?_) (λ_ z=>z) λ_ _ z=>z;rcases hc with y|y
  .rw[y]at z⊢;show keep b v z (free b u q).1 (free b u q).2
  .show keep c v z (free c _ y).1 (free c _ y).2
end
section
variable{M:ae7}{A:Ym}{E:Xx->XI->Prop}{h:Heap}{g:Array abD}{d:ae6}{t:Nat}{os:ad2}
def Hc{C U e:XH}{j:Obj}{z w y v:Str}{D x:XH}{b1 l s a:bg Xx}{Z Y:Bool}{u r:bg Str}{q p:bg Xx}{a1 a2:Bool}{k c:b3 Bool}{o n:b3 XH}{O N L K J I H G F B:b3 Xx}{f b:String}{Q:Bool->XI->Prop}
  (X:h.get? C=cL (excClassObj z w C D b1 l Z u q a1 k o O N L K J f)) (m:h.get? U=cL (excClassObj y v U x s a Y r p a2 c n I H G F B b)) (R:h.get? e=cL j) (S:j.cls=.ref C)
  (T:a.contains (.type "BaseException")=XA) (hm:(Xx.ref C::l).contains (.ref U)=XA) (P:Q XA #[h,g,d,t,os]):wpAny M A (excMatches (.ref e) (.ref U)) Q E #[h,g,d,t,os]:=by
 let i:(Xx.ref U::a).contains (.type "BaseException")=XA:=by rw[ab8,T,ach]
 let ft:=tc_notTuple;ext excMatches
 repeat (first|(specialize ZA R ?_;rw[S])|specialize ZA m ?_|(specialize aaS m ?_;rw[i])|(specialize aaS X ?_;rw[hm])|wp_step)
 show P
end
abbrev Cx.marked(X:Cx)(e:I):Cx:={X with A:=X.A.mark (M (.ref e)),calm:=XF,xe:=λ_ _=>False}
section
variable{X:Cx}{Z:L2.St}{H:Hp}{s:XI}{Y:Heap}{e:XH}
theorem rG(I:L2.Inv X [] Z H s)(e:XH):L2.Inv (Cx.marked X e) [] Z H s:=
 #[#[I.ok.mod,I.ok.kind,I.ok.glob,I.ok.blt,I.ok.above,I.ok.inj,I.ok.has,I.ok.cab,(λz=>nomatch z),I.ok.frames,I.ok.stk,I.ok.exf,I.ok.bs,I.ok.bsz,I.ok.ad0,I.ok.adP,I.ok.abQ,I.ok.frf],I.os,I.bare,I.base,I.loc,I.cell,I.free,I.aaz,I.pin,I.YX,I.len]
theorem rF(ok:X.Ok)(I:L2.Inv (Cx.marked X e) [] Z H s):L2.Inv X [] Z H s:=
 #[ok,I.os,I.bare,I.base,I.loc,I.cell,I.free,I.aaz,I.pin,I.YX,I.len]
end
def yO(K:lD)(C:I)(m:G U):Prop:=∃nm q N bs hd sn sub b col dd a k1 k2 k3 k5 id,K.lookup C=M (excClassObj nm q C N bs m hd sn sub b col dd a k1 k2 k3 k5 id)
structure Apart(X:Cx)(a:I):Prop where
 n0:X.s₀.heap.get? a=R
 nL:a≠X.env.locals
 nC:∀y c,X.env.cells.lookup y=M c->c≠a
 nP:∀p∈X.pn,p.1≠a
def HC(X:Cx)(d:XK):U->XI->Prop:=λx a=>∃b H1 e c f a0 T,x=.ref e/\L2.Inv X [] b H1 a/\Da a.heap e c f a0 (M T)/\Apart X e/\Apart X T/\H1 e=R/\H1 T=R/\d c f H1
def rM(I:L2.Inv X pins σ H s)(e:X.ex=[])(n:s.heap.get? a=R):Apart X a:=by
 let ne:∀b o,s.heap.get? b=M o->b≠a:=λb o z y=>by rw[y,n]at z;ext z
 show#[?_,?_,λy c z=>?_,λp h=>?_]
 .cases z:X.s₀.heap.get? a with
  |none=>rfl
  |some o=>let(g,y):=I.base.there a o z (by rw[e];simp);show a7 W (ne a g y)
 .let(m,(o,_,_,z,_),_):=I.loc;show(ne _ o z).symm
 .let(v,o,f,_):=I.cell y c z;show ne c o f
 .show ne _ _ (I.pin p (aay _ h)).1
def zS{X:Cx}(a:X.ex=[]):dL (kF X.prog X.w) (X.abc (HC X C)) C:=by rintro g h H s x m I ⟨e,c,r,i,T,l,rfl,le,o,F,ne,n,os,bare,un,YX,q⟩;let f:=I.aax;let j:=f.adU os un YX bare (λb z=>nomatch z);show#[h,l,e,c,r,i,T,W,j.ads (λp z=>nomatch z),F,rM f a le,rM f a o,ne,n,q]
abbrev Cx.pinned(X:Cx)(l:G (I×Obj)):Cx:={X with pn:=l}
theorem Lw(I:L2.Inv X pins σ H s):L2.Inv (Cx.pinned X (X.pn++pins)) [] σ H s:=
 #[#[I.ok.mod,I.ok.kind,I.ok.glob,I.ok.blt,I.ok.above,I.ok.inj,I.ok.has,I.ok.cab,I.ok.hd,I.ok.frames,I.ok.stk,I.ok.exf,I.ok.bs,I.ok.bsz,I.ok.ad0,I.ok.adP,I.ok.abQ,I.ok.frf],I.os,I.bare,I.base,I.loc,I.cell,I.free,I.aaz,(λp a=>I.pin p (by rw[Yl]at a;show a)),I.YX,I.len]
theorem im(ok:X.Ok)(I:L2.Inv (Cx.pinned X (X.pn++pins)) [] σ H s):L2.Inv X pins σ H s:=
 #[ok,I.os,I.bare,I.base,I.loc,I.cell,I.free,I.aaz,(λp a=>I.pin p (by rw[Yl];show a)),I.YX,I.len]
end L4
namespace L4
open PySem PySem.Spec PySem.W PyProof.Rows L2 L3
section
variable{Y:Ya}{w:Yq}{A:Ym}{E:Xx->XI->Prop}{h:Heap}{g:Array abD}{d:ae6}{t:Nat}{T:ad2}{a C:XH}{o:Obj}{K:lD}
  {S Q:Str} {N:XH} {L J:bg Xx} {B:Bool} {y:bg Str} {v:bg Xx} {u:Bool} {r:b3 Bool} {q:b3 XH} {p n l j i:b3 Xx} {X:String}
structure alM(K:lD)(C:I)(m:G U):Prop where
 cl:yO K C m
 be:m.contains (.type "BaseException")=P
 ga:findIn K (.ref C) "__getattribute__"=M (M (.builtin "BaseException.__getattribute__"))
 gt:findIn K (.ref C) "__getattr__"=M R
 cs:findIn K (.ref C) "__class__"=M (M (.builtin "object.__class__"))
 ob:mroIn K C (.type "object")=M P
end
end L4
namespace L3
open PySem PySem.Spec PyProof.Rows L2
def Dy:G Int->Int
 |[]=>0
 |[a]=>a
 |a::r=>if Dy r<=a then a else Dy r
theorem wL:∀{ns:G Int},0<ns.length->Dy ns∈ns/\∀i,i∈ns->i<=Dy ns
 |[a],_=>#[X0,λi h=>by rw[Yj.mp h];show aa8 _]
 |a::b::r,_=>by
  let(f,e):=wL (ns:=b::r) (by rw[XZ];ext);show(if Dy (b::r)<=a then a else Dy (b::r))∈a::b::r/\∀i,i∈a::b::r->i<=(if Dy (b::r)<=a then a else Dy (b::r));by_cases q:Dy (b::r)<=a
  .rw[ax q]
   show#[X0,λi h=>?_];rcases Yi.mp h with z|z
   .omega
   .let:=e i z;ext
  .rw[aE q]
   show#[XX _ f,λi h=>?_];rcases Yi.mp h with z|z
   .omega
   .show e i z
end L3
namespace L3
open PySem PySem.Spec PyProof.Rows L2
section
variable{K:lD}{E:XK}
end
end L3
namespace L9
open PySem PySem.Spec PyProof.Rows
section
variable{M:ae7}{A:Ym}{E:Xx->XI->Prop}{Y:Env}
variable{nm q:Str}{C N:XH}{bs Z:bg Xx}{hdct:Bool}{sn:bg Str}{sub:bg Xx}{ab:Bool}{col:b3 Bool}{dd:b3 XH}{k0 k1 k2 k3 k5:b3 Xx}{newId:String}
def iY(i:Z.contains (.type "BaseException")=P)(o:A.handled=R)
  (h:wpAny M A x (λv c=>∃e k,v=.ref e/\c.heap.get? C=cL (excClassObj nm q C N bs Z hdct sn sub ab col dd k0 k1 k2 k3 k5 newId)/\c.heap.get? e=cL k/\k.cls=.ref C/\(∃fs,k.data=.fields fs/\fs[1]?=cL Xx.none)/\E (.ref e) c) E s):
  wpAny M A (raiseStmt Y (cL x) R) Q E s:=by
 let f:(Xx.ref C::Z).contains (.type "BaseException")=P:=by rw[ab8,i,ach]
 ext raiseStmt;show CL (wpAny_mono h (λv c a=>?_) λ_ _ x=>x);let(e,k,rfl,m,p,l,(fs,j,b),r):=a;let(y,w,n):=k;dsimp only at l j;subst l j;let(z,g,d,t,u):=c
 repeat (first|specialize ZA p ?_|specialize ZA m ?_|(specialize aaS m ?_;rw[f])|wp_step)
 rw[b]
 repeat wp_step
 show agF o r
end
section
variable{J:Ya}{w:Yq}{A:Ym}{E:Xx->XI->Prop}{h:Heap}{g:Array abD}{d:ae6}{t:Nat}{os:ad2}
variable{nm q:Str}{C N:XH}{bs S Z:bg Xx}{hdct:Bool}{sn:bg Str}{sub:bg Xx}{ab:Bool}{col:b3 Bool}{dd:b3 XH}{k0 k1 k2 k3 k5:b3 Xx}{B P L Y R X:String}{U:bg Xx}
def pY(Fn:aaw P L X U)(j:Z.contains (.type P)=XA)(F:aaw B Y R Z)(T:ahN h Z S)
  (i:h.get? C=M (excClassObj nm q C N bs S hdct sn sub ab col dd k0 k1 k2 k3 k5 L)) (s:h.Ns N mN) (D:mN "__init__"=M (.ref fI)) (p:h.get? fI=M oI) (n:oI.cls=.type "function")
  (z:∀k e,Heap.MadeExcOf h k e (.ref C) rest->wpAny (model J w) A (call (.ref fI) (.ref e::rest)) (λr c=>r=.none/\Q (.done (.ret (.ref e))) c) E #[k,g,d,t,os]) (hrest:rest.length<=XY):
  wpAny (model J w) A (Yw.«type.__call__» #[.ref C::rest,[]]) Q E #[h,g,d,t,os]:=by
 repeat (first|specialize ZA i ?_|specialize wpAny_madeBy_exc i ?_|wp_step)
 show codeAny_call_builtin_code (aeb.quiet_builtin _ Fn.quiet) (wpAny_check_new_subU Fn j T i ?_);show codeAny_exc_new_subU Fn j F T i ?_ hrest
 let a:=b4 {cls:=.ref C,data:=.fields #v[.ref h.objs.size,.none,.none,.none,.bool XF,.none]}
  (b4 {cls:=.type "tuple",data:=.seq rest.toArray} i)
 let v:=b4 {cls:=.ref C,data:=.fields #v[.ref h.objs.size,.none,.none,.none,.bool XF,.none]}
  (b4 {cls:=.type "tuple",data:=.seq rest.toArray} p)
 let f:((h.push {cls:=.type "tuple",data:=.seq rest.toArray}).push {cls:=.ref C,data:=.fields #v[.ref h.objs.size,.none,.none,.none,.bool XF,.none]}).Ns N mN:=
  let#[o,es,ep,e,r]:=s;#[o,es,ep,b4 _ (b4 _ e),r]
 let l:((h.push {cls:=.type "tuple",data:=.seq rest.toArray}).push
   {cls:=.ref C,data:=.fields #v[.ref h.objs.size,.none,.none,.none,.bool XF,.none]}).get? (h.objs.size+1)=M
   {cls:=.ref C,data:=.fields #v[.ref h.objs.size,.none,.none,.none,.bool XF,.none]}:=by heap_get
 let u:(Xx.ref C::S).contains (.ref C)=XA:=by simp
 let m:=T.keeps (h':=(h.push {cls:=.type "tuple",data:=.seq rest.toArray}).push {cls:=.ref C,data:=.fields #v[.ref h.objs.size,.none,.none,.none,.bool XF,.none]})
  λb o e=>b4 _ (b4 _ e)
 ext isInstance
 repeat (first|specialize ZA l ?_|(specialize aaS a ?_;rw[u])|wp_step)
 show wpAny_typeLookup_tail a f m F.mroIs F.init.lookup ?_;rw[D];show Y6 (CL ?_);ext bindSpecial;show CL (acQ #[_,v,n] ?_);rw[ax ()];show XN (CL (wpAny_mono (z _ (h.objs.size+1) #[λb o G=>b4 _ (b4 _ G),da (acN _),h.objs.size,l,da (XO _),?_]) (λr c y=>?_) λ_ _ x=>x))
 .show b4 _ (Heap.get?_push_at W W)
 .let(rfl,H):=y
  wp_walk
  show H
def z7(Fn:aaw P L X U)(i:Z.contains (.type P)=XA)(F:aaw B Y R Z)(T:ahN h Z S)
  (a:h.get? C=M (excClassObj nm q C N bs S hdct sn sub ab col dd k0 k1 k2 k3 k5 L)) (p:h.Ns N mN) (s:mN "__init__"=M (.ref fI)) (f:h.get? fI=M o) (b:o.cls=.type "function")
  (j:∀c e,Heap.MadeExcOf h c e (.ref C) rest->wpAny (model J w) (A.under (.builtin "type.__call__" #[.ref C::rest,[]])) (call (.ref fI) (.ref e::rest)) (λr k=>r=.none/\Q (.ref e) k) E #[c,g,d,t,os]) (hrest:rest.length<=XY):
  wpAny (model J w) A (call (.ref C) rest) Q E #[h,g,d,t,os]:=by
 let n:=tc_lookup;let m:=tc_bind (.ref C);let l:(#[h,g,d,t,os]:XI).TypeIs (.ref C) "type":=#[_,a,W];show abK (codeAny_of_tree ?_)
 repeat (any_goals (first|assumption|specialize ZA a ?_|wp_step))
 show#[W,?_];show codeAny_call_builtin_at (aeb.quiet_builtin _ (by left)) entry_typeCall (wpAny_check_type_call_sub a (pY (hrest:=hrest) Fn i F T a p s f b λc e hm=>?_));show j c e hm
end
section
variable{prog:Ya}{w:Yq}{A:Ym}{E:Xx->XI->Prop}{s:XI}{env:Env}
variable{nm q:Str}{C N:XH}{bs Y Z:bg Xx}{hdct:Bool}{sn:bg Str}{sub:bg Xx}{ab:Bool}{col:b3 Bool}{dd:b3 XH}{k0 k1 k2 k3 k5:b3 Xx}{B Bn newId X R U:String}{S:bg Xx}
def yf(Fn:aaw Bn newId U S)(u:Z.contains (.type Bn)=XA)(F:aaw B X R Z)
  (m:Y.contains (.type "BaseException")=XA) (p:A.handled=Ld) (y:(backTo Z1 (X6 args env)).any (·.1)=XF) (hi:mN "__init__"=cL (.ref fI)) (t:oI.cls=.type "function")
  (h:wpAny (model prog w) A (eval (.Name x np) env) (λf k=>f=.ref C/\wpAny (model prog w) A (evalArgs (.ref C) XA (backTo Z1 (X6 args env)) [])
   (λa c=>a.kw=[]/\a.pos.length<=XY/\c.heap.get? C=cL (excClassObj nm q C N bs Y hdct sn sub ab col dd k0 k1 k2 k3 k5 newId)/\c.heap.Ns N mN/\c.heap.get? fI=cL oI/\ahN c.heap Z Y/\
    ∀h' e,Heap.MadeExcOf c.heap h' e (.ref C) a.pos->wpAny (model prog w) (A.under (.builtin "type.__call__" #[.ref C::a.pos,[]])) (call (.ref fI) (.ref e::a.pos)) (λr V=>r=.none/\∃D,V.heap.get? C=cL (excClassObj nm q C N bs Y hdct sn sub ab col dd k0 k1 k2 k3 k5 newId)/\V.heap.get? e=cL D/\D.cls=.ref C/\(∃fs,D.data=.fields fs/\fs[1]?=cL Xx.none)/\E (.ref e) V) E {c with heap:=h'}) E k) E s):
  wpAny (model prog w) A (exec (.Raise (cL (.Call (.Name x np) args [] Z1)) Ld pos) env) Q E s:=by
 rw[arm_exec_Raise]
 first
  |show CL (ZE (iY m p (CL (wpAny_mono (acT (wpAny_mono h (λf k i=>?_) λ_ _ x=>x)) (λv l b=>CL (ZE (XN b))) λ_ _ x=>x))))
  |(simp only[evalOpt,Option.map];show CL (ZE (iY (C:=C) (nm:=nm) (q:=q) (N:=N) (bs:=bs) (hdct:=hdct) (sn:=sn) (sub:=sub) (ab:=ab) (col:=col) (dd:=dd) (k0:=k0) (k1:=k1) (k2:=k2) (k3:=k3) (k5:=k5) (newId:=newId) m p (CL (wpAny_mono (acT (wpAny_mono h (λf k i=>?_) λ_ _ x=>x)) (λv l b=>CL (ZE (XN b))) λ_ _ x=>x)))))
  |(show CL (ZE (iY m p ?_));show CL (wpAny_mono (acT (wpAny_mono h (λf k i=>?_) λ_ _ x=>x)) (λv l b=>CL (ZE (XN b))) λ_ _ x=>x))
 let(rfl,i):=i;ext callWith;show CL (Y6 (wpAny_mono i (λa c j=>CL (ZE ?_)) λ_ _ x=>x));let(G,P):=a;let(o,n,z,hn,I,T,j):=j;obtain rfl:=o;let(hp,g,d,tk,os):=c;simp only[y];show CL (wpAny_keeperOf_exc z ?_);show CL (z7 (hrest:=n) Fn u F T z hn hi I t λh' e hm=>wpAny_mono (j h' e hm) (λr V #[H,D,O,Mz0,L,K,J]=>#[H,CL (Y6 (wpAny_point (XN ?_)))]) λ_ _ x=>x);show#[e,D,W,O,Mz0,L,K,J]
end
end L9
namespace L9
open PySem PySem.W PyProof.Rows Builtin Builtin.ObjectAttr
abbrev J4:G U:=[.type "ValueError",.type "Exception",.type "BaseException",.type "object"]
section
variable{prog:Ya}{w:Yq}{A:Ym}{K:Frag}{B C x:XH}{s:XI}{R:ada->XI->Prop}{Z:ClassData}{name:Str}{Y:Tok}{v:Xx}{fs:Array Xx}
def Ka(X:K.In s.heap)(z:clsIn K C=cL Z)(hm:Z.mro=.ref C:: .ref B::J4)(hd:Z.hasDict=XA)(D:findIn K (.ref C) name=cL Ld)(i:s.heap.get? x=cL #[.ref C,Ld,.fields fs,#v[]])
  (H:∀c k,c.get? x=cL #[.ref C,cL s.heap.objs.size,.fields fs,#v[]]->c.Ns1 s.heap.objs.size (λy=>if y=name then cL v else Ld)->(∀b o,b≠x->s.heap.get? b=cL o->c.get? b=cL o)->R (.ok (.ret .none)) {s with heap:=c,toks:=k}):
  codeAny (model prog w) A (.call (.builtin "object.__setattr__") #[[.ref x,.str name Y,v],[]]) R s:=by
 let I:InstAt s.heap x #[.ref C,Ld,.fields fs,#v[]] C Ld:=#[i,W,W,True.intro];let m:=PySem.F.store_object;let sub:Looks (model prog w) s.heap (isInstance (.ref x) (.type "object")) XA:=I.type.andThen (looks_mroIn X (by ext mroIn;rw[z,Option.bind_some,hm,aE (by simp)];simp));show aaI m.slot.plain m.entry (@check_slot (model prog w) _ _ s "object.__setattr__" "object" "__setattr__" (.ref x) [.str name Y,v] [] _ m.kind m.split sub (m.args (.ref x) (.str name Y) v) ?_);let l:Looks (model prog w) s.heap (mroOf (.ref C)) Z.mro:=(looks_clsIn X z).andThen .now;rw[osa_eq,refuse_eq];show CL (CL (I.type.here (CL (l.here ?_))));rw[hm,akH,akH,PySem.F.store_ValueError.passes];show XN (CL (I.type.here (CL ((looks_findIn X D).here (CL (XN ?_))))));ext storeInOwnDict;show CL (XN (CL ?_));unfold ownDictForStores instanceDict;show CL (akA i (CL ((looks_clsIn X z).here ?_)));rw[hd,aE ()];show wpAny _ _ (if(!XA|| !typeHasDict (.ref C))=XA then pure Ld else(do
        let d<-alloc {cls:=Xx.type "dict",data:=Data.dict #v[]}
        update x λo=>{cls:=o.cls,dict:=cL d,data:=o.data,slots:=o.slots}
        dictMade (.ref C) x d)) _ _ _
 rw[aE (by simp[typeHasDict])];let(h,g,d,t,S):=s;dsimp only at X i H I sub l⊢;let f:(h.push {cls:=.type "dict",data:=.dict #v[]}).get? x=cL #[.ref C,Ld,.fields fs,#v[]]:=b4 _ i;let a:=Ye (cj i);show CL (wpAny_alloc' ?_);show CL (wpAny_update' f ?_);show XN ?_
 let q:((h.push {cls:=.type "dict",data:=.dict #v[]}).update x λo=>{cls:=o.cls,dict:=cL h.objs.size,data:=o.data,slots:=o.slots}).get? h.objs.size
   =cL {cls:=.type "dict",data:=.dict #v[]}:=
  (Heap.get?_update_ne _ _ _ _ a.symm).trans (Heap.get?_push_at W W)
 let p:((h.push {cls:=.type "dict",data:=.dict #v[]}).update x λo=>{cls:=o.cls,dict:=cL h.objs.size,data:=o.data,slots:=o.slots}).Ns h.objs.size (λ_=>Ld):=
  #[_,#v[],_,q,W,λe M=>a7 M (by simp),λ_=>W]
 unfold storeInDict newKeyGuard;show CL (XN (CL (wpAny_nsSet1 (Heap.Ns1.of_empty p) λc j G=>?_)));let(U,O,P,n,r,u):=j.count (Within.cons name v Within.nil);show CL (ail n (by rw[r];show aim (Ys u (by rw[XZ,ZI,Zy];ext))) ?_);show XN (H c _ ?_ ?_ λb T E J=>?_)
 .show(G.2 x a).trans (cv _ f W)
 .let(L,es,Q,e1,e2,e3,N,e4):=j;show#[L,es,Q,e1,e2,e3,N,λy=>by rw[e4 y]]
 .show(G.2 b (Ye (cj J))).trans ((Heap.get?_update_ne _ _ _ _ E).trans (b4 _ J))
theorem MD(X:K.In s.heap)(g:clsIn K C=M Z)(hm:Z.mro=.ref C:: .ref B::J4)(hd:Z.hasDict=P)(a:findIn K (.ref C) "__setattr__"=M (M (.builtin "object.__setattr__")))(h:findIn K (.ref C) name=M Ld)(e:s.heap.get? x=M #[.ref C,Ld,.fields fs,#v[]])
  (f:∀c d,c.get? x=M #[.ref C,M s.heap.objs.size,.fields fs,#v[]]->c.Ns1 s.heap.objs.size (λy=>if y=name then M v else Ld)->(∀b o,b≠x->s.heap.get? b=M o->c.get? b=M o)->Q ⟨⟩ {s with heap:=c,toks:=d}):
  wpAny (model prog w) A (setAttr (.ref x) name v) Q E s:=
 set_plain X (#[e,W,W,True.intro]:InstAt s.heap x #[.ref C,Ld,.fields fs,#v[]] C Ld) a (Ka X g hm hd h e f)
end
section
variable{L:Ya}{w:Yq}{A:Ym}{E:Xx->XI->Prop}{h:Heap}{g:Array abD}{d:ae6}{t:Nat}{y:ad2}
variable{u q:Str}{C N:XH}{bs v Z:bg Xx}{J:Bool}{r:bg Str}{sub:bg Xx}{ab:Bool}{col:b3 Bool}{dd:b3 XH}{k0 k1 k2 k3 k5:b3 Xx}{B S X Y:String}
def C2(F:aaw B X Y Z)(T:ahN h Z v)
  (p:h.get? C=M (excClassObj u q C N bs v J r sub ab col dd k0 k1 k2 k3 k5 S)) (j:h.get? e=M #[.ref C,R,.fields fs,#v[]]) (l:fs[0]?=M (.ref t0))
  (m:∀s k,s.get? e=M #[.ref C,R,.fields k,#v[]]->k[0]?=M (.ref h.objs.size)->(∀i,i≠0->k[i]?=fs[i]?)->(∀b o,b≠e->h.get? b=M o->s.get? b=M o)->Q .none #[s,g,d,t,y]) (c:rest.length<=XY):
  wpAny (model L w) A (call (.builtin Y) (.ref e::rest)) Q E #[h,g,d,t,y]:=by
 show abK (aaI F.init.plain F.initEntry (wpAny_check_init_subU F T p j W ?_));unfold Yw.«BaseException.__init__»;dsimp only;rw[aE (by simp)];unfold newTuple Yw.BaseException.bexcPut;let f:=(Yk.mp l).1;let a:(h.push {cls:=.type "tuple",data:=.seq rest.toArray}).get? e=M #[.ref C,R,.fields fs,#v[]]:=b4 _ j;show CL (YO (CL (CL (Yo a W l (CL (YZ a W f ?_))))) (by show rest.toArray.size<=XY;rw[X4];show c));show Z3 (XN (m _ (fs.setIfInBounds 0 (.ref h.objs.size)) ?_ (by simp[f]) (λi hi=>by rw[aam (dN hi)]) λb o n z=>?_))
 .show cv (Obj.mapFields (·.setIfInBounds 0 (.ref h.objs.size))) a W
 .show(cn _ _ (dN n)).trans (b4 _ z)
end
end L9
namespace L9
open PySem PySem.Spec PyProof.Rows L2
def S3(v:V):Prop:=v=.Zw\/∃i:Int,v=.int i/\i.natAbs.log2<1920
def MK{i:Int}(h:i.natAbs.log2<1920):(Str.ofString (toString i)).length<=5000:=by let e:=int_text_length_le () h;rw[PySem.ofString_length];ext
def RK(I:Inv X pins σ H s)(r:RelV v u)(f:S3 v)
  (h:∀(y:Str) (t:Tok) (a:XI),y.length<=5000->Inv X pins σ H a->Q (.str y t) a):wpAny (model X.prog X.w) A (formatField u Str.empty) Q E s:=by
 rcases f with rfl|⟨i,rfl,b⟩
 .obtain rfl:=r;show wpAny_formatField_none (h _ _ _ () (I.tok _))
 .let(t,rfl):=r;show formatField_int_small b (h _ _ _ (MK b) (I.tok _))
def PJ(X:Cx)(es:G Yc)(n:Nat)(t:L2.St->Hp->(Hp->Prop)->Prop):Prop:=
 ∀(a:G (I×Obj)) (s:XI) (e:L2.St) (H:Hp) (b:Str) (Q:Hp->Prop),Inv X a e H s->b.length+n<=1000000->t e H Q->
  wpAny (model X.prog X.w) X.A (joinParts b (evalEach es X.env)) (λv h=>∃(y:Str) (g:Tok) (f:Hp),v=.str y g/\Inv X a e f h/\Q f) X.xe s
section
variable{X:Cx}{e:Yc}{es:bg Yc}{n:Nat}{T:TE}{t:L2.St->Hp->(Hp->Prop)->Prop}{Y:Pos}
def R8:PJ X [] 0 (λ_ H Q=>Q H):=by intro a s f H b Q I g h;show joinParts_nil #[_,_,H,W,I.tok _,h] (by rw[Zy];ext)
def Sc(i:x.length<=5000)(g:PJ X es n t):PJ X (.Constant (.str x) k Y::es) (n+5000) t:=by intro a s f H b Q I j h;show joinParts_consE (joinParts_cons (Calls.Constant_str ?_));let e:=amO b x;show#[by rw[Zy];ext,g a _ f H (b++x) Q (I.tok _) () h]
def Pv(i:PE X e T)(g:PJ X es n t):PJ X (.FormattedValue e (-1) R Y::es) (n+5000) (λσ H Q=>T σ H λv H1=>S3 v/\t σ H1 Q):=by intro a s σ H b Q I z h;show joinParts_consE (joinParts_cons (FormattedValue_plain (bZ (i a s σ H _ I h) λu o a=>?_)));let(v,H1,j,r,f,q):=a;show RK j r f λy m p w l=>?_;let e:=amO b y;show#[by rw[Zy];ext,g a _ σ H1 (b++y) Q l () q]
def Lr(h:PJ X (e1::e2::es) n t)(c:n<=900000):PE X (.JoinedStr (e1::e2::es) Y) (λσ H Q=>t σ H λH1=>∀y:Str,Q (.str y) H1):=by intro a s σ H Q I b;show JoinedStr_many (bZ (h a s σ H Str.empty _ I (by show 0+n<=1000000;ext) b) λv j #[y,i,H1,f,g,q]=>?_);subst f;show#[.str y,H1,g,#[_,W],q y]
end
def JY(C e:I):Heap->Prop:=λh=>∃fs t0,h.get? e=M #[.ref C,R,.fields fs,#v[]]/\fs[0]?=M (.ref t0)/\fs[1]?=M .none
def S8(C e p:I):Heap->Prop:=λh=>∃fs a0,h.get? e=M #[.ref C,M p,.fields fs,#v[]]/\fs[0]?=M a0/\fs[1]?=M .none
structure XC(K:lD)(C B fI:I):Prop where
 obj:∃nm q N bs sn sub ab col dd k0 k1 k2 k3 k5,K.lookup C=M (excClassObj nm q C N bs (.ref B::J4) P sn sub ab col dd k0 k1 k2 k3 k5 "ValueError.__new__")/\acE K N=P/\Yh K N "__init__"=M (M (.ref fI))
 base:aap K B J4 "ValueError.__new__"=P
 sa:YA K (.ref C) "__setattr__"=M (M (.builtin "object.__setattr__"))
def xC{K:lD}(q:aap K B J4 n=P):abu K J4 (.ref B::J4)=P:=by
 unfold aap at q;split at q
 .rename_i dd f e b
  split at q
  .simp only[Xy,beq_iff_eq,aag]at q;let(((((_,_),_),_),YX),a):=q;ext abu;dsimp only;rw[b];dsimp only;rw[YX,a,show abu K J4 J4=P from by ext abu;rw[eg,aaf],eg,ZK,ZK,ach]
  .ext q
 .ext q
section
variable{X:Cx}{B C fI:XH}{pos U Y:Pos}{Z:Yc}{as:bg Yc}{t:TA}{b:Str}
def Gv(h:H a=M o):bf H a o=H:=by
 funext c;by_cases z:c=a
 .rw[z,aI,h]
 .rw[az z]
def Sr(C:I)(t:TA):TE:=λf H Q=>t f H λg a=>∃e y,g=[.ref e,.str y]/\a e=M (.ext (JY C e))/\Q .Zw a
def HE{pl:Sem Bool}(V:Gl X b)(hm:X.mg b=cL (.ref B))(D:aco X.K B (.type "type")=XA)(hf:acp X.K (.ref B) (.type "type") "__init__"=cL (.val (.builtin "ValueError.__init__")))
  (k:aaa X.K (.ref B) "__getattribute__"=cL (cL (.builtin "type.__getattribute__"))) (A:XC X.K C B fI) (ha:PA X (Z::as) t)
  (cW:X6 (Z::as) X.env=(XF,eval Z X.env)::X6 as X.env:=by rfl) (l:(backTo pos (X6 as X.env)).any (·.1)=XF:=by rfl) (m:(b==("__debug__":Str))=XF:=by decide)
  (c:eval (.Call (.Attribute (.Name b U) "__init__" Y) (Z::as) [] pos) X.env=(do
   let ov<-eval (.Name b U) X.env
   standAt Y.atName
   let(f,first)<-holding [ov] (getMethod ov "__init__" pl)
   callWith pos f first (backTo pos (X6 (Z::as) X.env)) (backToKw pos (keywordEach [] X.env))):=by rfl):
  PE X (.Call (.Attribute (.Name b U) "__init__" Y) (Z::as) [] pos) (Sr C t):=by
 intro a s G H Q I h;show abh (pl:=pl) (lA I V hm ?_ m) c;show PySem.W.method_cls I.kIn k (PySem.W.cls_value I.kIn D hf () ?_);let E:=ha pos a {s with toks:=s.toks+1} G H _ (I.tok _) h;rw[cW]at E⊢;show Calls.callWith_builtin (by show(XF||(backTo pos (X6 as X.env)).any (·.1))=XF;rw[l]<;>rfl) (Calls.evalArgs_plain (bZ E λus v #[vs,F,i,r,e,y,ev,n,q]=>?_));subst ev;let(O,u2,rfl,S,R):=Cq r;obtain rfl:O=.ref e:=S;let(tk,rfl):=R;let((fs,t0,g1,g2,g3),_,gk):=(show ObjOk X.prog X.w F v.heap e (.ext (JY C e))from i.YX e _ n);let(nm,q',N,bs,sn,sub,ab,col,dd,k0,k1,k2,k3,k5,lk,YX,hin):=A.obj;let T:=aee i.kIn (xC A.base);let(h2,g,d,j,os):=v;show C2 ZP T (i.kIn _ _ lk) g1 g2 (λh' p e1 e2 e3 e4=>?_) (by show 1<=XY;decide);show#[.Zw,F,?_,W,q];let w:=i.write (x:=e) (e:=e) (o:=.ext (JY C e)) (h':=h') (t':=j) (by rw[n];show True.intro) (.inl W) (λb u hb z=>e4 b u hb z) #[_,e1] #[#[p,_,e1,e2,by rw[e3 1 ()];show g3],#[_,e1],λh1 h2 #[f1,Pz0,Mz0,L,J] hk=>#[f1,Pz0,hk _ Mz0,L,J]];rw[Gv n]at w;show w
def Ug(C:I)(f:Str)(c h:TE):TS:=λD a H=>h a H λv i=>c a i λx g=>∃e,x=.ref e/\g e=M (.ext (JY C e))/\∀p,g p=R->p≠e->D.nx a (bf (bf g e (.ext (S8 C e p))) p (.xd [(f,v)]))
def K6(O:XC X.K C B fI)(V:YA X.K (.ref C) f=cL Ld)(ha:PE X o ta)(c:PE X value tv)(d:ZU value (cL (.Attribute o f pos')) pos.line X.env=pure XF):PS X (.Assign [.Attribute o f pos'] value pos) (Ug C f ta tv):=by
 intro l s F H D I h;show ac1 (bZ (c l s F H _ I h) λu s1 #[v,H1,I1,rv,q]=>bZ (ha l s1 F H1 _ I1 q) λov p a=>?_) d;let(x,Q,A,rx,e,ex,j,q2):=a;subst ex;obtain rfl:=rx;let((fs,t0,P,g2,g3),_,gk):=(show ObjOk X.prog X.w Q p.heap e (.ext (JY C e))from A.YX e _ j);let(nm,q',N,bs,sn,sub,ab,col,dd,k0,k1,k2,k3,k5,lk,YX,hin):=O.obj;obtain⟨E,hc,J,L⟩:∃E,afZ X.K C=cL E/\E.mro=.ref C:: .ref B::J4/\E.hasDict=XA:=by ext afZ;rw[lk];show#[_,W,W,W]
 show MD A.kIn hc J L O.sa V P λh' tk' e1 e2 e3=>?_;let pe:=YU (cj P);let r:=A.YX.fresh (XO _);show#[F,_,?_,q2 p.heap.objs.size r pe];let m:∀b o,p.heap.get? b=cL o->b≠p.heap.objs.size:=λb o z=>Ye (cj z);show A.un #[λb o z n _ _=>e3 b o (λy=>by rw[y,j]at n;ext n) z,λb o z n _ _=>#[o.slots,e3 b o (λy=>by rw[y,j]at n;ext n) z],λb o z n _=>?_,λb o z _=>?_,λb xs z=>?_,λb o u z=>?_,λb ps z=>#[#v[],?_]] ?_
 .rw[az (m b o z),az (λy=>by rw[y,j]at n;ext n)];show n
 .by_cases y:b=e
  .subst y;show#[_,e1]
  .show#[o,e3 b o y z]
 .rw[az (λy=>by rw[y,r]at z;ext z),az (λy=>by rw[y,j]at z;ext z)];show z
 .rw[az (λy=>by rw[y,r]at z;ext z),az (λy=>by rw[y,j]at z;ext z)];show z
 .rw[az (λy=>by rw[y,r]at z;ext z),az (λy=>by rw[y,j]at z;ext z),z];simp
 .intro a o z
  by_cases M:a=p.heap.objs.size
  .subst M
   rw[aI]at z;ext z;show#[_,e2,λg=>?_];show aa1 (match g==f with|true=>cL v|false=>Zu g []) (if g=f then cL u else Ld);cases i:g==f with
   |true=>rw[ax (beq_iff_eq.mp i)];show rv
   |false=>rw[aE (λw=>by rw[beq_iff_eq.mpr w]at i;ext i)];show True.intro
  .rw[az M]at z
   by_cases G:a=e
   .subst G;rw[aI]at z;ext z;show#[#[fs,_,e1,g2,g3],#[_,e1],λh1 h2 #[f1,t1,T,S,R1] hk=>#[f1,t1,hk _ T,S,R1]]
   .rw[az G]at z
    let own:∀b,Q b=cL (.own a)->b≠e/\b≠p.heap.objs.size:=λb y=>#[(λk=>by rw[k,j]at y;ext y),(λk=>by rw[k,r]at y;ext y)];show(A.YX a o z).aa2 (λb w i y=>e3 b w (λk=>?_) y) (λb y=>by rw[az (own b y).2,az (own b y).1];show y) λb xs y=>by rw[az (λk=>by rw[k,r]at y;ext y),az (λk=>by rw[k,j]at y;ext y)];show y
    rcases i with i|i
    .show G (i.symm.trans k)
    .show(own b i).1 k
end
end L9
namespace L9
open PySem PySem.Spec PyProof.Rows L2 L4
def S9(H:Hp)(e:I):Hp:=λa=>if a=e then R else H a
theorem tD:S9 H e e=R:=ax W
theorem jM(h:a≠e):S9 H e a=H a:=aE h
def AN{K:lD}(X:K.In h)(G:h.Ns N C)(e:Yh K N n=M (M v)):C n=M v:=by
 let(o,es,p,f,j,_,g):=G;unfold Yh at e;split at e
 .rename_i l m b a
  let:=(X _ _ a).symm.trans f;ext this;ext j;split at e
  .rename_i q i;ext e;rw[<-g];unfold nsFind findBy;rw[<-aeP,i];rfl
  .split at e<;>ext e
 .ext e
def RI{K:lD}(i:ZD K (.ref f)=P)(l:K.lookup f=M o):o.cls=.type "function":=by unfold ZD afp at i;dsimp only at i;rw[l]at i;show X1 (beq_iff_eq.mp i)
section
variable{X:Cx}{Z:bg (XH×Obj)}{Y:L2.St}{H:Hp}{s:XI}{T:Heap}{e:XH}{o:HO}
def Nd(I:L2.Inv X Z Y H s)(k:∀b u,s.heap.get? b=M u->T.get? b=M u)(n:s.heap.get? e=R)(new:ObjOk X.prog X.w (bf H e o) T e o):L2.Inv X Z Y (bf H e o) {s with heap:=T,toks:=t'}:=by
 let f:=y8 I.YX n;let ne:∀b u,s.heap.get? b=M u->b≠e:=λb u z y=>by rw[y,n]at z;ext z
 show I.un #[λb u z _ _ _=>k b u z,λb u z _ _ _=>#[u.slots,k b u z],λb u z q _=>by rw[az (ne b u z)];show q,λb u z _=>#[u,k b u z],λb xs z=>?_,λb u v z=>?_,λb g z=>#[#v[],?_]] ?_
 .rw[az (λy=>by rw[y,f]at z;ext z)];show z
 .rw[az (λy=>by rw[y,f]at z;ext z)];show z
 .rw[az (λy=>by rw[y,f]at z;ext z),z];simp
 .intro a u z
  by_cases y:a=e
  .subst y;rw[aI]at z;ext z;show new
  .rw[az y]at z;show(I.YX a u z).aa2 (λb w _ q=>k b w q) (λb q=>by rw[az (λw=>by rw[w,f]at q;ext q)];show q) λb xs q=>by rw[az (λw=>by rw[w,f]at q;ext q)];show q
def KM(I:L2.Inv X Z Y H s)(f:H e=M (.ext C)):L2.Inv X Z Y (S9 H e) s:=by
 let:=I.un (t':=s.toks) (H':=S9 H e) #[λb u z _ _ _=>z,λb u z _ _ _=>#[u.slots,z],λb u z q _=>?_,λb u z _=>#[u,z],λb xs z=>?_,λb u v z=>?_,λb g z=>#[#v[],?_]] ?_
 .show this
 .by_cases y:b=e
  .rw[y];show tD
  .rw[jM y];show q
 .rw[jM (λy=>by rw[y,f]at z;ext z)];show z
 .rw[jM (λy=>by rw[y,f]at z;ext z)];show z
 .rw[jM (λy=>by rw[y,f]at z;ext z),z];simp
 .intro a u z
  let y:a≠e:=λy=>by rw[y,tD]at z;ext z
  rw[jM y]at z;show(I.YX a u z).aa2 (λb w _ q=>q) (λb q=>by rw[jM (λw=>by rw[w,f]at q;ext q)];show q) λb xs q=>by rw[jM (λw=>by rw[w,f]at q;ext q)];show q
end
def Cy(C:I)(sp:Sp)(E:XK)(c:TA):TS:=λ_ f H=>c f H λg b=>g.length<=XY/\∀e,b e=R->sp (.ref e::(g++[])) (bf b e (.ext (JY C e))) (λv a=>v=.Zw/\∃p,a e=M (.ext (S8 C e p))/\E (.ref C) (M p) (S9 a e)) E0
def Ek{K:lD}
  (c:XC K C B fI) (X:K.lookup fI=cL oI) (d:ZD K (.ref fI)=XA) (FI:FnOk Pz0 w K mg base lK k fI fdI ps sp) (bI:Binds K fdI ps [])
  (hr:Zp (k+1) (eO (kF Pz0 w) Pz0 w K mg base N qual scope f cd A outer s0 H0 E).A)
  (hg:Gl (eO (kF Pz0 w) Pz0 w K mg base N qual scope f cd A outer s0 H0 E) x) (hm:mg x=cL (.ref C)) (ha:PA (eO (kF Pz0 w) Pz0 w K mg base N qual scope f cd A outer s0 H0 E) (e0::es) ta)
  (L:(x==("__debug__":Str))=XF:=by decide)
  (Z:X6 (e0::es) (eO (kF Pz0 w) Pz0 w K mg base N qual scope f cd A outer s0 H0 E).env=(XF,eval e0 (eO (kF Pz0 w) Pz0 w K mg base N qual scope f cd A outer s0 H0 E).env)::X6 es (eO (kF Pz0 w) Pz0 w K mg base N qual scope f cd A outer s0 H0 E).env:=by rfl)
  (G:(backTo Z1 (X6 es (eO (kF Pz0 w) Pz0 w K mg base N qual scope f cd A outer s0 H0 E).env)).any (·.1)=XF:=by rfl):
  PS (eO (kF Pz0 w) Pz0 w K mg base N qual scope f cd A outer s0 H0 E) (.Raise (cL (.Call (.Name x np) (e0::es) [] Z1)) Ld pos) (Cy C sp E ta):=by
 intro l s σ H D I h;let(nm,qn,Nn,bs,sn,sub,ab,col,dd,k0,k1,k2,k3,k5,U,YX,J):=c.obj;let a:=I.ok.mod.kin;let oC:=a _ _ U;let S:=Heap.Ns.of_isNs (PySem.W.isNs_of_in a YX);let ni:=AN a S J;let oF:=a _ _ X;let T:=aee a (xC c.base);show yf (nm:=nm) (q:=qn) (N:=Nn) (bs:=bs) (hdct:=XA) (sn:=sn) (sub:=sub) (ab:=ab) (col:=col) (dd:=dd) (k0:=k0) (k1:=k1) (k2:=k2) (k3:=k3) (k5:=k5) ZP (by left) ZP (T.hasType ZP.hasBase) (I.ok.hd W)
  (by rw[Z];show(aa6 _).trans G) ni (RI d X) (lA I hg hm #[W,?_] L)
 let go:=ha Z1 l s σ H _ I h;rw[Z]at go⊢;show Calls.evalArgs_plain (bZ go λg j a=>?_);let(vs,H1,i,r,hl,q):=a;show#[W,by rw[<-r.length];show hl,i.bk _ _ oC,S.keeps i.bk,i.bk _ _ oF,T.keeps i.bk,λh' e m=>?_];let(t,y,y2,y3):=m.there;let hn:=y8 i.YX m.new;let Y:=q e hn;let O:=Nd (t':=j.toks) (o:=.ext (JY C e)) i m.keeps m.new #[#[_,t,y,W,W],#[_,y],λh1 h2 #[f1,t1,z1,z2,z3] hk=>#[f1,t1,hk _ z1,z2,z3]];let R:Vals (V.ref e::(vs++[])) (Xx.ref e::(g++[])):=.cons W (r.append .nil);let n:(Xx.ref e::g++[]).length=ps.length:=by let z:=R.length;rw[FI.len _ _ _ _ Y]at z;show z.symm
 let F:s0.heap.get? e=Ld:=by
  cases z:s0.heap.get? e with
  |none=>rfl
  |some o=>let(o',Q):=i.base.there e o z (λy=>nomatch y);rw[m.new]at Q;ext Q
 let bi:=bI {heap:=h',gens:=j.gens,drawn:=j.drawn,toks:=j.toks,os:=j.os} (Xx.ref e::g) O.kIn n;rw[af0]at bi;show abK (abL (FI.run _ (eO (kF Pz0 w) Pz0 w K mg base N qual scope f cd A outer s0 H0 E).stack _ _ #[Xx.ref e::g,[]] (Xx.ref e::(g++[])) _ _ E0 (hr.make C g []) (O.ahE.make C g []) bi R Y) λr s' b=>?_);cases r with
 |error e=>show b.elim
 |ok fl=>
  cases fl with
  |ret u=>let(v,H',M,rv,ev,p,hE,q3):=O.after b;subst ev;let((fs,a0,g1,g2,g3),_,_):=(show ObjOk _ _ H' s'.heap e (.ext (S8 C e p))from M.YX e _ hE);show#[rv,_,M.kIn _ _ U,g1,W,#[fs,W,g3],?_];show OA (hd:=Ld) (KM M hE) #[_,_,g1,W,W,W,g2,g3] F (λT z=>nomatch z) tD (λT z=>nomatch z) q3
  |next=>show False.elim b
  |brk=>show False.elim b
  |cont=>show False.elim b
end L9
namespace L9
open PySem PySem.Spec PySem.W PyProof.Rows L2 L3 L4
section
variable{Y:Ya}{w:Yq}{A:Ym}{E:Xx->XI->Prop}{h:Heap}{g:Array abD}{d:ae6}{t:Nat}{S:ad2}{a C:XH}{o:Obj}{K:lD}{Q:b3 Obj}{X:Str}{v:Xx}
  {N L:Str} {J:XH} {B y:bg Xx} {u:Bool} {r:bg Str} {q:bg Xx} {p:Bool} {n:b3 Bool} {m:b3 XH} {l j i f e:b3 Xx} {T:String}
end
def wC(C:I)(f:Str):Sp:=λa H Q _=>∃e v,a=[.ref e,v]/\S3 v/\H e=M (.ext (JY C e))/\∀p,H p=R->p≠e->Q .Zw (bf (bf H e (.ext (S8 C e p))) p (.xd [(f,v)]))
def UZ:D->Bool
 |.none=>P
 |.int i=>decide (i.natAbs.log2<1920)
 |_=>XF
end L9
namespace L3
open PySem PySem.Spec PyProof.Rows L2
mutual
def WF:XG->Bool
 |.tuple ds=>Q4 ds
 |.int _=>XA
 |.str _=>XA
 |.bool _=>XA
 |.none=>XA
 |_=>XF
def Q4:bg XG->Bool
 |[]=>XA
 |d::r=>WF d&&Q4 r
end
section
variable{K:lD}{E:XK}{B:bK}{Y:Hp}{O Z:bK}{X:L2.St}{H T:Hp}{S:aU}
def Li(h:SqT K H a xs)(l:H a=M (.lst ys)):SqT K (λ_=>R) a xs:=by
 rcases h with(h|⟨o,h⟩)|h
 .rw[l]at h;ext h
 .rw[l]at h;ext h
 .show .inr h
mutual
theorem Kd(f:∀b,O b->¬Z b->∃ys,H b=cL (.lst ys)):∀{v:V} {d:D},DV Z K H v d->WF d=XA->DV O K H v d
 |_,_,.Zw,_=>.Zw
 |_,_,.bl b,_=>.bl b
 |_,_,.int i,_=>.int i
 |_,_,.str x,_=>.str x
 |_,_,.tup (a:=a) h hs,e=>.tup ⟨h.1,λz=>by
   by_cases y:Z a
   .exact h.2 y
   .obtain⟨ys,q⟩:=f a z y;exact Li h.1 q⟩ (xx f hs e)
 |_,_,.lst h hs,e=>by cases e
theorem xx(a:∀b,O b->¬Z b->∃ys,H b=cL (.lst ys)):∀{vs:bg V} {ds:bg D},Zc Z K H vs ds->Q4 ds=XA->Zc O K H vs ds
 |_,_,.nil,_=>.nil
 |_,_,.cons h hs,e=>by have f:=Bool.and_eq_true_iff.mp e;exact .cons (Kd a h f.1) (xx a hs f.2)
end
end
end L3
namespace PyProof.Rows
open PySem
section
variable{Y:Ya}{w:Yq}{A:Ym}{E:Xx->XI->Prop}{s:XI}
def tF(b:h.get? a=M (seqObj "list" o.toArray n)):∃e,(sortedHeap h a o out).get? a=M (seqObj "list" out e):=by let f:=get?_update_seq b (λ_=> #v[]);show#[_,get?_update_seq (b4 _ (b4 _ f)) _]
theorem pQ(f:b≠a)(e:h.get? b=M o):(sortedHeap h a C out).get? b=M o:=
 (cn _ _ (dN f)).trans (b4 _ (b4 _ ((cn _ _ (dN f)).trans e)))
def zP{l:I}{c:G U}{ns:G Int}{Q:U->XI->Prop}(j:s.heap.IsTuple l c.toArray)(v:IntsAre c ns)(i:c.length<64)
  (h:∀(a d:Heap) (out:Array U) (e:Nat) (f:G Int),(∀b o,s.heap.get? b=M o->a.get? b=M o)->d.get? a.objs.size=M (seqObj "list" out e)->(∀b o,a.get? b=M o->d.get? b=M o)->IntsAre out.toList f->f.Perm ns->f.Pairwise (·<=·)->Q (.ref a.objs.size) {s with heap:=d}):
  wpAny (model Y w) A (call (.builtin "sorted") [.ref l]) Q E s:=by
 let(o,p,u,n,t):=j;show Calls.call_function_entry kind_sorted plain_sorted entry_sorted (args_sorted1 _) (CL (m:=checkCount "sorted" 1 1 _) (XN (CL (wpAny_collect_seq l (.inr W) p u t (λa q=>CL (amP ?_)) (by rw[X4,Zy];ext)))));let g:(a.push (seqObj "list" c.toArray 0)).get? a.objs.size=M (seqObj "list" c.toArray 0):=ck _ W;show CL (Y6 (ZH slot_list_sort #[_,g,W] entry_list_sort (list_sort_tree g v i λout f C B y=>#[_,W,XN #[_,W,?_]]) (args_list_sort _)));let(e,r):=tF (out:=out) g;show h a _ out e f q r (λb F z=>pQ (Ye (cj z)) (b4 _ z)) C B y
end
end PyProof.Rows
namespace L9
open PySem PySem.Spec PyProof.Rows L2 L3
section
variable{K:lD}{E:XK}
def wW:ZJ X (.builtin "sorted") (λxs H Q=>∃(p:XH) (ns:bg Int),xs=[.ref p]/\SqT X.K H p (ns.map V.int)/\ns.length<64/\∀(l:XH) (a:bg Int),H l=R->a.Perm ns->a.Pairwise (·<=·)->Q (.ref l) (bf H l (.lst (a.map V.int)))):=by
 intro i s B H xs C Q I r h;let(p,ns,rfl,t,z,q):=h;let(u,rfl,n):=jV r;ext n;let(J,L,pl,F):=I.tuple t;let v:=L.length;rw[Xz]at v;show zP pl (jx L) () λA G f e a w y g N j o=>?_;let b:=j.length_eq;let m:=I.kept (t':=s.toks) w;show#[.ref A.objs.size,_,m.laid g (XO _) ?_,W,q _ a (m.YX.fresh (XO _)) j o];show#[?_,f.toList,e,jq N,y];rw[Xz,b];let:(64:Nat)<=XY:=by decide
 ext
theorem wf:ZJ X (.builtin "sorted") (λxs H Q=>(∃(p:I) (ns:G Int),xs=[.ref p]/\SqL X.K H p (ns.map V.int)/\ns.length<64/\∀(l:I) (a:G Int),H l=R->a.Perm ns->a.Pairwise (·<=·)->Q (.ref l) (bf H l (.lst (a.map V.int))))\/
  (∃(p:I) (ns:G Int),xs=[.ref p]/\SqT X.K H p (ns.map V.int)/\ns.length<64/\∀(l:I) (a:G Int),H l=R->a.Perm ns->a.Pairwise (·<=·)->Q (.ref l) (bf H l (.lst (a.map V.int))))):=L2.ZJ.or xF wW
def gr:G D->z RV
 |[.tuple ds]=>(match ka ds with
  |some a=>if a.length<64 then M (.ow ((kB a).map .int))else R
  |none=>R)
 |ds=>wA ds
def Ay:C5 K (λxs H Q=>(∃(p:I) (ns:G Int),xs=[.ref p]/\SqL K H p (ns.map V.int)/\ns.length<64/\∀(l:I) (b:G Int),H l=R->b.Perm ns->b.Pairwise (·<=·)->Q (.ref l) (bf H l (.lst (b.map V.int))))\/
  (∃(p:I) (ns:G Int),xs=[.ref p]/\SqT K H p (ns.map V.int)/\ns.length<64/\∀(l:I) (b:G Int),H l=R->b.Perm ns->b.Pairwise (·<=·)->Q (.ref l) (bf H l (.lst (b.map V.int))))) gr:=by
 intro O H xs ds t Q n g e q;unfold gr at e;split at e
 .split at e
  .rename_i ns i
   split at e
   .rename_i u
    ext e;cases g with
    |cons o m=>ext m;let(a,v,rfl,h,r):=FP o;rw[kT r i]at h;show .inr #[a,ns,W,h.1,u,λl b j f cW=>?_];let e2:=lj (f.trans (eN ns).symm) cW (d5 ns);subst e2;show q.new (sN _) l j
   .ext e
  .ext e
 .show .inl (Du O H xs ds t Q n g e q)
end
end L9
namespace L9
open PySem PySem.W PyProof.Rows Builtin Builtin.ObjectAttr
open PySem.Spec L2
open L3 L4
def JR(C:I)(f g:Str):Sp:=λa H Q _=>∃e v u,a=[.ref e,v,u]/\S3 v/\S3 u/\H e=M (.ext (JY C e))/\∀p,H p=R->p≠e->Q .Zw (bf (bf H e (.ext (S8 C e p))) p (.xd [(g,u),(f,v)]))
end L9
namespace LD
open PySem PyProof.Rows L2 L3
mutual
def kd:XG->Bool
 |.none=>XA
 |.int _=>XA
 |.str x=>XG.strOk x
 |.tuple xs=>kds xs
 |_=>XF
def kds:bg XG->Bool
 |[]=>XA
 |x::r=>kd x&&kds r
end
def keyD:XG->Bool
 |.tuple xs=>kds xs&&decide ((XG.tuple xs).depth<=8)
 |_=>XF
mutual
theorem kd_lay:∀d:XG,kd d=XA->d.canLay0=XA
 |.none,_=>rfl
 |.int _,_=>rfl
 |.str x,h=>by unfold XG.canLay0;unfold kd at h;exact h
 |.tuple xs,h=>by unfold XG.canLay0;unfold kd at h;exact BW xs h
 |.bool _,h|.list _,h|.dict _,h=>by simp[kd]at h
theorem BW:∀xs:bg XG,kds xs=XA->XG.canLayAll0 xs=XA
 |[],_=>rfl
 |x::r,h=>by unfold kds at h;rw[Xy]at h;unfold XG.canLayAll0;rw[kd_lay x h.1,BW r h.2];rfl
end
mutual
theorem kd_eqv:∀d e:XG,kd d=XA->kd e=XA->XG.eqv d e=XA->d=e
 |.none,e,_,h,q=>by cases e<;>simp_all [kd,XG.eqv]
 |.int i,e,_,h,q=>by cases e<;>simp_all [kd,XG.eqv]
 |.str x,e,_,h,q=>by cases e<;>simp_all [kd,XG.eqv]
 |.tuple xs,e,g,h,q=>by
  cases e with
  |tuple a=>rw[XG.eqv]at q;unfold kd at g h;rw[B6 xs a g h q]
  |_=>simp_all [kd,XG.eqv]
 |.bool _,_,h,_,_|.list _,_,h,_,_|.dict _,_,h,_,_=>by simp[kd]at h
theorem B6:∀xs ys:bg XG,kds xs=XA->kds ys=XA->XG.eqvAll xs ys=XA->xs=ys
 |[],[],_,_,_=>rfl
 |[],_::_,_,_,q=>by simp[XG.eqvAll]at q
 |_::_,[],_,_,q=>by simp[XG.eqvAll]at q
 |x::xs,y::ys,g,h,q=>by unfold kds at g h;rw[XG.eqvAll]at q;rw[Xy]at g h q;rw[kd_eqv x y g.1 h.1 q.1,B6 xs ys g.2 h.2 q.2]
end
def ES[Decidable (d=e)](hd:kd d=P)(a:kd e=P):XG.eqv d e=decide (d=e):=by
 by_cases q:d=e
 .subst q;rw[a4 W];show SeqAt.eqv_refl d (kd_lay d hd)
 .rw[a5 q]
  cases z:XG.eqv d e with
  |false=>rfl
  |true=>show a7 (kd_eqv d e hd a z) q
def eF(h:keyD d=P):kd d=P/\d.depth<=8:=by
 cases d with
 |tuple xs=>unfold keyD at h;rw[Xy]at h;show#[by ext kd;show h.1,a6 h.2]
 |_=>simp[keyD]at h
mutual
def su(w:Yq):XG->Int
 |.none=>reduceHash 0xFCA86420
 |.int i=>hashInt i
 |.str x=>hashStr w x
 |.tuple xs=>reduceHash (Yw.Tuple.tupleHashOf (sH w xs))
 |_=>0
def sH(w:Yq):bg XG->bg Int
 |[]=>[]
 |x::r=>su w x::sH w r
end
mutual
def Vj:XG->Nat
 |.tuple xs=>LP xs+1
 |_=>1
def LP:bg XG->Nat
 |[]=>0
 |x::r=>Vj x+LP r
end
section
variable{prog:Ya}{w:Yq}{E:Xx->XI->Prop}
mutual
theorem Cp:∀(d:XG) (v:Xx) (as:bg XH) (A:Ym) (s:XI) (Q:Int->XI->Prop),kd d=XA->aec s.heap v d as->A.units+d.depth<cLine->Q (su w d) {s with toks:=s.toks+Vj d}->wpAny (model prog w) A (pyHash v) Q E s
 |.none,_,_,A,s,Q,_,r,hu,h=>by cases r;exact ad3 (T:= "NoneType") rfl F.slot_NoneType_hash F.entry_NoneType_hash (F.args_NoneType_hash_1 _) (ais _) (.inr (by ext)) (CL (XN (CL (agf (XN ⟨_,_,rfl,h⟩)))))
 |.int i,_,_,A,s,Q,_,r,_,h=>by cases r;exact aih h
 |.str x,_,_,A,s,Q,_,r,_,h=>by cases r;exact aii h
 |.tuple xs,_,_,A,s,Q,hk,r,hu,h=>by
  cases r with
  | @tuple a o vs n _ _ h1 h2 h3 h4=>
   refine ad3 (T:= "tuple") ⟨_,h1,h2⟩ F.slot_tuple_hash F.entry_tuple_hash (F.args_tuple_hash_1 _) (ais _) (.inr (by ext)) ?_;show wpAny _ _ (Yw.Tuple.tupleItemsOf (.ref a)>>=_) _ _ s;refine CL (wpAny_tupleItemsOf h1 h3 ?_);refine CL ?_;rw[<-aeR];unfold kd at hk;refine uG xs vs.toList _ A.in1 s #v[] _ hk h4 (by simp only[XG.depth,Ym.in1_units]at hu⊢;ext) λb e=>?_;show wpAny _ _ (retInt (Yw.Tuple.tupleHashOf b.toList)) _ _ _;rw[e];refine CL (agf (XN ⟨_,_,rfl,?_⟩));unfold su Vj at h
   simpa [Y1]using h
 |.bool _,_,_,_,_,_,h,_,_,_|.list _,_,_,_,_,_,h,_,_,_|.dict _,_,_,_,_,_,h,_,_,_=>by simp[kd]at h
theorem uG:∀(xs:bg XG) (vs:bg Xx) (as:bg XH) (A:Ym) (s:XI) (b:Array Int) (Q:Array Int->XI->Prop),kds xs=XA->acb s.heap vs xs as->A.units+XG.depthAll xs<cLine->
  (∀b':Array Int,b'.toList=b.toList++sH w xs->Q b' {s with toks:=s.toks+LP xs})->
  wpAny (model prog w) A (forIn vs b λx r=>do let h<-pyHash x;pure PUnit.unit;pure (ForInStep.yield (r.push h))) Q E s
 |[],_,_,A,s,b,Q,_,x,_,h=>by cases x;exact XN (h b (by simp[sH]))
 |k::xs,_,_,A,s,b,Q,hk,x,hu,h=>by
  cases x with
  |cons e a=>
   unfold kds at hk;simp only[Xy,XG.depthAll]at hk hu;rw[abr];refine CL (CL (Cp k _ _ A s _ hk.1 e (by ext) ?_));refine CL (XN (XN ?_));refine uG xs _ _ A _ _ Q hk.2 a (by ext) λb' f=>?_;have:=h b' (by simp[f,sH]);unfold LP at this
   simpa [Y1]using this
end
theorem yR:∀(n:Nat) (d:XG) (v:U) (as:G I) (A:Ym) (s:XI) (Q:Bool->XI->Prop),kd d=P->aec s.heap v d as->d.depth<=n->Q P s->wpAny (model prog w) A (eqIsQuiet n v) Q E s
 |n,.none,_,_,A,s,Q,_,r,_,h=>by ext r;rw[acU _ W];show XN h
 |n,.int i,_,_,A,s,Q,_,r,_,h=>by ext r;rw[acU _ W];show XN h
 |n,.str i,_,_,A,s,Q,_,r,_,h=>by ext r;rw[acU _ W];show XN h
 |0,.tuple xs,_,_,A,s,Q,t,r,q,h=>by simp only[XG.depth]at q;ext
 |n+1,.tuple xs,_,_,A,s,Q,t,r,q,h=>by
  cases r with
  | @tuple a o J m _ _ h1 C B u=>
   let g:s.TypeIs (.ref a) "tuple":=#[_,h1,C];simp only[XG.depth]at q;ext eqIsQuiet;show CL (ajq g F.slot_tuple_eq.lookup ?_);show CL (adf g isSubtype_tuple_tuple ?_);simp only[adz,Z9,if_false];show CL (Y7 h1 B ?_);show CL ?_;rw[<-aeR];unfold kd at t;show wpAny_forIn_list _ (λb r e=>r.1=R/\e=s/\∃ys bs,kds ys=P/\acb s.heap b ys bs/\XG.depthAll ys<=n) _ ?_ ?_ _ _ #[W,W,xs,_,t,u,by ext]
   .rintro v b r e ⟨f,rfl,ys,bs,k1,k2,k3⟩
    cases k2 with
    | @cons _ _ y p _ _ g1 g2=>unfold kds at k1;simp only[Xy,XG.depthAll]at k1 k3;show CL (yR n y v _ A e _ k1.1 g1 () ?_);simp only[adz,Z9,if_false];show XN #[W,W,p,_,k1.2,g2,by ext]
   .rintro⟨l,j⟩ e ⟨f,rfl,_⟩;simp only at f;subst f;show XN h
 |_,.bool _,_,_,_,_,_,h,_,_,_|_,.list _,_,_,_,_,_,h,_,_,_|_,.dict _,_,_,_,_,_,h,_,_,_=>by simp[kd]at h
end
mutual
theorem uy{h h':Heap}{x:XH}{e:Obj}{es:Array aao}{j:Nat}(f:h.get? x=cL e)(i:e.data=.dict es j)(g:Heap.SameBut x h h'):∀(d:XG) (v:Xx) (as:bg XH),kd d=XA->aec h v d as->aec h' v d as
 |.none,_,_,_,r=>by cases r;exact .none
 |.int _,_,_,_,r=>by cases r;exact .int _ _
 |.str _,_,_,_,r=>by cases r;exact .str _ _
 |.tuple xs,_,_,k,r=>by
  cases r with
  | @tuple a o vs n _ _ h1 h2 h3 h4=>
   have b:a≠x:=by rintro rfl;rw[f]at h1;cases h1;rw[i]at h3;exact nomatch h3
   unfold kd at k;exact .tuple ((g.2 a b).trans h1) h2 h3 (sj f i g xs _ _ k h4)
 |.bool _,_,_,h,_|.list _,_,_,h,_|.dict _,_,_,h,_=>by simp[kd]at h
theorem sj{h h':Heap}{x:XH}{a:Obj}{es:Array aao}{j:Nat}(b:h.get? x=cL a)(f:a.data=.dict es j)(e:Heap.SameBut x h h'):∀(ds:bg XG) (vs:bg Xx) (as:bg XH),kds ds=XA->acb h vs ds as->acb h' vs ds as
 |[],_,_,_,r=>by cases r;exact .nil
 |d::ds,_,_,k,r=>by
  cases r with
  |cons i g=>unfold kds at k;rw[Xy]at k;exact .cons (uy b f e d _ _ k.1 i) (sj b f e ds _ _ k.2 g)
end
abbrev KD:={d:XG//keyD d=P}
noncomputable instance kdDec:DecidableEq KD:=λ_ _=>Classical.propDecidable _
def gz(prog:Ya)(w:Yq):akI prog w KD where
 is:=λh k a=>∃as,aec h (.ref a) k.1 as
 hash:=λk=>su w k.1
 draws:=λk=>Vj k.1
 room:=λA=>A.units+8<cLine
 inj:=λ#[_,r] #[_,f]=>Subtype.ext (aec.unique r _ _ f).1
 keeps:=λ{h l k a d o es m} #[as,r] j hd i=>#[as,uy j hd i k.1 _ _ (eF k.2).1 r]
 pyHash:=λ{A E s k a Q} g #[as,r] q=>Cp k.1 _ as A s Q (eF k.2).1 r (by let:=(eF k.2).2;ext) q
 eqBool:=λ{A E s x y a b Q} g #[as,r] #[bs,f] q=>SeqAt.eqAt_reads x.1 y.1 A s _ _ as bs r f (kd_lay _ (eF x.2).1) (kd_lay _ (eF y.2).1) (by let:=(eF x.2).2;ext) prog w E Q (by
  haveI:Decidable (x.1=y.1):=Classical.propDecidable _
  rw[ES (eF x.2).1 (eF y.2).1];by_cases e:x=y
  .rw[a4 e]at q;rw[a4 (ec Subtype.val e)];show q
  .rw[a5 e]at q;rw[a5 λz=>e (Subtype.ext z)];show q)
 quiet:=λ{A E s k a Q} #[as,r] q=>yR 8 k.1 _ as A s Q (eF k.2).1 r (eF k.2).2 q
def Xi(a:I)(xs:G (KD×I×V))(w:Yq)(h:Heap):Prop:=
 (xs.length<=XY/\(a==Y2)=XF/\(xs.map (·.1)).Nodup)/\∃o es b,h.get? a=M o/\o.ExactDict/\o.data=.dict es b/\Paired (λ(x:KD×I×V) (e:aao)=>e.hash=su w x.1.1/\e.key=.ref x.2.1/\RelV x.2.2 e.val) xs es.toList
abbrev DkO(a:I)(xs:G (KD×I×V)):HO:=.exw (Xi a xs)
abbrev PrD(O:bK)(K:lD)(H:Hp):G (KD×I×V)->G (D×D)->Prop:=
 Paired λx a=>x.1.1=a.1/\L3.DV O K H (.ref x.2.1) a.1/\L3.DV O K H x.2.2 a.2
end LD
namespace L10
open PySem L2 L3
inductive AV where
 |fz (d:D)
 |rf (i:Nat)
inductive SV where
 |fz (d:D)
 |rf (i:Nat)
 |tp (l:G AV)
def AV.sv:AV->SV
 |.fz d=>.fz d
 |.rf i=>.rf i
inductive Cell where
 |lst (xs:G SV)
 |dct (Yf:G (cB×SV))
 |obj (C:Str) (fs:G (Str×SV))
 |dd (Yf:G (D×D))
 |dead
abbrev aN:=G Cell
abbrev aR:=G (z SV)
inductive RS(α:Type) where
 |ok (a:α) (ω:aN)
 |er (x:Xc) (ω:aN)
 |bad
def RS.bind(r:RS α)(f:α->aN->RS β):RS β:=match r with
 |.ok a b=>f a b
 |.er x b=>.er x b
 |.bad=>.bad
def RS.YD(b:aN):z α->RS α
 |some a=>.ok a b
 |none=>.bad
theorem RS.bind_ok(a:α)(b:aN)(f:α->aN->RS β):(RS.ok a b).bind f=f a b:=W
abbrev ej:=@RS.bind_ok
def Lv(α:G I)(a:aN):bK:=λb=>∃(i:Nat) (c:Cell),α[i]?=M b/\a[i]?=M c/\c≠Cell.dead
def ow(B:bK)(α:G I)(a:aN):bK:=λb=>B b\/Lv α a b
section
variable(O:bK)(K:lD)(H:Hp)(Z:bg XH)
def AOk(v:V):AV->Prop
 |.fz d=>DV O K H v d
 |.rf i=>∃a,Z[i]?=M a/\v=.ref a
def VOk(v:V):SV->Prop
 |.fz d=>DV O K H v d
 |.rf i=>∃a,Z[i]?=M a/\v=.ref a
 |.tp l=>∃a xs,v=.ref a/\abx O K H a xs/\Paired (AOk O K H Z) xs l
abbrev ZV:G V->G SV->Prop:=Paired (VOk O K H Z)
def COk(a:I):Cell->Prop
 |.lst xs=>∃e,H a=M (.lst e)/\ZV O K H Z e xs
 |.dct b=>∃ws:G (cB×V),H a=M (.dK ws)/\Paired (λ(p:cB×V) (q:cB×SV)=>p.1=q.1/\VOk O K H Z p.2 q.2) ws b
 |.obj C fs=>∃f g ws,Yh K X8 C=M (M (.ref f))/\H a=M (.ins f g ws)/\Paired (λ(p:Str×V) (q:Str×SV)=>p.1=q.1/\VOk O K H Z p.2 q.2) ws fs
 |.dd b=>∃xs,H a=M (LD.DkO a xs)/\LD.PrD O K H xs b
 |.dead=>True
def Z4(a:L2.St)(b:aR):Prop:=a.length=b.length/\∀(i:Nat) (x:SV),b[i]?=M (M x)->∃v,a[i]?=M (M v)/\VOk O K H Z v x
end
structure Yp(B:bK)(K:lD)(H:Hp)(α:G I)(ω:aN):Prop where
 len:α.length=ω.length
 nd:∀(i j:Nat) (a:I),α[i]?=M a->α[j]?=M a->i=j
 bn:∀a,B a->H a≠R
 ba:∀a,B a->∀i:Nat,α[i]?≠M a
 al:∀(i:Nat) (a:I),α[i]?=M a->H a≠R
 cel:∀(i:Nat) (a:I) (c:Cell),α[i]?=M a->ω[i]?=M c->COk (ow B α ω) K H α a c
structure Zm(α:G I)(ω:aN)(H:Hp)(α':G I)(ω':aN)(H':Hp):Prop where
 pre:∀(i:Nat) (a:I),α[i]?=M a->α'[i]?=M a
 kp:∀b o,H b=M o->¬Lv α ω b->H' b=M o
 lv:∀b,Lv α' ω' b->Lv α ω b\/H b=R
section
variable{B O Q:bK}{K:lD}{E:XK}{H J S N:Hp}{Z Y U T:bg XH}{L X t R:aN}{σ:L2.St}{ρ:aR}{v:V}
theorem Zm.refl:Zm Z L H Z L H:=#[λ_ _ h=>h,λ_ _ h _=>h,λ_ h=>.inl h]
def Zm.trans(a:Zm Z L H U t S)(b:Zm U t S T R N):Zm Z L H T R N:=by
 let e:∀b o,H b=M o->¬Lv Z L b->¬Lv U t b:=λb o h n z=>(a.lv b z).elim n λq=>by simp_all
 show#[λi p h=>b.pre i p (a.pre i p h),λp o h n=>b.kp p o (a.kp p o h n) (e p o h n),λp h=>?_];rcases b.lv p h with h|h
 .show a.lv p h
 .cases q:H p with
  |none=>simp_all
  |some o=>show .inl (Classical.byContradiction λn=>?_);rw[a.kp p o q n]at h;ext h
theorem Zm.same(s:Zi H J):Zm Z L H Z L J:=#[λ_ _ h=>h,λb o h _=>s b o h,λ_ h=>.inl h]
theorem Zm.ev(e:Zm Z L H Y X J):Ev (ow B Z L) H (ow B Y X) J:=λb o h n=>
 #[e.kp b o h λz=>n (.inr z),λz=>z.elim (λq=>n (.inl q)) λq=>(e.lv b q).elim (λq=>n (.inr q)) λq=>by simp_all]
def AOk.ev(e:Ev O H Q J)(p:∀(i:Nat) (a:I),Z[i]?=M a->Y[i]?=M a)(h:AOk O K H Z v x):AOk Q K J Y v x:=by
 cases x with
 |fz d=>show DV.ev e h
 |rf i=>let(a,f,b):=h;show#[a,p i a f,b]
def VOk.ev(e:Ev O H Q J)(p:∀(i:Nat) (a:I),Z[i]?=M a->Y[i]?=M a)(h:VOk O K H Z v x):VOk Q K J Y v x:=by
 cases x with
 |fz d=>show DV.ev e h
 |rf i=>let(a,f,b):=h;show#[a,p i a f,b]
 |tp l=>let(a,xs,f,b,g):=h;show#[a,xs,f,b.ev e,Paired.aa3 g λ_ _ q=>q.ev e p]
theorem VOk.ZM(e:Zm Z L H Y X J)(h:VOk (ow B Z L) K H Z v x):VOk (ow B Y X) K J Y v x:=h.ev e.ev e.pre
theorem ZV.ZM(e:Zm Z L H Y X J)(h:ZV (ow B Z L) K H Z vs xs):ZV (ow B Y X) K J Y vs xs:=Paired.aa3 h λ_ _ q=>q.ZM e
theorem Z4.ZM(e:Zm Z L H Y X J)(h:Z4 (ow B Z L) K H Z σ ρ):Z4 (ow B Y X) K J Y σ ρ:=#[h.1,λi x q=>let#[v,h1,a]:=h.2 i x q;#[v,h1,a.ZM e]]
def COk.ev(e:Ev O H Q J)(p:∀(i:Nat) (a:I),Z[i]?=M a->Y[i]?=M a)(d:∀o,H a=M o->J a=M o)(h:COk O K H Z a c):COk Q K J Y a c:=by
 cases c with
 |lst xs=>let(l,f,b):=h;show#[l,d _ f,Paired.aa3 b λ_ _ q=>q.ev e p]
 |dct n=>let(ws,f,b):=h;show#[ws,d _ f,Paired.aa3 b λ_ _ q=>#[q.1,q.2.ev e p]]
 |obj C fs=>let(j,m,ws,g,f,b):=h;show#[j,m,ws,g,d _ f,Paired.aa3 b λ_ _ q=>#[q.1,q.2.ev e p]]
 |dd n=>let(xs,f,b):=h;show#[xs,d _ f,Paired.aa3 b λ_ _ q=>#[q.1,q.2.1.ev e,q.2.2.ev e]]
 |dead=>trivial
theorem Yp.noO(s:Yp B K H Z L):l6 (ow B Z L) H:=λa h z=>z.elim (λq=>s.bn a q h) λ#[i,c,q,_]=>s.al i a q h
theorem Yp.owd(s:Yp B K H Z L):∀a,ow B Z L a->H a≠Ld:=λa z h=>s.noO a h z
def Yp.grow(s:Yp B K H Z L)(e:Zi H J):Yp B K J Z L:=by let n:∀a,H a≠Ld->J a≠Ld:=λa h z=>h (e.free z);show#[s.len,s.nd,λa h=>n a (s.bn a h),s.ba,λi a h=>n a (s.al i a h),λi a c f b=>(s.cel i a c f b).ev (Ev.grow e) (λ_ _ h=>h) λo h=>e _ _ h]
def Yp.at(s:Yp B K H Z L){i:Nat}(h:L[i]?=M c):∃a,Z[i]?=M a:=by let:i<L.length:=(XB.mp h).1;rw[<-s.len]at this;simp_all
theorem Yp.agp(s:Yp B K H Z L){i:Nat}(h:Z[i]?=M a):¬B a:=λz=>s.ba a z i h
def zB{i:Nat}{c m:Cell}(h:L[i]?=M c)(n:c≠.dead)(g:m≠.dead){b:I}:Lv Z (L.set i m) b↔Lv Z L b:=by
 constructor
 .rintro⟨j,d,f,a,l⟩
  rcases bU a with⟨rfl,rfl⟩|⟨_,a⟩
  .show#[j,c,f,h,n]
  .show#[j,d,f,a,l]
 .rintro⟨j,d,f,a,l⟩
  by_cases e:j=i
  .subst e;show#[j,m,f,by rw[YK (XB.mp h).1],g]
  .show#[j,d,f,by rw[YE (λz=>e z.symm)];show a,l]
def Sv(h:L[i]?=M c)(e:c≠.dead)(a:o≠.dead):ow B Z (L.set i o)=ow B Z L:=by funext b;show propext #[λz=>z.imp id (zB h e a).mp,λz=>z.imp id (zB h e a).mpr]
theorem Zm.put(d:Z[i]?=M a)(h:L[i]?=M c)(g:c≠.dead)(f:c'≠.dead):Zm Z L H Z (L.set i c') (bf H a o):=
 #[λ_ _ h=>h,λb j q n=>by let z:b≠a:=λe=>n #[i,c,by simp_all,h,g];rw[az z];show q,λb z=>.inl ((zB h g f).mp z)]
def Yp.put(s:Yp B K H Z L)(k:Z[i]?=M a)(h:L[i]?=M c)(p:c≠.dead)(f:c'≠.dead)(new:COk (ow B Z L) K (bf H a o) Z a c'):Yp B K (bf H a o) Z (L.set i c'):=by
 let e:Zm Z L H Z (L.set i c') (bf H a o):=Zm.put k h p f;let n:∀b,H b≠Ld->bf H a o b≠Ld:=λb h=>by
  by_cases z:b=a
  .subst z;rw[aI];simp
  .rw[az z];show h
 show#[by rw[YQ];show s.len,s.nd,λb h=>n b (s.bn b h),s.ba,λj b h=>n b (s.al j b h),λj b d m l=>?_];rcases bU l with⟨rfl,rfl⟩|⟨g,l⟩
 .rw[k]at m;ext m;rw[Sv h p f];show new
 .show(s.cel j b d m l).ev e.ev e.pre λu q=>by rw[az (λz=>g (s.nd j i a (by simp_all) k))];show q
theorem ph{i:Nat}{a:I}{c:Cell}{o:HO}(d:Z[i]?=M a)(h:L[i]?=M c)(b:c≠.dead):Ev (ow B Z L) H (ow B Z L) (bf H a o):=Ev.mut (.inr #[i,c,d,h,b]) o
def bP{Z:Type}{l:G Z}{x y:Z}{i:Nat}(h:(l++[x])[i]?=M y):l[i]?=M y\/(i=l.length/\y=x):=by
 by_cases hi:i<l.length
 .rw[XT hi]at h;show .inl h
 .rw[Yn ()]at h
  cases q:i - l.length with
  |zero=>rw[q]at h;ext h;show .inr #[by ext,W]
  |succ n=>rw[q]at h;ext h
def iy{Z:Type}{l:G Z}{x y:Z}{i:Nat}(h:l[i]?=M y):(l++[x])[i]?=M y:=by rw[XT (XB.mp h).1];show h
def aG:(l++[x])[l.length]?=M x:=by simp
def wZ(g:Z.length=L.length)(h:Lv (Z++[p]) (L++[c]) b):Lv Z L b\/b=p:=by
 let(i,d,e,a,f):=h;rcases bP e with e|⟨e1,e2⟩
 .rcases bP a with a|⟨e1,e2⟩
  .show .inl #[i,d,e,a,f]
  simp_all
 .show .inr e2
theorem Zm.adN(f:Z.length=L.length)(s:Zi H J)(g:H p=Ld):Zm Z L H (Z++[p]) (L++[c]) J:=
 #[λi a h=>iy h,λb u q _=>s b u q,λb z=>(wZ f z).imp id λe=>by simp_all]
def Yp.adN(s:Yp B K H Z L)(e:Zi H J)(l:H p=Ld)(m:J p≠Ld)(new:COk (ow B (Z++[p]) (L++[c])) K J (Z++[p]) p c):Yp B K J (Z++[p]) (L++[c]):=by
 let ev:Zm Z L H (Z++[p]) (L++[c]) J:=Zm.adN s.len e l;let n:∀b,H b≠Ld->J b≠Ld:=λb h z=>h (e.free z);show#[by rw[XJ,XJ,s.len];rfl,λi j a f g=>?_,λa h=>n a (s.bn a h),λa h i q=>?_,λi a h=>?_,λi a d f g=>?_]
 .rcases bP f with g1|⟨e1,e2⟩<;>rcases bP g with g2|⟨e3,e4⟩
  .show s.nd i j a g1 g2
  .show a7 (by rw[e4];show l) (s.al i a g1)
  .show a7 (by rw[e2];show l) (s.al j a g2)
  .omega
 .rcases bP q with q|⟨_,e2⟩
  .show s.ba a h i q
  .subst e2;show s.bn a h l
 .rcases bP h with h|⟨_,e2⟩
  .show n a (s.al i a h)
  simp_all
 .rcases bP g with g|⟨e1,e2⟩
  .rcases bP f with f|⟨e1,_⟩
   .show(s.cel i a d f g).ev ev.ev ev.pre λo q=>e _ _ q
   .let:=(XB.mp g).1;let:=s.len;ext
  .rcases bP f with f|⟨_,e3⟩
   .let:=(XB.mp f).1;let:=s.len;ext
   simp_all
def WS(K:lD)(E:XK)(B:bK)(H:Hp)(Z:G I)(L:aN)(P:A->G I->aN->Hp->Prop):RS A->Prop
 |.ok a X=>∀Y J,Zm Z L H Y X J->Yp B K J Y X->P a Y X J
 |.er x X=>∀c b Y J,Zm Z L H Y X J->Yp B K J Y X->XOk K (ow B Y X) J c b x->E c b J
 |.bad=>False
def WS.from(e:Zm Z L H U t S)(h:WS K E B H Z L f r):WS K E B S U t f r:=by
 cases r with
 |ok a R=>show λT N e2 b=>h T N (e.trans e2) b
 |er x R=>show λc g T N e2 b=>h c g T N (e.trans e2) b
 |bad=>show h
def WS.bind(h:WS K E B H Z L b (r.bind k)):WS K E B H Z L (λa U t S=>WS K E B S U t b (k a t)) r:=by
 cases r with
 |ok a t=>show λU S e1 _=>WS.from e1 h
 |er x t=>show h
 |bad=>show h
def WS.YD(h:WS K E B H Z L b ((RS.YD L o).bind k)):∃a,o=M a/\WS K E B H Z L b (k a L):=by
 cases o with
 |none=>show h.elim
 |some a=>show#[a,W,h]
def WS.imp(h:WS K E B H Z L e r)(g:∀a Y X J,Zm Z L H Y X J->Yp B K J Y X->e a Y X J->P' a Y X J):WS K E B H Z L P' r:=by
 cases r with
 |ok a t=>show λU S e1 b=>g a U t S e1 b (h U S e1 b)
 |er x t=>show h
 |bad=>show h
theorem WS.now(s:Yp B K H Z L)(h:WS K E B H Z L b (.ok a L)):b a Z L H:=h Z H .refl s
end
abbrev cT:=aR->aN->RS SV
abbrev tS:=aR->aN->RS Bool
abbrev t6:=aR->aN->RS (G SV)
def cg(K:lD)(E:XK)(t:TE)(f:cT):Prop:=
 ∀(B:bK) (e:L2.St) (H:Hp) (α:G I) (h:aN) (i:aR) (Q:VK),Yp B K H α h->Z4 (ow B α h) K H α e i->WS K E B H α h (λx a b g=>∀v,VOk (ow B a b) K g a v x->Q v g) (f i h)->t e H Q
def t7(K:lD)(E:XK)(t:TT)(f:tS):Prop:=
 ∀(B:bK) (a:L2.St) (H:Hp) (α:G I) (g:aN) (h:aR) (Q:Bool->Hp->Prop),Yp B K H α g->Z4 (ow B α g) K H α a h->WS K E B H α g (λb _ _ e=>Q b e) (f h g)->t a H Q
def ug(K:lD)(E:XK)(t:TA)(f:t6):Prop:=
 ∀(B:bK) (e:L2.St) (H:Hp) (α:G I) (h:aN) (i:aR) (Q:G V->Hp->Prop),Yp B K H α h->Z4 (ow B α h) K H α e i->WS K E B H α h (λxs a b g=>∀j,ZV (ow B a b) K g a j xs->Q j g) (f i h)->t e H Q
section
variable{B O N:bK}{K:lD}{E:XK}{H H' U H2:Hp}{Z P Y J:bg XH}{ω M ω1 T:aN}{X:L2.St}{ρ:aR}{v:V}
def N5:z SV->z PV
 |some (.fz d)=>cL (.fz d)
 |_=>R
def bp(ρ:aR):aU:=ρ.map N5
def uT{i:Nat}(h:(bp ρ)[i]?=cL (cL x)):∃d,x=.fz d/\ρ[i]?=cL (cL (.fz d)):=by
 unfold bp at h;rw[XS]at h;cases q:ρ[i]? with
 |none=>simp_all
 |some o=>
  rw[q]at h;let a:=X1 h;unfold N5 at a;split at a
  .ext a;show#[_,W,W]
  .ext a
def GV(s:Yp B K H Z ω)(a:Z4 (ow B Z ω) K H Z X ρ):Rl K (ow B Z ω) H (ow B Z ω) X H (bp ρ):=by
 show#[Zi.refl _,λ_ h=>h,s.owd,s.noO,by ext bp;rw[Xz];show a.1,λi x h=>?_,λi j ds es w h=>?_]
 .let(d,rfl,b):=uT h;let(v,g,f):=a.2 i _ b;show#[v,g,f]
 .let(d,e,_):=uT h;ext e
def lW(ω:aN):RV->RS SV
 |.fz d=>.ok (.fz d) ω
 |.ow ds=>.ok (.rf ω.length) (ω++[.lst (ds.map .fz)])
abbrev PQ(B:bK)(K:lD)(Q:VK):SV->G I->aN->Hp->Prop:=λx P M H'=>∀v,VOk (ow B P M) K H' P v x->Q v H'
theorem jC(O:bK)(Z:G I):∀{a:G V} {ds:G D},Zc O K H a ds->ZV O K H Z a (ds.map .fz)
 |_,_,.nil=>.nil
 |_,_,.cons h t=>.cons h (jC O Z t)
theorem HB:∀{a:G V} {ds:G D},ZV O K H Z a (ds.map .fz)->Zc O K H a ds
 |_,[],.nil=>.nil
 |_,_::_,.cons h t=>.cons h (HB t)
def rC(s:Yp B K H Z ω)(w:WS K E B H Z ω (PQ B K Q) (lW ω (.ow ds)))(e:Zi H H')(a:H p=R)(h:H' p=cL (.lst o))(hd:Zc N K H' o ds)(f:∀b,ow B Z ω b->N b)(g:N p):Q (.ref p) H':=by
 let sub:∀b,ow B (Z++[p]) (ω++[.lst (ds.map .fz)]) b->N b:=λb z=>z.elim (λq=>f b (.inl q)) λq=>(wZ s.len q).elim (λq=>f b (.inr q)) λq=>by simp_all
 show w (Z++[p]) H' (Zm.adN s.len e a) (s.adN e a (by rw[h];simp) #[o,h,jC _ _ (hd.ev (Ev.sub sub))]) (.ref p) #[p,by rw[<-s.len];show aG,W]
def Gs(s:Yp B K H Z ω)(w:WS K E B H Z ω (PQ B K Q) (lW ω o)):Fin (ow B Z ω) K H Q o:=by
 cases o with
 |fz d=>show λv H' e a=>w Z H' (Zm.same e) (s.grow e) v a
 |ow ds=>show λp g H' e f h a=>rC s w e f h a (λb z=>.inl z) (.inr W)
def ae(f:FE):cT:=λρ ω=>match f (bp ρ)with
 |.ok (.fz d,_)=>.ok (.fz d) ω
 |.ok (.ow ds,_)=>lW ω (.ow ds)
 |.ok (.pl _,_)=>.bad
 |.er x=>.er x ω
 |.bad=>.bad
def rZ(h:EO K E t f):cg K E t (ae f):=by
 intro B X H Z ω ρ Q s g w;show h (ow B Z ω) H (ow B Z ω) X H (bp ρ) Q (GV s g) ?_;unfold ae at w;cases q:f (bp ρ)with
 |bad=>rw[q]at w;show w.elim
 |er x=>rw[q]at w;show λc u H' e k=>w c u Z H' (Zm.same e) (s.grow e) k
 |ok r=>
  let(pv,b):=r;rw[q]at w;intro N v H' e R p;cases pv with
  |fz d=>show w Z H' (Zm.same R.same) (s.grow R.same) v (DV.ev (Ev.sub R.bo) p)
  |ow ds=>let(a,y,rfl,n,m,l,j,o):=p;show rC s w R.same m l j R.bo n
  |pl i=>show w.elim
def bS(f:FT):tS:=λρ ω=>match f (bp ρ)with
 |.ok (b,_)=>.ok b ω
 |.er x=>.er x ω
 |.bad=>.bad
def EL(h:TTO K E t f):t7 K E t (bS f):=by
 intro B X H Z ω ρ Q s g w;show h (ow B Z ω) H (ow B Z ω) X H (bp ρ) Q (GV s g) ?_;unfold bS at w;cases q:f (bp ρ)with
 |bad=>rw[q]at w;show w.elim
 |er x=>rw[q]at w;show λc i H' e k=>w c i Z H' (Zm.same e) (s.grow e) k
 |ok r=>let(b,a):=r;rw[q]at w;show λN H' e R=>w Z H' (Zm.same R.same) (s.grow R.same)
def aq(i:Nat):cT:=λρ ω=>match ρ[i]? with
 |some (cL x)=>.ok x ω
 |_=>.bad
def Bh:cg K E (qE i) (aq i):=by
 intro B X H Z ω ρ Q s a w;unfold aq at w;cases q:ρ[i]? with
 |none=>rw[q]at w;show w.elim
 |some o=>
  cases o with
  |none=>rw[q]at w;show w.elim
  |some x=>rw[q]at w;let(v,e,b):=a.2 i x q;show#[v,e,WS.now s w v b]
def lP(K:lD)(C:Str)(fs:G Str):Prop:=∃a,Yh K X8 C=cL (cL (.ref a))/\Cls K a/\∀f∈fs,aaQ K a f
def aK(C f:Str)(e:cT):cT:=λρ ω=>(e ρ ω).bind λx ω1=>match x with
 |.rf i=>(match ω1[i]? with
  |some (.obj D fs)=>if D=C then RS.YD ω1 (fs.lookup f)else .bad
  |_=>.bad)
 |_=>.bad
def Dp:∀{ws:G (Str×V)} {fs:G (Str×SV)},Paired (λ(p:Str×V) (q:Str×SV)=>p.1=q.1/\VOk O K H Z p.2 q.2) ws fs->fs.lookup f=cL x->∃v,ws.lookup f=cL v/\VOk O K H Z v x:=by
 intro ws fs p
 induction p with
 |nil=>intro h;ext h
 | @cons a b _ _ q t i=>
  let(a,v):=a;let(b,y):=b;let(g,e):=q;intro h;ext g;rw[Yx]at h⊢;split at h
  .ext h;show#[v,W,e]
  .show i h
def D2:∀{ws:G (Str×V)} {fs:G (Str×SV)},Paired (λ(p:Str×V) (q:Str×SV)=>p.1=q.1/\VOk O K H Z p.2 q.2) ws fs->fs.lookup f=R->ws.lookup f=R:=by
 intro ws fs p
 induction p with
 |nil=>intro h;rfl
 | @cons a b _ _ q t i=>
  let(a,v):=a;let(b,y):=b;let(e,g):=q;intro h;ext e;rw[Yx]at h⊢;split at h
  .ext h
  .show i h
def BC(o:lP K C L)(n:f∈L)(k:cg K E ta fa):cg K E (ST K ta f) (aK C f fa):=by
 intro B X H Z ω ρ Q s h w;show k B X H Z ω ρ _ s h (w.bind.imp λx Y ω1 U e1 e b v j=>?_);cases x with
 |fz d=>show b.elim
 |tp l=>show b.elim
 |rf i=>
  let(a,k,rfl):=j;dsimp only at b;cases q:ω1[i]? with
  |none=>rw[q]at b;show b.elim
  |some c=>
   rw[q]at b;cases c with
   |obj D fs=>
    dsimp only at b;by_cases z:D=C
    .subst z
     rw[ax W]at b;let(F,dx,ws,t,r,p):=e.cel i a _ k q;cases S:fs.lookup f with
     |none=>rw[S]at b;show b.elim
     |some x=>rw[S]at b;let(u,m,g):=Dp p S;let(G,g0,A,y):=o;rw[t]at g0;ext g0;show#[a,F,dx,ws,u,W,r,A,y f n,m,WS.now e b u g]
    .rw[aE z]at b;show b.elim
   |_=>show b.elim
def au{Z a:Type}(f:Z->z a):G Z->z (G a)
 |[]=>cL []
 |x::r=>match f x with
  |some y=>(match au f r with
   |some b=>cL (y::b)
   |none=>R)
  |none=>R
def lS:Nat->aN->SV->z D
 |_,_,.fz d=>cL d
 |0,_,_=>R
 |n+1,ω,.rf i=>match ω[i]? with
  |some (.lst xs)=>(au (lS n ω) xs).map .list
  |_=>R
 |n+1,ω,.tp l=>(au (λx=>lS n ω x.sv) l).map .tuple
theorem cw{Z a:Type}{f:Z->z a}{R:V->Z->Prop}{S:V->a->Prop}(h:∀v x y,R v x->f x=cL y->S v y):∀{c:G V} {xs:G Z} {g:G a},Paired R c xs->au f xs=cL g->Paired S c g
 |_,_,_,.nil,e=>by ext e;show .nil
 |_,_,_,.cons (b:=x) (l₂:=xs) r t,e=>by
  unfold au at e;cases q:f x with
  |none=>simp_all
  |some y=>
   rw[q]at e;dsimp only at e;cases i:au f xs with
   |none=>simp_all
   |some g=>rw[i]at e;ext e;show .cons (h _ _ _ r q) (cw h t i)
def jF:∀{b:G V} {ds:G D},Paired (DV O K H) b ds->Zc O K H b ds:=by
 intro _ _ p
 induction p with
 |nil=>show .nil
 |cons h t a=>show .cons h a
theorem OU:Ev O H noO H:=Ev.sub λ_ z=>z.elim
theorem jy(s:Yp B K H Z ω):∀(n:Nat) {v:V} {x:SV} {d:D},VOk (ow B Z ω) K H Z v x->lS n ω x=cL d->DV noO K H v d
 |n,v,.fz o,d,h,e=>by
  let g:cL o=cL d:=by ext n<;>show e
  ext g;show DV.ev OU h
 |0,v,.rf i,d,h,e=>by ext e
 |0,v,.tp l,d,h,e=>by ext e
 |n+1,v,.rf i,d,h,e=>by
  let(a,m,rfl):=h;unfold lS at e;cases q:ω[i]? with
  |none=>simp_all
  |some c=>
   rw[q]at e;cases c with
   |lst xs=>
    dsimp only at e;cases j:au (lS n ω) xs with
    |none=>simp_all
    |some ds=>rw[j]at e;ext e;let(p,f,b):=s.cel i a _ m q;show .lst #[aaE.of f,λz=>z.elim] (jF (cw (R:=VOk (ow B Z ω) K H Z) (λv x y r e=>jy s n r e) b j))
   |_=>ext e
 |n+1,v,.tp l,d,h,e=>by
  let(a,xs,rfl,f,b):=h;unfold lS at e;cases j:au (λx=>lS n ω x.sv) l with
  |none=>simp_all
  |some ds=>rw[j]at e;ext e;show .tup (f.ev OU) (jF (cw (λv x y r e=>jy s n (by ext x<;>show r) e) b j))
def xf:SV->z D
 |.fz d=>cL d
 |_=>R
def sh(ω:aN):SV->z D
 |.fz d=>cL d
 |.rf i=>match ω[i]? with
  |some (.lst xs)=>(au xf xs).map .list
  |_=>R
 |.tp _=>R
def HP(s:Yp B K H Z ω)(h:VOk (ow B Z ω) K H Z v x)(e:sh ω x=cL d):DX (ow B Z ω) K H v d:=by
 cases x with
 |fz g=>ext e;show DV.x h
 |tp l=>ext e
 |rf i=>
  let(a,n,rfl):=h;unfold sh at e;dsimp only at e;cases q:ω[i]? with
  |none=>simp_all
  |some c=>
   rw[q]at e;cases c with
   |lst xs=>
    dsimp only at e;cases j:au xf xs with
    |none=>simp_all
    |some ds=>
     rw[j]at e;ext e;let(m,f,b):=s.cel i a _ n q;show#[a,m,W,aaE.of f,jF (cw (λv x y r e=>?_) b j)];cases x with
     |fz d=>ext e;show r
     |rf i=>ext e
     |tp l=>ext e
   |_=>ext e
def zL:D->Bool
 |.none=>XA
 |.bool _=>XA
 |.int _=>XA
 |.str _=>XA
 |_=>XF
def Ls(h:zL d=XA)(a:DV O K H v d):DV N K H' v d:=by
 cases a with
 |Zw=>show .Zw
 |bl b=>show .bl b
 |int i=>show .int i
 |str x=>show .str x
 |tup _ _=>ext h
 |lst _ _=>ext h
def mQ(ω:aN):RV->RS SV
 |.fz d=>if zL d=XA then .ok (.fz d) ω else .bad
 |.ow _=>.bad
def BU(s:Yp B K H Z ω)(w:WS K E B H Z ω (PQ B K Q) (mQ ω o)):Fin noO K H Q o:=by
 cases o with
 |fz d=>
  let w:WS K E B H Z ω (PQ B K Q) (if zL d=XA then RS.ok (SV.fz d) ω else RS.bad):=w;by_cases z:zL d=XA
  .rw[ax z]at w;show λv H' e a=>w Z H' (Zm.same e) (s.grow e) v (Ls z a)
  .rw[aE z]at w;show w.elim
 |ow ds=>show w.elim
theorem Fz:l6 noO H:=λ_ _ z=>z
def qB(f:D->D->z RV)(x y:SV)(ω:aN):RS SV:=match sh ω x,sh ω y with
 |some g,cL b=>(RS.YD ω (f g b)).bind λe ω1=>lW ω1 e
 |_,_=>(RS.YD ω (lS 6 ω x)).bind λg ω1=>(RS.YD ω1 (lS 6 ω1 y)).bind λb T=>(RS.YD T (f g b)).bind λe a=>mQ a e
def Gg(n:kZ K r f)(s:Yp B K H Z ω)(m:VOk (ow B Z ω) K H Z x a)(l:VOk (ow B Z ω) K H Z y b)(w:WS K E B H Z ω (PQ B K Q) (qB f a b ω)):r x y H Q:=by
 let o:WS K E B H Z ω (PQ B K Q) ((RS.YD ω (lS 6 ω a)).bind λq ω1=>(RS.YD ω1 (lS 6 ω1 b)).bind λe T=>(RS.YD T (f q e)).bind λp i=>mQ i p)->r x y H Q:=λw=>by let(q,h,w):=w.YD;let(e,g,w):=w.YD;let(p,j,w):=w.YD;show n noO H x y q e p Q Fz (DV.x (jy s 6 m h)) (DV.x (jy s 6 l g)) j (BU s w)
 unfold qB at w;cases h:sh ω a with
 |none=>simp_all
 |some q=>
  cases g:sh ω b with
  |none=>simp_all
  |some e=>rw[h,g]at w;let(p,j,w):=w.YD;show n _ H x y q e p Q s.noO (HP s m h) (HP s l g) j (Gs s w)
def jT(f:D->D->z RV)(a fb:cT):cT:=λρ ω=>(a ρ ω).bind λx ω1=>(fb ρ ω1).bind λy T=>qB f x y T
def GX(l:kZ K r f)(c:cg K E C fa)(m:cg K E o fb):cg K E (JZ r C o) (jT f fa fb):=by intro B X H Z ω ρ Q s a w;show c B X H Z ω ρ _ s a (w.bind.imp λx Y ω1 U e1 h e v i=>?_);show m B X U Y ω1 ρ _ h (a.ZM e1) (e.bind.imp λy J T H2 e2 g b u j=>?_);show Gg l g (i.ZM e2) j b
def Ln:SV->z Bool
 |.fz (.bool b)=>cL b
 |_=>R
def KG(e:Ln x=cL b)(h:VOk O K H Z v x):v=.bl b:=by
 unfold Ln at e;split at e
 .ext e;ext h;rfl
 .ext e
def aZ(a:cT):tS:=λρ ω=>(a ρ ω).bind λx ω1=>RS.YD ω1 (Ln x)
def rX(c:cg K E o C):t7 K E (Bz o) (aZ C):=by
 intro B X H Z ω ρ Q s e w;show c B X H Z ω ρ _ s e (w.bind.imp λx Y ω1 U e1 f a v g=>?_);cases q:Ln x with
 |none=>rw[q]at a;show a.elim
 |some b=>rw[q]at a;show#[b,KG q g,WS.now f a]
theorem Hj(a:cg K E o C):t7 K E (tB o) (aZ C):=rX a
def mv(a fb:tS):tS:=λρ ω=>(a ρ ω).bind λb ω1=>if b=XA then fb ρ ω1 else .ok XF ω1
def zb(a fb:tS):tS:=λρ ω=>(a ρ ω).bind λb ω1=>if b=XA then .ok XA ω1 else fb ρ ω1
def tX(a:tS):tS:=λρ ω=>(a ρ ω).bind λb ω1=>.ok (!b) ω1
def Lp(j:t7 K E t f)(i:t7 K E u g):t7 K E (Rc t u) (mv f g):=by
 intro B X H Z ω ρ Q s e w;show j B X H Z ω ρ _ s e (w.bind.imp λb Y ω1 U e1 h a=>?_);cases b with
 |true=>show i B X U Y ω1 ρ Q h (e.ZM e1) a
 |false=>show WS.now h a
def Pr(j:t7 K E t f)(i:t7 K E u g):t7 K E (VG t u) (zb f g):=by
 intro B X H Z ω ρ Q s e w;show j B X H Z ω ρ _ s e (w.bind.imp λb Y ω1 U e1 h a=>?_);cases b with
 |true=>show WS.now h a
 |false=>show i B X U Y ω1 ρ Q h (e.ZM e1) a
def Nk(h:t7 K E t f):t7 K E (Mf t) (tX f):=by intro B X H Z ω ρ Q s e w;show h B X H Z ω ρ _ s e (w.bind.imp λb Y ω1 U e1 g a=>WS.now g a)
def b6:tS:=λ_ ω=>.ok XA ω
theorem Hl:t7 K E FH b6:=λB X H Z ω ρ Q s a w=>WS.now s w
def zi(a fb:cT):cT:=λρ ω=>(aZ a ρ ω).bind λb ω1=>if b=XA then fb ρ ω1 else .ok (.fz (.bool XF)) ω1
def LF(d:cg K E C fa)(g:cg K E o fb):cg K E (G4 C o) (zi fa fb):=by
 intro B X H Z ω ρ Q s e w;show rX d B X H Z ω ρ (λc U=>if c=XA then o X U Q else Q (.bl XF) U) s e (w.bind.imp λb Y ω1 U e1 f a=>?_);cases b with
 |true=>show g B X U Y ω1 ρ Q f (e.ZM e1) a
 |false=>show WS.now f a _ (.bl XF)
def Pe(c:tS)(a fb:cT):cT:=λρ ω=>(c ρ ω).bind λb ω1=>if b=XA then a ρ ω1 else fb ρ ω1
def Pu(g:t7 K E t c)(d:cg K E C fa)(h:cg K E o fb):cg K E (Vf t C o) (Pe c fa fb):=by
 intro B X H Z ω ρ Q s a w;show g B X H Z ω ρ _ s a (w.bind.imp λb Y ω1 U e1 f e=>?_);cases b with
 |true=>show d B X U Y ω1 ρ Q f (a.ZM e1) e
 |false=>show h B X U Y ω1 ρ Q f (a.ZM e1) e
def aw:t6:=λ_ ω=>.ok [] ω
def ai(b:cT)(a:t6):t6:=λρ ω=>(b ρ ω).bind λx ω1=>(a ρ ω1).bind λxs T=>.ok (x::xs) T
theorem ww:ug K E iL aw:=λB X H Z ω ρ Q s a w=>WS.now s w [] .nil
def sg(c:cg K E o C)(j:ug K E tr fr):ug K E (ei o tr) (ai C fr):=by intro B X H Z ω ρ Q s b w;show c B X H Z ω ρ _ s b (w.bind.imp λx Y ω1 U e1 h f v i=>?_);show j B X U Y ω1 ρ _ h (b.ZM e1) (f.bind.imp λxs J T H2 e2 g e l a=>?_);show WS.now g e (v::l) (.cons (i.ZM e2) a)
def Vk:SV->z AV
 |.fz d=>cL (.fz d)
 |.rf i=>cL (.rf i)
 |.tp _=>R
def Vr(xs:G SV):z SV:=match au xf xs with
 |some ds=>cL (.fz (.tuple ds))
 |none=>(au Vk xs).map .tp
def j9(a:t6):cT:=λρ ω=>(a ρ ω).bind λxs ω1=>if xs.length<=1000 then RS.YD ω1 (Vr xs)else .bad
def Ae(r:VOk O K H Z v x)(e:xf x=cL d):DV O K H v d:=by
 cases x with
 |fz d=>ext e;show r
 |rf i=>ext e
 |tp l=>ext e
def SU(r:VOk O K H Z v x)(e:Vk x=cL d):AOk O K H Z v d:=by
 cases x with
 |fz d=>ext e;show r
 |rf i=>ext e;show r
 |tp l=>ext e
def LY(c:ug K E C fa):cg K E (KK C) (j9 fa):=by
 intro B X H Z ω ρ Q s m w;show c B X H Z ω ρ _ s m (w.bind.imp λxs Y ω1 U e1 f a n g=>?_);by_cases hn:xs.length<=1000
 .rw[ax hn]at a
  show#[by rw[g.length];show Au hn,λp j=>?_];let b:Zi U (bf U p (.tup n)):=bO j _;let e:Zm Y ω1 U Y ω1 (bf U p (.tup n)):=Zm.same b;let i:abx (ow B Y ω1) K (bf U p (.tup n)) p n:=#[SqT.of aI,λz=>a7 z (f.noO p j)];unfold Vr at a;cases q:au xf xs with
  |some ds=>rw[q]at a;show a Y _ e (f.grow b) _ (.tup i (jF (cw (R:=VOk (ow B Y ω1) K U Y) (λv x y r h=>(Ae r h).ev e.ev) g q)))
  |none=>
   rw[q]at a;dsimp only at a;cases o:au Vk xs with
   |none=>rw[o]at a;show a.elim
   |some l=>rw[o]at a;show a Y _ e (f.grow b) _ #[p,n,W,i,cw (R:=VOk (ow B Y ω1) K U Y) (λv x y r h=>(SU r h).ev e.ev e.pre) g o]
 .rw[aE hn]at a;show a.elim
def DH(f:G D->z RV)(xs:G SV)(ω:aN):RS SV:=match au (sh ω) xs with
 |some ds=>(RS.YD ω (f ds)).bind λb ω1=>lW ω1 b
 |_=>(RS.YD ω (au (lS 6 ω) xs)).bind λds ω1=>(RS.YD ω1 (f ds)).bind λb a=>mQ a b
def ji(f:G D->z RV)(a:t6):cT:=λρ ω=>(a ρ ω).bind λxs ω1=>DH f xs ω1
def Q5(i:C5 K r f)(c:ug K E C fa):cg K E (D1 r C) (ji f fa):=by
 intro B X H Z ω ρ Q s j w;show c B X H Z ω ρ _ s j (w.bind.imp λxs Y ω1 U e1 b a o h=>?_);unfold DH at a;cases n:au (sh ω1) xs with
 |none=>rw[n]at a;let(ds,l,a):=a.YD;let(m,g,a):=a.YD;show i noO U o ds m Q Fz (cw (R:=VOk (ow B Y ω1) K U Y) (λv x y r e=>DV.x (jy b 6 r e)) h l) g (BU b a)
 |some ds=>rw[n]at a;let(m,g,a):=a.YD;show i _ U o ds m Q b.noO (cw (R:=VOk (ow B Y ω1) K U Y) (λv x y r e=>HP b r e) h n) g (Gs b a)
end
section
variable{B O O':bK}{K:lD}{E:XK}{H H' N M:Hp}{Z L U T:bg XH}{ω X ω1 Y:aN}{S:L2.St}{ρ:aR}{v:V}
theorem AW:∀{c:G V} {xs:G β} {i:Nat} {x:β},Paired f c xs->xs[i]?=cL x->∃v,c[i]?=cL v/\f v x
 |_,_,_,_,.nil,e=>by simp at e
 |_,_,0,_,.cons h _,e=>by simp_all
 |_,_,i+1,x,.cons _ t,e=>by let(v,b,a):=AW t (by simpa using e);simp_all
def OW{b:G V}(h:Paired a b xs)(e:lJ xs i=cL x):∃v,lJ b i=cL v/\a v x:=by
 unfold lJ at e⊢;rw[h.length];cases q:JX xs.length i with
 |none=>simp_all
 |some j=>rw[q]at e;show AW h e
def HN:SV->z Int
 |.fz (.int i)=>cL i
 |_=>R
def Ch(e:HN x=cL i)(h:VOk O K H Z v x):v=.int i:=by
 unfold HN at e;split at e
 .ext e;ext h;rfl
 .ext e
def P7(x y:SV)(ω:aN):RS SV:=match x with
 |.fz _=>qB aW x y ω
 |.rf j=>(match ω[j]? with
  |some (.lst xs)=>(RS.YD ω (HN y)).bind λi ω1=>RS.YD ω1 (lJ xs i)
  |_=>.bad)
 |.tp l=>(RS.YD ω (HN y)).bind λi ω1=>RS.YD ω1 ((lJ l i).map AV.sv)
def eD(a fb:cT):cT:=λρ ω=>(a ρ ω).bind λx ω1=>(fb ρ ω1).bind λy Y=>P7 x y Y
def Sg(k:cg K E ta fa)(C:cg K E tb fb):cg K E (JZ (TU K) ta tb) (eD fa fb):=by
 intro B S H Z ω ρ Q s r w;show k B S H Z ω ρ _ s r (w.bind.imp λx U ω1 N e1 A t v e=>?_);show C B S N U ω1 ρ _ A (r.ZM e1) (t.bind.imp λy T Y M e2 f b u n=>?_);let e:=e.ZM e2;unfold P7 at b;cases x with
 |fz d=>show Gg Ix f e n b
 |rf j=>
  let(a,k,rfl):=e;dsimp only at b;cases q:Y[j]? with
  |none=>rw[q]at b;show b.elim
  |some c=>
   rw[q]at b;cases c with
   |lst xs=>
    let(i,h,b):=WS.YD b;cases J:lJ xs i with
    |none=>rw[J]at b;show b.elim
    |some x=>rw[J]at b;let(vs,p,o):=f.cel j a _ k q;let(z,m,g):=OW o J;show .inl #[a,vs,i,z,W,Ch h n,SqL.of p,m,WS.now f b z g]
   |_=>show b.elim
 |tp l=>
  let(a,xs,rfl,p,o):=e;let(i,h,b):=WS.YD b;cases J:lJ l i with
  |none=>rw[J]at b;show b.elim
  |some x=>rw[J]at b;let(z,m,g):=OW o J;show .inr (.inl #[a,xs,i,z,W,Ch h n,p.1,m,WS.now f b z (by ext x<;>show g)])
def L6(h:Lv Z (ω.set i .dead) b):Lv Z ω b:=by
 let(j,c,f,a,e):=h;rcases bU a with⟨rfl,rfl⟩|⟨_,a⟩
 .simp_all
 .show#[j,c,f,a,e]
theorem Zm.kill:Zm Z ω H Z (ω.set i .dead) H:=#[λ_ _ h=>h,λ_ _ h _=>h,λ_ h=>.inl (L6 h)]
def Yp.kill(s:Yp B K H Z ω)(i:Nat):Yp B K H Z (ω.set i .dead):=by
 let e:Zm Z ω H Z (ω.set i .dead) H:=Zm.kill;show#[by rw[YQ];show s.len,s.nd,s.bn,s.ba,s.al,λj b d g a=>?_];rcases bU a with⟨rfl,rfl⟩|⟨f,a⟩
 .show trivial
 .show(s.cel j b d g a).ev e.ev e.pre λu q=>q
def Yp.ahn(s:Yp B K H Z ω)(d:Z[i]?=cL a):¬ow B Z (ω.set i .dead) a:=by
 rintro(z|⟨j,c,g,f,e⟩)
 .show s.agp d z
 .let:=s.nd j i a g d
  subst this;rcases bU f with⟨_,rfl⟩|⟨b,_⟩
  .show e W
  .show b W
def i9(g:aN->SV->z (D×aN)):aN->G SV->z (G D×aN)
 |ω,[]=>cL ([],ω)
 |ω,x::r=>match g ω x with
  |some (d,ω1)=>(match i9 g ω1 r with
   |some (ds,Y)=>cL (d::ds,Y)
   |none=>R)
  |none=>R
def frz:Nat->aN->SV->z (D×aN)
 |_,ω,.fz d=>cL (d,ω)
 |0,_,_=>R
 |n+1,ω,.rf i=>match ω[i]? with
  |some (.lst xs)=>(match i9 (frz n) ω xs with
   |some (ds,ω1)=>cL (.list ds,ω1.set i .dead)
   |none=>R)
  |_=>R
 |n+1,ω,.tp l=>match i9 (frz n) ω (l.map AV.sv)with
  |some (ds,ω1)=>cL (.tuple ds,ω1)
  |none=>R
theorem wY(a:∀{ω X:aN} {v:V} {x:SV} {d:D},Yp B K H Z ω->VOk (ow B Z ω) K H Z v x->g ω x=cL (d,X)->Yp B K H Z X/\Zm Z ω H Z X H/\L3.DV (ow B Z X) K H v d):
  ∀{c:G V} {xs:G SV} {ds:G D} {ω X:aN},Yp B K H Z ω->ZV (ow B Z ω) K H Z c xs->i9 g ω xs=cL (ds,X)->Yp B K H Z X/\Zm Z ω H Z X H/\L3.Zc (ow B Z X) K H c ds
 |_,_,_,ω,X,s,.nil,e=>by ext e;show#[s,.refl,.nil]
 |_,_,_,ω,X,s,.cons (b:=x) (l₂:=xs) r t,e=>by
  unfold i9 at e;cases q:g ω x with
  |none=>simp_all
  |some p=>
   let(d,ω1):=p;rw[q]at e;dsimp only at e;let(h,e1,l):=a s r q;cases m:i9 g ω1 xs with
   |none=>simp_all
   |some i=>let(ds,Y):=i;rw[m]at e;ext e;let(f,e2,j):=wY a h (ZV.ZM e1 t) m;show#[f,e1.trans e2,.cons (l.ev e2.ev) j]
theorem vG:∀{a:G V} {l:G AV},Paired (AOk O K H Z) a l->ZV O K H Z a (l.map AV.sv)
 |_,_,.nil=>.nil
 |_,_,.cons (b:=x) h t=>.cons (by ext x<;>show h) (vG t)
theorem v8:∀(n:Nat) {ω X:aN} {v:V} {x:SV} {d:D},Yp B K H Z ω->VOk (ow B Z ω) K H Z v x->frz n ω x=cL (d,X)->Yp B K H Z X/\Zm Z ω H Z X H/\L3.DV (ow B Z X) K H v d
 |n,ω,X,v,.fz t,d,s,h,e=>by
  let m:cL (t,ω)=cL (d,X):=by ext n<;>show e
  ext m;show#[s,.refl,h]
 |0,_,_,v,.rf i,d,s,h,e=>by ext e
 |0,_,_,v,.tp l,d,s,h,e=>by ext e
 |n+1,ω,X,v,.rf i,d,s,h,e=>by
  let(a,r,rfl):=h;unfold frz at e;cases q:ω[i]? with
  |none=>simp_all
  |some c=>
   rw[q]at e;cases c with
   |lst xs=>
    dsimp only at e;let(u,g,f):=s.cel i a _ r q;cases o:i9 (frz n) ω xs with
    |none=>simp_all
    |some p=>let(ds,ω1):=p;rw[o]at e;ext e;let(b,e1,j):=wY (λs h e=>v8 n s h e) s f o;show#[b.kill i,e1.trans Zm.kill,wI g (b.ahn r) (j.ev (Zm.kill).ev)]
   |_=>ext e
 |n+1,ω,X,v,.tp l,d,s,h,e=>by
  let(a,xs,rfl,g,f):=h;unfold frz at e;cases o:i9 (frz n) ω (l.map AV.sv)with
  |none=>simp_all
  |some p=>let(ds,ω1):=p;rw[o]at e;ext e;let(b,e1,j):=wY (λs h e=>v8 n s h e) s (vG f) o;show#[b,e1,.tup (g.ev e1.ev) j]
def KF(x:SV)(ω:aN):RS SV:=match frz 4 ω x with
 |some (d,ω1)=>.ok (.fz d) ω1
 |none=>.bad
def hG(f:cT):cT:=λρ ω=>(f ρ ω).bind λx ω1=>KF x ω1
def vW(h:cg K E t f):cg K E t (hG f):=by
 intro B S H Z ω ρ Q s b w;show h B S H Z ω ρ _ s b (w.bind.imp λx U ω1 N e1 g a v i=>?_);unfold KF at a;cases q:frz 4 ω1 x with
 |none=>rw[q]at a;show a.elim
 |some p=>let(d,Y):=p;rw[q]at a;let(e,e2,j):=v8 4 g i q;show a U N e2 e v j
def XOk.sub(h:∀b,O' b->O b)(k:XOk K O H c dx x):XOk K O' H c dx x:=by let(i,fs,g,a):=k;show#[i,fs,g,λf d e=>let#[g1,v,g2,g3]:=a f d e;#[g1,v,g2,g3.ev (Ev.sub h)]]
def xz(F:FN)(n:Nat)(xs:G SV)(ω:aN):RS SV:=if xs.length=n then(match au xf xs with
 |some ds=>(match F ds with
  |.ok a=>lW ω a
  |.er x=>.er x ω
  |.bad=>.bad)
 |none=>(RS.YD ω (au (lS 6 ω) xs)).bind λds ω1=>(match F ds with
  |.ok a=>mQ ω1 a
  |_=>.bad))else .bad
def gP:RS A->RS A
 |.er _ _=>.bad
 |r=>r
def iZ(F:FN)(n:Nat)(a:t6):cT:=λρ ω=>(a ρ ω).bind λxs ω1=>gP (xz F n xs ω1)
def WS.e0(h:WS K E B H Z ω b (gP r)):WS K E0 B H Z ω b r:=by
 cases r with
 |ok a ω=>show h
 |er x ω=>show h.elim
 |bad=>show h
def Kj(s:Yp B K H Z ω)(b:ZV (ow B Z ω) K H Z o xs)(w:WS K E B H Z ω (PQ B K Q) (xz F n xs ω)):Av K n F o H Q E:=by
 unfold xz at w;by_cases hn:xs.length=n
 .rw[ax hn]at w
  show#[b.length.trans hn,?_];cases q:au xf xs with
  |some ds=>
   rw[q]at w;show#[ow B Z ω,ds,s.owd,jF (cw (R:=VOk (ow B Z ω) K H Z) (λv x y r e=>Ae r e) b q),?_];dsimp only at w;cases g:F ds with
   |ok h=>rw[g]at w;show Gs s w
   |er x=>rw[g]at w;show λc i H' e k=>w c i Z H' (Zm.same e) (s.grow e) k
   |bad=>rw[g]at w;show w.elim
  |none=>
   rw[q]at w;let(ds,f,w):=WS.YD w;show#[noO,ds,λa z=>z.elim,jF (cw (R:=VOk (ow B Z ω) K H Z) (λv x y r e=>jy s 6 r e) b f),?_];cases g:F ds with
   |ok h=>rw[g]at w;show BU s w
   |er x=>rw[g]at w;show w.elim
   |bad=>rw[g]at w;show w.elim
 .rw[aE hn]at w;show w.elim
def Mr(c:ug K E o C):cg K E (jW (Av K n F) [] E0 o) (iZ F n C):=by intro B S H Z ω ρ Q s b w;show c B S H Z ω ρ _ s b (w.bind.imp λxs U ω1 N e1 e a g f=>?_);rw[Yl];show Kj e f (WS.e0 a)
abbrev fq:=G SV->aN->RS SV
def kj(K:lD)(n:Nat)(F:fq):Sp:=λa H Q E=>a.length=n/\∃(B:bK) (Z:G I) (ω:aN) (xs:G SV),Yp B K H Z ω/\ZV (ow B Z ω) K H Z a xs/\WS K E B H Z ω (PQ B K Q) (F xs ω)
def QX(F:fq)(n:Nat)(a:t6):cT:=λρ ω=>(a ρ ω).bind λxs ω1=>if xs.length=n then F xs ω1 else .bad
def kG(F:fq)(n:Nat)(a:t6):cT:=λρ ω=>(a ρ ω).bind λxs ω1=>if xs.length=n then gP (F xs ω1)else .bad
def Fw(c:ug K E o C):cg K E (jW (kj K n F) [] E o) (QX F n C):=by
 intro B S H Z ω ρ Q s e w;show c B S H Z ω ρ _ s e (w.bind.imp λxs U ω1 N e1 f a g b=>?_);rw[Yl];by_cases hn:xs.length=n
 .rw[ax hn]at a;show#[b.length.trans hn,B,U,ω1,xs,f,b,a]
 .rw[aE hn]at a;show a.elim
def D5(c:ug K E o C):cg K E (jW (kj K n F) [] E0 o) (kG F n C):=by
 intro B S H Z ω ρ Q s e w;show c B S H Z ω ρ _ s e (w.bind.imp λxs U ω1 N e1 f a g b=>?_);rw[Yl];by_cases hn:xs.length=n
 .rw[ax hn]at a;show#[b.length.trans hn,B,U,ω1,xs,f,b,WS.e0 a]
 .rw[aE hn]at a;show a.elim
def l9(ω:aN)(C m:Str):SV->Bool
 |.rf i=>match ω[i]? with
  |some (.obj D fs)=>decide (D=C)&&(fs.lookup m).isNone
  |_=>XF
 |_=>XF
def jY(C m:Str)(F:fq)(n:Nat)(a:cT)(b:t6):cT:=λρ ω=>(a ρ ω).bind λx ω1=>if l9 ω1 C m x=P then(b ρ ω1).bind λxs Y=>(if(x::xs).length=n then F (x::xs) Y else .bad)else .bad
def aM(C m:Str)(F:fq)(n:Nat)(a:cT)(b:t6):cT:=λρ ω=>(a ρ ω).bind λx ω1=>if l9 ω1 C m x=P then(b ρ ω1).bind λxs Y=>(if(x::xs).length=n then gP (F (x::xs) Y)else .bad)else .bad
def GQ(f:Yh K X8 C=cL (cL (.ref J)))(s:Yp B K H Z ω)(b:VOk (ow B Z ω) K H Z v x)(h:l9 ω C m x=P):∃a k fs,v=.ref a/\H a=cL (.ins J k fs)/\fs.lookup m=R:=by
 cases x with
 |fz d=>ext h
 |tp l=>ext h
 |rf i=>
  let(a,r,rfl):=b;unfold l9 at h;dsimp only at h;cases q:ω[i]? with
  |none=>simp_all
  |some c=>
   rw[q]at h;cases c with
   |obj D fs=>rw[Xy]at h;let(j,g):=h;let e:=a6 j;subst e;let(p,k,ws,g0,o,n):=s.cel i a _ r q;rw[f]at g0;ext g0;show#[a,k,ws,W,o,D2 n (aaM.mp g)]
   |_=>ext h
def Io(q:Yh K X8 C=cL (cL (.ref Ca)))(p:cg K E to fo)(c:ug K E J fa):cg K E (uv Ca m (kj K n F) [] E to J) (jY C m F n fo fa):=by
 intro B S H Z ω ρ Q s g w;show p B S H Z ω ρ _ s g (w.bind.imp λx U ω1 N e1 i e v j=>?_);by_cases h:l9 ω1 C m x=P
 .rw[ax h]at e
  let(a,y,fs,rfl,t,r):=GQ q i j h;show#[a,y,fs,W,t,r,?_];show c B S N U ω1 ρ _ i (g.ZM e1) (e.bind.imp λxs T Y M e2 o b u f=>?_);rw[Yl];let l:ZV (ow B T Y) K M T (.ref a::u) (x::xs):=.cons (j.ZM e2) f;by_cases hn:(x::xs).length=n
  .rw[ax hn]at b;show#[l.length.trans hn,B,T,Y,_,o,l,b]
  .rw[aE hn]at b;show b.elim
 .rw[aE h]at e;show e.elim
def D6(q:Yh K X8 C=cL (cL (.ref Ca)))(p:cg K E to fo)(c:ug K E J fa):cg K E (uv Ca m (kj K n F) [] E0 to J) (aM C m F n fo fa):=by
 intro B S H Z ω ρ Q s g w;show p B S H Z ω ρ _ s g (w.bind.imp λx U ω1 N e1 i e v j=>?_);by_cases h:l9 ω1 C m x=P
 .rw[ax h]at e
  let(a,y,fs,rfl,t,r):=GQ q i j h;show#[a,y,fs,W,t,r,?_];show c B S N U ω1 ρ _ i (g.ZM e1) (e.bind.imp λxs T Y M e2 o b u f=>?_);rw[Yl];let l:ZV (ow B T Y) K M T (.ref a::u) (x::xs):=.cons (j.ZM e2) f;by_cases hn:(x::xs).length=n
  .rw[ax hn]at b;show#[l.length.trans hn,B,T,Y,_,o,l,WS.e0 b]
  .rw[aE hn]at b;show b.elim
 .rw[aE h]at e;show e.elim
def Dx:SV->Bool
 |.fz .none=>P
 |_=>XF
def uY(C:Str)(F:fq)(n:Nat)(xs:G SV)(ω:aN):RS SV:=if(SV.rf ω.length::xs).length=n then(F (.rf ω.length::xs) (ω++[.obj C []])).bind λr Y=>(if Dx r=P then .ok (.rf ω.length) Y else .bad)else .bad
def pk(C:Str)(F:fq)(n:Nat)(a:t6):cT:=λρ ω=>(a ρ ω).bind λxs ω1=>uY C F n xs ω1
def tf(C:Str)(F:fq)(n:Nat)(a:t6):cT:=λρ ω=>(a ρ ω).bind λxs ω1=>gP (uY C F n xs ω1)
def Nj(h:Dx x=P)(a:VOk O K H Z v x):v=.Zw:=by
 unfold Dx at h;split at h
 .ext a;rfl
 .ext h
def Fi(q:Yh K X8 C=cL (cL (.ref J)))(s:Yp B K H Z ω)(p:ZV (ow B Z ω) K H Z vs xs)(w:WS K E B H Z ω (PQ B K Q) (uY C F n xs ω)):
  ∀x c,H x=R->H c=R->c≠x->kj K n F (.ref x::(vs++[])) (bf (bf H c (.own x)) x (.ins J c [])) (λv M=>v=.Zw/\Q (.ref x) M) E:=by
 intro x c f i h;rw[Yl];unfold uY at w;let j:Zi H (bf (bf H c (.own x)) x (.ins J c [])):=(bO i _).trans (bO (by rw[az (λz=>h z.symm)];show f) _);let e:Zm Z ω H (Z++[x]) (ω++[.obj C []]) (bf (bf H c (.own x)) x (.ins J c [])):=Zm.adN s.len j f;let o:Yp B K (bf (bf H c (.own x)) x (.ins J c [])) (Z++[x]) (ω++[.obj C []]):=s.adN j f (by rw[aI];simp) #[J,c,[],q,aI,.nil];let a:∀{L:G I} {X:aN} {H':Hp},Zm (Z++[x]) (ω++[.obj C []]) (bf (bf H c (.own x)) x (.ins J c [])) L X H'->VOk (ow B L X) K H' L (.ref x) (.rf ω.length):=λe=>#[x,e.pre _ _ (by rw[<-s.len];show aG),W];by_cases hn:(SV.rf ω.length::xs).length=n
 .rw[ax hn]at w
  let l:ZV (ow B (Z++[x]) (ω++[.obj C []])) K (bf (bf H c (.own x)) x (.ins J c [])) (Z++[x]) (.ref x::vs) (.rf ω.length::xs):=.cons (a .refl) (ZV.ZM e p);show#[l.length.trans hn,B,_,_,_,o,l,?_];show WS.imp (WS.from e w.bind) λr T Y M e2 m b v g=>?_;by_cases z:Dx r=P
  .rw[ax z]at b;show#[Nj z g,WS.now m b _ (a e2)]
  .rw[aE z]at b;show b.elim
 .rw[aE hn]at w;show w.elim
def Mh(g:Yh K X8 C=cL (cL (.ref Ca)))(c:ug K E o J):cg K E (yJ Ca (kj K n F) [] E o) (pk C F n J):=by intro B S H Z ω ρ Q s b w;show c B S H Z ω ρ _ s b (w.bind.imp λxs U ω1 N e1 e a h f=>?_);show Fi g e f a
def IM(g:Yh K X8 C=cL (cL (.ref Ca)))(c:ug K E o J):cg K E (yJ Ca (kj K n F) [] E0 o) (tf C F n J):=by intro B S H Z ω ρ Q s b w;show c B S H Z ω ρ _ s b (w.bind.imp λxs U ω1 N e1 e a h f=>?_);show Fi g e f (WS.e0 a)
def fC(ω:aN):SV->z (Nat×G SV)
 |.rf i=>match ω[i]? with
  |some (.lst xs)=>cL (i,xs)
  |_=>R
 |_=>R
def vj(s:Yp B K H Z ω)(b:VOk (ow B Z ω) K H Z v x)(h:fC ω x=cL (i,xs)):ω[i]?=cL (.lst xs)/\∃a k,Z[i]?=cL a/\v=.ref a/\H a=cL (.lst k)/\ZV (ow B Z ω) K H Z k xs:=by
 cases x with
 |fz d=>ext h
 |tp l=>ext h
 |rf j=>
  let(a,n,rfl):=b;unfold fC at h;dsimp only at h;cases q:ω[j]? with
  |none=>simp_all
  |some c=>
   rw[q]at h;cases c with
   |lst m=>let e:=X1 h;ext e;let(k,g,f):=s.cel i a _ n q;show#[q,a,k,n,W,g,f]
   |_=>ext h
def A9(h:Paired e o xs)(r:e v x):Paired e (o++[v]) (xs++[x]):=by
 induction h with
 |nil=>show .cons r .nil
 |cons a _ b=>show .cons a b
def jr(b c:cT):cT:=λρ ω=>(b ρ ω).bind λo ω1=>(RS.YD ω1 (fC ω1 o)).bind λ_ ω1=>(c ρ ω1).bind λx Y=>(RS.YD Y (fC Y o)).bind λp a=>
 if p.2.length<1000000 then .ok (.fz .none) (a.set p.1 (.lst (p.2++[x])))else .bad
def Nq(F:cg K E to fo)(G:cg K E te fe):cg K E (RZ K "list" wq to (ei te iL)) (jr fo fe):=by
 intro B S H Z ω ρ Q s j w;show F B S H Z ω ρ _ s j (w.bind.imp λo U ω1 N e1 m e v n=>?_);let((P,y),A,e):=WS.YD e;let(_,t,f,_,rfl,g0,_):=vj m n A;show#[.inl #[W,f,SqL.of g0],?_];show G B S N U ω1 ρ _ m (j.ZM e1) (e.bind.imp λx T Y M e2 l b u C=>?_);let((i,xs),q,b):=WS.YD b;let(g,a,vs,ha,J,I,p):=vj l (n.ZM e2) q;ext J;dsimp only at b;by_cases hn:xs.length<1000000
 .rw[ax hn]at b;let ev:Ev (ow B T Y) M (ow B T Y) (bf M t (.lst (vs++[u]))):=ph ha g (by nofun);show#[t,vs,u,W,W,I,rT (by rw[p.length];show hn),?_];show b T _ (Zm.put ha g (by nofun) (by nofun)) (l.put ha g (by nofun) (by nofun) #[_,aI,A9 (Paired.aa3 p λ_ _ r=>r.ev ev λ_ _ h=>h) (C.ev ev λ_ _ h=>h)]) _ .Zw
 .rw[aE hn]at b;show b.elim
end
inductive FlS where
 |nx (ρ:aR)
 |bk (ρ:aR)
 |ct (ρ:aR)
 |rt (x:SV)
abbrev dU:=aR->aN->RS FlS
abbrev yS:=SV->aR->aN->RS aR
abbrev DG:=G SV->aR->aN->RS aR
def xy(B:bK)(K:lD)(D:Ends):FlS->G I->aN->Hp->Prop
 |.nx b,α,a,H=>∀σ,Z4 (ow B α a) K H α σ b->D.nx σ H
 |.bk b,α,a,H=>∀σ,Z4 (ow B α a) K H α σ b->D.bk σ H
 |.ct b,α,a,H=>∀σ,Z4 (ow B α a) K H α σ b->D.ct σ H
 |.rt x,α,a,H=>∀v,VOk (ow B α a) K H α v x->D.rt v H
def pV(K:lD)(E:XK)(t:TS)(g:dU):Prop:=
 ∀(B:bK) (a:L2.St) (H:Hp) (α:G I) (b:aN) (e:aR) (D:Ends),Yp B K H α b->Z4 (ow B α b) K H α a e->WS K E B H α b (xy B K D) (g e b)->t D a H
def E4(K:lD)(E:XK)(g:TG)(f:yS):Prop:=
 ∀(B:bK) (h:L2.St) (H:Hp) (α:G I) (j:aN) (m:aR) (v:V) (x:SV) (Q:L2.St->Hp->Prop),Yp B K H α j->Z4 (ow B α j) K H α h m->VOk (ow B α j) K H α v x->WS K E B H α j (λe a b i=>∀l,Z4 (ow B a b) K i a l e->Q l i) (f x m j)->g v h H Q
def Fb(K:lD)(E:XK)(g:AJ)(f:DG):Prop:=
 ∀(B:bK) (h:L2.St) (H:Hp) (α:G I) (j:aN) (m:aR) (n:G V) (xs:G SV) (Q:L2.St->Hp->Prop),Yp B K H α j->Z4 (ow B α j) K H α h m->ZV (ow B α j) K H α n xs->WS K E B H α j (λe a b i=>∀l,Z4 (ow B a b) K i a l e->Q l i) (f xs m j)->g n h H Q
section
variable{B O O':bK}{K:lD}{E:XK}{H H' S P:Hp}{X M U Y:bg XH}{ω N ω1 Z:aN}{T:L2.St}{ρ:aR}{v:V}
def Z4.set(a:Z4 O K H X T ρ)(h:VOk O K H X v x):Z4 O K H X (T.set i (cL v)) (ρ.set i (cL x)):=by
 show#[by rw[YQ,YQ];show a.1,λj y g=>?_];rcases bU g with⟨rfl,e⟩|⟨f,b⟩
 .ext e;show#[v,?_,h];rw[YK];let:=wK g;rw[a.1];show this
 .let(u,m,l):=a.2 j y b;show#[u,by rw[YE (λz=>f z.symm)];show m,l]
def b7(i:Nat):yS:=λx ρ ω=>.ok (ρ.set i (cL x)) ω
theorem nc:E4 K E (mZ i) (b7 i):=λB T H X ω ρ v x Q s a h w=>WS.now s w _ (a.set h)
def uf:DG:=λxs ρ ω=>match xs with
 |[]=>.ok ρ ω
 |_=>.bad
def kh(f:yS)(g:DG):DG:=λxs ρ ω=>match xs with
 |x::r=>(f x ρ ω).bind λa ω1=>g r a ω1
 |[]=>.bad
def L5:Fb K E KO uf:=by
 intro B T H X ω ρ b xs Q s a h w;cases h with
 |nil=>show#[W,WS.now s w _ a]
 |cons _ _=>show w.elim
def Gu(p:E4 K E t f)(o:Fb K E u g):Fb K E (Cd t u) (kh f g):=by
 intro B T H X ω ρ q xs Q s m h w;cases h with
 |nil=>show w.elim
 |cons a b=>show#[_,_,W,p B T H X ω ρ _ _ _ s m a (WS.imp (WS.bind w) λi U ω1 S e1 n l e j=>?_)];show o B e S U ω1 i _ _ _ n j (ZV.ZM e1 b) l
def Hd:SV->z (G SV)
 |.fz (.tuple ds)=>cL (ds.map .fz)
 |.tp l=>cL (l.map AV.sv)
 |_=>R
def Pn(h:VOk O K H X v x)(e:Hd x=cL xs):∃a c,v=.ref a/\abx O K H a c/\ZV O K H X c xs:=by
 unfold Hd at e;split at e
 .ext e
  cases h with
  |tup h f=>show#[_,_,W,h,jC _ _ f]
 .ext e;let(a,b,rfl,i,g):=h;show#[a,b,W,i,vG g]
 .ext e
def Ey(n:Nat)(f:DG):yS:=λx ρ ω=>(RS.YD ω (Hd x)).bind λxs ω1=>if xs.length=n then f xs ρ ω1 else .bad
def Nb(h:Fb K E t f):E4 K E (ND K n t) (Ey n f):=by
 intro B T H X ω ρ v x Q s e g w;let(xs,q,w):=WS.YD w;let(a,j,rfl,i,b):=Pn g q;by_cases hn:xs.length=n
 .rw[ax hn]at w;show#[a,j,W,i.1,b.length.trans hn,h B T H X ω ρ j xs Q s e b w]
 .rw[aE hn]at w;show w.elim
def cF:dU:=λρ ω=>.ok (.nx ρ) ω
def aC(f g:dU):dU:=λρ ω=>(f ρ ω).bind λa ω1=>match a with
 |.nx b=>g b ω1
 |a=>.ok a ω1
def bh(f:cT):dU:=λρ ω=>(f ρ ω).bind λ_ ω1=>.ok (.nx ρ) ω1
def bG(f:cT)(g:yS):dU:=λρ ω=>(f ρ ω).bind λx ω1=>(g x ρ ω1).bind λa Z=>.ok (.nx a) Z
def ce(c:tS)(f g:dU):dU:=λρ ω=>(c ρ ω).bind λb ω1=>if b=XA then f ρ ω1 else g ρ ω1
def fu(f:cT):dU:=λρ ω=>(f ρ ω).bind λx ω1=>.ok (.rt x) ω1
def sS:dU:=λ_ ω=>.ok (.rt (.fz .none)) ω
theorem Fa:pV K E IC cF:=λB T H X ω ρ D s a w=>WS.now s w T a
theorem G7:pV K E Oa sS:=λB T H X ω ρ D s a w=>WS.now s w .Zw .Zw
def L8(m:pV K E t f)(l:pV K E u g):pV K E (EB t u) (aC f g):=by
 intro B T H X ω ρ D s j w;show m B T H X ω ρ {D with nx:=u D} s j (WS.imp (WS.bind w) λn U ω1 S e1 e b=>?_);cases n with
 |nx a=>show λh i=>l B h S U ω1 a D e i b
 |rt x=>show WS.now (E:=E) e b
 |bk a=>show WS.now (E:=E) e b
 |ct a=>show WS.now (E:=E) e b
def FB(h:cg K E t f):pV K E (yG t) (bh f):=by intro B T H X ω ρ D s a w;show h B T H X ω ρ _ s a (WS.imp (WS.bind w) λx U ω1 S e1 e b v g=>WS.now e b T (a.ZM e1))
def rj(h:cg K E t f)(p:E4 K E g C):pV K E (vB t g) (bG f C):=by intro B T H X ω ρ D s e w;show h B T H X ω ρ _ s e (WS.imp (WS.bind w) λx U ω1 S e1 n l v o=>?_);show p B T S U ω1 ρ v x _ n (e.ZM e1) o (WS.imp (WS.bind l) λi Y Z P e2 m j a b=>WS.now m j a b)
def QD(i:t7 K E c o)(l:pV K E t f)(j:pV K E u g):pV K E (Kx c t u) (ce o f g):=by
 intro B T H X ω ρ D s a w;show i B T H X ω ρ _ s a (WS.imp (WS.bind w) λb U ω1 S e1 h e=>?_);cases b with
 |true=>show l B T S U ω1 ρ D h (a.ZM e1) e
 |false=>show j B T S U ω1 ρ D h (a.ZM e1) e
def Nu(h:cg K E t f):pV K E (Ks t) (fu f):=by intro B T H X ω ρ D s b w;show h B T H X ω ρ _ s b (WS.imp (WS.bind w) λx U ω1 S e1 e a v g=>WS.now e a v g)
def fX(f:Str)(x:SV):G (Str×SV)->G (Str×SV)
 |[]=>[(f,x)]
 |(g,y)::r=>if g=f then(g,x)::r else(g,y)::fX f x r
def Q3(h:VOk O K H X v x):∀{ws:G (Str×V)} {fs:G (Str×SV)},Paired (λ(p:Str×V) (q:Str×SV)=>p.1=q.1/\VOk O K H X p.2 q.2) ws fs->Paired (λ(p:Str×V) (q:Str×SV)=>p.1=q.1/\VOk O K H X p.2 q.2) (i4 f v ws) (fX f x fs):=by
 intro ws fs p
 induction p with
 |nil=>show .cons #[W,h] .nil
 | @cons a b _ _ q t j=>
  let(g,u):=a;let(i,y):=b;let(e,k):=q;ext e;unfold i4 fX;by_cases z:g=f
  .rw[ax z,ax z];show .cons #[W,h] t
  .rw[aE z,aE z];show .cons #[W,k] j
def Jg(ω:aN)(C:Str):SV->z (Nat×G (Str×SV))
 |.rf i=>match ω[i]? with
  |some (.obj D fs)=>if D=C then cL (i,fs)else R
  |_=>R
 |_=>R
def U2(s:Yp B K H X ω)(b:VOk (ow B X ω) K H X v x)(h:Jg ω C x=cL (i,fs)):ω[i]?=cL (.obj C fs)/\∃a k n ws,X[i]?=cL a/\v=.ref a/\Yh K X8 C=cL (cL (.ref k))/\H a=cL (.ins k n ws)/\Paired (λ(p:Str×V) (q:Str×SV)=>p.1=q.1/\VOk (ow B X ω) K H X p.2 q.2) ws fs:=by
 cases x with
 |fz d=>ext h
 |tp l=>ext h
 |rf j=>
  let(a,o,rfl):=b;unfold Jg at h;dsimp only at h;cases q:ω[j]? with
  |none=>simp_all
  |some c=>
   rw[q]at h;cases c with
   |obj D gs=>
    dsimp only at h;by_cases z:D=C
    .subst z;rw[ax W]at h;let e:=X1 h;ext e;let(k,n,ws,m,g,f):=s.cel i a _ o q;show#[q,a,k,n,ws,o,W,m,g,f]
    simp_all
   |_=>ext h
def dS(C f:Str)(b c:cT):dU:=λρ ω=>(c ρ ω).bind λx ω1=>(b ρ ω1).bind λo Z=>(RS.YD Z (Jg Z C o)).bind λp a=>if p.2.length<100 then .ok (.nx ρ) (a.set p.1 (.obj C (fX f x p.2)))else .bad
def MJ(I:lP K C L)(F:f∈L)(A:cg K E to fo)(G:cg K E te fe):pV K E (QZ K to te f) (dS C f fo fe):=by
 intro B T H X ω ρ D s g w;show G B T H X ω ρ _ s g (WS.imp (WS.bind w) λx U ω1 S e1 t p v y=>?_);show A B T S U ω1 ρ _ t (g.ZM e1) (WS.imp (WS.bind p) λo Y Z P e2 l b u z=>?_);let((i,fs),q,b):=WS.YD b;let(j,a,e,dx,ws,ha,rfl,n,J,m):=U2 l z q;let(Cb,g0,R,Q):=I;rw[n]at g0;ext g0;dsimp only at b;by_cases hn:fs.length<100
 .rw[ax hn]at b;let ev:Ev (ow B Y Z) P (ow B Y Z) (bf P a (.ins e dx (i4 f v ws))):=ph ha j (by simp_all);let e3:Zm Y Z P Y (Z.set i (.obj C (fX f x fs))) (bf P a (.ins e dx (i4 f v ws))):=Zm.put ha j (by simp_all) (by simp_all);let hl:=Paired.length m;show#[a,e,dx,ws,W,J,R,Q f F,by ext,?_];show b Y _ e3 (l.put ha j (by simp_all) (by simp_all) #[e,dx,_,n,aI,Q3 ((y.ZM e2).ev ev λ_ _ h=>h) (Paired.aa3 m λ_ _ r=>#[r.1,r.2.ev ev λ_ _ h=>h])]) T ((g.ZM (e1.trans e2)).ZM e3)
 .rw[aE hn]at b;show b.elim
abbrev J3:=aR->aN->RS (G D)
def Qp(K:lD)(E:XK)(b:TI)(e:J3):Prop:=
 ∀(B:bK) (T:L2.St) (H:Hp) (X:G I) (ω:aN) (ρ:aR) (a:It->Hp->Prop),Yp B K H X ω->Z4 (ow B X ω) K H X T ρ->WS K E B H X ω (λds M N H'=>∀J,zR K J (ow B M N) H' ds->a J H') (e ρ ω)->b T H a
def dR(f:FI):J3:=λρ ω=>match f (bp ρ)with
 |.ok (ds,_)=>.ok ds ω
 |.er x=>.er x ω
 |.bad=>.bad
def GN(h:IO K E C f):Qp K E C (dR f):=by
 intro B T H X ω ρ j s g w;show h (ow B X ω) H (ow B X ω) T H (bp ρ) j (GV s g) ?_;unfold dR at w;cases q:f (bp ρ)with
 |bad=>rw[q]at w;show w.elim
 |er x=>rw[q]at w;show λc m H' e k=>w c m X H' (Zm.same e) (s.grow e) k
 |ok r=>let(ds,a):=r;rw[q]at w;show λO' J H' e R i=>w X H' (Zm.same R.same) (s.grow R.same) J λl P e2 n=>i l P (λb o h z=>e2 b o h λy=>z (R.bo b y)) n
def ez(a:cT):J3:=λρ ω=>(a ρ ω).bind λx ω1=>(match frz 4 ω1 x with
 |some (d,Z)=>RS.YD Z (eW d)
 |none=>.bad)
def KH(h:cg K E o C):Qp K E (Fk K o) (ez C):=by
 intro B T H X ω ρ l s f w;show h B T H X ω ρ _ s f (WS.imp (WS.bind w) λx U ω1 S e1 g a v i=>?_);cases q:frz 4 ω1 x with
 |none=>rw[q]at a;show a.elim
 |some p=>
  let(d,Z):=p;rw[q]at a;let(e,e2,j):=v8 4 g i q;dsimp only at a;cases m:eW d with
  |none=>rw[m]at a;show a.elim
  |some ds=>
   rw[m]at a;cases j with
   |tup h b=>ext m;show#[_,W,.inr #[#[_,h.1],a U S e2 e _ (Ie h b)]]
   |lst h b=>ext m;show#[_,W,.inl #[#[_,h.1.sq],a U S e2 e _ (Cg h b)]]
   |_=>ext m
def jw(gt:yS)(b:dU):G D->dU
 |[],ρ,ω=>.ok (.nx ρ) ω
 |d::r,ρ,ω=>(gt (.fz d) ρ ω).bind λa ω1=>(b a ω1).bind λe Z=>match e with
  |.nx f=>jw gt b r f Z
  |.ct f=>jw gt b r f Z
  |.bk f=>.ok (.nx f) Z
  |.rt x=>.ok (.rt x) Z
def og(a:J3)(gt:yS)(b:dU):dU:=λρ ω=>(a ρ ω).bind λds ω1=>jw gt b ds ρ ω1
def MA(c:Qp K E wi fi)(k:E4 K E g gt)(hb:pV K E tb b):pV K E (LM wi g tb) (og fi gt b):=by
 intro B T H X ω ρ D s Q w;show c B T H X ω ρ _ s Q (WS.imp (WS.bind w) λds U ω1 S e1 s1 w1 J it=>?_);show#[λi m a H'=>m=ds.length - i/\i<=ds.length/\∃Y Z ρ2,Zm U ω1 S Y Z H'/\Yp B K H' Y Z/\Z4 (ow B Y Z) K H' Y a ρ2/\WS K E B H' Y Z (xy B K D) (jw gt b (ds.drop i) ρ2 Z),#[_,W,YC _,U,ω1,ρ,.refl,s1,Q.ZM e1,w1],?_];rintro i m n P ⟨rfl,c,Y,Z,ρ2,e2,s2,sl2,w2⟩;let(go,p):=it (ow B Y Z) P e2.ev s2.noO;by_cases h:i<ds.length
 .let(g1,g2):=go i h
  show .inr #[g1,λa H'=>i+1<=ds.length/\∃Y Z ρ2,Zm U ω1 S Y Z H'/\Yp B K H' Y Z/\Z4 (ow B Y Z) K H' Y a ρ2/\WS K E B H' Y Z (xy B K D) (jw gt b (ds.drop (i+1)) ρ2 Z),λa H' #[h1,h2]=>#[ds.length - (i+1),by ext,W,h1,h2],λx L y=>?_];let(R,d,hd,dv):=g2 x L y;let ed:ds.drop i=d::ds.drop (i+1):=by let(_,q):=XB.mp hd;rw[Z0 h,q]
  rw[ed]at w2;let e3:Zm Y Z P Y Z L:=Zm.same R;show k B n L Y Z ρ2 x (.fz d) _ (s2.grow R) (sl2.ZM e3) dv (WS.imp (WS.bind (WS.from e3 w2)) λF G z H4 e4 s4 w3 C I=>?_);show hb B C H4 G z F _ s4 I (WS.imp (WS.bind w3) λfl o l H5 e5 u t=>?_);let r:=e2.trans (e3.trans (e4.trans e5));cases fl with
  |nx f=>show λA j=>#[h,o,l,f,r,u,j,t]
  |ct f=>show λA j=>#[h,o,l,f,r,u,j,t]
  |bk f=>show WS.now (E:=E) u t
  |rt x=>show WS.now (E:=E) u t
 .let e:i=ds.length:=by ext
  subst e;rw[aae (XO _)]at w2;show .inl #[p,WS.now s2 w2 n sl2]
def uc(c:tS)(b:dU):Nat->dU
 |0,_,_=>.bad
 |n+1,ρ,ω=>(c ρ ω).bind λk ω1=>if k=XA then(b ρ ω1).bind λa Z=>match a with
  |.nx e=>uc c b n e Z
  |.ct e=>uc c b n e Z
  |.bk e=>.ok (.nx e) Z
  |.rt x=>.ok (.rt x) Z else .ok (.nx ρ) ω1
def mG(c:tS)(b:dU):dU:=uc c b 1000000
def C7(G:t7 K E c fc)(I:pV K E tb b):pV K E (Jl c tb) (mG fc b):=by
 intro B T H X ω ρ D s C w;show#[λm e H'=>∃Y Z a,Zm X ω H Y Z H'/\Yp B K H' Y Z/\Z4 (ow B Y Z) K H' Y e a/\WS K E B H' Y Z (xy B K D) (uc fc b m a Z),#[_,X,ω,ρ,.refl,s,C,w],?_];rintro m g P ⟨Y,Z,a,e2,F,i,z⟩;cases m with
 |zero=>show z.elim
 |succ m=>
  show G B g P Y Z a _ F i (WS.imp (WS.bind z) λk y t L e3 A p=>?_);cases k with
  |true=>
   rw[ax W]at p⊢;show#[λe H'=>∃Y Z a,Zm X ω H Y Z H'/\Yp B K H' Y Z/\Z4 (ow B Y Z) K H' Y e a/\WS K E B H' Y Z (xy B K D) (uc fc b m a Z),λe H' q=>#[m,aau m,q],?_];show I B g L y t a _ A (i.ZM e3) (WS.imp (WS.bind p) λJ l j Q e5 r o=>?_);let n:=e2.trans (e3.trans e5);cases J with
   |nx f=>show λu h=>#[l,j,f,n,r,h,o]
   |ct f=>show λu h=>#[l,j,f,n,r,h,o]
   |bk f=>show WS.now (E:=E) r o
   |rt x=>show WS.now (E:=E) r o
  |false=>rw[aE X9]at p⊢;show WS.now A p g (i.ZM e3)
end
section
variable{B O O':bK}{K:lD}{E:XK}{H H' T M:Hp}{U S X Y:bg XH}{ω ω' ω1 Z:aN}{R:L2.St}{ρ:aR}{v:V}
def bL(gt:yS)(c:tS)(f:cT):G D->aR->aN->G SV->RS (G SV)
 |[],_,ω,acc=>.ok acc ω
 |d::r,ρ,ω,acc=>(gt (.fz d) ρ ω).bind λa ω1=>(c a ω1).bind λb Z=>if b=P then(f a Z).bind λx e=>(if acc.length<1000000 then bL gt c f r a e (acc++[x])else .bad)else bL gt c f r a Z acc
def d6(n:Nat)(a:G Nat)(ρ:aR):aR:=XU n Ld++a.map λj=>(ρ[j]?).join
def dD(n:Nat)(c:G Nat)(a:J3)(gt:yS)(b:tS)(d:cT):cT:=λρ ω=>(a ρ ω).bind λds ω1=>(gP (bL gt b d ds (d6 n c ρ) ω1 [])).bind λxs Z=>.ok (.rf Z.length) (Z++[.lst xs])
def Lb{own:G Str}{c:G (Str×Nat)}{n:Nat}{d:G Nat}(k:own.length=n)(g:c.map (·.2)=d)(h:Z4 O K H U R ρ):Z4 O K H U (i7 own c R) (d6 n d ρ):=by
 unfold i7 d6;rw[Ci k];let i:c.length=d.length:=by rw[<-g,Xz]
 show#[by simp_all,λj x b=>?_];by_cases f:j<n
 .rw[XT (by rw[Y0];show f),ZC,ax f]at b;ext b
 .rw[Yn (by simp_all),Y0,XS]at b⊢
  subst g;rw[XS]at b;cases q:c[j - n]? with
  |none=>simp_all
  |some p=>
   rw[q]at b;let a:(ρ[p.2]?).join=cL x:=X1 b;let e:ρ[p.2]?=cL (cL x):=by
    cases r:ρ[p.2]? with
    |none=>rw[r]at a;ext a
    |some o=>rw[r]at a;show ec cL a
   let(u,m,l):=h.2 p.2 x e;simp_all
def JP{p:I}{c:Cell}(a:U.length=ω.length)(e:c≠.dead):ow (cJ B p) U ω=ow B (U++[p]) (ω++[c]):=by
 funext b;show propext #[λz=>?_,λz=>?_]
 .rcases z with(z|z)|⟨i,d,h1,g,f⟩
  .show .inl z
  .show .inr #[U.length,c,by rw[z];show aG,by rw[a];show aG,e]
  .show .inr #[i,d,iy h1,iy g,f]
 .rcases z with z|z
  .show .inl (.inl z)
  .rcases wZ a z with z|z
   .show .inr z
   .show .inl (.inr z)
def Yp.adopt{p:I}{c:G V}{xs:G SV}(s:Yp (cJ B p) K H U ω)(l:H p=cL (.lst c))(g:ZV (ow (cJ B p) U ω) K H U c xs)(n:¬B p):Yp B K H (U++[p]) (ω++[.lst xs]):=by
 let eo:ow (cJ B p) U ω=ow B (U++[p]) (ω++[.lst xs]):=JP s.len (by simp_all);let b:∀(i:Nat) (a:I),U[i]?=cL a->(U++[p])[i]?=cL a:=λi a h=>iy h;let m:∀i:Nat,U[i]?≠cL p:=s.ba p (.inr W);show#[by rw[XJ,XJ,s.len];rfl,λi j a e f=>?_,λa h=>s.bn a (.inl h),λa h i q=>?_,λi a h=>?_,λi a d e f=>?_]
 .rcases bP e with g1|⟨e1,e2⟩<;>rcases bP f with g2|⟨e3,e4⟩
  .show s.nd i j a g1 g2
  .simp_all
  .simp_all
  .omega
 .rcases bP q with q|⟨_,e2⟩
  .show s.ba a (.inl h) i q
  simp_all
 .rcases bP h with h|⟨_,e2⟩
  .show s.al i a h
  simp_all
 .rw[<-eo]
  rcases bP f with g2|⟨e1,e2⟩
  .rcases bP e with g1|⟨e1,_⟩
   .show(s.cel i a d g1 g2).ev .refl b λo q=>q
   .let:=(XB.mp g2).1;let:=s.len;ext
  .rcases bP e with g1|⟨_,e3⟩
   .let:=(XB.mp g1).1;let:=s.len;ext
   .rw[e2,e3];show#[c,l,Paired.aa3 g λ_ _ r=>r.ev .refl b]
def Yp.hide{p:I}{o:HO}(s:Yp B K H U ω)(j:H p=Ld):Yp (cJ B p) K (bf H p o) U ω:=by let f:Zi H (bf H p o):=bO j o;let g:=s.grow f;let ev:Ev (ow B U ω) H (ow (cJ B p) U ω) (bf H p o):=λb u h n=>#[f b u h,λz=>z.elim (λz=>z.elim (λz=>n (.inl z)) λz=>by simp_all) λz=>n (.inr z)];show#[g.len,g.nd,λa h=>h.elim (g.bn a) λe=>by rw[e,aI];simp,λa h i q=>h.elim (λh=>g.ba a h i q) λe=>by rw[e]at q;show s.al i p q j,g.al,λi a c m l=>?_];show(s.cel i a c m l).ev ev (λ_ _ h=>h) λo q=>f _ _ q
def Yp.al6{p:I}{o e:HO}(s:Yp (cJ B p) K H U ω)(j:H p=cL o):Yp (cJ B p) K (bf H p e) U ω:=by
 let ev:Ev (ow (cJ B p) U ω) H (ow (cJ B p) U ω) (bf H p e):=Ev.mut (.inl (.inr W)) e;let n:∀b,H b≠Ld->bf H p e b≠Ld:=λb h=>by
  by_cases z:b=p
  .subst z;rw[aI];simp
  .rw[az z];show h
 show#[s.len,s.nd,λa h=>n a (s.bn a h),s.ba,λi a h=>n a (s.al i a h),λi a c f g=>(s.cel i a c f g).ev ev (λ_ _ h=>h) λu q=>?_];let:a≠p:=λz=>s.ba p (.inr W) i (by rw[<-z];show f);rw[az this];show q
theorem Zm.dd{p:I}{o:HO}(e:Zm X ω1 T U ω H)(a:T p=Ld):Zm X ω1 T U ω (bf H p o):=#[e.pre,λb u h n=>by rw[az (bA h a)];show e.kp b u h n,e.lv]
theorem Yp.ahI{p:I}(s:Yp (cJ B p) K H U ω):Yp B K H U ω:=
 #[s.len,s.nd,λa h=>s.bn a (.inl h),λa h=>s.ba a (.inl h),s.al,λi a c f e=>(s.cel i a c f e).ev (λb o h n=>#[h,λy=>n (y.elim (λy=>.inl (.inl y)) .inr)]) (λ_ _ h=>h) λ_ h=>h]
def sG{own:bg Str}{fv:bg (Str×Nat)}{g:TG}{tc:TT}{te:TE}{gt:yS}{s:tS}{k:cT}{n:Nat}{fj:bg Nat}{J:It}{Q:VK}{ds:bg D}(hn:own.length=n)(hf:fv.map (·.2)=fj)
  (hg:E4 K E g gt) (ht:t7 K E tc s) (he:cg K E te k) (s1:Yp B K T X ω1) (sl1:Z4 (ow B X ω1) K T X R ρ) (it:zR K J (ow B X ω1) T ds) (w1:WS K E B T X ω1 (PQ B K Q) ((bL gt s k ds (d6 n fj ρ) ω1 []).bind λxs Z=>.ok (.rf Z.length) (Z++[.lst xs]))):
  ∀D,T D=Ld->Iy J D (i7 own fv R) g tc te T λH'=>Q (.ref D) H':=by
 intro p hD;let slc:Z4 (ow B X ω1) K T X (i7 own fv R) (d6 n fj ρ):=Lb hn hf sl1;generalize qr:bL gt s k ds (d6 n fj ρ) ω1 []=rr at w1;by_cases C:rr=.bad
 .subst C;show w1.elim
 .
  let hB:¬B p:=λz=>s1.bn p z hD;let evH:∀{Y:bg XH} {Z:aN} {H':Hp},Zm X ω1 T Y Z H'->Ev (ow B X ω1) T (ow (cJ B p) Y Z) H':=λe b o h n=>#[e.kp b o h λz=>n (.inr z),λz=>by
   rcases z with(z|z)|z
   .show n (.inl z)
   .simp_all
   .show(e.lv b z).elim (λq=>n (.inr q)) λq=>by simp_all]
  show#[λi m σ' H'=>m=ds.length - i/\i<=ds.length/\∃Y Z ρc acc ys,Zm X ω1 T Y Z H'/\Yp (cJ B p) K H' Y Z/\Z4 (ow (cJ B p) Y Z) K H' Y σ' ρc/\H' p=cL (.lst ys)/\ZV (ow (cJ B p) Y Z) K H' Y ys acc/\bL gt s k (ds.drop i) ρc Z acc=rr,
   #[_,W,YC _,X,ω1,d6 n fj ρ,[],[],Zm.same (bO hD _),s1.hide hD,?_,aI,.nil,qr],?_]
  .show#[slc.1,λj x hx=>let#[v,h1,h2]:=slc.2 j x hx;#[v,h1,h2.ev (evH (Zm.same (bO hD _))) λ_ _ h=>h]]
  .rintro i m σ2 M ⟨rfl,hi,Y,Z,ρ2,acc,ys,e2,s2,sl2,hy,vy,f⟩
   let(go,stop):=it (ow (cJ B p) Y Z) M (evH e2) s2.noO;by_cases G:i<ds.length
   .let(g1,g2):=go i G
    show .inr #[g1,λσ5 I=>i+1<=ds.length/\∃Y Z ρc acc ys,Zm X ω1 T Y Z I/\Yp (cJ B p) K I Y Z/\Z4 (ow (cJ B p) Y Z) K I Y σ5 ρc/\I p=cL (.lst ys)/\ZV (ow (cJ B p) Y Z) K I Y ys acc/\bL gt s k (ds.drop (i+1)) ρc Z acc=rr,
     λσ5 I #[h1,h2]=>#[ds.length - (i+1),by ext,W,h1,h2],λx H3 y=>?_]
    let(s3,d,hd,dv):=g2 x H3 y;let ed:ds.drop i=d::ds.drop (i+1):=by let(_,q):=XB.mp hd;rw[Z0 G,q]
    rw[ed]at f;unfold bL at f;let e3:Zm Y Z M Y Z H3:=Zm.same s3;let kD:∀{αx αy:bg XH} {ωx ωy:aN} {Hx Hy:Hp} {o:HO},Yp (cJ B p) K Hx αx ωx->Zm αx ωx Hx αy ωy Hy->Hx p=cL o->Hy p=cL o:=λsx ex h=>ex.kp _ _ h λ#[i,c,q,_]=>sx.ba p (.inr W) i q;let w:∀{Pz0:bg XH} {u:aN} {H3:Hp} {z:Xc} {t:aN},Zm X ω1 T Pz0 u H3->RS.er z t=rr->∀c dx S H',Zm Pz0 u H3 S t H'->Yp (cJ B p) K H' S t->XOk K (ow (cJ B p) S t) H' c dx z->E c dx H':=λ{Pz0 u H3 z t} e3 q c dx S H' e s' x'=>by subst q;show w1 c dx S H' (e3.trans e) s'.ahI (XOk.sub (λb y=>y.elim (λy=>.inl (.inl y)) .inr) x')
    show hg (cJ B p) σ2 H3 Y Z ρ2 x (.fz d) _ (s2.grow s3) (sl2.ZM e3) dv ?_;cases qg:gt (.fz d) ρ2 Z with
    |er z t=>rw[qg]at f;show w (e2.trans e3) f
    |bad=>rw[qg]at f;show C f.symm
    |ok l L=>
     rw[qg]at f;intro α4 H4 e4 s4 σ4 sl4;show ht (cJ B p) σ4 H4 α4 L l _ s4 sl4 ?_;let f:((s l L).bind λb Z=>if b=XA then(k l Z).bind λx u=>(if acc.length<1000000 then bL gt s k (ds.drop (i+1)) l u (acc++[x])else .bad)else bL gt s k (ds.drop (i+1)) l Z acc)=rr:=f;cases qt:s l L with
     |er z t=>rw[qt]at f;show w (e2.trans (e3.trans e4)) f
     |bad=>rw[qt]at f;show C f.symm
     |ok b A=>
      rw[qt]at f;intro α5 I e5 s5;let sl5:=sl4.ZM e5;let Q0:=e3.trans (e4.trans e5);cases b with
      |false=>let f:bL gt s k (ds.drop (i+1)) l A acc=rr:=f;show#[G,α5,A,l,acc,ys,e2.trans Q0,s5,sl5,kD s2 Q0 hy,ZV.ZM Q0 vy,f]
      |true=>
       let f:((k l A).bind λx u=>(if acc.length<1000000 then bL gt s k (ds.drop (i+1)) l u (acc++[x])else .bad))=rr:=f;rw[ax W];show he (cJ B p) σ4 I α5 A l _ s5 sl5 ?_;cases qe:k l A with
       |er z t=>rw[qe]at f;show w (e2.trans Q0) f
       |bad=>rw[qe]at f;show C f.symm
       |ok x6 F=>
        rw[qe]at f;intro N H6 e6 s6 v6 hv6;let f:(if acc.length<1000000 then bL gt s k (ds.drop (i+1)) l F (acc++[x6])else .bad)=rr:=f;by_cases hl6:acc.length<1000000
        .rw[ax hl6]at f;let Tt:=Q0.trans e6;let hy6:H6 p=cL (.lst ys):=kD s2 Tt hy;let vy6:=ZV.ZM Tt vy;let em:Ev (ow (cJ B p) N F) H6 (ow (cJ B p) N F) (bf H6 p (.lst (ys++[v6]))):=Ev.mut (.inl (.inr W)) _;let sl6:=sl5.ZM e6;show#[ys,hy6,rT (by rw[vy6.length];show hl6),G,N,F,l,acc++[x6],ys++[v6],(e2.trans Tt).dd hD,s6.al6 hy6,#[sl6.1,λj x hx=>let#[v,h1,h2]:=sl6.2 j x hx;#[v,h1,h2.ev em λ_ _ h=>h]],aI,A9 (Paired.aa3 vy6 λ_ _ r=>r.ev em λ_ _ h=>h) (hv6.ev em λ_ _ h=>h),f]
        .rw[aE hl6]at f;show a7 f.symm C
   .let e:i=ds.length:=by ext
    subst e;rw[aae (XO _)]at f;let f:RS.ok acc Z=rr:=f;subst f;show .inl #[stop,?_];show w1 (Y++[p]) M #[λi a h=>iy (e2.pre i a h),e2.kp,λb z=>(wZ s2.len z).elim (e2.lv b) λz=>.inr (by rw[z];show hD)] (s2.adopt hy vy hB) (.ref p) #[p,by rw[<-s2.len];show aG,W]
def QL{A C:Type}{P:C->G I->aN->Hp->Prop}{r:RS A}{k:A->aN->C}{m:A->aN->aN}(w:WS K E B H U ω P ((gP r).bind λa o=>.ok (k a o) (m a o))):WS K E0 B H U ω P (r.bind λa o=>.ok (k a o) (m a o)):=by
 cases r with
 |ok a o=>show w
 |er x o=>show w.elim
 |bad=>show w
def yA{own:G Str}{d:G (Str×Nat)}{a:TI}{g:TG}{b:TT}{c:TE}{f:J3}{gt:yS}{k:tS}{r:cT}{n:Nat}{q:G Nat}(t:own.length=n)(o:d.map (·.2)=q)
  (u:Qp K E a f) (m:E4 K E0 g gt) (l:t7 K E0 b k) (p:cg K E0 c r):cg K E (pP own d a g b c) (dD n q f gt k r):=by
 intro B R H U ω ρ Q s e w;show u B R H U ω ρ _ s e (WS.imp (WS.bind w) λds X ω1 T e1 i h J j=>?_);show sG t o m l p i (e.ZM e1) j (QL h)
def cy(N:Nat)(g:dU):fq:=λxs ω=>(g (xs.map cL++XU (N - xs.length) Ld) ω).bind λa ω1=>match a with
 |.rt x=>.ok x ω1
 |.nx _=>.ok (.fz .none) ω1
 |_=>.bad
def Jo{N:G Str}{c:G V}{xs:G SV}(h:ZV O K H U c xs):Z4 O K H U (L2.start N c) (xs.map cL++XU (N.length - xs.length) Ld):=by
 let e:c.length=xs.length:=Paired.length h;ext L2.start;show#[by simp_all,λi x a=>?_];by_cases hi:i<xs.length
 .rw[XT (by simp_all),XS]at a
  cases q:xs[i]? with
  |none=>rw[q]at a;ext a
  |some d=>rw[q]at a;ext a;let(v,b,f):=AW h q;show#[v,?_,f];rw[XT (by rw[Xz,e];show hi),XS,b];rfl
 .rw[Yn (by rw[Xz];ext),ZC]at a;split at a<;>ext a
def zJ{N:G Str}{c:G V}{xs:G SV}{g:dU}{t:TS}{Q:VK}{n:Nat}(f:pV K E t g)(h:kj K n (cy N.length g) c H Q E):t {nx:=λ_ H'=>Q .Zw H',rt:=Q} (L2.start N c) H:=by
 let(l,B,U,ω,xs,s,e,w):=h;show f B _ H U ω _ _ s (Jo e) (WS.imp (WS.bind w) λi X ω1 T e1 b a=>?_);cases i with
 |rt x=>show WS.now (E:=E) b a
 |nx ρ=>show λR j=>WS.now (E:=E) b a .Zw .Zw
 |bk ρ=>show a.elim
 |ct ρ=>show a.elim
end
def WE{P:Ya}{w:Yq}{K:lD}{d:Str->z U}{base:Heap}{x a:Str}{b:Zn}{f:I}{fd:YN}{N c:G Str}{k n m:Nat}{g:dU}{j:fq}(F:Fun K x a b f fd)(S:ZF N c (av b))(u:c.length=n)(hm:N.length=m)(q:j=cy m g)
  (i:∀(e:U) (A:Ym) (outer:G Env) (s:XI) (H:Hp) (E:XK),Zp k (A.deeper (Yt a (av b) s.heap.objs.size f e))->
   ∃t,PSs (eO lK P w K d base N a (av b) f e A outer s H E).nox (bW b) t/\pV K E t g):FnOk P w K d base lK (k+1) f fd c (kj K n j):=by
 subst q hm;show F.ok S (λr H Q E h=>h.1.trans u.symm) (λe A outer s H r Q E p h=>?_);let(t,l,o):=i e A outer s H E p;show#[t,l,zJ (xs:=[]) o h]
def Wc{P:Ya}{w:Yq}{K:lD}{d:Str->b3 U}{base:Heap}{x a:Str}{b:Zn}{f:XH}{fd:YN}{N c:bg Str}{k n m:Nat}{g:dU}{o:fq}(F:Fun K x a b f fd)(S:ZF N c (av b))(D:c.length=n)(hm:N.length=m)(y:o=cy m g)
  (l:∀(e:U) (A:Ym) (outer:bg Env) (s:XI) (H:Hp) (E:XK),Zp k (A.deeper (Yt a (av b) s.heap.objs.size f e))->
   ∃t,PSs (eO (L4.kF P w) P w K d base N a (av b) f e A outer s H E) (bW b) t/\pV K E t g):FnOk P w K d base (L4.kF P w) (k+1) f fd c (kj K n o):=by
 subst y hm;let(G,C,kV,z,B,I,e,ct,p,rfl,q,j):=F.ex;show Iw q j S (λJ H Q E h=>h.1.trans D.symm) λA outer s H J Q E v i=>?_;let(t,r,u):=l e A outer s H E v;show#[t,r,zJ (xs:=[]) u i]
end L10
namespace PySem.W
open PySem PySem.Calls PyProof.Rows PyProof.V PySem.Spec
section
variable{Y:Ya}{w:Yq}{A:Ym}{E:Xx->XI->Prop}{s:XI}{T:String}{r d:XH}{n:Nat}{P:Nat->Xx->Prop}{X:Heap->Prop}
def collect_kdl(K:KdlSrc Y w T r d n P X)(m:A.handled=Ld)(YX:X s.heap)(u:n<=XY)
  (q:∀c k acc,(∀b o,s.heap.get? b=M o->c.get? b=M o)->amQ P acc n->Q acc.toList {s with heap:=c,toks:=k}):wpAny (model Y w) A (collect (.ref r)) Q E s:=by
 let f:=K.there _ YX;ext collect;show CL (wpAny_runValue (aah F.entry_proto_collect ?_));rw[Ym.under_plainId F.plain_proto_collect _];show CL (YO ?_);show XN #[aad F.plain_list_iadd _,aah F.entry_list_iadd ?_];rw[Ym.under_plainId F.plain_list_iadd _];let p:(s.heap.push {cls:=.type "list",data:=.seq ([]:G U).toArray}).get? s.heap.objs.size=M {cls:=.type "list",data:=.seq ([]:G U).toArray}:=ck _ W;show kdl_extend (R:=wants (λv j=>wpAny (model Y w) A (match v with|.ref a=>(load a>>=λo=>match o.data with|.seq xs _=>pure xs.toList|_=>unsupported "internal:collect")|_=>unsupported "internal:collect") Q E j) E) (s:={s with heap:=s.heap.push {cls:=.type "list",data:=.seq ([]:G U).toArray}}) K m (K.keep _ _ YX λb _ o e=>b4 _ e) _ (YU f.1) (YU f.2) _ 0 p (λc k i t l g h=>?_) u;show CL (ag2 g ?_);show XN (q c k i (λb o e=>l b o (Ye (cj e)) (b4 _ e)) h)
end
end PySem.W
namespace PyProof.Rows
open PySem
section
variable{Y:Ya}{w:Yq}{A:Ym}{E:Xx->XI->Prop}{s:XI}{T:String}{r d:XH}{n:Nat}{P:Nat->Xx->Prop}{X:Heap->Prop}
def AE(K:PySem.W.KdlSrc Y w T r d n P X)(p:A.handled=R)(YX:X s.heap)(l:n<64)(t:∀acc:Array U,amQ P acc n->IntsAre acc.toList ns)
  (h:∀(a c:Heap) (g:Nat) (out:Array U) (e:Nat) (f:G Int),(∀b o,s.heap.get? b=M o->a.get? b=M o)->c.get? a.objs.size=M (seqObj "list" out e)->(∀b o,a.get? b=M o->c.get? b=M o)->IntsAre out.toList f->f.Perm ns->f.Pairwise (·<=·)->Q (.ref a.objs.size) {s with heap:=c,toks:=g}):
  wpAny (model Y w) A (call (.builtin "sorted") [.ref r]) Q E s:=by
 show Calls.call_function_entry kind_sorted plain_sorted entry_sorted (args_sorted1 _) (CL (XN (CL (PySem.W.collect_kdl K p YX (by rw[Zy];ext) (λa g acc m C=>CL (amP ?_ (hsz:=by rw[YL,C.1,Zy];ext)))))));let i:(a.push (seqObj "list" acc.toList.toArray 0)).get? a.objs.size=M (seqObj "list" acc.toList.toArray 0):=ck _ W;let j:=t acc C;show CL (Y6 (ZH slot_list_sort #[_,i,W] entry_list_sort (list_sort_tree i j (by rw[YL,C.1];show l) λout f y v u=>#[_,W,XN #[_,W,?_]]) (args_list_sort _)));let(e,q):=tF i;show h a _ g out e f m q (λb B z=>pQ (Ye (cj z)) (b4 _ z)) y v u
end
end PyProof.Rows
namespace L10
open PySem PySem.Spec PyProof.Rows L2 L3
def Vq(p d:I):HO:=.ext λh=>h.IsValuesView p d
theorem Uy(x:h.IsValuesView p d):ObjOk g w H h p (Vq p d):=#[x,let#[o,a,_]:=x;#[o,a],λf e #[o,a,b] k=>#[o,k o a,b]]
def OL:V->G V->Hp->VK->Prop:=λx b H Q=>∃a e,x=.ref a/\b=[]/\H a=M (.dK e)/\∀p,H p=R->Q (.ref p) (bf H p (Vq p a))
def Ep:SZ X "dict.values" OL:=by intro g s m H x xs v n Q I i f h;let(a,r,rfl,rfl,e,q):=h;ext i;ext f;let(z,l,p,j,dd):=yl I.YX e;show acS acV dd.typeIs PySem.F.entry_dict_values (PySem.F.args_dict_values_1 _) (meets_dict_values (cM X.prog X.w) a l) #[#[p,dd],?_];show#[.ref s.heap.objs.size,_,I.laid (λb o e=>b4 _ e) (XO _) (Uy #[_,ck _ W,W,W]),W,q _ (I.YX.fresh (XO _))]
def HL:G V->Hp->VK->Prop:=λxs H Q=>∃p a b,xs=[.ref p]/\H p=M (Vq p a)/\H a=M (.dK b)/\∀l,H l=R->Q (.ref l) (bf H l (.lst (b.map (·.2))))
def Lm:∀{c:G (o×V)} {b:G (o×U)},KV c b->Vals (c.map (·.2)) (b.map (·.2)):=by
 intro _ _ a
 induction a with
 |nil=>show .nil
 | @cons _ _ _ _ h t e=>show .cons h.2 (e)
def Ax(n:X.calm=P):ZJ X (.type "list") HL:=by intro g s C H xs E Q I r h;let(p,a,N,rfl,w,e,q):=h;let(u,rfl,l):=jV r;ext l;let(z,G,S,b,dd):=yl I.YX e;let(K,B):=dd.dictAt;let(i,_,_):=I.YX p _ w;show PySem.W.kdl_call (PySem.W.kdl_values) (I.ok.hd n) #[i,B] (by rw[<-b.length];show z) λJ F f c m t L=>?_;let A:=PySem.W.kdl_vals_eq f.toList (by rw[YL];show L.1) λj v y=>L.2 j v (by rw[<-ad4];show y);show#[.ref s.heap.objs.size,_,I.laid (o:=.lst (N.map (·.2))) m (XO _) #[by rw[Xz];show z,f.toList,c,by rw[A];show Lm b,by rw[Array.toArray_toList];show t],W,q _ (I.YX.fresh (XO _))]
def zz:G V->Hp->VK->Prop:=λxs H Q=>∃(p:I) (e:G (cB×V)) (a:G Int),xs=[.ref p]/\H p=M (.dK e)/\e.map (·.1)=a.map Sum.inl/\a.length<64/\∀(l:I) (b:G Int),H l=R->b.Perm a->b.Pairwise (·<=·)->Q (.ref l) (bf H l (.lst (b.map V.int)))
theorem sY:∀{c:G (cB×U)} {ns:G Int} {us:G U},c.map (·.1)=ns.map Sum.inl->us.length=c.length->(∀(j:Nat) (u:U),us[j]?=M u->∃k x,c[j]?=M (k,x)/\(cM prog w).is k u=P)->IntsAre us ns
 |[],[],[],_,_,_=>.nil
 |[],[],_::_,_,h,_=>by simp at h
 |[],_::_,_,h,_,_=>by simp at h
 |_::_,[],_,h,_,_=>by simp at h
 |_::_,_::_,[],_,h,_=>by simp at h
 |(k,y)::c,n::ns,u::us,h1,l,i=>by rw[X5,X5,aoJ]at h1;let(g,x,e,b):=i 0 u W;ext e;let f:=h1.1;subst f;let(t,rfl):=Xx.isInt_shape (show Xx.isInt n u=P from b);show .cons _ _ (sY h1.2 (by simpa using l) λj a e=>i (j+1) a (by simpa using e))
def z9(E:X.calm=XA):ZJ X (.builtin "sorted") zz:=by
 intro i s N H xs O Q I r h;let(p,Yf,l,rfl,e,J,F,q):=h;let(u,rfl,t):=jV r;ext t;let(z,C,vs,b,dd):=yl I.YX e;let(T,L):=dd.dictAt;let m:vs.map (·.1)=l.map Sum.inl:=by rw[<-b.keys];show J
 let R:vs.length=l.length:=by let:=ec abG m;simpa using this
 show AE (PySem.W.kdl_dict C) (I.ok.hd E) L () (λM Y=>sY m (by rw[YL];show Y.1) λj v K=>Y.2 j v (by rw[<-ad4];show K)) λG S P f e2 w A B g Y n y=>?_;let a:=n.length_eq;let o:=I.kept (t':=s.toks) A;show#[.ref G.objs.size,_,o.laid g (XO _) ?_,W,q _ w (o.YX.fresh (XO _)) n y];show#[?_,f.toList,e2,jq Y,B];rw[Xz,a];let:(64:Nat)<=XY:=by decide
 ext
end L10
namespace PySem
open Sem (wp)
namespace F
def lk_tuple_keys:typeLookup (.type "tuple") "keys"=pure R:=by rw[ajr,af1];kernel_rfl
def lk_tuple_hook:typeLookup (.type "tuple") "__getattr__"=pure R:=by rw[ajr,af1];kernel_rfl
def sub_ae:isSubtype (.type "AttributeError") (.type "AttributeError")=pure P:=by rw[isSubtype_type];kernel_rfl
end F
section
variable{Y:Ya}{w:Yq}{A:Ym}{E:Xx->XI->Prop}{h:Heap}{g:Array abD}{d:ae6}{t:Nat}{X:ad2}{a:XH}{o:Obj}
def AL{α:Type}{name f:Str}{Q:α->XI->Prop}{E:U->XI->Prop}(hm:f.length<=XY)(l:A.handled=R)(i:∀e c k,(∀b o,h.get? b=M o->c.get? b=M o)->(#[c,g,d,k,X]:XI).TypeIs e "AttributeError"->E e #[c,g,d,k,X]):
  wpAny (model Y w) A (raiseAttrError (.ref a) name f:Sem α) Q E #[h,g,d,t,X]:=by
 let j:¬f.length>XY:=Nat.not_lt.mpr hm;unfold raiseAttrError newExc newTuple
 repeat (any_goals (first|assumption|wp_step))
 show adx (a:=P) F.sub_ae ?_
 repeat (any_goals (first|assumption|wp_step))
 show agF l (i _ _ _ (λb o e=>?_) ?_)
 .show(cn _ _ (dN (Ye (cj (b4 _ e))))).trans (b4 _ (b4 _ e))
 .show#[_,cv _ (ck _ W) W,W]
def oQ{f:Tok}{Q:Fin->XI->Prop}{E:U->XI->Prop}{p:Array U}{n:Nat}{i:Array (z U)}(j:h.get? a=M #[.type "tuple",R,.seq p n,i])(m:A.handled=R)(l:∀e c k,(∀b o,h.get? b=M o->c.get? b=M o)->(#[c,g,d,k,X]:XI).TypeIs e "AttributeError"->E e #[c,g,d,k,X]):
  wpAny (model Y w) A (Yw.«object.__getattribute__» #[[.ref a,.str "keys" f],[]]) Q E #[h,g,d,t,X]:=by
 let q:(#[h,g,d,t,X]:XI).TypeIs (.ref a) "tuple":=#[_,j,W];let r:=F.lk_tuple_keys
 repeat (any_goals (first|assumption|wp_step))
 show AL (by left) m l
def ud{f:Tok}{Q:U->XI->Prop}{E:U->XI->Prop}{u:Array U}{n:Nat}{l:Array (b3 U)}(i:h.get? a=M #[.type "tuple",R,.seq u n,l])(q:A.handled=R)(m:∀e c k,(∀b o,h.get? b=M o->c.get? b=M o)->(#[c,g,d,k,X]:XI).TypeIs e "AttributeError"->E e #[c,g,d,k,X]):
  wpAny (model Y w) A (getAttrBy (.ref a) (.str "keys" f) XF) Q E #[h,g,d,t,X]:=by
 let r:(#[h,g,d,t,X]:XI).TypeIs (.ref a) "tuple":=#[_,i,W];let z:=F.slot_tuple_getattribute.lookup;let y:=F.slot_tuple_getattribute.bind (.ref a);let v:=F.lk_tuple_hook
 repeat (any_goals (first|assumption|wp_step))
 show aaI F.slot_tuple_getattribute.plain F.entry_tuple_ga (F.slot_tuple_getattribute.check _ _ _ _ _ _ _ _ r (F.args_tuple_getattribute_2 _ _) (oQ i q λe c k p j=>?_));let fs:=F.sub_ae;show wpAny (model Y w) A (getattributeRaised (Xx.ref a) (Xx.str (Str.ofString "keys") f) (Xx.type "tuple") e R XF XF) Q E _;ext getattributeRaised;show CL (adf j fs ?_)
 repeat (any_goals (first|assumption|wp_step))
 show m e c k p j
def qA(f:h.get? a=M #[.type "tuple",R,.seq J n,C])(l:A.handled=R)(i:∀c k,(∀b o,h.get? b=M o->c.get? b=M o)->Q R #[c,g,d,k,X]):
  wpAny (model Y w) A (getAttr? (.ref a) "keys") Q E #[h,g,d,t,X]:=by
 unfold getAttr? getAttrBy?;let fs:=F.sub_ae;show CL ?_
 repeat (any_goals (first|assumption|(specialize ud f l λe c k j m=>?_)|wp_step))
 show i c k j
namespace F
theorem entry_upd_loop:entryFor table "dict.update.loop"=M Yw.«dict.update.loop»:=entryFor_of_tree (by kernel_rfl)
def plain_upd_loop:plainId "dict.update.loop"=P:=by left
end F
end
section
variable{prog:Ya}{w:Yq}{A:Ym}{E:Xx->XI->Prop}{s:XI}{K:Type}[DecidableEq K]{knd:KeyKind prog w K}{I dd Y:XH}{Z:Array Xx}{ks:bg (K×Xx)}{R:ada->XI->Prop}
def zQ(a:G (K×U))(k:K)(v:U):(stored a k v).length<=a.length+1:=by
 ext stored;split
 .rw[Xz];ext
 .rw[XJ];show XO _
theorem pR:∀(a c:G (K×U)),(merged c a).length<=c.length+a.length
 |[],c=>XO _
 |p::r,c=>by let e:=pR r (stored c p.1 p.2);let b:=zQ c p.1 p.2;show(merged (stored c p.1 p.2) r).length<=_;rw[XZ];ext
def zp(a:G (K×U)):(merged [] a).length<=a.length:=by let:=pR a [];simpa using this
def Jf{S:Heap}(D:A.handled=Ld)(J:Y≠I)(Q:I≠dd)(P:Y≠dd)(d:∀(i:Nat) (v:Xx),Z[i]?=cL v->∃q key k x,v=.ref q/\q≠dd/\q≠I/\ks[i]?=cL (k,x)/\knd.is k key=XA/\S.IsTuple q #v[key,x])(hs:ks.length=Z.size)(hz:Z.size<=XY)
  (V:∀c l,c.DictOf knd dd (merged [] ks)->(∀b o,b≠dd->b≠I->S.get? b=cL o->c.get? b=cL o)->R (.ok (.ret .none)) {s with heap:=c,toks:=l}):
  ∀(m i:Nat) (h:Heap) (l:Nat),Z.size - i=m->i<=Z.size->h.IsTupleIter I Y i->h.IsTuple Y Z->h.DictOf knd dd (merged [] (ks.take i))->(∀b o,b≠dd->b≠I->S.get? b=cL o->h.get? b=cL o)->
   codeAny (model prog w) A (.builtin "dict.update.loop" #[[.ref dd,.ref I,rawInt i,.none],[]]) R {s with heap:=h,toks:=l}:=by
 let W:=Walks.tuple (prog:=prog) (w:=w) (A:=A.in1) D I Y J Z;intro m
 induction m with
 |zero=>
  intro i h l hm hi C y u t;let e:i=Z.size:=by ext
  subst e;show aah F.entry_upd_loop ?_;rw[Ym.under_plainId F.plain_upd_loop _];show CL (W.done _ _ _ #[C,y] λc f g=>?_);rw[abm ()]at u;show CL (XN (XN ?_));show V c f (u.at λo e=>g dd o (by simp;show λz=>Q z.symm) e) λb o j a e=>g b o (by simp;show a) (t b o j a e)
 |succ m ih=>
  intro i h l hm hi C y u t;let r:i<Z.size:=by ext
  show aah F.entry_upd_loop ?_;rw[Ym.under_plainId F.plain_upd_loop _];show CL (W.item i _ _ _ r #[C,y] λv c f hv U g=>?_);let(q,key,k,x,rfl,H,n,M,L,ht):=d i v hv;let G:=ht.at λo e=>g q o (by simp;show n) (t q o H n e);let T:=u.at λo e=>g dd o (by simp;show λz=>Q z.symm) e;let B:=λb o j a e=>g b o (by simp;show a) (t b o j a e);let(oq,p,O,nq,N):=G;let(cq,dq,dtq,X):=oq;ext O;ext N;let hT:({s with heap:=c,toks:=f}:XI).TypeIs (.ref q) "tuple":=#[_,p,rfl];show CL (Y6 (CL ?_));show ace ?_;ext Yw.Dict.pairItems;show CL (acQ hT ?_);rw[ax ()];show CL ?_;unfold seqItems?;show CL (ag2 p (XN (XN ?_)));show Y6 (wpAny_dictSet_pairs L T (λa d2 s2=>?_) ?_)
  .show XN #[aad F.plain_upd_loop _,?_];let e2:∀b o,b≠dd->c.get? b=cL o->a.get? b=cL o:=λb o hb e=>(s2.2 b hb).trans e;show ih (i+1) a (f+1) () r (U.1.at λo e=>e2 I o Q e) (U.2.at λo e=>e2 Y o P e) ?_ λb o j a e=>e2 b o j (B b o j a e);rw[merged_take_succ [] ks i (k,x) M];show d2
  .let:(merged [] (ks.take i)).length<=(ks.take i).length:=zp _;rw[YJ]at this;ext
end
end PySem
namespace PySem
open Sem (wp)
open PyProof.Rows
section
variable{T:Ya}{w:Yq}{A:Ym}{E:Xx->XI->Prop}{s:XI}{K:Type}[DecidableEq K]{X:KeyKind T w K}{Y:XH}{Z:Array Xx}{S:bg (K×Xx)}{R:ada->XI->Prop}
def pX(B:A.handled=Ld)(z:s.heap.get? Y=cL #[.type "tuple",Ld,.seq Z n,sl])(G:S.length=Z.size)(D:Z.size<=XY)
  (H:∀(i:Nat) (v:U),Z[i]?=cL v->∃q key k x,v=.ref q/\S[i]?=cL (k,x)/\X.is k key=P/\s.heap.IsTuple q #v[key,x])
  (h:∀c d,c.DictOf X s.heap.objs.size (merged [] S)->(∀b o,s.heap.get? b=cL o->c.get? b=cL o)->Q (.ref s.heap.objs.size) {s with heap:=c,toks:=d}):
  wpAny (model T w) A (call (.type "dict") [.ref Y]) Q E s:=by
 show callType_codes (Q₁:=λobj f=>obj=.ref s.heap.objs.size/\f={s with heap:=s.heap.push {cls:=.type "dict",data:=.dict #v[]}}) F.kt_called_dict (F.kt_typeCall_dict_1 _) F.entry_dict_init (kt_code_dict_new _ #[W,W]) ?_;rintro obj f ⟨rfl,rfl⟩;let a:(s.heap.push {cls:=.type "dict",data:=.dict #v[]}).DictOf X s.heap.objs.size []:=Heap.DictOf.new s.heap;let g:(s.heap.push {cls:=.type "dict",data:=.dict #v[]}).get? Y=cL #[.type "tuple",Ld,.seq Z n,sl]:=b4 _ z;let I:({s with heap:=s.heap.push {cls:=.type "dict",data:=.dict #v[]}}:XI).TypeIs (.ref Y) "tuple":=#[_,g,W];show#[a.typeIs,F.args_dict_init_2 _ _,?_];unfold Yw.«dict.__init__»;show CL ?_;ext Yw.Dict.selfAndRest;show CL (af2 a.typeIs ?_);show XN ?_;show wpAny _ _ (Yw.Dict.updateFrom "dict.__init__" s.heap.objs.size (.ref Y) [] .none) _ _ _;ext Yw.Dict.updateFrom;show CL (acQ I ?_);rw[ax ()];show CL (qA g B λc C m=>?_);rw[ax (show(Ld:b3 U).isNone=P from rfl)];show CL (aba ?_);let l:=m _ _ g;let t:c.IsTuple Y Z:=#[_,l,W,n,W];show CL (ab0 t ?_);show XN #[aad F.plain_upd_loop _,?_];let Tf:s.heap.objs.size<c.objs.size:=by let(o,_,_,p,_):=a;show cj (m _ _ p)
 let j:=cj z;show Jf (A:=A.in1) (knd:=X) B (Ye (aal j Tf)) (YU Tf) (Ye j) (λi v e=>?_) G D (λu r M k2=>?_) Z.size 0 _ C () (YC _) #[_,ck _ W,W,W] #[_,b4 _ l,W,n,W] ?_ λb o _ _ e=>e
 .let(q,key,k,x,rfl,L,u,o,p,J):=H i v e;let y:=cj p;show#[q,key,k,x,W,Ye y,Ye (aal y Tf),L,u,o,b4 _ (m _ _ (b4 _ p)),J]
 .show#[W,h u r M λb o e=>?_];let lb:=cj e;show k2 b o (Ye lb) (Ye (aal lb Tf)) (b4 _ (m _ _ (b4 _ e)))
 .let:=a.at (h':=c.push {cls:=.type "tuple_iterator",data:=.fields #v[.ref Y,.int 0 0]}) λo e=>b4 _ (m _ _ e);show this
end
end PySem
namespace L10
open PySem PySem.Spec PyProof.Rows L2 L3
inductive ac6(K:lD)(H:Hp):G V->G (cB×V)->Prop
 |nil:ac6 K H [] []
 |cons {q:I} {k:cB} {v:V} {vs:G V} {Yf:G (cB×V)}:SqT K H q [kV k,v]->ac6 K H vs Yf->ac6 K H (.ref q::vs) ((k,v)::Yf)
def z8(K:lD):G V->Hp->VK->Prop:=λxs H Q=>∃p ys a,xs=[.ref p]/\SqT K H p ys/\ac6 K H ys a/\∀d,H d=R->Q (.ref d) (bf H d (.dK (pB [] a)))
theorem E8(I:Inv X pins σ H s):∀{j:G V} {A:G (cB×V)} {us:G U},ac6 X.K H j A->Vals j us->∃d:G (cB×U),KV A d/\d.length=us.length/\∀(i:Nat) (v:U),us[i]?=M v->∃q key k x,v=.ref q/\d[i]?=M (k,x)/\(cM X.prog X.w).is k key=P/\s.heap.IsTuple q #v[key,x]
 |_,_,_,.nil,.nil=>#[[],.nil,W,λi v e=>by simp at e]
 |_,_,_,.cons (q:=q) (k:=k) (v:=v) h t,.cons r rs=>by
  let(d,p,o,n):=E8 I t rs;let(y,B,pl,_):=I.tuple h;ext r;obtain⟨g,f,rfl,m,l⟩:∃g f,y=[g,f]/\RelV (kV k) g/\RelV v f:=by
   cases B with
   |cons a b=>cases b with
    |cons b c=>ext c;show#[_,_,W,a,b]
  show#[(k,f)::d,.cons #[W,l] p,by rw[XZ,XZ,o],λi u e=>?_];cases i with
  |zero=>ext e;show#[q,g,k,f,W,W,uI m,pl]
  |succ i=>show n i u (by simpa using e)
def Ap(E:X.calm=XA):ZJ X (.type "dict") (z8 X.K):=by
 intro f s F H xs J Q I r h;let(p,G,T,rfl,t,w,q):=h;let(u,rfl,g):=jV r;ext g;let(R,S,(o,y,(b,n,C),a),m):=I.ahh t;let(O,k1,k2,k3):=E8 I w S;let(N,M,l,j):=o;ext b;ext C;ext a;let z:=S.length;let A:=k1.length;show pX (I.ok.hd E) y (by rw[X4];show k2) (by rw[X4,<-z];show m) (λi v e=>k3 i v (by simpa using e)) λP L dd B=>?_;show#[.ref s.heap.objs.size,_,I.laid B (XO _) ?_,W,q _ (I.YX.fresh (XO _))];show Ad ?_ ?_ (KV.merge k1 .nil) dd
 .let:=lX T [];rw[ZI]at this;ext
 .show beq_eq_false_iff_ne.mpr (YU I.big)
end L10
namespace L10
open PySem PyProof.Rows L2 L3
def Qe:YI "dict"=M (.type "dict"):=by left
section
variable{B O O':bK}{K:lD}{E:XK}{H H' S R:Hp}{Y α' X U:bg XH}{ω ω' ω1 Z:aN}{T:L2.St}{ρ:aR}{v:V}
def uj:SV->z cB
 |.fz (.int i)=>M (.inl i)
 |.fz (.str x)=>M (.inr x)
 |_=>Ld
def qH(e:uj x=M k)(h:VOk O K H Y v x):v=kV k:=by
 unfold uj at e;split at e
 .ext e;ext h;rfl
 .ext e;ext h;rfl
 .ext e
abbrev vI(O:bK)(K:lD)(H:Hp)(Y:G I):G (cB×V)->G (cB×SV)->Prop:=Paired (λ(p:cB×V) (q:cB×SV)=>p.1=q.1/\VOk O K H Y p.2 q.2)
def iG(ω:aN):SV->z (Nat×G (cB×SV))
 |.rf i=>match ω[i]? with
  |some (.dct a)=>M (i,a)
  |_=>Ld
 |_=>Ld
def mE(s:Yp B K H Y ω)(b:VOk (ow B Y ω) K H Y v x)(h:iG ω x=M (i,o)):ω[i]?=M (.dct o)/\∃a ws,Y[i]?=M a/\v=.ref a/\H a=M (.dK ws)/\vI (ow B Y ω) K H Y ws o:=by
 cases x with
 |fz d=>ext h
 |tp l=>ext h
 |rf j=>
  let(a,n,rfl):=b;unfold iG at h;dsimp only at h;cases q:ω[j]? with
  |none=>rw[q]at h;ext h
  |some c=>
   rw[q]at h;cases c with
   |dct m=>let e:=X1 h;ext e;let(ws,g,f):=s.cel i a _ n q;show#[q,a,ws,n,W,g,f]
   |_=>ext h
def jG(b:G (cB×SV))(k:cB):z SV:=(b.find? λa=>decide (a.1=k)).map (·.2)
def jU(b:G (cB×SV))(k:cB)(x:SV):G (cB×SV):=
 if(b.any λa=>decide (a.1=k))=P then b.map (λa=>if a.1=k then(a.1,x)else a)else b++[(k,x)]
def mh(b:G (cB×SV))(k:cB):G (cB×SV):=b.filter λa=>decide (a.1≠k)
def we:∀{ws:G (cB×V)} {c:G (cB×SV)},vI O K H Y ws c->(∀x,jG c k=M x->∃v,ki ws k=M v/\VOk O K H Y v x)/\(jG c k=Ld->ki ws k=Ld):=by
 intro _ _ f
 induction f with
 |nil=>show#[λx e=>(by ext e),λ_=>W]
 | @cons m l ws c j t n=>
  let(a,u):=m;let(b,y):=l;let(i,g):=j;ext i;unfold jG ki;rw[Yv,Yv];by_cases e:a=k
  .simp only[a4 e];show#[λx h=>#[u,W,by ext h;show g],λh=>by ext h]
  .simp only[a5 e];show n
def VN:∀{ws:G (cB×V)} {d:G (cB×SV)},vI O K H Y ws d->(ws.any λc=>decide (c.1=k))=d.any λc=>decide (c.1=k):=by
 intro _ _ e
 induction e with
 |nil=>show W
 | @cons j i ws d h t l=>let(a,u):=j;let(b,y):=i;let(f,g):=h;ext f;rw[aav,aav,l]
def V6(g:VOk O K H Y v x):∀{ws:G (cB×V)} {d:G (cB×SV)},vI O K H Y ws d->vI O K H Y (ws.map (λc=>if c.1=k then(c.1,v)else c)) (d.map (λc=>if c.1=k then(c.1,x)else c)):=by
 intro _ _ f
 induction f with
 |nil=>show .nil
 | @cons n m ws d l t j=>
  let(a,u):=n;let(b,y):=m;let(i,h):=l;ext i;rw[X5,X5];by_cases e:a=k
  .rw[ax e,ax e];show .cons #[W,g] (j)
  .rw[aE e,aE e];show .cons #[W,h] (j)
def Jx(h:vI O K H Y ws o)(r:p.1=q.1/\VOk O K H Y p.2 q.2):vI O K H Y (ws++[p]) (o++[q]):=by
 induction h with
 |nil=>show .cons r .nil
 |cons a _ b=>show .cons a b
def BB(a:VOk O K H Y v x)(h:vI O K H Y ws o):vI O K H Y (jg ws k v) (jU o k x):=by
 unfold jg jU;rw[VN h];split
 .show V6 a h
 .show Jx h #[W,a]
def FD:∀{ws:G (cB×V)} {c:G (cB×SV)},vI O K H Y ws c->vI O K H Y (nW ws k) (mh c k):=by
 intro _ _ f
 induction f with
 |nil=>show .nil
 | @cons m l ws c j t i=>
  let(a,u):=m;let(b,y):=l;let(h,g):=j;ext h;unfold nW mh;rw[abd,abd];by_cases e:a=k
  .let z:decide (a≠k)=XF:=a5 λn=>n e;simp only[z];show i
  .let z:=a4 e;simp only[z];show .cons #[W,g] (i)
def ue(neg:Bool)(a fd:cT):cT:=λρ ω=>(a ρ ω).bind λx ω1=>(fd ρ ω1).bind λo Z=>(RS.YD Z (uj x)).bind λk Z=>(RS.YD Z (iG Z o)).bind λp Z=>.ok (.fz (.bool ((jG p.2 k).isSome !=neg))) Z
def Gz(h:vI O K H Y ws o):(ki ws k).isSome=(jG o k).isSome:=by
 let(b,a):=we h;cases q:jG o k with
 |none=>rw[a q];rfl
 |some x=>let(u,e,_):=b x q;rw[e];rfl
def Mv(p:cg K E C fk)(hd:cg K E J fd):cg K E (Uq C J) (ue XF fk fd):=by intro B T H Y ω ρ Q s e w;show p B T H Y ω ρ _ s e (w.bind.imp λx X ω1 S e1 h g v m=>?_);show hd B T S X ω1 ρ _ h (e.ZM e1) (g.bind.imp λo U Z R e2 f b u n=>?_);let(k,l,b):=WS.YD b;let((i,y),j,b):=WS.YD b;let(_,a,ws,t,rfl,r,q):=mE f n j;show#[a,ki ws k,W,by rw[qH l m];show adp.k r,?_];rw[Gz q];show WS.now f b _ ?_;rw[agG];show .bl _
def rP(fd a:cT):cT:=λρ ω=>(fd ρ ω).bind λo ω1=>(a ρ ω1).bind λx Z=>(RS.YD Z (uj x)).bind λk Z=>(RS.YD Z (iG Z o)).bind λp Z=>RS.YD Z (jG p.2 k)
def Jc(hd:cg K E td fd)(t:cg K E J fk):cg K E (Oy td J) (rP fd fk):=by
 intro B T H Y ω ρ Q s e w;show hd B T H Y ω ρ _ s e (w.bind.imp λo X ω1 S e1 j g u r=>?_);show t B T S X ω1 ρ _ j (e.ZM e1) (g.bind.imp λx U Z R e2 f b v p=>?_);let(k,m,b):=WS.YD b;let((i,L),l,b):=WS.YD b;let(_,a,ws,N,rfl,C,A):=mE f (r.ZM e2) l;dsimp only at b;cases q:jG L k with
 |none=>rw[q]at b;show b.elim
 |some y=>rw[q]at b;let(z,n,h):=(we A).1 y q;show#[a,z,W,by rw[qH m p,<-n];show adp.k C,WS.now f b z h]
def u6(fd c b:cT):dU:=λρ ω=>(b ρ ω).bind λy ω1=>(fd ρ ω1).bind λo Z=>(c ρ Z).bind λx a=>(RS.YD a (uj x)).bind λk a=>(RS.YD a (iG a o)).bind λp a=>if p.2.length<1000000 then .ok (.nx ρ) (a.set p.1 (.dct (jU p.2 k y)))else .bad
def HU(hd:cg K E td fd)(N:cg K E tk fk)(L:cg K E tv fv):pV K E (Ob td tk tv) (u6 fd fk fv):=by
 intro B T H Y ω ρ D s g w;show L B T H Y ω ρ _ s g (WS.imp (WS.bind w) λy X ω1 S e1 F A n m=>?_);show hd B T S X ω1 ρ _ F (g.ZM e1) (WS.imp (WS.bind A) λo U Z R e2 C t u M=>?_);show N B T R U Z ρ _ C (g.ZM (e1.trans e2)) (WS.imp (WS.bind t) λx b e j e3 p f z J=>?_);let(k,I,f):=WS.YD f;let((i,Yf),G,f):=WS.YD f;let(l,a,ws,ha,rfl,P,q):=mE p (M.ZM e3) G;dsimp only at f;by_cases hn:Yf.length<1000000
 .rw[ax hn]at f;let ev:Ev (ow B b e) j (ow B b e) (bf j a (.dK (jg ws k n))):=ph ha l (by nofun);let e4:Zm b e j b (e.set i (.dct (jU Yf k y))) (bf j a (.dK (jg ws k n))):=Zm.put ha l (by nofun) (by nofun);let Q:=Paired.length q;show#[a,_,W,by rw[qH I J];show afy.k P (rT ()),?_];show f b _ e4 (p.put ha l (by nofun) (by nofun) #[_,aI,BB ((m.ZM (e2.trans e3)).ev ev λ_ _ h=>h) (Paired.aa3 q λ_ _ r=>#[r.1,r.2.ev ev λ_ _ h=>h])]) T ((g.ZM (e1.trans (e2.trans e3))).ZM e4)
 .rw[aE hn]at f;show f.elim
def uH(fd a:cT):cT:=λρ ω=>(fd ρ ω).bind λo ω1=>(RS.YD ω1 (iG ω1 o)).bind λ_ ω1=>(a ρ ω1).bind λx Z=>(RS.YD Z (uj x)).bind λk Z=>(RS.YD Z (iG Z o)).bind λp Z=>(RS.YD Z (jG p.2 k)).bind λy Z=>.ok y (Z.set p.1 (.dct (mh p.2 k)))
def Fh(hd:cg K E td fd)(J:cg K E tk fk):cg K E (IB td tk) (uH fd fk):=by intro B T H Y ω ρ Q s j w;show hd B T H Y ω ρ _ s j (w.bind.imp λo X ω1 S e1 m f u n=>?_);let((P,N),F,f):=WS.YD f;let(_,a,e,_,rfl,g0,_):=mE m n F;show#[a,W,.inl #[e,.inl g0],?_];show J B T S X ω1 ρ _ m (j.ZM e1) (f.bind.imp λx U Z R e2 l b v I=>?_);let(k,C,b):=WS.YD b;let((i,Yf),A,b):=WS.YD b;let(g,a',ws,ha,M,L,p):=mE l (n.ZM e2) A;ext M;dsimp only at b;let(y,q,b):=WS.YD b;let(z,G,t):=(we p).1 y q;let ev:Ev (ow B U Z) R (ow B U Z) (bf R a (.dK (nW ws k))):=ph ha g (by nofun);let e4:Zm U Z R U (Z.set i (.dct (mh Yf k))) (bf R a (.dK (nW ws k))):=Zm.put ha g (by nofun) (by nofun);show#[ws,k,z,L,qH C I,G,?_];show b U _ e4 (l.put ha g (by nofun) (by nofun) #[_,aI,FD (Paired.aa3 p λ_ _ r=>#[r.1,r.2.ev ev λ_ _ h=>h])]) z (t.ZM e4)
def m9(s:Yp B K H Y ω)(a:H p=Ld)(w:WS K E B H Y ω (PQ B K Q) (.ok (.rf ω.length) (ω++[c])))(f:∀e:Zm Y ω H (Y++[p]) (ω++[c]) (bf H p o),COk (ow B (Y++[p]) (ω++[c])) K (bf H p o) (Y++[p]) p c):Q (.ref p) (bf H p o):=by let b:Zi H (bf H p o):=bO a _;let e:Zm Y ω H (Y++[p]) (ω++[c]) (bf H p o):=Zm.adN s.len b a;show w _ _ e (s.adN b a (by rw[aI];simp) (f e)) _ #[p,by rw[<-s.len];show aG,W]
def x8(fd:cT):cT:=λρ ω=>(fd ρ ω).bind λo ω1=>(RS.YD ω1 (iG ω1 o)).bind λp ω1=>.ok (.rf ω1.length) (ω1++[.lst (p.2.map (·.2))])
def EX:∀{ws:G (cB×V)} {b:G (cB×SV)},vI O K H Y ws b->ZV O K H Y (ws.map (·.2)) (b.map (·.2)):=by
 intro _ _ a
 induction a with
 |nil=>show .nil
 | @cons _ _ _ _ h t e=>show .cons h.2 (e)
def FW(hd:cg K E J fd):cg K E (D1 HL (ei (EW K "dict" OL J) iL)) (x8 fd):=by intro B T H Y ω ρ Q s m w;show hd B T H Y ω ρ _ s m (w.bind.imp λo X ω1 S e1 h f u t=>?_);let((i,N),q,f):=WS.YD f;let(C,a,ws,L,rfl,g,A):=mE h t q;show#[.inr (.inr (.inl #[W,.inl #[ws,g]])),a,ws,W,W,g,λp y=>?_];let b:Zi S (bf S p (Vq p a)):=bO y _;let n:=h.grow b;let j:=WS.from (Zm.same b) f;show#[p,a,ws,W,aI,b _ _ g,λl z=>?_];show m9 n z j λe=>#[_,aI,EX (Paired.aa3 A λ_ _ r=>#[r.1,(r.2.ZM (Zm.same b)).ZM e])]
def Aj:cB->z Int
 |.inl i=>M i
 |.inr _=>Ld
def sO(fd:cT):cT:=λρ ω=>(fd ρ ω).bind λo ω1=>(RS.YD ω1 (iG ω1 o)).bind λp ω1=>(RS.YD ω1 (au Aj (p.2.map (·.1)))).bind λa ω1=>if a.length<64 then .ok (.rf ω1.length) (ω1++[.lst ((kB a).map λi=>SV.fz (.int i))])else .bad
theorem sr:∀{b:G cB} {ns:G Int},au Aj b=M ns->b=ns.map Sum.inl
 |[],_,e=>by ext e;rfl
 |k::r,ns,e=>by
  unfold au at e;cases k with
  |inr x=>ext e
  |inl i=>
   dsimp only[Aj]at e;cases q:au Aj r with
   |none=>rw[q]at e;ext e
   |some a=>rw[q]at e;ext e;rw[X5,<-sr q]
def Fu:∀{ws:G (cB×V)} {b:G (cB×SV)},vI O K H Y ws b->ws.map (·.1)=b.map (·.1):=by
 intro _ _ a
 induction a with
 |nil=>show W
 | @cons _ _ _ _ h t e=>rw[X5,X5,h.1,e]
theorem Bf(O:bK)(K:lD)(H:Hp)(Y:G I):∀ns:G Int,ZV O K H Y (ns.map V.int) (ns.map λi=>SV.fz (.int i))
 |[]=>.nil
 |n::r=>.cons (.int n) (Bf O K H Y r)
def Hs(hd:cg K E J fd):cg K E (D1 zz (ei J iL)) (sO fd):=by
 intro B T H Y ω ρ Q s h w;show hd B T H Y ω ρ _ s h (w.bind.imp λo X ω1 S e1 g b u n=>?_);let((i,N),m,b):=WS.YD b;let(A,a,ws,L,rfl,y,t):=mE g n m;let(f,j,b):=WS.YD b;by_cases hn:f.length<64
 .rw[ax hn]at b;show#[a,ws,f,W,y,by rw[Fu t];show sr j,hn,λl C r q p=>?_];let z:=lj (q.trans (eN f).symm) p (d5 f);subst z;show m9 g r b λe=>#[_,aI,Bf _ _ _ _ _]
 .rw[aE hn]at b;show b.elim
def sT:D->z (cB×SV)
 |.tuple [.int i,d]=>M (.inl i,.fz d)
 |.tuple [.str x,d]=>M (.inr x,.fz d)
 |_=>Ld
def v4:SV->z (G (cB×SV))
 |.fz (.tuple ds)=>au sT ds
 |_=>Ld
def C9(e:v4 x=M o):∃ds,x=.fz (.tuple ds)/\au sT ds=M o:=by
 unfold v4 at e;split at e
 .show#[_,W,e]
 .ext e
def mM(c a:G (cB×SV)):G (cB×SV):=a.foldl (λb e=>jU b e.1 e.2) c
def uJ(b:cT):cT:=λρ ω=>(b ρ ω).bind λx ω1=>(RS.YD ω1 (v4 x)).bind λa ω1=>.ok (.rf ω1.length) (ω1++[.dct (mM [] a)])
theorem xG:∀{k:G V} {ds:G D} {j:G (cB×SV)},L3.Zc O K H k ds->au sT ds=M j->∃g,ac6 K H k g/\vI O K H Y g j
 |_,_,_,.nil,e=>by ext e;show#[[],.nil,.nil]
 |_,_,_,.cons (d:=d) (ds:=ds) h t,e=>by
  unfold au at e;cases q:sT d with
  |none=>rw[q]at e;ext e
  |some p=>
   rw[q]at e;dsimp only at e;cases i:au sT ds with
   |none=>rw[i]at e;ext e
   |some j=>
    rw[i]at e;ext e;let(g,k1,k2):=xG t i;unfold sT at q;split at q
    .ext q
     cases h with
     |tup h f=>cases f with
      |cons a b=>cases b with
       |cons b c=>ext c;ext a;show#[(.inl _,_)::g,.cons h.1 k1,.cons #[W,b] k2]
    .ext q
     cases h with
     |tup h f=>cases f with
      |cons a b=>cases b with
       |cons b c=>ext c;ext a;show#[(.inr _,_)::g,.cons h.1 k1,.cons #[W,b] k2]
    .ext q
theorem B1:∀{e:G (cB×V)} {f:G (cB×SV)} {ws:G (cB×V)} {c:G (cB×SV)},vI O K H Y e f->vI O K H Y ws c->vI O K H Y (pB ws e) (mM c f)
 |_,_,_,_,.nil,h=>h
 |(a,u)::e,(b,y)::f,_,_,.cons r t,h=>by let(i,g):=r;ext i;show vI O K H Y (pB (jg _ a u) e) (mM (jU _ a y) f);show B1 t (BB g h)
def GC(l:cg K E o C):cg K E (D1 (z8 K) (ei o iL)) (uJ C):=by
 intro B T H Y ω ρ Q s f w;show l B T H Y ω ρ _ s f (w.bind.imp λx X ω1 S e1 g b u i=>?_);let(p,q,a):=WS.YD b;let(ds,rfl,q):=C9 q;let a:=a;cases i with
 |tup h j=>let(n,k1,k2):=xG j q;show#[_,_,n,W,h.1,k1,λd m=>m9 g m a λe=>#[_,aI,B1 (Paired.aa3 k2 λ_ _ r=>#[r.1,r.2.ZM e]) .nil]]
end
end L10
namespace PySem
open PyProof.Rows
def lQ:z Int->Int->z Int
 |none,x=>M x
 |some m,x=>M (if x>m then x else m)
def Ue:z (Int×Tok)->Array U
 |none=> #v[]
 |some (m,t)=> #v[.int m t,.int m t]
def Pg(d:U):z (Int×Tok)->U
 |none=>d
 |some (m,t)=>.int m t
namespace F
def args_maxd(a b:U):checkBuiltinCall "max" #[[a],[("default",b)]]=pure ⟨⟩:=by kernel_rfl
end F
section
variable{prog:Ya}{w:Yq}{A:Ym}{E:Xx->XI->Prop}{R:ada->XI->Prop}{I l S:XH}{vs:bg Xx}{d:Xx}
def M4(hh:A.handled=Ld)(D:l≠I)(r:S≠I)(Q:S≠l){s:XI}:
  ∀{B:bg Xx} {ns:bg Int},IntsAre B ns->∀(i:Nat) (h:Heap) (N:Nat) (b:b3 (Int×Tok)) (c:Nat),vs=vs.take i++B->i<=vs.length->h.IsListIter I l i->h.IsList l vs.toArray->h.get? S=cL {cls:=.type "list",dict:=Ld,data:=.seq (Ue b) c,slots:= #v[]}->
  (∀x N V,V.map (·.1)=ns.foldl lQ (b.map (·.1))->(∀a o,a≠I->a≠S->h.get? a=cL o->x.get? a=cL o)->R (.ok (.ret (Pg d V))) {s with heap:=x,toks:=N})->
  codeAny (model prog w) A (.builtin "max.loop" #[[.ref I,.none,.ref S],[("default",d)]]) R {s with heap:=h,toks:=N}:=by
 let W:=Walks.list (prog:=prog) (w:=w) (A:=A.in1) hh I l D vs.toArray;intro B ns hi
 induction hi with
 |nil=>
  intro i h N b c u hi it Z T M;let e:i=vs.toArray.size:=by rw[Yl]at u;let:=ec abG u;rw[YJ]at this;rw[X4];ext
  show aah F.entry_max_loop ?_;rw[Ym.under_plainId F.plain_max_loop _];show CL (Y7 T rfl ?_);show CL (ace (W.done _ _ _ (e▸#[it,Z]) λx g y=>?_));let f:=y S _ (by simpa using r) T;cases b with
  |none=>show CL (aba (XN ?_));show M x g Ld rfl λa o j z e=>y a o (by simpa using j) e
  |some p=>let(m,t):=p;show CL (adK f rfl (CL (Z3 (XN ?_))) (hz:=by show 2<=XY;decide));show M _ g (cL (m,t)) rfl λa o j z e=>(cn _ _ (dN z)).trans (y a o (by simpa using j) e)
 | @cons n t alq aji hr ih=>
  intro i h N b c u hi it Z T M;let G:i<vs.toArray.size:=by let:=ec abG u;rw[XJ,YJ,XZ]at this;rw[X4];ext
  let O:vs[i]?=cL (.int n t):=by rw[u,Yn (by rw[YJ];ext),YJ,Nat.min_eq_left hi,aef];rfl
  let C:vs=vs.take (i+1)++alq:=by rw[Y5,O];rw[Yb];show u
  let H:i+1<=vs.length:=by rw[X4]at G;show G
  show aah F.entry_max_loop ?_;rw[Ym.under_plainId F.plain_max_loop _];show CL (Y7 T rfl ?_);show CL (ace (W.item i _ _ _ G #[it,Z] λv x g hP L y=>?_));let ev:v=.int n t:=by let U:=hP;rw[List.getElem?_toArray,O]at U;show(X1 U).symm
  subst ev;let f:=y S _ (by simpa using r) T;let K:(toString "max"++toString ".loop":String)= "max.loop":=by decide
  cases b with
  |none=>
   show wpAny _ A.in1 (updateSeq S (λ_=> #v[Xx.int n t,Xx.int n t])>>=_) _ _ _;show CL (adK f rfl ?_);rw[K];show XN #[aad F.plain_max_loop _,ih (i+1) _ g (cL (n,t)) _ C H (L.1.at λo e=>?_) (L.2.at λo e=>?_) (cv _ f rfl) λz q X e2 k2=>M z q X e2 λa o j J e=>k2 a o j J ((cn _ _ (dN J)).trans (y a o (by simpa using j) e))]
   .show(cn _ _ r).trans e
   .show(cn _ _ Q).trans e
  |some p=>
   let(m,t0):=p;show wpAny _ A.in1 (tryCatch (holding [Xx.int n t,Xx.int n t] (richCompare .Gt (Xx.int n t) (Xx.int m t0)>>=_)) _>>=_) _ _ _;let amz:=CmpOf.ints_gt (prog:=prog) (w:=w) (A:=A.in1) (P:=λ(k:Nat) v=>(k=0/\v=Xx.int n t)\/(k=1/\v=Xx.int m t0)) (λk=>if k=0 then n else m) λk v u=>by
    rcases u with⟨rfl,rfl⟩|⟨rfl,rfl⟩
    .show#[t,rfl]
    .show#[t0,rfl]
   show CL (ace (Y6 (CL (amz 0 1 _ _ _ _ _ (.inl #[rfl,rfl]) (.inr #[rfl,rfl]) ?_))));show CL (Y6 (Zx ?_));show CL (Z3 (XN ?_));show wpAny _ A.in1 (if decide (n>m)=XA then _ else _) _ _ _;by_cases Y:n>m
   .rw[ax (a4 Y)]
    show CL (adK f rfl (CL (Z3 ?_)) (hz:=by show 2<=XY;decide));rw[K];show XN #[aad F.plain_max_loop _,ih (i+1) _ g (cL (n,t)) _ C H (L.1.at λo e=>?_) (L.2.at λo e=>?_) (cv _ f rfl) λz q X e2 k2=>M z q X ?_ λa o j J e=>k2 a o j J ((cn _ _ (dN J)).trans (y a o (by simpa using j) e))]
    .show(cn _ _ r).trans e
    .show(cn _ _ Q).trans e
    .rw[e2];show _=aji.foldl lQ (cL (if n>m then n else m));rw[ax Y];rfl
   .rw[aE (by rw[a5 Y];show X9)];show CL (Z3 ?_);rw[K];show XN #[aad F.plain_max_loop _,ih (i+1) _ g (cL (m,t0)) c C H L.1 L.2 f λz q X e2 k2=>M z q X ?_ λa o j J e=>k2 a o j J (y a o (by simpa using j) e)];rw[e2];show _=aji.foldl lQ (cL (if n>m then n else m));rw[aE Y];rfl
def En(n:A.handled=Ld)(h:s.heap.IsList l vs.toArray)(r:IntsAre vs ns)
  (q:∀c k b,b.map (·.1)=ns.foldl lQ Ld->(∀a o,s.heap.get? a=M o->c.get? a=M o)->Q (Pg d b) {s with heap:=c,toks:=k}):
  wpAny (model prog w) A (call (.builtin "max") [.ref l] [("default",d)]) Q E s:=by
 let g:l<s.heap.objs.size:=by let(_,e,_):=h;show cj e
 let i:(toString "max"++toString ".loop":String)= "max.loop":=by decide
 show abK (aaI F.plain_max F.entry_max (adx (F.args_maxd _ _) ?_));show CL (adx (show Yw.Builtins.bindParams "max" ["key","default"] 0 #[[],[("default",d)]]=pure [Ld,M d]from rfl) ?_);show CL (XN ?_);show CL (aaR h ?_);show CL (YO ?_);rw[i];let f:(s.heap.push {cls:=.type "list_iterator",data:=.fields #v[.ref l,.int 0 0]}).objs.size=s.heap.objs.size+1:=cN _ _;show XN #[aad F.plain_max_loop _,M4 n (Ye g) (by rw[f];show Nat.succ_ne_self _) (by rw[f];show YU (aa5 g)) r 0 _ s.toks Ld 0 W (YC _) #[_,b4 _ (ck _ W),W,W] ((h.push _).push _) (ck _ W) λc k b p m=>?_];show q c k b p λa o e=>?_;let j:=cj e;show m a o (Ye j) (by rw[f];show Ye (aa5 j)) (b4 _ (b4 _ e))
end
end PySem
namespace L10
open PySem PySem.Spec PyProof.Rows L2 L3
def O8(K:lD)(i:Int):G V->Hp->VK->Prop:=λxs H Q=>∃(p:I) (a:G Int),xs=[.ref p]/\SqL K H p (a.map V.int)/\Q (.int ((a.foldl lQ R).getD i)) H
def Nx(C:X.calm=P)(B:Gl X "max")(hm:X.mg "max"=R)(c:PA X [l] ta)(g:Pq l=XF:=by rfl):
  PE X (.Call (.Name "max" p) [l] [#[cL "default",.Constant (.int i) j p1,p2]] pos) (D1 (O8 X.K i) ta):=by
 intro e s n H Q I h;show aak (pG I B hm FC (callWith_kw (bZ (c pos e s n H _ I h) λG o #[T,F,f,v,w]=>?_) (by rw[uZ _ _ _ g];rfl) (by rw[uZ _ _ _ g];rfl) W W));let(a,y,rfl,z,q):=w;let(u,rfl,r):=jV v;ext r;let(N,S,pl,L):=f.list z;show ajs (ag0 (ajt ?_));let O:=f.tok (o.toks+1);show En (f.ok.hd C) pl.isList (jx S) λM J b E A=>?_;show#[.int ((y.foldl lQ R).getD i),F,f.kept A,?_,q];rw[<-E];cases b with
 |none=>show#[_,W]
 |some p=>let(m,t):=p;show#[t,W]
def Br(i:Int):G D->z RV
 |[.list ds]=>(ka ds).map λa=>.fz (.int ((a.foldl lQ R).getD i))
 |_=>R
def LQ{K:lD}:C5 K (O8 K i) (Br i):=by
 intro O H xs ds p Q n f e q;unfold Br at e;split at e
 .rename_i es
  cases f with
  |cons l j=>
   ext j;cases m:ka es with
   |none=>rw[m]at e;ext e
   |some b=>rw[m]at e;ext e;let(a,o,rfl,h,g):=A3 l;obtain rfl:=kT g m;show#[a,b,W,h.sq,q.at (.int _)]
 .ext e
end L10
namespace L10
open PySem L2 L3
section
variable{B O O':bK}{K:lD}{E:XK}{H H' H1 H2:Hp}{X Y U α2:bg XH}{ω Z ω1 ω2:aN}{σ:L2.St}{ρ:aR}{v:V}
def gZ{l r:G A}(h:(l++r)[i]?=M y):l[i]?=M y\/∃j,i=l.length+j/\r[j]?=M y:=by
 by_cases hi:i<l.length
 .rw[XT hi]at h;show .inl h
 .rw[Yn ()]at h;show .inr #[i - l.length,by ext,h]
def Mm{l r:G A}{i:Nat}(h:l[i]?=M y):(l++r)[i]?=M y:=by rw[XT (XB.mp h).1];show h
def ED{l r:G A}(h:r[i]?=M y):(l++r)[l.length+i]?=M y:=by rw[Yn (),abi];show h
def Gb(g:X.length=ω.length)(h:Lv (X++o) (ω++cs) b):Lv X ω b\/b∈o:=by
 let(i,d,f,e,a):=h;rcases gZ f with g1|⟨j,e1,g1⟩
 .rcases gZ e with g2|⟨k,e2,g2⟩
  .show .inl #[i,d,g1,g2,a]
  .let:=(XB.mp g1).1;ext
 .show .inr (X3 g1)
theorem Zm.adh(s:Yp B K H X ω)(e:Zi H H')(f:∀p∈ps,H p=R):Zm X ω H (X++ps) (ω++cs) H':=
 #[λi a h=>Mm h,λb u q _=>e b u q,λb z=>(Gb s.len z).imp id λz=>f b z]
def Yp.adh(s:Yp B K H X ω)(e:Zi H H')(f:∀p∈ps,H p=R)(m:∀p∈ps,H' p≠R)(nd:∀(i j:Nat) (a:I),ps[i]?=M a->ps[j]?=M a->i=j)(t:ps.length=cs.length)
  (new:∀(i:Nat) (a:I) (c:Cell),ps[i]?=M a->cs[i]?=M c->COk (ow B (X++ps) (ω++cs)) K H' (X++ps) a c):Yp B K H' (X++ps) (ω++cs):=by
 let ev:Zm X ω H (X++ps) (ω++cs) H':=Zm.adh s e f;let n:∀b,H b≠R->H' b≠R:=λb h z=>h (e.free z);show#[by rw[XJ,XJ,s.len,t],λi j a g l=>?_,λa h=>n a (s.bn a h),λa h i q=>?_,λi a h=>?_,λi a d g l=>?_]
 .rcases gZ g with g1|⟨y,e1,g1⟩<;>rcases gZ l with g2|⟨u,e2,g2⟩
  .show s.nd i j a g1 g2
  .show a7 (f a (X3 g2)) (s.al i a g1)
  .show a7 (f a (X3 g1)) (s.al j a g2)
  .let:=nd y u a g1 g2;ext
 .rcases gZ q with q|⟨j,_,q⟩
  .show s.ba a h i q
  .show s.bn a h (f a (X3 q))
 .rcases gZ h with h|⟨j,_,h⟩
  .show n a (s.al i a h)
  .show m a (X3 h)
 .let r:=s.len
  rcases gZ l with g2|⟨j,e2,g2⟩
  .rcases gZ g with g1|⟨k,e1,g1⟩
   .show(s.cel i a d g1 g2).ev ev.ev ev.pre λo q=>e _ _ q
   .let:=(XB.mp g2).1;ext
  .rcases gZ g with g1|⟨k,e1,g1⟩
   .let:=(XB.mp g1).1;ext
   .let:k=j:=by ext
    subst this;show new k a d g1 g2
def Eu(Z:aN):Nat->G AV->z (G AV×G (G D)×G Nat)
 |_,[]=>M ([],[],[])
 |n,.fz d::r=>match Eu Z n r with
  |some (l,cs,a)=>M (.fz d::l,cs,a)
  |none=>R
 |n,.rf i::r=>match sh Z (.rf i)with
  |some (.list ds)=>(match Eu Z (n+1) r with
   |some (l,cs,a)=>M (.rf n::l,ds::cs,i::a)
   |none=>R)
  |_=>R
def Vc(ds:G D):Cell:=.lst (ds.map .fz)
def qU(x:SV)(Z ω:aN):RS SV:=match x with
 |.fz d=>.ok (.fz d) ω
 |.rf i=>(match sh Z (.rf i)with
  |some (.list ds)=>lW ω (.ow ds)
  |_=>.bad)
 |.tp l=>(match Eu Z ω.length l with
  |some (a,cs,b)=>if b.Nodup then .ok (.tp a) (ω++cs.map Vc)else .bad
  |none=>.bad)
def ri(h:sh ω (.rf i)=M (.list ds)):∃xs,ω[i]?=M (.lst xs)/\au xf xs=M ds:=by
 unfold sh at h;dsimp only at h;cases q:ω[i]? with
 |none=>rw[q]at h;ext h
 |some c=>
  rw[q]at h;cases c with
  |lst xs=>
   dsimp only at h;cases a:au xf xs with
   |none=>rw[a]at h;ext h
   |some es=>rw[a]at h;ext h;show#[xs,W,a]
  |_=>ext h
def iC(s:Yp B K H X ω)(h:sh ω (.rf i)=M (.list ds)):∃a c,X[i]?=M a/\H a=M (.lst c)/\L3.Zc (ow B X ω) K H c ds/\ow B X ω a:=by let(xs,b,f):=ri h;let(a,l):=s.at b;let(c,j,g):=s.cel i a _ l b;show#[a,c,l,j,jF (cw (R:=VOk (ow B X ω) K H X) (λv x y r e=>Ae r e) g f),.inr #[i,_,l,b,by intro z;ext z]]
def UV{o:bK}(s:Yp o K H' Y Z):∀{n:Nat} {l u:bg AV} {cs:bg (bg D)} {g:bg Nat} {xs:bg V},Eu Z n l=cL (u,cs,g)->Paired (AOk (ow o Y Z) K H' Y) xs l->
  ∃c:bg XH,c.length=g.length/\cs.length=g.length/\(∀(k j:Nat),g[k]?=cL j->∃a ds Q,c[k]?=cL a/\cs[k]?=cL ds/\Y[j]?=cL a/\H' a=cL (.lst Q)/\L3.Zc (ow o Y Z) K H' Q ds/\ow o Y Z a)/\
   ∀(b:bg XH),b.length=n->Paired (AOk (ow o Y Z) K H' (b++c)) xs u:=by
 intro n l u cs g xs e p
 induction p generalizing n u cs g with
 |nil=>ext e;show#[[],W,W,λk j h=>by simp at h,λb _=>.nil]
 | @cons _ x _ r h t T=>
  cases x with
  |fz d=>
   unfold Eu at e;cases q:Eu Z n r with
   |none=>rw[q]at e;ext e
   |some p=>let(I,F,w):=p;rw[q]at e;ext e;let(c,C,A,z,y):=T q;show#[c,C,A,z,λb f=>.cons h (y b f)]
  |rf i=>
   unfold Eu at e;cases S:sh Z (.rf i)with
   |none=>rw[S]at e;ext e
   |some d=>
    rw[S]at e;cases d with
    |list ds=>
     dsimp only at e;cases q:Eu Z (n+1) r with
     |none=>rw[q]at e;ext e
     |some p=>
      let(I,F,w):=p;rw[q]at e;ext e;let(c,C,A,z,y):=T q;let(a,Q,ha,J,M,L):=iC s S;show#[a::c,by rw[XZ,XZ,C],by rw[XZ,XZ,A],λk j G=>?_,λb f=>?_]
      .cases k with
       |zero=>ext G;show#[a,ds,Q,W,W,ha,J,M,L]
       |succ k=>show z k j (by simpa using G)
      .let e2:b++a::c=(b++[a])++c:=by simp
       let(N,m,rfl):=h;rw[ha]at m;ext m;show .cons #[a,by rw[<-f];show ED (l:=b) (r:=a::c) (i:=0) W,W] ?_;rw[e2];show y (b++[a]) (by rw[XJ,f];rfl)
    |_=>ext e
def El(s:Yp B K H X ω)(w:WS K E B H X ω (PQ B K Q) (qU x Z ω))(D:Zm [] [] H Y Z H')(G:Yp (ow B X ω) K H' Y Z)(J:VOk (ow (ow B X ω) Y Z) K H' Y v x):Q v H':=by
 let C:=λb o h=>D.kp b o h λ#[i,c,q,_]=>by simp at q
 let sub:∀b,ow B X ω b->ow (ow B X ω) Y Z b:=λb z=>.inl z;let fr:=λi a c R h2 h3=>(D.lv a #[i,c,R,h2,h3]).elim (λ#[i,c,q,_]=>by simp at q) id;cases x with
 |fz d=>show w X H' (Zm.same C) (s.grow C) v (DV.ev (Ev.sub sub) J)
 |rf i=>
  unfold qU at w;dsimp only at w;cases qs:sh Z (.rf i)with
  |none=>rw[qs]at w;show w.elim
  |some d=>
   rw[qs]at w;cases d with
   |list ds=>let(a,vs,ha,R,hd,M):=iC G qs;let(xs,e,_):=ri qs;let(a',F,rfl):=J;rw[ha]at F;ext F;show rC s w C (fr i a _ ha e (by nofun)) R hd sub M
   |_=>show w.elim
 |tp l=>
  unfold qU at w;dsimp only at w;cases qg:Eu Z ω.length l with
  |none=>rw[qg]at w;show w.elim
  |some p=>
   let(l',cs,I):=p;rw[qg]at w;dsimp only at w;by_cases hn:I.Nodup
   .rw[ax hn]at w
    let(a,xs,rfl,ht,hl):=J;let(ps,g1,g2,g3,g4):=UV G qg hl;let A:∀(k:Nat) (b:XH),ps[k]?=cL b->∃j ds vs,I[k]?=cL j/\cs[k]?=cL ds/\Y[j]?=cL b/\H' b=cL (.lst vs)/\L3.Zc (ow (ow B X ω) Y Z) K H' vs ds/\ow (ow B X ω) Y Z b:=λk b hb=>by
     let f:k<I.length:=by rw[<-g1];show(XB.mp hb).1
     let(b',ds,vs,e,y,u,m,t,g):=g3 k _ (XM f);rw[hb]at e;ext e;show#[_,ds,vs,XM f,y,u,m,t,g]
    let nB:∀(j:Nat) (b:XH),Y[j]?=cL b->ow (ow B X ω) Y Z b->H b=Ld:=λj b N M=>by
     rcases M with z|⟨i,c,z1,z2,z3⟩
     .show a7 N (G.ba b z j)
     .show fr i b c z1 z2 z3
    let fp:∀p∈ps,H p=Ld:=λp L=>by let(k,f):=ZN.mp L;let(j,ds,vs,e,y,u,m,t,g):=A k p f;show nB j p u g
    let n:∀b,ow B (X++ps) (ω++cs.map Vc) b->ow (ow B X ω) Y Z b:=λb z=>by
     rcases z with z|z
     .show .inl (.inl z)
     .rcases Gb s.len z with z|z
      .show .inl (.inr z)
      .let(k,f):=ZN.mp z;let(j,ds,vs,e,y,u,m,t,g):=A k b f;show g
    let ev:=Zm.adh (cs:=cs.map Vc) s C fp;show w (X++ps) H' ev (s.adh C fp (λp L=>?_) (λi j b hi N=>?_) (by rw[Xz,g1,g2]) λi b c hi T=>?_) (.ref a) #[a,xs,W,ht.ev (Ev.sub n),Paired.aa3 (g4 X s.len) λ_ _ r=>r.ev (Ev.sub n) λ_ _ h=>h]
    .let(k,f):=ZN.mp L;let(j,ds,vs,e,y,u,m,t,g):=A k p f;rw[m];simp
    .let(j1,_,_,S,_,p3,_):=A i b hi;let(j2,_,_,r1,_,r3,_):=A j b N;let:=G.nd j1 j2 b p3 r3;subst this;let P:=(XB.mp S).1;show(List.getElem?_inj P hn).mp (S.trans r1.symm)
    .let(j,ds,vs,e,y,u,m,t,g):=A i b hi;rw[XS,y]at T;ext T;show#[vs,m,jC _ _ (t.ev (Ev.sub n))]
   .rw[aE hn]at w;show w.elim
def tQ(F:fq)(n:Nat)(xs:G SV)(ω:aN):RS SV:=if xs.length=n then(match au xf xs with
 |some ds=>(match F (ds.map .fz) []with
  |.ok x Z=>qU x Z ω
  |.er x _=>.er x ω
  |.bad=>.bad)
 |none=>.bad)else .bad
def kK(F:fq)(n:Nat)(a:t6):cT:=λρ ω=>(a ρ ω).bind λxs ω1=>gP (tQ F n xs ω1)
theorem AM(h:∀a,B a->H a≠R):Yp B K H [] []:=#[W,λi j a h=>by simp at h,h,λa h i=>by simp,λi a h=>by simp at h,λi a c h=>by simp at h]
theorem Bt:∀{xs:G SV} {ds:G D},au xf xs=M ds->xs=ds.map .fz
 |[],_,e=>by ext e;rfl
 |x::r,ds,e=>by
  unfold au at e;cases x with
  |fz d=>
   dsimp only[xf]at e;cases q:au xf r with
   |none=>rw[q]at e;ext e
   |some es=>rw[q]at e;ext e;rw[X5,<-Bt q]
  |rf i=>ext e
  |tp l=>ext e
def Ht(s:Yp B K H X ω)(e:ZV (ow B X ω) K H X C xs)(w:WS K E B H X ω (PQ B K Q) (tQ F n xs ω)):kj K n F C H Q E:=by
 unfold tQ at w;by_cases hn:xs.length=n
 .rw[ax hn]at w
  show#[e.length.trans hn,?_];cases q:au xf xs with
  |none=>rw[q]at w;show w.elim
  |some ds=>
   rw[q]at w;dsimp only at w;let l:=Bt q;show#[ow B X ω,[],[],ds.map .fz,AM s.owd,?_,?_]
   .rw[l]at e;show jC _ _ ((HB e).ev (Ev.sub λb z=>z.elim id λ#[i,c,q,_]=>by simp at q))
   .cases m:F (ds.map .fz) []with
    |bad=>rw[m]at w;show w.elim
    |ok x Z=>rw[m]at w;show λY H' f j v a=>El s w f j a
    |er x Z=>
     rw[m]at w;intro c p Y H' f j k;let g:=λb o h=>f.kp b o h λ#[i,c,q,_]=>by simp at q
     show w c p X H' (Zm.same g) (s.grow g) (XOk.sub (λb z=>.inl z) k)
 .rw[aE hn]at w;show w.elim
def Dr(c:ug K E o C):cg K E (jW (kj K n F) [] E0 o) (kK F n C):=by intro B σ H X ω ρ Q s b w;show c B σ H X ω ρ _ s b (w.bind.imp λxs U ω1 H1 e1 e a g f=>?_);rw[Yl];show Ht e f (WS.e0 a)
def TK(F:fq):FN:=λds=>match F (ds.map .fz) []with
 |.ok (.fz d) _=>.ok (.fz d)
 |.ok (.rf i) ω=>(match sh ω (.rf i)with
  |some (.list ds)=>.ok (.ow ds)
  |_=>.bad)
 |.ok (.tp _) _=>.bad
 |.er x _=>.er x
 |.bad=>.bad
def RT(h:Av K n (TK F) vs H Q E):kj K n F vs H Q E:=by
 let(u,B,ds,A,G,w):=h;show#[u,B,[],[],ds.map .fz,AM A,jC _ _ (G.ev (Ev.sub λb z=>z.elim id λ#[i,c,q,_]=>by simp at q)),?_];unfold TK at w;cases L:F (ds.map .fz) []with
 |bad=>rw[L]at w;show w.elim
 |er x Z=>rw[L]at w;intro c S Y H' f j k;show w c S H' (λb o h=>f.kp b o h λ#[i,c,q,_]=>by simp at q) (XOk.sub (λb z=>.inl z) k)
 |ok x Z=>
  rw[L]at w;intro Y H' f j v m;let g:=λb o h=>f.kp b o h λ#[i,c,q,_]=>by simp at q
  cases x with
  |fz d=>show w v H' g (DV.ev (Ev.sub λb z=>.inl z) m)
  |tp l=>show w.elim
  |rf i=>
   dsimp only at w;cases J:sh Z (.rf i)with
   |none=>rw[J]at w;show w.elim
   |some d=>
    rw[J]at w;cases d with
    |list es=>let(a,p,N,C,y,t):=iC j J;let(xs,r,_):=ri J;let(I,e,rfl):=m;rw[N]at e;ext e;show w a p H' g ((f.lv a #[i,_,N,r,by intro z;ext z]).elim (λ#[i,c,q,_]=>by simp at q) id) C (y.ev (Ev.sub λb z=>z.elim (λz=>.inl z) λz=>by rw[z];show t))
    |_=>show w.elim
end
def oz(P:Ya)(w:Yq)(K:lD)(d:Str->z U)(base:Heap)(a:wB)(k:Nat)(C m:Str)(c:G Str)(sp:Sp):Prop:=
 ∃b f fd,Yh K X8 C=M (M (.ref b))/\Cls K b/\Meth K b m f/\FnOk P w K d base a k f fd c sp/\Binds K fd c []
def yQ(P:Ya)(w:Yq)(K:lD)(d:Str->z U)(base:Heap)(a:wB)(k:Nat)(C:Str)(c:G Str)(sp:Sp):Prop:=
 ∃b f fd,Yh K X8 C=M (M (.ref b))/\d C=M (.ref b)/\Mk K b f/\FnOk P w K d base a k f fd c sp/\Binds K fd c []
def oP(K:lD)(C m:Str)(sp:Sp)(E:XK)(c:TE)(t:TA):TE:=λa H Q=>∃b,Yh K X8 C=M (M (.ref b))/\uv b m sp [] E c t a H Q
def zY(K:lD)(C:Str)(sp:Sp)(E:XK)(t:TA):TE:=λa H Q=>∃b,Yh K X8 C=M (M (.ref b))/\yJ b sp [] E t a H Q
section
variable{X:Cx}{Y:wB}{E:XK}{k j:Nat}{C m:Str}{A:bg Str}{S:Sp}{o e:Yc}{es:bg Yc}{U:TE}{t:TA}{Z T p:Pos}
def OP(M:oz X.prog X.w X.K X.mg X.base Y k C m A S)(n:dL Y X E)(r:Zp j X.A)(u:PE X o U)(c:PA X (e::es) t)(g:k<=j:=by decide)
  (cW:X6 (e::es) X.env=(XF,eval e X.env)::X6 es X.env:=by rfl) (b:(backTo T (X6 es X.env)).any (·.1)=XF:=by rfl)
  (q:eval (.Call (.Attribute o m Z) (e::es) [] T) X.env=(do
   let ov<-eval o X.env
   standAt Z.atName
   let(f,first)<-holding [ov] (getMethod ov m pl)
   callWith T f first (backTo T (X6 (e::es) X.env)) (backToKw T (keywordEach [] X.env))):=by rfl):PE X (.Call (.Attribute o m Z) (e::es) [] T) (oP X.K C m S E U t):=by
 let(L,f,G,F,B,z,y,v):=M;intro a s l H Q I #[J,i,h];rw[F]at i;ext i;show LN u B z y (r.mono g) v .nil n c cW b q a s l H Q I h
def Q6(M:oz X.prog X.w X.K X.mg X.base Y k C m A S)(l:dL Y X E)(q:Zp j X.A)(r:PE X o U)(b:k<=j:=by decide)
  (n:eval (.Call (.Attribute o m Z) [] [] T) X.env=(do
   let ov<-eval o X.env
   standAt Z.atName
   let(f,first)<-holding [ov] (getMethod ov m pl)
   callWith T f first (backTo T (X6 [] X.env)) (backToKw T (keywordEach [] X.env))):=by rfl):PE X (.Call (.Attribute o m Z) [] [] T) (oP X.K C m S E U iL):=by
 let(J,f,F,B,z,y,v,u):=M;intro a s i H Q I #[G,g,h];rw[B]at g;ext g;show Gc r z y v (q.mono b) u .nil l n a s i H Q I h
def Pk(M:yQ X.prog X.w X.K X.mg X.base Y k C A S)(q:dL Y X E)(r:Zp j X.A)(c:PA X (e::es) t)(g:k+1<=j:=by decide)(u:Gl X C:=by rfl)
  (i:(C==("__debug__":Str))=XF:=by decide) (v:X6 (e::es) X.env=(XF,eval e X.env)::X6 es X.env:=by rfl) (b:(backTo T (X6 es X.env)).any (·.1)=XF:=by rfl):
  PE X (.Call (.Name C p) (e::es) [] T) (zY X.K C S E t):=by
 let(N,f,J,G,F,B,z,y):=M;intro a s n H Q I #[L,l,h];rw[G]at l;ext l;show Kp B z (r.mono g) u F y .nil q c i v b a s n H Q I h
end
section
variable{K:lD}{E:XK}{C m:Str}{F:fq}{n:Nat}{to:TE}{Z:TA}{X:cT}{Y:t6}{L:bg Str}
def GB(a:lP K C L)(f:cg K E to X)(c:ug K E Z Y):cg K E (oP K C m (kj K n F) E to Z) (jY C m F n X Y):=by let(g,a,_):=a;show λB b H α h i Q s e w=>#[g,a,Io a f c B b H α h i Q s e w]
def Ba(a:lP K C L)(f:cg K E to X)(c:ug K E Z Y):cg K E (oP K C m (kj K n F) E0 to Z) (aM C m F n X Y):=by let(g,a,_):=a;show λB b H α h i Q s e w=>#[g,a,D6 a f c B b H α h i Q s e w]
def RD(a:lP K C L)(c:ug K E Z Y):cg K E (zY K C (kj K n F) E Z) (pk C F n Y):=by let(f,a,_):=a;show λB b H α g h Q s e w=>#[f,a,Mh a c B b H α g h Q s e w]
def Mo(a:lP K C L)(c:ug K E Z Y):cg K E (zY K C (kj K n F) E0 Z) (tf C F n Y):=by let(f,a,_):=a;show λB b H α g h Q s e w=>#[f,a,IM a c B b H α g h Q s e w]
end
section
variable{ρ ρ1 S:aR}{T X Z Y Q:aN}{x y z:SV}{i n:Nat}{d dx dy:D}{ds:bg D}{b:Bool}
def aL(h:ρ[i]?=M (M x)):aq i ρ T=.ok x T:=by ext aq;rw[h]
def ah(h:f (bp ρ)=.ok (.fz d,ρ')):ae f ρ T=.ok (.fz d) T:=by ext ae;rw[h]
def cG(h:f (bp ρ)=.ok (.ow ds,ρ')):ae f ρ T=.ok (.rf T.length) (T++[.lst (ds.map .fz)]):=by ext ae;rw[h];rfl
def bM(h:f (bp ρ)=.ok (b,o)):bS f ρ T=.ok b T:=by ext bS;rw[h]
def eB(h:f (bp ρ)=.ok (ds,o)):dR f ρ T=.ok ds T:=by ext dR;rw[h]
def cY(g:e ρ T=.ok (.rf i) X)(h:X[i]?=M (.obj C fs))(a:fs.lookup f=M x):aK C f e ρ T=.ok x X:=by ext aK;rw[g,ej];dsimp only;rw[h];dsimp only;rw[ax W,a];rfl
def cK(c:o ρ T=.ok x X)(e:fb ρ X=.ok y Z)(a:qB f x y Z=.ok z Y):jT f o fb ρ T=.ok z Y:=by ext jT;rw[c,ej,e,ej,a]
def bX(h:f dx dy=M (.fz d)):qB f (.fz dx) (.fz dy) T=.ok (.fz d) T:=by ext qB;show((RS.YD T (f dx dy)).bind λa X=>lW X a)=_;rw[h];rfl
def sF(e:sh T x=M dx)(a:sh T y=M dy)(h:f dx dy=M (.fz d)):qB f x y T=.ok (.fz d) T:=by ext qB;rw[e,a];show((RS.YD T (f dx dy)).bind λg X=>lW X g)=_;rw[h];rfl
def Rv(a:sh T x=R\/sh T y=R)(j:lS 6 T x=M dx)(g:lS 6 T y=M dy)(h:f dx dy=M (.fz d))(hd:zL d=P):qB f x y T=.ok (.fz d) T:=by
 let e:((RS.YD T (lS 6 T x)).bind λdx X=>(RS.YD X (lS 6 X y)).bind λdy Z=>(RS.YD Z (f dx dy)).bind λl Y=>mQ Y l)=.ok (.fz d) T:=by rw[j];show((RS.YD T (lS 6 T y)).bind λdy Z=>(RS.YD Z (f dx dy)).bind λl Y=>mQ Y l)=_;rw[g];show((RS.YD T (f dx dy)).bind λl Y=>mQ Y l)=_;rw[h];show(if zL d=P then RS.ok (SV.fz d) T else RS.bad)=_;rw[ax hd]
 ext qB;rcases a with a|a
 .rw[a];show e
 .rw[a];cases sh T x<;>show e
theorem nt:∀ds:G D,au xf (ds.map .fz)=M ds
 |[]=>rfl
 |d::r=>by rw[X5];ext au;rw[nt r];rfl
def cP(h:T[i]?=M (.lst (ds.map .fz))):sh T (.rf i)=M (.list ds):=by ext sh;dsimp only;rw[h];dsimp only;rw[nt];rfl
def aV(h:o ρ T=.ok (.fz (.bool b)) X):aZ o ρ T=.ok b X:=by ext aZ;rw[h];rfl
def ju(h:o ρ T=.ok P X)(k:fb ρ X=r):mv o fb ρ T=r:=by ext mv;rw[h,ej,ax W,k]
def ic(h:o ρ T=.ok XF X):mv o fb ρ T=.ok XF X:=by ext mv;rw[h,ej,aE X9]
def nr(h:o ρ T=.ok P X):zb o fb ρ T=.ok P X:=by ext zb;rw[h,ej,ax W]
def jv(h:o ρ T=.ok XF X)(k:fb ρ X=r):zb o fb ρ T=r:=by ext zb;rw[h,ej,aE X9,k]
def re(h:o ρ T=.ok b X):tX o ρ T=.ok (!b) X:=by ext tX;rw[h];rfl
def Dz(h:aZ o ρ T=.ok P X)(k:fb ρ X=r):zi o fb ρ T=r:=by ext zi;rw[h,ej,ax W,k]
def Ed(h:aZ o ρ T=.ok XF X):zi o fb ρ T=.ok (.fz (.bool XF)) X:=by ext zi;rw[h,ej,aE X9]
def Lu(h:c ρ T=.ok P X)(k:o ρ X=r):Pe c o fb ρ T=r:=by ext Pe;rw[h,ej,ax W,k]
def KY(h:c ρ T=.ok XF X)(k:fb ρ X=r):Pe c o fb ρ T=r:=by ext Pe;rw[h,ej,aE X9,k]
theorem aA:aw ρ T=.ok [] T:=W
def am(c:o ρ T=.ok x X)(a:fr ρ X=.ok xs Z):ai o fr ρ T=.ok (x::xs) Z:=by ext ai;rw[c,ej,a,ej]
def oA(c:o ρ T=.ok (ds.map .fz) X)(a:ds.length<=1000):j9 o ρ T=.ok (.fz (.tuple ds)) X:=by ext j9;rw[c,ej,Xz,ax a];ext Vr;rw[nt];rfl
def HI(c:o ρ T=.ok xs X)(a:xs.length<=1000)(f:au xf xs=R)(e:au Vk xs=M l):j9 o ρ T=.ok (.tp l) X:=by ext j9;rw[c,ej,ax a];ext Vr;rw[f];dsimp only;rw[e];rfl
def mf(c:o ρ T=.ok xs X)(a:au (sh X) xs=M ds)(h:f ds=M (.fz d)):ji f o ρ T=.ok (.fz d) X:=by ext ji;rw[c,ej];ext DH;rw[a];show((RS.YD X (f ds)).bind λe X=>lW X e)=_;rw[h];rfl
def AQ(e:o ρ T=.ok (ds.map .fz) X)(c:ds.length=n)(a:F ds=.ok (.fz d)):iZ F n o ρ T=.ok (.fz d) X:=by ext iZ;rw[e,ej];ext xz;rw[Xz,ax c,nt];dsimp only;rw[a];rfl
def vO(e:o ρ T=.ok (ds.map .fz) X)(c:ds.length=n)(a:F ds=.ok (.ow es)):iZ F n o ρ T=.ok (.rf X.length) (X++[.lst (es.map .fz)]):=by ext iZ;rw[e,ej];ext xz;rw[Xz,ax c,nt];dsimp only;rw[a];rfl
theorem yy:gP (RS.ok a T)=.ok a T:=W
def Cu(e:o ρ T=.ok (.rf i) X)(f:X[i]?=M (.obj C fs))(hm:fs.lookup m=R)(h:J ρ X=.ok xs Z)(c:(SV.rf i::xs).length=n)(g:F (.rf i::xs) Z=.ok x Y):aM C m F n o J ρ T=.ok x Y:=by
 let a:l9 X C m (.rf i)=P:=by ext l9;dsimp only;rw[f];dsimp only;rw[hm,a4 W];rfl
 ext aM;rw[e,ej,ax a,h,ej,ax c,g];rfl
def Rp(e:o ρ T=.ok xs X)(c:(SV.rf X.length::xs).length=n)(a:F (.rf X.length::xs) (X++[.obj C []])=.ok (.fz .none) Z):tf C F n o ρ T=.ok (.rf X.length) Z:=by ext tf;rw[e,ej];ext uY;rw[ax c,a,ej,ax (show Dx (.fz .none)=P from rfl)];rfl
def bB(c:o ρ T=.ok (.fz dx) X)(a:fb ρ X=.ok (.fz dy) Z)(h:aW dx dy=M (.fz d)):eD o fb ρ T=.ok (.fz d) Z:=by ext eD;rw[c,ej,a,ej];show bX h
def sR(a:fo ρ T=.ok (.rf i) X)(h:X[i]?=M (.lst xs))(f:fe ρ X=.ok x Z)(g:Z[i]?=M (.lst ys))(e:ys.length<1000000):jr fo fe ρ T=.ok (.fz .none) (Z.set i (.lst (ys++[x]))):=by
 let e1:fC X (.rf i)=M (i,xs):=by ext fC;dsimp only;rw[h]
 let e2:fC Z (.rf i)=M (i,ys):=by ext fC;dsimp only;rw[g]
 ext jr;rw[a,ej,e1];show((fe ρ X).bind _)=_;rw[f,ej,e2];show(if ys.length<1000000 then _ else _)=_;rw[ax e]
def mw(h:T[i]?=M (.dct o)):iG T (.rf i)=M (i,o):=by ext iG;dsimp only;rw[h]
def AI(a:o ρ T=.ok x X)(hd:fd ρ X=.ok (.rf i) Z)(f:uj x=M k)(e:Z[i]?=M (.dct C)):ue neg o fd ρ T=.ok (.fz (.bool ((jG C k).isSome !=neg))) Z:=by ext ue;rw[a,ej,hd,ej,f];show((RS.YD Z (iG Z (.rf i))).bind _)=_;rw[mw e];rfl
def M0(hd:fd ρ T=.ok (.rf i) X)(a:C ρ X=.ok x Z)(g:uj x=M k)(f:Z[i]?=M (.dct o))(e:jG o k=M y):rP fd C ρ T=.ok y Z:=by ext rP;rw[hd,ej,a,ej,g];show((RS.YD Z (iG Z (.rf i))).bind _)=_;rw[mw f];show RS.YD Z (jG o k)=_;rw[e];rfl
def MM(a:C ρ T=.ok y X)(hd:fd ρ X=.ok (.rf i) Z)(f:J ρ Z=.ok x Y)(h:uj x=M k)(g:Y[i]?=M (.dct o))(e:o.length<1000000):u6 fd J C ρ T=.ok (.nx ρ) (Y.set i (.dct (jU o k y))):=by ext u6;rw[a,ej,hd,ej,f,ej,h];show((RS.YD Y (iG Y (.rf i))).bind _)=_;rw[mw g];show(if o.length<1000000 then _ else _)=_;rw[ax e]
def LK(hd:fd ρ T=.ok (.rf i) X)(h:X[i]?=M (.dct J))(a:C ρ X=.ok x Z)(g:uj x=M k)(f:Z[i]?=M (.dct o))(e:jG o k=M y):uH fd C ρ T=.ok y (Z.set i (.dct (mh o k))):=by ext uH;rw[hd,ej,mw h];show((C ρ X).bind _)=_;rw[a,ej,g];show((RS.YD Z (iG Z (.rf i))).bind _)=_;rw[mw f];show((RS.YD Z (jG o k)).bind _)=_;rw[e];rfl
def Lf(hd:fd ρ T=.ok (.rf i) X)(h:X[i]?=M (.dct o)):x8 fd ρ T=.ok (.rf X.length) (X++[.lst (o.map (·.2))]):=by ext x8;rw[hd,ej,mw h];rfl
def KR(hd:fd ρ T=.ok (.rf i) X)(h:X[i]?=M (.dct o))(e:au Aj (o.map (·.1))=M ns)(a:ns.length<64):sO fd ρ T=.ok (.rf X.length) (X++[.lst ((kB ns).map λi=>SV.fz (.int i))]):=by ext sO;rw[hd,ej,mw h];show((RS.YD X (au Aj (o.map (·.1)))).bind _)=_;rw[e];show(if ns.length<64 then _ else _)=_;rw[ax a]
def MB(a:C ρ T=.ok x X)(h:v4 x=M o):uJ C ρ T=.ok (.rf X.length) (X++[.dct (mM [] o)]):=by ext uJ;rw[a,ej,h];rfl
variable{L:FlS}{r:RS FlS}
def cx(h:f ρ T=.ok (.nx ρ1) X)(k:g ρ1 X=r):aC f g ρ T=r:=by ext aC;rw[h,ej];show k
def oZ(h:f ρ T=.ok (.rt x) X):aC f g ρ T=.ok (.rt x) X:=by ext aC;rw[h];rfl
def gB(h:c ρ T=.ok P X)(k:f ρ X=r):ce c f g ρ T=r:=by ext ce;rw[h,ej,ax W,k]
def iz(h:c ρ T=.ok XF X)(k:g ρ X=r):ce c f g ρ T=r:=by ext ce;rw[h,ej,aE X9,k]
def gK(h:f ρ T=.ok x X):fu f ρ T=.ok (.rt x) X:=by ext fu;rw[h];rfl
def hJ(h:f ρ T=.ok x X):bh f ρ T=.ok (.nx ρ) X:=by ext bh;rw[h];rfl
def kL(h:f ρ T=.ok x X)(e:ρ.set i (M x)=ρ1):bG f (b7 i) ρ T=.ok (.nx ρ1) X:=by subst e;ext bG;rw[h];rfl
theorem gQ:cF ρ T=.ok (.nx ρ) T:=W
def jB(h:J ρ T=.ok x X)(a:o ρ X=.ok (.rf i) Z)(j:Z[i]?=M (.obj C fs))(g:fs.length<100):dS C f o J ρ T=.ok (.nx ρ) (Z.set i (.obj C (fX f x fs))):=by
 let e:Jg Z C (.rf i)=M (i,fs):=by ext Jg;dsimp only;rw[j];dsimp only;rw[ax W]
 ext dS;rw[h,ej,a,ej,e];show(if fs.length<100 then _ else _)=_;rw[ax g]
def gJ(h:f ρ T=.ok x X)(k:frz 4 X x=M (d,Z)):hG f ρ T=.ok (.fz d) Z:=by ext hG;rw[h,ej];ext KF;rw[k]
def iH(e:xs.map M++XU (N - xs.length) R=ρ)(h:g ρ T=.ok (.rt x) X):cy N g xs T=.ok x X:=by subst e;ext cy;rw[h];rfl
def nM(e:xs.map M++XU (N - xs.length) R=ρ)(h:g ρ T=.ok (.nx ρ1) X):cy N g xs T=.ok (.fz .none) X:=by subst e;ext cy;rw[h];rfl
end
section
variable{ρ Y S:aR}{ω ω1 Z Q L:aN}{x y z:SV}{i n:Nat}{d J dy:D}{ds:bg D}{b:Bool}
theorem ib(e:α->D)(f:α->SV)(ω:aN)(I:aR->Prop):∀(xs:G α) (ρ:aR) (acc:G SV),I ρ->acc.length+xs.length<=1000000->(∀x∈xs,∀ρ,I ρ->∃c,gt (.fz (e x)) ρ ω=.ok c ω/\C c ω=.ok P ω/\fe c ω=.ok (f x) ω/\I c)->bL gt C fe (xs.map e) ρ ω acc=.ok (acc++xs.map f) ω
 |[],ρ,acc,_,_,_=>by show RS.ok acc ω=_;rw[ZW,Yl]
 |x::r,ρ,acc,h0,o,m=>by let(c,l,j,h,g):=m x X0 ρ h0;rw[XZ]at o;show((gt (.fz (e x)) ρ ω).bind _)=_;rw[l,ej,j,ej,ax W,h,ej,ax (),ib e f ω I r c _ g (by rw[XJ,aby];ext) λy a=>m y (XX _ a),Yb];rfl
def gU(c:C ρ ω=.ok ds ω1)(a:bL gt o fe ds (d6 n fj ρ) ω1 []=.ok xs Z):dD n fj C gt o fe ρ ω=.ok (.rf Z.length) (Z++[.lst xs]):=by ext dD;rw[c,ej,a,yy,ej]
theorem ng(m:Nat):∀(ds:G D),i9 (frz m) ω (ds.map .fz)=M (ds,ω)
 |[]=>rfl
 |d::r=>by rw[X5];ext i9;rw[show frz m ω (.fz d)=M (d,ω) by ext m<;>rfl];dsimp only;rw[ng m r]
def fL(h:ω[i]?=M (.lst (ds.map .fz))):frz 4 ω (.rf i)=M (.list ds,ω.set i .dead):=by ext frz;rw[h];dsimp only;rw[ng]
def Fy(h:o ρ ω=.ok (.rf i) ω1)(a:ω1[i]?=M (.lst (ds.map .fz))):ez o ρ ω=.ok ds (ω1.set i .dead):=by ext ez;rw[h,ej,fL a];rfl
def Tw(N C:aR->aN->Prop)(T:SV->aN->Prop):RS FlS->Prop
 |.ok (.nx ρ) ω=>N ρ ω
 |.ok (.ct ρ) ω=>C ρ ω
 |.ok (.rt v) ω=>T v ω
 |_=>False
structure GoS(r:RS FlS)(N C:aR->aN->Prop)(T:SV->aN->Prop):Prop where
 out:Tw N C T r
variable{f g:dU}{X:cT}{N C:aR->aN->Prop}{T:SV->aN->Prop}
def GoS.eq(e:r=r')(h:GoS r' N C T):GoS r N C T:=by rw[e];show h
def GoS.imp(h:GoS r N C T)(e:∀ρ ω,N ρ ω->N' ρ ω)(j:∀ρ ω,C ρ ω->C' ρ ω)(a:∀v ω,T v ω->T' v ω):GoS r N' C' T':=by
 show#[?_];let h:=h.out;cases r with
 |bad=>show h
 |er x ω=>show h
 |ok l ω=>
  cases l with
  |nx r=>show e _ _ h
  |ct r=>show j _ _ h
  |rt v=>show a _ _ h
  |bk r=>show h
def o0(h:GoS (f ρ ω) (λr o=>GoS (g r o) N C T) C T):GoS (aC f g ρ ω) N C T:=by
 show#[?_];let h:=h.out;ext aC;cases q:f ρ ω with
 |bad=>rw[q]at h;show h.elim
 |er x o=>rw[q]at h;show h.elim
 |ok a o=>
  rw[q]at h;cases a with
  |nx r=>show(show GoS (g r o) N C T from h).out
  |ct r=>show h
  |rt v=>show h
  |bk r=>show h.elim
def yL(h:c ρ ω=.ok b ω1)(a:b=P->GoS (f ρ ω1) N C T)(e:b=XF->GoS (g ρ ω1) N C T):GoS (ce c f g ρ ω) N C T:=by
 ext ce;rw[h,ej];cases b with
 |true=>show a W
 |false=>show e W
theorem tR(e:c ρ ω=.ok P ω1)(a:GoS (f ρ ω1) N C T):GoS (ce c f g ρ ω) N C T:=yL e (λ_=>a) λh=>by ext h
theorem dW(e:c ρ ω=.ok XF ω1)(a:GoS (g ρ ω1) N C T):GoS (ce c f g ρ ω) N C T:=yL e (λh=>by ext h) λ_=>a
def F9(e:X ρ ω=.ok x ω1)(a:gt x ρ ω1=.ok Y Z)(h:N Y Z):GoS (bG X gt ρ ω) N C T:=by show#[?_];ext bG;rw[e,ej,a,ej];show h
theorem nG(a:f ρ ω=.ok (.nx Y) ω1)(h:N Y ω1):GoS (f ρ ω) N C T:=#[by rw[a];show h]
theorem Tz(a:f ρ ω=.ok (.rt x) ω1)(h:T x ω1):GoS (f ρ ω) N C T:=#[by rw[a];show h]
theorem iT(a:X ρ ω=.ok x ω1)(h:N ρ ω1):GoS (bh X ρ ω) N C T:=nG (hJ a) h
theorem JE(a:X ρ ω=.ok x ω1)(h:T x ω1):GoS (fu X ρ ω) N C T:=Tz (gK a) h
theorem MQ(h:T (.fz .none) ω):GoS (sS ρ ω) N C T:=#[h]
theorem lu(h:N ρ ω):GoS (cF ρ ω) N C T:=#[h]
theorem gF{gt:yS}(e:X ρ ω=.ok x ω1)(a:gt x ρ ω1=.ok Y Z)(h:GoS (g Y Z) N C T):GoS (aC (bG X gt) g ρ ω) N C T:=o0 (F9 e a h)
theorem Bp(a:f ρ ω=.ok (.nx Y) ω1)(h:GoS (g Y ω1) N C T):GoS (aC f g ρ ω) N C T:=o0 (nG a h)
theorem jR(a:X ρ ω=.ok x ω1)(h:GoS (g ρ ω1) N C T):GoS (aC (bh X) g ρ ω) N C T:=o0 (iT a h)
def xi{h a:dU}(m:c ρ ω=.ok b ω1)(j:b=P->GoS (aC h g ρ ω1) N C T)(l:b=XF->GoS (aC a g ρ ω1) N C T):GoS (aC (ce c h a) g ρ ω) N C T:=by
 let e:aC (ce c h a) g ρ ω=if b=P then aC h g ρ ω1 else aC a g ρ ω1:=by unfold aC ce;rw[m,ej];ext b<;>rfl
 show .eq e ?_;cases b with
 |true=>show j W
 |false=>show l W
theorem wQ{a l:dU}(j:c ρ ω=.ok P ω1)(e:GoS (aC a g ρ ω1) N C T):GoS (aC (ce c a l) g ρ ω) N C T:=xi j (λ_=>e) λh=>by ext h
theorem sB{l a:dU}(j:c ρ ω=.ok XF ω1)(e:GoS (aC a g ρ ω1) N C T):GoS (aC (ce c l a) g ρ ω) N C T:=xi j (λh=>by ext h) λ_=>e
theorem wy(h:T (.fz .none) ω):GoS (aC sS g ρ ω) N C T:=o0 (MQ h)
theorem nX(h:GoS (g ρ ω) N C T):GoS (aC cF g ρ ω) N C T:=o0 (lu h)
def PY{a e:dU}(h:GoS (aC a (aC e g) ρ ω) N C T):GoS (aC (aC a e) g ρ ω) N C T:=by
 show .eq ?_ h;ext aC;cases a ρ ω with
 |bad=>rfl
 |er x o=>rfl
 |ok j o=>ext j<;>rfl
theorem BF{b:dU}(I:Nat->aR->aN->Prop):∀(ds:G D) (k:Nat) (ρ:aR) (ω:aN),I k ρ ω->(∀i d ρ ω,ds[i]?=M d->I (k+i) ρ ω->∃Y ω1,gt (.fz d) ρ ω=.ok Y ω1/\GoS (b Y ω1) (I (k+i+1)) (I (k+i+1)) T)->GoS (jw gt b ds ρ ω) (I (k+ds.length)) C T
 |[],k,ρ,ω,h0,_=>#[h0]
 |d::r,k,ρ,ω,h0,hs=>by
  let(Y,ω1,w,a):=hs 0 d ρ ω W h0;let a:=a.out;let m:∀l j,I (k+1) l j->GoS (jw gt b r l j) (I (k+(r.length+1))) C T:=λl j h=>by
   let e:k+(r.length+1)=k+1+r.length:=by ext
   rw[e];show BF I r (k+1) l j h λi B t p hi u=>?_;let e:k+1+i=k+(i+1):=by ext
   rw[e]at u⊢;show hs (i+1) B t p (by simpa using hi) u
  show#[?_];show Tw _ _ _ ((gt (.fz d) ρ ω).bind _);rw[w,ej];cases q:b Y ω1 with
  |bad=>rw[q]at a;show a.elim
  |er x o=>rw[q]at a;show a.elim
  |ok A o=>
   rw[q]at a;cases A with
   |nx r=>show(m _ _ a).out
   |ct r=>show(m _ _ a).out
   |rt v=>show a
   |bk r=>show a.elim
def Qo{b:dU}(I:Nat->aR->aN->Prop)(l:o ρ ω=.ok ds ω1)(j:I 0 ρ ω1)(a:∀i d ρ ω,ds[i]?=M d->I i ρ ω->∃Y ω1,gt (.fz d) ρ ω=.ok Y ω1/\GoS (b Y ω1) (I (i+1)) (I (i+1)) T)(e:∀k c,I ds.length k c->N k c):GoS (og o gt b ρ ω) N C T:=by let:=BF (C:=C) I ds 0 ρ ω1 j (by simpa using a);rw[YB]at this;show .eq ?_ (this.imp e (λ_ _ h=>h) λ_ _ h=>h);ext og;rw[l,ej]
def Qt(a:xs.map M++XU (n - xs.length) R=ρ)(h:GoS (g ρ ω) (λ_ c=>T (.fz .none) c) (λ_ _=>False) T):∃x c,cy n g xs ω=.ok x c/\T x c:=by
 let h:=h.out;ext cy;rw[a];cases q:g ρ ω with
 |bad=>rw[q]at h;show h.elim
 |er x o=>rw[q]at h;show h.elim
 |ok e o=>
  rw[q]at h;cases e with
  |nx r=>show#[_,_,W,h]
  |ct r=>show h.elim
  |rt v=>show#[_,_,W,h]
  |bk r=>show h.elim
def iq{W:aN->Prop}(a:xs.map M++XU (n - xs.length) R=ρ)(h:GoS (g ρ ω) (λ_ c=>SV.fz .none=v/\W c) (λ_ _=>False) (λr c=>r=v/\W c)):∃c,cy n g xs ω=.ok v c/\W c:=by let(x,c,l,j,e):=Qt (T:=λr c=>r=v/\W c) a h;show#[c,by rw[l,j],e]
end
def Ve(a:aN):AV->z D
 |.fz d=>M d
 |.rf i=>sh a (.rf i)
def Vo(F:fq):FN:=λds=>match F (ds.map .fz) []with
 |.ok (.fz d) _=>.ok (.fz d)
 |.ok (.rf i) a=>(match sh a (.rf i)with
  |some (.list ds)=>.ok (.ow ds)
  |_=>.bad)
 |.ok (.tp l) a=>(match au (Ve a) l with
  |some ds=>.ok (.fz (.tuple ds))
  |none=>.bad)
 |.er x _=>.er x
 |.bad=>.bad
section
variable{B O O':bK}{K:lD}{E:XK}{H T H1 H2:Hp}{X Y α1 α2:bg XH}{S Z ω1 ω2:aN}{σ:L2.St}{ρ:aR}{v:V}
def TC(s:Yp B K H X S)(h:AOk (ow B X S) K H X v x)(e:Ve S x=M d):L3.DV B K H v d:=by
 let sub:∀b,B b->ow B X S b:=λb z=>.inl z;cases x with
 |fz n=>ext e;show DV.ev (Ev.sub sub) h
 |rf i=>
  let(a,p,rfl):=h;let f:sh S (.rf i)=M d:=e;let:∃ds,d=.list ds:=by
   unfold sh at f;dsimp only at f;split at f
   .rename_i xs _
    cases q:au xf xs with
    |none=>rw[q]at f;ext f
    |some ds=>rw[q]at f;ext f;show#[_,W]
   .ext f
  let(ds,rfl):=this;let(o,r,g,l,j,m):=iC s f;rw[p]at g;ext g;show .lst #[aaE.of l,λz=>a7 p (s.ba a z i)] (j.ev (Ev.sub sub))
def Rx(h:Av K n (Vo F) vs H Q E):kj K n F vs H Q E:=by
 let(I,B,ds,L,N,w):=h;show#[I,B,[],[],ds.map .fz,AM L,jC _ _ (N.ev (Ev.sub λb z=>z.elim id λ#[i,c,q,_]=>by simp at q)),?_];unfold Vo at w;cases qF:F (ds.map .fz) []with
 |bad=>rw[qF]at w;show w.elim
 |er x Z=>rw[qF]at w;intro c dx Y T g m k;show w c dx T (λb o h=>g.kp b o h λ#[i,c,q,_]=>by simp at q) (XOk.sub (λb z=>.inl z) k)
 |ok x Z=>
  rw[qF]at w;intro Y T g m v p;let j:=λb o h=>g.kp b o h λ#[i,c,q,_]=>by simp at q
  cases x with
  |fz d=>show w v T j (DV.ev (Ev.sub λb z=>.inl z) p)
  |tp l=>
   dsimp only at w;cases qs:au (Ve Z) l with
   |none=>rw[qs]at w;show w.elim
   |some es=>rw[qs]at w;let(a,xs,rfl,A,C):=p;show w (.ref a) T j (.tup (A.ev (Ev.sub λb z=>.inl z)) (jF (cw (R:=AOk (ow B Y Z) K T Y) (λv x y r e=>TC m r e) C qs)))
  |rf i=>
   dsimp only at w;cases qs:sh Z (.rf i)with
   |none=>rw[qs]at w;show w.elim
   |some d=>
    rw[qs]at w;cases d with
    |list es=>let(a,t,ha,M,J,G):=iC m qs;let(xs,u,_):=ri qs;let(P,f,rfl):=p;rw[ha]at f;ext f;show w a t T j ((g.lv a #[i,_,ha,u,by intro z;ext z]).elim (λ#[i,c,q,_]=>by simp at q) id) M (J.ev (Ev.sub λb z=>z.elim (λz=>.inl z) λz=>by rw[z];show G))
    |_=>show w.elim
end
end L10
namespace L10
open PySem PySem.SeqAt PySem.Spec PySem.W PyProof.Rows L2 L3
section
variable{K:lD}{E:XK}
def sW(k:Int):G Int->z Nat
 |[]=>R
 |n::r=>if n=k then M 0 else(sW k r).map (·+1)
theorem vh{k:Int}:∀{ns:G Int} {j:Nat},sW k ns=M j->ns[j]?=M k/\∀m,m<j->ns[m]?≠M k
 |[],_,h=>by ext h
 |n::r,j,h=>by
  unfold sW at h;split at h
  .rename_i e;ext h;show#[by rw[<-e];rfl,λm hm=>by ext]
  .rename_i e
   cases q:sW k r with
   |none=>rw[q]at h;ext h
   |some i=>
    rw[q]at h;ext h;let(b,a):=vh q;show#[b,λm hm=>?_];cases m with
    |zero=>intro z;show e (X1 z)
    |succ m=>show a m (by let hm:m+1<i+1:=hm;ext)
def JJ(K:lD):V->G V->Hp->VK->Prop:=λx xs H Q=>∃(l:I) (a:G Int) (k:Int) (j:Nat),x=.ref l/\SqL K H l (a.map V.int)/\xs=[.int k]/\a[j]?=M k/\(∀m,m<j->a[m]?≠M k)/\j<1000/\Q (.int (j:Nat)) H
def DP{X:Cx}:SZ X "list.index" (JJ X.K):=by
 rintro C s U H x xs v Y Q I N f ⟨l,w,k,j,rfl,hl,rfl,hj,hno,hs,q⟩;obtain rfl:v=.ref l:=N;let(u,rfl,g):=f.one;let(t,rfl):=g;let(b,r,(o,n,J,T,hd,A),_):=I.list hl;let L:b.length=w.length:=by let:=r.length;rw[Xz]at this;show this.symm
 let a:∀(m:Nat) (hm:m<b.length),∃t,b[m]=.int (w[m]'()) t:=λm hm=>by let(u,G,g):=r.get (i:=m) (x:=.int (w[m]'())) (by rw[XS,XM ()];rfl);let(t,rfl):=g;rw[XM hm]at G;show#[t,X1 G]
 let(Z,R):=XB.mp hj;let(P,O,p,h):=o;obtain rfl:P=.type "list":=T;obtain rfl:p=.seq b.toArray n:=A;show aaD ac4 #[_,J,W] PySem.F.entry_list_index (PySem.F.args_list_index_2 _ _) (list_indexAt l b.toArray n O h (.int k t) (Xx.isInt k) j (by rw[X4];ext) () ?_ λm hm lt=>?_) #[J,λy S=>?_,?_]
 .let(t,e):=a j ();rw[aeJ,e,R];simp[Xx.isInt]
 .let B:m<b.length:=by rw[X4]at hm;show hm
  let(t,e):=a m B;rw[aeJ,e];let:=hno m lt;rw[XM ()]at this;simp only[Xx.isInt];show beq_eq_false_iff_ne.mpr λz=>this (by rw[z])
 .let(m,hm,rfl):=aeH.mp (by simpa using S:y∈b);let(M,e):=a m hm;rw[e];show(MeetsSeq.EqGives.int _ k M t).at _ _
 .show#[.int (j:Nat),H,I.tok _,#[_,W],q]
def G9(ds:G D)(d:D):z Nat:=match ka ds,d with
 |some ns,.int k=>(match sW k ns with
  |some j=>if j<1000 then M j else R
  |none=>R)
 |_,_=>R
def JL(c:FE)(b:aU):z (z PV)->Res (PV×aU)
 |some (M (.fz (.list ds)))=>(c b).bind λa=>(Res.YD (xb a.2 a.1)).bind λd=>(Res.YD (G9 ds d)).bind λj=>.ok (.fz (nd j),a.2)
 |_=>.bad
def Dw(i:Nat)(b:FE):FE:=λa=>JL b a a[i]?
def Py{i:Nat}{c:TE}{s:FE}(C:EO K E c s):EO K E (RZ K "list" (JJ K) (qE i) (ei c iL)) (Dw i s):=by
 intro B N O r H Y Q R w;unfold Dw at w;cases S:Y[i]? with
 |none=>rw[S]at w;show w.elim
 |some o=>
  cases o with
  |none=>rw[S]at w;show w.elim
  |some pv=>
   cases pv with
   |ow ds=>rw[S]at w;show w.elim
   |pl j=>rw[S]at w;show w.elim
   |fz G=>
    cases G with
    |list ds=>
     rw[S]at w;let(v,F,n):=R.slot i _ S;let n:L3.DV O K H v (.list ds):=n;cases n with
     |lst e m=>
      show#[_,F,.inl #[W,_,e.1.sq],?_];show C B N O r H Y _ R (WR.imp (WR.bind w) λb g L y M e1 q z=>?_);let(d,u,g):=g.YD;let(j,a,t):=g.YD;let h:=lZ q z u;unfold G9 at a;cases X:ka ds with
      |none=>rw[X]at a;ext a
      |some p=>
       rw[X]at a;cases d with
       |int k=>
        dsimp only at a;cases T:sW k p with
        |none=>rw[T]at a;ext a
        |some A=>
         rw[T]at a;dsimp only at a;by_cases l:A<1000
         .rw[ax l]at a
          ext a;let h:y=.int k:=by ext h;rfl
          subst h;let(J,I):=vh T;let f:=e.ev e1;let ev:=kT m X;rw[ev]at f;show#[_,p,k,_,W,f.1.sq,W,J,I,l,t L _ M e1 q (.int _)]
         .rw[aE l]at a;ext a
       |_=>ext a
    |_=>rw[S]at w;show w.elim
end
end L10
namespace L10
open PySem PyProof.Rows L2 L3
section
variable{B O J:bK}{K:lD}{E:XK}{H C A u:Hp}{t S Q N:bg XH}{T L Y Z:aN}{r:L2.St}{X:aR}{v:V}
def pd{c fb:cT}{y z:SV}{i:Nat}{n:Int}{xs:G SV}(f:c X T=.ok (.rf i) Y)(e:fb X Y=.ok y Z)(d:HN y=M n)(a:Z[i]?=M (.lst xs))(b:lJ xs n=M z):eD c fb X T=.ok z Z:=by ext eD;rw[f,ej,e,ej];ext P7;simp only[a,d];show RS.YD Z (lJ xs n)=_;rw[b];rfl
end
end L10
namespace L10
open PySem PyProof.Rows L2 L3
section
variable{O Z:bK}{K:lD}{H X:Hp}{a b:XH}{T:bg V}{Y:Heap->Prop}
def Vl(a:I)(O:bK)(H:Hp)(Z:bK)(X:Hp):Prop:=∀b o,b≠a->H b=M o->¬O b->X b=M o/\¬Z b
def acv.evx(i:H a=M (.ext Y))(h:acv O K H b T)(e:Vl a O H Z X):acv Z K X b T:=by
 let(h,k):=h;by_cases z:O b
 .show#[aaE.same (lB X) (k z),λ_=>k z]
 .rcases h with(h|⟨o,h⟩)|h
  .let(g,f):=e b _ (λy=>by rw[y,i]at h;ext h) h z;show#[.inl (.inl g),λy=>a7 y f]
  .let(g,f):=e b _ (λy=>by rw[y,i]at h;ext h) h z;show#[.inl (.inr #[o,g]),λy=>a7 y f]
  .show#[.inr h,λ_=>.inr h]
def abx.evx(i:H a=M (.ext Y))(h:abx O K H b T)(e:Vl a O H Z X):abx Z K X b T:=by
 let(h,k):=h;by_cases z:O b
 .show#[(lB X).tup (k z),λ_=>k z]
 .rcases h with(h|⟨o,h⟩)|h
  .let(g,f):=e b _ (λy=>by rw[y,i]at h;ext h) h z;show#[.inl (.inl g),λy=>a7 y f]
  .let(g,f):=e b _ (λy=>by rw[y,i]at h;ext h) h z;show#[.inl (.inr #[o,g]),λy=>a7 y f]
  .show#[.inr h,λ_=>.inr h]
mutual
theorem DV.evx(f:H a=cL (.ext Y))(e:Vl a O H Z X):∀{v:V} {d:D},L3.DV O K H v d->L3.DV Z K X v d
 |_,_,.Zw=>.Zw
 |_,_,.bl b=>.bl b
 |_,_,.int i=>.int i
 |_,_,.str x=>.str x
 |_,_,.tup h hs=>.tup (abx.evx f h e) (Zc.evx f e hs)
 |_,_,.lst h hs=>.lst (acv.evx f h e) (Zc.evx f e hs)
theorem Zc.evx(f:H a=cL (.ext Y))(e:Vl a O H Z X):∀{vs:bg V} {ds:bg D},L3.Zc O K H vs ds->L3.Zc Z K X vs ds
 |_,_,.nil=>.nil
 |_,_,.cons h hs=>.cons (DV.evx f e h) (Zc.evx f e hs)
end
end
end L10
namespace PySem
open Sem (wp)
open PyProof.Rows
section
variable{Y:Ya}{w:Yq}{A:Ym}{E:Xx->XI->Prop}{s:XI}{t:XH}{X:Array (Int×Tok)}
def GI{k:G U}{ns:G Int}{Q:U->XI->Prop}(r:A.handled=R)(l:s.heap.IsList t k.toArray)(x:IntsAre k ns)(i:0<ns.length)
  (h:∀d M (u:Tok) c,(∀b o,s.heap.get? b=cL o->d.get? b=cL o)->M∈ns->(∀a,a∈ns->a<=M)->Q (.int M u) {s with heap:=d,toks:=c}):
  wpAny (model Y w) A (call (.builtin "max") [.ref t]) Q E s:=by
 let(X,e):=x.allInts.items;let f:ns=X.toList.map (·.1):=by rw[<-x.numsOf,<-nums_intItems,<-e]
 let g:0<X.size:=by let m:=i;rw[f,Xz,YL]at m;show m
 rw[e]at l;show max_intList r l g λv d c n p=>?_;let(t,rfl):=intItems_at n;let(z,y):=argBest_gt (numAt X) (X.size - 1);show h _ _ t c p ?_ λa B=>?_
 .rw[f,numAt_eq];show getD_mem (by rw[Xz,YL];ext)
 .rw[f]at B;let(j,q,rfl):=mem_getD B;rw[Xz,YL]at q;rw[<-numAt_eq];show y j ()
end
end PySem
namespace L10
open PySem PySem.Spec PyProof.Rows L2 L3
def Oe(K:lD):G V->Hp->VK->Prop:=λxs H Q=>∃(a:I) (b:G Int),xs=[.ref a]/\SqL K H a (b.map V.int)/\0<b.length/\∀M,M∈b->(∀i,i∈b->i<=M)->Q (.int M) H
def Dn{X:Cx}(l:X.calm=P):ZJ X (.builtin "max") (Oe X.K):=by intro b s o H xs p Q I r h;let(a,v,rfl,g,A,q):=h;let(u,rfl,f):=jV r;ext f;let(y,e,i,_):=I.list g;show GI (I.ok.hd l) i.isList (jx e) A λw M u t j n m=>#[.int M,H,I.kept j,#[_,W],q M n m]
def gO:G D->z RV
 |[.list ds]=>(match ka ds with
  |some a=>if 0<a.length then M (.fz (.int (Dy a)))else R
  |none=>R)
 |_=>R
def KZ{K:lD}:C5 K (Oe K) gO:=by
 intro O H xs ds t Q n j e q;unfold gO at e;split at e
 .split at e
  .rename_i b i
   split at e
   .rename_i p
    ext e;cases j with
    |cons m l=>ext l;let(a,r,rfl,f,o):=A3 m;rw[kT o i]at f;show#[a,b,W,f.sq,p,λM h g=>?_];let(k1,k2):=wL p;let:M=Dy b:=agE (k2 M h) (g _ k1);subst this;show q.at (.int _)
   .ext e
  .ext e
 .ext e
end L10
namespace L3
open PySem L2
structure NI(K:lD)(f:I)(n:Str)(t:Zn):Prop where
 a:Yh K X8 n=M (M (.ref f))
 F:∃fd,Fun K n n t f fd
structure MI(K:lD)(C f:I)(m q:Str)(t:Zn):Prop where
 a:YA K (.ref C) m=M (M (.ref f))
 i:ZD K (.ref f)=P
 F:∃fd,Fun K m q t f fd
structure CI(K:lD)(C:I)(n:Str)(fs:G Str):Prop where
 a:Yh K X8 n=M (M (.ref C))
 pg:aaj K C Str.empty=P
 hd:aaK K C=P
 po:abY K C=P
 sa:YA K (.ref C) "__setattr__"=M (M (.builtin "object.__setattr__"))
 mm:acm K C=P
 kc:Zb K (.ref C)=P
 fl:∀x∈fs,aaQ K C x
def BA(n q:Str)(t:Zn)(c:G Str):Prop:=∀(kV b e:U) (f:z I) (g ct:U) (a:G U),a.length=c.length->bindArgs (Y4 n q (fJ t) (bW t) (av t) .none kV b e f g ct) #[a,[]]=pure (c.zip a)
section
variable{P:Ya}{w:Yq}{K:lD}{Y:Str->b3 Xx}{base h:Heap}{f C:XH}{n m q:Str}{t:Zn}{S fs:bg Str}{Z k:Nat}{T Q:Sp}
theorem CI.cls(c:CI K C n fs):Cls K C:=#[c.pg,c.hd,c.po,c.sa]
theorem CI.cf(c:CI K C n fs):L10.lP K n fs:=#[C,c.a,c.cls,c.fl]
theorem NI.cal(i:NI K f n t)(X:K.In h)(G:h.Ns X8 Y)(b:BA n n t S)(ok:∀fd,Fun K n n t f fd->FnOk P w K Y base lK Z f fd S T):xU P w K Y base Z n S T:=
 let#[fd,z]:=i.F;#[f,fd,ok fd z,z.binds b,z.kp,Zh X G i.a]
def NI.law(i:NI K f "law" t)(X:K.In h)(G:h.Ns X8 Y)(b:Y "law"=M (.ref fa))(p:BA "law" "law" t [x])(ok:∀base fd,Fun K "law" "law" t f fd->FnOk P w K Y base lK Z f fd [x] T):∃fd:YN,(∀(s:XI) (v:U),abJ s fd #[[v],[]] [(x,v)])/\∀base:Heap,K.In base->base.Ns X8 Y->FnOk P w K Y base lK Z fa fd [x] T:=by let e:=b.symm.trans (Zh X G i.a);ext e;let(fd,z):=i.F;let(A,y,kV,g,j,r,u,ct,l,rfl,B,o):=z.ex;show#[_,λs v=>.of_eq (p kV g j r u ct [v] W),λbase _ _=>ok base _ z]
def Cf(a:Zp k A):A.units+65<cLine:=by let:=a.un;ext
theorem Km{W:I}{a:Array U}{i:Nat}{g:Array (z U)}{xs:G V}{ds:G D}(l:K.lookup W=M #[.type "tuple",R,.seq a i,g])(e:a.size<=XY)(b:Vals xs a.toList)(hd:∀O H,Zc O K H xs ds):∀O H,DV O K H (.ref W) (.tuple ds):=λO H=>
 .tup (xs:=xs) #[.inr #[_,_,_,l,#[rfl,rfl],rfl,e,b],λ_=>.inr #[_,_,_,l,#[rfl,rfl],rfl,e,b]] (hd O H)
end
end L3
namespace LD
open PySem PyProof.Rows L2 L3
def ke(xs:G (KD×I×V))(k:KD):z V:=(xs.find? λx=>decide (x.1=k)).map (·.2.2)
def lL(xs:G (KD×I×V))(k:KD)(b:I)(v:V):G (KD×I×V):=
 if(xs.find? λx=>decide (x.1=k)).isSome=P then xs.map (λx=>if x.1=k then(x.1,x.2.1,v)else x)else xs++[(k,b,v)]
abbrev RX:G (KD×I×V)->G (KD×I×U)->Prop:=Paired λx y=>x.1=y.1/\x.2.1=y.2.1/\RelV x.2.2 y.2.2
def A1:∀{xs:G (KD×I×V)} {a:G (KD×I×U)},RX xs a->xs.map (·.1)=a.map (·.1):=by
 intro _ _ b
 induction b with
 |nil=>show W
 | @cons _ _ _ _ h t e=>rw[X5,X5,h.1,e]
def vM:∀{xs:G (KD×I×V)} {a:G (KD×I×U)},RX xs a->aa1 (ke xs k) ((atKey a k).map (·.2)):=by
 intro _ _ b
 induction b with
 |nil=>unfold ke atKey;show trivial
 | @cons x y xs a h t f=>
  unfold ke atKey;rw[Yv,Yv,h.1];by_cases e:y.1=k
  .rw[a4 e];show h.2.2
  .rw[a5 e];show f
def K5:∀{xs:G (KD×I×V)} {a:G (KD×I×U)},RX xs a->(xs.find? λx=>decide (x.1=k)).isSome=(atKey a k).isSome:=by
 intro _ _ b
 induction b with
 |nil=>show W
 | @cons x y xs a h t f=>
  ext atKey;rw[Yv,Yv,h.1];by_cases e:y.1=k
  .rw[a4 e];rfl
  .rw[a5 e];show f
def Sa(r:RelV v u):∀{xs:G (KD×I×V)} {a:G (KD×I×U)},RX xs a->RX (xs.map λx=>if x.1=k then(x.1,x.2.1,v)else x) (a.map (putAt k u)):=by
 intro _ _ b
 induction b with
 |nil=>show .nil
 | @cons x y xs a h t f=>
  rw[X5,X5];show .cons ?_ (f);ext putAt;by_cases e:y.1=k
  .rw[ax (h.1.trans e),ax e];show#[h.1,h.2.1,r]
  .rw[aE (by rw[h.1];show e),aE e];show h
def M6(h:x.1=y.1/\x.2.1=y.2.1/\RelV x.2.2 y.2.2):∀{xs:G (KD×I×V)} {a:G (KD×I×U)},RX xs a->RX (xs++[x]) (a++[y]):=by
 intro _ _ b
 induction b with
 |nil=>show .cons h .nil
 | @cons _ _ _ _ g t e=>show .cons g (e)
def IK(r:RelV v u)(h:RX xs ys):RX (lL xs k b v) (storedH ys k b u):=by
 unfold lL storedH;rw[K5 h];split
 .show Sa r h
 .show M6 #[W,W,r] h
def pT(xs:G (KD×I×V))(k:KD)(b:I)(v:V):(lL xs k b v).length<=xs.length+1:=by
 ext lL;split
 .rw[Xz];ext
 .rw[XJ];show XO _
def qD(K:lD)(H:Hp)(xs:G (KD×I×V)):Prop:=∀x∈xs,L2.DV K H (.ref x.2.1) x.1.1
section
variable{X:Cx}{Z:bg (XH×Obj)}{Y:L2.St}{H:Hp}{s:XI}{a b:XH}{T:bg (KD×XH×V)}{k:KD}{v:V}{u r:Xx}{A:Ym}{E:Xx->XI->Prop}
def UC:∀{T:G (KD×I×V)} {es:G aao},Paired (λ(x:KD×I×V) (e:aao)=>e.hash=su w x.1.1/\e.key=.ref x.2.1/\RelV x.2.2 e.val) T es->∃ys,RX T ys/\es=ys.map (entryOfKey (gz o w)):=by
 intro _ _ h
 induction h with
 |nil=>show#[[],.nil,W]
 | @cons x e _ _ p t q=>let(g,f,i):=p;let(ys,l,j):=q;show#[(x.1,x.2.1,e.val)::ys,.cons #[W,W,i] l,?_];rw[X5,<-j];let(n,m,ev):=e;dsimp only at g f;subst g f;rfl
def To:∀{T:G (KD×I×V)} {f:G (KD×I×U)},RX T f->Paired (λ(x:KD×I×V) (e:aao)=>e.hash=su w x.1.1/\e.key=.ref x.2.1/\RelV x.2.2 e.val) T (f.map (entryOfKey (gz i w))):=by
 intro _ _ g
 induction g with
 |nil=>show .nil
 | @cons _ _ _ _ h t j=>show .cons #[by rw[h.1];rfl,by rw[h.2.1];rfl,h.2.2] (j)
theorem oj(I:L2.Inv X Z Y H s)(h:L2.DV X.K H (.ref b) k.1):(gz X.prog X.w).is s.heap k b:=L2.DV.reads I h W
def uu(I:L2.Inv X Z Y H s)(e:H a=M (DkO a T))(j:qD X.K H T):T.length<=XY/\(a==Y2)=XF/\∃ys,RX T ys/\s.heap.DictOfH (gz X.prog X.w) a ys:=by
 let(((z,n,nd),o,es,L,G,F,C,B),_):=(show ObjOk X.prog X.w H s.heap a (DkO a T)from I.YX a _ e);let(ys,h,J):=UC B;show#[z,n,ys,h,o,es,L,G,F,C,J,?_,by rw[<-A1 h];show nd];let all:∀{l:bg (KD×XH×V)} {m:bg (KD×XH×U)},RX l m->(∀x∈l,L2.DV X.K H (.ref x.2.1) x.1.1)->∀y∈m,(gz X.prog X.w).is s.heap y.1 y.2.1:=by
  intro l m q
  induction q with
  |nil=>intro _ y f;show nomatch f
  | @cons p q ps S N t Q=>
   intro g y f;rcases Yi.mp f with e|f
   .subst e;let:=oj I (g p (X0 ..));rw[N.1,N.2.1]at this;show this
   .show Q (λx i=>g x (XX _ i)) y f
 show all h j
def zO(z:T.length<=XY)(hd:(a==Y2)=XF)(e:RX T ys)(dd:C.DictOfH (gz y w) a ys):ObjOk y w H' C a (DkO a T):=by let(o,es,f,g,m,l,j,n,i):=dd;show#[#[#[z,hd,by rw[A1 e];show i],o,es,f,g,m,l,by rw[j];show To e],#[o,g],?_];rintro t p ⟨q,o,es,f,e1,e2⟩ h;show#[q,o,es,f,h o e1,e2]
def nj(e:A.units+64<cLine):(gz X.prog X.w).room A.in1:=by show A.in1.units+8<cLine;rw[Ym.in1_units];ext
def Qj(m:A.units+64<cLine)(I:L2.Inv X Z Y H s)(e:H a=M (DkO a T))(o:qD X.K H T)(q:L2.DV X.K H (.ref b) k.1)(g:ke T k=M v)(h:∀c d,L2.Inv X Z Y H d->RelV v c->Q c d):
  wpAny (model X.prog X.w) A (getItem (.ref a) (.ref b)) Q E s:=by
 let(z,y,t,i,dd):=uu I e o;let(c,l,f):=aa1.some_of (by rw[<-g];show vM i);let(p,n,j):=abe.mp l;show ag4 (nj m) (oj I q) dd n ?_;rw[j];show h c _ (I.tok _) f
def TX(g:A.units+64<cLine)(I:L2.Inv X Z Y H s)(e:H a=M (DkO a T))(i:qD X.K H T)(l:L2.DV X.K H (.ref b) k.1)(h:∀c,L2.Inv X Z Y H c->Q (.bool (ke T k).isSome) c):
  wpAny (model X.prog X.w) A (Zk .In (.ref b) (.ref a)) Q E s:=by
 let(z,j,m,f,dd):=uu I e i;show amN (nj g) (oj I l) j dd ?_;let q:=(vM (k:=k) f).aa0;rw[aaO]at q;rw[<-q];show h _ (I.tok _)
def RU(g:A.units+64<cLine)(I:L2.Inv X Z Y H s)(e:H a=M (DkO a T))(i:qD X.K H T)(l:L2.DV X.K H (.ref b) k.1)(h:∀c,L2.Inv X Z Y H c->Q (.bool (!(ke T k).isSome)) c):
  wpAny (model X.prog X.w) A (Zk .NotIn (.ref b) (.ref a)) Q E s:=by
 let(z,j,m,f,dd):=uu I e i;show wpAny_notIn_heap (nj g) (oj I l) j dd ?_;let q:=(vM (k:=k) f).aa0;rw[aaO]at q;rw[<-q];show h _ (I.tok _)
def SS(m:A.units+64<cLine)(I:L2.Inv X Z Y H s)(e:H a=M (DkO a T))(o:qD X.K H T)(y:L2.DV X.K H (.ref b) k.1)(d:RelV v r)(C:T.length<XY)(h:∀c,L2.Inv X Z Y (bf H a (DkO a (lL T k b v))) c->Q ⟨⟩ c):
  wpAny (model X.prog X.w) A (setItem (.ref a) (.ref b) r) Q E s:=by
 let(z,t,j,f,dd):=uu I e o;let l:j.length<=XY:=by rw[<-Paired.length f];show z
 let i:(lL T k b v).length<=XY:=by let:=pT T k b v;ext
 show ag5 (hsz:=l) (nj m) (oj I y) dd λB g n=>h _ ?_;let p:∃q,B.get? a=M q:=let#[q,_,_,J,_]:=g;#[q,J]
 show nZ I (by rw[e];show True.intro) n p (zO i t (IK d f) g)
def Bm(I:L2.Inv X Z Y H s)(e:H a=M (DkO a T)):s.TypeIs (.ref a) "dict"/\(∀b,Xx.ref a=.ref b->∃c,s.heap.get? b=M c/\c.dict=R)/\(a==Y2)=XF:=by let(((z,h,nd),o,es,l,g,f,j,i),_):=(show ObjOk X.prog X.w H s.heap a (DkO a T)from I.YX a _ e);show#[#[o,g,f.1],λb q=>?_,h];ext q;show#[o,g,f.2.1]
end
section
variable(K:lD)
def Jn(neg:Bool)(ty g:TE):TE:=λf H Q=>ty f H λy h=>g f h λx e=>∃a b xs k,x=.ref a/\y=.ref b/\e a=M (DkO a xs)/\qD K e xs/\L2.DV K e (.ref b) k.1/\Q (.bl ((ke xs k).isSome !=neg)) e
def HG(g ty:TE):TE:=λf H Q=>g f H λx h=>ty f h λy e=>∃a b xs k v,x=.ref a/\y=.ref b/\e a=M (DkO a xs)/\qD K e xs/\L2.DV K e (.ref b) k.1/\ke xs k=M v/\Q v e
def IQ(h ty g:TE):TS:=λD e H=>g e H λv j=>h e j λx i=>ty e i λy f=>∃a b xs k,x=.ref a/\y=.ref b/\f a=M (DkO a xs)/\qD K f xs/\L2.DV K f (.ref b) k.1/\xs.length<XY/\D.nx e (bf f a (DkO a (lL xs k b v)))
def Jm:TE:=λ_ H Q=>∀p,H p=R->Q (.ref p) (bf H p (DkO p []))
end
section
variable{X:Cx}{o i e f Z:Yc}{U Y tx tv:TE}{pos T apos Z1:Pos}
def pc_ddin(v:X.A.units+64<cLine)(c:PE X i Y)(w:PE X o U):PC X .In i o (Jn X.K XF Y U):=by intro g s j H Q I h;show bZ (c g s j H _ I h) λN m #[y,J,F,n,q]=>bZ (w g m j J _ F q) λu M a=>?_;let(x,G,E,p,a,b,xs,k,B,z,e,r,t,l):=a;subst B z;obtain rfl:=p;obtain rfl:=n;rw[agG]at l;show TX v E e r t λL C=>#[.bl _,G,C,W,l]
def pc_ddnin(v:X.A.units+64<cLine)(c:PE X i Y)(w:PE X o U):PC X .NotIn i o (Jn X.K P Y U):=by intro g s j H Q I h;show bZ (c g s j H _ I h) λN m #[y,J,F,n,q]=>bZ (w g m j J _ F q) λu M a=>?_;let(x,G,E,p,a,b,xs,k,B,z,e,r,t,l):=a;subst B z;obtain rfl:=p;obtain rfl:=n;rw[Bool.bne_true]at l;show RU v E e r t λL C=>#[.bl _,G,C,W,l]
def pe_ddget(C:X.A.units+64<cLine)(F:PE X o U)(c:PE X i Y)(E:Qk i):PE X (.Subscript o i pos) (HG X.K U Y):=by intro j s m H Q I h;show Cm acO.lookup E (bZ (F j s m H _ I h) λu p #[x,O,A,r,w]=>bZ (c j p m O _ A w) λiv S a=>?_);let(y,N,n,q,a,b,xs,k,v,J,G,e,z,B,g,t):=a;subst J G;obtain rfl:=r;obtain rfl:=q;show#[(Bm n e).1,Qj C n e z B g λP R L l=>#[v,N,L,l,t]]
def ps_ddput(E:X.A.units+64<cLine)(G:PE X o U)(c:PE X i Y)(C:PE X Z tv)(F:ZU Z (cL (.Subscript o i T)) pos.line X.env=pure XF):
  PS X (.Assign [.Subscript o i T] Z pos) (IQ X.K U Y tv):=by
 intro g s j H D I h;show afr (bZ (C g s j H _ I h) λr m #[v,S,Q,rv,w]=>bZ (G g m j S _ Q w) λu l #[x,R1,Pz0,p,t]=>bZ (c g l j R1 _ Pz0 t) λiv s3 a=>?_) F;let(y,H3,O,n,a,b,xs,k,A,L,e,z,B,J,q):=a;subst A L;obtain rfl:=p;obtain rfl:=n;show SS E O e z B rv J λs4 N=>#[j,_,N,q]
theorem pe_ddnew:PE X (.Dict [] [] pos) Jm:=λa s b H Q I h=>
 wpAny_Dict_empty #[.ref s.heap.objs.size,_,I.laid (λ_ _ q=>b4 _ q) (XO _) (zO (YC _) (beq_eq_false_iff_ne.mpr (dN (Ye I.big))) .nil (Heap.DictOfH.new s.heap)),W,h _ (I.YX.fresh (XO _))]
end
mutual
def Tf:XG->XG->b3 Bool
 |.int i,.int j=>cL (decide (i<j))
 |.str x,.str y=>cL (decide (x.cps.toList<y.cps.toList))
 |.tuple xs,.tuple ys=>TF xs ys
 |_,_=>Ld
def TF:bg XG->bg XG->b3 Bool
 |[],[]=>cL XF
 |[],_::_=>cL XA
 |_::_,[]=>cL XF
 |x::xs,y::ys=>if XG.eqv x y=XA then TF xs ys else Tf x y
end
end LD
namespace LD
open PySem PyProof.Rows
structure VE(es:G aao)(Yf:G (Unit×U)):Prop where
 vals:es.map (·.val)=Yf.map (·.2)
end LD
namespace L10
open PySem PyProof.Rows L2 L3 LD
def kO:SV->z D
 |.fz d=>if keyD d=P then M d else R
 |_=>R
def S4:SV->z D
 |.fz d=>M d
 |_=>R
def oK(a:aN):SV->z (Nat×G (D×D))
 |.rf i=>match a[i]? with
  |some (.dd b)=>M (i,b)
  |_=>R
 |_=>R
def fS(b:G (D×D))(k:D):z D:=(b.find? λa=>XG.eqv a.1 k).map (·.2)
def jX(b:G (D×D))(k v:D):G (D×D):=if(b.find? λa=>XG.eqv a.1 k).isSome=P then b.map (λa=>if XG.eqv a.1 k=P then(a.1,v)else a)else b++[(k,v)]
section
variable{B O O':bK}{K:lD}{E:XK}{H H' S R:Hp}{Y α' X T:bg XH}{ω ω' ω1 Z:aN}{U:L2.St}{ρ:aR}{v:V}{k:KD}
def nw(e:kO x=M d)(h:VOk O K H Y v x):∃(k:KD) (b:I),k.1=d/\v=.ref b/\L3.DV O K H (.ref b) d:=by
 cases x with
 |fz z=>
  let e:(if keyD z=P then M z else Ld)=M d:=e;by_cases a:keyD z=P
  .rw[ax a]at e
   ext e;let h:=h;cases d with
   |tuple xs=>cases h with
    |tup g f=>show#[#[_,a],_,W,W,.tup g f]
   |_=>simp[keyD]at a
  .rw[aE a]at e;ext e
 |rf i=>ext e
 |tp l=>ext e
def uL(s:Yp B K H Y ω)(b:VOk (ow B Y ω) K H Y v x)(h:oK ω x=M (i,o)):ω[i]?=M (.dd o)/\∃a xs,Y[i]?=M a/\v=.ref a/\H a=M (DkO a xs)/\PrD (ow B Y ω) K H xs o:=by
 cases x with
 |fz d=>ext h
 |tp l=>ext h
 |rf j=>
  let(a,n,rfl):=b;unfold oK at h;dsimp only at h;cases q:ω[j]? with
  |none=>rw[q]at h;ext h
  |some c=>
   rw[q]at h;cases c with
   |dd m=>let e:=X1 h;ext e;let(ws,g,f):=s.cel i a _ n q;show#[q,a,ws,n,W,g,f]
   |_=>ext h
def xN:∀{xs:G (KD×I×V)} {c:G (D×D)},PrD O K H xs c->qD K H xs:=by
 intro _ _ b
 induction b with
 |nil=>show λ_ h=>nomatch h
 | @cons x g xs c h t f=>
  intro y a;rcases Yi.mp a with e|a
  .subst e;rw[h.1];show h.2.1.plain
  .show f y a
def w9{x:KD×I×V}{a:D×D}(h:x.1.1=a.1):decide (x.1=k)=XG.eqv a.1 k.1:=by
 rw[<-h]
 haveI:Decidable (x.1.1=k.1):=Classical.propDecidable _
 rw[ES (eF x.1.2).1 (eF k.2).1];by_cases e:x.1=k
 .rw[a4 e,a4 (ec Subtype.val e)]
 .rw[a5 e,a5 λz=>e (Subtype.ext z)]
def rH:∀{xs:G (KD×I×V)} {b:G (D×D)},PrD O K H xs b->(∀d,fS b k.1=M d->∃v,ke xs k=M v/\L3.DV O K H v d)/\(fS b k.1=Ld->ke xs k=Ld):=by
 intro _ _ a
 induction a with
 |nil=>show#[λx e=>(by ext e),λ_=>W]
 | @cons x f xs b h t g=>
  unfold fS ke;rw[Yv,Yv,w9 h.1];cases XG.eqv f.1 k.1 with
  |true=>show#[λd e=>#[x.2.2,W,by ext e;show h.2.2],λe=>by ext e]
  |false=>show g
def zZ(h:PrD O K H xs o):(ke xs k).isSome=(fS o k.1).isSome:=by
 let(b,a):=rH h;cases q:fS o k.1 with
 |none=>rw[a q];rfl
 |some x=>let(u,e,_):=b x q;rw[e];rfl
def Sh:∀{xs:G (KD×I×V)} {c:G (D×D)},PrD O K H xs c->(xs.find? λx=>decide (x.1=k)).isSome=(c.find? λb=>XG.eqv b.1 k.1).isSome:=by
 intro _ _ a
 induction a with
 |nil=>show W
 | @cons x b xs c h t e=>
  rw[Yv,Yv,w9 h.1];cases XG.eqv b.1 k.1 with
  |true=>rfl
  |false=>show e
def Ua(b:L3.DV O K H v d):∀{xs:G (KD×I×V)} {f:G (D×D)},PrD O K H xs f->PrD O K H (xs.map λx=>if x.1=k then(x.1,x.2.1,v)else x) (f.map λc=>if XG.eqv c.1 k.1=P then(c.1,d)else c):=by
 intro _ _ a
 induction a with
 |nil=>show .nil
 | @cons x c xs f h t g=>
  rw[X5,X5];show .cons ?_ (g);let e:=w9 (k:=k) h.1;by_cases z:x.1=k
  .rw[ax z,ax (by rw[<-e];show a4 z)];show#[h.1,h.2.1,b]
  .rw[aE z,aE (by rw[<-e,a5 z];simp)];show h
def Ff(r:x.1.1=o.1/\L3.DV O K H (.ref x.2.1) o.1/\L3.DV O K H x.2.2 o.2):∀{xs:G (KD×I×V)} {b:G (D×D)},PrD O K H xs b->PrD O K H (xs++[x]) (b++[o]):=by
 intro _ _ a
 induction a with
 |nil=>show .cons r .nil
 | @cons _ _ _ _ g t e=>show .cons g (e)
def yx(e:L3.DV O K H (.ref b) k.1)(a:L3.DV O K H v d)(h:PrD O K H xs o):PrD O K H (lL xs k b v) (jX o k.1 d):=by
 unfold lL jX;rw[Sh h];split
 .show Ua a h
 .show Ff #[W,e,a] h
theorem Jw(e:Ev O H O' H')(h:PrD O K H xs o):PrD O' K H' xs o:=Paired.aa3 h λ_ _ q=>#[q.1,q.2.1.ev e,q.2.2.ev e]
def uo(neg:Bool)(a fd:cT):cT:=λρ ω=>(a ρ ω).bind λx ω1=>(fd ρ ω1).bind λo Z=>(RS.YD Z (kO x)).bind λk Z=>(RS.YD Z (oK Z o)).bind λp Z=>.ok (.fz (.bool ((fS p.2 k).isSome !=neg))) Z
def yw(r:cg K E C fk)(hd:cg K E J fd):cg K E (Jn K neg C J) (uo neg fk fd):=by intro B U H Y ω ρ Q s f w;show r B U H Y ω ρ _ s f (w.bind.imp λx X ω1 S e1 l j v p=>?_);show hd B U S X ω1 ρ _ l (f.ZM e1) (j.bind.imp λo T Z R e2 g e u q=>?_);let(d,n,e):=WS.YD e;let((i,L),m,e):=WS.YD e;let(_,a,xs,A,rfl,y,h):=uL g q m;let(k,b,rfl,rfl,t):=nw n (p.ZM e2);show#[a,b,xs,k,W,W,y,xN h,t.plain,?_];rw[zZ h];show WS.now g e _ (.bl _)
def mr(fd a:cT):cT:=λρ ω=>(fd ρ ω).bind λo ω1=>(a ρ ω1).bind λx Z=>(RS.YD Z (kO x)).bind λk Z=>(RS.YD Z (oK Z o)).bind λp Z=>(RS.YD Z (fS p.2 k)).bind λd Z=>.ok (.fz d) Z
def Dh(hd:cg K E td fd)(C:cg K E J fk):cg K E (HG K td J) (mr fd fk):=by intro B U H Y ω ρ Q s f w;show hd B U H Y ω ρ _ s f (w.bind.imp λo X ω1 S e1 m j u A=>?_);show C B U S X ω1 ρ _ m (f.ZM e1) (j.bind.imp λx T Z R e2 g e v t=>?_);let(d,q,e):=WS.YD e;let((i,N),p,e):=WS.YD e;let(_,a,xs,L,rfl,G,h):=uL g (A.ZM e2) p;let(k,b,rfl,rfl,F):=nw q t;let(y,n,e):=WS.YD e;let(z,r,l):=(rH h).1 y n;show#[a,b,xs,k,z,W,W,G,xN h,F.plain,r,WS.now g e z l]
def ox(fd c b:cT):dU:=λρ ω=>(b ρ ω).bind λy ω1=>(fd ρ ω1).bind λo Z=>(c ρ Z).bind λx a=>(RS.YD a (kO x)).bind λk a=>(RS.YD a (oK a o)).bind λp a=>(RS.YD a (S4 y)).bind λd a=>if p.2.length<1000000 then .ok (.nx ρ) (a.set p.1 (.dd (jX p.2 k d)))else .bad
def SL(e:S4 x=M d)(h:VOk O K H Y v x):L3.DV O K H v d:=by
 cases x with
 |fz z=>ext e;show h
 |rf i=>ext e
 |tp l=>ext e
def DN(hd:cg K E td fd)(Q:cg K E tk fk)(N:cg K E tv fv):pV K E (IQ K td tk tv) (ox fd fk fv):=by
 intro B U H Y ω ρ D s h w;show N B U H Y ω ρ _ s h (WS.imp (WS.bind w) λy X ω1 S e1 F A p m=>?_);show hd B U S X ω1 ρ _ F (h.ZM e1) (WS.imp (WS.bind A) λo T Z R e2 C t u P=>?_);show Q B U R T Z ρ _ C (h.ZM (e1.trans e2)) (WS.imp (WS.bind t) λx e g j e3 q f z L=>?_);let(kd,J,f):=WS.YD f;let((i,Yf),I,f):=WS.YD f;let(d,G,f):=WS.YD f;let(l,a,xs,ha,rfl,g1,n):=uL q (P.ZM e3) I;let(k,b,rfl,rfl,r):=nw J L;let M:=SL G (m.ZM (e2.trans e3));dsimp only at f;by_cases hn:Yf.length<1000000
 .rw[ax hn]at f;let ev:Ev (ow B e g) j (ow B e g) (bf j a (DkO a (lL xs k b p))):=ph ha l (by nofun);let e4:Zm e g j e (g.set i (.dd (jX Yf k.1 d))) (bf j a (DkO a (lL xs k b p))):=Zm.put ha l (by nofun) (by nofun);let hl:=Paired.length n;show#[a,b,xs,k,W,W,g1,xN n,r.plain,rT (),?_];show f e _ e4 (q.put ha l (by nofun) (by nofun) #[_,aI,yx (r.ev ev) (M.ev ev) (Jw ev n)]) U ((h.ZM (e1.trans (e2.trans e3))).ZM e4)
 .rw[aE hn]at f;show f.elim
def oy:cT:=λ_ ω=>.ok (.rf ω.length) (ω++[.dd []])
def Ej:cg K E Jm oy:=by intro B U H Y ω ρ Q s b w;show λp a=>m9 s a w λ_=>#[[],aI,.nil]
end
end L10
namespace L3
open PySem PyProof.Rows L2
structure adY(K:lD)(x qual:Str)(st:Zn)(f:I)(fd:YN)(T:I)(Yz:Array U):Prop where
 ex:∃(oc:U) (od:z I) (kV doc pm:U) (an:z I) (Zo ct:U) (osl:Array (z U)),
  fd=Y4 x qual (fJ st) (bW st) (av st) (.ref T) kV doc pm an Zo ct/\K.lookup f=M #[oc,od,.func fd,osl]/\aaC K Zo qual=P
 kp:Zb K (.ref f)=P
 tp:∃o n,K.lookup T=M o/\o.data=.seq Yz n
section
variable{P:Ya}{w:Yq}{K:lD}{J:Str->b3 Xx}{base:Heap}{x Z:Str}{Y:Zn}{f:XH}{S:YN}{T:XH}{B:Array Xx}{N ps:bg Str}{k n m:Nat}{L:Sp}{Q:bg Xx}
def adY.binds(F:adY K x Z Y f S T B)
  (h:∀(kV a b:U) (e:z I) (g ct:U) (us:G U),(us++Q).length=ps.length->∃k:z (Array U)->Sem (G (Str×U)),bindArgs (Y4 x Z (fJ Y) (bW Y) (av Y) (.ref T) kV a b e g ct) #[us,[]]=seqItems? (.ref T)>>=k/\k (M B)=pure (ps.zip (us++Q))):Binds K S ps Q:=by
 let(t,r,kV,a,b,e,g,ct,i,rfl,u,l):=F.ex;let(o,n,q,p):=F.tp;intro s us X j;let(k,e1,e2):=h kV a b e g ct us j;show abJ.of_defaults (fd:=Y4 x Z (fJ Y) (bW Y) (av Y) (.ref T) kV a b e g ct) W (X _ _ q) p e1 e2
def Af(P:Ya)(w:Yq)(K:lD)(J:Str->z U)(base:Heap)(b:wB)(k:Nat)(x:Str)(ps:G Str)(a:G V)(L:Sp):Prop:=
 ∃(f:I) (S:YN) (Q:G U),FnOk P w K J base b k f S ps L/\Binds K S ps Q/\Vals a Q/\Zb K (.ref f)=XA/\J x=M (.ref f)
def vK(C:Af X.prog X.w X.K X.mg X.base CX k x ps dvs L)(o:Zp j X.A)(l:dL CX X E)(c:PA X (e::es) t)(g:k<=j:=by decide)(q:Gl X x:=by rfl)
  (h:(x==("__debug__":Str))=XF:=by decide) (r:X6 (e::es) X.env=(XF,eval e X.env)::X6 es X.env:=by rfl) (a:(backTo pos (X6 es X.env)).any (·.1)=XF:=by rfl):
  PE X (.Call (.Name x p) (e::es) [] pos) (jW L dvs E t):=by
 let(f,S,Q,F,b,v,i,m):=C;show BE F (o.mono g) q m i b v l c h r a
end
end L3
namespace L10
open PySem PyProof.Rows L2 L3
section
variable{P:Ya}{w:Yq}{K:lD}{L:Str->b3 Xx}{base:Heap}{x Z:Str}{Y:Zn}{f:XH}{J:YN}{T:XH}{Yz:Array Xx}{N X:bg Str}{k n m:Nat}{g:dU}{C:fq}
def Ub(F:adY K x Z Y f J T Yz)(S:ZF N X (av Y))(c:X.length=n)(hm:N.length=m)(r:C=cy m g)
  (i:∀(a:U) (A:Ym) (outer:G Env) (s:XI) (H:Hp) (E:XK),Zp k (A.deeper (Yt Z (av Y) s.heap.objs.size f a))->
   ∃t,PSs (eO (L4.kF P w) P w K L base N Z (av Y) f a A outer s H E) (bW Y) t/\pV K E t g):FnOk P w K L base (L4.kF P w) (k+1) f J X (kj K n C):=by
 subst r hm;let(z,y,kV,u,v,B,a,ct,j,rfl,l,e):=F.ex;show Iw l e S (λvs H Q E h=>h.1.trans c.symm) λA outer s H vs Q E q b=>?_;let(t,o,p):=i a A outer s H E q;show#[t,o,zJ (xs:=[]) p b]
end
section
variable{K:lD}{E:XK}
def uN(F:fq)(n:Nat)(es:G D)(c:t6):cT:=λe b=>(c e b).bind λxs a=>if(xs++es.map SV.fz).length=n then F (xs++es.map SV.fz) a else .bad
theorem Ab:∀{c ws:G V} {xs b:G SV},ZV O K H α c xs->ZV O K H α ws b->ZV O K H α (c++ws) (xs++b)
 |_,_,_,_,.nil,h=>h
 |_,_,_,_,.cons a t,h=>.cons a (Ab t h)
def Ea(hd:∀O H,L3.Zc O K H o es)(c:ug K E C J):cg K E (jW (kj K n F) o E C) (uN F n es J):=by
 intro B g H α m p Q s h w;show c B g H α m p _ s h (w.bind.imp λxs a b l e1 i f q j=>?_);by_cases hn:(xs++es.map SV.fz).length=n
 .rw[ax hn]at f;let e:=Ab j (jC (ow B a b) a (hd (ow B a b) l));show#[e.length.trans hn,B,a,b,_,i,e,f]
 .rw[aE hn]at f;show f.elim
end
end L10
namespace L4
open PySem PyProof.Rows L2 L3
def acJ(h:Heap)(e:I)(c:U)(d:z I)(a:U)(T:I)(v:U):Prop:=
 ∃b fs,h.get? e=M b/\b.cls=c/\b.dict=d/\b.data=.fields fs/\fs[0]?=M a/\fs[1]?=M (.ref T)/\T≠e/\∃g f,h.get? T=M g/\g.data=.fields f/\f[3]?=M v
section
variable{M:ae7}{A:Ym}{E:Xx->XI->Prop}{s:XI}
def tK
  (C:A.frames=cL (env::outer)) (r:s.heap.FunFrames base (env::outer)) (B:env.frame=cL L) (t:s.heap.get? e=cL J) (h:J.data=.fields fs) (p:1<fs.size) (F:fs[0]?=cL a0)
  (k:∀x T,s.heap.objs.size<=T->acJ x e J.cls J.dict a0 T (rawInt L)->Lft (env::outer) e R s.heap x->Q ⟨⟩ {s with heap:=x}):
  wpAny M A (frameOf env>>=λfr=>entryPlaceOf L nx>>=λpl=>EntryCells.newEntry hv fr .none (rawInt L) .none pl>>=λb=>setField (.ref e) 1 b) Q E s:=by
 let g:e∉(env::outer).filterMap (·.frame):=λz=>by let(_,o,q,n):=r.mem z;rw[t]at q;ext q;show n fs h
 show CL (ahM C r B λa S=>?_);show CL (ag6 λpl P=>?_);unfold EntryCells.newEntry newFields;show CL (YO ?_ (P.sizeOk5 _ _ _ _ _));let l:=(S.2.1 e g).trans t;generalize X:({cls:=.type "traceback",dict:=R,data:=.fields ([hv,.ref L,.none,rawInt L,.none]++(if pl.isEmpty then XU 6 Xx.none else pl)).toArray}:Obj)=N;let u:N.data=.fields ([hv,.ref L,.none,rawInt L,.none]++(if pl.isEmpty then XU 6 Xx.none else pl)).toArray:=by rw[<-X]
 let G:=dt u;let j:=b4 N l;show YZ j h p ?_;let m:=YU (cj l);let v:=dk h (·.setIfInBounds 1 (Xx.ref a.objs.size));let i:=cv (Obj.mapFields (·.setIfInBounds 1 (Xx.ref a.objs.size))) j (dt v)
 let w:=
  (cn (a.push N) (Obj.mapFields (·.setIfInBounds 1 (Xx.ref a.objs.size))) m.symm).trans (ck a G)
 let aa2:∀b o,b≠e->a.get? b=cL o->((a.push N).update e (Obj.mapFields (·.setIfInBounds 1 (Xx.ref a.objs.size)))).get? b=cL o:=λb o ne q=>by rw[cn _ _ ne.symm];show b4 N q
 show k _ a.objs.size (by rw[S.1];show XO _) #[_,_,i,Obj.cls_mapFields _ _,?_,v,?_,?_,m,_,_,w,u,?_] #[λb o q ne _ y=>aa2 b o ne ((S.2.1 b y).trans q),λb o q ne _=>?_,λb o q=>?_]
 .cases J with
  |mk c d H f=>ext H<;>rfl
 .rw[aam ()];show F
 .simp[p]
 .rfl
 .let(f,z):=S.2.2 b o q;show#[f,aa2 b _ ne z]
 .by_cases ne:b=e
  .subst ne;show#[_,i]
  .let(f,z):=S.2.2 b o q;show#[_,aa2 b _ ne z]
def Qs{base:Heap}{env:Env}{outer:bg Env}{L e:XH}{c B:U}{D hd:b3 XH}{Q:Unit->XI->Prop}
  (v:A.frames=cL (env::outer)) (u:s.heap.FunFrames base (env::outer)) (h:env.frame=cL L) (F:Da s.heap e c D B hd)
  (k:∀x T,s.heap.objs.size<=T->acJ x e c D B T (rawInt L)->Lft (env::outer) e hd s.heap x->Q ⟨⟩ {s with heap:=x}):wpAny M A (noteFrame (.ref e) env) Q E s:=by
 let(O,fs,q,J,I,d,w,r):=F;subst J I;cases hd with
 |none=>let r:fs[1]?=cL .none:=r;ext noteFrame;simp only[h];show CL (Yo q d r ?_);rw[aE ()];show tK v u h q d (Yk.mp r).1 w k
 |some T=>
  let(r,G,P,C,g,dT,p):=r;ext noteFrame;simp only[h];show CL (Yo q d r ?_);rw[ax (show(Xx.ref T !=Xx.none)=XA from by simp)];show CL (Yo g dT p ?_);rw[aE (show¬((Xx.none==rawInt L)=XA)from by simp[rawInt])];show CL (YZ g dT (Yk.mp p).1 ?_);let a:∀b,b≠T->(s.heap.update T (Obj.mapFields (·.setIfInBounds 3 Xx.none))).get? b=s.heap.get? b:=λb ne=>cn _ _ ne.symm;let f:=cv (Obj.mapFields (·.setIfInBounds 3 Xx.none)) g (dt (dk dT _));let m:∀b o,s.heap.get? b=cL o->(∀S,o.data≠.fields S)->b≠T:=λb o z n y=>by rw[y,g]at z;ext z;show n C dT
  show tK v (u.of_keeps λb o z n=>#[o,(a b (m b o z n)).trans z,W]) h ((a e G.symm).trans q) d (Yk.mp r).1 w λx K t N i=>k x K (by rw[Heap.size_after_update]at t;show t) N #[λb o z l j H=>?_,λb o z l j=>?_,λb o z=>?_]
  .show i.keep b o ((a b λy=>j (by rw[y])).trans z) l (by simp) H
  .show i.slot b o ((a b λy=>j (by rw[y])).trans z) l (by simp)
  .by_cases y:b=T
   .subst y;show i.here b _ f
   .show i.here b o ((a b y).trans z)
def DA{base:Heap}{env:Env}{outer:bg Env}{L e T:XH}{c G v:U}{V:b3 XH}{Q:Unit->XI->Prop}
  (P:A.frames=cL (env::outer)) (O:s.heap.FunFrames base (env::outer)) (B:env.frame=cL L) (F:acJ s.heap e c V G T v)
  (k:∀x D,(D=T\/s.heap.objs.size<=D)->Da x e c V G (cL D)->Lft (env::outer) e (cL T) s.heap x->Q ⟨⟩ {s with heap:=x}):wpAny M A (leaving env (.ref e)) Q E s:=by
 let(I,fs,q,N,K,d,C,r,m,S,H,h,dT,t):=F;subst N K;let a:∀b,b≠T->(s.heap.update T (Obj.mapFields (·.setIfInBounds 3 Xx.none))).get? b=s.heap.get? b:=λb ne=>cn _ _ ne.symm;let f:=cv (Obj.mapFields (·.setIfInBounds 3 Xx.none)) h (dt (dk dT _));let l:=(Yk.mp t).1;unfold leaving noteFrame;simp only[B];show CL (CL (Yo q d r ?_));rw[ax (show(Xx.ref T !=Xx.none)=XA from by simp)];show CL (Yo h dT t ?_);by_cases u:(v==rawInt L)=XA
 .rw[ax u]
  show XN ?_;ext setFlight;show CL (Yo q d r ?_);rw[ax (show(Xx.ref T !=Xx.none)=XA from by simp)];show YZ h dT l ?_;show k _ T (.inl W) #[I,fs,(a e m.symm).trans q,W,W,d,C,r,m,_,_,f,dk dT _,?_] #[λb o z i g _=>?_,λb o z i g=>#[o.slots,?_],λb o z=>?_]
  .rw[Za l]
  .show(a b λy=>g (by rw[y])).trans z
  .show(a b λy=>g (by rw[y])).trans z
  .by_cases y:b=T
   .subst y;show#[_,f]
   .show#[o,(a b y).trans z]
 .rw[aE u]
  show CL (YZ h dT l ?_);let p:∀b o,s.heap.get? b=cL o->(∀X,o.data≠.fields X)->b≠T:=λb o z n y=>by rw[y,h]at z;ext z;show n H dT
  show ip P (O.of_keeps λb o z n=>#[o,(a b (p b o z n)).trans z,W]) B ((a e m.symm).trans q) d (Yk.mp r).1 C λx D w R j=>k x D (.inr (by rw[Heap.size_after_update]at w;show w)) R #[λb o z i g J=>?_,λb o z i g=>?_,λb o z=>?_]
  .show j.keep b o ((a b λy=>g (by rw[y])).trans z) i (by simp) J
  .show j.slot b o ((a b λy=>g (by rw[y])).trans z) i (by simp)
  .by_cases y:b=T
   .subst y;show j.here b _ f
   .show j.here b o ((a b y).trans z)
def Hk{g:Env}{i:String}{e T:I}{c n v:U}{D:b3 I}{Q:U->XI->Prop}(F:acJ s.heap e c D n T v)
  (k:∀x J,acJ x e c D n T J->(∀b o,b≠T->s.heap.get? b=cL o->x.get? b=cL o)->(∃o,x.get? T=cL o)->E (.ref e) {s with heap:=x}):wpAny M A (ag7 i (.ref e) g:Sem U) Q E s:=by
 let(t,fs,q,w,u,d,y,r,m,C,B,l,dT,p):=F;subst w u;let j:=(Yk.mp p).1;ext ag7;show CL (Yo q d r ?_);rw[aE (show¬((Xx.ref T==Xx.none)=P)from by simp)];ext setFlight;show CL (CL (Yo q d r ?_));rw[ax (show(Xx.ref T !=Xx.none)=P from by simp)];show YZ l dT j (wpAny_throw ?_);let h:∀b,b≠T->(s.heap.update T (Obj.mapFields (·.setIfInBounds 3 (g.frame.elim Xx.none λf=>rawInt f)))).get? b=s.heap.get? b:=λb ne=>cn _ _ ne.symm;let a:=cv (Obj.mapFields (·.setIfInBounds 3 (g.frame.elim Xx.none λf=>rawInt f))) l (dt (dk dT _));show k _ _ #[t,fs,(h e m.symm).trans q,W,W,d,y,r,m,_,_,a,dk dT _,Za j] (λb o ne z=>(h b ne).trans z) #[_,a]
end
end L4
namespace L2
open PySem PySem.Spec PyProof.Rows
def Vt(Y:Cx)(E:XK):U->XI->Prop:=λx a=>∃pins b H1 e c f a0 hd,x=.ref e/\Inv Y pins b H1 a/\L4.Da a.heap e c f a0 hd/\(Y.s₀.heap.get? e=R\/e∈Y.ex)/\(∀T,hd=M T->Y.s₀.heap.get? T=R\/T∈Y.ex)/\H1 e=R/\(∀T,hd=M T->H1 T=R)/\E c f H1
end L2
namespace L4
open PySem PyProof.Rows L2 L3
def Pt{P:Ya}{w:Yq}{K:lD}{k:Str->b3 Xx}{base:Heap}{N:bg Str}{i:Str}{a:Zj}{f:XH}{M:Xx}{A:Ym}{outer:bg Env}{g:XI}{Q:Hp}{E:XK}
  {m:bg (XH×Obj)} {R:L2.St} {H:Hp} {s:XI} {e T:XH} {c O v:Xx} {d:b3 XH} (I:L2.Inv (eO (kF P w) P w K k base N i a f M A outer g Q E) m R H s)
  (F:acJ s.heap e c d O T v) (J:g.heap.get? e=Ld) (G:g.heap.get? T=Ld) (ne:H e=Ld) (u:H T=Ld) (q:E c d H):
  (eO (kF P w) P w K k base N i a f M A outer g Q E).xe (.ref e) s:=by
 let hA:=I.ok.frames;let hF:=I.stack;show DA (L:=g.heap.objs.size) hA hF W F λh' t j F' L=>?_;let X:=L.YX I.YX ne (λT1 z=>by ext z;show u) I.ab3;let sz:=I.sz;let Z:H t=Ld:=by
  rcases j with e|j
  .rw[e];show u
  .show I.YX.fresh j
 let gT:g.heap.get? t=Ld:=by
  rcases j with e|j
  .rw[e];show G
  .show da (Ys sz j)
 let r:∀b o,g.heap.get? b=cL o->b<g.heap.objs.size:=λb o z=>cj z;let h:∀b o,g.heap.get? b=cL o->b≠e/\cL T≠cL b:=λb o z=>#[(λy=>by rw[y,J]at z;ext z),(λy=>by ext y;rw[G]at z;ext z)];show#[e,c,d,O,t,H,W,J,gT,F',ne,Z,I.os,I.bare,?_,X,q];let B:=I.base;show#[λb o z n C _=>?_,λb o z n Y _=>?_,λb o z n _=>?_,λb o z _=>?_,B.acH,B.acu,B.acM]
 .let l:=B.keep b o z n C (λy=>nomatch y)
  show L.keep b o l (h b o z).1 (h b o z).2 λy=>?_;rcases Yi.mp (I.abO b y)with y|y
  .let y:b=g.heap.objs.size:=y;show a7 (r b o z) (by rw[y];show YR _)
  .show C y
 .let(sl,l):=B.slot b o z n Y (λy=>nomatch y);let(p,S):=L.slot b _ l (h b o z).1 (h b o z).2;show#[p,S]
 .show B.free b o z n (λy=>nomatch y)
 .let(U,l):=B.there b o z (λy=>nomatch y);show L.here b U l
def Ik(X:Cx)(E:XK):Prop:=∀(a:L2.St) (H:Hp) (s:XI) (e T:I) (c b v:U) (f:z I),L2.Inv X [] a H s->acJ s.heap e c f b T v->X.s₀.heap.get? e=R->X.s₀.heap.get? T=R->H e=R->H T=R->E c f H->X.xe (.ref e) s
theorem M8{P:Ya}{w:Yq}{K:lD}{d:Str->z U}{base:Heap}{N:G Str}{b:Str}{a:Zj}{f:XH}{m:U}{A:Ym}{outer:G Env}{g:XI}{n:Hp}{E:XK}:
  Ik (eO (kF P w) P w K d base N b a f m A outer g n E) E:=λo H s e T c p v r I F l j i h q=>Pt I F l j i h q
def JD{X:Cx}{h:XI}{l:Hp}{a:Zj}{C:XH}{N:G Str}{d:G XH}{E:XK}:
  dL (kF X.prog X.w) ((bt X h l a C N d).abc (Vt (bt X h l a C N d) E)) E:=by
 rintro f m H s x u I ⟨e,c,J,n,T,t,rfl,le,B,F,ne,A,os,bare,un,YX,q⟩;let r:=I.adU (ch:=[]) os un YX bare (λb z=>nomatch z);let g:∀b,s.heap.get? b=R->h.heap.get? b=R\/b∈d:=λb z=>by
  by_cases j:b∈d
  .show .inr j
  .show .inl ?_
   cases y:h.heap.get? b with
   |none=>rfl
   |some o=>let(v,i):=I.base.there b o y j;rw[z]at i;ext i
 show#[f,m,t,e,c,J,n,M T,W,r.aax,F,g e le,(λp z=>by ext z;show g T B),ne,(λp z=>by ext z;show A),q]
def acJ.at{h h':Heap}{e T:I}{c a v:U}{s:z I}(F:acJ h e c s a T v)(k:∀b o,b=e\/b=T->h.get? b=M o->h'.get? b=M o):acJ h' e c s a T v:=by let(j,fs,q,p,n,d,t,r,m,l,f,i,dT,g):=F;show#[j,fs,k _ _ (.inl W) q,p,n,d,t,r,m,l,f,k _ _ (.inr W) i,dT,g]
end L4
namespace L2
open PySem PySem.Spec PyProof.Rows
theorem Inv.ai3{X:Cx}{a:G (XH×Obj)}{b:St}{H:Hp}{s:XI}(I:Inv X a b H s):Inv X [] b H s:=
 #[I.ok,I.os,I.bare,I.base,I.loc,I.cell,I.free,I.aaz,λp e=>I.pin p (by rw[Yl]at e;show aay _ e),I.YX,I.len]
def JI{X:Cx}{elt V iter:Yc}{ifs:G Yc}{scope:Zj}{pos:Pos}(own:G Str)(u:G (Str×Nat)){wi:TI}{g:TG}{tc:TT}{te:TE}{EK:XK}(cW:X.stack=X.env::X.outer/\X.env.frame=M X.env.locals)(hex:X.ex=[])(k:X.pn=[])(PX:L4.Ik X EK)(hc:X.calm=P)(hi:PI X V iter wi)
  (hg:∀s H C i,PG (bt X s H scope C (cH own u) i) V g) (ht:∀s H C i,yd (bt X s H scope C (cH own u) i) ifs tc) (he:∀s H C i,PE ((bt X s H scope C (cH own u) i).abc (Vt (bt X s H scope C (cH own u) i) EK)) elt te) (hfv:ac0 X scope u)
  (afv:(scope.names.all λy=> !(y.2==X7.free)||(X.env.scope.names.lookup y.1==M X7.cell)||(X.env.scope.names.lookup y.1==M X7.free))=P)
  (S:scope.kind=.function:=by rfl) (hnd:(scope.names.map (·.1)).Nodup:=by left)
  (acL:∀y∈scope.names,y.2=.local->scope.names.lookup y.1=M .local:=by left) (hs:∀x,foldedSetIterable iter X.env x=pure x:=by intro _;rfl):
  PE X (.ListComp elt [#[V,iter,ifs,0]] scope pos) (pP own u wi g tc te):=by
 intro pins s σ H Q I h;let N:=Gy afv;rw[amL];show abt (use:=Ld) W hs (mj (lc I.ok N)) S acL (bZ (hi pins s σ H _ I h) λxv s1 h1=>bZ h1 λitv s2 h2=>?_);let(it,i,tn,J,H2,e,j,T,st2,f2,R):=h2;subst e;show mJ j hc S hnd (lc I.ok N) hfv T st2 f2 (λC=>hg _ _ C _) (λC=>ht _ _ C _) (λC=>he _ _ C _) ?_ (Fin:=λD H'=>Q (.ref D) H') R ?_
 .rintro D C x s3 hC ⟨anM,σ3,l,e,c,dx,a0,hd,rfl,f,F,fe,fT,ne,nT,q⟩
  let hsz:s2.heap.objs.size<=s3.heap.objs.size:=f.sz;show wpAny (model X.prog X.w) X.A (noteFrame (.ref e) X.env) _ _ s3;show L4.Qs (env:=X.env) (outer:=X.outer) (base:=X.base) (L:=X.env.locals) (by rw[<-cW.1];show f.ok.frames) (by rw[<-cW.1];show f.stack) cW.2 F λh' T' Y F' L=>?_;rw[<-cW.1]at L;let(m,hm,_):=f.loc;let hm:s3.heap.Ns C m:=hm;let hn3:l C=Ld:=f.free;let fo:∀b,b=e\/hd=M b->s2.heap.get? b=Ld\/b∈i:=λb z=>by
   rcases z with z|z
   .rw[z];show fe
   .show fT b z
  let alb:∀b,b=e\/hd=M b->∃o vs,s3.heap.get? b=M o/\o.data=.fields vs:=λb z=>by
   let(ob,fs,q1,_,_,d,_,r):=F;rcases z with z|z
   .rw[z];show#[ob,fs,q1,d]
   .subst z;let(_,_,oT,ts,qT,dT,_):=r;show#[oT,ts,qT,dT]
  let nC:¬(C=e\/hd=M C):=λz=>by let(o,vs,q1,d):=alb C z;let(o',es,ep,q2,d2,_):=hm;rw[q1]at q2;ext q2;rw[d]at d2;ext d2
  let nfr:C∉xc X.stack:=λz=>by let(_,o,t,_):=j.stack.mem z;show a7 (Yd (cj t) hC) (YR _)
  let IX:Inv X [] σ l s3:=(j.adU (ch:=i) f.os f.base f.YX f.bare λb a=>#[(f2 b a).2.2.2.1,(f2 b a).2.1,(f2 b a).2.2.2.2.1,(f2 b a).2.2.2.2.2]).ai3;let n0:∀b,b=e\/hd=M b->X.s₀.heap.get? b=Ld:=λb z=>by
   rcases fo b z with y|y
   .cases z0:X.s₀.heap.get? b with
    |none=>rfl
    |some o=>let(o',z1):=j.base.there b o z0 (by rw[hex];show λy=>nomatch y);rw[y]at z1;ext z1
   .rcases(f2 b y).2.2.2.1 with w|w
    .rw[hex]at w;ext w
    .show da w
  let Ia:Inv X [] σ l {s3 with heap:=h'}:=by
   show L4.rB IX (λb=>b=e\/hd=M b) hex (by rw[k];show λp B=>nomatch B) (λb o z n nf=>L.keep b o z (λy=>n (.inl y)) (λy=>n (.inr y)) nf) (λb o z n=>L.slot b o z (λy=>n (.inl y)) (λy=>n (.inr y))) L.here n0 (λz=>?_) (λx cc z y=>?_) (λb z=>?_)
   .rcases fo _ z with y|y
    .let(mm,hn,_):=j.loc;let(o,_,_,t,_):=hn;rw[y]at t;ext t
    .show(f2 _ y).2.1 W
   .rcases fo _ y with w|w
    .let(v,o,t,_):=j.cell x cc z;rw[w]at t;ext t
    .show(f2 _ w).2.2.2.2.1 x cc z W
   .rcases z with z|z
    .rw[z];show ne
    .show nT b z
  let A:l T'=Ld:=f.YX.fresh Y;show#[m,hm.at' λo z=>L.keep C o z (λy=>nC (.inl y)) (λy=>nC (.inr y)) nfr,λh4 sb aei _=>?_];let CT:C<s3.heap.objs.size:=hm.lt;let F4:L4.acJ h4 e c dx a0 T' (rawInt X.env.locals):=F'.at λb o z y=>by
   show(sb.2 b λw=>?_).trans y;rcases z with z|z
   .show nC (.inl (w.symm.trans z))
   .let this:T'=C:=z.symm.trans w;rw[this]at Y;show a7 (Yd CT Y) (YR _)
  show L4.Hk F4 λh5 v' F5 k5 t5=>?_;let(f0,f1,_,f3,f4,f5):=j.adk (H':=l) hC hn3;let Ib:Inv X [] σ l {s3 with heap:=h4}:=Ia.turned (t':=s3.toks) (λb o a z=>(sb.2 b a).trans z) f0 f1 f3 f4 (by rw[k];show λp B=>nomatch B);let(g0,g1,_,g3,g4,g5):=j.adk (H':=l) (Ys hsz Y) A;let Ic:Inv X [] σ l {s3 with heap:=h5}:=Ib.turned (t':=s3.toks) (λb o a z=>k5 b o a z) g0 g1 g3 g4 (by rw[k];show λp B=>nomatch B);show PX σ l _ e T' c a0 v' dx Ic F5 (n0 e (.inl W)) ?_ ne A q;rcases g3 with w|w
  .rw[hex]at w;ext w
  .show da w
 .intro D C H' s' I' fin hm hC hn;let(m,hm):=hm;show#[m,hm,λh' hs'=>#[.ref D,H',?_,W,fin]];let(f0,f1,_,f3,f4,f5):=j.adk hC hn;show I'.turned (t':=s'.toks) (λb o a q=>(hs'.2 b a).trans q) f0 f1 f3 f4 f5
end L2
namespace L10
open PySem PyProof.Rows L2 L3
section
variable{B O u:bK}{K:lD}{E:XK}{H q L H2:Hp}{X C U A:bg XH}{S y N Z:aN}{Y:L2.St}{T:aR}{v:V}
theorem Qy{g:TG}{gt:yS}(h:E4 K E0 g gt):E4 K E g (λx T S=>gP (gt x T S)):=λB Y H X S T v x Q s a r w=>h B Y H X S T v x Q s a r (WS.e0 w)
theorem Rg{t:TT}{b:tS}(h:t7 K E0 t b):t7 K E t (λT S=>gP (b T S)):=λB Y H X S T Q s a w=>h B Y H X S T Q s a (WS.e0 w)
def oJ(n:Nat)(c:G Nat)(a:J3)(gt:yS)(b:tS)(d:cT):cT:=λT S=>(a T S).bind λds N=>(bL (λx T S=>gP (gt x T S)) (λT S=>gP (b T S)) d ds (d6 n c T) N []).bind λxs Z=>.ok (.rf Z.length) (Z++[.lst xs])
def De{own:G Str}{d:G (Str×Nat)}{a:TI}{g:TG}{b:TT}{c:TE}{f:J3}{gt:yS}{k:tS}{t:cT}{n:Nat}{r:G Nat}(x:own.length=n)(o:d.map (·.2)=r)
  (D:Qp K E a f) (m:E4 K E0 g gt) (l:t7 K E0 b k) (p:cg K E c t):cg K E (pP own d a g b c) (oJ n r f gt k t):=by
 intro B Y H X S T Q s e w;show D B Y H X S T _ s e (WS.imp (WS.bind w) λds U N L e1 i h J j=>?_);show sG x o (Qy m) (Rg l) p i (e.ZM e1) j h
end
end L10
namespace L3
open PySem L2
section
variable{P:Ya}{w:Yq}{K:lD}{S:Str->b3 Xx}{base h:Heap}{f C:XH}{n m q:Str}{t:Zn}{T fs:bg Str}{Z k:Nat}{Q N:Sp}{Y:wB}
theorem MI.ai5(i:MI K C f m q t)(c:CI K C n fs)(b:BA m q t T)(ok:∀fd,Fun K m q t f fd->FnOk P w K S base Y Z f fd T Q):L10.oz P w K S base Y Z n m T Q:=
 let#[fd,z]:=i.F;#[C,f,fd,c.a,c.cls,#[i.a,i.i,z.kp],ok fd z,z.binds b]
theorem MI.alO(i:MI K C f "__init__" q t)(c:CI K C n fs)(X:K.In h)(G:h.Ns X8 S)(b:BA "__init__" q t T)(ok:∀fd,Fun K "__init__" q t f fd->FnOk P w K S base Y Z f fd T Q):L10.yQ P w K S base Y Z n T Q:=
 let#[fd,z]:=i.F;#[C,f,fd,c.a,Zh X G c.a,#[c.mm,i.a,i.i,c.kc],ok fd z,z.binds b]
end
end L3
namespace L10
open PySem PySem.Spec PyProof.Rows L2 L3
section
variable{B O Q:bK}{K:lD}{E:XK}{H H' Y H2:Hp}{α α' Z α2:bg XH}{T ω' X ω2:aN}{σ:L2.St}{S:aR}{v:V}
def nu(c f:Str)(a:cT):dU:=λS T=>(a S T).bind λx X=>match x with
 |.fz d=>if L9.UZ d=P then .er #[c,[(f,d)]] X else .bad
 |_=>.bad
def Ao(M:Yh K X8 c=cL (cL (.ref C)))(L:cg K E te fe):pV K E (L9.Cy C (L9.wC C f) E (ei te iL)) (nu c f fe):=by
 intro B σ H α T S D s G w;show L B σ H α T S _ s G (WS.imp (WS.bind w) λx Z X Y e1 I a v h=>?_)
 match x,h,a with
 |.fz d,h,a=>
  let h:=h;dsimp only at a;by_cases r:L9.UZ d=XA
  .rw[ax r]at a
   let j:L9.S3 v/\∀(Q:bK) (H':Hp),L3.DV Q K H' v d:=by
    cases d with
    |none=>ext h;show#[.inl W,λ_ _=>.Zw]
    |int i=>ext h;show#[.inr #[i,W,a6 r],λ_ _=>.int i]
    |_=>ext r
   show#[by show 1<=XY;decide,λe hn=>#[e,v,W,j.1,aI,λp F g=>#[W,p,?_,?_]]]
   .rw[az (dN g),aI]
   .let u:Y p=R:=by rw[az g]at F;show F
    let A:Zi Y (L9.S9 (bf (bf (bf Y e (.ext (L9.JY C e))) e (.ext (L9.S8 C e p))) p (.xd [(f,v)])) e):=λb o z=>by
     let t:b≠e:=λy=>by rw[y,hn]at z;ext z
     let J:b≠p:=λy=>by rw[y,u]at z;ext z
     rw[L9.jM t,az J,az t,az t];show z
    show a (.ref C) (cL p) Z _ (Zm.same A) (I.grow A) #[#[C,W,M],[(f,v)],λP q=>?_,λm N l=>#[(λz=>nomatch z),?_]]
    .ext q;rw[L9.jM g,aI]
    .let n:(match m==f with|true=>cL d|false=>Zu m [])=cL N:=l
     cases hb:m==f with
     |true=>rw[hb]at n;ext n;show#[v,?_,j.2 _ _];show(match m==f with|true=>cL v|false=>Zu m [])=cL v;rw[hb]
     |false=>rw[hb]at n;ext n
  .rw[aE r]at a;show a.elim
 |.rf _,_,a=>show a.elim
 |.tp _,_,a=>show a.elim
end
end L10
namespace L3
open PySem L2
theorem Gq{X:Cx}{P:Ya}{w:Yq}:dL (L4.kF P w) X E0:=λ_ _ _ _ _ _ _ h=>by let(_,_,_,_,_,_,_,_,_,_,_,_,_,_,_,_,h):=h;show h.elim
end L3
namespace L10
open PySem PyProof.Rows L2 L3
section
variable{B O u:bK}{K:lD}{E:XK}{H t S r:Hp}{N J Z C:bg XH}{X A Y y:aN}{L:L2.St}{T:aR}{v:V}
def mB(F:fq)(n:Nat)(es:G D)(a:t6):cT:=λT X=>(a T X).bind λxs Y=>if(xs++es.map SV.fz).length=n then gP (F (xs++es.map SV.fz) Y)else .bad
def Ah(hd:∀O H,L3.Zc O K H o es)(c:ug K E ta fa):cg K E (jW (kj K n F) o E0 ta) (mB F n es fa):=by
 intro B L H N X T Q s e w;show c B L H N X T _ s e (w.bind.imp λxs Z Y S e1 f b h g=>?_);by_cases hn:(xs++es.map SV.fz).length=n
 .rw[ax hn]at b;let a:=Ab g (jC (ow B Z Y) Z (hd (ow B Z Y) S));show#[a.length.trans hn,B,Z,Y,_,f,a,WS.e0 b]
 .rw[aE hn]at b;show b.elim
end
end L10
namespace L10
open PySem L2 L3
def VR(T:A->aN->Prop)(X:Xc->Prop):RS A->Prop
 |.ok a b=>T a b
 |.er x _=>X x
 |.bad=>False
structure Out{A:Type}(r:RS A)(T:A->aN->Prop)(X:Xc->Prop):Prop where
 out:VR T X r
section
variable{A B:Type}{r r':RS A}{T S:A->aN->Prop}{U:B->aN->Prop}{X:Xc->Prop}{Y:aN}
def Out.eq(e:r=r')(h:Out r' T X):Out r T X:=by rw[e];show h
def Out.imp(h:Out r T X)(k:∀a Y,T a Y->S a Y):Out r S X:=by
 show#[?_];let h:=h.out;cases r with
 |bad=>show h
 |er x o=>show h
 |ok a o=>show k a o h
def Out.bind(h:Out r (λa o=>Out (f a o) U X) X):Out (r.bind f) U X:=by
 show#[?_];let h:=h.out;cases r with
 |bad=>show h
 |er x o=>show h
 |ok a o=>show(show Out (f a o) U X from h).out
def Out.all(h:Out r T λ_=>False):∃a o,r=.ok a o/\T a o:=by
 let h:=h.out;cases r with
 |bad=>show h.elim
 |er x o=>show h.elim
 |ok a o=>show#[a,o,W,h]
def Out.er(h:Out r (λ_ _=>False) X):∃x o,r=.er x o/\X x:=by
 let h:=h.out;cases r with
 |bad=>show h.elim
 |er x o=>show#[x,o,W,h]
 |ok a o=>show h.elim
end
section
variable{ρ ρ1 S:aR}{ω ω1 Z Y:aN}{x y z:SV}{i n:Nat}{d:D}{ds:bg D}{b:Bool}{f g:dU}{fe:cT}{N:aR->aN->Prop}{T:SV->aN->Prop}{X:Xc->Prop}
def Xs(N:aR->aN->Prop)(T:SV->aN->Prop):FlS->aN->Prop
 |.nx ρ,ω=>N ρ ω
 |.rt v,ω=>T v ω
 |_,_=>False
abbrev kg(r:RS FlS)(N:aR->aN->Prop)(T:SV->aN->Prop)(X:Xc->Prop):Prop:=Out r (Xs N T) X
def jS(h:kg (f ρ ω) (λr o=>kg (g r o) N T X) T X):kg (aC f g ρ ω) N T X:=by
 show Out.bind (h.imp λa o k=>?_);cases a with
 |nx r=>show k
 |rt v=>show#[k]
 |ct r=>show k.elim
 |bk r=>show k.elim
theorem sZ(a:f ρ ω=.ok (.nx ρ1) ω1)(h:kg (g ρ1 ω1) N T X):kg (aC f g ρ ω) N T X:=jS (.eq a #[h])
theorem wG(a:f ρ ω=.ok (.nx ρ1) ω1)(h:N ρ1 ω1):kg (f ρ ω) N T X:=.eq a #[h]
theorem dc(e:fe ρ ω=.ok x ω1)(a:gt x ρ ω1=.ok ρ1 Z)(h:kg (g ρ1 Z) N T X):kg (aC (bG fe gt) g ρ ω) N T X:=sZ (by ext bG;rw[e,ej,a,ej]) h
theorem w6(a:Out (fe ρ ω) (λx ω1=>kg (g (ρ.set i (M x)) ω1) N T X) X):kg (aC (bG fe (b7 i)) g ρ ω) N T X:=jS (Out.bind (a.imp λ_ _ k=>#[k]))
theorem Fc(a:Out (fe ρ ω) (λ_ ω1=>kg (g ρ ω1) N T X) X):kg (aC (bh fe) g ρ ω) N T X:=jS (Out.bind (a.imp λ_ _ k=>#[k]))
def RL{a j:dU}(e:c ρ ω=.ok P ω1)(h:kg (aC a g ρ ω1) N T X):kg (aC (ce c a j) g ρ ω) N T X:=by show .eq ?_ h;unfold aC ce;rw[e,ej,ax W]
def AG{j a:dU}(e:c ρ ω=.ok XF ω1)(h:kg (aC a g ρ ω1) N T X):kg (aC (ce c j a) g ρ ω) N T X:=by show .eq ?_ h;unfold aC ce;rw[e,ej,aE X9]
theorem wu(h:kg (g ρ ω) N T X):kg (aC cF g ρ ω) N T X:=jS #[h]
theorem vT(a:fe ρ ω=.ok x ω1)(h:T x ω1):kg (fu fe ρ ω) N T X:=.eq (gK a) #[h]
theorem LJ(a:fe ρ ω=.ok x ω1)(h:T x ω1):kg (aC (fu fe) g ρ ω) N T X:=jS (vT a h)
theorem A5(a:Out (fe ρ ω) T X):kg (fu fe ρ ω) N T X:=Out.bind (a.imp λ_ _ k=>#[k])
def pf(a:xs.map M++XU (n - xs.length) R=ρ)(h:kg (g ρ ω) (λ_ c=>T (.fz .none) c) T X):Out (cy n g xs ω) T X:=by
 ext cy;rw[a];show Out.bind (h.imp λe o k=>?_);cases e with
 |nx r=>show#[k]
 |rt v=>show#[k]
 |ct r=>show k.elim
 |bk r=>show k.elim
theorem Il{b:dU}(I:Nat->aR->aN->Prop)(M:Nat)(j:∀n ρ ω,I n ρ ω->(∃ω1,c ρ ω=.ok XF ω1/\N ρ ω1)\/(n<M/\∃ω1,c ρ ω=.ok P ω1/\kg (b ρ ω1) (I (n+1)) T X)):∀(m n:Nat) (ρ:aR) (ω:aN),M - n<m->I n ρ ω->kg (uc c b m ρ ω) N T X
 |0,n,_,_,h,_=>by ext
 |m+1,n,ρ,ω,h,h0=>by
  rcases j n ρ ω h0 with⟨ω1,e,p⟩|⟨q,ω1,e,l⟩
  .show .eq (show uc c b (m+1) ρ ω=.ok (.nx ρ) ω1 from ?_) #[p];show((c ρ ω).bind _)=_;rw[e,ej,aE X9]
  .show .eq (show uc c b (m+1) ρ ω=(b ρ ω1).bind λa Z=>match a with
    |.nx S=>uc c b m S Z
    |.ct S=>uc c b m S Z
    |.bk S=>.ok (.nx S) Z
    |.rt x=>.ok (.rt x) Z from ?_) (Out.bind (l.imp λa o k=>?_))
   .show((c ρ ω).bind _)=_
    rw[e,ej,ax W]
    all_goals (cases b ρ ω1 with
     |bad=>rfl
     |er x o=>rfl
     |ok a o=>ext a<;>rfl)
   .cases a with
    |nx r=>show Il I M j m (n+1) r o () k
    |rt v=>show#[k]
    |ct r=>show k.elim
    |bk r=>show k.elim
theorem xw{b:dU}(I:Nat->aR->aN->Prop)(M:Nat)(h:M<1000000)(e:I 0 ρ ω)(a:∀n ρ ω,I n ρ ω->(∃ω1,c ρ ω=.ok XF ω1/\N ρ ω1)\/(n<M/\∃ω1,c ρ ω=.ok P ω1/\kg (b ρ ω1) (I (n+1)) T X)):kg (mG c b ρ ω) N T X:=Il I M a 1000000 0 ρ ω () e
theorem CF{b:dU}(I:Nat->aR->aN->Prop):∀(ds:G D) (k:Nat) (ρ:aR) (ω:aN),I k ρ ω->(∀i d ρ ω,ds[i]?=M d->I (k+i) ρ ω->∃ρ1 ω1,gt (.fz d) ρ ω=.ok ρ1 ω1/\kg (b ρ1 ω1) (I (k+i+1)) T X)->kg (jw gt b ds ρ ω) (I (k+ds.length)) T X
 |[],k,ρ,ω,h0,_=>#[h0]
 |d::r,k,ρ,ω,h0,B=>by
  let(ρ1,ω1,w,u):=B 0 d ρ ω W h0;let p:∀j a,I (k+1) j a->kg (jw gt b r j a) (I (k+(r.length+1))) T X:=λj a h=>by
   let e:k+(r.length+1)=k+1+r.length:=by ext
   rw[e];show CF I r (k+1) j a h λi A m l C t=>?_;let e:k+1+i=k+(i+1):=by ext
   rw[e]at t⊢;show B (i+1) A m l (by simpa using C) t
  show .eq (show jw gt b (d::r) ρ ω=(b ρ1 ω1).bind λq Z=>match q with
   |.nx S=>jw gt b r S Z
   |.ct S=>jw gt b r S Z
   |.bk S=>.ok (.nx S) Z
   |.rt x=>.ok (.rt x) Z from ?_) (Out.bind (u.imp λq o k=>?_))
  .show((gt (.fz d) ρ ω).bind _)=_
   rw[w,ej]
   all_goals (cases b ρ1 ω1 with
    |bad=>rfl
    |er x o=>rfl
    |ok q o=>ext q<;>rfl)
  .cases q with
   |nx r=>show p _ _ k
   |rt v=>show#[k]
   |ct r=>show k.elim
   |bk r=>show k.elim
def ve{b:dU}(I:Nat->aR->aN->Prop)(m:C ρ ω=.ok ds ω1)(h:I 0 ρ ω1)(a:∀i d ρ ω,ds[i]?=M d->I i ρ ω->∃ρ1 ω1,gt (.fz d) ρ ω=.ok ρ1 ω1/\kg (b ρ1 ω1) (I (i+1)) T X)(e:∀l c,I ds.length l c->N l c):kg (og C gt b ρ ω) N T X:=by
 let:=CF I ds 0 ρ ω1 h (by simpa using a);rw[YB]at this;show .eq ?_ (this.imp λj o k=>?_)
 .ext og;rw[m,ej]
 .cases j with
  |nx r=>show e _ _ k
  |rt v=>show k
  |ct r=>show k.elim
  |bk r=>show k.elim
theorem ig(I:Nat->aR->aN->G SV->Prop):∀(ds:G D) (k:Nat) (ρ:aR) (ω:aN) (acc:G SV),I k ρ ω acc->(∀i d ρ ω acc,ds[i]?=M d->I (k+i) ρ ω acc->acc.length<1000000/\∃ρ1,gt (.fz d) ρ ω=.ok ρ1 ω/\ft ρ1 ω=.ok P ω/\Out (fe ρ1 ω) (λx Z=>I (k+i+1) ρ1 Z (acc++[x])) X)->Out (bL gt ft fe ds ρ ω acc) (λxs c=>∃s,I (k+ds.length) s c xs) X
 |[],k,ρ,ω,acc,h0,_=>#[ρ,h0]
 |d::r,k,ρ,ω,acc,h0,A=>by
  let(p,ρ1,u,t,q):=A 0 d ρ ω acc W h0;show .eq (show bL gt ft fe (d::r) ρ ω acc=(fe ρ1 ω).bind λx Y=>bL gt ft fe r ρ1 Y (acc++[x])from ?_) (Out.bind (q.imp λx o m=>?_))
  .show((gt (.fz d) ρ ω).bind _)=_
   rw[u,ej,t,ej,ax W];cases fe ρ1 ω with
   |bad=>rfl
   |er x o=>rfl
   |ok x o=>show(if acc.length<1000000 then _ else _)=_;rw[ax p];rfl
  .let e:k+(d::r).length=k+1+r.length:=by rw[XZ];ext
   rw[e];show ig I r (k+1) ρ1 o _ m λi v h a j B l=>?_;let e:k+1+i=k+(i+1):=by ext
   rw[e]at l⊢;show A (i+1) v h a j (by simpa using B) l
def AB(c:J ρ ω=.ok ds ω1)(a:Out (bL (λx ρ ω=>gP (gt x ρ ω)) (λρ ω=>gP (o ρ ω)) fe ds (d6 n C ρ) ω1 []) (λxs Z=>T (.rf Z.length) (Z++[.lst xs])) X):Out (oJ n C J gt o fe ρ ω) T X:=by ext oJ;rw[c,ej];show Out.bind (a.imp λ_ _ k=>#[k])
def CW(a:fo ρ ω=.ok (.rf i) ω1)(h:ω1[i]?=M (.obj C fs))(hm:fs.lookup m=R)(j:fa ρ ω1=.ok xs Z)(c:(SV.rf i::xs).length=n):jY C m F n fo fa ρ ω=F (.rf i::xs) Z:=by
 let e:l9 ω1 C m (.rf i)=P:=by ext l9;dsimp only;rw[h];dsimp only;rw[hm];simp
 ext jY;rw[a,ej,ax e,j,ej,ax c]
def zE(c:fa ρ ω=.ok xs ω1)(a:(SV.rf ω1.length::xs).length=n):pk C F n fa ρ ω=(F (.rf ω1.length::xs) (ω1++[.obj C []])).bind λr Z=>(if Dx r=P then .ok (.rf ω1.length) Z else .bad):=by ext pk;rw[c,ej];ext uY;rw[ax a]
def yc(c:fa ρ ω=.ok xs ω1)(a:(xs++es.map SV.fz).length=n):uN F n es fa ρ ω=F (xs++es.map SV.fz) ω1:=by ext uN;rw[c,ej,ax a]
def oE(e:o ρ ω=.ok xs ω1)(c:(xs++es.map SV.fz).length=n)(a:F (xs++es.map SV.fz) ω1=.ok x Z):mB F n es o ρ ω=.ok x Z:=by ext mB;rw[e,ej,ax c,a];rfl
def Ei{c f:Str}(h:fe ρ ω=.ok (.fz d) ω1)(hd:L9.UZ d=P):nu c f fe ρ ω=.er #[c,[(f,d)]] ω1:=by ext nu;rw[h,ej];dsimp only;rw[ax hd]
end
end L10
namespace L3
open PySem PyProof.Rows L2
section
variable{P:Ya}{w:Yq}{K:lD}{Q:Str->b3 Xx}{base h:Heap}{f T:XH}{n:Str}{t:Zn}{S:bg Str}{Y:Nat}{N:Sp}{U:wB}{Z:Array Xx}
theorem NI.akR(i:NI K f n t)(X:K.In h)(G:h.Ns X8 Q)(b:BA n n t S)(ok:∀fd,Fun K n n t f fd->FnOk P w K Q base U Y f fd S N):Af P w K Q base U Y n S [] N:=
 let#[fd,z]:=i.F;#[f,fd,[],ok fd z,z.binds b,.nil,z.kp,Zh X G i.a]
structure DI(K:lD)(f T:I)(n:Str)(t:Zn)(Z:Array Xx):Prop where
 a:Yh K X8 n=M (M (.ref f))
 F:∃fd,adY K n n t f fd T Z
theorem LH{x a:Str}{b:Zn}{r:Xx}{q:z I}{kV e j:Xx}{l:z I}{i ct:Xx}{g:Array (z Xx)}{p:Xx}{o:z I}{k:Nat}{m:Array (z Xx)}
  (u:K.lookup f=M #[r,q,.func (Y4 x a (fJ b) (bW b) (av b) (.ref T) kV e j l i ct),g]) (y:aaC K i a=XA) (v:Zb K (.ref f)=XA) (lt:K.lookup T=M #[p,o,.seq Z k,m]):adY K x a b f (Y4 x a (fJ b) (bW b) (av b) (.ref T) kV e j l i ct) T Z:=
 #[#[_,_,_,_,_,_,_,_,_,W,u,y],v,_,_,lt,W]
def BD(n:Str)(t:Zn)(T:I)(Z:Array Xx)(S:G Str)(ds:G Xx):Prop:=∀(kV b e:Xx) (g:z I) (i ct:Xx) (a:G Xx),(a++ds).length=S.length->∃k:z (Array Xx)->Sem (G (Str×Xx)),bindArgs (Y4 n n (fJ t) (bW t) (av t) (.ref T) kV b e g i ct) #[a,[]]=seqItems? (.ref T)>>=k/\k (M Z)=pure (S.zip (a++ds))
theorem DI.cal{ds:bg Xx}{b:bg V}(i:DI K f T n t Z)(X:K.In h)(G:h.Ns X8 Q)(g:BD n t T Z S ds)(e:Vals b ds)(ok:∀fd,adY K n n t f fd T Z->FnOk P w K Q base U Y f fd S N):Af P w K Q base U Y n S b N:=
 let#[fd,z]:=i.F;#[f,fd,ds,ok fd z,z.binds g,e,z.kp,Zh X G i.a]
end
structure Tp(P:Ya)(w:Yq)(K:lD)(mg:Str->z U)(base h:Heap):Prop where
 X:K.In h
 G:h.Ns X8 mg
section
variable{P:Ya}{w:Yq}{K:lD}{X:Str->b3 Xx}{base h:Heap}{f C T:XH}{n m q:Str}{t:Zn}{S fs:bg Str}{Z:Nat}{Q:Sp}{Y:wB}{U:Array Xx}
theorem NI.c(i:NI K f n t)(W:Tp P w K X base h)(ok:∀fd,Fun K n n t f fd->FnOk P w K X base lK Z f fd S Q)(a:BA n n t S:=by ext:2):xU P w K X base Z n S Q:=i.cal W.X W.G a ok
theorem NI.d(i:NI K f n t)(W:Tp P w K X base h)(ok:∀fd,Fun K n n t f fd->FnOk P w K X base Y Z f fd S Q)(a:BA n n t S:=by ext:2):Af P w K X base Y Z n S [] Q:=i.akR W.X W.G a ok
theorem MI.mt(i:MI K C f m q t)(c:CI K C n fs)(W:Tp P w K X base h)(ok:∀fd,Fun K m q t f fd->FnOk P w K X base Y Z f fd S Q)(a:BA m q t S:=by ext:2):L10.oz P w K X base Y Z n m S Q:=i.ai5 c a ok
theorem MI.k(i:MI K C f "__init__" q t)(c:CI K C n fs)(W:Tp P w K X base h)(ok:∀fd,Fun K "__init__" q t f fd->FnOk P w K X base Y Z f fd S Q)(a:BA "__init__" q t S:=by ext:2):L10.yQ P w K X base Y Z n S Q:=i.alO c W.X W.G a ok
theorem DI.c{ds:G Xx}{a:G V}(i:DI K f T n t U)(W:Tp P w K X base h)(b:Vals a ds)(ok:∀fd,adY K n n t f fd T U->FnOk P w K X base Y Z f fd S Q)(e:BD n t T U S ds:=by ext:8):Af P w K X base Y Z n S a Q:=i.cal W.X W.G e b ok
end
end L3
namespace LD
open PySem PySem.Spec PyProof.Rows L2 L3
section
variable{X:Ya}{w:Yq}{K:Type}[DecidableEq K]{Y:akI X w K}{A:Ym}{E:Xx->XI->Prop}{s:XI}
def Dc(t:Y.room A)(g:Y.is s.heap k a)(hm:s.heap.DictOfH Y d xs)(D:xs.length<=XY)
  (F:∀p,atKey xs k=M p->Q p.2 {s with toks:=s.toks+Y.draws k})
  (C:atKey xs k=R->∀c,c.DictOfH Y d (storedH xs k a v)->Heap.SameBut d s.heap c->Q v {s with heap:=c,toks:=s.toks+Y.draws k}):wpAny (model X w) A (dictSetDefault d (.ref a) v) Q E s:=by
 let(o,es,G,h,B,f,n,m,J):=hm;ext dictSetDefault
 try specialize Y6 ?_
 show CL (Y.pyHash t g (CL (wpAny_dictFind_heap t g h f n m J (λi=>?_) λj p u=>?_)))
 .let l:=atKey_none_of_get i
  let q:=C l;rw[storedH_new l]at q;let r:=not_mem_keys_of_get i;show CL (aba (CL (wpAny_updateDictKeys (hz:=by let e:=aju n;ext) h f (XN (q _ #[_,_,G+1,cv _ h (Obj.isFreed_of_dict (Obj.data_mapDictKeys f _)),B.mapDictKeys _,Obj.data_mapDictKeys f _,by simp[n,entryOfKey],λx b=>?_,?_] (Heap.SameBut.update ..))))))
  .rcases YF.mp b with b|b
   .show Y.keeps (m x b) h f (Heap.SameBut.update ..)
   .rw[Yj.mp b];show Y.keeps g h f (Heap.SameBut.update ..)
  .rw[X2,aai];show#[J,by simp,λx b y z e=>r (by rw[Yj.mp z]at e;rw[show k=x from e.symm];show b)]
 .let q:=F p (atKey_of_get J u);show CL (ahO h f ?_);rw[entry_at n j,u];show CL (aba (XN q))
theorem yH(d a:I)(hd:(d==Y2)=XF)(v:U):MeetsIn X w (Yw.«dict.setdefault» #[[.ref d,.ref a,v],[]]) (λA R s=>Y.room A.in1/\∃k xs,Y.is s.heap k a/\s.heap.DictOfH Y d xs/\xs.length<=XY/\
  (∀p,atKey xs k=M p->R (.ok (.ret p.2)) {s with toks:=s.toks+Y.draws k})/\(atKey xs k=Ld->∀c,c.DictOfH Y d (storedH xs k a v)->Heap.SameBut d s.heap c->R (.ok (.ret v)) {s with heap:=c,toks:=s.toks+Y.draws k})):=
 .of_wp λA R s #[h,k,xs,g,hm,b,l,j]=>by show CL ?_;show CL (af2 hm.typeIs ?_);show XN ?_;show wpAny _ _ (if(d==Y2)=P then _ else(dictSetDefault d (.ref a) v>>=_)) _ _ s;rw[aE (by rw[hd];show X9)];show CL (Dc h g hm b (λp i=>XN #[p.2,W,l p i]) λm c f e=>XN #[v,W,j m c f e])
end
section
variable{X:Cx}{Z:bg (XH×Obj)}{Y:L2.St}{H:Hp}{s:XI}{A:Ym}{E:Xx->XI->Prop}{a b:XH}{T:bg (KD×XH×V)}{k:KD}{v:V}{r:Xx}
def M7(M:A.units+64<cLine)(I:L2.Inv X Z Y H s)(e:H a=cL (DkO a T))(y:qD X.K H T)(C:L2.DV X.K H (.ref b) k.1)(x:RelV v r)(N:T.length<XY)
  (J:∀u d c,ke T k=cL u->L2.Inv X Z Y H c->RelV u d->Q d c) (G:ke T k=R->∀c,L2.Inv X Z Y (bf H a (DkO a (lL T k b v))) c->Q r c):
  wpAny (model X.prog X.w) A (call (.builtin "dict.setdefault") [.ref a,.ref b,r]) Q E s:=by
 let(z,m,l,h,dd):=uu I e y;let n:l.length<=XY:=by rw[<-Paired.length h];show z
 let j:(lL T k b v).length<=XY:=by let:=pT T k b v;ext
 let f:=vM (k:=k) h;show acS acq dd.typeIs PySem.F.entry_dict_setdefault (PySem.F.args_dict_setdefault_3 _ _ _) (yH a b m r) #[nj (),k,l,oj I C,dd,n,λp t=>?_,λhn L i o=>?_]
 .rw[t]at f
  cases g:ke T k with
  |none=>rw[g]at f;show f.elim
  |some u=>rw[g]at f;show J u p.2 _ g (I.tok _) f
 .rw[hn]at f
  cases g:ke T k with
  |some u=>rw[g]at f;show f.elim
  |none=>
   show G g _ ?_;let B:∃q,L.get? a=cL q:=let#[q,_,_,S,_]:=i;#[q,S]
   show nZ I (by rw[e];show True.intro) o B (zO j m (IK x h) i)
def OB(K:lD)(h ty g:TE):TE:=λY H Q=>h Y H λx f=>∃a j,x=.ref a/\f a=M (DkO a j)/\ty Y f λy i=>g Y i λz e=>∃b T k,y=.ref b/\e a=M (DkO a T)/\qD K e T/\L2.DV K e (.ref b) k.1/\T.length<XY/\
 (∀u,ke T k=M u->Q u e)/\(ke T k=R->Q z (bf e a (DkO a (lL T k b z))))
end
section
variable{X:Cx}{o e f:Yc}{td ty tx:TE}{Z Z1:Pos}
def pe_ddsd(P:X.A.units+64<cLine)(R:PE X o td)(U:PE X e ty)(T:PE X f tx)(m:M2 X o "setdefault" Z e f Z1):PE X (.Call (.Attribute o "setdefault" Z) [e,f] [] Z1) (OB X.K td ty tx):=by
 intro i s j H Q I h;show ahL m.base m.few m.line aaW acq PySem.F.type_dict_setdefault (bZ (R i s j H _ I h) λu B a=>?_);let(x,H1,p,E,a,q,ex,e0,A):=a;subst ex;obtain rfl:=E;let(t,r,_):=Bm p e0;show#[t,r,?_];rw[m.trees];show Calls.callWith_builtin W (Calls.evalArgs_plain (Calls.spliced_cons (bZ (U i B j H1 _ p A) λiv w #[y,H2,I2,C,L]=>
  Calls.spliced_cons (bZ (T i w j H2 _ I2 L) λfv s3 a=>?_))));let(z,H3,I3,rz,b,xs,k,Y,e3,N,O,S,J,G):=a;show Calls.spliced_nil ?_
 subst Y;obtain rfl:=C;show M7 P I3 e3 N O rz S (λu w' v g n l=>#[u,H3,n,l,J u g]) λg v n=>#[z,_,n,rz,G g]
end
end LD
namespace L10
open PySem PyProof.Rows L2 L3 LD
section
variable{B O O':bK}{K:lD}{E:XK}{H H' H1 H2:Hp}{α α' U X:bg XH}{ω ω' ω1 Y Z:aN}{T:L2.St}{ρ:aR}{v:V}
def uw(fd b a:cT):cT:=λρ ω=>(fd ρ ω).bind λo ω1=>(RS.YD ω1 (oK ω1 o)).bind λ_ ω1=>(b ρ ω1).bind λx Y=>(a ρ Y).bind λz Z=>(RS.YD Z (kO x)).bind λk Z=>(RS.YD Z (S4 z)).bind λe Z=>(RS.YD Z (oK Z o)).bind λp Z=>
 if p.2.length<1000000 then(match fS p.2 k with
  |some d=>.ok (.fz d) Z
  |none=>.ok (.fz e) (Z.set p.1 (.dd (jX p.2 k e))))else .bad
def JF(hd:cg K E td fd)(D:cg K E tk fk)(c:cg K E tx fx):cg K E (OB K td tk tx) (uw fd fk fx):=by
 intro B T H α ω ρ Q s t w;show hd B T H α ω ρ _ s t (w.bind.imp λo U ω1 H1 e1 L r u N=>?_);let((i0,aiA),q0,r):=WS.YD r;let(_,a,p,_,rfl,g0,_):=uL L N q0;show#[a,p,W,g0,?_];show D B T H1 U ω1 ρ _ L (t.ZM e1) (r.bind.imp λx X Y H2 e2 s2 S v hv=>?_);show c B T H2 X Y ρ _ s2 (t.ZM (e1.trans e2)) (S.bind.imp λz f Z j e3 A g l hz=>?_);let(d,q1,g):=WS.YD g;let(e,C,g):=WS.YD g;let((i,Yf),q2,g):=WS.YD g;let(F,a',xs,ha,ea,g1,n):=uL A (N.ZM (e2.trans e3)) q2;ext ea;let(k,b,rfl,rfl,P):=nw q1 (hv.ZM e3);let h:L3.DV (ow B f Z) K j l e:=by
  cases z with
  |fz d=>ext C;show hz
  |rf _=>ext C
  |tp _=>ext C
 by_cases I:Yf.length<1000000
 .rw[ax I]at g
  let G:xs.length<XY:=rT (by rw[Paired.length n];show I);let(M,p2):=rH n;show#[b,xs,k,W,g1,xN n,P.plain,G,λu m=>?_,λR=>?_]
  .cases q:fS Yf k.1 with
   |none=>rw[p2 q]at m;ext m
   |some y=>rw[q]at g;let(u',J,h'):=M y q;rw[J]at m;ext m;show WS.now A g _ h'
  .cases q:fS Yf k.1 with
   |some y=>let(u',J,_):=M y q;rw[J]at R;ext R
   |none=>rw[q]at g;let ev:Ev (ow B f Z) j (ow B f Z) (bf j a (DkO a (lL xs k b l))):=ph ha F (by nofun);let e4:Zm f Z j f (Z.set i (.dd (jX Yf k.1 e))) (bf j a (DkO a (lL xs k b l))):=Zm.put ha F (by nofun) (by nofun);show g f _ e4 (A.put ha F (by nofun) (by nofun) #[_,aI,yx (P.ev ev) (h.ev ev) (Jw ev n)]) l (VOk.ZM e4 h)
 .rw[aE I]at g;show g.elim
end
end L10
namespace LD
open PySem PySem.Spec PyProof.Rows L2 L3
section
variable{Y:Ya}{w:Yq}{K:Type}[DecidableEq K]{X:akI Y w K}{A:Ym}{E:Xx->XI->Prop}{s:XI}
theorem zh(d:I)(hd:(d==Y2)=XF):MeetsIn Y w (Yw.«dict.__len__» #[[.ref d],[]]) (λ_ R s=>∃xs,s.heap.DictOfH X d xs/\R (.ok (.ret (.int xs.length s.toks))) {s with toks:=s.toks+1}):=
 .of_wp λA R s #[xs,hm,h]=>by let(o,es,i,b,g,a,f,e,j):=hm;show wpAny _ _ (dictSize d>>=_) _ _ s;show CL (CL (ahO b a (XN ?_)));show CL (wpAny_pendingCount_other hd ?_);show wpAny_ret_mkInt ?_;rw[Nat.add_zero,aju f];show h
def GR(hd:(d==Y2)=XF)(hm:s.heap.DictOfH X d xs)(a:(xs.length:Int)<2^63)
  (h:Q (.int xs.length (s.toks+1)) {s with toks:=s.toks+1+1}):wpAny (model Y w) A (call (.builtin "len") [.ref d]) Q E s:=by
 show Calls.call_function_entry kind_len plain_len entry_len (args_len1 _) ?_;show CL (XN ?_);show CL (Zl hm.typeIs adA
  (acS adA hm.typeIs PySem.F.entry_dict_len (PySem.F.args_dict_len_1 _) (zh d hd) #[xs,hm,?_]))
 show CL (Y6 (XN ?_));show CL (Z3 ?_);rw[aE ()];rw[aE ()];show CL (agf (XN #[_,W,h]))
end
def rLenDD(K:lD):G V->Hp->(V->Hp->Prop)->Prop:=λxs H Q=>∃a b,xs=[V.ref a]/\H a=M (DkO a b)/\qD K H b/\Q (.int b.length) H
def call_lenDD:ZJ X (.builtin "len") (rLenDD X.K):=by intro e s j H xs m Q I r h;let(a,o,rfl,n,g,q):=h;let(u,rfl,f):=jV r;ext f;let(z,i,l,b,dd):=uu I n g;show GR i dd (by rw[<-Paired.length b];rw[Zy]at z;ext) ?_;rw[<-Paired.length b];show#[.int o.length,H,I.tok _,#[_,W],q]
end LD
namespace L10
open PySem PyProof.Rows L2 L3 LD
section
variable{B O Y:bK}{K:lD}{E:XK}
def mi(fd:cT):cT:=λe b=>(fd e b).bind λo a=>(RS.YD a (oK a o)).bind λp a=>.ok (.fz (.int p.2.length)) a
def DD(hd:cg K E C fd):cg K E (D1 (rLenDD K) (ei C iL)) (mi fd):=by intro B j H α r t Q s l w;show hd B j H α r t _ s l (w.bind.imp λo b h q e1 f e u n=>?_);let((i,y),m,e):=WS.YD e;let(_,a,xs,v,rfl,p,g):=uL f n m;show#[a,xs,W,p,xN g,?_];rw[Paired.length g];show e b _ .refl f _ (.int _)
def jH(c:cT):J3:=λe b=>(c e b).bind λx a=>(RS.YD a (S4 x)).bind λd a=>RS.YD a (fP [d])
def GP(h:cg K E C J):Qp K E (Hw (ei C iL)) (jH J):=by
 intro B l H α t u q s m w;show h B l H α t u _ s m (WS.imp (WS.bind w) λx b e i e1 n a v o=>?_);let(d,f,a):=WS.YD a;cases r:fP [d]with
 |none=>rw[r]at a;show a.elim
 |some ds=>
  rw[r]at a;let p:L3.DV (ow B b e) K i v d:=by
   cases x with
   |fz d=>ext f;show o
   |rf _=>ext f
   |tp _=>ext f
  cases d with
  |int j=>
   unfold fP at r;dsimp only at r;split at r
   .rename_i g;ext r;ext p;show#[j,W,g.1,g.2,a b i .refl n _ xW]
   .ext r
  |_=>ext r
end
end L10
namespace L4
open PySem PySem.Spec PyProof.Rows L2 L3
def Ov(g:XK)(d e:TS):TS:=λD b H=>d D b H/\∀c f H1,g c f H1->∀(a:L2.St),a.length=b.length->e {nx:=D.nx,rt:=D.rt} a H1
def Nf{X:Cx}{J Q:bg Zn}{b0:Zn}{tb ts:TS}{E2:XK}{U:XH}{x:Str}{np amr pos:Pos}{mU:bg Xx}
  (hex:X.ex=[]) (cW:X.stack=X.env::X.outer) (V:X.env.frame=cL X.env.locals) (hg:Gl X x) (hm:X.mg x=cL (.ref U)) (hU:yO X.K U mU) (hbU:mU.contains (.type "BaseException")=XA)
  (hb:∀l,PSs ((Cx.pinned X l).abc (HC (Cx.pinned X l) E2)) J tb) (hs:∀l e,PSs (Cx.marked (Cx.pinned X l) e) (b0::Q) ts)
  (hE:∀c d H,E2 c d H->∃C m,c=.ref C/\yO X.K C m/\(Xx.ref C::m).contains (.ref U)=XA) (hdb:(x==("__debug__":Str))=XF:=by decide):
  PS X (.Try J [.ExceptHandler (cL (.Name x np)) Ld (b0::Q) amr] [] [] pos) (Ov E2 tb ts):=by
 intro g s σ H D I #[h,hc];let IY:=Lw I;let N:(Cx.pinned X (X.pn++g)).ex=[]:=hex;show wpAny_Try_except (wpAny_mono (hb (X.pn++g) [] s σ H D (IY.abc _) h) (λf P n=>?_) (λv P hx=>?_))
 .let n:=SP.aax n
  cases f with
  |next=>let(a,j,i,G):=n;show aaN #[a,j,im I.ok i,G]
  |brk=>let(a,j,i,G):=n;show#[a,j,im I.ok i,G]
  |cont=>let(a,j,i,G):=n;show#[a,j,im I.ok i,G]
  |ret u=>let(v,a,j,i,r,G):=n;show#[v,a,j,im I.ok i,r,G]
 .let(a,j,e,c,d,a0,T,rfl,i,F,Z,Y,ne,nT,q):=hx
  let(C,mC,hcC,(n1,G,N1,b1,d1,t1,u1,a1,l1,x1,i0,i1,i2,i3,i5,id1,kC),hup):=hE c d j q;let(n2,q2,N2,b2,d2,t2,u2,a2,l2,x2,j0,j1,j2,j3,j5,id2,kU):=hU;let fr:X.A.frames=cL (X.env::X.outer):=by rw[<-cW];show I.ok.frames
  let ff:P.heap.FunFrames X.base (X.env::X.outer):=by rw[<-cW];show i.stack
  show Lh fr ff V F λh2 T2 z2 F2 O=>?_
  let A:L2.Inv (Cx.pinned X (X.pn++g)) [] a j {P with heap:=h2}:=rB i (λb=>b=e\/b=T) N (λp S y=>y.elim (Z.nP p S) (Y.nP p S))
   (λb o z B nf=>O.keep b o z (λy=>B (.inl y)) (λy=>B (.inr (X1 y).symm)) (by rw[<-cW];show nf))
   (λb o z B=>O.slot b o z (λy=>B (.inl y)) (λy=>B (.inr (X1 y).symm))) O.here
   (λb y=>y.elim (λy=>by rw[y];show Z.n0) (λy=>by rw[y];show Y.n0)) (λy=>y.elim (λy=>Z.nL y.symm) (λy=>Y.nL y.symm))
   (λy k z w=>w.elim (Z.nC y k z) (Y.nC y k z)) (λb y=>y.elim (λy=>by rw[y];show ne) (λy=>by rw[y];show nT))
  let E:Apart (Cx.pinned X (X.pn++g)) T2:=rM i N (da z2);let nT2:j T2=Ld:=i.YX.fresh z2;show wpAny_handleBy_cons (codeAny_handlers_test (lA (X:=Cx.marked (Cx.pinned X (X.pn++g)) e) (rG A e) hg hm ?_ hdb)) (by nofun);let F2':=F2;let(ob,fs,qe,cE,dE,dF,_):=F2';show Hc (A.kIn _ _ kC) (A.kIn _ _ kU) qe (cE.trans hcC) hbU hup ?_;show codeAny_handlers_suite (RF F2 λh3 F3 M hT3=>?_)
  let I3:L2.Inv (Cx.pinned X (X.pn++g)) [] a j {P with heap:=h3}:=rB (s:={P with heap:=h2}) A (λb=>b=T2) N (λp S y=>E.nP p S y)
   (λb o z B _=>(M b B).trans z) (λb o z B=>#[o.slots,(M b B).trans z])
   (λb o z=>(Classical.em (b=T2)).elim (λy=>by rw[y];show hT3) (λy=>#[o,(M b y).trans z])) (λb y=>by rw[y];show E.n0) (λy=>E.nL y.symm) (λy k z w=>E.nC y k z w) (λb y=>by rw[y];show nT2)
  let w:=hc c d j q a (i.len.trans I.len.symm);show wpAny_mono (hs (X.pn++g) e [] _ _ _ _ (rG I3 e) w) (λf s5 n=>?_) (λy s5 z=>z.elim);cases f with
  |next=>let(t,H2,R,L):=n;show#[_,_,im I.ok (rF IY.ok R),L]
  |brk=>let(t,H2,R,L):=n;show L.elim
  |cont=>let(t,H2,R,L):=n;show L.elim
  |ret u=>let(v,t,H2,R,r,L):=n;show#[v,t,H2,im I.ok (rF IY.ok R),r,L]
end L4
namespace L10
open PySem PyProof.Rows L2 L3
def G5(F:FN)(n:Nat)(c:t6):cT:=λe b=>(c e b).bind λxs a=>match au (lS 6 a) xs with
 |some ds=>if ds.length=n then(match F ds with
  |.ok f=>mQ a f
  |_=>.bad)else .bad
 |none=>.bad
def EZ{K:lD}{E:XK}{F:FN}{n:Nat}{c:t6}(d:ug K E C c):cg K E (jW (Av K n F) [] E0 C) (G5 F n c):=by
 intro B j H α p t Q s l w;show d B j H α p t _ s l (w.bind.imp λxs f b i e1 g a u m=>?_);rw[Yl];cases o:au (lS 6 b) xs with
 |none=>rw[o]at a;show a.elim
 |some ds=>
  rw[o]at a;let h:Zc noO K i u ds:=jF (cw (R:=VOk (ow B f b) K i f) (λv x y r e=>jy g 6 r e) m o);dsimp only at a;by_cases hn:ds.length=n
  .rw[ax hn]at a
   show#[h.length.trans hn,noO,ds,λ_ z=>z.elim,h,?_];cases q:F ds with
   |bad=>rw[q]at a;show a.elim
   |er x=>rw[q]at a;show a.elim
   |ok A=>rw[q]at a;show BU g a
  .rw[aE hn]at a;show a.elim
def Lj{F:FN}{n:Nat}{g:t6}{f:aR}{e c:aN}{xs:G SV}{ds:G D}{d:D}(i:g f e=.ok xs c)(hd:au (lS 6 c) xs=M ds)(h:ds.length=n)(b:F ds=.ok (.fz d))(a:zL d=P):G5 F n g f e=.ok (.fz d) c:=by ext G5;rw[i,ej,hd];dsimp only;rw[ax h,b];show ax a
end L10
namespace L10
open PySem PySem.Spec PyProof.Rows L2 L3
def Hr(c:cT):cT:=λe b=>(c e b).bind λo a=>(RS.YD a (fC a o)).bind λp a=>.ok (.fz .none) (a.set p.1 (.lst []))
def M5{K:lD}{E:XK}{to:TE}{c:cT}(p:cg K E to c):cg K E (EW K "list" EG to) (Hr c):=by intro B l H α A C Q s m w;show p B l H α A C _ s m (w.bind.imp λo b j t e1 f e v n=>?_);let((i,xs),q,e):=WS.YD e;let(g,a,u,y,rfl,h,r):=vj f n q;show#[.inl #[W,u,SqL.of h],a,u,W,W,h,?_];show e b _ (Zm.put y g (by nofun) (by nofun)) (f.put y g (by nofun) (by nofun) #[_,aI,.nil]) _ .Zw
def SG{d:aR}{c b:aN}{i:Nat}{e:cT}{xs:G SV}(h:e d c=.ok (.rf i) b)(a:b[i]?=M (.lst xs)):Hr e d c=.ok (.fz .none) (b.set i (.lst [])):=by ext Hr;rw[h,ej,show fC b (.rf i)=M (i,xs) by ext fC;dsimp only;rw[a]];rfl
end L10
namespace PySem
namespace SetTable
def Wu(xs:Array Nat):Prop:=xs.toList.Pairwise (·<·)
structure TI(b:Bool)(t:SetTable):Prop where
 led:t.led=b
 dm:t.dummies= #v[]
 ris:Wu t.place
end SetTable
end PySem
namespace PySem
open SetTable
section
variable{prog:Ya}{w:Yq}{K:Type}[DecidableEq K]{knd:KeyKind prog w K}{A:Ym}{E:Xx->XI->Prop}{s:XI}{b:Bool}{a:XH}{es:Array (Int×Xx)}
structure SetX(knd:KeyKind prog w K)(b:Bool)(h:Heap)(a:I)(es:Array (Int×U)):Prop where
 x:∃o ep t,h.get? a=M o/\o.ExactSet/\o.data=.set es ep t/\t.fits es.size=P/\TI b t
 el:ElemsOf knd es.toList
 sz:es.size<scanBound
end
end PySem
namespace PySem
namespace SetTable
structure TT(t:SetTable)(n:Nat):Prop where
 k:∃k,t.mask+1=2^k
 dm:t.dummies= #v[]
 ris:Wu t.place
 le:∀v∈t.place.toList,v<=t.mask
 sz:t.place.size=n
 few:n*5<t.mask*3
section
variable{t:SetTable}{n:Nat}{p:Probe}
structure PI(t:SetTable)(p:Probe):Prop where
 nine:p.more<=9
 jm:p.j+p.more<=t.mask
 pt:p.perturb<2^64
 dm:p.dummy=R
end
end SetTable
end PySem
namespace LD
open PySem PySem.SetTable PyProof.Rows L2 L3
section
variable{prog:Ya}{w:Yq}{E:Xx->XI->Prop}
variable{A:Ym}{s:XI}
structure SetH(prog:Ya)(w:Yq)(b:Bool)(h:Heap)(a:I)(es:Array (Int×U))(ks:G (KD×I)):Prop where
 x:∃o ep t,h.get? a=M o/\o.ExactSet/\o.data=.set es ep t/\TT t es.size/\t.led=b/\t.mask<=8*es.size+8
 el:∀e∈es.toList,∃k c,(k,c)∈ks/\e.2=.ref c/\(gz prog w).is h k c
mutual
theorem C4{h h':Heap}{x:XH}{e:Obj}(f:h.get? x=cL e)(i:∀vs n,e.data≠.seq vs n)(g:Heap.SameBut x h h'):∀(d:XG) (v:Xx) (as:bg XH),kd d=XA->aec h v d as->aec h' v d as
 |.none,_,_,_,r=>by cases r;exact .none
 |.int _,_,_,_,r=>by cases r;exact .int _ _
 |.str _,_,_,_,r=>by cases r;exact .str _ _
 |.tuple xs,_,_,k,r=>by
  cases r with
  | @tuple a o vs n _ _ h1 h2 h3 h4=>
   have b:a≠x:=by rintro rfl;rw[f]at h1;cases h1;exact i _ _ h3
   unfold kd at k;exact .tuple ((g.2 a b).trans h1) h2 h3 (tJ f i g xs _ _ k h4)
 |.bool _,_,_,h,_|.list _,_,_,h,_|.dict _,_,_,h,_=>by simp[kd]at h
theorem tJ{h h':Heap}{x:XH}{a:Obj}(b:h.get? x=cL a)(f:∀vs n,a.data≠.seq vs n)(e:Heap.SameBut x h h'):∀(ds:bg XG) (vs:bg Xx) (as:bg XH),kds ds=XA->acb h vs ds as->acb h' vs ds as
 |[],_,_,_,r=>by cases r;exact .nil
 |d::ds,_,_,k,r=>by
  cases r with
  |cons i g=>unfold kds at k;rw[Xy]at k;exact .cons (C4 b f e d _ _ k.1 i) (tJ b f e ds _ _ k.2 g)
end
end
end LD
namespace L2
open PySem PySem.Spec PyProof.Rows
variable{X:Cx}{a b:Yc}{Y:bg Yc}{T:Pos}{S Q:TE}
end L2
namespace CC
open PySem L2 L3 L10
def jc:Yc->Bool
 |.BinOp .. |.UnaryOp .. |.IfExp .. |.ListComp .. |.Compare .. |.Call .. |.Constant .. |.Attribute .. |.Subscript .. |.Name .. |.List .. |.Tuple .. |.BoolOp .. |.JoinedStr .. |.Dict .. =>P
 |_=>XF
def UF:Yc->Bool
 |.BinOp .. |.Call .. |.Attribute .. |.Subscript .. |.Name .. =>P
 |_=>XF
def PP:Yc->Bool
 |.ListComp .. =>P
 |_=>XF
def Tc:Yc->Bool
 |.Constant .. |.Attribute .. |.Subscript .. |.Name .. =>P
 |_=>XF
section
variable{e o a b:Yc}{es:bg Yc}{env:Env}{Y p:Pos}{n k:Nat}
def jK(h:jc e=P):X6 (e::es) env=(XF,eval e env)::X6 es env:=by ext e<;>first|rfl|ext h
def wl(h:jc e=P):Cz e:=by ext e<;>first|(intro _ _;rfl)|ext h
def BI(h:jc e=P):∀x,foldedSetIterable e env x=pure x:=by ext e<;>first|(intro _;rfl)|ext h
def KS(h:UF e=P):∀whole:Sem U,isTrue e env whole=(do let v<-whole;standAt e.pos;holding [v] (truthy v)):=by ext e<;>first|(intro _;rfl)|ext h
def Bs{t}(h:(jc e&& !PP e)=P):ZU e t n env=pure XF:=by ext e<;>first|rfl|ext h
def UP{f p}(h:jc e=P):ZU e (M (.Attribute o f p)) n env=pure XF:=by ext e<;>first|rfl|ext h
def Oi(h:jc e=P):ZU e (M (.Subscript o a p)) n env=pure XF:=by ext e<;>first|rfl|ext h
def fF{f:Str}(h:Tc e=P):attributeBase e f env (eval e env)=eval e env:=by ext e<;>first|rfl|ext h
def Nt(h:jc e=P):Pq e=XF:=by ext e<;>first|rfl|ext h
def Ko(h:UF e=P):swapsWithSole [.Tuple es k p] e n env=pure XF:=by ext e<;>first|rfl|ext h
def DB(h:UF e=P):swappedStores [.Tuple es k p] e env=pure R:=by ext e<;>first|rfl|ext h
def PR(h:es.all jc=P):((backTo Y (X6 es env)).any λx=>x.1)=XF:=by
 induction es with
 |nil=>rfl
 |cons e es f=>rw[ZL,Xy]at h;rw[jK h.1];show f h.2
def Qd(h:es.all jc=P):((backTo Y (X6 es env)).all λx=> !x.1)=P:=by
 induction es with
 |nil=>rfl
 |cons e es f=>rw[ZL,Xy]at h;rw[jK h.1];show f h.2
def db(h:(e::es).all jc=P):X6 (e::es) env=(XF,eval e env)::X6 es env:=by rw[ZL,Xy]at h;show jK h.1
def iJ(h:(e::es).all jc=P):((backTo Y (X6 es env)).any λx=>x.1)=XF:=by rw[ZL,Xy]at h;show PR h.2
def mS(h:es.all jc=P)(f:es.length<20):methodCallForm (es.length+([]:G abk).length) (backTo Y (X6 es env)) (backToKw Y (keywordEach [] env))=P:=by ext methodCallForm;rw[Qd h,aa7];show(Xy _ _).mpr #[W,a4 ?_];show es.length+0+0<30;ext
def Uf{q}{m:Str}(h:Tc o=P)(g:es.all jc=P)(i:es.length<20)(j:(p.endLine==q.line)=P):∃pl,eval (.Call (.Attribute o m p) es [] q) env=(do
   let C<-eval o env
   standAt p.atName
   let(f,first)<-holding [C] (getMethod C m pl)
   callWith q f first (backTo q (X6 es env)) (backToKw q (keywordEach [] env))):=by
 show#[do return(<-importBound o env).getD P,?_];show(do
  let C<-attributeBase o m env (eval o env)
  standAt p.atName
  methodCall o m p q env C (es.length+([]:G abk).length) (backTo q (X6 es env)) (backToKw q (keywordEach [] env)))=_
 rw[fF h];unfold methodCall calleeOf methodCallPos;rw[mS g i,j];rfl
def Ts{elt g sc x}(h1:env.scope.kind=.function)(f:env.kindOf x=M .local)(d:(p.line==Y.line)=P)(c:(sc.names.any λy=>y.1==x&&(y.2==.local||y.2==.cell))=XF):ZU (.ListComp elt [g] sc Y) (M (.Name x p)) n env=pure P:=by show(pure _:Sem Bool)=_;rw[show env.blockKind=.function by ext Env.blockKind;rw[h1];rfl,f];show(pure (_&&(p.line==Y.line)&& !(sc.names.any λy=>y.1==x&&(y.2==.local||y.2==.cell))):Sem Bool)=_;rw[d,c];rfl
end
def bc{α:Type}{o:z α}{p:α->Bool}(h:o.any p=P):∃x,o=M x/\p x=P:=by
 cases o with
 |none=>ext h
 |some x=>show#[x,W,h]
def tU{α:Type}{P:α->Prop}{o:z α}(k:o.elim True P){x:α}(h:o=M x):P x:=by subst h;show k
def vN:Yc->z (Str×Pos)
 |.Name x p=>M (x,p)
 |_=>R
def vC:Yc->z Const
 |.Constant c _ _=>M c
 |_=>R
def Tr:Yc->z (Yc×agb×Yc)
 |.BinOp a o b _=>M (a,o,b)
 |_=>R
def T6:Yc->z (Yc×G ae8×G Yc)
 |.Compare a o b _=>M (a,o,b)
 |_=>R
def yV:Yc->z (Yc×Yc×Pos)
 |.Subscript a b p=>M (a,b,p)
 |_=>R
def Wh:Yc->z (z Yc×z Yc×z Yc)
 |.Slice a b c _=>M (a,b,c)
 |_=>R
def IZ:Yc->z (G Yc)
 |.Tuple es _ _=>M es
 |_=>R
def TY:Yc->z (G Yc)
 |.List es _=>M es
 |_=>R
def yi:Yc->z (Yc×G Yc×G abk×Pos)
 |.Call f es a p=>M (f,es,a,p)
 |_=>R
def Tq:Yc->z (Yc×Str×Pos)
 |.Attribute o x p=>M (o,x,p)
 |_=>R
def WC:Yc->z (Yc×Yc×Yc)
 |.IfExp c a b _=>M (c,a,b)
 |_=>R
def VJ:Yc->z (BoolOp×G Yc×Pos)
 |.BoolOp o es p=>M (o,es,p)
 |_=>R
def Vm:Yc->z (UnaryOp×Yc)
 |.UnaryOp o a _=>M (o,a)
 |_=>R
def Wi:Yc->z (Yc×G aaF×Zj×Pos)
 |.ListComp e g s p=>M (e,g,s,p)
 |_=>R
def Wn:Yc->z (G (z Yc)×G Yc)
 |.Dict k v _=>M (k,v)
 |_=>R
section
variable{e:Yc}
theorem sP(h:vN e=M x):e=.Name x.1 x.2:=tU (P:=λx=>e=.Name x.1 x.2) (by ext e<;>first|show trivial|rfl|show#[_,W]|show#[_,_,W]) h
theorem NZ(h:vC e=M x):∃k p,e=.Constant x k p:=tU (P:=λx=>∃k p,e=.Constant x k p) (by ext e<;>first|show trivial|rfl|show#[_,W]|show#[_,_,W]) h
theorem Mz(h:Tr e=M x):∃p,e=.BinOp x.1 x.2.1 x.2.2 p:=tU (P:=λx=>∃p,e=.BinOp x.1 x.2.1 x.2.2 p) (by ext e<;>first|show trivial|rfl|show#[_,W]|show#[_,_,W]) h
theorem J7(h:T6 e=M x):∃p,e=.Compare x.1 x.2.1 x.2.2 p:=tU (P:=λx=>∃p,e=.Compare x.1 x.2.1 x.2.2 p) (by ext e<;>first|show trivial|rfl|show#[_,W]|show#[_,_,W]) h
theorem jE(h:yV e=M x):e=.Subscript x.1 x.2.1 x.2.2:=tU (P:=λx=>e=.Subscript x.1 x.2.1 x.2.2) (by ext e<;>first|show trivial|rfl|show#[_,W]|show#[_,_,W]) h
theorem R9(h:Wh e=M x):∃p,e=.Slice x.1 x.2.1 x.2.2 p:=tU (P:=λx=>∃p,e=.Slice x.1 x.2.1 x.2.2 p) (by ext e<;>first|show trivial|rfl|show#[_,W]|show#[_,_,W]) h
theorem vk(h:IZ e=M x):∃k p,e=.Tuple x k p:=tU (P:=λx=>∃k p,e=.Tuple x k p) (by ext e<;>first|show trivial|rfl|show#[_,W]|show#[_,_,W]) h
theorem MG(h:TY e=M x):∃p,e=.List x p:=tU (P:=λx=>∃p,e=.List x p) (by ext e<;>first|show trivial|rfl|show#[_,W]|show#[_,_,W]) h
theorem n6(h:yi e=M x):e=.Call x.1 x.2.1 x.2.2.1 x.2.2.2:=tU (P:=λx=>e=.Call x.1 x.2.1 x.2.2.1 x.2.2.2) (by ext e<;>first|show trivial|rfl|show#[_,W]|show#[_,_,W]) h
theorem wH(h:Tq e=M x):e=.Attribute x.1 x.2.1 x.2.2:=tU (P:=λx=>e=.Attribute x.1 x.2.1 x.2.2) (by ext e<;>first|show trivial|rfl|show#[_,W]|show#[_,_,W]) h
theorem Qn(h:WC e=M x):∃p,e=.IfExp x.1 x.2.1 x.2.2 p:=tU (P:=λx=>∃p,e=.IfExp x.1 x.2.1 x.2.2 p) (by ext e<;>first|show trivial|rfl|show#[_,W]|show#[_,_,W]) h
theorem Hi(h:VJ e=M x):e=.BoolOp x.1 x.2.1 x.2.2:=tU (P:=λx=>e=.BoolOp x.1 x.2.1 x.2.2) (by ext e<;>first|show trivial|rfl|show#[_,W]|show#[_,_,W]) h
theorem zU(h:Vm e=M x):∃p,e=.UnaryOp x.1 x.2 p:=tU (P:=λx=>∃p,e=.UnaryOp x.1 x.2 p) (by ext e<;>first|show trivial|rfl|show#[_,W]|show#[_,_,W]) h
theorem P2(h:Wi e=M x):e=.ListComp x.1 x.2.1 x.2.2.1 x.2.2.2:=tU (P:=λx=>e=.ListComp x.1 x.2.1 x.2.2.1 x.2.2.2) (by ext e<;>first|show trivial|rfl|show#[_,W]|show#[_,_,W]) h
theorem QW(h:Wn e=M x):∃p,e=.Dict x.1 x.2 p:=tU (P:=λx=>∃p,e=.Dict x.1 x.2 p) (by ext e<;>first|show trivial|rfl|show#[_,W]|show#[_,_,W]) h
def A7(e:Yc):Bool:=(IZ e).isSome
def yn(h:A7 e=P):∃l k p,e=.Tuple l k p:=by let(x,h):=Y8.mp h;show#[x,vk h]
end
abbrev Fd:=Ya->Yq->lD->(Str->z U)->Heap->Prop
abbrev fdP(lv:Nat)(x:Str)(b:G Str)(n:Nat)(F:FN):Fd:=λP w K a base=>V2 P w K a base lv x b n F
abbrev fdS(lv:Nat)(x:Str)(b:G Str)(n:Nat)(F:fq):Fd:=λP w K a base=>xU P w K a base lv x b (kj K n F)
abbrev fdM(b:Bool)(lv:Nat)(C x:Str)(c:G Str)(n:Nat)(F:fq):Fd:=λP w K a base=>oz P w K a base (if b then L4.kF P w else lK) lv C x c (kj K n F)
abbrev fdK(lv:Nat)(C:Str)(b:G Str)(n:Nat)(F:fq):Fd:=λP w K a base=>yQ P w K a base lK lv C b (kj K n F)
structure Md where
 bl:G Str
 ex:G Str
 cs:G (Str×D)
 cl:G (Str×G Str)
structure Gm where
 M:Md
 N:G Str
 sc:G (Str×X7)
 lv:Nat
 rz:Bool
 fa:Bool
 fc:G Str
 top:Nat
abbrev TR:G U:=[.type "ValueError",.type "Exception",.type "BaseException",.type "object"]
structure adM(K:lD)(mg:Str->z U)(M:Md):Prop where
 bl:∀x∈M.bl,mg x=R
 ex:∀x∈M.ex,∃C,Yh K X8 x=cL (cL (.ref C))/\mg x=cL (.ref C)/\aap K C TR "ValueError.__new__"=P
 cs:∀x d,M.cs.lookup x=cL d->∃v u,mg x=cL u/\RelV v u/\∀O H,DV O K H v d
 cl:∀C L,M.cl.lookup C=cL L->lP K C L
structure Ct(T:G Fd)(Γ:Gm)(X:Cx)(E:XK):Prop where
 n:X.N=Γ.N
 nd:X.N.Nodup
 sc:X.env.scope.names=Γ.sc
 kd:X.env.scope.kind=.function
 cm:X.calm=P
 rm:Zp Γ.lv X.A
 po:Γ.fa=P->ac8 (model X.prog X.w) X.A X.env X.xe
 px:Γ.rz=P->∃(N:G Str) (qual:Str) (scope:Zj) (f:I) (cd:U) (A:Ym) (outer:G Env) (s0:XI) (H0:Hp),X=eO (L4.kF X.prog X.w) X.prog X.w X.K X.mg X.base N qual scope f cd A outer s0 H0 E
 fc:∀x∈Γ.fc,X.fn x=P
 md:adM X.K X.mg Γ.M
 fs:∀i fd,i<Γ.top->T[i]?=M fd->fd X.prog X.w X.K X.mg X.base
def Ul(s:G (Str×X7))(x:Str):Bool:=s.lookup x==M .local||s.lookup x==M .cell||s.lookup x==M .free
def OX(x:Str):Bool:= !(x==("__debug__":Str))&& !(x==("__classdict__":Str))&& !(x==("__name__":Str))
def Te(a:Gm)(x:Str):Bool:=a.sc.lookup x==M .globalImplicit&&OX x
def blt(a:Gm)(x:Str):Bool:=Te a x&&a.M.bl.contains x
def eR{a:z X7}{b:X7}(h:(a==M b)=P):a=M b:=by
 cases a with
 |none=>ext h
 |some a=>ext a<;>ext b<;>first|rfl|ext h
section
variable{T:bg Fd}{Z:Gm}{X:Cx}{E:XK}{x:Str}{i:Nat}
def wS(h:OX x=P):(x==("__debug__":Str))=XF/\(x==("__classdict__":Str))=XF/\x≠("__name__":Str):=by unfold OX at h;simp only[Xy,aag]at h;show#[h.1.1,h.1.2,λe=>by rw[e,eg]at h;cases h.2]
def oX(c:Ct T Z X E)(h:Te Z x=P):Gl X x/\(x==("__debug__":Str))=XF/\x≠("__name__":Str):=by unfold Te at h;rw[Xy]at h;show#[?_,(wS h.2).1,(wS h.2).2.2];show X.env.scope.names.lookup x=_;rw[c.sc];show eR h.1
def pz(c:Ct T Z X E)(h:blt Z x=P):Gl X x/\X.mg x=R/\(x==("__debug__":Str))=XF/\x≠("__name__":Str):=by unfold blt at h;rw[Xy]at h;let(b,a):=oX c h.1;show#[b,c.md.bl x (abA.mp h.2),a]
def FY(c:Ct T Z X E)(h:Z.rz=P):dL (L4.kF X.prog X.w) X E:=by let(N,g,a,f,l,A,b,j,m,e):=c.px h;rw[e];show L4.E3
end
abbrev Jd(a:Type):=lD->XK->a->Prop
def eo(g:FE):Jd TE:=λK E t=>EO K E t g
def es(g:cT):Jd TE:=λK E t=>cg K E t g
def ao(g:FA):Jd TA:=λK E t=>AO K E t g
def as(g:t6):Jd TA:=λK E t=>ug K E t g
def mO(g:FT):Jd TT:=λK E t=>TTO K E t g
def mP(g:tS):Jd TT:=λK E t=>t7 K E t g
def oo(g:FO):Jd TO:=λK E t=>Vd K E t g
def go(g:FG):Jd TG:=λK E t=>GO K E t g
def D7(g:yS):Jd TG:=λK E t=>E4 K E t g
def gs(g:S6):Jd AJ:=λK E t=>UA K E t g
def QF(g:DG):Jd AJ:=λK E t=>Fb K E t g
def io(g:FI):Jd TI:=λK E t=>L3.IO K E t g
def PN(g:FI):Jd TI:=λK E t=>V4 K E t g
def J0(g:J3):Jd TI:=λK E t=>Qp K E t g
def so(g:FS):Jd TS:=λK E t=>SO K E t g
def Zs(g:dU):Jd TS:=λK E t=>pV K E t g
class CK (T:G Fd) {α τ:Type} (P:Cx->α->τ->Prop) (J:Jd τ) where
 chk:Gm->α->Bool
 ok:∀{Γ X E a},Ct T Γ X E->chk Γ a=XA->∃t,P X a t/\J X.K E t
def WW(X:Cx)(e:Yc)(t:TG):Prop:=PG X e t/\∀r,assignEach (e::r) X.env=(XF,assign e X.env)::assignEach r X.env
def WK(X:Cx)(r:G Yc)(t:AJ):Prop:=Ux X r t/\(assignEach r X.env).length=r.length/\List.findIdx? (λx=>x.1) (assignEach r X.env)=R
def WJ(X:Cx)(p:Yc×Yc)(t:TI):Prop:=PI X p.1 p.2 t/\jc p.2=P
abbrev CE(T:G Fd)(J:Jd TE):=CK T PE J
abbrev CA(T:G Fd)(J:Jd TA):=CK T PA J
abbrev CT(T:G Fd)(J:Jd TT):=CK T PT J
abbrev CQ(T:G Fd)(J:Jd TT):=CK T yd J
abbrev CO(T:G Fd)(J:Jd TO):=CK T PO J
abbrev CG(T:G Fd)(J:Jd TG):=CK T WW J
abbrev CH(T:G Fd)(J:Jd AJ):=CK T WK J
abbrev CI(T:G Fd)(J:Jd TI):=CK T WJ J
abbrev CU(T:G Fd)(J:Jd TS):=CK T PS J
abbrev CS(T:G Fd)(J:Jd TS):=CK T PSs J
def yC{T:G Fd}{α a:Type}{P:Cx->α->a->Prop}{A J:Jd a}[x:CK T P A](k:∀{K E t},A K E t->J K E t):CK T P J:=#[x.chk,λc h=>let#[t,p,q]:=x.ok c h;#[t,p,k q]]
end CC
set_option warn.classDefReducibility false
namespace CC
open PySem L2 L3 L10
variable{T:bg Fd}
def Ng(i:Nat)(a:Gm)(e:Yc):Bool:=(vN e).any λx=>a.N[i]? ==M x.1&&Ul a.sc x.1&&OX x.1
def zX{a:Gm}{X:Cx}{E:XK}{i:Nat}{e:Yc}(c:Ct T a X E)(h:Ng i a e=P):PE X e (qE i):=by
 let(x,q,h):=bc h;rw[sP q];unfold Ul at h;simp only[Xy,YW]at h;show Jq (by rw[c.n];show beq_iff_eq.mp h.1.1) ?_ (wS h.2).1 (wS h.2).2.1;ext Vi;rw[c.sc];rcases h.1.2 with(z|z)|z
 .show .inl (eR z)
 .show .inr (.inl (eR z))
 .show .inr (.inr (eR z))
def OD{J:Jd TE}(i:Nat)(k:∀{K E},J K E (qE i)):CE T J:=#[Ng i,λc h=>#[_,zX c h,k]]
noncomputable instance:CE T (eo (aa i)):=OD i RE
noncomputable instance:CE T (es (aq i)):=OD i Bh
def dq:Nat->D->D->Bool
 |0,_,_=>XF
 |_+1,.int a,.int b=>a==b
 |_+1,.str a,.str b=>a==b
 |_+1,.none,.none=>P
 |_+1,.bool a,.bool b=>a==b
 |n+1,.tuple a,.tuple b=>a.length==b.length&&(a.zip b).all λp=>dq n p.1 p.2
 |n+1,.list a,.list b=>a.length==b.length&&(a.zip b).all λp=>dq n p.1 p.2
 |_,_,_=>XF
def QU{f:D->D->Bool}(j:∀a b,f a b=P->a=b):∀{a b:G D},(a.length==b.length&&(a.zip b).all λp=>f p.1 p.2)=P->a=b:=by
 intro a
 induction a with
 |nil=>
  intro b h;cases b with
  |nil=>rfl
  |cons y s=>ext h
 |cons x r i=>
  intro b h;cases b with
  |nil=>ext h
  |cons y s=>rw[Xy]at h;let(g,e):=h;rw[List.zip_cons_cons,ZL,Xy]at e;let g:=eq_of_beq g;rw[j x y e.1,i (b:=s) (by rw[Xy];show#[beq_iff_eq.mpr (by simpa using g),e.2])]
def EC:∀(n:Nat) (a b:D),dq n a b=P->a=b:=by
 intro n
 induction n with
 |zero=>intro a b h;ext h
 |succ n e=>intro a b h;ext a<;>ext b<;>first|show a7 h X9|rfl|show ec _ (eq_of_beq h)|show ec _ (QU e h)
def cD:Const->z D
 |.int i=>M (.int i)
 |.str x=>M (.str x)
 |.bool b=>M (.bool b)
 |.none=>M .none
 |_=>R
noncomputable instance{d:D}:CE T (eo (pC d)) where
 chk Γ e:=(((vC e).bind cD).any λa=>dq 9 a d)||((vN e).any λx=>Te Γ x.1&&((Γ.M.cs.lookup x.1).any λa=>dq 9 a d))
 ok c h:=by
  rcases(YW _ _).mp h with h|h
  .let(a,q,h):=bc h
   obtain rfl:=EC _ _ _ h;let(k,f,b):=YH.mp q;let(_,_,rfl):=NZ f;ext k<;>ext b
   .show#[_,Aq,Ro]
   .show#[_,U7,TZ]
   .show#[_,Jr,P5]
   .show#[_,QT,Sd]
  .let(x,q,h):=bc h;rw[Xy]at h;let(a,b,g):=bc h.2;obtain rfl:=EC _ _ _ g;let(j,i,_):=oX c h.1;let(v,u,e1,e2,e3):=c.md.cs _ _ b;rw[sP q];show#[_,MR j e1 e2 i,DK e3]
class BOp (f:D->D->z RV) where
 sp:Yc->z (Yc×Yc)
 ok:∀{X:Cx} {e p ta tb},sp e=M p->X.A.units+65<cLine->jc p.2=P->PE X p.1 ta->PE X p.2 tb->∃r,PE X e (JZ r ta tb)/\kZ X.K r f
def Nl{f:D->D->b3 RV}(op:agb)(g:∀{X:Cx},∃r,OpR X (Zf op) r/\kZ X.K r f):BOp f where
 sp e:=(Tr e).bind λx=>if x.2.1=op then M (x.1,x.2.2)else R
 ok h hu _ ha hb:=by
  let(x,q,a):=YH.mp h;let(_,rfl):=Mz q;split at a
  .rename_i z;ext a;let(r,b,i):=g;rw[<-z]at b;show#[r,TN b ha hb,i]
  .ext a
def Wo{f:D->D->z RV}(k:∀{K},kZ K (TU K) f):BOp f where
 sp e:=(yV e).map λx=>(x.1,x.2.1)
 ok h _ hp ha hb:=by let(x,q,a):=abe.mp h;ext a;rw[jE q];show#[_,Oz G2 ha hb (wl hp),k]
class COp (f:D->D->z RV) where
 op:ae8
 ok:∀{X:Cx},X.A.units+65<cLine->∃r,OpR X (Zk op) r/\kZ X.K r f
def Us(op:ae8)(e:Yc):z (Yc×Yc):=(T6 e).bind λx=>match x.2.2 with
 |[b]=>if x.2.1=[op]&& !behindInMarks op b then M (x.1,b)else R
 |_=>R
def vV{op:ae8}{e:Yc}{p:Yc×Yc}(h:Us op e=M p):∃pos,e=.Compare p.1 [op] [p.2] pos/\behindInMarks op p.2=XF:=by
 let((a,o,b),q,f):=YH.mp h;let(_,rfl):=J7 q;dsimp only at f;split at f
 .split at f
  .rename_i z;ext f;rw[Xy,decide_eq_true_eq,aag]at z;show#[_,by rw[z.1],z.2]
  .ext f
 .ext f
noncomputable instance[o:COp f]:BOp f where
 sp:=Us o.op
 ok h hu _ ha hb:=by let(p,rfl,q):=vV h;let(r,b,a):=o.ok hu;show#[r,Kk b ha hb q,a]
noncomputable instance:BOp aW:=Wo Ix
noncomputable instance:BOp L3.eD:=Wo Nz
noncomputable instance:COp dh:=#[.Eq,λh=>#[_,Rs (),Sw]]
noncomputable instance:COp rd:=#[.NotEq,λh=>#[_,Rj (),Qq]]
noncomputable instance:COp Su:=#[.Lt,λ_=>#[_,Ur,SM]]
noncomputable instance:COp JV:=#[.Gt,λ_=>#[_,UB,QK]]
noncomputable instance:COp T9:=#[.GtE,λ_=>#[_,Va,RO]]
noncomputable instance:COp J1:=#[.In,λh=>#[_,RY h,QA]]
noncomputable instance:COp xk:=#[.NotIn,λh=>#[_,Ky h,Ke]]
noncomputable instance:COp sM:=#[.Is,λ_=>#[_,Ra,LU]]
noncomputable instance:COp qG:=#[.IsNot,λ_=>#[_,KU,NN]]
noncomputable instance:BOp c7:=Nl .Add #[_,NO,LS]
noncomputable instance:BOp tj:=Nl .Sub #[_,Sk,LW]
noncomputable instance:BOp qv:=Nl .Mod #[_,Ql,J8]
noncomputable instance:BOp zj:=Nl .FloorDiv #[_,IT,LX]
noncomputable instance:BOp gW:=Nl .Mult #[_,K3,Fg]
noncomputable instance:BOp yp:=Nl .BitAnd #[_,QJ,K7]
noncomputable instance:BOp MU:=Nl .LShift #[_,Qm,Kt]
noncomputable instance:BOp HF:=Nl .RShift #[_,Qg,Nv]
section
variable{A B C J:Jd TE}{U Z:Jd TA}{Q R S:Jd TT}
def Uw(A B:Jd TE){f:D->D->z RV}[o:BOp f][x:CE T A][y:CE T B](k:∀{K E r m d},kZ K r f->A K E m->B K E d->J K E (JZ r m d)):CE T J where
 chk Γ e:=(o.sp e).any λp=>jc p.2&&x.chk Γ p.1&&y.chk Γ p.2
 ok c h:=by let(p,q,h):=bc h;simp only[Xy]at h;let(m,l,j):=x.ok c h.1.2;let(d,i,g):=y.ok c h.2;let(r,b,a):=o.ok q (Cf c.rm) h.1.1 l i;show#[_,b,k a j g]
noncomputable instance[BOp f][CE T (eo a)][CE T (eo b)]:CE T (eo (aH f a b)):=Uw (eo a) (eo b) Ow
noncomputable instance[BOp f][CE T (es a)][CE T (es b)]:CE T (es (jT f a b)):=Uw (es a) (es b) GX
noncomputable instance[CE T (es a)][CE T (es b)]:CE T (es (L10.eD a b)) where
 chk Γ e:=(yV e).any λp=>jc p.2.1&&CK.chk T PE (es a) Γ p.1&&CK.chk T PE (es b) Γ p.2.1
 ok c h:=by let(p,q,h):=bc h;simp only[Xy]at h;let(m,j,i):=CK.ok c h.1.2;let(l,g,f):=CK.ok c h.2;rw[jE q];show#[_,Oz G2 j g (wl h.1.1),Sg i f]
def OY(k:∀{K E},Z K E iL):CA T Z:=#[λ_ l=>l.isEmpty,λ_ h=>by rw[Yy.mp h];show#[_,i8,k]]
def Gp(A:Jd TE)(U:Jd TA)[x:CE T A][y:CA T U](k:∀{K E i d},A K E i->U K E d->Z K E (ei i d)):CA T Z where
 chk Γ l:=match l with
  |e::r=>jc e&&x.chk Γ e&&y.chk Γ r
  |[]=>XF
 ok c h:=by
  split at h
  .simp only[Xy]at h;let(i,g,f):=x.ok c h.1.2;let(d,b,a):=y.ok c h.2;show#[_,d4 g b (jK h.1.1),k f a]
  .ext h
noncomputable instance:CA T (ao ar):=OY Ps
noncomputable instance:CA T (as aw):=OY ww
noncomputable instance[CE T (eo a)][CA T (ao b)]:CA T (ao (af a b)):=Gp (eo a) (ao b) LC
noncomputable instance[CE T (es a)][CA T (as b)]:CA T (as (ai a b)):=Gp (es a) (as b) sg
def Oq(U:Jd TA)[x:CA T U](k:∀{K E t},U K E t->J K E (KK t)):CE T J where
 chk Γ e:=(IZ e).any (x.chk Γ)
 ok c h:=by let(l,q,h):=bc h;let(_,_,rfl):=vk q;let(t,b,a):=x.ok c h;show#[_,Qc b,k a]
def T4(U:Jd TA)[x:CA T U](k:∀{K E t},U K E t->J K E (QG t)):CE T J where
 chk Γ e:=(TY e).any (x.chk Γ)
 ok c h:=by let(l,q,h):=bc h;let(_,rfl):=MG q;let(t,b,a):=x.ok c h;show#[_,PF b,k a]
noncomputable instance[CA T (ao a)]:CE T (eo (b5 a)):=Oq (ao a) Ru
noncomputable instance[CA T (as a)]:CE T (es (j9 a)):=Oq (as a) LY
noncomputable instance[CA T (ao a)]:CE T (eo (ci a)):=T4 (ao a) Pm
noncomputable instance[CE T (eo a)]:CE T (es (ae a)):=yC (A:=eo a) rZ
noncomputable instance[CE T (es a)]:CE T (es (hG a)):=yC (A:=es a) vW
class Fn (T:G Fd) {φ:Type} (k:Nat->Str->G Str->Nat->φ->Fd) (F:φ) (n:Nat) where
 i:Nat
 lv:Nat
 x:Str
 ps:G Str
 h:T[i]?=M (k lv x ps n F)
def Ta(b:Gm)(i lv:Nat)(x:Str)(e:Yc):b3 (Yc×G Yc×Pos×Pos):=(yi e).bind λy=>match y.2.1 with
 |a::r=>(vN y.1).bind λz=>if z.1==x&&Te b x&&decide (i<b.top)&&decide (lv<=b.lv)&&(a::r).all jc&&y.2.2.1.isEmpty then M (a,r,z.2,y.2.2.2)else Ld
 |[]=>Ld
def rN{c:Gm}{i lv:Nat}{x:Str}{e:Yc}{y:Yc×G Yc×Pos×Pos}(h:Ta c i lv x e=M y):e=.Call (.Name x y.2.2.1) (y.1::y.2.1) [] y.2.2.2/\Te c x=P/\i<c.top/\lv<=c.lv/\(y.1::y.2.1).all jc=P:=by
 let((f,l,o,p),q,a):=YH.mp h;rw[n6 q];dsimp only at a;split at a
 .let(z,b,g):=YH.mp a
  obtain rfl:=sP b;split at g
  .rename_i z;ext g;simp only[Xy,decide_eq_true_eq,beq_iff_eq,Yy]at z;let(((((rfl,b),n),m),j),rfl):=z;show#[W,b,n,m,j]
  .ext g
 .ext a
def tH(U:Jd TA){d:Type}(D:Nat->Str->G Str->Nat->d->Fd)(F:d)(n:Nat)[o:Fn T D F n][u:CA T U](s:Bool)(k:∀{X:Cx} {E lv x L t e r p q},D lv x L n F X.prog X.w X.K X.mg X.base->(s=P->dL (L4.kF X.prog X.w) X E)->Zp lv X.A->Gl X x->(x==("__debug__":Str))=XF->(e::r).all jc=P->PA X (e::r) t->U X.K E t->∃i,PE X (.Call (.Name x p) (e::r) [] q) i/\J X.K E i):CE T J where
 chk Γ e:=(!s||Γ.rz)&&(Ta Γ o.i o.lv o.x e).any λy=>u.chk Γ (y.1::y.2.1)
 ok c h:=by rw[Xy]at h;let(y,q,j):=bc h.2;let(rfl,g,N,b,a):=rN q;let(v,m,_):=oX c g;let(t,l,f):=u.ok c j;show k (c.fs _ _ N o.h) (λz=>FY c (by let:=h.1;rw[z]at this;show this)) (c.rm.mono b) v m a l f
noncomputable instance[Fn T fdP F n][CA T (ao a)]:CE T (eo (eA F n a)):=tH (ao a) fdP F n XF λf _ r g d p e b=>#[_,tN f r e (XO _) g d (db p) (iJ p),RH b]
noncomputable instance[Fn T fdP F n][CA T (as a)]:CE T (es (iZ F n a)):=tH (as a) fdP F n XF λf _ r g d p e b=>#[_,tN f r e (XO _) g d (db p) (iJ p),Mr b]
noncomputable instance[Fn T fdS F n][CA T (as a)]:CE T (es (kG F n a)):=tH (as a) fdS F n XF λf _ r g d p e b=>#[_,tN f r e (XO _) g d (db p) (iJ p),D5 b]
noncomputable instance[Fn T fdS F n][CA T (as a)]:CE T (es (kK F n a)):=tH (as a) fdS F n XF λf _ r g d p e b=>#[_,tN f r e (XO _) g d (db p) (iJ p),Dr b]
class CB (f:G D->z RV) where
 x:Str
 v:Xx
 b:YI x=M v
 y:(∃id,v=.builtin id)\/∃ty,v=.type ty
 ok:∀{X:Cx},X.calm=P->∃r,ZJ X v r/\C5 X.K r f
def F8(a:Gm)(x:Str)(e:Yc):z (Yc×G Yc×Pos×Pos):=if blt a x then Ta {a with top:=1} 0 0 x e else Ld
def mF{c:Gm}{x:Str}{e:Yc}{y:Yc×G Yc×Pos×Pos}(h:F8 c x e=M y):e=.Call (.Name x y.2.2.1) (y.1::y.2.1) [] y.2.2.2/\blt c x=P/\(y.1::y.2.1).all jc=P:=by
 unfold F8 at h;split at h
 .rename_i z;let(b,_,_,_,a):=rN h;show#[b,z,a]
 .ext h
def wX{d:Gm}{X:Cx}{E:XK}{x:Str}{v:Xx}{r:G V->Hp->VK->Prop}{e:Yc}{l:G Yc}{p q:Pos}{t:TA}(c:Ct T d X E)(m:blt d x=P)(b:YI x=M v)(y:(∃id,v=.builtin id)\/∃ty,v=.type ty)(k:ZJ X v r)(a:(e::l).all jc=P)(h:PA X (e::l) t):PE X (.Call (.Name x p) (e::l) [] q) (D1 r t):=by
 let(j,g,i,f):=pz c m;rcases y with⟨id,rfl⟩|⟨id,rfl⟩
 .show Jz k j g b h f i (db a) (iJ a)
 .show Dq k j g b h f i (db a) (iJ a)
def Ut(U:Jd TA)(f:G D->z RV)[o:CB f][u:CA T U](k:∀{K E r t},C5 K r f->U K E t->J K E (D1 r t)):CE T J where
 chk Γ e:=(F8 Γ o.x e).any λy=>u.chk Γ (y.1::y.2.1)
 ok c h:=by let(y,q,j):=bc h;let(rfl,g,a):=mF q;let(t,l,i):=u.ok c j;let(r,k1,k2):=o.ok c.cm;show#[_,wX c g o.b o.y k1 a l,k k2 i]
noncomputable instance[CB f][CA T (ao a)]:CE T (eo (eE f a)):=Ut (ao a) f OQ
noncomputable instance[CB f][CA T (as a)]:CE T (es (ji f a)):=Ut (as a) f Q5
noncomputable instance:CB cA:=#["len",_,OH,.inl #[_,W],λ_=>#[_,Iq,Qr]]
noncomputable instance:CB d9:=#["tuple",_,J5,.inr #[_,W],λ_=>#[_,ui,JS]]
noncomputable instance:CB wF:=#["all",_,T5,.inl #[_,W],λh=>#[_,GA h,P6]]
noncomputable instance:CB qC:=#["list",_,Jk,.inr #[_,W],λ_=>#[_,vL,Kw]]
noncomputable instance:CB L9.gr:=#["sorted",_,ye,.inl #[_,W],λ_=>#[_,L9.wf,L9.Ay]]
noncomputable instance:CB yt:=#["max",_,FC,.inl #[_,W],λh=>#[_,DQ h,KA]]
def Wy(a:Gm)(x y:Str)(i:Int)(e:Yc):b3 Yc:=(yi e).bind λc=>match c.2.1,c.2.2.1 with
 |[l],[#[M w,v,_]]=>if(vN c.1).any (λz=>z.1==x)&&blt a x&&w==y&&((vC v).bind cD).any (λz=>dq 2 z (.int i))&&jc l then M l else Ld
 |_,_=>Ld
def PZ{k:Gm}{x y:Str}{i:Int}{e l:Yc}(h:Wy k x y i e=M l):(∃p s L D j,e=.Call (.Name x p) [l] [#[M y,.Constant (.int i) j s,L]] D)/\blt k x=P/\jc l=P:=by
 let((f,a,G,p),q,b):=YH.mp h;rw[n6 q];dsimp only at b;split at b
 .split at b
  .rename_i z;ext b;simp only[Xy,beq_iff_eq]at z;let((((r,o),rfl),m),g):=z;let(n,F,E):=bc r;let(d,w,v):=bc m;let(c,u,t):=YH.mp w;obtain rfl:=EC _ _ _ v;let(j,s,rfl):=NZ u;ext c<;>ext t;rw[sP F,beq_iff_eq.mp E];show#[#[_,_,_,_,_,W],o,g]
  .ext b
 .ext b
noncomputable instance[u:CA T (ao a)]:CE T (eo (eE (L10.Br i) a)) where
 chk Γ e:=(Wy Γ "max" "default" i e).any λl=>u.chk Γ [l]
 ok c h:=by let(l,q,m):=bc h;let((_,_,_,_,_,rfl),g,b):=PZ q;let(o,n,_):=pz c g;let(t,j,f):=u.ok c m;show#[_,L10.Nx c.cm o n j (Nt b),OQ L10.LQ f]
noncomputable instance[x:CE T (eo a)]:CE T (eo (Ak nY a)) where
 chk Γ e:=(Vm e).any λy=>(match y.1 with|.USub=>P|_=>XF)&&x.chk Γ y.2
 ok c h:=by let((o,e),q,b):=bc h;let(_,rfl):=zU q;rw[Xy]at b;let(t,g,f):=x.ok c b.2;ext o<;>first|show#[_,TJ RQ g,UU NK f]|cases b.1
noncomputable instance[x:CE T (eo a)]:CO T (oo (sE a)) where
 chk Γ e:=e.any (x.chk Γ)
 ok c h:=by let(e,q,g):=bc h;subst q;let(t,f,b):=x.ok c g;show#[_,Ll f,G1 b]
class SOp (f:D->z Int->z Int->z RV) where
 ok:∀{X:Cx},∃r,Ud X r/\VQ X.K r f
noncomputable instance:SOp UR:=#[#[_,PU,NC]]
noncomputable instance[o:SOp f][x:CE T (eo a)][m:CO T (oo l)][n:CO T (oo u)]:CE T (eo (Tb f a l u)) where
 chk Γ e:=(yV e).any λy=>(Wh y.2.1).any λz=>z.2.2.isNone&&x.chk Γ y.1&&m.chk Γ z.1&&n.chk Γ z.2.1
 ok c h:=by let((e,s,p),q,E):=bc h;rw[jE q];let((H,G,F),i,g):=bc E;let(_,b):=R9 i;let b:s=_:=b;subst b;simp only[Xy,aaM]at g;let(((rfl,w),v),j):=g;let(t,k1,k2):=x.ok c w;let(K,k3,k4):=m.ok c v;let(I,k5,k6):=n.ok c j;let(r,k7,k8):=o.ok;show#[_,JU k7 k1 k3 k5,UE k8 k2 k4 k6]
def UK(op:BoolOp)(A B:Jd TE)[x:CE T A][y:CE T B]{f:TE->TE->TE}(p:∀{X:Cx} {a b pos s d},PE X a s->PE X (.BoolOp op [b] pos) d->PE X (.BoolOp op [a,b] pos) (f s d))(k:∀{K E s d},A K E s->B K E d->J K E (f s d)):CE T J where
 chk Γ e:=(VJ e).any λz=>decide (z.1=op)&&match z.2.1 with
  |[l,r]=>x.chk Γ l&&y.chk Γ r
  |_=>XF
 ok c h:=by
  let((o,l,p),q,i):=bc h;rw[Hi q];simp only[Xy,decide_eq_true_eq]at i;let(rfl,g):=i;split at g
  .rw[Xy]at g;let(s,t,n):=x.ok c g.1;let(d,m,j):=y.ok c g.2;show#[_,p t (SR m),k n j]
  .ext g
noncomputable instance[CE T (eo a)][CE T (eo b)]:CE T (eo (yK a b)):=UK .And (eo a) (eo b) JB Sb
noncomputable instance[CE T (es a)][CE T (es b)]:CE T (es (zi a b)):=UK .And (es a) (es b) JB LF
def Vx(Q:Jd TT)(A B:Jd TE)[n:CT T Q][x:CE T A][y:CE T B](k:∀{K E t o d},Q K E t->A K E o->B K E d->J K E (Vf t o d)):CE T J where
 chk Γ e:=(WC e).any λw=>n.chk Γ w.1&&x.chk Γ w.2.1&&y.chk Γ w.2.2
 ok c h:=by let(w,q,a):=bc h;let(_,rfl):=Qn q;simp only[Xy]at a;let(m,f,b):=n.ok c a.1.1;let(o,l,j):=x.ok c a.1.2;let(d,i,g):=y.ok c a.2;show#[_,EU f l i,k b j g]
noncomputable instance[CT T (mP q)][CE T (es a)][CE T (es b)]:CE T (es (Pe q a b)):=Vx (mP q) (es a) (es b) Pu
def Ww(A:Jd TE)[x:CE T A](k:∀{K E t},A K E t->Q K E (tB t)):CT T Q where
 chk Γ e:=UF e&&x.chk Γ e
 ok c h:=by rw[Xy]at h;let(t,b,a):=x.ok c h.2;show#[_,Q7 b (KS h.1),k a]
def Os(A B:Jd TE){f:D->D->z RV}[o:COp f][x:CE T A][y:CE T B](k:∀{K E r s d},kZ K r f->A K E s->B K E d->Q K E (Bz (JZ r s d))):CT T Q where
 chk Γ e:=(Us o.op e).any λp=>x.chk Γ p.1&&y.chk Γ p.2
 ok c h:=by let(p,q,a):=bc h;rw[Xy]at a;let(s,n,m):=x.ok c a.1;let(d,l,j):=y.ok c a.2;let(_,rfl,b):=vV q;let(r,i,g):=o.ok (Cf c.rm);show#[_,La i n l b,k g m j]
noncomputable instance[CE T (eo a)]:CT T (mO (aJ a)):=Ww (eo a) Ui
noncomputable instance[CE T (es a)]:CT T (mP (aZ a)):=Ww (es a) Hj
noncomputable instance[COp f][CE T (eo a)][CE T (eo b)]:CT T (mO (aJ (aH f a b))):=Os (eo a) (eo b) λh g e=>nz (Ow h g e)
noncomputable instance[COp f][CE T (es a)][CE T (es b)]:CT T (mP (aZ (jT f a b))):=Os (es a) (es b) λh g e=>rX (GX h g e)
def On(R:Jd TT)[g:CT T R](k:∀{K E t},R K E t->Q K E (Mf t)):CT T Q where
 chk Γ e:=(Vm e).any λy=>(match y.1 with|.Not=>P|_=>XF)&&g.chk Γ y.2
 ok c h:=by let((o,e),q,a):=bc h;let(_,rfl):=zU q;rw[Xy]at a;let(t,f,b):=g.ok c a.2;ext o<;>first|show#[_,S0 f,k b]|cases a.1
theorem Uh{X:Cx}{op:BoolOp}{b:G Yc}{a:Pos}{t:TT}(h:PT X (.BoolOp op b a) t):PW X (.BoolOp op b a) t:=λ_=>h
def Mb(op:BoolOp)(R S:Jd TT)[L:CT T R][v:CT T S]{f:TT->TT->TT}(H:∀{X:Cx} {a pos t},PT X a t->PW X (.BoolOp op [a] pos) t)(p:∀{X:Cx} {a b r pos x d},PT X a x->PW X (.BoolOp op (b::r) pos) d->PW X (.BoolOp op (a::b::r) pos) (f x d))(k:∀{K E x d},R K E x->S K E d->Q K E (f x d)):CT T Q where
 chk Γ e:=(VJ e).any λy=>decide (y.1=op)&&match y.2.1 with
  |[l,m]=>L.chk Γ l&&v.chk Γ m
  |l::m::n::s=>L.chk Γ l&&v.chk Γ (.BoolOp op (m::n::s) y.2.2)
  |_=>XF
 ok c h:=by
  let((o,l,w),q,G):=bc h;rw[Hi q];simp only[Xy,decide_eq_true_eq]at G;let(rfl,g):=G;split at g
  .rw[Xy]at g;let(x,F,u):=L.ok c g.1;let(d,j,i):=v.ok c g.2;show#[_,(p F (H j)).pt,k u i]
  .rw[Xy]at g;let(x,F,u):=L.ok c g.1;let(d,j,i):=v.ok c g.2;show#[_,(p F (Uh j)).pt,k u i]
  .ext g
noncomputable instance[CT T (mO q)]:CT T (mO (Ag q)):=On (mO q) Ma
noncomputable instance[CT T (mP q)]:CT T (mP (L10.tX q)):=On (mP q) Nk
noncomputable instance[CT T (mO q)][CT T (mO r)]:CT T (mO (xZ q r)):=Mb .And (mO q) (mO r) Bw HR Nh
noncomputable instance[CT T (mO q)][CT T (mO r)]:CT T (mO (Er q r)):=Mb .Or (mO q) (mO r) JT N4 Pp
noncomputable instance[CT T (mP q)][CT T (mP r)]:CT T (mP (mv q r)):=Mb .And (mP q) (mP r) Bw HR Lp
noncomputable instance[CT T (mP q)][CT T (mP r)]:CT T (mP (zb q r)):=Mb .Or (mP q) (mP r) JT N4 Pr
noncomputable instance[CT T (mO q)]:CT T (mP (bS q)):=yC (A:=mO q) EL
end
end CC
set_option warn.classDefReducibility false
namespace CC
open PySem L2 L3 L10
variable{T:bg Fd}{A B C J:Jd TE}{U Z:Jd TA}
def Ot(x:Str)(e:Yc):b3 (Yc×G Yc×Pos×Pos):=(yi e).bind λy=>(Tq y.1).bind λz=>if z.2.1==x&&Tc z.1&&z.2.2.endLine==y.2.2.2.line&&y.2.1.all jc&&decide (y.2.1.length<20)&&y.2.2.1.isEmpty then M (z.1,y.2.1,z.2.2,y.2.2.2)else R
def mH{x:Str}{e:Yc}{y:Yc×G Yc×Pos×Pos}(h:Ot x e=M y):e=.Call (.Attribute y.1 x y.2.2.1) y.2.1 [] y.2.2.2/\Tc y.1=P/\(y.2.2.1.endLine==y.2.2.2.line)=P/\y.2.1.all jc=P/\y.2.1.length<20:=by
 let((f,l,v,p),q,w):=YH.mp h;let((o,n,r),u,a):=YH.mp w;rw[n6 q,show f=_ from wH u];split at a
 .rename_i z;ext a;simp only[Xy,decide_eq_true_eq,Yy]at z;let(((((t,m),j),i),g),b):=z;show#[?_,m,j,i,g];rw[show n=x from beq_iff_eq.mp t,show v=[]from b]
 .ext a
class MS (f:Str->G D->z RV) where
 x:Str
 ok:∀{X:Cx},∃id r,Slot "str" x id/\typeOf (.builtin id)=pure (.type "method_descriptor")/\SZ X id r/\W8 X.K r f
def Vb(m:Str){id:String}{r:V->bg V->Hp->VK->Prop}(s:Slot "list" m id)(ty:typeOf (.builtin id)=pure (.type "method_descriptor"))(mt:∀{X:Cx},SZ X id r)(i:Gm->Yc->Bool)(G:Jd TE)(A:Jd TE)[x:CE T A](j:∀{d X E e},Ct T d X E->i d e=P->∃t,PE X e t/\G X.K E t)(k:∀{K E to t},G K E to->A K E t->J K E (RZ K "list" r to (ei t iL))):CE T J where
 chk d e:=(Ot m e).any λy=>i d y.1&&match y.2.1 with
  |[e]=>x.chk d e
  |_=>XF
 ok c h:=by
  let((b,l,p,q),z,g):=bc h;let(rfl,H,F,a,I):=mH z;rw[Xy]at g;let(w,f):=g;let(to,v,u):=j c w
  match l,a,f with
  |[e],a,f=>let a:[e].all jc=P:=a;let(t,o,n):=x.ok c f;show#[RZ _ "list" r to (ei t iL),?_,k u n];show OV aaX s ty mt v (d4 o i8 (db a)) (fF H) (mS a (by show 1<20;decide)) F (db a) W
def vJ(i:Nat):Jd TE:=λ_ _ t=>t=qE i
noncomputable instance[CE T (eo a)]:CE T (eo (xu i a)):=Vb "append" acW acX oW (Ng i) (vJ i) (eo a) (λc h=>#[_,zX c h,W]) λh k=>by ext h;show RN k
noncomputable instance[x:CE T (es o)][CE T (es a)]:CE T (es (jr o a)):=Vb "append" acW acX oW x.chk (es o) (es a) x.ok Nq
def Na(a:Gm)(C f:Str):Bool:=(a.M.cl.lookup C).any λL=>L.contains f
def vE{b:Gm}{X:Cx}{E:XK}{C f:Str}(c:Ct T b X E)(h:Na b C f=P):∃L,lP X.K C L/\f∈L:=by let(L,q,a):=bc h;show#[L,c.md.cl _ _ q,abA.mp a]
noncomputable instance{C f:Str}[x:CE T (es a)]:CE T (es (aK C f a)) where
 chk Γ e:=(Tq e).any λy=>y.2.1==f&&Na Γ C f&&Tc y.1&&x.chk Γ y.1
 ok c h:=by let((o,n,p),q,b):=bc h;rw[wH q];simp only[Xy,beq_iff_eq]at b;let(((rfl,u),r),m):=b;let(L,i,g):=vE c u;let(t,l,j):=x.ok c m;show#[_,JK l (fF r),BC i g j]
class FM (T:G Fd) (rz:Bool) (C m:Str) (F:fq) (n:Nat) where
 i:Nat
 lv:Nat
 ps:G Str
 h:T[i]?=M (fdM rz lv C m ps n F)
section
variable{C m:Str}{F:fq}{n:Nat}
def F6(T:G Fd)(b hd:Bool)(C m:Str)(F:fq)(n:Nat)[o:FM T b C m F n](x:Gm->Yc->Bool)(u:Gm->G Yc->Bool)(a:Gm)(e:Yc):Bool:=(!hd||a.rz&&b)&&decide (o.i<a.top)&&decide (o.lv<=a.lv)&&(a.M.cl.lookup C).isSome&&(Ot m e).any λy=>x a y.1&&u a y.2.1
def wb{d hd:Bool}[o:FM T d C m F n]{x:Gm->Yc->Bool}{u:Gm->bg Yc->Bool}{k:Gm}{X:Cx}{E:XK}{e:Yc}(c:Ct T k X E)(h:F6 T d hd C m F n x u k e=P):∃(b:Yc) (l:bg Yc) (p q:Pos) (L:bg Str) (pl:Sem Bool),e=.Call (.Attribute b m p) l [] q/\x k b=P/\u k l=P/\lP X.K C L/\oz X.prog X.w X.K X.mg X.base (if d then L4.kF X.prog X.w else lK) o.lv C m o.ps (kj X.K n F)/\Zp o.lv X.A/\dL (if d then L4.kF X.prog X.w else lK) X (if hd then E else E0)/\l.all jc=P/\eval (.Call (.Attribute b m p) l [] q) X.env=(do
   let ov<-eval b X.env
   standAt p.atName
   let(f,first)<-holding [ov] (getMethod ov m pl)
   callWith q f first (backTo q (X6 l X.env)) (backToKw q (keywordEach [] X.env))):=by
 unfold F6 at h;simp only[Xy,decide_eq_true_eq]at h;let((((a,y),v),t),r):=h;let((b,l,p,q),z,g):=bc r;let(rfl,I,H,i,G):=mH z;rw[Xy]at g;let(L,j):=Y8.mp t;let(pl,ev):=Uf (m:=m) (env:=X.env) I i G H;show#[b,l,p,q,L,pl,W,g.1,g.2,c.md.cl _ _ j,c.fs _ _ y o.h,c.rm.mono v,?_,i,ev];cases hd with
 |true=>let a:=(Xy _ _).mp a;rw[a.2];show FY c a.1
 |false=>cases d with
  |true=>show Gq
  |false=>show GM
def Uo(d hd:Bool)(A:Jd TE)(U:Jd TA)[o:FM T d C m F n][x:CE T A][u:CA T U](k:∀{K E L to t},lP K C L->A K E to->U K E t->J K E (oP K C m (kj K n F) (if hd then E else E0) to t)):CE T J where
 chk:=F6 T d hd C m F n x.chk λy l=> !l.isEmpty&&u.chk y l
 ok c h:=by
  let(b,l,p,q,L,pl,rfl,w,a,v,r,j,i,f,g):=wb c h;rw[Xy]at a;let(to,k1,k2):=x.ok c w;let(t,k3,k4):=u.ok c a.2;cases l with
  |nil=>cases a.1
  |cons e l=>show#[_,OP r i j k1 k3 (XO _) (db f) (iJ f) g,k v k2 k4]
def Ty(d hd:Bool)(A:Jd TE)[o:FM T d C m F n][x:CE T A](k:∀{K E L to},lP K C L->A K E to->J K E (oP K C m (kj K n F) (if hd then E else E0) to iL)):CE T J where
 chk:=F6 T d hd C m F n x.chk λ_ l=>l.isEmpty
 ok c h:=by let(b,l,p,q,L,pl,rfl,r,a,j,i,g,f,t,e):=wb c h;let(to,k1,k2):=x.ok c r;rw[Yy]at a;subst a;show#[_,Q6 i f g k1 (XO _) e,k j k2]
noncomputable instance[FM T XF C m F n][CE T (es o)][CE T (es a)][CA T (as b)]:CE T (es (aM C m F n o (ai a b))):=Uo (C:=C) (m:=m) (F:=F) (n:=n) XF XF (es o) (as (ai a b)) Ba
noncomputable instance[FM T XF C m F n][CE T (es o)]:CE T (es (aM C m F n o aw)):=Ty (C:=C) (m:=m) (F:=F) (n:=n) XF XF (es o) λh k=>Ba h k ww
noncomputable instance[FM T P C m F n][CE T (es o)][CE T (es a)][CA T (as b)]:CE T (es (jY C m F n o (ai a b))):=Uo (C:=C) (m:=m) (F:=F) (n:=n) P P (es o) (as (ai a b)) GB
class FK (T:G Fd) (C:Str) (F:fq) (n:Nat) where
 i:Nat
 lv:Nat
 ps:G Str
 h:T[i]?=M (fdK lv C ps n F)
noncomputable instance[o:FK T C F n][x:CE T (es a)][u:CA T (as b)]:CE T (es (tf C F n (ai a b))) where
 chk Γ e:=(Γ.M.cl.lookup C).isSome&&(Ta Γ o.i (o.lv+1) C e).any λy=>CK.chk T PA (as (ai a b)) Γ (y.1::y.2.1)
 ok c h:=by rw[Xy]at h;let(L,l):=Y8.mp h.1;let(y,q,r):=bc h.2;let(rfl,g,i,j,f):=rN q;let(z,w,_):=oX c g;let(t,v,p):=CK.ok c r;show#[_,Pk (c.fs _ _ i o.h) GM c.rm v j z w (db f) (iJ f),Mo (c.md.cl _ _ l) p]
end
end CC
set_option warn.classDefReducibility false
namespace CC
open PySem L2 L3 L10
variable{T:bg Fd}{A B C J:Jd TE}{U Z:Jd TA}{Q R:Jd TT}
theorem Vh{a:Gm}{X:Cx}{E:XK}(c:Ct T a X E):X.A.units+1<cLine:=ER c.rm
noncomputable instance[x:CE T (es d)][y:CE T (es k)]:CE T (es (rP d k)) where
 chk Γ e:=(yV e).any λp=>jc p.2.1&&x.chk Γ p.1&&y.chk Γ p.2.1
 ok c h:=by let(p,q,a):=bc h;simp only[Xy]at a;let(l,i,g):=x.ok c a.1.2;let(j,f,b):=y.ok c a.2;rw[jE q];show#[_,NJ (Vh c) i f (wl a.1.1),Jc g b]
def Op(x y:Gm->Yc->Bool)(a:Gm)(e:Yc):Bool:=(Us .In e).any λp=>x a p.1&&y a p.2
def Iz[x:CE T (es k)][y:CE T (es d)]{l X E e}(c:Ct T l X E)(h:Op x.chk y.chk l e=P):∃t,PE X e t/\PT X e (tB t)/\cg X.K E t (ue XF k d):=by let(p,q,a):=bc h;rw[Xy]at a;let(_,rfl,b):=vV q;let(n,g,j):=x.ok c a.1;let(m,f,i):=y.ok c a.2;show#[_,zC (Iv (Vh c) g f) b,zc (Iv (Vh c) g f) b,Mv j i]
noncomputable instance[x:CE T (es k)][y:CE T (es d)]:CT T (mP (aZ (ue XF k d))):=#[Op x.chk y.chk,λc h=>let#[_,_,h1,a]:=Iz c h;#[_,h1,Hj a]]
noncomputable instance[x:CE T (es d)][y:CE T (es k)]:CE T (es (uH d k)) where
 chk Γ e:=(Ot "pop" e).any λz=>x.chk Γ z.1&&match z.2.1 with
  |[e]=>y.chk Γ e
  |_=>XF
 ok c h:=by
  let((b,l,p,q),z,g):=bc h;let(rfl,m,j,a,u):=mH z;rw[Xy]at g;let(i,f):=g;let(L,t,r):=x.ok c i
  match l,a,f with
  |[e],a,f=>let a:[e].all jc=P:=a;let(v,o,n):=y.ok c f;show#[_,IW t o #[fF m,mS a (by show 1<20;decide),j,?_],Fh r n];rw[db a];rfl
noncomputable instance[x:CE T (es d)]:CE T (es (x8 d)) where
 chk Γ e:=(F8 Γ "list" e).any λy=>y.2.1.isEmpty&&(Ot "values" y.1).any λz=>z.2.1.isEmpty&&x.chk Γ z.1
 ok c h:=by let((e,l,E,w),q,f):=bc h;let(rfl,g,i):=mF q;simp only[Xy,Yy]at f;let(rfl,o):=f;let((b,l,v,u),z,a):=bc o;let(rfl,r,p,H,G):=mH z;simp only[Xy,Yy]at a;let(rfl,n):=a;let(t,m,j):=x.ok c n;show#[_,wX c g Jk (.inr #[_,W]) (L10.Ax c.cm) i (d4 (Hq aaW acV PySem.F.type_dict_values L10.Ep m (fF r) p) i8 (jK W)),FW j]
def SJ(x:Str){v:Xx}(b:YI x=M v)(y:(∃id,v=.builtin id)\/∃ty,v=.type ty)(A:Jd TE)[u:CE T A]{r:lD->G V->Hp->VK->Prop}(n:∀{X:Cx},X.calm=P->ZJ X v (r X.K))(k:∀{K E t},A K E t->J K E (D1 (r K) (ei t iL))):CE T J where
 chk Γ e:=(F8 Γ x e).any λy=>y.2.1.isEmpty&&u.chk Γ y.1
 ok c h:=by let((e,l,p,o),q,f):=bc h;let(rfl,g,a):=mF q;simp only[Xy,Yy]at f;let(rfl,m):=f;let(t,j,i):=u.ok c m;show#[_,wX c g b y (n c.cm) a (d4 j i8 (db a)),k i]
noncomputable instance[CE T (es d)]:CE T (es (sO d)):=SJ "sorted" ye (.inl #[_,W]) (es d) (r:=λ_=>zz) L10.z9 Hs
noncomputable instance[CE T (es d)]:CE T (es (uJ d)):=SJ "dict" L10.Qe (.inr #[_,W]) (es d) (r:=z8) L10.Ap GC
def Ml(i:Nat)(a:Gm)(e:Yc):Bool:=(vN e).any λx=>a.N[i]? ==M x.1&&(a.sc.lookup x.1==M .local||(a.sc.lookup x.1==M .cell&&a.fc.contains x.1))
def vd{b:Gm}{X:Cx}{E:XK}{i:Nat}{e:Yc}(c:Ct T b X E)(h:Ml i b e=P):∃x p,e=.Name x p/\X.N[i]?=M x/\L2.S5 X.env.scope x/\(X.fn x=P\/Zu x X.env.scope.names=M X7.local):=by
 let((x,p),q,a):=bc h;simp only[Xy,YW]at a;show#[x,p,sP q,by rw[c.n];show beq_iff_eq.mp a.1,?_];ext L2.S5;rw[c.sc];rcases a.2 with z|⟨z,w⟩
 .show#[.inl (eR z),.inr (eR z)]
 .show#[.inr (eR z),.inl (c.fc _ (abA.mp w))]
def US{G:Jd TG}(i:Nat)(k:∀{K E},G K E (mZ i)):CG T G where
 chk:=Ml i
 ok c h:=by let(x,p,rfl,e,b,a):=vd c h;show#[_,#[Kn c.nd e b a,λ_=>W],k]
noncomputable instance:CG T (go (gN i)):=US i wR
noncomputable instance:CG T (D7 (b7 i)):=US i nc
def UM{G:Jd AJ}(k:∀{K E},G K E KO):CH T G:=#[λ_ l=>l.isEmpty,λ_ h=>by rw[Yy.mp h];show#[_,#[KN,W,W],k]]
noncomputable instance:CH T (gs UX):=UM Rb
noncomputable instance:CH T (QF uf):=UM L5
def U9{I:Jd AJ}(G:Jd TG)(H:Jd AJ)[x:CG T G][y:CH T H](k:∀{K E t u},G K E t->H K E u->I K E (Cd t u)):CH T I where
 chk Γ l:=match l with
  |e::r=>x.chk Γ e&&y.chk Γ r
  |[]=>XF
 ok c h:=by
  split at h
  .rw[Xy]at h;let(o,(m,a),j):=x.ok c h.1;let(n,(i,f,b),g):=y.ok c h.2;show#[_,#[JC m i (by rw[a];rfl),by rw[a,XZ,XZ,f],by rw[a,List.findIdx?_cons,b];rfl],k j g]
  .ext h
noncomputable instance[CG T (go g)][CH T (gs r)]:CH T (gs (RB g r)):=U9 (go g) (gs r) NQ
noncomputable instance[CG T (D7 g)][CH T (QF r)]:CH T (QF (kh g r)):=U9 (D7 g) (QF r) Gu
def Tv{I:Jd TG}(n:Nat)(H:Jd AJ)[y:CH T H](k:∀{K E t},H K E t->I K E (ND K n t)):CG T I where
 chk Γ e:=(IZ e).any λl=>decide (l.length=n)&&y.chk Γ l
 ok c h:=by let(l,q,a):=bc h;let(_,_,rfl):=vk q;simp only[Xy,decide_eq_true_eq]at a;let(rfl,b):=a;let(t,(j,g,f),i):=y.ok c b;show#[_,#[QB c.cm j g f,λ_=>W],k i]
noncomputable instance[CH T (gs r)]:CG T (go (gT n r)):=Tv n (gs r) SX
noncomputable instance[CH T (QF r)]:CG T (D7 (Ey n r)):=Tv n (QF r) Nb
def U5(A:Jd TE){I:Jd TI}[x:CE T A]{f:lD->TE->TI}(p:∀{X:Cx} {d e t},PE X e t->PI X d e (f X.K t))(k:∀{K E t},A K E t->I K E (f K t)):CI T I where
 chk Γ p:=jc p.2&&x.chk Γ p.2
 ok c h:=by rw[Xy]at h;let(t,b,a):=x.ok c h.2;show#[_,#[p b,h.1],k a]
noncomputable instance[CE T (eo a)]:CI T (io (eT a)):=U5 (eo a) II SH
noncomputable instance[CE T (es a)]:CI T (J0 (ez a)):=U5 (es a) II KH
noncomputable instance[CI T (io f)]:CI T (PN f):=yC (A:=io f) λh=>L3.IO.s h
noncomputable instance[CI T (io f)]:CI T (J0 (dR f)):=yC (A:=io f) GN
noncomputable instance[u:CA T (ao a)]:CI T (io (jP fP a)) where
 chk L p:=(F8 L "range" p.2).any λy=>y.2.1.isEmpty&&u.chk L [y.1]
 ok {L X E p} c h:=by let((e,l,F,w),q,b):=bc h;let(z,g,i):=mF q;simp only[Xy,Yy]at b;let(rfl,n):=b;let(r,o,_):=pz c g;let(t,m,j):=u.ok c n;let(v,f):=p;let z:f=_:=z;subst z;show#[_,#[uQ r o m (db i),W],KC j]
noncomputable instance[u:CA T (ao a)]:CI T (io (tW a)) where
 chk L p:=A7 p.1&&(F8 L "zip" p.2).any λy=>match y.2.1 with
  |[r]=>u.chk L [y.1,r]
  |_=>XF
 ok {L X E p} c h:=by
  rw[Xy]at h;let((e,l,G,F),q,f):=bc h.2;let(z,g,b):=mF q;let(w,v,_):=pz c g;let(i,j):=p;let z:j=_:=z;subst z;let o:A7 i=P:=h.1
  match l,b,f with
  |[r],b,f=>let b:[e,r].all jc=P:=b;let(t,n,m):=u.ok c f;let(_,_,_,rfl):=yn o;show#[_,#[PD w v n (db b) (iJ b),W],RP m]
end CC
set_option warn.classDefReducibility false
namespace CC
open PySem L2 L3 L10
variable{T:bg Fd}{A B C J:Jd TE}{U Z:Jd TA}{Q R:Jd TT}{G:Jd TG}{I:Jd TI}
noncomputable instance:CQ T (mO cz):=#[λ_ l=>l.isEmpty,λ_ h=>by rw[Yy.mp h];show#[_,xQ,EA]]
noncomputable instance:CQ T (mP b6):=#[λ_ l=>l.isEmpty,λ_ h=>by rw[Yy.mp h];show#[_,xQ,Hl]]
def WY(Q:Jd TT)[f:CT T Q]:CQ T Q where
 chk Γ l:=match l with
  |[e]=>f.chk Γ e
  |_=>XF
 ok c h:=by
  split at h
  .let(t,b,a):=f.ok c h;show#[_,Hh b,a]
  .ext h
noncomputable instance[CT T (mO q)]:CQ T (mO q):=WY (mO q)
def t0{b:Type}(P:Jd (St->Hp->b->Prop))(K:lD)(E:XK):St->Hp->b->Prop:=λa H Q=>∀t,P K E t->t a H Q
def g0(P:Jd TG)(K:lD)(E:XK):TG:=λv a H Q=>∀t,P K E t->t v a H Q
class Cl {τ:Type} (P:Jd (St->Hp->τ->Prop)):Prop where
 cl:∀{K E},P K E (t0 P K E)
class ClG (P:Jd TG):Prop where
 cl:∀{K E},P K E (g0 P K E)
noncomputable instance:Cl (eo g):=#[λB b O a H e Q R w _ h=>h B b O a H e Q R w]
noncomputable instance:Cl (es g):=#[λB a H α b e Q s l w _ h=>h B a H α b e Q s l w]
noncomputable instance:Cl (mO g):=#[λB b O a H e Q R w _ h=>h B b O a H e Q R w]
noncomputable instance:Cl (mP g):=#[λB a H α b e Q s l w _ h=>h B a H α b e Q s l w]
noncomputable instance:ClG (go g):=#[λB b O a H e v pv Q R p w _ h=>h B b O a H e v pv Q R p w]
noncomputable instance:ClG (D7 g):=#[λB a H α b e v x Q s l p w _ h=>h B a H α b e v x Q s l p w]
def OM(e:Yc):bg Str:=((vN e).map (·.1)).toList++((IZ e).getD []).filterMap λe=>(vN e).map (·.1)
def Se(l:bg (Str×X7)):bg Str:=(l.filter λy=>y.2==X7.cell&&l.all λp=> !(p.1==y.1)|| !(p.2==X7.free)).map (·.1)
def VH(a:Gm)(l:bg (Str×X7)):bg (Str×X7):=l.map λp=>if(p.2==X7.free&&(ScopeKind.function==ScopeKind.function)&&a.sc.lookup p.1==M .cell)then(p.1,.cell)else p
def Gm.inn(a:Gm)(own:bg Str)(b:bg (Str×Nat))(sc:bg (Str×X7)):Gm:={a with N:=own++b.map (·.1),sc:=VH a sc,rz:=XF,fa:=XF,fc:=Se sc}
def yP(a:Gm)(b:bg Nat):bg (Str×Nat):=b.filterMap λj=>(a.N[j]?).map λx=>(x,j)
def Vs(a:Gm)(sc:Zj)(b:bg (Str×Nat)):Bool:=b.all λp=>a.N[p.2]? ==M p.1&&sc.names.lookup p.1==M .free&&(a.sc.lookup p.1==M .cell||a.sc.lookup p.1==M .free)
theorem OG{d:Gm}{X:Cx}{E:XK}{sc:Zj}(c:Ct T d X E):∀{g:bg (Str×Nat)},Vs d sc g=P->ac0 X sc g
 |[],_=>trivial
 |p::r,h=>by unfold Vs at h;simp only[ZL,Xy,YW]at h;let(((f,e),b),a):=h;show#[#[by rw[c.n];show beq_iff_eq.mp f,eR e,?_],OG c a];rw[c.sc];show b.imp eR eR
theorem CY{env:Env}{y:Str}:∀{l:bg (Str×X7)} {acc:bg (Str×XH)},(∀p∈l,p.1=y->(p.2==X7.free)=XF)->acc.lookup y=Ld->(gM env l acc).lookup y=Ld
 |[],_,_,h=>h
 |(n,k)::r,acc,h,f=>by
  let a:=λacc=>CY (env:=env) (y:=y) (l:=r) (acc:=acc) λp b=>h p (XX _ b);ext gM;split
  .rename_i q
   let ne:n≠y:=λe=>by rw[h (n,k) X0 e]at q;ext q
   split
   .show a _ (by rw[Yx,show(y==n)=XF from beq_eq_false_iff_ne.mpr (dN ne)];show f)
   .show a _ f
  .show a _ f
def HJ{env:Env}{l:bg (Str×X7)}{y:Str}(h:y∈Se l):((gM env l []).lookup y).isNone=P:=by
 let(p,f,rfl):=Yr.mp h;let(_,a):=Zt.mp f;rw[Xy]at a;rw[CY (λq b e=>?_) W]
 .rfl
 .let:=YY.mp a.2 q b;rw[e,eg]at this;revert this;cases q.2==X7.free<;>intro h<;>first|rfl|ext h
structure Lc(T:bg Fd)(Γ':Gm)(X:Cx)(E:XK)(n:Nat)(fj:bg Nat)(I:Jd TI)(G:Jd TG)(Q:Jd TT)(A:Jd TE)(sc:Zj)(elt:Yc)(cp:aaF) where
 own:bg Str
 fv:bg (Str×Nat)
 wi:TI
 e:cp.is_async=0
 ln:own.length=n
 fj:fv.map (·.2)=fj
 pi:PI X cp.target cp.iter wi
 i:I X.K E wi
 pg:∀s H C fp,PG (bt X s H sc C (cH own fv) fp) cp.target (g0 G X.K E0)
 g:G X.K E0 (g0 G X.K E0)
 pq:∀s H C fp,yd (bt X s H sc C (cH own fv) fp) cp.ifs (t0 Q X.K E0)
 q:Q X.K E0 (t0 Q X.K E0)
 pe:∀s H C fp,PE (bt X s H sc C (cH own fv) fp) elt (t0 A X.K E0)
 a:A X.K E0 (t0 A X.K E0)
 fvk:ac0 X sc fv
 fr:(sc.names.all λy=> !(y.2==X7.free)||X.env.scope.names.lookup y.1==M .cell||X.env.scope.names.lookup y.1==M .free)=P
 kd:sc.kind=.function
 nd:(sc.names.map (·.1)).Nodup
 nm:∀y∈sc.names,y.2=.local->sc.names.lookup y.1=M .local
 fold:∀z,foldedSetIterable cp.iter X.env z=pure z
 ct:∀s H C fp W E',Ct T Γ' ((bt X s H sc C (cH own fv) fp).abc W) E'
def IV(n:Nat)(d:bg Nat)(i:CI T I)(g:CG T G)(w:CQ T Q)(x:CE T A)(b:Gm)(elt:Yc)(c:aaF)(sc:Zj):Bool:=
 let own:=OM c.target
 let e:=yP b d
 let a:=b.inn own e sc.names
 decide (own.length=n)&&decide (e.map (·.2)=d)&&decide (c.is_async=0)&&Vs b sc e&&(sc.names.all λy=> !(y.2==X7.free)||b.sc.lookup y.1==M .cell||b.sc.lookup y.1==M .free)&&decide (sc.kind=.function)&&decide ((sc.names.map (·.1)).Nodup)&&(sc.names.all λy=> !(y.2==X7.local)||sc.names.lookup y.1==M .local)&&decide ((own++e.map (·.1)).Nodup)&&i.chk b (c.target,c.iter)&&g.chk a c.target&&w.chk a c.ifs&&x.chk a elt
def v9[Cl A][Cl Q][ClG G]{i:CI T I}{g:CG T G}{w:CQ T Q}{x:CE T A}{n:Nat}{k:bg Nat}{d:Gm}{X:Cx}{E:XK}{l:Yc}{D:aaF}{sc:Zj}(c:Ct T d X E)(h:IV n k i g w x d l D sc=XA):Nonempty (Lc T (d.inn (OM D.target) (yP d k) sc.names) X E n k I G Q A sc l D):=by
 unfold IV at h;simp only[Xy,decide_eq_true_eq]at h;let((((((((((((h1,h2),Y),k1),k2),k3),k4),k5),k6),S),P),O),N):=h;let(F,(M,K),L):=i.ok c S;let ct:∀s H C a W q,Ct T (d.inn (OM D.target) (yP d k) sc.names) ((bt X s H sc C (cH (OM D.target) (yP d k)) a).abc W) q:=λs H C a W q=>
  #[rfl,k6,by show(relabel sc X.env).names=VH d sc.names;unfold relabel VH Env.kindOf;rw[c.kd,c.sc],k3,c.cm,c.rm,λz=>(acy z),λz=>(acy z),λy m=>HJ m,c.md,c.fs]
 let o:∀s H C a,Ct T (d.inn (OM D.target) (yP d k) sc.names) (bt X s H sc C (cH (OM D.target) (yP d k)) a) E0:=λs H C a=>ct s H C a _ E0;show#[#[OM D.target,yP d k,F,Y,h1,h2,M,L,λs H C a=>?_,ClG.cl,λs H C a=>?_,Cl.cl,λs H C a=>?_,Cl.cl,OG c k1,?_,k3,k4,λy m e=>?_,BI K,ct]]
 .let(t,(j,_),f):=g.ok (o s H C a) P;show λb s p H v u Q I r z=>j _ _ _ _ _ _ _ I r (z _ f)
 .let(t,j,f):=w.ok (o s H C a) O;show λb s p H Q I z=>j _ _ _ _ _ I (z _ f)
 .let(t,j,f):=x.ok (o s H C a) N;show λb s p H Q I z=>j _ _ _ _ _ I (z _ f)
 .rw[c.sc];show k2
 .let:=YY.mp k5 y m;rw[e]at this;show eR this
def NM(e:Yc):z (Yc×aaF×Zj×Pos):=(Wi e).bind λy=>match y.2.1 with
 |[a]=>M (y.1,a,y.2.2)
 |_=>Ld
def wv{e:Yc}{y:Yc×aaF×Zj×Pos}(h:NM e=M y):e=.ListComp y.1 [y.2.1] y.2.2.1 y.2.2.2:=by
 let((a,l,s,p),q,b):=YH.mp h;rw[P2 q]
 match l,b with
 |[f],b=>ext b;rfl
def U8(I:Jd TI)(G:Jd TG)(Q:Jd TT)(A:Jd TE)[Cl A][Cl Q][ClG G][i:CI T I][g:CG T G][w:CQ T Q][x:CE T A](n:Nat)(v:bg Nat)(k:∀{K E own u a g s d},own.length=n->u.map (·.2)=v->I K E a->G K E0 g->Q K E0 s->A K E0 d->J K E (pP own u a g s d)):CE T J where
 chk Γ e:=(NM e).any λy=>IV n v i g w x Γ y.1 y.2.1 y.2.2.1
 ok c h:=by let((m,o,t,p),q,j):=bc h;rw[wv q];let⟨l⟩:=v9 c j;let(r,b,f,as):=o;obtain rfl:as=0:=l.e;show#[_,B8 l.own l.fv c.cm l.pi l.pg l.pq l.pe l.fvk l.fr l.kd l.nd l.nm l.fold,k l.ln l.fj l.i l.g l.q l.a]
noncomputable instance[CI T (PN f)][CG T (go g)][CQ T (mO q)][CE T (eo a)]:CE T (eo (de n l f g q a)):=U8 (PN f) (go g) (mO q) (eo a) n l tq
noncomputable instance[CI T (J0 f)][CG T (D7 g)][CQ T (mP q)][CE T (es a)]:CE T (es (dD n l f g q a)):=U8 (J0 f) (D7 g) (mP q) (es a) n l yA
end CC
set_option warn.classDefReducibility false
namespace CC
open PySem L2 L3 L10
variable{T:bg Fd}{A B C J:Jd TE}{U Z:Jd TA}{Q R:Jd TT}{G:Jd TG}{I:Jd TI}{S Y X:Jd TS}
def U3:Zn->z (Yc×bg Zn×bg Zn)
 |.If c a b _=>M (c,a,b)
 |_=>Ld
def Gf:Zn->z (z Yc)
 |.Return e _=>M e
 |_=>Ld
def N8:Zn->z Yc
 |.Expr e _=>M e
 |_=>Ld
def rQ:Zn->z (Yc×Yc)
 |.Assign [t] e _=>M (t,e)
 |_=>Ld
def N9:Zn->z (Yc×Yc×bg Zn)
 |.For t i b [] _=>M (t,i,b)
 |_=>Ld
def TW:Zn->z (Yc×bg Zn)
 |.While c b [] _=>M (c,b)
 |_=>Ld
def Tm:Zn->z Yc
 |.Raise (M e) Ld _=>M e
 |_=>Ld
section
variable{s:Zn}
theorem Ly(h:U3 s=M x):∃p,s=.If x.1 x.2.1 x.2.2 p:=tU (P:=λx=>∃p,s=.If x.1 x.2.1 x.2.2 p) (by ext s<;>first|show trivial|show#[_,W]) h
theorem yz(h:Gf s=M x):∃p,s=.Return x p:=tU (P:=λx=>∃p,s=.Return x p) (by ext s<;>first|show trivial|show#[_,W]) h
theorem Im(h:N8 s=M x):∃p,s=.Expr x p:=tU (P:=λx=>∃p,s=.Expr x p) (by ext s<;>first|show trivial|show#[_,W]) h
theorem jo(h:rQ s=M x):∃p,s=.Assign [x.1] x.2 p:=tU (P:=λx=>∃p,s=.Assign [x.1] x.2 p) (by ext s<;>first|show trivial|(rename_i l _ _;rcases l with _|⟨t,_|⟨_,_⟩⟩<;>first|show trivial|show#[_,W])) h
theorem EJ(h:N9 s=M x):∃p,s=.For x.1 x.2.1 x.2.2 [] p:=tU (P:=λx=>∃p,s=.For x.1 x.2.1 x.2.2 [] p) (by ext s<;>first|show trivial|(rename_i l _;ext l<;>first|show trivial|show#[_,W])) h
theorem NT(h:TW s=M x):∃p,s=.While x.1 x.2 [] p:=tU (P:=λx=>∃p,s=.While x.1 x.2 [] p) (by ext s<;>first|show trivial|(rename_i l _;ext l<;>first|show trivial|show#[_,W])) h
theorem Mp(h:Tm s=M x):∃p,s=.Raise (M x) Ld p:=tU (P:=λx=>∃p,s=.Raise (M x) Ld p) (by ext s<;>first|show trivial|(rename_i a b _;ext a<;>ext b<;>first|show trivial|show#[_,W])) h
end
def Ws(S:Jd TS)[o:CU T S]:CS T S where
 chk Γ b:=match b with
  |[s]=>o.chk Γ s
  |_=>XF
 ok c h:=by
  split at h
  .let(t,e,a):=o.ok c h;show#[_,nQ e,a]
  .ext h
noncomputable instance[CU T (so f)]:CS T (so f):=Ws (so f)
noncomputable instance[CU T (Zs f)]:CS T (Zs f):=Ws (Zs f)
noncomputable instance:CS T (so d7):=#[λ_ b=>b.isEmpty,λ_ h=>by rw[Yy.mp h];show#[_,B3,ME]]
noncomputable instance:CS T (Zs cF):=#[λ_ b=>b.isEmpty,λ_ h=>by rw[Yy.mp h];show#[_,B3,Fa]]
def NY(Y X:Jd TS)[o:CU T Y][n:CS T X](k:∀{K E t u},Y K E t->X K E u->S K E (EB t u)):CS T S where
 chk Γ b:=match b with
  |s::r=>o.chk Γ s&&n.chk Γ r
  |_=>XF
 ok c h:=by
  split at h
  .rw[Xy]at h;let(t,g,f):=o.ok c h.1;let(i,e,a):=n.ok c h.2;show#[_,nO g e,k f a]
  .ext h
noncomputable instance[CU T (so f)][CS T (so g)]:CS T (so (bw f g)):=NY (so f) (so g) Re
noncomputable instance[CU T (Zs f)][CS T (Zs g)]:CS T (Zs (aC f g)):=NY (Zs f) (Zs g) L8
def OZ(Q:Jd TT)(Y X:Jd TS)[p:CT T Q][m:CS T Y][n:CS T X](k:∀{K E c t u},Q K E c->Y K E t->X K E u->S K E (Kx c t u)):CU T S where
 chk Γ s:=(U3 s).any λy=>p.chk Γ y.1&&m.chk Γ y.2.1&&n.chk Γ y.2.2
 ok c h:=by let(y,q,a):=bc h;let(_,rfl):=Ly q;simp only[Xy]at a;let(t,j,i):=p.ok c a.1.1;let(o,g,f):=m.ok c a.1.2;let(l,e,b):=n.ok c a.2;show#[_,UH j g e,k i f b]
noncomputable instance[CT T (mO q)][CS T (so f)][CS T (so g)]:CU T (so (mL q f g)):=OZ (mO q) (so f) (so g) UW
noncomputable instance[CT T (mP q)][CS T (Zs f)][CS T (Zs g)]:CU T (Zs (ce q f g)):=OZ (mP q) (Zs f) (Zs g) QD
def O0(A:Jd TE)[x:CE T A](k:∀{K E t},A K E t->S K E (Ks t)):CU T S where
 chk Γ s:=(Gf s).any λy=>y.any (x.chk Γ)
 ok c h:=by let(y,q,i):=bc h;let(e,a,g):=bc i;let(_,rfl):=yz q;subst a;let(t,f,b):=x.ok c g;show#[_,HZ f,k b]
noncomputable instance[CE T (eo a)]:CU T (so (dJ a)):=O0 (eo a) SB
noncomputable instance[CE T (es a)]:CU T (Zs (L10.fu a)):=O0 (es a) Nu
noncomputable instance:CU T (Zs sS) where
 chk _ s:=(Gf s).any (·.isNone)
 ok c h:=by let(y,q,a):=bc h;let(_,rfl):=yz q;rw[aaM.mp a];show#[_,Mj,G7]
def F7(A:Jd TE)[x:CE T A](k:∀{K E t},A K E t->S K E (yG t)):CU T S where
 chk Γ s:=(N8 s).any λe=>(jc e&& !PP e)&&x.chk Γ e
 ok c h:=by let(y,q,a):=bc h;let(_,rfl):=Im q;let a:=(Xy _ _).mp a;let(t,f,b):=x.ok c a.2;show#[_,Bx f (Bs a.1),k b]
noncomputable instance[CE T (eo a)]:CU T (so (nK a)):=F7 (eo a) Mw
noncomputable instance[CE T (es a)]:CU T (Zs (bh a)):=F7 (es a) FB
def Pc(i:Nat)(A:Jd TE)[x:CE T A](k:∀{K E t},A K E t->S K E (vB t (mZ i))):CU T S where
 chk Γ s:=(rQ s).any λy=>(jc y.2&& !PP y.2)&&(Ml i Γ y.1&&x.chk Γ y.2)
 ok c h:=by let((f,e),q,a):=bc h;let(_,rfl):=jo q;let a:=(Xy _ _).mp a;let b:=(Xy _ _).mp a.2;let(t,j,g):=x.ok c b.2;let(y,p,z,k1,k2,k3):=vd c b.1;let z:f=_:=z;subst z;show#[_,tL c.nd k1 k2 j (Bs a.1) k3,k g]
noncomputable instance[CE T (eo a)]:CU T (so (gL a (gN i))):=Pc i (eo a) λh=>HA h wR
noncomputable instance[CE T (es a)]:CU T (Zs (bG a (b7 i))):=Pc i (es a) λh=>rj h nc
def V8(A:Jd TE)(G:Jd TG)[x:CE T A][y:CG T G](k:∀{K E t g},A K E t->G K E g->S K E (vB t g)):CU T S where
 chk Γ s:=(rQ s).any λz=>UF z.2&&A7 z.1&&y.chk Γ z.1&&x.chk Γ z.2
 ok c h:=by let((m,e),q,a):=bc h;let(_,rfl):=jo q;simp only[Xy]at a;let(((b,j),i),f):=a;let(t,l,a):=x.ok c f;let(n,(k1,k3),k2):=y.ok c i;let(_,_,_,rfl):=yn j;show#[_,Q8 l k1 (Ko b) (DB b) (by rw[k3];rfl),k a k2]
noncomputable instance[CE T (es a)][CH T (QF r)]:CU T (Zs (bG a (Ey n r))):=V8 (es a) (D7 (Ey n r)) rj
def QC{elt b sc x p n}{a:Pos}{env:Env}(h:env.kindOf x=M .cell):ZU (.ListComp elt [b] sc a) (M (.Name x p)) n env=pure XF:=by show(pure _:Sem Bool)=_;rw[h];congr 1;show(((_&&XF)&&_)&&_)=XF;rw[Bool.and_false];rfl
def FV(I:Jd TI)(G:Jd TG)(Q:Jd TT)(A:Jd TE)[Cl A][Cl Q][ClG G][ii:CI T I][g:CG T G][w:CQ T Q][x:CE T A](n:Nat)(r:bg Nat)(i:Nat)(k:∀{K E own o b g j d},own.length=n->o.map (·.2)=r->I K E b->G K E0 g->Q K E0 j->A K E0 d->S K E (vB (pP own o b g j d) (mZ i))):CU T S where
 chk Γ s:=(rQ s).any λz=>(vN z.1).any λv=>(NM z.2).any λy=>Ml i Γ z.1&&(Γ.sc.lookup v.1==M .cell||(Γ.sc.lookup v.1==M .local&&v.2.line==y.2.2.2.line&& !(y.2.2.1.names.any λy=>y.1==v.1&&(y.2==.local||y.2==.cell))))&&IV n r ii g w x Γ y.1 y.2.1 y.2.2.1
 ok c h:=by
  let((f,e),q,h2):=bc h;let(_,rfl):=jo q;let((v,vp),N,h3):=bc h2;let((elt,cp,sc,p),L,m):=bc h3;let u:f=_:=sP N;let t:e=_:=wv L;subst u t;simp only[Xy,aag,YW]at m;let((hg,a),hc):=m;let(_,_,z,k1,k2,k3):=vd c hg;ext z;let⟨l⟩:=v9 c hc;let(f,iter,ifs,as):=cp;obtain rfl:as=0:=l.e;show#[_,?_,k l.ln l.fj l.i l.g l.q l.a];rcases a with a|⟨⟨a,hp⟩,ha⟩
  .let a:=eR a;rw[<-c.sc]at a;show tL c.nd k1 k2 (B8 l.own l.fv c.cm l.pi l.pg l.pq l.pe l.fvk l.fr l.kd l.nd l.nm l.fold) (QC a) k3
  .let a:=eR a;rw[<-c.sc]at a;show Kz l.own l.fv c.nd k1 a c.cm l.pi l.pg l.pq l.pe l.fvk l.fr (Ts c.kd a hp ha) l.kd l.nd l.nm l.fold
noncomputable instance[CI T (PN f)][CG T (go g)][CQ T (mO q)][CE T (eo a)]:CU T (so (gL (de n l f g q a) (gN i))):=FV (PN f) (go g) (mO q) (eo a) n l i λo m j h e b=>HA (tq o m j h e b) wR
noncomputable instance[CI T (PN f)][CG T (go g)][CQ T (mO q)][CE T (eo a)]:CU T (Zs (bG (hG (ae (de n l f g q a))) (b7 i))):=FV (PN f) (go g) (mO q) (eo a) n l i λo m j h e b=>rj (vW (rZ (tq o m j h e b))) nc
noncomputable instance{C f:Str}[x:CE T (es o)][y:CE T (es a)]:CU T (Zs (dS C f o a)) where
 chk Γ s:=(rQ s).any λz=>(Tq z.1).any λw=>w.2.1==f&&Na Γ C f&&jc z.2&&x.chk Γ w.1&&y.chk Γ z.2
 ok c h:=by let((i,e),q,F):=bc h;let(_,rfl):=jo q;let((b,n,p),j,g):=bc F;let z:i=_:=wH j;subst z;simp only[Xy,beq_iff_eq]at g;let((((rfl,E),v),u),r):=g;let(L,m,l):=vE c E;let(t,k1,k2):=x.ok c u;let(H,k3,k4):=y.ok c r;show#[_,Sq k1 k3 (UP v),MJ m l k2 k4]
noncomputable instance[x:CE T (es d)][y:CE T (es k)][p:CE T (es v)]:CU T (Zs (u6 d k v)) where
 chk Γ s:=(rQ s).any λr=>(yV r.1).any λw=>jc r.2&&x.chk Γ w.1&&y.chk Γ w.2.1&&p.chk Γ r.2
 ok c h:=by let((b,e),q,m):=bc h;let(_,rfl):=jo q;let(w,f,a):=bc m;let p:b=_:=jE f;subst p;simp only[Xy]at a;let(((l,j),i),g):=a;let(t,k1,k2):=x.ok c j;let(o,k3,k4):=y.ok c i;let(n,k5,k6):=CK.ok c g;show#[_,Mc (Vh c) k1 k3 k5 (Oi l),HU k2 k4 k6]
def Pb(I:Jd TI)(G:Jd TG)(Y:Jd TS)[v:CI T I][y:CG T G][m:CS T Y](k:∀{K E d g t},I K E d->G K E g->Y K E t->S K E (LM d g t)):CU T S where
 chk Γ s:=Γ.fa&&(N9 s).any λz=>v.chk Γ (z.1,z.2.1)&&y.chk Γ z.1&&m.chk Γ z.2.2
 ok c h:=by rw[Xy]at h;let(z,q,a):=bc h.2;let(_,rfl):=EJ q;simp only[Xy]at a;let(t,(f,b),e):=v.ok c a.1.1;let(j,(k1,_),k2):=y.ok c a.1.2;let(i,k3,k4):=m.ok c a.2;show#[_,PB (c.po h.1) c.cm f k1 k3 (BI b),k e k2 k4]
noncomputable instance[CI T (io f)][CG T (go g)][CS T (so b)]:CU T (so (pE f g b)):=Pb (io f) (go g) (so b) Rq
noncomputable instance[CI T (J0 f)][CG T (D7 g)][CS T (Zs b)]:CU T (Zs (og f g b)):=Pb (J0 f) (D7 g) (Zs b) MA
def gm(M:Md)(N:bg Str)(a:Zn)(lv top:Nat)(b:Bool):Gm:=#[M,N,(av a).names,lv,b,P,Se (av a).names,top]
def V1(N a:bg Str)(sc:Zj):Bool:=decide (sc.kind=.function)&& !sc.isCoroutine&& !sc.isGenerator&&decide N.Nodup&&decide (N.take a.length=a)&&a.all (λx=>sc.names.lookup x==M .local||sc.names.lookup x==M .cell)&&sc.names.all (λy=> !(y.2==.free))
def v3{N c:bg Str}{sc:Zj}(h:V1 N c sc=P):ZF N c sc:=by
 unfold V1 at h;simp only[Xy,decide_eq_true_eq,aag]at h;let((((((n,m),l),j),i),g),f):=h;show#[n,m,l,j,i,λx b=>?_,λy a e=>?_]
 .let:=YY.mp g x b;rw[YW]at this;show this.imp eR eR
 .let:=YY.mp f y a;rw[e]at this;ext this
section
variable{P:Ya}{w:Yq}{K:lD}{y:Str->b3 Xx}{base:Heap}{f:XH}{L:YN}{M:Md}{Z x:Str}{N v:bg Str}{k n top:Nat}{Y:Zn}
def Ze(T:bg Fd)(S:Jd TS)[c:CS T S](M:Md)(N v:bg Str)(Y:Zn)(k top:Nat)(a:Bool):Bool:=V1 N v (av Y)&&c.chk (gm M N Y k top a) (bW Y)
theorem WB(a:adM K y M)(fs:∀i L,i<top->T[i]?=cL L->L P w K y base)(S:ZF N v (av Y)){c A outer s H E}(b:Zp k (A.deeper (Yt Z (av Y) s.heap.objs.size f c))):Ct T (gm M N Y k top XF) (eO lK P w K y base N Z (av Y) f c A outer s H E).nox E:=
 #[W,S.nd,W,S.kind,W,b,λ_=>ac8.never,λz=>acy z,λ_ _=>W,a,fs]
theorem Wd(a:adM K y M)(fs:∀i L,i<top->T[i]?=cL L->L P w K y base)(S:ZF N v (av Y)){c A outer s H E}(b:Zp k (A.deeper (Yt Z (av Y) s.heap.objs.size f c))):Ct T (gm M N Y k top XA) (eO (L4.kF P w) P w K y base N Z (av Y) f c A outer s H E) E:=
 #[W,S.nd,W,S.kind,W,b,λ_=>ac8.leaving,λ_=>#[_,_,_,_,_,_,_,_,_,W],λ_ _=>W,a,fs]
def ab7{g:FS}{b:FN}[c:CS T (so g)](e:adM K y M)(fs:∀i L,i<top->T[i]?=cL L->L P w K y base)(F:Fun K x Z Y f L)(h:Ze T (so g) M N v Y k top XF=XA)(d:v.length=n:=by rfl)(l:b=fV N.length g:=by rfl):FnOk P w K y base lK (k+1) f L v (Av K n b):=by let h:=(Xy _ _).mp h;let S:=v3 h.1;show Wp F S d W l λm A a s H E j=>c.ok (WB e fs S j) h.2
def aaZ{g:dU}{b:fq}[c:CS T (Zs g)](e:adM K y M)(fs:∀i L,i<top->T[i]?=cL L->L P w K y base)(F:Fun K x Z Y f L)(h:Ze T (Zs g) M N v Y k top XF=XA)(d:v.length=n:=by rfl)(l:b=cy N.length g:=by rfl):FnOk P w K y base lK (k+1) f L v (kj K n b):=by let h:=(Xy _ _).mp h;let S:=v3 h.1;show WE F S d W l λm A a s H E j=>c.ok (WB e fs S j) h.2
def ago{g:dU}{b:fq}[c:CS T (Zs g)](e:adM K y M)(fs:∀i L,i<top->T[i]?=cL L->L P w K y base)(F:Fun K x Z Y f L)(h:Ze T (Zs g) M N v Y k top XA=XA)(d:v.length=n:=by rfl)(l:b=cy N.length g:=by rfl):FnOk P w K y base (L4.kF P w) (k+1) f L v (kj K n b):=by let h:=(Xy _ _).mp h;let S:=v3 h.1;show Wc F S d W l λm A a s H E j=>c.ok (Wd e fs S j) h.2
end
section
variable{T:bg Fd}{P:Ya}{w:Yq}{K:lD}{mg:Str->b3 Xx}{base:Heap}
theorem fs0:∀i fd,i<0->T[i]?=M fd->fd P w K mg base:=λ_ _ h=>a7 h (acY _)
theorem fsS{n:Nat}{x:Fd}(h:∀i fd,i<n->T[i]?=M fd->fd P w K mg base)(e:T[n]?=M x)(a:x P w K mg base):∀i fd,i<n+1->T[i]?=M fd->fd P w K mg base:=λi fd b q=>by
 rcases Nat.lt_succ_iff_lt_or_eq.mp b with z|rfl
 .show h i fd z q
 .rw[e]at q;ext q;show a
theorem look{α:Type}{R:Str->α->Prop}{y:Str}{e:α}{l:bg (Str×α)}(h:R y e)(r:∀x d,l.lookup x=M d->R x d):∀x d,((y,e)::l).lookup x=M d->R x d:=λx d q=>by
 rw[Yx]at q;split at q
 .rename_i z;rw[beq_iff_eq]at z;ext q;rw[z];show h
 .show r x d q
abbrev UJ(K:lD)(mg:Str->z Xx):Str->D->Prop:=λx d=>∃v u,mg x=M u/\RelV v u/\∀O H,DV O K H v d
theorem csN:∀x d,([]:bg (Str×D)).lookup x=M d->UJ K mg x d:=λ_ _ h=>nomatch h
theorem csC{y:Str}{e:D}{l:bg (Str×D)}(h:UJ K mg y e)(r:∀x d,l.lookup x=M d->UJ K mg x d):∀x d,((y,e)::l).lookup x=M d->UJ K mg x d:=look h r
theorem csW{x:Str}{a:XH}{d:D}(h:mg x=M (.ref a))(k:∀O H,DV O K H (.ref a) d):UJ K mg x d:=#[.ref a,_,h,W,k]
theorem clN:∀C L,([]:bg (Str×bg Str)).lookup C=M L->lP K C L:=λ_ _ h=>nomatch h
theorem clC{y:Str}{e:bg Str}{l:bg (Str×bg Str)}(h:lP K y e)(r:∀x d,l.lookup x=M d->lP K x d):∀x d,((y,e)::l).lookup x=M d->lP K x d:=look h r
abbrev W0(K:lD)(mg:Str->z Xx)(x:Str):Prop:=∃C,Yh K X8 x=M (M (.ref C))/\mg x=M (.ref C)/\aap K C TR "ValueError.__new__"=XA
theorem exN:∀x∈([]:bg Str),W0 K mg x:=λ_ h=>nomatch h
end
end CC
set_option warn.classDefReducibility false
namespace CC
open PySem L2 L3 L10
variable{T:bg Fd}
def V5(n:String):Bool:=n== "int"||n== "bool"||n== "str"||n== "list"||n== "tuple"
def Qu{n:String}(h:V5 n=P):(n= "int"\/n= "bool"\/n= "str"\/n= "list"\/n= "tuple")/\YI (Str.ofString n)=M (.type n):=by unfold V5 at h;simp only[YW,beq_iff_eq]at h;rcases h with(((rfl|rfl)|rfl)|rfl)|rfl<;>show#[by simp,W]
noncomputable instance[x:CE T (eo a)]:CE T (eo (tt n a)) where
 chk L e:=(F8 L "isinstance" e).any λy=>match y.2.1 with
  |[b]=>(vN b).any (λz=>z.1==Str.ofString n)&&blt L (Str.ofString n)&&V5 n&&x.chk L y.1
  |_=>XF
 ok {L X E e} c h:=by
  let((e,l,K,J),q,j):=bc h;let(rfl,g,i):=mF q
  match l,i,j with
  |[b],i,j=>simp only[Xy]at j;let(((f,B),A),w):=j;let(z,p,f):=bc f;let m:=sP p;let(o,I):=z;let f:=beq_iff_eq.mp f;let f:o=_:=f;subst f;let m:b=_:=m;subst m;let(k1,k2):=Qu A;let(H,F,G,C):=pz c B;let(t,u,r):=x.ok c w;simp only[ZL,Xy]at i;show#[_,wX c g wm (.inl #[_,W]) Ds (by simp only[ZL,Xy];show i) (d4 u (d4 (Ku (v:=.ty _) H F k2 W C G) i8 (jK i.2.1)) (jK i.1)),Sj k1 r]
noncomputable instance:BOp Gh:=Nl .Pow #[_,QM,LL]
noncomputable instance[i:CE T (eo a)]:CE T (eo (Fj a)) where
 chk Γ e:=(Vm e).any λy=>(match y.1 with|.Not=>P|_=>XF)&&i.chk Γ y.2
 ok c h:=by let((o,e),q,b):=bc h;let(_,rfl):=zU q;rw[Xy]at b;let(t,g,f):=i.ok c b.2;ext o<;>first|show#[_,Ss g,Q2 f]|cases b.1
end CC
set_option warn.classDefReducibility false
namespace CC
open PySem L2 L3 L10
variable{T:bg Fd}{A B C J:Jd TE}{U Z:Jd TA}{Q R:Jd TT}
noncomputable instance:CB gO:=#["max",_,FC,.inl #[_,W],λh=>#[_,L10.Dn h,L10.KZ]]
end CC
set_option warn.classDefReducibility false
namespace CC
open PySem L2 L3 L10
variable{T:bg Fd}{A B C J:Jd TE}{U Z:Jd TA}{Q R:Jd TT}
theorem xq{a:Gm}{X:Cx}{E:XK}(c:Ct T a X E):X.A.units+64<cLine:=c.rm.units
noncomputable instance:CE T (es oy) where
 chk _ e:=(Wn e).any λy=>y.1.isEmpty&&y.2.isEmpty
 ok _ h:=by let((k,v),q,a):=bc h;let(_,rfl):=QW q;simp only[Xy,Yy]at a;let(rfl,rfl):=a;show#[_,LD.pe_ddnew,Ej]
noncomputable instance[x:CE T (es d)][y:CE T (es k)]:CE T (es (mr d k)) where
 chk Γ e:=(yV e).any λp=>jc p.2.1&&x.chk Γ p.1&&y.chk Γ p.2.1
 ok c h:=by let(p,q,a):=bc h;simp only[Xy]at a;let(l,i,g):=x.ok c a.1.2;let(j,f,b):=y.ok c a.2;rw[jE q];show#[_,LD.pe_ddget (xq c) i f (wl a.1.1),Dh g b]
def OI(op:ae8)(x y:Gm->Yc->Bool)(a:Gm)(e:Yc):Bool:=(Us op e).any λp=>x a p.1&&y a p.2
def Up(neg:Bool):ae8:=if neg then .NotIn else .In
def Je{neg:Bool}[x:CE T (es k)][y:CE T (es d)]{l X E e}(c:Ct T l X E)(h:OI (Up neg) x.chk y.chk l e=P):∃t,PE X e t/\PT X e (tB t)/\cg X.K E t (uo neg k d):=by
 let(p,q,g):=bc h;rw[Xy]at g;let(_,rfl,a):=vV q;let(n,f,j):=x.ok c g.1;let(m,b,i):=y.ok c g.2;cases neg with
 |false=>show#[_,zC (LD.pc_ddin (xq c) f b) a,zc (LD.pc_ddin (xq c) f b) a,yw j i]
 |true=>show#[_,zC (LD.pc_ddnin (xq c) f b) a,zc (LD.pc_ddnin (xq c) f b) a,yw j i]
noncomputable instance[x:CE T (es k)][y:CE T (es d)]:CT T (mP (aZ (uo neg k d))):=#[OI (Up neg) x.chk y.chk,λc h=>let#[_,_,h1,a]:=Je c h;#[_,h1,Hj a]]
noncomputable instance[CE T (es d)]:CE T (es (mi d)):=SJ "len" OH (.inl #[_,W]) (es d) (r:=LD.rLenDD) (λ_=>LD.call_lenDD) DD
noncomputable instance[x:CE T (es d)][y:CE T (es k)][p:CE T (es v)]:CU T (Zs (ox d k v)) where
 chk Γ s:=(rQ s).any λr=>(yV r.1).any λw=>jc r.2&&x.chk Γ w.1&&y.chk Γ w.2.1&&p.chk Γ r.2
 ok c h:=by let((b,e),q,m):=bc h;let(_,rfl):=jo q;let(w,f,a):=bc m;let p:b=_:=jE f;subst p;simp only[Xy]at a;let(((l,j),i),g):=a;let(t,k1,k2):=x.ok c j;let(o,k3,k4):=y.ok c i;let(n,k5,k6):=CK.ok c g;show#[_,LD.ps_ddput (xq c) k1 k3 k5 (Oi l),DN k2 k4 k6]
class IOp (f:D->D->z RV) where
 op:agb
 ok:∀{X:Cx},∃ti,Xo X op ti/\kZ X.K ti f
noncomputable instance[i:CT T (mP q)][m:CS T (Zs b)]:CU T (Zs (mG q b)) where
 chk Γ s:=Γ.fa&&(TW s).any λy=>i.chk Γ y.1&&m.chk Γ y.2
 ok c h:=by rw[Xy]at h;let(y,q,a):=bc h.2;let(_,rfl):=NT q;rw[Xy]at a;let(t,f,e):=i.ok c a.1;let(g,k1,k2):=m.ok c a.2;show#[_,Gk (c.po h.1) f k1,C7 e k2]
def vD:D->V
 |.int i=>.int i
 |_=>.Zw
class ahk (l:G D):Prop where
 h:∀K O H,Zc O K H (l.map vD) l
noncomputable instance:ahk []:=#[λ_ _ _=>.nil]
abbrev fdD(ds:G D)(lv:Nat)(x:Str)(b:G Str)(n:Nat)(F:fq):Fd:=λP w K a base=>Af P w K a base (L4.kF P w) lv x b (ds.map vD) (kj K n F)
noncomputable instance[a:ahk ds][Fn T (fdD ds) F n][CA T (as u)]:CE T (es (uN F n ds u)):=tH (as u) (fdD ds) F n P λf x r g d p e b=>#[_,vK f r (x W) e (XO _) g d (db p) (iJ p),Ea (λO H=>a.h _ O H) b]
noncomputable instance[a:ahk ds][Fn T (fdD ds) F n][CA T (as u)]:CE T (es (mB F n ds u)):=tH (as u) (fdD ds) F n XF λf x r g d p e b=>#[_,vK f r Gq e (XO _) g d (db p) (iJ p),Ah (λO H=>a.h _ O H) b]
def Wg(e:Yc):Bool:=(yi e).any λy=> !y.2.1.isEmpty
def T3{o:Yc}{f:Str}{env:Env}(h:Wg o=P):attributeBase o f env (eval o env)=eval o env:=by
 let((b,l,e,p),q,h):=bc h;rw[n6 q];cases l with
 |nil=>ext h
 |cons a r=>ext b<;>rfl
abbrev ahc(lv:Nat)(C:Str)(b:G Str)(n:Nat)(F:fq):Fd:=λP w K a base=>yQ P w K a base (L4.kF P w) lv C b (kj K n F)
class FKE (T:G Fd) (C:Str) (F:fq) (n:Nat) where
 i:Nat
 lv:Nat
 ps:G Str
 h:T[i]?=M (ahc lv C ps n F)
noncomputable instance{C:Str}[o:FKE T C F n][x:CE T (es a)][u:CA T (as b)]:CE T (es (pk C F n (ai a b))) where
 chk Γ e:=Γ.rz&&(Γ.M.cl.lookup C).isSome&&(Ta Γ o.i (o.lv+1) C e).any λy=>CK.chk T PA (as (ai a b)) Γ (y.1::y.2.1)
 ok c h:=by simp only[Xy]at h;let(L,l):=Y8.mp h.1.2;let(y,q,p):=bc h.2;let(rfl,g,i,j,f):=rN q;let(w,v,_):=oX c g;let(t,r,m):=CK.ok c p;show#[_,Pk (c.fs _ _ i o.h) (FY c h.1.1) c.rm r j w v (db f) (iJ f),RD (c.md.cl _ _ l) m]
abbrev fdX(lv:Nat)(x f:Str):Fd:=λP w K b base=>∃(C B fI:I) (e:Obj) (a:YN) (g:G Str),L9.XC K C B fI/\K.lookup fI=M e/\ZD K (.ref fI)=XA/\FnOk P w K b base lK lv fI a g (L9.wC C f)/\Binds K a g []/\Yh K X8 x=M (M (.ref C))/\b x=M (.ref C)
class FX (T:G Fd) (x f:Str) where
 i:Nat
 lv:Nat
 h:T[i]?=M (fdX lv x f)
noncomputable instance{k f:Str}[o:FX T k f][x:CE T (es a)]:CU T (Zs (nu k f a)) where
 chk i s:=i.rz&&(Tm s).any λe=>(Ta i o.i (o.lv+1) k e).any λy=>y.2.1.isEmpty&&x.chk i y.1
 ok {i X E s} c h:=by rw[Xy]at h;let(P,O):=h;let(e,q,M):=bc O;let(_,rfl):=Mp q;let((e0,l,p1,p2),w,b):=bc M;let(rfl,g,hi,I,n):=rN w;simp only[Xy,Yy]at b;let(rfl,b):=b;let(v,S,_):=oX c (x:=k) g;let(C,B,fI,oI,Y,ps,K,G,H,FI,bI,z,F):=c.fs _ _ hi o.h;let(t,u,L):=x.ok c b;let r:=c.rm.mono I;let(N,p,j,f,cd,A,m,s0,H0,e):=c.px P;show#[_,?_,Ao z L];rw[e]at v u r⊢;show L9.Ek K G H FI bI r v F (d4 u i8 (db n)) S (db n) (iJ n)
def afO{P:Ya}{w:Yq}{K:lD}{r:Str->z Xx}{base:Heap}{f:I}{fd:YN}{M:Md}{a x:Str}{N d:G Str}{k n top:Nat}{e:Zn}{g:dU}{j:fq}{TT:I}{p:Array Xx}[c:CS T (Zs g)](l:adM K r M)(fs:∀i fd,i<top->T[i]?=cL fd->fd P w K r base)(F:adY K x a e f fd TT p)(h:Ze T (Zs g) M N d e k top XA=XA)(t:d.length=n:=by rfl)(o:j=cy N.length g:=by rfl):FnOk P w K r base (L4.kF P w) (k+1) f fd d (kj K n j):=by let h:=(Xy _ _).mp h;let S:=v3 h.1;show Ub F S t W o λq A b s H E m=>c.ok (Wd l fs S m) h.2
end CC
set_option warn.classDefReducibility false
namespace CC
open PySem L2 L3 L10
variable{T:bg Fd}{A B C J:Jd TE}{U Z:Jd TA}{Q R:Jd TT}
abbrev VZ(lv:Nat)(x f g:Str):Fd:=λP w K b base=>∃(C B fI:I) (e:Obj) (a:YN) (h:G Str),L9.XC K C B fI/\K.lookup fI=M e/\ZD K (.ref fI)=XA/\FnOk P w K b base lK lv fI a h (L9.JR C f g)/\Binds K a h []/\Yh K X8 x=M (M (.ref C))/\b x=M (.ref C)
class FX2 (T:G Fd) (x f g:Str) where
 i:Nat
 lv:Nat
 h:T[i]?=M (VZ lv x f g)
end CC
set_option warn.classDefReducibility false
namespace CC
open PySem L2 L3 L10
variable{T:bg Fd}{A B C J:Jd TE}{U Z:Jd TA}{Q R:Jd TT}
noncomputable instance[Fn T fdP F n][CA T (as a)]:CE T (es (G5 F n a)):=tH (as a) fdP F n XF λf _ r g d p e b=>#[_,tN f r e (XO _) g d (db p) (iJ p),EZ b]
def Wa(m:Str){r:V->G V->Hp->VK->Prop}(A:Jd TE)[x:CE T A](p:∀{X:Cx} {b:Yc} {p q:Pos} {to:TE},Tc b=P->(p.endLine==q.line)=P->PE X b to->PE X (.Call (.Attribute b m p) [] [] q) (EW X.K "list" r to))(k:∀{K E to},A K E to->J K E (EW K "list" r to)):CE T J where
 chk Γ e:=(Ot m e).any λy=>y.2.1.isEmpty&&x.chk Γ y.1
 ok c h:=by let((b,l,u,o),z,a):=bc h;let(rfl,n,j,w,v):=mH z;simp only[Xy,Yy]at a;let(rfl,i):=a;let(t,g,f):=x.ok c i;show#[_,p n j g,k f]
noncomputable instance[CE T (es o)]:CE T (es (Hr o)):=Wa "clear" (es o) (λb a h=>Hq aaX PySem.F.slot_list_clear PySem.F.type_list_clear GJ h (fF b) a) M5
def U6(m:Str){id:String}{r:lD->V->G V->Hp->VK->Prop}(i:Nat)(s:Slot "list" m id)(ty:typeOf (.builtin id)=pure (.type "method_descriptor"))(mt:∀{X:Cx},X.A.units+64<cLine->SZ X id (r X.K))(A:Jd TE)[x:CE T A](k:∀{K E t},A K E t->J K E (RZ K "list" (r K) (qE i) (ei t iL))):CE T J where
 chk L e:=(Ot m e).any λy=>Ng i L y.1&&match y.2.1 with
  |[e]=>x.chk L e
  |_=>XF
 ok {L X E e} c h:=by
  let((b,l,p,q),z,g):=bc h;let(rfl,w,v,a,F):=mH z;rw[Xy]at g;let(u,f):=g;let o:=zX c u
  match l,a,f with
  |[e],a,f=>let a:[e].all jc=P:=a;let(t,n,j):=x.ok c f;show#[_,OV aaX s ty (mt (xq c)) o (d4 n i8 (db a)) (fF w) (mS a (by show 1<20;decide)) v (db a) W,k j]
noncomputable instance[CE T (eo a)]:CE T (eo (L10.Dw i a)):=U6 "index" i ac4 PySem.F.type_list_index (r:=JJ) (λ_=>L10.DP) (eo a) L10.Py
noncomputable instance[x:CE T (es d)][y:CE T (es k)][L:CE T (es f)]:CE T (es (uw d k f)) where
 chk N e:=(Ot "setdefault" e).any λw=>x.chk N w.1&&match w.2.1 with
  |[e,f]=>y.chk N e&&L.chk N f
  |_=>XF
 ok {N X E e} c h:=by
  let((b,l,p,q),w,i):=bc h;let(rfl,o,n,a,I):=mH w;rw[Xy]at i;let(j,g):=i;let(Y,G,F):=x.ok c j
  match l,a,g with
  |[e,f],a,g=>let a:[e,f].all jc=P:=a;rw[Xy]at g;let(S,v,u):=y.ok c g.1;let(H,t,r):=L.ok c g.2;show#[_,LD.pe_ddsd (xq c) G v t #[fF o,mS a (by show 2<20;decide),n,?_],JF F u r];let m:[f].all jc=P:=(Xy _ _▸a:_/\_).2;rw[db a,db m];rfl
noncomputable instance[x:CE T (es a)]:CI T (J0 (jH a)) where
 chk L p:=(F8 L "range" p.2).any λy=>y.2.1.isEmpty&&x.chk L y.1
 ok {L X E p} c h:=by let((e,l,w,v),q,f):=bc h;let(z,g,b):=mF q;let(r,o,_):=pz c g;let(u,i):=p;let z:i=_:=z;subst z;simp only[Xy,Yy]at f;let(rfl,n):=f;let(t,m,j):=x.ok c n;show#[_,#[uQ r o (d4 m i8 (db b)) (db b),W],GP j]
noncomputable instance[CI T (J0 f)][CG T (D7 g)][CQ T (mP q)][CE T (es a)]:CU T (Zs (bG (hG (dD n l f g q a)) (b7 i))):=FV (J0 f) (D7 g) (mP q) (es a) n l i λo m j h e b=>rj (vW (yA o m j h e b)) nc
end CC
set_option warn.classDefReducibility false
namespace CC
open PySem L2 L3 L10
variable{T:bg Fd}
def Xl:CE T (eo (pC .none)):=inferInstance
def VF:Yc:=.Constant .none 0 #[0,0,0,0]
noncomputable instance{C m:Str}[ii:CI T (J0 f)][gg:CG T (D7 tg)][w:CQ T (mP q)][o:FM T XA C m F n][x:CE T (es b)][u:CA T (as (ai a r))]:CE T (es (oJ k l f tg q (jY C m F n b (ai a r)))) where
 chk g e:=g.rz&&(NM e).any λz=>IV k l ii gg w Xl g VF z.2.1 z.2.2.1&&F6 T XA XF C m F n x.chk (λg l=> !l.isEmpty&&u.chk g l) (g.inn (OM z.2.1.target) (yP g l) z.2.2.1.names) z.1
 ok {g X E e} c h:=by
  let h:=(Xy _ _).mp h;let((M,cp,sc,p),q1,v):=bc h.2;let v:=(Xy _ _).mp v;rw[wv q1];let⟨l⟩:=v9 c v.1;let(tgt,Z,ifs,R):=cp;obtain rfl:R=0:=l.e;let(N,S,y,f0,cd,A,B,s0,H0,e):=c.px h.1;let cW:X.stack=X.env::X.outer/\X.env.frame=cL X.env.locals:=by rw[e];show#[W,W]
  let J:X.ex=[]:=by rw[e];rfl
  let G:X.pn=[]:=by rw[e];rfl
  let PX:L4.Ik X E:=by rw[e];show L4.M8
  show#[_,JI l.own l.fv cW J G PX c.cm l.pi l.pg l.pq (te:=t0 (es (jY C m F n b (ai a r))) X.K E) (λs H Cc fp=>?_) l.fvk l.fr l.kd l.nd l.nm l.fold,De l.ln l.fj l.i l.g l.q (Cl.cl (P:=es (jY C m F n b (ai a r))))];let O:=l.ct s H Cc fp (Vt (bt X s H sc Cc (cH l.own l.fv) fp) E) E;let(bb,Y,p1,p2,L,pl,e1,h1,j,h4,h5,h6,_,i,h8):=wb O v.2;let e1:M=_:=e1;subst e1;let j:=(Xy _ _).mp j;let(to,k1,k2):=x.ok O h1;let(t,k3,k4):=u.ok O j.2;cases Y with
  |nil=>cases j.1
  |cons e0 Y=>show λU s1 σ H1 Q I z=>OP h5 L4.JD h6 k1 k3 (XO _) (db i) (iJ i) h8 _ _ _ _ _ I (z _ (GB h4 k2 k4))
noncomputable instance{C D f:Str}[x:CE T (es (pk D F n u))]:CE T (es (aK C f (pk D F n u))) where
 chk Γ e:=(Tq e).any λy=>y.2.1==f&&Na Γ C f&&Wg y.1&&x.chk Γ y.1
 ok c h:=by let((o,n,p),q,a):=bc h;rw[wH q];simp only[Xy,beq_iff_eq]at a;let(((rfl,r),m),l):=a;let(L,g,b):=vE c r;let(t,j,i):=x.ok c l;show#[_,JK j (T3 m),BC g b i]
end CC
set_option warn.classDefReducibility false
namespace CC
open PySem L2 L3 L10
variable{T:bg Fd}{A B:Jd TE}
end CC
set_option warn.classDefReducibility false
namespace CC
open PySem L2 L3 L10
variable{T:bg Fd}
end CC
namespace M02
inductive Con(E:G (Nat×Nat))(r0:Nat):Bool->Nat->Prop
 |base:Con E r0 P r0
 |col {r c:Nat}:Con E r0 P r->(r,c)∈E->Con E r0 XF c
 |row {r c:Nat}:Con E r0 XF c->(r,c)∈E->Con E r0 P r
def has(n c:Nat):Prop:=n.testBit c=P
structure Nums(E:G (Nat×Nat))(R C:Nat)(ns:G Nat):Prop where
 len:ns.length=R
 lt:∀n∈ns,n<2^C
 own:∀r c,(r,c)∈E->has (ns.getD r 0) c
 snd:∀r,r<R->∀c,has (ns.getD r 0) c->Con E r XF c
abbrev NF:=G Nat×G Nat
structure ar8(E:G (Nat×Nat))(r0:Nat)(s:NF):Prop where
 a:r0∈s.1
 n:∀x∈s.1,Con E r0 P x
 f:∀x∈s.2,Con E r0 XF x
 d:s.2.Nodup
 d1:s.1.Nodup
structure apJ(R C:Nat)(ss:G (Nat×Nat)):Prop where
 r1:1<=R
 r6:R<=6
 c1:1<=C
 c6:C<=6
 l1:1<=ss.length
 l12:ss.length<=12
 nd:ss.Nodup
 inn:∀s∈ss,s.1<R/\s.2<C
end M02
local macro_rules(kind:=«term{_}»)|`({$a})=>`(L3.af $a L3.ar)|`({$a,$b})=>`(L3.af $a (L3.af $b L3.ar))|`({$a,$b,$c})=>`(L3.af $a (L3.af $b (L3.af $c L3.ar)))|`({$a,$b,$c,$d})=>`(L3.af $a (L3.af $b (L3.af $c (L3.af $d L3.ar))))
local macro_rules|`(~~~$n)=>`(L3.pC (.int $n))
namespace STP
open PySem L2 L3
def ir:FS:=(bw (mL (aJ (aH qG (aH aW (aa 0) (~~~2)) (pC .none))) (dJ (aH aW (aa 0) (~~~2))) d7)
 (dJ (eE (L10.Br 0) {de 2 [] (eT (aH aW (aa 0) (~~~0))) (gT 2 (RB (gN 0) (RB (gN 1) UX))) (aJ (aH dh (aH aW (aa 1) (~~~0)) (pC (.str "layer")))) (aH aW (aa 1) (~~~1))})))
def dY:FN:=fV 1 ir
def gy:FS:=(bw (gL (aH aW (aH aW (aH aW (aa 0) (~~~1)) (aa 1)) (aa 2)) (gN 3))
 (bw (mL (aJ (aH dh (aH aW (aa 3) (~~~0)) (pC (.str "below")))) (dJ (aH aW (aH aW (aH aW (aa 0) (~~~1)) (~~~0)) (aa 2))) d7)
 (dJ (aa 3))))
def iP:FN:=fV 4 gy
def ef:FS:=(dJ (de 1 [1] (eT (aH aW (aa 0) (~~~2))) (gN 0) (aJ (eE wF {de 1 [0] (eT (aa 1)) (gN 0) cz (aH J1 (aa 0) (aH aW (aa 1) (~~~0)))})) (aa 0)))
def bx:FN:=fV 2 ef
def fG:FS:=(bw (pE (eT (aH aW (aa 0) (~~~2))) (gN 2) (mL (aJ (aH dh (eE qC {aH aW (aa 2) (~~~0)}) (eE L9.gr {aa 1}))) (dJ (aH c7 (ci {b5 {pC (.str "letter"),aH aW (aa 2) (~~~1)}}) (aH gW (ci {pC (.tuple [(.str "none")])}) (aH tj (eE cA {aa 1}) (~~~1))))) d7))
 (dJ (de 1 [0] (eT (aa 1)) (gN 0) cz (aH aW (aH aW (aH aW (aa 1) (~~~1)) (~~~0)) (aa 0)))))
def fQ:FN:=fV 3 fG
open L10
def eK:dU:=(aC (dS "Hand" "bed" (aq 0) (ae (aa 1)))
 (aC (dS "Hand" "acts" (aq 0) (uJ (ae (aH aW (aa 2) (~~~0)))))
 (aC (dS "Hand" "waiting" (aq 0) (ae (aH aW (aa 2) (~~~1))))
 (aC (dS "Hand" "once" (aq 0) (ae (aH aW (aa 2) (~~~2))))
 (dS "Hand" "sent" (aq 0) (ae (ci ar)))))))
def dG:fq:=cy 3 eK
def gc:dU:=(fu (j9 (ai (ji d9 (ai (dD 1 [0] (ez (sO (aK "Hand" "acts" (aq 0)))) (b7 0) b6 (j9 (ai (ae (aa 0)) (ai (rP (aK "Hand" "acts" (aq 1)) (ae (aa 0))) aw)))) aw)) (ai (aK "Hand" "waiting" (aq 0)) (ai (aK "Hand" "once" (aq 0)) aw)))))
def bz:fq:=cy 1 gc
def dP:dU:=(fu (zi (jT qG (aK "Hand" "waiting" (aq 0)) (ae (pC .none))) (jT J1 (ae (aa 1)) (eD (aK "Hand" "waiting" (aq 0)) (ae (~~~0))))))
def bV:fq:=cy 2 dP
def fE:dU:=(fu (jT J1 (ae (aa 1)) (x8 (aK "Hand" "acts" (aq 0)))))
def bJ:fq:=cy 2 fE
def iR:dU:=(aC (ce (mv (bS (aJ (aH dh (aH aW (aa 2) (~~~0)) (pC (.str "letter"))))) (tX (aZ (aM "Hand" "has_act" bJ 2 (aq 0) (ai (ae (aa 2)) aw))))) (bh (jr (aK "Hand" "sent" (aq 0)) (ae (b5 {aH aW (aa 2) (~~~1),pC (.str "down")})))) cF)
 (u6 (aK "Hand" "acts" (aq 0)) (ae (aa 1)) (ae (aa 2))))
def bq:fq:=cy 3 iR
def lH:dU:=(aC (bG (uH (aK "Hand" "acts" (aq 0)) (ae (aa 1))) (b7 2))
 (ce (mv (bS (aJ (aH dh (aH aW (aa 2) (~~~0)) (pC (.str "letter"))))) (tX (aZ (aM "Hand" "has_act" bJ 2 (aq 0) (ai (ae (aa 2)) aw))))) (bh (jr (aK "Hand" "sent" (aq 0)) (ae (b5 {aH aW (aa 2) (~~~1),pC (.str "up")})))) cF))
def jp:fq:=cy 3 lH
def gw:dU:=(aC (bG (eD (aK "Hand" "waiting" (aq 0)) (ae (~~~0))) (b7 1))
 (aC (bG (eD (aK "Hand" "waiting" (aq 0)) (ae (~~~2))) (b7 2))
 (aC (dS "Hand" "waiting" (aq 0) (ae (pC .none)))
 (aC (bG (hG (Pe (bS (aJ (aH dh (aa 2) (pC (.tuple [(.str "chord")]))))) (iZ fQ 2 (ai (aK "Hand" "bed" (aq 0)) (ai (ae (aa 1)) aw))) (ae (ci {b5 {pC (.str "layer"),aH aW (aa 2) (~~~2)}})))) (b7 3))
 (og (dR (tW {aa 1,aa 3})) (Ey 2 (kh (b7 4) (kh (b7 5) uf))) (bh (aM "Hand" "come" bq 3 (aq 0) (ai (ae (aa 4)) (ai (ae (aa 5)) aw)))))))))
def cR:fq:=cy 6 gw
def dw:dU:=(aC (ce (zb (aZ (jT sM (aK "Hand" "waiting" (aq 0)) (ae (pC .none)))) (zb (aZ (jT rd (eD (aK "Hand" "waiting" (aq 0)) (ae (~~~2))) (ae (pC (.tuple [(.str "chord")]))))) (aZ (jT rd (iZ dY 1 (ai (aM "Hand" "stands" bz 1 (aq 0) aw) aw)) (ae (~~~0)))))) (fu (ae (pC (.bool XF)))) cF)
 (fu (jT rd (iZ bx 2 (ai (aK "Hand" "bed" (aq 0)) (ai (jT c7 (eD (aK "Hand" "waiting" (aq 0)) (ae (~~~0))) (ae (b5 {aa 1}))) aw))) (ae (ci ar)))))
def dA:fq:=cy 2 dw
def cU:dU:=(aC (bG (jT c7 (eD (aK "Hand" "waiting" (aq 0)) (ae (~~~0))) (ae (b5 {aa 1}))) (b7 2))
 (aC (dS "Hand" "waiting" (aq 0) (j9 (ai (ae (aa 2)) (ai (eD (aK "Hand" "waiting" (aq 0)) (ae (~~~1))) (ai (ae (pC (.tuple [(.str "chord")]))) aw)))))
 (ce (aZ (jT dh (dD 1 [] (ez (iZ bx 2 (ai (aK "Hand" "bed" (aq 0)) (ai (ae (aa 2)) aw)))) (b7 0) b6 (ae (eE cA {aH aW (aa 0) (~~~0)}))) (ae (ci {eE cA {aa 2}})))) (bh (aM "Hand" "decide" cR 1 (aq 0) aw)) cF)))
def cV:fq:=cy 3 cU
def gX:dU:=(aC (bG (iZ dY 1 (ai (aM "Hand" "stands" bz 1 (aq 0) aw) aw)) (b7 2))
 (aC (bG (iZ iP 3 (ai (aK "Hand" "bed" (aq 0)) (ai (ae (aa 2)) (ai (ae (aa 1)) aw)))) (b7 3))
 (aC (bG (ae (aH aW (aa 3) (~~~0))) (b7 4))
 (aC (ce (bS (aJ (aH xk (aa 4) (b5 {pC (.str "layer"),pC (.str "once")})))) (dS "Hand" "once" (aq 0) (ae (pC .none))) cF)
 (ce (bS (aJ (aH dh (aa 4) (pC (.str "tap"))))) (dS "Hand" "waiting" (aq 0) (ae (b5 {b5 {aa 1},~~~0,aa 3}))) (ce (mv (bS (aJ (aH dh (aa 4) (pC (.str "letter"))))) (mv (bS (aJ (aH dh (aa 2) (~~~0)))) (aZ (jT rd (iZ bx 2 (ai (aK "Hand" "bed" (aq 0)) (ai (ae (b5 {aa 1})) aw))) (ae (ci ar)))))) (dS "Hand" "waiting" (aq 0) (ae (b5 {b5 {aa 1},~~~0,pC (.tuple [(.str "chord")])}))) (ce (bS (aJ (aH dh (aa 4) (pC (.str "once"))))) (aC (bh (aM "Hand" "come" bq 3 (aq 0) (ai (ae (aa 1)) (ai (ae (pC (.tuple [(.str "none")]))) aw))))
 (dS "Hand" "once" (aq 0) (ae (aH aW (aa 3) (~~~1))))) (bh (aM "Hand" "come" bq 3 (aq 0) (ai (ae (aa 1)) (ai (ae (aa 3)) aw)))))))))))
def fy:fq:=cy 5 gX
def g9:dU:=(aC (ce (zb (aZ (ue XF (ae (aa 1)) (aK "Hand" "acts" (aq 0)))) (aZ (aM "Hand" "is_waiting" bV 2 (aq 0) (ai (ae (aa 1)) aw)))) sS cF)
 (aC (ce (aZ (aM "Hand" "makes_chord" dA 2 (aq 0) (ai (ae (aa 1)) aw))) (aC (bh (aM "Hand" "put_to_chord" cV 2 (aq 0) (ai (ae (aa 1)) aw)))
 sS) cF)
 (aC (ce (aZ (jT qG (aK "Hand" "waiting" (aq 0)) (ae (pC .none)))) (bh (aM "Hand" "decide" cR 1 (aq 0) aw)) cF)
 (bh (aM "Hand" "begin" fy 2 (aq 0) (ai (ae (aa 1)) aw))))))
def g7:fq:=cy 2 g9
def gj:dU:=(aC (bG (eD (aK "Hand" "waiting" (aq 0)) (ae (~~~2))) (b7 2))
 (ce (bS (aJ (aH dh (aa 2) (pC (.tuple [(.str "chord")]))))) (bh (aM "Hand" "decide" cR 1 (aq 0) aw)) (aC (dS "Hand" "waiting" (aq 0) (ae (pC .none)))
 (bh (aM "Hand" "come" bq 3 (aq 0) (ai (ae (aa 1)) (ai (ae (b5 {pC (.str "letter"),aH aW (aa 2) (~~~1)})) aw)))))))
def gx:fq:=cy 3 gj
def iQ:dU:=(aC (ce (aZ (aM "Hand" "is_waiting" bV 2 (aq 0) (ai (ae (aa 1)) aw))) (bh (aM "Hand" "settle" gx 2 (aq 0) (ai (ae (aa 1)) aw))) cF)
 (ce (aZ (ue XF (ae (aa 1)) (aK "Hand" "acts" (aq 0)))) (bh (aM "Hand" "go" jp 2 (aq 0) (ai (ae (aa 1)) aw))) cF))
def iW:fq:=cy 2 iQ
def fD:dU:=(aC (ce (aZ (jT sM (aK "Hand" "waiting" (aq 0)) (ae (pC .none)))) sS cF)
 (aC (bG (jT c7 (eD (aK "Hand" "waiting" (aq 0)) (ae (~~~1))) (ae (~~~1))) (b7 1))
 (aC (dS "Hand" "waiting" (aq 0) (j9 (ai (eD (aK "Hand" "waiting" (aq 0)) (ae (~~~0))) (ai (ae (aa 1)) (ai (eD (aK "Hand" "waiting" (aq 0)) (ae (~~~2))) aw)))))
 (ce (aZ (jT dh (ae (aa 1)) (eD (aK "Hand" "bed" (aq 0)) (ae (~~~3))))) (bh (aM "Hand" "decide" cR 1 (aq 0) aw)) cF))))
def fK:fq:=cy 2 fD
def wP:dU:=(aC (bG (tf "Hand" dG 3 (ai (ae (aa 0)) (ai (ae (aa 1)) aw))) (b7 3))
 (aC (ce (bS (aJ (aH dh (aH aW (aa 2) (~~~0)) (pC (.str "turn"))))) (bh (aM "Hand" "wait_on" fK 1 (aq 3) aw)) (ce (bS (aJ (aH dh (aH aW (aa 2) (~~~0)) (pC (.str "down"))))) (bh (aM "Hand" "press" g7 2 (aq 3) (ai (ae (aH aW (aa 2) (~~~1))) aw))) (bh (aM "Hand" "lift" iW 2 (aq 3) (ai (ae (aH aW (aa 2) (~~~1))) aw)))))
 (fu (j9 (ai (aK "Hand" "sent" (aq 3)) (ai (aM "Hand" "stands" bz 1 (aq 3) aw) aw))))))
def iA:fq:=cy 4 wP
end STP
local macro_rules| `(tactic|ext:4)=> `(tactic|·first|((simp only[afc,afd]);rfl)|rfl)| `(tactic|ext:3)=> `(tactic|first|with_reducible assumption|change L3.gD _ _|change L3.tI _ _|change L3.pH _ _|change L3.aiE _ _|change L3.BO _ _|change L3.yU _ _|change L3.amy _ _|change L3.amg _ _|change L3.jD _ _|change L3.vU _ _|change L3.afW _ _|change L3.afP _ _|change L3.akt _ _|change L3.ajO _ _|change L3.wa _ _|change L3.aj1 _ _|change L3.ajL _ _|change L3.ajf _ _|change L3.vY _ _|change L3.aja _ _|change L3.aiz _ _|change L3.ajV _ _|change L3.alA _ _|change L3.iO|change L3.kJ|change L3.sK|change L3.aq7|change L3.apa|change L3.Ox|change L3.ku _|change L3.dZ _|(with_reducible rfl))| `(tactic|ext:0)=> `(tactic|first
 |change L3.aD
 |((with_reducible apply L3.ag);rfl)
 |((with_reducible apply L3.jL);rfl)
 |change L3.aB
 |change L3.aiS
 |((with_reducible apply L3.aF);(·ext:0);(·ext:0);(·rfl);(·rfl);(·ext:3))
 |((with_reducible apply L3.yE);(·ext:0);(·rfl);(·rfl))
 |((with_reducible apply L3.aj);(·ext:0);(·ext:0))
 |((with_reducible apply L3.bH);(·ext:0);(·rfl))
 |((with_reducible apply L3.cX);(·ext:0);(·rfl);(·first|ext:3|rfl))
 |((with_reducible apply L3.cS);(·ext:0);(·rfl);(·rfl);(·with_reducible assumption))
 |((with_reducible apply L3.fW);(·ext:0);(·rfl);(·exact XQ rfl))
 |((with_reducible apply L3.oH);(·ext:0);(·rfl);(·exact XQ rfl))
 |((with_reducible apply L3.GH);(·ext:0);(·rfl);(·rfl))
 |((with_reducible apply L3.tM);(·ext:0);(·rfl))
 |((with_reducible apply L3.Oh);(·ext:0);(·ext:0);(·ext:0);(·rfl);(·first|with_reducible assumption|rfl))
 |((with_reducible apply L3.Co);(·ext:0))
 |((with_reducible apply L3.wx);(·ext:0);(·intro _;ext:0))
 |((with_reducible apply L3.wg);(·ext:0);(·intro _;ext:0))
 |((with_reducible apply L3.ajz);(·ext:0))
 |((with_reducible apply L3.vF);(·ext:0);(·intro _;ext:0))
 |((with_reducible apply L3.aho);(·ext:0);(·intro _;ext:0))
 |((with_reducible apply L3.nA);(·ext:0);(·rfl);(·first|with_reducible assumption|rfl))
 |((with_reducible apply L3.fO);(·ext:0);(·rfl);(·rfl))
 |((with_reducible apply L3.ajd);(·ext:0);(·rfl);(·rfl))
 |((with_reducible apply L3.wD);(·rfl);(·ext:0);(·rfl);(·rfl);(·first|with_reducible assumption|(simp only[ZI,XZ,L3.gp] at*;ext));ext:4)
 |((with_reducible apply L3.amD);(·rfl);(·ext:0);(·rfl);(·rfl);(·with_reducible assumption);(·with_reducible assumption);(·with_reducible assumption);ext:4)
 |((with_reducible apply L3.zW);(·ext:0);(·rfl);ext:4)
 |((with_reducible apply L3.A2);(·ext:0))
 |((with_reducible apply L3.vX);(·ext:0);(·rfl)))
local macro_rules| `(tactic|ext:6)=> `(tactic|first
 |((with_reducible apply L3.amE);(·ext:0);(·ext:0);(·rfl);(·rfl);(·ext:3))
 |((with_reducible apply L3.ajw);(·ext:0);(·rfl);(·rfl);(·with_reducible assumption))
 |((with_reducible apply L3.alw);(·ext:0);(·rfl);(·first|ext:3|rfl))
 |ext:0)
local macro_rules| `(tactic|ext:0)=> `(tactic|first
 |with_reducible assumption
 |((with_reducible apply L3.vF);(·ext:0);(·intro _;ext:6))
 |((with_reducible apply L3.aho);(·ext:0);(·intro _;ext:6))
 |((with_reducible apply L3.ai2);(·ext:0);(·ext:0);(·ext:0);(·rfl);(·rfl);(·rfl);(·ext:3);(·intro _;ext:3))
 |((with_reducible apply L3.qJ);(·ext:0);(·rfl);(·rfl);(·rfl)))
local macro_rules| `(tactic|ext:1)=> `(tactic|first
 |((with_reducible apply L3.eU);(·ext:0);(·rfl);ext:4;try ext:1)
 |((with_reducible apply L3.ajx);(·ext:0);try ext:1)
 |((with_reducible apply L3.Gd);try ext:1)
 |((with_reducible apply L3.fA);try ext:1)
 |((with_reducible apply L3.ja);(·ext:0);(·rfl))
 |((with_reducible apply L3.l7);(·ext:0))
 |((with_reducible apply L3.amA);(·ext:0);(·rfl);ext:4)
 |((with_reducible apply L3.ra);(·ext:0))
 |((with_reducible apply L3.eS);(·ext:0);(·rfl))
 |((with_reducible apply L3.Ig);(·ext:0))
 |(with_reducible apply L3.wN))
namespace STP
open PySem L2 L3
def j8(c:Nat):Str:=#[#v[97+c]]
inductive Mn where
 |Yu (c:Nat)
 |ZQ (n:Int)
 |tap (c:Nat) (n:Int)
 |once (n:Int)
 |none
 |below
 deriving DecidableEq
def mD:Mn->D
 |.Yu c=>.tuple [.str "letter",.str (j8 c)]
 |.ZQ n=>.tuple [.str "layer",.int n]
 |.tap c n=>.tuple [.str "tap",.str (j8 c),.int n]
 |.once n=>.tuple [.str "once",.int n]
 |.none=>.tuple [.str "none"]
 |.below=>.tuple [.str "below"]
def VM(L a:Int):Mn->Prop
 |.Yu c=>c<26
 |.ZQ n=>1<=n/\n<a
 |.tap c n=>c<26/\1<=n/\n<a
 |.once n=>1<=n/\n<a
 |.none=>True
 |.below=>L≠0
def Mn.isL:Mn->Bool
 |.Yu _=>P
 |_=>XF
structure Bd where
 n:Int
 ls:G (G Mn)
 cs:G (G Nat×Nat)
 wt:Int
def ko(l:G Mn):D:=.tuple (l.map mD)
def Ze(c:G Nat×Nat):D:=.tuple [.tuple (bj c.1),.str (j8 c.2)]
def bD(b:Bd):D:=.tuple [.int b.n,.tuple (b.ls.map ko),.tuple (b.cs.map Ze),.int b.wt]
def VL(n a:Int)(b:G (G Mn)):Prop:=∀(i:Nat) l,b[i]?=M l->(l.length:Int)=n/\∀m∈l,VM i a m
def Ez(l0:G Mn)(k:Nat):Bool:=(l0[k]?.map Mn.isL).getD XF
def VC(l0:G Mn)(c:G Nat×Nat):Prop:=2<=c.1.length/\c.1.Pairwise (·<·)/\(∀k∈c.1,Ez l0 k=P)/\c.2<26
structure VB(b:Bd):Prop where
 n1:1<=b.n
 n5:b.n<=5
 l1:1<=b.ls.length
 l3:b.ls.length<=3
 vl:VL b.n b.ls.length b.ls
 c4:b.cs.length<=4
 vc:∀c∈b.cs,VC (b.ls.headD []) c
 cu:b.cs.Pairwise λa c=>a.1≠c.1
 w1:1<=b.wt
 w4:b.wt<=4
def wn:Mn->Nat
 |.Yu _=>0
 |.ZQ _=>1
 |.tap _ _=>2
 |.once _=>3
 |.none=>4
 |.below=>5
def ws:Nat->Str
 |0=> "letter"
 |1=> "layer"
 |2=> "tap"
 |3=> "once"
 |4=> "none"
 |_=> "below"
def wd(m:Mn):Str:=ws (wn m)
def pK(m:Mn):wn m<6:=by ext m<;>show XQ W
def pJ(m:Mn):aW (mD m) (.int 0)=M (.fz (.str (wd m))):=by ext m<;>show iO
theorem Ph(m:Mn):XG.strOk (wd m)=P:=(by left:∀i,i<6->XG.strOk (ws i)=P) _ (pK m)
def yN:∀i,i<6->∀j,j<6->(ws i==ws j)=decide (i=j):=by left
def yY(m:Mn)(j:Nat)(a:j<6):dh (.str (wd m)) (.str (ws j))=M (.fz (.bool (decide (wn m=j)))):=by rw[Vz (Ph m) ((by left:∀i,i<6->XG.strOk (ws i)=P) j a)];ext wd;rw[yN _ (pK m) _ a]
def Mn.isB:Mn->Bool
 |.below=>P
 |_=>XF
def Mn.ae4:Mn->Bool
 |.ZQ _=>P
 |_=>XF
def Mn.isT:Mn->Bool
 |.tap _ _=>P
 |_=>XF
def Mn.isO:Mn->Bool
 |.once _=>P
 |_=>XF
theorem kX(m:Mn):dh (.str (wd m)) (.str "letter")=M (.fz (.bool m.isL)):=(yY m 0 ()).trans (by ext m<;>rfl)
theorem Fo(m:Mn):dh (.str (wd m)) (.str "below")=M (.fz (.bool m.isB)):=(yY m 5 ()).trans (by ext m<;>rfl)
theorem JH(m:Mn):dh (.str (wd m)) (.str "layer")=M (.fz (.bool m.ae4)):=(yY m 1 ()).trans (by ext m<;>rfl)
theorem QR(m:Mn):dh (.str (wd m)) (.str "tap")=M (.fz (.bool m.isT)):=(yY m 2 ()).trans (by ext m<;>rfl)
theorem Lg(m:Mn):dh (.str (wd m)) (.str "once")=M (.fz (.bool m.isO)):=(yY m 3 ()).trans (by ext m<;>rfl)
def Uv(m:Mn):xk (.str (wd m)) (.tuple [.str "layer",.str "once"])=M (.fz (.bool (!(m.ae4||m.isO)))):=by
 let h:∀a:Str,XG.strOk a=P->xk (.str a) (.tuple [.str "layer",.str "once"])=M (.fz (.bool (!(("layer":Str)==a||("once":Str)==a)))):=λa b=>by show(if(l8 (.str a)&&(XG.strOk "layer"&&(XG.strOk "once"&&P)))=P then M (RV.fz (.bool (!(XG.eqv (.str "layer") (.str a)||(XG.eqv (.str "once") (.str a)||false)))))else R)=_;rw[show l8 (.str a)=P by ext l8;rw[show XG.canLay0 (.str a)=P from b];rfl,show XG.strOk "layer"=P by left,show XG.strOk "once"=P by left,ag3];rfl
 rw[h _ (Ph m)];ext wd;rw[show(("layer":Str)==ws (wn m))=_ from yN 1 () _ (pK m),show(("once":Str)==ws (wn m))=_ from yN 3 () _ (pK m)];ext m<;>rfl
def LB:Mn->Prop
 |.Yu c=>c<26
 |.tap c _=>c<26
 |_=>True
def VM.lb(h:VM L nL m):LB m:=by
 cases m with
 |Yu c=>show h
 |tap c n=>show h.1
 |_=>trivial
def mn(h:c<26):XG.strOk (j8 c)=P:=by show((#v[97+c]:Array Nat).all λc=>decide (c<0x110000))=P;simp;ext
def wO(h:j8 c=j8 d):c=d:=by
 let:(97+c)=97+d:=by let a:=ec (λz:Str=>z.cps.toList) h;show List.head_eq_of_cons_eq a
 ext
def IE(h:LB m):XG.canLay0 (mD m)=P:=by
 cases m with
 |Yu c=>show(XG.strOk "letter"&&(XG.strOk (j8 c)&&P))=P;rw[mn h,show XG.strOk "letter"=P by left];rfl
 |ZQ n=>show(XG.strOk "layer"&&(P&&P))=P;left
 |tap c n=>show(XG.strOk "tap"&&(XG.strOk (j8 c)&&(P&&P)))=P;rw[mn h,show XG.strOk "tap"=P by left];rfl
 |once n=>show(XG.strOk "once"&&(P&&P))=P;left
 |none=>show(XG.strOk "none"&&P)=P;left
 |below=>show(XG.strOk "below"&&P)=P;left
def Jb(h:LB m):l8 (mD m)=P:=by ext l8;rw[IE h];ext m<;>rfl
def mR:Mn->G D
 |.Yu c=>[.str (j8 c)]
 |.ZQ n=>[.int n]
 |.tap c n=>[.str (j8 c),.int n]
 |.once n=>[.int n]
 |.none=>[]
 |.below=>[]
def N7(m:Mn):mD m=.tuple (.str (wd m)::mR m):=by ext m<;>rfl
def TB(a b:Mn):decide (wd a=wd b)=decide (wn a=wn b):=by
 let h:=yN _ (pK a) _ (pK b)
 assumption
theorem Bc(c d:Nat):decide (j8 c=j8 d)=decide (c=d):=decide_eq_decide.mpr #[wO,λh=>by rw[h]]
def RM(a b:Mn)(h:wn a=wn b):XG.eqvAll (mR a) (mR b)=decide (a=b):=by
 ext a<;>ext b<;>first|ext h|skip
 .show(decide (j8 _=j8 _)&&P)=_;rw[Bc,ab1];show decide_eq_decide.mpr #[λh=>by rw[h],λh=>by ext h;rfl]
 .show(decide (_=_)&&P)=_;rw[ab1];show decide_eq_decide.mpr #[λh=>by rw[h],λh=>by ext h;rfl]
 .show(decide (j8 _=j8 _)&&(decide (_=_)&&P))=_;rw[Bc,ab1,<-Bool.decide_and];show decide_eq_decide.mpr #[λh=>by rw[h.1,h.2],λh=>by ext h;show#[W,W]]
 .show(decide (_=_)&&P)=_;rw[ab1];show decide_eq_decide.mpr #[λh=>by rw[h],λh=>by ext h;rfl]
 .rfl
 .rfl
def Q9(a b:Mn):XG.eqv (mD a) (mD b)=decide (a=b):=by
 rw[N7,N7];show(decide (wd a=wd b)&&XG.eqvAll (mR a) (mR b))=_;rw[TB];by_cases h:wn a=wn b
 .rw[a4 h,aa7,RM a b h]
 .rw[a5 h,abF,a5 λz=>h (by rw[z])]
theorem A0:∀{l:G Mn},(∀m∈l,LB m)->XG.canLayAll0 (l.map mD)=P
 |[],_=>rfl
 |m::r,h=>by show(XG.canLay0 (mD m)&&XG.canLayAll0 (r.map mD))=P;rw[IE (h m X0),A0 λx a=>h x (XX _ a)];rfl
theorem A6(a:Mn):∀l:G Mn,((l.map mD).any λe=>XG.eqv e (mD a))=decide (a∈l)
 |[]=>rfl
 |m::r=>by
  rw[X5,aav,A6 a r,Q9,<-Bool.decide_or]
  grind
def K0{l:G Mn}(c:LB a)(b:∀m∈l,LB m):J1 (mD a) (.list (l.map mD))=M (.fz (.bool (decide (a∈l)))):=by show(if(l8 (mD a)&&XG.canLayAll0 (l.map mD))=P then _ else _)=_;rw[Jb c,A0 b,ZK,ax W,A6]
def BR(e:α->D)(g:α->z D)(I:aU->Prop)(xs:G α)(p:I d)(i:xs.length<=1000)(b:∀x∈xs,∀d,I d->∃c,kN gt C J (e x) d=.ok (g x,c)/\I c):j4 (di gt C J (xs.map e) d [])=.ok (xs.filterMap g):=by
 let h:∀(xs:G α) (a:G D) (d:aU),I d->a.length+xs.length<=1000->(∀x∈xs,∀d,I d->∃c,kN gt C J (e x) d=.ok (g x,c)/\I c)->di gt C J (xs.map e) d a=.ok (a++xs.filterMap g):=by
  intro xs
  induction xs with
  |nil=>intro a d _ _ _;show Res.ok a=_;simp_all
  |cons x r j=>
   intro a d m i b;rw[XZ]at i;let(c,o,n):=b x X0 d m;rw[X5,sX o ()];let f:(a++(g x).toList).length+r.length<=1000:=by
    rw[XJ];cases g x with
    |none=>rw[aeI,ZI];ext
    |some y=>rw[Option.toList_some,aby];ext
   rw[j _ c n f λy l=>b y (XX _ l),Yb];cases q:g x with
   |none=>rw[adB q];rfl
   |some y=>rw[adC q];rfl
 rw[h xs [] d p (by simpa using i) b];rfl
def Cj(a:df o=o):df (M (PV.fz d)::o)=M (.fz d)::o:=by show Gw _::df o=_;rw[a];rfl
def vS{α:Type}{d:FT}{k:FE}{c:aU}(e f:α->D)(p:α->Bool)(xs:G α)(i:xs.length<=1000)(l:df c=c)(g:∀x∈xs,d (M (.fz (e x))::c)=.ok (p x,M (.fz (e x))::c))(j:∀x∈xs,p x=P->k (M (.fz (e x))::c)=.ok (.fz (f x),M (.fz (e x))::c)):j4 (di (gN 0) d k (xs.map e) (R::c) [])=.ok ((xs.filter p).map f):=by
 rw[BR e (λx=>if p x=P then M (f x)else R) (λm=>∃o,m=o::c) xs #[R,W] i ?_]
 .congr 1
  clear i g j
  induction xs with
  |nil=>rfl
  |cons x r h=>
   cases q:p x with
   |true=>rw[adC (b:=f x) (by rw[ax q]),List.filter_cons_of_pos q,h];rfl
   |false=>rw[adB (by rw[aE (by rw[q];simp)]),List.filter_cons_of_neg (by rw[q];simp),h]
 .rintro x a m ⟨o,rfl⟩
  cases q:p x with
  |true=>show#[_,G0 W ((g x a).trans (by rw[q])) (j x a q) W (Cj l),_,W]
  |false=>show#[_,Tl W ((g x a).trans (by rw[q])) (Cj l),_,W]
theorem zg(xs:G α):xs.filter (λ_=>P)=xs:=List.filter_eq_self.mpr λ_ _=>W
def hV{α:Type}(e f:α->D)(xs:G α)(b:xs.length<=1000)(h:df cp=cp)(g:∀x∈xs,o (M (.fz (e x))::cp)=.ok (.fz (f x),M (.fz (e x))::cp)):j4 (di (gN 0) cz o (xs.map e) (R::cp) [])=.ok (xs.map f):=by rw[vS e f (λ_=>P) xs b h (λ_ _=>W) λx a _=>g x a,zg]
theorem kE(p:α->Bool):∀l:G α,pW (l.map λc=>XG.bool (p c))=M (l.map p)
 |[]=>rfl
 |c::r=>by show(pW (r.map λc=>XG.bool (p c))).map (p c::·)=_;rw[kE p r];rfl
def nV(p:α->Bool)(l:G α):wF [.list (l.map λc=>XG.bool (p c))]=M (.fz (.bool (l.all p))):=by show(pW _).map (λbs=>RV.fz (.bool (bs.all id)))=_;rw[kE];simp_all
theorem iB:∀ns:G Int,ka (ns.map XG.int)=M ns
 |[]=>rfl
 |n::r=>by show(ka (r.map XG.int)).map (n::·)=_;rw[iB r];rfl
abbrev Ac:=Nat->z Mn
abbrev Wq:=z (G Nat×Int×z (Nat×Int))
structure ZG where
 ac:Ac
 wt:Wq
 oc:z Int
def hW(ac:Ac):G (Nat×Mn):=(XD 5).filterMap λk=>(ac k).map λa=>(k,a)
def pD(p:Nat×Mn):D:=.tuple [nd p.1,mD p.2]
def t9:z (Nat×Int)->D
 |some (c,n)=>mD (.tap c n)
 |none=>.tuple [.str "chord"]
def jZ:Wq->D
 |some (b,a,w)=>.tuple [.tuple (bj b),.int a,t9 w]
 |none=>.none
def ul:z Int->D
 |some o=>.int o
 |none=>.none
def b9(s:ZG):D:=.tuple [.tuple ((hW s.ac).map pD),jZ s.wt,ul s.oc]
inductive Evn where
 |down (k:Nat)
 |up (k:Nat)
 |turn
def c9:Evn->D
 |.down k=>.tuple [.str "down",nd k]
 |.up k=>.tuple [.str "up",nd k]
 |.turn=>.tuple [.str "turn",.int 0]
def gq:p∈hW ac↔p.1<5/\ac p.1=M p.2:=by
 ext hW;rw[aaJ];constructor
 .rintro⟨k,e,b⟩
  cases q:ac k with
  |none=>simp_all
  |some a=>rw[q]at b;ext b;show#[YG.mp e,q]
 .rintro⟨e,b⟩;show#[p.1,YG.mpr e,by rw[b];rfl]
theorem u9(ac:Ac):(hW ac).length<=5:=List.length_filterMap_le _ _
def Pz:Nat×Mn->z Int
 |(_,.ZQ n)=>M n
 |_=>R
def xD(ac:Ac):Int:=(((hW ac).filterMap Pz).foldl lQ R).getD 0
def qp(ac:Ac):z Int->Int
 |some o=>o
 |none=>xD ac
def HW(ac:Ac):j4 (di (gT 2 (RB (gN 0) (RB (gN 1) UX))) (aJ (aH dh (aH aW (aa 1) (~~~0)) (pC (.str "layer")))) (aH aW (aa 1) (~~~1)) ((hW ac).map pD) [R,R] [])=.ok (((hW ac).filterMap Pz).map .int):=by
 rw[BR pD (λp=>(Pz p).map .int) (λg=>∃e b,g=[e,b]) (hW ac) #[R,R,W] (Ys (u9 ac) ()) ?_,List.map_filterMap];rintro⟨k,a⟩ _ g ⟨e,b,rfl⟩;let e1:=pJ a;let e2:=JH a;let f:aJ (aH dh (aH aW (aa 1) (~~~0)) (pC (.str "layer"))) [M (.fz (nd k)),M (.fz (mD a))]=.ok (a.ae4,[M (.fz (nd k)),M (.fz (mD a))]):=by ext:0
 show#[[M (.fz (nd k)),M (.fz (mD a))],?_,_,_,W];cases a with
 |ZQ n=>show G0 W f (aF (ag W) aD W W kJ) W W
 |_=>show Tl W f W
def xt(s:ZG):dY [b9 s]=.ok (.fz (.int (qp s.ac s.oc))):=by
 show iX W ?_;let e2:aW (b9 s) (.int 2)=M (.fz (ul s.oc)):=sK;let e0:aW (b9 s) (.int 0)=M (.fz (.tuple ((hW s.ac).map pD))):=iO;ext ir;cases q:s.oc with
 |some o=>
  rw[q]at e2;let e3:qG (ul (M o)) .none=M (.fz (.bool P)):=W;ext:1
  .intro _;show ja (by ext:0) W W
  .intro h;ext h
 |none=>
  rw[q]at e2;let e3:qG (ul R) .none=M (.fz (.bool XF)):=W;ext:1
  .intro h;ext h
  .intro _;show fA (eS (cX (rv:=.fz (.int (xD s.ac))) (aj (dz (by ext:0) W (HW s.ac)) aB) W ?_) W W);show(ka _).map _=_;rw[iB];rfl
def um(b:Bd)(L k:Nat):Mn:=((b.ls[L]?.getD [])[k]?).getD .none
def look(b:Bd)(L:Int)(k:Nat):Mn:=if(um b L.toNat k).isB=P then um b 0 k else um b L.toNat k
section
variable{b:Bd}(Z:VB b)
include Z
def N6{L k:Nat}(a:L<b.ls.length)(e:(k:Int)<b.n):∃l,b.ls[L]?=M l/\l[k]?=M (um b L k):=by
 let g:=Z.vl L _ (XM a);let f:k<(b.ls[L]).length:=by ext
 show#[_,XM a,?_];ext um;simp_all
def zH{L k:Nat}(e:L<b.ls.length)(a:(k:Int)<b.n):VM L b.ls.length (um b L k):=by let(l,g,f):=N6 Z e a;show(Z.vl L l g).2 _ (X3 f)
def GU{L k:Nat}(e:L<b.ls.length)(a:(k:Int)<b.n):∃d,aW (.tuple (b.ls.map ko)) (nd L)=M (.fz d)/\aW d (nd k)=M (.fz (mD (um b L k))):=by let(l,f,g):=N6 Z e a;show#[ko l,Ew (by rw[XS,f];rfl),Ew (by simp_all)]
def MF{L:Int}{k:Nat}(i:0<=L)(h:L<b.ls.length)(e:(k:Int)<b.n):iP [bD b,.int L,nd k]=.ok (.fz (mD (look b L k))):=by
 obtain⟨n,rfl⟩:∃n:Nat,L=(n:Int):=#[L.toNat,by ext];let g:=Z.l1;let(d,e2,e3):=GU Z (L:=n) () e;let(f,e4,e5):=GU Z (L:=0) () e;let e1:aW (bD b) (.int 1)=M (.fz (.tuple (b.ls.map ko))):=kJ;let e6:=pJ (um b n k);let e7:=Fo (um b n k);let e8:aW (.tuple (b.ls.map ko)) (.int 0)=M (.fz f):=e4;let a:look b (n:Int) k=if(um b n k).isB=P then um b 0 k else um b n k:=W
 rw[a];generalize um b n k=m at e3 e6 e7 a;generalize um b 0 k=m0 at e5 a;show iX W ?_;ext gy;ext:1
 .intro q;rw[ax q];show ja (by ext:0) W W
 .intro q;rw[aE (by rw[q];simp)];show fA (eS (by ext:0) W W)
def vQ{L:Int}{k:Nat}(g:0<=L)(i:L<b.ls.length)(f:(k:Int)<b.n):VM L b.ls.length (look b L k)/\look b L k≠.below:=by
 let h:=Z.l1;let a:=zH Z (L:=0) (k:=k) () f;let v:=zH Z (L:=L.toNat) (k:=k) () f;let e:um b 0 k≠.below:=λz=>by rw[z]at a;show a W
 rw[abZ g]at v;ext look;split
 .show#[?_,e]
  generalize um b 0 k=m at a e;cases m with
  |below=>show a7 W e
  |_=>show a
 .rename_i q;show#[v,λz=>?_];rw[z]at q;show q W
omit Z in
theorem Jj(ks:bg Nat)(a:ks.length<=5)(c:bg Nat×Nat):aJ (eE wF {de 1 [0] (eT (aa 1)) (gN 0) cz (aH J1 (aa 0) (aH aW (aa 1) (~~~0)))}) [cL (.fz (Ze c)),cL (.fz (.tuple (bj ks)))]=.ok (ks.all λk=>decide (k∈c.1),[cL (.fz (Ze c)),cL (.fz (.tuple (bj ks)))]):=by
 have e:j4 (di (gN 0) cz (aH J1 (aa 0) (aH aW (aa 1) (~~~0))) (bj ks) [Ld,cL (.fz (Ze c))] [])=.ok (ks.map λk=>.bool (decide (k∈c.1))):=hV nd (λk=>.bool (decide (k∈c.1))) ks (by ext) rfl λk _=>by have e0:aW (Ze c) (.int 0)=cL (.fz (.tuple (bj c.1))):=iO;exact aF (rv:=.fz (.bool (decide (k∈c.1)))) (ag rfl) (by ext:0) rfl rfl (vY _ _)
 exact bH (cX (rv:=.fz (.bool (ks.all λk=>decide (k∈c.1)))) (ds:=[.list (ks.map λk=>.bool (decide (k∈c.1)))]) (aj (dz (cs:=[Ze c]) (ds:=bj ks) (by ext:0) rfl e) aB) rfl (nV _ _)) rfl
def eX(b:Bd)(a:G Nat):G (G Nat×Nat):=b.cs.filter λc=>a.all λk=>decide (k∈c.1)
def BZ(a:o.length<=5):bx [bD b,.tuple (bj o)]=.ok (.ow ((eX b o).map Ze)):=by let e2:aW (bD b) (.int 2)=M (.fz (.tuple (b.cs.map Ze))):=sK;let e:=Z.c4;show iX W ?_;ext ef;show eS (dz (cs:=[.tuple (bj o)]) (by ext:0) W (vS Ze Ze (λc=>o.all λk=>decide (k∈c.1)) b.cs () W (λc _=>Jj o a c) λc _ _=>ag W)) W W
def pU(a:G Nat):G Nat:=(kB (a.map acF)).map ad5
omit Z in
theorem rS(ks:bg Nat):(pU ks).Perm ks:=by have h:=(eN (ks.map acF)).map ad5;rw[Yg]at h;exact h.trans (by rw[show(ad5∘acF)=id from funext λx=>rfl,List.map_id])
omit Z in
theorem Nc(ks:bg Nat):(kB (ks.map acF)).map XG.int=bj (pU ks):=by unfold pU bj;rw[Yg];refine Zz λx a=>?_;obtain⟨n,_,rfl⟩:=Yr.mp ((eN _).mem_iff.mp a);rfl
omit Z in
theorem AC(ks:bg Nat):(pU ks).Pairwise (·<=·):=by
 have h:∀l:bg Int,l.Pairwise (·<=·)->(l.map ad5).Pairwise (·<=·):=λl h=>by rw[aaY];exact h.imp λh=>by ext
 exact h _ (d5 _)
omit Z in
theorem MP(ks:bg Nat):(pU ks).length=ks.length:=(rS ks).length_eq
omit Z in
theorem xO{ks:bg Nat}(h:ks.length<64):L9.gr [.tuple (bj ks)]=cL (.ow (bj (pU ks))):=by
 have e:bj ks=(ks.map acF).map XG.int:=by rw[Yg];rfl
 show(match ka (bj ks)with
  |some a=>if a.length<64 then cL (RV.ow ((kB a).map .int))else Ld
  |none=>Ld)=_
 rw[e,iB];dsimp only;rw[ax (by rw[Xz];exact h),Nc]
def Tu(b:Bd)(a:G Nat):G Mn:=match b.cs.find? λc=>decide (c.1=pU a)with
 |some c=>.Yu c.2::XU (a.length - 1) .none
 |none=>a.map (um b 0)
omit Z in
omit Z in
theorem T8(n:Nat)(d:D):(XU n [d]).flatten=XU n d:=by
 induction n with
 |zero=>rfl
 |succ n a=>rw[YS,Zv,a];rfl
def Ri{n:bg Nat}(G:1<=n.length)(F:n.length<=5)(B:∀k∈n,(k:Int)<b.n):fQ [bD b,.tuple (bj n)]=.ok (.ow ((Tu b n).map mD)):=by
 let e2:aW (bD b) (.int 2)=M (.fz (.tuple (b.cs.map Ze))):=sK;let e1:aW (bD b) (.int 1)=M (.fz (.tuple (b.ls.map ko))):=kJ;let E:=Z.l1;let i:=xO (ks:=n) ();show iX W ?_;ext fG;let rt:∀c:bg Nat×Nat,(aH c7 (ci {b5 {pC (.str "letter"),aH aW (aa 2) (~~~1)}}) (aH gW (ci {pC (.tuple [(.str "none")])}) (aH tj (eE cA {aa 1}) (~~~1)))) [M (.fz (bD b)),M (.fz (.tuple (bj n))),M (.fz (Ze c))]=.ok (.ow ((Mn.Yu c.2::XU (n.length - 1) Mn.none).map mD),[M (.fz (bD b)),M (.fz (.tuple (bj n))),M (.fz (Ze c))]):=λc=>by
  let l:aW (Ze c) (.int 1)=M (.fz (.str (j8 c.2))):=kJ;let j:gW (.list [.tuple [.str "none"]]) (.int (((bj n).length:Int) - 1))=M (.ow (XU (n.length - 1) (.tuple [.str "none"]))):=by rw[gp,show((n.length:Int) - 1)=((n.length - 1:Nat):Int) by ext];show(QO () ()).trans (by rw[T8])
  let y:c7 (.list [mD (.Yu c.2)]) (.list (XU (n.length - 1) (.tuple [.str "none"])))=M (.ow ((Mn.Yu c.2::XU (n.length - 1) Mn.none).map mD)):=by show(if 1+(XU (n.length - 1) (XG.tuple [.str "none"])).length<=1000000 then M (RV.ow ([mD (.Yu c.2)]++XU (n.length - 1) (XG.tuple [.str "none"])))else R)=_;rw[Y0,ax (),X5,List.map_replicate];rfl
  show aF (by ext:0) (aF (by ext:0) (aF (by ext:0) aD W W (tI _ _)) W W j) W W y
 let f:∀(e:bg (bg Nat×Nat)) (o:b3 PV),(∀c,e.find? (λc=>decide (c.1=pU n))=M c->p7 (gN 2) (mL (aJ (aH dh (eE qC {aH aW (aa 2) (~~~0)}) (eE L9.gr {aa 1}))) (dJ (aH c7 (ci {b5 {pC (.str "letter"),aH aW (aa 2) (~~~1)}}) (aH gW (ci {pC (.tuple [(.str "none")])}) (aH tj (eE cA {aa 1}) (~~~1))))) d7) (e.map Ze) [M (.fz (bD b)),M (.fz (.tuple (bj n))),o]=.ok (.rt (.ow ((Mn.Yu c.2::XU (n.length - 1) Mn.none).map mD))))/\
   (e.find? (λc=>decide (c.1=pU n))=R->∃u,p7 (gN 2) (mL (aJ (aH dh (eE qC {aH aW (aa 2) (~~~0)}) (eE L9.gr {aa 1}))) (dJ (aH c7 (ci {b5 {pC (.str "letter"),aH aW (aa 2) (~~~1)}}) (aH gW (ci {pC (.tuple [(.str "none")])}) (aH tj (eE cA {aa 1}) (~~~1))))) d7) (e.map Ze) [M (.fz (bD b)),M (.fz (.tuple (bj n))),o]=.ok (.nx [M (.fz (bD b)),M (.fz (.tuple (bj n))),u])):=by
  intro e
  induction e with
  |nil=>show λo=>#[λc h=>(by ext h),λ_=>#[o,W]]
  |cons c r A=>
   intro o;let C:aW (Ze c) (.int 0)=M (.fz (.tuple (bj c.1))):=iO
   let a:aJ (aH dh (eE qC {aH aW (aa 2) (~~~0)}) (eE L9.gr {aa 1})) [M (.fz (bD b)),M (.fz (.tuple (bj n))),M (.fz (Ze c))]=.ok (decide (c.1=pU n),[M (.fz (bD b)),M (.fz (.tuple (bj n))),M (.fz (Ze c))]):=
    bH (aF (cX (by ext:0) W W) (cX (by ext:0) W i) W W (wa _ _)) W
   rw[Yv];by_cases h:c.1=pU n
   .rw[a4 h]at a⊢;show#[λH t=>?_,λt=>(by ext t)];ext t;show((gN 2 (.fz (Ze c)) [M (.fz (bD b)),M (.fz (.tuple (bj n))),o]).bind λg=>_)=_;rw[Ih,eh];show((mL _ _ _ [M (.fz (bD b)),M (.fz (.tuple (bj n))),M (.fz (Ze c))]).bind _)=_;rw[VV a,vX (rt c) W];rfl
   .rw[a5 h]at a⊢
    let w:p7 (gN 2) (mL (aJ (aH dh (eE qC {aH aW (aa 2) (~~~0)}) (eE L9.gr {aa 1}))) (dJ (aH c7 (ci {b5 {pC (.str "letter"),aH aW (aa 2) (~~~1)}}) (aH gW (ci {pC (.tuple [(.str "none")])}) (aH tj (eE cA {aa 1}) (~~~1))))) d7) ((c::r).map Ze) [M (.fz (bD b)),M (.fz (.tuple (bj n))),o]=p7 (gN 2) (mL (aJ (aH dh (eE qC {aH aW (aa 2) (~~~0)}) (eE L9.gr {aa 1}))) (dJ (aH c7 (ci {b5 {pC (.str "letter"),aH aW (aa 2) (~~~1)}}) (aH gW (ci {pC (.tuple [(.str "none")])}) (aH tj (eE cA {aa 1}) (~~~1))))) d7) (r.map Ze) [M (.fz (bD b)),M (.fz (.tuple (bj n))),M (.fz (Ze c))]:=by show((gN 2 (.fz (Ze c)) [M (.fz (bD b)),M (.fz (.tuple (bj n))),o]).bind λg=>_)=_;rw[Ih,eh];show((mL _ _ _ [M (.fz (bD b)),M (.fz (.tuple (bj n))),M (.fz (Ze c))]).bind _)=_;rw[VO a];rfl
    rw[w];show A _
 let(z,m):=f b.cs R;let v:eT (aH aW (aa 0) (~~~2)) [M (.fz (bD b)),M (.fz (.tuple (bj n))),R]=.ok (b.cs.map Ze,[M (.fz (bD b)),M (.fz (.tuple (bj n))),R]):=by ext:0
 ext Tu;cases q:b.cs.find? λc=>decide (c.1=pU n)with
 |some c=>show .eq (FR ((Ai v).trans (z c q))) #[W]
 |none=>let(u,m):=m q;show .eq (GW ((Ai v).trans m)) ?_;show eS (dz (by ext:0) W ?_) W W;rw[Yg];show hV nd (mD∘um b 0) n () W λk p=>?_;let(d,l,j):=GU Z (L:=0) () (B k p);let l:aW (.tuple (b.ls.map ko)) (.int 0)=M (.fz d):=l;show aF (by ext:0) (ag W) W W j
end
end STP
local macro_rules|`(-($x))=>`(Option.some (.fz $x))
namespace STP
open PySem L2 L3
open L10
def km(p:Nat×Mn):cB×SV:=(.inl (p.1:Int),.fz (mD p.2))
def lU(ac:Ac)(k:Nat)(o:z Mn):Ac:=λj=>if j=k then o else ac j
def eC:lU ac k o k=o:=by ext lU;simp_all
def gH(h:j≠k):lU ac k o j=ac j:=by ext lU;rw[aE h]
def Ho(ac:Ac):(hW ac).Pairwise λp q=>p.1<q.1:=by
 ext hW;show ait _ (λa g h p f q b=>?_) (ad6);cases e:ac a with
 |none=>simp_all
 |some x=>
  cases i:ac g with
  |none=>simp_all
  |some y=>rw[e]at f;rw[i]at b;ext f;ext b;show h
def sV(ac:Ac):((hW ac).map (·.1)).Nodup:=by rw[ajv,aaY];show(Ho ac).imp λh=>Ye h
def B7{l:G (Nat×Mn)}(h:(l.map (·.1)).Nodup):l.Nodup:=by rw[ajv,aaY]at h;show h.imp λh e=>h (by rw[e])
theorem rD{l:G (Nat×Mn)}(h:(l.map (·.1)).Nodup)(hm:∀p,p∈l↔p.1<5/\ac p.1=M p.2):l.Perm (hW ac):=
 (List.perm_ext_iff_of_nodup (B7 h) (B7 (sV ac))).mpr λp=>(hm p).trans gq.symm
section
variable{Y:bg (Nat×Mn)}{X:Ac}(Z:Y.Perm (hW X))
include Z
theorem kM:p∈Y↔p.1<5/\X p.1=M p.2:=Z.mem_iff.trans gq
theorem Gx:(Y.map (·.1)).Nodup:=(Z.map (·.1)).nodup_iff.mpr (sV X)
def Hb:Y.length<=5:=by rw[Z.length_eq];show u9 X
def nJ{k:Nat}(f:k<5):jG (Y.map km) (.inl (k:Int))=(X k).map λa=>SV.fz (mD a):=by
 ext jG;cases q:(Y.map km).find? λb=>decide (b.1=(.inl (k:Int):cB))with
 |none=>
  cases e:X k with
  |none=>rfl
  |some a=>let:=List.find?_eq_none.mp q (km (k,a)) (Yr.mpr #[(k,a),(kM Z).mpr #[f,e],W]);show a7 (a4 W) this
 |some b=>
  let(p,i,rfl):=Yr.mp (adg q);let h:=a6 (List.find?_some (p:=λb:cB×SV=>decide (b.1=(.inl (k:Int):cB))) q);let g:p.1=k:=by let:=Sum.inl.inj h;ext
  rw[<-g,((kM Z).mp i).2];rfl
def Np{k:Nat}(o:k<5):∃c:G (Nat×Mn),jU (Y.map km) (.inl (k:Int)) (.fz (mD a))=c.map km/\c.Perm (hW (lU X k (M a))):=by
 ext jU;let i:∀p:Nat×Mn,((km p).1=(.inl (k:Int):cB))↔p.1=k:=λp=>#[λh=>by let:=Sum.inl.inj h;ext,λh=>by rw[<-h];rfl];split
 .rename_i h
  show#[Y.map λp=>if p.1=k then(k,a)else p,?_,rD ?_ λp=>?_]
  .rw[Yg,Yg]
   show Zz λp _=>?_;show(if(km p).1=(.inl (k:Int):cB)then((km p).1,SV.fz (mD a))else km p)=km (if p.1=k then(k,a)else p);by_cases e:p.1=k
   .rw[ax ((i p).mpr e),ax e,(i p).mpr e];rfl
   simp_all
  .rw[Yg,show Y.map ((·.1)∘λp:Nat×Mn=>if p.1=k then(k,a)else p)=Y.map (·.1)from Zz λp _=>by
    show(if p.1=k then(k,a)else p).1=p.1;split
    .rename_i e;show e.symm
    .rfl]
   show Gx Z
  .let(w,l,j):=acz.mp h
   let(n,v,rfl):=Yr.mp l;let b:=(i n).mp (a6 j);rw[Yr];constructor
   .rintro⟨r,u,rfl⟩
    split
    .show#[o,eC]
    .rename_i e;let:=(kM Z).mp u;show#[this.1,by rw[gH e];show this.2]
   .rintro⟨f,g⟩
    by_cases e:p.1=k
    .rw[e,eC]at g;show#[n,v,?_];rw[ax b,<-e,X1 g]
    .rw[gH e]at g;show#[p,(kM Z).mpr #[f,g],by rw[aE e]]
 .rename_i h
  let A:=λp m e=>h (acz.mpr #[km p,Yr.mpr #[p,m,W],a4 ((i p).mpr e)]);show#[Y++[(k,a)],by rw[X2];rfl,rD ?_ λp=>?_]
  .rw[X2,aai];show#[Gx Z,Zd.mpr #[Y9,abH],λx t y q=>?_];let(p,b,rfl):=Yr.mp t;rw[Yj.mp q];show A p b
  .rw[YF,Yj]
   constructor
   .rintro(b|rfl)
    .let:=(kM Z).mp b;show#[this.1,by rw[gH (A p b)];show this.2]
    .show#[o,eC]
   .rintro⟨b,f⟩
    by_cases e:p.1=k
    .rw[e,eC]at f;show .inr (by rw[<-e,X1 f])
    .rw[gH e]at f;show .inl ((kM Z).mpr #[b,f])
def JQ{k:Nat}:∃c:G (Nat×Mn),mh (Y.map km) (.inl (k:Int))=c.map km/\c.Perm (hW (lU X k R)):=by
 let g:∀p:Nat×Mn,((km p).1=(.inl (k:Int):cB))↔p.1=k:=λp=>#[λh=>by let:=Sum.inl.inj h;ext,λh=>by rw[<-h];rfl];show#[Y.filter λp=>decide (p.1≠k),?_,rD ?_ λp=>?_]
 .ext mh;rw[List.filter_map];congr 1;show List.filter_congr λp _=>?_;show decide_eq_decide.mpr (not_congr (g p))
 .show amR ((List.filter_sublist).map _) (Gx Z)
 .rw[Zt,kM Z,decide_eq_true_eq]
  constructor
  .rintro⟨⟨b,a⟩,f⟩;show#[b,by rw[gH f];show a]
  .rintro⟨b,a⟩
   by_cases e:p.1=k
   .rw[e,eC]at a;ext a
   .rw[gH e]at a;show#[#[b,a],e]
def Ii:au Aj ((Y.map km).map (·.1))=M (Y.map λp=>(p.1:Int)):=by
 clear Z
 induction Y with
 |nil=>rfl
 |cons p r a=>rw[X5,X5];ext au;rw[a];rfl
def Iu:kB (Y.map λp=>(p.1:Int))=(hW X).map λp=>(p.1:Int):=by show lj ((eN _).trans (Z.map _)) (d5 _) ?_;rw[aaY];show(Ho X).imp λh=>by ext
end
abbrev Sn:=G (Nat×Bool)
def nv(ac:Ac)(a:Mn):Bool:=decide (a∈(hW ac).map (·.2))
def rO(ac:Ac):Mn->Sn
 |.Yu c=>if nv ac (.Yu c)=P then[]else[(c,P)]
 |_=>[]
def SQ(ac:Ac):Mn->Sn
 |.Yu c=>if nv ac (.Yu c)=P then[]else[(c,XF)]
 |_=>[]
def gI(p:ZG×Sn)(k:Nat)(a:Mn):ZG×Sn:=({p.1 with ac:=lU p.1.ac k (M a)},p.2++rO p.1.ac a)
def go(p:ZG×Sn)(k:Nat):ZG×Sn:=match p.1.ac k with
 |some a=>({p.1 with ac:=lU p.1.ac k R},p.2++SQ (lU p.1.ac k R) a)
 |none=>p
def kA(p:ZG×Sn)(a:G (Nat×Mn)):ZG×Sn:=a.foldl (λp q=>gI p q.1 q.2) p
def jb(b:Bd)(a:G Nat):z (Nat×Int)->G Mn
 |some (_,n)=>[.ZQ n]
 |none=>Tu b a
def dj(b:Bd)(p:ZG×Sn):ZG×Sn:=match p.1.wt with
 |none=>p
 |some (a,_,w)=>kA ({p.1 with wt:=R},p.2) (a.zip (jb b a w))
def Fq:Wq->Nat->Bool
 |some (a,_,_),k=>decide (k∈a)
 |none,_=>XF
def Js(b:Bd)(s:ZG)(k:Nat):Bool:=match s.wt with
 |some (a,_,R)=>decide (qp s.ac s.oc=0)&& !(eX b (a++[k])).isEmpty
 |_=>XF
def vg(b:Bd)(p:ZG×Sn)(k:Nat):ZG×Sn:=match p.1.wt with
 |some (a,g,_)=>if(eX b (a++[k])).map (·.1.length)=[(a++[k]).length]then dj b ({p.1 with wt:=M (a++[k],g,R)},p.2)else({p.1 with wt:=M (a++[k],g,R)},p.2)
 |none=>p
def gG(s:ZG)(m:Mn):ZG:=if(m.ae4||m.isO)=P then s else{s with oc:=R}
def y0(b:Bd)(L:Int)(p:ZG×Sn)(k:Nat):Mn->ZG×Sn
 |.tap c n=>({p.1 with wt:=M ([k],0,M (c,n))},p.2)
 |.Yu c=>if(decide (L=0)&& !(eX b [k]).isEmpty)=P then({p.1 with wt:=M ([k],0,R)},p.2)else gI p k (.Yu c)
 |.once n=>({(gI p k .none).1 with oc:=M n},(gI p k .none).2)
 |m=>gI p k m
def JW(b:Bd)(p:ZG×Sn)(k:Nat):ZG×Sn:=
 y0 b (qp p.1.ac p.1.oc) (gG p.1 (look b (qp p.1.ac p.1.oc) k),p.2) k (look b (qp p.1.ac p.1.oc) k)
def mY(b:Bd)(p:ZG×Sn)(k:Nat):ZG×Sn:=
 if((p.1.ac k).isSome||Fq p.1.wt k)=P then p else if Js b p.1 k=P then vg b p k else JW b (dj b p) k
def dn(b:Bd)(p:ZG×Sn)(k:Nat):ZG×Sn:=match p.1.wt with
 |some (_,_,R)=>dj b p
 |some (_,_,M (c,_))=>gI ({p.1 with wt:=R},p.2) k (.Yu c)
 |none=>p
def xT(b:Bd)(p:ZG×Sn)(k:Nat):ZG×Sn:=go (if Fq p.1.wt k=P then dn b p k else p) k
def lY(b:Bd)(p:ZG×Sn):ZG×Sn:=match p.1.wt with
 |none=>p
 |some (a,g,w)=>if g+1=b.wt then dj b ({p.1 with wt:=M (a,g+1,w)},p.2)else({p.1 with wt:=M (a,g+1,w)},p.2)
def ay(b:Bd)(s:ZG):Evn->ZG×Sn
 |.down k=>mY b (s,[]) k
 |.up k=>xT b (s,[]) k
 |.turn=>lY b (s,[])
def No(b:Bd)(s:ZG):G (Str×SV):=[("bed",.fz (bD b)),("acts",.rf 1),("waiting",.fz (jZ s.wt)),("once",.fz (ul s.oc)),("sent",.rf 2)]
def iK(p:Nat×Bool):D:=.tuple [.str (j8 p.1),.str (if p.2=P then "down" else "up")]
def cW(b:Bd)(s:ZG)(sn:Sn)(a:G (Nat×Mn))(J:aN):aN:=.obj "Hand" (No b s):: .dct (a.map km):: .lst ((sn.map iK).map .fz)::J
def HS(b:Bd)(p:ZG×Sn)(c:aN):Prop:=∃a J,a.Perm (hW p.1.ac)/\c=cW b p.1 p.2 a J
section
variable{b:Bd}{s:ZG}{sn:Sn}{Y:bg (Nat×Mn)}{J:aN}{ρ:aR}{i:Nat}{X:aN}{p:ZG×Sn}{k:Nat}{a:Mn}
def P3:(No b s).lookup ("bed":Str)=-(bD b):=by rfl
def NP:(No b s).lookup ("acts":Str)=M (.rf 1):=by rfl
def Mq:(No b s).lookup ("waiting":Str)=-(jZ s.wt):=by rfl
def Kb:(No b s).lookup ("once":Str)=-(ul s.oc):=by rfl
def MY:(No b s).lookup ("sent":Str)=M (.rf 2):=by rfl
def VU(m:Str):Bool:=(m== "bed"||m== "acts"||m== "waiting"||m== "once"||m== "sent")==XF
def U4(h:VU m=P):(No b s).lookup m=R:=by unfold VU at h;simp only[beq_iff_eq,aeK]at h;let((((l,j),g),f),e):=h;ext No;simp_all
theorem ou(h:ρ[i]?=M (M (.rf 0))):aK "Hand" "bed" (aq i) ρ (cW b s sn Y J)=.ok (.fz (bD b)) (cW b s sn Y J):=cY (aL h) W P3
theorem gY(h:ρ[i]?=M (M (.rf 0))):aK "Hand" "acts" (aq i) ρ (cW b s sn Y J)=.ok (.rf 1) (cW b s sn Y J):=cY (aL h) W NP
theorem bu(h:ρ[i]?=M (M (.rf 0))):aK "Hand" "waiting" (aq i) ρ (cW b s sn Y J)=.ok (.fz (jZ s.wt)) (cW b s sn Y J):=cY (aL h) W Mq
theorem Ck(h:ρ[i]?=M (M (.rf 0))):aK "Hand" "once" (aq i) ρ (cW b s sn Y J)=.ok (.fz (ul s.oc)) (cW b s sn Y J):=cY (aL h) W Kb
theorem vf(h:ρ[i]?=M (M (.rf 0))):aK "Hand" "sent" (aq i) ρ (cW b s sn Y J)=.ok (.rf 2) (cW b s sn Y J):=cY (aL h) W MY
theorem kW(w:Wq)(h:ρ[i]?=M (M (.rf 0)))(e:o ρ X=.ok (.fz (jZ w)) (cW b s sn Y J)):dS "Hand" "waiting" (aq i) o ρ X=.ok (.nx ρ) (cW b {s with wt:=w} sn Y J):=
 (jB e (aL h) W (by show XQ W)).trans (by rfl)
theorem CZ(o:z Int)(h:ρ[i]?=M (M (.rf 0)))(e:C ρ X=.ok (.fz (ul o)) (cW b s sn Y J)):dS "Hand" "once" (aq i) C ρ X=.ok (.nx ρ) (cW b {s with oc:=o} sn Y J):=
 (jB e (aL h) W (by show XQ W)).trans (by rfl)
def bE(e:HS b p X)(hm:VU m=P)(h:ρ[i]?=M (M (.rf 0)))(d:fa ρ X=.ok xs X)(c:(SV.rf 0::xs).length=n)(f:F (.rf 0::xs) X=.ok x o):aM "Hand" m F n (aq i) fa ρ X=.ok x o:=by let(Y,J,g,rfl):=e;show Cu (aL h) W (U4 hm) d c f
def EY(Y:G (Nat×Mn)):(Y.map km).map (·.2)=((Y.map (·.2)).map mD).map SV.fz:=by rw[Yg,Yg,Yg];rfl
def AK(ac:Ac):Prop:=∀k a,ac k=M a->k<5/\LB a
def HM(f:HS b p X)(g:AK p.1.ac)(d:LB a):∃c,bJ [.rf 0,.fz (mD a)] X=.ok (.fz (.bool (nv p.1.ac a))) c/\HS b p c:=by
 let(Y,J,e,rfl):=f;let e1:nv p.1.ac a=decide (a∈Y.map (·.2)):=decide_eq_decide.mpr (e.map (·.2)).symm.mem_iff;let lb:∀m∈Y.map (·.2),LB m:=λm hm=>by let(q,h,rfl):=Yr.mp hm;show(g _ _ ((kM e).mp h).2).2
 show#[cW b p.1 p.2 Y (J++[.lst ((Y.map km).map (·.2))]),?_,Y,_,e,W];rw[e1];show iH W (gK (cK (ah (ag W)) (Lf (gY W) W) (sF W (cP (by rw[EY];show aG)) (K0 d lb))))
theorem Bu(f:sn.length<1000)(h:ρ[i]?=M (M (.rf 0)))(e:o ρ (cW b s sn Y J)=.ok (.fz (iK (c,d))) (cW b s sn Y J)):jr (aK "Hand" "sent" (aq i)) o ρ (cW b s sn Y J)=.ok (.fz .none) (cW b s (sn++[(c,d)]) Y J):=
 (sR (vf h) W e W (by rw[Xz,Xz];ext)).trans (by ext cW;rw[X2,X2];rfl)
def sQ(e:Y.Perm (hW s.ac))(h:k<5)(o:ρ[0]?=M (M (.rf 0)))(n:ρ[1]?=M (-(nd k)))(m:ρ[2]?=M (-(mD a))):∃c:G (Nat×Mn),c.Perm (hW (lU s.ac k (M a)))/\u6 (aK "Hand" "acts" (aq 0)) (ae (aa 1)) (ae (aa 2)) ρ (cW b s sn Y J)=.ok (.nx ρ) (cW b {s with ac:=lU s.ac k (M a)} sn c J):=by let(c,l,j):=Np e h;let g:aa 1 (bp ρ)=.ok (.fz (nd k),bp ρ):=ag (by ext bp;rw[XS,n];rfl);let f:aa 2 (bp ρ)=.ok (.fz (mD a),bp ρ):=ag (by ext bp;rw[XS,m];rfl);show#[c,j,(MM (ah f) (gY o) (ah g) W W (by rw[Xz];let:=Hb e;ext)).trans ?_];rw[l];rfl
def rh(n:HS b p X)(w:AK p.1.ac)(x:LB a)(o:k<5)(v:p.2.length<1000):∃d,bq [.rf 0,.fz (nd k),.fz (mD a)] X=.ok (.fz .none) d/\HS b (gI p k a) d:=by
 let e0:=pJ a;let e1:=kX a;cases q:a.isL with
 |false=>
  let(Y,J,h,rfl):=n;rw[q]at e1;let(f,j,y):=sQ (ρ:=[M (.rf 0),-(nd k),-(mD a)]) h o W W W;show#[_,nM W (cx (iz (ic (bM (by ext:0))) gQ) y),f,J,j,?_];let:rO p.1.ac a=[]:=by ext a<;>first|rfl|ext q
  ext gI;simp_all
 |true=>
  rw[q]at e1;let(l,j,m):=HM n w x;let g:∀u,nv p.1.ac a=u->(mv (bS (aJ (aH dh (aH aW (aa 2) (~~~0)) (pC (.str "letter"))))) (tX (aZ (aM "Hand" "has_act" bJ 2 (aq 0) (ai (ae (aa 2)) aw))))) [M (.rf 0),-(nd k),-(mD a)] X=.ok (!u) l:=λu e=>by rw[e]at j;show ju (bM (by ext:0)) (re (aV (bE n (by rfl) W (am (ah (ag W)) aA) W j)))
  let(Y,J,h,rfl):=m;cases A:nv p.1.ac a with
  |true=>
   let(f,t,r):=sQ (ρ:=[M (.rf 0),-(nd k),-(mD a)]) h o W W W;show#[_,nM W (cx (iz (g P A) gQ) r),f,J,t,?_];let:rO p.1.ac a=[]:=by
    ext a<;>first|ext q|skip
    show(if nv p.1.ac _=P then _ else _)=_;simp_all
   ext gI;simp_all
  |false=>
   ext a<;>first|ext q|skip
   rename_i c;let(f,t,r):=sQ (ρ:=[M (.rf 0),-(nd k),-(mD (.Yu c))]) (sn:=p.2++[(c,P)]) h o W W W;let z:aW (mD (.Yu c)) (.int 1)=-(.str (j8 c)):=kJ;show#[_,nM W (cx (gB (g XF A) (hJ (Bu v W (ah (show _=Res.ok (PV.fz (.tuple [.str (j8 c),.str "down"]),_) by ext:0))))) r),f,J,t,?_];let:rO p.1.ac (.Yu c)=[(c,P)]:=by show(if nv p.1.ac _=P then _ else _)=_;simp_all
   ext gI;rw[this]
end
end STP
namespace STP
open PySem L2 L3 L10
def VA(a:Int):Mn->Prop
 |.Yu c=>c<26
 |.ZQ n=>1<=n/\n<a
 |.none=>True
 |_=>False
def VA.lb(h:VA nL m):LB m:=by
 cases m with
 |Yu c=>show h
 |tap c n=>show h.elim
 |_=>trivial
structure SA(b:Bd)(s:ZG):Prop where
 ac:∀k a,s.ac k=M a->(k:Int)<b.n/\VA b.ls.length a
 oc:∀o,s.oc=M o->1<=o/\o<b.ls.length
structure WV(b:Bd)(ac:Ac)(ks:G Nat)(g:Int)(w:z (Nat×Int)):Prop where
 ne:ks≠[]
 nd:ks.Nodup
 kn:∀k∈ks,(k:Int)<b.n
 kf:∀k∈ks,ac k=R
 g0:0<=g
 tp:∀c n,w=M (c,n)->c<26/\(1<=n/\n<b.ls.length)/\ks.length=1
 ch:w=R->∀k∈ks,Ez (b.ls.headD []) k=P
structure SW(b:Bd)(s:ZG):Prop where
 sa:SA b s
 wt:∀ks g w,s.wt=M (ks,g,w)->WV b s.ac ks g w/\g<b.wt
def zD{c:G Nat}(hd:c.Nodup)(h:∀k∈c,k<n):c.length<=n:=by rw[<-MP c];let b:=(rS c).nodup_iff.mpr hd;show J6 (((AC c).and b).imp λh=>by ext) λk a=>h k ((rS c).mem_iff.mp a)
section
variable{b:Bd}(Z:VB b){s:ZG}{p:ZG×Sn}{Y:bg Nat}{g:Int}{w:b3 (Nat×Int)}{X:Ac}{k:Nat}{a:Mn}
include Z
theorem WV.len(h:WV b X Y g w):Y.length<=5:=zD h.nd λk e=>by let:=h.kn k e;let:=Z.n5;ext
omit Z in
theorem WV.ak4(h:WV b X Y g w):1<=Y.length:=List.length_pos_iff.mpr h.ne
theorem SA.ak(h:SA b s):AK s.ac:=λk a e=>by let:=h.ac k a e;let:=Z.n5;show#[by ext,(h.ac k a e).2.lb]
omit Z in
theorem SA.cm(h:SA b p.1)(f:(k:Int)<b.n)(ha:VA b.ls.length a):SA b (gI p k a).1:=by
 refine⟨λj x e=>?_,h.oc⟩;by_cases z:j=k
 .subst z;have i:cL a=cL x:=(eC (ac:=p.1.ac) (k:=j) (o:=cL a)).symm.trans e;cases i;exact⟨f,ha⟩
 .exact h.ac j x ((gH z).symm.trans e)
omit Z in
theorem SA.gg(h:SA b p.1):SA b (go p k).1:=by
 unfold go;split
 .refine⟨λj x e=>?_,h.oc⟩
  by_cases z:j=k
  .subst z;exact a7 ((eC (ac:=p.1.ac) (k:=j) (o:=Ld)).symm.trans e) (by simp)
  .exact h.ac j x ((gH z).symm.trans e)
 .exact h
omit Z in
theorem sA:(gI p k a).2.length<=p.2.length+1:=by
 show(p.2++rO p.1.ac a).length<=_;rw[XJ];have:(rO p.1.ac a).length<=1:=by
  cases a with
  |Yu c=>show(if _ then _ else _:Sn).length<=1;split<;>simp
  |_=>simp[rO]
 ext
omit Z in
theorem Ef(e:bg (Nat×Mn)):∀p:ZG×Sn,(kA p e).2.length<=p.2.length+e.length:=by
 induction e with
 |nil=>exact λp=>XO _
 |cons q r f=>intro p;have i:=f (gI p q.1 q.2);have h:=sA (p:=p) (k:=q.1) (a:=q.2);show(kA (gI p q.1 q.2) r).2.length<=_;rw[XZ];ext
omit Z in
theorem SA.cms(e:bg (Nat×Mn)):∀{p:ZG×Sn},SA b p.1->(∀q∈e,(q.1:Int)<b.n/\VA b.ls.length q.2)->SA b (kA p e).1/\(kA p e).1.wt=p.1.wt/\(kA p e).1.oc=p.1.oc:=by
 induction e with
 |nil=>exact λh _=>⟨h,rfl,rfl⟩
 |cons q r j=>intro p h f;have i:=f q X0;exact j (h.cm i.1 i.2) λx l=>f x (XX _ l)
def PK(h:Ez (b.ls.headD []) k=P):∃c,um b 0 k=.Yu c:=by
 let i:=Z.l1;obtain⟨f,r,e⟩:∃f r,b.ls=f::r:=by
  cases q:b.ls with
  |nil=>rw[q]at i;ext i
  |cons l r=>show#[l,r,W]
 unfold Ez at h;ext um;rw[e]at h⊢;rw[adL,afa];rw[List.headD_cons]at h;cases q:f[k]? with
 |none=>rw[q]at h;ext h
 |some m=>
  rw[q]at h;cases m with
  |Yu c=>show#[c,W]
  |_=>ext h
def LG(f:(k:Int)<b.n)(h:Ez (b.ls.headD []) k=P):VA b.ls.length (um b 0 k):=by let i:=Z.l1;let(c,e):=PK Z h;let:=zH Z (L:=0) () f;rw[e]at this⊢;show this
def Sf(h:WV b X Y g R):∀m∈Tu b Y,VA b.ls.length m:=by
 intro m hm;unfold Tu at hm;split at hm
 .rename_i c f
  rcases Yi.mp hm with rfl|hm
  .show(Z.vc c (adg f)).2.2.2
  .rw[(List.mem_replicate.mp hm).2];trivial
 .let(j,e,rfl):=Yr.mp hm;show LG Z (h.kn j e) (h.ch W j e)
def wU(h:WV b X Y g w):∀q∈Y.zip (jb b Y w),(q.1:Int)<b.n/\VA b.ls.length q.2:=by
 intro q f;let e:=aaB f;show#[h.kn _ e.1,?_];cases w with
 |none=>show Sf Z h _ e.2
 |some i=>let(c,n):=i;rw[Yj.mp e.2];show(h.tp c n W).2.1
def WD(b:Bd)(s:ZG):Prop:=∀Y g w,s.wt=M (Y,g,w)->WV b s.ac Y g w
def jn(h:SA b p.1)(f:WD b p.1):SW b (dj b p).1/\(dj b p).1.wt=R/\(dj b p).2.length<=p.2.length+5/\(dj b p).1.oc=p.1.oc:=by
 ext dj;split
 .rename_i q;show#[#[h,λY g w e=>by simp_all],q,Nat.le_add_right _ _,W]
 .rename_i Y g w q
  let v:=f Y g w q;let(l,j,i):=SA.cms (Y.zip (jb b Y w)) (p:=({p.1 with wt:=R},p.2)) #[h.ac,h.oc] (wU Z v);show#[#[l,λ_ _ _ e=>?_],j,?_,i]
  .simp_all
  .let:=Ef (Y.zip (jb b Y w)) ({p.1 with wt:=R},p.2)
   let m:=v.len Z
   grind
omit Z in
theorem Bj:∀(l:bg Int) (m:b3 Int),l.foldl lQ m=m\/∃x∈l,l.foldl lQ m=cL x
 |[],m=>.inl rfl
 |x::r,m=>by
  rw[abp];rcases Bj r (lQ m x)with h|⟨y,hy,h⟩
  .rw[h]
   cases m with
   |none=>exact .inr ⟨x,X0,rfl⟩
   |some z=>
    show cL (if x>z then x else z)=cL z\/_;split
    .exact .inr ⟨x,X0,by show cL (if x>z then x else z)=_;rename_i q;rw[ax q]⟩
    .exact .inl rfl
  .exact .inr ⟨y,XX _ hy,h⟩
omit Z in
theorem Ce:∀(l:bg Int) (m:b3 Int),(∀x∈l,∃y,l.foldl lQ m=cL y/\x<=y)/\∀z,m=cL z->∃y,l.foldl lQ m=cL y/\z<=y
 |[],m=>⟨λx f=>(by cases f),λz h=>⟨z,h,aa8 _⟩⟩
 |x::r,m=>by
  rw[abp];obtain⟨o,n⟩:=Ce r (lQ m x);have j:∃z,lQ m x=cL z/\x<=z/\∀u,m=cL u->u<=z:=by
   cases m with
   |none=>exact⟨x,rfl,aa8 _,λu h=>by cases h⟩
   |some u=>
    refine⟨if x>u then x else u,rfl,?_,λv h=>?_⟩
    .split<;>ext
    .cases h;split<;>ext
  obtain⟨z,e1,e2,e3⟩:=j;obtain⟨y,e4,e5⟩:=n z e1;refine⟨λv e=>?_,λu i=>⟨y,e4,by have:=e3 u i;ext⟩⟩;rcases Yi.mp e with rfl|e
  .exact⟨y,e4,by ext⟩
  .exact o v e
omit Z in
theorem C1{X:Ac}{n:Int}:n∈(hW X).filterMap Pz↔∃k,k<5/\X k=cL (.ZQ n):=by
 rw[aaJ];constructor
 .rintro⟨⟨k,m⟩,f,e⟩
  have h:=gq.mp f;cases m with
  |ZQ x=>have:x=n:=X1 e;subst this;exact⟨k,h.1,h.2⟩
  |_=>cases e
 .rintro⟨k,f,e⟩;exact⟨(k,.ZQ n),gq.mpr ⟨f,e⟩,rfl⟩
def Ms(h:SA b s):0<=xD s.ac/\xD s.ac<b.ls.length/\(∀k n,s.ac k=M (.ZQ n)->n<=xD s.ac)/\(xD s.ac=0\/∃k,s.ac k=M (.ZQ (xD s.ac))):=by
 let l:=Z.l1;let o:=Z.n5;ext xD;generalize hm:((hW s.ac).filterMap Pz).foldl lQ R=m;let i:=(Ce ((hW s.ac).filterMap Pz) R).1;let f:=Bj ((hW s.ac).filterMap Pz) R;rw[hm]at i f;let up:∀k n,s.ac k=M (.ZQ n)->∃y,m=M y/\n<=y:=λk n e=>i n (C1.mpr #[k,by let:=(h.ac k _ e).1;ext,e]);cases m with
 |none=>show#[aa8 _,by show(0:Int)<_;ext,λk n e=>?_,.inl W];let(y,e2,_):=up k n e;ext e2
 |some x=>
  rcases f with f|⟨y,q,f⟩
  .ext f
  .ext f;let(k,_,e):=C1.mp q;let:=(h.ac k _ e).2;let:1<=x/\x<b.ls.length:=this;show#[by show 0<=x;ext,by show x<_;ext,λk n e=>?_,.inr #[k,e]];let(y,e2,j):=up k n e;ext e2;show j
def zK(h:SA b s):0<=qp s.ac s.oc/\qp s.ac s.oc<b.ls.length:=by
 cases q:s.oc with
 |none=>let:=Ms Z h;show#[this.1,this.2.1]
 |some o=>let:=h.oc o q;show#[by show 0<=o;ext,this.2]
end
section
variable{b:Bd}{s:ZG}{S:Sn}{Y:bg (Nat×Mn)}{J:aN}{T:aR}{i:Nat}{X:aN}{p:ZG×Sn}{k:Nat}{a:Mn}
def zk(h:f x=M y):au f [x]=M [y]:=by ext au;rw[h];rfl
def c8:(l++[c]).set l.length o=l++[o]:=by simp
def on(f:HS b p X):∃c,bz [.rf 0] X=.ok (.fz (b9 p.1)) c/\HS b p c:=by
 let(Y,J,e,rfl):=f;let h:=Hb e;let j:ez (sO (aK "Hand" "acts" (aq 0))) [M (.rf 0)] (cW b p.1 p.2 Y J)=.ok ((hW p.1.ac).map λq=>nd q.1) (cW b p.1 p.2 Y (J++[.dead])):=by
  show(Fy (ds:=(hW p.1.ac).map λq=>nd q.1) (KR (gY W) W (Ii e) (by rw[Xz];ext)) ?_).trans ?_
  .rw[Iu e];show aG.trans ?_;rw[Yg,Yg];rfl
  .rw[c8];rfl
 let l:bL (b7 0) b6 (j9 (ai (ae (aa 0)) (ai (rP (aK "Hand" "acts" (aq 1)) (ae (aa 0))) aw))) ((hW p.1.ac).map λq=>nd q.1) [R,M (.rf 0)] (cW b p.1 p.2 Y (J++[.dead])) []=.ok (((hW p.1.ac).map pD).map .fz) (cW b p.1 p.2 Y (J++[.dead])):=by show(ib (λq:Nat×Mn=>nd q.1) (λq=>.fz (pD q)) _ (λT=>∃o,T=[o,M (.rf 0)]) (hW p.1.ac) _ [] #[R,W] (by let:=u9 p.1.ac;grind) ?_).trans (by rw[Yg];rfl);rintro q g T ⟨o,rfl⟩;let hm:=gq.mp g;show#[[-(nd q.1),M (.rf 0)],W,W,?_,_,W];show oA (am (ah (ag W)) (am (M0 (gY W) (ah (ag W)) W W (by rw[nJ e hm.1,hm.2];rfl)) aA)) (XQ W)
 let tp:ji d9 (ai (dD 1 [0] (ez (sO (aK "Hand" "acts" (aq 0)))) (b7 0) b6 (j9 (ai (ae (aa 0)) (ai (rP (aK "Hand" "acts" (aq 1)) (ae (aa 0))) aw)))) aw) [M (.rf 0)] (cW b p.1 p.2 Y J)=.ok (.fz (.tuple ((hW p.1.ac).map pD))) (cW b p.1 p.2 Y (J++[.dead]++[.lst (((hW p.1.ac).map pD).map .fz)])):=
  mf (am (gU j l) aA) (zk (cP aG)) W
 show#[_,iH W (gK (oA (am tp (am (bu W) (am (Ck W) aA))) (XQ W))),Y,_,e,W]
def IJ(f:HS b p X):bV [.rf 0,.fz (nd k)] X=.ok (.fz (.bool (Fq p.1.wt k))) X:=by
 let(Y,J,h,rfl):=f;show iH W (gK ?_);cases q:p.1.wt with
 |none=>
  let e1:qG (jZ p.1.wt) .none=-(.bool XF):=by rw[q];rfl
  show Ed (aV (cK (bu W) (ah aD) (bX e1)))
 |some x=>
  let(e,g,w):=x;let e1:qG (jZ p.1.wt) .none=-(.bool P):=by rw[q];rfl
  let e2:aW (jZ p.1.wt) (.int 0)=-(.tuple (bj e)):=by rw[q];show iO
  show Dz (aV (cK (bu W) (ah aD) (bX e1))) (cK (ah (ag W)) (bB (bu W) (ah aD) e2) (bX (vY _ _)))
def UI(F:HS b p X)(u:AK p.1.ac)(N:p.1.ac k=M a)(G:p.2.length<1000):∃D,jp [.rf 0,.fz (nd k)] X=.ok (.fz .none) D/\HS b (go p k) D:=by
 let(Y,J,C,rfl):=F;let H:=(u k a N).1;let lb:=(u k a N).2;let(f,K,y):=JQ C
 let n:uH (aK "Hand" "acts" (aq 0)) (ae (aa 1)) [M (.rf 0),-(nd k),R] (cW b p.1 p.2 Y J)=.ok (.fz (mD a)) (cW b {p.1 with ac:=lU p.1.ac k R} p.2 f J):=
  (LK (gY W) W (ah (ag W)) W W (by rw[nJ C H,N];rfl)).trans (by rw[K];rfl)
 let I:go p k=({p.1 with ac:=lU p.1.ac k R},p.2++SQ (lU p.1.ac k R) a):=by ext go;rw[N]
 rw[I];let t:AK (lU p.1.ac k R):=λj x e=>by
  by_cases z:j=k
  .subst z;rw[eC]at e;ext e
  .rw[gH z]at e;show u j x e
 let e0:=pJ a;let e1:=kX a;let l:aJ (aH dh (aH aW (aa 2) (~~~0)) (pC (.str "letter"))) (bp [M (.rf 0),-(nd k),-(mD a)])=.ok (a.isL,bp [M (.rf 0),-(nd k),-(mD a)]):=by ext:0
 let w:GoS (ce (mv (bS (aJ (aH dh (aH aW (aa 2) (~~~0)) (pC (.str "letter"))))) (tX (aZ (aM "Hand" "has_act" bJ 2 (aq 0) (ai (ae (aa 2)) aw))))) (bh (jr (aK "Hand" "sent" (aq 0)) (ae (b5 {aH aW (aa 2) (~~~1),pC (.str "up")})))) cF [M (.rf 0),-(nd k),-(mD a)] (cW b {p.1 with ac:=lU p.1.ac k R} p.2 f J)) (λ_ D=>SV.fz .none=.fz .none/\HS b ({p.1 with ac:=lU p.1.ac k R},p.2++SQ (lU p.1.ac k R) a) D) (λ_ _=>False) (λr D=>r=.fz .none/\HS b ({p.1 with ac:=lU p.1.ac k R},p.2++SQ (lU p.1.ac k R) a) D):=by
  cases q:a.isL with
  |false=>
   rw[q]at l;show dW (ic (bM l)) (lu #[W,f,J,y,?_]);let:SQ (lU p.1.ac k R) a=[]:=by ext a<;>first|rfl|ext q
   simp_all
  |true=>
   rw[q]at l;let(h,v,o):=HM (p:=({p.1 with ac:=lU p.1.ac k R},p.2)) #[f,J,y,W] t lb;let g:∀m,nv (lU p.1.ac k R) a=m->(mv (bS (aJ (aH dh (aH aW (aa 2) (~~~0)) (pC (.str "letter"))))) (tX (aZ (aM "Hand" "has_act" bJ 2 (aq 0) (ai (ae (aa 2)) aw))))) [M (.rf 0),-(nd k),-(mD a)] (cW b {p.1 with ac:=lU p.1.ac k R} p.2 f J)=.ok (!m) h:=λm e=>by
    let v:bJ [.rf 0,.fz (mD a)] (cW b {p.1 with ac:=lU p.1.ac k R} p.2 f J)=.ok (.fz (.bool m)) h:=by rw[<-e];show v
    show ju (bM l) (re (aV (bE (p:=({p.1 with ac:=lU p.1.ac k R},p.2)) #[f,J,y,W] (by rfl) W (am (ah (ag W)) aA) W v)))
   let(A,E,B,e2):=o;rw[e2]at g;cases Q:nv (lU p.1.ac k R) a with
   |true=>
    show dW (g P Q) (lu #[W,A,E,B,?_]);let:SQ (lU p.1.ac k R) a=[]:=by
     ext a<;>first|ext q|skip
     show(if nv (lU p.1.ac k R) _=P then _ else _)=_;rw[ax Q]
    simp_all
   |false=>
    ext a<;>first|ext q|skip
    rename_i c;let L:aW (mD (.Yu c)) (.int 1)=-(.str (j8 c)):=kJ;show tR (g XF Q) (iT (Bu (d:=XF) G W (ah (show _=Res.ok (PV.fz (.tuple [.str (j8 c),.str "up"]),_) by ext:0))) #[W,A,E,B,?_]);let:SQ (lU p.1.ac k R) (.Yu c)=[(c,XF)]:=by show(if nv (lU p.1.ac k R) _=P then _ else _)=_;simp_all
    rw[this]
 show iq W (gF n W w)
end
section
variable{b:Bd}(Z:VB b){s:ZG}{Q:Sn}{X:bg (Nat×Mn)}{J:aN}{S:aR}{i:Nat}{T:aN}{p:ZG×Sn}{k:Nat}{a:Mn}{Y:bg Nat}{g:Int}{w:b3 (Nat×Int)}
theorem Fs:∀(Y:G Nat) (as:G Mn),jN (bj Y) (as.map mD)=(Y.zip as).map pD
 |[],_=>by rfl
 |_::_,[]=>rfl
 |k::r,a::t=>by show XG.tuple [nd k,mD a]::jN (bj r) (t.map mD)=_;rw[Fs r t];rfl
def AF(h:∀c n,w=M (c,n)->c<26):dh (t9 w) (.tuple [.str "chord"])=-(.bool w.isNone)/\rd (t9 w) (.tuple [.str "chord"])=-(.bool w.isSome):=by
 cases w with
 |none=>
  let l:l8 (.tuple [.str "chord"])=P:=by left
  let j:XG.canLay0 (.tuple [.str "chord"])=P:=by left
  let f:XG.eqv (.tuple [.str "chord"]) (.tuple [.str "chord"])=P:=by rfl
  constructor
  .show(if(l8 (.tuple [.str "chord"])&&XG.canLay0 (.tuple [.str "chord"]))=P then M (RV.fz (.bool (XG.eqv (.tuple [.str "chord"]) (.tuple [.str "chord"]))))else R)=_;rw[l,j,f];rfl
  .show(if(l8 (.tuple [.str "chord"])&&XG.canLay0 (.tuple [.str "chord"]))=P then M (RV.fz (.bool (!XG.eqv (.tuple [.str "chord"]) (.tuple [.str "chord"]))))else R)=_;rw[l,j,f];rfl
 |some m=>
  let(c,n):=m;let lb:LB (.tap c n):=h c n W;let e:XG.eqv (mD (.tap c n)) (.tuple [.str "chord"])=XF:=by rfl
  constructor
  .show(if(l8 (mD (.tap c n))&&XG.canLay0 (.tuple [.str "chord"]))=P then M (RV.fz (.bool (XG.eqv (mD (.tap c n)) (.tuple [.str "chord"]))))else R)=_;rw[Jb lb,show XG.canLay0 (.tuple [.str "chord"])=P by left,e];rfl
  .show(if(l8 (mD (.tap c n))&&XG.canLay0 (.tuple [.str "chord"]))=P then M (RV.fz (.bool (!XG.eqv (mD (.tap c n)) (.tuple [.str "chord"]))))else R)=_;rw[Jb lb,show XG.canLay0 (.tuple [.str "chord"])=P by left,e];rfl
theorem yh(Y:G Nat)(w:b3 (Nat×Int))(as:G Mn):∀(h:G (Nat×Mn)) (p:ZG×Sn) (T:aN) (n m:b3 SV),HS b p T->AK p.1.ac->(∀q∈h,q.1<5/\LB q.2)->p.2.length+h.length<1000->
  ∃d c,jw (Ey 2 (kh (b7 4) (kh (b7 5) uf))) (bh (aM "Hand" "come" bq 3 (aq 0) (ai (ae (aa 4)) (ai (ae (aa 5)) aw)))) (h.map pD) [M (.rf 0),-(.tuple (bj Y)),-(t9 w),-(.list (as.map mD)),n,m] T=.ok (.nx d) c/\HS b (kA p h) c
 |[],p,T,n,m,B,_,_,_=>#[_,T,W,B]
 |q::r,p,T,n,m,B,L,C,N=>by
  rw[XZ]at N;let l:=C q X0;let(f,e1,t):=rh B L l.2 l.1 ();let u:AK (gI p q.1 q.2).1.ac:=λj x e=>by
   by_cases z:j=q.1
   .let A:M q.2=M x:=by rw[z]at e;show(eC).symm.trans e
    ext A;show#[by rw[z];show l.1,l.2]
   .show L j x ((gH z).symm.trans e)
  let:=sA (p:=p) (k:=q.1) (a:=q.2);let(d,c,e2,o):=yh Y w as r (gI p q.1 q.2) f (-(nd q.1)) (-(mD q.2)) t u (λx y=>C x (XX _ y)) ();show#[d,c,?_,o]
  let v:bh (aM "Hand" "come" bq 3 (aq 0) (ai (ae (aa 4)) (ai (ae (aa 5)) aw))) [M (.rf 0),-(.tuple (bj Y)),-(t9 w),-(.list (as.map mD)),-(nd q.1),-(mD q.2)] T=.ok (.nx [M (.rf 0),-(.tuple (bj Y)),-(t9 w),-(.list (as.map mD)),-(nd q.1),-(mD q.2)]) f:=
   hJ (bE B (by left) W (am (ah (ag W)) (am (ah (ag W)) aA)) W e1)
  show((bh (aM "Hand" "come" bq 3 (aq 0) (ai (ae (aa 4)) (ai (ae (aa 5)) aw))) [M (.rf 0),-(.tuple (bj Y)),-(t9 w),-(.list (as.map mD)),-(nd q.1),-(mD q.2)] T).bind _)=_;rw[v,ej];show e2
include Z
def lG(y:HS b p T)(r:SA b p.1)(j:p.1.wt=M (Y,g,w))(v:WV b p.1.ac Y g w)(K:p.2.length<900):∃d,cR [.rf 0] T=.ok (.fz .none) d/\HS b (dj b p) d:=by
 let(X,J,A,rfl):=y;let e0:aW (jZ p.1.wt) (.int 0)=-(.tuple (bj Y)):=by rw[j];show iO
 let e2:aW (jZ p.1.wt) (.int 2)=-(t9 w):=by rw[j];show sK
 let t:=v.len Z;let u:=v.ak4;let F:=AF λc n h=>(v.tp c n h).1;let E:dj b p=kA ({p.1 with wt:=R},p.2) (Y.zip (jb b Y w)):=by ext dj;rw[j]
 rw[E];let o:aJ (aH dh (aa 2) (pC (.tuple [.str "chord"]))) (bp [M (.rf 0),-(.tuple (bj Y)),-(t9 w),R,R,R])=.ok (w.isNone,bp [M (.rf 0),-(.tuple (bj Y)),-(t9 w),R,R,R]):=bH (aF (ag W) aD W W F.1) W;let m:hG (Pe (bS (aJ (aH dh (aa 2) (pC (.tuple [(.str "chord")]))))) (iZ fQ 2 (ai (aK "Hand" "bed" (aq 0)) (ai (ae (aa 1)) aw))) (ae (ci {b5 {pC (.str "layer"),aH aW (aa 2) (~~~2)}}))) [M (.rf 0),-(.tuple (bj Y)),-(t9 w),R,R,R] (cW b {p.1 with wt:=R} p.2 X J)=.ok (.fz (.list ((jb b Y w).map mD))) (cW b {p.1 with wt:=R} p.2 X (J++[.dead])):=by
  cases w with
  |none=>let H:=Ri Z u t v.kn;show(gJ (Lu (bM o) (vO (am (ou W) (am (ah (ag W)) aA)) W H)) (fL aG)).trans (by rw[c8];rfl)
  |some G=>let(c,n):=G;let I:aW (t9 (M (c,n))) (.int 2)=-(.int n):=sK;show(gJ (KY (bM o) (cG (show _=Res.ok (PV.ow [.tuple [.str "layer",.int n]],_) by ext:0))) (fL aG)).trans (by rw[c8];rfl)
 let f:∃e d,og (dR (tW {aa 1,aa 3})) (Ey 2 (kh (b7 4) (kh (b7 5) uf))) (bh (aM "Hand" "come" bq 3 (aq 0) (ai (ae (aa 4)) (ai (ae (aa 5)) aw)))) [M (.rf 0),-(.tuple (bj Y)),-(t9 w),-(.list ((jb b Y w).map mD)),R,R] (cW b {p.1 with wt:=R} p.2 X (J++[.dead]))=.ok (.nx e) d/\HS b (kA ({p.1 with wt:=R},p.2) (Y.zip (jb b Y w))) d:=by
  let L:=Z.n5;let(e,d,C,B):=yh Y w (jb b Y w) (Y.zip (jb b Y w)) ({p.1 with wt:=R},p.2) (cW b {p.1 with wt:=R} p.2 X (J++[.dead])) R R #[X,_,A,W] (SA.ak Z #[r.ac,r.oc]) (λq z=>by
   let:=wU Z v q z;show#[by ext,this.2.lb]) (by
   rw[List.length_zip];show p.2.length+_<1000;ext)
  show#[e,d,?_,B];ext og;rw[eB (qJ (aj (ag W) (aj (ag W) aB)) W W W),ej,Fs];show C
 let(e,d,f,l):=f;show#[d,nM (ρ1:=e) W ?_,l];show cx (kL (bB (bu W) (ah aD) e0) W) (cx (kL (bB (bu W) (ah aD) e2) W) (cx (kW R W (ah aD)) (cx (kL m W) f)))
omit Z in
theorem Kv{c:bg Nat×Nat}(h:c.2<26):XG.canLay0 (Ze c)=XA:=by show(XG.canLayAll0 (bj c.1)&&(XG.strOk (j8 c.2)&&XA))=XA;rw[kS,mn h];rfl
omit Z in
theorem Sm:∀{cs:bg (bg Nat×Nat)},(∀c∈cs,c.2<26)->rd (.list (cs.map Ze)) (.list [])=-(.bool (!cs.isEmpty)):=by
 intro cs h;have j:∀cs:bg (bg Nat×Nat),(∀c∈cs,c.2<26)->XG.canLayAll0 (cs.map Ze)=XA:=by
  intro cs
  induction cs with
  |nil=>exact λ_=>rfl
  |cons c r e=>intro h;show(XG.canLay0 (Ze c)&&XG.canLayAll0 (r.map Ze))=XA;rw[Kv (h c X0),e λx l=>h x (XX _ l)];rfl
 have f:∀cs:bg (bg Nat×Nat),XG.depthAll (cs.map Ze)<=2:=by
  intro cs
  induction cs with
  |nil=>exact YC _
  |cons c r e=>show max (XG.depth (Ze c)) (XG.depthAll (r.map Ze))<=2;refine akK.mpr ⟨?_,e⟩;show max (XG.depthAll (bj c.1)+1) (max 0 0)+1<=2;rw[lr];decide
 show(if((XG.canLayAll0 (cs.map Ze)&&decide (XG.depthAll (cs.map Ze)+1<=64))&&XA)=XA then cL (RV.fz (.bool (!XG.eqvAll (cs.map Ze) [])))else Ld)=_;rw[j cs h,a4 (show XG.depthAll (cs.map Ze)+1<=64 by have:=f cs;ext)];cases cs<;>rfl
theorem K4(h:c∈eX b Y):c.2<26:=(Z.vc c (Zt.mp h).1).2.2.2
omit Z in
theorem C0(h:Y≠[])(e:Y.length<=5):c7 (.tuple (bj Y)) (.tuple [nd k])=-(.tuple (bj (Y++[k]))):=by
 show(if bj Y≠[]/\(bj Y).length+1<=1000000 then cL (RV.fz (.tuple (bj Y++[nd k])))else Ld)=_;rw[ax ⟨by cases Y with
  |nil=>exact a7 rfl h
  |cons x r=>simp[bj],by rw[gp];ext⟩,Ki]
 rfl
def Be{d:cT}{ω1:aN}(e:∃X J,ω1=cW b s Q X J)(l:S[0]?=M (M (.rf 0)))(f:Y.length<=5)(h:d S ω1=.ok (.fz (.tuple (bj Y))) ω1):jT rd (iZ bx 2 (ai (aK "Hand" "bed" (aq 0)) (ai d aw))) (ae (ci ar)) S ω1=.ok (.fz (.bool (!(eX b Y).isEmpty))) (ω1++[.lst (((eX b Y).map Ze).map .fz)]++[.lst []]):=by let(X,J,rfl):=e;show cK (vO (ds:=[bD b,.tuple (bj Y)]) (am (ou l) (am h aA)) W (BZ Z f)) (cG (ds:=[]) (ρ':=bp S) (oH aB W (YC _))) ?_;show sF (cP (iy aG)) (cP (ds:=[]) aG) (Sm λc j=>K4 Z j)
def SI(o:HS b p T)(C:SW b p.1)(K:(k:Int)<b.n)(D:Fq p.1.wt k=XF):∃d,dA [.rf 0,.fz (nd k)] T=.ok (.fz (.bool (Js b p.1 k))) d/\HS b p d:=by
 cases q:p.1.wt with
 |none=>
  let r:Js b p.1 k=XF:=by ext Js;rw[q]
  rw[r];let(X,J,l,rfl):=o;let e1:sM (jZ p.1.wt) .none=-(.bool P):=by rw[q];rfl
  show#[_,iH W (oZ (gB (nr (aV (cK (bu W) (ah aD) (bX e1)))) (gK (ah aD)))),X,J,l,W]
 |some x=>
  let(Y,g,w):=x;let v:=(C.wt Y g w q).1;let E:=v.len Z;let e1:sM (jZ p.1.wt) .none=-(.bool XF):=by rw[q];rfl
  let e2:aW (jZ p.1.wt) (.int 2)=-(t9 w):=by rw[q];show sK
  let e0:aW (jZ p.1.wt) (.int 0)=-(.tuple (bj Y)):=by rw[q];show iO
  let B:=(AF λc n h=>(v.tp c n h).1).2;cases w with
  |some M=>
   let r:Js b p.1 k=XF:=by ext Js;rw[q]
   rw[r];let(X,J,l,rfl):=o;show#[_,iH W (oZ (gB (jv (aV (cK (bu W) (ah aD) (bX e1))) (nr (aV (cK (bB (bu W) (ah aD) e2) (ah aD) (bX B))))) (gK (ah aD)))),X,J,l,W]
  |none=>
   let r:Js b p.1 k=(decide (qp p.1.ac p.1.oc=0)&& !(eX b (Y++[k])).isEmpty):=by ext Js;rw[q]
   rw[r];let(j,G,m):=on o;let f:(zb (aZ (jT sM (aK "Hand" "waiting" (aq 0)) (ae (pC .none)))) (zb (aZ (jT rd (eD (aK "Hand" "waiting" (aq 0)) (ae (~~~2))) (ae (pC (.tuple [(.str "chord")]))))) (aZ (jT rd (iZ dY 1 (ai (aM "Hand" "stands" bz 1 (aq 0) aw) aw)) (ae (~~~0)))))) [cL (.rf 0),-(nd k)] T=.ok (!decide (qp p.1.ac p.1.oc=0)) j:=by
    let H:aZ (jT rd (iZ dY 1 (ai (aM "Hand" "stands" bz 1 (aq 0) aw) aw)) (ae (~~~0))) [cL (.rf 0),-(nd k)] T=.ok (!decide (qp p.1.ac p.1.oc=0)) j:=
     aV (cK (AQ (am (bE o (by rfl) W aA W G) aA) W (xt p.1)) (ah aD) (bX (vU _ _)))
    let(X,J,l,rfl):=o;show jv (aV (cK (bu W) (ah aD) (bX e1))) (jv (aV (cK (bB (bu W) (ah aD) e2) (ah aD) (bX B))) H)
   by_cases A:qp p.1.ac p.1.oc=0
   .rw[a4 A]at f⊢
    let(X,J,l,rfl):=m;let u:k∉Y:=by rw[q]at D;show of_decide_eq_false D
    let t:(Y++[k]).Nodup:=by rw[aai];show#[v.nd,Zd.mpr #[Y9,abH],λx z y I e=>u (by simp_all)]
    let F:(Y++[k]).length<=5:=zD t λx z=>by
     let L:=Z.n5;rcases YF.mp z with h|h
     .let:=v.kn x h;ext
     .rw[Yj.mp h];ext
    show#[_,iH W (cx (iz f gQ) (gK (Be Z #[X,J,W] W F (cK (bB (bu W) (ah aD) e0) (ah (fW (aj (ag W) aB) W (XQ W))) (bX (C0 v.ne E)))))),X,_,l,W]
   .rw[a5 A]at f⊢;show#[j,iH W (oZ (gB f (gK (ah aD)))),m]
end
section
variable{b:Bd}(Z:VB b){s:ZG}{sn:Sn}{ps:bg (Nat×Mn)}{J:aN}{ρ:aR}{i:Nat}{ω:aN}{p:ZG×Sn}{k:Nat}{a:Mn}{ks:bg Nat}{g:Int}{w:b3 (Nat×Int)}
include Z
def QQ(v:WV b p.1.ac ks g w)(c:k∉ks)(m:(k:Int)<b.n):(ks++[k]).Nodup/\(ks++[k]).length<=5:=by
 let f:(ks++[k]).Nodup:=by rw[aai];show#[v.nd,Zd.mpr #[Y9,abH],λx j y l e=>c (by simp_all)]
 show#[f,zD f λx j=>?_];let o:=Z.n5;rcases YF.mp j with h|h
 .let:=v.kn x h;ext
 .rw[Yj.mp h];ext
def zx(o:SW b p.1)(m:(k:Int)<b.n)(C:p.1.ac k=R)(d:Fq p.1.wt k=XF)(hm:Js b p.1 k=P):∃ks g,p.1.wt=M (ks,g,R)/\k∉ks/\WV b p.1.ac (ks++[k]) g R/\g<b.wt:=by
 unfold Js at hm;split at hm
 .rename_i ks g q
  rw[Xy]at hm;let(v,t):=o.wt ks g R q;let f:k∉ks:=by rw[q]at d;show of_decide_eq_false d
  let(l,A):=QQ Z v f m;show#[ks,g,q,f,#[by simp,l,λx e=>?_,λx e=>?_,v.g0,λc n h=>(by ext h),λ_ x e=>?_],t]
  .rcases YF.mp e with h|h
   .show v.kn x h
   .rw[Yj.mp h];show m
  .rcases YF.mp e with h|h
   .show v.kf x h
   .rw[Yj.mp h];show C
  .let j:=hm.2
   cases B:eX b (ks++[k])with
   |nil=>rw[B]at j;ext j
   |cons c r=>
    let u:c∈eX b (ks++[k]):=by rw[B];show X0
    let(z,y):=Zt.mp u;let:=YY.mp y x e;show(Z.vc c z).2.2.1 x (a6 this)
 .ext hm
def Kl(y:HS b p ω)(l:SW b p.1)(h:p.1.wt=M (ks,g,R))(v:WV b p.1.ac (ks++[k]) g R)(j:WV b p.1.ac ks g R)(z:p.2.length<900):∃d,cV [.rf 0,.fz (nd k)] ω=.ok (.fz .none) d/\HS b (vg b p k) d:=by
 let(ps,J,m,rfl):=y;let r:=v.len Z;let e0:aW (jZ p.1.wt) (.int 0)=-(.tuple (bj ks)):=by rw[h];show iO
 let e1:aW (jZ p.1.wt) (.int 1)=-(.int g):=by rw[h];show kJ
 let E:vg b p k=if(eX b (ks++[k])).map (·.1.length)=[(ks++[k]).length]then dj b ({p.1 with wt:=M (ks++[k],g,R)},p.2)else({p.1 with wt:=M (ks++[k],g,R)},p.2):=by ext vg;rw[h]
 let u:HS b ({p.1 with wt:=M (ks++[k],g,R)},p.2) (cW b {p.1 with wt:=M (ks++[k],g,R)} p.2 ps J):=#[ps,J,m,W];let F:bL (b7 0) b6 (ae (eE cA {aH aW (aa 0) (~~~0)})) ((eX b (ks++[k])).map Ze) [R] (cW b {p.1 with wt:=M (ks++[k],g,R)} p.2 ps (J++[.dead])) []=.ok ((bj ((eX b (ks++[k])).map (·.1.length))).map .fz) (cW b {p.1 with wt:=M (ks++[k],g,R)} p.2 ps (J++[.dead])):=by
  show(ib Ze (λc=>.fz (nd c.1.length)) _ (λρ=>∃o,ρ=[o]) (eX b (ks++[k])) _ [] #[R,W] ?_ ?_).trans (by ext bj;rw[Yg,Yg];rfl)
  .let:=abz (λc:G Nat×Nat=>(ks++[k]).all λk=>decide (k∈c.1)) b.cs;let:=Z.c4;show 0+(eX b (ks++[k])).length<=_;ext eX;ext
  .rintro c _ ρ ⟨o,rfl⟩;let t:aW (Ze c) (.int 0)=-(.tuple (bj c.1)):=iO;show#[[-(Ze c)],W,W,ah (cX (aj (aF (ag W) aD W W t) aB) W ((ku _).trans (by rw[gp]))),_,W]
 let C:ez (iZ bx 2 (ai (aK "Hand" "bed" (aq 0)) (ai (ae (aa 2)) aw))) [M (.rf 0),-(nd k),-(.tuple (bj (ks++[k])))] (cW b {p.1 with wt:=M (ks++[k],g,R)} p.2 ps J)=.ok ((eX b (ks++[k])).map Ze) (cW b {p.1 with wt:=M (ks++[k],g,R)} p.2 ps (J++[.dead])):=
  (Fy (vO (am (ou W) (am (ah (ag W)) aA)) W (BZ Z r)) aG).trans (by rw[c8];rfl)
 let rt:ci {eE cA {aa 2}} (bp [M (.rf 0),-(nd k),-(.tuple (bj (ks++[k])))])=.ok (.ow (bj [(ks++[k]).length]),bp [M (.rf 0),-(nd k),-(.tuple (bj (ks++[k])))]):=by show oH (aj (cX (aj (ag W) aB) W ((ku _).trans (by rw[gp]))) aB) W (XQ W)
 let f:aZ (jT dh (dD 1 [] (ez (iZ bx 2 (ai (aK "Hand" "bed" (aq 0)) (ai (ae (aa 2)) aw)))) (b7 0) b6 (ae (eE cA {aH aW (aa 0) (~~~0)}))) (ae (ci {eE cA {aa 2}}))) [M (.rf 0),-(nd k),-(.tuple (bj (ks++[k])))] (cW b {p.1 with wt:=M (ks++[k],g,R)} p.2 ps J)=.ok (decide ((eX b (ks++[k])).map (·.1.length)=[(ks++[k]).length])) (cW b {p.1 with wt:=M (ks++[k],g,R)} p.2 ps (J++[.dead])++[.lst ((bj ((eX b (ks++[k])).map (·.1.length))).map .fz)]++[.lst ((bj [(ks++[k]).length]).map .fz)]):=
  aV (cK (gU C F) (cG rt) (sF (cP (iy aG)) (cP aG) (wa _ _)))
 let e:HS b ({p.1 with wt:=M (ks++[k],g,R)},p.2) (cW b {p.1 with wt:=M (ks++[k],g,R)} p.2 ps (J++[.dead])++[.lst ((bj ((eX b (ks++[k])).map (·.1.length))).map .fz)]++[.lst ((bj [(ks++[k]).length]).map .fz)]):=#[ps,_,m,W];generalize (cW b {p.1 with wt:=M (ks++[k],g,R)} p.2 ps (J++[.dead])++[.lst ((bj ((eX b (ks++[k])).map (·.1.length))).map .fz)]++[.lst ((bj [(ks++[k]).length]).map .fz)]:aN)=L at f e;rw[E];show iq W (gF (cK (bB (bu W) (ah aD) e0) (ah (fW (aj (ag W) aB) W (XQ W))) (bX (C0 j.ne (j.len Z)))) W (Bp (kW (M (ks++[k],g,R)) W (oA (am (ah (ag W)) (am (bB (bu W) (ah aD) e1) (am (ah aD) aA))) (XQ W))) (yL f (λq=>?_) λq=>?_)))
 .rw[ax (a6 q)];let(n,B,A):=lG Z e #[l.sa.ac,l.sa.oc] W v z;show iT (bE e (by rfl) W aA W B) #[W,A]
 .rw[aE (of_decide_eq_false q)];show lu #[W,e]
def MW(f:SW b p.1)(h:p.1.wt=M (ks,g,R))(v:WV b p.1.ac (ks++[k]) g R)(j:g<b.wt):SW b (vg b p k).1:=by
 let l:vg b p k=if(eX b (ks++[k])).map (·.1.length)=[(ks++[k]).length]then dj b ({p.1 with wt:=M (ks++[k],g,R)},p.2)else({p.1 with wt:=M (ks++[k],g,R)},p.2):=by ext vg;rw[h]
 rw[l];split
 .show(jn Z (p:=({p.1 with wt:=M (ks++[k],g,R)},p.2)) #[f.sa.ac,f.sa.oc] λ_ _ _ e=>by ext e;show v).1
 .show#[#[f.sa.ac,f.sa.oc],λ_ _ _ e=>by ext e;show#[v,j]]
omit Z in
theorem Cv(s:ZG)(m:Mn):(gG s m).ac=s.ac/\(gG s m).wt=s.wt:=by unfold gG;split<;>exact⟨rfl,rfl⟩
omit Z in
theorem BT{m:Mn}(h:SA b s):SA b (gG s m):=by
 unfold gG;split
 .exact h
 .exact⟨h.ac,λo e=>by cases e⟩
def Sy(E:HS b p ω)(Q:SA b p.1)(hw:p.1.wt=Ld)(T:(k:Int)<b.n)(V:p.2.length<900):∃D,fy [.rf 0,.fz (nd k)] ω=.ok (.fz .none) D/\HS b (JW b p k) D:=by
 let(P,O):=zK Z Q;let H:=MF Z P O T;let(v,R):=vQ Z P O T;let(ω1,h1,K):=on E;let h5:=Z.n5;let eb:JW b p k=y0 b (qp p.1.ac p.1.oc) (gG p.1 (look b (qp p.1.ac p.1.oc) k),p.2) k (look b (qp p.1.ac p.1.oc) k):=W;rw[eb];let S:iZ dY 1 (ai (aM "Hand" "stands" bz 1 (aq 0) aw) aw) [cL (.rf 0),-(nd k),Ld,Ld,Ld] ω=.ok (.fz (.int (qp p.1.ac p.1.oc))) ω1:=AQ (am (bE E (by rfl) W aA W h1) aA) W (xt p.1);generalize qp p.1.ac p.1.oc=L at H v R S P O;generalize look b L k=m at H v R;let(ps,J,hp,rfl):=K;let lb:=v.lb;let c0:=pJ m;let c1:=Uv m;let c2:=QR m;let c3:=kX m;let c4:=Lg m;let eL:dh (.int L) (.int 0)=-(.bool (decide (L=0))):=jD _ _;let A:(aC (ce (bS (aJ (aH xk (aa 4) (b5 {pC (.str "layer"),pC (.str "once")})))) (dS "Hand" "once" (aq 0) (ae (pC .none))) cF) cF) [cL (.rf 0),-(nd k),-(.int L),-(mD m),-(.str (wd m))] (cW b p.1 p.2 ps J)=.ok (.nx [cL (.rf 0),-(nd k),-(.int L),-(mD m),-(.str (wd m))]) (cW b (gG p.1 m) p.2 ps J):=by
  let t:bS (aJ (aH xk (aa 4) (b5 {pC (.str "layer"),pC (.str "once")}))) [cL (.rf 0),-(nd k),-(.int L),-(mD m),-(.str (wd m))] (cW b p.1 p.2 ps J)=.ok (!(m.ae4||m.isO)) (cW b p.1 p.2 ps J):=bM (by ext:0);ext gG;cases q:(m.ae4||m.isO)with
  |true=>rw[q]at t;rw[ax W];show cx (iz t gQ) gQ
  |false=>rw[q]at t;rw[aE X9];show cx (gB t (CZ Ld W (ah aD))) gQ
 let U:=Cv p.1 m;let G:SA b (gG p.1 m):=BT Q;let j:ps.Perm (hW (gG p.1 m).ac):=by simp_all
 let e:HS b (gG p.1 m,p.2) (cW b (gG p.1 m) p.2 ps J):=#[ps,J,j,W];generalize gG p.1 m=s2 at A U G j e;let N:GoS ((ce (bS (aJ (aH dh (aa 4) (pC (.str "tap"))))) (dS "Hand" "waiting" (aq 0) (ae (b5 {b5 {aa 1},~~~0,aa 3}))) (ce (mv (bS (aJ (aH dh (aa 4) (pC (.str "letter"))))) (mv (bS (aJ (aH dh (aa 2) (~~~0)))) (aZ (jT rd (iZ bx 2 (ai (aK "Hand" "bed" (aq 0)) (ai (ae (b5 {aa 1})) aw))) (ae (ci ar)))))) (dS "Hand" "waiting" (aq 0) (ae (b5 {b5 {aa 1},~~~0,pC (.tuple [(.str "chord")])}))) (ce (bS (aJ (aH dh (aa 4) (pC (.str "once"))))) (aC (bh (aM "Hand" "come" bq 3 (aq 0) (ai (ae (aa 1)) (ai (ae (pC (.tuple [(.str "none")]))) aw))))
 (dS "Hand" "once" (aq 0) (ae (aH aW (aa 3) (~~~1))))) (bh (aM "Hand" "come" bq 3 (aq 0) (ai (ae (aa 1)) (ai (ae (aa 3)) aw))))))) [cL (.rf 0),-(nd k),-(.int L),-(mD m),-(.str (wd m))] (cW b s2 p.2 ps J)) (λ_ D=>SV.fz .none=.fz .none/\HS b (y0 b L (s2,p.2) k m) D) (λ_ _=>False) (λr D=>r=.fz .none/\HS b (y0 b L (s2,p.2) k m) D):=by
  let z:∀{ω:aN},bS (aJ (aH dh (aa 4) (pC (.str "tap")))) [cL (.rf 0),-(nd k),-(.int L),-(mD m),-(.str (wd m))] ω=.ok m.isT ω:=bM (by ext:0);let C:∀{ω:aN},bS (aJ (aH dh (aa 4) (pC (.str "letter")))) [cL (.rf 0),-(nd k),-(.int L),-(mD m),-(.str (wd m))] ω=.ok m.isL ω:=bM (by ext:0);let B:∀{ω:aN},bS (aJ (aH dh (aa 4) (pC (.str "once")))) [cL (.rf 0),-(nd k),-(.int L),-(mD m),-(.str (wd m))] ω=.ok m.isO ω:=bM (by ext:0);let F:∀{ω:aN},bS (aJ (aH dh (aa 2) (~~~0))) [cL (.rf 0),-(nd k),-(.int L),-(mD m),-(.str (wd m))] ω=.ok (decide (L=0)) ω:=bM (by ext:0);let kt:∀{ω:aN},ae (b5 {aa 1}) [cL (.rf 0),-(nd k),-(.int L),-(mD m),-(.str (wd m))] ω=.ok (.fz (.tuple (bj [k]))) ω:=ah (fW (aj (ag W) aB) W (XQ W));let cm:∀{ω:aN},HS b (s2,p.2) ω->VA b.ls.length m->∃D,bh (aM "Hand" "come" bq 3 (aq 0) (ai (ae (aa 1)) (ai (ae (aa 3)) aw))) [cL (.rf 0),-(nd k),-(.int L),-(mD m),-(.str (wd m))] ω=.ok (.nx [cL (.rf 0),-(nd k),-(.int L),-(mD m),-(.str (wd m))]) D/\HS b (gI (s2,p.2) k m) D:=λ{ω} E va=>by let(D,u,l):=rh (k:=k) E (G.ak Z) va.lb () (show p.2.length<1000 by ext);show#[D,hJ (bE E (by rfl) W (am (ah (ag W)) (am (ah (ag W)) aA)) W u),l]
  cases m with
  |below=>simp_all
  |tap c n=>show tR z (nG (kW (cL ([k],0,cL (c,n))) W (ah (ρ':=bp [cL (.rf 0),-(nd k),-(.int L),-(mD (.tap c n)),-(.str (wd (.tap c n)))]) ?_)) #[W,ps,J,j,W]);rfl
  |Yu c=>
   obtain⟨d1,d2⟩:VA b.ls.length (.Yu c)/\True:=#[v,trivial];by_cases M:L=0
   .rw[a4 M]at F
    let ov:=Be Z (ω1:=cW b s2 p.2 ps J) #[ps,J,W] W (XQ W) kt;let I:HS b (s2,p.2) (cW b s2 p.2 ps J++[.lst (((eX b [k]).map Ze).map .fz)]++[.lst []]):=#[ps,_,j,W];let y:y0 b L (s2,p.2) k (.Yu c)=if(!(eX b [k]).isEmpty)=XA then({s2 with wt:=cL ([k],0,Ld)},p.2)else gI (s2,p.2) k (.Yu c):=by show(if(decide (L=0)&& !(eX b [k]).isEmpty)=XA then _ else _)=_;rw[a4 M,aa7]
    rw[y];show dW z (yL (ju C (ju F (aV ov))) (λq=>?_) λq=>?_)
    .rw[ax q];show nG (kW (cL ([k],0,Ld)) W (ah (ρ':=bp [cL (.rf 0),-(nd k),-(.int L),-(mD (.Yu c)),-(.str (wd (.Yu c)))]) ?_)) #[W,ps,_,j,W];rfl
    .rw[aE (by rw[q];simp)];let(D,u,l):=cm I v;show dW B (nG u #[W,l])
   .rw[a5 M]at F
    let y:y0 b L (s2,p.2) k (.Yu c)=gI (s2,p.2) k (.Yu c):=by show(if(decide (L=0)&& !(eX b [k]).isEmpty)=XA then _ else _)=_;simp_all
    rw[y];let(D,u,l):=cm e v;show dW z (dW (ju C (ic F)) (dW B (nG u #[W,l])))
  |ZQ n=>let(D,u,l):=cm e v;show dW z (dW (ic C) (dW B (nG u #[W,l])))
  |none=>let(D,u,l):=cm e trivial;show dW z (dW (ic C) (dW B (nG u #[W,l])))
  |once n=>let(D,u,l):=rh (k:=k) (a:=.none) e (G.ak Z) trivial () (show p.2.length<1000 by ext);let i1:aW (mD (.once n)) (.int 1)=-(.int n):=kJ;let(Y,J2,hq,rfl):=l;show dW z (dW (ic C) (tR B (Bp (hJ (bE e (by rfl) W (am (ah (ag W)) (am (ah aD) aA)) W u)) (nG (CZ (cL n) W (ah (ρ':=bp [cL (.rf 0),-(nd k),-(.int L),-(mD (.once n)),-(.str (wd (.once n)))]) ?_)) #[W,Y,J2,hq,W]))));rfl
 show iq (ρ:=[cL (.rf 0),-(nd k),Ld,Ld,Ld]) W (gF S W (gF (AQ (ds:=[bD b,.int L,nd k]) (am (ou W) (am (ah (ag W)) (am (ah (ag W)) aA))) W H) W (gF (ah (d:=.str (wd m)) (ρ':=bp [cL (.rf 0),-(nd k),-(.int L),-(mD m),Ld]) (aF (rv:=.fz (.str (wd m))) (ag W) aD W W c0)) W ?_)));show .eq ?_ N;let X:∀{f g:dU} {ρ:aR} {ω D:aN},aC f cF ρ ω=.ok (.nx ρ) D->aC f g ρ ω=g ρ D:=λ{f g ρ ω D} h=>by
  unfold aC at h⊢;cases q:f ρ ω with
  |bad=>rw[q]at h;ext h
  |er x o=>rw[q]at h;ext h
  |ok fl o=>
   rw[q]at h;cases fl with
   |nx r=>ext h;rfl
   |_=>ext h
 show X A
end
section
variable{b:Bd}(Z:VB b){s:ZG}{sn:Sn}{T:bg (Nat×Mn)}{J:aN}{ρ:aR}{i:Nat}{Y:aN}{p:ZG×Sn}{k:Nat}{a:Mn}{X:bg Nat}{g:Int}{w:b3 (Nat×Int)}
include Z
omit Z in
theorem BX(h:SA b s)(f:s.wt=Ld):SW b s:=⟨h,λ_ _ _ e=>by rw[f]at e;cases e⟩
def Rt(y:SA b p.1)(K:p.1.wt=Ld)(E:(k:Int)<b.n)(d:p.1.ac k=Ld):SW b (JW b p k).1:=by
 let(G,F):=zK Z y;let(f,z):=vQ Z G F E;let N:JW b p k=y0 b (qp p.1.ac p.1.oc) (gG p.1 (look b (qp p.1.ac p.1.oc) k),p.2) k (look b (qp p.1.ac p.1.oc) k):=W;rw[N];generalize qp p.1.ac p.1.oc=L at f z G F;generalize look b L k=m at f z;let v:=Cv p.1 m;let j:SA b (gG p.1 m):=BT y;let l:=v.2.trans K;let u:(gG p.1 m).ac k=Ld:=by rw[v.1];show d
 generalize gG p.1 m=s2 at j l u;let R:=Z.w1;let A:[k].Nodup:=Zd.mpr #[Y9,abH];let B:∀x∈[k],(x:Int)<b.n:=λx t=>by simp_all
 let C:∀x∈[k],s2.ac x=Ld:=λx t=>by simp_all
 let cm:∀m,VA b.ls.length m->SW b (gI (s2,p.2) k m).1:=λm H=>BX (j.cm E H) l;cases m with
 |below=>simp_all
 |tap c n=>show#[#[j.ac,j.oc],λ_ _ _ e=>?_];ext e;show#[#[by simp,A,B,C,aa8 _,λQ I e=>by ext e;show#[f.1,f.2,W],λe=>by ext e],by ext]
 |Yu c=>
  show SW b (if(decide (L=0)&& !(eX b [k]).isEmpty)=XA then({s2 with wt:=cL ([k],0,Ld)},p.2)else gI (s2,p.2) k (.Yu c)).1;split
  .rename_i q
   show#[#[j.ac,j.oc],λ_ _ _ e=>?_];ext e;show#[#[by simp,A,B,C,aa8 _,λQ I e=>(by ext e),λ_ x t=>?_],by ext];let S:=(Xy _ _▸q:_/\_).2;cases qo:eX b [k]with
   |nil=>simp_all
   |cons c r=>
    let M:c∈eX b [k]:=by simp_all
    let(P,O):=Zt.mp M;show(Z.vc c P).2.2.1 x (a6 (YY.mp O x t))
  .show cm _ f
 |ZQ n=>show cm _ f
 |none=>show cm _ trivial
 |once n=>let h:=cm .none trivial;show#[#[h.sa.ac,λo e=>by ext e;show f],λX g w e=>by let e:s2.wt=cL (X,g,w):=e;simp_all]
theorem SW.wd(h:SW b s):WD b s:=λX g w e=>(h.wt X g w e).1
omit Z in
theorem zd(e:bg (Nat×Mn)):∀{p:ZG×Sn},p.1.ac k=Ld->k∉e.map (·.1)->(kA p e).1.ac k=Ld:=by
 induction e with
 |nil=>exact λh _=>h
 |cons q r f=>intro p h hn;rw[X5,Yi,not_or]at hn;exact f (p:=gI p q.1 q.2) ((gH hn.1).trans h) hn.2
omit Z in
theorem zn(ha:p.1.ac k=Ld)(hn:Fq p.1.wt k=XF):(dj b p).1.ac k=Ld:=by
 unfold dj;split
 .exact ha
 .rename_i X g w q;refine zd _ (p:=({p.1 with wt:=Ld},p.2)) ha λz=>?_;rw[q]at hn;obtain⟨x,e,rfl⟩:=Yr.mp z;exact of_decide_eq_false hn (aaB e).1
def Fv(e:SW b p.1)(f:(k:Int)<b.n):SW b (mY b p k).1:=by
 ext mY;split
 .show e
 .rename_i q
  rw[YW,not_or]at q;let l:p.1.ac k=R:=by simp_all
  let j:Fq p.1.wt k=XF:=by simp_all
  split
  .rename_i h;let(X,g,e1,e2,e3,e4):=zx Z e f l j h;show MW Z e e1 e3 e4
  .let d:=jn Z e.sa (SW.wd Z e);show Rt Z d.1.sa d.2.1 f (zn l j)
def GK(l:HS b p Y)(j:SW b p.1)(A:(k:Int)<b.n)(N:p.2.length<800):∃c,g7 [.rf 0,.fz (nd k)] Y=.ok (.fz .none) c/\HS b (mY b p k) c:=by
 let O:=Z.n5;let z:k<5:=by ext
 let M:zb (aZ (ue XF (ae (aa 1)) (aK "Hand" "acts" (aq 0)))) (aZ (aM "Hand" "is_waiting" bV 2 (aq 0) (ai (ae (aa 1)) aw))) [cL (.rf 0),-(nd k)] Y=.ok ((p.1.ac k).isSome||Fq p.1.wt k) Y:=by
  let I:=bE (ρ:=[cL (.rf 0),-(nd k)]) (i:=0) (m:= "is_waiting") (fa:=ai (ae (aa 1)) aw) l (by rfl) W (am (ah (ag W)) aA) W (IJ l);let(T,J,y,rfl):=l
  let t:ue XF (ae (aa 1)) (aK "Hand" "acts" (aq 0)) [cL (.rf 0),-(nd k)] (cW b p.1 p.2 T J)=.ok (.fz (.bool (p.1.ac k).isSome)) (cW b p.1 p.2 T J):=
   (AI (ah (ag W)) (gY W) W W).trans (by rw[show jG (T.map km) (.inl (k:Int))=_ from nJ y z];simp_all)
  cases q:(p.1.ac k).isSome with
  |true=>rw[q]at t;rw[aaf];show nr (aV t)
  |false=>rw[q]at t;rw[aa6];show jv (aV t) (aV I)
 show iq W (xi M (λq=>?_) λq=>nX ?_)
 .ext mY;rw[ax q];show wy #[W,l]
 rw[aeK]at q;let Q:p.1.ac k=R:=by simp_all
 let L:mY b p k=if Js b p.1 k=XA then vg b p k else JW b (dj b p) k:=by ext mY;simp_all
 rw[L];let(u,H,h):=SI Z l j A q.2;show xi (aV (bE l (by rfl) W (am (ah (ag W)) aA) W H)) (λo=>?_) λo=>nX ?_
 .rw[ax o];let(X,g,e1,e2,e3,e4):=zx Z j A Q q.2 o;let(e,B,f):=Kl Z h j e1 e3 (j.wt _ _ _ e1).1 ();show PY (jR (bE h (by rfl) W (am (ah (ag W)) aA) W B) (wy #[W,f]))
 .rw[aE (by rw[o];simp)]
  let d:=jn Z j.sa (SW.wd Z j);let E:∀e,HS b (dj b p) e->GoS (bh (aM "Hand" "begin" fy 2 (aq 0) (ai (ae (aa 1)) aw)) [cL (.rf 0),-(nd k)] e) (λ_ c=>SV.fz .none=.fz .none/\HS b (JW b (dj b p) k) c) (λ_ _=>False) (λr c=>r=.fz .none/\HS b (JW b (dj b p) k) c):=λe f=>by let(F,K,v):=Sy Z f d.1.sa d.2.1 A ();show iT (bE f (by rfl) W (am (ah (ag W)) aA) W K) #[W,v]
  cases n:p.1.wt with
  |none=>
   let P:dj b p=p:=by ext dj;rw[n]
   let e1:qG (jZ p.1.wt) .none=-(.bool XF):=by rw[n];rfl
   let C:=E u (by simp_all);let(T,J,y,rfl):=h;show sB (aV (cK (bu W) (ah aD) (bX e1))) (nX C)
  |some x=>
   let(X,g,w):=x;let e1:qG (jZ p.1.wt) .none=-(.bool XA):=by rw[n];rfl
   let(e,B,f):=lG Z h j.sa n (j.wt _ _ _ n).1 ();let G:=bE (ρ:=[cL (.rf 0),-(nd k)]) (i:=0) (m:= "decide") h (by rfl) W aA W B;let(T,J,y,rfl):=h;show wQ (aV (cK (bu W) (ah aD) (bX e1))) (jR G (E e f))
def oU(e:SW b p.1)(f:Fq p.1.wt k=P):SW b (dn b p k).1/\(dn b p k).2.length<=p.2.length+5:=by
 ext dn;split
 .let d:=jn Z e.sa (SW.wd Z e);simp_all
 .rename_i X g c n q
  let v:=(e.wt _ _ _ q).1;rw[q]at f;let h:=v.kn k (a6 f);let j:=(v.tp c n W).1;show#[BX (SA.cm #[e.sa.ac,e.sa.oc] h j) W,?_];let:=sA (p:=({p.1 with wt:=R},p.2)) (k:=k) (a:=.Yu c)
  grind
 simp_all
def jj(o:HS b p Y)(j:SW b p.1)(l:Fq p.1.wt k=P)(G:p.2.length<800):∃d,gx [.rf 0,.fz (nd k)] Y=.ok (.fz .none) d/\HS b (dn b p k) d:=by
 let I:=Z.n5;cases q:p.1.wt with
 |none=>rw[q]at l;ext l
 |some x=>
  let(X,g,w):=x;let v:=(j.wt _ _ _ q).1;let t:k∈X:=by rw[q]at l;show a6 l
  let e2:aW (jZ p.1.wt) (.int 2)=-(t9 w):=by rw[q];show sK
  let E:=(AF λc n h=>(v.tp c n h).1).1;let y:∀{Y:aN},bS (aJ (aH dh (aa 2) (pC (.tuple [.str "chord"])))) [M (.rf 0),-(nd k),-(t9 w)] Y=.ok w.isNone Y:=bM (bH (aF (ag W) aD W W E) W);cases w with
  |none=>
   let es:dn b p k=dj b p:=by ext dn;rw[q]
   rw[es];let(r,u,e):=lG Z o j.sa q v ();let A:=bE (ρ:=[M (.rf 0),-(nd k),-(t9 R)]) (i:=0) (m:= "decide") o (by left) W aA W u;let(T,J,z,rfl):=o;show iq W (gF (bB (bu W) (ah aD) e2) W (tR y (iT A #[W,e])))
  |some F=>
   let(c,n):=F;let es:dn b p k=gI ({p.1 with wt:=R},p.2) k (.Yu c):=by ext dn;rw[q]
   rw[es];let C:=(v.tp c n W).1;let H:=v.kn k t;let(T,J,z,rfl):=o;let f:HS b ({p.1 with wt:=R},p.2) (cW b {p.1 with wt:=R} p.2 T J):=#[T,J,z,W];let(r,u,e):=rh (k:=k) (a:=.Yu c) f (SA.ak Z #[j.sa.ac,j.sa.oc]) C () (show p.2.length<1000 by ext);let B:aW (t9 (M (c,n))) (.int 1)=-(.str (j8 c)):=kJ;show iq W (gF (bB (bu W) (ah aD) e2) W (dW y (Bp (kW R W (ah aD)) (iT (bE f (by left) W (am (ah (ag W)) (am (ah (fW (aj aD (aj (aF (ag W) aD W W B) aB)) W (XQ W))) aA)) W u) #[W,e]))))
omit Z in
theorem N3(f:SW b p.1):SW b (go p k).1:=by
 refine⟨f.sa.gg,?_⟩;unfold go;split
 .intro X g w e;obtain⟨v,j⟩:=f.wt X g w e;exact⟨⟨v.ne,v.nd,v.kn,λx h=>by
   by_cases z:x=k
   .rw[z];exact eC
   .exact(gH z).trans (v.kf x h),v.g0,v.tp,v.ch⟩,j⟩
 .exact f.wt
def KJ(e:SW b p.1):SW b (xT b p k).1:=by
 ext xT;split
 .rename_i q;show N3 (oU Z e q).1
 .show N3 e
def KQ(e:HS b p Y)(h:SW b p.1)(F:(k:Int)<b.n)(A:p.2.length<700):∃c,iW [.rf 0,.fz (nd k)] Y=.ok (.fz .none) c/\HS b (xT b p k) c:=by
 let G:=Z.n5;let j:k<5:=by ext
 let f:∀{p:ZG×Sn} {Y:aN},HS b p Y->SW b p.1->p.2.length<800->GoS (ce (aZ (ue XF (ae (aa 1)) (aK "Hand" "acts" (aq 0)))) (bh (aM "Hand" "go" jp 2 (aq 0) (ai (ae (aa 1)) aw))) cF [M (.rf 0),-(nd k)] Y) (λ_ c=>SV.fz .none=.fz .none/\HS b (go p k) c) (λ_ _=>False) (λr c=>r=.fz .none/\HS b (go p k) c):=λ{p Y} e h A=>by
  cases n:p.1.ac k with
  |none=>
   let E:go p k=p:=by ext go;rw[n]
   rw[E];let(T,J,l,rfl):=e;show dW (aV ((AI (ah (ag W)) (gY W) W W).trans (by rw[show jG (T.map km) (.inl (k:Int))=_ from nJ l j,n];rfl))) (lu #[W,T,J,l,W])
  |some a=>let(u,B,o):=UI e (h.sa.ak Z) n ();let y:=bE (ρ:=[M (.rf 0),-(nd k)]) (i:=0) (m:= "go") (fa:=ai (ae (aa 1)) aw) e (by rfl) W (am (ah (ag W)) aA) W B;let(T,J,l,rfl):=e;show tR (aV ((AI (ah (ag W)) (gY W) W W).trans (by rw[show jG (T.map km) (.inl (k:Int))=_ from nJ l j,n];rfl))) (iT y #[W,o])
 show iq W (xi (aV (bE e (by rfl) W (am (ah (ag W)) aA) W (IJ e))) (λq=>?_) λq=>?_)
 .ext xT;rw[ax q];let(v,C,t):=jj Z e h q ();let z:=oU Z h q;show jR (bE e (by rfl) W (am (ah (ag W)) aA) W C) (f t z.1 ())
 .ext xT;rw[aE (by rw[q];simp)];show nX (f e h ())
def LV(f:SW b p.1):SW b (lY b p).1:=by
 ext lY;split
 .show f
 .rename_i X g w q
  let(v,l):=f.wt X g w q;let j:WV b p.1.ac X (g+1) w:=#[v.ne,v.nd,v.kn,v.kf,by let:=v.g0;ext,v.tp,v.ch];split
  .show(jn Z (p:=({p.1 with wt:=M (X,g+1,w)},p.2)) #[f.sa.ac,f.sa.oc] λ_ _ _ e=>by simp_all).1
  .rename_i h;show#[#[f.sa.ac,f.sa.oc],λ_ _ _ e=>by ext e;show#[j,by ext]]
def Ni(o:HS b p Y)(f:SW b p.1)(t:p.2.length<800):∃c,fK [.rf 0] Y=.ok (.fz .none) c/\HS b (lY b p) c:=by
 let(T,J,l,rfl):=o;cases q:p.1.wt with
 |none=>
  let j:lY b p=p:=by ext lY;rw[q]
  rw[j];let e1:sM (jZ p.1.wt) .none=-(.bool P):=by rw[q];rfl
  show iq W (wQ (aV (cK (bu W) (ah aD) (bX e1))) (wy #[W,T,J,l,W]))
 |some x=>
  let(X,g,w):=x;let v:=(f.wt _ _ _ q).1;let n:WV b p.1.ac X (g+1) w:=#[v.ne,v.nd,v.kn,v.kf,by let:=v.g0;ext,v.tp,v.ch];let j:lY b p=if g+1=b.wt then dj b ({p.1 with wt:=M (X,g+1,w)},p.2)else({p.1 with wt:=M (X,g+1,w)},p.2):=by ext lY;rw[q]
  rw[j];let e1:sM (jZ p.1.wt) .none=-(.bool XF):=by rw[q];rfl
  let e0:aW (jZ p.1.wt) (.int 0)=-(.tuple (bj X)):=by rw[q];show iO
  let e2:aW (jZ p.1.wt) (.int 2)=-(t9 w):=by rw[q];show sK
  let e3:aW (jZ p.1.wt) (.int 1)=-(.int g):=by rw[q];show kJ
  let e4:aW (bD b) (.int 3)=-(.int b.wt):=Ew W;let e:HS b ({p.1 with wt:=M (X,g+1,w)},p.2) (cW b {p.1 with wt:=M (X,g+1,w)} p.2 T J):=#[T,J,l,W];show iq W (sB (aV (cK (bu W) (ah aD) (bX e1))) (nX (gF (cK (bB (bu W) (ah aD) e3) (ah aD) (bX (gD _ _))) W (Bp (kW (M (X,g+1,w)) W (oA (am (bB (bu W) (ah aD) e0) (am (ah (ag W)) (am (bB (bu W) (ah aD) e2) aA))) (XQ W))) (yL (aV (cK (ah (ag W)) (bB (ou W) (ah aD) e4) (bX (jD _ _)))) (λz=>?_) λz=>?_)))))
  .rw[ax (a6 z)];let(m,r,h):=lG Z e #[f.sa.ac,f.sa.oc] W n (show p.2.length<900 by ext);show iT (bE e (by rfl) W aA W r) #[W,h]
  .rw[aE (of_decide_eq_false z)];show lu #[W,e]
def Evn.afH:Evn->Bool
 |.turn=>P
 |_=>XF
def Evn.isDown:Evn->Bool
 |.down _=>P
 |_=>XF
def EV(b:Bd):Evn->Prop
 |.down k=>(k:Int)<b.n
 |.up k=>(k:Int)<b.n
 |.turn=>True
def g8(f:SW b s)(h:EV b e):SW b (ay b s e).1:=by
 cases e with
 |down k=>show Fv Z f h
 |up k=>show KJ Z f
 |turn=>show LV Z f
omit Z in
theorem uW:∀l:bg (Nat×Mn),au sT (l.map pD)=cL (l.map km)
 |[]=>rfl
 |q::r=>by rw[X5];unfold au;rw[uW r];rfl
omit Z in
theorem xn:∀(l acc:bg (Nat×Mn)),((acc++l).map (·.1)).Nodup->mM (acc.map km) (l.map km)=(acc++l).map km
 |[],acc,_=>by rw[Yl];rfl
 |q::r,acc,h=>by
  have hn:∀x∈acc,x.1≠q.1:=λx f e=>by rw[X2,aai]at h;exact h.2.2 _ (Yr.mpr ⟨x,f,rfl⟩) q.1 X0 e
  have e1:jU (acc.map km) (km q).1 (km q).2=(acc++[q]).map km:=by
   unfold jU;rw[aE ?_,X2]
   .rfl
   .intro z;obtain⟨o,n,m⟩:=acz.mp z;obtain⟨x,j,rfl⟩:=Yr.mp n;have:=Sum.inl.inj (a6 m);exact hn x j (by ext)
  show mM (jU (acc.map km) (km q).1 (km q).2) (r.map km)=_;rw[e1,xn r (acc++[q]) (by rw[Yb];exact h),Yb];rfl
omit Z in
theorem M9:dG [.rf 0,.fz (bD b),.fz (b9 s)] [.obj "Hand" []]=.ok (.fz .none) (cW b s [] (hW s.ac) []):=by
 have e0:aW (b9 s) (.int 0)=-(.tuple ((hW s.ac).map pD)):=iO;have e1:aW (b9 s) (.int 1)=-(jZ s.wt):=kJ;have e2:aW (b9 s) (.int 2)=-(ul s.oc):=sK;have v:fX "bed" (.fz (bD b)) []=([("bed",.fz (bD b))]:bg (Str×SV)):=rfl;have q:fX "acts" (.rf 1) ([("bed",.fz (bD b))]:bg (Str×SV))=([("bed",.fz (bD b)),("acts",.rf 1)]:bg (Str×SV)):=by unfold fX;rw[aE (by left)];rfl
 have o:fX "waiting" (.fz (jZ s.wt)) ([("bed",.fz (bD b)),("acts",.rf 1)]:bg (Str×SV))=([("bed",.fz (bD b)),("acts",.rf 1),("waiting",.fz (jZ s.wt))]:bg (Str×SV)):=by unfold fX;rw[aE (by left)];unfold fX;rw[aE (by left)];rfl
 have n:fX "once" (.fz (ul s.oc)) ([("bed",.fz (bD b)),("acts",.rf 1),("waiting",.fz (jZ s.wt))]:bg (Str×SV))=([("bed",.fz (bD b)),("acts",.rf 1),("waiting",.fz (jZ s.wt)),("once",.fz (ul s.oc))]:bg (Str×SV)):=by unfold fX;rw[aE (by left)];unfold fX;rw[aE (by left)];unfold fX;rw[aE (by left)];rfl
 have m:fX "sent" (.rf 2) ([("bed",.fz (bD b)),("acts",.rf 1),("waiting",.fz (jZ s.wt)),("once",.fz (ul s.oc))]:bg (Str×SV))=No b s:=by unfold fX;rw[aE (by left)];unfold fX;rw[aE (by left)];unfold fX;rw[aE (by left)];unfold fX;rw[aE (by left)];rfl
 have r:mM [] ((hW s.ac).map km)=(hW s.ac).map km:=xn (hW s.ac) [] (sV s.ac);have j:∀{x:SV} {ρ:aR} {fs:bg (Str×SV)} {Y:aN} {l:cT} {f:Str} {c:Cell} {e:aN},ρ[0]?=cL (cL (.rf 0))->l ρ Y=.ok x (.obj "Hand" fs::e)->fs.length<100->dS "Hand" f (aq 0) l ρ Y=.ok (.nx ρ) (.obj "Hand" (fX f x fs)::e):=λh u t=>(jB u (aL h) rfl t).trans rfl
 have ha:uJ (ae (aH aW (aa 2) (~~~0))) [cL (.rf 0),-(bD b),-(b9 s)] [.obj "Hand" ([("bed",.fz (bD b))]:bg (Str×SV))]=.ok (.rf 1) [.obj "Hand" ([("bed",.fz (bD b))]:bg (Str×SV)),.dct ((hW s.ac).map km)]:=
  (MB (ah (d:=.tuple ((hW s.ac).map pD)) (aF (rv:=.fz (.tuple ((hW s.ac).map pD))) (ag rfl) aD rfl rfl e0)) (uW _)).trans (by rw[r];rfl)
 refine nM (ρ:=[cL (.rf 0),-(bD b),-(b9 s)]) (ρ1:=[cL (.rf 0),-(bD b),-(b9 s)]) rfl (cx (j rfl (c:=.dead) (ah (d:=bD b) (ag rfl)) (XQ rfl)) (cx (j rfl (c:=.dead) ha (XQ rfl)) (cx (j rfl (c:=.dead) (ah (d:=jZ s.wt) (aF (rv:=.fz (jZ s.wt)) (ag rfl) aD rfl rfl e1)) (XQ rfl)) (cx (j rfl (c:=.dead) (ah (d:=ul s.oc) (aF (rv:=.fz (ul s.oc)) (ag rfl) aD rfl rfl e2)) (XQ rfl)) ?_))));rw[q,o,n];refine(j (fs:=([("bed",.fz (bD b)),("acts",.rf 1),("waiting",.fz (jZ s.wt)),("once",.fz (ul s.oc))]:bg (Str×SV))) rfl (c:=.dead) (cG (ds:=[]) (oH aB rfl (YC _))) (XQ rfl)).trans ?_;show RS.ok _ (Cell.obj "Hand" (fX "sent" (.rf 2) ([("bed",.fz (bD b)),("acts",.rf 1),("waiting",.fz (jZ s.wt)),("once",.fz (ul s.oc))]:bg (Str×SV)))::_)=_;rw[m];rfl
omit Z in
theorem KL(e:Evn):∃x:Str,aW (c9 e) (.int 0)=-(.str x)/\dh (.str x) (.str "turn")=-(.bool (e.afH))/\dh (.str x) (.str "down")=-(.bool (e.isDown)):=by
 have h:XG.strOk "down"=XA:=by left
 have j:XG.strOk "up"=XA:=by left
 have f:XG.strOk "turn"=XA:=by left
 cases e with
 |down k=>exact⟨"down",iO,BG h f (by left),Pa h⟩
 |up k=>exact⟨"up",iO,BG j f (by left),BG j h (by left)⟩
 |turn=>exact⟨"turn",iO,Pa f,BG f h (by left)⟩
def NL(q:SW b s)(y:EV b e):∃c,iA [.fz (bD b),.fz (b9 s),.fz (c9 e)] []=.ok (.tp [.rf 2,.fz (b9 (ay b s e).1)]) c/\sh c (.rf 2)=M (.list ((ay b s e).2.map iK)):=by
 let h:HS b (s,[]) (cW b s [] (hW s.ac) []):=#[hW s.ac,[],.refl _,W];let(x,u,A,z):=KL e;let o:∀{Y:aN},bS (aJ (aH dh (aH aW (aa 2) (~~~0)) (pC (.str "turn")))) [-(bD b),-(b9 s),-(c9 e),M (.rf 0)] Y=.ok (e.afH) Y:=bM (bH (aF (aF (ag W) aD W W u) aD W W A) W);let v:∀{Y:aN},bS (aJ (aH dh (aH aW (aa 2) (~~~0)) (pC (.str "down")))) [-(bD b),-(b9 s),-(c9 e),M (.rf 0)] Y=.ok (e.isDown) Y:=bM (bH (aF (aF (ag W) aD W W u) aD W W z) W);let n:∀{Y:aN},HS b (ay b s e) Y->GoS (fu (j9 (ai (aK "Hand" "sent" (aq 3)) (ai (aM "Hand" "stands" bz 1 (aq 3) aw) aw))) [-(bD b),-(b9 s),-(c9 e),M (.rf 0)] Y) (λ_ c=>SV.fz .none=.tp [.rf 2,.fz (b9 (ay b s e).1)]/\sh c (.rf 2)=M (.list ((ay b s e).2.map iK))) (λ_ _=>False) (λr c=>r=.tp [.rf 2,.fz (b9 (ay b s e).1)]/\sh c (.rf 2)=M (.list ((ay b s e).2.map iK))):=λ{Y} L=>by let(j,l,f):=on L;let m:=bE (ρ:=[-(bD b),-(b9 s),-(c9 e),M (.rf 0)]) (i:=3) (m:= "stands") L (by rfl) W aA W l;let(T,J,F,rfl):=L;let(C,G,E,rfl):=f;show JE (HI (am (vf W) (am m aA)) (XQ W) W W) #[W,cP W]
 let B:tf "Hand" dG 3 (ai (ae (aa 0)) (ai (ae (aa 1)) aw)) [-(bD b),-(b9 s),-(c9 e),R] []=.ok (.rf 0) (cW b s [] (hW s.ac) []):=Rp (am (ah (ag W)) (am (ah (ag W)) aA)) W M9;show iq W (gF B W ?_);cases e with
 |turn=>let(j,l,f):=Ni Z h q (show 0<800 by decide);show wQ o (jR (bE h (by rfl) W aA W l) (n f))
 |down k=>let(j,l,f):=GK Z h q y (show 0<800 by decide);let t:aW (c9 (.down k)) (.int 1)=-(nd k):=kJ;show sB o (wQ v (jR (bE h (by rfl) W (am (ah (aF (ag W) aD W W t)) aA) W l) (n f)))
 |up k=>let(j,l,f):=KQ Z h q y (show 0<700 by decide);let t:aW (c9 (.up k)) (.int 1)=-(nd k):=kJ;show sB o (sB v (jR (bE h (by rfl) W (am (ah (aF (ag W) aD W W t)) aA) W l) (n f)))
def OC{e:Evn}(h:SW b s)(l:EV b e):tQ iA 3 [.fz (bD b),.fz (b9 s),.fz (c9 e)] Y=.ok (.tp [.rf Y.length,.fz (b9 (ay b s e).1)]) (Y++[.lst (((ay b s e).2.map iK).map .fz)]):=by
 let(f,n,m):=NL Z h l;ext tQ;rw[ax (show([.fz (bD b),.fz (b9 s),.fz (c9 e)]:G SV).length=3 from rfl),show au xf [.fz (bD b),.fz (b9 s),.fz (c9 e)]=M [bD b,b9 s,c9 e]from rfl];dsimp only;rw[show[bD b,b9 s,c9 e].map SV.fz=[.fz (bD b),.fz (b9 s),.fz (c9 e)]from rfl,n];show(match Eu f Y.length [.rf 2,.fz (b9 (ay b s e).1)]with
  |some (o,cs,q)=>if q.Nodup then RS.ok (SV.tp o) (Y++cs.map Vc)else .bad
  |none=>.bad)=_
 let j:Eu f Y.length [.rf 2,.fz (b9 (ay b s e).1)]=M ([.rf Y.length,.fz (b9 (ay b s e).1)],[(ay b s e).2.map iK],[2]):=by ext Eu;rw[m];rfl
 rw[j];dsimp only;rw[ax ()];rfl
end
def eZ:ZG:=#[λ_=>R,R,R]
theorem qI(b:Bd):SW b eZ:=#[#[λk a e=>(by ext e),λo e=>(by ext e)],λf g w e=>(by ext e)]
theorem vZ{α:Type}{f:α->D}:∀{l:G α},(∀a∈l,XG.canLay0 (f a)=P)->XG.canLayAll0 (l.map f)=P
 |[],_=>rfl
 |a::r,h=>by show(XG.canLay0 (f a)&&XG.canLayAll0 (r.map f))=P;rw[h a X0,vZ λx b=>h x (XX _ b)];rfl
theorem lw{α:Type}{f:α->D}{n:Nat}:∀{l:G α},(∀a∈l,XG.depth (f a)<=n)->XG.depthAll (l.map f)<=n
 |[],_=>YC _
 |a::r,h=>akK.mpr #[h a X0,lw λx b=>h x (XX _ b)]
def Ju{d:D}(b:XG.canLay0 d=P)(a:XG.depth d<=64):l8 d=P:=by ext l8;simp_all
def vx{d:D}(h:l8 d=P):XG.canLay0 d=P:=by unfold l8 at h;simp_all
def oh{d:D}(h:l8 d=P):rd d d=-(.bool XF):=by ext rd;rw[h,vx h,ZK,ax W,abb d (vx h)];rfl
def KP{d:D}(h:l8 d=P):dh d d=-(.bool P):=by ext dh;rw[h,vx h,ZK,ax W,abb d (vx h)]
def aaP(sn:Sn):Prop:=∀q∈sn,q.1<26
def Mu{q:Nat×Bool}(h:q.1<26):XG.canLay0 (iK q)=P:=by show(XG.strOk (j8 q.1)&&(XG.strOk (if q.2=P then "down" else "up")&&P))=P;rw[mn h];cases q.2<;>left
theorem B5(q:Nat×Bool):XG.depth (iK q)<=1:=XQ W
section
variable{b:Bd}(Z:VB b){s:ZG}{p:ZG×Sn}{k:Nat}{a:Mn}
theorem aaP.app{x y:Sn}(f:aaP x)(e:aaP y):aaP (x++y):=λq g=>(YF.mp g).elim (f q) (e q)
def lx(h:aaP p.2)(d:LB a):aaP (gI p k a).2:=by
 show h.app λq e=>?_;cases a with
 |Yu c=>
  let e:q∈(if nv p.1.ac (.Yu c)=P then[]else[(c,P)]:Sn):=e;split at e
  .ext e
  .rw[Yj.mp e];show d
 |_=>ext e
def E6(e:G (Nat×Mn)):∀{p:ZG×Sn},aaP p.2->(∀q∈e,LB q.2)->aaP (kA p e).2:=by
 induction e with
 |nil=>show λh _=>h
 |cons q r g=>show λh f=>g (lx h (f q X0)) λx i=>f x (XX _ i)
def Ol(h:aaP p.2)(d:SA b p.1):aaP (go p k).2:=by
 ext go;split
 .rename_i a q
  let lb:=(d.ac k a q).2.lb;show h.app λx e=>?_;cases a with
  |Yu c=>
   let e:x∈(if nv (lU p.1.ac k R) (.Yu c)=P then[]else[(c,XF)]:Sn):=e;split at e
   .ext e
   .rw[Yj.mp e];show lb
  |_=>ext e
 .show h
include Z
def mW(h:aaP p.2)(i:WD b p.1):aaP (dj b p).2:=by
 ext dj;split
 .show h
 .rename_i e g w q;show E6 _ (p:=({p.1 with wt:=R},p.2)) h λx f=>(wU Z (i e g w q) x f).2.lb
def PM(h:aaP p.2)(f:SA b p.1)(i:(k:Int)<b.n):aaP (JW b p k).2:=by
 let(o,l):=zK Z f;let(e,g):=vQ Z (k:=k) o l i;let j:JW b p k=y0 b (qp p.1.ac p.1.oc) (gG p.1 (look b (qp p.1.ac p.1.oc) k),p.2) k (look b (qp p.1.ac p.1.oc) k):=W;rw[j];generalize look b (qp p.1.ac p.1.oc) k=m at e g;generalize qp p.1.ac p.1.oc=L at e;let lb:=e.lb;cases m with
 |tap c n=>show h
 |Yu c=>
  show aaP (if(decide (L=0)&& !(eX b [k]).isEmpty)=P then({gG p.1 (.Yu c)with wt:=M ([k],0,R)},p.2)else gI (gG p.1 (.Yu c),p.2) k (.Yu c)).2;split
  .show h
  .show lx (p:=(gG p.1 (.Yu c),p.2)) h lb
 |ZQ n=>show lx (p:=(gG p.1 (.ZQ n),p.2)) h lb
 |once n=>show lx (p:=(gG p.1 (.once n),p.2)) (k:=k) (a:=.none) h trivial
 |none=>show lx (p:=(gG p.1 .none,p.2)) h lb
 |below=>simp_all
def wj{e:Evn}(h:SW b s)(j:EV b e):aaP (ay b s e).2:=by
 let f:aaP []:=λq m=>by ext m
 cases e with
 |turn=>
  show aaP (lY b (s,[])).2;ext lY;split
  .show f
  .rename_i i g w q
   let v:=(h.wt i g w q).1;split
   .show mW Z (p:=({s with wt:=M (i,g+1,w)},[])) f λ_ _ _ e=>by ext e;show#[v.ne,v.nd,v.kn,v.kf,by let:=v.g0;ext,v.tp,v.ch]
   .show f
 |up k=>
  show aaP (xT b (s,[]) k).2;ext xT;split
  .rename_i q
   let z:=oU Z (p:=(s,[])) h q;show Ol ?_ z.1.sa;ext dn;split
   .show mW Z (p:=(s,[])) f (SW.wd Z h)
   .rename_i c n e;let o:c<26:=((h.wt _ _ _ e).1.tp c n W).1;show lx (p:=({s with wt:=R},[])) f o
   .show f
  .show Ol (p:=(s,[])) f h.sa
 |down k=>
  show aaP (mY b (s,[]) k).2;ext mY;split
  .show f
  .rename_i q
   rw[YW,not_or]at q;let t:s.ac k=R:=by simp_all
   let r:Fq s.wt k=XF:=by simp_all
   split
   .rename_i l
    let(i,g,e1,e2,e3,e4):=zx Z (p:=(s,[])) h j t r l;let e1:s.wt=M (i,g,R):=e1;ext vg;dsimp only;rw[e1];dsimp only;split
    .show mW Z (p:=({s with wt:=M (i++[k],g,R)},[])) f λ_ _ _ e=>by ext e;show e3
    .show f
   .let d:=jn Z (p:=(s,[])) h.sa (SW.wd Z h);show PM Z (mW Z (p:=(s,[])) f (SW.wd Z h)) d.1.sa j
end
def dg(b:Bd):ZG->G Evn->ZG×G Sn
 |s,[]=>(s,[])
 |s,e::r=>((dg b (ay b s e).1 r).1,(ay b s e).2::(dg b (ay b s e).1 r).2)
theorem xA(b:Bd):∀(xs a:G Evn) (s:ZG),dg b s (xs++a)=((dg b (dg b s xs).1 a).1,(dg b s xs).2++(dg b (dg b s xs).1 a).2)
 |[],_,_=>rfl
 |e::r,a,s=>by show((dg b (ay b s e).1 (r++a)).1,_::(dg b (ay b s e).1 (r++a)).2)=_;rw[xA b r a];rfl
theorem rR(b:Bd):∀(xs:G Evn) (s:ZG),(dg b s xs).2.length=xs.length
 |[],_=>rfl
 |e::r,s=>by show(_::(dg b (ay b s e).1 r).2).length=_;rw[XZ,rR b r,XZ]
theorem vP(b:Bd):∀(xs:G Evn) (s:ZG) (i:Nat) (e:Evn),xs[i]?=M e->(dg b s (xs.take (i+1))).1=(ay b (dg b s (xs.take i)).1 e).1/\(dg b s xs).2[i]?=M (ay b (dg b s (xs.take i)).1 e).2
 |[],_,_,_,h=>by ext h
 |x::r,s,0,e,h=>by ext h;show#[W,W]
 |x::r,s,i+1,e,h=>by let:=vP b r (ay b s x).1 i e h;show this
theorem BJ{b:Bd}(a:VB b):∀(xs:G Evn) {s:ZG},SW b s->(∀e∈xs,EV b e)->SW b (dg b s xs).1
 |[],_,h,_=>h
 |e::r,s,h,he=>BJ a r (g8 a h (he e X0)) λx f=>he x (XX _ f)
def za(b:G Sn):G D:=b.map λa=>.list (a.map iK)
def IR(a:G Sn):(za a).length=a.length:=by ext za;simp_all
end STP
namespace K43
open PySem L2 L3 STP
def iV:FS:=(bw (mL (aJ (aH Su (aa 1) (eE cA {aa 0}))) (dJ (aH aW (aa 0) (aa 1))) d7)
 (dJ (~~~0)))
def bQ:FN:=fV 2 iV
def eV:FS:=(bw (mL (Er (aJ (aH Su (aa 0) (~~~0))) (aJ (aH T9 (aa 0) (aH Gh (~~~10) (~~~18))))) (bw (pE (jP fP {aa 1}) (gN 3) (gL (aH zj (aa 0) (~~~1000)) (gN 0)))
 (dJ (aH qv (aa 0) (aa 2)))) d7)
 (bw (gL (aH gW (aH c7 (aH c7 (aH qv (aa 0) (~~~1000033)) (aH gW (~~~77) (aa 1))) (~~~5)) (aH c7 (aH gW (aa 1) (aa 1)) (~~~40009))) (gN 4))
 (dJ (aH qv (aH zj (aH qv (aH c7 (aH gW (aH qv (aa 4) (~~~998857)) (~~~30011)) (aa 1)) (~~~999983)) (~~~3)) (aa 2)))))
def aP:FN:=fV 5 eV
def gh:FS:=(dJ (aH eD (pC (.str "abz")) (eA aP 3 {aa 0,aa 1,~~~3})))
def cQ:FN:=fV 2 gh
def cZ:FS:=(bw (gL (eA aP 3 {aa 0,~~~11,~~~12}) (gN 3))
 (bw (mL (aJ (aH dh (aa 2) (~~~1))) (gL (aH aW (ci {~~~1,~~~1,~~~1,~~~8}) (eA aP 3 {aa 0,~~~12,~~~4})) (gN 3)) d7)
 (bw (gL (aH c7 (~~~1) (eA aP 3 {aa 0,~~~13,eE yt {~~~1,aH tj (aa 2) (~~~1)}})) (gN 4))
 (bw (mL (Er (aJ (aH dh (aa 3) (~~~4))) (aJ (aH dh (aa 3) (~~~5)))) (dJ (b5 {pC (.str "layer"),aa 4})) d7)
 (bw (mL (Er (aJ (aH dh (aa 3) (~~~6))) (aJ (aH dh (aa 3) (~~~7)))) (dJ (b5 {pC (.str "tap"),eA cQ 2 {aa 0,~~~14},aa 4})) d7)
 (bw (mL (aJ (aH dh (aa 3) (~~~8))) (dJ (b5 {pC (.str "none")})) d7)
 (bw (mL (aJ (aH dh (aa 3) (~~~9))) (dJ (b5 {pC (.str "once"),aa 4})) d7)
 (bw (mL (xZ (aJ (aH JV (aa 3) (~~~9))) (aJ (aH JV (aa 1) (~~~0)))) (dJ (b5 {pC (.str "below")})) d7)
 (dJ (b5 {pC (.str "letter"),eA cQ 2 {aa 0,~~~15}}))))))))))
def dX:FN:=fV 5 cZ
def dI:FS:=(bw (gL (ci ar) (gN 3))
 (bw (pE (jP fP {aH MU (~~~1) (aa 1)}) (gN 4) (bw (gL (eE d9 {de 1 [4] (jP fP {aa 1}) (gN 0) (aJ (aH dh (aH yp (aH HF (aa 1) (aa 0)) (~~~1)) (~~~1))) (aa 0)}) (gN 5))
 (bw (gL (yK (aH JV (eE cA {aa 5}) (~~~1)) (eE wF {de 1 [2] (eT (aa 5)) (gN 0) cz (aH dh (aH aW (aH aW (aa 1) (aa 0)) (~~~0)) (pC (.str "letter")))})) (gN 6))
 (mL (xZ (aJ (aa 6)) (xZ (aJ (aH Su (eE cA {aa 3}) (~~~4))) (aJ (aH dh (eA aP 3 {aa 0,aH c7 (~~~20) (aa 4),~~~3}) (~~~0))))) (nK (xu 3 (b5 {aa 5,aH eD (pC (.str "abcz")) (eA aP 3 {aa 0,aH c7 (~~~40) (aa 4),~~~4})}))) d7))))
 (dJ (eE d9 {aa 3}))))
def fZ:FN:=fV 7 dI
def fU:FS:=(bw (gL (eA bQ 2 {aa 0,aa 1}) (gN 3))
 (bw (gL (aH aW (ci (af (~~~1) {~~~2,~~~2,~~~2,~~~3})) (eA aP 3 {aa 3,~~~5,~~~5})) (gN 4))
 (bw (gL (ci ar) (gN 5))
 (bw (pE (jP fP {aa 4}) (gN 6) (bw (gL (de 1 [0,1,2,6] (jP fP {aa 2}) (gN 0) cz (eA bQ 2 {aa 1,aH c7 (aH c7 (aH c7 (aa 2) (~~~1)) (aH gW (aa 3) (aa 4))) (aa 0)})) (gN 7))
 (nK (xu 5 (eE d9 {de 1 [6,4] (eT (aa 7)) (gN 0) cz (eA dX 3 {aa 0,aa 1,aa 2})})))))
 (bw (gL (eA fZ 3 {eA bQ 2 {aa 0,aH c7 (aa 1) (~~~10)},aa 2,aH aW (aa 5) (~~~0)}) (gN 8))
 (dJ (b5 {aa 2,eE d9 {aa 5},aa 8,aH c7 (~~~1) (eA aP 3 {aa 3,~~~6,aH aW (ci {~~~4,~~~4,~~~2}) (aH tj (aa 2) (~~~1))})})))))))
def jO:FN:=fV 9 fU
def iU:FS:=(dJ (aH aW (ci {~~~1,~~~2,~~~2,~~~3}) (eA aP 3 {eA bQ 2 {aa 0,~~~0},~~~1,~~~4})))
def iS:FN:=fV 1 iU
def gA:FS:=(bw (gL (de 1 [] (jP fP {aH aW (aa 0) (~~~0)}) (gN 0) cz (b5 {pC (.str "down"),aa 0})) (gN 1))
 (bw (gL (de 1 [] (jP fP {aH aW (aa 0) (~~~0)}) (gN 0) cz (b5 {pC (.str "up"),aa 0})) (gN 2))
 (dJ (aH c7 (aH c7 (aa 1) (aa 2)) (ci {b5 {pC (.str "turn"),~~~0}})))))
def gC:FN:=fV 3 gA
def gf:FS:=(bw (gL (ci ar) (gN 1))
 (bw (pE (eT (ci {pC (.str "down"),pC (.str "up")})) (gN 2) (pE (jP fP {aH aW (aa 0) (~~~0)}) (gN 3) (nK (xu 1 (b5 {aa 2,aa 3})))))
 (dJ (aH c7 (aa 1) (ci {b5 {pC (.str "turn"),~~~0}})))))
def gl:FN:=fV 4 gf
def fH:FS:=(bw (mL (Er (Ag (aJ (tt "list" (aa 0)))) (Er (aJ (aH rd (eE cA {aa 0}) (aa 1))) (aJ (aH rd (aH aW (aa 0) (~~~0)) (~~~0))))) (dJ (pC (.bool XF))) d7)
 (dJ (eE wF {de 1 [] (eT (aa 0)) (gN 0) cz (yK (tt "int" (aa 0)) (Fj (tt "bool" (aa 0))))})))
def gR:FN:=fV 2 fH
section
open L10
def qM:dU:=(aC (bG (ae (pC (.tuple [(.tuple []),.none,.none]))) (b7 2))
 (aC (bG (ae (ci ar)) (b7 3))
 (aC (og (dR (eT (aa 1))) (b7 4) (aC (bG (hG (kK iA 3 (ai (ae (aa 0)) (ai (ae (aa 2)) (ai (ae (aa 4)) aw))))) (b7 5))
 (aC (bh (jr (aq 3) (ae (aH aW (aa 5) (~~~0)))))
 (bG (ae (aH aW (aa 5) (~~~1))) (b7 2)))))
 (fu (j9 (ai (aq 3) (ai (ae (aa 2)) aw)))))))
def qK:fq:=cy 6 qM
end
def rp:FN:=L10.Vo qK
end K43
namespace K43
open PySem L2 L3 L10 STP
def bT:dU:=(aC (ce (aZ (uo P (ae (aa 1)) (aK "Places" "numbers" (aq 0)))) (aC (ce (aZ (jT T9 (ji cA (ai (aK "Places" "found" (aq 0)) aw)) (aK "Places" "most" (aq 0)))) (nu "TooMany" "most" (aK "Places" "most" (aq 0))) cF)
 (aC (ox (aK "Places" "numbers" (aq 0)) (ae (aa 1)) (ji cA (ai (aK "Places" "found" (aq 0)) aw)))
 (bh (jr (aK "Places" "found" (aq 0)) (ae (b5 {aa 1,aa 2,aa 3})))))) cF)
 (fu (mr (aK "Places" "numbers" (aq 0)) (ae (aa 1)))))
def bF:fq:=cy 4 bT
def bC:dU:=(aC (dS "Places" "most" (aq 0) (ae (aa 2)))
 (aC (dS "Places" "found" (aq 0) (ae (ci ar)))
 (aC (dS "Places" "numbers" (aq 0) oy)
 (bh (jY "Places" "enter" bF 4 (aq 0) (ai (ae (aa 1)) (ai (ae (pC .none)) (ai (ae (pC .none)) aw))))))))
def cC:fq:=cy 3 bC
def kH:dU:=(aC (bG (hG (ae (eA gC 1 {aa 0}))) (b7 2))
 (aC (bG (pk "Places" cC 3 (ai (ae (pC (.tuple [(.tuple []),.none,.none]))) (ai (ae (aa 1)) aw))) (b7 3))
 (aC (bG (ae (ci ar)) (b7 4))
 (aC (bG (ae (ci ar)) (b7 5))
 (aC (mG (aZ (jT Su (ji cA (ai (aq 4) aw)) (ji cA (ai (aK "Places" "found" (aq 3)) aw)))) (aC (bG (ji cA (ai (aq 4) aw)) (b7 6))
 (aC (bG (eD (eD (aK "Places" "found" (aq 3)) (ae (aa 6))) (ae (~~~0))) (b7 7))
 (aC (bG (hG (dD 1 [0,7] (dR (eT (aa 2))) (b7 0) b6 (kK STP.iA 3 (ai (ae (aa 1)) (ai (ae (aa 2)) (ai (ae (aa 0)) aw)))))) (b7 8))
 (aC (bh (jr (aq 4) (ji d9 (ai (oJ 2 [3,6] (dR (tW {aa 2,aa 8})) (Ey 2 (kh (b7 0) (kh (b7 1) uf))) b6 (jY "Places" "enter" bF 4 (aq 2) (ai (ae (aH aW (aa 1) (~~~1))) (ai (ae (aa 3)) (ai (ae (aa 0)) aw))))) aw))))
 (bh (jr (aq 5) (ae (eE d9 {de 1 [] (eT (aa 8)) (gN 0) cz (eE d9 {aH aW (aa 0) (~~~0)})})))))))))
 (fu (j9 (ai (aK "Places" "found" (aq 3)) (ai (aq 4) (ai (aq 5) aw))))))))))
def iu:fq:=cy 9 kH
def mV:dU:=(fu (eD (uN iu 2 [] (ai (ae (aa 0)) (ai (ae (aa 1)) aw))) (ae (~~~0))))
def dM:fq:=cy 2 mV
def iw:dU:=(aC (bG oy (b7 1))
 (fu (dD 1 [1] (ez (aq 0)) (b7 0) b6 (uw (aq 1) (ae (aa 0)) (mi (aq 1))))))
def dB:fq:=cy 2 iw
def dQ:dU:=(aC (bG (eD (aK "Sorting" "rounds" (aq 0)) (ae (Ak nY (~~~1)))) (b7 2))
 (fu (j9 (ai (eD (aq 2) (ae (aa 1))) (ai (ji d9 (ai (dD 1 [2] (ez (eD (aK "Sorting" "steps" (aq 0)) (ae (aa 1)))) (b7 0) b6 (eD (aq 1) (ae (aa 0)))) aw)) aw)))))
def a8:fq:=cy 3 dQ
def dC:dU:=(aC (bG (hG (uN iu 2 [] (ai (ae (aa 1)) (ai (ae (aa 2)) aw)))) (b7 3))
 (aC (dS "Sorting" "steps" (aq 0) (ae (aH aW (aa 3) (~~~1))))
 (aC (dS "Sorting" "sends" (aq 0) (ae (aH aW (aa 3) (~~~2))))
 (aC (dS "Sorting" "rounds" (aq 0) (ae (ci ar)))
 (aC (bG (kG dB 1 (ai (aK "Sorting" "sends" (aq 0)) aw)) (b7 4))
 (mG (zb (aZ (jT dh (aK "Sorting" "rounds" (aq 0)) (ae (ci ar)))) (aZ (jT JV (ji gO (ai (aq 4) aw)) (ji gO (ai (eD (aK "Sorting" "rounds" (aq 0)) (ae (Ak nY (~~~1)))) aw))))) (aC (bh (jr (aK "Sorting" "rounds" (aq 0)) (aq 4)))
 (bG (kG dB 1 (ai (dD 1 [0] (jH (ji cA (ai (aK "Sorting" "steps" (aq 0)) aw))) (b7 0) b6 (aM "Sorting" "mark_of" a8 2 (aq 1) (ai (ae (aa 0)) aw))) aw)) (b7 4)))))))))
def aY:fq:=cy 5 dC
def lz:dU:=(aC (bG (pk "Sorting" aY 3 (ai (ae (aa 0)) (ai (ae (aa 1)) aw))) (b7 2))
 (aC (bG (hG (eD (aK "Sorting" "rounds" (aq 2)) (ae (Ak nY (~~~1))))) (b7 3))
 (aC (bG (hG (ae (de 1 [3] (jP fP {aH c7 (eE L10.gO {aa 3}) (~~~1)}) (gN 0) cz (L10.Dw 1 (aa 0))))) (b7 4))
 (aC (bG (ji d9 (ai (dD 1 [2,3] (dR (eT (aa 4))) (b7 0) b6 (ji d9 (ai (dD 1 [2] (ez (eD (aK "Sorting" "steps" (aq 1)) (ae (aa 0)))) (b7 0) b6 (ae (aH aW (aa 1) (aa 0)))) aw))) aw)) (b7 5))
 (fu (j9 (ai (ae (aa 5)) (ai (ji d9 (ai (dD 1 [2] (dR (eT (aa 4))) (b7 0) b6 (eD (aK "Sorting" "sends" (aq 1)) (ae (aa 0)))) aw)) aw))))))))
def jf:fq:=cy 6 lz
def nF:dU:=(fu (eD (aK "Sorting" "rounds" (pk "Sorting" aY 3 (ai (ae (aa 0)) (ai (ae (aa 1)) aw)))) (ae (Ak nY (~~~1)))))
def jh:fq:=cy 2 nF
def bN:fq
 |[.fz b],e=>(match dM [.fz b,.fz (.int 90)] e with
  |.ok x a=>.ok x a
  |.er x a=>if x.cls=("TooMany":Str)then .ok (.fz .none) a else .bad
  |_=>.bad)
 |_,_=>.bad
def AX:dU:=(aC (bG (ae (eA jO 3 {aa 0,~~~1,eA iS 1 {aa 0}})) (b7 1))
 (aC (bG (hG (ae (eA gl 1 {aa 1}))) (b7 2))
 (aC (bG (hG (kG bN 1 (ai (ae (aa 1)) aw))) (b7 3))
 (aC (ce (bS (aJ (aH sM (aa 3) (pC .none)))) (fu (ae (pC (.bool P)))) cF)
 (aC (bG (mB jf 2 [] (ai (ae (aa 1)) (ai (ae (~~~90)) aw))) (Ey 2 (kh (b7 4) (kh (b7 5) uf))))
 (aC (bG (mB jh 2 [] (ai (ae (aa 1)) (ai (ae (~~~90)) aw))) (b7 6))
 (aC (ce (tX (aZ (G5 gR 2 (ai (aq 6) (ai (ae (eE cA {aa 3})) aw))))) (fu (ae (pC (.bool XF)))) cF)
 (aC (bG oy (b7 7))
 (aC (og (dR (jP fP {eE cA {aa 3}})) (b7 8) (ox (aq 7) (ae (aH aW (aH aW (aa 3) (aa 8)) (~~~0))) (eD (aq 6) (ae (aa 8)))))
 (aC (og (dR (jP fP {eE cA {aa 3}})) (b7 8) (og (dR (jP fP {eE cA {aa 2}})) (b7 9) (aC (bG (hG (kK STP.iA 3 (ai (ae (aa 1)) (ai (ae (aH aW (aH aW (aa 3) (aa 8)) (~~~0))) (ai (ae (aH aW (aa 2) (aa 9))) aw))))) (Ey 2 (kh (b7 10) (kh (b7 11) uf))))
 (ce (zb (aZ (jT rd (eD (eD (ae (aa 5)) (eD (aq 6) (ae (aa 8)))) (ae (aa 9))) (ae (eE d9 {aa 10})))) (aZ (jT rd (eD (eD (ae (aa 4)) (eD (aq 6) (ae (aa 8)))) (ae (aa 9))) (mr (aq 7) (ae (aa 11)))))) (fu (ae (pC (.bool XF)))) cF))))
 (aC (bG (hG (ae (de 1 [2] (eT (Tb UR (aa 0) (sE (~~~12)) (sE (~~~62)))) (gN 0) cz (eA aP 3 {aa 0,~~~60,eE cA {aa 1}})))) (b7 12))
 (aC (bG (ae (~~~0)) (b7 13))
 (aC (og (dR (tW {aa 12,aH aW (eA rp 2 {aa 1,de 1 [2] (eT (aa 12)) (gN 0) cz (aH aW (aa 1) (aa 0))}) (~~~0)})) (Ey 2 (kh (b7 14) (kh (b7 10) uf))) (aC (ce (bS (aJ (aH rd (aH aW (aH aW (aa 5) (aa 13)) (aa 14)) (eE d9 {aa 10})))) (fu (ae (pC (.bool XF)))) cF)
 (bG (ae (aH aW (aH aW (aa 4) (aa 13)) (aa 14))) (b7 13))))
 (aC (bG (hG (ji qC (ai (aq 6) aw))) (b7 15))
 (aC (bh (Hr (aq 6)))
 (fu (jT dh (mB jh 2 [] (ai (ae (aa 1)) (ai (ae (~~~90)) aw))) (ae (aa 15)))))))))))))))))))
def F_law:fq:=cy 16 AX
abbrev zf(d:D):z PV:=-(d)
abbrev zo(l:G D):z PV:=M (.ow l)
def qO(ns:G Int)(k:Nat):∃c:Int,bQ [.list (ns.map .int),nd k]=.ok (.fz (.int c)):=by
 let a:cA [.list (ns.map .int)]=-(nd ns.length):=(dZ _).trans (by rw[Xz]);let lt:=pH (k:Int) (ns.length:Int);by_cases h:k<ns.length
 .rw[a4 ()]at lt;let e:aW (.list (ns.map .int)) (nd k)=-(.int ns[k]):=tV (by rw[XS,XM h];rfl);show#[ns[k],iX (ρ:=[zf (.list (ns.map .int)),zf (nd k)]) W (l7 (b:=P) (bH (aF (rv:=.fz (.bool P)) (ag W) (cX (rv:=.fz (nd ns.length)) (aj (ag W) aB) W a) W W lt) W) (λ_=>ja (pv:=.fz (.int ns[k])) (rv:=.fz (.int ns[k])) (aF (rv:=.fz (.int ns[k])) (ag W) (ag W) W W e) W W) λq=>nomatch q)]
 .rw[a5 ()]at lt;show#[0,iX (ρ:=[zf (.list (ns.map .int)),zf (nd k)]) W (l7 (b:=XF) (bH (aF (rv:=.fz (.bool XF)) (ag W) (cX (rv:=.fz (nd ns.length)) (aj (ag W) aB) W a) W W lt) W) (λq=>nomatch q) λ_=>fA (eS (pv:=.fz (.int 0)) (rv:=.fz (.int 0)) aD W W))]
abbrev ET(c:Int)(k m:Nat)(a b:z PV):aU:=[zf (.int c),zf (nd k),zf (nd m),a,b]
def gb(c:Int)(k m:Nat)(o:k<=1000)(hm:0<m):∃r:Nat,aP [.int c,nd k,nd m]=.ok (.fz (nd r))/\r<m:=by
 let a:∀x:Int,∃r:Nat,qv (.int x) (nd m)=-(nd r)/\r<m:=λx=>by let A:0<=x % (m:Int):=agH _ ();let J:x % (m:Int)<m:=afs _ ();show#[(x % (m:Int)).toNat,?_,by ext];rw[wE (),nd,abZ A]
 let g:∃L,fV 5 eV [.int c,nd k,nd m]=.ok L/\∃r:Nat,L=.fz (nd r)/\r<m:=by
  show oM (T:=λL=>∃r:Nat,L=.fz (nd r)/\r<m) (ρ:=ET c k m R R) W ?_;ext eV;let f:=Ox;show l7 (b:=decide (c<0)||decide ((10:Int)^18<=c)) (ρ1:=ET c k m R R) (wg (bH (aF (rv:=.fz (.bool (decide (c<0)))) (ag W) aD W W (pH _ _)) W) λ_=>bH (aF (rv:=.fz (.bool (decide ((10:Int)^18<=c)))) (ag W) (aF (rv:=.fz (.int ((10:Int)^18))) aD aD W W f) W W (yU _ _)) W) (λ_=>Gd ?_) (λ_=>fA ?_)
  .let B:=jA (n:=k) ()
   show wc (λ_ N=>∃(x:Int) (t:b3 PV),N=ET x k m t R) (ds:=bj (XD k)) (ρ1:=ET c k m R R) (by ext:0) #[c,R,W] ?_ ?_
   .rintro i d N S ⟨x,t,rfl⟩;let e:zj (.int x) (.int 1000)=-(.int (x/1000)):=Fm #[by decide,by decide];show#[_,W,JG (ρ2:=ET (x/1000) k m (zf d) R) (aF (rv:=.fz (.int (x/1000))) (ag W) aD W W e) W #[_,_,W]]
   .rintro N ⟨x,t,rfl⟩;let(r,l,j):=a x;show ja (pv:=.fz (nd r)) (rv:=.fz (nd r)) (ρ1:=ET x k m t R) (aF (rv:=.fz (nd r)) (ag W) (ag W) W W l) W #[r,W,j]
  .let K:0<=c % 1000033/\c % 1000033<1000033:=#[agH _ (),afs _ ()]
   let I:(k:Int)*k<=1000000:=by
    let:k*k<=1000*1000:=abN o o;let e:(k:Int)*k=((k*k:Nat):Int):=by rw[Int.natCast_mul]
    ext
   let v:0<=(k:Int)*k:=Int.mul_nonneg () ();let H:qv (.int c) (.int 1000033)=-(.int (c % 1000033)):=wE ();let G:gW (.int 77) (nd k)=-(.int (77*k)):=nU #[by ext,by ext];let F:gW (nd k) (nd k)=-(.int (k*k)):=nU #[by ext,by ext];let u:gW (.int (c % 1000033+77*k+5)) (.int (k*k+40009))=-(.int ((c % 1000033+77*k+5)*(k*k+40009))):=nU #[by ext,by ext];generalize Q:(c % 1000033+77*(k:Int)+5)*(k*k+40009)=x at u;let E:qv (.int x) (.int 998857)=-(.int (x % 998857)):=wE ();let q:gW (.int (x % 998857)) (.int 30011)=-(.int (x % 998857*30011)):=HX #[by ext,by ext];generalize x % 998857*30011=y at q;let p:qv (.int (y+k)) (.int 999983)=-(.int ((y+k) % 999983)):=wE ();generalize (y+(k:Int)) % 999983=z at p;let C:zj (.int z) (.int 3)=-(.int (z/3)):=Fm #[by ext,by ext];let(r,l,j):=a (z/3);show eU (ρ3:=ET c k m R (zf (.int x))) (by ext:0) W W ?_;show eS (pv:=.fz (nd r)) (rv:=.fz (nd r)) (ρ1:=ET c k m R (zf (.int x))) (aF (rv:=.fz (nd r)) (by ext:0) (ag W) W W l) W #[r,W,j]
 let(L,h,r,rfl,w):=g;show#[r,h,w]
def Si{z:Str}{cs:G Nat}(d:z.cps.toList=cs.map (97+·))(a:z.length<=1000000){r:Int}{c:Nat}(b:0<=r)(h:cs[r.toNat]?=M c):L3.eD (.str z) (.int r)=-(.str (j8 c)):=by show(if z.length<=1000000 then(lJ z.cps.toList r).map (λc=>RV.fz (.str #[#v[c]]))else R)=_;rw[ax a,d,vR (v:=97+c) b (by simp_all)];rfl
def E1{z:Str}(cs:G Nat)(d:z.cps.toList=cs.map (97+·))(b:z.length<=1000000)(e:∀c∈cs,c<26){r:Int}(f:0<=r)(g:r<cs.length):∃c,c<26/\L3.eD (.str z) (.int r)=-(.str (j8 c)):=by
 let a:r.toNat<cs.length:=by ext
 show#[cs[r.toNat],e _ (ZX a),Si d b f (XM a)]
def xI{n i k:Nat}(h:(XD n)[i]?=M k):k=i/\i<n:=by let(b,a):=XB.mp h;rw[afe]at a;rw[XW]at b;show#[a.symm,b]
def Kh{n a:Int}{e:G (G Mn)}{b:G Mn}(h:VL n a e)(g:(b.length:Int)=n)(f:∀m∈b,VM e.length a m):VL n a (e++[b]):=by
 intro i l j;rcases L10.bP j with o|⟨rfl,rfl⟩
 .show h i l o
 .show#[g,f]
def uz(c:Int)(k:Nat)(e:k<=1000):∃l,l<26/\cQ [.int c,nd k]=.ok (.fz (.str (j8 l))):=by let(r,er,g):=gb c k 3 e ();let a:aP [.int c,nd k,.int 3]=.ok (.fz (nd r)):=er;let(l,b,f):=E1 (z:= "abz") [0,1,25] (by left) (by left) () (show(0:Int)<=(r:Int) by ext) (show(r:Int)<3 by ext);show#[l,b,iX (ρ:=[zf (.int c),zf (nd k)]) W (eS (pv:=.fz (.str (j8 l))) (rv:=.fz (.str (j8 l))) (ρ1:=[zf (.int c),zf (nd k)]) (aF (rv:=.fz (.str (j8 l))) aD (cS (rv:=.fz (nd r)) (ds:=[.int c,nd k,.int 3]) (aj (ag W) (aj (ag W) (aj aD aB))) W W a) W W f) W W)]
def SD{a:Nat}(b:1<=a):∃M:Nat,yt [.int 1,.int ((a:Int) - 1)]=-(nd M)/\1<=M/\(1<a->M=a - 1):=by
 by_cases h:1<a
 .show#[a - 1,?_,by ext,λ_=>W];show cL (RV.fz (.int (if(1:Int)<(a:Int) - 1 then(a:Int) - 1 else 1)))=cL (RV.fz (.int ((a - 1:Nat):Int)));congr 3;split<;>ext
 .obtain rfl:a=1:=by ext
  show#[1,W,by ext,λh=>by ext]
abbrev E5(c:Int)(L e:Nat)(a b:z PV):aU:=[zf (.int c),zf (nd L),zf (nd e),a,b]
def Lo(c:Int)(L a:Nat)(n:1<=a)(I:a<=1000):∃m:Mn,VM L a m/\dX [.int c,nd L,nd a]=.ok (.fz (mD m)):=by
 let(i,e0,y):=gb c 11 12 () ();let(f,e1,v):=gb c 12 4 () ();let(M,G,M1,M2):=SD n;let(lv,e2,A):=gb c 13 M () ();let(l,C,e4):=uz c 14 ();let(j,B,e5):=uz c 15 ();let e0:aP [.int c,.int 11,.int 12]=.ok (.fz (nd i)):=e0;let e1:aP [.int c,.int 12,.int 4]=.ok (.fz (nd f)):=e1;let e2:aP [.int c,.int 13,nd M]=.ok (.fz (nd lv)):=e2;let e4:cQ [.int c,.int 14]=.ok (.fz (.str (j8 l))):=e4;let e5:cQ [.int c,.int 15]=.ok (.fz (.str (j8 j))):=e5;let o:∃J,fV 5 cZ [.int c,nd L,nd a]=.ok J/\∃m:Mn,VM L a m/\J=.fz (mD m):=by
  show oM (T:=λJ=>∃m:Mn,VM L a m/\J=.fz (mD m)) (ρ:=E5 c L a R R) W ?_;ext cZ;show eU (ρ3:=E5 c L a (zf (nd i)) R) (cS (rv:=.fz (nd i)) (ds:=[.int c,.int 11,.int 12]) (aj (ag W) (aj aD (aj aD aB))) W W e0) W W ?_;show EI (Go.imp (N:=λr=>∃w:Int,(a=1->w=1\/w=8)/\r=E5 c L a (zf (.int w)) R) (Ig (b:=decide ((a:Int)=1)) (ρ1:=E5 c L a (zf (nd i)) R) (bH (aF (rv:=.fz (.bool (decide ((a:Int)=1)))) (ag W) aD W W (jD _ _)) W) (λq=>?_) (λq=>?_)) (λr #[w,p,e]=>?_) (λ_ h=>h) (λ_ h=>h))
  .obtain⟨x,u,F⟩:∃x:Int,(x=1\/x=8)/\aW (.list [.int 1,.int 1,.int 1,.int 8]) (nd f)=-(.int x):=by
    let:f=0\/f=1\/f=2\/f=3:=by ext
    rcases this with rfl|rfl|rfl|rfl
    .show#[1,.inl W,tV W]
    .show#[1,.inl W,tV W]
    .show#[1,.inl W,tV W]
    .show#[8,.inr W,tV W]
   show JG (pv:=.fz (.int x)) (ρ2:=E5 c L a (zf (.int x)) R) (aF (rv:=.fz (.int x)) (by ext:0) (cS (rv:=.fz (nd f)) (ds:=[.int c,.int 12,.int 4]) (aj (ag W) (aj aD (aj aD aB))) W W e1) W W F) W #[x,λ_=>u,W]
  .let q:=of_decide_eq_false q;show wN #[i,λz=>by ext,W]
  subst e;show eU (ρ3:=E5 c L a (zf (.int w)) (zf (.int (1+(lv:Int))))) (aF (rv:=.fz (.int (1+(lv:Int)))) aD (cS (rv:=.fz (nd lv)) (ds:=[.int c,.int 13,nd M]) (aj (ag W) (aj aD (aj (cX (rv:=.fz (nd M)) (ds:=[.int 1,.int ((a:Int) - 1)]) (aj aD (aj (aF (rv:=.fz (.int ((a:Int) - 1))) (ag W) aD W W (tI _ _)) aB)) W G) aB))) W W e2) W W (gD _ _)) W W ?_;let g:1<a->(1:Int)<=1+(lv:Int)/\1+(lv:Int)<a:=λz=>by let:=M2 z;ext
  show l7 (b:=decide (w=4)||decide (w=5)) (ρ1:=E5 c L a (zf (.int w)) (zf (.int (1+(lv:Int))))) (by ext:0) (λq=>?_) (λ_=>fA ?_)
  .show ja (pv:=.fz (mD (.ZQ (1+(lv:Int))))) (rv:=.fz (mD (.ZQ (1+(lv:Int))))) (ρ1:=E5 c L a (zf (.int w)) (zf (.int (1+(lv:Int))))) (show _=Res.ok (PV.fz (.tuple [.str "layer",.int (1+(lv:Int))]),_) by ext:0) W #[_,?_,W];rw[YW,decide_eq_true_eq,decide_eq_true_eq]at q;show g (acf n λz=>by let:=p z.symm;ext)
  show l7 (b:=decide (w=6)||decide (w=7)) (ρ1:=E5 c L a (zf (.int w)) (zf (.int (1+(lv:Int))))) (by ext:0) (λq=>?_) (λ_=>fA ?_)
  .show ja (pv:=.fz (mD (.tap l (1+(lv:Int))))) (rv:=.fz (mD (.tap l (1+(lv:Int))))) (ρ1:=E5 c L a (zf (.int w)) (zf (.int (1+(lv:Int))))) (show _=Res.ok (PV.fz (.tuple [.str "tap",.str (j8 l),.int (1+(lv:Int))]),_) by ext:0) W #[_,?_,W];rw[YW,decide_eq_true_eq,decide_eq_true_eq]at q;show#[C,g (acf n λz=>by let:=p z.symm;ext)]
  show l7 (b:=decide (w=8)) (ρ1:=E5 c L a (zf (.int w)) (zf (.int (1+(lv:Int))))) (by ext:0) (λq=>?_) (λ_=>fA ?_)
  .show ja (pv:=.fz (mD .none)) (rv:=.fz (mD .none)) (ρ1:=E5 c L a (zf (.int w)) (zf (.int (1+(lv:Int))))) (show _=Res.ok (PV.fz (.tuple [.str "none"]),_) by ext:0) W #[.none,trivial,W]
  show l7 (b:=decide (w=9)) (ρ1:=E5 c L a (zf (.int w)) (zf (.int (1+(lv:Int))))) (by ext:0) (λq=>?_) (λ_=>fA ?_)
  .show ja (pv:=.fz (mD (.once (1+(lv:Int))))) (rv:=.fz (mD (.once (1+(lv:Int))))) (ρ1:=E5 c L a (zf (.int w)) (zf (.int (1+(lv:Int))))) (show _=Res.ok (PV.fz (.tuple [.str "once",.int (1+(lv:Int))]),_) by ext:0) W #[_,?_,W];rw[decide_eq_true_eq]at q;show g (acf n λz=>by let:=p z.symm;ext)
  let E:JV (nd L) (.int 0)=-(.bool (decide ((0:Int)<L))):=W;show l7 (b:=(decide (9<w)&&decide ((0:Int)<L))) (ρ1:=E5 c L a (zf (.int w)) (zf (.int (1+(lv:Int))))) (by ext:0) (λq=>?_) (λ_=>fA ?_)
  .rw[Xy]at q;let H:=a6 q.2;show ja (pv:=.fz (mD .below)) (rv:=.fz (mD .below)) (ρ1:=E5 c L a (zf (.int w)) (zf (.int (1+(lv:Int))))) (show _=Res.ok (PV.fz (.tuple [.str "below"]),_) by ext:0) W #[.below,by show(L:Int)≠0;ext,W]
  show eS (pv:=.fz (mD (.Yu j))) (rv:=.fz (mD (.Yu j))) (ρ1:=E5 c L a (zf (.int w)) (zf (.int (1+(lv:Int))))) (show _=Res.ok (PV.fz (.tuple [.str "letter",.str (j8 j)]),_) by ext:0) W #[.Yu j,B,W]
 let(J,h,m,t,rfl):=o;show#[m,t,h]
structure CsV(l0:G Mn)(cs:G (G Nat×Nat)):Prop where
 vc:∀c∈cs,VC l0 c
 un:cs.Pairwise λa c=>a.1≠c.1
theorem CsV.nil(l0:G Mn):CsV l0 []:=#[λc a=>(by ext a),abq]
def CsV.add(h:CsV l0 cs)(j:2<=s.length)(f:s.Pairwise (·<·))(i:∀k∈s,Ez l0 k=P)(g:l<26)(e:s∉cs.map (·.1)):CsV l0 (cs++[(s,l)]):=by
 show#[λc b=>(YF.mp b).elim (h.vc c) λz=>?_,List.pairwise_append.mpr #[h.un,List.pairwise_singleton _ _,λa m c b=>?_]]
 .rw[Yj.mp z];show#[j,f,i,g]
 .rw[Yj.mp b];show λz=>e (Yr.mpr #[a,m,z])
def Qh(a:k<l0.length):∃d,aW (ko l0) (nd k)=-(d)/\∃w,aW d (.int 0)=-(.str w)/\dh (.str w) (.str "letter")=-(.bool (Ez l0 k)):=by
 let e5:Ez l0 k=l0[k].isL:=by ext Ez;rw[XM a];rfl
 rw[e5];show#[mD l0[k],Ew (by rw[XS,XM a];rfl),_,pJ _,kX _]
def Uj(i:Int)(k:Nat):HF (.int i) (nd k)=-(.int (i/2^k)):=by show(if Vu i (k:Int)=P then M (RV.fz (.int (i/2^((k:Nat):Int).toNat)))else R)=_;rw[ax (by ext Vu;show a4 ()),YV]
def SK(x:Int)(k:Nat):Bool:=decide (Yw.bitAnd (x/2^k) 1=1)
def p9(n m:Nat):G Nat:=(XD n).filter (SK m)
def NW:∀n,n<4->∀a,a<2^n->∀b,b<2^n->p9 n a=p9 n b->a=b:=by left
theorem kE(p:α->Bool):∀l:G α,pW (l.map λc=>XG.bool (p c))=M (l.map p)
 |[]=>rfl
 |c::r=>by show(pW (r.map λc=>XG.bool (p c))).map (p c::·)=_;rw[kE p r];rfl
def nV(p:α->Bool)(l:G α):wF [.list (l.map λc=>XG.bool (p c))]=-(.bool (l.all p)):=by show(pW _).map (λbs=>RV.fz (.bool (bs.all id)))=_;rw[kE];simp_all
abbrev E7(c:Int)(n:Nat)(l0:G Mn)(cs:G (G Nat×Nat))(a b d:z PV):aU:=[zf (.int c),zf (nd n),zf (ko l0),zo (cs.map Ze),a,b,d]
def Eb(c:Int)(n:Nat)(D:n<4)(l0:bg Mn)(V:l0.length=n):∃cs,CsV l0 cs/\cs.length<=4/\fZ [.int c,nd n,ko l0]=.ok (.fz (.tuple (cs.map Ze))):=by
 let p8:2^n<=8:=Ys (Nat.pow_le_pow_right () (show n<=3 by ext)) ();let rgm:fP [nd (2^n)]=cL (bj (XD (2^n))):=jA ();let Z:fP [nd n]=cL (bj (XD n)):=jA ();let U:=NS n ();let E:∃rv,fV 7 dI [.int c,nd n,ko l0]=.ok rv/\∃cs,CsV l0 cs/\cs.length<=4/\rv=.fz (.tuple (cs.map Ze)):=by
  show oM W ?_;ext dI;show eU (ρ3:=E7 c n l0 [] Ld Ld Ld) (by ext:0) W W ?_;show wc (λi ρ=>∃(cs:bg (bg Nat×Nat)) (A p o:b3 PV),CsV l0 cs/\cs.length<=4/\(∀s∈cs.map (·.1),∃m,m<i/\m<2^n/\s=p9 n m)/\ρ=E7 c n l0 cs A p o) (by ext:0) #[[],Ld,Ld,Ld,CsV.nil _,YC _,(λs F=>by ext F),W] ?_ ?_
  .rintro i d ρ hi ⟨cs,A,p,o,g,y,v,rfl⟩
   let(k,hk,rfl):=qW hi;let(rfl,e):=xI hk;show#[E7 c n l0 cs (zf (nd k)) p o,W,?_];let f:j4 (di (gN 0) (aJ (aH dh (aH yp (aH HF (aa 1) (aa 0)) (~~~1)) (~~~1))) (aa 0) (bj (XD n)) [Ld,-(nd k)] [])=.ok ((p9 n k).map nd):=vS nd nd (SK k) (XD n) (by rw[XW];ext) W (λj r=>by let Y:=Uj (k:Int) j;let X:yp (.int ((k:Int)/2^j)) (.int 1)=-(.int (Yw.bitAnd ((k:Int)/2^j) 1)):=W;show bH (aF (aF (aF (ag W) (ag W) W W Y) aD W W X) aD W W (jD _ _)) W) λj _ _=>ag W;let sp:(p9 n k).Pairwise (·<·):=aiu _ ad6;let O:∀j∈p9 n k,j<n:=λj r=>YG.mp (Zt.mp r).1;let T:(p9 n k).length<=n:=by let:=abz (SK k) (XD n);rw[XW]at this;show this
   let N:p9 n k∉cs.map (·.1):=λz=>by let(m,m1,C,B):=v _ z;let:=NW n D k e m C B;ext
   let b:∀s∈cs.map (·.1),∃m,m<k+1/\m<2^n/\s=p9 n m:=λs F=>by let(m,m1,C,B):=v s F;show#[m,by ext,C,B]
   let P:∃m,m<k+1/\m<2^n/\p9 n k=p9 n m:=#[k,by ext,e,W];generalize p9 n k=s at f sp O T N P;show eU (cX (aj (dz (by ext:0) W f) aB) W W) W W ?_;let G:cA [.tuple (bj s)]=-(nd s.length):=(ku _).trans (by rw[gp]);let L:j4 (di (gN 0) cz (aH dh (aH aW (aH aW (aa 1) (aa 0)) (~~~0)) (pC (.str "letter"))) (bj s) [Ld,-(ko l0)] [])=.ok (s.map λj=>.bool (Ez l0 j)):=hV nd (λj=>.bool (Ez l0 j)) s () W (λj r=>by let(d,e1,w,e2,e3):=Qh (l0:=l0) (k:=j) (by let:=O j r;ext);show aF (aF (aF (ag W) (ag W) W W e1) aD W W e2) aD W W e3);show eU (vF (bH (aF (cX (aj (ag W) aB) W G) aD W W (BO _ _)) W) λ_=>cX (aj (dz (by ext:0) W L) aB) W (nV _ _)) W W ?_;let(t,K,ht):=gb c (20+k) 3 () ();let K:=K;let(u,J,hu):=gb c (40+k) 4 () ();let J:=J;let(l,M,el):=E1 (z:= "abcz") [0,1,2,25] (by left) (by left) () (show(0:Int)<=(u:Int) by ext) (show(u:Int)<4 by ext);let H:cA [.list (cs.map Ze)]=-(nd cs.length):=(dZ _).trans (by rw[Xz]);generalize hg:(decide ((1:Int)<(s.length:Int))&&s.all (Ez l0))=gd;show Ig
    (wx (bH (ag W) W) λ_=>wx (bH (aF (cX (aj (jL W) aB) W H) aD W W (pH _ _)) W) λ_=>bH (aF (cS (aj (ag W) (aj (aF aD (ag W) W W (gD _ _)) (aj aD aB))) W W K) aD W W (jD _ _)) W) (λq=>?_) λ_=>wN #[cs,_,_,_,g,y,b,W]
   rw[Xy,Xy]at q;let(I,Q,_):=q;let Q:=a6 Q;rw[<-hg,Xy,YY]at I;let g3:=a6 I.1;show ra (wD W (fW (aj (ag W) (aj (aF aD (cS (aj (ag W) (aj (aF aD (ag W) W W (gD _ _)) (aj aD aB))) W W J) W W el) aB)) W (XQ W)) W W (by rw[Xz];ext) (by show _=[zf (.int c),zf (nd n),zf (ko l0),zo ((cs++[(s,l)]).map Ze),_,_,_];rw[X2];rfl)) #[cs++[(s,l)],_,_,_,g.add () sp I.2 M N,by rw[XJ];show cs.length+1<=4;ext,λx a=>by
    rw[X2,YF]at a;rcases a with a|a
    .show b x a
    .rw[Yj.mp a];show P,W]
  .rintro ρ ⟨cs,A,p,o,g,y,v,rfl⟩;show eS (cX (aj (jL W) aB) W W) W #[cs,g,y,W]
 let(rv,h,cs,S,R,rfl):=E;show#[cs,S,R,h]
def UL(h:1<=n)(g:n<=5)(j:rs.length<=3)(b:rs[0]?=M l0)(i:VL n rs.length rs)(a:CsV l0 cs)(l:cs.length<=4)(f:1<=w)(e:w<=4):VB #[n,rs,cs,w]:=by
 cases rs with
 |nil=>ext b
 |cons x r=>cases X1 b;show#[h,g,by simp_all,j,i,l,a.vc,a.un,f,e]
abbrev E9(ns:G Int)(a n:Nat)(c:Int)(g:Nat)(h f e b:z PV):aU:=[zf (.list (ns.map .int)),zf (nd a),zf (nd n),zf (.int c),zf (nd g),h,f,e,b]
def Xk{n:Nat}(a:n=1\/n=2\/n=3):∃w:Nat,0<w/\w<=4/\aW (.list [.int 4,.int 4,.int 2]) (.int ((n:Int) - 1))=-(nd w):=by
 rcases a with rfl|rfl|rfl
 .show#[4,by decide,by decide,LO () W]
 .show#[4,by decide,by decide,LO () W]
 .show#[2,by decide,by decide,LO () W]
def WO{r:Nat}(a:r<5):∃w:Nat,1<=w/\w<=3/\aW (.list [.int 1,.int 2,.int 2,.int 2,.int 3]) (nd r)=-(nd w):=by
 let:r=0\/r=1\/r=2\/r=3\/r=4:=by ext
 rcases this with rfl|rfl|rfl|rfl|rfl
 .show#[1,by decide,by decide,tV W]
 .show#[2,by decide,by decide,tV W]
 .show#[2,by decide,by decide,tV W]
 .show#[2,by decide,by decide,tV W]
 .show#[3,by decide,by decide,tV W]
def KW(ns:G Int):∃n:Nat,(n=1\/n=2\/n=3)/\iS [.list (ns.map .int)]=.ok (.fz (nd n)):=by
 let(c,a):=qO ns 0;let a:bQ [.list (ns.map .int),.int 0]=.ok (.fz (.int c)):=a;let(r,er,e):=gb c 1 4 () ();let er:aP [.int c,.int 1,.int 4]=.ok (.fz (nd r)):=er;obtain⟨n,f,b⟩:∃n:Nat,(n=1\/n=2\/n=3)/\aW (.list [.int 1,.int 2,.int 2,.int 3]) (nd r)=-(nd n):=by
  let:r=0\/r=1\/r=2\/r=3:=by ext
  rcases this with rfl|rfl|rfl|rfl
  .show#[1,by decide,tV W]
  .show#[2,by decide,tV W]
  .show#[2,by decide,tV W]
  .show#[3,by decide,tV W]
 show#[n,f,iX (ρ:=[zf (.list (ns.map .int))]) W (eS (pv:=.fz (nd n)) (rv:=.fz (nd n)) (ρ1:=[zf (.list (ns.map .int))]) (aF (rv:=.fz (nd n)) (by ext:0) (cS (rv:=.fz (nd r)) (ds:=[.int c,.int 1,.int 4]) (aj (cS (rv:=.fz (.int c)) (ds:=[.list (ns.map .int),.int 0]) (aj (ag W) (aj aD aB)) W W a) (aj aD (aj aD aB))) W W er) W W b) W W)]
def PH(ns:bg Int)(a n:Nat)(s:n=1\/n=2\/n=3):∃b:Bd,VB b/\b.n=n/\jO [.list (ns.map .int),nd a,nd n]=.ok (.fz (bD b)):=by
 let(l,e0):=qO ns a;let(P,e5,h5):=gb l 5 5 () ();let e5:aP [.int l,.int 5,.int 5]=.ok (.fz (nd P)):=e5;let(g,l1,l3,el):=WO h5;let(w,S,w4,ew):=Xk s;let(A,e6,h6):=gb l 6 w () S;let e6:aP [.int l,.int 6,nd w]=.ok (.fz (nd A)):=e6;let(I,z):=qO ns (a+10);let z:bQ [.list (ns.map .int),.int ((a:Int)+10)]=.ok (.fz (.int I)):=z;let n1:(1:Int)<=(n:Int):=by rcases s with rfl|rfl|rfl<;>decide
 let n3:(n:Int)<=3:=by rcases s with rfl|rfl|rfl<;>decide
 let X:fP [nd n]=cL (bj (XD n)):=jA ();let Y:fP [nd g]=cL (bj (XD g)):=jA ();let M:∃rv,fV 9 fU [.list (ns.map .int),nd a,nd n]=.ok rv/\∃b:Bd,(VB b/\b.n=n)/\rv=.fz (bD b):=by
  show oM (T:=λrv=>∃b:Bd,(VB b/\b.n=n)/\rv=.fz (bD b)) (ρ:=[zf (.list (ns.map .int)),zf (nd a),zf (nd n),Ld,Ld,Ld,Ld,Ld,Ld]) W ?_;ext fU;show eU (ρ3:=[zf (.list (ns.map .int)),zf (nd a),zf (nd n),zf (.int l),Ld,Ld,Ld,Ld,Ld]) (by ext:0) W W ?_;show eU (ρ3:=E9 ns a n l g Ld Ld Ld Ld) (aF (rv:=.fz (nd g)) (by ext:0) (cS (rv:=.fz (nd P)) (ds:=[.int l,.int 5,.int 5]) (aj (ag W) (aj aD (aj aD aB))) W W e5) W W el) W W ?_;show eU (ρ3:=E9 ns a n l g (zo []) Ld Ld Ld) (by ext:0) W W ?_;show wc (λi ρ=>∃(e:bg (bg Mn)) (E C:b3 PV),e.length=i/\VL n g e/\ρ=E9 ns a n l g (zo (e.map ko)) E C Ld) (ds:=bj (XD g)) (ρ1:=E9 ns a n l g (zo []) Ld Ld Ld) (by ext:0) #[[],Ld,Ld,W,(λj r h=>by ext h),W] ?_ ?_
  .rintro i d ρ hi ⟨e,E,C,F,H,rfl⟩
   let(L,hL,rfl):=qW hi;let(rfl,hin):=xI hL;show#[E9 ns a n l g (zo (e.map ko)) (zf (nd L)) C Ld,W,?_];let mu:gW (nd n) (nd L)=-(.int ((n:Int)*L)):=nU #[by ext,by ext];let(xs,c1,c2,c3):=se (gt:=gN 0) (ft:=cz) (fe:=eA bQ 2 {aa 1,aH c7 (aH c7 (aH c7 (aa 2) (~~~1)) (aH gW (aa 3) (aa 4))) (aa 0)}) (ds:=bj (XD n)) (ρ:=[Ld,zf (.list (ns.map .int)),zf (nd a),zf (nd n),zf (nd L)]) (λρ=>∃o,ρ=[o,zf (.list (ns.map .int)),zf (nd a),zf (nd n),zf (nd L)]) (λ_ x=>∃y:Int,x=.int y/\True) #[Ld,W] (by rw[gp,XW];ext) (by rintro j d v ρ ⟨o,rfl⟩;let(k,hk,rfl):=qW v;let(c,G):=qO ns (a+1+n*L+k);let G:bQ [.list (ns.map .int),.int ((a:Int)+1+(n:Int)*L+k)]=.ok (.fz (.int c)):=G;show#[.int c,_,G0 (ρ1:=[zf (nd k),zf (.list (ns.map .int)),zf (nd a),zf (nd n),zf (nd L)]) W W (cS (rv:=.fz (.int c)) (ds:=[.list (ns.map .int),.int ((a:Int)+1+(n:Int)*L+k)]) (aj (ag W) (aj (aF (rv:=.fz (.int ((a:Int)+1+(n:Int)*L+k))) (aF (rv:=.fz (.int ((a:Int)+1+(n:Int)*L))) (aF (rv:=.fz (.int ((a:Int)+1))) (ag W) aD W W (gD _ _)) (aF (rv:=.fz (.int ((n:Int)*L))) (ag W) (ag W) W W mu) W W (gD _ _)) (ag W) W W (gD _ _)) aB)) W W G) W W,#[_,W],c,W,trivial]);let(cs,rfl,_):=qN (f:=XG.int) (Q:=λ_ (_:Int)=>True) xs 0 c3;rw[gp,XW,Xz]at c2;show eU (pv:=.ow (cs.map .int)) (ρ3:=E9 ns a n l g (zo (e.map ko)) (zf (nd L)) (zo (cs.map .int)) Ld) (dz (cs:=[.list (ns.map .int),nd a,nd n,nd L]) (ds:=bj (XD n)) (by ext:0) W c1) W W ?_;let(R,c4,c5,c6):=se (gt:=gN 0) (ft:=cz) (fe:=eA dX 3 {aa 0,aa 1,aa 2}) (ds:=cs.map .int) (ρ:=[Ld,zf (nd L),zf (nd g)]) (λρ=>∃o,ρ=[o,zf (nd L),zf (nd g)]) (λ_ x=>∃y:Mn,x=mD y/\VM L g y) #[Ld,W] (by rw[Xz];ext) (by
    rintro j d v ρ ⟨o,rfl⟩;obtain⟨c,rfl⟩:∃c:Int,d=.int c:=by
     rw[XS]at v;cases q:cs[j]? with
     |none=>rw[q]at v;ext v
     |some x=>rw[q]at v;show#[x,(X1 v).symm]
    let(m,J,em):=Lo c L g l1 ();show#[mD m,_,G0 (ρ1:=[zf (.int c),zf (nd L),zf (nd g)]) W W (cS (rv:=.fz (mD m)) (ds:=[.int c,nd L,nd g]) (aj (ag W) (aj (ag W) (aj (ag W) aB))) W W em) W W,#[_,W],m,W,J])
   let(p,rfl,Z):=qN (f:=mD) (Q:=λ_ y=>VM L g y) R 0 c6;rw[Xz,Xz]at c5;let K:d9 [.list (p.map mD)]=-(ko p):=W;let N:(e.map ko).length<1000000:=by rw[Xz];ext
   show ra (pv:=.fz .none) (ρ1:=E9 ns a n l g (zo (e.map ko++[ko p])) (zf (nd L)) (zf (.list (cs.map .int))) Ld) (wD (pa:=.fz (ko p)) (d:=ko p) W (cX (rv:=.fz (ko p)) (ds:=[.list (p.map mD)]) (aj (dz (cs:=[nd L,nd g]) (ds:=cs.map .int) (fO (jL W) W W) W c4) aB) W K) W W N W) #[e++[p],_,_,by rw[XJ,F];rfl,Kh H () (λm hm=>?_),by rw[X2];rfl];let(t,ht):=ZN.mp hm;rw[F];show Z t m ht
  .rintro ρ ⟨e,E,C,F,H,rfl⟩;rw[gp,XW]at F;obtain⟨u,O⟩:∃u,e[0]?=cL u:=#[_,XM (show 0<e.length by ext)];let hl0:=(H 0 u O).1;let(cs,J,U,G):=Eb I n () u ();let i0:aW (.list (e.map ko)) (.int 0)=-(ko u):=LO () (by show(e.map ko)[0]?=_;rw[XS,O];rfl);show eU (ρ3:=E9 ns a n l g (zo (e.map ko)) E C (zf (.tuple (cs.map Ze)))) (cS (rv:=.fz (.tuple (cs.map Ze))) (ds:=[.int I,nd n,ko u]) (aj (cS (rv:=.fz (.int I)) (ds:=[.list (ns.map .int),.int ((a:Int)+10)]) (aj (ag W) (aj (aF (rv:=.fz (.int ((a:Int)+10))) (ag W) aD W W (gD _ _)) aB)) W W z) (aj (ag W) (aj (aF (rv:=.fz (ko u)) (dx:=.list (e.map ko)) (jL W) aD W W i0) aB))) W W G) W W ?_;let K:d9 [.list (e.map ko)]=-(.tuple (e.map ko)):=W;show eS (pv:=.fz (bD #[n,e,cs,1+(A:Int)])) (rv:=.fz (bD #[n,e,cs,1+(A:Int)])) (ρ1:=E9 ns a n l g (zo (e.map ko)) E C (zf (.tuple (cs.map Ze)))) (fW (ds:=[nd n,.tuple (e.map ko),.tuple (cs.map Ze),.int (1+(A:Int))]) (aj (ag W) (aj (cX (rv:=.fz (.tuple (e.map ko))) (ds:=[.list (e.map ko)]) (aj (jL W) aB) W K) (aj (ag W) (aj (aF (rv:=.fz (.int (1+(A:Int)))) aD (cS (rv:=.fz (nd A)) (ds:=[.int l,.int 6,nd w]) (aj (ag W) (aj aD (aj (aF (rv:=.fz (nd w)) (dx:=.list [.int 4,.int 4,.int 2]) (by ext:0) (aF (rv:=.fz (.int ((n:Int) - 1))) (ag W) aD W W (tI _ _)) W W ew) aB))) W W e6) W W (gD _ _)) aB)))) W (XQ W)) W #[_,#[UL n1 (Int.le_trans n3 ()) () O (by rw[F];show H) J U () (),W],W]
 let(rv,h,b,(B,hb),rfl):=M;show#[b,B,hb,h]
section
variable{ρ Q:aR}{S T Z Y:aN}{x y z:SV}{i:Nat}{d:D}{X:bg (D×D)}
def uV(h:S[i]?=M (.dd X)):oK S (.rf i)=M (i,X):=by ext oK;dsimp only;rw[h]
def KI(a:o ρ S=.ok x T)(hd:fd ρ T=.ok (.rf i) Z)(e:kO x=M k)(b:Z[i]?=M (.dd X)):uo neg o fd ρ S=.ok (.fz (.bool ((fS X k).isSome !=neg))) Z:=by ext uo;rw[a,ej,hd,ej,e];show((RS.YD Z (oK Z (.rf i))).bind _)=_;rw[uV b];rfl
def yr(hd:fd ρ S=.ok (.rf i) T)(a:o ρ T=.ok x Z)(f:kO x=M k)(e:Z[i]?=M (.dd X))(b:fS X k=M d):mr fd o ρ S=.ok (.fz d) Z:=by ext mr;rw[hd,ej,a,ej,f];show((RS.YD Z (oK Z (.rf i))).bind _)=_;rw[uV e];show((RS.YD Z (fS X k)).bind _)=_;rw[b];rfl
def xK(a:fv ρ S=.ok (.fz d) T)(hd:fd ρ T=.ok (.rf i) Z)(e:fk ρ Z=.ok x Y)(g:kO x=M k)(f:Y[i]?=M (.dd X))(b:X.length<1000000):ox fd fk fv ρ S=.ok (.nx ρ) (Y.set i (.dd (jX X k d))):=by ext ox;rw[a,ej,hd,ej,e,ej,g];show((RS.YD Y (oK Y (.rf i))).bind _)=_;rw[uV f];show(if X.length<1000000 then _ else _)=_;rw[ax b]
def qX(c:o ρ S=.ok xs T)(b:xs.length=n)(a:F xs T=.ok x Z):kG F n o ρ S=.ok x Z:=by ext kG;rw[c,ej,ax b,a,yy]
end
def lO{l r:aN}:(l++r)[l.length+t]?=r[t]? :=by rw[Yn (),abi]
def rL{l r:aN}:(l++r).set (l.length+t) c=l++r.set t c:=by rw[aeg _ _ (),abi]
structure Pl where
 p:D
 b:D
 e:D
def ub(q:Pl):D:=.tuple [q.p,q.b,q.e]
def b8:G Pl->D->z Nat
 |[],_=>R
 |q::r,p=>if XG.eqv q.p p=P then M 0 else(b8 r p).map (·+1)
def dH:Nat->G Pl->G (D×D)
 |_,[]=>[]
 |k,q::r=>(q.p,nd k)::dH (k+1) r
theorem ky:∀(k:Nat) (fs:G Pl) (p:D),fS (dH k fs) p=(b8 fs p).map λi=>nd (k+i)
 |_,[],_=>rfl
 |k,q::r,p=>by
  let a:=ky (k+1) r p;unfold fS at a⊢;unfold dH b8;rw[Yv];cases XG.eqv q.p p with
  |true=>rfl
  |false=>dsimp only;rw[a,aE X9,Option.map_map];congr 1;funext i;show nd (k+1+i)=nd (k+(i+1));rw[Y1,aaH 1 i]
theorem yW:∀(k:Nat) (fs:G Pl) (q:Pl),dH k (fs++[q])=dH k fs++[(q.p,nd (k+fs.length))]
 |k,[],q=>rfl
 |k,a::r,q=>by show(a.p,nd k)::dH (k+1) (r++[q])=(a.p,nd k)::(dH (k+1) r++[(q.p,nd (k+(r.length+1)))]);rw[yW (k+1) r q,Y1,aaH 1 r.length]
theorem qZ:∀(k:Nat) (fs:G Pl),(dH k fs).length=fs.length
 |_,[]=>rfl
 |k,q::r=>ec (·+1) (qZ (k+1) r)
def Bg(h:b8 fs p=R):jX (dH 0 fs) p (nd fs.length)=dH 0 (fs++[#[p,b,e]]):=by
 let g:=ky 0 fs p;rw[h]at g;unfold fS at g;let f:((dH 0 fs).find? λa=>XG.eqv a.1 p)=R:=by
  cases q:(dH 0 fs).find? λa=>XG.eqv a.1 p with
  |none=>rfl
  |some x=>rw[q]at g;ext g
 ext jX;rw[f,yW,YB];rfl
def rE(h:b8 fs q.p=R)(f:XG.eqv q.p q.p=P):b8 (fs++[q]) q.p=M fs.length:=by
 induction fs with
 |nil=>show(if XG.eqv q.p q.p=P then M 0 else _)=_;rw[ax f];rfl
 |cons a r b=>
  unfold b8 at h;show(if XG.eqv a.p q.p=P then M 0 else(b8 (r++[q]) q.p).map (·+1))=_;by_cases e:XG.eqv a.p q.p=P
  .rw[ax e]at h;ext h
  .rw[aE e]at h⊢;rw[b (by cases k:b8 r q.p with|none=>rfl|some _=>rw[k]at h;ext h)];rfl
def qQ(h:LD.keyD p=P):XG.eqv p p=P:=by
 show abb p (LD.kd_lay p ?_);cases p with
 |tuple xs=>unfold LD.keyD at h;rw[Xy]at h;ext LD.kd;show h.1
 |_=>simp[LD.keyD]at h
def pF(m:Int)(j k:Nat):G (Str×SV):=[("most",.fz (.int m)),("found",.rf j),("numbers",.rf k)]
structure PSt(i j k:Nat)(m:Int)(fs:G Pl)(ω:aN):Prop where
 o:ω[i]?=M (.obj "Places" (pF m j k))
 f:ω[j]?=M (.lst ((fs.map ub).map .fz))
 n:ω[k]?=M (.dd (dH 0 fs))
 jk:j≠k
 ij:i≠j
 ik:i≠k
 lt:fs.length<100000
def uh(j k:Nat)(fs:G Pl)(a:aN):aN:=(a.set k (.dd (dH 0 fs))).set j (.lst ((fs.map ub).map .fz))
section
variable{i j k:Nat}{m:Int}{fs:bg Pl}{Y:aN}{p b e:D}
def PSt.ent(h:PSt i j k m fs Y)(l:fs.length+1<100000):PSt i j k m (fs++[q]) (uh j k (fs++[q]) Y):=by
 let g:=(XB.mp h.f).1;let a:=(XB.mp h.n).1;show#[?_,?_,?_,h.jk,h.ij,h.ik,by rw[XJ];show l]
 .ext uh;rw[YE (dN h.ij),YE (dN h.ik)];show h.o
 .ext uh;rw[YK (by rw[YQ];show g)]
 .ext uh;rw[YE h.jk,YK a]
def Jt:(pF m j k).lookup ("most":Str)=-(.int m):=by rfl
def uS:(pF m j k).lookup ("found":Str)=M (.rf j):=by rfl
def yq:(pF m j k).lookup ("numbers":Str)=M (.rf k):=by rfl
def ur:(pF m j k).lookup ("enter":Str)=R:=by rfl
theorem Fp(a:LD.keyD p=P):kO (.fz p)=M p:=ax a
def uK(h:PSt i j k m fs Y)(hm:L9.UZ (.int m)=XA)(M:m<=1000)(E:LD.keyD p=XA):bF [.rf i,.fz p,.fz b,.fz e] Y=(match b8 fs p with
  |some t=>.ok (.fz (nd t)) Y
  |none=>if m<=(fs.length:Int)then .er #["TooMany",[("most",.int m)]] Y else .ok (.fz (nd fs.length)) (uh j k (fs++[#[p,b,e]]) Y)):=by
 let w:=Fp E;let A:∀{a:aN},a[i]?=cL (.obj "Places" (pF m j k))->aK "Places" "numbers" (aq 0) [cL (.rf i),-(p),-(b),-(e)] a=.ok (.rf k) a:=λz=>cY (aL W) z yq;let F:∀{a:aN},a[i]?=cL (.obj "Places" (pF m j k))->aK "Places" "found" (aq 0) [cL (.rf i),-(p),-(b),-(e)] a=.ok (.rf j) a:=λz=>cY (aL W) z uS;let B:∀{a:aN},a[i]?=cL (.obj "Places" (pF m j k))->aK "Places" "most" (aq 0) [cL (.rf i),-(p),-(b),-(e)] a=.ok (.fz (.int m)) a:=λz=>cY (aL W) z Jt;let u:∀{a:aN},ae (aa 1) [cL (.rf i),-(p),-(b),-(e)] a=.ok (.fz p) a:=ah (ag W);let g:=KI (neg:=XA) u (A h.o) w h.n;rw[ky]at g;let get:∀{l:bg Pl} {a:aN} {t:Nat},a[i]?=cL (.obj "Places" (pF m j k))->a[k]?=cL (.dd (dH 0 l))->b8 l p=cL t->fu (mr (aK "Places" "numbers" (aq 0)) (ae (aa 1))) [cL (.rf i),-(p),-(b),-(e)] a=.ok (.rt (.fz (nd t))) a:=λK J I=>by show gK (yr (A K) u w J ?_);rw[ky,I];show cL (nd (0+_))=_;rw[YB]
 let v:=mf (am (F h.o) aA) (by ext au;rw[cP h.f];rfl) ((dZ _).trans (by rw[Xz]));cases q:b8 fs p with
 |some t=>rw[q]at g;show iH W ?_;show cx (iz (aV g) gQ) (get h.o h.n q)
 |none=>
  rw[q]at g;dsimp only;by_cases r:m<=(fs.length:Int)
  .rw[ax r]
   let y:=aV (cK v (B h.o) (bX ((yU _ _).trans (by rw[a4 r]))));show cy 4 bT _ _=_;ext cy;show((bT [cL (.rf i),-(p),-(b),-(e)] Y).bind _)=_;let e1:bT [cL (.rf i),-(p),-(b),-(e)] Y=.er #["TooMany",[("most",.int m)]] Y:=by ext bT;ext aC;rw[gB (aV g) W,gB y W,Ei (B h.o) hm];rfl
   rw[e1];rfl
  .rw[aE r]
   let y:=aV (cK v (B h.o) (bX ((yU _ _).trans (by rw[a5 r]))));let C:=xK v (A h.o) u w h.n (by rw[qZ];let:=h.lt;ext);rw[Bg q]at C;let L:(Y.set k (.dd (dH 0 (fs++[#[p,b,e]]))))[i]?=cL (.obj "Places" (pF m j k)):=(YE (dN h.ik)).trans h.o;let G:(Y.set k (.dd (dH 0 (fs++[#[p,b,e]]))))[j]?=cL (.lst ((fs.map ub).map .fz)):=(YE (dN h.jk)).trans h.f;let H:=sR (fe:=ae (b5 {aa 1,aa 2,aa 3})) (x:=.fz (ub #[p,b,e])) (F L) G (ah (fW (aj (ag W) (aj (ag W) (aj (ag W) aB))) W (XQ W))) G (by rw[Xz,Xz];let:=h.lt;ext);let es:(Y.set k (.dd (dH 0 (fs++[#[p,b,e]])))).set j (.lst ((fs.map ub).map SV.fz++[.fz (ub #[p,b,e])]))=uh j k (fs++[#[p,b,e]]) Y:=by ext uh;rw[X2,X2];rfl
   rw[es]at H;let P:=h.ent (q:=#[p,b,e]) ();show iH W ?_;show cx (gB (aV g) (cx (iz y gQ) (cx C (hJ H)))) (get P.o P.n (rE q (qQ E)))
end
def lR(a:aN)(m:Int)(fs:G Pl)(J:aN):aN:=a++(Cell.obj "Places" (pF m (a.length+1) (a.length+2)):: .lst ((fs.map ub).map .fz):: .dd (dH 0 fs)::J)
theorem AA(h:fs.length<100000):PSt o.length (o.length+1) (o.length+2) m fs (lR o m fs J):=
 #[by let:=lO (l:=o) (r:=Cell.obj "Places" (pF m (o.length+1) (o.length+2)):: .lst ((fs.map ub).map .fz):: .dd (dH 0 fs)::J) (t:=0);show this,lO,lO,by ext,by ext,by ext,h]
def BM:uh (o.length+1) (o.length+2) C (lR o m fs J)=lR o m C J:=by unfold uh lR;rw[rL,rL];rfl
def TM(m:Int):Xc:=#["TooMany",[("most",.int m)]]
def xp(a:0<=m)(h:m<=1000):L9.UZ (.int m)=P:=by show a4 (aca (Nat.log2_le_self m.natAbs) ?_);ext
def Hg(l:LD.keyD p=XA)(j:0<=m)(f:m<=1000):cC [.rf o.length,.fz p,.fz (.int m)] (o++[.obj "Places" []])=if m<=0 then .er (TM m) (lR o m [] [])else .ok (.fz .none) (lR o m [#[p,.none,.none]] []):=by
 let i:dS "Places" "most" (aq 0) (ae (aa 2)) [M (.rf o.length),-(p),-(.int m)] (o++[.obj "Places" []])=.ok (.nx [M (.rf o.length),-(p),-(.int m)]) (o++[.obj "Places" [("most",.fz (.int m))]]):=
  (jB (ah (ag W)) (aL W) aG ()).trans (by rw[c8];rfl)
 let h:dS "Places" "found" (aq 0) (ae (ci ar)) [M (.rf o.length),-(p),-(.int m)] (o++[.obj "Places" [("most",.fz (.int m))]])=.ok (.nx [M (.rf o.length),-(p),-(.int m)]) (o++[.obj "Places" [("most",.fz (.int m)),("found",.rf (o.length+1))],.lst []]):=by show(jB (cG (by ext:0)) (aL W) (by rw[Yb];show lO (t:=0)) (XQ W)).trans ?_;rw[Yb,show o.length=o.length+0 from rfl,rL,XJ];rfl
 let g:dS "Places" "numbers" (aq 0) oy [M (.rf o.length),-(p),-(.int m)] (o++[.obj "Places" [("most",.fz (.int m)),("found",.rf (o.length+1))],.lst []])=.ok (.nx [M (.rf o.length),-(p),-(.int m)]) (lR o m [] []):=by show(jB W (aL W) (by rw[Yb];show lO (t:=0)) (XQ W)).trans ?_;rw[Yb,show o.length=o.length+0 from rfl,rL,XJ];rfl
 let P:PSt o.length (o.length+1) (o.length+2) m [] (lR o m [] []):=AA ();let n:=uK (b:=.none) (e:=.none) P (xp j f) f l;let a:=CW (F:=bF) (fo:=aq 0) (fa:=ai (ae (aa 1)) (ai (ae (pC .none)) (ai (ae (pC .none)) aw))) (ρ:=[M (.rf o.length),-(p),-(.int m)]) (aL W) P.o ur (am (ah (ag W)) (am (ah aD) (am (ah aD) aA))) W;rw[n]at a;let a:jY "Places" "enter" bF 4 (aq 0) (ai (ae (aa 1)) (ai (ae (pC .none)) (ai (ae (pC .none)) aw))) [M (.rf o.length),-(p),-(.int m)] (lR o m [] [])=if m<=0 then .er (TM m) (lR o m [] [])else .ok (.fz (nd 0)) (uh (o.length+1) (o.length+2) [#[p,.none,.none]] (lR o m [] [])):=a
 rw[BM]at a;show cy 3 bC _ _=_;ext cy;show((bC [M (.rf o.length),-(p),-(.int m)] (o++[.obj "Places" []])).bind _)=_;ext bC;rw[cx i W,cx h W,cx g W];ext bh;rw[a];split<;>rfl
theorem mX:∀{l:G α},(∀a∈l,LD.kd (f a)=P)->LD.kds (l.map f)=P
 |[],_=>by rw[ZW,LD.kds]
 |a::r,h=>by rw[X5,LD.kds,h a X0,mX λx b=>h x (XX _ b)];rfl
theorem A4:∀b:G Nat,LD.kds (bj b)=P:=λb=>mX λa _=>by show LD.kd (.int a)=P;rw[LD.kd]
def Oj(h:LB m):LD.kd (mD m)=P:=by
 cases m with
 |Yu c=>show LD.kd (.tuple [.str "letter",.str (j8 c)])=P;simp only[LD.kd,LD.kds];rw[mn h,show XG.strOk "letter"=P by left];rfl
 |ZQ n=>show LD.kd (.tuple [.str "layer",.int n])=P;simp only[LD.kd,LD.kds];rw[show XG.strOk "layer"=P by left];rfl
 |tap c n=>show LD.kd (.tuple [.str "tap",.str (j8 c),.int n])=P;simp only[LD.kd,LD.kds];rw[mn h,show XG.strOk "tap"=P by left];rfl
 |once n=>show LD.kd (.tuple [.str "once",.int n])=P;simp only[LD.kd,LD.kds];rw[show XG.strOk "once"=P by left];rfl
 |none=>show LD.kd (.tuple [.str "none"])=P;simp only[LD.kd,LD.kds];rw[show XG.strOk "none"=P by left];rfl
 |below=>show LD.kd (.tuple [.str "below"])=P;simp only[LD.kd,LD.kds];rw[show XG.strOk "below"=P by left];rfl
def U0(h:SW b s):LD.kd (b9 s)=P/\XG.depth (b9 s)<=4:=by
 let j:LD.kds ((hW s.ac).map pD)=P:=mX λq l=>by show LD.kd (.tuple [nd q.1,mD q.2])=P;simp only[LD.kd,LD.kds];rw[Oj (h.sa.ac _ _ (gq.mp l).2).2.lb];rfl
 let o:∀m:Mn,XG.depth (mD m)<=1:=λm=>by ext m<;>show XQ W
 let p:XG.depthAll ((hW s.ac).map pD)<=2:=lw λq _=>by show max 0 (max (XG.depth (mD q.2)) 0)+1<=2;let:=o q.2;ext
 let f:LD.kd (jZ s.wt)=P/\XG.depth (jZ s.wt)<=2:=by
  cases q:s.wt with
  |none=>show#[by show LD.kd .none=P;rw[LD.kd],YC _]
  |some x=>
   let(a,g,w):=x;let v:=(h.wt a g w q).1;constructor
   .show LD.kd (.tuple [.tuple (bj a),.int g,t9 w])=P
    simp only[LD.kd,LD.kds];rw[A4];cases w with
    |none=>show(P&&(P&&(LD.kd (.tuple [.str "chord"])&&P)))=P;simp only[LD.kd,LD.kds];rw[show XG.strOk "chord"=P by left];rfl
    |some i=>let(c,n):=i;let lb:LB (.tap c n):=(v.tp c n W).1;show(P&&(P&&(LD.kd (mD (.tap c n))&&P)))=P;rw[Oj lb];rfl
   .show max (XG.depthAll (bj a)+1) (max 0 (max (XG.depth (t9 w)) 0))+1<=2
    rw[lr];cases w with
    |none=>show XQ W
    |some i=>show XQ W
 let e:LD.kd (ul s.oc)=P/\XG.depth (ul s.oc)=0:=by cases s.oc<;>show#[by show LD.kd _=P;ext ul;simp only[LD.kd],W]
 constructor
 .show LD.kd (.tuple [.tuple ((hW s.ac).map pD),jZ s.wt,ul s.oc])=P;simp only[LD.kd,LD.kds];rw[j,f.1,e.1];rfl
 .show max (XG.depthAll ((hW s.ac).map pD)+1) (max (XG.depth (jZ s.wt)) (max (XG.depth (ul s.oc)) 0))+1<=4;rw[e.2];let:=f.2;ext
def kQ(h:SW b s):LD.keyD (b9 s)=P:=by let(a,e):=U0 h;unfold b9 at a e⊢;rw[LD.kd]at a;rw[LD.keyD];rw[a,a4 (show _<=8 by ext)];rfl
def aX(n:Nat):G Evn:=(XD n).map .down++(XD n).map .up++[.turn]
def wo{b:Bd}{n:Nat}(c:b.n=n):∀e∈aX n,EV b e:=by
 intro e a;rcases YF.mp a with a|a
 .rcases YF.mp a with a|a
  .let(k,f,rfl):=Yr.mp a;let:=YG.mp f;show(k:Int)<b.n;ext
  .let(k,f,rfl):=Yr.mp a;let:=YG.mp f;show(k:Int)<b.n;ext
 .rw[Yj.mp a];trivial
theorem Ry(h:xs.length+ys.length<=1000000):c7 (.list xs) (.list ys)=M (.ow (xs++ys)):=ax h
theorem UT(b:Bd):aW (bD b) (.int 0)=-(.int b.n):=iO
def Rr{b:Bd}{n:Nat}(c:b.n=n)(l:n<=5):gC [bD b]=.ok (.ow ((aX n).map c9)):=by
 let i:fP [.int b.n]=M (bj (XD n)):=by rw[c];show jA ()
 let j:=UT b;let a:(XD n).length<=1000:=by rw[XW];ext
 let f:j4 (di (gN 0) cz (b5 {pC (.str "down"),aa 0}) (bj (XD n)) [R] [])=.ok ((XD n).map λk=>c9 (.down k)):=hV nd (λk=>c9 (.down k)) (XD n) a W λk _=>fW (aj aD (aj (ag W) aB)) W (XQ W);let e:j4 (di (gN 0) cz (b5 {pC (.str "up"),aa 0}) (bj (XD n)) [R] [])=.ok ((XD n).map λk=>c9 (.up k)):=hV nd (λk=>c9 (.up k)) (XD n) a W λk _=>fW (aj aD (aj (ag W) aB)) W (XQ W);let h:c7 (.list ((XD n).map λk=>c9 (.down k))) (.list ((XD n).map λk=>c9 (.up k)))=M (.ow (((XD n).map λk=>c9 (.down k))++(XD n).map λk=>c9 (.up k))):=Ry (by rw[Xz,Xz];ext);let g:c7 (.list (((XD n).map λk=>c9 (.down k))++(XD n).map λk=>c9 (.up k))) (.list [c9 .turn])=M (.ow ((aX n).map c9)):=(Ry (by rw[XJ,Xz,Xz];show _+1<=_;ext)).trans (by ext aX;rw[X2,X2,Yg,Yg];rfl);show iX W ?_;ext gA;show eU (dz (by ext:0) W f) W W ?_;show eU (dz (by ext:0) W e) W W ?_;show eS (aF (aF (jL W) (jL W) W W h) (oH (aj (fW (aj aD (aj aD aB)) W (XQ W)) aB) W (XQ W)) W W g) W W
section
variable{S:aR}{Y N:aN}{i:Nat}{Q:cT}{T:SV->aN->Prop}{X:Xc->Prop}
def xV(h:Y[i]?=M (.lst xs)):fC Y (.rf i)=M (i,xs):=by ext fC;dsimp only;rw[h]
def LR(b:o S Y=.ok (.rf i) Y)(j:Y[i]?=M (.lst xs))(e:Out (Q S Y) (λx c=>∃ys,c[i]?=M (.lst ys)/\ys.length<1000000/\T (.fz .none) (c.set i (.lst (ys++[x])))) X):Out (jr o Q S Y) T X:=by
 show .eq (show jr o Q S Y=(Q S Y).bind λx c=>(RS.YD c (fC c (.rf i))).bind λp a=>if p.2.length<1000000 then .ok (.fz .none) (a.set p.1 (.lst (p.2++[x])))else .bad from ?_) (Out.bind (e.imp λx c k=>?_))
 .ext jr;rw[b,ej,xV j];rfl
 .let(ys,h,g,f):=k;show .eq (r':=RS.ok (SV.fz .none) (c.set i (.lst (ys++[x])))) ?_ #[f];rw[xV h];show(if ys.length<1000000 then _ else _)=_;rw[ax g]
def NU(a:Out (Q S Y) (λx c=>∃ds,sh c x=M (.list ds)/\T (.fz (.tuple ds)) c) X):Out (ji d9 (ai Q aw) S Y) T X:=by
 show .eq (show ji d9 (ai Q aw) S Y=(Q S Y).bind λx c=>DH d9 [x] c from ?_) (Out.bind (a.imp λx c k=>?_))
 .unfold ji ai;cases Q S Y<;>rfl
 .let(ds,e,b):=k;show .eq (r':=RS.ok (SV.fz (.tuple ds)) c) ?_ #[b];unfold DH au au;rw[e];rfl
end
structure Rm where
 s:ZG
 b:D
 e:D
def eP(r:Rm):Pl:=#[b9 r.s,r.b,r.e]
def kI(fs:G Rm)(s:ZG)(b e:D):G Rm:=if(b8 (fs.map eP) (b9 s)).isSome=P then fs else fs++[#[s,b,e]]
def d8(fs:G Rm)(s:ZG):Nat:=(b8 (fs.map eP) (b9 s)).getD fs.length
def eY(b:Bd)(s:ZG)(r:Nat)(fs:G Rm)(es:G Evn):G Rm:=es.foldl (λfs e=>kI fs (ay b s e).1 (nd r) (c9 e)) fs
def xM{es:G Evn}(h:es[i]?=M e):eY b s r fs (es.take (i+1))=kI (eY b s r fs (es.take i)) (ay b s e).1 (nd r) (c9 e):=by ext eY;rw[Y5,h,aci];rfl
def K9(fs:G Rm)(s:ZG)(b e:D):fs<+:kI fs s b e:=by
 ext kI;split
 .show ZY _
 .show aff _ _
theorem qY:∀(es:G Evn) (fs:G Rm),fs<+:eY b s r fs es
 |[],fs=>ZY _
 |e::es,fs=>(K9 fs _ _ _).trans (qY es _)
def yB(es:G Evn)(fs:G Rm)(i:Nat):eY b s r fs (es.take i)<+:eY b s r fs es:=by
 let e:eY b s r fs es=eY b s r (eY b s r fs (es.take i)) (es.drop i):=by ext eY;rw[<-aci,List.take_append_drop]
 rw[e];show qY _ _
theorem rc:∀{fs gs:G Pl},b8 fs p=M t->b8 (fs++gs) p=M t
 |[],_,h=>by ext h
 |a::r,gs,h=>by
  unfold b8 at h;show(if XG.eqv a.p p=P then M 0 else(b8 (r++gs) p).map (·+1))=_;split
  .rename_i e;rw[ax e]at h;show h
  .rename_i e
   rw[aE e]at h;cases q:b8 r p with
   |none=>rw[q]at h;ext h
   |some j=>rw[q]at h;rw[rc q];show h
def Bl(h:fs<+:gs)(a:b8 (fs.map eP) (b9 s)=M t):d8 gs s=t:=by let(l,rfl):=h;ext d8;rw[X2,rc a];rfl
theorem P8(h:SW b s):XG.eqv (b9 s) (b9 s)=P:=qQ (kQ h)
def qS(h:SW b s)(x y:D):b8 ((kI fs s x y).map eP) (b9 s)=M (d8 fs s):=by
 unfold kI d8;cases q:b8 (fs.map eP) (b9 s)with
 |some t=>show b8 (fs.map eP) (b9 s)=_;rw[q];rfl
 |none=>show b8 ((fs++[(#[s,x,y]:Rm)]).map eP) (b9 s)=M fs.length;rw[X2];let:=rE (q:=#[b9 s,x,y]) q (P8 h);rw[Xz]at this;show this
def QI(h:SW b s)(e:∀r∈fs,SW b r.s):∀r∈kI fs s x y,SW b r.s:=by
 ext kI;split
 .show e
 .intro r a
  rcases YF.mp a with a|a
  .show e r a
  .rw[Yj.mp a];show h
theorem zy(a:VB b)(f:SW b s):∀(es:G Evn) (fs:G Rm),(∀e∈es,EV b e)->(∀r∈fs,SW b r.s)->∀q∈eY b s r fs es,SW b q.s
 |[],fs,_,hf=>hf
 |e::es,fs,he,hf=>zy a f es _ (λx g=>he x (XX _ g)) (QI (g8 a f (he e X0)) hf)
def br(b:Bd)(es:G Evn):Nat->G Rm
 |0=>[#[eZ,.none,.none]]
 |i+1=>match(br b es i)[i]? with
  |some r=>eY b r.s i (br b es i) es
  |none=>br b es i
def pI(h:(br b es i)[i]?=M r):br b es (i+1)=eY b r.s i (br b es i) es:=by show(match(br b es i)[i]? with|some r=>eY b r.s i (br b es i) es|none=>br b es i)=_;rw[h]
def wV(h:(br b es i).length<=i):br b es (i+1)=br b es i:=by show(match(br b es i)[i]? with|some r=>eY b r.s i (br b es i) es|none=>br b es i)=_;rw[List.getElem?_eq_none h]
def yX(b:Bd)(es:G Evn)(i:Nat):br b es i<+:br b es (i+1):=by
 by_cases h:i<(br b es i).length
 .rw[pI (XM h)];show qY _ _
 .rw[wV ()];show ZY _
def na(b:Bd)(es:G Evn)(i k:Nat):br b es i<+:br b es (i+k):=by
 induction k with
 |zero=>show ZY _
 |succ k a=>show a.trans (yX b es (i+k))
def Kq(h:(br b es N).length<=N)(k:Nat):br b es (N+k)=br b es N:=by
 induction k with
 |zero=>rfl
 |succ k a=>rw[<-Y1,wV (by rw[a];ext),a]
def my(h:(br b es N).length<=N)(i:Nat):(br b es i).length<=(br b es N).length:=by
 by_cases hi:i<=N
 .let(k,rfl):=ZS hi;show(na b es i k).length_le
 .let(k,rfl):=ZS (show N<=i by ext);rw[Kq h];show XO _
def wM(h:(br b es N).length=N)(c:(br b es f).length=f):N=f:=by let e:=my (ZZ h) f;let a:=my (ZZ c) N;ext
theorem jJ(a:VB b)(f:∀e∈es,EV b e):∀i,∀r∈br b es i,SW b r.s
 |0=>λr g=>by rw[Yj.mp g];show qI b
 |i+1=>by
  by_cases h:i<(br b es i).length
  .rw[pI (XM h)];show zy a (jJ a f i _ (ZX h)) es _ f (jJ a f i)
  .rw[wV ()];show jJ a f i
def wT(b:Bd)(es:G Evn)(i:Nat):1<=(br b es i).length:=by let:=(na b es 0 i).length_le;rw[YB]at this;show this
theorem Qw(h:i<(br b es i).length):i+1<=(br b es (i+1)).length:=Ys h (yX b es i).length_le
def iM(b:Bd)(s:ZG)(e:Evn):D:=.tuple [.list ((ay b s e).2.map iK),b9 (ay b s e).1]
def mK(b:Bd)(s:ZG)(e:Evn):Cell:=.lst (((ay b s e).2.map iK).map .fz)
def Cw(b:Bd)(s:ZG):Nat->G Evn->G SV
 |_,[]=>[]
 |n,e::r=>.tp [.rf n,.fz (b9 (ay b s e).1)]::Cw b s (n+1) r
theorem y1(b:Bd)(s:ZG):∀(es:G Evn) (n:Nat) (e:Evn),Cw b s n (es++[e])=Cw b s n es++[.tp [.rf (n+es.length),.fz (b9 (ay b s e).1)]]
 |[],n,e=>rfl
 |a::r,n,e=>by show _::Cw b s (n+1) (r++[e])=_::(Cw b s (n+1) r++_);rw[y1 b s r (n+1) e,Y1,aaH 1 r.length];rfl
theorem Bb(b:Bd)(s:ZG):∀(es:G Evn) (n:Nat),(Cw b s n es).length=es.length
 |[],_=>rfl
 |_::r,n=>ec (·+1) (Bb b s r (n+1))
theorem CV(b:Bd)(s:ZG):∀(es:G Evn) (k j:aN),i9 (frz 3) (k++(es.map (mK b s)++j)) (Cw b s k.length es)=M (es.map (iM b s),k++(XU es.length .dead++j))
 |[],k,j=>rfl
 |e::r,k,j=>by
  let g:(k++(mK b s e::(r.map (mK b s)++j)))[k.length]?=M (mK b s e):=lO (t:=0);let i:frz 2 (k++(mK b s e::(r.map (mK b s)++j))) (.rf k.length)=M (.list ((ay b s e).2.map iK),k++(.dead::(r.map (mK b s)++j))):=by ext frz;rw[g];ext mK;dsimp only;rw[ng];dsimp only;let:=rL (l:=k) (r:=mK b s e::(r.map (mK b s)++j)) (t:=0) (c:=.dead);show ec (λz=>M (XG.list ((ay b s e).2.map iK),z)) this
  let h:frz 3 (k++(mK b s e::(r.map (mK b s)++j))) (.tp [.rf k.length,.fz (b9 (ay b s e).1)])=M (iM b s e,k++(.dead::(r.map (mK b s)++j))):=by
   let f:i9 (frz 2) (k++(mK b s e::(r.map (mK b s)++j))) [.rf k.length,.fz (b9 (ay b s e).1)]=M ([.list ((ay b s e).2.map iK),b9 (ay b s e).1],k++(.dead::(r.map (mK b s)++j))):=by ext i9;rw[i];rfl
   ext frz;rw[show([AV.rf k.length,AV.fz (b9 (ay b s e).1)].map AV.sv)=[.rf k.length,.fz (b9 (ay b s e).1)]from rfl,f];rfl
  let a:=CV b s r (k++[.dead]) j;rw[XJ,Yb,Yb]at a;show(match frz 3 (k++(mK b s e::(r.map (mK b s)++j))) (.tp [.rf k.length,.fz (b9 (ay b s e).1)])with
   |some (d,n)=>(match i9 (frz 3) n (Cw b s (k.length+1) r)with
    |some (ds,m)=>M (d::ds,m)
    |none=>Ld)
   |none=>Ld)=_
  rw[h];dsimp only;rw[show k++(Cell.dead::(r.map (mK b s)++j))=k++([Cell.dead]++(r.map (mK b s)++j))from rfl,show k.length+1=k.length+[Cell.dead].length from rfl,a];rfl
def zm(m:VB b)(n:SW b s){es:G Evn}(r:∀e∈es,EV b e)(z:es.length<=1000)(w:ρ[0]?=M (-(bD b)))(v:ρ[2]?=M (-(.list (es.map c9))))(u:ρ[7]?=M (-(b9 s))):
  ∃J,hG (dD 1 [0,7] (dR (eT (aa 2))) (b7 0) b6 (kK STP.iA 3 (ai (ae (aa 1)) (ai (ae (aa 2)) (ai (ae (aa 0)) aw))))) ρ ω=.ok (.fz (.list (es.map (iM b s)))) (ω++J):=by
 let A:dR (eT (aa 2)) ρ ω=.ok (es.map c9) ω:=eB (fO (ag (by ext bp;rw[XS,v];rfl)) W W);let j:d6 1 [0,7] ρ=[R,-(bD b),-(b9 s)]:=by ext d6;show R::[(ρ[0]?).join,(ρ[7]?).join]=_;rw[w,u];rfl
 let t:=ig (X:=λ_=>False) (gt:=b7 0) (ft:=b6) (fe:=kK STP.iA 3 (ai (ae (aa 1)) (ai (ae (aa 2)) (ai (ae (aa 0)) aw)))) (λi a f h=>∃o,a=[o,-(bD b),-(b9 s)]/\f=ω++(es.take i).map (mK b s)/\h=Cw b s ω.length (es.take i)) (es.map c9) 0 (d6 1 [0,7] ρ) ω [] #[R,j,by rw[abI,ZW,Yl],W] (by
  rintro i d a f h g ⟨o,rfl,rfl,rfl⟩;rw[YB];rw[XS]at g;cases q:es[i]? with
  |none=>rw[q]at g;ext g
  |some e=>
   rw[q]at g;cases X1 g;let y:=(XB.mp q).1;show#[by rw[Bb,YJ];ext,[-(c9 e),-(bD b),-(b9 s)],W,W,?_];let p:tQ STP.iA 3 [.fz (bD b),.fz (b9 s),.fz (c9 e)] (ω++(es.take i).map (mK b s))=.ok (.tp [.rf (ω++(es.take i).map (mK b s)).length,.fz (b9 (ay b s e).1)]) ((ω++(es.take i).map (mK b s))++[mK b s e]):=OC m n (r e (X3 q));show .eq (r':=RS.ok (SV.tp [.rf (ω++(es.take i).map (mK b s)).length,.fz (b9 (ay b s e).1)]) ((ω++(es.take i).map (mK b s))++[mK b s e])) ?_ #[_,W,?_,?_]
   .ext kK;rw[am (ah (ag W)) (am (ah (ag W)) (am (ah (ag W)) aA)),ej,p];rfl
   .rw[Y5,q,X2,Yb];rfl
   .rw[Y5,q];show Cw b s ω.length (es.take i)++_=Cw b s ω.length (es.take i++[e]);rw[y1,XJ,Xz])
 let(xs,l,e1,a,o,_,rfl,rfl):=t.all;rw[YB,Xz,aat]at e1;let cm:=gU A e1;let fz:frz 4 ((ω++es.map (mK b s))++[Cell.lst (Cw b s ω.length es)]) (.rf (ω++es.map (mK b s)).length)=M (.list (es.map (iM b s)),(ω++(XU es.length Cell.dead++[Cell.lst (Cw b s ω.length es)])).set (ω++es.map (mK b s)).length .dead):=by ext frz;rw[aG];dsimp only;rw[Yb,CV b s es ω [Cell.lst (Cw b s ω.length es)]]
 rw[XJ,rL]at fz;show#[_,gJ cm (by rw[XJ];show fz)]
theorem B4(f g:α->D):∀l:G α,jN (l.map f) (l.map g)=l.map λx=>.tuple [f x,g x]
 |[]=>rfl
 |x::r=>by show XG.tuple [f x,g x]::jN (r.map f) (r.map g)=_;rw[B4 f g r];rfl
def Ee{b:Bd}(z:VB b){s:ZG}(A:SW b s){es:bg Evn}(C:∀e∈es,EV b e)(Y:es.length<=1000){ρ:aR}{ω J:aN}{m:Int}{r:Nat}{fs:bg Rm}(H:0<=m)(B:m<=1000)(S:(fs.length:Int)<=m)
  (Q:ρ[2]?=cL (-(.list (es.map c9)))) (O:ρ[3]?=cL (cL (.rf ω.length))) (N:ρ[6]?=cL (-(nd r))) (M:ρ[8]?=cL (-(.list (es.map (iM b s))))):
  Out (oJ 2 [3,6] (dR (tW {aa 2,aa 8})) (Ey 2 (kh (b7 0) (kh (b7 1) uf))) b6 (jY "Places" "enter" bF 4 (aq 2) (ai (ae (aH aW (aa 1) (~~~1))) (ai (ae (aa 3)) (ai (ae (aa 0)) aw)))) ρ (lR ω m (fs.map eP) J))
   (λx c=>x=.rf (lR ω m ((eY b s r fs es).map eP) J).length/\c=lR ω m ((eY b s r fs es).map eP) (J++[.lst ((es.map λe=>nd (d8 (eY b s r fs es) (ay b s e).1)).map .fz)])/\((eY b s r fs es).length:Int)<=m)
   (λx=>x=TM m/\m<((eY b s r fs es).length:Int)):=by
 let hi:dR (tW {aa 2,aa 8}) ρ (lR ω m (fs.map eP) J)=.ok (es.map λe=>.tuple [c9 e,iM b s e]) (lR ω m (fs.map eP) J):=by
  let G:(bp ρ)[2]?=cL (-(.list (es.map c9))):=by ext bp;rw[XS,Q];rfl
  let E:(bp ρ)[8]?=cL (-(.list (es.map (iM b s)))):=by ext bp;rw[XS,M];rfl
  rw[<-B4];show eB (qJ (d:=.list (es.map c9)) (e:=.list (es.map (iM b s))) (aj (ag G) (aj (ag E) aB)) W W W)
 let y:d6 2 [3,6] ρ=[Ld,Ld,cL (.rf ω.length),-(nd r)]:=by ext d6;show Ld::Ld::[(ρ[3]?).join,(ρ[6]?).join]=_;rw[O,N];rfl
 show AB hi (Out.imp (ig (λi f c l=>∃u p,f=[u,p,cL (.rf ω.length),-(nd r)]/\c=lR ω m ((eY b s r fs (es.take i)).map eP) J/\l=((es.take i).map λe=>nd (d8 (eY b s r fs es) (ay b s e).1)).map .fz/\((eY b s r fs (es.take i)).length:Int)<=m) (es.map λe=>.tuple [c9 e,iM b s e]) 0 (d6 2 [3,6] ρ) (lR ω m (fs.map eP) J) [] #[Ld,Ld,y,W,W,S] ?_) ?_)
 .rintro i d f c l j ⟨u,p,rfl,rfl,rfl,hle⟩
  rw[YB]at hle⊢;rw[XS]at j;cases q:es[i]? with
  |none=>rw[q]at j;ext j
  |some e=>
   rw[q]at j;cases X1 j;let X:=(XB.mp q).1;let w:=C e (X3 q);let g:=g8 z A w;let rt:=xM (b:=b) (s:=s) (r:=r) (fs:=fs) q;let h:=yB (b:=b) (s:=s) (r:=r) es fs (i+1);let R:=zy z A (r:=r) (es.take i) fs (λx L=>C x (aeL L));generalize hF:eY b s r fs (es.take i)=F at hle rt;show#[by rw[Xz,Xz,YJ];ext,[-(c9 e),-(iM b s e),cL (.rf ω.length),-(nd r)],W,W,?_];let I:(F.map eP).length<100000:=by rw[Xz];ext
   let P:PSt ω.length (ω.length+1) (ω.length+2) m (F.map eP) (lR ω m (F.map eP) J):=AA I;let T:=uK (b:=nd r) (e:=c9 e) P (xp H B) B (kQ g);let K:aW (iM b s e) (.int 1)=-(b9 (ay b s e).1):=kJ;let a:=CW (n:=4) (m:= "enter") (F:=bF) (fo:=aq 2) (fa:=ai (ae (aH aW (aa 1) (~~~1))) (ai (ae (aa 3)) (ai (ae (aa 0)) aw))) (ρ:=[-(c9 e),-(iM b s e),cL (.rf ω.length),-(nd r)]) (xs:=[.fz (b9 (ay b s e).1),.fz (nd r),.fz (c9 e)]) (aL W) P.o ur (am (ah (aF (rv:=.fz (b9 (ay b s e).1)) (ag W) aD W W K)) (am (ah (ag W)) (am (ah (ag W)) aA))) W;rw[T]at a;let v:=Bl h (s:=(ay b s e).1) (t:=d8 F (ay b s e).1) (by rw[rt];show qS g _ _);let U:((es.take (i+1)).map λe=>nd (d8 (eY b s r fs es) (ay b s e).1)).map SV.fz=((es.take i).map λe=>nd (d8 (eY b s r fs es) (ay b s e).1)).map .fz++[.fz (nd (d8 F (ay b s e).1))]:=by rw[Y5,q,X2,X2];show _++[SV.fz (nd (d8 (eY b s r fs es) (ay b s e).1))]=_;rw[v]
   rw[U,rt];cases o:b8 (F.map eP) (b9 (ay b s e).1)with
   |some t=>
    rw[o]at a;let e1:kI F (ay b s e).1 (nd r) (c9 e)=F:=by ext kI;rw[o];rfl
    let e2:d8 F (ay b s e).1=t:=by ext d8;rw[o];rfl
    rw[e1,e2];show .eq a #[_,_,W,W,W,hle]
   |none=>
    rw[o]at a;let e1:kI F (ay b s e).1 (nd r) (c9 e)=F++[#[(ay b s e).1,nd r,c9 e]]:=by ext kI;rw[o];rfl
    let e2:d8 F (ay b s e).1=F.length:=by ext d8;rw[o];rfl
    dsimp only at a;rw[Xz]at a;by_cases hm:m<=(F.length:Int)
    .rw[ax hm]at a;show .eq a #[W,?_];let:=h.length_le;rw[rt,e1,XJ]at this;let this:F.length+1<=_:=this;ext
    .rw[aE hm,BM]at a;rw[e1,e2];show .eq a #[_,_,W,by rw[X2];rfl,W,?_];rw[XJ];show((F.length+1:Nat):Int)<=m;ext
 .rintro xs c ⟨f,u,p,_,rfl,rfl,hle⟩;rw[YB,Xz,aat] at*;show#[W,?_,hle];ext lR;rw[Yb];rfl
def kz(h:Out r T X)(k:∀a c,T a c->T' a c)(b:∀x,X x->X' x):Out r T' X':=by
 show#[?_];let h:=h.out;cases r with
 |bad=>show h
 |er x o=>show b x h
 |ok a o=>show k a o h
def Fe(b:Bd)(es:G Evn)(j:Nat):D:=match(br b es j)[j]? with
 |some r=>.tuple (es.map λe=>nd (d8 (br b es (j+1)) (ay b r.s e).1))
 |none=>.none
def pZ(b:Bd)(es:G Evn)(j:Nat):D:=match(br b es j)[j]? with
 |some r=>.tuple (es.map λe=>.tuple ((ay b r.s e).2.map iK))
 |none=>.none
def iE(b:Bd)(es:G Evn)(n:Nat):G D:=(XD n).map (Fe b es)
def a9(b:Bd)(es:G Evn)(n:Nat):G D:=(XD n).map (pZ b es)
def tT(a:aN)(m:Int)(b:Bd)(es:G Evn)(n:Nat)(J:aN):aN:=lR a m ((br b es n).map eP) (.lst ((iE b es n).map .fz):: .lst ((a9 b es n).map .fz)::J)
def rb:lR o m fs (J++K)=lR o m fs J++K:=by ext lR;rw[Yb];rfl
def Bo:(lR o m fs J).length=o.length+3+J.length:=by ext lR;rw[XJ];show o.length+(J.length+1+1+1)=_;ext
theorem Xj{n:Nat}{v:SV}(h:xs[n]?=M v):lJ xs (n:Int)=M v:=vR () (by rw[YV];show h)
abbrev W9(b:Bd)(m:Int)(es:G Evn)(l:Nat)(f e a:z SV):aR:=[-(bD b),-(.int m),-(.list (es.map c9)),M (.rf l),M (.rf (l+3)),M (.rf (l+4)),f,e,a]
def si(B:VB b){n:Nat}(k:b.n=n)(s:n<=5)(T:0<=m)(S:m<=1000)(a:aN):Out (iu [.fz (bD b),.fz (.int m)] a) (λv c=>∃N J,(br b (aX n) N).length=N/\(N:Int)<=m/\v=.tp [.rf (a.length+2),.rf (a.length+4),.rf (a.length+5)]/\c=tT (a++[.dead]) m b (aX n) N J) (λx=>x=TM m/\∃i,m<((br b (aX n) i).length:Int)):=by
 let p:(aX n).length<=1000:=by ext aX;rw[XJ,XJ,Xz,Xz,XW];show n+n+1<=_;ext
 let l:=wo k;let ev:=Rr k s;generalize aX n=es at p l ev;show pf W ?_;ext kH;let e1:hG (ae (eA gC 1 {aa 0})) [-(bD b),-(.int m),Ld,Ld,Ld,Ld,Ld,Ld,Ld] a=.ok (.fz (.list (es.map c9))) (a++[.dead]):=by show gJ (cG (cS (aj (ag W) aB) W W ev)) ?_;rw[fL aG,c8]
 show dc e1 W ?_;let X:(a++[Cell.dead]).length=a.length+1:=by rw[XJ];rfl
 let r2:a.length+2=(a++[Cell.dead]).length+1:=by ext
 let r4:a.length+4=(a++[Cell.dead]).length+3:=by ext
 let r5:a.length+5=(a++[Cell.dead]).length+4:=by ext
 rw[r2,r4,r5];generalize a++[Cell.dead]=base;let R:=zE (C:= "Places") (F:=cC) (fa:=ai (ae (pC (.tuple [(.tuple []),.none,.none]))) (ai (ae (aa 1)) aw)) (ρ:=[-(bD b),-(.int m),-(.list (es.map c9)),Ld,Ld,Ld,Ld,Ld,Ld]) (ω:=base) (am (ah (d:=b9 eZ) (show _=Res.ok (PV.fz (.tuple [.tuple [],.none,.none]),_)from aD)) (am (ah (ag W)) aA)) W;rw[Hg (kQ (qI b)) T S]at R;show w6 (.eq R ?_);by_cases hm:m<=0
 .rw[ax hm];show#[W,0,by show m<1;ext]
 rw[aE hm];show Out.eq W #[?_];show kg _ _ _ _;show dc (ρ1:=[-(bD b),-(.int m),-(.list (es.map c9)),cL (.rf base.length),cL (.rf (base.length+3)),Ld,Ld,Ld,Ld]) ((cG (by ext:0)).trans (by rw[Bo,<-rb];rfl)) W ?_;show dc (ρ1:=W9 b m es base.length Ld Ld Ld) ((cG (by ext:0)).trans (by rw[Bo,<-rb];rfl)) W ?_;show jS (xw (λn o f=>∃J j h g,o=W9 b m es base.length j h g/\f=tT base m b es n J/\n<=(br b es n).length/\((br b es n).length:Int)<=m) 1000 () #[[],Ld,Ld,Ld,W,W,YC _,by show(1:Int)<=m;ext] ?_);rintro n o f ⟨J,j,h,g,rfl,rfl,hle,hlm⟩;let L:=jJ B l n;let lF:((br b es n).map eP).length<100000:=by rw[Xz];ext
 let P:PSt base.length (base.length+1) (base.length+2) m ((br b es n).map eP) (tT base m b es n J):=AA lF;let g3:(tT base m b es n J)[base.length+3]?=cL (.lst ((iE b es n).map .fz)):=lO;let Q:(iE b es n).length=n:=by ext iE;rw[Xz,XW]
 let dl:(a9 b es n).length=n:=by ext a9;rw[Xz,XW]
 let z:∀{j h g:b3 SV},ji cA (ai (aq 4) aw) (W9 b m es base.length j h g) (tT base m b es n J)=.ok (.fz (nd n)) (tT base m b es n J):=mf (am (aL W) aA) (by ext au;rw[cP g3];rfl) ((dZ _).trans (by rw[Q]));let I:∀{j h g:b3 SV},aK "Places" "found" (aq 3) (W9 b m es base.length j h g) (tT base m b es n J)=.ok (.rf (base.length+1)) (tT base m b es n J):=cY (aL W) P.o uS;let M:ji cA (ai (aK "Places" "found" (aq 3)) aw) (W9 b m es base.length j h g) (tT base m b es n J)=.ok (.fz (nd (br b es n).length)) (tT base m b es n J):=mf (am I aA) (by ext au;rw[cP P.f];rfl) ((dZ _).trans (by rw[Xz,Xz]));let q:=aV (cK z M (bX (pH (n:Int) ((br b es n).length:Int))));by_cases y:n<(br b es n).length
 case neg=>
  rw[a5 ()]at q;show .inl #[_,q,?_];let nN:(br b es n).length=n:=by ext
  show vT (HI (am I (am (aL W) (am (aL W) aA))) (XQ W) W W) #[n,J,nN,by ext,W,W]
 case pos=>
  rw[a4 ()]at q;show .inr #[by ext,_,q,?_];obtain⟨r,w⟩:∃r,(br b es n)[n]?=cL r:=#[_,XM y];let u:=L r (X3 w);show dc (x:=.fz (nd n)) (ρ1:=W9 b m es base.length (-(nd n)) h g) z W ?_;let st:eD (eD (aK "Places" "found" (aq 3)) (ae (aa 6))) (ae (~~~0)) (W9 b m es base.length (-(nd n)) h g) (tT base m b es n J)=.ok (.fz (b9 r.s)) (tT base m b es n J):=bB (dx:=ub (eP r)) (pd I (ah (d:=nd n) (ag W)) W P.f (Xj (by rw[XS,XS,XS,w];rfl))) (ah aD) iO;show dc (x:=.fz (b9 r.s)) (ρ1:=W9 b m es base.length (-(nd n)) (-(b9 r.s)) g) st W ?_;let(O,ha):=zm B u l p (ρ:=W9 b m es base.length (-(nd n)) (-(b9 r.s)) g) (ω:=tT base m b es n J) W W W;show dc (x:=.fz (.list (es.map (iM b r.s)))) (ρ1:=W9 b m es base.length (-(nd n)) (-(b9 r.s)) (-(.list (es.map (iM b r.s))))) ha W ?_;let eJ:tT base m b es n J++O=tT base m b es n (J++O):=by ext tT;rw[<-rb];rfl
  rw[eJ];generalize J++O=J;let A:=Ee B u l p (ρ:=W9 b m es base.length (-(nd n)) (-(b9 r.s)) (-(.list (es.map (iM b r.s))))) (ω:=base) (J:=.lst ((iE b es n).map .fz):: .lst ((a9 b es n).map .fz)::J) (m:=m) (r:=n) (fs:=br b es n) T S hlm W W W W;rw[<-pI w]at A;let G:Fe b es n=.tuple (es.map λe=>nd (d8 (br b es (n+1)) (ay b r.s e).1)):=by ext Fe;rw[w]
  let H:pZ b es n=.tuple (es.map λe=>.tuple ((ay b r.s e).2.map iK)):=by ext pZ;rw[w]
  let E:iE b es (n+1)=iE b es n++[Fe b es n]:=by ext iE;rw[Z8,X2];rfl
  let K:a9 b es (n+1)=a9 b es n++[pZ b es n]:=by ext a9;rw[Z8,X2];rfl
  let A:=kz A (T':=λx c=>∃ds,sh c x=cL (.list ds)/\(∃ys,c[base.length+3]?=cL (.lst ys)/\ys.length<1000000/\kg (bh (jr (aq 5) (ae (eE d9 {de 1 [] (eT (aa 8)) (gN 0) cz (eE d9 {aH aW (aa 0) (~~~0)})}))) (W9 b m es base.length (-(nd n)) (-(b9 r.s)) (-(.list (es.map (iM b r.s))))) (c.set (base.length+3) (.lst (ys++[.fz (.tuple ds)])))) (λo f=>∃J j h g,o=W9 b m es base.length j h g/\f=tT base m b es (n+1) J/\n+1<=(br b es (n+1)).length/\((br b es (n+1)).length:Int)<=m) (λv c=>∃N J,(br b es N).length=N/\(N:Int)<=m/\v=.tp [.rf (base.length+1),.rf (base.length+3),.rf (base.length+4)]/\c=tT base m b es N J) (λx=>x=TM m/\∃i,m<((br b es i).length:Int)))) (X':=λx=>x=TM m/\∃i,m<((br b es i).length:Int)) ?_ (λx U=>#[U.1,n+1,U.2])
  .show Fc (LR (i:=base.length+3) (aL W) (lO (t:=3)) (NU A))
  rintro x c ⟨rfl,rfl,hm'⟩;show#[es.map λe=>nd (d8 (br b es (n+1)) (ay b r.s e).1),?_,(iE b es n).map .fz,lO (t:=3),by rw[Xz,Q];ext,?_]
  .show cP ?_;rw[rb];show aG
  .let Z:(lR base m ((br b es (n+1)).map eP) ((.lst ((iE b es n).map .fz):: .lst ((a9 b es n).map .fz)::J)++[.lst ((es.map λe=>nd (d8 (br b es (n+1)) (ay b r.s e).1)).map .fz)])).set (base.length+3) (.lst ((iE b es n).map SV.fz++[.fz (.tuple (es.map λe=>nd (d8 (br b es (n+1)) (ay b r.s e).1)))]))=lR base m ((br b es (n+1)).map eP) (.lst ((iE b es (n+1)).map .fz):: .lst ((a9 b es n).map .fz)::(J++[.lst ((es.map λe=>nd (d8 (br b es (n+1)) (ay b r.s e).1)).map .fz)])):=by
    ext lR;rw[rL,E,G,X2];rfl
   rw[Z];generalize J++[Cell.lst ((es.map λe=>nd (d8 (br b es (n+1)) (ay b r.s e).1)).map .fz)]=J;let cm:j4 (di (gN 0) cz (eE d9 {aH aW (aa 0) (~~~0)}) (es.map (iM b r.s)) [Ld] [])=.ok (es.map λe=>.tuple ((ay b r.s e).2.map iK)):=hV (cp:=[]) (iM b r.s) (λe=>.tuple ((ay b r.s e).2.map iK)) es p W λe _=>by let i0:aW (iM b r.s e) (.int 0)=-(.list ((ay b r.s e).2.map iK)):=iO;show cX (rv:=.fz (.tuple ((ay b r.s e).2.map iK))) (ds:=[.list ((ay b r.s e).2.map iK)]) (aj (aF (rv:=.fz (.list ((ay b r.s e).2.map iK))) (ag W) aD W W i0) aB) W W
   let Y:(lR base m ((br b es (n+1)).map eP) (.lst ((iE b es (n+1)).map .fz):: .lst ((a9 b es n).map .fz)::J))[base.length+4]?=cL (.lst ((a9 b es n).map .fz)):=lO (t:=4);let ap:=sR (ρ:=W9 b m es base.length (-(nd n)) (-(b9 r.s)) (-(.list (es.map (iM b r.s))))) (fo:=aq 5) (fe:=ae (eE d9 {de 1 [] (eT (aa 8)) (gN 0) cz (eE d9 {aH aW (aa 0) (~~~0)})})) (x:=.fz (pZ b es n)) (aL W) Y (by rw[H];show ah (cX (rv:=.fz (.tuple (es.map λe=>.tuple ((ay b r.s e).2.map iK)))) (ds:=[.list (es.map λe=>.tuple ((ay b r.s e).2.map iK))]) (aj (dz (cs:=[]) (ds:=es.map (iM b r.s)) (fO (d:=.list (es.map (iM b r.s))) (ag W) W W) W cm) aB) W W)) Y (by rw[Xz,dl];ext);show wG (hJ ap) #[J,_,_,_,W,?_,Qw y,hm'];unfold tT lR;rw[rL,K,X2];rfl
def uA(e:VB b){n:Nat}(d:b.n=n)(j:n<=5)(g:0<=m)(f:m<=1000)(a:aN):Out (dM [.fz (bD b),.fz (.int m)] a) (λv c=>∃N i K,(br b (aX n) N).length=N/\(N:Int)<=m/\v=.rf (a.length+i)/\c=a++K/\K[i]?=M (.lst ((((br b (aX n) N).map eP).map ub).map .fz))) (λx=>x=TM m/\∃i,m<((br b (aX n) i).length:Int)):=by show pf W ?_;ext mV;show A5 ?_;let p:=yc (F:=iu) (es:=[]) (fa:=ai (ae (aa 0)) (ai (ae (aa 1)) aw)) (ρ:=[-(bD b),-(.int m)]) (ω:=a) (am (ah (ag W)) (am (ah (ag W)) aA)) W;show Out.bind (.eq p ((si e d j g f a).imp λv c h=>?_));let(N,J,o,l,rfl,rfl):=h;show .eq (r':=RS.ok (SV.rf (a.length+2)) (tT (a++[.dead]) m b (aX n) N J)) ?_ #[N,2,_,o,l,W,(by unfold tT lR;rw[Yb]),W];rw[ah aD,ej];rfl
def Cn(c:Nat->Nat):Nat->Nat
 |0=>0
 |l+1=>max (Cn c l) (c l+1)
def RG(c:Nat->Nat)(n:Nat):Prop:=∀i,i<n->c i<=Cn c i
section
variable{c f:Nat->Nat}{n:Nat}
theorem pp(l:Nat):Cn c (l+1)=max (Cn c l) (c l+1):=W
def vA(k:Nat):Cn c i<=Cn c (i+k):=by
 induction k with
 |zero=>show XO _
 |succ k a=>rw[<-Y1,pp];ext
def EF(h:i<=j):Cn c i<=Cn c j:=by let(k,rfl):=ZS h;show vA k
def jt(h:i<l):c i<Cn c l:=by let:=EF (c:=c) h;rw[pp]at this;ext
theorem Ec(h:RG c n):∀l,l<=n->Cn c l<=l
 |0,_=>XO _
 |l+1,e=>by let b:=Ec h l ();let a:=h l ();rw[pp];ext
theorem kR(h:RG c n):∀l,l<=n->k<Cn c l->∃i,i<l/\c i=k/\Cn c i=k
 |0,_,j=>a7 j (acY _)
 |l+1,m,j=>by
  by_cases e:k<Cn c l
  .let(i,a,b):=kR h l () e;show#[i,by ext,b]
  .let g:=h l ();rw[pp]at j;show#[l,by ext,by ext,by ext]
def MH(p:RG c n)(a:RG f n)(o:∀i j,i<n->j<n->f i=f j->c i=c j)(s:Cn f n<=Cn c n):∀i,i<n->f i=c i:=by
 let new:∀l,l<n->c l=Cn c l->f l=Cn f l:=λl g e=>by
  by_cases q:f l<Cn f l
  .let(j,h,b,_):=kR a l () q;let:=o j l () g b;let:=jt (c:=c) h;ext
  .let:=a l g;ext
 let d:∀l k,l+k<=n->Cn f l+Cn c (l+k)<=Cn f (l+k)+Cn c l:=by
  intro l k
  induction k with
  |zero=>intro _;show XO _
  |succ k m=>
   intro z;let y:=m ();rw[<-Y1,pp,pp];let u:=p (l+k) ();let r:=a (l+k) ();by_cases q:c (l+k)=Cn c (l+k)
   .let:=new (l+k) () q;ext
   .omega
 let e:∀l,l<=n->Cn f l=Cn c l:=λl g=>by let(k,rfl):=ZS g;let t:=d 0 l ();let A:=d l k (XO _);rw[YB]at t;let w:Cn f 0=0:=W;let v:Cn c 0=0:=W;ext
 intro i
 induction i using Nat.strongRecOn with
 |ind i m=>
  intro B;let e0:=e i ();let e1:=e (i+1) ();rw[pp,pp]at e1;let u:=p i B;let r:=a i B;by_cases q:f i<Cn f i
  .let(j,h,b,_):=kR a i () q;rw[<-b,m j h (),o j i () B b]
  .omega
def ON:Nat->G Nat->Prop
 |_,[]=>True
 |m,s::r=>s<=m/\ON (max m (s+1)) r
def BL(m:Nat)(r:G Nat):Nat:=r.foldl (λm s=>max m (s+1)) m
theorem MX(m s:Nat)(r:G Nat):BL m (s::r)=BL (max m (s+1)) r:=W
theorem yg:∀{m:Nat} (r:G Nat),m<=BL m r/\∀s∈r,s<BL m r
 |m,[]=>#[XO _,λ_ h=>nomatch h]
 |m,s::r=>by
  let(e,b):=yg (m:=max m (s+1)) r;rw[MX];show#[by ext,λx a=>?_];rcases Yi.mp a with rfl|a
  .omega
  .show b x a
end
def tP(fs:G Pl)(d:D):G Pl:=if(b8 fs d).isSome=P then fs else fs++[#[d,.none,.none]]
def tZ(fs:G Pl)(d:D):Nat:=(b8 fs d).getD fs.length
def fR(ds:G D):G Pl:=ds.foldl tP []
def xh(ds:G D)(i:Nat):Nat:=tZ (fR (ds.take i)) (ds[i]?.getD .none)
def Tg(ds:G D):G Nat:=(XD ds.length).map (xh ds)
theorem mz:∀{fs:G Pl} {d:D} {t:Nat},b8 fs d=M t->∃q,fs[t]?=M q/\XG.eqv q.p d=P
 |[],_,_,h=>by ext h
 |a::r,d,t,h=>by
  unfold b8 at h;split at h
  .rename_i e;ext h;show#[a,W,e]
  .cases q:b8 r d with
   |none=>rw[q]at h;ext h
   |some j=>rw[q]at h;ext h;let(x,f,b):=mz q;show#[x,by simpa using f,b]
def om(h:ds[i]?=M d):fR (ds.take (i+1))=tP (fR (ds.take i)) d/\xh ds i=tZ (fR (ds.take i)) d:=by
 show#[?_,?_]
 .ext fR;rw[Y5,h,aci];rfl
 .ext xh;rw[h];rfl
def BS(fs:G Pl)(d:D):(tP fs d).length=max fs.length (tZ fs d+1)/\tZ fs d<=fs.length:=by
 unfold tP tZ;cases q:b8 fs d with
 |none=>rw[aE (by nofun),XJ];show fs.length+1=max fs.length (fs.length+1)/\fs.length<=fs.length;ext
 |some t=>let(x,a,_):=mz q;let:=(XB.mp a).1;rw[ax (show(M t).isSome=P from rfl)];show fs.length=max fs.length (t+1)/\t<=fs.length;ext
theorem rV(ds:G D):∀i,i<=ds.length->(fR (ds.take i)).length=Cn (xh ds) i
 |0,_=>by rw[abI];rfl
 |i+1,h=>by let a:=XM (show i<ds.length by ext);let(e1,e2):=om a;rw[e1,(BS _ _).1,rV ds i (),pp,e2]
theorem GG(ds:G D):RG (xh ds) ds.length:=λi h=>by rw[<-rV ds i (),(om (XM h)).2];show(BS _ _).2
def Ha(fs:G Pl)(d:D):fs<+:tP fs d:=by
 ext tP;split
 .show ZY _
 .show aff _ _
def GY(ds:G D)(i k:Nat):fR (ds.take i)<+:fR (ds.take (i+k)):=by
 induction k with
 |zero=>show ZY _
 |succ k a=>
  rw[<-Y1];cases q:ds[i+k]? with
  |none=>let b:=List.getElem?_eq_none_iff.mp q;rw[show ds.take (i+k+1)=ds.take (i+k) by rw[abm (),abm b]];show a
  |some d=>rw[(om q).1];show a.trans (Ha _ _)
def qL(h:fs<+:gs)(q:b8 fs p=M t):b8 gs p=M t:=by let(l,rfl):=h;show rc q
def EH(h:LD.keyD d=P):b8 (tP fs d) d=M (tZ fs d):=by
 unfold tP tZ;cases q:b8 fs d with
 |none=>rw[aE (by nofun)];show rE q (qQ h)
 |some t=>rw[ax (show(M t).isSome=P from rfl),q];rfl
theorem uF(b:aN)(a:A):RS.YD b (M a)=.ok a b:=W
def EN(a:∀d∈ds,LD.keyD d=P)(h:ds[i]?=M d)(k:Nat):b8 (fR (ds.take (i+1+k))) d=M (xh ds i):=by let(e1,e2):=om h;show qL (GY ds (i+1) k) ?_;rw[e1,e2];show EH (a d (X3 h))
def tE(h:LD.keyD d=P):LD.kd d=P:=by
 cases d with
 |tuple xs=>unfold LD.keyD at h;rw[Xy]at h;show h.1
 |_=>simp[LD.keyD]at h
theorem vv{ds:G D}(a:∀d∈ds,LD.keyD d=P):∀i,i<=ds.length->∀q∈fR (ds.take i),LD.keyD q.p=P
 |0,_,q,b=>by rw[abI]at b;ext b
 |i+1,h,q,b=>by
  let e:=XM (show i<ds.length by ext);rw[(om e).1]at b;unfold tP at b;split at b
  .show vv a i () q b
  .rcases YF.mp b with b|b
   .show vv a i () q b
   .rw[Yj.mp b];show a _ (ZX _)
def Om(a:∀d∈ds,LD.keyD d=P)(c:ds[i]?=M d)(m:ds[j]?=M e):xh ds i=xh ds j↔d=e:=by
 let t:=(XB.mp c).1;let r:=(XB.mp m).1;let(k,v):=ZS (show i+1<=ds.length from t);let(l,u):=ZS (show j+1<=ds.length from r);let f:=EN a c k;let b:=EN a m l;rw[v]at f;rw[u]at b;constructor
 .intro z;rw[z]at f;let(q,p,y):=mz f;let(A,o,w):=mz b;rw[p]at o;ext o;let n:=tE (vv a _ (XO _) q (X3 p));let h:=tE (a d (X3 c));let g:=tE (a e (X3 m));rw[<-LD.kd_eqv _ _ n h y,<-LD.kd_eqv _ _ n g w]
 .rintro rfl;rw[f]at b;show X1 b
def vo(h:LD.keyD d=P):kO (.fz d)=M d:=by
 cases d with
 |tuple xs=>ext kO;dsimp only;rw[ax h]
 |_=>simp[LD.keyD]at h
def pN(v:frz 4 (C++[.dd []]) x=M (.list ds,ω1++[.dd []]))(j:ω1.length=C.length)(u:∀d∈ds,LD.keyD d=P)(s:ds.length<=1000):
  dB [x] C=.ok (.rf (C.length+1)) (ω1++[.dd (dH 0 (fR ds)),.lst ((Tg ds).map λc=>.fz (nd c))]):=by
 let p:ez (aq 0) [M x,M (.rf C.length)] (C++[.dd []])=.ok ds (ω1++[.dd []]):=by ext ez;rw[aL W,ej,v];rfl
 let h:Out (bL (b7 0) b6 (uw (aq 1) (ae (aa 0)) (mi (aq 1))) ds [R,M (.rf C.length)] (ω1++[.dd []]) []) (λxs a=>∃b:aR,(∃o,b=[o,M (.rf C.length)])/\a=ω1++[.dd (dH 0 (fR (ds.take (0+ds.length))))]/\xs=((XD (0+ds.length)).map (xh ds)).map λc=>.fz (nd c)) λ_=>False:=by
  show ig (λk B a f=>(∃o,B=[o,M (.rf C.length)])/\a=ω1++[.dd (dH 0 (fR (ds.take k)))]/\f=((XD k).map (xh ds)).map λc=>.fz (nd c)) ds 0 _ _ _ #[#[R,W],W,W] ?_;rintro i d B a f A ⟨⟨o,rfl⟩,rfl,rfl⟩;rw[YB];let w:=(XB.mp A).1;show#[by rw[Xz,Xz,XW];ext,[-(d),M (.rf C.length)],W,W,?_];let kd:=u d (X3 A);let(e1,e2):=om A;let m:=rV ds i ();let y:=Ec (GG ds) i ();rw[e1];let l:((XD (i+1)).map (xh ds)).map (λc=>SV.fz (nd c))=((XD i).map (xh ds)).map (λc=>SV.fz (nd c))++[.fz (nd (tZ (fR (ds.take i)) d))]:=by rw[Z8,X2,X2,afg,afg,e2]
  rw[l];generalize fR (ds.take i)=fs at m⊢;let g:(ω1++[Cell.dd (dH 0 fs)])[C.length]?=M (.dd (dH 0 fs)):=by rw[<-j];show aG
  let n:mi (aq 1) [-(d),M (.rf C.length)] (ω1++[Cell.dd (dH 0 fs)])=.ok (.fz (nd fs.length)) (ω1++[Cell.dd (dH 0 fs)]):=by ext mi;rw[aL W,ej,uV g];show RS.ok (SV.fz (.int (dH 0 fs).length)) _=_;rw[qZ]
  let r:(dH 0 fs).length<1000000:=by rw[qZ];ext
  let ev:uw (aq 1) (ae (aa 0)) (mi (aq 1)) [-(d),M (.rf C.length)] (ω1++[Cell.dd (dH 0 fs)])=.ok (.fz (nd (tZ fs d))) (ω1++[Cell.dd (dH 0 (tP fs d))]):=by
   ext uw;rw[aL W,ej,uV g,uF,ej,ah (ag W),ej,n,ej,vo kd,uF,ej,show S4 (.fz (nd fs.length))=M (nd fs.length)from rfl,uF,ej,uV g,uF,ej];rw[ax r,ky];unfold tZ tP;cases q:b8 fs d with
   |some t=>rw[ax (show(M t).isSome=P from rfl)];show RS.ok (SV.fz (nd (0+t))) _=_;rw[YB];rfl
   |none=>rw[aE (by nofun)];rw[Bg q,<-j,c8];rfl
  show .eq ev #[#[_,W],W,W]
 let(xs,a,e,b,_,rfl,rfl):=h.all;rw[YB,aat]at e;show iH W ?_;ext iw;rw[cx (kL W W)];show(gK (gU p e)).trans ?_;rw[Yb,XJ,j];rfl
def C3(St:Nat->G Nat)(r:Nat):D:=.tuple ((St r).map nd)
def rY(c:Nat->Nat)(St:Nat->G Nat)(r:Nat):D:=.tuple [nd (c r),.tuple ((St r).map λs=>nd (c s))]
abbrev xg(St:Nat->G Nat)(N:Nat)(a:D)(q:Nat):G (Str×SV):=[("steps",.fz (.list ((XD N).map (C3 St)))),("sends",.fz a),("rounds",.rf q)]
def clC(c:Nat->Nat)(N:Nat):Cell:=.lst ((XD N).map λi=>SV.fz (nd (c i)))
section
variable{N:Nat}{St:Nat->bg Nat}{c:Nat->Nat}{Y:aN}{o q t r:Nat}{X:bg SV}{T:D}
def cI(h:r<N):((XD N).map f)[r]?=M (f r):=by rw[XS,List.getElem?_range h];rfl
theorem Cr(a:Y[t]?=M (clC c N))(h:r<N)(d:J C Y=.ok (.rf t) Y)(b:fb C Y=.ok (.fz (nd r)) Y):eD J fb C Y=.ok (.fz (nd (c r))) Y:=
 pd d b W a (zM (cI h))
def Kg(f:Y[o]?=M (.obj "Sorting" (xg St N T q)))(i:Y[q]?=M (.lst (X++[.rf t])))(b:Y[t]?=M (clC c N))(e:r<N)(h:∀s∈St r,s<N)(l:(St r).length<=1000):
  ∃C,a8 [.rf o,.fz (nd r)] Y=.ok (.fz (rY c St r)) (Y++[C]):=by
 show#[.lst (((St r).map λs=>nd (c s)).map .fz),iH W ?_];let e0:eD (aK "Sorting" "rounds" (aq 0)) (ae (Ak nY (~~~1))) [M (.rf o),-(nd r),R] Y=.ok (.rf t) Y:=pd (cY (aL W) f W) (ah (yE (rv:=.fz (.int (-1))) aD W W)) W i (ny _ _);show cx (kL e0 W) ?_;let g:ez (eD (aK "Sorting" "steps" (aq 0)) (ae (aa 1))) [M (.rf o),-(nd r),M (.rf t)] Y=.ok ((St r).map nd) Y:=by ext ez;rw[bB (cY (aL W) f W) (ah (ag W)) (tV (cI e)),ej];rfl
 let cm:bL (b7 0) b6 (eD (aq 1) (ae (aa 0))) ((St r).map nd) [R,M (.rf t)] Y []=.ok ([]++(St r).map λs=>SV.fz (nd (c s))) Y:=by show ib nd (λs=>SV.fz (nd (c s))) Y (λm=>∃o,m=[o,M (.rf t)]) (St r) _ [] #[_,W] (by show 0+_<=_;ext) ?_;rintro s a m ⟨x,rfl⟩;show#[[-(nd s),M (.rf t)],W,W,Cr b (h s a) (aL W) (ah (ag W)),_,W]
 rw[Z7]at cm;let j:=gU (n:=1) (fj:=[2]) g cm;show gK (oA (am (Cr b e (aL W) (ah (ag W))) (am (mf (ds:=[.list ((St r).map λs=>nd (c s))]) (am (by rw[Yg];show j) aA) ?_ W) aA)) (by show 2<=1000;ext));let:sh (Y++[.lst (((St r).map λs=>nd (c s)).map .fz)]) (.rf Y.length)=M (.list ((St r).map λs=>nd (c s))):=cP aG;ext au;rw[this];rfl
def lC(h:N<=1000):fP [nd N]=M ((XD N).map nd):=by show(if jI (N:Int)then M (L3.fM 0 (N:Int).toNat)else R)=_;rw[ax #[by ext,by ext],YV];congr 1;show Zz λk _=>?_;rw[aiq]
def Gj(p:Y[o]?=M (.obj "Sorting" (xg St N T q)))(y:Y[q]?=M (.lst (X++[.rf t])))(w:Y[t]?=M (clC c N))(u:∀r,r<N->(St r).length<=1000/\∀s∈St r,s<N)(z:N<=1000)(g:ρ[0]?=M (M (.rf o))):
  ∃K,dD 1 [0] (jH (ji cA (ai (aK "Sorting" "steps" (aq 0)) aw))) (b7 0) b6 (aM "Sorting" "mark_of" a8 2 (aq 1) (ai (ae (aa 0)) aw)) ρ Y=.ok (.rf (Y++K).length) (Y++K++[.lst (((XD N).map (rY c St)).map .fz)]):=by
 let v:jH (ji cA (ai (aK "Sorting" "steps" (aq 0)) aw)) ρ Y=.ok ((XD N).map nd) Y:=by ext jH;rw[mf (am (cY (aL g) p W) aA) W (by show M (RV.fz (.int ((XD N).map (C3 St)).length))=_;rw[Xz,XW]),ej,show S4 (.fz (nd N))=M (nd N)from rfl,uF,ej,lC z,uF]
 let n:Out (bL (b7 0) b6 (aM "Sorting" "mark_of" a8 2 (aq 1) (ai (ae (aa 0)) aw)) ((XD N).map nd) [R,M (.rf o)] Y []) (λxs a=>∃b:aR,(∃x,b=[x,M (.rf o)])/\(∃K,a=Y++K)/\xs=((XD (0+((XD N).map nd).length)).map (rY c St)).map .fz) λ_=>False:=by
  show ig (λk ρ a l=>(∃x,ρ=[x,M (.rf o)])/\(∃K,a=Y++K)/\l=((XD k).map (rY c St)).map .fz) _ 0 _ _ _ #[#[R,W],#[[],by rw[Yl]],W] ?_;rintro i d ρ a l A ⟨⟨x,rfl⟩,⟨K,rfl⟩,rfl⟩;rw[YB];let f:=(XB.mp A).1;rw[Xz,XW]at f;rw[cI f]at A;ext A;let m:∀{j:Nat} {C:Cell},Y[j]?=M C->(Y++K)[j]?=M C:=λ{j C} h=>by rw[XT (XB.mp h).1];show h
  let(C,e):=Kg (m p) (m y) (m w) f (u i f).2 (u i f).1;show#[by rw[Xz,Xz,XW];ext,[-(nd i),M (.rf o)],W,W,?_];show .eq (Cu (aL W) (m p) W (am (ah (ag W)) aA) W e) #[#[_,W],#[K++[C],by rw[Yb]],?_];rw[Z8,X2,X2];rfl
 let(xs,a,e,b,_,(K,rfl),rfl):=n.all;rw[YB,Xz,XW]at e;show#[K,gU v ?_];let:d6 1 [0] ρ=[R,M (.rf o)]:=by ext d6;show[R]++[(ρ[0]?).join]=_;rw[g];rfl
 rw[this];show e
end
def He(c:Nat->Nat)(St:Nat->G Nat)(r:Nat):LD.keyD (rY c St r)=P:=by
 let e:(St r).map (λs=>nd (c s))=bj ((St r).map c):=by ext bj;rw[Yg];rfl
 ext rY;rw[e,LD.keyD];simp only[LD.kd,LD.kds];rw[A4];show(Xy _ _).mpr #[W,a4 ?_];show max 0 (max (XG.depthAll (bj ((St r).map c))+1) 0)+1<=8;rw[lr];ext
def zF(h:nd a=nd b):a=b:=by
 let:(a:Int)=b:=by injection h
 ext
def Az{xs a:G Nat}(h:xs.map (λs=>nd (c s))=a.map λs=>nd (c s)):xs.map c=a.map c:=by
 let e:∀l:G Nat,l.map (λs=>nd (c s))=(l.map c).map nd:=λl=>by rw[Yg];rfl
 rw[e,e]at h;show ab9 (λ_ _=>zF)|>.mp h
section
variable{N:Nat}{St:Nat->bg Nat}{c f:Nat->Nat}{ω:aN}{o q t:Nat}{Z:bg SV}{sd:D}{ρ:aR}{fa:cT}
def n9:clC c N=.lst (((XD N).map λi=>nd (c i)).map .fz):=by ext clC;rw[Yg];rfl
def OO(n:0<N)(h:RG c N)(g:ω[t]?=M (clC c N))(d:fa ρ ω=.ok (.rf t) ω):ji gO (ai fa aw) ρ ω=.ok (.fz (.int ((Cn c N:Int) - 1))) ω:=by
 let e:(XD N).map (λi=>nd (c i))=((XD N).map λi=>((c i:Nat):Int)).map XG.int:=by rw[Yg];rfl
 let a:0<((XD N).map λi=>((c i:Nat):Int)).length:=by rw[Xz,XW];show n
 let hm:Dy ((XD N).map λi=>((c i:Nat):Int))=(Cn c N:Int) - 1:=by let(m,l):=wL a;let(i,r,e1):=Yr.mp m;let:=jt (c:=c) (YG.mp r);let(j,b,p,_):=kR h (k:=Cn c N - 1) N (XO _) ();let:=l (c j:Nat) (Yr.mpr #[j,YG.mpr b,W]);ext
 show mf (ds:=[.list ((XD N).map λi=>nd (c i))]) (am d aA) ?_ ?_
 .ext au;rw[cP (by rw[g,n9])];rfl
 .ext gO;dsimp only;rw[e,L3.iB];dsimp only;rw[ax a,hm]
def Rf(q N:Nat)(ω:aN)(x:SV):Prop:=∃t c,x=.rf t/\q<t/\ω[t]?=M (clC c N)
theorem Hn:∀{Z:G SV},(∀x∈Z,Rf q N ω x)->∃ds,au (lS 5 ω) Z=M ds/\ds.length=Z.length/\XG.canLayAll0 ds=P/\XG.depthAll ds<=1
 |[],_=>#[[],W,W,W,YC _]
 |x::r,h=>by
  let(ds,p,n,m,u):=Hn λy g=>h y (XX _ g);let(t,c,rfl,_,j):=h x X0;let e:lS 5 ω (.rf t)=M (.list (bj ((XD N).map c))):=by
   ext lS;rw[j,n9];show(au (lS 4 ω) (((XD N).map λi=>nd (c i)).map .fz)).map XG.list=_;let:∀l:G D,au (lS 4 ω) (l.map .fz)=M l:=λl=>by
    induction l with
    |nil=>rfl
    |cons a l b=>rw[X5];ext au;rw[show lS 4 ω (.fz a)=M a from rfl,b]
   rw[this];ext bj;rw[Yg];rfl
  show#[.list (bj ((XD N).map c))::ds,?_,by rw[XZ,XZ,n],?_,?_]
  .ext au;rw[e,p]
  .ext XG.canLayAll0;rw[m,show XG.canLay0 (.list (bj ((XD N).map c)))=P by ext XG.canLay0;show kS _];rfl
  .show max (XG.depthAll (bj ((XD N).map c))+1) (XG.depthAll ds)<=1;rw[lr];ext
def HH(g:ρ[0]?=M (M (.rf o)))(p:ω[o]?=M (.obj "Sorting" (xg St N sd q)))(i:ω[q]?=M (.lst Z))(l:∀x∈Z,Rf q N ω x):
  aZ (jT dh (aK "Sorting" "rounds" (aq 0)) (ae (ci ar))) ρ ω=.ok Z.isEmpty (ω++[.lst []]):=by
 let e:∀{j:Nat} {C:Cell},ω[j]?=M C->(ω++[Cell.lst []])[j]?=M C:=λ{j C} h=>by rw[XT (XB.mp h).1];show h
 show aV (cK (cY (aL g) p W) (cG (by ext:0)) ?_);show qB dh (.rf q) (.rf ω.length) (ω++[Cell.lst []])=_;cases Z with
 |nil=>show sF (cP (ds:=[]) (e i)) (cP (ds:=[]) aG) W
 |cons x r=>
  let(ds,v,m,u,w):=Hn λy n=>let#[t,c,a,b,d]:=l y n;#[t,c,a,b,e d]
  let(t,c,rfl,_,_):=l x X0;show Rv (dx:=.list ds) (dy:=.list []) (.inl ?_) ?_ ?_ ?_ W
  .ext sh;dsimp only;rw[e i];rfl
  .ext lS;rw[e i];dsimp only;rw[v];rfl
  .ext lS;rw[aG];rfl
  .cases ds with
   |nil=>rw[XZ]at m;ext m
   |cons d ds=>
    ext dh;rw[ax]
    .rfl
    .rw[Ju (by ext XG.canLay0;show u) (by show XG.depthAll (d::ds)+1<=64;ext)];rfl
def sq(E:G D)(St:Nat->G Nat)(N:Nat):Nat->Nat->Nat
 |0=>xh E
 |k+1=>xh ((XD N).map (rY (sq E St N k) St))
def AZ:((XD N).map (rY c St)).length=N:=by rw[Xz,XW]
theorem uC(a:E.length=N):∀k,RG (sq E St N k) N
 |0=>by rw[<-a];show GG E
 |k+1=>by let:=GG ((XD N).map (rY (sq E St N k) St));rw[AZ]at this;show this
theorem AH(e:i<N)(a:j<N):xh ((XD N).map (rY c St)) i=xh ((XD N).map (rY c St)) j↔rY c St i=rY c St j:=
 Om (λd b=>by let(i,_,rfl):=Yr.mp b;show He _ _ _) (cI e) (cI a)
def D9(b:E.length=N)(h:Cn (sq E St N (k+1)) N<=Cn (sq E St N k) N)(d:i<N)(a:j<N)(e:sq E St N k i=sq E St N k j):(St i).map (sq E St N k)=(St j).map (sq E St N k):=by
 let g:=MH (uC b k) (uC b (k+1)) (λi j d a z=>by
  let:=(AH d a).mp z;injection this with h
  injection h with h1 _
  show zF h1) h
 let:=(AH d a).mp ((g i d).trans (e.trans (g j a).symm));injection this with h
 injection h with _ h2
 injection h2 with h3 _
 injection h3 with h4
 show Az h4
def LI(o q N:Nat)(St:Nat->G Nat)(E:G D)(e b a:z SV)(n:Nat)(ρ:aR)(ω:aN):Prop:=∃Z t,ρ=[M (.rf o),e,b,a,M (.rf t)]/\ω[o]?=M (.obj "Sorting" (xg St N (.list E) q))/\ω[q]?=M (.lst Z)/\q<t/\ω[t]?=M (clC (sq E St N n) N)/\(∀x∈Z,Rf q N ω x)/\Z.length=n/\(∀j,j+1<n->Cn (sq E St N j) N<Cn (sq E St N (j+1)) N)/\(n=0/\Z=[]\/∃k g h,n=k+1/\Z=g++[.rf h]/\ω[h]?=M (clC (sq E St N k) N)/\k+1<=Cn (sq E St N k) N)
def SE(o q N:Nat)(St:Nat->G Nat)(E:G D)(ω:aN):Prop:=∃Z t k,ω[o]?=M (.obj "Sorting" (xg St N (.list E) q))/\ω[q]?=M (.lst (Z++[.rf t]))/\ω[t]?=M (clC (sq E St N k) N)/\Cn (sq E St N (k+1)) N<=Cn (sq E St N k) N/\∀j,j<k->Cn (sq E St N j) N<Cn (sq E St N (j+1)) N
def Df(hN:∀ρ V,SE o q N St E V->Nn ρ V)(hE:E.length=N)(R:0<N)(h9:N<=1000)(hs:∀r,r<N->(St r).length<=1000/\∀s∈St r,s<N)(hi:LI o q N St E x1 x2 x3 0 ρ ω):
  kg (mG (zb (aZ (jT dh (aK "Sorting" "rounds" (aq 0)) (ae (ci ar)))) (aZ (jT JV (ji gO (ai (aq 4) aw)) (ji gO (ai (eD (aK "Sorting" "rounds" (aq 0)) (ae (Ak nY (~~~1)))) aw))))) (aC (bh (jr (aK "Sorting" "rounds" (aq 0)) (aq 4)))
 (bG (kG dB 1 (ai (dD 1 [0] (jH (ji cA (ai (aK "Sorting" "steps" (aq 0)) aw))) (b7 0) b6 (aM "Sorting" "mark_of" a8 2 (aq 1) (ai (ae (aa 0)) aw))) aw)) (b7 4))) ρ ω) Nn T X:=by
 show xw (LI o q N St E x1 x2 x3) 2000 () hi ?_;rintro n ρ ω ⟨Z,t,rfl,ho,hq,qt,ht,J,hrl,hup,Q⟩;let P:=uC (St:=St) hE n;let H:sq E St N (n+1)=xh ((XD N).map (rY (sq E St N n) St)):=W;generalize hfn:sq E St N n=f at ht P H;let l:∀{j:Nat} {C:Cell},ω[j]?=cL C->(ω++[Cell.lst []])[j]?=cL C:=λ{j C} h=>by rw[XT (XB.mp h).1];show h
 let S:=HH (ρ:=[cL (.rf o),x1,x2,x3,cL (.rf t)]) W ho hq J;let fp:1<=Cn f N:=by let:=jt (c:=f) R;ext
 let fN:=Ec P N (XO _)
 let u:n+1<=Cn f N->(∀j,j+1<n+1->Cn (sq E St N j) N<Cn (sq E St N (j+1)) N)->kg (aC (bh (jr (aK "Sorting" "rounds" (aq 0)) (aq 4)))
   (bG (kG dB 1 (ai (dD 1 [0] (jH (ji cA (ai (aK "Sorting" "steps" (aq 0)) aw))) (b7 0) b6 (aM "Sorting" "mark_of" a8 2 (aq 1) (ai (ae (aa 0)) aw))) aw)) (b7 4)) [cL (.rf o),x1,x2,x3,cL (.rf t)] (ω++[.lst []])) (LI o q N St E x1 x2 x3 (n+1)) T X:=λO U=>by
  replace ho:=l ho;replace hq:=l hq;replace ht:=l ht;let J:∀x∈Z,Rf q N (ω++[.lst []]) x:=λy hy=>let#[t,c,a,b,d]:=J y hy;#[t,c,a,b,l d]
  generalize ω++[Cell.lst []]=ω at ho hq ht J;let Y:=(XB.mp hq).1;let oq:q≠o:=λz=>by rw[z,ho]at hq;ext hq
  let rl:Z.length<1000000:=by ext
  show sZ (hJ (sR (cY (aL W) ho W) hq (aL W) hq rl)) ?_;let ne:∀{j:Nat} {C C':Cell},q≠j->ω[j]?=cL C->(ω.set q C')[j]?=cL C:=λh e=>by rw[YE h];show e
  let B:=ne (C':=.lst (Z++[.rf t])) oq ho;let A:(ω.set q (.lst (Z++[.rf t])))[q]?=cL (.lst (Z++[.rf t])):=YK Y;let p:=ne (C':=.lst (Z++[.rf t])) (Ye qt) ht;let I:∀x∈Z++[.rf t],Rf q N (ω.set q (.lst (Z++[.rf t]))) x:=λx w=>by
   rcases YF.mp w with w|w
   .let(F,c,a,b,d):=J x w;show#[F,c,a,b,ne (Ye b) d]
   .rw[Yj.mp w];show#[t,f,W,qt,p]
  let M:q<(ω.set q (.lst (Z++[.rf t]))).length:=by rw[YQ];show Y
  generalize ω.set q (.lst (Z++[.rf t]))=ω1 at B A p I M;let(K,cm):=Gj (ρ:=[cL (.rf o),x1,x2,x3,cL (.rf t)]) B A p hs h9 W;let ml:((XD N).map (rY f St)).length=N:=AZ;let nb:=pN (by
   let g:(ω1++K++[Cell.lst (((XD N).map (rY f St)).map .fz)]++[Cell.dd []])[(ω1++K).length]?=cL (.lst (((XD N).map (rY f St)).map .fz)):=by rw[XT (by rw[XJ (bs:=[_])];show _<_+1;ext)];show aG
   rw[fL g,List.set_append_left _ _ (by rw[XJ (bs:=[_])];show _<_+1;ext),c8]) (by rw[XJ,XJ (bs:=[_])];rfl) (λd hd=>by let(i,_,rfl):=Yr.mp hd;show He _ _ _) (by rw[ml];show h9)
  generalize hω2:ω1++K++[Cell.lst (((XD N).map (rY f St)).map .fz)]=ω2 at cm nb;let l2:ω2.length=(ω1++K++[Cell.dead]).length:=by rw[<-hω2,XJ (bs:=[_]),XJ (bs:=[_])];rfl
  show wG (kL (qX (am cm aA) W nb) W) ?_;let m:∀{j:Nat} {C:Cell},ω1[j]?=cL C->(ω1++K++[Cell.dead]++[Cell.dd (dH 0 (fR ((XD N).map (rY f St)))),.lst ((Tg ((XD N).map (rY f St))).map λc=>.fz (nd c))])[j]?=cL C:=λ{j C} h=>by rw[Yb,Yb,XT (XB.mp h).1];show h
  let cl:(ω1++K++[Cell.dead]++[Cell.dd (dH 0 (fR ((XD N).map (rY f St)))),.lst ((Tg ((XD N).map (rY f St))).map λc=>.fz (nd c))])[ω2.length+1]?=cL (clC (xh ((XD N).map (rY f St))) N):=by rw[l2,lO (t:=1)];show cL (Cell.lst _)=_;unfold clC Tg;rw[ml,Yg];rfl
  rw[<-H]at cl;show#[Z++[.rf t],_,W,m B,m A,?_,cl,λx w=>?_,by rw[XJ,hrl];rfl,U,.inr #[n,Z,t,W,W,by rw[hfn];show m p,by rw[hfn];show O]]
  .rw[l2,XJ,XJ];ext
  .let(F,c,a,b,d):=I x w;show#[F,c,a,b,m d]
 rcases Q with⟨rfl,rfl⟩|⟨k,v,F,rfl,rfl,G,hnc⟩
 .show .inr #[by decide,_,nr S,u fp λj hj=>by ext]
 .let ie:(v++[SV.rf F]).isEmpty=XF:=by ext v<;>rfl
  let Q:=uC (St:=St) hE k;rw[ie]at S;let m1:=OO (fa:=aq 4) (ρ:=[cL (.rf o),x1,x2,x3,cL (.rf t)]) R P (l ht) (aL W);let m2:=OO (fa:=eD (aK "Sorting" "rounds" (aq 0)) (ae (Ak nY (~~~1)))) (ρ:=[cL (.rf o),x1,x2,x3,cL (.rf t)]) R Q (l G) (pd (n:= -1) (cY (aL W) (l ho) W) (ah (d:=.int (-1)) (yE (rv:=.fz (.int (-1))) aD W W)) W (l hq) (ny _ _));let L:=jv S (aV (cK m1 m2 (bX (BO _ _))));by_cases g:Cn (sq E St N k) N<Cn f N
  .rw[a4 ()]at L
   show .inr #[by ext,_,L,u () λj hj=>?_];by_cases e:j=k
   .subst e;rw[hfn];show g
   .show hup j ()
  .rw[a5 ()]at L;show .inl #[_,L,hN _ _ #[v,F,k,l ho,l hq,l G,by rw[hfn];ext,λj hj=>hup j ()]]
end
def gS(b:Bd)(es:G Evn)(a:Nat):G Nat:=match(br b es a)[a]? with
 |some r=>es.map λe=>d8 (br b es (a+1)) (ay b r.s e).1
 |none=>[]
def Ir(fs:G Rm)(s:ZG)(x y:D):(kI fs s x y).length=max fs.length (d8 fs s+1)/\d8 fs s<=fs.length:=by
 unfold kI d8;cases q:b8 (fs.map eP) (b9 s)with
 |none=>rw[aE (by nofun),XJ];show fs.length+1=max fs.length (fs.length+1)/\fs.length<=fs.length;ext
 |some t=>let(z,a,_):=mz q;let:=(XB.mp a).1;rw[Xz]at this;rw[ax (show(M t).isSome=P from rfl)];show fs.length=max fs.length (t+1)/\t<=fs.length;ext
theorem xX(a:VB b)(h:SW b s):∀(es:bg Evn) (fs G:bg Rm),(∀e∈es,EV b e)->eY b s r fs es=G->ON fs.length (es.map λe=>d8 G (ay b s e).1)/\BL fs.length (es.map λe=>d8 G (ay b s e).1)=G.length
 |[],fs,G,_,e=>by ext e;show#[True.intro,W]
 |e::es,fs,G,he,o=>by let i:=g8 a h (he e X0);let(g,f):=xX a h es (kI fs (ay b s e).1 (nd r) (c9 e)) G (λx m=>he x (XX _ m)) o;let n:d8 G (ay b s e).1=d8 fs (ay b s e).1:=Bl (by rw[<-o];show qY es _) (qS i _ _);let(l,j):=Ir fs (ay b s e).1 (nd r) (c9 e);rw[l]at g f;rw[X5,n];show#[#[j,g],f]
def lh(g:VB b)(i:∀e∈es,EV b e)(j:(br b es N).length=N)(c:a<N):a<(br b es a).length/\(br b es (a+1)).length<=N/\ON (br b es a).length (gS b es a)/\BL (br b es a).length (gS b es a)=(br b es (a+1)).length:=by
 let lt:a<(br b es a).length:=by
  rcases aiv a (br b es a).length with h|h
  .show h
  .let:=my h N;ext
 let n:=my (ZZ j) (a+1);let f:=XM lt;let(m,l):=xX g (jJ g i a _ (ZX lt)) es _ _ i (pI f).symm;show#[lt,by ext,?_];ext gS;rw[f];show#[m,l]
def O9(f:VB b)(i:∀e∈es,EV b e)(h:es.length<=1000)(j:(br b es N).length=N)(c:a<N):(gS b es a).length<=1000/\∀s∈gS b es a,s<N:=by
 let(_,n,_,l):=lh f i j c;constructor
 .ext gS
  split
  .rw[Xz];show h
  .show YC _
 .intro s g;let:=(yg (m:=(br b es a).length) (gS b es a)).2 s g;ext
def xm(f:VB b)(g:∀e∈es,EV b e)(h:(br b es N).length=N):iE b es N=(XD N).map (C3 (gS b es)):=by show Zz λa i=>?_;let(lt,_):=lh f g h (YG.mp i);unfold Fe C3 gS;rw[XM lt];rw[Yg];rfl
def TL(h:q.1<26):LD.kd (iK q)=P:=by
 ext iK;simp only[LD.kd,LD.kds];rw[mn h];cases q.2
 .rw[aE X9,show XG.strOk "up"=P by left];rfl
 .rw[ax W,show XG.strOk "down"=P by left];rfl
theorem Ft(g:VB b)(i:∀e∈es,EV b e)(o:(br b es N).length=N):∀d∈a9 b es N,LD.keyD d=P:=λd n=>by
 let(a,p,rfl):=Yr.mp n;let(lt,_):=lh g i o (YG.mp p);let j:=jJ g i a _ (ZX lt);ext pZ;rw[XM lt];rw[LD.keyD];show(Xy _ _).mpr #[mX λe h=>?_,a4 ?_]
 .rw[LD.kd];show mX λq m=>TL (wj g j (i e h) q m)
 .show XG.depthAll (es.map λe=>XG.tuple ((ay b (br b es a)[a].s e).2.map iK))+1<=8
  let:=lw (f:=λe=>XG.tuple ((ay b (br b es a)[a].s e).2.map iK)) (l:=es) λe _=>by show XG.depthAll ((ay b (br b es a)[a].s e).2.map iK)+1<=2;let:=lw (l:=(ay b (br b es a)[a].s e).2) λq _=>B5 q;ext
  ext
def GF(m:Nat)(h:ω[i]?=M (.lst (ds.map .fz))):frz (m+1) ω (.rf i)=M (.list ds,ω.set i .dead):=by ext frz;rw[h];dsimp only;rw[ng]
def Hf:frz 4 (base++(A:: .lst (F.map .fz)::C:: .lst (S.map .fz):: .lst (E.map .fz)::J)) (.tp [.rf (base.length+1),.rf (base.length+3),.rf (base.length+4)])=M (.tuple [.list F,.list S,.list E],base++(A:: .dead::C:: .dead:: .dead::J)):=by
 let e:=GF (ω:=base++(A:: .lst (F.map .fz)::C:: .lst (S.map .fz):: .lst (E.map .fz)::J)) 2 (lO (t:=1));rw[rL]at e;let b:=GF (ω:=base++(A:: .dead::C:: .lst (S.map .fz):: .lst (E.map .fz)::J)) 2 (lO (t:=3));rw[rL]at b;let a:=GF (ω:=base++(A:: .dead::C:: .dead:: .lst (E.map .fz)::J)) 2 (lO (t:=4));rw[rL]at a;show(match i9 (frz 3) _ [.rf (base.length+1),.rf (base.length+3),.rf (base.length+4)]with|some (ds,g)=>M (XG.tuple ds,g)|none=>R)=_;let f:i9 (frz 3) (base++(A:: .lst (F.map .fz)::C:: .lst (S.map .fz):: .lst (E.map .fz)::J)) [.rf (base.length+1),.rf (base.length+3),.rf (base.length+4)]=M ([.list F,.list S,.list E],base++(A:: .dead::C:: .dead:: .dead::J)):=by ext i9;rw[e];dsimp only;ext i9;rw[show amS (A::Cell.lst (F.map .fz)::C::Cell.lst (S.map .fz)::Cell.lst (E.map .fz)::J) 1 Cell.dead=A:: .dead::C:: .lst (S.map .fz):: .lst (E.map .fz)::J from rfl,b];dsimp only;ext i9;rw[show amS (A::Cell.dead::C::Cell.lst (S.map .fz)::Cell.lst (E.map .fz)::J) 3 Cell.dead=A:: .dead::C:: .dead:: .lst (E.map .fz)::J from rfl,a];rfl
 rw[f]
def DU{St:Nat->bg Nat}(z:∀D k,(∃q,SE o q N St E k)->Nn D k)(i:J[o]?=M (.obj "Sorting" []))(B:0<N)(A:N<=1000)(w:∀r,r<N->(St r).length<=1000/\∀s∈St r,s<N)(G:∀d∈E,LD.keyD d=P)(t:E.length=N):
  kg ((aC (dS "Sorting" "steps" (aq 0) (ae (aH aW (aa 3) (~~~1))))
 (aC (dS "Sorting" "sends" (aq 0) (ae (aH aW (aa 3) (~~~2))))
 (aC (dS "Sorting" "rounds" (aq 0) (ae (ci ar)))
 (aC (bG (kG dB 1 (ai (aK "Sorting" "sends" (aq 0)) aw)) (b7 4))
 (mG (zb (aZ (jT dh (aK "Sorting" "rounds" (aq 0)) (ae (ci ar)))) (aZ (jT JV (ji gO (ai (aq 4) aw)) (ji gO (ai (eD (aK "Sorting" "rounds" (aq 0)) (ae (Ak nY (~~~1)))) aw))))) (aC (bh (jr (aK "Sorting" "rounds" (aq 0)) (aq 4)))
 (bG (kG dB 1 (ai (dD 1 [0] (jH (ji cA (ai (aK "Sorting" "steps" (aq 0)) aw))) (b7 0) b6 (aM "Sorting" "mark_of" a8 2 (aq 1) (ai (ae (aa 0)) aw))) aw)) (b7 4)))))))) [M (.rf o),-(bd),-(.int m),-(.tuple [F,.list ((XD N).map (C3 St)),.list E]),R] J) Nn T X:=by
 let f:=(XB.mp i).1;show sZ (jB (ah (aF (ag W) aD W W kJ)) (aL W) i ()) ?_;let e:(J.set o (.obj "Sorting" (fX "steps" (.fz (.list ((XD N).map (C3 St)))) [])))[o]?=M (.obj "Sorting" [("steps",.fz (.list ((XD N).map (C3 St))))]):=YK f;generalize J.set o (.obj "Sorting" (fX "steps" (.fz (.list ((XD N).map (C3 St)))) []))=J at e⊢;let f:=(XB.mp e).1;show sZ (jB (ah (aF (ag W) aD W W sK)) (aL W) e (XQ W)) ?_;let b:(J.set o (.obj "Sorting" (fX "sends" (.fz (.list E)) [("steps",.fz (.list ((XD N).map (C3 St))))])))[o]?=M (.obj "Sorting" [("steps",.fz (.list ((XD N).map (C3 St)))),("sends",.fz (.list E))]):=YK f;generalize J.set o (.obj "Sorting" (fX "sends" (.fz (.list E)) [("steps",.fz (.list ((XD N).map (C3 St))))]))=J at b⊢;let f:=(XB.mp b).1;let n:(J++[Cell.lst []])[o]?=M (.obj "Sorting" [("steps",.fz (.list ((XD N).map (C3 St)))),("sends",.fz (.list E))]):=by rw[XT f];show b
 show sZ (jB (cG (ds:=[]) (by ext:0)) (aL W) n (XQ W)) ?_;show kg (aC _ _ _ ((J++[Cell.lst []]).set o (.obj "Sorting" (xg St N (.list E) J.length)))) _ _ _;let a:((J++[Cell.lst []]).set o (.obj "Sorting" (xg St N (.list E) J.length)))[o]?=M (.obj "Sorting" (xg St N (.list E) J.length)):=YK (by rw[XJ];ext);let l:((J++[Cell.lst []]).set o (.obj "Sorting" (xg St N (.list E) J.length)))[J.length]?=M (.lst []):=by rw[YE ()];show aG
 let p:J.length<((J++[Cell.lst []]).set o (.obj "Sorting" (xg St N (.list E) J.length))).length:=by rw[YQ,XJ];show _<_+1;ext
 generalize (J++[Cell.lst []]).set o (.obj "Sorting" (xg St N (.list E) J.length))=L at a l p⊢;generalize J.length=q at a l p;let u:=pN (x:=.fz (.list E)) (ω1:=L) W W G ();show sZ (kL (qX (am (cY (aL W) a W) aA) W u) W) ?_;let g:∀{j:Nat} {C:Cell},L[j]?=M C->(L++[Cell.dd (dH 0 (fR E)),.lst ((Tg E).map λc=>.fz (nd c))])[j]?=M C:=λ{j C} h=>by rw[XT (XB.mp h).1];show h
 show Df (λD k h=>z D k #[q,h]) t B A w #[[],L.length+1,W,g a,g l,by ext,?_,(λx v=>nomatch v),W,(λj y=>a7 y (acY _)),.inl #[W,W]];rw[lO];unfold clC Tg sq;rw[t,Yg];rfl
def yZ(e:VB b){n:Nat}(d:b.n=n)(H:n<=5)(z:0<=m)(y:m<=1000)(p:ω0[o]?=cL (.obj "Sorting" [])):Out (aY [.rf o,.fz (bD b),.fz (.int m)] ω0) (λv c=>v=.fz .none/\∃N q,(br b (aX n) N).length=N/\(N:Int)<=m/\SE o q N (gS b (aX n)) (a9 b (aX n) N) c) (λx=>x=TM m/\∃i,m<((br b (aX n) i).length:Int)):=by
 let j:(aX n).length<=1000:=by ext aX;rw[XJ,XJ,Xz,Xz,XW];show n+n+1<=_;ext
 let a:=wo d;show pf W ?_;show w6 ?_;let L:=yc (F:=iu) (es:=[]) (fa:=ai (ae (aa 1)) (ai (ae (aa 2)) aw)) (ρ:=[cL (.rf o),-(bD b),-(.int m),R,R]) (ω:=ω0) (am (ah (ag W)) (am (ah (ag W)) aA)) W;show Out.bind (.eq L ((si e d H z y ω0).imp λv c B=>?_));let(N,J,g,I,rfl,rfl):=B;let t:=Hf (base:=ω0++[.dead]) (A:=.obj "Places" (pF m ((ω0++[Cell.dead]).length+1) ((ω0++[Cell.dead]).length+2))) (C:=.dd (dH 0 ((br b (aX n) N).map eP))) (F:=((br b (aX n) N).map eP).map ub) (S:=iE b (aX n) N) (E:=a9 b (aX n) N) (J:=J);let M:(ω0++[Cell.dead]).length=ω0.length+1:=by rw[XJ];rfl
 rw[xm e a g]at t;show .eq (r':=RS.ok (SV.fz (.tuple [.list (((br b (aX n) N).map eP).map ub),.list ((XD N).map (C3 (gS b (aX n)))),.list (a9 b (aX n) N)])) (ω0++[Cell.dead]++(.obj "Places" (pF m ((ω0++[Cell.dead]).length+1) ((ω0++[Cell.dead]).length+2)):: .dead:: .dd (dH 0 ((br b (aX n) N).map eP)):: .dead:: .dead::J))) ?_ #[?_]
 .unfold KF tT lR;rw[xm e a g,show ω0.length+2=(ω0++[Cell.dead]).length+1 by ext,show ω0.length+4=(ω0++[Cell.dead]).length+3 by ext,show ω0.length+5=(ω0++[Cell.dead]).length+4 by ext,t]
 let K:0<N:=by let:=wT b (aX n) N;ext
 let f:(ω0++[Cell.dead]++(.obj "Places" (pF m ((ω0++[Cell.dead]).length+1) ((ω0++[Cell.dead]).length+2)):: .dead:: .dd (dH 0 ((br b (aX n) N).map eP)):: .dead:: .dead::J))[o]?=cL (.obj "Sorting" []):=by rw[Yb,XT (XB.mp p).1];show p
 generalize ω0++[Cell.dead]++(Cell.obj "Places" (pF m ((ω0++[Cell.dead]).length+1) ((ω0++[Cell.dead]).length+2)):: .dead:: .dd (dH 0 ((br b (aX n) N).map eP)):: .dead:: .dead::J)=X at f;let l:∀r,r<N->(gS b (aX n) r).length<=1000/\∀s∈gS b (aX n) r,s<N:=λr G=>O9 e a j g G;let w:=Ft e a g;let u:(a9 b (aX n) N).length=N:=by ext a9;rw[Xz,XW]
 generalize gS b (aX n)=St at l⊢;generalize T:a9 b (aX n) N=E at w u⊢;generalize ((br b (aX n) N).map eP).map ub=F;generalize bD b=bd;show DU (λY c h=>#[W,N,let#[q,Q]:=h;#[q,g,I,by rw[T];show Q]]) f K () l w u
section
variable{N:Nat}{St:Nat->bg Nat}{c:Nat->Nat}{E:bg D}{Y:aN}{o q t:Nat}
def j6(c:Nat->Nat)(N:Nat):G Int:=(XD N).map λi=>((c i:Nat):Int)
def lV(c:Nat->Nat)(N k:Nat):Nat:=(sW (k:Int) (j6 c N)).getD 0
theorem uU:∀{ns:G Int},k∈ns->∃j,sW k ns=M j
 |n::r,h=>by
  ext sW;by_cases e:n=k
  .show#[0,ax e]
  .rw[aE e];let(j,a):=uU ((Yi.mp h).resolve_left λz=>e z.symm);show#[j+1,by rw[a];rfl]
def yI(n:RG c N)(m:k<Cn c N):sW (k:Int) (j6 c N)=M (lV c N k)/\lV c N k<N/\c (lV c N k)=k/\Cn c (lV c N k)=k:=by
 let(i,h,g,p):=kR n N (XO _) m;let(j,b):=uU (ns:=j6 c N) (Yr.mpr #[i,YG.mpr h,by rw[g]]);let e:lV c N k=j:=by ext lV;rw[b];rfl
 rw[e];let(a,u):=vh b;let f:j<N:=by let:=(XB.mp a).1;unfold j6 at this;rw[Xz,XW]at this;show this
 unfold j6 at a;rw[cI f]at a;let r:c j=k:=by let:=X1 a;ext
 let l:i=j:=by
  rcases acr i j with z|z|z
  .show a7 ?_ (u i z);ext j6;rw[cI h,g]
  .show z
  .let:=jt (c:=c) z;ext
 show#[b,f,r,by rw[<-l];show p]
def Es(St:Nat->G Nat)(c:Nat->Nat)(N k:Nat):D:=.tuple ((St (lV c N k)).map λs=>nd (c s))
def Et(E:G D)(c:Nat->Nat)(N k:Nat):D:=(E[lV c N k]?).getD .none
def Vg(St:Nat->G Nat)(E:G D)(c:Nat->Nat)(N:Nat):D:=.tuple [.tuple ((XD (Cn c N)).map (Es St c N)),.tuple ((XD (Cn c N)).map (Et E c N))]
def Db(p:0<N)(w:N<=400)(e:RG c N):de 1 [3] (jP fP {aH c7 (eE L10.gO {aa 3}) (~~~1)}) (gN 0) cz (L10.Dw 1 (aa 0)) [a,b,s,-(.list ((j6 c N).map .int)),R,C]=.ok (.ow ((XD (Cn c N)).map λk=>nd (lV c N k)),[a,b,s,-(.list ((j6 c N).map .int)),R,C]):=by
 let f:0<(j6 c N).length:=by ext j6;rw[Xz,XW];show p
 let z:=Ec e N (XO _);let hm:Dy (j6 c N)=(Cn c N:Int) - 1:=by let(n,m):=wL f;let(i,A,e1):=Yr.mp n;let:=jt (c:=c) (YG.mp A);let(j,h,v,_):=kR e (k:=Cn c N - 1) N (XO _) ();let:=m (c j:Nat) (Yr.mpr #[j,YG.mpr h,W]);ext
 let g:L10.gO [.list ((j6 c N).map .int)]=-(.int ((Cn c N:Int) - 1)):=by ext gO;dsimp only;rw[L3.iB];dsimp only;rw[ax f,hm]
 let u:c7 (.int ((Cn c N:Int) - 1)) (.int 1)=-(nd (Cn c N)):=by rw[gD,show(Cn c N:Int) - 1+1=(Cn c N:Int) by ext]
 show dz (nA (aj (aF (cX (aj (ag W) aB) W g) aD W W u) aB) W (lC ())) W ?_;show hV nd (λk=>nd (lV c N k)) (XD (Cn c N)) (by rw[XW];ext) W λk l=>?_;let(r,y,_):=yI e (YG.mp l);let io:G9 ((j6 c N).map .int) (nd k)=M (lV c N k):=by ext G9;rw[L3.iB];show(match sW (k:Int) (j6 c N)with|some j=>if j<1000 then M j else R|none=>R)=_;rw[r];show ax ()
 show JL (aa 0) [-(nd k),-(.list ((j6 c N).map .int))] (M (-(.list ((j6 c N).map .int))))=_;ext JL;rw[show aa 0 [M (PV.fz (nd k)),-(.list ((j6 c N).map .int))]=.ok (.fz (nd k),[-(nd k),-(.list ((j6 c N).map .int))])from ag W];show((Res.YD (G9 ((j6 c N).map .int) (nd k))).bind λj=>Res.ok (PV.fz (nd j),[M (PV.fz (nd k)),-(.list ((j6 c N).map .int))]))=_;rw[io];rfl
def Dk(p:RG c N)(I:N<=400)(z:∀r,r<N->(St r).length<=1000/\∀s∈St r,s<N)(m:Y[o]?=M (.obj "Sorting" (xg St N (.list E) q)))(C:ρ[2]?=M (M (.rf o)))(B:ρ[3]?=M (-(.list ((j6 c N).map .int))))(A:(bp ρ)[4]?=M (-(.list ((XD (Cn c N)).map λk=>nd (lV c N k))))):
  ∃K,ji d9 (ai (dD 1 [2,3] (dR (eT (aa 4))) (b7 0) b6 (ji d9 (ai (dD 1 [2] (ez (eD (aK "Sorting" "steps" (aq 1)) (ae (aa 0)))) (b7 0) b6 (ae (aH aW (aa 1) (aa 0)))) aw))) aw) ρ Y=.ok (.fz (.tuple ((XD (Cn c N)).map (Es St c N)))) (Y++K):=by
 let y:dR (eT (aa 4)) ρ Y=.ok ((XD (Cn c N)).map λk=>nd (lV c N k)) Y:=eB (fO (ag A) W W);let J:=Ec p N (XO _);let g:Out (bL (b7 0) b6 (ji d9 (ai (dD 1 [2] (ez (eD (aK "Sorting" "steps" (aq 1)) (ae (aa 0)))) (b7 0) b6 (ae (aH aW (aa 1) (aa 0)))) aw)) ((XD (Cn c N)).map λk=>nd (lV c N k)) [R,M (.rf o),-(.list ((j6 c N).map .int))] Y []) (λxs a=>∃b:aR,(∃x,b=[x,M (.rf o),-(.list ((j6 c N).map .int))])/\(∃K,a=Y++K)/\xs=((XD (0+((XD (Cn c N)).map λk=>nd (lV c N k)).length)).map (Es St c N)).map .fz) λ_=>False:=by
  show ig (λk ρ a f=>(∃x,ρ=[x,M (.rf o),-(.list ((j6 c N).map .int))])/\(∃K,a=Y++K)/\f=((XD k).map (Es St c N)).map .fz) _ 0 _ _ _ #[#[R,W],#[[],by rw[Yl]],W] ?_;rintro i d ρ a f L ⟨⟨x,rfl⟩,⟨K,rfl⟩,rfl⟩;rw[YB];let h:=(XB.mp L).1;rw[Xz,XW]at h;rw[cI h]at L;ext L;let(_,u,_):=yI p h;let(H,v):=z _ u;let l:(Y++K)[o]?=M (.obj "Sorting" (xg St N (.list E) q)):=by rw[XT (XB.mp m).1];show m
  show#[by rw[Xz,Xz,XW];ext,[-(nd (lV c N i)),M (.rf o),-(.list ((j6 c N).map .int))],W,W,?_];let w:ez (eD (aK "Sorting" "steps" (aq 1)) (ae (aa 0))) [-(nd (lV c N i)),M (.rf o),-(.list ((j6 c N).map .int))] (Y++K)=.ok ((St (lV c N i)).map nd) (Y++K):=by ext ez;rw[bB (cY (aL W) l W) (ah (ag W)) (tV (cI u)),ej];rfl
  let cm:bL (b7 0) b6 (ae (aH aW (aa 1) (aa 0))) ((St (lV c N i)).map nd) [R,-(.list ((j6 c N).map .int))] (Y++K) []=.ok ([]++(St (lV c N i)).map λs=>SV.fz (nd (c s))) (Y++K):=by show ib nd (λs=>SV.fz (nd (c s))) (Y++K) (λρ=>∃x,ρ=[x,-(.list ((j6 c N).map .int))]) (St (lV c N i)) _ [] #[_,W] (by show 0+_<=_;ext) ?_;rintro s j ρ ⟨x,rfl⟩;show#[[-(nd s),-(.list ((j6 c N).map .int))],W,W,ah (aF (ag W) (ag W) W W (tV ?_)),_,W];ext j6;rw[Yg];show cI (v s j)
  rw[Z7]at cm;let G:=gU (n:=1) (fj:=[2]) w cm;show .eq (mf (ds:=[.list ((St (lV c N i)).map λs=>nd (c s))]) (am G aA) ?_ W) #[#[_,W],#[K++[_],Yb _ _ _],?_]
  .let:sh (Y++K++[.lst ((St (lV c N i)).map λs=>SV.fz (nd (c s)))]) (.rf (Y++K).length)=M (.list ((St (lV c N i)).map λs=>nd (c s))):=cP (by rw[Yg];show aG);ext au;rw[this];rfl
  .rw[Z8,X2,X2];rfl
 let(xs,a,e,b,_,(K,rfl),rfl):=g.all;rw[YB,Xz,XW]at e;let F:d6 1 [2,3] ρ=[R,M (.rf o),-(.list ((j6 c N).map .int))]:=by ext d6;show[R]++[(ρ[2]?).join,(ρ[3]?).join]=_;rw[C,B];rfl
 rw[<-F]at e;show#[K++[_],(mf (ds:=[.list ((XD (Cn c N)).map (Es St c N))]) (am (gU y e) aA) ?_ W).trans (by rw[Yb])];let:sh (Y++K++[.lst (((XD (Cn c N)).map (Es St c N)).map .fz)]) (.rf (Y++K).length)=M (.list ((XD (Cn c N)).map (Es St c N))):=cP aG;ext au;rw[this];rfl
def D0(a:RG c N)(l:N<=400)(j:E.length=N)(e:Y[o]?=M (.obj "Sorting" (xg St N (.list E) q)))(h:ρ[2]?=M (M (.rf o)))(g:(bp ρ)[4]?=M (-(.list ((XD (Cn c N)).map λk=>nd (lV c N k))))):
  ∃K,ji d9 (ai (dD 1 [2] (dR (eT (aa 4))) (b7 0) b6 (eD (aK "Sorting" "sends" (aq 1)) (ae (aa 0)))) aw) ρ Y=.ok (.fz (.tuple ((XD (Cn c N)).map (Et E c N)))) (Y++K):=by
 let b:dR (eT (aa 4)) ρ Y=.ok ((XD (Cn c N)).map λk=>nd (lV c N k)) Y:=eB (fO (ag g) W W);let n:=Ec a N (XO _);let cm:bL (b7 0) b6 (eD (aK "Sorting" "sends" (aq 1)) (ae (aa 0))) ((XD (Cn c N)).map λk=>nd (lV c N k)) [R,M (.rf o)] Y []=.ok ([]++(XD (Cn c N)).map λk=>SV.fz (Et E c N k)) Y:=by show ib (λk=>nd (lV c N k)) (λk=>SV.fz (Et E c N k)) Y (λρ=>∃x,ρ=[x,M (.rf o)]) (XD (Cn c N)) _ [] #[_,W] (by show 0+_<=_;rw[XW];ext) ?_;rintro k f ρ ⟨x,rfl⟩;let(_,m,_):=yI a (YG.mp f);show#[[-(nd (lV c N k)),M (.rf o)],W,W,bB (cY (aL W) e W) (ah (ag W)) (tV ?_),_,W];ext Et;rw[XM ()];rfl
 rw[Z7]at cm;let i:d6 1 [2] ρ=[R,M (.rf o)]:=by ext d6;show[R]++[(ρ[2]?).join]=_;rw[h];rfl
 rw[<-i]at cm;show#[[_],mf (ds:=[.list ((XD (Cn c N)).map (Et E c N))]) (am (gU b cm) aA) ?_ W];let:sh (Y++[.lst ((XD (Cn c N)).map λk=>SV.fz (Et E c N k))]) (.rf Y.length)=M (.list ((XD (Cn c N)).map (Et E c N))):=cP (by rw[Yg];show aG);ext au;rw[this];rfl
end
def My:clC c N=.lst (((j6 c N).map XG.int).map .fz):=by unfold clC j6;rw[Yg,Yg];rfl
def Pf(E:G D)(St:Nat->G Nat)(N k:Nat):Prop:=Cn (sq E St N (k+1)) N<=Cn (sq E St N k) N/\∀j,j<k->Cn (sq E St N j) N<Cn (sq E St N (j+1)) N
def Lq{St:Nat->G Nat}(h:Pf E St N k)(a:Pf E St N o):k=o:=by
 rcases acr k o with q|q|q
 .let:=a.2 k q;let:=h.1;ext
 .show q
 .let:=h.2 o q;let:=a.1;ext
def xY(B:VB b){n:Nat}(d:b.n=n)(R:n<=5)(L:0<=m)(X:m<=400)(g:aN):Out (jf [.fz (bD b),.fz (.int m)] g) (λv _=>∃N k,(br b (aX n) N).length=N/\(N:Int)<=m/\Pf (a9 b (aX n) N) (gS b (aX n)) N k/\v=.fz (Vg (gS b (aX n)) (a9 b (aX n) N) (sq (a9 b (aX n) N) (gS b (aX n)) N k) N)) (λx=>x=TM m/\∃i,m<((br b (aX n) i).length:Int)):=by
 let y:(aX n).length<=1000:=by ext aX;rw[XJ,XJ,Xz,Xz,XW];show n+n+1<=_;ext
 let w:=wo d;show pf W ?_;let J:=zE (C:= "Sorting") (F:=aY) (fa:=ai (ae (aa 0)) (ai (ae (aa 1)) aw)) (ρ:=[-(bD b),-(.int m),Ld,Ld,Ld,Ld]) (ω:=g) (am (ah (ag W)) (am (ah (ag W)) aA)) W;show w6 (.eq J (Out.bind ((yZ B d R L () aG).imp λv ω M=>?_)));let(rfl,N,q,H,S,U,t,k,j,P,l,Q):=M;show .eq W #[?_];let G:∀r,r<N->(gS b (aX n) r).length<=1000/\∀s∈gS b (aX n) r,s<N:=λr O=>O9 B w y H O;let A:(a9 b (aX n) N).length=N:=by ext a9;rw[Xz,XW]
 let T:0<N:=by let:=wT b (aX n) N;ext
 let u:=uC (St:=gS b (aX n)) A k;let f:∀v,v=SV.fz (Vg (gS b (aX n)) (a9 b (aX n) N) (sq (a9 b (aX n) N) (gS b (aX n)) N k) N)->∃N k,(br b (aX n) N).length=N/\(N:Int)<=m/\Pf (a9 b (aX n) N) (gS b (aX n)) N k/\v=.fz (Vg (gS b (aX n)) (a9 b (aX n) N) (sq (a9 b (aX n) N) (gS b (aX n)) N k) N):=λv e=>#[N,k,H,S,Q,e];generalize sq (a9 b (aX n) N) (gS b (aX n)) N k=c at l u f;generalize gS b (aX n)=St at j G f;generalize a9 b (aX n) N=E at j A f;generalize g.length=o at j;generalize bD b=bd;let I:t≠o:=λz=>by rw[z,j]at l;ext l
 rw[My]at l;let e1:hG (eD (aK "Sorting" "rounds" (aq 2)) (ae (Ak nY (~~~1)))) [-(bd),-(.int m),cL (.rf o),Ld,Ld,Ld] ω=.ok (.fz (.list ((j6 c N).map .int))) (ω.set t .dead):=gJ (pd (cY (aL W) j W) (ah (yE (rv:=.fz (.int (-1))) aD W W)) W P (ny _ _)) (fL l);show dc e1 W ?_;let h:(ω.set t .dead)[o]?=cL (.obj "Sorting" (xg St N (.list E) q)):=by rw[YE I];show j
 generalize ω.set t .dead=ω1 at h;let e2:hG (ae (de 1 [3] (jP fP {aH c7 (eE L10.gO {aa 3}) (~~~1)}) (gN 0) cz (L10.Dw 1 (aa 0)))) [-(bd),-(.int m),cL (.rf o),-(.list ((j6 c N).map .int)),Ld,Ld] ω1=.ok (.fz (.list ((XD (Cn c N)).map λk=>nd (lV c N k)))) (ω1++[.dead]):=by show gJ (cG (Db T () u)) ?_;rw[fL aG,c8]
 show dc e2 W ?_;let a:(ω1++[Cell.dead])[o]?=cL (.obj "Sorting" (xg St N (.list E) q)):=by rw[XT (XB.mp h).1];show h
 generalize ω1++[Cell.dead]=ω2 at a;let(K,e3):=Dk (ρ:=[-(bd),-(.int m),cL (.rf o),-(.list ((j6 c N).map .int)),-(.list ((XD (Cn c N)).map λk=>nd (lV c N k))),Ld]) u () G a W W W;show dc e3 W ?_;let p:(ω2++K)[o]?=cL (.obj "Sorting" (xg St N (.list E) q)):=by rw[XT (XB.mp a).1];show a
 generalize ω2++K=ω3 at p;let(Y,e4):=D0 (ρ:=[-(bd),-(.int m),cL (.rf o),-(.list ((j6 c N).map .int)),-(.list ((XD (Cn c N)).map λk=>nd (lV c N k))),-(.tuple ((XD (Cn c N)).map (Es St c N)))]) u () A p W W;show vT (oA (am (ah (ag W)) (am e4 aA)) (by show 2<=1000;ext)) (f _ W)
def wk(w:Str)(k:Nat):D:=.tuple [.str w,nd k]
def K8{b:Bd}{n:Nat}(c:b.n=n)(v:n<=5):gl [bD b]=.ok (.ow ((aX n).map c9)):=by
 let z:fP [.int b.n]=M (bj (XD n)):=by rw[c];show jA ()
 let A:=UT b;let y:c7 (.list ((XD n).map (wk "down")++(XD n).map (wk "up"))) (.list [c9 .turn])=M (.ow ((aX n).map c9)):=(Ry (by rw[XJ,Xz,Xz,XW];show _+1<=_;ext)).trans (by ext aX;rw[X2,X2,Yg,Yg];rfl);show iX W ?_;show eU (by ext:0) W W ?_;show wc (λi C=>∃f a:b3 PV,C=[zf (bD b),zo (((["down","up"]:G Str).take i).flatMap λw=>(XD n).map (wk w)),f,a]) (fO (by ext:0) W W) #[R,R,W] ?_ ?_
 .rintro i d C J ⟨f,a,rfl⟩
  obtain⟨w,h,u⟩:∃w,(["down","up"]:G Str)[i]?=M w/\d=.str w:=by
   let:i=0\/i=1:=by let:=(XB.mp J).1;simp at this;ext
   rcases this with rfl|rfl
   .show#["down",W,(X1 J).symm]
   .show#["up",W,(X1 J).symm]
  subst u;let nx:((["down","up"]:G Str).take (i+1)).flatMap (λw=>(XD n).map (wk w))=((["down","up"]:G Str).take i).flatMap (λw=>(XD n).map (wk w))++(XD n).map (wk w):=by rw[Y5,h,List.flatMap_append];simp
  let B:i<2:=(XB.mp h).1;let pl:((["down","up"]:G Str).take i).flatMap (λw=>(XD n).map (wk w))=[]\/((["down","up"]:G Str).take i).flatMap (λw=>(XD n).map (wk w))=(XD n).map (wk "down"):=by
   let:i=0\/i=1:=by ext
   rcases this with rfl|rfl
   .show .inl W
   .show .inr (by simp)
  rw[nx];generalize ((["down","up"]:G Str).take i).flatMap (λw=>(XD n).map (wk w))=pre at pl;let o:pre.length<=5:=by
   rcases pl with rfl|rfl
   .show YC _
   .rw[Xz,XW];show v
  show#[[zf (bD b),zo pre,zf (.str w),a],W,?_];show FZ (λj C=>∃a:b3 PV,C=[zf (bD b),zo (pre++(XD j).map (wk w)),zf (.str w),a]) (by ext:0) #[a,by rw[List.range_zero,ZW,Yl]] ?_ ?_
  .rintro j d C t ⟨a,rfl⟩
   let(k,q,rfl):=qW t;obtain⟨g,r⟩:k=j/\j<n:=by let(m,l):=XB.mp q;rw[afe]at l;rw[XW]at m;show#[l.symm,m]
   subst g;show#[[zf (bD b),zo (pre++(XD k).map (wk w)),zf (.str w),zf (nd k)],W,?_];let p:(pre++(XD k).map (wk w)).length<1000000:=by rw[XJ,Xz,XW];ext
   show ra (wD W (fW (aj (ag W) (aj (ag W) aB)) W (XQ W)) W W p (by rw[Z8,X2,<-Yb];rfl)) #[_,W]
  .rintro C ⟨a,rfl⟩;rw[gp,XW];show#[_,_,W]
 .rintro C ⟨f,a,rfl⟩
  let e:((["down","up"]:G Str).take 2).flatMap (λw=>(XD n).map (wk w))=(XD n).map (wk "down")++(XD n).map (wk "up"):=by simp
  show Go (dJ _ [zf (bD b),zo (((["down","up"]:G Str).take 2).flatMap λw=>(XD n).map (wk w)),f,a]) _ _ _;rw[e];show eS (aF (jL W) (oH (aj (fW (aj aD (aj aD aB)) W (XQ W)) aB) W (XQ W)) W W y) W W
def HV(ns:G Int)(lo a:z Int):∃ms:G Int,ms.length<=ns.length/\UR (.list (ns.map .int)) lo a=M (.ow (ms.map .int)):=by
 show#[(ns.drop (HT.sIx ns.length 0 lo)).take (HT.sIx ns.length ns.length a - HT.sIx ns.length 0 lo),?_,?_]
 .rw[YJ,acw];ext
 .show M (RV.ow (Di (ns.map .int) lo a))=_;ext Di;simp_all
theorem Kr(h:bj o=bj C):o=C:=(ab9 λx y e=>by injection e with e;show afh e).mp h
def JO(h:mD m=mD n):m=n:=by
 let e:=(pJ m).symm.trans ((ec (λz=>aW z (.int 0)) h).trans (pJ n));injection e with e;injection e with e;injection e with e
 let w:=yN _ (pK m) _ (pK n);rw[show ws (wn m)=ws (wn n)from e,eg]at w;ext m<;>ext n<;>first|rfl|(exfalso;revert w;simp[wn];done)|(injection h with h;injection h with _ h;injection h with h g;injection h with h)
 .rw[wO h]
 .rw[h]
 .injection g with g;injection g with g;rw[wO h,g]
 .rw[h]
def Qf(l:VB b)(j:VB c)(B:SW b s)(A:SW c t)(h:b9 s=b9 t):s=t:=by
 injection h with h
 injection h with h1 h
 injection h with h2 h
 injection h with h3 _
 injection h1 with h1
 let f:=(ab9 λx y e=>by
  injection e with e;injection e with e1 e;injection e with e2 _;injection e1 with e1
  show Prod.ext (afh e1) (JO e2)).mp h1
 let E:=funext λk=>Option.ext λa=>#[λe=>by
   let:=(gq (p:=(k,a))).mpr #[(SA.ak l B.sa k a e).1,e];rw[f]at this;show(gq.mp this).2,λe=>by
   let:=(gq (p:=(k,a))).mpr #[(SA.ak j A.sa k a e).1,e];rw[<-f]at this;show(gq.mp this).2]
 let C:s.wt=t.wt:=by
  revert h2;cases s.wt with
  |none=>cases t.wt with
   |none=>show λ_=>W
   |some y=>show λe=>by ext e
  |some x=>cases t.wt with
   |none=>show λe=>by ext e
   |some y=>
    let(F,g,w):=x;let(G,i,v):=y;intro e;injection e with e;injection e with e1 e;injection e with e2 e;injection e with e3 _;injection e1 with e1;injection e2 with e2;let e1:=Kr e1;let:w=v:=by
     revert e3;cases w with
     |none=>cases v with
      |none=>show λ_=>W
      |some q=>show λe=>by injection e with e;injection e with _ e;ext e
     |some p=>cases v with
      |none=>show λe=>by injection e with e;injection e with _ e;ext e
      |some q=>let(z,u):=p;let(r,o):=q;show λe=>by let:=JO (m:=.tap z u) (n:=.tap r o) e;injection this with a b;rw[a,b]
    rw[e1,e2,this]
 let eo:s.oc=t.oc:=by
  revert h3;cases s.oc<;>cases t.oc<;>intro e
  .rfl
  .ext e
  .ext e
  .injection e with e;rw[e]
 ext s;ext t;ext E;ext C;ext eo;rfl
section
variable{ρ:aR}{ω Y Z:aN}{x:SV}
def Fx(b:o ρ ω=.ok xs Y)(a:tQ F n xs Y=.ok x Z):kK F n o ρ ω=.ok x Z:=by ext kK;rw[b,ej,a];rfl
def JA(sn:G D)(a:D):frz 4 (ω++[.lst (sn.map .fz)]) (.tp [.rf ω.length,.fz a])=M (.tuple [.list sn,a],ω++[.dead]):=by
 let e1:frz 3 (ω++[.lst (sn.map .fz)]) (.rf ω.length)=M (.list sn,ω++[.dead]):=by ext frz;rw[aG];dsimp only;rw[ng];dsimp only;rw[c8]
 let e2:i9 (frz 3) (ω++[.lst (sn.map .fz)]) [.rf ω.length,.fz a]=M ([.list sn,a],ω++[.dead]):=by ext i9;rw[e1];rfl
 ext frz;rw[show([AV.rf ω.length,AV.fz a].map AV.sv)=[.rf ω.length,.fz a]from rfl,e2]
theorem B9(a:VB b)(f:SW b s)(g:EV b e)(j:fa ρ ω=.ok (.fz (bD b)) ω)(i:fb ρ ω=.ok (.fz (b9 s)) ω)(h:fc ρ ω=.ok (.fz (c9 e)) ω):hG (kK STP.iA 3 (ai fa (ai fb (ai fc aw)))) ρ ω=.ok (.fz (.tuple [.list ((ay b s e).2.map iK),b9 (ay b s e).1])) (ω++[.dead]):=
 gJ (Fx (am j (am i (am h aA))) (OC a f g)) (JA _ _)
end
def Mi(j:VB b)(es:G Evn)(y:es.length<=1000)(m:∀e∈es,EV b e):∃c,qK [.fz (bD b),.fz (.list (es.map c9))] []=.ok (.tp [.rf 0,.fz (b9 (dg b eZ es).1)]) c/\sh c (.rf 0)=M (.list (za (dg b eZ es).2)):=by
 show iq W ?_;show gF (ah (show _=Res.ok (PV.fz (.tuple [.tuple [],.none,.none]),_)from aD)) W ?_;show gF (cG (by ext:0)) W ?_;show o0 (Qo (λi C B=>∃(f a:z SV) (J:aN),C=[-(bD b),-(.list (es.map c9)),-(b9 (dg b eZ (es.take i)).1),M (.rf 0),f,a]/\B=.lst ((za (dg b eZ (es.take i)).2).map .fz)::J) (eB (fO (ag W) W W)) #[_,_,[],W,W] ?_ ?_)
 .rintro i d C B A ⟨f,a,J,rfl,rfl⟩
  rw[XS]at A;cases q:es[i]? with
  |none=>rw[q]at A;ext A
  |some e=>
   rw[q]at A;cases X1 A;show#[_,_,W,?_];let g:=m e (X3 q);let o:SW b (dg b eZ (es.take i)).1:=BJ j _ (qI b) λe h=>m e (aeL h);let(r,v):=vP b es eZ i e q;let n:(dg b eZ (es.take (i+1))).2=(dg b eZ (es.take i)).2++[(ay b (dg b eZ (es.take i)).1 e).2]:=by rw[Y5,q,xA];rfl
   let w:(dg b eZ (es.take i)).2.length<=1000:=by rw[rR,YJ];ext
   rw[r,n];let l:=B9 (ρ:=[-(bD b),-(.list (es.map c9)),-(b9 (dg b eZ (es.take i)).1),M (.rf 0),-(c9 e),a]) (ω:=.lst ((za (dg b eZ (es.take i)).2).map .fz)::J) j o g (fa:=ae (aa 0)) (fb:=ae (aa 2)) (fc:=ae (aa 4)) (ah (ag W)) (ah (ag W)) (ah (ag W));generalize ay b (dg b eZ (es.take i)).1 e=p at l;show gF l W ?_;let u:aW (.tuple [.list (p.2.map iK),b9 p.1]) (.int 0)=-(.list (p.2.map iK)):=iO;let t:aW (.tuple [.list (p.2.map iK),b9 p.1]) (.int 1)=-(b9 p.1):=kJ;show jR (ω1:=Cell.lst ((za ((dg b eZ (es.take i)).2++[p.2])).map .fz)::(J++[Cell.dead])) ((sR (aL W) W (ah (aF (ag W) aD W W u)) W (by rw[Xz,IR];ext)).trans (by ext za;rw[X2,X2];rfl)) ?_;show F9 (ah (aF (ag W) aD W W t)) W #[_,_,_,W,W]
 .rintro C B ⟨f,a,J,rfl,rfl⟩;rw[Xz,aat];show JE (HI (am (aL W) (am (ah (ag W)) aA)) (XQ W) W W) #[W,cP W]
def TD(f:VB b)(es:G Evn)(g:es.length<=1000)(h:∀e∈es,EV b e):rp [bD b,.list (es.map c9)]=.ok (.fz (.tuple [.list (za (dg b eZ es).2),b9 (dg b eZ es).1])):=by let(a,j,i):=Mi f es g h;unfold rp Vo;rw[show[bD b,.list (es.map c9)].map SV.fz=[.fz (bD b),.fz (.list (es.map c9))]from rfl,j];dsimp only;ext au;rw[show Ve a (.rf 0)=M (.list (za (dg b eZ es).2))from i];rfl
def zA(r:VB b){n:Nat}(d:b.n=n)(B:n<=5)(y:0<=m)(E:m<=400)(a:aN):Out (jh [.fz (bD b),.fz (.int m)] a) (λv c=>∃N k t,(br b (aX n) N).length=N/\Pf (a9 b (aX n) N) (gS b (aX n)) N k/\v=.rf t/\c[t]?=M (clC (sq (a9 b (aX n) N) (gS b (aX n)) N k) N)) (λx=>x=TM m/\∃i,m<((br b (aX n) i).length:Int)):=by
 show pf (ρ:=[-(bD b),-(.int m)]) W ?_;let w:=zE (C:= "Sorting") (F:=aY) (fa:=ai (ae (aa 0)) (ai (ae (aa 1)) aw)) (ρ:=[-(bD b),-(.int m)]) (ω:=a) (am (ah (ag W)) (am (ah (ag W)) aA)) W;let u:Out (pk "Sorting" aY 3 (ai (ae (aa 0)) (ai (ae (aa 1)) aw)) [-(bD b),-(.int m)] a) (λv c=>∃o N k q e t,v=.rf o/\(br b (aX n) N).length=N/\Pf (a9 b (aX n) N) (gS b (aX n)) N k/\c[o]?=M (.obj "Sorting" (xg (gS b (aX n)) N (.list (a9 b (aX n) N)) q))/\c[q]?=M (.lst (e++[.rf t]))/\c[t]?=M (clC (sq (a9 b (aX n) N) (gS b (aX n)) N k) N)) (λx=>x=TM m/\∃i,m<((br b (aX n) i).length:Int)):=by show .eq w (Out.bind ((yZ r d B y () aG).imp λv J A=>?_));let(rfl,N,q,p,G,e,t,k,j,g,f,l):=A;show .eq W #[#[a.length,N,k,q,e,t,W,p,l,j,g,f]]
 show A5 ?_;let h:=u.out;show#[?_];cases z:pk "Sorting" aY 3 (ai (ae (aa 0)) (ai (ae (aa 1)) aw)) [-(bD b),-(.int m)] a with
 |bad=>rw[z]at h;show h.elim
 |er x o=>
  rw[z]at h;let:L10.eD (aK "Sorting" "rounds" (pk "Sorting" aY 3 (ai (ae (aa 0)) (ai (ae (aa 1)) aw)))) (ae (Ak nY (~~~1))) [-(bD b),-(.int m)] a=.er x o:=by unfold L10.eD aK;rw[z];rfl
  rw[this];show h
 |ok v J=>rw[z]at h;let(o,N,k,q,e,t,rfl,p,l,j,g,f):=h;rw[pd (cY z j W) (ah (yE (rv:=.fz (.int (-1))) aD W W)) W g (ny _ _)];show#[N,k,t,p,l,W,f]
def P4(f:VB b){n:Nat}(k:b.n=n)(l:n<=5)(j:0<=m)(g:m<=1000)(h:∀N,(br b (aX n) N).length=N->m<(N:Int))(d:aN):∃c,dM [.fz (bD b),.fz (.int m)] d=.er (TM m) c:=by let(x,o,e,a):=(kz (uA f k l j g d) (λv c #[N,i,K,p,q,_]=>by let:=h N p;ext) λx a=>a.1).er;subst a;show#[o,e]
def QH(g:VB b){n N:Nat}(k:b.n=n)(a:n<=5)(l:0<=m)(j:m<=1000)(f:(br b (aX n) N).length=N)(h:(N:Int)<=m)(d:aN):∃i c,dM [.fz (bD b),.fz (.int m)] d=.ok (.rf i) c/\c[i]?=M (.lst ((((br b (aX n) N).map eP).map ub).map .fz)):=by let(v,o,e,t,i,K,q,r,rfl,rfl,a):=(kz (uA g k a l j d) (λv c p=>p) λx #[_,i,u]=>by let:=my (ZZ f) i;ext).all;rw[wM q f]at a;show#[_,_,e,lO.trans a]
def MC(f:VB b){n N:Nat}(s:b.n=n)(p:n<=5)(j:0<=m)(g:m<=400)(a:(br b (aX n) N).length=N)(h:(N:Int)<=m)(d:aN):∃k c,Pf (a9 b (aX n) N) (gS b (aX n)) N k/\jf [.fz (bD b),.fz (.int m)] d=.ok (.fz (Vg (gS b (aX n)) (a9 b (aX n) N) (sq (a9 b (aX n) N) (gS b (aX n)) N k) N)) c:=by let(v,o,e,u,k,r,t,q,rfl):=(kz (xY f s p j g d) (λv c l=>l) λx #[_,i,y]=>by let:=my (ZZ a) i;ext).all;cases wM r a;show#[k,o,q,e]
def Mg(f:VB b){n N:Nat}(s:b.n=n)(q:n<=5)(l:0<=m)(j:m<=400)(a:(br b (aX n) N).length=N)(h:(N:Int)<=m)(g:Pf (a9 b (aX n) N) (gS b (aX n)) N k)(d:aN):∃t c,jh [.fz (bD b),.fz (.int m)] d=.ok (.rf t) c/\c[t]?=M (clC (sq (a9 b (aX n) N) (gS b (aX n)) N k) N):=by let(v,o,e,z,y,t,w,u,rfl,r):=(kz (zA f s q l j d) (λv c p=>p) λx #[_,i,A]=>by let:=my (ZZ a) i;ext).all;cases wM w a;cases Lq g u;show#[t,o,e,r]
def UN(fs:G Rm):Prop:=∀j r,fs[j]?=M r->b8 (fs.map eP) (b9 r.s)=M j
def QS(h:UN fs)(f:SW b s)(x y:D):UN (kI fs s x y):=by
 let e:=qS (fs:=fs) f x y;unfold kI d8 at*;cases q:b8 (fs.map eP) (b9 s)with
 |some t=>show h
 |none=>
  rw[q]at e;rw[aE (show¬(R:z Nat).isSome=P by nofun)]at e⊢;intro j r a;by_cases g:j<fs.length
  .rw[XT g]at a;rw[X2];show rc (h j r a)
  .rw[Yn ()]at a
   let i:j - fs.length=0:=by let:=(XB.mp a).1;simp at this;ext
   rw[i]at a;ext a;let:j=fs.length:=by ext
   subst this;show e
theorem IU(a:VB b)(f:SW b s):∀(es:G Evn) (fs:G Rm),(∀e∈es,EV b e)->UN fs->UN (eY b s r fs es)
 |[],_,_,h=>h
 |e::es,fs,he,h=>IU a f es _ (λx g=>he x (XX _ g)) (QS h (g8 a f (he e X0)) _ _)
theorem Am(a:VB b)(f:∀e∈es,EV b e):∀i,UN (br b es i)
 |0=>λj r g=>by
  let l:j=0:=by let:=(XB.mp g).1;let h:(br b es 0).length=1:=W;ext
  subst l;ext g;show ax (qQ (kQ (qI b)))
 |i+1=>by
  cases q:(br b es i)[i]? with
  |none=>rw[wV (by simpa using q)];show Am a f i
  |some r=>rw[pI q];show IU a (jJ a f i r (X3 q)) es _ f (Am a f i)
def Lz(a:VB b)(f:SW b s)(g:∀e∈es,EV b e){i:Nat}(h:es[i]?=M e):∃t,b8 ((eY b s r fs es).map eP) (b9 (ay b s e).1)=M t:=by let:=yB (b:=b) (s:=s) (r:=r) es fs (i+1);rw[xM h]at this;show#[_,qL (this.map eP) (qS (g8 a f (g e (X3 h))) _ _)]
def NH(f:VB b)(g:∀e∈es,EV b e)(v:(br b es N).length=N)(c:a<N):∃r:Rm,(br b es N)[a]?=M r/\SW b r.s/\pZ b es a=.tuple (es.map λe=>.tuple ((ay b r.s e).2.map iK))/\(gS b es a).length=es.length/\∀(i:Nat) e,es[i]?=M e->∃t q,(gS b es a)[i]?=M t/\t<N/\(br b es N)[t]?=M q/\q.s=(ay b r.s e).1/\b8 ((br b es N).map eP) (b9 (ay b r.s e).1)=M t:=by
 let(lt,_):=lh f g v c;let u:br b es a<+:br b es N:=by let:=na b es a (N - a);rwa [afi ()]at this
 let m:br b es (a+1)<+:br b es N:=by let:=na b es (a+1) (N - (a+1));rwa [afi ()]at this
 let q:(br b es a)[a]?=M ((br b es a)[a]'lt):=XM lt;generalize (br b es a)[a]'lt=r at q;let l:=jJ f g a r (X3 q);show#[r,?_,l,?_,?_,λi e B=>?_]
 .let(t,e):=u;rw[<-e,XT lt];show q
 .ext pZ;rw[q]
 .ext gS;rw[q];show Xz ..
 .let(t,n):=Lz (r:=a) (fs:=br b es a) f l g B
  rw[<-pI q]at n;let p:=qL (m.map eP) n;let(z,j,w):=mz p;rw[XS]at j;cases A:(br b es N)[t]? with
  |none=>rw[A]at j;ext j
  |some o=>rw[A]at j;cases X1 j;let y:=(XB.mp A).1;let h:=jJ f g N o (X3 A);show#[t,o,?_,by ext,A,Qf f f h (g8 f l (g e (X3 B))) (LD.kd_eqv _ _ (tE (kQ h)) (tE (kQ (g8 f l (g e (X3 B))))) w),p];ext gS;rw[q];show(es.map _)[i]?=_;rw[XS,B];show M (d8 _ _)=_;ext d8;rw[n];rfl
theorem B0{St:Nat->G Nat}(g:E.length=N)(a:∀d∈E,LD.keyD d=P)(c:i<N)(b:j<N):∀k,sq E St N k i=sq E St N k j->E[i]?=E[j]?
 |0,h=>by let f:E[i]?=M (E[i]'()):=XM _;let e:E[j]?=M (E[j]'()):=XM _;rw[f,e,(Om a f e).mp h]
 |k+1,h=>B0 g a c b k (by
  let:=(AH c b).mp h;injection this with this
  injection this with this
  show zF this)
def uE(c:Nat->Nat):Nat->G Pl->G (D×D)
 |_,[]=>[]
 |k,q::r=>(q.p,nd (c k))::uE c (k+1) r
theorem Ar(c:Nat->Nat):∀(k:Nat) (fs:G Pl) (p:D),(uE c k fs).find? (λd=>XG.eqv d.1 p)=R/\b8 fs p=R\/∃i q,(uE c k fs).find? (λd=>XG.eqv d.1 p)=M (q,nd (c (k+i)))/\b8 fs p=M i
 |_,[],_=>.inl #[W,W]
 |k,q::r,p=>by
  unfold uE b8;rw[Yv];cases XG.eqv q.p p with
  |true=>show .inr #[0,q.p,W,W]
  |false=>
   rw[aE X9];rcases Ar c (k+1) r p with⟨b,a⟩|⟨i,x,b,a⟩
   .show .inl #[b,by rw[a];rfl]
   .show .inr #[i+1,x,by rw[b,Y1,aaH 1 i],by rw[a];rfl]
def UY(h:b8 fs p=M t):fS (uE c 0 fs) p=M (nd (c t)):=by
 ext fS;rcases Ar c 0 fs p with⟨_,a⟩|⟨i,x,b,a⟩
 .rw[h]at a;ext a
 .rw[h]at a;ext a;rw[b,YB];rfl
theorem B2(c:Nat->Nat):∀(k:Nat) (fs:G Pl) (q:Pl),uE c k (fs++[q])=uE c k fs++[(q.p,nd (c (k+fs.length)))]
 |k,[],q=>rfl
 |k,a::r,q=>by show(a.p,nd (c k))::uE c (k+1) (r++[q])=(a.p,nd (c k))::(uE c (k+1) r++[(q.p,nd (c (k+(r.length+1))))]);rw[B2 c (k+1) r q,Y1,aaH 1 r.length]
theorem IA(c:Nat->Nat):∀(k:Nat) (fs:G Pl),(uE c k fs).length=fs.length
 |_,[]=>rfl
 |k,q::r=>ec (·+1) (IA c (k+1) r)
def PL(h:b8 fs q.p=R):jX (uE c 0 fs) q.p (nd (c fs.length))=uE c 0 (fs++[q]):=by
 rcases Ar c 0 fs q.p with⟨b,_⟩|⟨i,x,_,a⟩
 .ext jX;rw[b,B2,YB];rfl
 .rw[h]at a;ext a
def D8(c:Nat->Nat)(l:0<N)(j:N<=1000)(m:c 0=0):gR [.list ((XD N).map λi=>nd (c i)),nd N]=.ok (.fz (.bool P)):=by
 let f:cA [.list ((XD N).map λi=>nd (c i))]=-(nd N):=(dZ _).trans (by rw[Xz,XW]);let g:aW (.list ((XD N).map λi=>nd (c i))) (.int 0)=-(nd 0):=tV (by rw[cI l,m]);let cm:j4 (di (gN 0) cz (yK (tt "int" (aa 0)) (Fj (tt "bool" (aa 0)))) ((XD N).map λi=>nd (c i)) [R] [])=.ok ((XD N).map λ_=>XG.bool P):=hV (λi=>nd (c i)) (λ_=>.bool P) (XD N) (by rw[XW];show j) W λi _=>W;let b:=nV (λ_=>P) (XD N);rw[YY.mpr (λ_ _=>W)]at b;let a:∃n,fV 2 fH [.list ((XD N).map λi=>nd (c i)),nd N]=.ok n/\n=.fz (.bool P):=by show oM W ?_;let e:Er (Ag (aJ (tt "list" (aa 0)))) (Er (aJ (aH rd (eE cA {aa 0}) (aa 1))) (aJ (aH rd (aH aW (aa 0) (~~~0)) (~~~0)))) [zf (.list ((XD N).map λi=>nd (c i))),zf (nd N)]=.ok (XF,[zf (.list ((XD N).map λi=>nd (c i))),zf (nd N)]):=wg (Co (bH (GH (dx:=.list ((XD N).map λi=>nd (c i))) (ag W) W W) W)) λ_=>wg (bH (aF (cX (aj (ag W) aB) W f) (ag W) W W (STP.oh W)) W) λ_=>bH (aF (aF (ag W) aD W W g) aD W W (STP.oh W)) W;show l7 e (λz=>by ext z) λ_=>fA ?_;show eS (cX (aj (dz (fO (ag W) W W) W cm) aB) W b) W W
 let(n,h,rfl):=a;show h
theorem GS(h:aaP sn):l8 (.tuple (sn.map iK))=P:=Ju (by ext XG.canLay0;show vZ λq a=>Mu (h q a)) (by show XG.depthAll (sn.map iK)+1<=64;let:=lw (l:=sn) λq _=>B5 q;ext)
section
variable{b:Bd}{es:bg Evn}{N:Nat}{c:Nat->Nat}
def TH(f:RG c N)(e:∀i j,i<N->j<N->c i=c j->(a9 b es N)[i]?=(a9 b es N)[j]?)(d:a<N):aW (.tuple ((XD (Cn c N)).map (Et (a9 b es N) c N))) (nd (c a))=-(pZ b es a):=by let cl:=jt (c:=c) d;let(_,h,g,_):=yI f cl;show Ew ?_;rw[cI cl];ext Et;rw[e _ a h d g];ext a9;rw[cI d];rfl
def UQ{St:Nat->G Nat}(f:RG c N)(e:∀i j,i<N->j<N->c i=c j->(St i).map c=(St j).map c)(d:a<N):aW (.tuple ((XD (Cn c N)).map (Es St c N))) (nd (c a))=-(.tuple (bj ((St a).map c))):=by let cl:=jt (c:=c) d;let(_,h,g,_):=yI f cl;show Ew ?_;rw[cI cl,<-e _ a h d g];unfold Es bj;rw[Yg];rfl
end
def EE(h:dM [.fz (bD b),.fz (.int 90)] C=.er (TM 90) o):bN [.fz (bD b)] C=.ok (.fz .none) o:=by ext bN;dsimp only;rw[h];show ax W
def IP(h:dM [.fz (bD b),.fz (.int 90)] C=.ok v o):bN [.fz (bD b)] C=.ok v o:=by ext bN;dsimp only;rw[h]
abbrev G3(ns:G Int)(b:Bd)(es:G Evn)(r:aR):aR:=-(.list (ns.map .int))::-(bD b)::-(.list (es.map c9))::r
abbrev GL(ns:G Int)(b:Bd)(es:G Evn)(F:G Rm)(A S:D)(i:Nat)(r:aR):aR:=G3 ns b es<|some (.fz (.list ((F.map eP).map ub)))::-(A)::-(S)::M (.rf i)::r
def Gr(h:o[i]?=M (.lst (ds.map .fz))):lS 6 o (.rf i)=M (.list ds):=by
 ext lS;rw[h];show(au (lS 5 o) (ds.map .fz)).map XG.list=_;let:∀l:G D,au (lS 5 o) (l.map .fz)=M l:=λl=>by
  induction l with
  |nil=>rfl
  |cons d r a=>unfold List.map au;rw[a];rfl
 rw[this];rfl
def main(ns:bg Int)(s:ns.length<=63):L10.TK F_law [.list (ns.map .int)]=.ok (.fz (.bool XA)):=by
 let(n,hn,ek):=KW ns;let(b,I,bn,eb):=PH ns 1 n hn;let n5:n<=5:=by ext
 let e1:=K8 bn n5;let H:=wo bn;let ell:(aX n).length<=1000/\0<(aX n).length:=by ext aX;rw[XJ,XJ,Xz,Xz,XW];show n+n+1<=_/\0<n+n+1;ext
 let key:Out (F_law [.fz (.list (ns.map .int))] []) (λx _=>x=.fz (.bool XA)) (λ_=>False):=by
  show pf W ?_;show dc (ah (cS (aj (ag W) (aj aD (aj (cS (aj (ag W) aB) W W ek) aB))) W W eb)) W ?_;show dc (x:=.fz (.list ((aX n).map c9))) (ω1:=[.dead]) (ρ1:=G3 ns b (aX n) [Ld,Ld,Ld,Ld,Ld,Ld,Ld,Ld,Ld,Ld,Ld,Ld,Ld]) (gJ (cG (cS (aj (ag W) aB) W W e1)) (by rw[fL aG,c8];rfl)) W ?_;by_cases O:∃N,(br b (aX n) N).length=N/\N<=90
  case neg=>
   let(g,ee):=P4 I bn n5 (m:=90) () () (λN h=>by let:¬N<=90:=λz=>O #[N,h,z];ext) [.dead];show dc (gJ (qX (am (ah (ag W)) aA) W (EE ee)) (d:=.none) (by rfl)) W ?_;show RL (bM (bH (aF (ag W) aD W W W) W)) (LJ (ah aD) W)
  let(N,O,h90):=O;let(i1,ω1,r1,k1):=QH I bn n5 (m:=90) () () O () [.dead];show dc (ρ1:=G3 ns b (aX n) [-(.list (((br b (aX n) N).map eP).map ub)),Ld,Ld,Ld,Ld,Ld,Ld,Ld,Ld,Ld,Ld,Ld,Ld]) (gJ (qX (am (ah (ag W)) aA) W (IP r1)) (fL k1)) W ?_;show AG (bM (bH (aF (rv:=.fz (.bool XF)) (ag W) aD W W W) W)) (wu ?_);generalize ω1.set i1 .dead=ω1;let(k,ω2,stp,em):=MC I bn n5 (m:=90) () () O () ω1;let st2:=Mg I bn n5 (m:=90) () () O () stp;let dl:(a9 b (aX n) N).length=N:=by ext a9;rw[Xz,XW]
  let h0:0<N:=by let:=wT b (aX n) N;ext
  let hc:=uC (St:=gS b (aX n)) dl k;let hf:∀i j,i<N->j<N->_->_:=λi j hi M e=>B0 (St:=gS b (aX n)) dl (Ft I H O) hi M k e;let hs:∀i j,i<N->j<N->_->_:=λi j hi M e=>D9 dl stp.1 hi M e;let rm:∀a,a<N->_:=λa ha=>NH I H O ha;let un:=Am I H N;clear stp;generalize sq (a9 b (aX n) N) (gS b (aX n)) N k=c at hc hf hs st2 em;show dc (ρ1:=G3 ns b (aX n) [-(.list (((br b (aX n) N).map eP).map ub)),-(.tuple ((XD (Cn c N)).map (Es (gS b (aX n)) c N))),-(.tuple ((XD (Cn c N)).map (Et (a9 b (aX n) N) c N))),Ld,Ld,Ld,Ld,Ld,Ld,Ld,Ld,Ld,Ld]) (oE (am (ah (ag W)) (am (ah aD) aA)) W em) W ?_;clear em;let c0:c 0=0:=by let:=hc 0 h0;show Nat.le_zero.mp this
  let sd:∀a,a<N->_:=λa ha=>TH (b:=b) (es:=aX n) hc hf ha;let sp:∀a,a<N->_:=λa ha=>UQ hc hs ha;clear hf hs hc dl;generalize XG.tuple ((XD (Cn c N)).map (Es (gS b (aX n)) c N))=A at sp;generalize XG.tuple ((XD (Cn c N)).map (Et (a9 b (aX n) N) c N))=S at sd;let(v,p,e6,m6):=st2 ω2;show dc (ρ1:=GL ns b (aX n) (br b (aX n) N) A S v [Ld,Ld,Ld,Ld,Ld,Ld,Ld,Ld,Ld]) (oE (am (ah (ag W)) (am (ah aD) aA)) W e6) W ?_;clear e6;generalize hF:br b (aX n) N=F at O rm un;let m6':p[v]?=cL (.lst (((XD N).map λi=>nd (c i)).map .fz)):=by rw[<-n9];show m6
  let R:∀{r:aR},eE cA {aa 3} (bp (GL ns b (aX n) F A S v r))=.ok (.fz (nd N),bp (GL ns b (aX n) F A S v r)):=λ{r}=>cX (rv:=.fz (nd N)) (aj (ag W) aB) W ((dZ _).trans (by rw[Xz,Xz,O]));let lm:=D8 c h0 () c0;show AG (re (aV (Lj (ds:=[.list ((XD N).map λi=>nd (c i)),nd N]) (am (aL W) (am (ah R) aA)) (by unfold au au au;rw[Gr m6'];rfl) W lm W))) (wu ?_);clear lm;let il:=(XB.mp m6).1;let rg:=lC (N:=N) ();let ixF:∀{a:Nat} {r:Rm},F[a]?=cL r->aW (.list ((F.map eP).map ub)) (nd a)=-(ub (eP r)):=λ{a r} h=>tV (by rw[XS,XS,h];rfl);show dc (x:=.rf p.length) (ω1:=p++[.dd []]) (ρ1:=GL ns b (aX n) F A S v [cL (.rf p.length),Ld,Ld,Ld,Ld,Ld,Ld,Ld,Ld]) W W ?_;show jS (ve (λk ρ g=>∃G:b3 SV,ρ=GL ns b (aX n) F A S v [cL (.rf p.length),G,Ld,Ld,Ld,Ld,Ld,Ld,Ld]/\g=p++[Cell.dd (uE c 0 ((F.take k).map eP))]) (ds:=(XD N).map nd) (eB (nA (aj R aB) W rg)) #[Ld,W,W] ?_ ?_)
  .rintro k d ρ g B ⟨G,rfl,rfl⟩
   let kl:=(XB.mp B).1;rw[Xz,XW]at kl;rw[cI kl]at B;ext B;let(r,L,Z,_):=rm k kl;show#[GL ns b (aX n) F A S v [cL (.rf p.length),-(nd k),Ld,Ld,Ld,Ld,Ld,Ld,Ld],_,W,?_];let nk:b8 ((F.take k).map eP) (b9 r.s)=Ld:=by
    cases z:b8 ((F.take k).map eP) (b9 r.s)with
    |none=>rfl
    |some t=>let(q,T,_):=mz z;let tl:=(XB.mp T).1;rw[Xz,YJ]at tl;let h2:=un k r L;let h3:=qL ((List.take_prefix k F).map eP) z;rw[h2]at h3;ext h3;ext
   let lk:((F.take k).map eP).length=k:=by rw[Xz,YJ];ext
   let ml:(p++[Cell.dd (uE c 0 ((F.take k).map eP))])[v]?=cL (clC c N):=(XT il).trans m6;let pt:=xK (fd:=aq 7) (fk:=ae (aH aW (aH aW (aa 3) (aa 8)) (~~~0))) (fv:=L10.eD (aq 6) (ae (aa 8))) (ρ:=GL ns b (aX n) F A S v [cL (.rf p.length),-(nd k),Ld,Ld,Ld,Ld,Ld,Ld,Ld]) (Cr ml kl (aL W) (ah (ag W))) (aL W) (ah (d:=b9 r.s) (aF (rv:=.fz (b9 r.s)) (aF (rv:=.fz (ub (eP r))) (ag W) (ag W) W W (ixF L)) aD W W iO)) (vo (kQ Z)) (acZ) (by rw[IA,lk];ext);let pn:=PL (c:=c) (q:=eP r) nk;rw[lk]at pn;rw[show jX (uE c 0 ((F.take k).map eP)) (b9 r.s) (nd (c k))=uE c 0 ((F.take (k+1)).map eP)from pn.trans (by rw[Y5,L,X2];rfl),aeg _ _ (XO _),aef]at pt;show wG pt #[_,W,W]
  rintro Y g ⟨G,rfl,rfl⟩;rw[Xz,XW,<-O,aat];let gd:(p++[Cell.dd (uE c 0 (F.map eP))])[p.length]?=cL (.dd (uE c 0 (F.map eP))):=acZ;let ml:(p++[Cell.dd (uE c 0 (F.map eP))])[v]?=cL (clC c N):=(XT il).trans m6;generalize p++[Cell.dd (uE c 0 (F.map eP))]=ω4 at gd ml;generalize p.length=j7 at gd;let le:∀{r:aR},eE cA {aa 2} (bp (GL ns b (aX n) F A S v r))=.ok (.fz (nd (aX n).length),bp (GL ns b (aX n) F A S v r)):=λ{r}=>cX (rv:=.fz (nd (aX n).length)) (aj (ag W) aB) W ((dZ _).trans (by rw[Xz]));let U:∀{J:aN} {i:Nat} {x:Cell},ω4[i]?=cL x->(ω4++J)[i]?=cL x:=λ{J i x} h=>(XT (XB.mp h).1).trans h;let wr:∀{a i:Nat} {e:Evn} {r:Rm},pZ b (aX n) a=.tuple ((aX n).map λe=>.tuple ((ay b r.s e).2.map iK))->(aX n)[i]?=cL e->aW (pZ b (aX n) a) (nd i)=-(.tuple ((ay b r.s e).2.map iK)):=λ{a i e r} B hi=>by rw[B];show Ew (by rw[XS,hi];rfl)
  show jS (ve (λk ρ g=>∃(G C E w:b3 SV) (J:aN),ρ=GL ns b (aX n) F A S v [cL (.rf j7),G,C,E,w,Ld,Ld,Ld,Ld]/\g=ω4++J) (ds:=(XD N).map nd) (eB (nA (aj R aB) W rg)) #[G,Ld,Ld,Ld,[],W,(Yl _).symm] ?_ ?_)
  .rintro a d ρ g B ⟨G,C,E,w,J,rfl,rfl⟩;let P:=(XB.mp B).1;rw[Xz,XW]at P;rw[cI P]at B;ext B;let(r,L,Z,dr,sl,nx):=rm a P;show#[GL ns b (aX n) F A S v [cL (.rf j7),-(nd a),C,E,w,Ld,Ld,Ld,Ld],_,W,?_];show ve (λk ρ g=>∃(C E w:b3 SV) (J:aN),ρ=GL ns b (aX n) F A S v [cL (.rf j7),-(nd a),C,E,w,Ld,Ld,Ld,Ld]/\g=ω4++J) (ds:=(XD (aX n).length).map nd) (eB (nA (aj le aB) W (lC ell.1))) #[C,E,w,J,W,W] ?_ (λY g #[C,E,w,J,T,h2]=>#[_,C,E,w,J,T,h2]);rintro i d ρ g B ⟨C,E,w,J,rfl,rfl⟩;let il':=(XB.mp B).1;rw[Xz,XW]at il';rw[cI il']at B;ext B;obtain⟨e,y⟩:∃e,(aX n)[i]?=cL e:=#[_,XM il'];let(t,q,T,h2,h3,h4,h5):=nx i e y;let ev:=H e (X3 y);show#[GL ns b (aX n) F A S v [cL (.rf j7),-(nd a),-(nd i),E,w,Ld,Ld,Ld,Ld],_,W,?_];let ixE:aW (.list ((aX n).map c9)) (nd i)=-(c9 e):=tV (by rw[XS,y];rfl);let sf:=B9 (ρ:=GL ns b (aX n) F A S v [cL (.rf j7),-(nd a),-(nd i),E,w,Ld,Ld,Ld,Ld]) (ω:=ω4++J) I Z ev (fa:=ae (aa 1)) (fb:=ae (aH aW (aH aW (aa 3) (aa 8)) (~~~0))) (fc:=ae (aH aW (aa 2) (aa 9))) (ah (ag W)) (ah (aF (rv:=.fz (b9 r.s)) (aF (rv:=.fz (ub (eP r))) (ag W) (ag W) W W (ixF L)) aD W W iO)) (ah (aF (rv:=.fz (c9 e)) (ag W) (ag W) W W ixE));let sk:=kQ (g8 I Z ev);let so:=wj I Z ev;let x2:=wr dr y;generalize ay b r.s e=u at sf sk so x2 h5;show dc (ρ1:=GL ns b (aX n) F A S v [cL (.rf j7),-(nd a),-(nd i),-(.list (u.2.map iK)),-(b9 u.1),Ld,Ld,Ld,Ld]) sf W ?_;rw[Yb];let y2:aW (.tuple (bj ((gS b (aX n) a).map c))) (nd i)=-(nd (c t)):=Ew (by ext bj;rw[XS,XS,T];rfl);let cm:L10.eD (aq 6) (ae (aa 8)) (GL ns b (aX n) F A S v [cL (.rf j7),-(nd a),-(nd i),-(.list (u.2.map iK)),-(b9 u.1),Ld,Ld,Ld,Ld]) (ω4++(J++[Cell.dead]))=.ok (.fz (nd (c a))) (ω4++(J++[Cell.dead])):=Cr (U ml) P (aL W) (ah (ag W));show .eq (iz (jv (aV (cK (bB (bB (ah (ag W)) cm (sd a P)) (ah (ag W)) x2) (ah (cX (rv:=.fz (.tuple (u.2.map iK))) (aj (ag W) aB) W W)) (bX (STP.oh (GS so))))) (aV (cK (bB (bB (ah (ag W)) cm (sp a P)) (ah (ag W)) y2) (yr (aL W) (ah (ag W)) (vo sk) (U gd) (UY h5)) (bX (STP.oh W))))) gQ) #[_,_,_,_,W,W]
  rintro Y g ⟨G,C,E,w,J,rfl,rfl⟩;let ml5:(ω4++J)[v]?=cL (clC c N):=U ml;generalize ω4++J=ω5 at ml5;clear gd ml U R rg m6 m6' il;let(ms,_,cu):=HV ns (cL 12) (cL 62);let(xs,c1,c2,c3):=se (gt:=gN 0) (ft:=cz) (fe:=eA aP 3 {aa 0,~~~60,eE cA {aa 1}}) (ds:=ms.map .int) (ρ:=[Ld,-(.list ((aX n).map c9))]) (λρ=>∃o,ρ=[o,-(.list ((aX n).map c9))]) (λ_ x=>∃a:Nat,x=nd a/\a<(aX n).length) #[Ld,W] (by rw[Xz];ext) (by
   rintro j d M ρ ⟨o,rfl⟩;rw[XS]at M;cases z:ms[j]? with
   |none=>rw[z]at M;ext M
   |some x=>rw[z]at M;cases X1 M;let(r,tk,rl):=gb x 60 (aX n).length () ell.2;show#[nd r,_,G0 (ρ1:=[-(.int x),-(.list ((aX n).map c9))]) W W (cS (rv:=.fz (nd r)) (ds:=[.int x,nd 60,nd (aX n).length]) (aj (ag W) (aj aD (aj (cX (rv:=.fz (nd (aX n).length)) (aj (ag W) aB) W ((dZ _).trans (by rw[Xz]))) aB))) W W tk) W W,#[_,W],r,W,rl])
  let(row,rfl,rq):=qN (f:=nd) (Q:=λ_ (a:Nat)=>a<(aX n).length) xs 0 c3;rw[Xz,Xz]at c2;let rl:row.length<=1000:=by ext
  show dc (x:=.fz (.list (row.map nd))) (ω1:=ω5++[.dead]) (ρ1:=GL ns b (aX n) F A S v [cL (.rf j7),G,C,E,w,-(.list (row.map nd)),Ld,Ld,Ld]) (gJ (cG (ds:=row.map nd) (dz (cs:=[.list ((aX n).map c9)]) (ds:=ms.map .int) (fO (d:=.list (ms.map .int)) (Oh (rv:=.ow (ms.map .int)) (ag W) (tM aD W) (tM aD W) W cu) W W) W c1)) (by rw[fL aG,c8])) W ?_;let K:(ω5++[Cell.dead])[v]?=cL (clC c N):=(XT (XB.mp ml5).1).trans ml5;generalize ω5++[Cell.dead]=ω6 at K;show dc (ρ1:=GL ns b (aX n) F A S v [cL (.rf j7),G,C,E,w,-(.list (row.map nd)),-(nd (c 0)),Ld,Ld]) (ah aD) (by rw[c0];rfl) ?_;let gv:∀k∈row,∃e,(aX n)[k]?=cL e:=λk X=>by let(j,M):=ZN.mp X;show#[_,XM (rq j k M)]
  let cm:j4 (di (gN 0) cz (aH aW (aa 1) (aa 0)) (row.map nd) [Ld,-(.list ((aX n).map c9))] [])=.ok (row.map λk=>c9 (((aX n)[k]?).getD .turn)):=hV nd (λk=>c9 (((aX n)[k]?).getD .turn)) row rl W λk X=>by let(e,y):=gv k X;show aF (rv:=.fz (c9 (((aX n)[k]?).getD .turn))) (ag W) (ag W) W W (tV (by rw[XS,y];rfl))
  let ee:row.map (λk=>c9 (((aX n)[k]?).getD .turn))=(row.map λk=>((aX n)[k]?).getD .turn).map c9:=by rw[Yg];rfl
  rw[ee]at cm;let eve:∀e∈row.map (λk=>((aX n)[k]?).getD .turn),EV b e:=λe y=>by let(k,X,rfl):=Yr.mp y;let(e,y):=gv k X;rw[y];show H e (X3 y)
  let evk:∀i k,row[i]?=cL k->∃e,(aX n)[k]?=cL e/\(row.map λk=>((aX n)[k]?).getD .turn)[i]?=cL e:=λi k hi=>by let(e,y):=gv k (X3 hi);show#[e,y,by rw[XS,hi];show cL (((aX n)[k]?).getD .turn)=_;rw[y];rfl]
  let aiL:(row.map λk=>((aX n)[k]?).getD .turn).length=row.length:=Xz ..;generalize (row.map λk=>((aX n)[k]?).getD .turn)=evs at cm eve evk aiL;let pq:=TD I evs () eve;let zl:(jN (row.map nd) (za (dg b eZ evs).2)).length=row.length:=by rw[sI,Xz,IR,rR,aiL,Nat.min_self]
  let z0:(br b (aX n) 0)[0]?=cL #[eZ,.none,.none]:=W;show jS (ve (λi ρ g=>∃(a:Nat) (r:Rm) (oe of:b3 SV),a<N/\F[a]?=cL r/\r.s=(dg b eZ (evs.take i)).1/\ρ=GL ns b (aX n) F A S v [cL (.rf j7),G,C,oe,w,-(.list (row.map nd)),-(nd (c a)),of,Ld]/\g=ω6) (ds:=jN (row.map nd) (za (dg b eZ evs).2)) (eB (qJ (d:=.list (row.map nd)) (e:=.list (za (dg b eZ evs).2)) (aj (ag W) (aj (aF (rv:=.fz (.list (za (dg b eZ evs).2))) (cS (rv:=.fz (.tuple [.list (za (dg b eZ evs).2),b9 (dg b eZ evs).1])) (ds:=[bD b,.list (evs.map c9)]) (aj (ag W) (aj (dz (cs:=[.list ((aX n).map c9)]) (ds:=row.map nd) (fO (ag W) W W) W cm) aB)) W W pq) aD W W iO) aB)) W W W)) ?_ ?_ ?_)
  .let(r,L,_):=rm 0 h0;show#[0,r,E,Ld,h0,L,?_,W,W];let p0:=na b (aX n) 0 N;rw[YB,hF]at p0;let(u,hu):=p0;rw[<-hu,XT (XB.mp z0).1,z0]at L;ext L;rw[abI];rfl
  .rintro i d ρ g B ⟨a,r,oe,of,P,L,hs,rfl,rfl⟩;let il:=(XB.mp B).1;rw[zl]at il;obtain⟨k,X⟩:∃k,row[i]?=cL k:=#[_,XM il];let(e,y,hv):=evk i k X;let(r',hr',Z,dr,_,nx):=rm a P;rw[L]at hr';ext hr';let(t,q,T,h2,h3,h4,_):=nx k e y;let(n1,n2):=vP b evs eZ i e hv;rw[<-hs]at n1 n2;let ev:=H e (X3 y);let so:=wj I Z ev;rw[sD,XS,X,show(za (dg b eZ evs).2)[i]?=cL (.list ((ay b r.s e).2.map iK)) by ext za;rw[XS,n2];rfl]at B;ext B;show#[GL ns b (aX n) F A S v [cL (.rf j7),G,C,-(.list ((ay b r.s e).2.map iK)),w,-(.list (row.map nd)),-(nd (c a)),-(nd k),Ld],g,W,?_];let x2:=wr dr y;let y2:aW (.tuple (bj ((gS b (aX n) a).map c))) (nd k)=-(nd (c t)):=Ew (by ext bj;rw[XS,XS,T];rfl);show AG (bM (bH (aF (rv:=.fz (.bool XF)) (aF (rv:=.fz (.tuple ((ay b r.s e).2.map iK))) (aF (rv:=.fz (pZ b (aX n) a)) (ag W) (ag W) W W (sd a P)) (ag W) W W x2) (cX (rv:=.fz (.tuple ((ay b r.s e).2.map iK))) (aj (ag W) aB) W W) W W (STP.oh (GS so))) W)) (wu ?_);show wG (kL (ah (aF (rv:=.fz (nd (c t))) (aF (rv:=.fz (.tuple (bj ((gS b (aX n) a).map c)))) (ag W) (ag W) W W (sp a P)) (ag W) W W y2)) W) #[t,q,_,_,h2,h3,by rw[h4,n1],W,W]
  rintro Y g ⟨a,r,oe,of,_,_,_,rfl,rfl⟩;rw[n9]at K;let ls:=fL (ω:=g++[.lst (((XD N).map λi=>nd (c i)).map .fz)]) aG;rw[c8]at ls;let cb:ji qC (ai (aq 6) aw) (GL ns b (aX n) F A S v [cL (.rf j7),G,C,oe,w,-(.list (row.map nd)),-(nd (c a)),of,Ld]) g=.ok (.rf g.length) (g++[.lst (((XD N).map λi=>nd (c i)).map .fz)]):=by ext ji;rw[am (aL W) aA,ej];unfold DH au au;rw[cP K];rfl
  show dc (ρ1:=GL ns b (aX n) F A S v [cL (.rf j7),G,C,oe,w,-(.list (row.map nd)),-(nd (c a)),of,-(.list ((XD N).map λi=>nd (c i)))]) (gJ cb ls) W ?_;show sZ (hJ (SG (aL W) ((XT (XB.mp K).1).trans K))) ?_;let(t,ω8,e8,m8):=st2 ((g++[Cell.dead]).set v (Cell.lst []));rw[n9]at m8;let qn:l8 (.list ((XD N).map λi=>nd (c i)))=XA:=Ju (by ext XG.canLay0;show vZ λ_ _=>W) (by show XG.depthAll ((XD N).map λi=>nd (c i))+1<=64;let:=lw (f:=λi=>nd (c i)) (n:=0) (l:=XD N) λ_ _=>XO _;ext);show vT (cK (oE (am (ah (ag W)) (am (ah aD) aA)) W e8) (ah (ag W)) (sF (cP m8) W (STP.KP qn))) W
 let(x,g,T,rfl):=key.all;ext L10.TK;rw[show[XG.list (ns.map .int)].map SV.fz=[.fz (.list (ns.map .int))]from rfl,T]
end K43
namespace K43
open PySem L2 L3 L10 STP CC
set_option synthInstance.maxHeartbeats 400000
set_option synthInstance.maxSize 4000
def top(i:Nat):Zn:=PySem.Challenge.pw_chordbed_k43_whole_the_machine_sends_the.main.body.getD i (.Pass ⟨0,0,0,0⟩)
def bv:G CC.Fd:=[CC.fdX 1 "TooMany" "most",
 CC.fdP 1 "layer_of" ["standing"] 1 dY,
 CC.fdP 1 "looked_up" ["bed","layer","key"] 3 iP,
 CC.fdP 1 "chords_over" ["bed","keys"] 2 bx,
 CC.fdP 1 "chord_acts" ["bed","keys"] 2 fQ,
 CC.fdP 1 "_law_cell" ["_law_script","_law_k"] 2 bQ,
 CC.fdP 1 "_law_take" ["_law_cell_here","_law_salt","_law_many"] 3 aP,
 CC.fdP 2 "_law_letter" ["_law_cell_here","_law_salt"] 2 cQ,
 CC.fdP 3 "_law_meaning" ["_law_cell_here","_law_layer","_law_many"] 3 dX,
 CC.fdP 2 "_law_chords" ["_law_cell_here","_law_keys_here","_law_first"] 3 fZ,
 CC.fdP 4 "_law_bed" ["_law_script","_law_at","_law_keys_here"] 3 jO,
 CC.fdP 2 "_law_keys" ["_law_script"] 1 iS,
 CC.fdP 1 "events_of" ["bed"] 1 gC,
 CC.fdP 1 "_law_events" ["_law_bed_here"] 1 gl,
 CC.fdP 1 "_law_marks" ["_law_found","_law_many"] 2 gR,
 CC.fdK 3 "Hand" ["self","bed","standing"] 3 dG,
 CC.fdM XF 3 "Hand" "stands" ["self"] 1 bz,
 CC.fdM XF 3 "Hand" "is_waiting" ["self","key"] 2 bV,
 CC.fdM XF 3 "Hand" "has_act" ["self","act"] 2 bJ,
 CC.fdM XF 4 "Hand" "come" ["self","key","act"] 3 bq,
 CC.fdM XF 4 "Hand" "go" ["self","key"] 2 jp,
 CC.fdM XF 5 "Hand" "decide" ["self"] 1 cR,
 CC.fdM XF 4 "Hand" "makes_chord" ["self","key"] 2 dA,
 CC.fdM XF 6 "Hand" "put_to_chord" ["self","key"] 2 cV,
 CC.fdM XF 5 "Hand" "begin" ["self","key"] 2 fy,
 CC.fdM XF 7 "Hand" "press" ["self","key"] 2 g7,
 CC.fdM XF 6 "Hand" "settle" ["self","key"] 2 gx,
 CC.fdM XF 7 "Hand" "lift" ["self","key"] 2 iW,
 CC.fdM XF 6 "Hand" "wait_on" ["self"] 1 fK,
 CC.fdS 8 "step" ["bed","standing","event"] 3 STP.iA,
 CC.fdS 9 "play" ["bed","events"] 2 qK,
 CC.fdP 9 "play" ["bed","events"] 2 rp,
 CC.fdM P 3 "Places" "enter" ["self","place","back","event"] 4 bF,
 CC.ahc 4 "Places" ["self","first","most"] 3 cC,
 CC.fdD [] 9 "walked" ["bed","most"] 2 iu,
 CC.fdD [] 10 "rooms" ["bed","most"] 2 dM,
 CC.fdS 3 "numbered" ["marks"] 1 dB,
 CC.fdM XF 3 "Sorting" "mark_of" ["self","room"] 2 a8,
 CC.ahc 10 "Sorting" ["self","bed","most"] 3 aY,
 CC.fdD [] 12 "machine" ["bed","most"] 2 jf,
 CC.fdD [] 12 "states" ["bed","most"] 2 jh,
 CC.fdS 12 "_law_rooms" ["_law_bed_here"] 1 bN]
def jd:CC.Md:=⟨["max","all","list","sorted","len","range","tuple","isinstance","int","bool","dict","zip"],[],[("NONE",(.tuple [(.str "none")])),("CHORD",(.tuple [(.str "chord")])),("AT_REST",(.tuple [(.tuple []),.none,.none]))],[("Hand",["bed","acts","waiting","once","sent"]),("Places",["most","found","numbers"]),("Sorting",["steps","sends","rounds"])]⟩
noncomputable instance:CC.FX bv "TooMany" "most":=⟨0,1,W⟩
noncomputable instance:CC.Fn bv CC.fdP dY 1:=⟨1,1,"layer_of",["standing"],W⟩
noncomputable instance:CC.Fn bv CC.fdP iP 3:=⟨2,1,"looked_up",["bed","layer","key"],W⟩
noncomputable instance:CC.Fn bv CC.fdP bx 2:=⟨3,1,"chords_over",["bed","keys"],W⟩
noncomputable instance:CC.Fn bv CC.fdP fQ 2:=⟨4,1,"chord_acts",["bed","keys"],W⟩
noncomputable instance:CC.Fn bv CC.fdP bQ 2:=⟨5,1,"_law_cell",["_law_script","_law_k"],W⟩
noncomputable instance:CC.Fn bv CC.fdP aP 3:=⟨6,1,"_law_take",["_law_cell_here","_law_salt","_law_many"],W⟩
noncomputable instance:CC.Fn bv CC.fdP cQ 2:=⟨7,2,"_law_letter",["_law_cell_here","_law_salt"],W⟩
noncomputable instance:CC.Fn bv CC.fdP dX 3:=⟨8,3,"_law_meaning",["_law_cell_here","_law_layer","_law_many"],W⟩
noncomputable instance:CC.Fn bv CC.fdP fZ 3:=⟨9,2,"_law_chords",["_law_cell_here","_law_keys_here","_law_first"],W⟩
noncomputable instance:CC.Fn bv CC.fdP jO 3:=⟨10,4,"_law_bed",["_law_script","_law_at","_law_keys_here"],W⟩
noncomputable instance:CC.Fn bv CC.fdP iS 1:=⟨11,2,"_law_keys",["_law_script"],W⟩
noncomputable instance:CC.Fn bv CC.fdP gC 1:=⟨12,1,"events_of",["bed"],W⟩
noncomputable instance:CC.Fn bv CC.fdP gl 1:=⟨13,1,"_law_events",["_law_bed_here"],W⟩
noncomputable instance:CC.Fn bv CC.fdP gR 2:=⟨14,1,"_law_marks",["_law_found","_law_many"],W⟩
noncomputable instance:CC.FK bv "Hand" dG 3:=⟨15,3,["self","bed","standing"],W⟩
noncomputable instance:CC.FM bv XF "Hand" "stands" bz 1:=⟨16,3,["self"],W⟩
noncomputable instance:CC.FM bv XF "Hand" "is_waiting" bV 2:=⟨17,3,["self","key"],W⟩
noncomputable instance:CC.FM bv XF "Hand" "has_act" bJ 2:=⟨18,3,["self","act"],W⟩
noncomputable instance:CC.FM bv XF "Hand" "come" bq 3:=⟨19,4,["self","key","act"],W⟩
noncomputable instance:CC.FM bv XF "Hand" "go" jp 2:=⟨20,4,["self","key"],W⟩
noncomputable instance:CC.FM bv XF "Hand" "decide" cR 1:=⟨21,5,["self"],W⟩
noncomputable instance:CC.FM bv XF "Hand" "makes_chord" dA 2:=⟨22,4,["self","key"],W⟩
noncomputable instance:CC.FM bv XF "Hand" "put_to_chord" cV 2:=⟨23,6,["self","key"],W⟩
noncomputable instance:CC.FM bv XF "Hand" "begin" fy 2:=⟨24,5,["self","key"],W⟩
noncomputable instance:CC.FM bv XF "Hand" "press" g7 2:=⟨25,7,["self","key"],W⟩
noncomputable instance:CC.FM bv XF "Hand" "settle" gx 2:=⟨26,6,["self","key"],W⟩
noncomputable instance:CC.FM bv XF "Hand" "lift" iW 2:=⟨27,7,["self","key"],W⟩
noncomputable instance:CC.FM bv XF "Hand" "wait_on" fK 1:=⟨28,6,["self"],W⟩
noncomputable instance:CC.Fn bv CC.fdS STP.iA 3:=⟨29,8,"step",["bed","standing","event"],W⟩
noncomputable instance:CC.Fn bv CC.fdS qK 2:=⟨30,9,"play",["bed","events"],W⟩
noncomputable instance:CC.Fn bv CC.fdP rp 2:=⟨31,9,"play",["bed","events"],W⟩
noncomputable instance:CC.FM bv P "Places" "enter" bF 4:=⟨32,3,["self","place","back","event"],W⟩
noncomputable instance:CC.FKE bv "Places" cC 3:=⟨33,4,["self","first","most"],W⟩
noncomputable instance:CC.Fn bv (CC.fdD []) iu 2:=⟨34,9,"walked",["bed","most"],W⟩
noncomputable instance:CC.Fn bv (CC.fdD []) dM 2:=⟨35,10,"rooms",["bed","most"],W⟩
noncomputable instance:CC.Fn bv CC.fdS dB 1:=⟨36,3,"numbered",["marks"],W⟩
noncomputable instance:CC.FM bv XF "Sorting" "mark_of" a8 2:=⟨37,3,["self","room"],W⟩
noncomputable instance:CC.FKE bv "Sorting" aY 3:=⟨38,10,["self","bed","most"],W⟩
noncomputable instance:CC.Fn bv (CC.fdD []) jf 2:=⟨39,12,"machine",["bed","most"],W⟩
noncomputable instance:CC.Fn bv (CC.fdD []) jh 2:=⟨40,12,"states",["bed","most"],W⟩
noncomputable instance:CC.Fn bv CC.fdS bN 1:=⟨41,12,"_law_rooms",["_law_bed_here"],W⟩
noncomputable instance k1:CC.CS bv (CC.so ir):=by delta ir;infer_instance
def e1:CC.Ze bv (CC.so ir) jd ["standing"] ["standing"] (top 8) 0 1 XF=P:=by left
noncomputable instance k2:CC.CS bv (CC.so gy):=by delta gy;infer_instance
def e2:CC.Ze bv (CC.so gy) jd ["bed","layer","key","meaning"] ["bed","layer","key"] (top 12) 0 2 XF=P:=by left
noncomputable instance k3:CC.CS bv (CC.so ef):=by delta ef;infer_instance
def e3:CC.Ze bv (CC.so ef) jd ["bed","keys"] ["bed","keys"] (top 13) 0 3 XF=P:=by left
noncomputable instance k4:CC.CS bv (CC.so fG):=by delta fG;infer_instance
def e4:CC.Ze bv (CC.so fG) jd ["bed","keys","chord"] ["bed","keys"] (top 14) 0 4 XF=P:=by left
noncomputable instance k5:CC.CS bv (CC.so iV):=by delta iV;infer_instance
def e5:CC.Ze bv (CC.so iV) jd ["_law_script","_law_k"] ["_law_script","_law_k"] (top 26) 0 5 XF=P:=by left
noncomputable instance k6:CC.CS bv (CC.so eV):=by delta eV;infer_instance
def e6:CC.Ze bv (CC.so eV) jd ["_law_cell_here","_law_salt","_law_many","_law_turn","_law_number"] ["_law_cell_here","_law_salt","_law_many"] (top 27) 0 6 XF=P:=by left
noncomputable instance k7:CC.CS bv (CC.so gh):=by delta gh;infer_instance
def e7:CC.Ze bv (CC.so gh) jd ["_law_cell_here","_law_salt"] ["_law_cell_here","_law_salt"] (top 28) 1 7 XF=P:=by left
noncomputable instance k8:CC.CS bv (CC.so cZ):=by delta cZ;infer_instance
def e8:CC.Ze bv (CC.so cZ) jd ["_law_cell_here","_law_layer","_law_many","_law_way","_law_level"] ["_law_cell_here","_law_layer","_law_many"] (top 29) 2 8 XF=P:=by left
noncomputable instance k9:CC.CS bv (CC.so dI):=by delta dI;infer_instance
def e9:CC.Ze bv (CC.so dI) jd ["_law_cell_here","_law_keys_here","_law_first","_law_found","_law_mask","_law_some","_law_good"] ["_law_cell_here","_law_keys_here","_law_first"] (top 30) 1 9 XF=P:=by left
noncomputable instance k10:CC.CS bv (CC.so fU):=by delta fU;infer_instance
def WP:CC.Ze bv (CC.so fU) jd ["_law_script","_law_at","_law_keys_here","_law_cell_here","_law_many","_law_layers","_law_layer","_law_cells","_law_chords_here"] ["_law_script","_law_at","_law_keys_here"] (top 31) 3 10 XF=P:=by left
noncomputable instance k11:CC.CS bv (CC.so iU):=by delta iU;infer_instance
def W3:CC.Ze bv (CC.so iU) jd ["_law_script"] ["_law_script"] (top 32) 1 11 XF=P:=by left
noncomputable instance k12:CC.CS bv (CC.so gA):=by delta gA;infer_instance
def Xf:CC.Ze bv (CC.so gA) jd ["bed","downs","ups"] ["bed"] (top 16) 0 12 XF=P:=by left
noncomputable instance k13:CC.CS bv (CC.so gf):=by delta gf;infer_instance
def Xq:CC.Ze bv (CC.so gf) jd ["_law_bed_here","_law_found","_law_word","_law_key"] ["_law_bed_here"] (top 33) 0 13 XF=P:=by left
noncomputable instance k14:CC.CS bv (CC.so fH):=by delta fH;infer_instance
def WU:CC.Ze bv (CC.so fH) jd ["_law_found","_law_many"] ["_law_found","_law_many"] (top 35) 0 14 XF=P:=by left
noncomputable instance k15:CC.CS bv (CC.Zs eK):=by delta eK;infer_instance
def Xd:CC.Ze bv (CC.Zs eK) jd ["self","bed","standing"] ["self","bed","standing"] (aO (top 11) 0) 2 15 XF=P:=by left
noncomputable instance k16:CC.CS bv (CC.Zs gc):=by delta gc;infer_instance
def Xh:CC.Ze bv (CC.Zs gc) jd ["self"] ["self"] (aO (top 11) 1) 2 16 XF=P:=by left
noncomputable instance k17:CC.CS bv (CC.Zs dP):=by delta dP;infer_instance
def WM:CC.Ze bv (CC.Zs dP) jd ["self","key"] ["self","key"] (aO (top 11) 2) 2 17 XF=P:=by left
noncomputable instance k18:CC.CS bv (CC.Zs fE):=by delta fE;infer_instance
def Xr:CC.Ze bv (CC.Zs fE) jd ["self","act"] ["self","act"] (aO (top 11) 13) 2 18 XF=P:=by left
noncomputable instance k19:CC.CS bv (CC.Zs iR):=by delta iR;infer_instance
def Xg:CC.Ze bv (CC.Zs iR) jd ["self","key","act"] ["self","key","act"] (aO (top 11) 11) 3 19 XF=P:=by left
noncomputable instance k20:CC.CS bv (CC.Zs lH):=by delta lH;infer_instance
def Xn:CC.Ze bv (CC.Zs lH) jd ["self","key","act"] ["self","key"] (aO (top 11) 12) 3 20 XF=P:=by left
noncomputable instance k21:CC.CS bv (CC.Zs gw):=by delta gw;infer_instance
def WN:CC.Ze bv (CC.Zs gw) jd ["self","keys","what","acts","key","act"] ["self"] (aO (top 11) 10) 4 21 XF=P:=by left
noncomputable instance k22:CC.CS bv (CC.Zs dw):=by delta dw;infer_instance
def Xp:CC.Ze bv (CC.Zs dw) jd ["self","key"] ["self","key"] (aO (top 11) 4) 3 22 XF=P:=by left
noncomputable instance k23:CC.CS bv (CC.Zs cU):=by delta cU;infer_instance
def Xt:CC.Ze bv (CC.Zs cU) jd ["self","key","keys"] ["self","key"] (aO (top 11) 5) 5 23 XF=P:=by left
noncomputable instance k24:CC.CS bv (CC.Zs gX):=by delta gX;infer_instance
def WZ:CC.Ze bv (CC.Zs gX) jd ["self","key","layer","meaning","word"] ["self","key"] (aO (top 11) 6) 4 24 XF=P:=by left
noncomputable instance k25:CC.CS bv (CC.Zs g9):=by delta g9;infer_instance
def WX:CC.Ze bv (CC.Zs g9) jd ["self","key"] ["self","key"] (aO (top 11) 3) 6 25 XF=P:=by left
noncomputable instance k26:CC.CS bv (CC.Zs gj):=by delta gj;infer_instance
def Xu:CC.Ze bv (CC.Zs gj) jd ["self","key","what"] ["self","key"] (aO (top 11) 8) 5 26 XF=P:=by left
noncomputable instance k27:CC.CS bv (CC.Zs iQ):=by delta iQ;infer_instance
def W5:CC.Ze bv (CC.Zs iQ) jd ["self","key"] ["self","key"] (aO (top 11) 7) 6 27 XF=P:=by left
noncomputable instance k28:CC.CS bv (CC.Zs fD):=by delta fD;infer_instance
def WT:CC.Ze bv (CC.Zs fD) jd ["self","age"] ["self"] (aO (top 11) 9) 5 28 XF=P:=by left
noncomputable instance k29:CC.CS bv (CC.Zs STP.wP):=by delta STP.wP;infer_instance
def WG:CC.Ze bv (CC.Zs STP.wP) jd ["bed","standing","event","hand"] ["bed","standing","event"] (top 9) 7 29 XF=P:=by left
noncomputable instance k30:CC.CS bv (CC.Zs qM):=by delta qM;infer_instance
def Wt:CC.Ze bv (CC.Zs qM) jd ["bed","events","standing","all_sent","event","answer"] ["bed","events"] (top 10) 8 30 XF=P:=by left
noncomputable instance k32:CC.CS bv (CC.Zs bT):=by delta bT;infer_instance
def Xb:CC.Ze bv (CC.Zs bT) jd ["self","place","back","event"] ["self","place","back","event"] (aO (top 19) 1) 2 32 P=P:=by left
noncomputable instance k33:CC.CS bv (CC.Zs bC):=by delta bC;infer_instance
def WI:CC.Ze bv (CC.Zs bC) jd ["self","first","most"] ["self","first","most"] (aO (top 19) 0) 3 33 P=P:=by left
noncomputable instance k34:CC.CS bv (CC.Zs kH):=by delta kH;infer_instance
def W6:CC.Ze bv (CC.Zs kH) jd ["bed","most","events","places","steps","sends","room","standing","answers"] ["bed","most"] (top 18) 8 34 P=P:=by left
noncomputable instance k35:CC.CS bv (CC.Zs mV):=by delta mV;infer_instance
def Q0:CC.Ze bv (CC.Zs mV) jd ["bed","most"] ["bed","most"] (top 17) 9 35 P=P:=by left
noncomputable instance k36:CC.CS bv (CC.Zs iw):=by delta iw;infer_instance
def Tt:CC.Ze bv (CC.Zs iw) jd ["marks","numbers"] ["marks"] (top 24) 2 36 XF=P:=by left
noncomputable instance k37:CC.CS bv (CC.Zs dQ):=by delta dQ;infer_instance
def WH:CC.Ze bv (CC.Zs dQ) jd ["self","room","alike"] ["self","room"] (aO (top 23) 1) 2 37 XF=P:=by left
noncomputable instance k38:CC.CS bv (CC.Zs dC):=by delta dC;infer_instance
def W4:CC.Ze bv (CC.Zs dC) jd ["self","bed","most","walk","finer"] ["self","bed","most"] (aO (top 23) 0) 9 38 P=P:=by left
noncomputable instance k39:CC.CS bv (CC.Zs lz):=by delta lz;infer_instance
def Xm:CC.Ze bv (CC.Zs lz) jd ["bed","most","sorting","state_of","firsts","steps"] ["bed","most"] (top 21) 11 39 P=P:=by left
noncomputable instance k40:CC.CS bv (CC.Zs nF):=by delta nF;infer_instance
def WQ:CC.Ze bv (CC.Zs nF) jd ["bed","most"] ["bed","most"] (top 22) 11 40 P=P:=by left
noncomputable instance k42:CC.CS bv (CC.Zs AX):=by delta AX;infer_instance
def Xe:CC.Ze bv (CC.Zs AX) jd ["_law_script","_law_bed_here","_law_events_here","_law_some","_law_steps","_law_sends","_law_marks_here","_law_known","_law_at","_law_k","_law_sent","_law_behind","_law_row","_law_here","_law_number","_law_kept"] ["_law_script"] (top 36) 12 42 XF=P:=by left
end K43
namespace L2
open PySem PySem.Spec PyProof.Rows
section
variable{Z:St}{H:Hp}{Q:VK}{D:Ends}
theorem Me{K:lD}{c b:TE}{f:Str}(h:b Z H λy H1=>c Z H1 λx e=>∃a C d fs,x=.ref a/\e a=M (.ins C d fs)/\Cls K C/\aaQ K C f/\fs.length<1000/\D.nx Z (bf e a (.ins C d (i4 f y fs)))):QZ K c b f D Z H:=h
theorem QN{c:TT}{t u:TE}(h:c Z H λb H1=>if b=P then t Z H1 Q else u Z H1 Q):Vf c t u Z H Q:=h
theorem P0{K:lD}{b:TE}{f:Str}(h:b Z H λx H1=>∃a C c fs v,x=.ref a/\H1 a=M (.ins C c fs)/\Cls K C/\aaQ K C f/\fs.lookup f=M v/\Q v H1):ST K b f Z H Q:=h
theorem MO{C:I}{m:Str}{sp:Sp}{E:XK}{b:TE}{t:TA}(h:b Z H λx H1=>∃a d fs,x=.ref a/\H1 a=M (.ins C d fs)/\fs.lookup m=R/\t Z H1 λc e=>sp (x::(c++[])) e Q E):uv C m sp [] E b t Z H Q:=h
theorem Lx{C:I}{sp:Sp}{E:XK}{t:TA}(h:t Z H λb H1=>∀x a,H1 x=R->H1 a=R->a≠x->sp (.ref x::(b++[])) (bf (bf H1 a (.own x)) x (.ins C a [])) (λv c=>v=.Zw/\Q (.ref x) c) E):yJ C sp [] E t Z H Q:=h
end
end L2
local macro_rules| `(tactic|ext:7)=> `(tactic|repeat (first
 |specialize L2.Po ?_
 |specialize L2.R0 ?_
 |specialize L2.Me ?_
 |specialize L2.QN ?_
 |specialize L2.P0 ?_
 |specialize L2.MO ?_
 |specialize L2.Lx ?_
 |specialize L2.Mx ?_
 |((with_reducible show L2.qE _ _ _ _);refine⟨_,rfl,?_⟩)
 |specialize L2.VI ?_
 |specialize L2.anN ?_
 |specialize L2.anz ?_
 |specialize L2.aoD ?_
 |specialize L2.arH ?_
 |((specialize L2.aqS ?_ ?_);first|exact⟨by decide,by decide⟩|exact⟨by decide,by decide,by decide⟩|exact(show(0:Int)<_ by decide)|exact⟨by decide,by left⟩)
 |((specialize L2.aoy ?_ ?_);exact rfl)
 |((specialize L2.anp ?_ ?_);exact rfl)
 |specialize L2.aln ?_
 |specialize L2.NX ?_
 |specialize L2.alU ?_
 |specialize L2.ajC ?_
 |specialize L2.aiP ?_
 |specialize L2.akf ?_
 |specialize L2.aj7 ?_
 |specialize L2.apj ?_
 |specialize L2.aox ?_
 |specialize L2.amm ?_
 |specialize L2.aor ?_
 |specialize L2.alG ?_
 |specialize L2.ake ?_
 |specialize L2.alS ?_
 |specialize L2.ajD ?_
 |specialize L2.al1 ?_
 |specialize L2.ajW ?_
 |specialize L2.an7 ?_
 |specialize L2.ajK ?_
 |specialize L2.amd ?_
 |specialize L2.Gr ?_
 |specialize L2.aou ?_
 |specialize L2.aob ?_
 |specialize L2.ah8 ?_
 |specialize L2.ajZ ?_
 |specialize L2.ak1 ?_
 |specialize L2.aiW ?_
 |specialize L2.aiw ?_
 |specialize L2.ajY ?_
 |specialize L2.ajM ?_
 |specialize L2.al9 ?_
 |specialize L2.ajR ?_
 |specialize L2.ajJ ?_
 |specialize L2.aiD ?_
 |specialize L2.ajA ?_
 |specialize L2.aiU ?_
 |specialize L2.akx ?_
 |specialize L2.ajP ?_))
namespace K43
open PySem L2
section
open L3 L4
variable{P:Ya}{w:Yq}{K:lD}{mg:Str->b3 Xx}{base:Heap}{f:XH}{Y:YN}
theorem lM:ZF ["self","most"] ["self","most"] (av (aO (top 3) 0)):=⟨W,W,W,by left,W,by left,by left⟩
def Eo{C B fI:I}(F:Fun K "__init__" "TooMany.__init__" (aO (top 3) 0) f Y)(o:L9.XC K C B fI)(l:mg "BedError"=M (.ref B))(g:aco K B (.type "type")=XA)(m:acp K (.ref B) (.type "type") "__init__"=M (.val (.builtin "ValueError.__init__")))
  (b:aaa K (.ref B) "__getattribute__"=M (M (.builtin "type.__getattribute__"))) (j:YA K (.ref C) "most"=M R):FnOk P w K mg base lK 1 f Y ["self","most"] (L9.wC C "most"):=by
 show F.ok lM (λJ H Q E h=>?_) (λu A a s H J Q E t h=>?_)
 .let(_,_,rfl,_):=h;rfl
 let(e,v,rfl,r,n,q):=h;show⟨_,(nO (Bx (L9.HE W l g m b o (d4 (pv 0) (d4 (L9.Lr (L9.Sc () (L9.Pv (pv 1) L9.R8)) ()) i8)))) (nQ (L9.K6 o j (pv 0) (pv 1) W))),?_⟩;ext:7;show⟨V.ref e,W,v,W,r,λy=>⟨e,y,W,n,?_⟩⟩;show⟨v,W,V.ref e,W,e,W,n,λp j i=>q p j i⟩
end
end K43
namespace K43
open PySem L2
section
variable{P:Ya}{w:Yq}{K:lD}{mg:Str->b3 Xx}{base:Heap}{f:XH}{fd:YN}
theorem fY:ZF ["_law_bed_here","_law_found"] ["_law_bed_here"] (av (top 34)):=⟨W,W,W,by left,W,by left,by left⟩
def t8{C:XH}{m:bg Xx}(F:Fun K "_law_rooms" "_law_rooms" (top 34) f fd)(J:L3.Af P w K mg base (L4.kF P w) 10 "rooms" ["bed","most"] [] (L10.kj K 2 dM))
  (L:mg "TooMany"=cL (.ref C)) (M:L4.yO K C m) (d:m.contains (.type "BaseException")=XA) (X:Yh K X8 "TooMany"=cL (cL (.ref C))):
  FnOk P w K mg base lK 12 f fd ["_law_bed_here"] (L10.kj K 1 bN):=by
 show F.ok fY (λvs H Q E h=>h.1) (λZo A u s H vs Q E O h=>?_);let hu:=O.units;let(hl,B,α,ω,xs,so,y,j):=h;let ev:∀{E2:XK},L10.cg K E2 (jW (L10.kj K 2 dM) [] E2 (ei (qE 0) (ei (tC (.int 90)) iL))) (L10.QX dM 2 (L10.ai (L10.aq 0) (L10.ai (L10.ae (L3.pC (.int 90))) L10.aw))):=L10.Fw (L10.sg L10.Bh (L10.sg (L10.rZ (L3.DK λ_ _=>.int _)) L10.ww));obtain⟨b,rfl⟩:∃b,xs=[.fz b]:=by
  unfold bN at j;split at j
  .show⟨_,W⟩
  .show j.elim
 obtain⟨q,rfl,I⟩:∃q,vs=[q]/\L3.DV (L10.ow B α ω) K H q b:=by
  cases y with
  |cons I r0=>ext r0;show⟨_,W,I⟩
 let U:L10.Z4 (L10.ow B α ω) K H α [cL q,cL .Zw] [-(b),-(.none)]:=⟨W,λi x h=>by
  match i,h with
  |0,h=>ext h;show⟨q,W,I⟩
  |1,h=>ext h;show⟨.Zw,W,.Zw⟩
  |i+2,h=>ext h⟩
 suffices key:∃E2:XK,(∀c dx g,E2 c dx g->c=Xx.ref C)/\L10.WS K E2 B H α ω (L10.PQ B K Q) (L10.QX dM 2 (L10.ai (L10.aq 0) (L10.ai (L10.ae (L3.pC (.int 90))) L10.aw)) [-(b),-(.none)] ω)/\∀c dx g,E2 c dx g->Q .Zw g by
  let(E2,k1,k2,k3):=key;show⟨_,(nO (tL (i:=1) fY.nd W (Or.inl W) Aq)
   (nO (L4.Nf (E2:=E2) W W W W L M d
    (λl=>nQ (tL (i:=1) fY.nd W (Or.inl W) (L3.vK J O (L4.zS W) (d4 (pv 0) (d4 Jr i8)))))
    (λl e=>nQ (tL (i:=1) fY.nd W (Or.inl W) Aq))
    (λc dx g h=>⟨C,m,k1 c dx g h,M,by rw[ab8,eg,aaf]⟩))
   (nQ (HZ (pv 1))))),?_⟩
  ext:7;ext L4.Ov;show⟨?_,λc dx g Z p Y=>?_⟩
  .show ev B _ H α ω _ _ so U (k2.imp λx S R g e1 r T v y=>⟨v,W,T v y⟩)
  .obtain⟨N,r,rfl⟩:∃N r,p=[N,r]:=by
    match p,Y with
    |[a,c],_=>show⟨a,c,W⟩
   show⟨.Zw,W,k3 c dx g Z⟩
 unfold bN at j;dsimp only at j;show∃E2:XK,(∀c dx g,E2 c dx g->c=Xx.ref C)/\L10.WS K E2 B H α ω (L10.PQ B K Q) (dM [.fz b,.fz (.int 90)] ω)/\∀c dx g,E2 c dx g->Q .Zw g;cases h1:dM [.fz b,.fz (.int 90)] ω with
 |bad=>rw[h1]at j;show j.elim
 |er x o=>
  rw[h1]at j;dsimp only at j;by_cases z:x.cls=("TooMany":Str)
  .rw[ax z]at j;show⟨λc dx g=>∃n,L10.Zm α ω H n o g/\L10.Yp B K g n o/\c=.ref C,λc dx g ⟨_,_,_,h⟩=>h,?_,λc dx g ⟨n,e1,r,_⟩=>j n g e1 r .Zw .Zw⟩;rintro c dx n H' G t ⟨⟨a',e1,e2⟩,_⟩;rw[z]at e2;let e3:=X.symm.trans e2;ext e3;show⟨n,G,t,e1⟩
  .rw[aE z]at j;show j.elim
 |ok x o=>rw[h1]at j;show⟨λ_ _ _=>False,λ_ _ _ h=>h.elim,j,λ_ _ _ h=>h.elim⟩
end
end K43
theorem V3{α:Type}:∀{l:G α},l.length=1->∃a,l=[a]
 |[a],_=>⟨a,W⟩
theorem VY{α:Type}:∀{l:G α},l.length=2->∃a b,l=[a,b]
 |[a,b],_=>⟨a,b,W⟩
theorem Wj{α:Type}:∀{l:G α},l.length=3->∃a b c,l=[a,b,c]
 |[a,b,c],_=>⟨a,b,c,W⟩
theorem Xa{α:Type}:∀{l:G α},l.length=4->∃a b c d,l=[a,b,c,d]
 |[a,b,c,d],_=>⟨a,b,c,d,W⟩
local macro_rules| `(tactic|ext:2)=> `(tactic|(intro _ _ _ _ _ _ us hl;first|(obtain⟨_,h⟩:=V3 hl;subst h;kernel_rfl)|(obtain⟨_,_,h⟩:=VY hl;subst h;kernel_rfl)|(obtain⟨_,_,_,h⟩:=Wj hl;subst h;kernel_rfl)|(obtain⟨_,_,_,_,h⟩:=Xa hl;subst h;kernel_rfl)|(match us,hl with|[_,_,_,_,_],_=>rfl)|(match us,hl with|[_,_,_,_,_,_],_=>rfl)|(match us,hl with|[],_=>rfl)))| `(tactic|ext:8)=> `(tactic|(intro _ _ _ _ _ _ us hl;first|((have h1:us.length=1:=by simpa using hl);obtain⟨_,h⟩:=V3 h1;subst h;exact⟨_,rfl,rfl⟩)|((have h1:us.length=2:=by simpa using hl);obtain⟨_,_,h⟩:=VY h1;subst h;exact⟨_,rfl,rfl⟩)|((have h1:us.length=3:=by simpa using hl);obtain⟨_,_,_,h⟩:=Wj h1;subst h;exact⟨_,rfl,rfl⟩)|((have h1:us.length=4:=by simpa using hl);(match us,h1 with|[_,_,_,_],_=>exact⟨_,rfl,rfl⟩))))| `(tactic|ext:5)=> `(tactic|first|exact List.forall_mem_nil _|(refine List.forall_mem_cons.mpr ⟨?_,?_⟩;(·first|(show YA _ _ _=_;k_is)|(show Yh _ _ _=_;k_is));ext:5))| `(tactic|ext:9)=> `(tactic|first|(refine' L3.NI.mk ?a' ⟨_,L2.JM ?b' ?c' ?d'⟩;(case a'=>k_is);(case b'=>k_is);(case c'=>k_is);(case d'=>k_is))|(refine' L3.MI.mk ?a' ?e' ⟨_,L2.JM ?b' ?c' ?d'⟩;(case a'=>k_is);(case e'=>k_is);(case b'=>k_is);(case c'=>k_is);(case d'=>k_is))|(refine' L3.CI.mk ?a' ?b' ?c' ?d' ?e' ?f' ?g' ?i';(case a'=>k_is);(case b'=>k_is);(case c'=>k_is);(case d'=>k_is);(case e'=>k_is);(case f'=>k_is);(case g'=>k_is);(case i'=>ext:5))|(refine' L3.DI.mk ?a' ⟨_,L3.LH ?b' ?c' ?d' ?e'⟩;(case a'=>k_is);(case b'=>k_is);(case c'=>k_is);(case d'=>k_is);(case e'=>k_is))|k_is|k_exc|rfl|ext:5|left|(rw[<-Array.all_toList];rfl))
namespace K43
open PySem L2 L3 CC
def F_lawH:FN:=L10.TK F_law
def all_mk{l:afb}{w:Yq}{K:lD}{h:Heap}{c:Str->b3 Xx}{fa:XH}
  {afz:Tok}
  {F:XH} {agB:Nat} {agx:Array (b3 Xx)}
  {aeV:Tok}
  {V:XH} {afC:Nat} {afF:Array (b3 Xx)}
  {t:XH} {adj:Nat} {adi:Array (b3 Xx)}
  {ac7:XH} {aeu:Nat} {aey:Array (b3 Xx)}
  {agj:XH} {aeh:Tok}
  {ae5:XH} {adm:Tok}
  {afB:XH} {adW:Tok}
  {f0 f1 f2 f3 f4 f5 f6 f7 f8 f9 f10 f11 f12 f13 f14 f15 f16 f17 f18 f19 f20 f21 f22 f f24 f25 f26 f27 f28 f29 f30 f31 f32 f33 f34 f35 f36 f37 r f39 f40 q f42 f43 p:XH}
  {j g:XH}
  {nmR qR:Str} {NR:XH} {bsR:bg Xx} {snR:bg Str} {alI:bg Xx} {abR:Bool} {amH:b3 Bool} {ddR:b3 XH} {k0R k1R k2R k3R k5R:b3 Xx}
  {ocN:Xx} {odN:b3 XH} {D:Array aao} {nN:Nat} {slN:Array (b3 Xx)} (X:K.In h) (G:h.Ns X8 c) (hfa:c "law"=cL (.ref fa))
  (h0:NI K f0 "layer_of" (top 8))
  (h1:NI K f1 "looked_up" (top 12))
  (h2:NI K f2 "chords_over" (top 13))
  (h3:NI K f3 "chord_acts" (top 14))
  (h4:NI K f4 "_law_cell" (top 26))
  (h5:NI K f5 "_law_take" (top 27))
  (h6:NI K f6 "_law_letter" (top 28))
  (h7:NI K f7 "_law_meaning" (top 29))
  (h8:NI K f8 "_law_chords" (top 30))
  (h9:NI K f9 "_law_bed" (top 31))
  (h10:NI K f10 "_law_keys" (top 32))
  (h11:NI K f11 "events_of" (top 16))
  (h12:NI K f12 "_law_events" (top 33))
  (h13:NI K f13 "_law_marks" (top 35))
  (h14:NI K f14 "step" (top 9))
  (k:NI K f15 "play" (top 10))
  (h16:NI K f16 "walked" (top 18))
  (h17:DI K f17 agj "rooms" (top 17) #v[.int 400 aeh])
  (h18:NI K f18 "numbered" (top 24))
  (h19:DI K f19 ae5 "machine" (top 21) #v[.int 400 adm])
  (h20:DI K f20 afB "states" (top 22) #v[.int 400 adW])
  (h21:NI K f21 "_law_rooms" (top 34))
  (h22:NI K f22 "law" (top 36))
  (b:CI K f "Hand" ["bed","acts","waiting","once","sent"])
  (h24:MI K f f24 "__init__" "Hand.__init__" (aO (top 11) 0))
  (h25:MI K f f25 "stands" "Hand.stands" (aO (top 11) 1))
  (h26:MI K f f26 "is_waiting" "Hand.is_waiting" (aO (top 11) 2))
  (h27:MI K f f27 "has_act" "Hand.has_act" (aO (top 11) 13))
  (h28:MI K f f28 "come" "Hand.come" (aO (top 11) 11))
  (h29:MI K f f29 "go" "Hand.go" (aO (top 11) 12))
  (h30:MI K f f30 "decide" "Hand.decide" (aO (top 11) 10))
  (h31:MI K f f31 "makes_chord" "Hand.makes_chord" (aO (top 11) 4))
  (h32:MI K f f32 "put_to_chord" "Hand.put_to_chord" (aO (top 11) 5))
  (h33:MI K f f33 "begin" "Hand.begin" (aO (top 11) 6))
  (h34:MI K f f34 "press" "Hand.press" (aO (top 11) 3))
  (h35:MI K f f35 "settle" "Hand.settle" (aO (top 11) 8))
  (h36:MI K f f36 "lift" "Hand.lift" (aO (top 11) 7))
  (h37:MI K f f37 "wait_on" "Hand.wait_on" (aO (top 11) 9))
  (o:CI K r "Places" ["most","found","numbers"])
  (h39:MI K r f39 "enter" "Places.enter" (aO (top 19) 1))
  (h40:MI K r f40 "__init__" "Places.__init__" (aO (top 19) 0))
  (n:CI K q "Sorting" ["steps","sends","rounds"])
  (h42:MI K q f42 "mark_of" "Sorting.mark_of" (aO (top 23) 1))
  (h43:MI K q f43 "__init__" "Sorting.__init__" (aO (top 23) 0))
  (u:Yh K X8 "TooMany"=cL (cL (.ref j)))
  (adO:Yh K X8 "BedError"=cL (cL (.ref g)))
  (xR:K.lookup j=cL (excClassObj nmR qR j NR bsR (.ref g::[.type "ValueError",.type "Exception",.type "BaseException",.type "object"]) XA snR alI abR amH ddR k0R k1R k2R k3R k5R "ValueError.__new__"))
  (eI:aap K g [.type "ValueError",.type "Exception",.type "BaseException",.type "object"] "ValueError.__new__"=XA)
  (lN:K.lookup NR=cL ⟨ocN,odN,.dict D nN,slN⟩)
  (OX:(D.all λe=>match e.key with|.str _ _=>XA|_=>XF)=XA)
  (inN:Yh K NR "__init__"=cL (cL (.ref p)))
  (saR:YA K (.ref j) "__setattr__"=cL (cL (.builtin "object.__setattr__")))
  (eP:YA K (.ref j) "most"=cL Ld)
  (rdB:aco K g (.type "type")=XA)
  (fcB:acp K (.ref g) (.type "type") "__init__"=cL (.val (.builtin "ValueError.__init__")))
  (F8:aaa K (.ref g) "__getattribute__"=cL (cL (.builtin "type.__getattribute__")))
  (d:MI K j p "__init__" "TooMany.__init__" (aO (top 3) 0))
  (agA:Yh K X8 "NONE"=cL (cL (.ref F)))
  (afL:Yh K X8 "CHORD"=cL (cL (.ref V)))
  (aex:Yh K X8 "AT_REST"=cL (cL (.ref ac7)))
  (aeC:K.lookup ac7=cL ⟨.type "tuple",Ld,.seq #v[.ref t,.none,.none] aeu,aey⟩)
  (adw:K.lookup t=cL ⟨.type "tuple",Ld,.seq #v[] adj,adi⟩)
  (afV:K.lookup V=cL ⟨.type "tuple",Ld,.seq #v[.str "chord" aeV] afC,afF⟩)
  (agv:K.lookup F=cL ⟨.type "tuple",Ld,.seq #v[.str "none" afz] agB,agx⟩)
  (yb:∀x∈jd.bl,Yh K X8 x=cL Ld):
  ∃fd:YN,(∀(s:XI) (v:Xx),abJ s fd ⟨[v],[]⟩ [("_law_script",v)])/\∀base:Heap,K.In base->base.Ns X8 c->FnOk l.prog w K c base lK 13 fa fd ["_law_script"] (L3.Av K 1 F_lawH):=by
 let aha:=Km (xs:=[.str "none"]) (ds:=[(.str "none")]) agv (by show 1<=XY;decide) (.cons ⟨_,rfl⟩ .nil) λO H=>(.cons (.str _) .nil);let agq:=Km (xs:=[.str "chord"]) (ds:=[(.str "chord")]) afV (by show 1<=XY;decide) (.cons ⟨_,rfl⟩ .nil) λO H=>(.cons (.str _) .nil);let adZ:=Km (xs:=[]) (ds:=[]) adw (by show 0<=XY;decide) .nil λO H=>.nil;let aeW:=Km (xs:=[.ref t,.Zw,.Zw]) (ds:=[(.tuple []),.none,.none]) aeC (by show 3<=XY;decide) (.cons rfl (.cons rfl (.cons rfl .nil))) λO H=>(.cons (adZ O H) (.cons .Zw (.cons .Zw .nil)));show h22.law X G hfa (by ext:2) λbase fd ag8=>?_;let W:Tp l.prog w K c base h:=⟨X,G⟩;let OX:acE K NR=XA:=by ext acE;rw[lN];show OX
 let XR:L4.yO K j (.ref g::[.type "ValueError",.type "Exception",.type "BaseException",.type "object"]):=⟨_,_,_,_,_,_,_,_,_,_,_,_,_,_,_,_,xR⟩;let acG:L9.XC K j g p:=⟨⟨_,_,_,_,_,_,_,_,_,_,_,_,_,_,xR,OX,inN⟩,eI,saR⟩;let abC:=Zh X G u;let aeE:=Zh X G adO;let(fdI,zI):=d.F;let(_,_,_,_,_,_,_,_,_,rfl,aek,_):=zI.ex;let aej:=d.i;let aew:=Eo (P:=l.prog) (w:=w) (mg:=c) (base:=base) zI acG aeE rdB fcB F8 eP;let aeA:=zI.binds (ps:=["self","most"]) (by ext:2);let a:adM K c jd:=⟨λx hx=>PySem.W.mg_none_of X G (yb x hx),CC.exN,(CC.csC (CC.csW (Zh X G agA) aha) (CC.csC (CC.csW (Zh X G afL) agq) (CC.csC (CC.csW (Zh X G aex) aeW) CC.csN))),(CC.clC b.cf (CC.clC o.cf (CC.clC n.cf CC.clN)))⟩;let s0:=CC.fs0 (T:=bv) (P:=l.prog) (w:=w) (K:=K) (mg:=c) (base:=base);let s1:=CC.fsS s0 rfl (⟨_,_,_,_,_,_,acG,aek,aej,aew,aeA,u,abC⟩);let s2:=CC.fsS s1 rfl (h0.c W λ_ z=>CC.ab7 a s1 z e1);let s3:=CC.fsS s2 rfl (h1.c W λ_ z=>CC.ab7 a s2 z e2);let s4:=CC.fsS s3 rfl (h2.c W λ_ z=>CC.ab7 a s3 z e3);let s5:=CC.fsS s4 rfl (h3.c W λ_ z=>CC.ab7 a s4 z e4);let s6:=CC.fsS s5 rfl (h4.c W λ_ z=>CC.ab7 a s5 z e5);let s7:=CC.fsS s6 rfl (h5.c W λ_ z=>CC.ab7 a s6 z e6);let s8:=CC.fsS s7 rfl (h6.c W λ_ z=>CC.ab7 a s7 z e7);let s9:=CC.fsS s8 rfl (h7.c W λ_ z=>CC.ab7 a s8 z e8);let s10:=CC.fsS s9 rfl (h8.c W λ_ z=>CC.ab7 a s9 z e9);let s11:=CC.fsS s10 rfl (h9.c W λ_ z=>CC.ab7 a s10 z WP);let s12:=CC.fsS s11 rfl (h10.c W λ_ z=>CC.ab7 a s11 z W3);let s13:=CC.fsS s12 rfl (h11.c W λ_ z=>CC.ab7 a s12 z Xf);let s14:=CC.fsS s13 rfl (h12.c W λ_ z=>CC.ab7 a s13 z Xq);let s15:=CC.fsS s14 rfl (h13.c W λ_ z=>CC.ab7 a s14 z WU);let s16:=CC.fsS s15 rfl (h24.k b W λ_ z=>CC.aaZ a s15 z Xd);let s17:=CC.fsS s16 rfl (h25.mt b W λ_ z=>CC.aaZ a s16 z Xh);let s18:=CC.fsS s17 rfl (h26.mt b W λ_ z=>CC.aaZ a s17 z WM);let s19:=CC.fsS s18 rfl (h27.mt b W λ_ z=>CC.aaZ a s18 z Xr);let s20:=CC.fsS s19 rfl (h28.mt b W λ_ z=>CC.aaZ a s19 z Xg);let s21:=CC.fsS s20 rfl (h29.mt b W λ_ z=>CC.aaZ a s20 z Xn);let s22:=CC.fsS s21 rfl (h30.mt b W λ_ z=>CC.aaZ a s21 z WN);let i:=CC.fsS s22 rfl (h31.mt b W λ_ z=>CC.aaZ a s22 z Xp);let Z:=CC.fsS i rfl (h32.mt b W λ_ z=>CC.aaZ a i z Xt);let Y:=CC.fsS Z rfl (h33.mt b W λ_ z=>CC.aaZ a Z z WZ);let U:=CC.fsS Y rfl (h34.mt b W λ_ z=>CC.aaZ a Y z WX);let S:=CC.fsS U rfl (h35.mt b W λ_ z=>CC.aaZ a U z Xu);let R:=CC.fsS S rfl (h36.mt b W λ_ z=>CC.aaZ a S z W5);let Q:=CC.fsS R rfl (h37.mt b W λ_ z=>CC.aaZ a R z WT);let m:=CC.fsS Q rfl (h14.c W λ_ z=>CC.aaZ a Q z WG);let s31:=CC.fsS m rfl (k.c W λ_ z=>CC.aaZ a m z Wt);let N:=CC.fsS s31 rfl (k.c W λ_ z=>(CC.aaZ a m z Wt).imp (λ_ _ _ _ h=>L10.Rx h));let M:=CC.fsS N rfl (h39.mt o W λ_ z=>CC.ago a N z Xb);let L:=CC.fsS M rfl (h40.k o W λ_ z=>CC.ago a M z WI);let J:=CC.fsS L rfl (h16.d W λ_ z=>CC.ago a L z W6);let I:=CC.fsS J rfl (h17.c (ds:=[]) W .nil λ_ z=>CC.afO a J z Q0);let E:=CC.fsS I rfl (h18.c W λ_ z=>CC.aaZ a I z Tt);let C:=CC.fsS E rfl (h42.mt n W λ_ z=>CC.aaZ a E z WH);let B:=CC.fsS C rfl (h43.k n W λ_ z=>CC.ago a C z W4);let A:=CC.fsS B rfl (h19.c (ds:=[]) W .nil λ_ z=>CC.afO a B z Xm);let y:=CC.fsS A rfl (h20.c (ds:=[]) W .nil λ_ z=>CC.afO a A z WQ);let s42:=CC.fsS y rfl (h21.c W λ_ z=>t8 z (y 35 _ () rfl) abC XR rfl u);show(CC.aaZ a s42 ag8 Xe).imp λ_ _ _ _ h=>L10.RT h
end K43
local macro_rules|`(universe $i*)=>do
 let t:=fun (c:Lean.Name)=>`(theorem $(Lean.mkIdent ((`PySem.W.Fast).str ("tw"++toString c.hash))):ident:True:=trivial)
 let b:=`PySem.Challenge.cw_chordbed_k43_whole_the_machine_sends_the_holds
 let o←(List.range 507).mapM fun n=>t (b.str ("o_"++toString n))
 let l←i.mapM fun j=>t (b++j.getId)
 return Lean.mkNullNode (((o.toArray++l).push (←t `PySem.Challenge.pw_chordbed_k43_whole_the_machine_sends_the)))
universe heap_507 heap_39 tree_506 view_39 tree_449 tree_397 tree_346 sts_450 tree_225 tree_306 sts_116 sts_310 sts_398 sts_347 sts_71 tree_115 tree_70 sts_49 heap_46 tree_47 env_41
open PySem PySem.W PyProof.Rows
set_option maxRecDepth 100000 in
set_option maxHeartbeats 0 in
theorem PySem.Challenge.cw_chordbed_k43_whole_the_machine_sends_the_holds : PySem.Challenge.rw_chordbed_k43_whole_the_machine_sends_the.Holds := by
 w_on;o_law;k_head;(case hw=>w_witness2)
 k_fill
 refine L3.TQ (l:=PySem.Challenge.rw_chordbed_k43_whole_the_machine_sends_the) (n:=63) (k:=13) (x:= "_law_script") (F:=K43.F_lawH) rfl (by decide) rfl ⟨rfl,by decide,by decide⟩ (λw h Y=>PySem.W.kIn_of Y) ?F K43.main
 case F=>
  intro w e f h b G a
  apply K43.all_mk b G a
  all_goals ext:9
