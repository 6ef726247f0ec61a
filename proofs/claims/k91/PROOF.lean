import PyProof.Rows.All
import Wide.All
import OpenK.AllK
import Wide.FinOn
import Lean
import PyProof.EqAt
import PyProof.EqKinds
import PyProof.TupleCall
import KE.KIntText
import KE.KRevSl
import PyProof.Rows.SeqMore
import PyProof.WalkInts
import PyProof.Rows.MinMaxN
import PyProof.ExcInit
import OpenK.KMake
import PyProof.InstStoreFacts
import PyProof.FString2
import PyProof.Rows.FStr
import PyProof.Rows.SetFrom
import PyProof.SeqRoads2
import PyProof.RangeFor
import PyProof.WalksMore
import PyProof.StrBlock2
import PyProof.Rows.SortShell
import PyProof.TupleOfSeq
import KE.KDictList
import KE.KDictOf
import PyProof.IsiH_tuple
import PyProof.Rows.RuleN_abs
import PyProof.Rows.Range3
import KE.KRevIter
import PyProof.StrLawsRepr
import PyProof.ReprStr
import PyProof.IsiH_list
import PyProof.Rows.TupDisplay
import PyProof.SetKind
import PyProof.SetScanFacts
import PyProof.CollectIter
import PyProof.Rows.SortStr
import PySem.Challenge.RW_chordbed_k91_whole_from_wires_to_letters
set_option compiler.extract_closed false
set_option genSizeOf false
set_option genInjectivity false
set_option Elab.async false
set_option linter.all false
set_option maxRecDepth 100000
abbrev av:=@if_pos
abbrev ax:=@if_neg
abbrev aP:=@decide_eq_true
abbrev a6:=@decide_eq_false
abbrev a7:=@of_decide_eq_true
abbrev bg:=@absurd
abbrev br:=@Or.inl
abbrev bP:=@Or.inr
abbrev cn:=@List
abbrev cv:=@Option
abbrev c5:=@PySem.Heap.get?_push_of_some
abbrev c6:=@PySem.Heap.lt_size
abbrev da:=@PySem.Heap.get?_push_size
abbrev dg:=@PySem.Heap.get?_update_other
abbrev dt:=@PySem.Heap.get?_update_self
abbrev dP:=@PySem.Heap.size_push
abbrev d0:=@Ne.symm
abbrev ec:=@congrArg
abbrev eg:=@beq_self_eq_true
open Lean in
def cvP:Nat→TSyntax `term→MacroM (TSyntax `rcasesPat)
 |0,_=>Macro.throwUnsupported
 |n+1,t=>let f:=fun (a:Array Term)=>do
   let l←(←a.mapM (cvP n)).mapM fun p=>`(Lean.Parser.Tactic.rcasesPatLo|$p:rcasesPat)
   `(rcasesPat|⟨$l,*⟩)
  match t with
  |`(⟨$a,*⟩)=>f a
  |`(($a,$b,*))=>f (#[a]++b.getElems)
  |`($i:ident)=>`(rcasesPat|$i:ident)
  |`(_)=>`(rcasesPat|_)
  |_=>Macro.throwUnsupported
local macro_rules|`(tactic|let $d:letDecl)=>`(tactic|have $d:letDecl)
local macro_rules|`(tactic|let $p:term:=$e)=>if p.raw.isIdent then Lean.Macro.throwUnsupported else do let q←cvP 9 p;`(tactic|obtain $q:rcasesPat:=$e)
local macro_rules|`(tactic|left)=>`(tactic|decide+kernel)|`(tactic|change $e)=>`(tactic|with_reducible exact $e)|`(tactic|specialize $e)=>`(tactic|with_reducible refine $e)
local macro_rules|`(def $i:declId $s:optDeclSig $v:declVal)=>if v.raw[1].isOfKind ``Lean.Parser.Term.byTactic then `(theorem $i:declId $(⟨Lean.mkNode ``Lean.Parser.Command.declSig #[s.raw[0],s.raw[1][0]]⟩):declSig $v:declVal) else `(noncomputable def $i:declId $s:optDeclSig $v:declVal)|`(abbrev $i:declId $s:optDeclSig $v:declVal)=>`(noncomputable abbrev $i:declId $s:optDeclSig $v:declVal)
local macro_rules|`(tactic|ext)=>`(tactic|decide)
local macro_rules|`(tactic|ext)=>`(tactic|omega)
local macro_rules|`(tactic|ext)=>`(tactic|lia)
local macro_rules|`(tactic|show $e)=>`(tactic|refine $e)
local macro_rules|`(tactic|ext $i:ident)=>`(tactic|cases $i:ident)
local macro_rules|`(tactic|ext $i:ident)=>`(tactic|unfold $i:ident)
local macro_rules|`(#[$a,*])=>`(⟨$a,*⟩)|`(#v[$a,*])=>`(List.toArray [$a,*])
local macro_rules|`(())=>`(by ext)
open Option renaming some->cL,none->CL,toList_none->aap,getD_some->aa4,isSome_iff_exists->abS,isSome_some->adu,toList_some->adx,map->adB,isSome_map->adR,getD_none->ad4
open PySem.W renaming Frag->lD,nsIn->UN,mg_none_of->Vk,mg_of->Vp,findIn->Vw,emptyDict->V1,instObj->WI,keepIn->WQ,fnOf->Xi,kia_one->Xt,cellsFrom_some->XG,plainGet->XO,hasDictIn->Yy,lookIn->ZA,codeIn->ZC,plainGet_of->Z0,callWith_K->aak,methodObj->aau,isFn->aav,plainOver->aaw,takerIn->abd,makesIn->abe,methodCall_KW->acs,callWith_K0->acR,pyHash_slot->acS,specialIn->adt,handedIn->adO,OpenLaw->ad7,kitOne->aei
open PySem renaming wpAny_bind->Ld,Value->Um,PyData->Ut,Shared->Uv,Addr->Uw,wpAny_pure->Uz,sizeLine->UG,mainGlobals->UI,Program->UY,Builtin->U3,starEach->U4,NameKind->Va,Around->Vc,World->Vi,Expr->Vr,bootBuiltins->Vu,wpAny_truthy_bool->VU,compareOp->VW,FuncData->V3,wpAny_field->V4,wpAny_holding->Wc,wpAny_newObj_type->Wd,wpAny_seqItems->We,binaryOp->Wj,mem_of_lookup->Wt,swapsWith->Wz,wpAny_pyIter_tuple->WC,cellsFrom->WJ,wpAny_callSpecial?_slot->W3,wpAny_call_entry->W4,wpAny_Call_Name_kw->Xa,call_meets->Xb,wpAny_setField_rec->Xd,Stmt->Xg,wpAny_passesOwn->Xh,codeAny_builtin->Xj,wpAny_pyIter_enum->Xo,sysModules->Xv,plainId_quiet->XH,wpAny_getItem_str_slice->XT,Scope->Yr,wpAny_letGo->Ys,codeAny_call_builtin->Yu,wpAny_loadPart'->YF,wpAny_pyIter_list->YM,codeAny_mono->YQ,PassesOwn->YY,typeIs_str->Y3,wpAny_letOwnedTupleGo_enum->Y4,sizeLine_eq->Zs,intText?->Z8,wpAny_execs_nil->aao,post_val_or_str->aaq,ReadsAll->aaN,wpAny_of_eq->aaO,wpAny_updateSeq_pair->aaP,wpAny_tryCatch->aaQ,DictEntry->aa1,BindsTo->aa2,Keyword->aa3,wpAny_standAt->abk,wpAny_onRaise->abm,wpAny_Constant_int->abp,typeIs_int->abr,Data->abt,wpAny_rule->abu,tupleKind_room_in1->abw,ZipApart->abM,eqIsQuiet_byValue->abN,IsPart->ab2,wpAny_isInstance->ab4,IsRangeIter->acq,Walks->acr,Within->acz,pushCells_keeps->acA,wpAny_updateSeq->acB,GenState->acZ,Result->ac0,wpAny_call->ac1,IsEnum->ac2,Reads->ac3,IsZip->ac4,wpAny_binaryOp_repeat_ref->adw,Code->adP,wpAny_comprehension_free->adQ,wpAny_pyNext_enum_itemD->ad6,wpAny_pyNext_range_end->aed,wpAny_pyIter_rangeiter->aee,wpAny_typeOf->aef,seqIndex_neg->aeg,wpAny_pyNext_enum_endD->aeh,wpAny_isTrue_Compare1->aeX,builtinLookup_eq_fast->aeZ,seqIndex_of->ae7,intItems_at->afa,numAt_eq->afb,wpAny_Name->afV,wpAny_load->afX,wpAny_pyIter_range->afY,wpAny_assign_Name->agH,slot_list_getitem->agI,wpAny_pyHash_int->ag6,wpAny_pyHash_str->ag7,wpAny_execs_cons->ag8,noFill_tuple_add->ahb,call->ahd,wpAny_pyIter_zip->ahe,beq_builtin_none->ahf,wpAny_stack_any->aib,wpAny_specialOf->aid,typeLookup_type->aie,wpAny_setField->ai2,intBits_le_64->akJ,seq_tuple_add->akK,evalPart_none->akL,call_list_seq->akM,sub_enumerate->akN,wpAny_attempt->akO,nums_intItems->akP,wpAny_newList->akQ,ItemsOf->akR
open List renaming getElem?_eq_some_iff->Uo,length_map->Ur,replicate->Us,mem_cons_self->UA,length_append->UB,mem_cons_of_mem->UC,getElem?_eq_getElem->UD,size_toArray->UE,mem_singleton->UH,mem_cons->UJ,getElem?_map->UK,length_cons->UL,map_cons->UM,lookup_cons->UQ,length_replicate->UR,getElem?_append_right->US,Nodup->UW,append_nil->UZ,mem_range->U0,range->U1,getElem?_append_left->U6,mem_map->U7,mem_of_getElem?->Vb,mem_filter->Ve,map_append->Vf,length_range->Vh,append_assoc->Vl,map_map->Vq,mem_append_right->Vv,replicate_succ->Vx,not_mem_nil->Vy,mem_append->VF,getElem?_set->VH,nodup_cons->VN,length_set->VO,mem_iff_getElem?->VS,pairwise_cons->VX,length_take->VY,filter_cons_of_pos->VZ,filterMap_cons->V8,filterMap_cons_none->Wh,filterMap_cons_some->Wi,getElem?_replicate->Wm,flatten_cons->Wn,filter_cons_of_neg->Wo,find?_cons->Ws,map_congr_left->Ww,mem_filterMap->WE,length_singleton->WG,length_filter_le->WH,drop_eq_getElem_cons->WL,range'->WN,all_eq_true->WW,getElem?_cons_succ->WX,getElem?_set_self->W2,length_nil->W5,lookup_cons_self->W9,pairwise_map->Xe,getElem?_set_ne->Xl,any_cons->XA,count_eq_zero->XF,drop_eq_nil_of_le->XJ,lookup->XY,length->XZ,of_mem_zip->X6,getElem?_range->Yb,mem_map_of_mem->Yc,set_set->Yp,getD_eq_getElem?_getD->Yz,mem_of_find?_eq_some->YN,nodup_append->YS,filter_congr->YT,length_filterMap_le->Y1,eq_of_mem_replicate->Y2,getElem_mem->Zk,filter_cons->Zl,map_nil->Zt,foldl->Zu,foldl_cons->ZD,forIn_cons->ZE,nil_append->ZF,set_append_right->ZX,filterMap_append->ZY,nodup_nil->aac,filter_sublist->aar,flatten_append->aas,map_replicate->aaK,find?_eq_none->aaL,length_range'->aaM,take_add_one->aa5,length_drop->abl,any_eq_true->abn,forIn_nil->abU,filterMap_eq_nil_iff->ab5,pairwise_singleton->acC,getElem?_cons_zero->acD,filter_eq_nil_iff->acV,mem_append_left->ads,mem_of_mem_take->ady,replicate_succ'->adA,filterMap_map->ad3,set_cons_zero->ad8,set_cons_succ->ad9,getElem?_inj->aek,mem_range'_1->ael,count_append->aem,zipIdx_cons->aeY,take_length->ae0,nodup_range->ae1,zipIdx_nil->ae9,find?_some->afc,length_zip->afe,range_add->afF
open Bool renaming true->Uq,false->Uu,false_ne_true->Ux,and_eq_true->UO,and_self->Xz,false_eq_true->XD,true_or->Zv,or_eq_true->ZG,false_and->aab,or_false->aax,false_or->aay,and_true->aaz,true_and->acu,not_true->acw,or_eq_false_iff->adz,not_eq_true'->aej,eq_iff_iff->ae8,and_false->afD,or_true->agJ
open Nat renaming le_refl->Uy,ne_of_lt->UP,le_of_ble_eq_true->UT,lt_of_lt_of_le->UX,le_trans->Vn,ne_of_gt->VQ,zero_le->V0,lt_irrefl->V5,lt_succ_self->WB,lt_succ_of_lt->WO,lt_trans->XQ,sub_self->XR,le_succ->X1,zero_add->Yt,add_sub_cancel->YG,le_of_succ_le->YZ,succ_ne_self->Zo,le_of_lt->Zw,add_assoc->aaJ,add_comm->abf,min_le_right->abq,mul_le_mul->ab3,add_sub_cancel_left->acT,le_add_right->afd,le_of_eq->aha,succ_mul->ahc,log2_lt->aia,one_mul->aif
open Option.some renaming inj->UU
open PySem.F renaming plainAttrs_str->U5,slot_str_join->V9,type_str_join->Wa,plainAttrs_list->Wl,slot_str_split->Wu,type_str_split->Wv,slot_list_append->Xr,type_list_append->Xs,slot_str_startswith->X2,type_str_startswith->X3,slot_dict_values->YH,slot_list_extend->YI,type_list_extend->YJ,plainAttrs_dict->YR,args_tuple_add_2->abL,type_dict_values->abO,entry_tuple_add->abT,slot_tuple_add->ab1,slot_dict_pop->acv
open Array renaming length_toList->Vo,getElem?_toList->ZH,forIn_toList->adS,toList->afW
open PyProof.Rows renaming envOfC->Vt,callWith_type1->Wk,slot_tuple_getitem->Xy,kws_cons->abv,kws_nil->abI,callWith_builtin1->ah9,evalArgs_kwB->aic
open Int renaming toNat_natCast->Vz,le_refl->Y0,ofNat->abx,fdiv_eq_ediv_of_nonneg->ab0,toNat->acU,add_zero->ac5,toNat_of_nonneg->ad5,emod_lt_of_pos->aen,le_antisymm->afE,emod_nonneg->afG
open List.Pairwise renaming nil->Xq,filterMap->ahg
open List.Perm renaming refl->abg,swap->alE
open List.cons renaming inj->aby,injEq->alI
open PySem.PassesOwn renaming never->afZ
open PySem.W.Looks renaming here->ag9
open PySem.Within renaming cons->ah8
open PySem.SeqAt renaming compareEq_reads->aiW,compareNe_reads->aiX,in_list_reads->aiY,in_tuple_reads->aiZ,notIn_list_reads->ai0,notIn_tuple_reads->ai1
open PySem.W.KIN renaming call_text->ai3
open List.Nodup renaming sublist->akS
open PySem.IsL renaming update->alC
open PySem.Str renaming ofString->alF
abbrev W:=@rfl
abbrev G:=@List
open Option renaming some->R,none->L
open Bool renaming true->P
open PySem renaming Addr->J,Value->M
namespace L2
open PySem PySem.Spec PyProof.Rows
abbrev et:=Sum Int Str
def xb:et->M->Bool
 |.inl k,v=>Um.isInt k v
 |.inr x,v=>Um.isStrOf x v
def S6(w:Vi):et->Int
 |.inl k=>hashInt k
 |.inr x=>hashStr w x
theorem eD:∀{k:et} {v:M},xb k v=P->(∃i t,k=Sum.inl i/\v=Um.int i t)\/(∃x t,k=Sum.inr x/\v=Um.str x t)
 |.inl i,v,h=>by let(t,e):=Um.isInt_shape h;show .inl #[i,t,W,e]
 |.inr x,v,h=>by let(t,e):=Um.isStrOf_shape h;show .inr #[x,t,W,e]
def Fc(i:Int)(t:Tok):xb (.inl i) (.int i t)=P:=by simp[xb,Um.isInt]
def EA(x:Str)(t:Tok):xb (.inr x) (.str x t)=P:=by simp[xb,Um.isStrOf]
def N0(a b:Int):decide ((Sum.inl a:et)=Sum.inl b)=(a==b):=by
 by_cases e:a=b
 .subst e;simp
 .let h:¬(Sum.inl a:et)=Sum.inl b:=λq=>e (Sum.inl.inj q);rw[a6 h];show(beq_eq_false_iff_ne.mpr e).symm
def Oh(a b:Str):decide ((Sum.inr a:et)=Sum.inr b)=decide (a=b):=by
 by_cases e:a=b
 .subst e;simp
 .let h:¬(Sum.inr a:et)=Sum.inr b:=λq=>e (Sum.inr.inj q);rw[a6 h,a6 e]
theorem Pw(a:Int)(b:Str):decide ((Sum.inl a:et)=Sum.inr b)=Uu:=a6 (λq=>nomatch q)
theorem NL(a:Str)(b:Int):decide ((Sum.inr a:et)=Sum.inl b)=Uu:=a6 (λq=>nomatch q)
def eG(prog:UY)(w:Vi):PySem.KeyKind prog w et where
 is:=xb
 hash:=S6 w
 inj:=λv a b l f=>by
  rcases eD l with⟨i,t,rfl,rfl⟩|⟨x,t,rfl,rfl⟩
  .rcases eD f with⟨j,u,rfl,e⟩|⟨y,u,rfl,e⟩
   .injection e with e1 _;rw[e1]
   .show nomatch e
  .rcases eD f with⟨j,u,rfl,e⟩|⟨y,u,rfl,e⟩
   .show nomatch e
   .injection e with e1 _;rw[e1]
 byValue:=λk v h=>by rcases eD h with⟨i,t,rfl,rfl⟩|⟨x,t,rfl,rfl⟩<;>rfl
 pyHash:=λd h=>by
  rcases eD d with⟨i,t,rfl,rfl⟩|⟨x,t,rfl,rfl⟩
  .show ag6 h
  .show ag7 h
 eqBool:=λg d h=>by
  rcases eD g with⟨i,t,rfl,rfl⟩|⟨x,t,rfl,rfl⟩
  .rcases eD d with⟨j,u,rfl,rfl⟩|⟨y,u,rfl,rfl⟩
   .rw[N0]at h;show wpAny_eqBool_int h
   .rw[Pw]at h;show SeqAt.EqAt.int_str i t y u _ _ _ _ h
  .rcases eD d with⟨j,u,rfl,rfl⟩|⟨y,u,rfl,rfl⟩
   .rw[NL]at h;show SeqAt.EqAt.str_int x t j u _ _ _ _ h
   .rw[Oh]at h;show wpAny_eqBool_str h
 «strs»:=λk x t v h=>by
  rcases eD h with⟨i,u,rfl,e⟩|⟨y,u,rfl,e⟩
  .show nomatch e
  .injection e with e1 _
   subst e1;ext v<;>rfl
theorem zU(prog:UY)(w:Vi)(i:Int)(t:Tok):(eG prog w).is (.inl i) (.int i t)=P:=Fc i t
theorem zB(prog:UY)(w:Vi)(x:Str)(t:Tok):(eG prog w).is (.inr x) (.str x t)=P:=EA x t
inductive V where
 |Xp|bl (b:Bool)|int (i:Int)|str (x:Str)|byt (b:Array UInt8)|flt (b:UInt64)|ref (a:J)|ty (n:String)
 deriving DecidableEq
def RelV:V->M->Prop
 |.Xp,u=>u=Um.none
 |.bl b,u=>u=Um.bool b
 |.int i,u=>∃t,u=Um.int i t
 |.str x,u=>∃t,u=Um.str x t
 |.byt b,u=>∃t,u=Um.bytes b t
 |.flt b,u=>∃t,u=Um.float b t
 |.ref a,u=>u=Um.ref a
 |.ty n,u=>u=Um.type n
abbrev Vals:G V->G M->Prop:=Paired RelV
theorem Vals.length(r:Vals xs us):xs.length=us.length:=Paired.length r
theorem Vals.get:∀{xs:G V} {us:G M} {i:Nat} {x:V},Vals xs us->xs[i]?=R x->∃u,us[i]?=R u/\RelV x u
 |_,_,_,_,.nil,e=>by simp at e
 |_,_,0,_,.cons r _,e=>by simp at e;subst e;show#[_,W,r]
 |_,_,i+1,x,.cons _ t,e=>by let(u,b,a):=Vals.get t (by simpa using e);show#[u,by simpa using b,a]
theorem Vals.set(r:RelV x u):∀{xs:G V} {us:G M} (i:Nat),Vals xs us->Vals (xs.set i x) (us.set i u)
 |_,_,_,.nil=>.nil
 |_,_,0,.cons _ t=>.cons r t
 |_,_,i+1,.cons q t=>.cons q (Vals.set r i t)
theorem Vals.append:∀{xs a:G V} {us ws:G M},Vals xs us->Vals a ws->Vals (xs++a) (us++ws)
 |_,_,_,_,.nil,s=>s
 |_,_,_,_,.cons r t,s=>.cons r (Vals.append t s)
theorem Vals.take:∀{xs:G V} {us:G M} (n:Nat),Vals xs us->Vals (xs.take n) (us.take n)
 |_,_,0,_=>.nil
 |_,_,_+1,.nil=>.nil
 |_,_,n+1,.cons r t=>.cons r (Vals.take n t)
theorem Vals.drop:∀{xs:G V} {us:G M} (n:Nat),Vals xs us->Vals (xs.drop n) (us.drop n)
 |_,_,0,r=>r
 |_,_,_+1,.nil=>.nil
 |_,_,n+1,.cons _ t=>Vals.drop n t
def ZI:cv V->cv M->Prop
 |some v,R u=>RelV v u
 |none,L=>True
 |_,_=>False
def KV:G (o×V)->G (o×M)->Prop:=Paired λ(p:o×V) (q:o×M)=>p.1=q.1/\RelV p.2 q.2
def kV:et->V
 |.inl i=>.int i
 |.inr x=>.str x
inductive HO where
 |lst (xs:G V)
 |tup (xs:G V)
 |dK (U8:G (et×V))|dT (U8:G (G et×V))
 |set (S:Int->Bool) (n:Nat)
 |ins (C dx:J) (fs:G (Str×V))
 |own (x:J)
 |xd (fs:G (Str×V))
 |met (f x:J)
 |rng (lo hi:Int)
 |frz (o:Obj) (u:HO)
 |tbl (ps:Array M)
 |ext (φ:Heap->Prop)
 |exw (φ:Vi->Heap->Prop)
abbrev Hp:=J->cv HO
def cy(H:Hp)(a:J)(o:HO):Hp:=λb=>if b=a then R o else H b
def bp:cy H a o a=R o:=by ext cy;rw[av W]
def bG(h:b≠a):cy H a o b=H b:=by ext cy;rw[ax h]
def Rx{H:Hp}{a b:J}{o u:HO}(h:H a=R o)(c:H b=R u)(d:o≠u):a≠b:=by intro e;subst e;rw[h]at c;show d (UU c)
def cU{H:Hp}(h:H a=R o)(c:H b=L):a≠b:=by intro e;subst e;rw[h]at c;ext c
def abi(h:Heap)(a:J)(b:Array M):Prop:=∃o,h.get? a=R o/\(o.cls=.type "tuple"/\∃n,o.data=.seq b n)/\o.dict=L
theorem abi.tup(x:abi h a items):IsTup h a items:=let#[o,e,c,_]:=x;#[o,e,c]
theorem abi.lt(x:abi h a items):a<h.objs.size:=let#[_,e,_]:=x;c6 e
theorem abi.new(h:Heap)(xs:Array M):abi (h.push {cls:=.type "tuple",data:=.seq xs}) h.objs.size xs:=#[_,da _ W,#[W,_,W],W]
section
variable(P:UY)(w:Vi)
def ObjOk(H:Hp)(h:Heap)(a:J):HO->Prop
 |.lst xs=>xs.length<=UG/\∃(b:G M) (n:Nat),Vals xs b/\h.get? a=R {cls:=.type "list",data:=.seq b.toArray n}
 |.tup xs=>xs.length<=UG/\∃b:G M,Vals xs b/\abi h a b.toArray
 |.dK i=>i.length<=UG/\(a==Xv)=Uu/\∃l,KV i l/\h.DictOf (eG P w) a l
 |.dT i=>i.length<=UG/\(a==Xv)=Uu/\∃xs:G (G et×J×M),
   Paired (λ(p:G et×V) (q:G et×J×M)=>p.1=q.1/\H q.2.1=R (.tup (p.1.map kV))/\RelV p.2 q.2.2) i xs/\
   ∃o m z,h.get? a=R o/\o.ExactDict/\o.data=.dict m z/\m.toList=xs.map (entryOfKey (tupleKind (eG P w)))/\(xs.map (·.1)).Nodup
 |.set S n=>h.SetOf (intKind P w) a S n
 |.ins C j fs=>H j=R (.own a)/\fs.length<=1000/\j≠a/\h.get? a=R (WI C j)/\
   ∃e,h.Ns1 j e/\(∀f,ZI (fs.lookup f) (e f))/\acz e (fs.map (·.1))
 |.own _=>∃o,h.get? a=R o
 |.xd fs=>∃e,h.Ns1 a e/\∀f,ZI (fs.lookup f) (e f)
 |.rng lo y=>∃t u v,h.get? a=R {cls:=.type "range",data:=.fields #v[.int lo t,.int y u,.int 1 v]}
 |.frz o u=>h.get? a=R o/\ObjOk H h a u
 |.tbl r=>h.get? a=R {cls:=.none,data:=.fields r}
 |.met f x=>h.get? a=R (aau (.ref f) (.ref x))
 |.ext d=>d h/\(∃o,h.get? a=R o)/\∀h1 g:Heap,d h1->(∀o,h1.get? a=R o->g.get? a=R o)->d g
 |.exw d=>d w h/\(∃o,h.get? a=R o)/\∀h1 g:Heap,d w h1->(∀o,h1.get? a=R o->g.get? a=R o)->d w g
def HOk(H:Hp)(h:Heap):Prop:=∀a o,H a=R o->ObjOk P w H h a o
end
section
variable{P:UY}{w:Vi}{H Z:Hp}{h h':Heap}{a:Uw}{o:HO}
def ObjOk.lt(x:ObjOk P w H h a o):a<h.objs.size:=by
 cases o with
 |lst xs=>let(_,_,_,_,e):=x;show c6 e
 |tup xs=>let(_,_,_,p):=x;show p.lt
 |dK g=>let(_,_,_,_,o,_,_,e,_):=x;show c6 e
 |dT g=>let(_,_,_,_,o,_,_,e,_):=x;show c6 e
 |set S n=>let(o,_,_,_,e,_):=x;show c6 e
 |ins C l fs=>let(_,_,_,e,_):=x;show c6 e
 |own y=>let(_,e):=x;show c6 e
 |xd fs=>let(_,(_,_,_,e,_),_):=x;show c6 e
 |rng lo j=>let(_,_,_,e):=x;show c6 e
 |frz b u=>let(e,_):=x;show c6 e
 |tbl i=>show c6 (show h.get? a=R _ from x)
 |met f y=>show c6 (show h.get? a=R _ from x)
 |ext d=>let(_,(_,e),_):=x;show c6 e
 |exw d=>let(_,(_,e),_):=x;show c6 e
theorem Paired.Yv:∀{e:cn α} {c:cn β},Paired F e c->(∀a b,F a b->d a b)->Paired d e c
 |_,_,.nil,_=>.nil
 |_,_,.cons r t,f=>.cons (f _ _ r) (Paired.Yv t f)
def ObjOk.adq(x:ObjOk P w H h a o)(k:∀b u,(b=a\/H b=R (.own a))->h.get? b=R u->h'.get? b=R u)
  (G:∀b,H b=R (.own a)->Z b=R (.own a)) (F:∀b xs,H b=R (.tup xs)->Z b=R (.tup xs)):ObjOk P w Z h' a o:=by
 induction o with
 |lst xs=>let(z,B,n,r,e):=x;show#[z,B,n,r,k _ _ (.inl W) e]
 |tup xs=>let(z,B,r,g,e,c):=x;show#[z,B,r,g,k _ _ (.inl W) e,c]
 |dK Q=>let(z,y,O,r,g,i,j,e,c):=x;show#[z,y,O,r,g,i,j,k _ _ (.inl W) e,c]
 |dT Q=>let(z,y,xs,r,g,i,j,e,c):=x;show#[z,y,xs,Paired.Yv r λp q z=>#[z.1,F _ _ z.2.1,z.2.2],g,i,j,k _ _ (.inl W) e,c]
 |set S n=>let(g,i,j,t,e,c):=x;show#[g,i,j,t,k _ _ (.inl W) e,c]
 |ins C U fs=>let(d,z,ne,e,A,(m,i,j,I,c),r):=x;show#[G _ d,z,ne,k _ _ (.inl W) e,A,#[m,i,j,k _ _ (.inr d) I,c],r]
 |own y=>let(g,e):=x;show#[g,k _ _ (.inl W) e]
 |xd fs=>let(A,(m,i,j,e,c),r):=x;show#[A,#[m,i,j,k _ _ (.inl W) e,c],r]
 |rng lo T=>let(t,u,v,e):=x;show#[t,u,v,k _ _ (.inl W) e]
 |frz g u E=>let(e,q):=x;show#[k _ _ (.inl W) e,E q]
 |tbl K=>let e:h.get? a=R {cls:=.none,data:=.fields K}:=x;show h'.get? a=R {cls:=.none,data:=.fields K};show k a _ (.inl W) e
 |met f y=>let e:h.get? a=R (aau (.ref f) (.ref y)):=x;show h'.get? a=R (aau (.ref f) (.ref y));show k a _ (.inl W) e
 |ext N=>let(p,(o,e),l):=x;show#[l _ _ p λo q=>k _ _ (.inl W) q,#[o,k _ _ (.inl W) e],l]
 |exw N=>let(p,(o,e),l):=x;show#[l _ _ p λo q=>k _ _ (.inl W) q,#[o,k _ _ (.inl W) e],l]
theorem HOk.lt(x:HOk P w H h)(e:H a=R o):a<h.objs.size:=(x a o e).lt
def HOk.fresh(x:HOk P w H h)(e:h.objs.size<=a):H a=L:=by
 cases q:H a with
 |none=>rfl
 |some u=>show bg (UX (x.lt q) e) (V5 _)
theorem HOk.kept(x:HOk P w H h)(k:∀b u,h.get? b=R u->h'.get? b=R u):HOk P w H h':=λa o e=>
 (x a o e).adq (λb u _ q=>k b u q) (λ_ q=>q) λ_ _ q=>q
theorem HOk.laid(x:HOk P w H h)(k:∀b u,h.get? b=R u->h'.get? b=R u)(f:h.objs.size<=a)(new:ObjOk P w (cy H a o) h' a o):HOk P w (cy H a o) h':=λb u e=>by
 let g:=x.fresh f;by_cases d:b=a
 .subst d;rw[bp]at e;ext e;show new
 .rw[bG d]at e;show(x b u e).adq (λc v _ q=>k c v q) (λc q=>by rw[bG (cU q g)];show q) λc xs q=>by rw[bG (cU q g)];show q
end
def Rd(H:Hp)(a:J)(u:HO):Prop:=H a=R u\/∃o,H a=R (.frz o u)
def Rd.ok(r:Rd H a u)(x:HOk b w H h):ObjOk b w H h a u:=by
 rcases r with r|⟨o,r⟩
 .show x a u r
 .let(_,q):=x a _ r;show q
def Ra:cv HO->Prop
 |some (.lst _)=>True
 |some (.dK _)=>True
 |some (.dT _)=>True
 |some (.set _ _)=>True
 |some (.ins _ _ _)=>True
 |some (.ext _)=>True
 |some (.exw _)=>True
 |_=>False
section
variable{P:UY}{w:Vi}{H:Hp}{h Y:Heap}{x e:Uw}{Z:HO}
theorem HOk.write(ok:HOk P w H h)(f:Ra (H x))(n:e=x\/H e=R (.own x))(k:∀b u,b≠e->h.get? b=R u->Y.get? b=R u)(j:∃u,Y.get? e=R u)
  (new:ObjOk P w (cy H x Z) Y x Z):HOk P w (cy H x Z) Y:=λb u q=>by
 let d:∀c y,H c=R (.own y)->c≠x:=λc y r z=>by subst z;rw[r]at f;show f
 let l:∀c xs,H c=R (.tup xs)->c≠x:=λc xs r z=>by subst z;rw[r]at f;show f
 by_cases i:b=x
 .subst i;rw[bp]at q;ext q;show new
 .rw[bG i]at q
  by_cases a:b=e
  .let m:H b=R (.own x):=by
    rcases n with z|z
    .show bg (a.trans z) i
    .rw[a];show z
   rw[q]at m;ext m;let(v,o):=j;show#[v,by rw[a];show o]
  .show(ok b u q).adq (λc v g r=>k c v ?_ r) (λc r=>by rw[bG (d c b r)];show r) λc xs r=>by rw[bG (l c xs r)];show r
   rcases g with rfl|g
   .show a
   .rintro rfl
    rcases n with z|z
    .show d c b g z
    .rw[g]at z;ext z;show i W
end
structure Un(fs ex:G J)(H H':Hp)(h h':Heap):Prop where
 keep:∀b o,h.get? b=R o->H b=L->b∉fs->b∉ex->h'.get? b=R o
 slot:∀b o,h.get? b=R o->H b=L->b∈fs->b∉ex->∃sl,h'.get? b=R {o with slots:=sl}
 free:∀b o,h.get? b=R o->H b=L->b∉ex->H' b=L
 there:∀b o,h.get? b=R o->b∉ex->∃o',h'.get? b=R o'
 acK:∀b xs,H b=R (.tup xs)->H' b=R (.tup xs)
 ace:∀b o u,H b=R (.frz o u)->H' b=R (.frz o u)
 acQ:∀b ps,H b=R (.tbl ps)->∃more,H' b=R (.tbl (ps++more))
section
variable{fs X Z U:cn Uw}{H T S:Hp}{h Y Q h':Heap}{a x e:Uw}{o:HO}
def Un.any(u:Un fs Z H T h Y)(q:h.get? b=R ob)(n:H b=L)(d:b∉Z):∃c,Y.get? b=R {ob with slots:=c}:=by
 by_cases f:b∈fs
 .show u.slot b ob q n f d
 .show#[ob.slots,u.keep b ob q n f d]
theorem Un.kept(k:∀b u,h.get? b=R u->h'.get? b=R u):Un fs Z H H h h':=
 #[λb d q _ _ _=>k b d q,λb d q _ _ _=>#[d.slots,k b d q],λ_ _ _ n _=>n,λb d q _=>#[d,k b d q],λ_ _ q=>q,λ_ _ _ q=>q,λ_ f q=>#[#v[],by rw[q];simp]]
theorem Un.refl:Un fs Z H H h h:=Un.kept λ_ _ q=>q
theorem Un.laid(k:∀b u,h.get? b=R u->h'.get? b=R u)(d:h.objs.size<=a)(c:H a=L):Un fs Z H (cy H a o) h h' where
 keep:=λb u q _ _ _=>k b u q
 slot:=λb u q _ _ _=>#[u.slots,k b u q]
 free:=λb u q n _=>by rw[bG (UP (UX (c6 q) d))];show n
 there:=λb u q _=>#[u,k b u q]
 acK:=λb xs q=>by rw[bG (cU q c)];show q
 ace:=λb u xs q=>by rw[bG (cU q c)];show q
 acQ:=λb f q=>#[#v[],by rw[bG (cU q c),q];simp]
def Un.write(f:Ra (H x))(m:e=x\/H e=R (.own x))(k:∀b u,b≠e->h.get? b=R u->h'.get? b=R u)(g:∃u,h'.get? e=R u):Un fs Z H (cy H x o) h h':=by
 let i:∀b,H b=L->b≠x:=λb n z=>by subst z;rw[n]at f;show f
 let j:∀b,H b=L->b≠e:=λb n z=>by
  subst z;rcases m with r|r
  .show i b n r
  .rw[n]at r;ext r
 let hm:∀b u,H b=R u->¬Ra (R u)->b≠x:=λb u q l z=>by subst z;rw[q]at f;show l f
 show#[λb u q n _ _=>k b u (j b n) q,λb u q n _ _=>#[u.slots,k b u (j b n) q],λb u q n _=>by rw[bG (i b n)];show n,λb u q _=>?_,
  λb xs q=>by rw[bG (hm b _ q λz=>z)];show q,λb u xs q=>by rw[bG (hm b _ q λz=>z)];show q,λb p q=>#[#v[],by rw[bG (hm b _ q λz=>z),q];simp]]
 by_cases d:b=e
 .subst d;show g
 .show#[u,k b u d q]
end
def SF(h:Heap)(H:Hp):G J:=(U1 h.objs.size).filter λa=>(H a).isSome
def yV(h:Heap)(H:Hp):Heap:=PySem.W.hideAll h (SF h H)
theorem Fs(h:Heap)(H:Hp):(yV h H).objs.size=h.objs.size:=PySem.W.hideAll_size _ _
theorem JG(e:h.get? b=R o)(n:H b=L):(yV h H).get? b=R o:=
 PySem.W.hideAll_get _ e λhm=>by let q:=(Ve.mp hm).2;rw[n]at q;simp at q
def LH(e:(yV h H).get? b=R o):h.get? b=R o/\H b=L:=by
 let a:=PySem.W.of_hideAll (SF h H) e;show#[a,?_];cases q:H b with
 |none=>rfl
 |some x=>let hm:b∈SF h H:=Ve.mpr #[U0.mpr (c6 a),by simp[q]];let z:(yV h H).get? b=L:=PySem.W.hideAll_none (SF h H) hm;rw[z]at e;ext e
structure Mod(K:lD)(mg:Str->cv M)(base:Heap):Prop where
 kin:K.In base
 glob:base.Ns UI mg
 blt:∃mb,base.Ns builtinsNs mb/\∀x:Str,x≠ "__name__"->mb x=Vu x
 nolimit:base.NoLimit
structure Cx where
 prog:UY
 w:Vi
 K:lD
 mg:Str->cv M
 base:Heap
 A:Vc
 N:G Str
 s₀:Uv
 H₀:Hp
 env:Env
 outer:G Env
 stack:G Env
 ex:G J
 fn:Str->Bool
 calm:Bool
 pn:G (J×Obj)
 xe:M->Uv->Prop
def FX(l:G Env):G J:=l.filterMap (·.frame)
abbrev Cx.fs(X:Cx):G J:=FX X.outer
def Ta(sc:Yr)(x:Str):Prop:=sc.names.lookup x=R .local\/sc.names.lookup x=R .cell\/sc.names.lookup x=R .free
def SM(sc:Yr)(x:Str):Prop:=sc.names.lookup x=R .local\/sc.names.lookup x=R .cell
def Tk(env:Env)(h:Heap)(m:Str->cv M)(x:Str)(u:M):Prop:=
 (env.kindOf x=R .local/\m x=R u)\/((env.kindOf x=R .cell\/env.kindOf x=R .free)/\∃c,env.cells.lookup x=R c/\h.IsCell c (R u))
structure Cx.Ok(X:Cx):Prop where
 mod:Mod X.K X.mg X.base
 kind:X.env.scope.kind=.function
 glob:X.env.globals=UI
 blt:X.env.builtins=builtinsNs
 above:X.s₀.heap.objs.size<=X.env.locals
 inj:∀x y c,X.env.cells.lookup x=R c->X.env.cells.lookup y=R c->x=y
 has:∀x,(X.env.kindOf x=R .cell\/X.env.kindOf x=R .free)->∃c,X.env.cells.lookup x=R c
 cab:∀x c,X.fn x=P->X.env.cells.lookup x=R c->X.s₀.heap.objs.size<=c
 hd:X.calm=P->X.A.handled=L
 frames:X.A.frames=R X.stack
 stk:X.stack=X.outer\/(X.stack=X.env::X.outer/\X.env.frame=R X.env.locals)
 exf:∀b∈X.ex,b≠X.env.locals/\∀x c,X.env.cells.lookup x=R c->c≠b
 bs:∀b o,X.base.get? b=R o->X.s₀.heap.get? b=R o/\X.H₀ b=L
 bsz:X.base.objs.size<=X.s₀.heap.objs.size
 adZ:∀b o,X.base.get? b=R o->b∉X.ex
 adT:∀b∈X.ex,b∉X.fs
 aaW:X.s₀.heap.FunFrames X.base X.outer
 frf:∀b∈X.fs,X.H₀ b=L
structure Inv(X:Cx)(pins:G (J×Obj))(σ:G (cv V))(H:Hp)(s:Uv):Prop where
 ok:X.Ok
 os:s.os=X.s₀.os
 bare:AllBare s.gens
 base:Un X.fs X.ex X.H₀ H X.s₀.heap s.heap
 loc:∃m,s.heap.Ns X.env.locals m/\∀(i:Nat) (x:Str) (v:V),X.N[i]?=R x->σ[i]?=R (R v)->Ta X.env.scope x->∃u,RelV v u/\Tk X.env s.heap m x u
 cell:∀x c,X.env.cells.lookup x=R c->∃v,s.heap.IsCell c v
 free:H X.env.locals=L
 aad:∀x c,X.env.cells.lookup x=R c->H c=L
 pin:∀p∈X.pn++pins,s.heap.get? p.1=R p.2/\H p.1=L/\p.1≠X.env.locals/\p.1∉X.fs/\∀v,p.2.data≠.cell v
 Wf:HOk X.prog X.w H s.heap
 len:σ.length=X.N.length
section
variable{X:Cx}{Z:cn (Uw×Obj)}{Y:cn (cv V)}{H U:Hp}{s:Uv}{h':Heap}
theorem Cx.Ok.ajR(ok:X.Ok)(e:X.base.get? b=R o):b∉X.fs:=λa=>by let:=(ok.aaW.mem a).1;rw[e]at this;ext this
theorem Inv.bs(I:Inv X Z Y H s):∀b o,X.base.get? b=R o->s.heap.get? b=R o/\H b=L:=λb o e=>
 #[I.base.keep b o (I.ok.bs b o e).1 (I.ok.bs b o e).2 (I.ok.ajR e) (I.ok.adZ b o e),I.base.free b o (I.ok.bs b o e).1 (I.ok.bs b o e).2 (I.ok.adZ b o e)]
theorem Inv.bk(I:Inv X Z Y H s):∀b o,X.base.get? b=R o->s.heap.get? b=R o:=λb o e=>(I.bs b o e).1
theorem Inv.mod(I:Inv X Z Y H s):Mod X.K X.mg X.base:=I.ok.mod
theorem Inv.kIn(I:Inv X Z Y H s):X.K.In s.heap:=I.ok.mod.kin.keeps I.bk
theorem Inv.lt(I:Inv X Z Y H s):X.env.locals<s.heap.objs.size:=let#[_,a,_]:=I.loc;a.lt
theorem Inv.sz(I:Inv X Z Y H s):X.s₀.heap.objs.size<=s.heap.objs.size:=Vn I.ok.above (Zw I.lt)
theorem Inv.ajS(I:Inv X Z Y H s)(h:s.heap.objs.size<=a):a∉X.fs:=λd=>by let(_,o,b,_):=I.ok.aaW.mem d;show bg (UX (c6 b) (Vn I.sz h)) (V5 _)
theorem Inv.cne(I:Inv X Z Y H s):∀x c,X.env.cells.lookup x=R c->c≠X.env.locals:=λx c e z=>by let(v,o,d,f):=I.cell x c e;let(m,(g,h,i,a,b,_),_):=I.loc;rw[z,a]at d;ext d;rw[b]at f;ext f
def Inv.aaW(I:Inv X Z Y H s):s.heap.FunFrames X.base X.outer:=by
 let all:∀(l:G Env),(∀b∈FX l,b∈X.fs)->X.s₀.heap.FunFrames X.base l->s.heap.FunFrames X.base l:=by
  intro l
  induction l with
  |nil=>intro _ _;trivial
  |cons q r h=>intro g m;let(n,(L,o,a,u,j,p),i):=m;let f:=g L (by ext FX;rw[V8,a];show UA);let(t,e):=I.base.slot L o j (I.ok.frf L f) f λz=>I.ok.adT L z f;show#[n,#[L,_,a,u,e,p],h (λb d=>g b (by ext FX;rw[V8,a];show UC _ d)) i]
 show all X.outer (λ_ d=>d) I.ok.aaW
def Inv.stack(I:Inv X Z Y H s):s.heap.FunFrames X.base X.stack:=by
 rcases I.ok.stk with e|⟨e,hf⟩
 .rw[e];show I.aaW
 .rw[e];let(m,a,_):=I.loc;show .cons (by rw[I.ok.kind];decide) hf a ?_ I.aaW;show Heap.get?_none_of_le (Vn I.ok.bsz I.ok.above)
theorem Inv.ado(I:Inv X Z Y H s):∀b∈FX X.stack,b∈X.env.locals::X.fs:=λb a=>by
 rcases I.ok.stk with e|⟨e,hf⟩
 .rw[e]at a;show UC _ a
 .rw[e]at a;unfold FX at a;rw[V8,hf]at a;show a
theorem Inv.adL(I:Inv X Z Y H s):∀b∈FX X.stack,H b=L:=λb a=>by
 rcases UJ.mp (I.ado b a)with e|a
 .rw[e];show I.free
 .let(_,o,d,_):=I.ok.aaW.mem a;show I.base.free b o d (I.ok.frf b a) λz=>I.ok.adT b z a
def Inv.step{g':Array acZ}{t':Nat}{d':Drawn}{ch:cn Uw}(I:Inv X Z Y H s)
  (g:∀b∈ch,(b∈X.ex\/X.s₀.heap.objs.size<=b)/\b≠X.env.locals/\(∀x c,X.env.cells.lookup x=R c->c≠b)/\∀p∈X.pn++Z,p.1≠b)
  (keep:∀b o,b≠X.env.locals->b∉X.fs->b∉ch->s.heap.get? b=R o->H b=CL->h'.get? b=R o)
  (slot:∀b o,b≠X.env.locals->b∈X.fs->b∉ch->s.heap.get? b=R o->H b=CL->∃S,h'.get? b=R {o with slots:=S}) (free:∀b o,b∉ch->s.heap.get? b=R o->H b=CL->U b=CL)
  (there:∀b o,b∉ch->s.heap.get? b=R o->∃w,h'.get? b=R w)
  (acK:∀b xs,H b=R (.tup xs)->U b=R (.tup xs)) (T:∀b o u,H b=R (.frz o u)->U b=R (.frz o u)) (acQ:∀b D,H b=R (.tbl D)->∃more,U b=R (.tbl (D++more)))
  (ns:∀m,s.heap.Ns X.env.locals m->h'.Ns X.env.locals m) (Q:HOk X.prog X.w U h') (O:AllBare g'):
  Inv X Z Y U {s with heap:=h',gens:=g',drawn:=d',toks:=t'}:=by
 let B:∀b o,X.s₀.heap.get? b=R o->b≠X.env.locals:=λb o e=>UP (UX (c6 e) I.ok.above);let j:∀b o,X.s₀.heap.get? b=R o->b∉X.ex->b∉ch:=λb o e a y=>by
  rcases(g b y).1 with z|z
  .show a z
  .show bg (UX (c6 e) z) (V5 _)
 let h:∀x c,X.env.cells.lookup x=R c->∀v,s.heap.IsCell c v->h'.IsCell c v:=λx c e v #[o,A,F]=>by
  let f:c∉ch:=λz=>(g c z).2.2.1 x c e W;by_cases K:c∈X.fs
  .let(S,q):=slot c o (I.cne x c e) K f A (I.aad x c e);show#[_,q,F]
  .show#[o,keep c o (I.cne x c e) K f A (I.aad x c e),F]
 show#[I.ok,I.os,O,#[λb o e n y a=>?_,λb o e n y a=>?_,λb o e n a=>?_,λb o e a=>?_,λb xs e=>acK b xs (I.base.acK b xs e),λb o xs e=>T b o xs (I.base.ace b o xs e),λb D e=>?_],?_,λx c e=>?_,?_,λx c e=>?_,λp J=>?_,Q,I.len]
 .show keep b o (B b o e) y (j b o e a) (I.base.keep b o e n y a) (I.base.free b o e n a)
 .let(S,t):=I.base.slot b o e n y a;let(E,C):=slot b _ (B b o e) y (j b o e a) t (I.base.free b o e n a);show#[E,C]
 .let(w,t):=I.base.there b o e a;show free b w (j b o e a) t (I.base.free b o e n a)
 .let(w,t):=I.base.there b o e a;show there b w (j b o e a) t
 .let(M,t):=I.base.acQ b D e;let(L,C):=acQ b _ t;show#[M++L,by rw[C,Array.append_assoc]]
 .let(m,hn,N):=I.loc
  show#[m,ns m hn,λi x v t C P=>?_];let(u,r,l):=N i x v t C P;show#[u,r,?_];rcases l with l|⟨k,c,e,z⟩
  .show .inl l
  .show .inr #[k,c,e,h x c e _ z]
 .let(v,z):=I.cell x c e;show#[v,h x c e v z]
 .let(m,(o,_,_,A,_),_):=I.loc;show free _ o (λz=>(g _ z).2.1 W) A I.free
 .let(v,o,A,F):=I.cell x c e;show free c o (λz=>(g c z).2.2.1 x c e W) A (I.aad x c e)
 .let(e,n,ne,G,d):=I.pin p J;let f:p.1∉ch:=λz=>(g p.1 z).2.2.2 p J W;show#[keep p.1 p.2 ne G f e n,free p.1 p.2 f e n,ne,G,d]
def Inv.un{c:Nat}(I:Inv X Z Y H s)(u:Un X.fs [] H U s.heap h')(l:HOk X.prog X.w U h'):Inv X Z Y U {s with heap:=h',toks:=c}:=by let(m,(o,v,y,h,r),_):=id I.loc;let(p,j):=u.any h I.free (by simp);show I.step (g':=s.gens) (d':=s.drawn) (ch:=[]) (λ_ z=>nomatch z) (λb o _ d _ e n=>u.keep b o e n d (by simp)) (λb o _ d _ e n=>u.slot b o e n d (by simp)) (λb o _ e n=>u.free b o e n (by simp)) (λb o _ e=>u.there b o e (by simp)) u.acK u.ace u.acQ (λt hm=>by let(q,f,g,a,i):=hm;rw[h]at a;ext a;show#[_,f,g,j,i]) l I.bare
def Inv.call{g':Array acZ}{t':Nat}{d':Drawn}{ch:G J}(I:Inv X Z Y H s)(u:Un (FX X.stack) ch H U s.heap h')(v:HOk X.prog X.w U h')(q:AllBare g')
  (f:∀b∈ch,(b∈X.ex\/X.s₀.heap.objs.size<=b)/\b≠X.env.locals/\(∀x c,X.env.cells.lookup x=R c->c≠b)/\∀p∈X.pn++Z,p.1≠b):
  Inv X Z Y U {s with heap:=h',gens:=g',drawn:=d',toks:=t'}:=by
 let(m,(o,C,E,j,r),_):=id I.loc;let(y,g):=u.any j I.free λz=>(f _ z).2.1 W;show I.step (ch:=ch) f (λb o g t a e n=>u.keep b o e n (λz=>(UJ.mp (I.ado b z)).elim g t) a) (λb o _ _ a e n=>u.any e n a) (λb o a e n=>u.free b o e n a) (λb o a e=>u.there b o e a) u.acK u.ace u.acQ (λB hm=>by let(A,h,i,d,l):=hm;rw[j]at d;ext d;show#[_,h,i,g,l]) v q
def Inv.turned{t':Nat}{a:J}(I:Inv X Z Y H s)(k:∀b o,b≠a->s.heap.get? b=R o->h'.get? b=R o)(A:H a=L)(g:a≠X.env.locals)
  (t:a∈X.ex\/X.s₀.heap.objs.size<=a) (l:∀x c,X.env.cells.lookup x=R c->c≠a) (j:∀p∈X.pn++Z,p.1≠a):Inv X Z Y H {s with heap:=h',toks:=t'}:=by
 let f:∀b u,H b=R u->b≠a:=λb u e z=>by rw[z,A]at e;ext e
 show I.step (g':=s.gens) (d':=s.drawn) (ch:=[a]) (λb i=>?_) (λb o _ _ d e _=>k b o (λz=>d (by simp[z])) e) (λb o _ _ d e _=>#[o.slots,k b o (λz=>d (by simp[z])) e]) (λ_ _ _ _ n=>n)
  (λb o d e=>#[o,k b o (λz=>d (by simp[z])) e]) (λ_ _ e=>e) (λ_ _ _ e=>e) (λb B e=>#[#v[],by rw[e];simp]) (λm hm=>?_) (λb u e=>?_) I.bare
 .let e:b=a:=by simpa using i
  subst e;show#[t,g,l,j]
 .let(o,w,y,h,r):=hm;show#[o,w,y,k _ o (d0 g) h,r]
 .show(I.Wf b u e).adq (λc v d q=>k c v ?_ q) (λ_ q=>q) λ_ _ q=>q
  rcases d with z|z
  .rw[z];show f b u e
  .show f c _ z
theorem Inv.tok(I:Inv X Z Y H s)(t:Nat):Inv X Z Y H {s with toks:=t}:=I.un Un.refl I.Wf
theorem Inv.kept{t':Nat}(I:Inv X Z Y H s)(k:∀b u,s.heap.get? b=R u->h'.get? b=R u):Inv X Z Y H {s with heap:=h',toks:=t'}:=I.un (Un.kept k) (I.Wf.kept k)
theorem Inv.laid{a:J}{o:HO}{t':Nat}(I:Inv X Z Y H s)(k:∀b u,s.heap.get? b=R u->h'.get? b=R u)(d:s.heap.objs.size<=a)(new:ObjOk X.prog X.w (cy H a o) h' a o):
  Inv X Z Y (cy H a o) {s with heap:=h',toks:=t'}:=I.un (Un.laid k d (I.Wf.fresh d)) (I.Wf.laid k d new)
theorem Inv.write{x e:J}{o:HO}{c:Nat}(I:Inv X Z Y H s)(d:Ra (H x))(f:e=x\/H e=R (.own x))(k:∀b u,b≠e->s.heap.get? b=R u->h'.get? b=R u)(a:∃u,h'.get? e=R u)
  (new:ObjOk X.prog X.w (cy H x o) h' x o):Inv X Z Y (cy H x o) {s with heap:=h',toks:=c}:=I.un (Un.write d f k a) (I.Wf.write d f k a new)
theorem Inv.adK(I:Inv X Z Y H s)(h:∀p∈ahP,s.heap.get? p.1=R p.2/\H p.1=L/\p.1≠X.env.locals/\p.1∉X.fs/\∀v,p.2.data≠.cell v):Inv X ahP Y H s:=
 #[I.ok,I.os,I.bare,I.base,I.loc,I.cell,I.free,I.aad,λp a=>(VF.mp a).elim (λz=>I.pin p (ads _ z)) (h p),I.Wf,I.len]
def z4{N:G Str}(d:N.Nodup){i j:Nat}(a:N[i]?=R x)(b:N[j]?=R x):i=j:=by let(h,f):=Uo.mp a;let(g,e):=Uo.mp b;show(List.getElem_inj d).mp (f.trans e.symm)
def wI{M:Model}{A:Vc}{E:Um->Uv->Prop}{i:Nat}{x:Str}{v:V}{u:Um}{Q:Unit->Uv->Prop}(I:Inv X Z Y H s)(hN:X.N.Nodup)(D:X.N[i]?=R x)(t:SM X.env.scope x)(r:RelV v u)
  (h:∀F,Inv X Z (Y.set i (R v)) H F->(∃a,Heap.SameBut a s.heap F.heap/\(a=X.env.locals\/X.env.cells.lookup x=R a))->Q ⟨⟩ F) (hf:X.fn x=P\/X.env.scope.names.lookup x=R .local:=by first|show .inl W|show .inr W|assumption):wpAny M A (storeName X.env x u) Q E s:=by
 let(m,hn,hl):=id I.loc;let akC:(X.env.scope.kind==.class||(X.env.scope.kind==.module&&X.env.locals !=X.env.globals))=Uu:=by rw[I.ok.kind];rfl
 let C:i<Y.length:=by rw[I.len];show(Uo.mp D).1
 let cne:=I.cne;let tracked:∀{a:J} {h':Heap},(∃o,s.heap.get? a=R o/\H a=L)->Heap.SameBut a s.heap h'->HOk X.prog X.w H h':=λ{a h'} ha f b ob e=>by
  let(_,_,T):=ha;show(I.Wf b ob e).adq (λc w' l q=>(f.2 c ?_).trans q) (λ_ q=>q) λ_ _ q=>q;rintro rfl;rcases l with rfl|l
  .rw[T]at e;ext e
  .rw[T]at l;ext l
 rcases t with B|B
 .show wpAny_storeName_local B hn (λh' hn' f=>?_) akC
  let(oL,_,_,hoL,_):=id hn;show h _ #[I.ok,I.os,I.bare,#[λb o e n N t=>?_,λb o e n N t=>?_,I.base.free,λb o e t=>?_,I.base.acK,I.base.ace,I.base.acQ],#[_,hn',λj y v' g w e3=>?_],λy c e=>?_,I.free,I.aad,λp hp=>?_,tracked #[oL,hoL,I.free] f,by simpa using I.len] #[_,f,.inl W]
  .show(f.2 b (UP (UX (c6 e) I.ok.above))).trans (I.base.keep b o e n N t)
  .let(sl,g):=I.base.slot b o e n N t;show#[sl,(f.2 b (UP (UX (c6 e) I.ok.above))).trans g]
  .let(o',g):=I.base.there b o e t;show#[o',(f.2 b (UP (UX (c6 e) I.ok.above))).trans g]
  .by_cases hj:j=i
   .subst hj;rw[D]at g;ext g;rw[W2 C]at w;ext w;show#[u,r,.inl #[B,by simp]]
   .rw[Xl (d0 hj)]at w
    let(u',r',q):=hl j y v' g w e3;show#[u',r',?_];rcases q with⟨k,e⟩|⟨k,c,e,z⟩
    .show .inl #[k,?_];let:y≠x:=λe=>hj (z4 hN g (e▸D));simp[this,e]
    .show .inr #[k,c,e,z.sameBut f (cne y c e)]
  .let(w',z):=I.cell y c e;show#[w',z.sameBut f (cne y c e)]
  .let(e,n,ne,nf,d):=I.pin p hp;show#[(f.2 p.1 ne).trans e,n,ne,nf,d]
 .let K:X.fn x=P:=by
   rcases hf with z|z
   .show z
   .rw[z]at B;ext B
  let(c,l):=I.ok.has x (.inl B);let(w',z):=I.cell x c l;show wpAny_storeName_cell I.ok.kind B l z (λh' S f=>?_);let(oc,O,ajU):=id z;show h {s with heap:=h'} #[I.ok,I.os,I.bare,#[λb o e n N t=>?_,λb o e n N t=>?_,I.base.free,λb o e t=>?_,I.base.acK,I.base.ace,I.base.acQ],#[m,hn.sameBut f (d0 (cne x c l)),λj y v' g w e3=>?_],λy c' e=>?_,I.free,I.aad,λp hp=>?_,tracked #[oc,O,I.aad x c l] f,by simpa using I.len] #[c,f,.inr l]
  .show(f.2 b (UP (UX (c6 e) (I.ok.cab x c K l)))).trans (I.base.keep b o e n N t)
  .let(sl,g):=I.base.slot b o e n N t;show#[sl,(f.2 b (UP (UX (c6 e) (I.ok.cab x c K l)))).trans g]
  .let(o',g):=I.base.there b o e t;show#[o',(f.2 b (UP (UX (c6 e) (I.ok.cab x c K l)))).trans g]
  .by_cases hj:j=i
   .subst hj;rw[D]at g;ext g;rw[W2 C]at w;ext w;show#[u,r,.inr #[.inl B,c,l,S]]
   .rw[Xl (d0 hj)]at w
    let(u',r',q):=hl j y v' g w e3;show#[u',r',?_];rcases q with q|⟨k,c',e,z'⟩
    .show .inl q
    .show .inr #[k,c',e,z'.sameBut f ?_];rintro rfl;show hj (z4 hN g (I.ok.inj _ _ _ e l▸D))
  .by_cases hcc:c'=c
   .subst hcc;show#[_,S]
   .let(w2,z2):=I.cell y c' e;show#[w2,z2.sameBut f hcc]
  .let(e,n,ne,nf,d):=I.pin p hp;show#[(f.2 p.1 ?_).trans e,n,ne,nf,d];intro q;rw[q,O]at e;let q':oc=p.2:=UU e;show d w' (by rw[<-q'];show ajU)
theorem zH{i:Nat}{v:V}{u:Um}{Q:Unit->Uv->Prop}(I:Inv X Z Y H s)(e:X.N.Nodup)(d:X.N[i]?=R x)(c:SM X.env.scope x)(r:RelV v u)
  (h:∀b,Inv X Z (Y.set i (R v)) H b->Q ⟨⟩ b) (hf:X.fn x=P\/X.env.scope.names.lookup x=R .local:=by first|show .inl W|show .inr W|assumption):wpAny a A (storeName X.env x u) Q E s:=
 wI I e d c r (λb f _=>h b f) hf
def Inv.ahw{a:Uv}{ch:G J}(I:Inv X Z Y H s)(g:a.os=s.os)(u:Un (FX X.stack) ch H U s.heap a.heap)(i:HOk X.prog X.w U a.heap)(h:AllBare a.gens)
  (d:∀b∈ch,(b∈X.ex\/X.s₀.heap.objs.size<=b)/\b≠X.env.locals/\(∀x c,X.env.cells.lookup x=R c->c≠b)/\∀p∈X.pn++Z,p.1≠b):Inv X Z Y U a:=by
 let(h',l,m,j,f):=a;let e:f=s.os:=g;subst e;show I.call (g':=l) (t':=j) (d':=m) u i h d
end
abbrev XK:=M->cv J->Hp->Prop
abbrev St:=G (cv V)
abbrev VK:=V->Hp->Prop
abbrev TE:=St->Hp->VK->Prop
abbrev TT:=St->Hp->(Bool->Hp->Prop)->Prop
abbrev TA:=St->Hp->(G V->Hp->Prop)->Prop
structure Ends where
 nx:St->Hp->Prop
 rt:VK
 bk:St->Hp->Prop:=λ_ _=>False
 ct:St->Hp->Prop:=λ_ _=>False
abbrev TS:=Ends->St->Hp->Prop
def EP(X:Cx)(a:G (J×Obj))(b:St)(Q:VK)(u:M)(d:Uv):Prop:=∃v e,Inv X a b e d/\RelV v u/\Q v e
def TP(X:Cx)(a:G (J×Obj))(d:St)(Q:Bool->Hp->Prop)(b:Bool)(e:Uv):Prop:=∃f,Inv X a d f e/\Q b f
def AP(X:Cx)(a:G (J×Obj))(b:St)(Q:G V->Hp->Prop)(us:G M)(d:Uv):Prop:=∃e f,Inv X a b f d/\Vals e us/\Q e f
def SP(X:Cx)(a:G (J×Obj))(D:Ends)(f:Flow)(b:Uv):Prop:=
 match f with
 |.next=>∃d e,Inv X a d e b/\D.nx d e
 |.brk=>∃d e,Inv X a d e b/\D.bk d e
 |.cont=>∃d e,Inv X a d e b/\D.ct d e
 |.ret u=>∃v d e,Inv X a d e b/\RelV v u/\D.rt v e
def PE(X:Cx)(e:Vr)(t:TE):Prop:=
 ∀(a:G (J×Obj)) (s:Uv) (b:St) (H:Hp) (Q:VK),Inv X a b H s->t b H Q->wpAny (model X.prog X.w) X.A (eval e X.env) (EP X a b Q) X.xe s
def PT(X:Cx)(e:Vr)(t:TT):Prop:=
 ∀(a:G (J×Obj)) (s:Uv) (b:St) (H:Hp) (Q:Bool->Hp->Prop),Inv X a b H s->t b H Q->wpAny (model X.prog X.w) X.A (isTrue e X.env (eval e X.env)) (TP X a b Q) X.xe s
def PW(X:Cx)(e:Vr)(t:TT):Prop:=
 ∀(b:Sem M) (a:G (J×Obj)) (s:Uv) (d:St) (H:Hp) (Q:Bool->Hp->Prop),Inv X a d H s->t d H Q->wpAny (model X.prog X.w) X.A (isTrue e X.env b) (TP X a d Q) X.xe s
theorem PW.pt(h:PW X e t):PT X e t:=h _
def PA(X:Cx)(e:G Vr)(t:TA):Prop:=
 ∀(d:Pos) (a:G (J×Obj)) (s:Uv) (b:St) (H:Hp) (Q:G V->Hp->Prop),Inv X a b H s->t b H Q->wpAny (model X.prog X.w) X.A (spliced (backTo d (U4 e X.env))) (AP X a b Q) X.xe s
def PS(X:Cx)(st:Xg)(t:TS):Prop:=
 ∀(a:G (J×Obj)) (s:Uv) (b:St) (H:Hp) (D:Ends),Inv X a b H s->t D b H->wpAny (model X.prog X.w) X.A (exec st X.env) (SP X a D) X.xe s
def PSs(X:Cx)(st:G Xg)(t:TS):Prop:=
 ∀(a:G (J×Obj)) (s:Uv) (b:St) (H:Hp) (D:Ends),Inv X a b H s->t D b H->wpAny (model X.prog X.w) X.A (execs st X.env) (SP X a D) X.xe s
theorem dS{α:Type}{t:Sem α}{Q b:α->Uv->Prop}{M:Model}{A:Vc}{E:Um->Uv->Prop}{s:Uv}(h:wpAny M A t Q E s)(d:∀a s,Q a s->b a s):wpAny M A t b E s:=wpAny_mono h d λ_ _ x=>x
section
variable{X:Cx}
def ET(i:Nat):TE:=λa H Q=>∃v,a[i]?=R (R v)/\Q v H
def tC(v:V):TE:=λ_ H Q=>Q v H
def Oa(q:X.N[i]?=R x)(o:Ta X.env.scope x)(hd:(x==("__debug__":Str))=Uu:=by decide)(g:(x==("__classdict__":Str))=Uu:=by decide):PE X (.Name x pos) (ET i):=by
 intro d s n H Q I h;let(v,e,h):=h;let(m,t,p):=I.loc;let(u,r,l):=p i x v q e o;let b:EP X d n Q u s:=#[v,H,I,r,h];rcases l with⟨a,hm⟩|⟨a,c,j,f⟩
 .show afV (wpAny_loadName_local I.ok.kind a t hm b) hd
 .rcases a with a|a
  .show afV (wpAny_loadName_cell I.ok.kind a j f b) hd
  .show afV (wpAny_loadName_free I.ok.kind a j f b g) hd
theorem aB{i j pos}:PE X (.Constant (.int i) j pos) (tC (.int i)):=λ_ _ _ H _ I h=>abp #[.int i,H,I.tok _,#[_,W],h]
theorem uz{b j pos}:PE X (.Constant (.bool b) j pos) (tC (.bl b)):=λ_ _ _ H _ I h=>Constant_bool #[.bl b,H,I,W,h]
theorem hG{j pos}:PE X (.Constant .none j pos) (tC .Xp):=λ_ _ _ H _ I h=>Constant_none #[.Xp,H,I,W,h]
theorem aO{x j pos}:PE X (.Constant (.str x) j pos) (tC (.str x)):=λ_ _ _ H _ I h=>Calls.Constant_str #[.str x,H,I.tok _,#[_,W],h]
def Gl(X:Cx)(x:Str):Prop:=X.env.kindOf x=R .globalImplicit
theorem tL(I:Inv X pins σ H s)(a:Gl X x)(hm:X.mg x=R u)(h:Q u s)
  (hd:(x==("__debug__":Str))=Uu:=by decide):wpAny (model X.prog X.w) X.A (eval (.Name x pos) X.env) Q E s:=
 Calls.Name_function_global I.ok.kind a (Calls.loadGlobal_global (by rw[I.ok.glob];show I.mod.glob.keeps I.bk) hm h) hd
def lA(I:Inv X pins σ H s)(b:Gl X x)(hm:X.mg x=L)(a:Vu x=R u)(h:Q u s)
  (c:x≠ "__name__":=by decide) (hd:(x==("__debug__":Str))=Uu:=by decide):wpAny (model X.prog X.w) X.A (eval (.Name x pos) X.env) Q E s:=by
 let(f,e,d):=I.mod.blt;show Calls.Name_function_global I.ok.kind b (Calls.loadGlobal_builtin (by rw[I.ok.glob];show I.mod.glob.keeps I.bk) hm (by rw[I.ok.blt];show e.keeps I.bk) ((d x c).trans a) h) hd
theorem jr{x:Str}{v:V}{u:M}{a:Pos}(b:Gl X x)(hm:X.mg x=R u)(r:RelV v u)(hd:(x==("__debug__":Str))=Uu:=by decide):PE X (.Name x a) (tC v):=
 λ_ _ _ H _ I h=>tL I b hm #[v,H,I,r,h] hd
theorem DJ(b:Gl X x)(hm:X.mg x=L)(a:Vu x=R u)(r:RelV v u)(c:x≠ "__name__":=by decide)(hd:(x==("__debug__":Str))=Uu:=by decide):PE X (.Name x pos) (tC v):=
 λ_ _ _ H _ I h=>lA I b hm a #[v,H,I,r,h] c hd
variable{a b:Vr}{Y U:TE}{Z:Pos}
def PC(X:Cx)(h:CmpOp)(a b:Vr)(t:TE):Prop:=
 ∀(d:G (J×Obj)) (s:Uv) (g:St) (H:Hp) (Q:VK),Inv X d g H s->t g H Q->
  wpAny (model X.prog X.w) X.A (eval a X.env) (λv f=>wpAny (model X.prog X.w) X.A (eval b X.env) (λu e=>wpAny (model X.prog X.w) X.A (VW h v u) (EP X d g Q) X.xe e) X.xe f) X.xe s
def tB(t:TE):TT:=λd H Q=>t d H λx e=>∃c,x=.bl c/\Q c e
def OA(h:PC X op a b t)(f:behindInMarks op b=Uu:=by first|show C _ () ()|rfl):PT X (.Compare a [op] [b] Z) (tB t):=by intro e s g H Q I j;show aeX (dS (h e s g H _ I j) λv r f=>dS f λu p l=>dS l λc o a=>?_) f;let(x,n,m,r1,i):=a;let(d,rfl,q):=i;ext r1;show VU #[n,m,q]
def ic{e:Vr}{t:TE}(h:PE X e t)(l:∀whole,isTrue e X.env whole=(do let v<-whole;standAt e.pos;holding [v] (truthy v)):=by intro _;rfl):PT X e (tB t):=by intro f s g H Q I j;show isTrue_plain (dS (h f s g H _ I j) λv o #[x,n,m,r1,i]=>?_) (l _);let(d,rfl,q):=i;ext r1;show VU #[n,m,q]
variable{S R:TT}{T:cn Vr}
def Pr(t u:TT):TT:=λd H Q=>t d H λc e=>if c=P then u d e Q else Q Uu e
def Ti(t u:TT):TT:=λd H Q=>t d H λc e=>if c=P then Q P e else u d e Q
def P0(t:TT):TT:=λd H Q=>t d H λc e=>Q (!c) e
def gU(j:PT X a S):PW X (.BoolOp .And [a] Z) S:=by
 intro g d s f H Q I h;show isTrue_and (dS (j d s f H Q I h) λc i e=>?_);cases c with
 |true=>show isTrue_and_nil e
 |false=>show e
def pE(j:PT X a S):PW X (.BoolOp .Or [a] Z) S:=by
 intro g d s f H Q I h;show isTrue_or (dS (j d s f H Q I h) λc i e=>?_);cases c with
 |false=>show isTrue_or_nil e
 |true=>show e
def je(k:PT X a S)(m:PW X (.BoolOp .And (b::T) Z) R):PW X (.BoolOp .And (a::b::T) Z) (Pr S R):=by
 intro j d s e H Q I h;show isTrue_and (dS (k d s e H _ I h) λc l a=>?_);let(i,g,f):=a;cases c with
 |true=>show m j d l e i Q g f
 |false=>show#[i,g,f]
def vK(k:PT X a S)(m:PW X (.BoolOp .Or (b::T) Z) R):PW X (.BoolOp .Or (a::b::T) Z) (Ti S R):=by
 intro j d s e H Q I h;show isTrue_or (dS (k d s e H _ I h) λc l a=>?_);let(i,g,f):=a;cases c with
 |true=>show#[i,g,f]
 |false=>show m j d l e i Q g f
def rY(g:PT X a S):PT X (.UnaryOp .Not a Z) (P0 S):=by intro d s e H Q I h;show isTrue_not (g d s e H (λc f=>Q (!c) f) I h)
def Ia(Y U:TE):TE:=λd H Q=>Y d H λx e=>∃c,x=.bl c/\if c=P then U d e Q else Q (.bl Uu) e
def NF(Y:TE):TE:=λd H Q=>Y d H λx e=>∃c,x=.bl c/\Q (.bl (!c)) e
theorem pk{op}(h:PE X a t):PE X (.BoolOp op [a] Z) t:=λd s e H Q I f=>BoolOp_one (h d s e H Q I f)
def uO(k:PE X a Y)(l:PE X (.BoolOp .And (b::T) Z) U):PE X (.BoolOp .And (a::b::T) Z) (Ia Y U):=by
 intro d s f H Q I h;show BoolOp_and (dS (k d s f H _ I h) λv j a=>?_);let(x,i,g,r1,e):=a;let(c,rfl,e):=e;ext r1;show VU ?_;cases c with
 |true=>show l d j f i Q g e
 |false=>show#[.bl Uu,i,g,W,e]
def Hv(k:PE X a Y):PE X (.UnaryOp .Not a Z) (NF Y):=by intro d s f H Q I h;show UnaryOp_ (dS (k d s f H _ I h) λv j a=>?_);let(x,i,g,r1,e):=a;let(c,rfl,e):=e;ext r1;show not_of (VU #[.bl (!c),i,g,W,e])
def S2(t:TT)(Y U:TE):TE:=λd H Q=>t d H λc e=>if c=P then Y d e Q else U d e Q
def vP(m:PT X c S)(k:PE X a Y)(n:PE X b U):PE X (.IfExp c a b Z) (S2 S Y U):=by
 intro e s f H Q I h;show wpAny_IfExp (dS (m e s f H _ I h) λd g a=>?_);let(l,j,i):=a;cases d with
 |true=>show k e g f l Q j i
 |false=>show n e g f l Q j i
end
def Yh(K:lD)(H:Hp)(a:J)(xs:G V):Prop:=
 Rd H a (.lst xs)\/
  ∃(o:Obj) (b:Array M) (n:Nat),K.lookup a=R o/\o.cls=.type "list"/\o.dict=L/\o.data=.seq b n/\b.size<=UG/\Vals xs b.toList
def X5(K:lD)(H:Hp)(a:J)(xs:G V):Prop:=
 Rd H a (.tup xs)\/
  ∃(o:Obj) (b:Array M) (n:Nat),K.lookup a=R o/\(o.cls=.type "tuple"/\o.dict=L)/\o.data=.seq b n/\b.size<=UG/\Vals xs b.toList
def SY:M->cv V
 |.none=>R .Xp
 |.bool b=>R (.bl b)
 |.int i _=>R (.int i)
 |.str x _=>R (.str x)
 |.bytes b _=>R (.byt b)
 |.float b _=>R (.flt b)
 |.ref a=>R (.ref a)
 |.type n=>R (.ty n)
 |_=>L
def RelV.abs(r:RelV x u):SY u=R x:=by
 cases x with
 |Xp=>ext r;rfl
 |bl _=>ext r;rfl
 |int _=>let(t,rfl):=r;rfl
 |str _=>let(t,rfl):=r;rfl
 |byt _=>let(t,rfl):=r;rfl
 |flt _=>let(t,rfl):=r;rfl
 |ref _=>ext r;rfl
 |ty _=>ext r;rfl
theorem RelV.inj(r:RelV x u)(q:RelV y u):x=y:=UU (r.abs.symm.trans q.abs)
theorem Vals.inj:∀{xs a:G V} {us:G M},Vals xs us->Vals a us->xs=a
 |_,_,_,.nil,.nil=>rfl
 |_,_,_,.cons r t,.cons d b=>by rw[r.inj d,Vals.inj t b]
section
variable{X:Cx}{Z:cn (Uw×Obj)}{Y:St}{H:Hp}{s:Uv}{a:Uw}{T U:cn V}
theorem Yh.of{K:lD}(h:H a=R (.lst T)):Yh K H a T:=.inl (.inl h)
theorem X5.of{K:lD}(h:H a=R (.tup T)):X5 K H a T:=.inl (.inl h)
def Inv.list(I:Inv X Z Y H s)(h:Yh X.K H a T):∃b:G M,Vals T b/\PlainL s.heap a b.toArray/\T.length<=UG:=by
 rcases h with h|⟨o,b,n,f,g,hd,d,i,r⟩
 .let(z,b,n,r,e):=h.ok I.Wf;show#[b,r,#[_,n,e,W,W,W],z]
 .show#[b.toList,r,#[o,n,I.kIn a o f,g,hd,by simpa using d],?_];let e:=r.length;simp only[Vo]at e;ext
def Inv.tuple(I:Inv X Z Y H s)(h:X5 X.K H a T):∃b:G M,Vals T b/\IsTup s.heap a b.toArray/\T.length<=UG:=by
 rcases h with h|⟨o,b,n,f,g,d,i,r⟩
 .let(z,b,r,p):=h.ok I.Wf;show#[b,r,p.tup,z]
 .show#[b.toList,r,#[o,I.kIn a o f,g.1,n,by simpa using d],?_];let e:=r.length;simp only[Vo]at e;ext
def Inv.agc(I:Inv X Z Y H s)(h:X5 X.K H a T):∃b:G M,Vals T b/\abi s.heap a b.toArray/\T.length<=UG:=by
 rcases h with h|⟨o,b,n,g,d,f,i,r⟩
 .let(z,b,r,p):=h.ok I.Wf;show#[b,r,p,z]
 .show#[b.toList,r,#[o,I.kIn a o g,#[d.1,n,by simpa using f],d.2],?_];let e:=r.length;simp only[Vo]at e;ext
def Inv.acH(I:Inv X Z Y H s)(h:Yh X.K H a T)(c:Yh X.K H a U):T=U:=by
 let(j,r,(o,n,e,_,_,d),_):=I.list h;let(b,i,(l,m,f,_,_,g),_):=I.list c;rw[e]at f;ext f;rw[d]at g;injection g with d1 _;let:j=b:=by simpa using ec afW d1
 subst this;show r.inj i
def Inv.adV(I:Inv X Z Y H s)(h:X5 X.K H a T)(c:X5 X.K H a U):T=U:=by
 let(j,r,(o,e,_,n,d),_):=I.tuple h;let(b,i,(l,f,_,m,g),_):=I.tuple c;rw[e]at f;ext f;rw[d]at g;injection g with d1 _;let:j=b:=by simpa using ec afW d1
 subst this;show r.inj i
end
abbrev Cx.abj(X:Cx)(E:M->Uv->Prop):Cx:={X with xe:=E}
abbrev Cx.nox(X:Cx):Cx:=X.abj λ_ _=>False
theorem Cx.Ok.abj{X:Cx}(ok:X.Ok)(E:M->Uv->Prop):(X.abj E).Ok:=
 #[ok.mod,ok.kind,ok.glob,ok.blt,ok.above,ok.inj,ok.has,ok.cab,ok.hd,ok.frames,ok.stk,ok.exf,ok.bs,ok.bsz,ok.adZ,ok.adT,ok.aaW,ok.frf]
theorem Cx.Ok.Za{X:Cx}(ok:(X.abj E).Ok):X.Ok:=
 #[ok.mod,ok.kind,ok.glob,ok.blt,ok.above,ok.inj,ok.has,ok.cab,ok.hd,ok.frames,ok.stk,ok.exf,ok.bs,ok.bsz,ok.adZ,ok.adT,ok.aaW,ok.frf]
section
variable{X:Cx}{Z:cn (Uw×Obj)}{Y:St}{H:Hp}{s:Uv}{E:Um->Uv->Prop}
theorem Inv.abj(I:Inv X Z Y H s)(E:M->Uv->Prop):Inv (X.abj E) Z Y H s:=#[I.ok.abj E,I.os,I.bare,I.base,I.loc,I.cell,I.free,I.aad,I.pin,I.Wf,I.len]
theorem Inv.Za(I:Inv (X.abj E) Z Y H s):Inv X Z Y H s:=#[I.ok.Za,I.os,I.bare,I.base,I.loc,I.cell,I.free,I.aad,I.pin,I.Wf,I.len]
def SP.Za(h:SP (X.abj E) Z D f s'):SP X Z D f s':=by
 cases f with
 |next=>let(a,b,I,q):=h;show#[a,b,I.Za,q]
 |brk=>let(a,b,I,q):=h;show#[a,b,I.Za,q]
 |cont=>let(a,b,I,q):=h;show#[a,b,I.Za,q]
 |ret u=>let(v,a,b,I,r,q):=h;show#[v,a,b,I.Za,r,q]
theorem PSs.nox{st:G Xg}(h:PSs X.nox st t):PSs X st t:=λZ s Y H D I a=>
 wpAny_mono (h Z s Y H D (I.abj _) a) (λ_ _ q=>q.Za) λ_ _ z=>False.elim z
end
section
variable{X:Cx}{T:Xg}{U:cn Xg}{t u:TS}{e:Vr}{Y:TE}{Z:Pos}
def J0:TS:=λD a H=>D.nx a H
def OE(t u:TS):TS:=λD a H=>t {D with nx:=u D} a H
theorem b7:PSs X [] J0:=λ_ _ a H _ I h=>aao #[a,H,I,h]
def aj(j:PS X T t)(i:PSs X U u):PSs X (T::U) (OE t u):=by
 intro a s d H D I h;show ag8 (dS (j a s d H {D with nx:=u D} I h) λf g q=>?_);cases f with
 |next=>let(b,m,l,q):=q;show i a g b m D l q
 |ret v=>show q
 |brk=>show q
 |cont=>show q
def ay(d:PS X T t):PSs X [T] t:=by
 intro a s b H D I h;show ag8 (dS (d a s b H D I h) λf g q=>?_);cases f with
 |next=>show aao q
 |ret v=>show q
 |brk=>show q
 |cont=>show q
def Inv.quiet{a:G (J×Obj)}{b:St}{H:Hp}{s:Uv}(I:Inv X a b H s):interactive X.env=Uu:=by simp[interactive,I.ok.kind]
def IP(Y:TE):TS:=λD a H=>Y a H λ_ b=>D.nx a b
def lz(g:PE X e Y)(f:Wz e L Z.line X.env=pure Uu:=by rfl):PS X (.Expr e Z) (IP Y):=by intro a s b H D I h;show wpAny_Expr_any (dS (g a s b H _ I h) λv l #[x,j,i,r1,d]=>#[b,j,i,d]) I.quiet f
def NN(Y:TE):TS:=λD a H=>Y a H D.rt
def aN(f:PE X e Y):PS X (.Return (R e) Z) (NN Y):=by intro a s b H D I h;show wpAny_Return_some (dS (f a s b H _ I h) λv j #[x,i,g,r1,d]=>#[x,b,i,g,r1,d])
def NC:TS:=λD _ H=>D.rt .Xp H
theorem Lg:PS X (.Return L Z) NC:=λ_ _ a H _ I h=>wpAny_Return_none #[.Xp,a,H,I,W,h]
def Pp(c:TT)(t u:TS):TS:=λD a H=>c a H λb d=>if b=P then t D a d else u D a d
def dR(n:PT X c C)(k:PSs X a t)(o:PSs X b u):PS X (.If c a b Z) (Pp C t u):=by
 intro f s g H D I h;show wpAny_If (dS (n f s g H _ I h) λd i a=>?_);let(m,l,j):=a;cases d with
 |true=>show k f i g m D l j
 |false=>show o f i g m D l j
def B2:TS:=λ_ _ _=>False
theorem kL:PS X T B2:=λ_ _ _ _ _ _ h=>h.elim
end
abbrev TG:=V->St->Hp->(St->Hp->Prop)->Prop
abbrev NP:=G V->St->Hp->(St->Hp->Prop)->Prop
def PG(X:Cx)(a:Vr)(t:TG):Prop:=
 ∀(b:G (J×Obj)) (s:Uv) (d:St) (H:Hp) (v:V) (u:M) (Q:St->Hp->Prop),Inv X b d H s->RelV v u->t v d H Q->
  wpAny (model X.prog X.w) X.A (assign a X.env u) (λ_ e=>∃f g,Inv X b f g e/\Q f g) X.xe s
def SI(X:Cx)(e:G Vr)(t:NP):Prop:=
 ∀(a:G (J×Obj)) (s:Uv) (b:St) (H:Hp) (h:G V) (d:G M) (Q:St->Hp->Prop),Inv X a b H s->Vals h d->t h b H Q->
  wpAny (model X.prog X.w) X.A (assignInOrder ((assignEach e X.env).map (·.2)) d) (λ_ f=>∃g i,Inv X a g i f/\Q g i) X.xe s
abbrev QQ:=V->V->V->Hp->(Hp->Prop)->Prop
def Q4(X:Cx)(t:QQ):Prop:=
 ∀(a:G (J×Obj)) (s:Uv) (b:St) (H:Hp) (o i v:V) (d e u:M) (Q:Hp->Prop),Inv X a b H s->RelV o d->RelV i e->RelV v u->t o i v H Q->
  wpAny (model X.prog X.w) X.A (setItem d e u) (λ_ f=>∃g,Inv X a b g f/\Q g) X.xe s
section
variable{X:Cx}{Z:Pos}
def zL(i:Nat):TG:=λv a H Q=>Q (a.set i (R v)) H
def aY(c:X.N.Nodup)(b:X.N[i]?=R x)(a:SM X.env.scope x)(hf:X.fn x=P\/X.env.scope.names.lookup x=R .local:=by first|show .inl W|show .inr W|assumption):PG X (.Name x Z) (zL i):=by intro pins s σ H v u Q I r h;show agH (zH I c b a r (λe d=>#[_,H,d,h]) hf)
def PB:NP:=λb a H Q=>b=[]/\Q a H
def Gu(t:TG)(u:NP):NP:=λe b H Q=>∃v r,e=v::r/\t v b H λa d=>u r a d Q
def lj:SI X [] PB:=by intro a s b H f d Q I r h;let(e,h):=h;subst e;ext r;show assignInOrder_nil #[b,H,I,h]
def eS(m:PG X e t)(l:SI X C u)
  (j:(assignEach (e::C) X.env).map (·.2)=assign e X.env::(assignEach C X.env).map (·.2):=by rfl):SI X (e::C) (Gu t u):=by
 intro a s d H y w Q I r h;let(v,q,n,h):=h;subst n;cases r with
 |cons r g=>rw[j];show assignInOrder_cons (dS (m a s d H _ _ _ I r h) λ_ f a=>?_);let(b,p,o,i):=a;show l a f b p _ _ Q o g i
def Qq(K:lD)(n:Nat)(t:NP):TG:=λv b H Q=>∃a xs,v=.ref a/\X5 K H a xs/\xs.length=n/\t xs b H Q
def ph(p:X.calm=P)(h:SI X C t)
  (c:(assignEach C X.env).length=n:=by rfl) (gj:(assignEach C X.env).findIdx? (·.1)=L:=by rfl):PG X (.Tuple C k Z) (Qq X.K n t):=by
 intro d s g H v u Q I r f;let(a,xs,q,l,m,f):=f;subst q;ext r;let(A,B,j,y):=I.tuple l;show assign_Tuple_tuple (I.ok.hd p) j (by simp[c,<-m,B.length]) gj λz i=>?_;let w:=I.kept (t':=s.toks) λb o e=>i b o (UP (c6 e)) e;show h d _ g H xs _ Q w (by simpa using B) f
def Sh(to b:TE)(t:QQ):TG:=λv a H Q=>to a H λo f=>b a f λi e=>t o i v e λd=>Q a d
def OS(n:PE X o to)(c:PE X i ti)(m:Q4 X t)
  (k:∀v,assign (.Subscript o i Z) X.env v=(do
   let U<-holding [v] (eval o X.env)
   let iv<-holding [v,U] (eval i X.env)
   standAt Z
   holding [v,U,iv] (setItem U iv v)
   release [v,U,iv] []):=by intro _;rfl):PG X (.Subscript o i Z) (Sh to ti t):=by
 intro a s b H v u Q I r h;rw[k];show Ld (Wc (dS (n a s b H _ I h) λU e a=>?_));let(x,B,w,r1,l):=a;show Ld (Wc (dS (c a e b B _ w l) λiv d a=>?_));let(y,A,q,f,j):=a;show Ld (abk (Ld (Wc (dS (m a d b A x y v U iv u _ q r1 f r j) λ_ C a=>?_))));let(z,p,g):=a;show wpAny_release #[b,z,p,g]
def Jx(b:TE)(g:TG):TS:=λD a H=>b a H λx d=>g x a d D.nx
def Ox(m:PE X e U)(l:PG X C g)(j:swapsWithSole [C] e Z.line X.env=pure Uu:=by rfl)(i:swappedStores [C] e X.env=pure L:=by rfl)
  (n:(assignEach [C] X.env).map (·.2)=[assign C X.env]:=by rfl):PS X (.Assign [C] e Z) (Jx U g):=by
 intro a s b H D I h;show wpAny_Assign_stores (dS (m a s b H _ I h) λv d a=>?_) j i;let(x,p,o,r1,f):=a;rw[n];show dS (l a d b p x v _ o r1 f) λ_ r q=>q
def cx{i:Nat}{x:Str}{e:Vr}{a:TE}{pos':Pos}(g:X.N.Nodup)(f:X.N[i]?=R x)(c:SM X.env.scope x)(he:PE X e a)(d:Wz e (R (.Name x pos')) Z.line X.env=pure Uu:=by rfl)(hf:X.fn x=P\/X.env.scope.names.lookup x=R .local:=by first|show .inl W|show .inr W|assumption):
  PS X (.Assign [.Name x pos'] e Z) (Jx a (zL i)):=by
 intro pins s σ H D I h;show wpAny_Assign_Name (dS (he pins s σ H _ I h) λv s1 a=>?_) d;let(y,H1,l,r1,b):=a;show zH l g f c r1 (λs2 j=>#[_,H1,j,b]) hf
end
section
variable{X:Cx}{Z:Pos}
def J8(c:TT)(e:TS):TS:=λD a H=>∃W:Nat->St->Hp->Prop,(∃m,W m a H)/\∀m a H,W m a H->
 c a H λb d=>if b=P then∃N:St->Hp->Prop,(∀f h,N f h->∃g,g<m/\W g f h)/\e {D with nx:=N,ct:=N,bk:=D.nx} a d else D.nx a d
def AL(q:YY (model X.prog X.w) X.A X.env X.xe)(K:PT X c U)(L:PSs X body tb):PS X (.While c body [] Z) (J8 U tb):=by
 intro d s z H D I h;let(W,(J,C),turn):=h;show wpAny_While (codeAny_whileLoop (λn G=>∃w A,Inv X d w A G/\W n w A) ?_ J #[z,H,I,C]);rintro n F ⟨e,y,M,B⟩;show Xh q (dS (K d F e y _ M (turn n e y B)) λb E a=>?_);let(u,t,j):=a;cases b with
 |true=>
  let(N,r,j):=j;rw[av rfl];show Xh q (dS (L d E e u _ t j) λf O i=>?_);cases f with
  |next=>let(a,g,p,m):=i;let(o,hm,l):=r a g m;show#[o,hm,a,g,p,l]
  |cont=>let(a,g,p,m):=i;let(o,hm,l):=r a g m;show#[o,hm,a,g,p,l]
  |brk=>show i
  |ret v=>show i
 |false=>rw[ax Ux];show aao #[e,u,t,j]
end
structure It where
 go:Nat->Hp->Prop
 yld:Nat->Hp->V->Hp->Prop
 stop:Nat->Hp->Prop
def om(X:Cx)(a:G (J×Obj))(H:Hp)(b:J):Prop:=
 H b=L/\b≠X.env.locals/\b∉X.fs/\(b∈X.ex\/X.s₀.heap.objs.size<=b)/\(∀x c,X.env.cells.lookup x=R c->c≠b)/\∀p∈X.pn++a,p.1≠b
def Inv.abQ(I:Inv X pins σ H s)(a:s.heap.objs.size<=b)(f:H' b=L):om X pins H' b:=by
 show#[f,VQ (UX I.lt a),I.ajS a,.inr (Vn I.sz a),λx c e z=>?_,λp d z=>?_]
 .let(v,q):=I.cell x c e;show bg (UX q.lt (by rw[z];show a)) (V5 _)
 .show bg (UX (c6 (I.pin p d).1) (by rw[z];show a)) (V5 _)
structure Turn(P:UY)(w:Vi)(K:lD)(tg:Vr)(J:It)(fp:G Uw)(it:Uw)(tn:Nat->Heap->Prop):Prop where
 mem:it∈fp
 obj:∀i h,tn i h->∀b∈fp,∃o,h.get? b=R o/\∀v,o.data≠.cell v
 keep:∀i h h',tn i h->(∀b∈fp,∀o,h.get? b=R o->h'.get? b=R o)->tn i h'
 item:∀(X:Cx),X.prog=P->X.w=w->X.K=K->X.calm=Uq->∀(i:Nat) (pins:G (Uw×Obj)) (s:Uv) (σ:St) (H:Hp) (E:M->Uv->Prop),Inv X pins σ H s->(∀b∈fp,om X pins H b)->tn i s.heap->J.go i H->
  wpAny (model P w) X.A (pyNext (.ref it)) (λr s1=>∃u,r=R u/\
   wpAny (model P w) X.A (letOwnedTupleGo tg (.ref it) u) (λ_ s2=>∃x H',Inv X pins σ H' s2/\RelV x u/\J.yld i H x H'/\tn (i+1) s2.heap/\∀b∈fp,H' b=L) E s1) E s
 done:∀(X:Cx),X.prog=P->X.w=w->X.K=K->X.calm=Uq->∀(i:Nat) (pins:G (Uw×Obj)) (s:Uv) (σ:St) (H:Hp) (E:M->Uv->Prop),Inv X pins σ H s->(∀b∈fp,om X pins H b)->tn i s.heap->J.stop i H->
  wpAny (model P w) X.A (pyNext (.ref it)) (λr s1=>r=L/\Inv X pins σ H s1) E s
 self:∀(A:Vc) (i:Nat) (s:Uv) (Q:M->Uv->Prop) (E:M->Uv->Prop),tn i s.heap->Q (.ref it) s->wpAny (model P w) A (pyIter (.ref it)) Q E s
abbrev TI:=St->Hp->(It->Hp->Prop)->Prop
def Td(X:Cx)(a:G (Uw×Obj))(j:St)(l:Vr)(R:It->Hp->Prop)(d:M)(g:Uv):Prop:=
 ∃(h:Uw) (i:G Uw) (f:Nat->Heap->Prop) (J:It) (e:Hp),d=.ref h/\Inv X a j e g/\Turn X.prog X.w X.K l J i h f/\f 0 g.heap/\(∀b∈i,om X a e b)/\R J e
def PI(X:Cx)(f b:Vr)(e:TI):Prop:=
 ∀(a:G (J×Obj)) (s:Uv) (d:St) (H:Hp) (R:It->Hp->Prop),Inv X a d H s->e d H R->
  wpAny (model X.prog X.w) X.A (eval b X.env) (λv g=>wpAny (model X.prog X.w) X.A (pyIter v) (Td X a d f R) X.xe g) X.xe s
def zY{M:Model}{A:Vc}{E:Um->Uv->Prop}{s:Uv}{b:Vr}{d:J}{u:Um}{o:Obj}{n:String}{c:Array Um}{Q:Unit->Uv->Prop}(e:s.heap.get? d=R o)(f:o.cls=.type n)(hd:o.data=.fields c)
  (g:["enumerate","zip","dict_itemiterator","dict_reverseitemiterator","odict_iterator","itertools.zip_longest","itertools.pairwise"].contains n=Uu) (a:Q ⟨⟩ s):wpAny M A (letOwnedTupleGo b (.ref d) u) Q E s:=by
 ext letOwnedTupleGo;ext b<;>first
  |show Uz a
  |(ext u<;>first
    |show Uz a
    |(show Ld (afX e ?_)
      rw[f,hd];show wpAny M A (if(["enumerate","zip","dict_itemiterator","dict_reverseitemiterator","odict_iterator","itertools.zip_longest","itertools.pairwise"].contains n&&c[0]? ==R (rawInt _))=P then _ else _) Q E s;rw[ax (by intro h;rw[g,aab]at h;ext h)];show Uz a))
def Tg(K:lD)(a:J):It:=
 #[λi H=>∃xs x,Yh K H a xs/\xs[i]?=R x,λi H x b=>b=H/\∀xs,Yh K H a xs->xs[i]?=R x,λi H=>∃xs,Yh K H a xs/\xs.length<=i]
def TK(K:lD)(a:J):It:=
 #[λi H=>∃xs x,X5 K H a xs/\xs[i]?=R x,λi H x b=>b=H/\∀xs,X5 K H a xs->xs[i]?=R x,λi H=>∃xs,X5 K H a xs/\xs.length<=i]
def Sz(lo:Int)(n:Nat):It:=#[λi _=>i<n,λi H x a=>a=H/\x=.int (lo+i),λi _=>n<=i]
theorem FM{K:lD}(a g:Uw):Turn Pz0 w K tg (Tg K a) [g] g (λi h=>h.IsListIter g a i) where
 mem:=by simp
 obj:=λi h f b j=>by
  let e:b=g:=by simpa using j
  subst e;let(o,e,c,d):=f;show#[o,e,λv z=>by rw[d]at z;ext z]
 keep:=λi h N f k=>f.at λo e=>k g (by simp) o e
 item:=by intro X A t B M i m s O H E I q f y;subst A t B;let(xs,x,n,r):=y;let(Vg,rv,p,S):=I.list n;let(u,U,R):=rv.get r;let(L,J,Y,G,F,C):=q g (by simp);show wpAny_pyNext_list_item f p.isList (by simpa using U) λN l Q=>?_;let I1:=I.turned (t':=s.toks) (λb o j e=>(Q.2 b j).trans e) L J G F C;let(o,e,c,d):=id l;show#[u,W,zY e c d () #[x,H,I1,R,#[W,λys T=>by rw[I.acH T n];show r],l,λb j=>(q b j).1]]
 done:=by intro X A t B M i m s O H E I q f y;subst A t B;let(xs,n,r):=y;let(Vg,rv,p,S):=I.list n;let(L,J,Y,G,F,C):=q g (by simp);let hl:=rv.length;show wpAny_pyNext_list_end (I.ok.hd M) f p.isList (by simp;ext) λN Z=>#[W,I.turned (λb o j e=>Z b o j e) L J G F C]
 self:=λ_ _ _ _ _ f h=>wpAny_pyIter_listiter f h
theorem BN{K:lD}(a g:Uw):Turn Pz0 w K tg (TK K a) [g] g (λi h=>h.IsTupleIter g a i) where
 mem:=by simp
 obj:=λi h f b j=>by
  let e:b=g:=by simpa using j
  subst e;let(o,e,c,d):=f;show#[o,e,λv z=>by rw[d]at z;ext z]
 keep:=λi h O f k=>f.at λo e=>k g (by simp) o e
 item:=by intro X A t B N i m s Q H E I q f y;subst A t B;let(xs,x,n,r):=y;let(M,rv,p,T):=I.tuple n;let(u,Y,S):=rv.get r;let(L,J,Z,G,F,C):=q g (by simp);show wpAny_pyNext_tuple_item f (show s.heap.IsTuple a M.toArray from p) (by simpa using Y) λO l R=>?_;let I1:=I.turned (t':=s.toks) (λb o j e=>(R.2 b j).trans e) L J G F C;let(o,e,c,d):=id l;show#[u,W,zY e c d () #[x,H,I1,S,#[W,λys U=>by rw[I.adV U n];show r],l,λb j=>(q b j).1]]
 done:=by intro X A t B N i m s Q H E I q f y;subst A t B;let(xs,n,r):=y;let(M,rv,p,T):=I.tuple n;let(L,J,Z,G,F,C):=q g (by simp);let hl:=rv.length;show wpAny_pyNext_tuple_end (I.ok.hd N) f (show s.heap.IsTuple a M.toArray from p) (by simp;ext) λO eb=>#[W,I.turned (λb o j e=>eb b o j e) L J G F C]
 self:=λ_ _ _ _ _ f h=>wpAny_pyIter_tupleiter f h
theorem Ct{K:lD}(f:Uw)(lo:Int)(n:Nat):Turn T w K U (Sz lo n) [f] f (λi h=>acq h f (lo+(i:Nat)*1) ((n:Int) - (i:Nat)) 1) where
 mem:=by simp
 obj:=λi h a b g=>by
  let e:b=f:=by simpa using g
  subst e;show#[_,a,λv z=>by let L:=z;ext L]
 keep:=λi h y a k=>k f (by simp) _ a
 item:=by intro X r m u q i d s J H E I l a p;subst r m u;let(G,F,Q,C,B,A):=l f (by simp);let W:=acr.range (prog:=X.prog) (w:=X.w) (I.ok.hd q) f lo 1 n;show W.item i s _ _ p a λv y M O j N=>?_;let(t,rfl):=O;let S:Inv X d J H {s with heap:=y,toks:=M}:=I.turned (λb o g e=>N b o (by simpa using g) e) G F C B A;show#[_,rfl,zY j rfl rfl () #[.int (lo+i),H,S,#[t,?_],#[rfl,rfl],j,λb g=>(l b g).1]];rw[Int.mul_one]
 done:=by intro X r m u q i d s J H E I l a p;subst r m u;let(G,F,Q,C,B,A):=l f (by simp);show aed (I.ok.hd q) a (by let:n<=i:=p;ext) λy R=>#[rfl,I.turned (λb o g e=>R b o g e) G F C B A]
 self:=λ_ _ _ _ _ a h=>aee a h
section
variable{X:Cx}{Z:Vr}
def II{a:G (J×Obj)}{d:St}{H:Hp}{s:Uv}{R:It->Hp->Prop}{E:M->Uv->Prop}{lo c:Int}{t u v:Tok}{f:Nat}(I:Inv X a d H s)(m: -(2^62)<=lo)(l:lo<2^62)(j: -(2^62)<=c)(i:c<2^62)
  (q:R (Sz lo (c - lo).toNat) H):wpAny (model X.prog X.w) X.A (pyIter (.ref s.heap.objs.size)) (Td X a d Z R) E {s with heap:=s.heap.push {cls:=.type "range",data:=.fields #v[.int lo t,.int c u,.int 1 v]},toks:=f}:=by
 show afY (IsRange.new ..) (small_one m l j i) ?_;let g:Inv X a d H {s with heap:=s.heap.push {cls:=.type "range",data:=.fields #v[.int lo t,.int c u,.int 1 v]},toks:=f}:=I.kept λb o e=>c5 _ e;show#[(s.heap.push {cls:=.type "range",data:=.fields #v[.int lo t,.int c u,.int 1 v]}).objs.size,[(s.heap.push {cls:=.type "range",data:=.fields #v[.int lo t,.int c u,.int 1 v]}).objs.size],_,_,H,W,
  g.kept (t':=f) λb o e=>c5 _ e,Ct _ lo (c - lo).toNat,?_,λb h=>?_,q]
 .let p:lo+((0:Nat):Int)*1=lo:=by simp
  let n:(((c - lo).toNat:Nat):Int) - ((0:Nat):Int)=U3.Range.rangeSize lo c 1:=by rw[rangeSize_one];split<;>ext
  show acq _ _ (lo+((0:Nat):Int)*1) ((((c - lo).toNat:Nat):Int) - ((0:Nat):Int)) 1;rw[p,n];show da _ W
 .let e:b=(s.heap.push {cls:=.type "range",data:=.fields #v[.int lo t,.int c u,.int 1 v]}).objs.size:=by simpa using h
  subst e;show g.abQ (Uy _) (g.Wf.fresh (Uy _))
def NJ(b:TA):TI:=λa H R=>b a H λe d=>∃j:Int,e=[.int j]/\ -(2^62)<=j/\j<2^62/\R (Sz 0 j.toNat) d
def eA(m:Gl X "range")(hm:X.mg "range"=L)(c:PA X [a] C)(l:U4 [a] X.env=[(Uu,eval a X.env)]:=by rfl):PI X Z (.Call (.Name "range" p) [a] [] pos) (NJ C):=by
 intro b s f H R I h;show Call_ (lA I m hm boot_range (Wk (dS (c pos b s f H _ I h) λo u #[w,v,n,r1,d]=>?_) l W));let(j,e,d,i,q):=d;subst e;cases r1 with
 |cons r g=>ext g;let(t,rfl):=r;show call_range_1 (II n () () d i (by simpa using q))
def Qc(d:TI)(g:TG)(e:TS):TS:=λD a H=>d a H λJ h=>∃W:Nat->Nat->St->Hp->Prop,(∃m,W 0 m a h)/\∀i m a H,W i m a H->
 (J.stop i H/\D.nx a H)\/(J.go i H/\∃N:St->Hp->Prop,(∀j l,N j l->∃n,n<m/\W (i+1) n j l)/\∀x l,J.yld i H x l->g x a l λb f=>e {D with nx:=N,ct:=N,bk:=D.nx} b f)
def uo(a:G J)(h:Heap):G (J×Obj):=a.filterMap λb=>(h.get? b).map λo=>(b,o)
theorem lf(a:b∈C)(e:h.get? b=R o):(b,o)∈uo C h:=WE.mpr #[b,a,by rw[e];rfl]
def E1(a:p∈uo C h):p.1∈C/\h.get? p.1=R p.2:=by
 let(b,d,e):=WE.mp a;cases q:h.get? b with
 |none=>rw[q]at e;ext e
 |some o=>rw[q]at e;let f:=UU e;subst f;show#[d,q]
theorem Inv.pinned(I:Inv X pins σ H s)(i:∀b∈fp,om X pins H b)(h:∀b∈fp,∃o,s.heap.get? b=R o/\∀v,o.data≠.cell v):Inv X (pins++uo fp s.heap) σ H s:=
 I.adK λp g=>(VF.mp g).elim (λz=>I.pin p (Vv _ z)) λz=>by let(a,e):=E1 z;let(m,l,j,_):=i p.1 a;let(o,f,d):=h p.1 a;rw[e]at f;ext f;show#[e,m,l,j,d]
theorem Inv.aaF(I:Inv X (pins++pl) σ H s):Inv X pins σ H s:=I.adK λp a=>I.pin p (Vv _ (ads _ a))
def rC(L:YY (model X.prog X.w) X.A X.env X.xe)(c:X.calm=Uq)(V:PI X Z iter wi)(hg:PG X Z g)(p:PSs X body tb)
  (k:∀x,foldedSetIterable iter X.env x=pure x:=by intro _;rfl):PS X (.For Z iter body [] pos) (Qc wi g tb):=by
 intro j s σ H D I h;show wpAny_For (dS (V j s σ H _ I h) λv s1 h1=>dS h1 λitv s2 h2=>?_) k;let(it,O,tn,J,H2,e,I2,T,R,f2,W,(m0,w0),turn):=h2;subst e;let E:∀{z:Hp},(∀b∈O,z b=CL)->∀b∈O,om X j z b:=λhn b p=>#[hn b p,(f2 b p).2];show codeAny_forLoop_any (λn s'=>∃i w z,Inv X j w z s'/\tn i s'.heap/\(∀b∈O,z b=CL)/\W i n w z) ?_ m0 #[0,σ,H2,I2,R,λb p=>(f2 b p).1,w0];rintro n s3 ⟨i,l,P,I3,G,M,w3⟩;rcases turn i n l P w3 with⟨F,qn⟩|⟨go,N,hN,step⟩
 .show Xh L (dS (T.done X rfl rfl rfl c i j s3 l P X.xe I3 (E M) G F) λr s4 #[U,I4]=>?_);subst U;show aao #[l,P,I4,qn]
 .show Xh L (dS (T.item X rfl rfl rfl c i j s3 l P X.xe I3 (E M) G go) λr s4 #[u,U,h4]=>?_)
  subst U;show Xh L (dS h4 λ_ s5 a=>?_);let(x,H5,I5,r5,y5,C,Y):=a;let A:=I5.pinned (E Y) (T.obj _ _ C);show Xh L (dS (hg _ s5 l H5 x u _ A r5 (step x H5 y5)) λ_ s6 a=>?_);let(Q,H6,I6,q6):=a;show Xh L (dS (p _ s6 Q H6 _ I6 q6) λf S B=>?_);let q:∀{a:St} {y:Hp},Inv X (j++uo O s5.heap) a y S->N a y->∃m,m<n/\∃i w z,Inv X j w z S/\tn i S.heap/\(∀b∈O,z b=CL)/\W i m w z:=λ{a y} t K=>by let(m',hm,w7):=hN a y K;show#[m',hm,i+1,a,y,t.aaF,T.keep _ _ _ C λb p o e=>(t.pin (b,o) (Vv _ (Vv _ (lf p e)))).1,λb p=>?_,w7];let(o,e,d):=T.obj _ _ C b p;show(t.pin (b,o) (Vv _ (Vv _ (lf p e)))).2.1
  cases f with
  |next=>let(a,y,t,K):=B;show q t K
  |cont=>let(a,y,t,K):=B;show q t K
  |brk=>let(a,y,t,B):=B;show#[a,y,t.aaF,B]
  |ret v=>let(x7,a,y,t,r7,B):=B;show#[x7,a,y,t.aaF,r7,B]
end
abbrev R2:=V->V->Hp->VK->Prop
def OpR(X:Cx)(f:M->M->Sem M)(r:R2):Prop:=
 ∀(a:G (J×Obj)) (s:Uv) (b:St) (H:Hp) (x y:V) (v u:M) (Q:VK),Inv X a b H s->RelV x v->RelV y u->r x y H Q->
  wpAny (model X.prog X.w) X.A (f v u) (EP X a b Q) X.xe s
def S3(X:Cx)(f:M->Sem M)(r:V->Hp->VK->Prop):Prop:=
 ∀(a:G (J×Obj)) (s:Uv) (b:St) (H:Hp) (x:V) (v:M) (Q:VK),Inv X a b H s->RelV x v->r x H Q->
  wpAny (model X.prog X.w) X.A (f v) (EP X a b Q) X.xe s
def W6(X:Cx)(f:M)(r:G V->Hp->VK->Prop):Prop:=
 ∀(a:G (J×Obj)) (s:Uv) (b:St) (H:Hp) (xs:G V) (d:G M) (Q:VK),Inv X a b H s->Vals xs d->r xs H Q->
  wpAny (model X.prog X.w) X.A (call f d) (EP X a b Q) X.xe s
def Pi(r:R2)(d b:TE):TE:=λa H Q=>d a H λx f=>b a f λy e=>r x y e Q
def TR(r:V->Hp->VK->Prop)(b:TE):TE:=λa H Q=>b a H λx d=>r x d Q
def rI(C:Int->Int->Prop)(g:Int->Int->V):R2:=λx y H Q=>∃i j,x=.int i/\y=.int j/\C i j/\Q (g i j) H
def zv(g:Int->Int->V):R2:=λx y H Q=>∃i j,x=.int i/\y=.int j/\Q (g i j) H
def rU(g:Int->V):V->Hp->VK->Prop:=λx H Q=>∃i,x=.int i/\Q (g i) H
section
variable{X:Cx}{a b c:Vr}{Z U T:TE}{Y:Pos}
def Ot(q:PE X a Z)(l:PE X b U){R:V->V->Hp->Prop}(I:Inv X pins σ H s)
  (h:Z σ H λx H1=>U σ H1 λy k=>R x y k) {f:M->M->Sem M}
  (j:∀v u s2 x y k,Inv X pins σ k s2->RelV x v->RelV y u->R x y k->wpAny (model X.prog X.w) X.A (f v u) Q X.xe s2):
  wpAny (model X.prog X.w) X.A (eval a X.env) (λv p=>wpAny (model X.prog X.w) X.A (eval b X.env) (λu o=>wpAny (model X.prog X.w) X.A (f v u) Q X.xe o) X.xe p) X.xe s:=by
 show dS (q pins s σ H _ I h) λv d a=>?_;let(x,H1,n,r1,i):=a;show dS (l pins d σ H1 _ n i) λu s2 a=>?_;let(y,k,m,e,g):=a;show j v u s2 x y k m r1 e g
def dB(j:OpR X (Wj op) r)(k:PE X a Z)(l:PE X b U):PE X (.BinOp a op b Y) (Pi r Z U):=by intro d s e H Q I h;show wpAny_BinOp (Ot k l I h λv u f x y n m i g q=>j d f e n x y v u Q m i g q)
def Nl(i:S3 X (unaryOp op) r)(k:PE X a Z):PE X (.UnaryOp op a Y) (TR r Z):=by intro d s e H Q I h;show UnaryOp_ (dS (k d s e H _ I h) λv f #[x,l,j,r1,g]=>i d f e l x v Q j r1 g)
def QE{g:Int->Int->Int}
  (d:∀(i j:Int) (t u:Tok) (s:Uv) (Q:M->Uv->Prop) (E:M->Uv->Prop),C i j->Q (.int (g i j) s.toks) {s with toks:=s.toks+1}->wpAny (model X.prog X.w) X.A (f (.int i t) (.int j u)) Q E s):
  OpR X f (rI C λi j=>.int (g i j)):=by
 intro e s p H x y v u Q I n m h;let(i,j,rfl,rfl,o,q):=h;let(t,rfl):=n;let(l,rfl):=m;show d i j t l s _ _ o #[.int (g i j),H,I.tok _,#[_,W],q]
def Ky{g:Int->Int->Int}
  (d:∀(i j:Int) (t u:Tok) (s:Uv) (Q:M->Uv->Prop) (E:M->Uv->Prop),Q (.int (g i j) s.toks) {s with toks:=s.toks+1}->wpAny (model X.prog X.w) X.A (f (.int i t) (.int j u)) Q E s):
  OpR X f (zv λi j=>.int (g i j)):=by
 intro e s o H x y v u Q I n m h;let(i,j,rfl,rfl,q):=h;let(t,rfl):=n;let(l,rfl):=m;show d i j t l s _ _ #[.int (g i j),H,I.tok _,#[_,W],q]
def Oi{g:Int->Int->Bool}
  (d:∀(i j:Int) (t u:Tok) (s:Uv) (Q:M->Uv->Prop) (E:M->Uv->Prop),Q (.bool (g i j)) s->wpAny (model X.prog X.w) X.A (f (.int i t) (.int j u)) Q E s):
  OpR X f (zv λi j=>.bl (g i j)):=by
 intro e s o H x y v u Q I n m h;let(i,j,rfl,rfl,q):=h;let(t,rfl):=n;let(l,rfl):=m;show d i j t l s _ _ #[.bl (g i j),H,I,W,q]
def HD(i j:Int):Prop:=0<=j/\j<=1000000/\i.natAbs<2^64
def afp(i j:Int):Prop:=(-(2^64)<i/\i<2^64)\/(-(2^64)<j/\j<2^64)
def afp.ok(h:afp i j):IntMulOk i j:=by
 rcases h with⟨e,d⟩|⟨e,d⟩
 .show .of_left (akJ e d)
 .show .of_right (akJ e d)
def two_pow_nn(k:Nat):(0:Int)<=2^k:=by rw[two_pow_cast];show Int.natCast_nonneg _
theorem Pf:OpR X (Wj .Add) (zv λi j=>.int (i+j)):=Ky λ_ _ _ _ _ _ _ q=>add_int q
theorem Il:OpR X (Wj .Sub) (zv λi j=>.int (i - j)):=Ky λ_ _ _ _ _ _ _ q=>sub_int q
theorem Qd:OpR X (Wj .Mult) (rI afp λi j=>.int (i*j)):=QE λ_ _ _ _ _ _ _ d q=>mul_int q d.ok
theorem NY:OpR X (Wj .Mod) (rI (λ_ j=>0<j) λi j=>.int (i % j)):=QE λi j _ _ _ _ _ d q=>by let e:(0:Int)<j:=d;show mod_int' () (by rw[Int.fmod_eq_emod_of_nonneg i ()];show q)
theorem HB:OpR X (Wj .Pow) (rI HD λi j=>.int (i^j.toNat)):=QE λ_ _ _ _ _ _ _ d q=>pow_int_small d.1 d.2.1 d.2.2 q
theorem Kb:OpR X (Wj .LShift) (rI HD λi j=>.int (i*2^j.toNat)):=QE λ_ _ _ _ _ _ _ d q=>lshift_int_small d.1 d.2.1 d.2.2 q
theorem xQ:OpR X (Wj .RShift) (rI (λ_ j=>0<=j) λi j=>.int (i/2^j.toNat)):=QE λi j _ _ _ _ _ d q=>
 rshift_int d (by rw[ab0 i (two_pow_nn _)];show q)
theorem yu:OpR X (Wj .BitAnd) (zv λi j=>.int (U3.bitAnd i j)):=Ky λ_ _ _ _ _ _ _ q=>and_int q
theorem Q1:OpR X (Wj .BitOr) (zv λi j=>.int (U3.bitOr i j)):=Ky λ_ _ _ _ _ _ _ q=>or_int q
def T9{g:Int->Int}
  (d:∀(i:Int) (t:Tok) (s:Uv) (Q:M->Uv->Prop) (E:M->Uv->Prop),Q (.int (g i) s.toks) {s with toks:=s.toks+1}->wpAny (model X.prog X.w) X.A (f (.int i t)) Q E s):
  S3 X f (rU λi=>.int (g i)):=by
 intro e s l H x v Q I j h;let(i,rfl,q):=h;let(t,rfl):=j;show d i t s _ _ #[.int (g i),H,I.tok _,#[_,W],q]
theorem GU:S3 X (unaryOp .USub) (rU λi=>.int (-i)):=T9 λ_ _ _ _ _ q=>neg_int q
end
section
variable{X:Cx}{a b c:Vr}{Y Z T:TE}{U:Pos}
def xZ(I:Inv X pins σ H s)(q:Q (.bl k) H)(e:k=o):EP X pins σ Q (.bool o) s:=by subst e;show#[.bl k,H,I,W,q]
theorem sB:OpR X (VW .Lt) (zv λi j=>.bl (decide (i<j))):=Oi λ_ _ _ _ _ _ _ q=>lt_int q
theorem vF:OpR X (VW .LtE) (zv λi j=>.bl (decide (i<=j))):=Oi λ_ _ _ _ _ _ _ q=>le_int q
theorem RL:OpR X (VW .Gt) (zv λi j=>.bl (decide (j<i))):=Oi λ_ _ _ _ _ _ _ q=>gt_int q
def Fa:OpR X (VW .In) (λx y H Q=>∃i j,x=.str i/\y=.str j/\Q (.bl (!(U3.Str.occurrences j i 0 j.length 1).isEmpty)) H):=by intro d s g H x y v u Q I f e h;let(i,j,rfl,rfl,q):=h;let(t,rfl):=f;let(l,rfl):=e;show in_str (xZ I q W)
def zd:OpR X (VW .Is) (λx y H Q=>y=.Xp/\Q (.bl (decide (x=.Xp))) H):=by
 intro e s g H x y v u Q I d f h;let(rfl,q):=h;ext f;show is_none_gen (xZ I q ?_);ext x<;>first
  |(ext d;rfl)
  |(let(t,rfl):=d;rfl)
def tV:OpR X (VW .IsNot) (λx y H Q=>y=.Xp/\Q (.bl (!decide (x=.Xp))) H):=by
 intro e s g H x y v u Q I d f h;let(rfl,q):=h;ext f;show isnot_none_gen (xZ I q ?_);ext x<;>first
  |(ext d;rfl)
  |(let(t,rfl):=d;rfl)
def bF(b:Vr)(h:op≠.In:=by decide)(d:op≠.NotIn:=by decide):behindInMarks op b=Uu:=by
 let f:(op==CmpOp.In)=Uu:=by ext op<;>first|rfl|show bg W h
 let e:(op==CmpOp.NotIn)=Uu:=by ext op<;>first|rfl|show bg W d
 ext b<;>simp[behindInMarks,f,e]
def fG{e:CmpOp}{r:R2}(l:OpR X (VW e) r)(k:PE X a Y)(m:PE X b Z)(hm:behindInMarks e b=Uu):PE X (.Compare a [e] [b] U) (Pi r Y Z):=by intro d s f H Q I h;show wpAny_Compare1 (Ot k m I h λv u g x y o n j i q=>l d g f o x y v u Q n j i q) hm
def Ep(t:TE):TT:=λd H Q=>t d H λx e=>∃k,x=.bl k/\Q k e
def aW(p:OpR X (VW op) r)(D:PE X a Y)(q:PE X b Z)(hm:behindInMarks op b=Uu):PT X (.Compare a [op] [b] U) (Ep (Pi r Y Z)):=by
 intro d s f H Q I h;show aeX (dS (D d s f H _ I h) λv i #[x,E,A,r1,o]=>dS (q d i f E _ A o) λu g #[y,C,w,l,n]=>
  dS (p d g f C x y v u _ w r1 l n) λc F a=>?_) hm;let(z,B,t,j,k,e,m):=a
 subst e;ext j;show VU #[B,t,m]
def BV(r g:R2)(Y Z T:TE):TE:=λd H Q=>Y d H λx j=>Z d j λy i=>r x y i λz e=>∃k,z=.bl k/\
 (if k=P then T d e λf h=>g y f h Q else Q (.bl Uu) e)
def kU(J:OpR X (VW op) r)(i:OpR X (VW op') r')(D:PE X a Y)(L:PE X b Z)(K:PE X c T)
  (hm:lastMarks [op,op'] [b,c]=Uu:=by with_unfolding_all rfl):PE X (.Compare a [op,op'] [b,c] U) (BV r r' Y Z T):=by
 intro f s g H Q I h;show Compare_chain (dS (D f s g H _ I h) λv A #[x,S,O,r1,G]=>chain_link (dS (L f A g S _ O G) λu w #[y,R1,N,j,F]=>
  dS (J f w g R1 x y v u _ N r1 j F) λd t a=>?_)) hm;let(z,n,m,C,k,e,l):=a
 subst e;ext C;show VU ?_;cases k with
 |false=>show ite_ff #[.bl Uu,n,m,W,l]
 |true=>show ite_tt (chain_last (dS (K f t g n _ m l) λp q #[o,Pz0,Mz0,B,E]=>i f q g Pz0 y o u p Q Mz0 j B E))
def Ag(M:OpR X (VW op) r)(i:OpR X (VW op') r')(D:PE X a Y)(O:PE X b Z)(N:PE X c T)
  (hm:lastMarks [op,op'] [b,c]=Uu:=by with_unfolding_all rfl):PT X (.Compare a [op,op'] [b,c] U) (Ep (BV r r' Y Z T)):=by
 intro f s g H Q I h;show isTrue_chain (dS (D f s g H _ I h) λv A #[x,H1,I1,r1,K]=>test_link (dS (O f A g H1 _ I1 K) λu w #[y,H2,I2,j,J2]=>
  dS (M f w g H2 x y v u _ I2 r1 j J2) λd t a=>?_)) hm;let(z,n,m,E,k,e,l):=a
 subst e;ext E;show VU ?_;cases k with
 |false=>let(k',R,L):=l;ext R;show ite_ff #[n,m,L]
 |true=>show ite_tt (test_last (dS (N f t g n _ m l) λp q #[o,H4,I4,C,G]=>dS (i f q g H4 y o u p _ I4 j C G) λd' s5 a=>?_));let(z2,H5,S,B,k2,Pz0,F):=a;subst Pz0;ext B;show VU #[H5,S,F]
def rj:(UG:Nat)<2^63:=by rw[Zs];decide
def c9:OpR X (Wj .Add) (λx y H Q=>∃i j,x=.str i/\y=.str j/\i.length+j.length<=UG/\Q (.str (i++j)) H):=by intro d s m H x y v u Q I g f h;let(i,j,rfl,rfl,l,q):=h;let(t,rfl):=g;let(e,rfl):=f;show add_str (λe n=>#[.str (i++j),H,I.tok _,#[_,W],q]) l
def ie(r:Vals [x] us):∃u,us=[u]/\RelV x u:=by
 cases r with
 |cons r1 d=>ext d;show#[_,W,r1]
def Nb(r:Vals [x,y] us):∃u g,us=[u,g]/\RelV x u/\RelV y g:=by
 cases r with
 |cons r1 f=>
  cases f with
  |cons e d=>ext d;show#[_,_,W,r1,e]
def kY:W6 X (.type "int") (λxs H Q=>(∃i,xs=[.int i]/\Q (.int i) H)\/∃k,xs=[.bl k]/\Q (.int (if k then 1 else 0)) H):=by
 intro d s e H xs f Q I r h;rcases h with⟨i,rfl,q⟩|⟨k,rfl,q⟩
 .let(u,rfl,t,rfl):=ie r;show call_int_int #[.int i,H,I,#[_,W],q]
 .let(u,rfl,r1):=ie r;ext r1;show call_int_bool #[.int (if k then 1 else 0),H,I.tok _,#[_,W],q]
def cW:W6 X (.type "str") (λxs H Q=>∃i,xs=[.int i]/\i.natAbs.log2<1920/\Q (.str (toString i)) H):=by intro d s f H xs g Q I r h;let(i,rfl,e,q):=h;let(u,rfl,t,rfl):=ie r;show PySem.P.str_of_int e #[.str _,H,I.tok _,#[_,W],q]
def On(K:lD)(x:V)(H:Hp)(n:Nat):Prop:=
 match x with
 |.str y=>y.length<=UG/\n=y.length
 |.byt y=>y.size<=UG/\n=y.size
 |.ref p=>(∃xs,Yh K H p xs/\n=xs.length)\/∃xs,X5 K H p xs/\n=xs.length
 |_=>False
def fO:W6 X (.builtin "len") (λxs H Q=>∃x n,xs=[x]/\On X.K x H n/\Q (.int n) H):=by
 intro l s w H xs z Q I r h;let(x,n,rfl,e,q):=h;let(u,rfl,g):=ie r;let B:=rj;let A:=Zs;cases x with
 |str y=>let(t,rfl):=g;let(o,f):=e;subst f;show len_str () #[.int _,H,I.tok _,#[_,W],q]
 |byt y=>let(t,rfl):=g;let(o,f):=e;subst f;show PySem.W.len_bytes () #[.int _,H,I.tok _,#[_,W],q]
 |ref p=>
  ext g;let f:=e;rcases f with⟨xs,j,f⟩|⟨xs,j,f⟩
  .subst f;let(v,i,pl,m):=I.list j;let d:=i.length;show Calls.call_len_list pl.isList (by simp only[UE];ext) #[.int xs.length,H,I.tok _,#[_,by simp only[UE];rw[d]],q]
  .subst f;let(v,i,pl,m):=I.tuple j;let d:=i.length;show len_tuple pl (by simp only[UE];ext) #[.int xs.length,H,I.tok _,#[_,by simp only[UE];rw[d]],q]
 |_=>show(show False from e).elim
end
structure adp(h:Heap)(x dx C:J)(mA:Str->cv M):Prop where
 obj:h.get? x=R (WI C dx)
 ns:h.Ns1 dx mA
 ne:dx≠x
def EB{h:Heap}(n:h.Ns1 I C):∃c,h.get? I=R c/\∀name,ZA name c=R (C name):=by
 let(o,d,m,g,j,i,_,hm):=n;show#[o,g,λname=>?_];let e:=hm name;unfold nsFind findBy at e;rw[<-Array.find?_toList]at e;ext ZA;rw[j];dsimp only;split
 .rename_i y q;rw[q]at e;show ec R e
 .rename_i q
  rw[q]at e;let a:d.toList.any (·.refKey)=Uu:=by rw[List.any_eq_false];intro y f;let(z,t,b):=i y (Array.mem_toList_iff.mp f);simp[aa1.refKey,b]
  let l:¬d.toList.any (·.refKey)=P:=by rw[a];show Ux
  rw[ax l];show ec R e
theorem adp.look(I:adp h x dx C mA):∃a,PySem.W.InstAt h x (WI C dx) C (R a)/\∀name,ZA name a=R (mA name):=
 let#[a,b,d]:=EB I.ns
 #[a,#[I.obj,W,W,b],d]
section
variable{T:UY}{w:Vi}{A:Vc}{E:Um->Uv->Prop}{s:Uv}{K:lD}{x Y C f:Uw}{Z:Str->cv Um}{U:Str}{v:Um}
def LZ(X:K.In s.heap)(I:adp s.heap x Y C Z)(g:XO K C U=P)(e:Yy K C=P)
  (c:Vw K (.ref C) U=R L) (b:Z U=R v) (a:adO v=P) (h:Q v {s with toks:=s.toks+1}):
  wpAny (model T w) A (getAttr (.ref x) U expr) Q E s:=by
 let(i,J,d):=I.look;show PySem.W.get_value X J (Z0 g).1 (PySem.W.findObj_own e c W (by rw[d,b])) a h
def JV(X:K.In s.heap)(I:adp s.heap x Y C Z)(a:XO K C U=P)
  (i:Vw K (.ref C) U=R (R (.ref f))) (e:aav K (.ref f)=P) (d:Z U=L) (h:Q (.ref f,[.ref x]) s):
  wpAny (model T w) A (getMethod (.ref x) U pl) Q E s:=by
 let(b,J,g):=I.look;show PySem.W.method_fn X J (Z0 a).1 (Z0 a).2 i (beq_iff_eq.mp e) (by show(ZA U b).map (·.isSome)=R Uu;rw[g,d];rfl) h
def Lp(X:K.In s.heap)(I:adp s.heap x Y C Z)
  (o:Vw K (.ref C) "__setattr__"=R (R (.builtin "object.__setattr__"))) (p:aaw K C=P) (n:abd K C U=R L) (q:Yy K C=P)
  (m:acz Z ns) (k:ns.length<=UG)
  (h:∀c,adp c x Y C (λy=>if y=U then R v else Z y)->Heap.SameBut Y s.heap c->Q ⟨⟩ {s with heap:=c,toks:=s.toks+2}):
  wpAny (model T w) A (setAttr (.ref x) U v) Q E s:=by
 let(z,J,F):=I.look;show PySem.W.set_plain X J o (PySem.W.osa_open X J p n λb=>?_);let(G,r,g):=PySem.W.any_some q;let l:=I.obj;show Ld (Uz (Ld (Ld (wpAny_loadPart l (Ld (ag9 (PySem.W.looks_clsIn X r) ?_))))));rw[g];show Uz (Ld (Uz (Ld ?_)));show wpAny_nsSet1 I.ns λc a j=>?_;let(B,t,u,d,e,i):=a.count (ah8 U v m);show Ld (wpAny_lookBehind d (by rw[e];show pastItsLine_dict (Vn i (by rw[UL];ext))) ?_);show Uz (h _ #[(j.2 _ (d0 I.ne)).trans I.obj,a,I.ne] j)
def JP{R:ac0->Uv->Prop}{c:G M}{b:G (Str×M)}(X:K.In s.heap)(hm:abe K C=P)
  (k:Vw K (.ref C) "__init__"=cL (cL (.ref f))) (e:PySem.W.typeIn K (.ref f)=cL (.type "function"))
  (h:codeAny (model T w) (A.under (.builtin "type.__call__" #[.ref C::c,b])) (.call (.ref f) #[.ref (s.heap.objs.size+1)::c,b]) (PySem.W.InitBack (s.heap.objs.size+1) R)
   {s with heap:=(s.heap.push V1).push (WI C s.heap.objs.size)}):
  codeAny (model T w) A (.call (.ref C) #[c,b]) R s:=by
 let(j,g,d,t,i):=s;show PySem.W.make_core (PySem.W.makes_of X hm) (PySem.W.looks_findIn X k) (λa=>PySem.W.bind_fn X a e) (.inl W) h
end
def kO(f:Str)(v:V):G (Str×V)->G (Str×V)
 |[]=>[(f,v)]
 |(g,x)::r=>if g=f then(g,v)::r else(g,x)::kO f v r
theorem sJ(f g:Str)(v:V):∀fs:G (Str×V),(kO f v fs).lookup g=if g=f then R v else fs.lookup g
 |[]=>by
  show XY g [(f,v)]=_;by_cases h:g=f
  .let a:=beq_iff_eq.mpr h;simp only[XY,a,av h]
  .let a:=beq_eq_false_iff_ne.mpr h;simp only[XY,a,ax h]
 |(k,x)::r=>by
  let d:=sJ f g v r;rw[show kO f v ((k,x)::r)=(if k=f then(k,v)::r else(k,x)::kO f v r)from rfl];by_cases b:k=f
  .rw[av b]
   by_cases h:g=k
   .let a:=beq_iff_eq.mpr h;simp only[XY,a,av (h.trans b)]
   .let a:=beq_eq_false_iff_ne.mpr h;simp only[XY,a,ax (λe:g=f=>h (e.trans b.symm))]
  .rw[ax b]
   by_cases h:g=k
   .let a:=beq_iff_eq.mpr h;simp only[XY,a,ax (λe:g=f=>b (h.symm.trans e))]
   .let a:=beq_eq_false_iff_ne.mpr h;simp only[XY,a];show d
theorem rQ(f:Str)(v:V):∀fs:G (Str×V),f∈(kO f v fs).map (·.1)/\∀g,g∈fs.map (·.1)->g∈(kO f v fs).map (·.1)
 |[]=>#[by simp[kO],λg h=>by simp at h]
 |(k,x)::r=>by
  let(d,b):=rQ f v r;rw[show kO f v ((k,x)::r)=(if k=f then(k,v)::r else(k,x)::kO f v r)from rfl];by_cases a:k=f
  .rw[av a];subst a;show#[by simp,λg h=>by simpa using h]
  .rw[ax a]
   show#[?_,λg h=>?_]
   .rw[UM];show UC _ d
   .rw[UM]at h⊢
    rcases UJ.mp h with e|e
    .show UJ.mpr (.inl e)
    .show UC _ (b g e)
theorem sI(f:Str)(v:V):∀fs:G (Str×V),(kO f v fs).length<=fs.length+1
 |[]=>by simp[kO]
 |(k,x)::r=>by
  let b:=sI f v r;rw[show kO f v ((k,x)::r)=(if k=f then(k,v)::r else(k,x)::kO f v r)from rfl];by_cases a:k=f
  .rw[av a,UL,UL];ext
  .rw[ax a,UL,UL];ext
def ZI.some_of(r:ZI (R v) o):∃u,o=R u/\RelV v u:=by
 cases o with
 |none=>show(show False from r).elim
 |some u=>show#[u,W,r]
def ZI.none_of(r:ZI L o):o=L:=by
 cases o with
 |none=>rfl
 |some u=>show(show False from r).elim
def Fo(r:RelV v u):adO u=P:=by
 cases v with
 |Xp=>cases(show u=Um.none from r);rfl
 |bl b=>cases(show u=Um.bool b from r);rfl
 |int i=>let(t,e):=(show∃t,u=Um.int i t from r);ext e;rfl
 |str x=>let(t,e):=(show∃t,u=Um.str x t from r);ext e;rfl
 |byt b=>let(t,e):=(show∃t,u=Um.bytes b t from r);ext e;rfl
 |flt b=>let(t,e):=(show∃t,u=Um.float b t from r);ext e;rfl
 |ref a=>cases(show u=Um.ref a from r);rfl
 |ty n=>cases(show u=Um.type n from r);rfl
section
variable{P:UY}{w:Vi}{H X:Hp}{h U:Heap}{a C Z:Uw}{fs Y:cn (Str×V)}
def xU(g:HOk P w H h)(e:H a=R (.ins C Z fs)):∃c,adp h a Z C c/\(∀f,ZI (fs.lookup f) (c f))/\acz c (fs.map (·.1))/\fs.length<=1000/\H Z=R (.own a):=by let(d,z,ne,b,c,n,r,q):=(show ObjOk P w H h a (.ins C Z fs)from g a _ e);show#[c,#[b,n,ne],r,q,z,d]
end
structure Cls(K:lD)(C:J):Prop where
 pg:XO K C Str.empty=P
 hd:Yy K C=P
 po:aaw K C=P
 sa:Vw K (.ref C) "__setattr__"=R (R (.builtin "object.__setattr__"))
theorem Cls.get{K:lD}(c:Cls K C)(f:Str):XO K C f=P:=c.pg
def ZJ(K:lD)(C:J)(f:Str):Prop:=Vw K (.ref C) f=R L
def ZJ.ah3{K:lD}(n:ZJ K C f):abd K C f=R L:=by ext abd;rw[show Vw K (.ref C) f=R L from n];rfl
structure Con(K:lD)(C:J)(f:Str)(v:V)(u:M):Prop where
 at_:Vw K (.ref C) f=R (R u)
 rel:RelV v u
 get:adt K u "__get__"=R L
 cp:PySem.W.copiedNames.contains f=Uu
structure Meth(K:lD)(C:J)(m:Str)(f:J):Prop where
 at_:Vw K (.ref C) m=R (R (.ref f))
 fn:aav K (.ref f)=P
 kp:WQ K (.ref f)=P
section
variable{X:Cx}{Z:cn (Uw×Obj)}{Y:St}{H:Hp}{s:Uv}{a C U:Uw}{fs:cn (Str×V)}{f:Str}{v:V}{A:Vc}{E:Um->Uv->Prop}
def Cr(I:Inv X Z Y H s)(e:H a=R (.ins C U fs))(c:Cls X.K C)(n:ZJ X.K C f)(l:fs.lookup f=R v)
  (h:∀u j,Inv X Z Y H j->RelV v u->Q u j):wpAny (model X.prog X.w) A (getAttr (.ref a) f b) Q E s:=by
 let(i,O,r,_,_,_):=xU I.Wf e;let(u,g,d):=ZI.some_of (by rw[<-l];show r f);show LZ I.kIn O (c.get f) c.hd n g (Fo d) (h u _ (I.tok _) d)
def uc(I:Inv X Z Y H s)(e:H a=R (.ins C U fs))(c:Cls X.K C)(k:Meth X.K C m g)(l:fs.lookup m=L)
  (h:Q (.ref g,[.ref a]) s):wpAny (model X.prog X.w) A (getMethod (.ref a) m pl) Q E s:=by
 let(b,O,r,_,_,_):=xU I.Wf e;let d:=ZI.none_of (by rw[<-l];show r m);show JV I.kIn O (c.get m) k.at_ k.fn d h
def Cc(I:Inv X Z Y H s)(e:H a=R (.ins C U fs))(c:Cls X.K C)(n:ZJ X.K C f)(L:fs.length<1000)(p:RelV y u)
  (h:∀k,Inv X Z Y (cy H a (.ins C U (kO f y fs))) k->Q ⟨⟩ k):wpAny (model X.prog X.w) A (setAttr (.ref a) f u) Q E s:=by
 let(j,O,r,i,_,l):=xU I.Wf e;let t:(fs.map (·.1)).length<=UG:=by rw[Ur,Zs];ext
 show Lp I.kIn O c.sa c.po n.ah3 c.hd i t λJ d m=>h _ ?_;let F:∃o,J.get? U=R o:=let#[o,_,_,w,_]:=d.ns;#[o,w]
 show I.write (by rw[e];show True.intro) (.inr l) (λb q G z=>(m.2 b G).trans z) F ?_;show#[by rw[bG O.ne];show l,?_,O.ne,d.obj,_,d.ns,λg=>?_,λg B=>?_]
 .let:=sI f y fs;ext
 .show ZI ((kO f y fs).lookup g) (if g=f then R u else j g)
  rw[sJ];by_cases q:g=f
  .rw[av q,av q];show p
  .rw[ax q,ax q];show r g
 .by_cases q:g=f
  .rw[q];show(rQ f y fs).1
  .show(rQ f y fs).2 g (i g λz=>B ?_);show(if g=f then R u else j g)=CL;rw[ax q];show z
def Inv.made(I:Inv X Z Y H s):Inv X Z Y (cy (cy H s.heap.objs.size (.own (s.heap.objs.size+1))) (s.heap.objs.size+1) (.ins C s.heap.objs.size []))
  {s with heap:=(s.heap.push V1).push (WI C s.heap.objs.size)}:=by
 let d:(s.heap.push V1).get? s.heap.objs.size=R V1:=da s.heap W;let j:((s.heap.push V1).push (WI C s.heap.objs.size)).get? (s.heap.objs.size+1)=R (WI C s.heap.objs.size):=by let:=da (s.heap.push V1) (o:=WI C s.heap.objs.size) W;rwa [dP]at this
 let i:(s.heap.push V1).Ns s.heap.objs.size (λ_=>L):=#[V1,#v[],_,d,W,(λe h=>bg h (by simp)),λ_=>W];let l:=I.laid (a:=s.heap.objs.size) (o:=.own (s.heap.objs.size+1)) (h':=s.heap.push V1) (t':=s.toks) (λb u q=>c5 _ q) (Uy _) #[_,d];show l.laid (a:=s.heap.objs.size+1) (o:=.ins C s.heap.objs.size []) (t':=s.toks) (λb u q=>c5 _ q) (aha (dP _ _)) ?_;let ne:s.heap.objs.size≠s.heap.objs.size+1:=UP (WB _);show#[by rw[bG ne,bp],V0 _,ne,j,λ_=>L,(Heap.Ns1.of_empty i).at λo q=>c5 _ q,λ_=>True.intro,λy g=>bg W g]
theorem LP{prog:UY}{w:Vi}{env:Env}{e:Vr}{f:Str}{b:Pos}{s:Uv}{Q:M->Uv->Prop}(d:attributeBase e f env (eval e env)=eval e env)
  (h:wpAny (model prog w) A (eval e env) (λo c=>wpAny (model prog w) A (getAttr o f P) Q E c) E s):wpAny (model prog w) A (eval (.Attribute e f b) env) Q E s:=
 Attribute_any_ h (by rw[arm_eval_Attribute,d])
end
def Sk(K:lD)(e:TE)(f:Str):TE:=λd H Q=>e d H λx b=>∃a C g fs v,x=.ref a/\b a=R (.ins C g fs)/\Cls K C/\ZJ K C f/\fs.lookup f=R v/\Q v b
def Q0(K:lD)(g e:TE)(f:Str):TS:=λD b H=>e b H λy h=>g b h λx d=>∃a C i fs,x=.ref a/\d a=R (.ins C i fs)/\Cls K C/\ZJ K C f/\fs.length<1000/\
 D.nx b (cy d a (.ins C i (kO f y fs)))
section
variable{X:Cx}{o e Z:Vr}{f:Str}{U Y O:Pos}{T S:TE}
def hW(j:PE X e T)(m:attributeBase e f X.env (eval e X.env)=eval e X.env):PE X (.Attribute e f U) (Sk X.K T f):=by intro b s d H Q I h;show LP m (dS (j b s d H _ I h) λu B a=>?_);let(x,y,w,g,a,C,E,fs,v,p,r,c,n,l,q):=a;subst p;obtain rfl:=g;show Cr w r c n l λz A t i=>#[v,y,t,i,q]
def lI(k:PE X o T)(p:PE X Z S)(r:Wz Z (R (.Attribute o f Y)) U.line X.env=pure Uu):PS X (.Assign [.Attribute o f Y] Z U) (Q0 X.K T S f):=by intro b s d H D I h;show plainObj_wpAny_Assign_Attribute (dS (p b s d H _ I h) λu g #[y,B,A,i,q]=>dS (k b g d B _ A q) λG F a=>?_) r;let(x,K,z,j,a,C,N,fs,t,v,c,n,l,m):=a;subst t;obtain rfl:=j;show Cc z v c n l i λE w=>#[d,_,w,m]
end
section
variable{X:Cx}{Z:cn (Uw×Obj)}{Y:St}{H:Hp}{s:Uv}{A:Vc}{E:Um->Uv->Prop}{Q:Um->Uv->Prop}{c:Um}{b:Bool}
inductive abC(K:lD)(H:Hp):V->M->Prop where
 |Xp:abC K H .Xp (.type "NoneType")
 |bl (x:Bool):abC K H (.bl x) (.type "bool")
 |int (i:Int):abC K H (.int i) (.type "int")
 |str (x:Str):abC K H (.str x) (.type "str")
 |flt (x:UInt64):abC K H (.flt x) (.type "float")
 |lst {a:J} {xs:G V} (e:H a=R (.lst xs)):abC K H (.ref a) (.type "list")
 |frz {a:J} {o:Obj} {xs:G V} (e:H a=R (.frz o (.lst xs))):abC K H (.ref a) (.type "list")
 |tup {a:J} {xs:G V} (e:H a=R (.tup xs)):abC K H (.ref a) (.type "tuple")
 |dK {a:J} {U8:G (et×V)} (e:H a=R (.dK U8)):abC K H (.ref a) (.type "dict")
 |dT {a:J} {U8:G (G et×V)} (e:H a=R (.dT U8)):abC K H (.ref a) (.type "dict")
 |ins {a C dx:J} {fs:G (Str×V)} (e:H a=R (.ins C dx fs)) (cl:Cls K C) (ha:Vw K (.ref C) "__class__"=R (R (.builtin "object.__class__")))
   (hn:adt K (.builtin "object.__class__") "__get__"=R (R (.builtin "getset_descriptor.__get__"))) (htk:PySem.W.takesIn K (.builtin "object.__class__")=R P)
   (hm:PySem.W.mroIn K C (.type "object")=R P):abC K H (.ref a) (.ref C)
end
structure W0(k:Nat)(A:Vc):Prop where
 hd:A.handled=L
 dp:A.depth+3*k+5<recursionLimit
 un:A.units+16*k+200<cLine
theorem W0.mono(r:W0 k A)(h:j<=k):W0 j A:=#[r.hd,by let:=r.dp;ext,by let:=r.un;ext]
theorem W0.deeper(r:W0 (k+1) A)(env:Env):W0 k (A.deeper env):=
 #[r.hd,by let:=r.dp;show A.depth+1+3*k+5<_;ext,by let:=r.un;show A.units+3+16*k+200<_;ext]
def BC{A:Vc}:(A.under (.builtin "type.__call__" #[.ref C::us,kw])).depth=A.depth+1:=by
 first|rfl|simp[Vc.under,adP.weight,adP.isCreation,adP.isGuard,adP.isCaller,adP.frames,adP.isFrame,guardIds]
def Br{A:Vc}:(A.under (.builtin "type.__call__" #[.ref C::us,kw])).units=A.units+1:=by
 first|rfl|simp[Vc.under,adP.cUnits,adP.frames,adP.isFrame]
theorem W0.make(r:W0 (k+1) A)(C:J)(us:G M)(a:G (Str×M)):W0 k (A.under (.builtin "type.__call__" #[.ref C::us,a])):=
 #[r.hd,by let:=r.dp;rw[BC];ext,by let:=r.un;rw[Br];ext]
def W0.depth(r:W0 k A):A.depth<recursionLimit:=by let:=r.dp;ext
def W0.units(r:W0 k A):A.units+64<cLine:=by let:=r.un;ext
def pN:TA:=λ_ H Q=>Q [] H
def l6(d:TE)(b:TA):TA:=λa H Q=>d a H λx f=>b a f λxs e=>Q (x::xs) e
section
variable{X:Cx}{e:Vr}{Y:cn Vr}{U:TE}{t:TA}{Z:Pos}
theorem ao:PA X [] pN:=λ_ _ _ _ H Q I h=>Calls.spliced_nil #[[],H,I,.nil,h]
def af(c:PE X e U)(l:PA X Y t)(j:U4 (e::Y) X.env=(Uu,eval e X.env)::U4 Y X.env:=by rfl):PA X (e::Y) (l6 U t):=by intro Z a s b H Q I h;rw[j];show Calls.spliced_cons (dS (c a s b H _ I h) λu d a=>?_);let(x,p,n,r1,i):=a;show dS (l Z a d b p _ n i) λq r #[xs,o,m,f,g]=>#[x::xs,o,m,.cons r1 f,g]
def N9(t:TA):TE:=λb H Q=>t b H λxs a=>xs.length<=UG/\∀p,a p=L->Q (.ref p) (cy a p (.tup xs))
def Sc(t:TA):TE:=λb H Q=>t b H λxs a=>xs.length<=UG/\∀p,a p=L->Q (.ref p) (cy a p (.lst xs))
def iM{c}(h:PA X Y t):PE X (.Tuple Y c Z) (N9 t):=by intro a s g H Q I j;show wpAny_Tuple_spliced (dS (h Z a s g H _ I j) λi d #[xs,m,f,r,z,q]=>#[by rw[<-r.length];show z,?_]);let l:=f.Wf.fresh (Uy _);show#[.ref d.heap.objs.size,cy m d.heap.objs.size (.tup xs),f.laid (λb u e=>c5 _ e) (Uy _) ?_,W,q _ l];show#[z,i,r,#[_,da _ W,#[W,_,W],W]]
def fJ(h:PA X Y t):PE X (.List Y Z) (Sc t):=by intro a s g H Q I j;show wpAny_List_spliced (dS (h Z a s g H _ I j) λi d #[xs,m,f,r,z,q]=>#[by rw[<-r.length];show z,?_]);let l:=f.Wf.fresh (Uy _);show#[.ref d.heap.objs.size,cy m d.heap.objs.size (.lst xs),f.laid (λb u e=>c5 _ e) (Uy _) ?_,W,q _ l];show#[z,i,0,r,da _ W]
end
abbrev Sp:=G V->Hp->VK->XK->Prop
abbrev zZ:=G Env->Hp->Uv->XK->M->Uv->Prop
structure Env0(P:UY)(w:Vi)(K:lD)(mg:Str->cv M)(base:Heap)(A:Vc)(outer:G Env)(s:Uv)(H:Hp):Prop where
 frames:A.frames=R outer
 mod:Mod K mg base
 bs:∀b o,base.get? b=R o->s.heap.get? b=R o/\H b=L
 bsz:base.objs.size<=s.heap.objs.size
 aaW:s.heap.FunFrames base outer
 frf:∀b∈FX outer,H b=L
 Wf:HOk P w H s.heap
 bare:AllBare s.gens
def CE(outer:G Env)(P:UY)(w:Vi)(H:Hp)(s:Uv)(Q:VK)(u:M)(a:Uv):Prop:=
 ∃v b,a.os=s.os/\AllBare a.gens/\Un (FX outer) [] H b s.heap a.heap/\HOk P w b a.heap/\RelV v u/\Q v b
def CR(b:zZ)(outer:G Env)(P:UY)(w:Vi)(H:Hp)(s:Uv)(Q:VK)(E:XK)(r:ac0)(a:Uv):Prop:=
 match r with
 |.ok (.ret u)=>CE outer P w H s Q u a
 |.ok _=>False
 |.error e=>b outer H s E e a
structure FnOk(P:UY)(w:Vi)(K:lD)(mg:Str->cv M)(base:Heap)(CX:zZ)(k:Nat)(f:J)(fd:V3)(ps:G Str)(sp:Sp):Prop where
 len:∀vs H Q E,sp vs H Q E->vs.length=ps.length
 run:∀(A:Vc) (outer:G Env) (s:Uv) (H:Hp) (args:Args) (us:G M) (vs:G V) (Q:VK) (E:XK),W0 k A->Env0 P w K mg base A outer s H->aa2 s fd args (ps.zip us)->Vals vs us->sp vs H Q E->
  codeAny (model P w) A (.call (.ref f) args) (CR CX outer P w H s Q E) s
theorem FnOk.imp{P:UY}{w:Vi}{K:lD}{r:Str->cv M}{base:Heap}{g:zZ}{k:Nat}{f:J}{e:V3}{p:G Str}{sp b:Sp}(F:FnOk P w K r base g k f e p sp)
  (h:∀c H Q E,b c H Q E->sp c H Q E):FnOk P w K r base g k f e p b:=
 #[λc H Q E q=>F.len c H Q E (h _ _ _ _ q),λA a s H d i c Q E m n o j l=>F.run A a s H d i c Q E m n o j (h _ _ _ _ l)]
theorem Env0.make{K:lD}(e:Env0 b w K mg base A outer s H)(C:J)(us:G M)(a:G (Str×M)):
  Env0 b w K mg base (A.under (.builtin "type.__call__" #[.ref C::us,a])) outer s H:=#[by first|show e.frames|(simpa [Vc.under,adP.envs,adP.isFrame,pushEnvs]using e.frames),e.mod,e.bs,e.bsz,e.aaW,e.frf,e.Wf,e.bare]
section
variable{X:Cx}{Z:cn (Uw×Obj)}{Y:St}{H:Hp}{s U:Uv}
theorem Inv.ahp(I:Inv X Z Y H s):Env0 X.prog X.w X.K X.mg X.base X.A X.stack s H:=
 #[I.ok.frames,I.ok.mod,I.bs,Vn I.ok.bsz I.sz,I.stack,I.adL,I.Wf,I.bare]
def Inv.after{Q:VK}{u:M}(I:Inv X Z Y H s)(h:CE X.stack X.prog X.w H s Q u U):EP X Z Y Q u U:=by let(v,l,f,a,un,j,r,q):=h;let(i,g,d,t,e):=U;obtain rfl:e=s.os:=f;show#[v,l,I.call (h':=i) (g':=g) (d':=d) (t':=t) (ch:=[]) un j a (λb z=>bg z (by simp)),r,q]
end
def wX(sp:Sp)(a:G V)(E:XK)(t:TA):TE:=λb H Q=>t b H λe d=>sp (e++a) d Q E
def CY(C:J)(m:Str)(sp:Sp)(b:G V)(E:XK)(f:TE)(t:TA):TE:=λd H Q=>f d H λx e=>∃a i fs,x=.ref a/\e a=R (.ins C i fs)/\fs.lookup m=L/\
 t d e λh g=>sp (x::(h++b)) g Q E
def CW(C:J)(sp:Sp)(a:G V)(E:XK)(t:TA):TE:=λd H Q=>t d H λg b=>∀x f,b x=L->b f=L->f≠x->
 sp (.ref x::(g++a)) (cy (cy b f (.own x)) x (.ins C f [])) (λv e=>v=.Xp/\Q (.ref x) e) E
def Binds(K:lD)(b:V3)(c:G Str)(ds:G M):Prop:=
 ∀(s:Uv) (a:G M),K.In s.heap->(a++ds).length=c.length->aa2 s b #[a,[]] (c.zip (a++ds))
theorem Binds.all{K:lD}{b:V3}{c:G Str}(h:∀us:G M,us.length=c.length->bindArgs b #[us,[]]=pure (c.zip us)):Binds K b c []:=λs us _ a=>by rw[UZ]at a⊢;show .of_eq (h us a)
def jg(f:zZ)(X:Cx)(E:XK):Prop:=∀(a:G (J×Obj)) (d:St) (H:Hp) (s:Uv) (e:M) (b:Uv),Inv X a d H s->f X.stack H s E e b->X.xe e b
section
variable{X:Cx}{P:zZ}{k:Nat}{f C:Uw}{R:V3}{S:cn Str}{sp:Sp}{Y:cn V}{A:cn Um}{E:XK}{x m:Str}{p Z U:Pos}{e o:Vr}{T:cn Vr}{O:TE}{t:TA}
def Bv{a:G (J×Obj)}{d:St}{H:Hp}{s:Uv}{Q:VK}{us:G M}{vs:G V}(F:FnOk X.prog X.w X.K X.mg X.base P k f R S sp)(l:W0 k X.A)(q:Binds X.K R S A)(hd:Vals Y A)(j:jg P X E)
  (I:Inv X a d H s) (r:Vals vs us) (h:sp (vs++Y) H Q E):wpAny (model X.prog X.w) X.A (call (.ref f) us) (EP X a d Q) X.xe s:=by
 let g:Vals (vs++Y) (us++A):=r.append hd;let n:(us++A).length=S.length:=by rw[<-g.length];show F.len _ _ _ _ h
 show ac1 (YQ (F.run X.A X.stack s H #[us,[]] (us++A) (vs++Y) Q E l I.ahp (q s us I.kIn n) g h) λr i b=>?_);cases r with
 |error e=>show j a d H s e i I b
 |ok v=>
  cases v with
  |ret u=>show I.after b
  |next=>show False.elim b
  |brk=>show False.elim b
  |cont=>show False.elim b
def Mw(F:FnOk X.prog X.w X.K X.mg X.base P k f R S sp)(l:W0 k X.A)(u:Gl X x)(hm:X.mg x=cL (.ref f))(n:WQ X.K (.ref f)=Uq)(y:Binds X.K R S A)(hd:Vals Y A)(j:jg P X E)
  (c:PA X (e::T) t) (d:(x==("__debug__":Str))=Uu:=by decide) (v:U4 (e::T) X.env=(Uu,eval e X.env)::U4 T X.env:=by rfl) (b:(backTo Z (U4 T X.env)).any (·.1)=Uu:=by rfl):
  PE X (.Call (.Name x p) (e::T) [] Z) (wX sp Y E t):=by
 intro a s i H Q I h;show Xa (tL I u hm ?_ d);show aak I.ok.mod.kin n (dS (c Z a s i H _ I h) λz B #[w,G,g,r,q]=>#[g.kIn,?_]) v b;show Bv F l y hd j g r q
def KO{pl:Sem Bool}(J:PE X o O)(c:Cls X.K C)(hm:Meth X.K C m f)(F:FnOk X.prog X.w X.K X.mg X.base P k f R S sp)(G:W0 k X.A)(L:Binds X.K R S A)(hd:Vals Y A)(z:jg P X E)(D:PA X (e::T) t)
  (gj:U4 (e::T) X.env=(Uu,eval e X.env)::U4 T X.env:=by rfl) (d:(backTo Z (U4 T X.env)).any (·.1)=Uu:=by rfl)
  (B:eval (.Call (.Attribute o m U) (e::T) [] Z) X.env=(do
   let ov<-eval o X.env
   standAt U.atName
   let(f,first)<-holding [ov] (getMethod ov m pl)
   callWith Z f first (backTo Z (U4 (e::T) X.env)) (backToKw Z (keywordEach [] X.env))):=by rfl):
  PE X (.Call (.Attribute o m U) (e::T) [] Z) (CY C m sp Y E O t):=by
 intro b s g H Q I h;show acs (pl:=pl) (dS (J b s g H _ I h) λu n a=>?_) B;let(x,H1,j,v,a,dx,fs,w,N,l,q):=a;subst w;obtain rfl:u=Um.ref a:=v;show uc j N c hm l ?_;show aak (first:=[.ref a]) (h₀:=X.base) I.ok.mod.kin hm.kp (dS (D Z b n g H1 _ j q) λus s2 #[K,H2,i,r,y]=>#[i.kIn,?_]) gj d;show Bv (us:=.ref a::us) (vs:=.ref a::K) F G L hd z i (.cons W r) y
def IQ{pl:Sem Bool}(v:PE X o O)(c:Cls X.K C)(hm:Meth X.K C m f)(F:FnOk X.prog X.w X.K X.mg X.base P k f R S sp)(r:W0 k X.A)(y:Binds X.K R S A)(hd:Vals Y A)(j:jg P X E)
  (n:eval (.Call (.Attribute o m U) [] [] Z) X.env=(do
   let ov<-eval o X.env
   standAt U.atName
   let(f,first)<-holding [ov] (getMethod ov m pl)
   callWith Z f first (backTo Z (U4 [] X.env)) (backToKw Z (keywordEach [] X.env))):=by rfl):
  PE X (.Call (.Attribute o m U) [] [] Z) (CY C m sp Y E O pN):=by
 intro b s g H Q I h;show acs (pl:=pl) (dS (v b s g H _ I h) λu G a=>?_) n;let(x,w,d,i,a,K,fs,z,B,l,q):=a;subst z;obtain rfl:u=Um.ref a:=i;show uc d B c hm l ?_;show acR (first:=[.ref a]) d.kIn hm.kp (Bv (us:=[.ref a]) (vs:=[.ref a]) F r y hd j d (.cons W .nil) q)
structure Mk(K:lD)(C f:J):Prop where
 makes:abe K C=Uq
 init:Vw K (.ref C) "__init__"=cL (cL (.ref f))
 fn:aav K (.ref f)=Uq
 kp:WQ K (.ref C)=Uq
def zM(M:Mk X.K C f)(F:FnOk X.prog X.w X.K X.mg X.base P k f R S sp)(n:W0 (k+1) X.A)(y:Binds X.K R S A)(hd:Vals Y A)
  (l:jg P X E) (I:Inv X pins σ H s) (r:Vals vs us)
  (h:∀x c,H x=L->H c=L->c≠x->sp (.ref x::(vs++Y)) (cy (cy H c (.own x)) x (.ins C c [])) (λv D=>v=.Xp/\Q (.ref x) D) E):
  wpAny (model X.prog X.w) X.A (call (.ref C) us) (EP X pins σ Q) X.xe s:=by
 let g:=h (s.heap.objs.size+1) s.heap.objs.size (I.Wf.fresh (X1 _)) (I.Wf.fresh (Uy _)) (UP (WB _));let b:=Inv.made (C:=C) I;let d:Vals (V.ref (s.heap.objs.size+1)::(vs++Y)) (Um.ref (s.heap.objs.size+1)::(us++A)):=.cons W (r.append hd);let q:(Um.ref (s.heap.objs.size+1)::us++A).length=S.length:=by let e:=d.length;rw[F.len _ _ _ _ g]at e;show e.symm
 show ac1 (JP I.kIn M.makes M.init (beq_iff_eq.mp M.fn) (YQ (F.run _ X.stack _ _ #[Um.ref (s.heap.objs.size+1)::us,[]] (Um.ref (s.heap.objs.size+1)::(us++A)) _ _ E (n.make C us [])
  (b.ahp.make C us []) (y _ (Um.ref (s.heap.objs.size+1)::us) b.kIn q) d g) λr i a=>?_))
 cases r with
 |error e=>show l pins σ _ _ e i b a
 |ok z=>
  cases z with
  |ret u=>let(v,G,B,w,ev,j):=b.after a;subst ev;show#[w,#[V.ref (s.heap.objs.size+1),G,B,W,j]]
  |next=>show False.elim a
  |brk=>show False.elim a
  |cont=>show False.elim a
def Lx(M:Mk X.K C f)(F:FnOk X.prog X.w X.K X.mg X.base P k f R S sp)(l:W0 (k+1) X.A)(n:Gl X x)(hm:X.mg x=cL (.ref C))(v:Binds X.K R S A)(hd:Vals Y A)(j:jg P X E)
  (c:PA X (e::T) t) (d:(x==("__debug__":Str))=Uu:=by decide) (u:U4 (e::T) X.env=(Uu,eval e X.env)::U4 T X.env:=by rfl) (b:(backTo Z (U4 T X.env)).any (·.1)=Uu:=by rfl):
  PE X (.Call (.Name x p) (e::T) [] Z) (CW C sp Y E t):=by
 intro a s i H Q I h;show Xa (tL I n hm ?_ d);show aak I.ok.mod.kin M.kp (dS (c Z a s i H _ I h) λy z #[w,B,g,r,q]=>#[g.kIn,?_]) u b;show zM M F l v hd j g r q
def GL(M:Mk X.K C f)(F:FnOk X.prog X.w X.K X.mg X.base P k f R S sp)(g:W0 (k+1) X.A)(i:Gl X x)(hm:X.mg x=cL (.ref C))(j:Binds X.K R S A)(hd:Vals Y A)(d:jg P X E)
  (a:(x==("__debug__":Str))=Uu:=by decide):PE X (.Call (.Name x p) [] [] Z) (CW C sp Y E pN):=by
 intro b s l H Q I h;show Xa (tL I i hm ?_ a);show acR I.kIn M.kp (zM M F g j hd d I .nil h)
end
section
variable{X:Cx}{Q:zZ}{k:Nat}{f C:Uw}{fd:V3}{Z ks:cn Str}{O:Sp}{E:XK}{x m:Str}{p U Y T:Pos}{e o:Vr}{N:cn Vr}{S:cn aa3}{I H:TE}{t B:TA}{A:cv Str}
structure ai7(K:lD)(fd:V3)(Z ks:G Str)(g:G M->G M->G M)(gV:G V->G V->G V):Prop where
 to:∀(s:Uv) (us ws:G M),K.In s.heap->(g us ws).length=Z.length->aa2 s fd #[us,ks.zip ws] (Z.zip (g us ws))
 rel:∀{vs:G V} {us:G M} {zs:G V} {ws:G M},Vals vs us->Vals zs ws->Vals (gV vs zs) (g us ws)
variable{g:cn Um->cn Um->cn Um}{K:cn V->cn V->cn V}
end
structure YB(N P:G Str)(sc:Yr):Prop where
 kind:sc.kind=.function
 co:sc.isCoroutine=Uu
 gen:sc.isGenerator=Uu
 nd:N.Nodup
 pre:N.take P.length=P
 par:∀x∈P,sc.names.lookup x=R .local\/sc.names.lookup x=R .cell
 af4:∀y∈sc.names,y.2≠.free
theorem xh{a:Str->cv Va}:∀{binds:G (Str×M)} {m:Str->cv M},(∀v,(x,v)∉binds)->bindL a binds m x=m x
 |[],_,_=>rfl
 |(n,v)::r,m,h=>by
  ext bindL;rw[xh λw b=>h w (UC _ b)];split
  .let:x≠n:=by rintro rfl;show h v UA
   simp[this]
  .rfl
theorem xi{a:Str->cv Va}:∀{binds:G (Str×M)} {m:Str->cv M},(∀v,(x,v)∉binds)->bindC a binds m x=m x
 |[],_,_=>rfl
 |(n,v)::r,m,h=>by
  ext bindC;rw[xi λw b=>h w (UC _ b)];split
  .rfl
  .let:x≠n:=by rintro rfl;show h v UA
   simp[this]
theorem wP{kindOf:Str->cv Va}:∀{a:G Str} {b:G M} {i:Nat} {m:Str->cv M},a.Nodup->a[i]?=R x->b[i]?=R v->kindOf x=R .local->
  bindL kindOf (a.zip b) m x=R v
 |[],_,_,_,_,h,_,_=>by simp at h
 |_::_,[],_,_,_,_,h,_=>by simp at h
 |p::a,w::b,0,m,nd,h1,d,e=>by simp at h1 d;subst h1;subst d;show bindL kindOf ((p,w)::a.zip b) m p=_;ext bindL;rw[xh λv f=>(VN.mp nd).1 (X6 f).1,av e];simp
 |p::a,w::b,i+1,m,nd,h1,d,e=>by ext bindL;show wP (VN.mp nd).2 (by simpa using h1) (by simpa using d) e
theorem xn{kindOf:Str->cv Va}:∀{a:G Str} {b:G M} {i:Nat} {m:Str->cv M},a.Nodup->a[i]?=R x->b[i]?=R v->kindOf x≠R .local->
  bindC kindOf (a.zip b) m x=R v
 |[],_,_,_,_,h,_,_=>by simp at h
 |_::_,[],_,_,_,_,h,_=>by simp at h
 |p::a,w::b,0,m,nd,h1,d,e=>by simp at h1 d;subst h1;subst d;show bindC kindOf ((p,w)::a.zip b) m p=_;ext bindC;rw[xi λv f=>(VN.mp nd).1 (X6 f).1,ax e];simp
 |p::a,w::b,i+1,m,nd,h1,d,e=>by ext bindC;show xn (VN.mp nd).2 (by simpa using h1) (by simpa using d) e
def start(N:G Str)(a:G V):St:=a.map R++Us (N.length - a.length) L
def uR(h:zZ)(P:UY)(w:Vi)(K:lD)(c:Str->cv M)(base:Heap)(N:G Str)(b:Str)(a:Yr)(f:J)(g:M)(A:Vc)(outer:G Env)(s:Uv)(H:Hp)(E:XK):Cx where
 prog:=P
 w:=w
 K:=K
 mg:=c
 base:=base
 A:=A.deeper (envOfC b a s.heap.objs.size f g)
 N:=N
 s₀:=s
 H₀:=H
 env:=envOfC b a s.heap.objs.size f g
 outer:=outer
 stack:=envOfC b a s.heap.objs.size f g::outer
 ex:=[]
 calm:=Uq
 fn:=λ_=>Uq
 pn:=[]
 xe:=λe i=>wpAny (model P w) (A.deeper (envOfC b a s.heap.objs.size f g)) (leaving (envOfC b a s.heap.objs.size f g) e) (λ_ d=>h outer H s E e d) (λj d=>h outer H s E j d) i
def z6{a:Yr}(h:a.names.lookup x=R .cell):∃c,(WJ n a.names []).lookup x=R c:=by let q:=XG a.names n [] (.inl h);show abS.mp q
def Ey{K:lD}
  (S:YB N ps scope) (hd:A.handled=L) (e0:Env0 I w K mg base A outer s H) (F:U.length=ps.length) (r:Vals U us)
  (x:InCallC s s.heap.objs.size (bindL (envOfC qual scope s.heap.objs.size f cd).kindOf (ps.zip us) λ_=>L) (WJ (s.heap.objs.size+1) scope.names []) (bindC (envOfC qual scope s.heap.objs.size f cd).kindOf (ps.zip us) λ_=>L) s1):
  Inv (uR CX I w K mg base N qual scope f cd A outer s H E) [] (start N U) H s1:=by
 let B:ps.length<=N.length:=by let:=ec XZ S.pre;rw[VY]at this;ext
 let(n,C,rfl,t):=x.done;let g:∀b:J,b∉(uR CX I w K mg base N qual scope f cd A outer s H E).ex:=λb z=>bg (show b∈([]:cn J)from z) (by simp);show#[#[e0.mod,S.kind,W,W,Uy _,λy z c n d=>?_,λy j=>?_,λy c _ h=>?_,λ_=>hd,Vc.frames_deeper e0.frames,.inr #[W,W],λb z=>bg z (g b),e0.bs,e0.bsz,λb _ _=>g b,λb z=>bg z (g b),e0.aaW,e0.frf],
  W,e0.bare,Un.kept t,#[_,x.toInCall.ns,λi y v n d G=>?_],λy c h=>#[_,x.cell y c h],e0.Wf.fresh (Uy _),λy c h=>?_,λp m=>bg (show p∈([]:cn (J×Obj))from m) (by simp),e0.Wf.kept t,?_]
 .show name_of_addr x.apart (Wt n) (Wt d)
 .let j:=j
  rcases j with j|j
  .show z6 j
  .show bg W (S.af4 _ (Wt j))
 .show Zw (x.above y c (Wt h))
 .let O:i<U.length:=by
   unfold start at d;by_cases O:i<U.length
   .show O
   .rw[US (by simpa using O)]at d;rw[Wm]at d;split at d<;>ext d
  let T:U[i]?=R v:=by
   unfold start at d;rw[U6 (by simpa using O),UK]at d;cases e:U[i]? with
   |none=>rw[e]at d;ext d
   |some a=>rw[e]at d;ext d;rfl
  let(u,o,Q):=r.get T;let m:ps[i]?=R y:=by rw[<-S.pre,List.getElem?_take_of_lt ()];show n
  let l:ps.Nodup:=by rw[<-S.pre];show S.nd.sublist (List.take_sublist _ _)
  show#[u,Q,?_];rcases S.par y (Vb m)with k|k
  .show .inl #[k,wP l m o k]
  .let(c,e):=z6 k;show .inr #[.inl k,c,e,?_];let q:=x.cell y c e;rw[xn l m o (by show scope.names.lookup y≠_;rw[k];decide)]at q;show q
 .show e0.Wf.fresh (Zw (x.above y c (Wt h)))
 .ext start;show _=N.length;rw[UB,Ur,UR];ext
def Rc{m:zZ}{P:UY}{w:Vi}{K:lD}{l:Str->cv M}{base:Heap}{k:Nat}{f:Uw}{name qual:Str}{params:Arguments}{body:G Xg}{scope:Yr}{dV kV doc pm g ct T:M}{an F:cv Uw}
  {B:Array (cv M)} {N j:G Str} {sp:Sp} (U:K.lookup f=R #[T,F,.func (Xi name qual params body scope dV kV doc pm an g ct),B]) (D:ZC K g qual=Uq) (S:YB N j scope)
  (len:∀c H Q E,sp c H Q E->c.length=j.length)
  (YU:∀(A:Vc) (outer:G Env) (s:Uv) (H:Hp) (c:G V) (Q:VK) (E:XK),W0 k (A.deeper (envOfC qual scope s.heap.objs.size f g))->sp c H Q E->
   ∃t,PSs (uR m P w K l base N qual scope f g A outer s H E) body t/\t {nx:=λ_ d=>Q .Xp d,rt:=Q} (start N c) H):
  FnOk P w K l base m (k+1) f (Xi name qual params body scope dV kV doc pm an g ct) j sp:=by
 show#[len,λA outer s H args us c Q E C e0 hb r i=>?_];let hl:=len _ _ _ _ i;let O:K.In s.heap:=e0.mod.kin.keeps λb o e=>(e0.bs b o e).1;let lim:s.heap.NoLimit:=e0.mod.nolimit.keeps λb o e=>(e0.bs b o e).1;let YC:∀y∈j.zip us,scope.names.lookup y.1=R .local\/(scope.names.lookup y.1=R .cell/\((WJ (s.heap.objs.size+1) scope.names []).lookup y.1).isSome=Uq):=λ#[n,v] X=>by
  rcases S.par n (X6 X).1 with q|q
  .show .inl q
  .show .inr #[q,XG _ _ _ (.inl q)]
 show codeAny_call_function C.depth (O _ _ U) W S.co S.gen W (PySem.W.codeRec_of O D) (hb _ _ _ _ ?_);show wpAny_newFunctionEnv_cells S.kind YC λenv he s1 x=>?_;subst he;show#[lim.keeps x.toInCall.keep,codeAny_func ?_];let(t,Y,Z):=YU A outer s H c Q E (C.deeper _) i;let I:Inv (uR m P w K l base N qual scope f g A outer s H E) [] (start N c) H s1:=Ey S C.hd e0 hl r x;show wpAny_mono (Y [] s1 (start N c) H _ I Z) (λfl p h=>?_) λe p h=>h
 let fin:∀{a:St} {d:Hp} {v:V} {u:M},Inv (uR m P w K l base N qual scope f g A outer s H E) [] a d p->RelV v u->Q v d->CE outer P w H s Q u p:=
  λ{a d v u} J z q=>#[v,d,J.os,J.bare,J.base,J.Wf,z,q]
 cases fl with
 |ret u=>let(v,a,d,J,z,q):=h;show fin J z q
 |next=>let(a,d,J,q):=h;show fin (v:=V.Xp) (u:=Um.none) J W q
 |brk=>let(_,_,_,q):=h;show False.elim q
 |cont=>let(_,_,_,q):=h;show False.elim q
section
variable{X:Cx}{x:Str}{p Z:Pos}{e:Vr}{Y:cn Vr}{t:TA}{U T:String}{r:cn V->Hp->VK->Prop}
def Mz(r:G V->Hp->VK->Prop)(t:TA):TE:=λa H Q=>t a H λd b=>r d b Q
def cj(o:W6 X (.builtin U) r)(m:Gl X x)(hm:X.mg x=L)(l:Vu x=R (.builtin U))(k:PA X (e::Y) t)(c:x≠ "__name__":=by decide)(d:(x==("__debug__":Str))=Uu:=by decide)
  (n:U4 (e::Y) X.env=(Uu,eval e X.env)::U4 Y X.env:=by rfl) (b:(backTo Z (U4 Y X.env)).any (·.1)=Uu:=by rfl):PE X (.Call (.Name x p) (e::Y) [] Z) (Mz r t):=by
 intro a s f H Q I h;show Xa (lA I m hm l ?_ c d);show ah9 (dS (k Z a s f H _ I h) λg i #[v,u,q,r1,j]=>o a i f u v g Q q r1 j) n b
def bJ(o:W6 X (.type T) r)(m:Gl X x)(hm:X.mg x=L)(l:Vu x=R (.type T))(k:PA X (e::Y) t)(c:x≠ "__name__":=by decide)(d:(x==("__debug__":Str))=Uu:=by decide)
  (n:U4 (e::Y) X.env=(Uu,eval e X.env)::U4 Y X.env:=by rfl) (b:(backTo Z (U4 Y X.env)).any (·.1)=Uu:=by rfl):PE X (.Call (.Name x p) (e::Y) [] Z) (Mz r t):=by
 intro a s f H Q I h;show Xa (lA I m hm l ?_ c d);show Wk (dS (k Z a s f H _ I h) λg i #[v,u,q,r1,j]=>o a i f u v g Q q r1 j) n b
end
end L2
namespace HT
open PySem PyProof.Rows
section
open PySem.SeqAt
open PySem.AutoSeq1 (wpAny_loadPart')
open PySem.MeetsSeq PySem.MeetsSeq2 PySem.MeetsSeq3
end
section
variable{Z:UY}{w:Vi}{A:Vc}{E:Um->Uv->Prop}{s:Uv}
def cat_tup{t b:J}{c ws:G M}{Q:M->Uv->Prop}(u:IsTup s.heap t c.toArray)(v:IsTup s.heap b ws.toArray)(p:c≠[])
  (z:ws=[]->Q (.ref t) s) (y:ws≠[]->Q (.ref s.heap.objs.size) {s with heap:=s.heap.push {cls:=.type "tuple",data:=.seq (c++ws).toArray}})
  (k:c.length+ws.length<=UG):wpAny (model Z w) A (Wj .Add (.ref t) (.ref b)) Q E s:=by
 let((cls,dd,data,m),j,r,n,q):=id u;let((B,h,l,d),a,g,o,f):=id v;simp only at r q g f;subst r q g f;let e:c.toArray++ws.toArray=(c++ws).toArray:=by simp
 by_cases i:ws=[]
 .show concat_meets #[_,j,W] #[_,a,W] ahb akK ab1 abT (abL _ _)
   (tuple_addW1 t b c.toArray ws.toArray n o dd h m d (by simpa using p) (by simp[i])) #[j,a,z i]
 .show concat_meets #[_,j,W] #[_,a,W] ahb akK ab1 abT (abL _ _)
   (tuple_addW2 t b c.toArray ws.toArray n o dd h m d (by simpa using p) (by simpa using i) (by rw[UE,UE];show k)) #[j,a,?_]
  rw[e];show y i
def sIx(n d:Nat):cv Int->Nat
 |none=>d
 |some v=>if v<0 then(v+(n:Int)).toNat else min v.toNat n
def Oj(n d:Nat)(hd:d<=n)(o:cv Int):sIx n d o<=n:=by
 cases o with
 |none=>show hd
 |some v=>
  show(if v<0 then(v+(n:Int)).toNat else min v.toNat n)<=n;by_cases a:v<0
  .rw[av a];ext
  .rw[ax a];show abq _ _
def CU(v:Int)(n d:Nat):(if v<0 then max (v+(n:Int)) 0 else min v (n:Int))=((sIx n d (R v):Nat):Int):=by
 show(if v<0 then max (v+(n:Int)) 0 else min v (n:Int))=(((if v<0 then(v+(n:Int)).toNat else min v.toNat n):Nat):Int);by_cases a:v<0
 .simp only[av a];ext
 .simp only[ax a];ext
def Bu(lo b:cv Int)(n:Nat):U3.Slice.sliceAdjust lo b 1 (n:Int)=(((sIx n 0 lo:Nat):Int),((sIx n n b:Nat):Int)):=by
 let a:¬((1:Int)<0):=by ext
 ext U3.Slice.sliceAdjust;simp only[a,if_false];show Prod.ext ?_ ?_
 .cases lo with
  |none=>rfl
  |some v=>show CU v n 0
 .cases b with
  |none=>rfl
  |some v=>show CU v n n
def Cz(i j:Nat):U3.Slice.slicePlaces (i:Int) (j:Int) 1=j - i:=by
 ext U3.Slice.slicePlaces;let a:(1:Int)>0:=by ext
 simp only[a,if_true,Int.ediv_one];split<;>ext
def uZ(p:ab2 v o)(h:Q o s):wpAny (model Z w) A (U3.Slice.slicePartIndex v) Q E s:=by
 cases p with
 |none=>show slicePart_none h
 |int i t=>show slicePart_int h
def rz{lo c:cv Int}{Q:Int×Int×Nat->Uv->Prop}(e:s.heap.IsSliceOf I C o .none)(pl:ab2 C lo)(d:ab2 o c)
  (h:Q (((sIx n 0 lo:Nat):Int),1,sIx n n c - sIx n 0 lo) s):wpAny (model Z w) A (U3.Slice.sliceApplied (.ref I) (pure (n:Int))) Q E s:=by
 let(g,a,f,b):=id e;unfold U3.Slice.sliceApplied U3.Slice.sliceFields;show Ld (Ld (V4 a b W (Ld (V4 a b W (Ld (V4 a b W (Uz ?_)))))));show Ld (slicePart_none ?_);rw[ax ()];show Ld (uZ pl (Ld (uZ d (Ld (Uz ?_)))));show wpAny _ _ (match U3.Slice.sliceAdjust lo c 1 (n:Int)with|(lo,c)=>pure (lo,(1:Int),U3.Slice.slicePlaces lo c 1)) _ _ s;rw[Bu lo c n];show wpAny _ _ (pure (((sIx n 0 lo:Nat):Int),(1:Int),U3.Slice.slicePlaces ((sIx n 0 lo:Nat):Int) ((sIx n n c:Nat):Int) 1)) _ _ s;rw[Cz];show Uz h
def GR(xs:Array M)(i k:Nat):((U1 k).filterMap λ(m:Nat)=>xs[((i:Int)+(m:Int)*1).toNat]?).toArray=((xs.toList.drop i).take k).toArray:=by
 let e:(λ(m:Nat)=>xs[((i:Int)+(m:Int)*1).toNat]?)=λm=>xs[i+m]? :=by
  funext m;let:((i:Int)+(m:Int)*1).toNat=i+m:=by ext
  rw[this]
 rw[e];let:=pick_run xs i k;rw[ad3]at this;let a:((λx=>xs[x]?)∘λx=>i+x)=λm=>xs[i+m]? :=W;rw[a]at this;rw[this]
def getItem_tuple_cut{lo c:cv Int}(b:IsTup s.heap t items)(i:s.heap.IsSliceOf C U I .none)(pl:ab2 U lo)(j:ab2 I c)
  (m:¬(sIx items.size 0 lo=0/\sIx items.size items.size c=items.size))
  (h:Q (.ref s.heap.objs.size) {s with heap:=s.heap.push {cls:=.type "tuple",data:=.seq ((items.toList.drop (sIx items.size 0 lo)).take (sIx items.size items.size c - sIx items.size 0 lo)).toArray}})
  (k:items.size<=UG):wpAny (model Z w) A (getItem (.ref t) (.ref C)) Q E s:=by
 let a:sizeOk (.seq ((items.toList.drop (sIx items.size 0 lo)).take (sIx items.size items.size c - sIx items.size 0 lo)).toArray):=by show((items.toList.drop (sIx items.size 0 lo)).take (sIx items.size items.size c - sIx items.size 0 lo)).toArray.size<=UG;rw[UE,VY,abl,Vo];ext
 let r:sIx items.size items.size c<=items.size:=Oj _ _ (Uy _) c;let(l,d,f,n):=id i;let g:s.TypeIs (.ref C) "slice":=#[l,d,f];ext getItem
 try specialize Wc ?_
 first|show Ld (Uz ?_)|skip
 show Ld (wpAny_sequenceKey b.typeIs () ?_);show Ld (W3 b.typeIs Xy
  (W4 Xy b.typeIs entry_tuple_getitem ?_ (args_tuple_getitem _ _)))
 show wpAny _ _ (U3.Tuple.tupleItemsOf (.ref t)>>=_) _ _ s;show Ld (tupleItemsOf_ b ?_);show Ld (aef g ?_);rw[av ()];show Ld (rz i pl j ?_);let e:¬((((sIx items.size 0 lo:Nat):Int)==0&&(1:Int)==1&&(sIx items.size items.size c - sIx items.size 0 lo)==items.size)=P):=by intro q;rw[UO,UO]at q;let p:=eq_of_beq q.1.1;let o:=eq_of_beq q.2;show m #[by ext,by ext]
 show wpAny _ _ (if(((sIx items.size 0 lo:Nat):Int)==0&&(1:Int)==1&&(sIx items.size items.size c - sIx items.size 0 lo)==items.size)=P then _ else _) _ _ s;rw[ax e,GR]
 first
  |show Ld (Wd (Uz #[_,W,Uz h]) a)
  |show Ld (Wd (Ld (Uz (Uz #[_,W,Uz h]))) a)
  |show Ld (Ld (Wd (Uz (Uz #[_,W,Uz h])) a))
  |show Ld (Ld (Wd (Uz #[_,W,Uz h]) a))
end
end HT
namespace L2
open PySem PySem.Spec PyProof.Rows
abbrev TO:=St->Hp->(cv Int->Hp->Prop)->Prop
def PO(X:Cx)(e:cv Vr)(t:TO):Prop:=
 ∀(a:G (J×Obj)) (s:Uv) (b:St) (H:Hp) (Q:cv Int->Hp->Prop),Inv X a b H s->t b H Q->
  wpAny (model X.prog X.w) X.A (evalPart e X.env) (λu d=>∃o f,Inv X a b f d/\ab2 u o/\Q o f) X.xe s
def Ed:TO:=λ_ H Q=>Q L H
def Ng(t:TE):TO:=λa H Q=>t a H λx b=>∃i,x=.int i/\Q (R i) b
def jM:∀{us:G M},Vals (ns.map V.int) us->IntsAre us ns:=by
 induction ns with
 |nil=>intro us r;rw[Zt]at r;ext r;show .nil
 |cons n ns b=>
  intro us r;rw[UM]at r;cases r with
  |cons r1 a=>let(t,e):=r1;subst e;show .cons n t (b a)
section
variable{X:Cx}{e:Vr}{U:TE}{Z Y:cv Vr}{S R:TO}{O P:Pos}
def gM:PO X L Ed:=by intro a s b H Q I h;rw[akL];show Uz #[L,H,I,.none,h]
def eh(h:PE X e U):PO X (cL e) (Ng U):=by intro a s b H Q I f;rw[evalPart_some];show dS (h a s b H _ I f) λu l a=>?_;let(x,j,g,r1,d):=a;let(i,rfl,q):=d;let(t,rfl):=r1;show#[cL i,j,g,.int i t,q]
def Q2(X:Cx)(r:V->cv Int->cv Int->Hp->VK->Prop):Prop:=
 ∀(a:G (J×Obj)) (s:Uv) (b:St) (H:Hp) (x:V) (v f d:M) (Z Y:cv Int) (g:J) (Q:VK),Inv X a b H s->RelV x v->s.heap.IsSliceOf g f d .none->ab2 f Z->ab2 d Y->r x Z Y H Q->
  ∃T id,typeLookup (.type T) "__getitem__"=pure (cL (.builtin id))/\s.TypeIs v T/\wpAny (model X.prog X.w) X.A (getItem v (.ref g)) (EP X a b Q) X.xe s
def TV(r:V->cv Int->cv Int->Hp->VK->Prop)(U:TE)(S R:TO):TE:=λa H Q=>U a H λx f=>S a f λl d=>R a d λu b=>r x l u b Q
def dX{r:V->cv Int->cv Int->Hp->VK->Prop}(C:Q2 X r)(G:PE X e U)(E:PO X Z S)(z:PO X Y R):PE X (.Subscript e (.Slice Z Y CL P) O) (TV r U S R):=by intro a s f H Q I h;show Subscript_ (dS (G a s f H _ I h) λv n a=>?_);let(x,H1,N,r1,t):=a;show wpAny_Slice (dS (E a n f H1 _ N t) λi m #[l,H2,A,pl,p]=>dS (z a m f H2 _ A p) λg d a=>?_);let(u,j,w,y,o):=a;rw[akL];show Uz ?_;let K:Inv X a f j {d with heap:=d.heap.push {cls:=.type "slice",data:=.fields #v[i,g,.none]}}:=w.kept (t':=d.toks) λb ob q=>c5 _ q;let(T,id,J,B,F):=C a {d with heap:=d.heap.push {cls:=.type "slice",data:=.fields #v[i,g,.none]}} f j x v i g l u d.heap.objs.size Q K r1 (Heap.IsSliceOf.new ..) pl y o;show wpAny (model X.prog X.w) X.A (subscriptTail e (.Slice Z Y CL P) v (.ref d.heap.objs.size)) (EP X a f Q) X.xe {d with heap:=d.heap.push {cls:=.type "slice",data:=.fields #v[i,g,.none]}};show tail_any (ops:=[.ref d.heap.objs.size,v]) B J F (by with_unfolding_all rfl)
def Fq(xs:G V)(Z Y:cv Int):G V:=(xs.drop (HT.sIx xs.length 0 Z)).take (HT.sIx xs.length xs.length Y - HT.sIx xs.length 0 Z)
def sA(xs:G V)(Z Y:cv Int):(Fq xs Z Y).length<=xs.length:=by ext Fq;rw[VY,abl];ext
def Q8(K:lD):V->cv Int->cv Int->Hp->VK->Prop:=λx Z Y H Q=>∃a xs,x=.ref a/\X5 K H a xs/\
 ¬(HT.sIx xs.length 0 Z=0/\HT.sIx xs.length xs.length Y=xs.length)/\∀p,H p=L->Q (.ref p) (cy H p (.tup (Fq xs Z Y)))
def NM:Q2 X (Q8 X.K):=by
 intro f s t H x v w u Z Y y Q I j o pl l h;let(a,xs,rfl,m,n,q):=h;ext j;let(p,r,i,g):=I.tuple m;let d:p.toArray.size=xs.length:=by rw[UE];show r.length.symm
 show#["tuple",_,Xy.lookup,i.typeIs,?_];show HT.getItem_tuple_cut i o pl l (by rw[d];show n) ?_ (by rw[d];show g);rw[d];show#[.ref s.heap.objs.size,_,I.laid (λb z q=>c5 _ q) (Uy _) ?_,W,q _ (I.Wf.fresh (Uy _))];show#[Vn (sA xs Z Y) g,_,(r.drop (HT.sIx xs.length 0 Z)).take (HT.sIx xs.length xs.length Y - HT.sIx xs.length 0 Z),abi.new _ _]
def MO(K:lD):R2:=λx y H Q=>∃a b xs ys,x=.ref a/\y=.ref b/\X5 K H a xs/\X5 K H b ys/\xs≠[]/\xs.length+ys.length<=UG/\
 (ys=[]->Q (.ref a) H)/\(ys≠[]->∀p,H p=L->Q (.ref p) (cy H p (.tup (xs++ys))))
def Vals.ach(r:Vals xs us):us=[]↔xs=[]:=by
 cases r with
 |nil=>simp
 |cons _ _=>simp
def Lc:OpR X (Wj .Add) (MO X.K):=by intro f s t H x y v u Q I j i h;let(a,b,xs,A,rfl,rfl,E,p,o,g,m,l):=h;ext j;ext i;let(C,r1,n,_):=I.tuple E;let(r,d,P,_):=I.tuple p;show HT.cat_tup n P (λz=>o (r1.ach.mp z)) (λz=>#[.ref a,H,I,W,m (d.ach.mp z)]) (λz=>?_) (by rw[<-r1.length,<-d.length];show g);show#[.ref s.heap.objs.size,_,I.laid (λb B q=>c5 _ q) (Uy _) ?_,W,l (λw=>z (d.ach.mpr w)) _ (I.Wf.fresh (Uy _))];show#[by rw[UB];show g,_,r1.append d,abi.new _ _]
end
def FW(n:Nat)(i:Int):cv Nat:=if 0<=i then(if i<n then R i.toNat else L)else if -(n:Int)<=i then R (i+n).toNat else L
def mo(xs:G α)(i:Int):cv α:=(FW xs.length i).bind λj=>xs[j]?
def Dr(h:FW n i=R j):seqIndex? i n=R j/\j<n/\ -(n:Int)<=i/\i<n:=by
 unfold FW at h;by_cases b:0<=i
 .rw[av b]at h
  by_cases a:i<n
  .rw[av a]at h;let e:=UU h;show#[by rw[ae7 b a,e],by ext,by ext,a]
  .rw[ax a]at h;ext h
 .rw[ax b]at h
  by_cases a: -(n:Int)<=i
  .rw[av a]at h;let e:=UU h;show#[by rw[aeg () a,e],by ext,a,by ext]
  .rw[ax a]at h;ext h
def xP(h:mo xs i=R v):∃j,seqIndex? i xs.length=R j/\xs[j]?=R v/\j<xs.length/\ -(xs.length:Int)<=i/\i<xs.length:=by
 unfold mo at h;cases e:FW xs.length i with
 |none=>rw[e]at h;ext h
 |some j=>rw[e]at h;let(f,d,b,a):=Dr e;show#[j,f,h,d,b,a]
def DR{j:Nat}(h:xs[j]?=R v):mo xs (j:Int)=R v:=by
 let a:=(Uo.mp h).1;let e:FW xs.length (j:Int)=R j:=by ext FW;rw[av (),av ()];simp
 ext mo;rw[e];show h
def JC(xs:G α)(v:α):mo (xs++[v]) (-1)=R v:=by
 let a:(xs++[v]).length=xs.length+1:=by simp
 let e:FW (xs++[v]).length (-1)=R xs.length:=by ext FW;rw[a,ax (),av ()];congr 1;ext
 ext mo;rw[e];simp
def L8(b:Vr):Prop:=∀o i,subscripted b Uu o i=operate [o,i] (getItem o i)
def IxR(X:Cx)(r:R2):Prop:=
 ∀(d a:Vr) (b:G (J×Obj)) (s:Uv) (e:St) (H:Hp) (x y:V) (v u:M) (Q:VK),Inv X b e H s->RelV x v->RelV y u->r x y H Q->
  subscripted a Uu v u=operate [v,u] (getItem v u)->wpAny (model X.prog X.w) X.A (subscriptTail d a v u) (EP X b e Q) X.xe s
def QB(X:Cx)(id:String)(r:V->G V->Hp->VK->Prop):Prop:=
 ∀(a:G (J×Obj)) (s:Uv) (b:St) (H:Hp) (x:V) (xs:G V) (v:M) (d:G M) (Q:VK),Inv X a b H s->RelV x v->Vals xs d->r x xs H Q->
  wpAny (model X.prog X.w) X.A (call (.builtin id) (v::d)) (EP X a b Q) X.xe s
section
variable{X:Cx}{a b:Vr}{ta tb:TE}{Z:Pos}
def IxR.or(h:IxR X r)(c:IxR X r'):IxR X (λx y H Q=>r x y H Q\/r' x y H Q):=by
 intro d e f s g H x y v u Q I j i q l;rcases q with q|q
 .show h d e f s g H x y v u Q I j i q l
 .show c d e f s g H x y v u Q I j i q l
def b0{r:R2}(l:IxR X r)(c:PE X a ta)(m:PE X b tb)(j:L8 b):PE X (.Subscript a b Z) (Pi r ta tb):=by intro d s e H Q I h;show Subscript_ (Ot c m I h λv u f x y o n i g q=>l a b d f e o x y v u Q n i g q (j _ _))
def Re(K:lD):R2:=λx y H Q=>∃p xs i v,x=.ref p/\y=.int i/\Yh K H p xs/\mo xs i=R v/\Q v H
def Ry(K:lD):R2:=λx y H Q=>∃p xs i v,x=.ref p/\y=.int i/\X5 K H p xs/\mo xs i=R v/\Q v H
def Sd:R2:=λx y H Q=>∃z i c,x=.str z/\y=.int i/\z.length<=UG/\mo z.cps.toList i=R c/\Q (.str #[#v[c]]) H
def Kz:IxR X (Re X.K):=by
 intro g l d s C H x y v u Q I F E h o;let(p,xs,i,z,rfl,rfl,G,L,q):=h;ext F;let(t,rfl):=E;let(P,r,pl,R):=I.list G;let(j,f,O,S,N,M):=xP L;let(w,B,m):=r.get O;let J:=r.length;let K:=rj;let e:EP X d C Q w s:=#[z,H,I,m,q];by_cases A:0<=i
 .let n:i.toNat=j:=by
   rw[ae7 A M]at f;show UU f
  show item_listR pl.isList A () (by rw[n];simpa using B) e o
 .let n:(i+(P.toArray.size:Int)).toNat=j:=by
   rw[aeg () N]at f;rw[UE,<-J];show UU f
  show subscriptTail_builtinR pl.isList.typeIs agI.lookup
   (wpAny_getItem_list_neg pl.isList () (by rw[UE]<;>ext) () (by rw[n];simpa using B) #[W,e]) o
def Qk:IxR X (Ry X.K):=by
 intro e f d s m H x y v u Q I o n h A;let(p,xs,i,z,rfl,rfl,B,E,q):=h;ext o;let(t,rfl):=n;let(P,r,pl,L):=I.tuple B;let(j,G,F,O,N,M):=xP E;let(w,J,g):=r.get F;let C:=r.length;let K:=rj;let l:EP X d m Q w s:=#[z,H,I,g,q];show subscriptTail_builtinR pl.typeIs slot_tuple_getitem.lookup
  (getItem_tuple pl () () (by rw[UE,<-C];show G) (by simpa using J) #[W,l]) A
def OD:IxR X Sd:=by
 intro d e f s E H x y v u Q I m l h n;let(z,i,c,rfl,rfl,G,p,q):=h;let(t,rfl):=m;let(F,rfl):=l;let(j,g,A,J,w,r):=xP p;let o:z.cps.toList.length=z.length:=by simp[Str.length]
 rw[o]at g w r;let K:=rj;show tail_any (Y3 s z t) slot_str_getitem.lookup (getItem_str (by let C:decide (i< -(2^63:Int))=Uu:=a6 ();let B:decide (i≥2^63)=Uu:=a6 ();rw[C,B,aax]) (by rw[g];simpa using A) #[.str #[#v[c]],H,I.tok _,#[_,W],q]) n
def Sw(K:lD):R2:=λx y H Q=>Re K x y H Q\/Ry K x y H Q\/Sd x y H Q
theorem bj:IxR X (Sw X.K):=Kz.or (Qk.or OD)
def BL(d:G M)(n j:Nat)(u:M):Obj.mapSeq (·.setIfInBounds j u) {cls:=.type "list",data:=.seq d.toArray n}={cls:=.type "list",data:=.seq (d.set j u).toArray n}:=by simp[Obj.mapSeq]
def Inv.lst(I:Inv X pins σ H s)(h:H p=R (.lst xs)):
  ∃(d:G M) (n:Nat),Vals xs d/\s.heap.get? p=R {cls:=.type "list",data:=.seq d.toArray n}/\xs.length<=UG:=by
 let(z,d,n,r,e):=I.Wf p _ h;show#[d,n,r,e,z]
def Inv.agr{g:G (J×Obj)}{l:St}{H:Hp}{s:Uv}{p:J}{xs i:G V}{o d:G M}{n j:Nat}{f:Obj->Obj}(I:Inv X g l H s)(h:H p=R (.lst xs))
  (v:s.heap.get? p=R {cls:=.type "list",data:=.seq o.toArray n}) (m:f {cls:=.type "list",data:=.seq o.toArray n}={cls:=.type "list",data:=.seq d.toArray j}) (r:Vals i d) (c:i.length<=UG) (t:Nat):
  Inv X g l (cy H p (.lst i)) {s with heap:=s.heap.update p f,toks:=t}:=by
 let e:(s.heap.update p f).get? p=R {cls:=.type "list",data:=.seq d.toArray j}:=by rw[dt f v (by rw[m]<;>rfl),m]
 show I.write (x:=p) (e:=p) (by rw[h];trivial) (.inl W) (λb u w q=>(dg _ _ (d0 w)).trans q) #[_,e] ?_;show#[c,d,j,r,e]
def ML:V->V->V->Hp->(Hp->Prop)->Prop:=λo i v H Q=>∃p xs k j,o=.ref p/\i=.int k/\H p=R (.lst xs)/\FW xs.length k=R j/\Q (cy H p (.lst (xs.set j v)))
def IM:Q4 X ML:=by
 intro l s J H o i v K L u Q I C E N h;let(p,xs,k,j,rfl,rfl,m,G,q):=h;ext C;let(t,rfl):=E;let(A,n,r,e,F):=I.lst m;let(d,M,y,w):=Dr G;let f:=r.length;let O:=rj
 let B:=
  I.agr m e (BL A n j u) (r.set N j) (by rw[VO];show F) s.toks
 by_cases z:0<=k
 .let g:k.toNat=j:=by
   rw[ae7 z w]at d;show UU d
  show PySem.W.ki_setAt e z () (by rw[UE,<-f];show w) (by rw[g];show#[_,B,q])
 .let g:(k+(A.toArray.size:Int)).toNat=j:=by
   rw[aeg () y]at d;rw[UE,<-f];show UU d
  show PySem.W.ki_setBack e () (by rw[UE,<-f];show y) () (by rw[g];show#[_,B,q])
def xY(lo c:cv Int)(n:Nat):(sliceBounds lo c L n).1=((HT.sIx n 0 lo:Nat):Int)/\(sliceBounds lo c L n).2.1=((HT.sIx n n c:Nat):Int)/\(sliceBounds lo c L n).2.2=1:=by
 show#[?_,?_,W]
 .cases lo with
  |none=>simp[sliceBounds,HT.sIx]
  |some i=>
   simp only[sliceBounds,HT.sIx,ad4,show(1:Int)>0 by decide,if_true];by_cases h:i<0
   .simp only[h,if_true]<;>ext
   .simp only[h,if_false]<;>ext
 .cases c with
  |none=>simp[sliceBounds,HT.sIx]
  |some i=>
   simp only[sliceBounds,HT.sIx,ad4,show(1:Int)>0 by decide,if_true];by_cases h:i<0
   .simp only[h,if_true]<;>ext
   .simp only[h,if_false]<;>ext
def wj(d:G M)(lo c:cv Int):slicePick d.toArray lo c L=((d.drop (HT.sIx d.length 0 lo)).take (HT.sIx d.length d.length c - HT.sIx d.length 0 lo)).toArray:=by let(g,f,e):=xY lo c d.toArray.size;ext slicePick;rw[g,f,e];simp only[sliceRange_one,pick_run,UE]<;>rfl
def Q5(K:lD):V->cv Int->cv Int->Hp->VK->Prop:=λx lo d H Q=>∃a xs,x=.ref a/\Yh K H a xs/\∀p,H p=L->Q (.ref p) (cy H p (.lst (Fq xs lo d)))
def Lm:Q2 X (Q5 X.K):=by intro e s n H x v p o lo y t Q I g m pl i h;let(a,xs,rfl,l,q):=h;ext g;let(w,r,f,j):=I.list l;let d:=r.length;show#["list",_,agI.lookup,f.isList.typeIs,?_];show wpAny_getItem_list_slice f.isList m pl i .none (by simp) ?_ (by rw[UE]<;>ext);rw[wj,<-d];show#[.ref s.heap.objs.size,_,I.laid (λb u q=>c5 _ q) (Uy _) ?_,W,q _ (I.Wf.fresh (Uy _))];show#[Vn (sA xs lo y) j,_,0,(r.drop (HT.sIx xs.length 0 lo)).take (HT.sIx xs.length xs.length y - HT.sIx xs.length 0 lo),da _ W]
def W6.or(h:W6 X f r)(c:W6 X f r'):W6 X f (λxs H Q=>r xs H Q\/r' xs H Q):=by
 intro d s e H xs g Q I i q;rcases q with q|q
 .show h d s e H xs g Q I i q
 .show c d s e H xs g Q I i q
def yO:W6 X (.type "list") (λxs H Q=>∃p ys,xs=[.ref p]/\(Yh X.K H p ys\/X5 X.K H p ys)/\∀l,H l=L->Q (.ref l) (cy H l (.lst ys))):=by
 intro j s C H xs F Q I r h;let(p,ys,rfl,t,q):=h;let(u,rfl,E):=ie r;ext E
 let y:∀(f:G M),Vals ys f->ys.length<=UG->∀(d:Heap) (i:Nat),(∀b w,s.heap.get? b=R w->d.get? b=R w)->
   d.get? s.heap.objs.size=R {cls:=.type "list",dict:=L,data:=.seq f.toArray i,slots:= #v[]}->EP X j C Q (.ref s.heap.objs.size) {s with heap:=d}:=λf g m d i kp e=>
  #[.ref s.heap.objs.size,_,I.laid kp (Uy _) (show ObjOk X.prog X.w _ d _ (.lst ys)from#[m,f,i,g,e]),W,q _ (I.Wf.fresh (Uy _))]
 rcases t with t|t
 .let(f,g,pl,m):=I.list t;let v:=g.length;let(o,z,B,n,A):=pl.isList;show akM p (.inl W) z B A (λd i kp e=>y f g m d i kp e) (by simp only[UE]<;>ext)
 .let(f,g,pl,m):=I.tuple t;let v:=g.length;let(o,z,B,n,A):=pl;show akM p (.inr W) z B A (λd i kp e=>y f g m d i kp e) (by simp only[UE]<;>ext)
def dU:W6 X (.type "tuple") (λxs H Q=>∃p ys,xs=[.ref p]/\((Yh X.K H p ys/\∀l,H l=L->Q (.ref l) (cy H l (.tup ys)))\/(X5 X.K H p ys/\Q (.ref p) H))):=by
 intro g s z H xs A Q I r h;let(p,ys,rfl,h):=h;let(u,rfl,t):=ie r;ext t;rcases h with⟨f,q⟩|⟨f,q⟩
 .let(m,d,pl,i):=I.list f
  let j:=d.length;show call_tuple_list pl.isList (λv kp=>?_) (by simp only[UE]<;>ext);let n:=I.kept (t':=s.toks) kp
  let y:=
   n.laid (t':=s.toks) (λb o e=>c5 _ e) (Uy _) (show ObjOk X.prog X.w _ _ _ (.tup ys)from#[i,m,d,abi.new _ _])
  show#[.ref v.objs.size,_,y,W,q _ (n.Wf.fresh (Uy _))]
 .let(m,d,pl,i):=I.tuple f;show call_tuple_same pl #[.ref p,H,I,W,q]
def TH(K:lD)(T:String)(x:V)(H:Hp):Prop:=match x with
 |.str _=>T= "str"
 |.int _=>T= "int"
 |.ref p=>(T= "list"/\∃xs,Yh K H p xs)\/(T= "tuple"/\∃o,K.lookup p=R o/\o.cls=.type "tuple"/\o.dict=L)\/
   (T= "dict"/\((∃d,H p=R (.dK d))\/∃d,H p=R (.dT d)))\/(T= "set"/\∃S n,H p=R (.set S n))
 |_=>False
def GD(I:Inv X pins σ H s)(r:RelV x v)(ty:TH X.K T x H):
  s.TypeIs v T/\∀a,v=.ref a->∃k,s.heap.get? a=R k/\k.dict=L:=by
 cases x with
 |str z=>let(t,rfl):=r;cases(show T= "str" from ty);show#[Y3 s z t,λ_ e=>nomatch e]
 |int i=>let(t,rfl):=r;cases(show T= "int" from ty);show#[abr s i t,λ_ e=>nomatch e]
 |ref p=>
  ext r;rcases ty with⟨rfl,xs,j⟩|⟨rfl,o,d,l,g⟩|⟨rfl,d⟩|⟨rfl,S,n,d⟩
  .let(m,_,pl,_):=I.list j;show#[pl.isList.typeIs,λa e=>?_];ext e;let(o,n,e,c,g,_):=pl;show#[o,e,g]
  .show#[#[o,I.kIn p o d,l],λa e=>?_];ext e;show#[o,I.kIn _ o d,g]
  .let z:∃o,s.heap.get? p=R o/\o.ExactDict:=by
    rcases d with⟨q,d⟩|⟨q,d⟩
    .let(_,_,_,_,o,_,_,e,f,_):=I.Wf p _ d;show#[o,e,f]
    .let(_,_,_,_,o,_,_,e,f,_):=I.Wf p _ d;show#[o,e,f]
   let(o,e,f):=z;show#[#[o,e,f.1],λa h=>?_];ext h;show#[o,e,f.2.1]
  .let(o,_,_,_,e,f,_):=I.Wf p _ d;show#[#[o,e,f.1],λa h=>?_];ext h;show#[o,e,f.2.1]
 |_=>show False.elim ty
def QW(K:lD)(T:String)(r:V->G V->Hp->VK->Prop)(to:TE):TE:=λe H Q=>to e H λx d=>TH K T x d/\r x [] d Q
def Rk(K:lD)(T:String)(r:V->G V->Hp->VK->Prop)(to:TE)(t:TA):TE:=λd H Q=>to d H λx e=>TH K T x e/\t d e λxs f=>r x xs f Q
variable{o e:Vr}{U:cn Vr}{to:TE}{t:TA}{S:Str}{Z Y:Pos}{T id:String}{r:V->cn V->Hp->VK->Prop}
def Gw(p:PlainAttrs T)(slot:Slot T S id)(f:typeOf (.builtin id)=pure (.type "method_descriptor"))(hm:QB X id r)(q:PE X o to)
  (g:attributeBase o S X.env (eval o X.env)=eval o X.env:=by rfl) (i:(Z.endLine==Y.line)=P:=by rfl):PE X (.Call (.Attribute o S Z) [] [] Y) (QW X.K T r to):=by
 intro d s j H Q I h;show wpAny_Call_method0_late g i (dS (q d s j H _ I h) λv m a=>?_);let(x,y,l,r1,ty,n):=a;let(w,u):=GD l r1 ty;show#[T,id,p,slot,f,w,u,Calls.callWith_builtin W (PySem.evalArgs_none (hm d m j y x [] v [] Q l r1 .nil n))]
def gx(B:PlainAttrs T)(slot:Slot T S id)(g:typeOf (.builtin id)=pure (.type "method_descriptor"))(hm:QB X id r)(E:PE X o to)(c:PA X (e::U) t)
  (l:attributeBase o S X.env (eval o X.env)=eval o X.env:=by rfl)
  (i:((backTo Y (U4 (e::U) X.env)).all (λx=> !x.1)&&(backToKw Y (keywordEach [] X.env)).all (λx=>x.1.isSome)
   &&decide ((e::U).length+([]:cn aa3).length+(if([]:cn aa3).isEmpty then 0 else 1)<30))=P:=by rfl)
  (m:(Z.endLine==Y.line)=P:=by rfl) (C:U4 (e::U) X.env=(Uu,eval e X.env)::U4 U X.env:=by rfl) (j:(backTo Y (U4 U X.env)).any (·.1)=Uu:=by rfl):
  PE X (.Call (.Attribute o S Z) (e::U) [] Y) (Rk X.K T r to t):=by
 intro d s f H Q I h;show wpAny_Call_method_late l i m W (dS (E d s f H _ I h) λv w a=>?_);let(x,O,p,r1,ty,A):=a;let(G,F):=GD p r1 ty;show#[T,id,B,slot,g,G,F,?_];let n:=c Y d w f O _ p A;rw[C]at n⊢;show Calls.callWith_builtin (by show(Uu||(backTo Y (U4 U X.env)).any (·.1))=Uu;rw[j]<;>rfl) (Calls.evalArgs_plain ?_);show dS n λq u #[vs,N,K,y,z]=>hm d u f N x vs v q Q K r1 y z
end
def TN(X:Cx)(id:String)(r:V->G V->Hp->VK->Prop):Prop:=
 ∀(a:G (J×Obj)) (s:Uv) (b:St) (H:Hp) (x:V) (xs:G V) (v:M) (d:G M) (Q:VK),Inv X a b H s->RelV x v->Vals xs d->r x xs H Q->
  wpAny (model X.prog X.w) X.A (call (.builtin id) (v::d)) (EP X a b Q) X.xe s
theorem Vals.one:∀{x:V} {us:G M},Vals [x] us->∃u,us=[u]/\RelV x u
 |_,_,.cons r .nil=>#[_,W,r]
theorem Vals.rep(h:Vals xs us):∀k:Nat,Vals (Us k xs).flatten (Us k us).flatten
 |0=>.nil
 |k+1=>by rw[Vx,Vx,Wn,Wn];show Vals.append h (Vals.rep h k)
theorem rh(b:G M):∀(k:Nat) (a:G M),
  Zu (λf c=>f++c) a.toArray (Us k b.toArray)=(a++(Us k b).flatten).toArray
 |0,a=>by simp
 |k+1,a=>by
  let e:a.toArray++b.toArray=(a++b).toArray:=by simp
  let d:(a++b)++(Us k b).flatten=a++(Us (k+1) b).flatten:=by rw[Vx,Wn,Vl]
  rw[<-d,<-rh b k (a++b),<-e,Vx,ZD]
section
variable{X:Cx}{Z:cn (Uw×Obj)}{Y:St}{H:Hp}{s:Uv}{l b:Uw}{T U S:cn V}
def Inv.aht{d a:G M}(I:Inv X Z Y H s)(m:H l=R (.lst T))
  (e:s.heap.get? l=R {cls:=.type "list",data:=.seq d.toArray n}) (i:f d.toArray=a.toArray) (g:Vals U a) (c:U.length<=UG):
  Inv X Z Y (cy H l (.lst U)) {s with heap:=s.heap.update l (Obj.mapSeq f),toks:=t'}:=by
 let q:=alC e f;rw[i]at q;show I.write (by rw[m];show trivial) (.inl W) (λo u j h=>(dg s.heap (Obj.mapSeq f) (d0 j)).trans h) #[_,q] ?_;show#[c,a,_,g,q]
theorem Inv.aga(I:Inv X Z Y H s)(a:Vals U Vg)(c:U.length<=UG):
  Inv X Z Y (cy H s.heap.objs.size (.lst U)) {s with heap:=s.heap.push {cls:=.type "list",data:=.seq Vg.toArray},toks:=t'}:=
 I.laid (λ_ _ q=>c5 _ q) (Uy _) #[c,Vg,0,a,da _ W]
theorem Inv.fresh(I:Inv X Z Y H s):H s.heap.objs.size=L:=I.Wf.fresh (Uy _)
def Inv.afv(I:Inv X Z Y H s)(d:H l=R (.lst T)):T.length<=UG/\∃(a:G M) (n:Nat),Vals T a/\T.length=a.length/\s.heap.get? l=R {cls:=.type "list",data:=.seq a.toArray n}:=by let(z,a,n,r,e):=I.Wf l _ d;show#[z,a,n,r,r.length,e]
def z5(h:n<=UG):U3.List.listTooLong n=Uu:=by ext U3.List.listTooLong;show a6 ()
end
section
variable{X:Cx}
def xE:V->G V->Hp->VK->Prop:=λx a H Q=>∃l xs y,x=.ref l/\a=[y]/\H l=R (.lst xs)/\xs.length<UG/\Q .Xp (cy H l (.lst (xs++[y])))
def kQ:TN X "list.append" xE:=by intro a s i H x t v j Q I d p h;let(l,xs,y,rfl,rfl,b,m,q):=h;ext d;let(u,rfl,f):=p.one;let(z,g,n,r,o,e):=I.afv b;show Xb F.slot_list_append #[_,e,W] F.entry_list_append (F.args_list_append_2 _ _) (PySem.list_append l g.toArray n u (by rw[UE];ext)) #[e,?_];show#[.Xp,_,I.aht b e (by simp) (r.append (.cons f .nil)) ?_,W,q];rw[UB,WG];ext
def DN:V->G V->Hp->VK->Prop:=λx a H Q=>∃l b xs zs,x=.ref l/\a=[.ref b]/\H l=R (.lst xs)/\H b=R (.lst zs)/\xs.length+zs.length<=UG/\Q .Xp (cy H l (.lst (xs++zs)))
def rS:TN X "list.extend" DN:=by
 intro i s B H x O v G Q I m N h;let(l,b,xs,C,rfl,rfl,j,y,J,q):=h;ext m;let(u,rfl,o):=N.one;ext o;let(z,d,n,r,K,e):=I.afv j;let(E,a,t,p,w,A):=I.afv y;let f:d.toArray.size+a.toArray.size<=UG:=by rw[UE,UE];ext
 let g:¬(!d.toArray.isEmpty&&U3.List.listTooLong (d.toArray.size+a.toArray.size))=P:=by rw[z5 f,afD];show Ux
 show Xb F.slot_list_extend #[_,e,W] F.entry_list_extend (F.args_list_extend_2 _ _)
  (AutoSeq1.list_extend_list_list_0 l d.toArray n b a.toArray t g (by rw[UE];ext) ()) #[e,A,?_]
 show#[.Xp,_,I.aht j e (by simp) (r.append p) ?_,W,q];rw[UB];ext
def CK(xs:G α)(k:Nat):(Us k xs).flatten.length=k*xs.length:=by
 induction k with
 |zero=>simp
 |succ k a=>rw[Vx,Wn,UB,a,ahc,abf]
end
section
variable{Z:UY}{w:Vi}{A:Vc}{E:Um->Uv->Prop}{s:Uv}
set_option maxRecDepth 100000 in
end
end L2
namespace Att
open PySem PySem.W PySem.Calls PyProof.Rows
def tq:∀(ns:G Int) (c:G M),WellAll e h c (ns.map WData.int)->IntsAre c ns:=by
 intro ns
 induction ns with
 |nil=>intro c w;rw[Zt]at w;ext w;show .nil
 |cons n ns d=>
  intro c w;rw[UM]at w;cases w with
  |cons a b=>ext a;show .cons _ _ (d _ b)
def Ez{l:OpenLaw}(k:l.most=R n)
  (e:l.row.toRowW.claim.pre args=Uq) (i:WellAll A h vals args):
  ∃a c ns,vals=[Um.ref a]/\args=[WData.list (ns.map WData.int)]/\h.get? a=R {cls:=.type "list",data:=.seq c.toArray}/\IntsAre c ns/\ns.length<=n:=by
 let j:=(pre_splitW e).1;let o:l.pre.holds [] {args:=args}=Uq:=(pre_splitW e).2;let(d,r,rfl,z,y):=hasAllW_cons j;obtain rfl:=hasAllW_nil y;let(xs,rfl,w):=hasW_list z;let(ns,rfl):=items_int w;let b:ns.length<=n:=by
  unfold OpenLaw.pre at o;let g:(WTm.not (.lt (.lit (.int (n:Int))) (.len (.arg 0)))).holds [] {args:=[.list (ns.map .int)]}=Uq:=by let g:=(holds_andW o).1;rw[k]at g;show g
  let f:=condW_of g (w_not (w_lt w_lit (w_len_list (w_arg W))));rw[Ur]at f;show Nat.le_of_not_lt λq=>?_;let u:(n:Int)<((ns.length:Nat):Int):=by ext
  first
   |(rw[aP u]at f;show bg f ())
   |(simp at f;ext)
 cases i with
 |cons t p=>
  ext p;cases t with
  |list v m=>show#[_,_,ns,W,W,v,tq ns _ m,b]
theorem Fz(l:OpenLaw)(args:G WData):l.row.toRowW.claim.post args (.bool P) args=P:=
 postW_of
  (show WShape.has [] (.bool P) .bool=P by first|rfl|decide|simp[WShape.has,WShape.arms,WShape.armsAll])
  (show(WTm.eq .res (.lit (.bool P))).value [] {args:=args,res:=R (.bool P),after:=args}=R (.bool (P==P))from w_eq_bool (w_res W) w_lit) W
def attach_call{l:OpenLaw}{n:Nat}{q:UY}{e:cn Str}{H:(Str->cv Um)->Heap->Prop}{F:Vi->Heap->Prop}{d:DefRec}
  (T:l.most=cL n) (v:d.params.defaults=[])
  (call:∀(w:Vi) (c b:Uv) (D p:Str->cv Um) (s:Uw) (o:Obj) (m j h:Um) (a:Uw) (k:cn Um) (ns:cn Int),
   Ground q e [] H w c D p b.heap->F w b.heap->
   b.heap.get? s=cL o->o.data=.func (docDef d.name d.params d.body d.scope m j h)->b.heap.CodeRec j d.name->D d.name=cL (.ref s)->
   b.heap.get? a=cL {cls:=.type "list",data:=.seq k.toArray}->IntsAre k ns->ns.length<=n->b.gens= #v[]->
   codeAny (model l.prog w) callerA (.call (.ref s) #[[.ref a],[]]) (λr x=>r=.ok (.ret (.bool Uq))/\OldK b.heap x.heap/\x.os=b.os/\AllBare x.gens) b):
  WalkO q e H F l.row.toRowW d [] (λf k=>ahd f k):=by
 intro w c b D p G Y s o m j h dV kV K N y C u M E B S A R I t L;obtain rfl:dV=.none:=Dflts.none C v;obtain rfl:kV=.none:=Dflts.noKw C;let(a,k,ns,rfl,rfl,z,g,i):=Ez T A t;show enter_call (YQ (call w c b D p s o m j h a k ns G Y K (fd_plain N) y u z g i M) λr x J=>?_);let(rfl,Q,P,O):=J;show#[.inl #[.bool Uq,.bool Uq,[],W,λ_=>W,.bool Uq,Fz l _,λ_=>#[Xq,λ_ hm=>(nomatch hm)]],Q,P,O]
end Att
namespace L2
open PySem PySem.Spec PyProof.Rows
theorem kP:∀{a:G M} {ns:G Int},IntsAre a ns->Vals (ns.map V.int) a
 |_,_,.nil=>.nil
 |_,_,.cons n t h=>.cons #[t,W] (kP h)
def QM(H:Hp):Prop:=∀b,H b=L\/∃o xs,H b=R (.frz o (.lst xs))
def Jy{P:UY}{w:Vi}{K:lD}{mg G:Str->cv Um}{CX:zZ}{k:Nat}{fa a:Uw}{X:V3}{x:Str}{sp:Sp}{f:Uv}{D:cn Um}{ns:cn Int}
  (KX:K.In f.heap) (p:f.heap.Ns UI mg) (g:f.heap.Ns builtinsNs G) (J:∀x:Str,x≠ "__name__"->G x=Vu x) (Q:f.heap.NoLimit) (hg:f.gens= #v[])
  (ha:f.heap.get? a=cL {cls:=.type "list",data:=.seq D.toArray}) (hi:IntsAre D ns) (S:ns.length<=UG) (hr:W0 k callerA)
  (F:∀base:Heap,K.In base->base.Ns UI mg->FnOk P w K mg base CX k fa X [x] sp) (R:∀(s:Uv) (u:Um),aa2 s X #[[u],[]] [(x,u)])
  (I:∀H:Hp,QM H->Yh K H a (ns.map V.int)->sp [.ref a] H (λv _=>v=.bl Uq) λ_ _ _=>False)
  (L:∀H e c,CX [] H f (λ_ _ _=>False) e c->False):
  codeAny (model P w) callerA (.call (.ref fa) #[[.ref a],[]]) (λr c=>r=.ok (.ret (.bool Uq))/\OldK f.heap c.heap/\c.os=f.os/\AllBare c.gens) f:=by
 let rv:=kP hi;let O:=hi.length
 let j:∀H:Hp,QM H->Yh K H a (ns.map V.int)->HOk P w H f.heap->(∀b,H b≠CL->b=a)->(H a≠CL->K.lookup a=CL)->
   codeAny (model P w) callerA (.call (.ref fa) #[[.ref a],[]]) (λr c=>r=.ok (.ret (.bool Uq))/\OldK f.heap c.heap/\c.os=f.os/\AllBare c.gens) f:=by
  intro H T hS Z U hK;let C:∀{b:Uw} {o:Obj},f.heap.get? b=cL o->H b=CL->(yV f.heap H).get? b=cL o:=λe n=>JG e n;let E:∀{b:Uw} {o:Obj} {y:Array aa1} {A:Nat},f.heap.get? b=cL o->o.data=.dict y A->H b=CL:=λ{b o y A} e d=>by
   cases q:H b with
   |none=>rfl
   |some u=>let M:b=a:=U b (by rw[q];simp);subst M;rw[ha]at e;ext e;let d':abt.seq D.toArray _=abt.dict y A:=d;ext d'
  let i:∀{b:Uw} {m:Str->cv Um},f.heap.Ns b m->(yV f.heap H).Ns b m:=λ{b m} #[o,y,A,e,d,r]=>#[o,y,A,C e (E e d),d,r];let t:K.In (yV f.heap H):=λb o e=>C (KX b o e) (by
   cases q:H b with
   |none=>rfl
   |some u=>let M:b=a:=U b (by rw[q];simp);subst M;rw[hK (by rw[q];simp)]at e;ext e)
  let hM:Mod K mg (yV f.heap H):=#[t,i p,#[G,i g,J],let#[mc,h1,h2]:=Q;#[mc,i h1,h2]];let e0:Env0 P w K mg (yV f.heap H) callerA [] f H:=#[W,hM,λb o e=>LH e,aha (Fs _ _),trivial,λb g=>bg (show b∈([]:cn Uw)from g) (by simp),Z,.of_eq hg];show YQ ((F _ t (i p)).run callerA [] f H #[[.ref a],[]] [.ref a] [.ref a] _ _ hr e0 (R f (.ref a)) (.cons W .nil) (I H T hS)) λr c h=>?_;cases r with
  |error e=>show(L H e c h).elim
  |ok fl=>
   cases fl with
   |next=>show False.elim h
   |brk=>show False.elim h
   |cont=>show False.elim h
   |ret u=>
    let(v,H',os,B,un,N,r',q):=h;let q':v=.bl Uq:=q;subst q';obtain rfl:u=Um.bool Uq:=r';show#[W,OldK.of_keep λb o e=>?_,os,B];cases q:H b with
    |none=>show un.keep b o e q (by intro z;show bg (show b∈([]:cn Uw)from z) (by simp)) (by simp)
    |some u=>
     rcases T b with z|⟨ob,xs,z⟩
     .rw[q]at z;ext z
     .let z2:=un.ace b ob _ z;let(Y,_):=Z b _ z;let(e2,_):=N b _ z2;rw[e]at Y;ext Y;show e2
 cases hk:K.lookup a with
 |some o=>let e:=KX a o hk;rw[ha]at e;ext e;show j (λ_=>CL) (λ_=>.inl W) (.inr #[_,D.toArray,_,hk,W,W,W,by rw[UE,O];show S,by simpa using rv]) (λb u z=>by let l:(CL:cv HO)=cL u:=z;ext l) (λb z=>bg W z) λz=>bg W z
 |none=>
  show j (λb=>if b=a then cL (.frz {cls:=.type "list",data:=.seq D.toArray} (.lst (ns.map V.int)))else CL) (λb=>?_) (.inl (.inr #[{cls:=.type "list",data:=.seq D.toArray},av W])) (λb u z=>?_) (λb z=>?_) λ_=>hk
  .by_cases g:b=a
   .show .inr #[_,_,av g]
   .show .inl (ax g)
  .by_cases g:b=a
   .let l:=(av g).symm.trans z;ext l;subst g;show#[ha,by rw[Ur];show S,D,_,rv,ha]
   .let l:=(ax g).symm.trans z;ext l
  .by_cases g:b=a
   .show g
   .show bg (ax g) z
def aU(s:Xg)(j:Nat):Xg:=match s with
 |.ClassDef _ _ _ body _ _ _ _ _ _ _=>body.getD j (.Pass #[0,0,0,0])
 |_=>.Pass #[0,0,0,0]
def nX(s:Xg):Arguments:=match s with
 |.FunctionDef _ a _ _ _ _ _ _ _ _=>a
 |_=>{posonlyargs:=[],args:=[],vararg:=L,kwonlyargs:=[],kw_defaults:=[],kwarg:=L,defaults:=[]}
def gR(s:Xg):G Xg:=match s with
 |.FunctionDef _ _ b _ _ _ _ _ _ _=>b
 |_=>[]
def bH(s:Xg):Yr:=match s with
 |.FunctionDef _ _ _ _ _ _ sc _ _ _=>sc
 |_=>{kind:=.function,names:=[],isGenerator:=Uu,isCoroutine:=Uu}
abbrev cz:zZ:=λ_ _ _ _ _ _=>False
abbrev E0:XK:=λ_ _ _=>False
theorem oz:jg cz X E0:=λ_ _ _ _ _ _ _ h=>h.elim
structure WA(K:lD)(x qual:Str)(st:Xg)(f:J)(fd:V3):Prop where
 ex:∃(oc:M) (od:cv J) (kV doc pm:M) (an:cv J) (V6 ct:M) (osl:Array (cv M)),
  fd=Xi x qual (nX st) (gR st) (bH st) .none kV doc pm an V6 ct/\K.lookup f=R #[oc,od,.func fd,osl]/\ZC K V6 qual=P
 kp:WQ K (.ref f)=P
section
variable{P:UY}{w:Vi}{K:lD}{Y:Str->cv Um}{Z:Heap}
def WA.ok{x a:Str}{st:Xg}{f:J}{g:V3}{N v:G Str}{k:Nat}{sp:Sp}(F:WA K x a st f g)(S:YB N v (bH st))(len:∀c H Q E,sp c H Q E->c.length=v.length)
  (n:∀(b:M) (A:Vc) (outer:G Env) (s:Uv) (H:Hp) (c:G V) (Q:VK) (E:XK),W0 k (A.deeper (envOfC a (bH st) s.heap.objs.size f b))->sp c H Q E->
   ∃t,PSs (uR cz P w K Y Z N a (bH st) f b A outer s H E).nox (gR st) t/\t {nx:=λ_ y=>Q .Xp y,rt:=Q} (start N c) H):FnOk P w K Y Z cz (k+1) f g v sp:=by
 let(r,p,kV,m,o,u,b,ct,i,rfl,j,e):=F.ex;show Rc j e S len λA outer s H c Q E l d=>?_;let(t,h,q):=n b A outer s H c Q E l d;show#[t,h.nox,q]
def WA.binds{x a:Str}{st:Xg}{f:J}{i:V3}{c:G Str}(F:WA K x a st f i)
  (h:∀(kV b d:M) (e:cv J) (g ct:M) (us:G M),us.length=c.length->bindArgs (Xi x a (nX st) (gR st) (bH st) .none kV b d e g ct) #[us,[]]=pure (c.zip us)):Binds K i c []:=by
 let(n,m,kV,b,d,e,g,ct,j,rfl,o,l):=F.ex;show .all (h kV b d e g ct)
theorem Hw{st:Xg}{kV a d b ct:M}(l:K.lookup f=R #[I,C,.func (Xi x qual (nX st) (gR st) (bH st) .none kV a d an b ct),o])
  (c:ZC K b qual=Uq) (k:WQ K (.ref f)=Uq):WA K x qual st f (Xi x qual (nX st) (gR st) (bH st) .none kV a d an b ct):=#[#[I,C,kV,a,d,an,b,ct,o,W,l,c],k]
end
theorem MM(a:W0 k A):A.units+1<cLine:=Nat.lt_of_le_of_lt (Nat.add_le_add_left (by decide:1<=64) _) a.units
section
variable{X:Cx}
theorem pv(i:Nat)(d:X.N[i]?=R x:=by rfl)(b:Ta X.env.scope x:=by first|show br W|show bP (br W)|show bP (bP W))(hd:(x==("__debug__":Str))=Uu:=by decide)
  (a:(x==("__classdict__":Str))=Uu:=by decide):PE X (.Name x pos) (ET i):=Oa d b hd a
end
def Wr(H a:Hp):Prop:=∀b o,H b=R o->a b=R o
theorem Wr.refl(H:Hp):Wr H H:=λ_ _ h=>h
theorem Wr.trans(a:Wr H H1)(b:Wr H1 H2):Wr H H2:=λc o h=>b c o (a c o h)
def Wr.free(e:Wr H H')(h:H' l=L):H l=L:=by
 cases q:H l with
 |none=>rfl
 |some o=>rw[e l o q]at h;ext h
end L2
set_option maxHeartbeats 4000000
namespace L2
open PySem PySem.Spec PyProof.Rows
section
variable{X:Cx}{Z:cn (Uw×Obj)}{U:St}{H:Hp}{s:Uv}{Y:Heap}
def Inv.Y5{ch:G J}(I:Inv X Z U H s)(h:∀b∈ch,om X Z H b)
  (k:∀b u,b∉ch->s.heap.get? b=R u->Y.get? b=R u) (j:s.heap.objs.size<=p)
  (new:ObjOk X.prog X.w (cy H p o) Y p o):Inv X Z U (cy H p o) {s with heap:=Y,toks:=t'}:=by
 let w:=I.Wf.fresh j;let d:∀b u,H b=R u->b∉ch:=λb u e z=>by rw[(h b z).1]at e;ext e
 let g:∀b u,s.heap.get? b=R u->b≠p:=λb u e=>UP (UX (c6 e) j);show I.step (λb f=>?_) (λb u _ _ a e _=>k b u a e) (λb u _ _ a e _=>#[u.slots,k b u a e])
  (λb u _ e n=>by rw[bG (g b u e)];show n) (λb u a e=>#[u,k b u a e]) (λb xs e=>by rw[bG (cU e w)];show e)
  (λb u xs e=>by rw[bG (cU e w)];show e) (λb K e=>#[#v[],by rw[bG (cU e w),e];simp]) (λm hm=>?_) (λb u e=>?_) I.bare
 .let(_,B,_,A,y,t):=h b f;show#[A,B,y,t]
 .let(i,C,E,l,r):=hm;show#[i,C,E,k _ i (λz=>(h _ z).2.1 W) l,r]
 .by_cases f:b=p
  .subst f;rw[bp]at e;ext e;show new
  .rw[bG f]at e
   show(I.Wf b u e).adq (λc v a q=>k c v ?_ q) (λc q=>by rw[bG (cU q w)];show q) λc xs q=>by rw[bG (cU q w)];show q
   rcases a with z|z
   .rw[z];show d b u e
   .show d c _ z
end
def Sy(K:lD)(a:J):It:=
 #[λi H=>∃xs x,Yh K H a xs/\xs[i]?=R x,
  λi H v b=>∃p x,H p=L/\v=.ref p/\(∀xs,Yh K H a xs->xs[i]?=R x)/\b=cy H p (.tup [.int i,x]),
  λi H=>∃xs,Yh K H a xs/\xs.length<=i]
theorem Fw{K:lD}{c}(a e j:Uw)(Z:e≠j):
  Turn Pz0 w K (.Tuple elts c tp) (Sy K a) [e,j] e (λi h=>(∃old,ac2 h e j i old)/\h.IsListIter j a i) where
 mem:=by simp
 obj:=λi h m b g=>by
  let((old,l),o,C,_,d):=m;rcases UJ.mp g with z|g
  .subst z;show#[_,l,λv z=>by cases(show abt.fields _=abt.cell v from z)]
  .let z:b=j:=by simpa using g
   subst z;show#[o,C,λv z=>by rw[d]at z;ext z]
 keep:=λi h h' m k=>by let((old,l),f):=m;show#[#[old,k e (by simp) _ l],f.at λo q=>k j (by simp) o q]
 item:=by
  intro X N B O T i n s S H E I y m G;subst N B O;let((old,l),f):=m;let(xs,x,t,A):=G;let(Vg,rv,p,hz):=I.list t;let(u,hu,ru):=rv.get A;show wpAny_pyNext_enum_item l f p.isList (by simpa using hu) Z λh1 C Q hT hsz hk=>#[_,W,?_];show Y4 C λY J R=>?_;let r:=c6 l;let F:j<s.heap.objs.size:=by let(_,z,_):=f;show c6 z
  let hn:=I.Wf.fresh (Uy _);let c:∀b o,b∉[e,j]->s.heap.get? b=cL o->Y.get? b=cL o:=λb o g q=>by let U:b≠e:=λz=>g (by simp[z]);let h4:b≠j:=λz=>g (by simp[z]);show(R.2 b U).trans (hk b o U h4 q)
  let M:=(R.2 _ (VQ r)).trans hT
  let I2:Inv X n S (cy H s.heap.objs.size (.tup [.int i,x])) {s with heap:=Y,toks:=s.toks+1}:=
   I.Y5 y c (Uy _) #[by show 2<=UG;decide,[.int i s.toks,u],.cons #[_,W] (.cons ru .nil),#[_,M,#[W,_,W],W]]
  show#[.ref s.heap.objs.size,_,I2,W,#[_,x,hn,W,λys hy=>by rw[I.acH hy t];show A,W],#[#[u,J],Q.at λo q=>(R.2 j Z.symm).trans q],λb g=>?_];let L:b≠s.heap.objs.size:=by
   rcases UJ.mp g with z|g
   .rw[z];show UP r
   .rw[show b=j by simpa using g];show UP F
  rw[bG L];show(y b g).1
 done:=by intro X N B O T i n s S H E I y m G;subst N B O;let((old,l),f):=m;let(xs,t,A):=G;let(Vg,rv,p,hz):=I.list t;let(f0,f1,f2,f3,f4,f5):=y j (by simp);let hl:=rv.length;show wpAny_pyNext_enum_end (I.ok.hd T) l f p.isList (by simp;ext) λh1 eb=>#[W,I.turned (λb o g q=>eb b o g q) f0 f1 f3 f4 f5]
 self:=λ_ _ _ _ _ m h=>by let((old,l),_):=m;show Xo l h
mutual
inductive DV(K:lD)(H:Hp):V->Ut->Prop
 |Xp:DV K H .Xp .none
 |bl (b:Bool):DV K H (.bl b) (.bool b)
 |int (i:Int):DV K H (.int i) (.int i)
 |str (x:Str):DV K H (.str x) (.str x)
 |tup {a:Uw} {xs:cn V} {ds:cn Ut}:X5 K H a xs->Wb K H xs ds->DV K H (.ref a) (.tuple ds)
 |lst {a:Uw} {xs:cn V} {ds:cn Ut}:Yh K H a xs->Wb K H xs ds->DV K H (.ref a) (.list ds)
inductive Wb(K:lD)(H:Hp):cn V->cn Ut->Prop
 |nil:Wb K H [] []
 |cons {v:V} {vs:cn V} {d:Ut} {ds:cn Ut}:DV K H v d->Wb K H vs ds->Wb K H (v::vs) (d::ds)
end
section
variable{X:Cx}{Z:cn (Uw×Obj)}{σ:St}{H:Hp}{s:Uv}
mutual
theorem DV.reads(I:Inv X Z σ H s):∀{v:V} {d:Ut} {u:Um},DV X.K H v d->RelV v u->∃as,ac3 s.heap u d as
 |_,_,_,.Xp,r=>by cases r;exact⟨_,.none⟩
 |_,_,_,.bl b,r=>by cases r;exact⟨_,.bool b⟩
 |_,_,_,.int i,r=>by obtain⟨t,rfl⟩:=r;exact⟨_,.int i t⟩
 |_,_,_,.str x,r=>by obtain⟨t,rfl⟩:=r;exact⟨_,.str x t⟩
 |_,_,_,.tup h hs,r=>by cases r;obtain⟨a,rv,⟨o,e,c,n,d⟩,_⟩:=I.tuple h;obtain⟨as,q⟩:=Wb.reads I hs rv;exact⟨_,.tuple e c d (by simpa using q)⟩
 |_,_,_,.lst h hs,r=>by cases r;obtain⟨a,rv,⟨o,n,e,c,_,d⟩,_⟩:=I.list h;obtain⟨as,q⟩:=Wb.reads I hs rv;exact⟨_,.list e c d (by simpa using q)⟩
theorem Wb.reads(I:Inv X Z σ H s):∀{vs:cn V} {ds:cn Ut} {us:cn Um},Wb X.K H vs ds->Vals vs us->∃as,aaN s.heap us ds as
 |_,_,_,.nil,r=>by cases r;exact⟨_,.nil⟩
 |_,_,_,.cons h hs,r=>by
  cases r with
  |cons r1 a=>obtain⟨as,q⟩:=DV.reads I h r1;obtain⟨bs,b⟩:=Wb.reads I hs a;exact⟨_,.cons q b⟩
end
end
def Mf(K:lD)(a:Bool):R2:=λx y H Q=>∃b d,DV K H x b/\DV K H y d/\b.canLay0=P/\d.canLay0=P/\b.depth<=64/\Q (.bl (if a then !Ut.eqv b d else Ut.eqv b d)) H
section
variable{X:Cx}
def cH(m:X.A.units+64<cLine):OpR X (VW .Eq) (Mf X.K Uu):=by intro a s l H x y v u Q I d b h;let(r,o,j,i,g,f,n,q):=h;let(p,r1):=j.reads I d;let(bs,e):=i.reads I b;show aiW r1 e g f () #[.bl _,H,I,W,q]
def oM(m:X.A.units+64<cLine):OpR X (VW .NotEq) (Mf X.K P):=by intro a s l H x y v u Q I d b h;let(r,o,j,i,g,f,n,q):=h;let(p,r1):=j.reads I d;let(bs,e):=i.reads I b;show aiX r1 e g f () #[.bl _,H,I,W,q]
theorem z7:OpR X (Wj .FloorDiv) (rI (λ_ j=>0<j/\j.natAbs.log2<9000) λi j=>.int (i/j)):=QE λi j _ _ _ _ _ a q=>by let b:(0:Int)<j:=a.1;show floordiv_int () (by rw[ab0 i ()];show q) (.inl (PyProof.noPylong_of_log2 a.2))
end
def jV(env:Env):G (Str×Va)->G (Str×J)->G (Str×J)
 |[],acc=>acc
 |(n,k)::r,acc=>if(k==Va.free)=P then(match env.cells.lookup n with|some c=>jV env r ((n,c)::acc)|none=>jV env r acc)else jV env r acc
theorem oW{f:Str×Va->G (Str×J)->Sem (ForInStep (G (Str×J)))}
  (g:∀n k a,(k==Va.free)=Uu->f (n,k) a=pure (.yield a)) (d:∀n c a,env.cells.lookup n=R c->f (n,.free) a=pure (.yield ((n,c)::a))):
  ∀(names:G (Str×Va)) (a:G (Str×J)),(∀y∈names,y.2=.free->∃c,env.cells.lookup y.1=R c)->forIn names a f=pure (jV env names a)
 |[],a,_=>rfl
 |(n,k)::r,a,h=>by
  let i:=λy l=>h y (UC _ l);rw[ZE];cases m:(k==Va.free)with
  |false=>rw[g n k a m,pure_bind];show forIn r a f=_;rw[oW g d r a i];simp only[jV,m,XD,if_false]
  |true=>
   let e:k=.free:=by simpa using m
   subst e;let(c,j):=h _ UA W;rw[d n c a j,pure_bind];show forIn r ((n,c)::a) f=_;rw[oW g d r _ i];let b:=j;simp only[jV,m,if_true,b]
def uA(h:∀y∈scope.names,y.2=.free->∃c,env.cells.lookup y.1=R c):closureFor scope env=pure (jV env scope.names []):=by simp only[closureFor];rw[oW (λn k a b=>by simp only[b,XD,if_false]) (λn c a d=>by simp only[eg,if_true,cellOf,d,pure_bind]) scope.names [] h,pure_bind]
theorem nc:∀(names:G (Str×Va)) (a:G (Str×J)),(∀x c,a.lookup x=R c->env.cells.lookup x=R c)->∀x c,(jV env names a).lookup x=R c->env.cells.lookup x=R c
 |[],_,h,x,c,e=>h x c e
 |(n,k)::r,a,h,x,c,e=>by
  unfold jV at e;split at e
  .split at e
   .rename_i g b
    show nc r _ (λy d q=>?_) x c e;rw[UQ]at q;split at q
    .rename_i f;ext q;rw[eq_of_beq f];show b
    .show h y d q
   .show nc r a h x c e
  .show nc r a h x c e
theorem nK:∀(names:G (Str×Va)) (a:G (Str×J)) (x:Str),(a.lookup x).isSome=P->((jV env names a).lookup x).isSome=P
 |[],_,_,h=>h
 |(n,k)::r,a,x,h=>by
  ext jV;split
  .split
   .show nK r _ x ?_
    rw[UQ];split
    .rfl
    .show h
   .show nK r a x h
  .show nK r a x h
theorem qO:∀(names:G (Str×Va)) (a:G (Str×J)) (x:Str) (c:J),(x,Va.free)∈names->env.cells.lookup x=R c->((jV env names a).lookup x).isSome=P
 |[],_,_,_,h,_=>by ext h
 |(n,k)::r,a,x,c,h,b=>by
  rcases UJ.mp h with z|h
  .ext z;simp only[jV,eg,if_true,b];show nK r _ _ (by simp[UQ])
  .ext jV
   split
   .split
    .show qO r _ x c h b
    .show qO r a x c h b
   .show qO r a x c h b
def zN(h:(x,Va.free)∈names)(a:env.cells.lookup x=R c):(jV env names []).lookup x=R c:=by
 let q:=qO names [] x c h a;cases e:(jV env names []).lookup x with
 |none=>rw[e]at q;ext q
 |some d=>let z:=nc names [] (λy d q=>by ext q) x d e;rw[a]at z;show z.symm
def A7{env:Env}{a:Yr}{x:Str}{k:Va}(h:(relabel a env).names.lookup x=R k):∃c,(x,c)∈a.names/\(k=c\/(c=.free/\k=.cell)):=by
 let((n,c),hm,e):=U7.mp (Wt h);simp only at e;split at e
 .rename_i b
  ext e;let d:(c==Va.free)=P:=by rw[UO,UO]at b;show b.1.1
  show#[c,hm,.inr #[by simpa using d,W]]
 .ext e;show#[_,hm,.inl W]
theorem lU{env:Env}:∀{names:G (Str×Va)} {x:Str},names.lookup x=R .free->
  (names.map λ(n,k)=>if(k==Va.free&&env.scope.kind==.function&&env.kindOf n==R .cell)then(n,Va.cell)else(n,k)).lookup x=R .cell\/
  (names.map λ(n,k)=>if(k==Va.free&&env.scope.kind==.function&&env.kindOf n==R .cell)then(n,Va.cell)else(n,k)).lookup x=R .free
 |[],_,h=>by ext h
 |(n,k)::r,x,h=>by
  rw[UQ]at h;rw[UM];dsimp only;by_cases a:(k==Va.free&&env.scope.kind==.function&&env.kindOf n==R .cell)=P
  .rw[av a,UQ]
   cases b:x==n with
   |true=>show .inl W
   |false=>rw[b]at h;show lU h
  .rw[ax a,UQ]
   cases b:x==n with
   |true=>rw[b]at h;show .inr h
   |false=>rw[b]at h;show lU h
def iz(own:G Str)(a:G (Str×Nat)):G Str:=own++a.map (·.1)
def jN(own:G Str)(b:G (Str×Nat))(a:St):St:=own.map (λ_=>L)++b.map λp=>(a[p.2]?).join
def adg(X:Cx)(a:Yr):G (Str×Nat)->Prop
 |[]=>True
 |p::r=>(X.N[p.2]?=R p.1/\a.names.lookup p.1=R .free/\(X.env.scope.names.lookup p.1=R .cell\/X.env.scope.names.lookup p.1=R .free))/\adg X a r
theorem adg.mem:∀{a:G (Str×Nat)},adg X scope a->∀p∈a,X.N[p.2]?=R p.1/\scope.names.lookup p.1=R .free/\(X.env.scope.names.lookup p.1=R .cell\/X.env.scope.names.lookup p.1=R .free)
 |[],_,p,b=>by ext b
 |q::r,h,p,b=>by
  rcases UJ.mp b with z|b
  .rw[z];show h.1
  .show h.2.mem p b
def zk(X:Cx)(a:Yr)(C:J):G (Str×J):=WJ (C+1) a.names (jV X.env a.names [])
theorem uv:∀(names:G (Str×Va)) (n:Nat) (b:G (Str×J)) (x:Str) (c:J),(WJ n names b).lookup x=R c->(n<=c/\(x,Va.cell)∈names)\/b.lookup x=R c
 |[],_,_,_,_,h=>.inr h
 |(y,k)::r,n,b,x,c,h=>by
  unfold WJ at h;by_cases d:(k==Va.cell)=P
  .rw[av d]at h
   let e:k=.cell:=by simpa using d
   rcases uv r _ _ x c h with⟨a,f⟩|a
   .show .inl #[YZ a,UC _ f]
   .rw[UQ]at a
    split at a
    .rename_i g;ext a;show .inl #[Uy _,by rw[eq_of_beq g,e];show UA]
    .show .inr a
  .rw[ax d]at h
   rcases uv r _ _ x c h with⟨a,f⟩|a
   .show .inl #[a,UC _ f]
   .show .inr a
theorem Ip:∀(names:G (Str×Va)) (n:Nat) (a:G (Str×J)) (x:Str),(x,Va.cell)∉names->(WJ n names a).lookup x=a.lookup x
 |[],_,_,_,_=>rfl
 |(y,k)::r,n,a,x,h=>by
  let d:=λz=>h (UC _ z);ext WJ;by_cases b:(k==Va.cell)=P
  .let e:k=.cell:=by simpa using b
   rw[av b,Ip r _ _ x d,UQ];let f:(x==y)=Uu:=by show beq_eq_false_iff_ne.mpr λz=>h ?_;rw[z,e];show UA
   rw[f]
  .rw[ax b];show Ip r _ _ x d
theorem vN:∀(names:G (Str×Va)) (h:Heap) (b:G (Str×J)) (x:Str) (c:J),(WJ h.objs.size names b).lookup x=R c->(h.objs.size<=c/\(pushCells h names).IsCell c L)\/b.lookup x=R c
 |[],_,_,_,_,e=>.inr e
 |(y,k)::r,h,b,x,c,e=>by
  unfold WJ at e;ext pushCells;by_cases d:(k==Va.cell)=P
  .rw[av d]at e⊢
   rw[<-dP h {cls:=.type "cell",data:=.cell L}]at e;rcases vN r _ _ x c e with⟨a,f⟩|a
   .rw[dP]at a;show .inl #[YZ a,f]
   .rw[UQ]at a
    split at a
    .ext a;show .inl #[Uy _,_,acA _ _ _ _ (da _ W),W]
    .show .inr a
  .rw[ax d]at e⊢;show vN r _ _ x c e
theorem BH:∀(names:G (Str×Va)) (n:Nat) (e:G (Str×J)),(∀x c,e.lookup x=R c->c<n)->(∀x y c,e.lookup x=R c->e.lookup y=R c->x=y)->∀x y c,(WJ n names e).lookup x=R c->(WJ n names e).lookup y=R c->x=y
 |[],_,_,_,m,x,y,c,l,j=>m x y c l j
 |(z,k)::r,n,e,h1,m,x,y,c,l,j=>by
  unfold WJ at l j;by_cases h:(k==Va.cell)=P
  .rw[av h]at l j
   show BH r (n+1) ((z,n)::e) (λa d q=>?_) (λa b d g f=>?_) x y c l j
   .rw[UQ]at q
    split at q
    .ext q;show WB _
    .show WO (h1 a d q)
   .rw[UQ]at g f
    split at g
    .rename_i o
     split at f
     .rename_i i;rw[eq_of_beq o,eq_of_beq i]
     .ext g;show bg (h1 b _ f) (V5 _)
    .split at f
     .ext f;show bg (h1 a _ g) (V5 _)
     .show m a b d g f
  .rw[ax h]at l j;show BH r n e h1 m x y c l j
theorem CB:∀{names:G (Str×Va)} {x:Str} {k a:Va},(names.map (·.1)).Nodup->names.lookup x=R k->(x,a)∈names->k=a
 |[],_,_,_,_,h,_=>by ext h
 |(y,j)::r,x,k,a,d,h,hm=>by
  rw[UM,VN]at d;rw[UQ]at h;rcases UJ.mp hm with e|b
  .ext e;rw[eg]at h;show(UU h).symm
  .cases f:x==y with
   |true=>rw[eq_of_beq f]at b;show bg (U7.mpr #[_,b,W]) d.1
   |false=>rw[f]at h;show CB d.2 h b
def fT(X:Cx)(s:Uv)(H:Hp)(a:Yr)(C:J)(N:G Str)(b:G J):Cx:=
 {X with N:=N,s₀:=s,H₀:=H,env:=compEnvC a (zk X a C) C X.env,outer:=X.stack,stack:=X.stack,ex:=b,fn:=λx=>((jV X.env a.names []).lookup x).isNone,pn:=[],xe:=λ_ _=>False}
section
variable{X:Cx}{Z:cn (Uw×Obj)}{Y:St}{H:Hp}{s:Uv}
def xc{a:Yr}(I:Inv X Z Y H s)(e:(jV X.env a.names []).lookup x=R c):X.env.cells.lookup x=R c/\c<s.heap.objs.size:=by let h:=nc _ _ (λ_ _ q=>by ext q) x c e;let(v,o,z,_):=I.cell x c h;show#[h,c6 z]
theorem Dh(I:Inv X Z Y H s)(L:scope.kind=.function)(m:(scope.names.map (·.1)).Nodup)
  (u:∀y∈scope.names,y.2=.free->∃c,X.env.cells.lookup y.1=R c) (f:s.heap.objs.size<=C) (i:∀b∈U,om X Z H b) (d:∀b∈U,b<s.heap.objs.size):(fT X s H scope C N U).Ok where
 mod:=I.ok.mod
 kind:=L
 glob:=I.ok.glob
 blt:=I.ok.blt
 above:=f
 inj:=BH _ _ _ (λx c e=>WO (UX (xc I e).2 f)) λx y c A w=>I.ok.inj x y c (xc I A).1 (xc I w).1
 has:=λx F=>by
  let j:∃k,(relabel scope X.env).names.lookup x=R k/\(k=.cell\/k=.free):=by
   rcases F with z|z
   .show#[_,z,.inl W]
   .show#[_,z,.inr W]
  let(k,J,n):=j;let(B,hm,t):=A7 J;let e:B=.free\/B=.cell:=by
   rcases t with z|⟨z,_⟩
   .subst z
    rcases n with z|z
    .show .inr z
    .show .inl z
   .show .inl z
  let q:((zk X scope C).lookup x).isSome=P:=by
   rcases e with e|e
   .subst e;let(c,K):=u _ hm W;show XG _ _ _ (.inr (by rw[zN hm K];rfl))
   .subst e
    show XG _ _ _ (.inl ?_);cases z:scope.names.lookup x with
    |none=>show bg hm (λhm=>by
      let:∀{l:cn (Str×Va)},l.lookup x=CL->(x,Va.cell)∉l:=λ{l}=>by
       induction l with
       |nil=>show λ_=>by simp
       |cons p r E=>
        intro h q;rw[UQ]at h;rcases UJ.mp q with q|q
        .rw[<-q,eg]at h;ext h
        .split at h
         .ext h
         .show E h q
      show this z hm)
    |some M=>rw[CB m z hm]
  show abS.mp q
 cab:=λx c A w=>by
  let g:((jV X.env scope.names []).lookup x).isNone=P:=A;let v:=w;rcases uv _ _ _ x c v with⟨z,_⟩|z
  .show Vn f (YZ z)
  .rw[z]at g;ext g
 hd:=I.ok.hd
 frames:=I.ok.frames
 stk:=.inl W
 exf:=λb a=>#[UP (UX (d b a) f),λx c e=>by
  rcases uv _ _ _ x c e with⟨z,_⟩|z
  .show VQ (UX (UX (d b a) f) (YZ z))
  .show(i b a).2.2.2.2.1 x c (xc I z).1]
 bs:=I.bs
 bsz:=Vn I.ok.bsz I.sz
 adZ:=λb o e a=>by
  rcases(i b a).2.2.2.1 with z|z
  .show I.ok.adZ b o e z
  .show bg (UX (c6 e) (Vn I.ok.bsz z)) (V5 _)
 adT:=λb a G=>by
  rcases UJ.mp (I.ado b G)with z|z
  .show(i b a).2.1 z
  .show(i b a).2.2.1 z
 aaW:=I.stack
 frf:=I.adL
def Hz(I:Inv X Z Y H s)(YC:scope.kind=.function)(g:(scope.names.map (·.1)).Nodup)
  (O:∀y∈scope.names,y.2=.free->∃c,X.env.cells.lookup y.1=R c) (N:adg X scope U) (B:s.heap.objs.size<=D) (j:D<C) (T:s.heap.objs.size<=C) (hf:∀b∈fp,om X Z H b) (Q:∀b∈fp,b<s.heap.objs.size)
  (F:h1.Ns C m) (E:∀x c,(zk X scope C).lookup x=R c->C<c->∃v,h1.IsCell c v) (w:∀b o,s.heap.get? b=R o->h1.get? b=R o) (hd:∃n,h1.get? D=R {cls:=.type "list",data:=.seq #v[] n}):
  Inv (fT X s H scope C (iz own U) fp) [] (jN own U Y) (cy H D (.lst [])) {s with heap:=h1,toks:=t1}:=by
 let hn:=I.Wf.fresh B;let(n,hd):=hd;let S:=VQ j;let h:∀x c,(zk X scope C).lookup x=R c->C<c\/(X.env.cells.lookup x=R c/\c<s.heap.objs.size):=λx c e=>by
  rcases uv _ _ _ x c e with⟨z,_⟩|z
  .show .inl z
  .show .inr (xc I z)
 show#[Dh I YC g O T hf Q,W,I.bare,Un.laid w B hn,#[m,F,λi x v e1 e2 e3=>?_],λx c e=>?_,?_,λx c e=>?_,λp hp=>bg (show p∈([]:G (J×Obj))from hp) (by simp),?_,?_]
 .
  let d:(own++U.map (·.1))[i]?=R x:=e1;let a:(own.map (λ_=>(L:cv V))++U.map λp=>(Y[p.2]?).join)[i]?=R (R v):=e2;let A:own.length<=i:=by
   by_cases A:i<own.length
   .rw[U6 (by simpa using A),UK]at a
    cases q:own[i]? with
    |none=>rw[q]at a;ext a
    |some _=>rw[q]at a;ext a
   .omega
  rw[US A,UK]at d;rw[US (by simpa using A),UK,Ur]at a;cases q:U[i - own.length]? with
  |none=>rw[q]at d;ext d
  |some p=>
   rw[q]at d a;let ex:=UU d;subst ex;let ev:(Y[p.2]?).join=R v:=UU a;let(g1,g2,g3):=N.mem p (Vb q);let ev2:Y[p.2]?=R (R v):=by
    cases z:Y[p.2]? with
    |none=>rw[z]at ev;ext ev
    |some y=>rw[z]at ev;show ec R ev
   let(m0,_,hl):=I.loc;let(u,r,l):=hl p.2 p.1 v g1 ev2 (.inr g3);show#[u,r,?_];let l2:∃c,X.env.cells.lookup p.1=R c/\s.heap.IsCell c (R u):=by
    rcases l with⟨k,_⟩|⟨_,c,e,z⟩
    .let t:X.env.scope.names.lookup p.1=R .local:=k
     rcases g3 with z|z
     .rw[z]at t;ext t
     .rw[z]at t;ext t
    .show#[c,e,z]
   let(c,e,o,K,f):=l2;show .inr #[?_,c,?_,o,w c o K,f]
   .show lU g2
   .show(zk X scope C).lookup p.1=R c;ext zk;rw[Ip _ _ _ _ λz=>by cases CB g g2 z];show zN (Wt g2) e
 .rcases h x c e with z|⟨z,_⟩
  .show E x c e z
  .let(v,o,K,f):=I.cell x c z;show#[v,o,w c o K,f]
 .show cy H D (.lst []) C=L;rw[bG S];show I.Wf.fresh T
 .show cy H D (.lst []) c=L
  rcases h x c e with z|⟨z1,z2⟩
  .rw[bG (VQ (XQ j z))];show I.Wf.fresh (Vn T (Zw z))
  .rw[bG (UP (UX z2 B))];show I.aad x c z1
 .show I.Wf.laid w B #[by show 0<=UG;show V0 _,[],n,.nil,hd]
 .show(own.map (λ_=>(L:cv V))++U.map λp=>(Y[p.2]?).join).length=(own++U.map (·.1)).length;simp
end
def JB(X:Cx)(d:G Vr)(t:TT):Prop:=
 ∀(a:G (J×Obj)) (s:Uv) (b:St) (H:Hp) (Q:Bool->Hp->Prop),Inv X a b H s->t b H Q->
  wpAny (model X.prog X.w) X.A (forIn d P λc r=>if r=P then do let ok<-isTrue c X.env (eval c X.env);pure (ForInStep.yield ok)else pure (ForInStep.yield r)) (TP X a b Q) X.xe s
def Hj:TT:=λ_ H Q=>Q P H
theorem b6:JB X [] Hj:=λ_ _ _ H _ I h=>wpAny_tests_nil #[H,I,h]
theorem eY(h:PT X c o):JB X [c] o:=λa s b H Q I d=>wpAny_tests_one (h a s b H Q I d)
def DA(J:It)(D:Uw)(d:St)(g:TG)(j:TT)(h:TE)(n:Hp)(Fin:Hp->Prop):Prop:=
 ∃W:Nat->Nat->St->Hp->Prop,(∃m,W 0 m d (cy n D (.lst [])))/\∀i m σ H,W i m σ H->
  (J.stop i H/\Fin H)\/(J.go i H/\∃N:St->Hp->Prop,(∀o p,N o p->∃q,q<m/\W (i+1) q o p)/\
   ∀x p,J.yld i H x p->g x σ p λa l=>j a l λb f=>if b=P then h a f λy e=>∃ys,e D=R (.lst ys)/\ys.length<UG/\N a (cy e D (.lst (ys++[y])))else N a f)
section
variable{Y:UY}{w:Vi}{A:Vc}{s:Uv}
def EX{g o d:Vr}{f:cn Vr}{b:Yr}{j:Pos}{p i:M}{env:Env}{R:ac0->Uv->Prop}{XE:M->Uv->Prop}(C:∀x s1,XE x s1->notedBy (model Y w) A env (λe s2=>R (.error e) s2) x s1)(I:Nat->Uv->Prop)
  (turn:∀n s,I n s->wpAny (model Y w) A (pyNext p) (λr s1=>match r with
   |none=>R (.ok .next) s1
   |some v=>wpAny (model Y w) A (letOwnedTupleGo o p v) (λ_ s2=>wpAny (model Y w) A (assign o env v) (λ_ s3=>
     wpAny (model Y w) A (forIn f P λc r=>if r=P then do let ok<-isTrue c env (eval c env);pure (ForInStep.yield ok)else pure (ForInStep.yield r)) (λok s4=>
      if ok=P then wpAny (model Y w) A (eval g env) (λx s5=>
       wpAny (model Y w) A (call (.builtin "list.append") [i,x]) (λ_ k=>∃m,m<n/\I m k) (λ_ _=>False) s5) XE s4
      else∃m,m<n/\I m s4) (λ_ _=>False) s3) (λ_ _=>False) s2) (λ_ _=>False) s1) (λ_ _=>False) s)
  (n:Nat) (h:I n s):codeAny (model Y w) A (.compLoop (.ListComp g [#[o,d,f,0]] b j) 0 p i env) R s:=by
 show codeAny_loop W I (λn s F=>?_) n h;show wpAny _ A (Sem.onRaise (compTurn (.ListComp g [#[o,d,f,0]] b j) 0 p i env) (λx=>do noteFrame x env;theTreesLotGoes x)) _ _ s;show wpAny_noted ?_;rw[compTurn_list]
 let l:∀{α:Type} {t:Sem α} {Q B:α->Uv->Prop} {E:M->Uv->Prop} {s:Uv},wpAny (model Y w) A t Q (λ_ _=>False) s->(∀a K,Q a K->B a K)->wpAny (model Y w) A t B E s:=
  λq u=>wpAny_mono q u λ_ _ z=>False.elim z
 show Ld (abk (Ld (l (turn n s F) λr s1 q=>?_)));cases r with
 |none=>show Uz q
 |some v=>
  show Ld (l q λ_ s2 u=>Ld (l u λ_ s3 J=>Ld (l J λok s4 y=>?_)));cases ok with
  |false=>show Uz #[W,y]
  |true=>show Ld (Ld (wpAny_mono y (λx s5 H=>Ld (l H λ_ k G=>Uz (Uz #[W,G]))) C))
end
section
variable{X:Cx}{Z:cn (Uw×Obj)}{Y:St}{H:Hp}{s:Uv}
def xK
  (h:Q (newEnv scope s.heap.objs.size globals (WJ (s.heap.objs.size+1) scope.names closure) qual L .none (R env) builtinsNs) {s with heap:=pushCells (s.heap.push {cls:=.type "dict",data:=.dict #v[]}) scope.names}):
  wpAny e A (newFunctionEnv scope globals closure [] qual L .none (R env)) Q E s:=by
 simp only[newFunctionEnv,adu,if_true];show Ld (wpAny_alloc ?_);show Ld (wpAny_layCells _ (λd a b=>by cases f:a==Va.cell<;>simp[f]) _ _ _ _ ?_);rw[show({s with heap:=s.heap.push {cls:=.type "dict",data:=.dict #v[]}}:Uv).heap.objs.size=s.heap.objs.size+1 from dP ..];rw[abU];show Ld (Uz (Uz h))
def vE{P tg q:Vr}{F:cn Vr}{scope:Yr}{pos:Pos}{own:cn Str}{h:cn (Str×Nat)}{g:TG}{tc:TT}{te:TE}{E:Um->Uv->Prop}{it:Uw}{k:cn Uw}{tn:Nat->Heap->Prop}{J:It}{Fin:Uw->Hp->Prop}
  {RR:Um->Uw->ac0->Uv->Prop} (I:Inv X Z Y H s) (hc:X.calm=Uq) (YC:scope.kind=.function) (hnd:(scope.names.map (·.1)).Nodup) (hfr:∀y∈scope.names,y.2=.free->∃c,X.env.cells.lookup y.1=cL c) (hfv:adg X scope h)
  (T:Turn X.prog X.w X.K tg J k it tn) (st:tn 0 s.heap) (L:∀b∈k,om X Z H b)
  (hg:∀C,PG (fT X s H scope C (iz own h) k) tg g) (ht:∀C,JB (fT X s H scope C (iz own h) k) F tc) {W:Uw->Um->Uv->Prop} (he:∀C,PE ((fT X s H scope C (iz own h) k).abj (W C)) P te) (hEE:∀D C x s1,s.heap.objs.size<=C->W C x s1->notedBy (model X.prog X.w) X.A (compEnvC scope (zk X scope C) C X.env) (λe s2=>RR (.ref D) C (.error e) s2) x s1)
  (hR:∀D,H D=CL->DA J D (jN own h Y) g tc te H (Fin D))
  (hRR:∀D C K V,Inv X Z Y K V->Fin D K->(∃m,V.heap.Ns C m)->s.heap.objs.size<=C->K C=CL->RR (.ref D) C (.ok .next) V):
  wpAny (model X.prog X.w) X.A (newList []) (λacc s3=>wpAny (model X.prog X.w) X.A (newFunctionEnv scope X.env.globals (jV X.env scope.names []) [] X.env.qual CL .none (cL X.env)) (λahz s4=>
   codeAny (model X.prog X.w) X.A (.compStart (.ListComp P [#[tg,q,F,0]] scope pos) 0 (.ref it) acc {ahz with scope:=relabel scope X.env}) (RR acc ahz.locals) s4) E s3) E s:=by
 show Wd ?_;generalize hH2:s.heap.push {cls:=.type "list",dict:=CL,data:=.seq ([]:cn Um).toArray}=A;let hz:A.objs.size=s.heap.objs.size+1:=by rw[<-hH2,dP]
 show xK (s:={s with heap:=A}) ?_;let M:s.heap.objs.size<A.objs.size:=by rw[hz];show WB _
 let hC:s.heap.objs.size<=A.objs.size:=Zw M;generalize hH1:pushCells (A.push {cls:=.type "dict",data:=.dict #v[]}) scope.names=h1;let kp2:∀b o,A.get? b=cL o->h1.get? b=cL o:=λb o e=>by rw[<-hH1];show acA _ _ b o (c5 _ e)
 let kp:∀b o,s.heap.get? b=cL o->h1.get? b=cL o:=λb o e=>kp2 b o (by rw[<-hH2];show c5 _ e);let hns:h1.Ns A.objs.size (λ_=>CL):=by rw[<-hH1];show(Heap.Ns.new A (.type "dict")).keeps (acA _ _)
 let hoc:∀x c,(zk X scope A.objs.size).lookup x=cL c->A.objs.size<c->∃v,h1.IsCell c v:=λx c e X8=>by
  let e':(WJ (A.push {cls:=.type "dict",data:=.dict #v[]}).objs.size scope.names (jV X.env scope.names [])).lookup x=cL c:=by rw[dP];show e
  rcases vN _ _ _ x c e' with⟨_,z⟩|z
  .show#[CL,by rw[<-hH1];show z]
  .show bg (XQ (xc I z).2 (XQ M X8)) (V5 _)
 let hd:∃n,h1.get? s.heap.objs.size=cL {cls:=.type "list",data:=.seq #v[] n}:=#[0,kp2 _ _ (by rw[<-hH2];show da _ rfl)];let G:∀b∈k,b<s.heap.objs.size:=λb f=>by let(o,e,_):=T.obj 0 _ st b f;show c6 e
 let hn:H s.heap.objs.size=CL:=I.Wf.fresh (Uy _);let(W,(m0,w0),turn):=hR s.heap.objs.size hn;let O:∀{pl:cn (Uw×Obj)} {K:Hp},(∀b∈k,K b=CL)->(∀p∈pl,p.1∉k)->∀b∈k,om (fT X s H scope A.objs.size (iz own h) k) pl K b:=λ{pl K} hn' hpl b f=>by let ok:=Dh (C:=A.objs.size) (N:=iz own h) I YC hnd hfr hC L G;show#[hn' b f,(ok.exf b f).1,ok.adT b f,.inl f,(ok.exf b f).2,λp hp=>by let hp':p∈([]:cn (Uw×Obj))++pl:=hp;intro z;show hpl p (by simpa using hp') (by rw[z];show f)]
 let l:∀s4:Uv,s4={s with heap:=h1}->
   codeAny (model X.prog X.w) X.A (.compLoop (.ListComp P [#[tg,q,F,0]] scope pos) 0 (.ref it) (.ref s.heap.objs.size) (compEnvC scope (zk X scope A.objs.size) A.objs.size X.env)) (RR (.ref s.heap.objs.size) A.objs.size) s4:=by
  rintro s4 rfl
  let I0:Inv (fT X s H scope A.objs.size (iz own h) k) [] (jN own h Y) (cy H s.heap.objs.size (.lst [])) {s with heap:=h1}:=
   Hz I YC hnd hfr hfv (Uy _) M hC L G hns hoc kp hd
  let st0:tn 0 h1:=T.keep 0 _ _ st λb _ o e=>kp b o e;let fr0:∀b∈k,(cy H s.heap.objs.size (.lst [])) b=CL:=λb f=>by rw[bG (UP (G b f))];show(L b f).1
  show EX (λx s1 z=>hEE _ _ x s1 hC z) (λn V=>∃i σ' K,Inv (fT X s H scope A.objs.size (iz own h) k) [] σ' K V/\tn i V.heap/\(∀b∈k,K b=CL)/\W i n σ' K) ?_ m0 #[0,_,_,I0,st0,fr0,w0];rintro n s5 ⟨i,j,H5,I5,st5,fr5,w5⟩;rcases turn i n j H5 w5 with⟨stop,fin⟩|⟨go,N,hN,step⟩
  .show dS (T.done (fT X s H scope A.objs.size (iz own h) k) rfl rfl rfl hc i [] s5 j H5 (λ_ _=>False) I5 (O fr5 (by simp)) st5 stop) λr s6 #[hr,S]=>?_;subst hr;let(mm,hm,_):=S.loc;show hRR _ _ H5 s6 ?_ fin #[mm,hm] hC S.free;show I.ahw (ch:=k) S.os S.base S.Wf S.bare λb f=>#[(L b f).2.2.2.1,(L b f).2.1,(L b f).2.2.2.2.1,(L b f).2.2.2.2.2]
  .show dS (T.item (fT X s H scope A.objs.size (iz own h) k) rfl rfl rfl hc i [] s5 j H5 (λ_ _=>False) I5 (O fr5 (by simp)) st5 go) λr s6 #[u,hr,h6]=>?_
   subst hr;show dS h6 λ_ s7 a=>?_;let(x,H7,I7,r7,y7,B,fr7):=a;let I7':=I7.pinned (fp:=k) (O fr7 (by simp)) (T.obj _ _ B);let t:∀{a:St} {Q:Hp} {w:Uv},Inv (fT X s H scope A.objs.size (iz own h) k) ([]++uo k s7.heap) a Q w->N a Q->∃m,m<n/\∃i σ' K,Inv (fT X s H scope A.objs.size (iz own h) k) [] σ' K w/\tn i w.heap/\(∀b∈k,K b=CL)/\W i m σ' K:=λ{a Q w} I8 n8=>by let(m',hm,w8):=hN a Q n8;show#[m',hm,i+1,a,Q,I8.aaF,T.keep _ _ _ B λb f o e=>(I8.pin (b,o) (Vv _ (Vv _ (lf f e)))).1,λb f=>?_,w8];let(o,e,d):=T.obj _ _ B b f;show(I8.pin (b,o) (Vv _ (Vv _ (lf f e)))).2.1
   show dS (hg _ _ s7 j H7 x u _ I7' r7 (step x H7 y7)) λ_ w a=>?_;let(a,Q,I8,q8):=a;show dS (ht _ _ w a Q _ I8 q8) λok s9 a=>?_;let(H9,I9,q9):=a;cases ok with
   |false=>rw[ax Ux]at q9⊢;show t I9 q9
   |true=>rw[av rfl]at q9⊢;show dS (he _ _ s9 a H9 _ (I9.abj _) q9) λy s10 a=>?_;let(U,H10,aj3,r10,ys,hy,hl,q10):=a;let I10:=aj3.Za;show dS (kQ _ s10 a H10 (.ref s.heap.objs.size) [U] (.ref s.heap.objs.size) [y] (λ_ H11=>N a H11) I10 rfl (.cons r10 .nil) #[_,ys,U,rfl,rfl,hy,hl,q10]) λ_ s11 a=>?_;let(v11,H11,I11,_,q11):=a;show t I11 q11
 show codeAny_compStart_list (l _ rfl) (T.self _ 0 _ _ _ (T.keep 0 _ _ st λb _ o e=>kp b o e) (l _ rfl))
def wR(own:G Str)(f:G (Str×Nat))(b:TI)(g:TG)(e:TT)(d:TE):TE:=λY H Q=>b Y H λJ a=>∀D,a D=L->DA J D (jN own f Y) g e d a λh=>Q (.ref D) h
theorem tJ{a:Yr}(ok:X.Ok)(h:∀y∈a.names,y.2=.free->(X.env.scope.names.lookup y.1=R .cell\/X.env.scope.names.lookup y.1=R .free)):∀y∈a.names,y.2=.free->∃c,X.env.cells.lookup y.1=R c:=
 λy b e=>ok.has y.1 (h y b e)
theorem MJ{a b:Yr}(h:(a.names.all λy=> !(y.2==Va.free)||(b.names.lookup y.1==R Va.cell)||(b.names.lookup y.1==R Va.free))=P):
  ∀y∈a.names,y.2=.free->(b.names.lookup y.1=R .cell\/b.names.lookup y.1=R .free):=λy d e=>by
 let q:=WW.mp h y d;rw[e]at q
 simpa using q
def bR{elt f iter:Vr}{ifs:G Vr}{scope:Yr}{pos:Pos}(own:G Str)(c:G (Str×Nat)){t:TI}{g:TG}{v:TT}{u:TE}(U:X.calm=P)(O:PI X f iter t)
  (S:∀s H C a,PG (fT X s H scope C (iz own c) a) f g) (F:∀s H C a,JB (fT X s H scope C (iz own c) a) ifs v) (he:∀s H C a,PE (fT X s H scope C (iz own c) a) elt u) (l:adg X scope c)
  (n:(scope.names.all λy=> !(y.2==Va.free)||(X.env.scope.names.lookup y.1==cL Va.cell)||(X.env.scope.names.lookup y.1==cL Va.free))=P)
  (w:scope.kind=.function:=by rfl) (k:(scope.names.map (·.1)).Nodup:=by left)
  (p:∀y∈scope.names,y.2=.local->scope.names.lookup y.1=cL .local:=by left) (K:∀x,foldedSetIterable iter X.env x=pure x:=by intro _;rfl):
  PE X (.ListComp elt [#[f,iter,ifs,0]] scope pos) (wR own c t g v u):=by
 intro Z s Y H Q I h;let d:=MJ n;rw[eval_ListComp];show adQ (use:=L) rfl K (uA (tJ I.ok d)) w p (dS (O Z s Y H _ I h) λxv s1 h1=>dS h1 λE s2 h2=>?_);let(it,a,tn,J,H2,e,A,T,i,f2,R):=h2;subst e;show vE A U w k (tJ I.ok d) l T i f2 (λC=>S _ _ C _) (λC=>F _ _ C _) (W:=λ_ _ _=>False) (λC=>he _ _ C _) (λ_ _ _ _ _ z=>z.elim) (Fin:=λD r=>Q (.ref D) r) R ?_;intro D C r B I' fin hm hC N;let(m,hm):=hm;show#[m,hm,λh' j=>#[.ref D,r,?_,rfl,fin]];let(f0,f1,_,f3,f4,f5):=A.abQ hC N;show I'.turned (t':=B.toks) (λb o hb q=>(j.2 b hb).trans q) f0 f1 f3 f4 f5
def pW{elt d iter:Vr}{ifs:G Vr}{scope:Yr}{pos k py:Pos}{i:Nat}{x:Str}(own:G Str)(j:G (Str×Nat)){O:TI}{g:TG}{U:TT}{S:TE}(hN:X.N.Nodup)(w:X.N[i]?=cL x)(V:X.env.scope.names.lookup x=cL .local)
  (hc:X.calm=P) (hi:PI X d iter O)
  (hg:∀s H C c,PG (fT X s H scope C (iz own j) c) d g) (ht:∀s H C c,JB (fT X s H scope C (iz own j) c) ifs U) (he:∀s H C c,PE (fT X s H scope C (iz own j) c) elt S) (A:adg X scope j)
  (E:(scope.names.all λy=> !(y.2==Va.free)||(X.env.scope.names.lookup y.1==cL Va.cell)||(X.env.scope.names.lookup y.1==cL Va.free))=P)
  (r:Wz (.ListComp elt [#[d,iter,ifs,0]] scope pos) (cL (.Name x py)) k.line X.env=pure P:=by rfl)
  (YC:scope.kind=.function:=by rfl) (u:(scope.names.map (·.1)).Nodup:=by left)
  (F:∀y∈scope.names,y.2=.local->scope.names.lookup y.1=cL .local:=by left) (hs:∀x,foldedSetIterable iter X.env x=pure x:=by intro _;rfl):
  PS X (.Assign [.Name x py] (.ListComp elt [#[d,iter,ifs,0]] scope pos) k) (Jx (wR own j O g U S) (zL i)):=by
 intro Z s Y H D I h;let f:=MJ E;rw[exec_Assign_Name_used _ _ _ _ r];show Ld (abk (Ld ?_));show wpAny _ _ (do let _<-comprehension (.ListComp elt [#[d,iter,ifs,0]] scope pos) scope X.env _ (newList []) Uu (eval iter X.env) (cL (assign (.Name x py) X.env))) _ _ s;show Ld (dS (adQ (use:=cL (assign (.Name x py) X.env)) (Q:=λ_ l=>SP X Z D .next l) rfl hs (uA (tJ I.ok f)) YC F
  (dS (hi Z s Y H _ I h) λxv s1 h1=>dS h1 λitv s2 h2=>?_)) λ_ l q=>Uz (Uz q))
 let(it,c,tn,J,H2,e,I2,T,n,f2,R):=h2;subst e;show vE I2 hc YC u (tJ I.ok f) A T n f2 (λC=>hg _ _ C _) (λC=>ht _ _ C _) (W:=λ_ _ _=>False) (λC=>he _ _ C _) (λ_ _ _ _ _ z=>z.elim) (Fin:=λL N=>D.nx (Y.set i (cL (.ref L))) N) R ?_;intro L C N l I' fin hm hC hn;let(m,hm):=hm;let(f0,f1,f2',f3,f4,f5):=I2.abQ hC hn;show wpAny _ _ (assign (.Name x py) X.env (.ref L)) _ _ l;show agH (wI I' hN w (.inl V) (v:=.ref L) rfl (λp K #[a,sb,ha]=>?_) (.inr V));let B:C≠a:=by
  rcases ha with z|z
  .rw[z];show f1
  .show λq=>f4 x a z q.symm
 show#[m,hm.sameBut sb B,λh' t=>#[_,N,?_,fin]];show K.turned (t':=p.toks) (λb o hb q=>(t.2 b hb).trans q) f0 f1 f3 f4 f5
end
def Ak(P:UY)(w:Vi)(K:lD)(c:Str->cv M)(base:Heap)(k:Nat)(x:Str)(b:G Str)(sp:Sp):Prop:=
 ∃(f:J) (a:V3),FnOk P w K c base cz k f a b sp/\Binds K a b []/\WQ K (.ref f)=Uq/\c x=R (.ref f)
def bB(C:Ak X.prog X.w X.K X.mg X.base k x I sp)(h:W0 j X.A)(c:PA X (e::o) t)(d:k<=j:=by decide)(i:Gl X x:=by rfl)
  (g:(x==("__debug__":Str))=Uu:=by decide) (l:U4 (e::o) X.env=(Uu,eval e X.env)::U4 o X.env:=by rfl) (a:(backTo pos (U4 o X.env)).any (·.1)=Uu:=by rfl):
  PE X (.Call (.Name x p) (e::o) [] pos) (wX sp [] E0 t):=by
 let(f,n,F,b,kp,m):=C;show Mw F (h.mono d) i m kp b .nil oz c g l a
def Pj{α:Type}{xs:G α}{i:Int}{v:α}(a:0<=i)(h:xs[i.toNat]?=R v):mo xs i=R v:=by let q:=DR h;rwa [ad5 a]at q
def Wr.tup{K:lD}(e:Wr H H')(h:X5 K H a xs):X5 K H' a xs:=by
 rcases h with(h|⟨o,h⟩)|h
 .show .inl (.inl (e _ _ h))
 .show .inl (.inr #[o,e _ _ h])
 .show .inr h
theorem bZ(h:H p=L)(o:HO):Wr H (cy H p o):=λb u q=>by rw[bG (cU q h)];show q
def GQ:Vu "max"=R (.builtin "max"):=by left
def qC:Vu "isinstance"=R (.builtin "isinstance"):=by left
def md:Vu "len"=R (.builtin "len"):=by left
def qB:Vu "sorted"=R (.builtin "sorted"):=by left
def wK:Vu "all"=R (.builtin "all"):=by left
def wS:Vu "int"=R (.type "int"):=by left
def l7:Vu "str"=R (.type "str"):=by left
def Hf:Vu "list"=R (.type "list"):=by left
def ko:Vu "tuple"=R (.type "tuple"):=by left
section
variable{X:Cx}
def zw:W6 X (.builtin "sorted") (λxs H Q=>∃(p:J) (ns:G Int),xs=[.ref p]/\Yh X.K H p (ns.map V.int)/\ns.length<64/\∀(l:J) (a:G Int),H l=L->a.Perm ns->a.Pairwise (·<=·)->Q (.ref l) (cy H l (.lst (a.map V.int)))):=by
 intro g s B H xs C Q I r h;let(p,ns,rfl,n,w,q):=h;let(u,rfl,j):=ie r;ext j;let(A,K,pl,F):=I.list n;let t:=K.length;rw[Ur]at t;show sorted_ints pl.isList (jM K) () λd a N i m=>?_;let(e,v):=sortedAll_at s.heap A d;let f:a.length=ns.length:=i.length_eq;let y:d.toList.length=a.length:=N.length;show#[.ref (s.heap.objs.size+1),_,I.laid (t':=s.toks) (o:=.lst (a.map V.int)) (λb E z=>sortedAll_old z) (X1 _) ?_,W,q _ a (I.Wf.fresh (X1 _)) i m];show#[?_,d.toList,e,kP N,v];rw[Ur,f];let:(64:Nat)<=UG:=by decide
 ext
end
end L2
namespace L3
open PySem L2
abbrev D:=Ut
inductive PV where
 |fz (d:D)
 |ow (ds:G D)
 |pl (i:Nat)
abbrev bM:=G (cv PV)
structure Xc where
 cls:Str
 fs:G (Str×D)
inductive Res(α:Type) where
 |ok (a:α)
 |er (x:Xc)
 |bad
namespace Res
def bind(r:Res α)(f:α->Res β):Res β:=match r with
 |.ok a=>f a
 |.er x=>.er x
 |.bad=>.bad
def Vm:cv α->Res α
 |some a=>.ok a
 |none=>.bad
theorem bind_ok(a:α)(f:α->Res β):(Res.ok a).bind f=f a:=W
end Res
abbrev ej:=@Res.bind_ok
abbrev cN:=J->Prop
def cM(O:cN)(p:J):cN:=λb=>O b\/b=p
def JX(O:cN)(p:J):cN:=λb=>O b/\b≠p
def noO:cN:=λ_=>False
def Ev(O:cN)(H:Hp)(a:cN)(d:Hp):Prop:=∀b o,H b=R o->¬O b->d b=R o/\¬a b
theorem Ev.refl:Ev O H O H:=λ_ _ h n=>#[h,n]
theorem Ev.trans(a:Ev O H O1 H1)(b:Ev O1 H1 O2 H2):Ev O H O2 H2:=λp o h n=>let#[h1,d]:=a p o h n;b p o h1 d
theorem Ev.grow(s:Wr H H'):Ev O H O H':=λb o h n=>#[s b o h,n]
theorem Ev.add(s:Wr H H')(a:H p=L):Ev O H (cM O p) H':=λb o h n=>#[s b o h,λz=>z.elim n λe=>by subst e;rw[h]at a;ext a]
theorem Ev.sub(h:∀b,O' b->O b):Ev O H O' H:=λb o e n=>#[e,λz=>n (h b z)]
theorem Ev.mut(a:O p)(u:HO):Ev O H O (cy H p u):=λb o h n=>#[by rw[bG (λe=>n (by rw[e];show a))];show h,n]
def Yw(K:lD)(H:Hp)(a:J)(xs:G V):Prop:=Rd H a (.lst xs)\/∃(b:G M) (n:Nat),K.lookup a=R {cls:=.type "list",data:=.seq b.toArray n}/\xs.length<=UG/\Vals xs b
def Yw.sq(h:Yw K H a xs):Yh K H a xs:=by
 rcases h with h|⟨e,n,h1,d,b⟩
 .show .inl h
 .show .inr #[_,e.toArray,n,h1,W,W,W,by rw[UE,<-b.length];show d,by simpa using b]
theorem Yw.of(h:H a=R (.lst xs)):Yw K H a xs:=.inl (.inl h)
def Yw.same(e:Wr H H')(h:Yw K H a xs):Yw K H' a xs:=by
 rcases h with(h|⟨o,h⟩)|h
 .show .inl (.inl (e _ _ h))
 .show .inl (.inr #[o,e _ _ h])
 .show .inr h
theorem n9(H:Hp):Wr (λ_=>L) H:=λ_ _ h=>by ext h
def aaR(O:cN)(K:lD)(H:Hp)(a:J)(xs:G V):Prop:=Yw K H a xs/\(O a->Yw K (λ_=>L) a xs)
def Zp(O:cN)(K:lD)(H:Hp)(a:J)(xs:G V):Prop:=X5 K H a xs/\(O a->X5 K (λ_=>L) a xs)
section
variable{O Y:cN}{K:lD}{H Z:Hp}{a:Uw}{X:cn V}
def aaR.ev(h:aaR O K H a X)(e:Ev O H Y Z):aaR Y K Z a X:=by
 let(h,k):=h;by_cases z:O a
 .show#[Yw.same (n9 Z) (k z),λ_=>k z]
 .rcases h with(h|⟨o,h⟩)|h
  .let(d,b):=e a _ h z;show#[.inl (.inl d),λy=>bg y b]
  .let(d,b):=e a _ h z;show#[.inl (.inr #[o,d]),λy=>bg y b]
  .show#[.inr h,λ_=>.inr h]
def Zp.ev(h:Zp O K H a X)(e:Ev O H Y Z):Zp Y K Z a X:=by
 let(h,k):=h;by_cases z:O a
 .show#[(n9 Z).tup (k z),λ_=>k z]
 .rcases h with(h|⟨o,h⟩)|h
  .let(d,b):=e a _ h z;show#[.inl (.inl d),λy=>bg y b]
  .let(d,b):=e a _ h z;show#[.inl (.inr #[o,d]),λy=>bg y b]
  .show#[.inr h,λ_=>.inr h]
end
mutual
inductive DV(O:cN)(K:lD)(H:Hp):V->D->Prop
 |Xp:DV O K H .Xp .none
 |bl (b:Bool):DV O K H (.bl b) (.bool b)
 |int (i:Int):DV O K H (.int i) (.int i)
 |str (x:Str):DV O K H (.str x) (.str x)
 |tup {a:Uw} {xs:cn V} {ds:cn D}:Zp O K H a xs->Wb O K H xs ds->DV O K H (.ref a) (.tuple ds)
 |lst {a:Uw} {xs:cn V} {ds:cn D}:aaR O K H a xs->Wb O K H xs ds->DV O K H (.ref a) (.list ds)
inductive Wb(O:cN)(K:lD)(H:Hp):cn V->cn D->Prop
 |nil:Wb O K H [] []
 |cons {v:V} {vs:cn V} {d:D} {ds:cn D}:DV O K H v d->Wb O K H vs ds->Wb O K H (v::vs) (d::ds)
end
section
variable{O Z:cN}{K:lD}{H Y:Hp}
mutual
theorem DV.ev(e:Ev O H Z Y):∀{v:V} {d:D},DV O K H v d->DV Z K Y v d
 |_,_,.Xp=>.Xp
 |_,_,.bl b=>.bl b
 |_,_,.int i=>.int i
 |_,_,.str x=>.str x
 |_,_,.tup h hs=>.tup (h.ev e) (Wb.ev e hs)
 |_,_,.lst h hs=>.lst (h.ev e) (Wb.ev e hs)
theorem Wb.ev(e:Ev O H Z Y):∀{vs:cn V} {ds:cn D},Wb O K H vs ds->Wb Z K Y vs ds
 |_,_,.nil=>.nil
 |_,_,.cons h hs=>.cons (DV.ev e h) (Wb.ev e hs)
end
theorem Wb.length:∀{a:G V} {ds:G D},Wb O K H a ds->a.length=ds.length
 |_,_,.nil=>rfl
 |_,_,.cons _ t=>by rw[UL,UL,t.length]
theorem Wb.get:∀{c:G V} {ds:G D} {i:Nat} {d:D},Wb O K H c ds->ds[i]?=R d->∃v,c[i]?=R v/\DV O K H v d
 |_,_,_,_,.nil,e=>by simp at e
 |_,_,0,_,.cons h _,e=>by simp at e;subst e;show#[_,W,h]
 |_,_,i+1,d,.cons _ t,e=>by let(v,b,a):=Wb.get t (by simpa using e);show#[v,by simpa using b,a]
theorem Wb.af2:∀{c:G V} {ds:G D} {i:Nat} {v:V},Wb O K H c ds->c[i]?=R v->∃d,ds[i]?=R d/\DV O K H v d
 |_,_,_,_,.nil,e=>by simp at e
 |_,_,0,_,.cons h _,e=>by simp at e;subst e;show#[_,W,h]
 |_,_,i+1,v,.cons _ t,e=>by let(d,b,a):=Wb.af2 t (by simpa using e);show#[d,by simpa using b,a]
theorem Wb.append:∀{b ws:G V} {ds a:G D},Wb O K H b ds->Wb O K H ws a->Wb O K H (b++ws) (ds++a)
 |_,_,_,_,.nil,h=>h
 |_,_,_,_,.cons h t,g=>.cons h (Wb.append t g)
theorem Wb.take:∀{a:G V} {ds:G D} (n:Nat),Wb O K H a ds->Wb O K H (a.take n) (ds.take n)
 |_,_,0,_=>.nil
 |_,_,_+1,.nil=>.nil
 |_,_,n+1,.cons h t=>.cons h (Wb.take n t)
theorem Wb.drop:∀{a:G V} {ds:G D} (n:Nat),Wb O K H a ds->Wb O K H (a.drop n) (ds.drop n)
 |_,_,0,h=>h
 |_,_,_+1,.nil=>.nil
 |_,_,n+1,.cons _ t=>Wb.drop n t
theorem Wb.set(h:DV O K H v d):∀{a:G V} {ds:G D} (n:Nat),Wb O K H a ds->Wb O K H (a.set n v) (ds.set n d)
 |_,_,_,.nil=>.nil
 |_,_,0,.cons _ t=>.cons h t
 |_,_,n+1,.cons g t=>.cons g (Wb.set h n t)
theorem Wb.flat(h:Wb O K H vs ds):∀n:Nat,Wb O K H (Us n vs).flatten (Us n ds).flatten
 |0=>.nil
 |n+1=>by rw[Vx,Vx,Wn,Wn];show h.append (Wb.flat h n)
mutual
theorem DV.plain:∀{v:V} {d:D},DV O K H v d->L2.DV K H v d
 |_,_,.Xp=>.Xp
 |_,_,.bl b=>.bl b
 |_,_,.int i=>.int i
 |_,_,.str x=>.str x
 |_,_,.tup h hs=>.tup h.1 (Wb.plain hs)
 |_,_,.lst h hs=>.lst h.1.sq (Wb.plain hs)
theorem Wb.plain:∀{vs:cn V} {ds:cn D},Wb O K H vs ds->L2.Wb K H vs ds
 |_,_,.nil=>.nil
 |_,_,.cons h hs=>.cons (DV.plain h) (Wb.plain hs)
end
end
def DX(O:cN)(K:lD)(H:Hp)(v:V):D->Prop
 |.list ds=>∃a xs,v=.ref a/\Yw K H a xs/\Wb O K H xs ds
 |d=>DV O K H v d
def DV.x(h:DV O K H v d):DX O K H v d:=by
 cases h with
 |lst h a=>show#[_,_,W,h.1,a]
 |Xp=>show .Xp
 |bl b=>show .bl b
 |int i=>show .int i
 |str x=>show .str x
 |tup h a=>show .tup h a
def DX.plain(h:DX O K H v d):L2.DV K H v d:=by
 cases d with
 |list ds=>let(a,xs,rfl,f,e):=h;show .lst f.sq e.plain
 |none=>show DV.plain h
 |bool b=>show DV.plain h
 |int i=>show DV.plain h
 |str x=>show DV.plain h
 |tuple ds=>show DV.plain h
 |dict g=>show DV.plain h
def acp(K:lD)(b:Hp)(O:cN)(H:Hp)(v:V):PV->Prop
 |.fz d=>DV O K H v d
 |.ow ds=>∃a e,v=.ref a/\O a/\b a=L/\H a=R (.lst e)/\Wb O K H e ds
 |.pl _=>False
structure Rl(K:lD)(B:cN)(H0:Hp)(O:cN)(σ:St)(H:Hp)(ρ:bM):Prop where
 same:Wr H0 H
 bo:∀a,B a->O a
 bd:∀a,B a->H0 a≠L
 od:∀a,H a=L->¬O a
 len:σ.length=ρ.length
 slot:∀(i:Nat) (x:PV),ρ[i]?=R (R x)->∃v,σ[i]?=R (R v)/\acp K H0 O H v x
 one:∀(i j:Nat) (ds es:G D) (v:V),ρ[i]?=R (R (.ow ds))->ρ[j]?=R (R (.ow es))->σ[i]?=R (R v)->σ[j]?=R (R v)->i=j
def Zr(K:lD)(f:Hp)(O:cN)(b:St)(H:Hp)(c:bM)(v:V):PV->Prop
 |.fz d=>DV O K H v d
 |.ow ds=>∃a g,v=.ref a/\O a/\f a=L/\H a=R (.lst g)/\Wb O K H g ds/\∀(i:Nat) (e:G D),c[i]?=R (R (.ow e))->b[i]?≠R (R (.ref a))
 |.pl i=>b[i]?=R (R v)
def nH:PV->Prop
 |.ow _=>False
 |_=>True
def d3:PV->PV
 |.ow ds=>.fz (.list ds)
 |p=>p
section
variable{K:lD}{B O X:cN}{Z H U:Hp}{Y:St}{ρ ρ':bM}{v:V}
def acp.grow(s:Wr H U)(h:acp K Z O H v x):acp K Z O U v x:=by
 cases x with
 |fz d=>show DV.ev (Ev.grow s) h
 |ow ds=>let(a,l,e,j,g,f,b):=h;show#[a,l,e,j,g,s _ _ f,b.ev (Ev.grow s)]
 |pl i=>show h
theorem Rl.grow(R:Rl K B Z O Y H ρ)(s:Wr H U):Rl K B Z O Y U ρ:=
 #[R.same.trans s,R.bo,R.bd,λa h=>R.od a (s.free h),R.len,λi x h=>let#[v,h1,b]:=R.slot i x h;#[v,h1,b.grow s],R.one]
theorem Rl.afN(R:Rl K B Z O Y H ρ)(h:H p=L):Z p=L:=R.same.free h
def Rl.add(R:Rl K B Z O Y H ρ)(s:Wr H U)(f:H p=L)(g:U p≠L):Rl K B Z (cM O p) Y U ρ:=by
 show#[R.same.trans s,λa h=>.inl (R.bo a h),R.bd,λa h z=>z.elim (R.od a (s.free h)) λe=>g (by rw[<-e];show h),R.len,λi x h=>?_,R.one];let(v,j,b):=R.slot i x h;show#[v,j,?_];cases x with
 |fz d=>show DV.ev (Ev.add s f) b
 |ow ds=>let(a,q,e,o,n,m,l):=b;show#[a,q,e,.inl o,n,s _ _ m,l.ev (Ev.add s f)]
 |pl i=>show b
theorem Rl.afA(R:Rl K B Z O Y H ρ)(h:Z a=L):¬B a:=λz=>R.bd a z h
def Rl.sub(R:Rl K B Z O Y H ρ){a:J}(m:Z a=L)(h:∀(i:Nat) (r:G D),ρ[i]?=cL (cL (.ow r))->Y[i]?≠cL (cL (.ref a))):Rl K B Z (JX O a) Y H ρ:=by
 show#[R.same,λb f=>#[R.bo b f,λe=>R.afA m (e▸f)],R.bd,λb f z=>R.od b f z.1,R.len,λi x j=>?_,R.one];let(v,l,g):=R.slot i x j;show#[v,l,?_];cases x with
 |fz d=>show DV.ev (Ev.sub λb z=>z.1) g
 |ow ds=>let(b,t,e,q,p,o,n):=g;subst e;show#[b,t,W,#[q,λe=>h i ds j (by rw[l,e])],p,o,n.ev (Ev.sub λb z=>z.1)]
 |pl i=>show g
theorem xB(h:H a=R (.lst o))(n:¬O a)(hd:Wb O K H o ds):DV O K H (.ref a) (.list ds):=.lst #[Yw.of h,λz=>bg z n] hd
def iK{pv:PV}(R:Rl K B Z O Y H ρ)(h:Zr K Z O Y H ρ v pv):∃X,Ev O H X H/\Rl K B Z X Y H ρ/\Zr K Z X Y H ρ v (d3 pv):=by
 cases pv with
 |fz d=>show#[O,.refl,R,h]
 |pl i=>show#[O,.refl,R,h]
 |ow ds=>let(a,m,rfl,l,j,g,f,e):=h;show#[JX O a,Ev.sub λb z=>z.1,R.sub j e,xB g (λz=>z.2 W) (f.ev (Ev.sub λb z=>z.1))]
def nQ(pv:PV):nH (d3 pv):=by ext pv<;>trivial
def Zr.keep{pv:PV}(a:nH pv)(e:Ev O H X U)(h:Zr K Z O Y H ρ v pv):Zr K Z X Y U ρ' v pv:=by
 cases pv with
 |fz d=>show DV.ev e h
 |pl i=>show h
 |ow ds=>show a.elim
def TY:cv (cv PV)->cv D
 |some (R (.fz d))=>R d
 |some (R (.ow ds))=>R (.list ds)
 |_=>L
def sM(ρ:bM):PV->cv D
 |.fz d=>R d
 |.ow ds=>R (.list ds)
 |.pl i=>TY ρ[i]?
def kg{pv:PV}(R:Rl K B Z O Y H ρ)(h:Zr K Z O Y H ρ v pv)(e:sM ρ pv=cL d):DX O K H v d:=by
 cases pv with
 |fz t=>ext e;show DV.x h
 |ow ds=>ext e;let(a,E,rfl,C,A,p,n,z):=h;show#[a,E,W,Yw.of p,n]
 |pl i=>
  let b:TY ρ[i]?=cL d:=e;let r:=h;cases q:ρ[i]? with
  |none=>rw[q]at b;ext b
  |some o=>
   cases o with
   |none=>rw[q]at b;ext b
   |some x=>
    let(u,g,f):=R.slot i x q;rw[r]at g;ext g;rw[q]at b;cases x with
    |fz t=>ext b;show DV.x f
    |ow ds=>ext b;let(a,E,rfl,y,w,m,l):=f;show#[a,E,W,Yw.of m,l]
    |pl j=>show f.elim
def Ty(ρ:bM)(i:Nat):cv (cv PV)->cv (D×bM)
 |some (R (.fz d))=>R (d,ρ)
 |some (R (.ow ds))=>R (.list ds,ρ.set i (R (.fz (.list ds))))
 |_=>L
def zn(ρ:bM):PV->cv (D×bM)
 |.fz d=>R (d,ρ)
 |.ow ds=>R (.list ds,ρ)
 |.pl i=>Ty ρ i ρ[i]?
def dE{l:G α}(h:(l.set i x)[j]?=R y):(j=i/\y=x)\/(j≠i/\l[j]?=R y):=by
 rw[VH]at h;by_cases e:i=j
 .rw[av e]at h
  split at h
  .ext h;show .inl #[e.symm,W]
  .ext h
 .rw[ax e]at h;show .inr #[λz=>e z.symm,h]
def vG{pv:PV}(R:Rl K B Z O Y H ρ)(h:Zr K Z O Y H ρ v pv)(e:zn ρ pv=cL (d,ρ')):∃X,Ev O H X H/\Rl K B Z X Y H ρ'/\DV X K H v d:=by
 cases pv with
 |fz d'=>ext e;show#[O,.refl,R,h]
 |ow ds=>ext e;let(a,vs,rfl,h1,h2,h3,h4,T):=h;show#[JX O a,Ev.sub λb z=>z.1,R.sub h2 T,xB h3 (λz=>z.2 W) (h4.ev (Ev.sub λb z=>z.1))]
 |pl i=>
  let f:Ty ρ i ρ[i]?=cL (d,ρ'):=e;let y:=h;cases q:ρ[i]? with
  |none=>rw[q]at f;ext f
  |some o=>
   cases o with
   |none=>rw[q]at f;ext f
   |some x=>
    let(u,E,A):=R.slot i x q;rw[y]at E;ext E;rw[q]at f;cases x with
    |fz d'=>ext f;show#[O,.refl,R,A]
    |pl j=>show A.elim
    |ow ds=>
     ext f;let(a,vs,rfl,k1,S,Q,P):=A;let n:Ev O H (JX O a) H:=Ev.sub λb z=>z.1;let F:=xB Q (λz=>z.2 W) (P.ev n);show#[JX O a,n,#[R.same,λb m=>#[R.bo b m,λe=>R.afA S (e▸m)],R.bd,λb m z=>R.od b m z.1,by rw[VO];show R.len,λj x l=>?_,λj k xs G w t r=>?_],F]
     .rcases dE l with⟨rfl,g⟩|⟨X4,l⟩
      .ext g;show#[_,y,F]
      .let(u,C,p):=R.slot j x l
       show#[u,C,?_];cases x with
       |fz d=>show DV.ev n p
       |pl i=>show p
       |ow xs=>let(b,I,rfl,N,M,L,J):=p;show#[b,I,W,#[N,λz=>X4 (R.one j i xs ds (.ref a) l q (by rw[C,z]) y)],M,L,J.ev n]
     .rcases dE t with⟨rfl,g⟩|⟨_,t⟩
      .ext g
      .rcases dE r with⟨rfl,g⟩|⟨_,r⟩
       .ext g
       .show R.one j k xs G w t r
end
def XOk(K:lD)(B:cN)(H:Hp)(c:M)(b:cv J)(x:Xc):Prop:=
 (∃a,c=.ref a/\UN K UI x.cls=R (R (.ref a)))/\∃fs,(∀p,b=R p->H p=R (.xd fs))/\∀f d,x.fs.lookup f=R d->b≠L/\∃v,fs.lookup f=R v/\DV B K H v d
def XE(K:lD)(B:cN)(a:Hp)(E:XK)(x:Xc):Prop:=∀c d b,Wr a b->XOk K B b c d x->E c d b
def WR(K:lD)(E:XK)(B:cN)(b:Hp)(P:α->Prop):Res α->Prop
 |.ok a=>P a
 |.er x=>XE K B b E x
 |.bad=>False
section
variable{K:lD}{E:XK}{B:cN}{Z:Hp}
def WR.bind(h:WR K E B Z b (r.bind k)):WR K E B Z (λa=>WR K E B Z b (k a)) r:=by ext r<;>show h
def WR.Vm(h:WR K E B Z b ((Res.Vm o).bind k)):∃a,o=R a/\WR K E B Z b (k a):=by
 cases o with
 |none=>show h.elim
 |some a=>show#[a,W,h]
def WR.imp(h:WR K E B Z b r)(g:∀a,b a->P' a):WR K E B Z P' r:=by
 cases r with
 |ok a=>show g a h
 |er x=>show h
 |bad=>show h
end
abbrev FE:=bM->Res (PV×bM)
abbrev FT:=bM->Res (Bool×bM)
abbrev FA:=bM->Res (G PV×bM)
def EO(K:lD)(E:XK)(t:TE)(f:FE):Prop:=
 ∀(B:cN) (b:Hp) (O:cN) (a:St) (H:Hp) (g:bM) (Q:VK),Rl K B b O a H g->WR K E B b (λr=>∀e v d,Ev O H e d->Rl K B b e a d r.2->Zr K b e a d r.2 v r.1->Q v d) (f g)->t a H Q
def TTO(K:lD)(E:XK)(t:TT)(f:FT):Prop:=
 ∀(B:cN) (b:Hp) (O:cN) (a:St) (H:Hp) (e:bM) (Q:Bool->Hp->Prop),Rl K B b O a H e->WR K E B b (λr=>∀g d,Ev O H g d->Rl K B b g a d r.2->Q r.1 d) (f e)->t a H Q
def AO(K:lD)(E:XK)(t:TA)(f:FA):Prop:=
 ∀(B:cN) (b:Hp) (O:cN) (a:St) (H:Hp) (g:bM) (Q:G V->Hp->Prop),Rl K B b O a H g->WR K E B b (λr=>∀e h d,Ev O H e d->Rl K B b e a d r.2->Paired (λv pv=>Zr K b e a d r.2 v pv/\nH pv) h r.1->Q h d) (f g)->t a H Q
inductive RV where
 |fz (d:D)
 |ow (ds:G D)
def RV.pv:RV->PV
 |.fz d=>.fz d
 |.ow ds=>.ow ds
def Fin(O:cN)(K:lD)(H:Hp)(Q:VK):RV->Prop
 |.fz d=>∀v a,Wr H a->DV O K a v d->Q v a
 |.ow ds=>∀p b a,Wr H a->H p=L->a p=R (.lst b)->Wb (cM O p) K a b ds->Q (.ref p) a
def ot(O:cN)(H:Hp):Prop:=∀a,H a=L->¬O a
section
variable{K:lD}{E:XK}{B O U:cN}{Y H X:Hp}{Z:St}{ρ ρ':bM}{v:V}
def lZ(R:Rl K B Y O Z H ρ)(h:∀U v X,Ev O H U X->Rl K B Y U Z X ρ->Zr K Y U Z X ρ v C.pv->Q v X):Fin O K H Q C:=by
 cases C with
 |fz d=>show λv X s f=>h O v X (Ev.grow s) (R.grow s) f
 |ow ds=>intro p t X s b e f;show h (cM O p) (.ref p) X (Ev.add s b) (R.add s b (by rw[e];simp)) #[p,t,W,.inr W,R.afN b,e,f,λi r w z=>?_];let(u,g,a,m,l,q,o,j,n):=R.slot i _ w;rw[z]at g;ext g;ext l;rw[b]at j;ext j
theorem Fin.new(hd:Wb O K H vs ds)(h:Fin O K H Q (.ow ds)):∀p,H p=L->Q (.ref p) (cy H p (.lst vs)):=λp a=>
 h p vs _ (bZ a _) a bp (hd.ev (Ev.add (bZ a _) a))
theorem Fin.aey(hd:Wb O K H vs ds)(b:ot O H)(h:Fin O K H Q (.fz (.tuple ds))):∀p,H p=L->Q (.ref p) (cy H p (.tup vs)):=λp a=>
 h (.ref p) _ (bZ a _) (.tup #[X5.of bp,λz=>bg z (b p a)] (hd.ev (Ev.grow (bZ a _))))
theorem Fin.at(h:Fin O K H Q (.fz d))(a:DV O K H v d):Q v H:=h v H (Wr.refl H) a
def C6(ρ:bM)(i:Nat):cv (cv PV)->Res (PV×bM)
 |some (R (.fz d))=>.ok (.fz d,ρ)
 |some (R (.ow _))=>.ok (.pl i,ρ)
 |_=>.bad
def aa(i:Nat):FE:=λρ=>C6 ρ i ρ[i]?
def ag:EO K E (ET i) (aa i):=by
 intro B Y O Z H ρ Q R w;unfold aa at w;cases q:ρ[i]? with
 |none=>rw[q]at w;show w.elim
 |some o=>
  cases o with
  |none=>rw[q]at w;show w.elim
  |some x=>
   rw[q]at w;let(v,a,b):=R.slot i x q;cases x with
   |fz d=>show#[v,a,w O v H .refl R b]
   |ow ds=>show#[v,a,w O v H .refl R a]
   |pl j=>show w.elim
def pC(d:D):FE:=λρ=>.ok (.fz d,ρ)
theorem Fx(h:∀O H,DV O K H v d):EO K E (tC v) (pC d):=λB Y O Z H ρ Q R w=>w O v H .refl R (h O H)
theorem aA:EO K E (tC (.int i)) (pC (.int i)):=Fx λ_ _=>.int i
theorem ul:EO K E (tC (.bl b)) (pC (.bool b)):=Fx λ_ _=>.bl b
theorem aM:EO K E (tC (.str x)) (pC (.str x)):=Fx λ_ _=>.str x
theorem io:EO K E (tC .Xp) (pC .none):=Fx λ_ _=>.Xp
def nV(K:lD)(r:R2)(f:D->D->cv RV):Prop:=∀(O:cN) (H:Hp) (x y:V) (d a:D) (b:RV) (Q:VK),ot O H->DX O K H x d->DX O K H y a->f d a=R b->Fin O K H Q b->r x y H Q
def aE(f:D->D->cv RV)(c fb:FE):FE:=λρ=>(c ρ).bind λa=>(fb a.2).bind λb=>(Res.Vm (sM b.2 (d3 a.1))).bind λg=>(Res.Vm (sM b.2 b.1)).bind λd=>(Res.Vm (f g d)).bind λe=>.ok (e.pv,b.2)
def aD(t:nV K r f)(c:EO K E ta fa)(u:EO K E tb fb):EO K E (Pi r ta tb) (aE f fa fb):=by intro B Y O Z H ρ Q R w;show c B Y O Z H ρ _ R (w.bind.imp λa i T x S C I q=>?_);let(M,A,R2,p):=iK I q;show u B Y M Z S a.2 _ R2 (i.bind.imp λb d L y P h e o=>?_);let g:=p.keep (nQ a.1) h (ρ':=b.2);let(dx,l,d):=d.Vm;let(F,j,d):=d.Vm;let(rv,m,d):=d.Vm;show t L P x y dx F rv Q e.od (kg e g l) (kg e o j) m (lZ e λJ v N z G n=>?_);show d J v N (C.trans (A.trans (h.trans z))) G n
def T3(K:lD)(r:V->Hp->VK->Prop)(f:D->cv RV):Prop:=∀(O:cN) (H:Hp) (x:V) (b:D) (a:RV) (Q:VK),ot O H->DX O K H x b->f b=R a->Fin O K H Q a->r x H Q
def QD(f:D->cv RV)(c:FE):FE:=λρ=>(c ρ).bind λa=>(Res.Vm (sM a.2 a.1)).bind λd=>(Res.Vm (f d)).bind λb=>.ok (b.pv,a.2)
def M3(j:T3 K r f)(c:EO K E C I):EO K E (TR r C) (QD f I):=by intro B Y O Z H ρ Q R w;show c B Y O Z H ρ _ R (w.bind.imp λa b p x t m d i=>?_);let(y,e,b):=b.Vm;let(u,g,b):=b.Vm;show j p t x y u Q d.od (kg d i e) g (lZ d λo v q l n h=>b o v q (m.trans l) n h)
def TD:D->cv Bool
 |.bool b=>R b
 |_=>L
def Og(h:DX O K H x d)(e:TD d=R b):x=.bl b:=by ext d<;>ext e;ext h;rfl
def au(c:FE):bM->Res (Bool×bM):=λρ=>(c ρ).bind λa=>(Res.Vm (sM a.2 a.1)).bind λd=>(Res.Vm (TD d)).bind λb=>.ok (b,a.2)
def aL(c:EO K E o C):TTO K E (Ep o) (au C):=by intro B Y O Z H ρ Q R w;show c B Y O Z H ρ _ R (w.bind.imp λa e l x m j f i=>?_);let(d,g,e):=e.Vm;let(b,h,e):=e.Vm;show#[b,Og (kg f i g) h,e l m j f]
theorem kK(a:EO K E o C):TTO K E (tB o) (au C):=aL a
def lQ(b fb:FT):FT:=λρ=>(b ρ).bind λa=>if a.1=P then fb a.2 else .ok (Uu,a.2)
def uX(b fb:FT):FT:=λρ=>(b ρ).bind λa=>if a.1=P then .ok (P,a.2)else fb a.2
def lO(b:FT):FT:=λρ=>(b ρ).bind λa=>.ok (!a.1,a.2)
theorem TTO.next(h:TTO K E t f)(R:Rl K B Y O1 Z H1 ρ)(a:Ev O H O1 H1)(w:WR K E B Y (λr=>∀U X,Ev O H U X->Rl K B Y U Z X r.2->Q r.1 X) (f ρ)):t Z H1 Q:=
 h B Y O1 Z H1 ρ Q R (w.imp λr q U X b d=>q U X (a.trans b) d)
theorem EO.next(h:EO K E t f)(R:Rl K B Y O1 Z H1 ρ)(b:Ev O H O1 H1)(w:WR K E B Y (λr=>∀U v X,Ev O H U X->Rl K B Y U Z X r.2->Zr K Y U Z X r.2 v r.1->Q v X) (f ρ)):t Z H1 Q:=
 h B Y O1 Z H1 ρ Q R (w.imp λr q U v X d e a=>q U v X (b.trans d) e a)
def gQ(l:TTO K E t f)(j:TTO K E u g):TTO K E (Pr t u) (lQ f g):=by
 intro B Y O Z H ρ Q R w;show l B Y O Z H ρ _ R (w.bind.imp λa d m n e h=>?_);let(b,i):=a;cases b with
 |true=>show j.next h e d
 |false=>show d m n e h
def oJ(l:TTO K E t f)(j:TTO K E u g):TTO K E (Ti t u) (uX f g):=by
 intro B Y O Z H ρ Q R w;show l B Y O Z H ρ _ R (w.bind.imp λa d m n e h=>?_);let(b,i):=a;cases b with
 |true=>show d m n e h
 |false=>show j.next h e d
def qW(d:TTO K E t f):TTO K E (P0 t) (lO f):=by intro B Y O Z H ρ Q R w;show d B Y O Z H ρ _ R (w.bind.imp λa b h i e g=>b h i e g)
def dJ:FT:=λρ=>.ok (P,ρ)
theorem cc:TTO K E Hj dJ:=λB Y O Z H ρ Q R w=>w O H .refl R
def Gq(b fb:FE):FE:=λρ=>(au b ρ).bind λa=>if a.1=P then fb a.2 else .ok (.fz (.bool Uu),a.2)
def FC(b:FE):FE:=λρ=>(au b ρ).bind λa=>.ok (.fz (.bool (!a.1)),a.2)
def x3(k:EO K E C I)(i:EO K E o fb):EO K E (Ia C o) (Gq I fb):=by
 intro B Y O Z H ρ Q R w;show aL k B Y O Z H ρ (λc d=>if c=P then o Z d Q else Q (.bl Uu) d) R (w.bind.imp λa e j d f g=>?_);let(b,h):=a;cases b with
 |true=>show i.next g f e
 |false=>show e j _ d f g (.bl Uu)
def JS(h:EO K E o C):EO K E (NF o) (FC C):=by intro B Y O Z H ρ Q R w;show aL h B Y O Z H ρ (λc b=>Q (.bl (!c)) b) R (w.bind.imp λa d g b e f=>d g _ b e f (.bl _))
def Gx(c:FT)(b fb:FE):FE:=λρ=>(c ρ).bind λa=>if a.1=P then b a.2 else fb a.2
def Jp(h:TTO K E t c)(k:EO K E C I)(i:EO K E o fb):EO K E (S2 t C o) (Gx c I fb):=by
 intro B Y O Z H ρ Q R w;show h B Y O Z H ρ _ R (w.bind.imp λa d j l e f=>?_);let(b,g):=a;cases b with
 |true=>show k.next f e d
 |false=>show i.next f e d
def gm(f g:D->D->cv RV)(k fb e:FE):FE:=λρ=>(k ρ).bind λa=>(fb a.2).bind λb=>(Res.Vm (sM b.2 (d3 a.1))).bind λl=>(Res.Vm (sM b.2 (d3 b.1))).bind λi=>
 (Res.Vm (f l i)).bind λj=>match j with
  |.fz (.bool P)=>(e b.2).bind λc=>(Res.Vm (sM c.2 (d3 b.1))).bind λd=>(Res.Vm (sM c.2 c.1)).bind λh=>(Res.Vm (g d h)).bind λj=>.ok (j.pv,c.2)
  |.fz (.bool Uu)=>.ok (.fz (.bool Uu),b.2)
  |_=>.bad
def iV(D:nV K r f)(q:nV K r' g)(ha:EO K E ta fa)(hb:EO K E tb fb)(hc:EO K E tc fc):EO K E (BV r r' ta tb tc) (gm f g fa fb fc):=by
 intro B Y O Z H ρ Q R w;show ha B Y O Z H ρ _ R (w.bind.imp λa N O1 x H1 J R1 p1=>?_);let(O2,I,R2,p2):=iK R1 p1;show hb B Y O2 Z H1 a.2 _ R2 (N.bind.imp λb e O3' y M u C o=>?_);let(j,i,m,F):=iK C o;let i:=u.trans i;let p:=p2.keep (nQ a.1) i (ρ':=b.2);let(dx,T,e):=e.Vm;let(dy,S,e):=e.Vm;let(rv,qf,e):=e.Vm;show D j M x y dx dy rv _ m.od (kg m p T) (kg m F S) qf ?_;cases rv with
 |ow ds=>show e.elim
 |fz d=>
  intro v X s dv;cases dv with
  |bl k=>
   show#[k,W,?_];let L:=m.grow s;let t:Ev j M j X:=Ev.grow s;cases k with
   |false=>show e j _ X (J.trans (I.trans (i.trans t))) L (.bl Uu)
   |true=>rw[av W];show hc B Y j Z X b.2 _ L (WR.imp (WR.bind e) λc h O5 z H5 G l p5=>?_);let(A,n,h):=h.Vm;let(dz,P,h):=h.Vm;let(rv,qg,h):=h.Vm;show q O5 H5 y z A dz rv Q l.od (kg l (F.keep (nQ b.1) (t.trans G)) n) (kg l p5 P) qg (lZ l λO6 v H6 e6 R6 p6=>?_);show h O6 v H6 (J.trans (I.trans (i.trans (t.trans (G.trans e6))))) R6 p6
  |_=>show e.elim
def aq:FA:=λρ=>.ok ([],ρ)
def ae(c:FE)(d:FA):FA:=λρ=>(c ρ).bind λa=>(d a.2).bind λb=>.ok (d3 a.1::b.1,b.2)
theorem ar:AO K E pN aq:=λB Y O Z H ρ Q R w=>w O [] H .refl R .nil
def ah(c:EO K E C I)(l:AO K E tr fr):AO K E (l6 C tr) (ae I fr):=by intro B Y O Z H ρ Q R w;show c B Y O Z H ρ _ R (w.bind.imp λa g y x u n p j=>?_);let(r,m,R2,i):=iK p j;show l B Y r Z u a.2 _ R2 (g.bind.imp λb f q e t d o h=>?_);show f q (x::e) t (n.trans (m.trans d)) o (.cons #[i.keep (nQ a.1) d,nQ a.1] h)
def vZ(ρ:bM):G PV->cv (G D)
 |[]=>R []
 |p::r=>match sM ρ p with
  |some d=>(match vZ ρ r with
   |some ds=>R (d::ds)
   |none=>L)
  |none=>L
theorem uJ(R:Rl K B Y O Z H ρ):∀{g:G V} {c:G PV} {ds:G D},Paired (λv pv=>Zr K Y O Z H ρ v pv/\nH pv) g c->vZ ρ c=cL ds->Paired (DX O K H) g ds
 |_,_,_,.nil,e=>by ext e;show .nil
 |_,_,_,.cons (l₂:=c) (b:=p) h t,e=>by
  unfold vZ at e;cases q:sM ρ p with
  |none=>rw[q]at e;ext e
  |some d=>
   rw[q]at e;dsimp only at e;cases f:vZ ρ c with
   |none=>rw[f]at e;ext e
   |some a=>rw[f]at e;ext e;show .cons (kg R h.1 q) (uJ R t f)
def pA(ρ:bM):G PV->cv (G D×bM)
 |[]=>R ([],ρ)
 |p::r=>match zn ρ p with
  |some (d,b)=>(match pA b r with
   |some (ds,a)=>R (d::ds,a)
   |none=>L)
  |none=>L
theorem oO:∀{k:G V} {c:G PV} {ds:G D} {O:cN} {ρ ρ':bM},Rl K B Y O Z H ρ->Paired (λv pv=>Zr K Y O Z H ρ v pv/\nH pv) k c->pA ρ c=cL (ds,ρ')->∃U,Ev O H U H/\Rl K B Y U Z H ρ'/\Wb U K H k ds
 |_,_,_,O,_,_,A,.nil,e=>by ext e;show#[O,.refl,A,.nil]
 |_,_,_,O,ρ,ρ',A,.cons (l₁:=k) (l₂:=c) (b:=p) h t,e=>by
  unfold pA at e;cases q:zn ρ p with
  |none=>rw[q]at e;ext e
  |some r=>
   let(d,a):=r;rw[q]at e;dsimp only at e;cases C:pA a c with
   |none=>rw[C]at e;ext e
   |some m=>let(o,j):=m;rw[C]at e;ext e;let(z,i,w,d1):=vG A h.1 q;let l:Paired (λv pv=>Zr K Y z Z H a v pv/\nH pv) k c:=Paired.Yv t λv pv #[n,f]=>#[n.keep f i,f];let(y,g,R2,u):=oO w l C;show#[y,i.trans g,R2,.cons (d1.ev g) u]
abbrev FN:=G D->Res RV
def g7(K:lD)(n:Nat)(F:FN):Sp:=λb H Q E=>b.length=n/\∃(B:cN) (ds:G D),(∀a,B a->H a≠L)/\Wb B K H b ds/\WR K E B H (Fin B K H Q) (F ds)
def dA(c:FA):FE:=λρ=>(c ρ).bind λa=>(Res.Vm (pA a.2 a.1)).bind λb=>if b.1.length<=1000 then .ok (.fz (.tuple b.1),b.2)else .bad
def dF(c:FA):FE:=λρ=>(c ρ).bind λa=>(Res.Vm (pA a.2 a.1)).bind λb=>if b.1.length<=1000 then .ok (.ow b.1,b.2)else .bad
theorem Cp(h:n<=1000):n<=UG:=Vn h ()
def jF(c:AO K E C I):EO K E (N9 C) (dA I):=by
 intro B Y O Z H ρ Q R w;show c B Y O Z H ρ _ R (w.bind.imp λa f t y u l n h=>?_);let((ds,e),q,b):=f.Vm;let(r,j,R2,d):=oO n h q;dsimp only at b;by_cases hn:ds.length<=1000
 .rw[av hn]at b;show#[by rw[d.length];show Cp hn,Fin.aey d R2.od (lZ R2 λo v p i m g=>b o v p (l.trans (j.trans i)) m g)]
 .rw[ax hn]at b;show b.elim
def fD(c:AO K E C I):EO K E (Sc C) (dF I):=by
 intro B Y O Z H ρ Q R w;show c B Y O Z H ρ _ R (w.bind.imp λa f t y u l n h=>?_);let((ds,e),q,b):=f.Vm;let(r,j,R2,d):=oO n h q;dsimp only at b;by_cases hn:ds.length<=1000
 .rw[av hn]at b;show#[by rw[d.length];show Cp hn,Fin.new d (lZ R2 λo v p i m g=>b o v p (l.trans (j.trans i)) m g)]
 .rw[ax hn]at b;show b.elim
def Bk(K:lD)(r:G V->Hp->VK->Prop)(f:G D->cv RV):Prop:=∀(O:cN) (H:Hp) (xs:G V) (ds:G D) (a:RV) (Q:VK),ot O H->Paired (DX O K H) xs ds->f ds=R a->Fin O K H Q a->r xs H Q
def ez(f:G D->cv RV)(c:FA):FE:=λρ=>(c ρ).bind λa=>(Res.Vm (vZ a.2 a.1)).bind λds=>(Res.Vm (f ds)).bind λb=>.ok (b.pv,a.2)
def cI(j:Bk K r f)(c:AO K E C I):EO K E (Mz r C) (ez f I):=by intro B Y O Z H ρ Q R w;show c B Y O Z H ρ _ R (w.bind.imp λa e p y u m d i=>?_);let(ds,q,b):=e.Vm;let(z,g,b):=b.Vm;show j p u y ds z Q d.od (uJ d i q) g (lZ d λo v t l n h=>b o v t (m.trans l) n h)
def SH:D->cv Int
 |.int i=>R i
 |_=>L
def Hb(h:DX O K H x d)(e:SH d=R i):x=.int i:=by ext d<;>ext e;ext h;rfl
abbrev FO:=bM->Res (cv Int×bM)
def SK(K:lD)(E:XK)(t:TO)(f:FO):Prop:=
 ∀(B:cN) (Y:Hp) (O:cN) (Z:St) (H:Hp) (ρ:bM) (Q:cv Int->Hp->Prop),Rl K B Y O Z H ρ->WR K E B Y (λr=>∀U X,Ev O H U X->Rl K B Y U Z X r.2->Q r.1 X) (f ρ)->t Z H Q
def ke:FO:=λρ=>.ok (L,ρ)
def gy(b:FE):FO:=λρ=>(b ρ).bind λa=>(Res.Vm (sM a.2 a.1)).bind λd=>(Res.Vm (SH d)).bind λi=>.ok (R i,a.2)
theorem fQ:SK K E Ed ke:=λB Y O Z H ρ Q R w=>w O H .refl R
def c7(c:EO K E o C):SK K E (Ng o) (gy C):=by intro B Y O Z H ρ Q R w;show c B Y O Z H ρ _ R (w.bind.imp λa f l x m j e h=>?_);let(d,q,b):=f.Vm;let(i,g,b):=b.Vm;show#[i,Hb (kg e h q) g,b l m j e]
def Tn(K:lD)(r:V->cv Int->cv Int->Hp->VK->Prop)(f:D->cv Int->cv Int->cv RV):Prop:=∀(O:cN) (H:Hp) (x:V) (lo b:cv Int) (d:D) (a:RV) (Q:VK),ot O H->DX O K H x d->f d lo b=R a->Fin O K H Q a->r x lo b H Q
def xR(f:D->cv Int->cv Int->cv RV)(c:FE)(b d:FO):FE:=λρ=>(c ρ).bind λa=>(b a.2).bind λl=>(d l.2).bind λh=>(Res.Vm (sM h.2 (d3 a.1))).bind λg=>(Res.Vm (f g l.1 h.1)).bind λe=>.ok (e.pv,h.2)
def jL(t:Tn K r f)(c:EO K E ta fa)(u:SK K E tl fl)(y:SK K E th fh):EO K E (TV r ta tl th) (xR f fa fl fh):=by intro B Y O Z H ρ Q R w;show c B Y O Z H ρ _ R (w.bind.imp λa j O1 x H1 C I q=>?_);let(N,A,R2,p):=iK I q;show u B Y N Z H1 a.2 _ R2 (j.bind.imp λl i M T g G=>?_);show y B Y M Z T l.2 _ G (i.bind.imp λh b L S e d=>?_);let(dx,m,b):=b.Vm;let(rv,n,b):=b.Vm;show t L S x l.1 h.1 dx rv Q d.od (kg d (p.keep (nQ a.1) (g.trans e)) m) n (lZ d λJ v P z F o=>b J v P (C.trans (A.trans (g.trans (e.trans z)))) F o)
end
def yN{l:G α}(h:(l.set i x)[i]?=R y):i<l.length:=by
 rw[VH]at h;rw[av W]at h;split at h
 .assumption
 .ext h
section
variable{K:lD}{E:XK}{B O T:cN}{Z H U:Hp}{Y:St}{ρ ρ':bM}{v:V}
def Rl.mut{i:Nat}{ds g:cn D}{a:Uw}{f:cn V}(R:Rl K B Z O Y H ρ)(c:ρ[i]?=cL (cL (.ow ds)))(I:Y[i]?=cL (cL (.ref a)))(J:O a)(L:Z a=CL)(hd:Wb O K H f g):
  Rl K B Z O Y (cy H a (.lst f)) (ρ.set i (cL (.ow g))):=by
 let ev:Ev O H O (cy H a (.lst f)):=Ev.mut J _;show#[λb o e=>by rw[bG (cU e L)];show R.same b o e,R.bo,R.bd,λb m=>?_,by rw[VO];show R.len,λj x l=>?_,λj k xs F w hj X y r=>?_]
 .by_cases e:b=a
  .rw[e,bp]at m;ext m
  .rw[bG e]at m;show R.od b m
 .rcases dE l with⟨rfl,ee⟩|⟨X4,l⟩
  .ext ee;show#[_,I,a,f,W,J,L,bp,hd.ev ev]
  .let(u,G,q):=R.slot j x l
   show#[u,G,?_];cases x with
   |fz d=>show DV.ev ev q
   |pl i=>show q
   |ow xs=>let(b,M,rfl,S,Q,P,N):=q;let C:b≠a:=λz=>X4 (R.one j i xs ds (.ref a) l c (by rw[G,z]) I);show#[b,M,W,S,Q,by rw[bG C];show P,N.ev ev]
 .let own:∀{j:Nat} {xs:cn D},(ρ.set i (cL (.ow g)))[j]?=cL (cL (.ow xs))->∃F,ρ[j]?=cL (cL (.ow F)):=λ{j xs} h=>by
   rcases dE h with⟨rfl,_⟩|⟨_,h⟩
   .show#[_,c]
   .show#[_,h]
  let(p,A):=own hj;let(n,t):=own X;show R.one j k p n w A t y r
theorem xz(h:n<1000000):n<UG:=UX h ()
def Ce:cv (cv PV)->cv (G D)
 |some (R (.ow ds))=>R ds
 |_=>L
def tG(h:Ce o=R ds):o=R (R (.ow ds)):=by
 unfold Ce at h;split at h
 .ext h;rfl
 .ext h
def Ci(i:Nat)(c:FE):FE:=λρ=>(Res.Vm (Ce ρ[i]?)).bind λ_=>(c ρ).bind λa=>(Res.Vm (zn a.2 a.1)).bind λb=>(Res.Vm (Ce b.2[i]?)).bind λds=>
 if ds.length<1000000 then .ok (.fz .none,b.2.set i (R (.ow (ds++[b.1]))))else .bad
def yo(z:EO K E te fe):EO K E (Rk K "list" xE (ET i) (l6 te pN)) (Ci i fe):=by
 intro B Z O Y H ρ Q R w;let(J,q,w):=w.Vm;let(v,j,a,vs,rfl,X,S,A,P):=R.slot i _ (tG q);show#[_,j,.inl #[W,_,Yh.of A],?_];show z B Z O Y H ρ _ R (w.bind.imp λb e O1 y H1 F L r=>?_);let((d,o),p,e):=e.Vm;let(M,C,R2,I):=vG L r p;let(ds,f,e):=e.Vm;let f:=tG f;let(N,n,a',g,G,m,u,t,l):=R2.slot i _ f;subst G;rw[j]at n;ext n;dsimp only at e;by_cases h:ds.length<1000000
 .rw[av h]at e;show#[a,g,y,W,W,t,xz (by rw[l.length];show h),?_];show e M .Xp _ (F.trans (C.trans (Ev.mut m _))) (R2.mut f j m u (l.append (.cons I .nil))) .Xp
 .rw[ax h]at e;show e.elim
abbrev FG:=PV->bM->Res bM
abbrev Q9:=G D->bM->Res bM
def GO(K:lD)(E:XK)(g:TG)(f:FG):Prop:=
 ∀(B:cN) (Z:Hp) (O:cN) (Y:St) (H:Hp) (ρ:bM) (v:V) (pv:PV) (Q:St->Hp->Prop),Rl K B Z O Y H ρ->Zr K Z O Y H ρ v pv->WR K E B Z (λρ'=>∀T a U,Ev O H T U->Rl K B Z T a U ρ'->Q a U) (f pv ρ)->g v Y H Q
def SU(K:lD)(E:XK)(g:NP)(f:Q9):Prop:=
 ∀(B:cN) (Z:Hp) (O:cN) (Y:St) (H:Hp) (ρ:bM) (b:G V) (ds:G D) (Q:St->Hp->Prop),Rl K B Z O Y H ρ->Wb O K H b ds->WR K E B Z (λρ'=>∀T a U,Ev O H T U->Rl K B Z T a U ρ'->Q a U) (f ds ρ)->g b Y H Q
def Rl.ahs(R:Rl K B Z O Y H ρ)(h:DV O K H v d):Rl K B Z O (Y.set i (cL v)) H (ρ.set i (cL (.fz d))):=by
 show#[R.same,R.bo,R.bd,R.od,by rw[VO,VO];show R.len,λj x f=>?_,λj k xs n w l g b a=>?_]
 .rcases dE f with⟨rfl,e⟩|⟨t,f⟩
  .ext e;let:=yN f;show#[v,by rw[VH,av W,av (by rw[R.len];show this)],h]
  .let(u,r,q):=R.slot j x f;show#[u,by rw[VH,ax (λz=>t z.symm)];show r,q]
 .rcases dE l with⟨rfl,m⟩|⟨p,l⟩
  .ext m
  .rcases dE g with⟨rfl,m⟩|⟨o,g⟩
   .ext m
   .rw[VH,ax (λz=>p z.symm)]at b;rw[VH,ax (λz=>o z.symm)]at a;show R.one j k xs n w l g b a
def Rl.ajB(R:Rl K B Z O Y H ρ)(h:Zr K Z O Y H ρ v (.ow ds)):Rl K B Z O (Y.set i (cL v)) H (ρ.set i (cL (.ow ds))):=by
 let(a,N,rfl,G,F,C,A,o):=h;show#[R.same,R.bo,R.bd,R.od,by rw[VO,VO];show R.len,λj x l=>?_,λj k xs n w y g d b=>?_]
 .rcases dE l with⟨rfl,e⟩|⟨L,l⟩
  .ext e;let:=yN l;show#[.ref a,by rw[VH,av W,av (by rw[R.len];show this)],a,N,W,G,F,C,A]
  .let(u,r,q):=R.slot j x l;show#[u,by rw[VH,ax (λz=>L z.symm)];show r,q]
 .rcases dE y with⟨rfl,J⟩|⟨p,f⟩
  .rcases dE g with⟨rfl,I⟩|⟨m,g⟩
   .rfl
   .rw[VH,ax (λz=>m z.symm)]at b
    rcases dE d with⟨_,e⟩|⟨z,_⟩
    .ext e;show bg b (o k n g)
    .show bg W z
  .let t:=f
   rw[VH,ax (λz=>p z.symm)]at d;rcases dE g with⟨rfl,J⟩|⟨m,g⟩
   .rcases dE b with⟨_,e⟩|⟨z,_⟩
    .ext e;show bg d (o j xs f)
    .show bg W z
   .rw[VH,ax (λz=>m z.symm)]at b;show R.one j k xs n w f g d b
def gN(i:Nat):FG:=λpv ρ=>match pv with
 |.ow ds=>.ok (ρ.set i (R (.ow ds)))
 |.fz d=>.ok (ρ.set i (R (.fz d)))
 |.pl j=>(Res.Vm (zn ρ (.pl j))).bind λb=>.ok (b.2.set i (R (.fz b.1)))
def aK:GO K E (zL i) (gN i):=by
 intro B Z O Y H ρ v pv Q R p w;cases pv with
 |ow ds=>show w O _ H .refl (R.ajB p)
 |fz d=>show w O _ H .refl (R.ahs p)
 |pl j=>let((d,a),q,w):=WR.Vm (show WR K E B Z _ ((Res.Vm (zn ρ (.pl j))).bind λb=>.ok (b.2.set i (cL (.fz b.1))))from w);let(g,e,R2,f):=vG R p q;show w g _ H e (R2.ahs f)
def Kh:Q9:=λds ρ=>match ds with
 |[]=>.ok ρ
 |_=>.bad
def zu(f:FG)(g:Q9):Q9:=λds ρ=>match ds with
 |[]=>.bad
 |d::r=>(f (.fz d) ρ).bind λa=>g r a
def rX:SU K E PB Kh:=by
 intro B Z O Y H ρ b ds Q R a w;cases a with
 |nil=>show#[W,w O Y H .refl R]
 |cons _ _=>show w.elim
def g9(o:GO K E t f)(n:SU K E u g):SU K E (Gu t u) (zu f g):=by
 intro B Z O Y H ρ I ds Q R r w;cases r with
 |nil=>show w.elim
 |cons m l=>rename_i v I d ds;show#[_,_,W,o B Z O Y H ρ _ (.fz d) _ R m (WR.imp (WR.bind w) λe j A b F h y=>?_)];show n B Z A b F e _ _ Q y (l.ev h) (j.imp λi q z a C p R2=>q z a C (h.trans p) R2)
def TU:D->cv (G D)
 |.tuple ds=>R ds
 |_=>L
def HV(h:DX O K H x d)(e:TU d=R ds):∃a xs,x=.ref a/\Zp O K H a xs/\Wb O K H xs ds:=by
 ext d<;>ext e;cases h with
 |tup h b=>show#[_,_,W,h,b]
def gT(n:Nat)(f:Q9):FG:=λpv ρ=>(Res.Vm (sM ρ pv)).bind λd=>(Res.Vm (TU d)).bind λds=>if ds.length=n then f ds ρ else .bad
def rm(h:SU K E t f):GO K E (Qq K n t) (gT n f):=by
 intro B Z O Y H ρ v pv Q R p w;let(d,g,w):=w.Vm;let(ds,e,w):=w.Vm;let(a,xs,rfl,i,b):=HV (kg R p g) e;by_cases hn:ds.length=n
 .rw[av hn]at w;show#[a,xs,W,i.1,b.length.trans hn,h B Z O Y H ρ xs ds Q R b w]
 .rw[ax hn]at w;show w.elim
def Tc(i:Nat)(c:FE):FG:=λpv ρ=>(Res.Vm (zn ρ pv)).bind λb=>(Res.Vm (Ce b.2[i]?)).bind λ_=>(c b.2).bind λa=>(Res.Vm (sM a.2 a.1)).bind λd=>(Res.Vm (SH d)).bind λn=>(Res.Vm (Ce a.2[i]?)).bind λds=>
 (Res.Vm (FW ds.length n)).bind λk=>.ok (a.2.set i (R (.ow (ds.set k b.1))))
def Rz(c:EO K E ti fi):GO K E (Sh (ET i) ti ML) (Tc i fi):=by intro B Z O Y H ρ v pv Q R p w;let((d,g),C,w):=w.Vm;let(O1,M,r,P):=vG R p C;let(S,F,w):=w.Vm;let(u,j,a,vs,rfl,g2,g3,g4,g5):=r.slot i _ (tG F);show#[_,j,?_];show c B Z O1 Y H g _ r (w.bind.imp λb e X y H2 q R2 G=>?_);let(dn,t,e):=e.Vm;let(n,A,e):=e.Vm;let(ds,f,e):=e.Vm;let(k,z,e):=e.Vm;let f:=tG f;let L:=Hb (kg R2 G t) A;subst L;let(v',o,a',h,N,m,J,I,l):=R2.slot i _ f;subst N;rw[j]at o;ext o;show#[a,h,n,k,W,W,I,by rw[l.length];show z,?_];show e X Y _ (M.trans (q.trans (Ev.mut m _))) (R2.mut f j m J (l.set (P.ev q) k))
inductive Fl where
 |nx (ρ:bM)
 |rt (rv:RV)
 |bk (ρ:bM)
 |ct (ρ:bM)
abbrev FS:=bM->Res Fl
def acM(K:lD)(B:cN)(Z:Hp)(O:cN)(H:Hp)(D:Ends):Fl->Prop
 |.nx ρ'=>∀T a U,Ev O H T U->Rl K B Z T a U ρ'->D.nx a U
 |.bk ρ'=>∀T a U,Ev O H T U->Rl K B Z T a U ρ'->D.bk a U
 |.ct ρ'=>∀T a U,Ev O H T U->Rl K B Z T a U ρ'->D.ct a U
 |.rt b=>Fin B K Z D.rt b
def SO(K:lD)(E:XK)(t:TS)(g:FS):Prop:=
 ∀(B:cN) (Z:Hp) (O:cN) (Y:St) (H:Hp) (ρ:bM) (D:Ends),Rl K B Z O Y H ρ->WR K E B Z (acM K B Z O H D) (g ρ)->t D Y H
def acM.ev{D:Ends}(e:Ev O H O1 H1)(h:acM K B Z O H D fl):acM K B Z O1 H1 D fl:=by
 cases fl with
 |nx ρ'=>show λT a U b d=>h T a U (e.trans b) d
 |bk ρ'=>show λT a U b d=>h T a U (e.trans b) d
 |ct ρ'=>show λT a U b d=>h T a U (e.trans b) d
 |rt f=>show h
def bQ:FS:=λρ=>.ok (.nx ρ)
def bv(f g:FS):FS:=λρ=>(f ρ).bind λa=>match a with
 |.nx b=>g b
 |a=>.ok a
def nh(f:FE):FS:=λρ=>(f ρ).bind λa=>.ok (.nx a.2)
def fy(f:FE)(g:FG):FS:=λρ=>(f ρ).bind λa=>(g a.1 a.2).bind λb=>.ok (.nx b)
def gF(c:FT)(f g:FS):FS:=λρ=>(c ρ).bind λa=>if a.1=P then f a.2 else g a.2
def Fm(ρ:bM):PV->cv RV
 |.fz d=>R (.fz d)
 |.ow ds=>R (.ow ds)
 |.pl i=>match ρ[i]? with
  |some (R (.fz d))=>R (.fz d)
  |some (R (.ow ds))=>R (.ow ds)
  |_=>L
def bK(f:FE):FS:=λρ=>(f ρ).bind λa=>(Res.Vm (Fm a.2 a.1)).bind λb=>.ok (.rt b)
def gY:FS:=λ_=>.bad
theorem cJ:SO K E J0 bQ:=λB Z O Y H ρ D R w=>w O Y H .refl R
theorem mL:SO K E B2 gY:=λB Z O Y H ρ D R w=>w.elim
def aQ(i:SO K E t f)(h:SO K E u g):SO K E (OE t u) (bv f g):=by
 intro B Z O Y H ρ D R w;show i B Z O Y H ρ {D with nx:=u D} R (WR.imp (WR.bind w) λe b=>?_);cases e with
 |nx a=>show λm d n j l=>h B Z m d n a D l (WR.imp b λe q=>q.ev j)
 |rt o=>show b
 |bk a=>show b
 |ct a=>show b
def tH(h:EO K E t f):SO K E (IP t) (nh f):=by intro B Z O Y H ρ D R w;show h B Z O Y H ρ _ R (w.bind.imp λa b g x i d e j=>b g Y i d e)
def eJ(h:EO K E t f)(l:GO K E g C):SO K E (Jx t g) (fy f C):=by intro B Z O Y H ρ D R w;show h B Z O Y H ρ _ R (w.bind.imp λa i q x u n o j=>?_);show l B Z q Y u a.2 x a.1 _ o j (i.bind.imp λd e p b r m R2=>e p b r (n.trans m) R2)
def fA(m:TTO K E c C)(o:SO K E t f)(n:SO K E u g):SO K E (Pp c t u) (gF C f g):=by
 intro B Z O Y H ρ D R w;show m B Z O Y H ρ _ R (w.bind.imp λa e j l h i=>?_);let(b,d):=a;cases b with
 |true=>show o B Z j Y l d D i (WR.imp e λp q=>q.ev h)
 |false=>show n B Z j Y l d D i (WR.imp e λp q=>q.ev h)
def Pq{pv:PV}(R:Rl K B Z O Y H ρ)(p:Zr K Z O Y H ρ v pv)(e:Fm ρ pv=cL C)(w:Fin B K Z Q C):Q v H:=by
 let ow:∀{a:J} {A:G V} {ds:G D},O a->Z a=L->H a=cL (.lst A)->Wb O K H A ds->Fin B K Z Q (.ow ds)->Q (.ref a) H:=λ{a A ds} m l g f w=>
  w a A H R.same l g (f.ev (Ev.sub λb z=>z.elim (R.bo b) λe=>by rw[e];show m))
 let fz:∀{d:D},DV O K H v d->Fin B K Z Q (.fz d)->Q v H:=λ{d} h w=>w v H R.same (h.ev (Ev.sub R.bo));cases pv with
 |fz d=>ext e;show fz p w
 |ow ds=>ext e;let(a,A,rfl,m,l,g,f,y):=p;show ow m l g f w
 |pl i=>
  let t:=p;unfold Fm at e;dsimp only at e;cases q:ρ[i]? with
  |none=>rw[q]at e;ext e
  |some o=>
   cases o with
   |none=>rw[q]at e;ext e
   |some x=>
    let(u,r,n):=R.slot i x q;rw[t]at r;ext r;rw[q]at e;cases x with
    |fz d=>ext e;show fz n w
    |ow ds=>ext e;let(a,A,rfl,m,l,g,f):=n;show ow m l g f w
    |pl j=>show n.elim
def bf(h:EO K E t f):SO K E (NN t) (bK f):=by intro B Z O Y H ρ D R w;show h B Z O Y H ρ _ R (w.bind.imp λa b i x j g e d=>?_);let(l,q,b):=b.Vm;show Pq e d q b
def tz(K:lD)(J:It)(O:cN)(H:Hp)(ds:G D):Prop:=∀T U,Ev O H T U->ot T U->
 (∀i,i<ds.length->J.go i U/\∀x a,J.yld i U x a->Wr U a/\∃d,ds[i]?=R d/\DV T K a x d)/\J.stop ds.length U
abbrev FI:=bM->Res (G D×bM)
def IO(K:lD)(E:XK)(b:TI)(c:FI):Prop:=
 ∀(B:cN) (Z:Hp) (O:cN) (Y:St) (H:Hp) (ρ:bM) (a:It->Hp->Prop),Rl K B Z O Y H ρ->WR K E B Z (λr=>∀T J U,Ev O H T U->Rl K B Z T Y U r.2->tz K J T U r.1->a J U) (c ρ)->b Y H a
def sV(gt:FG)(b:FS):G D->FS
 |[],ρ=>.ok (.nx ρ)
 |d::r,ρ=>(gt (.fz d) ρ).bind λa=>(b a).bind λe=>match e with
  |.nx f=>sV gt b r f
  |.ct f=>sV gt b r f
  |.bk f=>.ok (.nx f)
  |.rt g=>.ok (.rt g)
def pK(c:FI)(gt:FG)(b:FS):FS:=λρ=>(c ρ).bind λa=>sV gt b a.1 a.2
def BR(c:IO K E wi fi)(k:GO K E g gt)(s:SO K E tb b):SO K E (Qc wi g tb) (pK fi gt b):=by
 intro B Z O Y H ρ D R w;show c B Z O Y H ρ _ R (w.bind.imp λa N G J H1 S X Q=>?_);let(ds,F):=a;dsimp only at N Q X;show#[λi m f U=>m=ds.length - i/\i<=ds.length/\∃O2 ρ2,Ev G H1 O2 U/\Rl K B Z O2 f U ρ2/\WR K E B Z (acM K B Z O H D) (sV gt b (ds.drop i) ρ2),#[_,W,V0 _,G,F,.refl,X,N],?_];rintro i m n M ⟨rfl,c,O2,ρ2,e2,R2,w2⟩;let(go,o):=Q O2 M e2 R2.od;by_cases z:i<ds.length
 .let(g1,g2):=go i z
  show .inr #[g1,λf U=>i+1<=ds.length/\∃O2 ρ2,Ev G H1 O2 U/\Rl K B Z O2 f U ρ2/\WR K E B Z (acM K B Z O H D) (sV gt b (ds.drop (i+1)) ρ2),λf U #[h1,h2]=>#[ds.length - (i+1),by ext,W,h1,h2],λx L y=>?_];let(P,d,hd,dv):=g2 x L y;let ed:ds.drop i=d::ds.drop (i+1):=by let(_,q):=Uo.mp hd;rw[WL z,q]
  rw[ed]at w2;let e3:Ev O2 M O2 L:=Ev.grow P;show k B Z O2 n L ρ2 x (.fz d) _ (R2.grow P) dv (WR.imp (WR.bind w2) λC w3 O4 A H4 e4 R4=>?_);let l:=e2.trans (e3.trans e4);show s B Z O4 A H4 C _ R4 (WR.imp (WR.bind w3) λfl u=>?_);cases fl with
  |nx h=>show λt j I p r=>#[z,t,h,l.trans p,r,u]
  |ct h=>show λt j I p r=>#[z,t,h,l.trans p,r,u]
  |bk h=>show λt j I p r=>u t j I (S.trans (l.trans p)) r
  |rt rv=>show u
 .let e:i=ds.length:=by ext
  subst e;rw[XJ (Uy _)]at w2;show .inl #[o,w2 O2 n M (S.trans e2) R2]
def vq(c:FT)(b:FS):Nat->FS
 |0,_=>.bad
 |n+1,ρ=>(c ρ).bind λa=>if a.1=P then(b a.2).bind λd=>match d with
  |.nx e=>vq c b n e
  |.ct e=>vq c b n e
  |.bk e=>.ok (.nx e)
  |.rt f=>.ok (.rt f)else .ok (.nx a.2)
def Ie(c:FT)(b:FS):FS:=vq c b 1000000
def A9(I:TTO K E c fc)(J:SO K E tb b):SO K E (J8 c tb) (Ie fc b):=by
 intro B Z O Y H ρ D R w;show#[λm e U=>∃j d,Ev O H j U/\Rl K B Z j e U d/\WR K E B Z (acM K B Z O H D) (vq fc b m d),#[_,O,ρ,.refl,R,w],?_];rintro m h M ⟨j,d,A,R2,y⟩;cases m with
 |zero=>show y.elim
 |succ m=>
  show I B Z j h M d _ R2 (WR.imp (WR.bind y) λa r F G z C=>?_);let(k,t):=a;cases k with
  |true=>
   rw[av W]at r⊢;show#[λe U=>∃j d,Ev O H j U/\Rl K B Z j e U d/\WR K E B Z (acM K B Z O H D) (vq fc b m d),λe U q=>#[m,WB m,q],?_];show J B Z F h G t _ C (WR.imp (WR.bind r) λL p=>?_);let i:=A.trans z;cases L with
   |nx f=>show λo g u l n=>#[o,f,i.trans l,n,p]
   |ct f=>show λo g u l n=>#[o,f,i.trans l,n,p]
   |bk f=>show λo g u l n=>p o g u (i.trans l) n
   |rt N=>show p
  |false=>rw[ax Ux]at r⊢;show r F h G (A.trans z) C
def gk:D->cv (G D)
 |.tuple ds=>R ds
 |.list ds=>R ds
 |_=>L
def G7(K:lD)(d:TE):TI:=λY H R=>d Y H λx b=>∃a,x=.ref a/\(((∃xs,Yh K b a xs)/\R (Tg K a) b)\/((∃xs,X5 K b a xs)/\R (TK K a) b))
def c8(u:PE X l C):PI X tg l (G7 X.K C):=by
 intro g s Y H R I h;show dS (u g s Y H _ I h) λv f a=>?_;let(x,n,d,r1,r):=a;let(a,e,q):=r;subst e;ext r1;rcases q with⟨⟨xs,i⟩,q⟩|⟨⟨xs,i⟩,q⟩
 .let(m,w,p,t):=d.list i
  show YM p.isList ?_;show#[f.heap.objs.size,[f.heap.objs.size],_,_,n,W,d.kept λb o e=>c5 _ e,FM a _,#[_,da _ W,W,W],λb j=>?_,q];let e:b=f.heap.objs.size:=by simpa using j
  subst e;show d.abQ (Uy _) (d.Wf.fresh (Uy _))
 .let(m,w,p,t):=d.tuple i
  show WC (show f.heap.IsTuple a m.toArray from p) ?_;show#[f.heap.objs.size,[f.heap.objs.size],_,_,n,W,d.kept λb o e=>c5 _ e,BN a _,#[_,da _ W,W,W],λb j=>?_,q];let e:b=f.heap.objs.size:=by simpa using j
  subst e;show d.abQ (Uy _) (d.Wf.fresh (Uy _))
def CQ(h:aaR O K H a xs)(hd:Wb O K H xs ds):tz K (Tg K a) O H ds:=by intro T U e n;let f:=h.ev e;let b:=hd.ev e;show#[λi p=>?_,#[xs,f.1.sq,by rw[hd.length];show Uy _]];let(x,l,_):=b.get (UD p);show#[#[xs,x,f.1.sq,l],?_];rintro y m ⟨rfl,o⟩;let(d,j,g):=b.af2 (o xs f.1.sq);show#[Wr.refl _,d,j,g]
def Iq(h:Zp O K H a xs)(hd:Wb O K H xs ds):tz K (TK K a) O H ds:=by intro T U e n;let f:=h.ev e;let b:=hd.ev e;show#[λi p=>?_,#[xs,f.1,by rw[hd.length];show Uy _]];let(x,l,_):=b.get (UD p);show#[#[xs,x,f.1,l],?_];rintro y m ⟨rfl,o⟩;let(d,j,g):=b.af2 (o xs f.1);show#[Wr.refl _,d,j,g]
def gD(c:FE):FI:=λρ=>(c ρ).bind λa=>(Res.Vm (zn a.2 a.1)).bind λb=>(Res.Vm (gk b.1)).bind λds=>.ok (ds,b.2)
def d4(h:EO K E C I):IO K E (G7 K C) (gD I):=by
 intro B Z O Y H ρ r R w;show h B Z O Y H ρ _ R (w.bind.imp λa b t x l i p n=>?_);let((d,m),q,b):=b.Vm;let(j,g,R2,o):=vG p n q;let(ds,e,b):=b.Vm;dsimp only at e;cases o with
 |tup h f=>ext e;show#[_,W,.inr #[#[_,h.1],b j _ l (i.trans g) R2 (Iq h f)]]
 |lst h f=>ext e;show#[_,W,.inl #[#[_,h.1.sq],b j _ l (i.trans g) R2 (CQ h f)]]
 |_=>ext e
def i7(lo:Int)(n:Nat):G D:=(U1 n).map λ(k:Nat)=>.int (lo+(k:Int))
def IK:tz K (Sz lo n) O H (i7 lo n):=by
 intro T U e d;let a:(i7 lo n).length=n:=by ext i7;rw[Ur,Vh]
 show#[λi f=>?_,by show n<=_;rw[a];show Uy _];rw[a]at f;show#[f,?_];rintro x b ⟨rfl,rfl⟩;show#[Wr.refl _,.int (lo+i),by ext i7;rw[UK,Yb f];rfl,.int _]
def nU(i:Int):Prop:= -(2^62)<=i/\i<2^62
noncomputable instance(i:Int):Decidable (nU i):=by ext nU;infer_instance
def mP:G D->cv (G D)
 |[.int j]=>if nU j then R (i7 0 j.toNat)else L
 |_=>L
def lr(f:G D->cv (G D))(b:FA):FI:=λρ=>(b ρ).bind λa=>(Res.Vm (vZ a.2 a.1)).bind λds=>(Res.Vm (f ds)).bind λxs=>.ok (xs,a.2)
def gO(h:AO K E C I):IO K E (NJ C) (lr mP I):=by
 intro B Z O Y H ρ r R w;show h B Z O Y H ρ _ R (w.bind.imp λa d o t p n f i=>?_);let(ds,q,d):=d.Vm;let(xs,b,d):=d.Vm;let g:=uJ f i q;unfold mP at b;split at b
 .rename_i j
  split at b
  .rename_i e
   ext b;cases g with
   |cons m l=>ext l;ext m;show#[j,W,e.1,e.2,d o _ p n f IK]
  .ext b
 .ext b
end
section
variable{K:lD}{E:XK}{B O X:cN}{U H Z:Hp}{Y:St}{ρ ρ':bM}{v:V}
def AH:cv PV->cv PV
 |some (.fz d)=>R (.fz d)
 |_=>L
def di(ρ:bM):bM:=ρ.map AH
def Ck{i:Nat}(h:(di ρ)[i]?=R (R x)):∃d,x=.fz d/\ρ[i]?=R (R (.fz d)):=by
 unfold di at h;rw[UK]at h;cases q:ρ[i]? with
 |none=>rw[q]at h;ext h
 |some o=>
  rw[q]at h;let a:=UU h;unfold AH at a;split at a
  .ext a;show#[_,W,W]
  .ext a
def wH(ρ:bM):G Nat->cv (G D×bM)
 |[]=>R ([],ρ)
 |j::r=>match zn ρ (.pl j)with
  |some (d,b)=>(match wH b r with
   |some (c,a)=>R (d::c,a)
   |none=>L)
  |none=>L
def Fp(R:Rl K B U O Y H ρ)(h:zn ρ (.pl i)=cL (d,ρ')):∃v,Y[i]?=cL (cL v):=by
 let a:Ty ρ i ρ[i]?=cL (d,ρ'):=h;cases q:ρ[i]? with
 |none=>rw[q]at a;ext a
 |some o=>
  cases o with
  |none=>rw[q]at a;ext a
  |some x=>let(v,b,_):=R.slot i x q;show#[v,b]
theorem zX:∀{f:G Nat} {ds:G D} {O:cN} {ρ ρ':bM},Rl K B U O Y H ρ->wH ρ f=cL (ds,ρ')->∃X k,Ev O H X H/\Rl K B U X Y H ρ'/\Wb X K H k ds/\f.map (λj=>(Y[j]?).join)=k.map cL
 |[],_,O,_,_,w,e=>by ext e;show#[O,[],.refl,w,.nil,W]
 |j::r,_,O,ρ,ρ',w,e=>by
  unfold wH at e;cases q:zn ρ (.pl j)with
  |none=>rw[q]at e;ext e
  |some p=>
   let(d,a):=p;rw[q]at e;dsimp only at e;cases y:wH a r with
   |none=>rw[y]at e;ext e
   |some i=>let(c,h):=i;rw[y]at e;ext e;let(v,b):=Fp w q;let(u,m,o,d1):=vG (pv:=.pl j) w b q;let(t,k,g,R2,n,l):=zX o y;show#[t,v::k,m.trans g,R2,.cons (d1.ev g) n,by rw[UM,UM,l,b];rfl]
def dL(gt:FG)(c:FT)(f:FE):G D->bM->G D->Res (G D)
 |[],_,acc=>.ok acc
 |d::r,ρ,acc=>(gt (.fz d) ρ).bind λe=>(c e).bind λb=>if b.1=P then(f b.2).bind λa=>(Res.Vm (zn a.2 a.1)).bind λx=>
   if acc.length<1000000 then dL gt c f r (di x.2) (acc++[x.1])else .bad
  else dL gt c f r (di b.2) acc
def iY:Res α->Res α
 |.er _=>.bad
 |r=>r
def cX(n:Nat)(b:G Nat)(f:FI)(gt:FG)(e:FT)(g:FE):FE:=λρ=>(f ρ).bind λa=>(Res.Vm (wH a.2 b)).bind λc=>
 (iY (dL gt e g a.1 (Us n L++c.1.map λd=>R (.fz d)) [])).bind λxs=>.ok (.ow xs,c.2)
def CO{own:G Str}(h:own.length=n):own.map (λ_=>(L:cv V))=Us n L:=by
 subst h
 induction own with
 |nil=>rfl
 |cons x r a=>rw[UM,a,UL,Vx]
def DL(h:WR K E B U b (iY r)):∃a,r=.ok a/\b a:=by
 cases r with
 |ok a=>show#[a,W,h]
 |er x=>show h.elim
 |bad=>show h.elim
def Rn(K:lD)(J:It)(O:cN)(H:Hp)(ds:G D):Prop:=∀X Z,Ev O H X Z->Wr H Z->ot X Z->
 (∀i,i<ds.length->J.go i Z/\∀x a,J.yld i Z x a->Wr Z a/\∃d,ds[i]?=R d/\DV X K a x d)/\J.stop ds.length Z
def T6(K:lD)(E:XK)(b:TI)(c:FI):Prop:=
 ∀(B:cN) (U:Hp) (O:cN) (Y:St) (H:Hp) (ρ:bM) (a:It->Hp->Prop),Rl K B U O Y H ρ->WR K E B U (λr=>∀X J Z,Ev O H X Z->Rl K B U X Y Z r.2->Rn K J X Z r.1->a J Z) (c ρ)->b Y H a
theorem IO.s(h:IO K E wi fi):T6 K E wi fi:=λB U O Y H ρ d R w=>h B U O Y H ρ d R (w.imp λr q X J Z e R a=>q X J Z e R λf g b _ n=>a f g b n)
def HZ(c:own.length=n)(hf:fv.map (·.2)=fj)
  (hi:T6 K E wi fi) (hg:GO K E0 g gt) (ht:TTO K E0 tc ft) (he:EO K E0 te fe):EO K E (wR own fv wi g tc te) (cX n fj fi gt ft fe):=by
 intro B U O Y H ρ Q R w;show hi B U O Y H ρ _ R (w.bind.imp λa w1 O1 J H1 e1 R1 it=>?_);let(ds,ρ1):=a;let((cs,ρ2),qc,w1):=w1.Vm;dsimp only at qc it;let(I,vs,e2,R2,dvs,hvs):=zX R1 qc;let(xs,qx,w1):=DL (WR.bind w1);intro l F;let hB:∀{Z:Hp},Wr H1 Z->Z l≠CL->∀a,cM I l a->Z a≠CL:=λ{Z} s nd a h z=>h.elim (λq=>R2.od a (s.free z) q) λe=>nd (by rw[<-e];show z);show#[λi m L Z=>m=ds.length - i/\i<=ds.length/\∃(A:cn D) (G:cn V) (t:bM),Wr H1 Z/\Z l=cL (.lst G)/\Wb (cM I l) K Z G A/\L.length=t.length/\(∀(j:Nat) (x:PV),t[j]?=cL (cL x)->∃d u,x=PV.fz d/\L[j]?=cL (cL u)/\DV (cM I l) K Z u d)/\dL gt ft fe (ds.drop i) t A=.ok xs,
  #[_,W,V0 _,[],[],_,bZ F _,bp,.nil,?_,λj x M=>?_,qx],?_]
 .ext jN;rw[UB,UB,Ur,Ur,UR,Ur,c,<-dvs.length];let:=ec XZ hvs;rw[Ur,Ur,<-hf,Ur]at this;ext
 .let hm:fv.map (λp=>(Y[p.2]?).join)=vs.map cL:=by rw[<-hvs,<-hf,Vq];rfl
  ext jN;rw[CO c,hm];by_cases hj:j<n
  .rw[U6 (by rw[UR];show hj),Wm,av hj]at M;ext M
  .rw[US (by rw[UR];ext),UR,UK]at M⊢
   cases qd:cs[j - n]? with
   |none=>rw[qd]at M;ext M
   |some d=>rw[qd]at M;ext M;let(u,hu,du):=dvs.get qd;show#[d,u,W,by rw[hu];rfl,du.ev (Ev.add (bZ F _) F)]
 .rintro i m L Z ⟨rfl,hi,A,G,t,s,hD,dys,hl,hsl,f⟩
  let nD:Z l≠CL:=by rw[hD];simp
  let no':=λa z h=>hB s nD a h z;let ev1:=e2.trans (Ev.add s F);let(go,stop):=it (cM I l) Z ev1 s no';by_cases X8:i<ds.length
  .let(g1,g2):=go i X8
   show .inr #[g1,λC N=>i+1<=ds.length/\∃(A:cn D) (G:cn V) (t:bM),Wr H1 N/\N l=cL (.lst G)/\Wb (cM I l) K N G A/\C.length=t.length/\(∀(j:Nat) (x:PV),t[j]?=cL (cL x)->∃d u,x=PV.fz d/\C[j]?=cL (cL u)/\DV (cM I l) K N u d)/\dL gt ft fe (ds.drop (i+1)) t A=.ok xs,
    λC N #[h1,h2]=>#[ds.length - (i+1),by ext,W,h1,h2],λx H3 y=>?_]
   let(s3,d,hd,dv):=g2 x H3 y;let ed:ds.drop i=d::ds.drop (i+1):=by let(_,q):=Uo.mp hd;rw[WL X8,q]
   rw[ed]at f;let hD3:=s3 _ _ hD;let nD3:H3 l≠CL:=by rw[hD3];simp
   let sv:=s.trans s3;let RC:Rl K (cM I l) H3 (cM I l) L H3 t:=#[Wr.refl _,λ_ h=>h,hB sv nD3,λa z h=>hB sv nD3 a h z,hl,λj x M=>by let(d,u,rfl,h1,h2):=hsl j x M;show#[u,h1,h2.ev (Ev.grow s3)],λj k xs G w hj=>by let(d,u,e,_):=hsl j _ hj;ext e];unfold dL at f;let back:∀{O5:cN} {C:St} {N:Hp} {Pz0:bM} {H6:Hp},Rl K (cM I l) H3 O5 C N Pz0->(∀b o,b≠l->N b=cL o->H6 b=cL o)->C.length=(di Pz0).length/\∀(j:Nat) (x:PV),(di Pz0)[j]?=cL (cL x)->∃d u,x=PV.fz d/\C[j]?=cL (cL u)/\DV (cM I l) K H6 u d:=λ{O5 C N Pz0 H6} T k=>by show#[by ext di;rw[Ur];show T.len,λj x M=>?_];let(d,rfl,hxx):=Ck M;let(u,h1,h2):=T.slot j _ hxx;show#[d,u,W,h1,DV.ev (λb o h n=>#[k b o (λe=>n (.inr e)) h,n]) (DV.ev (Ev.sub T.bo) h2)]
   show hg _ _ _ L H3 t x (.fz d) _ RC dv ?_;cases qg:gt (.fz d) t with
   |er z=>rw[qg]at f;ext f
   |bad=>rw[qg]at f;ext f
   |ok ρ3=>
    rw[qg,ej]at f;intro O4 σ4 H4 e4 R4;show ht _ _ _ σ4 H4 ρ3 _ R4 ?_;cases qt:ft ρ3 with
    |er z=>rw[qt]at f;ext f
    |bad=>rw[qt]at f;ext f
    |ok b=>
     let(b,ρ4):=b;rw[qt,ej]at f;intro O5 N e5 T;cases b with
     |false=>rw[ax Ux]at f⊢;let(l5,k5):=back T λb o _ h=>h;show#[X8,A,G,di ρ4,sv.trans T.same,T.same _ _ hD3,?_,l5,k5,f];show dys.ev (Ev.grow (s3.trans T.same))
     |true=>
      rw[av W]at f⊢;show he _ _ _ σ4 N ρ4 _ T ?_;cases qe:fe ρ4 with
      |er z=>rw[qe]at f;ext f
      |bad=>rw[qe]at f;ext f
      |ok r=>
       rw[qe,ej]at f;intro O6 yv H6 e6 R6 p6;cases q7:zn r.2 r.1 with
       |none=>rw[q7]at f;ext f
       |some xr=>
        let(xd,ρ7):=xr;rw[q7]at f;let(O7,e7,R7,dv7):=vG R6 p6 q7;let hD7:=R7.same _ _ hD3;let S:(if A.length<1000000 then dL gt ft fe (ds.drop (i+1)) (di ρ7) (A++[xd])else .bad)=.ok xs:=f;by_cases hl6:A.length<1000000
        .rw[av hl6]at S
         let up:∀b o,b≠l->H6 b=cL o->cy H6 l (.lst (G++[yv])) b=cL o:=λb o hb h=>by rw[bG hb];show h
         let pO:Ev (cM I l) H6 (cM I l) (cy H6 l (.lst (G++[yv]))):=λb o h n=>#[up b o (λe=>n (.inr e)) h,n];let aji:=dys.ev (Ev.grow (s3.trans R7.same));let(l5,k5):=back R7 up;show#[G,hD7,xz (by rw[dys.length];show hl6),X8,A++[xd],G++[yv],di ρ7,λb o h=>?_,bp,?_,l5,k5,S]
         .rw[bG (cU h F)];show R7.same _ _ (sv _ _ h)
         .show(aji.append (.cons (DV.ev (Ev.sub R7.bo) dv7) .nil)).ev pO
        .rw[ax hl6]at S;ext S
  .let e:i=ds.length:=by ext
   subst e;rw[XJ (Uy _)]at f;let f:=f;ext f;show .inl #[stop,?_];show w1 (cM I l) (.ref l) Z (e1.trans ev1) (R2.add s F nD) #[l,G,W,.inr W,R2.afN F,hD,dys,λk es hk z=>?_];let(u,h1,b,us,e2,g1,g2,g3,g4):=R2.slot k _ hk;rw[z]at h1;ext h1;ext e2;rw[F]at g3;ext g3
theorem bT(c:own.length=n)(d:fv.map (·.2)=fj)
  (f:IO K E o fi) (b:GO K E0 g gt) (a:TTO K E0 I ft) (e:EO K E0 C fe):EO K E (wR own fv o g I C) (cX n fj fi gt ft fe):=HZ c d f.s b a e
def bO(F:FN)(n:Nat)(c:FA):FE:=λρ=>(c ρ).bind λa=>(Res.Vm (pA a.2 a.1)).bind λb=>if b.1.length=n then(iY (F b.1)).bind λd=>.ok (d.pv,b.2)else .bad
def bL(c:AO K E I fa):EO K E (wX (g7 K n F) [] E0 I) (bO F n fa):=by
 intro B U O Y H ρ Q R w;show c B U O Y H ρ _ R (w.bind.imp λa f A N C o r i=>?_);let((ds,e),q,b):=f.Vm;let(u,m,R2,d):=oO r i q;dsimp only at b;by_cases hn:ds.length=n
 .rw[av hn]at b;let(S,g,b):=DL (WR.bind b);rw[UZ];show#[d.length.trans hn,u,ds,λa z j=>R2.od a j z,d,?_];rw[g];show lZ R2 λt v y l p h=>b t v y (o.trans (m.trans l)) p h
 .rw[ax hn]at b;show b.elim
end
def dh(N:Nat)(g:FS):FN:=λds=>(g (ds.map (λd=>R (.fz d))++Us (N - ds.length) L)).bind λa=>match a with
 |.rt b=>.ok b
 |.nx _=>.ok (.fz .none)
 |_=>.bad
def Iy(g:∀a,B a->H a≠L)(l:Wb B K H C ds):Rl K B H B (L2.start N C) H (ds.map (λd=>R (.fz d))++Us (N.length - ds.length) L):=by
 let n:=l.length;show#[Wr.refl _,λ_ h=>h,g,λa z h=>g a h z,?_,λi x m=>?_,λi j xs r w t=>?_]
 .ext L2.start;rw[UB,UB,Ur,Ur,UR,UR,n]
 all_goals
  let b:∀{i:Nat} {x:PV},(ds.map (λd=>R (PV.fz d))++Us (N.length - ds.length) L)[i]?=R (R x)->∃d,x=.fz d/\ds[i]?=R d:=λ{i x} h=>by
   by_cases t:i<ds.length
   .rw[U6 (by rw[Ur];show t),UK]at h
    cases q:ds[i]? with
    |none=>rw[q]at h;ext h
    |some d=>rw[q]at h;ext h;show#[d,W,W]
   .rw[US (by rw[Ur];ext),Wm]at h;split at h<;>ext h
 .let(d,rfl,o):=b m;let(v,f,p):=l.get o;show#[v,?_,p];let t:=(Uo.mp f).1;ext L2.start;rw[U6 (by rw[Ur];show t),UK,f];rfl
 .let(d,e,_):=b t;ext e
def Ub(F:WA K x qual st f fd)(S:YB N C (bH st))(c:C.length=n)
  (p:∀(a:M) (A:Vc) (outer:G Env) (s:Uv) (H:Hp) (E:XK),W0 k (A.deeper (Vt qual (bH st) s.heap.objs.size f a))->
   ∃t,PSs (uR cz y w K U base N qual (bH st) f a A outer s H E).nox (gR st) t/\SO K E t g):FnOk y w K U base cz (k+1) f fd C (g7 K n (dh N.length g)):=by
 show F.ok S (λI H Q E h=>h.1.trans c.symm) (λa A outer s H I Q E j h=>?_);let(t,d,i):=p a A outer s H E j;let(u,B,ds,l,o,h):=h;show#[t,d,i B H B _ H _ _ (Iy l o) (WR.imp (WR.bind h) λm q=>?_)];cases m with
 |rt T=>show q
 |nx z=>show λv b r e R=>q .Xp r R.same .Xp
 |bk z=>show q.elim
 |ct z=>show q.elim
end L3
namespace L3
open PySem PySem.Spec PyProof.Rows L2
def OpR.or(h:OpR X f r)(c:OpR X f r'):OpR X f (λx y H Q=>r x y H Q\/r' x y H Q):=by
 intro a s b H x y v u Q I e d q;rcases q with q|q
 .show h a s b H x y v u Q I e d q
 .show c a s b H x y v u Q I e d q
def Qb(I:Inv X pins σ H s)(h:Yw X.K H l xs):xs.length<=UG/\∃(a:G M) (n:Nat),Vals xs a/\xs.length=a.length/\s.heap.get? l=R {cls:=.type "list",data:=.seq a.toArray n}:=by
 rcases h with(h|⟨o,h⟩)|⟨a,n,h1,d,b⟩
 .show I.afv h
 .let(_,z,a,n,r,e):=I.Wf l _ h;show#[z,a,n,r,r.length,e]
 .show#[d,a,n,b,b.length,I.kIn _ _ h1]
def Nr(K:lD):R2:=λx y H Q=>∃l b xs zs,x=.ref l/\y=.ref b/\Yw K H l xs/\Yw K H b zs/\xs.length+zs.length<=UG/\∀p,H p=L->Q (.ref p) (cy H p (.lst (xs++zs)))
def K6:OpR X (Wj .Add) (Nr X.K):=by
 intro d s A H x y v u Q I i g h;let(l,b,xs,B,rfl,rfl,o,p,F,q):=h;ext i;ext g;let(z,f,n,r,G,e):=Qb I o;let(C,a,E,j,m,w):=Qb I p;show PySem.P.add_list e w ?_ (by rw[UE,UE];ext);let t:f.toArray++a.toArray=(f++a).toArray:=by simp
 rw[t];show#[.ref _,_,I.aga (r.append j) (by rw[UB];ext),W,q _ I.fresh]
def MQ(K:lD):R2:=λx y H Q=>∃l k xs,x=.ref l/\y=.int k/\Yw K H l xs/\ -(2^63)<=k/\k<2^63/\xs.length*k.toNat<=UG/\
 ∀p,H p=L->Q (.ref p) (cy H p (.lst (Us k.toNat xs).flatten))
def Lb:OpR X (Wj .Mult) (MQ X.K):=by
 intro o s O H x y v u Q I E C h;let(l,k,xs,rfl,rfl,J,M,L,p,q):=h;ext E;let(t,rfl):=C;let(z,b,n,r,G,e):=Qb I J;let d:b.toArray.size*k.toNat<=UG:=by rw[UE,<-G];show p
 let g:¬b.toArray.size*k.toNat>(2^63 - 1)/8:=by
  let:(UG:Nat)<=(2^63 - 1)/8:=by decide
  ext
 let f:¬(!U3.List.listFitsIndex k)=Uq:=by rw[fitsIndex_both M L];show Ux
 let i:¬U3.List.listTooLong (b.toArray.size*k.toNat)=Uq:=by rw[z5 d];show Ux
 let j:Zu (λA w=>A++w) #v[] (Us (if b.toArray.isEmpty=Uq then 0 else k.toNat) b.toArray)=(Us k.toNat b).flatten.toArray:=by
  let N:=λm=>by let:=rh b m [];rw[ZF]at this;show this
  rw[N];cases b with
  |nil=>simp
  |cons a P=>rw[ax (by simp)]
 show adw () #[_,e,W] (λB=>abr B k t) noFill_list_mul F.fills_int_mul F.slot_int_rmul repeat_list F.slot_int_index.lookup
  (Xb F.slot_int_rmul (abr s k t) F.entry_int_rmul (F.args_int_rmul_2 _ _) (int___rmul___int_list k t l b.toArray n)
   #[e,W,#[_,e,W],Xb F.slot_list_mul #[_,e,W] F.entry_list_mul (F.args_list_mul_2 _ _) (AutoListH.list___mul___list_int_3 l b.toArray n k t f g i) #[e,?_]])
 rw[j];show#[.ref _,_,I.aga (r.rep k.toNat) (by rw[CK,Nat.mul_comm];show p),W,q _ I.fresh]
section
variable{K:lD}
def fI(g:Int->Int->Int):D->D->cv RV
 |.int i,.int j=>R (.fz (.int (g i j)))
 |_,_=>L
def fB(g:Int->Int->Bool):D->D->cv RV
 |.int i,.int j=>R (.fz (.bool (g i j)))
 |_,_=>L
def Ol(C:Int->Int->Bool)(g:Int->Int->Int):D->D->cv RV
 |.int i,.int j=>if C i j=P then R (.fz (.int (g i j)))else L
 |_,_=>L
def Ga(h:fI g I C=R o):∃i j,I=.int i/\C=.int j/\o=.fz (.int (g i j)):=by
 unfold fI at h;split at h
 .ext h;show#[_,_,W,W,W]
 .ext h
def Ht:nV K (zv λi j=>.int (g i j)) (fI g):=by intro O H x y h d f Q n b a e q;let(i,j,rfl,rfl,rfl):=Ga e;ext b;ext a;show#[i,j,W,W,q.at (.int _)]
def Jl:nV K (zv λi j=>.bl (g i j)) (fB g):=by
 intro O H x y h d f Q n b a e q;unfold fB at e;split at e
 .ext e;ext b;ext a;show#[_,_,W,W,q.at (.bl _)]
 .ext e
def uI(f:∀i j,C i j=P->o i j):nV K (rI o λi j=>.int (g i j)) (Ol C g):=by
 intro O H x y m h l Q n b a e q;unfold Ol at e;split at e
 .split at e
  .rename_i d;ext e;ext b;ext a;show#[_,_,W,W,f _ _ d,q.at (.int _)]
  .ext e
 .ext e
theorem Bh(h:DX O K H x (.list ds)):∃a xs,x=.ref a/\Yw K H a xs/\Wb O K H xs ds:=h
theorem FV(h:DX O K H x (.tuple ds)):∃a xs,x=.ref a/\Zp O K H a xs/\Wb O K H xs ds:=HV h W
def No(K:lD):R2:=λx y H Q=>zv (λi j=>.int (i+j)) x y H Q\/Nr K x y H Q\/MO K x y H Q
theorem jo:OpR X (Wj .Add) (No X.K):=OpR.or Pf (OpR.or K6 Lc)
def eE:D->D->cv RV
 |.int i,.int j=>R (.fz (.int (i+j)))
 |.list xs,.list ys=>if xs.length+ys.length<=1000000 then R (.ow (xs++ys))else L
 |.tuple xs,.tuple ys=>if xs≠[]/\xs.length+ys.length<=1000000 then R (.fz (.tuple (xs++ys)))else L
 |_,_=>L
theorem ng(h:n<=1000000):n<=UG:=Vn h ()
def Wb.ne(h:Wb O K H vs ds):vs=[]↔ds=[]:=by ext h<;>simp
def jp:nV K (No K) eE:=by
 intro O H x y t p r Q n l j e q;unfold eE at e;split at e
 .ext e;ext l;ext j;show .inl #[_,_,W,W,q.at (.int _)]
 .split at e
  .rename_i g;ext e;let(a,xs,rfl,h,d):=Bh l;let(b,i,rfl,m,f):=Bh j;show .inr (.inl #[a,b,xs,i,W,W,h,m,ng (by rw[d.length,f.length];show g),Fin.new (d.append f) q])
  .ext e
 .split at e
  .rename_i g;ext e;let(a,xs,rfl,h,d):=FV l;let(b,i,rfl,m,f):=FV j;show .inr (.inr #[a,b,xs,i,W,W,h.1,m.1,λz=>g.1 (d.ne.mp z),ng (by rw[d.length,f.length];show g.2),λz=>?_,λ_=>Fin.aey (d.append f) n q]);let o:=f.ne.mp z;subst o;rw[UZ]at q;show q.at (.tup h d)
  .ext e
 .ext e
def Gd(K:lD):R2:=λx y H Q=>rI afp (λi j=>.int (i*j)) x y H Q\/MQ K x y H Q
theorem KP:OpR X (Wj .Mult) (Gd X.K):=OpR.or Qd Lb
def jq(i:Int):Bool:=decide (-(2^64)<i/\i<2^64)
theorem vM(h:jq i=P): -(2^64)<i/\i<2^64:=a7 h
def Fj:D->D->cv RV
 |.int i,.int j=>if(jq i||jq j)=P then R (.fz (.int (i*j)))else L
 |.list xs,.int k=>if xs.length*k.toNat<=1000000/\ -(2^63)<=k/\k<2^63 then R (.ow (Us k.toNat xs).flatten)else L
 |_,_=>L
def Lw:nV K (Gd K) Fj:=by
 intro O H x y l i j Q n f d e q;unfold Fj at e;split at e
 .split at e
  .rename_i b
   ext e;ext f;ext d;show .inl #[_,_,W,W,?_,q.at (.int _)];rcases(ZG _ _).mp b with z|z
   .show .inl (vM z)
   .show .inr (vM z)
  .ext e
 .split at e
  .rename_i b;ext e;ext d;let(a,xs,rfl,h,g):=Bh f;show .inr #[a,_,xs,W,W,h,b.2.1,b.2.2,ng (by rw[g.length];show b.1),Fin.new (g.flat _) q]
  .ext e
 .ext e
def v1:=fI λi j=>i - j
theorem Di:nV K (zv λi j=>.int (i - j)) v1:=Ht
def Qf(_ j:Int):Bool:=decide (0<j)
def wk:=Ol Qf λi j=>i % j
theorem Kv:nV K (rI (λ_ j=>0<j) λi j=>.int (i % j)) wk:=uI λi j h=>a7 h
def NZ(_ j:Int):Bool:=decide (0<j/\j<2^128)
def yb:=Ol NZ λi j=>i/j
theorem Ei:nV K (rI (λ_ j=>0<j/\j.natAbs.log2<9000) λi j=>.int (i/j)) yb:=uI λi j h=>by
 let a:=a7 h;show#[a.1,?_];let b:j.natAbs<2^128:=by let:=a.2;ext
 let d:=(aia ()).mpr b;ext
def ES(i j:Int):Bool:=decide (0<=j/\j<=1000000/\i.natAbs<2^64)
def C1(i j:Int)(h:ES i j=P):HD i j:=by unfold ES at h;show(show 0<=j/\j<=1000000/\i.natAbs<2^64 from a7 h)
def IJ:=Ol ES λi j=>i^j.toNat
theorem C3:nV K (rI HD λi j=>.int (i^j.toNat)) IJ:=uI C1
def Pd:=Ol ES λi j=>i*2^j.toNat
theorem Eu:nV K (rI HD λi j=>.int (i*2^j.toNat)) Pd:=uI C1
def Ua(_ j:Int):Bool:=decide (0<=j)
def Aj:=Ol Ua λi j=>i/2^j.toNat
theorem tN:nV K (rI (λ_ j=>0<=j) λi j=>.int (i/2^j.toNat)) Aj:=uI λi j h=>a7 h
def qL:=fI λi j=>U3.bitAnd i j
def Pm:=fI λi j=>U3.bitOr i j
theorem tF:nV K (zv λi j=>.int (U3.bitAnd i j)) qL:=Ht
theorem Ov:nV K (zv λi j=>.int (U3.bitOr i j)) Pm:=Ht
def zp:=fB λi j=>decide (i<j)
def vU:=fB λi j=>decide (i<=j)
def T7:=fB λi j=>decide (j<i)
theorem mz:nV K (zv λi j=>.bl (decide (i<j))) zp:=Jl
theorem oZ:nV K (zv λi j=>.bl (decide (i<=j))) vU:=Jl
theorem Oo:nV K (zv λi j=>.bl (decide (j<i))) T7:=Jl
def oH(d:D):Bool:=d.canLay0&&decide (d.depth<=64)
def cB(d e:D):cv RV:=if(oH d&&e.canLay0)=P then R (.fz (.bool (Ut.eqv d e)))else L
def n6(d e:D):cv RV:=if(oH d&&e.canLay0)=P then R (.fz (.bool (!Ut.eqv d e)))else L
def cD:nV K (Mf K Uu) cB:=by
 intro O H x y g f h Q n d b e q;unfold cB at e;split at e
 .rename_i a;ext e;unfold oH at a;simp only[UO,decide_eq_true_eq]at a;show#[g,f,d.plain,b.plain,a.1.1,a.2,a.1.2,q.at (.bl _)]
 .ext e
def pd:nV K (Mf K P) n6:=by
 intro O H x y g f h Q n d b e q;unfold n6 at e;split at e
 .rename_i a;ext e;unfold oH at a;simp only[UO,decide_eq_true_eq]at a;show#[g,f,d.plain,b.plain,a.1.1,a.2,a.1.2,q.at (.bl _)]
 .ext e
def rp:D->D->cv RV
 |.none,.none=>R (.fz (.bool P))
 |_,.none=>R (.fz (.bool Uu))
 |_,_=>L
def oh:D->D->cv RV
 |.none,.none=>R (.fz (.bool Uu))
 |_,.none=>R (.fz (.bool P))
 |_,_=>L
def Ih(h:DX O K H x d)(hd:d≠.none):x≠.Xp:=by
 cases d with
 |none=>show bg W hd
 |list ds=>let(a,xs,rfl,_):=Bh h;simp
 |tuple ds=>let(a,xs,rfl,_):=FV h;simp
 |bool b=>ext h;simp
 |int b=>ext h;simp
 |str b=>ext h;simp
 |dict b=>ext h
def tK:nV K (λx y H Q=>y=.Xp/\Q (.bl (decide (x=.Xp))) H) rp:=by
 intro O H x y h f g Q n b a e q;unfold rp at e;split at e
 .ext e;ext b;ext a;show#[W,q.at (.bl _)]
 .rename_i d;ext e;ext a;show#[W,?_];rw[a6 (Ih b d)];show q.at (.bl _)
 .ext e
def tS:nV K (λx y H Q=>y=.Xp/\Q (.bl (!decide (x=.Xp))) H) oh:=by
 intro O H x y h f g Q n b a e q;unfold oh at e;split at e
 .ext e;ext b;ext a;show#[W,q.at (.bl _)]
 .rename_i d;ext e;ext a;show#[W,?_];rw[a6 (Ih b d)];show q.at (.bl _)
 .ext e
def KF(K:lD)(a:Bool):R2:=λx y H Q=>∃d ds,L2.DV K H x d/\(L2.DV K H y (.list ds)\/L2.DV K H y (.tuple ds))/\d.canLay0=P/\Ut.canLayAll0 ds=P/\d.depth<=64/\Q (.bl (if a then !(ds.any λe=>Ut.eqv e d)else ds.any λe=>Ut.eqv e d)) H
def gA(o:X.A.units+65<cLine):OpR X (VW .In) (KF X.K Uu):=by
 intro f s n H x y v u Q I j e h;let(d,ds,m,a,i,g,l,q):=h;let(p,r1):=m.reads I j;let hm:min (Ut.depthAll ds) d.depth<=64:=Vn (abq _ _) l;rcases a with a|a
 .let(bs,b):=a.reads I e;show aiY b r1 g i () #[.bl _,H,I,W,q]
 .let(bs,b):=a.reads I e;show aiZ b r1 g i () #[.bl _,H,I,W,q]
def xI(o:X.A.units+65<cLine):OpR X (VW .NotIn) (KF X.K P):=by
 intro f s n H x y v u Q I j e h;let(d,ds,m,a,i,g,l,q):=h;let(p,r1):=m.reads I j;let hm:min (Ut.depthAll ds) d.depth<=64:=Vn (abq _ _) l;rcases a with a|a
 .let(bs,b):=a.reads I e;show ai0 b r1 g i () #[.bl _,H,I,W,q]
 .let(bs,b):=a.reads I e;show ai1 b r1 g i () #[.bl _,H,I,W,q]
def mn(d e:D):cv RV:=match gk e with
 |some ds=>if(oH d&&Ut.canLayAll0 ds)=P then R (.fz (.bool (ds.any λe=>Ut.eqv e d)))else L
 |none=>L
def rB(d e:D):cv RV:=match gk e with
 |some ds=>if(oH d&&Ut.canLayAll0 ds)=P then R (.fz (.bool (!ds.any λe=>Ut.eqv e d)))else L
 |none=>L
def G5(a:DX O K H y e)(h:gk e=R ds):L2.DV K H y (.list ds)\/L2.DV K H y (.tuple ds):=by
 unfold gk at h;split at h
 .ext h;show .inr a.plain
 .ext h;show .inl a.plain
 .ext h
def gC:nV K (KF K Uu) mn:=by
 intro O H x y h g i Q n d b e q;unfold mn at e;split at e
 .rename_i ds f
  split at e
  .rename_i a;ext e;unfold oH at a;simp only[UO,decide_eq_true_eq]at a;show#[h,ds,d.plain,G5 b f,a.1.1,a.2,a.1.2,q.at (.bl _)]
  .ext e
 .ext e
def x4:nV K (KF K P) rB:=by
 intro O H x y h g i Q n d b e q;unfold rB at e;split at e
 .rename_i ds f
  split at e
  .rename_i a;ext e;unfold oH at a;simp only[UO,decide_eq_true_eq]at a;show#[h,ds,d.plain,G5 b f,a.1.1,a.2,a.1.2,q.at (.bl _)]
  .ext e
 .ext e
def bu(d e:D):cv RV:=match gk d,e with
 |some ds,.int i=>(mo ds i).map .fz
 |_,_=>L
def J4(h:Wb O K H xs ds)(e:mo ds i=R d):∃v,mo xs i=R v/\DV O K H v d:=by
 unfold mo at e⊢;rw[h.length];cases q:FW ds.length i with
 |none=>rw[q]at e;ext e
 |some j=>rw[q]at e;show h.get e
def bI:nV K (Sw K) bu:=by
 intro O H x y t o r Q n l m e q;unfold bu at e;split at e
 .rename_i ds i b
  ext m;cases p:mo ds i with
  |none=>rw[p]at e;ext e
  |some d=>
   rw[p]at e;ext e;unfold gk at b;split at b
   .ext b;let(a,xs,rfl,h,g):=FV l;let(v,f,j):=J4 g p;show .inr (.inl #[a,xs,i,v,W,W,h.1,f,q.at j])
   .ext b;let(a,xs,rfl,h,g):=Bh l;let(v,f,j):=J4 g p;show .inl #[a,xs,i,v,W,W,h.sq,f,q.at j]
   .ext b
 .ext e
def E2(xs:G D)(lo a:cv Int):G D:=(xs.drop (HT.sIx xs.length 0 lo)).take (HT.sIx xs.length xs.length a - HT.sIx xs.length 0 lo)
def G6{lo a:cv Int}(h:Wb O K H xs ds):Wb O K H (Fq xs lo a) (E2 ds lo a):=by unfold Fq E2;rw[h.length];show(h.drop _).take _
def z0(n:Nat)(lo a:cv Int):Bool:=decide (HT.sIx n 0 lo=0/\HT.sIx n n a=n)
def Rr(K:lD):V->cv Int->cv Int->Hp->VK->Prop:=λx lo a H Q=>Q5 K x lo a H Q\/Q8 K x lo a H Q
def nw:Q2 X (Rr X.K):=by
 intro a s b H x v e d lo l f Q I g j pl i h;rcases h with h|h
 .show Lm a s b H x v e d lo l f Q I g j pl i h
 .show NM a s b H x v e d lo l f Q I g j pl i h
def Hg:D->cv Int->cv Int->cv RV
 |.list ds,lo,a=>R (.ow (E2 ds lo a))
 |.tuple ds,lo,a=>if z0 ds.length lo a=P then L else R (.fz (.tuple (E2 ds lo a)))
 |_,_,_=>L
def j7:Tn K (Rr K) Hg:=by
 intro O H x lo i j h Q n f e q;unfold Hg at e;split at e
 .ext e;let(a,xs,rfl,d,b):=Bh f;show .inl #[a,xs,W,d.sq,Fin.new (G6 b) q]
 .split at e
  .ext e
  .rename_i g;ext e;let(a,xs,rfl,d,b):=FV f;show .inr #[a,xs,W,d.1,λz=>g ?_,Fin.aey (G6 b) n q];ext z0;rw[<-b.length];show aP z
 .ext e
def HL:D->cv RV
 |.int i=>R (.fz (.int (-i)))
 |_=>L
def C4:T3 K (rU λi=>.int (-i)) HL:=by
 intro O H x d b Q n a e q;unfold HL at e;split at e
 .ext e;ext a;show#[_,W,q.at (.int _)]
 .ext e
def gz:G D->cv RV
 |[d]=>(match gk d with
  |some ds=>R (.fz (.int ds.length))
  |none=>L)
 |_=>L
def pM:Bk K (λxs H Q=>∃x n,xs=[x]/\On K x H n/\Q (.int n) H) gz:=by
 intro O H xs ds i Q n g e q;unfold gz at e;split at e
 .split at e
  .rename_i h d
   ext e;cases g with
   |cons b f=>
    ext f;unfold gk at d;split at d
    .ext d;let(a,xs,rfl,b,f):=FV b;show#[_,xs.length,W,.inr #[xs,b.1,W],by rw[f.length];show q.at (.int _)]
    .ext d;let(a,xs,rfl,b,f):=Bh b;show#[_,xs.length,W,.inl #[xs,b.sq,W],by rw[f.length];show q.at (.int _)]
    .ext d
  .ext e
 .ext e
def pU:G D->cv RV
 |[.tuple ds]=>R (.fz (.tuple ds))
 |[.list ds]=>R (.fz (.tuple ds))
 |_=>L
def i9:Bk K (λxs H Q=>∃p ys,xs=[.ref p]/\((Yh K H p ys/\∀l,H l=L->Q (.ref l) (cy H l (.tup ys)))\/(X5 K H p ys/\Q (.ref p) H))) pU:=by
 intro O H xs ds g Q n f e q;unfold pU at e;split at e
 .ext e
  cases f with
  |cons b d=>ext d;let(a,xs,rfl,b,d):=FV b;show#[a,xs,W,.inr #[b.1,q.at (.tup b d)]]
 .ext e
  cases f with
  |cons b d=>ext d;let(a,xs,rfl,b,d):=Bh b;show#[a,xs,W,.inl #[b.sq,Fin.aey d n q]]
 .ext e
def tt:G D->cv RV
 |[d]=>(gk d).map .ow
 |_=>L
def LY:Bk K (λxs H Q=>∃p ys,xs=[.ref p]/\(Yh K H p ys\/X5 K H p ys)/\∀l,H l=L->Q (.ref l) (cy H l (.lst ys))) tt:=by
 intro O H xs ds j Q n g e q;unfold tt at e;split at e
 .rename_i d
  cases g with
  |cons b f=>
   ext f;cases i:gk d with
   |none=>rw[i]at e;ext e
   |some h=>
    rw[i]at e;ext e;unfold gk at i;split at i
    .ext i;let(a,xs,rfl,b,f):=FV b;show#[a,xs,W,.inr b.1,Fin.new f q]
    .ext i;let(a,xs,rfl,b,f):=Bh b;show#[a,xs,W,.inl b.sq,Fin.new f q]
    .ext i
 .ext e
end
end L3
namespace PySem
open Sem (wp)
open AutoSeq1 (wpAny_loadPart')
open Builtin Builtin.Str
section
variable{X:UY}{w:Vi}{A:Vc}{E:Um->Uv->Prop}{s:Uv}
def kj(a:s.heap.IsTupleIter it t i)(h:s.heap.IsTuple t items)(g:items[i]?=R x)
  (l:∀c,c.IsTupleIter it t (i+1)->Heap.SameBut it s.heap c->Q x {s with heap:=c}):wpAny (model X w) A (U3.SmallTypes.nextOf (.ref it)) Q E s:=by
 let(o,d,j,b):=id a;let(m,e,_,n,f):=h;ext U3.SmallTypes.nextOf;show Ld (W3 a.typeIs F.slot_tuple_iterator_next
  (W4 F.slot_tuple_iterator_next a.typeIs F.entry_tuple_iterator_next ?_ (F.args_tuple_iterator_next_1 _)))
 show wpAny _ _ (field (.ref it) 0>>=_) _ _ s;show Ld (V4 d b W ?_);show wpAny _ _ (if(Um.ref t==Um.none)=P then _ else _) _ _ s;rw[ax (show¬((Um.ref t==Um.none)=P)from Ux)];show Ld (V4 d b W ?_);show Ld (We e f ?_);simp only[Vz,g];show Ld (ai2 d b (by simp) (Uz #[x,W,Uz (l _ ?_ (Heap.SameBut.update ..))]));show#[_,dt _ d (Obj.isFreed_of_fields (Obj.data_mapFields b _)),(Obj.cls_mapFields ..).trans j,by rw[Obj.data_mapFields b];simp[rawInt]]
def iB(h:A.handled=L)(a:s.heap.IsTupleIter it t i)(l:s.heap.IsTuple t items)(j:items[i]?=L)
  (m:∀c e,Heap.ExtBut it s.heap c->(∃o,c.get? e=R o/\o.cls=.type "StopIteration")->E (.ref e) {s with heap:=c}):wpAny (model X w) A (U3.SmallTypes.nextOf (.ref it)) Q E s:=by
 let(o,d,q,g):=id a;let(n,b,_,p,f):=l;ext U3.SmallTypes.nextOf;show Ld (W3 a.typeIs F.slot_tuple_iterator_next
  (W4 F.slot_tuple_iterator_next a.typeIs F.entry_tuple_iterator_next ?_ (F.args_tuple_iterator_next_1 _)))
 show wpAny _ _ (field (.ref it) 0>>=_) _ _ s;show Ld (V4 d g W ?_);show wpAny _ _ (if(Um.ref t==Um.none)=P then _ else _) _ _ s;rw[ax (show¬((Um.ref t==Um.none)=P)from Ux)];show Ld (V4 d g W ?_);show Ld (We b f ?_);simp only[Vz,j];show Ld (abu (Ld (ai2 d g (by simp) ?_)));show Ld ?_;simp only[newExc,newTuple];show Ld (Wd ?_ (by size_fits));show Ld (aaO (by first|rfl|(simp only[firstArgMember];rfl)) ?_);show Wd ?_ (by size_fits);simp only[raiseNew];show Ld (wpAny_handled ?_)
 first|rw[show A.in1.handled=L from h]|rw[h]
 show Ld (Uz (wpAny_throw ?_));show m _ _ (((Heap.SameBut.update ..).extBut.push _).push _) #[_,da _ W,W]
end
theorem Ic(m:A.handled=L)(d l:J)(r:l≠d)(a:Array M):
  Draws prog w A d [d,l] a.size (λi v=>a[i]?=R v) (λi h=>h.IsTupleIter d l i/\h.IsTuple l a) where
 live:=λ_ _ b=>let#[o,y,_]:=b.1;#[o,y]
 frame:=λ_ _ _ b j=>#[b.1.at λo e=>j d (by simp) o e,let#[o,h1,t]:=b.2;#[o,j l (by simp) o h1,t]]
 item:=λi s Q E u b n=>by show kj b.1 b.2 (x:=a[i]) (by simp[u]) λq g f=>?_;show n _ q s.toks (by simp[u]) #[g,let#[o,h1,t]:=b.2;#[o,(f.2 l r).trans h1,t]] f
 done:=λs Q E b p=>iB m b.1 b.2 (by simp) p
set_option maxHeartbeats 4000000 in
theorem mw(l:Uw)(a:Array Um)(n:Nat)(dct:cv Uw)(j:Array (cv Um)):
  Meets (U3.«enumerate.__new__» ⟨[.type "enumerate",.ref l],[]⟩) (λ_ R s=>s.heap.get? l=cL {cls:=.type "tuple",dict:=dct,data:=.seq a n,slots:=j}/\
   R (.ok (.ret (.ref (s.heap.push {cls:=.type "tuple_iterator",data:=.fields #v[.ref l,.int 0 0]}).objs.size)))
    {s with heap:=(s.heap.push {cls:=.type "tuple_iterator",data:=.fields #v[.ref l,.int 0 0]}).push {cls:=.type "enumerate",data:=.fields #v[.none,.bool Uu,.ref s.heap.objs.size,rawInt 0,.none,.none]}}):=
 .of_wp λf w A R s h=>by
  obtain⟨o,g,d,i,m⟩:=s;obtain⟨b,h⟩:=h;have p:=akN;have e:Heap.IsTuple (Uv.heap ⟨o,g,d,i,m⟩) l a:=⟨_,b,rfl,n,rfl⟩
  wp_walk using YF b
  refine aib λq=>Uz ?_;split
  .rename_i c _ _ _ _ _
   cases(c==Um.type "enumerate")
   .wp_walk using YF b,WC e
    exact⟨_,rfl,h⟩
   .wp_walk using YF b,WC e
    exact⟨_,rfl,h⟩
  .wp_walk using YF b,WC e
   exact⟨_,rfl,h⟩
section
variable{X:UY}{w:Vi}{A:Vc}{E:Um->Uv->Prop}{s:Uv}
def mU(j:s.heap.IsTuple l items)
  (h:∀k,ac2 k (s.heap.objs.size+1) s.heap.objs.size 0 .none->k.IsTupleIter s.heap.objs.size l 0->k.objs.size=s.heap.objs.size+2->
   (∀b o,s.heap.get? b=R o->k.get? b=R o)->Q (.ref (s.heap.objs.size+1)) {s with heap:=k}):
  wpAny (model X w) A (call (.type "enumerate") [.ref l]) Q E s:=by
 let((c,dct,m,g),i,e,n,d):=j;replace e:c=.type "tuple":=e;replace d:m=.seq items n:=d;subst e d;show callType_new F.called_enumerate () (F.typeCall_enumerate_1 _) (F.newCall_enumerate_1 _) (λobj=>F.args_object_init_2 obj _) F.entry_enumerate_new
  (mw l items n dct g) #[i,?_]
 let a:(s.heap.push {cls:=.type "tuple_iterator",data:=.fields #v[.ref l,.int 0 0]}).objs.size=s.heap.objs.size+1:=dP ..;rw[a]
 let f:ac2 ((s.heap.push {cls:=.type "tuple_iterator",data:=.fields #v[.ref l,.int 0 0]}).push
   {cls:=.type "enumerate",data:=.fields #v[.none,.bool Uu,.ref s.heap.objs.size,rawInt 0,.none,.none]}) (s.heap.objs.size+1) s.heap.objs.size 0 .none:=by
  let:=da (s.heap.push {cls:=.type "tuple_iterator",data:=.fields #v[.ref l,.int 0 0]})
   (o:={cls:=.type "enumerate",data:=.fields #v[.none,.bool Uu,.ref s.heap.objs.size,rawInt 0,.none,.none]}) W
  rw[a]at this;show this
 show#[#[_,f,W],h _ f #[_,c5 _ (da _ W),W,W] (by rw[dP,a]) λb o x=>c5 _ (c5 _ x)]
end
end PySem
namespace L3
open PySem PySem.Spec PyProof.Rows L2
def Qp(K:lD)(a:J):It:=
 #[λi H=>∃xs x,X5 K H a xs/\xs[i]?=R x,
  λi H v b=>∃p x,H p=L/\v=.ref p/\(∀xs,X5 K H a xs->xs[i]?=R x)/\b=cy H p (.tup [.int i,x]),
  λi H=>∃xs,X5 K H a xs/\xs.length<=i]
def D6(I:Inv X pins σ H s)(i:X5 X.K H a xs)(h:X5 X.K H a ys):xs=ys:=by
 let(f,r1,(o,j,_,n,d1),_):=I.tuple i;let(b,g,(l,d,_,m,e),_):=I.tuple h;rw[j]at d;ext d;rw[d1]at e;let:f=b:=by
  let q:f.toArray=b.toArray:=by injection e
  simpa using q
 subst this;show r1.inj g
theorem B9{K:lD}{c}(a e g:Uw)(X4:e≠g)(D:a≠g)(V:a≠e):
  Turn Pz0 w K (.Tuple elts c tp) (Qp K a) [e,g] e (λi h=>(∃old,ac2 h e g i old)/\h.IsTupleIter g a i) where
 mem:=by simp
 obj:=λi h f b m=>by
  let((old,n),o,t,_,d):=f;rcases UJ.mp m with z|m
  .subst z;show#[_,n,λv z=>by cases(show abt.fields _=abt.cell v from z)]
  .let z:b=g:=by simpa using m
   subst z;show#[o,t,λv z=>by rw[d]at z;ext z]
 keep:=λi h h' f k=>by let((old,n),l):=f;show#[#[old,k e (by simp) _ n],l.at λo q=>k g (by simp) o q]
 item:=by
  intro X hP R hK Y i r s σ H E I L f T;subst hP R hK;let((old,n),l):=f;let(xs,x,G,O):=T;let(C,rv,p,hz):=I.tuple G;let(u,hu,ru):=rv.get O;let X8:i<C.toArray.size:=by
   let:=(Uo.mp hu).1
   simpa using this
  show ad6 (Ic (A:=X.A.in1) (I.ok.hd Y) g a D C.toArray) n #[l,p] X8 X4 (by simp[X4,V.symm]) λy h1 tk F t aeH hT hsz J=>#[_,W,?_];let N:y=u:=by
   let q:C.toArray[i]?=cL u:=by simpa using hu
   rw[q]at F;show(UU F).symm
  subst N;show Y4 t λMz0 U YO=>?_;let B:=c6 n;let S:g<s.heap.objs.size:=by let(_,z,_):=l;show c6 z
  let hn:=I.Wf.fresh (Uy _);let c:∀b o,b∉[e,g]->s.heap.get? b=cL o->Mz0.get? b=cL o:=λb o m q=>by let h3:b≠e:=λz=>m (by simp[z]);let h4:b≠g:=λz=>m (by simp[z]);show(YO.2 b h3).trans (J b o h3 h4 q)
  let hT2:=(YO.2 _ (VQ B)).trans hT
  let I2:Inv X r σ (cy H s.heap.objs.size (.tup [.int i,x])) {s with heap:=Mz0,toks:=tk+1}:=
   I.Y5 L c (Uy _) #[by show 2<=UG;decide,[.int i tk,y],.cons #[_,W] (.cons ru .nil),#[_,hT2,#[W,_,W],W]]
  show#[.ref s.heap.objs.size,_,I2,W,#[_,x,hn,W,λys F=>by rw[D6 I F G];show O,W],#[#[y,U],aeH.1.at λo q=>(YO.2 g X4.symm).trans q],λb m=>?_];let Z:b≠s.heap.objs.size:=by
   rcases UJ.mp m with z|m
   .rw[z];show UP B
   .rw[show b=g by simpa using m];show UP S
  rw[bG Z];show(L b m).1
 done:=by
  intro X hP R hK Y i r s σ H E I L f T;subst hP R hK;let((old,n),l):=f;let(xs,G,O):=T;let(C,rv,p,hz):=I.tuple G;let(f0,f1,f2,f3,f4,f5):=L g (by simp);let hl:=rv.length
  let D':Draws X.prog X.w X.A.in1 g [g,a] i (λ_ _=>True) (λj h=>j=i/\h.IsTupleIter g a i/\h.IsTuple a C.toArray):=
   #[λj h f=>let#[o,t,_]:=f.2.1;#[o,t],λj h h' f J=>#[f.1,f.2.1.at λo e=>J g (by simp) o e,let#[o,h1,Mz0]:=f.2.2;#[o,J a (by simp) o h1,Mz0]],
    λj s Q E hj f hQ=>bg f.1 (UP hj),λs Q E f hE=>iB (I.ok.hd Y) f.2.1 f.2.2 (by simp;ext) hE]
  show aeh D' n #[W,l,p] λh1 eb=>#[W,I.turned (λb o m q=>eb b o m q) f0 f1 f3 f4 f5]
 self:=λ_ _ _ _ _ f h=>by let((old,n),_):=f;show Xo n h
def BI(K:lD)(e:TA):TI:=λd H R=>e d H λf b=>∃a,f=[.ref a]/\(((∃xs,Yh K b a xs)/\R (Sy K a) b)\/((∃xs,X5 K b a xs)/\R (Qp K a) b))
def vh{c}(G:Gl X "enumerate")(hm:X.mg "enumerate"=CL)(k:PA X [l] U)(F:U4 [l] X.env=[(Uu,eval l X.env)]:=by rfl):
  PI X (.Tuple elts c tp) (.Call (.Name "enumerate" p) [l] [] pos) (BI X.K U):=by
 intro f s A H R I h;show Call_ (lA I G hm boot_enumerate (Wk (dS (k pos f s A H _ I h) λM d #[Q,w,i,r1,C]=>?_) F W));let(a,e,q):=C;subst e;let(u,rfl,B):=ie r1;ext B;let y:∀b∈[d.heap.objs.size+1,d.heap.objs.size],om X f w b:=λb v=>by
  let m:d.heap.objs.size<=b:=by
   rcases UJ.mp v with z|v
   .rw[z];show X1 _
   .rw[show b=d.heap.objs.size by simpa using v];show Uy _
  show i.abQ m (i.Wf.fresh m)
 rcases q with⟨⟨xs,r⟩,q⟩|⟨⟨xs,r⟩,q⟩
 .let(L,N,pl,E):=i.list r;show call_enumerate_list pl.isList λJ j g o t=>?_;show Xo j ?_;show#[d.heap.objs.size+1,[d.heap.objs.size+1,d.heap.objs.size],_,_,w,W,i.kept t,Fw a _ _ (Zo _),#[#[_,j],g],y,q]
 .let(L,N,pl,E):=i.tuple r
  show mU pl λJ j g o t=>?_;show Xo j ?_;let n:a<d.heap.objs.size:=by let(_,z,_):=pl;show c6 z
  show#[d.heap.objs.size+1,[d.heap.objs.size+1,d.heap.objs.size],_,_,w,W,i.kept t,B9 a _ _ (Zo _) (UP n) (UP (WO n)),#[#[_,j],g],y,q]
def eF(i:Nat):G D->G D
 |[]=>[]
 |d::r=>.tuple [.int (i:Nat),d]::eF (i+1) r
theorem hV:∀(ds:G D) (i:Nat),(eF i ds).length=ds.length
 |[],_=>rfl
 |d::r,i=>by show(eF (i+1) r).length+1=r.length+1;rw[hV r]
theorem jz:∀(ds:G D) (i j:Nat),(eF i ds)[j]?=(ds[j]?).map λd=>.tuple [.int ((i+j:Nat):Int),d]
 |[],_,_=>by simp[eF]
 |d::r,i,0=>rfl
 |d::r,i,j+1=>by
  show(eF (i+1) r)[j]?=_;rw[jz r (i+1) j,WX];let:i+1+j=i+(j+1):=by ext
  rw[this]
section
variable{K:lD}{E:XK}{B O U:cN}{T H S:Hp}{Q:L2.St}{X N:bM}{v:V}
def Ja(h:aaR O K H a xs)(hd:Wb O K H xs ds):tz K (Sy K a) O H (eF 0 ds):=by intro U S e n;let g:=h.ev e;let f:=hd.ev e;rw[hV];show#[λi m=>?_,#[xs,g.1.sq,by rw[hd.length];show Uy _]];let(x,j,r):=f.get (UD m);show#[#[xs,x,g.1.sq,j],?_];rintro y l ⟨p,z,d,rfl,o,rfl⟩;let b:=o xs g.1.sq;rw[j]at b;ext b;show#[bZ d _,.tuple [.int i,ds[i]],?_,.tup #[X5.of bp,λq=>bg q (n p d)] (.cons (.int _) (.cons (r.ev (Ev.grow (bZ d _))) .nil))];rw[jz,UD m];simp
def Ij(h:Zp O K H a xs)(hd:Wb O K H xs ds):tz K (Qp K a) O H (eF 0 ds):=by intro U S e n;let g:=h.ev e;let f:=hd.ev e;rw[hV];show#[λi m=>?_,#[xs,g.1,by rw[hd.length];show Uy _]];let(x,j,r):=f.get (UD m);show#[#[xs,x,g.1,j],?_];rintro y l ⟨p,z,d,rfl,o,rfl⟩;let b:=o xs g.1;rw[j]at b;ext b;show#[bZ d _,.tuple [.int i,ds[i]],?_,.tup #[X5.of bp,λq=>bg q (n p d)] (.cons (.int _) (.cons (r.ev (Ev.grow (bZ d _))) .nil))];rw[jz,UD m];simp
def sL(c:FA):FI:=λX=>(c X).bind λa=>(Res.Vm (pA a.2 a.1)).bind λb=>match b.1 with
 |[d]=>(Res.Vm (gk d)).bind λds=>.ok (eF 0 ds,b.2)
 |_=>.bad
def Ec(h:AO K E C I):IO K E (BI K C) (sL I):=by
 intro B T O Q H X u R w;show h B T O Q H X _ R (w.bind.imp λa b y z j g r m=>?_);let((ds,l),q,b):=b.Vm;let(i,f,R2,p):=oO r m q;dsimp only at b;cases p with
 |nil=>show b.elim
 |cons o n=>
  cases n with
  |cons _ _=>show b.elim
  |nil=>
   let(t,d,b):=WR.Vm b;cases o with
   |tup h e=>ext d;show#[_,W,.inr #[#[_,h.1],b i _ j (g.trans f) R2 (Ij h e)]]
   |lst h e=>ext d;show#[_,W,.inl #[#[_,h.1.sq],b i _ j (g.trans f) R2 (Ja h e)]]
   |_=>ext d
end
def E6{bs:G Bool}(r:Vals (bs.map V.bl) o){i:Nat}(h:o[i]?=R v):∃b,bs[i]?=R b/\v=.bool b:=by
 let d:=r.length;rw[Ur]at d;let f:i<bs.length:=by rw[d];show(Uo.mp h).1
 let(u,a,e):=r.get (by rw[UK,UD f];rfl);rw[h]at a;ext a;show#[bs[i],UD f,e]
def Cu(bs:G Bool):((U1 bs.length).all λi=>(bs[i]?).getD P)=bs.all id:=by
 rw[ae8,WW,WW];constructor
 .intro h b a;let(i,d,e):=List.mem_iff_getElem.mp a;let:=h i (U0.mpr d);rw[UD d,e]at this;show this
 .intro h i d;let d:=U0.mp d;rw[UD d];show h _ (Zk d)
section
variable{X:Cx}
def kM(t:X.calm=P):W6 X (.builtin "all") (λxs H Q=>∃(p:Uw) (bs:cn Bool),xs=[.ref p]/\Yh X.K H p (bs.map V.bl)/\Q (.bl (bs.all id)) H):=by
 intro d s z H xs B Q I r h;let(l,bs,rfl,m,q):=h;let(u,rfl,j):=ie r;ext j;let(g,N,pl,F):=I.list m;let a:=N.length;rw[Ur]at a;let y:l<s.heap.objs.size:=by let(_,_,e,_):=pl;show c6 e
 show call_all_walk (YM pl.isList ?_);show#[s.heap.objs.size,[s.heap.objs.size,l],[s.heap.objs.size],g.toArray.size,_,_,λi=>(bs[i]?).getD P,W,acr.list (A:=X.A.in1) (I.ok.hd t) _ l (UP y) g.toArray,
  #[#[_,da _ W,W,W],pl.isList.push _],λi v E J L w f=>?_,λG C n=>?_]
 .let(b,e,rfl):=E6 N (by simpa using w);simp only[e,aa4]at f;show VU f
 .rw[UE,<-a,Cu];show#[.bl _,H,I.kept λb o e=>n b o (λhm=>?_) (c5 _ e),W,q];rw[UH.mp hm]at e;show V5 _ (c6 e)
end
section
variable{K:lD}
def xH:G D->cv (G Bool)
 |[]=>R []
 |.bool b::r=>(xH r).map (b::·)
 |_=>L
theorem D5:∀{xs:G V} {ds:G D} {bs:G Bool},Wb O K H xs ds->xH ds=R bs->xs=bs.map V.bl
 |_,_,_,.nil,e=>by ext e;rfl
 |_,_,bs,.cons (ds:=r) h t,e=>by
  cases h with
  |bl b=>
   let a:(xH r).map (b::·)=R bs:=e;cases q:xH r with
   |none=>rw[q]at a;ext a
   |some d=>rw[q]at a;ext a;rw[D5 t q];rfl
  |_=>ext e
def ya:G D->cv RV
 |[.list ds]=>(xH ds).map λbs=>.fz (.bool (bs.all id))
 |_=>L
def rA:Bk K (λxs H Q=>∃(p:J) (bs:G Bool),xs=[.ref p]/\Yh K H p (bs.map V.bl)/\Q (.bl (bs.all id)) H) ya:=by
 intro O H xs ds j Q n f e q;unfold ya at e;split at e
 .rename_i g
  cases i:xH g with
  |none=>rw[i]at e;ext e
  |some bs=>
   rw[i]at e;ext e;cases f with
   |cons d b=>ext b;let(a,h,rfl,d,b):=Bh d;let:=D5 b i;subst this;show#[a,bs,W,d.sq,q.at (.bl _)]
 .ext e
def pz:G D->cv (G Int)
 |[]=>R []
 |.int b::r=>(pz r).map (b::·)
 |_=>L
theorem nW:∀{xs:G V} {ds:G D} {bs:G Int},Wb O K H xs ds->pz ds=R bs->xs=bs.map V.int
 |_,_,_,.nil,e=>by ext e;rfl
 |_,_,bs,.cons (ds:=r) h t,e=>by
  cases h with
  |int b=>
   let a:(pz r).map (b::·)=R bs:=e;cases q:pz r with
   |none=>rw[q]at a;ext a
   |some d=>rw[q]at a;ext a;rw[nW t q];rfl
  |_=>ext e
def Cj(x:Int):G Int->G Int
 |[]=>[x]
 |y::r=>if x<=y then x::y::r else y::Cj x r
def mN:G Int->G Int
 |[]=>[]
 |x::r=>Cj x (mN r)
theorem rT(x:Int):∀l,(Cj x l).Perm (x::l)
 |[]=>abg _
 |y::r=>by
  ext Cj;split
  .show abg _
  .show((rT x r).cons y).trans (alE x y r)
theorem gW:∀l,(mN l).Perm l
 |[]=>abg _
 |x::r=>(rT x _).trans ((gW r).cons x)
theorem su(x:Int):∀l:G Int,l.Pairwise (·<=·)->(Cj x l).Pairwise (·<=·)
 |[],_=>by simp[Cj]
 |y::r,h=>by
  ext Cj;let(d,f):=VX.mp h;split
  .rename_i a
   show VX.mpr #[λz b=>?_,h];rcases UJ.mp b with e|e
   .rw[e];show a
   .let:=d z e;ext
  .rename_i a
   show VX.mpr #[λz b=>?_,su x r f];rcases UJ.mp ((rT x r).mem_iff.mp b)with e|e
   .rw[e];ext
   .show d z e
theorem gv:∀l,(mN l).Pairwise (·<=·)
 |[]=>Xq
 |x::r=>su x _ (gv r)
theorem nJ{l m:G Int}(d:l.Perm m)(e:l.Pairwise (·<=·))(hm:m.Pairwise (·<=·)):l=m:=d.eq_of_pairwise (λa b _ _ g f=>afE g f) e hm
def yU:G D->cv RV
 |[.list ds]=>(match pz ds with
  |some a=>if a.length<64 then R (.ow ((mN a).map .int))else L
  |none=>L)
 |_=>L
def vJ(ns:G Int):Wb O K H (ns.map V.int) (ns.map .int):=by
 induction ns with
 |nil=>show .nil
 |cons n r a=>show .cons (.int n) a
def xw:Bk K (λxs H Q=>∃(p:J) (ns:G Int),xs=[.ref p]/\Yh K H p (ns.map V.int)/\ns.length<64/\∀(l:J) (b:G Int),H l=L->b.Perm ns->b.Pairwise (·<=·)->Q (.ref l) (cy H l (.lst (b.map V.int)))) yU:=by
 intro O H xs ds t Q n d e q;unfold yU at e;split at e
 .rename_i j
  cases r:pz j with
  |none=>rw[r]at e;ext e
  |some ns=>
   rw[r]at e;dsimp only at e;split at e
   .rename_i f
    ext e;cases d with
    |cons h g=>ext g;let(a,o,rfl,h,g):=Bh h;let:=nW g r;subst this;show#[a,ns,W,h.sq,f,λl b f d i=>?_];let m:=nJ (d.trans (gW ns).symm) i (gv ns);subst m;show Fin.new (vJ _) q l f
   .ext e
 .ext e
end
def TM(K:lD)(H:Hp)(x:V)(t:String):Prop:=match x with
 |.Xp=>t= "NoneType"
 |.bl _=>t= "bool"
 |.int _=>t= "int"
 |.str _=>t= "str"
 |.ref a=>(t= "list"/\∃xs,Yh K H a xs)\/(t= "tuple"/\∃xs,X5 K H a xs)
 |_=>False
def MS(K:lD):G V->Hp->VK->Prop:=λxs H Q=>∃x n t b,xs=[x,.ty n]/\TM K H x t/\aei K (.type t) (.type n)=R b/\Q (.bl b) H
def wL{X:Cx}:W6 X (.builtin "isinstance") (MS X.K):=by
 intro g s p H xs B Q I r h;let(x,n,t,b,rfl,ty,e,q):=h;let(u,v,rfl,f,w):=Nb r;obtain rfl:v=Um.type n:=w;let d:∀j,EP X g p Q (.bool b) {s with toks:=j}:=λj=>#[.bl b,H,I.tok j,W,q];cases x with
 |Xp=>cases(show t= "NoneType" from ty);cases(show u=Um.none from f);show Xt PySem.W.kitx_none I.kIn True.intro e (λz=>nomatch z) d
 |bl y=>cases(show t= "bool" from ty);cases(show u=Um.bool y from f);show Xt PySem.W.kitx_bool I.kIn True.intro e (λz=>nomatch z) d
 |int i=>cases(show t= "int" from ty);let(t,q):=(show∃t,u=Um.int i t from f);ext q;show Xt PySem.W.kitx_int I.kIn True.intro e (λz=>nomatch z) d
 |str y=>cases(show t= "str" from ty);let(t,q):=(show∃t,u=Um.str y t from f);ext q;show Xt PySem.W.kitx_str I.kIn True.intro e (λz=>nomatch z) d
 |ref a=>
  cases(show u=Um.ref a from f);rcases ty with⟨rfl,xs,h⟩|⟨rfl,xs,h⟩
  .let(A,r,(o,k,m,l,_),_):=I.list h;show Xt PySem.W.kitx_list I.kIn #[_,m,l] e (λz=>nomatch z) d
  .let(A,r,(o,m,l,_),_):=I.tuple h;show Xt PySem.W.kitx_tuple I.kIn #[o,m,l] e (λz=>nomatch z) d
 |_=>show(show False from ty).elim
section
variable{K:lD}{E:XK}{B O N:cN}{U H I:Hp}{T:L2.St}{X S:bM}{v:V}
def KH:D->cv String
 |.none=>R "NoneType"
 |.bool _=>R "bool"
 |.int _=>R "int"
 |.str _=>R "str"
 |.list _=>R "list"
 |.tuple _=>R "tuple"
 |.dict _=>L
def Oe(n t:String):Bool:=n==t||(n== "int"&&t== "bool")
def K2{n t:String}(b:n= "int"\/n= "bool"\/n= "str"\/n= "list"\/n= "tuple"){d:D}(a:KH d=R t):aei K (.type t) (.type n)=R (Oe n t):=by ext d<;>(ext a;try (rcases b with rfl|rfl|rfl|rfl|rfl<;>rfl))
def RQ{x:V}{d:D}{t:String}(h:DX O K H x d)(e:KH d=R t):TM K H x t:=by
 cases d with
 |none=>ext e;ext h;rfl
 |bool b=>ext e;ext h;rfl
 |int b=>ext e;ext h;rfl
 |str b=>ext e;ext h;rfl
 |dict b=>ext e
 |list ds=>ext e;let(a,xs,rfl,f,_):=Bh h;show .inl #[W,xs,f.sq]
 |tuple ds=>ext e;let(a,xs,rfl,f,_):=FV h;show .inr #[W,xs,f.1]
def Pn(n:String)(b:FE):FE:=λX=>(b X).bind λa=>(Res.Vm (sM a.2 a.1)).bind λd=>(Res.Vm (KH d)).bind λt=>.ok (.fz (.bool (Oe n t)),a.2)
def Ig{n:String}{e:TE}{c:FE}(k:n= "int"\/n= "bool"\/n= "str"\/n= "list"\/n= "tuple")(m:EO K E e c):EO K E (Mz (MS K) (l6 e (l6 (tC (.ty n)) pN))) (Pn n c):=by intro B U O T H X Q R w;show m B U O T H X _ R (w.bind.imp λa b j x l i g h=>?_);let(d,q,b):=b.Vm;let(t,f,b):=b.Vm;show#[x,n,t,Oe n t,W,RQ (kg g h q) f,K2 k f,b j _ l i g (.bl _)]
end
section
variable{K:lD}
def Aw:G D->cv RV
 |[.int i]=>R (.fz (.int i))
 |[.bool k]=>R (.fz (.int (if k then 1 else 0)))
 |_=>L
def ub:Bk K (λxs H Q=>(∃i,xs=[.int i]/\Q (.int i) H)\/∃k,xs=[.bl k]/\Q (.int (if k then 1 else 0)) H) Aw:=by
 intro O H xs ds f Q n d e q;unfold Aw at e;split at e
 .ext e
  cases d with
  |cons b a=>ext a;ext b;show .inl #[_,W,q.at (.int _)]
 .ext e
  cases d with
  |cons b a=>ext a;ext b;show .inr #[_,W,q.at (.int _)]
 .ext e
end
def ED{P:UY}{w:Vi}{K:lD}{N j:Str->cv Um}{k:Nat}{T a:Uw}{m:V3}{x:Str}{F:FN}{b:Uv}{c:cn Um}{ns:cn Int}
  (p:K.In b.heap) (d:b.heap.Ns UI N) (B:b.heap.Ns builtinsNs j) (f:∀x:Str,x≠ "__name__"->j x=Vu x) (g:b.heap.NoLimit) (A:b.gens= #v[])
  (S:b.heap.get? a=R {cls:=.type "list",data:=.seq c.toArray}) (U:IntsAre c ns) (l:ns.length<=UG) (y:W0 k callerA)
  (J:∀base:Heap,K.In base->base.Ns UI N->FnOk P w K N base cz k T m [x] (g7 K 1 F)) (i:∀(s:Uv) (u:Um),aa2 s m #[[u],[]] [(x,u)])
  (G:F [.list (ns.map .int)]=.ok (.fz (.bool Uq))):
  codeAny (model P w) callerA (.call (.ref T) #[[.ref a],[]]) (λr D=>r=.ok (.ret (.bool Uq))/\OldK b.heap D.heap/\D.os=b.os/\AllBare D.gens) b:=by
 show Jy (sp:=λc H Q E=>g7 K 1 F c H Q E\/(c.length=1/\False)) p d B f g A S U l y (λbase t q=>(J base t q).imp λc H Q E h=>?_) i (λH L C=>?_) λ_ _ _ h=>h
 .rcases h with h|h
  .show h
  .show h.2.elim
 .show .inl #[W,noO,[.list (ns.map .int)],λa z=>z.elim,.cons (.lst #[?_,λz=>z.elim] (vJ ns)) .nil,?_]
  .rcases C with h|⟨o,Vg,n,h1,h2,h3,h4,h5,X⟩
   .show .inl h
   .let e:=p a o h1;rw[S]at e;ext e;ext h4;show .inr #[c,0,h1,by rw[Ur];show l,by simpa using X]
  .rw[G];show λv M s I=>by ext I;rfl
def RX{l:ad7}{n k:Nat}{q:UY}{i:cn Str}{N:(Str->cv Um)->Heap->Prop}{A:Vi->Heap->Prop}{d:DefRec}{K:Params->lD}{F:FN}{x:Str}
  (D:l.most=cL n) (m:n<=UG) (r:d.params.defaults=[]) (C:W0 k callerA)
  (J:∀(w:Vi) (h:Heap),A w h->(K w.params).In h)
  (O:∀(w:Vi) (b:Str->cv Um) (c:Uw) (h:Heap),(K w.params).In h->h.Ns UI b->b d.name=cL (.ref c)->
   ∃fd:V3,(∀(s:Uv) (u:Um),aa2 s fd #[[u],[]] [(x,u)])/\∀base:Heap,(K w.params).In base->base.Ns UI b->FnOk l.prog w (K w.params) b base cz k c fd [x] (g7 (K w.params) 1 F))
  (L:∀ns:cn Int,ns.length<=n->F [.list (ns.map .int)]=.ok (.fz (.bool Uq))):
  PySem.W.WalkO q i N A l.row.toRowW d [] (λf g=>ahd f g):=by
 show Att.attach_call D r λw z y b Q c o P U M a g ns G Y R S H p v j e E=>?_;let B:=J w _ Y;let(fd,I,t):=O w b c _ B G.T.g p;show ED B G.T.g G.T.b G.T.builtins G.T.nolimit E v j (Vn e m) C t I (L ns e)
def Uf{P:UY}{w:Vi}{K:lD}{j:Str->cv M}{base:Heap}{x a:Str}{st:Xg}{f:J}{b:V3}{N c:G Str}{k n m:Nat}{g:FS}{e:FN}(F:WA K x a st f b)(S:YB N c (bH st))(l:c.length=n)(hm:N.length=m)(h:e=dh m g)
  (i:∀(d:M) (A:Vc) (outer:G Env) (s:Uv) (H:Hp) (E:XK),W0 k (A.deeper (Vt a (bH st) s.heap.objs.size f d))->
   ∃t,PSs (uR cz P w K j base N a (bH st) f d A outer s H E).nox (gR st) t/\SO K E t g):FnOk P w K j base cz (k+1) f b c (g7 K n e):=by
 subst h hm;show Ub F S l i
abbrev ci(P:UY)(w:Vi)(K:lD)(b:Str->cv M)(base:Heap)(k:Nat)(x:Str)(a:G Str)(n:Nat)(F:FN):Prop:=Ak P w K b base k x a (g7 K n F)
end L3
namespace L3
open PySem L2
abbrev nd(n:Nat):D:=.int (n:Int)
def bX(ns:G Nat):G D:=ns.map nd
def jZ(ns:G Nat):(bX ns).length=ns.length:=by ext bX;rw[Ur]
def Ks(xs a:G Nat):bX (xs++a)=bX xs++bX a:=by ext bX;rw[Vf]
theorem aZ(a:α):Res.Vm (R a)=.ok a:=W
theorem A5(a:α):iY (Res.ok a)=.ok a:=W
theorem B0(i:Nat)(a:bM):aa i a=C6 a i a[i]? :=W
theorem J5(a:bM)(i:Nat)(d:D):C6 a i (R (R (.fz d)))=.ok (.fz d,a):=W
theorem J6(a:bM)(i:Nat)(ds:G D):C6 a i (R (R (.ow ds)))=.ok (.pl i,a):=W
theorem r9(ds:G D):Ce (R (R (.ow ds)))=R ds:=W
theorem HF(i:Nat)(d:D)(a:bM):gN i (.fz d) a=.ok (a.set i (R (.fz d))):=W
theorem Dm(i:Int):SH (.int i)=R i:=W
theorem Ao(b:Bool):TD (.bool b)=R b:=W
theorem qZ(ds:G D):gz [.tuple ds]=R (.fz (nd ds.length)):=W
theorem uH(ds:G D):gz [.list ds]=R (.fz (nd ds.length)):=W
theorem rO(i j:Int):zp (.int i) (.int j)=R (.fz (.bool (decide (i<j)))):=W
theorem Ny(i j:Int):vU (.int i) (.int j)=R (.fz (.bool (decide (i<=j)))):=W
theorem zi(i j:Int):eE (.int i) (.int j)=R (.fz (.int (i+j))):=W
theorem BQ(i j:Int):v1 (.int i) (.int j)=R (.fz (.int (i - j))):=W
def yS(h:0<j):wk (.int i) (.int j)=R (.fz (.int (i % j))):=by show(if Qf i j=P then _ else _)=_;rw[av (show Qf i j=P from aP h)]
def B1(h:0<j/\j<2^128):yb (.int i) (.int j)=R (.fz (.int (i/j))):=by show(if NZ i j=P then _ else _)=_;rw[av (show NZ i j=P from aP h)]
def Mo(h: -(2^64)<i/\i<2^64):Fj (.int i) (.int j)=R (.fz (.int (i*j))):=by show(if(jq i||jq j)=P then _ else _)=_;rw[av (by rw[show jq i=P from aP h,Zv])]
def Md(h: -(2^64)<j/\j<2^64):Fj (.int i) (.int j)=R (.fz (.int (i*j))):=by show(if(jq i||jq j)=P then _ else _)=_;rw[av (by rw[show jq j=P from aP h,agJ])]
def KA(h:nU j):mP [.int j]=R (i7 0 j.toNat):=by show(if nU j then _ else _)=_;rw[av h]
def Ix(n:Nat):i7 0 n=bX (U1 n):=by unfold i7 bX;apply Ww;intro k _;rw[Int.zero_add]
def jx(h:n<=1000000):mP [nd n]=R (bX (U1 n)):=by rw[KA (by ext nU;ext),Ix,Vz]
def JF(h:f C=.ok (.nx o)):bv f g C=g o:=by ext bv;rw[h];rfl
def Hm(h:f o=.ok (.rt C)):bv f g o=.ok (.rt C):=by ext bv;rw[h];rfl
def S4(h:c C=.ok (P,o)):gF c f g C=f o:=by ext gF;rw[h];rfl
def Tx(h:c C=.ok (Uu,o)):gF c f g C=g o:=by ext gF;rw[h];rfl
def Cs(h:I C=.ok (ds,o)):pK I gt b C=sV gt b ds o:=by ext pK;rw[h];rfl
def Pb(h:j<=1000000/\i.natAbs<2^64):IJ (.int i) (nd j)=R (.fz (.int (i^j))):=by show(if ES i (j:Int)=P then R (RV.fz (.int (i^((j:Nat):Int).toNat)))else L)=_;rw[av (by ext ES;show aP #[by ext,by ext,h.2]),Vz]
theorem QY:IJ (.int 10) (.int 18)=R (.fz (.int (10^18))):=Pb #[by decide,by decide]
def mf(gt:FG)(f:FT)(g:FE)(d:D)(c:bM):Res (cv D×bM):=(gt (.fz d) c).bind λe=>(f e).bind λb=>if b.1=P then(g b.2).bind λa=>(Res.Vm (zn a.2 a.1)).bind λx=>.ok (R x.1,di x.2)else .ok (L,di b.2)
def uF(h:mf gt U fe d I=.ok (o,C))(g:acc.length<1000000):dL gt U fe (d::r) I acc=dL gt U fe r C (acc++o.toList):=by
 unfold mf at h;show(gt (.fz d) I).bind _=_;cases l:gt (.fz d) I with
 |er x=>rw[l]at h;ext h
 |bad=>rw[l]at h;ext h
 |ok f=>
  rw[l,ej]at h;rw[ej];cases j:U f with
  |er x=>rw[j]at h;ext h
  |bad=>rw[j]at h;ext h
  |ok b=>
   let(b,e):=b;rw[j,ej]at h;rw[ej];cases b with
   |false=>rw[ax Ux]at h⊢;ext h;rw[aap,UZ]
   |true=>
    rw[av W]at h⊢;cases i:fe e with
    |er x=>rw[i]at h;ext h
    |bad=>rw[i]at h;ext h
    |ok a=>
     rw[i,ej]at h;rw[ej];cases m:zn a.2 a.1 with
     |none=>rw[m]at h;ext h
     |some x=>rw[m]at h;ext h;show(if acc.length<1000000 then _ else _)=_;rw[av g];rfl
theorem Ah(I:bM->Prop)(f:D->cv D):∀(ds:G D) (i:bM) (a:G D),I i->a.length+ds.length<=1000000->(∀d∈ds,∀i,I i->∃c,mf gt o C d i=.ok (f d,c)/\I c)->dL gt o C ds i a=.ok (a++ds.filterMap f)
 |[],i,a,_,_,_=>by show Res.ok a=_;simp
 |d::r,i,a,h0,l,j=>by
  let(c,g,e):=j d UA i h0;rw[UL]at l;rw[uF g (),Ah I f r c _ e (by
   let:(f d).toList.length<=1:=by cases f d<;>simp
   rw[UB];ext) λh b=>j h (UC _ b)]
  cases q:f d with
  |none=>rw[Wh q,aap,UZ]
  |some y=>rw[Wi q,adx,Vl];rfl
def C2(I:bM->Prop)(f:D->cv D)(e:I g)(b:ds.length<=1000000)(a:∀d∈ds,∀g,I g->∃c,mf gt o C d g=.ok (f d,c)/\I c):iY (dL gt o C ds g [])=.ok (ds.filterMap f):=by rw[Ah I f ds g [] e (by simpa using b) a];rfl
def Ow(a b:Nat):decide ((a:Int)=(b:Int))=decide (a=b):=by
 by_cases h:a=b
 .rw[aP h,aP (by rw[h])]
 .rw[a6 h,a6 ()]
theorem HN(a b:Nat):Ut.eqv (nd a) (nd b)=decide (a=b):=Ow a b
def lC(a b:Int):cB (.int a) (.int b)=R (.fz (.bool (decide (a=b)))):=by rfl
def yy(a b:Int):n6 (.int a) (.int b)=R (.fz (.bool (!decide (a=b)))):=by rfl
theorem lG:∀ns:G Nat,Ut.canLayAll0 (bX ns)=P
 |[]=>rfl
 |n::r=>by show(Ut.canLay0 (nd n)&&Ut.canLayAll0 (bX r))=P;rw[lG r];rfl
theorem zj:∀ns:G Nat,Ut.depthAll (bX ns)=0
 |[]=>rfl
 |n::r=>by show max (Ut.depth (nd n)) (Ut.depthAll (bX r))=0;rw[zj r];rfl
theorem CM:∀xs ys:G Nat,Ut.eqvAll (bX xs) (bX ys)=decide (xs=ys)
 |[],[]=>rfl
 |[],_::_=>rfl
 |_::_,[]=>rfl
 |n::r,m::t=>by show(Ut.eqv (nd n) (nd m)&&Ut.eqvAll (bX r) (bX t))=_;rw[CM r t,HN];rw[ae8];simp
def Qu(ns:G Nat):oH (.list (bX ns))=P:=by show(Ut.canLayAll0 (bX ns)&&decide (Ut.depthAll (bX ns)+1<=64))=P;rw[lG,zj];rfl
def zb(xs a:G Nat):cB (.list (bX xs)) (.list (bX a))=R (.fz (.bool (decide (xs=a)))):=by ext cB;rw[Qu,show Ut.canLay0 (.list (bX a))=P from lG a,Xz,av W,show Ut.eqv (.list (bX xs)) (.list (bX a))=_ from CM xs a]
def xM(x:Nat)(xs:G Nat):((bX xs).any λe=>Ut.eqv e (nd x))=decide (x∈xs):=by
 induction xs with
 |nil=>rfl
 |cons y r a=>
  show(Ut.eqv (nd y) (nd x)||(bX r).any λe=>Ut.eqv e (nd x))=_;rw[a,HN];by_cases h:y=x
  .rw[aP h,aP (show x∈y::r by rw[h];show UA),Zv]
  .rw[a6 h,aay]
   by_cases g:x∈r
   .rw[aP g,aP (UC _ g)]
   .rw[a6 g,a6 (λz=>(UJ.mp z).elim (λe=>h e.symm) g)]
def LS(x:Nat)(xs:G Nat):mn (nd x) (.list (bX xs))=R (.fz (.bool (decide (x∈xs)))):=by show(if(oH (nd x)&&Ut.canLayAll0 (bX xs))=P then _ else _)=_;rw[lG,show oH (nd x)=P from rfl,Xz,av W,xM]
def Js(x:Nat)(xs:G Nat):rB (nd x) (.list (bX xs))=R (.fz (.bool (!decide (x∈xs)))):=by show(if(oH (nd x)&&Ut.canLayAll0 (bX xs))=P then _ else _)=_;rw[lG,show oH (nd x)=P from rfl,Xz,av W,xM]
def yI(x:Nat)(xs:G Nat):mn (nd x) (.tuple (bX xs))=R (.fz (.bool (decide (x∈xs)))):=by show(if(oH (nd x)&&Ut.canLayAll0 (bX xs))=P then _ else _)=_;rw[lG,show oH (nd x)=P from rfl,Xz,av W,xM]
theorem JN{i:Nat}(h:xs[i]?=R v):mo xs (i:Int)=R v:=DR h
def QI(h:ds[i]?=R d):bu (.tuple ds) (nd i)=R (.fz d):=by show(mo ds (i:Int)).map RV.fz=_;rw[JN h];rfl
def Tz(h:ds[i]?=R d):bu (.list ds) (nd i)=R (.fz d):=by show(mo ds (i:Int)).map RV.fz=_;rw[JN h];rfl
section
variable{S T Z N:bM}{Q fb B I:FE}{Y E pv:PV}{U C d:D}{rv:RV}{X:cn PV}{ds:cn D}
def aG(h:S[i]?=R (R (.fz d))):aa i S=.ok (.fz d,S):=by rw[B0,h,J5]
def Cq(h:S[i]?=R (R (.ow ds))):aa i S=.ok (.pl i,S):=by rw[B0,h,J6]
theorem bE:pC d S=.ok (.fz d,S):=W
def b8(c:Q S=.ok (Y,T))(g:fb T=.ok (E,Z))(b:sM Z (d3 Y)=R U)(a:sM Z E=R C)(e:f U C=R rv):aE f Q fb S=.ok (rv.pv,Z):=by ext aE;rw[c,ej,g,ej,b,aZ,ej,a,aZ,ej,e,aZ,ej]
def Q6(c:Q S=.ok (Y,T))(a:sM T Y=R U)(b:f U=R rv):QD f Q S=.ok (rv.pv,T):=by ext QD;rw[c,ej,a,aZ,ej,b,aZ,ej]
def jw(c:Q S=.ok (Y,T))(a:sM T Y=R (.bool b)):au Q S=.ok (b,T):=by ext au;rw[c,ej,a,aZ,ej,Ao,aZ,ej]
def tW(c:f S=.ok (a,T))(e:a=P->g T=.ok (b,T)):lQ f g S=.ok (a&&b,T):=by
 ext lQ;rw[c,ej];cases a with
 |true=>rw[av W,e W,acu]
 |false=>rw[ax Ux,aab]
def BU(c:f S=.ok (a,T))(e:a=Uu->g T=.ok (b,T)):uX f g S=.ok (a||b,T):=by
 ext uX;rw[c,ej];cases a with
 |true=>rw[av W,Zv]
 |false=>rw[ax Ux,e W,aay]
def Kt(b:au Q S=.ok (a,T)):FC Q S=.ok (.fz (.bool (!a)),T):=by ext FC;rw[b,ej]
theorem b4:aq S=.ok ([],S):=W
def a8(b:Q S=.ok (Y,T))(a:fr T=.ok (X,Z)):ae Q fr S=.ok (d3 Y::X,Z):=by ext ae;rw[b,ej,a,ej]
def jO(b:fr S=.ok (X,T))(hd:vZ T X=R ds)(a:f ds=R rv):ez f fr S=.ok (rv.pv,T):=by ext ez;rw[b,ej,hd,aZ,ej,a,aZ,ej]
def ky(c:fr S=.ok (X,T))(hd:pA T X=R (ds,Z))(b:ds.length=n)(a:F ds=.ok rv):bO F n fr S=.ok (rv.pv,Z):=by ext bO;rw[c,ej,hd,aZ,ej];dsimp only;rw[av b,a,A5,ej]
def vi(b:fr S=.ok (X,T))(hd:pA T X=R (ds,Z))(a:ds.length<=1000):dA fr S=.ok (.fz (.tuple ds),Z):=by ext dA;rw[b,ej,hd,aZ,ej];dsimp only;rw[av a]
def yG(b:fr S=.ok (X,T))(hd:pA T X=R (ds,Z))(a:ds.length<=1000):dF fr S=.ok (.ow ds,Z):=by ext dF;rw[b,ej,hd,aZ,ej];dsimp only;rw[av a]
def vj(b:Q S=.ok (Y,T))(a:sM T Y=R (.int i)):gy Q S=.ok (R i,T):=by ext gy;rw[b,ej,a,aZ,ej,Dm,aZ,ej]
def Np(c:Q S=.ok (Y,T))(b:fl T=.ok (lo,Z))(e:fh Z=.ok (o,N))(a:sM N (d3 Y)=R U)(g:f U lo o=R rv):xR f Q fl fh S=.ok (rv.pv,N):=by ext xR;rw[c,ej,b,ej,e,ej,a,aZ,ej,g,aZ,ej]
def IG(g:S[i]?=R (R (.ow o)))(c:I S=.ok (Y,T))(b:zn T Y=R (d,Z))(f:Z[i]?=R (R (.ow ds)))(e:ds.length<1000000)(a:Z.set i (R (.ow (ds++[d])))=x):Ci i I S=.ok (.fz .none,x):=by ext Ci;rw[g,r9,aZ,ej,c,ej,b,aZ,ej];dsimp only;rw[f,r9,aZ,ej,av e,a]
def fV(c:fi S=.ok (ds,T))(b:wH T o=R (cs,Z))(a:iY (dL gt ft I ds (Us n L++cs.map λd=>R (.fz d)) [])=.ok xs):cX n o fi gt ft I S=.ok (.ow xs,Z):=by ext cX;rw[c,ej];dsimp only;rw[b,aZ,ej];dsimp only;rw[a,ej]
def Qg(a:c S=.ok (P,T))(h:Q T=.ok (pv,Z)):Gx c Q fb S=.ok (pv,Z):=by ext Gx;rw[a,ej,av W,h]
def Oc(a:c S=.ok (Uu,T))(h:fb T=.ok (pv,Z)):Gx c Q fb S=.ok (pv,Z):=by ext Gx;rw[a,ej,ax Ux,h]
theorem jK:bu (.tuple (a::r)) (.int 0)=R (.fz a):=QI W
theorem jX:bu (.tuple (a::b::r)) (.int 1)=R (.fz b):=QI W
theorem sZ:bu (.tuple (a::b::c::r)) (.int 2)=R (.fz c):=QI W
theorem Sg:bu (.list (a::r)) (.int 0)=R (.fz a):=Tz W
theorem Sb:bu (.list (a::b::r)) (.int 1)=R (.fz b):=Tz W
def O9(b:k<=1000)(a:xs.length<=1000):Fj (.list xs) (nd k)=R (.ow (Us k xs).flatten):=by show(if xs.length*((k:Nat):Int).toNat<=1000000/\ -(2^63)<=(k:Int)/\(k:Int)<2^63 then R (RV.ow (Us ((k:Nat):Int).toNat xs).flatten)else L)=_;rw[Vz,av #[Vn (ab3 a b) (),by ext,by ext]]
def PJ(xs:G Nat)(h:∀x∈xs,f (nd x)=if p x=P then R (nd x)else L):(bX xs).filterMap f=bX (xs.filter p):=by
 induction xs with
 |nil=>rfl
 |cons x r e=>
  let a:=h x UA;let b:=e λy g=>h y (UC _ g);show((nd x)::bX r).filterMap f=_;cases q:p x with
  |true=>rw[q,av W]at a;rw[Wi a,b,VZ q];rfl
  |false=>rw[q,ax Ux]at a;rw[Wh a,b,Wo (by rw[q];show Ux)]
def nZ(c:I S=.ok (Y,T))(a:zn T Y=R (d,Z))(b:gk d=R o):gD I S=.ok (o,Z):=by ext gD;rw[c,ej,a,aZ,ej];dsimp only;rw[b,aZ,ej]
def iS(b:fr S=.ok (X,T))(hd:vZ T X=R ds)(a:f ds=R o):lr f fr S=.ok (o,T):=by ext lr;rw[b,ej,hd,aZ,ej,a,aZ,ej]
def An(b:fr S=.ok (X,T))(hd:pA T X=R ([d],Z))(a:gk d=R o):L3.sL fr S=.ok (eF 0 o,Z):=by ext L3.sL;rw[b,ej,hd,aZ,ej];dsimp only;rw[a,aZ,ej]
def BW(b:I S=.ok (pv,T))(a:g pv T=.ok Z)(c:Z=N):fy I g S=.ok (.nx N):=by ext fy;rw[b,ej];dsimp only;rw[a,ej,c]
def D8(a:I S=.ok (pv,T)):nh I S=.ok (.nx T):=by ext nh;rw[a,ej]
def yj(b:I S=.ok (pv,T))(a:Fm T pv=R rv):bK I S=.ok (.rt rv):=by ext bK;rw[b,ej];dsimp only;rw[a,aZ,ej]
def KJ(e:gt (.fz d) S=.ok T)(b:ft T=.ok (P,Z))(g:I Z=.ok (pv,N))(a:zn N pv=R (x,ρ4))(f:di ρ4=o):mf gt ft I d S=.ok (R x,o):=by ext mf;rw[e,ej,b,ej,av W,g,ej,a,aZ,ej,f]
def Kj(b:gt (.fz d) S=.ok T)(a:ft T=.ok (Uu,Z))(e:di Z=o):mf gt ft I d S=.ok (L,o):=by ext mf;rw[b,ej,a,ej,ax Ux,e]
end
end L3
namespace PySem
open Sem (wp)
open Builtin
open AutoSeq1 (wpAny_loadPart')
theorem sf:fillsNumberSlot (.type "tuple") "mul"=pure Uu:=
 fillsNumberSlot_seq F.slot_tuple_mul.lookup (by left) F.slot_tuple_rmul.lookup (by left)
def zc:seqRepeat? (.type "tuple")=pure (R (.builtin "tuple.__mul__")):=by unfold seqRepeat?;rw[seqSlot_of (name:= "__mul__") F.slot_tuple_mul.lookup (by left),seqSlot_of (name:= "__rmul__") F.slot_tuple_rmul.lookup (by left)];rfl
theorem uQ(a:Int)(t:Tok)(l:J)(b:Array M)(n:Nat)(dct:cv J)(f:Array (cv M)):
  Meets (U3.«int.__rmul__» #[[.int a t,.ref l],[]]) (λ_ R s=>s.heap.get? l=cL {cls:=.type "tuple",dict:=dct,data:=.seq b n,slots:=f}/\R (.ok (.ret Um.notImplemented)) s):=
 .of_wp λe w A R s h=>by let(m,g,d,i,j):=s;let(o,h):=h;wp_walk;show#[_,W,h]
theorem Av(l:J)(a:Array M)(n:Nat)(dct:cv J)(e:Array (cv M))(u:Tok):
  Meets (U3.«tuple.__mul__» #[[.ref l,.int 1 u],[]]) (λ_ R s=>s.heap.get? l=cL {cls:=.type "tuple",dict:=dct,data:=.seq a n,slots:=e}/\R (.ok (.ret (Um.ref l))) s):=
 .of_wp λb w A R s h=>by
  let(j,g,d,f,i):=s;let(m,h):=h
  wp_walk
  show#[_,W,h]
theorem Ad(l:Uw)(a:Array M)(n:Nat)(dct:cv Uw)(j:Array (cv M))(x:Int)(u:Tok)(I:2<=x)(r:x<=1000)(i:a.isEmpty=Uu)(D:a.size<=1000):
  Meets (U3.«tuple.__mul__» #[[.ref l,.int x u],[]]) (λ_ R s=>s.heap.get? l=cL {cls:=.type "tuple",dict:=dct,data:=.seq a n,slots:=j}/\R (.ok (.ret (Um.ref s.heap.objs.size))) {s with heap:=s.heap.push {cls:=Um.type "tuple",data:=abt.seq (Zu (λk c=>k++c) #v[] (Us x.toNat a))},toks:=s.toks}):=
 .of_wp λe w A R s h=>by
  let(G,g,d,E,F):=s;let(q,h):=h;let C:¬(decide (x< -(2^63))||decide (x≥2^63))=P:=by simp;ext
  let B:(x==1)=Uu:=by simp;ext
  let z:decide (x<=0)=Uu:=by simp;ext
  let K:(a.isEmpty||x==1)=Uu:=by rw[i,B];rfl
  let J:(decide (x<=0)||a.isEmpty)=Uu:=by rw[i,z];rfl
  let f:(a.size:Int)*x<=1000000:=by let:(a.size:Int)*x<=1000*1000:=Int.mul_le_mul () r () ();ext
  let y:¬(a.size:Int)*x>(2^63 - 1)/8:=by ext
  let v:¬Tuple.tupleTooMany ((a.size:Int)*x)=P:=by
   ext Tuple.tupleTooMany;simp;let:(UG:Nat)=16777216:=by decide
   ext
  wp_walk
  rw[ax C]
  wp_walk using YF q
  rw[ax y];dsimp only;rw[ax v];let p:(Zu (λk c=>k++c) #v[] (Us x.toNat a)).size<=UG:=by
   let t:∀(m:Nat) (b:Array M),(Zu (λk c=>k++c) b (Us m a)).size=b.size+m*a.size:=by
    intro m
    induction m with
    |zero=>intro b;simp
    |succ m o=>intro b;rw[Vx,ZD,o,Array.size_append,ahc];ext
   rw[t];let H:x.toNat*a.size<=1000*1000:=ab3 () D;let:(UG:Nat)=16777216:=by decide
   simp;ext
  wp_walk
  show#[_,W,h]
end PySem
namespace L3
open PySem PySem.Spec PyProof.Rows L2
def MR(K:lD):R2:=λx y H Q=>∃(a:J) (k:Nat) (xs:G V),x=.ref a/\y=.int (k:Int)/\X5 K H a xs/\xs≠[]/\1<=k/\k<=1000/\xs.length<=1000/\
 (k=1->Q (.ref a) H)/\(2<=k->∀p,H p=L->Q (.ref p) (cy H p (.tup (Us k xs).flatten)))
def MB:OpR X (Wj .Mult) (MR X.K):=by
 intro g s P H x y v u Q I A z h;let(a,k,xs,rfl,rfl,E,O,U,M,J,C,B):=h;ext A;let(t,rfl):=z;let(e,r,G,T):=I.tuple E;let((cls,dd,m,f),d,l,n,j):=id G;simp only at l j;subst l j;let i:=r.length;show adw () #[_,d,W] (λw=>abr w k t) sf F.fills_int_mul F.slot_int_rmul zc F.slot_int_index.lookup
  (Xb F.slot_int_rmul (abr s k t) F.entry_int_rmul (F.args_int_rmul_2 _ _) (uQ k t a e.toArray n dd f) #[d,W,#[_,d,W],?_])
 by_cases L:k=1
 .subst L;show Xb F.slot_tuple_mul #[_,d,W] F.entry_tuple_mul (F.args_tuple_mul_2 _ _) (Av a e.toArray n dd f t) #[d,#[.ref a,H,I,W,C W]]
 .show Xb F.slot_tuple_mul #[_,d,W] F.entry_tuple_mul (F.args_tuple_mul_2 _ _) (Ad a e.toArray n dd f k t () () ?_ (by rw[UE];ext)) #[d,?_]
  .cases e with
   |nil=>ext r;show bg W O
   |cons y R=>rfl
  .let N:Zu (λp o=>p++o) #v[] (Us ((k:Nat):Int).toNat e.toArray)=(Us k e).flatten.toArray:=by
    let:=rh e k [];rw[ZF]at this;rw[Vz];show this
   rw[N];show#[.ref s.heap.objs.size,_,I.laid (λb S q=>c5 _ q) (Uy _) ?_,W,B () _ (I.Wf.fresh (Uy _))];show#[?_,_,r.rep k,abi.new _ _];rw[CK];show Vn (ab3 M J) ()
def MH(K:lD):R2:=λx y H Q=>Gd K x y H Q\/MR K x y H Q
theorem t6:OpR X (Wj .Mult) (MH X.K):=OpR.or KP MB
def gG:D->D->cv RV
 |.tuple xs,.int k=>if xs≠[]/\1<=k/\k<=1000/\xs.length<=1000 then R (.fz (.tuple (Us k.toNat xs).flatten))else L
 |d,e=>Fj d e
def qG{K:lD}:nV K (MH K) gG:=by
 intro O H x y o j l Q n f d e q;unfold gG at e;split at e
 .rename_i ds k
  split at e
  .rename_i g
   ext e;ext d;let(a,xs,rfl,h,b):=FV f;obtain⟨m,rfl⟩:∃m:Nat,k=(m:Int):=#[k.toNat,by ext];rw[Vz]at q;show .inr #[a,m,xs,W,W,h.1,λz=>g.1 (b.ne.mp z),by ext,by ext,by rw[b.length];show g.2.2.2,λe=>?_,λ_=>Fin.aey (b.flat m) n q];subst e;let i:(Us 1 ds).flatten=ds:=by simp
   rw[i]at q;show q.at (.tup h b)
  .ext e
 .show .inl (Lw O H x y o j l Q n f d e q)
end L3
namespace PySem
open Sem (wp)
open Builtin Builtin.Str
def itAt:Bool->Heap->J->J->Nat->Prop
 |true,h,it,a,i=>h.IsTupleIter it a i
 |false,h,it,a,i=>h.IsListIter it a i
def sqAt:Bool->Heap->J->Array M->Prop
 |true,h,a,xs=>h.IsTuple a xs
 |false,h,a,xs=>h.IsList a xs
def oE:Bool->String
 |true=> "tuple_iterator"
 |false=> "list_iterator"
def itAt.ext(x:itAt b h it a i)(e:Heap.ExtBut c h h')(n:it≠c):itAt b h' it a i:=by
 cases b with
 |true=>show Heap.IsTupleIter.extBut x e n
 |false=>show Heap.IsListIter.extBut x e n
def itAt.to(x:itAt b h it a i)(e:∀o,h.get? it=R o->h'.get? it=R o):itAt b h' it a i:=by
 cases b with
 |true=>show Heap.IsTupleIter.at x e
 |false=>show Heap.IsListIter.at x e
def itAt.live(x:itAt b h it a i):∃o,h.get? it=R o/\∀v,o.data≠.cell v:=by
 cases b with
 |true=>let(o,e,_,d):=(show h.IsTupleIter it a i from x);show#[o,e,λv z=>by rw[d]at z;ext z]
 |false=>let(o,e,_,d):=(show h.IsListIter it a i from x);show#[o,e,λv z=>by rw[d]at z;ext z]
def sqAt.ext(x:sqAt b h a xs)(e:Heap.ExtBut c h h')(n:a≠c):sqAt b h' a xs:=by
 cases b with
 |true=>show Heap.IsTuple.extBut x e n
 |false=>show Heap.IsList.extBut x e n
def sqAt.psh(x:sqAt b h a xs)(o:Obj):sqAt b (h.push o) a xs:=by
 cases b with
 |true=>show Heap.IsTuple.push x o
 |false=>show Heap.IsList.push x o
def sqAt.lt(x:sqAt b h a xs):a<h.objs.size:=by
 cases b with
 |true=>let(o,e,_):=(show h.IsTuple a xs from x);show c6 e
 |false=>let(o,e,_):=(show h.IsList a xs from x);show c6 e
section
variable{prog:UY}{w:Vi}{A:Vc}{E:Um->Uv->Prop}{s:Uv}
def tQ(e:itAt b s.heap it l i)(d:sqAt b s.heap l xs)(a:xs[i]?=R x)
  (q:∀c,itAt b c it l (i+1)->Heap.SameBut it s.heap c->Q x {s with heap:=c}):wpAny (model prog w) A (SmallTypes.nextOf (.ref it)) Q E s:=by
 cases b with
 |true=>show kj e d a q
 |false=>show wpAny_nextOf_list_item e d a q
def xS(f:A.handled=L)(g:itAt b s.heap it l i)(d:sqAt b s.heap l xs)(a:xs[i]?=L)
  (q:∀c e,Heap.ExtBut it s.heap c->(∃o,c.get? e=R o/\o.cls=.type "StopIteration")->E (.ref e) {s with heap:=c}):wpAny (model prog w) A (SmallTypes.nextOf (.ref it)) Q E s:=by
 cases b with
 |true=>show iB f g d a q
 |false=>show wpAny_nextOf_list_end f g d a q
def nY(a:sqAt b s.heap l xs)
  (q:Q (.ref s.heap.objs.size) {s with heap:=s.heap.push {cls:=.type (oE b),data:=.fields #v[.ref l,.int 0 0]}}):wpAny (model prog w) A (pyIter (.ref l)) Q E s:=by
 cases b with
 |true=>show WC a q
 |false=>show YM a q
def ER{Q:Um->Uv->Prop}(D:abM z TI TO i1 i2 l1 l2)(V:ac4 s.heap z TI TO .none)
  (hTI:IsPair s.heap TI (.ref i1) (.ref i2)) (hTO:IsPair s.heap TO a b) (h1:itAt b1 s.heap i1 l1 n) (h2:itAt b2 s.heap i2 l2 n) (hl1:sqAt b1 s.heap l1 xs) (Z:sqAt b2 s.heap l2 ys) (hx:xs[n]?=cL x) (hy:ys[n]?=cL y)
  (q:∀k,ac4 k z TI TO (rawInt s.heap.objs.size)->IsPair k TO x y->itAt b1 k i1 l1 (n+1)->itAt b2 k i2 l2 (n+1)->IsPair k s.heap.objs.size x y->k.objs.size=s.heap.objs.size+1->
   (∀c o,c≠z->c≠TO->c≠i1->c≠i2->s.heap.get? c=cL o->k.get? c=cL o)->Q (.ref s.heap.objs.size) {s with heap:=k}):
  wpAny (model prog w) A (U3.«zip.__next__» #[[.ref z],[]]) (λfin s'=>∃v,fin=.done (.ret v)/\Q v s') E s:=by
 show wpAny _ _ (field (.ref z) 2>>=_) _ _ _;show Ld (V4 V W W ?_);show wpAny _ _ (field (.ref z) 3>>=_) _ _ _;show Ld (V4 V W W ?_);show Ld (We hTI W ?_);show wpAny _ _ (SmallTypes.ownedTupleIsFree (.ref z)>>=_) _ _ _;show Ld ?_;ext SmallTypes.ownedTupleIsFree;show Ld (V4 V W W (Uz ?_));simp only[if_true];show Ld (abu ?_);show Ld (V4 V W W ?_);show Ld (Xd V (by simp) λk₁ r f=>?_);let afx:=r;clear r;show Ld ?_;simp only[aeY,ae9,ZE,abU];show Ld (Ld (abm ?_));show wpAny _ _ (SmallTypes.nextOf (.ref i1)>>=_) _ _ _;show Ld (tQ (h1.ext f.extBut D.i1z) (hl1.ext f.extBut D.l1z) hx λk₂ X h=>Uz ?_);let I:=h.extBut _ _ D.TOi1 (f.extBut _ _ D.TOz hTO);show Ld (We I W ?_);show Ld (aaP I λk₃ H g=>?_);let L:=H;clear H;show Ld (Ys (Uz ?_));show Ld (Ld (abm ?_));show wpAny _ _ (SmallTypes.nextOf (.ref i2)>>=_) _ _ _;show Ld (tQ (((h2.ext f.extBut D.i2z).ext h.extBut D.i12.symm).ext g.extBut D.TOi2.symm) (((Z.ext f.extBut D.l2z).ext h.extBut D.l2i1).ext g.extBut D.l2TO) hy λk₄ U j=>Uz ?_);let G:=j.extBut _ _ D.TOi2 L;show Ld (We G W ?_);show Ld (aaP G λd F i=>?_);let m:IsPair d TO x y:=F;clear F;show Ld (Ys (Uz (Uz ?_)));show Ld (We m W ?_);show Ld (wpAny_newTuple ?_);let T:d.objs.size=s.heap.objs.size:=by rw[i.1,j.1,g.1,h.1,f.1]
 let B:=i.extBut _ _ D.TOz.symm (j.extBut _ _ D.i2z.symm (g.extBut _ _ D.TOz.symm (h.extBut _ _ D.i1z.symm afx)));let kp:∀c o,c≠z->c≠TO->c≠i1->c≠i2->s.heap.get? c=cL o->d.get? c=cL o:=λc o M Y c3 c4 e=>
  i.extBut _ _ Y (j.extBut _ _ c4 (g.extBut _ _ Y (h.extBut _ _ c3 (f.extBut _ _ M e))))
 let S:=((X.ext g.extBut D.TOi1.symm).ext j.extBut D.i12).ext i.extBut D.TOi1.symm;let R:=U.ext i.extBut D.TOi2.symm;let X8:=c6 B;show wpAny _ _ (SmallTypes.ownedTupleHandOut (.ref z) (.ref d.objs.size)>>=_) _ _ _;show Ld ?_;ext SmallTypes.ownedTupleHandOut;let P:ac4 (d.push {cls:=.type "tuple",data:=.seq #v[x,y]}) z TI TO .ellipsis:=c5 _ B;show Ld (Xd P (by simp) λk₇ O u=>?_);let K:=O;show Xd K (by simp) λp N t=>?_;let l:=N;let up:∀c o,c≠z->d.get? c=cL o->p.get? c=cL o:=λc o M e=>t.extBut _ _ M (u.extBut _ _ M (c5 _ e));let C:=t.extBut _ _ (VQ X8) (u.extBut _ _ (VQ X8) (da _ W));let J:p.objs.size=d.objs.size+1:=by rw[t.1,u.1,dP]
 rw[T]at l C J;show Uz #[_,W,?_];rw[T];show q p l (up _ _ D.TOz m) (S.to λo e=>up _ o D.i1z e) (R.to λo e=>up _ o D.i2z e) C J λc o M Y c3 c4 e=>up c o M (kp c o M Y c3 c4 e)
def HP(S:A.handled=CL)(D:abM z TI TO i1 i2 l1 l2)(k:ac4 s.heap z TI TO .none)
  (L:IsPair s.heap TI (.ref i1) (.ref i2)) (K:IsPair s.heap TO a b) (T:itAt b1 s.heap i1 l1 n) (Y:itAt b2 s.heap i2 l2 n) (C:sqAt b1 s.heap l1 xs) (I:sqAt b2 s.heap l2 ys) (N:xs[n]?=CL\/ys[n]?=CL)
  (q:∀V e,(∀c o,c≠z->c≠TO->c≠i1->c≠i2->s.heap.get? c=cL o->V.get? c=cL o)->(∃o,V.get? e=cL o/\o.cls=.type "StopIteration")->E (.ref e) {s with heap:=V}):
  wpAny (model prog w) A (U3.«zip.__next__» #[[.ref z],[]]) Q E s:=by
 show wpAny _ _ (field (.ref z) 2>>=_) _ _ _;show Ld (V4 k W W ?_);show wpAny _ _ (field (.ref z) 3>>=_) _ _ _;show Ld (V4 k W W ?_);show Ld (We L W ?_);show wpAny _ _ (SmallTypes.ownedTupleIsFree (.ref z)>>=_) _ _ _;show Ld ?_;ext SmallTypes.ownedTupleIsFree;show Ld (V4 k W W (Uz ?_));simp only[if_true];show Ld (abu ?_);show Ld (V4 k W W ?_);show Ld (Xd k (by simp) λR v d=>?_);let G:=v;show Ld ?_;simp only[aeY,ae9,ZE,abU];show Ld (Ld (abm ?_));show wpAny _ _ (SmallTypes.nextOf (.ref i1)>>=_) _ _ _;cases hx:xs[n]? with
 |none=>
  show Ld (xS S (T.ext d.extBut D.i1z) (C.ext d.extBut D.l1z) hx λB e f J=>?_);let(H,h,i):=J;let l:=f _ _ D.i1z.symm G;let ne:e≠z:=λt=>by subst t;rw[l]at h;ext h;simp at i
  show Xd l (by simp) λp _ g=>q p e (λc o F _ M _ t=>g.extBut _ _ F (f _ _ M (d.extBut _ _ F t))) #[H,g.extBut _ _ ne h,i]
 |some x=>
  let X:ys[n]?=CL:=by
   rcases N with t|t
   .rw[hx]at t;ext t
   .show t
  show Ld (tQ (T.ext d.extBut D.i1z) (C.ext d.extBut D.l1z) hx λB U f=>Uz ?_);let m:=f.extBut _ _ D.TOi1 (d.extBut _ _ D.TOz K);show Ld (We m W ?_);show Ld (aaP m λp O g=>?_);show Ld (Ys (Uz ?_));show Ld (Ld (abm ?_));show wpAny _ _ (SmallTypes.nextOf (.ref i2)>>=_) _ _ _;show Ld (xS S (((Y.ext d.extBut D.i2z).ext f.extBut D.i12.symm).ext g.extBut D.TOi2.symm) (((I.ext d.extBut D.l2z).ext f.extBut D.l2i1).ext g.extBut D.l2TO) X λP e u J=>?_);let(H,h,i):=J;let j:=u _ _ D.i2z.symm (g.extBut _ _ D.TOz.symm (f.extBut _ _ D.i1z.symm G));let ne:e≠z:=λt=>by subst t;rw[j]at h;ext h;simp at i
  show Xd j (by simp) λy _ r=>q y e (λc o F c2 M Z t=>r.extBut _ _ F (u _ _ Z (g.extBut _ _ c2 (f.extBut _ _ M (d.extBut _ _ F t))))) #[H,r.extBut _ _ ne h,i]
end
section
variable{X:UY}{w:Vi}{A:Vc}{E:Um->Uv->Prop}{s:Uv}
def Ab(D:abM z TI TO U I l1 l2)(N:ac4 s.heap z TI TO .none)
  (g:IsPair s.heap TI (.ref U) (.ref I)) (f:IsPair s.heap TO a b) (m:itAt b1 s.heap U l1 n) (l:itAt b2 s.heap I l2 n) (e:sqAt b1 s.heap l1 xs) (d:sqAt b2 s.heap l2 ys) (j:xs[n]?=R x) (i:ys[n]?=R y)
  (q:∀k,ac4 k z TI TO (rawInt s.heap.objs.size)->IsPair k TO x y->itAt b1 k U l1 (n+1)->itAt b2 k I l2 (n+1)->IsPair k s.heap.objs.size x y->k.objs.size=s.heap.objs.size+1->
   (∀c o,c≠z->c≠TO->c≠U->c≠I->s.heap.get? c=R o->k.get? c=R o)->Q (R (.ref s.heap.objs.size)) {s with heap:=k}):
  wpAny (model X w) A (pyNext (.ref z)) Q E s:=by
 let h:s.TypeIs (.ref z) "zip":=#[_,N,W];ext pyNext;show Ld (akO (W3 h F.slot_zip_next ?_));show W4 F.slot_zip_next h F.entry_zip_next (ER D N g f m l e d j i λk C B v u t r p=>Uz (q k C B v u t r p)) (F.args_zip_next_1 _)
def Aq(p:A.handled=L)(D:abM z TI TO I C l1 U)(x:ac4 s.heap z TI TO .none)
  (h:IsPair s.heap TI (.ref I) (.ref C)) (g:IsPair s.heap TO a b) (v:itAt b1 s.heap I l1 n) (u:itAt b2 s.heap C U n) (f:sqAt b1 s.heap l1 xs) (d:sqAt b2 s.heap U ys) (i:xs[n]?=L\/ys[n]?=L)
  (q:∀k,(∀c o,c≠z->c≠TO->c≠I->c≠C->s.heap.get? c=R o->k.get? c=R o)->Q L {s with heap:=k}):wpAny (model X w) A (pyNext (.ref z)) Q E s:=by
 let j:s.TypeIs (.ref z) "zip":=#[_,x,W];ext pyNext;show Ld (akO (W3 j F.slot_zip_next ?_));show W4 F.slot_zip_next j F.entry_zip_next (HP p D x h g v u f d i λk e m r=>?_) (F.args_zip_next_1 _);let(o,l,t):=r;show Ld (ab4 #[o,l,t] isSubtype_stop (Uz (q _ m)))
end
abbrev QN(h:Heap)(b1:Bool)(a:J):Heap:=h.push {cls:=.type (oE b1),data:=.fields #v[.ref a,.int 0 0]}
abbrev RD(h:Heap)(b1 d:Bool)(b a:J):Heap:=(QN h b1 b).push {cls:=.type (oE d),data:=.fields #v[.ref a,.int 0 0]}
abbrev RN(h:Heap)(b1 d:Bool)(a b:J):Heap:=(RD h b1 d a b).push {cls:=.type "tuple",data:=.seq #v[.ref h.objs.size,.ref (QN h b1 a).objs.size]}
abbrev QG(h:Heap)(b1 d:Bool)(b a:J):Heap:=(RN h b1 d b a).push {cls:=.type "tuple",data:=.seq #v[.none,.none]}
abbrev TB(h:Heap)(b1 d:Bool)(b a:J):Heap:=(QG h b1 d b a).push {cls:=.type "zip",data:=.fields #v[.none,.bool Uu,.bool Uu,.ref (RD h b1 d b a).objs.size,.ref (RN h b1 d b a).objs.size]}
theorem ur(b1 e:Bool)(a b:J)(xs m:Array M):
  Meets (U3.«zip.__new__» #[[.type "zip",.ref a,.ref b],[]]) (λ_ R s=>sqAt b1 s.heap a xs/\sqAt e s.heap b m/\R (.ok (.ret (.ref (QG s.heap b1 e a b).objs.size))) {s with heap:=TB s.heap b1 e a b}):=
 .of_wp λo w A R s h=>by
  let(q,g,d,n,p):=s;let(i,f,h):=h;let r:=sub_zip;let l:sqAt b1 (Uv.heap #[q,g,d,n,p]) a xs:=i;let j:sqAt e (Uv.heap #[q.push {cls:=.type (oE b1),data:=.fields #v[.ref a,.int 0 0]},g,d,n,p]) b m:=sqAt.psh f _
  wp_walk using nY l,nY j
  show#[_,W,h]
section
variable{X:UY}{w:Vi}{A:Vc}{E:Um->Uv->Prop}{s:Uv}
def B5(e:h.get? it=R {cls:=.type (oE b),data:=.fields #v[.ref l,.int 0 0]}):itAt b h it l 0:=by
 cases b with
 |true=>show#[_,e,W,W]
 |false=>show#[_,e,W,W]
def E7(j:sqAt b1 s.heap l1 xs)(i:sqAt I s.heap C ys)
  (q:∀k,ac4 k (s.heap.objs.size+4) (s.heap.objs.size+2) (s.heap.objs.size+3) .none->IsPair k (s.heap.objs.size+2) (.ref s.heap.objs.size) (.ref (s.heap.objs.size+1))->
   IsPair k (s.heap.objs.size+3) .none .none->itAt b1 k s.heap.objs.size l1 0->itAt I k (s.heap.objs.size+1) C 0->(∀c o,s.heap.get? c=R o->k.get? c=R o)->Q (.ref (s.heap.objs.size+4)) {s with heap:=k}):
  wpAny (model X w) A (call (.type "zip") [.ref l1,.ref C]) Q E s:=by
 show callType_new F.called_zip () (F.typeCall_zip_2 _ _) (F.newCall_zip_2 _ _) (λobj=>F.args_object_init_3 obj _ _) F.entry_zip_new (ur b1 I l1 C xs ys) #[j,i,?_];let h:(QN s.heap b1 l1).objs.size=s.heap.objs.size+1:=dP ..;let g:(RD s.heap b1 I l1 C).objs.size=s.heap.objs.size+2:=by rw[dP,h]
 let f:(RN s.heap b1 I l1 C).objs.size=s.heap.objs.size+3:=by rw[dP,g]
 let n:(QG s.heap b1 I l1 C).objs.size=s.heap.objs.size+4:=by rw[dP,f]
 let u:∀c o,s.heap.get? c=R o->(QN s.heap b1 l1).get? c=R o:=λc o e=>c5 _ e;let m:∀c o,(QN s.heap b1 l1).get? c=R o->(RD s.heap b1 I l1 C).get? c=R o:=λc o e=>c5 _ e;let d:∀c o,(RD s.heap b1 I l1 C).get? c=R o->(RN s.heap b1 I l1 C).get? c=R o:=λc o e=>c5 _ e;let b:∀c o,(RN s.heap b1 I l1 C).get? c=R o->(QG s.heap b1 I l1 C).get? c=R o:=λc o e=>c5 _ e;let a:∀c o,(QG s.heap b1 I l1 C).get? c=R o->(TB s.heap b1 I l1 C).get? c=R o:=λc o e=>c5 _ e;let l:(TB s.heap b1 I l1 C).get? (QG s.heap b1 I l1 C).objs.size=R _:=da _ W;let p:=a _ _ (da _ W);let r:=a _ _ (b _ _ (da _ W));let t:=a _ _ (b _ _ (d _ _ (da _ W)));let v:=a _ _ (b _ _ (d _ _ (m _ _ (da _ W))));rw[g,f,n]at l;rw[h,g]at r;rw[f]at p;rw[h]at t;rw[n];show#[#[_,l,W],q _ l r p (B5 v) (B5 t) λc o e=>a _ _ (b _ _ (d _ _ (m _ _ (u _ _ e))))]
end
end PySem
namespace L3
open PySem PySem.Spec PyProof.Rows L2
def Bp(b:Bool)(K:lD)(H:Hp)(a:J)(xs:G V):Prop:=match b with
 |true=>X5 K H a xs
 |false=>Yh K H a xs
def Te(K:lD)(b1 b:Bool)(a c:J):It:=
 #[λi H=>∃xs ys x y,Bp b1 K H a xs/\Bp b K H c ys/\xs[i]?=R x/\ys[i]?=R y,
  λi H v d=>∃p x y,H p=L/\v=.ref p/\(∀xs,Bp b1 K H a xs->xs[i]?=R x)/\(∀ys,Bp b K H c ys->ys[i]?=R y)/\d=cy H p (.tup [x,y]),
  λi H=>∃xs ys,Bp b1 K H a xs/\Bp b K H c ys/\(xs.length<=i\/ys.length<=i)]
def KQ(I:Inv X pins σ H s)(h:Yh X.K H a xs)(g:Yh X.K H a ys):xs=ys:=by
 let(e,r1,(o,k,i,_,n,d1),_):=I.list h;let(b,f,(l,p,d,_,m,j),_):=I.list g;rw[i]at d;ext d;let:e=b:=by
  let q:e.toArray=b.toArray:=by injection d1.symm.trans j
  simpa using q
 subst this;show r1.inj f
def lw(I:Inv X pins σ H s)(h:Bp b X.K H a xs):∃c,Vals xs c/\sqAt b s.heap a c.toArray:=by
 cases b with
 |true=>let(c,e,p,d):=I.tuple h;show#[c,e,p]
 |false=>let(c,e,p,d):=I.list h;show#[c,e,p.isList]
def xF(I:Inv X pins σ H s)(e:Bp b X.K H a xs)(d:Bp b X.K H a ys):xs=ys:=by
 cases b with
 |true=>show D6 I e d
 |false=>show KQ I e d
def FH{ch:G J}(I:Inv X pins σ H s)(f:∀b∈ch,om X pins H b)
  (k:∀b u,b∉ch->s.heap.get? b=R u->C.get? b=R u):Inv X pins σ H {s with heap:=C,toks:=U}:=by
 let d:∀b u,H b=R u->b∉ch:=λb u e z=>by rw[(f b z).1]at e;ext e
 show I.step (λb i=>?_) (λb u _ _ a e _=>k b u a e) (λb u _ _ a e _=>#[u.slots,k b u a e]) (λ_ _ _ _ n=>n)
  (λb u a e=>#[u,k b u a e]) (λ_ _ e=>e) (λ_ _ _ e=>e) (λb y e=>#[#v[],by rw[e];simp]) (λm hm=>?_) (λb u e=>?_) I.bare
 .let(_,p,_,o,l,j):=f b i;show#[o,p,l,j]
 .let(g,t,w,h,r):=hm;show#[g,t,w,k _ g (λz=>(f _ z).2.1 W) h,r]
 .show(I.Wf b u e).adq (λc v a q=>k c v ?_ q) (λ_ q=>q) λ_ _ q=>q
  rcases a with z|z
  .rw[z];show d b u e
  .show d c _ z
theorem Jm{K:lD}{V}(b1 b2:Bool)(z TI TO B A S R:Uw)(D:abM z TI TO B A S R):
  Turn Pz0 w K (.Tuple elts V tp) (Te K b1 b2 S R) [z,TI,TO,B,A] z (λi h=>ac4 h z TI TO .none/\IsPair h TI (.ref B) (.ref A)/\(∃a b,IsPair h TO a b)/\itAt b1 h B S i/\itAt b2 h A R i) where
 mem:=by simp
 obj:=λi h e b d=>by
  let(l,g,(a,c,m),r,p):=e;simp only[UJ,Vy,or_false]at d;rcases d with rfl|rfl|rfl|rfl|rfl
  .show#[_,l,λv q=>by cases(show abt.fields _=abt.cell v from q)]
  .show#[_,g,λv q=>by cases(show abt.seq _ _=abt.cell v from q)]
  .show#[_,m,λv q=>by cases(show abt.seq _ _=abt.cell v from q)]
  .show r.live
  .show p.live
 keep:=λi h h' e k=>by let(l,g,(a,c,m),r,p):=e;show#[k z (by simp) _ l,k TI (by simp) _ g,#[a,c,k TO (by simp) _ m],r.to λo q=>k B (by simp) o q,p.to λo q=>k A (by simp) o q]
 item:=by
  intro X hP Y hK hc i j s σ H E I L e hg;subst hP Y hK;let(l,g,(a,c,m),r,p):=e;let(xs,ys,x,y,J,G,hx,hy):=hg;let(Vg,N,Q):=lw I J;let(F,M,O):=lw I G;let(u,hu,ru):=N.get hx;let(t,ht,rt):=M.get hy;show Ab D l g m r p Q O (by simpa using hu) (by simpa using ht) λk z1 o1 g1 g2 pr sz kp=>#[_,W,?_];show wpAny_letOwnedTupleGo_zip z1 λC z2 e2=>?_;let T:=c6 l;let hIl:=c6 g;let hOl:=c6 m;let h1l:B<s.heap.objs.size:=by let(_,q,_):=r.live;show c6 q
  let h2l:A<s.heap.objs.size:=by let(_,q,_):=p.live;show c6 q
  let hn:=I.Wf.fresh (Uy _);let V:∀b o,b∉[z,TI,TO,B,A]->s.heap.get? b=cL o->C.get? b=cL o:=λb o d q=>by simp only[UJ,Vy,or_false,not_or]at d;show(e2.2 b d.1).trans (kp b o d.1 d.2.2.1 d.2.2.2.1 d.2.2.2.2 q)
  let hT2:=(e2.2 _ (VQ T)).trans pr
  let I2:Inv X j σ (cy H s.heap.objs.size (.tup [x,y])) {s with heap:=C}:=
   I.Y5 L V (Uy _) #[by show 2<=UG;decide,[u,t],.cons ru (.cons rt .nil),#[_,hT2,#[W,_,W],W]]
  let f:∀b o,b≠z->k.get? b=cL o->C.get? b=cL o:=λb o n q=>(e2.2 b n).trans q;show#[.ref s.heap.objs.size,_,I2,W,#[_,x,y,hn,W,λzs Z=>by rw[xF I Z J];show hx,λzs Z=>by rw[xF I Z G];show hy,W],
   #[z2,f _ _ D.TIz (kp _ _ D.TIz D.TITO D.TIi1 D.TIi2 g),#[_,_,f _ _ D.TOz o1],g1.to λo q=>f _ _ D.i1z q,g2.to λo q=>f _ _ D.i2z q],λb d=>?_]
  let hb2:b<s.heap.objs.size:=by simp only[UJ,Vy,or_false]at d;rcases d with rfl|rfl|rfl|rfl|rfl<;>assumption
  rw[bG (UP hb2)];show(L b d).1
 done:=by
  intro X hP Y hK hc i j s σ H E I L e hg;subst hP Y hK;let(l,g,(a,c,m),r,p):=e;let(xs,ys,J,G,U):=hg;let(Vg,N,Q):=lw I J;let(F,M,O):=lw I G;let hl1:=N.length;let hl2:=M.length;let hd:Vg.toArray[i]?=CL\/F.toArray[i]?=CL:=by
   rcases U with q|q
   .show .inl (by simp;ext)
   .show .inr (by simp;ext)
  show Aq (I.ok.hd hc) D l g m r p Q O hd λk kp=>#[W,?_];show FH I L λb o d q=>by simp only[UJ,Vy,or_false,not_or]at d;show kp b o d.1 d.2.2.1 d.2.2.2.1 d.2.2.2.2 q
 self:=λ_ _ _ _ _ e h=>ahe e.1 h
def Fu(n b a:Nat)(e:b<n)(d:a<n):abM (n+4) (n+2) (n+3) n (n+1) b a:=by constructor<;>(show(_:Nat)≠_;ext)
def NH(K:lD)(e:TA):TI:=λd H R=>e d H λg b=>∃a c b1 f,g=[.ref a,.ref c]/\(∃xs,Bp b1 K b a xs)/\(∃ys,Bp f K b c ys)/\R (Te K b1 f a c) b
def HH:Vu "zip"=R (.type "zip"):=by left
def Gs{k}(O:Gl X "zip")(hm:X.mg "zip"=CL)(x:PA X [l,m] ta)(L:U4 [l,m] X.env=(Uu,eval l X.env)::U4 [m] X.env:=by rfl)(M:(backTo pos (U4 [m] X.env)).any (·.1)=Uu:=by rfl):
  PI X (.Tuple elts k tp) (.Call (.Name "zip" p) [l,m] [] pos) (NH X.K ta):=by
 intro d s w H R I h;show Call_ (lA I O hm HH (Wk (dS (x pos d s w H _ I h) λU f #[vs,v,i,r1,E]=>?_) L M));let(a,c,b1,S,e,(xs,B),(T,A),q):=E;subst e;let(u,t,rfl,C,rt):=Nb r1;ext C;ext rt;let(Vg,Z,o):=lw i B;let(J,Y,n):=lw i A;let Q:∀b∈[f.heap.objs.size+4,f.heap.objs.size+2,f.heap.objs.size+3,f.heap.objs.size,f.heap.objs.size+1],om X d v b:=λb r=>by
  let g:f.heap.objs.size<=b:=by simp only[UJ,Vy,or_false]at r;let P:=r;ext
  show i.abQ g (i.Wf.fresh g)
 show E7 o n λh1 j G F z y N=>?_;show ahe j ?_;show#[f.heap.objs.size+4,_,_,_,v,W,i.kept N,Jm b1 S _ _ _ _ _ a c (Fu _ _ _ o.lt n.lt),#[j,G,#[_,_,F],z,y],Q,q]
def OT:Vr->Bool
 |.Starred _ _=>P
 |_=>Uu
def r6(e:Vr)(a:G Vr)(env:Env)(h:OT e=Uu):U4 (e::a) env=(Uu,eval e env)::U4 a env:=by ext e<;>first|rfl|ext h
def pp:G D->G D->G D
 |x::r,y::q=>.tuple [x,y]::pp r q
 |_,_=>[]
theorem AA:∀(xs a:G D),(pp xs a).length=min xs.length a.length
 |[],_=>by simp[pp]
 |_::_,[]=>by simp[pp]
 |_::r,_::q=>by simp only[pp,UL,AA r q];ext
theorem zO:∀(xs a:G D) (i:Nat),(pp xs a)[i]?=(xs[i]?).bind λx=>(a[i]?).map λy=>.tuple [x,y]
 |[],_,_=>by simp[pp]
 |x::r,[],i=>by ext i<;>simp[pp]
 |x::r,y::q,0=>by simp[pp]
 |x::r,y::q,i+1=>by simp only[pp,WX];show zO r q i
section
variable{K:lD}{E:XK}{B O Y:cN}{S H U:Hp}{Z:L2.St}{T N:bM}{v:V}
def acn(b:Bool)(O:cN)(K:lD)(H:Hp)(a:J)(xs:G V):Prop:=match b with
 |true=>Zp O K H a xs
 |false=>aaR O K H a xs
def acn.ev(h:acn b O K H a xs)(e:Ev O H Y U):acn b Y K U a xs:=by
 cases b with
 |true=>show Zp.ev h e
 |false=>show aaR.ev h e
def acn.at(h:acn b O K H a xs):Bp b K H a xs:=by
 cases b with
 |true=>show(show Zp O K H a xs from h).1
 |false=>show(show aaR O K H a xs from h).1.sq
def Pe(h:acn b1 O K H a xs)(hd:Wb O K H xs ds)(g:acn b2 O K H c ys)(A:Wb O K H ys es):tz K (Te K b1 b2 a c) O H (pp ds es):=by
 intro Y U e n;let f:=h.ev e;let d:=hd.ev e;let l:=g.ev e;let j:=A.ev e;rw[AA];show#[λi hi=>?_,#[xs,ys,f.at,l.at,?_]]
 .let u:i<ds.length:=by ext
  let r:i<es.length:=by ext
  let(x,z,dx):=d.get (UD u);let(y,w,C):=j.get (UD r);show#[#[xs,ys,x,y,f.at,l.at,z,w],?_];rintro t F ⟨p,I,G,b,rfl,X,Q,rfl⟩;let o:=X xs f.at;let m:=Q ys l.at;rw[z]at o;rw[w]at m;ext o;ext m;show#[bZ b _,.tuple [ds[i],es[i]],?_,.tup #[X5.of bp,λq=>bg q (n p b)] (.cons (dx.ev (Ev.grow (bZ b _))) (.cons (C.ev (Ev.grow (bZ b _))) .nil))];rw[zO,UD u,UD r];rfl
 .rw[hd.length,A.length];ext
def HE(h:DV O K H v d)(q:gk d=R ds):∃b a xs,v=.ref a/\acn b O K H a xs/\Wb O K H xs ds:=by
 cases h with
 |tup h e=>ext q;show#[P,_,_,W,h,e]
 |lst h e=>ext q;show#[Uu,_,_,W,h,e]
 |_=>ext q
def FU(c:FA):FI:=λT=>(c T).bind λa=>(Res.Vm (pA a.2 a.1)).bind λb=>match b.1 with
 |[d,e]=>(Res.Vm (gk d)).bind λds=>(Res.Vm (gk e)).bind λf=>.ok (pp ds f,b.2)
 |_=>.bad
def IH(h:AO K E ta fa):IO K E (NH K ta) (FU fa):=by
 intro B S O Z H T J R w;show h B S O Z H T _ R (w.bind.imp λa b L Q F p A l=>?_);let((ds,g),q,b):=b.Vm;let(C,o,R2,r):=oO A l q;dsimp only at b;cases r with
 |nil=>show b.elim
 |cons n d=>
  cases d with
  |nil=>show b.elim
  |cons d m=>
   cases m with
   |cons _ _=>show b.elim
   |nil=>let(I,j,b):=WR.Vm b;let(fs,i,b):=WR.Vm b;let(b1,z,xs,rfl,f,d1):=HE n j;let(u,y,G,rfl,e,t):=HE d i;show#[z,y,b1,u,W,#[_,f.at],#[_,e.at],b C _ F (p.trans o) R2 (Pe f d1 e t)]
def kH(d e:D):cv RV:=match d,e with
 |.str z,.int i=>if z.length<=1000000 then(mo z.cps.toList i).map λc=>.fz (.str #[#v[c]])else L
 |_,_=>L
def lR:nV K (Sw K) kH:=by
 intro O H x y j f h Q n b a e q;unfold kH at e;split at e
 .split at e
  .rename_i z i d
   cases g:mo z.cps.toList i with
   |none=>rw[g]at e;ext e
   |some c=>rw[g]at e;ext e;ext b;ext a;show .inr (.inr #[z,i,c,W,W,ng d,g,q.at (.str _)])
  .ext e
 .ext e
def BX:G D->cv RV
 |[.str z]=>if z.length<=1000000 then R (.fz (.int z.length))else L
 |_=>L
def nM:Bk K (λxs H Q=>∃x n,xs=[x]/\On K x H n/\Q (.int n) H) BX:=by
 intro O H xs ds g Q n a e q;unfold BX at e;split at e
 .split at e
  .rename_i z b
   ext e;cases a with
   |cons f d=>ext d;ext f;show#[_,z.length,W,#[ng b,W],q.at (.int _)]
  .ext e
 .ext e
def Gk(g:Str->Str->Bool):R2:=λx y H Q=>∃i j,x=.str i/\y=.str j/\Q (.bl (g i j)) H
def fS(g:Str->Str->Bool):D->D->cv RV
 |.str i,.str j=>R (.fz (.bool (g i j)))
 |_,_=>L
def M9:nV K (Gk g) (fS g):=by
 intro O H x y h d f Q n b a e q;unfold fS at e;split at e
 .ext e;ext b;ext a;show#[_,_,W,W,q.at (.bl _)]
 .ext e
def OY(i j:Str):Bool:= !decide (j.cps.toList<i.cps.toList)
def IX:OpR X (VW .LtE) (Gk OY):=by intro a s Z H x y v u Q I d b h;let(i,j,rfl,rfl,q):=h;let(t,rfl):=d;let(e,rfl):=b;show PySem.P.le_str (xZ I q W)
def S7:=fS OY
theorem x0:nV K (Gk OY) S7:=M9
end
end L3
namespace L3
open PySem L2
def TW(N C:bM->Prop)(T:RV->Prop):Res Fl->Prop
 |.ok (.nx a)=>N a
 |.ok (.ct a)=>C a
 |.ok (.rt v)=>T v
 |_=>False
structure Go(r:Res Fl)(N C:bM->Prop)(T:RV->Prop):Prop where
 out:TW N C T r
section
variable{ρ X Z ρ3:bM}{f g:FS}{S:FE}{pv:PV}{d:D}{rv:RV}{U:cn D}{N C:bM->Prop}{T:RV->Prop}
def Go.eq(e:r=r')(h:Go r' N C T):Go r N C T:=by rw[e];show h
def Go.imp(h:Go r N C T)(b:∀ρ,N ρ->N' ρ)(e:∀ρ,C ρ->C' ρ)(a:∀v,T v->T' v):Go r N' C' T':=by
 show#[?_];let h:=h.out;cases r with
 |bad=>show h
 |er x=>show h
 |ok i=>
  cases i with
  |nx r=>show b _ h
  |ct r=>show e _ h
  |rt v=>show a _ h
  |bk r=>show h
def BG(h:Go (f ρ) (λr=>Go (g r) N C T) C T):Go (bv f g ρ) N C T:=by
 show#[?_];let h:=h.out;ext bv;cases q:f ρ with
 |bad=>rw[q]at h;show h.elim
 |er x=>rw[q]at h;show h.elim
 |ok a=>
  rw[q]at h;cases a with
  |nx r=>show(show Go (g r) N C T from h).out
  |ct r=>show h
  |rt v=>show h
  |bk r=>show h.elim
theorem Ju(b:S ρ=.ok (pv,X))(a:gt pv X=.ok Z)(h:N Z):Go (fy S gt ρ) N C T:=.eq (BW b a W) #[h]
theorem C9(a:S ρ=.ok (pv,X))(h:N X):Go (nh S ρ) N C T:=.eq (D8 a) #[h]
theorem ji(b:S ρ=.ok (pv,X))(a:Fm X pv=R rv)(h:T rv):Go (bK S ρ) N C T:=.eq (yj b a) #[h]
theorem Dn(I:Nat->bM->Prop):∀(U:G D) (k:Nat) (ρ:bM),I k ρ->(∀i d ρ,U[i]?=R d->I (k+i) ρ->∃X,gt (.fz d) ρ=.ok X/\Go (b X) (I (k+i+1)) (I (k+i+1)) T)->Go (sV gt b U ρ) (I (k+U.length)) C T
 |[],k,ρ,h0,_=>#[h0]
 |d::r,k,ρ,h0,u=>by
  let(X,o,a):=u 0 d ρ W h0;let a:=a.out;let l:∀j,I (k+1) j->Go (sV gt b r j) (I (k+(r.length+1))) C T:=λj h=>by
   let e:k+(r.length+1)=k+1+r.length:=by ext
   rw[e];show Dn I r (k+1) j h λi t m w n=>?_;let e:k+1+i=k+(i+1):=by ext
   rw[e]at n⊢;show u (i+1) t m (by simpa using w) n
  show#[?_];show TW _ _ _ ((gt (.fz d) ρ).bind _);rw[o,ej];cases q:b X with
  |bad=>rw[q]at a;show a.elim
  |er x=>rw[q]at a;show a.elim
  |ok p=>
   rw[q]at a;cases p with
   |nx r=>show(l _ a).out
   |ct r=>show(l _ a).out
   |rt v=>show a
   |bk r=>show a.elim
def PZ(I:Nat->bM->Prop)(k:o ρ=.ok (U,X))(j:I 0 X)(a:∀i d ρ,U[i]?=R d->I i ρ->∃X,gt (.fz d) ρ=.ok X/\Go (b X) (I (i+1)) (I (i+1)) T)(e:∀c,I U.length c->N c):Go (pK o gt b ρ) N C T:=by let:=Dn (C:=C) I U 0 X j (by simpa using a);rw[Yt]at this;show .eq (Cs k) (this.imp e (λ_ h=>h) λ_ h=>h)
def JQ(a:U.map (λd=>R (.fz d))++Us (n - U.length) L=ρ)(h:Go (g ρ) (λ_=>T (.fz .none)) (λ_=>False) T):∃rv,dh n g U=.ok rv/\T rv:=by
 let h:=h.out;ext dh;rw[a];cases q:g ρ with
 |bad=>rw[q]at h;show h.elim
 |er x=>rw[q]at h;show h.elim
 |ok b=>
  rw[q]at h;cases b with
  |nx r=>show#[_,W,h]
  |ct r=>show h.elim
  |rt v=>show#[_,W,h]
  |bk r=>show h.elim
def iA(a:U.map (λd=>R (.fz d))++Us (n - U.length) L=ρ)(h:Go (g ρ) (λ_=>RV.fz .none=v) (λ_=>False) (λr=>r=v)):dh n g U=.ok v:=by let(rv,e,b):=JQ (T:=λr=>r=v) a h;rw[e,b]
theorem pJ(b:S ρ=.ok (pv,X))(a:gt pv X=.ok Z)(c:Z=ρ3)(h:Go (g ρ3) N C T):Go (bv (fy S gt) g ρ) N C T:=.eq (JF (BW b a c)) h
theorem yL(b:S ρ=.ok (pv,X))(a:Fm X pv=R rv)(h:T rv):Go (bv (bK S) g ρ) N C T:=.eq (Hm (yj b a)) #[h]
theorem qM(h:Go (g ρ) N C T):Go (bv bQ g ρ) N C T:=.eq W h
def zI(i:c ρ=.ok (b,X))(a:b=P->Go (bv f1 g X) N C T)(h:b=Uu->Go (bv f2 g X) N C T):Go (bv (gF c f1 f2) g ρ) N C T:=by
 let e:bv (gF c f1 f2) g ρ=if b=P then bv f1 g X else bv f2 g X:=by unfold bv gF;rw[i,ej];ext b<;>rfl
 show .eq e ?_;cases b with
 |true=>show a W
 |false=>show h W
theorem PN(I:Nat->bM->Prop)(j:o ρ=.ok (U,X))(h:I 0 X)(a:∀i d ρ,U[i]?=R d->I i ρ->∃X,gt (.fz d) ρ=.ok X/\Go (b X) (I (i+1)) (I (i+1)) T)(e:∀c,I U.length c->Go (g c) N C T):Go (bv (pK o gt b) g ρ) N C T:=
 BG (PZ I j h a e)
def MG(c:Ut.strOk a=P)(e:Ut.strOk b=P):cB (.str a) (.str b)=R (.fz (.bool (a==b))):=by ext cB;rw[show oH (.str a)=P by ext oH;rw[show Ut.canLay0 (.str a)=P from c];rfl,show Ut.canLay0 (.str b)=P from e,Xz,av W];rfl
def Nq(b:Ut.strOk a=P):cB (.str a) (.str a)=R (.fz (.bool P)):=by rw[MG b b,eg]
def De(c:Ut.strOk a=P)(e:Ut.strOk b=P)(h:(a==b)=Uu):cB (.str a) (.str b)=R (.fz (.bool Uu)):=by rw[MG c e,h]
def S0(i:Ut.strOk a=P)(h:Ut.strOk b=P)(e:Ut.strOk c=P):mn (.str a) (.tuple [.str b,.str c])=R (.fz (.bool (b==a||c==a))):=by show(if(oH (.str a)&&(Ut.strOk b&&(Ut.strOk c&&P)))=P then R (RV.fz (.bool (Ut.eqv (.str b) (.str a)||(Ut.eqv (.str c) (.str a)||false))))else L)=_;rw[show oH (.str a)=P by ext oH;rw[show Ut.canLay0 (.str a)=P from i];rfl,h,e,aax];rfl
theorem zm{α:Type}{xs:G α}{i:Int}{v:α}(a:0<=i)(h:xs[i.toNat]?=R v):mo xs i=R v:=Pj a h
def Tt(a:0<=i)(h:U[i.toNat]?=R d):bu (.tuple U) (.int i)=R (.fz d):=by show(mo U i).map RV.fz=_;rw[zm a h];rfl
def Ml{s:G Nat}(e:s.Pairwise (·<·))(h:∀k∈s,k<n):s.length<=n:=by
 let:∀(s:G Nat) (a:Nat),s.Pairwise (·<·)->(∀k∈s,a<=k/\k<n)->s.length<=n - a:=by
  intro s
  induction s with
  |nil=>intro a _ _;show V0 _
  |cons x r i=>intro a e h;let(l,j):=VX.mp e;let m:=h x UA;let:=i (x+1) j λk b=>#[l k b,(h k (UC _ b)).2];rw[UL];ext
 show this s 0 e λk b=>#[V0 _,h k b]
def Dl(c:fr ρ=.ok (o,X))(hd:pA X o=R ([d,e],Z))(b:gk d=R I)(a:gk e=R fs):FU fr ρ=.ok (pp I fs,Z):=by ext FU;rw[c,ej,hd,aZ,ej];dsimp only;rw[b,aZ,ej,a,aZ,ej]
def GN{f g:D->D->cv RV}(k:fa ρ=.ok (pa,ρ))(j:fb ρ=.ok (I,ρ))(i:fc ρ=.ok (pc,ρ))(b:sM ρ (d3 pa)=R dx)(a:sM ρ (d3 I)=R o)(c:sM ρ pc=R dz)(h:f dx o=R (.fz (.bool b1)))(e:b1=P->g o dz=R (.fz (.bool b2))):gm f g fa fb fc ρ=.ok (.fz (.bool (b1&&b2)),ρ):=by
 ext gm;rw[k,ej,j,ej];dsimp only;rw[b,aZ,ej,a,aZ,ej,h,aZ,ej];cases b1 with
 |false=>rfl
 |true=>dsimp only;rw[i,ej];dsimp only;rw[a,aZ,ej,c,aZ,ej,e W,aZ,ej];rfl
end
end L3
namespace L3
open PySem PySem.Spec PyProof.Rows L2 PySem.Builtin PySem.Builtin.Str
section
variable{X:Cx}
theorem qK{z:Str}{u:M}(h:RelV (.str z) u):∃t,u=.str z t:=h
def se:QB X "str.startswith" (λx xs H Q=>∃a b,x=.str a/\xs=[.str b]/\Q (.bl (Txt.startswith a b)) H):=by rintro e s h H x xs v i Q I f d ⟨a,b,rfl,rfl,q⟩;let(t,rfl):=qK f;let(u,rfl,g):=d.one;let(j,rfl):=qK g;show PySem.SC.startswith #[.bl _,H,I,W,q]
theorem kR:∀l:G (Str×Tok),Vals ((l.map (·.1)).map V.str) (strValues l)
 |[]=>.nil
 |p::r=>.cons #[p.2,W] (kR r)
theorem xk:∀{a:G Str} {b:G M},Vals (a.map V.str) b->∃l,b=strValues l/\l.map (·.1)=a
 |[],_,.nil=>#[[],W,W]
 |z::r,_,.cons h t=>by let(k,rfl):=qK h;let(l,rfl,e):=xk t;show#[(z,k)::l,W,by rw[UM,e]]
def GZ:V->G V->Hp->VK->Prop:=λx xs H Q=>∃a b,x=.str a/\xs=[.str b]/\(b.length==0)=Uu/\a.length<=UG/\(Txt.split a b).length<=UG/\∀p,H p=L->Q (.ref p) (cy H p (.lst ((Txt.split a b).map V.str)))
def kI:QB X "str.split" GZ:=by
 rintro f s j H x xs v o Q I m h ⟨a,b,rfl,rfl,r,y,w,q⟩;let(t,rfl):=qK m;let(u,rfl,n):=h.one;let(p,rfl):=qK n;let d:∀(l:G (Str×Tok)) (g:Nat),l.map (·.1)=Txt.split a b->EP X f j Q (.ref s.heap.objs.size) {s with heap:=s.heap.push {cls:=.type "list",data:=.seq (strValues l).toArray},toks:=g}:=λl g e=>by let i:=kR l;rw[e]at i;show#[.ref _,_,I.aga (t':=g) i (by rw[Ur];show w),W,q _ I.fresh]
 cases h1:(decide (a.length<b.length)||decide (strKind a<strKind b))with
 |true=>show Xb F.slot_str_split (Y3 _ _ _) F.entry_str_split (F.args_str_split_2 _ _) (meets_str_split_cannot_occur a b t p h1) (d [(a,t)] s.toks (av h1).symm)
 |false=>
  cases hf:(occurrences a b 0 a.length (a.length+1)).isEmpty with
  |true=>show Xb F.slot_str_split (Y3 _ _ _) F.entry_str_split (F.args_str_split_2 _ _) (meets_str_split_not_found a b t p h1 r hf) (d [(a,t)] s.toks ((ax (ne_true_of_eq_false h1)).trans (av hf)).symm)
  |false=>let e:Txt.split a b=partsBetween a (occurrences a b 0 a.length (a.length+1)) b.length:=(ax (ne_true_of_eq_false h1)).trans (ax (ne_true_of_eq_false hf));show Xb F.slot_str_split (Y3 _ _ _) F.entry_str_split (F.args_str_split_2 _ _) (meets_str_split_sep a b t p h1 r hf y (by rw[<-e];show w)) ?_;rw[strsFrom_eq];show d (numbered s.toks _) _ ((numbered_texts _ _).trans e.symm)
def NA(K:lD):V->G V->Hp->VK->Prop:=λx xs H Q=>∃a l b,x=.str a/\xs=[.ref l]/\Yh K H l (b.map V.str)/\JoinOk a b=P/\Q (.str (Txt.join a b)) H
def lB:QB X "str.join" (NA X.K):=by
 rintro e s i H x xs v j Q I g b ⟨a,l,m,rfl,rfl,y,r,q⟩;let(t,rfl):=qK g;let(u,rfl,h):=b.one;ext h;let(p,w,pl,o):=I.list y;let(d,rfl,rfl):=xk w;let f:tooLong ((d.map (·.1)).toArray.foldl (·+·.length+a.length) 0)=Uu:=by unfold JoinOk at r;rwa [aej]at r
 show Xb F.slot_str_join (Y3 _ _ _) F.entry_str_join (F.args_str_join_2 _ _) (meets_str_join_list a t l d f) #[pl.isList,post_join d #[joinFit_length f,λn k=>#[.str _,H,I.tok k,#[_,W],q]]]
def Rv:V->cv Int->cv Int->Hp->VK->Prop:=λx lo a H Q=>∃z,x=.str z/\z.length<=UG/\Q (.str (Txt.slice z lo a)) H
def mF:Q2 X Rv:=by
 rintro b s g H x v o n lo r p Q I m d pl f ⟨z,rfl,w,q⟩;let(t,rfl):=qK m;show#["str",_,F.slot_str_getitem.lookup,Y3 _ _ _,?_];let a:(Txt.slice z lo r).length<=UG/\∀e k,EP X b g Q (.str (Txt.slice z lo r) e) {s with toks:=k}:=#[Vn (Txt.slice_le z _ _) w,λe k=>#[.str _,H,I.tok k,#[_,W],q]];cases pl with
 |none=>cases f with
  |none=>show XT (l:=L) (u:=L) (st:=L) d W (aaq a)
  |int j u=>show XT (l:=L) (u:=R (j,u)) (st:=L) d W (aaq a)
 |int i u=>cases f with
  |none=>show XT (l:=R (i,u)) (u:=L) (st:=L) d W (aaq a)
  |int j h=>show XT (l:=R (i,u)) (u:=R (j,h)) (st:=L) d W (aaq a)
def EK:W6 X (.type "int") (λxs H Q=>∃z n,xs=[.str z]/\Z8 z=R n/\z.length<=640/\Q (.int n) H):=by rintro a s d H xs e Q I r ⟨z,n,rfl,f,g,q⟩;let(u,rfl,b):=ie r;let(t,rfl):=qK b;show ai3 f g #[.int n,H,I.tok _,#[_,W],q]
end
section
variable{X:Cx}
def Tf(x:Str):It:=#[λi _=>i<x.cps.size,λi H v a=>∃c,x.cps[i]?=R c/\v=.str #[#v[c]]/\a=H,λi _=>i=x.cps.size]
theorem xa{P:UY}{w:Vi}{K:lD}{S:Vr}(x:Str)(t:Tok)(a:Uw)(ty:String)
  (D:["enumerate","zip","dict_itemiterator","dict_reverseitemiterator","odict_iterator","itertools.zip_longest","itertools.pairwise"].contains ty=Uu)
  (W:∀A:Vc,A.handled=CL->acr P w A a [a] [a] x.cps.size (SignAt x) (λi h=>h.IsStrIter a ty x t i)) (self:∀(A:Vc) (i:Nat) (s:Uv) (Q:Um->Uv->Prop) (E:Um->Uv->Prop),s.heap.IsStrIter a ty x t i->Q (.ref a) s->wpAny (model P w) A (pyIter (.ref a)) Q E s):
  Turn P w K S (Tf x) [a] a (λi h=>h.IsStrIter a ty x t i) where
 mem:=by simp
 obj:=λi h f b j=>by
  let e:b=a:=by simpa using j
  subst e;let(o,e,c,d):=f;show#[o,e,λv z=>by rw[d]at z;ext z]
 keep:=λi h q f k=>by let(o,e,r):=f;show#[o,k a (by simp) o e,r]
 item:=by intro X F y G C i g s R H E I p f n;subst F y G;let(O,N,U,M,L,J):=p a (by simp);show(W X.A (I.ok.hd C)).item i s _ _ n f λv q l T m kp=>?_;let(c,u,B,rfl):=T;let Y:L2.Inv X g R H {s with heap:=q,toks:=l}:=I.turned (t':=l) (λb o j e=>kp b o (by simpa using j) e) O N M L J;let(o,e,cl,d):=id m;show#[_,rfl,zY (s:={s with heap:=q,toks:=l}) e cl d D #[.str #[#v[c]],H,Y,#[u,rfl],#[c,B,rfl,rfl],m,λb j=>(p b j).1]]
 done:=by intro X F y G C i g s R H E I p f n;subst F y G;let n:i=x.cps.size:=n;subst n;let(O,N,U,M,L,J):=p a (by simp);show(W X.A (I.ok.hd C)).done s _ _ f λq l kp=>#[rfl,I.turned (t':=l) (λb o j e=>kp b o (by simpa using j) e) O N M L J]
 self:=λA i s Q E f h=>self A i s Q E f h
def M7(b:TE):TI:=λa H R=>b a H λx d=>∃z,x=.str z/\R (Tf z) d
def JY{r l:Vr}{m:TE}(u:PE X l m):PI X r l (M7 m):=by
 intro d s p H R I h;show dS (u d s p H _ I h) λv a a=>?_;let(y,j,f,r1,z,e,q):=a;subst e;let(t,rfl):=qK r1;let n:∀b∈[a.heap.objs.size],om X d j b:=λb w=>by
  let e:b=a.heap.objs.size:=by simpa using w
  subst e;show f.abQ (Uy _) (f.Wf.fresh (Uy _))
 cases B:z.cps.all (·<128)with
 |false=>show wpAny_pyIter_wide B ?_;show#[a.heap.objs.size,[a.heap.objs.size],_,_,j,W,f.kept (t':=a.toks) λb o e=>c5 _ e,xa z t _ "str_iterator" () (λA i=>acr.strWide i _ z t) (λ_ _ _ _ _ g h=>wpAny_pyIter_striter_wide g h),#[_,da _ W,W,W],n,q]
 |true=>show wpAny_pyIter_ascii B ?_;show#[a.heap.objs.size,[a.heap.objs.size],_,_,j,W,f.kept (t':=a.toks) λb o e=>c5 _ e,xa z t _ "str_ascii_iterator" () (λA i=>acr.strAscii i _ z t) (λ_ _ _ _ _ g h=>wpAny_pyIter_striter_ascii g h),#[_,da _ W,W,W],n,q]
end
section
variable{K:lD}{E:XK}{B O T:cN}{Y H S:Hp}{Z:L2.St}{U N:bM}{v:V}
def xp:PV->cv Str
 |.fz (.str z)=>R z
 |_=>L
def uE{pv:PV}{z:Str}(p:Zr K Y O Z H U v pv)(e:xp pv=R z):v=.str z:=by
 unfold xp at e;split at e
 .ext e;cases(show DV O K H v (.str z)from p);rfl
 .ext e
def SS(K:lD)(r:V->G V->Hp->VK->Prop)(f:Str->G D->cv RV):Prop:=∀(O:cN) (H:Hp) (z:Str) (xs:G V) (ds:G D) (a:RV) (Q:VK),ot O H->Paired (DX O K H) xs ds->f z ds=R a->Fin O K H Q a->r (.str z) xs H Q
def x5(f:Str->G D->cv RV)(d:FE)(c:FA):FE:=λU=>(d U).bind λa=>(Res.Vm (xp a.1)).bind λz=>(c a.2).bind λb=>(Res.Vm (vZ b.2 b.1)).bind λds=>(Res.Vm (f z ds)).bind λe=>.ok (e.pv,b.2)
def jj{r:V->cn V->Hp->VK->Prop}{f:Str->cn D->cv RV}{to:TE}{g:TA}{h:FE}{c:FA}(p:SS K r f)(q:EO K E to h)(k:AO K E g c):EO K E (Rk K "str" r to g) (x5 f h c):=by intro B Y O Z H U Q R w;show q B Y O Z H U _ R (w.bind.imp λa e I x M y C o=>?_);let(z,i,e):=e.Vm;obtain rfl:=uE o i;show#[W,?_];show k B Y I Z M a.2 _ C (e.bind.imp λb d G xs L u R2 n=>?_);let(ds,l,d):=d.Vm;let(X,j,d):=d.Vm;show p G L z xs ds X Q R2.od (uJ R2 n l) j (lZ R2 λF v J t A m=>d F v J (y.trans (u.trans t)) A m)
def pQ(z:Str):G D->cv RV
 |[.str b]=>R (.fz (.bool (Txt.startswith z b)))
 |_=>L
def nS:SS K (λx xs H Q=>∃a b,x=.str a/\xs=[.str b]/\Q (.bl (Txt.startswith a b)) H) pQ:=by
 intro O H z xs ds h Q n d e q;unfold pQ at e;split at e
 .ext e
  cases d with
  |cons g f=>ext f;ext g;show#[_,_,W,W,q.at (.bl _)]
 .ext e
theorem pZ{O:cN}{H:Hp}:∀a:G Str,Wb O K H (a.map V.str) (a.map .str)
 |[]=>.nil
 |z::r=>.cons (.str z) (pZ r)
def mZ(z:Str):G D->cv RV
 |[.str b]=>if(b.length==0)=Uu/\z.length<=1000000/\(Txt.split z b).length<=1000000 then R (.ow ((Txt.split z b).map .str))else L
 |_=>L
def jJ:SS K GZ mZ:=by
 intro O H z xs ds g Q n b e q;unfold mZ at e;split at e
 .split at e
  .rename_i a
   ext e;cases b with
   |cons f d=>ext d;ext f;show#[_,_,W,W,a.1,ng a.2.1,ng a.2.2,Fin.new (pZ _) q]
  .ext e
 .ext e
def wy:G D->cv (G Str)
 |[]=>R []
 |.str b::r=>(wy r).map (b::·)
 |_=>L
theorem yq{O:cN}{H:Hp}:∀{xs:G V} {ds:G D} {bs:G Str},Wb O K H xs ds->wy ds=R bs->xs=bs.map V.str
 |_,_,_,.nil,e=>by ext e;rfl
 |_,_,bs,.cons (vs:=f) (ds:=r) h t,e=>by
  cases h with
  |str b=>
   let a:(wy r).map (b::·)=R bs:=e;cases q:wy r with
   |none=>rw[q]at a;ext a
   |some d=>rw[q]at a;ext a;rw[yq t q];rfl
  |_=>ext e
def iW(z:Str):G D->cv RV
 |[.list ds]=>(match wy ds with
  |some a=>if JoinOk z a=P then R (.fz (.str (Txt.join z a)))else L
  |none=>L)
 |_=>L
def ki:SS K (NA K) iW:=by
 intro O H z xs ds m Q n g e q;unfold iW at e;split at e
 .rename_i i
  cases l:wy i with
  |none=>rw[l]at e;ext e
  |some f=>
   rw[l]at e;dsimp only at e;split at e
   .rename_i h
    ext e;cases g with
    |cons d b=>ext b;let(a,j,rfl,d,b):=Bh d;let:=yq b l;subst this;show#[z,a,f,W,W,d.sq,h,q.at (.str _)]
   .ext e
 .ext e
def lh:D->cv Int->cv Int->cv RV
 |.str z,lo,a=>if z.length<=1000000 then R (.fz (.str (Txt.slice z lo a)))else L
 |_,_,_=>L
def kh:Tn K Rv lh:=by
 intro O H x lo f g d Q n a e q;unfold lh at e;split at e
 .split at e
  .rename_i b;ext e;ext a;show#[_,W,ng b,q.at (.str _)]
  .ext e
 .ext e
def eR:D->D->cv RV
 |.str i,.str j=>if i.length+j.length<=1000000 then R (.fz (.str (i++j)))else L
 |_,_=>L
def eX:nV K (λx y H Q=>∃i j,x=.str i/\y=.str j/\i.length+j.length<=UG/\Q (.str (i++j)) H) eR:=by
 intro O H x y h f g Q n b a e q;unfold eR at e;split at e
 .split at e
  .rename_i d;ext e;ext b;ext a;show#[_,_,W,W,ng d,q.at (.str _)]
  .ext e
 .ext e
def ON(i j:Str):Bool:= !(U3.Str.occurrences j i 0 j.length 1).isEmpty
def T0:=fS ON
theorem OZ{X:Cx}:OpR X (VW .In) (Gk ON):=Fa
theorem Ds:nV K (Gk ON) T0:=M9
def iG:G D->cv RV
 |[.int i]=>if i.natAbs<10^30 then R (.fz (.str (alF (toString i))))else L
 |_=>L
def FK{n:Nat}(h:n<10^30):n.log2<1920:=by
 by_cases a:n=0
 .subst a;decide
 .let:=(aia (k:=128) a).mpr (UX h ());ext
def jb:Bk K (λxs H Q=>∃i,xs=[.int i]/\i.natAbs.log2<1920/\Q (.str (toString i)) H) iG:=by
 intro O H xs ds g Q n a e q;unfold iG at e;split at e
 .split at e
  .rename_i b
   ext e;cases a with
   |cons f d=>ext d;ext f;show#[_,W,FK b,q.at (.str _)]
  .ext e
 .ext e
def Qj:G D->cv RV
 |[.str z]=>(match Z8 z with
  |some n=>if z.length<=640 then R (.fz (.int n))else L
  |none=>L)
 |_=>L
def DZ:Bk K (λxs H Q=>∃z n,xs=[.str z]/\Z8 z=R n/\z.length<=640/\Q (.int n) H) Qj:=by
 intro O H xs ds h Q n a e q;unfold Qj at e;split at e
 .rename_i z
  cases g:Z8 z with
  |none=>rw[g]at e;ext e
  |some m=>
   rw[g]at e;dsimp only at e;split at e
   .rename_i b
    ext e;cases a with
    |cons f d=>ext d;ext f;show#[_,_,W,g,b,q.at (.int _)]
   .ext e
 .ext e
def ui(z:Str):G D:=z.cps.toList.map λc=>.str #[#v[c]]
def Hn(b:FE):FI:=λU=>(b U).bind λa=>(Res.Vm (xp a.1)).bind λz=>.ok (ui z,a.2)
def Iw{z:Str}:tz K (Tf z) O H (ui z):=by
 intro T S e n;let a:(ui z).length=z.cps.size:=by ext ui;rw[Ur,Vo]
 rw[a];show#[λi f=>#[f,?_],W];rintro x d ⟨c,b,rfl,rfl⟩;show#[Wr.refl _,.str #[#v[c]],?_,.str _];ext ui;rw[UK,ZH,b];rfl
def HU{d:TE}{c:FE}(h:EO K E d c):IO K E (M7 d) (Hn c):=by intro B Y O Z H U m R w;show h B Y O Z H U _ R (w.bind.imp λa b j x l g i f=>?_);let(z,e,b):=b.Vm;obtain rfl:=uE f e;show#[z,W,b j _ l g i Iw]
end
end L3
namespace PySem
open Sem (wp)
open AutoSeq1 (wpAny_loadPart')
open Builtin Builtin.Str
section
variable{X:UY}{w:Vi}{A:Vc}{E:Um->Uv->Prop}{s:Uv}
def zR{T a i:String}{t u:U3}{args:cn Um}{d:cn (Str×Um)}{S:Spec}{Q Q₁:Um->Uv->Prop}(x:TypeCalled T a i)
  (y:checkTypeCall T #[args,d]=pure ⟨⟩) (n:checkBuiltinCall a #[.type T::args,d]=pure ⟨⟩) (q:entryFor table a=R t) (p:entryFor table i=R u) (g:Meets (t #[.type T::args,d]) S) (h:S A.in1 (wants Q₁ E) s)
  (o:∀obj k,Q₁ obj k->k.TypeIs obj T/\argsOk i #[obj::args,d]/\∃U,Meets (u #[obj::args,d]) U/\U A.in1 (wants (λr D=>r=.none/\Q obj D) E) k):wpAny (model X w) A (call (.type T) args d) Q E s:=by
 let(c,L,H):=x.mro;let I:=x.made;let J:=x.sub;show ac1 (codeAny_of_tree ?_);show wpAny _ _ (callAny (.type T) _) _ _ _;show Uz #[adP.quiet_builtin _ (by left),Xj F.entry_type_call ?_];rw[Vc.under_plain (weight_type_call_type T args d) (units_type_call_type T args d)];let N:=x.notType;let M:=x.canCreate
 repeat (any_goals (first|assumption|wp_step))
 show YQ (Yu x.plain q (aaO n (g X w A.in1 _ s h))) λr k m=>?_;cases r with
 |error e=>show m
 |ok G=>
  cases G with
  |ret obj=>
   let(B,K,U,C,l):=o _ _ m;let v:=x.init.lookup;let z:=x.init.bind obj
   repeat (any_goals (first|assumption|wp_step))
   show YQ (Yu x.init.plain p (x.init.check _ _ _ _ _ _ _ _ B K (C X w A.in1 _ k l))) λj D b=>?_;cases j with
   |error e=>show b
   |ok f=>
    cases f with
    |ret r=>let(rfl,O):=b;repeat (any_goals (first|assumption|wp_step))
    |_=>show b.elim
  |_=>show m.elim
end
def rg(a b:M):checkTypeCall "enumerate" #[[a],[("start",b)]]=pure ⟨⟩:=by kernel_rfl
def sN(a b:M):checkBuiltinCall "enumerate.__new__" #[[.type "enumerate",a],[("start",b)]]=pure ⟨⟩:=by kernel_rfl
def yc(a b c:M):argsOk "object.__init__" #[[a,b],[("start",c)]]:=by ext argsOk;rw[signature?_of (id:= "object.__init__") (n:=['_','_','t','i','n','i','_','_']) (o:=['t','c','e','j','b','o']) (by kernel_rfl) F.owner_object];kernel_rfl
def u0{T d:String}{self a b:M}(h:typeLookup (.type T) "__init__"=pure (cL (.builtin "object.__init__")))(hm:Bind.madeBy (.type T)=pure (cL d))(j:(cL d !=cL "object.__new__")=P):
  Meets (U3.«object.__init__» #[[self,a],[("start",b)]]) (λ_ R s=>s.TypeIs self T/\R (.ok (.ret .none)) s):=by
 show Meets.of_wp λe w A R s f=>?_;let(i,g):=f
 repeat (any_goals (first|assumption|wp_step))
 show#[_,W,g]
theorem wg(b:Bool)(l:J)(a:Array M)(t:Tok):
  Meets (U3.«enumerate.__new__» #[[.type "enumerate",.ref l],[("start",.int 1 t)]]) (λ_ R s=>sqAt b s.heap l a/\R (.ok (.ret (.ref (s.heap.objs.size+1))))
   {s with heap:=(s.heap.push {cls:=.type (oE b),data:=.fields #v[.ref l,.int 0 0]}).push {cls:=.type "enumerate",data:=.fields #v[.none,.bool Uu,.ref s.heap.objs.size,rawInt 1,.none,.none]}}):=
 .of_wp λj w A R s h=>by
  let(i,g,d,m,n):=s;let(o,h):=h;let p:=akN;let e:sqAt b (Uv.heap #[i,g,d,m,n]) l a:=o;let f:(i.push {cls:=.type (oE b),data:=.fields #v[.ref l,.int 0 0]}).objs.size=i.objs.size+1:=dP ..
  wp_walk using nY e
  show aib λq=>Uz ?_;split
  .rename_i c _ _ _ _ _
   cases(c==Um.type "enumerate")
   .wp_walk using nY e
    rw[f];show#[_,W,h]
   .wp_walk using nY e
    rw[f];show#[_,W,h]
  .wp_walk using nY e
   rw[f];show#[_,W,h]
section
variable{X:UY}{w:Vi}{A:Vc}{E:Um->Uv->Prop}{s:Uv}
def zg{b:Bool}{l:J}{a:Array M}{t:Tok}{Q:M->Uv->Prop}(i:sqAt b s.heap l a)
  (h:∀j,ac2 j (s.heap.objs.size+1) s.heap.objs.size 1 .none->itAt b j s.heap.objs.size l 0->(∀c o,s.heap.get? c=R o->j.get? c=R o)->Q (.ref (s.heap.objs.size+1)) {s with heap:=j}):
  wpAny (model X w) A (call (.type "enumerate") [.ref l] [("start",.int 1 t)]) Q E s:=by
 show zR (Q₁:=λobj d=>d.TypeIs obj "enumerate"/\Q obj d) F.called_enumerate (rg _ _) (sN _ _) F.entry_enumerate_new F.entry_object_init (wg b l a t) #[i,?_] λobj _ e=>
  #[e.1,yc _ _ _,_,u0 F.called_enumerate.init.lookup F.called_enumerate.made (),e.1,W,e.2]
 let g:(s.heap.push {cls:=.type (oE b),data:=.fields #v[.ref l,.int 0 0]}).objs.size=s.heap.objs.size+1:=dP ..;let f:ac2 ((s.heap.push {cls:=.type (oE b),data:=.fields #v[.ref l,.int 0 0]}).push {cls:=.type "enumerate",data:=.fields #v[.none,.bool Uu,.ref s.heap.objs.size,rawInt 1,.none,.none]}) (s.heap.objs.size+1) s.heap.objs.size 1 .none:=by let:=da (s.heap.push {cls:=.type (oE b),data:=.fields #v[.ref l,.int 0 0]}) (o:={cls:=.type "enumerate",data:=.fields #v[.none,.bool Uu,.ref s.heap.objs.size,rawInt 1,.none,.none]}) W;rw[g]at this;show this
 show#[#[_,f,W],h _ f (B5 (c5 _ (da _ W))) λc o x=>c5 _ (c5 _ x)]
end
end PySem
namespace PySem
open Sem (wp)
open Builtin Builtin.Str
def sqAt.to{b:Bool}{h c:Heap}{a:J}{xs:Array M}(x:sqAt b h a xs)(e:∀o,h.get? a=R o->c.get? a=R o):sqAt b c a xs:=by
 cases b with
 |true=>let(o,f,d):=(show h.IsTuple a xs from x);show#[o,e o f,d]
 |false=>let(o,f,d):=(show h.IsList a xs from x);show#[o,e o f,d]
theorem JZ{prog:UY}{w:Vi}{A:Vc}(b:Bool)(t:A.handled=L)(f l:J)(B:l≠f)(a:Array M):
  Draws prog w A f [f,l] (a.size+1) (λj v=>1<=j/\a[j - 1]?=R v) (λj h=>1<=j/\itAt b h f l (j - 1)/\sqAt b h l a) where
 live:=λ_ _ d=>let#[o,I,_]:=d.2.1.live;#[o,I]
 frame:=λ_ _ _ d p=>#[d.1,d.2.1.to λo e=>p f (by simp) o e,d.2.2.to λo e=>p l (by simp) o e]
 item:=λj s Q E C d u=>by
  let(q,n,m):=d;let r:j - 1<a.size:=by ext
  show tQ n m (x:=a[j - 1]) (by simp[r]) λz i g=>?_;let e:j - 1+1=j+1 - 1:=by ext
  rw[e]at i;show u _ z s.toks #[q,by simp[r]] #[by ext,i,m.ext g.extBut B] g
 done:=λs Q E d y=>by let(q,n,m):=d;rw[YG]at n;show xS t n m (by simp) y
section
variable{M:Model}{A:Vc}{E:Um->Uv->Prop}{s:Uv}{X:Env}
def uY{b:Pos}{T:String}{e:Vr}{d:G aa3}{Q:Um->Uv->Prop}
  (h:wpAny M A (spliced (backTo b (U4 [e] X))) (λm c=>wpAny M A (evalAll ((backToKw b (keywordEach d X)).map (·.2))) (λn k=>wpAny M A (call (.type T) m (((backToKw b (keywordEach d X)).filterMap (·.1)).zip n)) Q E k) E c) E s)
  (l:backTo b (U4 [e] X)=[(Uu,eval e X)]) (i:(backToKw b (keywordEach d X)).all (·.1.isSome)=P) (g:(backToKw b (keywordEach d X)).any (·.1.isNone)=Uu):
  wpAny M A (callWith b (.type T) [] (backTo b (U4 [e] X)) (backToKw b (keywordEach d X))) Q E s:=by
 rw[l]at h⊢;ext callWith;show Ld (Wc (wpAny_mono (aic (Q:=λa c=>wpAny M A (call (.type T) a.pos a.kw) Q E c) i h) (λa c f=>Ld (abk ?_)) λ_ _ x=>x));simp only[g,XA,List.any_nil,aax];show Ld (Uz ?_);show Ld (wpAny_mono f (λr k j=>Ld (Wc (wpAny_point (Uz j)))) λ_ _ x=>x)
end
end PySem
namespace L3
open PySem PySem.Spec PyProof.Rows L2 PySem.Builtin
def PL(K:lD)(b:Bool)(a:J):It:=
 #[λi H=>∃xs x,Bp b K H a xs/\xs[i]?=R x,
  λi H v d=>∃p x,H p=L/\v=.ref p/\(∀xs,Bp b K H a xs->xs[i]?=R x)/\d=cy H p (.tup [.int ((i+1:Nat):Int),x]),
  λi H=>∃xs,Bp b K H a xs/\xs.length=i]
theorem BO{P:UY}{w:Vi}{K:lD}{F:cn Vr}{D}{tp:Pos}(b:Bool)(a e d:Uw)(V:e≠d)(C:a≠d)(Z:a≠e):
  Turn P w K (.Tuple F D tp) (PL K b a) [e,d] e (λi h=>(∃old,ac2 h e d ((i+1:Nat):Int) old)/\itAt b h d a i) where
 mem:=by simp
 obj:=λi h j c n=>by
  let((old,g),hi):=j;rcases UJ.mp n with z|n
  .subst z;show#[_,g,λv z=>by cases(show abt.fields _=abt.cell v from z)]
  .let z:c=d:=by simpa using n
   subst z;show hi.live
 keep:=λi h h' j k=>by let((old,g),f):=j;show#[#[old,k e (by simp) _ g],f.to λo q=>k d (by simp) o q]
 item:=by
  intro X hP R hK n i m s σ H E I M j T;subst hP R hK;let((old,g),f):=j;let(xs,x,L,Q):=T;let(r,rv,p):=lw I L;let(u,hu,ru):=rv.get Q;let X8:i<r.toArray.size:=by
   let:=(Uo.mp hu).1
   simpa using this
  show ad6 (JZ (A:=X.A.in1) b (I.ok.hd n) d a C r.toArray) g #[by ext,by rw[YG];show f,p] () V (by simp[V,Z.symm]) λy h1 J O ho aeH hT hsz hk=>#[_,W,?_];let N:y=u:=by
   let q:r.toArray[i]?=cL u:=by simpa using hu
   let t:=O.2;rw[YG,q]at t;show(UU t).symm
  subst N;show Y4 (s:={s with heap:=h1,toks:=J+1}) ho λh2 U YO=>?_;let B:e<s.heap.objs.size:=c6 g;let S:d<s.heap.objs.size:=by let(_,z,_):=f.live;show c6 z
  let hn:H s.heap.objs.size=CL:=I.Wf.fresh (Uy _);let D:∀c o,c∉[e,d]->s.heap.get? c=cL o->h2.get? c=cL o:=λc o l q=>by let h3:c≠e:=λz=>l (by simp[z]);let h4:c≠d:=λz=>l (by simp[z]);show(YO.2 c h3).trans (hk c o h3 h4 q)
  let hT2:h2.get? s.heap.objs.size=cL {cls:=.type "tuple",data:=.seq #v[.int ((i+1:Nat):Int) J,y]}:=(YO.2 _ (VQ B)).trans hT
  let I2:L2.Inv X m σ (cy H s.heap.objs.size (.tup [.int ((i+1:Nat):Int),x])) {s with heap:=h2,toks:=J+1}:=
   I.Y5 (ch:=[e,d]) M D (Uy _) #[by show 2<=UG;decide,[.int ((i+1:Nat):Int) J,y],.cons #[_,W] (.cons ru .nil),#[_,hT2,#[W,_,W],W]]
  let G:=aeH.2.1;rw[show i+1+1 - 1=i+1 by ext]at G;show#[.ref s.heap.objs.size,_,I2,W,#[_,x,hn,W,λys O=>by rw[xF I O L];show Q,W],#[#[y,U],G.to λo q=>(YO.2 d V.symm).trans q],λc l=>?_];let Y:c≠s.heap.objs.size:=by
   rcases UJ.mp l with z|l
   .rw[z];show UP B
   .rw[show c=d by simpa using l];show UP S
  rw[bG Y];show(M c l).1
 done:=by
  intro X hP R hK n i m s σ H E I M j T;subst hP R hK;let((old,g),f):=j;let(xs,L,Q):=T;let(r,rv,p):=lw I L;let(f0,f1,f2,f3,f4,f5):=M d (by simp);let hl:=rv.length;let ei:i=r.toArray.size:=by rw[UE];ext
  subst ei;show aeh (JZ (A:=X.A.in1) b (I.ok.hd n) d a C r.toArray) g #[by ext,by rw[YG];show f,p] λh1 eb=>#[W,I.turned (t':=s.toks) (λc o l q=>eb c o l q) f0 f1 f3 f4 f5]
 self:=λ_ _ _ _ _ j h=>by let((old,g),_):=j;show Xo g h
def Eo(K:lD)(f:TA):TI:=λe H R=>f e H λg d=>∃a b,g=[.ref a]/\(∃xs,Bp b K d a xs)/\R (PL K b a) d
def zF{X:Cx}{l:Vr}{A:TA}{p f tp v t:Pos}{o:cn Vr}{k}{j:Nat}(N:Gl X "enumerate")(hm:X.mg "enumerate"=CL)(x:PA X [l] A)(J:OT l=Uu:=by rfl):
  PI X (.Tuple o k tp) (.Call (.Name "enumerate" p) [l] [#[cL "start",.Constant (.int 1) j v,t]] f) (Eo X.K A):=by
 intro g s E H R I h;let O:eval (.Call (.Name "enumerate" p) [l] [#[cL "start",.Constant (.int 1) j v,t]] f) X.env=(do callWith f (<-eval (.Name "enumerate" p) X.env) [] (backTo f (U4 [l] X.env)) (backToKw f (keywordEach [#[cL "start",.Constant (.int 1) j v,t]] X.env))):=W;rw[O];show Ld (lA I N hm boot_enumerate (uY (dS (x f g s E H _ I h) λS d #[vs,C,r,r1,G]=>?_) (by rw[r6 _ _ _ J];rfl) W W));let(a,b,e,(xs,L),q):=G;subst e;let(u,rfl,F):=ie r1;ext F;let(T,rv,B):=lw r L;show abv (abp (abI ?_));let U:=r.tok (d.toks+1);let n:a<d.heap.objs.size:=B.lt;let Q:∀c∈[d.heap.objs.size+1,d.heap.objs.size],om X g C c:=λc y=>by
  let m:d.heap.objs.size<=c:=by
   rcases UJ.mp y with z|y
   .rw[z];show X1 _
   .rw[show c=d.heap.objs.size by simpa using y];show Uy _
  show r.abQ m (r.Wf.fresh m)
 show zg (s:={d with toks:=d.toks+1}) B λP i w M=>?_;show Xo (s:={d with heap:=P,toks:=d.toks+1}) i ?_;show#[d.heap.objs.size+1,[d.heap.objs.size+1,d.heap.objs.size],_,_,C,W,r.kept (t':=d.toks+1) M,BO b a _ _ (Zo _) (UP n) (UP (WO n)),#[#[_,i],w],Q,q]
section
variable{K:lD}{E:XK}{B O S:cN}{U H Q:Hp}{T:L2.St}{X N:bM}{v:V}
def HM{b:Bool}{a:J}{xs:G V}{ds:G D}(h:acn b O K H a xs)(hd:Wb O K H xs ds):tz K (PL K b a) O H (eF 1 ds):=by intro S Q e n;let j:=h.ev e;let g:=hd.ev e;rw[hV];show#[λi o=>?_,#[xs,j.at,hd.length]];let(x,l,t):=g.get (UD o);show#[#[xs,x,j.at,l],?_];rintro y m ⟨p,z,f,rfl,r,rfl⟩;let d:=r xs j.at;rw[l]at d;ext d;show#[bZ f _,.tuple [.int ((i+1:Nat):Int),ds[i]],?_,.tup #[X5.of bp,λq=>bg q (n p f)] (.cons (.int _) (.cons (t.ev (Ev.grow (bZ f _))) .nil))];rw[jz,UD o,abf 1 i];rfl
def Gv(c:FA):FI:=λX=>(c X).bind λa=>(Res.Vm (pA a.2 a.1)).bind λb=>match b.1 with
 |[d]=>(Res.Vm (gk d)).bind λds=>.ok (eF 1 ds,b.2)
 |_=>.bad
def Au{e:TA}{c:FA}(h:AO K E e c):IO K E (Eo K e) (Gv c):=by
 intro B U O T H X A R w;show h B U O T H X _ R (w.bind.imp λa d C I y o t j=>?_);let((ds,g),q,d):=d.Vm;let(u,n,R2,p):=oO t j q;dsimp only at d;cases p with
 |nil=>show d.elim
 |cons m l=>
  cases l with
  |cons _ _=>show d.elim
  |nil=>let(z,i,d):=WR.Vm d;let(b,r,xs,rfl,f,d1):=HE m i;show#[r,b,W,#[_,f.at],d u _ y (o.trans n) R2 (HM f d1)]
end
end L3
namespace L2
open PySem PySem.Spec PyProof.Rows
section
variable{X:Type}[DecidableEq X]
def mj(b:G (X×V))(k:X):cv V:=(b.find? λa=>decide (a.1=k)).map (·.2)
def k9(b:G (X×V))(k:X)(v:V):G (X×V):=
 if(b.any λa=>decide (a.1=k))=P then b.map (λa=>if a.1=k then(a.1,v)else a)else b++[(k,v)]
def qY(b:G (X×V))(k:X):G (X×V):=b.filter λa=>decide (a.1≠k)
def vx{k:X}(e:p.1=k):mj (p::r) k=R p.2:=by simp[mj,Ws,e]
def uS{k:X}(e:¬p.1=k):mj (p::r) k=mj r k:=by simp[mj,Ws,e]
theorem zT(k:X):∀a:G (X×V),(a.any λb=>decide (b.1=k))=(mj a k).isSome
 |[]=>rfl
 |p::r=>by
  rw[XA];by_cases e:p.1=k
  .simp only[vx e,aP e,Zv,adu]
  .rw[uS e,a6 e,aay];show zT k r
def mJ(a:G (X×V))(k:X)(v:V):(k9 a k v).length<=a.length+1:=by
 ext k9;split
 .rw[Ur];ext
 .rw[UB,UL,W5];ext
def ZI.aaT(r:ZI o u):o.isSome=u.isSome:=by
 cases o with
 |none=>cases u with
  |none=>rfl
  |some _=>show(show False from r).elim
 |some _=>cases u with
  |none=>show(show False from r).elim
  |some _=>rfl
def KV.val{i:G (X×V)}{c:G (X×M)}(r:KV i c)(k:X):ZI (mj i k) (valueAt c k):=by
 unfold KV at r
 induction r with
 |nil=>show True.intro
 | @cons p q l g h t j=>
  let(d,f):=h;by_cases e:p.1=k
  .let a:q.1=k:=d.symm.trans e
   let b:valueAt (q::g) k=R q.2:=by simp[valueAt,Ws,a]
   rw[vx e,b];show f
  .let a:¬q.1=k:=λz=>e (d.trans z)
   let b:valueAt (q::g) k=valueAt g k:=by simp[valueAt,Ws,a]
   rw[uS e,b];show j
def KV.any(r:KV U8 vs)(k:X):(U8.any λb=>decide (b.1=k))=vs.any λb=>decide (b.1=k):=by
 unfold KV at r
 induction r with
 |nil=>rfl
 |cons h t a=>rw[XA,XA,a,h.1]
def KV.agF(r:KV U8 vs)(k:X)(b:RelV y u):
  KV (U8.map λc=>if c.1=k then(c.1,y)else c) (vs.map λc=>if c.1=k then(c.1,u)else c):=by
 unfold KV at r⊢
 induction r with
 |nil=>show .nil
 | @cons p q i g h t f=>
  rw[UM,UM];show .cons ?_ f;let(a,d):=h;by_cases e:p.1=k
  .rw[av e,av (a.symm.trans e)];show#[a,b]
  .rw[ax e,ax (λz=>e (a.trans z))];show#[a,d]
def KV.put(r:KV U8 vs)(k:X)(a:RelV y u):KV (k9 U8 k y) (stored vs k u):=by
 unfold k9 stored;rw[r.any k];by_cases e:(vs.any λb=>decide (b.1=k))=P
 .rw[av e,av e];show r.agF k a
 .rw[ax e,ax e];show Paired.snoc r #[W,a]
def KV.drop(r:KV U8 vs)(k:X):KV (qY U8 k) (without vs k):=by
 unfold KV at r⊢;unfold qY without
 induction r with
 |nil=>show .nil
 | @cons p q l j h t i=>
  let(d,f):=h;rw[Zl,Zl];by_cases e:p.1=k
  .let a:¬decide (p.1≠k)=P:=by simp[e]
   let b:¬decide (q.1≠k)=P:=by simp[d.symm.trans e]
   rw[ax a,ax b];show i
  .let g:¬q.1=k:=λz=>e (d.trans z)
   let a:decide (p.1≠k)=P:=by simp[e]
   let b:decide (q.1≠k)=P:=by simp[g]
   rw[av a,av b];show .cons #[d,f] i
def KV.keys{b:G (X×M)}(r:KV U8 b):U8.map (·.1)=b.map (·.1):=by
 unfold KV at r
 induction r with
 |nil=>rfl
 |cons h t a=>rw[UM,UM,a,h.1]
theorem KV.length(r:KV U8 vs):U8.length=vs.length:=Paired.length r
theorem Jg(a:G (X×V))(k:X):(qY a k).length<=a.length:=WH _ _
end
def wD(r:RelV (kV k) u):(eG a w).is k u=Uq:=by
 cases k with
 |inl i=>let(t,e):=(show∃t,u=Um.int i t from r);subst e;show zU a w i t
 |inr x=>let(t,e):=(show∃t,u=Um.str x t from r);subst e;show zB a w x t
theorem wB:∀{b:G et} {us:G M},Vals (b.map kV) us->ItemsAre (eG a w) b us
 |[],_,r=>by rw[Zt]at r;ext r;show .nil
 |k::b,_,r=>by
  rw[UM]at r;cases r with
  |cons h t=>show .cons (wD h) (wB t)
abbrev KT(H:Hp):G (G et×V)->G (G et×J×M)->Prop:=Paired λp q=>p.1=q.1/\H q.2.1=R (.tup (p.1.map kV))/\RelV p.2 q.2.2
def KT.val(r:KT H U8 xs)(k:G et):ZI (mj U8 k) ((atKey xs k).map (·.2)):=by
 induction r with
 |nil=>show True.intro
 | @cons p q j g h t i=>
  let(d,_,f):=h;by_cases e:p.1=k
  .let a:=d.symm.trans e
   let b:atKey (q::g) k=R q.2:=by simp[atKey,Ws,a]
   rw[vx e,b];show f
  .let a:¬q.1=k:=λz=>e (d.trans z)
   let b:atKey (q::g) k=atKey g k:=by simp[atKey,Ws,a]
   rw[uS e,b];show i
def KT.agF(r:KT H U8 xs)(k:G et)(d:RelV y u):
  KT H (U8.map λc=>if c.1=k then(c.1,y)else c) (xs.map (putAt k u)):=by
 induction r with
 |nil=>show .nil
 | @cons p q j i h t g=>
  rw[UM,UM];show .cons ?_ g;let(a,b,f):=h;ext putAt;by_cases e:p.1=k
  .rw[av e,av (a.symm.trans e)];show#[a,b,d]
  .rw[ax e,ax (λz=>e (a.trans z))];show#[a,b,f]
def KT.put(r:KT H U8 xs)(k:G et)(f:H b=R (.tup (k.map kV)))(a:RelV y u):
  KT H (k9 U8 k y) (storedH xs k b u):=by
 let e:(U8.any λd=>decide (d.1=k))=(atKey xs k).isSome:=by rw[zT,(r.val k).aaT,adR]
 unfold k9 storedH;rw[e];by_cases q:(atKey xs k).isSome=P
 .rw[av q,av q];show r.agF k a
 .rw[ax q,ax q];show Paired.snoc r #[W,f,a]
theorem KT.keeps(r:KT H U8 xs)(a:∀b ys,H b=R (.tup ys)->H' b=R (.tup ys)):KT H' U8 xs:=
 Paired.Yv r λ_ _ z=>#[z.1,a _ _ z.2.1,z.2.2]
section
variable{P:UY}{w:Vi}{H:Hp}{h:Heap}{a:Uw}
theorem NG(ok:HOk P w H h)(e:Rd H a u):ObjOk P w H h a u:=e.ok ok
theorem Bb(ok:HOk P w H h)(e:Rd H a (.dK o)):o.length<=UG/\(a==Xv)=Uu/\∃b,KV o b/\h.DictOf (eG P w) a b:=
 show ObjOk P w H h a (.dK o)from NG ok e
theorem A6(ok:HOk P w H h)(e:H a=R (.dK o)):o.length<=UG/\(a==Xv)=Uu/\∃b,KV o b/\h.DictOf (eG P w) a b:=Bb ok (.inl e)
def xV{c:G et}(ok:HOk P w H h)(e:H a=R (.tup (c.map kV))):(tupleKind (eG P w)).is h c a:=by let(_,g,r,o,f,(d,n,b),_):=(show ObjOk P w H h a (.tup (c.map kV))from ok a _ e);show#[o,g.toArray,n,f,d,b,by simpa using wB r]
def AU(ok:HOk P w H h)(e:Rd H a (.dT C)):C.length<=UG/\(a==Xv)=Uu/\
  ∃xs,KT H C xs/\h.DictOfH (tupleKind (eG P w)) a xs:=by
 let(z,y,xs,r,o,n,u,j,i,g,f,d):=(show ObjOk P w H h a (.dT C)from NG ok e);show#[z,y,xs,r,o,n,u,j,i,g,f,λx b=>?_,d];let all:∀{l:G (G et×V)} {m:G (G et×J×M)},KT H l m->∀x∈m,(tupleKind (eG P w)).is h x.1 x.2.1:=by
  intro l m q
  induction q with
  |nil=>intro x b;show nomatch b
  | @cons p q E B v t A=>
   intro x b;rcases UJ.mp b with e|b
   .subst e;show xV ok (by rw[<-v.1];show v.2.1)
   .show A x b
 show all r x b
theorem Rj(ok:HOk P w H h)(e:H a=R (.dT o)):o.length<=UG/\(a==Xv)=Uu/\
  ∃xs,KT H o xs/\h.DictOfH (tupleKind (eG P w)) a xs:=AU ok (.inl e)
end
def ab7(H:Hp)(a:J)(y:V)(r:cv V):Prop:=
 (∃d k,Rd H a (.dK d)/\y=kV k/\r=mj d k)\/∃d k b,Rd H a (.dT d)/\y=.ref b/\H b=R (.tup (k.map kV))/\r=mj d k
def aet(H:Hp)(a:J)(y v:V)(d:Hp):Prop:=
 (∃e k,H a=R (.dK e)/\y=kV k/\e.length<UG/\d=cy H a (.dK (k9 e k v)))\/
 ∃e k b,H a=R (.dT e)/\y=.ref b/\H b=R (.tup (k.map kV))/\e.length<UG/\d=cy H a (.dT (k9 e k v))
theorem ab7.k{k:et}(e:H a=R (.dK U8)):ab7 H a (kV k) (mj U8 k):=.inl #[U8,k,.inl e,W,W]
theorem aet.k{k:et}(e:H a=R (.dK U8))(b:U8.length<UG):aet H a (kV k) v (cy H a (.dK (k9 U8 k v))):=.inl #[U8,k,e,W,b,W]
section
variable{X:Cx}{Z:cn (Uw×Obj)}{Y:St}{H:Hp}{s:Uv}{a:Uw}{y v:V}{u r:Um}{o:cv V}{A:Vc}{E:Um->Uv->Prop}
def Inv.big(I:Inv X Z Y H s):Xv<s.heap.objs.size:=by let h:=(I.mod.glob.keeps I.bk).lt;show XQ () h
def FD{Q:M->Uv->Prop}(q:A.units+1<cLine)(I:Inv X Z Y H s)(g:ab7 H a y (R v))(n:RelV y u)(h:∀c w,Inv X Z Y H w->RelV v c->Q c w):
  wpAny (model X.prog X.w) A (getItem (.ref a) u) Q E s:=by
 rcases g with⟨S,k,e,m,l⟩|⟨S,k,b,e,m,C,l⟩
 .subst m;let(z,B,N,f,dd):=Bb I.Wf e;let(c,i,d):=ZI.some_of (v:=v) (o:=valueAt N k) (by rw[l];show f.val k);show wpAny_getItem_of (wD n) dd.mapOf i (h c _ (I.tok _) d)
 .subst m;cases(show u=Um.ref b from n);let(z,B,xs,f,dd):=AU I.Wf e;let(c,i,d):=ZI.some_of (v:=v) (o:=(atKey xs k).map (·.2)) (by rw[l];show f.val k);let(p,t,j):=Option.map_eq_some_iff.mp i;show wpAny_getItem_heap (abw q) (xV I.Wf C) dd t ?_;rw[j];show h c _ (I.tok _) d
def Tr{Q:M->Uv->Prop}(m:A.units+1<cLine)(I:Inv X Z Y H s)(g:ab7 H a y o)(j:RelV y u)(h:∀c,Inv X Z Y H c->Q (.bool o.isSome) c):
  wpAny (model X.prog X.w) A (VW .In u (.ref a)) Q E s:=by
 rcases g with⟨p,k,e,i,l⟩|⟨p,k,b,e,i,n,l⟩
 .subst i;let(z,f,t,d,dd):=Bb I.Wf e;show wpAny_in_of (wD j) f dd.mapOf ?_;rw[<-(d.val k).aaT,<-l];show h _ (I.tok _)
 .subst i;cases(show u=Um.ref b from j);let(z,f,xs,d,dd):=AU I.Wf e;show wpAny_in_heap (abw m) (xV I.Wf n) f dd ?_;let q:=(d.val k).aaT;rw[adR]at q;rw[<-q,<-l];show h _ (I.tok _)
theorem yi{c:Heap}{j:Nat}{d:HO}(I:Inv X Z Y H s)(f:Ra (H a))(g:Heap.SameBut a s.heap c)(h:∃q,c.get? a=R q)(new:ObjOk X.prog X.w (cy H a d) c a d):
  Inv X Z Y (cy H a d) {s with heap:=c,toks:=j}:=
 I.write (x:=a) (e:=a) f (.inl W) (λb q i z=>(g.2 b i).trans z) h new
theorem Cw(z:I.length<=UG)(hd:(a==Xv)=Uu)(b:KV I C)(dd:U.DictOf (eG d w) a C):
  ObjOk d w H' U a (.dK I):=#[z,hd,C,b,dd]
def EG{K:Hp}{Q:Unit->Uv->Prop}(L:A.units+1<cLine)(I:Inv X Z Y H s)(g:aet H a y v K)(C:RelV y u)(D:RelV v r)(h:∀x,Inv X Z Y K x->Q ⟨⟩ x):
  wpAny (model X.prog X.w) A (setItem (.ref a) u r) Q E s:=by
 rcases g with⟨w,k,e,t,l,B⟩|⟨w,k,b,e,t,J,l,B⟩
 .subst t B
  let(z,p,vs,d,dd):=A6 I.Wf e;let j:vs.length<=UG:=by rw[<-d.length];show z
  let n:(k9 w k v).length<=UG:=by let:=mJ w k v;ext
  show wpAny_setItem_pairs (hsz:=j) (wD C) dd λF f m=>h _ ?_;let M:∃q,F.get? a=cL q:=let#[q,_,_,i,_]:=f;#[q,i]
  show yi I (by rw[e];show True.intro) m M (Cw n p (d.put k D) f)
 .subst t B
  cases(show u=Um.ref b from C);let(z,p,xs,d,dd):=Rj I.Wf e;let j:xs.length<=UG:=by rw[<-Paired.length d];show z
  let n:(k9 w k v).length<=UG:=by let:=mJ w k v;ext
  show wpAny_setItem_heap (hsz:=j) (abw L) (xV I.Wf J) dd λF f m=>h _ ?_;let(q,S,T,i,R,P,O,_,N):=f;show yi I (by rw[e];show True.intro) m #[q,i] #[n,p,_,(d.put k J D).keeps λc U G=>?_,q,S,T,i,R,P,O,N];rw[bG (Rx G e (λz=>nomatch z))];show G
end
section
variable{X:Cx}{Z:cn (Uw×Obj)}{U:St}{H:Hp}{s:Uv}{a:Uw}{Y:cn (et×V)}{k:et}{u:Um}{A:Vc}{E:Um->Uv->Prop}
def Q7{v:V}{b:G M}{Q:M->Uv->Prop}(I:Inv X Z U H s)(e:H a=R (.dK Y))(g:RelV (kV k) u)(l:mj Y k=R v)(hm:b=[]\/∃x,b=[x])
  (h:∀c C,Inv X Z U (cy H a (.dK (qY Y k))) C->RelV v c->Q c C):wpAny (model X.prog X.w) A (call (.builtin "dict.pop") (.ref a::u::b)) Q E s:=by
 let(z,y,w,d,dd):=A6 I.Wf e;let(c,m,j):=ZI.some_of (v:=v) (o:=valueAt w k) (by rw[<-l];show d.val k);let p:(keyPart u).isSome=P:=by
  cases k with
  |inl i=>let(t,q):=(show∃t,u=Um.int i t from g);subst q;rfl
  |inr x=>let(t,q):=(show∃t,u=Um.str x t from g);subst q;rfl
 let S:argsOk "dict.pop" #[.ref a::u::b,[]]:=by
  rcases hm with q|⟨x,q⟩
  .subst q;show PySem.F.args_dict_pop_2 _ _
  .subst q;show PySem.F.args_dict_pop_3 _ _ _
 show call_meetsIn acv dd.typeIs PySem.F.entry_dict_pop S (meets_dict_pop_there (eG X.prog X.w) a (wD g) b hm p)
  #[w,c,dd,by rw[<-d.length];show z,m,λB f n=>h c _ ?_ j]
 let r:∃q,B.get? a=R q:=let#[q,_,_,N,_]:=f;#[q,N]
 show yi I (by rw[e];show True.intro) n r (Cw (Vn (Jg Y k) z) y (d.drop k) f)
end
def QR(i:Vr):Prop:=∀a b,subscripted i Uu a b=operate [a,b] (getItem a b)
def Kx{T id:String}
  (l:typeLookup (.type T) "__getitem__"=pure (R (.builtin id))) (j:QR slice)
  (h:wpAny (model prog w) A (eval value env) (λo k=>wpAny (model prog w) A (eval slice env) (λi c=>c.TypeIs o T/\wpAny (model prog w) A (getItem o i) Q E c) E k) E s):
  wpAny (model prog w) A (eval (.Subscript value slice pos) env) Q E s:=by
 show Subscript_ (wpAny_mono h (λo k f=>wpAny_mono f (λi c a=>?_) λ_ _ x=>x) λ_ _ x=>x);let(g,a):=a;ext subscriptTail;show Ld ?_;rw[getitemInPython_of_ne g.not_modules];show Ld (aid g l ?_);let d:wpAny (model prog w) A (subscripted slice Uu o i) (λr b=>wpAny (model prog w) A (letTemporaryGo value o r>>=λ_=>pure r) Q E b) E c:=by rw[j o i];show wpAny_operating (wpAny_mono a (λr b e=>Ld (wpAny_letTemporaryGo (Uz e))) λ_ _ x=>x)
 first
  |show Uz (Ld d)
  |show Ld (Uz (Ld d))
  |show Ld d
def Ba(I:Inv X pins σ H s)(g:ab7 H a y o):s.TypeIs (.ref a) "dict":=by
 rcases g with⟨d,k,e,_,_⟩|⟨d,k,b,e,_,_,_⟩
 .let(_,_,f,_,dd):=Bb I.Wf e;show dd.typeIs
 .let(_,_,xs,_,dd):=AU I.Wf e;show dd.typeIs
def Ni(e ty:TE):TE:=λb H Q=>e b H λx f=>ty b f λy d=>∃a v,x=.ref a/\ab7 d a y (R v)/\Q v d
def RM(ty e:TE):TE:=λb H Q=>ty b H λy f=>e b f λx d=>∃a o,x=.ref a/\ab7 d a y o/\Q (.bl o.isSome) d
def Na(e ty d:TE):TS:=λD b H=>d b H λv h=>e b h λx g=>ty b g λy f=>∃a i,x=.ref a/\aet f a y v i/\D.nx b i
section
variable{X:Cx}{o i e Z:Vr}{U Y ajL:Pos}{S T tv:TE}
def D3(r:X.A.units+1<cLine)(w:PE X o S)(c:PE X i T)(t:QR i):PE X (.Subscript o i U) (Ni S T):=by intro b s f H Q I h;show Kx PySem.F.slot_dict_getitem.lookup t (dS (w b s f H _ I h) λu l #[x,G,C,n,q]=>dS (c b l f G _ C q) λM L a=>?_);let(y,E,j,m,a,v,z,g,p):=a;subst z;obtain rfl:=n;show#[Ba j g,FD r j g m λJ K B d=>#[v,E,B,d,p]]
def P3(q:X.A.units+1<cLine)(c:PE X i T)(r:PE X o S):PC X .In i o (RM T S):=by intro b s d H Q I h;show dS (c b s d H _ I h) λG f #[y,C,z,j,n]=>dS (r b f d C _ z n) λu F a=>?_;let(x,B,w,l,a,p,t,g,m):=a;subst t;obtain rfl:=l;show Tr q w g j λE v=>#[.bl p.isSome,B,v,W,m]
def KC(w:X.A.units+1<cLine)(B:PE X o S)(c:PE X i T)(t:PE X Z tv)(z:Wz Z (R (.Subscript o i Y)) U.line X.env=pure Uu):
  PS X (.Assign [.Subscript o i Y] Z U) (Na S T tv):=by
 intro b s d H D I h;show wpAny_Assign_Subscript (dS (t b s d H _ I h) λr j #[v,Mz0,A,rv,q]=>dS (B b j d Mz0 _ A q) λu f #[x,L0,G,m,p]=>dS (c b f d L0 _ G p) λP O a=>?_) z;let(y,Q,F,l,a,K,C,g,n):=a;subst C;obtain rfl:=m;show EG w F g l rv λN E=>#[d,K,E,n]
end
def re(c a:G (et×V)):G (et×V):=a.foldl (λb d=>k9 b d.1 d.2) c
def KV.merge:∀{a:G (et×V)} {b:G (et×M)} {d:G (et×V)} {c:G (et×M)},KV a b->KV d c->KV (re d a) (merged c b):=by
 intro a b d c r;unfold KV at r
 induction r generalizing d c with
 |nil=>intro q;show q
 | @cons p q i g h t f=>
  intro r0;let e:KV (k9 d p.1 p.2) (stored c q.1 q.2):=by let:=r0.put p.1 h.2;rw[<-h.1];show this
  show f e
theorem oo:∀(a c:G (et×V)),(re c a).length<=c.length+a.length
 |[],c=>by show c.length<=c.length+0;ext
 |p::r,c=>by let d:=oo r (k9 c p.1 p.2);let b:=mJ c p.1 p.2;show(re (k9 c p.1 p.2) r).length<=_;rw[UL];ext
structure M1(X:Cx)(o:Vr)(m:Str)(apos:Pos)(e:Vr)(Yx:Pos):Prop where
 base:attributeBase o m X.env (eval o X.env)=eval o X.env
 few:((backTo Yx (U4 [e] X.env)).all (λx=> !x.1)&&(backToKw Yx (keywordEach [] X.env)).all (λx=>x.1.isSome)
  &&decide (([e]:G Vr).length+([]:G aa3).length+(if([]:G aa3).isEmpty then 0 else 1)<30))=P
 line:(apos.endLine==Yx.line)=P
 trees:backTo Yx (U4 [e] X.env)=[(Uu,eval e X.env)]
structure M2(X:Cx)(o:Vr)(m:Str)(apos:Pos)(e f:Vr)(Yx:Pos):Prop where
 base:attributeBase o m X.env (eval o X.env)=eval o X.env
 few:((backTo Yx (U4 [e,f] X.env)).all (λx=> !x.1)&&(backToKw Yx (keywordEach [] X.env)).all (λx=>x.1.isSome)
  &&decide (([e,f]:G Vr).length+([]:G aa3).length+(if([]:G aa3).isEmpty then 0 else 1)<30))=P
 line:(apos.endLine==Yx.line)=P
 trees:backTo Yx (U4 [e,f] X.env)=[(Uu,eval e X.env),(Uu,eval f X.env)]
def T4(H:Hp)(a:J):Prop:=(∃b,Rd H a (.dK b))\/∃b,Rd H a (.dT b)
def N2(I:Inv X pins σ H s)(d:T4 H a):
  s.TypeIs (.ref a) "dict"/\(∀b,Um.ref a=.ref b->∃c,s.heap.get? b=R c/\c.dict=L)/\(a==Xv)=Uu:=by
 rcases d with⟨i,e⟩|⟨i,e⟩
 .let(_,f,j,_,dd):=Bb I.Wf e;show#[dd.typeIs,λb q=>?_,f];ext q;let(c,_,_,h,g,_):=dd;show#[c,h,g.2.1]
 .let(_,f,xs,_,dd):=AU I.Wf e;show#[dd.typeIs,λb q=>?_,f];ext q;let(c,_,_,h,g,_):=dd;show#[c,h,g.2.1]
def IT(f ty:TE):TE:=λb H Q=>f b H λx e=>∃a,x=.ref a/\T4 e a/\ty b e λy d=>∃g k v,d a=R (.dK g)/\y=kV k/\mj g k=R v/\Q v (cy d a (.dK (qY g k)))
section
variable{X:Cx}{o e f:Vr}{Z U:Pos}{T ty tx:TE}
def IZ(A:PE X o T)(B:PE X e ty)(m:M1 X o "pop" Z e U):PE X (.Call (.Attribute o "pop" Z) [e] [] U) (IT T ty):=by intro b s i H Q I h;show wpAny_Call_method m.base m.few m.line YR acv PySem.F.type_dict_pop (dS (A b s i H _ I h) λu q a=>?_);let(x,F,j,t,a,E,d,z):=a;subst E;obtain rfl:=t;let(p,n,_):=N2 j d;show#[p,n,?_];rw[m.trees];show Calls.callWith_builtin W (Calls.evalArgs_plain (Calls.spliced_cons (dS (B b q i F _ j z) λP O a=>?_)));let(y,S,K,r,U8,k,v,G,C,l,w):=a;show Calls.spliced_nil ?_;subst C;show Q7 K G r l (.inl W) λM N J g=>#[v,_,J,g,w]
end
end L2
namespace L4
open PySem PySem.Spec PyProof.Rows L2 L3
structure Lft(l:G Env)(e:J)(hd:cv J)(h h':Heap):Prop where
 keep:∀b o,h.get? b=R o->b≠e->hd≠R b->b∉FX l->h'.get? b=R o
 slot:∀b o,h.get? b=R o->b≠e->hd≠R b->∃sl,h'.get? b=R {o with slots:=sl}
 here:∀b o,h.get? b=R o->∃o',h'.get? b=R o'
section
variable{P:UY}{w:Vi}{K:lD}{I:Str->cv Um}{S:Heap}{N:cn Str}{Q:Str}{U:Yr}{f:Uw}{C:Um}{A:Vc}{T:cn Env}{B:Uv}{z:Hp}{E:XK}{y:zZ}
  {v:L2.St} {H:Hp} {s:Uv} {u:Heap} {X:Cx}
end
def Ro(K:lD)(C:J)(m:G M):Prop:=∃nm q N bs hd sn sub g col dd f e d b a id,K.lookup C=R (excClassObj nm q C N bs m hd sn sub g col dd f e d b a id)
structure Apart(X:Cx)(a:J):Prop where
 n0:X.s₀.heap.get? a=L
 nL:a≠X.env.locals
 nC:∀y c,X.env.cells.lookup y=R c->c≠a
 nP:∀p∈X.pn,p.1≠a
end L4
namespace L4
open PySem PySem.Spec PySem.W PyProof.Rows L2 L3
section
variable{X:UY}{w:Vi}{A:Vc}{E:Um->Uv->Prop}{h:Heap}{g:Array acZ}{d:Drawn}{t:Nat}{T:OsState}{a C:Uw}{o:Obj}{K:lD}
  {S Q:Str} {N:Uw} {b1 I:cn Um} {d1:Bool} {B:cn Str} {z:cn Um} {y:Bool} {v:cv Bool} {u:cv Uw} {r q p n l:cv Um} {U:String}
structure akE(K:lD)(C:J)(m:G M):Prop where
 cl:Ro K C m
 be:m.contains (.type "BaseException")=P
 ga:findIn K (.ref C) "__getattribute__"=R (R (.builtin "BaseException.__getattribute__"))
 gt:findIn K (.ref C) "__getattr__"=R L
 cs:findIn K (.ref C) "__class__"=R (R (.builtin "object.__class__"))
 ob:mroIn K C (.type "object")=R P
end
end L4
namespace PySem
open Sem (wp)
open PyProof.Rows
section
variable{U:UY}{w:Vi}{A:Vc}{E:Um->Uv->Prop}{s:Uv}{t:Uw}{X:Array (Int×Tok)}
def Bf{Q:M->Uv->Prop}(d:s.heap.IsTuple t (intItems X))
  (h:∀s2:Uv,s2={s with heap:=s.heap.push {cls:=.type "tuple_iterator",data:=.fields #v[.ref t,.int 0 0]}}->
   (s2.heap.IsTupleIter s.heap.objs.size t 0/\s2.heap.IsTuple t (intItems X))->(∀b∈[s.heap.objs.size,t],b<s2.heap.objs.size)->t≠s.heap.objs.size->Q (.ref s.heap.objs.size) s2):
  wpAny (model U w) A (pyIter (.ref t)) Q E s:=by
 let f:t<s.heap.objs.size:=by let(_,e,_):=d;show c6 e
 show WC d (h _ W #[#[_,da _ W,W,W],d.push _] (λb a=>?_) (UP f));show b<(s.heap.push _).objs.size;rw[dP];rcases UJ.mp a with rfl|a
 .show WB _
 .rcases UJ.mp a with rfl|a
  .show WO f
  .ext a
theorem EL{c:Heap}(a:∀b o,b∉[s.heap.objs.size]->(s.heap.push {cls:=.type "tuple_iterator",data:=.fields #v[.ref t,.int 0 0]}).get? b=R o->c.get? b=R o):
  ∀b o,s.heap.get? b=R o->c.get? b=R o:=λb o e=>by
 show a b o (λhm=>?_) (c5 _ e);rcases UJ.mp hm with d|hm
 .show bg (d▸c6 e) (V5 _)
 .ext hm
def BS{Q:M->Uv->Prop}(m:A.handled=L)(g:s.heap.IsTuple t (intItems X))(p:0<X.size)
  (h:∀v c k,(intItems X)[argBest (λi j=>decide (numAt X i>numAt X j)) (X.size - 1)]?=R v->(∀b o,s.heap.get? b=R o->c.get? b=R o)->Q v {s with heap:=c,toks:=k}):
  wpAny (model U w) A (call (.builtin "max") [.ref t]) Q E s:=by
 show call_max_walk (Bf g λq e f d a=>?_);subst e;show#[_,_,_,_,_,_,_,W,acr.tuple (A:=A.in1) m _ t a (intItems X),f,d,by simpa [intItems]using p,CmpOf.ints_gt (numAt X) (λ_ _=>afa),λv c k n l=>?_];show h v c k (by simpa [intItems]using n) (EL l)
def IY{x:G Um}{ns:G Int}{Q:Um->Uv->Prop}(p:A.handled=L)(g:s.heap.IsTuple t x.toArray)(z:IntsAre x ns)(r:0<ns.length)
  (h:∀k M (u:Tok) c,(∀b o,s.heap.get? b=R o->k.get? b=R o)->M∈ns->(∀a,a∈ns->a<=M)->Q (.int M u) {s with heap:=k,toks:=c}):
  wpAny (model U w) A (call (.builtin "max") [.ref t]) Q E s:=by
 let(X,e):=z.allInts.items;let d:ns=X.toList.map (·.1):=by rw[<-z.numsOf,<-akP,<-e]
 let f:0<X.size:=by let i:=r;rw[d,Ur,Vo]at i;show i
 rw[e]at g;show BS p g f λv k c l m=>?_;let(t,rfl):=afa l;let(y,q):=argBest_gt (numAt X) (X.size - 1);show h _ _ t c m ?_ λa B=>?_
 .rw[d,afb];show getD_mem (by rw[Ur,Vo];ext)
 .rw[d]at B;let(j,n,rfl):=mem_getD B;rw[Ur,Vo]at n;rw[<-afb];show q j ()
end
end PySem
namespace L3
open PySem PySem.Spec PyProof.Rows L2
def M0(K:lD):G V->Hp->VK->Prop:=λxs H Q=>∃(a:J) (b:G Int),xs=[.ref a]/\X5 K H a (b.map V.int)/\0<b.length/\∀M,M∈b->(∀i,i∈b->i<=M)->Q (.int M) H
def EY{X:Cx}(i:X.calm=P):W6 X (.builtin "max") (M0 X.K):=by intro b s m H xs n Q I r h;let(a,p,rfl,e,w,q):=h;let(u,rfl,r1):=ie r;ext r1;let(v,d,f,_):=I.tuple e;show IY (I.ok.hd i) f (jM d) w λt M u o g l j=>#[.int M,H,I.kept g,#[_,W],q M l j]
def Gp:G Int->Int
 |[]=>0
 |[a]=>a
 |a::r=>if Gp r<=a then a else Gp r
theorem IW:∀{ns:G Int},0<ns.length->Gp ns∈ns/\∀i,i∈ns->i<=Gp ns
 |[a],_=>#[UA,λi h=>by rw[UH.mp h];show Y0 _]
 |a::b::r,_=>by
  let(e,d):=IW (ns:=b::r) (by rw[UL];ext);show(if Gp (b::r)<=a then a else Gp (b::r))∈a::b::r/\∀i,i∈a::b::r->i<=(if Gp (b::r)<=a then a else Gp (b::r));by_cases q:Gp (b::r)<=a
  .rw[av q]
   show#[UA,λi h=>?_];rcases UJ.mp h with z|z
   .omega
   .let:=d i z;ext
  .rw[ax q]
   show#[UC _ e,λi h=>?_];rcases UJ.mp h with z|z
   .omega
   .show d i z
def zy:G D->cv RV
 |[.tuple ds]=>(match pz ds with
  |some a=>if 0<a.length then R (.fz (.int (Gp a)))else L
  |none=>L)
 |_=>L
def Et{K:lD}:Bk K (M0 K) zy:=by
 intro O H xs ds u Q n l e q;unfold zy at e;split at e
 .split at e
  .rename_i b j
   split at e
   .rename_i r
    ext e;cases l with
    |cons o m=>ext m;let(a,t,rfl,d,p):=FV o;rw[nW p j]at d;show#[a,b,W,d.1,r,λM g f=>?_];let(i,h):=IW r;let:M=Gp b:=afE (h M g) (f _ i);subst this;show q.at (.int _)
   .ext e
  .ext e
 .ext e
end L3
namespace L3
open PySem PySem.Spec PyProof.Rows L2
section
variable{K:lD}{E:XK}
end
end L3
namespace L9
open PySem PySem.W PyProof.Rows Builtin Builtin.ObjectAttr
abbrev T5:G M:=[.type "ValueError",.type "Exception",.type "BaseException",.type "object"]
end L9
namespace L9
open PySem PySem.Spec PyProof.Rows L2
structure XC(K:lD)(C B fI:J):Prop where
 obj:∃nm q N bs sn sub ab col dd k0 k1 k2 k3 k5,K.lookup C=R (excClassObj nm q C N bs (.ref B::T5) P sn sub ab col dd k0 k1 k2 k3 k5 "ValueError.__new__")/\PySem.W.nsOkIn K N=P/\UN K N "__init__"=R (R (.ref fI))
 base:PySem.W.excIn K B T5 "ValueError.__new__"=P
 sa:Vw K (.ref C) "__setattr__"=R (R (.builtin "object.__setattr__"))
end L9
namespace L9
open PySem PySem.Spec PySem.W PyProof.Rows L2 L3 L4
section
variable{X:UY}{w:Vi}{A:Vc}{E:Um->Uv->Prop}{h:Heap}{g:Array acZ}{d:Drawn}{t:Nat}{S:OsState}{a C:Uw}{o:Obj}{K:lD}{Q:cv Obj}{U:Str}{v:Um}
  {N I:Str} {B:Uw} {b1 z:cn Um} {d1:Bool} {y:cn Str} {u:cn Um} {r:Bool} {q:cv Bool} {p:cv Uw} {n m l j i:cv Um} {T:String}
end
end L9
namespace L3
open PySem PySem.Spec PyProof.Rows L2
mutual
def TQ:Ut->Bool
 |.tuple ds=>P1 ds
 |.int _=>Uq
 |.str _=>Uq
 |.bool _=>Uq
 |.none=>Uq
 |_=>Uu
def P1:cn Ut->Bool
 |[]=>Uq
 |d::r=>TQ d&&P1 r
end
section
variable{K:lD}{E:XK}{B:cN}{X:Hp}{O Z:cN}{U:L2.St}{H T:Hp}{S:bM}
def Lq(h:X5 K H a xs)(l:H a=R (.lst ys)):X5 K (λ_=>L) a xs:=by
 rcases h with(h|⟨o,h⟩)|h
 .rw[l]at h;ext h
 .rw[l]at h;ext h
 .show .inr h
mutual
theorem LI(f:∀b,O b->¬Z b->∃ys,H b=cL (.lst ys)):∀{v:V} {d:D},DV Z K H v d->TQ d=Uq->DV O K H v d
 |_,_,.Xp,_=>.Xp
 |_,_,.bl b,_=>.bl b
 |_,_,.int i,_=>.int i
 |_,_,.str x,_=>.str x
 |_,_,.tup (a:=a) h hs,e=>.tup ⟨h.1,λz=>by
   by_cases y:Z a
   .exact h.2 y
   .obtain⟨ys,q⟩:=f a z y;exact Lq h.1 q⟩ (Af f hs e)
 |_,_,.lst h hs,e=>by cases e
theorem Af(a:∀b,O b->¬Z b->∃ys,H b=cL (.lst ys)):∀{vs:cn V} {ds:cn D},Wb Z K H vs ds->P1 ds=Uq->Wb O K H vs ds
 |_,_,.nil,_=>.nil
 |_,_,.cons h hs,e=>by have d:=Bool.and_eq_true_iff.mp e;exact .cons (LI a h d.1) (Af a hs d.2)
end
end
end L3
namespace PyProof.Rows
open PySem
section
variable{X:UY}{w:Vi}{A:Vc}{E:Um->Uv->Prop}{s:Uv}
def uB(b:h.get? a=R (seqObj "list" o.toArray n)):∃e,(sortedHeap h a o out).get? a=R (seqObj "list" out e):=by let d:=get?_update_seq b (λ_=> #v[]);show#[_,get?_update_seq (c5 _ (c5 _ d)) _]
theorem sG(d:b≠a)(e:h.get? b=R o):(sortedHeap h a C out).get? b=R o:=
 (dg _ _ (d0 d)).trans (c5 _ (c5 _ ((dg _ _ (d0 d)).trans e)))
def Ch{l:J}{c:G M}{ns:G Int}{Q:M->Uv->Prop}(i:s.heap.IsTuple l c.toArray)(u:IntsAre c ns)(g:c.length<64)
  (h:∀(a k:Heap) (out:Array M) (e:Nat) (d:G Int),(∀b o,s.heap.get? b=R o->a.get? b=R o)->k.get? a.objs.size=R (seqObj "list" out e)->(∀b o,a.get? b=R o->k.get? b=R o)->IntsAre out.toList d->d.Perm ns->d.Pairwise (·<=·)->Q (.ref a.objs.size) {s with heap:=k}):
  wpAny (model X w) A (call (.builtin "sorted") [.ref l]) Q E s:=by
 let(o,j,t,n,r):=i;show Calls.call_function_entry kind_sorted plain_sorted entry_sorted (args_sorted1 _) (Ld (m:=checkCount "sorted" 1 1 _) (Uz (Ld (wpAny_collect_seq l (.inr W) j t r (λa p=>Ld (akQ ?_)) (by rw[UE,Zs];ext)))));let f:(a.push (seqObj "list" c.toArray 0)).get? a.objs.size=R (seqObj "list" c.toArray 0):=da _ W;show Ld (Wc (W4 slot_list_sort #[_,f,W] entry_list_sort (list_sort_tree f u g λout d B y v=>#[_,W,Uz #[_,W,?_]]) (args_list_sort _)));let(e,q):=uB (out:=out) f;show h a _ out e d p q (λb C z=>sG (UP (c6 z)) (c5 _ z)) B y v
end
end PyProof.Rows
namespace L9
open PySem PySem.Spec PyProof.Rows L2 L3
section
variable{K:lD}{E:XK}
def yT:W6 X (.builtin "sorted") (λxs H Q=>∃(p:J) (ns:cn Int),xs=[.ref p]/\X5 X.K H p (ns.map V.int)/\ns.length<64/\∀(l:J) (a:cn Int),H l=L->a.Perm ns->a.Pairwise (·<=·)->Q (.ref l) (cy H l (.lst (a.map V.int)))):=by
 intro g s A H xs B Q I r h;let(p,ns,rfl,o,y,q):=h;let(u,rfl,m):=ie r;ext m;let(G,N,pl,C):=I.tuple o;let t:=N.length;rw[Ur]at t;show Ch pl (jM N) () λz F d e a v w f S i n=>?_;let b:=i.length_eq;let j:=I.kept (t':=s.toks) v;show#[.ref z.objs.size,_,j.laid f (Uy _) ?_,W,q _ a (j.Wf.fresh (Uy _)) i n];show#[?_,d.toList,e,kP S,w];rw[Ur,b];let:(64:Nat)<=UG:=by decide
 ext
theorem zh:W6 X (.builtin "sorted") (λxs H Q=>(∃(p:J) (ns:G Int),xs=[.ref p]/\Yh X.K H p (ns.map V.int)/\ns.length<64/\∀(l:J) (a:G Int),H l=L->a.Perm ns->a.Pairwise (·<=·)->Q (.ref l) (cy H l (.lst (a.map V.int))))\/
  (∃(p:J) (ns:G Int),xs=[.ref p]/\X5 X.K H p (ns.map V.int)/\ns.length<64/\∀(l:J) (a:G Int),H l=L->a.Perm ns->a.Pairwise (·<=·)->Q (.ref l) (cy H l (.lst (a.map V.int))))):=L2.W6.or zw yT
def ju:G D->cv RV
 |[.tuple ds]=>(match pz ds with
  |some a=>if a.length<64 then R (.ow ((mN a).map .int))else L
  |none=>L)
 |ds=>yU ds
def BP:Bk K (λxs H Q=>(∃(p:J) (ns:G Int),xs=[.ref p]/\Yh K H p (ns.map V.int)/\ns.length<64/\∀(l:J) (b:G Int),H l=L->b.Perm ns->b.Pairwise (·<=·)->Q (.ref l) (cy H l (.lst (b.map V.int))))\/
  (∃(p:J) (ns:G Int),xs=[.ref p]/\X5 K H p (ns.map V.int)/\ns.length<64/\∀(l:J) (b:G Int),H l=L->b.Perm ns->b.Pairwise (·<=·)->Q (.ref l) (cy H l (.lst (b.map V.int))))) ju:=by
 intro O H xs ds t Q n f e q;unfold ju at e;split at e
 .split at e
  .rename_i ns h
   split at e
   .rename_i u
    ext e;cases f with
    |cons m j=>ext j;let(a,v,rfl,g,o):=FV m;rw[nW o h]at g;show .inr #[a,ns,W,g.1,u,λl b i d gj=>?_];let r:=nJ (d.trans (gW ns).symm) gj (gv ns);subst r;show q.new (vJ _) l i
   .ext e
  .ext e
 .show .inl (xw O H xs ds t Q n f e q)
end
end L9
namespace LD
open PySem PyProof.Rows L2 L3
mutual
def kd:Ut->Bool
 |.none=>Uq
 |.int _=>Uq
 |.str x=>Ut.strOk x
 |.tuple xs=>Bo xs
 |_=>Uu
def Bo:cn Ut->Bool
 |[]=>Uq
 |x::r=>kd x&&Bo r
end
def K4:Ut->Bool
 |.tuple xs=>Bo xs&&decide ((Ut.tuple xs).depth<=8)
 |_=>Uu
mutual
theorem yR:∀d:Ut,kd d=Uq->d.canLay0=Uq
 |.none,_=>rfl
 |.int _,_=>rfl
 |.str x,h=>by unfold Ut.canLay0;unfold kd at h;exact h
 |.tuple xs,h=>by unfold Ut.canLay0;unfold kd at h;exact D0 xs h
 |.bool _,h|.list _,h|.dict _,h=>by simp[kd]at h
theorem D0:∀xs:cn Ut,Bo xs=Uq->Ut.canLayAll0 xs=Uq
 |[],_=>rfl
 |x::r,h=>by unfold Bo at h;rw[UO]at h;unfold Ut.canLayAll0;rw[yR x h.1,D0 r h.2];rfl
end
mutual
theorem HK:∀d e:Ut,kd d=Uq->kd e=Uq->Ut.eqv d e=Uq->d=e
 |.none,e,_,h,q=>by cases e<;>simp_all [kd,Ut.eqv]
 |.int i,e,_,h,q=>by cases e<;>simp_all [kd,Ut.eqv]
 |.str x,e,_,h,q=>by cases e<;>simp_all [kd,Ut.eqv]
 |.tuple xs,e,g,h,q=>by
  cases e with
  |tuple a=>rw[Ut.eqv]at q;unfold kd at g h;rw[Eb xs a g h q]
  |_=>simp_all [kd,Ut.eqv]
 |.bool _,_,h,_,_|.list _,_,h,_,_|.dict _,_,h,_,_=>by simp[kd]at h
theorem Eb:∀xs ys:cn Ut,Bo xs=Uq->Bo ys=Uq->Ut.eqvAll xs ys=Uq->xs=ys
 |[],[],_,_,_=>rfl
 |[],_::_,_,_,q=>by simp[Ut.eqvAll]at q
 |_::_,[],_,_,q=>by simp[Ut.eqvAll]at q
 |x::xs,y::ys,g,h,q=>by unfold Bo at g h;rw[Ut.eqvAll]at q;rw[UO]at g h q;rw[HK x y g.1 h.1 q.1,Eb xs ys g.2 h.2 q.2]
end
def P2[Decidable (d=e)](hd:kd d=P)(a:kd e=P):Ut.eqv d e=decide (d=e):=by
 by_cases q:d=e
 .subst q;rw[aP W];show SeqAt.eqv_refl d (yR d hd)
 .rw[a6 q]
  cases z:Ut.eqv d e with
  |false=>rfl
  |true=>show bg (HK d e hd a z) q
def iO(h:K4 d=P):kd d=P/\d.depth<=8:=by
 cases d with
 |tuple xs=>unfold K4 at h;rw[UO]at h;show#[by ext kd;show h.1,a7 h.2]
 |_=>simp[K4]at h
mutual
def Ay(w:Vi):Ut->Int
 |.none=>reduceHash 0xFCA86420
 |.int i=>hashInt i
 |.str x=>hashStr w x
 |.tuple xs=>reduceHash (U3.Tuple.tupleHashOf (vv w xs))
 |_=>0
def vv(w:Vi):cn Ut->cn Int
 |[]=>[]
 |x::r=>Ay w x::vv w r
end
mutual
def SQ:Ut->Nat
 |.tuple xs=>Mr xs+1
 |_=>1
def Mr:cn Ut->Nat
 |[]=>0
 |x::r=>SQ x+Mr r
end
section
variable{prog:UY}{w:Vi}{E:Um->Uv->Prop}
mutual
theorem Ef:∀(d:Ut) (v:Um) (as:cn Uw) (A:Vc) (s:Uv) (Q:Int->Uv->Prop),kd d=Uq->ac3 s.heap v d as->A.units+d.depth<cLine->Q (Ay w d) {s with toks:=s.toks+SQ d}->wpAny (model prog w) A (pyHash v) Q E s
 |.none,_,_,A,s,Q,_,r,hu,h=>by cases r;exact acS (T:= "NoneType") rfl F.slot_NoneType_hash F.entry_NoneType_hash (F.args_NoneType_hash_1 _) (ahf _) (.inr (by ext)) (Ld (Uz (Ld (wpAny_mkInt (Uz ⟨_,_,rfl,h⟩)))))
 |.int i,_,_,A,s,Q,_,r,_,h=>by cases r;exact ag6 h
 |.str x,_,_,A,s,Q,_,r,_,h=>by cases r;exact ag7 h
 |.tuple xs,_,_,A,s,Q,hk,r,hu,h=>by
  cases r with
  | @tuple a o vs n _ _ h1 h2 h3 h4=>
   refine acS (T:= "tuple") ⟨_,h1,h2⟩ F.slot_tuple_hash F.entry_tuple_hash (F.args_tuple_hash_1 _) (ahf _) (.inr (by ext)) ?_;show wpAny _ _ (U3.Tuple.tupleItemsOf (.ref a)>>=_) _ _ s;refine Ld (wpAny_tupleItemsOf h1 h3 ?_);refine Ld ?_;rw[<-adS];unfold kd at hk;refine xu xs vs.toList _ A.in1 s #v[] _ hk h4 (by simp only[Ut.depth,Vc.in1_units]at hu⊢;ext) λb e=>?_;show wpAny _ _ (retInt (U3.Tuple.tupleHashOf b.toList)) _ _ _;rw[e];refine Ld (wpAny_mkInt (Uz ⟨_,_,rfl,?_⟩));unfold Ay SQ at h
   simpa [aaJ]using h
 |.bool _,_,_,_,_,_,h,_,_,_|.list _,_,_,_,_,_,h,_,_,_|.dict _,_,_,_,_,_,h,_,_,_=>by simp[kd]at h
theorem xu:∀(xs:cn Ut) (vs:cn Um) (as:cn Uw) (A:Vc) (s:Uv) (b:Array Int) (Q:Array Int->Uv->Prop),Bo xs=Uq->aaN s.heap vs xs as->A.units+Ut.depthAll xs<cLine->
  (∀b':Array Int,b'.toList=b.toList++vv w xs->Q b' {s with toks:=s.toks+Mr xs})->
  wpAny (model prog w) A (forIn vs b λx r=>do let h<-pyHash x;pure PUnit.unit;pure (ForInStep.yield (r.push h))) Q E s
 |[],_,_,A,s,b,Q,_,x,_,h=>by cases x;exact Uz (h b (by simp[vv]))
 |k::xs,_,_,A,s,b,Q,hk,x,hu,h=>by
  cases x with
  |cons d a=>
   unfold Bo at hk;simp only[UO,Ut.depthAll]at hk hu;rw[ZE];refine Ld (Ld (Ef k _ _ A s _ hk.1 d (by ext) ?_));refine Ld (Uz (Uz ?_));refine xu xs _ _ A _ _ Q hk.2 a (by ext) λb' e=>?_;have:=h b' (by simp[e,vv]);unfold Mr at this
   simpa [aaJ]using this
end
theorem AW:∀(n:Nat) (d:Ut) (v:M) (as:G J) (A:Vc) (s:Uv) (Q:Bool->Uv->Prop),kd d=P->ac3 s.heap v d as->d.depth<=n->Q P s->wpAny (model prog w) A (eqIsQuiet n v) Q E s
 |n,.none,_,_,A,s,Q,_,r,_,h=>by ext r;rw[abN _ W];show Uz h
 |n,.int i,_,_,A,s,Q,_,r,_,h=>by ext r;rw[abN _ W];show Uz h
 |n,.str i,_,_,A,s,Q,_,r,_,h=>by ext r;rw[abN _ W];show Uz h
 |0,.tuple xs,_,_,A,s,Q,t,r,q,h=>by simp only[Ut.depth]at q;ext
 |n+1,.tuple xs,_,_,A,s,Q,t,r,q,h=>by
  cases r with
  | @tuple a o N m _ _ h1 I C B=>
   let g:s.TypeIs (.ref a) "tuple":=#[_,h1,I];simp only[Ut.depth]at q;ext eqIsQuiet;show Ld (aid g F.slot_tuple_eq.lookup ?_);show Ld (ab4 g isSubtype_tuple_tuple ?_);simp only[acw,XD,if_false];show Ld (We h1 C ?_);show Ld ?_;rw[<-adS];unfold kd at t;show wpAny_forIn_list _ (λb r e=>r.1=L/\e=s/\∃ys bs,Bo ys=P/\aaN s.heap b ys bs/\Ut.depthAll ys<=n) _ ?_ ?_ _ _ #[W,W,xs,_,t,B,by ext]
   .rintro v b r e ⟨f,rfl,ys,bs,l,z,u⟩
    cases z with
    | @cons _ _ y p _ _ g1 g2=>unfold Bo at l;simp only[UO,Ut.depthAll]at l u;show Ld (AW n y v _ A e _ l.1 g1 () ?_);simp only[acw,XD,if_false];show Uz #[W,W,p,_,l.2,g2,by ext]
   .rintro⟨r1,j⟩ e ⟨f,rfl,_⟩;simp only at f;subst f;show Uz h
 |_,.bool _,_,_,_,_,_,h,_,_,_|_,.list _,_,_,_,_,_,h,_,_,_|_,.dict _,_,_,_,_,_,h,_,_,_=>by simp[kd]at h
end
mutual
theorem xq{h h':Heap}{x:Uw}{b:Obj}{i:Array aa1}{j:Nat}(e:h.get? x=cL b)(g:b.data=.dict i j)(f:Heap.SameBut x h h'):∀(d:Ut) (v:Um) (as:cn Uw),kd d=Uq->ac3 h v d as->ac3 h' v d as
 |.none,_,_,_,r=>by cases r;exact .none
 |.int _,_,_,_,r=>by cases r;exact .int _ _
 |.str _,_,_,_,r=>by cases r;exact .str _ _
 |.tuple xs,_,_,k,r=>by
  cases r with
  | @tuple a o vs n _ _ h1 h2 h3 h4=>
   have l:a≠x:=by rintro rfl;rw[e]at h1;cases h1;rw[g]at h3;exact nomatch h3
   unfold kd at k;exact .tuple ((f.2 a l).trans h1) h2 h3 (vS e g f xs _ _ k h4)
 |.bool _,_,_,h,_|.list _,_,_,h,_|.dict _,_,_,h,_=>by simp[kd]at h
theorem vS{h h':Heap}{x:Uw}{a:Obj}{i:Array aa1}{j:Nat}(b:h.get? x=cL a)(f:a.data=.dict i j)(e:Heap.SameBut x h h'):∀(ds:cn Ut) (vs:cn Um) (as:cn Uw),Bo ds=Uq->aaN h vs ds as->aaN h' vs ds as
 |[],_,_,_,r=>by cases r;exact .nil
 |d::ds,_,_,k,r=>by
  cases r with
  |cons r1 g=>unfold Bo at k;rw[UO]at k;exact .cons (xq b f e d _ _ k.1 r1) (vS b f e ds _ _ k.2 g)
end
abbrev KD:={d:Ut//K4 d=P}
noncomputable instance kdDec:DecidableEq KD:=λ_ _=>Classical.propDecidable _
def JL(prog:UY)(w:Vi):HeapKind prog w KD where
 is:=λh k a=>∃as,ac3 h (.ref a) k.1 as
 hash:=λk=>Ay w k.1
 draws:=λk=>SQ k.1
 room:=λA=>A.units+8<cLine
 inj:=λ#[_,r] #[_,f]=>Subtype.ext (ac3.unique r _ _ f).1
 keeps:=λ{h l k a d o m n} #[as,r] j hd i=>#[as,xq j hd i k.1 _ _ (iO k.2).1 r]
 pyHash:=λ{A E s k a Q} g #[as,r] q=>Ef k.1 _ as A s Q (iO k.2).1 r (by let:=(iO k.2).2;ext) q
 eqBool:=λ{A E s x y a b Q} g #[as,r] #[bs,f] q=>SeqAt.eqAt_reads x.1 y.1 A s _ _ as bs r f (yR _ (iO x.2).1) (yR _ (iO y.2).1) (by let:=(iO x.2).2;ext) prog w E Q (by
  haveI:Decidable (x.1=y.1):=Classical.propDecidable _
  rw[P2 (iO x.2).1 (iO y.2).1];by_cases e:x=y
  .rw[aP e]at q;rw[aP (ec Subtype.val e)];show q
  .rw[a6 e]at q;rw[a6 λz=>e (Subtype.ext z)];show q)
 quiet:=λ{A E s k a Q} #[as,r] q=>AW 8 k.1 _ as A s Q (iO k.2).1 r (iO k.2).2 q
def Ud(a:J)(xs:G (KD×J×V))(w:Vi)(h:Heap):Prop:=
 (xs.length<=UG/\(a==Xv)=Uu/\(xs.map (·.1)).Nodup)/\∃o b d,h.get? a=R o/\o.ExactDict/\o.data=.dict b d/\Paired (λ(x:KD×J×V) (e:aa1)=>e.hash=Ay w x.1.1/\e.key=.ref x.2.1/\RelV x.2.2 e.val) xs b.toList
abbrev DkO(a:J)(xs:G (KD×J×V)):HO:=.exw (Ud a xs)
abbrev PrD(O:cN)(K:lD)(H:Hp):G (KD×J×V)->G (D×D)->Prop:=
 Paired λx a=>x.1.1=a.1/\L3.DV O K H (.ref x.2.1) a.1/\L3.DV O K H x.2.2 a.2
end LD
namespace L10
open PySem L2 L3
inductive AV where
 |fz (d:D)
 |rf (i:Nat)
inductive SV where
 |fz (d:D)
 |rf (i:Nat)
 |tp (l:G AV)
def AV.sv:AV->SV
 |.fz d=>.fz d
 |.rf i=>.rf i
inductive Cell where
 |lst (xs:G SV)
 |dct (U8:G (et×SV))
 |obj (C:Str) (fs:G (Str×SV))
 |dd (U8:G (D×D))
 |dead
abbrev bC:=G Cell
abbrev b3:=G (cv SV)
inductive RS(α:Type) where
 |ok (a:α) (Z:bC)
 |er (x:Xc) (Z:bC)
 |bad
def RS.bind(r:RS α)(f:α->bC->RS β):RS β:=match r with
 |.ok a Z=>f a Z
 |.er x Z=>.er x Z
 |.bad=>.bad
def RS.Vm(Z:bC):cv α->RS α
 |some a=>.ok a Z
 |none=>.bad
theorem RS.bind_ok(a:α)(Z:bC)(f:α->bC->RS β):(RS.ok a Z).bind f=f a Z:=W
abbrev ek:=@RS.bind_ok
def Lv(α:G J)(Z:bC):cN:=λb=>∃(i:Nat) (c:Cell),α[i]?=R b/\Z[i]?=R c/\c≠Cell.dead
def ow(B:cN)(α:G J)(Z:bC):cN:=λb=>B b\/Lv α Z b
section
variable(O:cN)(K:lD)(H:Hp)(Z:cn Uw)
def AOk(v:V):AV->Prop
 |.fz d=>DV O K H v d
 |.rf i=>∃a,Z[i]?=R a/\v=.ref a
def XI(v:V):SV->Prop
 |.fz d=>DV O K H v d
 |.rf i=>∃a,Z[i]?=R a/\v=.ref a
 |.tp l=>∃a xs,v=.ref a/\Zp O K H a xs/\Paired (AOk O K H Z) xs l
abbrev W8:G V->G SV->Prop:=Paired (XI O K H Z)
def COk(a:J):Cell->Prop
 |.lst xs=>∃d,H a=R (.lst d)/\W8 O K H Z d xs
 |.dct b=>∃ws:G (et×V),H a=R (.dK ws)/\Paired (λ(p:et×V) (q:et×SV)=>p.1=q.1/\XI O K H Z p.2 q.2) ws b
 |.obj C fs=>∃e f ws,UN K UI C=R (R (.ref e))/\H a=R (.ins e f ws)/\Paired (λ(p:Str×V) (q:Str×SV)=>p.1=q.1/\XI O K H Z p.2 q.2) ws fs
 |.dd b=>∃xs,H a=R (LD.DkO a xs)/\LD.PrD O K H xs b
 |.dead=>True
def Xw(a:L2.St)(b:b3):Prop:=a.length=b.length/\∀(i:Nat) (x:SV),b[i]?=R (R x)->∃v,a[i]?=R (R v)/\XI O K H Z v x
end
structure U9(B:cN)(K:lD)(H:Hp)(α:G J)(Z:bC):Prop where
 len:α.length=Z.length
 nd:∀(i j:Nat) (a:J),α[i]?=R a->α[j]?=R a->i=j
 bn:∀a,B a->H a≠L
 ba:∀a,B a->∀i:Nat,α[i]?≠R a
 al:∀(i:Nat) (a:J),α[i]?=R a->H a≠L
 cel:∀(i:Nat) (a:J) (c:Cell),α[i]?=R a->Z[i]?=R c->COk (ow B α Z) K H α a c
structure Wy(α:G J)(Z:bC)(H:Hp)(α':G J)(Z':bC)(H':Hp):Prop where
 pre:∀(i:Nat) (a:J),α[i]?=R a->α'[i]?=R a
 kp:∀b o,H b=R o->¬Lv α Z b->H' b=R o
 lv:∀b,Lv α' Z' b->Lv α Z b\/H b=L
section
variable{B O N:cN}{K:lD}{E:XK}{H U Q M:Hp}{Y X T R:cn Uw}{Z S I L:bC}{t:L2.St}{ρ:b3}{v:V}
theorem Wy.refl:Wy Y Z H Y Z H:=#[λ_ _ h=>h,λ_ _ h _=>h,λ_ h=>.inl h]
def Wy.trans(a:Wy Y Z H T I Q)(b:Wy T I Q R L M):Wy Y Z H R L M:=by
 let d:∀b o,H b=cL o->¬Lv Y Z b->¬Lv T I b:=λb o h n z=>(a.lv b z).elim n λq=>by rw[h]at q;ext q
 show#[λi p h=>b.pre i p (a.pre i p h),λp o h n=>b.kp p o (a.kp p o h n) (d p o h n),λp h=>?_];rcases b.lv p h with h|h
 .show a.lv p h
 .cases q:H p with
  |none=>show .inr W
  |some o=>show .inl (Classical.byContradiction λn=>?_);rw[a.kp p o q n]at h;ext h
theorem Wy.same(s:Wr H U):Wy Y Z H Y Z U:=#[λ_ _ h=>h,λb o h _=>s b o h,λ_ h=>.inl h]
theorem Wy.ev(e:Wy Y Z H X S U):Ev (ow B Y Z) H (ow B X S) U:=λb o h n=>
 #[e.kp b o h λz=>n (.inr z),λz=>z.elim (λq=>n (.inl q)) λq=>(e.lv b q).elim (λq=>n (.inr q)) λq=>by rw[h]at q;ext q]
def AOk.ev(e:Ev O H N U)(p:∀(i:Nat) (a:J),Y[i]?=cL a->X[i]?=cL a)(h:AOk O K H Y v x):AOk N K U X v x:=by
 cases x with
 |fz d=>show DV.ev e h
 |rf i=>let(a,f,b):=h;show#[a,p i a f,b]
def XI.ev(e:Ev O H N U)(p:∀(i:Nat) (a:J),Y[i]?=cL a->X[i]?=cL a)(h:XI O K H Y v x):XI N K U X v x:=by
 cases x with
 |fz d=>show DV.ev e h
 |rf i=>let(a,f,b):=h;show#[a,p i a f,b]
 |tp l=>let(a,xs,f,b,g):=h;show#[a,xs,f,b.ev e,Paired.Yv g λ_ _ q=>q.ev e p]
theorem XI.XB(e:Wy Y Z H X S U)(h:XI (ow B Y Z) K H Y v x):XI (ow B X S) K U X v x:=h.ev e.ev e.pre
theorem W8.XB(e:Wy Y Z H X S U)(h:W8 (ow B Y Z) K H Y vs xs):W8 (ow B X S) K U X vs xs:=Paired.Yv h λ_ _ q=>q.XB e
theorem Xw.XB(e:Wy Y Z H X S U)(h:Xw (ow B Y Z) K H Y t ρ):Xw (ow B X S) K U X t ρ:=#[h.1,λi x q=>let#[v,h1,a]:=h.2 i x q;#[v,h1,a.XB e]]
def COk.ev(e:Ev O H N U)(p:∀(i:Nat) (a:J),Y[i]?=cL a->X[i]?=cL a)(j:∀o,H a=cL o->U a=cL o)(h:COk O K H Y a c):COk N K U X a c:=by
 cases c with
 |lst xs=>let(l,d,b):=h;show#[l,j _ d,Paired.Yv b λ_ _ q=>q.ev e p]
 |dct n=>let(ws,d,b):=h;show#[ws,j _ d,Paired.Yv b λ_ _ q=>#[q.1,q.2.ev e p]]
 |obj C fs=>let(g,m,ws,f,d,b):=h;show#[g,m,ws,f,j _ d,Paired.Yv b λ_ _ q=>#[q.1,q.2.ev e p]]
 |dd n=>let(xs,d,b):=h;show#[xs,j _ d,Paired.Yv b λ_ _ q=>#[q.1,q.2.1.ev e,q.2.2.ev e]]
 |dead=>trivial
theorem U9.noO(s:U9 B K H Y Z):ot (ow B Y Z) H:=λa h z=>z.elim (λq=>s.bn a q h) λ#[i,c,q,_]=>s.al i a q h
theorem U9.owd(s:U9 B K H Y Z):∀a,ow B Y Z a->H a≠CL:=λa z h=>s.noO a h z
def U9.grow(s:U9 B K H Y Z)(e:Wr H U):U9 B K U Y Z:=by let n:∀a,H a≠CL->U a≠CL:=λa h z=>h (e.free z);show#[s.len,s.nd,λa h=>n a (s.bn a h),s.ba,λi a h=>n a (s.al i a h),λi a c d b=>(s.cel i a c d b).ev (Ev.grow e) (λ_ _ h=>h) λo h=>e _ _ h]
def U9.at(s:U9 B K H Y Z){i:Nat}(h:Z[i]?=cL c):∃a,Y[i]?=cL a:=by let:i<Z.length:=(Uo.mp h).1;rw[<-s.len]at this;show#[_,UD this]
theorem U9.afA(s:U9 B K H Y Z){i:Nat}(h:Y[i]?=cL a):¬B a:=λz=>s.ba a z i h
def CD{i:Nat}{c m:Cell}(h:Z[i]?=cL c)(n:c≠.dead)(g:m≠.dead){b:J}:Lv Y (Z.set i m) b↔Lv Y Z b:=by
 constructor
 .rintro⟨j,d,f,a,l⟩
  rcases dE a with⟨rfl,rfl⟩|⟨_,a⟩
  .show#[j,c,f,h,n]
  .show#[j,d,f,a,l]
 .rintro⟨j,d,f,a,l⟩
  by_cases e:j=i
  .subst e;show#[j,m,f,by rw[W2 (Uo.mp h).1],g]
  .show#[j,d,f,by rw[Xl (λz=>e z.symm)];show a,l]
def OX(h:Z[i]?=cL c)(d:c≠.dead)(a:o≠.dead):ow B Y (Z.set i o)=ow B Y Z:=by funext b;show propext #[λz=>z.imp id (CD h d a).mp,λz=>z.imp id (CD h d a).mpr]
theorem Wy.put(j:Y[i]?=cL a)(h:Z[i]?=cL c)(f:c≠.dead)(d:c'≠.dead):Wy Y Z H Y (Z.set i c') (cy H a o):=
 #[λ_ _ h=>h,λb g q n=>by let z:b≠a:=λe=>n #[i,c,by rw[e];show j,h,f];rw[bG z];show q,λb z=>.inl ((CD h f d).mp z)]
def U9.put(s:U9 B K H Y Z)(k:Y[i]?=cL a)(h:Z[i]?=cL c)(m:c≠.dead)(f:c'≠.dead)(new:COk (ow B Y Z) K (cy H a o) Y a c'):U9 B K (cy H a o) Y (Z.set i c'):=by
 let e:Wy Y Z H Y (Z.set i c') (cy H a o):=Wy.put k h m f;let n:∀b,H b≠CL->cy H a o b≠CL:=λb h=>by
  by_cases z:b=a
  .subst z;rw[bp];simp
  .rw[bG z];show h
 show#[by rw[VO];show s.len,s.nd,λb h=>n b (s.bn b h),s.ba,λj b h=>n b (s.al j b h),λj b d g l=>?_];rcases dE l with⟨rfl,rfl⟩|⟨p,l⟩
 .rw[k]at g;ext g;rw[OX h m f];show new
 .show(s.cel j b d g l).ev e.ev e.pre λu q=>by rw[bG (λz=>p (s.nd j i a (by rw[<-z];show g) k))];show q
theorem uw{i:Nat}{a:J}{c:Cell}{o:HO}(d:Y[i]?=cL a)(h:Z[i]?=cL c)(b:c≠.dead):Ev (ow B Y Z) H (ow B Y Z) (cy H a o):=Ev.mut (.inr #[i,c,d,h,b]) o
def dM{Y:Type}{l:G Y}{x y:Y}{i:Nat}(h:(l++[x])[i]?=cL y):l[i]?=cL y\/(i=l.length/\y=x):=by
 by_cases hi:i<l.length
 .rw[U6 hi]at h;show .inl h
 .rw[US ()]at h
  cases q:i - l.length with
  |zero=>rw[q]at h;ext h;show .inr #[by ext,W]
  |succ n=>rw[q]at h;ext h
def i8{Y:Type}{l:G Y}{x y:Y}{i:Nat}(h:l[i]?=cL y):(l++[x])[i]?=cL y:=by rw[U6 (Uo.mp h).1];show h
def bh:(l++[x])[l.length]?=cL x:=by simp
def vR(g:Y.length=Z.length)(h:Lv (Y++[p]) (Z++[c]) b):Lv Y Z b\/b=p:=by
 let(i,d,a,e,f):=h;rcases dM a with a|⟨l,j⟩
 .rcases dM e with e|⟨l,j⟩
  .show .inl #[i,d,a,e,f]
  .let:=(Uo.mp a).1;ext
 .show .inr j
theorem Wy.acP(f:Y.length=Z.length)(s:Wr H U)(d:H p=CL):Wy Y Z H (Y++[p]) (Z++[c]) U:=
 #[λi a h=>i8 h,λb u q _=>s b u q,λb z=>(vR f z).imp id λe=>by rw[e];show d]
def U9.acP(s:U9 B K H Y Z)(e:Wr H U)(l:H p=CL)(m:U p≠CL)(new:COk (ow B (Y++[p]) (Z++[c])) K U (Y++[p]) p c):U9 B K U (Y++[p]) (Z++[c]):=by
 let ev:Wy Y Z H (Y++[p]) (Z++[c]) U:=Wy.acP s.len e l;let n:∀b,H b≠CL->U b≠CL:=λb h z=>h (e.free z);show#[by rw[UB,UB,s.len];rfl,λi j a f g=>?_,λa h=>n a (s.bn a h),λa h i q=>?_,λi a h=>?_,λi a d f g=>?_]
 .rcases dM f with g1|⟨y,r⟩<;>rcases dM g with g2|⟨u,A⟩
  .show s.nd i j a g1 g2
  .show bg (by rw[A];show l) (s.al i a g1)
  .show bg (by rw[r];show l) (s.al j a g2)
  .omega
 .rcases dM q with q|⟨_,r⟩
  .show s.ba a h i q
  .subst r;show s.bn a h l
 .rcases dM h with h|⟨_,r⟩
  .show n a (s.al i a h)
  .subst r;show m
 .rcases dM g with g|⟨y,r⟩
  .rcases dM f with f|⟨y,_⟩
   .show(s.cel i a d f g).ev ev.ev ev.pre λo q=>e _ _ q
   .let:=(Uo.mp g).1;let:=s.len;ext
  .rcases dM f with f|⟨_,u⟩
   .let:=(Uo.mp f).1;let:=s.len;ext
   .subst r u;show new
def WS(K:lD)(E:XK)(B:cN)(H:Hp)(Y:G J)(Z:bC)(P:A->G J->bC->Hp->Prop):RS A->Prop
 |.ok a S=>∀X U,Wy Y Z H X S U->U9 B K U X S->P a X S U
 |.er x S=>∀c b X U,Wy Y Z H X S U->U9 B K U X S->XOk K (ow B X S) U c b x->E c b U
 |.bad=>False
def WS.from(e:Wy Y Z H T I Q)(h:WS K E B H Y Z f r):WS K E B Q T I f r:=by
 cases r with
 |ok a L=>show λR M d b=>h R M (e.trans d) b
 |er x L=>show λc g R M d b=>h c g R M (e.trans d) b
 |bad=>show h
def WS.bind(h:WS K E B H Y Z d (r.bind k)):WS K E B H Y Z (λa T I Q=>WS K E B Q T I d (k a I)) r:=by
 cases r with
 |ok a I=>show λT Q b _=>WS.from b h
 |er x I=>show h
 |bad=>show h
def WS.Vm(h:WS K E B H Y Z b ((RS.Vm Z o).bind k)):∃a,o=cL a/\WS K E B H Y Z b (k a Z):=by
 cases o with
 |none=>show h.elim
 |some a=>show#[a,W,h]
def WS.imp(h:WS K E B H Y Z e r)(g:∀a X S U,Wy Y Z H X S U->U9 B K U X S->e a X S U->P' a X S U):WS K E B H Y Z P' r:=by
 cases r with
 |ok a I=>show λT Q d b=>g a T I Q d b (h T Q d b)
 |er x I=>show h
 |bad=>show h
theorem WS.now(s:U9 B K H Y Z)(h:WS K E B H Y Z b (.ok a Z)):b a Y Z H:=h Y H .refl s
end
abbrev gq:=b3->bC->RS SV
abbrev wq:=b3->bC->RS Bool
abbrev Bq:=b3->bC->RS (G SV)
def gr(K:lD)(E:XK)(t:TE)(f:gq):Prop:=
 ∀(B:cN) (b:L2.St) (H:Hp) (α:G J) (Z:bC) (g:b3) (Q:VK),U9 B K H α Z->Xw (ow B α Z) K H α b g->WS K E B H α Z (λx a e d=>∀v,XI (ow B a e) K d a v x->Q v d) (f g Z)->t b H Q
def zt(K:lD)(E:XK)(t:TT)(f:wq):Prop:=
 ∀(B:cN) (a:L2.St) (H:Hp) (α:G J) (Z:bC) (e:b3) (Q:Bool->Hp->Prop),U9 B K H α Z->Xw (ow B α Z) K H α a e->WS K E B H α Z (λb _ _ d=>Q b d) (f e Z)->t a H Q
def FY(K:lD)(E:XK)(t:TA)(f:Bq):Prop:=
 ∀(B:cN) (b:L2.St) (H:Hp) (α:G J) (Z:bC) (g:b3) (Q:G V->Hp->Prop),U9 B K H α Z->Xw (ow B α Z) K H α b g->WS K E B H α Z (λxs a e d=>∀h,W8 (ow B a e) K d a h xs->Q h d) (f g Z)->t b H Q
section
variable{B O J:cN}{K:lD}{E:XK}{H P T H2:Hp}{Y M X I:cn Uw}{Z Z' Z1 N:bC}{U:L2.St}{ρ:b3}{v:V}
def Nj:cv SV->cv PV
 |some (.fz d)=>R (.fz d)
 |_=>L
def cZ(ρ:b3):bM:=ρ.map Nj
def wT{i:Nat}(h:(cZ ρ)[i]?=R (R x)):∃d,x=.fz d/\ρ[i]?=R (R (.fz d)):=by
 unfold cZ at h;rw[UK]at h;cases q:ρ[i]? with
 |none=>rw[q]at h;ext h
 |some o=>
  rw[q]at h;let a:=UU h;unfold Nj at a;split at a
  .ext a;show#[_,W,W]
  .ext a
def HG(s:U9 B K H Y Z)(a:Xw (ow B Y Z) K H Y U ρ):Rl K (ow B Y Z) H (ow B Y Z) U H (cZ ρ):=by
 show#[Wr.refl _,λ_ h=>h,s.owd,s.noO,by ext cZ;rw[Ur];show a.1,λi x h=>?_,λi j ds l w h=>?_]
 .let(d,rfl,b):=wT h;let(v,g,f):=a.2 i _ b;show#[v,g,f]
 .let(d,e,_):=wT h;ext e
def me(Z:bC):RV->RS SV
 |.fz d=>.ok (.fz d) Z
 |.ow ds=>.ok (.rf Z.length) (Z++[.lst (ds.map .fz)])
abbrev PQ(B:cN)(K:lD)(Q:VK):SV->G Uw->bC->Hp->Prop:=λx M Z' P=>∀v,XI (ow B M Z') K P M v x->Q v P
theorem rL(O:cN)(Y:G Uw):∀{a:G V} {ds:G D},Wb O K H a ds->W8 O K H Y a (ds.map .fz)
 |_,_,.nil=>.nil
 |_,_,.cons h t=>.cons h (rL O Y t)
theorem Gi:∀{a:G V} {ds:G D},W8 O K H Y a (ds.map .fz)->Wb O K H a ds
 |_,[],.nil=>.nil
 |_,_::_,.cons h t=>.cons h (Gi t)
def uU(s:U9 B K H Y Z)(w:WS K E B H Y Z (PQ B K Q) (me Z (.ow ds)))(e:Wr H P)(a:H p=L)(h:P p=R (.lst o))(hd:Wb J K P o ds)(d:∀b,ow B Y Z b->J b)(f:J p):Q (.ref p) P:=by
 let sub:∀b,ow B (Y++[p]) (Z++[.lst (ds.map .fz)]) b->J b:=λb z=>z.elim (λq=>d b (.inl q)) λq=>(vR s.len q).elim (λq=>d b (.inr q)) λq=>by rw[q];show f
 show w (Y++[p]) P (Wy.acP s.len e a) (s.acP e a (by rw[h];simp) #[o,h,rL _ _ (hd.ev (Ev.sub sub))]) (.ref p) #[p,by rw[<-s.len];show bh,W]
def F5(s:U9 B K H Y Z)(w:WS K E B H Y Z (PQ B K Q) (me Z o)):Fin (ow B Y Z) K H Q o:=by
 cases o with
 |fz d=>show λv P e a=>w Y P (Wy.same e) (s.grow e) v a
 |ow ds=>show λp g P e f h a=>uU s w e f h a (λb z=>.inl z) (.inr W)
def am(f:FE):gq:=λρ Z=>match f (cZ ρ)with
 |.ok (.fz d,_)=>.ok (.fz d) Z
 |.ok (.ow ds,_)=>me Z (.ow ds)
 |.ok (.pl _,_)=>.bad
 |.er x=>.er x Z
 |.bad=>.bad
def aI(h:EO K E t f):gr K E t (am f):=by
 intro B U H Y Z ρ Q s g w;show h (ow B Y Z) H (ow B Y Z) U H (cZ ρ) Q (HG s g) ?_;unfold am at w;cases q:f (cZ ρ)with
 |bad=>rw[q]at w;show w.elim
 |er x=>rw[q]at w;show λc u P e k=>w c u Y P (Wy.same e) (s.grow e) k
 |ok r=>
  let(pv,b):=r;rw[q]at w;intro J v P e R p;cases pv with
  |fz d=>show w Y P (Wy.same R.same) (s.grow R.same) v (DV.ev (Ev.sub R.bo) p)
  |ow ds=>let(a,y,rfl,n,m,l,j,o):=p;show uU s w R.same m l j R.bo n
  |pl i=>show w.elim
def cC(f:FT):wq:=λρ Z=>match f (cZ ρ)with
 |.ok (b,_)=>.ok b Z
 |.er x=>.er x Z
 |.bad=>.bad
def zC(h:TTO K E t f):zt K E t (cC f):=by
 intro B U H Y Z ρ Q s d w;show h (ow B Y Z) H (ow B Y Z) U H (cZ ρ) Q (HG s d) ?_;unfold cC at w;cases q:f (cZ ρ)with
 |bad=>rw[q]at w;show w.elim
 |er x=>rw[q]at w;show λc g P e k=>w c g Y P (Wy.same e) (s.grow e) k
 |ok r=>let(b,a):=r;rw[q]at w;show λJ P e R=>w Y P (Wy.same R.same) (s.grow R.same)
def aH(i:Nat):gq:=λρ Z=>match ρ[i]? with
 |some (R x)=>.ok x Z
 |_=>.bad
def bA:gr K E (ET i) (aH i):=by
 intro B U H Y Z ρ Q s a w;unfold aH at w;cases q:ρ[i]? with
 |none=>rw[q]at w;show w.elim
 |some o=>
  cases o with
  |none=>rw[q]at w;show w.elim
  |some x=>rw[q]at w;let(v,d,b):=a.2 i x q;show#[v,d,WS.now s w v b]
def fq(K:lD)(C:Str)(fs:G Str):Prop:=∃a,UN K UI C=R (R (.ref a))/\Cls K a/\∀f∈fs,ZJ K a f
def bU(C f:Str)(e:gq):gq:=λρ Z=>(e ρ Z).bind λx Z1=>match x with
 |.rf i=>(match Z1[i]? with
  |some (.obj D fs)=>if D=C then RS.Vm Z1 (fs.lookup f)else .bad
  |_=>.bad)
 |_=>.bad
def EE:∀{ws:G (Str×V)} {fs:G (Str×SV)},Paired (λ(p:Str×V) (q:Str×SV)=>p.1=q.1/\XI O K H Y p.2 q.2) ws fs->fs.lookup f=R x->∃v,ws.lookup f=R v/\XI O K H Y v x:=by
 intro ws fs p
 induction p with
 |nil=>intro h;ext h
 | @cons a b _ _ q t g=>
  let(a,v):=a;let(b,y):=b;let(e,d):=q;intro h;ext e;rw[UQ]at h⊢;split at h
  .ext h;show#[v,W,d]
  .show g h
def Fn:∀{ws:G (Str×V)} {fs:G (Str×SV)},Paired (λ(p:Str×V) (q:Str×SV)=>p.1=q.1/\XI O K H Y p.2 q.2) ws fs->fs.lookup f=L->ws.lookup f=L:=by
 intro ws fs p
 induction p with
 |nil=>intro h;rfl
 | @cons a b _ _ q t g=>
  let(a,v):=a;let(b,y):=b;let(d,e):=q;intro h;ext d;rw[UQ]at h⊢;split at h
  .ext h
  .show g h
def fZ(p:fq K C L0)(o:f∈L0)(k:gr K E ta fa):gr K E (Sk K ta f) (bU C f fa):=by
 intro B U H Y Z ρ Q s j w;show k B U H Y Z ρ _ s j (w.bind.imp λx X Z1 T R e b v m=>?_);cases x with
 |fz d=>show b.elim
 |tp l=>show b.elim
 |rf i=>
  let(a,k,rfl):=m;dsimp only at b;cases q:Z1[i]? with
  |none=>rw[q]at b;show b.elim
  |some c=>
   rw[q]at b;cases c with
   |obj D fs=>
    dsimp only at b;by_cases z:D=C
    .subst z
     rw[av W]at b;let(G,dx,ws,y,t,r):=e.cel i a _ k q;cases ql:fs.lookup f with
     |none=>rw[ql]at b;show b.elim
     |some x=>rw[ql]at b;let(u,n,h):=EE r ql;let(S,g,F,A):=p;rw[y]at g;ext g;show#[a,G,dx,ws,u,W,t,F,A f o,n,WS.now e b u h]
    .rw[ax z]at b;show b.elim
   |_=>show b.elim
def bc{Y a:Type}(f:Y->cv a):G Y->cv (G a)
 |[]=>R []
 |x::r=>match f x with
  |some y=>(match bc f r with
   |some b=>R (y::b)
   |none=>L)
  |none=>L
def zr:Nat->bC->SV->cv D
 |_,_,.fz d=>R d
 |0,_,_=>L
 |n+1,Z,.rf i=>match Z[i]? with
  |some (.lst xs)=>(bc (zr n Z) xs).map .list
  |_=>L
 |n+1,Z,.tp l=>(bc (λx=>zr n Z x.sv) l).map .tuple
theorem fu{Y a:Type}{f:Y->cv a}{R:V->Y->Prop}{S:V->a->Prop}(h:∀v x y,R v x->f x=cL y->S v y):∀{c:G V} {xs:G Y} {d:G a},Paired R c xs->bc f xs=cL d->Paired S c d
 |_,_,_,.nil,e=>by ext e;show .nil
 |_,_,_,.cons (b:=x) (l₂:=xs) r t,e=>by
  unfold bc at e;cases q:f x with
  |none=>rw[q]at e;ext e
  |some y=>
   rw[q]at e;dsimp only at e;cases g:bc f xs with
   |none=>rw[g]at e;ext e
   |some d=>rw[g]at e;ext e;show .cons (h _ _ _ r q) (fu h t g)
def oS:∀{b:G V} {ds:G D},Paired (DV O K H) b ds->Wb O K H b ds:=by
 intro _ _ p
 induction p with
 |nil=>show .nil
 |cons h t a=>show .cons h a
theorem MV:Ev O H noO H:=Ev.sub λ_ z=>z.elim
theorem nT(s:U9 B K H Y Z):∀(n:Nat) {v:V} {x:SV} {d:D},XI (ow B Y Z) K H Y v x->zr n Z x=cL d->DV noO K H v d
 |n,v,.fz o,d,h,e=>by
  let g:cL o=cL d:=by ext n<;>show e
  ext g;show DV.ev MV h
 |0,v,.rf i,d,h,e=>by ext e
 |0,v,.tp l,d,h,e=>by ext e
 |n+1,v,.rf i,d,h,e=>by
  let(a,m,rfl):=h;unfold zr at e;cases q:Z[i]? with
  |none=>rw[q]at e;ext e
  |some c=>
   rw[q]at e;cases c with
   |lst xs=>
    dsimp only at e;cases j:bc (zr n Z) xs with
    |none=>rw[j]at e;ext e
    |some ds=>rw[j]at e;ext e;let(p,f,b):=s.cel i a _ m q;show .lst #[Yw.of f,λz=>z.elim] (oS (fu (R:=XI (ow B Y Z) K H Y) (λv x y r e=>nT s n r e) b j))
   |_=>ext e
 |n+1,v,.tp l,d,h,e=>by
  let(a,xs,rfl,f,b):=h;unfold zr at e;cases j:bc (λx=>zr n Z x.sv) l with
  |none=>rw[j]at e;ext e
  |some ds=>rw[j]at e;ext e;show .tup (f.ev MV) (oS (fu (λv x y r e=>nT s n (by ext x<;>show r) e) b j))
def zo:SV->cv D
 |.fz d=>R d
 |_=>L
def sh(Z:bC):SV->cv D
 |.fz d=>R d
 |.rf i=>match Z[i]? with
  |some (.lst xs)=>(bc zo xs).map .list
  |_=>L
 |.tp _=>L
def Jf(s:U9 B K H Y Z)(h:XI (ow B Y Z) K H Y v x)(e:sh Z x=R d):DX (ow B Y Z) K H v d:=by
 cases x with
 |fz g=>ext e;show DV.x h
 |tp l=>ext e
 |rf i=>
  let(a,n,rfl):=h;unfold sh at e;dsimp only at e;cases q:Z[i]? with
  |none=>rw[q]at e;ext e
  |some c=>
   rw[q]at e;cases c with
   |lst xs=>
    dsimp only at e;cases j:bc zo xs with
    |none=>rw[j]at e;ext e
    |some ds=>
     rw[j]at e;ext e;let(m,f,b):=s.cel i a _ n q;show#[a,m,W,Yw.of f,oS (fu (λv x y r e=>?_) b j)];cases x with
     |fz d=>ext e;show r
     |rf i=>ext e
     |tp l=>ext e
   |_=>ext e
def FB:D->Bool
 |.none=>Uq
 |.bool _=>Uq
 |.int _=>Uq
 |.str _=>Uq
 |_=>Uu
def LK(h:FB d=Uq)(a:DV O K H v d):DV J K P v d:=by
 cases a with
 |Xp=>show .Xp
 |bl b=>show .bl b
 |int i=>show .int i
 |str x=>show .str x
 |tup _ _=>ext h
 |lst _ _=>ext h
def wE(Z:bC):RV->RS SV
 |.fz d=>if FB d=Uq then .ok (.fz d) Z else .bad
 |.ow _=>.bad
def Im(s:U9 B K H Y Z)(w:WS K E B H Y Z (PQ B K Q) (wE Z o)):Fin noO K H Q o:=by
 cases o with
 |fz d=>
  let w:WS K E B H Y Z (PQ B K Q) (if FB d=Uq then RS.ok (SV.fz d) Z else RS.bad):=w;by_cases z:FB d=Uq
  .rw[av z]at w;show λv P e a=>w Y P (Wy.same e) (s.grow e) v (LK z a)
  .rw[ax z]at w;show w.elim
 |ow ds=>show w.elim
theorem Hl:ot noO H:=λ_ _ z=>z
def uG(f:D->D->cv RV)(x y:SV)(Z:bC):RS SV:=match sh Z x,sh Z y with
 |some e,R a=>(RS.Vm Z (f e a)).bind λd Z1=>me Z1 d
 |_,_=>(RS.Vm Z (zr 6 Z x)).bind λe Z1=>(RS.Vm Z1 (zr 6 Z1 y)).bind λa N=>(RS.Vm N (f e a)).bind λd b=>wE b d
def Gm(m:nV K r f)(s:U9 B K H Y Z)(l:XI (ow B Y Z) K H Y x a)(j:XI (ow B Y Z) K H Y y b)(w:WS K E B H Y Z (PQ B K Q) (uG f a b Z)):r x y H Q:=by
 let d:WS K E B H Y Z (PQ B K Q) ((RS.Vm Z (zr 6 Z a)).bind λp Z1=>(RS.Vm Z1 (zr 6 Z1 b)).bind λh N=>(RS.Vm N (f p h)).bind λo n=>wE n o)->r x y H Q:=λw=>by let(p,e,w):=w.Vm;let(h,g,w):=w.Vm;let(o,i,w):=w.Vm;show m noO H x y p h o Q Hl (DV.x (nT s 6 l e)) (DV.x (nT s 6 j g)) i (Im s w)
 unfold uG at w;cases e:sh Z a with
 |none=>rw[e]at w;show d w
 |some p=>
  cases g:sh Z b with
  |none=>rw[e,g]at w;show d w
  |some h=>rw[e,g]at w;let(o,i,w):=w.Vm;show m _ H x y p h o Q s.noO (Jf s l e) (Jf s j g) i (F5 s w)
def j3(f:D->D->cv RV)(a fb:gq):gq:=λρ Z=>(a ρ Z).bind λx Z1=>(fb ρ Z1).bind λy N=>uG f x y N
def iH(j:nV K r f)(c:gr K E C fa)(l:gr K E o fb):gr K E (Pi r C o) (j3 f fa fb):=by intro B U H Y Z ρ Q s a w;show c B U H Y Z ρ _ s a (w.bind.imp λx X Z1 T n g d v h=>?_);show l B U T X Z1 ρ _ g (a.XB n) (d.bind.imp λy I N H2 m e b u i=>?_);show Gm j e (h.XB m) i b
def Mp:SV->cv Bool
 |.fz (.bool b)=>R b
 |_=>L
def LN(e:Mp x=R b)(h:XI O K H Y v x):v=.bl b:=by
 unfold Mp at e;split at e
 .ext e;ext h;rfl
 .ext e
def b5(a:gq):wq:=λρ Z=>(a ρ Z).bind λx Z1=>RS.Vm Z1 (Mp x)
def hJ(c:gr K E o C):zt K E (Ep o) (b5 C):=by
 intro B U H Y Z ρ Q s d w;show c B U H Y Z ρ _ s d (w.bind.imp λx X Z1 T g e a v f=>?_);cases q:Mp x with
 |none=>rw[q]at a;show a.elim
 |some b=>rw[q]at a;show#[b,LN q f,WS.now e a]
theorem M4(a:gr K E o C):zt K E (tB o) (b5 C):=hJ a
def pP(a fb:wq):wq:=λρ Z=>(a ρ Z).bind λb Z1=>if b=Uq then fb ρ Z1 else .ok Uu Z1
def EJ(a fb:wq):wq:=λρ Z=>(a ρ Z).bind λb Z1=>if b=Uq then .ok Uq Z1 else fb ρ Z1
def vW(a:wq):wq:=λρ Z=>(a ρ Z).bind λb Z1=>.ok (!b) Z1
def Ll(i:zt K E t f)(h:zt K E u g):zt K E (Pr t u) (pP f g):=by
 intro B U H Y Z ρ Q s d w;show i B U H Y Z ρ _ s d (w.bind.imp λb X Z1 T j e a=>?_);cases b with
 |true=>show h B U T X Z1 ρ Q e (d.XB j) a
 |false=>show WS.now e a
def OG(i:zt K E t f)(h:zt K E u g):zt K E (Ti t u) (EJ f g):=by
 intro B U H Y Z ρ Q s d w;show i B U H Y Z ρ _ s d (w.bind.imp λb X Z1 T j e a=>?_);cases b with
 |true=>show WS.now e a
 |false=>show h B U T X Z1 ρ Q e (d.XB j) a
def Da(g:zt K E t f):zt K E (P0 t) (vW f):=by intro B U H Y Z ρ Q s d w;show g B U H Y Z ρ _ s d (w.bind.imp λb X Z1 T h e a=>WS.now e a)
def mY:wq:=λ_ Z=>.ok Uq Z
theorem t9:zt K E Hj mY:=λB U H Y Z ρ Q s a w=>WS.now s w
def Ff(a fb:gq):gq:=λρ Z=>(b5 a ρ Z).bind λb Z1=>if b=Uq then fb ρ Z1 else .ok (.fz (.bool Uu)) Z1
def C5(h:gr K E C fa)(f:gr K E o fb):gr K E (Ia C o) (Ff fa fb):=by
 intro B U H Y Z ρ Q s d w;show hJ h B U H Y Z ρ (λc T=>if c=Uq then o U T Q else Q (.bl Uu) T) s d (w.bind.imp λb X Z1 T g e a=>?_);cases b with
 |true=>show f B U T X Z1 ρ Q e (d.XB g) a
 |false=>show WS.now e a _ (.bl Uu)
def OL(c:wq)(a fb:gq):gq:=λρ Z=>(c ρ Z).bind λb Z1=>if b=Uq then a ρ Z1 else fb ρ Z1
def Qo(g:zt K E t c)(i:gr K E C fa)(h:gr K E o fb):gr K E (S2 t C o) (OL c fa fb):=by
 intro B U H Y Z ρ Q s a w;show g B U H Y Z ρ _ s a (w.bind.imp λb X Z1 T f e d=>?_);cases b with
 |true=>show i B U T X Z1 ρ Q e (a.XB f) d
 |false=>show h B U T X Z1 ρ Q e (a.XB f) d
def bx:Bq:=λ_ Z=>.ok [] Z
def aC(b:gq)(a:Bq):Bq:=λρ Z=>(b ρ Z).bind λx Z1=>(a ρ Z1).bind λxs N=>.ok (x::xs) N
theorem dN:FY K E pN bx:=λB U H Y Z ρ Q s a w=>WS.now s w [] .nil
def bV(c:gr K E o C)(i:FY K E tr fr):FY K E (l6 o tr) (aC C fr):=by intro B U H Y Z ρ Q s b w;show c B U H Y Z ρ _ s b (w.bind.imp λx X Z1 T l g e v h=>?_);show i B U T X Z1 ρ _ g (b.XB l) (e.bind.imp λxs I N H2 j f d m a=>?_);show WS.now f d (v::m) (.cons (h.XB j) a)
def OJ:SV->cv AV
 |.fz d=>R (.fz d)
 |.rf i=>R (.rf i)
 |.tp _=>L
def SG(xs:G SV):cv SV:=match bc zo xs with
 |some ds=>R (.fz (.tuple ds))
 |none=>(bc OJ xs).map .tp
def r8(a:Bq):gq:=λρ Z=>(a ρ Z).bind λxs Z1=>if xs.length<=1000 then RS.Vm Z1 (SG xs)else .bad
def BF(r:XI O K H Y v x)(e:zo x=R d):DV O K H v d:=by
 cases x with
 |fz d=>ext e;show r
 |rf i=>ext e
 |tp l=>ext e
def Hh(r:XI O K H Y v x)(e:OJ x=R d):AOk O K H Y v d:=by
 cases x with
 |fz d=>ext e;show r
 |rf i=>ext e;show r
 |tp l=>ext e
def yn(c:FY K E C fa):gr K E (N9 C) (r8 fa):=by
 intro B U H Y Z ρ Q s j w;show c B U H Y Z ρ _ s j (w.bind.imp λxs X Z1 T m d a n f=>?_);by_cases hn:xs.length<=1000
 .rw[av hn]at a
  show#[by rw[f.length];show Cp hn,λp i=>?_];let b:Wr T (cy T p (.tup n)):=bZ i _;let e:Wy X Z1 T X Z1 (cy T p (.tup n)):=Wy.same b;let h:Zp (ow B X Z1) K (cy T p (.tup n)) p n:=#[X5.of bp,λz=>bg z (d.noO p i)];unfold SG at a;cases q:bc zo xs with
  |some ds=>rw[q]at a;show a X _ e (d.grow b) _ (.tup h (oS (fu (R:=XI (ow B X Z1) K T X) (λv x y r g=>(BF r g).ev e.ev) f q)))
  |none=>
   rw[q]at a;dsimp only at a;cases o:bc OJ xs with
   |none=>rw[o]at a;show a.elim
   |some l=>rw[o]at a;show a X _ e (d.grow b) _ #[p,n,W,h,fu (R:=XI (ow B X Z1) K T X) (λv x y r g=>(Hh r g).ev e.ev e.pre) f o]
 .rw[ax hn]at a;show a.elim
def LO(f:G D->cv RV)(xs:G SV)(Z:bC):RS SV:=match bc (sh Z) xs with
 |some ds=>(RS.Vm Z (f ds)).bind λb Z1=>me Z1 b
 |_=>(RS.Vm Z (bc (zr 6 Z) xs)).bind λds Z1=>(RS.Vm Z1 (f ds)).bind λb a=>wE a b
def Kf(f:G D->cv RV)(a:Bq):gq:=λρ Z=>(a ρ Z).bind λxs Z1=>LO f xs Z1
def yw(h:Bk K r f)(c:FY K E C fa):gr K E (Mz r C) (Kf f fa):=by
 intro B U H Y Z ρ Q s i w;show c B U H Y Z ρ _ s i (w.bind.imp λxs X Z1 T l b a o g=>?_);unfold LO at a;cases n:bc (sh Z1) xs with
 |none=>rw[n]at a;let(ds,j,a):=a.Vm;let(m,d,a):=a.Vm;show h noO T o ds m Q Hl (fu (R:=XI (ow B X Z1) K T X) (λv x y r e=>DV.x (nT b 6 r e)) g j) d (Im b a)
 |some ds=>rw[n]at a;let(m,d,a):=a.Vm;show h _ T o ds m Q b.noO (fu (R:=XI (ow B X Z1) K T X) (λv x y r e=>Jf b r e) g n) d (F5 b a)
end
section
variable{B O O':cN}{K:lD}{E:XK}{H I M J:Hp}{Y L X S:cn Uw}{Z U Z1 T:bC}{N:L2.St}{ρ:b3}{v:V}
theorem Bz:∀{c:G V} {xs:G β} {i:Nat} {x:β},Paired d c xs->xs[i]?=cL x->∃v,c[i]?=cL v/\d v x
 |_,_,_,_,.nil,e=>by simp at e
 |_,_,0,_,.cons h _,e=>by simp at e;subst e;show#[_,W,h]
 |_,_,i+1,x,.cons _ t,e=>by let(v,b,a):=Bz t (by simpa using e);show#[v,by simpa using b,a]
def Nv{b:G V}(h:Paired a b xs)(e:mo xs i=cL x):∃v,mo b i=cL v/\a v x:=by
 unfold mo at e⊢;rw[h.length];cases q:FW xs.length i with
 |none=>rw[q]at e;ext e
 |some j=>rw[q]at e;show Bz h e
def EN:SV->cv Int
 |.fz (.int i)=>R i
 |_=>CL
def Db(e:EN x=R i)(h:XI O K H Y v x):v=.int i:=by
 unfold EN at e;split at e
 .ext e;ext h;rfl
 .ext e
def K8(x y:SV)(Z:bC):RS SV:=match x with
 |.fz _=>uG bu x y Z
 |.rf j=>(match Z[j]? with
  |some (.lst xs)=>(RS.Vm Z (EN y)).bind λi Z1=>RS.Vm Z1 (mo xs i)
  |_=>.bad)
 |.tp l=>(RS.Vm Z (EN y)).bind λi Z1=>RS.Vm Z1 ((mo l i).map AV.sv)
def kH(a fb:gq):gq:=λρ Z=>(a ρ Z).bind λx Z1=>(fb ρ Z1).bind λy T=>K8 x y T
def ut(k:gr K E ta fa)(C:gr K E tb fb):gr K E (Pi (Sw K) ta tb) (kH fa fb):=by
 intro B N H Y Z ρ Q s r w;show k B N H Y Z ρ _ s r (w.bind.imp λx X Z1 M G A t v e=>?_);show C B N M X Z1 ρ _ A (r.XB G) (t.bind.imp λy S T J F f b u n=>?_);let e:=e.XB F;unfold K8 at b;cases x with
 |fz d=>show Gm bI f e n b
 |rf j=>
  let(a,k,rfl):=e;dsimp only at b;cases q:T[j]? with
  |none=>rw[q]at b;show b.elim
  |some c=>
   rw[q]at b;cases c with
   |lst xs=>
    let(i,h,b):=WS.Vm b;cases qa:mo xs i with
    |none=>rw[qa]at b;show b.elim
    |some x=>rw[qa]at b;let(vs,p,o):=f.cel j a _ k q;let(z,m,g):=Nv o qa;show .inl #[a,vs,i,z,W,Db h n,Yh.of p,m,WS.now f b z g]
   |_=>show b.elim
 |tp l=>
  let(a,xs,rfl,p,o):=e;let(i,h,b):=WS.Vm b;cases qa:mo l i with
  |none=>rw[qa]at b;show b.elim
  |some x=>rw[qa]at b;let(z,m,g):=Nv o qa;show .inr (.inl #[a,xs,i,z,W,Db h n,p.1,m,WS.now f b z (by ext x<;>show g)])
def KR(h:Lv Y (Z.set i .dead) b):Lv Y Z b:=by
 let(j,c,e,a,d):=h;rcases dE a with⟨rfl,rfl⟩|⟨_,a⟩
 .show bg W d
 .show#[j,c,e,a,d]
theorem Wy.kill:Wy Y Z H Y (Z.set i .dead) H:=#[λ_ _ h=>h,λ_ _ h _=>h,λ_ h=>.inl (KR h)]
def U9.kill(s:U9 B K H Y Z)(i:Nat):U9 B K H Y (Z.set i .dead):=by
 let e:Wy Y Z H Y (Z.set i .dead) H:=Wy.kill;show#[by rw[VO];show s.len,s.nd,s.bn,s.ba,s.al,λj b d f a=>?_];rcases dE a with⟨rfl,rfl⟩|⟨g,a⟩
 .show trivial
 .show(s.cel j b d f a).ev e.ev e.pre λu q=>q
def U9.agD(s:U9 B K H Y Z)(g:Y[i]?=R a):¬ow B Y (Z.set i .dead) a:=by
 rintro(z|⟨j,c,e,d,b⟩)
 .show s.afA g z
 .let:=s.nd j i a e g
  subst this;rcases dE d with⟨_,rfl⟩|⟨f,_⟩
  .show b W
  .show f W
def wa(g:bC->SV->cv (D×bC)):bC->G SV->cv (G D×bC)
 |Z,[]=>R ([],Z)
 |Z,x::r=>match g Z x with
  |some (d,Z1)=>(match wa g Z1 r with
   |some (ds,T)=>R (d::ds,T)
   |none=>CL)
  |none=>CL
def frz:Nat->bC->SV->cv (D×bC)
 |_,Z,.fz d=>R (d,Z)
 |0,_,_=>CL
 |n+1,Z,.rf i=>match Z[i]? with
  |some (.lst xs)=>(match wa (frz n) Z xs with
   |some (ds,Z1)=>R (.list ds,Z1.set i .dead)
   |none=>CL)
  |_=>CL
 |n+1,Z,.tp l=>match wa (frz n) Z (l.map AV.sv)with
  |some (ds,Z1)=>R (.tuple ds,Z1)
  |none=>CL
theorem yM(a:∀{Z U:bC} {v:V} {x:SV} {d:D},U9 B K H Y Z->XI (ow B Y Z) K H Y v x->g Z x=R (d,U)->U9 B K H Y U/\Wy Y Z H Y U H/\L3.DV (ow B Y U) K H v d):
  ∀{c:G V} {xs:G SV} {ds:G D} {Z U:bC},U9 B K H Y Z->W8 (ow B Y Z) K H Y c xs->wa g Z xs=R (ds,U)->U9 B K H Y U/\Wy Y Z H Y U H/\L3.Wb (ow B Y U) K H c ds
 |_,_,_,Z,U,s,.nil,e=>by ext e;show#[s,.refl,.nil]
 |_,_,_,Z,U,s,.cons (b:=x) (l₂:=xs) r t,e=>by
  unfold wa at e;cases q:g Z x with
  |none=>rw[q]at e;ext e
  |some p=>
   let(d,Z1):=p;rw[q]at e;dsimp only at e;let(j,h,d1):=a s r q;cases n:wa g Z1 xs with
   |none=>rw[n]at e;ext e
   |some l=>let(ds,T):=l;rw[n]at e;ext e;let(i,f,m):=yM a j (W8.XB h t) n;show#[i,h.trans f,.cons (d1.ev f.ev) m]
theorem ym:∀{a:G V} {l:G AV},Paired (AOk O K H Y) a l->W8 O K H Y a (l.map AV.sv)
 |_,_,.nil=>.nil
 |_,_,.cons (b:=x) h t=>.cons (by ext x<;>show h) (ym t)
theorem xG:∀(n:Nat) {Z U:bC} {v:V} {x:SV} {d:D},U9 B K H Y Z->XI (ow B Y Z) K H Y v x->frz n Z x=R (d,U)->U9 B K H Y U/\Wy Y Z H Y U H/\L3.DV (ow B Y U) K H v d
 |n,Z,U,v,.fz t,d,s,h,e=>by
  let m:R (t,Z)=R (d,U):=by ext n<;>show e
  ext m;show#[s,.refl,h]
 |0,_,_,v,.rf i,d,s,h,e=>by ext e
 |0,_,_,v,.tp l,d,s,h,e=>by ext e
 |n+1,Z,U,v,.rf i,d,s,h,e=>by
  let(a,r,rfl):=h;unfold frz at e;cases q:Z[i]? with
  |none=>rw[q]at e;ext e
  |some c=>
   rw[q]at e;cases c with
   |lst xs=>
    dsimp only at e;let(u,j,g):=s.cel i a _ r q;cases o:wa (frz n) Z xs with
    |none=>rw[o]at e;ext e
    |some p=>let(ds,Z1):=p;rw[o]at e;ext e;let(b,f,d1):=yM (λs h e=>xG n s h e) s g o;show#[b.kill i,f.trans Wy.kill,xB j (b.agD r) (d1.ev (Wy.kill).ev)]
   |_=>ext e
 |n+1,Z,U,v,.tp l,d,s,h,e=>by
  let(a,xs,rfl,j,g):=h;unfold frz at e;cases o:wa (frz n) Z (l.map AV.sv)with
  |none=>rw[o]at e;ext e
  |some p=>let(ds,Z1):=p;rw[o]at e;ext e;let(b,f,d1):=yM (λs h e=>xG n s h e) s (ym g) o;show#[b,f,.tup (j.ev f.ev) d1]
def N4(x:SV)(Z:bC):RS SV:=match frz 4 Z x with
 |some (d,Z1)=>.ok (.fz d) Z1
 |none=>.bad
def qD(f:gq):gq:=λρ Z=>(f ρ Z).bind λx Z1=>N4 x Z1
def nR(h:gr K E t f):gr K E t (qD f):=by
 intro B N H Y Z ρ Q s b w;show h B N H Y Z ρ _ s b (w.bind.imp λx X Z1 M m g a v i=>?_);unfold N4 at a;cases q:frz 4 Z1 x with
 |none=>rw[q]at a;show a.elim
 |some p=>let(d,T):=p;rw[q]at a;let(e,j,l):=xG 4 g i q;show a X M j e v l
def XOk.sub(h:∀b,O' b->O b)(k:XOk K O H c dx x):XOk K O' H c dx x:=by let(i,fs,g,a):=k;show#[i,fs,g,λf d e=>let#[g1,v,g2,g3]:=a f d e;#[g1,v,g2,g3.ev (Ev.sub h)]]
def xj(F:FN)(n:Nat)(xs:G SV)(Z:bC):RS SV:=if xs.length=n then(match bc zo xs with
 |some ds=>(match F ds with
  |.ok a=>me Z a
  |.er x=>.er x Z
  |.bad=>.bad)
 |none=>(RS.Vm Z (bc (zr 6 Z) xs)).bind λds Z1=>(match F ds with
  |.ok a=>wE Z1 a
  |_=>.bad))else .bad
def kZ:RS A->RS A
 |.er _ _=>.bad
 |r=>r
def i4(F:FN)(n:Nat)(a:Bq):gq:=λρ Z=>(a ρ Z).bind λxs Z1=>kZ (xj F n xs Z1)
def WS.e0(h:WS K E B H Y Z b (kZ r)):WS K E0 B H Y Z b r:=by
 cases r with
 |ok a Z=>show h
 |er x Z=>show h.elim
 |bad=>show h
def L5(s:U9 B K H Y Z)(b:W8 (ow B Y Z) K H Y o xs)(w:WS K E B H Y Z (PQ B K Q) (xj F n xs Z)):g7 K n F o H Q E:=by
 unfold xj at w;by_cases hn:xs.length=n
 .rw[av hn]at w
  show#[b.length.trans hn,?_];cases q:bc zo xs with
  |some ds=>
   rw[q]at w;show#[ow B Y Z,ds,s.owd,oS (fu (R:=XI (ow B Y Z) K H Y) (λv x y r e=>BF r e) b q),?_];dsimp only at w;cases f:F ds with
   |ok g=>rw[f]at w;show F5 s w
   |er x=>rw[f]at w;show λc h I e k=>w c h Y I (Wy.same e) (s.grow e) k
   |bad=>rw[f]at w;show w.elim
  |none=>
   rw[q]at w;let(ds,d,w):=WS.Vm w;show#[noO,ds,λa z=>z.elim,oS (fu (R:=XI (ow B Y Z) K H Y) (λv x y r e=>nT s 6 r e) b d),?_];cases f:F ds with
   |ok g=>rw[f]at w;show Im s w
   |er x=>rw[f]at w;show w.elim
   |bad=>rw[f]at w;show w.elim
 .rw[ax hn]at w;show w.elim
def tM(c:FY K E o C):gr K E (wX (g7 K n F) [] E0 o) (i4 F n C):=by intro B N H Y Z ρ Q s b w;show c B N H Y Z ρ _ s b (w.bind.imp λxs X Z1 M f d a g e=>?_);rw[UZ];show L5 d e (WS.e0 a)
abbrev jW:=G SV->bC->RS SV
def fM(K:lD)(n:Nat)(F:jW):Sp:=λa H Q E=>a.length=n/\∃(B:cN) (Y:G Uw) (Z:bC) (xs:G SV),U9 B K H Y Z/\W8 (ow B Y Z) K H Y a xs/\WS K E B H Y Z (PQ B K Q) (F xs Z)
def zP(F:jW)(n:Nat)(a:Bq):gq:=λρ Z=>(a ρ Z).bind λxs Z1=>if xs.length=n then kZ (F xs Z1)else .bad
def wG(c:FY K E o C):gr K E (wX (fM K n F) [] E0 o) (zP F n C):=by
 intro B N H Y Z ρ Q s d w;show c B N H Y Z ρ _ s d (w.bind.imp λxs X Z1 M f e a g b=>?_);rw[UZ];by_cases hn:xs.length=n
 .rw[av hn]at a;show#[b.length.trans hn,B,X,Z1,xs,e,b,WS.e0 a]
 .rw[ax hn]at a;show a.elim
def xx(Z:bC)(C m:Str):SV->Bool
 |.rf i=>match Z[i]? with
  |some (.obj D fs)=>decide (D=C)&&(fs.lookup m).isNone
  |_=>Uu
 |_=>Uu
def a9(C m:Str)(F:jW)(n:Nat)(a:gq)(b:Bq):gq:=λρ Z=>(a ρ Z).bind λx Z1=>if xx Z1 C m x=P then(b ρ Z1).bind λxs T=>(if(x::xs).length=n then kZ (F (x::xs) T)else .bad)else .bad
def O0(g:UN K UI C=R (R (.ref Ca)))(s:U9 B K H Y Z)(f:XI (ow B Y Z) K H Y v x)(h:xx Z C m x=P):∃a k fs,v=.ref a/\H a=R (.ins Ca k fs)/\fs.lookup m=CL:=by
 cases x with
 |fz d=>ext h
 |tp l=>ext h
 |rf i=>
  let(a,t,rfl):=f;unfold xx at h;dsimp only at h;cases q:Z[i]? with
  |none=>rw[q]at h;ext h
  |some c=>
   rw[q]at h;cases c with
   |obj D fs=>rw[UO]at h;let(n,j):=h;let e:=a7 n;subst e;let(r,k,ws,b,p,o):=s.cel i a _ t q;rw[g]at b;ext b;show#[a,k,ws,W,p,Fn o (Option.isNone_iff_eq_none.mp j)]
   |_=>ext h
def EH(p:UN K UI C=R (R (.ref Ca)))(o:gr K E to fo)(c:FY K E ta fa):gr K E (CY Ca m (fM K n F) [] E0 to ta) (a9 C m F n fo fa):=by
 intro B N H Y Z ρ Q s f w;show o B N H Y Z ρ _ s f (w.bind.imp λx X Z1 M u g d v i=>?_);by_cases h:xx Z1 C m x=P
 .rw[av h]at d
  let(a,z,fs,rfl,r,q):=O0 p g i h;show#[a,z,fs,W,r,q,?_];show c B N M X Z1 ρ _ g (f.XB u) (d.bind.imp λxs S T J t l b y e=>?_);rw[UZ];let j:W8 (ow B S T) K J S (.ref a::y) (x::xs):=.cons (i.XB t) e;by_cases hn:(x::xs).length=n
  .rw[av hn]at b;show#[j.length.trans hn,B,S,T,_,l,j,WS.e0 b]
  .rw[ax hn]at b;show b.elim
 .rw[ax h]at d;show d.elim
def Kd:SV->Bool
 |.fz .none=>P
 |_=>Uu
def DU(C:Str)(F:jW)(n:Nat)(xs:G SV)(Z:bC):RS SV:=if(SV.rf Z.length::xs).length=n then(F (.rf Z.length::xs) (Z++[.obj C []])).bind λr T=>(if Kd r=P then .ok (.rf Z.length) T else .bad)else .bad
def kW(C:Str)(F:jW)(n:Nat)(a:Bq):gq:=λρ Z=>(a ρ Z).bind λxs Z1=>kZ (DU C F n xs Z1)
def KY(h:Kd x=P)(a:XI O K H Y v x):v=.Xp:=by
 unfold Kd at h;split at h
 .ext a;rfl
 .ext h
def QA(o:UN K UI C=R (R (.ref Ca)))(s:U9 B K H Y Z)(m:W8 (ow B Y Z) K H Y vs xs)(w:WS K E B H Y Z (PQ B K Q) (DU C F n xs Z)):
  ∀x c,H x=CL->H c=CL->c≠x->fM K n F (.ref x::(vs++[])) (cy (cy H c (.own x)) x (.ins Ca c [])) (λv J=>v=.Xp/\Q (.ref x) J) E:=by
 intro x c d g q;rw[UZ];unfold DU at w;let h:Wr H (cy (cy H c (.own x)) x (.ins Ca c [])):=(bZ g _).trans (bZ (by rw[bG (λz=>q z.symm)];show d) _);let e:Wy Y Z H (Y++[x]) (Z++[.obj C []]) (cy (cy H c (.own x)) x (.ins Ca c [])):=Wy.acP s.len h d;let l:U9 B K (cy (cy H c (.own x)) x (.ins Ca c [])) (Y++[x]) (Z++[.obj C []]):=s.acP h d (by rw[bp];simp) #[Ca,c,[],o,bp,.nil];let a:∀{L:G Uw} {U:bC} {I:Hp},Wy (Y++[x]) (Z++[.obj C []]) (cy (cy H c (.own x)) x (.ins Ca c [])) L U I->XI (ow B L U) K I L (.ref x) (.rf Z.length):=λe=>#[x,e.pre _ _ (by rw[<-s.len];show bh),W];by_cases hn:(SV.rf Z.length::xs).length=n
 .rw[av hn]at w
  let i:W8 (ow B (Y++[x]) (Z++[.obj C []])) K (cy (cy H c (.own x)) x (.ins Ca c [])) (Y++[x]) (.ref x::vs) (.rf Z.length::xs):=.cons (a .refl) (W8.XB e m);show#[i.length.trans hn,B,_,_,_,l,i,?_];show WS.imp (WS.from e w.bind) λr S T J p j b v f=>?_;by_cases z:Kd r=P
  .rw[av z]at b;show#[KY z f,WS.now j b _ (a p)]
  .rw[ax z]at b;show b.elim
 .rw[ax hn]at w;show w.elim
def Io(f:UN K UI C=R (R (.ref Ca)))(c:FY K E o fa):gr K E (CW Ca (fM K n F) [] E0 o) (kW C F n fa):=by intro B N H Y Z ρ Q s b w;show c B N H Y Z ρ _ s b (w.bind.imp λxs X Z1 M g d a h e=>?_);show QA f d e (WS.e0 a)
def ii(Z:bC):SV->cv (Nat×G SV)
 |.rf i=>match Z[i]? with
  |some (.lst xs)=>R (i,xs)
  |_=>CL
 |_=>CL
def qI(s:U9 B K H Y Z)(b:XI (ow B Y Z) K H Y v x)(h:ii Z x=R (i,xs)):Z[i]?=R (.lst xs)/\∃a k,Y[i]?=R a/\v=.ref a/\H a=R (.lst k)/\W8 (ow B Y Z) K H Y k xs:=by
 cases x with
 |fz d=>ext h
 |tp l=>ext h
 |rf j=>
  let(a,n,rfl):=b;unfold ii at h;dsimp only at h;cases q:Z[j]? with
  |none=>rw[q]at h;ext h
  |some c=>
   rw[q]at h;cases c with
   |lst m=>let e:=UU h;ext e;let(k,g,f):=s.cel i a _ n q;show#[q,a,k,n,W,g,f]
   |_=>ext h
def yF(h:Paired d o xs)(r:d v x):Paired d (o++[v]) (xs++[x]):=by
 induction h with
 |nil=>show .cons r .nil
 |cons a _ b=>show .cons a b
def AZ(a c:gq):gq:=λρ Z=>(a ρ Z).bind λo Z1=>(RS.Vm Z1 (ii Z1 o)).bind λ_ Z1=>(c ρ Z1).bind λx T=>(RS.Vm T (ii T o)).bind λp b=>
 if p.2.length<1000000 then .ok (.fz .none) (b.set p.1 (.lst (p.2++[x])))else .bad
def La(C:gr K E to fo)(F:gr K E te fe):gr K E (Rk K "list" xE to (l6 te pN)) (AZ fo fe):=by
 intro B N H Y Z ρ Q s g w;show C B N H Y Z ρ _ s g (w.bind.imp λo X Z1 M e1 l d v m=>?_);let((i0,t),y,d):=WS.Vm d;let(_,p,e,_,rfl,P,_):=qI l m y;show#[.inl #[W,e,Yh.of P],?_];show F B N M X Z1 ρ _ l (g.XB e1) (d.bind.imp λx S T J e2 j b u A=>?_);let((i,xs),q,b):=WS.Vm b;let(f,a,vs,z,R,G,n):=qI j (m.XB e2) q;ext R;dsimp only at b;by_cases hn:xs.length<1000000
 .rw[av hn]at b;let ev:Ev (ow B S T) J (ow B S T) (cy J p (.lst (vs++[u]))):=uw z f (by nofun);show#[p,vs,u,W,W,G,xz (by rw[n.length];show hn),?_];show b S _ (Wy.put z f (by nofun) (by nofun)) (j.put z f (by nofun) (by nofun) #[_,bp,yF (Paired.Yv n λ_ _ r=>r.ev ev λ_ _ h=>h) (A.ev ev λ_ _ h=>h)]) _ .Xp
 .rw[ax hn]at b;show b.elim
end
inductive FlS where
 |nx (ρ:b3)
 |bk (ρ:b3)
 |ct (ρ:b3)
 |rt (x:SV)
abbrev g6:=b3->bC->RS FlS
abbrev z9:=SV->b3->bC->RS b3
abbrev GA:=G SV->b3->bC->RS b3
def GC(B:cN)(K:lD)(D:Ends):FlS->G J->bC->Hp->Prop
 |.nx a,α,Z,H=>∀σ,Xw (ow B α Z) K H α σ a->D.nx σ H
 |.bk a,α,Z,H=>∀σ,Xw (ow B α Z) K H α σ a->D.bk σ H
 |.ct a,α,Z,H=>∀σ,Xw (ow B α Z) K H α σ a->D.ct σ H
 |.rt x,α,Z,H=>∀v,XI (ow B α Z) K H α v x->D.rt v H
def vX(K:lD)(E:XK)(t:TS)(g:g6):Prop:=
 ∀(B:cN) (a:L2.St) (H:Hp) (α:G J) (Z:bC) (b:b3) (D:Ends),U9 B K H α Z->Xw (ow B α Z) K H α a b->WS K E B H α Z (GC B K D) (g b Z)->t D a H
def Lr(K:lD)(E:XK)(g:TG)(f:z9):Prop:=
 ∀(B:cN) (d:L2.St) (H:Hp) (α:G J) (Z:bC) (j:b3) (v:V) (x:SV) (Q:L2.St->Hp->Prop),U9 B K H α Z->Xw (ow B α Z) K H α d j->XI (ow B α Z) K H α v x->WS K E B H α Z (λb a h e=>∀i,Xw (ow B a h) K e a i b->Q i e) (f x j Z)->g v d H Q
def Mq(K:lD)(E:XK)(g:NP)(f:GA):Prop:=
 ∀(B:cN) (d:L2.St) (H:Hp) (α:G J) (Z:bC) (j:b3) (l:G V) (xs:G SV) (Q:L2.St->Hp->Prop),U9 B K H α Z->Xw (ow B α Z) K H α d j->W8 (ow B α Z) K H α l xs->WS K E B H α Z (λb a h e=>∀i,Xw (ow B a h) K e a i b->Q i e) (f xs j Z)->g l d H Q
section
variable{B O O':cN}{K:lD}{E:XK}{H N P M:Hp}{X I U Y:cn Uw}{Z Z' Z1 S:bC}{T:L2.St}{ρ:b3}{v:V}
def Xw.set(a:Xw O K H X T ρ)(h:XI O K H X v x):Xw O K H X (T.set i (R v)) (ρ.set i (R x)):=by
 show#[by rw[VO,VO];show a.1,λj y d=>?_];rcases dE d with⟨rfl,e⟩|⟨l,b⟩
 .ext e;show#[v,?_,h];rw[W2];let:=yN d;rw[a.1];show this
 .let(u,g,f):=a.2 j y b;show#[u,by rw[Xl (λz=>l z.symm)];show g,f]
def gb(i:Nat):z9:=λx ρ Z=>.ok (ρ.set i (R x)) Z
theorem bN:Lr K E (zL i) (gb i):=λB T H X Z ρ v x Q s a h w=>WS.now s w _ (a.set h)
def z8:GA:=λxs ρ Z=>match xs with
 |[]=>.ok ρ Z
 |_=>.bad
def oQ(f:z9)(g:GA):GA:=λxs ρ Z=>match xs with
 |x::r=>(f x ρ Z).bind λa Z1=>g r a Z1
 |[]=>.bad
def Dc:Mq K E PB z8:=by
 intro B T H X Z ρ b xs Q s a h w;cases h with
 |nil=>show#[W,WS.now s w _ a]
 |cons _ _=>show w.elim
def uM(o:Lr K E t f)(n:Mq K E u g):Mq K E (Gu t u) (oQ f g):=by
 intro B T H X Z ρ q xs Q s l h w;cases h with
 |nil=>show w.elim
 |cons a b=>show#[_,_,W,o B T H X Z ρ _ _ _ s l a (WS.imp (WS.bind w) λe U Z1 P p m j d i=>?_)];show n B d P U Z1 e _ _ _ m i (W8.XB p b) j
def G8:SV->cv (G SV)
 |.fz (.tuple ds)=>R (ds.map .fz)
 |.tp l=>R (l.map AV.sv)
 |_=>L
def NO(h:XI O K H X v x)(e:G8 x=R xs):∃a c,v=.ref a/\Zp O K H a c/\W8 O K H X c xs:=by
 unfold G8 at e;split at e
 .ext e
  cases h with
  |tup h d=>show#[_,_,W,h,rL _ _ d]
 .ext e;let(a,b,rfl,g,f):=h;show#[a,b,W,g,ym f]
 .ext e
def Nz(n:Nat)(f:GA):z9:=λx ρ Z=>(RS.Vm Z (G8 x)).bind λxs Z1=>if xs.length=n then f xs ρ Z1 else .bad
def Es(h:Mq K E t f):Lr K E (Qq K n t) (Nz n f):=by
 intro B T H X Z ρ v x Q s d e w;let(xs,q,w):=WS.Vm w;let(a,i,rfl,g,b):=NO e q;by_cases hn:xs.length=n
 .rw[av hn]at w;show#[a,i,W,g.1,b.length.trans hn,h B T H X Z ρ i xs Q s d b w]
 .rw[ax hn]at w;show w.elim
def cQ:g6:=λρ Z=>.ok (.nx ρ) Z
def aR(f g:g6):g6:=λρ Z=>(f ρ Z).bind λa Z1=>match a with
 |.nx b=>g b Z1
 |a=>.ok a Z1
def dj(f:gq):g6:=λρ Z=>(f ρ Z).bind λ_ Z1=>.ok (.nx ρ) Z1
def dW(f:gq)(g:z9):g6:=λρ Z=>(f ρ Z).bind λx Z1=>(g x ρ Z1).bind λa S=>.ok (.nx a) S
def cT(c:wq)(f g:g6):g6:=λρ Z=>(c ρ Z).bind λb Z1=>if b=Uq then f ρ Z1 else g ρ Z1
def gB(f:gq):g6:=λρ Z=>(f ρ Z).bind λx Z1=>.ok (.rt x) Z1
def wZ:g6:=λ_ Z=>.ok (.rt (.fz .none)) Z
def Ex:g6:=λ_ _=>.bad
theorem jG:vX K E J0 cQ:=λB T H X Z ρ D s a w=>WS.now s w T a
theorem xm:vX K E B2 Ex:=λB T H X Z ρ D s a w=>w.elim
theorem Hq:vX K E NC wZ:=λB T H X Z ρ D s a w=>WS.now s w .Xp .Xp
def aJ(l:vX K E t f)(j:vX K E u g):vX K E (OE t u) (aR f g):=by
 intro B T H X Z ρ D s i w;show l B T H X Z ρ {D with nx:=u D} s i (WS.imp (WS.bind w) λm U Z1 P n d b=>?_);cases m with
 |nx a=>show λe h=>j B e P U Z1 a D d h b
 |rt x=>show WS.now (E:=E) d b
 |bk a=>show WS.now (E:=E) d b
 |ct a=>show WS.now (E:=E) d b
def qJ(h:gr K E t f):vX K E (IP t) (dj f):=by intro B T H X Z ρ D s a w;show h B T H X Z ρ _ s a (WS.imp (WS.bind w) λx U Z1 P e d b v g=>WS.now d b T (a.XB e))
def dQ(h:gr K E t f)(o:Lr K E g C):vX K E (Jx t g) (dW f C):=by intro B T H X Z ρ D s d w;show h B T H X Z ρ _ s d (WS.imp (WS.bind w) λx U Z1 P p m j v n=>?_);show o B T P U Z1 ρ v x _ m (d.XB p) n (WS.imp (WS.bind j) λe Y S M q l i a b=>WS.now l i a b)
def pq(i:zt K E c o)(l:vX K E t f)(j:vX K E u g):vX K E (Pp c t u) (cT o f g):=by
 intro B T H X Z ρ D s a w;show i B T H X Z ρ _ s a (WS.imp (WS.bind w) λb U Z1 P h e d=>?_);cases b with
 |true=>show l B T P U Z1 ρ D e (a.XB h) d
 |false=>show j B T P U Z1 ρ D e (a.XB h) d
def eP(h:gr K E t f):vX K E (NN t) (gB f):=by intro B T H X Z ρ D s b w;show h B T H X Z ρ _ s b (WS.imp (WS.bind w) λx U Z1 P g d a v e=>WS.now d a v e)
def dI(f:Str)(x:SV):G (Str×SV)->G (Str×SV)
 |[]=>[(f,x)]
 |(g,y)::r=>if g=f then(g,x)::r else(g,y)::dI f x r
def Qr(h:XI O K H X v x):∀{ws:G (Str×V)} {fs:G (Str×SV)},Paired (λ(p:Str×V) (q:Str×SV)=>p.1=q.1/\XI O K H X p.2 q.2) ws fs->Paired (λ(p:Str×V) (q:Str×SV)=>p.1=q.1/\XI O K H X p.2 q.2) (kO f v ws) (dI f x fs):=by
 intro ws fs p
 induction p with
 |nil=>show .cons #[W,h] .nil
 | @cons a b _ _ q t i=>
  let(g,u):=a;let(d,y):=b;let(e,k):=q;ext e;unfold kO dI;by_cases z:g=f
  .rw[av z,av z];show .cons #[W,h] t
  .rw[ax z,ax z];show .cons #[W,k] i
def F1(Z:bC)(C:Str):SV->cv (Nat×G (Str×SV))
 |.rf i=>match Z[i]? with
  |some (.obj D fs)=>if D=C then R (i,fs)else L
  |_=>L
 |_=>L
def RP(s:U9 B K H X Z)(b:XI (ow B X Z) K H X v x)(h:F1 Z C x=R (i,fs)):Z[i]?=R (.obj C fs)/\∃a k o ws,X[i]?=R a/\v=.ref a/\UN K UI C=R (R (.ref k))/\H a=R (.ins k o ws)/\Paired (λ(p:Str×V) (q:Str×SV)=>p.1=q.1/\XI (ow B X Z) K H X p.2 q.2) ws fs:=by
 cases x with
 |fz d=>ext h
 |tp l=>ext h
 |rf j=>
  let(a,r,rfl):=b;unfold F1 at h;dsimp only at h;cases q:Z[j]? with
  |none=>rw[q]at h;ext h
  |some c=>
   rw[q]at h;cases c with
   |obj D n=>
    dsimp only at h;by_cases z:D=C
    .subst z;rw[av W]at h;let e:=UU h;ext e;let(k,o,ws,m,g,f):=s.cel i a _ r q;show#[q,a,k,o,ws,r,W,m,g,f]
    .rw[ax z]at h;ext h
   |_=>ext h
def fx(C f:Str)(a c:gq):g6:=λρ Z=>(c ρ Z).bind λx Z1=>(a ρ Z1).bind λo S=>(RS.Vm S (F1 S C o)).bind λp b=>if p.2.length<100 then .ok (.nx ρ) (b.set p.1 (.obj C (dI f x p.2)))else .bad
def jt(c:fq K C z)(R:f∈z)(Q:gr K E to fo)(he:gr K E te fe):vX K E (Q0 K to te f) (fx C f fo fe):=by
 intro B T H X Z ρ D s e w;show he B T H X Z ρ _ s e (WS.imp (WS.bind w) λx U Z1 P y F A v G=>?_);show Q B T P U Z1 ρ _ F (e.XB y) (WS.imp (WS.bind A) λo Y S M t j b u J=>?_);let((i,fs),q,b):=WS.Vm b;let(g,a,d,dx,ws,ha,rfl,m,h1,l):=RP j J q;let(Cb,n,g1,g2):=c;rw[m]at n;ext n;dsimp only at b;by_cases hn:fs.length<100
 .rw[av hn]at b;let ev:Ev (ow B Y S) M (ow B Y S) (cy M a (.ins d dx (kO f v ws))):=uw ha g (by nofun);let p:Wy Y S M Y (S.set i (.obj C (dI f x fs))) (cy M a (.ins d dx (kO f v ws))):=Wy.put ha g (by nofun) (by nofun);let hl:=Paired.length l;show#[a,d,dx,ws,W,h1,g1,g2 f R,by ext,?_];show b Y _ p (j.put ha g (by nofun) (by nofun) #[d,dx,_,m,bp,Qr ((G.XB t).ev ev λ_ _ h=>h) (Paired.Yv l λ_ _ r=>#[r.1,r.2.ev ev λ_ _ h=>h])]) T ((e.XB (y.trans t)).XB p)
 .rw[ax hn]at b;show b.elim
abbrev QK:=b3->bC->RS (G D)
def SR(K:lD)(E:XK)(b:TI)(c:QK):Prop:=
 ∀(B:cN) (T:L2.St) (H:Hp) (X:G Uw) (Z:bC) (ρ:b3) (a:It->Hp->Prop),U9 B K H X Z->Xw (ow B X Z) K H X T ρ->WS K E B H X Z (λds I Z' N=>∀J,tz K J (ow B I Z') N ds->a J N) (c ρ Z)->b T H a
def ma(f:FI):QK:=λρ Z=>match f (cZ ρ)with
 |.ok (ds,_)=>.ok ds Z
 |.er x=>.er x Z
 |.bad=>.bad
def qQ(h:IO K E C f):SR K E C (ma f):=by
 intro B T H X Z ρ j s d w;show h (ow B X Z) H (ow B X Z) T H (cZ ρ) j (HG s d) ?_;unfold ma at w;cases q:f (cZ ρ)with
 |bad=>rw[q]at w;show w.elim
 |er x=>rw[q]at w;show λc m N e k=>w c m X N (Wy.same e) (s.grow e) k
 |ok r=>let(ds,a):=r;rw[q]at w;show λO' J N e R g=>w X N (Wy.same R.same) (s.grow R.same) J λl M i n=>g l M (λb o h z=>i b o h λy=>z (R.bo b y)) n
def kX(a:gq):QK:=λρ Z=>(a ρ Z).bind λx Z1=>(match frz 4 Z1 x with
 |some (d,S)=>RS.Vm S (gk d)
 |none=>.bad)
def pX(h:gr K E C fe):SR K E (G7 K C) (kX fe):=by
 intro B T H X Z ρ n s g w;show h B T H X Z ρ _ s g (WS.imp (WS.bind w) λx U Z1 P m i a v j=>?_);cases q:frz 4 Z1 x with
 |none=>rw[q]at a;show a.elim
 |some p=>
  let(d,S):=p;rw[q]at a;let(e,f,l):=xG 4 i j q;dsimp only at a;cases o:gk d with
  |none=>rw[o]at a;show a.elim
  |some ds=>
   rw[o]at a;cases l with
   |tup h b=>ext o;show#[_,W,.inr #[#[_,h.1],a U P f e _ (Iq h b)]]
   |lst h b=>ext o;show#[_,W,.inl #[#[_,h.1.sq],a U P f e _ (CQ h b)]]
   |_=>ext o
def mG(gt:z9)(b:g6):G D->g6
 |[],ρ,Z=>.ok (.nx ρ) Z
 |d::r,ρ,Z=>(gt (.fz d) ρ Z).bind λa Z1=>(b a Z1).bind λe S=>match e with
  |.nx f=>mG gt b r f S
  |.ct f=>mG gt b r f S
  |.bk f=>.ok (.nx f) S
  |.rt x=>.ok (.rt x) S
def wf(a:QK)(gt:z9)(b:g6):g6:=λρ Z=>(a ρ Z).bind λds Z1=>mG gt b ds ρ Z1
def tZ(c:SR K E wi fi)(k:Lr K E g gt)(hb:vX K E tb b):vX K E (Qc wi g tb) (wf fi gt b):=by
 intro B T H X Z ρ D s Q w;show c B T H X Z ρ _ s Q (WS.imp (WS.bind w) λds U Z1 P e1 s1 w1 J it=>?_);show#[λi m a N=>m=ds.length - i/\i<=ds.length/\∃Y S ρ2,Wy U Z1 P Y S N/\U9 B K N Y S/\Xw (ow B Y S) K N Y a ρ2/\WS K E B N Y S (GC B K D) (mG gt b (ds.drop i) ρ2 S),#[_,W,V0 _,U,Z1,ρ,.refl,s1,Q.XB e1,w1],?_];rintro i m j M ⟨rfl,c,Y,S,ρ2,e2,s2,sl2,w2⟩;let(go,n):=it (ow B Y S) M e2.ev s2.noO;by_cases t:i<ds.length
 .let(g1,g2):=go i t
  show .inr #[g1,λa N=>i+1<=ds.length/\∃Y S ρ2,Wy U Z1 P Y S N/\U9 B K N Y S/\Xw (ow B Y S) K N Y a ρ2/\WS K E B N Y S (GC B K D) (mG gt b (ds.drop (i+1)) ρ2 S),λa N #[h1,h2]=>#[ds.length - (i+1),by ext,W,h1,h2],λx L y=>?_];let(R,d,hd,dv):=g2 x L y;let ed:ds.drop i=d::ds.drop (i+1):=by let(_,q):=Uo.mp hd;rw[WL t,q]
  rw[ed]at w2;let G:Wy Y S M Y S L:=Wy.same R;show k B j L Y S ρ2 x (.fz d) _ (s2.grow R) (sl2.XB G) dv (WS.imp (WS.bind (WS.from G w2)) λA C Z4 H4 e4 s4 w3 z F=>?_);show hb B z H4 C Z4 A _ s4 F (WS.imp (WS.bind w3) λfl l Z5 H5 e5 r p=>?_);let o:=e2.trans (G.trans (e4.trans e5));cases fl with
  |nx f=>show λu h=>#[t,l,Z5,f,o,r,h,p]
  |ct f=>show λu h=>#[t,l,Z5,f,o,r,h,p]
  |bk f=>show WS.now (E:=E) r p
  |rt x=>show WS.now (E:=E) r p
 .let e:i=ds.length:=by ext
  subst e;rw[XJ (Uy _)]at w2;show .inl #[n,WS.now s2 w2 j sl2]
end
section
variable{B O O':cN}{K:lD}{E:XK}{H S R I:Hp}{U M X Y:cn Uw}{Z Z' Z1 T:bC}{L:L2.St}{ρ:b3}{v:V}
def fw(gt:z9)(c:wq)(f:gq):G D->b3->bC->G SV->RS (G SV)
 |[],_,Z,acc=>.ok acc Z
 |d::r,ρ,Z,acc=>(gt (.fz d) ρ Z).bind λa Z1=>(c a Z1).bind λb T=>if b=P then(f a T).bind λx e=>(if acc.length<1000000 then fw gt c f r a e (acc++[x])else .bad)else fw gt c f r a T acc
def k7(n:Nat)(a:G Nat)(ρ:b3):b3:=Us n CL++a.map λj=>(ρ[j]?).join
def l8(n:Nat)(a:G Nat)(c:QK)(gt:z9)(b:wq)(d:gq):gq:=λρ Z=>(c ρ Z).bind λds Z1=>(kZ (fw gt b d ds (k7 n a ρ) Z1 [])).bind λxs T=>.ok (.rf T.length) (T++[.lst xs])
def Ee{own:G Str}{d:G (Str×Nat)}{n:Nat}{f:G Nat}(c:own.length=n)(h:d.map (·.2)=f)(i:Xw O K H U L ρ):Xw O K H U (jN own d L) (k7 n f ρ):=by
 unfold jN k7;rw[CO c];let l:d.length=f.length:=by rw[<-h,Ur]
 show#[by rw[UB,UB,UR,UR,Ur,Ur,l],λj x b=>?_];by_cases g:j<n
 .rw[U6 (by rw[UR];show g),Wm,av g]at b;ext b
 .rw[US (by rw[UR];ext),UR,UK]at b⊢
  subst h;rw[UK]at b;cases q:d[j - n]? with
  |none=>rw[q]at b;ext b
  |some p=>
   rw[q]at b;let a:(ρ[p.2]?).join=cL x:=UU b;let e:ρ[p.2]?=cL (cL x):=by
    cases t:ρ[p.2]? with
    |none=>rw[t]at a;ext a
    |some o=>rw[t]at a;show ec cL a
   let(u,r,m):=i.2 p.2 x e;show#[u,by show cL ((L[p.2]?).join)=_;rw[r];rfl,m]
def Hi{p:J}{c:Cell}(a:U.length=Z.length)(e:c≠.dead):ow (cM B p) U Z=ow B (U++[p]) (Z++[c]):=by
 funext b;show propext #[λz=>?_,λz=>?_]
 .rcases z with(z|z)|⟨i,d,h1,g,f⟩
  .show .inl z
  .show .inr #[U.length,c,by rw[z];show bh,by rw[a];show bh,e]
  .show .inr #[i,d,i8 h1,i8 g,f]
 .rcases z with z|z
  .show .inl (.inl z)
  .rcases vR a z with z|z
   .show .inr z
   .show .inl (.inr z)
def U9.adopt{p:J}{c:G V}{xs:G SV}(s:U9 (cM B p) K H U Z)(l:H p=cL (.lst c))(m:W8 (ow (cM B p) U Z) K H U c xs)(n:¬B p):U9 B K H (U++[p]) (Z++[.lst xs]):=by
 let t:ow (cM B p) U Z=ow B (U++[p]) (Z++[.lst xs]):=Hi s.len (by nofun);let b:∀(i:Nat) (a:J),U[i]?=cL a->(U++[p])[i]?=cL a:=λi a h=>i8 h;let g:∀i:Nat,U[i]?≠cL p:=s.ba p (.inr W);show#[by rw[UB,UB,s.len];rfl,λi j a e f=>?_,λa h=>s.bn a (.inl h),λa h i q=>?_,λi a h=>?_,λi a d e f=>?_]
 .rcases dM e with g1|⟨z,u⟩<;>rcases dM f with g2|⟨y,A⟩
  .show s.nd i j a g1 g2
  .rw[A]at g1;show bg g1 (g i)
  .rw[u]at g2;show bg g2 (g j)
  .omega
 .rcases dM q with q|⟨_,u⟩
  .show s.ba a (.inl h) i q
  .subst u;show n h
 .rcases dM h with h|⟨_,u⟩
  .show s.al i a h
  .rw[u,l];simp
 .rw[<-t]
  rcases dM f with g2|⟨z,u⟩
  .rcases dM e with g1|⟨z,_⟩
   .show(s.cel i a d g1 g2).ev .refl b λo q=>q
   .let:=(Uo.mp g2).1;let:=s.len;ext
  .rcases dM e with g1|⟨_,y⟩
   .let:=(Uo.mp g1).1;let:=s.len;ext
   .rw[u,y];show#[c,l,Paired.Yv m λ_ _ r=>r.ev .refl b]
def U9.hide{p:J}{o:HO}(s:U9 B K H U Z)(f:H p=CL):U9 (cM B p) K (cy H p o) U Z:=by let d:Wr H (cy H p o):=bZ f o;let g:=s.grow d;let ev:Ev (ow B U Z) H (ow (cM B p) U Z) (cy H p o):=λb u h n=>#[d b u h,λz=>z.elim (λz=>z.elim (λz=>n (.inl z)) λz=>by rw[z,f]at h;ext h) λz=>n (.inr z)];show#[g.len,g.nd,λa h=>h.elim (g.bn a) λe=>by rw[e,bp];simp,λa h i q=>h.elim (λh=>g.ba a h i q) λe=>by rw[e]at q;show s.al i p q f,g.al,λi a c l j=>?_];show(s.cel i a c l j).ev ev (λ_ _ h=>h) λo q=>d _ _ q
def U9.ahL{p:J}{o d:HO}(s:U9 (cM B p) K H U Z)(g:H p=cL o):U9 (cM B p) K (cy H p d) U Z:=by
 let ev:Ev (ow (cM B p) U Z) H (ow (cM B p) U Z) (cy H p d):=Ev.mut (.inl (.inr W)) d;let n:∀b,H b≠CL->cy H p d b≠CL:=λb h=>by
  by_cases z:b=p
  .subst z;rw[bp];simp
  .rw[bG z];show h
 show#[s.len,s.nd,λa h=>n a (s.bn a h),s.ba,λi a h=>n a (s.al i a h),λi a c e f=>(s.cel i a c e f).ev ev (λ_ _ h=>h) λu q=>?_];let:a≠p:=λz=>s.ba p (.inr W) i (by rw[<-z];show e);rw[bG this];show q
theorem Wy.dd{p:J}{o:HO}(e:Wy X Z1 R U Z H)(a:R p=CL):Wy X Z1 R U Z (cy H p o):=#[e.pre,λb u h n=>by rw[bG (cU h a)];show e.kp b u h n,e.lv]
theorem U9.aeD{p:J}(s:U9 (cM B p) K H U Z):U9 B K H U Z:=
 #[s.len,s.nd,λa h=>s.bn a (.inl h),λa h=>s.ba a (.inl h),s.al,λi a c e d=>(s.cel i a c e d).ev (λb o h n=>#[h,λy=>n (y.elim (λy=>.inl (.inl y)) .inr)]) (λ_ _ h=>h) λ_ h=>h]
def CC{own:cn Str}{fv:cn (Str×Nat)}{g:TG}{tc:TT}{te:TE}{gt:z9}{s:wq}{k:gq}{n:Nat}{fj:cn Nat}{J:It}{Q:VK}{ds:cn D}(hn:own.length=n)(hf:fv.map (·.2)=fj)
  (hg:Lr K E g gt) (ht:zt K E tc s) (he:gr K E te k) (s1:U9 B K R X Z1) (sl1:Xw (ow B X Z1) K R X L ρ) (it:tz K J (ow B X Z1) R ds) (w1:WS K E B R X Z1 (PQ B K Q) ((fw gt s k ds (k7 n fj ρ) Z1 []).bind λxs T=>.ok (.rf T.length) (T++[.lst xs]))):
  ∀D,R D=CL->DA J D (jN own fv L) g tc te R λS=>Q (.ref D) S:=by
 intro p hD;let slc:Xw (ow B X Z1) K R X (jN own fv L) (k7 n fj ρ):=Ee hn hf sl1;generalize qr:fw gt s k ds (k7 n fj ρ) Z1 []=rr at w1;by_cases w:rr=.bad
 .subst w;show w1.elim
 .
  let hB:¬B p:=λz=>s1.bn p z hD;let evH:∀{Y:cn Uw} {T:bC} {S:Hp},Wy X Z1 R Y T S->Ev (ow B X Z1) R (ow (cM B p) Y T) S:=λe b o h n=>#[e.kp b o h λz=>n (.inr z),λz=>by
   rcases z with(z|z)|z
   .show n (.inl z)
   .rw[z,hD]at h;ext h
   .show(e.lv b z).elim (λq=>n (.inr q)) λq=>by rw[h]at q;ext q]
  show#[λi m σ' S=>m=ds.length - i/\i<=ds.length/\∃Y T ρc acc ys,Wy X Z1 R Y T S/\U9 (cM B p) K S Y T/\Xw (ow (cM B p) Y T) K S Y σ' ρc/\S p=cL (.lst ys)/\W8 (ow (cM B p) Y T) K S Y ys acc/\fw gt s k (ds.drop i) ρc T acc=rr,
   #[_,W,V0 _,X,Z1,k7 n fj ρ,[],[],Wy.same (bZ hD _),s1.hide hD,?_,bp,.nil,qr],?_]
  .show#[slc.1,λj x hx=>let#[v,h1,h2]:=slc.2 j x hx;#[v,h1,h2.ev (evH (Wy.same (bZ hD _))) λ_ _ h=>h]]
  .rintro i m σ2 I ⟨rfl,hi,Y,T,ρ2,acc,ys,e2,s2,sl2,hy,vy,f⟩
   let(go,stop):=it (ow (cM B p) Y T) I (evH e2) s2.noO;by_cases X8:i<ds.length
   .let(g1,g2):=go i X8
    show .inr #[g1,λσ5 C=>i+1<=ds.length/\∃Y T ρc acc ys,Wy X Z1 R Y T C/\U9 (cM B p) K C Y T/\Xw (ow (cM B p) Y T) K C Y σ5 ρc/\C p=cL (.lst ys)/\W8 (ow (cM B p) Y T) K C Y ys acc/\fw gt s k (ds.drop (i+1)) ρc T acc=rr,
     λσ5 C #[h1,h2]=>#[ds.length - (i+1),by ext,W,h1,h2],λx H3 y=>?_]
    let(s3,d,hd,dv):=g2 x H3 y;let ed:ds.drop i=d::ds.drop (i+1):=by let(_,q):=Uo.mp hd;rw[WL X8,q]
    rw[ed]at f;unfold fw at f;let e3:Wy Y T I Y T H3:=Wy.same s3;let kD:∀{αx αy:cn Uw} {Zx Zy:bC} {Hx Hy:Hp} {o:HO},U9 (cM B p) K Hx αx Zx->Wy αx Zx Hx αy Zy Hy->Hx p=cL o->Hy p=cL o:=λsx ex h=>ex.kp _ _ h λ#[i,c,q,_]=>sx.ba p (.inr W) i q;let t:∀{G:cn Uw} {Z3:bC} {H3:Hp} {z:Xc} {A:bC},Wy X Z1 R G Z3 H3->RS.er z A=rr->∀c dx M S,Wy G Z3 H3 M A S->U9 (cM B p) K S M A->XOk K (ow (cM B p) M A) S c dx z->E c dx S:=λ{G Z3 H3 z A} e3 q c dx M S e s' x'=>by subst q;show w1 c dx M S (e3.trans e) s'.aeD (XOk.sub (λb y=>y.elim (λy=>.inl (.inl y)) .inr) x')
    show hg (cM B p) σ2 H3 Y T ρ2 x (.fz d) _ (s2.grow s3) (sl2.XB e3) dv ?_;cases qg:gt (.fz d) ρ2 T with
    |er z A=>rw[qg]at f;show t (e2.trans e3) f
    |bad=>rw[qg]at f;show w f.symm
    |ok l Z4=>
     rw[qg]at f;intro α4 H4 e4 s4 σ4 sl4;show ht (cM B p) σ4 H4 α4 Z4 l _ s4 sl4 ?_;let f:((s l Z4).bind λb T=>if b=Uq then(k l T).bind λx Z3=>(if acc.length<1000000 then fw gt s k (ds.drop (i+1)) l Z3 (acc++[x])else .bad)else fw gt s k (ds.drop (i+1)) l T acc)=rr:=f;cases qt:s l Z4 with
     |er z A=>rw[qt]at f;show t (e2.trans (e3.trans e4)) f
     |bad=>rw[qt]at f;show w f.symm
     |ok b Z5=>
      rw[qt]at f;intro α5 C e5 s5;let N:=sl4.XB e5;let u:=e3.trans (e4.trans e5);cases b with
      |false=>let f:fw gt s k (ds.drop (i+1)) l Z5 acc=rr:=f;show#[X8,α5,Z5,l,acc,ys,e2.trans u,s5,N,kD s2 u hy,W8.XB u vy,f]
      |true=>
       let f:((k l Z5).bind λx Z3=>(if acc.length<1000000 then fw gt s k (ds.drop (i+1)) l Z3 (acc++[x])else .bad))=rr:=f;rw[av W];show he (cM B p) σ4 C α5 Z5 l _ s5 N ?_;cases qe:k l Z5 with
       |er z A=>rw[qe]at f;show t (e2.trans u) f
       |bad=>rw[qe]at f;show w f.symm
       |ok x6 Z6=>
        rw[qe]at f;intro F H6 e6 s6 v6 hv6;let f:(if acc.length<1000000 then fw gt s k (ds.drop (i+1)) l Z6 (acc++[x6])else .bad)=rr:=f;by_cases P:acc.length<1000000
        .rw[av P]at f;let e36:=u.trans e6;let hy6:H6 p=cL (.lst ys):=kD s2 e36 hy;let vy6:=W8.XB e36 vy;let em:Ev (ow (cM B p) F Z6) H6 (ow (cM B p) F Z6) (cy H6 p (.lst (ys++[v6]))):=Ev.mut (.inl (.inr W)) _;let sl6:=N.XB e6;show#[ys,hy6,xz (by rw[vy6.length];show P),X8,F,Z6,l,acc++[x6],ys++[v6],(e2.trans e36).dd hD,s6.ahL hy6,#[sl6.1,λj x hx=>let#[v,h1,h2]:=sl6.2 j x hx;#[v,h1,h2.ev em λ_ _ h=>h]],bp,yF (Paired.Yv vy6 λ_ _ r=>r.ev em λ_ _ h=>h) (hv6.ev em λ_ _ h=>h),f]
        .rw[ax P]at f;show bg f.symm w
   .let e:i=ds.length:=by ext
    subst e;rw[XJ (Uy _)]at f;let f:RS.ok acc T=rr:=f;subst f;show .inl #[stop,?_];show w1 (Y++[p]) I #[λi a h=>i8 (e2.pre i a h),e2.kp,λb z=>(vR s2.len z).elim (e2.lv b) λz=>.inr (by rw[z];show hD)] (s2.adopt hy vy hB) (.ref p) #[p,by rw[<-s2.len];show bh,W]
def IB{A C:Type}{P:C->G J->bC->Hp->Prop}{r:RS A}{k:A->bC->C}{m:A->bC->bC}(w:WS K E B H U Z P ((kZ r).bind λa o=>.ok (k a o) (m a o))):WS K E0 B H U Z P (r.bind λa o=>.ok (k a o) (m a o)):=by
 cases r with
 |ok a o=>show w
 |er x o=>show w.elim
 |bad=>show w
def ra{own:G Str}{f:G (Str×Nat)}{a:TI}{g:TG}{d:TT}{b:TE}{k:QK}{gt:z9}{c:wq}{t:gq}{n:Nat}{h:G Nat}(u:own.length=n)(p:f.map (·.2)=h)
  (x:SR K E a k) (o:Lr K E0 g gt) (m:zt K E0 d c) (q:gr K E0 b t):gr K E (wR own f a g d b) (l8 n h k gt c t):=by
 intro B L H U Z ρ Q s e w;show x B L H U Z ρ _ s e (WS.imp (WS.bind w) λds X Z1 R r j i J l=>?_);show CC u p o m q j (e.XB r) l (IB i)
def eW(N:Nat)(g:g6):jW:=λxs Z=>(g (xs.map cL++Us (N - xs.length) CL) Z).bind λa Z1=>match a with
 |.rt x=>.ok x Z1
 |.nx _=>.ok (.fz .none) Z1
 |_=>.bad
def F8{N:G Str}{c:G V}{xs:G SV}(h:W8 O K H U c xs):Xw O K H U (L2.start N c) (xs.map cL++Us (N.length - xs.length) CL):=by
 let b:c.length=xs.length:=Paired.length h;ext L2.start;show#[by rw[UB,UB,Ur,Ur,UR,UR,b],λi x a=>?_];by_cases hi:i<xs.length
 .rw[U6 (by rw[Ur];show hi),UK]at a
  cases q:xs[i]? with
  |none=>rw[q]at a;ext a
  |some d=>rw[q]at a;ext a;let(v,e,f):=Bz h q;show#[v,?_,f];rw[U6 (by rw[Ur,b];show hi),UK,e];rfl
 .rw[US (by rw[Ur];ext),Wm]at a;split at a<;>ext a
def Bw{N:G Str}{c:G V}{xs:G SV}{g:g6}{t:TS}{Q:VK}{n:Nat}(e:vX K E t g)(h:fM K n (eW N.length g) c H Q E):t {nx:=λ_ S=>Q .Xp S,rt:=Q} (L2.start N c) H:=by
 let(j,B,U,Z,xs,s,d,w):=h;show e B _ H U Z _ _ s (F8 d) (WS.imp (WS.bind w) λf X Z1 R l b a=>?_);cases f with
 |rt x=>show WS.now (E:=E) b a
 |nx ρ=>show λL i=>WS.now (E:=E) b a .Xp .Xp
 |bk ρ=>show a.elim
 |ct ρ=>show a.elim
end
def Ug{P:UY}{w:Vi}{K:lD}{q:Str->cv M}{base:Heap}{x a:Str}{st:Xg}{f:J}{d:V3}{N c:G Str}{k n m:Nat}{g:g6}{e:jW}(F:WA K x a st f d)(S:YB N c (bH st))(u:c.length=n)(hm:N.length=m)(o:e=eW m g)
  (p:∀(b:M) (A:Vc) (outer:G Env) (s:Uv) (H:Hp) (E:XK),W0 k (A.deeper (Vt a (bH st) s.heap.objs.size f b))->
   ∃t,PSs (uR cz P w K q base N a (bH st) f b A outer s H E).nox (gR st) t/\vX K E t g):FnOk P w K q base cz (k+1) f d c (fM K n e):=by
 subst o hm;show F.ok S (λr H Q E h=>h.1.trans u.symm) (λb A outer s H r Q E l h=>?_);let(t,i,j):=p b A outer s H E l;show#[t,i,Bw (xs:=[]) j h]
abbrev Sj(P:UY)(w:Vi)(K:lD)(b:Str->cv M)(base:Heap)(k:Nat)(x:Str)(a:G Str)(n:Nat)(F:jW):Prop:=Ak P w K b base k x a (fM K n F)
end L10
namespace PySem.W
open PySem PySem.Calls PyProof.Rows PyProof.V PySem.Spec
section
variable{X:UY}{w:Vi}{A:Vc}{E:Um->Uv->Prop}{s:Uv}{T:String}{r d:Uw}{n:Nat}{P:Nat->Um->Prop}{U:Heap->Prop}
def collect_kdl(K:KdlSrc X w T r d n P U)(p:A.handled=L)(j:U s.heap)(x:n<=UG)
  (t:∀c k acc,(∀b o,s.heap.get? b=cL o->c.get? b=cL o)->akR P acc n->Q acc.toList {s with heap:=c,toks:=k}):wpAny (model X w) A (collect (.ref r)) Q E s:=by
 let i:=K.there _ j;ext collect;show Ld (wpAny_runValue (Xj F.entry_proto_collect ?_));rw[Vc.under_plainId F.plain_proto_collect _];show Ld (Wd ?_);show Uz #[XH F.plain_list_iadd _,Xj F.entry_list_iadd ?_];rw[Vc.under_plainId F.plain_list_iadd _];let q:(s.heap.push {cls:=.type "list",data:=.seq ([]:G M).toArray}).get? s.heap.objs.size=cL {cls:=.type "list",data:=.seq ([]:G M).toArray}:=da _ W;show kdl_extend (R:=wants (λv l=>wpAny (model X w) A (match v with|.ref a=>(load a>>=λo=>match o.data with|.seq xs _=>pure xs.toList|_=>unsupported "internal:collect")|_=>unsupported "internal:collect") Q E l) E) (s:={s with heap:=s.heap.push {cls:=.type "list",data:=.seq ([]:G M).toArray}}) K p (K.keep _ _ j λb _ o e=>c5 _ e) _ (VQ i.1) (VQ i.2) _ 0 q (λc k g u m f h=>?_) x;show Ld (afX f ?_);show Uz (t c k g (λb o e=>m b o (UP (c6 e)) (c5 _ e)) h)
end
end PySem.W
namespace PyProof.Rows
open PySem
section
variable{X:UY}{w:Vi}{A:Vc}{E:Um->Uv->Prop}{s:Uv}{T:String}{r d:Uw}{n:Nat}{P:Nat->Um->Prop}{U:Heap->Prop}
def Cd(K:PySem.W.KdlSrc X w T r d n P U)(p:A.handled=L)(B:U s.heap)(l:n<64)(t:∀acc:Array M,akR P acc n->IntsAre acc.toList ns)
  (h:∀(a c:Heap) (g:Nat) (out:Array M) (e:Nat) (f:G Int),(∀b o,s.heap.get? b=R o->a.get? b=R o)->c.get? a.objs.size=R (seqObj "list" out e)->(∀b o,a.get? b=R o->c.get? b=R o)->IntsAre out.toList f->f.Perm ns->f.Pairwise (·<=·)->Q (.ref a.objs.size) {s with heap:=c,toks:=g}):
  wpAny (model X w) A (call (.builtin "sorted") [.ref r]) Q E s:=by
 show Calls.call_function_entry kind_sorted plain_sorted entry_sorted (args_sorted1 _) (Ld (Uz (Ld (PySem.W.collect_kdl K p B (by rw[Zs];ext) (λa g acc m I=>Ld (akQ ?_ (hsz:=by rw[Vo,I.1,Zs];ext)))))));let i:(a.push (seqObj "list" acc.toList.toArray 0)).get? a.objs.size=R (seqObj "list" acc.toList.toArray 0):=da _ W;let j:=t acc I;show Ld (Wc (W4 slot_list_sort #[_,i,W] entry_list_sort (list_sort_tree i j (by rw[Vo,I.1];show l) λout f y v u=>#[_,W,Uz #[_,W,?_]]) (args_list_sort _)));let(e,q):=uB i;show h a _ g out e f m q (λb C z=>sG (UP (c6 z)) (c5 _ z)) y v u
end
end PyProof.Rows
namespace L10
open PySem PySem.Spec PyProof.Rows L2 L3
def Sq(p d:J):HO:=.ext λh=>h.IsValuesView p d
theorem RK(x:h.IsValuesView p d):ObjOk g w H h p (Sq p d):=#[x,let#[o,a,_]:=x;#[o,a],λf e #[o,a,b] k=>#[o,k o a,b]]
def Nn:V->G V->Hp->VK->Prop:=λx b H Q=>∃a d,x=.ref a/\b=[]/\H a=R (.dK d)/\∀p,H p=L->Q (.ref p) (cy H p (Sq p a))
def wC:QB X "dict.values" Nn:=by intro f s l H x xs v m Q I g d h;let(a,p,rfl,rfl,e,q):=h;ext g;ext d;let(z,j,n,i,dd):=A6 I.Wf e;show call_meetsIn YH dd.typeIs PySem.F.entry_dict_values (PySem.F.args_dict_values_1 _) (meets_dict_values (eG X.prog X.w) a j) #[#[n,dd],?_];show#[.ref s.heap.objs.size,_,I.laid (λb o e=>c5 _ e) (Uy _) (RK #[_,da _ W,W,W]),W,q _ (I.Wf.fresh (Uy _))]
def GG:G V->Hp->VK->Prop:=λxs H Q=>∃p a b,xs=[.ref p]/\H p=R (Sq p a)/\H a=R (.dK b)/\∀l,H l=L->Q (.ref l) (cy H l (.lst (b.map (·.2))))
def Lz:∀{c:G (o×V)} {b:G (o×M)},KV c b->Vals (c.map (·.2)) (b.map (·.2)):=by
 intro _ _ a
 induction a with
 |nil=>show .nil
 | @cons _ _ _ _ h t d=>show .cons h.2 (d)
def vn(m:X.calm=P):W6 X (.type "list") GG:=by intro f s B H xs C Q I r h;let(p,a,S,rfl,t,e,q):=h;let(u,rfl,i):=ie r;ext i;let(z,F,T,b,dd):=A6 I.Wf e;let(J,A):=dd.dictAt;let(g,_,_):=I.Wf p _ t;show PySem.W.kdl_call (PySem.W.kdl_values) (I.ok.hd m) #[g,A] (by rw[<-b.length];show z) λG E d c l n N=>?_;let y:=PySem.W.kdl_vals_eq d.toList (by rw[Vo];show N.1) λj v w=>N.2 j v (by rw[<-ZH];show w);show#[.ref s.heap.objs.size,_,I.laid (o:=.lst (S.map (·.2))) l (Uy _) #[by rw[Ur];show z,d.toList,c,by rw[y];show Lz b,by rw[Array.toArray_toList];show n],W,q _ (I.Wf.fresh (Uy _))]
def GP:G V->Hp->VK->Prop:=λxs H Q=>∃(p:J) (d:G (et×V)) (a:G Int),xs=[.ref p]/\H p=R (.dK d)/\d.map (·.1)=a.map Sum.inl/\a.length<64/\∀(l:J) (b:G Int),H l=L->b.Perm a->b.Pairwise (·<=·)->Q (.ref l) (cy H l (.lst (b.map V.int)))
theorem u9:∀{c:G (et×M)} {ns:G Int} {us:G M},c.map (·.1)=ns.map Sum.inl->us.length=c.length->(∀(j:Nat) (u:M),us[j]?=R u->∃k x,c[j]?=R (k,x)/\(eG prog w).is k u=P)->IntsAre us ns
 |[],[],[],_,_,_=>.nil
 |[],[],_::_,_,h,_=>by simp at h
 |[],_::_,_,h,_,_=>by simp at h
 |_::_,[],_,h,_,_=>by simp at h
 |_::_,_::_,[],_,h,_=>by simp at h
 |(k,y)::c,n::ns,u::us,h1,i,g=>by rw[UM,UM,alI]at h1;let(f,x,e,b):=g 0 u W;ext e;let d:=h1.1;subst d;let(t,rfl):=Um.isInt_shape (show Um.isInt n u=P from b);show .cons _ _ (u9 h1.2 (by simpa using i) λj a e=>g (j+1) a (by simpa using e))
def vO(C:X.calm=Uq):W6 X (.builtin "sorted") GP:=by
 intro g s N H xs O Q I r h;let(p,U8,i,rfl,e,G,E,q):=h;let(u,rfl,o):=ie r;ext o;let(z,B,vs,b,dd):=A6 I.Wf e;let(T,L):=dd.dictAt;let l:vs.map (·.1)=i.map Sum.inl:=by rw[<-b.keys];show G
 let R:vs.length=i.length:=by let:=ec XZ l;simpa using this
 show Cd (PySem.W.kdl_dict B) (I.ok.hd C) L () (λM U=>u9 l (by rw[Vo];show U.1) λj v J=>U.2 j v (by rw[<-ZH];show J)) λF S P d K t y A f U m w=>?_;let a:=m.length_eq;let n:=I.kept (t':=s.toks) y;show#[.ref F.objs.size,_,n.laid f (Uy _) ?_,W,q _ t (n.Wf.fresh (Uy _)) m w];show#[?_,d.toList,K,kP U,A];rw[Ur,a];let:(64:Nat)<=UG:=by decide
 ext
end L10
namespace PySem
open Sem (wp)
namespace F
def lk_tuple_keys:typeLookup (.type "tuple") "keys"=pure L:=by rw[aie,aeZ];kernel_rfl
def lk_tuple_hook:typeLookup (.type "tuple") "__getattr__"=pure L:=by rw[aie,aeZ];kernel_rfl
def sub_ae:isSubtype (.type "AttributeError") (.type "AttributeError")=pure P:=by rw[isSubtype_type];kernel_rfl
end F
section
variable{X:UY}{w:Vi}{A:Vc}{E:Um->Uv->Prop}{h:Heap}{g:Array acZ}{d:Drawn}{t:Nat}{Z:OsState}{a:Uw}{o:Obj}
def BB{α:Type}{name f:Str}{Q:α->Uv->Prop}{E:M->Uv->Prop}(hm:f.length<=UG)(l:A.handled=L)(i:∀e c k,(∀b o,h.get? b=R o->c.get? b=R o)->(#[c,g,d,k,Z]:Uv).TypeIs e "AttributeError"->E e #[c,g,d,k,Z]):
  wpAny (model X w) A (raiseAttrError (.ref a) name f:Sem α) Q E #[h,g,d,t,Z]:=by
 let j:¬f.length>UG:=Nat.not_lt.mpr hm;unfold raiseAttrError newExc newTuple
 repeat (any_goals (first|assumption|wp_step))
 show aaO (a:=P) F.sub_ae ?_
 repeat (any_goals (first|assumption|wp_step))
 show wpAny_raiseNew_none l (i _ _ _ (λb o e=>?_) ?_)
 .show(dg _ _ (d0 (UP (c6 (c5 _ e))))).trans (c5 _ (c5 _ e))
 .show#[_,dt _ (da _ W) W,W]
def rE{f:Tok}{Q:Fin->Uv->Prop}{E:M->Uv->Prop}{p:Array M}{n:Nat}{i:Array (cv M)}(j:h.get? a=R #[.type "tuple",L,.seq p n,i])(m:A.handled=L)(l:∀e c k,(∀b o,h.get? b=R o->c.get? b=R o)->(#[c,g,d,k,Z]:Uv).TypeIs e "AttributeError"->E e #[c,g,d,k,Z]):
  wpAny (model X w) A (U3.«object.__getattribute__» #[[.ref a,.str "keys" f],[]]) Q E #[h,g,d,t,Z]:=by
 let q:(#[h,g,d,t,Z]:Uv).TypeIs (.ref a) "tuple":=#[_,j,W];let r:=F.lk_tuple_keys
 repeat (any_goals (first|assumption|wp_step))
 show BB (by left) m l
def v2{f:Tok}{Q:M->Uv->Prop}{E:M->Uv->Prop}{u:Array M}{n:Nat}{l:Array (cv M)}(i:h.get? a=R #[.type "tuple",L,.seq u n,l])(q:A.handled=L)(m:∀e c k,(∀b o,h.get? b=R o->c.get? b=R o)->(#[c,g,d,k,Z]:Uv).TypeIs e "AttributeError"->E e #[c,g,d,k,Z]):
  wpAny (model X w) A (getAttrBy (.ref a) (.str "keys" f) Uu) Q E #[h,g,d,t,Z]:=by
 let r:(#[h,g,d,t,Z]:Uv).TypeIs (.ref a) "tuple":=#[_,i,W];let z:=F.slot_tuple_getattribute.lookup;let y:=F.slot_tuple_getattribute.bind (.ref a);let v:=F.lk_tuple_hook
 repeat (any_goals (first|assumption|wp_step))
 show Yu F.slot_tuple_getattribute.plain F.entry_tuple_ga (F.slot_tuple_getattribute.check _ _ _ _ _ _ _ _ r (F.args_tuple_getattribute_2 _ _) (rE i q λe c k p j=>?_));let fs:=F.sub_ae;show wpAny (model X w) A (getattributeRaised (Um.ref a) (Um.str (Str.ofString "keys") f) (Um.type "tuple") e L Uu Uu) Q E _;ext getattributeRaised;show Ld (ab4 j fs ?_)
 repeat (any_goals (first|assumption|wp_step))
 show m e c k p j
def tj(f:h.get? a=R #[.type "tuple",L,.seq I n,C])(l:A.handled=L)(i:∀c k,(∀b o,h.get? b=R o->c.get? b=R o)->Q L #[c,g,d,k,Z]):
  wpAny (model X w) A (getAttr? (.ref a) "keys") Q E #[h,g,d,t,Z]:=by
 unfold getAttr? getAttrBy?;let fs:=F.sub_ae;show Ld ?_
 repeat (any_goals (first|assumption|(specialize v2 f l λe c k j m=>?_)|wp_step))
 show i c k j
namespace F
theorem entry_upd_loop:entryFor table "dict.update.loop"=R U3.«dict.update.loop»:=entryFor_of_tree (by kernel_rfl)
def plain_upd_loop:plainId "dict.update.loop"=P:=by left
end F
end
section
variable{prog:UY}{w:Vi}{A:Vc}{E:Um->Uv->Prop}{s:Uv}{K:Type}[DecidableEq K]{knd:KeyKind prog w K}{I dd Y:Uw}{Z:Array Um}{ks:cn (K×Um)}{R:ac0->Uv->Prop}
def BZ(a:G (K×M))(k:K)(v:M):(stored a k v).length<=a.length+1:=by
 ext stored;split
 .rw[Ur];ext
 .rw[UB];show Uy _
theorem sD:∀(a c:G (K×M)),(merged c a).length<=c.length+a.length
 |[],c=>Uy _
 |p::r,c=>by let d:=sD r (stored c p.1 p.2);let b:=BZ c p.1 p.2;show(merged (stored c p.1 p.2) r).length<=_;rw[UL];ext
def B4(a:G (K×M)):(merged [] a).length<=a.length:=by let:=sD a [];simpa using this
def Gy{N:Heap}(V:A.handled=CL)(X4:Y≠I)(M:I≠dd)(L:Y≠dd)(D:∀(i:Nat) (v:Um),Z[i]?=cL v->∃q key k x,v=.ref q/\q≠dd/\q≠I/\ks[i]?=cL (k,x)/\knd.is k key=Uq/\N.IsTuple q #v[key,x])(hs:ks.length=Z.size)(hz:Z.size<=UG)
  (hR:∀c j,c.DictOf knd dd (merged [] ks)->(∀b o,b≠dd->b≠I->N.get? b=cL o->c.get? b=cL o)->R (.ok (.ret .none)) {s with heap:=c,toks:=j}):
  ∀(m i:Nat) (h:Heap) (j:Nat),Z.size - i=m->i<=Z.size->h.IsTupleIter I Y i->h.IsTuple Y Z->h.DictOf knd dd (merged [] (ks.take i))->(∀b o,b≠dd->b≠I->N.get? b=cL o->h.get? b=cL o)->
   codeAny (model prog w) A (.builtin "dict.update.loop" #[[.ref dd,.ref I,rawInt i,.none],[]]) R {s with heap:=h,toks:=j}:=by
 let W:=acr.tuple (prog:=prog) (w:=w) (A:=A.in1) V I Y X4 Z;intro m
 induction m with
 |zero=>
  intro i h j hm hi u r p kp;let e:i=Z.size:=by ext
  subst e;show Xj F.entry_upd_loop ?_;rw[Vc.under_plainId F.plain_upd_loop _];show Ld (W.done _ _ _ #[u,r] λc d f=>?_);rw[List.take_of_length_le ()]at p;show Ld (Uz (Uz ?_));show hR c d (p.at λo e=>f dd o (by simp;show λz=>M z.symm) e) λb o g a e=>f b o (by simp;show a) (kp b o g a e)
 |succ m ih=>
  intro i h j hm hi u r p kp;let S:i<Z.size:=by ext
  show Xj F.entry_upd_loop ?_;rw[Vc.under_plainId F.plain_upd_loop _];show Ld (W.item i _ _ _ S #[u,r] λv c d hv Q f=>?_);let(q,key,k,x,rfl,B,l,G,C,ht):=D i v hv;let y:=ht.at λo e=>f q o (by simp;show l) (kp q o B l e);let P:=p.at λo e=>f dd o (by simp;show λz=>M z.symm) e;let t:=λb o g a e=>f b o (by simp;show a) (kp b o g a e);let(X,n,J,nq,H):=y;let(cq,dq,dtq,T):=X;ext J;ext H;let hT:({s with heap:=c,toks:=d}:Uv).TypeIs (.ref q) "tuple":=#[_,n,rfl];show Ld (Wc (Ld ?_));show aaQ ?_;ext U3.Dict.pairItems;show Ld (aef hT ?_);rw[av ()];show Ld ?_;unfold seqItems?;show Ld (afX n (Uz (Uz ?_)));show Wc (wpAny_dictSet_pairs C P (λa d2 U=>?_) ?_)
  .show Uz #[XH F.plain_upd_loop _,?_];let O:∀b o,b≠dd->c.get? b=cL o->a.get? b=cL o:=λb o hb e=>(U.2 b hb).trans e;show ih (i+1) a (d+1) () S (Q.1.at λo e=>O I o M e) (Q.2.at λo e=>O Y o L e) ?_ λb o g a e=>O b o g (t b o g a e);rw[merged_take_succ [] ks i (k,x) G];show d2
  .let:(merged [] (ks.take i)).length<=(ks.take i).length:=B4 _;rw[VY]at this;ext
end
end PySem
namespace PySem
open Sem (wp)
open PyProof.Rows
section
variable{U:UY}{w:Vi}{A:Vc}{E:Um->Uv->Prop}{s:Uv}{K:Type}[DecidableEq K]{X:KeyKind U w K}{Y:Uw}{Z:Array Um}{T:cn (K×Um)}{R:ac0->Uv->Prop}
def sR(z:A.handled=CL)(y:s.heap.get? Y=cL #[.type "tuple",CL,.seq Z n,sl])(G:T.length=Z.size)(N:Z.size<=UG)
  (H:∀(i:Nat) (v:Um),Z[i]?=cL v->∃q key k x,v=.ref q/\T[i]?=cL (k,x)/\X.is k key=P/\s.heap.IsTuple q #v[key,x])
  (h:∀c D,c.DictOf X s.heap.objs.size (merged [] T)->(∀b o,s.heap.get? b=cL o->c.get? b=cL o)->Q (.ref s.heap.objs.size) {s with heap:=c,toks:=D}):
  wpAny (model U w) A (call (.type "dict") [.ref Y]) Q E s:=by
 show callType_codes (Q₁:=λobj d=>obj=.ref s.heap.objs.size/\d={s with heap:=s.heap.push {cls:=.type "dict",data:=.dict #v[]}}) F.kt_called_dict (F.kt_typeCall_dict_1 _) F.entry_dict_init (kt_code_dict_new _ #[W,W]) ?_;rintro obj d ⟨rfl,rfl⟩;let a:(s.heap.push {cls:=.type "dict",data:=.dict #v[]}).DictOf X s.heap.objs.size []:=Heap.DictOf.new s.heap;let f:(s.heap.push {cls:=.type "dict",data:=.dict #v[]}).get? Y=cL #[.type "tuple",CL,.seq Z n,sl]:=c5 _ y;let I:({s with heap:=s.heap.push {cls:=.type "dict",data:=.dict #v[]}}:Uv).TypeIs (.ref Y) "tuple":=#[_,f,W];show#[a.typeIs,F.args_dict_init_2 _ _,?_];unfold U3.«dict.__init__»;show Ld ?_;ext U3.Dict.selfAndRest;show Ld (wpAny_notOrdered_dict a.typeIs ?_);show Uz ?_;show wpAny _ _ (U3.Dict.updateFrom "dict.__init__" s.heap.objs.size (.ref Y) [] .none) _ _ _;ext U3.Dict.updateFrom;show Ld (aef I ?_);rw[av ()];show Ld (tj f z λc B l=>?_);rw[av (show(CL:cv Um).isNone=P from rfl)];show Ld (abu ?_);let j:=l _ _ f;let r:c.IsTuple Y Z:=#[_,j,W,n,W];show Ld (WC r ?_);show Uz #[XH F.plain_upd_loop _,?_];let QJ:s.heap.objs.size<c.objs.size:=by let(o,_,_,m,_):=a;show c6 (l _ _ m)
 let g:=c6 y;show Gy (A:=A.in1) (knd:=X) z (UP (XQ g QJ)) (VQ QJ) (UP g) (λi v e=>?_) G N (λt p M C=>?_) Z.size 0 _ B () (V0 _) #[_,da _ W,W,W] #[_,c5 _ j,W,n,W] ?_ λb o _ _ e=>e
 .let(q,key,k,x,rfl,L,t,o,m,J):=H i v e;let u:=c6 m;show#[q,key,k,x,W,UP u,UP (XQ u QJ),L,t,o,c5 _ (l _ _ (c5 _ m)),J]
 .show#[W,h t p M λb o e=>?_];let lb:=c6 e;show C b o (UP lb) (UP (XQ lb QJ)) (c5 _ (l _ _ (c5 _ e)))
 .let:=a.at (h':=c.push {cls:=.type "tuple_iterator",data:=.fields #v[.ref Y,.int 0 0]}) λo e=>c5 _ (l _ _ e);show this
end
end PySem
namespace L10
open PySem PySem.Spec PyProof.Rows L2 L3
inductive abX(K:lD)(H:Hp):G V->G (et×V)->Prop
 |nil:abX K H [] []
 |cons {q:J} {k:et} {v:V} {vs:G V} {U8:G (et×V)}:X5 K H q [kV k,v]->abX K H vs U8->abX K H (.ref q::vs) ((k,v)::U8)
def HC(K:lD):G V->Hp->VK->Prop:=λxs H Q=>∃p ys a,xs=[.ref p]/\X5 K H p ys/\abX K H ys a/\∀d,H d=L->Q (.ref d) (cy H d (.dK (re [] a)))
theorem Ji(I:Inv X pins σ H s):∀{g:G V} {z:G (et×V)} {us:G M},abX X.K H g z->Vals g us->∃y:G (et×M),KV z y/\y.length=us.length/\∀(i:Nat) (v:M),us[i]?=R v->∃q key k x,v=.ref q/\y[i]?=R (k,x)/\(eG X.prog X.w).is k key=P/\s.heap.IsTuple q #v[key,x]
 |_,_,_,.nil,.nil=>#[[],.nil,W,λi v e=>by simp at e]
 |_,_,_,.cons (q:=q) (k:=k) (v:=v) h t,.cons r rs=>by
  let(y,o,n,m):=Ji I t rs;let(p,A,pl,_):=I.tuple h;ext r;obtain⟨f,d,rfl,l,j⟩:∃f d,p=[f,d]/\RelV (kV k) f/\RelV v d:=by
   cases A with
   |cons a b=>cases b with
    |cons b c=>ext c;show#[_,_,W,a,b]
  show#[(k,d)::y,.cons #[W,j] o,by rw[UL,UL,n],λi u e=>?_];cases i with
  |zero=>ext e;show#[q,f,k,d,W,W,wD l,pl]
  |succ i=>show m i u (by simpa using e)
def B7(G:X.calm=Uq):W6 X (.type "dict") (HC X.K):=by
 intro d s J H xs M Q I r h;let(p,L,U8,rfl,y,z,q):=h;let(u,rfl,g):=ie r;ext g;let(T,U,(o,A,(b,n,F),a),w):=I.agc y;let(R,f,t,m):=Ji I z U;let(P,O,l,j):=o;ext b;ext F;ext a;let B:=U.length;let C:=f.length;show sR (I.ok.hd G) A (by rw[UE];show t) (by rw[UE,<-B];show w) (λi v e=>m i v (by simpa using e)) λS N dd E=>?_;show#[.ref s.heap.objs.size,_,I.laid E (Uy _) ?_,W,q _ (I.Wf.fresh (Uy _))];show Cw ?_ ?_ (KV.merge f .nil) dd
 .let:=oo U8 [];rw[W5]at this;ext
 .show beq_eq_false_iff_ne.mpr (VQ I.big)
end L10
namespace L10
open PySem PyProof.Rows L2 L3
def Qm:Vu "dict"=R (.type "dict"):=by left
section
variable{B O O':cN}{K:lD}{E:XK}{H H' R P:Hp}{Y α' U T:cn Uw}{Z Z' Z1 X:bC}{S:L2.St}{ρ:b3}{v:V}
def wA:SV->cv et
 |.fz (.int i)=>cL (.inl i)
 |.fz (.str x)=>cL (.inr x)
 |_=>L
def tU(e:wA x=cL k)(h:XI O K H Y v x):v=kV k:=by
 unfold wA at e;split at e
 .ext e;ext h;rfl
 .ext e;ext h;rfl
 .ext e
abbrev yp(O:cN)(K:lD)(H:Hp)(Y:G J):G (et×V)->G (et×SV)->Prop:=Paired (λ(p:et×V) (q:et×SV)=>p.1=q.1/\XI O K H Y p.2 q.2)
def jI(Z:bC):SV->cv (Nat×G (et×SV))
 |.rf i=>match Z[i]? with
  |some (.dct a)=>cL (i,a)
  |_=>L
 |_=>L
def oN(s:U9 B K H Y Z)(b:XI (ow B Y Z) K H Y v x)(h:jI Z x=cL (i,o)):Z[i]?=cL (.dct o)/\∃a ws,Y[i]?=cL a/\v=.ref a/\H a=cL (.dK ws)/\yp (ow B Y Z) K H Y ws o:=by
 cases x with
 |fz d=>ext h
 |tp l=>ext h
 |rf j=>
  let(a,n,rfl):=b;unfold jI at h;dsimp only at h;cases q:Z[j]? with
  |none=>rw[q]at h;ext h
  |some c=>
   rw[q]at h;cases c with
   |dct m=>let e:=UU h;ext e;let(ws,g,f):=s.cel i a _ n q;show#[q,a,ws,n,W,g,f]
   |_=>ext h
def l4(b:G (et×SV))(k:et):cv SV:=(b.find? λa=>decide (a.1=k)).map (·.2)
def l9(b:G (et×SV))(k:et)(x:SV):G (et×SV):=
 if(b.any λa=>decide (a.1=k))=Uq then b.map (λa=>if a.1=k then(a.1,x)else a)else b++[(k,x)]
def pf(b:G (et×SV))(k:et):G (et×SV):=b.filter λa=>decide (a.1≠k)
def yQ:∀{ws:G (et×V)} {c:G (et×SV)},yp O K H Y ws c->(∀x,l4 c k=cL x->∃v,mj ws k=cL v/\XI O K H Y v x)/\(l4 c k=L->mj ws k=L):=by
 intro _ _ d
 induction d with
 |nil=>show#[λx e=>(by ext e),λ_=>W]
 | @cons l j ws c i t m=>
  let(a,u):=l;let(b,y):=j;let(g,f):=i;ext g;unfold l4 mj;rw[Ws,Ws];by_cases e:a=k
  .simp only[aP e];show#[λx h=>#[u,W,by ext h;show f],λh=>by ext h]
  .simp only[a6 e];show m
def Tj:∀{ws:G (et×V)} {g:G (et×SV)},yp O K H Y ws g->(ws.any λc=>decide (c.1=k))=g.any λc=>decide (c.1=k):=by
 intro _ _ d
 induction d with
 |nil=>show W
 | @cons j i ws g h t l=>let(a,u):=j;let(b,y):=i;let(e,f):=h;ext e;rw[XA,XA,l]
def S8(f:XI O K H Y v x):∀{ws:G (et×V)} {i:G (et×SV)},yp O K H Y ws i->yp O K H Y (ws.map (λc=>if c.1=k then(c.1,v)else c)) (i.map (λc=>if c.1=k then(c.1,x)else c)):=by
 intro _ _ d
 induction d with
 |nil=>show .nil
 | @cons n m ws i l t j=>
  let(a,u):=n;let(b,y):=m;let(h,g):=l;ext h;rw[UM,UM];by_cases e:a=k
  .rw[av e,av e];show .cons #[W,f] (j)
  .rw[ax e,ax e];show .cons #[W,g] (j)
def IA(h:yp O K H Y ws o)(r:p.1=q.1/\XI O K H Y p.2 q.2):yp O K H Y (ws++[p]) (o++[q]):=by
 induction h with
 |nil=>show .cons r .nil
 |cons a _ b=>show .cons a b
def En(a:XI O K H Y v x)(h:yp O K H Y ws o):yp O K H Y (k9 ws k v) (l9 o k x):=by
 unfold k9 l9;rw[Tj h];split
 .show S8 a h
 .show IA h #[W,a]
def Jc:∀{ws:G (et×V)} {c:G (et×SV)},yp O K H Y ws c->yp O K H Y (qY ws k) (pf c k):=by
 intro _ _ d
 induction d with
 |nil=>show .nil
 | @cons l j ws c i t h=>
  let(a,u):=l;let(b,y):=j;let(g,f):=i;ext g;unfold qY pf;rw[Zl,Zl];by_cases e:a=k
  .let z:decide (a≠k)=Uu:=a6 λn=>n e;simp only[z];show h
  .let z:=aP e;simp only[z];show .cons #[W,f] (h)
def AB(a:Bool)(b d:gq):gq:=λρ Z=>(b ρ Z).bind λx Z1=>(d ρ Z1).bind λo X=>(RS.Vm X (wA x)).bind λk X=>(RS.Vm X (jI X o)).bind λp X=>.ok (.fz (.bool ((l4 p.2 k).isSome !=a))) X
def JM(h:yp O K H Y ws o):(mj ws k).isSome=(l4 o k).isSome:=by
 let(b,a):=yQ h;cases q:l4 o k with
 |none=>rw[a q];rfl
 |some x=>let(u,e,_):=b x q;rw[e];rfl
def My(n:gr K E C fk)(hd:gr K E I fd):gr K E (RM C I) (AB Uu fk fd):=by intro B S H Y Z ρ Q s d w;show n B S H Y Z ρ _ s d (w.bind.imp λx U Z1 R r g f v l=>?_);show hd B S R U Z1 ρ _ g (d.XB r) (f.bind.imp λo T X P t e b u m=>?_);let(k,j,b):=WS.Vm b;let((i,z),h,b):=WS.Vm b;let(_,a,ws,y,rfl,q,p):=oN e m h;show#[a,mj ws k,W,by rw[tU j l];show ab7.k q,?_];rw[JM p];show WS.now e b _ ?_;rw[Bool.bne_false];show .bl _
def wJ(b a:gq):gq:=λρ Z=>(b ρ Z).bind λo Z1=>(a ρ Z1).bind λx X=>(RS.Vm X (wA x)).bind λk X=>(RS.Vm X (jI X o)).bind λp X=>RS.Vm X (l4 p.2 k)
def Al(hd:gr K E td fd)(r:gr K E I fk):gr K E (Ni td I) (wJ fd fk):=by
 intro B S H Y Z ρ Q s d w;show hd B S H Y Z ρ _ s d (w.bind.imp λo U Z1 R F h f u p=>?_);show r B S R U Z1 ρ _ h (d.XB F) (f.bind.imp λx T X P C e b v n=>?_);let(k,l,b):=WS.Vm b;let((i,N),j,b):=WS.Vm b;let(_,a,ws,ha,rfl,A,t):=oN e (p.XB C) j;dsimp only at b;cases q:l4 N k with
 |none=>rw[q]at b;show b.elim
 |some y=>rw[q]at b;let(z,m,g):=(yQ t).1 y q;show#[a,z,W,by rw[tU l n,<-m];show ab7.k A,WS.now e b z g]
def Bg(e d b:gq):g6:=λρ Z=>(b ρ Z).bind λy Z1=>(e ρ Z1).bind λo X=>(d ρ X).bind λx a=>(RS.Vm a (wA x)).bind λk a=>(RS.Vm a (jI a o)).bind λp a=>if p.2.length<1000000 then .ok (.nx ρ) (a.set p.1 (.dct (l9 p.2 k y)))else .bad
def IU(hd:gr K E td fd)(c:gr K E tk fk)(Q:gr K E tv fv):vX K E (Na td tk tv) (Bg fd fk fv):=by
 intro B S H Y Z ρ D s e w;show Q B S H Y Z ρ _ s e (WS.imp (WS.bind w) λy U Z1 R p J G q l=>?_);show hd B S R U Z1 ρ _ J (e.XB p) (WS.imp (WS.bind G) λo T X P n I F u hu=>?_);show c B S P T X ρ _ I (e.XB (p.trans n)) (WS.imp (WS.bind F) λx b f g m t d z N=>?_);let(k,M,d):=WS.Vm d;let((i,U8),L,d):=WS.Vm d;let(j,a,ws,ha,rfl,g1,A):=oN t (hu.XB m) L;dsimp only at d;by_cases hn:U8.length<1000000
 .rw[av hn]at d;let ev:Ev (ow B b f) g (ow B b f) (cy g a (.dK (k9 ws k q))):=uw ha j (by nofun);let C:Wy b f g b (f.set i (.dct (l9 U8 k y))) (cy g a (.dK (k9 ws k q))):=Wy.put ha j (by nofun) (by nofun);let hl:=Paired.length A;show#[a,_,W,by rw[tU M N];show aet.k g1 (xz ()),?_];show d b _ C (t.put ha j (by nofun) (by nofun) #[_,bp,En ((l.XB (n.trans m)).ev ev λ_ _ h=>h) (Paired.Yv A λ_ _ r=>#[r.1,r.2.ev ev λ_ _ h=>h])]) S ((e.XB (p.trans (n.trans m))).XB C)
 .rw[ax hn]at d;show d.elim
def AD(b a:gq):gq:=λρ Z=>(b ρ Z).bind λo Z1=>(RS.Vm Z1 (jI Z1 o)).bind λ_ Z1=>(a ρ Z1).bind λx X=>(RS.Vm X (wA x)).bind λk X=>(RS.Vm X (jI X o)).bind λp X=>(RS.Vm X (l4 p.2 k)).bind λy X=>.ok y (X.set p.1 (.dct (pf p.2 k)))
def JI(hd:gr K E td fd)(J:gr K E tk fk):gr K E (IT td tk) (AD fd fk):=by intro B S H Y Z ρ Q s g w;show hd B S H Y Z ρ _ s g (w.bind.imp λo U Z1 R e1 l e u m=>?_);let((i0,aj4),F,e):=WS.Vm e;let(_,a,d,_,rfl,M,_):=oN l m F;show#[a,W,.inl #[d,.inl M],?_];show J B S R U Z1 ρ _ l (g.XB e1) (e.bind.imp λx T X P e2 j b v I=>?_);let(k,C,b):=WS.Vm b;let((i,U8),A,b):=WS.Vm b;let(f,a',ws,ha,N,L,n):=oN j (m.XB e2) A;ext N;dsimp only at b;let(y,q,b):=WS.Vm b;let(z,G,t):=(yQ n).1 y q;let ev:Ev (ow B T X) P (ow B T X) (cy P a (.dK (qY ws k))):=uw ha f (by nofun);let p:Wy T X P T (X.set i (.dct (pf U8 k))) (cy P a (.dK (qY ws k))):=Wy.put ha f (by nofun) (by nofun);show#[ws,k,z,L,tU C I,G,?_];show b T _ p (j.put ha f (by nofun) (by nofun) #[_,bp,Jc (Paired.Yv n λ_ _ r=>#[r.1,r.2.ev ev λ_ _ h=>h])]) z (t.XB p)
def u8(s:U9 B K H Y Z)(a:H p=L)(w:WS K E B H Y Z (PQ B K Q) (.ok (.rf Z.length) (Z++[c])))(d:∀e:Wy Y Z H (Y++[p]) (Z++[c]) (cy H p o),COk (ow B (Y++[p]) (Z++[c])) K (cy H p o) (Y++[p]) p c):Q (.ref p) (cy H p o):=by let b:Wr H (cy H p o):=bZ a _;let e:Wy Y Z H (Y++[p]) (Z++[c]) (cy H p o):=Wy.acP s.len b a;show w _ _ e (s.acP b a (by rw[bp];simp) (d e)) _ #[p,by rw[<-s.len];show bh,W]
def DS(a:gq):gq:=λρ Z=>(a ρ Z).bind λo Z1=>(RS.Vm Z1 (jI Z1 o)).bind λp Z1=>.ok (.rf Z1.length) (Z1++[.lst (p.2.map (·.2))])
def IR:∀{ws:G (et×V)} {b:G (et×SV)},yp O K H Y ws b->W8 O K H Y (ws.map (·.2)) (b.map (·.2)):=by
 intro _ _ a
 induction a with
 |nil=>show .nil
 | @cons _ _ _ _ h t d=>show .cons h.2 (d)
def A2(hd:gr K E I fd):gr K E (Mz GG (l6 (QW K "dict" Nn I) pN)) (DS fd):=by intro B S H Y Z ρ Q s j w;show hd B S H Y Z ρ _ s j (w.bind.imp λo U Z1 R C g d u q=>?_);let((i,U8),n,d):=WS.Vm d;let(A,a,ws,N,rfl,f,z):=oN g q n;show#[.inr (.inr (.inl #[W,.inl #[ws,f]])),a,ws,W,W,f,λp t=>?_];let b:Wr R (cy R p (Sq p a)):=bZ t _;let m:=g.grow b;let h:=WS.from (Wy.same b) d;show#[p,a,ws,W,bp,b _ _ f,λl y=>?_];show u8 m y h λe=>#[_,bp,IR (Paired.Yv z λ_ _ r=>#[r.1,(r.2.XB (Wy.same b)).XB e])]
def Bs:et->cv Int
 |.inl i=>cL i
 |.inr _=>L
def wO(b:gq):gq:=λρ Z=>(b ρ Z).bind λo Z1=>(RS.Vm Z1 (jI Z1 o)).bind λp Z1=>(RS.Vm Z1 (bc Bs (p.2.map (·.1)))).bind λa Z1=>if a.length<64 then .ok (.rf Z1.length) (Z1++[.lst ((mN a).map λi=>SV.fz (.int i))])else .bad
theorem vt:∀{b:G et} {ns:G Int},bc Bs b=cL ns->b=ns.map Sum.inl
 |[],_,e=>by ext e;rfl
 |k::r,ns,e=>by
  unfold bc at e;cases k with
  |inr x=>ext e
  |inl i=>
   dsimp only[Bs]at e;cases q:bc Bs r with
   |none=>rw[q]at e;ext e
   |some a=>rw[q]at e;ext e;rw[UM,<-vt q]
def G0:∀{ws:G (et×V)} {b:G (et×SV)},yp O K H Y ws b->ws.map (·.1)=b.map (·.1):=by
 intro _ _ a
 induction a with
 |nil=>show W
 | @cons _ _ _ _ h t d=>rw[UM,UM,h.1,d]
theorem CN(O:cN)(K:lD)(H:Hp)(Y:G J):∀ns:G Int,W8 O K H Y (ns.map V.int) (ns.map λi=>SV.fz (.int i))
 |[]=>.nil
 |n::r=>.cons (.int n) (CN O K H Y r)
def zD(hd:gr K E I fd):gr K E (Mz GP (l6 I pN)) (wO fd):=by
 intro B S H Y Z ρ Q s g w;show hd B S H Y Z ρ _ s g (w.bind.imp λo U Z1 R C f b u m=>?_);let((i,U8),j,b):=WS.Vm b;let(z,a,ws,N,rfl,t,r):=oN f m j;let(d,h,b):=WS.Vm b;by_cases hn:d.length<64
 .rw[av hn]at b;show#[a,ws,d,W,t,by rw[G0 r];show vt h,hn,λl A q p n=>?_];let y:=nJ (p.trans (gW d).symm) n (gv d);subst y;show u8 f q b λe=>#[_,bp,CN _ _ _ _ _]
 .rw[ax hn]at b;show b.elim
def um:D->cv (et×SV)
 |.tuple [.int i,d]=>cL (.inl i,.fz d)
 |.tuple [.str x,d]=>cL (.inr x,.fz d)
 |_=>L
def yh:SV->cv (G (et×SV))
 |.fz (.tuple ds)=>bc um ds
 |_=>L
def Fd(e:yh x=cL o):∃ds,x=.fz (.tuple ds)/\bc um ds=cL o:=by
 unfold yh at e;split at e
 .show#[_,W,e]
 .ext e
def oY(c a:G (et×SV)):G (et×SV):=a.foldl (λb d=>l9 b d.1 d.2) c
def AX(b:gq):gq:=λρ Z=>(b ρ Z).bind λx Z1=>(RS.Vm Z1 (yh x)).bind λa Z1=>.ok (.rf Z1.length) (Z1++[.dct (oY [] a)])
theorem AE:∀{m:G V} {ds:G D} {k:G (et×SV)},L3.Wb O K H m ds->bc um ds=cL k->∃j,abX K H m j/\yp O K H Y j k
 |_,_,_,.nil,e=>by ext e;show#[[],.nil,.nil]
 |_,_,_,.cons (d:=d) (ds:=ds) h t,e=>by
  unfold bc at e;cases q:um d with
  |none=>rw[q]at e;ext e
  |some p=>
   rw[q]at e;dsimp only at e;cases l:bc um ds with
   |none=>rw[l]at e;ext e
   |some k=>
    rw[l]at e;ext e;let(j,i,g):=AE t l;unfold um at q;split at q
    .ext q
     cases h with
     |tup h f=>cases f with
      |cons a b=>cases b with
       |cons b c=>ext c;ext a;show#[(.inl _,_)::j,.cons h.1 i,.cons #[W,b] g]
    .ext q
     cases h with
     |tup h f=>cases f with
      |cons a b=>cases b with
       |cons b c=>ext c;ext a;show#[(.inr _,_)::j,.cons h.1 i,.cons #[W,b] g]
    .ext q
theorem Eh:∀{d:G (et×V)} {e:G (et×SV)} {ws:G (et×V)} {c:G (et×SV)},yp O K H Y d e->yp O K H Y ws c->yp O K H Y (re ws d) (oY c e)
 |_,_,_,_,.nil,h=>h
 |(a,u)::d,(b,y)::e,_,_,.cons r t,h=>by let(r1,f):=r;ext r1;show yp O K H Y (re (k9 _ a u) d) (oY (l9 _ a y) e);show Eh t (En f h)
def J1(n:gr K E C I):gr K E (Mz (HC K) (l6 C pN)) (AX I):=by
 intro B S H Y Z ρ Q s f w;show n B S H Y Z ρ _ s f (w.bind.imp λx U Z1 R p g b u l=>?_);let(y,q,a):=WS.Vm b;let(ds,rfl,q):=Fd q;let a:=a;cases l with
 |tup h m=>let(t,j,i):=AE m q;show#[_,_,t,W,h.1,j,λd o=>u8 g o a λe=>#[_,bp,Eh (Paired.Yv i λ_ _ r=>#[r.1,r.2.XB e]) .nil]]
end
end L10
namespace PySem
open PyProof.Rows
def on:cv Int->Int->cv Int
 |none,x=>R x
 |some m,x=>R (if x>m then x else m)
def Rg:cv (Int×Tok)->Array M
 |none=> #v[]
 |some (m,t)=> #v[.int m t,.int m t]
def Nu(d:M):cv (Int×Tok)->M
 |none=>d
 |some (m,t)=>.int m t
namespace F
def args_maxd(a b:M):checkBuiltinCall "max" #[[a],[("default",b)]]=pure ⟨⟩:=by kernel_rfl
end F
section
variable{prog:UY}{w:Vi}{A:Vc}{E:Um->Uv->Prop}{R:ac0->Uv->Prop}{I l S:Uw}{vs:cn Um}{d:Um}
def KM(V:A.handled=CL)(X4:l≠I)(r:S≠I)(Q:S≠l){s:Uv}:
  ∀{B:cn Um} {ns:cn Int},IntsAre B ns->∀(i:Nat) (h:Heap) (M:Nat) (b:cv (Int×Tok)) (c:Nat),vs=vs.take i++B->i<=vs.length->h.IsListIter I l i->h.IsList l vs.toArray->h.get? S=cL {cls:=.type "list",dict:=CL,data:=.seq (Rg b) c,slots:= #v[]}->
  (∀x M D,D.map (·.1)=ns.foldl on (b.map (·.1))->(∀a o,a≠I->a≠S->h.get? a=cL o->x.get? a=cL o)->R (.ok (.ret (Nu d D))) {s with heap:=x,toks:=M})->
  codeAny (model prog w) A (.builtin "max.loop" #[[.ref I,.none,.ref S],[("default",d)]]) R {s with heap:=h,toks:=M}:=by
 let W:=acr.list (prog:=prog) (w:=w) (A:=A.in1) V I l X4 vs.toArray;intro B ns hi
 induction hi with
 |nil=>
  intro i h M b c u hi it li T L;let e:i=vs.toArray.size:=by rw[UZ]at u;let:=ec XZ u;rw[VY]at this;rw[UE];ext
  show Xj F.entry_max_loop ?_;rw[Vc.under_plainId F.plain_max_loop _];show Ld (We T rfl ?_);show Ld (aaQ (W.done _ _ _ (e▸#[it,li]) λx g y=>?_));let f:=y S _ (by simpa using r) T;cases b with
  |none=>show Ld (abu (Uz ?_));show L x g CL rfl λa o j z e=>y a o (by simpa using j) e
  |some p=>let(m,t):=p;show Ld (acB f rfl (Ld (Ys (Uz ?_))) (hz:=by show 2<=UG;decide));show L _ g (cL (m,t)) rfl λa o j z e=>(dg _ _ (d0 z)).trans (y a o (by simpa using j) e)
 | @cons n t ajy ahl hr ih=>
  intro i h M b c u hi it li T L;let X8:i<vs.toArray.size:=by let:=ec XZ u;rw[UB,VY,UL]at this;rw[UE];ext
  let O:vs[i]?=cL (.int n t):=by rw[u,US (by rw[VY];ext),VY,Nat.min_eq_left hi,XR];rfl
  let C:vs=vs.take (i+1)++ajy:=by rw[aa5,O];rw[Vl];show u
  let G:i+1<=vs.length:=by rw[UE]at X8;show X8
  show Xj F.entry_max_loop ?_;rw[Vc.under_plainId F.plain_max_loop _];show Ld (We T rfl ?_);show Ld (aaQ (W.item i _ _ _ X8 #[it,li] λv x g hP K y=>?_));let ev:v=.int n t:=by let U:=hP;rw[List.getElem?_toArray,O]at U;show(UU U).symm
  subst ev;let f:=y S _ (by simpa using r) T;let J:(toString "max"++toString ".loop":String)= "max.loop":=by decide
  cases b with
  |none=>
   show wpAny _ A.in1 (updateSeq S (λ_=> #v[Um.int n t,Um.int n t])>>=_) _ _ _;show Ld (acB f rfl ?_);rw[J];show Uz #[XH F.plain_max_loop _,ih (i+1) _ g (cL (n,t)) _ C G (K.1.at λo e=>?_) (K.2.at λo e=>?_) (dt _ f rfl) λz q Y X N=>L z q Y X λa o j H e=>N a o j H ((dg _ _ (d0 H)).trans (y a o (by simpa using j) e))]
   .show(dg _ _ r).trans e
   .show(dg _ _ Q).trans e
  |some p=>
   let(m,Z):=p;show wpAny _ A.in1 (tryCatch (holding [Um.int n t,Um.int n t] (richCompare .Gt (Um.int n t) (Um.int m Z)>>=_)) _>>=_) _ _ _;let ajY:=CmpOf.ints_gt (prog:=prog) (w:=w) (A:=A.in1) (P:=λ(k:Nat) v=>(k=0/\v=Um.int n t)\/(k=1/\v=Um.int m Z)) (λk=>if k=0 then n else m) λk v u=>by
    rcases u with⟨rfl,rfl⟩|⟨rfl,rfl⟩
    .show#[t,rfl]
    .show#[Z,rfl]
   show Ld (aaQ (Wc (Ld (ajY 0 1 _ _ _ _ _ (.inl #[rfl,rfl]) (.inr #[rfl,rfl]) ?_))));show Ld (Wc (VU ?_));show Ld (Ys (Uz ?_));show wpAny _ A.in1 (if decide (n>m)=Uq then _ else _) _ _ _;by_cases hb:n>m
   .rw[av (aP hb)]
    show Ld (acB f rfl (Ld (Ys ?_)) (hz:=by show 2<=UG;decide));rw[J];show Uz #[XH F.plain_max_loop _,ih (i+1) _ g (cL (n,t)) _ C G (K.1.at λo e=>?_) (K.2.at λo e=>?_) (dt _ f rfl) λz q Y X N=>L z q Y ?_ λa o j H e=>N a o j H ((dg _ _ (d0 H)).trans (y a o (by simpa using j) e))]
    .show(dg _ _ r).trans e
    .show(dg _ _ Q).trans e
    .rw[X];show _=ahl.foldl on (cL (if n>m then n else m));rw[av hb];rfl
   .rw[ax (by rw[a6 hb];show Ux)];show Ld (Ys ?_);rw[J];show Uz #[XH F.plain_max_loop _,ih (i+1) _ g (cL (m,Z)) c C G K.1 K.2 f λz q Y X N=>L z q Y ?_ λa o j H e=>N a o j H (y a o (by simpa using j) e)];rw[X];show _=ahl.foldl on (cL (if n>m then n else m));rw[ax hb];rfl
def EW(n:A.handled=L)(g:s.heap.IsList l vs.toArray)(r:IntsAre vs ns)
  (q:∀c k b,b.map (·.1)=ns.foldl on L->(∀a o,s.heap.get? a=cL o->c.get? a=cL o)->Q (Nu d b) {s with heap:=c,toks:=k}):
  wpAny (model prog w) A (call (.builtin "max") [.ref l] [("default",d)]) Q E s:=by
 let j:l<s.heap.objs.size:=by let(_,e,_):=g;show c6 e
 let h:(toString "max"++toString ".loop":String)= "max.loop":=by decide
 show ac1 (Yu F.plain_max F.entry_max (aaO (F.args_maxd _ _) ?_));show Ld (aaO (show U3.Builtins.bindParams "max" ["key","default"] 0 #[[],[("default",d)]]=pure [L,cL d]from rfl) ?_);show Ld (Uz ?_);show Ld (YM g ?_);show Ld (Wd ?_);rw[h];let f:(s.heap.push {cls:=.type "list_iterator",data:=.fields #v[.ref l,.int 0 0]}).objs.size=s.heap.objs.size+1:=dP _ _;show Uz #[XH F.plain_max_loop _,KM n (UP j) (by rw[f];show Zo _) (by rw[f];show VQ (WO j)) r 0 _ s.toks L 0 W (V0 _) #[_,c5 _ (da _ W),W,W] ((g.push _).push _) (da _ W) λc k b p m=>?_];show q c k b p λa o e=>?_;let i:=c6 e;show m a o (UP i) (by rw[f];show UP (WO i)) (c5 _ (c5 _ e))
end
end PySem
namespace L10
open PySem PySem.Spec PyProof.Rows L2 L3
def Nm(K:lD)(i:Int):G V->Hp->VK->Prop:=λxs H Q=>∃(p:J) (a:G Int),xs=[.ref p]/\Yh K H p (a.map V.int)/\Q (.int ((a.foldl on L).getD i)) H
def DD(A:X.calm=P)(z:Gl X "max")(hm:X.mg "max"=CL)(c:PA X [l] U)(f:OT l=Uu:=by rfl):
  PE X (.Call (.Name "max" p) [l] [#[R "default",.Constant (.int i) j p1,p2]] pos) (Mz (Nm X.K i) U):=by
 intro d s g H Q I h;show Xa (lA I z hm GQ (callWith_kw (dS (c pos d s g H _ I h) λE n #[S,C,e,r1,r]=>?_) (by rw[r6 _ _ _ f];rfl) (by rw[r6 _ _ _ f];rfl) W W));let(a,v,rfl,w,q):=r;let(u,rfl,o):=ie r1;ext o;let(L,N,pl,G):=e.list w;show abv (abp (abI ?_));let M:=e.tok (n.toks+1);show EW (e.ok.hd A) pl.isList (jM N) λJ F b B y=>?_;show#[.int ((v.foldl on CL).getD i),C,e.kept y,?_,q];rw[<-B];cases b with
 |none=>show#[_,W]
 |some p=>let(m,t):=p;show#[t,W]
def Ha(i:Int):G D->cv RV
 |[.list ds]=>(pz ds).map λa=>.fz (.int ((a.foldl on L).getD i))
 |_=>L
def DM{K:lD}:Bk K (Nm K i) (Ha i):=by
 intro O H xs ds p Q n d e q;unfold Ha at e;split at e
 .rename_i l
  cases d with
  |cons j h=>
   ext h;cases m:pz l with
   |none=>rw[m]at e;ext e
   |some b=>rw[m]at e;ext e;let(a,o,rfl,g,f):=Bh j;obtain rfl:=nW f m;show#[a,b,W,g.sq,q.at (.int _)]
 .ext e
end L10
namespace L10
open PySem L2 L3
section
variable{B O O':cN}{K:lD}{E:XK}{H T H1 H2:Hp}{X Y S α2:cn Uw}{Z U Z1 Z2:bC}{σ:L2.St}{ρ:b3}{v:V}
def jv{l r:G A}(h:(l++r)[i]?=R y):l[i]?=R y\/∃j,i=l.length+j/\r[j]?=R y:=by
 by_cases hi:i<l.length
 .rw[U6 hi]at h;show .inl h
 .rw[US ()]at h;show .inr #[i - l.length,by ext,h]
def K9{l r:G A}{i:Nat}(h:l[i]?=R y):(l++r)[i]?=R y:=by rw[U6 (Uo.mp h).1];show h
def G2{l r:G A}(h:r[i]?=R y):(l++r)[l.length+i]?=R y:=by rw[US (),acT];show h
def Jw(g:X.length=Z.length)(h:Lv (X++o) (Z++cs) b):Lv X Z b\/b∈o:=by
 let(i,d,f,e,a):=h;rcases jv f with g1|⟨j,m,g1⟩
 .rcases jv e with g2|⟨k,l,g2⟩
  .show .inl #[i,d,g1,g2,a]
  .let:=(Uo.mp g1).1;ext
 .show .inr (Vb g1)
theorem Wy.acg(s:U9 B K H X Z)(e:Wr H T)(d:∀p∈ps,H p=L):Wy X Z H (X++ps) (Z++cs) T:=
 #[λi a h=>K9 h,λb u q _=>e b u q,λb z=>(Jw s.len z).imp id λz=>d b z]
def U9.acg(s:U9 B K H X Z)(e:Wr H T)(f:∀p∈ps,H p=L)(m:∀p∈ps,T p≠L)(nd:∀(i j:Nat) (a:J),ps[i]?=R a->ps[j]?=R a->i=j)(t:ps.length=cs.length)
  (new:∀(i:Nat) (a:J) (c:Cell),ps[i]?=R a->cs[i]?=R c->COk (ow B (X++ps) (Z++cs)) K T (X++ps) a c):U9 B K T (X++ps) (Z++cs):=by
 let ev:Wy X Z H (X++ps) (Z++cs) T:=Wy.acg s e f;let n:∀b,H b≠L->T b≠L:=λb h z=>h (e.free z);show#[by rw[UB,UB,s.len,t],λi j a g l=>?_,λa h=>n a (s.bn a h),λa h i q=>?_,λi a h=>?_,λi a d g l=>?_]
 .rcases jv g with g1|⟨A,u,g1⟩<;>rcases jv l with g2|⟨y,C,g2⟩
  .show s.nd i j a g1 g2
  .show bg (f a (Vb g2)) (s.al i a g1)
  .show bg (f a (Vb g1)) (s.al j a g2)
  .let:=nd A y a g1 g2;ext
 .rcases jv q with q|⟨j,_,q⟩
  .show s.ba a h i q
  .show s.bn a h (f a (Vb q))
 .rcases jv h with h|⟨j,_,h⟩
  .show n a (s.al i a h)
  .show m a (Vb h)
 .let r:=s.len
  rcases jv l with g2|⟨j,C,g2⟩
  .rcases jv g with g1|⟨k,u,g1⟩
   .show(s.cel i a d g1 g2).ev ev.ev ev.pre λo q=>e _ _ q
   .let:=(Uo.mp g2).1;ext
  .rcases jv g with g1|⟨k,u,g1⟩
   .let:=(Uo.mp g1).1;ext
   .let:k=j:=by ext
    subst this;show new k a d g1 g2
def FZ(U:bC):Nat->G AV->cv (G AV×G (G D)×G Nat)
 |_,[]=>R ([],[],[])
 |n,.fz d::r=>match FZ U n r with
  |some (l,cs,a)=>R (.fz d::l,cs,a)
  |none=>L
 |n,.rf i::r=>match sh U (.rf i)with
  |some (.list ds)=>(match FZ U (n+1) r with
   |some (l,cs,a)=>R (.rf n::l,ds::cs,i::a)
   |none=>L)
  |_=>L
def SD(ds:G D):Cell:=.lst (ds.map .fz)
def tO(x:SV)(U Z:bC):RS SV:=match x with
 |.fz d=>.ok (.fz d) Z
 |.rf i=>(match sh U (.rf i)with
  |some (.list ds)=>me Z (.ow ds)
  |_=>.bad)
 |.tp l=>(match FZ U Z.length l with
  |some (a,cs,b)=>if b.Nodup then .ok (.tp a) (Z++cs.map SD)else .bad
  |none=>.bad)
def yr(h:sh Z (.rf i)=R (.list ds)):∃xs,Z[i]?=R (.lst xs)/\bc zo xs=R ds:=by
 unfold sh at h;dsimp only at h;cases q:Z[i]? with
 |none=>rw[q]at h;ext h
 |some c=>
  rw[q]at h;cases c with
  |lst xs=>
   dsimp only at h;cases b:bc zo xs with
   |none=>rw[b]at h;ext h
   |some a=>rw[b]at h;ext h;show#[xs,W,b]
  |_=>ext h
def pH(s:U9 B K H X Z)(h:sh Z (.rf i)=cL (.list ds)):∃a c,X[i]?=cL a/\H a=cL (.lst c)/\L3.Wb (ow B X Z) K H c ds/\ow B X Z a:=by let(xs,b,d):=yr h;let(a,j):=s.at b;let(c,g,f):=s.cel i a _ j b;show#[a,c,j,g,oS (fu (R:=XI (ow B X Z) K H X) (λv x y r e=>BF r e) f d),.inr #[i,_,j,b,by intro z;ext z]]
def Rh{o:cN}(s:U9 o K T Y U):∀{n:Nat} {l u:cn AV} {cs:cn (cn D)} {g:cn Nat} {xs:cn V},FZ U n l=R (u,cs,g)->Paired (AOk (ow o Y U) K T Y) xs l->
  ∃c:cn Uw,c.length=g.length/\cs.length=g.length/\(∀(k j:Nat),g[k]?=R j->∃a ds Q,c[k]?=R a/\cs[k]?=R ds/\Y[j]?=R a/\T a=R (.lst Q)/\L3.Wb (ow o Y U) K T Q ds/\ow o Y U a)/\
   ∀(b:cn Uw),b.length=n->Paired (AOk (ow o Y U) K T (b++c)) xs u:=by
 intro n l u cs g xs e p
 induction p generalizing n u cs g with
 |nil=>ext e;show#[[],W,W,λk j h=>by simp at h,λb _=>.nil]
 | @cons _ x _ r h t ih=>
  cases x with
  |fz d=>
   unfold FZ at e;cases q:FZ U n r with
   |none=>rw[q]at e;ext e
   |some p=>let(I,F,w):=p;rw[q]at e;ext e;let(c,C,A,z,y):=ih q;show#[c,C,A,z,λb f=>.cons h (y b f)]
  |rf i=>
   unfold FZ at e;cases qs:sh U (.rf i)with
   |none=>rw[qs]at e;ext e
   |some d=>
    rw[qs]at e;cases d with
    |list ds=>
     dsimp only at e;cases q:FZ U (n+1) r with
     |none=>rw[q]at e;ext e
     |some p=>
      let(I,F,w):=p;rw[q]at e;ext e;let(c,C,A,z,y):=ih q;let(a,Q,ha,J,M,L):=pH s qs;show#[a::c,by rw[UL,UL,C],by rw[UL,UL,A],λk j G=>?_,λb f=>?_]
      .cases k with
       |zero=>ext G;show#[a,ds,Q,W,W,ha,J,M,L]
       |succ k=>show z k j (by simpa using G)
      .let N:b++a::c=(b++[a])++c:=by simp
       let(P,m,rfl):=h;rw[ha]at m;ext m;show .cons #[a,by rw[<-f];show G2 (l:=b) (r:=a::c) (i:=0) W,W] ?_;rw[N];show y (b++[a]) (by rw[UB,f];rfl)
    |_=>ext e
def E8(s:U9 B K H X Z)(w:WS K E B H X Z (PQ B K Q) (tO x U Z))(D:Wy [] [] H Y U T)(G:U9 (ow B X Z) K T Y U)(J:XI (ow (ow B X Z) Y U) K T Y v x):Q v T:=by
 let C:=λb o h=>D.kp b o h λ#[i,c,q,_]=>by simp at q
 let sub:∀b,ow B X Z b->ow (ow B X Z) Y U b:=λb z=>.inl z;let fr:=λi a c R h2 h3=>(D.lv a #[i,c,R,h2,h3]).elim (λ#[i,c,q,_]=>by simp at q) id;cases x with
 |fz d=>show w X T (Wy.same C) (s.grow C) v (DV.ev (Ev.sub sub) J)
 |rf i=>
  unfold tO at w;dsimp only at w;cases qs:sh U (.rf i)with
  |none=>rw[qs]at w;show w.elim
  |some d=>
   rw[qs]at w;cases d with
   |list ds=>let(a,vs,ha,R,hd,M):=pH G qs;let(xs,e,_):=yr qs;let(a',F,rfl):=J;rw[ha]at F;ext F;show uU s w C (fr i a _ ha e (by nofun)) R hd sub M
   |_=>show w.elim
 |tp l=>
  unfold tO at w;dsimp only at w;cases qg:FZ U Z.length l with
  |none=>rw[qg]at w;show w.elim
  |some p=>
   let(l',cs,I):=p;rw[qg]at w;dsimp only at w;by_cases hn:I.Nodup
   .rw[av hn]at w
    let(a,xs,rfl,ht,hl):=J;let(ps,g1,g2,g3,g4):=Rh G qg hl;let A:∀(k:Nat) (b:Uw),ps[k]?=cL b->∃j ds vs,I[k]?=cL j/\cs[k]?=cL ds/\Y[j]?=cL b/\T b=cL (.lst vs)/\L3.Wb (ow (ow B X Z) Y U) K T vs ds/\ow (ow B X Z) Y U b:=λk b hb=>by
     let f:k<I.length:=by rw[<-g1];show(Uo.mp hb).1
     let(b',ds,vs,e,y,u,m,t,g):=g3 k _ (UD f);rw[hb]at e;ext e;show#[_,ds,vs,UD f,y,u,m,t,g]
    let nB:∀(j:Nat) (b:Uw),Y[j]?=cL b->ow (ow B X Z) Y U b->H b=CL:=λj b N M=>by
     rcases M with z|⟨i,c,z1,z2,z3⟩
     .show bg N (G.ba b z j)
     .show fr i b c z1 z2 z3
    let fp:∀p∈ps,H p=CL:=λp L=>by let(k,f):=VS.mp L;let(j,ds,vs,e,y,u,m,t,g):=A k p f;show nB j p u g
    let n:∀b,ow B (X++ps) (Z++cs.map SD) b->ow (ow B X Z) Y U b:=λb z=>by
     rcases z with z|z
     .show .inl (.inl z)
     .rcases Jw s.len z with z|z
      .show .inl (.inr z)
      .let(k,f):=VS.mp z;let(j,ds,vs,e,y,u,m,t,g):=A k b f;show g
    let ev:=Wy.acg (cs:=cs.map SD) s C fp;show w (X++ps) T ev (s.acg C fp (λp L=>?_) (λi j b hi N=>?_) (by rw[Ur,g1,g2]) λi b c hi hc=>?_) (.ref a) #[a,xs,W,ht.ev (Ev.sub n),Paired.Yv (g4 X s.len) λ_ _ r=>r.ev (Ev.sub n) λ_ _ h=>h]
    .let(k,f):=VS.mp L;let(j,ds,vs,e,y,u,m,t,g):=A k p f;rw[m];simp
    .let(j1,_,_,p1,_,p3,_):=A i b hi;let(j2,_,_,r1,_,r3,_):=A j b N;let:=G.nd j1 j2 b p3 r3;subst this;let P:=(Uo.mp p1).1;show(aek P hn).mp (p1.trans r1.symm)
    .let(j,ds,vs,e,y,u,m,t,g):=A i b hi;rw[UK,y]at hc;ext hc;show#[vs,m,rL _ _ (t.ev (Ev.sub n))]
   .rw[ax hn]at w;show w.elim
def wY(F:jW)(n:Nat)(xs:G SV)(Z:bC):RS SV:=if xs.length=n then(match bc zo xs with
 |some ds=>(match F (ds.map .fz) []with
  |.ok x U=>tO x U Z
  |.er x _=>.er x Z
  |.bad=>.bad)
 |none=>.bad)else .bad
def DW(F:jW)(n:Nat)(a:Bq):gq:=λρ Z=>(a ρ Z).bind λxs Z1=>kZ (wY F n xs Z1)
theorem Gj(h:∀a,B a->H a≠L):U9 B K H [] []:=#[W,λi j a h=>by simp at h,h,λa h i=>by simp,λi a h=>by simp at h,λi a c h=>by simp at h]
theorem Dv:∀{xs:G SV} {ds:G D},bc zo xs=R ds->xs=ds.map .fz
 |[],_,e=>by ext e;rfl
 |x::r,ds,e=>by
  unfold bc at e;cases x with
  |fz d=>
   dsimp only[zo]at e;cases q:bc zo r with
   |none=>rw[q]at e;ext e
   |some a=>rw[q]at e;ext e;rw[UM,<-Dv q]
  |rf i=>ext e
  |tp l=>ext e
def Ik(s:U9 B K H X Z)(d:W8 (ow B X Z) K H X C xs)(w:WS K E B H X Z (PQ B K Q) (wY F n xs Z)):fM K n F C H Q E:=by
 unfold wY at w;by_cases hn:xs.length=n
 .rw[av hn]at w
  show#[d.length.trans hn,?_];cases q:bc zo xs with
  |none=>rw[q]at w;show w.elim
  |some ds=>
   rw[q]at w;dsimp only at w;let j:=Dv q;show#[ow B X Z,[],[],ds.map .fz,Gj s.owd,?_,?_]
   .rw[j]at d;show rL _ _ ((Gi d).ev (Ev.sub λb z=>z.elim id λ#[i,c,q,_]=>by simp at q))
   .cases l:F (ds.map .fz) []with
    |bad=>rw[l]at w;show w.elim
    |ok x U=>rw[l]at w;show λY T e g v a=>E8 s w e g a
    |er x U=>
     rw[l]at w;intro c m Y T e g k;let f:=λb o h=>e.kp b o h λ#[i,c,q,_]=>by simp at q
     show w c m X T (Wy.same f) (s.grow f) (XOk.sub (λb z=>.inl z) k)
 .rw[ax hn]at w;show w.elim
def wV(c:FY K E o C):gr K E (wX (fM K n F) [] E0 o) (DW F n C):=by intro B σ H X Z ρ Q s b w;show c B σ H X Z ρ _ s b (w.bind.imp λxs S Z1 H1 f d a g e=>?_);rw[UZ];show Ik d e (WS.e0 a)
def QO(F:jW):FN:=λds=>match F (ds.map .fz) []with
 |.ok (.fz d) _=>.ok (.fz d)
 |.ok (.rf i) Z=>(match sh Z (.rf i)with
  |some (.list ds)=>.ok (.ow ds)
  |_=>.bad)
 |.ok (.tp _) _=>.bad
 |.er x _=>.er x
 |.bad=>.bad
def OM(h:g7 K n (QO F) vs H Q E):fM K n F vs H Q E:=by
 let(u,B,ds,A,G,w):=h;show#[u,B,[],[],ds.map .fz,Gj A,rL _ _ (G.ev (Ev.sub λb z=>z.elim id λ#[i,c,q,_]=>by simp at q)),?_];unfold QO at w;cases qF:F (ds.map .fz) []with
 |bad=>rw[qF]at w;show w.elim
 |er x U=>rw[qF]at w;intro c dx Y T f j k;show w c dx T (λb o h=>f.kp b o h λ#[i,c,q,_]=>by simp at q) (XOk.sub (λb z=>.inl z) k)
 |ok x U=>
  rw[qF]at w;intro Y T f j v m;let g:=λb o h=>f.kp b o h λ#[i,c,q,_]=>by simp at q
  cases x with
  |fz d=>show w v T g (DV.ev (Ev.sub λb z=>.inl z) m)
  |tp l=>show w.elim
  |rf i=>
   dsimp only at w;cases N:sh U (.rf i)with
   |none=>rw[N]at w;show w.elim
   |some d=>
    rw[N]at w;cases d with
    |list I=>let(a,p,ha,C,y,t):=pH j N;let(xs,r,_):=yr N;let(J,e,rfl):=m;rw[ha]at e;ext e;show w a p T g ((f.lv a #[i,_,ha,r,by intro z;ext z]).elim (λ#[i,c,q,_]=>by simp at q) id) C (y.ev (Ev.sub λb z=>z.elim (λz=>.inl z) λz=>by rw[z];show t))
    |_=>show w.elim
end
def cb(P:UY)(w:Vi)(K:lD)(d:Str->cv M)(base:Heap)(a:zZ)(k:Nat)(C m:Str)(c:G Str)(sp:Sp):Prop:=
 ∃b f fd,UN K UI C=R (R (.ref b))/\Cls K b/\Meth K b m f/\FnOk P w K d base a k f fd c sp/\Binds K fd c []
def qE(P:UY)(w:Vi)(K:lD)(d:Str->cv M)(base:Heap)(a:zZ)(k:Nat)(C:Str)(c:G Str)(sp:Sp):Prop:=
 ∃b f fd,UN K UI C=R (R (.ref b))/\d C=R (.ref b)/\Mk K b f/\FnOk P w K d base a k f fd c sp/\Binds K fd c []
def BJ(K:lD)(C m:Str)(sp:Sp)(E:XK)(b:TE)(t:TA):TE:=λa H Q=>∃d,UN K UI C=R (R (.ref d))/\CY d m sp [] E b t a H Q
def Cy(K:lD)(C:Str)(sp:Sp)(E:XK)(t:TA):TE:=λa H Q=>∃b,UN K UI C=R (R (.ref b))/\CW b sp [] E t a H Q
section
variable{X:Cx}{T:zZ}{E:XK}{k j:Nat}{C m:Str}{R:cn Str}{N:Sp}{o e:Vr}{U:cn Vr}{S:TE}{t:TA}{Y Z p:Pos}
def wW(M:cb X.prog X.w X.K X.mg X.base T k C m R N)(l:jg T X E)(q:W0 j X.A)(r:PE X o S)(c:PA X (e::U) t)(d:k<=j:=by decide)
  (gj:U4 (e::U) X.env=(Uu,eval e X.env)::U4 U X.env:=by rfl) (b:(backTo Z (U4 U X.env)).any (·.1)=Uu:=by rfl)
  (n:eval (.Call (.Attribute o m Y) (e::U) [] Z) X.env=(do
   let ov<-eval o X.env
   standAt Y.atName
   let(f,first)<-holding [ov] (getMethod ov m pl)
   callWith Z f first (backTo Z (U4 (e::U) X.env)) (backToKw Z (keywordEach [] X.env))):=by rfl):PE X (.Call (.Attribute o m Y) (e::U) [] Z) (BJ X.K C m N E S t):=by
 let(J,f,F,B,z,y,v,u):=M;intro a s i H Q I #[G,g,h];rw[B]at g;ext g;show KO r z y v (q.mono d) u .nil l c gj b n a s i H Q I h
def GM(M:cb X.prog X.w X.K X.mg X.base T k C m R N)(i:jg T X E)(n:W0 j X.A)(q:PE X o S)(b:k<=j:=by decide)
  (l:eval (.Call (.Attribute o m Y) [] [] Z) X.env=(do
   let ov<-eval o X.env
   standAt Y.atName
   let(f,first)<-holding [ov] (getMethod ov m pl)
   callWith Z f first (backTo Z (U4 [] X.env)) (backToKw Z (keywordEach [] X.env))):=by rfl):PE X (.Call (.Attribute o m Y) [] [] Z) (BJ X.K C m N E S pN):=by
 let(G,f,B,z,y,v,u,r):=M;intro a s g H Q I #[F,d,h];rw[z]at d;ext d;show IQ q y v u (n.mono b) r .nil i l a s g H Q I h
def MX(M:qE X.prog X.w X.K X.mg X.base T k C R N)(n:jg T X E)(q:W0 j X.A)(c:PA X (e::U) t)(d:k+1<=j:=by decide)(r:Gl X C:=by rfl)
  (g:(C==("__debug__":Str))=Uu:=by decide) (u:U4 (e::U) X.env=(Uu,eval e X.env)::U4 U X.env:=by rfl) (b:(backTo Z (U4 U X.env)).any (·.1)=Uu:=by rfl):
  PE X (.Call (.Name C p) (e::U) [] Z) (Cy X.K C N E t):=by
 let(L,f,G,F,B,z,y,v):=M;intro a s l H Q I #[A,i,h];rw[F]at i;ext i;show Lx z y (q.mono d) r B v .nil n c g u b a s l H Q I h
def GH(M:qE X.prog X.w X.K X.mg X.base T k C R N)(l:jg T X E)(n:W0 j X.A)(b:k+1<=j:=by decide)(q:Gl X C:=by rfl)
  (d:(C==("__debug__":Str))=Uu:=by decide):PE X (.Call (.Name C p) [] [] Z) (Cy X.K C N E pN):=by
 let(G,f,B,z,y,v,u,r):=M;intro a s i H Q I #[F,g,h];rw[z]at g;ext g;show GL v u (n.mono b) q y r .nil l d a s i H Q I h
end
section
variable{K:lD}{E:XK}{C m:Str}{F:jW}{n:Nat}{to:TE}{Y:TA}{U:gq}{X:Bq}{L:cn Str}
def lY(a:fq K C L)(e:gr K E to U)(c:FY K E Y X):gr K E (BJ K C m (fM K n F) E0 to Y) (a9 C m F n U X):=by let(f,a,_):=a;show λB b H α Z g Q s d w=>#[f,a,EH a e c B b H α Z g Q s d w]
def za(a:fq K C L)(c:FY K E Y X):gr K E (Cy K C (fM K n F) E0 Y) (kW C F n X):=by let(e,a,_):=a;show λB b H α Z f Q s d w=>#[e,a,Io a c B b H α Z f Q s d w]
end
section
variable{ρ ρ1 Q:b3}{Z S Y X I:bC}{x y z:SV}{i n:Nat}{d T U:D}{ds:cn D}{b:Bool}
def aV(h:ρ[i]?=R (R x)):aH i ρ Z=.ok x Z:=by ext aH;rw[h]
def ai(h:f (cZ ρ)=.ok (.fz d,ρ')):am f ρ Z=.ok (.fz d) Z:=by ext am;rw[h]
def ff(h:f (cZ ρ)=.ok (.ow ds,ρ')):am f ρ Z=.ok (.rf Z.length) (Z++[.lst (ds.map .fz)]):=by ext am;rw[h];rfl
def bz(h:f (cZ ρ)=.ok (b,o)):cC f ρ Z=.ok b Z:=by ext cC;rw[h]
def na(h:f (cZ ρ)=.ok (ds,o)):ma f ρ Z=.ok ds Z:=by ext ma;rw[h]
def fF(g:e ρ Z=.ok (.rf i) S)(h:S[i]?=R (.obj C fs))(a:fs.lookup f=R x):bU C f e ρ Z=.ok x S:=by ext bU;rw[g,ek];dsimp only;rw[h];dsimp only;rw[av W,a];rfl
def dY(c:o ρ Z=.ok x S)(e:fb ρ S=.ok y Y)(a:uG f x y Y=.ok z X):j3 f o fb ρ Z=.ok z X:=by ext j3;rw[c,ek,e,ek,a]
def de(h:f T U=R (.fz d)):uG f (.fz T) (.fz U) Z=.ok (.fz d) Z:=by ext uG;show((RS.Vm Z (f T U)).bind λa S=>me S a)=_;rw[h];rfl
def yt(e:sh Z x=R T)(a:sh Z y=R U)(h:f T U=R (.fz d)):uG f x y Z=.ok (.fz d) Z:=by ext uG;rw[e,a];show((RS.Vm Z (f T U)).bind λg S=>me S g)=_;rw[h];rfl
theorem qU:∀ds:G D,bc zo (ds.map .fz)=R ds
 |[]=>rfl
 |d::r=>by rw[UM];ext bc;rw[qU r];rfl
def iE(h:Z[i]?=R (.lst (ds.map .fz))):sh Z (.rf i)=R (.list ds):=by ext sh;dsimp only;rw[h];dsimp only;rw[qU];rfl
def bS(h:o ρ Z=.ok (.fz (.bool b)) S):b5 o ρ Z=.ok b S:=by ext b5;rw[h];rfl
def kT(h:o ρ Z=.ok P S)(k:fb ρ S=r):pP o fb ρ Z=r:=by ext pP;rw[h,ek,av W,k]
def jC(h:o ρ Z=.ok Uu S):pP o fb ρ Z=.ok Uu S:=by ext pP;rw[h,ek,ax Ux]
def pS(h:o ρ Z=.ok P S):EJ o fb ρ Z=.ok P S:=by ext EJ;rw[h,ek,av W]
def nG(h:o ρ Z=.ok Uu S)(k:fb ρ S=r):EJ o fb ρ Z=r:=by ext EJ;rw[h,ek,ax Ux,k]
def tX(h:o ρ Z=.ok b S):vW o ρ Z=.ok (!b) S:=by ext vW;rw[h];rfl
def EU(h:b5 o ρ Z=.ok P S)(k:fb ρ S=r):Ff o fb ρ Z=r:=by ext Ff;rw[h,ek,av W,k]
def Fg(h:b5 o ρ Z=.ok Uu S):Ff o fb ρ Z=.ok (.fz (.bool Uu)) S:=by ext Ff;rw[h,ek,ax Ux]
def Mi(h:c ρ Z=.ok P S)(k:o ρ S=r):OL c o fb ρ Z=r:=by ext OL;rw[h,ek,av W,k]
def Lh(h:c ρ Z=.ok Uu S)(k:fb ρ S=r):OL c o fb ρ Z=r:=by ext OL;rw[h,ek,ax Ux,k]
theorem aX:bx ρ Z=.ok [] Z:=W
def aF(c:o ρ Z=.ok x S)(a:fr ρ S=.ok xs Y):aC o fr ρ Z=.ok (x::xs) Y:=by ext aC;rw[c,ek,a,ek]
def yg(c:o ρ Z=.ok (ds.map .fz) S)(a:ds.length<=1000):r8 o ρ Z=.ok (.fz (.tuple ds)) S:=by ext r8;rw[c,ek,Ur,av a];ext SG;rw[qU];rfl
def Rb(c:o ρ Z=.ok xs S)(a:xs.length<=1000)(f:bc zo xs=L)(e:bc OJ xs=R l):r8 o ρ Z=.ok (.tp l) S:=by ext r8;rw[c,ek,av a];ext SG;rw[f];dsimp only;rw[e];rfl
def Nc(c:o ρ Z=.ok xs S)(a:bc (sh S) xs=R ds)(h:f ds=R (.fz d)):Kf f o ρ Z=.ok (.fz d) S:=by ext Kf;rw[c,ek];ext LO;rw[a];show((RS.Vm S (f ds)).bind λe S=>me S e)=_;rw[h];rfl
def vA(e:o ρ Z=.ok (ds.map .fz) S)(c:ds.length=n)(a:F ds=.ok (.fz d)):i4 F n o ρ Z=.ok (.fz d) S:=by ext i4;rw[e,ek];ext xj;rw[Ur,av c,qU];dsimp only;rw[a];rfl
def tT(e:o ρ Z=.ok (ds.map .fz) S)(c:ds.length=n)(a:F ds=.ok (.ow C)):i4 F n o ρ Z=.ok (.rf S.length) (S++[.lst (C.map .fz)]):=by ext i4;rw[e,ek];ext xj;rw[Ur,av c,qU];dsimp only;rw[a];rfl
theorem G9:kZ (RS.ok a Z)=.ok a Z:=W
def fH(e:o ρ Z=.ok (.rf i) S)(f:S[i]?=R (.obj C fs))(hm:fs.lookup m=L)(h:fa ρ S=.ok xs Y)(c:(SV.rf i::xs).length=n)(g:F (.rf i::xs) Y=.ok x X):a9 C m F n o fa ρ Z=.ok x X:=by
 let a:xx S C m (.rf i)=P:=by ext xx;dsimp only;rw[f];dsimp only;rw[hm,aP W];rfl
 ext a9;rw[e,ek,av a,h,ek,av c,g];rfl
def vQ(e:fa ρ Z=.ok xs S)(c:(SV.rf S.length::xs).length=n)(a:F (.rf S.length::xs) (S++[.obj C []])=.ok (.fz .none) Y):kW C F n fa ρ Z=.ok (.rf S.length) Y:=by ext kW;rw[e,ek];ext DU;rw[av c,a,ek,av (show Kd (.fz .none)=P from rfl)];rfl
def eN(c:o ρ Z=.ok (.fz T) S)(a:fb ρ S=.ok (.fz U) Y)(h:bu T U=R (.fz d)):kH o fb ρ Z=.ok (.fz d) Y:=by ext kH;rw[c,ek,a,ek];show de h
def Jj(a:C ρ Z=.ok (.rf i) S)(h:S[i]?=R (.lst xs))(f:o ρ S=.ok x Y)(g:Y[i]?=R (.lst ys))(e:ys.length<1000000):AZ C o ρ Z=.ok (.fz .none) (Y.set i (.lst (ys++[x]))):=by
 let l:ii S (.rf i)=R (i,xs):=by ext ii;dsimp only;rw[h]
 let j:ii Y (.rf i)=R (i,ys):=by ext ii;dsimp only;rw[g]
 ext AZ;rw[a,ek,l];show((o ρ S).bind _)=_;rw[f,ek,j];show(if ys.length<1000000 then _ else _)=_;rw[av e]
def pw(h:Z[i]?=R (.dct o)):jI Z (.rf i)=R (i,o):=by ext jI;dsimp only;rw[h]
def CA(a:o ρ Z=.ok x S)(hd:fd ρ S=.ok (.rf i) Y)(f:wA x=R k)(e:Y[i]?=R (.dct C)):AB neg o fd ρ Z=.ok (.fz (.bool ((l4 C k).isSome !=neg))) Y:=by ext AB;rw[a,ek,hd,ek,f];show((RS.Vm Y (jI Y (.rf i))).bind _)=_;rw[pw e];rfl
def MC(hd:fd ρ Z=.ok (.rf i) S)(a:C ρ S=.ok x Y)(g:wA x=R k)(f:Y[i]?=R (.dct o))(e:l4 o k=R y):wJ fd C ρ Z=.ok y Y:=by ext wJ;rw[hd,ek,a,ek,g];show((RS.Vm Y (jI Y (.rf i))).bind _)=_;rw[pw f];show RS.Vm Y (l4 o k)=_;rw[e];rfl
def Mv(a:C ρ Z=.ok y S)(hd:fd ρ S=.ok (.rf i) Y)(f:fk ρ Y=.ok x X)(h:wA x=R k)(g:X[i]?=R (.dct o))(e:o.length<1000000):Bg fd fk C ρ Z=.ok (.nx ρ) (X.set i (.dct (l9 o k y))):=by ext Bg;rw[a,ek,hd,ek,f,ek,h];show((RS.Vm X (jI X (.rf i))).bind _)=_;rw[pw g];show(if o.length<1000000 then _ else _)=_;rw[av e]
def LR(hd:fd ρ Z=.ok (.rf i) S)(h:S[i]?=R (.dct aj4))(a:C ρ S=.ok x Y)(g:wA x=R k)(f:Y[i]?=R (.dct o))(e:l4 o k=R y):AD fd C ρ Z=.ok y (Y.set i (.dct (pf o k))):=by ext AD;rw[hd,ek,pw h];show((C ρ S).bind _)=_;rw[a,ek,g];show((RS.Vm Y (jI Y (.rf i))).bind _)=_;rw[pw f];show((RS.Vm Y (l4 o k)).bind _)=_;rw[e];rfl
def Li(hd:fd ρ Z=.ok (.rf i) S)(h:S[i]?=R (.dct o)):DS fd ρ Z=.ok (.rf S.length) (S++[.lst (o.map (·.2))]):=by ext DS;rw[hd,ek,pw h];rfl
def Ly(hd:fd ρ Z=.ok (.rf i) S)(h:S[i]?=R (.dct o))(e:bc Bs (o.map (·.1))=R ns)(a:ns.length<64):wO fd ρ Z=.ok (.rf S.length) (S++[.lst ((mN ns).map λi=>SV.fz (.int i))]):=by ext wO;rw[hd,ek,pw h];show((RS.Vm S (bc Bs (o.map (·.1)))).bind _)=_;rw[e];show(if ns.length<64 then _ else _)=_;rw[av a]
def Ls(a:C ρ Z=.ok x S)(h:yh x=R o):AX C ρ Z=.ok (.rf S.length) (S++[.dct (oY [] o)]):=by ext AX;rw[a,ek,h];rfl
variable{B:FlS}{r:RS FlS}
def bq(h:f ρ Z=.ok (.nx ρ1) S)(k:g ρ1 S=r):aR f g ρ Z=r:=by ext aR;rw[h,ek];show k
def gn(h:f ρ Z=.ok (.rt x) S):aR f g ρ Z=.ok (.rt x) S:=by ext aR;rw[h];rfl
def fR(h:c ρ Z=.ok P S)(k:f ρ S=r):cT c f g ρ Z=r:=by ext cT;rw[h,ek,av W,k]
def d8(h:c ρ Z=.ok Uu S)(k:g ρ S=r):cT c f g ρ Z=r:=by ext cT;rw[h,ek,ax Ux,k]
def eu(h:f ρ Z=.ok x S):gB f ρ Z=.ok (.rt x) S:=by ext gB;rw[h];rfl
def ka(h:f ρ Z=.ok x S):dj f ρ Z=.ok (.nx ρ) S:=by ext dj;rw[h];rfl
def fL(h:f ρ Z=.ok x S)(e:ρ.set i (R x)=ρ1):dW f (gb i) ρ Z=.ok (.nx ρ1) S:=by subst e;ext dW;rw[h];rfl
theorem eB:cQ ρ Z=.ok (.nx ρ) Z:=W
def eV(h:fe ρ Z=.ok x S)(a:o ρ S=.ok (.rf i) Y)(j:Y[i]?=R (.obj C fs))(g:fs.length<100):fx C f o fe ρ Z=.ok (.nx ρ) (Y.set i (.obj C (dI f x fs))):=by
 let e:F1 Y C (.rf i)=R (i,fs):=by ext F1;dsimp only;rw[j];dsimp only;rw[av W]
 ext fx;rw[h,ek,a,ek,e];show(if fs.length<100 then _ else _)=_;rw[av g]
def yZ(h:f ρ Z=.ok x S)(k:frz 4 S x=R (d,Y)):qD f ρ Z=.ok (.fz d) Y:=by ext qD;rw[h,ek];ext N4;rw[k]
def gc(e:xs.map R++Us (N - xs.length) L=ρ)(h:g ρ Z=.ok (.rt x) S):eW N g xs Z=.ok x S:=by subst e;ext eW;rw[h];rfl
def j6(e:xs.map R++Us (N - xs.length) L=ρ)(h:g ρ Z=.ok (.nx ρ1) S):eW N g xs Z=.ok (.fz .none) S:=by subst e;ext eW;rw[h];rfl
end
section
variable{ρ U Q:b3}{Z X Y B A:bC}{x y z:SV}{i n:Nat}{d u t:D}{ds:cn D}{b:Bool}
theorem rF(e:α->D)(f:α->SV)(Z:bC)(I:b3->Prop):∀(xs:G α) (ρ:b3) (a:G SV),I ρ->a.length+xs.length<=1000000->(∀x∈xs,∀ρ,I ρ->∃c,gt (.fz (e x)) ρ Z=.ok c Z/\C c Z=.ok P Z/\fe c Z=.ok (f x) Z/\I c)->fw gt C fe (xs.map e) ρ Z a=.ok (a++xs.map f) Z
 |[],ρ,a,_,_,_=>by show RS.ok a Z=_;rw[Zt,UZ]
 |x::r,ρ,a,h0,p,o=>by let(c,m,l,j,h):=o x UA ρ h0;rw[UL]at p;show((gt (.fz (e x)) ρ Z).bind _)=_;rw[m,ek,l,ek,av W,j,ek,av (),rF e f Z I r c _ h (by rw[UB,WG];ext) λy g=>o y (UC _ g),Vl];rfl
def tY(c:fi ρ Z=.ok ds X)(a:fw gt o I ds (k7 n C ρ) X []=.ok xs Y):l8 n C fi gt o I ρ Z=.ok (.rf Y.length) (Y++[.lst xs]):=by ext l8;rw[c,ek,a,G9,ek]
theorem DC(m:Nat):∀(ds:G D),wa (frz m) Z (ds.map .fz)=R (ds,Z)
 |[]=>rfl
 |d::r=>by rw[UM];ext wa;rw[show frz m Z (.fz d)=R (d,Z) by ext m<;>rfl];dsimp only;rw[DC m r]
def tE(h:Z[i]?=R (.lst (ds.map .fz))):frz 4 Z (.rf i)=R (.list ds,Z.set i .dead):=by ext frz;rw[h];dsimp only;rw[DC]
def xA(h:o ρ Z=.ok (.rf i) X)(a:X[i]?=R (.lst (ds.map .fz))):kX o ρ Z=.ok ds (X.set i .dead):=by ext kX;rw[h,ek,tE a];rfl
def Tl(N C:b3->bC->Prop)(T:SV->bC->Prop):RS FlS->Prop
 |.ok (.nx ρ) Z=>N ρ Z
 |.ok (.ct ρ) Z=>C ρ Z
 |.ok (.rt v) Z=>T v Z
 |_=>False
structure Yq(r:RS FlS)(N C:b3->bC->Prop)(T:SV->bC->Prop):Prop where
 out:Tl N C T r
variable{f g:g6}{S:gq}{N C:b3->bC->Prop}{T:SV->bC->Prop}
def Yq.eq(e:r=r')(h:Yq r' N C T):Yq r N C T:=by rw[e];show h
def t7(h:Yq (f ρ Z) (λr o=>Yq (g r o) N C T) C T):Yq (aR f g ρ Z) N C T:=by
 show#[?_];let h:=h.out;ext aR;cases q:f ρ Z with
 |bad=>rw[q]at h;show h.elim
 |er x o=>rw[q]at h;show h.elim
 |ok a o=>
  rw[q]at h;cases a with
  |nx r=>show(show Yq (g r o) N C T from h).out
  |ct r=>show h
  |rt v=>show h
  |bk r=>show h.elim
def Ae(h:c ρ Z=.ok b X)(a:b=P->Yq (f ρ X) N C T)(e:b=Uu->Yq (g ρ X) N C T):Yq (cT c f g ρ Z) N C T:=by
 ext cT;rw[h,ek];cases b with
 |true=>show a W
 |false=>show e W
theorem vB(e:c ρ Z=.ok P X)(a:Yq (f ρ X) N C T):Yq (cT c f g ρ Z) N C T:=Ae e (λ_=>a) λh=>by ext h
theorem gh(e:c ρ Z=.ok Uu X)(a:Yq (g ρ X) N C T):Yq (cT c f g ρ Z) N C T:=Ae e (λh=>by ext h) λ_=>a
def Ob(e:S ρ Z=.ok x X)(a:gt x ρ X=.ok U Y)(h:N U Y):Yq (dW S gt ρ Z) N C T:=by show#[?_];ext dW;rw[e,ek,a,ek];show h
theorem qV(a:f ρ Z=.ok (.nx U) X)(h:N U X):Yq (f ρ Z) N C T:=#[by rw[a];show h]
theorem RB(a:f ρ Z=.ok (.rt x) X)(h:T x X):Yq (f ρ Z) N C T:=#[by rw[a];show h]
theorem kl(a:S ρ Z=.ok x X)(h:N ρ X):Yq (dj S ρ Z) N C T:=qV (ka a) h
theorem Pv(a:S ρ Z=.ok x X)(h:T x X):Yq (gB S ρ Z) N C T:=RB (eu a) h
theorem Lo(h:T (.fz .none) Z):Yq (wZ ρ Z) N C T:=#[h]
theorem nI(h:N ρ Z):Yq (cQ ρ Z) N C T:=#[h]
theorem lX{gt:z9}(e:S ρ Z=.ok x X)(a:gt x ρ X=.ok U Y)(h:Yq (g U Y) N C T):Yq (aR (dW S gt) g ρ Z) N C T:=t7 (Ob e a h)
theorem DB(a:f ρ Z=.ok (.nx U) X)(h:Yq (g U X) N C T):Yq (aR f g ρ Z) N C T:=t7 (qV a h)
theorem nN(a:S ρ Z=.ok x X)(h:Yq (g ρ X) N C T):Yq (aR (dj S) g ρ Z) N C T:=t7 (kl a h)
def AM{h a:g6}(m:c ρ Z=.ok b X)(j:b=P->Yq (aR h g ρ X) N C T)(l:b=Uu->Yq (aR a g ρ X) N C T):Yq (aR (cT c h a) g ρ Z) N C T:=by
 let e:aR (cT c h a) g ρ Z=if b=P then aR h g ρ X else aR a g ρ X:=by unfold aR cT;rw[m,ek];ext b<;>rfl
 show .eq e ?_;cases b with
 |true=>show j W
 |false=>show l W
theorem yC{a l:g6}(j:c ρ Z=.ok P X)(e:Yq (aR a g ρ X) N C T):Yq (aR (cT c a l) g ρ Z) N C T:=AM j (λ_=>e) λh=>by ext h
theorem uh{l a:g6}(j:c ρ Z=.ok Uu X)(e:Yq (aR a g ρ X) N C T):Yq (aR (cT c l a) g ρ Z) N C T:=AM j (λh=>by ext h) λ_=>e
theorem yY(h:T (.fz .none) Z):Yq (aR wZ g ρ Z) N C T:=t7 (Lo h)
theorem pT(h:Yq (g ρ Z) N C T):Yq (aR cQ g ρ Z) N C T:=t7 (nI h)
def Op{a e:g6}(h:Yq (aR a (aR e g) ρ Z) N C T):Yq (aR (aR a e) g ρ Z) N C T:=by
 show .eq ?_ h;ext aR;cases a ρ Z with
 |bad=>rfl
 |er x o=>rfl
 |ok j o=>ext j<;>rfl
def PD(a:xs.map R++Us (n - xs.length) L=ρ)(h:Yq (g ρ Z) (λ_ c=>T (.fz .none) c) (λ_ _=>False) T):∃x c,eW n g xs Z=.ok x c/\T x c:=by
 let h:=h.out;ext eW;rw[a];cases q:g ρ Z with
 |bad=>rw[q]at h;show h.elim
 |er x o=>rw[q]at h;show h.elim
 |ok e o=>
  rw[q]at h;cases e with
  |nx r=>show#[_,_,W,h]
  |ct r=>show h.elim
  |rt v=>show#[_,_,W,h]
  |bk r=>show h.elim
def kr{W:bC->Prop}(a:xs.map R++Us (n - xs.length) L=ρ)(h:Yq (g ρ Z) (λ_ c=>SV.fz .none=v/\W c) (λ_ _=>False) (λr c=>r=v/\W c)):∃c,eW n g xs Z=.ok v c/\W c:=by let(x,c,l,j,e):=PD (T:=λr c=>r=v/\W c) a h;show#[c,by rw[l,j],e]
end
end L10
namespace L10
open PySem PyProof.Rows L2 L3
section
variable{B O N:cN}{K:lD}{E:XK}{H I C A:Hp}{u T S Q:cn Uw}{Z t U Y:bC}{r:L2.St}{X:b3}{v:V}
def OU{c fb:gq}{y z:SV}{i:Nat}{n:Int}{xs:G SV}(f:c X Z=.ok (.rf i) U)(d:fb X U=.ok y Y)(e:EN y=R n)(a:Y[i]?=R (.lst xs))(b:mo xs n=R z):kH c fb X Z=.ok z Y:=by ext kH;rw[f,ek,d,ek];ext K8;simp only[a,e];show RS.Vm Y (mo xs n)=_;rw[b];rfl
end
end L10
namespace L10
open PySem PyProof.Rows L2 L3
section
variable{O Y:cN}{K:lD}{H Z:Hp}{a b:Uw}{U:cn V}{X:Heap->Prop}
def SJ(a:J)(O:cN)(H:Hp)(Y:cN)(Z:Hp):Prop:=∀b o,b≠a->H b=R o->¬O b->Z b=R o/\¬Y b
def aaR.evx(g:H a=R (.ext X))(h:aaR O K H b U)(e:SJ a O H Y Z):aaR Y K Z b U:=by
 let(h,k):=h;by_cases z:O b
 .show#[Yw.same (n9 Z) (k z),λ_=>k z]
 .rcases h with(h|⟨o,h⟩)|h
  .let(f,d):=e b _ (λy=>by rw[y,g]at h;ext h) h z;show#[.inl (.inl f),λy=>bg y d]
  .let(f,d):=e b _ (λy=>by rw[y,g]at h;ext h) h z;show#[.inl (.inr #[o,f]),λy=>bg y d]
  .show#[.inr h,λ_=>.inr h]
def Zp.evx(g:H a=R (.ext X))(h:Zp O K H b U)(e:SJ a O H Y Z):Zp Y K Z b U:=by
 let(h,k):=h;by_cases z:O b
 .show#[(n9 Z).tup (k z),λ_=>k z]
 .rcases h with(h|⟨o,h⟩)|h
  .let(f,d):=e b _ (λy=>by rw[y,g]at h;ext h) h z;show#[.inl (.inl f),λy=>bg y d]
  .let(f,d):=e b _ (λy=>by rw[y,g]at h;ext h) h z;show#[.inl (.inr #[o,f]),λy=>bg y d]
  .show#[.inr h,λ_=>.inr h]
mutual
theorem DV.evx(f:H a=cL (.ext X))(e:SJ a O H Y Z):∀{v:V} {d:D},L3.DV O K H v d->L3.DV Y K Z v d
 |_,_,.Xp=>.Xp
 |_,_,.bl b=>.bl b
 |_,_,.int i=>.int i
 |_,_,.str x=>.str x
 |_,_,.tup h hs=>.tup (Zp.evx f h e) (Wb.evx f e hs)
 |_,_,.lst h hs=>.lst (aaR.evx f h e) (Wb.evx f e hs)
theorem Wb.evx(d:H a=cL (.ext X))(e:SJ a O H Y Z):∀{vs:cn V} {ds:cn D},L3.Wb O K H vs ds->L3.Wb Y K Z vs ds
 |_,_,.nil=>.nil
 |_,_,.cons h hs=>.cons (DV.evx d e h) (Wb.evx d e hs)
end
end
end L10
namespace L3
open PySem L2
structure NI(K:lD)(f:J)(n:Str)(t:Xg):Prop where
 a:UN K UI n=R (R (.ref f))
 F:∃fd,WA K n n t f fd
structure MI(K:lD)(C f:J)(m q:Str)(t:Xg):Prop where
 a:Vw K (.ref C) m=R (R (.ref f))
 i:aav K (.ref f)=P
 F:∃fd,WA K m q t f fd
structure CI(K:lD)(C:J)(n:Str)(fs:G Str):Prop where
 a:UN K UI n=R (R (.ref C))
 pg:XO K C Str.empty=P
 hd:Yy K C=P
 po:aaw K C=P
 sa:Vw K (.ref C) "__setattr__"=R (R (.builtin "object.__setattr__"))
 mm:abe K C=P
 kc:WQ K (.ref C)=P
 fl:∀x∈fs,ZJ K C x
def BA(n q:Str)(t:Xg)(c:G Str):Prop:=∀(kV b d:M) (e:cv J) (f ct:M) (a:G M),a.length=c.length->bindArgs (Xi n q (nX t) (gR t) (bH t) .none kV b d e f ct) #[a,[]]=pure (c.zip a)
section
variable{P:UY}{w:Vi}{K:lD}{T:Str->cv Um}{U h:Heap}{f C:Uw}{n m q:Str}{t:Xg}{Z fs:cn Str}{Y k:Nat}{Q I:Sp}
theorem CI.cls(c:CI K C n fs):Cls K C:=#[c.pg,c.hd,c.po,c.sa]
theorem CI.cf(c:CI K C n fs):L10.fq K n fs:=#[C,c.a,c.cls,c.fl]
theorem NI.cal(i:NI K f n t)(X:K.In h)(G:h.Ns UI T)(b:BA n n t Z)(ok:∀fd,WA K n n t f fd->FnOk P w K T U cz Y f fd Z Q):Ak P w K T U Y n Z Q:=
 let#[fd,z]:=i.F;#[f,fd,ok fd z,z.binds b,z.kp,Vp X G i.a]
def NI.law(i:NI K f "law" t)(X:K.In h)(G:h.Ns UI T)(b:T "law"=R (.ref fa))(o:BA "law" "law" t [x])(ok:∀U fd,WA K "law" "law" t f fd->FnOk P w K T U cz Y f fd [x] Q):∃fd:V3,(∀(s:Uv) (v:M),aa2 s fd #[[v],[]] [(x,v)])/\∀U:Heap,K.In U->U.Ns UI T->FnOk P w K T U cz Y fa fd [x] Q:=by let e:=b.symm.trans (Vp X G i.a);ext e;let(fd,z):=i.F;let(y,u,kV,d,g,p,r,ct,j,rfl,A,l):=z.ex;show#[_,λs v=>.of_eq (o kV d g p r ct [v] W),λU _ _=>ok U _ z]
def M8(a:W0 k A):A.units+65<cLine:=by let:=a.un;ext
theorem lM(p:SO K E u g)(h:PSs X b u):∃t,PSs X b t/\SO K E t g:=#[_,h,p]
theorem yX(p:L10.vX K E u g)(h:PSs X b u):∃t,PSs X b t/\L10.vX K E t g:=#[_,h,p]
theorem d7{x a:Str}{st:Xg}{e:V3}{N:G Str}{n m:Nat}{g:FS}{i:FN}(F:WA K x a st f e)(S:YB N Z (bH st))(c:Z.length=n)(hm:N.length=m)(j:i=dh m g)
  (l:∀(b:M) (A:Vc) (outer:G Env) (s:Uv) (H:Hp) (E:XK),N.Nodup->W0 k (A.deeper (Vt a (bH st) s.heap.objs.size f b))->(A.deeper (Vt a (bH st) s.heap.objs.size f b)).units+64<cLine->(A.deeper (Vt a (bH st) s.heap.objs.size f b)).units+1<cLine->(A.deeper (Vt a (bH st) s.heap.objs.size f b)).units+65<cLine->
   ∃t,PSs (uR cz P w K T U N a (bH st) f b A outer s H E).nox (gR st) t/\SO K E t g):FnOk P w K T U cz (k+1) f e Z (g7 K n i):=
 Uf F S c hm j λb A outer s H E d=>l b A outer s H E S.nd d d.units (MM d) (M8 d)
theorem ij{n m:Nat}(F:WA K x qual st f fd)(S:YB N Z (bH st))(c:Z.length=n)(hm:N.length=m)(d:o=L10.eW m g)
  (e:∀(a:M) (A:Vc) (outer:G Env) (s:Uv) (H:Hp) (E:XK),N.Nodup->W0 k (A.deeper (Vt qual (bH st) s.heap.objs.size f a))->(A.deeper (Vt qual (bH st) s.heap.objs.size f a)).units+64<cLine->(A.deeper (Vt qual (bH st) s.heap.objs.size f a)).units+1<cLine->(A.deeper (Vt qual (bH st) s.heap.objs.size f a)).units+65<cLine->
   ∃t,PSs (uR cz P w K T U N qual (bH st) f a A outer s H E).nox (gR st) t/\L10.vX K E t g):FnOk P w K T U cz (k+1) f fd Z (L10.fM K n o):=
 L10.Ug F S c hm d λa A outer s H E b=>e a A outer s H E S.nd b b.units (MM b) (M8 b)
theorem EF{W:J}{a:Array M}{e:Nat}{ss:Array (cv M)}{xs:G V}{ds:G D}(l:K.lookup W=R #[.type "tuple",L,.seq a e,ss])(d:a.size<=UG)(b:Vals xs a.toList)(hd:∀O H,Wb O K H xs ds):∀O H,DV O K H (.ref W) (.tuple ds):=λO H=>
 .tup (xs:=xs) #[.inr #[_,_,_,l,#[rfl,rfl],rfl,d,b],λ_=>.inr #[_,_,_,l,#[rfl,rfl],rfl,d,b]] (hd O H)
end
end L3
namespace LD
open PySem PyProof.Rows L2 L3
mutual
def QJ:Ut->Ut->cv Bool
 |.int i,.int j=>cL (decide (i<j))
 |.str x,.str y=>cL (decide (x.cps.toList<y.cps.toList))
 |.tuple xs,.tuple ys=>R0 xs ys
 |_,_=>CL
def R0:cn Ut->cn Ut->cv Bool
 |[],[]=>cL Uu
 |[],_::_=>cL Uq
 |_::_,[]=>cL Uu
 |x::xs,y::ys=>if Ut.eqv x y=Uq then R0 xs ys else QJ x y
end
end LD
namespace LD
open PySem PyProof.Rows
structure VE(es:G aa1)(U8:G (Unit×M)):Prop where
 vals:es.map (·.val)=U8.map (·.2)
end LD
namespace PySem
open Sem (wp)
open PyProof.Rows
section
variable{X:UY}{w:Vi}{A:Vc}{E:Um->Uv->Prop}{s:Uv}{t:Uw}
theorem nr(ns:G Int):∀j,j<=ns.length->preSum (λi=>ns.getD i 0) j=(ns.take j).sum
 |0,_=>by simp[preSum]
 |j+1,h=>by
  rw[preSum,nr ns j (),aa5];let:ns[j]?=R (ns.getD j 0):=by rw[Yz,UD ()];rfl
  rw[this];simp
theorem wU:∀(ns:G Int) (B:Int),0<=B->(∀n∈ns,0<=n/\n<=B)->0<=ns.sum/\ns.sum<=ns.length*B
 |[],B,f,_=>by simp
 |n::r,B,f,h=>by
  let(b,a):=wU r B f λm hm=>h m (UC _ hm);let(e,d):=h n (UA ..);rw[List.sum_cons,UL];let:((r.length+1:Nat):Int)*B=r.length*B+B:=by rw[Int.natCast_add,Int.add_mul];simp
  rw[this];ext
def Jv{x:cn M}{ns:cn Int}{Q:M->Uv->Prop}(C:A.handled=L)(q:s.heap.IsList t x.toArray)(D:IntsAre x ns)(v:∀n∈ns,0<=n/\n<=1000000)(I:ns.length<=1000000)
  (h:∀c (u:Tok) k,(∀b o,s.heap.get? b=R o->c.get? b=R o)->Q (.int ns.sum u) {s with heap:=c,toks:=k}):
  wpAny (model X w) A (call (.builtin "sum") [.ref t]) Q E s:=by
 let(xs,e):=D.allInts.items;let a:ns=xs.toList.map (·.1):=by rw[<-D.numsOf,<-akP,<-e]
 let f:xs.size=ns.length:=by rw[a,Ur,Vo]
 let d:(intItems xs).size=ns.length:=by rw[<-f];simp[intItems]
 rw[e]at q;show call_sum_walk (iter_intList q λp e z l g=>?_);subst e;show#[_,_,_,_,_,_,numAt xs,W,acr.list (A:=A.in1) C _ t g (intItems xs),z,l,λ_ _=>afa,λj r=>?_,λc k y B=>?_]
 .rw[d]at r
  let ev:numAt xs=λi=>ns.getD i 0:=by funext i;rw[afb,<-a]
  rw[ev];let(H,G):=v (ns.getD j 0) (getD_mem r);show#[#[by show -(2^63)<=ns.getD j 0;ext,by show ns.getD j 0<2^63;ext],?_];rw[nr ns (j+1) ()];let(b1,F):=wU (ns.take (j+1)) 1000000 () λn m=>v n (ady m);let:(ns.take (j+1)).length<=1000000:=by rw[VY];ext
  constructor
  .omega
  .let:((ns.take (j+1)).length:Int)*1000000<=1000000*1000000:=by ext
   ext
 .let ev:numAt xs=λi=>ns.getD i 0:=by funext i;rw[afb,<-a]
  rw[d,ev,nr ns _ (Uy _),ae0];show h c y k (old_kept B)
end
end PySem
namespace L10
open PySem PySem.Spec PyProof.Rows L2 L3 LD
def MF(K:lD):G V->Hp->VK->Prop:=λxs H Q=>∃(a:J) (b:G Int),xs=[.ref a]/\Yh K H a (b.map V.int)/\(∀n∈b,0<=n/\n<=1000000)/\b.length<=1000000/\Q (.int b.sum) H
def Fv{X:Cx}(j:X.calm=P):W6 X (.builtin "sum") (MF X.K):=by intro b s m H xs n Q I r h;let(a,e,rfl,f,l,v,q):=h;let(u,rfl,r1):=ie r;ext r1;let(t,d,g,_):=I.list f;show Jv (I.ok.hd j) g.isList (jM d) l v λp u o i=>#[.int e.sum,H,I.kept i,#[_,W],q]
def HX:G D->cv RV
 |[.list ds]=>(match pz ds with
  |some a=>if(a.all λn=>decide (0<=n)&&decide (n<=1000000))=P/\a.length<=1000000 then R (.fz (.int a.sum))else L
  |none=>L)
 |_=>L
def Ko{K:lD}:Bk K (MF K) HX:=by
 intro O H xs ds o Q n g e q;unfold HX at e;split at e
 .split at e
  .rename_i d f
   split at e
   .rename_i l
    ext e;cases g with
    |cons i h=>ext h;let(a,m,rfl,b,j):=Bh i;rw[nW j f]at b;show#[a,d,W,b.sq,λn hm=>?_,l.2,q.at (.int _)];let:=(WW.mp l.1) n hm;rw[UO]at this;show#[a7 this.1,a7 this.2]
   .ext e
  .ext e
 .ext e
def Sf:Vu "sum"=R (.builtin "sum"):=by left
end L10
namespace L3
open PySem PyProof.Rows L2
structure akF(K:lD)(x qual:Str)(st:Xg)(f:J)(fd:V3)(T:J)(Vg:Array M):Prop where
 ex:∃(oc:M) (od:cv J) (kV doc pm:M) (an:cv J) (V6 ct:M) (osl:Array (cv M)),
  fd=Xi x qual (nX st) (gR st) (bH st) (.ref T) kV doc pm an V6 ct/\K.lookup f=R #[oc,od,.func fd,osl]/\ZC K V6 qual=P
 kp:WQ K (.ref f)=P
 tp:∃o n,K.lookup T=R o/\o.data=.seq Vg n
end L3
namespace L3
open PySem L2
section
variable{P:UY}{w:Vi}{K:lD}{S:Str->cv Um}{T h:Heap}{f C:Uw}{n m q:Str}{t:Xg}{Z fs:cn Str}{Y k:Nat}{Q N:Sp}{U:zZ}
theorem MI.ahr(i:MI K C f m q t)(c:CI K C n fs)(b:BA m q t Z)(ok:∀fd,WA K m q t f fd->FnOk P w K S T U Y f fd Z Q):L10.cb P w K S T U Y n m Z Q:=
 let#[fd,z]:=i.F;#[C,f,fd,c.a,c.cls,#[i.a,i.i,z.kp],ok fd z,z.binds b]
theorem MI.ajE(i:MI K C f "__init__" q t)(c:CI K C n fs)(X:K.In h)(G:h.Ns UI S)(b:BA "__init__" q t Z)(ok:∀fd,WA K "__init__" q t f fd->FnOk P w K S T U Y f fd Z Q):L10.qE P w K S T U Y n Z Q:=
 let#[fd,z]:=i.F;#[C,f,fd,c.a,Vp X G c.a,#[c.mm,i.a,i.i,c.kc],ok fd z,z.binds b]
end
end L3
namespace L10
open PySem L2 L3
def Th(T:A->bC->Prop)(X:Xc->Prop):RS A->Prop
 |.ok a Z=>T a Z
 |.er x _=>X x
 |.bad=>False
structure Out{A:Type}(r:RS A)(T:A->bC->Prop)(X:Xc->Prop):Prop where
 out:Th T X r
section
variable{A B:Type}{r S:RS A}{T Q:A->bC->Prop}{U:B->bC->Prop}{X:Xc->Prop}{Z:bC}
def Out.eq(e:r=S)(h:Out S T X):Out r T X:=by rw[e];show h
def Out.imp(h:Out r T X)(k:∀a Z,T a Z->Q a Z):Out r Q X:=by
 show#[?_];let h:=h.out;cases r with
 |bad=>show h
 |er x o=>show h
 |ok a o=>show k a o h
def Out.bind(h:Out r (λa o=>Out (f a o) U X) X):Out (r.bind f) U X:=by
 show#[?_];let h:=h.out;cases r with
 |bad=>show h
 |er x o=>show h
 |ok a o=>show(show Out (f a o) U X from h).out
end
section
variable{ρ ρ1 Y:b3}{Z Z1 U Q:bC}{x y z:SV}{i n:Nat}{d:D}{ds:cn D}{b:Bool}{f g:g6}{S:gq}{N:b3->bC->Prop}{T:SV->bC->Prop}{X:Xc->Prop}
def T8(N:b3->bC->Prop)(T:SV->bC->Prop):FlS->bC->Prop
 |.nx ρ,Z=>N ρ Z
 |.rt v,Z=>T v Z
 |_,_=>False
abbrev vT(r:RS FlS)(N:b3->bC->Prop)(T:SV->bC->Prop)(X:Xc->Prop):Prop:=Out r (T8 N T) X
def rq(h:vT (f ρ Z) (λr o=>vT (g r o) N T X) T X):vT (aR f g ρ Z) N T X:=by
 show Out.bind (h.imp λa o k=>?_);cases a with
 |nx r=>show k
 |rt v=>show#[k]
 |ct r=>show k.elim
 |bk r=>show k.elim
theorem Nt(a:f ρ Z=.ok (.nx ρ1) Z1)(h:vT (g ρ1 Z1) N T X):vT (aR f g ρ Z) N T X:=rq (.eq a #[h])
theorem uC(a:f ρ Z=.ok (.nx ρ1) Z1)(h:N ρ1 Z1):vT (f ρ Z) N T X:=.eq a #[h]
theorem eT(e:S ρ Z=.ok x Z1)(a:gt x ρ Z1=.ok ρ1 U)(h:vT (g ρ1 U) N T X):vT (aR (dW S gt) g ρ Z) N T X:=Nt (by ext dW;rw[e,ek,a,ek]) h
def OW{a j:g6}(e:c ρ Z=.ok P Z1)(h:vT (aR a g ρ Z1) N T X):vT (aR (cT c a j) g ρ Z) N T X:=by show .eq ?_ h;unfold aR cT;rw[e,ek,av W]
def vH{j a:g6}(e:c ρ Z=.ok Uu Z1)(h:vT (aR a g ρ Z1) N T X):vT (aR (cT c j a) g ρ Z) N T X:=by show .eq ?_ h;unfold aR cT;rw[e,ek,ax Ux]
theorem qR(h:vT (g ρ Z) N T X):vT (aR cQ g ρ Z) N T X:=rq #[h]
theorem yA(a:S ρ Z=.ok x Z1)(h:T x Z1):vT (gB S ρ Z) N T X:=.eq (eu a) #[h]
def x8(a:xs.map R++Us (n - xs.length) L=ρ)(h:vT (g ρ Z) (λ_ c=>T (.fz .none) c) T X):Out (eW n g xs Z) T X:=by
 ext eW;rw[a];show Out.bind (h.imp λe o k=>?_);cases e with
 |nx r=>show#[k]
 |rt v=>show#[k]
 |ct r=>show k.elim
 |bk r=>show k.elim
theorem D7{b:g6}(I:Nat->b3->bC->Prop):∀(ds:G D) (k:Nat) (ρ:b3) (Z:bC),I k ρ Z->(∀i d ρ Z,ds[i]?=R d->I (k+i) ρ Z->∃ρ1 Z1,gt (.fz d) ρ Z=.ok ρ1 Z1/\vT (b ρ1 Z1) (I (k+i+1)) T X)->vT (mG gt b ds ρ Z) (I (k+ds.length)) T X
 |[],k,ρ,Z,h0,_=>#[h0]
 |d::r,k,ρ,Z,h0,B=>by
  let(ρ1,Z1,w,u):=B 0 d ρ Z W h0;let l:∀a p,I (k+1) a p->vT (mG gt b r a p) (I (k+(r.length+1))) T X:=λa p h=>by
   let e:k+(r.length+1)=k+1+r.length:=by ext
   rw[e];show D7 I r (k+1) a p h λi A j q C t=>?_;let e:k+1+i=k+(i+1):=by ext
   rw[e]at t⊢;show B (i+1) A j q (by simpa using C) t
  show .eq (show mG gt b (d::r) ρ Z=(b ρ1 Z1).bind λm U=>match m with
   |.nx Y=>mG gt b r Y U
   |.ct Y=>mG gt b r Y U
   |.bk Y=>.ok (.nx Y) U
   |.rt x=>.ok (.rt x) U from ?_) (Out.bind (u.imp λm o k=>?_))
  .show((gt (.fz d) ρ Z).bind _)=_
   rw[w,ek]
   all_goals (cases b ρ1 Z1 with
    |bad=>rfl
    |er x o=>rfl
    |ok m o=>ext m<;>rfl)
  .cases m with
   |nx r=>show l _ _ k
   |rt v=>show#[k]
   |ct r=>show k.elim
   |bk r=>show k.elim
def yK{b:g6}(I:Nat->b3->bC->Prop)(m:C ρ Z=.ok ds Z1)(h:I 0 ρ Z1)(a:∀i d ρ Z,ds[i]?=R d->I i ρ Z->∃ρ1 Z1,gt (.fz d) ρ Z=.ok ρ1 Z1/\vT (b ρ1 Z1) (I (i+1)) T X)(e:∀c l,I ds.length c l->N c l):vT (wf C gt b ρ Z) N T X:=by
 let:=D7 I ds 0 ρ Z1 h (by simpa using a);rw[Yt]at this;show .eq ?_ (this.imp λj o k=>?_)
 .ext wf;rw[m,ek]
 .cases j with
  |nx r=>show e _ _ k
  |rt v=>show k
  |ct r=>show k.elim
  |bk r=>show k.elim
end
end L10
namespace L3
open PySem PyProof.Rows L2
section
variable{P:UY}{w:Vi}{K:lD}{U:Str->cv Um}{X h:Heap}{f T:Uw}{n:Str}{t:Xg}{S:cn Str}{Q:Nat}{N:Sp}{I:zZ}{Vg:Array Um}
structure DI(K:lD)(f T:J)(n:Str)(t:Xg)(Vg:Array M):Prop where
 a:UN K UI n=R (R (.ref f))
 F:∃fd,akF K n n t f fd T Vg
end
structure Tp(P:UY)(w:Vi)(K:lD)(mg:Str->cv M)(base h:Heap):Prop where
 X:K.In h
 G:h.Ns UI mg
section
variable{P:UY}{w:Vi}{K:lD}{S:Str->cv Um}{X h:Heap}{f C T:Uw}{n m q:Str}{t:Xg}{Z fs:cn Str}{Y:Nat}{Q:Sp}{U:zZ}{N:Array Um}
theorem NI.c(i:NI K f n t)(W:Tp P w K S X h)(ok:∀fd,WA K n n t f fd->FnOk P w K S X cz Y f fd Z Q)(a:BA n n t Z:=by ext:24):Ak P w K S X Y n Z Q:=i.cal W.X W.G a ok
theorem MI.mt(i:MI K C f m q t)(c:CI K C n fs)(W:Tp P w K S X h)(ok:∀fd,WA K m q t f fd->FnOk P w K S X U Y f fd Z Q)(a:BA m q t Z:=by ext:24):L10.cb P w K S X U Y n m Z Q:=i.ahr c a ok
theorem MI.k(i:MI K C f "__init__" q t)(c:CI K C n fs)(W:Tp P w K S X h)(ok:∀fd,WA K "__init__" q t f fd->FnOk P w K S X U Y f fd Z Q)(a:BA "__init__" q t Z:=by ext:24):L10.qE P w K S X U Y n Z Q:=i.ajE c W.X W.G a ok
end
end L3
namespace LD
open PySem PyProof.Rows L2 L3 L10
def lstAt(Z:bC):SV->cv (G SV)
 |.rf i=>match Z[i]? with
  |some (.lst xs)=>R xs
  |_=>L
 |_=>L
section
variable{K:lD}{E:XK}{B:cN}{H:Hp}{Y:cn Uw}{Z:bC}{v:V}
def lst_at{x:SV}{xs:G SV}(s:U9 B K H Y Z)(b:XI (ow B Y Z) K H Y v x)(h:lstAt Z x=R xs):∃a i,v=.ref a/\H a=R (.lst i)/\W8 (ow B Y Z) K H Y i xs:=by
 cases x with
 |fz d=>ext h
 |tp l=>ext h
 |rf j=>
  let(a,m,rfl):=b;unfold lstAt at h;dsimp only at h;cases q:Z[j]? with
  |none=>rw[q]at h;ext h
  |some c=>
   rw[q]at h;cases c with
   |lst g=>ext h;let(ws,f,e):=s.cel j a _ m q;show#[a,ws,W,f,e]
   |_=>ext h
end
end LD
namespace PySem
namespace SetTable
def TX(xs:Array Nat):Prop:=xs.toList.Pairwise (·<·)
structure TI(b:Bool)(t:SetTable):Prop where
 led:t.led=b
 dm:t.dummies= #v[]
 ris:TX t.place
end SetTable
end PySem
namespace PySem
open SetTable
section
variable{prog:UY}{w:Vi}{K:Type}[DecidableEq K]{knd:KeyKind prog w K}{A:Vc}{E:Um->Uv->Prop}{s:Uv}{b:Bool}{a:Uw}{Z:Array (Int×Um)}
structure SetX(knd:KeyKind prog w K)(b:Bool)(h:Heap)(a:J)(Z:Array (Int×M)):Prop where
 x:∃o ep t,h.get? a=R o/\o.ExactSet/\o.data=.set Z ep t/\t.fits Z.size=P/\TI b t
 el:ElemsOf knd Z.toList
 sz:Z.size<scanBound
end
end PySem
namespace L10
open PySem PySem.SetTable PySem.Spec PyProof.Rows L2 L3
def F0(x y:Str):Prop:=x.cps.toList<=y.cps.toList
def yx{x y:Str}:ltCps y.cps.toList x.cps.toList=Uu↔F0 x y:=by rw[ltCps_eq,decide_eq_false_iff_not];show Iff.rfl
theorem xf{x y z:Str}(b:F0 x y)(a:F0 y z):F0 x z:=List.le_trans b a
def Jb{x y:Str}(b:F0 x y)(a:F0 y x):x=y:=by let:=List.le_antisymm b a;ext x;ext y;congr 1;show Array.ext' this
theorem A8:∀{p:Str} {l:G Str},risingS p l=P->(p::l).Pairwise F0
 |p,[],_=>acC _ _
 |p,x::r,h=>by
  let h:(!ltCps x.cps.toList p.cps.toList&&risingS x r)=P:=h;rw[UO,aej]at h;let i:=A8 h.2;show VX.mpr #[λy a=>?_,i];rcases UJ.mp a with rfl|a
  .show yx.mp h.1
  .show xf (yx.mp h.1) ((VX.mp i).1 y a)
theorem IL:∀{l:G Str},sortedS l=P->l.Pairwise F0
 |[],_=>Xq
 |_::_,h=>A8 h
def EI(x:Str):G Str->G Str
 |[]=>[x]
 |y::r=>if ltCps y.cps.toList x.cps.toList=P then y::EI x r else x::y::r
def gw:G Str->G Str
 |[]=>[]
 |x::r=>EI x (gw r)
theorem rH(x:Str):∀l,(EI x l).Perm (x::l)
 |[]=>.rfl
 |y::r=>by
  ext EI;split
  .show((rH x r).cons y).trans (.swap _ _ _)
  .show .rfl
theorem lx:∀l,(gw l).Perm l
 |[]=>.rfl
 |x::r=>(rH x _).trans ((lx r).cons x)
theorem Dy(x:Str):∀l,l.Pairwise F0->(EI x l).Pairwise F0
 |[],_=>acC _ _
 |y::r,h=>by
  let(b,d):=VX.mp h;ext EI;split
  .rename_i q
   show VX.mpr #[λz a=>?_,Dy x r d];rcases UJ.mp ((rH x r).mem_iff.mp a)with rfl|a
   .rw[ltCps_eq]at q;show List.le_of_lt (a7 q)
   .show b z a
  .rename_i q
   let q:=yx.mp (Bool.eq_false_iff.mpr q);show VX.mpr #[λz a=>?_,h];rcases UJ.mp a with rfl|a
   .show q
   .show xf q (b z a)
theorem uT:∀l,(gw l).Pairwise F0
 |[]=>Xq
 |x::r=>Dy x _ (uT r)
theorem wM{l m:G Str}(p:l.Perm m)(h:l.Pairwise F0):l=gw m:=(p.trans (lx m).symm).eq_of_pairwise (λ_ _ _ _=>Jb) h (uT m)
theorem Jt{l m:G Str}(p:l.Perm m):gw l=gw m:=wM ((lx l).trans p) (uT l)
theorem Er:∀{ss:G Str} {us:G M},Vals (ss.map V.str) us->StrsAre us ss
 |[],_,r=>by ext r;show .nil
 |x::ss,_,r=>by
  rw[UM]at r;cases r with
  |cons h t=>let(a,rfl):=h;show .cons x a (Er t)
theorem kR:∀{a:G M} {ss:G Str},StrsAre a ss->Vals (ss.map V.str) a
 |_,_,.nil=>.nil
 |_,_,.cons n t h=>.cons #[t,W] (kR h)
def M5(K:lD):G V->Hp->VK->Prop:=λxs H Q=>∃(p:J) (ss:G Str),xs=[.ref p]/\Yh K H p (ss.map V.str)/\ss.length<64/\∀l,H l=L->Q (.ref l) (cy H l (.lst ((gw ss).map V.str)))
def pY{X:Cx}:W6 X (.builtin "sorted") (M5 X.K):=by
 intro b s C H xs E Q I r h;let(p,ss,rfl,j,t,q):=h;let(u,rfl,g):=ie r;ext g;let(f,N,(o,n,z,y,J,w),G):=I.list j;let l:=N.length;rw[Ur]at l;let F:(64:Nat)<=UG:=by decide
 show sorted_strs (vs:=f) #[o,z,y,n,w] (Er N) () λa i B d A=>?_;let v:i=gw ss:=wM d (IL A);subst v;let(e,m):=sortedAll_at s.heap f a;show#[.ref (s.heap.objs.size+1),_,I.laid (t':=s.toks) (o:=.lst ((gw ss).map V.str)) (λ_ _=>sortedAll_old) (X1 _) #[?_,a.toList,e,kR B,m],W,q _ (I.Wf.fresh (X1 _))];rw[Ur,d.length_eq];ext
def uN:G D->cv RV
 |[.list ds]=>if ds.length<64 then(match wy ds with
  |some ss=>R (.ow ((gw ss).map .str))
  |none=>L)else L
 |_=>L
section
variable{K:lD}{E:XK}
def pZ{O:cN}{H:Hp}(ss:G Str):Wb O K H (ss.map V.str) (ss.map .str):=by
 induction ss with
 |nil=>show .nil
 |cons n r a=>show .cons (.str n) a
def Dz:Bk K (M5 K) uN:=by
 intro O H xs ds p Q n g e q;unfold uN at e;split at e
 .rename_i j
  split at e
  .rename_i i
   cases g with
   |cons d b=>
    ext b;let(a,m,rfl,d,b):=Bh d;let f:=b.length;cases o:wy j with
    |none=>rw[o]at e;ext e
    |some ss=>rw[o]at e;ext e;let:=yq b o;subst this;rw[Ur]at f;show#[a,ss,W,d.sq,by ext,λl h=>Fin.new (pZ _) q l h]
  .ext e
 .ext e
end
end L10
namespace PySem
namespace SetTable
structure TT(t:SetTable)(n:Nat):Prop where
 k:∃k,t.mask+1=2^k
 dm:t.dummies= #v[]
 ris:TX t.place
 le:∀v∈t.place.toList,v<=t.mask
 sz:t.place.size=n
 few:n*5<t.mask*3
section
variable{t:SetTable}{n:Nat}{p:Probe}
structure PI(t:SetTable)(p:Probe):Prop where
 nine:p.more<=9
 jm:p.j+p.more<=t.mask
 pt:p.perturb<2^64
 dm:p.dummy=L
end
end SetTable
end PySem
namespace LD
open PySem PySem.SetTable PyProof.Rows L2 L3
section
variable{prog:UY}{w:Vi}{E:Um->Uv->Prop}
variable{A:Vc}{s:Uv}
structure SetH(prog:UY)(w:Vi)(b:Bool)(h:Heap)(a:J)(es:Array (Int×M))(ks:G (KD×J)):Prop where
 x:∃o ep t,h.get? a=R o/\o.ExactSet/\o.data=.set es ep t/\TT t es.size/\t.led=b/\t.mask<=8*es.size+8
 el:∀e∈es.toList,∃k c,(k,c)∈ks/\e.2=.ref c/\(JL prog w).is h k c
mutual
theorem E3{h h':Heap}{x:Uw}{b:Obj}(e:h.get? x=cL b)(g:∀vs n,b.data≠.seq vs n)(f:Heap.SameBut x h h'):∀(d:Ut) (v:Um) (as:cn Uw),kd d=Uq->ac3 h v d as->ac3 h' v d as
 |.none,_,_,_,r=>by cases r;exact .none
 |.int _,_,_,_,r=>by cases r;exact .int _ _
 |.str _,_,_,_,r=>by cases r;exact .str _ _
 |.tuple xs,_,_,k,r=>by
  cases r with
  | @tuple a o vs n _ _ h1 h2 h3 h4=>
   have i:a≠x:=by rintro rfl;rw[e]at h1;cases h1;exact g _ _ h3
   unfold kd at k;exact .tuple ((f.2 a i).trans h1) h2 h3 (vD e g f xs _ _ k h4)
 |.bool _,_,_,h,_|.list _,_,_,h,_|.dict _,_,_,h,_=>by simp[kd]at h
theorem vD{h h':Heap}{x:Uw}{a:Obj}(b:h.get? x=cL a)(f:∀vs n,a.data≠.seq vs n)(e:Heap.SameBut x h h'):∀(ds:cn Ut) (vs:cn Um) (as:cn Uw),Bo ds=Uq->aaN h vs ds as->aaN h' vs ds as
 |[],_,_,_,r=>by cases r;exact .nil
 |d::ds,_,_,k,r=>by
  cases r with
  |cons r1 g=>unfold Bo at k;rw[UO]at k;exact .cons (E3 b f e d _ _ k.1 r1) (vD b f e ds _ _ k.2 g)
end
end
end LD
namespace L10
open PySem PyProof.Rows L2 L3
section
variable{K:lD}{E:XK}
theorem MP:∀{b:G V} {xs:G SV} {i:Nat},W8 O K H α b xs->(∀v,b[i]?=R v->∃x,xs[i]?=R x/\XI O K H α v x)/\(b[i]?=L->xs[i]?=L)
 |_,_,_,.nil=>#[λv h=>(by ext h),λ_=>W]
 |_,_,0,.cons a t=>#[λv h=>(by ext h;show#[_,W,a]),λh=>(by ext h)]
 |_,_,i+1,.cons a t=>MP (i:=i) t
end
end L10
namespace L10
open PySem PyProof.Rows L2 L3
def iZ(gt:z9)(c:wq)(g:gq)(x:SV):Nat->Nat->b3->bC->G SV->RS (G SV)
 |0,_,_,_,_=>.bad
 |m+1,i,h,Z,acc=>match LD.lstAt Z x with
  |none=>.bad
  |some xs=>match xs[i]? with
   |none=>.ok acc Z
   |some y=>match OJ y with
    |none=>.bad
    |some z=>(gt (.tp [.fz (nd i),z]) h Z).bind λa f=>(c a f).bind λb d=>if b=P then(g a d).bind λz e=>(if acc.length<1000000 then iZ gt c g x m (i+1) a e (acc++[z])else .bad)else iZ gt c g x m (i+1) a d acc
def yP(n:Nat)(d:G Nat)(b:gq)(gt:z9)(c:wq)(g:gq):gq:=λf Z=>(b f Z).bind λx e=>(kZ (iZ gt c g x 1000000 0 (k7 n d f) e [])).bind λxs a=>.ok (.rf a.length) (a++[.lst xs])
section
variable{K:lD}{E:XK}{B:cN}{X:Hp}{Y:cn Uw}{Z1:bC}{U:L2.St}{ρ:b3}
def zE(hn:own.length=n)(hf:fv.map (·.2)=fj)
  (hg:Lr K E g gt) (ht:zt K E tc ft) (he:gr K E te fe) (s1:U9 B K X Y Z1) (sl1:Xw (ow B Y Z1) K X Y U ρ) (hj:Y[j]?=cL a) (V:WS K E B X Y Z1 (PQ B K Q) ((iZ gt ft fe (.rf j) Mz0 0 (k7 n fj ρ) Z1 []).bind λxs k=>.ok (.rf k.length) (k++[.lst xs]))):
  ∀D,X D=CL->DA (Sy K a) D (jN own fv U) g tc te X λs=>Q (.ref D) s:=by
 intro w Z;let slc:=Ee hn hf sl1;generalize qr:iZ gt ft fe (.rf j) Mz0 0 (k7 n fj ρ) Z1 []=rr at V;by_cases A:rr=.bad
 .subst A;show V.elim
 .
  let hB:=λz=>s1.bn w z Z;let evH:∀{d:cn Uw} {k:bC} {s:Hp},Wy Y Z1 X d k s->Ev (ow B Y Z1) X (ow (cM B w) d k) s:=λe b o h n=>#[e.kp b o h λz=>n (.inr z),λz=>by
   rcases z with(z|z)|z
   .show n (.inl z)
   .rw[z,Z]at h;ext h
   .show(e.lv b z).elim (λq=>n (.inr q)) λq=>by rw[h]at q;ext q]
  show#[λi m σ' s=>∃d k ρc l I,Wy Y Z1 X d k s/\U9 (cM B w) K s d k/\Xw (ow (cM B w) d k) K s d σ' ρc/\s w=cL (.lst I)/\W8 (ow (cM B w) d k) K s d I l/\iZ gt ft fe (.rf j) m i ρc k l=rr,
   #[_,Y,Z1,k7 n fj ρ,[],[],Wy.same (bZ Z _),s1.hide Z,?_,bp,.nil,qr],?_]
  .show#[slc.1,λj x hx=>let#[v,h1,h2]:=slc.2 j x hx;#[v,h1,h2.ev (evH (Wy.same (bZ Z _))) λ_ _ h=>h]]
  .rintro i m σ2 H2 ⟨d,k,ρ2,l,I,F,G,L,hy,vy,f⟩
   cases m with
   |zero=>show bg f.symm A
   |succ m=>
   unfold iZ at f;cases ql:LD.lstAt k (.rf j)with
   |none=>rw[ql]at f;show bg f.symm A
   |some xs=>
   rw[ql]at f;dsimp only at f;let(a',J,ea,k1,k2):=LD.lst_at G (x:=.rf j) #[a,F.pre j a hj,W] ql;ext ea;let(y1,y2):=MP k2;cases qv:J[i]? with
   |some u=>
    let(y,qx,hyv):=y1 u qv;rw[qx]at f;dsimp only at f;cases qa:OJ y with
    |none=>rw[qa]at f;show bg f.symm A
    |some az=>
    rw[qa]at f;dsimp only at f;show .inr #[#[J,u,Yh.of k1,qv],λσ5 O=>∃d k ρc l I,Wy Y Z1 X d k O/\U9 (cM B w) K O d k/\Xw (ow (cM B w) d k) K O d σ5 ρc/\O w=cL (.lst I)/\W8 (ow (cM B w) d k) K O d I l/\iZ gt ft fe (.rf j) m (i+1) ρc k l=rr,
     λσ5 O h=>#[m,WB m,h],?_]
    rintro u' H3 ⟨p,u2,hp,rfl,hu,rfl⟩;let:=(hu J (Yh.of k1)).symm.trans qv;ext this;let sm:Wr H2 (cy H2 p (.tup [.int i,u])):=bZ hp _;let e3:Wy d k H2 d k (cy H2 p (.tup [.int i,u])):=Wy.same sm;let tv:XI (ow (cM B w) d k) K (cy H2 p (.tup [.int i,u])) d (.ref p) (.tp [.fz (nd i),az]):=#[p,_,W,#[X5.of bp,λz=>bg z (G.noO p hp)],.cons (.int _) (.cons ((Hh hyv qa).ev e3.ev e3.pre) .nil)];let F:=F.trans e3;let G:=G.grow sm;let L:=L.XB e3;let hy:=sm _ _ hy;let vy:=W8.XB e3 vy;generalize cy H2 p (.tup [.int i,u])=H3 at F G L hy vy tv;let kD:∀{αx αy:cn Uw} {Zx Zy:bC} {Hx Hy:Hp} {o:HO},U9 (cM B w) K Hx αx Zx->Wy αx Zx Hx αy Zy Hy->Hx w=cL o->Hy w=cL o:=λsx ex h=>ex.kp _ _ h λ#[i,c,q,_]=>sx.ba w (.inr W) i q;let C:∀{R1:cn Uw} {Z3:bC} {H3:Hp} {z:Xc} {N:bC},Wy Y Z1 X R1 Z3 H3->RS.er z N=rr->∀c dx α' s,Wy R1 Z3 H3 α' N s->U9 (cM B w) K s α' N->XOk K (ow (cM B w) α' N) s c dx z->E c dx s:=λ{R1 Z3 H3 z N} e3 q c dx α' s e s' x'=>by subst q;show V c dx α' s (e3.trans e) s'.aeD (XOk.sub (λb y=>y.elim (λy=>.inl (.inl y)) .inr) x')
    show hg (cM B w) σ2 H3 d k ρ2 (.ref p) (.tp [.fz (nd i),az]) _ G L tv ?_;cases qg:gt (.tp [.fz (nd i),az]) ρ2 k with
    |er z N=>rw[qg]at f;show C F f
    |bad=>rw[qg]at f;show bg f.symm A
    |ok t Z4=>
     rw[qg]at f;intro α4 H4 e4 s4 σ4 sl4;show ht (cM B w) σ4 H4 α4 Z4 t _ s4 sl4 ?_;let f:((ft t Z4).bind λb k=>if b=Uq then(fe t k).bind λx Z3=>(if l.length<1000000 then iZ gt ft fe (.rf j) m (i+1) t Z3 (l++[x])else .bad)else iZ gt ft fe (.rf j) m (i+1) t k l)=rr:=f;cases qt:ft t Z4 with
     |er z N=>rw[qt]at f;show C (F.trans e4) f
     |bad=>rw[qt]at f;show bg f.symm A
     |ok b Z5=>
      rw[qt]at f;intro α5 O e5 s5;let S:=sl4.XB e5;let H:=e4.trans e5;cases b with
      |false=>show#[α5,Z5,t,l,I,F.trans H,s5,S,kD G H hy,W8.XB H vy,f]
      |true=>
       let f:((fe t Z5).bind λx Z3=>(if l.length<1000000 then iZ gt ft fe (.rf j) m (i+1) t Z3 (l++[x])else .bad))=rr:=f;rw[av W];show he (cM B w) σ4 O α5 Z5 t _ s5 S ?_;cases qe:fe t Z5 with
       |er z N=>rw[qe]at f;show C (F.trans H) f
       |bad=>rw[qe]at f;show bg f.symm A
       |ok x6 Z6=>
        rw[qe]at f;intro P H6 e6 s6 v6 hv6;let f:(if l.length<1000000 then iZ gt ft fe (.rf j) m (i+1) t Z6 (l++[x6])else .bad)=rr:=f;by_cases T:l.length<1000000
        .rw[av T]at f;let e36:=H.trans e6;let hy6:=kD G e36 hy;let vy6:=W8.XB e36 vy;let em:Ev (ow (cM B w) P Z6) H6 (ow (cM B w) P Z6) (cy H6 w (.lst (I++[v6]))):=Ev.mut (.inl (.inr W)) _;let sl6:=S.XB e6;show#[I,hy6,xz (by rw[vy6.length];show T),P,Z6,t,l++[x6],I++[v6],(F.trans e36).dd Z,s6.ahL hy6,#[sl6.1,λj x hx=>let#[v,h1,h2]:=sl6.2 j x hx;#[v,h1,h2.ev em λ_ _ h=>h]],bp,yF (Paired.Yv vy6 λ_ _ r=>r.ev em λ_ _ h=>h) (hv6.ev em λ_ _ h=>h),f]
        .rw[ax T]at f;show bg f.symm A
   |none=>rw[y2 qv]at f;subst f;show .inl #[#[J,Yh.of k1,List.getElem?_eq_none_iff.mp qv],?_];show V (d++[w]) H2 #[λi a h=>i8 (F.pre i a h),F.kp,λb z=>(vR G.len z).elim (F.lv b) λz=>.inr (by rw[z];show Z)] (G.adopt hy vy hB) (.ref w) #[w,by rw[<-G.len];show bh,W]
def Cf(c:own.length=n)(u:fv.map (·.2)=fj)
  (r:gr K E tl fl) (t:Lr K E0 g gt) (p:zt K E0 tc ft) (y:gr K E0 te fe):gr K E (wR own fv (BI K (l6 tl pN)) g tc te) (yP n fj fl gt ft fe):=by
 intro B U H α Z ρ Q s f w;show r B U H α Z ρ _ s f (WS.imp (WS.bind w) λx Y Z1 X z h m v i=>?_);let b:=IB m;obtain⟨j,rfl,xs,q⟩:∃j,x=.rf j/\∃xs,LD.lstAt Z1 x=R xs:=by
  cases q:LD.lstAt Z1 x with
  |none=>unfold iZ at b;rw[q]at b;show b.elim
  |some xs=>
   cases x with
   |rf j=>show#[j,W,xs,W]
   |fz d=>ext q
   |tp l=>ext q
 let(a,I,rfl,o,A):=LD.lst_at h i q;let(C,N,e):=i;ext e;show#[a,W,.inl #[#[I,Yh.of o],zE c u t p y h (f.XB z) N b]]
end
section
variable{K:lD}{E:XK}
def OC{α a:Type}{R:α->a->Prop}:∀{xs:G α} {b:G a} {us:G α} {c:G a},Paired R xs b->Paired R us c->Paired R (xs++us) (b++c):=by
 intro xs b us c h k
 induction h with
 |nil=>show k
 |cons r _ d=>show .cons r d
def Ib(d c:gq):gq:=λf Z=>(d f Z).bind λo b=>(RS.Vm b (ii b o)).bind λ_ b=>(c f b).bind λx a=>(RS.Vm a (ii a x)).bind λq a=>(RS.Vm a (ii a o)).bind λp e=>
 if p.2.length+q.2.length<=1000000 then .ok (.fz .none) (e.set p.1 (.lst (p.2++q.2)))else .bad
def Dw(T:gr K E to fo)(U:gr K E te fe):gr K E (Rk K "list" DN to (l6 te pN)) (Ib fo fe):=by
 intro B p H α Z ρ Q s y w;show T B p H α Z ρ _ s y (w.bind.imp λo f Z1 H1 e1 A g v F=>?_);let((i0,N),P,g):=WS.Vm g;let(_,I,l,_,rfl,Y,_):=qI A F P;show#[.inl #[W,l,Yh.of Y],?_];show U B p H1 f Z1 ρ _ A (y.XB e1) (g.bind.imp λx e J L e2 m d u S=>?_);let((j,M),O,d):=WS.Vm d;let(_,b,t,_,rfl,R,C):=qI m S O;let((i,xs),q,d):=WS.Vm d;let(n,a,vs,z,ea,X,G):=qI m (F.XB e2) q;ext ea;dsimp only at d;by_cases hn:xs.length+M.length<=1000000
 .rw[av hn]at d;let ev:Ev (ow B e J) L (ow B e J) (cy L I (.lst (vs++t))):=uw z n (by nofun);show#[I,b,vs,t,W,W,X,R,ng (by rw[G.length,C.length];show hn),?_];show d e _ (Wy.put z n (by nofun) (by nofun)) (m.put z n (by nofun) (by nofun) #[_,bp,OC (Paired.Yv G λ_ _ r=>r.ev ev λ_ _ h=>h) (Paired.Yv C λ_ _ r=>r.ev ev λ_ _ h=>h)]) _ .Xp
 .rw[ax hn]at d;show d.elim
end
end L10
namespace L2
open PySem PySem.Spec PyProof.Rows
variable{X:Cx}{a b:Vr}{Z:cn Vr}{Y:Pos}{T U:TE}
def QT(T U:TE):TE:=λd H Q=>T d H λx e=>∃y,x=.str y/\y.length<=UG/\if y.length=0 then U d e Q else Q (.str y) e
def Jr(c:PE X a T)(l:PE X (.BoolOp .Or (b::Z) Y) U):PE X (.BoolOp .Or (a::b::Z) Y) (QT T U):=by
 intro d s g H Q I h;show BoolOp_or (dS (c d s g H _ I h) λv m a=>?_);let(x,j,i,r1,e):=a;let(y,rfl,n,e):=e;let(t,rfl):=r1;let o:=rj;show PySem.P.truthy_str () ?_;by_cases f:y.length=0
 .rw[av f]at e;rw[show((y.length:Int) !=0)=Uu by rw[f];rfl];show l d _ g j Q (i.tok _) e
 .rw[ax f]at e;rw[show((y.length:Int) !=0)=P by rw[bne_iff_ne];ext];show#[.str y,j,i.tok _,#[_,W],e]
end L2
namespace L3
open PySem L2
section
variable{K:lD}{E:XK}{U T:TE}{X fb:FE}
def PM(X fb:FE):FE:=λb=>(X b).bind λa=>(Res.Vm (xp a.1)).bind λz=>if z.length<=1000000 then(if z.length=0 then fb a.2 else .ok (.fz (.str z),a.2))else .bad
def Ii(c:EO K E U X)(l:EO K E T fb):EO K E (QT U T) (PM X fb):=by
 intro B o O h H p Q R w;show c B o O h H p _ R (w.bind.imp λa b m x n f g j=>?_);let(z,i,b):=b.Vm;obtain rfl:=uE j i;by_cases d:z.length<=1000000
 .rw[av d]at b
  show#[z,W,ng d,?_];by_cases e:z.length=0
  .rw[av e]at b⊢;show l.next g f b
  .rw[ax e]at b⊢;show b m _ n f g (.str _)
 .rw[ax d]at b;show b.elim
end
end L3
namespace L2
open PySem PySem.Spec PyProof.Rows
def Sx(b:Int)(n:Nat):It:=#[λi _=>i<n,λi H x a=>a=H/\x=.int (b+i*2),λi _=>n<=i]
theorem Jq{P:UY}{w:Vi}{K:lD}{N:Vr}(f:Uw)(c:Int)(n:Nat):Turn P w K N (Sx c n) [f] f (λi h=>acq h f (c+(i:Nat)*2) ((n:Int) - (i:Nat)) 2) where
 mem:=by simp
 obj:=λi h a b g=>by
  let e:b=f:=by simpa using g
  subst e;show#[_,a,λv z=>by let M:abt.fields _=abt.cell v:=z;ext M]
 keep:=λi h m a k=>k f (by simp) _ a
 item:=by intro X u p y r i d s J H E I l a q;subst u p y;let(G,F,R,C,B,A):=l f (by simp);let W:=acr.range (prog:=X.prog) (w:=X.w) (I.ok.hd r) f c 2 n;show W.item i s _ _ q a λv m L Q j O=>?_;let(t,rfl):=Q;let T:Inv X d J H {s with heap:=m,toks:=L}:=I.turned (λb o g e=>O b o (by simpa using g) e) G F C B A;show#[_,rfl,zY (s:={s with heap:=m,toks:=L}) (n:= "range_iterator") j rfl rfl () #[.int (c+i*2),H,T,#[t,?_],#[rfl,rfl],j,λb g=>(l b g).1]];rfl
 done:=by intro X u p y r i d s J H E I l a q;subst u p y;let(G,F,R,C,B,A):=l f (by simp);show aed (I.ok.hd r) a (by let:n<=i:=q;ext) λm S=>#[rfl,I.turned (t':=s.toks) (λb o g e=>S b o g e) G F C B A]
 self:=λ_ _ _ _ _ a h=>aee a h
def oI(a b:Int):U3.Range.rangeSize a b 2=if a<b then(b - a+1)/2 else 0:=by ext U3.Range.rangeSize;simp only[show((2:Int)>0) by decide,if_true];split<;>ext
def E5{a b:Int}(c: -(2^61)<=a)(e:a<2^61)(f: -(2^61)<=b)(d:b<2^61):U3.Range.small a b 2=P:=by ext U3.Range.small;rw[oI];simp only[U3.Range.rangeFitsLong,UO,ZG,decide_eq_true_eq,beq_iff_eq,show((2:Int)>0) by decide,if_true];split<;>ext
section
variable{X:Cx}{U:Vr}
def FL{a:G (J×Obj)}{d:St}{H:Hp}{s:Uv}{R:It->Hp->Prop}{E:M->Uv->Prop}{c lo:Int}{t u v:Tok}{f:Nat}(I:Inv X a d H s)(m: -(2^61)<=c)(l:c<2^61)(j: -(2^61)<=lo)(i:lo<2^61)
  (q:R (Sx c ((lo - c+1)/2).toNat) H):wpAny (model X.prog X.w) X.A (pyIter (.ref s.heap.objs.size)) (Td X a d U R) E {s with heap:=s.heap.push {cls:=.type "range",data:=.fields #v[.int c t,.int lo u,.int 2 v]},toks:=f}:=by
 show afY (IsRange.new ..) (E5 m l j i) ?_;let g:Inv X a d H {s with heap:=s.heap.push {cls:=.type "range",data:=.fields #v[.int c t,.int lo u,.int 2 v]},toks:=f}:=I.kept λb o e=>c5 _ e;show#[(s.heap.push {cls:=.type "range",data:=.fields #v[.int c t,.int lo u,.int 2 v]}).objs.size,[(s.heap.push {cls:=.type "range",data:=.fields #v[.int c t,.int lo u,.int 2 v]}).objs.size],_,_,H,W,
  g.kept (t':=f) λb o e=>c5 _ e,Jq _ c ((lo - c+1)/2).toNat,?_,λb h=>?_,q]
 .let p:c+((0:Nat):Int)*2=c:=by simp
  let n:((((lo - c+1)/2).toNat:Nat):Int) - ((0:Nat):Int)=U3.Range.rangeSize c lo 2:=by rw[oI];split<;>ext
  show acq _ _ (c+((0:Nat):Int)*2) (((((lo - c+1)/2).toNat:Nat):Int) - ((0:Nat):Int)) 2;rw[p,n];show da _ W
 .let e:b=(s.heap.push {cls:=.type "range",data:=.fields #v[.int c t,.int lo u,.int 2 v]}).objs.size:=by simpa using h
  subst e;show g.abQ (Uy _) (g.Wf.fresh (Uy _))
def MU(b:TA):TI:=λa H R=>b a H λe d=>∃i j:Int,e=[.int i,.int j,.int 2]/\(-(2^61)<=i/\i<2^61/\ -(2^61)<=j/\j<2^61)/\R (Sx i ((j - i+1)/2).toNat) d
def Fk{a b c:Vr}{n:TA}{p f:Pos}(C:Gl X "range")(hm:X.mg "range"=L)(k:PA X [a,b,c] n)(B:U4 [a,b,c] X.env=[(Uu,eval a X.env),(Uu,eval b X.env),(Uu,eval c X.env)]:=by rfl)(o:U4 [b,c] X.env=[(Uu,eval b X.env),(Uu,eval c X.env)]:=by rfl):
  PI X U (.Call (.Name "range" p) [a,b,c] [] f) (MU n):=by
 intro g s u H R I h;show Call_ (lA I C hm boot_range (Wk (dS (k f g s u H _ I h) λF J #[N,K,E,r1,m]=>?_) (by rw[B,o]) (by rw[o];rfl)));let(i,j,e,(m,A,z,y),q):=m;subst e;cases r1 with
 |cons r d=>
  cases d with
  |cons w d=>
   cases d with
   |cons l d=>ext d;let(t,rfl):=r;let(G,rfl):=w;let(v,rfl):=l;show call_range_3 () (FL E m A z y q) (.inl (PyProof.noPylong_small ()))
end
end L2
namespace L3
open PySem PySem.Spec PyProof.Rows L2
section
variable{K:lD}{E:XK}
abbrev QV(i:Int):Prop:= -(2^61)<=i/\i<2^61
def pV(a:Int)(n:Nat):G D:=(U1 n).map λ(k:Nat)=>.int (a+(k:Int)*2)
def NS{O:cN}{H:Hp}{c:Int}{n:Nat}:tz K (Sx c n) O H (pV c n):=by
 intro f g e d;let a:(pV c n).length=n:=by ext pV;rw[Ur,Vh]
 show#[λi c=>?_,by show n<=_;rw[a];show Uy _];rw[a]at c;show#[c,?_];rintro x b ⟨rfl,rfl⟩;show#[Wr.refl _,.int (_+i*2),by ext pV;rw[UK,Yb c];rfl,.int _]
def OP:G D->cv (G D)
 |[.int i,.int j,.int 2]=>if QV i/\QV j then R (pV i ((j - i+1)/2).toNat)else L
 |_=>L
def Kn{l:TA}{c:FA}(h:AO K E l c):IO K E (MU l) (lr OP c):=by
 intro B z O n H C A R w;show h B z O n H C _ R (w.bind.imp λa d v I y u m p=>?_);let(ds,q,d):=d.Vm;let(xs,b,d):=d.Vm;let o:=uJ m p q;unfold OP at b;split at b
 .rename_i i j
  split at b
  .rename_i e
   ext b;cases o with
   |cons t g=>
    cases g with
    |cons g f=>
     cases f with
     |cons f r=>ext r;ext t;ext g;ext f;show#[i,j,W,#[e.1.1,e.1.2,e.2.1,e.2.2],d v _ y u m NS]
  .ext b
 .ext b
end
end L3
local macro_rules(kind:=«term{_}»)|`({$a})=>`(L3.ae $a L3.aq)|`({$a,$b})=>`(L3.ae $a (L3.ae $b L3.aq))|`({$a,$b,$c})=>`(L3.ae $a (L3.ae $b (L3.ae $c L3.aq)))|`({$a,$b,$c,$d})=>`(L3.ae $a (L3.ae $b (L3.ae $c (L3.ae $d L3.aq))))
local macro_rules|`(~~~$n)=>`(L3.pC (.int $n))
namespace STP
open PySem L2 L3
def oP:FS:=(bv (gF (au (aE oh (aE bu (aa 0) (~~~2)) (pC .none))) (bK (aE bu (aa 0) (~~~2))) bQ)
 (bK (ez (L10.Ha 0) {cX 2 [] (gD (aE bu (aa 0) (~~~0))) (gT 2 (zu (gN 0) (zu (gN 1) Kh))) (au (aE cB (aE bu (aa 1) (~~~0)) (pC (.str "layer")))) (aE bu (aa 1) (~~~1))})))
def fE:FN:=dh 1 oP
def ny:FS:=(bv (fy (aE bu (aE bu (aE bu (aa 0) (~~~1)) (aa 1)) (aa 2)) (gN 3))
 (bv (gF (au (aE cB (aE bu (aa 3) (~~~0)) (pC (.str "below")))) (bK (aE bu (aE bu (aE bu (aa 0) (~~~1)) (~~~0)) (aa 2))) bQ)
 (bK (aa 3))))
def j8:FN:=dh 4 ny
def kF:FS:=(bK (cX 1 [1] (gD (aE bu (aa 0) (~~~2))) (gN 0) (au (ez ya {cX 1 [0] (gD (aa 1)) (gN 0) dJ (aE mn (aa 0) (aE bu (aa 1) (~~~0)))})) (aa 0)))
def cr:FN:=dh 2 kF
def lS:FS:=(bv (pK (gD (aE bu (aa 0) (~~~2))) (gN 2) (gF (au (aE cB (ez tt {aE bu (aa 2) (~~~0)}) (ez L9.ju {aa 1}))) (bK (aE eE (dF {dA {pC (.str "letter"),aE bu (aa 2) (~~~1)}}) (aE gG (dF {pC (.tuple [(.str "none")])}) (aE v1 (ez gz {aa 1}) (~~~1))))) bQ))
 (bK (cX 1 [0] (gD (aa 1)) (gN 0) dJ (aE bu (aE bu (aE bu (aa 1) (~~~1)) (~~~0)) (aa 0)))))
def im:FN:=dh 3 lS
open L10
def mh:g6:=(aR (fx "Hand" "bed" (aH 0) (am (aa 1)))
 (aR (fx "Hand" "acts" (aH 0) (AX (am (aE bu (aa 2) (~~~0)))))
 (aR (fx "Hand" "waiting" (aH 0) (am (aE bu (aa 2) (~~~1))))
 (aR (fx "Hand" "once" (aH 0) (am (aE bu (aa 2) (~~~2))))
 (fx "Hand" "sent" (aH 0) (am (dF aq)))))))
def fP:jW:=eW 3 mh
def oB:g6:=(gB (r8 (aC (Kf pU (aC (l8 1 [0] (kX (wO (bU "Hand" "acts" (aH 0)))) (gb 0) mY (r8 (aC (am (aa 0)) (aC (wJ (bU "Hand" "acts" (aH 1)) (am (aa 0))) bx)))) bx)) (aC (bU "Hand" "waiting" (aH 0)) (aC (bU "Hand" "once" (aH 0)) bx)))))
def ck:jW:=eW 1 oB
def j0:g6:=(gB (Ff (j3 oh (bU "Hand" "waiting" (aH 0)) (am (pC .none))) (j3 mn (am (aa 1)) (kH (bU "Hand" "waiting" (aH 0)) (am (~~~0))))))
def cV:jW:=eW 2 j0
def mQ:g6:=(gB (j3 mn (am (aa 1)) (DS (bU "Hand" "acts" (aH 0)))))
def cE:jW:=eW 2 mQ
def mx:g6:=(aR (cT (pP (cC (au (aE cB (aE bu (aa 2) (~~~0)) (pC (.str "letter"))))) (vW (b5 (a9 "Hand" "has_act" cE 2 (aH 0) (aC (am (aa 2)) bx))))) (dj (AZ (bU "Hand" "sent" (aH 0)) (am (dA {aE bu (aa 2) (~~~1),pC (.str "down")})))) cQ)
 (Bg (bU "Hand" "acts" (aH 0)) (am (aa 1)) (am (aa 2))))
def b9:jW:=eW 3 mx
def sd:g6:=(aR (dW (AD (bU "Hand" "acts" (aH 0)) (am (aa 1))) (gb 2))
 (cT (pP (cC (au (aE cB (aE bu (aa 2) (~~~0)) (pC (.str "letter"))))) (vW (b5 (a9 "Hand" "has_act" cE 2 (aH 0) (aC (am (aa 2)) bx))))) (dj (AZ (bU "Hand" "sent" (aH 0)) (am (dA {aE bu (aa 2) (~~~1),pC (.str "up")})))) cQ))
def k8:jW:=eW 3 sd
def ou:g6:=(aR (dW (kH (bU "Hand" "waiting" (aH 0)) (am (~~~0))) (gb 1))
 (aR (dW (kH (bU "Hand" "waiting" (aH 0)) (am (~~~2))) (gb 2))
 (aR (fx "Hand" "waiting" (aH 0) (am (pC .none)))
 (aR (dW (qD (OL (cC (au (aE cB (aa 2) (pC (.tuple [(.str "chord")]))))) (i4 im 2 (aC (bU "Hand" "bed" (aH 0)) (aC (am (aa 1)) bx))) (am (dF {dA {pC (.str "layer"),aE bu (aa 2) (~~~2)}})))) (gb 3))
 (wf (ma (FU {aa 1,aa 3})) (Nz 2 (oQ (gb 4) (oQ (gb 5) z8))) (dj (a9 "Hand" "come" b9 3 (aH 0) (aC (am (aa 4)) (aC (am (aa 5)) bx)))))))))
def cO:jW:=eW 6 ou
def gZ:g6:=(aR (cT (EJ (b5 (j3 rp (bU "Hand" "waiting" (aH 0)) (am (pC .none)))) (EJ (b5 (j3 n6 (kH (bU "Hand" "waiting" (aH 0)) (am (~~~2))) (am (pC (.tuple [(.str "chord")]))))) (b5 (j3 n6 (i4 fE 1 (aC (a9 "Hand" "stands" ck 1 (aH 0) bx) bx)) (am (~~~0)))))) (gB (am (pC (.bool Uu)))) cQ)
 (gB (j3 n6 (i4 cr 2 (aC (bU "Hand" "bed" (aH 0)) (aC (j3 eE (kH (bU "Hand" "waiting" (aH 0)) (am (~~~0))) (am (dA {aa 1}))) bx))) (am (dF aq)))))
def fK:jW:=eW 2 gZ
def jk:g6:=(aR (dW (j3 eE (kH (bU "Hand" "waiting" (aH 0)) (am (~~~0))) (am (dA {aa 1}))) (gb 2))
 (aR (fx "Hand" "waiting" (aH 0) (r8 (aC (am (aa 2)) (aC (kH (bU "Hand" "waiting" (aH 0)) (am (~~~1))) (aC (am (pC (.tuple [(.str "chord")]))) bx)))))
 (cT (b5 (j3 cB (l8 1 [] (kX (i4 cr 2 (aC (bU "Hand" "bed" (aH 0)) (aC (am (aa 2)) bx)))) (gb 0) mY (am (ez gz {aE bu (aa 0) (~~~0)}))) (am (dF {ez gz {aa 2}})))) (dj (a9 "Hand" "decide" cO 1 (aH 0) bx)) cQ)))
def eO:jW:=eW 3 jk
def lW:g6:=(aR (dW (i4 fE 1 (aC (a9 "Hand" "stands" ck 1 (aH 0) bx) bx)) (gb 2))
 (aR (dW (i4 j8 3 (aC (bU "Hand" "bed" (aH 0)) (aC (am (aa 2)) (aC (am (aa 1)) bx)))) (gb 3))
 (aR (dW (am (aE bu (aa 3) (~~~0))) (gb 4))
 (aR (cT (cC (au (aE rB (aa 4) (dA {pC (.str "layer"),pC (.str "once")})))) (fx "Hand" "once" (aH 0) (am (pC .none))) cQ)
 (cT (cC (au (aE cB (aa 4) (pC (.str "tap"))))) (fx "Hand" "waiting" (aH 0) (am (dA {dA {aa 1},~~~0,aa 3}))) (cT (pP (cC (au (aE cB (aa 4) (pC (.str "letter"))))) (pP (cC (au (aE cB (aa 2) (~~~0)))) (b5 (j3 n6 (i4 cr 2 (aC (bU "Hand" "bed" (aH 0)) (aC (am (dA {aa 1})) bx))) (am (dF aq)))))) (fx "Hand" "waiting" (aH 0) (am (dA {dA {aa 1},~~~0,pC (.tuple [(.str "chord")])}))) (cT (cC (au (aE cB (aa 4) (pC (.str "once"))))) (aR (dj (a9 "Hand" "come" b9 3 (aH 0) (aC (am (aa 1)) (aC (am (pC (.tuple [(.str "none")]))) bx))))
 (fx "Hand" "once" (aH 0) (am (aE bu (aa 3) (~~~1))))) (dj (a9 "Hand" "come" b9 3 (aH 0) (aC (am (aa 1)) (aC (am (aa 3)) bx)))))))))))
def hZ:jW:=eW 5 lW
def lV:g6:=(aR (cT (EJ (b5 (AB Uu (am (aa 1)) (bU "Hand" "acts" (aH 0)))) (b5 (a9 "Hand" "is_waiting" cV 2 (aH 0) (aC (am (aa 1)) bx)))) wZ cQ)
 (aR (cT (b5 (a9 "Hand" "makes_chord" fK 2 (aH 0) (aC (am (aa 1)) bx))) (aR (dj (a9 "Hand" "put_to_chord" eO 2 (aH 0) (aC (am (aa 1)) bx)))
 wZ) cQ)
 (aR (cT (b5 (j3 oh (bU "Hand" "waiting" (aH 0)) (am (pC .none)))) (dj (a9 "Hand" "decide" cO 1 (aH 0) bx)) cQ)
 (dj (a9 "Hand" "begin" hZ 2 (aH 0) (aC (am (aa 1)) bx))))))
def jA:jW:=eW 2 lV
def ku:g6:=(aR (dW (kH (bU "Hand" "waiting" (aH 0)) (am (~~~2))) (gb 2))
 (cT (cC (au (aE cB (aa 2) (pC (.tuple [(.str "chord")]))))) (dj (a9 "Hand" "decide" cO 1 (aH 0) bx)) (aR (fx "Hand" "waiting" (aH 0) (am (pC .none)))
 (dj (a9 "Hand" "come" b9 3 (aH 0) (aC (am (aa 1)) (aC (am (dA {pC (.str "letter"),aE bu (aa 2) (~~~1)})) bx)))))))
def iR:jW:=eW 3 ku
def mC:g6:=(aR (cT (b5 (a9 "Hand" "is_waiting" cV 2 (aH 0) (aC (am (aa 1)) bx))) (dj (a9 "Hand" "settle" iR 2 (aH 0) (aC (am (aa 1)) bx))) cQ)
 (cT (b5 (AB Uu (am (aa 1)) (bU "Hand" "acts" (aH 0)))) (dj (a9 "Hand" "go" k8 2 (aH 0) (aC (am (aa 1)) bx))) cQ))
def j5:jW:=eW 2 mC
def jD:g6:=(aR (cT (b5 (j3 rp (bU "Hand" "waiting" (aH 0)) (am (pC .none)))) wZ cQ)
 (aR (dW (j3 eE (kH (bU "Hand" "waiting" (aH 0)) (am (~~~1))) (am (~~~1))) (gb 1))
 (aR (fx "Hand" "waiting" (aH 0) (r8 (aC (kH (bU "Hand" "waiting" (aH 0)) (am (~~~0))) (aC (am (aa 1)) (aC (kH (bU "Hand" "waiting" (aH 0)) (am (~~~2))) bx)))))
 (cT (b5 (j3 cB (am (aa 1)) (kH (bU "Hand" "bed" (aH 0)) (am (~~~3))))) (dj (a9 "Hand" "decide" cO 1 (aH 0) bx)) cQ))))
def hU:jW:=eW 2 jD
def B3:g6:=(aR (dW (kW "Hand" fP 3 (aC (am (aa 0)) (aC (am (aa 1)) bx))) (gb 3))
 (aR (cT (cC (au (aE cB (aE bu (aa 2) (~~~0)) (pC (.str "turn"))))) (dj (a9 "Hand" "wait_on" hU 1 (aH 3) bx)) (cT (cC (au (aE cB (aE bu (aa 2) (~~~0)) (pC (.str "down"))))) (dj (a9 "Hand" "press" jA 2 (aH 3) (aC (am (aE bu (aa 2) (~~~1))) bx))) (dj (a9 "Hand" "lift" j5 2 (aH 3) (aC (am (aE bu (aa 2) (~~~1))) bx)))))
 (gB (r8 (aC (bU "Hand" "sent" (aH 3)) (aC (a9 "Hand" "stands" ck 1 (aH 3) bx) bx))))))
def ve:jW:=eW 4 B3
end STP
local macro_rules| `(tactic|ext:21)=> `(tactic|·first|((simp only[ad8,ad9]);rfl)|rfl)| `(tactic|ext:20)=> `(tactic|first|with_reducible assumption|change L3.zi _ _|change L3.BQ _ _|change L3.rO _ _|change L3.Ny _ _|change L3.ah0 _ _|change L3.ahV _ _|change L3.aku _ _|change L3.ajX _ _|change L3.lC _ _|change L3.yy _ _|change L3.aeL _ _|change L3.aeM _ _|change L3.aiR _ _|change L3.aiB _ _|change L3.zb _ _|change L3.ais _ _|change L3.LS _ _|change L3.Js _ _|change L3.yI _ _|change L3.ah1 _ _|change L3.ahm _ _|change L3.ait _ _|change L3.aj2 _ _|change L3.jK|change L3.jX|change L3.sZ|change L3.Sg|change L3.Sb|change L3.QY|change L3.qZ _|change L3.uH _|(with_reducible rfl))| `(tactic|ext:0)=> `(tactic|first
 |change L3.bE
 |((with_reducible apply L3.aG);rfl)
 |((with_reducible apply L3.Cq);rfl)
 |change L3.b4
 |change L3.ah6
 |((with_reducible apply L3.b8);(·ext:0);(·ext:0);(·rfl);(·rfl);(·ext:20))
 |((with_reducible apply L3.Q6);(·ext:0);(·rfl);(·rfl))
 |((with_reducible apply L3.a8);(·ext:0);(·ext:0))
 |((with_reducible apply L3.jw);(·ext:0);(·rfl))
 |((with_reducible apply L3.jO);(·ext:0);(·rfl);(·first|ext:20|rfl))
 |((with_reducible apply L3.ky);(·ext:0);(·rfl);(·rfl);(·with_reducible assumption))
 |((with_reducible apply L3.vi);(·ext:0);(·rfl);(·exact UT rfl))
 |((with_reducible apply L3.yG);(·ext:0);(·rfl);(·exact UT rfl))
 |((with_reducible apply L3.aj8);(·ext:0);(·rfl);(·rfl))
 |((with_reducible apply L3.vj);(·ext:0);(·rfl))
 |((with_reducible apply L3.Np);(·ext:0);(·ext:0);(·ext:0);(·rfl);(·first|with_reducible assumption|rfl))
 |((with_reducible apply L3.aiQ);(·ext:0))
 |((with_reducible apply L3.tW);(·ext:0);(·intro _;ext:0))
 |((with_reducible apply L3.BU);(·ext:0);(·intro _;ext:0))
 |((with_reducible apply L3.Kt);(·ext:0))
 |((with_reducible apply L3.aff);(·ext:0);(·intro _;ext:0))
 |((with_reducible apply L3.agl);(·ext:0);(·intro _;ext:0))
 |((with_reducible apply L3.iS);(·ext:0);(·rfl);(·first|with_reducible assumption|rfl))
 |((with_reducible apply L3.nZ);(·ext:0);(·rfl);(·rfl))
 |((with_reducible apply L3.An);(·ext:0);(·rfl);(·rfl))
 |((with_reducible apply L3.IG);(·rfl);(·ext:0);(·rfl);(·rfl);(·first|with_reducible assumption|(simp only[W5,UL,L3.jZ] at*;ext));ext:21)
 |((with_reducible apply L3.ajx);(·rfl);(·ext:0);(·rfl);(·rfl);(·with_reducible assumption);(·with_reducible assumption);(·with_reducible assumption);ext:21)
 |((with_reducible apply L3.BW);(·ext:0);(·rfl);ext:21)
 |((with_reducible apply L3.D8);(·ext:0))
 |((with_reducible apply L3.yj);(·ext:0);(·rfl)))
local macro_rules| `(tactic|ext:28)=> `(tactic|first
 |((with_reducible apply L3.aky);(·ext:0);(·ext:0);(·rfl);(·rfl);(·ext:20))
 |((with_reducible apply L3.aiH);(·ext:0);(·rfl);(·rfl);(·with_reducible assumption))
 |((with_reducible apply L3.ajf);(·ext:0);(·rfl);(·first|ext:20|rfl))
 |ext:0)
local macro_rules| `(tactic|ext:0)=> `(tactic|first
 |with_reducible assumption
 |((with_reducible apply L3.aff);(·ext:0);(·intro _;ext:28))
 |((with_reducible apply L3.agl);(·ext:0);(·intro _;ext:28))
 |((with_reducible apply L3.GN);(·ext:0);(·ext:0);(·ext:0);(·rfl);(·rfl);(·rfl);(·ext:20);(·intro _;ext:20))
 |((with_reducible apply L3.Dl);(·ext:0);(·rfl);(·rfl);(·rfl)))
local macro_rules| `(tactic|ext:12)=> `(tactic|first
 |((with_reducible apply L3.pJ);(·ext:0);(·rfl);ext:21;try ext:12)
 |((with_reducible apply L3.aix);(·ext:0);try ext:12)
 |((with_reducible apply L3.ajc);try ext:12)
 |((with_reducible apply L3.qM);try ext:12)
 |((with_reducible apply L3.yL);(·ext:0);(·rfl))
 |((with_reducible apply L3.zI);(·ext:0))
 |((with_reducible apply L3.akd);(·ext:0);(·rfl);ext:21)
 |((with_reducible apply L3.C9);(·ext:0))
 |((with_reducible apply L3.ji);(·ext:0);(·rfl))
 |((with_reducible apply L3.ak7);(·ext:0))
 |(with_reducible apply L3.aiy))
local macro_rules| `(tactic|ext:8)=> `(tactic|((apply Eq.trans);(·ext:0);(·rfl)))
namespace STP
open PySem L2 L3
def og(c:Nat):Str:=#[#v[97+c]]
inductive Mn where
 |Vd (c:Nat)
 |XM (n:Int)
 |tap (c:Nat) (n:Int)
 |once (n:Int)
 |none
 |below
 deriving DecidableEq
def mD:Mn->D
 |.Vd c=>.tuple [.str "letter",.str (og c)]
 |.XM n=>.tuple [.str "layer",.int n]
 |.tap c n=>.tuple [.str "tap",.str (og c),.int n]
 |.once n=>.tuple [.str "once",.int n]
 |.none=>.tuple [.str "none"]
 |.below=>.tuple [.str "below"]
def VM(L a:Int):Mn->Prop
 |.Vd c=>c<26
 |.XM n=>1<=n/\n<a
 |.tap c n=>c<26/\1<=n/\n<a
 |.once n=>1<=n/\n<a
 |.none=>True
 |.below=>L≠0
def Mn.isL:Mn->Bool
 |.Vd _=>P
 |_=>Uu
structure Bd where
 n:Int
 ls:G (G Mn)
 cs:G (G Nat×Nat)
 wt:Int
def OI(l:G Mn):D:=.tuple (l.map mD)
def jU(c:G Nat×Nat):D:=.tuple [.tuple (bX c.1),.str (og c.2)]
def bD(b:Bd):D:=.tuple [.int b.n,.tuple (b.ls.map OI),.tuple (b.cs.map jU),.int b.wt]
def VL(n a:Int)(b:G (G Mn)):Prop:=∀(i:Nat) l,b[i]?=R l->(l.length:Int)=n/\∀m∈l,VM i a m
def QP(a:G Mn)(k:Nat):Bool:=(a[k]?.map Mn.isL).getD Uu
def VC(a:G Mn)(c:G Nat×Nat):Prop:=2<=c.1.length/\c.1.Pairwise (·<·)/\(∀k∈c.1,QP a k=P)/\c.2<26
structure VB(b:Bd):Prop where
 n1:1<=b.n
 n5:b.n<=5
 l1:1<=b.ls.length
 l3:b.ls.length<=3
 vl:VL b.n b.ls.length b.ls
 c4:b.cs.length<=4
 vc:∀c∈b.cs,VC (b.ls.headD []) c
 cu:b.cs.Pairwise λa c=>a.1≠c.1
 w1:1<=b.wt
 w4:b.wt<=4
def wn:Mn->Nat
 |.Vd _=>0
 |.XM _=>1
 |.tap _ _=>2
 |.once _=>3
 |.none=>4
 |.below=>5
def ws:Nat->Str
 |0=> "letter"
 |1=> "layer"
 |2=> "tap"
 |3=> "once"
 |4=> "none"
 |_=> "below"
def wd(m:Mn):Str:=ws (wn m)
def xo(m:Mn):wn m<6:=by ext m<;>show UT W
def AR(m:Mn):bu (mD m) (.int 0)=R (.fz (.str (wd m))):=by ext m<;>show jK
theorem M6(m:Mn):Ut.strOk (wd m)=P:=(by left:∀i,i<6->Ut.strOk (ws i)=P) _ (xo m)
def Dq:∀i,i<6->∀j,j<6->(ws i==ws j)=decide (i=j):=by left
def zx(m:Mn)(j:Nat)(a:j<6):cB (.str (wd m)) (.str (ws j))=R (.fz (.bool (decide (wn m=j)))):=by rw[MG (M6 m) ((by left:∀i,i<6->Ut.strOk (ws i)=P) j a)];ext wd;rw[Dq _ (xo m) _ a]
def Mn.isB:Mn->Bool
 |.below=>P
 |_=>Uu
def Mn.adU:Mn->Bool
 |.XM _=>P
 |_=>Uu
def Mn.isT:Mn->Bool
 |.tap _ _=>P
 |_=>Uu
def Mn.isO:Mn->Bool
 |.once _=>P
 |_=>Uu
theorem rM(m:Mn):cB (.str (wd m)) (.str "letter")=R (.fz (.bool m.isL)):=(zx m 0 ()).trans (by ext m<;>rfl)
theorem JT(m:Mn):cB (.str (wd m)) (.str "below")=R (.fz (.bool m.isB)):=(zx m 5 ()).trans (by ext m<;>rfl)
theorem Gr(m:Mn):cB (.str (wd m)) (.str "layer")=R (.fz (.bool m.adU)):=(zx m 1 ()).trans (by ext m<;>rfl)
theorem O8(m:Mn):cB (.str (wd m)) (.str "tap")=R (.fz (.bool m.isT)):=(zx m 2 ()).trans (by ext m<;>rfl)
theorem LF(m:Mn):cB (.str (wd m)) (.str "once")=R (.fz (.bool m.isO)):=(zx m 3 ()).trans (by ext m<;>rfl)
def Sa(m:Mn):rB (.str (wd m)) (.tuple [.str "layer",.str "once"])=R (.fz (.bool (!(m.adU||m.isO)))):=by
 let h:∀a:Str,Ut.strOk a=P->rB (.str a) (.tuple [.str "layer",.str "once"])=R (.fz (.bool (!(("layer":Str)==a||("once":Str)==a)))):=λa b=>by show(if(oH (.str a)&&(Ut.strOk "layer"&&(Ut.strOk "once"&&P)))=P then R (RV.fz (.bool (!(Ut.eqv (.str "layer") (.str a)||(Ut.eqv (.str "once") (.str a)||false)))))else L)=_;rw[show oH (.str a)=P by ext oH;rw[show Ut.canLay0 (.str a)=P from b];rfl,show Ut.strOk "layer"=P by left,show Ut.strOk "once"=P by left,aax];rfl
 rw[h _ (M6 m)];ext wd;rw[show(("layer":Str)==ws (wn m))=_ from Dq 1 () _ (xo m),show(("once":Str)==ws (wn m))=_ from Dq 3 () _ (xo m)];ext m<;>rfl
def LB:Mn->Prop
 |.Vd c=>c<26
 |.tap c _=>c<26
 |_=>True
def VM.lb(h:VM a nL m):LB m:=by
 cases m with
 |Vd c=>show h
 |tap c n=>show h.1
 |_=>trivial
def BE(h:c<26):Ut.strOk (og c)=P:=by show((#v[97+c]:Array Nat).all λc=>decide (c<0x110000))=P;simp;ext
def LX(h:og c=og d):c=d:=by
 let:(97+c)=97+d:=by let a:=ec (λz:Str=>z.cps.toList) h;show List.head_eq_of_cons_eq a
 ext
def JR(h:LB m):Ut.canLay0 (mD m)=P:=by
 cases m with
 |Vd c=>show(Ut.strOk "letter"&&(Ut.strOk (og c)&&P))=P;rw[BE h,show Ut.strOk "letter"=P by left];rfl
 |XM n=>show(Ut.strOk "layer"&&(P&&P))=P;left
 |tap c n=>show(Ut.strOk "tap"&&(Ut.strOk (og c)&&(P&&P)))=P;rw[BE h,show Ut.strOk "tap"=P by left];rfl
 |once n=>show(Ut.strOk "once"&&(P&&P))=P;left
 |none=>show(Ut.strOk "none"&&P)=P;left
 |below=>show(Ut.strOk "below"&&P)=P;left
def Jh(h:LB m):oH (mD m)=P:=by ext oH;rw[JR h];ext m<;>rfl
def mR:Mn->G D
 |.Vd c=>[.str (og c)]
 |.XM n=>[.int n]
 |.tap c n=>[.str (og c),.int n]
 |.once n=>[.int n]
 |.none=>[]
 |.below=>[]
def NK(m:Mn):mD m=.tuple (.str (wd m)::mR m):=by ext m<;>rfl
def Rp(a b:Mn):decide (wd a=wd b)=decide (wn a=wn b):=by let h:=Dq _ (xo a) _ (xo b);ext wd;rw[<-h];rfl
theorem DT(c d:Nat):decide (og c=og d)=decide (c=d):=decide_eq_decide.mpr #[LX,λh=>by rw[h]]
def P5(a b:Mn)(h:wn a=wn b):Ut.eqvAll (mR a) (mR b)=decide (a=b):=by
 ext a<;>ext b<;>first|ext h|skip
 .show(decide (og _=og _)&&P)=_;rw[DT,aaz];show decide_eq_decide.mpr #[λh=>by rw[h],λh=>by ext h;rfl]
 .show(decide (_=_)&&P)=_;rw[aaz];show decide_eq_decide.mpr #[λh=>by rw[h],λh=>by ext h;rfl]
 .show(decide (og _=og _)&&(decide (_=_)&&P))=_;rw[DT,aaz,<-Bool.decide_and];show decide_eq_decide.mpr #[λh=>by rw[h.1,h.2],λh=>by ext h;show#[W,W]]
 .show(decide (_=_)&&P)=_;rw[aaz];show decide_eq_decide.mpr #[λh=>by rw[h],λh=>by ext h;rfl]
 .rfl
 .rfl
def Pk(a b:Mn):Ut.eqv (mD a) (mD b)=decide (a=b):=by
 rw[NK,NK];show(decide (wd a=wd b)&&Ut.eqvAll (mR a) (mR b))=_;rw[Rp];by_cases h:wn a=wn b
 .rw[aP h,acu,P5 a b h]
 .rw[a6 h,aab,a6 λz=>h (by rw[z])]
theorem C0:∀{l:G Mn},(∀m∈l,LB m)->Ut.canLayAll0 (l.map mD)=P
 |[],_=>rfl
 |m::r,h=>by show(Ut.canLay0 (mD m)&&Ut.canLayAll0 (r.map mD))=P;rw[JR (h m UA),C0 λx a=>h x (UC _ a)];rfl
theorem Dj(a:Mn):∀l:G Mn,((l.map mD).any λe=>Ut.eqv e (mD a))=decide (a∈l)
 |[]=>rfl
 |m::r=>by rw[UM,XA,Dj a r,Pk,<-Bool.decide_or];show decide_eq_decide.mpr (by rw[UJ];show#[λh=>h.imp (λz=>z.symm) id,λh=>h.imp (λz=>z.symm) id])
def Mu{l:G Mn}(c:LB a)(b:∀m∈l,LB m):mn (mD a) (.list (l.map mD))=R (.fz (.bool (decide (a∈l)))):=by show(if(oH (mD a)&&Ut.canLayAll0 (l.map mD))=P then _ else _)=_;rw[Jh c,C0 b,Xz,av W,Dj]
def CZ(e:α->D)(g:α->cv D)(I:bM->Prop)(xs:G α)(o:I k)(f:xs.length<=1000)(b:∀x∈xs,∀k,I k->∃c,mf gt C U (e x) k=.ok (g x,c)/\I c):iY (dL gt C U (xs.map e) k [])=.ok (xs.filterMap g):=by
 let h:∀(xs:G α) (a:G D) (k:bM),I k->a.length+xs.length<=1000->(∀x∈xs,∀k,I k->∃c,mf gt C U (e x) k=.ok (g x,c)/\I c)->dL gt C U (xs.map e) k a=.ok (a++xs.filterMap g):=by
  intro xs
  induction xs with
  |nil=>intro a k _ _ _;show Res.ok a=_;rw[List.filterMap_nil,UZ]
  |cons x r i=>
   intro a k l f b;rw[UL]at f;let(c,n,m):=b x UA k l;rw[UM,uF n ()];let d:(a++(g x).toList).length+r.length<=1000:=by
    rw[UB];cases g x with
    |none=>rw[aap,W5];ext
    |some y=>rw[adx,WG];ext
   rw[i _ c m d λy j=>b y (UC _ j),Vl];cases q:g x with
   |none=>rw[Wh q];rfl
   |some y=>rw[Wi q];rfl
 rw[h xs [] k o (by simpa using f) b];rfl
def El(a:di o=o):di (R (PV.fz d)::o)=R (.fz d)::o:=by show AH _::di o=_;rw[a];rfl
def qH{α:Type}{c:FT}{k:FE}{a:bM}(e f:α->D)(p:α->Bool)(xs:G α)(i:xs.length<=1000)(l:di a=a)(g:∀x∈xs,c (R (.fz (e x))::a)=.ok (p x,R (.fz (e x))::a))(j:∀x∈xs,p x=P->k (R (.fz (e x))::a)=.ok (.fz (f x),R (.fz (e x))::a)):iY (dL (gN 0) c k (xs.map e) (L::a) [])=.ok ((xs.filter p).map f):=by
 rw[CZ e (λx=>if p x=P then R (f x)else L) (λm=>∃o,m=o::a) xs #[L,W] i ?_]
 .congr 1
  clear i g j
  induction xs with
  |nil=>rfl
  |cons x r h=>
   cases q:p x with
   |true=>rw[Wi (b:=f x) (by rw[av q]),VZ q,h];rfl
   |false=>rw[Wh (by rw[ax (by rw[q];simp)]),Wo (by rw[q];simp),h]
 .rintro x d m ⟨o,rfl⟩
  cases q:p x with
  |true=>show#[_,KJ W ((g x d).trans (by rw[q])) (j x d q) W (El l),_,W]
  |false=>show#[_,Kj W ((g x d).trans (by rw[q])) (El l),_,W]
theorem Cv(xs:G α):xs.filter (λ_=>P)=xs:=List.filter_eq_self.mpr λ_ _=>W
def CV{α:Type}(e f:α->D)(xs:G α)(b:xs.length<=1000)(g:di o=o)(d:∀x∈xs,C (R (.fz (e x))::o)=.ok (.fz (f x),R (.fz (e x))::o)):iY (dL (gN 0) dJ C (xs.map e) (L::o) [])=.ok (xs.map f):=by rw[qH e f (λ_=>P) xs b g (λ_ _=>W) λx a _=>d x a,Cv]
theorem zG(p:α->Bool):∀l:G α,xH (l.map λc=>Ut.bool (p c))=R (l.map p)
 |[]=>rfl
 |c::r=>by show(xH (r.map λc=>Ut.bool (p c))).map (p c::·)=_;rw[zG p r];rfl
def JE(p:α->Bool)(l:G α):ya [.list (l.map λc=>Ut.bool (p c))]=R (.fz (.bool (l.all p))):=by show(xH _).map (λbs=>RV.fz (.bool (bs.all id)))=_;rw[zG];show R (RV.fz (.bool _))=_;rw[List.all_map];rfl
theorem u6:∀ns:G Int,pz (ns.map Ut.int)=R ns
 |[]=>rfl
 |n::r=>by show(pz (r.map Ut.int)).map (n::·)=_;rw[u6 r];rfl
abbrev Ac:=Nat->cv Mn
abbrev Wq:=cv (G Nat×Int×cv (Nat×Int))
structure Xm where
 ac:Ac
 wt:Wq
 oc:cv Int
def j4(ac:Ac):G (Nat×Mn):=(U1 5).filterMap λk=>(ac k).map λa=>(k,a)
def pD(p:Nat×Mn):D:=.tuple [nd p.1,mD p.2]
def yW:cv (Nat×Int)->D
 |some (c,n)=>mD (.tap c n)
 |none=>.tuple [.str "chord"]
def mI:Wq->D
 |some (b,a,w)=>.tuple [.tuple (bX b),.int a,yW w]
 |none=>.none
def zV:cv Int->D
 |some o=>.int o
 |none=>.none
def ix(s:Xm):D:=.tuple [.tuple ((j4 s.ac).map pD),mI s.wt,zV s.oc]
inductive Evn where
 |down (k:Nat)
 |up (k:Nat)
 |turn
def pO:Evn->D
 |.down k=>.tuple [.str "down",nd k]
 |.up k=>.tuple [.str "up",nd k]
 |.turn=>.tuple [.str "turn",.int 0]
def lF:p∈j4 ac↔p.1<5/\ac p.1=R p.2:=by
 ext j4;rw[WE];constructor
 .rintro⟨k,d,b⟩
  cases q:ac k with
  |none=>rw[q]at b;ext b
  |some a=>rw[q]at b;ext b;show#[U0.mp d,q]
 .rintro⟨d,b⟩;show#[p.1,U0.mpr d,by rw[b];rfl]
theorem yJ(ac:Ac):(j4 ac).length<=5:=Y1 _ _
def N3:Nat×Mn->cv Int
 |(_,.XM n)=>R n
 |_=>L
def we(ac:Ac):Int:=(((j4 ac).filterMap N3).foldl on L).getD 0
def tP(ac:Ac):cv Int->Int
 |some o=>o
 |none=>we ac
def GK(ac:Ac):iY (dL (gT 2 (zu (gN 0) (zu (gN 1) Kh))) (au (aE cB (aE bu (aa 1) (~~~0)) (pC (.str "layer")))) (aE bu (aa 1) (~~~1)) ((j4 ac).map pD) [L,L] [])=.ok (((j4 ac).filterMap N3).map .int):=by
 rw[CZ pD (λp=>(N3 p).map .int) (λh=>∃d b,h=[d,b]) (j4 ac) #[L,L,W] (Vn (yJ ac) ()) ?_,List.map_filterMap];rintro⟨k,a⟩ _ h ⟨d,b,rfl⟩;let g:=AR a;let f:=Gr a;let e:au (aE cB (aE bu (aa 1) (~~~0)) (pC (.str "layer"))) [R (.fz (nd k)),R (.fz (mD a))]=.ok (a.adU,[R (.fz (nd k)),R (.fz (mD a))]):=by ext:0
 show#[[R (.fz (nd k)),R (.fz (mD a))],?_,_,_,W];cases a with
 |XM n=>show KJ W e (b8 (aG W) bE W W jX) W W
 |_=>show Kj W e W
def AI(s:Xm):fE [ix s]=.ok (.fz (.int (tP s.ac s.oc))):=by
 show iA W ?_;let a:bu (ix s) (.int 2)=R (.fz (zV s.oc)):=sZ;let e0:bu (ix s) (.int 0)=R (.fz (.tuple ((j4 s.ac).map pD))):=jK;ext oP;cases q:s.oc with
 |some o=>
  rw[q]at a;let b:oh (zV (R o)) .none=R (.fz (.bool P)):=W;ext:12
  .intro _;show yL (by ext:0) W W
  .intro h;ext h
 |none=>
  rw[q]at a;let b:oh (zV L) .none=R (.fz (.bool Uu)):=W;ext:12
  .intro h;ext h
  .intro _;show qM (ji (jO (rv:=.fz (.int (we s.ac))) (a8 (fV (by ext:0) W (GK s.ac)) b4) W ?_) W W);show(pz _).map _=_;rw[u6];rfl
def vV(b:Bd)(L k:Nat):Mn:=((b.ls[L]?.getD [])[k]?).getD .none
def look(b:Bd)(L:Int)(k:Nat):Mn:=if(vV b L.toNat k).isB=P then vV b 0 k else vV b L.toNat k
section
variable{b:Bd}(Z:VB b)
include Z
def MW{L k:Nat}(a:L<b.ls.length)(e:(k:Int)<b.n):∃l,b.ls[L]?=R l/\l[k]?=R (vV b L k):=by
 let f:=Z.vl L _ (UD a);let d:k<(b.ls[L]).length:=by ext
 show#[_,UD a,?_];ext vV;rw[UD a,aa4,UD d];rfl
def Cn{L k:Nat}(d:L<b.ls.length)(a:(k:Int)<b.n):VM L b.ls.length (vV b L k):=by let(l,f,e):=MW Z d a;show(Z.vl L l f).2 _ (Vb e)
def JO{L k:Nat}(e:L<b.ls.length)(a:(k:Int)<b.n):∃d,bu (.tuple (b.ls.map OI)) (nd L)=R (.fz d)/\bu d (nd k)=R (.fz (mD (vV b L k))):=by let(l,g,f):=MW Z e a;show#[OI l,QI (by rw[UK,g];rfl),QI (by rw[UK,f];rfl)]
def ME{L:Int}{k:Nat}(r:0<=L)(p:L<b.ls.length)(e:(k:Int)<b.n):j8 [bD b,.int L,nd k]=.ok (.fz (mD (look b L k))):=by
 obtain⟨n,rfl⟩:∃n:Nat,L=(n:Int):=#[L.toNat,by ext];let o:=Z.l1;let(d,u,j):=JO Z (L:=n) () e;let(l,i,h):=JO Z (L:=0) () e;let v:bu (bD b) (.int 1)=R (.fz (.tuple (b.ls.map OI))):=jX;let g:=AR (vV b n k);let f:=JT (vV b n k);let t:bu (.tuple (b.ls.map OI)) (.int 0)=R (.fz l):=i;let a:look b (n:Int) k=if(vV b n k).isB=P then vV b 0 k else vV b n k:=W
 rw[a];generalize vV b n k=m at j g f a;generalize vV b 0 k=m0 at h a;show iA W ?_;ext ny;ext:12
 .intro q;rw[av q];show yL (by ext:0) W W
 .intro q;rw[ax (by rw[q];simp)];show qM (ji (by ext:0) W W)
def Ek{L:Int}{k:Nat}(f:0<=L)(h:L<b.ls.length)(e:(k:Int)<b.n):VM L b.ls.length (look b L k)/\look b L k≠.below:=by
 let g:=Z.l1;let a:=Cn Z (L:=0) (k:=k) () e;let v:=Cn Z (L:=L.toNat) (k:=k) () e;let d:vV b 0 k≠.below:=λz=>by rw[z]at a;show a W
 rw[ad5 f]at v;ext look;split
 .show#[?_,d]
  generalize vV b 0 k=m at a d;cases m with
  |below=>show bg W d
  |_=>show a
 .rename_i q;show#[v,λz=>?_];rw[z]at q;show q W
omit Z in
theorem JW(ks:cn Nat)(a:ks.length<=5)(c:cn Nat×Nat):au (ez ya {cX 1 [0] (gD (aa 1)) (gN 0) dJ (aE mn (aa 0) (aE bu (aa 1) (~~~0)))}) [cL (.fz (jU c)),cL (.fz (.tuple (bX ks)))]=.ok (ks.all λk=>decide (k∈c.1),[cL (.fz (jU c)),cL (.fz (.tuple (bX ks)))]):=by
 have e:iY (dL (gN 0) dJ (aE mn (aa 0) (aE bu (aa 1) (~~~0))) (bX ks) [CL,cL (.fz (jU c))] [])=.ok (ks.map λk=>.bool (decide (k∈c.1))):=CV nd (λk=>.bool (decide (k∈c.1))) ks (by ext) rfl λk _=>by have e0:bu (jU c) (.int 0)=cL (.fz (.tuple (bX c.1))):=jK;exact b8 (rv:=.fz (.bool (decide (k∈c.1)))) (aG rfl) (by ext:0) rfl rfl (yI _ _)
 exact jw (jO (rv:=.fz (.bool (ks.all λk=>decide (k∈c.1)))) (ds:=[.list (ks.map λk=>.bool (decide (k∈c.1)))]) (a8 (fV (cs:=[jU c]) (ds:=bX ks) (by ext:0) rfl e) b4) rfl (JE _ _)) rfl
def iq(b:Bd)(a:G Nat):G (G Nat×Nat):=b.cs.filter λc=>a.all λk=>decide (k∈c.1)
def DQ(a:o.length<=5):cr [bD b,.tuple (bX o)]=.ok (.ow ((iq b o).map jU)):=by let e:bu (bD b) (.int 2)=R (.fz (.tuple (b.cs.map jU))):=sZ;let d:=Z.c4;show iA W ?_;ext kF;show ji (fV (cs:=[.tuple (bX o)]) (by ext:0) W (qH jU jU (λc=>o.all λk=>decide (k∈c.1)) b.cs () W (λc _=>JW o a c) λc _ _=>aG W)) W W
def sS(a:G Nat):G Nat:=(mN (a.map abx)).map acU
omit Z in
theorem uj(ks:cn Nat):(sS ks).Perm ks:=by have h:=(gW (ks.map abx)).map acU;rw[Vq]at h;exact h.trans (by rw[show(acU∘abx)=id from funext λx=>rfl,List.map_id])
omit Z in
theorem K7(ks:cn Nat):(mN (ks.map abx)).map Ut.int=bX (sS ks):=by unfold sS bX;rw[Vq];refine Ww λx a=>?_;obtain⟨n,_,rfl⟩:=U7.mp ((gW _).mem_iff.mp a);rfl
omit Z in
theorem BT(ks:cn Nat):(sS ks).Pairwise (·<=·):=by
 have h:∀l:cn Int,l.Pairwise (·<=·)->(l.map acU).Pairwise (·<=·):=λl h=>by rw[Xe];exact h.imp λh=>by ext
 exact h _ (gv _)
omit Z in
theorem KG(ks:cn Nat):(sS ks).length=ks.length:=(uj ks).length_eq
omit Z in
theorem Ap{ks:cn Nat}(h:ks.length<64):L9.ju [.tuple (bX ks)]=cL (.ow (bX (sS ks))):=by
 have e:bX ks=(ks.map abx).map Ut.int:=by rw[Vq];rfl
 show(match pz (bX ks)with
  |some a=>if a.length<64 then cL (RV.ow ((mN a).map .int))else CL
  |none=>CL)=_
 rw[e,u6];dsimp only;rw[av (by rw[Ur];exact h),K7]
def QX(b:Bd)(a:G Nat):G Mn:=match b.cs.find? λc=>decide (c.1=sS a)with
 |some c=>.Vd c.2::Us (a.length - 1) .none
 |none=>a.map (vV b 0)
omit Z in
omit Z in
theorem RT(n:Nat)(d:D):(Us n [d]).flatten=Us n d:=by
 induction n with
 |zero=>rfl
 |succ n a=>rw[Vx,Wn,a];rfl
def P7{n:cn Nat}(G:1<=n.length)(F:n.length<=5)(B:∀k∈n,(k:Int)<b.n):im [bD b,.tuple (bX n)]=.ok (.ow ((QX b n).map mD)):=by
 let H:bu (bD b) (.int 2)=R (.fz (.tuple (b.cs.map jU))):=sZ;let I:bu (bD b) (.int 1)=R (.fz (.tuple (b.ls.map OI))):=jX;let E:=Z.l1;let i:=Ap (ks:=n) ();show iA W ?_;ext lS;let rt:∀c:cn Nat×Nat,(aE eE (dF {dA {pC (.str "letter"),aE bu (aa 2) (~~~1)}}) (aE gG (dF {pC (.tuple [(.str "none")])}) (aE v1 (ez gz {aa 1}) (~~~1)))) [R (.fz (bD b)),R (.fz (.tuple (bX n))),R (.fz (jU c))]=.ok (.ow ((Mn.Vd c.2::Us (n.length - 1) Mn.none).map mD),[R (.fz (bD b)),R (.fz (.tuple (bX n))),R (.fz (jU c))]):=λc=>by
  let l:bu (jU c) (.int 1)=R (.fz (.str (og c.2))):=jX;let j:gG (.list [.tuple [.str "none"]]) (.int (((bX n).length:Int) - 1))=R (.ow (Us (n.length - 1) (.tuple [.str "none"]))):=by rw[jZ,show((n.length:Int) - 1)=((n.length - 1:Nat):Int) by ext];show(O9 () ()).trans (by rw[RT])
  let y:eE (.list [mD (.Vd c.2)]) (.list (Us (n.length - 1) (.tuple [.str "none"])))=R (.ow ((Mn.Vd c.2::Us (n.length - 1) Mn.none).map mD)):=by show(if 1+(Us (n.length - 1) (Ut.tuple [.str "none"])).length<=1000000 then R (RV.ow ([mD (.Vd c.2)]++Us (n.length - 1) (Ut.tuple [.str "none"])))else CL)=_;rw[UR,av (),UM,aaK];rfl
  show b8 (by ext:0) (b8 (by ext:0) (b8 (by ext:0) bE W W (BQ _ _)) W W j) W W y
 let f:∀(e:cn (cn Nat×Nat)) (o:cv PV),(∀c,e.find? (λc=>decide (c.1=sS n))=R c->sV (gN 2) (gF (au (aE cB (ez tt {aE bu (aa 2) (~~~0)}) (ez L9.ju {aa 1}))) (bK (aE eE (dF {dA {pC (.str "letter"),aE bu (aa 2) (~~~1)}}) (aE gG (dF {pC (.tuple [(.str "none")])}) (aE v1 (ez gz {aa 1}) (~~~1))))) bQ) (e.map jU) [R (.fz (bD b)),R (.fz (.tuple (bX n))),o]=.ok (.rt (.ow ((Mn.Vd c.2::Us (n.length - 1) Mn.none).map mD))))/\
   (e.find? (λc=>decide (c.1=sS n))=CL->∃u,sV (gN 2) (gF (au (aE cB (ez tt {aE bu (aa 2) (~~~0)}) (ez L9.ju {aa 1}))) (bK (aE eE (dF {dA {pC (.str "letter"),aE bu (aa 2) (~~~1)}}) (aE gG (dF {pC (.tuple [(.str "none")])}) (aE v1 (ez gz {aa 1}) (~~~1))))) bQ) (e.map jU) [R (.fz (bD b)),R (.fz (.tuple (bX n))),o]=.ok (.nx [R (.fz (bD b)),R (.fz (.tuple (bX n))),u])):=by
  intro e
  induction e with
  |nil=>show λo=>#[λc h=>(by ext h),λ_=>#[o,W]]
  |cons c r A=>
   intro o;let C:bu (jU c) (.int 0)=R (.fz (.tuple (bX c.1))):=jK
   let a:au (aE cB (ez tt {aE bu (aa 2) (~~~0)}) (ez L9.ju {aa 1})) [R (.fz (bD b)),R (.fz (.tuple (bX n))),R (.fz (jU c))]=.ok (decide (c.1=sS n),[R (.fz (bD b)),R (.fz (.tuple (bX n))),R (.fz (jU c))]):=
    jw (b8 (jO (by ext:0) W W) (jO (by ext:0) W i) W W (zb _ _)) W
   rw[Ws];by_cases h:c.1=sS n
   .rw[aP h]at a⊢;show#[λJ t=>?_,λt=>(by ext t)];ext t;show((gN 2 (.fz (jU c)) [R (.fz (bD b)),R (.fz (.tuple (bX n))),o]).bind λg=>_)=_;rw[HF,ej];show((gF _ _ _ [R (.fz (bD b)),R (.fz (.tuple (bX n))),R (.fz (jU c))]).bind _)=_;rw[S4 a,yj (rt c) W];rfl
   .rw[a6 h]at a⊢
    let w:sV (gN 2) (gF (au (aE cB (ez tt {aE bu (aa 2) (~~~0)}) (ez L9.ju {aa 1}))) (bK (aE eE (dF {dA {pC (.str "letter"),aE bu (aa 2) (~~~1)}}) (aE gG (dF {pC (.tuple [(.str "none")])}) (aE v1 (ez gz {aa 1}) (~~~1))))) bQ) ((c::r).map jU) [R (.fz (bD b)),R (.fz (.tuple (bX n))),o]=sV (gN 2) (gF (au (aE cB (ez tt {aE bu (aa 2) (~~~0)}) (ez L9.ju {aa 1}))) (bK (aE eE (dF {dA {pC (.str "letter"),aE bu (aa 2) (~~~1)}}) (aE gG (dF {pC (.tuple [(.str "none")])}) (aE v1 (ez gz {aa 1}) (~~~1))))) bQ) (r.map jU) [R (.fz (bD b)),R (.fz (.tuple (bX n))),R (.fz (jU c))]:=by show((gN 2 (.fz (jU c)) [R (.fz (bD b)),R (.fz (.tuple (bX n))),o]).bind λg=>_)=_;rw[HF,ej];show((gF _ _ _ [R (.fz (bD b)),R (.fz (.tuple (bX n))),R (.fz (jU c))]).bind _)=_;rw[Tx a];rfl
    rw[w];show A _
 let(z,m):=f b.cs CL;let v:gD (aE bu (aa 0) (~~~2)) [R (.fz (bD b)),R (.fz (.tuple (bX n))),CL]=.ok (b.cs.map jU,[R (.fz (bD b)),R (.fz (.tuple (bX n))),CL]):=by ext:0
 ext QX;cases q:b.cs.find? λc=>decide (c.1=sS n)with
 |some c=>show .eq (Hm ((Cs v).trans (z c q))) #[W]
 |none=>let(u,m):=m q;show .eq (JF ((Cs v).trans m)) ?_;show ji (fV (by ext:0) W ?_) W W;rw[Vq];show CV nd (mD∘vV b 0) n () W λk p=>?_;let(d,l,j):=JO Z (L:=0) () (B k p);let l:bu (.tuple (b.ls.map OI)) (.int 0)=R (.fz d):=l;show b8 (by ext:0) (aG W) W W j
end
end STP
local macro_rules|`(-($x))=>`(Option.some (.fz $x))
namespace STP
open PySem L2 L3
open L10
def mq(p:Nat×Mn):et×SV:=(.inl (p.1:Int),.fz (mD p.2))
def mi(ac:Ac)(k:Nat)(o:cv Mn):Ac:=λj=>if j=k then o else ac j
def gH:mi ac k o k=o:=by ext mi;rw[av W]
def ja(h:j≠k):mi ac k o j=ac j:=by ext mi;rw[ax h]
def Gb(ac:Ac):(j4 ac).Pairwise λp q=>p.1<q.1:=by
 ext j4;show ahg _ (λa f h p d q b=>?_) (List.pairwise_lt_range);cases e:ac a with
 |none=>rw[e]at d;ext d
 |some x=>
  cases g:ac f with
  |none=>rw[g]at b;ext b
  |some y=>rw[e]at d;rw[g]at b;ext d;ext b;show h
def vg(ac:Ac):((j4 ac).map (·.1)).Nodup:=by rw[UW,Xe];show(Gb ac).imp λh=>UP h
def DY{l:G (Nat×Mn)}(h:(l.map (·.1)).Nodup):l.Nodup:=by rw[UW,Xe]at h;show h.imp λh e=>h (by rw[e])
theorem vL{l:G (Nat×Mn)}(h:(l.map (·.1)).Nodup)(hm:∀p,p∈l↔p.1<5/\ac p.1=R p.2):l.Perm (j4 ac):=
 (List.perm_ext_iff_of_nodup (DY h) (DY (vg ac))).mpr λp=>(hm p).trans lF.symm
section
variable{Z:cn (Nat×Mn)}{X:Ac}(Y:Z.Perm (j4 X))
include Y
theorem nF:p∈Z↔p.1<5/\X p.1=R p.2:=Y.mem_iff.trans lF
theorem Iz:(Z.map (·.1)).Nodup:=(Y.map (·.1)).nodup_iff.mpr (vg X)
def IC:Z.length<=5:=by rw[Y.length_eq];show yJ X
def qh{k:Nat}(d:k<5):l4 (Z.map mq) (.inl (k:Int))=(X k).map λa=>SV.fz (mD a):=by
 ext l4;cases q:(Z.map mq).find? λb=>decide (b.1=(.inl (k:Int):et))with
 |none=>
  cases e:X k with
  |none=>rfl
  |some a=>let:=aaL.mp q (mq (k,a)) (U7.mpr #[(k,a),(nF Y).mpr #[d,e],W]);show bg (aP W) this
 |some b=>
  let(p,h,rfl):=U7.mp (YN q);let g:=a7 (afc (p:=λb:et×SV=>decide (b.1=(.inl (k:Int):et))) q);let f:p.1=k:=by let:=Sum.inl.inj g;ext
  rw[<-f,((nF Y).mp h).2];rfl
def Lj{k:Nat}(n:k<5):∃c:G (Nat×Mn),l9 (Z.map mq) (.inl (k:Int)) (.fz (mD a))=c.map mq/\c.Perm (j4 (mi X k (R a))):=by
 ext l9;let f:∀p:Nat×Mn,((mq p).1=(.inl (k:Int):et))↔p.1=k:=λp=>#[λh=>by let:=Sum.inl.inj h;ext,λh=>by rw[<-h];rfl];split
 .rename_i h
  show#[Z.map λp=>if p.1=k then(k,a)else p,?_,vL ?_ λp=>?_]
  .rw[Vq,Vq]
   show Ww λp _=>?_;show(if(mq p).1=(.inl (k:Int):et)then((mq p).1,SV.fz (mD a))else mq p)=mq (if p.1=k then(k,a)else p);by_cases e:p.1=k
   .rw[av ((f p).mpr e),av e,(f p).mpr e];rfl
   .rw[ax (λz=>e ((f p).mp z)),ax e]
  .rw[Vq,show Z.map ((·.1)∘λp:Nat×Mn=>if p.1=k then(k,a)else p)=Z.map (·.1)from Ww λp _=>by
    show(if p.1=k then(k,a)else p).1=p.1;split
    .rename_i e;show e.symm
    .rfl]
   show Iz Y
  .let(v,j,i):=abn.mp h
   let(m,u,rfl):=U7.mp j;let b:=(f m).mp (a7 i);rw[U7];constructor
   .rintro⟨r,t,rfl⟩
    split
    .show#[n,gH]
    .rename_i e;let:=(nF Y).mp t;show#[this.1,by rw[ja e];show this.2]
   .rintro⟨d,g⟩
    by_cases e:p.1=k
    .rw[e,gH]at g;show#[m,u,?_];rw[av b,<-e,UU g]
    .rw[ja e]at g;show#[p,(nF Y).mpr #[d,g],by rw[ax e]]
 .rename_i h
  let A:=λp l e=>h (abn.mpr #[mq p,U7.mpr #[p,l,W],aP ((f p).mpr e)]);show#[Z++[(k,a)],by rw[Vf];rfl,vL ?_ λp=>?_]
  .rw[Vf,YS];show#[Iz Y,VN.mpr #[Vy,aac],λx q y o=>?_];let(p,b,rfl):=U7.mp q;rw[UH.mp o];show A p b
  .rw[VF,UH]
   constructor
   .rintro(b|rfl)
    .let:=(nF Y).mp b;show#[this.1,by rw[ja (A p b)];show this.2]
    .show#[n,gH]
   .rintro⟨b,d⟩
    by_cases e:p.1=k
    .rw[e,gH]at d;show .inr (by rw[<-e,UU d])
    .rw[ja e]at d;show .inl ((nF Y).mpr #[b,d])
def GY{k:Nat}:∃c:G (Nat×Mn),pf (Z.map mq) (.inl (k:Int))=c.map mq/\c.Perm (j4 (mi X k L)):=by
 let f:∀p:Nat×Mn,((mq p).1=(.inl (k:Int):et))↔p.1=k:=λp=>#[λh=>by let:=Sum.inl.inj h;ext,λh=>by rw[<-h];rfl];show#[Z.filter λp=>decide (p.1≠k),?_,vL ?_ λp=>?_]
 .ext pf;rw[List.filter_map];congr 1;show YT λp _=>?_;show decide_eq_decide.mpr (not_congr (f p))
 .show akS ((aar).map _) (Iz Y)
 .rw[Ve,nF Y,decide_eq_true_eq]
  constructor
  .rintro⟨⟨b,a⟩,d⟩;show#[b,by rw[ja d];show a]
  .rintro⟨b,a⟩
   by_cases e:p.1=k
   .rw[e,gH]at a;ext a
   .rw[ja e]at a;show#[#[b,a],e]
def J3:bc Bs ((Z.map mq).map (·.1))=R (Z.map λp=>(p.1:Int)):=by
 clear Y
 induction Z with
 |nil=>rfl
 |cons p r a=>rw[UM,UM];ext bc;rw[a];rfl
def IV:mN (Z.map λp=>(p.1:Int))=(j4 X).map λp=>(p.1:Int):=by show nJ ((gW _).trans (Y.map _)) (gv _) ?_;rw[Xe];show(Gb X).imp λh=>by ext
end
abbrev Sn:=G (Nat×Bool)
def pe(ac:Ac)(a:Mn):Bool:=decide (a∈(j4 ac).map (·.2))
def qp(ac:Ac):Mn->Sn
 |.Vd c=>if pe ac (.Vd c)=P then[]else[(c,P)]
 |_=>[]
def Mb(ac:Ac):Mn->Sn
 |.Vd c=>if pe ac (.Vd c)=P then[]else[(c,Uu)]
 |_=>[]
def iX(p:Xm×Sn)(k:Nat)(a:Mn):Xm×Sn:=({p.1 with ac:=mi p.1.ac k (R a)},p.2++qp p.1.ac a)
def go(p:Xm×Sn)(k:Nat):Xm×Sn:=match p.1.ac k with
 |some a=>({p.1 with ac:=mi p.1.ac k L},p.2++Mb (mi p.1.ac k L) a)
 |none=>p
def mV(p:Xm×Sn)(a:G (Nat×Mn)):Xm×Sn:=a.foldl (λp q=>iX p q.1 q.2) p
def jd(b:Bd)(a:G Nat):cv (Nat×Int)->G Mn
 |some (_,n)=>[.XM n]
 |none=>QX b a
def fW(b:Bd)(p:Xm×Sn):Xm×Sn:=match p.1.wt with
 |none=>p
 |some (a,_,w)=>mV ({p.1 with wt:=L},p.2) (a.zip (jd b a w))
def Jo:Wq->Nat->Bool
 |some (a,_,_),k=>decide (k∈a)
 |none,_=>Uu
def HR(b:Bd)(s:Xm)(k:Nat):Bool:=match s.wt with
 |some (a,_,L)=>decide (tP s.ac s.oc=0)&& !(iq b (a++[k])).isEmpty
 |_=>Uu
def Ax(b:Bd)(p:Xm×Sn)(k:Nat):Xm×Sn:=match p.1.wt with
 |some (a,g,_)=>if(iq b (a++[k])).map (·.1.length)=[(a++[k]).length]then fW b ({p.1 with wt:=R (a++[k],g,L)},p.2)else({p.1 with wt:=R (a++[k],g,L)},p.2)
 |none=>p
def lL(s:Xm)(m:Mn):Xm:=if(m.adU||m.isO)=P then s else{s with oc:=L}
def A0(b:Bd)(L:Int)(p:Xm×Sn)(k:Nat):Mn->Xm×Sn
 |.tap c n=>({p.1 with wt:=R ([k],0,R (c,n))},p.2)
 |.Vd c=>if(decide (L=0)&& !(iq b [k]).isEmpty)=P then({p.1 with wt:=R ([k],0,CL)},p.2)else iX p k (.Vd c)
 |.once n=>({(iX p k .none).1 with oc:=R n},(iX p k .none).2)
 |m=>iX p k m
def MY(b:Bd)(p:Xm×Sn)(k:Nat):Xm×Sn:=
 A0 b (tP p.1.ac p.1.oc) (lL p.1 (look b (tP p.1.ac p.1.oc) k),p.2) k (look b (tP p.1.ac p.1.oc) k)
def rb(b:Bd)(p:Xm×Sn)(k:Nat):Xm×Sn:=
 if((p.1.ac k).isSome||Jo p.1.wt k)=P then p else if HR b p.1 k=P then Ax b p k else MY b (fW b p) k
def d3(b:Bd)(p:Xm×Sn)(k:Nat):Xm×Sn:=match p.1.wt with
 |some (_,_,L)=>fW b p
 |some (_,_,R (c,_))=>iX ({p.1 with wt:=L},p.2) k (.Vd c)
 |none=>p
def FR(b:Bd)(p:Xm×Sn)(k:Nat):Xm×Sn:=go (if Jo p.1.wt k=P then d3 b p k else p) k
def sK(b:Bd)(p:Xm×Sn):Xm×Sn:=match p.1.wt with
 |none=>p
 |some (a,g,w)=>if g+1=b.wt then fW b ({p.1 with wt:=R (a,g+1,w)},p.2)else({p.1 with wt:=R (a,g+1,w)},p.2)
def dD(b:Bd)(s:Xm):Evn->Xm×Sn
 |.down k=>rb b (s,[]) k
 |.up k=>FR b (s,[]) k
 |.turn=>sK b (s,[])
def wQ(b:Bd)(s:Xm):G (Str×SV):=[("bed",.fz (bD b)),("acts",.rf 1),("waiting",.fz (mI s.wt)),("once",.fz (zV s.oc)),("sent",.rf 2)]
def Bl(p:Nat×Bool):D:=.tuple [.str (og p.1),.str (if p.2=P then "down" else "up")]
def gj(b:Bd)(s:Xm)(sn:Sn)(a:G (Nat×Mn))(J:bC):bC:=.obj "Hand" (wQ b s):: .dct (a.map mq):: .lst ((sn.map Bl).map .fz)::J
def HS(b:Bd)(p:Xm×Sn)(Z:bC):Prop:=∃a J,a.Perm (j4 p.1.ac)/\Z=gj b p.1 p.2 a J
section
variable{b:Bd}{s:Xm}{sn:Sn}{Y:cn (Nat×Mn)}{J:bC}{ρ:b3}{i:Nat}{Z:bC}{p:Xm×Sn}{k:Nat}{a:Mn}
def Pl:(wQ b s).lookup ("bed":Str)=-(bD b):=by ext wQ;rw[W9]
def Mm:(wQ b s).lookup ("acts":Str)=R (.rf 1):=by ext wQ;rw[UQ,show(("acts":Str)== "bed")=Uu by left];dsimp only;rw[W9]
def Lk:(wQ b s).lookup ("waiting":Str)=-(mI s.wt):=by ext wQ;rw[UQ,show(("waiting":Str)== "bed")=Uu by left];dsimp only;rw[UQ,show(("waiting":Str)== "acts")=Uu by left];dsimp only;rw[W9]
def Kq:(wQ b s).lookup ("once":Str)=-(zV s.oc):=by ext wQ;rw[UQ,show(("once":Str)== "bed")=Uu by left];dsimp only;rw[UQ,show(("once":Str)== "acts")=Uu by left];dsimp only;rw[UQ,show(("once":Str)== "waiting")=Uu by left];dsimp only;rw[W9]
def Ln:(wQ b s).lookup ("sent":Str)=R (.rf 2):=by ext wQ;rw[UQ,show(("sent":Str)== "bed")=Uu by left];dsimp only;rw[UQ,show(("sent":Str)== "acts")=Uu by left];dsimp only;rw[UQ,show(("sent":Str)== "waiting")=Uu by left];dsimp only;rw[UQ,show(("sent":Str)== "once")=Uu by left];dsimp only;rw[W9]
def TJ(m:Str):Bool:=(m== "bed"||m== "acts"||m== "waiting"||m== "once"||m== "sent")==Uu
def Rs(h:TJ m=P):(wQ b s).lookup m=L:=by unfold TJ at h;simp only[beq_iff_eq,adz]at h;let((((j,g),f),e),d):=h;ext wQ;rw[UQ,j];dsimp only;rw[UQ,g];dsimp only;rw[UQ,f];dsimp only;rw[UQ,e];dsimp only;rw[UQ,d];rfl
theorem rK(h:ρ[i]?=R (R (.rf 0))):bU "Hand" "bed" (aH i) ρ (gj b s sn Y J)=.ok (.fz (bD b)) (gj b s sn Y J):=fF (aV h) W Pl
theorem jB(h:ρ[i]?=R (R (.rf 0))):bU "Hand" "acts" (aH i) ρ (gj b s sn Y J)=.ok (.rf 1) (gj b s sn Y J):=fF (aV h) W Mm
theorem cK(h:ρ[i]?=R (R (.rf 0))):bU "Hand" "waiting" (aH i) ρ (gj b s sn Y J)=.ok (.fz (mI s.wt)) (gj b s sn Y J):=fF (aV h) W Lk
theorem Ea(h:ρ[i]?=R (R (.rf 0))):bU "Hand" "once" (aH i) ρ (gj b s sn Y J)=.ok (.fz (zV s.oc)) (gj b s sn Y J):=fF (aV h) W Kq
theorem x9(h:ρ[i]?=R (R (.rf 0))):bU "Hand" "sent" (aH i) ρ (gj b s sn Y J)=.ok (.rf 2) (gj b s sn Y J):=fF (aV h) W Ln
def F3(w:Wq):dI "waiting" (.fz (mI w)) (wQ b s)=wQ b {s with wt:=w}:=by ext wQ;ext dI;rw[ax (by left)];ext dI;rw[ax (by left)];ext dI;rw[av W]
def Ke(o:cv Int):dI "once" (.fz (zV o)) (wQ b s)=wQ b {s with oc:=o}:=by ext wQ;ext dI;rw[ax (by left)];ext dI;rw[ax (by left)];ext dI;rw[ax (by left)];ext dI;rw[av W]
theorem oa(w:Wq)(h:ρ[i]?=R (R (.rf 0)))(d:o ρ Z=.ok (.fz (mI w)) (gj b s sn Y J)):fx "Hand" "waiting" (aH i) o ρ Z=.ok (.nx ρ) (gj b {s with wt:=w} sn Y J):=
 (eV d (aV h) W (by show UT W)).trans (by rw[F3];rfl)
theorem D2(o:cv Int)(h:ρ[i]?=R (R (.rf 0)))(d:C ρ Z=.ok (.fz (zV o)) (gj b s sn Y J)):fx "Hand" "once" (aH i) C ρ Z=.ok (.nx ρ) (gj b {s with oc:=o} sn Y J):=
 (eV d (aV h) W (by show UT W)).trans (by rw[Ke];rfl)
def cP(d:HS b p Z)(hm:TJ m=P)(h:ρ[i]?=R (R (.rf 0)))(g:fa ρ Z=.ok xs Z)(c:(SV.rf 0::xs).length=n)(e:F (.rf 0::xs) Z=.ok x o):a9 "Hand" m F n (aH i) fa ρ Z=.ok x o:=by let(Y,J,f,rfl):=d;show fH (aV h) W (Rs hm) g c e
def J9(Y:G (Nat×Mn)):(Y.map mq).map (·.2)=((Y.map (·.2)).map mD).map SV.fz:=by rw[Vq,Vq,Vq];rfl
def AK(ac:Ac):Prop:=∀k a,ac k=R a->k<5/\LB a
def HI(e:HS b p Z)(f:AK p.1.ac)(j:LB a):∃c,cE [.rf 0,.fz (mD a)] Z=.ok (.fz (.bool (pe p.1.ac a))) c/\HS b p c:=by
 let(Y,J,d,rfl):=e;let h:pe p.1.ac a=decide (a∈Y.map (·.2)):=decide_eq_decide.mpr (d.map (·.2)).symm.mem_iff;let lb:∀m∈Y.map (·.2),LB m:=λm hm=>by let(q,g,rfl):=U7.mp hm;show(f _ _ ((nF d).mp g).2).2
 show#[gj b p.1 p.2 Y (J++[.lst ((Y.map mq).map (·.2))]),?_,Y,_,d,W];rw[h];show gc W (eu (dY (ai (aG W)) (Li (jB W) W) (yt W (iE (by rw[J9];show bh)) (Mu j lb))))
theorem Eg(f:sn.length<1000)(h:ρ[i]?=R (R (.rf 0)))(e:o ρ (gj b s sn Y J)=.ok (.fz (Bl (c,d))) (gj b s sn Y J)):AZ (bU "Hand" "sent" (aH i)) o ρ (gj b s sn Y J)=.ok (.fz .none) (gj b s (sn++[(c,d)]) Y J):=
 (Jj (x9 h) W e W (by rw[Ur,Ur];ext)).trans (by ext gj;rw[Vf,Vf];rfl)
def vk(d:Y.Perm (j4 s.ac))(g:k<5)(n:ρ[0]?=R (R (.rf 0)))(m:ρ[1]?=R (-(nd k)))(l:ρ[2]?=R (-(mD a))):∃c:G (Nat×Mn),c.Perm (j4 (mi s.ac k (R a)))/\Bg (bU "Hand" "acts" (aH 0)) (am (aa 1)) (am (aa 2)) ρ (gj b s sn Y J)=.ok (.nx ρ) (gj b {s with ac:=mi s.ac k (R a)} sn c J):=by let(c,j,h):=Lj d g;let f:aa 1 (cZ ρ)=.ok (.fz (nd k),cZ ρ):=aG (by ext cZ;rw[UK,m];rfl);let e:aa 2 (cZ ρ)=.ok (.fz (mD a),cZ ρ):=aG (by ext cZ;rw[UK,l];rfl);show#[c,h,(Mv (ai e) (jB n) (ai f) W W (by rw[Ur];let:=IC d;ext)).trans ?_];rw[j];rfl
def tR(j:HS b p Z)(u:AK p.1.ac)(B:LB a)(l:k<5)(t:p.2.length<1000):∃x,b9 [.rf 0,.fz (nd k),.fz (mD a)] Z=.ok (.fz .none) x/\HS b (iX p k a) x:=by
 let e0:=AR a;let r:=rM a;cases q:a.isL with
 |false=>
  let(Y,J,g,rfl):=j;rw[q]at r;let(d,h,v):=vk (ρ:=[R (.rf 0),-(nd k),-(mD a)]) g l W W W;show#[_,j6 W (bq (d8 (jC (bz (by ext:0))) eB) v),d,J,h,?_];let:qp p.1.ac a=[]:=by ext a<;>first|rfl|ext q
  ext iX;rw[this,UZ]
 |true=>
  rw[q]at r;let(y,h,w):=HI j u B;let f:∀o,pe p.1.ac a=o->(pP (cC (au (aE cB (aE bu (aa 2) (~~~0)) (pC (.str "letter"))))) (vW (b5 (a9 "Hand" "has_act" cE 2 (aH 0) (aC (am (aa 2)) bx))))) [R (.rf 0),-(nd k),-(mD a)] Z=.ok (!o) y:=λo e=>by rw[e]at h;show kT (bz (by ext:0)) (tX (bS (cP j (by left) W (aF (ai (aG W)) aX) W h)))
  let(Y,J,g,rfl):=w;cases A:pe p.1.ac a with
  |true=>
   let(d,n,m):=vk (ρ:=[R (.rf 0),-(nd k),-(mD a)]) g l W W W;show#[_,j6 W (bq (d8 (f P A) eB) m),d,J,n,?_];let:qp p.1.ac a=[]:=by
    ext a<;>first|ext q|skip
    show(if pe p.1.ac _=P then _ else _)=_;rw[av A]
   ext iX;rw[this,UZ]
  |false=>
   ext a<;>first|ext q|skip
   rename_i c;let(d,n,m):=vk (ρ:=[R (.rf 0),-(nd k),-(mD (.Vd c))]) (sn:=p.2++[(c,P)]) g l W W W;let z:bu (mD (.Vd c)) (.int 1)=-(.str (og c)):=jX;show#[_,j6 W (bq (fR (f Uu A) (ka (Eg t W (ai (show _=Res.ok (PV.fz (.tuple [.str (og c),.str "down"]),_) by ext:0))))) m),d,J,n,?_];let:qp p.1.ac (.Vd c)=[(c,P)]:=by show(if pe p.1.ac _=P then _ else _)=_;rw[ax (by rw[A];simp)]
   ext iX;rw[this]
end
end STP
namespace STP
open PySem L2 L3 L10
def VA(a:Int):Mn->Prop
 |.Vd c=>c<26
 |.XM n=>1<=n/\n<a
 |.none=>True
 |_=>False
def VA.lb(h:VA nL m):LB m:=by
 cases m with
 |Vd c=>show h
 |tap c n=>show h.elim
 |_=>trivial
structure SA(b:Bd)(s:Xm):Prop where
 ac:∀k a,s.ac k=R a->(k:Int)<b.n/\VA b.ls.length a
 oc:∀o,s.oc=R o->1<=o/\o<b.ls.length
structure WV(b:Bd)(ac:Ac)(ks:G Nat)(g:Int)(w:cv (Nat×Int)):Prop where
 ne:ks≠[]
 nd:ks.Nodup
 kn:∀k∈ks,(k:Int)<b.n
 kf:∀k∈ks,ac k=L
 g0:0<=g
 tp:∀c n,w=R (c,n)->c<26/\(1<=n/\n<b.ls.length)/\ks.length=1
 ch:w=L->∀k∈ks,QP (b.ls.headD []) k=P
structure SW(b:Bd)(s:Xm):Prop where
 sa:SA b s
 wt:∀ks g w,s.wt=R (ks,g,w)->WV b s.ac ks g w/\g<b.wt
def Cg{c:G Nat}(hd:c.Nodup)(h:∀k∈c,k<n):c.length<=n:=by rw[<-KG c];let b:=(uj c).nodup_iff.mpr hd;show Ml (((BT c).and b).imp λh=>by ext) λk a=>h k ((uj c).mem_iff.mp a)
section
variable{b:Bd}(Z:VB b){s:Xm}{p:Xm×Sn}{X:cn Nat}{g:Int}{w:cv (Nat×Int)}{U:Ac}{k:Nat}{a:Mn}
include Z
theorem WV.len(h:WV b U X g w):X.length<=5:=Cg h.nd λk d=>by let:=h.kn k d;let:=Z.n5;ext
omit Z in
theorem WV.ajl(h:WV b U X g w):1<=X.length:=List.length_pos_iff.mpr h.ne
theorem SA.ak(h:SA b s):AK s.ac:=λk a e=>by let:=h.ac k a e;let:=Z.n5;show#[by ext,(h.ac k a e).2.lb]
omit Z in
theorem SA.cm(h:SA b p.1)(d:(k:Int)<b.n)(ha:VA b.ls.length a):SA b (iX p k a).1:=by
 refine⟨λj x e=>?_,h.oc⟩;by_cases z:j=k
 .subst z;have f:cL a=cL x:=(gH (ac:=p.1.ac) (k:=j) (o:=cL a)).symm.trans e;cases f;exact⟨d,ha⟩
 .exact h.ac j x ((ja z).symm.trans e)
omit Z in
theorem SA.gg(h:SA b p.1):SA b (go p k).1:=by
 unfold go;split
 .refine⟨λj x e=>?_,h.oc⟩
  by_cases z:j=k
  .subst z;exact bg ((gH (ac:=p.1.ac) (k:=j) (o:=CL)).symm.trans e) (by simp)
  .exact h.ac j x ((ja z).symm.trans e)
 .exact h
omit Z in
theorem u7:(iX p k a).2.length<=p.2.length+1:=by
 show(p.2++qp p.1.ac a).length<=_;rw[UB];have:(qp p.1.ac a).length<=1:=by
  cases a with
  |Vd c=>show(if _ then _ else _:Sn).length<=1;split<;>simp
  |_=>simp[qp]
 ext
omit Z in
theorem E4(d:cn (Nat×Mn)):∀p:Xm×Sn,(mV p d).2.length<=p.2.length+d.length:=by
 induction d with
 |nil=>exact λp=>Uy _
 |cons q r e=>intro p;have h:=e (iX p q.1 q.2);have f:=u7 (p:=p) (k:=q.1) (a:=q.2);show(mV (iX p q.1 q.2) r).2.length<=_;rw[UL];ext
omit Z in
theorem SA.cms(d:cn (Nat×Mn)):∀{p:Xm×Sn},SA b p.1->(∀q∈d,(q.1:Int)<b.n/\VA b.ls.length q.2)->SA b (mV p d).1/\(mV p d).1.wt=p.1.wt/\(mV p d).1.oc=p.1.oc:=by
 induction d with
 |nil=>exact λh _=>⟨h,rfl,rfl⟩
 |cons q r i=>intro p h e;have f:=e q UA;exact i (h.cm f.1 f.2) λx j=>e x (UC _ j)
def PR(h:QP (b.ls.headD []) k=P):∃c,vV b 0 k=.Vd c:=by
 let f:=Z.l1;obtain⟨d,r,e⟩:∃d r,b.ls=d::r:=by
  cases q:b.ls with
  |nil=>rw[q]at f;ext f
  |cons l r=>show#[l,r,W]
 unfold QP at h;ext vV;rw[e]at h⊢;rw[acD,aa4];rw[List.headD_cons]at h;cases q:d[k]? with
 |none=>rw[q]at h;ext h
 |some m=>
  rw[q]at h;cases m with
  |Vd c=>show#[c,W]
  |_=>ext h
def Me(d:(k:Int)<b.n)(h:QP (b.ls.headD []) k=P):VA b.ls.length (vV b 0 k):=by let f:=Z.l1;let(c,e):=PR Z h;let:=Cn Z (L:=0) () d;rw[e]at this⊢;show this
def PU(h:WV b U X g L):∀m∈QX b X,VA b.ls.length m:=by
 intro m hm;unfold QX at hm;split at hm
 .rename_i c e
  rcases UJ.mp hm with rfl|hm
  .show(Z.vc c (YN e)).2.2.2
  .rw[(List.mem_replicate.mp hm).2];trivial
 .let(j,d,rfl):=U7.mp hm;show Me Z (h.kn j d) (h.ch W j d)
def CH(h:WV b U X g w):∀q∈X.zip (jd b X w),(q.1:Int)<b.n/\VA b.ls.length q.2:=by
 intro q e;let d:=X6 e;show#[h.kn _ d.1,?_];cases w with
 |none=>show PU Z h _ d.2
 |some f=>let(c,n):=f;rw[UH.mp d.2];show(h.tp c n W).2.1
def WD(b:Bd)(s:Xm):Prop:=∀X g w,s.wt=R (X,g,w)->WV b s.ac X g w
def nu(h:SA b p.1)(f:WD b p.1):SW b (fW b p).1/\(fW b p).1.wt=L/\(fW b p).2.length<=p.2.length+5/\(fW b p).1.oc=p.1.oc:=by
 ext fW;split
 .rename_i q;show#[#[h,λX g w e=>by rw[q]at e;ext e],q,afd _ _,W]
 .rename_i X g w q
  let v:=f X g w q;let(j,d,i):=SA.cms (X.zip (jd b X w)) (p:=({p.1 with wt:=L},p.2)) #[h.ac,h.oc] (CH Z v);show#[#[j,λ_ _ _ e=>?_],d,?_,i]
  .rw[d]at e;ext e
  .let:=E4 (X.zip (jd b X w)) ({p.1 with wt:=L},p.2);let l:=v.len Z;rw[afe]at this;let:(mV ({p.1 with wt:=L},p.2) (X.zip (jd b X w))).2.length<=p.2.length+min X.length (jd b X w).length:=this;ext
omit Z in
theorem Du:∀(l:cn Int) (m:cv Int),l.foldl on m=m\/∃x∈l,l.foldl on m=cL x
 |[],m=>.inl rfl
 |x::r,m=>by
  rw[ZD];rcases Du r (on m x)with h|⟨y,hy,h⟩
  .rw[h]
   cases m with
   |none=>exact .inr ⟨x,UA,rfl⟩
   |some z=>
    show cL (if x>z then x else z)=cL z\/_;split
    .exact .inr ⟨x,UA,by show cL (if x>z then x else z)=_;rename_i q;rw[av q]⟩
    .exact .inl rfl
  .exact .inr ⟨y,UC _ hy,h⟩
omit Z in
theorem CT:∀(l:cn Int) (m:cv Int),(∀x∈l,∃y,l.foldl on m=cL y/\x<=y)/\∀z,m=cL z->∃y,l.foldl on m=cL y/\z<=y
 |[],m=>⟨λx f=>(by cases f),λz h=>⟨z,h,Y0 _⟩⟩
 |x::r,m=>by
  rw[ZD];obtain⟨o,n⟩:=CT r (on m x);have j:∃z,on m x=cL z/\x<=z/\∀u,m=cL u->u<=z:=by
   cases m with
   |none=>exact⟨x,rfl,Y0 _,λu h=>by cases h⟩
   |some u=>
    refine⟨if x>u then x else u,rfl,?_,λv h=>?_⟩
    .split<;>ext
    .cases h;split<;>ext
  obtain⟨z,t,B,q⟩:=j;obtain⟨y,e,A⟩:=n z t;refine⟨λv d=>?_,λu i=>⟨y,e,by have:=q u i;ext⟩⟩;rcases UJ.mp d with rfl|d
  .exact⟨y,e,by ext⟩
  .exact o v d
omit Z in
theorem D9{U:Ac}{n:Int}:n∈(j4 U).filterMap N3↔∃k,k<5/\U k=cL (.XM n):=by
 rw[WE];constructor
 .rintro⟨⟨k,m⟩,e,d⟩
  have f:=lF.mp e;cases m with
  |XM x=>have:x=n:=UU d;subst this;exact⟨k,f.1,f.2⟩
  |_=>cases d
 .rintro⟨k,e,d⟩;exact⟨(k,.XM n),lF.mpr ⟨e,d⟩,rfl⟩
def L7(h:SA b s):0<=we s.ac/\we s.ac<b.ls.length/\(∀k n,s.ac k=R (.XM n)->n<=we s.ac)/\(we s.ac=0\/∃k,s.ac k=R (.XM (we s.ac))):=by
 let l:=Z.l1;let o:=Z.n5;ext we;generalize hm:((j4 s.ac).filterMap N3).foldl on L=m;let i:=(CT ((j4 s.ac).filterMap N3) L).1;let d:=Du ((j4 s.ac).filterMap N3) L;rw[hm]at i d;let up:∀k n,s.ac k=R (.XM n)->∃y,m=R y/\n<=y:=λk n e=>i n (D9.mpr #[k,by let:=(h.ac k _ e).1;ext,e]);cases m with
 |none=>show#[Y0 _,by show(0:Int)<_;ext,λk n e=>?_,.inl W];let(y,f,_):=up k n e;ext f
 |some x=>
  rcases d with d|⟨y,q,d⟩
  .ext d
  .ext d;let(k,_,e):=D9.mp q;let:=(h.ac k _ e).2;let:1<=x/\x<b.ls.length:=this;show#[by show 0<=x;ext,by show x<_;ext,λk n e=>?_,.inr #[k,e]];let(y,f,j):=up k n e;ext f;show j
def Hk(h:SA b s):0<=tP s.ac s.oc/\tP s.ac s.oc<b.ls.length:=by
 cases q:s.oc with
 |none=>let:=L7 Z h;show#[this.1,this.2.1]
 |some o=>let:=h.oc o q;show#[by show 0<=o;ext,this.2]
end
section
variable{b:Bd}{s:Xm}{U:Sn}{Y:cn (Nat×Mn)}{J:bC}{X:b3}{i:Nat}{Z:bC}{p:Xm×Sn}{k:Nat}{a:Mn}
def Bt(h:f x=R y):bc f [x]=R [y]:=by ext bc;rw[h];rfl
def qA:(l++[c]).set l.length o=l++[o]:=by simp
def sg(e:HS b p Z):∃c,ck [.rf 0] Z=.ok (.fz (ix p.1)) c/\HS b p c:=by
 let(Y,J,d,rfl):=e;let g:=IC d;let h:kX (wO (bU "Hand" "acts" (aH 0))) [R (.rf 0)] (gj b p.1 p.2 Y J)=.ok ((j4 p.1.ac).map λq=>nd q.1) (gj b p.1 p.2 Y (J++[.dead])):=by
  show(xA (ds:=(j4 p.1.ac).map λq=>nd q.1) (Ly (jB W) W (J3 d) (by rw[Ur];ext)) ?_).trans ?_
  .rw[IV d];show bh.trans ?_;rw[Vq,Vq];rfl
  .rw[qA];rfl
 let j:fw (gb 0) mY (r8 (aC (am (aa 0)) (aC (wJ (bU "Hand" "acts" (aH 1)) (am (aa 0))) bx))) ((j4 p.1.ac).map λq=>nd q.1) [L,R (.rf 0)] (gj b p.1 p.2 Y (J++[.dead])) []=.ok (((j4 p.1.ac).map pD).map .fz) (gj b p.1 p.2 Y (J++[.dead])):=by show(rF (λq:Nat×Mn=>nd q.1) (λq=>.fz (pD q)) _ (λX=>∃o,X=[o,R (.rf 0)]) (j4 p.1.ac) _ [] #[L,W] (by let:=yJ p.1.ac;rw[W5];ext) ?_).trans (by rw[Vq];rfl);rintro q f X ⟨o,rfl⟩;let hm:=lF.mp f;show#[[-(nd q.1),R (.rf 0)],W,W,?_,_,W];show yg (aF (ai (aG W)) (aF (MC (jB W) (ai (aG W)) W W (by rw[qh d hm.1,hm.2];rfl)) aX)) (UT W)
 let tp:Kf pU (aC (l8 1 [0] (kX (wO (bU "Hand" "acts" (aH 0)))) (gb 0) mY (r8 (aC (am (aa 0)) (aC (wJ (bU "Hand" "acts" (aH 1)) (am (aa 0))) bx)))) bx) [R (.rf 0)] (gj b p.1 p.2 Y J)=.ok (.fz (.tuple ((j4 p.1.ac).map pD))) (gj b p.1 p.2 Y (J++[.dead]++[.lst (((j4 p.1.ac).map pD).map .fz)])):=
  Nc (aF (tY h j) aX) (Bt (iE bh)) W
 show#[_,gc W (eu (yg (aF tp (aF (cK W) (aF (Ea W) aX))) (UT W))),Y,_,d,W]
def F7(f:HS b p Z):cV [.rf 0,.fz (nd k)] Z=.ok (.fz (.bool (Jo p.1.wt k))) Z:=by
 let(Y,J,j,rfl):=f;show gc W (eu ?_);cases q:p.1.wt with
 |none=>
  let d:oh (mI p.1.wt) .none=-(.bool Uu):=by rw[q];rfl
  show Fg (bS (dY (cK W) (ai bE) (de d)))
 |some x=>
  let(e,g,w):=x;let d:oh (mI p.1.wt) .none=-(.bool P):=by rw[q];rfl
  let h:bu (mI p.1.wt) (.int 0)=-(.tuple (bX e)):=by rw[q];show jK
  show EU (bS (dY (cK W) (ai bE) (de d))) (dY (ai (aG W)) (eN (cK W) (ai bE) h) (de (yI _ _)))
def Rm(E:HS b p Z)(o:AK p.1.ac)(Q:p.1.ac k=R a)(F:p.2.length<1000):∃D,k8 [.rf 0,.fz (nd k)] Z=.ok (.fz .none) D/\HS b (go p k) D:=by
 let(Y,J,A,rfl):=E;let G:=(o k a Q).1;let lb:=(o k a Q).2;let(f,d1,v):=GY A
 let m:AD (bU "Hand" "acts" (aH 0)) (am (aa 1)) [R (.rf 0),-(nd k),CL] (gj b p.1 p.2 Y J)=.ok (.fz (mD a)) (gj b {p.1 with ac:=mi p.1.ac k CL} p.2 f J):=
  (LR (jB W) W (ai (aG W)) W W (by rw[qh A G,Q];rfl)).trans (by rw[d1];rfl)
 let H:go p k=({p.1 with ac:=mi p.1.ac k CL},p.2++Mb (mi p.1.ac k CL) a):=by ext go;rw[Q]
 rw[H];let n:AK (mi p.1.ac k CL):=λj x e=>by
  by_cases z:j=k
  .subst z;rw[gH]at e;ext e
  .rw[ja z]at e;show o j x e
 let e0:=AR a;let M:=rM a;let h:au (aE cB (aE bu (aa 2) (~~~0)) (pC (.str "letter"))) (cZ [R (.rf 0),-(nd k),-(mD a)])=.ok (a.isL,cZ [R (.rf 0),-(nd k),-(mD a)]):=by ext:0
 let u:Yq (cT (pP (cC (au (aE cB (aE bu (aa 2) (~~~0)) (pC (.str "letter"))))) (vW (b5 (a9 "Hand" "has_act" cE 2 (aH 0) (aC (am (aa 2)) bx))))) (dj (AZ (bU "Hand" "sent" (aH 0)) (am (dA {aE bu (aa 2) (~~~1),pC (.str "up")})))) cQ [R (.rf 0),-(nd k),-(mD a)] (gj b {p.1 with ac:=mi p.1.ac k CL} p.2 f J)) (λ_ D=>SV.fz .none=.fz .none/\HS b ({p.1 with ac:=mi p.1.ac k CL},p.2++Mb (mi p.1.ac k CL) a) D) (λ_ _=>False) (λr D=>r=.fz .none/\HS b ({p.1 with ac:=mi p.1.ac k CL},p.2++Mb (mi p.1.ac k CL) a) D):=by
  cases q:a.isL with
  |false=>
   rw[q]at h;show gh (jC (bz h)) (nI #[W,f,J,v,?_]);let:Mb (mi p.1.ac k CL) a=[]:=by ext a<;>first|rfl|ext q
   rw[this,UZ]
  |true=>
   rw[q]at h;let(B,t,K):=HI (p:=({p.1 with ac:=mi p.1.ac k CL},p.2)) #[f,J,v,W] n lb;let g:∀l,pe (mi p.1.ac k CL) a=l->(pP (cC (au (aE cB (aE bu (aa 2) (~~~0)) (pC (.str "letter"))))) (vW (b5 (a9 "Hand" "has_act" cE 2 (aH 0) (aC (am (aa 2)) bx))))) [R (.rf 0),-(nd k),-(mD a)] (gj b {p.1 with ac:=mi p.1.ac k CL} p.2 f J)=.ok (!l) B:=λl e=>by
    let t:cE [.rf 0,.fz (mD a)] (gj b {p.1 with ac:=mi p.1.ac k CL} p.2 f J)=.ok (.fz (.bool l)) B:=by rw[<-e];show t
    show kT (bz h) (tX (bS (cP (p:=({p.1 with ac:=mi p.1.ac k CL},p.2)) #[f,J,v,W] (by left) W (aF (ai (aG W)) aX) W t)))
   let(w,C,y,I):=K;rw[I]at g;cases N:pe (mi p.1.ac k CL) a with
   |true=>
    show gh (g P N) (nI #[W,w,C,y,?_]);let:Mb (mi p.1.ac k CL) a=[]:=by
     ext a<;>first|ext q|skip
     show(if pe (mi p.1.ac k CL) _=P then _ else _)=_;rw[av N]
    rw[this,UZ]
   |false=>
    ext a<;>first|ext q|skip
    rename_i c;let L:bu (mD (.Vd c)) (.int 1)=-(.str (og c)):=jX;show vB (g Uu N) (kl (Eg (d:=Uu) F W (ai (show _=Res.ok (PV.fz (.tuple [.str (og c),.str "up"]),_) by ext:0))) #[W,w,C,y,?_]);let:Mb (mi p.1.ac k CL) (.Vd c)=[(c,Uu)]:=by show(if pe (mi p.1.ac k CL) _=P then _ else _)=_;rw[ax (by rw[N];simp)]
    rw[this]
 show kr W (lX m W u)
end
section
variable{b:Bd}(X:VB b){s:Xm}{S:Sn}{Y:cn (Nat×Mn)}{J:bC}{T:b3}{i:Nat}{Z:bC}{p:Xm×Sn}{k:Nat}{a:Mn}{U:cn Nat}{g:Int}{w:cv (Nat×Int)}
theorem JA:∀(U:G Nat) (as:G Mn),pp (bX U) (as.map mD)=(U.zip as).map pD
 |[],_=>by cases ‹G Mn›<;>rfl
 |_::_,[]=>rfl
 |k::r,a::t=>by show Ut.tuple [nd k,mD a]::pp (bX r) (t.map mD)=_;rw[JA r t];rfl
def CF(h:∀c n,w=R (c,n)->c<26):cB (yW w) (.tuple [.str "chord"])=-(.bool w.isNone)/\n6 (yW w) (.tuple [.str "chord"])=-(.bool w.isSome):=by
 cases w with
 |none=>
  let j:oH (.tuple [.str "chord"])=P:=by left
  let f:Ut.canLay0 (.tuple [.str "chord"])=P:=by left
  let d:Ut.eqv (.tuple [.str "chord"]) (.tuple [.str "chord"])=P:=by left
  constructor
  .show(if(oH (.tuple [.str "chord"])&&Ut.canLay0 (.tuple [.str "chord"]))=P then R (RV.fz (.bool (Ut.eqv (.tuple [.str "chord"]) (.tuple [.str "chord"]))))else L)=_;rw[j,f,d];rfl
  .show(if(oH (.tuple [.str "chord"])&&Ut.canLay0 (.tuple [.str "chord"]))=P then R (RV.fz (.bool (!Ut.eqv (.tuple [.str "chord"]) (.tuple [.str "chord"]))))else L)=_;rw[j,f,d];rfl
 |some l=>
  let(c,n):=l;let lb:LB (.tap c n):=h c n W;let e:Ut.eqv (mD (.tap c n)) (.tuple [.str "chord"])=Uu:=by show(decide (("tap":Str)= "chord")&&Ut.eqvAll [.str (og c),.int n] [])=Uu;rw[show decide (("tap":Str)= "chord")=Uu by left];rfl
  constructor
  .show(if(oH (mD (.tap c n))&&Ut.canLay0 (.tuple [.str "chord"]))=P then R (RV.fz (.bool (Ut.eqv (mD (.tap c n)) (.tuple [.str "chord"]))))else L)=_;rw[Jh lb,show Ut.canLay0 (.tuple [.str "chord"])=P by left,e];rfl
  .show(if(oH (mD (.tap c n))&&Ut.canLay0 (.tuple [.str "chord"]))=P then R (RV.fz (.bool (!Ut.eqv (mD (.tap c n)) (.tuple [.str "chord"]))))else L)=_;rw[Jh lb,show Ut.canLay0 (.tuple [.str "chord"])=P by left,e];rfl
theorem Az(U:G Nat)(w:cv (Nat×Int))(as:G Mn):∀(d:G (Nat×Mn)) (p:Xm×Sn) (Z:bC) (l h:cv SV),HS b p Z->AK p.1.ac->(∀q∈d,q.1<5/\LB q.2)->p.2.length+d.length<1000->
  ∃c D,mG (Nz 2 (oQ (gb 4) (oQ (gb 5) z8))) (dj (a9 "Hand" "come" b9 3 (aH 0) (aC (am (aa 4)) (aC (am (aa 5)) bx)))) (d.map pD) [R (.rf 0),-(.tuple (bX U)),-(yW w),-(.list (as.map mD)),l,h] Z=.ok (.nx c) D/\HS b (mV p d) D
 |[],p,Z,l,h,C,_,_,_=>#[_,Z,W,C]
 |q::r,p,Z,l,h,C,N,I,Q=>by
  rw[UL]at Q;let f:=I q UA;let(n,v,A):=tR C N f.2 f.1 ();let m:AK (iX p q.1 q.2).1.ac:=λj x e=>by
   by_cases z:j=q.1
   .let y:R q.2=R x:=by rw[z]at e;show(gH).symm.trans e
    ext y;show#[by rw[z];show f.1,f.2]
   .show N j x ((ja z).symm.trans e)
  let:=u7 (p:=p) (k:=q.1) (a:=q.2);let(c,D,u,B):=Az U w as r (iX p q.1 q.2) n (-(nd q.1)) (-(mD q.2)) A m (λx t=>I x (UC _ t)) ();show#[c,D,?_,B]
  let o:dj (a9 "Hand" "come" b9 3 (aH 0) (aC (am (aa 4)) (aC (am (aa 5)) bx))) [R (.rf 0),-(.tuple (bX U)),-(yW w),-(.list (as.map mD)),-(nd q.1),-(mD q.2)] Z=.ok (.nx [R (.rf 0),-(.tuple (bX U)),-(yW w),-(.list (as.map mD)),-(nd q.1),-(mD q.2)]) n:=
   ka (cP C (by left) W (aF (ai (aG W)) (aF (ai (aG W)) aX)) W v)
  show((dj (a9 "Hand" "come" b9 3 (aH 0) (aC (am (aa 4)) (aC (am (aa 5)) bx))) [R (.rf 0),-(.tuple (bX U)),-(yW w),-(.list (as.map mD)),-(nd q.1),-(mD q.2)] Z).bind _)=_;rw[o,ek];show u
include X
def nO(t:HS b p Z)(m:SA b p.1)(e:p.1.wt=R (U,g,w))(v:WV b p.1.ac U g w)(I:p.2.length<900):∃x,cO [.rf 0] Z=.ok (.fz .none) x/\HS b (fW b p) x:=by
 let(Y,J,y,rfl):=t;let e0:bu (mI p.1.wt) (.int 0)=-(.tuple (bX U)):=by rw[e];show jK
 let E:bu (mI p.1.wt) (.int 2)=-(yW w):=by rw[e];show sZ
 let o:=v.len X;let r:=v.ajl;let C:=CF λc n h=>(v.tp c n h).1;let B:fW b p=mV ({p.1 with wt:=L},p.2) (U.zip (jd b U w)):=by ext fW;rw[e]
 rw[B];let l:au (aE cB (aa 2) (pC (.tuple [.str "chord"]))) (cZ [R (.rf 0),-(.tuple (bX U)),-(yW w),L,L,L])=.ok (w.isNone,cZ [R (.rf 0),-(.tuple (bX U)),-(yW w),L,L,L]):=jw (b8 (aG W) bE W W C.1) W;let j:qD (OL (cC (au (aE cB (aa 2) (pC (.tuple [(.str "chord")]))))) (i4 im 2 (aC (bU "Hand" "bed" (aH 0)) (aC (am (aa 1)) bx))) (am (dF {dA {pC (.str "layer"),aE bu (aa 2) (~~~2)}}))) [R (.rf 0),-(.tuple (bX U)),-(yW w),L,L,L] (gj b {p.1 with wt:=L} p.2 Y J)=.ok (.fz (.list ((jd b U w).map mD))) (gj b {p.1 with wt:=L} p.2 Y (J++[.dead])):=by
  cases w with
  |none=>let G:=P7 X r o v.kn;show(yZ (Mi (bz l) (tT (aF (rK W) (aF (ai (aG W)) aX)) W G)) (tE bh)).trans (by rw[qA];rfl)
  |some F=>let(c,n):=F;let H:bu (yW (R (c,n))) (.int 2)=-(.int n):=sZ;show(yZ (Lh (bz l) (ff (show _=Res.ok (PV.ow [.tuple [.str "layer",.int n]],_) by ext:0))) (tE bh)).trans (by rw[qA];rfl)
 let lp:∃d x,wf (ma (FU {aa 1,aa 3})) (Nz 2 (oQ (gb 4) (oQ (gb 5) z8))) (dj (a9 "Hand" "come" b9 3 (aH 0) (aC (am (aa 4)) (aC (am (aa 5)) bx)))) [R (.rf 0),-(.tuple (bX U)),-(yW w),-(.list ((jd b U w).map mD)),L,L] (gj b {p.1 with wt:=L} p.2 Y (J++[.dead]))=.ok (.nx d) x/\HS b (mV ({p.1 with wt:=L},p.2) (U.zip (jd b U w))) x:=by
  let K:=X.n5;let(d,x,A,z):=Az U w (jd b U w) (U.zip (jd b U w)) ({p.1 with wt:=L},p.2) (gj b {p.1 with wt:=L} p.2 Y (J++[.dead])) L L #[Y,_,y,W] (SA.ak X #[m.ac,m.oc]) (λq u=>by
   let:=CH X v q u;show#[by ext,this.2.lb]) (by
   rw[afe];show p.2.length+_<1000;ext)
  show#[d,x,?_,z];ext wf;rw[na (Dl (a8 (aG W) (a8 (aG W) b4)) W W W),ek,JA];show A
 let(d,x,lp,f):=lp;show#[x,j6 (ρ1:=d) W ?_,f];show bq (fL (eN (cK W) (ai bE) e0) W) (bq (fL (eN (cK W) (ai bE) E) W) (bq (oa L W (ai bE)) (bq (fL j W) lp)))
omit X in
theorem KZ{c:cn Nat×Nat}(h:c.2<26):Ut.canLay0 (jU c)=Uq:=by show(Ut.canLayAll0 (bX c.1)&&(Ut.strOk (og c.2)&&Uq))=Uq;rw[lG,BE h];rfl
omit X in
theorem P9:∀{cs:cn (cn Nat×Nat)},(∀c∈cs,c.2<26)->n6 (.list (cs.map jU)) (.list [])=-(.bool (!cs.isEmpty)):=by
 intro cs h;have f:∀cs:cn (cn Nat×Nat),(∀c∈cs,c.2<26)->Ut.canLayAll0 (cs.map jU)=Uq:=by
  intro cs
  induction cs with
  |nil=>exact λ_=>rfl
  |cons c r d=>intro h;show(Ut.canLay0 (jU c)&&Ut.canLayAll0 (r.map jU))=Uq;rw[KZ (h c UA),d λx j=>h x (UC _ j)];rfl
 have e:∀cs:cn (cn Nat×Nat),Ut.depthAll (cs.map jU)<=2:=by
  intro cs
  induction cs with
  |nil=>exact V0 _
  |cons c r d=>show max (Ut.depth (jU c)) (Ut.depthAll (r.map jU))<=2;refine Nat.max_le.mpr ⟨?_,d⟩;show max (Ut.depthAll (bX c.1)+1) (max 0 0)+1<=2;rw[zj];decide
 show(if((Ut.canLayAll0 (cs.map jU)&&decide (Ut.depthAll (cs.map jU)+1<=64))&&Uq)=Uq then cL (RV.fz (.bool (!Ut.eqvAll (cs.map jU) [])))else CL)=_;rw[f cs h,aP (show Ut.depthAll (cs.map jU)+1<=64 by have:=e cs;ext)];cases cs<;>rfl
theorem LL(h:c∈iq b U):c.2<26:=(X.vc c (Ve.mp h).1).2.2.2
omit X in
theorem C8(h:U≠[])(d:U.length<=5):eE (.tuple (bX U)) (.tuple [nd k])=-(.tuple (bX (U++[k]))):=by
 show(if bX U≠[]/\(bX U).length+1<=1000000 then cL (RV.fz (.tuple (bX U++[nd k])))else CL)=_;rw[av ⟨by cases U with
  |nil=>exact bg rfl h
  |cons x r=>simp[bX],by rw[jZ];ext⟩,Ks]
 rfl
def Ej{l:gq}{Z1:bC}(d:∃Y J,Z1=gj b s S Y J)(j:T[0]?=R (R (.rf 0)))(e:U.length<=5)(f:l T Z1=.ok (.fz (.tuple (bX U))) Z1):j3 n6 (i4 cr 2 (aC (bU "Hand" "bed" (aH 0)) (aC l bx))) (am (dF aq)) T Z1=.ok (.fz (.bool (!(iq b U).isEmpty))) (Z1++[.lst (((iq b U).map jU).map .fz)]++[.lst []]):=by let(Y,J,rfl):=d;show dY (tT (ds:=[bD b,.tuple (bX U)]) (aF (rK j) (aF f aX)) W (DQ X e)) (ff (ds:=[]) (ρ':=cZ T) (yG b4 W (V0 _))) ?_;show yt (iE (i8 bh)) (iE (ds:=[]) bh) (P9 λc h=>LL X h)
def P8(j:HS b p Z)(E:SW b p.1)(L:(k:Int)<b.n)(D:Jo p.1.wt k=Uu):∃Q,fK [.rf 0,.fz (nd k)] Z=.ok (.fz (.bool (HR b p.1 k))) Q/\HS b p Q:=by
 cases q:p.1.wt with
 |none=>
  let l:HR b p.1 k=Uu:=by ext HR;rw[q]
  rw[l];let(Y,J,f,rfl):=j;let m:rp (mI p.1.wt) .none=-(.bool P):=by rw[q];rfl
  show#[_,gc W (gn (fR (pS (bS (dY (cK W) (ai bE) (de m)))) (eu (ai bE)))),Y,J,f,W]
 |some x=>
  let(U,g,w):=x;let v:=(E.wt U g w q).1;let F:=v.len X;let m:rp (mI p.1.wt) .none=-(.bool Uu):=by rw[q];rfl
  let B:bu (mI p.1.wt) (.int 2)=-(yW w):=by rw[q];show sZ
  let e0:bu (mI p.1.wt) (.int 0)=-(.tuple (bX U)):=by rw[q];show jK
  let A:=(CF λc n h=>(v.tp c n h).1).2;cases w with
  |some N=>
   let l:HR b p.1 k=Uu:=by ext HR;rw[q]
   rw[l];let(Y,J,f,rfl):=j;show#[_,gc W (gn (fR (nG (bS (dY (cK W) (ai bE) (de m))) (pS (bS (dY (eN (cK W) (ai bE) B) (ai bE) (de A))))) (eu (ai bE)))),Y,J,f,W]
  |none=>
   let l:HR b p.1 k=(decide (tP p.1.ac p.1.oc=0)&& !(iq b (U++[k])).isEmpty):=by ext HR;rw[q]
   rw[l];let(u,I,C):=sg j;let d:(EJ (b5 (j3 rp (bU "Hand" "waiting" (aH 0)) (am (pC .none)))) (EJ (b5 (j3 n6 (kH (bU "Hand" "waiting" (aH 0)) (am (~~~2))) (am (pC (.tuple [(.str "chord")]))))) (b5 (j3 n6 (i4 fE 1 (aC (a9 "Hand" "stands" ck 1 (aH 0) bx) bx)) (am (~~~0)))))) [R (.rf 0),-(nd k)] Z=.ok (!decide (tP p.1.ac p.1.oc=0)) u:=by
    let K:b5 (j3 n6 (i4 fE 1 (aC (a9 "Hand" "stands" ck 1 (aH 0) bx) bx)) (am (~~~0))) [R (.rf 0),-(nd k)] Z=.ok (!decide (tP p.1.ac p.1.oc=0)) u:=
     bS (dY (vA (aF (cP j (by left) W aX W I) aX) W (AI p.1)) (ai bE) (de (yy _ _)))
    let(Y,J,f,rfl):=j;show nG (bS (dY (cK W) (ai bE) (de m))) (nG (bS (dY (eN (cK W) (ai bE) B) (ai bE) (de A))) K)
   by_cases z:tP p.1.ac p.1.oc=0
   .rw[aP z]at d⊢
    let(Y,J,f,rfl):=C;let t:k∉U:=by rw[q]at D;show of_decide_eq_false D
    let o:(U++[k]).Nodup:=by rw[YS];show#[v.nd,VN.mpr #[Vy,aac],λx r y G e=>t (by rw[<-UH.mp G,<-e];show r)]
    let H:(U++[k]).length<=5:=Cg o λx r=>by
     let M:=X.n5;rcases VF.mp r with h|h
     .let:=v.kn x h;ext
     .rw[UH.mp h];ext
    show#[_,gc W (bq (d8 d eB) (eu (Ej X #[Y,J,W] W H (dY (eN (cK W) (ai bE) e0) (ai (vi (a8 (aG W) b4) W (UT W))) (de (C8 v.ne F)))))),Y,_,f,W]
   .rw[a6 z]at d⊢;show#[u,gc W (gn (fR d (eu (ai bE)))),C]
end
section
variable{b:Bd}(X:VB b){s:Xm}{sn:Sn}{Y:cn (Nat×Mn)}{J:bC}{ρ:b3}{i:Nat}{Z:bC}{p:Xm×Sn}{k:Nat}{a:Mn}{ks:cn Nat}{g:Int}{w:cv (Nat×Int)}
include X
def N8(v:WV b p.1.ac ks g w)(c:k∉ks)(l:(k:Int)<b.n):(ks++[k]).Nodup/\(ks++[k]).length<=5:=by
 let d:(ks++[k]).Nodup:=by rw[YS];show#[v.nd,VN.mpr #[Vy,aac],λx f y j e=>c (by rw[<-UH.mp j,<-e];show f)]
 show#[d,Cg d λx f=>?_];let m:=X.n5;rcases VF.mp f with h|h
 .let:=v.kn x h;ext
 .rw[UH.mp h];ext
def Gf(m:SW b p.1)(l:(k:Int)<b.n)(C:p.1.ac k=L)(B:Jo p.1.wt k=Uu)(hm:HR b p.1 k=P):∃ks g,p.1.wt=R (ks,g,L)/\k∉ks/\WV b p.1.ac (ks++[k]) g L/\g<b.wt:=by
 unfold HR at hm;split at hm
 .rename_i ks g q
  rw[UO]at hm;let(v,o):=m.wt ks g L q;let e:k∉ks:=by rw[q]at B;show of_decide_eq_false B
  let(j,z):=N8 X v e l;show#[ks,g,q,e,#[by simp,j,λx d=>?_,λx d=>?_,v.g0,λc n h=>(by ext h),λ_ x d=>?_],o]
  .rcases VF.mp d with h|h
   .show v.kn x h
   .rw[UH.mp h];show l
  .rcases VF.mp d with h|h
   .show v.kf x h
   .rw[UH.mp h];show C
  .let f:=hm.2
   cases A:iq b (ks++[k])with
   |nil=>rw[A]at f;ext f
   |cons c r=>
    let t:c∈iq b (ks++[k]):=by rw[A];show UA
    let(y,u):=Ve.mp t;let:=WW.mp u x d;show(X.vc c y).2.2.1 x (a7 this)
 .ext hm
def MA(r:HS b p Z)(j:SW b p.1)(f:p.1.wt=R (ks,g,L))(v:WV b p.1.ac (ks++[k]) g L)(h:WV b p.1.ac ks g L)(t:p.2.length<900):∃x,eO [.rf 0,.fz (nd k)] Z=.ok (.fz .none) x/\HS b (Ax b p k) x:=by
 let(Y,J,l,rfl):=r;let m:=v.len X;let e0:bu (mI p.1.wt) (.int 0)=-(.tuple (bX ks)):=by rw[f];show jK
 let B:bu (mI p.1.wt) (.int 1)=-(.int g):=by rw[f];show jX
 let A:Ax b p k=if(iq b (ks++[k])).map (·.1.length)=[(ks++[k]).length]then fW b ({p.1 with wt:=R (ks++[k],g,L)},p.2)else({p.1 with wt:=R (ks++[k],g,L)},p.2):=by ext Ax;rw[f]
 let F:HS b ({p.1 with wt:=R (ks++[k],g,L)},p.2) (gj b {p.1 with wt:=R (ks++[k],g,L)} p.2 Y J):=#[Y,J,l,W];let C:fw (gb 0) mY (am (ez gz {aE bu (aa 0) (~~~0)})) ((iq b (ks++[k])).map jU) [L] (gj b {p.1 with wt:=R (ks++[k],g,L)} p.2 Y (J++[.dead])) []=.ok ((bX ((iq b (ks++[k])).map (·.1.length))).map .fz) (gj b {p.1 with wt:=R (ks++[k],g,L)} p.2 Y (J++[.dead])):=by
  show(rF jU (λc=>.fz (nd c.1.length)) _ (λρ=>∃o,ρ=[o]) (iq b (ks++[k])) _ [] #[L,W] ?_ ?_).trans (by ext bX;rw[Vq,Vq];rfl)
  .let:=WH (λc:G Nat×Nat=>(ks++[k]).all λk=>decide (k∈c.1)) b.cs;let:=X.c4;show 0+(iq b (ks++[k])).length<=_;ext iq;ext
  .rintro c _ ρ ⟨o,rfl⟩;let n:bu (jU c) (.int 0)=-(.tuple (bX c.1)):=jK;show#[[-(jU c)],W,W,ai (jO (a8 (b8 (aG W) bE W W n) b4) W ((qZ _).trans (by rw[jZ]))),_,W]
 let z:kX (i4 cr 2 (aC (bU "Hand" "bed" (aH 0)) (aC (am (aa 2)) bx))) [R (.rf 0),-(nd k),-(.tuple (bX (ks++[k])))] (gj b {p.1 with wt:=R (ks++[k],g,L)} p.2 Y J)=.ok ((iq b (ks++[k])).map jU) (gj b {p.1 with wt:=R (ks++[k],g,L)} p.2 Y (J++[.dead])):=
  (xA (tT (aF (rK W) (aF (ai (aG W)) aX)) W (DQ X m)) bh).trans (by rw[qA];rfl)
 let rt:dF {ez gz {aa 2}} (cZ [R (.rf 0),-(nd k),-(.tuple (bX (ks++[k])))])=.ok (.ow (bX [(ks++[k]).length]),cZ [R (.rf 0),-(nd k),-(.tuple (bX (ks++[k])))]):=by show yG (a8 (jO (a8 (aG W) b4) W ((qZ _).trans (by rw[jZ]))) b4) W (UT W)
 let e:b5 (j3 cB (l8 1 [] (kX (i4 cr 2 (aC (bU "Hand" "bed" (aH 0)) (aC (am (aa 2)) bx)))) (gb 0) mY (am (ez gz {aE bu (aa 0) (~~~0)}))) (am (dF {ez gz {aa 2}}))) [R (.rf 0),-(nd k),-(.tuple (bX (ks++[k])))] (gj b {p.1 with wt:=R (ks++[k],g,L)} p.2 Y J)=.ok (decide ((iq b (ks++[k])).map (·.1.length)=[(ks++[k]).length])) (gj b {p.1 with wt:=R (ks++[k],g,L)} p.2 Y (J++[.dead])++[.lst ((bX ((iq b (ks++[k])).map (·.1.length))).map .fz)]++[.lst ((bX [(ks++[k]).length]).map .fz)]):=
  bS (dY (tY z C) (ff rt) (yt (iE (i8 bh)) (iE bh) (zb _ _)))
 let d:HS b ({p.1 with wt:=R (ks++[k],g,L)},p.2) (gj b {p.1 with wt:=R (ks++[k],g,L)} p.2 Y (J++[.dead])++[.lst ((bX ((iq b (ks++[k])).map (·.1.length))).map .fz)]++[.lst ((bX [(ks++[k]).length]).map .fz)]):=#[Y,_,l,W];generalize (gj b {p.1 with wt:=R (ks++[k],g,L)} p.2 Y (J++[.dead])++[.lst ((bX ((iq b (ks++[k])).map (·.1.length))).map .fz)]++[.lst ((bX [(ks++[k]).length]).map .fz)]:bC)=I at e d;rw[A];show kr W (lX (dY (eN (cK W) (ai bE) e0) (ai (vi (a8 (aG W) b4) W (UT W))) (de (C8 h.ne (h.len X)))) W (DB (oa (R (ks++[k],g,L)) W (yg (aF (ai (aG W)) (aF (eN (cK W) (ai bE) B) (aF (ai bE) aX))) (UT W))) (Ae e (λq=>?_) λq=>?_)))
 .rw[av (a7 q)];let(E,y,u):=nO X d #[j.sa.ac,j.sa.oc] W v t;show kl (cP d (by left) W aX W y) #[W,u]
 .rw[ax (of_decide_eq_false q)];show nI #[W,d]
def LA(d:SW b p.1)(f:p.1.wt=R (ks,g,L))(v:WV b p.1.ac (ks++[k]) g L)(h:g<b.wt):SW b (Ax b p k).1:=by
 let j:Ax b p k=if(iq b (ks++[k])).map (·.1.length)=[(ks++[k]).length]then fW b ({p.1 with wt:=R (ks++[k],g,L)},p.2)else({p.1 with wt:=R (ks++[k],g,L)},p.2):=by ext Ax;rw[f]
 rw[j];split
 .show(nu X (p:=({p.1 with wt:=R (ks++[k],g,L)},p.2)) #[d.sa.ac,d.sa.oc] λ_ _ _ e=>by ext e;show v).1
 .show#[#[d.sa.ac,d.sa.oc],λ_ _ _ e=>by ext e;show#[v,h]]
omit X in
theorem Dp(s:Xm)(m:Mn):(lL s m).ac=s.ac/\(lL s m).wt=s.wt:=by unfold lL;split<;>exact⟨rfl,rfl⟩
omit X in
theorem Dt{m:Mn}(h:SA b s):SA b (lL s m):=by
 unfold lL;split
 .exact h
 .exact⟨h.ac,λo e=>by cases e⟩
def PY(E:HS b p Z)(R:SA b p.1)(hw:p.1.wt=CL)(T:(k:Int)<b.n)(V:p.2.length<900):∃D,hZ [.rf 0,.fz (nd k)] Z=.ok (.fz .none) D/\HS b (MY b p k) D:=by
 let(P,O):=Hk X R;let K:=ME X P O T;let(u,I):=Ek X P O T;let(Z1,h1,ZO):=sg E;let h5:=X.n5;let eb:MY b p k=A0 b (tP p.1.ac p.1.oc) (lL p.1 (look b (tP p.1.ac p.1.oc) k),p.2) k (look b (tP p.1.ac p.1.oc) k):=W;rw[eb];let S:i4 fE 1 (aC (a9 "Hand" "stands" ck 1 (aH 0) bx) bx) [cL (.rf 0),-(nd k),CL,CL,CL] Z=.ok (.fz (.int (tP p.1.ac p.1.oc))) Z1:=vA (aF (cP E (by left) W aX W h1) aX) W (AI p.1);generalize tP p.1.ac p.1.oc=L at K u I S P O;generalize look b L k=m at K u I;let(Y,J,hp,rfl):=ZO;let lb:=u.lb;let c0:=AR m;let c1:=Sa m;let c2:=O8 m;let c3:=rM m;let c4:=LF m;let eL:cB (.int L) (.int 0)=-(.bool (decide (L=0))):=lC _ _;let A:(aR (cT (cC (au (aE rB (aa 4) (dA {pC (.str "layer"),pC (.str "once")})))) (fx "Hand" "once" (aH 0) (am (pC .none))) cQ) cQ) [cL (.rf 0),-(nd k),-(.int L),-(mD m),-(.str (wd m))] (gj b p.1 p.2 Y J)=.ok (.nx [cL (.rf 0),-(nd k),-(.int L),-(mD m),-(.str (wd m))]) (gj b (lL p.1 m) p.2 Y J):=by
  let t:cC (au (aE rB (aa 4) (dA {pC (.str "layer"),pC (.str "once")}))) [cL (.rf 0),-(nd k),-(.int L),-(mD m),-(.str (wd m))] (gj b p.1 p.2 Y J)=.ok (!(m.adU||m.isO)) (gj b p.1 p.2 Y J):=bz (by ext:0);ext lL;cases q:(m.adU||m.isO)with
  |true=>rw[q]at t;rw[av W];show bq (d8 t eB) eB
  |false=>rw[q]at t;rw[ax Ux];show bq (fR t (D2 CL W (ai bE))) eB
 let Q:=Dp p.1 m;let H:SA b (lL p.1 m):=Dt R;let e:Y.Perm (j4 (lL p.1 m).ac):=by rw[Q.1];show hp
 let z:HS b (lL p.1 m,p.2) (gj b (lL p.1 m) p.2 Y J):=#[Y,J,e,W];generalize lL p.1 m=s2 at A Q H e z;let N:Yq ((cT (cC (au (aE cB (aa 4) (pC (.str "tap"))))) (fx "Hand" "waiting" (aH 0) (am (dA {dA {aa 1},~~~0,aa 3}))) (cT (pP (cC (au (aE cB (aa 4) (pC (.str "letter"))))) (pP (cC (au (aE cB (aa 2) (~~~0)))) (b5 (j3 n6 (i4 cr 2 (aC (bU "Hand" "bed" (aH 0)) (aC (am (dA {aa 1})) bx))) (am (dF aq)))))) (fx "Hand" "waiting" (aH 0) (am (dA {dA {aa 1},~~~0,pC (.tuple [(.str "chord")])}))) (cT (cC (au (aE cB (aa 4) (pC (.str "once"))))) (aR (dj (a9 "Hand" "come" b9 3 (aH 0) (aC (am (aa 1)) (aC (am (pC (.tuple [(.str "none")]))) bx))))
 (fx "Hand" "once" (aH 0) (am (aE bu (aa 3) (~~~1))))) (dj (a9 "Hand" "come" b9 3 (aH 0) (aC (am (aa 1)) (aC (am (aa 3)) bx))))))) [cL (.rf 0),-(nd k),-(.int L),-(mD m),-(.str (wd m))] (gj b s2 p.2 Y J)) (λ_ D=>SV.fz .none=.fz .none/\HS b (A0 b L (s2,p.2) k m) D) (λ_ _=>False) (λr D=>r=.fz .none/\HS b (A0 b L (s2,p.2) k m) D):=by
  let y:∀{Z:bC},cC (au (aE cB (aa 4) (pC (.str "tap")))) [cL (.rf 0),-(nd k),-(.int L),-(mD m),-(.str (wd m))] Z=.ok m.isT Z:=bz (by ext:0);let C:∀{Z:bC},cC (au (aE cB (aa 4) (pC (.str "letter")))) [cL (.rf 0),-(nd k),-(.int L),-(mD m),-(.str (wd m))] Z=.ok m.isL Z:=bz (by ext:0);let B:∀{Z:bC},cC (au (aE cB (aa 4) (pC (.str "once")))) [cL (.rf 0),-(nd k),-(.int L),-(mD m),-(.str (wd m))] Z=.ok m.isO Z:=bz (by ext:0);let F:∀{Z:bC},cC (au (aE cB (aa 2) (~~~0))) [cL (.rf 0),-(nd k),-(.int L),-(mD m),-(.str (wd m))] Z=.ok (decide (L=0)) Z:=bz (by ext:0);let kt:∀{Z:bC},am (dA {aa 1}) [cL (.rf 0),-(nd k),-(.int L),-(mD m),-(.str (wd m))] Z=.ok (.fz (.tuple (bX [k]))) Z:=ai (vi (a8 (aG W) b4) W (UT W));let cm:∀{Z:bC},HS b (s2,p.2) Z->VA b.ls.length m->∃D,dj (a9 "Hand" "come" b9 3 (aH 0) (aC (am (aa 1)) (aC (am (aa 3)) bx))) [cL (.rf 0),-(nd k),-(.int L),-(mD m),-(.str (wd m))] Z=.ok (.nx [cL (.rf 0),-(nd k),-(.int L),-(mD m),-(.str (wd m))]) D/\HS b (iX (s2,p.2) k m) D:=λ{Z} E va=>by let(D,l,j):=tR (k:=k) E (H.ak X) va.lb () (show p.2.length<1000 by ext);show#[D,ka (cP E (by left) W (aF (ai (aG W)) (aF (ai (aG W)) aX)) W l),j]
  cases m with
  |below=>show bg W I
  |tap c n=>show vB y (qV (oa (cL ([k],0,cL (c,n))) W (ai (ρ':=cZ [cL (.rf 0),-(nd k),-(.int L),-(mD (.tap c n)),-(.str (wd (.tap c n)))]) ?_)) #[W,Y,J,e,W]);show _=Res.ok (PV.fz (.tuple [.tuple [nd k],.int 0,mD (.tap c n)]),_);ext:0
  |Vd c=>
   obtain⟨d1,d2⟩:VA b.ls.length (.Vd c)/\True:=#[u,trivial];by_cases G:L=0
   .rw[aP G]at F
    let ov:=Ej X (Z1:=gj b s2 p.2 Y J) #[Y,J,W] W (UT W) kt;let M:HS b (s2,p.2) (gj b s2 p.2 Y J++[.lst (((iq b [k]).map jU).map .fz)]++[.lst []]):=#[Y,_,e,W];let v:A0 b L (s2,p.2) k (.Vd c)=if(!(iq b [k]).isEmpty)=Uq then({s2 with wt:=cL ([k],0,CL)},p.2)else iX (s2,p.2) k (.Vd c):=by show(if(decide (L=0)&& !(iq b [k]).isEmpty)=Uq then _ else _)=_;rw[aP G,acu]
    rw[v];show gh y (Ae (kT C (kT F (bS ov))) (λq=>?_) λq=>?_)
    .rw[av q];show qV (oa (cL ([k],0,CL)) W (ai (ρ':=cZ [cL (.rf 0),-(nd k),-(.int L),-(mD (.Vd c)),-(.str (wd (.Vd c)))]) ?_)) #[W,Y,_,e,W];show _=Res.ok (PV.fz (.tuple [.tuple [nd k],.int 0,.tuple [.str "chord"]]),_);ext:0
    .rw[ax (by rw[q];simp)];let(D,l,j):=cm M u;show gh B (qV l #[W,j])
   .rw[a6 G]at F
    let v:A0 b L (s2,p.2) k (.Vd c)=iX (s2,p.2) k (.Vd c):=by show(if(decide (L=0)&& !(iq b [k]).isEmpty)=Uq then _ else _)=_;rw[a6 G,aab,ax Ux]
    rw[v];let(D,l,j):=cm z u;show gh y (gh (kT C (jC F)) (gh B (qV l #[W,j])))
  |XM n=>let(D,l,j):=cm z u;show gh y (gh (jC C) (gh B (qV l #[W,j])))
  |none=>let(D,l,j):=cm z trivial;show gh y (gh (jC C) (gh B (qV l #[W,j])))
  |once n=>let(D,l,j):=tR (k:=k) (a:=.none) z (H.ak X) trivial () (show p.2.length<1000 by ext);let i1:bu (mD (.once n)) (.int 1)=-(.int n):=jX;let(U,J2,hq,rfl):=j;show gh y (gh (jC C) (vB B (DB (ka (cP z (by left) W (aF (ai (aG W)) (aF (ai bE) aX)) W l)) (qV (D2 (cL n) W (ai (ρ':=cZ [cL (.rf 0),-(nd k),-(.int L),-(mD (.once n)),-(.str (wd (.once n)))]) ?_)) #[W,U,J2,hq,W]))));show _=Res.ok (PV.fz (.int n),_);show b8 (rv:=.fz (.int n)) (aG W) bE W W i1
 show kr (ρ:=[cL (.rf 0),-(nd k),CL,CL,CL]) W (lX S W (lX (vA (ds:=[bD b,.int L,nd k]) (aF (rK W) (aF (ai (aG W)) (aF (ai (aG W)) aX))) W K) W (lX (ai (d:=.str (wd m)) (ρ':=cZ [cL (.rf 0),-(nd k),-(.int L),-(mD m),CL]) (b8 (rv:=.fz (.str (wd m))) (aG W) bE W W c0)) W ?_)));show .eq ?_ N;let tw:∀{f g:g6} {ρ:b3} {Z D:bC},aR f cQ ρ Z=.ok (.nx ρ) D->aR f g ρ Z=g ρ D:=λ{f g ρ Z D} h=>by
  unfold aR at h⊢;cases q:f ρ Z with
  |bad=>rw[q]at h;ext h
  |er x o=>rw[q]at h;ext h
  |ok fl o=>
   rw[q]at h;cases fl with
   |nx r=>ext h;rfl
   |_=>ext h
 show tw A
end
section
variable{b:Bd}(Y:VB b){s:Xm}{sn:Sn}{X:cn (Nat×Mn)}{J:bC}{ρ:b3}{i:Nat}{Z:bC}{p:Xm×Sn}{k:Nat}{a:Mn}{U:cn Nat}{g:Int}{w:cv (Nat×Int)}
include Y
omit Y in
theorem DF(h:SA b s)(d:s.wt=CL):SW b s:=⟨h,λ_ _ _ e=>by rw[d]at e;cases e⟩
def NX(z:SA b p.1)(I:p.1.wt=CL)(v:(k:Int)<b.n)(D:p.1.ac k=CL):SW b (MY b p k).1:=by
 let(F,E):=Hk Y z;let(d,u):=Ek Y F E v;let M:MY b p k=A0 b (tP p.1.ac p.1.oc) (lL p.1 (look b (tP p.1.ac p.1.oc) k),p.2) k (look b (tP p.1.ac p.1.oc) k):=W;rw[M];generalize tP p.1.ac p.1.oc=L at d u F E;generalize look b L k=m at d u;let y:=Dp p.1 m;let j:SA b (lL p.1 m):=Dt z;let f:=y.2.trans I;let t:(lL p.1 m).ac k=CL:=by rw[y.1];show D
 generalize lL p.1 m=s2 at j f t;let Q:=Y.w1;let B:[k].Nodup:=VN.mpr #[Vy,aac];let C:∀x∈[k],(x:Int)<b.n:=λx l=>by rw[UH.mp l];show v
 let kf:∀x∈[k],s2.ac x=CL:=λx l=>by rw[UH.mp l];show t
 let cm:∀m,VA b.ls.length m->SW b (iX (s2,p.2) k m).1:=λm G=>DF (j.cm v G) f;cases m with
 |below=>show bg W u
 |tap c n=>show#[#[j.ac,j.oc],λ_ _ _ e=>?_];ext e;show#[#[by simp,B,C,kf,Y0 _,λP H e=>by ext e;show#[d.1,d.2,W],λe=>by ext e],by ext]
 |Vd c=>
  show SW b (if(decide (L=0)&& !(iq b [k]).isEmpty)=Uq then({s2 with wt:=R ([k],0,CL)},p.2)else iX (s2,p.2) k (.Vd c)).1;split
  .rename_i q
   show#[#[j.ac,j.oc],λ_ _ _ e=>?_];ext e;show#[#[by simp,B,C,kf,Y0 _,λP H e=>(by ext e),λ_ x l=>?_],by ext];let A:=(UO _ _▸q:_/\_).2;cases S:iq b [k]with
   |nil=>rw[S]at A;ext A
   |cons c r=>
    let K:c∈iq b [k]:=by rw[S];show UA
    let(O,N):=Ve.mp K;show(Y.vc c O).2.2.1 x (a7 (WW.mp N x l))
  .show cm _ d
 |XM n=>show cm _ d
 |none=>show cm _ trivial
 |once n=>let h:=cm .none trivial;show#[#[h.sa.ac,λo e=>by ext e;show d],λU g w e=>by let e:s2.wt=R (U,g,w):=e;rw[f]at e;ext e]
theorem SW.wd(h:SW b s):WD b s:=λU g w e=>(h.wt U g w e).1
omit Y in
theorem B8(d:cn (Nat×Mn)):∀{p:Xm×Sn},p.1.ac k=CL->k∉d.map (·.1)->(mV p d).1.ac k=CL:=by
 induction d with
 |nil=>exact λh _=>h
 |cons q r e=>intro p h hn;rw[UM,UJ,not_or]at hn;exact e (p:=iX p q.1 q.2) ((ja hn.1).trans h) hn.2
omit Y in
theorem BK(ha:p.1.ac k=CL)(hn:Jo p.1.wt k=Uu):(fW b p).1.ac k=CL:=by
 unfold fW;split
 .exact ha
 .rename_i U g w q;refine B8 _ (p:=({p.1 with wt:=CL},p.2)) ha λz=>?_;rw[q]at hn;obtain⟨x,d,rfl⟩:=U7.mp z;exact of_decide_eq_false hn (X6 d).1
def Gh(e:SW b p.1)(f:(k:Int)<b.n):SW b (rb b p k).1:=by
 ext rb;split
 .show e
 .rename_i q
  rw[ZG,not_or]at q;let r:p.1.ac k=L:=by
   cases z:p.1.ac k with
   |none=>rfl
   |some x=>rw[z]at q;show bg W q.1
  let n:Jo p.1.wt k=Uu:=by
   cases z:Jo p.1.wt k with
   |false=>rfl
   |true=>show bg z q.2
  split
  .rename_i h;let(U,g,m,o,l,j):=Gf Y e f r n h;show LA Y e m l j
  .let d:=nu Y e.sa (SW.wd Y e);show NX Y d.1.sa d.2.1 f (BK r n)
def Gg(h:HS b p Z)(e:SW b p.1)(A:(k:Int)<b.n)(P:p.2.length<800):∃c,jA [.rf 0,.fz (nd k)] Z=.ok (.fz .none) c/\HS b (rb b p k) c:=by
 let Q:=Y.n5;let y:k<5:=by ext
 let N:EJ (b5 (AB Uu (am (aa 1)) (bU "Hand" "acts" (aH 0)))) (b5 (a9 "Hand" "is_waiting" cV 2 (aH 0) (aC (am (aa 1)) bx))) [cL (.rf 0),-(nd k)] Z=.ok ((p.1.ac k).isSome||Jo p.1.wt k) Z:=by
  let H:=cP (ρ:=[cL (.rf 0),-(nd k)]) (i:=0) (m:= "is_waiting") (fa:=aC (am (aa 1)) bx) h (by left) W (aF (ai (aG W)) aX) W (F7 h);let(X,J,v,rfl):=h
  let d1:AB Uu (am (aa 1)) (bU "Hand" "acts" (aH 0)) [cL (.rf 0),-(nd k)] (gj b p.1 p.2 X J)=.ok (.fz (.bool (p.1.ac k).isSome)) (gj b p.1 p.2 X J):=
   (CA (ai (aG W)) (jB W) W W).trans (by rw[show l4 (X.map mq) (.inl (k:Int))=_ from qh v y];cases p.1.ac k<;>rfl)
  cases q:(p.1.ac k).isSome with
  |true=>rw[q]at d1;rw[Zv];show pS (bS d1)
  |false=>rw[q]at d1;rw[aay];show nG (bS d1) (bS H)
 show kr W (AM N (λq=>?_) λq=>pT ?_)
 .ext rb;rw[av q];show yY #[W,h]
 rw[adz]at q;let ha:p.1.ac k=CL:=by
  cases z:p.1.ac k with
  |none=>rfl
  |some x=>rw[z]at q;show bg q.1 (by simp)
 let K:rb b p k=if HR b p.1 k=Uq then Ax b p k else MY b (fW b p) k:=by ext rb;rw[ax (by rw[q.1,q.2];simp)]
 rw[K];let(O,G,f):=P8 Y h e A q.2;show AM (bS (cP h (by left) W (aF (ai (aG W)) aX) W G)) (λt=>?_) λt=>pT ?_
 .rw[av t];let(U,g,j,S,M,R):=Gf Y e A ha q.2 t;let(l,B,o):=MA Y f e j M (e.wt _ _ _ j).1 ();show Op (nN (cP f (by left) W (aF (ai (aG W)) aX) W B) (yY #[W,o]))
 .rw[ax (by rw[t];simp)]
  let d:=nu Y e.sa (SW.wd Y e);let E:∀l,HS b (fW b p) l->Yq (dj (a9 "Hand" "begin" hZ 2 (aH 0) (aC (am (aa 1)) bx)) [cL (.rf 0),-(nd k)] l) (λ_ c=>SV.fz .none=.fz .none/\HS b (MY b (fW b p) k) c) (λ_ _=>False) (λr c=>r=.fz .none/\HS b (MY b (fW b p) k) c):=λl o=>by let(T,I,u):=PY Y o d.1.sa d.2.1 A (by let:=d.2.2.1;ext);show kl (cP o (by left) W (aF (ai (aG W)) aX) W I) #[W,u]
  cases n:p.1.wt with
  |none=>
   let L:fW b p=p:=by ext fW;rw[n]
   let j:oh (mI p.1.wt) .none=-(.bool Uu):=by rw[n];rfl
   let C:=E O (by rw[L];show f);let(X,J,v,rfl):=f;show uh (bS (dY (cK W) (ai bE) (de j))) (pT C)
  |some x=>
   let(U,g,w):=x;let j:oh (mI p.1.wt) .none=-(.bool Uq):=by rw[n];rfl
   let(l,B,o):=nO Y f e.sa n (e.wt _ _ _ n).1 ();let F:=cP (ρ:=[cL (.rf 0),-(nd k)]) (i:=0) (m:= "decide") f (by left) W aX W B;let(X,J,v,rfl):=f;show yC (bS (dY (cK W) (ai bE) (de j))) (nN F (E l o))
def xl(e:SW b p.1)(f:Jo p.1.wt k=P):SW b (d3 b p k).1/\(d3 b p k).2.length<=p.2.length+5:=by
 ext d3;split
 .let d:=nu Y e.sa (SW.wd Y e);show#[d.1,d.2.2.1]
 .rename_i U g c n q;let v:=(e.wt _ _ _ q).1;rw[q]at f;let h:=v.kn k (a7 f);let j:=(v.tp c n W).1;show#[DF (SA.cm #[e.sa.ac,e.sa.oc] h j) W,?_];let:=u7 (p:=({p.1 with wt:=L},p.2)) (k:=k) (a:=.Vd c);let:(iX ({p.1 with wt:=L},p.2) k (.Vd c)).2.length<=p.2.length+1:=this;ext
 .show#[e,afd _ _]
def iK(f:HS b p Z)(d:SW b p.1)(e:Jo p.1.wt k=P)(H:p.2.length<800):∃D,iR [.rf 0,.fz (nd k)] Z=.ok (.fz .none) D/\HS b (d3 b p k) D:=by
 let K:=Y.n5;cases q:p.1.wt with
 |none=>rw[q]at e;ext e
 |some x=>
  let(U,g,w):=x;let v:=(d.wt _ _ _ q).1;let j:k∈U:=by rw[q]at e;show a7 e
  let y:bu (mI p.1.wt) (.int 2)=-(yW w):=by rw[q];show sZ
  let E:=(CF λc n h=>(v.tp c n h).1).1;let t:∀{Z:bC},cC (au (aE cB (aa 2) (pC (.tuple [.str "chord"])))) [R (.rf 0),-(nd k),-(yW w)] Z=.ok w.isNone Z:=bz (jw (b8 (aG W) bE W W E) W);cases w with
  |none=>
   let o:d3 b p k=fW b p:=by ext d3;rw[q]
   rw[o];let(G,l,r):=nO Y f d.sa q v ();let A:=cP (ρ:=[R (.rf 0),-(nd k),-(yW L)]) (i:=0) (m:= "decide") f (by left) W aX W l;let(X,J,u,rfl):=f;show kr W (lX (eN (cK W) (ai bE) y) W (vB t (kl A #[W,r])))
  |some F=>
   let(c,n):=F;let o:d3 b p k=iX ({p.1 with wt:=L},p.2) k (.Vd c):=by ext d3;rw[q]
   rw[o];let C:=(v.tp c n W).1;let I:=v.kn k j;let(X,J,u,rfl):=f;let z:HS b ({p.1 with wt:=L},p.2) (gj b {p.1 with wt:=L} p.2 X J):=#[X,J,u,W];let(G,l,r):=tR (k:=k) (a:=.Vd c) z (SA.ak Y #[d.sa.ac,d.sa.oc]) C () (show p.2.length<1000 by ext);let B:bu (yW (R (c,n))) (.int 1)=-(.str (og c)):=jX;show kr W (lX (eN (cK W) (ai bE) y) W (gh t (DB (oa L W (ai bE)) (kl (cP z (by left) W (aF (ai (aG W)) (aF (ai (vi (a8 bE (a8 (b8 (aG W) bE W W B) b4)) W (UT W))) aX)) W l) #[W,r]))))
omit Y in
theorem NB(d:SW b p.1):SW b (go p k).1:=by
 refine⟨d.sa.gg,?_⟩;unfold go;split
 .intro U g w e;obtain⟨v,h⟩:=d.wt U g w e;exact⟨⟨v.ne,v.nd,v.kn,λx f=>by
   by_cases z:x=k
   .rw[z];exact gH
   .exact(ja z).trans (v.kf x f),v.g0,v.tp,v.ch⟩,h⟩
 .exact d.wt
def LG(d:SW b p.1):SW b (FR b p k).1:=by
 ext FR;split
 .rename_i q;show NB (xl Y d q).1
 .show NB d
def K1(d:HS b p Z)(f:SW b p.1)(B:(k:Int)<b.n)(o:p.2.length<700):∃c,j5 [.rf 0,.fz (nd k)] Z=.ok (.fz .none) c/\HS b (FR b p k) c:=by
 let C:=Y.n5;let h:k<5:=by ext
 let e:∀{p:Xm×Sn} {Z:bC},HS b p Z->SW b p.1->p.2.length<800->Yq (cT (b5 (AB Uu (am (aa 1)) (bU "Hand" "acts" (aH 0)))) (dj (a9 "Hand" "go" k8 2 (aH 0) (aC (am (aa 1)) bx))) cQ [R (.rf 0),-(nd k)] Z) (λ_ c=>SV.fz .none=.fz .none/\HS b (go p k) c) (λ_ _=>False) (λr c=>r=.fz .none/\HS b (go p k) c):=λ{p Z} d f o=>by
  cases n:p.1.ac k with
  |none=>
   let v:go p k=p:=by ext go;rw[n]
   rw[v];let(X,J,j,rfl):=d;show gh (bS ((CA (ai (aG W)) (jB W) W W).trans (by rw[show l4 (X.map mq) (.inl (k:Int))=_ from qh j h,n];rfl))) (nI #[W,X,J,j,W])
  |some a=>let(E,t,A):=Rm d (f.sa.ak Y) n ();let l:=cP (ρ:=[R (.rf 0),-(nd k)]) (i:=0) (m:= "go") (fa:=aC (am (aa 1)) bx) d (by left) W (aF (ai (aG W)) aX) W t;let(X,J,j,rfl):=d;show vB (bS ((CA (ai (aG W)) (jB W) W W).trans (by rw[show l4 (X.map mq) (.inl (k:Int))=_ from qh j h,n];rfl))) (kl l #[W,A])
 show kr W (AM (bS (cP d (by left) W (aF (ai (aG W)) aX) W (F7 d))) (λq=>?_) λq=>?_)
 .ext FR;rw[av q];let(F,u,y):=iK Y d f q ();let z:=xl Y f q;show nN (cP d (by left) W (aF (ai (aG W)) aX) W u) (e y z.1 ())
 .ext FR;rw[ax (by rw[q];simp)];show pT (e d f ())
def K0(d:SW b p.1):SW b (sK b p).1:=by
 ext sK;split
 .show d
 .rename_i U g w q
  let(v,j):=d.wt U g w q;let f:WV b p.1.ac U (g+1) w:=#[v.ne,v.nd,v.kn,v.kf,by let:=v.g0;ext,v.tp,v.ch];split
  .show(nu Y (p:=({p.1 with wt:=R (U,g+1,w)},p.2)) #[d.sa.ac,d.sa.oc] λ_ _ _ e=>by ext e;show f).1
  .rename_i h;show#[#[d.sa.ac,d.sa.oc],λ_ _ _ e=>by ext e;show#[f,by ext]]
def Ku(m:HS b p Z)(d:SW b p.1)(y:p.2.length<800):∃c,hU [.rf 0] Z=.ok (.fz .none) c/\HS b (sK b p) c:=by
 let(X,J,j,rfl):=m;cases q:p.1.wt with
 |none=>
  let e:sK b p=p:=by ext sK;rw[q]
  rw[e];let f:rp (mI p.1.wt) .none=-(.bool P):=by rw[q];rfl
  show kr W (yC (bS (dY (cK W) (ai bE) (de f))) (yY #[W,X,J,j,W]))
 |some x=>
  let(U,g,w):=x;let v:=(d.wt _ _ _ q).1;let l:WV b p.1.ac U (g+1) w:=#[v.ne,v.nd,v.kn,v.kf,by let:=v.g0;ext,v.tp,v.ch];let e:sK b p=if g+1=b.wt then fW b ({p.1 with wt:=R (U,g+1,w)},p.2)else({p.1 with wt:=R (U,g+1,w)},p.2):=by ext sK;rw[q]
  rw[e];let f:rp (mI p.1.wt) .none=-(.bool Uu):=by rw[q];rfl
  let e0:bu (mI p.1.wt) (.int 0)=-(.tuple (bX U)):=by rw[q];show jK
  let t:bu (mI p.1.wt) (.int 2)=-(yW w):=by rw[q];show sZ
  let r:bu (mI p.1.wt) (.int 1)=-(.int g):=by rw[q];show jX
  let o:bu (bD b) (.int 3)=-(.int b.wt):=QI W;let h:HS b ({p.1 with wt:=R (U,g+1,w)},p.2) (gj b {p.1 with wt:=R (U,g+1,w)} p.2 X J):=#[X,J,j,W];show kr W (uh (bS (dY (cK W) (ai bE) (de f))) (pT (lX (dY (eN (cK W) (ai bE) r) (ai bE) (de (zi _ _))) W (DB (oa (R (U,g+1,w)) W (yg (aF (eN (cK W) (ai bE) e0) (aF (ai (aG W)) (aF (eN (cK W) (ai bE) t) aX))) (UT W))) (Ae (bS (dY (ai (aG W)) (eN (rK W) (ai bE) o) (de (lC _ _)))) (λz=>?_) λz=>?_)))))
  .rw[av (a7 z)];let(A,n,u):=nO Y h #[d.sa.ac,d.sa.oc] W l (show p.2.length<900 by ext);show kl (cP h (by left) W aX W n) #[W,u]
  .rw[ax (of_decide_eq_false z)];show nI #[W,h]
def Evn.aeJ:Evn->Bool
 |.turn=>P
 |_=>Uu
def Evn.isDown:Evn->Bool
 |.down _=>P
 |_=>Uu
def EV(b:Bd):Evn->Prop
 |.down k=>(k:Int)<b.n
 |.up k=>(k:Int)<b.n
 |.turn=>True
def LC(d:SW b s)(f:EV b e):SW b (dD b s e).1:=by
 cases e with
 |down k=>show Gh Y d f
 |up k=>show LG Y d
 |turn=>show K0 Y d
omit Y in
theorem wF:∀l:cn (Nat×Mn),bc um (l.map pD)=cL (l.map mq)
 |[]=>rfl
 |q::r=>by rw[UM];unfold bc;rw[wF r];rfl
omit Y in
theorem zQ:∀(l d:cn (Nat×Mn)),((d++l).map (·.1)).Nodup->oY (d.map mq) (l.map mq)=(d++l).map mq
 |[],d,_=>by rw[UZ];rfl
 |q::r,d,h=>by
  have hn:∀x∈d,x.1≠q.1:=λx f e=>by rw[Vf,YS]at h;exact h.2.2 _ (U7.mpr ⟨x,f,rfl⟩) q.1 UA e
  have o:l9 (d.map mq) (mq q).1 (mq q).2=(d++[q]).map mq:=by
   unfold l9;rw[ax ?_,Vf]
   .rfl
   .intro z;obtain⟨t,n,m⟩:=abn.mp z;obtain⟨x,j,rfl⟩:=U7.mp n;have:=Sum.inl.inj (a7 m);exact hn x j (by ext)
  show oY (l9 (d.map mq) (mq q).1 (mq q).2) (r.map mq)=_;rw[o,zQ r (d++[q]) (by rw[Vl];exact h),Vl];rfl
omit Y in
theorem zf:fP [.rf 0,.fz (bD b),.fz (ix s)] [.obj "Hand" []]=.ok (.fz .none) (gj b s [] (j4 s.ac) []):=by
 have e0:bu (ix s) (.int 0)=-(.tuple ((j4 s.ac).map pD)):=jK;have y:bu (ix s) (.int 1)=-(mI s.wt):=jX;have v:bu (ix s) (.int 2)=-(zV s.oc):=sZ;have z:dI "bed" (.fz (bD b)) []=([("bed",.fz (bD b))]:cn (Str×SV)):=rfl;have q:dI "acts" (.rf 1) ([("bed",.fz (bD b))]:cn (Str×SV))=([("bed",.fz (bD b)),("acts",.rf 1)]:cn (Str×SV)):=by unfold dI;rw[ax (by left)];rfl
 have o:dI "waiting" (.fz (mI s.wt)) ([("bed",.fz (bD b)),("acts",.rf 1)]:cn (Str×SV))=([("bed",.fz (bD b)),("acts",.rf 1),("waiting",.fz (mI s.wt))]:cn (Str×SV)):=by unfold dI;rw[ax (by left)];unfold dI;rw[ax (by left)];rfl
 have n:dI "once" (.fz (zV s.oc)) ([("bed",.fz (bD b)),("acts",.rf 1),("waiting",.fz (mI s.wt))]:cn (Str×SV))=([("bed",.fz (bD b)),("acts",.rf 1),("waiting",.fz (mI s.wt)),("once",.fz (zV s.oc))]:cn (Str×SV)):=by unfold dI;rw[ax (by left)];unfold dI;rw[ax (by left)];unfold dI;rw[ax (by left)];rfl
 have m:dI "sent" (.rf 2) ([("bed",.fz (bD b)),("acts",.rf 1),("waiting",.fz (mI s.wt)),("once",.fz (zV s.oc))]:cn (Str×SV))=wQ b s:=by unfold dI;rw[ax (by left)];unfold dI;rw[ax (by left)];unfold dI;rw[ax (by left)];unfold dI;rw[ax (by left)];rfl
 have r:oY [] ((j4 s.ac).map mq)=(j4 s.ac).map mq:=zQ (j4 s.ac) [] (vg s.ac);have e:∀{x:SV} {ρ:b3} {fs:cn (Str×SV)} {Z:bC} {j:gq} {f:Str} {c:Cell} {l:bC},ρ[0]?=cL (cL (.rf 0))->j ρ Z=.ok x (.obj "Hand" fs::l)->fs.length<100->fx "Hand" f (aH 0) j ρ Z=.ok (.nx ρ) (.obj "Hand" (dI f x fs)::l):=λh u t=>(eV u (aV h) rfl t).trans rfl
 have ha:AX (am (aE bu (aa 2) (~~~0))) [cL (.rf 0),-(bD b),-(ix s)] [.obj "Hand" ([("bed",.fz (bD b))]:cn (Str×SV))]=.ok (.rf 1) [.obj "Hand" ([("bed",.fz (bD b))]:cn (Str×SV)),.dct ((j4 s.ac).map mq)]:=
  (Ls (ai (d:=.tuple ((j4 s.ac).map pD)) (b8 (rv:=.fz (.tuple ((j4 s.ac).map pD))) (aG rfl) bE rfl rfl e0)) (wF _)).trans (by rw[r];rfl)
 refine j6 (ρ:=[cL (.rf 0),-(bD b),-(ix s)]) (ρ1:=[cL (.rf 0),-(bD b),-(ix s)]) rfl (bq (e rfl (c:=.dead) (ai (d:=bD b) (aG rfl)) (UT rfl)) (bq (e rfl (c:=.dead) ha (UT rfl)) (bq (e rfl (c:=.dead) (ai (d:=mI s.wt) (b8 (rv:=.fz (mI s.wt)) (aG rfl) bE rfl rfl y)) (UT rfl)) (bq (e rfl (c:=.dead) (ai (d:=zV s.oc) (b8 (rv:=.fz (zV s.oc)) (aG rfl) bE rfl rfl v)) (UT rfl)) ?_))));rw[q,o,n];refine(e (fs:=([("bed",.fz (bD b)),("acts",.rf 1),("waiting",.fz (mI s.wt)),("once",.fz (zV s.oc))]:cn (Str×SV))) rfl (c:=.dead) (ff (ds:=[]) (yG b4 rfl (V0 _))) (UT rfl)).trans ?_;show RS.ok _ (Cell.obj "Hand" (dI "sent" (.rf 2) ([("bed",.fz (bD b)),("acts",.rf 1),("waiting",.fz (mI s.wt)),("once",.fz (zV s.oc))]:cn (Str×SV)))::_)=_;rw[m];rfl
omit Y in
theorem Mh(e:Evn):∃x:Str,bu (pO e) (.int 0)=-(.str x)/\cB (.str x) (.str "turn")=-(.bool (e.aeJ))/\cB (.str x) (.str "down")=-(.bool (e.isDown)):=by
 have f:Ut.strOk "down"=Uq:=by left
 have h:Ut.strOk "up"=Uq:=by left
 have d:Ut.strOk "turn"=Uq:=by left
 cases e with
 |down k=>exact⟨"down",jK,De f d (by left),Nq f⟩
 |up k=>exact⟨"up",jK,De h d (by left),De h f (by left)⟩
 |turn=>exact⟨"turn",jK,Nq d,De d f (by left)⟩
def Mg(n:SW b s)(v:EV b e):∃c,ve [.fz (bD b),.fz (ix s),.fz (pO e)] []=.ok (.tp [.rf 2,.fz (ix (dD b s e).1)]) c/\sh c (.rf 2)=R (.list ((dD b s e).2.map Bl)):=by
 let d:HS b (s,[]) (gj b s [] (j4 s.ac) []):=#[j4 s.ac,[],.refl _,W];let(x,t,z,y):=Mh e;let l:∀{Z:bC},cC (au (aE cB (aE bu (aa 2) (~~~0)) (pC (.str "turn")))) [-(bD b),-(ix s),-(pO e),R (.rf 0)] Z=.ok (e.aeJ) Z:=bz (jw (b8 (b8 (aG W) bE W W t) bE W W z) W);let u:∀{Z:bC},cC (au (aE cB (aE bu (aa 2) (~~~0)) (pC (.str "down")))) [-(bD b),-(ix s),-(pO e),R (.rf 0)] Z=.ok (e.isDown) Z:=bz (jw (b8 (b8 (aG W) bE W W t) bE W W y) W);let h:∀{Z:bC},HS b (dD b s e) Z->Yq (gB (r8 (aC (bU "Hand" "sent" (aH 3)) (aC (a9 "Hand" "stands" ck 1 (aH 3) bx) bx))) [-(bD b),-(ix s),-(pO e),R (.rf 0)] Z) (λ_ c=>SV.fz .none=.tp [.rf 2,.fz (ix (dD b s e).1)]/\sh c (.rf 2)=R (.list ((dD b s e).2.map Bl))) (λ_ _=>False) (λr c=>r=.tp [.rf 2,.fz (ix (dD b s e).1)]/\sh c (.rf 2)=R (.list ((dD b s e).2.map Bl))):=λ{Z} I=>by let(q,f,j):=sg I;let m:=cP (ρ:=[-(bD b),-(ix s),-(pO e),R (.rf 0)]) (i:=3) (m:= "stands") I (by left) W aX W f;let(X,J,E,rfl):=I;let(B,F,C,rfl):=j;show Pv (Rb (aF (x9 W) (aF m aX)) (UT W) W W) #[W,iE W]
 let A:kW "Hand" fP 3 (aC (am (aa 0)) (aC (am (aa 1)) bx)) [-(bD b),-(ix s),-(pO e),L] []=.ok (.rf 0) (gj b s [] (j4 s.ac) []):=vQ (aF (ai (aG W)) (aF (ai (aG W)) aX)) W zf;show kr W (lX A W ?_);cases e with
 |turn=>let(q,f,j):=Ku Y d n (show 0<800 by decide);show yC l (nN (cP d (by left) W aX W f) (h j))
 |down k=>let(q,f,j):=Gg Y d n v (show 0<800 by decide);let o:bu (pO (.down k)) (.int 1)=-(nd k):=jX;show uh l (yC u (nN (cP d (by left) W (aF (ai (b8 (aG W) bE W W o)) aX) W f) (h j)))
 |up k=>let(q,f,j):=K1 Y d n v (show 0<700 by decide);let o:bu (pO (.up k)) (.int 1)=-(nd k):=jX;show uh l (uh u (nN (cP d (by left) W (aF (ai (b8 (aG W) bE W W o)) aX) W f) (h j)))
def RJ{e:Evn}(f:SW b s)(j:EV b e):wY ve 3 [.fz (bD b),.fz (ix s),.fz (pO e)] Z=.ok (.tp [.rf Z.length,.fz (ix (dD b s e).1)]) (Z++[.lst (((dD b s e).2.map Bl).map .fz)]):=by
 let(d,m,l):=Mg Y f j;ext wY;rw[av (show([.fz (bD b),.fz (ix s),.fz (pO e)]:G SV).length=3 from rfl),show bc zo [.fz (bD b),.fz (ix s),.fz (pO e)]=R [bD b,ix s,pO e]from rfl];dsimp only;rw[show[bD b,ix s,pO e].map SV.fz=[.fz (bD b),.fz (ix s),.fz (pO e)]from rfl,m];show(match FZ d Z.length [.rf 2,.fz (ix (dD b s e).1)]with
  |some (n,cs,o)=>if o.Nodup then RS.ok (SV.tp n) (Z++cs.map SD)else .bad
  |none=>.bad)=_
 let h:FZ d Z.length [.rf 2,.fz (ix (dD b s e).1)]=R ([.rf Z.length,.fz (ix (dD b s e).1)],[(dD b s e).2.map Bl],[2]):=by ext FZ;rw[l];rfl
 rw[h];dsimp only;rw[av ()];rfl
end
section
variable{b:Bd}(X:VB b){s:Xm}{p:Xm×Sn}{k:Nat}{a:Mn}
include X
end
def fN(b:Bd):Xm->G Evn->Xm×G Sn
 |s,[]=>(s,[])
 |s,e::r=>((fN b (dD b s e).1 r).1,(dD b s e).2::(fN b (dD b s e).1 r).2)
theorem uL(b:Bd):∀(xs a:G Evn) (s:Xm),fN b s (xs++a)=((fN b (fN b s xs).1 a).1,(fN b s xs).2++(fN b (fN b s xs).1 a).2)
 |[],_,_=>rfl
 |e::r,a,s=>by show((fN b (dD b s e).1 (r++a)).1,_::(fN b (dD b s e).1 (r++a)).2)=_;rw[uL b r a];rfl
theorem Dx{b:Bd}(a:VB b):∀(xs:G Evn) {s:Xm},SW b s->(∀e∈xs,EV b e)->SW b (fN b s xs).1
 |[],_,h,_=>h
 |e::r,s,h,he=>Dx a r (LC a h (he e UA)) λx d=>he x (UC _ d)
end STP
namespace K91
open PySem L2 L3 STP
def sr:FS:=(bK (Gx (au (aE zp (aa 1) (ez gz {aa 0}))) (aE bu (aa 0) (aa 1)) (~~~0)))
def iU:FN:=dh 2 sr
def nv:FS:=(bv (fy (aE wk (aE gG (aE eE (aE wk (aa 0) (~~~1000033)) (aa 1)) (aE eE (aa 1) (~~~521))) (~~~1000033)) (gN 3))
 (bv (fy (aE wk (aE eE (aE eE (aE gG (aa 3) (aa 3)) (aE yb (aa 0) (~~~1000033))) (aE gG (~~~7) (aa 1))) (~~~999983)) (gN 3))
 (bK (aE wk (aE yb (aa 3) (~~~3)) (aa 2)))))
def cg:FN:=dh 4 nv
def ir:FS:=(bv (fy (aE eE (aa 1) (bO cg 3 {aa 0,~~~233,~~~2})) (gN 2))
 (bv (gF (au (aE cB (bO cg 3 {aa 0,~~~239,~~~2}) (~~~0))) (bK (dA {~~~1,aa 2})) bQ)
 (bK (dA {aa 2,~~~1}))))
def jl:FN:=dh 3 ir
def sj:FS:=(bK (aE bu (dF {aE eR (ez iG {aa 1}) (pC (.str ".0")),aE eR (pC (.str "0.")) (ez iG {aa 1})}) (ez Aw {aE cB (aE bu (aa 0) (~~~0)) (~~~1)})))
def i6:FN:=dh 2 sj
def mE:FS:=(bv (gF (au (aE cB (aE bu (aa 0) (~~~0)) (~~~1))) (bK (ez iG {ez L10.HX {cX 1 [] (gD (aa 1)) (gN 0) dJ (aE Pd (~~~1) (aa 0))}})) bQ)
 (bK (x5 iW (pC (.str ",")) {cX 1 [1] (lr mP {aE bu (aa 0) (~~~0)}) (gN 0) dJ (ez iG {ez Aw {aE mn (aa 0) (aa 1)}})})))
def dZ:FN:=dh 2 mE
def uq:FS:=(bK (cX 1 [1,2] (lr mP {aa 0}) (gN 0) (au (aE cB (bO cg 3 {aE eE (aa 1) (aE gG (~~~41) (aa 0)),aa 2,~~~2}) (~~~0))) (aa 0)))
def iC:FN:=dh 3 uq
def j9:FS:=(bv (gF (au (aa 3)) (bK (cX 1 [1,2] (lr mP {aa 0}) (gN 0) (au (aE cB (aE qL (aE Aj (aE yb (aa 1) (~~~64)) (aE eE (aE gG (~~~6) (aa 2)) (aa 0))) (~~~1)) (~~~1))) (aa 0))) bQ)
 (bK (bO iC 3 {aa 0,aE eE (aa 1) (aE gG (~~~3) (aa 2)),aE eE (~~~241) (aa 2)})))
def jY:FN:=dh 4 j9
def jy:FS:=(bv (fy (dF aq) (gN 6))
 (bv (pK (lr mP {aa 1}) (gN 7) (bv (fy (bO jY 4 {aa 0,aa 4,aa 7,aa 5}) (gN 8))
 (bv (fy (cX 1 [3] (gD (aa 2)) (gN 0) (au (aE mn (aa 0) (aa 1))) (aa 0)) (gN 9))
 (nh (Ci 6 (cX 1 [9,8,2,3] (lr mP {aa 0}) (gN 0) (uX (au (aE mn (aa 0) (aa 1))) (lQ (au (aE mn (aa 0) (aa 2))) (uX (au (aE mn (aa 0) (aa 3))) (au (aE mn (aa 0) (aa 4)))))) (aa 0)))))))
 (bK (aE eE (aa 6) (aE gG (dF {aa 3}) (aE eE (~~~1) (bO cg 3 {aa 4,~~~251,~~~2})))))))
def ia:FN:=dh 10 jy
def oK:FS:=(bv (fy (cX 1 [2,1] (lr mP {aa 0}) (gN 0) (lQ (au (aE mn (aa 0) (aa 1))) (au (aE rB (aa 0) (aa 2)))) (aE eR (pC (.str "+")) (aE kH (pC (.str "abcde")) (aa 0)))) (gN 3))
 (bK (ez L10.uN {aE eE (aa 3) (cX 1 [1,2] (lr mP {aa 0}) (gN 0) (lQ (au (aE mn (aa 0) (aa 1))) (au (aE rB (aa 0) (aa 2)))) (aE eR (pC (.str "-")) (aE kH (pC (.str "abcde")) (aa 0))))})))
def jE:FN:=dh 4 oK
def qN:FS:=(bv (gF (uX (lO (au (Pn "str" (aa 0)))) (au (aE cB (aa 0) (pC (.str ""))))) (bK (dF {pC (.str "bad")})) bQ)
 (bv (gF (au (aE cB (aa 0) (pC (.str ".")))) (bK (dF aq)) bQ)
 (bK (cX 1 [0] (lr OP {~~~0,ez BX {aa 0},~~~2}) (gN 0) dJ (xR lh (aa 1) (gy (aa 0)) (gy (aE eE (aa 0) (~~~2))))))))
def gu:FN:=dh 1 qN
def sC:FS:=(bK (Gq (gm vU zp (~~~0) (aE bu (aa 2) (~~~0)) (aa 0)) (gm vU zp (~~~0) (aE bu (aa 2) (~~~1)) (aa 1))))
def nA:FN:=dh 3 sC
def pG:FS:=(bv (gF (uX (lO (au (gm vU vU (~~~1) (aa 0) (~~~6)))) (lO (au (gm vU vU (~~~1) (aa 1) (~~~6))))) gY bQ)
 (bv (gF (lO (au (gm vU vU (~~~1) (ez gz {aa 2}) (~~~12)))) gY bQ)
 (bv (pK (L3.sL {aa 2}) (gT 2 (zu (gN 3) (zu (gN 4) Kh))) (gF (uX (lO (au (bO nA 3 {aa 0,aa 1,aa 4}))) (au (aE mn (aa 4) (xR Hg (aa 2) ke (gy (aa 3)))))) gY bQ))
 (bK (dA {aa 0,aa 1,ez pU {aa 2}})))))
def dG:FN:=dh 5 pG
def oC:FS:=(bv (gF (uX (lO (au (gm vU vU (~~~1) (ez BX {aa 0}) (~~~2)))) (lO (au (ez ya {cX 1 [] (Hn (aa 0)) (gN 0) dJ (aE T0 (aa 0) (pC (.str "0123456789")))})))) (bK (pC .none)) bQ)
 (bv (gF (lQ (au (aE cB (ez BX {aa 0}) (~~~2))) (au (aE cB (aE kH (aa 0) (~~~0)) (pC (.str "0"))))) (bK (pC .none)) bQ)
 (bK (ez Qj {aa 0}))))
def bW:FN:=dh 1 oC
def oV:FS:=(bv (gF (au (aE mn (pC .none) (aa 0))) (bK (pC .none)) bQ)
 (bK (ez pU {aa 0})))
def cS:FN:=dh 1 oV
def jS:FS:=(bv (gF (uX (au (aE n6 (ez gz {aa 0}) (~~~4))) (uX (au (aE n6 (aE bu (aa 0) (~~~0)) (pC (.str "keys")))) (au (aE n6 (aE bu (aa 0) (~~~2)) (pC (.str "wait")))))) (bK (pC .none)) bQ)
 (bK (bO cS 1 {dF {bO bW 1 {aE bu (aa 0) (~~~1)},bO bW 1 {aE bu (aa 0) (~~~3)}}})))
def jQ:FN:=dh 1 jS
def sH:FS:=(bK (Gq (aE cB (ez BX {aa 0}) (~~~1)) (gm S7 S7 (pC (.str "a")) (aa 0) (pC (.str "z")))))
def cY:FN:=dh 1 sH
def mK:FS:=(bv (gF (au (aE cB (aa 0) (pC (.str ".")))) (bK (dA {pC (.str "none")})) bQ)
 (bv (gF (au (aE cB (aa 0) (pC (.str "_")))) (bK (dA {pC (.str "below")})) bQ)
 (bv (gF (au (bO cY 1 {aa 0})) (bK (dA {pC (.str "letter"),aa 0})) bQ)
 (bv (gF (au (x5 pQ (aa 0) {pC (.str "~")})) (bK (bO cS 1 {dF {pC (.str "once"),bO bW 1 {xR lh (aa 0) (gy (~~~1)) ke}}})) bQ)
 (bv (gF (au (x5 pQ (aa 0) {pC (.str ">")})) (bK (bO cS 1 {dF {pC (.str "layer"),bO bW 1 {xR lh (aa 0) (gy (~~~1)) ke}}})) bQ)
 (bv (gF (lQ (au (bO cY 1 {xR lh (aa 0) ke (gy (~~~1))})) (au (aE cB (xR lh (aa 0) (gy (~~~1)) (gy (~~~2))) (pC (.str ">"))))) (bK (bO cS 1 {dF {pC (.str "tap"),aE kH (aa 0) (~~~0),bO bW 1 {xR lh (aa 0) (gy (~~~2)) ke}}})) bQ)
 (bK (pC .none))))))))
def jP:FN:=dh 1 mK
def p9:FS:=(bv (gF (uX (au (aE zp (ez gz {aa 0}) (~~~2))) (au (aE n6 (aE bu (aa 0) (~~~0)) (pC (.str "layer"))))) (bK (pC .none)) bQ)
 (bK (bO cS 1 {cX 1 [] (gD (xR Hg (aa 0) (gy (~~~1)) ke)) (gN 0) dJ (bO jP 1 {aa 0})})))
def lg:FN:=dh 1 p9
def oy:FS:=(bK (bO cS 1 {cX 1 [] (gD (x5 mZ (aa 0) {aa 1})) (gN 0) dJ (bO bW 1 {aa 0})}))
def eI:FN:=dh 2 oy
def lK:FS:=(bv (gF (uX (au (aE n6 (ez gz {aa 0}) (~~~3))) (uX (au (aE n6 (aE bu (aa 0) (~~~0)) (pC (.str "chord")))) (lO (au (bO cY 1 {aE bu (aa 0) (~~~2)}))))) (bK (pC .none)) bQ)
 (bv (fy (bO eI 2 {aE bu (aa 0) (~~~1),pC (.str "+")}) (gN 1))
 (bv (gF (au (aE rp (aa 1) (pC .none))) (bK (pC .none)) bQ)
 (bK (dA {aa 1,aE bu (aa 0) (~~~2)})))))
def lu:FN:=dh 2 lK
def jf:FS:=(bv (gF (uX (lO (au (gm vU vU (~~~1) (aE bu (aa 0) (~~~0)) (~~~5)))) (lO (au (gm vU vU (~~~1) (ez gz {aE bu (aa 0) (~~~1)}) (~~~3))))) gY bQ)
 (gF (uX (au (aE T7 (ez gz {aE bu (aa 0) (~~~2)}) (~~~4))) (lO (au (gm vU vU (~~~1) (aE bu (aa 0) (~~~3)) (~~~4))))) gY bQ))
def jc:FN:=dh 1 jf
def uy:FS:=(bv (fy (aE bu (aa 0) (~~~0)) (gN 3))
 (bv (gF (au (aE cB (aa 3) (pC (.str "below")))) (bK (aE n6 (aa 1) (~~~0))) bQ)
 (bv (gF (lQ (au (aE mn (aa 3) (dA {pC (.str "letter"),pC (.str "tap")}))) (lO (au (bO cY 1 {aE bu (aa 0) (~~~1)})))) (bK (pC (.bool Uu))) bQ)
 (bv (gF (au (aE mn (aa 3) (dA {pC (.str "layer"),pC (.str "tap"),pC (.str "once")}))) (bK (gm vU zp (~~~1) (aE bu (aa 0) (QD HL (~~~1))) (aa 2))) bQ)
 (bK (pC (.bool P)))))))
def pB:FN:=dh 4 uy
def kA:FS:=(bv (fy (aE bu (aE bu (aa 0) (~~~1)) (aa 1)) (gN 2))
 (bv (gF (au (aE n6 (ez gz {aa 2}) (aE bu (aa 0) (~~~0)))) gY bQ)
 (pK (L3.sL {aa 2}) (gT 2 (zu (gN 3) (zu (gN 4) Kh))) (gF (lO (au (bO pB 3 {aa 4,aa 1,ez gz {aE bu (aa 0) (~~~1)}}))) gY bQ))))
def kq:FN:=dh 5 kA
def Dg:FS:=(bK (ez ya {cX 2 [] (FU {aa 0,xR Hg (aa 0) (gy (~~~1)) ke}) (gT 2 (zu (gN 0) (zu (gN 1) Kh))) dJ (aE zp (aa 0) (aa 1))}))
def yz:FN:=dh 1 Dg
def mH:FS:=(bv (gF (uX (au (aE zp (ez gz {aa 1}) (~~~2))) (lO (au (bO yz 1 {aa 1})))) (bK (pC (.bool Uu))) bQ)
 (bK (ez ya {cX 1 [0] (gD (aa 1)) (gN 0) dJ (Gq (gm vU zp (~~~0) (aa 0) (aE bu (aa 1) (~~~0))) (aE cB (aE bu (aE bu (aE bu (aE bu (aa 1) (~~~1)) (~~~0)) (aa 0)) (~~~0)) (pC (.str "letter"))))})))
def jH:FN:=dh 2 mH
def oA:FS:=(bv (fy (aE bu (aE bu (aE bu (aa 0) (~~~2)) (aa 1)) (~~~0)) (gN 2))
 (bv (gF (uX (lO (au (bO cY 1 {aE bu (aE bu (aE bu (aa 0) (~~~2)) (aa 1)) (~~~1)}))) (lO (au (bO jH 2 {aa 0,aa 2})))) gY bQ)
 (gF (au (aE mn (aa 2) (cX 1 [] (gD (xR Hg (aE bu (aa 0) (~~~2)) ke (gy (aa 1)))) (gN 0) dJ (aE bu (aa 0) (~~~0))))) gY bQ)))
def kB:FN:=dh 3 oA
def xt:FS:=(bv (nh (bO jc 1 {aa 0}))
 (bv (pK (lr mP {ez gz {aE bu (aa 0) (~~~1)}}) (gN 1) (nh (bO kq 2 {aa 0,aa 1})))
 (bv (pK (lr mP {ez gz {aE bu (aa 0) (~~~2)}}) (gN 2) (nh (bO kB 2 {aa 0,aa 2})))
 (bK (aa 0)))))
def rJ:FN:=dh 3 xt
def ud:FS:=(bv (fy (x5 mZ (aa 0) {pC (.str "\n")}) (gN 1))
 (bv (fy (bO jQ 1 {x5 mZ (aE bu (aa 1) (~~~0)) {pC (.str " ")}}) (gN 2))
 (bv (gF (au (aE rp (aa 2) (pC .none))) gY bQ)
 (bv (fy (dF aq) (gN 3))
 (bv (fy (dF aq) (gN 4))
 (bv (pK (Gv {xR Hg (aa 1) (gy (~~~1)) ke}) (gT 2 (zu (gN 5) (zu (gN 6) Kh))) (bv (fy (x5 mZ (aa 6) {pC (.str " ")}) (gN 7))
 (bv (fy (bO lg 1 {aa 7}) (gN 8))
 (bv (fy (bO lu 1 {aa 7}) (gN 9))
 (gF (lQ (au (aE oh (aa 8) (pC .none))) (au (aE cB (aa 4) (dF aq)))) (nh (Ci 3 (aa 8))) (gF (au (aE oh (aa 9) (pC .none))) (nh (Ci 4 (aa 9))) gY))))))
 (bK (bO rJ 1 {dA {aE bu (aa 2) (~~~0),ez pU {aa 3},ez pU {aa 4},aE bu (aa 2) (~~~1)}}))))))))
def eK:FN:=dh 10 ud
def sF:FS:=(bv (fy (bO eI 2 {aa 0,pC (.str ".")}) (gN 1))
 (bv (gF (uX (au (aE rp (aa 1) (pC .none))) (au (aE n6 (ez gz {aa 1}) (~~~2)))) (bK (pC .none)) bQ)
 (bK (aa 1))))
def mM:FN:=dh 2 sF
def qT:FS:=(bv (fy (cX 1 [] (gD (xR Hg (aa 0) ke (gy (~~~3)))) (gN 0) dJ (bO bW 1 {aa 0})) (gN 1))
 (bK (bO cS 1 {aE eE (aa 1) (dF {bO cS 1 {cX 1 [] (gD (x5 mZ (aE bu (aa 0) (~~~3)) {pC (.str ",")})) (gN 0) dJ (bO mM 1 {aa 0})}})})))
def lm:FN:=dh 2 qT
def mX:FS:=(bv (gF (uX (au (aE cB (aa 0) (pC (.str "")))) (lO (au (ez ya {cX 1 [] (gD (aa 0)) (gN 0) dJ (bO cY 1 {aa 0})})))) (bK (pC .none)) bQ)
 (bK (aa 0)))
def jT:FN:=dh 1 mX
def p7:FS:=(bv (fy (aE bu (aa 0) (~~~0)) (gN 1))
 (bv (fy (ez gz {aa 0}) (gN 2))
 (bv (gF (lQ (au (aE mn (aa 1) (dA {pC (.str "keys"),pC (.str "turn"),pC (.str "states")}))) (au (aE cB (aa 2) (~~~1)))) (bK (dA aq)) bQ)
 (bv (gF (lQ (au (aE cB (aa 1) (pC (.str "frame")))) (au (aE cB (aa 2) (~~~5)))) (bK (bO lm 1 {xR Hg (aa 0) (gy (~~~1)) ke})) bQ)
 (bv (gF (lQ (au (aE mn (aa 1) (dA {pC (.str "scan"),pC (.str "seen")}))) (au (aE cB (aa 2) (~~~2)))) (bK (bO eI 2 {aE bu (aa 0) (~~~1),pC (.str ",")})) bQ)
 (bv (gF (lQ (au (aE mn (aa 1) (dA {pC (.str "down"),pC (.str "up")}))) (au (aE cB (aa 2) (~~~2)))) (bK (bO bW 1 {aE bu (aa 0) (~~~1)})) bQ)
 (bv (gF (lQ (au (aE cB (aa 1) (pC (.str "word")))) (au (aE cB (aa 2) (~~~2)))) (bK (bO jT 1 {aE bu (aa 0) (~~~1)})) bQ)
 (bK (pC .none)))))))))
def lH:FN:=dh 3 p7
def vd:FS:=(bv (gF (au (x5 pQ (aa 0) {pC (.str "bed\n")})) (bK (dA {pC (.str "bed"),xR lh (aa 0) (gy (ez BX {pC (.str "bed\n")})) ke})) bQ)
 (bv (fy (x5 mZ (aa 0) {pC (.str " ")}) (gN 1))
 (bv (fy (bO lH 1 {aa 1}) (gN 2))
 (bv (gF (au (aE rp (aa 2) (pC .none))) gY bQ)
 (bK (dA {aE bu (aa 1) (~~~0),aa 2}))))))
def dc:FN:=dh 3 vd
def nz:FS:=(bK (aE cB (aE qL (aE Aj (aa 0) (aa 1)) (~~~1)) (~~~1)))
def jR:FN:=dh 2 nz
def AY:FS:=(bv (pK (gD (aa 1)) (gN 2) (gF (au (aE n6 (aE qL (aa 2) (aa 0)) (~~~0))) (fy (aE Pm (aa 0) (aa 2)) (gN 0)) bQ))
 (bK (aa 0)))
def p8:FN:=dh 3 AY
def AQ:FS:=(bv (fy (cX 1 [0] (gD (aa 0)) (gN 0) dJ (bO p8 2 {aa 0,aa 1})) (gN 1))
 (bv (Ie (au (aE n6 (aa 1) (aa 0))) (bv (fy (aa 1) (gN 0))
 (fy (cX 1 [0] (gD (aa 0)) (gN 0) dJ (bO p8 2 {aa 0,aa 1})) (gN 1))))
 (bK (aa 0))))
def t8:FN:=dh 2 AQ
def yk:FS:=(bv (fy (aE gG (dF {~~~0}) (aE bu (aa 0) (~~~0))) (gN 2))
 (bv (pK (gD (aa 1)) (gN 3) (bv (fy (aE bu (aE bu (aa 0) (~~~2)) (aa 3)) (gN 4))
 (fy (aE Pm (aE bu (aa 2) (aE bu (aa 4) (~~~0))) (aE Pd (~~~1) (aE bu (aa 4) (~~~1)))) (Tc 2 (aE bu (aa 4) (~~~0))))))
 (bK (ez pU {bO t8 1 {aa 2}}))))
def qj:FN:=dh 5 yk
def sE:FS:=(bv (gF (au (aE n6 (ez gz {aa 1}) (aE bu (aa 0) (~~~0)))) gY bQ)
 (bv (fy (ez pU {cX 2 [1] (L3.sL {aE bu (aa 0) (~~~2)}) (gT 2 (zu (gN 0) (zu (gN 1) Kh))) (au (bO jR 2 {aE bu (aa 2) (aE bu (aa 1) (~~~0)),aE bu (aa 1) (~~~1)})) (aa 0)}) (gN 2))
 (bv (gF (au (aE n6 (bO qj 2 {aa 0,aa 2}) (aa 1))) gY bQ)
 (bK (aa 2)))))
def ni:FN:=dh 3 sE
def wN:FS:=(bK (ez pU {cX 1 [1] (gD (aa 0)) (gN 0) (au (aE n6 (aa 0) (aa 1))) (aa 0)}))
def rN:FN:=dh 2 wN
def xy:FS:=(bv (gF (au (aE rB (aa 3) (aa 2))) (bK (pC (.str "up"))) bQ)
 (bv (gF (au (aE cB (bO qj 2 {aa 0,bO rN 2 {aa 2,aa 3}}) (aa 1))) (bK (pC (.str "unsure"))) bQ)
 (bK (pC (.str "sure")))))
def rD:FN:=dh 4 xy
def GW:FS:=(bv (fy (bO ni 2 {aa 0,aa 1}) (gN 2))
 (bK (ez pU {cX 1 [0,1,2] (lr mP {ez gz {aE bu (aa 0) (~~~2)}}) (gN 0) dJ (bO rD 4 {aa 1,aa 2,aa 3,aa 0})})))
def my:FN:=dh 3 GW
def qS:FS:=(bK (PM (x5 iW (pC (.str "")) {cX 2 [] (gD (aa 0)) (gT 2 (zu (gN 0) (zu (gN 1) Kh))) dJ (aE eR (Gx (au (aE cB (aa 1) (pC (.str "down")))) (pC (.str "+")) (pC (.str "-"))) (aa 0))}) (pC (.str "."))))
def eC:FN:=dh 1 qS
def pR:FS:=(bK (PM (x5 iW (pC (.str ",")) {cX 1 [] (gD (aa 0)) (gN 0) dJ (ez iG {aa 0})}) (pC (.str "."))))
def fC:FN:=dh 1 pR
end K91
namespace K91
open PySem L2 L3 L10 STP
def g8:g6:=(aR (fx "OneKey" "bound" (aH 0) (am (aa 1)))
 (aR (fx "OneKey" "last" (aH 0) (am (~~~0)))
 (aR (fx "OneKey" "turns" (aH 0) (am (~~~0)))
 (fx "OneKey" "free_from" (aH 0) (am (~~~0))))))
def cA:jW:=eW 2 g8
def kE:g6:=(aR (dW (bU "OneKey" "turns" (aH 0)) (gb 2))
 (aR (fx "OneKey" "turns" (aH 0) (am (aE eE (aa 2) (~~~1))))
 (aR (cT (EJ (b5 (j3 cB (am (aa 1)) (bU "OneKey" "last" (aH 0)))) (b5 (j3 zp (am (aa 2)) (bU "OneKey" "free_from" (aH 0))))) (gB (am (pC .none))) cQ)
 (aR (fx "OneKey" "last" (aH 0) (am (aa 1)))
 (aR (fx "OneKey" "free_from" (aH 0) (j3 eE (am (aa 2)) (bU "OneKey" "bound" (aH 0))))
 (gB (am (aE bu (pC (.tuple [(.str "up"),(.str "down")])) (aa 1)))))))))
def gK:jW:=eW 3 kE
def ip:g6:=(aR (fx "Teller" "frame" (aH 0) (am (aa 1)))
 (fx "Teller" "each_key" (aH 0) (l8 1 [2] (ma (gD (aE bu (aa 1) (~~~2)))) (gb 0) mY (kW "OneKey" cA 2 (aC (am (aa 1)) bx)))))
def cR:jW:=eW 3 ip
def fU:g6:=(aR (dW (kH (bU "Teller" "each_key" (aH 0)) (am (aa 1))) (gb 3))
 (aR (cT (cC (au (aE cB (aa 2) (pC (.str "unsure"))))) (gB (a9 "OneKey" "tell" gK 2 (aH 3) (aC (bU "OneKey" "last" (aH 3)) bx))) cQ)
 (gB (a9 "OneKey" "tell" gK 2 (aH 3) (aC (am (Gx (au (aE cB (aa 2) (pC (.str "sure")))) (~~~1) (~~~0))) bx)))))
def fX:jW:=eW 4 fU
def kx:g6:=(aR (dW (i4 my 2 (aC (bU "Teller" "frame" (aH 0)) (aC (am (aa 1)) bx))) (gb 2))
 (aR (dW (am (dF aq)) (gb 3))
 (aR (wf (ma (L3.sL {aa 2})) (Nz 2 (oQ (gb 4) (oQ (gb 5) z8))) (aR (dW (a9 "Teller" "tell_one" fX 3 (aH 0) (aC (am (aa 4)) (aC (am (aa 5)) bx))) (gb 6))
 (cT (cC (au (aE oh (aa 6) (pC .none)))) (dj (AZ (aH 3) (am (dA {aa 6,aa 4})))) cQ)))
 (gB (aH 3)))))
def gI:jW:=eW 7 kx
def kz:g6:=(gB (Kf pU (aC (yP 2 [] (bU "Teller" "each_key" (aH 0)) (Nz 2 (oQ (gb 0) (oQ (gb 1) z8))) (b5 (j3 cB (bU "OneKey" "last" (aH 1)) (am (~~~1)))) (am (aa 0))) bx)))
def iQ:jW:=eW 1 kz
def gL:g6:=(aR (fx "Desk" "teller" (aH 0) (kW "Teller" cR 3 (aC (am (bO dG 3 {~~~1,~~~1,dF {dA {~~~0,~~~0}}})) (aC (am (~~~0)) bx))))
 (aR (fx "Desk" "bed" (aH 0) (am (bO eK 1 {pC (.str "keys 1 wait 1\nlayer a")})))
 (fx "Desk" "standing" (aH 0) (am (pC (.tuple [(.tuple []),.none,.none]))))))
def gP:jW:=eW 1 gL
def gX:g6:=(aR (dW (am (dF aq)) (gb 2))
 (aR (wf (kX (aH 1)) (gb 3) (aR (dW (DW STP.ve 3 (aC (bU "Desk" "bed" (aH 0)) (aC (bU "Desk" "standing" (aH 0)) (aC (am (aa 3)) bx)))) (gb 4))
 (aR (dj (Ib (aH 2) (kH (aH 4) (am (~~~0)))))
 (fx "Desk" "standing" (aH 0) (kH (aH 4) (am (~~~1)))))))
 (gB (i4 eC 1 (aC (aH 2) bx)))))
def d9:jW:=eW 5 gX
def iu:g6:=(aR (fx "Desk" "teller" (aH 0) (kW "Teller" cR 3 (aC (am (bO dG 3 {aE bu (aa 1) (~~~0),aE bu (aa 1) (~~~1),ez tt {aE bu (aa 1) (~~~3)}})) (aC (am (aE bu (aa 1) (~~~2))) bx))))
 (aR (fx "Desk" "standing" (aH 0) (am (pC (.tuple [(.tuple []),.none,.none]))))
 (gB (am (pC (.str "ok"))))))
def fY:jW:=eW 2 iu
def jh:g6:=(aR (fx "Desk" "bed" (aH 0) (am (bO eK 1 {aa 1})))
 (aR (fx "Desk" "standing" (aH 0) (am (pC (.tuple [(.tuple []),.none,.none]))))
 (gB (am (pC (.str "ok"))))))
def gS:jW:=eW 2 jh
def iL:g6:=(aR (dW (a9 "Teller" "scan" gI 2 (bU "Desk" "teller" (aH 0)) (aC (am (aa 1)) bx)) (gb 2))
 (gB (a9 "Desk" "run_through" d9 2 (aH 0) (aC (j3 eE (l8 1 [0] (kX (aH 2)) (gb 0) (b5 (j3 zp (am (aE bu (aa 0) (~~~1))) (kH (bU "Desk" "bed" (aH 1)) (am (~~~0))))) (am (aa 0))) (am (dF {pC (.tuple [(.str "turn"),(.int 0)])}))) bx))))
def gp:jW:=eW 3 iL
def iJ:g6:=(aR (dW (am (bO dc 1 {aa 1})) (gb 2))
 (aR (dW (am (aE bu (aa 2) (~~~0))) (gb 3))
 (aR (dW (am (aE bu (aa 2) (~~~1))) (gb 4))
 (aR (cT (cC (au (aE cB (aa 3) (pC (.str "frame"))))) (gB (a9 "Desk" "take_frame" fY 2 (aH 0) (aC (am (aa 4)) bx))) cQ)
 (aR (cT (cC (au (aE cB (aa 3) (pC (.str "bed"))))) (gB (a9 "Desk" "take_bed" gS 2 (aH 0) (aC (am (aa 4)) bx))) cQ)
 (aR (cT (cC (au (aE cB (aa 3) (pC (.str "scan"))))) (gB (a9 "Desk" "take_scan" gp 2 (aH 0) (aC (am (aa 4)) bx))) cQ)
 (aR (cT (cC (au (aE mn (aa 3) (dA {pC (.str "down"),pC (.str "up")})))) Ex cQ)
 (aR (cT (cC (au (aE cB (aa 3) (pC (.str "turn"))))) Ex cQ)
 (aR (cT (cC (au (aE cB (aa 3) (pC (.str "keys"))))) (gB (i4 fC 1 (aC (a9 "Teller" "down" iQ 1 (bU "Desk" "teller" (aH 0)) bx) bx))) cQ)
 (aR (cT (cC (au (aE cB (aa 3) (pC (.str "seen"))))) Ex cQ)
 (aR (cT (cC (au (aE cB (aa 3) (pC (.str "states"))))) Ex cQ)
 Ex)))))))))))
def dH:jW:=eW 5 iJ
def oX:g6:=(aR (dW (am (dF aq)) (gb 5))
 (aR (wf (ma (gD (aa 3))) (gb 6) (dj (Ib (aH 5) (i4 gu 1 (aC (a9 "Desk" "say" dH 2 (aH 0) (aC (am (aE eR (pC (.str "scan ")) (bO dZ 2 {aa 2,aa 6}))) bx)) bx)))))
 (aR (cT (b5 (j3 n6 (Kf uN (aC (aH 5) bx)) (aH 4))) (gB (am (pC (.bool Uu)))) cQ)
 (aR (dW (am (x5 iW (pC (.str ",")) {cX 1 [] (gD (aE bu (aa 3) (QD HL (~~~1)))) (gN 0) dJ (ez iG {aa 0})})) (gb 7))
 (gB (j3 cB (a9 "Desk" "say" dH 2 (aH 0) (aC (am (pC (.str "keys"))) bx)) (am (aE bu (dF {aa 7,pC (.str ".")}) (ez Aw {aE cB (aa 7) (pC (.str ""))})))))))))
def iI:jW:=eW 8 oX
def JU:g6:=(aR (dW (am (bO iU 2 {aa 0,~~~0})) (gb 1))
 (aR (dW (am (aE eE (~~~1) (bO cg 3 {aa 1,~~~269,~~~5}))) (gb 2))
 (aR (dW (am (bO jl 2 {aa 1,aa 2})) (gb 3))
 (aR (dW (am (ez zy {aa 3})) (gb 4))
 (aR (dW (am (bO cg 3 {bO iU 2 {aa 0,~~~1},~~~257,~~~3})) (gb 5))
 (aR (dW (kW "Desk" gP 1 bx) (gb 6))
 (aR (dW (am (aE eR (pC (.str "layer ")) (x5 iW (pC (.str " ")) {cX 1 [] (lr mP {aa 2}) (gN 0) dJ (aE kH (pC (.str "abcde")) (aa 0))}))) (gb 7))
 (aR (cT (b5 (j3 n6 (a9 "Desk" "say" dH 2 (aH 6) (aC (am (aE eR (aE eR (aE eR (aE eR (aE eR (pC (.str "bed\nkeys ")) (ez iG {aa 2})) (pC (.str " wait "))) (ez iG {aE eE (~~~1) (bO cg 3 {aa 1,~~~23,~~~4})})) (pC (.str "\n"))) (aa 7))) bx)) (am (pC (.str "ok"))))) (gB (am (pC (.bool Uu)))) cQ)
 (aR (dW (am (x5 iW (pC (.str ",")) {cX 1 [3] (lr mP {aa 4}) (gN 0) dJ (bO i6 2 {aa 1,aa 0})})) (gb 8))
 (aR (cT (b5 (j3 n6 (a9 "Desk" "say" dH 2 (aH 6) (aC (am (x5 iW (pC (.str " ")) {dF (ae (pC (.str "frame")) {ez iG {aE bu (aa 3) (~~~0)},ez iG {aE bu (aa 3) (~~~1)},ez iG {aa 5},aa 8})})) bx)) (am (pC (.str "ok"))))) (gB (am (pC (.bool Uu)))) cQ)
 (aR (dW (qD (am (dF aq))) (gb 9))
 (aR (wf (ma (gD (xR Hg (aa 0) (gy (~~~2)) (gy (aE v1 (~~~63) (aE gG (~~~11) (ez Aw {aE cB (aa 5) (~~~2)}))))))) (gb 1) (aR (dW (am (FC (gm vU zp (~~~0) (aa 1) (aE IJ (~~~10) (~~~18))))) (gb 10))
 (aR (dW (qD (am (bO iC 3 {aa 4,aa 1,~~~263}))) (gb 11))
 (aR (cT (cC (au (aa 10))) (dW (qD (am (cX 1 [1] (lr mP {aa 4}) (gN 0) (au (aE cB (aE qL (aE Aj (aa 1) (aa 0)) (~~~1)) (~~~1))) (aa 0)))) (gb 11)) cQ)
 (aR (dW (qD (am (bO ia 6 (ae (aa 4) (ae (aa 5) {aa 9,aa 11,aa 1,aa 10}))))) (gb 12))
 (aR (cT (vW (b5 (zP iI 5 (aC (aH 6) (aC (am (aa 2)) (aC (am (aa 3)) (aC (am (aa 12)) (aC (am (bO jE 3 {aa 2,aa 9,aa 11})) bx)))))))) (gB (am (pC (.bool Uu)))) cQ)
 (dW (qD (am (aa 11))) (gb 9))))))))
 (gB (am (pC (.bool P))))))))))))))))
def F_law:jW:=eW 13 JU
def kf(b l t f:Int):G (Str×SV):=[("bound",.fz (.int b)),("last",.fz (.int l)),("turns",.fz (.int t)),("free_from",.fz (.int f))]
abbrev kC(b t:Int)(s:Int×Int):Cell:=.obj "OneKey" (kf b s.1 t s.2)
def kN(t:Int)(s:Int×Int)(r:Int):Bool:=decide (r=s.1)||decide (t<s.2)
def kS(b t:Int)(s:Int×Int)(r:Int):Int×Int:=if kN t s r=P then s else(r,t+b)
def tw(r:Int):Str:=if r=1 then "down" else "up"
def QH(t:Int)(s:Int×Int)(r:Int):D:=if kN t s r=P then .none else .str (tw r)
section
variable{b l t f y:Int}
def KW:(kf b l t f).lookup ("bound":Str)=-(.int b):=by with_unfolding_all rfl
def BD:(kf b l t f).lookup ("last":Str)=-(.int l):=by with_unfolding_all rfl
def KS:(kf b l t f).lookup ("turns":Str)=-(.int t):=by with_unfolding_all rfl
def Px:(kf b l t f).lookup ("free_from":Str)=-(.int f):=by with_unfolding_all rfl
def CG:(kf b l t f).lookup ("tell":Str)=L:=by with_unfolding_all rfl
def Ma:dI "turns" (.fz (.int y)) (kf b l t f)=kf b l y f:=by with_unfolding_all rfl
def OV:dI "last" (.fz (.int y)) (kf b l t f)=kf b y t f:=by with_unfolding_all rfl
def OO:dI "free_from" (.fz (.int y)) (kf b l t f)=kf b l t y:=by with_unfolding_all rfl
def Ri:dI "free_from" (.fz (.int 0)) (dI "turns" (.fz (.int 0)) (dI "last" (.fz (.int 0)) (dI "bound" (.fz (.int b)) [])))=kf b 0 0 0:=by with_unfolding_all rfl
end
def ig{Z:bC}{k:Nat}{c d:Cell}(h:Z[k]?=R c):(Z.set k d)[k]?=R d:=by rw[W2 (Uo.mp h).1]
def eZ{Z:bC}{k j:Nat}{c d:Cell}(n:k≠j)(h:Z[j]?=R c):(Z.set k d)[j]?=R c:=by rw[Xl n];show h
def eU{Z J:bC}{k:Nat}{c:Cell}(h:Z[k]?=R c):(Z++J)[k]?=R c:=by rw[U6 (Uo.mp h).1];show h
def F4{r:Int}(a:r=0\/r=1):bu (.tuple [.str "up",.str "down"]) (.int r)=-(.str (tw r)):=by
 rcases a with rfl|rfl
 .show jK
 .show jX
def xD{Z:bC}{k:Nat}{b t r:Int}{s:Int×Int}(a:Z[k]?=R (kC b t s))(j:r=0\/r=1):gK [.rf k,.fz (.int r)] Z=.ok (.fz (QH t s r)) (Z.set k (kC b (t+1) (kS b t s r))):=by
 let(l,f):=s;let h:=ig (d:=kC b (t+1) (l,f)) a;show gc (ρ:=[R (.rf k),-(.int r),L]) W ?_;ext kE;show bq (fL (ρ1:=[R (.rf k),-(.int r),-(.int t)]) (fF (aV W) a KS) W) ?_;show bq (eV (x:=.fz (.int (t+1))) (ai (by ext:8)) (aV W) a (by show 4<100;decide)) ?_;rw[Ma];let g:b5 (j3 cB (am (aa 1)) (bU "OneKey" "last" (aH 0))) [R (.rf k),-(.int r),-(.int t)] (Z.set k (kC b (t+1) (l,f)))=.ok (decide (r=l)) (Z.set k (kC b (t+1) (l,f))):=bS (dY (ai (d:=.int r) (by ext:0)) (fF (aV W) h BD) (de (lC r l)));let m:b5 (j3 zp (am (aa 2)) (bU "OneKey" "free_from" (aH 0))) [R (.rf k),-(.int r),-(.int t)] (Z.set k (kC b (t+1) (l,f)))=.ok (decide (t<f)) (Z.set k (kC b (t+1) (l,f))):=bS (dY (ai (d:=.int t) (by ext:0)) (fF (aV W) h Px) (de (rO t f)));let e:EJ (b5 (j3 cB (am (aa 1)) (bU "OneKey" "last" (aH 0)))) (b5 (j3 zp (am (aa 2)) (bU "OneKey" "free_from" (aH 0)))) [R (.rf k),-(.int r),-(.int t)] (Z.set k (kC b (t+1) (l,f)))=.ok (kN t (l,f) r) (Z.set k (kC b (t+1) (l,f))):=by
  ext kN;dsimp only;cases q:decide (r=l)with
  |true=>rw[q]at g;show pS g
  |false=>rw[q]at g;show nG g m
 unfold QH kS;cases q:kN t (l,f) r with
 |true=>rw[q]at e;rw[av W,av W];show gn (fR e (eu (ai bE)))
 |false=>rw[q]at e;rw[ax Ux,ax Ux];let i:=ig (d:=kC b (t+1) (r,f)) a;show bq (d8 e eB) ?_;show bq (eV (x:=.fz (.int r)) (ai (by ext:0)) (aV W) h (by show 4<100;decide)) ?_;rw[OV,Yp];show bq (eV (x:=.fz (.int (t+b))) (dY (ai (d:=.int t) (by ext:0)) (fF (aV W) i KW) (de (zi t b))) (aV W) i (by show 4<100;decide)) ?_;rw[OO,Yp];let w:=F4 j;show eu (ai (by ext:8))
def zf{Z:bC}{b:Int}:cA [.rf Z.length,.fz (.int b)] (Z++[.obj "OneKey" []])=.ok (.fz .none) (Z++[kC b 0 (0,0)]):=by
 let a:∀c d:Cell,(Z++[c]).set Z.length d=Z++[d]:=λc d=>by rw[ZX _ _ (Uy _),XR];rfl
 let at_:∀c:Cell,(Z++[c])[Z.length]?=R c:=λc=>bh;show j6 (ρ:=[R (.rf Z.length),-(.int b)]) W (ρ1:=[R (.rf Z.length),-(.int b)]) ?_;ext g8;show bq (eV (x:=.fz (.int b)) (ai (by ext:0)) (aV W) (at_ _) (by show 0<100;decide)) ?_;rw[a];show bq (eV (x:=.fz (.int 0)) (ai bE) (aV W) (at_ _) (by show 1<100;decide)) ?_;rw[a];show bq (eV (x:=.fz (.int 0)) (ai bE) (aV W) (at_ _) (by show 2<100;decide)) ?_;rw[a];show(eV (x:=.fz (.int 0)) (ai bE) (aV W) (at_ _) (by show 3<100;decide)).trans ?_;rw[a,Ri]
def tf(a:D)(l:Nat):G (Str×SV):=[("frame",.fz a),("each_key",.rf l)]
section
variable{Z:D}{l:Nat}
def KN:(tf Z l).lookup ("frame":Str)=-(Z):=by with_unfolding_all rfl
def F2:(tf Z l).lookup ("each_key":Str)=R (.rf l):=by with_unfolding_all rfl
def OB:(tf Z l).lookup ("scan":Str)=L:=by with_unfolding_all rfl
def Oz:(tf Z l).lookup ("down":Str)=L:=by with_unfolding_all rfl
def RH:(tf Z l).lookup ("tell_one":Str)=L:=by with_unfolding_all rfl
end
abbrev tC(a:D)(l:Nat):Cell:=.obj "Teller" (tf a l)
structure TL(Z:bC)(T l:Nat)(fr:D)(b:Int)(ks:G Nat)(g:Nat->Int×(Int×Int)):Prop where
 t:Z[T]?=R (tC fr l)
 l:Z[l]?=R (.lst (ks.map .rf))
 nd:ks.Nodup
 k:∀(j k:Nat),ks[j]?=R k->Z[k]?=R (kC b (g j).1 (g j).2)
def Kp(S:G Nat)(Z a:bC):Prop:=∀(j:Nat) (c:Cell),Z[j]?=R c->j∉S->a[j]?=R c
theorem Kp.refl{S:G Nat}{Z:bC}:Kp S Z Z:=λ_ _ h _=>h
theorem Kp.trans{S:G Nat}{Z e d:bC}(a:Kp S Z e)(b:Kp S e d):Kp S Z d:=λj c h n=>b j c (a j c h n) n
theorem Kp.mono{S b:G Nat}{Z d:bC}(a:Kp S Z d)(h:∀x∈S,x∈b):Kp b Z d:=λj c e n=>a j c e λz=>n (h j z)
theorem Kp.app{S:G Nat}{Z J:bC}:Kp S Z (Z++J):=λ_ _ h _=>eU h
theorem Kp.set{S:G Nat}{Z:bC}{i:Nat}{c:Cell}(h:i∈S):Kp S Z (Z.set i c):=λj d e n=>eZ (λz=>n (z▸h)) e
theorem Kp.new{S:G Nat}{Z J:bC}{i:Nat}{c:Cell}(h:Z.length<=i):Kp S Z ((Z++J).set i c):=λj d e n=>eZ (λz=>by let:=(Uo.mp e).1;ext) (eU e)
section
variable{Z U:bC}{T l:Nat}{Y:D}{b:Int}{X:cn Nat}{g:Nat->Int×(Int×Int)}
def TL.aks(h:TL Z T l Y b X g):T∉X/\l∉X/\T≠l:=by
 show#[λz=>?_,λz=>?_,λz=>?_]
 .let(j,a):=VS.mp z;let:=(h.k j T a).symm.trans h.t;ext this
 .let(j,a):=VS.mp z;let:=(h.k j l a).symm.trans h.l;ext this
 .subst z;let:=h.t.symm.trans h.l;ext this
theorem TL.kp{S:G Nat}(h:TL Z T l Y b X g)(k:Kp S Z U)(f:T∉S)(e:l∉S)(d:∀x∈X,x∉S):TL U T l Y b X g:=#[k _ _ h.t f,k _ _ h.l e,h.nd,λj x a=>k _ _ (h.k j x a) (d x (Vb a))]
theorem TL.app(h:TL Z T l Y b X g){J:bC}:TL (Z++J) T l Y b X g:=#[eU h.t,eU h.l,h.nd,λj x a=>eU (h.k j x a)]
def Sv(g:Nat->Int×(Int×Int))(i:Nat)(v:Int×(Int×Int)):Nat->Int×(Int×Int):=λj=>if j=i then v else g j
def TL.put(h:TL Z T l Y b X g){i k:Nat}(c:X[i]?=R k)(v:Int×(Int×Int)):TL (Z.set k (kC b v.1 v.2)) T l Y b X (Sv g i v):=by
 let n:=h.aks;let d:=Vb c;show#[eZ (λz=>n.1 (z▸d)) h.t,eZ (λz=>n.2.1 (z▸d)) h.l,h.nd,λj x a=>?_];ext Sv;by_cases e:j=i
 .subst e;rw[c]at a;ext a;rw[av W];show ig (h.k _ _ c)
 .rw[ax e];show eZ (λz=>e ?_) (h.k j x a);subst z;show(aek (Uo.mp a).1 h.nd).mp (a.trans c.symm)
def MG{a b:Str}(c:Ut.strOk a=P)(d:Ut.strOk b=P):cB (.str a) (.str b)=-(.bool (decide (a=b))):=by show(if((Ut.strOk a&&decide (0<=64))&&Ut.strOk b)=P then R (RV.fz (.bool (Ut.eqv (.str a) (.str b))))else L)=_;rw[c,d];rfl
def rW(w:Str)(l:Int):Int:=if w= "unsure" then l else if w= "sure" then 1 else 0
def Pu(h:TL Z T l Y b X g){i k:Nat}(c:X[i]?=R k){w:Str}(n:w= "up"\/w= "sure"\/w= "unsure")(o:(g i).2.1=0\/(g i).2.1=1):
  fX [.rf T,.fz (nd i),.fz (.str w)] Z=.ok (.fz (QH (g i).1 (g i).2 (rW w (g i).2.1))) (Z.set k (kC b ((g i).1+1) (kS b (g i).1 (g i).2 (rW w (g i).2.1)))):=by
 let d:=h.k i k c;let at_:mo (X.map SV.rf) (i:Int)=R (.rf k):=zm () (by rw[Vz,UK,c];rfl);show gc (ρ:=[R (.rf T),-(nd i),-(.str w),L]) W ?_;ext fU;show bq (fL (ρ1:=[R (.rf T),-(nd i),-(.str w),R (.rf k)]) (OU (y:=.fz (nd i)) (fF (aV W) h.t F2) (ai (by ext:0)) W h.l at_) W) ?_;let f:Ut.strOk w=P:=by rcases n with rfl|rfl|rfl<;>left
 let m:=MG f (b:= "unsure") (by left);let j:=MG f (b:= "sure") (by left);by_cases u:w= "unsure"
 .rw[aP u]at m;let a:rW w (g i).2.1=(g i).2.1:=av u;rw[a];show gn (fR (bz (by ext:0)) (eu (fH (aV W) d CG (aF (fF (aV W) d BD) aX) W (xD d o))))
 .rw[a6 u]at m
  show bq (d8 (bz (by ext:0)) eB) ?_;by_cases v:w= "sure"
  .rw[aP v]at j
   let a:rW w (g i).2.1=1:=by ext rW;rw[ax u,av v]
   rw[a];let e:am (Gx (au (aE cB (aa 2) (pC (.str "sure")))) (~~~1) (~~~0)) [R (.rf T),-(nd i),-(.str w),R (.rf k)] Z=.ok (.fz (.int 1)) Z:=ai (show(au (aE cB (aa 2) (pC (.str "sure"))) _).bind _=_ by rw[show au (aE cB (aa 2) (pC (.str "sure"))) (cZ [R (.rf T),-(nd i),-(.str w),R (.rf k)])=.ok (P,_) by ext:0];rfl);show eu (fH (aV W) d CG (aF e aX) W (xD d (.inr W)))
  .rw[a6 v]at j
   let a:rW w (g i).2.1=0:=by ext rW;rw[ax u,ax v]
   rw[a];let e:am (Gx (au (aE cB (aa 2) (pC (.str "sure")))) (~~~1) (~~~0)) [R (.rf T),-(nd i),-(.str w),R (.rf k)] Z=.ok (.fz (.int 0)) Z:=ai (show(au (aE cB (aa 2) (pC (.str "sure"))) _).bind _=_ by rw[show au (aE cB (aa 2) (pC (.str "sure"))) (cZ [R (.rf T),-(nd i),-(.str w),R (.rf k)])=.ok (Uu,_) by ext:0];rfl);show eu (fH (aV W) d CG (aF e aX) W (xD d (.inl W)))
end
def LJ:∀(l:G D) (k i:Nat) (d:D),(eF k l)[i]?=R d->∃x,l[i]?=R x/\d=.tuple [nd (k+i),x]:=by
 intro l
 induction l with
 |nil=>intro k i d h;ext h
 |cons a r b=>
  intro k i d h;cases i with
  |zero=>ext h;show#[a,W,W]
  |succ i=>let(x,f,e):=b (k+1) i d h;show#[x,f,by rw[e,aaJ,abf 1 i]]
def SE{α:Type}{r:RS α}{P:α->bC->Prop}(h:Out r P λ_=>False):∃a Z,r=.ok a Z/\P a Z:=by
 cases r with
 |ok a Z=>show#[a,Z,W,h.out]
 |er x Z=>show h.out.elim
 |bad=>show h.out.elim
def wm(c:Str×Nat):D:=.tuple [.str c.1,nd c.2]
section
variable(b:Int)(g:Nat->Int×(Int×Int))(ws:cn Str)
def EC(j:Nat):Int:=rW (ws.getD j "") (g j).2.1
def CP(j:Nat):Int×(Int×Int):=((g j).1+1,kS b (g j).1 (g j).2 (EC g ws j))
def cw(j:Nat):cv (Str×Nat):=if kN (g j).1 (g j).2 (EC g ws j)=P then L else R (tw (EC g ws j),j)
def v3(n:Nat):G (Str×Nat):=(U1 n).filterMap (cw g ws)
def R9(i j:Nat):Int×(Int×Int):=if j<i then CP b g ws j else g j
def Qa(i:Nat):Sv (R9 b g ws i) i (CP b g ws i)=R9 b g ws (i+1):=by
 funext j;unfold Sv R9;by_cases h:j=i
 .subst h;rw[av W,av (WB j)]
 .rw[ax h]
  by_cases a:j<i
  .rw[av a,av ()]
  .rw[ax a,ax ()]
def IS(i:Nat):v3 g ws (i+1)=v3 g ws i++(cw g ws i).toList:=by
 ext v3;rw[List.range_succ,ZY];cases q:cw g ws i with
 |none=>rw[Wh q];rfl
 |some c=>rw[Wi q];rfl
def D4(i:Nat):(v3 g ws i).length<=i:=by let:=Y1 (cw g ws) (U1 i);rw[Vh]at this;show this
end
theorem TL.lt{Z:bC}{T l:Nat}{e:D}{b:Int}{c:G Nat}{g:Nat->Int×(Int×Int)}(h:TL Z T l e b c g):T<Z.length/\l<Z.length/\∀k∈c,k<Z.length:=#[(Uo.mp h.t).1,(Uo.mp h.l).1,λk a=>by let(j,d):=VS.mp a;show(Uo.mp (h.k j k d)).1]
theorem TL.ext{Z:bC}{T l:Nat}{d:D}{b:Int}{c:G Nat}{g f:Nat->Int×(Int×Int)}(h:TL Z T l d b c g)(e:∀j,j<c.length->g j=f j):TL Z T l d b c f:=#[h.t,h.l,h.nd,λj k a=>by rw[<-e j (Uo.mp a).1];show h.k j k a]
def Mx{Z:bC}{T l:Nat}{n:D}{b:Int}{k:cn Nat}{g:Nat->Int×(Int×Int)}(h:TL Z T l n b k g){t:D}{ws:cn Str}(V:ws.length=k.length)(L:my [n,t]=.ok (.fz (.tuple (ws.map .str))))(K:∀w∈ws,w= "up"\/w= "sure"\/w= "unsure")(N:∀j,j<k.length->(g j).2.1=0\/(g j).2.1=1)(U:k.length<=100):
  ∃s,gI [.rf T,.fz t] Z=.ok (.rf Z.length) s/\s[Z.length]?=cL (.lst (((v3 g ws k.length).map wm).map .fz))/\TL s T l n b k (CP b g ws)/\Kp k Z s:=by
 let lt:=h.lt;let E:Out (gI [.rf T,.fz t] Z) (λv s=>v=.rf Z.length/\s[Z.length]?=cL (.lst (((v3 g ws k.length).map wm).map .fz))/\TL s T l n b k (CP b g ws)/\Kp k Z s) (λ_=>False):=by
  show x8 (ρ:=[cL (.rf T),-(t),CL,CL,CL,CL,CL]) W ?_;ext kx;show eT (x:=.fz (.tuple (ws.map .str))) (ρ1:=[cL (.rf T),-(t),-(.tuple (ws.map .str)),CL,CL,CL,CL]) (vA (ds:=[n,t]) (aF (fF (aV W) h.t KN) (aF (ai (d:=t) (by ext:0)) aX)) W L) W ?_;show eT (x:=.rf Z.length) (Z1:=Z++[.lst []]) (ρ1:=[cL (.rf T),-(t),-(.tuple (ws.map .str)),cL (.rf Z.length),CL,CL,CL]) (ff (ds:=[]) (by ext:0)) W ?_;show rq (yK (λi ρ s=>∃(C B u:cv SV),ρ=[cL (.rf T),-(t),-(.tuple (ws.map .str)),cL (.rf Z.length),C,B,u]/\TL s T l n b k (R9 b g ws i)/\s[Z.length]?=cL (.lst (((v3 g ws i).map wm).map .fz))/\Kp k Z s) (ds:=eF 0 (ws.map .str)) (Z1:=Z++[.lst []]) (na (An (d:=.tuple (ws.map .str)) (a8 (aG W) b4) W W)) #[CL,CL,CL,W,h.app.ext λj _=>(ax (Nat.not_lt_zero j)).symm,bh,Kp.app] ?_ ?_)
  .rintro i d ρ s M ⟨C,B,u,rfl,X,ch,kp⟩
   let(x,m,rfl):=LJ _ _ _ _ M;rw[Yt];rw[UK]at m;cases q:ws[i]? with
   |none=>rw[q]at m;ext m
   |some w=>
   rw[q]at m;ext m;let R:=(Uo.mp q).1;let y:i<k.length:=by ext
   let hi:k[i]?=cL k[i]:=UD y;let F:R9 b g ws i i=g i:=ax (V5 i);let G:ws.getD i ""=w:=by rw[Yz,q];rfl
   let o:=Pu X hi (K w (Vb q)) (by rw[F];show N i y);rw[F]at o;let f:=X.put hi (CP b g ws i);rw[Qa]at f;let e0:rW w (g i).2.1=EC g ws i:=by ext EC;rw[G]
   rw[e0]at o;let I:k[i]≠Z.length:=by let:=lt.2.2 _ (Zk y);ext
   let a:=eZ (d:=kC b (CP b g ws i).1 (CP b g ws i).2) I ch;let p:Kp k Z (s.set k[i] (kC b (CP b g ws i).1 (CP b g ws i).2)):=kp.trans (Kp.set (Zk y));show#[[cL (.rf T),-(t),-(.tuple (ws.map .str)),cL (.rf Z.length),-(nd i),-(.str w),u],s,W,?_];show eT (x:=.fz (QH (g i).1 (g i).2 (EC g ws i))) (ρ1:=[cL (.rf T),-(t),-(.tuple (ws.map .str)),cL (.rf Z.length),-(nd i),-(.str w),-(QH (g i).1 (g i).2 (EC g ws i))]) (fH (aV W) X.t RH (aF (ai (d:=nd i) (by ext:0)) (aF (ai (d:=.str w) (by ext:0)) aX)) W o) W ?_;let r:=IS g ws i;let cl:=D4 g ws i;ext QH;unfold cw at r;cases qk:kN (g i).1 (g i).2 (EC g ws i)with
   |true=>rw[qk,av W]at r;rw[av W];let H:oh .none .none=-(.bool Uu):=W;show uC (d8 (bz (by ext:0)) eB) #[_,_,_,W,f,?_,p];rw[r];show _=cL (Cell.lst (((v3 g ws i++[]).map wm).map .fz));rw[UZ];show a
   |false=>
    rw[qk,ax Ux]at r;rw[ax Ux];let H:oh (.str (tw (EC g ws i))) .none=-(.bool Uq):=W;show uC (fR (bz (by ext:0)) (ka (Jj (x:=.fz (wm (tw (EC g ws i),i))) (aV W) a (ai (by ext:8)) a (by rw[Ur,Ur];ext)))) #[_,_,_,W,f.kp (S:=[Z.length]) (Kp.set UA) (by rw[UH];ext) (by rw[UH];ext) (λx m=>by rw[UH];let:=lt.2.2 x m;ext),?_,?_]
    .rw[r];show(ig a).trans ?_;show _=cL (Cell.lst (((v3 g ws i++[(tw (EC g ws i),i)]).map wm).map .fz));rw[Vf,Vf];rfl
    .show λj c A J=>eZ (λz=>?_) (p j c A J);let:=(Uo.mp A).1;ext
  .rintro ρ s ⟨C,B,u,rfl,X,ch,kp⟩;rw[hV,Ur,V]at X ch;show yA (aV W) #[W,ch,X.ext λj A=>av A,kp]
 let(v,s,e,rfl,Q,P,O):=SE E;show#[s,e,Q,P,O]
def Fi{gt:z9}{ft:wq}{fe:gq}{x:SV}{xs:G SV}{Z:bC}(f:LD.lstAt Z x=R xs)(v:xs.length<1000000)(p:Nat->Bool)(z:Nat->SV)(o:∀i y,xs[i]?=R y->∃a,OJ y=R a/\∀s,s.length=2->∃c,c.length=2/\gt (.tp [.fz (nd i),a]) s Z=.ok c Z/\ft c Z=.ok (p i) Z/\fe c Z=.ok (z i) Z):
  ∀(n m i:Nat) (s:b3) (b:G SV),i+n=xs.length->n<m->b.length<=i->s.length=2->iZ gt ft fe x m i s Z b=.ok (b++((WN i n).filter p).map z) Z:=by
 intro n
 induction n with
 |zero=>intro m i s b u t r g;obtain⟨m,rfl⟩:∃k,m=k+1:=#[m - 1,by ext];ext iZ;rw[f];dsimp only;rw[List.getElem?_eq_none ()];show RS.ok b Z=RS.ok (b++[]) Z;rw[UZ]
 |succ n e=>
  intro m i s b u t r g;obtain⟨m,rfl⟩:∃k,m=k+1:=#[m - 1,by ext];let A:xs[i]?=R xs[i]:=UD ();let(a,B,k):=o i _ A;let(c,d,l,j,h):=k s g;ext iZ;rw[f];dsimp only;rw[A];dsimp only;rw[B];dsimp only;rw[l,ek,j,ek,List.range'_succ];cases q:p i with
  |true=>rw[av W,h,ek,av (),e m (i+1) c _ () () (by rw[UB,WG];ext) d,VZ q,UM,Vl];rfl
  |false=>rw[ax Ux,e m (i+1) c _ () () () d,Wo (by rw[q];show Ux)]
def Kg(g:Nat->Int×(Int×Int))(n:Nat):G Nat:=(U1 n).filter λj=>decide ((g j).2.1=1)
def L6{Z:bC}{T l:Nat}{o:D}{b:Int}{r:G Nat}{g:Nat->Int×(Int×Int)}(h:TL Z T l o b r g)(p:r.length<=100):∃J,iQ [.rf T] Z=.ok (.fz (.tuple (bX (Kg g r.length)))) (Z++J):=by
 let c:=Fi (gt:=Nz 2 (oQ (gb 0) (oQ (gb 1) z8))) (ft:=b5 (j3 cB (bU "OneKey" "last" (aH 1)) (am (~~~1)))) (fe:=am (aa 0)) (x:=.rf l) (xs:=r.map .rf) (Z:=Z) (show LD.lstAt Z (.rf l)=_ by ext LD.lstAt;dsimp only;rw[h.l]) (by rw[Ur];ext) (λj=>decide ((g j).2.1=1)) (λj=>.fz (nd j)) (λi y a=>by
  rw[UK]at a;cases q:r[i]? with
  |none=>rw[q]at a;ext a
  |some k=>
   rw[q]at a;ext a;show#[.rf k,W,λt n=>?_];obtain⟨m,f,rfl⟩:∃m f,t=[m,f]:=by
    match t,n with
    |[m,f],_=>show#[m,f,W]
   show#[[-(nd i),R (.rf k)],W,W,bS (dY (fF (aV W) (h.k i k q) BD) (ai (d:=.int 1) bE) (de (lC _ _))),ai (by ext:0)]) r.length 1000000 0 [L,L] [] (by rw[Ur,Yt]) () (Uy _) W
 rw[<-List.range_eq_range',ZF]at c;show#[[.lst ((bX (Kg g r.length)).map .fz)],?_];show gc (ρ:=[R (.rf T)]) W ?_;ext kz;let e:yP 2 [] (bU "Teller" "each_key" (aH 0)) (Nz 2 (oQ (gb 0) (oQ (gb 1) z8))) (b5 (j3 cB (bU "OneKey" "last" (aH 1)) (am (~~~1)))) (am (aa 0)) [R (.rf T)] Z=.ok (.rf Z.length) (Z++[.lst ((bX (Kg g r.length)).map .fz)]):=by ext yP;rw[fF (aV W) h.t F2,ek];show(kZ (iZ _ _ _ (.rf l) 1000000 0 [L,L] Z [])).bind _=_;rw[c,show((U1 r.length).filter λj=>decide ((g j).2.1=1)).map (λj=>SV.fz (nd j))=(bX (Kg g r.length)).map .fz by unfold bX Kg;rw[Vq];rfl];rfl
 show eu (Nc (aF e aX) (ds:=[.list (bX (Kg g r.length))]) ?_ W);ext bc;rw[iE bh];rfl
def Ka(n:Nat)(c:Cell):Us (n+1) c=Us n c++[c]:=by rw[adA]
def HJ{Z:bC}{d1 d2:D}{sps:G D}{b:Int}(u:sps.length<=100):∃s,cR [.rf Z.length,.fz (.tuple [d1,d2,.tuple sps]),.fz (.int b)] (Z++[.obj "Teller" []])=.ok (.fz .none) s/\TL s Z.length (Z.length+1+sps.length) (.tuple [d1,d2,.tuple sps]) b (WN (Z.length+1) sps.length) (λ_=>(0,(0,0)))/\Kp [] Z s:=by
 let v:=(Ut.tuple [d1,d2,.tuple sps]);let h:∀(c d:Cell) (J:bC),(Z++c::J).set Z.length d=Z++d::J:=λc d J=>by rw[ZX _ _ (Uy _),XR];rfl
 let at_:∀(c:Cell) (J:bC),(Z++c::J)[Z.length]?=R c:=λc J=>by rw[US (Uy _),XR];rfl
 let cm:∀(r:G D) (n:Nat) (o:cv SV),n+r.length<=100->fw (gb 0) mY (kW "OneKey" cA 2 (aC (am (aa 1)) bx)) r [o,-(.int b)] (Z++ .obj "Teller" [("frame",.fz (.tuple [d1,d2,.tuple sps]))]::Us n (kC b 0 (0,0))) ((WN (Z.length+1) n).map .rf)=.ok ((WN (Z.length+1) (n+r.length)).map .rf) (Z++ .obj "Teller" [("frame",.fz (.tuple [d1,d2,.tuple sps]))]::Us (n+r.length) (kC b 0 (0,0))):=by
  intro r
  induction r with
  |nil=>intro n o _;rfl
  |cons d r m=>
   intro n o y;rw[UL]at y;let f:(Z++ .obj "Teller" [("frame",.fz (.tuple [d1,d2,.tuple sps]))]::Us n (kC b 0 (0,0))).length=Z.length+1+n:=by rw[UB,UL,UR];ext
   let i:=vQ (C:= "OneKey") (F:=cA) (n:=2) (fa:=aC (am (aa 1)) bx) (ρ:=[-(d),-(.int b)]) (Z:=Z++ .obj "Teller" [("frame",.fz (.tuple [d1,d2,.tuple sps]))]::Us n (kC b 0 (0,0))) (aF (ai (d:=.int b) (by ext:0)) aX) W zf;rw[f]at i;show((gb 0 (.fz d) [o,-(.int b)] _).bind _)=_;rw[show gb 0 (.fz d) [o,-(.int b)] (Z++ .obj "Teller" [("frame",.fz (.tuple [d1,d2,.tuple sps]))]::Us n (kC b 0 (0,0)))=.ok [-(d),-(.int b)] (Z++ .obj "Teller" [("frame",.fz (.tuple [d1,d2,.tuple sps]))]::Us n (kC b 0 (0,0)))from rfl,ek];show(RS.ok P _).bind _=_;rw[ek,av W,i,ek,av (by rw[Ur,aaM];ext)];let q:(WN (Z.length+1) n).map SV.rf++[.rf (Z.length+1+n)]=(WN (Z.length+1) (n+1)).map .rf:=by rw[List.range'_concat,Vf,aif];rfl
   let p:(Z++ .obj "Teller" [("frame",.fz (.tuple [d1,d2,.tuple sps]))]::Us n (kC b 0 (0,0)))++[kC b 0 (0,0)]=Z++ .obj "Teller" [("frame",.fz (.tuple [d1,d2,.tuple sps]))]::Us (n+1) (kC b 0 (0,0)):=by rw[Vl,Ka];rfl
   rw[q,p,m (n+1) _ (),UL,aaJ,abf 1]
 let l:=cm sps 0 L ();rw[Yt]at l;let f:(Z++ .obj "Teller" [("frame",.fz (.tuple [d1,d2,.tuple sps]))]::Us sps.length (kC b 0 (0,0))).length=Z.length+1+sps.length:=by rw[UB,UL,UR];ext
 show#[Z++tC (.tuple [d1,d2,.tuple sps]) (Z.length+1+sps.length)::(Us sps.length (kC b 0 (0,0))++[.lst ((WN (Z.length+1) sps.length).map .rf)]),?_,#[at_ _ _,?_,List.nodup_range',λj k g=>?_],Kp.app]
 .show j6 (ρ:=[R (.rf Z.length),-(.tuple [d1,d2,.tuple sps]),-(.int b)]) W (ρ1:=[R (.rf Z.length),-(.tuple [d1,d2,.tuple sps]),-(.int b)]) ?_
  ext ip;show bq (eV (x:=.fz (.tuple [d1,d2,.tuple sps])) (ai (by ext:0)) (aV W) (at_ _ []) (by show 0<100;decide)) ?_;rw[h];let e:l8 1 [2] (ma (gD (aE bu (aa 1) (~~~2)))) (gb 0) mY (kW "OneKey" cA 2 (aC (am (aa 1)) bx)) [R (.rf Z.length),-(.tuple [d1,d2,.tuple sps]),-(.int b)] (Z++[.obj "Teller" (dI "frame" (.fz (.tuple [d1,d2,.tuple sps])) [])])=.ok (.rf (Z.length+1+sps.length)) ((Z++ .obj "Teller" [("frame",.fz (.tuple [d1,d2,.tuple sps]))]::Us sps.length (kC b 0 (0,0)))++[.lst ((WN (Z.length+1) sps.length).map .rf)]):=by let t:fw (gb 0) mY (kW "OneKey" cA 2 (aC (am (aa 1)) bx)) sps (k7 1 [2] [R (.rf Z.length),-(.tuple [d1,d2,.tuple sps]),-(.int b)]) (Z++[.obj "Teller" [("frame",.fz (.tuple [d1,d2,.tuple sps]))]]) []=.ok ((WN (Z.length+1) sps.length).map .rf) (Z++ .obj "Teller" [("frame",.fz (.tuple [d1,d2,.tuple sps]))]::Us sps.length (kC b 0 (0,0))):=l;let:=tY (fi:=ma (gD (aE bu (aa 1) (~~~2)))) (ρ:=[R (.rf Z.length),-(.tuple [d1,d2,.tuple sps]),-(.int b)]) (na (nZ (d:=.tuple sps) (b8 (rv:=.fz (.tuple sps)) (aG W) bE W W sZ) W W)) t;rw[f]at this;show this
  show(eV (x:=.rf (Z.length+1+sps.length)) e (aV W) (by rw[Vl];show at_ _ _) (by show 1<100;decide)).trans ?_;rw[Vl];show RS.ok _ ((Z++Cell.obj "Teller" [("frame",.fz (.tuple [d1,d2,.tuple sps]))]::(Us sps.length (kC b 0 (0,0))++[.lst ((WN (Z.length+1) sps.length).map .rf)])).set Z.length _)=_;rw[h];rfl
 .rw[US (),show Z.length+1+sps.length - Z.length=sps.length+1 by ext,WX,US (by rw[UR];show Uy _),UR,XR];rfl
 .let a:=(Uo.mp g).1;rw[aaM]at a;rw[List.getElem?_range' a,aif]at g;ext g;rw[US (),show Z.length+1+j - Z.length=j+1 by ext,WX,U6 (by rw[UR];show a),Wm,av a]
section
variable{X:b3}{Z U Y:bC}
def LQ(n:Nat){i:Nat}{ds:G D}(h:Z[i]?=R (.lst (ds.map .fz))):zr (n+1) Z (.rf i)=R (.list ds):=by
 ext zr;rw[h];dsimp only;let e:∀ds:G D,bc (zr n Z) (ds.map .fz)=R ds:=λds=>by
  induction ds with
  |nil=>rfl
  |cons d r a=>rw[UM];ext bc;rw[a,show zr n Z (.fz d)=R d by ext n<;>rfl]
 rw[e];rfl
def KL{F:FN}{n:Nat}{c:Bq}{xs:G SV}{ds:G D}{d:D}(i:c X Z=.ok xs U)(f:bc zo xs=L)(b:bc (zr 6 U) xs=R ds)(h:xs.length=n)(e:F ds=.ok (.fz d))(a:FB d=P):i4 F n c X Z=.ok (.fz d) U:=by
 ext i4;rw[i,ek];ext xj;rw[av h,f];dsimp only;rw[b];show kZ (match F ds with
  |.ok g=>wE U g
  |_=>.bad)=_
 rw[e];show kZ (if FB d=P then RS.ok (SV.fz d) U else RS.bad)=_;rw[av a];rfl
def Iu{e c:gq}{xs a:G SV}{i j:Nat}(f:e X Z=.ok (.rf i) U){b:G SV}(n:U[i]?=R (.lst b))(m:c X U=.ok (.rf j) Y)(l:Y[j]?=R (.lst a))(k:Y[i]?=R (.lst xs))(g:xs.length+a.length<=1000000):Ib e c X Z=.ok (.fz .none) (Y.set i (.lst (xs++a))):=by
 let d:∀{Z:bC} {i:Nat} {xs:G SV},Z[i]?=R (.lst xs)->ii Z (.rf i)=R (i,xs):=λ{Z i xs} h=>by ext ii;dsimp only;rw[h]
 ext Ib;rw[f,ek,d n];show((c X U).bind _)=_;rw[m,ek,d l];show((RS.Vm Y (ii Y (.rf i))).bind _)=_;rw[d k];show(if xs.length+a.length<=1000000 then RS.ok (SV.fz .none) (Y.set i (.lst (xs++a)))else .bad)=_;rw[av g]
def K5{f:D->D->cv RV}{x y:SV}{c a:D}{ds:G D}(d:sh Z x=R c)(b:sh Z y=R a)(h:f c a=R (.ow ds)):uG f x y Z=.ok (.rf Z.length) (Z++[.lst (ds.map .fz)]):=by ext uG;rw[d,b];show((RS.Vm Z (f c a)).bind λe U=>me U e)=_;rw[h];rfl
def DH{c fb:gq}{y:SV}{l:G AV}{a:AV}{i:Int}(f:c X Z=.ok (.tp l) U)(d:fb X U=.ok y Y)(e:EN y=R i)(b:mo l i=R a):L10.kH c fb X Z=.ok a.sv Y:=by ext L10.kH;rw[f,ek,d,ek];ext K8;dsimp only;rw[e];show RS.Vm Y ((mo l i).map AV.sv)=_;rw[b];rfl
def Hr{F:jW}{n:Nat}{b:Bq}{xs:G SV}{x:SV}(c:b X Z=.ok xs U)(a:wY F n xs U=.ok x Y):DW F n b X Z=.ok x Y:=by ext DW;rw[c,ek,a];rfl
def Fe{α:Type}{gt:z9}{k:wq}{n:gq}(e:α->D)(p:α->Bool)(I:b3->Prop):∀(xs:G α) (X:b3) (a:G SV),I X->a.length+xs.length<=1000000->(∀x∈xs,∀X,I X->∃c,gt (.fz (e x)) X Z=.ok c Z/\k c Z=.ok (p x) Z/\n c Z=.ok (.fz (e x)) Z/\I c)->fw gt k n (xs.map e) X Z a=.ok (a++((xs.filter p).map e).map .fz) Z:=by
 intro xs
 induction xs with
 |nil=>intro X a _ _ _;show RS.ok a Z=RS.ok (a++[]) Z;rw[UZ]
 |cons x r f=>
  intro X a m h d;let(c,l,j,i,g):=d x UA X m;rw[UL]at h;show((gt (.fz (e x)) X Z).bind _)=_;rw[l,ek,j,ek];cases q:p x with
  |true=>rw[av W,i,ek,av (),f c _ g (by rw[UB,WG];ext) λy b=>d y (UC _ b),VZ q,Vl];rfl
  |false=>rw[ax Ux,f c _ g () λy b=>d y (UC _ b),Wo (by rw[q];show Ux)]
end
def df(T:Nat)(a st:D):G (Str×SV):=[("teller",.rf T),("bed",.fz a),("standing",.fz st)]
section
variable{T:Nat}{Z X x:D}
def Ar:(df T Z X).lookup ("teller":Str)=R (.rf T):=by with_unfolding_all rfl
def MN:(df T Z X).lookup ("bed":Str)=-(Z):=by with_unfolding_all rfl
def To:(df T Z X).lookup ("standing":Str)=-(X):=by with_unfolding_all rfl
def QS:(df T Z X).lookup ("run_through":Str)=L:=by with_unfolding_all rfl
def Dk:(df T Z X).lookup ("say":Str)=L:=by with_unfolding_all rfl
def Ts:(df T Z X).lookup ("take_frame":Str)=L:=by with_unfolding_all rfl
def Tb:(df T Z X).lookup ("take_bed":Str)=L:=by with_unfolding_all rfl
def SZ:(df T Z X).lookup ("take_scan":Str)=L:=by with_unfolding_all rfl
def F9{U:Nat}:dI "teller" (.rf U) (df T Z X)=df U Z X:=by with_unfolding_all rfl
def Se:dI "bed" (.fz x) (df T Z X)=df T x X:=by with_unfolding_all rfl
def NW:dI "standing" (.fz x) (df T Z X)=df T Z x:=by with_unfolding_all rfl
def R8{U:Nat}:dI "standing" (.fz X) (dI "bed" (.fz Z) (dI "teller" (.rf U) []))=df U Z X:=by with_unfolding_all rfl
end
abbrev dC(T:Nat)(a st:D):Cell:=.obj "Desk" (df T a st)
abbrev kJ:D:=.tuple [.tuple [],.none,.none]
def Bw{Z:bC}{D T e:Nat}{b:Bd}(C:VB b){s:Xm}(I:SW b s){f:cn Evn}(G:∀e∈f,EV b e)(hd:Z[D]?=cL (dC T (bD b) (ix s)))(h:Z[e]?=cL (.lst ((f.map pO).map .fz)))(A:∀i,i<=f.length->(fN b s (f.take i)).2.flatten.length<=1000){z:Str}(V:eC [.list ((fN b s f).2.flatten.map Bl)]=.ok (.fz (.str z))):
  ∃k,d9 [.rf D,.rf e] Z=.ok (.fz (.str z)) k/\k[D]?=cL (dC T (bD b) (ix (fN b s f).1))/\Kp [D,e] Z k:=by
 let R:=(Uo.mp hd).1;let Q:=(Uo.mp h).1;let ne:e≠D:=λq=>by subst q;let:=hd.symm.trans h;ext this
 let u:Out (d9 [.rf D,.rf e] Z) (λv k=>v=.fz (.str z)/\k[D]?=cL (dC T (bD b) (ix (fN b s f).1))/\Kp [D,e] Z k) (λ_=>False):=by
  show x8 (ρ:=[cL (.rf D),cL (.rf e),CL,CL,CL]) W ?_;ext gX;show eT (x:=.rf Z.length) (Z1:=Z++[.lst []]) (ρ1:=[cL (.rf D),cL (.rf e),cL (.rf Z.length),CL,CL]) (ff (ds:=[]) (by ext:0)) W ?_;show rq (yK (λi U k=>∃(r o:cv SV),U=[cL (.rf D),cL (.rf e),cL (.rf Z.length),r,o]/\k[D]?=cL (dC T (bD b) (ix (fN b s (f.take i)).1))/\k[Z.length]?=cL (.lst (((fN b s (f.take i)).2.flatten.map Bl).map .fz))/\Kp [D,e] Z k) (ds:=f.map pO) (Z1:=(Z++[Cell.lst []]).set e Cell.dead) (xA (aV W) (eU h)) #[CL,CL,W,eZ ne (eU hd),eZ () (bh:(Z++[Cell.lst []])[Z.length]?=_),Kp.app.trans (Kp.set (UC _ UA))] ?_ ?_)
  .rintro i d U k S ⟨r,o,rfl,g,m,kp⟩
   rw[UK]at S;cases q:f[i]? with
   |none=>rw[q]at S;ext S
   |some ev=>
   rw[q]at S;ext S;let L:=(Uo.mp q).1;let H:f.take (i+1)=f.take i++[ev]:=by rw[aa5,q];rfl
   let p:SW b (fN b s (f.take i)).1:=Dx C _ I λx M=>G x (ady M);let K:=RJ C p (G ev (Vb q)) (Z:=k);let r1:fN b s (f.take (i+1))=((dD b (fN b s (f.take i)).1 ev).1,(fN b s (f.take i)).2++[(dD b (fN b s (f.take i)).1 ev).2]):=by rw[H,uL];rfl
   let B:=A (i+1) L;rw[r1]at B⊢;rw[aas,List.flatten_singleton]at B⊢;rw[UB]at B;let P:=(Uo.mp g).1;let O:=(Uo.mp m).1;let n:=eU (J:=[.lst (((dD b (fN b s (f.take i)).1 ev).2.map Bl).map .fz)]) g;let l:=eU (J:=[.lst (((dD b (fN b s (f.take i)).1 ev).2.map Bl).map .fz)]) m;let t:Z.length≠D:=by ext
   show#[[cL (.rf D),cL (.rf e),cL (.rf Z.length),-(pO ev),o],k,W,?_];show eT (x:=.tp [.rf k.length,.fz (ix (dD b (fN b s (f.take i)).1 ev).1)]) (ρ1:=[cL (.rf D),cL (.rf e),cL (.rf Z.length),-(pO ev),cL (.tp [.rf k.length,.fz (ix (dD b (fN b s (f.take i)).1 ev).1)])]) (Hr (aF (fF (aV W) g MN) (aF (fF (aV W) g To) (aF (ai (d:=pO ev) (by ext:0)) aX))) K) W ?_;show Nt (ka (Iu (aV W) l (DH (y:=.fz (.int 0)) (a:=.rf k.length) (aV W) (ai bE) W W) bh l (by simp only[Ur];ext))) ?_;show uC (eV (x:=.fz (ix (dD b (fN b s (f.take i)).1 ev).1)) (DH (y:=.fz (.int 1)) (a:=.fz (ix (dD b (fN b s (f.take i)).1 ev).1)) (aV W) (ai bE) W W) (aV W) (eZ t n) (by show 3<100;decide)) #[_,_,W,?_,?_,?_]
   .rw[NW];show ig (eZ t n)
   .rw[Vf,Vf];show eZ (d0 t) (ig l)
   .show λj c F E=>eZ (λw=>E (w▸UA)) (eZ (λw=>?_) (eU (kp j c F E)));let:=(Uo.mp F).1;ext
  .rintro U k ⟨r,o,rfl,g,m,kp⟩;rw[Ur,ae0]at g m;show yA (KL (ds:=[.list ((fN b s f).2.flatten.map Bl)]) (aF (aV W) aX) W (by ext bc;rw[LQ 5 m];rfl) W V W) #[W,g,kp]
 let(v,k,N,rfl,g,m):=SE u;show#[k,N,g,m]
def dq:Nat->D->D->Bool
 |0,_,_=>Uu
 |_+1,.int a,.int b=>a==b
 |_+1,.str a,.str b=>a==b
 |_+1,.none,.none=>P
 |_+1,.bool a,.bool b=>a==b
 |n+1,.tuple a,.tuple b=>a.length==b.length&&(a.zip b).all λp=>dq n p.1 p.2
 |n+1,.list a,.list b=>a.length==b.length&&(a.zip b).all λp=>dq n p.1 p.2
 |_,_,_=>Uu
def Gz{f:D->D->Bool}(i:∀a b,f a b=P->a=b):∀{a b:G D},(a.length==b.length&&(a.zip b).all λp=>f p.1 p.2)=P->a=b:=by
 intro a
 induction a with
 |nil=>
  intro b h;cases b with
  |nil=>rfl
  |cons y s=>ext h
 |cons x r g=>
  intro b h;cases b with
  |nil=>ext h
  |cons y s=>rw[UO]at h;let(e,d):=h;rw[List.zip_cons_cons,List.all_cons,UO]at d;let e:=eq_of_beq e;rw[i x y d.1,g (b:=s) (by rw[UO];show#[beq_iff_eq.mpr (by simpa using e),d.2])]
def HW:∀(n:Nat) (a b:D),dq n a b=P->a=b:=by
 intro n
 induction n with
 |zero=>intro a b h;ext h
 |succ n d=>
  intro a b h;unfold dq at h;split at h
  .ext h
  .rw[eq_of_beq h]
  .rw[eq_of_beq h]
  .rfl
  .rw[eq_of_beq h]
  .rename_i e;ext e;rw[Gz d h]
  .rename_i e;ext e;rw[Gz d h]
  .ext h
def Pg(r:Res RV)(d:D):Bool:=match r with
 |.ok (.fz e)=>dq 8 e d
 |_=>Uu
def mB{r:Res RV}{d:D}(h:Pg r d=P):r=.ok (.fz d):=by
 unfold Pg at h;split at h
 .rw[HW _ _ _ h]
 .ext h
def Tw(r:Res RV)(ds:G D):Bool:=match r with
 |.ok (.ow a)=>dq 8 (.list a) (.list ds)
 |_=>Uu
def PP{r:Res RV}{ds:G D}(h:Tw r ds=P):r=.ok (.ow ds):=by
 unfold Tw at h;split at h
 .cases HW _ _ _ h;rfl
 .ext h
structure DK(Z:bC)(Q T l:Nat)(fr:D)(b:Int)(ks:G Nat)(g:Nat->Int×(Int×Int))(Zq st:D):Prop where
 d:Z[Q]?=R (dC T Zq st)
 t:TL Z T l fr b ks g
section
variable{Z:bC}{Q T l:Nat}{Y:D}{b:Int}{t:cn Nat}{g:Nat->Int×(Int×Int)}{Zq st:D}
def DK.ne(h:DK Z Q T l Y b t g Zq st):Q≠T/\Q≠l/\Q∉t:=by
 show#[λz=>?_,λz=>?_,λz=>?_]
 .subst z;let:=h.d.symm.trans h.t.t;show bg (show("Desk":Str)= "Teller" from ec (λc:cv Cell=>match c with|some (.obj C _)=>C|_=> "") this) (by left)
 .subst z;let:=h.d.symm.trans h.t.l;ext this
 .let(j,a):=VS.mp z;let:=h.d.symm.trans (h.t.k j Q a);show bg (show("Desk":Str)= "OneKey" from ec (λc:cv Cell=>match c with|some (.obj C _)=>C|_=> "") this) (by left)
def Nf(c:Str×Nat):Evn:=if c.1= "down" then .down c.2 else .up c.2
def xX(n:Int)(cs:G (Str×Nat)):G Evn:=(cs.filter λc=>decide ((c.2:Int)<n)).map Nf++[.turn]
def RZ{c:Str×Nat}(h:c.1= "down"\/c.1= "up"):wm c=pO (Nf c):=by
 let(x,k):=c;rcases h with h|h
 .let h:x= "down":=h;subst h;ext Nf;rw[av W];rfl
 .let h:x= "up":=h;subst h;ext Nf;rw[ax (show¬("up":Str)= "down" by left)];rfl
def Py{B:Bd}{cs:G (Str×Nat)}:∀e∈xX B.n cs,EV B e:=by
 intro e a;rcases VF.mp a with a|a
 .let(c,d,rfl):=U7.mp a
  let:=a7 (Ve.mp d).2;ext Nf;split
  .show this
  .show this
 .rw[UH.mp a];trivial
def RU{g:Nat->Int×(Int×Int)}{ws:G Str}{n:Nat}:∀c∈v3 g ws n,c.1= "down"\/c.1= "up":=by
 intro c a;let(j,_,h):=WE.mp a;unfold cw at h;split at h
 .ext h
 .ext h
  ext tw;split
  .show .inl W
  .show .inr W
def xC{B:Bd}{s:Xm}(h:DK Z Q T l Y b t g (bD B) (ix s))(A:VB B)(F:SW B s){k:D}{ws:cn Str}(hn:ws.length=t.length)(J:my [Y,k]=.ok (.fz (.tuple (ws.map .str))))(I:∀w∈ws,w= "up"\/w= "sure"\/w= "unsure")(M:∀j,j<t.length->(g j).2.1=0\/(g j).2.1=1)(K:t.length<=100)
  (q:∀i,i<=(xX B.n (v3 g ws t.length)).length->(fN B s ((xX B.n (v3 g ws t.length)).take i)).2.flatten.length<=1000) {z:Str} (hz:eC [.list ((fN B s (xX B.n (v3 g ws t.length))).2.flatten.map Bl)]=.ok (.fz (.str z))):
  ∃V,gp [.rf Q,.fz k] Z=.ok (.fz (.str z)) V/\DK V Q T l Y b t (CP b g ws) (bD B) (ix (fN B s (xX B.n (v3 g ws t.length))).1)/\Kp (Q::t) Z V:=by
 let ne:=h.ne;let lt:=h.t.lt;let ql:=(Uo.mp h.d).1;let(a,R,y,E,u):=Mx h.t hn J I M K;let n1:=(Uo.mp y).1;let d1:=u _ _ h.d ne.2.2;let cl:=D4 g ws t.length;generalize hcs:v3 g ws t.length=cs at*;let v:(a.set Z.length .dead)[Q]?=_:=eZ () d1;let cm:l8 1 [0] (kX (aH 2)) (gb 0) (b5 (j3 zp (am (aE bu (aa 0) (~~~1))) (kH (bU "Desk" "bed" (aH 1)) (am (~~~0))))) (am (aa 0)) [cL (.rf Q),-(k),cL (.rf Z.length)] a=.ok (.rf (a.set Z.length .dead).length) (a.set Z.length .dead++[Cell.lst (((cs.filter λc=>decide ((c.2:Int)<B.n)).map wm).map .fz)]):=by show tY (xA (aV W) y) ?_;show(Fe wm (λc=>decide ((c.2:Int)<B.n)) (λρ=>∃o,ρ=[o,cL (.rf Q)]) cs _ [] #[CL,W] (by rw[W5];ext) ?_);rintro c _ ρ ⟨o,rfl⟩;show#[[-(wm c),cL (.rf Q)],W,?_,ai (by ext:0),_,W];show bS (dY (ai (d:=nd c.2) (b8 (rv:=.fz (nd c.2)) (aG W) bE W W jX)) (eN (fF (aV W) v MN) (ai (d:=.int 0) bE) (jK:bu (bD B) (.int 0)=-(.int B.n))) (de (rO _ _)))
 let N:(cs.filter λc=>decide ((c.2:Int)<B.n)).map wm++[.tuple [.str "turn",.int 0]]=(xX B.n cs).map pO:=by ext xX;rw[Vf,Vq];congr 1;show Ww λc L=>RZ ?_;let:=RU (g:=g) (ws:=ws) (n:=t.length) c;rw[hcs]at this;show this (Ve.mp L).1
 generalize hZ2:a.set Z.length .dead=Z2 at*;let l2:Z2.length=a.length:=by rw[<-hZ2,VO]
 let H:Kp t Z Z2:=λj c e f=>by rw[<-hZ2];let:=(Uo.mp e).1;show eZ () (u j c e f)
 let C:TL Z2 T l Y b t (CP b g ws):=by rw[<-hZ2];show E.kp (S:=[Z.length]) (Kp.set UA) (by rw[UH];ext) (by rw[UH];ext) λx m=>by rw[UH];let:=lt.2.2 x m;ext
 let G:j3 eE (l8 1 [0] (kX (aH 2)) (gb 0) (b5 (j3 zp (am (aE bu (aa 0) (~~~1))) (kH (bU "Desk" "bed" (aH 1)) (am (~~~0))))) (am (aa 0))) (am (dF {pC (.tuple [.str "turn",.int 0])})) [cL (.rf Q),-(k),cL (.rf Z.length)] a=.ok (.rf (Z2.length+2)) (Z2++[Cell.lst (((cs.filter λc=>decide ((c.2:Int)<B.n)).map wm).map .fz),Cell.lst ([.tuple [.str "turn",.int 0]].map .fz),Cell.lst (((xX B.n cs).map pO).map .fz)]):=by
  let a1:(Z2++[Cell.lst (((cs.filter λc=>decide ((c.2:Int)<B.n)).map wm).map .fz)]++[.lst ([.tuple [.str "turn",.int 0]].map .fz)])[Z2.length]?=cL (Cell.lst (((cs.filter λc=>decide ((c.2:Int)<B.n)).map wm).map .fz)):=eU bh;let a2:(Z2++[Cell.lst (((cs.filter λc=>decide ((c.2:Int)<B.n)).map wm).map .fz)]++[.lst ([.tuple [.str "turn",.int 0]].map .fz)])[(Z2++[Cell.lst (((cs.filter λc=>decide ((c.2:Int)<B.n)).map wm).map .fz)]).length]?=cL (Cell.lst ([.tuple [.str "turn",.int 0]].map .fz)):=bh;let fl:(cs.filter λc=>decide ((c.2:Int)<B.n)).length<=cs.length:=WH _ _;let ad:eE (.list ((cs.filter λc=>decide ((c.2:Int)<B.n)).map wm)) (.list [.tuple [.str "turn",.int 0]])=cL (.ow ((xX B.n cs).map pO)):=by rw[<-N];show(if((cs.filter λc=>decide ((c.2:Int)<B.n)).map wm).length+1<=1000000 then cL (RV.ow _)else CL)=_;rw[av (by rw[Ur];ext)]
  show(dY cm (ff (ds:=[.tuple [.str "turn",.int 0]]) (by ext:8)) (K5 (iE a1) (iE a2) ad)).trans ?_;congr 1
  .simp only[UB,WG]
  .simp only[Vl];rfl
 let p:Kp [] Z2 (Z2++[Cell.lst (((cs.filter λc=>decide ((c.2:Int)<B.n)).map wm).map .fz),Cell.lst ([.tuple [.str "turn",.int 0]].map .fz),Cell.lst (((xX B.n cs).map pO).map .fz)]):=Kp.app;let P:(Z2++[Cell.lst (((cs.filter λc=>decide ((c.2:Int)<B.n)).map wm).map .fz),Cell.lst ([.tuple [.str "turn",.int 0]].map .fz),Cell.lst (((xX B.n cs).map pO).map .fz)])[Z2.length+2]?=cL (Cell.lst (((xX B.n cs).map pO).map .fz)):=by rw[US (),acT];rfl
 generalize Z2++[Cell.lst (((cs.filter λc=>decide ((c.2:Int)<B.n)).map wm).map .fz),Cell.lst ([.tuple [.str "turn",.int 0]].map .fz),Cell.lst (((xX B.n cs).map pO).map .fz)]=Z5 at*;let X:=p _ _ v (by nofun);let(Z6,O,U,r):=Bw A F Py X P q hz;show#[Z6,?_,#[U,?_],?_]
 .show gc (ρ:=[cL (.rf Q),-(k),CL]) W ?_;ext iL;show bq (fL (ρ1:=[cL (.rf Q),-(k),cL (.rf Z.length)]) (fH (fF (aV W) h.d Ar) h.t.t OB (aF (ai (d:=k) (by ext:0)) aX) W R) W) ?_;show eu (fH (aV W) d1 QS (aF G aX) W O)
 .show(C.kp p (by nofun) (by nofun) λ_ _ z=>by ext z).kp r ?_ ?_ ?_
  .simp only[UJ,Vy,or_false];let:=ne.1;ext
  .simp only[UJ,Vy,or_false];let:=ne.2.1;ext
  .intro x m z
   simp only[UJ,Vy,or_false]at z;rcases z with rfl|z
   .show ne.2.2 m
   .let:=lt.2.2 x m;ext
 .intro j c e f
  let:=(Uo.mp e).1;show r j c (p j c (H j c e λz=>f (UC _ z)) (by nofun)) λz=>?_;simp only[UJ,Vy,or_false]at z;rcases z with rfl|z
  .show f UA
  .omega
end
def FQ{a b:Str}{v:Bool}(c:Ut.strOk a=P)(d:Ut.strOk b=P)(h:decide (a=b)=v):cB (.str a) (.str b)=-(.bool v):=by rw[MG c d,h]
section
variable{Z:bC}{Q T l:Nat}{Y:D}{b:Int}{U:cn Nat}{g:Nat->Int×(Int×Int)}{X N:D}
def Am(h:DK Z Q T l Y b U g X N){x:Str}{a:D}(i:eK [.str x]=.ok (.fz a)):∃c,gS [.rf Q,.fz (.str x)] Z=.ok (.fz (.str "ok")) c/\DK c Q T l Y b U g a kJ/\Kp [Q] Z c:=by let ne:=h.ne;let f:=ig (d:=dC T a N) h.d;show#[Z.set Q (dC T a kJ),?_,#[ig h.d,h.t.kp (S:=[Q]) (Kp.set UA) (by rw[UH];show d0 ne.1) (by rw[UH];show d0 ne.2.1) λx e=>by rw[UH];show λz=>ne.2.2 (z▸e)],Kp.set UA];show gc (ρ:=[R (.rf Q),-(.str x)]) W ?_;ext jh;show bq (eV (x:=.fz a) (ai (by ext:8)) (aV W) h.d (by show 3<100;decide)) ?_;rw[Se];show bq (eV (x:=.fz kJ) (ai bE) (aV W) f (by show 3<100;decide)) ?_;rw[NW,Yp];show eu (ai bE)
def v8(h:DK Z Q T l Y b U g X N){a d1:D}{b':Int}{k:G D}(q:k.length<=100)(t:dG [a,d1,.list k]=.ok (.fz (.tuple [a,d1,.tuple k]))):∃z I F s,fY [.rf Q,.fz (.tuple [a,d1,.int b',.tuple k])] Z=.ok (.fz (.str "ok")) z/\s.length=k.length/\DK z Q I F (.tuple [a,d1,.tuple k]) b' s (λ_=>(0,(0,0))) X kJ/\Kp [Q] Z z:=by
 let A:=(Uo.mp h.d).1;let(y,w,f,m):=HJ (Z:=Z) (d1:=a) (d2:=d1) (b:=b') q;let e:=m _ _ h.d (by nofun);let u:=ig (d:=dC Z.length X N) e;let lt:=f.lt;let E:bu (.tuple [a,d1,.int b',.tuple k]) (.int 0)=-(a):=jK;let C:bu (.tuple [a,d1,.int b',.tuple k]) (.int 1)=-(d1):=jX;let o:bu (.tuple [a,d1,.int b',.tuple k]) (.int 2)=-(.int b'):=sZ;let B:bu (.tuple [a,d1,.int b',.tuple k]) (.int 3)=-(.tuple k):=Tt () W;let n:tt [.tuple k]=R (.ow k):=W;show#[y.set Q (dC Z.length X kJ),Z.length,Z.length+1+k.length,WN (Z.length+1) k.length,?_,aaM,#[ig e,f.kp (S:=[Q]) (Kp.set UA) (by rw[UH];ext) (by rw[UH];ext) λx p=>?_],?_]
 .show gc (ρ:=[R (.rf Q),-(.tuple [a,d1,.int b',.tuple k])]) W ?_;ext iu;let v:am (bO dG 3 {aE bu (aa 1) (~~~0),aE bu (aa 1) (~~~1),ez tt {aE bu (aa 1) (~~~3)}}) [R (.rf Q),-(.tuple [a,d1,.int b',.tuple k])] Z=.ok (.fz (.tuple [a,d1,.tuple k])) Z:=ai (ky (rv:=.fz (.tuple [a,d1,.tuple k])) (ds:=[a,d1,.list k]) (a8 (by ext:0) (a8 (by ext:0) (a8 (jO (rv:=.ow k) (a8 (by ext:0) b4) W n) b4))) W W t);show bq (eV (x:=.rf Z.length) (vQ (aF v (aF (ai (d:=.int b') (b8 (rv:=.fz (.int b')) (aG W) bE W W o)) aX)) W w) (aV W) e (by show 3<100;decide)) ?_;rw[F9];show bq (eV (x:=.fz kJ) (ai bE) (aV W) u (by show 3<100;decide)) ?_;rw[NW,Yp];show eu (ai bE)
 .rw[UH];let:=(ael.mp p).1;ext
 .intro j c r i;rw[UH]at i;show eZ (d0 i) (m j c r (by nofun))
def Lu(h:DK Z Q T l Y b U g X N){a x:Str}{f:D}(n:dc [.str a]=.ok (.fz (.tuple [.str "bed",.str x])))(i:eK [.str x]=.ok (.fz f)):∃c,dH [.rf Q,.fz (.str a)] Z=.ok (.fz (.str "ok")) c/\DK c Q T l Y b U g f kJ/\Kp [Q] Z c:=by let(c,e,k):=Am h i;let m:cB (.str "bed") (.str "frame")=-(.bool Uu):=FQ (by left) (by left) (by left);let j:cB (.str "bed") (.str "bed")=-(.bool P):=FQ (by left) (by left) (by left);show#[c,?_,k];show gc (ρ:=[R (.rf Q),-(.str a),L,L,L]) W ?_;ext iJ;show bq (fL (x:=.fz (.tuple [.str "bed",.str x])) (ρ1:=[R (.rf Q),-(.str a),-(.tuple [.str "bed",.str x]),L,L]) (ai (by ext:8)) W) ?_;show bq (fL (x:=.fz (.str "bed")) (ρ1:=[R (.rf Q),-(.str a),-(.tuple [.str "bed",.str x]),-(.str "bed"),L]) (ai (b8 (rv:=.fz (.str "bed")) (aG W) bE W W jK)) W) ?_;show bq (fL (x:=.fz (.str x)) (ρ1:=[R (.rf Q),-(.str a),-(.tuple [.str "bed",.str x]),-(.str "bed"),-(.str x)]) (ai (b8 (rv:=.fz (.str x)) (aG W) bE W W jX)) W) ?_;show bq (d8 (bz (by ext:0)) eB) ?_;show gn (fR (bz (by ext:0)) (eu (fH (aV W) h.d Tb (aF (ai (d:=.str x) (by ext:0)) aX) W e)))
def E9(h:DK Z Q T l Y b U g X N){a:Str}{f d1:D}{b':Int}{c:G D}(i:c.length<=100)(n:dc [.str a]=.ok (.fz (.tuple [.str "frame",.tuple [f,d1,.int b',.tuple c]])))(j:dG [f,d1,.list c]=.ok (.fz (.tuple [f,d1,.tuple c]))):∃p r q o,dH [.rf Q,.fz (.str a)] Z=.ok (.fz (.str "ok")) p/\o.length=c.length/\DK p Q r q (.tuple [f,d1,.tuple c]) b' o (λ_=>(0,(0,0))) X kJ/\Kp [Q] Z p:=by let(p,r,q,o,e,k):=v8 h (b':=b') i j;let m:cB (.str "frame") (.str "frame")=-(.bool P):=FQ (by left) (by left) (by left);show#[p,r,q,o,?_,k];generalize t:Ut.tuple [f,d1,.int b',.tuple c]=x at*;show gc (ρ:=[R (.rf Q),-(.str a),L,L,L]) W ?_;ext iJ;show bq (fL (x:=.fz (.tuple [.str "frame",x])) (ρ1:=[R (.rf Q),-(.str a),-(.tuple [.str "frame",x]),L,L]) (ai (by ext:8)) W) ?_;show bq (fL (x:=.fz (.str "frame")) (ρ1:=[R (.rf Q),-(.str a),-(.tuple [.str "frame",x]),-(.str "frame"),L]) (ai (b8 (rv:=.fz (.str "frame")) (aG W) bE W W jK)) W) ?_;show bq (fL (x:=.fz x) (ρ1:=[R (.rf Q),-(.str a),-(.tuple [.str "frame",x]),-(.str "frame"),-(x)]) (ai (b8 (rv:=.fz x) (aG W) bE W W jX)) W) ?_;show gn (fR (bz (by ext:0)) (eu (fH (aV W) h.d Ts (aF (ai (d:=x) (by ext:0)) aX) W e)))
def GV{B:Bd}{s:Xm}(h:DK Z Q T l Y b U g (bD B) (ix s))(m:VB B)(o:SW B s){a:Str}{rd:D}(A:dc [.str a]=.ok (.fz (.tuple [.str "scan",rd]))){ws:G Str}(C:ws.length=U.length)(q:my [Y,rd]=.ok (.fz (.tuple (ws.map .str))))(p:∀w∈ws,w= "up"\/w= "sure"\/w= "unsure")(t:∀j,j<U.length->(g j).2.1=0\/(g j).2.1=1)(r:U.length<=100)
  (f:∀i,i<=(xX B.n (v3 g ws U.length)).length->(fN B s ((xX B.n (v3 g ws U.length)).take i)).2.flatten.length<=1000) {z:Str} (n:eC [.list ((fN B s (xX B.n (v3 g ws U.length))).2.flatten.map Bl)]=.ok (.fz (.str z))):
  ∃c,dH [.rf Q,.fz (.str a)] Z=.ok (.fz (.str z)) c/\DK c Q T l Y b U (CP b g ws) (bD B) (ix (fN B s (xX B.n (v3 g ws U.length))).1)/\Kp (Q::U) Z c:=by
 let(c,e,k):=xC h m o C q p t r f n;let y:cB (.str "scan") (.str "frame")=-(.bool Uu):=FQ (by left) (by left) (by left);let v:cB (.str "scan") (.str "bed")=-(.bool Uu):=FQ (by left) (by left) (by left);let u:cB (.str "scan") (.str "scan")=-(.bool P):=FQ (by left) (by left) (by left);show#[c,?_,k];show gc (ρ:=[R (.rf Q),-(.str a),L,L,L]) W ?_;ext iJ;show bq (fL (x:=.fz (.tuple [.str "scan",rd])) (ρ1:=[R (.rf Q),-(.str a),-(.tuple [.str "scan",rd]),L,L]) (ai (by ext:8)) W) ?_;show bq (fL (x:=.fz (.str "scan")) (ρ1:=[R (.rf Q),-(.str a),-(.tuple [.str "scan",rd]),-(.str "scan"),L]) (ai (b8 (rv:=.fz (.str "scan")) (aG W) bE W W jK)) W) ?_;show bq (fL (x:=.fz rd) (ρ1:=[R (.rf Q),-(.str a),-(.tuple [.str "scan",rd]),-(.str "scan"),-(rd)]) (ai (b8 (rv:=.fz rd) (aG W) bE W W jX)) W) ?_;show bq (d8 (bz (by ext:0)) eB) ?_;show bq (d8 (bz (by ext:0)) eB) ?_;show gn (fR (bz (by ext:0)) (eu (fH (aV W) h.d SZ (aF (ai (d:=rd) (by ext:0)) aX) W e)))
theorem JD:dc [.str "keys"]=.ok (.fz (.tuple [.str "keys",.tuple []])):=mB (by left)
def F6(h:DK Z Q T l Y b U g X N)(a:U.length<=100){z:Str}(c:fC [.tuple (bX (Kg g U.length))]=.ok (.fz (.str z))):∃J,dH [.rf Q,.fz (.str "keys")] Z=.ok (.fz (.str z)) (Z++J):=by
 let(J,e):=L6 h.t a;let p:=JD;let o:cB (.str "keys") (.str "frame")=-(.bool Uu):=FQ (by left) (by left) (by left);let n:cB (.str "keys") (.str "bed")=-(.bool Uu):=FQ (by left) (by left) (by left);let m:cB (.str "keys") (.str "scan")=-(.bool Uu):=FQ (by left) (by left) (by left);let j:cB (.str "keys") (.str "turn")=-(.bool Uu):=FQ (by left) (by left) (by left);let i:cB (.str "keys") (.str "keys")=-(.bool P):=FQ (by left) (by left) (by left);let f:mn (.str "keys") (.tuple [.str "down",.str "up"])=-(.bool Uu):=by rw[S0 (by left) (by left) (by left)];rfl
 show#[J,?_];show gc (ρ:=[R (.rf Q),-(.str "keys"),L,L,L]) W ?_;ext iJ;show bq (fL (x:=.fz (.tuple [.str "keys",.tuple []])) (ρ1:=[R (.rf Q),-(.str "keys"),-(.tuple [.str "keys",.tuple []]),L,L]) (ai (by ext:8)) W) ?_;show bq (fL (x:=.fz (.str "keys")) (ρ1:=[R (.rf Q),-(.str "keys"),-(.tuple [.str "keys",.tuple []]),-(.str "keys"),L]) (ai (b8 (rv:=.fz (.str "keys")) (aG W) bE W W jK)) W) ?_;show bq (fL (x:=.fz (.tuple [])) (ρ1:=[R (.rf Q),-(.str "keys"),-(.tuple [.str "keys",.tuple []]),-(.str "keys"),-(.tuple [])]) (ai (b8 (rv:=.fz (.tuple [])) (aG W) bE W W jX)) W) ?_;show bq (d8 (bz (by ext:0)) eB) ?_;show bq (d8 (bz (by ext:0)) eB) ?_;show bq (d8 (bz (by ext:0)) eB) ?_;show bq (d8 (bz (by ext:0)) eB) ?_;show bq (d8 (bz (by ext:0)) eB) ?_;show gn (fR (bz (by ext:0)) (eu (vA (ds:=[.tuple (bX (Kg g U.length))]) (aF (fH (fF (aV W) h.d Ar) h.t.t Oz aX W e) aX) W c)))
end
abbrev SN:D:=.tuple [.int 1,.int 1,.tuple [.tuple [.int 0,.int 0]]]
abbrev G1:D:=.tuple [.int 1,.tuple [.tuple [.tuple [.str "letter",.str "a"]]],.tuple [],.int 1]
theorem Od:dG [.int 1,.int 1,.list [.tuple [.int 0,.int 0]]]=.ok (.fz SN):=mB (by left)
theorem MD:eK [.str "keys 1 wait 1\nlayer a"]=.ok (.fz G1):=mB (by left)
def Qs{Z:bC}:∃k T l s,gP [.rf Z.length] (Z++[.obj "Desk" []])=.ok (.fz .none) k/\DK k Z.length T l SN 0 s (λ_=>(0,(0,0))) G1 kJ/\Kp [] Z k:=by
 let(o,m,f,h):=HJ (Z:=Z++[.obj "Desk" []]) (d1:=.int 1) (d2:=.int 1) (sps:=[.tuple [.int 0,.int 0]]) (b:=0) ();let e:(Z++[Cell.obj "Desk" []]).length=Z.length+1:=by rw[UB];rfl
 let a:o[Z.length]?=R (.obj "Desk" []):=h _ _ bh (by nofun);let d1:=ig (d:=.obj "Desk" (dI "teller" (.rf (Z.length+1)) [])) a;let t:=ig (d:=.obj "Desk" (dI "bed" (.fz G1) (dI "teller" (.rf (Z.length+1)) []))) a;rw[e]at m f;let r:=Od;let b1:=MD;show#[o.set Z.length (dC (Z.length+1) G1 kJ),Z.length+1,_,_,?_,#[ig a,f.kp (S:=[Z.length]) (Kp.set UA) (by rw[UH];ext) (by rw[UH];show Z.length+1+1+1≠_;ext) λx p=>?_],?_]
 .show j6 (ρ:=[R (.rf Z.length)]) W (ρ1:=[R (.rf Z.length)]) ?_;ext gL;let q:am (bO dG 3 {~~~1,~~~1,dF {dA {~~~0,~~~0}}}) [R (.rf Z.length)] (Z++[Cell.obj "Desk" []])=.ok (.fz SN) (Z++[Cell.obj "Desk" []]):=ai (ky (rv:=.fz SN) (ds:=[.int 1,.int 1,.list [.tuple [.int 0,.int 0]]]) (by ext:0) W W r);let g:=vQ (C:= "Teller") (F:=cR) (n:=3) (aF q (aF (ai (d:=.int 0) bE:am (~~~0) [R (.rf Z.length)] (Z++[Cell.obj "Desk" []])=_) aX)) W (by rw[e];show m);rw[e]at g;show bq (eV (x:=.rf (Z.length+1)) g (aV W) a (by show 0<100;decide)) ?_;show bq (eV (x:=.fz G1) (ai (by ext:8)) (aV W) d1 (by show 1<100;decide)) ?_;rw[Yp];show(eV (x:=.fz kJ) (ai bE) (aV W) t (by show 2<100;decide)).trans ?_;rw[R8,Yp]
 .rw[UH];let:=(ael.mp p).1;ext
 .intro j c i _;let:=(Uo.mp i).1;show eZ () (h j c (eU i) (by nofun))
def lb(n w:Nat):Bd:=#[n,[(U1 n).map .Vd],[],w]
def RF{n w:Nat}(g:1<=n)(f:n<=5)(e:1<=w)(d:w<=4):VB (lb n w):=by
 show#[by show(1:Int)<=(n:Int);ext,by show(n:Int)<=5;ext,Uy 1,by show 1<=3;decide,?_,V0 _,(λc b=>by ext b),Xq,by show(1:Int)<=(w:Int);ext,by show(w:Int)<=4;ext];intro i l h;cases i with
 |succ i=>ext h
 |zero=>ext h;show#[by rw[Ur,Vh];rfl,λm hm=>?_];let(k,a,rfl):=U7.mp hm;let:=U0.mp a;show k<26;ext
def qX(A:Nat->Bool):Ac:=λk=>if A k=P then R (.Vd k)else L
def mO(A:Nat->Bool):Xm:=#[qX A,L,L]
def Bm(A:Nat->Bool)(k:Nat)(v:Bool):Nat->Bool:=λj=>if j=k then v else A j
def Sm(A:Nat->Bool)(k:Nat):mi (qX A) k (R (.Vd k))=qX (Bm A k P):=by
 funext j;unfold mi qX Bm;by_cases h:j=k
 .subst h;rw[av W,av W,av W]
 .rw[ax h,ax h]
def Rt(A:Nat->Bool)(k:Nat):mi (qX A) k L=qX (Bm A k Uu):=by
 funext j;unfold mi qX Bm;by_cases h:j=k
 .subst h;rw[av W,av W,ax Ux]
 .rw[ax h,ax h]
def MZ{A:Nat->Bool}{c:Nat}(h:A c=Uu):pe (qX A) (.Vd c)=Uu:=by
 show a6 λhm=>?_;let(p,a,e):=U7.mp hm;let:=(lF.mp a).2;unfold qX at this;split at this
 .rename_i q
  let:=UU this;rw[<-this]at e;let e:p.1=c:=by injection e
  rw[e,h]at q;ext q
 .ext this
def So(A:Nat->Bool):tP (qX A) L=0:=by
 show we (qX A)=0;ext we;rw[ab5.mpr λp a=>?_]
 .rfl
 .let:=(lF.mp a).2
  unfold qX at this;split at this
  .let(k,m):=p;let t:Mn.Vd k=m:=UU this;subst t;rfl
  .ext this
def Pc{n w k:Nat}(h:k<n):look (lb n w) 0 k=.Vd k:=by
 let e:vV (lb n w) 0 k=.Vd k:=by show(((U1 n).map Mn.Vd)[k]?).getD .none=_;rw[UK,Yb h];rfl
 ext look;rw[show(0:Int).toNat=0 from rfl,e];rfl
def Ki{n w k:Nat}{A:Nat->Bool}(a:k<n)(h:A k=Uu):dD (lb n w) (mO A) (.down k)=(mO (Bm A k P),[(k,P)]):=by
 let e0:qX A k=L:=by ext qX;rw[h];rfl
 show rb (lb n w) (mO A,[]) k=_;ext rb;rw[ax (by show¬((qX A k).isSome||false)=P;rw[e0];decide),ax (by show¬(Uu=P);decide)];show A0 (lb n w) (tP (qX A) L) (lL (mO A) (look (lb n w) (tP (qX A) L) k),[]) k (look (lb n w) (tP (qX A) L) k)=_;rw[So,Pc a];show iX (mO A,[]) k (.Vd k)=_;ext iX;show(({(mO A)with ac:=mi (qX A) k (R (.Vd k))}:Xm),[]++qp (qX A) (.Vd k))=_;let b:qp (qX A) (.Vd k)=[(k,P)]:=by show(if pe (qX A) (.Vd k)=P then[]else[(k,P)])=_;rw[MZ h,ax Ux]
 rw[Sm,b];rfl
def Rf{n w k:Nat}{A:Nat->Bool}(h:A k=P):dD (lb n w) (mO A) (.up k)=(mO (Bm A k Uu),[(k,Uu)]):=by
 let e0:qX A k=R (.Vd k):=by ext qX;rw[h];rfl
 show go (mO A,[]) k=_;ext go;show(match qX A k with
  |some a=>(({(mO A)with ac:=mi (qX A) k L}:Xm),[]++Mb (mi (qX A) k L) a)
  |none=>(mO A,[]))=_
 rw[e0];dsimp only;let b:Mb (qX (Bm A k Uu)) (.Vd k)=[(k,Uu)]:=by show(if pe (qX (Bm A k Uu)) (.Vd k)=P then[]else[(k,Uu)])=_;rw[MZ (by ext Bm;rw[av W]),ax Ux]
 rw[Rt,b];rfl
def FP(c:Nat×Bool):Evn:=if c.2=P then .down c.1 else .up c.1
def GF(A:Nat->Bool):G (Nat×Bool)->Nat->Bool
 |[]=>A
 |c::r=>GF (Bm A c.1 c.2) r
def Ai{n w:Nat}:∀(cs:G (Nat×Bool)) (A:Nat->Bool),(cs.map (·.1)).Nodup->(∀c∈cs,c.1<n/\A c.1= !c.2)->fN (lb n w) (mO A) (cs.map FP++[.turn])=(mO (GF A cs),cs.map (λc=>[c])++[[]]):=by
 intro cs
 induction cs with
 |nil=>intro A _ _;rfl
 |cons c r i=>
  intro A nd h;rw[UM,VN]at nd;let b:=h c UA;let g:dD (lb n w) (mO A) (FP c)=(mO (Bm A c.1 c.2),[c]):=by
   let(k,v):=c;cases v with
   |true=>show Ki b.1 b.2
   |false=>show Rf b.2
  let e:=i (Bm A c.1 c.2) nd.2 λd a=>#[(h d (UC _ a)).1,by ext Bm;rw[ax (λz:d.1=c.1=>nd.1 (by rw[<-z];show Yc (f:=(·.1)) a))];show(h d (UC _ a)).2];show((fN (lb n w) (dD (lb n w) (mO A) (FP c)).1 (r.map FP++[.turn])).1,(dD (lb n w) (mO A) (FP c)).2::(fN (lb n w) (dD (lb n w) (mO A) (FP c)).1 (r.map FP++[.turn])).2)=_;rw[g];dsimp only;rw[e];rfl
def Ou:∀(cs:G (Nat×Bool)) (A:Nat->Bool) (j:Nat),(cs.map (·.1)).Nodup->GF A cs j=match cs.find? (λc=>c.1==j)with|some c=>c.2|none=>A j:=by
 intro cs
 induction cs with
 |nil=>intro A j _;rfl
 |cons c r a=>
  intro A j nd;rw[UM,VN]at nd;show GF (Bm A c.1 c.2) r j=_;rw[a _ j nd.2];by_cases h:c.1=j
  .let f:r.find? (λc=>c.1==j)=L:=aaL.mpr λd b z=>nd.1 (by rw[h,<-eq_of_beq z];show Yc (f:=(·.1)) b);rw[f,List.find?_cons_of_pos (by rw[h];show eg j)];dsimp only;ext Bm;rw[av h.symm]
  .rw[List.find?_cons_of_neg (by rw[beq_iff_eq];show h)]
   cases r.find? (λc=>c.1==j)with
   |some d=>rfl
   |none=>dsimp only;ext Bm;rw[ax (d0 h)]
def xg(b:Int):Int->Int×Int->G Int->Int×Int
 |_,s,[]=>s
 |t,s,r::rs=>xg b (t+1) (kS b t s r) rs
def yd(t:Int)(s:Int×Int)(r:Int):cv Bool:=if kN t s r=P then L else R (decide (r=1))
def EZ(d:Bool)(b:Int):Int->Int×Int->G Int->Nat
 |_,_,[]=>0
 |t,s,r::rs=>(if yd t s r=R d then 1 else 0)+EZ d b (t+1) (kS b t s r) rs
def QL{t:Int}{s:Int×Int}{r:Int}(h:r=s.1\/t<s.2):kN t s r=P:=by
 ext kN;rcases h with h|h
 .rw[aP h];rfl
 .rw[aP h,agJ]
def Tm{t:Int}{s:Int×Int}{r:Int}(h:r≠s.1)(a:s.2<=t):kN t s r=Uu:=by ext kN;rw[a6 h,a6 ()];rfl
def AC(b:Int):∀(a:G Int) (t:Int) (s:Int×Int),(∀(i:Nat) (r:Int),a[i]?=R r->r=s.1\/t+(i:Int)<s.2)->xg b t s a=s/\∀d,EZ d b t s a=0:=by
 intro a
 induction a with
 |nil=>intro t s _;show#[W,λ_=>W]
 |cons r a f=>
  intro t s h;let k:kN t s r=P:=QL (by let:=h 0 r W;simpa using this);let e:kS b t s r=s:=by ext kS;rw[av k]
  let(l,j):=f (t+1) s λi x g=>by
   let:=h (i+1) x (by simpa using g);rcases this with z|z
   .show .inl z
   .show .inr (by let:=z;push_cast at this;ext)
  show#[by show xg b (t+1) (kS b t s r) a=s;rw[e,l],λd=>?_];show(if yd t s r=R d then 1 else 0)+EZ d b (t+1) (kS b t s r) a=0;rw[e,j d,show yd t s r=L by ext yd;rw[av k]];rfl
def LU(b:Int)(L:0<=b){v l:Int}(I:v=0/\l=1\/v=1/\l=0)(e:Nat)(K:1<=e):∀(a:cn Int) (t f T:Int),(∀r∈a,r=0\/r=1)->f<=t+(a.length:Int)->t+(a.length:Int)=T->T<=t+b->∃c,c<=T+b/\xg b t (l,f) (a++Us e v)=(v,c)/\∀d:Bool,EZ d b t (l,f) (a++Us e v)=if d=decide (v=1)then 1 else 0:=by
 let g:∀(j:cn Int) (t T:Int),(∀(i:Nat) (r:Int),j[i]?=R r->r=v\/t+1+(i:Int)<t+b)->t<=T->∀f,f<=t->∃c,c<=T+b/\xg b t (l,f) (v::j)=(v,c)/\∀d:Bool,EZ d b t (l,f) (v::j)=if d=decide (v=1)then 1 else 0:=λj t T h J f m=>by
  let k:kN t (l,f) v=Uu:=Tm (by show v≠l;ext) m;let o:kS b t (l,f) v=(v,t+b):=by ext kS;rw[k,ax Ux]
  let(y,w):=AC b j (t+1) (v,t+b) h;show#[t+b,by ext,by show xg b (t+1) (kS b t (l,f) v) j=_;rw[o,y],λd=>?_];show(if yd t (l,f) v=R d then 1 else 0)+EZ d b (t+1) (kS b t (l,f) v) j=_;rw[o,w d,show yd t (l,f) v=R (decide (v=1)) by ext yd;rw[k,ax Ux]];by_cases q:d=decide (v=1)
  .rw[av q,av (by rw[q])]
  .rw[ax q,ax (λz=>q (UU z).symm)]
 intro a
 induction a with
 |nil=>intro t f T _ m n _;let m:f<=t+0:=m;let n:t+0=T:=n;obtain⟨G,rfl⟩:∃k,e=k+1:=#[e - 1,by ext];show g (Us G v) t T (λi r N=>.inl (Y2 (Vb N))) () f ()
 |cons r a B=>
  intro t f T A m n E;rw[UL]at m n;let u:t+1+(a.length:Int)=T:=by push_cast at n;ext
  let p:f<=t+1+(a.length:Int):=by push_cast at m;ext
  by_cases q:r=v/\f<=t
  .let(rfl,q):=q
   show g (a++Us e r) t T (λi x N=>?_) () f q;by_cases H:i<a.length
   .show .inr ()
   .rw[US ()]at N;show .inl (Y2 (Vb N))
  .let k:kN t (l,f) r=P:=QL (by
    show r=l\/t<f;let:=A r UA;ext)
   let o:kS b t (l,f) r=(l,f):=by ext kS;rw[av k]
   let(c,F,y,w):=B (t+1) f T (λx C=>A x (UC _ C)) p u ();show#[c,F,by show xg b (t+1) (kS b t (l,f) r) (a++Us e v)=_;rw[o,y],λd=>?_];show(if yd t (l,f) r=R d then 1 else 0)+EZ d b (t+1) (kS b t (l,f) r) (a++Us e v)=_;rw[o,w d,show yd t (l,f) r=CL by ext yd;rw[av k]];simp
def cF(m:Nat)(p:Nat->Bool):G Nat:=(U1 m).filter p
def bt(p:Nat->Bool)(j:Nat):Int:=if p j=P then 1 else 0
def zq(m:Nat)(p:Nat->Bool):G Str:=(U1 m).map λj=>if p j=P then "sure" else "up"
def ox(s m:Nat):D:=if s=0 then .tuple [.int 1,.int m]else .tuple [.int m,.int 1]
def He(s m:Nat):G D:=(U1 m).map λj=>if s=0 then .tuple [.int 0,nd j]else .tuple [nd j,.int 0]
def Bj(s m:Nat):D:=if s=0 then .tuple [.int 1,.int m,.tuple (He s m)]else .tuple [.int m,.int 1,.tuple (He s m)]
def AF(x k:Nat):Bool:=x/2^k % 2==1
def b1(p:Nat->Bool)(k:Nat):Nat:=if p k=P then 1 else 0
def wo(p:Nat->Bool):Nat:=b1 p 0+2*b1 p 1+4*b1 p 2+8*b1 p 3+16*b1 p 4+32*b1 p 5
def iy(p:Nat->Bool)(k:Nat):b1 p k<=1:=by ext b1;split<;>ext
def KB(p:Nat->Bool):wo p<64:=by let g:=iy p 0;let f:=iy p 1;let e:=iy p 2;let d:=iy p 3;let b:=iy p 4;let a:=iy p 5;ext wo;ext
def A4(p:Nat->Bool){k:Nat}(a:k<6):AF (wo p) k=p k:=by
 let i:=iy p 0;let h:=iy p 1;let g:=iy p 2;let f:=iy p 3;let d:=iy p 4;let b:=iy p 5;let e:wo p/2^k % 2=b1 p k:=by
  ext wo;obtain rfl|rfl|rfl|rfl|rfl|rfl:k=0\/k=1\/k=2\/k=3\/k=4\/k=5:=by ext
  all_goals ext
 ext AF;rw[e];ext b1;cases p k<;>rfl
theorem DG{m:Nat}(hm:m<=6)(p:Nat->Bool):cF m p=cF m (AF (wo p)):=YT λk a=>(A4 p (by let:=U0.mp a;ext)).symm
theorem KU{m:Nat}(hm:m<=6)(p:Nat->Bool):zq m p=zq m (AF (wo p)):=Ww λk a=>by rw[A4 p (by let:=U0.mp a;ext)]
def pF(m:Nat)(p:Nat->Bool)(k:Nat):Bool:=decide (k<m)&&p k
def Hd{m k:Nat}{p:Nat->Bool}(h:k<m):pF m p k=p k:=by ext pF;rw[aP h];rfl
theorem PK(m:Nat)(p:Nat->Bool):cF m (pF m p)=cF m p:=YT λk a=>Hd (U0.mp a)
theorem P4(m:Nat)(p:Nat->Bool):zq m (pF m p)=zq m p:=Ww λk a=>by rw[Hd (U0.mp a)]
def Ir{m:Nat}(i:1<=m)(d:m<=6)(p:Nat->Bool):wo (pF m p)<2^m:=by
 let z:∀k,m<=k->b1 (pF m p) k=0:=λk b=>by unfold b1 pF;rw[a6 ()];rfl
 let j:=iy (pF m p) 0;let a:=iy (pF m p) 1;let h:=iy (pF m p) 2;let g:=iy (pF m p) 3;let f:=iy (pF m p) 4;let e:=iy (pF m p) 5;ext wo;obtain rfl|rfl|rfl|rfl|rfl|rfl:m=1\/m=2\/m=3\/m=4\/m=5\/m=6:=by ext
 .rw[z 1 (),z 2 (),z 3 (),z 4 (),z 5 ()];ext
 .rw[z 2 (),z 3 (),z 4 (),z 5 ()];ext
 .rw[z 3 (),z 4 (),z 5 ()];ext
 .rw[z 4 (),z 5 ()];ext
 .rw[z 5 ()];ext
 .omega
def C7(s m x:Nat):Bool:=match dZ [ox s m,.list (bX (cF m (AF x)))]with
 |.ok (.fz (.str z))=>(match eR (.str "scan ") (.str z)with
  |some (.fz (.str row))=>(match dc [.str row]with
   |.ok (.fz (.tuple [.str w,a]))=>w== "scan"&&Pg (my [Bj s m,a]) (.tuple ((zq m (AF x)).map .str))
   |_=>Uu)
  |_=>Uu)
 |_=>Uu
def gJ(s m k:Nat):Bool:=(U1 16).all λx=>decide (2^m<=16*k+x)||C7 s m (16*k+x)
def Oy:gJ 0 1 0=P:=by left
def Oq:gJ 0 2 0=P:=by left
def NR:gJ 0 3 0=P:=by left
def Pt:gJ 0 4 0=P:=by left
def N5:gJ 0 5 0=P:=by left
def NT:gJ 0 5 1=P:=by left
def Qy:gJ 0 6 0=P:=by left
def Os:gJ 0 6 1=P:=by left
def PF:gJ 0 6 2=P:=by left
def N7:gJ 0 6 3=P:=by left
def NV:gJ 1 1 0=P:=by left
def PX:gJ 1 2 0=P:=by left
def Qz:gJ 1 3 0=P:=by left
def Ql:gJ 1 4 0=P:=by left
def NU:gJ 1 5 0=P:=by left
def N6:gJ 1 5 1=P:=by left
def Qx:gJ 1 6 0=P:=by left
def Pz:gJ 1 6 1=P:=by left
def Qv:gJ 1 6 2=P:=by left
def P6:gJ 1 6 3=P:=by left
def IE{s m x:Nat}(d:s<2)(f:1<=m)(e:m<=6)(b:x<2^m):C7 s m x=P:=by
 let a:gJ s m (x/16)=P->C7 s m x=P:=λh=>by let g:=WW.mp h (x % 16) (U0.mpr (Nat.mod_lt _ ()));rw[Nat.div_add_mod,a6 ()]at g;show g
 apply a;obtain rfl|rfl:s=0\/s=1:=by ext
 .obtain rfl|rfl|rfl|rfl|rfl|rfl:m=1\/m=2\/m=3\/m=4\/m=5\/m=6:=by ext
  .rw[show x/16=0 by ext];show Oy
  .rw[show x/16=0 by ext];show Oq
  .rw[show x/16=0 by ext];show NR
  .rw[show x/16=0 by ext];show Pt
  .obtain h|h:x/16=0\/x/16=1:=by ext
   .rw[h];show N5
   .rw[h];show NT
  .obtain h|h|h|h:x/16=0\/x/16=1\/x/16=2\/x/16=3:=by ext
   .rw[h];show Qy
   .rw[h];show Os
   .rw[h];show PF
   .rw[h];show N7
 .obtain rfl|rfl|rfl|rfl|rfl|rfl:m=1\/m=2\/m=3\/m=4\/m=5\/m=6:=by ext
  .rw[show x/16=0 by ext];show NV
  .rw[show x/16=0 by ext];show PX
  .rw[show x/16=0 by ext];show Qz
  .rw[show x/16=0 by ext];show Ql
  .obtain h|h:x/16=0\/x/16=1:=by ext
   .rw[h];show NU
   .rw[h];show N6
  .obtain h|h|h|h:x/16=0\/x/16=1\/x/16=2\/x/16=3:=by ext
   .rw[h];show Qx
   .rw[h];show Pz
   .rw[h];show Qv
   .rw[h];show P6
def G4{s m:Nat}(e:s<2)(b:1<=m)(a:m<=6)(p:Nat->Bool):∃z row c,dZ [ox s m,.list (bX (cF m p))]=.ok (.fz (.str z))/\eR (.str "scan ") (.str z)=-(.str row)/\dc [.str row]=.ok (.fz (.tuple [.str "scan",c]))/\my [Bj s m,c]=.ok (.fz (.tuple ((zq m p).map .str))):=by
 let h:=IE e b a (Ir b a p);rw[<-PK m p,<-P4 m p,DG a (pF m p),KU a (pF m p)];unfold C7 at h;split at h
 .rename_i z g
  split at h
  .rename_i row f
   split at h
   .rename_i w c d;rw[UO]at h;rw[eq_of_beq h.1]at d;show#[z,row,c,g,f,d,mB h.2]
   .ext h
  .ext h
 .ext h
def Nk(m x:Nat):Bool:=match iY (dL (gN 0) dJ (ez iG {aa 0}) (bX (cF m (AF x))) [L] [])with
 |.ok a=>(match iW "," [.list a]with
  |some (.fz (.str kt))=>Pg (fC [.tuple (bX (cF m (AF x)))]) (.str (if kt= "" then "." else kt))&&Ut.strOk kt
  |_=>Uu)
 |_=>Uu
def HY:∀m,m<7->∀x,x<64->Nk m x=P:=by left
def GJ{m:Nat}(a:m<=6)(p:Nat->Bool):∃c kt,iY (dL (gN 0) dJ (ez iG {aa 0}) (bX (cF m p)) [L] [])=.ok c/\iW "," [.list c]=-(.str kt)/\fC [.tuple (bX (cF m p))]=.ok (.fz (.str (if kt= "" then "." else kt)))/\Ut.strOk kt=P:=by
 let h:=HY m () (wo p) (KB p);rw[DG a p];unfold Nk at h;split at h
 .rename_i c d
  split at h
  .rename_i kt b;rw[UO]at h;show#[c,kt,d,b,mB h.1,h.2]
  .ext h
 .ext h
def mv(n:Nat)(c:Nat->cv Bool):G (Nat×Bool):=(U1 n).filterMap λj=>(c j).map λd=>(j,d)
def kG(p:Nat×Bool):Str:=#[#v[if p.2=P then 43 else 45,97+p.1]]
def Ru(x j:Nat):cv Bool:=match x/3^j % 3 with
 |0=>L
 |1=>R P
 |_=>R Uu
def d1(c:Nat->cv Bool)(n j:Nat):Nat:=if j<n then(match c j with
 |none=>0
 |some P=>1
 |some Uu=>2)else 0
def vo(c:Nat->cv Bool)(n:Nat):Nat:=d1 c n 0+3*d1 c n 1+9*d1 c n 2+27*d1 c n 3+81*d1 c n 4
def oG(c:Nat->cv Bool)(n j:Nat):d1 c n j<=2:=by
 ext d1;split
 .split<;>ext
 .omega
def Hc(c:Nat->cv Bool)(n:Nat):vo c n<243:=by let f:=oG c n 0;let e:=oG c n 1;let d:=oG c n 2;let b:=oG c n 3;let a:=oG c n 4;ext vo;ext
def FJ(c:Nat->cv Bool)(n:Nat){k:Nat}(a:k<5):Ru (vo c n) k=if k<n then c k else L:=by
 let i:=oG c n 0;let g:=oG c n 1;let f:=oG c n 2;let d:=oG c n 3;let b:=oG c n 4;let e:vo c n/3^k % 3=d1 c n k:=by
  ext vo;obtain rfl|rfl|rfl|rfl|rfl:k=0\/k=1\/k=2\/k=3\/k=4:=by ext
  all_goals ext
 ext Ru;rw[e];ext d1;by_cases h:k<n
 .rw[av h,av h]
  cases c k with
  |none=>rfl
  |some v=>ext v<;>rfl
 .rw[ax h,ax h];rfl
def zJ{α b:Type}{f g:α->cv b}:∀{l:G α},(∀a∈l,f a=g a)->l.filterMap f=l.filterMap g:=by
 intro l
 induction l with
 |nil=>intro _;rfl
 |cons a r d=>intro h;rw[V8,V8,h a UA,d λx e=>h x (UC _ e)]
def Qn{n:Nat}{c a:Nat->cv Bool}(h:∀j,j<n->c j=a j):mv n c=mv n a:=by ext mv;show zJ λj b=>by rw[h j (U0.mp b)]
def Km{n:Nat}(f:n<=5)(c:Nat->cv Bool):mv n c=mv 5 (Ru (vo c n)):=by
 let e:∀k,n+k=5->mv 5 (λj=>if j<n then c j else L)=mv n c:=λk b=>by ext mv;rw[<-b,afF,ZY,ad3];rw[show(U1 k).filterMap ((λj=>adB (λd=>(j,d)) (if j<n then c j else L))∘λx=>n+x)=[]from ab5.mpr λx _=>by show adB _ (if n+x<n then c (n+x)else L)=L;rw[ax ()];rfl,UZ];show zJ λj a=>by show adB (λd=>(j,d)) (if j<n then c j else L)=_;rw[av (U0.mp a)]
 rw[<-e (5 - n) ()];show Qn λj a=>(FJ c n a).symm
def ND(x:Nat):Bool:=match eC [.list ((mv 5 (Ru x)).map Bl)]with
 |.ok (.fz (.str z))=>Tw (gu [.str z]) ((mv 5 (Ru x)).map λc=>.str (kG c))
 |_=>Uu
def GB:∀x,x<243->ND x=P:=by left
def Jk{n:Nat}(a:n<=5)(c:Nat->cv Bool):∃z,eC [.list ((mv n c).map Bl)]=.ok (.fz (.str z))/\gu [.str z]=.ok (.ow ((mv n c).map λc=>.str (kG c))):=by
 let h:=GB (vo c n) (Hc c n);rw[Km a c];unfold ND at h;split at h
 .rename_i z b;show#[z,b,PP h]
 .ext h
def Df(b:Int)(g:Nat->Int×(Int×Int))(P:Nat->Bool)(j:Nat):Int×(Int×Int):=((g j).1+1,kS b (g j).1 (g j).2 (bt P j))
def cG(g:Nat->Int×(Int×Int))(P:Nat->Bool)(j:Nat):cv Bool:=yd (g j).1 (g j).2 (bt P j)
def AG(n:Nat)(g:Nat->Int×(Int×Int))(j:Nat):Bool:=decide (j<n)&&decide ((g j).2.1=1)
def xW(P:Nat->Bool)(j:Nat):bt P j=0\/bt P j=1:=by ext bt;split<;>ext
def Qe{b t:Int}{s:Int×Int}{r:Int}(h:s.1=0\/s.1=1)(a:r=0\/r=1):(kS b t s r).1=0\/(kS b t s r).1=1:=by
 ext kS;split
 .show h
 .show a
def Nh{m:Nat}{g:Nat->Int×(Int×Int)}{P:Nat->Bool}{j:Nat}(h:j<m):EC g (zq m P) j=bt P j:=by
 let e:(zq m P).getD j ""=if P j=Uq then("sure":Str)else "up":=by ext zq;rw[Yz,UK,Yb h];rfl
 unfold EC rW bt;rw[e];cases P j with
 |true=>rw[av W,av W,ax (show¬("sure":Str)= "unsure" by left),av W]
 |false=>rw[ax Ux,ax Ux,ax (show¬("up":Str)= "unsure" by left),ax (show¬("up":Str)= "sure" by left)]
def RG{m:Nat}{b:Int}{g:Nat->Int×(Int×Int)}{P:Nat->Bool}{j:Nat}(h:j<m):CP b g (zq m P) j=Df b g P j:=by unfold CP Df;rw[Nh h]
def Nd{m:Nat}{g:Nat->Int×(Int×Int)}{P:Nat->Bool}{j:Nat}(h:j<m):cw g (zq m P) j=(cG g P j).map λd=>((if d=Uq then "down" else "up":Str),j):=by
 unfold cw cG yd;rw[Nh h];split
 .rfl
 .show R (tw (bt P j),j)=R ((if decide (bt P j=1)=Uq then "down" else "up":Str),j)
  ext tw;by_cases q:bt P j=1
  .rw[av q,aP q,av W]
  .rw[ax q,a6 q,ax Ux]
def RI{n m:Nat}(i:n<=m)(g:Nat->Int×(Int×Int))(P:Nat->Bool):xX (n:Int) (v3 g (zq m P) m)=(mv n (cG g P)).map FP++[.turn]:=by
 unfold xX v3;congr 1;obtain⟨k,rfl⟩:∃k,m=n+k:=#[m - n,by ext];rw[afF,ZY,List.filter_append];let t:((U1 k).map (λx=>n+x)|>.filterMap (cw g (zq (n+k) P))).filter (λc=>decide ((c.2:Int)<(n:Int)))=[]:=by
  rw[acV];intro c o;let(j,b,e):=WE.mp o;let(x,a,rfl):=U7.mp b;rw[Nd (by let:=U0.mp a;ext)]at e;cases q:cG g P (n+x)with
  |none=>rw[q]at e;ext e
  |some d=>rw[q]at e;ext e;simp;ext
 rw[t,UZ];let u:∀l:G Nat,(∀j∈l,j<n)->(((l.filterMap (cw g (zq (n+k) P))).filter (λc=>decide ((c.2:Int)<(n:Int)))).map Nf)=(l.filterMap λj=>(cG g P j).map λd=>(j,d)).map FP:=λl=>by
  induction l with
  |nil=>intro _;rfl
  |cons j r f=>
   intro h;let b:=h j UA;rw[V8,V8,Nd ()];cases q:cG g P j with
   |none=>show f λx a=>h x (UC _ a)
   |some d=>
    show((((if d=Uq then "down" else "up":Str),j)::r.filterMap (cw g (zq (n+k) P))).filter (λc=>decide ((c.2:Int)<(n:Int)))).map Nf=FP (j,d)::_;rw[VZ (p:=λc:Str×Nat=>decide ((c.2:Int)<(n:Int))) (aP (show(j:Int)<(n:Int) by ext)),UM,f λx a=>h x (UC _ a)];congr 1;unfold Nf FP;cases d with
    |true=>rfl
    |false=>show(if("up":Str)= "down" then Evn.down j else .up j)=_;rw[ax (show¬("up":Str)= "down" by left)];rfl
 show u _ λj b=>U0.mp b
def Kl(c:Nat->cv Bool):∀l:G Nat,(l.filterMap λj=>(c j).map λd=>(j,d)).map (·.1)=l.filter λj=>(c j).isSome:=by
 intro l
 induction l with
 |nil=>rfl
 |cons j r a=>
  rw[V8];cases q:c j with
  |none=>rw[Wo (by rw[q];show Ux)];show a
  |some d=>rw[VZ (by rw[q];rfl)];show j::_=_;rw[<-a]
def Kc(n:Nat)(c:Nat->cv Bool):((mv n c).map (·.1)).Nodup:=by ext mv;rw[Kl];show ae1.sublist aar
def rG{n:Nat}{c:Nat->cv Bool}{x:Nat×Bool}:x∈mv n c↔x.1<n/\c x.1=R x.2:=by
 ext mv;rw[WE];constructor
 .rintro⟨j,a,e⟩
  cases q:c j with
  |none=>rw[q]at e;ext e
  |some d=>rw[q]at e;ext e;show#[U0.mp a,q]
 .rintro⟨f,b⟩;show#[x.1,U0.mpr f,by rw[b];rfl]
def KI{n:Nat}{c:Nat->cv Bool}(j:Nat):(mv n c).find? (λx=>x.1==j)=if j<n then(c j).map λd=>(j,d)else L:=by
 cases q:(mv n c).find? (λx=>x.1==j)with
 |some x=>let g:=YN q;let f:x.1=j:=eq_of_beq (afc (p:=λx:Nat×Bool=>x.1==j) q);let(b,a):=rG.mp g;rw[<-f,av b,a];rfl
 |none=>
  rw[aaL]at q;by_cases h:j<n
  .rw[av h]
   cases e:c j with
   |none=>rfl
   |some d=>show bg (eg j) (q (j,d) (rG.mpr #[h,e]))
  .rw[ax h]
def KK{n:Nat}{b:Int}{g:Nat->Int×(Int×Int)}{P:Nat->Bool}:GF (AG n g) (mv n (cG g P))=AG n (Df b g P):=by
 funext j;rw[Ou _ _ _ (Kc n _),KI];unfold AG Df cG yd kS;by_cases h:j<n
 .rw[av h]
  split
  .rename_i x e
   split at e
   .ext e
   .rename_i k;ext e;rw[ax k,aP h];rfl
  .rename_i e
   split at e
   .rename_i k;rw[av k]
   .ext e
 .rw[ax h];dsimp only;rw[a6 h];rfl
def Sl{n:Nat}{g:Nat->Int×(Int×Int)}{P:Nat->Bool}(f:∀j,j<n->(g j).2.1=0\/(g j).2.1=1):∀c∈mv n (cG g P),c.1<n/\AG n g c.1= !c.2:=by
 rintro⟨j,d⟩ e;let(b,a):=rG.mp e;show#[b,?_];let a:(if kN (g j).1 (g j).2 (bt P j)=Uq then L else R (decide (bt P j=1)))=R d:=a;split at a
 .ext a
 .rename_i k
  let a:=UU a;unfold kN at k;rw[ZG,not_or]at k;let h:¬bt P j=(g j).2.1:=λz=>k.1 (aP z);let b1:=f j b;let i:=xW P j;show(decide (j<n)&&decide ((g j).2.1=1))= !d;rw[aP b,<-a];by_cases q:bt P j=1
  .rw[aP q,a6 ()];rfl
  .rw[a6 q,aP ()];rfl
def Q3{n w:Nat}{g:Nat->Int×(Int×Int)}(d:n<=5):SW (lb n w) (mO (AG n g)):=by
 show#[#[λk a h=>?_,λo h=>by ext h],λb g w h=>by ext h];let h:(if AG n g k=P then R (Mn.Vd k)else L)=R a:=h;split at h
 .rename_i q;unfold AG at q;rw[UO]at q;let:=a7 q.1;ext h;show#[by show(k:Int)<(n:Int);ext,?_];show k<26;ext
 .ext h
def Fb{Z:bC}{Q T l s m n w:Nat}{b:Int}{k:cn Nat}{g:Nat->Int×(Int×Int)}(U:s<2)(O:1<=m)(N:m<=6)(M:1<=n)(p:n<=5)(u:n<=m)(I:1<=w)(H:w<=4)(e:k.length=m)(h:DK Z Q T l (Bj s m) b k g (bD (lb n w)) (ix (mO (AG n g))))(B:∀j,j<m->(g j).2.1=0\/(g j).2.1=1)(P:Nat->Bool):
  ∃x row z t,dZ [ox s m,.list (bX (cF m P))]=.ok (.fz (.str x))/\eR (.str "scan ") (.str x)=-(.str row)/\dH [.rf Q,.fz (.str row)] Z=.ok (.fz (.str z)) t/\gu [.str z]=.ok (.ow ((mv n (cG g P)).map λc=>.str (kG c)))/\DK t Q T l (Bj s m) b k (Df b g P) (bD (lb n w)) (ix (mO (AG n (Df b g P))))/\Kp (Q::k) Z t:=by
 let(x,row,rd,e1,e2,Y,X):=G4 U O N P;let(z,F,E):=Jk p (cG g P);let J:=RF M p I H;let y:=RI u g P;let o:=Ai (w:=w) (mv n (cG g P)) (AG n g) (Kc n _) (Sl λj A=>B j ());let C:((mv n (cG g P)).map (λc=>[c])++[[]]).flatten=mv n (cG g P):=by
  rw[aas];let:∀l:cn (Nat×Bool),(l.map λc=>[c]).flatten=l:=λl=>by
   induction l with
   |nil=>rfl
   |cons a r R=>rw[UM,Wn,R];rfl
  rw[this];show UZ _
 let cl:(mv n (cG g P)).length<=n:=by let:=Y1 (λj=>(cG g P j).map λd=>(j,d)) (U1 n);rw[Vh]at this;show this
 let G:(zq m P).length=k.length:=by ext zq;rw[Ur,Vh,e]
 let(t,L,f,K):=GV (rd:=rd) h J (Q3 p) Y (ws:=zq m P) G X (λv S=>by
  let(j,_,rfl):=U7.mp S;split
  .show .inr (.inl W)
  .show .inl W) (λj A=>B j ()) () (z:=z) (λi hi=>by
  rw[e,show(lb n w).n=(n:Int)from rfl,y];let:=uL (lb n w) (((mv n (cG g P)).map FP++[Evn.turn]).take i) (((mv n (cG g P)).map FP++[Evn.turn]).drop i) (mO (AG n g));rw[List.take_append_drop,o]at this;let:=ec (λq:Xm×cn Sn=>q.2.flatten.length) this;dsimp only at this;rw[C,aas,UB]at this;ext) (by rw[e,show(lb n w).n=(n:Int)from rfl,y,o,C];show F)
 rw[e,show(lb n w).n=(n:Int)from rfl,y,o,KK (b:=b)]at f;show#[x,row,z,t,e1,e2,L,E,#[f.d,f.t.ext λj A=>RG ()],K]
def SL(b:Int)(n:Nat):(Nat->Int×(Int×Int))->G (Nat->Bool)->G Str
 |_,[]=>[]
 |g,a::r=>(mv n (cG g a)).map kG++SL b n (Df b g a) r
def gE(b:Int):(Nat->Int×(Int×Int))->G (Nat->Bool)->Nat->Int×(Int×Int)
 |g,[]=>g
 |g,a::r=>gE b (Df b g a) r
def GS(b:Int)(j:Nat):∀(a:G (Nat->Bool)) (g:Nat->Int×(Int×Int)),gE b g a j=((g j).1+(a.length:Int),xg b (g j).1 (g j).2 (a.map λP=>bt P j)):=by
 intro a
 induction a with
 |nil=>intro g;show g j=((g j).1+0,(g j).2);rw[ac5]
 |cons P r d=>intro g;show gE b (Df b g P) r j=_;rw[d];show((g j).1+1+(r.length:Int),xg b ((g j).1+1) (kS b (g j).1 (g j).2 (bt P j)) _)=((g j).1+((r.length+1:Nat):Int),xg b ((g j).1+1) (kS b (g j).1 (g j).2 (bt P j)) _);congr 1;ext
def xT{x y:Nat×Bool}(h:kG x=kG y):x=y:=by
 let(j,d):=x;let(k,e):=y;let h:[if d=P then 43 else 45,97+j]=[if e=P then 43 else 45,97+k]:=ec (λs:Str=>s.cps.toList) h;let a:=(aby h).1;let b:=(aby (aby h).2).1;let:j=k:=by ext
 subst this;ext d<;>ext e
 .rfl
 .show bg a ()
 .show bg a ()
 .rfl
theorem JK{α d:Type}{f:α->d}(g:∀a b,f a=f b->a=b){l:G α}(h:l.Nodup):(l.map f).Nodup:=Xe.mpr (h.imp λn e=>n (g _ _ e))
def J7{a:Str}:∀{l:G Str},l.Nodup->a∈l->l.count a=1:=by
 intro l
 induction l with
 |nil=>intro _ h;ext h
 |cons x r f=>
  intro nd h;let(d,b):=VN.mp nd;by_cases e:x=a
  .subst e;rw[List.count_cons_self,XF.mpr d]
  .rw[List.count_cons_of_ne e]
   rcases UJ.mp h with z|z
   .show bg z.symm e
   .show f b z
def Qi{n j:Nat}{d:Bool}(b:j<n)(c:Nat->cv Bool):((mv n c).map kG).count (kG (j,d))=if c j=R d then 1 else 0:=by
 let nd:((mv n c).map kG).Nodup:=by let g:(mv n c).Nodup:=(Xe.mp (Kc n c)).imp λn e=>n (by rw[e]);show JK (λ_ _ h=>xT h) g
 by_cases q:c j=R d
 .rw[av q];show J7 nd (Yc (f:=kG) (rG.mpr #[b,q]))
 .rw[ax q];show XF.mpr λhm=>?_;let(x,a,e):=U7.mp hm;let:=xT e;subst this;show q (rG.mp a).2
def Qh{b:Int}{n j:Nat}{d:Bool}(f:j<n):∀(a:G (Nat->Bool)) (g:Nat->Int×(Int×Int)),(SL b n g a).count (kG (j,d))=EZ d b (g j).1 (g j).2 (a.map λP=>bt P j):=by
 intro a
 induction a with
 |nil=>intro g;rfl
 |cons P r e=>intro g;show((mv n (cG g P)).map kG++SL b n (Df b g P) r).count (kG (j,d))=_;rw[aem,Qi f,e];rfl
def OQ{b:Int}{n:Nat}{x:Str}:∀(a:G (Nat->Bool)) (g:Nat->Int×(Int×Int)),x∈SL b n g a->∃j d,j<n/\x=kG (j,d):=by
 intro a
 induction a with
 |nil=>intro g h;ext h
 |cons P r e=>
  intro g h;rcases VF.mp h with h|h
  .let(y,f,rfl):=U7.mp h;show#[y.1,y.2,(rG.mp f).1,W]
  .show e _ h
def lP(n:Nat)(p q:Nat->Bool):G Str:=((cF n λj=>q j&& !p j).map λj=>kG (j,P))++((cF n λj=>p j&& !q j).map λj=>kG (j,Uu))
def JJ{n j:Nat}{d e:Bool}(i:j<n)(r:Nat->Bool):((cF n r).map λj=>kG (j,e)).count (kG (j,d))=if r j=P/\d=e then 1 else 0:=by
 let nd:((cF n r).map λj=>kG (j,e)).Nodup:=JK (λa c h=>ec (·.1) (xT h)) (ae1.sublist aar);by_cases q:r j=P/\d=e
 .rw[av q];let(b,rfl):=q;show J7 nd (Yc (f:=λj=>kG (j,d)) (Ve.mpr #[U0.mpr i,b]))
 .rw[ax q];show XF.mpr λhm=>?_;let(x,g,h):=U7.mp hm;let h:=xT h;ext h;show q #[(Ve.mp g).2,W]
structure abW(b e m:Nat)(p q:Nat->Bool)(Ps:G (Nat->Bool)):Prop where
 ps:∃pre:G (Nat->Bool),pre.length=b/\Ps=pre++Us e q/\∀P∈pre,∀j,j<m->p j=q j->P j=p j
 e1:1<=e
structure GI(m:Nat)(b t:Int)(p:Nat->Bool)(g:Nat->Int×(Int×Int)):Prop where
 tm:∀j,j<m->(g j).1=t
 ls:∀j,j<m->(g j).2.1=bt p j
 fr:∀j,j<m->(g j).2.2<=t+b
def Gn{p q:Nat->Bool}{j:Nat}(h:p j=q j):bt p j=bt q j:=by ext bt;rw[h]
def xL{b e m:Nat}{p q:Nat->Bool}{o:cn (Nat->Bool)}(c:abW b e m p q o){t:Int}{g:Nat->Int×(Int×Int)}(v:GI m b t p g){j:Nat}(n:j<m):
  (∃k,k<=t+(o.length:Int)+b/\xg b (g j).1 (g j).2 (o.map λP=>bt P j)=(bt q j,k))/\∀d:Bool,EZ d b (g j).1 (g j).2 (o.map λP=>bt P j)=(if(q j&& !p j)=Uq/\d=Uq then 1 else 0)+(if(p j&& !q j)=Uq/\d=Uu then 1 else 0):=by
 let(a,u,rfl,F):=c.ps;let L:=c.e1;let I:=v.tm j n;let J:=v.ls j n;let K:=v.fr j n;let w:g j=(t,(bt p j,(g j).2.2)):=by rw[<-I,<-J]
 generalize (g j).2.2=f at w K;rw[w];dsimp only;let y:((a++Us e q).length:Int)=(b:Int)+e:=by rw[UB,UR,u];ext
 rw[y,Vf,aaK];by_cases h:p j=q j
 .let(H,G):=AC (b:Int) (a.map (λP=>bt P j)++Us e (bt q j)) t (bt p j,f) λi r Q=>by
   apply br;rcases VF.mp (Vb Q)with z|z
   .let(P,l,rfl):=U7.mp z;show Gn (F P l j n h)
   .rw[Y2 z];show(Gn h).symm
  show#[#[f,by ext,by rw[H,Gn h]],λd=>?_];rw[G d,h];cases q j<;>simp
 .let C:bt q j=0/\bt p j=1\/bt q j=1/\bt p j=0:=by
   ext bt;cases l:p j<;>cases N:q j
   .rw[l,N]at h;show bg W h
   .show .inr #[W,W]
   .show .inl #[W,W]
   .rw[l,N]at h;show bg W h
  let(k,M,B,A):=LU (b:Int) () C e L (a.map λP=>bt P j) t f (t+b) (λr E=>by let(P,_,rfl):=U7.mp E;show xW P j) (by rw[Ur,u];ext) (by rw[Ur,u]) ();show#[#[k,by ext,B],λd=>?_];rw[A d];ext bt;cases l:p j<;>cases N:q j
  .rw[l,N]at h;show bg W h
  .ext d<;>simp
  .ext d<;>simp
  .rw[l,N]at h;show bg W h
def Jz{b e m n:Nat}{p q:Nat->Bool}{f:G (Nat->Bool)}(c:abW b e m p q f){t:Int}{g:Nat->Int×(Int×Int)}(l:GI m b t p g)(i:n<=m):(SL b n g f).Perm (lP n p q):=by
 rw[List.perm_iff_count];intro x;by_cases h:∃j d,j<n/\x=kG (j,d)
 .let(j,d,a,rfl):=h;ext lP;rw[Qh a,(xL c l ()).2 d,aem,JJ a,JJ a]
 .rw[XF.mpr λz=>h (OQ _ _ z),XF.mpr λz=>h ?_]
  rcases VF.mp z with z|z
  .let(j,a,rfl):=U7.mp z;show#[j,P,U0.mp (Ve.mp a).1,W]
  .let(j,a,rfl):=U7.mp z;show#[j,Uu,U0.mp (Ve.mp a).1,W]
def A3{b e m:Nat}{p q:Nat->Bool}{h:G (Nat->Bool)}(c:abW b e m p q h){t:Int}{g:Nat->Int×(Int×Int)}(d:GI m b t p g):GI m b (t+(h.length:Int)) q (gE b g h):=by
 show#[λj a=>?_,λj a=>?_,λj a=>?_]
 .rw[GS];show(g j).1+_=_;rw[d.tm j a]
 .let((l,i,f),_):=xL c d a;rw[GS];show(xg b (g j).1 (g j).2 _).1=_;rw[f]
 .let((l,i,f),_):=xL c d a;rw[GS];show(xg b (g j).1 (g j).2 _).2<=_;rw[f];show i
def D1{f:Str->G D->cv RV}{b:FE}{i:FA}{g c a:bM}{pv:PV}{z:Str}{h:G PV}{ds:G D}{rv:RV}(d:b g=.ok (pv,c))(j:xp pv=R z)(k:i c=.ok (h,a))(hd:vZ a h=R ds)(e:f z ds=R rv):x5 f b i g=.ok (rv.pv,a):=by ext x5;rw[d,ej];dsimp only;rw[j,aZ,ej,k,ej,hd,aZ,ej,e,aZ,ej]
def RY:∀{X:G Str},(∀x∈X,Ut.strOk x=P)->Ut.canLayAll0 (X.map Ut.str)=P:=by
 intro X
 induction X with
 |nil=>intro _;rfl
 |cons x r a=>intro h;show(Ut.strOk x&&Ut.canLayAll0 (r.map Ut.str))=P;rw[h x UA,a λy b=>h y (UC _ b)];rfl
def S1:∀X:G Str,Ut.depthAll (X.map Ut.str)=0:=by
 intro X
 induction X with
 |nil=>rfl
 |cons x r a=>show max 0 (Ut.depthAll (r.map Ut.str))=0;rw[a];rfl
def TC:∀X:G Str,Ut.eqvAll (X.map Ut.str) (X.map Ut.str)=P:=by
 intro X
 induction X with
 |nil=>rfl
 |cons x r a=>show(decide (x=x)&&Ut.eqvAll (r.map Ut.str) (r.map Ut.str))=P;rw[a,aP W];rfl
def HQ{X:G Str}(h:∀x∈X,Ut.strOk x=P):n6 (.list (X.map .str)) (.list (X.map .str))=-(.bool Uu):=by
 ext n6;let a:oH (.list (X.map Ut.str))=P:=by show(Ut.canLayAll0 (X.map Ut.str)&&decide (Ut.depthAll (X.map Ut.str)+1<=64))=P;rw[RY h,S1];rfl
 rw[a,show Ut.canLay0 (.list (X.map Ut.str))=P from RY h,Xz,av W,show Ut.eqv (.list (X.map Ut.str)) (.list (X.map Ut.str))=_ from TC X];rfl
def HA:∀X:G Str,wy (X.map .str)=R X:=by
 intro X
 induction X with
 |nil=>rfl
 |cons x r a=>rw[UM];ext wy;rw[a];rfl
def Nx{X:G Str}(h:X.length<64):uN [.list (X.map .str)]=R (.ow ((gw X).map .str)):=by ext uN;dsimp only;rw[av (by rw[Ur];show h),HA]
def NQ{f:G D->cv RV}{e:Bq}{d:b3}{Z c:bC}{xs:G SV}{ds a:G D}(i:e d Z=.ok xs c)(b:bc (sh c) xs=R ds)(h:f ds=R (.ow a)):Kf f e d Z=.ok (.rf c.length) (c++[.lst (a.map .fz)]):=by ext Kf;rw[i,ek];ext LO;rw[b];show((RS.Vm c (f ds)).bind λg c=>me c g)=_;rw[h];rfl
def Qw(xs:G D)(y:D):bu (.list (xs++[y])) (.int (-1))=-(y):=by show(mo (xs++[y]) (-1)).map RV.fz=_;rw[JC];rfl
def MK{j:Nat}{d:Bool}(h:j<5):Ut.strOk (kG (j,d))=P:=by
 let:∀j,j<5->Ut.strOk (kG (j,P))=P/\Ut.strOk (kG (j,Uu))=P:=by left
 ext d
 .show(this j h).2
 .show(this j h).1
def Hu{n:Nat}{p q:Nat->Bool}(f:n<=5):(∀x∈gw (lP n p q),Ut.strOk x=P)/\(lP n p q).length<64:=by
 constructor
 .intro x b
  rcases VF.mp ((lx _).mem_iff.mp b)with z|z
  .let(j,a,rfl):=U7.mp z;show MK (by let:=U0.mp (Ve.mp a).1;ext)
  .let(j,a,rfl):=U7.mp z;show MK (by let:=U0.mp (Ve.mp a).1;ext)
 .unfold lP cF;let e:=WH (λj=>q j&& !p j) (U1 n);let d:=WH (λj=>p j&& !q j) (U1 n);rw[Vh]at e d;rw[UB,Ur,Ur];ext
theorem PH{m:Nat}{b t:Int}{q:Nat->Bool}{g:Nat->Int×(Int×Int)}(h:GI m b t q g):Kg g m=cF m q:=YT λj a=>by rw[h.ls j (U0.mp a)];ext bt;cases q j<;>rfl
theorem Pa{b:Int}{m:Nat}{g:Nat->Int×(Int×Int)}{P:Nat->Bool}(h:∀j,j<m->(g j).2.1=0\/(g j).2.1=1):∀j,j<m->(Df b g P j).2.1=0\/(Df b g P j).2.1=1:=λj a=>Qe (h j a) (xW P j)
abbrev BM(m:Nat)(a:G (Nat->Bool)):D:=.list (a.map λP=>.list (bX (cF m P)))
def Ms{Z:bC}{Q T l s m n w b e r:Nat}{V:cn Nat}{g:Nat->Int×(Int×Int)}{p q:Nat->Bool}{a:cn (Nat->Bool)}{t:Int}(hs:s<2)(m1:1<=m)(m6:m<=6)(n1:1<=n)(n5:n<=5)(H:n<=m)(w1:1<=w)(w4:w<=4)(hk:V.length=m)(h:DK Z Q T l (Bj s m) (b:Int) V g (bD (lb n w)) (ix (mO (AG n g))))(O:GI m b t p g)(c:abW b e m p q a)(hd:Z[r]?=cL (.lst (((gw (lP n p q)).map Ut.str).map .fz))):
  ∃D,iI [.rf Q,.fz (.int n),.fz (ox s m),.fz (BM m a),.rf r] Z=.ok (.fz (.bool Uq)) D/\DK D Q T l (Bj s m) (b:Int) V (gE b g a) (bD (lb n w)) (ix (mO (AG n (gE b g a))))/\Kp (Q::V) Z D:=by
 let ne:=h.ne;let lt:=h.t.lt;let ql:=(Uo.mp h.d).1;let dl:=(Uo.mp hd).1;let dq:r∉Q::V:=λz=>by
  rcases UJ.mp z with rfl|z
  .let:=hd.symm.trans h.d;ext this
  .let(j,C):=VS.mp z;let:=hd.symm.trans (h.t.k j r C);ext this
 let pm:=Jz c O H;let(d1,d2):=Hu (n:=n) (p:=p) (q:=q) n5;let sl:(SL b n g a).length<64:=by rw[pm.length_eq];show d2
 let ge:=A3 c O;let nn:Z.length∉Q::V:=λz=>by
  rcases UJ.mp z with z|z
  .omega
  .let:=lt.2.2 _ z;ext
 let K:Out (iI [.rf Q,.fz (.int n),.fz (ox s m),.fz (BM m a),.rf r] Z) (λv D=>v=.fz (.bool Uq)/\DK D Q T l (Bj s m) (b:Int) V (gE b g a) (bD (lb n w)) (ix (mO (AG n (gE b g a))))/\Kp (Q::V) Z D) (λ_=>False):=by
  show x8 (ρ:=[cL (.rf Q),-(.int n),-(ox s m),-(BM m a),cL (.rf r),CL,CL,CL]) W ?_;ext oX;show eT (x:=.rf Z.length) (Z1:=Z++[.lst []]) (ρ1:=[cL (.rf Q),-(.int n),-(ox s m),-(BM m a),cL (.rf r),cL (.rf Z.length),CL,CL]) (ff (ds:=[]) (by ext:0)) W ?_;show rq (yK (λi ρ D=>∃(B:cv SV) (o:Nat->Int×(Int×Int)) (L:cn Str),ρ=[cL (.rf Q),-(.int n),-(ox s m),-(BM m a),cL (.rf r),cL (.rf Z.length),B,CL]/\DK D Q T l (Bj s m) (b:Int) V o (bD (lb n w)) (ix (mO (AG n o)))/\(∀j,j<m->(o j).2.1=0\/(o j).2.1=1)/\gE b o (a.drop i)=gE b g a/\L++SL b n o (a.drop i)=SL b n g a/\D[Z.length]?=cL (.lst ((L.map .str).map .fz))/\Kp (Q::V) Z D) (ds:=a.map λP=>.list (bX (cF m P))) (Z1:=Z++[.lst []]) (na (nZ (d:=BM m a) (aG W) W W)) #[CL,g,[],W,#[eU h.d,h.t.app],λj C=>by rw[O.ls j C];show xW p j,W,W,bh,Kp.app] ?_ ?_)
  .rintro i d ρ D hi ⟨B,o,L,rfl,dk,bi,A,u,ls,kp⟩
   rw[UK]at hi;cases hq:a[i]? with
   |none=>rw[hq]at hi;ext hi
   |some P=>
   rw[hq]at hi;ext hi;let il:=(Uo.mp hq).1;let dr:a.drop i=P::a.drop (i+1):=by rw[WL il,(Uo.mp hq).2]
   rw[dr]at A u;let(x,E,z,Z2,Y,e2,e3,e4,e5,e6):=Fb hs m1 m6 n1 n5 H w1 w4 hk dk bi P;let l2:=e6 _ _ ls nn;let l3:=eU (J:=[.lst (((mv n (cG o P)).map λc=>Ut.str (kG c)).map .fz)]) l2;let u:L++((mv n (cG o P)).map kG++SL b n (Df b o P) (a.drop (i+1)))=SL b n g a:=u;let ll:=ec XZ u;rw[UB,UB,Ur]at ll;show#[[cL (.rf Q),-(.int n),-(ox s m),-(BM m a),cL (.rf r),cL (.rf Z.length),-(.list (bX (cF m P))),CL],D,W,?_];let akI:am (aE eR (pC (.str "scan ")) (bO dZ 2 {aa 2,aa 6})) [cL (.rf Q),-(.int n),-(ox s m),-(BM m a),cL (.rf r),cL (.rf Z.length),-(.list (bX (cF m P))),CL] D=.ok (.fz (.str E)) D:=ai (b8 (rv:=.fz (.str E)) bE (ky (rv:=.fz (.str x)) (ds:=[ox s m,.list (bX (cF m P))]) (a8 (aG W) (a8 (aG W) b4)) W W Y) W W e2);show uC (ka (Iu (aV W) ls (tT (ds:=[.str z]) (aF (fH (aV W) dk.d Dk (aF akI aX) W e3) aX) W e4) bh l3 (by simp only[Ur];ext))) #[_,Df b o P,L++(mv n (cG o P)).map kG,W,#[?_,?_],Pa bi,A,by rw[Vl];show u,?_,?_]
   .show eZ (λz=>nn (by rw[z];show UA)) (eU e5.d)
   .show e5.t.app.kp (S:=[Z.length]) (Kp.set UA) (by rw[UH];ext) (by rw[UH];ext) λx hx=>by rw[UH];let:=lt.2.2 x hx;ext
   .rw[ig l3,Vf,Vf,Vq (g:=Ut.str)];rfl
   .show λj c C nj=>eZ (λz=>?_) (eU (e6 j c (kp j c C nj) nj));let:=(Uo.mp C).1;ext
  .rintro ρ D ⟨B,o,L,rfl,dk,bi,A,u,ls,kp⟩
   rw[Ur,List.drop_length]at A u;let A:o=gE b g a:=A;subst A;let u:L++[]=SL b n g a:=u;rw[UZ]at u;subst u;let R:=kp _ _ hd dq;let(ts,f,k1,k2,k3,M):=GJ m6 q;let so:gw (SL b n g a)=gw (lP n p q):=Jt pm;let c1:Kf uN (aC (aH 5) bx) [cL (.rf Q),-(.int n),-(ox s m),-(BM m a),cL (.rf r),cL (.rf Z.length),B,CL] D=.ok (.rf D.length) (D++[.lst (((gw (lP n p q)).map Ut.str).map .fz)]):=by rw[<-so];show NQ (aF (aV W) aX) (by ext bc;rw[iE ls];rfl) (Nx sl)
   show vH (bS (dY c1 (aV W) (yt (iE bh) (iE (eU R)) (HQ d1)))) (qR ?_);let y:DK (D++[.lst (((gw (lP n p q)).map Ut.str).map .fz)]) Q T l (Bj s m) (b:Int) V (gE b g a) (bD (lb n w)) (ix (mO (AG n (gE b g a)))):=#[eU dk.d,dk.t.app];let G:Kp (Q::V) Z (D++[.lst (((gw (lP n p q)).map Ut.str).map .fz)]):=kp.trans Kp.app;generalize D++[Cell.lst (((gw (lP n p q)).map Ut.str).map .fz)]=Z3 at y G;let(I,_,U,_):=c.ps;obtain⟨e',rfl⟩:∃k,e=k+1:=#[e - 1,by let:=c.e1;ext];let ahR:bu (BM m a) (.int (-1))=-(.list (bX (cF m q))):=by rw[U,adA,<-Vl];show bu (.list ((I++Us e' q++[q]).map λP=>.list (bX (cF m P)))) (.int (-1))=_;rw[Vf];show Qw _ _
   show eT (x:=.fz (.str f)) (ρ1:=[cL (.rf Q),-(.int n),-(ox s m),-(BM m a),cL (.rf r),cL (.rf Z.length),B,-(.str f)]) (ai (D1 (rv:=.fz (.str f)) bE W (a8 (fV (nZ (d:=.list (bX (cF m q))) (b8 (rv:=.fz (.list (bX (cF m q)))) (aG W) (by ext:0) W W ahR) W W) W k1) b4) W k2)) W ?_;let dk3:=PH ge;let N:fC [.tuple (bX (Kg (gE b g a) V.length))]=.ok (.fz (.str (if f= "" then "." else f))):=by rw[hk,dk3];show k3
   let(J,sk):=F6 y () N;let q1:cB (.str f) (.str "")=-(.bool (decide (f= ""))):=MG M (by left);let F:am (aE bu (dF {aa 7,pC (.str ".")}) (ez Aw {aE cB (aa 7) (pC (.str ""))})) [cL (.rf Q),-(.int n),-(ox s m),-(BM m a),cL (.rf r),cL (.rf Z.length),B,-(.str f)] (Z3++J)=.ok (.fz (.str (if f= "" then "." else f))) (Z3++J):=by
    by_cases z:f= ""
    .rw[aP z]at q1;rw[av z];show ai (b8 (rv:=.fz (.str ".")) (by ext:0) (jO (rv:=.fz (.int 1)) (a8 (by ext:0) b4) W W) W W Sb)
    .rw[a6 z]at q1;rw[ax z];show ai (b8 (rv:=.fz (.str f)) (by ext:0) (jO (rv:=.fz (.int 0)) (a8 (by ext:0) b4) W W) W W Sg)
   let X:cB (.str (if f= "" then "." else f)) (.str (if f= "" then "." else f))=-(.bool Uq):=by
    split
    .show FQ (by left) (by left) (by left)
    .show FQ M M (aP W)
   show yA (dY (fH (aV W) y.d Dk (aF (ai (d:=.str "keys") bE) aX) W sk) F (de X)) #[W,#[eU y.d,y.t.app],G.trans Kp.app]
 let(v,D,Y,rfl,h1,h2):=SE K;show#[D,Y,h1,h2]
def CS(ns:G Int)(k:Int)(b:0<=k):∃c:Int,iU [.list (ns.map .int),.int k]=.ok (.fz (.int c)):=by
 obtain⟨n,rfl⟩:∃n:Nat,k=(n:Int):=#[k.toNat,by ext];let a:gz [.list (ns.map .int)]=-(nd ns.length):=(uH _).trans (by rw[Ur]);by_cases h:n<ns.length
 .show#[ns[n],iA (ρ:=[-(.list (ns.map .int)),-(nd n)]) W (ji (pv:=.fz (.int ns[n])) (rv:=.fz (.int ns[n])) (Qg (jw (b8 (rv:=.fz (.bool P)) (aG W) (jO (rv:=.fz (nd ns.length)) (a8 (aG W) b4) W a) W W ?_) W) (b8 (rv:=.fz (.int ns[n])) (aG W) (aG W) W W (Tz ?_))) W W)]
  .rw[rO,aP ()]
  .rw[UK,UD h];rfl
 .show#[0,iA (ρ:=[-(.list (ns.map .int)),-(nd n)]) W (ji (pv:=.fz (.int 0)) (rv:=.fz (.int 0)) (Oc (jw (b8 (rv:=.fz (.bool Uu)) (aG W) (jO (rv:=.fz (nd ns.length)) (a8 (aG W) b4) W a) W W ?_) W) bE) W W)];rw[rO,a6 ()]
theorem SX{i j:Int}(h: -2^64<i/\i<2^64):gG (.int i) (.int j)=-(.int (i*j)):=Mo h
theorem TZ{i j:Int}(h: -2^64<j/\j<2^64):gG (.int i) (.int j)=-(.int (i*j)):=Md h
def rc(x s m:Int):Int:=((x % 1000033+s)*(s+521) % 1000033*((x % 1000033+s)*(s+521) % 1000033)+x/1000033+7*s) % 999983/3 % m
theorem ue{x s m:Int}(hm:0<m):0<=rc x s m/\rc x s m<m:=#[afG _ (),aen _ hm]
def lJ(x:Int){s m:Int}(n:0<=s)(l:s<1000)(hm:0<m):cg [.int x,.int s,.int m]=.ok (.fz (.int (rc x s m))):=by ext rc;let j:wk (.int x) (.int 1000033)=-(.int (x % 1000033)):=yS ();let e:gG (.int (x % 1000033+s)) (.int (s+521))=-(.int ((x % 1000033+s)*(s+521))):=TZ #[by ext,by ext];generalize (x % 1000033+s)*(s+521)=y at e;let d:wk (.int y) (.int 1000033)=-(.int (y % 1000033)):=yS ();let b1:0<=y % 1000033/\y % 1000033<1000033:=#[afG _ (),aen _ ()];generalize y % 1000033=z at d b1;let b:gG (.int z) (.int z)=-(.int (z*z)):=TZ #[by ext,by ext];let i:yb (.int x) (.int 1000033)=-(.int (x/1000033)):=B1 #[by decide,by decide];let h:gG (.int 7) (.int s)=-(.int (7*s)):=SX #[by decide,by decide];generalize z*z=u at b;let a:wk (.int (u+x/1000033+7*s)) (.int 999983)=-(.int ((u+x/1000033+7*s) % 999983)):=yS ();generalize (u+x/1000033+7*s) % 999983=v at a;let g:yb (.int v) (.int 3)=-(.int (v/3)):=B1 #[by decide,by decide];let f:wk (.int (v/3)) (.int m)=-(.int (v/3 % m)):=yS hm;show iA (ρ:=[-(.int x),-(.int s),-(.int m),L]) W (BG (Ju (by ext:0) W (BG (Ju (by ext:0) W (ji (by ext:0) W W)))))
def Jn(ns:G Int)(lo a:cv Int):∃ms:G Int,ms.length<=ns.length/\Hg (.list (ns.map .int)) lo a=R (.ow (ms.map .int)):=by
 show#[(ns.drop (HT.sIx ns.length 0 lo)).take (HT.sIx ns.length ns.length a - HT.sIx ns.length 0 lo),?_,?_]
 .rw[VY,abl];ext
 .show R (RV.ow (E2 (ns.map .int) lo a))=_;ext E2;rw[Ur,List.map_take,List.map_drop]
def lc{c:FT}{cs:bM}(p:Nat->Bool)(xs:G Nat)(f:xs.length<=1000000)(g:di cs=cs)(h:∀x∈xs,c (-(nd x)::cs)=.ok (p x,-(nd x)::cs)):iY (dL (gN 0) c (aa 0) (bX xs) (L::cs) [])=.ok (bX (xs.filter p)):=by
 rw[C2 (λl=>∃o,l=o::cs) (λd=>match d with|.int i=>if p i.toNat=P then R (.int i)else L|_=>L) #[L,W] (by rw[jZ];show f) ?_,PJ (p:=p) xs λx _=>by show(if p ((x:Nat):Int).toNat=P then _ else _)=_;rw[Vz]];rintro d j l ⟨o,rfl⟩;let(x,e,rfl):=U7.mp j;show#[-(nd x)::cs,?_,_,W];show mf _ _ _ (nd x) (o::cs)=.ok ((if p ((x:Nat):Int).toNat=P then R (nd x)else L),-(nd x)::cs);rw[Vz];let b:di (R (PV.fz (nd x))::cs)=-(nd x)::cs:=by show AH _::di cs=_;rw[g];rfl
 let a:=h x e;cases q:p x with
 |true=>rw[q]at a;rw[av W];show KJ W a W W b
 |false=>rw[q]at a;rw[ax Ux];show Kj W a b
def Iv{m:Nat}(hm:m<=6)(c:Int){salt:Int}(b:0<=salt)(a:salt<1000):iC [nd m,.int c,.int salt]=.ok (.ow (bX (cF m λk=>decide (rc (c+41*(k:Int)) salt 2=0)))):=by
 let cm:iY (dL (gN 0) (au (aE cB (bO cg 3 {aE eE (aa 1) (aE gG (~~~41) (aa 0)),aa 2,~~~2}) (~~~0))) (aa 0) (bX (U1 m)) [L,-(.int c),-(.int salt)] [])=.ok (bX ((U1 m).filter λk=>decide (rc (c+41*(k:Int)) salt 2=0))):=lc _ _ (by rw[Vh];ext) W λk _=>by let d:gG (.int 41) (nd k)=-(.int (41*(k:Int))):=SX #[by decide,by decide];let e:=lJ (c+41*(k:Int)) b a (m:=2) ();ext:0
 show iA (ρ:=[-(nd m),-(.int c),-(.int salt)]) W (ji (fV (iS (ds:=[nd m]) (a8 (aG W) b4) W (jx ())) W cm) W W)
def Kr{m:Nat}(hm:m<=6)(c:Int){u:Nat}(g:u<=2)(a:Bool):∃r:Nat->Bool,jY [nd m,.int c,nd u,.bool a]=.ok (.ow (bX (cF m r))):=by
 cases a with
 |true=>
  let d1:yb (.int c) (.int 64)=-(.int (c/64)):=B1 ();let d:gG (.int 6) (nd u)=-(.int (6*(u:Int))):=SX #[by decide,by decide];show#[λk=>decide (U3.bitAnd (c/64/2^(6*(u:Int)+(k:Int)).toNat) 1=1),?_];let cm:iY (dL (gN 0) (au (aE cB (aE qL (aE Aj (aE yb (aa 1) (~~~64)) (aE eE (aE gG (~~~6) (aa 2)) (aa 0))) (~~~1)) (~~~1))) (aa 0) (bX (U1 m)) [L,-(.int c),-(nd u)] [])=.ok (bX ((U1 m).filter λk=>decide (U3.bitAnd (c/64/2^(6*(u:Int)+(k:Int)).toNat) 1=1))):=lc _ _ (by rw[Vh];ext) W λk _=>by
   let f:Aj (.int (c/64)) (.int (6*(u:Int)+(k:Int)))=-(.int (c/64/2^(6*(u:Int)+(k:Int)).toNat)):=by show(if decide (0<=6*(u:Int)+(k:Int))=P then R (RV.fz (.int _))else L)=_;rw[aP (),av W]
   let b1:qL (.int (c/64/2^(6*(u:Int)+(k:Int)).toNat)) (.int 1)=-(.int (U3.bitAnd (c/64/2^(6*(u:Int)+(k:Int)).toNat) 1)):=W;ext:0
  show iA (ρ:=[-(nd m),-(.int c),-(nd u),-(.bool P)]) W ?_;ext j9;show zI (b:=P) (by ext:0) (λ_=>?_) λq=>by ext q
  show yL (fV (iS (ds:=[nd m]) (a8 (aG W) b4) W (jx ())) W cm) W W
 |false=>let d:gG (.int 3) (nd u)=-(.int (3*(u:Int))):=SX #[by decide,by decide];let e:=Iv hm (c+3*(u:Int)) (salt:=241+(u:Int)) () ();show#[λk=>decide (rc (c+3*(u:Int)+41*(k:Int)) (241+(u:Int)) 2=0),iA (ρ:=[-(nd m),-(.int c),-(nd u),-(.bool Uu)]) W ?_];ext j9;show zI (b:=Uu) (by ext:0) (λq=>by ext q) λ_=>qM ?_;show ji (ky (rv:=.ow _) (a8 (aG W) (a8 (by ext:0) (a8 (by ext:0) b4))) W W e) W W
def mW{m k:Nat}{p:Nat->Bool}(h:k<m):decide (k∈cF m p)=p k:=by
 ext cF;cases q:p k with
 |true=>show aP (Ve.mpr #[U0.mpr h,q])
 |false=>show a6 λz=>by rw[(Ve.mp z).2]at q;ext q
abbrev lN(P:G Nat):D:=.list (bX P)
def Kw{d:D}{e:Nat}(h:e=1\/e=2):gG (.list [d]) (.int (e:Int))=R (.ow (Us e d)):=by rcases h with rfl|rfl<;>rfl
def JH{m b:Nat}(hm:m<=6)(M:b<=2)(p q:Nat->Bool)(c:Int)(f:Bool):∃e Ps,abW b e m p q Ps/\ia [nd m,nd b,lN (cF m p),lN (cF m q),.int c,.bool f]=.ok (.ow (Ps.map λP=>lN (cF m P))):=by
 let A:∃T,dh 10 jy [nd m,nd b,lN (cF m p),lN (cF m q),.int c,.bool f]=.ok T/\∃e Ps,abW b e m p q Ps/\T=.ow (Ps.map λP=>lN (cF m P)):=by
  show JQ (ρ:=[-(nd m),-(nd b),-(lN (cF m p)),-(lN (cF m q)),-(.int c),-(.bool f),CL,CL,CL,CL]) W ?_;ext jy;show pJ (ρ3:=[-(nd m),-(nd b),-(lN (cF m p)),-(lN (cF m q)),-(.int c),-(.bool f),R (.ow []),CL,CL,CL]) (by ext:0) W W ?_;show PN (λi S=>∃(a:cn (Nat->Bool)) (y w n:cv PV),S=[-(nd m),-(nd b),-(lN (cF m p)),-(lN (cF m q)),-(.int c),-(.bool f),R (.ow (a.map λP=>lN (cF m P))),y,w,n]/\a.length=i/\∀P∈a,∀j,j<m->p j=q j->P j=p j) (iS (ds:=[nd b]) (a8 (aG W) b4) W (jx ())) #[[],CL,CL,CL,W,W,λP t=>by ext t] ?_ ?_
  .rintro i d S l ⟨a,y,w,n,rfl,Q,t⟩
   unfold bX at l;rw[UK]at l;cases z:(U1 b)[i]? with
   |none=>rw[z]at l;ext l
   |some k=>
   rw[z]at l;ext l;let K:k<b:=U0.mp (Vb z);let L:i<b:=by let:=(Uo.mp z).1;rwa [Vh]at this
   let(r,er):=Kr hm c (u:=k) () f;let H:iY (dL (gN 0) (au (aE mn (aa 0) (aa 1))) (aa 0) (bX (cF m p)) [CL,-(lN (cF m q))] [])=.ok (bX ((cF m p).filter λk=>decide (k∈cF m q))):=lc _ _ (by let:(cF m p).length<=(U1 m).length:=WH _ _;rw[Vh]at this;ext) W λk _=>by ext:0
   let G:iY (dL (gN 0) (uX (au (aE mn (aa 0) (aa 1))) (lQ (au (aE mn (aa 0) (aa 2))) (uX (au (aE mn (aa 0) (aa 3))) (au (aE mn (aa 0) (aa 4)))))) (aa 0) (bX (U1 m)) [CL,-(lN ((cF m p).filter λk=>decide (k∈cF m q))),-(lN (cF m r)),-(lN (cF m p)),-(lN (cF m q))] [])=.ok (bX ((U1 m).filter λk=>decide (k∈(cF m p).filter λk=>decide (k∈cF m q))||(decide (k∈cF m r)&&(decide (k∈cF m p)||decide (k∈cF m q))))):=lc _ _ (by rw[Vh];ext) W λk _=>BU (by ext:0) λ_=>tW (by ext:0) λ_=>BU (by ext:0) λ_=>by ext:0
   show#[[-(nd m),-(nd b),-(lN (cF m p)),-(lN (cF m q)),-(.int c),-(.bool f),R (.ow (a.map λP=>lN (cF m P))),-(nd k),w,n],W,?_];show pJ (ρ3:=[-(nd m),-(nd b),-(lN (cF m p)),-(lN (cF m q)),-(.int c),-(.bool f),R (.ow (a.map λP=>lN (cF m P))),-(nd k),R (.ow (bX (cF m r))),n]) (ky (rv:=.ow _) (a8 (aG W) (a8 (aG W) (a8 (aG W) (a8 (aG W) b4)))) W W er) W W ?_;show pJ (ρ3:=[-(nd m),-(nd b),-(lN (cF m p)),-(lN (cF m q)),-(.int c),-(.bool f),R (.ow (a.map λP=>lN (cF m P))),-(nd k),R (.ow (bX (cF m r))),R (.ow (bX ((cF m p).filter λk=>decide (k∈cF m q))))]) (fV (nZ (d:=lN (cF m p)) (aG W) W W) W H) W W ?_;show C9 (IG W (fV (iS (ds:=[nd m]) (a8 (aG W) b4) W (jx ())) W G) W W (by rw[Ur];ext) W) #[a++[λk=>decide (k∈(cF m p).filter λk=>decide (k∈cF m q))||(decide (k∈cF m r)&&(decide (k∈cF m p)||decide (k∈cF m q)))],_,_,_,by rw[Vf];rfl,by rw[UB,Q];rfl,λP o j h g=>?_];rcases VF.mp o with o|o
   .show t P o j h g
   .rw[UH.mp o]
    show(decide (j∈(cF m p).filter λk=>decide (k∈cF m q))||(decide (j∈cF m r)&&(decide (j∈cF m p)||decide (j∈cF m q))))=p j;rw[mW h,mW h,mW h,<-g];cases N:p j with
    |true=>let v:j∈(cF m p).filter λk=>decide (k∈cF m q):=Ve.mpr #[Ve.mpr #[U0.mpr h,N],by rw[mW h,<-g];show N];rw[aP v];rfl
    |false=>
     let v:¬j∈(cF m p).filter λk=>decide (k∈cF m q):=λz=>by let:=(Ve.mp (Ve.mp z).1).2;rw[N]at this;ext this
     rw[a6 v];simp
  .rintro S ⟨a,y,w,n,rfl,Q,t⟩
   rw[jZ,Vh]at Q;obtain⟨e,C,E⟩:∃e:Nat,(e=1\/e=2)/\1+rc c 251 2=(e:Int):=by let:=ue (x:=c) (s:=251) (m:=2) ();show#[(1+rc c 251 2).toNat,by ext,by ext]
   let F:=lJ c (s:=251) (m:=2) () () ();let J:eE (.int 1) (.int (rc c 251 2))=-(.int (e:Int)):=by rw[<-E];rfl
   let B:=Kw (d:=lN (cF m q)) C;let I:eE (.list (a.map λP=>lN (cF m P))) (.list (Us e (lN (cF m q))))=R (.ow ((a++Us e q).map λP=>lN (cF m P))):=by show(if(a.map λP=>lN (cF m P)).length+(Us e (lN (cF m q))).length<=1000000 then R (RV.ow _)else CL)=_;rw[av (by rw[Ur,UR];ext),Vf,aaK]
   show ji (b8 (rv:=.ow _) (Cq W) (b8 (rv:=.ow (Us e (lN (cF m q)))) (by ext:0) (b8 (rv:=.fz (.int (e:Int))) bE (ky (rv:=.fz (.int (rc c 251 2))) (by ext:0) W W F) W W J) W W B) W W I) W #[e,a++Us e q,#[#[a,Q,W,t],by ext],W]
 let(T,er,e,Ps,v,rfl):=A;show#[e,Ps,v,er]
def Ss(p:Nat->Bool)(z:Nat->D):D->cv D
 |.int i=>if p i.toNat=P then R (z i.toNat)else L
 |_=>L
def Ho{p:Nat->Bool}{z:Nat->D}{x:Nat}:Ss p z (nd x)=if p x=P then R (z x)else L:=by show(if p ((x:Nat):Int).toNat=P then R (z ((x:Nat):Int).toNat)else L)=_;rw[Vz]
def qH{c:FT}{k:FE}{cs:bM}(p:Nat->Bool)(z:Nat->D)(xs:G Nat)(i:xs.length<=1000000)(j:di cs=cs)(h:∀x∈xs,c (-(nd x)::cs)=.ok (p x,-(nd x)::cs)/\k (-(nd x)::cs)=.ok (.fz (z x),-(nd x)::cs)):iY (dL (gN 0) c k (bX xs) (L::cs) [])=.ok ((xs.filter p).map z):=by
 let n:∀xs:G Nat,(bX xs).filterMap (Ss p z)=(xs.filter p).map z:=λxs=>by
  induction xs with
  |nil=>rfl
  |cons x r e=>
   show(nd x::bX r).filterMap (Ss p z)=_;cases q:p x with
   |true=>rw[Wi (b:=z x) (by rw[Ho,av q]),VZ q,UM,e]
   |false=>rw[Wh (by rw[Ho,ax (by rw[q];show Ux)]),Wo (by rw[q];show Ux),e]
 rw[C2 (λt=>∃o,t=o::cs) (Ss p z) #[L,W] (by rw[jZ];show i) ?_,n];rintro d l t ⟨o,rfl⟩;let(x,g,rfl):=U7.mp l;show#[-(nd x)::cs,?_,_,W];rw[Ho];let f:di (R (PV.fz (nd x))::cs)=-(nd x)::cs:=by show AH _::di cs=_;rw[j];rfl
 let(a,m):=h x g;cases q:p x with
 |true=>rw[q]at a;rw[av W];show KJ W a m W f
 |false=>rw[q]at a;rw[ax Ux];show Kj W a f
def QC(r:cv RV)(d:D):Bool:=match r with
 |some (.fz e)=>dq 8 e d
 |_=>Uu
def vI{r:cv RV}{d:D}(h:QC r d=P):r=-(d):=by
 unfold QC at h;split at h
 .rw[HW _ _ _ h]
 .ext h
def Lf:∀j,j<5->(QC (L3.kH (.str "abcde") (nd j)) (.str (og j))&&QC (eR (.str "+") (.str (og j))) (.str (kG (j,P)))&&QC (eR (.str "-") (.str (og j))) (.str (kG (j,Uu))))=P:=by left
def CJ{j:Nat}(h:j<5):L3.kH (.str "abcde") (nd j)=-(.str (og j))/\eR (.str "+") (.str (og j))=-(.str (kG (j,P)))/\eR (.str "-") (.str (og j))=-(.str (kG (j,Uu))):=by let:=Lf j h;rw[UO,UO]at this;show#[vI this.1.1,vI this.1.2,vI this.2]
def Ew{n m:Nat}(b:n<=5)(l:n<=m)(p q:Nat->Bool):jE [nd n,lN (cF m p),lN (cF m q)]=.ok (.ow ((gw (lP n p q)).map .str)):=by
 let t:iY (dL (gN 0) (lQ (au (aE mn (aa 0) (aa 1))) (au (aE rB (aa 0) (aa 2)))) (aE eR (pC (.str "+")) (aE L3.kH (pC (.str "abcde")) (aa 0))) (bX (U1 n)) [L,-(lN (cF m q)),-(lN (cF m p))] [])=.ok ((cF n λj=>q j&& !p j).map λj=>.str (kG (j,P))):=qH (λj=>q j&& !p j) (λj=>.str (kG (j,P))) _ (by rw[Vh];ext) W λj a=>by let i:=U0.mp a;let(h,g,f):=CJ (j:=j) ();show#[?_,by ext:8];rw[<-mW (m:=m) (p:=q) (show j<m by ext),<-mW (m:=m) (p:=p) (show j<m by ext)];show tW (by ext:0) λ_=>by ext:0
 let r:iY (dL (gN 0) (lQ (au (aE mn (aa 0) (aa 1))) (au (aE rB (aa 0) (aa 2)))) (aE eR (pC (.str "-")) (aE L3.kH (pC (.str "abcde")) (aa 0))) (bX (U1 n)) [L,-(lN (cF m p)),-(lN (cF m q))] [])=.ok ((cF n λj=>p j&& !q j).map λj=>.str (kG (j,Uu))):=qH (λj=>p j&& !q j) (λj=>.str (kG (j,Uu))) _ (by rw[Vh];ext) W λj a=>by let i:=U0.mp a;let(h,g,f):=CJ (j:=j) ();show#[?_,by ext:8];rw[<-mW (m:=m) (p:=q) (show j<m by ext),<-mW (m:=m) (p:=p) (show j<m by ext)];show tW (by ext:0) λ_=>by ext:0
 let(_,o):=Hu (n:=n) (p:=p) (q:=q) b;let u:eE (.list ((cF n λj=>q j&& !p j).map λj=>.str (kG (j,P)))) (.list ((cF n λj=>p j&& !q j).map λj=>.str (kG (j,Uu))))=R (.ow ((lP n p q).map .str)):=by
  let e:(cF n λj=>q j&& !p j).map (λj=>Ut.str (kG (j,P)))++(cF n λj=>p j&& !q j).map (λj=>Ut.str (kG (j,Uu)))=(lP n p q).map .str:=by ext lP;rw[Vf,Vq,Vq];rfl
  let d:=ec XZ e;rw[UB,Ur (as:=lP n p q)]at d;show(if((cF n λj=>q j&& !p j).map λj=>Ut.str (kG (j,P))).length+((cF n λj=>p j&& !q j).map λj=>Ut.str (kG (j,Uu))).length<=1000000 then R (RV.ow _)else L)=_;rw[av (),e]
 show iA (ρ:=[-(nd n),-(lN (cF m p)),-(lN (cF m q)),L]) W ?_;ext oK;show pJ (ρ3:=[-(nd n),-(lN (cF m p)),-(lN (cF m q)),R (.ow ((cF n λj=>q j&& !p j).map λj=>.str (kG (j,P))))]) (fV (iS (ds:=[nd n]) (a8 (aG W) b4) W (jx ())) W t) W W ?_;show ji (jO (rv:=.ow _) (a8 (b8 (rv:=.ow ((lP n p q).map .str)) (Cq W) (fV (iS (ds:=[nd n]) (a8 (aG W) b4) W (jx ())) W r) W W u) b4) W (Nx o)) W W
def RA(n w:Nat):Bool:=match iY (dL (gN 0) dJ (aE L3.kH (pC (.str "abcde")) (aa 0)) (bX (U1 n)) [L] [])with
 |.ok a=>(match iW " " [.list a]with
  |some (.fz (.str j))=>(match eR (.str "layer ") (.str j)with
   |some (.fz (.str row))=>(match iG [nd n]with
    |some (.fz (.str b))=>(match iG [nd w]with
     |some (.fz (.str tw))=>(match eR (.str "bed\nkeys ") (.str b)with
      |some (.fz (.str a1))=>(match eR (.str a1) (.str " wait ")with
       |some (.fz (.str a2))=>(match eR (.str a2) (.str tw)with
        |some (.fz (.str f))=>(match eR (.str f) (.str "\n")with
         |some (.fz (.str e))=>(match eR (.str e) (.str row)with
          |some (.fz (.str d))=>(match dc [.str d]with
           |.ok (.fz (.tuple [.str k,.str x]))=>k== "bed"&&Pg (eK [.str x]) (bD (lb n w))
           |_=>Uu)
          |_=>Uu)
         |_=>Uu)
        |_=>Uu)
       |_=>Uu)
      |_=>Uu)
     |_=>Uu)
    |_=>Uu)
   |_=>Uu)
  |_=>Uu)
 |_=>Uu
def LM:∀n,n<6->1<=n->∀w,w<5->1<=w->RA n w=P:=by left
def LV{n w:Nat}(d:1<=n)(t:n<=5)(b:1<=w)(r:w<=4):∃c j row s tw a1 a2 y v u x,iY (dL (gN 0) dJ (aE L3.kH (pC (.str "abcde")) (aa 0)) (bX (U1 n)) [L] [])=.ok c/\iW " " [.list c]=-(.str j)/\eR (.str "layer ") (.str j)=-(.str row)/\iG [nd n]=-(.str s)/\iG [nd w]=-(.str tw)/\eR (.str "bed\nkeys ") (.str s)=-(.str a1)/\eR (.str a1) (.str " wait ")=-(.str a2)/\eR (.str a2) (.str tw)=-(.str y)/\eR (.str y) (.str "\n")=-(.str v)/\eR (.str v) (.str row)=-(.str u)/\dc [.str u]=.ok (.fz (.tuple [.str "bed",.str x]))/\eK [.str x]=.ok (.fz (bD (lb n w))):=by
 let h:=LM n () d w () b;unfold RA at h;split at h
 .rename_i c e0
  split at h
  .rename_i j q
   split at h
   .rename_i row p
    split at h
    .rename_i s o
     split at h
     .rename_i tw m
      split at h
      .rename_i a1 l
       split at h
       .rename_i a2 i
        split at h
        .rename_i y g
         split at h
         .rename_i v f
          split at h
          .rename_i u e
           split at h
           .rename_i k x a;rw[UO]at h;rw[eq_of_beq h.1]at a;show#[c,j,row,s,tw,a1,a2,y,v,u,x,e0,q,p,o,m,l,i,g,f,e,a,mB h.2]
           .ext h
          .ext h
         .ext h
        .ext h
       .ext h
      .ext h
     .ext h
    .ext h
   .ext h
  .ext h
 .ext h
def r0(s m:Nat):Int:=if s=0 then 1 else(m:Int)
def r1(s m:Nat):Int:=if s=0 then(m:Int)else 1
def GX(s m:Nat):ox s m=.tuple [.int (r0 s m),.int (r1 s m)]:=by
 unfold ox r0 r1;by_cases h:s=0
 .rw[av h,av h,av h]
 .rw[ax h,ax h,ax h]
def Ph(s m:Nat):Bj s m=.tuple [.int (r0 s m),.int (r1 s m),.tuple (He s m)]:=by
 unfold Bj r0 r1;by_cases h:s=0
 .rw[av h,av h,av h]
 .rw[ax h,ax h,ax h]
def Jd(s m b:Nat):Bool:=match iY (dL (gN 0) dJ (bO i6 2 {aa 1,aa 0}) (bX (U1 m)) [L,-(ox s m)] [])with
 |.ok a=>(match iW "," [.list a]with
  |some (.fz (.str sp))=>(match iG [.int (r0 s m)]with
   |some (.fz (.str t0))=>(match iG [.int (r1 s m)]with
    |some (.fz (.str t1))=>(match iG [nd b]with
     |some (.fz (.str d))=>(match iW " " [.list [.str "frame",.str t0,.str t1,.str d,.str sp]]with
      |some (.fz (.str row))=>Pg (dc [.str row]) (.tuple [.str "frame",.tuple [.int (r0 s m),.int (r1 s m),nd b,.tuple (He s m)]])&&Pg (dG [.int (r0 s m),.int (r1 s m),.list (He s m)]) (.tuple [.int (r0 s m),.int (r1 s m),.tuple (He s m)])&&QC (zy [ox s m]) (nd m)
      |_=>Uu)
     |_=>Uu)
    |_=>Uu)
   |_=>Uu)
  |_=>Uu)
 |_=>Uu
def Ft:∀s,s<2->∀m,m<7->1<=m->∀b,b<3->Jd s m b=P:=by left
def Fr{s m b:Nat}(d:s<2)(a:1<=m)(n:m<=6)(e:b<3):∃c sp t0 t1 k row,iY (dL (gN 0) dJ (bO i6 2 {aa 1,aa 0}) (bX (U1 m)) [L,-(ox s m)] [])=.ok c/\iW "," [.list c]=-(.str sp)/\iG [.int (r0 s m)]=-(.str t0)/\iG [.int (r1 s m)]=-(.str t1)/\iG [nd b]=-(.str k)/\iW " " [.list [.str "frame",.str t0,.str t1,.str k,.str sp]]=-(.str row)/\dc [.str row]=.ok (.fz (.tuple [.str "frame",.tuple [.int (r0 s m),.int (r1 s m),nd b,.tuple (He s m)]]))/\dG [.int (r0 s m),.int (r1 s m),.list (He s m)]=.ok (.fz (.tuple [.int (r0 s m),.int (r1 s m),.tuple (He s m)]))/\zy [ox s m]=-(nd m):=by
 let h:=Ft s d m () a b e;unfold Jd at h;split at h
 .rename_i c e0
  split at h
  .rename_i sp l
   split at h
   .rename_i t0 j
    split at h
    .rename_i t1 i
     split at h
     .rename_i k g
      split at h
      .rename_i row f;rw[UO,UO]at h;show#[c,sp,t0,t1,k,row,e0,l,j,i,g,f,mB h.1.1,mB h.1.2,vI h.2]
      .ext h
     .ext h
    .ext h
   .ext h
  .ext h
 .ext h
def Hs{F:jW}{n:Nat}{d:Bq}{c:b3}{Z e a:bC}{xs:G SV}{x:SV}(g:d c Z=.ok xs e)(f:xs.length=n)(b:F xs e=.ok x a):zP F n d c Z=.ok x a:=by ext zP;rw[g,ek,av f,b];rfl
def tI{f:gq}{a:b3}{Z:bC}{ds:G D}(h:f a Z=.ok (.rf Z.length) (Z++[.lst (ds.map .fz)])):qD f a Z=.ok (.fz (.list ds)) (Z++[.dead]):=by let e:=yZ h (tE bh);rw[e,ZX _ _ (Uy _),XR];rfl
theorem Kk{f:gq}{a:b3}{Z:bC}{d:D}(h:f a Z=.ok (.fz d) Z):qD f a Z=.ok (.fz d) Z:=yZ h W
def AJ(c:Int){n:Nat}:∃s m:Nat,s<2/\n<=m/\m<=n+1/\jl [.int c,nd n]=.ok (.fz (ox s m)):=by
 let d1:=lJ c (s:=233) (m:=2) () () ();let d:=lJ c (s:=239) (m:=2) () () ();let b1:=ue (x:=c) (s:=233) (m:=2) ();obtain⟨k,a⟩:∃k:Nat,rc c 233 2=(k:Int):=#[(rc c 233 2).toNat,by ext];let e:eE (nd n) (.int (rc c 233 2))=-(nd (n+k)):=by rw[a];rfl
 by_cases h:rc c 239 2=0
 .show#[0,n+k,by decide,by ext,by ext,?_];show iA (ρ:=[-(.int c),-(nd n),L]) W ?_;ext ir;show pJ (ρ3:=[-(.int c),-(nd n),-(nd (n+k))]) (by ext:0) W W ?_;show zI (b:=decide (rc c 239 2=0)) (by ext:0) (λ_=>?_) λq=>bg h (of_decide_eq_false q);ext:12;rfl
 .show#[1,n+k,by decide,by ext,by ext,?_];show iA (ρ:=[-(.int c),-(nd n),L]) W ?_;ext ir;show pJ (ρ3:=[-(.int c),-(nd n),-(nd (n+k))]) (by ext:0) W W ?_;show zI (b:=decide (rc c 239 2=0)) (by ext:0) (λq=>bg (a7 q) h) λ_=>qM ?_;ext:12;rfl
def Mj(n:Nat):ix (mO (AG n λ_=>(0,(0,0))))=kJ:=by
 let e:(AG n λ_=>(0,(0,0)))=λ_=>Uu:=by funext j;ext AG;show(decide (j<n)&&Uu)=Uu;rw[afD]
 rw[e];rfl
theorem Gc:n6 (.str "ok") (.str "ok")=-(.bool Uu):=vI (by left)
abbrev eQ(ns:G Int)(h:cv SV)(n s m b:Nat)(a sp:Str)(g f e d:cv SV):b3:=[-(.list (ns.map .int)),h,-(nd n),-(ox s m),-(nd m),-(nd b),R (.rf 0),-(.str a),-(.str sp),g,f,e,d]
theorem DK.ap{Z J:bC}{Q T l:Nat}{a:D}{b:Int}{c:G Nat}{g:Nat->Int×(Int×Int)}{e st:D}(h:DK Z Q T l a b c g e st):DK (Z++J) Q T l a b c g e st:=#[eU h.d,h.t.app]
def main(ns:cn Int)(D:ns.length<=63):L10.QO F_law [.list (ns.map .int)]=.ok (.fz (.bool Uq)):=by
 let(f,e0):=CS ns 0 ();let(M,e1):=CS ns 1 ();let dn:=lJ f (s:=269) (m:=5) () () ();let bn:=ue (x:=f) (s:=269) (m:=5) ();obtain⟨n,hn⟩:∃n:Nat,1+rc f 269 5=(n:Int):=#[(1+rc f 269 5).toNat,by ext];let an:eE (.int 1) (.int (rc f 269 5))=-(nd n):=by show cL (RV.fz (.int (1+rc f 269 5)))=_;rw[hn]
 let(s,m,hs,G,hm,ef):=AJ f (n:=n);let db:=lJ M (s:=257) (m:=3) () () ();let bb:=ue (x:=M) (s:=257) (m:=3) ();obtain⟨b,hb⟩:∃b:Nat,rc M 257 3=(b:Int):=#[(rc M 257 3).toNat,by ext];rw[hb]at db;let dw:=lJ f (s:=23) (m:=4) () () ();let bw:=ue (x:=f) (s:=23) (m:=4) ();obtain⟨w,hw⟩:∃w:Nat,1+rc f 23 4=(w:Int):=#[(1+rc f 23 4).toNat,by ext];let aw:eE (.int 1) (.int (rc f 23 4))=-(nd w):=by show cL (RV.fz (.int (1+rc f 23 4)))=_;rw[hw]
 let(ts,j,a,tn,tw,a1,a2,a3,a4,a5,x,w0,w1,w2,w3,w4,w5,w6,w7,w8,w9,O,N):=LV (n:=n) (w:=w) () () () ();let(us,r,t0,t1,tb,I,f0,f1,f2,f3,f4,f5,f6,f7,f8):=Fr (s:=s) (m:=m) (b:=b) hs () () ();let i0:bu (ox s m) (.int 0)=-(.int (r0 s m)):=by rw[GX];show jK
 let i1:bu (ox s m) (.int 1)=-(.int (r1 s m)):=by rw[GX];show jX
 let S:Out (F_law [.fz (.list (ns.map .int))] []) (λv _=>v=.fz (.bool Uq)) (λ_=>False):=by
  show x8 (ρ:=[-(.list (ns.map .int)),CL,CL,CL,CL,CL,CL,CL,CL,CL,CL,CL,CL]) W ?_;ext JU;show eT (x:=.fz (.int f)) (ρ1:=[-(.list (ns.map .int)),-(.int f),CL,CL,CL,CL,CL,CL,CL,CL,CL,CL,CL]) (ai (by ext:8)) W ?_;show eT (x:=.fz (nd n)) (ρ1:=[-(.list (ns.map .int)),-(.int f),-(nd n),CL,CL,CL,CL,CL,CL,CL,CL,CL,CL]) (ai (by ext:8)) W ?_;show eT (x:=.fz (ox s m)) (ρ1:=[-(.list (ns.map .int)),-(.int f),-(nd n),-(ox s m),CL,CL,CL,CL,CL,CL,CL,CL,CL]) (ai (by ext:8)) W ?_;show eT (x:=.fz (nd m)) (ρ1:=[-(.list (ns.map .int)),-(.int f),-(nd n),-(ox s m),-(nd m),CL,CL,CL,CL,CL,CL,CL,CL]) (ai (by ext:8)) W ?_;show eT (x:=.fz (nd b)) (ρ1:=[-(.list (ns.map .int)),-(.int f),-(nd n),-(ox s m),-(nd m),-(nd b),CL,CL,CL,CL,CL,CL,CL]) (ai (by ext:8)) W ?_;let(Z1,T1,l1,ks1,d1,k1,_):=Qs (Z:=[]);show eT (x:=.rf 0) (Z1:=Z1) (ρ1:=[-(.list (ns.map .int)),-(.int f),-(nd n),-(ox s m),-(nd m),-(nd b),cL (.rf 0),CL,CL,CL,CL,CL,CL]) (vQ aX W d1) W ?_;show eT (x:=.fz (.str a)) (ρ1:=[-(.list (ns.map .int)),-(.int f),-(nd n),-(ox s m),-(nd m),-(nd b),cL (.rf 0),-(.str a),CL,CL,CL,CL,CL]) (ai (b8 (rv:=.fz (.str a)) bE (D1 (rv:=.fz (.str j)) bE W (a8 (fV (iS (ds:=[nd n]) (a8 (aG W) b4) W (jx ())) W w0) b4) W w1) W W w2)) W ?_;let(Z2,s2,k2,_):=Lu k1 O N;let tx:am (aE eR (aE eR (aE eR (aE eR (aE eR (pC (.str "bed\nkeys ")) (ez iG {aa 2})) (pC (.str " wait "))) (ez iG {aE eE (~~~1) (bO cg 3 {aa 1,~~~23,~~~4})})) (pC (.str "\n"))) (aa 7)) [-(.list (ns.map .int)),-(.int f),-(nd n),-(ox s m),-(nd m),-(nd b),cL (.rf 0),-(.str a),CL,CL,CL,CL,CL] Z1=.ok (.fz (.str a5)) Z1:=ai (by ext:8);show vH (bS (dY (fH (aV W) k1.d Dk (aF tx aX) W s2) (ai (d:=.str "ok") bE) (de Gc))) (qR ?_);show eT (x:=.fz (.str r)) (ρ1:=eQ ns (-(.int f)) n s m b a r CL CL CL CL) (ai (D1 (rv:=.fz (.str r)) bE W (a8 (fV (iS (ds:=[nd m]) (a8 (aG W) b4) W (jx ())) W f0) b4) W f1)) W ?_;let Q:(He s m).length=m:=by ext He;rw[Ur,Vh]
  let(Z3,T,l,F,s3,hk,k3,_):=E9 (b':=(b:Int)) k2 () f6 f7;rw[Q]at hk;rw[<-Ph,<-Mj n]at k3;show vH (bS (dY (fH (aV W) k2.d Dk (aF (ai (d:=.str I) (D1 (rv:=.fz (.str I)) bE W (a8 (by ext:0) b4) W f5)) aX) W s3) (ai (d:=.str "ok") bE) (de Gc))) (qR ?_);show eT (x:=.fz (.list [])) (Z1:=Z3++[.dead]) (ρ1:=eQ ns (-(.int f)) n s m b a r (-(.list [])) CL CL CL) (tI (ds:=[]) (ff (ds:=[]) (by ext:0))) W ?_;obtain⟨hi,X⟩:∃hi:Int,(aE v1 (~~~63) (aE gG (~~~11) (ez Aw {aE cB (aa 5) (~~~2)}))) (cZ (eQ ns (-(.int f)) n s m b a r (-(.list [])) CL CL CL))=.ok (.fz (.int hi),cZ (eQ ns (-(.int f)) n s m b a r (-(.list [])) CL CL CL)):=by
   let q5:cB (nd b) (.int 2)=-(.bool (decide ((b:Int)=2))):=lC _ _;by_cases z:(b:Int)=2
   .rw[aP z]at q5;let R:gG (.int 11) (.int 1)=-(.int 11):=W;show#[52,b8 (rv:=.fz (.int 52)) bE (b8 (rv:=.fz (.int 11)) bE (jO (rv:=.fz (.int 1)) (a8 (by ext:0) b4) W W) W W R) W W W]
   .rw[a6 z]at q5;let R:gG (.int 11) (.int 0)=-(.int 0):=W;show#[63,b8 (rv:=.fz (.int 63)) bE (b8 (rv:=.fz (.int 0)) bE (jO (rv:=.fz (.int 0)) (a8 (by ext:0) b4) W W) W W R) W W W]
  let(L,ml,em):=Jn ns (cL 2) (cL hi);show rq (yK (λi ρ y=>∃(E u o h:cv SV) (p:Nat->Bool) (g:Nat->Int×(Int×Int)) (t:Int),ρ=eQ ns E n s m b a r (-(lN (cF m p))) u o h/\DK y 0 T l (Bj s m) (b:Int) F g (bD (lb n w)) (ix (mO (AG n g)))/\GI m b t p g) (ds:=L.map .int) (Z1:=Z3++[.dead]) (na (nZ (d:=.list (L.map .int)) (Np (rv:=.ow (L.map .int)) (aG W) (vj bE W) (vj X W) W em) W W)) #[-(.int f),CL,CL,CL,λ_=>Uu,λ_=>(0,(0,0)),0,?_,k3.ap,#[λ_ _=>W,λ_ _=>W,λ_ _=>by show(0:Int)<=0+(b:Int);ext]] ?_ ?_)
  .show eQ ns (-(.int f)) n s m b a r (-(.list [])) CL CL CL=_;rw[show cF m (λ_=>Uu)=[]from acV.mpr λ_ _=>Ux];rfl
  .rintro i d ρ y H ⟨E,u,o,h,p,g,t,rfl,dk,gi⟩
   rw[UK]at H;cases z:L[i]? with
   |none=>rw[z]at H;ext H
   |some c=>
   rw[z]at H;ext H;show#[eQ ns (-(.int c)) n s m b a r (-(lN (cF m p))) u o h,y,W,?_];obtain⟨A,Y⟩:∃A:Bool,am (FC (gm vU zp (~~~0) (aa 1) (aE IJ (~~~10) (~~~18)))) (eQ ns (-(.int c)) n s m b a r (-(lN (cF m p))) u o h) y=.ok (.fz (.bool A)) y:=#[!(decide (0<=c)&&decide (c<10^18)),ai (by ext:8)];show eT (x:=.fz (.bool A)) (ρ1:=eQ ns (-(.int c)) n s m b a r (-(lN (cF m p))) (-(.bool A)) o h) Y W ?_;let es:=Iv (m:=m) () c (salt:=263) () ();generalize (λk:Nat=>decide (rc (c+41*(k:Int)) 263 2=0))=q0 at es;show eT (x:=.fz (lN (cF m q0))) (Z1:=y++[.dead]) (ρ1:=eQ ns (-(.int c)) n s m b a r (-(lN (cF m p))) (-(.bool A)) (-(lN (cF m q0))) h) (tI (ff (ky (rv:=.ow (bX (cF m q0))) (by ext:0) W W es))) W ?_;let C:DK (y++[.dead]) 0 T l (Bj s m) (b:Int) F g (bD (lb n w)) (ix (mO (AG n g))):=dk.ap;generalize y++[Cell.dead]=Z4 at C;let B:∀(q:Nat->Bool) (J:bC),DK J 0 T l (Bj s m) (b:Int) F g (bD (lb n w)) (ix (mO (AG n g)))->vT ((aR (dW (qD (am (bO ia 6 (ae (aa 4) (ae (aa 5) {aa 9,aa 11,aa 1,aa 10}))))) (gb 12))
 (aR (cT (vW (b5 (zP iI 5 (aC (aH 6) (aC (am (aa 2)) (aC (am (aa 3)) (aC (am (aa 12)) (aC (am (bO jE 3 {aa 2,aa 9,aa 11})) bx)))))))) (gB (am (pC (.bool Uu)))) cQ)
 (dW (qD (am (aa 11))) (gb 9)))) (eQ ns (-(.int c)) n s m b a r (-(lN (cF m p))) (-(.bool A)) (-(lN (cF m q))) h) J) (λρ y=>∃(E u o h:cv SV) (p:Nat->Bool) (g:Nat->Int×(Int×Int)) (t:Int),ρ=eQ ns E n s m b a r (-(lN (cF m p))) u o h/\DK y 0 T l (Bj s m) (b:Int) F g (bD (lb n w)) (ix (mO (AG n g)))/\GI m b t p g) (λv _=>v=.fz (.bool Uq)) (λ_=>False):=λq J dk5=>by
    let(e,K,ce,U):=JH (m:=m) (b:=b) () () p q c A;show eT (x:=.fz (BM m K)) (Z1:=J++[.dead]) (ρ1:=eQ ns (-(.int c)) n s m b a r (-(lN (cF m p))) (-(.bool A)) (-(lN (cF m q))) (-(BM m K))) (tI (ff (ky (rv:=.ow (K.map λP=>lN (cF m P))) (by ext:0) W W U))) W ?_;let dk6:DK (J++[.dead]++[.lst (((gw (lP n p q)).map Ut.str).map .fz)]) 0 T l (Bj s m) (b:Int) F g (bD (lb n w)) (ix (mO (AG n g))):=dk5.ap.ap;let(Z7,e7,dk7,_):=Ms hs () () () () G () () hk dk6 gi ce bh;let ed:=Ew (n:=n) (m:=m) () G p q;show vH (tX (b:=Uq) (bS (Hs (aF (aV W) (aF (ai (d:=nd n) (by ext:0)) (aF (ai (d:=ox s m) (by ext:0)) (aF (ai (d:=BM m K) (by ext:0)) (aF (ff (ky (rv:=.ow ((gw (lP n p q)).map .str)) (by ext:0) W W ed)) aX))))) W e7))) (qR ?_);show uC (fL (Kk (ai (d:=lN (cF m q)) (by ext:0))) W) #[_,_,_,_,q,gE b g K,_,W,dk7,A3 ce gi]
   cases hdg:A with
   |false=>subst hdg;show vH (bz (by ext:0)) (qR ?_);show B q0 Z4 C
   |true=>
    subst hdg;let cm:iY (dL (gN 0) (au (aE cB (aE qL (aE Aj (aa 1) (aa 0)) (~~~1)) (~~~1))) (aa 0) (bX (U1 m)) [CL,-(.int c)] [])=.ok (bX ((U1 m).filter λk=>decide (U3.bitAnd (c/2^k) 1=1))):=lc _ _ (by rw[Vh];ext) W λk _=>by
     let s1:Aj (.int c) (nd k)=-(.int (c/2^k)):=by show(if decide (0<=(k:Int))=Uq then cL (RV.fz (.int (c/2^((k:Int)).toNat)))else CL)=_;rw[aP (),av W,Vz]
     let b1:qL (.int (c/2^k)) (.int 1)=-(.int (U3.bitAnd (c/2^k) 1)):=W;ext:0
    show OW (bz (by ext:0)) ?_;show eT (x:=.fz (lN (cF m λk=>decide (U3.bitAnd (c/2^k) 1=1)))) (Z1:=Z4++[.dead]) (ρ1:=eQ ns (-(.int c)) n s m b a r (-(lN (cF m p))) (-(.bool Uq)) (-(lN (cF m λk=>decide (U3.bitAnd (c/2^k) 1=1)))) h) (tI (ff (fV (iS (ds:=[nd m]) (a8 (aG W) b4) W (jx ())) W cm))) W ?_;show B _ _ C.ap
  .rintro ρ y ⟨E,u,o,h,p,g,t,rfl,dk,gi⟩;show yA (ai bE) W
 let(v,y,e,rfl):=SE S;ext L10.QO;rw[show([Ut.list (ns.map .int)].map SV.fz)=[.fz (.list (ns.map .int))]from rfl,e]
end K91
local macro_rules| `(tactic|ext:1)=> `(tactic|exact⟨rfl,rfl,rfl,by left,rfl,by left,by left⟩)| `(tactic|ext:25)=> `(tactic|first
 |exact .head _
 |(apply List.Mem.tail;ext:25))
local macro_rules| `(tactic|ext:22)=> `(tactic|first
 |change L3.cD
 |change L3.pd
 |change L3.mz
 |change L3.oZ
 |change L3.Oo
 |change L3.gC
 |change L3.x4
 |change L3.tK
 |change L3.tS
 |change L3.x0
 |change L3.Ds)
local macro_rules| `(tactic|ext:16)=> `(tactic|·first
 |ext:22
 |change L3.bI
 |change L3.jp
 |change L3.Di
 |change L3.lR
 |change L3.qG
 |change L3.Kv
 |change L3.Ei
 |change L3.tF
 |change L3.tN
 |change L3.C3
 |change L3.Ov
 |change L3.Eu
 |change L3.eX
 |change L3.pM
 |change L3.i9
 |change L3.LY
 |change L3.xw
 |change L3.rA
 |change L3.ub
 |change L3.jb
 |change L3.nM
 |change L3.DZ
 |change L3.Et
 |change L3.j7
 |change L3.kh
 |change L3.C4
 |change L3.jJ
 |change L3.ki
 |change L3.nS
 |change L9.BP
 |change L10.DM
 |change L3.lR)
local macro_rules| `(tactic|ext:7)=> `(tactic|·first
 |change L3.ag
 |change L3.aA
 |(with_reducible apply L3.aD);ext:16;ext:7;ext:7
 |change L3.aM
 |(with_reducible apply L3.bL);ext:13
 |(with_reducible apply L3.cI);ext:16;ext:13
 |(with_reducible apply L3.jF);ext:13
 |(with_reducible apply L3.fD);ext:13
 |(with_reducible apply L3.yo);ext:7
 |change L3.io
 |change L3.ul
 |(with_reducible apply L3.Jp);ext:14;ext:7;ext:7
 |(with_reducible apply L3.jL);ext:16;ext:7;ext:29;ext:29
 |(with_reducible apply L3.iV);ext:16;ext:16;ext:7;ext:7;ext:7
 |(with_reducible apply L3.Ig);(·simp);ext:7
 |(with_reducible apply L3.x3);ext:7;ext:7
 |(with_reducible apply L3.JS);ext:7
 |(with_reducible apply L3.M3);ext:16;ext:7
 |(with_reducible apply L3.Fx);(·assumption))
local macro_rules| `(tactic|ext:13)=> `(tactic|·first
 |(with_reducible apply L3.ah);ext:7;ext:13
 |change L3.ar)
local macro_rules| `(tactic|ext:14)=> `(tactic|·first
 |(with_reducible apply L3.aL);(with_reducible apply L3.aD);(·ext:22);ext:7;ext:7
 |(with_reducible apply L3.aL);(with_reducible apply L3.iV);(·ext:22);(·ext:22);ext:7;ext:7;ext:7
 |(with_reducible apply L3.gQ);ext:14;ext:14
 |(with_reducible apply L3.oJ);ext:14;ext:14
 |(with_reducible apply L3.qW);ext:14
 |(with_reducible apply L3.kK);ext:7
 |change L3.cc)
local macro_rules| `(tactic|ext:11)=> `(tactic|·first
 |change L3.aK
 |(with_reducible apply L3.g9);ext:11;ext:11
 |change L3.rX
 |(with_reducible apply L3.rm);ext:11
 |(with_reducible apply L3.Rz);ext:7
 |change L10.bN
 |(with_reducible apply L10.uM);ext:11;ext:11
 |change L10.Dc
 |(with_reducible apply L10.Es);ext:11)
local macro_rules| `(tactic|ext:26)=> `(tactic|·first
 |(with_reducible apply L3.gO);ext:13
 |(with_reducible apply L3.d4);ext:7
 |(with_reducible apply L3.IH);ext:13
 |(with_reducible apply L3.Ec);ext:13
 |(with_reducible apply L3.Au);ext:13
 |(with_reducible apply L10.qQ);ext:26
 |(with_reducible apply L10.pX);ext:5)
local macro_rules| `(tactic|ext:29)=> `(tactic|·first
 |(with_reducible apply L3.c7);ext:7
 |change L3.fQ)
local macro_rules| `(tactic|ext:5)=> `(tactic|·first
 |(with_reducible apply L10.aI);ext:7
 |change L10.bA
 |(with_reducible apply L10.Al);ext:5;ext:5
 |(with_reducible apply L10.iH);ext:16;ext:5;ext:5
 |(with_reducible apply L10.fZ);(·assumption);(·ext:25);ext:5
 |(with_reducible apply L10.wG);ext:17
 |(with_reducible apply L10.wV);ext:17
 |(with_reducible apply L10.tM);ext:17
 |(with_reducible apply L10.La);ext:5;ext:5
 |(with_reducible apply L10.yn);ext:17
 |(with_reducible apply L10.ut);ext:5;ext:5
 |(with_reducible apply L10.lY);(·assumption);ext:5;ext:17
 |(with_reducible apply L10.A2);ext:5
 |(with_reducible apply L10.zD);ext:5
 |(with_reducible apply L10.JI);ext:5;ext:5
 |(with_reducible apply L10.My);ext:5;ext:5
 |(with_reducible apply L10.yw);ext:16;ext:17
 |(with_reducible apply L10.nR);ext:5
 |(with_reducible apply L10.C5);ext:5;ext:5
 |(with_reducible apply L10.Qo);ext:19;ext:5;ext:5
 |(with_reducible apply L10.za);(·assumption);ext:17
 |(with_reducible apply L10.J1);ext:5)
local macro_rules| `(tactic|ext:17)=> `(tactic|·first
 |(with_reducible apply L10.bV);ext:5;ext:17
 |change L10.dN)
local macro_rules| `(tactic|ext:19)=> `(tactic|·first
 |(with_reducible apply L10.hJ);(with_reducible apply L10.iH);(·ext:22);ext:5;ext:5
 |(with_reducible apply L10.zC);ext:14
 |(with_reducible apply L10.Ll);ext:19;ext:19
 |(with_reducible apply L10.OG);ext:19;ext:19
 |(with_reducible apply L10.Da);ext:19
 |(with_reducible apply L10.M4);ext:5)
local macro_rules| `(tactic|ext:2)=> `(tactic|·first
 |(with_reducible apply L3.aQ);ext:2;ext:2
 |(with_reducible apply L3.eJ);ext:7;ext:11
 |(with_reducible apply L3.fA);ext:14;ext:2;ext:2
 |(with_reducible apply L3.bf);ext:7
 |(with_reducible apply L3.tH);ext:7
 |change L3.cJ
 |(with_reducible apply L3.BR);ext:26;ext:11;ext:2
 |(with_reducible apply L3.A9);ext:14;ext:2
 |change L3.mL
 |(with_reducible apply L10.aJ);ext:2;ext:2
 |(with_reducible apply L10.dQ);ext:5;ext:11
 |(with_reducible apply L10.pq);ext:19;ext:2;ext:2
 |(with_reducible apply L10.qJ);ext:5
 |(with_reducible apply L10.eP);ext:5
 |(with_reducible apply L10.IU);ext:5;ext:5;ext:5
 |(with_reducible apply L10.jt);(·assumption);(·ext:25);ext:5;ext:5
 |change L10.jG
 |(with_reducible apply L10.tZ);ext:26;ext:11;ext:2
 |change L10.Hq
 |change L10.xm)
local macro_rules| `(tactic|ext:6)=> `(tactic|·first
 |exact L2.bj
 |exact L2.cH (by assumption)
 |exact L2.oM (by assumption)
 |exact L3.gA (by assumption)
 |exact L3.xI (by assumption)
 |exact L9.zh
 |exact L3.jo
 |exact L3.mF
 |exact L2.rS
 |exact L2.Il
 |exact L2.RL
 |exact L2.sB
 |exact L3.t6
 |exact L2.NY
 |exact L2.z7
 |exact L2.zd
 |exact L2.tV
 |exact L2.vF
 |exact L2.HB
 |exact L2.xQ
 |exact L2.yu
 |exact L2.Kb
 |exact L2.Q1
 |exact L2.c9
 |exact L2.fO
 |exact L2.dU
 |exact L2.yO
 |exact L2.kY
 |exact L3.wL
 |exact L2.kQ
 |exact L10.wC
 |exact L2.GU
 |exact L2.IM
 |exact L3.nw
 |exact L2.oz
 |exact afZ
 |exact L2.md
 |exact L2.ko
 |exact L2.Hf
 |exact L2.GQ
 |exact L2.wS
 |exact L2.qB
 |exact L2.wK
 |exact L10.Qm
 |exact L2.qC
 |change Wl
 |change Xr
 |change Xs
 |change PySem.F.slot_list_insert
 |change PySem.F.type_list_insert
 |change YI
 |change YJ
 |change YR
 |change YH
 |change abO
 |exact L3.kM rfl
 |exact L10.vn rfl
 |exact L10.vO rfl
 |exact L10.B7 rfl
 |rfl)
local macro_rules| `(tactic|ext:4)=> `(tactic|·first
 |(with_reducible apply L2.pv);(·rfl);(·(first|exact br rfl|exact bP (br rfl)|exact bP (bP rfl)));(·decide);(·decide)
 |change L2.aB
 |(with_reducible apply L2.b0);ext:6;ext:4;ext:4;(·exact λ_ _=>rfl)
 |change L2.aO
 |(with_reducible apply L2.dB);ext:6;ext:4;ext:4
 |(with_reducible apply L2.D3);(·assumption);ext:4;ext:4;(·exact λ_ _=>rfl)
 |(with_reducible apply L2.bB);(·assumption);(·assumption);ext:9;(·decide);(·rfl);(·decide);(·rfl);(·rfl)
 |(with_reducible apply L2.iM);ext:9
 |change L2.hG
 |(with_reducible apply L2.fJ);ext:9
 |(with_reducible apply L2.cj);ext:6;(·rfl);(·assumption);ext:6;ext:9;(·decide);(·decide);(·rfl);(·rfl)
 |(with_reducible apply L2.bJ);ext:6;(·rfl);(·assumption);ext:6;ext:9;(·decide);(·decide);(·rfl);(·rfl)
 |(with_reducible apply L2.jr);(·rfl);(·assumption);(·(first|rfl|exact⟨_,rfl⟩));(·decide)
 |change L2.uz
 |(with_reducible apply L2.fG);ext:6;ext:4;ext:4;(·(first|rfl|with_unfolding_all rfl))
 |(apply L2.hW);ext:4;(·rfl)
 |(apply L2.gx);ext:6;ext:6;ext:6;ext:6;ext:4;ext:9;(·rfl);(·rfl);(·decide);(·rfl);(·rfl)
 |(with_reducible apply L2.vP);ext:18;ext:4;ext:4
 |(apply L2.Gw);ext:6;ext:6;ext:6;ext:6;ext:4;(·rfl);(·decide)
 |(with_reducible apply L2.pk);ext:4
 |(with_reducible apply L2.uO);ext:4;ext:4
 |(with_reducible apply L2.kU);ext:6;ext:6;ext:4;ext:4;ext:4;(·rfl)
 |(with_reducible apply L2.Nl);ext:6;ext:4
 |(with_reducible apply L2.Hv);ext:4
 |(apply L2.dX);ext:6;ext:4;ext:30;ext:30
 |(apply L2.IZ);ext:4;ext:4;(·exact⟨rfl,rfl,rfl,rfl⟩)
 |(with_reducible apply L2.DJ);(·rfl);(·assumption);ext:6;(·(first|rfl|exact⟨_,rfl⟩));(·decide);(·decide)
 |(apply L10.wW);(·assumption);ext:6;(·assumption);ext:4;ext:9;(·decide);(·rfl);(·rfl);(·rfl)
 |(apply L10.GM);(·assumption);ext:6;(·assumption);ext:4;(·decide);(·rfl)
 |(apply L10.MX);(·assumption);ext:6;(·assumption);ext:9;(·decide);(·rfl);(·decide);(·rfl);(·rfl)
 |(apply L10.GH);(·assumption);ext:6;(·assumption);(·decide);(·rfl);(·decide)
 |(apply L10.DD);(·rfl);(·rfl);(·assumption);ext:9;(·rfl))
local macro_rules| `(tactic|ext:9)=> `(tactic|·first
 |(with_reducible apply L2.af);ext:4;ext:9;(·rfl)
 |change L2.ao)
local macro_rules| `(tactic|ext:18)=> `(tactic|·first
 |(with_reducible apply L2.aW);ext:6;ext:4;ext:4;(·(first|rfl|with_unfolding_all rfl))
 |(with_reducible apply L2.rY);ext:18
 |(with_reducible apply L2.OA);ext:32;(·(first|rfl|with_unfolding_all rfl))
 |(with_reducible apply L2.Ag);ext:6;ext:6;ext:4;ext:4;ext:4;(·rfl)
 |(with_reducible apply L2.PW.pt);ext:27
 |(with_reducible apply L2.ic);ext:4;(·(intro _;rfl)))
local macro_rules| `(tactic|ext:27)=> `(tactic|·first
 |(with_reducible apply L2.gU);ext:18
 |(with_reducible apply L2.je);ext:18;ext:27
 |(with_reducible apply L2.pE);ext:18
 |(with_reducible apply L2.vK);ext:18;ext:27)
local macro_rules| `(tactic|ext:32)=> `(tactic|·first
 |(with_reducible apply L2.P3);(·assumption);ext:4;ext:4)
local macro_rules| `(tactic|ext:23)=> `(tactic|·first
 |(with_reducible apply L2.aY);(·(first|assumption|left));(·rfl);(·(first|exact br rfl|exact bP rfl|assumption|rfl));(·(first|exact br rfl|exact bP rfl|assumption|rfl))
 |(with_reducible apply L2.eS);ext:23;ext:23;(·rfl)
 |change L2.lj
 |(apply L2.ph);(·rfl);ext:23;(·rfl);(·rfl)
 |(apply L2.OS);ext:4;ext:4;ext:6;(·(intro _;rfl)))
local macro_rules| `(tactic|ext:33)=> `(tactic|·first
 |(with_reducible apply L2.eA);(·rfl);(·assumption);ext:9;(·rfl)
 |(apply L3.Gs);(·rfl);(·assumption);ext:9;(·rfl);(·rfl)
 |(apply L3.vh);(·rfl);(·assumption);ext:9;(·rfl)
 |(apply L3.zF);(·rfl);(·assumption);ext:9;(·rfl)
 |(apply L3.JY);ext:4
 |(apply L3.c8);ext:4)
local macro_rules| `(tactic|ext:30)=> `(tactic|·first
 |change L2.gM
 |(with_reducible apply L2.eh);ext:4)
local macro_rules| `(tactic|ext:3)=> `(tactic|·first
 |(with_reducible apply L2.ay);ext:3
 |change L2.b7
 |(with_reducible apply L2.aj);ext:3;ext:3
 |(with_reducible apply L2.cx);(·(first|assumption|left));(·rfl);(·(first|exact br rfl|exact bP rfl|assumption|rfl));ext:4;(·rfl);(·(first|exact br rfl|exact bP rfl|assumption|rfl))
 |(with_reducible apply L2.lz);ext:4;(·rfl)
 |(with_reducible apply L2.aN);ext:4
 |(with_reducible apply L2.dR);ext:18;ext:3;ext:3
 |(with_reducible apply L2.rC);ext:6;(·rfl);ext:33;ext:23;ext:3;(·(intro _;rfl))
 |(apply L2.lI);ext:4;ext:4;(·rfl)
 |(with_reducible apply L2.KC);(·assumption);ext:4;ext:4;ext:4;(·rfl)
 |(with_reducible apply L2.Ox);ext:4;ext:23;(·rfl);(·rfl);(·rfl)
 |change L2.Lg
 |(with_reducible apply L2.AL);ext:6;ext:18;ext:3
 |change L2.kL)
local macro_rules| `(tactic|ext:10)=> `(tactic|(intros;refine L3.yX (by ext:2) ?_;first|(apply L2.aj);ext:3;ext:3|(apply L2.ay);ext:3))| `(tactic|ext:15)=> `(tactic|(intros;refine L3.lM (by ext:2) ?_;first|(apply L2.aj);ext:3;ext:3|(apply L2.ay);ext:3))
namespace K91
open PySem L2 L3 STP
def top(i:Nat):Xg:=PySem.Challenge.pw_chordbed_k91_whole_from_wires_to_letters.main.body.getD i (.Pass ⟨0,0,0,0⟩)
def fb:Xg->G Xg
 |.For _ _ b _ _=>b
 |.If _ b _ _=>b
 |_=>[]
def ss:Vr->Vr
 |.Subscript _ v _=>v
 |e=>e
def lp:Vr->Pos
 |.List _ p=>p
 |_=>⟨0,0,0,0⟩
def fI:Xg->Vr
 |.For _ i _ _ _=>i
 |_=>.Name "" ⟨0,0,0,0⟩
def nP:Xg->Pos
 |.Assign [.Name _ p] _ _=>p
 |_=>⟨0,0,0,0⟩
def sv:Vr->Vr
 |.Subscript v _ _=>v
 |e=>e
def le:Vr->G Vr
 |.List l _=>l
 |_=>[]
def bl:Vr->Vr
 |.BinOp a _ _ _=>a
 |e=>e
def dK:Vr->G (cv Vr)
 |.Dict k _ _=>k
 |_=>[]
def dV:Vr->G Vr
 |.Dict _ v _=>v
 |_=>[]
section
variable{P:UY}{w:Vi}{K:lD}{U:Str->cv Um}{X:Heap}{f:Uw}{Z:V3}
theorem zz(F:WA K "layer_of" "layer_of" (top 22) f Z)(b:U "max"=L):FnOk P w K U X cz 1 f Z ["standing"] (g7 K 1 fE):=d7 (N:=["standing"]) (g:=oP) F (by ext:1) W W W λl A a s H E nd h d j e=>lM (aQ (by ext:2)
   (bf (cI L10.DM (ah (bT W W (d4 (aD bI ag aA)) (rm (g9 aK (g9 aK rX))) (aL (aD cD (aD bI ag aA) aM)) (aD bI ag aA)) ar)))) (aj (by ext:3)
   (ay (aN (L10.DD W W b (af (bR ["key","act"] [] W (c8 (b0 bj (pv 0) aB (λ_ _=>W))) (λ_ _ _ _=>(ph W (eS (aY (i:=0) (show UW (["key","act"]:G Str) by left) W (br W)) (eS (aY (i:=1) (show UW (["key","act"]:G Str) by left) W (br W)) lj)))) (λ_ _ _ _=>(eY (aW (cH d) (b0 bj (pv 1) aB (λ_ _=>W)) aO (bF _)))) (λ_ _ _ _=>(b0 bj (pv 1) aB (λ_ _=>W))) trivial W) ao)))))
theorem xJ(F:WA K "looked_up" "looked_up" (top 25) f Z):FnOk P w K U X cz 1 f Z ["bed","layer","key"] (g7 K 3 j8):=d7 (N:=["bed","layer","key","meaning"]) (g:=ny) F (by ext:1) W W W λi A a s H E nd e d h b=>lM (aQ (by ext:2)
   (aQ (by ext:2)
   (bf ag))) (aj (by ext:3)
   (aj (by ext:3)
   (ay (aN (pv 3)))))
theorem ug(F:WA K "chords_over" "chords_over" (top 26) f Z)(d:U "all"=L):FnOk P w K U X cz 1 f Z ["bed","keys"] (g7 K 2 cr):=d7 (N:=["bed","keys"]) (g:=kF) F (by ext:1) W W W λl A a s H E nd h e j b=>lM (bf (bT W W (d4 (aD bI ag aA)) aK (kK (cI rA (ah (bT W W (d4 ag) aK cc (aD gC ag (aD bI ag aA))) ar))) ag)) (ay (aN (bR ["chord"] [("keys",1)] W (c8 (b0 bj (pv 0) aB (λ_ _=>W))) (λ_ _ _ _=>(aY (i:=0) (show UW (["chord","keys"]:G Str) by left) W (bP W))) (λ_ _ _ _=>(eY (ic (cj (kM W) W d wK (af (bR ["key"] [("chord",0)] W (c8 (pv 1)) (λ_ _ _ _=>(aY (i:=0) (show UW (["key","chord"]:G Str) by left) W (br W))) (λ_ _ _ _=>b6) (λ_ _ _ _=>(fG (gA b) (pv 0) (b0 bj (pv 1) aB (λ_ _=>W)) (by with_unfolding_all rfl))) ⟨⟨W,W,br W⟩,trivial⟩ W) ao))))) (λ_ _ _ _=>(pv 0)) ⟨⟨W,W,br W⟩,trivial⟩ W)))
theorem wx(F:WA K "chord_acts" "chord_acts" (top 27) f Z)(h:U "list"=L)(n:U "sorted"=L)(p:U "len"=L){b:J}(e:U "NONE"=R (.ref b))(d:∀O H,DV O K H (.ref b) (.tuple [(.str "none")])):FnOk P w K U X cz 1 f Z ["bed","keys"] (g7 K 2 im):=d7 (N:=["bed","keys","chord"]) (g:=lS) F (by ext:1) W W W λq A a s H E nd m l o j=>lM (aQ (by ext:2)
   (bf (bT W W (d4 ag) aK cc (aD bI (aD bI (aD bI ag aA) aA) ag)))) (aj (by ext:3)
   (ay (aN (bR ["key"] [("bed",0)] W (c8 (pv 1)) (λ_ _ _ _=>(aY (i:=0) (show UW (["key","bed"]:G Str) by left) W (br W))) (λ_ _ _ _=>b6) (λ_ _ _ _=>(b0 bj (b0 bj (b0 bj (pv 1) aB (λ_ _=>W)) aB (λ_ _=>W)) (pv 0) (λ_ _=>W))) ⟨⟨W,W,br W⟩,trivial⟩ W))))
theorem xN(F:WA K "_law_cell" "_law_cell" (top 92) f Z)(b:U "len"=L):FnOk P w K U X cz 1 f Z ["_law_script","_law_k"] (g7 K 2 iU):=d7 (N:=["_law_script","_law_k"]) (g:=sr) F (by ext:1) W W W λj A a s H E nd h e i d=>lM (bf (Jp (aL (aD mz ag (cI pM (ah ag ar)))) (aD bI ag ag) aA)) (ay (aN (vP (aW sB (pv 1) (cj fO W b md (af (pv 0) ao)) (bF _)) (b0 bj (pv 0) (pv 1) (λ_ _=>W)) aB)))
theorem yD(F:WA K "_law_draw" "_law_draw" (top 93) f Z):FnOk P w K U X cz 1 f Z ["_law_cell_here","_law_salt","_law_many"] (g7 K 3 cg):=d7 (N:=["_law_cell_here","_law_salt","_law_many","_law_number"]) (g:=nv) F (by ext:1) W W W (by delta nv;ext:15)
theorem v4(F:WA K "_law_frame" "_law_frame" (top 94) f Z)(a:ci P w K U X 1 "_law_draw" ["_law_cell_here","_law_salt","_law_many"] 3 cg):FnOk P w K U X cz 2 f Z ["_law_cell_here","_law_keys"] (g7 K 2 jl):=d7 (N:=["_law_cell_here","_law_keys","_law_many"]) (g:=ir) F (by ext:1) W W W (by delta ir;ext:15)
theorem zl(F:WA K "_law_spot" "_law_spot" (top 95) f Z)(b:U "str"=L)(e:U "int"=L):FnOk P w K U X cz 1 f Z ["_law_frame_here","_law_key"] (g7 K 2 i6):=d7 (N:=["_law_frame_here","_law_key"]) (g:=sj) F (by ext:1) W W W λl A a s H E nd i d j h=>lM (bf (aD bI (fD (ah (aD eX (cI jb (ah ag ar)) aM) (ah (aD eX aM (cI jb (ah ag ar))) ar))) (cI ub (ah (aD cD (aD bI ag aA) aA) ar)))) (ay (aN (b0 bj (fJ (af (dB c9 (bJ cW W b l7 (af (pv 1) ao)) aO) (af (dB c9 aO (bJ cW W b l7 (af (pv 1) ao))) ao))) (bJ kY W e wS (af (fG (cH d) (b0 bj (pv 0) aB (λ_ _=>W)) aB (bF _)) ao)) (λ_ _=>W))))
theorem tD(F:WA K "_law_reading" "_law_reading" (top 96) f Z)(d:U "str"=L)(b:U "sum"=L)(l:U "range"=L)(j:U "int"=L):FnOk P w K U X cz 1 f Z ["_law_frame_here","_law_keys"] (g7 K 2 dZ):=d7 (N:=["_law_frame_here","_law_keys"]) (g:=mE) F (by ext:1) W W W λo A a s H E nd m h n e=>lM (aQ (fA (aL (aD cD (aD bI ag aA) aA)) (bf (cI jb (ah (cI L10.Ko (ah (bT W W (d4 ag) aK cc (aD Eu aA ag)) ar)) ar))) cJ)
   (bf (jj ki aM (ah (bT W W (gO (ah (aD bI ag aA) ar)) aK cc (cI jb (ah (cI ub (ah (aD gC ag ag) ar)) ar))) ar)))) (aj (dR (aW (cH h) (b0 bj (pv 0) aB (λ_ _=>W)) aB (bF _)) (ay (aN (bJ cW W d l7 (af (cj (L10.Fv W) W b L10.Sf (af (bR ["_law_key"] [] W (c8 (pv 1)) (λ_ _ _ _=>(aY (i:=0) (show UW (["_law_key"]:G Str) by left) W (br W))) (λ_ _ _ _=>b6) (λ_ _ _ _=>(dB Kb aB (pv 0))) trivial W) ao)) ao)))) b7)
   (ay (aN (gx U5 V9 Wa lB aO (af (bR ["_law_key"] [("_law_keys",1)] W (eA W l (af (b0 bj (pv 0) aB (λ_ _=>W)) ao)) (λ_ _ _ _=>(aY (i:=0) (show UW (["_law_key","_law_keys"]:G Str) by left) W (br W))) (λ_ _ _ _=>b6) (λ_ _ _ _=>(bJ cW W d l7 (af (bJ kY W j wS (af (fG (gA e) (pv 0) (pv 1) (by with_unfolding_all rfl)) ao)) ao))) ⟨⟨W,W,br W⟩,trivial⟩ W) ao)))))
theorem A1(F:WA K "_law_set" "_law_set" (top 97) f Z)(h:ci P w K U X 1 "_law_draw" ["_law_cell_here","_law_salt","_law_many"] 3 cg)(e:U "range"=L):FnOk P w K U X cz 2 f Z ["_law_many","_law_cell_here","_law_salt"] (g7 K 3 iC):=d7 (N:=["_law_many","_law_cell_here","_law_salt"]) (g:=uq) F (by ext:1) W W W λm A a s H E nd d b l j=>lM (bf (bT W W (gO (ah ag ar)) aK (aL (aD cD (bL (ah (aD jp ag (aD qG aA ag)) (ah ag (ah aA ar)))) aA)) ag)) (ay (aN (bR ["_law_key"] [("_law_cell_here",1),("_law_salt",2)] W (eA W e (af (pv 0) ao)) (λ_ _ _ _=>(aY (i:=0) (show UW (["_law_key","_law_cell_here","_law_salt"]:G Str) by left) W (br W))) (λ_ _ _ _=>(eY (aW (cH b) (bB h d (af (dB jo (pv 1) (dB t6 aB (pv 0))) (af (pv 2) (af aB ao)))) aB (bF _)))) (λ_ _ _ _=>(pv 0)) ⟨⟨W,W,br W⟩,⟨⟨W,W,br W⟩,trivial⟩⟩ W)))
theorem ye(F:WA K "_law_some" "_law_some" (top 98) f Z)(j:ci P w K U X 2 "_law_set" ["_law_many","_law_cell_here","_law_salt"] 3 iC)(d:U "range"=L):FnOk P w K U X cz 3 f Z ["_law_many","_law_cell_here","_law_turn","_law_digits"] (g7 K 4 jY):=d7 (N:=["_law_many","_law_cell_here","_law_turn","_law_digits"]) (g:=j9) F (by ext:1) W W W λm A a s H E nd h b l e=>lM (aQ (fA (kK ag) (bf (bT W W (gO (ah ag ar)) aK (aL (aD cD (aD tF (aD tN (aD Ei ag aA) (aD jp (aD qG aA ag) ag)) aA) aA)) ag)) cJ)
   (by ext:2)) (aj (dR (ic (pv 3)) (ay (aN (bR ["_law_key"] [("_law_cell_here",1),("_law_turn",2)] W (eA W d (af (pv 0) ao)) (λ_ _ _ _=>(aY (i:=0) (show UW (["_law_key","_law_cell_here","_law_turn"]:G Str) by left) W (br W))) (λ_ _ _ _=>(eY (aW (cH b) (dB yu (dB xQ (dB z7 (pv 1) aB) (dB jo (dB t6 aB (pv 2)) (pv 0))) aB) aB (bF _)))) (λ_ _ _ _=>(pv 0)) ⟨⟨W,W,br W⟩,⟨⟨W,W,br W⟩,trivial⟩⟩ W))) b7)
   (ay (by ext:3)))
theorem wc(F:WA K "_law_scans" "_law_scans" (top 99) f Z)(e:ci P w K U X 3 "_law_some" ["_law_many","_law_cell_here","_law_turn","_law_digits"] 4 jY)(m:ci P w K U X 1 "_law_draw" ["_law_cell_here","_law_salt","_law_many"] 3 cg)(d:U "range"=L):FnOk P w K U X cz 4 f Z ["_law_many","_law_bound","_law_ahead","_law_keys","_law_cell_here","_law_digits"] (g7 K 6 ia):=d7 (N:=["_law_many","_law_bound","_law_ahead","_law_keys","_law_cell_here","_law_digits","_law_found","_law_turn","_law_some_here","_law_still"]) (g:=jy) F (by ext:1) W W W λn A b s H E nd j h l a=>lM (aQ (eJ (fD ar) aK)
   (aQ (BR (gO (ah ag ar)) aK (aQ (by ext:2)
   (aQ (eJ (bT W W (d4 ag) aK (aL (aD gC ag ag)) ag) aK)
   (tH (yo (bT W W (gO (ah ag ar)) aK (oJ (aL (aD gC ag ag)) (gQ (aL (aD gC ag ag)) (oJ (aL (aD gC ag ag)) (aL (aD gC ag ag))))) ag))))))
   (by ext:2))) (aj (cx (i:=6) nd W (br W) (fJ ao))
   (aj (rC YY.never W (eA W d (af (pv 1) ao)) (aY (i:=7) nd W (br W)) (aj (by ext:3)
   (aj (cx (i:=9) nd W (bP W) (bR ["_law_key"] [("_law_keys",3)] W (c8 (pv 2)) (λ_ _ _ _=>(aY (i:=0) (show UW (["_law_key","_law_keys"]:G Str) by left) W (br W))) (λ_ _ _ _=>(eY (aW (gA a) (pv 0) (pv 1) (by with_unfolding_all rfl)))) (λ_ _ _ _=>(pv 0)) ⟨⟨W,W,br W⟩,trivial⟩ W))
   (ay (lz (gx Wl Xr Xs kQ (pv 6) (af (bR ["_law_key"] [("_law_still",9),("_law_some_here",8),("_law_ahead",2),("_law_keys",3)] W (eA W d (af (pv 0) ao)) (λ_ _ _ _=>(aY (i:=0) (show UW (["_law_key","_law_still","_law_some_here","_law_ahead","_law_keys"]:G Str) by left) W (br W))) (λ_ _ _ _=>(eY (PW.pt (vK (aW (gA a) (pv 0) (pv 1) (by with_unfolding_all rfl)) (pE (PW.pt (je (aW (gA a) (pv 0) (pv 2) (by with_unfolding_all rfl)) (gU (PW.pt (vK (aW (gA a) (pv 0) (pv 3) (by with_unfolding_all rfl)) (pE (aW (gA a) (pv 0) (pv 4) (by with_unfolding_all rfl))))))))))))) (λ_ _ _ _=>(pv 0)) ⟨⟨W,W,br W⟩,⟨⟨W,W,br W⟩,⟨⟨W,W,br W⟩,⟨⟨W,W,br W⟩,trivial⟩⟩⟩⟩ W) ao)))))))
   (ay (by ext:3))))
theorem zK(F:WA K "_law_due" "_law_due" (top 100) f Z)(d:U "range"=L)(e:U "sorted"=L):FnOk P w K U X cz 1 f Z ["_law_bed","_law_ahead","_law_keys"] (g7 K 3 jE):=d7 (N:=["_law_bed","_law_ahead","_law_keys","_law_found"]) (g:=oK) F (by ext:1) W W W λm A b s H E nd j h l a=>lM (aQ (eJ (bT W W (gO (ah ag ar)) aK (gQ (aL (aD gC ag ag)) (aL (aD x4 ag ag))) (aD eX aM (aD lR aM ag))) aK)
   (bf (cI L10.Dz (ah (aD jp ag (bT W W (gO (ah ag ar)) aK (gQ (aL (aD gC ag ag)) (aL (aD x4 ag ag))) (aD eX aM (aD lR aM ag)))) ar)))) (aj (pW (i:=3) ["_law_key"] [("_law_keys",2),("_law_ahead",1)] nd W W W (eA W d (af (pv 0) ao)) (λ_ _ _ _=>(aY (i:=0) (show UW (["_law_key","_law_keys","_law_ahead"]:G Str) by left) W (br W))) (λ_ _ _ _=>(eY (PW.pt (je (aW (gA a) (pv 0) (pv 1) (by with_unfolding_all rfl)) (gU (aW (xI a) (pv 0) (pv 2) (by with_unfolding_all rfl))))))) (λ_ _ _ _=>(dB c9 aO (b0 bj aO (pv 0) (λ_ _=>W)))) ⟨⟨W,W,br W⟩,⟨⟨W,W,br W⟩,trivial⟩⟩ W)
   (ay (aN (cj L10.pY W e qB (af (dB jo (pv 3) (bR ["_law_key"] [("_law_ahead",1),("_law_keys",2)] W (eA W d (af (pv 0) ao)) (λ_ _ _ _=>(aY (i:=0) (show UW (["_law_key","_law_ahead","_law_keys"]:G Str) by left) W (br W))) (λ_ _ _ _=>(eY (PW.pt (je (aW (gA a) (pv 0) (pv 1) (by with_unfolding_all rfl)) (gU (aW (xI a) (pv 0) (pv 2) (by with_unfolding_all rfl))))))) (λ_ _ _ _=>(dB c9 aO (b0 bj aO (pv 0) (λ_ _=>W)))) ⟨⟨W,W,br W⟩,⟨⟨W,W,br W⟩,trivial⟩⟩ W)) ao)))))
theorem vY(F:WA K "_law_parts" "_law_parts" (top 101) f Z)(d:U "isinstance"=L)(e:U "str"=L)(j:U "range"=L)(h:U "len"=L):FnOk P w K U X cz 1 f Z ["_law_answer"] (g7 K 1 gu):=d7 (N:=["_law_answer"]) (g:=qN) F (by ext:1) W W W λo A a s H E nd m b n l=>lM (aQ (fA (oJ (qW (kK (Ig (by simp) ag))) (aL (aD cD ag aM))) (bf (fD (ah aM ar))) cJ)
   (aQ (fA (aL (aD cD ag aM)) (bf (fD ar)) cJ)
   (bf (bT W W (Kn (ah aA (ah (cI nM (ah ag ar)) (ah aA ar)))) aK cc (jL kh ag (c7 ag) (c7 (aD jp ag aA))))))) (aj (dR (PW.pt (vK (rY (ic (cj wL W d qC (af (pv 0) (af (DJ (v:=.ty "str") W e l7 W) ao))))) (pE (aW (cH b) (pv 0) aO (bF _))))) (ay (aN (fJ (af aO ao)))) b7)
   (aj (dR (aW (cH b) (pv 0) aO (bF _)) (ay (aN (fJ ao))) b7)
   (ay (aN (bR ["_law_k"] [("_law_answer",0)] W (Fk W j (af aB (af (cj fO W h md (af (pv 0) ao)) (af aB ao)))) (λ_ _ _ _=>(aY (i:=0) (show UW (["_law_k","_law_answer"]:G Str) by left) W (br W))) (λ_ _ _ _=>b6) (λ_ _ _ _=>(dX mF (pv 1) (eh (pv 0)) (eh (dB jo (pv 0) aB)))) ⟨⟨W,W,br W⟩,trivial⟩ W)))))
theorem yE(F:WA K "is_within" "is_within" (top 14) f Z):FnOk P w K U X cz 1 f Z ["rows","columns","spot"] (g7 K 3 nA):=d7 (N:=["rows","columns","spot"]) (g:=sC) F (by ext:1) W W W λi A a s H E nd e d h b=>lM (bf (x3 (iV oZ mz aA (aD bI ag aA) ag) (iV oZ mz aA (aD bI ag aA) ag))) (ay (aN (uO (kU vF sB aB (b0 bj (pv 2) aB (λ_ _=>W)) (pv 0)) (pk (kU vF sB aB (b0 bj (pv 2) aB (λ_ _=>W)) (pv 1))))))
theorem Bc(F:WA K "frame_of" "frame_of" (top 13) f Z)(b:ci P w K U X 1 "is_within" ["rows","columns","spot"] 3 nA)(l:U "len"=L)(j:U "enumerate"=L)(i:U "tuple"=L){d:Tok}(a:U "MOST_WIRES"=R (.int 6 d)){e:Tok}(h:U "MOST_KEYS_frames"=R (.int 12 e)):FnOk P w K U X cz 2 f Z ["rows","columns","spots"] (g7 K 3 dG):=d7 (N:=["rows","columns","spots","place","spot"]) (g:=pG) F (by ext:1) W W W (by delta pG;ext:15)
theorem uf(F:WA K "read_number" "read_number" (top 58) f Z)(h:U "len"=L)(j:U "all"=L)(l:U "int"=L){d:Tok}(b:U "FIGURES"=R (.str "0123456789" d)):FnOk P w K U X cz 1 f Z ["word"] (g7 K 1 bW):=d7 (N:=["word"]) (g:=oC) F (by ext:1) W W W λp A a s H E nd n e o m=>lM (aQ (fA (oJ (qW (aL (iV oZ oZ aA (cI nM (ah ag ar)) aA))) (qW (kK (cI rA (ah (bT W W (HU ag) aK cc (aD Ds ag aM)) ar))))) (bf io) cJ)
   (aQ (fA (gQ (aL (aD cD (cI nM (ah ag ar)) aA)) (aL (aD cD (aD lR ag aA) aM))) (bf io) cJ)
   (bf (cI DZ (ah ag ar))))) (aj (dR (PW.pt (vK (rY (Ag vF vF aB (cj fO W h md (af (pv 0) ao)) aB)) (pE (rY (ic (cj (kM W) W j wK (af (bR ["sign"] [] W (JY (pv 0)) (λ_ _ _ _=>(aY (i:=0) (show UW (["sign"]:G Str) by left) W (br W))) (λ_ _ _ _=>b6) (λ_ _ _ _=>(fG OZ (pv 0) (jr (v:=.str "0123456789") W b ⟨_,W⟩) (by with_unfolding_all rfl))) trivial W) ao))))))) (ay (aN hG)) b7)
   (aj (dR (PW.pt (je (aW (cH e) (cj fO W h md (af (pv 0) ao)) aB (bF _)) (gU (aW (cH e) (b0 bj (pv 0) aB (λ_ _=>W)) aO (bF _))))) (ay (aN hG)) b7)
   (ay (aN (bJ EK W l wS (af (pv 0) ao))))))
theorem Be(F:WA K "all_read" "all_read" (top 55) f Z)(a:U "tuple"=L):FnOk P w K U X cz 1 f Z ["values"] (g7 K 1 cS):=d7 (N:=["values"]) (g:=oV) F (by ext:1) W W W (by delta oV;ext:15)
theorem sQ(F:WA K "read_numbers" "read_numbers" (top 52) f Z)(a:ci P w K U X 1 "read_number" ["word"] 1 bW)(b:ci P w K U X 1 "all_read" ["values"] 1 cS)(d:U "len"=L):FnOk P w K U X cz 2 f Z ["words"] (g7 K 1 jQ):=d7 (N:=["words"]) (g:=jS) F (by ext:1) W W W (by delta jS;ext:15)
theorem yf(F:WA K "is_letter" "is_letter" (top 48) f Z)(d:U "len"=L):FnOk P w K U X cz 1 f Z ["text"] (g7 K 1 cY):=d7 (N:=["text"]) (g:=sH) F (by ext:1) W W W λj A a s H E nd h b i e=>lM (bf (x3 (aD cD (cI nM (ah ag ar)) aA) (iV x0 x0 aM ag aM))) (ay (aN (uO (fG (cH b) (cj fO W d md (af (pv 0) ao)) aB (bF _)) (pk (kU IX IX aO (pv 0) aO)))))
theorem sW(F:WA K "read_meaning" "read_meaning" (top 56) f Z)(i:ci P w K U X 1 "is_letter" ["text"] 1 cY)(e:ci P w K U X 1 "read_number" ["word"] 1 bW)(h:ci P w K U X 1 "all_read" ["values"] 1 cS):FnOk P w K U X cz 2 f Z ["word"] (g7 K 1 jP):=d7 (N:=["word"]) (g:=mK) F (by ext:1) W W W λm A b s H E nd a d l j=>lM (aQ (fA (aL (aD cD ag aM)) (bf (jF (ah aM ar))) cJ)
   (aQ (fA (aL (aD cD ag aM)) (bf (jF (ah aM ar))) cJ)
   (aQ (fA (kK (bL (ah ag ar))) (bf (jF (ah aM (ah ag ar)))) cJ)
   (aQ (fA (kK (jj nS ag (ah aM ar))) (bf (bL (ah (fD (ah aM (ah (bL (ah (jL kh ag (c7 aA) fQ) ar)) ar))) ar))) cJ)
   (aQ (fA (kK (jj nS ag (ah aM ar))) (bf (bL (ah (fD (ah aM (ah (bL (ah (jL kh ag (c7 aA) fQ) ar)) ar))) ar))) cJ)
   (aQ (fA (gQ (kK (bL (ah (jL kh ag fQ (c7 aA)) ar))) (aL (aD cD (jL kh ag (c7 aA) (c7 aA)) aM))) (bf (bL (ah (fD (ah aM (ah (aD lR ag aA) (ah (bL (ah (jL kh ag (c7 aA) fQ) ar)) ar)))) ar))) cJ)
   (bf io))))))) (aj (dR (aW (cH d) (pv 0) aO (bF _)) (ay (aN (iM (af aO ao)))) b7)
   (aj (dR (aW (cH d) (pv 0) aO (bF _)) (ay (aN (iM (af aO ao)))) b7)
   (aj (dR (ic (bB i a (af (pv 0) ao))) (ay (aN (iM (af aO (af (pv 0) ao))))) b7)
   (aj (dR (ic (gx U5 X2 X3 se (pv 0) (af aO ao))) (ay (aN (bB h a (af (fJ (af aO (af (bB e a (af (dX mF (pv 0) (eh aB) gM) ao)) ao))) ao)))) b7)
   (aj (dR (ic (gx U5 X2 X3 se (pv 0) (af aO ao))) (ay (aN (bB h a (af (fJ (af aO (af (bB e a (af (dX mF (pv 0) (eh aB) gM) ao)) ao))) ao)))) b7)
   (aj (dR (PW.pt (je (ic (bB i a (af (dX mF (pv 0) gM (eh aB)) ao))) (gU (aW (cH d) (dX mF (pv 0) (eh aB) (eh aB)) aO (bF _))))) (ay (aN (bB h a (af (fJ (af aO (af (b0 bj (pv 0) aB (λ_ _=>W)) (af (bB e a (af (dX mF (pv 0) (eh aB) gM) ao)) ao)))) ao)))) b7)
   (ay (aN hG))))))))
theorem ww(F:WA K "read_layer" "read_layer" (top 53) f Z)(d:ci P w K U X 2 "read_meaning" ["word"] 1 jP)(e:ci P w K U X 1 "all_read" ["values"] 1 cS)(m:U "len"=L):FnOk P w K U X cz 3 f Z ["words"] (g7 K 1 lg):=d7 (N:=["words"]) (g:=p9) F (by ext:1) W W W λn A a s H E nd b j l h=>lM (aQ (by ext:2)
   (bf (bL (ah (bT W W (d4 (jL j7 ag (c7 aA) fQ)) aK cc (bL (ah ag ar))) ar)))) (aj (by ext:3)
   (ay (aN (bB e b (af (bR ["word"] [] W (c8 (dX nw (pv 0) (eh aB) gM)) (λ_ _ _ _=>(aY (i:=0) (show UW (["word"]:G Str) by left) W (br W))) (λ_ _ _ _=>b6) (λ_ _ _ _=>(bB d b (af (pv 0) ao))) trivial W) ao)))))
theorem uV(F:WA K "read_parted" "read_parted" (top 57) f Z)(d:ci P w K U X 1 "read_number" ["word"] 1 bW)(e:ci P w K U X 1 "all_read" ["values"] 1 cS):FnOk P w K U X cz 2 f Z ["text","sign"] (g7 K 2 eI):=d7 (N:=["text","sign"]) (g:=oy) F (by ext:1) W W W λm A a s H E nd b j l h=>lM (bf (bL (ah (bT W W (d4 (jj jJ ag (ah ag ar))) aK cc (bL (ah ag ar))) ar))) (ay (aN (bB e b (af (bR ["word"] [] W (c8 (gx U5 Wu Wv kI (pv 0) (af (pv 1) ao))) (λ_ _ _ _=>(aY (i:=0) (show UW (["word"]:G Str) by left) W (br W))) (λ_ _ _ _=>b6) (λ_ _ _ _=>(bB d b (af (pv 0) ao))) trivial W) ao))))
theorem v5(F:WA K "read_chord" "read_chord" (top 54) f Z)(b:ci P w K U X 1 "is_letter" ["text"] 1 cY)(a:ci P w K U X 2 "read_parted" ["text","sign"] 2 eI)(d:U "len"=L):FnOk P w K U X cz 3 f Z ["words"] (g7 K 1 lu):=d7 (N:=["words","keys"]) (g:=lK) F (by ext:1) W W W (by delta lK;ext:15)
theorem si(F:WA K "check_numbers" "check_numbers" (top 42) f Z)(m:U "len"=L){j:Tok}(l:U "MOST_KEYS_beds"=R (.int 5 j)){i:Tok}(b:U "MOST_LAYERS"=R (.int 3 i)){h:Tok}(a:U "MOST_CHORDS"=R (.int 4 h)){e:Tok}(d:U "MOST_WAIT"=R (.int 4 e)):FnOk P w K U X cz 1 f Z ["bed"] (g7 K 1 jc):=d7 (N:=["bed"]) (g:=jf) F (by ext:1) W W W (by delta jf;ext:15)
theorem AN(F:WA K "may_mean" "may_mean" (top 44) f Z)(i:ci P w K U X 1 "is_letter" ["text"] 1 cY):FnOk P w K U X cz 2 f Z ["meaning","layer","layers"] (g7 K 3 pB):=d7 (N:=["meaning","layer","layers","word"]) (g:=uy) F (by ext:1) W W W λj A a s H E nd e d h b=>lM (aQ (by ext:2)
   (aQ (by ext:2)
   (aQ (by ext:2)
   (aQ (by ext:2)
   (bf ul))))) (aj (by ext:3)
   (aj (by ext:3)
   (aj (by ext:3)
   (aj (by ext:3)
   (ay (aN uz))))))
theorem uu(F:WA K "check_layer" "check_layer" (top 43) f Z)(a:ci P w K U X 2 "may_mean" ["meaning","layer","layers"] 3 pB)(d:U "len"=L)(b:U "enumerate"=L):FnOk P w K U X cz 3 f Z ["bed","layer"] (g7 K 2 kq):=d7 (N:=["bed","layer","meanings","key","meaning"]) (g:=kA) F (by ext:1) W W W (by delta kA;ext:15)
theorem G3(F:WA K "rises" "rises" (top 47) f Z)(d:U "all"=L)(b:U "zip"=L):FnOk P w K U X cz 1 f Z ["keys"] (g7 K 1 yz):=d7 (N:=["keys"]) (g:=Dg) F (by ext:1) W W W λm A a s H E nd j h l e=>lM (bf (cI rA (ah (bT W W (IH (ah ag (ah (jL j7 ag (c7 aA) fQ) ar))) (rm (g9 aK (g9 aK rX))) cc (aD mz ag ag)) ar))) (ay (aN (cj (kM W) W d wK (af (bR ["one","other"] [] W (Gs W b (af (pv 0) (af (dX nw (pv 0) (eh aB) gM) ao))) (λ_ _ _ _=>(ph W (eS (aY (i:=0) (show UW (["one","other"]:G Str) by left) W (br W)) (eS (aY (i:=1) (show UW (["one","other"]:G Str) by left) W (br W)) lj)))) (λ_ _ _ _=>b6) (λ_ _ _ _=>(fG sB (pv 0) (pv 1) (bF _))) trivial W) ao))))
theorem sY(F:WA K "is_chord_set" "is_chord_set" (top 46) f Z)(d:ci P w K U X 1 "rises" ["keys"] 1 yz)(m:U "len"=L)(e:U "all"=L):FnOk P w K U X cz 2 f Z ["bed","keys"] (g7 K 2 jH):=d7 (N:=["bed","keys"]) (g:=mH) F (by ext:1) W W W λn A a s H E nd j b l h=>lM (aQ (by ext:2)
   (bf (cI rA (ah (bT W W (d4 ag) aK cc (x3 (iV oZ mz aA ag (aD bI ag aA)) (aD cD (aD bI (aD bI (aD bI (aD bI ag aA) aA) ag) aA) aM))) ar)))) (aj (by ext:3)
   (ay (aN (cj (kM W) W e wK (af (bR ["key"] [("bed",0)] W (c8 (pv 1)) (λ_ _ _ _=>(aY (i:=0) (show UW (["key","bed"]:G Str) by left) W (br W))) (λ_ _ _ _=>b6) (λ_ _ _ _=>(uO (kU vF sB aB (pv 0) (b0 bj (pv 1) aB (λ_ _=>W))) (pk (fG (cH b) (b0 bj (b0 bj (b0 bj (b0 bj (pv 1) aB (λ_ _=>W)) aB (λ_ _=>W)) (pv 0) (λ_ _=>W)) aB (λ_ _=>W)) aO (bF _))))) ⟨⟨W,W,br W⟩,trivial⟩ W) ao)))))
theorem uK(F:WA K "check_chord" "check_chord" (top 45) f Z)(l:ci P w K U X 1 "is_letter" ["text"] 1 cY)(h:ci P w K U X 2 "is_chord_set" ["bed","keys"] 2 jH):FnOk P w K U X cz 3 f Z ["bed","place"] (g7 K 2 kB):=d7 (N:=["bed","place","keys"]) (g:=oA) F (by ext:1) W W W λm A a s H E nd e d j b=>lM (aQ (by ext:2)
   (aQ (by ext:2)
   (fA (aL (aD gC ag (bT W W (d4 (jL j7 (aD bI ag aA) fQ (c7 ag))) aK cc (aD bI ag aA)))) mL cJ))) (aj (by ext:3)
   (aj (by ext:3)
   (ay (dR (aW (gA b) (pv 2) (bR ["chord"] [] W (c8 (dX nw (b0 bj (pv 0) aB (λ_ _=>W)) gM (eh (pv 1)))) (λ_ _ _ _=>(aY (i:=0) (show UW (["chord"]:G Str) by left) W (br W))) (λ_ _ _ _=>b6) (λ_ _ _ _=>(b0 bj (pv 0) aB (λ_ _=>W))) trivial W) (by with_unfolding_all rfl)) (ay kL) b7))))
theorem Co(F:WA K "checked" "checked" (top 41) f Z)(j:ci P w K U X 1 "check_numbers" ["bed"] 1 jc)(b:ci P w K U X 3 "check_layer" ["bed","layer"] 2 kq)(d:ci P w K U X 3 "check_chord" ["bed","place"] 2 kB)(n:U "range"=L)(m:U "len"=L):FnOk P w K U X cz 4 f Z ["bed"] (g7 K 1 rJ):=d7 (N:=["bed","layer","place"]) (g:=xt) F (by ext:1) W W W λo A a s H E nd i h l e=>lM (aQ (by ext:2)
   (aQ (by ext:2)
   (aQ (by ext:2)
   (bf ag)))) (aj (by ext:3)
   (aj (by ext:3)
   (aj (by ext:3)
   (ay (aN (pv 0))))))
theorem zA(F:WA K "read_bed" "read_bed" (top 51) f Z)(j:ci P w K U X 2 "read_numbers" ["words"] 1 jQ)(l:ci P w K U X 3 "read_layer" ["words"] 1 lg)(m:ci P w K U X 3 "read_chord" ["words"] 1 lu)(d:ci P w K U X 4 "checked" ["bed"] 1 rJ)(n:U "enumerate"=L)(e:U "tuple"=L):FnOk P w K U X cz 5 f Z ["text"] (g7 K 1 eK):=d7 (N:=["text","rows","numbers","layers","chords","place","row","words","layer","chord"]) (g:=ud) F (by ext:1) W W W λq A b s H E nd a h p o=>lM (aQ (eJ (jj jJ ag (ah aM ar)) aK)
   (aQ (eJ (bL (ah (jj jJ (aD bI ag aA) (ah aM ar)) ar)) aK)
   (aQ (fA (aL (aD tK ag io)) mL cJ)
   (aQ (eJ (fD ar) aK)
   (aQ (eJ (fD ar) aK)
   (aQ (BR (Au (ah (jL j7 ag (c7 aA) fQ) ar)) (rm (g9 aK (g9 aK rX))) (aQ (eJ (jj jJ ag (ah aM ar)) aK)
   (aQ (eJ (bL (ah ag ar)) aK)
   (aQ (eJ (bL (ah ag ar)) aK)
   (fA (gQ (aL (aD tS ag io)) (aL (aD cD ag (fD ar)))) (tH (yo ag)) (fA (aL (aD tS ag io)) (tH (yo ag)) mL))))))
   (bf (bL (ah (jF (ah (aD bI ag aA) (ah (cI i9 (ah ag ar)) (ah (cI i9 (ah ag ar)) (ah (aD bI ag aA) ar))))) ar))))))))) (aj (cx (i:=1) nd W (br W) (gx U5 Wu Wv kI (pv 0) (af aO ao)))
   (aj (cx (i:=2) nd W (br W) (bB j a (af (gx U5 Wu Wv kI (b0 bj (pv 1) aB (λ_ _=>W)) (af aO ao)) ao)))
   (aj (dR (aW zd (pv 2) hG (bF _)) (ay kL) b7)
   (aj (cx (i:=3) nd W (br W) (fJ ao))
   (aj (cx (i:=4) nd W (br W) (fJ ao))
   (aj (rC YY.never W (zF W n (af (dX nw (pv 1) (eh aB) gM) ao)) (ph W (eS (aY (i:=5) nd W (br W)) (eS (aY (i:=6) nd W (br W)) lj))) (aj (cx (i:=7) nd W (br W) (gx U5 Wu Wv kI (pv 6) (af aO ao)))
   (aj (cx (i:=8) nd W (br W) (bB l a (af (pv 7) ao)))
   (aj (cx (i:=9) nd W (br W) (bB m a (af (pv 7) ao)))
   (ay (dR (PW.pt (je (aW tV (pv 8) hG (bF _)) (gU (aW (cH h) (pv 4) (fJ ao) (bF _))))) (ay (lz (gx Wl Xr Xs kQ (pv 3) (af (pv 8) ao)))) (ay (dR (aW tV (pv 9) hG (bF _)) (ay (lz (gx Wl Xr Xs kQ (pv 4) (af (pv 9) ao)))) (ay kL)))))))))
   (ay (aN (bB d a (af (iM (af (b0 bj (pv 2) aB (λ_ _=>W)) (af (bJ dU W e ko (af (pv 3) ao)) (af (bJ dU W e ko (af (pv 4) ao)) (af (b0 bj (pv 2) aB (λ_ _=>W)) ao))))) ao))))))))))
theorem yB(F:WA K "read_spot" "read_spot" (top 65) f Z)(e:ci P w K U X 2 "read_parted" ["text","sign"] 2 eI)(h:U "len"=L):FnOk P w K U X cz 3 f Z ["word"] (g7 K 1 mM):=d7 (N:=["word","spot"]) (g:=sF) F (by ext:1) W W W λm A a s H E nd d b l j=>lM (aQ (eJ (bL (ah ag (ah aM ar))) aK)
   (aQ (fA (oJ (aL (aD tK ag io)) (aL (aD pd (cI pM (ah ag ar)) aA))) (bf io) cJ)
   (bf ag))) (aj (cx (i:=1) nd W (br W) (bB e d (af (pv 0) (af aO ao))))
   (aj (dR (PW.pt (vK (aW zd (pv 1) hG (bF _)) (pE (aW (oM b) (cj fO W h md (af (pv 1) ao)) aB (bF _))))) (ay (aN hG)) b7)
   (ay (aN (pv 1)))))
theorem wb(F:WA K "read_frame" "read_frame" (top 64) f Z)(h:ci P w K U X 1 "read_number" ["word"] 1 bW)(e:ci P w K U X 3 "read_spot" ["word"] 1 mM)(d:ci P w K U X 1 "all_read" ["values"] 1 cS):FnOk P w K U X cz 4 f Z ["words"] (g7 K 1 lm):=d7 (N:=["words","numbers"]) (g:=qT) F (by ext:1) W W W λn A b s H E nd a l m j=>lM (aQ (eJ (bT W W (d4 (jL j7 ag fQ (c7 aA))) aK cc (bL (ah ag ar))) aK)
   (bf (bL (ah (aD jp ag (fD (ah (bL (ah (bT W W (d4 (jj jJ (aD bI ag aA) (ah aM ar))) aK cc (bL (ah ag ar))) ar)) ar))) ar)))) (aj (pW (i:=1) ["word"] [] nd W W W (c8 (dX nw (pv 0) gM (eh aB))) (λ_ _ _ _=>(aY (i:=0) (show UW (["word"]:G Str) by left) W (br W))) (λ_ _ _ _=>b6) (λ_ _ _ _=>(bB h a (af (pv 0) ao))) trivial W)
   (ay (aN (bB d a (af (dB jo (pv 1) (fJ (af (bB d a (af (bR ["word"] [] W (c8 (gx U5 Wu Wv kI (b0 bj (pv 0) aB (λ_ _=>W)) (af aO ao))) (λ_ _ _ _=>(aY (i:=0) (show UW (["word"]:G Str) by left) W (br W))) (λ_ _ _ _=>b6) (λ_ _ _ _=>(bB e a (af (pv 0) ao))) trivial W) ao)) ao))) ao)))))
theorem sX(F:WA K "read_letters" "read_letters" (top 66) f Z)(h:ci P w K U X 1 "is_letter" ["text"] 1 cY)(e:U "all"=L):FnOk P w K U X cz 2 f Z ["word"] (g7 K 1 jT):=d7 (N:=["word"]) (g:=mX) F (by ext:1) W W W λm A a s H E nd d b l j=>lM (aQ (fA (oJ (aL (aD cD ag aM)) (qW (kK (cI rA (ah (bT W W (d4 ag) aK cc (bL (ah ag ar))) ar))))) (bf io) cJ)
   (bf ag)) (aj (dR (PW.pt (vK (aW (cH b) (pv 0) aO (bF _)) (pE (rY (ic (cj (kM W) W e wK (af (bR ["sign"] [] W (c8 (pv 0)) (λ_ _ _ _=>(aY (i:=0) (show UW (["sign"]:G Str) by left) W (br W))) (λ_ _ _ _=>b6) (λ_ _ _ _=>(bB h d (af (pv 0) ao))) trivial W) ao))))))) (ay (aN hG)) b7)
   (ay (aN (pv 0))))
theorem v7(F:WA K "read_words" "read_words" (top 63) f Z)(h:ci P w K U X 4 "read_frame" ["words"] 1 lm)(l:ci P w K U X 2 "read_parted" ["text","sign"] 2 eI)(m:ci P w K U X 1 "read_number" ["word"] 1 bW)(j:ci P w K U X 2 "read_letters" ["word"] 1 jT)(n:U "len"=L):FnOk P w K U X cz 5 f Z ["words"] (g7 K 1 lH):=d7 (N:=["words","word","count"]) (g:=p7) F (by ext:1) W W W λp A d s H E nd b a o e=>lM (aQ (eJ (aD bI ag aA) aK)
   (aQ (eJ (cI pM (ah ag ar)) aK)
   (aQ (fA (gQ (aL (aD gC ag (jF (ah aM (ah aM (ah aM ar)))))) (aL (aD cD ag aA))) (bf (jF ar)) cJ)
   (aQ (fA (gQ (aL (aD cD ag aM)) (aL (aD cD ag aA))) (bf (bL (ah (jL j7 ag (c7 aA) fQ) ar))) cJ)
   (aQ (fA (gQ (aL (aD gC ag (jF (ah aM (ah aM ar))))) (aL (aD cD ag aA))) (bf (bL (ah (aD bI ag aA) (ah aM ar)))) cJ)
   (aQ (fA (gQ (aL (aD gC ag (jF (ah aM (ah aM ar))))) (aL (aD cD ag aA))) (bf (bL (ah (aD bI ag aA) ar))) cJ)
   (aQ (fA (gQ (aL (aD cD ag aM)) (aL (aD cD ag aA))) (bf (bL (ah (aD bI ag aA) ar))) cJ)
   (bf io)))))))) (aj (cx (i:=1) nd W (br W) (b0 bj (pv 0) aB (λ_ _=>W)))
   (aj (cx (i:=2) nd W (br W) (cj fO W n md (af (pv 0) ao)))
   (aj (dR (PW.pt (je (aW (gA e) (pv 1) (iM (af aO (af aO (af aO ao)))) (by with_unfolding_all rfl)) (gU (aW (cH a) (pv 2) aB (bF _))))) (ay (aN (iM ao))) b7)
   (aj (dR (PW.pt (je (aW (cH a) (pv 1) aO (bF _)) (gU (aW (cH a) (pv 2) aB (bF _))))) (ay (aN (bB h b (af (dX nw (pv 0) (eh aB) gM) ao)))) b7)
   (aj (dR (PW.pt (je (aW (gA e) (pv 1) (iM (af aO (af aO ao))) (by with_unfolding_all rfl)) (gU (aW (cH a) (pv 2) aB (bF _))))) (ay (aN (bB l b (af (b0 bj (pv 0) aB (λ_ _=>W)) (af aO ao))))) b7)
   (aj (dR (PW.pt (je (aW (gA e) (pv 1) (iM (af aO (af aO ao))) (by with_unfolding_all rfl)) (gU (aW (cH a) (pv 2) aB (bF _))))) (ay (aN (bB m b (af (b0 bj (pv 0) aB (λ_ _=>W)) ao)))) b7)
   (aj (dR (PW.pt (je (aW (cH a) (pv 1) aO (bF _)) (gU (aW (cH a) (pv 2) aB (bF _))))) (ay (aN (bB j b (af (b0 bj (pv 0) aB (λ_ _=>W)) ao)))) b7)
   (ay (aN hG)))))))))
theorem Aa(F:WA K "read_row" "read_row" (top 62) f Z)(e:ci P w K U X 5 "read_words" ["words"] 1 lH)(j:U "len"=L){h:Tok}(b:U "BED_AHEAD"=R (.str "bed\n" h)):FnOk P w K U X cz 6 f Z ["row"] (g7 K 1 dc):=d7 (N:=["row","words","what"]) (g:=vd) F (by ext:1) W W W λp A a s H E nd d m o l=>lM (aQ (fA (kK (jj nS ag (ah aM ar))) (bf (jF (ah aM (ah (jL kh ag (c7 (cI nM (ah aM ar))) fQ) ar)))) cJ)
   (aQ (eJ (jj jJ ag (ah aM ar)) aK)
   (aQ (eJ (bL (ah ag ar)) aK)
   (aQ (fA (aL (aD tK ag io)) mL cJ)
   (bf (jF (ah (aD bI ag aA) (ah ag ar)))))))) (aj (dR (ic (gx U5 X2 X3 se (pv 0) (af (jr (v:=.str "bed\n") W b ⟨_,W⟩) ao))) (ay (aN (iM (af aO (af (dX mF (pv 0) (eh (cj fO W j md (af (jr (v:=.str "bed\n") W b ⟨_,W⟩) ao))) gM) ao))))) b7)
   (aj (cx (i:=1) nd W (br W) (gx U5 Wu Wv kI (pv 0) (af aO ao)))
   (aj (cx (i:=2) nd W (br W) (bB e d (af (pv 1) ao)))
   (aj (dR (aW zd (pv 2) hG (bF _)) (ay kL) b7)
   (ay (aN (iM (af (b0 bj (pv 1) aB (λ_ _=>W)) (af (pv 2) ao)))))))))
theorem sO(F:WA K "reads_column" "reads_column" (top 80) f Z):FnOk P w K U X cz 1 f Z ["number","column"] (g7 K 2 jR):=d7 (N:=["number","column"]) (g:=nz) F (by ext:1) W W W λi A a s H E nd e b h d=>lM (bf (aD cD (aD tF (aD tN ag ag) aA) aA)) (ay (aN (fG (cH b) (dB yu (dB xQ (pv 0) (pv 1)) aB) aB (bF _))))
theorem Fh(F:WA K "joined" "joined" (top 17) f Z):FnOk P w K U X cz 1 f Z ["number","numbers"] (g7 K 2 p8):=d7 (N:=["number","numbers","other"]) (g:=AY) F (by ext:1) W W W λi A a s H E nd e d h b=>lM (aQ (by ext:2)
   (bf ag)) (aj (by ext:3)
   (ay (aN (pv 0))))
theorem Fy(F:WA K "spread" "spread" (top 16) f Z)(a:ci P w K U X 1 "joined" ["number","numbers"] 2 p8):FnOk P w K U X cz 2 f Z ["numbers"] (g7 K 1 t8):=d7 (N:=["numbers","wider"]) (g:=AQ) F (by ext:1) W W W λl A b s H E nd d e j h=>lM (aQ (eJ (bT W W (d4 ag) aK cc (bL (ah ag (ah ag ar)))) aK)
   (aQ (A9 (aL (aD pd ag ag)) (aQ (eJ ag aK)
   (eJ (bT W W (d4 ag) aK cc (bL (ah ag (ah ag ar)))) aK)))
   (bf ag))) (aj (pW (i:=1) ["number"] [("numbers",0)] nd W W W (c8 (pv 0)) (λ_ _ _ _=>(aY (i:=0) (show UW (["number","numbers"]:G Str) by left) W (br W))) (λ_ _ _ _=>b6) (λ_ _ _ _=>(bB a d (af (pv 0) (af (pv 1) ao)))) ⟨⟨W,W,br W⟩,trivial⟩ W)
   (aj (AL YY.never (aW (oM e) (pv 1) (pv 0) (bF _)) (aj (cx (i:=0) nd W (bP W) (pv 1))
   (ay (pW (i:=1) ["number"] [("numbers",0)] nd W W W (c8 (pv 0)) (λ_ _ _ _=>(aY (i:=0) (show UW (["number","numbers"]:G Str) by left) W (br W))) (λ_ _ _ _=>b6) (λ_ _ _ _=>(bB a d (af (pv 0) (af (pv 1) ao)))) ⟨⟨W,W,br W⟩,trivial⟩ W))))
   (ay (aN (pv 0)))))
theorem Je(F:WA K "reads" "reads" (top 15) f Z)(a:ci P w K U X 2 "spread" ["numbers"] 1 t8)(b:U "tuple"=L):FnOk P w K U X cz 3 f Z ["frame","keys"] (g7 K 2 qj):=d7 (N:=["frame","keys","numbers","key","spot"]) (g:=yk) F (by ext:1) W W W (by delta yk;ext:15)
theorem xO(F:WA K "keys_read" "keys_read" (top 77) f Z)(e:ci P w K U X 1 "reads_column" ["number","column"] 2 jR)(d:ci P w K U X 3 "reads" ["frame","keys"] 2 qj)(o:U "len"=L)(h:U "tuple"=L)(j:U "enumerate"=L):FnOk P w K U X cz 4 f Z ["frame","reading"] (g7 K 2 ni):=d7 (N:=["frame","reading","keys"]) (g:=sE) F (by ext:1) W W W λp A a s H E nd b m n l=>lM (aQ (by ext:2)
   (aQ (eJ (cI i9 (ah (bT W W (Ec (ah (aD bI ag aA) ar)) (rm (g9 aK (g9 aK rX))) (kK (bL (ah (aD bI ag (aD bI ag aA)) (ah (aD bI ag aA) ar)))) ag) ar)) aK)
   (aQ (by ext:2)
   (bf ag)))) (aj (by ext:3)
   (aj (cx (i:=2) nd W (br W) (bJ dU W h ko (af (bR ["key","spot"] [("reading",1)] W (vh W j (af (b0 bj (pv 0) aB (λ_ _=>W)) ao)) (λ_ _ _ _=>(ph W (eS (aY (i:=0) (show UW (["key","spot","reading"]:G Str) by left) W (br W)) (eS (aY (i:=1) (show UW (["key","spot","reading"]:G Str) by left) W (br W)) lj)))) (λ_ _ _ _=>(eY (ic (bB e b (af (b0 bj (pv 2) (b0 bj (pv 1) aB (λ_ _=>W)) (λ_ _=>W)) (af (b0 bj (pv 1) aB (λ_ _=>W)) ao)))))) (λ_ _ _ _=>(pv 0)) ⟨⟨W,W,br W⟩,trivial⟩ W) ao)))
   (aj (by ext:3)
   (ay (aN (pv 2))))))
theorem Bx(F:WA K "without" "without" (top 79) f Z)(d:U "tuple"=L):FnOk P w K U X cz 1 f Z ["keys","key"] (g7 K 2 rN):=d7 (N:=["keys","key"]) (g:=wN) F (by ext:1) W W W λl A a s H E nd h b j e=>lM (bf (cI i9 (ah (bT W W (d4 ag) aK (aL (aD pd ag ag)) ag) ar))) (ay (aN (bJ dU W d ko (af (bR ["other"] [("key",1)] W (c8 (pv 0)) (λ_ _ _ _=>(aY (i:=0) (show UW (["other","key"]:G Str) by left) W (br W))) (λ_ _ _ _=>(eY (aW (oM b) (pv 0) (pv 1) (bF _)))) (λ_ _ _ _=>(pv 0)) ⟨⟨W,W,br W⟩,trivial⟩ W) ao))))
theorem Cm(F:WA K "word_of" "word_of" (top 78) f Z)(d:ci P w K U X 1 "without" ["keys","key"] 2 rN)(b:ci P w K U X 3 "reads" ["frame","keys"] 2 qj):FnOk P w K U X cz 4 f Z ["frame","reading","keys","key"] (g7 K 4 rD):=d7 (N:=["frame","reading","keys","key"]) (g:=xy) F (by ext:1) W W W λl A a s H E nd i h j e=>lM (aQ (by ext:2)
   (aQ (by ext:2)
   (bf aM))) (aj (by ext:3)
   (aj (by ext:3)
   (ay (aN aO))))
theorem K3(F:WA K "seen" "seen" (top 76) f Z)(e:ci P w K U X 4 "keys_read" ["frame","reading"] 2 ni)(b:ci P w K U X 4 "word_of" ["frame","reading","keys","key"] 4 rD)(h:U "tuple"=L)(l:U "range"=L)(j:U "len"=L):FnOk P w K U X cz 5 f Z ["frame","reading"] (g7 K 2 my):=d7 (N:=["frame","reading","keys"]) (g:=GW) F (by ext:1) W W W λp A a s H E nd d n o m=>lM (aQ (by ext:2)
   (bf (cI i9 (ah (bT W W (gO (ah (cI pM (ah (aD bI ag aA) ar)) ar)) aK cc (bL (ah ag (ah ag (ah ag (ah ag ar)))))) ar)))) (aj (by ext:3)
   (ay (aN (bJ dU W h ko (af (bR ["key"] [("frame",0),("reading",1),("keys",2)] W (eA W l (af (cj fO W j md (af (b0 bj (pv 0) aB (λ_ _=>W)) ao)) ao)) (λ_ _ _ _=>(aY (i:=0) (show UW (["key","frame","reading","keys"]:G Str) by left) W (br W))) (λ_ _ _ _=>b6) (λ_ _ _ _=>(bB b d (af (pv 1) (af (pv 2) (af (pv 3) (af (pv 0) ao)))))) ⟨⟨W,W,br W⟩,⟨⟨W,W,br W⟩,⟨⟨W,W,br W⟩,trivial⟩⟩⟩ W) ao)))))
theorem wz(F:WA K "shown_sent" "shown_sent" (top 67) f Z){e:Tok}(d:U "NOTHING"=R (.str "." e)):FnOk P w K U X cz 1 f Z ["sent"] (g7 K 1 eC):=d7 (N:=["sent"]) (g:=qS) F (by ext:1) W W W λm A a s H E nd j b l h=>lM (bf (Ii (jj ki aM (ah (bT W W (d4 ag) (rm (g9 aK (g9 aK rX))) cc (aD eX (Jp (aL (aD cD ag aM)) aM aM) ag)) ar)) aM)) (ay (aN (Jr (gx U5 V9 Wa lB aO (af (bR ["letter","word"] [] W (c8 (pv 0)) (λ_ _ _ _=>(ph W (eS (aY (i:=0) (show UW (["letter","word"]:G Str) by left) W (br W)) (eS (aY (i:=1) (show UW (["letter","word"]:G Str) by left) W (br W)) lj)))) (λ_ _ _ _=>b6) (λ_ _ _ _=>(dB c9 (vP (aW (cH b) (pv 1) aO (bF _)) aO aO) (pv 0))) trivial W) ao)) (pk (jr (v:=.str ".") W d ⟨_,W⟩)))))
theorem v9(F:WA K "shown_keys" "shown_keys" (top 68) f Z)(e:U "str"=L){d:Tok}(b:U "NOTHING"=R (.str "." d)):FnOk P w K U X cz 1 f Z ["keys"] (g7 K 1 fC):=d7 (N:=["keys"]) (g:=pR) F (by ext:1) W W W λn A a s H E nd l j m h=>lM (bf (Ii (jj ki aM (ah (bT W W (d4 ag) aK cc (cI jb (ah ag ar))) ar)) aM)) (ay (aN (Jr (gx U5 V9 Wa lB aO (af (bR ["key"] [] W (c8 (pv 0)) (λ_ _ _ _=>(aY (i:=0) (show UW (["key"]:G Str) by left) W (br W))) (λ_ _ _ _=>b6) (λ_ _ _ _=>(bJ cW W e l7 (af (pv 0) ao))) trivial W) ao)) (pk (jr (v:=.str ".") W b ⟨_,W⟩)))))
end
end K91
namespace K91
open PySem L2 L3 L10 STP
section
variable{P:UY}{w:Vi}{K:lD}{U:Str->cv Um}{X:Heap}{f:Uw}{Z:V3}
theorem rR(F:WA K "__init__" "Hand.__init__" (aU (top 24) 0) f Z)(d:fq K "Hand" ["bed","acts","waiting","once","sent"])(b:U "dict"=L):FnOk P w K U X cz 3 f Z ["self","bed","standing"] (fM K 3 fP):=ij (N:=["self","bed","standing"]) (g:=mh) F (by ext:1) W W W λl A a s H E nd i h j e=>yX (aJ (jt d (.head _) bA (aI ag))
   (aJ (by ext:2)
   (aJ (by ext:2)
   (aJ (by ext:2)
   (by ext:2))))) (aj (lI (pv 0) (pv 1) W)
   (aj (by ext:3)
   (aj (by ext:3)
   (aj (by ext:3)
   (ay (by ext:3))))))
theorem vp(F:WA K "stands" "Hand.stands" (aU (top 24) 1) f Z)(a:fq K "Hand" ["bed","acts","waiting","once","sent"])(h:U "tuple"=L)(d:U "sorted"=L):FnOk P w K U X cz 3 f Z ["self"] (fM K 1 ck):=ij (N:=["self"]) (g:=oB) F (by ext:1) W W W λn A b s H E nd m l e j=>yX (eP (yn (bV (yw i9 (bV (ra W W (pX (zD (fZ a (.tail _ (.head _)) bA))) bN t9 (yn (bV (aI ag) (bV (Al (fZ a (.tail _ (.head _)) bA) (aI ag)) dN)))) dN)) (bV (fZ a (.tail _ (.tail _ (.head _))) bA) (bV (fZ a (.tail _ (.tail _ (.tail _ (.head _)))) bA) dN))))) (ay (aN (iM (af (bJ dU W h ko (af (bR ["key"] [("self",0)] W (c8 (cj (vO W) W d qB (af (hW (pv 0) W) ao))) (λ_ _ _ _=>(aY (i:=0) (show UW (["key","self"]:G Str) by left) W (br W))) (λ_ _ _ _=>b6) (λ_ _ _ _=>(iM (af (pv 0) (af (D3 e (hW (pv 1) W) (pv 0) (λ_ _=>W)) ao)))) ⟨⟨W,W,br W⟩,trivial⟩ W) ao)) (af (hW (pv 0) W) (af (hW (pv 0) W) ao))))))
theorem pL(F:WA K "is_waiting" "Hand.is_waiting" (aU (top 24) 2) f Z)(b:fq K "Hand" ["bed","acts","waiting","once","sent"]):FnOk P w K U X cz 3 f Z ["self","key"] (fM K 2 cV):=ij (N:=["self","key"]) (g:=j0) F (by ext:1) W W W λj A a s H E nd h e i d=>yX (eP (C5 (iH tS (fZ b (.tail _ (.tail _ (.head _))) bA) (aI io)) (iH gC (aI ag) (ut (fZ b (.tail _ (.tail _ (.head _))) bA) (aI aA))))) (ay (aN (uO (fG tV (hW (pv 0) W) hG (bF _)) (pk (fG (gA d) (pv 1) (b0 bj (hW (pv 0) W) aB (λ_ _=>W)) (by with_unfolding_all rfl))))))
theorem sT(F:WA K "has_act" "Hand.has_act" (aU (top 24) 13) f Z)(e:fq K "Hand" ["bed","acts","waiting","once","sent"])(b:U "list"=L):FnOk P w K U X cz 3 f Z ["self","act"] (fM K 2 cE):=ij (N:=["self","act"]) (g:=mQ) F (by ext:1) W W W λl A a s H E nd i h j d=>yX (eP (iH gC (aI ag) (A2 (fZ e (.tail _ (.head _)) bA)))) (ay (aN (fG (gA d) (pv 1) (bJ (vn W) W b Hf (af (Gw YR YH abO wC (hW (pv 0) W)) ao)) (by with_unfolding_all rfl))))
theorem ze(F:WA K "come" "Hand.come" (aU (top 24) 11) f Z)(b:fq K "Hand" ["bed","acts","waiting","once","sent"])(a:cb P w K U X cz 3 "Hand" "has_act" ["self","act"] (fM K 2 cE)):FnOk P w K U X cz 4 f Z ["self","key","act"] (fM K 3 b9):=ij (N:=["self","key","act"]) (g:=mx) F (by ext:1) W W W (by delta mx;ext:10)
theorem B6(F:WA K "go" "Hand.go" (aU (top 24) 12) f Z)(b:fq K "Hand" ["bed","acts","waiting","once","sent"])(a:cb P w K U X cz 3 "Hand" "has_act" ["self","act"] (fM K 2 cE)):FnOk P w K U X cz 4 f Z ["self","key"] (fM K 2 k8):=ij (N:=["self","key","act"]) (g:=sd) F (by ext:1) W W W (by delta sd;ext:10)
theorem uP(F:WA K "decide" "Hand.decide" (aU (top 24) 10) f Z)(h:fq K "Hand" ["bed","acts","waiting","once","sent"])(m:cb P w K U X cz 4 "Hand" "come" ["self","key","act"] (fM K 3 b9))(e:ci P w K U X 1 "chord_acts" ["bed","keys"] 2 im)(d:U "zip"=L){b:J}(n:U "CHORD"=R (.ref b))(o:∀O H,L3.DV O K H (.ref b) (.tuple [(.str "chord")])):FnOk P w K U X cz 5 f Z ["self"] (fM K 1 cO):=ij (N:=["self","keys","what","acts","key","act"]) (g:=ou) F (by ext:1) W W W λq A a s H E nd l j p i=>yX (aJ (by ext:2)
   (aJ (by ext:2)
   (aJ (jt h (.tail _ (.tail _ (.head _))) bA (aI io))
   (aJ (by ext:2)
   (by ext:2))))) (aj (by ext:3)
   (aj (by ext:3)
   (aj (lI (pv 0) hG W)
   (aj (by ext:3)
   (ay (by ext:3))))))
theorem oj(F:WA K "makes_chord" "Hand.makes_chord" (aU (top 24) 4) f Z)(j:fq K "Hand" ["bed","acts","waiting","once","sent"])(h:cb P w K U X cz 3 "Hand" "stands" ["self"] (fM K 1 ck))(b:ci P w K U X 1 "layer_of" ["standing"] 1 fE)(i:ci P w K U X 1 "chords_over" ["bed","keys"] 2 cr){a:J}(d:U "CHORD"=R (.ref a))(e:∀O H,L3.DV O K H (.ref a) (.tuple [(.str "chord")])):FnOk P w K U X cz 4 f Z ["self","key"] (fM K 2 fK):=ij (N:=["self","key"]) (g:=gZ) F (by ext:1) W W W (by delta gZ;ext:10)
theorem mS(F:WA K "put_to_chord" "Hand.put_to_chord" (aU (top 24) 5) f Z)(e:fq K "Hand" ["bed","acts","waiting","once","sent"])(m:cb P w K U X cz 5 "Hand" "decide" ["self"] (fM K 1 cO))(l:ci P w K U X 1 "chords_over" ["bed","keys"] 2 cr)(h:U "len"=L){d:J}(o:U "CHORD"=R (.ref d))(p:∀O H,L3.DV O K H (.ref d) (.tuple [(.str "chord")])):FnOk P w K U X cz 6 f Z ["self","key"] (fM K 2 eO):=ij (N:=["self","key","keys"]) (g:=jk) F (by ext:1) W W W λr A a s H E nd b j q n=>yX (aJ (by ext:2)
   (aJ (by ext:2)
   (pq (hJ (iH cD (ra W W (pX (tM (bV (fZ e (.head _) bA) (bV (aI ag) dN)))) bN t9 (aI (cI pM (ah (aD bI ag aA) ar)))) (aI (fD (ah (cI pM (ah ag ar)) ar))))) (qJ (lY e bA dN)) jG))) (aj (by ext:3)
   (aj (by ext:3)
   (ay (dR (aW (cH j) (bR ["chord"] [] W (c8 (bB l b (af (hW (pv 0) W) (af (pv 2) ao)))) (λ_ _ _ _=>(aY (i:=0) (show UW (["chord"]:G Str) by left) W (br W))) (λ_ _ _ _=>b6) (λ_ _ _ _=>(cj fO W h md (af (b0 bj (pv 0) aB (λ_ _=>W)) ao))) trivial W) (fJ (af (cj fO W h md (af (pv 2) ao)) ao)) (bF _)) (ay (lz (GM m oz b (pv 0)))) b7))))
theorem wu(F:WA K "begin" "Hand.begin" (aU (top 24) 6) f Z)(p:fq K "Hand" ["bed","acts","waiting","once","sent"])(n:cb P w K U X cz 3 "Hand" "stands" ["self"] (fM K 1 ck))(j:cb P w K U X cz 4 "Hand" "come" ["self","key","act"] (fM K 3 b9))(i:ci P w K U X 1 "layer_of" ["standing"] 1 fE)(h:ci P w K U X 1 "looked_up" ["bed","layer","key"] 3 j8)(o:ci P w K U X 1 "chords_over" ["bed","keys"] 2 cr){b:J}(l:U "CHORD"=R (.ref b))(m:∀O H,L3.DV O K H (.ref b) (.tuple [(.str "chord")])){a:J}(e:U "NONE"=R (.ref a))(d:∀O H,L3.DV O K H (.ref a) (.tuple [(.str "none")])):FnOk P w K U X cz 5 f Z ["self","key"] (fM K 2 hZ):=ij (N:=["self","key","layer","meaning","word"]) (g:=lW) F (by ext:1) W W W (by delta lW;ext:10)
theorem wv(F:WA K "press" "Hand.press" (aU (top 24) 3) f Z)(h:fq K "Hand" ["bed","acts","waiting","once","sent"])(e:cb P w K U X cz 3 "Hand" "is_waiting" ["self","key"] (fM K 2 cV))(d:cb P w K U X cz 4 "Hand" "makes_chord" ["self","key"] (fM K 2 fK))(b:cb P w K U X cz 6 "Hand" "put_to_chord" ["self","key"] (fM K 2 eO))(i:cb P w K U X cz 5 "Hand" "decide" ["self"] (fM K 1 cO))(a:cb P w K U X cz 5 "Hand" "begin" ["self","key"] (fM K 2 hZ)):FnOk P w K U X cz 7 f Z ["self","key"] (fM K 2 jA):=ij (N:=["self","key"]) (g:=lV) F (by ext:1) W W W (by delta lV;ext:10)
theorem vf(F:WA K "settle" "Hand.settle" (aU (top 24) 8) f Z)(h:fq K "Hand" ["bed","acts","waiting","once","sent"])(i:cb P w K U X cz 5 "Hand" "decide" ["self"] (fM K 1 cO))(b:cb P w K U X cz 4 "Hand" "come" ["self","key","act"] (fM K 3 b9)){a:J}(d:U "CHORD"=R (.ref a))(e:∀O H,L3.DV O K H (.ref a) (.tuple [(.str "chord")])):FnOk P w K U X cz 6 f Z ["self","key"] (fM K 2 iR):=ij (N:=["self","key","what"]) (g:=ku) F (by ext:1) W W W (by delta ku;ext:10)
theorem yH(F:WA K "lift" "Hand.lift" (aU (top 24) 7) f Z)(e:fq K "Hand" ["bed","acts","waiting","once","sent"])(d:cb P w K U X cz 3 "Hand" "is_waiting" ["self","key"] (fM K 2 cV))(b:cb P w K U X cz 6 "Hand" "settle" ["self","key"] (fM K 2 iR))(a:cb P w K U X cz 4 "Hand" "go" ["self","key"] (fM K 2 k8)):FnOk P w K U X cz 7 f Z ["self","key"] (fM K 2 j5):=ij (N:=["self","key"]) (g:=mC) F (by ext:1) W W W (by delta mC;ext:10)
theorem sU(F:WA K "wait_on" "Hand.wait_on" (aU (top 24) 9) f Z)(a:fq K "Hand" ["bed","acts","waiting","once","sent"])(b:cb P w K U X cz 5 "Hand" "decide" ["self"] (fM K 1 cO)):FnOk P w K U X cz 6 f Z ["self"] (fM K 1 hU):=ij (N:=["self","age"]) (g:=jD) F (by ext:1) W W W (by delta jD;ext:10)
theorem Mc(F:WA K "step" "step" (top 23) f Z)(i:fq K "Hand" ["bed","acts","waiting","once","sent"])(a:qE P w K U X cz 3 "Hand" ["self","bed","standing"] (fM K 3 fP))(e:cb P w K U X cz 6 "Hand" "wait_on" ["self"] (fM K 1 hU))(b:cb P w K U X cz 7 "Hand" "press" ["self","key"] (fM K 2 jA))(d:cb P w K U X cz 7 "Hand" "lift" ["self","key"] (fM K 2 j5))(h:cb P w K U X cz 3 "Hand" "stands" ["self"] (fM K 1 ck)):FnOk P w K U X cz 8 f Z ["bed","standing","event"] (fM K 3 STP.ve):=ij (N:=["bed","standing","event","hand"]) (g:=B3) F (by ext:1) W W W (by delta B3;ext:10)
theorem oU(F:WA K "__init__" "OneKey.__init__" (aU (top 83) 0) f Z)(b:fq K "OneKey" ["bound","last","turns","free_from"]):FnOk P w K U X cz 3 f Z ["self","bound"] (fM K 2 cA):=ij (N:=["self","bound"]) (g:=g8) F (by ext:1) W W W λj A a s H E nd h e i d=>yX (aJ (jt b (.head _) bA (aI ag))
   (aJ (jt b (.tail _ (.head _)) bA (aI aA))
   (aJ (by ext:2)
   (by ext:2)))) (aj (lI (pv 0) (pv 1) W)
   (aj (lI (pv 0) aB W)
   (aj (by ext:3)
   (ay (by ext:3)))))
theorem uW(F:WA K "tell" "OneKey.tell" (aU (top 83) 1) f Z)(h:fq K "OneKey" ["bound","last","turns","free_from"]){a:J}(e:U "WORDS"=R (.ref a))(d:∀O H,L3.DV O K H (.ref a) (.tuple [(.str "up"),(.str "down")])):FnOk P w K U X cz 3 f Z ["self","reading"] (fM K 2 gK):=ij (N:=["self","reading","turn"]) (g:=kE) F (by ext:1) W W W λn A b s H E nd l j m i=>yX (aJ (by ext:2)
   (aJ (by ext:2)
   (aJ (by ext:2)
   (aJ (jt h (.tail _ (.head _)) bA (aI ag))
   (aJ (by ext:2)
   (by ext:2)))))) (aj (by ext:3)
   (aj (by ext:3)
   (aj (by ext:3)
   (aj (lI (pv 0) (pv 1) W)
   (aj (by ext:3)
   (ay (by ext:3)))))))
theorem oT(F:WA K "__init__" "Teller.__init__" (aU (top 85) 0) f Z)(d:fq K "Teller" ["frame","each_key"])(h:fq K "OneKey" ["bound","last","turns","free_from"])(b:qE P w K U X cz 3 "OneKey" ["self","bound"] (fM K 2 cA)):FnOk P w K U X cz 5 f Z ["self","frame","bound"] (fM K 3 cR):=ij (N:=["self","frame","bound"]) (g:=ip) F (by ext:1) W W W λn A a s H E nd e l m j=>yX (aJ (jt d (.head _) bA (aI ag))
   (jt d (.tail _ (.head _)) bA (ra W W (qQ (d4 (aD bI ag aA))) bN t9 (za h (bV (aI ag) dN))))) (aj (lI (pv 0) (pv 1) W)
   (ay (lI (pv 0) (bR ["spot"] [("bound",2)] W (c8 (b0 bj (pv 1) aB (λ_ _=>W))) (λ_ _ _ _=>(aY (i:=0) (show UW (["spot","bound"]:G Str) by left) W (br W))) (λ_ _ _ _=>b6) (λ_ _ _ _=>(MX b oz e (af (pv 1) ao))) ⟨⟨W,W,br W⟩,trivial⟩ W) W)))
theorem pi(F:WA K "tell_one" "Teller.tell_one" (aU (top 85) 3) f Z)(d:fq K "Teller" ["frame","each_key"])(b:fq K "OneKey" ["bound","last","turns","free_from"])(a:cb P w K U X cz 3 "OneKey" "tell" ["self","reading"] (fM K 2 gK)):FnOk P w K U X cz 4 f Z ["self","key","word"] (fM K 3 fX):=ij (N:=["self","key","word","one_key"]) (g:=fU) F (by ext:1) W W W (by delta fU;ext:10)
theorem vC(F:WA K "scan" "Teller.scan" (aU (top 85) 1) f Z)(l:fq K "Teller" ["frame","each_key"])(i:cb P w K U X cz 4 "Teller" "tell_one" ["self","key","word"] (fM K 3 fX))(b:ci P w K U X 5 "seen" ["frame","reading"] 2 my)(m:U "enumerate"=L):FnOk P w K U X cz 6 f Z ["self","reading"] (fM K 2 gI):=ij (N:=["self","reading","words","changes","key","word","change"]) (g:=kx) F (by ext:1) W W W λn A a s H E nd h e j d=>yX (aJ (by ext:2)
   (aJ (by ext:2)
   (aJ (by ext:2)
   (eP bA)))) (aj (by ext:3)
   (aj (by ext:3)
   (aj (by ext:3)
   (ay (aN (pv 3))))))
theorem uD(F:WA K "down" "Teller.down" (aU (top 85) 2) f Z)(h:fq K "Teller" ["frame","each_key"])(d:fq K "OneKey" ["bound","last","turns","free_from"])(e:U "tuple"=L)(j:U "enumerate"=L):FnOk P w K U X cz 3 f Z ["self"] (fM K 1 iQ):=ij (N:=["self"]) (g:=kz) F (by ext:1) W W W λo A a s H E nd m b n l=>yX (eP (yw i9 (bV (Cf W W (fZ h (.tail _ (.head _)) bA) (Es (uM bN (uM bN Dc))) (hJ (iH cD (fZ d (.tail _ (.head _)) bA) (aI aA))) (aI ag)) dN))) (ay (aN (bJ dU W e ko (af (bR ["key","one_key"] [] W (vh W j (af (hW (pv 0) W) ao)) (λ_ _ _ _=>(ph W (eS (aY (i:=0) (show UW (["key","one_key"]:G Str) by left) W (br W)) (eS (aY (i:=1) (show UW (["key","one_key"]:G Str) by left) W (br W)) lj)))) (λ_ _ _ _=>(eY (aW (cH b) (hW (pv 1) W) aB (bF _)))) (λ_ _ _ _=>(pv 0)) trivial W) ao))))
theorem rV(F:WA K "__init__" "Desk.__init__" (aU (top 90) 0) f Z)(n:fq K "Desk" ["teller","bed","standing"])(o:fq K "Teller" ["frame","each_key"])(j:qE P w K U X cz 5 "Teller" ["self","frame","bound"] (fM K 3 cR))(h:ci P w K U X 2 "frame_of" ["rows","columns","spots"] 3 dG)(i:ci P w K U X 5 "read_bed" ["text"] 1 eK){e:Tok}(d:U "FIRST_BED"=R (.str "keys 1 wait 1\nlayer a" e)){b:J}(m:U "AT_REST"=R (.ref b))(l:∀O H,L3.DV O K H (.ref b) (.tuple [(.tuple []),.none,.none])):FnOk P w K U X cz 7 f Z ["self"] (fM K 1 gP):=ij (N:=["self"]) (g:=gL) F (by ext:1) W W W (by delta gL;ext:10)
theorem oi(F:WA K "run_through" "Desk.run_through" (aU (top 90) 6) f Z)(d:fq K "Desk" ["teller","bed","standing"])(b:Sj P w K U X 8 "step" ["bed","standing","event"] 3 STP.ve)(h:ci P w K U X 1 "shown_sent" ["sent"] 1 eC):FnOk P w K U X cz 9 f Z ["self","events"] (fM K 2 d9):=ij (N:=["self","events","sent","event","answer"]) (g:=gX) F (by ext:1) W W W λn A a s H E nd e l m j=>yX (aJ (dQ (aI (fD ar)) bN)
   (aJ (tZ (pX bA) bN (aJ (dQ (wV (bV (fZ d (.tail _ (.head _)) bA) (bV (fZ d (.tail _ (.tail _ (.head _))) bA) (bV (aI ag) dN)))) bN)
   (aJ (qJ (Dw bA (ut bA (aI aA))))
   (jt d (.tail _ (.tail _ (.head _))) bA (ut bA (aI aA))))))
   (eP (tM (bV bA dN))))) (aj (cx (i:=2) nd W (br W) (fJ ao))
   (aj (rC YY.never W (c8 (pv 1)) (aY (i:=3) nd W (br W)) (aj (cx (i:=4) nd W (br W) (bB b e (af (hW (pv 0) W) (af (hW (pv 0) W) (af (pv 3) ao)))))
   (aj (lz (gx Wl YI YJ rS (pv 2) (af (b0 bj (pv 4) aB (λ_ _=>W)) ao)))
   (ay (lI (pv 0) (b0 bj (pv 4) aB (λ_ _=>W)) W)))))
   (ay (aN (bB h e (af (pv 2) ao))))))
theorem pI(F:WA K "take_frame" "Desk.take_frame" (aU (top 90) 2) f Z)(r:fq K "Desk" ["teller","bed","standing"])(t:fq K "Teller" ["frame","each_key"])(n:qE P w K U X cz 5 "Teller" ["self","frame","bound"] (fM K 3 cR))(m:ci P w K U X 2 "frame_of" ["rows","columns","spots"] 3 dG)(h:U "list"=L){e:J}(q:U "AT_REST"=R (.ref e))(p:∀O H,L3.DV O K H (.ref e) (.tuple [(.tuple []),.none,.none])){b:Tok}(d:U "DONE"=R (.str "ok" b)):FnOk P w K U X cz 7 f Z ["self","what"] (fM K 2 fY):=ij (N:=["self","what"]) (g:=iu) F (by ext:1) W W W λu A a s H E nd l j o i=>yX (aJ (by ext:2)
   (aJ (by ext:2)
   (eP (aI aM)))) (aj (by ext:3)
   (aj (by ext:3)
   (ay (aN (jr (v:=.str "ok") W d ⟨_,W⟩)))))
theorem rZ(F:WA K "take_bed" "Desk.take_bed" (aU (top 90) 3) f Z)(p:fq K "Desk" ["teller","bed","standing"])(l:ci P w K U X 5 "read_bed" ["text"] 1 eK){e:J}(o:U "AT_REST"=R (.ref e))(n:∀O H,L3.DV O K H (.ref e) (.tuple [(.tuple []),.none,.none])){b:Tok}(d:U "DONE"=R (.str "ok" b)):FnOk P w K U X cz 6 f Z ["self","text"] (fM K 2 gS):=ij (N:=["self","text"]) (g:=jh) F (by ext:1) W W W λq A a s H E nd j i m h=>yX (aJ (by ext:2)
   (aJ (by ext:2)
   (eP (aI aM)))) (aj (by ext:3)
   (aj (by ext:3)
   (ay (aN (jr (v:=.str "ok") W d ⟨_,W⟩)))))
theorem qu(F:WA K "take_scan" "Desk.take_scan" (aU (top 90) 4) f Z)(q:fq K "Teller" ["frame","each_key"])(h:fq K "Desk" ["teller","bed","standing"])(o:cb P w K U X cz 6 "Teller" "scan" ["self","reading"] (fM K 2 gI))(l:cb P w K U X cz 9 "Desk" "run_through" ["self","events"] (fM K 2 d9)){a:J}(d:U "TURN"=R (.ref a))(e:∀O H,L3.DV O K H (.ref a) (.tuple [(.str "turn"),(.int 0)])):FnOk P w K U X cz 10 f Z ["self","reading"] (fM K 2 gp):=ij (N:=["self","reading","changes"]) (g:=iL) F (by ext:1) W W W λr A b s H E nd j n p m=>yX (aJ (by ext:2)
   (eP (lY h bA (bV (iH jp (ra W W (pX bA) bN (hJ (iH mz (aI (aD bI ag aA)) (ut (fZ h (.tail _ (.head _)) bA) (aI aA)))) (aI ag)) (aI (fD (ah (Fx e) ar)))) dN)))) (aj (by ext:3)
   (ay (aN (wW l oz j (pv 0) (af (dB jo (bR ["change"] [("self",0)] W (c8 (pv 2)) (λ_ _ _ _=>(aY (i:=0) (show UW (["change","self"]:G Str) by left) W (br W))) (λ_ _ _ _=>(eY (aW sB (b0 bj (pv 0) aB (λ_ _=>W)) (b0 bj (hW (pv 1) W) aB (λ_ _=>W)) (bF _)))) (λ_ _ _ _=>(pv 0)) ⟨⟨W,W,br W⟩,trivial⟩ W) (fJ (af (jr (v:=.ref _) W d W) ao))) ao)))))
theorem zS(F:WA K "say" "Desk.say" (aU (top 90) 1) f Z)(p:fq K "Desk" ["teller","bed","standing"])(q:fq K "Teller" ["frame","each_key"])(l:cb P w K U X cz 7 "Desk" "take_frame" ["self","what"] (fM K 2 fY))(m:cb P w K U X cz 6 "Desk" "take_bed" ["self","text"] (fM K 2 gS))(n:cb P w K U X cz 10 "Desk" "take_scan" ["self","reading"] (fM K 2 gp))(j:cb P w K U X cz 3 "Teller" "down" ["self"] (fM K 1 iQ))(b:ci P w K U X 6 "read_row" ["row"] 1 dc)(d:ci P w K U X 1 "shown_keys" ["keys"] 1 fC):FnOk P w K U X cz 11 f Z ["self","row"] (fM K 2 dH):=ij (N:=["self","row","line","word","what"]) (g:=iJ) F (by ext:1) W W W λr A a s H E nd i h o e=>yX (aJ (by ext:2)
   (aJ (by ext:2)
   (aJ (by ext:2)
   (aJ (by ext:2)
   (aJ (by ext:2)
   (aJ (by ext:2)
   (aJ (by ext:2)
   (aJ (by ext:2)
   (aJ (by ext:2)
   (aJ (by ext:2)
   (aJ (by ext:2)
   xm))))))))))) (aj (by ext:3)
   (aj (by ext:3)
   (aj (by ext:3)
   (aj (by ext:3)
   (aj (by ext:3)
   (aj (by ext:3)
   (aj (by ext:3)
   (aj (by ext:3)
   (aj (by ext:3)
   (aj (by ext:3)
   (aj (by ext:3)
   (ay kL))))))))))))
theorem zW(F:WA K "_law_one" "_law_one" (top 102) f Z)(h:fq K "Desk" ["teller","bed","standing"])(e:cb P w K U X cz 11 "Desk" "say" ["self","row"] (fM K 2 dH))(m:ci P w K U X 1 "_law_parts" ["_law_answer"] 1 gu)(j:ci P w K U X 1 "_law_reading" ["_law_frame_here","_law_keys"] 2 dZ)(n:U "sorted"=L)(o:U "str"=L)(l:U "int"=L):FnOk P w K U X cz 12 f Z ["_law_desk","_law_bed","_law_frame_here","_law_scans_here","_law_due_here"] (fM K 5 iI):=ij (N:=["_law_desk","_law_bed","_law_frame_here","_law_scans_here","_law_due_here","_law_sent","_law_some_here","_law_keys"]) (g:=oX) F (by ext:1) W W W λr A b s H E nd a d q p=>yX (aJ (dQ (aI (fD ar)) bN)
   (aJ (tZ (qQ (d4 ag)) bN (qJ (Dw bA (tM (bV (lY h bA (bV (aI (aD eX aM (bL (ah ag (ah ag ar))))) dN)) dN)))))
   (aJ (pq (hJ (iH pd (yw Dz (bV bA dN)) bA)) (eP (aI ul)) jG)
   (aJ (dQ (aI (jj ki aM (ah (bT W W (d4 (aD bI ag (M3 C4 aA))) aK cc (cI jb (ah ag ar))) ar))) bN)
   (eP (iH cD (lY h bA (bV (aI aM) dN)) (aI (aD bI (fD (ah ag (ah aM ar))) (cI ub (ah (aD cD ag aM) ar)))))))))) (aj (cx (i:=5) nd W (br W) (fJ ao))
   (aj (rC YY.never W (c8 (pv 3)) (aY (i:=6) nd W (br W)) (ay (lz (gx Wl YI YJ rS (pv 5) (af (bB m a (af (wW e oz a (pv 0) (af (dB c9 aO (bB j a (af (pv 2) (af (pv 6) ao)))) ao)) ao)) ao)))))
   (aj (dR (aW (oM d) (cj pY W n qB (af (pv 5) ao)) (pv 4) (bF _)) (ay (aN uz)) b7)
   (aj (cx (i:=7) nd W (br W) (gx U5 V9 Wa lB aO (af (bR ["_law_key"] [] W (c8 (b0 bj (pv 3) (Nl GU aB) (λ_ _=>W))) (λ_ _ _ _=>(aY (i:=0) (show UW (["_law_key"]:G Str) by left) W (br W))) (λ_ _ _ _=>b6) (λ_ _ _ _=>(bJ cW W o l7 (af (pv 0) ao))) trivial W) ao)))
   (ay (aN (fG (cH d) (wW e oz a (pv 0) (af aO ao)) (b0 bj (fJ (af (pv 7) (af aO ao))) (bJ kY W l wS (af (fG (cH d) (pv 7) aO (bF _)) ao)) (λ_ _=>W)) (bF _))))))))
theorem OH(F:WA K "law" "law" (top 103) f Z)(n:fq K "Desk" ["teller","bed","standing"])(h:qE P w K U X cz 7 "Desk" ["self"] (fM K 1 gP))(r:cb P w K U X cz 11 "Desk" "say" ["self","row"] (fM K 2 dH))(m:Sj P w K U X 12 "_law_one" ["_law_desk","_law_bed","_law_frame_here","_law_scans_here","_law_due_here"] 5 iI)(q:ci P w K U X 1 "_law_cell" ["_law_script","_law_k"] 2 iU)(p:ci P w K U X 1 "_law_draw" ["_law_cell_here","_law_salt","_law_many"] 3 cg)(t:ci P w K U X 2 "_law_frame" ["_law_cell_here","_law_keys"] 2 jl)(v:ci P w K U X 1 "_law_spot" ["_law_frame_here","_law_key"] 2 i6)(y:ci P w K U X 2 "_law_set" ["_law_many","_law_cell_here","_law_salt"] 3 iC)(u:ci P w K U X 4 "_law_scans" ["_law_many","_law_bound","_law_ahead","_law_keys","_law_cell_here","_law_digits"] 6 ia)(l:ci P w K U X 1 "_law_due" ["_law_bed","_law_ahead","_law_keys"] 3 jE)(j:U "max"=L)(o:U "range"=L)(b:U "str"=L)(z:U "int"=L):FnOk P w K U X cz 13 f Z ["_law_script"] (fM K 1 F_law):=ij (N:=["_law_script","_law_cell_here","_law_bed","_law_frame_here","_law_many","_law_bound","_law_desk","_law_row","_law_spots","_law_ahead","_law_digits","_law_keys","_law_scans_here"]) (g:=JU) F (by ext:1) W W W λG A e s H E nd a d C B=>yX (aJ (dQ (aI (bL (ah ag (ah aA ar)))) bN)
   (aJ (dQ (aI (aD jp aA (bL (ah ag (ah aA (ah aA ar)))))) bN)
   (aJ (dQ (aI (bL (ah ag (ah ag ar)))) bN)
   (aJ (dQ (aI (cI Et (ah ag ar))) bN)
   (aJ (dQ (aI (bL (ah (bL (ah ag (ah aA ar))) (ah aA (ah aA ar))))) bN)
   (aJ (dQ (za n dN) bN)
   (aJ (dQ (aI (aD eX aM (jj ki aM (ah (bT W W (gO (ah ag ar)) aK cc (aD lR aM ag)) ar)))) bN)
   (aJ (pq (hJ (iH pd (lY n bA (bV (aI (aD eX (aD eX (aD eX (aD eX (aD eX aM (cI jb (ah ag ar))) aM) (cI jb (ah (aD jp aA (bL (ah ag (ah aA (ah aA ar))))) ar))) aM) ag)) dN)) (aI aM))) (eP (aI ul)) jG)
   (aJ (dQ (aI (jj ki aM (ah (bT W W (gO (ah ag ar)) aK cc (bL (ah ag (ah ag ar)))) ar))) bN)
   (aJ (pq (hJ (iH pd (lY n bA (bV (aI (jj ki aM (ah (fD (ah aM (ah (cI jb (ah (aD bI ag aA) ar)) (ah (cI jb (ah (aD bI ag aA) ar)) (ah (cI jb (ah ag ar)) (ah ag ar)))))) ar))) dN)) (aI aM))) (eP (aI ul)) jG)
   (aJ (dQ (nR (aI (fD ar))) bN)
   (aJ (tZ (qQ (d4 (jL j7 ag (c7 aA) (c7 (aD Di aA (aD qG aA (cI ub (ah (aD cD ag aA) ar)))))))) bN (aJ (dQ (aI (JS (iV oZ mz aA ag (aD C3 aA aA)))) bN)
   (aJ (dQ (nR (aI (bL (ah ag (ah ag (ah aA ar)))))) bN)
   (aJ (pq (zC (kK ag)) (dQ (nR (aI (bT W W (gO (ah ag ar)) aK (aL (aD cD (aD tF (aD tN ag ag) aA) aA)) ag))) bN) jG)
   (aJ (dQ (nR (aI (bL (ah ag (ah ag (ah ag (ah ag (ah ag (ah ag ar))))))))) bN)
   (aJ (pq (Da (M4 (wG (bV bA (bV (aI ag) (bV (aI ag) (bV (aI ag) (bV (aI (bL (ah ag (ah ag (ah ag ar))))) dN)))))))) (eP (aI ul)) jG)
   (dQ (nR (aI ag)) bN)))))))
   (eP (aI ul)))))))))))))) (aj (cx (i:=1) nd W (bP W) (bB q a (af (pv 0) (af aB ao))))
   (aj (cx (i:=2) nd W (br W) (dB jo aB (bB p a (af (pv 1) (af aB (af aB ao))))))
   (aj (cx (i:=3) nd W (bP W) (bB t a (af (pv 1) (af (pv 2) ao))))
   (aj (cx (i:=4) nd W (br W) (cj (EY W) W j GQ (af (pv 3) ao)))
   (aj (cx (i:=5) nd W (br W) (bB p a (af (bB q a (af (pv 0) (af aB ao))) (af aB (af aB ao)))))
   (aj (cx (i:=6) nd W (br W) (GH h oz a))
   (aj (cx (i:=7) nd W (br W) (dB c9 aO (gx U5 V9 Wa lB aO (af (bR ["_law_key"] [] W (eA W o (af (pv 2) ao)) (λ_ _ _ _=>(aY (i:=0) (show UW (["_law_key"]:cn Str) by left) W (br W))) (λ_ _ _ _=>b6) (λ_ _ _ _=>(b0 bj aO (pv 0) (λ_ _=>W))) trivial W) ao))))
   (aj (dR (aW (oM d) (wW r oz a (pv 6) (af (dB c9 (dB c9 (dB c9 (dB c9 (dB c9 aO (bJ cW W b l7 (af (pv 2) ao))) aO) (bJ cW W b l7 (af (dB jo aB (bB p a (af (pv 1) (af aB (af aB ao))))) ao))) aO) (pv 7)) ao)) aO (bF _)) (ay (aN uz)) b7)
   (aj (cx (i:=8) nd W (br W) (gx U5 V9 Wa lB aO (af (bR ["_law_key"] [("_law_frame_here",3)] W (eA W o (af (pv 4) ao)) (λ_ _ _ _=>(aY (i:=0) (show UW (["_law_key","_law_frame_here"]:cn Str) by left) W (br W))) (λ_ _ _ _=>b6) (λ_ _ _ _=>(bB v a (af (pv 1) (af (pv 0) ao)))) ⟨⟨W,W,br W⟩,trivial⟩ W) ao)))
   (aj (dR (aW (oM d) (wW r oz a (pv 6) (af (gx U5 V9 Wa lB aO (af (fJ (af aO (af (bJ cW W b l7 (af (b0 bj (pv 3) aB (λ_ _=>W)) ao)) (af (bJ cW W b l7 (af (b0 bj (pv 3) aB (λ_ _=>W)) ao)) (af (bJ cW W b l7 (af (pv 5) ao)) (af (pv 8) ao)))))) ao)) ao)) aO (bF _)) (ay (aN uz)) b7)
   (aj (cx (i:=9) nd W (br W) (fJ ao))
   (aj (rC YY.never W (c8 (dX nw (pv 0) (eh aB) (eh (dB Il aB (dB t6 aB (bJ kY W z wS (af (fG (cH d) (pv 5) aB (bF _)) ao))))))) (aY (i:=1) nd W (bP W)) (aj (cx (i:=10) nd W (br W) (Hv (kU vF sB aB (pv 1) (dB HB aB aB))))
   (aj (cx (i:=11) nd W (br W) (bB y a (af (pv 4) (af (pv 1) (af aB ao)))))
   (aj (dR (ic (pv 10)) (ay (pW (i:=11) ["_law_key"] [("_law_cell_here",1)] nd W W W (eA W o (af (pv 4) ao)) (λ_ _ _ _=>(aY (i:=0) (show UW (["_law_key","_law_cell_here"]:cn Str) by left) W (br W))) (λ_ _ _ _=>(eY (aW (cH d) (dB yu (dB xQ (pv 1) (pv 0)) aB) aB (bF _)))) (λ_ _ _ _=>(pv 0)) ⟨⟨W,W,br W⟩,trivial⟩ W)) b7)
   (aj (cx (i:=12) nd W (br W) (bB u a (af (pv 4) (af (pv 5) (af (pv 9) (af (pv 11) (af (pv 1) (af (pv 10) ao))))))))
   (aj (dR (rY (ic (bB m a (af (pv 6) (af (pv 2) (af (pv 3) (af (pv 12) (af (bB l a (af (pv 2) (af (pv 9) (af (pv 11) ao)))) ao)))))))) (ay (aN uz)) b7)
   (ay (cx (i:=9) nd W (br W) (pv 11)))))))))
   (ay (aN uz))))))))))))))
end
end K91
theorem S5{α:Type}:∀{l:G α},l.length=1->∃a,l=[a]
 |[a],_=>⟨a,W⟩
theorem Tu{α:Type}:∀{l:G α},l.length=2->∃a b,l=[a,b]
 |[a,b],_=>⟨a,b,W⟩
theorem T2{α:Type}:∀{l:G α},l.length=3->∃a b c,l=[a,b,c]
 |[a,b,c],_=>⟨a,b,c,W⟩
theorem Uc{α:Type}:∀{l:G α},l.length=4->∃a b c d,l=[a,b,c,d]
 |[a,b,c,d],_=>⟨a,b,c,d,W⟩
local macro_rules| `(tactic|ext:24)=> `(tactic|(intro _ _ _ _ _ _ us hl;first|(obtain⟨_,h⟩:=S5 hl;subst h;rfl)|(obtain⟨_,_,h⟩:=Tu hl;subst h;rfl)|(obtain⟨_,_,_,h⟩:=T2 hl;subst h;rfl)|(obtain⟨_,_,_,_,h⟩:=Uc hl;subst h;rfl)|(match us,hl with|[_,_,_,_,_],_=>rfl)|(match us,hl with|[_,_,_,_,_,_],_=>rfl)|(match us,hl with|[],_=>rfl)))| `(tactic|ext:31)=> `(tactic|first|exact List.forall_mem_nil _|(refine List.forall_mem_cons.mpr ⟨?_,?_⟩;(·(show Vw _ _ _=_;k_is));ext:31))| `(tactic|ext:34)=> `(tactic|first|(refine' L3.NI.mk ?a' ⟨_,L2.Hw ?b' ?c' ?d'⟩;(case a'=>k_is);(case b'=>k_is);(case c'=>k_is);(case d'=>k_is))|(refine' L3.MI.mk ?a' ?e' ⟨_,L2.Hw ?b' ?c' ?d'⟩;(case a'=>k_is);(case e'=>k_is);(case b'=>k_is);(case c'=>k_is);(case d'=>k_is))|(refine' L3.CI.mk ?a' ?b' ?c' ?d' ?e' ?f' ?g' ?i';(case a'=>k_is);(case b'=>k_is);(case c'=>k_is);(case d'=>k_is);(case e'=>k_is);(case f'=>k_is);(case g'=>k_is);(case i'=>ext:31))|(refine' L3.DI.mk ?a' ⟨_,L3.aiJ ?b' ?c' ?d' ?e'⟩;(case a'=>k_is);(case b'=>k_is);(case c'=>k_is);(case d'=>k_is);(case e'=>k_is))|k_is|k_exc|rfl|left|(rw[<-Array.all_toList];rfl))
namespace K91
open PySem L2 L3
def F_lawH:FN:=L10.QO F_law
def all_mk{l:ad7}{w:Vi}{K:lD}{h:Heap}{a:Str->cv Um}{fa:Uw}
  {aeV:Tok}
  {ZR:Uw} {afq:Nat} {afs:Array (cv Um)}
  {Zj:Tok}
  {Xx:Tok}
  {aaY:Tok}
  {XS:Tok}
  {YK:Tok}
  {YL:Tok}
  {ZW:Tok}
  {ZM:Tok}
  {YW:Tok}
  {adX:Tok}
  {WK:Uw} {aeN:Nat} {aeS:Array (cv Um)}
  {adW:Tok}
  {ad1:Tok}
  {N:Uw} {aeK:Nat} {aeE:Array (cv Um)}
  {ZV:Tok}
  {ZS:Uw} {acf:Nat} {aca:Array (cv Um)}
  {WU:Uw} {adb:Nat} {adn:Array (cv Um)}
  {abH:Tok}
  {aeC:Tok}
  {aeu:Tok}
  {I:Uw} {afl:Nat} {afw:Array (cv Um)}
  {f0 f1 f2 f3 f4 f5 f6 f7 f8 f9 f10 f11 f12 f13 f14 f15 f16 f17 f18 f19 f20 f21 f22 f23 f24 f25 f26 f27 f28 f29 f30 f31 f32 f33 f34 f35 f36 f37 f38 f39 f40 f41 f42 f43 f44 f45 f46 f47 f48 f49 d f51 f52 f53 f54 f55 f56 f57 f58 f59 f60 f61 f62 f63 f64 u f66 f67 m f69 f70 f71 f72 g f74 f75 f76 f77 f78 f79:Uw} (X:K.In h) (G:h.Ns UI a) (V:a "law"=cL (.ref fa))
  (h0:NI K f0 "layer_of" (top 22))
  (h1:NI K f1 "looked_up" (top 25))
  (h2:NI K f2 "chords_over" (top 26))
  (h3:NI K f3 "chord_acts" (top 27))
  (h4:NI K f4 "_law_cell" (top 92))
  (h5:NI K f5 "_law_draw" (top 93))
  (h6:NI K f6 "_law_frame" (top 94))
  (h7:NI K f7 "_law_spot" (top 95))
  (h8:NI K f8 "_law_reading" (top 96))
  (h9:NI K f9 "_law_set" (top 97))
  (h10:NI K f10 "_law_some" (top 98))
  (h11:NI K f11 "_law_scans" (top 99))
  (h12:NI K f12 "_law_due" (top 100))
  (h13:NI K f13 "_law_parts" (top 101))
  (h14:NI K f14 "is_within" (top 14))
  (h15:NI K f15 "frame_of" (top 13))
  (h16:NI K f16 "read_number" (top 58))
  (h17:NI K f17 "all_read" (top 55))
  (h18:NI K f18 "read_numbers" (top 52))
  (h19:NI K f19 "is_letter" (top 48))
  (h20:NI K f20 "read_meaning" (top 56))
  (h21:NI K f21 "read_layer" (top 53))
  (h22:NI K f22 "read_parted" (top 57))
  (h23:NI K f23 "read_chord" (top 54))
  (h24:NI K f24 "check_numbers" (top 42))
  (h25:NI K f25 "may_mean" (top 44))
  (h26:NI K f26 "check_layer" (top 43))
  (h27:NI K f27 "rises" (top 47))
  (h28:NI K f28 "is_chord_set" (top 46))
  (h29:NI K f29 "check_chord" (top 45))
  (h30:NI K f30 "checked" (top 41))
  (h31:NI K f31 "read_bed" (top 51))
  (h32:NI K f32 "read_spot" (top 65))
  (h33:NI K f33 "read_frame" (top 64))
  (h34:NI K f34 "read_letters" (top 66))
  (h35:NI K f35 "read_words" (top 63))
  (h36:NI K f36 "read_row" (top 62))
  (h37:NI K f37 "reads_column" (top 80))
  (h38:NI K f38 "joined" (top 17))
  (h39:NI K f39 "spread" (top 16))
  (h40:NI K f40 "reads" (top 15))
  (h41:NI K f41 "keys_read" (top 77))
  (h42:NI K f42 "without" (top 79))
  (h43:NI K f43 "word_of" (top 78))
  (h44:NI K f44 "seen" (top 76))
  (h45:NI K f45 "shown_sent" (top 67))
  (h46:NI K f46 "shown_keys" (top 68))
  (h47:NI K f47 "step" (top 23))
  (h48:NI K f48 "_law_one" (top 102))
  (h49:NI K f49 "law" (top 103))
  (b:CI K d "Hand" ["bed","acts","waiting","once","sent"])
  (h51:MI K d f51 "__init__" "Hand.__init__" (aU (top 24) 0))
  (h52:MI K d f52 "stands" "Hand.stands" (aU (top 24) 1))
  (h53:MI K d f53 "is_waiting" "Hand.is_waiting" (aU (top 24) 2))
  (h54:MI K d f54 "has_act" "Hand.has_act" (aU (top 24) 13))
  (h55:MI K d f55 "come" "Hand.come" (aU (top 24) 11))
  (h56:MI K d f56 "go" "Hand.go" (aU (top 24) 12))
  (h57:MI K d f57 "decide" "Hand.decide" (aU (top 24) 10))
  (h58:MI K d f58 "makes_chord" "Hand.makes_chord" (aU (top 24) 4))
  (h59:MI K d f59 "put_to_chord" "Hand.put_to_chord" (aU (top 24) 5))
  (h60:MI K d f60 "begin" "Hand.begin" (aU (top 24) 6))
  (h61:MI K d f61 "press" "Hand.press" (aU (top 24) 3))
  (h62:MI K d f62 "settle" "Hand.settle" (aU (top 24) 8))
  (h63:MI K d f63 "lift" "Hand.lift" (aU (top 24) 7))
  (h64:MI K d f64 "wait_on" "Hand.wait_on" (aU (top 24) 9))
  (t:CI K u "OneKey" ["bound","last","turns","free_from"])
  (h66:MI K u f66 "__init__" "OneKey.__init__" (aU (top 83) 0))
  (h67:MI K u f67 "tell" "OneKey.tell" (aU (top 83) 1))
  (j:CI K m "Teller" ["frame","each_key"])
  (h69:MI K m f69 "__init__" "Teller.__init__" (aU (top 85) 0))
  (h70:MI K m f70 "tell_one" "Teller.tell_one" (aU (top 85) 3))
  (h71:MI K m f71 "scan" "Teller.scan" (aU (top 85) 1))
  (h72:MI K m f72 "down" "Teller.down" (aU (top 85) 2))
  (f:CI K g "Desk" ["teller","bed","standing"])
  (h74:MI K g f74 "__init__" "Desk.__init__" (aU (top 90) 0))
  (h75:MI K g f75 "run_through" "Desk.run_through" (aU (top 90) 6))
  (h76:MI K g f76 "take_frame" "Desk.take_frame" (aU (top 90) 2))
  (h77:MI K g f77 "take_bed" "Desk.take_bed" (aU (top 90) 3))
  (h78:MI K g f78 "take_scan" "Desk.take_scan" (aU (top 90) 4))
  (h79:MI K g f79 "say" "Desk.say" (aU (top 90) 1))
  (afj:UN K UI "NONE"=cL (cL (.ref ZR)))
  (abP:UN K UI "MOST_WIRES"=cL (cL (.int 6 Zj)))
  (Z9:UN K UI "MOST_KEYS_frames"=cL (cL (.int 12 Xx)))
  (ac6:UN K UI "FIGURES"=cL (cL (.str "0123456789" aaY)))
  (aaD:UN K UI "MOST_KEYS_beds"=cL (cL (.int 5 XS)))
  (abE:UN K UI "MOST_LAYERS"=cL (cL (.int 3 YK)))
  (abB:UN K UI "MOST_CHORDS"=cL (cL (.int 4 YL)))
  (acd:UN K UI "MOST_WAIT"=cL (cL (.int 4 ZW)))
  (acj:UN K UI "BED_AHEAD"=cL (cL (.str "bed\n" ZM)))
  (adi:UN K UI "NOTHING"=cL (cL (.str "." YW)))
  (aeP:UN K UI "CHORD"=cL (cL (.ref WK)))
  (aeG:UN K UI "WORDS"=cL (cL (.ref N)))
  (ab8:UN K UI "FIRST_BED"=cL (cL (.str "keys 1 wait 1\nlayer a" ZV)))
  (ac9:UN K UI "AT_REST"=cL (cL (.ref WU)))
  (afC:UN K UI "DONE"=cL (cL (.str "ok" abH)))
  (afn:UN K UI "TURN"=cL (cL (.ref I)))
  (afu:K.lookup I=cL ⟨.type "tuple",CL,.seq #v[.str "turn" aeC,.int 0 aeu] afl,afw⟩)
  (adf:K.lookup WU=cL ⟨.type "tuple",CL,.seq #v[.ref ZS,.none,.none] adb,adn⟩)
  (acm:K.lookup ZS=cL ⟨.type "tuple",CL,.seq #v[] acf,aca⟩)
  (aev:K.lookup N=cL ⟨.type "tuple",CL,.seq #v[.str "up" adW,.str "down" ad1] aeK,aeE⟩)
  (aeO:K.lookup WK=cL ⟨.type "tuple",CL,.seq #v[.str "chord" adX] aeN,aeS⟩)
  (afB:K.lookup ZR=cL ⟨.type "tuple",CL,.seq #v[.str "none" aeV] afq,afs⟩)
  (y0:UN K UI "max"=cL CL)
  (y1:UN K UI "all"=cL CL)
  (y2:UN K UI "list"=cL CL)
  (y3:UN K UI "sorted"=cL CL)
  (y4:UN K UI "len"=cL CL)
  (y5:UN K UI "str"=cL CL)
  (y6:UN K UI "int"=cL CL)
  (y7:UN K UI "sum"=cL CL)
  (y8:UN K UI "range"=cL CL)
  (y9:UN K UI "isinstance"=cL CL)
  (D:UN K UI "enumerate"=cL CL)
  (x:UN K UI "tuple"=cL CL)
  (k:UN K UI "zip"=cL CL)
  (c:UN K UI "dict"=cL CL):
  ∃fd:V3,(∀(s:Uv) (v:Um),aa2 s fd ⟨[v],[]⟩ [("_law_script",v)])/\∀base:Heap,K.In base->base.Ns UI a->FnOk l.prog w K a base cz 13 fa fd ["_law_script"] (L3.g7 K 1 F_lawH):=by
 let L:=Vk X G y0;let P:=Vk X G y1;let y:=Vk X G y2;let n:=Vk X G y3;let e:=Vk X G y4;let A:=Vk X G y5;let Q:=Vk X G y6;let aeq:=Vk X G y7;let p:=Vk X G y8;let Y7:=Vk X G y9;let B:=Vk X G D;let o:=Vk X G x;let F:=Vk X G k;let aer:=Vk X G c;let C:=EF (xs:=[.str "none"]) (ds:=[(.str "none")]) afB (by show 1<=UG;decide) (.cons ⟨_,rfl⟩ .nil) λO H=>(.cons (.str _) .nil);let S:=EF (xs:=[.str "chord"]) (ds:=[(.str "chord")]) aeO (by show 1<=UG;decide) (.cons ⟨_,rfl⟩ .nil) λO H=>(.cons (.str _) .nil);let adF:=EF (xs:=[.str "up",.str "down"]) (ds:=[(.str "up"),(.str "down")]) aev (by show 2<=UG;decide) (.cons ⟨_,rfl⟩ (.cons ⟨_,rfl⟩ .nil)) λO H=>(.cons (.str _) (.cons (.str _) .nil));let acG:=EF (xs:=[]) (ds:=[]) acm (by show 0<=UG;decide) .nil λO H=>.nil;let X9:=EF (xs:=[.ref ZS,.Xp,.Xp]) (ds:=[(.tuple []),.none,.none]) adf (by show 3<=UG;decide) (.cons rfl (.cons rfl (.cons rfl .nil))) λO H=>(.cons (acG O H) (.cons .Xp (.cons .Xp .nil)));let adl:=EF (xs:=[.str "turn",.int 0]) (ds:=[(.str "turn"),(.int 0)]) afu (by show 2<=UG;decide) (.cons ⟨_,rfl⟩ (.cons ⟨_,rfl⟩ .nil)) λO H=>(.cons (.str _) (.cons (.int _) .nil));let E:=Vp X G afj;let aaI:=Vp X G abP;let Yf:=Vp X G Z9;let aaZ:=Vp X G ac6;let YX:=Vp X G aaD;let aai:=Vp X G abE;let aaj:=Vp X G abB;let aa6:=Vp X G acd;let YE:=Vp X G acj;let Ya:=Vp X G adi;let R:=Vp X G aeP;let adD:=Vp X G aeG;let aa7:=Vp X G ab8;let X7:=Vp X G ac9;let M:=Vp X G afC;let adm:=Vp X G afn;show h49.law X G V (by ext:24) λbase fd agu=>?_;let W:Tp l.prog w K a base h:=⟨X,G⟩;let Zh:=h0.c W λ_ z=>zz z L;let abb:=h1.c W λ_ z=>xJ z;let WM:=h2.c W λ_ z=>ug z P;let aaC:=h3.c W λ_ z=>wx z y n e E C;let YD:=h4.c W λ_ z=>xN z e;let V7:=h5.c W λ_ z=>yD z;let Zd:=h6.c W λ_ z=>v4 z V7;let ZN:=h7.c W λ_ z=>zl z A Q;let Yj:=h8.c W λ_ z=>tD z A aeq p Q;let Yn:=h9.c W λ_ z=>A1 z V7 p;let aba:=h10.c W λ_ z=>ye z Yn p;let Zb:=h11.c W λ_ z=>wc z aba V7 p;let aan:=h12.c W λ_ z=>zK z p n;let Y6:=h13.c W λ_ z=>vY z Y7 A p e;let aa8:=h14.c W λ_ z=>yE z;let Zi:=h15.c W λ_ z=>Bc z aa8 e B o aaI Yf;let U:=h16.c W λ_ z=>uf z e P Q aaZ;let Z:=h17.c W λ_ z=>Be z o;let Yk:=h18.c W λ_ z=>sQ z U Z e;let Y:=h19.c W λ_ z=>yf z e;let Yi:=h20.c W λ_ z=>sW z Y U Z;let Y9:=h21.c W λ_ z=>ww z Yi Z e;let Wx:=h22.c W λ_ z=>uV z U Z;let Y8:=h23.c W λ_ z=>v5 z Y Wx e;let Zn:=h24.c W λ_ z=>si z e YX aai aaj aa6;let abD:=h25.c W λ_ z=>AN z Y;let aaf:=h26.c W λ_ z=>uu z abD e B;let adM:=h27.c W λ_ z=>G3 z P F;let ZU:=h28.c W λ_ z=>sY z adM e P;let aae:=h29.c W λ_ z=>uK z Y ZU;let aa0:=h30.c W λ_ z=>Co z Zn aaf aae p e;let Zf:=h31.c W λ_ z=>zA z Yk Y9 Y8 aa0 B o;let ZL:=h32.c W λ_ z=>yB z Wx e;let Zc:=h33.c W λ_ z=>wb z U ZL Z;let Ym:=h34.c W λ_ z=>sX z Y P;let Zg:=h35.c W λ_ z=>v7 z Zc Wx U Ym e;let abA:=h36.c W λ_ z=>Aa z Zg e YE;let Yg:=h37.c W λ_ z=>sO z;let aaB:=h38.c W λ_ z=>Fh z;let acN:=h39.c W λ_ z=>Fy z aaB;let J:=h40.c W λ_ z=>Je z acN o;let aa9:=h41.c W λ_ z=>xO z Yg J e o B;let abZ:=h42.c W λ_ z=>Bx z o;let aaV:=h43.c W λ_ z=>Cm z abZ J;let aeA:=h44.c W λ_ z=>K3 z aa9 aaV o p e;let Ze:=h45.c W λ_ z=>wz z Ya;let aaE:=h46.c W λ_ z=>v9 z A Ya;let i:=b.cf;let T:=t.cf;let r:=j.cf;let q:=f.cf;let adI:=h51.k b W λ_ z=>rR z i aer;let WT:=h52.mt b W λ_ z=>vp z i o n;let WZ:=h53.mt b W λ_ z=>pL z i;let Xu:=h54.mt b W λ_ z=>sT z i y;let Xk:=h55.mt b W λ_ z=>ze z i Xu;let abG:=h56.mt b W λ_ z=>B6 z i Xu;let V2:=h57.mt b W λ_ z=>uP z i Xk aaC F R S;let X0:=h58.mt b W λ_ z=>oj z i WT Zh WM R S;let XX:=h59.mt b W λ_ z=>mS z i V2 WM e R S;let aag:=h60.mt b W λ_ z=>wu z i WT Xk Zh abb WM R S E C;let aah:=h61.mt b W λ_ z=>wv z i WZ X0 XX V2 aag;let ZQ:=h62.mt b W λ_ z=>vf z i V2 Xk R S;let aaA:=h63.mt b W λ_ z=>yH z i WZ ZQ abG;let Zm:=h64.mt b W λ_ z=>sU z i V2;let adk:=h47.c W λ_ z=>Mc z i adI Zm aah aaA WT;let aaU:=h66.k t W λ_ z=>oU z T;let ZT:=h67.mt t W λ_ z=>uW z T adD adF;let ZZ:=h69.k j W λ_ z=>oT z r T aaU;let Ye:=h70.mt j W λ_ z=>pi z r T ZT;let ZK:=h71.mt j W λ_ z=>vC z r Ye aeA B;let ZP:=h72.mt j W λ_ z=>uD z r T o B;let acb:=h74.k f W λ_ z=>rV z q r ZZ Zi Zf aa7 X7 X9;let Xn:=h75.mt f W λ_ z=>oi z q adk Ze;let Yo:=h76.mt f W λ_ z=>pI z q r ZZ Zi y X7 X9 M;let YV:=h77.mt f W λ_ z=>rZ z q Zf X7 X9 M;let YA:=h78.mt f W λ_ z=>qu z r q ZK Xn adm adl;let WY:=h79.mt f W λ_ z=>zS z q r Yo YV YA ZP abA aaE;let aam:=h48.c W λ_ z=>zW z q WY Y6 Yj n A Q;show(OH agu q acb WY aam YD V7 Zd ZN Yn Zb aan L p A Q).imp (λ_ _ _ _ h=>L10.OM h)
end K91
local macro_rules|`(universe $i*)=>do
 let t:=fun (c:Lean.Name)=>`(theorem $(Lean.mkIdent ((`PySem.W.Fast).str ("tw"++toString c.hash))):ident:True:=trivial)
 let b:=`PySem.Challenge.cw_chordbed_k91_whole_from_wires_to_letters_holds
 let o←(List.range 979).mapM fun n=>t (b.str ("o_"++toString n))
 let l←i.mapM fun j=>t (b++j.getId)
 return Lean.mkNullNode (((o.toArray++l).push (←t `PySem.Challenge.pw_chordbed_k91_whole_from_wires_to_letters)))
universe heap_979 heap_39 tree_978 tree_908 tree_845 tree_804 tree_774 tree_742 view_39 tree_686 tree_607 tree_536 tree_484 tree_371 tree_452 tree_261 tree_243 sts_909 sts_537 sts_608 sts_262 tree_195 sts_846 tree_173 sts_687 sts_456 tree_151 sts_485 sts_743 sts_805 sts_196 tree_129 sts_244 tree_107 tree_92 sts_775 sts_108 tree_70 sts_71 sts_152 sts_130 sts_174 sts_49 sts_93 heap_46 tree_47 env_41
open PySem PySem.W PyProof.Rows
set_option maxRecDepth 100000 in
set_option maxHeartbeats 0 in
theorem PySem.Challenge.cw_chordbed_k91_whole_from_wires_to_letters_holds : PySem.Challenge.rw_chordbed_k91_whole_from_wires_to_letters.Holds := by
 w_on;o_law;k_head;(case hw=>w_witness2)
 k_fill
 refine L3.RX (l:=PySem.Challenge.rw_chordbed_k91_whole_from_wires_to_letters) (n:=63) (k:=13) (x:= "_law_script") (F:=K91.F_lawH) rfl (by decide) rfl ⟨rfl,by decide,by decide⟩ (λw h Y=>PySem.W.kIn_of Y) ?F K91.main
 case F=>
  intro w d e h b G a
  apply K91.all_mk b G a
  all_goals ext:34
