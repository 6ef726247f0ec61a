import PyProof.Rows.All
import Wide.All
import OpenK.AllK
import Wide.FinOn
import Lean
import PyProof.EqAt
import PyProof.EqKinds
import PyProof.TupleCall
import KE.KIntText
import KE.KRevSl
import PyProof.Rows.SeqMore
import PyProof.WalkInts
import PyProof.Rows.MinMaxN
import PyProof.ExcInit
import OpenK.KMake
import PyProof.InstStoreFacts
import PyProof.FString2
import PyProof.Rows.FStr
import PyProof.Rows.SetFrom
import PyProof.SeqRoads2
import PyProof.RangeFor
import PyProof.WalksMore
import PyProof.StrBlock2
import PyProof.Rows.SortShell
import PyProof.TupleOfSeq
import KE.KDictList
import KE.KDictOf
import PyProof.IsiH_tuple
import PyProof.Rows.RuleN_abs
import PyProof.Rows.Range3
import KE.KRevIter
import PyProof.StrLawsRepr
import PyProof.ReprStr
import PyProof.IsiH_list
import PyProof.Rows.TupDisplay
import PyProof.SetKind
import PyProof.SetScanFacts
import PyProof.CollectIter
import PyProof.Rows.SortStr
import PySem.Challenge.RW_chordbed_k91_whole_from_wires_to_letters
set_option compiler.extract_closed false
set_option genSizeOf false
set_option genInjectivity false
set_option Elab.async false
set_option linter.all false
set_option maxRecDepth 100000
abbrev ax:=@if_pos
abbrev a6:=@if_neg
abbrev a7:=@decide_eq_true
abbrev bg:=@decide_eq_false
abbrev b3:=@of_decide_eq_true
abbrev b4:=@absurd
abbrev cc:=@List
abbrev ck:=@Option
abbrev cn:=@PySem.Heap.get?_push_of_some
abbrev cv:=@PySem.Heap.lt_size
abbrev c5:=@PySem.Heap.get?_push_size
abbrev c6:=@PySem.Heap.get?_update_other
abbrev da:=@PySem.Heap.get?_update_self
abbrev dg:=@PySem.Heap.size_push
abbrev dt:=@PySem.Obj.data_mapFields
abbrev dN:=@PySem.Obj.isFreed_of_fields
abbrev d0:=@Ne.symm
abbrev d6:=@congrArg
abbrev ec:=@beq_self_eq_true
open Lean in
def cvP:Nat→TSyntax `term→MacroM (TSyntax `rcasesPat)
 |0,_=>Macro.throwUnsupported
 |n+1,t=>let f:=fun (a:Array Term)=>do
   let l←(←a.mapM (cvP n)).mapM fun p=>`(Lean.Parser.Tactic.rcasesPatLo|$p:rcasesPat)
   `(rcasesPat|⟨$l,*⟩)
  match t with
  |`(⟨$a,*⟩)=>f a
  |`(($a,$b,*))=>f (#[a]++b.getElems)
  |`($i:ident)=>`(rcasesPat|$i:ident)
  |`(_)=>`(rcasesPat|_)
  |_=>Macro.throwUnsupported
local macro_rules|`(tactic|let $d:letDecl)=>`(tactic|have $d:letDecl)
local macro_rules|`(tactic|let $p:term:=$e)=>if p.raw.isIdent then Lean.Macro.throwUnsupported else do let q←cvP 99 p;`(tactic|obtain $q:rcasesPat:=$e)
local macro_rules|`(tactic|left)=>`(tactic|decide+kernel)|`(tactic|change $e)=>`(tactic|with_reducible exact $e)|`(tactic|specialize $e)=>`(tactic|with_reducible refine $e)
local macro_rules|`(def $i:declId $s:optDeclSig $v:declVal)=>if v.raw[1].isOfKind ``Lean.Parser.Term.byTactic then `(theorem $i:declId $(⟨Lean.mkNode ``Lean.Parser.Command.declSig #[s.raw[0],s.raw[1][0]]⟩):declSig $v:declVal) else `(noncomputable def $i:declId $s:optDeclSig $v:declVal)|`(abbrev $i:declId $s:optDeclSig $v:declVal)=>`(noncomputable abbrev $i:declId $s:optDeclSig $v:declVal)
local macro_rules|`(tactic|ext)=>`(tactic|decide)
local macro_rules|`(tactic|ext)=>`(tactic|omega)
local macro_rules|`(tactic|ext)=>`(tactic|lia)
local macro_rules|`(tactic|show $e)=>`(tactic|refine $e)
local macro_rules|`(tactic|ext $i:ident)=>`(tactic|cases $i:ident)
local macro_rules|`(tactic|ext $i:ident)=>`(tactic|unfold $i:ident)
local macro_rules|`(#[$a,*])=>`(⟨$a,*⟩)|`(#v[$a,*])=>`(List.toArray [$a,*])
local macro_rules|`(())=>`(by ext)
open Option renaming some->cL,none->CL,bind_eq_some_iff->YQ,isSome_iff_exists->ZJ,isNone_iff_eq_none->Z9,toList_none->abM,map_eq_some_iff->adK,isSome_some->aeB,toList_some->aeD,map->aeH,isSome_map->aeT,getD_none->afb,getD_some->afe
open PySem.W renaming Frag->lD,nsIn->Yt,mg_of->YV,findIn->YZ,emptyDict->Zk,instObj->ZG,keepIn->ZR,fnOf->Z7,kia_one->aaf,cellsFrom_some->aap,plainGet->aau,hasDictIn->aaR,lookIn->abo,codeIn->abp,plainGet_of->abC,callWith_K->abJ,methodObj->abR,isFn->abS,plainOver->abT,takerIn->acj,makesIn->ack,excIn->acO,methodCall_KW->adJ,callWith_K0->ad6,pyHash_slot->ad7,specialIn->aeA,handedIn->aeQ,OpenLaw->aff,kitOne->afq
open Bool renaming and_eq_true->Ld,true->XX,false->XZ,false_ne_true->X7,or_eq_true->Zf,not_eq_true'->ZK,and_self->aaj,false_eq_true->aam,true_or->abm,or_false->abU,false_or->abV,true_and->abW,and_true->abX,noConfusion->acw,false_and->ac2,and_false->ac4,not_true->adM,or_eq_false_iff->aeF,eq_iff_iff->agi,or_true->ahU
open PySem renaming wpAny_bind->XW,Value->XY,PyData->X2,Shared->X3,Addr->X5,wpAny_pure->X8,sizeLine->Yc,mainGlobals->Yj,NameKind->Ym,Expr->Yo,starEach->Yp,Program->Yr,Builtin->Yx,Around->YC,World->YJ,bootBuiltins->YO,wpAny_field->Y2,compareOp->Y9,wpAny_truthy_bool->Zd,wpAny_newObj_type->Ze,wpAny_holding->Zo,binaryOp->Zp,FuncData->Zq,wpAny_seqItems->Zr,mem_of_lookup->Zy,wpAny_pyIter_tuple->ZD,cellsFrom->ZH,Scope->ZO,Stmt->ZW,wpAny_callSpecial?_slot->ZX,wpAny_call_entry->ZY,wpAny_Call_Name_kw->Z2,call_meets->Z3,wpAny_setField_rec->Z4,wpAny_passesOwn->Z6,codeAny_builtin->Z8,wpAny_pyIter_enum->aab,sysModules->aag,plainId_quiet->aaq,swapsWith->aaw,wpAny_getItem_str_slice->aax,Comprehension->aaI,wpAny_letGo->aaL,codeAny_call_builtin->aaM,wpAny_loadPart'->aaU,wpAny_pyIter_list->aaW,codeAny_mono->aaZ,Keyword->aa0,typeIs_str->aa8,wpAny_letOwnedTupleGo_enum->aa9,wpAny_setField->aba,sizeLine_eq->abj,intText?->abD,wpAny_execs_nil->abL,post_val_or_str->abN,ReadsAll->ab5,wpAny_of_eq->ab6,wpAny_updateSeq_pair->ab7,wpAny_tryCatch->ab8,DictEntry->acf,BindsTo->acg,wpAny_standAt->acs,wpAny_onRaise->acv,wpAny_Constant_int->acy,typeIs_int->acA,Data->acB,wpAny_rule->acC,tupleKind_room_in1->acE,ZipApart->acN,eqIsQuiet_byValue->acP,IsPart->adf,wpAny_isInstance->adh,IsRangeIter->adH,Walks->adI,Within->adP,pushCells_keeps->adQ,wpAny_updateSeq->adR,GenState->aee,Result->aef,wpAny_call->aeg,IsEnum->aeh,Reads->aei,IsZip->aej,wpAny_binaryOp_repeat_ref->aeC,Code->aeR,wpAny_comprehension_free->aeS,CmpOp->ae8,PassesOwn->ae9,wpAny_pyNext_enum_itemD->afd,wpAny_pyNext_range_end->afl,wpAny_pyIter_rangeiter->afm,wpAny_typeOf->afn,seqIndex_neg->afo,wpAny_pyNext_enum_endD->afp,wpAny_isTrue_Compare1->af4,builtinLookup_eq_fast->af6,seqIndex_of->agh,intItems_at->agk,numAt_eq->agl,wpAny_Name->ag5,wpAny_load->ag7,wpAny_pyIter_range->ag8,wpAny_assign_Name->ahS,slot_list_getitem->ahT,wpAny_pyHash_int->aij,wpAny_pyHash_str->aik,wpAny_execs_cons->ail,noFill_tuple_add->aio,call->aiq,wpAny_pyIter_zip->air,beq_builtin_none->ais,wpAny_stack_any->ajm,wpAny_specialOf->ajo,typeLookup_type->ajp,wpAny_Compare1->aka,intBits_le_64->al4,seq_tuple_add->al5,evalPart_none->al6,call_list_seq->al7,sub_enumerate->al8,wpAny_attempt->al9,nums_intItems->ama,wpAny_newList->amb,ItemsOf->amc
open List renaming getElem?_eq_some_iff->X0,replicate->X1,length_map->X4,mem_cons_self->X9,mem_cons_of_mem->Ya,length_append->Yb,size_toArray->Yd,getElem?_eq_getElem->Ye,length_cons->Yf,mem_cons->Yg,mem_singleton->Yh,map_cons->Yi,getElem?_map->Yl,getElem?_append_right->Ys,mem_range->Yv,range->Yw,mem_map->Yy,getElem?_append_left->Yz,mem_of_getElem?->YD,length_replicate->YE,mem_filter->YF,map_append->YH,append_nil->YK,length_range->YL,lookup_cons->YM,append_assoc->YR,isEmpty_iff->YS,map_map->YW,mem_append_right->YY,not_mem_nil->Y0,mem_append->Y3,replicate_succ->Y4,getElem?_set->Y5,nodup_cons->Y6,length_set->Y7,all_eq_true->Y8,mem_iff_getElem?->Zb,pairwise_cons->Zg,length_take->Zh,filter_cons_of_pos->Zi,filterMap_cons->Zm,getElem?_replicate->Zt,flatten_cons->Zu,filter_cons_of_neg->Zv,find?_cons->Zx,map_congr_left->Zz,all_cons->ZC,mem_filterMap->ZE,length_filter_le->ZF,drop_eq_getElem_cons->ZI,range'->ZL,filterMap_cons_none->ZP,filterMap_cons_some->ZQ,getElem?_cons_succ->ZT,getElem?_set_self->ZV,length_nil->ZZ,length_singleton->Z1,pairwise_map->Z5,any_cons->aak,count_eq_zero->aan,lookup->aao,drop_eq_nil_of_le->aas,getElem?_set_ne->aaz,length->aaA,of_mem_zip->aaE,mem_map_of_mem->aaG,set_set->aaJ,getD_eq_getElem?_getD->aaS,mem_of_find?_eq_some->aaX,nodup_append->aa1,filter_congr->aa2,length_filterMap_le->aa6,eq_of_mem_replicate->aa7,getElem_mem->abd,filter_cons->abe,map_nil->abk,foldl->abl,foldl_cons->abq,forIn_cons->abr,nil_append->abt,contains_iff_mem->abz,filterMap_append->abA,nodup_nil->abH,getElem?_range->abO,filter_sublist->abP,flatten_append->abQ,map_replicate->ab2,find?_eq_none->ab3,length_range'->ab4,take_add_one->ach,length_drop->acu,any_eq_true->acx,forIn_nil->ac5,filterMap_eq_nil_iff->adi,pairwise_singleton->adS,getElem?_cons_zero->adT,filter_eq_nil_iff->aea,mem_append_left->aez,mem_of_mem_take->aeE,replicate_succ'->aeG,filterMap_map->afa,zip_cons_cons->afg,set_cons_zero->afh,set_cons_succ->afi,getElem?_inj->afr,mem_range'_1->afs,count_append->aft,zipIdx_cons->af5,take_length->af7,nodup_range->af8,zipIdx_nil->agj,find?_some->agm,range_add->agO,Nodup->ajq
open Nat renaming le_refl->X6,ne_of_lt->Yk,le_of_ble_eq_true->Yn,lt_of_lt_of_le->Yu,le_trans->YN,ne_of_gt->Y1,lt_irrefl->Zc,zero_le->Zj,lt_succ_of_lt->ZM,lt_succ_self->ZU,lt_trans->aav,le_succ->aaB,add_sub_cancel->aaV,le_of_succ_le->aa4,succ_ne_self->abf,le_of_lt->abn,zero_add->abu,add_assoc->ab1,add_comm->acm,min_le_right->acz,mul_le_mul->adg,add_sub_cancel_left->ad8,sub_self->aek,not_lt_zero->agN,le_of_eq->ain,succ_mul->aip,log2_lt->ajl,one_mul->ajr
open Option.some renaming inj->Yq
open Array renaming length_toList->YU,getElem?_eq_some_iff->aaN,getElem?_toList->abv,forIn_toList->aeU,toList->ag6
open PyProof.Rows renaming envOfC->YX,callWith_type1->Zs,slot_tuple_getitem->aai,kws_cons->acD,kws_nil->acL,callWith_builtin1->ajk,evalArgs_kwB->ajn
open Int renaming toNat_natCast->Za,le_refl->aa5,ofNat->acF,fdiv_eq_ediv_of_nonneg->adb,toNat->ad9,add_zero->ael,toNat_of_nonneg->afc,emod_lt_of_pos->afu,le_antisymm->agM,emod_nonneg->agP
open List.Pairwise renaming nil->aad,filterMap->ait
open List.Perm renaming refl->acn,swap->an6
open List.cons renaming inj->acG,injEq->aoa
open PySem.F renaming args_tuple_add_2->acM,slot_dict_values->acQ,slot_list_append->acR,type_list_append->acS,entry_tuple_add->ac3,plainAttrs_dict->ac6,slot_tuple_add->ade,slot_dict_pop->adL
open PySem.W.Looks renaming here->aim
open PySem.Within renaming cons->ajj
open PySem.SeqAt renaming compareEq_reads->akb,compareNe_reads->akc,in_list_reads->akd,in_tuple_reads->ake,notIn_list_reads->akf,notIn_tuple_reads->akg
open PySem.W.KIN renaming call_text->akh
open List.Nodup renaming sublist->amd
open PySem.IsL renaming update->an4
open PySem.Str renaming ofString->an7
abbrev W:=@rfl
abbrev G:=@List
abbrev z:=@Option
open Option renaming some->R,none->P
open Bool renaming true->S,false->M
open PySem renaming Value->T,Addr->J
namespace L2
open PySem PySem.Spec PyProof.Rows
abbrev cE:=Sum Int Str
def tT:cE->T->Bool
 |.inl k,v=>XY.isInt k v
 |.inr x,v=>XY.isStrOf x v
def VN(w:YJ):cE->Int
 |.inl k=>hashInt k
 |.inr x=>hashStr w x
theorem cO:∀{k:cE} {v:T},tT k v=S->(∃i t,k=Sum.inl i/\v=XY.int i t)\/(∃x t,k=Sum.inr x/\v=XY.str x t)
 |.inl i,v,h=>by let(t,e):=XY.isInt_shape h;show .inl #[i,t,W,e]
 |.inr x,v,h=>by let(t,e):=XY.isStrOf_shape h;show .inr #[x,t,W,e]
def CY(i:Int)(t:Tok):tT (.inl i) (.int i t)=S:=by simp[tT,XY.isInt]
def Cs(x:Str)(t:Tok):tT (.inr x) (.str x t)=S:=by simp[tT,XY.isStrOf]
def QG(a b:Int):decide ((Sum.inl a:cE)=Sum.inl b)=(a==b):=by
 by_cases e:a=b
 .subst e;simp
 .let h:¬(Sum.inl a:cE)=Sum.inl b:=λq=>e (Sum.inl.inj q);rw[bg h];show(beq_eq_false_iff_ne.mpr e).symm
def OW(a b:Str):decide ((Sum.inr a:cE)=Sum.inr b)=decide (a=b):=by
 by_cases e:a=b
 .subst e;simp
 .let h:¬(Sum.inr a:cE)=Sum.inr b:=λq=>e (Sum.inr.inj q);rw[bg h,bg e]
theorem Pu(a:Int)(b:Str):decide ((Sum.inl a:cE)=Sum.inr b)=M:=bg (λq=>nomatch q)
theorem OS(a:Str)(b:Int):decide ((Sum.inr a:cE)=Sum.inl b)=M:=bg (λq=>nomatch q)
def cR(prog:Yr)(w:YJ):PySem.KeyKind prog w cE where
 is:=tT
 hash:=VN w
 inj:=λv a b l f=>by
  rcases cO l with⟨i,t,rfl,rfl⟩|⟨x,t,rfl,rfl⟩
  .rcases cO f with⟨j,u,rfl,e⟩|⟨y,u,rfl,e⟩
   .injection e with e1 _;rw[e1]
   .show nomatch e
  .rcases cO f with⟨j,u,rfl,e⟩|⟨y,u,rfl,e⟩
   .show nomatch e
   .injection e with e1 _;rw[e1]
 byValue:=λk v h=>by rcases cO h with⟨i,t,rfl,rfl⟩|⟨x,t,rfl,rfl⟩<;>rfl
 pyHash:=λd h=>by
  rcases cO d with⟨i,t,rfl,rfl⟩|⟨x,t,rfl,rfl⟩
  .show aij h
  .show aik h
 eqBool:=λg d h=>by
  rcases cO g with⟨i,t,rfl,rfl⟩|⟨x,t,rfl,rfl⟩
  .rcases cO d with⟨j,u,rfl,rfl⟩|⟨y,u,rfl,rfl⟩
   .rw[QG]at h;show wpAny_eqBool_int h
   .rw[Pu]at h;show SeqAt.EqAt.int_str i t y u _ _ _ _ h
  .rcases cO d with⟨j,u,rfl,rfl⟩|⟨y,u,rfl,rfl⟩
   .rw[OS]at h;show SeqAt.EqAt.str_int x t j u _ _ _ _ h
   .rw[OW]at h;show wpAny_eqBool_str h
 «strs»:=λk x t v h=>by
  rcases cO h with⟨i,u,rfl,e⟩|⟨y,u,rfl,e⟩
  .show nomatch e
  .injection e with e1 _
   subst e1;ext v<;>rfl
theorem xK(prog:Yr)(w:YJ)(i:Int)(t:Tok):(cR prog w).is (.inl i) (.int i t)=S:=CY i t
theorem wP(prog:Yr)(w:YJ)(x:Str)(t:Tok):(cR prog w).is (.inr x) (.str x t)=S:=Cs x t
inductive V where
 |non|bl (b:Bool)|int (i:Int)|str (x:Str)|byt (b:Array UInt8)|flt (b:UInt64)|ref (a:J)|ty (n:String)
 deriving DecidableEq
def RelV:V->T->Prop
 |.non,u=>u=XY.none
 |.bl b,u=>u=XY.bool b
 |.int i,u=>∃t,u=XY.int i t
 |.str x,u=>∃t,u=XY.str x t
 |.byt b,u=>∃t,u=XY.bytes b t
 |.flt b,u=>∃t,u=XY.float b t
 |.ref a,u=>u=XY.ref a
 |.ty n,u=>u=XY.type n
abbrev Vals:G V->G T->Prop:=Paired RelV
theorem Vals.length(r:Vals xs us):xs.length=us.length:=Paired.length r
theorem Vals.get:∀{xs:G V} {us:G T} {i:Nat} {x:V},Vals xs us->xs[i]?=R x->∃u,us[i]?=R u/\RelV x u
 |_,_,_,_,.nil,e=>by simp at e
 |_,_,0,_,.cons r _,e=>by simp at e;subst e;show#[_,W,r]
 |_,_,i+1,x,.cons _ t,e=>by let(u,b,a):=Vals.get t (by simpa using e);show#[u,by simpa using b,a]
theorem Vals.set(r:RelV x u):∀{xs:G V} {us:G T} (i:Nat),Vals xs us->Vals (xs.set i x) (us.set i u)
 |_,_,_,.nil=>.nil
 |_,_,0,.cons _ t=>.cons r t
 |_,_,i+1,.cons q t=>.cons q (Vals.set r i t)
theorem Vals.append:∀{xs a:G V} {us ws:G T},Vals xs us->Vals a ws->Vals (xs++a) (us++ws)
 |_,_,_,_,.nil,s=>s
 |_,_,_,_,.cons r t,s=>.cons r (Vals.append t s)
theorem Vals.take:∀{xs:G V} {us:G T} (n:Nat),Vals xs us->Vals (xs.take n) (us.take n)
 |_,_,0,_=>.nil
 |_,_,_+1,.nil=>.nil
 |_,_,n+1,.cons r t=>.cons r (Vals.take n t)
theorem Vals.drop:∀{xs:G V} {us:G T} (n:Nat),Vals xs us->Vals (xs.drop n) (us.drop n)
 |_,_,0,r=>r
 |_,_,_+1,.nil=>.nil
 |_,_,n+1,.cons _ t=>Vals.drop n t
def abw:z V->z T->Prop
 |some v,R u=>RelV v u
 |none,P=>True
 |_,_=>False
def KV:G (o×V)->G (o×T)->Prop:=Paired λ(p:o×V) (q:o×T)=>p.1=q.1/\RelV p.2 q.2
def kV:cE->V
 |.inl i=>.int i
 |.inr x=>.str x
inductive HO where
 |lst (xs:G V)
 |tup (xs:G V)
 |dK (YA:G (cE×V))|dT (YA:G (G cE×V))
 |set (S:Int->Bool) (n:Nat)
 |ins (C dx:J) (fs:G (Str×V))
 |own (x:J)
 |xd (fs:G (Str×V))
 |met (f x:J)
 |rng (lo hi:Int)
 |frz (o:Obj) (u:HO)
 |tbl (ps:Array T)
 |ext (φ:Heap->Prop)
 |exw (φ:YJ->Heap->Prop)
abbrev Hp:=J->z HO
def bj(H:Hp)(a:J)(o:HO):Hp:=λb=>if b=a then R o else H b
def aI:bj H a o a=R o:=by ext bj;rw[ax W]
def aQ(h:b≠a):bj H a o b=H b:=by ext bj;rw[a6 h]
def ST{H:Hp}{a b:J}{o u:HO}(h:H a=R o)(c:H b=R u)(d:o≠u):a≠b:=by intro e;subst e;rw[h]at c;show d (Yq c)
def bK{H:Hp}(h:H a=R o)(c:H b=P):a≠b:=by intro e;subst e;rw[h]at c;ext c
def acq(h:Heap)(a:J)(b:Array T):Prop:=∃o,h.get? a=R o/\(o.cls=.type "tuple"/\∃n,o.data=.seq b n)/\o.dict=P
theorem acq.tup(x:acq h a items):IsTup h a items:=let#[o,e,c,_]:=x;#[o,e,c]
theorem acq.lt(x:acq h a items):a<h.objs.size:=let#[_,e,_]:=x;cv e
theorem acq.new(h:Heap)(xs:Array T):acq (h.push {cls:=.type "tuple",data:=.seq xs}) h.objs.size xs:=#[_,c5 _ W,#[W,_,W],W]
section
variable(P:Yr)(w:YJ)
def ObjOk(H:Hp)(h:Heap)(a:J):HO->Prop
 |.lst xs=>xs.length<=Yc/\∃(b:G T) (n:Nat),Vals xs b/\h.get? a=R {cls:=.type "list",data:=.seq b.toArray n}
 |.tup xs=>xs.length<=Yc/\∃b:G T,Vals xs b/\acq h a b.toArray
 |.dK j=>j.length<=Yc/\(a==aag)=M/\∃m,KV j m/\h.DictOf (cR P w) a m
 |.dT j=>j.length<=Yc/\(a==aag)=M/\∃xs:G (G cE×J×T),
   Paired (λ(p:G cE×V) (q:G cE×J×T)=>p.1=q.1/\H q.2.1=R (.tup (p.1.map kV))/\RelV p.2 q.2.2) j xs/\
   ∃o es A,h.get? a=R o/\o.ExactDict/\o.data=.dict es A/\es.toList=xs.map (entryOfKey (tupleKind (cR P w)))/\(xs.map (·.1)).Nodup
 |.set d n=>h.SetOf (intKind P w) a d n
 |.ins C l fs=>H l=R (.own a)/\fs.length<=1000/\l≠a/\h.get? a=R (ZG C l)/\
   ∃g,h.Ns1 l g/\(∀f,abw (fs.lookup f) (g f))/\adP g (fs.map (·.1))
 |.own _=>∃o,h.get? a=R o
 |.xd fs=>∃g,h.Ns1 a g/\∀f,abw (fs.lookup f) (g f)
 |.rng lo y=>∃t u v,h.get? a=R {cls:=.type "range",data:=.fields #v[.int lo t,.int y u,.int 1 v]}
 |.frz o u=>h.get? a=R o/\ObjOk H h a u
 |.tbl r=>h.get? a=R {cls:=.none,data:=.fields r}
 |.met f x=>h.get? a=R (abR (.ref f) (.ref x))
 |.ext e=>e h/\(∃o,h.get? a=R o)/\∀h1 i:Heap,e h1->(∀o,h1.get? a=R o->i.get? a=R o)->e i
 |.exw e=>e w h/\(∃o,h.get? a=R o)/\∀h1 i:Heap,e w h1->(∀o,h1.get? a=R o->i.get? a=R o)->e w i
def HOk(H:Hp)(h:Heap):Prop:=∀a o,H a=R o->ObjOk P w H h a o
end
section
variable{P:Yr}{w:YJ}{H Z:Hp}{h h':Heap}{a:X5}{o:HO}
def ObjOk.lt(x:ObjOk P w H h a o):a<h.objs.size:=by
 cases o with
 |lst xs=>let(_,_,_,_,e):=x;show cv e
 |tup xs=>let(_,_,_,p):=x;show p.lt
 |dK g=>let(_,_,_,_,o,_,_,e,_):=x;show cv e
 |dT g=>let(_,_,_,_,o,_,_,e,_):=x;show cv e
 |set S n=>let(o,_,_,_,e,_):=x;show cv e
 |ins C l fs=>let(_,_,_,e,_):=x;show cv e
 |own y=>let(_,e):=x;show cv e
 |xd fs=>let(_,(_,_,_,e,_),_):=x;show cv e
 |rng lo j=>let(_,_,_,e):=x;show cv e
 |frz b u=>let(e,_):=x;show cv e
 |tbl i=>show cv (show h.get? a=R _ from x)
 |met f y=>show cv (show h.get? a=R _ from x)
 |ext d=>let(_,(_,e),_):=x;show cv e
 |exw d=>let(_,(_,e),_):=x;show cv e
theorem Paired.aaQ:∀{e:cc α} {c:cc β},Paired F e c->(∀a b,F a b->d a b)->Paired d e c
 |_,_,.nil,_=>.nil
 |_,_,.cons r t,f=>.cons (f _ _ r) (Paired.aaQ t f)
def ObjOk.acr(x:ObjOk P w H h a o)(k:∀b u,(b=a\/H b=R (.own a))->h.get? b=R u->h'.get? b=R u)
  (F:∀b,H b=R (.own a)->Z b=R (.own a)) (E:∀b xs,H b=R (.tup xs)->Z b=R (.tup xs)):ObjOk P w Z h' a o:=by
 induction o with
 |lst xs=>let(z,A,n,r,e):=x;show#[z,A,n,r,k _ _ (.inl W) e]
 |tup xs=>let(z,A,r,g,e,c):=x;show#[z,A,r,g,k _ _ (.inl W) e,c]
 |dK N=>let(z,y,L,r,g,es,i,e,c):=x;show#[z,y,L,r,g,es,i,k _ _ (.inl W) e,c]
 |dT N=>let(z,y,xs,r,g,es,i,e,c):=x;show#[z,y,xs,Paired.aaQ r λp q z=>#[z.1,E _ _ z.2.1,z.2.2],g,es,i,k _ _ (.inl W) e,c]
 |set S n=>let(g,es,i,t,e,c):=x;show#[g,es,i,t,k _ _ (.inl W) e,c]
 |ins C Q fs=>let(d,z,ne,e,m,(l,es,i,e2,c),r):=x;show#[F _ d,z,ne,k _ _ (.inl W) e,m,#[l,es,i,k _ _ (.inr d) e2,c],r]
 |own y=>let(g,e):=x;show#[g,k _ _ (.inl W) e]
 |xd fs=>let(m,(l,es,i,e,c),r):=x;show#[m,#[l,es,i,k _ _ (.inl W) e,c],r]
 |rng lo O=>let(t,u,v,e):=x;show#[t,u,v,k _ _ (.inl W) e]
 |frz g u B=>let(e,q):=x;show#[k _ _ (.inl W) e,B q]
 |tbl I=>let e:h.get? a=R {cls:=.none,data:=.fields I}:=x;show h'.get? a=R {cls:=.none,data:=.fields I};show k a _ (.inl W) e
 |met f y=>let e:h.get? a=R (abR (.ref f) (.ref y)):=x;show h'.get? a=R (abR (.ref f) (.ref y));show k a _ (.inl W) e
 |ext K=>let(p,(o,e),j):=x;show#[j _ _ p λo q=>k _ _ (.inl W) q,#[o,k _ _ (.inl W) e],j]
 |exw K=>let(p,(o,e),j):=x;show#[j _ _ p λo q=>k _ _ (.inl W) q,#[o,k _ _ (.inl W) e],j]
theorem HOk.lt(x:HOk P w H h)(e:H a=R o):a<h.objs.size:=(x a o e).lt
def HOk.fresh(x:HOk P w H h)(e:h.objs.size<=a):H a=CL:=by
 cases q:H a with
 |none=>rfl
 |some u=>show b4 (Yu (x.lt q) e) (Zc _)
theorem HOk.kept(x:HOk P w H h)(k:∀b u,h.get? b=R u->h'.get? b=R u):HOk P w H h':=λa o e=>
 (x a o e).acr (λb u _ q=>k b u q) (λ_ q=>q) λ_ _ q=>q
theorem HOk.laid(x:HOk P w H h)(k:∀b u,h.get? b=R u->h'.get? b=R u)(f:h.objs.size<=a)(new:ObjOk P w (bj H a o) h' a o):HOk P w (bj H a o) h':=λb u e=>by
 let g:=x.fresh f;by_cases d:b=a
 .subst d;rw[aI]at e;ext e;show new
 .rw[aQ d]at e;show(x b u e).acr (λc v _ q=>k c v q) (λc q=>by rw[aQ (bK q g)];show q) λc xs q=>by rw[aQ (bK q g)];show q
end
def Rd(H:Hp)(a:J)(u:HO):Prop:=H a=R u\/∃o,H a=R (.frz o u)
def Rd.ok(r:Rd H a u)(x:HOk b w H h):ObjOk b w H h a u:=by
 rcases r with r|⟨o,r⟩
 .show x a u r
 .let(_,q):=x a _ r;show q
def SI:z HO->Prop
 |some (.lst _)=>True
 |some (.dK _)=>True
 |some (.dT _)=>True
 |some (.set _ _)=>True
 |some (.ins _ _ _)=>True
 |some (.ext _)=>True
 |some (.exw _)=>True
 |_=>False
section
variable{P:Yr}{w:YJ}{H:Hp}{h Y:Heap}{x e:X5}{Z:HO}
theorem HOk.write(ok:HOk P w H h)(f:SI (H x))(n:e=x\/H e=R (.own x))(k:∀b u,b≠e->h.get? b=R u->Y.get? b=R u)(j:∃u,Y.get? e=R u)
  (new:ObjOk P w (bj H x Z) Y x Z):HOk P w (bj H x Z) Y:=λb u q=>by
 let d:∀c y,H c=R (.own y)->c≠x:=λc y r z=>by subst z;rw[r]at f;show f
 let l:∀c xs,H c=R (.tup xs)->c≠x:=λc xs r z=>by subst z;rw[r]at f;show f
 by_cases i:b=x
 .subst i;rw[aI]at q;ext q;show new
 .rw[aQ i]at q
  by_cases a:b=e
  .let m:H b=R (.own x):=by
    rcases n with z|z
    .show b4 (a.trans z) i
    .rw[a];show z
   rw[q]at m;ext m;let(v,o):=j;show#[v,by rw[a];show o]
  .show(ok b u q).acr (λc v g r=>k c v ?_ r) (λc r=>by rw[aQ (d c b r)];show r) λc xs r=>by rw[aQ (l c xs r)];show r
   rcases g with rfl|g
   .show a
   .rintro rfl
    rcases n with z|z
    .show d c b g z
    .rw[g]at z;ext z;show i W
end
structure Un(fs ex:G J)(H H':Hp)(h h':Heap):Prop where
 keep:∀b o,h.get? b=R o->H b=P->b∉fs->b∉ex->h'.get? b=R o
 slot:∀b o,h.get? b=R o->H b=P->b∈fs->b∉ex->∃sl,h'.get? b=R {o with slots:=sl}
 free:∀b o,h.get? b=R o->H b=P->b∉ex->H' b=P
 there:∀b o,h.get? b=R o->b∉ex->∃o',h'.get? b=R o'
 adx:∀b xs,H b=R (.tup xs)->H' b=R (.tup xs)
 ac1:∀b o u,H b=R (.frz o u)->H' b=R (.frz o u)
 adD:∀b ps,H b=R (.tbl ps)->∃more,H' b=R (.tbl (ps++more))
section
variable{fs X Z U:cc X5}{H Q O:Hp}{h Y N h':Heap}{a x e:X5}{o:HO}
def Un.any(u:Un fs Z H Q h Y)(q:h.get? b=R ob)(n:H b=P)(d:b∉Z):∃c,Y.get? b=R {ob with slots:=c}:=by
 by_cases f:b∈fs
 .show u.slot b ob q n f d
 .show#[ob.slots,u.keep b ob q n f d]
theorem Un.kept(k:∀b u,h.get? b=R u->h'.get? b=R u):Un fs Z H H h h':=
 #[λb d q _ _ _=>k b d q,λb d q _ _ _=>#[d.slots,k b d q],λ_ _ _ n _=>n,λb d q _=>#[d,k b d q],λ_ _ q=>q,λ_ _ _ q=>q,λ_ f q=>#[#v[],by rw[q];simp]]
theorem Un.refl:Un fs Z H H h h:=Un.kept λ_ _ q=>q
theorem Un.laid(k:∀b u,h.get? b=R u->h'.get? b=R u)(d:h.objs.size<=a)(c:H a=P):Un fs Z H (bj H a o) h h' where
 keep:=λb u q _ _ _=>k b u q
 slot:=λb u q _ _ _=>#[u.slots,k b u q]
 free:=λb u q n _=>by rw[aQ (Yk (Yu (cv q) d))];show n
 there:=λb u q _=>#[u,k b u q]
 adx:=λb xs q=>by rw[aQ (bK q c)];show q
 ac1:=λb u xs q=>by rw[aQ (bK q c)];show q
 adD:=λb f q=>#[#v[],by rw[aQ (bK q c),q];simp]
def Un.write(f:SI (H x))(m:e=x\/H e=R (.own x))(k:∀b u,b≠e->h.get? b=R u->h'.get? b=R u)(g:∃u,h'.get? e=R u):Un fs Z H (bj H x o) h h':=by
 let i:∀b,H b=P->b≠x:=λb n z=>by subst z;rw[n]at f;show f
 let j:∀b,H b=P->b≠e:=λb n z=>by
  subst z;rcases m with r|r
  .show i b n r
  .rw[n]at r;ext r
 let hm:∀b u,H b=R u->¬SI (R u)->b≠x:=λb u q l z=>by subst z;rw[q]at f;show l f
 show#[λb u q n _ _=>k b u (j b n) q,λb u q n _ _=>#[u.slots,k b u (j b n) q],λb u q n _=>by rw[aQ (i b n)];show n,λb u q _=>?_,
  λb xs q=>by rw[aQ (hm b _ q λz=>z)];show q,λb u xs q=>by rw[aQ (hm b _ q λz=>z)];show q,λb p q=>#[#v[],by rw[aQ (hm b _ q λz=>z),q];simp]]
 by_cases d:b=e
 .subst d;show g
 .show#[u,k b u d q]
end
def UI(h:Heap)(H:Hp):G J:=(Yw h.objs.size).filter λa=>(H a).isSome
def vv(h:Heap)(H:Hp):Heap:=PySem.W.hideAll h (UI h H)
theorem BZ(h:Heap)(H:Hp):(vv h H).objs.size=h.objs.size:=PySem.W.hideAll_size _ _
theorem DP(e:h.get? b=R o)(n:H b=P):(vv h H).get? b=R o:=
 PySem.W.hideAll_get _ e λhm=>by let q:=(YF.mp hm).2;rw[n]at q;simp at q
def Lw(e:(vv h H).get? b=R o):h.get? b=R o/\H b=P:=by
 let a:=PySem.W.of_hideAll (UI h H) e;show#[a,?_];cases q:H b with
 |none=>rfl
 |some x=>let hm:b∈UI h H:=YF.mpr #[Yv.mpr (cv a),by simp[q]];let z:(vv h H).get? b=P:=PySem.W.hideAll_none (UI h H) hm;rw[z]at e;ext e
structure Mod(K:lD)(mg:Str->z T)(base:Heap):Prop where
 kin:K.In base
 glob:base.Ns Yj mg
 blt:∃mb,base.Ns builtinsNs mb/\∀x:Str,x≠ "__name__"->mb x=YO x
 nolimit:base.NoLimit
structure Cx where
 prog:Yr
 w:YJ
 K:lD
 mg:Str->z T
 base:Heap
 A:YC
 N:G Str
 s₀:X3
 H₀:Hp
 env:Env
 outer:G Env
 stack:G Env
 ex:G J
 fn:Str->Bool
 calm:Bool
 pn:G (J×Obj)
 xe:T->X3->Prop
def zj(l:G Env):G J:=l.filterMap (·.frame)
abbrev Cx.fs(X:Cx):G J:=zj X.outer
def VW(sc:ZO)(x:Str):Prop:=sc.names.lookup x=R .local\/sc.names.lookup x=R .cell\/sc.names.lookup x=R .free
def RL(sc:ZO)(x:Str):Prop:=sc.names.lookup x=R .local\/sc.names.lookup x=R .cell
def VO(env:Env)(h:Heap)(m:Str->z T)(x:Str)(u:T):Prop:=
 (env.kindOf x=R .local/\m x=R u)\/((env.kindOf x=R .cell\/env.kindOf x=R .free)/\∃c,env.cells.lookup x=R c/\h.IsCell c (R u))
structure Cx.Ok(X:Cx):Prop where
 mod:Mod X.K X.mg X.base
 kind:X.env.scope.kind=.function
 glob:X.env.globals=Yj
 blt:X.env.builtins=builtinsNs
 above:X.s₀.heap.objs.size<=X.env.locals
 inj:∀x y c,X.env.cells.lookup x=R c->X.env.cells.lookup y=R c->x=y
 has:∀x,(X.env.kindOf x=R .cell\/X.env.kindOf x=R .free)->∃c,X.env.cells.lookup x=R c
 cab:∀x c,X.fn x=S->X.env.cells.lookup x=R c->X.s₀.heap.objs.size<=c
 hd:X.calm=S->X.A.handled=P
 frames:X.A.frames=R X.stack
 stk:X.stack=X.outer\/(X.stack=X.env::X.outer/\X.env.frame=R X.env.locals)
 exf:∀b∈X.ex,b≠X.env.locals/\∀x c,X.env.cells.lookup x=R c->c≠b
 bs:∀b o,X.base.get? b=R o->X.s₀.heap.get? b=R o/\X.H₀ b=P
 bsz:X.base.objs.size<=X.s₀.heap.objs.size
 ae5:∀b o,X.base.get? b=R o->b∉X.ex
 ae6:∀b∈X.ex,b∉X.fs
 acd:X.s₀.heap.FunFrames X.base X.outer
 frf:∀b∈X.fs,X.H₀ b=P
structure Inv(X:Cx)(pins:G (J×Obj))(σ:G (z V))(H:Hp)(s:X3):Prop where
 ok:X.Ok
 os:s.os=X.s₀.os
 bare:AllBare s.gens
 base:Un X.fs X.ex X.H₀ H X.s₀.heap s.heap
 loc:∃m,s.heap.Ns X.env.locals m/\∀(i:Nat) (x:Str) (v:V),X.N[i]?=R x->σ[i]?=R (R v)->VW X.env.scope x->∃u,RelV v u/\VO X.env s.heap m x u
 cell:∀x c,X.env.cells.lookup x=R c->∃v,s.heap.IsCell c v
 free:H X.env.locals=P
 abI:∀x c,X.env.cells.lookup x=R c->H c=P
 pin:∀p∈X.pn++pins,s.heap.get? p.1=R p.2/\H p.1=P/\p.1≠X.env.locals/\p.1∉X.fs/\∀v,p.2.data≠.cell v
 Zl:HOk X.prog X.w H s.heap
 len:σ.length=X.N.length
section
variable{X:Cx}{Z:cc (X5×Obj)}{Y:cc (ck V)}{H U:Hp}{s:X3}{h':Heap}
theorem Cx.Ok.alX(ok:X.Ok)(e:X.base.get? b=R o):b∉X.fs:=λa=>by let:=(ok.acd.mem a).1;rw[e]at this;ext this
theorem Inv.bs(I:Inv X Z Y H s):∀b o,X.base.get? b=R o->s.heap.get? b=R o/\H b=P:=λb o e=>
 #[I.base.keep b o (I.ok.bs b o e).1 (I.ok.bs b o e).2 (I.ok.alX e) (I.ok.ae5 b o e),I.base.free b o (I.ok.bs b o e).1 (I.ok.bs b o e).2 (I.ok.ae5 b o e)]
theorem Inv.bk(I:Inv X Z Y H s):∀b o,X.base.get? b=R o->s.heap.get? b=R o:=λb o e=>(I.bs b o e).1
theorem Inv.mod(I:Inv X Z Y H s):Mod X.K X.mg X.base:=I.ok.mod
theorem Inv.kIn(I:Inv X Z Y H s):X.K.In s.heap:=I.ok.mod.kin.keeps I.bk
theorem Inv.lt(I:Inv X Z Y H s):X.env.locals<s.heap.objs.size:=let#[_,a,_]:=I.loc;a.lt
theorem Inv.sz(I:Inv X Z Y H s):X.s₀.heap.objs.size<=s.heap.objs.size:=YN I.ok.above (abn I.lt)
theorem Inv.alD(I:Inv X Z Y H s)(h:s.heap.objs.size<=a):a∉X.fs:=λd=>by let(_,o,b,_):=I.ok.acd.mem d;show b4 (Yu (cv b) (YN I.sz h)) (Zc _)
theorem Inv.cne(I:Inv X Z Y H s):∀x c,X.env.cells.lookup x=R c->c≠X.env.locals:=λx c e z=>by let(v,o,d,f):=I.cell x c e;let(m,(g,es,h,a,b,_),_):=I.loc;rw[z,a]at d;ext d;rw[b]at f;ext f
def Inv.acd(I:Inv X Z Y H s):s.heap.FunFrames X.base X.outer:=by
 let all:∀(l:G Env),(∀b∈zj l,b∈X.fs)->X.s₀.heap.FunFrames X.base l->s.heap.FunFrames X.base l:=by
  intro l
  induction l with
  |nil=>intro _ _;trivial
  |cons q r h=>intro g m;let(n,(L,o,a,u,j,p),i):=m;let f:=g L (by ext zj;rw[Zm,a];show X9);let(t,e):=I.base.slot L o j (I.ok.frf L f) f λz=>I.ok.ae6 L z f;show#[n,#[L,_,a,u,e,p],h (λb d=>g b (by ext zj;rw[Zm,a];show Ya _ d)) i]
 show all X.outer (λ_ d=>d) I.ok.acd
def Inv.stack(I:Inv X Z Y H s):s.heap.FunFrames X.base X.stack:=by
 rcases I.ok.stk with e|⟨e,hf⟩
 .rw[e];show I.acd
 .rw[e];let(m,a,_):=I.loc;show .cons (by rw[I.ok.kind];decide) hf a ?_ I.acd;show Heap.get?_none_of_le (YN I.ok.bsz I.ok.above)
theorem Inv.adj(I:Inv X Z Y H s):∀b∈zj X.stack,b∈X.env.locals::X.fs:=λb a=>by
 rcases I.ok.stk with e|⟨e,hf⟩
 .rw[e]at a;show Ya _ a
 .rw[e]at a;unfold zj at a;rw[Zm,hf]at a;show a
theorem Inv.ads(I:Inv X Z Y H s):∀b∈zj X.stack,H b=P:=λb a=>by
 rcases Yg.mp (I.adj b a)with e|a
 .rw[e];show I.free
 .let(_,o,d,_):=I.ok.acd.mem a;show I.base.free b o d (I.ok.frf b a) λz=>I.ok.ae6 b z a
def Inv.step{g':Array aee}{t':Nat}{d':Drawn}{ch:cc X5}(I:Inv X Z Y H s)
  (g:∀b∈ch,(b∈X.ex\/X.s₀.heap.objs.size<=b)/\b≠X.env.locals/\(∀x c,X.env.cells.lookup x=R c->c≠b)/\∀p∈X.pn++Z,p.1≠b)
  (keep:∀b o,b≠X.env.locals->b∉X.fs->b∉ch->s.heap.get? b=R o->H b=P->h'.get? b=R o)
  (slot:∀b o,b≠X.env.locals->b∈X.fs->b∉ch->s.heap.get? b=R o->H b=P->∃N,h'.get? b=R {o with slots:=N}) (free:∀b o,b∉ch->s.heap.get? b=R o->H b=P->U b=P)
  (there:∀b o,b∉ch->s.heap.get? b=R o->∃w,h'.get? b=R w)
  (O:∀b xs,H b=R (.tup xs)->U b=R (.tup xs)) (ac1:∀b o u,H b=R (.frz o u)->U b=R (.frz o u)) (Q:∀b D,H b=R (.tbl D)->∃more,U b=R (.tbl (D++more)))
  (ns:∀m,s.heap.Ns X.env.locals m->h'.Ns X.env.locals m) (Zl:HOk X.prog X.w U h') (M:AllBare g'):
  Inv X Z Y U {s with heap:=h',gens:=g',drawn:=d',toks:=t'}:=by
 let A:∀b o,X.s₀.heap.get? b=R o->b≠X.env.locals:=λb o e=>Yk (Yu (cv e) I.ok.above);let j:∀b o,X.s₀.heap.get? b=R o->b∉X.ex->b∉ch:=λb o e a t=>by
  rcases(g b t).1 with z|z
  .show a z
  .show b4 (Yu (cv e) z) (Zc _)
 let h:∀x c,X.env.cells.lookup x=R c->∀v,s.heap.IsCell c v->h'.IsCell c v:=λx c e v #[o,y,C]=>by
  let f:c∉ch:=λz=>(g c z).2.2.1 x c e W;by_cases G:c∈X.fs
  .let(N,q):=slot c o (I.cne x c e) G f y (I.abI x c e);show#[_,q,C]
  .show#[o,keep c o (I.cne x c e) G f y (I.abI x c e),C]
 show#[I.ok,I.os,M,#[λb o e n t a=>?_,λb o e n t a=>?_,λb o e n a=>?_,λb o e a=>?_,λb xs e=>O b xs (I.base.adx b xs e),λb o xs e=>ac1 b o xs (I.base.ac1 b o xs e),λb D e=>?_],?_,λx c e=>?_,?_,λx c e=>?_,λp F=>?_,Zl,I.len]
 .show keep b o (A b o e) t (j b o e a) (I.base.keep b o e n t a) (I.base.free b o e n a)
 .let(N,e1):=I.base.slot b o e n t a;let(B,e2):=slot b _ (A b o e) t (j b o e a) e1 (I.base.free b o e n a);show#[B,e2]
 .let(w,e1):=I.base.there b o e a;show free b w (j b o e a) e1 (I.base.free b o e n a)
 .let(w,e1):=I.base.there b o e a;show there b w (j b o e a) e1
 .let(K,e1):=I.base.adD b D e;let(J,e2):=Q b _ e1;show#[K++J,by rw[e2,Array.append_assoc]]
 .let(m,hn,L):=I.loc
  show#[m,ns m hn,λi x v e1 e2 e3=>?_];let(u,r,l):=L i x v e1 e2 e3;show#[u,r,?_];rcases l with l|⟨k,c,e,z⟩
  .show .inl l
  .show .inr #[k,c,e,h x c e _ z]
 .let(v,z):=I.cell x c e;show#[v,h x c e v z]
 .let(m,(o,_,_,y,_),_):=I.loc;show free _ o (λz=>(g _ z).2.1 W) y I.free
 .let(v,o,y,C):=I.cell x c e;show free c o (λz=>(g c z).2.2.1 x c e W) y (I.abI x c e)
 .let(e,n,ne,E,d):=I.pin p F;let f:p.1∉ch:=λz=>(g p.1 z).2.2.2 p F W;show#[keep p.1 p.2 ne E f e n,free p.1 p.2 f e n,ne,E,d]
def Inv.un{c:Nat}(I:Inv X Z Y H s)(u:Un X.fs [] H U s.heap h')(Zl:HOk X.prog X.w U h'):Inv X Z Y U {s with heap:=h',toks:=c}:=by let(m,(o,es,t,h,r),_):=id I.loc;let(l,j):=u.any h I.free (by simp);show I.step (g':=s.gens) (d':=s.drawn) (ch:=[]) (λ_ z=>nomatch z) (λb o _ d _ e n=>u.keep b o e n d (by simp)) (λb o _ d _ e n=>u.slot b o e n d (by simp)) (λb o _ e n=>u.free b o e n (by simp)) (λb o _ e=>u.there b o e (by simp)) u.adx u.ac1 u.adD (λq hm=>by let(p,f,g,a,i):=hm;rw[h]at a;ext a;show#[_,f,g,j,i]) Zl I.bare
def Inv.call{g':Array aee}{t':Nat}{d':Drawn}{ch:G J}(I:Inv X Z Y H s)(u:Un (zj X.stack) ch H U s.heap h')(Zl:HOk X.prog X.w U h')(q:AllBare g')
  (f:∀b∈ch,(b∈X.ex\/X.s₀.heap.objs.size<=b)/\b≠X.env.locals/\(∀x c,X.env.cells.lookup x=R c->c≠b)/\∀p∈X.pn++Z,p.1≠b):
  Inv X Z Y U {s with heap:=h',gens:=g',drawn:=d',toks:=t'}:=by
 let(m,(o,es,B,j,r),_):=id I.loc;let(v,g):=u.any j I.free λz=>(f _ z).2.1 W;show I.step (ch:=ch) f (λb o g t a e n=>u.keep b o e n (λz=>(Yg.mp (I.adj b z)).elim g t) a) (λb o _ _ a e n=>u.any e n a) (λb o a e n=>u.free b o e n a) (λb o a e=>u.there b o e a) u.adx u.ac1 u.adD (λA hm=>by let(y,h,i,d,l):=hm;rw[j]at d;ext d;show#[_,h,i,g,l]) Zl q
def Inv.turned{t':Nat}{a:J}(I:Inv X Z Y H s)(k:∀b o,b≠a->s.heap.get? b=R o->h'.get? b=R o)(y:H a=P)(g:a≠X.env.locals)
  (t:a∈X.ex\/X.s₀.heap.objs.size<=a) (l:∀x c,X.env.cells.lookup x=R c->c≠a) (j:∀p∈X.pn++Z,p.1≠a):Inv X Z Y H {s with heap:=h',toks:=t'}:=by
 let f:∀b u,H b=R u->b≠a:=λb u e z=>by rw[z,y]at e;ext e
 show I.step (g':=s.gens) (d':=s.drawn) (ch:=[a]) (λb i=>?_) (λb o _ _ d e _=>k b o (λz=>d (by simp[z])) e) (λb o _ _ d e _=>#[o.slots,k b o (λz=>d (by simp[z])) e]) (λ_ _ _ _ n=>n)
  (λb o d e=>#[o,k b o (λz=>d (by simp[z])) e]) (λ_ _ e=>e) (λ_ _ _ e=>e) (λb A e=>#[#v[],by rw[e];simp]) (λm hm=>?_) (λb u e=>?_) I.bare
 .let e:b=a:=by simpa using i
  subst e;show#[t,g,l,j]
 .let(o,es,w,h,r):=hm;show#[o,es,w,k _ o (d0 g) h,r]
 .show(I.Zl b u e).acr (λc v d q=>k c v ?_ q) (λ_ q=>q) λ_ _ q=>q
  rcases d with z|z
  .rw[z];show f b u e
  .show f c _ z
theorem Inv.tok(I:Inv X Z Y H s)(t:Nat):Inv X Z Y H {s with toks:=t}:=I.un Un.refl I.Zl
theorem Inv.kept{t':Nat}(I:Inv X Z Y H s)(k:∀b u,s.heap.get? b=R u->h'.get? b=R u):Inv X Z Y H {s with heap:=h',toks:=t'}:=I.un (Un.kept k) (I.Zl.kept k)
theorem Inv.laid{a:J}{o:HO}{t':Nat}(I:Inv X Z Y H s)(k:∀b u,s.heap.get? b=R u->h'.get? b=R u)(d:s.heap.objs.size<=a)(new:ObjOk X.prog X.w (bj H a o) h' a o):
  Inv X Z Y (bj H a o) {s with heap:=h',toks:=t'}:=I.un (Un.laid k d (I.Zl.fresh d)) (I.Zl.laid k d new)
theorem Inv.write{x e:J}{o:HO}{c:Nat}(I:Inv X Z Y H s)(d:SI (H x))(f:e=x\/H e=R (.own x))(k:∀b u,b≠e->s.heap.get? b=R u->h'.get? b=R u)(a:∃u,h'.get? e=R u)
  (new:ObjOk X.prog X.w (bj H x o) h' x o):Inv X Z Y (bj H x o) {s with heap:=h',toks:=c}:=I.un (Un.write d f k a) (I.Zl.write d f k a new)
theorem Inv.aeM(I:Inv X Z Y H s)(h:∀p∈aiG,s.heap.get? p.1=R p.2/\H p.1=P/\p.1≠X.env.locals/\p.1∉X.fs/\∀v,p.2.data≠.cell v):Inv X aiG Y H s:=
 #[I.ok,I.os,I.bare,I.base,I.loc,I.cell,I.free,I.abI,λp a=>(Y3.mp a).elim (λz=>I.pin p (aez _ z)) (h p),I.Zl,I.len]
def wU{N:G Str}(d:N.Nodup){i j:Nat}(a:N[i]?=R x)(b:N[j]?=R x):i=j:=by let(f,e1):=X0.mp a;let(e,e2):=X0.mp b;show(List.getElem_inj d).mp (e1.trans e2.symm)
def t6{M:Model}{A:YC}{E:T->X3->Prop}{i:Nat}{x:Str}{v:V}{u:T}{Q:Unit->X3->Prop}(I:Inv X Z Y H s)(hN:X.N.Nodup)(D:X.N[i]?=R x)(l:RL X.env.scope x)(r:RelV v u)
  (h:∀F,Inv X Z (Y.set i (R v)) H F->(∃a,Heap.SameBut a s.heap F.heap/\(a=X.env.locals\/X.env.cells.lookup x=R a))->Q ⟨⟩ F) (hf:X.fn x=S\/X.env.scope.names.lookup x=R .local:=by first|show .inl W|show .inr W|assumption):wpAny M A (storeName X.env x u) Q E s:=by
 let(m,hn,hl):=id I.loc;let akA:(X.env.scope.kind==.class||(X.env.scope.kind==.module&&X.env.locals !=X.env.globals))=XZ:=by rw[I.ok.kind];rfl
 let w:i<Y.length:=by rw[I.len];show(X0.mp D).1
 let cne:=I.cne;let tracked:∀{a:J} {h':Heap},(∃o,s.heap.get? a=R o/\H a=P)->Heap.SameBut a s.heap h'->HOk X.prog X.w H h':=λ{a h'} ha f b ob e=>by
  let(_,_,N):=ha;show(I.Zl b ob e).acr (λc O g q=>(f.2 c ?_).trans q) (λ_ q=>q) λ_ _ q=>q;rintro rfl;rcases g with rfl|g
  .rw[N]at e;ext e
  .rw[N]at g;ext g
 rcases l with t|t
 .show wpAny_storeName_local t hn (λh' hn' f=>?_) akA
  let(oL,_,_,hoL,_):=id hn;show h _ #[I.ok,I.os,I.bare,#[λb o e n C l=>?_,λb o e n C l=>?_,I.base.free,λb o e l=>?_,I.base.adx,I.base.ac1,I.base.adD],#[_,hn',λj y v' e1 e2 e3=>?_],λy c e=>?_,I.free,I.abI,λp hp=>?_,tracked #[oL,hoL,I.free] f,by simpa using I.len] #[_,f,.inl W]
  .show(f.2 b (Yk (Yu (cv e) I.ok.above))).trans (I.base.keep b o e n C l)
  .let(sl,e1):=I.base.slot b o e n C l;show#[sl,(f.2 b (Yk (Yu (cv e) I.ok.above))).trans e1]
  .let(o',e1):=I.base.there b o e l;show#[o',(f.2 b (Yk (Yu (cv e) I.ok.above))).trans e1]
  .by_cases hj:j=i
   .subst hj;rw[D]at e1;ext e1;rw[ZV w]at e2;ext e2;show#[u,r,.inl #[t,by simp]]
   .rw[aaz (d0 hj)]at e2
    let(u',r',q):=hl j y v' e1 e2 e3;show#[u',r',?_];rcases q with⟨k,e⟩|⟨k,c,e,z⟩
    .show .inl #[k,?_];let:y≠x:=λe=>hj (wU hN e1 (e▸D));simp[this,e]
    .show .inr #[k,c,e,z.sameBut f (cne y c e)]
  .let(O,z):=I.cell y c e;show#[O,z.sameBut f (cne y c e)]
  .let(e,n,ne,nf,d):=I.pin p hp;show#[(f.2 p.1 ne).trans e,n,ne,nf,d]
 .let B:X.fn x=S:=by
   rcases hf with z|z
   .show z
   .rw[z]at t;ext t
  let(c,g):=I.ok.has x (.inl t);let(O,z):=I.cell x c g;show wpAny_storeName_cell I.ok.kind t g z (λh' L f=>?_);let(oc,K,akq):=id z;show h {s with heap:=h'} #[I.ok,I.os,I.bare,#[λb o e n C l=>?_,λb o e n C l=>?_,I.base.free,λb o e l=>?_,I.base.adx,I.base.ac1,I.base.adD],#[m,hn.sameBut f (d0 (cne x c g)),λj y v' e1 e2 e3=>?_],λy c' e=>?_,I.free,I.abI,λp hp=>?_,tracked #[oc,K,I.abI x c g] f,by simpa using I.len] #[c,f,.inr g]
  .show(f.2 b (Yk (Yu (cv e) (I.ok.cab x c B g)))).trans (I.base.keep b o e n C l)
  .let(sl,e1):=I.base.slot b o e n C l;show#[sl,(f.2 b (Yk (Yu (cv e) (I.ok.cab x c B g)))).trans e1]
  .let(o',e1):=I.base.there b o e l;show#[o',(f.2 b (Yk (Yu (cv e) (I.ok.cab x c B g)))).trans e1]
  .by_cases hj:j=i
   .subst hj;rw[D]at e1;ext e1;rw[ZV w]at e2;ext e2;show#[u,r,.inr #[.inl t,c,g,L]]
   .rw[aaz (d0 hj)]at e2
    let(u',r',q):=hl j y v' e1 e2 e3;show#[u',r',?_];rcases q with q|⟨k,c',e,z'⟩
    .show .inl q
    .show .inr #[k,c',e,z'.sameBut f ?_];rintro rfl;show hj (wU hN e1 (I.ok.inj _ _ _ e g▸D))
  .by_cases hcc:c'=c
   .subst hcc;show#[_,L]
   .let(w2,z2):=I.cell y c' e;show#[w2,z2.sameBut f hcc]
  .let(e,n,ne,nf,d):=I.pin p hp;show#[(f.2 p.1 ?_).trans e,n,ne,nf,d];intro q;rw[q,K]at e;let q':oc=p.2:=Yq e;show d O (by rw[<-q'];show akq)
theorem xw{i:Nat}{v:V}{u:T}{Q:Unit->X3->Prop}(I:Inv X Z Y H s)(e:X.N.Nodup)(d:X.N[i]?=R x)(c:RL X.env.scope x)(r:RelV v u)
  (h:∀b,Inv X Z (Y.set i (R v)) H b->Q ⟨⟩ b) (hf:X.fn x=S\/X.env.scope.names.lookup x=R .local:=by first|show .inl W|show .inr W|assumption):wpAny a A (storeName X.env x u) Q E s:=
 t6 I e d c r (λb f _=>h b f) hf
def Inv.agZ{a:X3}{ch:G J}(I:Inv X Z Y H s)(g:a.os=s.os)(u:Un (zj X.stack) ch H U s.heap a.heap)(Zl:HOk X.prog X.w U a.heap)(h:AllBare a.gens)
  (d:∀b∈ch,(b∈X.ex\/X.s₀.heap.objs.size<=b)/\b≠X.env.locals/\(∀x c,X.env.cells.lookup x=R c->c≠b)/\∀p∈X.pn++Z,p.1≠b):Inv X Z Y U a:=by
 let(h',j,l,i,f):=a;let e:f=s.os:=g;subst e;show I.call (g':=j) (t':=i) (d':=l) u Zl h d
end
abbrev XK:=T->z J->Hp->Prop
abbrev St:=G (z V)
abbrev VK:=V->Hp->Prop
abbrev TE:=St->Hp->VK->Prop
abbrev TT:=St->Hp->(Bool->Hp->Prop)->Prop
abbrev TA:=St->Hp->(G V->Hp->Prop)->Prop
structure Ends where
 nx:St->Hp->Prop
 rt:VK
 bk:St->Hp->Prop:=λ_ _=>False
 ct:St->Hp->Prop:=λ_ _=>False
abbrev TS:=Ends->St->Hp->Prop
def EP(X:Cx)(a:G (J×Obj))(b:St)(Q:VK)(u:T)(d:X3):Prop:=∃v e,Inv X a b e d/\RelV v u/\Q v e
def TP(X:Cx)(a:G (J×Obj))(d:St)(Q:Bool->Hp->Prop)(b:Bool)(e:X3):Prop:=∃f,Inv X a d f e/\Q b f
def AP(X:Cx)(a:G (J×Obj))(b:St)(Q:G V->Hp->Prop)(us:G T)(d:X3):Prop:=∃e f,Inv X a b f d/\Vals e us/\Q e f
def SP(X:Cx)(a:G (J×Obj))(D:Ends)(f:Flow)(b:X3):Prop:=
 match f with
 |.next=>∃d e,Inv X a d e b/\D.nx d e
 |.brk=>∃d e,Inv X a d e b/\D.bk d e
 |.cont=>∃d e,Inv X a d e b/\D.ct d e
 |.ret u=>∃v d e,Inv X a d e b/\RelV v u/\D.rt v e
def PE(X:Cx)(e:Yo)(t:TE):Prop:=
 ∀(a:G (J×Obj)) (s:X3) (b:St) (H:Hp) (Q:VK),Inv X a b H s->t b H Q->wpAny (model X.prog X.w) X.A (eval e X.env) (EP X a b Q) X.xe s
def PT(X:Cx)(e:Yo)(t:TT):Prop:=
 ∀(a:G (J×Obj)) (s:X3) (b:St) (H:Hp) (Q:Bool->Hp->Prop),Inv X a b H s->t b H Q->wpAny (model X.prog X.w) X.A (isTrue e X.env (eval e X.env)) (TP X a b Q) X.xe s
def PW(X:Cx)(e:Yo)(t:TT):Prop:=
 ∀(b:Sem T) (a:G (J×Obj)) (s:X3) (d:St) (H:Hp) (Q:Bool->Hp->Prop),Inv X a d H s->t d H Q->wpAny (model X.prog X.w) X.A (isTrue e X.env b) (TP X a d Q) X.xe s
theorem PW.pt(h:PW X e t):PT X e t:=h _
def PA(X:Cx)(es:G Yo)(t:TA):Prop:=
 ∀(d:Pos) (a:G (J×Obj)) (s:X3) (b:St) (H:Hp) (Q:G V->Hp->Prop),Inv X a b H s->t b H Q->wpAny (model X.prog X.w) X.A (spliced (backTo d (Yp es X.env))) (AP X a b Q) X.xe s
def PS(X:Cx)(st:ZW)(t:TS):Prop:=
 ∀(a:G (J×Obj)) (s:X3) (b:St) (H:Hp) (D:Ends),Inv X a b H s->t D b H->wpAny (model X.prog X.w) X.A (exec st X.env) (SP X a D) X.xe s
def PSs(X:Cx)(st:G ZW)(t:TS):Prop:=
 ∀(a:G (J×Obj)) (s:X3) (b:St) (H:Hp) (D:Ends),Inv X a b H s->t D b H->wpAny (model X.prog X.w) X.A (execs st X.env) (SP X a D) X.xe s
theorem b9{α:Type}{t:Sem α}{Q b:α->X3->Prop}{M:Model}{A:YC}{E:T->X3->Prop}{s:X3}(h:wpAny M A t Q E s)(d:∀a s,Q a s->b a s):wpAny M A t b E s:=wpAny_mono h d λ_ _ x=>x
section
variable{X:Cx}
def xg(i:Nat):TE:=λa H Q=>∃v,a[i]?=R (R v)/\Q v H
def tC(v:V):TE:=λ_ H Q=>Q v H
def Ou(q:X.N[i]?=R x)(o:VW X.env.scope x)(hd:(x==("__debug__":Str))=M:=by decide)(g:(x==("__classdict__":Str))=M:=by decide):PE X (.Name x pos) (xg i):=by
 intro d s n H Q I h;let(v,e,h):=h;let(m,t,p):=I.loc;let(u,r,l):=p i x v q e o;let b:EP X d n Q u s:=#[v,H,I,r,h];rcases l with⟨a,hm⟩|⟨a,c,j,f⟩
 .show ag5 (wpAny_loadName_local I.ok.kind a t hm b) hd
 .rcases a with a|a
  .show ag5 (wpAny_loadName_cell I.ok.kind a j f b) hd
  .show ag5 (wpAny_loadName_free I.ok.kind a j f b g) hd
theorem Q3{i j pos}:PE X (.Constant (.int i) j pos) (tC (.int i)):=λ_ _ _ H _ I h=>acy #[.int i,H,I.tok _,#[_,W],h]
theorem SJ{b j pos}:PE X (.Constant (.bool b) j pos) (tC (.bl b)):=λ_ _ _ H _ I h=>Constant_bool #[.bl b,H,I,W,h]
theorem Qh{j pos}:PE X (.Constant .none j pos) (tC .non):=λ_ _ _ H _ I h=>Constant_none #[.non,H,I,W,h]
theorem Qf{x j pos}:PE X (.Constant (.str x) j pos) (tC (.str x)):=λ_ _ _ H _ I h=>Calls.Constant_str #[.str x,H,I.tok _,#[_,W],h]
def Gl(X:Cx)(x:Str):Prop:=X.env.kindOf x=R .globalImplicit
theorem pY(I:Inv X pins σ H s)(a:Gl X x)(hm:X.mg x=R u)(h:Q u s)
  (hd:(x==("__debug__":Str))=M:=by decide):wpAny (model X.prog X.w) X.A (eval (.Name x pos) X.env) Q E s:=
 Calls.Name_function_global I.ok.kind a (Calls.loadGlobal_global (by rw[I.ok.glob];show I.mod.glob.keeps I.bk) hm h) hd
def jX(I:Inv X pins σ H s)(b:Gl X x)(hm:X.mg x=P)(a:YO x=R u)(h:Q u s)
  (c:x≠ "__name__":=by decide) (hd:(x==("__debug__":Str))=M:=by decide):wpAny (model X.prog X.w) X.A (eval (.Name x pos) X.env) Q E s:=by
 let(f,e,d):=I.mod.blt;show Calls.Name_function_global I.ok.kind b (Calls.loadGlobal_builtin (by rw[I.ok.glob];show I.mod.glob.keeps I.bk) hm (by rw[I.ok.blt];show e.keeps I.bk) ((d x c).trans a) h) hd
theorem Lm{x:Str}{v:V}{u:T}{a:Pos}(b:Gl X x)(hm:X.mg x=R u)(r:RelV v u)(hd:(x==("__debug__":Str))=M:=by decide):PE X (.Name x a) (tC v):=
 λ_ _ _ H _ I h=>pY I b hm #[v,H,I,r,h] hd
theorem IE(b:Gl X x)(hm:X.mg x=P)(a:YO x=R u)(r:RelV v u)(c:x≠ "__name__":=by decide)(hd:(x==("__debug__":Str))=M:=by decide):PE X (.Name x pos) (tC v):=
 λ_ _ _ H _ I h=>jX I b hm a #[v,H,I,r,h] c hd
variable{a b:Yo}{Y U:TE}{Z:Pos}
def PC(X:Cx)(op:ae8)(a b:Yo)(t:TE):Prop:=
 ∀(d:G (J×Obj)) (s:X3) (g:St) (H:Hp) (Q:VK),Inv X d g H s->t g H Q->
  wpAny (model X.prog X.w) X.A (eval a X.env) (λv f=>wpAny (model X.prog X.w) X.A (eval b X.env) (λu e=>wpAny (model X.prog X.w) X.A (Y9 op v u) (EP X d g Q) X.xe e) X.xe f) X.xe s
def tB(t:TE):TT:=λd H Q=>t d H λx e=>∃c,x=.bl c/\Q c e
theorem NP(h:PC X op a b t)(g:behindInMarks op b=M:=by first|show o _ () ()|rfl):PE X (.Compare a [op] [b] Z) t:=λd s e H Q I f=>aka (h d s e H Q I f) g
def QA(h:PC X op a b t)(f:behindInMarks op b=M:=by first|show C _ () ()|rfl):PT X (.Compare a [op] [b] Z) (tB t):=by intro e s g H Q I j;show af4 (b9 (h e s g H _ I j) λv r f=>b9 f λu p l=>b9 l λc o #[x,n,m,r1,i]=>?_) f;let(d,rfl,q):=i;ext r1;show Zd #[n,m,q]
def NJ{e:Yo}{t:TE}(h:PE X e t)(l:∀whole,isTrue e X.env whole=(do let v<-whole;standAt e.pos;holding [v] (truthy v)):=by intro _;rfl):PT X e (tB t):=by intro f s g H Q I j;show isTrue_plain (b9 (h f s g H _ I j) λv o #[x,n,m,r1,i]=>?_) (l _);let(d,rfl,q):=i;ext r1;show Zd #[n,m,q]
variable{S R:TT}{T:cc Yo}
def Q4(t u:TT):TT:=λd H Q=>t d H λc e=>if c=XX then u d e Q else Q M e
def VF(t u:TT):TT:=λd H Q=>t d H λc e=>if c=XX then Q XX e else u d e Q
def Kn(t:TT):TT:=λd H Q=>t d H λc e=>Q (!c) e
def A4(j:PT X a S):PW X (.BoolOp .And [a] Z) S:=by
 intro g d s f H Q I h;show isTrue_and (b9 (j d s f H Q I h) λc i e=>?_);cases c with
 |true=>show isTrue_and_nil e
 |false=>show e
def D0(j:PT X a S):PW X (.BoolOp .Or [a] Z) S:=by
 intro g d s f H Q I h;show isTrue_or (b9 (j d s f H Q I h) λc i e=>?_);cases c with
 |false=>show isTrue_or_nil e
 |true=>show e
def Fw(k:PT X a S)(m:PW X (.BoolOp .And (b::T) Z) R):PW X (.BoolOp .And (a::b::T) Z) (Q4 S R):=by
 intro j d s e H Q I h;show isTrue_and (b9 (k d s e H _ I h) λc l #[i,g,f]=>?_);cases c with
 |true=>show m j d l e i Q g f
 |false=>show#[i,g,f]
def MG(k:PT X a S)(m:PW X (.BoolOp .Or (b::T) Z) R):PW X (.BoolOp .Or (a::b::T) Z) (VF S R):=by
 intro j d s e H Q I h;show isTrue_or (b9 (k d s e H _ I h) λc l #[i,g,f]=>?_);cases c with
 |true=>show#[i,g,f]
 |false=>show m j d l e i Q g f
def Qc(g:PT X a S):PT X (.UnaryOp .Not a Z) (Kn S):=by intro d s e H Q I h;show isTrue_not (g d s e H (λc f=>Q (!c) f) I h)
def EN(Y U:TE):TE:=λd H Q=>Y d H λx e=>∃c,x=.bl c/\if c=XX then U d e Q else Q (.bl M) e
def Nz(Y:TE):TE:=λd H Q=>Y d H λx e=>∃c,x=.bl c/\Q (.bl (!c)) e
theorem OX{op}(h:PE X a t):PE X (.BoolOp op [a] Z) t:=λd s e H Q I f=>BoolOp_one (h d s e H Q I f)
def GJ(k:PE X a Y)(l:PE X (.BoolOp .And (b::T) Z) U):PE X (.BoolOp .And (a::b::T) Z) (EN Y U):=by
 intro d s f H Q I h;show BoolOp_and (b9 (k d s f H _ I h) λv j #[x,i,g,r1,e]=>?_);let(c,rfl,e):=e;ext r1;show Zd ?_;cases c with
 |true=>show l d j f i Q g e
 |false=>show#[.bl M,i,g,W,e]
def Rk(k:PE X a Y):PE X (.UnaryOp .Not a Z) (Nz Y):=by intro d s f H Q I h;show UnaryOp_ (b9 (k d s f H _ I h) λv j #[x,i,g,r1,e]=>?_);let(c,rfl,e):=e;ext r1;show not_of (Zd #[.bl (!c),i,g,W,e])
def UX(t:TT)(Y U:TE):TE:=λd H Q=>t d H λc e=>if c=XX then Y d e Q else U d e Q
def FC(m:PT X c S)(k:PE X a Y)(n:PE X b U):PE X (.IfExp c a b Z) (UX S Y U):=by
 intro e s f H Q I h;show wpAny_IfExp (b9 (m e s f H _ I h) λd g #[l,j,i]=>?_);cases d with
 |true=>show k e g f l Q j i
 |false=>show n e g f l Q j i
end
def SqL(K:lD)(H:Hp)(a:J)(xs:G V):Prop:=
 Rd H a (.lst xs)\/
  ∃(o:Obj) (b:Array T) (n:Nat),K.lookup a=R o/\o.cls=.type "list"/\o.dict=P/\o.data=.seq b n/\b.size<=Yc/\Vals xs b.toList
def SqT(K:lD)(H:Hp)(a:J)(xs:G V):Prop:=
 Rd H a (.tup xs)\/
  ∃(o:Obj) (b:Array T) (n:Nat),K.lookup a=R o/\(o.cls=.type "tuple"/\o.dict=P)/\o.data=.seq b n/\b.size<=Yc/\Vals xs b.toList
def Vu:T->z V
 |.none=>R .non
 |.bool b=>R (.bl b)
 |.int i _=>R (.int i)
 |.str x _=>R (.str x)
 |.bytes b _=>R (.byt b)
 |.float b _=>R (.flt b)
 |.ref a=>R (.ref a)
 |.type n=>R (.ty n)
 |_=>P
def RelV.abs(r:RelV x u):Vu u=R x:=by
 cases x with
 |non=>ext r;rfl
 |bl _=>ext r;rfl
 |int _=>let(t,rfl):=r;rfl
 |str _=>let(t,rfl):=r;rfl
 |byt _=>let(t,rfl):=r;rfl
 |flt _=>let(t,rfl):=r;rfl
 |ref _=>ext r;rfl
 |ty _=>ext r;rfl
theorem RelV.inj(r:RelV x u)(q:RelV y u):x=y:=Yq (r.abs.symm.trans q.abs)
theorem Vals.inj:∀{xs a:G V} {us:G T},Vals xs us->Vals a us->xs=a
 |_,_,_,.nil,.nil=>rfl
 |_,_,_,.cons r t,.cons d b=>by rw[r.inj d,Vals.inj t b]
section
variable{X:Cx}{Z:cc (X5×Obj)}{Y:St}{H:Hp}{s:X3}{a:X5}{Q U:cc V}
theorem SqL.of{K:lD}(h:H a=R (.lst Q)):SqL K H a Q:=.inl (.inl h)
theorem SqT.of{K:lD}(h:H a=R (.tup Q)):SqT K H a Q:=.inl (.inl h)
def Inv.list(I:Inv X Z Y H s)(h:SqL X.K H a Q):∃b:G T,Vals Q b/\PlainL s.heap a b.toArray/\Q.length<=Yc:=by
 rcases h with h|⟨o,b,n,f,g,hd,d,i,r⟩
 .let(z,b,n,r,e):=h.ok I.Zl;show#[b,r,#[_,n,e,W,W,W],z]
 .show#[b.toList,r,#[o,n,I.kIn a o f,g,hd,by simpa using d],?_];let e:=r.length;simp only[YU]at e;ext
def Inv.tuple(I:Inv X Z Y H s)(h:SqT X.K H a Q):∃b:G T,Vals Q b/\IsTup s.heap a b.toArray/\Q.length<=Yc:=by
 rcases h with h|⟨o,b,n,f,g,d,i,r⟩
 .let(z,b,r,p):=h.ok I.Zl;show#[b,r,p.tup,z]
 .show#[b.toList,r,#[o,I.kIn a o f,g.1,n,by simpa using d],?_];let e:=r.length;simp only[YU]at e;ext
def Inv.ahI(I:Inv X Z Y H s)(h:SqT X.K H a Q):∃b:G T,Vals Q b/\acq s.heap a b.toArray/\Q.length<=Yc:=by
 rcases h with h|⟨o,b,n,g,d,f,i,r⟩
 .let(z,b,r,p):=h.ok I.Zl;show#[b,r,p,z]
 .show#[b.toList,r,#[o,I.kIn a o g,#[d.1,n,by simpa using f],d.2],?_];let e:=r.length;simp only[YU]at e;ext
def Inv.adU(I:Inv X Z Y H s)(h:SqL X.K H a Q)(c:SqL X.K H a U):Q=U:=by
 let(j,r,(o,n,e,_,_,d),_):=I.list h;let(b,i,(l,m,f,_,_,g),_):=I.list c;rw[e]at f;ext f;rw[d]at g;injection g with d1 _;let:j=b:=by simpa using d6 ag6 d1
 subst this;show r.inj i
def Inv.ae1(I:Inv X Z Y H s)(h:SqT X.K H a Q)(c:SqT X.K H a U):Q=U:=by
 let(j,r,(o,e,_,n,d),_):=I.tuple h;let(b,i,(l,f,_,m,g),_):=I.tuple c;rw[e]at f;ext f;rw[d]at g;injection g with d1 _;let:j=b:=by simpa using d6 ag6 d1
 subst this;show r.inj i
end
abbrev Cx.aco(X:Cx)(E:T->X3->Prop):Cx:={X with xe:=E}
abbrev Cx.nox(X:Cx):Cx:=X.aco λ_ _=>False
theorem Cx.Ok.aco{X:Cx}(ok:X.Ok)(E:T->X3->Prop):(X.aco E).Ok:=
 #[ok.mod,ok.kind,ok.glob,ok.blt,ok.above,ok.inj,ok.has,ok.cab,ok.hd,ok.frames,ok.stk,ok.exf,ok.bs,ok.bsz,ok.ae5,ok.ae6,ok.acd,ok.frf]
theorem Cx.Ok.abb{X:Cx}(ok:(X.aco E).Ok):X.Ok:=
 #[ok.mod,ok.kind,ok.glob,ok.blt,ok.above,ok.inj,ok.has,ok.cab,ok.hd,ok.frames,ok.stk,ok.exf,ok.bs,ok.bsz,ok.ae5,ok.ae6,ok.acd,ok.frf]
section
variable{X:Cx}{Z:cc (X5×Obj)}{Y:St}{H:Hp}{s:X3}{E:XY->X3->Prop}
theorem Inv.aco(I:Inv X Z Y H s)(E:T->X3->Prop):Inv (X.aco E) Z Y H s:=#[I.ok.aco E,I.os,I.bare,I.base,I.loc,I.cell,I.free,I.abI,I.pin,I.Zl,I.len]
theorem Inv.abb(I:Inv (X.aco E) Z Y H s):Inv X Z Y H s:=#[I.ok.abb,I.os,I.bare,I.base,I.loc,I.cell,I.free,I.abI,I.pin,I.Zl,I.len]
def SP.abb(h:SP (X.aco E) Z D f s'):SP X Z D f s':=by
 cases f with
 |next=>let(a,b,I,q):=h;show#[a,b,I.abb,q]
 |brk=>let(a,b,I,q):=h;show#[a,b,I.abb,q]
 |cont=>let(a,b,I,q):=h;show#[a,b,I.abb,q]
 |ret u=>let(v,a,b,I,r,q):=h;show#[v,a,b,I.abb,r,q]
theorem PSs.nox{st:G ZW}(h:PSs X.nox st t):PSs X st t:=λZ s Y H D I a=>
 wpAny_mono (h Z s Y H D (I.aco _) a) (λ_ _ q=>q.abb) λ_ _ z=>False.elim z
end
section
variable{X:Cx}{Q:ZW}{U:cc ZW}{t u:TS}{e:Yo}{Y:TE}{Z:Pos}
def HN:TS:=λD a H=>D.nx a H
def Il(t u:TS):TS:=λD a H=>t {D with nx:=u D} a H
theorem Br:PSs X [] HN:=λ_ _ a H _ I h=>abL #[a,H,I,h]
def Fa(j:PS X Q t)(i:PSs X U u):PSs X (Q::U) (Il t u):=by
 intro a s d H D I h;show ail (b9 (j a s d H {D with nx:=u D} I h) λf g q=>?_);cases f with
 |next=>let(b,m,l,q):=q;show i a g b m D l q
 |ret v=>show q
 |brk=>show q
 |cont=>show q
def Jo(d:PS X Q t):PSs X [Q] t:=by
 intro a s b H D I h;show ail (b9 (d a s b H D I h) λf g q=>?_);cases f with
 |next=>show abL q
 |ret v=>show q
 |brk=>show q
 |cont=>show q
def Inv.quiet{a:G (J×Obj)}{b:St}{H:Hp}{s:X3}(I:Inv X a b H s):interactive X.env=M:=by simp[interactive,I.ok.kind]
def zY(Y:TE):TS:=λD a H=>Y a H λ_ b=>D.nx a b
def LA(g:PE X e Y)(f:aaw e P Z.line X.env=pure M:=by rfl):PS X (.Expr e Z) (zY Y):=by intro a s b H D I h;show wpAny_Expr_any (b9 (g a s b H _ I h) λv l #[x,j,i,r1,d]=>#[b,j,i,d]) I.quiet f
def LR(Y:TE):TS:=λD a H=>Y a H D.rt
def OP(f:PE X e Y):PS X (.Return (R e) Z) (LR Y):=by intro a s b H D I h;show wpAny_Return_some (b9 (f a s b H _ I h) λv j #[x,i,g,r1,d]=>#[x,b,i,g,r1,d])
def MH:TS:=λD _ H=>D.rt .non H
theorem LV:PS X (.Return P Z) MH:=λ_ _ a H _ I h=>wpAny_Return_none #[.non,a,H,I,W,h]
def JU(c:TT)(t u:TS):TS:=λD a H=>c a H λb d=>if b=S then t D a d else u D a d
def SU(n:PT X c C)(k:PSs X a t)(o:PSs X b u):PS X (.If c a b Z) (JU C t u):=by
 intro f s g H D I h;show wpAny_If (b9 (n f s g H _ I h) λd i #[m,l,j]=>?_);cases d with
 |true=>show k f i g m D l j
 |false=>show o f i g m D l j
def yG:TS:=λ_ _ _=>False
theorem xx:PS X Q yG:=λ_ _ _ _ _ _ h=>h.elim
end
abbrev TG:=V->St->Hp->(St->Hp->Prop)->Prop
abbrev yu:=G V->St->Hp->(St->Hp->Prop)->Prop
def PG(X:Cx)(a:Yo)(t:TG):Prop:=
 ∀(b:G (J×Obj)) (s:X3) (d:St) (H:Hp) (v:V) (u:T) (Q:St->Hp->Prop),Inv X b d H s->RelV v u->t v d H Q->
  wpAny (model X.prog X.w) X.A (assign a X.env u) (λ_ e=>∃f g,Inv X b f g e/\Q f g) X.xe s
def Ss(X:Cx)(e:G Yo)(t:yu):Prop:=
 ∀(a:G (J×Obj)) (s:X3) (b:St) (H:Hp) (h:G V) (d:G T) (Q:St->Hp->Prop),Inv X a b H s->Vals h d->t h b H Q->
  wpAny (model X.prog X.w) X.A (assignInOrder ((assignEach e X.env).map (·.2)) d) (λ_ f=>∃g i,Inv X a g i f/\Q g i) X.xe s
abbrev Ut:=V->V->V->Hp->(Hp->Prop)->Prop
def TJ(X:Cx)(t:Ut):Prop:=
 ∀(a:G (J×Obj)) (s:X3) (b:St) (H:Hp) (o i v:V) (d e u:T) (Q:Hp->Prop),Inv X a b H s->RelV o d->RelV i e->RelV v u->t o i v H Q->
  wpAny (model X.prog X.w) X.A (setItem d e u) (λ_ f=>∃g,Inv X a b g f/\Q g) X.xe s
section
variable{X:Cx}{Z:Pos}
def pf(i:Nat):TG:=λv a H Q=>Q (a.set i (R v)) H
def J8(c:X.N.Nodup)(b:X.N[i]?=R x)(a:RL X.env.scope x)(hf:X.fn x=S\/X.env.scope.names.lookup x=R .local:=by first|show .inl W|show .inr W|assumption):PG X (.Name x Z) (pf i):=by intro pins s σ H v u Q I r h;show ahS (xw I c b a r (λe d=>#[_,H,d,h]) hf)
def IK:yu:=λb a H Q=>b=[]/\Q a H
def A1(t:TG)(u:yu):yu:=λe b H Q=>∃v r,e=v::r/\t v b H λa d=>u r a d Q
def KC:Ss X [] IK:=by intro a s b H f d Q I r h;let(e,h):=h;subst e;ext r;show assignInOrder_nil #[b,H,I,h]
def Hm(m:PG X e t)(l:Ss X es u)
  (j:(assignEach (e::es) X.env).map (·.2)=assign e X.env::(assignEach es X.env).map (·.2):=by rfl):Ss X (e::es) (A1 t u):=by
 intro a s d H w q Q I r h;let(v,p,e1,h):=h;subst e1;cases r with
 |cons r g=>rw[j];show assignInOrder_cons (b9 (m a s d H _ _ _ I r h) λ_ f #[b,o,n,i]=>?_);show l a f b o _ _ Q n g i
def K3(K:lD)(n:Nat)(t:yu):TG:=λv b H Q=>∃a xs,v=.ref a/\SqT K H a xs/\xs.length=n/\t xs b H Q
def PZ(p:X.calm=S)(h:Ss X es t)
  (c:(assignEach es X.env).length=n:=by rfl) (eI:(assignEach es X.env).findIdx? (·.1)=P:=by rfl):PG X (.Tuple es k Z) (K3 X.K n t):=by
 intro d s g H v u Q I r f;let(a,xs,e1,l,m,f):=f;subst e1;ext r;let(z,A,j,w):=I.tuple l;show assign_Tuple_tuple (I.ok.hd p) j (by simp[c,<-m,A.length]) eI λy i=>?_;let q:=I.kept (t':=s.toks) λb o e=>i b o (Yk (cv e)) e;show h d _ g H xs _ Q q (by simpa using A) f
def Uh(to b:TE)(t:Ut):TG:=λv a H Q=>to a H λo f=>b a f λi e=>t o i v e λd=>Q a d
def Oi(n:PE X o to)(c:PE X i ti)(m:TJ X t)
  (k:∀v,assign (.Subscript o i Z) X.env v=(do
   let U<-holding [v] (eval o X.env)
   let iv<-holding [v,U] (eval i X.env)
   standAt Z
   holding [v,U,iv] (setItem U iv v)
   release [v,U,iv] []):=by intro _;rfl):PG X (.Subscript o i Z) (Uh to ti t):=by
 intro a s b H v u Q I r h;rw[k];show XW (Zo (b9 (n a s b H _ I h) λU e #[x,B,w,r1,l]=>?_));show XW (Zo (b9 (c a e b B _ w l) λiv d #[y,A,q,f,j]=>?_));show XW (acs (XW (Zo (b9 (m a d b A x y v U iv u _ q r1 f r j) λ_ C #[z,p,g]=>?_))));show wpAny_release #[b,z,p,g]
def zu(b:TE)(g:TG):TS:=λD a H=>b a H λx d=>g x a d D.nx
def Q0(m:PE X e U)(l:PG X C g)(j:swapsWithSole [C] e Z.line X.env=pure M:=by rfl)(i:swappedStores [C] e X.env=pure P:=by rfl)
  (n:(assignEach [C] X.env).map (·.2)=[assign C X.env]:=by rfl):PS X (.Assign [C] e Z) (zu U g):=by
 intro a s b H D I h;show wpAny_Assign_stores (b9 (m a s b H _ I h) λv d #[x,p,o,r1,f]=>?_) j i;rw[n];show b9 (l a d b p x v _ o r1 f) λ_ r q=>q
def GW{i:Nat}{x:Str}{e:Yo}{a:TE}{pos':Pos}(g:X.N.Nodup)(f:X.N[i]?=R x)(c:RL X.env.scope x)(he:PE X e a)(d:aaw e (R (.Name x pos')) Z.line X.env=pure M:=by rfl)(hf:X.fn x=S\/X.env.scope.names.lookup x=R .local:=by first|show .inl W|show .inr W|assumption):
  PS X (.Assign [.Name x pos'] e Z) (zu a (pf i)):=by
 intro pins s σ H D I h;show wpAny_Assign_Name (b9 (he pins s σ H _ I h) λv s1 #[y,H1,l,r1,b]=>?_) d;show xw l g f c r1 (λs2 j=>#[_,H1,j,b]) hf
end
section
variable{X:Cx}{Z:Pos}
def DC(c:TT)(h:TS):TS:=λD a H=>∃W:Nat->St->Hp->Prop,(∃m,W m a H)/\∀m a H,W m a H->
 c a H λb d=>if b=S then∃N:St->Hp->Prop,(∀e g,N e g->∃f,f<m/\W f e g)/\h {D with nx:=N,ct:=N,bk:=D.nx} a d else D.nx a d
def HR(q:ae9 (model X.prog X.w) X.A X.env X.xe)(K:PT X c U)(L:PSs X body tb):PS X (.While c body [] Z) (DC U tb):=by
 intro d s z H D I h;let(W,(J,C),turn):=h;show wpAny_While (codeAny_whileLoop (λn G=>∃w A,Inv X d w A G/\W n w A) ?_ J #[z,H,I,C]);rintro n F ⟨e,y,M,B⟩;show Z6 q (b9 (K d F e y _ M (turn n e y B)) λb E #[u,t,j]=>?_);cases b with
 |true=>
  let(N,r,j):=j;rw[ax rfl];show Z6 q (b9 (L d E e u _ t j) λf O i=>?_);cases f with
  |next=>let(a,g,p,m):=i;let(o,hm,l):=r a g m;show#[o,hm,a,g,p,l]
  |cont=>let(a,g,p,m):=i;let(o,hm,l):=r a g m;show#[o,hm,a,g,p,l]
  |brk=>show i
  |ret v=>show i
 |false=>rw[a6 X7];show abL #[e,u,t,j]
end
structure It where
 go:Nat->Hp->Prop
 yld:Nat->Hp->V->Hp->Prop
 stop:Nat->Hp->Prop
def mi(X:Cx)(a:G (J×Obj))(H:Hp)(b:J):Prop:=
 H b=P/\b≠X.env.locals/\b∉X.fs/\(b∈X.ex\/X.s₀.heap.objs.size<=b)/\(∀x c,X.env.cells.lookup x=R c->c≠b)/\∀p∈X.pn++a,p.1≠b
def Inv.acT(I:Inv X pins σ H s)(a:s.heap.objs.size<=b)(f:H' b=P):mi X pins H' b:=by
 show#[f,Y1 (Yu I.lt a),I.alD a,.inr (YN I.sz a),λx c e z=>?_,λp d z=>?_]
 .let(v,q):=I.cell x c e;show b4 (Yu q.lt (by rw[z];show a)) (Zc _)
 .show b4 (Yu (cv (I.pin p d).1) (by rw[z];show a)) (Zc _)
structure Turn(P:Yr)(w:YJ)(K:lD)(tg:Yo)(J:It)(fp:G X5)(it:X5)(tn:Nat->Heap->Prop):Prop where
 mem:it∈fp
 obj:∀i h,tn i h->∀b∈fp,∃o,h.get? b=R o/\∀v,o.data≠.cell v
 keep:∀i h h',tn i h->(∀b∈fp,∀o,h.get? b=R o->h'.get? b=R o)->tn i h'
 item:∀(X:Cx),X.prog=P->X.w=w->X.K=K->X.calm=S->∀(i:Nat) (pins:G (X5×Obj)) (s:X3) (σ:St) (H:Hp) (E:T->X3->Prop),Inv X pins σ H s->(∀b∈fp,mi X pins H b)->tn i s.heap->J.go i H->
  wpAny (model P w) X.A (pyNext (.ref it)) (λr s1=>∃u,r=R u/\
   wpAny (model P w) X.A (letOwnedTupleGo tg (.ref it) u) (λ_ s2=>∃x H',Inv X pins σ H' s2/\RelV x u/\J.yld i H x H'/\tn (i+1) s2.heap/\∀b∈fp,H' b=CL) E s1) E s
 done:∀(X:Cx),X.prog=P->X.w=w->X.K=K->X.calm=S->∀(i:Nat) (pins:G (X5×Obj)) (s:X3) (σ:St) (H:Hp) (E:T->X3->Prop),Inv X pins σ H s->(∀b∈fp,mi X pins H b)->tn i s.heap->J.stop i H->
  wpAny (model P w) X.A (pyNext (.ref it)) (λr s1=>r=CL/\Inv X pins σ H s1) E s
 self:∀(A:YC) (i:Nat) (s:X3) (Q:T->X3->Prop) (E:T->X3->Prop),tn i s.heap->Q (.ref it) s->wpAny (model P w) A (pyIter (.ref it)) Q E s
abbrev TI:=St->Hp->(It->Hp->Prop)->Prop
def VQ(X:Cx)(a:G (X5×Obj))(j:St)(l:Yo)(R:It->Hp->Prop)(d:T)(g:X3):Prop:=
 ∃(h:X5) (i:G X5) (f:Nat->Heap->Prop) (J:It) (e:Hp),d=.ref h/\Inv X a j e g/\Turn X.prog X.w X.K l J i h f/\f 0 g.heap/\(∀b∈i,mi X a e b)/\R J e
def PI(X:Cx)(f b:Yo)(e:TI):Prop:=
 ∀(a:G (J×Obj)) (s:X3) (d:St) (H:Hp) (R:It->Hp->Prop),Inv X a d H s->e d H R->
  wpAny (model X.prog X.w) X.A (eval b X.env) (λv g=>wpAny (model X.prog X.w) X.A (pyIter v) (VQ X a d f R) X.xe g) X.xe s
def xQ{M:Model}{A:YC}{E:T->X3->Prop}{s:X3}{b:Yo}{d:J}{u:T}{o:Obj}{n:String}{c:Array T}{Q:Unit->X3->Prop}(e:s.heap.get? d=R o)(f:o.cls=.type n)(hd:o.data=.fields c)
  (g:["enumerate","zip","dict_itemiterator","dict_reverseitemiterator","odict_iterator","itertools.zip_longest","itertools.pairwise"].contains n=XZ) (a:Q ⟨⟩ s):wpAny M A (letOwnedTupleGo b (.ref d) u) Q E s:=by
 ext letOwnedTupleGo;ext b<;>first
  |show X8 a
  |(ext u<;>first
    |show X8 a
    |(show XW (ag7 e ?_)
      rw[f,hd];show wpAny M A (if(["enumerate","zip","dict_itemiterator","dict_reverseitemiterator","odict_iterator","itertools.zip_longest","itertools.pairwise"].contains n&&c[0]? ==R (rawInt _))=S then _ else _) Q E s;rw[a6 (by intro h;rw[g,ac2]at h;ext h)];show X8 a))
def Vs(K:lD)(a:J):It:=
 #[λi H=>∃xs x,SqL K H a xs/\xs[i]?=R x,λi H x b=>b=H/\∀xs,SqL K H a xs->xs[i]?=R x,λi H=>∃xs,SqL K H a xs/\xs.length<=i]
def Vk(K:lD)(a:J):It:=
 #[λi H=>∃xs x,SqT K H a xs/\xs[i]?=R x,λi H x b=>b=H/\∀xs,SqT K H a xs->xs[i]?=R x,λi H=>∃xs,SqT K H a xs/\xs.length<=i]
def UW(lo:Int)(n:Nat):It:=#[λi _=>i<n,λi H x a=>a=H/\x=.int (lo+i),λi _=>n<=i]
theorem Co{K:lD}(a g:X5):Turn Pz0 w K tg (Vs K a) [g] g (λi h=>h.IsListIter g a i) where
 mem:=by simp
 obj:=λi h f b j=>by
  let e:b=g:=by simpa using j
  subst e;let(o,e,c,d):=f;show#[o,e,λv z=>by rw[d]at z;ext z]
 keep:=λi h N f k=>f.at λo e=>k g (by simp) o e
 item:=by intro X A t B M i m s O H E I q f y;subst A t B;let(xs,x,n,r):=y;let(YI,rv,p,S):=I.list n;let(u,U,R):=rv.get r;let(L,J,Y,G,F,C):=q g (by simp);show wpAny_pyNext_list_item f p.isList (by simpa using U) λN l Q=>?_;let I1:=I.turned (t':=s.toks) (λb o j e=>(Q.2 b j).trans e) L J G F C;let(o,e,c,d):=id l;show#[u,W,xQ e c d () #[x,H,I1,R,#[W,λys T=>by rw[I.adU T n];show r],l,λb j=>(q b j).1]]
 done:=by intro X A t B M i m s O H E I q f y;subst A t B;let(xs,n,r):=y;let(YI,rv,p,S):=I.list n;let(L,J,Y,G,F,C):=q g (by simp);let hl:=rv.length;show wpAny_pyNext_list_end (I.ok.hd M) f p.isList (by simp;ext) λN Z=>#[W,I.turned (λb o j e=>Z b o j e) L J G F C]
 self:=λ_ _ _ _ _ f h=>wpAny_pyIter_listiter f h
theorem yX{K:lD}(a g:X5):Turn Pz0 w K tg (Vk K a) [g] g (λi h=>h.IsTupleIter g a i) where
 mem:=by simp
 obj:=λi h f b j=>by
  let e:b=g:=by simpa using j
  subst e;let(o,e,c,d):=f;show#[o,e,λv z=>by rw[d]at z;ext z]
 keep:=λi h O f k=>f.at λo e=>k g (by simp) o e
 item:=by intro X A t B N i m s Q H E I q f y;subst A t B;let(xs,x,n,r):=y;let(M,rv,p,T):=I.tuple n;let(u,Y,S):=rv.get r;let(L,J,Z,G,F,C):=q g (by simp);show wpAny_pyNext_tuple_item f (show s.heap.IsTuple a M.toArray from p) (by simpa using Y) λO l R=>?_;let I1:=I.turned (t':=s.toks) (λb o j e=>(R.2 b j).trans e) L J G F C;let(o,e,c,d):=id l;show#[u,W,xQ e c d () #[x,H,I1,S,#[W,λys U=>by rw[I.ae1 U n];show r],l,λb j=>(q b j).1]]
 done:=by intro X A t B N i m s Q H E I q f y;subst A t B;let(xs,n,r):=y;let(M,rv,p,T):=I.tuple n;let(L,J,Z,G,F,C):=q g (by simp);let hl:=rv.length;show wpAny_pyNext_tuple_end (I.ok.hd N) f (show s.heap.IsTuple a M.toArray from p) (by simp;ext) λO eb=>#[W,I.turned (λb o j e=>eb b o j e) L J G F C]
 self:=λ_ _ _ _ _ f h=>wpAny_pyIter_tupleiter f h
theorem yd{K:lD}(f:X5)(lo:Int)(n:Nat):Turn U w K tg (UW lo n) [f] f (λi h=>adH h f (lo+(i:Nat)*1) ((n:Int) - (i:Nat)) 1) where
 mem:=by simp
 obj:=λi h a b g=>by
  let e:b=f:=by simpa using g
  subst e;show#[_,a,λv z=>by let L:=z;ext L]
 keep:=λi h y a k=>k f (by simp) _ a
 item:=by intro X r m u q i d s J H E I l a p;subst r m u;let(G,F,Q,C,B,A):=l f (by simp);let W:=adI.range (prog:=X.prog) (w:=X.w) (I.ok.hd q) f lo 1 n;show W.item i s _ _ p a λv y M O j N=>?_;let(t,rfl):=O;let S:Inv X d J H {s with heap:=y,toks:=M}:=I.turned (λb o g e=>N b o (by simpa using g) e) G F C B A;show#[_,rfl,xQ j rfl rfl () #[.int (lo+i),H,S,#[t,?_],#[rfl,rfl],j,λb g=>(l b g).1]];rw[Int.mul_one]
 done:=by intro X r m u q i d s J H E I l a p;subst r m u;let(G,F,Q,C,B,A):=l f (by simp);show afl (I.ok.hd q) a (by let:n<=i:=p;ext) λy R=>#[rfl,I.turned (λb o g e=>R b o g e) G F C B A]
 self:=λ_ _ _ _ _ a h=>afm a h
section
variable{X:Cx}{Z:Yo}
def F5{a:G (J×Obj)}{d:St}{H:Hp}{s:X3}{R:It->Hp->Prop}{E:T->X3->Prop}{lo c:Int}{t u v:Tok}{f:Nat}(I:Inv X a d H s)(m: -(2^62)<=lo)(l:lo<2^62)(j: -(2^62)<=c)(i:c<2^62)
  (q:R (UW lo (c - lo).toNat) H):wpAny (model X.prog X.w) X.A (pyIter (.ref s.heap.objs.size)) (VQ X a d Z R) E {s with heap:=s.heap.push {cls:=.type "range",data:=.fields #v[.int lo t,.int c u,.int 1 v]},toks:=f}:=by
 show ag8 (IsRange.new ..) (small_one m l j i) ?_;let g:Inv X a d H {s with heap:=s.heap.push {cls:=.type "range",data:=.fields #v[.int lo t,.int c u,.int 1 v]},toks:=f}:=I.kept λb o e=>cn _ e;show#[(s.heap.push {cls:=.type "range",data:=.fields #v[.int lo t,.int c u,.int 1 v]}).objs.size,[(s.heap.push {cls:=.type "range",data:=.fields #v[.int lo t,.int c u,.int 1 v]}).objs.size],_,_,H,W,
  g.kept (t':=f) λb o e=>cn _ e,yd _ lo (c - lo).toNat,?_,λb h=>?_,q]
 .let e1:lo+((0:Nat):Int)*1=lo:=by simp
  let e2:(((c - lo).toNat:Nat):Int) - ((0:Nat):Int)=Yx.Range.rangeSize lo c 1:=by rw[rangeSize_one];split<;>ext
  show adH _ _ (lo+((0:Nat):Int)*1) ((((c - lo).toNat:Nat):Int) - ((0:Nat):Int)) 1;rw[e1,e2];show c5 _ W
 .let e:b=(s.heap.push {cls:=.type "range",data:=.fields #v[.int lo t,.int c u,.int 1 v]}).objs.size:=by simpa using h
  subst e;show g.acT (X6 _) (g.Zl.fresh (X6 _))
def Mf(c:TA):TI:=λa H R=>c a H λd b=>∃j:Int,d=[.int j]/\ -(2^62)<=j/\j<2^62/\R (UW 0 j.toNat) b
def CN(m:Gl X "range")(hm:X.mg "range"=P)(c:PA X [a] C)(l:Yp [a] X.env=[(M,eval a X.env)]:=by rfl):PI X Z (.Call (.Name "range" p) [a] [] pos) (Mf C):=by
 intro b s f H R I h;show Call_ (jX I m hm boot_range (Zs (b9 (c pos b s f H _ I h) λo u #[w,v,n,r1,d]=>?_) l W));let(j,e,d,i,q):=d;subst e;cases r1 with
 |cons r g=>ext g;let(t,rfl):=r;show call_range_1 (F5 n () () d i (by simpa using q))
def Je(d:TI)(g:TG)(c:TS):TS:=λD a H=>d a H λJ f=>∃W:Nat->Nat->St->Hp->Prop,(∃m,W 0 m a f)/\∀i m a H,W i m a H->
 (J.stop i H/\D.nx a H)\/(J.go i H/\∃N:St->Hp->Prop,(∀h j,N h j->∃l,l<m/\W (i+1) l h j)/\∀x j,J.yld i H x j->g x a j λb e=>c {D with nx:=N,ct:=N,bk:=D.nx} b e)
def rP(a:G J)(h:Heap):G (J×Obj):=a.filterMap λb=>(h.get? b).map λo=>(b,o)
theorem j7(a:b∈C)(e:h.get? b=R o):(b,o)∈rP C h:=ZE.mpr #[b,a,by rw[e];rfl]
def Dc(a:p∈rP C h):p.1∈C/\h.get? p.1=R p.2:=by
 let(b,d,e):=ZE.mp a;cases q:h.get? b with
 |none=>rw[q]at e;ext e
 |some o=>rw[q]at e;let f:=Yq e;subst f;show#[d,q]
theorem Inv.pinned(I:Inv X pins σ H s)(i:∀b∈fp,mi X pins H b)(h:∀b∈fp,∃o,s.heap.get? b=R o/\∀v,o.data≠.cell v):Inv X (pins++rP fp s.heap) σ H s:=
 I.aeM λp g=>(Y3.mp g).elim (λz=>I.pin p (YY _ z)) λz=>by let(a,e):=Dc z;let(m,l,j,_):=i p.1 a;let(o,f,d):=h p.1 a;rw[e]at f;ext f;show#[e,m,l,j,d]
theorem Inv.abZ(I:Inv X (pins++pl) σ H s):Inv X pins σ H s:=I.aeM λp a=>I.pin p (YY _ (aez _ a))
def Qd(L:ae9 (model X.prog X.w) X.A X.env X.xe)(c:X.calm=XX)(V:PI X Z iter wi)(hg:PG X Z g)(p:PSs X body tb)
  (k:∀x,foldedSetIterable iter X.env x=pure x:=by intro _;rfl):PS X (.For Z iter body [] pos) (Je wi g tb):=by
 intro j s σ H D I h;show wpAny_For (b9 (V j s σ H _ I h) λv s1 h1=>b9 h1 λitv s2 h2=>?_) k;let(it,O,tn,J,H2,e,I2,T,R,f2,W,(m0,w0),turn):=h2;subst e;let E:∀{z:Hp},(∀b∈O,z b=CL)->∀b∈O,mi X j z b:=λhn b p=>#[hn b p,(f2 b p).2];show codeAny_forLoop_any (λn s'=>∃i w z,Inv X j w z s'/\tn i s'.heap/\(∀b∈O,z b=CL)/\W i n w z) ?_ m0 #[0,σ,H2,I2,R,λb p=>(f2 b p).1,w0];rintro n s3 ⟨i,l,P,I3,G,M,w3⟩;rcases turn i n l P w3 with⟨F,qn⟩|⟨go,N,hN,step⟩
 .show Z6 L (b9 (T.done X rfl rfl rfl c i j s3 l P X.xe I3 (E M) G F) λr s4 #[U,I4]=>?_);subst U;show abL #[l,P,I4,qn]
 .show Z6 L (b9 (T.item X rfl rfl rfl c i j s3 l P X.xe I3 (E M) G go) λr s4 #[u,U,h4]=>?_)
  subst U;show Z6 L (b9 h4 λ_ s5 #[x,H5,I5,r5,y5,C,Y]=>?_);let A:=I5.pinned (E Y) (T.obj _ _ C);show Z6 L (b9 (hg _ s5 l H5 x u _ A r5 (step x H5 y5)) λ_ s6 #[Q,H6,I6,q6]=>?_);show Z6 L (b9 (p _ s6 Q H6 _ I6 q6) λf S B=>?_);let q:∀{a:St} {y:Hp},Inv X (j++rP O s5.heap) a y S->N a y->∃m,m<n/\∃i w z,Inv X j w z S/\tn i S.heap/\(∀b∈O,z b=CL)/\W i m w z:=λ{a y} t K=>by let(m',hm,w7):=hN a y K;show#[m',hm,i+1,a,y,t.abZ,T.keep _ _ _ C λb p o e=>(t.pin (b,o) (YY _ (YY _ (j7 p e)))).1,λb p=>?_,w7];let(o,e,d):=T.obj _ _ C b p;show(t.pin (b,o) (YY _ (YY _ (j7 p e)))).2.1
  cases f with
  |next=>let(a,y,t,K):=B;show q t K
  |cont=>let(a,y,t,K):=B;show q t K
  |brk=>let(a,y,t,B):=B;show#[a,y,t.abZ,B]
  |ret v=>let(x7,a,y,t,r7,B):=B;show#[x7,a,y,t.abZ,r7,B]
end
abbrev R2:=V->V->Hp->VK->Prop
def OpR(X:Cx)(f:T->T->Sem T)(r:R2):Prop:=
 ∀(a:G (J×Obj)) (s:X3) (b:St) (H:Hp) (x y:V) (v u:T) (Q:VK),Inv X a b H s->RelV x v->RelV y u->r x y H Q->
  wpAny (model X.prog X.w) X.A (f v u) (EP X a b Q) X.xe s
def VR(X:Cx)(f:T->Sem T)(r:V->Hp->VK->Prop):Prop:=
 ∀(a:G (J×Obj)) (s:X3) (b:St) (H:Hp) (x:V) (v:T) (Q:VK),Inv X a b H s->RelV x v->r x H Q->
  wpAny (model X.prog X.w) X.A (f v) (EP X a b Q) X.xe s
def ZS(X:Cx)(f:T)(r:G V->Hp->VK->Prop):Prop:=
 ∀(a:G (J×Obj)) (s:X3) (b:St) (H:Hp) (xs:G V) (d:G T) (Q:VK),Inv X a b H s->Vals xs d->r xs H Q->
  wpAny (model X.prog X.w) X.A (call f d) (EP X a b Q) X.xe s
def HX(r:R2)(e c:TE):TE:=λa H Q=>e a H λx d=>c a d λy b=>r x y b Q
def V7(r:V->Hp->VK->Prop)(c:TE):TE:=λa H Q=>c a H λx b=>r x b Q
def rI(C:Int->Int->Prop)(g:Int->Int->V):R2:=λx y H Q=>∃i j,x=.int i/\y=.int j/\C i j/\Q (g i j) H
def wf(g:Int->Int->V):R2:=λx y H Q=>∃i j,x=.int i/\y=.int j/\Q (g i j) H
def rU(g:Int->V):V->Hp->VK->Prop:=λx H Q=>∃i,x=.int i/\Q (g i) H
section
variable{X:Cx}{a b c:Yo}{Z U O:TE}{Y:Pos}
def QN(q:PE X a Z)(l:PE X b U){R:V->V->Hp->Prop}(I:Inv X pins σ H s)
  (h:Z σ H λx H1=>U σ H1 λy k=>R x y k) {f:T->T->Sem T}
  (j:∀v u s2 x y k,Inv X pins σ k s2->RelV x v->RelV y u->R x y k->wpAny (model X.prog X.w) X.A (f v u) Q X.xe s2):
  wpAny (model X.prog X.w) X.A (eval a X.env) (λv p=>wpAny (model X.prog X.w) X.A (eval b X.env) (λu o=>wpAny (model X.prog X.w) X.A (f v u) Q X.xe o) X.xe p) X.xe s:=by
 show b9 (q pins s σ H _ I h) λv d #[x,H1,n,r1,i]=>?_;show b9 (l pins d σ H1 _ n i) λu s2 #[y,k,m,e,g]=>?_;show j v u s2 x y k m r1 e g
def UA(j:OpR X (Zp op) r)(k:PE X a Z)(l:PE X b U):PE X (.BinOp a op b Y) (HX r Z U):=by intro d s e H Q I h;show wpAny_BinOp (QN k l I h λv u f x y n m i g q=>j d f e n x y v u Q m i g q)
def Uo(i:VR X (unaryOp op) r)(k:PE X a Z):PE X (.UnaryOp op a Y) (V7 r Z):=by intro d s e H Q I h;show UnaryOp_ (b9 (k d s e H _ I h) λv f #[x,l,j,r1,g]=>i d f e l x v Q j r1 g)
def RX{g:Int->Int->Int}
  (d:∀(i j:Int) (t u:Tok) (s:X3) (Q:T->X3->Prop) (E:T->X3->Prop),C i j->Q (.int (g i j) s.toks) {s with toks:=s.toks+1}->wpAny (model X.prog X.w) X.A (f (.int i t) (.int j u)) Q E s):
  OpR X f (rI C λi j=>.int (g i j)):=by
 intro e s p H x y v u Q I n m h;let(i,j,rfl,rfl,o,q):=h;let(t,rfl):=n;let(l,rfl):=m;show d i j t l s _ _ o #[.int (g i j),H,I.tok _,#[_,W],q]
def KH{g:Int->Int->Int}
  (d:∀(i j:Int) (t u:Tok) (s:X3) (Q:T->X3->Prop) (E:T->X3->Prop),Q (.int (g i j) s.toks) {s with toks:=s.toks+1}->wpAny (model X.prog X.w) X.A (f (.int i t) (.int j u)) Q E s):
  OpR X f (wf λi j=>.int (g i j)):=by
 intro e s o H x y v u Q I n m h;let(i,j,rfl,rfl,q):=h;let(t,rfl):=n;let(l,rfl):=m;show d i j t l s _ _ #[.int (g i j),H,I.tok _,#[_,W],q]
def QC{g:Int->Int->Bool}
  (d:∀(i j:Int) (t u:Tok) (s:X3) (Q:T->X3->Prop) (E:T->X3->Prop),Q (.bool (g i j)) s->wpAny (model X.prog X.w) X.A (f (.int i t) (.int j u)) Q E s):
  OpR X f (wf λi j=>.bl (g i j)):=by
 intro e s o H x y v u Q I n m h;let(i,j,rfl,rfl,q):=h;let(t,rfl):=n;let(l,rfl):=m;show d i j t l s _ _ #[.bl (g i j),H,I,W,q]
def HE(i j:Int):Prop:=0<=j/\j<=1000000/\i.natAbs<2^64
def ags(i j:Int):Prop:=(-(2^64)<i/\i<2^64)\/(-(2^64)<j/\j<2^64)
def ags.ok(h:ags i j):IntMulOk i j:=by
 rcases h with⟨e,d⟩|⟨e,d⟩
 .show .of_left (al4 e d)
 .show .of_right (al4 e d)
def two_pow_nn(k:Nat):(0:Int)<=2^k:=by rw[two_pow_cast];show Int.natCast_nonneg _
theorem QO:OpR X (Zp .Add) (wf λi j=>.int (i+j)):=KH λ_ _ _ _ _ _ _ q=>add_int q
theorem Rn:OpR X (Zp .Sub) (wf λi j=>.int (i - j)):=KH λ_ _ _ _ _ _ _ q=>sub_int q
theorem O8:OpR X (Zp .Mult) (rI ags λi j=>.int (i*j)):=RX λ_ _ _ _ _ _ _ d q=>mul_int q d.ok
theorem NT:OpR X (Zp .Mod) (rI (λ_ j=>0<j) λi j=>.int (i % j)):=RX λi j _ _ _ _ _ d q=>by let e:(0:Int)<j:=d;show mod_int' () (by rw[Int.fmod_eq_emod_of_nonneg i ()];show q)
theorem NO:OpR X (Zp .Pow) (rI HE λi j=>.int (i^j.toNat)):=RX λ_ _ _ _ _ _ _ d q=>pow_int_small d.1 d.2.1 d.2.2 q
theorem OE:OpR X (Zp .LShift) (rI HE λi j=>.int (i*2^j.toNat)):=RX λ_ _ _ _ _ _ _ d q=>lshift_int_small d.1 d.2.1 d.2.2 q
theorem Ry:OpR X (Zp .RShift) (rI (λ_ j=>0<=j) λi j=>.int (i/2^j.toNat)):=RX λi j _ _ _ _ _ d q=>
 rshift_int d (by rw[adb i (two_pow_nn _)];show q)
theorem Rh:OpR X (Zp .BitAnd) (wf λi j=>.int (Yx.bitAnd i j)):=KH λ_ _ _ _ _ _ _ q=>and_int q
theorem Ty:OpR X (Zp .BitOr) (wf λi j=>.int (Yx.bitOr i j)):=KH λ_ _ _ _ _ _ _ q=>or_int q
def WL{g:Int->Int}
  (d:∀(i:Int) (t:Tok) (s:X3) (Q:T->X3->Prop) (E:T->X3->Prop),Q (.int (g i) s.toks) {s with toks:=s.toks+1}->wpAny (model X.prog X.w) X.A (f (.int i t)) Q E s):
  VR X f (rU λi=>.int (g i)):=by
 intro e s l H x v Q I j h;let(i,rfl,q):=h;let(t,rfl):=j;show d i t s _ _ #[.int (g i),H,I.tok _,#[_,W],q]
theorem P6:VR X (unaryOp .USub) (rU λi=>.int (-i)):=WL λ_ _ _ _ _ q=>neg_int q
end
section
variable{X:Cx}{a b c:Yo}{Y Z T:TE}{U:Pos}
def u7(I:Inv X pins σ H s)(q:Q (.bl k) H)(e:k=o):EP X pins σ Q (.bool o) s:=by subst e;show#[.bl k,H,I,W,q]
theorem SR:OpR X (Y9 .Lt) (wf λi j=>.bl (decide (i<j))):=QC λ_ _ _ _ _ _ _ q=>lt_int q
theorem Ui:OpR X (Y9 .LtE) (wf λi j=>.bl (decide (i<=j))):=QC λ_ _ _ _ _ _ _ q=>le_int q
theorem Tz:OpR X (Y9 .Gt) (wf λi j=>.bl (decide (j<i))):=QC λ_ _ _ _ _ _ _ q=>gt_int q
def Cn:OpR X (Y9 .In) (λx y H Q=>∃i j,x=.str i/\y=.str j/\Q (.bl (!(Yx.Str.occurrences j i 0 j.length 1).isEmpty)) H):=by intro d s g H x y v u Q I f e h;let(i,j,rfl,rfl,q):=h;let(t,rfl):=f;let(l,rfl):=e;show in_str (u7 I q W)
def RH:OpR X (Y9 .Is) (λx y H Q=>y=.non/\Q (.bl (decide (x=.non))) H):=by
 intro e s g H x y v u Q I d f h;let(rfl,q):=h;ext f;show is_none_gen (u7 I q ?_);ext x<;>first
  |(ext d;rfl)
  |(let(t,rfl):=d;rfl)
def KJ:OpR X (Y9 .IsNot) (λx y H Q=>y=.non/\Q (.bl (!decide (x=.non))) H):=by
 intro e s g H x y v u Q I d f h;let(rfl,q):=h;ext f;show isnot_none_gen (u7 I q ?_);ext x<;>first
  |(ext d;rfl)
  |(let(t,rfl):=d;rfl)
def Lb{op:ae8}{r:R2}(j:OpR X (Y9 op) r)(k:PE X a Y)(l:PE X b Z)(hm:behindInMarks op b=M):PE X (.Compare a [op] [b] U) (HX r Y Z):=by intro d s e H Q I h;show aka (QN k l I h λv u f x y n m i g q=>j d f e n x y v u Q m i g q) hm
def tY(t:TE):TT:=λd H Q=>t d H λx e=>∃k,x=.bl k/\Q k e
def IZ(p:OpR X (Y9 op) r)(D:PE X a Y)(q:PE X b Z)(hm:behindInMarks op b=M):PT X (.Compare a [op] [b] U) (tY (HX r Y Z)):=by
 intro d s f H Q I h;show af4 (b9 (D d s f H _ I h) λv i #[x,E,A,r1,o]=>b9 (q d i f E _ A o) λu g #[y,C,w,l,n]=>
  b9 (p d g f C x y v u _ w r1 l n) λc F #[z,B,t,j,k,e,m]=>?_) hm
 subst e;ext j;show Zd #[B,t,m]
def yC(r g:R2)(Y Z T:TE):TE:=λd H Q=>Y d H λx j=>Z d j λy i=>r x y i λz e=>∃k,z=.bl k/\
 (if k=S then T d e λf h=>g y f h Q else Q (.bl M) e)
def GL(J:OpR X (Y9 op) r)(i:OpR X (Y9 op') r')(D:PE X a Y)(L:PE X b Z)(K:PE X c T)
  (hm:lastMarks [op,op'] [b,c]=XZ:=by with_unfolding_all rfl):PE X (.Compare a [op,op'] [b,c] U) (yC r r' Y Z T):=by
 intro f s g H Q I h;show Compare_chain (b9 (D f s g H _ I h) λv A #[x,S1,O,r1,G]=>chain_link (b9 (L f A g S1 _ O G) λu w #[y,R1,N,j,F]=>
  b9 (J f w g R1 x y v u _ N r1 j F) λd t #[z,n,m,C,k,e,l]=>?_)) hm
 subst e;ext C;show Zd ?_;cases k with
 |false=>show ite_ff #[.bl XZ,n,m,W,l]
 |true=>show ite_tt (chain_last (b9 (K f t g n _ m l) λp q #[o,Pz0,Mz0,B,E]=>i f q g Pz0 y o u p Q Mz0 j B E))
def ET(M:OpR X (Y9 op) r)(i:OpR X (Y9 op') r')(D:PE X a Y)(O:PE X b Z)(N:PE X c T)
  (hm:lastMarks [op,op'] [b,c]=XZ:=by with_unfolding_all rfl):PT X (.Compare a [op,op'] [b,c] U) (tY (yC r r' Y Z T)):=by
 intro f s g H Q I h;show isTrue_chain (b9 (D f s g H _ I h) λv A #[x,H1,I1,r1,K]=>test_link (b9 (O f A g H1 _ I1 K) λu w #[y,H2,I2,j,J2]=>
  b9 (M f w g H2 x y v u _ I2 r1 j J2) λd t #[z,n,m,E,k,e,l]=>?_)) hm
 subst e;ext E;show Zd ?_;cases k with
 |false=>let(k',P,L):=l;ext P;show ite_ff #[n,m,L]
 |true=>show ite_tt (test_last (b9 (N f t g n _ m l) λp q #[o,H4,S1,C,G]=>b9 (i f q g H4 y o u p _ S1 j C G) λd' s5 #[z2,H5,R1,B,k2,e2,F]=>?_));subst e2;ext B;show Zd #[H5,R1,F]
def oI:(Yc:Nat)<2^63:=by rw[abj];decide
def yD:OpR X (Zp .Add) (λx y H Q=>∃i j,x=.str i/\y=.str j/\i.length+j.length<=Yc/\Q (.str (i++j)) H):=by intro d s m H x y v u Q I g f h;let(i,j,rfl,rfl,l,q):=h;let(t,rfl):=g;let(e,rfl):=f;show add_str (λe n=>#[.str (i++j),H,I.tok _,#[_,W],q]) l
def gu(r:Vals [x] us):∃u,us=[u]/\RelV x u:=by
 cases r with
 |cons r1 d=>ext d;show#[_,W,r1]
def Nd(r:Vals [x,y] us):∃u g,us=[u,g]/\RelV x u/\RelV y g:=by
 cases r with
 |cons r1 f=>
  cases f with
  |cons e d=>ext d;show#[_,_,W,r1,e]
def CD:ZS X (.type "int") (λxs H Q=>(∃i,xs=[.int i]/\Q (.int i) H)\/∃k,xs=[.bl k]/\Q (.int (if k then 1 else 0)) H):=by
 intro d s e H xs f Q I r h;rcases h with⟨i,rfl,q⟩|⟨k,rfl,q⟩
 .let(u,rfl,t,rfl):=gu r;show call_int_int #[.int i,H,I,#[_,W],q]
 .let(u,rfl,r1):=gu r;ext r1;show call_int_bool #[.int (if k then 1 else 0),H,I.tok _,#[_,W],q]
def uA:ZS X (.type "str") (λxs H Q=>∃i,xs=[.int i]/\i.natAbs.log2<1920/\Q (.str (toString i)) H):=by intro d s f H xs g Q I r h;let(i,rfl,e,q):=h;let(u,rfl,t,rfl):=gu r;show PySem.P.str_of_int e #[.str _,H,I.tok _,#[_,W],q]
def P5(K:lD)(x:V)(H:Hp)(n:Nat):Prop:=
 match x with
 |.str y=>y.length<=Yc/\n=y.length
 |.byt y=>y.size<=Yc/\n=y.size
 |.ref p=>(∃xs,SqL K H p xs/\n=xs.length)\/∃xs,SqT K H p xs/\n=xs.length
 |_=>False
def xB:ZS X (.builtin "len") (λxs H Q=>∃x n,xs=[x]/\P5 X.K x H n/\Q (.int n) H):=by
 intro l s w H xs z Q I r h;let(x,n,rfl,e,q):=h;let(u,rfl,g):=gu r;let B:=oI;let A:=abj;cases x with
 |str y=>let(t,rfl):=g;let(o,f):=e;subst f;show len_str () #[.int _,H,I.tok _,#[_,W],q]
 |byt y=>let(t,rfl):=g;let(o,f):=e;subst f;show PySem.W.len_bytes () #[.int _,H,I.tok _,#[_,W],q]
 |ref p=>
  ext g;let f:=e;rcases f with⟨xs,j,f⟩|⟨xs,j,f⟩
  .subst f;let(v,i,pl,m):=I.list j;let d:=i.length;show Calls.call_len_list pl.isList (by simp only[Yd];ext) #[.int xs.length,H,I.tok _,#[_,by simp only[Yd];rw[d]],q]
  .subst f;let(v,i,pl,m):=I.tuple j;let d:=i.length;show len_tuple pl (by simp only[Yd];ext) #[.int xs.length,H,I.tok _,#[_,by simp only[Yd];rw[d]],q]
 |_=>show(show False from e).elim
end
structure aer(h:Heap)(x dx C:J)(mA:Str->z T):Prop where
 obj:h.get? x=R (ZG C dx)
 ns:h.Ns1 dx mA
 ne:dx≠x
def Cq{h:Heap}(n:h.Ns1 I C):∃c,h.get? I=R c/\∀name,abo name c=R (C name):=by
 let(o,es,l,f,i,g,_,hm):=n;show#[o,f,λname=>?_];let e:=hm name;unfold nsFind findBy at e;rw[<-Array.find?_toList]at e;ext abo;rw[i];dsimp only;split
 .rename_i y q;rw[q]at e;show d6 R e
 .rename_i q
  rw[q]at e;let a:es.toList.any (·.refKey)=M:=by rw[List.any_eq_false];intro y d;let(z,t,b):=g y (Array.mem_toList_iff.mp d);simp[acf.refKey,b]
  let j:¬es.toList.any (·.refKey)=S:=by rw[a];show X7
  rw[a6 j];show d6 R e
theorem aer.look(I:aer h x dx C mA):∃a,PySem.W.InstAt h x (ZG C dx) C (R a)/\∀name,abo name a=R (mA name):=
 let#[a,b,d]:=Cq I.ns
 #[a,#[I.obj,W,W,b],d]
section
variable{O:Yr}{w:YJ}{A:YC}{E:XY->X3->Prop}{s:X3}{K:lD}{x Y C f:X5}{Z:Str->ck XY}{U:Str}{v:XY}
def Jk(X:K.In s.heap)(I:aer s.heap x Y C Z)(g:aau K C U=S)(e:aaR K C=S)
  (c:YZ K (.ref C) U=R P) (b:Z U=R v) (a:aeQ v=S) (h:Q v {s with toks:=s.toks+1}):
  wpAny (model O w) A (getAttr (.ref x) U expr) Q E s:=by
 let(i,J,d):=I.look;show PySem.W.get_value X J (abC g).1 (PySem.W.findObj_own e c W (by rw[d,b])) a h
def GB(X:K.In s.heap)(I:aer s.heap x Y C Z)(a:aau K C U=S)
  (i:YZ K (.ref C) U=R (R (.ref f))) (e:abS K (.ref f)=S) (d:Z U=P) (h:Q (.ref f,[.ref x]) s):
  wpAny (model O w) A (getMethod (.ref x) U pl) Q E s:=by
 let(b,J,g):=I.look;show PySem.W.method_fn X J (abC a).1 (abC a).2 i (beq_iff_eq.mp e) (by show(abo U b).map (·.isSome)=R M;rw[g,d];rfl) h
def J7(X:K.In s.heap)(I:aer s.heap x Y C Z)
  (o:YZ K (.ref C) "__setattr__"=R (R (.builtin "object.__setattr__"))) (p:abT K C=S) (n:acj K C U=R P) (q:aaR K C=S)
  (m:adP Z ns) (k:ns.length<=Yc)
  (h:∀c,aer c x Y C (λy=>if y=U then R v else Z y)->Heap.SameBut Y s.heap c->Q ⟨⟩ {s with heap:=c,toks:=s.toks+2}):
  wpAny (model O w) A (setAttr (.ref x) U v) Q E s:=by
 let(z,J,F):=I.look;show PySem.W.set_plain X J o (PySem.W.osa_open X J p n λb=>?_);let(G,r,i):=PySem.W.any_some q;let l:=I.obj;show XW (X8 (XW (XW (wpAny_loadPart l (XW (aim (PySem.W.looks_clsIn X r) ?_))))));rw[i];show X8 (XW (X8 (XW ?_)));show wpAny_nsSet1 I.ns λc d a=>?_;let(B,t,u,e,g,j):=d.count (ajj U v m);show XW (wpAny_lookBehind e (by rw[g];show pastItsLine_dict (YN j (by rw[Yf];ext))) ?_);show X8 (h _ #[(a.2 _ (d0 I.ne)).trans I.obj,d,I.ne] a)
def Fg{R:aef->X3->Prop}{c:G T}{b:G (Str×T)}(X:K.In s.heap)(hm:ack K C=S)
  (k:YZ K (.ref C) "__init__"=cL (cL (.ref f))) (e:PySem.W.typeIn K (.ref f)=cL (.type "function"))
  (h:codeAny (model O w) (A.under (.builtin "type.__call__" #[.ref C::c,b])) (.call (.ref f) #[.ref (s.heap.objs.size+1)::c,b]) (PySem.W.InitBack (s.heap.objs.size+1) R)
   {s with heap:=(s.heap.push Zk).push (ZG C s.heap.objs.size)}):
  codeAny (model O w) A (.call (.ref C) #[c,b]) R s:=by
 let(j,g,d,t,i):=s;show PySem.W.make_core (PySem.W.makes_of X hm) (PySem.W.looks_findIn X k) (λa=>PySem.W.bind_fn X a e) (.inl W) h
end
def jM(f:Str)(v:V):G (Str×V)->G (Str×V)
 |[]=>[(f,v)]
 |(g,x)::r=>if g=f then(g,v)::r else(g,x)::jM f v r
theorem oX(f g:Str)(v:V):∀fs:G (Str×V),(jM f v fs).lookup g=if g=f then R v else fs.lookup g
 |[]=>by
  show aao g [(f,v)]=_;by_cases h:g=f
  .let a:=beq_iff_eq.mpr h;simp only[aao,a,ax h]
  .let a:=beq_eq_false_iff_ne.mpr h;simp only[aao,a,a6 h]
 |(k,x)::r=>by
  let d:=oX f g v r;rw[show jM f v ((k,x)::r)=(if k=f then(k,v)::r else(k,x)::jM f v r)from rfl];by_cases b:k=f
  .rw[ax b]
   by_cases h:g=k
   .let a:=beq_iff_eq.mpr h;simp only[aao,a,ax (h.trans b)]
   .let a:=beq_eq_false_iff_ne.mpr h;simp only[aao,a,a6 (λe:g=f=>h (e.trans b.symm))]
  .rw[a6 b]
   by_cases h:g=k
   .let a:=beq_iff_eq.mpr h;simp only[aao,a,a6 (λe:g=f=>b (h.symm.trans e))]
   .let a:=beq_eq_false_iff_ne.mpr h;simp only[aao,a];show d
theorem oi(f:Str)(v:V):∀fs:G (Str×V),f∈(jM f v fs).map (·.1)/\∀g,g∈fs.map (·.1)->g∈(jM f v fs).map (·.1)
 |[]=>#[by simp[jM],λg h=>by simp at h]
 |(k,x)::r=>by
  let(d,b):=oi f v r;rw[show jM f v ((k,x)::r)=(if k=f then(k,v)::r else(k,x)::jM f v r)from rfl];by_cases a:k=f
  .rw[ax a];subst a;show#[by simp,λg h=>by simpa using h]
  .rw[a6 a]
   show#[?_,λg h=>?_]
   .rw[Yi];show Ya _ d
   .rw[Yi]at h⊢
    rcases Yg.mp h with e|e
    .show Yg.mpr (.inl e)
    .show Ya _ (b g e)
theorem oY(f:Str)(v:V):∀fs:G (Str×V),(jM f v fs).length<=fs.length+1
 |[]=>by simp[jM]
 |(k,x)::r=>by
  let b:=oY f v r;rw[show jM f v ((k,x)::r)=(if k=f then(k,v)::r else(k,x)::jM f v r)from rfl];by_cases a:k=f
  .rw[ax a,Yf,Yf];ext
  .rw[a6 a,Yf,Yf];ext
def abw.some_of(r:abw (R v) o):∃u,o=R u/\RelV v u:=by
 cases o with
 |none=>show(show False from r).elim
 |some u=>show#[u,W,r]
def abw.none_of(r:abw P o):o=P:=by
 cases o with
 |none=>rfl
 |some u=>show(show False from r).elim
def BS(r:RelV v u):aeQ u=S:=by
 cases v with
 |non=>cases(show u=XY.none from r);rfl
 |bl b=>cases(show u=XY.bool b from r);rfl
 |int i=>let(t,e):=(show∃t,u=XY.int i t from r);ext e;rfl
 |str x=>let(t,e):=(show∃t,u=XY.str x t from r);ext e;rfl
 |byt b=>let(t,e):=(show∃t,u=XY.bytes b t from r);ext e;rfl
 |flt b=>let(t,e):=(show∃t,u=XY.float b t from r);ext e;rfl
 |ref a=>cases(show u=XY.ref a from r);rfl
 |ty n=>cases(show u=XY.type n from r);rfl
section
variable{P:Yr}{w:YJ}{H X:Hp}{h U:Heap}{a C Z:X5}{fs Y:cc (Str×V)}
def uO(Zl:HOk P w H h)(e:H a=R (.ins C Z fs)):∃c,aer h a Z C c/\(∀f,abw (fs.lookup f) (c f))/\adP c (fs.map (·.1))/\fs.length<=1000/\H Z=R (.own a):=by let(d,z,ne,b,c,n,r,q):=(show ObjOk P w H h a (.ins C Z fs)from Zl a _ e);show#[c,#[b,n,ne],r,q,z,d]
end
structure Cls(K:lD)(C:J):Prop where
 pg:aau K C Str.empty=S
 hd:aaR K C=S
 po:abT K C=S
 sa:YZ K (.ref C) "__setattr__"=R (R (.builtin "object.__setattr__"))
theorem Cls.get{K:lD}(c:Cls K C)(f:Str):aau K C f=S:=c.pg
def abx(K:lD)(C:J)(f:Str):Prop:=YZ K (.ref C) f=R P
def abx.aiR{K:lD}(n:abx K C f):acj K C f=R P:=by ext acj;rw[show YZ K (.ref C) f=R P from n];rfl
structure Con(K:lD)(C:J)(f:Str)(v:V)(u:T):Prop where
 at_:YZ K (.ref C) f=R (R u)
 rel:RelV v u
 get:aeA K u "__get__"=R P
 cp:PySem.W.copiedNames.contains f=M
structure Meth(K:lD)(C:J)(m:Str)(f:J):Prop where
 at_:YZ K (.ref C) m=R (R (.ref f))
 fn:abS K (.ref f)=S
 kp:ZR K (.ref f)=S
section
variable{X:Cx}{Z:cc (X5×Obj)}{Y:St}{H:Hp}{s:X3}{a C U:X5}{fs:cc (Str×V)}{f:Str}{v:V}{A:YC}{E:XY->X3->Prop}
def yg(I:Inv X Z Y H s)(e:H a=R (.ins C U fs))(c:Cls X.K C)(n:abx X.K C f)(l:fs.lookup f=R v)
  (h:∀u j,Inv X Z Y H j->RelV v u->Q u j):wpAny (model X.prog X.w) A (getAttr (.ref a) f b) Q E s:=by
 let(i,O,r,_,_,_):=uO I.Zl e;let(u,g,d):=abw.some_of (by rw[<-l];show r f);show Jk I.kIn O (c.get f) c.hd n g (BS d) (h u _ (I.tok _) d)
def rR(I:Inv X Z Y H s)(e:H a=R (.ins C U fs))(c:Cls X.K C)(k:Meth X.K C m g)(l:fs.lookup m=P)
  (h:Q (.ref g,[.ref a]) s):wpAny (model X.prog X.w) A (getMethod (.ref a) m pl) Q E s:=by
 let(b,O,r,_,_,_):=uO I.Zl e;let d:=abw.none_of (by rw[<-l];show r m);show GB I.kIn O (c.get m) k.at_ k.fn d h
def yi(I:Inv X Z Y H s)(e:H a=R (.ins C U fs))(c:Cls X.K C)(n:abx X.K C f)(L:fs.length<1000)(p:RelV y u)
  (h:∀k,Inv X Z Y (bj H a (.ins C U (jM f y fs))) k->Q ⟨⟩ k):wpAny (model X.prog X.w) A (setAttr (.ref a) f u) Q E s:=by
 let(j,O,r,i,_,l):=uO I.Zl e;let t:(fs.map (·.1)).length<=Yc:=by rw[X4,abj];ext
 show J7 I.kIn O c.sa c.po n.aiR c.hd i t λJ d m=>h _ ?_;let F:∃o,J.get? U=R o:=let#[o,_,_,w,_]:=d.ns;#[o,w]
 show I.write (by rw[e];show True.intro) (.inr l) (λb q G z=>(m.2 b G).trans z) F ?_;show#[by rw[aQ O.ne];show l,?_,O.ne,d.obj,_,d.ns,λg=>?_,λg B=>?_]
 .let:=oY f y fs;ext
 .show abw ((jM f y fs).lookup g) (if g=f then R u else j g)
  rw[oX];by_cases q:g=f
  .rw[ax q,ax q];show p
  .rw[a6 q,a6 q];show r g
 .by_cases q:g=f
  .rw[q];show(oi f y fs).1
  .show(oi f y fs).2 g (i g λz=>B ?_);show(if g=f then R u else j g)=P;rw[a6 q];show z
def Inv.made(I:Inv X Z Y H s):Inv X Z Y (bj (bj H s.heap.objs.size (.own (s.heap.objs.size+1))) (s.heap.objs.size+1) (.ins C s.heap.objs.size []))
  {s with heap:=(s.heap.push Zk).push (ZG C s.heap.objs.size)}:=by
 let e1:(s.heap.push Zk).get? s.heap.objs.size=R Zk:=c5 s.heap W;let e2:((s.heap.push Zk).push (ZG C s.heap.objs.size)).get? (s.heap.objs.size+1)=R (ZG C s.heap.objs.size):=by let:=c5 (s.heap.push Zk) (o:=ZG C s.heap.objs.size) W;rwa [dg]at this
 let e3:(s.heap.push Zk).Ns s.heap.objs.size (λ_=>P):=#[Zk,#v[],_,e1,W,(λe g=>b4 g (by simp)),λ_=>W];let h:=I.laid (a:=s.heap.objs.size) (o:=.own (s.heap.objs.size+1)) (h':=s.heap.push Zk) (t':=s.toks) (λb u q=>cn _ q) (X6 _) #[_,e1];show h.laid (a:=s.heap.objs.size+1) (o:=.ins C s.heap.objs.size []) (t':=s.toks) (λb u q=>cn _ q) (ain (dg _ _)) ?_;let ne:s.heap.objs.size≠s.heap.objs.size+1:=Yk (ZU _);show#[by rw[aQ ne,aI],Zj _,ne,e2,λ_=>P,(Heap.Ns1.of_empty e3).at λo q=>cn _ q,λ_=>True.intro,λy d=>b4 W d]
theorem IP{prog:Yr}{w:YJ}{env:Env}{e:Yo}{f:Str}{b:Pos}{s:X3}{Q:T->X3->Prop}(d:attributeBase e f env (eval e env)=eval e env)
  (h:wpAny (model prog w) A (eval e env) (λo c=>wpAny (model prog w) A (getAttr o f S) Q E c) E s):wpAny (model prog w) A (eval (.Attribute e f b) env) Q E s:=
 Attribute_any_ h (by rw[arm_eval_Attribute,d])
end
def S9(K:lD)(c:TE)(f:Str):TE:=λd H Q=>c d H λx b=>∃a C e fs v,x=.ref a/\b a=R (.ins C e fs)/\Cls K C/\abx K C f/\fs.lookup f=R v/\Q v b
def SS(K:lD)(c e:TE)(f:Str):TS:=λD b H=>e b H λy g=>c b g λx d=>∃a C h fs,x=.ref a/\d a=R (.ins C h fs)/\Cls K C/\abx K C f/\fs.length<1000/\
 D.nx b (bj d a (.ins C h (jM f y fs)))
section
variable{X:Cx}{o e Z:Yo}{f:Str}{U Y N:Pos}{T O:TE}
def Rz(j:PE X e T)(m:attributeBase e f X.env (eval e X.env)=eval e X.env):PE X (.Attribute e f U) (S9 X.K T f):=by intro b s d H Q I h;show IP m (b9 (j b s d H _ I h) λu B #[x,y,w,g,a,C,E,fs,v,p,r,c,n,l,q]=>?_);subst p;obtain rfl:=g;show yg w r c n l λz A t i=>#[v,y,t,i,q]
def Qi(k:PE X o T)(p:PE X Z O)(r:aaw Z (R (.Attribute o f Y)) U.line X.env=pure M):PS X (.Assign [.Attribute o f Y] Z U) (SS X.K T O f):=by intro b s d H D I h;show plainObj_wpAny_Assign_Attribute (b9 (p b s d H _ I h) λu g #[y,B,A,i,q]=>b9 (k b g d B _ A q) λG F #[x,K,z,j,a,C,L,fs,t,v,c,n,l,m]=>?_) r;subst t;obtain rfl:=j;show yi z v c n l i λE w=>#[d,_,w,m]
end
section
variable{X:Cx}{Z:cc (X5×Obj)}{Y:St}{H:Hp}{s:X3}{A:YC}{E:XY->X3->Prop}{Q:XY->X3->Prop}{c:XY}{b:Bool}
inductive acI(K:lD)(H:Hp):V->T->Prop where
 |non:acI K H .non (.type "NoneType")
 |bl (x:Bool):acI K H (.bl x) (.type "bool")
 |int (i:Int):acI K H (.int i) (.type "int")
 |str (x:Str):acI K H (.str x) (.type "str")
 |flt (x:UInt64):acI K H (.flt x) (.type "float")
 |lst {a:J} {xs:G V} (e:H a=R (.lst xs)):acI K H (.ref a) (.type "list")
 |frz {a:J} {o:Obj} {xs:G V} (e:H a=R (.frz o (.lst xs))):acI K H (.ref a) (.type "list")
 |tup {a:J} {xs:G V} (e:H a=R (.tup xs)):acI K H (.ref a) (.type "tuple")
 |dK {a:J} {YA:G (cE×V)} (e:H a=R (.dK YA)):acI K H (.ref a) (.type "dict")
 |dT {a:J} {YA:G (G cE×V)} (e:H a=R (.dT YA)):acI K H (.ref a) (.type "dict")
 |ins {a C dx:J} {fs:G (Str×V)} (e:H a=R (.ins C dx fs)) (cl:Cls K C) (ha:YZ K (.ref C) "__class__"=R (R (.builtin "object.__class__")))
   (hn:aeA K (.builtin "object.__class__") "__get__"=R (R (.builtin "getset_descriptor.__get__"))) (htk:PySem.W.takesIn K (.builtin "object.__class__")=R S)
   (hm:PySem.W.mroIn K C (.type "object")=R S):acI K H (.ref a) (.ref C)
end
structure ZN(k:Nat)(A:YC):Prop where
 hd:A.handled=P
 dp:A.depth+3*k+5<recursionLimit
 un:A.units+16*k+200<cLine
theorem ZN.mono(r:ZN k A)(h:j<=k):ZN j A:=#[r.hd,by let:=r.dp;ext,by let:=r.un;ext]
theorem ZN.deeper(r:ZN (k+1) A)(env:Env):ZN k (A.deeper env):=
 #[r.hd,by let:=r.dp;show A.depth+1+3*k+5<_;ext,by let:=r.un;show A.units+3+16*k+200<_;ext]
def yO{A:YC}:(A.under (.builtin "type.__call__" #[.ref C::us,kw])).depth=A.depth+1:=by
 first|rfl|simp[YC.under,aeR.weight,aeR.isCreation,aeR.isGuard,aeR.isCaller,aeR.frames,aeR.isFrame,guardIds]
def yI{A:YC}:(A.under (.builtin "type.__call__" #[.ref C::us,kw])).units=A.units+1:=by
 first|rfl|simp[YC.under,aeR.cUnits,aeR.frames,aeR.isFrame]
theorem ZN.make(r:ZN (k+1) A)(C:J)(us:G T)(a:G (Str×T)):ZN k (A.under (.builtin "type.__call__" #[.ref C::us,a])):=
 #[r.hd,by let:=r.dp;rw[yO];ext,by let:=r.un;rw[yI];ext]
def ZN.depth(r:ZN k A):A.depth<recursionLimit:=by let:=r.dp;ext
def ZN.units(r:ZN k A):A.units+64<cLine:=by let:=r.un;ext
def jx:TA:=λ_ H Q=>Q [] H
def g7(c:TE)(b:TA):TA:=λa H Q=>c a H λx e=>b a e λxs d=>Q (x::xs) d
section
variable{X:Cx}{e:Yo}{es:cc Yo}{Y:TE}{t:TA}{Z:Pos}
theorem oS:PA X [] jx:=λ_ _ _ _ H Q I h=>Calls.spliced_nil #[[],H,I,.nil,h]
def kj(c:PE X e Y)(l:PA X es t)(j:Yp (e::es) X.env=(M,eval e X.env)::Yp es X.env:=by rfl):PA X (e::es) (g7 Y t):=by intro Z a s b H Q I h;rw[j];show Calls.spliced_cons (b9 (c a s b H _ I h) λu d #[x,p,n,r1,i]=>?_);show b9 (l Z a d b p _ n i) λq r #[xs,o,m,f,g]=>#[x::xs,o,m,.cons r1 f,g]
def IW(t:TA):TE:=λb H Q=>t b H λxs a=>xs.length<=Yc/\∀p,a p=P->Q (.ref p) (bj a p (.tup xs))
def Rr(t:TA):TE:=λb H Q=>t b H λxs a=>xs.length<=Yc/\∀p,a p=P->Q (.ref p) (bj a p (.lst xs))
def P9{c}(h:PA X es t):PE X (.Tuple es c Z) (IW t):=by intro a s g H Q I j;show wpAny_Tuple_spliced (b9 (h Z a s g H _ I j) λi d #[xs,m,f,r,z,q]=>#[by rw[<-r.length];show z,?_]);let l:=f.Zl.fresh (X6 _);show#[.ref d.heap.objs.size,bj m d.heap.objs.size (.tup xs),f.laid (λb u e=>cn _ e) (X6 _) ?_,W,q _ l];show#[z,i,r,#[_,c5 _ W,#[W,_,W],W]]
def PP(h:PA X es t):PE X (.List es Z) (Rr t):=by intro a s g H Q I j;show wpAny_List_spliced (b9 (h Z a s g H _ I j) λi d #[xs,m,f,r,z,q]=>#[by rw[<-r.length];show z,?_]);let l:=f.Zl.fresh (X6 _);show#[.ref d.heap.objs.size,bj m d.heap.objs.size (.lst xs),f.laid (λb u e=>cn _ e) (X6 _) ?_,W,q _ l];show#[z,i,0,r,c5 _ W]
end
abbrev Sp:=G V->Hp->VK->XK->Prop
abbrev we:=G Env->Hp->X3->XK->T->X3->Prop
structure Env0(P:Yr)(w:YJ)(K:lD)(mg:Str->z T)(base:Heap)(A:YC)(outer:G Env)(s:X3)(H:Hp):Prop where
 frames:A.frames=R outer
 mod:Mod K mg base
 bs:∀b o,base.get? b=R o->s.heap.get? b=R o/\H b=CL
 bsz:base.objs.size<=s.heap.objs.size
 acd:s.heap.FunFrames base outer
 frf:∀b∈zj outer,H b=CL
 Zl:HOk P w H s.heap
 bare:AllBare s.gens
def CE(outer:G Env)(P:Yr)(w:YJ)(H:Hp)(s:X3)(Q:VK)(u:T)(a:X3):Prop:=
 ∃v b,a.os=s.os/\AllBare a.gens/\Un (zj outer) [] H b s.heap a.heap/\HOk P w b a.heap/\RelV v u/\Q v b
def CR(b:we)(outer:G Env)(P:Yr)(w:YJ)(H:Hp)(s:X3)(Q:VK)(E:XK)(r:aef)(a:X3):Prop:=
 match r with
 |.ok (.ret u)=>CE outer P w H s Q u a
 |.ok _=>False
 |.error e=>b outer H s E e a
structure FnOk(P:Yr)(w:YJ)(K:lD)(mg:Str->z T)(base:Heap)(CX:we)(k:Nat)(f:J)(fd:Zq)(ps:G Str)(sp:Sp):Prop where
 len:∀vs H Q E,sp vs H Q E->vs.length=ps.length
 run:∀(A:YC) (outer:G Env) (s:X3) (H:Hp) (args:Args) (us:G T) (vs:G V) (Q:VK) (E:XK),ZN k A->Env0 P w K mg base A outer s H->acg s fd args (ps.zip us)->Vals vs us->sp vs H Q E->
  codeAny (model P w) A (.call (.ref f) args) (CR CX outer P w H s Q E) s
theorem FnOk.imp{P:Yr}{w:YJ}{K:lD}{r:Str->z T}{base:Heap}{g:we}{k:Nat}{f:J}{e:Zq}{p:G Str}{sp b:Sp}(F:FnOk P w K r base g k f e p sp)
  (h:∀c H Q E,b c H Q E->sp c H Q E):FnOk P w K r base g k f e p b:=
 #[λc H Q E q=>F.len c H Q E (h _ _ _ _ q),λA a s H d i c Q E m n o j l=>F.run A a s H d i c Q E m n o j (h _ _ _ _ l)]
theorem Env0.make{K:lD}(e:Env0 b w K mg base A outer s H)(C:J)(us:G T)(a:G (Str×T)):
  Env0 b w K mg base (A.under (.builtin "type.__call__" #[.ref C::us,a])) outer s H:=#[by first|show e.frames|(simpa [YC.under,aeR.envs,aeR.isFrame,pushEnvs]using e.frames),e.mod,e.bs,e.bsz,e.acd,e.frf,e.Zl,e.bare]
section
variable{X:Cx}{Z:cc (X5×Obj)}{Y:St}{H:Hp}{s U:X3}
theorem Inv.ai8(I:Inv X Z Y H s):Env0 X.prog X.w X.K X.mg X.base X.A X.stack s H:=
 #[I.ok.frames,I.ok.mod,I.bs,YN I.ok.bsz I.sz,I.stack,I.ads,I.Zl,I.bare]
def Inv.after{Q:VK}{u:T}(I:Inv X Z Y H s)(h:CE X.stack X.prog X.w H s Q u U):EP X Z Y Q u U:=by let(v,j,f,a,un,Zl,r,q):=h;let(i,g,d,t,e):=U;obtain rfl:e=s.os:=f;show#[v,j,I.call (h':=i) (g':=g) (d':=d) (t':=t) (ch:=[]) un Zl a (λb z=>b4 z (by simp)),r,q]
end
def ug(sp:Sp)(a:G V)(E:XK)(t:TA):TE:=λb H Q=>t b H λe d=>sp (e++a) d Q E
def Bj(C:J)(m:Str)(sp:Sp)(b:G V)(E:XK)(c:TE)(t:TA):TE:=λd H Q=>c d H λx e=>∃a h fs,x=.ref a/\e a=R (.ins C h fs)/\fs.lookup m=P/\
 t d e λg f=>sp (x::(g++b)) f Q E
def AB(C:J)(sp:Sp)(a:G V)(E:XK)(t:TA):TE:=λd H Q=>t d H λg b=>∀x f,b x=P->b f=P->f≠x->
 sp (.ref x::(g++a)) (bj (bj b f (.own x)) x (.ins C f [])) (λv e=>v=.non/\Q (.ref x) e) E
def Binds(K:lD)(b:Zq)(c:G Str)(ds:G T):Prop:=
 ∀(s:X3) (a:G T),K.In s.heap->(a++ds).length=c.length->acg s b #[a,[]] (c.zip (a++ds))
theorem Binds.all{K:lD}{b:Zq}{c:G Str}(h:∀us:G T,us.length=c.length->bindArgs b #[us,[]]=pure (c.zip us)):Binds K b c []:=λs us _ a=>by rw[YK]at a⊢;show .of_eq (h us a)
def eA(f:we)(X:Cx)(E:XK):Prop:=∀(a:G (J×Obj)) (d:St) (H:Hp) (s:X3) (e:T) (b:X3),Inv X a d H s->f X.stack H s E e b->X.xe e b
section
variable{X:Cx}{R:we}{k:Nat}{f C:X5}{S:Zq}{T:cc Str}{sp:Sp}{Y:cc V}{A:cc XY}{E:XK}{x m:Str}{p Z U:Pos}{e o:Yo}{es:cc Yo}{P:TE}{t:TA}
def yV{a:G (J×Obj)}{d:St}{H:Hp}{s:X3}{Q:VK}{us:G XY}{vs:G V}(F:FnOk X.prog X.w X.K X.mg X.base R k f S T sp)(l:ZN k X.A)(q:Binds X.K S T A)(hd:Vals Y A)(j:eA R X E)
  (I:Inv X a d H s) (r:Vals vs us) (h:sp (vs++Y) H Q E):wpAny (model X.prog X.w) X.A (call (.ref f) us) (EP X a d Q) X.xe s:=by
 let g:Vals (vs++Y) (us++A):=r.append hd;let n:(us++A).length=T.length:=by rw[<-g.length];show F.len _ _ _ _ h
 show aeg (aaZ (F.run X.A X.stack s H #[us,[]] (us++A) (vs++Y) Q E l I.ai8 (q s us I.kIn n) g h) λr i b=>?_);cases r with
 |error e=>show j a d H s e i I b
 |ok v=>
  cases v with
  |ret u=>show I.after b
  |next=>show False.elim b
  |brk=>show False.elim b
  |cont=>show False.elim b
def Jg(F:FnOk X.prog X.w X.K X.mg X.base R k f S T sp)(l:ZN k X.A)(u:Gl X x)(hm:X.mg x=cL (.ref f))(n:ZR X.K (.ref f)=XX)(y:Binds X.K S T A)(hd:Vals Y A)(j:eA R X E)
  (c:PA X (e::es) t) (d:(x==("__debug__":Str))=M:=by decide) (v:Yp (e::es) X.env=(M,eval e X.env)::Yp es X.env:=by rfl) (b:(backTo Z (Yp es X.env)).any (·.1)=M:=by rfl):
  PE X (.Call (.Name x p) (e::es) [] Z) (ug sp Y E t):=by
 intro a s i H Q I h;show Z2 (pY I u hm ?_ d);show abJ I.ok.mod.kin n (b9 (c Z a s i H _ I h) λz B #[w,G,g,r,q]=>#[g.kIn,?_]) v b;show yV F l y hd j g r q
def Lh{pl:Sem Bool}(J:PE X o P)(c:Cls X.K C)(hm:Meth X.K C m f)(F:FnOk X.prog X.w X.K X.mg X.base R k f S T sp)(G:ZN k X.A)(L:Binds X.K S T A)(hd:Vals Y A)(z:eA R X E)(D:PA X (e::es) t)
  (eI:Yp (e::es) X.env=(XZ,eval e X.env)::Yp es X.env:=by rfl) (d:(backTo Z (Yp es X.env)).any (·.1)=XZ:=by rfl)
  (B:eval (.Call (.Attribute o m U) (e::es) [] Z) X.env=(do
   let ov<-eval o X.env
   standAt U.atName
   let(f,first)<-holding [ov] (getMethod ov m pl)
   callWith Z f first (backTo Z (Yp (e::es) X.env)) (backToKw Z (keywordEach [] X.env))):=by rfl):
  PE X (.Call (.Attribute o m U) (e::es) [] Z) (Bj C m sp Y E P t):=by
 intro b s g H Q I h;show adJ (pl:=pl) (b9 (J b s g H _ I h) λu n #[x,O,j,v,a,dx,fs,w,N,l,q]=>?_) B;subst w;obtain rfl:u=XY.ref a:=v;show rR j N c hm l ?_;show abJ (first:=[.ref a]) (h₀:=X.base) I.ok.mod.kin hm.kp (b9 (D Z b n g O _ j q) λus s2 #[K,H2,i,r,y]=>#[i.kIn,?_]) eI d;show yV (us:=.ref a::us) (vs:=.ref a::K) F G L hd z i (.cons W r) y
def Fj{pl:Sem Bool}(v:PE X o P)(c:Cls X.K C)(hm:Meth X.K C m f)(F:FnOk X.prog X.w X.K X.mg X.base R k f S T sp)(r:ZN k X.A)(y:Binds X.K S T A)(hd:Vals Y A)(j:eA R X E)
  (n:eval (.Call (.Attribute o m U) [] [] Z) X.env=(do
   let ov<-eval o X.env
   standAt U.atName
   let(f,first)<-holding [ov] (getMethod ov m pl)
   callWith Z f first (backTo Z (Yp [] X.env)) (backToKw Z (keywordEach [] X.env))):=by rfl):
  PE X (.Call (.Attribute o m U) [] [] Z) (Bj C m sp Y E P jx):=by
 intro b s g H Q I h;show adJ (pl:=pl) (b9 (v b s g H _ I h) λu G #[x,w,d,i,a,K,fs,z,B,l,q]=>?_) n;subst z;obtain rfl:u=XY.ref a:=i;show rR d B c hm l ?_;show ad6 (first:=[.ref a]) d.kIn hm.kp (yV (us:=[.ref a]) (vs:=[.ref a]) F r y hd j d (.cons W .nil) q)
structure Mk(K:lD)(C f:J):Prop where
 makes:ack K C=XX
 init:YZ K (.ref C) "__init__"=cL (cL (.ref f))
 fn:abS K (.ref f)=XX
 kp:ZR K (.ref C)=XX
def xm(M:Mk X.K C f)(F:FnOk X.prog X.w X.K X.mg X.base R k f S T sp)(n:ZN (k+1) X.A)(y:Binds X.K S T A)(hd:Vals Y A)
  (l:eA R X E) (I:Inv X pins σ H s) (r:Vals vs us)
  (h:∀x c,H x=CL->H c=CL->c≠x->sp (.ref x::(vs++Y)) (bj (bj H c (.own x)) x (.ins C c [])) (λv D=>v=.non/\Q (.ref x) D) E):
  wpAny (model X.prog X.w) X.A (call (.ref C) us) (EP X pins σ Q) X.xe s:=by
 let g:=h (s.heap.objs.size+1) s.heap.objs.size (I.Zl.fresh (aaB _)) (I.Zl.fresh (X6 _)) (Yk (ZU _));let b:=Inv.made (C:=C) I;let d:Vals (V.ref (s.heap.objs.size+1)::(vs++Y)) (XY.ref (s.heap.objs.size+1)::(us++A)):=.cons W (r.append hd);let q:(XY.ref (s.heap.objs.size+1)::us++A).length=T.length:=by let e:=d.length;rw[F.len _ _ _ _ g]at e;show e.symm
 show aeg (Fg I.kIn M.makes M.init (beq_iff_eq.mp M.fn) (aaZ (F.run _ X.stack _ _ #[XY.ref (s.heap.objs.size+1)::us,[]] (XY.ref (s.heap.objs.size+1)::(us++A)) _ _ E (n.make C us [])
  (b.ai8.make C us []) (y _ (XY.ref (s.heap.objs.size+1)::us) b.kIn q) d g) λr i a=>?_))
 cases r with
 |error e=>show l pins σ _ _ e i b a
 |ok z=>
  cases z with
  |ret u=>let(v,G,B,w,ev,j):=b.after a;subst ev;show#[w,#[V.ref (s.heap.objs.size+1),G,B,W,j]]
  |next=>show False.elim a
  |brk=>show False.elim a
  |cont=>show False.elim a
def JZ(M:Mk X.K C f)(F:FnOk X.prog X.w X.K X.mg X.base R k f S T sp)(l:ZN (k+1) X.A)(n:Gl X x)(hm:X.mg x=cL (.ref C))(v:Binds X.K S T A)(hd:Vals Y A)(j:eA R X E)
  (c:PA X (e::es) t) (d:(x==("__debug__":Str))=XZ:=by decide) (u:Yp (e::es) X.env=(XZ,eval e X.env)::Yp es X.env:=by rfl) (b:(backTo Z (Yp es X.env)).any (·.1)=XZ:=by rfl):
  PE X (.Call (.Name x p) (e::es) [] Z) (AB C sp Y E t):=by
 intro a s i H Q I h;show Z2 (pY I n hm ?_ d);show abJ I.ok.mod.kin M.kp (b9 (c Z a s i H _ I h) λy z #[w,B,g,r,q]=>#[g.kIn,?_]) u b;show xm M F l v hd j g r q
def DH(M:Mk X.K C f)(F:FnOk X.prog X.w X.K X.mg X.base R k f S T sp)(g:ZN (k+1) X.A)(i:Gl X x)(hm:X.mg x=cL (.ref C))(j:Binds X.K S T A)(hd:Vals Y A)(d:eA R X E)
  (a:(x==("__debug__":Str))=XZ:=by decide):PE X (.Call (.Name x p) [] [] Z) (AB C sp Y E jx):=by
 intro b s l H Q I h;show Z2 (pY I i hm ?_ a);show ad6 I.kIn M.kp (xm M F g j hd d I .nil h)
end
section
variable{X:Cx}{N:we}{k:Nat}{f C:X5}{fd:Zq}{Z ks:cc Str}{L:Sp}{E:XK}{x m:Str}{p U Y Q:Pos}{e o:Yo}{es:cc Yo}{O:cc aa0}{I H:TE}{t B:TA}{A:ck Str}
structure alM(K:lD)(fd:Zq)(Z ks:G Str)(g:G T->G T->G T)(gV:G V->G V->G V):Prop where
 to:∀(s:X3) (us ws:G T),K.In s.heap->(g us ws).length=Z.length->acg s fd #[us,ks.zip ws] (Z.zip (g us ws))
 rel:∀{vs:G V} {us:G T} {zs:G V} {ws:G T},Vals vs us->Vals zs ws->Vals (gV vs zs) (g us ws)
variable{g:cc XY->cc XY->cc XY}{K:cc V->cc V->cc V}
end
structure aay(N P:G Str)(sc:ZO):Prop where
 kind:sc.kind=.function
 co:sc.isCoroutine=M
 gen:sc.isGenerator=M
 nd:N.Nodup
 pre:N.take P.length=P
 par:∀x∈P,sc.names.lookup x=R .local\/sc.names.lookup x=R .cell
 ahF:∀y∈sc.names,y.2≠.free
theorem tP{a:Str->z Ym}:∀{binds:G (Str×T)} {m:Str->z T},(∀v,(x,v)∉binds)->bindL a binds m x=m x
 |[],_,_=>rfl
 |(n,v)::r,m,h=>by
  ext bindL;rw[tP λw b=>h w (Ya _ b)];split
  .let:x≠n:=by rintro rfl;show h v X9
   simp[this]
  .rfl
theorem tE{a:Str->z Ym}:∀{binds:G (Str×T)} {m:Str->z T},(∀v,(x,v)∉binds)->bindC a binds m x=m x
 |[],_,_=>rfl
 |(n,v)::r,m,h=>by
  ext bindC;rw[tE λw b=>h w (Ya _ b)];split
  .rfl
  .let:x≠n:=by rintro rfl;show h v X9
   simp[this]
theorem ud{kindOf:Str->z Ym}:∀{a:G Str} {b:G T} {i:Nat} {m:Str->z T},a.Nodup->a[i]?=R x->b[i]?=R v->kindOf x=R .local->
  bindL kindOf (a.zip b) m x=R v
 |[],_,_,_,_,h,_,_=>by simp at h
 |_::_,[],_,_,_,_,h,_=>by simp at h
 |p::a,w::b,0,m,nd,h1,d,e=>by simp at h1 d;subst h1;subst d;show bindL kindOf ((p,w)::a.zip b) m p=_;ext bindL;rw[tP λv f=>(Y6.mp nd).1 (aaE f).1,ax e];simp
 |p::a,w::b,i+1,m,nd,h1,d,e=>by ext bindL;show ud (Y6.mp nd).2 (by simpa using h1) (by simpa using d) e
theorem tW{kindOf:Str->z Ym}:∀{a:G Str} {b:G T} {i:Nat} {m:Str->z T},a.Nodup->a[i]?=R x->b[i]?=R v->kindOf x≠R .local->
  bindC kindOf (a.zip b) m x=R v
 |[],_,_,_,_,h,_,_=>by simp at h
 |_::_,[],_,_,_,_,h,_=>by simp at h
 |p::a,w::b,0,m,nd,h1,d,e=>by simp at h1 d;subst h1;subst d;show bindC kindOf ((p,w)::a.zip b) m p=_;ext bindC;rw[tE λv f=>(Y6.mp nd).1 (aaE f).1,a6 e];simp
 |p::a,w::b,i+1,m,nd,h1,d,e=>by ext bindC;show tW (Y6.mp nd).2 (by simpa using h1) (by simpa using d) e
def start(N:G Str)(a:G V):St:=a.map R++X1 (N.length - a.length) P
def me(h:we)(P:Yr)(w:YJ)(K:lD)(c:Str->z T)(base:Heap)(N:G Str)(b:Str)(a:ZO)(f:J)(g:T)(A:YC)(outer:G Env)(s:X3)(H:Hp)(E:XK):Cx where
 prog:=P
 w:=w
 K:=K
 mg:=c
 base:=base
 A:=A.deeper (envOfC b a s.heap.objs.size f g)
 N:=N
 s₀:=s
 H₀:=H
 env:=envOfC b a s.heap.objs.size f g
 outer:=outer
 stack:=envOfC b a s.heap.objs.size f g::outer
 ex:=[]
 calm:=S
 fn:=λ_=>S
 pn:=[]
 xe:=λe i=>wpAny (model P w) (A.deeper (envOfC b a s.heap.objs.size f g)) (leaving (envOfC b a s.heap.objs.size f g) e) (λ_ d=>h outer H s E e d) (λj d=>h outer H s E j d) i
def xM{sc:ZO}(h:sc.names.lookup x=R .cell):∃c,(ZH n sc.names []).lookup x=R c:=by let q:=aap sc.names n [] (.inl h);show ZJ.mp q
def Cp{K:lD}
  (S:aay N ps scope) (hd:A.handled=CL) (e0:Env0 I w K mg base A outer s H) (F:U.length=ps.length) (r:Vals U us)
  (x:InCallC s s.heap.objs.size (bindL (envOfC qual scope s.heap.objs.size f cd).kindOf (ps.zip us) λ_=>CL) (ZH (s.heap.objs.size+1) scope.names []) (bindC (envOfC qual scope s.heap.objs.size f cd).kindOf (ps.zip us) λ_=>CL) s1):
  Inv (me CX I w K mg base N qual scope f cd A outer s H E) [] (start N U) H s1:=by
 let B:ps.length<=N.length:=by let:=d6 aaA S.pre;rw[Zh]at this;ext
 let(n,C,rfl,t):=x.done;let g:∀b:J,b∉(me CX I w K mg base N qual scope f cd A outer s H E).ex:=λb z=>b4 (show b∈([]:cc J)from z) (by simp);show#[#[e0.mod,S.kind,W,W,X6 _,λy z c n d=>?_,λy j=>?_,λy c _ h=>?_,λ_=>hd,YC.frames_deeper e0.frames,.inr #[W,W],λb z=>b4 z (g b),e0.bs,e0.bsz,λb _ _=>g b,λb z=>b4 z (g b),e0.acd,e0.frf],
  W,e0.bare,Un.kept t,#[_,x.toInCall.ns,λi y v n d G=>?_],λy c h=>#[_,x.cell y c h],e0.Zl.fresh (X6 _),λy c h=>?_,λp m=>b4 (show p∈([]:cc (J×Obj))from m) (by simp),e0.Zl.kept t,?_]
 .show name_of_addr x.apart (Zy n) (Zy d)
 .let j:=j
  rcases j with j|j
  .show xM j
  .show b4 W (S.ahF _ (Zy j))
 .show abn (x.above y c (Zy h))
 .let L:i<U.length:=by
   unfold start at d;by_cases L:i<U.length
   .show L
   .rw[Ys (by simpa using L)]at d;rw[Zt]at d;split at d<;>ext d
  let Q:U[i]?=R v:=by
   unfold start at d;rw[Yz (by simpa using L),Yl]at d;cases e:U[i]? with
   |none=>rw[e]at d;ext d
   |some a=>rw[e]at d;ext d;rfl
  let(u,o,O):=r.get Q;let m:ps[i]?=R y:=by rw[<-S.pre,List.getElem?_take_of_lt ()];show n
  let l:ps.Nodup:=by rw[<-S.pre];show S.nd.sublist (List.take_sublist _ _)
  show#[u,O,?_];rcases S.par y (YD m)with k|k
  .show .inl #[k,ud l m o k]
  .let(c,e):=xM k;show .inr #[.inl k,c,e,?_];let q:=x.cell y c e;rw[tW l m o (by show scope.names.lookup y≠_;rw[k];decide)]at q;show q
 .show e0.Zl.fresh (abn (x.above y c (Zy h)))
 .ext start;show _=N.length;rw[Yb,X4,YE];ext
def Sl{m:we}{P:Yr}{w:YJ}{K:lD}{l:Str->z T}{base:Heap}{k:Nat}{f:X5}{name qual:Str}{params:Arguments}{body:G ZW}{scope:ZO}{U kV doc pm a ct Z:T}{an Y:z X5}
  {C:Array (z T)} {N j:G Str} {sp:Sp} (lk:K.lookup f=R #[Z,Y,.func (Z7 name qual params body scope U kV doc pm an a ct),C]) (D:abp K a qual=XX) (S:aay N j scope)
  (len:∀c H Q E,sp c H Q E->c.length=j.length)
  (F:∀(A:YC) (outer:G Env) (s:X3) (H:Hp) (c:G V) (Q:VK) (E:XK),ZN k (A.deeper (envOfC qual scope s.heap.objs.size f a))->sp c H Q E->
   ∃t,PSs (me m P w K l base N qual scope f a A outer s H E) body t/\t {nx:=λ_ g=>Q .non g,rt:=Q} (start N c) H):
  FnOk P w K l base m (k+1) f (Z7 name qual params body scope U kV doc pm an a ct) j sp:=by
 show#[len,λA outer s H args us c Q E L e0 hb r i=>?_];let hl:=len _ _ _ _ i;let X:K.In s.heap:=e0.mod.kin.keeps λb o e=>(e0.bs b o e).1;let lim:s.heap.NoLimit:=e0.mod.nolimit.keeps λb o e=>(e0.bs b o e).1;let O:∀y∈j.zip us,scope.names.lookup y.1=R .local\/(scope.names.lookup y.1=R .cell/\((ZH (s.heap.objs.size+1) scope.names []).lookup y.1).isSome=XX):=λ#[n,v] hy=>by
  rcases S.par n (aaE hy).1 with q|q
  .show .inl q
  .show .inr #[q,aap _ _ _ (.inl q)]
 show codeAny_call_function L.depth (X _ _ lk) W S.co S.gen W (PySem.W.codeRec_of X D) (hb _ _ _ _ ?_);show wpAny_newFunctionEnv_cells S.kind O λenv he s1 x=>?_;subst he;show#[lim.keeps x.toInCall.keep,codeAny_func ?_];let(t,ht,hq):=F A outer s H c Q E (L.deeper _) i;let I:Inv (me m P w K l base N qual scope f a A outer s H E) [] (start N c) H s1:=Cp S L.hd e0 hl r x;show wpAny_mono (ht [] s1 (start N c) H _ I hq) (λfl p h=>?_) λe p h=>h
 let fin:∀{d:St} {g:Hp} {v:V} {u:T},Inv (me m P w K l base N qual scope f a A outer s H E) [] d g p->RelV v u->Q v g->CE outer P w H s Q u p:=
  λ{d g v u} J B q=>#[v,g,J.os,J.bare,J.base,J.Zl,B,q]
 cases fl with
 |ret u=>let(v,d,g,J,B,q):=h;show fin J B q
 |next=>let(d,g,J,q):=h;show fin (v:=V.non) (u:=XY.none) J W q
 |brk=>let(_,_,_,q):=h;show False.elim q
 |cont=>let(_,_,_,q):=h;show False.elim q
section
variable{X:Cx}{x:Str}{p Z:Pos}{e:Yo}{es:cc Yo}{t:TA}{Y T:String}{r:cc V->Hp->VK->Prop}
def Dh(r:G V->Hp->VK->Prop)(t:TA):TE:=λa H Q=>t a H λd b=>r d b Q
def FU(o:ZS X (.builtin Y) r)(m:Gl X x)(hm:X.mg x=P)(l:YO x=R (.builtin Y))(k:PA X (e::es) t)(c:x≠ "__name__":=by decide)(d:(x==("__debug__":Str))=M:=by decide)
  (n:Yp (e::es) X.env=(M,eval e X.env)::Yp es X.env:=by rfl) (b:(backTo Z (Yp es X.env)).any (·.1)=M:=by rfl):PE X (.Call (.Name x p) (e::es) [] Z) (Dh r t):=by
 intro a s f H Q I h;show Z2 (jX I m hm l ?_ c d);show ajk (b9 (k Z a s f H _ I h) λg i #[v,u,q,r1,j]=>o a i f u v g Q q r1 j) n b
def BV(o:ZS X (.type T) r)(m:Gl X x)(hm:X.mg x=P)(l:YO x=R (.type T))(k:PA X (e::es) t)(c:x≠ "__name__":=by decide)(d:(x==("__debug__":Str))=M:=by decide)
  (n:Yp (e::es) X.env=(M,eval e X.env)::Yp es X.env:=by rfl) (b:(backTo Z (Yp es X.env)).any (·.1)=M:=by rfl):PE X (.Call (.Name x p) (e::es) [] Z) (Dh r t):=by
 intro a s f H Q I h;show Z2 (jX I m hm l ?_ c d);show Zs (b9 (k Z a s f H _ I h) λg i #[v,u,q,r1,j]=>o a i f u v g Q q r1 j) n b
end
end L2
namespace HT
open PySem PyProof.Rows
section
open PySem.SeqAt
open PySem.AutoSeq1 (wpAny_loadPart')
open PySem.MeetsSeq PySem.MeetsSeq2 PySem.MeetsSeq3
end
section
variable{Z:Yr}{w:YJ}{A:YC}{E:XY->X3->Prop}{s:X3}
def cat_tup{t b:J}{c ws:G T}{Q:T->X3->Prop}(u:IsTup s.heap t c.toArray)(v:IsTup s.heap b ws.toArray)(p:c≠[])
  (z:ws=[]->Q (.ref t) s) (y:ws≠[]->Q (.ref s.heap.objs.size) {s with heap:=s.heap.push {cls:=.type "tuple",data:=.seq (c++ws).toArray}})
  (k:c.length+ws.length<=Yc):wpAny (model Z w) A (Zp .Add (.ref t) (.ref b)) Q E s:=by
 let((cls,dd,data,m),j,r,n,q):=id u;let((B,h,l,d),a,g,o,f):=id v;simp only at r q g f;subst r q g f;let e:c.toArray++ws.toArray=(c++ws).toArray:=by simp
 by_cases i:ws=[]
 .show concat_meets #[_,j,W] #[_,a,W] aio al5 ade ac3 (acM _ _)
   (tuple_addW1 t b c.toArray ws.toArray n o dd h m d (by simpa using p) (by simp[i])) #[j,a,z i]
 .show concat_meets #[_,j,W] #[_,a,W] aio al5 ade ac3 (acM _ _)
   (tuple_addW2 t b c.toArray ws.toArray n o dd h m d (by simpa using p) (by simpa using i) (by rw[Yd,Yd];show k)) #[j,a,?_]
  rw[e];show y i
def sIx(n d:Nat):z Int->Nat
 |none=>d
 |some v=>if v<0 then(v+(n:Int)).toNat else min v.toNat n
def QL(n d:Nat)(hd:d<=n)(o:z Int):sIx n d o<=n:=by
 cases o with
 |none=>show hd
 |some v=>
  show(if v<0 then(v+(n:Int)).toNat else min v.toNat n)<=n;by_cases a:v<0
  .rw[ax a];ext
  .rw[a6 a];show acz _ _
def Ao(v:Int)(n d:Nat):(if v<0 then max (v+(n:Int)) 0 else min v (n:Int))=((sIx n d (R v):Nat):Int):=by
 show(if v<0 then max (v+(n:Int)) 0 else min v (n:Int))=(((if v<0 then(v+(n:Int)).toNat else min v.toNat n):Nat):Int);by_cases a:v<0
 .simp only[ax a];ext
 .simp only[a6 a];ext
def yL(lo b:z Int)(n:Nat):Yx.Slice.sliceAdjust lo b 1 (n:Int)=(((sIx n 0 lo:Nat):Int),((sIx n n b:Nat):Int)):=by
 let a:¬((1:Int)<0):=by ext
 ext Yx.Slice.sliceAdjust;simp only[a,if_false];show Prod.ext ?_ ?_
 .cases lo with
  |none=>rfl
  |some v=>show Ao v n 0
 .cases b with
  |none=>rfl
  |some v=>show Ao v n n
def yA(i j:Nat):Yx.Slice.slicePlaces (i:Int) (j:Int) 1=j - i:=by
 ext Yx.Slice.slicePlaces;let a:(1:Int)>0:=by ext
 simp only[a,if_true,Int.ediv_one];split<;>ext
def sE(p:adf v o)(h:Q o s):wpAny (model Z w) A (Yx.Slice.slicePartIndex v) Q E s:=by
 cases p with
 |none=>show slicePart_none h
 |int i t=>show slicePart_int h
def oA{lo c:z Int}{Q:Int×Int×Nat->X3->Prop}(e:s.heap.IsSliceOf I C o .none)(pl:adf C lo)(d:adf o c)
  (h:Q (((sIx n 0 lo:Nat):Int),1,sIx n n c - sIx n 0 lo) s):wpAny (model Z w) A (Yx.Slice.sliceApplied (.ref I) (pure (n:Int))) Q E s:=by
 let(g,a,f,b):=id e;unfold Yx.Slice.sliceApplied Yx.Slice.sliceFields;show XW (XW (Y2 a b W (XW (Y2 a b W (XW (Y2 a b W (X8 ?_)))))));show XW (slicePart_none ?_);rw[a6 ()];show XW (sE pl (XW (sE d (XW (X8 ?_)))));show wpAny _ _ (match Yx.Slice.sliceAdjust lo c 1 (n:Int)with|(lo,c)=>pure (lo,(1:Int),Yx.Slice.slicePlaces lo c 1)) _ _ s;rw[yL lo c n];show wpAny _ _ (pure (((sIx n 0 lo:Nat):Int),(1:Int),Yx.Slice.slicePlaces ((sIx n 0 lo:Nat):Int) ((sIx n n c:Nat):Int) 1)) _ _ s;rw[yA];show X8 h
def ES(xs:Array T)(i k:Nat):((Yw k).filterMap λ(m:Nat)=>xs[((i:Int)+(m:Int)*1).toNat]?).toArray=((xs.toList.drop i).take k).toArray:=by
 let e:(λ(m:Nat)=>xs[((i:Int)+(m:Int)*1).toNat]?)=λm=>xs[i+m]? :=by
  funext m;let:((i:Int)+(m:Int)*1).toNat=i+m:=by ext
  rw[this]
 rw[e];let:=pick_run xs i k;rw[afa]at this;let e2:((λx=>xs[x]?)∘λx=>i+x)=λm=>xs[i+m]? :=W;rw[e2]at this;rw[this]
def getItem_tuple_cut{lo c:z Int}(b:IsTup s.heap t items)(i:s.heap.IsSliceOf C U I .none)(pl:adf U lo)(j:adf I c)
  (m:¬(sIx items.size 0 lo=0/\sIx items.size items.size c=items.size))
  (h:Q (.ref s.heap.objs.size) {s with heap:=s.heap.push {cls:=.type "tuple",data:=.seq ((items.toList.drop (sIx items.size 0 lo)).take (sIx items.size items.size c - sIx items.size 0 lo)).toArray}})
  (k:items.size<=Yc):wpAny (model Z w) A (getItem (.ref t) (.ref C)) Q E s:=by
 let a:sizeOk (.seq ((items.toList.drop (sIx items.size 0 lo)).take (sIx items.size items.size c - sIx items.size 0 lo)).toArray):=by show((items.toList.drop (sIx items.size 0 lo)).take (sIx items.size items.size c - sIx items.size 0 lo)).toArray.size<=Yc;rw[Yd,Zh,acu,YU];ext
 let r:sIx items.size items.size c<=items.size:=QL _ _ (X6 _) c;let(l,d,f,n):=id i;let g:s.TypeIs (.ref C) "slice":=#[l,d,f];ext getItem
 try specialize Zo ?_
 first|show XW (X8 ?_)|skip
 show XW (wpAny_sequenceKey b.typeIs () ?_);show XW (ZX b.typeIs aai
  (ZY aai b.typeIs entry_tuple_getitem ?_ (args_tuple_getitem _ _)))
 show wpAny _ _ (Yx.Tuple.tupleItemsOf (.ref t)>>=_) _ _ s;show XW (tupleItemsOf_ b ?_);show XW (afn g ?_);rw[ax ()];show XW (oA i pl j ?_);let e:¬((((sIx items.size 0 lo:Nat):Int)==0&&(1:Int)==1&&(sIx items.size items.size c - sIx items.size 0 lo)==items.size)=S):=by intro q;rw[Ld,Ld]at q;let p:=eq_of_beq q.1.1;let o:=eq_of_beq q.2;show m #[by ext,by ext]
 show wpAny _ _ (if(((sIx items.size 0 lo:Nat):Int)==0&&(1:Int)==1&&(sIx items.size items.size c - sIx items.size 0 lo)==items.size)=S then _ else _) _ _ s;rw[a6 e,ES]
 first
  |show XW (Ze (X8 #[_,W,X8 h]) a)
  |show XW (Ze (XW (X8 (X8 #[_,W,X8 h]))) a)
  |show XW (XW (Ze (X8 (X8 #[_,W,X8 h])) a))
  |show XW (XW (Ze (X8 #[_,W,X8 h]) a))
end
end HT
namespace L2
open PySem PySem.Spec PyProof.Rows
abbrev TO:=St->Hp->(z Int->Hp->Prop)->Prop
def PO(X:Cx)(e:z Yo)(t:TO):Prop:=
 ∀(a:G (J×Obj)) (s:X3) (b:St) (H:Hp) (Q:z Int->Hp->Prop),Inv X a b H s->t b H Q->
  wpAny (model X.prog X.w) X.A (evalPart e X.env) (λu d=>∃o f,Inv X a b f d/\adf u o/\Q o f) X.xe s
def AR:TO:=λ_ H Q=>Q P H
def Ng(t:TE):TO:=λa H Q=>t a H λx b=>∃i,x=.int i/\Q (R i) b
def iY:∀{us:G T},Vals (ns.map V.int) us->IntsAre us ns:=by
 induction ns with
 |nil=>intro us r;rw[abk]at r;ext r;show .nil
 |cons n ns b=>
  intro us r;rw[Yi]at r;cases r with
  |cons r1 a=>let(t,e):=r1;subst e;show .cons n t (b a)
section
variable{X:Cx}{e:Yo}{U:TE}{Z Y:ck Yo}{S R:TO}{O P:Pos}
def JY:PO X CL AR:=by intro a s b H Q I h;rw[al6];show X8 #[CL,H,I,.none,h]
def KB(h:PE X e U):PO X (cL e) (Ng U):=by intro a s b H Q I f;rw[evalPart_some];show b9 (h a s b H _ I f) λu l #[x,j,g,r1,d]=>?_;let(i,rfl,q):=d;let(t,rfl):=r1;show#[cL i,j,g,.int i t,q]
def RQ(X:Cx)(r:V->z Int->z Int->Hp->VK->Prop):Prop:=
 ∀(a:G (J×Obj)) (s:X3) (b:St) (H:Hp) (x:V) (v f d:XY) (Z Y:z Int) (g:J) (Q:VK),Inv X a b H s->RelV x v->s.heap.IsSliceOf g f d .none->adf f Z->adf d Y->r x Z Y H Q->
  ∃T id,typeLookup (.type T) "__getitem__"=pure (cL (.builtin id))/\s.TypeIs v T/\wpAny (model X.prog X.w) X.A (getItem v (.ref g)) (EP X a b Q) X.xe s
def Wh(r:V->z Int->z Int->Hp->VK->Prop)(U:TE)(S R:TO):TE:=λa H Q=>U a H λx f=>S a f λl d=>R a d λu b=>r x l u b Q
def F6{r:V->ck Int->ck Int->Hp->VK->Prop}(C:RQ X r)(G:PE X e U)(E:PO X Z S)(z:PO X Y R):PE X (.Subscript e (.Slice Z Y CL P) O) (Wh r U S R):=by intro a s f H Q I h;show Subscript_ (b9 (G a s f H _ I h) λv n #[x,H1,N,r1,t]=>?_);show wpAny_Slice (b9 (E a n f H1 _ N t) λi m #[l,A,w,pl,p]=>b9 (z a m f A _ w p) λg d #[u,j,L,y,o]=>?_);rw[al6];show X8 ?_;let K:Inv X a f j {d with heap:=d.heap.push {cls:=.type "slice",data:=.fields #v[i,g,.none]}}:=L.kept (t':=d.toks) λb ob q=>cn _ q;let(T,id,J,B,F):=C a {d with heap:=d.heap.push {cls:=.type "slice",data:=.fields #v[i,g,.none]}} f j x v i g l u d.heap.objs.size Q K r1 (Heap.IsSliceOf.new ..) pl y o;show wpAny (model X.prog X.w) X.A (subscriptTail e (.Slice Z Y CL P) v (.ref d.heap.objs.size)) (EP X a f Q) X.xe {d with heap:=d.heap.push {cls:=.type "slice",data:=.fields #v[i,g,.none]}};show tail_any (ops:=[.ref d.heap.objs.size,v]) B J F (by with_unfolding_all rfl)
def De(xs:G V)(Z Y:z Int):G V:=(xs.drop (HT.sIx xs.length 0 Z)).take (HT.sIx xs.length xs.length Y - HT.sIx xs.length 0 Z)
def pk(xs:G V)(Z Y:z Int):(De xs Z Y).length<=xs.length:=by ext De;rw[Zh,acu];ext
def TN(K:lD):V->z Int->z Int->Hp->VK->Prop:=λx Z Y H Q=>∃a xs,x=.ref a/\SqT K H a xs/\
 ¬(HT.sIx xs.length 0 Z=0/\HT.sIx xs.length xs.length Y=xs.length)/\∀p,H p=CL->Q (.ref p) (bj H p (.tup (De xs Z Y)))
def Pp:RQ X (TN X.K):=by
 intro f s t H x v w u Z Y y Q I j o pl l h;let(a,xs,rfl,m,n,q):=h;ext j;let(p,r,i,g):=I.tuple m;let d:p.toArray.size=xs.length:=by rw[Yd];show r.length.symm
 show#["tuple",_,aai.lookup,i.typeIs,?_];show HT.getItem_tuple_cut i o pl l (by rw[d];show n) ?_ (by rw[d];show g);rw[d];show#[.ref s.heap.objs.size,_,I.laid (λb z q=>cn _ q) (X6 _) ?_,W,q _ (I.Zl.fresh (X6 _))];show#[YN (pk xs Z Y) g,_,(r.drop (HT.sIx xs.length 0 Z)).take (HT.sIx xs.length xs.length Y - HT.sIx xs.length 0 Z),acq.new _ _]
def Nl(K:lD):R2:=λx y H Q=>∃a b xs ys,x=.ref a/\y=.ref b/\SqT K H a xs/\SqT K H b ys/\xs≠[]/\xs.length+ys.length<=Yc/\
 (ys=[]->Q (.ref a) H)/\(ys≠[]->∀p,H p=CL->Q (.ref p) (bj H p (.tup (xs++ys))))
def Vals.adt(r:Vals xs us):us=[]↔xs=[]:=by
 cases r with
 |nil=>simp
 |cons _ _=>simp
def Kv:OpR X (Zp .Add) (Nl X.K):=by intro f s t H x y v u Q I j i h;let(a,b,xs,A,rfl,rfl,E,p,o,g,m,l):=h;ext j;ext i;let(C,r1,n,_):=I.tuple E;let(r,d,P,_):=I.tuple p;show HT.cat_tup n P (λz=>o (r1.adt.mp z)) (λz=>#[.ref a,H,I,W,m (d.adt.mp z)]) (λz=>?_) (by rw[<-r1.length,<-d.length];show g);show#[.ref s.heap.objs.size,_,I.laid (λb B q=>cn _ q) (X6 _) ?_,W,l (λw=>z (d.adt.mpr w)) _ (I.Zl.fresh (X6 _))];show#[by rw[Yb];show g,_,r1.append d,acq.new _ _]
end
def Dj(n:Nat)(i:Int):z Nat:=if 0<=i then(if i<n then R i.toNat else P)else if -(n:Int)<=i then R (i+n).toNat else P
def kO(xs:G α)(i:Int):z α:=(Dj xs.length i).bind λj=>xs[j]?
def z7(h:Dj n i=R j):seqIndex? i n=R j/\j<n/\ -(n:Int)<=i/\i<n:=by
 unfold Dj at h;by_cases b:0<=i
 .rw[ax b]at h
  by_cases a:i<n
  .rw[ax a]at h;let e:=Yq h;show#[by rw[agh b a,e],by ext,by ext,a]
  .rw[a6 a]at h;ext h
 .rw[a6 b]at h
  by_cases a: -(n:Int)<=i
  .rw[ax a]at h;let e:=Yq h;show#[by rw[afo () a,e],by ext,a,by ext]
  .rw[a6 a]at h;ext h
def uL(h:kO xs i=R v):∃j,seqIndex? i xs.length=R j/\xs[j]?=R v/\j<xs.length/\ -(xs.length:Int)<=i/\i<xs.length:=by
 unfold kO at h;cases e:Dj xs.length i with
 |none=>rw[e]at h;ext h
 |some j=>rw[e]at h;let(f,d,b,a):=z7 e;show#[j,f,h,d,b,a]
def zR{j:Nat}(h:xs[j]?=R v):kO xs (j:Int)=R v:=by
 let a:=(X0.mp h).1;let e:Dj xs.length (j:Int)=R j:=by ext Dj;rw[ax (),ax ()];simp
 ext kO;rw[e];show h
def DJ(xs:G α)(v:α):kO (xs++[v]) (-1)=R v:=by
 let a:(xs++[v]).length=xs.length+1:=by simp
 let e:Dj (xs++[v]).length (-1)=R xs.length:=by ext Dj;rw[a,a6 (),ax ()];congr 1;ext
 ext kO;rw[e];simp
def Bq(b:Yo):Prop:=∀o i,subscripted b M o i=operate [o,i] (getItem o i)
def IxR(X:Cx)(r:R2):Prop:=
 ∀(d a:Yo) (b:G (J×Obj)) (s:X3) (e:St) (H:Hp) (x y:V) (v u:T) (Q:VK),Inv X b e H s->RelV x v->RelV y u->r x y H Q->
  subscripted a M v u=operate [v,u] (getItem v u)->wpAny (model X.prog X.w) X.A (subscriptTail d a v u) (EP X b e Q) X.xe s
def Mz(X:Cx)(id:String)(r:V->G V->Hp->VK->Prop):Prop:=
 ∀(a:G (J×Obj)) (s:X3) (b:St) (H:Hp) (x:V) (xs:G V) (v:T) (d:G T) (Q:VK),Inv X a b H s->RelV x v->Vals xs d->r x xs H Q->
  wpAny (model X.prog X.w) X.A (call (.builtin id) (v::d)) (EP X a b Q) X.xe s
section
variable{X:Cx}{a b:Yo}{ta tb:TE}{Z:Pos}
def IxR.or(h:IxR X r)(c:IxR X r'):IxR X (λx y H Q=>r x y H Q\/r' x y H Q):=by
 intro d e f s g H x y v u Q I j i q l;rcases q with q|q
 .show h d e f s g H x y v u Q I j i q l
 .show c d e f s g H x y v u Q I j i q l
def MN{r:R2}(l:IxR X r)(c:PE X a ta)(m:PE X b tb)(j:Bq b):PE X (.Subscript a b Z) (HX r ta tb):=by intro d s e H Q I h;show Subscript_ (QN c m I h λv u f x y o n i g q=>l a b d f e o x y v u Q n i g q (j _ _))
def T2(K:lD):R2:=λx y H Q=>∃p xs i v,x=.ref p/\y=.int i/\SqL K H p xs/\kO xs i=R v/\Q v H
def Uk(K:lD):R2:=λx y H Q=>∃p xs i v,x=.ref p/\y=.int i/\SqT K H p xs/\kO xs i=R v/\Q v H
def Sh:R2:=λx y H Q=>∃z i c,x=.str z/\y=.int i/\z.length<=Yc/\kO z.cps.toList i=R c/\Q (.str #[#v[c]]) H
def JD:IxR X (T2 X.K):=by
 intro g l d s C H x y v u Q I F E h o;let(p,xs,i,z,rfl,rfl,G,L,q):=h;ext F;let(t,rfl):=E;let(P,r,pl,R):=I.list G;let(j,f,O,S,N,M):=uL L;let(w,B,m):=r.get O;let J:=r.length;let K:=oI;let e:EP X d C Q w s:=#[z,H,I,m,q];by_cases A:0<=i
 .let n:i.toNat=j:=by
   rw[agh A M]at f;show Yq f
  show item_listR pl.isList A () (by rw[n];simpa using B) e o
 .let n:(i+(P.toArray.size:Int)).toNat=j:=by
   rw[afo () N]at f;rw[Yd,<-J];show Yq f
  show subscriptTail_builtinR pl.isList.typeIs ahT.lookup
   (wpAny_getItem_list_neg pl.isList () (by rw[Yd]<;>ext) () (by rw[n];simpa using B) #[W,e]) o
def Og:IxR X (Uk X.K):=by
 intro e f d s m H x y v u Q I o n h A;let(p,xs,i,z,rfl,rfl,B,E,q):=h;ext o;let(t,rfl):=n;let(P,r,pl,L):=I.tuple B;let(j,G,F,O,N,M):=uL E;let(w,J,g):=r.get F;let C:=r.length;let K:=oI;let l:EP X d m Q w s:=#[z,H,I,g,q];show subscriptTail_builtinR pl.typeIs slot_tuple_getitem.lookup
  (getItem_tuple pl () () (by rw[Yd,<-C];show G) (by simpa using J) #[W,l]) A
def N0:IxR X Sh:=by
 intro d e f s B H x y v u Q I m l h n;let(z,i,c,rfl,rfl,E,p,q):=h;let(t,rfl):=m;let(C,rfl):=l;let(j,g,A,F,w,r):=uL p;let o:z.cps.toList.length=z.length:=by simp[Str.length]
 rw[o]at g w r;let K:=oI;show tail_any (aa8 s z t) slot_str_getitem.lookup (getItem_str (by let e1:decide (i< -(2^63:Int))=M:=bg ();let e2:decide (i≥2^63)=M:=bg ();rw[e1,e2,abU]) (by rw[g];simpa using A) #[.str #[#v[c]],H,I.tok _,#[_,W],q]) n
def Ub(K:lD):R2:=λx y H Q=>T2 K x y H Q\/Uk K x y H Q\/Sh x y H Q
theorem Hi:IxR X (Ub X.K):=JD.or (Og.or N0)
def yo(d:G T)(n j:Nat)(u:T):Obj.mapSeq (·.setIfInBounds j u) {cls:=.type "list",data:=.seq d.toArray n}={cls:=.type "list",data:=.seq (d.set j u).toArray n}:=by simp[Obj.mapSeq]
def Inv.lst(I:Inv X pins σ H s)(h:H p=R (.lst xs)):
  ∃(d:G T) (n:Nat),Vals xs d/\s.heap.get? p=R {cls:=.type "list",data:=.seq d.toArray n}/\xs.length<=Yc:=by
 let(z,d,n,r,e):=I.Zl p _ h;show#[d,n,r,e,z]
def Inv.ahj{g:G (J×Obj)}{l:St}{H:Hp}{s:X3}{p:J}{xs i:G V}{o d:G T}{n j:Nat}{f:Obj->Obj}(I:Inv X g l H s)(h:H p=R (.lst xs))
  (v:s.heap.get? p=R {cls:=.type "list",data:=.seq o.toArray n}) (m:f {cls:=.type "list",data:=.seq o.toArray n}={cls:=.type "list",data:=.seq d.toArray j}) (r:Vals i d) (c:i.length<=Yc) (t:Nat):
  Inv X g l (bj H p (.lst i)) {s with heap:=s.heap.update p f,toks:=t}:=by
 let e:(s.heap.update p f).get? p=R {cls:=.type "list",data:=.seq d.toArray j}:=by rw[da f v (by rw[m]<;>rfl),m]
 show I.write (x:=p) (e:=p) (by rw[h];trivial) (.inl W) (λb u w q=>(c6 _ _ (d0 w)).trans q) #[_,e] ?_;show#[c,d,j,r,e]
def ME:V->V->V->Hp->(Hp->Prop)->Prop:=λo i v H Q=>∃p xs k j,o=.ref p/\i=.int k/\H p=R (.lst xs)/\Dj xs.length k=R j/\Q (bj H p (.lst (xs.set j v)))
def Gh:TJ X ME:=by
 intro l s J H o i v K L u Q I C E N h;let(p,xs,k,j,rfl,rfl,m,G,q):=h;ext C;let(t,rfl):=E;let(A,n,r,e,F):=I.lst m;let(d,M,y,w):=z7 G;let f:=r.length;let O:=oI
 let B:=
  I.ahj m e (yo A n j u) (r.set N j) (by rw[Y7];show F) s.toks
 by_cases z:0<=k
 .let g:k.toNat=j:=by
   rw[agh z w]at d;show Yq d
  show PySem.W.ki_setAt e z () (by rw[Yd,<-f];show w) (by rw[g];show#[_,B,q])
 .let g:(k+(A.toArray.size:Int)).toNat=j:=by
   rw[afo () y]at d;rw[Yd,<-f];show Yq d
  show PySem.W.ki_setBack e () (by rw[Yd,<-f];show y) () (by rw[g];show#[_,B,q])
def vf(lo c:z Int)(n:Nat):(sliceBounds lo c P n).1=((HT.sIx n 0 lo:Nat):Int)/\(sliceBounds lo c P n).2.1=((HT.sIx n n c:Nat):Int)/\(sliceBounds lo c P n).2.2=1:=by
 show#[?_,?_,W]
 .cases lo with
  |none=>simp[sliceBounds,HT.sIx]
  |some i=>
   simp only[sliceBounds,HT.sIx,afb,show(1:Int)>0 by decide,if_true];by_cases h:i<0
   .simp only[h,if_true]<;>ext
   .simp only[h,if_false]<;>ext
 .cases c with
  |none=>simp[sliceBounds,HT.sIx]
  |some i=>
   simp only[sliceBounds,HT.sIx,afb,show(1:Int)>0 by decide,if_true];by_cases h:i<0
   .simp only[h,if_true]<;>ext
   .simp only[h,if_false]<;>ext
def sS(d:G T)(lo c:z Int):slicePick d.toArray lo c P=((d.drop (HT.sIx d.length 0 lo)).take (HT.sIx d.length d.length c - HT.sIx d.length 0 lo)).toArray:=by let(g,f,e):=vf lo c d.toArray.size;ext slicePick;rw[g,f,e];simp only[sliceRange_one,pick_run,Yd]<;>rfl
def TV(K:lD):V->z Int->z Int->Hp->VK->Prop:=λx lo d H Q=>∃a xs,x=.ref a/\SqL K H a xs/\∀p,H p=P->Q (.ref p) (bj H p (.lst (De xs lo d)))
def JP:RQ X (TV X.K):=by intro e s n H x v p o lo y t Q I g m pl i h;let(a,xs,rfl,l,q):=h;ext g;let(w,r,f,j):=I.list l;let d:=r.length;show#["list",_,ahT.lookup,f.isList.typeIs,?_];show wpAny_getItem_list_slice f.isList m pl i .none (by simp) ?_ (by rw[Yd]<;>ext);rw[sS,<-d];show#[.ref s.heap.objs.size,_,I.laid (λb u q=>cn _ q) (X6 _) ?_,W,q _ (I.Zl.fresh (X6 _))];show#[YN (pk xs lo y) j,_,0,(r.drop (HT.sIx xs.length 0 lo)).take (HT.sIx xs.length xs.length y - HT.sIx xs.length 0 lo),c5 _ W]
def ZS.or(h:ZS X f r)(c:ZS X f r'):ZS X f (λxs H Q=>r xs H Q\/r' xs H Q):=by
 intro d s e H xs g Q I i q;rcases q with q|q
 .show h d s e H xs g Q I i q
 .show c d s e H xs g Q I i q
def uS:ZS X (.type "list") (λxs H Q=>∃p ys,xs=[.ref p]/\(SqL X.K H p ys\/SqT X.K H p ys)/\∀l,H l=P->Q (.ref l) (bj H l (.lst ys))):=by
 intro j s C H xs F Q I r h;let(p,ys,rfl,t,q):=h;let(u,rfl,E):=gu r;ext E
 let y:∀(f:G T),Vals ys f->ys.length<=Yc->∀(d:Heap) (i:Nat),(∀b w,s.heap.get? b=R w->d.get? b=R w)->
   d.get? s.heap.objs.size=R {cls:=.type "list",dict:=P,data:=.seq f.toArray i,slots:= #v[]}->EP X j C Q (.ref s.heap.objs.size) {s with heap:=d}:=λf g m d i kp e=>
  #[.ref s.heap.objs.size,_,I.laid kp (X6 _) (show ObjOk X.prog X.w _ d _ (.lst ys)from#[m,f,i,g,e]),W,q _ (I.Zl.fresh (X6 _))]
 rcases t with t|t
 .let(f,g,pl,m):=I.list t;let v:=g.length;let(o,z,B,n,A):=pl.isList;show al7 p (.inl W) z B A (λd i kp e=>y f g m d i kp e) (by simp only[Yd]<;>ext)
 .let(f,g,pl,m):=I.tuple t;let v:=g.length;let(o,z,B,n,A):=pl;show al7 p (.inr W) z B A (λd i kp e=>y f g m d i kp e) (by simp only[Yd]<;>ext)
def sY:ZS X (.type "tuple") (λxs H Q=>∃p ys,xs=[.ref p]/\((SqL X.K H p ys/\∀l,H l=P->Q (.ref l) (bj H l (.tup ys)))\/(SqT X.K H p ys/\Q (.ref p) H))):=by
 intro g s z H xs A Q I r h;let(p,ys,rfl,h):=h;let(u,rfl,t):=gu r;ext t;rcases h with⟨f,q⟩|⟨f,q⟩
 .let(m,d,pl,i):=I.list f
  let j:=d.length;show call_tuple_list pl.isList (λv kp=>?_) (by simp only[Yd]<;>ext);let n:=I.kept (t':=s.toks) kp
  let y:=
   n.laid (t':=s.toks) (λb o e=>cn _ e) (X6 _) (show ObjOk X.prog X.w _ _ _ (.tup ys)from#[i,m,d,acq.new _ _])
  show#[.ref v.objs.size,_,y,W,q _ (n.Zl.fresh (X6 _))]
 .let(m,d,pl,i):=I.tuple f;show call_tuple_same pl #[.ref p,H,I,W,q]
def Vb(K:lD)(T:String)(x:V)(H:Hp):Prop:=match x with
 |.str _=>T= "str"
 |.int _=>T= "int"
 |.ref p=>(T= "list"/\∃xs,SqL K H p xs)\/(T= "tuple"/\∃o,K.lookup p=R o/\o.cls=.type "tuple"/\o.dict=P)\/
   (T= "dict"/\((∃d,H p=R (.dK d))\/∃d,H p=R (.dT d)))\/(T= "set"/\∃S n,H p=R (.set S n))
 |_=>False
def GY(I:Inv X pins σ H s)(r:RelV x v)(ty:Vb X.K m x H):
  s.TypeIs v m/\∀a,v=.ref a->∃k,s.heap.get? a=R k/\k.dict=P:=by
 cases x with
 |str z=>let(t,rfl):=r;cases(show m= "str" from ty);show#[aa8 s z t,λ_ e=>nomatch e]
 |int i=>let(t,rfl):=r;cases(show m= "int" from ty);show#[acA s i t,λ_ e=>nomatch e]
 |ref p=>
  ext r;rcases ty with⟨rfl,xs,h⟩|⟨rfl,o,d,j,g⟩|⟨rfl,d⟩|⟨rfl,S,n,d⟩
  .let(l,_,pl,_):=I.list h;show#[pl.isList.typeIs,λa e=>?_];ext e;let(o,n,e,c,g,_):=pl;show#[o,e,g]
  .show#[#[o,I.kIn p o d,j],λa e=>?_];ext e;show#[o,I.kIn _ o d,g]
  .let z:∃o,s.heap.get? p=R o/\o.ExactDict:=by
    rcases d with⟨q,d⟩|⟨q,d⟩
    .let(_,_,_,_,o,_,_,e,f,_):=I.Zl p _ d;show#[o,e,f]
    .let(_,_,_,_,o,_,_,e,f,_):=I.Zl p _ d;show#[o,e,f]
   let(o,e,f):=z;show#[#[o,e,f.1],λa e2=>?_];ext e2;show#[o,e,f.2.1]
  .let(o,_,_,_,e,f,_):=I.Zl p _ d;show#[#[o,e,f.1],λa e2=>?_];ext e2;show#[o,e,f.2.1]
 |_=>show False.elim ty
def Td(K:lD)(T:String)(r:V->G V->Hp->VK->Prop)(to:TE):TE:=λe H Q=>to e H λx d=>Vb K T x d/\r x [] d Q
def Q7(K:lD)(T:String)(r:V->G V->Hp->VK->Prop)(to:TE)(t:TA):TE:=λd H Q=>to d H λx e=>Vb K T x e/\t d e λxs f=>r x xs f Q
variable{o e:Yo}{es:cc Yo}{to:TE}{t:TA}{U:Str}{Y Z:Pos}{T O:String}{r:V->cc V->Hp->VK->Prop}
def Pz(p:PlainAttrs T)(slot:Slot T U O)(f:typeOf (.builtin O)=pure (.type "method_descriptor"))(hm:Mz X O r)(q:PE X o to)
  (g:attributeBase o U X.env (eval o X.env)=eval o X.env:=by rfl) (i:(Y.endLine==Z.line)=S:=by rfl):PE X (.Call (.Attribute o U Y) [] [] Z) (Td X.K T r to):=by
 intro d s j H Q I h;show wpAny_Call_method0_late g i (b9 (q d s j H _ I h) λv m #[x,y,l,r1,ty,n]=>?_);let(w,u):=GY l r1 ty;show#[T,O,p,slot,f,w,u,Calls.callWith_builtin W (PySem.evalArgs_none (hm d m j y x [] v [] Q l r1 .nil n))]
def Mq(B:PlainAttrs T)(slot:Slot T U O)(g:typeOf (.builtin O)=pure (.type "method_descriptor"))(hm:Mz X O r)(E:PE X o to)(c:PA X (e::es) t)
  (l:attributeBase o U X.env (eval o X.env)=eval o X.env:=by rfl)
  (i:((backTo Z (Yp (e::es) X.env)).all (λx=> !x.1)&&(backToKw Z (keywordEach [] X.env)).all (λx=>x.1.isSome)
   &&decide ((e::es).length+([]:cc aa0).length+(if([]:cc aa0).isEmpty then 0 else 1)<30))=S:=by rfl)
  (m:(Y.endLine==Z.line)=S:=by rfl) (C:Yp (e::es) X.env=(XZ,eval e X.env)::Yp es X.env:=by rfl) (j:(backTo Z (Yp es X.env)).any (·.1)=XZ:=by rfl):
  PE X (.Call (.Attribute o U Y) (e::es) [] Z) (Q7 X.K T r to t):=by
 intro d s f H Q I h;show wpAny_Call_method_late l i m W (b9 (E d s f H _ I h) λv w #[x,N,p,r1,ty,A]=>?_);let(G,F):=GY p r1 ty;show#[T,O,B,slot,g,G,F,?_];let n:=c Z d w f N _ p A;rw[C]at n⊢;show Calls.callWith_builtin (by show(XZ||(backTo Z (Yp es X.env)).any (·.1))=XZ;rw[j]<;>rfl) (Calls.evalArgs_plain ?_);show b9 n λq u #[vs,L,K,y,z]=>hm d u f L x vs v q Q K r1 y z
end
def V4(X:Cx)(id:String)(r:V->G V->Hp->VK->Prop):Prop:=
 ∀(a:G (J×Obj)) (s:X3) (b:St) (H:Hp) (x:V) (xs:G V) (v:T) (d:G T) (Q:VK),Inv X a b H s->RelV x v->Vals xs d->r x xs H Q->
  wpAny (model X.prog X.w) X.A (call (.builtin id) (v::d)) (EP X a b Q) X.xe s
theorem Vals.one:∀{x:V} {us:G T},Vals [x] us->∃u,us=[u]/\RelV x u
 |_,_,.cons r .nil=>#[_,W,r]
theorem Vals.rep(h:Vals xs us):∀k:Nat,Vals (X1 k xs).flatten (X1 k us).flatten
 |0=>.nil
 |k+1=>by rw[Y4,Y4,Zu,Zu];show Vals.append h (Vals.rep h k)
theorem oU(a:G T):∀(k:Nat) (acc:G T),
  abl (λc b=>c++b) acc.toArray (X1 k a.toArray)=(acc++(X1 k a).flatten).toArray
 |0,acc=>by simp
 |k+1,acc=>by
  let e:acc.toArray++a.toArray=(acc++a).toArray:=by simp
  let e2:(acc++a)++(X1 k a).flatten=acc++(X1 (k+1) a).flatten:=by rw[Y4,Zu,YR]
  rw[<-e2,<-oU a k (acc++a),<-e,Y4,abq]
section
variable{X:Cx}{Z:cc (X5×Obj)}{Y:St}{H:Hp}{s:X3}{l b:X5}{Q U O:cc V}
def Inv.aiV{d a:G T}(I:Inv X Z Y H s)(m:H l=R (.lst Q))
  (e:s.heap.get? l=R {cls:=.type "list",data:=.seq d.toArray n}) (i:f d.toArray=a.toArray) (g:Vals U a) (c:U.length<=Yc):
  Inv X Z Y (bj H l (.lst U)) {s with heap:=s.heap.update l (Obj.mapSeq f),toks:=t'}:=by
 let q:=an4 e f;rw[i]at q;show I.write (by rw[m];show trivial) (.inl W) (λo u j h=>(c6 s.heap (Obj.mapSeq f) (d0 j)).trans h) #[_,q] ?_;show#[c,a,_,g,q]
theorem Inv.ahi(I:Inv X Z Y H s)(a:Vals U YI)(c:U.length<=Yc):
  Inv X Z Y (bj H s.heap.objs.size (.lst U)) {s with heap:=s.heap.push {cls:=.type "list",data:=.seq YI.toArray},toks:=t'}:=
 I.laid (λ_ _ q=>cn _ q) (X6 _) #[c,YI,0,a,c5 _ W]
theorem Inv.fresh(I:Inv X Z Y H s):H s.heap.objs.size=P:=I.Zl.fresh (X6 _)
def Inv.agn(I:Inv X Z Y H s)(d:H l=R (.lst Q)):Q.length<=Yc/\∃(a:G T) (n:Nat),Vals Q a/\Q.length=a.length/\s.heap.get? l=R {cls:=.type "list",data:=.seq a.toArray n}:=by let(z,a,n,r,e):=I.Zl l _ d;show#[z,a,n,r,r.length,e]
def wF(h:n<=Yc):Yx.List.listTooLong n=M:=by ext Yx.List.listTooLong;show bg ()
end
section
variable{X:Cx}
def uB:V->G V->Hp->VK->Prop:=λx a H Q=>∃l xs y,x=.ref l/\a=[y]/\H l=R (.lst xs)/\xs.length<Yc/\Q .non (bj H l (.lst (xs++[y])))
def oO:V4 X "list.append" uB:=by intro a s i H x t v j Q I d p h;let(l,xs,y,rfl,rfl,b,m,q):=h;ext d;let(u,rfl,f):=p.one;let(z,g,n,r,o,e):=I.agn b;show Z3 F.slot_list_append #[_,e,W] F.entry_list_append (F.args_list_append_2 _ _) (PySem.list_append l g.toArray n u (by rw[Yd];ext)) #[e,?_];show#[.non,_,I.aiV b e (by simp) (r.append (.cons f .nil)) ?_,W,q];rw[Yb,Z1];ext
def zW:V->G V->Hp->VK->Prop:=λx a H Q=>∃l b xs zs,x=.ref l/\a=[.ref b]/\H l=R (.lst xs)/\H b=R (.lst zs)/\xs.length+zs.length<=Yc/\Q .non (bj H l (.lst (xs++zs)))
def C4:V4 X "list.extend" zW:=by
 intro i s A H x L v E Q I m K h;let(l,b,xs,B,rfl,rfl,j,y,G,q):=h;ext m;let(u,rfl,o):=K.one;ext o;let(z,d,n,r,J,e):=I.agn j;let(C,a,t,p,w,e2):=I.agn y;let f:d.toArray.size+a.toArray.size<=Yc:=by rw[Yd,Yd];ext
 let g:¬(!d.toArray.isEmpty&&Yx.List.listTooLong (d.toArray.size+a.toArray.size))=S:=by rw[wF f,ac4];show X7
 show Z3 F.slot_list_extend #[_,e,W] F.entry_list_extend (F.args_list_extend_2 _ _)
  (AutoSeq1.list_extend_list_list_0 l d.toArray n b a.toArray t g (by rw[Yd];ext) ()) #[e,e2,?_]
 show#[.non,_,I.aiV j e (by simp) (r.append p) ?_,W,q];rw[Yb];ext
def zV(xs:G α)(k:Nat):(X1 k xs).flatten.length=k*xs.length:=by
 induction k with
 |zero=>simp
 |succ k a=>rw[Y4,Zu,Yb,a,aip,acm]
end
section
variable{Z:Yr}{w:YJ}{A:YC}{E:XY->X3->Prop}{s:X3}
set_option maxRecDepth 100000 in
end
end L2
namespace Att
open PySem PySem.W PySem.Calls PyProof.Rows
def pw:∀(ns:G Int) (c:G T),WellAll e h c (ns.map WData.int)->IntsAre c ns:=by
 intro ns
 induction ns with
 |nil=>intro c w;rw[abk]at w;ext w;show .nil
 |cons n ns d=>
  intro c w;rw[Yi]at w;cases w with
  |cons a b=>ext a;show .cons _ _ (d _ b)
def BN{l:OpenLaw}(k:l.most=R n)
  (e:l.row.toRowW.claim.pre args=S) (i:WellAll A h vals args):
  ∃a c ns,vals=[XY.ref a]/\args=[WData.list (ns.map WData.int)]/\h.get? a=R {cls:=.type "list",data:=.seq c.toArray}/\IntsAre c ns/\ns.length<=n:=by
 let j:=(pre_splitW e).1;let o:l.pre.holds [] {args:=args}=S:=(pre_splitW e).2;let(d,r,rfl,z,y):=hasAllW_cons j;obtain rfl:=hasAllW_nil y;let(xs,rfl,w):=hasW_list z;let(ns,rfl):=items_int w;let b:ns.length<=n:=by
  unfold OpenLaw.pre at o;let g:(WTm.not (.lt (.lit (.int (n:Int))) (.len (.arg 0)))).holds [] {args:=[.list (ns.map .int)]}=S:=by let g:=(holds_andW o).1;rw[k]at g;show g
  let f:=condW_of g (w_not (w_lt w_lit (w_len_list (w_arg W))));rw[X4]at f;show Nat.le_of_not_lt λq=>?_;let u:(n:Int)<((ns.length:Nat):Int):=by ext
  first
   |(rw[a7 u]at f;show b4 f ())
   |(simp at f;ext)
 cases i with
 |cons t p=>
  ext p;cases t with
  |list v m=>show#[_,_,ns,W,W,v,pw ns _ m,b]
theorem Db(l:OpenLaw)(args:G WData):l.row.toRowW.claim.post args (.bool S) args=S:=
 postW_of
  (show WShape.has [] (.bool S) .bool=S by first|rfl|decide|simp[WShape.has,WShape.arms,WShape.armsAll])
  (show(WTm.eq .res (.lit (.bool S))).value [] {args:=args,res:=R (.bool S),after:=args}=R (.bool (S==S))from w_eq_bool (w_res W) w_lit) W
def attach_call{l:OpenLaw}{n:Nat}{q:Yr}{e:cc Str}{H:(Str->ck T)->Heap->Prop}{F:YJ->Heap->Prop}{d:DefRec}
  (U:l.most=cL n) (v:d.params.defaults=[])
  (call:∀(w:YJ) (c b:X3) (D p:Str->ck T) (s:X5) (o:Obj) (m j h:T) (a:X5) (k:cc T) (ns:cc Int),
   Ground q e [] H w c D p b.heap->F w b.heap->
   b.heap.get? s=cL o->o.data=.func (docDef d.name d.params d.body d.scope m j h)->b.heap.CodeRec j d.name->D d.name=cL (.ref s)->
   b.heap.get? a=cL {cls:=.type "list",data:=.seq k.toArray}->IntsAre k ns->ns.length<=n->b.gens= #v[]->
   codeAny (model l.prog w) callerA (.call (.ref s) #[[.ref a],[]]) (λr x=>r=.ok (.ret (.bool XX))/\OldK b.heap x.heap/\x.os=b.os/\AllBare x.gens) b):
  WalkO q e H F l.row.toRowW d [] (λf k=>aiq f k):=by
 intro w c b D p G Y s o m j h R kV K N y C u M E B as A S I t L;obtain rfl:R=.none:=Dflts.none C v;obtain rfl:kV=.none:=Dflts.noKw C;let(a,k,ns,rfl,rfl,z,g,i):=BN U A t;show enter_call (aaZ (call w c b D p s o m j h a k ns G Y K (fd_plain N) y u z g i M) λr x J=>?_);let(rfl,Q,P,O):=J;show#[.inl #[.bool XX,.bool XX,[],W,λ_=>W,.bool XX,Db l _,λ_=>#[aad,λ_ hm=>(nomatch hm)]],Q,P,O]
end Att
namespace L2
open PySem PySem.Spec PyProof.Rows
theorem jS:∀{a:G T} {ns:G Int},IntsAre a ns->Vals (ns.map V.int) a
 |_,_,.nil=>.nil
 |_,_,.cons n t h=>.cons #[t,W] (jS h)
def TQ(H:Hp):Prop:=∀b,H b=P\/∃o xs,H b=R (.frz o (.lst xs))
def G6{P:Yr}{w:YJ}{K:lD}{mg C:Str->ck XY}{X:we}{k:Nat}{fa a:X5}{T:Zq}{x:Str}{sp:Sp}{f:X3}{D:cc XY}{ns:cc Int}
  (U:K.In f.heap) (p:f.heap.Ns Yj mg) (g:f.heap.Ns builtinsNs C) (G:∀x:Str,x≠ "__name__"->C x=YO x) (N:f.heap.NoLimit) (hg:f.gens= #v[])
  (ha:f.heap.get? a=cL {cls:=.type "list",data:=.seq D.toArray}) (hi:IntsAre D ns) (Q:ns.length<=Yc) (hr:ZN k callerA)
  (F:∀base:Heap,K.In base->base.Ns Yj mg->FnOk P w K mg base X k fa T [x] sp) (O:∀(s:X3) (u:XY),acg s T #[[u],[]] [(x,u)])
  (E:∀H:Hp,TQ H->SqL K H a (ns.map V.int)->sp [.ref a] H (λv _=>v=.bl XX) λ_ _ _=>False)
  (I:∀H e c,X [] H f (λ_ _ _=>False) e c->False):
  codeAny (model P w) callerA (.call (.ref fa) #[[.ref a],[]]) (λr c=>r=.ok (.ret (.bool XX))/\OldK f.heap c.heap/\c.os=f.os/\AllBare c.gens) f:=by
 let rv:=jS hi;let M:=hi.length
 let j:∀H:Hp,TQ H->SqL K H a (ns.map V.int)->HOk P w H f.heap->(∀b,H b≠CL->b=a)->(H a≠CL->K.lookup a=CL)->
   codeAny (model P w) callerA (.call (.ref fa) #[[.ref a],[]]) (λr c=>r=.ok (.ret (.bool XX))/\OldK f.heap c.heap/\c.os=f.os/\AllBare c.gens) f:=by
  intro H R hS Zl S hK;let iB:∀{b:X5} {o:Obj},f.heap.get? b=cL o->H b=CL->(vv f.heap H).get? b=cL o:=λe n=>DP e n;let B:∀{b:X5} {o:Obj} {es:Array acf} {y:Nat},f.heap.get? b=cL o->o.data=.dict es y->H b=CL:=λ{b o es y} e d=>by
   cases q:H b with
   |none=>rfl
   |some u=>let J:b=a:=S b (by rw[q];simp);subst J;rw[ha]at e;ext e;let d':acB.seq D.toArray _=acB.dict es y:=d;ext d'
  let i:∀{b:X5} {m:Str->ck XY},f.heap.Ns b m->(vv f.heap H).Ns b m:=λ{b m} #[o,es,y,e,d,r]=>#[o,es,y,iB e (B e d),d,r];let t:K.In (vv f.heap H):=λb o e=>iB (U b o e) (by
   cases q:H b with
   |none=>rfl
   |some u=>let J:b=a:=S b (by rw[q];simp);subst J;rw[hK (by rw[q];simp)]at e;ext e)
  let hM:Mod K mg (vv f.heap H):=#[t,i p,#[C,i g,G],let#[mc,h1,h2]:=N;#[mc,i h1,h2]];let e0:Env0 P w K mg (vv f.heap H) callerA [] f H:=#[W,hM,λb o e=>Lw e,ain (BZ _ _),trivial,λb g=>b4 (show b∈([]:cc X5)from g) (by simp),Zl,.of_eq hg];show aaZ ((F _ t (i p)).run callerA [] f H #[[.ref a],[]] [.ref a] [.ref a] _ _ hr e0 (O f (.ref a)) (.cons W .nil) (E H R hS)) λr c h=>?_;cases r with
  |error e=>show(I H e c h).elim
  |ok fl=>
   cases fl with
   |next=>show False.elim h
   |brk=>show False.elim h
   |cont=>show False.elim h
   |ret u=>
    let(v,H',os,A,un,L,Z,q):=h;let q':v=.bl XX:=q;subst q';obtain rfl:u=XY.bool XX:=Z;show#[W,OldK.of_keep λb o e=>?_,os,A];cases q:H b with
    |none=>show un.keep b o e q (by intro z;show b4 (show b∈([]:cc X5)from z) (by simp)) (by simp)
    |some u=>
     rcases R b with z|⟨ob,xs,z⟩
     .rw[q]at z;ext z
     .let Y:=un.ac1 b ob _ z;let(e1,_):=Zl b _ z;let(e2,_):=L b _ Y;rw[e]at e1;ext e1;show e2
 cases hk:K.lookup a with
 |some o=>let e:=U a o hk;rw[ha]at e;ext e;show j (λ_=>CL) (λ_=>.inl W) (.inr #[_,D.toArray,_,hk,W,W,W,by rw[Yd,M];show Q,by simpa using rv]) (λb u z=>by let l:(CL:ck HO)=cL u:=z;ext l) (λb z=>b4 W z) λz=>b4 W z
 |none=>
  show j (λb=>if b=a then cL (.frz {cls:=.type "list",data:=.seq D.toArray} (.lst (ns.map V.int)))else CL) (λb=>?_) (.inl (.inr #[{cls:=.type "list",data:=.seq D.toArray},ax W])) (λb u z=>?_) (λb z=>?_) λ_=>hk
  .by_cases g:b=a
   .show .inr #[_,_,ax g]
   .show .inl (a6 g)
  .by_cases g:b=a
   .let l:=(ax g).symm.trans z;ext l;subst g;show#[ha,by rw[X4];show Q,D,_,rv,ha]
   .let l:=(a6 g).symm.trans z;ext l
  .by_cases g:b=a
   .show g
   .show b4 (a6 g) z
def ay(s:ZW)(j:Nat):ZW:=match s with
 |.ClassDef _ _ _ body _ _ _ _ _ _ _=>body.getD j (.Pass #[0,0,0,0])
 |_=>.Pass #[0,0,0,0]
def lX(s:ZW):Arguments:=match s with
 |.FunctionDef _ a _ _ _ _ _ _ _ _=>a
 |_=>{posonlyargs:=[],args:=[],vararg:=P,kwonlyargs:=[],kw_defaults:=[],kwarg:=P,defaults:=[]}
def eV(s:ZW):G ZW:=match s with
 |.FunctionDef _ _ b _ _ _ _ _ _ _=>b
 |_=>[]
def aG(s:ZW):ZO:=match s with
 |.FunctionDef _ _ _ _ _ _ sc _ _ _=>sc
 |_=>{kind:=.function,names:=[],isGenerator:=M,isCoroutine:=M}
abbrev oa:we:=λ_ _ _ _ _ _=>False
abbrev E0:XK:=λ_ _ _=>False
theorem AN:eA oa X E0:=λ_ _ _ _ _ _ _ h=>h.elim
structure Fun(K:lD)(x qual:Str)(st:ZW)(f:J)(fd:Zq):Prop where
 ex:∃(oc:T) (od:z J) (kV doc pm:T) (an:z J) (cdv ct:T) (osl:Array (z T)),
  fd=Z7 x qual (lX st) (eV st) (aG st) .none kV doc pm an cdv ct/\K.lookup f=R #[oc,od,.func fd,osl]/\abp K cdv qual=S
 kp:ZR K (.ref f)=S
section
variable{P:Yr}{w:YJ}{K:lD}{Y:Str->ck XY}{Z:Heap}
def Fun.ok{x a:Str}{st:ZW}{f:J}{i:Zq}{N v:G Str}{k:Nat}{sp:Sp}(F:Fun K x a st f i)(S:aay N v (aG st))(len:∀c H Q E,sp c H Q E->c.length=v.length)
  (g:∀(b:T) (A:YC) (outer:G Env) (s:X3) (H:Hp) (c:G V) (Q:VK) (E:XK),ZN k (A.deeper (envOfC a (aG st) s.heap.objs.size f b))->sp c H Q E->
   ∃t,PSs (me oa P w K Y Z N a (aG st) f b A outer s H E).nox (eV st) t/\t {nx:=λ_ y=>Q .non y,rt:=Q} (start N c) H):FnOk P w K Y Z oa (k+1) f i v sp:=by
 let(r,p,kV,n,o,u,b,ct,j,rfl,l,e):=F.ex;show Sl l e S len λA outer s H c Q E m d=>?_;let(t,h,q):=g b A outer s H c Q E m d;show#[t,h.nox,q]
def Fun.binds{x a:Str}{st:ZW}{f:J}{i:Zq}{c:G Str}(F:Fun K x a st f i)
  (h:∀(kV b e:T) (g:z J) (d ct:T) (us:G T),us.length=c.length->bindArgs (Z7 x a (lX st) (eV st) (aG st) .none kV b e g d ct) #[us,[]]=pure (c.zip us)):Binds K i c []:=by
 let(n,m,kV,b,e,g,d,ct,j,rfl,o,l):=F.ex;show .all (h kV b e g d ct)
theorem Gq{st:ZW}{kV b d a ct:T}(l:K.lookup f=R #[I,C,.func (Z7 x qual (lX st) (eV st) (aG st) .none kV b d an a ct),o])
  (c:abp K a qual=S) (k:ZR K (.ref f)=S):Fun K x qual st f (Z7 x qual (lX st) (eV st) (aG st) .none kV b d an a ct):=#[#[I,C,kV,b,d,an,a,ct,o,W,l,c],k]
end
theorem FQ(a:ZN k A):A.units+1<cLine:=Nat.lt_of_le_of_lt (Nat.add_le_add_left (by decide:1<=64) _) a.units
def Zw(H a:Hp):Prop:=∀b o,H b=R o->a b=R o
theorem Zw.refl(H:Hp):Zw H H:=λ_ _ h=>h
theorem Zw.trans(a:Zw H H1)(b:Zw H1 H2):Zw H H2:=λc o h=>b c o (a c o h)
def Zw.free(e:Zw H H')(h:H' l=P):H l=P:=by
 cases q:H l with
 |none=>rfl
 |some o=>rw[e l o q]at h;ext h
end L2
set_option maxHeartbeats 4000000
namespace L2
open PySem PySem.Spec PyProof.Rows
section
variable{X:Cx}{Z:cc (X5×Obj)}{U:St}{H:Hp}{s:X3}{Y:Heap}
def Inv.abc{ch:G J}(I:Inv X Z U H s)(h:∀b∈ch,mi X Z H b)
  (k:∀b u,b∉ch->s.heap.get? b=R u->Y.get? b=R u) (j:s.heap.objs.size<=p)
  (new:ObjOk X.prog X.w (bj H p o) Y p o):Inv X Z U (bj H p o) {s with heap:=Y,toks:=t'}:=by
 let w:=I.Zl.fresh j;let d:∀b u,H b=R u->b∉ch:=λb u e z=>by rw[(h b z).1]at e;ext e
 let g:∀b u,s.heap.get? b=R u->b≠p:=λb u e=>Yk (Yu (cv e) j);show I.step (λb f=>?_) (λb u _ _ a e _=>k b u a e) (λb u _ _ a e _=>#[u.slots,k b u a e])
  (λb u _ e n=>by rw[aQ (g b u e)];show n) (λb u a e=>#[u,k b u a e]) (λb xs e=>by rw[aQ (bK e w)];show e)
  (λb u xs e=>by rw[aQ (bK e w)];show e) (λb E e=>#[#v[],by rw[aQ (bK e w),e];simp]) (λm hm=>?_) (λb u e=>?_) I.bare
 .let(_,B,_,A,y,t):=h b f;show#[A,B,y,t]
 .let(i,es,C,l,r):=hm;show#[i,es,C,k _ i (λz=>(h _ z).2.1 W) l,r]
 .by_cases f:b=p
  .subst f;rw[aI]at e;ext e;show new
  .rw[aQ f]at e
   show(I.Zl b u e).acr (λc v a q=>k c v ?_ q) (λc q=>by rw[aQ (bK q w)];show q) λc xs q=>by rw[aQ (bK q w)];show q
   rcases a with z|z
   .rw[z];show d b u e
   .show d c _ z
end
def UJ(K:lD)(a:J):It:=
 #[λi H=>∃xs x,SqL K H a xs/\xs[i]?=R x,
  λi H v b=>∃p x,H p=P/\v=.ref p/\(∀xs,SqL K H a xs->xs[i]?=R x)/\b=bj H p (.tup [.int i,x]),
  λi H=>∃xs,SqL K H a xs/\xs.length<=i]
theorem BI{K:lD}{c}(a e j:X5)(t:e≠j):
  Turn Pz0 w K (.Tuple elts c tp) (UJ K a) [e,j] e (λi h=>(∃old,aeh h e j i old)/\h.IsListIter j a i) where
 mem:=by simp
 obj:=λi h m b g=>by
  let((old,l),o,G,_,d):=m;rcases Yg.mp g with z|g
  .subst z;show#[_,l,λv z=>by cases(show acB.fields _=acB.cell v from z)]
  .let z:b=j:=by simpa using g
   subst z;show#[o,G,λv z=>by rw[d]at z;ext z]
 keep:=λi h h' m k=>by let((old,l),f):=m;show#[#[old,k e (by simp) _ l],f.at λo q=>k j (by simp) o q]
 item:=by
  intro X Q F R U i n s T H E I B m L;subst Q F R;let((old,l),f):=m;let(xs,x,A,C):=L;let(YI,rv,p,hz):=I.list A;let(u,hu,ru):=rv.get C;show wpAny_pyNext_enum_item l f p.isList (by simpa using hu) t λh1 G S hT hsz hk=>#[_,W,?_];show aa9 G λZ M r=>?_;let y:=cv l;let J:j<s.heap.objs.size:=by let(_,z,_):=f;show cv z
  let hn:=I.Zl.fresh (X6 _);let c:∀b o,b∉[e,j]->s.heap.get? b=cL o->Z.get? b=cL o:=λb o g q=>by let Y:b≠e:=λz=>g (by simp[z]);let h4:b≠j:=λz=>g (by simp[z]);show(r.2 b Y).trans (hk b o Y h4 q)
  let O:=(r.2 _ (Y1 y)).trans hT
  let I2:Inv X n T (bj H s.heap.objs.size (.tup [.int i,x])) {s with heap:=Z,toks:=s.toks+1}:=
   I.abc B c (X6 _) #[by show 2<=Yc;decide,[.int i s.toks,u],.cons #[_,W] (.cons ru .nil),#[_,O,#[W,_,W],W]]
  show#[.ref s.heap.objs.size,_,I2,W,#[_,x,hn,W,λys hy=>by rw[I.adU hy A];show C,W],#[#[u,M],S.at λo q=>(r.2 j t.symm).trans q],λb g=>?_];let N:b≠s.heap.objs.size:=by
   rcases Yg.mp g with z|g
   .rw[z];show Yk y
   .rw[show b=j by simpa using g];show Yk J
  rw[aQ N];show(B b g).1
 done:=by intro X Q F R U i n s T H E I B m L;subst Q F R;let((old,l),f):=m;let(xs,A,C):=L;let(YI,rv,p,hz):=I.list A;let(f0,f1,f2,f3,f4,f5):=B j (by simp);let hl:=rv.length;show wpAny_pyNext_enum_end (I.ok.hd U) l f p.isList (by simp;ext) λh1 eb=>#[W,I.turned (λb o g q=>eb b o g q) f0 f1 f3 f4 f5]
 self:=λ_ _ _ _ _ m h=>by let((old,l),_):=m;show aab l h
mutual
inductive DV(K:lD)(H:Hp):V->X2->Prop
 |non:DV K H .non .none
 |bl (b:Bool):DV K H (.bl b) (.bool b)
 |int (i:Int):DV K H (.int i) (.int i)
 |str (x:Str):DV K H (.str x) (.str x)
 |tup {a:X5} {xs:cc V} {ds:cc X2}:SqT K H a xs->Zn K H xs ds->DV K H (.ref a) (.tuple ds)
 |lst {a:X5} {xs:cc V} {ds:cc X2}:SqL K H a xs->Zn K H xs ds->DV K H (.ref a) (.list ds)
inductive Zn(K:lD)(H:Hp):cc V->cc X2->Prop
 |nil:Zn K H [] []
 |cons {v:V} {vs:cc V} {d:X2} {ds:cc X2}:DV K H v d->Zn K H vs ds->Zn K H (v::vs) (d::ds)
end
section
variable{X:Cx}{Z:cc (X5×Obj)}{σ:St}{H:Hp}{s:X3}
mutual
theorem DV.reads(I:Inv X Z σ H s):∀{v:V} {d:X2} {u:XY},DV X.K H v d->RelV v u->∃as,aei s.heap u d as
 |_,_,_,.non,r=>by cases r;exact⟨_,.none⟩
 |_,_,_,.bl b,r=>by cases r;exact⟨_,.bool b⟩
 |_,_,_,.int i,r=>by obtain⟨t,rfl⟩:=r;exact⟨_,.int i t⟩
 |_,_,_,.str x,r=>by obtain⟨t,rfl⟩:=r;exact⟨_,.str x t⟩
 |_,_,_,.tup h hs,r=>by cases r;obtain⟨a,rv,⟨o,e,c,n,d⟩,_⟩:=I.tuple h;obtain⟨as,q⟩:=Zn.reads I hs rv;exact⟨_,.tuple e c d (by simpa using q)⟩
 |_,_,_,.lst h hs,r=>by cases r;obtain⟨a,rv,⟨o,n,e,c,_,d⟩,_⟩:=I.list h;obtain⟨as,q⟩:=Zn.reads I hs rv;exact⟨_,.list e c d (by simpa using q)⟩
theorem Zn.reads(I:Inv X Z σ H s):∀{vs:cc V} {ds:cc X2} {us:cc XY},Zn X.K H vs ds->Vals vs us->∃as,ab5 s.heap us ds as
 |_,_,_,.nil,r=>by cases r;exact⟨_,.nil⟩
 |_,_,_,.cons h hs,r=>by
  cases r with
  |cons r1 a=>obtain⟨as,q⟩:=DV.reads I h r1;obtain⟨bs,b⟩:=Zn.reads I hs a;exact⟨_,.cons q b⟩
end
end
def Jc(K:lD)(a:Bool):R2:=λx y H Q=>∃b d,DV K H x b/\DV K H y d/\b.canLay0=S/\d.canLay0=S/\b.depth<=64/\Q (.bl (if a then !X2.eqv b d else X2.eqv b d)) H
section
variable{X:Cx}
def Pn(m:X.A.units+64<cLine):OpR X (Y9 .Eq) (Jc X.K M):=by intro a s l H x y v u Q I d b h;let(p,o,j,i,g,f,n,q):=h;let(as,r1):=j.reads I d;let(bs,e):=i.reads I b;show akb r1 e g f () #[.bl _,H,I,W,q]
def Pc(m:X.A.units+64<cLine):OpR X (Y9 .NotEq) (Jc X.K S):=by intro a s l H x y v u Q I d b h;let(p,o,j,i,g,f,n,q):=h;let(as,r1):=j.reads I d;let(bs,e):=i.reads I b;show akc r1 e g f () #[.bl _,H,I,W,q]
theorem Gu:OpR X (Zp .FloorDiv) (rI (λ_ j=>0<j/\j.natAbs.log2<9000) λi j=>.int (i/j)):=RX λi j _ _ _ _ _ a q=>by let b:(0:Int)<j:=a.1;show floordiv_int () (by rw[adb i ()];show q) (.inl (PyProof.noPylong_of_log2 a.2))
end
def hW(env:Env):G (Str×Ym)->G (Str×J)->G (Str×J)
 |[],acc=>acc
 |(n,k)::r,acc=>if(k==Ym.free)=S then(match env.cells.lookup n with|some c=>hW env r ((n,c)::acc)|none=>hW env r acc)else hW env r acc
theorem mG{f:Str×Ym->G (Str×J)->Sem (ForInStep (G (Str×J)))}
  (d:∀n k acc,(k==Ym.free)=M->f (n,k) acc=pure (.yield acc)) (b:∀n c acc,env.cells.lookup n=R c->f (n,.free) acc=pure (.yield ((n,c)::acc))):
  ∀(names:G (Str×Ym)) (acc:G (Str×J)),(∀y∈names,y.2=.free->∃c,env.cells.lookup y.1=R c)->forIn names acc f=pure (hW env names acc)
 |[],acc,_=>rfl
 |(n,k)::r,acc,h=>by
  let g:=λy j=>h y (Ya _ j);rw[abr];cases l:(k==Ym.free)with
  |false=>rw[d n k acc l,pure_bind];show forIn r acc f=_;rw[mG d b r acc g];simp only[hW,l,aam,if_false]
  |true=>
   let e:k=.free:=by simpa using l
   subst e;let(c,i):=h _ X9 W;rw[b n c acc i,pure_bind];show forIn r ((n,c)::acc) f=_;rw[mG d b r _ g];let a:=i;simp only[hW,l,if_true,a]
def rS(h:∀y∈scope.names,y.2=.free->∃c,env.cells.lookup y.1=R c):closureFor scope env=pure (hW env scope.names []):=by simp only[closureFor];rw[mG (λn k a b=>by simp only[b,aam,if_false]) (λn c a d=>by simp only[ec,if_true,cellOf,d,pure_bind]) scope.names [] h,pure_bind]
theorem lF:∀(names:G (Str×Ym)) (acc:G (Str×J)),(∀x c,acc.lookup x=R c->env.cells.lookup x=R c)->∀x c,(hW env names acc).lookup x=R c->env.cells.lookup x=R c
 |[],_,h,x,c,e=>h x c e
 |(n,k)::r,acc,h,x,c,e=>by
  unfold hW at e;split at e
  .split at e
   .rename_i f a
    show lF r _ (λy d q=>?_) x c e;rw[YM]at q;split at q
    .rename_i b;ext q;rw[eq_of_beq b];show a
    .show h y d q
   .show lF r acc h x c e
  .show lF r acc h x c e
theorem lL:∀(names:G (Str×Ym)) (acc:G (Str×J)) (x:Str),(acc.lookup x).isSome=S->((hW env names acc).lookup x).isSome=S
 |[],_,_,h=>h
 |(n,k)::r,acc,x,h=>by
  ext hW;split
  .split
   .show lL r _ x ?_
    rw[YM];split
    .rfl
    .show h
   .show lL r acc x h
  .show lL r acc x h
theorem nH:∀(names:G (Str×Ym)) (acc:G (Str×J)) (x:Str) (c:J),(x,Ym.free)∈names->env.cells.lookup x=R c->((hW env names acc).lookup x).isSome=S
 |[],_,_,_,h,_=>by ext h
 |(n,k)::r,acc,x,c,h,a=>by
  rcases Yg.mp h with z|h
  .ext z;simp only[hW,ec,if_true,a];show lL r _ _ (by simp[YM])
  .ext hW
   split
   .split
    .show nH r _ x c h a
    .show nH r acc x c h a
   .show nH r acc x c h a
def xa(h:(x,Ym.free)∈names)(a:env.cells.lookup x=R c):(hW env names []).lookup x=R c:=by
 let q:=nH names [] x c h a;cases e:(hW env names []).lookup x with
 |none=>rw[e]at q;ext q
 |some d=>let z:=lF names [] (λy d q=>by ext q) x d e;rw[a]at z;show z.symm
def wN{env:Env}{a:ZO}{x:Str}{k:Ym}(h:(relabel a env).names.lookup x=R k):∃k0,(x,k0)∈a.names/\(k=k0\/(k0=.free/\k=.cell)):=by
 let((n,k0),hm,e):=Yy.mp (Zy h);simp only at e;split at e
 .rename_i b
  ext e;let d:(k0==Ym.free)=S:=by rw[Ld,Ld]at b;show b.1.1
  show#[k0,hm,.inr #[by simpa using d,W]]
 .ext e;show#[_,hm,.inl W]
theorem jW{env:Env}:∀{names:G (Str×Ym)} {x:Str},names.lookup x=R .free->
  (names.map λ(n,k)=>if(k==Ym.free&&env.scope.kind==.function&&env.kindOf n==R .cell)then(n,Ym.cell)else(n,k)).lookup x=R .cell\/
  (names.map λ(n,k)=>if(k==Ym.free&&env.scope.kind==.function&&env.kindOf n==R .cell)then(n,Ym.cell)else(n,k)).lookup x=R .free
 |[],_,h=>by ext h
 |(n,k)::r,x,h=>by
  rw[YM]at h;rw[Yi];dsimp only;by_cases a:(k==Ym.free&&env.scope.kind==.function&&env.kindOf n==R .cell)=S
  .rw[ax a,YM]
   cases b:x==n with
   |true=>show .inl W
   |false=>rw[b]at h;show jW h
  .rw[a6 a,YM]
   cases b:x==n with
   |true=>rw[b]at h;show .inr h
   |false=>rw[b]at h;show jW h
def eX(own:G Str)(a:G (Str×Nat)):G Str:=own++a.map (·.1)
def iW(own:G Str)(b:G (Str×Nat))(a:St):St:=own.map (λ_=>P)++b.map λp=>(a[p.2]?).join
def adF(X:Cx)(a:ZO):G (Str×Nat)->Prop
 |[]=>True
 |p::r=>(X.N[p.2]?=R p.1/\a.names.lookup p.1=R .free/\(X.env.scope.names.lookup p.1=R .cell\/X.env.scope.names.lookup p.1=R .free))/\adF X a r
theorem adF.mem:∀{a:G (Str×Nat)},adF X scope a->∀p∈a,X.N[p.2]?=R p.1/\scope.names.lookup p.1=R .free/\(X.env.scope.names.lookup p.1=R .cell\/X.env.scope.names.lookup p.1=R .free)
 |[],_,p,b=>by ext b
 |q::r,h,p,b=>by
  rcases Yg.mp b with z|b
  .rw[z];show h.1
  .show h.2.mem p b
def uG(X:Cx)(a:ZO)(C:J):G (Str×J):=ZH (C+1) a.names (hW X.env a.names [])
theorem rp:∀(names:G (Str×Ym)) (n:Nat) (acc:G (Str×J)) (x:Str) (c:J),(ZH n names acc).lookup x=R c->(n<=c/\(x,Ym.cell)∈names)\/acc.lookup x=R c
 |[],_,_,_,_,h=>.inr h
 |(y,k)::r,n,acc,x,c,h=>by
  unfold ZH at h;by_cases b:(k==Ym.cell)=S
  .rw[ax b]at h
   let e:k=.cell:=by simpa using b
   rcases rp r _ _ x c h with⟨a,d⟩|a
   .show .inl #[aa4 a,Ya _ d]
   .rw[YM]at a
    split at a
    .rename_i f;ext a;show .inl #[X6 _,by rw[eq_of_beq f,e];show X9]
    .show .inr a
  .rw[a6 b]at h
   rcases rp r _ _ x c h with⟨a,d⟩|a
   .show .inl #[a,Ya _ d]
   .show .inr a
theorem DE:∀(names:G (Str×Ym)) (n:Nat) (acc:G (Str×J)) (x:Str),(x,Ym.cell)∉names->(ZH n names acc).lookup x=acc.lookup x
 |[],_,_,_,_=>rfl
 |(y,k)::r,n,acc,x,h=>by
  let b:=λz=>h (Ya _ z);ext ZH;by_cases a:(k==Ym.cell)=S
  .let e:k=.cell:=by simpa using a
   rw[ax a,DE r _ _ x b,YM];let d:(x==y)=M:=by show beq_eq_false_iff_ne.mpr λz=>h ?_;rw[z,e];show X9
   rw[d]
  .rw[a6 a];show DE r _ _ x b
theorem qH:∀(names:G (Str×Ym)) (h:Heap) (acc:G (Str×J)) (x:Str) (c:J),(ZH h.objs.size names acc).lookup x=R c->(h.objs.size<=c/\(pushCells h names).IsCell c P)\/acc.lookup x=R c
 |[],_,_,_,_,e=>.inr e
 |(y,k)::r,h,acc,x,c,e=>by
  unfold ZH at e;ext pushCells;by_cases b:(k==Ym.cell)=S
  .rw[ax b]at e⊢
   rw[<-dg h {cls:=.type "cell",data:=.cell P}]at e;rcases qH r _ _ x c e with⟨a,d⟩|a
   .rw[dg]at a;show .inl #[aa4 a,d]
   .rw[YM]at a
    split at a
    .ext a;show .inl #[X6 _,_,adQ _ _ _ _ (c5 _ W),W]
    .show .inr a
  .rw[a6 b]at e⊢;show qH r _ _ x c e
theorem zi:∀(names:G (Str×Ym)) (n:Nat) (acc:G (Str×J)),(∀x c,acc.lookup x=R c->c<n)->(∀x y c,acc.lookup x=R c->acc.lookup y=R c->x=y)->∀x y c,(ZH n names acc).lookup x=R c->(ZH n names acc).lookup y=R c->x=y
 |[],_,_,_,i,x,y,c,e1,e2=>i x y c e1 e2
 |(z,k)::r,n,acc,h1,i,x,y,c,e1,e2=>by
  unfold ZH at e1 e2;by_cases g:(k==Ym.cell)=S
  .rw[ax g]at e1 e2
   show zi r (n+1) ((z,n)::acc) (λa d q=>?_) (λa b d f e=>?_) x y c e1 e2
   .rw[YM]at q
    split at q
    .ext q;show ZU _
    .show ZM (h1 a d q)
   .rw[YM]at f e
    split at f
    .rename_i j
     split at e
     .rename_i h;rw[eq_of_beq j,eq_of_beq h]
     .ext f;show b4 (h1 b _ e) (Zc _)
    .split at e
     .ext e;show b4 (h1 a _ f) (Zc _)
     .show i a b d f e
  .rw[a6 g]at e1 e2;show zi r n acc h1 i x y c e1 e2
theorem yp:∀{names:G (Str×Ym)} {x:Str} {k a:Ym},(names.map (·.1)).Nodup->names.lookup x=R k->(x,a)∈names->k=a
 |[],_,_,_,_,h,_=>by ext h
 |(y,j)::r,x,k,a,d,h,hm=>by
  rw[Yi,Y6]at d;rw[YM]at h;rcases Yg.mp hm with e|b
  .ext e;rw[ec]at h;show(Yq h).symm
  .cases f:x==y with
   |true=>rw[eq_of_beq f]at b;show b4 (Yy.mpr #[_,b,W]) d.1
   |false=>rw[f]at h;show yp d.2 h b
def cI(X:Cx)(s:X3)(H:Hp)(a:ZO)(C:J)(N:G Str)(b:G J):Cx:=
 {X with N:=N,s₀:=s,H₀:=H,env:=compEnvC a (uG X a C) C X.env,outer:=X.stack,stack:=X.stack,ex:=b,fn:=λx=>((hW X.env a.names []).lookup x).isNone,pn:=[],xe:=λ_ _=>False}
section
variable{X:Cx}{Z:cc (X5×Obj)}{Y:St}{H:Hp}{s:X3}
def tX{a:ZO}(I:Inv X Z Y H s)(e:(hW X.env a.names []).lookup x=R c):X.env.cells.lookup x=R c/\c<s.heap.objs.size:=by let h:=lF _ _ (λ_ _ q=>by ext q) x c e;let(v,o,z,_):=I.cell x c h;show#[h,cv z]
theorem zS(I:Inv X Z Y H s)(B:scope.kind=.function)(m:(scope.names.map (·.1)).Nodup)
  (u:∀y∈scope.names,y.2=.free->∃c,X.env.cells.lookup y.1=R c) (f:s.heap.objs.size<=C) (i:∀b∈U,mi X Z H b) (d:∀b∈U,b<s.heap.objs.size):(cI X s H scope C N U).Ok where
 mod:=I.ok.mod
 kind:=B
 glob:=I.ok.glob
 blt:=I.ok.blt
 above:=f
 inj:=zi _ _ _ (λx c e=>ZM (Yu (tX I e).2 f)) λx y c A w=>I.ok.inj x y c (tX I A).1 (tX I w).1
 has:=λx F=>by
  let j:∃k,(relabel scope X.env).names.lookup x=R k/\(k=.cell\/k=.free):=by
   rcases F with z|z
   .show#[_,z,.inl W]
   .show#[_,z,.inr W]
  let(k,J,n):=j;let(k0,hm,t):=wN J;let e:k0=.free\/k0=.cell:=by
   rcases t with z|⟨z,_⟩
   .subst z
    rcases n with z|z
    .show .inr z
    .show .inl z
   .show .inl z
  let q:((uG X scope C).lookup x).isSome=S:=by
   rcases e with e|e
   .subst e;let(c,K):=u _ hm W;show aap _ _ _ (.inr (by rw[xa hm K];rfl))
   .subst e
    show aap _ _ _ (.inl ?_);cases z:scope.names.lookup x with
    |none=>show b4 hm (λhm=>by
      let:∀{l:cc (Str×Ym)},l.lookup x=P->(x,Ym.cell)∉l:=λ{l}=>by
       induction l with
       |nil=>show λ_=>by simp
       |cons p r E=>
        intro h q;rw[YM]at h;rcases Yg.mp q with q|q
        .rw[<-q,ec]at h;ext h
        .split at h
         .ext h
         .show E h q
      show this z hm)
    |some L=>rw[yp m z hm]
  show ZJ.mp q
 cab:=λx c A w=>by
  let g:((hW X.env scope.names []).lookup x).isNone=S:=A;let v:=w;rcases rp _ _ _ x c v with⟨z,_⟩|z
  .show YN f (aa4 z)
  .rw[z]at g;ext g
 hd:=I.ok.hd
 frames:=I.ok.frames
 stk:=.inl W
 exf:=λb a=>#[Yk (Yu (d b a) f),λx c e=>by
  rcases rp _ _ _ x c e with⟨z,_⟩|z
  .show Y1 (Yu (Yu (d b a) f) (aa4 z))
  .show(i b a).2.2.2.2.1 x c (tX I z).1]
 bs:=I.bs
 bsz:=YN I.ok.bsz I.sz
 ae5:=λb o e a=>by
  rcases(i b a).2.2.2.1 with z|z
  .show I.ok.ae5 b o e z
  .show b4 (Yu (cv e) (YN I.ok.bsz z)) (Zc _)
 ae6:=λb a G=>by
  rcases Yg.mp (I.adj b G)with z|z
  .show(i b a).2.1 z
  .show(i b a).2.2.1 z
 acd:=I.stack
 frf:=I.ads
def F3(I:Inv X Z Y H s)(aaT:scope.kind=.function)(g:(scope.names.map (·.1)).Nodup)
  (N:∀y∈scope.names,y.2=.free->∃c,X.env.cells.lookup y.1=R c) (L:adF X scope U) (B:s.heap.objs.size<=D) (j:D<C) (hC:s.heap.objs.size<=C) (hf:∀b∈fp,mi X Z H b) (O:∀b∈fp,b<s.heap.objs.size)
  (F:h1.Ns C m) (E:∀x c,(uG X scope C).lookup x=R c->C<c->∃v,h1.IsCell c v) (w:∀b o,s.heap.get? b=R o->h1.get? b=R o) (hd:∃n,h1.get? D=R {cls:=.type "list",data:=.seq #v[] n}):
  Inv (cI X s H scope C (eX own U) fp) [] (iW own U Y) (bj H D (.lst [])) {s with heap:=h1,toks:=t1}:=by
 let hn:=I.Zl.fresh B;let(n,hd):=hd;let Q:=Y1 j;let h:∀x c,(uG X scope C).lookup x=R c->C<c\/(X.env.cells.lookup x=R c/\c<s.heap.objs.size):=λx c e=>by
  rcases rp _ _ _ x c e with⟨z,_⟩|z
  .show .inl z
  .show .inr (tX I z)
 show#[zS I aaT g N hC hf O,W,I.bare,Un.laid w B hn,#[m,F,λi x v e1 e2 e3=>?_],λx c e=>?_,?_,λx c e=>?_,λp hp=>b4 (show p∈([]:G (J×Obj))from hp) (by simp),?_,?_]
 .
  let d:(own++U.map (·.1))[i]?=R x:=e1;let a:(own.map (λ_=>(P:ck V))++U.map λp=>(Y[p.2]?).join)[i]?=R (R v):=e2;let A:own.length<=i:=by
   by_cases A:i<own.length
   .rw[Yz (by simpa using A),Yl]at a
    cases q:own[i]? with
    |none=>rw[q]at a;ext a
    |some _=>rw[q]at a;ext a
   .omega
  rw[Ys A,Yl]at d;rw[Ys (by simpa using A),Yl,X4]at a;cases q:U[i - own.length]? with
  |none=>rw[q]at d;ext d
  |some p=>
   rw[q]at d a;let ex:=Yq d;subst ex;let ev:(Y[p.2]?).join=R v:=Yq a;let(g1,g2,g3):=L.mem p (YD q);let ev2:Y[p.2]?=R (R v):=by
    cases z:Y[p.2]? with
    |none=>rw[z]at ev;ext ev
    |some y=>rw[z]at ev;show d6 R ev
   let(m0,_,hl):=I.loc;let(u,r,l):=hl p.2 p.1 v g1 ev2 (.inr g3);show#[u,r,?_];let l2:∃c,X.env.cells.lookup p.1=R c/\s.heap.IsCell c (R u):=by
    rcases l with⟨k,_⟩|⟨_,c,e,z⟩
    .let t:X.env.scope.names.lookup p.1=R .local:=k
     rcases g3 with z|z
     .rw[z]at t;ext t
     .rw[z]at t;ext t
    .show#[c,e,z]
   let(c,e,o,K,f):=l2;show .inr #[?_,c,?_,o,w c o K,f]
   .show jW g2
   .show(uG X scope C).lookup p.1=R c;ext uG;rw[DE _ _ _ _ λz=>by cases yp g g2 z];show xa (Zy g2) e
 .rcases h x c e with z|⟨z,_⟩
  .show E x c e z
  .let(v,o,K,f):=I.cell x c z;show#[v,o,w c o K,f]
 .show bj H D (.lst []) C=P;rw[aQ Q];show I.Zl.fresh hC
 .show bj H D (.lst []) c=P
  rcases h x c e with z|⟨z1,z2⟩
  .rw[aQ (Y1 (aav j z))];show I.Zl.fresh (YN hC (abn z))
  .rw[aQ (Yk (Yu z2 B))];show I.abI x c z1
 .show I.Zl.laid w B #[by show 0<=Yc;show Zj _,[],n,.nil,hd]
 .show(own.map (λ_=>(P:ck V))++U.map λp=>(Y[p.2]?).join).length=(own++U.map (·.1)).length;simp
end
def yQ(X:Cx)(d:G Yo)(t:TT):Prop:=
 ∀(a:G (J×Obj)) (s:X3) (b:St) (H:Hp) (Q:Bool->Hp->Prop),Inv X a b H s->t b H Q->
  wpAny (model X.prog X.w) X.A (forIn d S λc r=>if r=S then do let ok<-isTrue c X.env (eval c X.env);pure (ForInStep.yield ok)else pure (ForInStep.yield r)) (TP X a b Q) X.xe s
def En:TT:=λ_ H Q=>Q S H
theorem xf:yQ X [] En:=λ_ _ _ H _ I h=>wpAny_tests_nil #[H,I,h]
theorem Hf(h:PT X c o):yQ X [c] o:=λa s b H Q I d=>wpAny_tests_one (h a s b H Q I d)
def A6(J:It)(D:X5)(d:St)(g:TG)(j:TT)(h:TE)(n:Hp)(Fin:Hp->Prop):Prop:=
 ∃W:Nat->Nat->St->Hp->Prop,(∃m,W 0 m d (bj n D (.lst [])))/\∀i m σ H,W i m σ H->
  (J.stop i H/\Fin H)\/(J.go i H/\∃N:St->Hp->Prop,(∀o p,N o p->∃q,q<m/\W (i+1) q o p)/\
   ∀x p,J.yld i H x p->g x σ p λa l=>j a l λb f=>if b=S then h a f λy e=>∃ys,e D=R (.lst ys)/\ys.length<Yc/\N a (bj e D (.lst (ys++[y])))else N a f)
section
variable{Y:Yr}{w:YJ}{A:YC}{s:X3}
def B4{g l d:Yo}{f:cc Yo}{b:ZO}{i:Pos}{o acc:T}{env:Env}{R:aef->X3->Prop}{XE:T->X3->Prop}(B:∀x s1,XE x s1->notedBy (model Y w) A env (λe s2=>R (.error e) s2) x s1)(I:Nat->X3->Prop)
  (turn:∀n s,I n s->wpAny (model Y w) A (pyNext o) (λr s1=>match r with
   |none=>R (.ok .next) s1
   |some v=>wpAny (model Y w) A (letOwnedTupleGo l o v) (λ_ s2=>wpAny (model Y w) A (assign l env v) (λ_ s3=>
     wpAny (model Y w) A (forIn f S λc r=>if r=S then do let ok<-isTrue c env (eval c env);pure (ForInStep.yield ok)else pure (ForInStep.yield r)) (λok s4=>
      if ok=S then wpAny (model Y w) A (eval g env) (λx s5=>
       wpAny (model Y w) A (call (.builtin "list.append") [acc,x]) (λ_ k=>∃m,m<n/\I m k) (λ_ _=>False) s5) XE s4
      else∃m,m<n/\I m s4) (λ_ _=>False) s3) (λ_ _=>False) s2) (λ_ _=>False) s1) (λ_ _=>False) s)
  (n:Nat) (h:I n s):codeAny (model Y w) A (.compLoop (.ListComp g [#[l,d,f,0]] b i) 0 o acc env) R s:=by
 show codeAny_loop W I (λn s C=>?_) n h;show wpAny _ A (Sem.onRaise (compTurn (.ListComp g [#[l,d,f,0]] b i) 0 o acc env) (λx=>do noteFrame x env;theTreesLotGoes x)) _ _ s;show wpAny_noted ?_;rw[compTurn_list]
 let j:∀{α:Type} {t:Sem α} {Q y:α->X3->Prop} {E:T->X3->Prop} {s:X3},wpAny (model Y w) A t Q (λ_ _=>False) s->(∀a K,Q a K->y a K)->wpAny (model Y w) A t y E s:=
  λp q=>wpAny_mono p q λ_ _ z=>False.elim z
 show XW (acs (XW (j (turn n s C) λr s1 p=>?_)));cases r with
 |none=>show X8 p
 |some v=>
  show XW (j p λ_ s2 q=>XW (j q λ_ s3 H=>XW (j H λok s4 u=>?_)));cases ok with
  |false=>show X8 #[W,u]
  |true=>show XW (XW (wpAny_mono u (λx s5 G=>XW (j G λ_ k F=>X8 (X8 #[W,F]))) B))
end
section
variable{X:Cx}{Z:cc (X5×Obj)}{Y:St}{H:Hp}{s:X3}
def vW
  (h:Q (newEnv scope s.heap.objs.size globals (ZH (s.heap.objs.size+1) scope.names closure) qual P .none (R env) builtinsNs) {s with heap:=pushCells (s.heap.push {cls:=.type "dict",data:=.dict #v[]}) scope.names}):
  wpAny e A (newFunctionEnv scope globals closure [] qual P .none (R env)) Q E s:=by
 simp only[newFunctionEnv,aeB,if_true];show XW (wpAny_alloc ?_);show XW (wpAny_layCells _ (λd a b=>by cases f:a==Ym.cell<;>simp[f]) _ _ _ _ ?_);rw[show({s with heap:=s.heap.push {cls:=.type "dict",data:=.dict #v[]}}:X3).heap.objs.size=s.heap.objs.size+1 from dg ..];rw[ac5];show XW (X8 (X8 h))
def rE{P tg q:Yo}{F:cc Yo}{scope:ZO}{pos:Pos}{own:cc Str}{h:cc (Str×Nat)}{g:TG}{tc:TT}{te:TE}{E:XY->X3->Prop}{it:X5}{k:cc X5}{tn:Nat->Heap->Prop}{J:It}{Fin:X5->Hp->Prop}
  {RR:XY->X5->aef->X3->Prop} (I:Inv X Z Y H s) (hc:X.calm=XX) (aaT:scope.kind=.function) (hnd:(scope.names.map (·.1)).Nodup) (hfr:∀y∈scope.names,y.2=.free->∃c,X.env.cells.lookup y.1=cL c) (hfv:adF X scope h)
  (T:Turn X.prog X.w X.K tg J k it tn) (st:tn 0 s.heap) (L:∀b∈k,mi X Z H b)
  (hg:∀C,PG (cI X s H scope C (eX own h) k) tg g) (ht:∀C,yQ (cI X s H scope C (eX own h) k) F tc) {W:X5->XY->X3->Prop} (he:∀C,PE ((cI X s H scope C (eX own h) k).aco (W C)) P te) (hEE:∀D C x s1,s.heap.objs.size<=C->W C x s1->notedBy (model X.prog X.w) X.A (compEnvC scope (uG X scope C) C X.env) (λe s2=>RR (.ref D) C (.error e) s2) x s1)
  (hR:∀D,H D=CL->A6 J D (iW own h Y) g tc te H (Fin D))
  (hRR:∀D C V s',Inv X Z Y V s'->Fin D V->(∃m,s'.heap.Ns C m)->s.heap.objs.size<=C->V C=CL->RR (.ref D) C (.ok .next) s'):
  wpAny (model X.prog X.w) X.A (newList []) (λacc s3=>wpAny (model X.prog X.w) X.A (newFunctionEnv scope X.env.globals (hW X.env scope.names []) [] X.env.qual CL .none (cL X.env)) (λaiK s4=>
   codeAny (model X.prog X.w) X.A (.compStart (.ListComp P [#[tg,q,F,0]] scope pos) 0 (.ref it) acc {aiK with scope:=relabel scope X.env}) (RR acc aiK.locals) s4) E s3) E s:=by
 show Ze ?_;generalize hH2:s.heap.push {cls:=.type "list",dict:=CL,data:=.seq ([]:cc XY).toArray}=K;let hz:K.objs.size=s.heap.objs.size+1:=by rw[<-hH2,dg]
 show vW (s:={s with heap:=K}) ?_;let M:s.heap.objs.size<K.objs.size:=by rw[hz];show ZU _
 let hC:s.heap.objs.size<=K.objs.size:=abn M;generalize hH1:pushCells (K.push {cls:=.type "dict",data:=.dict #v[]}) scope.names=h1;let kp2:∀b o,K.get? b=cL o->h1.get? b=cL o:=λb o e=>by rw[<-hH1];show adQ _ _ b o (cn _ e)
 let kp:∀b o,s.heap.get? b=cL o->h1.get? b=cL o:=λb o e=>kp2 b o (by rw[<-hH2];show cn _ e);let hns:h1.Ns K.objs.size (λ_=>CL):=by rw[<-hH1];show(Heap.Ns.new K (.type "dict")).keeps (adQ _ _)
 let hoc:∀x c,(uG X scope K.objs.size).lookup x=cL c->K.objs.size<c->∃v,h1.IsCell c v:=λx c e hlt=>by
  let e':(ZH (K.push {cls:=.type "dict",data:=.dict #v[]}).objs.size scope.names (hW X.env scope.names [])).lookup x=cL c:=by rw[dg];show e
  rcases qH _ _ _ x c e' with⟨_,z⟩|z
  .show#[CL,by rw[<-hH1];show z]
  .show b4 (aav (tX I z).2 (aav M hlt)) (Zc _)
 let hd:∃n,h1.get? s.heap.objs.size=cL {cls:=.type "list",data:=.seq #v[] n}:=#[0,kp2 _ _ (by rw[<-hH2];show c5 _ rfl)];let G:∀b∈k,b<s.heap.objs.size:=λb f=>by let(o,e,_):=T.obj 0 _ st b f;show cv e
 let hn:H s.heap.objs.size=CL:=I.Zl.fresh (X6 _);let(W,(m0,w0),turn):=hR s.heap.objs.size hn;let O:∀{pl:cc (X5×Obj)} {V:Hp},(∀b∈k,V b=CL)->(∀p∈pl,p.1∉k)->∀b∈k,mi (cI X s H scope K.objs.size (eX own h) k) pl V b:=λ{pl V} hn' hpl b f=>by let ok:=zS (C:=K.objs.size) (N:=eX own h) I aaT hnd hfr hC L G;show#[hn' b f,(ok.exf b f).1,ok.ae6 b f,.inl f,(ok.exf b f).2,λp hp=>by let hp':p∈([]:cc (X5×Obj))++pl:=hp;intro z;show hpl p (by simpa using hp') (by rw[z];show f)]
 let l:∀s4:X3,s4={s with heap:=h1}->
   codeAny (model X.prog X.w) X.A (.compLoop (.ListComp P [#[tg,q,F,0]] scope pos) 0 (.ref it) (.ref s.heap.objs.size) (compEnvC scope (uG X scope K.objs.size) K.objs.size X.env)) (RR (.ref s.heap.objs.size) K.objs.size) s4:=by
  rintro s4 rfl
  let I0:Inv (cI X s H scope K.objs.size (eX own h) k) [] (iW own h Y) (bj H s.heap.objs.size (.lst [])) {s with heap:=h1}:=
   F3 I aaT hnd hfr hfv (X6 _) M hC L G hns hoc kp hd
  let st0:tn 0 h1:=T.keep 0 _ _ st λb _ o e=>kp b o e;let fr0:∀b∈k,(bj H s.heap.objs.size (.lst [])) b=CL:=λb f=>by rw[aQ (Yk (G b f))];show(L b f).1
  show B4 (λx s1 z=>hEE _ _ x s1 hC z) (λn s'=>∃i σ' V,Inv (cI X s H scope K.objs.size (eX own h) k) [] σ' V s'/\tn i s'.heap/\(∀b∈k,V b=CL)/\W i n σ' V) ?_ m0 #[0,_,_,I0,st0,fr0,w0];rintro n s5 ⟨i,j,H5,I5,st5,fr5,w5⟩;rcases turn i n j H5 w5 with⟨stop,fin⟩|⟨go,N,hN,step⟩
  .show b9 (T.done (cI X s H scope K.objs.size (eX own h) k) rfl rfl rfl hc i [] s5 j H5 (λ_ _=>False) I5 (O fr5 (by simp)) st5 stop) λr s6 #[hr,A]=>?_;subst hr;let(mm,hm,_):=A.loc;show hRR _ _ H5 s6 ?_ fin #[mm,hm] hC A.free;show I.agZ (ch:=k) A.os A.base A.Zl A.bare λb f=>#[(L b f).2.2.2.1,(L b f).2.1,(L b f).2.2.2.2.1,(L b f).2.2.2.2.2]
  .show b9 (T.item (cI X s H scope K.objs.size (eX own h) k) rfl rfl rfl hc i [] s5 j H5 (λ_ _=>False) I5 (O fr5 (by simp)) st5 go) λr s6 #[u,hr,h6]=>?_
   subst hr;show b9 h6 λ_ s7 #[x,H7,I7,r7,y7,B,fr7]=>?_;let I7':=I7.pinned (fp:=k) (O fr7 (by simp)) (T.obj _ _ B);let t:∀{a:St} {Q:Hp} {w:X3},Inv (cI X s H scope K.objs.size (eX own h) k) ([]++rP k s7.heap) a Q w->N a Q->∃m,m<n/\∃i σ' V,Inv (cI X s H scope K.objs.size (eX own h) k) [] σ' V w/\tn i w.heap/\(∀b∈k,V b=CL)/\W i m σ' V:=λ{a Q w} I8 n8=>by let(m',hm,w8):=hN a Q n8;show#[m',hm,i+1,a,Q,I8.abZ,T.keep _ _ _ B λb f o e=>(I8.pin (b,o) (YY _ (YY _ (j7 f e)))).1,λb f=>?_,w8];let(o,e,d):=T.obj _ _ B b f;show(I8.pin (b,o) (YY _ (YY _ (j7 f e)))).2.1
   show b9 (hg _ _ s7 j H7 x u _ I7' r7 (step x H7 y7)) λ_ w #[a,Q,I8,q8]=>?_;show b9 (ht _ _ w a Q _ I8 q8) λok s9 #[H9,I9,q9]=>?_;cases ok with
   |false=>rw[a6 X7]at q9⊢;show t I9 q9
   |true=>rw[ax rfl]at q9⊢;show b9 (he _ _ s9 a H9 _ (I9.aco _) q9) λy s10 #[U,H10,akM,r10,ys,hy,hl,q10]=>?_;let I10:=akM.abb;show b9 (oO _ s10 a H10 (.ref s.heap.objs.size) [U] (.ref s.heap.objs.size) [y] (λ_ H11=>N a H11) I10 rfl (.cons r10 .nil) #[_,ys,U,rfl,rfl,hy,hl,q10]) λ_ s11 #[v11,H11,I11,_,q11]=>?_;show t I11 q11
 show codeAny_compStart_list (l _ rfl) (T.self _ 0 _ _ _ (T.keep 0 _ _ st λb _ o e=>kp b o e) (l _ rfl))
def qD(own:G Str)(f:G (Str×Nat))(b:TI)(g:TG)(e:TT)(d:TE):TE:=λY H Q=>b Y H λJ a=>∀D,a D=P->A6 J D (iW own f Y) g e d a λh=>Q (.ref D) h
theorem pJ{a:ZO}(ok:X.Ok)(h:∀y∈a.names,y.2=.free->(X.env.scope.names.lookup y.1=R .cell\/X.env.scope.names.lookup y.1=R .free)):∀y∈a.names,y.2=.free->∃c,X.env.cells.lookup y.1=R c:=
 λy b e=>ok.has y.1 (h y b e)
theorem Mi{a sc:ZO}(h:(a.names.all λy=> !(y.2==Ym.free)||(sc.names.lookup y.1==R Ym.cell)||(sc.names.lookup y.1==R Ym.free))=S):
  ∀y∈a.names,y.2=.free->(sc.names.lookup y.1=R .cell\/sc.names.lookup y.1=R .free):=λy b e=>by
 let q:=Y8.mp h y b;rw[e]at q
 simpa using q
def Ag{elt i iter:Yo}{ifs:G Yo}{scope:ZO}{pos:Pos}(own:G Str)(c:G (Str×Nat)){u:TI}{g:TG}{w:TT}{v:TE}(U:X.calm=S)(N:PI X i iter u)
  (O:∀s H C a,PG (cI X s H scope C (eX own c) a) i g) (F:∀s H C a,yQ (cI X s H scope C (eX own c) a) ifs w) (he:∀s H C a,PE (cI X s H scope C (eX own c) a) elt v) (n:adF X scope c)
  (p:(scope.names.all λy=> !(y.2==Ym.free)||(X.env.scope.names.lookup y.1==cL Ym.cell)||(X.env.scope.names.lookup y.1==cL Ym.free))=S)
  (f:scope.kind=.function:=by rfl) (k:(scope.names.map (·.1)).Nodup:=by left)
  (r:∀y∈scope.names,y.2=.local->scope.names.lookup y.1=cL .local:=by left) (K:∀x,foldedSetIterable iter X.env x=pure x:=by intro _;rfl):
  PE X (.ListComp elt [#[i,iter,ifs,0]] scope pos) (qD own c u g w v):=by
 intro Z s Y H Q I h;let d:=Mi p;rw[eval_ListComp];show aeS (use:=P) rfl K (rS (pJ I.ok d)) f r (b9 (N Z s Y H _ I h) λxv s1 h1=>b9 h1 λE s2 h2=>?_);let(it,a,tn,J,H2,e,A,T,j,f2,R):=h2;subst e;show rE A U f k (pJ I.ok d) n T j f2 (λC=>O _ _ C _) (λC=>F _ _ C _) (W:=λ_ _ _=>False) (λC=>he _ _ C _) (λ_ _ _ _ _ z=>z.elim) (Fin:=λD t=>Q (.ref D) t) R ?_;intro D C t B I' fin hm hC L;let(m,hm):=hm;show#[m,hm,λh' l=>#[.ref D,t,?_,rfl,fin]];let(f0,f1,_,f3,f4,f5):=A.acT hC L;show I'.turned (t':=B.toks) (λb o hb q=>(l.2 b hb).trans q) f0 f1 f3 f4 f5
def Kk{elt d iter:Yo}{ifs:G Yo}{scope:ZO}{pos k py:Pos}{i:Nat}{x:Str}(own:G Str)(j:G (Str×Nat)){U:TI}{g:TG}{tc:TT}{V:TE}(hN:X.N.Nodup)(A:X.N[i]?=cL x)(hx:X.env.scope.names.lookup x=cL .local)
  (hc:X.calm=S) (hi:PI X d iter U)
  (hg:∀s H C c,PG (cI X s H scope C (eX own j) c) d g) (ht:∀s H C c,yQ (cI X s H scope C (eX own j) c) ifs tc) (he:∀s H C c,PE (cI X s H scope C (eX own j) c) elt V) (B:adF X scope j)
  (F:(scope.names.all λy=> !(y.2==Ym.free)||(X.env.scope.names.lookup y.1==cL Ym.cell)||(X.env.scope.names.lookup y.1==cL Ym.free))=S)
  (t:aaw (.ListComp elt [#[d,iter,ifs,0]] scope pos) (cL (.Name x py)) k.line X.env=pure S:=by rfl)
  (l:scope.kind=.function:=by rfl) (w:(scope.names.map (·.1)).Nodup:=by left)
  (K:∀y∈scope.names,y.2=.local->scope.names.lookup y.1=cL .local:=by left) (hs:∀x,foldedSetIterable iter X.env x=pure x:=by intro _;rfl):
  PS X (.Assign [.Name x py] (.ListComp elt [#[d,iter,ifs,0]] scope pos) k) (zu (qD own j U g tc V) (pf i)):=by
 intro Z s Y H D I h;let f:=Mi F;rw[exec_Assign_Name_used _ _ _ _ t];show XW (acs (XW ?_));show wpAny _ _ (do let _<-comprehension (.ListComp elt [#[d,iter,ifs,0]] scope pos) scope X.env _ (newList []) M (eval iter X.env) (cL (assign (.Name x py) X.env))) _ _ s;show XW (b9 (aeS (use:=cL (assign (.Name x py) X.env)) (Q:=λ_ n=>SP X Z D .next n) rfl hs (rS (pJ I.ok f)) l K
  (b9 (hi Z s Y H _ I h) λxv s1 h1=>b9 h1 λitv s2 h2=>?_)) λ_ n q=>X8 (X8 q))
 let(it,c,tn,J,H2,e,I2,T,p,f2,R):=h2;subst e;show rE I2 hc l w (pJ I.ok f) B T p f2 (λC=>hg _ _ C _) (λC=>ht _ _ C _) (W:=λ_ _ _=>False) (λC=>he _ _ C _) (λ_ _ _ _ _ z=>z.elim) (Fin:=λL O=>D.nx (Y.set i (cL (.ref L))) O) R ?_;intro L C O n I' fin hm hC hn;let(m,hm):=hm;let(f0,f1,f2',f3,f4,f5):=I2.acT hC hn;show wpAny _ _ (assign (.Name x py) X.env (.ref L)) _ _ n;show ahS (t6 I' hN A (.inl hx) (v:=.ref L) rfl (λr N #[a,sb,ha]=>?_) (.inr hx));let E:C≠a:=by
  rcases ha with z|z
  .rw[z];show f1
  .show λq=>f4 x a z q.symm
 show#[m,hm.sameBut sb E,λh' u=>#[_,O,?_,fin]];show N.turned (t':=r.toks) (λb o hb q=>(u.2 b hb).trans q) f0 f1 f3 f4 f5
end
def xt(P:Yr)(w:YJ)(K:lD)(c:Str->z T)(base:Heap)(k:Nat)(x:Str)(b:G Str)(sp:Sp):Prop:=
 ∃(f:J) (a:Zq),FnOk P w K c base oa k f a b sp/\Binds K a b []/\ZR K (.ref f)=S/\c x=R (.ref f)
def v1(C:xt X.prog X.w X.K X.mg X.base k x o sp)(h:ZN j X.A)(c:PA X (e::es) t)(d:k<=j:=by decide)(i:Gl X x:=by rfl)
  (g:(x==("__debug__":Str))=M:=by decide) (l:Yp (e::es) X.env=(M,eval e X.env)::Yp es X.env:=by rfl) (a:(backTo pos (Yp es X.env)).any (·.1)=M:=by rfl):
  PE X (.Call (.Name x p) (e::es) [] pos) (ug sp [] E0 t):=by
 let(f,n,F,b,kp,m):=C;show Jg F (h.mono d) i m kp b .nil AN c g l a
def Qq{α:Type}{xs:G α}{i:Int}{v:α}(a:0<=i)(h:xs[i.toNat]?=R v):kO xs i=R v:=by let q:=zR h;rwa [afc a]at q
def Zw.tup{K:lD}(e:Zw H H')(h:SqT K H a xs):SqT K H' a xs:=by
 rcases h with(h|⟨o,h⟩)|h
 .show .inl (.inl (e _ _ h))
 .show .inl (.inr #[o,e _ _ h])
 .show .inr h
theorem a9(h:H p=P)(o:HO):Zw H (bj H p o):=λb u q=>by rw[aQ (bK q h)];show q
def Mx:YO "max"=R (.builtin "max"):=by left
def vk:YO "isinstance"=R (.builtin "isinstance"):=by left
def MZ:YO "len"=R (.builtin "len"):=by left
def rK:YO "sorted"=R (.builtin "sorted"):=by left
def SH:YO "all"=R (.builtin "all"):=by left
def Mg:YO "int"=R (.type "int"):=by left
def Se:YO "str"=R (.type "str"):=by left
def HA:YO "list"=R (.type "list"):=by left
def K4:YO "tuple"=R (.type "tuple"):=by left
section
variable{X:Cx}
def wW:ZS X (.builtin "sorted") (λxs H Q=>∃(p:J) (ns:G Int),xs=[.ref p]/\SqL X.K H p (ns.map V.int)/\ns.length<64/\∀(l:J) (a:G Int),H l=P->a.Perm ns->a.Pairwise (·<=·)->Q (.ref l) (bj H l (.lst (a.map V.int)))):=by
 intro g s B H xs C Q I r h;let(p,ns,rfl,n,w,q):=h;let(u,rfl,j):=gu r;ext j;let(A,K,pl,F):=I.list n;let t:=K.length;rw[X4]at t;show sorted_ints pl.isList (iY K) () λd a L i m=>?_;let(e,v):=sortedAll_at s.heap A d;let f:a.length=ns.length:=i.length_eq;let y:d.toList.length=a.length:=L.length;show#[.ref (s.heap.objs.size+1),_,I.laid (t':=s.toks) (o:=.lst (a.map V.int)) (λb E z=>sortedAll_old z) (aaB _) ?_,W,q _ a (I.Zl.fresh (aaB _)) i m];show#[?_,d.toList,e,jS L,v];rw[X4,f];let:(64:Nat)<=Yc:=by decide
 ext
end
end L2
namespace L3
open PySem L2
abbrev D:=X2
inductive PV where
 |fz (d:D)
 |ow (ds:G D)
 |pl (i:Nat)
abbrev aU:=G (z PV)
structure Xc where
 cls:Str
 fs:G (Str×D)
inductive Res(α:Type) where
 |ok (a:α)
 |er (x:Xc)
 |bad
namespace Res
def bind(r:Res α)(f:α->Res β):Res β:=match r with
 |.ok a=>f a
 |.er x=>.er x
 |.bad=>.bad
def YT:z α->Res α
 |some a=>.ok a
 |none=>.bad
theorem bind_ok(a:α)(f:α->Res β):(Res.ok a).bind f=f a:=W
end Res
abbrev eg:=@Res.bind_ok
abbrev bG:=J->Prop
def bF(O:bG)(p:J):bG:=λb=>O b\/b=p
def Dx(O:bG)(p:J):bG:=λb=>O b/\b≠p
def noO:bG:=λ_=>False
def Ev(O:bG)(H:Hp)(a:bG)(d:Hp):Prop:=∀b o,H b=R o->¬O b->d b=R o/\¬a b
theorem Ev.refl:Ev O H O H:=λ_ _ h n=>#[h,n]
theorem Ev.trans(a:Ev O H O1 H1)(b:Ev O1 H1 O2 H2):Ev O H O2 H2:=λp o h n=>let#[h1,d]:=a p o h n;b p o h1 d
theorem Ev.grow(s:Zw H H'):Ev O H O H':=λb o h n=>#[s b o h,n]
theorem Ev.add(s:Zw H H')(a:H p=P):Ev O H (bF O p) H':=λb o h n=>#[s b o h,λz=>z.elim n λe=>by simp_all]
theorem Ev.sub(h:∀b,O' b->O b):Ev O H O' H:=λb o e n=>#[e,λz=>n (h b z)]
theorem Ev.mut(a:O p)(u:HO):Ev O H O (bj H p u):=λb o h n=>#[by rw[aQ (λe=>n (by simp_all))];show h,n]
def aaO(K:lD)(H:Hp)(a:J)(xs:G V):Prop:=Rd H a (.lst xs)\/∃(b:G T) (n:Nat),K.lookup a=R {cls:=.type "list",data:=.seq b.toArray n}/\xs.length<=Yc/\Vals xs b
def aaO.sq(h:aaO K H a xs):SqL K H a xs:=by
 rcases h with h|⟨e,n,h1,d,b⟩
 .show .inl h
 .show .inr #[_,e.toArray,n,h1,W,W,W,by rw[Yd,<-b.length];show d,by ext]
theorem aaO.of(h:H a=R (.lst xs)):aaO K H a xs:=.inl (.inl h)
def aaO.same(e:Zw H H')(h:aaO K H a xs):aaO K H' a xs:=by
 rcases h with(h|⟨o,h⟩)|h
 .show .inl (.inl (e _ _ h))
 .show .inl (.inr #[o,e _ _ h])
 .show .inr h
theorem lP(H:Hp):Zw (λ_=>P) H:=λ_ _ h=>by ext h
def acb(O:bG)(K:lD)(H:Hp)(a:J)(xs:G V):Prop:=aaO K H a xs/\(O a->aaO K (λ_=>P) a xs)
def abg(O:bG)(K:lD)(H:Hp)(a:J)(xs:G V):Prop:=SqT K H a xs/\(O a->SqT K (λ_=>P) a xs)
section
variable{O Y:bG}{K:lD}{H Z:Hp}{a:X5}{X:cc V}
def acb.ev(h:acb O K H a X)(e:Ev O H Y Z):acb Y K Z a X:=by
 let(h,k):=h;by_cases z:O a
 .show#[aaO.same (lP Z) (k z),λ_=>k z]
 .rcases h with(h|⟨o,h⟩)|h
  .let(d,b):=e a _ h z;show#[.inl (.inl d),λy=>b4 y b]
  .let(d,b):=e a _ h z;show#[.inl (.inr #[o,d]),λy=>b4 y b]
  .show#[.inr h,λ_=>.inr h]
def abg.ev(h:abg O K H a X)(e:Ev O H Y Z):abg Y K Z a X:=by
 let(h,k):=h;by_cases z:O a
 .show#[(lP Z).tup (k z),λ_=>k z]
 .rcases h with(h|⟨o,h⟩)|h
  .let(d,b):=e a _ h z;show#[.inl (.inl d),λy=>b4 y b]
  .let(d,b):=e a _ h z;show#[.inl (.inr #[o,d]),λy=>b4 y b]
  .show#[.inr h,λ_=>.inr h]
end
mutual
inductive DV(O:bG)(K:lD)(H:Hp):V->D->Prop
 |non:DV O K H .non .none
 |bl (b:Bool):DV O K H (.bl b) (.bool b)
 |int (i:Int):DV O K H (.int i) (.int i)
 |str (x:Str):DV O K H (.str x) (.str x)
 |tup {a:X5} {xs:cc V} {ds:cc D}:abg O K H a xs->Zn O K H xs ds->DV O K H (.ref a) (.tuple ds)
 |lst {a:X5} {xs:cc V} {ds:cc D}:acb O K H a xs->Zn O K H xs ds->DV O K H (.ref a) (.list ds)
inductive Zn(O:bG)(K:lD)(H:Hp):cc V->cc D->Prop
 |nil:Zn O K H [] []
 |cons {v:V} {vs:cc V} {d:D} {ds:cc D}:DV O K H v d->Zn O K H vs ds->Zn O K H (v::vs) (d::ds)
end
section
variable{O Z:bG}{K:lD}{H Y:Hp}
mutual
theorem DV.ev(e:Ev O H Z Y):∀{v:V} {d:D},DV O K H v d->DV Z K Y v d
 |_,_,.non=>.non
 |_,_,.bl b=>.bl b
 |_,_,.int i=>.int i
 |_,_,.str x=>.str x
 |_,_,.tup h hs=>.tup (h.ev e) (Zn.ev e hs)
 |_,_,.lst h hs=>.lst (h.ev e) (Zn.ev e hs)
theorem Zn.ev(e:Ev O H Z Y):∀{vs:cc V} {ds:cc D},Zn O K H vs ds->Zn Z K Y vs ds
 |_,_,.nil=>.nil
 |_,_,.cons h hs=>.cons (DV.ev e h) (Zn.ev e hs)
end
theorem Zn.length:∀{a:G V} {ds:G D},Zn O K H a ds->a.length=ds.length
 |_,_,.nil=>rfl
 |_,_,.cons _ t=>by rw[Yf,Yf,t.length]
theorem Zn.get:∀{c:G V} {ds:G D} {i:Nat} {d:D},Zn O K H c ds->ds[i]?=R d->∃v,c[i]?=R v/\DV O K H v d
 |_,_,_,_,.nil,e=>by simp at e
 |_,_,0,_,.cons h _,e=>by simp_all
 |_,_,i+1,d,.cons _ t,e=>by let(v,b,a):=Zn.get t (by simpa using e);simp_all
theorem Zn.ahz:∀{c:G V} {ds:G D} {i:Nat} {v:V},Zn O K H c ds->c[i]?=R v->∃d,ds[i]?=R d/\DV O K H v d
 |_,_,_,_,.nil,e=>by simp at e
 |_,_,0,_,.cons h _,e=>by simp_all
 |_,_,i+1,v,.cons _ t,e=>by let(d,b,a):=Zn.ahz t (by simpa using e);simp_all
theorem Zn.append:∀{a ws:G V} {ds es:G D},Zn O K H a ds->Zn O K H ws es->Zn O K H (a++ws) (ds++es)
 |_,_,_,_,.nil,h=>h
 |_,_,_,_,.cons h t,g=>.cons h (Zn.append t g)
theorem Zn.take:∀{a:G V} {ds:G D} (n:Nat),Zn O K H a ds->Zn O K H (a.take n) (ds.take n)
 |_,_,0,_=>.nil
 |_,_,_+1,.nil=>.nil
 |_,_,n+1,.cons h t=>.cons h (Zn.take n t)
theorem Zn.drop:∀{a:G V} {ds:G D} (n:Nat),Zn O K H a ds->Zn O K H (a.drop n) (ds.drop n)
 |_,_,0,h=>h
 |_,_,_+1,.nil=>.nil
 |_,_,n+1,.cons _ t=>Zn.drop n t
theorem Zn.set(h:DV O K H v d):∀{a:G V} {ds:G D} (n:Nat),Zn O K H a ds->Zn O K H (a.set n v) (ds.set n d)
 |_,_,_,.nil=>.nil
 |_,_,0,.cons _ t=>.cons h t
 |_,_,n+1,.cons g t=>.cons g (Zn.set h n t)
theorem Zn.flat(h:Zn O K H vs ds):∀n:Nat,Zn O K H (X1 n vs).flatten (X1 n ds).flatten
 |0=>.nil
 |n+1=>by rw[Y4,Y4,Zu,Zu];show h.append (Zn.flat h n)
mutual
theorem DV.plain:∀{v:V} {d:D},DV O K H v d->L2.DV K H v d
 |_,_,.non=>.non
 |_,_,.bl b=>.bl b
 |_,_,.int i=>.int i
 |_,_,.str x=>.str x
 |_,_,.tup h hs=>.tup h.1 (Zn.plain hs)
 |_,_,.lst h hs=>.lst h.1.sq (Zn.plain hs)
theorem Zn.plain:∀{vs:cc V} {ds:cc D},Zn O K H vs ds->L2.Zn K H vs ds
 |_,_,.nil=>.nil
 |_,_,.cons h hs=>.cons (DV.plain h) (Zn.plain hs)
end
end
def DX(O:bG)(K:lD)(H:Hp)(v:V):D->Prop
 |.list ds=>∃a xs,v=.ref a/\aaO K H a xs/\Zn O K H xs ds
 |d=>DV O K H v d
def DV.x(h:DV O K H v d):DX O K H v d:=by
 cases h with
 |lst h a=>show#[_,_,W,h.1,a]
 |non=>show .non
 |bl b=>show .bl b
 |int i=>show .int i
 |str x=>show .str x
 |tup h a=>show .tup h a
def DX.plain(h:DX O K H v d):L2.DV K H v d:=by
 cases d with
 |list ds=>let(a,xs,rfl,f,e):=h;show .lst f.sq e.plain
 |none=>show DV.plain h
 |bool b=>show DV.plain h
 |int i=>show DV.plain h
 |str x=>show DV.plain h
 |tuple ds=>show DV.plain h
 |dict g=>show DV.plain h
def adC(K:lD)(b:Hp)(O:bG)(H:Hp)(v:V):PV->Prop
 |.fz d=>DV O K H v d
 |.ow ds=>∃a e,v=.ref a/\O a/\b a=P/\H a=R (.lst e)/\Zn O K H e ds
 |.pl _=>False
structure Rl(K:lD)(B:bG)(H0:Hp)(O:bG)(σ:St)(H:Hp)(ρ:aU):Prop where
 same:Zw H0 H
 bo:∀a,B a->O a
 bd:∀a,B a->H0 a≠P
 od:∀a,H a=P->¬O a
 len:σ.length=ρ.length
 slot:∀(i:Nat) (x:PV),ρ[i]?=R (R x)->∃v,σ[i]?=R (R v)/\adC K H0 O H v x
 one:∀(i j:Nat) (ds es:G D) (v:V),ρ[i]?=R (R (.ow ds))->ρ[j]?=R (R (.ow es))->σ[i]?=R (R v)->σ[j]?=R (R v)->i=j
def abh(K:lD)(e:Hp)(O:bG)(b:St)(H:Hp)(c:aU)(v:V):PV->Prop
 |.fz d=>DV O K H v d
 |.ow ds=>∃a f,v=.ref a/\O a/\e a=P/\H a=R (.lst f)/\Zn O K H f ds/\∀(i:Nat) (es:G D),c[i]?=R (R (.ow es))->b[i]?≠R (R (.ref a))
 |.pl i=>b[i]?=R (R v)
def lK:PV->Prop
 |.ow _=>False
 |_=>True
def cx:PV->PV
 |.ow ds=>.fz (.list ds)
 |p=>p
section
variable{K:lD}{B O X:bG}{Z H U:Hp}{Y:St}{ρ ρ':aU}{v:V}
def adC.grow(s:Zw H U)(h:adC K Z O H v x):adC K Z O U v x:=by
 cases x with
 |fz d=>show DV.ev (Ev.grow s) h
 |ow ds=>let(a,l,e,j,g,f,b):=h;show#[a,l,e,j,g,s _ _ f,b.ev (Ev.grow s)]
 |pl i=>show h
theorem Rl.grow(R:Rl K B Z O Y H ρ)(s:Zw H U):Rl K B Z O Y U ρ:=
 #[R.same.trans s,R.bo,R.bd,λa h=>R.od a (s.free h),R.len,λi x h=>let#[v,h1,b]:=R.slot i x h;#[v,h1,b.grow s],R.one]
theorem Rl.agT(R:Rl K B Z O Y H ρ)(h:H p=P):Z p=P:=R.same.free h
def Rl.add(R:Rl K B Z O Y H ρ)(s:Zw H U)(f:H p=P)(g:U p≠P):Rl K B Z (bF O p) Y U ρ:=by
 show#[R.same.trans s,λa h=>.inl (R.bo a h),R.bd,λa h z=>z.elim (R.od a (s.free h)) λe=>g (by simp_all),R.len,λi x h=>?_,R.one];let(v,j,b):=R.slot i x h;show#[v,j,?_];cases x with
 |fz d=>show DV.ev (Ev.add s f) b
 |ow ds=>let(a,q,e,o,n,m,l):=b;show#[a,q,e,.inl o,n,s _ _ m,l.ev (Ev.add s f)]
 |pl i=>show b
theorem Rl.agB(R:Rl K B Z O Y H ρ)(h:Z a=P):¬B a:=λz=>R.bd a z h
def Rl.sub(R:Rl K B Z O Y H ρ){a:J}(m:Z a=P)(h:∀(i:Nat) (es:G D),ρ[i]?=cL (cL (.ow es))->Y[i]?≠cL (cL (.ref a))):Rl K B Z (Dx O a) Y H ρ:=by
 show#[R.same,λb f=>#[R.bo b f,λe=>R.agB m (e▸f)],R.bd,λb f z=>R.od b f z.1,R.len,λi x j=>?_,R.one];let(v,l,g):=R.slot i x j;show#[v,l,?_];cases x with
 |fz d=>show DV.ev (Ev.sub λb z=>z.1) g
 |ow ds=>let(b,r,e,q,p,o,n):=g;subst e;show#[b,r,W,#[q,λe=>h i ds j (by rw[l,e])],p,o,n.ev (Ev.sub λb z=>z.1)]
 |pl i=>show g
theorem uQ(h:H a=R (.lst o))(n:¬O a)(hd:Zn O K H o ds):DV O K H (.ref a) (.list ds):=.lst #[aaO.of h,λz=>b4 z n] hd
def gD{pv:PV}(R:Rl K B Z O Y H ρ)(h:abh K Z O Y H ρ v pv):∃X,Ev O H X H/\Rl K B Z X Y H ρ/\abh K Z X Y H ρ v (cx pv):=by
 cases pv with
 |fz d=>show#[O,.refl,R,h]
 |pl i=>show#[O,.refl,R,h]
 |ow ds=>let(a,m,rfl,l,j,g,f,e):=h;show#[Dx O a,Ev.sub λb z=>z.1,R.sub j e,uQ g (λz=>z.2 W) (f.ev (Ev.sub λb z=>z.1))]
def lU(pv:PV):lK (cx pv):=by ext pv<;>trivial
def abh.keep{pv:PV}(a:lK pv)(e:Ev O H X U)(h:abh K Z O Y H ρ v pv):abh K Z X Y U ρ' v pv:=by
 cases pv with
 |fz d=>show DV.ev e h
 |pl i=>show h
 |ow ds=>show a.elim
def Wl:z (z PV)->z D
 |some (R (.fz d))=>R d
 |some (R (.ow ds))=>R (.list ds)
 |_=>P
def pz(ρ:aU):PV->z D
 |.fz d=>R d
 |.ow ds=>R (.list ds)
 |.pl i=>Wl ρ[i]?
def ja{pv:PV}(R:Rl K B Z O Y H ρ)(h:abh K Z O Y H ρ v pv)(e:pz ρ pv=cL d):DX O K H v d:=by
 cases pv with
 |fz p=>ext e;show DV.x h
 |ow ds=>ext e;let(a,y,rfl,w,t,m,l,r):=h;show#[a,y,W,aaO.of m,l]
 |pl i=>
  let b:Wl ρ[i]?=cL d:=e;let n:=h;cases q:ρ[i]? with
  |none=>rw[q]at b;ext b
  |some o=>
   cases o with
   |none=>rw[q]at b;ext b
   |some x=>
    let(u,g,f):=R.slot i x q;rw[n]at g;ext g;rw[q]at b;cases x with
    |fz p=>ext b;show DV.x f
    |ow ds=>ext b;let(a,y,rfl,k1,k2,k3,k4):=f;show#[a,y,W,aaO.of k3,k4]
    |pl j=>show f.elim
def V0(ρ:aU)(i:Nat):z (z PV)->z (D×aU)
 |some (R (.fz d))=>R (d,ρ)
 |some (R (.ow ds))=>R (.list ds,ρ.set i (R (.fz (.list ds))))
 |_=>P
def wg(ρ:aU):PV->z (D×aU)
 |.fz d=>R (d,ρ)
 |.ow ds=>R (.list ds,ρ)
 |.pl i=>V0 ρ i ρ[i]?
def bX{l:G α}(h:(l.set i x)[j]?=R y):(j=i/\y=x)\/(j≠i/\l[j]?=R y):=by
 rw[Y5]at h;by_cases e:i=j
 .rw[ax e]at h
  split at h
  .ext h;show .inl #[e.symm,W]
  .ext h
 .rw[a6 e]at h;show .inr #[λz=>e z.symm,h]
def sH{pv:PV}(R:Rl K B Z O Y H ρ)(h:abh K Z O Y H ρ v pv)(e:wg ρ pv=cL (d,ρ')):∃X,Ev O H X H/\Rl K B Z X Y H ρ'/\DV X K H v d:=by
 cases pv with
 |fz d'=>ext e;show#[O,.refl,R,h]
 |ow ds=>ext e;let(a,vs,rfl,h1,T,S,Q,P):=h;show#[Dx O a,Ev.sub λb z=>z.1,R.sub T P,uQ S (λz=>z.2 W) (Q.ev (Ev.sub λb z=>z.1))]
 |pl i=>
  let f:V0 ρ i ρ[i]?=cL (d,ρ'):=e;let y:=h;cases q:ρ[i]? with
  |none=>rw[q]at f;ext f
  |some o=>
   cases o with
   |none=>rw[q]at f;ext f
   |some x=>
    let(u,E,A):=R.slot i x q;rw[y]at E;ext E;rw[q]at f;cases x with
    |fz d'=>ext f;show#[O,.refl,R,A]
    |pl j=>show A.elim
    |ow ds=>
     ext f;let(a,vs,rfl,k1,k2,k3,k4):=A;let es:Ev O H (Dx O a) H:=Ev.sub λb z=>z.1;let F:=uQ k3 (λz=>z.2 W) (k4.ev es);show#[Dx O a,es,#[R.same,λb m=>#[R.bo b m,λe=>R.agB k2 (e▸m)],R.bd,λb m z=>R.od b m z.1,by rw[Y7];show R.len,λj x l=>?_,λj k xs G w t r=>?_],F]
     .rcases bX l with⟨rfl,g⟩|⟨p,l⟩
      .ext g;show#[_,y,F]
      .let(u,C,n):=R.slot j x l
       show#[u,C,?_];cases x with
       |fz d=>show DV.ev es n
       |pl i=>show n
       |ow xs=>let(b,I,rfl,N,M,L,J):=n;show#[b,I,W,#[N,λz=>p (R.one j i xs ds (.ref a) l q (by rw[C,z]) y)],M,L,J.ev es]
     .rcases bX t with⟨rfl,g⟩|⟨_,t⟩
      .ext g
      .rcases bX r with⟨rfl,g⟩|⟨_,r⟩
       .ext g
       .show R.one j k xs G w t r
end
def XOk(K:lD)(B:bG)(H:Hp)(c:T)(b:z J)(x:Xc):Prop:=
 (∃a,c=.ref a/\Yt K Yj x.cls=R (R (.ref a)))/\∃fs,(∀p,b=R p->H p=R (.xd fs))/\∀f d,x.fs.lookup f=R d->b≠P/\∃v,fs.lookup f=R v/\DV B K H v d
def XE(K:lD)(B:bG)(a:Hp)(E:XK)(x:Xc):Prop:=∀c d b,Zw a b->XOk K B b c d x->E c d b
def WR(K:lD)(E:XK)(B:bG)(b:Hp)(P:α->Prop):Res α->Prop
 |.ok a=>P a
 |.er x=>XE K B b E x
 |.bad=>False
section
variable{K:lD}{E:XK}{B:bG}{Z:Hp}
def WR.bind(h:WR K E B Z b (r.bind k)):WR K E B Z (λa=>WR K E B Z b (k a)) r:=by ext r<;>show h
def WR.YT(h:WR K E B Z b ((Res.YT o).bind k)):∃a,o=R a/\WR K E B Z b (k a):=by
 cases o with
 |none=>show h.elim
 |some a=>show#[a,W,h]
def WR.imp(h:WR K E B Z b r)(g:∀a,b a->P' a):WR K E B Z P' r:=by
 cases r with
 |ok a=>show g a h
 |er x=>show h
 |bad=>show h
end
abbrev FE:=aU->Res (PV×aU)
abbrev FT:=aU->Res (Bool×aU)
abbrev FA:=aU->Res (G PV×aU)
def EO(K:lD)(E:XK)(t:TE)(f:FE):Prop:=
 ∀(B:bG) (b:Hp) (O:bG) (a:St) (H:Hp) (g:aU) (Q:VK),Rl K B b O a H g->WR K E B b (λr=>∀e v d,Ev O H e d->Rl K B b e a d r.2->abh K b e a d r.2 v r.1->Q v d) (f g)->t a H Q
def TTO(K:lD)(E:XK)(t:TT)(f:FT):Prop:=
 ∀(B:bG) (b:Hp) (O:bG) (a:St) (H:Hp) (e:aU) (Q:Bool->Hp->Prop),Rl K B b O a H e->WR K E B b (λr=>∀g d,Ev O H g d->Rl K B b g a d r.2->Q r.1 d) (f e)->t a H Q
def AO(K:lD)(E:XK)(t:TA)(f:FA):Prop:=
 ∀(B:bG) (b:Hp) (O:bG) (a:St) (H:Hp) (g:aU) (Q:G V->Hp->Prop),Rl K B b O a H g->WR K E B b (λr=>∀e h d,Ev O H e d->Rl K B b e a d r.2->Paired (λv pv=>abh K b e a d r.2 v pv/\lK pv) h r.1->Q h d) (f g)->t a H Q
inductive RV where
 |fz (d:D)
 |ow (ds:G D)
def RV.pv:RV->PV
 |.fz d=>.fz d
 |.ow ds=>.ow ds
def Fin(O:bG)(K:lD)(H:Hp)(Q:VK):RV->Prop
 |.fz d=>∀v a,Zw H a->DV O K a v d->Q v a
 |.ow ds=>∀p b a,Zw H a->H p=P->a p=R (.lst b)->Zn (bF O p) K a b ds->Q (.ref p) a
def mz(O:bG)(H:Hp):Prop:=∀a,H a=P->¬O a
section
variable{K:lD}{E:XK}{B O U:bG}{Y H X:Hp}{Z:St}{ρ ρ':aU}{v:V}
def j4(R:Rl K B Y O Z H ρ)(h:∀U v X,Ev O H U X->Rl K B Y U Z X ρ->abh K Y U Z X ρ v C.pv->Q v X):Fin O K H Q C:=by
 cases C with
 |fz d=>show λv X s f=>h O v X (Ev.grow s) (R.grow s) f
 |ow ds=>intro p q X s b e f;show h (bF O p) (.ref p) X (Ev.add s b) (R.add s b (by rw[e];simp)) #[p,q,W,.inr W,R.agT b,e,f,λi es r z=>?_];let(u,g,a,l,e2,o,n,j,m):=R.slot i _ r;rw[z]at g;ext g;ext e2;rw[b]at j;ext j
theorem Fin.new(hd:Zn O K H vs ds)(h:Fin O K H Q (.ow ds)):∀p,H p=P->Q (.ref p) (bj H p (.lst vs)):=λp a=>
 h p vs _ (a9 a _) a aI (hd.ev (Ev.add (a9 a _) a))
theorem Fin.afC(hd:Zn O K H vs ds)(b:mz O H)(h:Fin O K H Q (.fz (.tuple ds))):∀p,H p=P->Q (.ref p) (bj H p (.tup vs)):=λp a=>
 h (.ref p) _ (a9 a _) (.tup #[SqT.of aI,λz=>b4 z (b p a)] (hd.ev (Ev.grow (a9 a _))))
theorem Fin.at(h:Fin O K H Q (.fz d))(a:DV O K H v d):Q v H:=h v H (Zw.refl H) a
def Bf(ρ:aU)(i:Nat):z (z PV)->Res (PV×aU)
 |some (R (.fz d))=>.ok (.fz d,ρ)
 |some (R (.ow _))=>.ok (.pl i,ρ)
 |_=>.bad
def aa(i:Nat):FE:=λρ=>Bf ρ i ρ[i]?
def RI:EO K E (xg i) (aa i):=by
 intro B Y O Z H ρ Q R w;unfold aa at w;cases q:ρ[i]? with
 |none=>rw[q]at w;show w.elim
 |some o=>
  cases o with
  |none=>rw[q]at w;show w.elim
  |some x=>
   rw[q]at w;let(v,a,b):=R.slot i x q;cases x with
   |fz d=>show#[v,a,w O v H .refl R b]
   |ow ds=>show#[v,a,w O v H .refl R a]
   |pl j=>show w.elim
def pC(d:D):FE:=λρ=>.ok (.fz d,ρ)
theorem E4(h:∀O H,DV O K H v d):EO K E (tC v) (pC d):=λB Y O Z H ρ Q R w=>w O v H .refl R (h O H)
theorem P7:EO K E (tC (.int i)) (pC (.int i)):=E4 λ_ _=>.int i
theorem Tu:EO K E (tC (.bl b)) (pC (.bool b)):=E4 λ_ _=>.bl b
theorem Qr:EO K E (tC (.str x)) (pC (.str x)):=E4 λ_ _=>.str x
theorem P1:EO K E (tC .non) (pC .none):=E4 λ_ _=>.non
def jU(K:lD)(r:R2)(f:D->D->z RV):Prop:=∀(O:bG) (H:Hp) (x y:V) (d a:D) (b:RV) (Q:VK),mz O H->DX O K H x d->DX O K H y a->f d a=R b->Fin O K H Q b->r x y H Q
def am(f:D->D->z RV)(c d:FE):FE:=λρ=>(c ρ).bind λa=>(d a.2).bind λb=>(Res.YT (pz b.2 (cx a.1))).bind λh=>(Res.YT (pz b.2 b.1)).bind λe=>(Res.YT (f h e)).bind λg=>.ok (g.pv,b.2)
def ND(q:jU K r f)(c:EO K E ta fa)(t:EO K E tb fb):EO K E (HX r ta tb) (am f fa fb):=by intro B Y O Z H ρ Q R w;show c B Y O Z H ρ _ R (w.bind.imp λa h M x L e1 A p=>?_);let(G,e2,R2,o):=gD A p;show t B Y G Z L a.2 _ R2 (h.bind.imp λb d F y J e3 e n=>?_);let g:=o.keep (lU a.1) e3 (ρ':=b.2);let(dx,j,d):=d.YT;let(u,i,d):=d.YT;let(N,l,d):=d.YT;show q F J x y dx u N Q e.od (ja e g j) (ja e n i) l (j4 e λC v I e4 z m=>?_);show d C v I (e1.trans (e2.trans (e3.trans e4))) z m
def Wu(K:lD)(r:V->Hp->VK->Prop)(f:D->z RV):Prop:=∀(O:bG) (H:Hp) (x:V) (b:D) (a:RV) (Q:VK),mz O H->DX O K H x b->f b=R a->Fin O K H Q a->r x H Q
def P8(f:D->z RV)(c:FE):FE:=λρ=>(c ρ).bind λa=>(Res.YT (pz a.2 a.1)).bind λd=>(Res.YT (f d)).bind λb=>.ok (b.pv,a.2)
def TM(j:Wu K r f)(c:EO K E C I):EO K E (V7 r C) (P8 f I):=by intro B Y O Z H ρ Q R w;show c B Y O Z H ρ _ R (w.bind.imp λa b n x p e1 d i=>?_);let(t,e,b):=b.YT;let(q,g,b):=b.YT;show j n p x t q Q d.od (ja d i e) g (j4 d λm v o e4 l h=>b m v o (e1.trans e4) l h)
def Vr:D->z Bool
 |.bool b=>R b
 |_=>P
def Pf(h:DX O K H x d)(e:Vr d=R b):x=.bl b:=by ext d<;>ext e;ext h;rfl
def ai(c:FE):aU->Res (Bool×aU):=λρ=>(c ρ).bind λa=>(Res.YT (pz a.2 a.1)).bind λd=>(Res.YT (Vr d)).bind λb=>.ok (b,a.2)
def kX(c:EO K E o C):TTO K E (tY o) (ai C):=by intro B Y O Z H ρ Q R w;show c B Y O Z H ρ _ R (w.bind.imp λa e j x l e1 f i=>?_);let(d,g,e):=e.YT;let(b,h,e):=e.YT;show#[b,Pf (ja f i g) h,e j l e1 f]
theorem Up(a:EO K E o C):TTO K E (tB o) (ai C):=kX a
def jK(c b:FT):FT:=λρ=>(c ρ).bind λa=>if a.1=S then b a.2 else .ok (M,a.2)
def pQ(c b:FT):FT:=λρ=>(c ρ).bind λa=>if a.1=S then .ok (S,a.2)else b a.2
def jG(b:FT):FT:=λρ=>(b ρ).bind λa=>.ok (!a.1,a.2)
theorem TTO.next(h:TTO K E t f)(R:Rl K B Y O1 Z H1 ρ)(e1:Ev O H O1 H1)(w:WR K E B Y (λr=>∀U X,Ev O H U X->Rl K B Y U Z X r.2->Q r.1 X) (f ρ)):t Z H1 Q:=
 h B Y O1 Z H1 ρ Q R (w.imp λr q U X a b=>q U X (e1.trans a) b)
theorem EO.next(h:EO K E t f)(R:Rl K B Y O1 Z H1 ρ)(e1:Ev O H O1 H1)(w:WR K E B Y (λr=>∀U v X,Ev O H U X->Rl K B Y U Z X r.2->abh K Y U Z X r.2 v r.1->Q v X) (f ρ)):t Z H1 Q:=
 h B Y O1 Z H1 ρ Q R (w.imp λr q U v X b d a=>q U v X (e1.trans b) d a)
def Kl(j:TTO K E t f)(i:TTO K E u g):TTO K E (Q4 t u) (jK f g):=by
 intro B Y O Z H ρ Q R w;show j B Y O Z H ρ _ R (w.bind.imp λa d l m e1 e=>?_);let(b,h):=a;cases b with
 |true=>show i.next e e1 d
 |false=>show d l m e1 e
def PF(j:TTO K E t f)(i:TTO K E u g):TTO K E (VF t u) (pQ f g):=by
 intro B Y O Z H ρ Q R w;show j B Y O Z H ρ _ R (w.bind.imp λa d l m e1 e=>?_);let(b,h):=a;cases b with
 |true=>show d l m e1 e
 |false=>show i.next e e1 d
def Iv(d:TTO K E t f):TTO K E (Kn t) (jG f):=by intro B Y O Z H ρ Q R w;show d B Y O Z H ρ _ R (w.bind.imp λa b g h e1 e=>b g h e1 e)
def bW:FT:=λρ=>.ok (S,ρ)
theorem EC:TTO K E En bW:=λB Y O Z H ρ Q R w=>w O H .refl R
def C3(c b:FE):FE:=λρ=>(ai c ρ).bind λa=>if a.1=S then b a.2 else .ok (.fz (.bool M),a.2)
def yP(b:FE):FE:=λρ=>(ai b ρ).bind λa=>.ok (.fz (.bool (!a.1)),a.2)
def NZ(j:EO K E C I)(h:EO K E o fb):EO K E (EN C o) (C3 I fb):=by
 intro B Y O Z H ρ Q R w;show kX j B Y O Z H ρ (λc d=>if c=S then o Z d Q else Q (.bl M) d) R (w.bind.imp λa e i d e1 f=>?_);let(b,g):=a;cases b with
 |true=>show h.next f e1 e
 |false=>show e i _ d e1 f (.bl M)
def OV(g:EO K E o C):EO K E (Nz o) (yP C):=by intro B Y O Z H ρ Q R w;show kX g B Y O Z H ρ (λc b=>Q (.bl (!c)) b) R (w.bind.imp λa d f b e1 e=>d f _ b e1 e (.bl _))
def Dl(c:FT)(d b:FE):FE:=λρ=>(c ρ).bind λa=>if a.1=S then d a.2 else b a.2
def TX(g:TTO K E t c)(k:EO K E C I)(h:EO K E o fb):EO K E (UX t C o) (Dl c I fb):=by
 intro B Y O Z H ρ Q R w;show g B Y O Z H ρ _ R (w.bind.imp λa d i j e1 e=>?_);let(b,f):=a;cases b with
 |true=>show k.next e e1 d
 |false=>show h.next e e1 d
def dB(f g:D->D->z RV)(l e k:FE):FE:=λρ=>(l ρ).bind λa=>(e a.2).bind λb=>(Res.YT (pz b.2 (cx a.1))).bind λm=>(Res.YT (pz b.2 (cx b.1))).bind λi=>
 (Res.YT (f m i)).bind λj=>match j with
  |.fz (.bool S)=>(k b.2).bind λc=>(Res.YT (pz c.2 (cx b.1))).bind λd=>(Res.YT (pz c.2 c.1)).bind λh=>(Res.YT (g d h)).bind λj=>.ok (j.pv,c.2)
  |.fz (.bool M)=>.ok (.fz (.bool M),b.2)
  |_=>.bad
def HC(D:jU K r f)(p:jU K r' g)(ha:EO K E ta fa)(hb:EO K E tb fb)(hc:EO K E tc fc):EO K E (yC r r' ta tb tc) (dB f g fa fb fc):=by
 intro B Y O Z H ρ Q R w;show ha B Y O Z H ρ _ R (w.bind.imp λa G O1 x H1 e1 R1 p1=>?_);let(O2,e2,R2,T):=gD R1 p1;show hb B Y O2 Z H1 a.2 _ R2 (G.bind.imp λb e O3' y F q u n=>?_);let(i,e3,l,A):=gD u n;let e3:=q.trans e3;let o:=T.keep (lU a.1) e3 (ρ':=b.2);let(dx,L,e):=e.YT;let(dy,J,e):=e.YT;let(rv,N,e):=e.YT;show D i F x y dx dy rv _ l.od (ja l o L) (ja l A J) N ?_;cases rv with
 |ow ds=>show e.elim
 |fz d=>
  intro v X s dv;cases dv with
  |bl k=>
   show#[k,W,?_];let C:=l.grow s;let e4:Ev i F i X:=Ev.grow s;cases k with
   |false=>show e i _ X (e1.trans (e2.trans (e3.trans e4))) C (.bl XZ)
   |true=>rw[ax W];show hc B Y i Z X b.2 _ C (WR.imp (WR.bind e) λc h O5 z H5 e5 j S=>?_);let(t,m,h):=h.YT;let(dz,I,h):=h.YT;let(rv,M,h):=h.YT;show p O5 H5 y z t dz rv Q j.od (ja j (A.keep (lU b.1) (e4.trans e5)) m) (ja j S I) M (j4 j λO6 v H6 e6 R6 P=>?_);show h O6 v H6 (e1.trans (e2.trans (e3.trans (e4.trans (e5.trans e6))))) R6 P
  |_=>show e.elim
def ah:FA:=λρ=>.ok ([],ρ)
def ae(c:FE)(d:FA):FA:=λρ=>(c ρ).bind λa=>(d a.2).bind λb=>.ok (cx a.1::b.1,b.2)
theorem Oo:AO K E jx ah:=λB Y O Z H ρ Q R w=>w O [] H .refl R .nil
def K6(c:EO K E C I)(j:AO K E tr fr):AO K E (g7 C tr) (ae I fr):=by intro B Y O Z H ρ Q R w;show c B Y O Z H ρ _ R (w.bind.imp λa f r x q e1 m i=>?_);let(o,e2,R2,h):=gD m i;show j B Y o Z q a.2 _ R2 (f.bind.imp λb e n d p e3 l g=>?_);show e n (x::d) p (e1.trans (e2.trans e3)) l (.cons #[h.keep (lU a.1) e3,lU a.1] g)
def sW(ρ:aU):G PV->z (G D)
 |[]=>R []
 |p::r=>match pz ρ p with
  |some d=>(match sW ρ r with
   |some ds=>R (d::ds)
   |none=>P)
  |none=>P
theorem qV(R:Rl K B Y O Z H ρ):∀{f:G V} {c:G PV} {ds:G D},Paired (λv pv=>abh K Y O Z H ρ v pv/\lK pv) f c->sW ρ c=cL ds->Paired (DX O K H) f ds
 |_,_,_,.nil,e=>by ext e;show .nil
 |_,_,_,.cons (l₂:=c) (b:=p) h t,e=>by
  unfold sW at e;cases q:pz ρ p with
  |none=>simp_all
  |some d=>
   rw[q]at e;dsimp only at e;cases g:sW ρ c with
   |none=>simp_all
   |some a=>rw[g]at e;ext e;show .cons (ja R h.1 q) (qV R t g)
def mX(ρ:aU):G PV->z (G D×aU)
 |[]=>R ([],ρ)
 |p::r=>match wg ρ p with
  |some (d,b)=>(match mX b r with
   |some (ds,a)=>R (d::ds,a)
   |none=>P)
  |none=>P
theorem mQ:∀{k:G V} {c:G PV} {ds:G D} {O:bG} {ρ ρ':aU},Rl K B Y O Z H ρ->Paired (λv pv=>abh K Y O Z H ρ v pv/\lK pv) k c->mX ρ c=cL (ds,ρ')->∃U,Ev O H U H/\Rl K B Y U Z H ρ'/\Zn U K H k ds
 |_,_,_,O,_,_,y,.nil,e=>by ext e;show#[O,.refl,y,.nil]
 |_,_,_,O,ρ,ρ',y,.cons (l₁:=k) (l₂:=c) (b:=p) h t,e=>by
  unfold mX at e;cases q:wg ρ p with
  |none=>simp_all
  |some r=>
   let(d,a):=r;rw[q]at e;dsimp only at e;cases A:mX a c with
   |none=>simp_all
   |some j=>let(m,g):=j;rw[A]at e;ext e;let(w,e1,o,d1):=sH y h.1 q;let i:Paired (λv pv=>abh K Y w Z H a v pv/\lK pv) k c:=Paired.aaQ t λv pv #[l,f]=>#[l.keep f e1,f];let(u,e2,R2,n):=mQ o i A;show#[u,e1.trans e2,R2,.cons (d1.ev e2) n]
abbrev FN:=G D->Res RV
def CV(K:lD)(n:Nat)(F:FN):Sp:=λb H Q E=>b.length=n/\∃(B:bG) (ds:G D),(∀a,B a->H a≠P)/\Zn B K H b ds/\WR K E B H (Fin B K H Q) (F ds)
def bT(c:FA):FE:=λρ=>(c ρ).bind λa=>(Res.YT (mX a.2 a.1)).bind λb=>if b.1.length<=1000 then .ok (.fz (.tuple b.1),b.2)else .bad
def bV(c:FA):FE:=λρ=>(c ρ).bind λa=>(Res.YT (mX a.2 a.1)).bind λb=>if b.1.length<=1000 then .ok (.ow b.1,b.2)else .bad
theorem yj(h:n<=1000):n<=Yc:=YN h ()
def Rm(c:AO K E C I):EO K E (IW C) (bT I):=by
 intro B Y O Z H ρ Q R w;show c B Y O Z H ρ _ R (w.bind.imp λa f o r p e1 j h=>?_);let((ds,e),q,b):=f.YT;let(n,e2,R2,d):=mQ j h q;dsimp only at b;by_cases hn:ds.length<=1000
 .rw[ax hn]at b;show#[by rw[d.length];show yj hn,Fin.afC d R2.od (j4 R2 λl v m e3 i g=>b l v m (e1.trans (e2.trans e3)) i g)]
 .rw[a6 hn]at b;show b.elim
def QS(c:AO K E C I):EO K E (Rr C) (bV I):=by
 intro B Y O Z H ρ Q R w;show c B Y O Z H ρ _ R (w.bind.imp λa f o r p e1 j h=>?_);let((ds,e),q,b):=f.YT;let(n,e2,R2,d):=mQ j h q;dsimp only at b;by_cases hn:ds.length<=1000
 .rw[ax hn]at b;show#[by rw[d.length];show yj hn,Fin.new d (j4 R2 λl v m e3 i g=>b l v m (e1.trans (e2.trans e3)) i g)]
 .rw[a6 hn]at b;show b.elim
def wj(K:lD)(r:G V->Hp->VK->Prop)(f:G D->z RV):Prop:=∀(O:bG) (H:Hp) (xs:G V) (ds:G D) (a:RV) (Q:VK),mz O H->Paired (DX O K H) xs ds->f ds=R a->Fin O K H Q a->r xs H Q
def cF(f:G D->z RV)(c:FA):FE:=λρ=>(c ρ).bind λa=>(Res.YT (sW a.2 a.1)).bind λds=>(Res.YT (f ds)).bind λb=>.ok (b.pv,a.2)
def Nf(j:wj K r f)(c:AO K E C I):EO K E (Dh r C) (cF f I):=by intro B Y O Z H ρ Q R w;show c B Y O Z H ρ _ R (w.bind.imp λa e n t p e1 d i=>?_);let(ds,q,b):=e.YT;let(u,g,b):=b.YT;show j n p t ds u Q d.od (qV d i q) g (j4 d λm v o e4 l h=>b m v o (e1.trans e4) l h)
def U2:D->z Int
 |.int i=>R i
 |_=>P
def Dw(h:DX O K H x d)(e:U2 d=R i):x=.int i:=by ext d<;>ext e;ext h;rfl
abbrev FO:=aU->Res (z Int×aU)
def S4(K:lD)(E:XK)(t:TO)(f:FO):Prop:=
 ∀(B:bG) (Y:Hp) (O:bG) (Z:St) (H:Hp) (ρ:aU) (Q:z Int->Hp->Prop),Rl K B Y O Z H ρ->WR K E B Y (λr=>∀U X,Ev O H U X->Rl K B Y U Z X r.2->Q r.1 X) (f ρ)->t Z H Q
def iX:FO:=λρ=>.ok (P,ρ)
def eB(b:FE):FO:=λρ=>(b ρ).bind λa=>(Res.YT (pz a.2 a.1)).bind λd=>(Res.YT (U2 d)).bind λi=>.ok (R i,a.2)
theorem DB:S4 K E AR iX:=λB Y O Z H ρ Q R w=>w O H .refl R
def D3(c:EO K E o C):S4 K E (Ng o) (eB C):=by intro B Y O Z H ρ Q R w;show c B Y O Z H ρ _ R (w.bind.imp λa f j x l e1 e h=>?_);let(d,q,b):=f.YT;let(i,g,b):=b.YT;show#[i,Dw (ja e h q) g,b j l e1 e]
def UL(K:lD)(r:V->z Int->z Int->Hp->VK->Prop)(f:D->z Int->z Int->z RV):Prop:=∀(O:bG) (H:Hp) (x:V) (lo b:z Int) (d:D) (a:RV) (Q:VK),mz O H->DX O K H x d->f d lo b=R a->Fin O K H Q a->r x lo b H Q
def tN(f:D->z Int->z Int->z RV)(c:FE)(b d:FO):FE:=λρ=>(c ρ).bind λa=>(b a.2).bind λl=>(d l.2).bind λh=>(Res.YT (pz h.2 (cx a.1))).bind λg=>(Res.YT (f g l.1 h.1)).bind λe=>.ok (e.pv,h.2)
def SG(p:UL K r f)(c:EO K E ta fa)(q:S4 K E tl fl)(t:S4 K E th fh):EO K E (Wh r ta tl th) (tN f fa fl fh):=by intro B Y O Z H ρ Q R w;show c B Y O Z H ρ _ R (w.bind.imp λa g N x M e1 z o=>?_);let(G,e2,R2,n):=gD z o;show q B Y G Z M a.2 _ R2 (g.bind.imp λl e F L e3 y=>?_);show t B Y F Z L l.2 _ y (e.bind.imp λh b C J e4 d=>?_);let(dx,i,b):=b.YT;let(rv,j,b):=b.YT;show p C J x l.1 h.1 dx rv Q d.od (ja d (n.keep (lU a.1) (e3.trans e4)) i) j (j4 d λA v I e5 u m=>b A v I (e1.trans (e2.trans (e3.trans (e4.trans e5)))) u m)
end
def uM{l:G α}(h:(l.set i x)[i]?=R y):i<l.length:=by
 rw[Y5]at h;rw[ax W]at h;split at h
 .assumption
 .ext h
section
variable{K:lD}{E:XK}{B O T:bG}{Z H U:Hp}{Y:St}{ρ ρ':aU}{v:V}
def Rl.mut{i:Nat}{ds g:cc D}{a:X5}{f:cc V}(R:Rl K B Z O Y H ρ)(c:ρ[i]?=cL (cL (.ow ds)))(J:Y[i]?=cL (cL (.ref a)))(L:O a)(M:Z a=CL)(hd:Zn O K H f g):
  Rl K B Z O Y (bj H a (.lst f)) (ρ.set i (cL (.ow g))):=by
 let ev:Ev O H O (bj H a (.lst f)):=Ev.mut L _;show#[λb o e=>by rw[aQ (bK e M)];show R.same b o e,R.bo,R.bd,λb m=>?_,by rw[Y7];show R.len,λj x l=>?_,λj k xs G w hj hk A t=>?_]
 .by_cases e:b=a
  .rw[e,aI]at m;ext m
  .rw[aQ e]at m;show R.od b m
 .rcases bX l with⟨rfl,ee⟩|⟨r,l⟩
  .ext ee;show#[_,J,a,f,W,L,M,aI,hd.ev ev]
  .let(u,I,q):=R.slot j x l
   show#[u,I,?_];cases x with
   |fz d=>show DV.ev ev q
   |pl i=>show q
   |ow xs=>let(b,N,rfl,X,S,Q,P):=q;let F:b≠a:=λz=>r (R.one j i xs ds (.ref a) l c (by rw[I,z]) J);show#[b,N,W,X,S,by rw[aQ F];show Q,P.ev ev]
 .let own:∀{j:Nat} {xs:cc D},(ρ.set i (cL (.ow g)))[j]?=cL (cL (.ow xs))->∃G,ρ[j]?=cL (cL (.ow G)):=λ{j xs} h=>by
   rcases bX h with⟨rfl,_⟩|⟨_,h⟩
   .show#[_,c]
   .show#[_,h]
  let(p,C):=own hj;let(n,y):=own hk;show R.one j k p n w C y A t
theorem tJ(h:n<1000000):n<Yc:=Yu h ()
def yk:z (z PV)->z (G D)
 |some (R (.ow ds))=>R ds
 |_=>P
def pX(h:yk o=R ds):o=R (R (.ow ds)):=by
 unfold yk at h;split at h
 .ext h;rfl
 .ext h
def wo(i:Nat)(c:FE):FE:=λρ=>(Res.YT (yk ρ[i]?)).bind λ_=>(c ρ).bind λa=>(Res.YT (wg a.2 a.1)).bind λb=>(Res.YT (yk b.2[i]?)).bind λds=>
 if ds.length<1000000 then .ok (.fz .none,b.2.set i (R (.ow (ds++[b.1]))))else .bad
def P4(p:EO K E te fe):EO K E (Q7 K "list" uB (xg i) (g7 te jx)) (wo i fe):=by
 intro B Z O Y H ρ Q R w;let(u,n,w):=w.YT;let(v,j,a,N,rfl,I,G,q,F):=R.slot i _ (pX n);show#[_,j,.inl #[W,_,SqL.of q],?_];show p B Z O Y H ρ _ R (w.bind.imp λb e L y M e1 z o=>?_);let((d,l),m,e):=e.YT;let(A,e2,R2,t):=sH z o m;let(ds,f,e):=e.YT;let f:=pX f;let(C,k1,J,g,r,k2,k3,k4,k5):=R2.slot i _ f;subst r;rw[j]at k1;ext k1;dsimp only at e;by_cases h:ds.length<1000000
 .rw[ax h]at e;show#[a,g,y,W,W,k4,tJ (by rw[k5.length];show h),?_];show e A .non _ (e1.trans (e2.trans (Ev.mut k2 _))) (R2.mut f j k2 k3 (k5.append (.cons t .nil))) .non
 .rw[a6 h]at e;show e.elim
abbrev FG:=PV->aU->Res aU
abbrev RO:=G D->aU->Res aU
def GO(K:lD)(E:XK)(g:TG)(f:FG):Prop:=
 ∀(B:bG) (Z:Hp) (O:bG) (Y:St) (H:Hp) (ρ:aU) (v:V) (pv:PV) (Q:St->Hp->Prop),Rl K B Z O Y H ρ->abh K Z O Y H ρ v pv->WR K E B Z (λρ'=>∀T a U,Ev O H T U->Rl K B Z T a U ρ'->Q a U) (f pv ρ)->g v Y H Q
def SE(K:lD)(E:XK)(g:yu)(f:RO):Prop:=
 ∀(B:bG) (Z:Hp) (O:bG) (Y:St) (H:Hp) (ρ:aU) (b:G V) (ds:G D) (Q:St->Hp->Prop),Rl K B Z O Y H ρ->Zn O K H b ds->WR K E B Z (λρ'=>∀T a U,Ev O H T U->Rl K B Z T a U ρ'->Q a U) (f ds ρ)->g b Y H Q
def Rl.aiz(R:Rl K B Z O Y H ρ)(h:DV O K H v d):Rl K B Z O (Y.set i (cL v)) H (ρ.set i (cL (.fz d))):=by
 show#[R.same,R.bo,R.bd,R.od,by rw[Y7,Y7];show R.len,λj x f=>?_,λj k xs o w m l b a=>?_]
 .rcases bX f with⟨rfl,e⟩|⟨g,f⟩
  .ext e;let:=uM f;show#[v,by rw[Y5,ax W,ax (by rw[R.len];show this)],h]
  .let(u,t,r):=R.slot j x f;show#[u,by rw[Y5,a6 (λz=>g z.symm)];show t,r]
 .rcases bX m with⟨rfl,n⟩|⟨q,m⟩
  .ext n
  .rcases bX l with⟨rfl,n⟩|⟨p,l⟩
   .ext n
   .rw[Y5,a6 (λz=>q z.symm)]at b;rw[Y5,a6 (λz=>p z.symm)]at a;show R.one j k xs o w m l b a
def Rl.akj(R:Rl K B Z O Y H ρ)(h:abh K Z O Y H ρ v (.ow ds)):Rl K B Z O (Y.set i (cL v)) H (ρ.set i (cL (.ow ds))):=by
 let(a,N,rfl,I,G,F,C,p):=h;show#[R.same,R.bo,R.bd,R.od,by rw[Y7,Y7];show R.len,λj x l=>?_,λj k xs o w A g d b=>?_]
 .rcases bX l with⟨rfl,e⟩|⟨n,l⟩
  .ext e;let:=uM l;show#[.ref a,by rw[Y5,ax W,ax (by rw[R.len];show this)],a,N,W,I,G,F,C]
  .let(u,t,r):=R.slot j x l;show#[u,by rw[Y5,a6 (λz=>n z.symm)];show t,r]
 .rcases bX A with⟨rfl,L⟩|⟨q,f⟩
  .rcases bX g with⟨rfl,J⟩|⟨m,g⟩
   .rfl
   .rw[Y5,a6 (λz=>m z.symm)]at b
    rcases bX d with⟨_,e⟩|⟨z,_⟩
    .ext e;show b4 b (p k o g)
    .show b4 W z
  .let y:=f
   rw[Y5,a6 (λz=>q z.symm)]at d;rcases bX g with⟨rfl,L⟩|⟨m,g⟩
   .rcases bX b with⟨_,e⟩|⟨z,_⟩
    .ext e;show b4 d (p j xs f)
    .show b4 W z
   .rw[Y5,a6 (λz=>m z.symm)]at b;show R.one j k xs o w f g d b
def gN(i:Nat):FG:=λpv ρ=>match pv with
 |.ow ds=>.ok (ρ.set i (R (.ow ds)))
 |.fz d=>.ok (ρ.set i (R (.fz d)))
 |.pl j=>(Res.YT (wg ρ (.pl j))).bind λb=>.ok (b.2.set i (R (.fz b.1)))
def vH:GO K E (pf i) (gN i):=by
 intro B Z O Y H ρ v pv Q R p w;cases pv with
 |ow ds=>show w O _ H .refl (R.akj p)
 |fz d=>show w O _ H .refl (R.aiz p)
 |pl j=>let((d,a),q,w):=WR.YT (show WR K E B Z _ ((Res.YT (wg ρ (.pl j))).bind λb=>.ok (b.2.set i (cL (.fz b.1))))from w);let(f,e2,R2,e):=sH R p q;show w f _ H e2 (R2.aiz e)
def Fc:RO:=λds ρ=>match ds with
 |[]=>.ok ρ
 |_=>.bad
def vh(f:FG)(g:RO):RO:=λds ρ=>match ds with
 |[]=>.bad
 |d::r=>(f (.fz d) ρ).bind λa=>g r a
def On:SE K E IK Fc:=by
 intro B Z O Y H ρ b ds Q R a w;cases a with
 |nil=>show#[W,w O Y H .refl R]
 |cons _ _=>show w.elim
def LY(n:GO K E t f)(m:SE K E u g):SE K E (A1 t u) (vh f g):=by
 intro B Z O Y H ρ C ds Q R o w;cases o with
 |nil=>show w.elim
 |cons l j=>rename_i v C d ds;show#[_,_,W,n B Z O Y H ρ _ (.fz d) _ R l (WR.imp (WR.bind w) λe i y b A e1 p=>?_)];show m B Z y b A e _ _ Q p (j.ev e1) (i.imp λh q r a z e2 R2=>q r a z (e1.trans e2) R2)
def Wk:D->z (G D)
 |.tuple ds=>R ds
 |_=>P
def FJ(h:DX O K H x d)(e:Wk d=R ds):∃a xs,x=.ref a/\abg O K H a xs/\Zn O K H xs ds:=by
 ext d<;>ext e;cases h with
 |tup h b=>show#[_,_,W,h,b]
def gT(n:Nat)(f:RO):FG:=λpv ρ=>(Res.YT (pz ρ pv)).bind λd=>(Res.YT (Wk d)).bind λds=>if ds.length=n then f ds ρ else .bad
def NR(h:SE K E t f):GO K E (K3 K n t) (gT n f):=by
 intro B Z O Y H ρ v pv Q R p w;let(d,g,w):=w.YT;let(ds,e,w):=w.YT;let(a,xs,rfl,i,b):=FJ (ja R p g) e;by_cases hn:ds.length=n
 .rw[ax hn]at w;show#[a,xs,W,i.1,b.length.trans hn,h B Z O Y H ρ xs ds Q R b w]
 .rw[a6 hn]at w;show w.elim
def UH(i:Nat)(c:FE):FG:=λpv ρ=>(Res.YT (wg ρ pv)).bind λb=>(Res.YT (yk b.2[i]?)).bind λ_=>(c b.2).bind λa=>(Res.YT (pz a.2 a.1)).bind λd=>(Res.YT (U2 d)).bind λn=>(Res.YT (yk a.2[i]?)).bind λds=>
 (Res.YT (Dj ds.length n)).bind λk=>.ok (a.2.set i (R (.ow (ds.set k b.1))))
def So(c:EO K E ti fi):GO K E (Uh (xg i) ti ME) (UH i fi):=by intro B Z O Y H ρ v pv Q R p w;let((d,g),r,w):=w.YT;let(J,e1,l,F):=sH R p r;let(G,t,w):=w.YT;let(u,j,a,vs,rfl,S,P,N,M):=l.slot i _ (pX t);show#[_,j,?_];show c B Z J Y H g _ l (w.bind.imp λb e I y H2 e2 R2 z=>?_);let(X,m,e):=e.YT;let(n,q,e):=e.YT;let(ds,f,e):=e.YT;let(k,o,e):=e.YT;let f:=pX f;let A:=Dw (ja R2 z m) q;subst A;let(L,k1,a',h,C,k2,k3,k4,k5):=R2.slot i _ f;subst C;rw[j]at k1;ext k1;show#[a,h,n,k,W,W,k4,by rw[k5.length];show o,?_];show e I Y _ (e1.trans (e2.trans (Ev.mut k2 _))) (R2.mut f j k2 k3 (k5.set (F.ev e2) k))
inductive Fl where
 |nx (ρ:aU)
 |rt (rv:RV)
 |bk (ρ:aU)
 |ct (ρ:aU)
abbrev FS:=aU->Res Fl
def ad0(K:lD)(B:bG)(Z:Hp)(O:bG)(H:Hp)(D:Ends):Fl->Prop
 |.nx ρ'=>∀T a U,Ev O H T U->Rl K B Z T a U ρ'->D.nx a U
 |.bk ρ'=>∀T a U,Ev O H T U->Rl K B Z T a U ρ'->D.bk a U
 |.ct ρ'=>∀T a U,Ev O H T U->Rl K B Z T a U ρ'->D.ct a U
 |.rt b=>Fin B K Z D.rt b
def SO(K:lD)(E:XK)(t:TS)(g:FS):Prop:=
 ∀(B:bG) (Z:Hp) (O:bG) (Y:St) (H:Hp) (ρ:aU) (D:Ends),Rl K B Z O Y H ρ->WR K E B Z (ad0 K B Z O H D) (g ρ)->t D Y H
def ad0.ev{D:Ends}(e:Ev O H O1 H1)(h:ad0 K B Z O H D fl):ad0 K B Z O1 H1 D fl:=by
 cases fl with
 |nx ρ'=>show λT a U b d=>h T a U (e.trans b) d
 |bk ρ'=>show λT a U b d=>h T a U (e.trans b) d
 |ct ρ'=>show λT a U b d=>h T a U (e.trans b) d
 |rt f=>show h
def aV:FS:=λρ=>.ok (.nx ρ)
def aM(f g:FS):FS:=λρ=>(f ρ).bind λa=>match a with
 |.nx b=>g b
 |a=>.ok a
def kF(f:FE):FS:=λρ=>(f ρ).bind λa=>.ok (.nx a.2)
def cV(f:FE)(g:FG):FS:=λρ=>(f ρ).bind λa=>(g a.1 a.2).bind λb=>.ok (.nx b)
def eZ(c:FT)(f g:FS):FS:=λρ=>(c ρ).bind λa=>if a.1=S then f a.2 else g a.2
def C8(ρ:aU):PV->z RV
 |.fz d=>R (.fz d)
 |.ow ds=>R (.ow ds)
 |.pl i=>match ρ[i]? with
  |some (R (.fz d))=>R (.fz d)
  |some (R (.ow ds))=>R (.ow ds)
  |_=>P
def aR(f:FE):FS:=λρ=>(f ρ).bind λa=>(Res.YT (C8 a.2 a.1)).bind λb=>.ok (.rt b)
def ff:FS:=λ_=>.bad
theorem JA:SO K E HN aV:=λB Z O Y H ρ D R w=>w O Y H .refl R
theorem Ex:SO K E yG ff:=λB Z O Y H ρ D R w=>w.elim
def NK(i:SO K E t f)(h:SO K E u g):SO K E (Il t u) (aM f g):=by
 intro B Z O Y H ρ D R w;show i B Z O Y H ρ {D with nx:=u D} R (WR.imp (WR.bind w) λe b=>?_);cases e with
 |nx a=>show λl d m e1 j=>h B Z l d m a D j (WR.imp b λe q=>q.ev e1)
 |rt n=>show b
 |bk a=>show b
 |ct a=>show b
def Iq(h:EO K E t f):SO K E (zY t) (kF f):=by intro B Z O Y H ρ D R w;show h B Z O Y H ρ _ R (w.bind.imp λa b e x g e1 d i=>b e Y g e1 d)
def zf(h:EO K E t f)(l:GO K E g C):SO K E (zu t g) (cV f C):=by intro B Z O Y H ρ D R w;show h B Z O Y H ρ _ R (w.bind.imp λa i o x q e1 m j=>?_);show l B Z o Y q a.2 x a.1 _ m j (i.bind.imp λd e n b p e2 R2=>e n b p (e1.trans e2) R2)
def Uv(l:TTO K E c C)(n:SO K E t f)(m:SO K E u g):SO K E (JU c t u) (eZ C f g):=by
 intro B Z O Y H ρ D R w;show l B Z O Y H ρ _ R (w.bind.imp λa e i j e1 h=>?_);let(b,d):=a;cases b with
 |true=>show n B Z i Y j d D h (WR.imp e λo q=>q.ev e1)
 |false=>show m B Z i Y j d D h (WR.imp e λo q=>q.ev e1)
def NG{pv:PV}(R:Rl K B Z O Y H ρ)(p:abh K Z O Y H ρ v pv)(e:C8 ρ pv=cL C)(w:Fin B K Z Q C):Q v H:=by
 let ow:∀{a:J} {A:G V} {ds:G D},O a->Z a=P->H a=cL (.lst A)->Zn O K H A ds->Fin B K Z Q (.ow ds)->Q (.ref a) H:=λ{a A ds} m l g f w=>
  w a A H R.same l g (f.ev (Ev.sub λb z=>z.elim (R.bo b) λe=>by simp_all))
 let fz:∀{d:D},DV O K H v d->Fin B K Z Q (.fz d)->Q v H:=λ{d} h w=>w v H R.same (h.ev (Ev.sub R.bo));cases pv with
 |fz d=>ext e;show fz p w
 |ow ds=>ext e;let(a,A,rfl,m,l,g,f,y):=p;show ow m l g f w
 |pl i=>
  let t:=p;unfold C8 at e;dsimp only at e;cases q:ρ[i]? with
  |none=>simp_all
  |some o=>
   cases o with
   |none=>simp_all
   |some x=>
    let(u,r,n):=R.slot i x q;rw[t]at r;ext r;rw[q]at e;cases x with
    |fz d=>ext e;show fz n w
    |ow ds=>ext e;let(a,A,rfl,m,l,g,f):=n;show ow m l g f w
    |pl j=>show n.elim
def Q1(h:EO K E t f):SO K E (LR t) (aR f):=by intro B Z O Y H ρ D R w;show h B Z O Y H ρ _ R (w.bind.imp λa b g x i e1 e d=>?_);let(j,q,b):=b.YT;show NG e d q b
def pG(K:lD)(J:It)(O:bG)(H:Hp)(ds:G D):Prop:=∀T U,Ev O H T U->mz T U->
 (∀i,i<ds.length->J.go i U/\∀x a,J.yld i U x a->Zw U a/\∃d,ds[i]?=R d/\DV T K a x d)/\J.stop ds.length U
abbrev FI:=aU->Res (G D×aU)
def IO(K:lD)(E:XK)(b:TI)(c:FI):Prop:=
 ∀(B:bG) (Z:Hp) (O:bG) (Y:St) (H:Hp) (ρ:aU) (a:It->Hp->Prop),Rl K B Z O Y H ρ->WR K E B Z (λr=>∀T J U,Ev O H T U->Rl K B Z T Y U r.2->pG K J T U r.1->a J U) (c ρ)->b Y H a
def pA(gt:FG)(b:FS):G D->FS
 |[],ρ=>.ok (.nx ρ)
 |d::r,ρ=>(gt (.fz d) ρ).bind λa=>(b a).bind λe=>match e with
  |.nx f=>pA gt b r f
  |.ct f=>pA gt b r f
  |.bk f=>.ok (.nx f)
  |.rt g=>.ok (.rt g)
def ma(c:FI)(gt:FG)(b:FS):FS:=λρ=>(c ρ).bind λa=>pA gt b a.1 a.2
def OZ(c:IO K E wi fi)(k:GO K E g gt)(s:SO K E tb b):SO K E (Je wi g tb) (ma fi gt b):=by
 intro B Z O Y H ρ D R w;show c B Z O Y H ρ _ R (w.bind.imp λa M F J S e1 Q P=>?_);let(ds,C):=a;dsimp only at M P Q;show#[λi m f U=>m=ds.length - i/\i<=ds.length/\∃O2 ρ2,Ev F S O2 U/\Rl K B Z O2 f U ρ2/\WR K E B Z (ad0 K B Z O H D) (pA gt b (ds.drop i) ρ2),#[_,W,Zj _,F,C,.refl,Q,M],?_];rintro i m o L ⟨rfl,c,O2,ρ2,e2,R2,w2⟩;let(go,p):=P O2 L e2 R2.od;by_cases j:i<ds.length
 .let(g1,g2):=go i j
  show .inr #[g1,λf U=>i+1<=ds.length/\∃O2 ρ2,Ev F S O2 U/\Rl K B Z O2 f U ρ2/\WR K E B Z (ad0 K B Z O H D) (pA gt b (ds.drop (i+1)) ρ2),λf U #[h1,h2]=>#[ds.length - (i+1),by ext,W,h1,h2],λx I y=>?_];let(N,d,hd,dv):=g2 x I y;let ed:ds.drop i=d::ds.drop (i+1):=by let(_,q):=X0.mp hd;rw[ZI j,q]
  rw[ed]at w2;let e3:Ev O2 L O2 I:=Ev.grow N;show k B Z O2 o I ρ2 x (.fz d) _ (R2.grow N) dv (WR.imp (WR.bind w2) λA X O4 z H4 e4 R4=>?_);let n:=e2.trans (e3.trans e4);show s B Z O4 z H4 A _ R4 (WR.imp (WR.bind X) λfl u=>?_);cases fl with
  |nx h=>show λt l G e5 r=>#[j,t,h,n.trans e5,r,u]
  |ct h=>show λt l G e5 r=>#[j,t,h,n.trans e5,r,u]
  |bk h=>show λt l G e5 r=>u t l G (e1.trans (n.trans e5)) r
  |rt rv=>show u
 .let e:i=ds.length:=by ext
  subst e;rw[aas (X6 _)]at w2;show .inl #[p,w2 O2 o L (e1.trans e2) R2]
def si(c:FT)(b:FS):Nat->FS
 |0,_=>.bad
 |n+1,ρ=>(c ρ).bind λa=>if a.1=S then(b a.2).bind λd=>match d with
  |.nx e=>si c b n e
  |.ct e=>si c b n e
  |.bk e=>.ok (.nx e)
  |.rt f=>.ok (.rt f)else .ok (.nx a.2)
def yT(c:FT)(b:FS):FS:=si c b 1000000
def DF(C:TTO K E c fc)(F:SO K E tb b):SO K E (DC c tb) (yT fc b):=by
 intro B Z O Y H ρ D R w;show#[λm e U=>∃j d,Ev O H j U/\Rl K B Z j e U d/\WR K E B Z (ad0 K B Z O H D) (si fc b m d),#[_,O,ρ,.refl,R,w],?_];rintro m h I ⟨j,d,e2,R2,u⟩;cases m with
 |zero=>show u.elim
 |succ m=>
  show C B Z j h I d _ R2 (WR.imp (WR.bind u) λa p z A e3 y=>?_);let(k,r):=a;cases k with
  |true=>
   rw[ax W]at p⊢;show#[λe U=>∃j d,Ev O H j U/\Rl K B Z j e U d/\WR K E B Z (ad0 K B Z O H D) (si fc b m d),λe U q=>#[m,ZU m,q],?_];show F B Z z h A r _ y (WR.imp (WR.bind p) λG o=>?_);let i:=e2.trans e3;cases G with
   |nx f=>show λn g t e5 l=>#[n,f,i.trans e5,l,o]
   |ct f=>show λn g t e5 l=>#[n,f,i.trans e5,l,o]
   |bk f=>show λn g t e5 l=>o n g t (i.trans e5) l
   |rt L=>show o
  |false=>rw[a6 X7]at p⊢;show p z h A (e2.trans e3) y
def eF:D->z (G D)
 |.tuple ds=>R ds
 |.list ds=>R ds
 |_=>P
def Hl(K:lD)(d:TE):TI:=λY H R=>d Y H λx b=>∃a,x=.ref a/\(((∃xs,SqL K b a xs)/\R (Vs K a) b)\/((∃xs,SqT K b a xs)/\R (Vk K a) b))
def Gd(u:PE X l C):PI X tg l (Hl X.K C):=by
 intro g s Y H R I h;show b9 (u g s Y H _ I h) λv f #[x,n,d,r1,r]=>?_;let(a,e,q):=r;subst e;ext r1;rcases q with⟨⟨xs,i⟩,q⟩|⟨⟨xs,i⟩,q⟩
 .let(m,w,p,t):=d.list i
  show aaW p.isList ?_;show#[f.heap.objs.size,[f.heap.objs.size],_,_,n,W,d.kept λb o e=>cn _ e,Co a _,#[_,c5 _ W,W,W],λb j=>?_,q];let e:b=f.heap.objs.size:=by simpa using j
  subst e;show d.acT (X6 _) (d.Zl.fresh (X6 _))
 .let(m,w,p,t):=d.tuple i
  show ZD (show f.heap.IsTuple a m.toArray from p) ?_;show#[f.heap.objs.size,[f.heap.objs.size],_,_,n,W,d.kept λb o e=>cn _ e,yX a _,#[_,c5 _ W,W,W],λb j=>?_,q];let e:b=f.heap.objs.size:=by simpa using j
  subst e;show d.acT (X6 _) (d.Zl.fresh (X6 _))
def Bp(h:acb O K H a xs)(hd:Zn O K H xs ds):pG K (Vs K a) O H ds:=by intro T U e n;let f:=h.ev e;let b:=hd.ev e;show#[λi p=>?_,#[xs,f.1.sq,by rw[hd.length];show X6 _]];let(x,l,_):=b.get (Ye p);show#[#[xs,x,f.1.sq,l],?_];rintro y m ⟨rfl,o⟩;let(d,j,g):=b.ahz (o xs f.1.sq);show#[Zw.refl _,d,j,g]
def HB(h:abg O K H a xs)(hd:Zn O K H xs ds):pG K (Vk K a) O H ds:=by intro T U e n;let f:=h.ev e;let b:=hd.ev e;show#[λi p=>?_,#[xs,f.1,by rw[hd.length];show X6 _]];let(x,l,_):=b.get (Ye p);show#[#[xs,x,f.1,l],?_];rintro y m ⟨rfl,o⟩;let(d,j,g):=b.ahz (o xs f.1);show#[Zw.refl _,d,j,g]
def eO(c:FE):FI:=λρ=>(c ρ).bind λa=>(Res.YT (wg a.2 a.1)).bind λb=>(Res.YT (eF b.1)).bind λds=>.ok (ds,b.2)
def Px(h:EO K E C I):IO K E (Hl K C) (eO I):=by
 intro B Z O Y H ρ o R w;show h B Z O Y H ρ _ R (w.bind.imp λa b p x i e1 n l=>?_);let((d,j),q,b):=b.YT;let(g,e2,R2,m):=sH n l q;let(ds,e,b):=b.YT;dsimp only at e;cases m with
 |tup h f=>ext e;show#[_,W,.inr #[#[_,h.1],b g _ i (e1.trans e2) R2 (HB h f)]]
 |lst h f=>ext e;show#[_,W,.inl #[#[_,h.1.sq],b g _ i (e1.trans e2) R2 (Bp h f)]]
 |_=>ext e
def gW(lo:Int)(n:Nat):G D:=(Yw n).map λ(k:Nat)=>.int (lo+(k:Int))
def Eo:pG K (UW lo n) O H (gW lo n):=by
 intro T U e d;let a:(gW lo n).length=n:=by ext gW;simp_all
 show#[λi f=>?_,by show n<=_;rw[a];show X6 _];rw[a]at f;show#[f,?_];rintro x b ⟨rfl,rfl⟩;show#[Zw.refl _,.int (lo+i),by ext gW;simp_all,.int _]
def lM(i:Int):Prop:= -(2^62)<=i/\i<2^62
noncomputable instance(i:Int):Decidable (lM i):=by ext lM;infer_instance
def kL:G D->z (G D)
 |[.int j]=>if lM j then R (gW 0 j.toNat)else P
 |_=>P
def jy(f:G D->z (G D))(b:FA):FI:=λρ=>(b ρ).bind λa=>(Res.YT (sW a.2 a.1)).bind λds=>(Res.YT (f ds)).bind λxs=>.ok (xs,a.2)
def K1(h:AO K E C I):IO K E (Mf C) (jy kL I):=by
 intro B Z O Y H ρ p R w;show h B Z O Y H ρ _ R (w.bind.imp λa d n r o e1 f i=>?_);let(ds,q,d):=d.YT;let(xs,b,d):=d.YT;let g:=qV f i q;unfold kL at b;split at b
 .rename_i j
  split at b
  .rename_i e
   ext b;cases g with
   |cons m l=>ext l;ext m;show#[j,W,e.1,e.2,d n _ o e1 f Eo]
  .ext b
 .ext b
end
section
variable{K:lD}{E:XK}{B O X:bG}{U H Z:Hp}{Y:St}{ρ ρ':aU}{v:V}
def xP:z PV->z PV
 |some (.fz d)=>R (.fz d)
 |_=>P
def bU(ρ:aU):aU:=ρ.map xP
def yJ{i:Nat}(h:(bU ρ)[i]?=R (R x)):∃d,x=.fz d/\ρ[i]?=R (R (.fz d)):=by
 unfold bU at h;rw[Yl]at h;cases q:ρ[i]? with
 |none=>simp_all
 |some o=>
  rw[q]at h;let a:=Yq h;unfold xP at a;split at a
  .ext a;show#[_,W,W]
  .ext a
def t9(ρ:aU):G Nat->z (G D×aU)
 |[]=>R ([],ρ)
 |j::r=>match wg ρ (.pl j)with
  |some (d,b)=>(match t9 b r with
   |some (c,a)=>R (d::c,a)
   |none=>P)
  |none=>P
def C9(R:Rl K B U O Y H ρ)(h:wg ρ (.pl i)=cL (d,ρ')):∃v,Y[i]?=cL (cL v):=by
 let a:V0 ρ i ρ[i]?=cL (d,ρ'):=h;cases q:ρ[i]? with
 |none=>rw[q]at a;ext a
 |some o=>
  cases o with
  |none=>rw[q]at a;ext a
  |some x=>let(v,b,_):=R.slot i x q;show#[v,b]
theorem xh:∀{b:G Nat} {ds:G D} {O:bG} {ρ ρ':aU},Rl K B U O Y H ρ->t9 ρ b=cL (ds,ρ')->∃X k,Ev O H X H/\Rl K B U X Y H ρ'/\Zn X K H k ds/\b.map (λj=>(Y[j]?).join)=k.map cL
 |[],_,O,_,_,t,e=>by ext e;show#[O,[],.refl,t,.nil,W]
 |j::r,_,O,ρ,ρ',t,e=>by
  unfold t9 at e;cases q:wg ρ (.pl j)with
  |none=>simp_all
  |some p=>
   let(d,a):=p;rw[q]at e;dsimp only at e;cases u:t9 a r with
   |none=>simp_all
   |some g=>let(c,f):=g;rw[u]at e;ext e;let(v,h):=C9 t q;let(o,e1,l,d1):=sH (pv:=.pl j) t h q;let(m,k,e2,R2,i,n):=xh l u;show#[m,v::k,e1.trans e2,R2,.cons (d1.ev e2) i,by simp_all]
def b7(gt:FG)(c:FT)(f:FE):G D->aU->G D->Res (G D)
 |[],_,acc=>.ok acc
 |d::r,ρ,acc=>(gt (.fz d) ρ).bind λe=>(c e).bind λb=>if b.1=S then(f b.2).bind λa=>(Res.YT (wg a.2 a.1)).bind λx=>
   if acc.length<1000000 then b7 gt c f r (bU x.2) (acc++[x.1])else .bad
  else b7 gt c f r (bU b.2) acc
def g6:Res α->Res α
 |.er _=>.bad
 |r=>r
def bz(n:Nat)(b:G Nat)(f:FI)(gt:FG)(e:FT)(g:FE):FE:=λρ=>(f ρ).bind λa=>(Res.YT (t9 a.2 b)).bind λc=>
 (g6 (b7 gt e g a.1 (X1 n P++c.1.map λd=>R (.fz d)) [])).bind λxs=>.ok (.ow xs,c.2)
def Bu{own:G Str}(h:own.length=n):own.map (λ_=>(P:z V))=X1 n P:=by
 subst h
 induction own with
 |nil=>rfl
 |cons x r a=>grind
def AA(h:WR K E B U b (g6 r)):∃a,r=.ok a/\b a:=by
 cases r with
 |ok a=>show#[a,W,h]
 |er x=>show h.elim
 |bad=>show h.elim
def Tk(K:lD)(J:It)(O:bG)(H:Hp)(ds:G D):Prop:=∀X Z,Ev O H X Z->Zw H Z->mz X Z->
 (∀i,i<ds.length->J.go i Z/\∀x a,J.yld i Z x a->Zw Z a/\∃d,ds[i]?=R d/\DV X K a x d)/\J.stop ds.length Z
def VI(K:lD)(E:XK)(b:TI)(c:FI):Prop:=
 ∀(B:bG) (U:Hp) (O:bG) (Y:St) (H:Hp) (ρ:aU) (a:It->Hp->Prop),Rl K B U O Y H ρ->WR K E B U (λr=>∀X J Z,Ev O H X Z->Rl K B U X Y Z r.2->Tk K J X Z r.1->a J Z) (c ρ)->b Y H a
theorem IO.s(h:IO K E wi fi):VI K E wi fi:=λB U O Y H ρ b R w=>h B U O Y H ρ b R (w.imp λr q X J Z e R a=>q X J Z e R λd f e2 _ n=>a d f e2 n)
def qU(c:own.length=n)(hf:fv.map (·.2)=fj)
  (hi:VI K E wi fi) (hg:GO K E0 g gt) (ht:TTO K E0 tc ft) (he:EO K E0 te fe):EO K E (qD own fv wi g tc te) (bz n fj fi gt ft fe):=by
 intro B U O Y H ρ Q R w;show hi B U O Y H ρ _ R (w.bind.imp λa w1 O1 J H1 e1 R1 it=>?_);let(ds,ρ1):=a;let((cs,ρ2),qc,w1):=w1.YT;dsimp only at qc it;let(I,vs,e2,R2,dvs,hvs):=xh R1 qc;let(xs,qx,w1):=AA (WR.bind w1);intro l F;let hB:∀{Z:Hp},Zw H1 Z->Z l≠CL->∀a,bF I l a->Z a≠CL:=λ{Z} s nd a h z=>h.elim (λq=>R2.od a (s.free z) q) λe=>nd (by rw[<-e];show z);show#[λi m L Z=>m=ds.length - i/\i<=ds.length/\∃(A:cc D) (G:cc V) (t:aU),Zw H1 Z/\Z l=cL (.lst G)/\Zn (bF I l) K Z G A/\L.length=t.length/\(∀(j:Nat) (x:PV),t[j]?=cL (cL x)->∃d u,x=PV.fz d/\L[j]?=cL (cL u)/\DV (bF I l) K Z u d)/\b7 gt ft fe (ds.drop i) t A=.ok xs,
  #[_,W,Zj _,[],[],_,a9 F _,aI,.nil,?_,λj x M=>?_,qx],?_]
 .ext iW
  rw[Yb,Yb,X4,X4,YE,X4,c,<-dvs.length];let:=d6 aaA hvs
  grind
 .let hm:fv.map (λp=>(Y[p.2]?).join)=vs.map cL:=by rw[<-hvs,<-hf,YW];rfl
  ext iW;rw[Bu c,hm];by_cases hj:j<n
  .rw[Yz (by rw[YE];show hj),Zt,ax hj]at M;ext M
  .rw[Ys (by rw[YE];ext),YE,Yl]at M⊢
   cases qd:cs[j - n]? with
   |none=>rw[qd]at M;ext M
   |some d=>rw[qd]at M;ext M;let(u,hu,du):=dvs.get qd;show#[d,u,W,by rw[hu];rfl,du.ev (Ev.add (a9 F _) F)]
 .rintro i m L Z ⟨rfl,hi,A,G,t,s,hD,dys,hl,hsl,f⟩
  let nD:Z l≠CL:=by rw[hD];simp
  let no':=λa z h=>hB s nD a h z;let ev1:=e2.trans (Ev.add s F);let(go,stop):=it (bF I l) Z ev1 s no';by_cases T:i<ds.length
  .let(g1,g2):=go i T
   show .inr #[g1,λC N=>i+1<=ds.length/\∃(A:cc D) (G:cc V) (t:aU),Zw H1 N/\N l=cL (.lst G)/\Zn (bF I l) K N G A/\C.length=t.length/\(∀(j:Nat) (x:PV),t[j]?=cL (cL x)->∃d u,x=PV.fz d/\C[j]?=cL (cL u)/\DV (bF I l) K N u d)/\b7 gt ft fe (ds.drop (i+1)) t A=.ok xs,
    λC N #[h1,h2]=>#[ds.length - (i+1),by ext,W,h1,h2],λx H3 y=>?_]
   let(s3,d,hd,dv):=g2 x H3 y;let ed:ds.drop i=d::ds.drop (i+1):=by let(_,q):=X0.mp hd;rw[ZI T,q]
   rw[ed]at f;let hD3:=s3 _ _ hD;let nD3:H3 l≠CL:=by rw[hD3];simp
   let sv:=s.trans s3;let RC:Rl K (bF I l) H3 (bF I l) L H3 t:=#[Zw.refl _,λ_ h=>h,hB sv nD3,λa z h=>hB sv nD3 a h z,hl,λj x M=>by let(d,u,rfl,h1,h2):=hsl j x M;show#[u,h1,h2.ev (Ev.grow s3)],λj k xs G w hj=>by let(d,u,e,_):=hsl j _ hj;ext e];unfold b7 at f;let back:∀{O5:bG} {C:St} {N:Hp} {Pz0:aU} {H6:Hp},Rl K (bF I l) H3 O5 C N Pz0->(∀b o,b≠l->N b=cL o->H6 b=cL o)->C.length=(bU Pz0).length/\∀(j:Nat) (x:PV),(bU Pz0)[j]?=cL (cL x)->∃d u,x=PV.fz d/\C[j]?=cL (cL u)/\DV (bF I l) K H6 u d:=λ{O5 C N Pz0 H6} R5 k=>by show#[by ext bU;rw[X4];show R5.len,λj x M=>?_];let(d,rfl,hxx):=yJ M;let(u,h1,h2):=R5.slot j _ hxx;show#[d,u,W,h1,DV.ev (λb o h n=>#[k b o (λe=>n (.inr e)) h,n]) (DV.ev (Ev.sub R5.bo) h2)]
   show hg _ _ _ L H3 t x (.fz d) _ RC dv ?_;cases qg:gt (.fz d) t with
   |er z=>rw[qg]at f;ext f
   |bad=>rw[qg]at f;ext f
   |ok ρ3=>
    rw[qg,eg]at f;intro O4 σ4 H4 e4 R4;show ht _ _ _ σ4 H4 ρ3 _ R4 ?_;cases qt:ft ρ3 with
    |er z=>rw[qt]at f;ext f
    |bad=>rw[qt]at f;ext f
    |ok b=>
     let(b,ρ4):=b;rw[qt,eg]at f;intro O5 N e5 R5;cases b with
     |false=>rw[a6 X7]at f⊢;let(l5,k5):=back R5 λb o _ h=>h;show#[T,A,G,bU ρ4,sv.trans R5.same,R5.same _ _ hD3,?_,l5,k5,f];show dys.ev (Ev.grow (s3.trans R5.same))
     |true=>
      rw[ax W]at f⊢;show he _ _ _ σ4 N ρ4 _ R5 ?_;cases qe:fe ρ4 with
      |er z=>rw[qe]at f;ext f
      |bad=>rw[qe]at f;ext f
      |ok r=>
       rw[qe,eg]at f;intro O6 yv H6 e6 R6 p6;cases q7:wg r.2 r.1 with
       |none=>rw[q7]at f;ext f
       |some xr=>
        let(xd,ρ7):=xr;rw[q7]at f;let(O7,e7,R7,dv7):=sH R6 p6 q7;let hD7:=R7.same _ _ hD3;let S:(if A.length<1000000 then b7 gt ft fe (ds.drop (i+1)) (bU ρ7) (A++[xd])else .bad)=.ok xs:=f;by_cases hl6:A.length<1000000
        .rw[ax hl6]at S
         let up:∀b o,b≠l->H6 b=cL o->bj H6 l (.lst (G++[yv])) b=cL o:=λb o hb h=>by rw[aQ hb];show h
         let mZ:Ev (bF I l) H6 (bF I l) (bj H6 l (.lst (G++[yv]))):=λb o h n=>#[up b o (λe=>n (.inr e)) h,n];let ali:=dys.ev (Ev.grow (s3.trans R7.same));let(l5,k5):=back R7 up;show#[G,hD7,tJ (by rw[dys.length];show hl6),T,A++[xd],G++[yv],bU ρ7,λb o h=>?_,aI,?_,l5,k5,S]
         .rw[aQ (bK h F)];show R7.same _ _ (sv _ _ h)
         .show(ali.append (.cons (DV.ev (Ev.sub R7.bo) dv7) .nil)).ev mZ
        .rw[a6 hl6]at S;ext S
  .let e:i=ds.length:=by ext
   subst e;rw[aas (X6 _)]at f;let f:=f;ext f;show .inl #[stop,?_];show w1 (bF I l) (.ref l) Z (e1.trans ev1) (R2.add s F nD) #[l,G,W,.inr W,R2.agT F,hD,dys,λk es hk z=>?_];let(u,h1,b,us,e2,g1,g2,g3,g4):=R2.slot k _ hk;rw[z]at h1;ext h1;ext e2;rw[F]at g3;ext g3
def aW(F:FN)(n:Nat)(c:FA):FE:=λρ=>(c ρ).bind λa=>(Res.YT (mX a.2 a.1)).bind λb=>if b.1.length=n then(g6 (F b.1)).bind λd=>.ok (d.pv,b.2)else .bad
def Oa(c:AO K E C I):EO K E (ug (CV K n F) [] E0 C) (aW F n I):=by
 intro B U O Y H ρ Q R w;show c B U O Y H ρ _ R (w.bind.imp λa f t y u e1 m i=>?_);let((ds,e),q,b):=f.YT;let(p,e2,R2,d):=mQ m i q;dsimp only at b;by_cases hn:ds.length=n
 .rw[ax hn]at b;let(A,g,b):=AA (WR.bind b);rw[YK];show#[d.length.trans hn,p,ds,λa z j=>R2.od a j z,d,?_];rw[g];show j4 R2 λo v r e3 l h=>b o v r (e1.trans (e2.trans e3)) l h
 .rw[a6 hn]at b;show b.elim
end
def bP(N:Nat)(g:FS):FN:=λds=>(g (ds.map (λd=>R (.fz d))++X1 (N - ds.length) P)).bind λa=>match a with
 |.rt b=>.ok b
 |.nx _=>.ok (.fz .none)
 |_=>.bad
def Es(g:∀a,B a->H a≠P)(l:Zn B K H C ds):Rl K B H B (L2.start N C) H (ds.map (λd=>R (.fz d))++X1 (N.length - ds.length) P):=by
 let r:=l.length;show#[Zw.refl _,λ_ h=>h,g,λa z h=>g a h z,?_,λi x m=>?_,λi j xs p w t=>?_]
 .ext L2.start;simp_all
 all_goals
  let b:∀{i:Nat} {x:PV},(ds.map (λd=>R (PV.fz d))++X1 (N.length - ds.length) P)[i]?=R (R x)->∃d,x=.fz d/\ds[i]?=R d:=λ{i x} h=>by
   by_cases t:i<ds.length
   .rw[Yz (by rw[X4];show t),Yl]at h
    cases q:ds[i]? with
    |none=>rw[q]at h;ext h
    |some d=>rw[q]at h;ext h;show#[d,W,W]
   .rw[Ys (by rw[X4];ext),Zt]at h;split at h<;>ext h
 .let(d,rfl,n):=b m;let(v,f,o):=l.get n;show#[v,?_,o];let t:=(X0.mp f).1;ext L2.start;rw[Yz (by rw[X4];show t),Yl,f];rfl
 .let(d,e,_):=b t;ext e
def Xk(F:Fun K x qual st f fd)(S:aay N I (aG st))(c:I.length=n)
  (b:∀(a:T) (A:YC) (outer:G Env) (s:X3) (H:Hp) (E:XK),ZN k (A.deeper (YX qual (aG st) s.heap.objs.size f a))->
   ∃t,PSs (me oa y w K U base N qual (aG st) f a A outer s H E).nox (eV st) t/\SO K E t g):FnOk y w K U base oa (k+1) f fd I (CV K n (bP N.length g)):=by
 show F.ok S (λL H Q E h=>h.1.trans c.symm) (λa A outer s H L Q E l h=>?_);let(t,i,j):=b a A outer s H E l;let(u,B,ds,m,p,h):=h;show#[t,i,j B H B _ H _ _ (Es m p) (WR.imp (WR.bind h) λo q=>?_)];cases o with
 |rt X=>show q
 |nx C=>show λv d r e R=>q .non r R.same .non
 |bk C=>show q.elim
 |ct C=>show q.elim
end L3
namespace L3
open PySem PySem.Spec PyProof.Rows L2
def OpR.or(h:OpR X f r)(c:OpR X f r'):OpR X f (λx y H Q=>r x y H Q\/r' x y H Q):=by
 intro a s b H x y v u Q I e d q;rcases q with q|q
 .show h a s b H x y v u Q I e d q
 .show c a s b H x y v u Q I e d q
def Pj(I:Inv X pins σ H s)(h:aaO X.K H l xs):xs.length<=Yc/\∃(a:G T) (n:Nat),Vals xs a/\xs.length=a.length/\s.heap.get? l=R {cls:=.type "list",data:=.seq a.toArray n}:=by
 rcases h with(h|⟨o,h⟩)|⟨a,n,h1,d,b⟩
 .show I.agn h
 .let(_,z,a,n,r,e):=I.Zl l _ h;show#[z,a,n,r,r.length,e]
 .show#[d,a,n,b,b.length,I.kIn _ _ h1]
def MM(K:lD):R2:=λx y H Q=>∃l b xs zs,x=.ref l/\y=.ref b/\aaO K H l xs/\aaO K H b zs/\xs.length+zs.length<=Yc/\∀p,H p=P->Q (.ref p) (bj H p (.lst (xs++zs)))
def J9:OpR X (Zp .Add) (MM X.K):=by
 intro d s w H x y v u Q I i g h;let(l,b,xs,A,rfl,rfl,o,p,E,q):=h;ext i;ext g;let(z,f,n,r,F,e):=Pj I o;let(B,a,C,j,m,e2):=Pj I p;show PySem.P.add_list e e2 ?_ (by simp_all);let t:f.toArray++a.toArray=(f++a).toArray:=by simp
 rw[t];show#[.ref _,_,I.ahi (r.append j) (by simp_all),W,q _ I.fresh]
def MQ(K:lD):R2:=λx y H Q=>∃l k xs,x=.ref l/\y=.int k/\aaO K H l xs/\ -(2^63)<=k/\k<2^63/\xs.length*k.toNat<=Yc/\
 ∀p,H p=P->Q (.ref p) (bj H p (.lst (X1 k.toNat xs).flatten))
def JR:OpR X (Zp .Mult) (MQ X.K):=by
 intro o s N H x y v u Q I C B h;let(l,k,xs,rfl,rfl,G,L,J,E,q):=h;ext C;let(t,rfl):=B;let(z,b,n,r,P,e):=Pj I G;let d:b.toArray.size*k.toNat<=Yc:=by simp_all
 let f:¬b.toArray.size*k.toNat>(2^63 - 1)/8:=by
  let:(Yc:Nat)<=(2^63 - 1)/8:=by decide
  ext
 let g:¬(!Yx.List.listFitsIndex k)=S:=by rw[fitsIndex_both L J];simp_all
 let i:¬Yx.List.listTooLong (b.toArray.size*k.toNat)=S:=by rw[wF d];simp_all
 let j:abl (λw p=>w++p) #v[] (X1 (if b.toArray.isEmpty=S then 0 else k.toNat) b.toArray)=(X1 k.toNat b).flatten.toArray:=by
  let M:=λm=>by let:=oU b m [];rw[abt]at this;show this
  rw[M];cases b with
  |nil=>simp
  |cons a O=>rfl
 show aeC () #[_,e,W] (λA=>acA A k t) noFill_list_mul F.fills_int_mul F.slot_int_rmul repeat_list F.slot_int_index.lookup
  (Z3 F.slot_int_rmul (acA s k t) F.entry_int_rmul (F.args_int_rmul_2 _ _) (int___rmul___int_list k t l b.toArray n)
   #[e,W,#[_,e,W],Z3 F.slot_list_mul #[_,e,W] F.entry_list_mul (F.args_list_mul_2 _ _) (AutoListH.list___mul___list_int_3 l b.toArray n k t g f i) #[e,?_]])
 rw[j];show#[.ref _,_,I.ahi (r.rep k.toNat) (by rw[zV,Nat.mul_comm];show E),W,q _ I.fresh]
section
variable{K:lD}
def fI(g:Int->Int->Int):D->D->z RV
 |.int i,.int j=>R (.fz (.int (g i j)))
 |_,_=>P
def fB(g:Int->Int->Bool):D->D->z RV
 |.int i,.int j=>R (.fz (.bool (g i j)))
 |_,_=>P
def Qw(C:Int->Int->Bool)(g:Int->Int->Int):D->D->z RV
 |.int i,.int j=>if C i j=S then R (.fz (.int (g i j)))else P
 |_,_=>P
def Fp(h:fI g I C=R o):∃i j,I=.int i/\C=.int j/\o=.fz (.int (g i j)):=by
 unfold fI at h;split at h
 .ext h;show#[_,_,W,W,W]
 .ext h
def Hh:jU K (wf λi j=>.int (g i j)) (fI g):=by intro O H x y h d f Q n b a e q;let(i,j,rfl,rfl,rfl):=Fp e;ext b;ext a;show#[i,j,W,W,q.at (.int _)]
def GC:jU K (wf λi j=>.bl (g i j)) (fB g):=by
 intro O H x y h d f Q n b a e q;unfold fB at e;split at e
 .ext e;ext b;ext a;show#[_,_,W,W,q.at (.bl _)]
 .ext e
def rG(f:∀i j,C i j=S->o i j):jU K (rI o λi j=>.int (g i j)) (Qw C g):=by
 intro O H x y m h l Q n b a e q;unfold Qw at e;split at e
 .split at e
  .rename_i d;ext e;ext b;ext a;show#[_,_,W,W,f _ _ d,q.at (.int _)]
  .ext e
 .ext e
theorem xW(h:DX O K H x (.list ds)):∃a xs,x=.ref a/\aaO K H a xs/\Zn O K H xs ds:=h
theorem Dg(h:DX O K H x (.tuple ds)):∃a xs,x=.ref a/\abg O K H a xs/\Zn O K H xs ds:=FJ h W
def MX(K:lD):R2:=λx y H Q=>wf (λi j=>.int (i+j)) x y H Q\/MM K x y H Q\/Nl K x y H Q
theorem Kd:OpR X (Zp .Add) (MX X.K):=OpR.or QO (OpR.or J9 Kv)
def cH:D->D->z RV
 |.int i,.int j=>R (.fz (.int (i+j)))
 |.list xs,.list ys=>if xs.length+ys.length<=1000000 then R (.ow (xs++ys))else P
 |.tuple xs,.tuple ys=>if xs≠[]/\xs.length+ys.length<=1000000 then R (.fz (.tuple (xs++ys)))else P
 |_,_=>P
theorem lm(h:n<=1000000):n<=Yc:=YN h ()
def Zn.ne(h:Zn O K H vs ds):vs=[]↔ds=[]:=by ext h<;>simp
def Km:jU K (MX K) cH:=by
 intro O H x y t p r Q n l j e q;unfold cH at e;split at e
 .ext e;ext l;ext j;show .inl #[_,_,W,W,q.at (.int _)]
 .split at e
  .rename_i g;ext e;let(a,xs,rfl,h,d):=xW l;let(b,i,rfl,m,f):=xW j;show .inr (.inl #[a,b,xs,i,W,W,h,m,lm (by rw[d.length,f.length];show g),Fin.new (d.append f) q])
  .ext e
 .split at e
  .rename_i g;ext e;let(a,xs,rfl,h,d):=Dg l;let(b,i,rfl,m,f):=Dg j;show .inr (.inr #[a,b,xs,i,W,W,h.1,m.1,λz=>g.1 (d.ne.mp z),lm (by rw[d.length,f.length];show g.2),λz=>?_,λ_=>Fin.afC (d.append f) n q]);let o:=f.ne.mp z;subst o;rw[YK]at q;show q.at (.tup h d)
  .ext e
 .ext e
def D4(K:lD):R2:=λx y H Q=>rI ags (λi j=>.int (i*j)) x y H Q\/MQ K x y H Q
theorem Ka:OpR X (Zp .Mult) (D4 X.K):=OpR.or O8 JR
def iC(i:Int):Bool:=decide (-(2^64)<i/\i<2^64)
theorem rZ(h:iC i=S): -(2^64)<i/\i<2^64:=b3 h
def Ci:D->D->z RV
 |.int i,.int j=>if(iC i||iC j)=S then R (.fz (.int (i*j)))else P
 |.list xs,.int k=>if xs.length*k.toNat<=1000000/\ -(2^63)<=k/\k<2^63 then R (.ow (X1 k.toNat xs).flatten)else P
 |_,_=>P
def KL:jU K (D4 K) Ci:=by
 intro O H x y l i j Q n f d e q;unfold Ci at e;split at e
 .split at e
  .rename_i b
   ext e;ext f;ext d;show .inl #[_,_,W,W,?_,q.at (.int _)];rcases(Zf _ _).mp b with z|z
   .show .inl (rZ z)
   .show .inr (rZ z)
  .ext e
 .split at e
  .rename_i b;ext e;ext d;let(a,xs,rfl,h,g):=xW f;show .inr #[a,_,xs,W,W,h,b.2.1,b.2.2,lm (by rw[g.length];show b.1),Fin.new (g.flat _) q]
  .ext e
 .ext e
def rq:=fI λi j=>i - j
theorem JH:jU K (wf λi j=>.int (i - j)) rq:=Hh
def Qg(_ j:Int):Bool:=decide (0<j)
def rM:=Qw Qg λi j=>i % j
theorem Iy:jU K (rI (λ_ j=>0<j) λi j=>.int (i % j)) rM:=rG λi j h=>b3 h
def RJ(_ j:Int):Bool:=decide (0<j/\j<2^128)
def tj:=Qw RJ λi j=>i/j
theorem Lg:jU K (rI (λ_ j=>0<j/\j.natAbs.log2<9000) λi j=>.int (i/j)) tj:=rG λi j h=>by
 let b:=b3 h;show#[b.1,?_];let a:j.natAbs<2^128:=by ext
 let d:=(ajl ()).mpr a;ext
def BT(i j:Int):Bool:=decide (0<=j/\j<=1000000/\i.natAbs<2^64)
def zF(i j:Int)(h:BT i j=S):HE i j:=by unfold BT at h;show(show 0<=j/\j<=1000000/\i.natAbs<2^64 from b3 h)
def B3:=Qw BT λi j=>i^j.toNat
theorem JF:jU K (rI HE λi j=>.int (i^j.toNat)) B3:=rG zF
def Jb:=Qw BT λi j=>i*2^j.toNat
theorem Jt:jU K (rI HE λi j=>.int (i*2^j.toNat)) Jb:=rG zF
def XM(_ j:Int):Bool:=decide (0<=j)
def vM:=Qw XM λi j=>i/2^j.toNat
theorem Lo:jU K (rI (λ_ j=>0<=j) λi j=>.int (i/2^j.toNat)) vM:=rG λi j h=>b3 h
def mE:=fI λi j=>Yx.bitAnd i j
def LC:=fI λi j=>Yx.bitOr i j
theorem Io:jU K (wf λi j=>.int (Yx.bitAnd i j)) mE:=Hh
theorem Qx:jU K (wf λi j=>.int (Yx.bitOr i j)) LC:=Hh
def uR:=fB λi j=>decide (i<j)
def qX:=fB λi j=>decide (i<=j)
def VY:=fB λi j=>decide (j<i)
theorem P0:jU K (wf λi j=>.bl (decide (i<j))) uR:=GC
theorem Om:jU K (wf λi j=>.bl (decide (i<=j))) qX:=GC
theorem Pw:jU K (wf λi j=>.bl (decide (j<i))) VY:=GC
def mq(d:D):Bool:=d.canLay0&&decide (d.depth<=64)
def bv(d e:D):z RV:=if(mq d&&e.canLay0)=S then R (.fz (.bool (X2.eqv d e)))else P
def lr(d e:D):z RV:=if(mq d&&e.canLay0)=S then R (.fz (.bool (!X2.eqv d e)))else P
def NW:jU K (Jc K M) bv:=by
 intro O H x y g f h Q n d b e q;unfold bv at e;split at e
 .rename_i a;ext e;unfold mq at a;simp only[Ld,decide_eq_true_eq]at a;show#[g,f,d.plain,b.plain,a.1.1,a.2,a.1.2,q.at (.bl _)]
 .ext e
def Oq:jU K (Jc K S) lr:=by
 intro O H x y g f h Q n d b e q;unfold lr at e;split at e
 .rename_i a;ext e;unfold mq at a;simp only[Ld,decide_eq_true_eq]at a;show#[g,f,d.plain,b.plain,a.1.1,a.2,a.1.2,q.at (.bl _)]
 .ext e
def nO:D->D->z RV
 |.none,.none=>R (.fz (.bool S))
 |_,.none=>R (.fz (.bool M))
 |_,_=>P
def lf:D->D->z RV
 |.none,.none=>R (.fz (.bool M))
 |_,.none=>R (.fz (.bool S))
 |_,_=>P
def Dp(h:DX O K H x d)(hd:d≠.none):x≠.non:=by
 cases d with
 |none=>simp_all
 |list ds=>let(a,xs,rfl,_):=xW h;simp
 |tuple ds=>let(a,xs,rfl,_):=Dg h;simp
 |bool b=>ext h;simp
 |int b=>ext h;simp
 |str b=>ext h;simp
 |dict b=>ext h
def L5:jU K (λx y H Q=>y=.non/\Q (.bl (decide (x=.non))) H) nO:=by
 intro O H x y h f g Q n b a e q;unfold nO at e;split at e
 .ext e;ext b;ext a;show#[W,q.at (.bl _)]
 .rename_i d;ext e;ext a;show#[W,?_];rw[bg (Dp b d)];show q.at (.bl _)
 .ext e
def Ls:jU K (λx y H Q=>y=.non/\Q (.bl (!decide (x=.non))) H) lf:=by
 intro O H x y h f g Q n b a e q;unfold lf at e;split at e
 .ext e;ext b;ext a;show#[W,q.at (.bl _)]
 .rename_i d;ext e;ext a;show#[W,?_];rw[bg (Dp b d)];show q.at (.bl _)
 .ext e
def Lf(K:lD)(a:Bool):R2:=λx y H Q=>∃d ds,L2.DV K H x d/\(L2.DV K H y (.list ds)\/L2.DV K H y (.tuple ds))/\d.canLay0=S/\X2.canLayAll0 ds=S/\d.depth<=64/\Q (.bl (if a then !(ds.any λe=>X2.eqv e d)else ds.any λe=>X2.eqv e d)) H
def Qb(o:X.A.units+65<cLine):OpR X (Y9 .In) (Lf X.K M):=by
 intro f s n H x y v u Q I j e h;let(d,ds,m,a,i,g,l,q):=h;let(as,r1):=m.reads I j;let hm:min (X2.depthAll ds) d.depth<=64:=YN (acz _ _) l;rcases a with a|a
 .let(bs,b):=a.reads I e;show akd b r1 g i () #[.bl _,H,I,W,q]
 .let(bs,b):=a.reads I e;show ake b r1 g i () #[.bl _,H,I,W,q]
def Ik(o:X.A.units+65<cLine):OpR X (Y9 .NotIn) (Lf X.K S):=by
 intro f s n H x y v u Q I j e h;let(d,ds,m,a,i,g,l,q):=h;let(as,r1):=m.reads I j;let hm:min (X2.depthAll ds) d.depth<=64:=YN (acz _ _) l;rcases a with a|a
 .let(bs,b):=a.reads I e;show akf b r1 g i () #[.bl _,H,I,W,q]
 .let(bs,b):=a.reads I e;show akg b r1 g i () #[.bl _,H,I,W,q]
def kJ(d e:D):z RV:=match eF e with
 |some ds=>if(mq d&&X2.canLayAll0 ds)=S then R (.fz (.bool (ds.any λe=>X2.eqv e d)))else P
 |none=>P
def nQ(d e:D):z RV:=match eF e with
 |some ds=>if(mq d&&X2.canLayAll0 ds)=S then R (.fz (.bool (!ds.any λe=>X2.eqv e d)))else P
 |none=>P
def FB(a:DX O K H y e)(h:eF e=R ds):L2.DV K H y (.list ds)\/L2.DV K H y (.tuple ds):=by
 unfold eF at h;split at h
 .ext h;show .inr a.plain
 .ext h;show .inl a.plain
 .ext h
def QV:jU K (Lf K M) kJ:=by
 intro O H x y h g i Q n d b e q;unfold kJ at e;split at e
 .rename_i ds f
  split at e
  .rename_i a;ext e;unfold mq at a;simp only[Ld,decide_eq_true_eq]at a;show#[h,ds,d.plain,FB b f,a.1.1,a.2,a.1.2,q.at (.bl _)]
  .ext e
 .ext e
def JX:jU K (Lf K S) nQ:=by
 intro O H x y h g i Q n d b e q;unfold nQ at e;split at e
 .rename_i ds f
  split at e
  .rename_i a;ext e;unfold mq at a;simp only[Ld,decide_eq_true_eq]at a;show#[h,ds,d.plain,FB b f,a.1.1,a.2,a.1.2,q.at (.bl _)]
  .ext e
 .ext e
def aK(d e:D):z RV:=match eF d,e with
 |some ds,.int i=>(kO ds i).map .fz
 |_,_=>P
def Ee(h:Zn O K H xs ds)(e:kO ds i=R d):∃v,kO xs i=R v/\DV O K H v d:=by
 unfold kO at e⊢;rw[h.length];cases q:Dj ds.length i with
 |none=>simp_all
 |some j=>rw[q]at e;show h.get e
def G8:jU K (Ub K) aK:=by
 intro O H x y t o r Q n l m e q;unfold aK at e;split at e
 .rename_i ds i b
  ext m;cases p:kO ds i with
  |none=>simp_all
  |some d=>
   rw[p]at e;ext e;unfold eF at b;split at b
   .ext b;let(a,xs,rfl,h,g):=Dg l;let(v,f,j):=Ee g p;show .inr (.inl #[a,xs,i,v,W,W,h.1,f,q.at j])
   .ext b;let(a,xs,rfl,h,g):=xW l;let(v,f,j):=Ee g p;show .inl #[a,xs,i,v,W,W,h.sq,f,q.at j]
   .ext b
 .ext e
def CF(xs:G D)(lo a:z Int):G D:=(xs.drop (HT.sIx xs.length 0 lo)).take (HT.sIx xs.length xs.length a - HT.sIx xs.length 0 lo)
def Fm{lo a:z Int}(h:Zn O K H xs ds):Zn O K H (De xs lo a) (CF ds lo a):=by unfold De CF;rw[h.length];show(h.drop _).take _
def xG(n:Nat)(lo a:z Int):Bool:=decide (HT.sIx n 0 lo=0/\HT.sIx n n a=n)
def Uj(K:lD):V->z Int->z Int->Hp->VK->Prop:=λx lo a H Q=>TV K x lo a H Q\/TN K x lo a H Q
def QW:RQ X (Uj X.K):=by
 intro a s b H x v e d lo l f Q I g j pl i h;rcases h with h|h
 .show JP a s b H x v e d lo l f Q I g j pl i h
 .show Pp a s b H x v e d lo l f Q I g j pl i h
def Df:D->z Int->z Int->z RV
 |.list ds,lo,a=>R (.ow (CF ds lo a))
 |.tuple ds,lo,a=>if xG ds.length lo a=S then P else R (.fz (.tuple (CF ds lo a)))
 |_,_,_=>P
def Iw:UL K (Uj K) Df:=by
 intro O H x lo i j h Q n f e q;unfold Df at e;split at e
 .ext e;let(a,xs,rfl,d,b):=xW f;show .inl #[a,xs,W,d.sq,Fin.new (Fm b) q]
 .split at e
  .ext e
  .rename_i g;ext e;let(a,xs,rfl,d,b):=Dg f;show .inr #[a,xs,W,d.1,λz=>g ?_,Fin.afC (Fm b) n q];ext xG;rw[<-b.length];show a7 z
 .ext e
def Cv:D->z RV
 |.int i=>R (.fz (.int (-i)))
 |_=>P
def JE:Wu K (rU λi=>.int (-i)) Cv:=by
 intro O H x d b Q n a e q;unfold Cv at e;split at e
 .ext e;ext a;show#[_,W,q.at (.int _)]
 .ext e
def eU:G D->z RV
 |[d]=>(match eF d with
  |some ds=>R (.fz (.int ds.length))
  |none=>P)
 |_=>P
def Pb:wj K (λxs H Q=>∃x n,xs=[x]/\P5 K x H n/\Q (.int n) H) eU:=by
 intro O H xs ds h Q n g e q;unfold eU at e;split at e
 .split at e
  .rename_i es d
   ext e;cases g with
   |cons b f=>
    ext f;unfold eF at d;split at d
    .ext d;let(a,xs,rfl,b,f):=Dg b;show#[_,xs.length,W,.inr #[xs,b.1,W],by rw[f.length];show q.at (.int _)]
    .ext d;let(a,xs,rfl,b,f):=xW b;show#[_,xs.length,W,.inl #[xs,b.sq,W],by rw[f.length];show q.at (.int _)]
    .ext d
  .ext e
 .ext e
def mJ:G D->z RV
 |[.tuple ds]=>R (.fz (.tuple ds))
 |[.list ds]=>R (.fz (.tuple ds))
 |_=>P
def D9:wj K (λxs H Q=>∃p ys,xs=[.ref p]/\((SqL K H p ys/\∀l,H l=P->Q (.ref l) (bj H l (.tup ys)))\/(SqT K H p ys/\Q (.ref p) H))) mJ:=by
 intro O H xs ds g Q n f e q;unfold mJ at e;split at e
 .ext e
  cases f with
  |cons b d=>ext d;let(a,xs,rfl,b,d):=Dg b;show#[a,xs,W,.inr #[b.1,q.at (.tup b d)]]
 .ext e
  cases f with
  |cons b d=>ext d;let(a,xs,rfl,b,d):=xW b;show#[a,xs,W,.inl #[b.sq,Fin.afC d n q]]
 .ext e
def ou:G D->z RV
 |[d]=>(eF d).map .ow
 |_=>P
def Ir:wj K (λxs H Q=>∃p ys,xs=[.ref p]/\(SqL K H p ys\/SqT K H p ys)/\∀l,H l=P->Q (.ref l) (bj H l (.lst ys))) ou:=by
 intro O H xs ds i Q n g e q;unfold ou at e;split at e
 .rename_i d
  cases g with
  |cons b f=>
   ext f;cases h:eF d with
   |none=>simp_all
   |some es=>
    rw[h]at e;ext e;unfold eF at h;split at h
    .ext h;let(a,xs,rfl,b,f):=Dg b;show#[a,xs,W,.inr b.1,Fin.new f q]
    .ext h;let(a,xs,rfl,b,f):=xW b;show#[a,xs,W,.inl b.sq,Fin.new f q]
    .ext h
 .ext e
end
end L3
namespace PySem
open Sem (wp)
open AutoSeq1 (wpAny_loadPart')
open Builtin Builtin.Str
section
variable{X:Yr}{w:YJ}{A:YC}{E:XY->X3->Prop}{s:X3}
def jh(a:s.heap.IsTupleIter it t i)(h:s.heap.IsTuple t items)(g:items[i]?=R x)
  (l:∀c,c.IsTupleIter it t (i+1)->Heap.SameBut it s.heap c->Q x {s with heap:=c}):wpAny (model X w) A (Yx.SmallTypes.nextOf (.ref it)) Q E s:=by
 let(o,d,j,b):=id a;let(m,e,_,n,f):=h;ext Yx.SmallTypes.nextOf;show XW (ZX a.typeIs F.slot_tuple_iterator_next
  (ZY F.slot_tuple_iterator_next a.typeIs F.entry_tuple_iterator_next ?_ (F.args_tuple_iterator_next_1 _)))
 show wpAny _ _ (field (.ref it) 0>>=_) _ _ s;show XW (Y2 d b W ?_);show wpAny _ _ (if(XY.ref t==XY.none)=S then _ else _) _ _ s;rw[a6 (show¬((XY.ref t==XY.none)=S)from X7)];show XW (Y2 d b W ?_);show XW (Zr e f ?_);simp only[Za,g];show XW (aba d b (by simp) (X8 #[x,W,X8 (l _ ?_ (Heap.SameBut.update ..))]));show#[_,da _ d (dN (dt b _)),(Obj.cls_mapFields ..).trans j,by rw[dt b];simp[rawInt]]
def gF(h:A.handled=P)(a:s.heap.IsTupleIter it t i)(l:s.heap.IsTuple t items)(j:items[i]?=P)
  (m:∀c e,Heap.ExtBut it s.heap c->(∃o,c.get? e=R o/\o.cls=.type "StopIteration")->E (.ref e) {s with heap:=c}):wpAny (model X w) A (Yx.SmallTypes.nextOf (.ref it)) Q E s:=by
 let(o,d,q,g):=id a;let(n,b,_,p,f):=l;ext Yx.SmallTypes.nextOf;show XW (ZX a.typeIs F.slot_tuple_iterator_next
  (ZY F.slot_tuple_iterator_next a.typeIs F.entry_tuple_iterator_next ?_ (F.args_tuple_iterator_next_1 _)))
 show wpAny _ _ (field (.ref it) 0>>=_) _ _ s;show XW (Y2 d g W ?_);show wpAny _ _ (if(XY.ref t==XY.none)=S then _ else _) _ _ s;rw[a6 (show¬((XY.ref t==XY.none)=S)from X7)];show XW (Y2 d g W ?_);show XW (Zr b f ?_);simp only[Za,j];show XW (acC (XW (aba d g (by simp) ?_)));show XW ?_;simp only[newExc,newTuple];show XW (Ze ?_ (by size_fits));show XW (ab6 (by first|rfl|(simp only[firstArgMember];rfl)) ?_);show Ze ?_ (by size_fits);simp only[raiseNew];show XW (wpAny_handled ?_)
 first|rw[show A.in1.handled=P from h]|rw[h]
 show XW (X8 (wpAny_throw ?_));show m _ _ (((Heap.SameBut.update ..).extBut.push _).push _) #[_,c5 _ W,W]
end
theorem G9(n:A.handled=P)(d l:J)(g:l≠d)(a:Array T):
  Draws prog w A d [d,l] a.size (λi v=>a[i]?=R v) (λi h=>h.IsTupleIter d l i/\h.IsTuple l a) where
 live:=λ_ _ b=>let#[o,y,_]:=b.1;#[o,y]
 frame:=λ_ _ _ b m=>#[b.1.at λo e=>m d (by simp) o e,let#[o,h1,t]:=b.2;#[o,m l (by simp) o h1,t]]
 item:=λi s Q E u b p=>by show jh b.1 b.2 (x:=a[i]) (by simp[u]) λr j f=>?_;show p _ r s.toks (by simp[u]) #[j,let#[o,h1,t]:=b.2;#[o,(f.2 l g).trans h1,t]] f
 done:=λs Q E b q=>gF n b.1 b.2 (by simp) q
set_option maxHeartbeats 4000000 in
theorem kU(l:X5)(a:Array XY)(n:Nat)(dct:ck X5)(j:Array (ck XY)):
  Meets (Yx.«enumerate.__new__» ⟨[.type "enumerate",.ref l],[]⟩) (λ_ R s=>s.heap.get? l=cL {cls:=.type "tuple",dict:=dct,data:=.seq a n,slots:=j}/\
   R (.ok (.ret (.ref (s.heap.push {cls:=.type "tuple_iterator",data:=.fields #v[.ref l,.int 0 0]}).objs.size)))
    {s with heap:=(s.heap.push {cls:=.type "tuple_iterator",data:=.fields #v[.ref l,.int 0 0]}).push {cls:=.type "enumerate",data:=.fields #v[.none,.bool XZ,.ref s.heap.objs.size,rawInt 0,.none,.none]}}):=
 .of_wp λf w A R s h=>by
  obtain⟨o,g,d,i,m⟩:=s;obtain⟨b,h⟩:=h;have p:=al8;have e:Heap.IsTuple (X3.heap ⟨o,g,d,i,m⟩) l a:=⟨_,b,rfl,n,rfl⟩
  wp_walk using aaU b
  refine ajm λq=>X8 ?_;split
  .rename_i c _ _ _ _ _
   cases(c==XY.type "enumerate")
   .wp_walk using aaU b,ZD e
    exact⟨_,rfl,h⟩
   .wp_walk using aaU b,ZD e
    exact⟨_,rfl,h⟩
  .wp_walk using aaU b,ZD e
   exact⟨_,rfl,h⟩
section
variable{X:Yr}{w:YJ}{A:YC}{E:XY->X3->Prop}{s:X3}
def lu(j:s.heap.IsTuple l items)
  (h:∀k,aeh k (s.heap.objs.size+1) s.heap.objs.size 0 .none->k.IsTupleIter s.heap.objs.size l 0->k.objs.size=s.heap.objs.size+2->
   (∀b o,s.heap.get? b=R o->k.get? b=R o)->Q (.ref (s.heap.objs.size+1)) {s with heap:=k}):
  wpAny (model X w) A (call (.type "enumerate") [.ref l]) Q E s:=by
 let((c,dct,m,g),i,e,n,d):=j;replace e:c=.type "tuple":=e;replace d:m=.seq items n:=d;subst e d;show callType_new F.called_enumerate () (F.typeCall_enumerate_1 _) (F.newCall_enumerate_1 _) (λobj=>F.args_object_init_2 obj _) F.entry_enumerate_new
  (kU l items n dct g) #[i,?_]
 let a:(s.heap.push {cls:=.type "tuple_iterator",data:=.fields #v[.ref l,.int 0 0]}).objs.size=s.heap.objs.size+1:=dg ..;rw[a]
 let f:aeh ((s.heap.push {cls:=.type "tuple_iterator",data:=.fields #v[.ref l,.int 0 0]}).push
   {cls:=.type "enumerate",data:=.fields #v[.none,.bool M,.ref s.heap.objs.size,rawInt 0,.none,.none]}) (s.heap.objs.size+1) s.heap.objs.size 0 .none:=by
  let:=c5 (s.heap.push {cls:=.type "tuple_iterator",data:=.fields #v[.ref l,.int 0 0]})
   (o:={cls:=.type "enumerate",data:=.fields #v[.none,.bool M,.ref s.heap.objs.size,rawInt 0,.none,.none]}) W
  rw[a]at this;show this
 show#[#[_,f,W],h _ f #[_,cn _ (c5 _ W),W,W] (by rw[dg,a]) λb o x=>cn _ (cn _ x)]
end
end PySem
namespace L3
open PySem PySem.Spec PyProof.Rows L2
def Ra(K:lD)(a:J):It:=
 #[λi H=>∃xs x,SqT K H a xs/\xs[i]?=R x,
  λi H v b=>∃p x,H p=P/\v=.ref p/\(∀xs,SqT K H a xs->xs[i]?=R x)/\b=bj H p (.tup [.int i,x]),
  λi H=>∃xs,SqT K H a xs/\xs.length<=i]
def A5(I:Inv X pins σ H s)(h:SqT X.K H a xs)(g:SqT X.K H a ys):xs=ys:=by
 let(e,r1,(o,e1,_,n,d1),_):=I.tuple h;let(b,f,(i,e2,_,j,d),_):=I.tuple g;rw[e1]at e2;ext e2;rw[d1]at d;let:e=b:=by
  let q:e.toArray=b.toArray:=by injection d
  simpa using q
 subst this;show r1.inj f
theorem yR{K:lD}{c}(a e g:X5)(B:e≠g)(D:a≠g)(V:a≠e):
  Turn Pz0 w K (.Tuple elts c tp) (Ra K a) [e,g] e (λi h=>(∃old,aeh h e g i old)/\h.IsTupleIter g a i) where
 mem:=by simp
 obj:=λi h f b m=>by
  let((old,n),o,C,_,d):=f;rcases Yg.mp m with z|m
  .subst z;show#[_,n,λv z=>by cases(show acB.fields _=acB.cell v from z)]
  .let z:b=g:=by simpa using m
   subst z;show#[o,C,λv z=>by rw[d]at z;ext z]
 keep:=λi h h' f k=>by let((old,n),l):=f;show#[#[old,k e (by simp) _ n],l.at λo q=>k g (by simp) o q]
 item:=by
  intro X hP T hK hc i r s σ H E I N f Z;subst hP T hK;let((old,n),l):=f;let(xs,x,L,S):=Z;let(G,rv,p,hz):=I.tuple L;let(u,hu,ru):=rv.get S;let U:i<G.toArray.size:=by
   let:=(X0.mp hu).1
   simpa using this
  show afd (G9 (A:=X.A.in1) (I.ok.hd hc) g a D G.toArray) n #[l,p] U B (by simp[B,V.symm]) λy h1 tk J C afR hT hsz M=>#[_,W,?_];let R:y=u:=by
   let q:G.toArray[i]?=cL u:=by simpa using hu
   rw[q]at J;show(Yq J).symm
  subst R;show aa9 C λO he2 t=>?_;let F:=cv n;let Y:g<s.heap.objs.size:=by let(_,z,_):=l;show cv z
  let hn:=I.Zl.fresh (X6 _);let c:∀b o,b∉[e,g]->s.heap.get? b=cL o->O.get? b=cL o:=λb o m q=>by let h3:b≠e:=λz=>m (by simp[z]);let h4:b≠g:=λz=>m (by simp[z]);show(t.2 b h3).trans (M b o h3 h4 q)
  let hT2:=(t.2 _ (Y1 F)).trans hT
  let I2:Inv X r σ (bj H s.heap.objs.size (.tup [.int i,x])) {s with heap:=O,toks:=tk+1}:=
   I.abc N c (X6 _) #[by show 2<=Yc;decide,[.int i tk,y],.cons #[_,W] (.cons ru .nil),#[_,hT2,#[W,_,W],W]]
  show#[.ref s.heap.objs.size,_,I2,W,#[_,x,hn,W,λys J=>by rw[A5 I J L];show S,W],#[#[y,he2],afR.1.at λo q=>(t.2 g B.symm).trans q],λb m=>?_];let hb2:b≠s.heap.objs.size:=by
   rcases Yg.mp m with z|m
   .rw[z];show Yk F
   .rw[show b=g by simpa using m];show Yk Y
  rw[aQ hb2];show(N b m).1
 done:=by
  intro X hP T hK hc i r s σ H E I N f Z;subst hP T hK;let((old,n),l):=f;let(xs,L,S):=Z;let(G,rv,p,hz):=I.tuple L;let(f0,f1,f2,f3,f4,f5):=N g (by simp);let hl:=rv.length
  let D':Draws X.prog X.w X.A.in1 g [g,a] i (λ_ _=>True) (λj h=>j=i/\h.IsTupleIter g a i/\h.IsTuple a G.toArray):=
   #[λj h f=>let#[o,C,_]:=f.2.1;#[o,C],λj h h' f M=>#[f.1,f.2.1.at λo e=>M g (by simp) o e,let#[o,h1,O]:=f.2.2;#[o,M a (by simp) o h1,O]],
    λj s Q E hj f hQ=>b4 f.1 (Yk hj),λs Q E f hE=>gF (I.ok.hd hc) f.2.1 f.2.2 (by simp;ext) hE]
  show afp D' n #[W,l,p] λh1 eb=>#[W,I.turned (λb o m q=>eb b o m q) f0 f1 f3 f4 f5]
 self:=λ_ _ _ _ _ f h=>by let((old,n),_):=f;show aab n h
def rh(K:lD)(c:TA):TI:=λd H R=>c d H λe b=>∃a,e=[.ref a]/\(((∃xs,SqL K b a xs)/\R (UJ K a) b)\/((∃xs,SqT K b a xs)/\R (Ra K a) b))
def wM{c}(G:Gl X "enumerate")(hm:X.mg "enumerate"=P)(k:PA X [l] U)(F:Yp [l] X.env=[(XZ,eval l X.env)]:=by rfl):
  PI X (.Tuple elts c tp) (.Call (.Name "enumerate" p) [l] [] pos) (rh X.K U):=by
 intro f s A H R I h;show Call_ (jX I G hm boot_enumerate (Zs (b9 (k pos f s A H _ I h) λM d #[Q,w,i,r1,C]=>?_) F W));let(a,e,q):=C;subst e;let(u,rfl,B):=gu r1;ext B;let y:∀b∈[d.heap.objs.size+1,d.heap.objs.size],mi X f w b:=λb v=>by
  let m:d.heap.objs.size<=b:=by
   rcases Yg.mp v with z|v
   .rw[z];show aaB _
   .rw[show b=d.heap.objs.size by simpa using v];show X6 _
  show i.acT m (i.Zl.fresh m)
 rcases q with⟨⟨xs,r⟩,q⟩|⟨⟨xs,r⟩,q⟩
 .let(L,N,pl,E):=i.list r;show call_enumerate_list pl.isList λJ j g o t=>?_;show aab j ?_;show#[d.heap.objs.size+1,[d.heap.objs.size+1,d.heap.objs.size],_,_,w,W,i.kept t,BI a _ _ (abf _),#[#[_,j],g],y,q]
 .let(L,N,pl,E):=i.tuple r
  show lu pl λJ j g o t=>?_;show aab j ?_;let n:a<d.heap.objs.size:=by let(_,z,_):=pl;show cv z
  show#[d.heap.objs.size+1,[d.heap.objs.size+1,d.heap.objs.size],_,_,w,W,i.kept t,yR a _ _ (abf _) (Yk n) (Yk (ZM n)),#[#[_,j],g],y,q]
def cM(i:Nat):G D->G D
 |[]=>[]
 |d::r=>.tuple [.int (i:Nat),d]::cM (i+1) r
theorem gj:∀(ds:G D) (i:Nat),(cM i ds).length=ds.length
 |[],_=>rfl
 |d::r,i=>by show(cM (i+1) r).length+1=r.length+1;rw[gj r]
theorem iu:∀(ds:G D) (i j:Nat),(cM i ds)[j]?=(ds[j]?).map λd=>.tuple [.int ((i+j:Nat):Int),d]
 |[],_,_=>by simp[cM]
 |d::r,i,0=>rfl
 |d::r,i,j+1=>by
  show(cM (i+1) r)[j]?=_;rw[iu r (i+1) j,ZT];let:i+1+j=i+(j+1):=by ext
  rw[this]
section
variable{K:lD}{E:XK}{B O U:bG}{Q H N:Hp}{L:L2.St}{X I:aU}{v:V}
def D7(h:acb O K H a xs)(hd:Zn O K H xs ds):pG K (UJ K a) O H (cM 0 ds):=by intro U N e n;let g:=h.ev e;let f:=hd.ev e;rw[gj];show#[λi m=>?_,#[xs,g.1.sq,by rw[hd.length];show X6 _]];let(x,j,r):=f.get (Ye m);show#[#[xs,x,g.1.sq,j],?_];rintro y l ⟨p,z,d,rfl,o,rfl⟩;let b:=o xs g.1.sq;rw[j]at b;ext b;show#[a9 d _,.tuple [.int i,ds[i]],?_,.tup #[SqT.of aI,λq=>b4 q (n p d)] (.cons (.int _) (.cons (r.ev (Ev.grow (a9 d _))) .nil))];rw[iu,Ye m];simp
def Ha(h:abg O K H a xs)(hd:Zn O K H xs ds):pG K (Ra K a) O H (cM 0 ds):=by intro U N e n;let g:=h.ev e;let f:=hd.ev e;rw[gj];show#[λi m=>?_,#[xs,g.1,by rw[hd.length];show X6 _]];let(x,j,r):=f.get (Ye m);show#[#[xs,x,g.1,j],?_];rintro y l ⟨p,z,d,rfl,o,rfl⟩;let b:=o xs g.1;rw[j]at b;ext b;show#[a9 d _,.tuple [.int i,ds[i]],?_,.tup #[SqT.of aI,λq=>b4 q (n p d)] (.cons (.int _) (.cons (r.ev (Ev.grow (a9 d _))) .nil))];rw[iu,Ye m];simp
def nu(c:FA):FI:=λX=>(c X).bind λa=>(Res.YT (mX a.2 a.1)).bind λb=>match b.1 with
 |[d]=>(Res.YT (eF d)).bind λds=>.ok (cM 0 ds,b.2)
 |_=>.bad
def IQ(h:AO K E C fa):IO K E (rh K C) (nu fa):=by
 intro B Q O L H X p R w;show h B Q O L H X _ R (w.bind.imp λa b r t g e1 o j=>?_);let((ds,i),q,b):=b.YT;let(f,e2,R2,n):=mQ o j q;dsimp only at b;cases n with
 |nil=>show b.elim
 |cons m l=>
  cases l with
  |cons _ _=>show b.elim
  |nil=>
   let(es,d,b):=WR.YT b;cases m with
   |tup h e=>ext d;show#[_,W,.inr #[#[_,h.1],b f _ g (e1.trans e2) R2 (Ha h e)]]
   |lst h e=>ext d;show#[_,W,.inl #[#[_,h.1.sq],b f _ g (e1.trans e2) R2 (D7 h e)]]
   |_=>ext d
end
def CM{bs:G Bool}(r:Vals (bs.map V.bl) o){i:Nat}(h:o[i]?=R v):∃b,bs[i]?=R b/\v=.bool b:=by
 let d:=r.length;rw[X4]at d;let f:i<bs.length:=by rw[d];show(X0.mp h).1
 let(u,a,e):=r.get (by rw[Yl,Ye f];rfl);rw[h]at a;ext a;show#[bs[i],Ye f,e]
def yh(bs:G Bool):((Yw bs.length).all λi=>(bs[i]?).getD S)=bs.all id:=by
 rw[agi,Y8,Y8];constructor
 .intro h b a;let(i,d,e):=List.mem_iff_getElem.mp a;let:=h i (Yv.mpr d);rw[Ye d,e]at this;show this
 .intro h i d;let d:=Yv.mp d;rw[Ye d];show h _ (abd d)
section
variable{X:Cx}
def GD(w:X.calm=S):ZS X (.builtin "all") (λxs H Q=>∃(p:X5) (bs:cc Bool),xs=[.ref p]/\SqL X.K H p (bs.map V.bl)/\Q (.bl (bs.all id)) H):=by
 intro f s z H xs B Q I r h;let(l,bs,rfl,n,q):=h;let(u,rfl,m):=gu r;ext m;let(j,N,pl,F):=I.list n;let a:=N.length;rw[X4]at a;let d:l<s.heap.objs.size:=by let(_,_,e,_):=pl;show cv e
 show call_all_walk (aaW pl.isList ?_);show#[s.heap.objs.size,[s.heap.objs.size,l],[s.heap.objs.size],j.toArray.size,_,_,λi=>(bs[i]?).getD S,W,adI.list (A:=X.A.in1) (I.ok.hd w) _ l (Yk d) j.toArray,
  #[#[_,c5 _ W,W,W],pl.isList.push _],λi v E J L y g=>?_,λG C t=>?_]
 .let(b,e,rfl):=CM N (by simpa using y);simp only[e,afe]at g;show Zd g
 .rw[Yd,<-a,yh];show#[.bl _,H,I.kept λb o e=>t b o (λhm=>?_) (cn _ e),W,q];rw[Yh.mp hm]at e;show Zc _ (cv e)
end
section
variable{K:lD}
def vF:G D->z (G Bool)
 |[]=>R []
 |.bool b::r=>(vF r).map (b::·)
 |_=>P
theorem zT:∀{xs:G V} {ds:G D} {bs:G Bool},Zn O K H xs ds->vF ds=R bs->xs=bs.map V.bl
 |_,_,_,.nil,e=>by ext e;rfl
 |_,_,bs,.cons (ds:=r) h t,e=>by
  cases h with
  |bl b=>
   let a:(vF r).map (b::·)=R bs:=e;cases q:vF r with
   |none=>rw[q]at a;ext a
   |some d=>rw[q]at a;ext a;rw[zT t q];rfl
  |_=>ext e
def sU:G D->z RV
 |[.list ds]=>(vF ds).map λbs=>.fz (.bool (bs.all id))
 |_=>P
def N4:wj K (λxs H Q=>∃(p:J) (bs:G Bool),xs=[.ref p]/\SqL K H p (bs.map V.bl)/\Q (.bl (bs.all id)) H) sU:=by
 intro O H xs ds i Q n f e q;unfold sU at e;split at e
 .rename_i es
  cases h:vF es with
  |none=>rw[h]at e;ext e
  |some bs=>
   rw[h]at e;ext e;cases f with
   |cons d b=>ext b;let(a,g,rfl,d,b):=xW d;let:=zT b h;subst this;show#[a,bs,W,d.sq,q.at (.bl _)]
 .ext e
def mH:G D->z (G Int)
 |[]=>R []
 |.int b::r=>(mH r).map (b::·)
 |_=>P
theorem lW:∀{xs:G V} {ds:G D} {bs:G Int},Zn O K H xs ds->mH ds=R bs->xs=bs.map V.int
 |_,_,_,.nil,e=>by ext e;rfl
 |_,_,bs,.cons (ds:=r) h t,e=>by
  cases h with
  |int b=>
   let a:(mH r).map (b::·)=R bs:=e;cases q:mH r with
   |none=>rw[q]at a;ext a
   |some d=>rw[q]at a;ext a;rw[lW t q];rfl
  |_=>ext e
def za(x:Int):G Int->G Int
 |[]=>[x]
 |y::r=>if x<=y then x::y::r else y::za x r
def kR:G Int->G Int
 |[]=>[]
 |x::r=>za x (kR r)
theorem oE(x:Int):∀l,(za x l).Perm (x::l)
 |[]=>acn _
 |y::r=>by
  ext za;split
  .show acn _
  .show((oE x r).cons y).trans (an6 x y r)
theorem fM:∀l,(kR l).Perm l
 |[]=>acn _
 |x::r=>(oE x _).trans ((fM r).cons x)
theorem pp(x:Int):∀l:G Int,l.Pairwise (·<=·)->(za x l).Pairwise (·<=·)
 |[],_=>by simp[za]
 |y::r,h=>by
  ext za;let(d,f):=Zg.mp h;split
  .rename_i a
   show Zg.mpr #[λz b=>?_,h];rcases Yg.mp b with e|e
   .rw[e];show a
   .let:=d z e;ext
  .rename_i a
   show Zg.mpr #[λz b=>?_,pp x r f];rcases Yg.mp ((oE x r).mem_iff.mp b)with e|e
   .rw[e];ext
   .show d z e
theorem eN:∀l,(kR l).Pairwise (·<=·)
 |[]=>aad
 |x::r=>pp x _ (eN r)
theorem l4{l m:G Int}(d:l.Perm m)(e:l.Pairwise (·<=·))(hm:m.Pairwise (·<=·)):l=m:=d.eq_of_pairwise (λa b _ _ g f=>agM g f) e hm
def vS:G D->z RV
 |[.list ds]=>(match mH ds with
  |some a=>if a.length<64 then R (.ow ((kR a).map .int))else P
  |none=>P)
 |_=>P
def qE(ns:G Int):Zn O K H (ns.map V.int) (ns.map .int):=by
 induction ns with
 |nil=>show .nil
 |cons n r a=>show .cons (.int n) a
def Cu:wj K (λxs H Q=>∃(p:J) (ns:G Int),xs=[.ref p]/\SqL K H p (ns.map V.int)/\ns.length<64/\∀(l:J) (b:G Int),H l=P->b.Perm ns->b.Pairwise (·<=·)->Q (.ref l) (bj H l (.lst (b.map V.int)))) vS:=by
 intro O H xs ds r Q n d e q;unfold vS at e;split at e
 .rename_i es
  cases o:mH es with
  |none=>rw[o]at e;ext e
  |some ns=>
   rw[o]at e;dsimp only at e;split at e
   .rename_i f
    ext e;cases d with
    |cons h g=>ext g;let(a,m,rfl,h,g):=xW h;let:=lW g o;subst this;show#[a,ns,W,h.sq,f,λl b f d i=>?_];let j:=l4 (d.trans (fM ns).symm) i (eN ns);subst j;show Fin.new (qE _) q l f
   .ext e
 .ext e
end
def V8(K:lD)(H:Hp)(x:V)(t:String):Prop:=match x with
 |.non=>t= "NoneType"
 |.bl _=>t= "bool"
 |.int _=>t= "int"
 |.str _=>t= "str"
 |.ref a=>(t= "list"/\∃xs,SqL K H a xs)\/(t= "tuple"/\∃xs,SqT K H a xs)
 |_=>False
def Nx(K:lD):G V->Hp->VK->Prop:=λxs H Q=>∃x n t b,xs=[x,.ty n]/\V8 K H x t/\afq K (.type t) (.type n)=R b/\Q (.bl b) H
def BK{X:Cx}:ZS X (.builtin "isinstance") (Nx X.K):=by
 intro g s p H xs B Q I r h;let(x,n,t,b,rfl,ty,e,q):=h;let(u,v,rfl,f,w):=Nd r;obtain rfl:v=XY.type n:=w;let d:∀j,EP X g p Q (.bool b) {s with toks:=j}:=λj=>#[.bl b,H,I.tok j,W,q];cases x with
 |non=>cases(show t= "NoneType" from ty);cases(show u=XY.none from f);show aaf PySem.W.kitx_none I.kIn True.intro e (λz=>nomatch z) d
 |bl y=>cases(show t= "bool" from ty);cases(show u=XY.bool y from f);show aaf PySem.W.kitx_bool I.kIn True.intro e (λz=>nomatch z) d
 |int i=>cases(show t= "int" from ty);let(t,q):=(show∃t,u=XY.int i t from f);ext q;show aaf PySem.W.kitx_int I.kIn True.intro e (λz=>nomatch z) d
 |str y=>cases(show t= "str" from ty);let(t,q):=(show∃t,u=XY.str y t from f);ext q;show aaf PySem.W.kitx_str I.kIn True.intro e (λz=>nomatch z) d
 |ref a=>
  cases(show u=XY.ref a from f);rcases ty with⟨rfl,xs,h⟩|⟨rfl,xs,h⟩
  .let(A,r,(o,k,m,l,_),_):=I.list h;show aaf PySem.W.kitx_list I.kIn #[_,m,l] e (λz=>nomatch z) d
  .let(A,r,(o,m,l,_),_):=I.tuple h;show aaf PySem.W.kitx_tuple I.kIn #[o,m,l] e (λz=>nomatch z) d
 |_=>show(show False from ty).elim
section
variable{K:lD}{E:XK}{B O I:bG}{U H C:Hp}{N:L2.St}{X L:aU}{v:V}
def J3:D->z String
 |.none=>R "NoneType"
 |.bool _=>R "bool"
 |.int _=>R "int"
 |.str _=>R "str"
 |.list _=>R "list"
 |.tuple _=>R "tuple"
 |.dict _=>P
def PY(n t:String):Bool:=n==t||(n== "int"&&t== "bool")
def Ky{n t:String}(b:n= "int"\/n= "bool"\/n= "str"\/n= "list"\/n= "tuple"){d:D}(a:J3 d=R t):afq K (.type t) (.type n)=R (PY n t):=by ext d<;>(ext a;try (rcases b with rfl|rfl|rfl|rfl|rfl<;>rfl))
def Ue{x:V}{d:D}{t:String}(h:DX O K H x d)(e:J3 d=R t):V8 K H x t:=by
 cases d with
 |none=>ext e;ext h;rfl
 |bool b=>ext e;ext h;rfl
 |int b=>ext e;ext h;rfl
 |str b=>ext e;ext h;rfl
 |dict b=>ext e
 |list ds=>ext e;let(a,xs,rfl,f,_):=xW h;show .inl #[W,xs,f.sq]
 |tuple ds=>ext e;let(a,xs,rfl,f,_):=Dg h;show .inr #[W,xs,f.1]
def IA(n:String)(b:FE):FE:=λX=>(b X).bind λa=>(Res.YT (pz a.2 a.1)).bind λd=>(Res.YT (J3 d)).bind λt=>.ok (.fz (.bool (PY n t)),a.2)
def OC{n:String}{c:TE}{j:FE}(k:n= "int"\/n= "bool"\/n= "str"\/n= "list"\/n= "tuple")(l:EO K E c j):EO K E (Dh (Nx K) (g7 c (g7 (tC (.ty n)) jx))) (IA n j):=by intro B U O N H X Q R w;show l B U O N H X _ R (w.bind.imp λa b h x i e1 f g=>?_);let(d,q,b):=b.YT;let(t,e,b):=b.YT;show#[x,n,t,PY n t,W,Ue (ja f g q) e,Ky k e,b h _ i e1 f (.bl _)]
end
section
variable{K:lD}
def uF:G D->z RV
 |[.int i]=>R (.fz (.int i))
 |[.bool k]=>R (.fz (.int (if k then 1 else 0)))
 |_=>P
def Qv:wj K (λxs H Q=>(∃i,xs=[.int i]/\Q (.int i) H)\/∃k,xs=[.bl k]/\Q (.int (if k then 1 else 0)) H) uF:=by
 intro O H xs ds f Q n d e q;unfold uF at e;split at e
 .ext e
  cases d with
  |cons b a=>ext a;ext b;show .inl #[_,W,q.at (.int _)]
 .ext e
  cases d with
  |cons b a=>ext a;ext b;show .inr #[_,W,q.at (.int _)]
 .ext e
end
def B1{P:Yr}{w:YJ}{K:lD}{L j:Str->ck T}{k:Nat}{U a:X5}{m:Zq}{x:Str}{F:FN}{b:X3}{c:cc T}{ns:cc Int}
  (p:K.In b.heap) (d:b.heap.Ns Yj L) (y:b.heap.Ns builtinsNs j) (f:∀x:Str,x≠ "__name__"->j x=YO x) (g:b.heap.NoLimit) (t:b.gens= #v[])
  (N:b.heap.get? a=R {cls:=.type "list",data:=.seq c.toArray}) (V:IntsAre c ns) (l:ns.length<=Yc) (q:ZN k callerA)
  (G:∀base:Heap,K.In base->base.Ns Yj L->FnOk P w K L base oa k U m [x] (CV K 1 F)) (i:∀(s:X3) (u:T),acg s m #[[u],[]] [(x,u)])
  (B:F [.list (ns.map .int)]=.ok (.fz (.bool S))):
  codeAny (model P w) callerA (.call (.ref U) #[[.ref a],[]]) (λr D=>r=.ok (.ret (.bool S))/\OldK b.heap D.heap/\D.os=b.os/\AllBare D.gens) b:=by
 show G6 (sp:=λc H Q E=>CV K 1 F c H Q E\/(c.length=1/\False)) p d y f g t N V l q (λbase k1 k2=>(G base k1 k2).imp λc H Q E h=>?_) i (λH I A=>?_) λ_ _ _ h=>h
 .rcases h with h|h
  .show h
  .show h.2.elim
 .show .inl #[W,noO,[.list (ns.map .int)],λa z=>z.elim,.cons (.lst #[?_,λz=>z.elim] (qE ns)) .nil,?_]
  .rcases A with h|⟨o,YI,n,h1,h2,h3,h4,h5,X⟩
   .show .inl h
   .let e:=p a o h1;rw[N]at e;ext e;ext h4;show .inr #[c,0,h1,by rw[X4];show l,by simpa using X]
  .rw[B];show λv J s C=>by ext C;rfl
def TZ{l:aff}{n k:Nat}{q:Yr}{i:cc Str}{N:(Str->ck T)->Heap->Prop}{A:YJ->Heap->Prop}{d:DefRec}{K:Params->lD}{F:FN}{x:Str}
  (D:l.most=cL n) (m:n<=Yc) (r:d.params.defaults=[]) (C:ZN k callerA)
  (J:∀(w:YJ) (h:Heap),A w h->(K w.params).In h)
  (O:∀(w:YJ) (b:Str->ck T) (c:X5) (h:Heap),(K w.params).In h->h.Ns Yj b->b d.name=cL (.ref c)->
   ∃fd:Zq,(∀(s:X3) (u:T),acg s fd #[[u],[]] [(x,u)])/\∀base:Heap,(K w.params).In base->base.Ns Yj b->FnOk l.prog w (K w.params) b base oa k c fd [x] (CV (K w.params) 1 F))
  (L:∀ns:cc Int,ns.length<=n->F [.list (ns.map .int)]=.ok (.fz (.bool XX))):
  PySem.W.WalkO q i N A l.row.toRowW d [] (λf g=>aiq f g):=by
 show Att.attach_call D r λw z y b Q c o P U M a g ns G Y R S H p v j e E=>?_;let B:=J w _ Y;let(fd,I,t):=O w b c _ B G.T.g p;show B1 B G.T.g G.T.b G.T.builtins G.T.nolimit E v j (YN e m) C t I (L ns e)
def Wb{P:Yr}{w:YJ}{K:lD}{j:Str->z T}{base:Heap}{x a:Str}{st:ZW}{f:J}{e:Zq}{N c:G Str}{k n m:Nat}{g:FS}{h:FN}(F:Fun K x a st f e)(S:aay N c (aG st))(l:c.length=n)(hm:N.length=m)(i:h=bP m g)
  (d:∀(b:T) (A:YC) (outer:G Env) (s:X3) (H:Hp) (E:XK),ZN k (A.deeper (YX a (aG st) s.heap.objs.size f b))->
   ∃t,PSs (me oa P w K j base N a (aG st) f b A outer s H E).nox (eV st) t/\SO K E t g):FnOk P w K j base oa (k+1) f e c (CV K n h):=by
 subst i hm;show Xk F S l d
abbrev VG(P:Yr)(w:YJ)(K:lD)(b:Str->z T)(base:Heap)(k:Nat)(x:Str)(a:G Str)(n:Nat)(F:FN):Prop:=xt P w K b base k x a (CV K n F)
end L3
namespace L3
open PySem L2
abbrev nd(n:Nat):D:=.int (n:Int)
def a8(ns:G Nat):G D:=ns.map nd
def ju(ns:G Nat):(a8 ns).length=ns.length:=by ext a8;rw[X4]
def JJ(xs a:G Nat):a8 (xs++a)=a8 xs++a8 a:=by ext a8;rw[YH]
theorem aC(a:α):Res.YT (R a)=.ok a:=W
theorem ww(a:α):g6 (Res.ok a)=.ok a:=W
theorem yn(i:Nat)(a:aU):aa i a=Bf a i a[i]? :=W
theorem HP(a:aU)(i:Nat)(d:D):Bf a i (R (R (.fz d)))=.ok (.fz d,a):=W
theorem F4(a:aU)(i:Nat)(ds:G D):Bf a i (R (R (.ow ds)))=.ok (.pl i,a):=W
theorem ot(ds:G D):yk (R (R (.ow ds)))=R ds:=W
theorem Dz(i:Nat)(d:D)(a:aU):gN i (.fz d) a=.ok (a.set i (R (.fz d))):=W
theorem A0(i:Int):U2 (.int i)=R i:=W
theorem xn(b:Bool):Vr (.bool b)=R b:=W
theorem nN(ds:G D):eU [.tuple ds]=R (.fz (nd ds.length)):=W
theorem qu(ds:G D):eU [.list ds]=R (.fz (nd ds.length)):=W
theorem oQ(i j:Int):uR (.int i) (.int j)=R (.fz (.bool (decide (i<j)))):=W
theorem Ny(i j:Int):qX (.int i) (.int j)=R (.fz (.bool (decide (i<=j)))):=W
theorem uE(i j:Int):cH (.int i) (.int j)=R (.fz (.int (i+j))):=W
theorem yN(i j:Int):rq (.int i) (.int j)=R (.fz (.int (i - j))):=W
def vB(h:0<j):rM (.int i) (.int j)=R (.fz (.int (i % j))):=by show(if Qg i j=S then _ else _)=_;rw[ax (show Qg i j=S from a7 h)]
def x9(h:0<j/\j<2^128):tj (.int i) (.int j)=R (.fz (.int (i/j))):=by show(if RJ i j=S then _ else _)=_;rw[ax (show RJ i j=S from a7 h)]
def Iz(h: -(2^64)<i/\i<2^64):Ci (.int i) (.int j)=R (.fz (.int (i*j))):=by show(if(iC i||iC j)=S then _ else _)=_;rw[ax (by rw[show iC i=S from a7 h,abm])]
def JM(h: -(2^64)<j/\j<2^64):Ci (.int i) (.int j)=R (.fz (.int (i*j))):=by show(if(iC i||iC j)=S then _ else _)=_;rw[ax (by rw[show iC j=S from a7 h,ahU])]
def Ks(h:lM j):kL [.int j]=R (gW 0 j.toNat):=by show(if lM j then _ else _)=_;rw[ax h]
def GP(n:Nat):gW 0 n=a8 (Yw n):=by unfold gW a8;apply Zz;intro k _;rw[Int.zero_add]
def ig(h:n<=1000000):kL [nd n]=R (a8 (Yw n)):=by rw[Ks (by ext lM;ext),GP,Za]
def GS(h:f C=.ok (.nx o)):aM f g C=g o:=by ext aM;rw[h];rfl
def Gi(h:f o=.ok (.rt C)):aM f g o=.ok (.rt C):=by ext aM;rw[h];rfl
def Vf(h:c C=.ok (S,o)):eZ c f g C=f o:=by ext eZ;rw[h];rfl
def VV(h:c C=.ok (M,o)):eZ c f g C=g o:=by ext eZ;rw[h];rfl
def yw(h:I C=.ok (ds,o)):ma I gt b C=pA gt b ds o:=by ext ma;rw[h];rfl
def Pi(h:j<=1000000/\i.natAbs<2^64):B3 (.int i) (nd j)=R (.fz (.int (i^j))):=by show(if BT i (j:Int)=S then R (RV.fz (.int (i^((j:Nat):Int).toNat)))else P)=_;rw[ax (by ext BT;show a7 #[by ext,by ext,h.2]),Za]
theorem Ts:B3 (.int 10) (.int 18)=R (.fz (.int (10^18))):=Pi #[by decide,by decide]
def kG(gt:FG)(f:FT)(g:FE)(d:D)(c:aU):Res (z D×aU):=(gt (.fz d) c).bind λe=>(f e).bind λb=>if b.1=S then(g b.2).bind λa=>(Res.YT (wg a.2 a.1)).bind λx=>.ok (R x.1,bU x.2)else .ok (P,bU b.2)
def ra(h:kG gt U fe d I=.ok (o,C))(g:acc.length<1000000):b7 gt U fe (d::r) I acc=b7 gt U fe r C (acc++o.toList):=by
 unfold kG at h;show(gt (.fz d) I).bind _=_;cases l:gt (.fz d) I with
 |er x=>rw[l]at h;ext h
 |bad=>rw[l]at h;ext h
 |ok f=>
  rw[l,eg]at h;rw[eg];cases j:U f with
  |er x=>rw[j]at h;ext h
  |bad=>rw[j]at h;ext h
  |ok b=>
   let(b,e):=b;rw[j,eg]at h;rw[eg];cases b with
   |false=>rw[a6 X7]at h⊢;ext h;rw[abM,YK]
   |true=>
    rw[ax W]at h⊢;cases i:fe e with
    |er x=>rw[i]at h;ext h
    |bad=>rw[i]at h;ext h
    |ok a=>
     rw[i,eg]at h;rw[eg];cases m:wg a.2 a.1 with
     |none=>rw[m]at h;ext h
     |some x=>rw[m]at h;ext h;show(if acc.length<1000000 then _ else _)=_;rw[ax g];rfl
theorem xC(I:aU->Prop)(f:D->z D):∀(ds:G D) (h:aU) (acc:G D),I h->acc.length+ds.length<=1000000->(∀d∈ds,∀h,I h->∃c,kG gt o C d h=.ok (f d,c)/\I c)->b7 gt o C ds h acc=.ok (acc++ds.filterMap f)
 |[],h,acc,_,_,_=>by show Res.ok acc=_;simp
 |d::r,h,acc,h0,j,i=>by
  let(c,e,b):=i d X9 h h0;rw[Yf]at j;rw[ra e (),xC I f r c _ b (by
   let:(f d).toList.length<=1:=by cases f d<;>simp
   rw[Yb];ext) λg a=>i g (Ya _ a)]
  cases q:f d with
  |none=>rw[ZP q,abM,YK]
  |some y=>rw[ZQ q,aeD,YR];rfl
def zD(I:aU->Prop)(f:D->z D)(e:I g)(b:ds.length<=1000000)(a:∀d∈ds,∀g,I g->∃c,kG gt o C d g=.ok (f d,c)/\I c):g6 (b7 gt o C ds g [])=.ok (ds.filterMap f):=by rw[xC I f ds g [] e (by simpa using b) a];rfl
def Pm(a b:Nat):decide ((a:Int)=(b:Int))=decide (a=b):=by
 by_cases h:a=b
 .rw[a7 h,a7 (by rw[h])]
 .rw[bg h,bg ()]
theorem GG(a b:Nat):X2.eqv (nd a) (nd b)=decide (a=b):=Pm a b
def jV(a b:Int):bv (.int a) (.int b)=R (.fz (.bool (decide (a=b)))):=by rfl
def uJ(a b:Int):lr (.int a) (.int b)=R (.fz (.bool (!decide (a=b)))):=by rfl
theorem j8:∀ns:G Nat,X2.canLayAll0 (a8 ns)=S
 |[]=>rfl
 |n::r=>by show(X2.canLay0 (nd n)&&X2.canLayAll0 (a8 r))=S;rw[j8 r];rfl
theorem uy:∀ns:G Nat,X2.depthAll (a8 ns)=0
 |[]=>rfl
 |n::r=>by show max (X2.depth (nd n)) (X2.depthAll (a8 r))=0;rw[uy r];rfl
theorem Am:∀xs ys:G Nat,X2.eqvAll (a8 xs) (a8 ys)=decide (xs=ys)
 |[],[]=>rfl
 |[],_::_=>rfl
 |_::_,[]=>rfl
 |n::r,m::t=>by show(X2.eqv (nd n) (nd m)&&X2.eqvAll (a8 r) (a8 t))=_;rw[Am r t,GG];rw[agi];simp
def Rf(ns:G Nat):mq (.list (a8 ns))=S:=by show(X2.canLayAll0 (a8 ns)&&decide (X2.depthAll (a8 ns)+1<=64))=S;rw[j8,uy];rfl
def uI(xs a:G Nat):bv (.list (a8 xs)) (.list (a8 a))=R (.fz (.bool (decide (xs=a)))):=by ext bv;rw[Rf,show X2.canLay0 (.list (a8 a))=S from j8 a,aaj,ax W,show X2.eqv (.list (a8 xs)) (.list (a8 a))=_ from Am xs a]
def uu(x:Nat)(xs:G Nat):((a8 xs).any λe=>X2.eqv e (nd x))=decide (x∈xs):=by
 induction xs with
 |nil=>rfl
 |cons y r a=>
  show(X2.eqv (nd y) (nd x)||(a8 r).any λe=>X2.eqv e (nd x))=_;rw[a,GG];by_cases h:y=x
  .rw[a7 h,a7 (show x∈y::r by rw[h];show X9),abm]
  .rw[bg h,abV]
   by_cases g:x∈r
   .rw[a7 g,a7 (Ya _ g)]
   .rw[bg g,bg (λz=>(Yg.mp z).elim (λe=>h e.symm) g)]
def Lp(x:Nat)(xs:G Nat):kJ (nd x) (.list (a8 xs))=R (.fz (.bool (decide (x∈xs)))):=by show(if(mq (nd x)&&X2.canLayAll0 (a8 xs))=S then _ else _)=_;rw[j8,show mq (nd x)=S from rfl,aaj,ax W,uu]
def FR(x:Nat)(xs:G Nat):nQ (nd x) (.list (a8 xs))=R (.fz (.bool (!decide (x∈xs)))):=by show(if(mq (nd x)&&X2.canLayAll0 (a8 xs))=S then _ else _)=_;rw[j8,show mq (nd x)=S from rfl,aaj,ax W,uu]
def vg(x:Nat)(xs:G Nat):kJ (nd x) (.tuple (a8 xs))=R (.fz (.bool (decide (x∈xs)))):=by show(if(mq (nd x)&&X2.canLayAll0 (a8 xs))=S then _ else _)=_;rw[j8,show mq (nd x)=S from rfl,aaj,ax W,uu]
theorem DU{i:Nat}(h:xs[i]?=R v):kO xs (i:Int)=R v:=zR h
def RY(h:ds[i]?=R d):aK (.tuple ds) (nd i)=R (.fz d):=by show(kO ds (i:Int)).map RV.fz=_;rw[DU h];rfl
def V2(h:ds[i]?=R d):aK (.list ds) (nd i)=R (.fz d):=by show(kO ds (i:Int)).map RV.fz=_;rw[DU h];rfl
section
variable{N Q Z I:aU}{L T A E:FE}{Y C pv:PV}{U B d:D}{rv:RV}{X:cc PV}{ds:cc D}
def ar(h:N[i]?=R (R (.fz d))):aa i N=.ok (.fz d,N):=by rw[yn,h,HP]
def zd(h:N[i]?=R (R (.ow ds))):aa i N=.ok (.pl i,N):=by rw[yn,h,F4]
theorem aP:pC d N=.ok (.fz d,N):=W
def bh(c:L N=.ok (Y,Q))(g:T Q=.ok (C,Z))(b:pz Z (cx Y)=R U)(a:pz Z C=R B)(e:f U B=R rv):am f L T N=.ok (rv.pv,Z):=by ext am;rw[c,eg,g,eg,b,aC,eg,a,aC,eg,e,aC,eg]
def TC(c:L N=.ok (Y,Q))(a:pz Q Y=R U)(b:f U=R rv):P8 f L N=.ok (rv.pv,Q):=by ext P8;rw[c,eg,a,aC,eg,b,aC,eg]
def ie(c:L N=.ok (Y,Q))(a:pz Q Y=R (.bool b)):ai L N=.ok (b,Q):=by ext ai;rw[c,eg,a,aC,eg,xn,aC,eg]
def pS(c:f N=.ok (a,Q))(e:a=S->g Q=.ok (b,Q)):jK f g N=.ok (a&&b,Q):=by
 ext jK;rw[c,eg];cases a with
 |true=>rw[ax W,e W,abW]
 |false=>rw[a6 X7,ac2]
def yr(c:f N=.ok (a,Q))(e:a=M->g Q=.ok (b,Q)):pQ f g N=.ok (a||b,Q):=by
 ext pQ;rw[c,eg];cases a with
 |true=>rw[ax W,abm]
 |false=>rw[a6 X7,e W,abV]
def Ih(b:ai L N=.ok (a,Q)):yP L N=.ok (.fz (.bool (!a)),Q):=by ext yP;rw[b,eg]
theorem bf:ah N=.ok ([],N):=W
def aE(b:L N=.ok (Y,Q))(a:fr Q=.ok (X,Z)):ae L fr N=.ok (cx Y::X,Z):=by ext ae;rw[b,eg,a,eg]
def iJ(b:fr N=.ok (X,Q))(hd:sW Q X=R ds)(a:f ds=R rv):cF f fr N=.ok (rv.pv,Q):=by ext cF;rw[b,eg,hd,aC,eg,a,aC,eg]
def jz(c:fr N=.ok (X,Q))(hd:mX Q X=R (ds,Z))(b:ds.length=n)(a:F ds=.ok rv):aW F n fr N=.ok (rv.pv,Z):=by ext aW;rw[c,eg,hd,aC,eg];dsimp only;rw[ax b,a,ww,eg]
def sf(b:fr N=.ok (X,Q))(hd:mX Q X=R (ds,Z))(a:ds.length<=1000):bT fr N=.ok (.fz (.tuple ds),Z):=by ext bT;rw[b,eg,hd,aC,eg];dsimp only;rw[ax a]
def uZ(b:fr N=.ok (X,Q))(hd:mX Q X=R (ds,Z))(a:ds.length<=1000):bV fr N=.ok (.ow ds,Z):=by ext bV;rw[b,eg,hd,aC,eg];dsimp only;rw[ax a]
def rC(b:L N=.ok (Y,Q))(a:pz Q Y=R (.int i)):eB L N=.ok (R i,Q):=by ext eB;rw[b,eg,a,aC,eg,A0,aC,eg]
def MP(c:L N=.ok (Y,Q))(b:fl Q=.ok (lo,Z))(e:fh Z=.ok (o,I))(a:pz I (cx Y)=R U)(g:f U lo o=R rv):tN f L fl fh N=.ok (rv.pv,I):=by ext tN;rw[c,eg,b,eg,e,eg,a,aC,eg,g,aC,eg]
def Dm(g:N[i]?=R (R (.ow es)))(c:E N=.ok (Y,Q))(b:wg Q Y=R (d,Z))(f:Z[i]?=R (R (.ow ds)))(e:ds.length<1000000)(a:Z.set i (R (.ow (ds++[d])))=x):wo i E N=.ok (.fz .none,x):=by ext wo;rw[g,ot,aC,eg,c,eg,b,aC,eg];dsimp only;rw[f,ot,aC,eg,ax e,a]
def d9(c:fi N=.ok (ds,Q))(b:t9 Q o=R (cs,Z))(a:g6 (b7 gt ft E ds (X1 n P++cs.map λd=>R (.fz d)) [])=.ok xs):bz n o fi gt ft E N=.ok (.ow xs,Z):=by ext bz;rw[c,eg];dsimp only;rw[b,aC,eg];dsimp only;rw[a,eg]
def Oh(a:c N=.ok (S,Q))(h:L Q=.ok (pv,Z)):Dl c L T N=.ok (pv,Z):=by ext Dl;rw[a,eg,ax W,h]
def Qj(a:c N=.ok (M,Q))(h:T Q=.ok (pv,Z)):Dl c L T N=.ok (pv,Z):=by ext Dl;rw[a,eg,a6 X7,h]
theorem iS:aK (.tuple (a::r)) (.int 0)=R (.fz a):=RY W
theorem i7:aK (.tuple (a::b::r)) (.int 1)=R (.fz b):=RY W
theorem pE:aK (.tuple (a::b::c::r)) (.int 2)=R (.fz c):=RY W
theorem Ta:aK (.list (a::r)) (.int 0)=R (.fz a):=V2 W
theorem Su:aK (.list (a::b::r)) (.int 1)=R (.fz b):=V2 W
def NX(b:k<=1000)(a:xs.length<=1000):Ci (.list xs) (nd k)=R (.ow (X1 k xs).flatten):=by show(if xs.length*((k:Nat):Int).toNat<=1000000/\ -(2^63)<=(k:Int)/\(k:Int)<2^63 then R (RV.ow (X1 ((k:Nat):Int).toNat xs).flatten)else P)=_;rw[Za,ax #[YN (adg a b) (),by ext,by ext]]
def OM(xs:G Nat)(h:∀x∈xs,f (nd x)=if p x=S then R (nd x)else P):(a8 xs).filterMap f=a8 (xs.filter p):=by
 induction xs with
 |nil=>rfl
 |cons x r e=>
  let a:=h x X9;let b:=e λy g=>h y (Ya _ g);show((nd x)::a8 r).filterMap f=_;cases q:p x with
  |true=>rw[q,ax W]at a;rw[ZQ a,b,Zi q];rfl
  |false=>rw[q,a6 X7]at a;rw[ZP a,b,Zv (by rw[q];show X7)]
def lO(c:E N=.ok (Y,Q))(a:wg Q Y=R (d,Z))(b:eF d=R es):eO E N=.ok (es,Z):=by ext eO;rw[c,eg,a,aC,eg];dsimp only;rw[b,aC,eg]
def gM(b:fr N=.ok (X,Q))(hd:sW Q X=R ds)(a:f ds=R es):jy f fr N=.ok (es,Q):=by ext jy;rw[b,eg,hd,aC,eg,a,aC,eg]
def xI(b:fr N=.ok (X,Q))(hd:mX Q X=R ([d],Z))(a:eF d=R es):L3.nu fr N=.ok (cM 0 es,Z):=by ext L3.nu;rw[b,eg,hd,aC,eg];dsimp only;rw[a,aC,eg]
def x5(b:E N=.ok (pv,Q))(a:g pv Q=.ok Z)(c:Z=I):cV E g N=.ok (.nx I):=by ext cV;rw[b,eg];dsimp only;rw[a,eg,c]
def zM(a:E N=.ok (pv,Q)):kF E N=.ok (.nx Q):=by ext kF;rw[a,eg]
def vU(b:E N=.ok (pv,Q))(a:C8 Q pv=R rv):aR E N=.ok (.rt rv):=by ext aR;rw[b,eg];dsimp only;rw[a,aC,eg]
def Mc(e:gt (.fz d) N=.ok Q)(b:ft Q=.ok (S,Z))(g:E Z=.ok (pv,I))(a:wg I pv=R (x,ρ4))(f:bU ρ4=o):kG gt ft E d N=.ok (R x,o):=by ext kG;rw[e,eg,b,eg,ax W,g,eg,a,aC,eg,f]
def Ki(b:gt (.fz d) N=.ok Q)(a:ft Q=.ok (M,Z))(e:bU Z=o):kG gt ft E d N=.ok (P,o):=by ext kG;rw[b,eg,a,eg,a6 X7,e]
end
end L3
namespace PySem
open Sem (wp)
open Builtin
open AutoSeq1 (wpAny_loadPart')
theorem oM:fillsNumberSlot (.type "tuple") "mul"=pure M:=
 fillsNumberSlot_seq F.slot_tuple_mul.lookup (by left) F.slot_tuple_rmul.lookup (by left)
def vL:seqRepeat? (.type "tuple")=pure (R (.builtin "tuple.__mul__")):=by unfold seqRepeat?;rw[seqSlot_of (name:= "__mul__") F.slot_tuple_mul.lookup (by left),seqSlot_of (name:= "__rmul__") F.slot_tuple_rmul.lookup (by left)];rfl
theorem qR(a:Int)(t:Tok)(l:J)(b:Array T)(n:Nat)(dct:z J)(f:Array (z T)):
  Meets (Yx.«int.__rmul__» #[[.int a t,.ref l],[]]) (λ_ R s=>s.heap.get? l=cL {cls:=.type "tuple",dict:=dct,data:=.seq b n,slots:=f}/\R (.ok (.ret XY.notImplemented)) s):=
 .of_wp λe w A R s h=>by let(m,g,d,i,j):=s;let(o,h):=h;wp_walk;show#[_,W,h]
theorem wA(l:J)(a:Array T)(n:Nat)(dct:z J)(e:Array (z T))(u:Tok):
  Meets (Yx.«tuple.__mul__» #[[.ref l,.int 1 u],[]]) (λ_ R s=>s.heap.get? l=cL {cls:=.type "tuple",dict:=dct,data:=.seq a n,slots:=e}/\R (.ok (.ret (XY.ref l))) s):=
 .of_wp λb w A R s h=>by
  let(j,g,d,f,i):=s;let(m,h):=h
  wp_walk
  show#[_,W,h]
theorem wu(l:X5)(a:Array T)(n:Nat)(dct:ck X5)(j:Array (ck T))(x:Int)(u:Tok)(I:2<=x)(r:x<=1000)(e:a.isEmpty=M)(D:a.size<=1000):
  Meets (Yx.«tuple.__mul__» #[[.ref l,.int x u],[]]) (λ_ R s=>s.heap.get? l=cL {cls:=.type "tuple",dict:=dct,data:=.seq a n,slots:=j}/\R (.ok (.ret (XY.ref s.heap.objs.size))) {s with heap:=s.heap.push {cls:=XY.type "tuple",data:=acB.seq (abl (λk c=>k++c) #v[] (X1 x.toNat a))},toks:=s.toks}):=
 .of_wp λf w A R s h=>by
  let(G,g,d,E,F):=s;let(q,h):=h;let C:¬(decide (x< -(2^63))||decide (x≥2^63))=S:=by simp;ext
  let B:(x==1)=M:=by simp;ext
  let z:decide (x<=0)=M:=by simp;ext
  let K:(a.isEmpty||x==1)=M:=by rw[e,B];rfl
  let J:(decide (x<=0)||a.isEmpty)=M:=by rw[e,z];rfl
  let i:(a.size:Int)*x<=1000000:=by let:(a.size:Int)*x<=1000*1000:=Int.mul_le_mul () r () ();ext
  let y:¬(a.size:Int)*x>(2^63 - 1)/8:=by ext
  let v:¬Tuple.tupleTooMany ((a.size:Int)*x)=S:=by
   ext Tuple.tupleTooMany;simp;let:(Yc:Nat)=16777216:=by decide
   ext
  wp_walk
  rw[a6 C]
  wp_walk using aaU q
  rw[a6 y];dsimp only;rw[a6 v];let p:(abl (λk c=>k++c) #v[] (X1 x.toNat a)).size<=Yc:=by
   let t:∀(m:Nat) (b:Array T),(abl (λk c=>k++c) b (X1 m a)).size=b.size+m*a.size:=by
    intro m
    induction m with
    |zero=>intro b;simp
    |succ m o=>intro b;rw[Y4,abq,o,Array.size_append,aip];ext
   rw[t];let H:x.toNat*a.size<=1000*1000:=adg () D;let:(Yc:Nat)=16777216:=by decide
   simp;ext
  wp_walk
  show#[_,W,h]
end PySem
namespace L3
open PySem PySem.Spec PyProof.Rows L2
def Ms(K:lD):R2:=λx y H Q=>∃(a:J) (k:Nat) (xs:G V),x=.ref a/\y=.int (k:Int)/\SqT K H a xs/\xs≠[]/\1<=k/\k<=1000/\xs.length<=1000/\
 (k=1->Q (.ref a) H)/\(2<=k->∀p,H p=P->Q (.ref p) (bj H p (.tup (X1 k xs).flatten)))
def IM:OpR X (Zp .Mult) (Ms X.K):=by
 intro i s P H x y v u Q I B A h;let(a,k,xs,rfl,rfl,G,g,U,N,L,E,C):=h;ext B;let(t,rfl):=A;let(e,r,J,T):=I.tuple G;let((cls,dd,o,f),d,m,n,l):=id J;simp only at m l;subst m l;let j:=r.length;show aeC () #[_,d,W] (λz=>acA z k t) oM F.fills_int_mul F.slot_int_rmul vL F.slot_int_index.lookup
  (Z3 F.slot_int_rmul (acA s k t) F.entry_int_rmul (F.args_int_rmul_2 _ _) (qR k t a e.toArray n dd f) #[d,W,#[_,d,W],?_])
 by_cases M:k=1
 .subst M;show Z3 F.slot_tuple_mul #[_,d,W] F.entry_tuple_mul (F.args_tuple_mul_2 _ _) (wA a e.toArray n dd f t) #[d,#[.ref a,H,I,W,E W]]
 .show Z3 F.slot_tuple_mul #[_,d,W] F.entry_tuple_mul (F.args_tuple_mul_2 _ _) (wu a e.toArray n dd f k t () () ?_ (by rw[Yd];ext)) #[d,?_]
  .cases e with
   |nil=>ext r;show b4 W g
   |cons y R=>rfl
  .let O:abl (λw p=>w++p) #v[] (X1 ((k:Nat):Int).toNat e.toArray)=(X1 k e).flatten.toArray:=by
    let:=oU e k [];rw[abt]at this;rw[Za];show this
   rw[O];show#[.ref s.heap.objs.size,_,I.laid (λb S q=>cn _ q) (X6 _) ?_,W,C () _ (I.Zl.fresh (X6 _))];show#[?_,_,r.rep k,acq.new _ _];rw[zV];show YN (adg N L) ()
def M0(K:lD):R2:=λx y H Q=>D4 K x y H Q\/Ms K x y H Q
theorem IS:OpR X (Zp .Mult) (M0 X.K):=OpR.or Ka IM
def eY:D->D->z RV
 |.tuple xs,.int k=>if xs≠[]/\1<=k/\k<=1000/\xs.length<=1000 then R (.fz (.tuple (X1 k.toNat xs).flatten))else P
 |d,e=>Ci d e
def HH{K:lD}:jU K (M0 K) eY:=by
 intro O H x y l i j Q n f d e q;unfold eY at e;split at e
 .rename_i ds k
  split at e
  .rename_i g
   ext e;ext d;let(a,xs,rfl,h,b):=Dg f;obtain⟨m,rfl⟩:∃m:Nat,k=(m:Int):=#[k.toNat,by ext];rw[Za]at q;show .inr #[a,m,xs,W,W,h.1,λz=>g.1 (b.ne.mp z),by ext,by ext,by rw[b.length];show g.2.2.2,λe=>?_,λ_=>Fin.afC (b.flat m) n q];subst e;let e1:(X1 1 ds).flatten=ds:=by simp
   rw[e1]at q;show q.at (.tup h b)
  .ext e
 .show .inl (KL O H x y l i j Q n f d e q)
end L3
namespace PySem
open Sem (wp)
open Builtin Builtin.Str
def itAt:Bool->Heap->J->J->Nat->Prop
 |true,h,it,a,i=>h.IsTupleIter it a i
 |false,h,it,a,i=>h.IsListIter it a i
def sqAt:Bool->Heap->J->Array T->Prop
 |true,h,a,xs=>h.IsTuple a xs
 |false,h,a,xs=>h.IsList a xs
def mC:Bool->String
 |true=> "tuple_iterator"
 |false=> "list_iterator"
def itAt.ext(x:itAt b h it a i)(e:Heap.ExtBut c h h')(n:it≠c):itAt b h' it a i:=by
 cases b with
 |true=>show Heap.IsTupleIter.extBut x e n
 |false=>show Heap.IsListIter.extBut x e n
def itAt.to(x:itAt b h it a i)(e:∀o,h.get? it=R o->h'.get? it=R o):itAt b h' it a i:=by
 cases b with
 |true=>show Heap.IsTupleIter.at x e
 |false=>show Heap.IsListIter.at x e
def itAt.live(x:itAt b h it a i):∃o,h.get? it=R o/\∀v,o.data≠.cell v:=by
 cases b with
 |true=>let(o,e,_,d):=(show h.IsTupleIter it a i from x);show#[o,e,λv z=>by rw[d]at z;ext z]
 |false=>let(o,e,_,d):=(show h.IsListIter it a i from x);show#[o,e,λv z=>by rw[d]at z;ext z]
def sqAt.ext(x:sqAt b h a xs)(e:Heap.ExtBut c h h')(n:a≠c):sqAt b h' a xs:=by
 cases b with
 |true=>show Heap.IsTuple.extBut x e n
 |false=>show Heap.IsList.extBut x e n
def sqAt.psh(x:sqAt b h a xs)(o:Obj):sqAt b (h.push o) a xs:=by
 cases b with
 |true=>show Heap.IsTuple.push x o
 |false=>show Heap.IsList.push x o
def sqAt.lt(x:sqAt b h a xs):a<h.objs.size:=by
 cases b with
 |true=>let(o,e,_):=(show h.IsTuple a xs from x);show cv e
 |false=>let(o,e,_):=(show h.IsList a xs from x);show cv e
section
variable{prog:Yr}{w:YJ}{A:YC}{E:XY->X3->Prop}{s:X3}
def pU(e:itAt b s.heap it l i)(d:sqAt b s.heap l xs)(a:xs[i]?=R x)
  (q:∀c,itAt b c it l (i+1)->Heap.SameBut it s.heap c->Q x {s with heap:=c}):wpAny (model prog w) A (SmallTypes.nextOf (.ref it)) Q E s:=by
 cases b with
 |true=>show jh e d a q
 |false=>show wpAny_nextOf_list_item e d a q
def ur(f:A.handled=P)(g:itAt b s.heap it l i)(d:sqAt b s.heap l xs)(a:xs[i]?=P)
  (q:∀c e,Heap.ExtBut it s.heap c->(∃o,c.get? e=R o/\o.cls=.type "StopIteration")->E (.ref e) {s with heap:=c}):wpAny (model prog w) A (SmallTypes.nextOf (.ref it)) Q E s:=by
 cases b with
 |true=>show gF f g d a q
 |false=>show wpAny_nextOf_list_end f g d a q
def lY(a:sqAt b s.heap l xs)
  (q:Q (.ref s.heap.objs.size) {s with heap:=s.heap.push {cls:=.type (mC b),data:=.fields #v[.ref l,.int 0 0]}}):wpAny (model prog w) A (pyIter (.ref l)) Q E s:=by
 cases b with
 |true=>show ZD a q
 |false=>show aaW a q
def BW{Q:XY->X3->Prop}(D:acN z1 TI TO i1 i2 l1 l2)(V:aej s.heap z1 TI TO .none)
  (hTI:IsPair s.heap TI (.ref i1) (.ref i2)) (hTO:IsPair s.heap TO a b) (h1:itAt b1 s.heap i1 l1 n) (h2:itAt b2 s.heap i2 l2 n) (hl1:sqAt b1 s.heap l1 xs) (hl2:sqAt b2 s.heap l2 ys) (hx:xs[n]?=cL x) (hy:ys[n]?=cL y)
  (q:∀k,aej k z1 TI TO (rawInt s.heap.objs.size)->IsPair k TO x y->itAt b1 k i1 l1 (n+1)->itAt b2 k i2 l2 (n+1)->IsPair k s.heap.objs.size x y->k.objs.size=s.heap.objs.size+1->
   (∀c o,c≠z1->c≠TO->c≠i1->c≠i2->s.heap.get? c=cL o->k.get? c=cL o)->Q (.ref s.heap.objs.size) {s with heap:=k}):
  wpAny (model prog w) A (Yx.«zip.__next__» #[[.ref z1],[]]) (λfin s'=>∃v,fin=.done (.ret v)/\Q v s') E s:=by
 show wpAny _ _ (field (.ref z1) 2>>=_) _ _ _;show XW (Y2 V W W ?_);show wpAny _ _ (field (.ref z1) 3>>=_) _ _ _;show XW (Y2 V W W ?_);show XW (Zr hTI W ?_);show wpAny _ _ (SmallTypes.ownedTupleIsFree (.ref z1)>>=_) _ _ _;show XW ?_;ext SmallTypes.ownedTupleIsFree;show XW (Y2 V W W (X8 ?_));simp only[if_true];show XW (acC ?_);show XW (Y2 V W W ?_);show XW (Z4 V (by simp) λk₁ r f=>?_);let agJ:=r;clear r;show XW ?_;simp only[af5,agj,abr,ac5];show XW (XW (acv ?_));show wpAny _ _ (SmallTypes.nextOf (.ref i1)>>=_) _ _ _;show XW (pU (h1.ext f.extBut D.i1z) (hl1.ext f.extBut D.l1z) hx λk₂ Y h=>X8 ?_);let I:=h.extBut _ _ D.TOi1 (f.extBut _ _ D.TOz hTO);show XW (Zr I W ?_);show XW (ab7 I λk₃ H g=>?_);let L:=H;clear H;show XW (aaL (X8 ?_));show XW (XW (acv ?_));show wpAny _ _ (SmallTypes.nextOf (.ref i2)>>=_) _ _ _;show XW (pU (((h2.ext f.extBut D.i2z).ext h.extBut D.i12.symm).ext g.extBut D.TOi2.symm) (((hl2.ext f.extBut D.l2z).ext h.extBut D.l2i1).ext g.extBut D.l2TO) hy λk₄ X j=>X8 ?_);let G:=j.extBut _ _ D.TOi2 L;show XW (Zr G W ?_);show XW (ab7 G λd F i=>?_);let m:IsPair d TO x y:=F;clear F;show XW (aaL (X8 (X8 ?_)));show XW (Zr m W ?_);show XW (wpAny_newTuple ?_);let T:d.objs.size=s.heap.objs.size:=by rw[i.1,j.1,g.1,h.1,f.1]
 let B:=i.extBut _ _ D.TOz.symm (j.extBut _ _ D.i2z.symm (g.extBut _ _ D.TOz.symm (h.extBut _ _ D.i1z.symm agJ)));let kp:∀c o,c≠z1->c≠TO->c≠i1->c≠i2->s.heap.get? c=cL o->d.get? c=cL o:=λc o M Z c3 c4 e=>
  i.extBut _ _ Z (j.extBut _ _ c4 (g.extBut _ _ Z (h.extBut _ _ c3 (f.extBut _ _ M e))))
 let S:=((Y.ext g.extBut D.TOi1.symm).ext j.extBut D.i12).ext i.extBut D.TOi1.symm;let R:=X.ext i.extBut D.TOi2.symm;let U:=cv B;show wpAny _ _ (SmallTypes.ownedTupleHandOut (.ref z1) (.ref d.objs.size)>>=_) _ _ _;show XW ?_;ext SmallTypes.ownedTupleHandOut;let P:aej (d.push {cls:=.type "tuple",data:=.seq #v[x,y]}) z1 TI TO .ellipsis:=cn _ B;show XW (Z4 P (by simp) λk₇ O u=>?_);let K:=O;show Z4 K (by simp) λp N t=>?_;let l:=N;let up:∀c o,c≠z1->d.get? c=cL o->p.get? c=cL o:=λc o M e=>t.extBut _ _ M (u.extBut _ _ M (cn _ e));let C:=t.extBut _ _ (Y1 U) (u.extBut _ _ (Y1 U) (c5 _ W));let J:p.objs.size=d.objs.size+1:=by rw[t.1,u.1,dg]
 rw[T]at l C J;show X8 #[_,W,?_];rw[T];show q p l (up _ _ D.TOz m) (S.to λo e=>up _ o D.i1z e) (R.to λo e=>up _ o D.i2z e) C J λc o M Z c3 c4 e=>up c o M (kp c o M Z c3 c4 e)
def DG(S:A.handled=CL)(D:acN z1 TI TO i1 i2 l1 l2)(k:aej s.heap z1 TI TO .none)
  (L:IsPair s.heap TI (.ref i1) (.ref i2)) (K:IsPair s.heap TO a b) (T:itAt b1 s.heap i1 l1 n) (Y:itAt b2 s.heap i2 l2 n) (C:sqAt b1 s.heap l1 xs) (I:sqAt b2 s.heap l2 ys) (N:xs[n]?=CL\/ys[n]?=CL)
  (q:∀V e,(∀c o,c≠z1->c≠TO->c≠i1->c≠i2->s.heap.get? c=cL o->V.get? c=cL o)->(∃o,V.get? e=cL o/\o.cls=.type "StopIteration")->E (.ref e) {s with heap:=V}):
  wpAny (model prog w) A (Yx.«zip.__next__» #[[.ref z1],[]]) Q E s:=by
 show wpAny _ _ (field (.ref z1) 2>>=_) _ _ _;show XW (Y2 k W W ?_);show wpAny _ _ (field (.ref z1) 3>>=_) _ _ _;show XW (Y2 k W W ?_);show XW (Zr L W ?_);show wpAny _ _ (SmallTypes.ownedTupleIsFree (.ref z1)>>=_) _ _ _;show XW ?_;ext SmallTypes.ownedTupleIsFree;show XW (Y2 k W W (X8 ?_));simp only[if_true];show XW (acC ?_);show XW (Y2 k W W ?_);show XW (Z4 k (by simp) λR v d=>?_);let G:=v;show XW ?_;simp only[af5,agj,abr,ac5];show XW (XW (acv ?_));show wpAny _ _ (SmallTypes.nextOf (.ref i1)>>=_) _ _ _;cases hx:xs[n]? with
 |none=>
  show XW (ur S (T.ext d.extBut D.i1z) (C.ext d.extBut D.l1z) hx λB e f J=>?_);let(H,h,i):=J;let l:=f _ _ D.i1z.symm G;let ne:e≠z1:=λt=>by subst t;rw[l]at h;ext h;simp at i
  show Z4 l (by simp) λp _ g=>q p e (λc o F _ M _ t=>g.extBut _ _ F (f _ _ M (d.extBut _ _ F t))) #[H,g.extBut _ _ ne h,i]
 |some x=>
  let X:ys[n]?=CL:=by
   rcases N with t|t
   .rw[hx]at t;ext t
   .show t
  show XW (pU (T.ext d.extBut D.i1z) (C.ext d.extBut D.l1z) hx λB U f=>X8 ?_);let m:=f.extBut _ _ D.TOi1 (d.extBut _ _ D.TOz K);show XW (Zr m W ?_);show XW (ab7 m λp O g=>?_);show XW (aaL (X8 ?_));show XW (XW (acv ?_));show wpAny _ _ (SmallTypes.nextOf (.ref i2)>>=_) _ _ _;show XW (ur S (((Y.ext d.extBut D.i2z).ext f.extBut D.i12.symm).ext g.extBut D.TOi2.symm) (((I.ext d.extBut D.l2z).ext f.extBut D.l2i1).ext g.extBut D.l2TO) X λP e u J=>?_);let(H,h,i):=J;let j:=u _ _ D.i2z.symm (g.extBut _ _ D.TOz.symm (f.extBut _ _ D.i1z.symm G));let ne:e≠z1:=λt=>by subst t;rw[j]at h;ext h;simp at i
  show Z4 j (by simp) λy _ r=>q y e (λc o F c2 M Z t=>r.extBut _ _ F (u _ _ Z (g.extBut _ _ c2 (f.extBut _ _ M (d.extBut _ _ F t))))) #[H,r.extBut _ _ ne h,i]
end
section
variable{X:Yr}{w:YJ}{A:YC}{E:XY->X3->Prop}{s:X3}
def xk(D:acN I TI TO i1 U l1 l2)(L:aej s.heap I TI TO .none)
  (g:IsPair s.heap TI (.ref i1) (.ref U)) (f:IsPair s.heap TO a b) (m:itAt b1 s.heap i1 l1 n) (l:itAt b2 s.heap U l2 n) (e:sqAt b1 s.heap l1 xs) (d:sqAt b2 s.heap l2 ys) (j:xs[n]?=R x) (i:ys[n]?=R y)
  (q:∀k,aej k I TI TO (rawInt s.heap.objs.size)->IsPair k TO x y->itAt b1 k i1 l1 (n+1)->itAt b2 k U l2 (n+1)->IsPair k s.heap.objs.size x y->k.objs.size=s.heap.objs.size+1->
   (∀c o,c≠I->c≠TO->c≠i1->c≠U->s.heap.get? c=R o->k.get? c=R o)->Q (R (.ref s.heap.objs.size)) {s with heap:=k}):
  wpAny (model X w) A (pyNext (.ref I)) Q E s:=by
 let h:s.TypeIs (.ref I) "zip":=#[_,L,W];ext pyNext;show XW (al9 (ZX h F.slot_zip_next ?_));show ZY F.slot_zip_next h F.entry_zip_next (BW D L g f m l e d j i λk C B v u t r p=>X8 (q k C B v u t r p)) (F.args_zip_next_1 _)
def xz(p:A.handled=P)(D:acN y TI TO I C l1 U)(x:aej s.heap y TI TO .none)
  (h:IsPair s.heap TI (.ref I) (.ref C)) (g:IsPair s.heap TO a b) (v:itAt b1 s.heap I l1 n) (u:itAt b2 s.heap C U n) (f:sqAt b1 s.heap l1 xs) (d:sqAt b2 s.heap U ys) (i:xs[n]?=P\/ys[n]?=P)
  (q:∀k,(∀c o,c≠y->c≠TO->c≠I->c≠C->s.heap.get? c=R o->k.get? c=R o)->Q P {s with heap:=k}):wpAny (model X w) A (pyNext (.ref y)) Q E s:=by
 let j:s.TypeIs (.ref y) "zip":=#[_,x,W];ext pyNext;show XW (al9 (ZX j F.slot_zip_next ?_));show ZY F.slot_zip_next j F.entry_zip_next (DG p D x h g v u f d i λk e m r=>?_) (F.args_zip_next_1 _);let(o,l,t):=r;show XW (adh #[o,l,t] isSubtype_stop (X8 (q _ m)))
end
abbrev Uw(h:Heap)(b1:Bool)(a:J):Heap:=h.push {cls:=.type (mC b1),data:=.fields #v[.ref a,.int 0 0]}
abbrev SN(h:Heap)(b1 d:Bool)(b a:J):Heap:=(Uw h b1 b).push {cls:=.type (mC d),data:=.fields #v[.ref a,.int 0 0]}
abbrev Ur(h:Heap)(b1 d:Bool)(a b:J):Heap:=(SN h b1 d a b).push {cls:=.type "tuple",data:=.seq #v[.ref h.objs.size,.ref (Uw h b1 a).objs.size]}
abbrev RU(h:Heap)(b1 d:Bool)(b a:J):Heap:=(Ur h b1 d b a).push {cls:=.type "tuple",data:=.seq #v[.none,.none]}
abbrev VP(h:Heap)(b1 d:Bool)(b a:J):Heap:=(RU h b1 d b a).push {cls:=.type "zip",data:=.fields #v[.none,.bool M,.bool M,.ref (SN h b1 d b a).objs.size,.ref (Ur h b1 d b a).objs.size]}
theorem rO(b1 e:Bool)(a b:J)(xs m:Array T):
  Meets (Yx.«zip.__new__» #[[.type "zip",.ref a,.ref b],[]]) (λ_ R s=>sqAt b1 s.heap a xs/\sqAt e s.heap b m/\R (.ok (.ret (.ref (RU s.heap b1 e a b).objs.size))) {s with heap:=VP s.heap b1 e a b}):=
 .of_wp λo w A R s h=>by
  let(q,g,d,n,p):=s;let(i,f,h):=h;let r:=sub_zip;let l:sqAt b1 (X3.heap #[q,g,d,n,p]) a xs:=i;let j:sqAt e (X3.heap #[q.push {cls:=.type (mC b1),data:=.fields #v[.ref a,.int 0 0]},g,d,n,p]) b m:=sqAt.psh f _
  wp_walk using lY l,lY j
  show#[_,W,h]
section
variable{X:Yr}{w:YJ}{A:YC}{E:XY->X3->Prop}{s:X3}
def zp(e:h.get? it=R {cls:=.type (mC b),data:=.fields #v[.ref l,.int 0 0]}):itAt b h it l 0:=by
 cases b with
 |true=>show#[_,e,W,W]
 |false=>show#[_,e,W,W]
def Cf(j:sqAt b1 s.heap l1 xs)(i:sqAt I s.heap C ys)
  (q:∀k,aej k (s.heap.objs.size+4) (s.heap.objs.size+2) (s.heap.objs.size+3) .none->IsPair k (s.heap.objs.size+2) (.ref s.heap.objs.size) (.ref (s.heap.objs.size+1))->
   IsPair k (s.heap.objs.size+3) .none .none->itAt b1 k s.heap.objs.size l1 0->itAt I k (s.heap.objs.size+1) C 0->(∀c o,s.heap.get? c=R o->k.get? c=R o)->Q (.ref (s.heap.objs.size+4)) {s with heap:=k}):
  wpAny (model X w) A (call (.type "zip") [.ref l1,.ref C]) Q E s:=by
 show callType_new F.called_zip () (F.typeCall_zip_2 _ _) (F.newCall_zip_2 _ _) (λobj=>F.args_object_init_3 obj _ _) F.entry_zip_new (rO b1 I l1 C xs ys) #[j,i,?_];let h:(Uw s.heap b1 l1).objs.size=s.heap.objs.size+1:=dg ..;let g:(SN s.heap b1 I l1 C).objs.size=s.heap.objs.size+2:=by rw[dg,h]
 let f:(Ur s.heap b1 I l1 C).objs.size=s.heap.objs.size+3:=by rw[dg,g]
 let n:(RU s.heap b1 I l1 C).objs.size=s.heap.objs.size+4:=by rw[dg,f]
 let u:∀c o,s.heap.get? c=R o->(Uw s.heap b1 l1).get? c=R o:=λc o e=>cn _ e;let m:∀c o,(Uw s.heap b1 l1).get? c=R o->(SN s.heap b1 I l1 C).get? c=R o:=λc o e=>cn _ e;let d:∀c o,(SN s.heap b1 I l1 C).get? c=R o->(Ur s.heap b1 I l1 C).get? c=R o:=λc o e=>cn _ e;let b:∀c o,(Ur s.heap b1 I l1 C).get? c=R o->(RU s.heap b1 I l1 C).get? c=R o:=λc o e=>cn _ e;let a:∀c o,(RU s.heap b1 I l1 C).get? c=R o->(VP s.heap b1 I l1 C).get? c=R o:=λc o e=>cn _ e;let l:(VP s.heap b1 I l1 C).get? (RU s.heap b1 I l1 C).objs.size=R _:=c5 _ W;let p:=a _ _ (c5 _ W);let r:=a _ _ (b _ _ (c5 _ W));let t:=a _ _ (b _ _ (d _ _ (c5 _ W)));let v:=a _ _ (b _ _ (d _ _ (m _ _ (c5 _ W))));rw[g,f,n]at l;rw[h,g]at r;rw[f]at p;rw[h]at t;rw[n];show#[#[_,l,W],q _ l r p (zp v) (zp t) λc o e=>a _ _ (b _ _ (d _ _ (m _ _ (u _ _ e))))]
end
end PySem
namespace L3
open PySem PySem.Spec PyProof.Rows L2
def xU(b:Bool)(K:lD)(H:Hp)(a:J)(xs:G V):Prop:=match b with
 |true=>SqT K H a xs
 |false=>SqL K H a xs
def Vi(K:lD)(b1 b:Bool)(a c:J):It:=
 #[λi H=>∃xs ys x y,xU b1 K H a xs/\xU b K H c ys/\xs[i]?=R x/\ys[i]?=R y,
  λi H v d=>∃p x y,H p=P/\v=.ref p/\(∀xs,xU b1 K H a xs->xs[i]?=R x)/\(∀ys,xU b K H c ys->ys[i]?=R y)/\d=bj H p (.tup [x,y]),
  λi H=>∃xs ys,xU b1 K H a xs/\xU b K H c ys/\(xs.length<=i\/ys.length<=i)]
def LS(I:Inv X pins σ H s)(g:SqL X.K H a xs)(f:SqL X.K H a ys):xs=ys:=by
 let(d,r1,(o,k,e1,_,n,d1),_):=I.list g;let(b,e,(i,k2,e2,_,j,h),_):=I.list f;rw[e1]at e2;ext e2;let:d=b:=by
  let q:d.toArray=b.toArray:=by injection d1.symm.trans h
  simpa using q
 subst this;show r1.inj e
def j0(I:Inv X pins σ H s)(h:xU b X.K H a xs):∃c,Vals xs c/\sqAt b s.heap a c.toArray:=by
 cases b with
 |true=>let(c,e,p,d):=I.tuple h;show#[c,e,p]
 |false=>let(c,e,p,d):=I.list h;show#[c,e,p.isList]
def ut(I:Inv X pins σ H s)(e:xU b X.K H a xs)(d:xU b X.K H a ys):xs=ys:=by
 cases b with
 |true=>show A5 I e d
 |false=>show LS I e d
def Cd{ch:G J}(I:Inv X pins σ H s)(f:∀b∈ch,mi X pins H b)
  (k:∀b u,b∉ch->s.heap.get? b=R u->C.get? b=R u):Inv X pins σ H {s with heap:=C,toks:=U}:=by
 let d:∀b u,H b=R u->b∉ch:=λb u e z=>by rw[(f b z).1]at e;ext e
 show I.step (λb i=>?_) (λb u _ _ a e _=>k b u a e) (λb u _ _ a e _=>#[u.slots,k b u a e]) (λ_ _ _ _ n=>n)
  (λb u a e=>#[u,k b u a e]) (λ_ _ e=>e) (λ_ _ _ e=>e) (λb w e=>#[#v[],by rw[e];simp]) (λm hm=>?_) (λb u e=>?_) I.bare
 .let(_,p,_,o,l,j):=f b i;show#[o,p,l,j]
 .let(g,es,t,h,r):=hm;show#[g,es,t,k _ g (λz=>(f _ z).2.1 W) h,r]
 .show(I.Zl b u e).acr (λc v a q=>k c v ?_ q) (λ_ q=>q) λ_ _ q=>q
  rcases a with z|z
  .rw[z];show d b u e
  .show d c _ z
theorem FV{K:lD}{V}(b1 b2:Bool)(z TI TO B A S R:X5)(D:acN z TI TO B A S R):
  Turn Pz0 w K (.Tuple elts V tp) (Vi K b1 b2 S R) [z,TI,TO,B,A] z (λi h=>aej h z TI TO .none/\IsPair h TI (.ref B) (.ref A)/\(∃a b,IsPair h TO a b)/\itAt b1 h B S i/\itAt b2 h A R i) where
 mem:=by simp
 obj:=λi h e b d=>by
  let(l,g,(a,c,m),r,p):=e;simp only[Yg,Y0,or_false]at d;rcases d with rfl|rfl|rfl|rfl|rfl
  .show#[_,l,λv q=>by cases(show acB.fields _=acB.cell v from q)]
  .show#[_,g,λv q=>by cases(show acB.seq _ _=acB.cell v from q)]
  .show#[_,m,λv q=>by cases(show acB.seq _ _=acB.cell v from q)]
  .show r.live
  .show p.live
 keep:=λi h h' e k=>by let(l,g,(a,c,m),r,p):=e;show#[k z (by simp) _ l,k TI (by simp) _ g,#[a,c,k TO (by simp) _ m],r.to λo q=>k B (by simp) o q,p.to λo q=>k A (by simp) o q]
 item:=by
  intro X hP Y hK hc i j s σ H E I L e hg;subst hP Y hK;let(l,g,(a,c,m),r,p):=e;let(xs,ys,x,y,J,G,hx,hy):=hg;let(YI,N,Q):=j0 I J;let(F,M,O):=j0 I G;let(u,hu,ru):=N.get hx;let(t,ht,rt):=M.get hy;show xk D l g m r p Q O (by simpa using hu) (by simpa using ht) λk z1 o1 g1 g2 pr sz kp=>#[_,W,?_];show wpAny_letOwnedTupleGo_zip z1 λC z2 e2=>?_;let T:=cv l;let hIl:=cv g;let hOl:=cv m;let h1l:B<s.heap.objs.size:=by let(_,q,_):=r.live;show cv q
  let h2l:A<s.heap.objs.size:=by let(_,q,_):=p.live;show cv q
  let hn:=I.Zl.fresh (X6 _);let V:∀b o,b∉[z,TI,TO,B,A]->s.heap.get? b=cL o->C.get? b=cL o:=λb o d q=>by simp only[Yg,Y0,or_false,not_or]at d;show(e2.2 b d.1).trans (kp b o d.1 d.2.2.1 d.2.2.2.1 d.2.2.2.2 q)
  let hT2:=(e2.2 _ (Y1 T)).trans pr
  let I2:Inv X j σ (bj H s.heap.objs.size (.tup [x,y])) {s with heap:=C}:=
   I.abc L V (X6 _) #[by show 2<=Yc;decide,[u,t],.cons ru (.cons rt .nil),#[_,hT2,#[W,_,W],W]]
  let f:∀b o,b≠z->k.get? b=cL o->C.get? b=cL o:=λb o n q=>(e2.2 b n).trans q;show#[.ref s.heap.objs.size,_,I2,W,#[_,x,y,hn,W,λzs Z=>by rw[ut I Z J];show hx,λzs Z=>by rw[ut I Z G];show hy,W],
   #[z2,f _ _ D.TIz (kp _ _ D.TIz D.TITO D.TIi1 D.TIi2 g),#[_,_,f _ _ D.TOz o1],g1.to λo q=>f _ _ D.i1z q,g2.to λo q=>f _ _ D.i2z q],λb d=>?_]
  let hb2:b<s.heap.objs.size:=by simp only[Yg,Y0,or_false]at d;rcases d with rfl|rfl|rfl|rfl|rfl<;>assumption
  rw[aQ (Yk hb2)];show(L b d).1
 done:=by
  intro X hP Y hK hc i j s σ H E I L e hg;subst hP Y hK;let(l,g,(a,c,m),r,p):=e;let(xs,ys,J,G,U):=hg;let(YI,N,Q):=j0 I J;let(F,M,O):=j0 I G;let hl1:=N.length;let hl2:=M.length;let hd:YI.toArray[i]?=CL\/F.toArray[i]?=CL:=by
   rcases U with q|q
   .show .inl (by simp;ext)
   .show .inr (by simp;ext)
  show xz (I.ok.hd hc) D l g m r p Q O hd λk kp=>#[W,?_];show Cd I L λb o d q=>by simp only[Yg,Y0,or_false,not_or]at d;show kp b o d.1 d.2.2.1 d.2.2.2.1 d.2.2.2.2 q
 self:=λ_ _ _ _ _ e h=>air e.1 h
def CP(n b a:Nat)(e:b<n)(d:a<n):acN (n+4) (n+2) (n+3) n (n+1) b a:=by constructor<;>(show(_:Nat)≠_;ext)
def Np(K:lD)(g:TA):TI:=λd H R=>g d H λf b=>∃a c b1 e,f=[.ref a,.ref c]/\(∃xs,xU b1 K b a xs)/\(∃ys,xU e K b c ys)/\R (Vi K b1 e a c) b
def Gz:YO "zip"=R (.type "zip"):=by left
def RB{k}(O:Gl X "zip")(hm:X.mg "zip"=CL)(x:PA X [l,m] ta)(L:Yp [l,m] X.env=(XZ,eval l X.env)::Yp [m] X.env:=by rfl)(M:(backTo pos (Yp [m] X.env)).any (·.1)=XZ:=by rfl):
  PI X (.Tuple elts k tp) (.Call (.Name "zip" p) [l,m] [] pos) (Np X.K ta):=by
 intro d s w H R I h;show Call_ (jX I O hm Gz (Zs (b9 (x pos d s w H _ I h) λU f #[vs,v,i,r1,E]=>?_) L M));let(a,c,b1,S,e,(xs,B),(T,A),q):=E;subst e;let(u,t,rfl,C,rt):=Nd r1;ext C;ext rt;let(YI,Z,o):=j0 i B;let(J,Y,n):=j0 i A;let Q:∀b∈[f.heap.objs.size+4,f.heap.objs.size+2,f.heap.objs.size+3,f.heap.objs.size,f.heap.objs.size+1],mi X d v b:=λb r=>by
  let g:f.heap.objs.size<=b:=by simp only[Yg,Y0,or_false]at r;let P:=r;ext
  show i.acT g (i.Zl.fresh g)
 show Cf o n λh1 j G F z y N=>?_;show air j ?_;show#[f.heap.objs.size+4,_,_,_,v,W,i.kept N,FV b1 S _ _ _ _ _ a c (CP _ _ _ o.lt n.lt),#[j,G,#[_,_,F],z,y],Q,q]
def JI:Yo->Bool
 |.Starred _ _=>S
 |_=>M
def on(e:Yo)(es:G Yo)(env:Env)(h:JI e=M):Yp (e::es) env=(M,eval e env)::Yp es env:=by ext e<;>first|rfl|ext h
def mO:G D->G D->G D
 |x::r,y::q=>.tuple [x,y]::mO r q
 |_,_=>[]
theorem wq:∀(xs a:G D),(mO xs a).length=min xs.length a.length
 |[],_=>by simp[mO]
 |_::_,[]=>by simp[mO]
 |_::r,_::q=>by simp only[mO,Yf,wq r q];ext
theorem xo:∀(xs a:G D) (i:Nat),(mO xs a)[i]?=(xs[i]?).bind λx=>(a[i]?).map λy=>.tuple [x,y]
 |[],_,_=>by simp[mO]
 |x::r,[],i=>by ext i<;>simp[mO]
 |x::r,y::q,0=>by simp[mO]
 |x::r,y::q,i+1=>by simp only[mO,ZT];show xo r q i
section
variable{K:lD}{E:XK}{B O Y:bG}{L H U:Hp}{Z:L2.St}{N ρ':aU}{v:V}
def adn(b:Bool)(O:bG)(K:lD)(H:Hp)(a:J)(xs:G V):Prop:=match b with
 |true=>abg O K H a xs
 |false=>acb O K H a xs
def adn.ev(h:adn b O K H a xs)(e:Ev O H Y U):adn b Y K U a xs:=by
 cases b with
 |true=>show abg.ev h e
 |false=>show acb.ev h e
def adn.at(h:adn b O K H a xs):xU b K H a xs:=by
 cases b with
 |true=>show(show abg O K H a xs from h).1
 |false=>show(show acb O K H a xs from h).1.sq
def Pt(h:adn b1 O K H a xs)(hd:Zn O K H xs ds)(g:adn b2 O K H c ys)(A:Zn O K H ys es):pG K (Vi K b1 b2 a c) O H (mO ds es):=by
 intro Y U e n;let f:=h.ev e;let d:=hd.ev e;let l:=g.ev e;let j:=A.ev e;rw[wq];show#[λi hi=>?_,#[xs,ys,f.at,l.at,?_]]
 .let u:i<ds.length:=by ext
  let r:i<es.length:=by ext
  let(x,z,dx):=d.get (Ye u);let(y,w,C):=j.get (Ye r);show#[#[xs,ys,x,y,f.at,l.at,z,w],?_];rintro t F ⟨p,I,G,b,rfl,X,Q,rfl⟩;let o:=X xs f.at;let m:=Q ys l.at;rw[z]at o;rw[w]at m;ext o;ext m;show#[a9 b _,.tuple [ds[i],es[i]],?_,.tup #[SqT.of aI,λq=>b4 q (n p b)] (.cons (dx.ev (Ev.grow (a9 b _))) (.cons (C.ev (Ev.grow (a9 b _))) .nil))];rw[xo,Ye u,Ye r];rfl
 .rw[hd.length,A.length];ext
def HJ(h:DV O K H v d)(q:eF d=R ds):∃b a xs,v=.ref a/\adn b O K H a xs/\Zn O K H xs ds:=by
 cases h with
 |tup h e=>ext q;show#[S,_,_,W,h,e]
 |lst h e=>ext q;show#[M,_,_,W,h,e]
 |_=>ext q
def zv(c:FA):FI:=λN=>(c N).bind λa=>(Res.YT (mX a.2 a.1)).bind λb=>match b.1 with
 |[d,e]=>(Res.YT (eF d)).bind λds=>(Res.YT (eF e)).bind λes=>.ok (mO ds es,b.2)
 |_=>.bad
def Rt(h:AO K E I fa):IO K E (Np K I) (zv fa):=by
 intro B L O Z H N F R w;show h B L O Z H N _ R (w.bind.imp λa b G Q A e1 y l=>?_);let((ds,g),q,b):=b.YT;let(z,e2,R2,o):=mQ y l q;dsimp only at b;cases o with
 |nil=>show b.elim
 |cons n d=>
  cases d with
  |nil=>show b.elim
  |cons d m=>
   cases m with
   |cons _ _=>show b.elim
   |nil=>let(es,j,b):=WR.YT b;let(fs,i,b):=WR.YT b;let(b1,u,xs,rfl,f,d1):=HJ n j;let(r,t,C,rfl,e,p):=HJ d i;show#[u,t,b1,r,W,#[_,f.at],#[_,e.at],b z _ A (e1.trans e2) R2 (Pt f d1 e p)]
def i9(d e:D):ck RV:=match d,e with
 |.str z,.int i=>if z.length<=1000000 then(kO z.cps.toList i).map λc=>.fz (.str #[#v[c]])else P
 |_,_=>P
def Jp:jU K (Ub K) i9:=by
 intro O H x y j f h Q n b a e q;unfold i9 at e;split at e
 .split at e
  .rename_i z i d
   cases g:kO z.cps.toList i with
   |none=>rw[g]at e;ext e
   |some c=>rw[g]at e;ext e;ext b;ext a;show .inr (.inr #[z,i,c,W,W,lm d,g,q.at (.str _)])
  .ext e
 .ext e
def wy:G D->ck RV
 |[.str z]=>if z.length<=1000000 then R (.fz (.int z.length))else P
 |_=>P
def Ln:wj K (λxs H Q=>∃x n,xs=[x]/\P5 K x H n/\Q (.int n) H) wy:=by
 intro O H xs ds g Q n a e q;unfold wy at e;split at e
 .split at e
  .rename_i z b
   ext e;cases a with
   |cons f d=>ext d;ext f;show#[_,z.length,W,#[lm b,W],q.at (.int _)]
  .ext e
 .ext e
def Gk(g:Str->Str->Bool):R2:=λx y H Q=>∃i j,x=.str i/\y=.str j/\Q (.bl (g i j)) H
def fS(g:Str->Str->Bool):D->D->z RV
 |.str i,.str j=>R (.fz (.bool (g i j)))
 |_,_=>P
def MA:jU K (Gk g) (fS g):=by
 intro O H x y h d f Q n b a e q;unfold fS at e;split at e
 .ext e;ext b;ext a;show#[_,_,W,W,q.at (.bl _)]
 .ext e
def Rx(i j:Str):Bool:= !decide (j.cps.toList<i.cps.toList)
def O9:OpR X (Y9 .LtE) (Gk Rx):=by intro a s Z H x y v u Q I d b h;let(i,j,rfl,rfl,q):=h;let(t,rfl):=d;let(e,rfl):=b;show PySem.P.le_str (u7 I q W)
def UZ:=fS Rx
theorem Jn:jU K (Gk Rx) UZ:=MA
end
end L3
namespace L3
open PySem L2
def Wp(N C:aU->Prop)(T:RV->Prop):Res Fl->Prop
 |.ok (.nx a)=>N a
 |.ok (.ct a)=>C a
 |.ok (.rt v)=>T v
 |_=>False
structure Go(r:Res Fl)(N C:aU->Prop)(T:RV->Prop):Prop where
 out:Wp N C T r
section
variable{ρ X Z ρ3:aU}{f g:FS}{Q:FE}{pv:PV}{d:D}{rv:RV}{U:cc D}{N C:aU->Prop}{T:RV->Prop}
def Go.eq(e:r=r')(h:Go r' N C T):Go r N C T:=by rw[e];show h
def Go.imp(h:Go r N C T)(b:∀ρ,N ρ->N' ρ)(e:∀ρ,C ρ->C' ρ)(a:∀v,T v->T' v):Go r N' C' T':=by
 show#[?_];let h:=h.out;cases r with
 |bad=>show h
 |er x=>show h
 |ok i=>
  cases i with
  |nx r=>show b _ h
  |ct r=>show e _ h
  |rt v=>show a _ h
  |bk r=>show h
def yS(h:Go (f ρ) (λr=>Go (g r) N C T) C T):Go (aM f g ρ) N C T:=by
 show#[?_];let h:=h.out;ext aM;cases q:f ρ with
 |bad=>rw[q]at h;show h.elim
 |er x=>rw[q]at h;show h.elim
 |ok a=>
  rw[q]at h;cases a with
  |nx r=>show(show Go (g r) N C T from h).out
  |ct r=>show h
  |rt v=>show h
  |bk r=>show h.elim
theorem DD(b:Q ρ=.ok (pv,X))(a:gt pv X=.ok Z)(h:N Z):Go (cV Q gt ρ) N C T:=.eq (x5 b a W) #[h]
theorem zC(a:Q ρ=.ok (pv,X))(h:N X):Go (kF Q ρ) N C T:=.eq (zM a) #[h]
theorem hJ(b:Q ρ=.ok (pv,X))(a:C8 X pv=R rv)(h:T rv):Go (aR Q ρ) N C T:=.eq (vU b a) #[h]
theorem AX(I:Nat->aU->Prop):∀(U:G D) (k:Nat) (ρ:aU),I k ρ->(∀i d ρ,U[i]?=R d->I (k+i) ρ->∃X,gt (.fz d) ρ=.ok X/\Go (b X) (I (k+i+1)) (I (k+i+1)) T)->Go (pA gt b U ρ) (I (k+U.length)) C T
 |[],k,ρ,h0,_=>#[h0]
 |d::r,k,ρ,h0,u=>by
  let(X,o,a):=u 0 d ρ W h0;let a:=a.out;let l:∀j,I (k+1) j->Go (pA gt b r j) (I (k+(r.length+1))) C T:=λj h=>by
   let e:k+(r.length+1)=k+1+r.length:=by ext
   rw[e];show AX I r (k+1) j h λi t m w n=>?_;let e:k+1+i=k+(i+1):=by ext
   rw[e]at n⊢;show u (i+1) t m (by simpa using w) n
  show#[?_];show Wp _ _ _ ((gt (.fz d) ρ).bind _);rw[o,eg];cases q:b X with
  |bad=>rw[q]at a;show a.elim
  |er x=>rw[q]at a;show a.elim
  |ok p=>
   rw[q]at a;cases p with
   |nx r=>show(l _ a).out
   |ct r=>show(l _ a).out
   |rt v=>show a
   |bk r=>show a.elim
def OQ(I:Nat->aU->Prop)(k:o ρ=.ok (U,X))(j:I 0 X)(a:∀i d ρ,U[i]?=R d->I i ρ->∃X,gt (.fz d) ρ=.ok X/\Go (b X) (I (i+1)) (I (i+1)) T)(e:∀c,I U.length c->N c):Go (ma o gt b ρ) N C T:=by let:=AX (C:=C) I U 0 X j (by simpa using a);rw[abu]at this;show .eq (yw k) (this.imp e (λ_ h=>h) λ_ h=>h)
def Fh(a:U.map (λd=>R (.fz d))++X1 (n - U.length) P=ρ)(h:Go (g ρ) (λ_=>T (.fz .none)) (λ_=>False) T):∃rv,bP n g U=.ok rv/\T rv:=by
 let h:=h.out;ext bP;rw[a];cases q:g ρ with
 |bad=>rw[q]at h;show h.elim
 |er x=>rw[q]at h;show h.elim
 |ok b=>
  rw[q]at h;cases b with
  |nx r=>show#[_,W,h]
  |ct r=>show h.elim
  |rt v=>show#[_,W,h]
  |bk r=>show h.elim
def gA(a:U.map (λd=>R (.fz d))++X1 (n - U.length) P=ρ)(h:Go (g ρ) (λ_=>RV.fz .none=v) (λ_=>False) (λr=>r=v)):bP n g U=.ok v:=by let(rv,e,b):=Fh (T:=λr=>r=v) a h;rw[e,b]
theorem mK(b:Q ρ=.ok (pv,X))(a:gt pv X=.ok Z)(c:Z=ρ3)(h:Go (g ρ3) N C T):Go (aM (cV Q gt) g ρ) N C T:=.eq (GS (x5 b a c)) h
theorem vR(b:Q ρ=.ok (pv,X))(a:C8 X pv=R rv)(h:T rv):Go (aM (aR Q) g ρ) N C T:=.eq (Gi (vU b a)) #[h]
theorem n6(h:Go (g ρ) N C T):Go (aM aV g ρ) N C T:=.eq W h
def xq(i:c ρ=.ok (b,X))(a:b=S->Go (aM f1 g X) N C T)(h:b=M->Go (aM f2 g X) N C T):Go (aM (eZ c f1 f2) g ρ) N C T:=by
 let e:aM (eZ c f1 f2) g ρ=if b=S then aM f1 g X else aM f2 g X:=by unfold aM eZ;rw[i,eg];ext b<;>rfl
 show .eq e ?_;cases b with
 |true=>show a W
 |false=>show h W
theorem NN(I:Nat->aU->Prop)(j:o ρ=.ok (U,X))(h:I 0 X)(a:∀i d ρ,U[i]?=R d->I i ρ->∃X,gt (.fz d) ρ=.ok X/\Go (b X) (I (i+1)) (I (i+1)) T)(e:∀c,I U.length c->Go (g c) N C T):Go (aM (ma o gt b) g ρ) N C T:=
 yS (OQ I j h a e)
def MF(c:X2.strOk a=S)(e:X2.strOk b=S):bv (.str a) (.str b)=R (.fz (.bool (a==b))):=by ext bv;rw[show mq (.str a)=S by ext mq;rw[show X2.canLay0 (.str a)=S from c];rfl,show X2.canLay0 (.str b)=S from e,aaj,ax W];rfl
def Nt(b:X2.strOk a=S):bv (.str a) (.str a)=R (.fz (.bool S)):=by rw[MF b b,ec]
def AI(c:X2.strOk a=S)(e:X2.strOk b=S)(h:(a==b)=M):bv (.str a) (.str b)=R (.fz (.bool M)):=by rw[MF c e,h]
def V3(i:X2.strOk a=S)(h:X2.strOk b=S)(e:X2.strOk c=S):kJ (.str a) (.tuple [.str b,.str c])=R (.fz (.bool (b==a||c==a))):=by show(if(mq (.str a)&&(X2.strOk b&&(X2.strOk c&&S)))=S then R (RV.fz (.bool (X2.eqv (.str b) (.str a)||(X2.eqv (.str c) (.str a)||false))))else P)=_;rw[show mq (.str a)=S by ext mq;rw[show X2.canLay0 (.str a)=S from i];rfl,h,e,abU];rfl
theorem vY{α:Type}{xs:G α}{i:Int}{v:α}(a:0<=i)(h:xs[i.toNat]?=R v):kO xs i=R v:=Qq a h
def U7(a:0<=i)(h:U[i.toNat]?=R d):aK (.tuple U) (.int i)=R (.fz d):=by show(kO U i).map RV.fz=_;rw[vY a h];rfl
def LK{s:G Nat}(e:s.Pairwise (·<·))(h:∀k∈s,k<n):s.length<=n:=by
 let:∀(s:G Nat) (a:Nat),s.Pairwise (·<·)->(∀k∈s,a<=k/\k<n)->s.length<=n - a:=by
  intro s
  induction s with
  |nil=>intro a _ _;show Zj _
  |cons x r i=>intro a e h;let(l,j):=Zg.mp e;let m:=h x X9;let:=i (x+1) j λk b=>#[l k b,(h k (Ya _ b)).2];rw[Yf];ext
 show this s 0 e λk b=>#[Zj _,h k b]
def Ar(c:fr ρ=.ok (o,X))(hd:mX X o=R ([d,e],Z))(b:eF d=R es)(a:eF e=R fs):zv fr ρ=.ok (mO es fs,Z):=by ext zv;rw[c,eg,hd,aC,eg];dsimp only;rw[b,aC,eg,a,aC,eg]
def EZ{f g:D->D->z RV}(k:fa ρ=.ok (pa,ρ))(j:fb ρ=.ok (I,ρ))(i:fc ρ=.ok (pc,ρ))(b:pz ρ (cx pa)=R dx)(a:pz ρ (cx I)=R o)(c:pz ρ pc=R dz)(h:f dx o=R (.fz (.bool b1)))(e:b1=S->g o dz=R (.fz (.bool b2))):dB f g fa fb fc ρ=.ok (.fz (.bool (b1&&b2)),ρ):=by
 ext dB;rw[k,eg,j,eg];dsimp only;rw[b,aC,eg,a,aC,eg,h,aC,eg];cases b1 with
 |false=>rfl
 |true=>dsimp only;rw[i,eg];dsimp only;rw[a,aC,eg,c,aC,eg,e W,aC,eg];rfl
end
end L3
namespace L3
open PySem PySem.Spec PyProof.Rows L2 PySem.Builtin PySem.Builtin.Str
section
variable{X:Cx}
theorem nA{z:Str}{u:T}(h:RelV (.str z) u):∃t,u=.str z t:=h
def BL:Mz X "str.startswith" (λx xs H Q=>∃a b,x=.str a/\xs=[.str b]/\Q (.bl (Txt.startswith a b)) H):=by rintro e s h H x xs v i Q I f d ⟨a,b,rfl,rfl,q⟩;let(t,rfl):=nA f;let(u,rfl,g):=d.one;let(j,rfl):=nA g;show PySem.SC.startswith #[.bl _,H,I,W,q]
theorem jI:∀l:G (Str×Tok),Vals ((l.map (·.1)).map V.str) (strValues l)
 |[]=>.nil
 |p::r=>.cons #[p.2,W] (jI r)
theorem tO:∀{a:G Str} {b:G T},Vals (a.map V.str) b->∃l,b=strValues l/\l.map (·.1)=a
 |[],_,.nil=>#[[],W,W]
 |z::r,_,.cons h t=>by let(k,rfl):=nA h;let(l,rfl,e):=tO t;show#[(z,k)::l,W,by rw[Yi,e]]
def Du:V->G V->Hp->VK->Prop:=λx xs H Q=>∃a b,x=.str a/\xs=[.str b]/\(b.length==0)=M/\a.length<=Yc/\(Txt.split a b).length<=Yc/\∀p,H p=P->Q (.ref p) (bj H p (.lst ((Txt.split a b).map V.str)))
def EX:Mz X "str.split" Du:=by
 rintro f s j H x xs v o Q I m h ⟨a,b,rfl,rfl,r,y,w,q⟩;let(t,rfl):=nA m;let(u,rfl,n):=h.one;let(p,rfl):=nA n;let d:∀(l:G (Str×Tok)) (g:Nat),l.map (·.1)=Txt.split a b->EP X f j Q (.ref s.heap.objs.size) {s with heap:=s.heap.push {cls:=.type "list",data:=.seq (strValues l).toArray},toks:=g}:=λl g e=>by let i:=jI l;rw[e]at i;show#[.ref _,_,I.ahi (t':=g) i (by rw[X4];show w),W,q _ I.fresh]
 cases h1:(decide (a.length<b.length)||decide (strKind a<strKind b))with
 |true=>show Z3 F.slot_str_split (aa8 _ _ _) F.entry_str_split (F.args_str_split_2 _ _) (meets_str_split_cannot_occur a b t p h1) (d [(a,t)] s.toks (ax h1).symm)
 |false=>
  cases hf:(occurrences a b 0 a.length (a.length+1)).isEmpty with
  |true=>show Z3 F.slot_str_split (aa8 _ _ _) F.entry_str_split (F.args_str_split_2 _ _) (meets_str_split_not_found a b t p h1 r hf) (d [(a,t)] s.toks ((a6 (ne_true_of_eq_false h1)).trans (ax hf)).symm)
  |false=>let e:Txt.split a b=partsBetween a (occurrences a b 0 a.length (a.length+1)) b.length:=(a6 (ne_true_of_eq_false h1)).trans (a6 (ne_true_of_eq_false hf));show Z3 F.slot_str_split (aa8 _ _ _) F.entry_str_split (F.args_str_split_2 _ _) (meets_str_split_sep a b t p h1 r hf y (by rw[<-e];show w)) ?_;rw[strsFrom_eq];show d (numbered s.toks _) _ ((numbered_texts _ _).trans e.symm)
def Nb(K:lD):V->G V->Hp->VK->Prop:=λx xs H Q=>∃a l b,x=.str a/\xs=[.ref l]/\SqL K H l (b.map V.str)/\JoinOk a b=S/\Q (.str (Txt.join a b)) H
def Jq:Mz X "str.join" (Nb X.K):=by
 rintro e s i H x xs v j Q I g b ⟨a,l,m,rfl,rfl,w,Zl,q⟩;let(t,rfl):=nA g;let(u,rfl,h):=b.one;ext h;let(p,r,pl,o):=I.list w;let(d,rfl,rfl):=tO r;let f:tooLong ((d.map (·.1)).toArray.foldl (·+·.length+a.length) 0)=M:=by unfold JoinOk at Zl;rwa [ZK]at Zl
 show Z3 F.slot_str_join (aa8 _ _ _) F.entry_str_join (F.args_str_join_2 _ _) (meets_str_join_list a t l d f) #[pl.isList,post_join d #[joinFit_length f,λn k=>#[.str _,H,I.tok k,#[_,W],q]]]
def SB:V->ck Int->ck Int->Hp->VK->Prop:=λx lo a H Q=>∃z,x=.str z/\z.length<=Yc/\Q (.str (Txt.slice z lo a)) H
def Q2:RQ X SB:=by
 rintro b s g H x v o n lo r p Q I m d pl f ⟨z,rfl,w,q⟩;let(t,rfl):=nA m;show#["str",_,F.slot_str_getitem.lookup,aa8 _ _ _,?_];let a:(Txt.slice z lo r).length<=Yc/\∀e k,EP X b g Q (.str (Txt.slice z lo r) e) {s with toks:=k}:=#[YN (Txt.slice_le z _ _) w,λe k=>#[.str _,H,I.tok k,#[_,W],q]];cases pl with
 |none=>cases f with
  |none=>show aax (l:=P) (u:=P) (st:=P) d W (abN a)
  |int j u=>show aax (l:=P) (u:=R (j,u)) (st:=P) d W (abN a)
 |int i u=>cases f with
  |none=>show aax (l:=R (i,u)) (u:=P) (st:=P) d W (abN a)
  |int j h=>show aax (l:=R (i,u)) (u:=R (j,h)) (st:=P) d W (abN a)
def BH:ZS X (.type "int") (λxs H Q=>∃z n,xs=[.str z]/\abD z=R n/\z.length<=640/\Q (.int n) H):=by rintro a s d H xs e Q I r ⟨z,n,rfl,f,g,q⟩;let(u,rfl,b):=gu r;let(t,rfl):=nA b;show akh f g #[.int n,H,I.tok _,#[_,W],q]
end
section
variable{X:Cx}
def Vy(x:Str):It:=#[λi _=>i<x.cps.size,λi H v a=>∃c,x.cps[i]?=R c/\v=.str #[#v[c]]/\a=H,λi _=>i=x.cps.size]
theorem tK{P:Yr}{w:YJ}{K:lD}{S:Yo}(x:Str)(t:Tok)(a:X5)(ty:String)
  (D:["enumerate","zip","dict_itemiterator","dict_reverseitemiterator","odict_iterator","itertools.zip_longest","itertools.pairwise"].contains ty=XZ)
  (W:∀A:YC,A.handled=CL->adI P w A a [a] [a] x.cps.size (SignAt x) (λi h=>h.IsStrIter a ty x t i)) (self:∀(A:YC) (i:Nat) (s:X3) (Q:XY->X3->Prop) (E:XY->X3->Prop),s.heap.IsStrIter a ty x t i->Q (.ref a) s->wpAny (model P w) A (pyIter (.ref a)) Q E s):
  Turn P w K S (Vy x) [a] a (λi h=>h.IsStrIter a ty x t i) where
 mem:=by simp
 obj:=λi h f b j=>by
  let e:b=a:=by simpa using j
  subst e;let(o,e,c,d):=f;show#[o,e,λv z=>by rw[d]at z;ext z]
 keep:=λi h q f k=>by let(o,e,r):=f;show#[o,k a (by simp) o e,r]
 item:=by intro X F y G C i g s R H E I p f n;subst F y G;let(O,N,U,M,L,J):=p a (by simp);show(W X.A (I.ok.hd C)).item i s _ _ n f λv q l T m kp=>?_;let(c,u,B,rfl):=T;let Y:L2.Inv X g R H {s with heap:=q,toks:=l}:=I.turned (t':=l) (λb o j e=>kp b o (by simpa using j) e) O N M L J;let(o,e,cl,d):=id m;show#[_,rfl,xQ (s:={s with heap:=q,toks:=l}) e cl d D #[.str #[#v[c]],H,Y,#[u,rfl],#[c,B,rfl,rfl],m,λb j=>(p b j).1]]
 done:=by intro X F y G C i g s R H E I p f n;subst F y G;let n:i=x.cps.size:=n;subst n;let(O,N,U,M,L,J):=p a (by simp);show(W X.A (I.ok.hd C)).done s _ _ f λq l kp=>#[rfl,I.turned (t':=l) (λb o j e=>kp b o (by simpa using j) e) O N M L J]
 self:=λA i s Q E f h=>self A i s Q E f h
def Hk(b:TE):TI:=λa H R=>b a H λx d=>∃z,x=.str z/\R (Vy z) d
def Qn{r l:Yo}{m:TE}(u:PE X l m):PI X r l (Hk m):=by
 intro d s p H R I h;show b9 (u d s p H _ I h) λv a #[y,j,f,r1,z,e,q]=>?_;subst e;let(t,rfl):=nA r1;let n:∀b∈[a.heap.objs.size],mi X d j b:=λb w=>by
  let e:b=a.heap.objs.size:=by simpa using w
  subst e;show f.acT (X6 _) (f.Zl.fresh (X6 _))
 cases B:z.cps.all (·<128)with
 |false=>show wpAny_pyIter_wide B ?_;show#[a.heap.objs.size,[a.heap.objs.size],_,_,j,W,f.kept (t':=a.toks) λb o e=>cn _ e,tK z t _ "str_iterator" () (λA i=>adI.strWide i _ z t) (λ_ _ _ _ _ g h=>wpAny_pyIter_striter_wide g h),#[_,c5 _ W,W,W],n,q]
 |true=>show wpAny_pyIter_ascii B ?_;show#[a.heap.objs.size,[a.heap.objs.size],_,_,j,W,f.kept (t':=a.toks) λb o e=>cn _ e,tK z t _ "str_ascii_iterator" () (λA i=>adI.strAscii i _ z t) (λ_ _ _ _ _ g h=>wpAny_pyIter_striter_ascii g h),#[_,c5 _ W,W,W],n,q]
end
section
variable{K:lD}{E:XK}{B O N:bG}{Y H L:Hp}{Z:L2.St}{U I:aU}{v:V}
def tD:PV->ck Str
 |.fz (.str z)=>R z
 |_=>P
def r6{pv:PV}{z:Str}(p:abh K Y O Z H U v pv)(e:tD pv=R z):v=.str z:=by
 unfold tD at e;split at e
 .ext e;cases(show DV O K H v (.str z)from p);rfl
 .ext e
def T6(K:lD)(r:V->G V->Hp->VK->Prop)(f:Str->G D->ck RV):Prop:=∀(O:bG) (H:Hp) (z:Str) (xs:G V) (ds:G D) (a:RV) (Q:VK),mz O H->Paired (DX O K H) xs ds->f z ds=R a->Fin O K H Q a->r (.str z) xs H Q
def tU(f:Str->G D->ck RV)(d:FE)(c:FA):FE:=λU=>(d U).bind λa=>(Res.YT (tD a.1)).bind λz=>(c a.2).bind λb=>(Res.YT (sW b.2 b.1)).bind λds=>(Res.YT (f z ds)).bind λe=>.ok (e.pv,b.2)
def SK{r:V->cc V->Hp->VK->Prop}{f:Str->cc D->ck RV}{to:TE}{c:TA}{g:FE}{k:FA}(o:T6 K r f)(p:EO K E to g)(s:AO K E c k):EO K E (Q7 K "str" r to c) (tU f g k):=by intro B Y O Z H U Q R w;show p B Y O Z H U _ R (w.bind.imp λa e A x G e1 t n=>?_);let(z,h,e):=e.YT;obtain rfl:=r6 n h;show#[W,?_];show s B Y A Z G a.2 _ t (e.bind.imp λb d y xs F e2 R2 m=>?_);let(ds,j,d):=d.YT;let(X,i,d):=d.YT;show o y F z xs ds X Q R2.od (qV R2 m j) i (j4 R2 λu v C e3 q l=>d u v C (e1.trans (e2.trans e3)) q l)
def l9(z:Str):G D->ck RV
 |[.str b]=>R (.fz (.bool (Txt.startswith z b)))
 |_=>P
def C0:T6 K (λx xs H Q=>∃a b,x=.str a/\xs=[.str b]/\Q (.bl (Txt.startswith a b)) H) l9:=by
 intro O H z xs ds h Q n d e q;unfold l9 at e;split at e
 .ext e
  cases d with
  |cons g f=>ext f;ext g;show#[_,_,W,W,q.at (.bl _)]
 .ext e
theorem nJ{O:bG}{H:Hp}:∀a:G Str,Zn O K H (a.map V.str) (a.map .str)
 |[]=>.nil
 |z::r=>.cons (.str z) (nJ r)
def jZ(z:Str):G D->ck RV
 |[.str b]=>if(b.length==0)=M/\z.length<=1000000/\(Txt.split z b).length<=1000000 then R (.ow ((Txt.split z b).map .str))else P
 |_=>P
def FD:T6 K Du jZ:=by
 intro O H z xs ds g Q n b e q;unfold jZ at e;split at e
 .split at e
  .rename_i a
   ext e;cases b with
   |cons f d=>ext d;ext f;show#[_,_,W,W,a.1,lm a.2.1,lm a.2.2,Fin.new (nJ _) q]
  .ext e
 .ext e
def sV:G D->z (G Str)
 |[]=>R []
 |.str b::r=>(sV r).map (b::·)
 |_=>P
theorem u9{O:bG}{H:Hp}:∀{xs:G V} {ds:G D} {bs:G Str},Zn O K H xs ds->sV ds=R bs->xs=bs.map V.str
 |_,_,_,.nil,e=>by ext e;rfl
 |_,_,bs,.cons (vs:=f) (ds:=r) h t,e=>by
  cases h with
  |str b=>
   let a:(sV r).map (b::·)=R bs:=e;cases q:sV r with
   |none=>rw[q]at a;ext a
   |some d=>rw[q]at a;ext a;rw[u9 t q];rfl
  |_=>ext e
def gy(z:Str):G D->ck RV
 |[.list ds]=>(match sV ds with
  |some a=>if JoinOk z a=S then R (.fz (.str (Txt.join z a)))else P
  |none=>P)
 |_=>P
def KZ:T6 K (Nb K) gy:=by
 intro O H z xs ds l Q n g e q;unfold gy at e;split at e
 .rename_i es
  cases j:sV es with
  |none=>rw[j]at e;ext e
  |some f=>
   rw[j]at e;dsimp only at e;split at e
   .rename_i h
    ext e;cases g with
    |cons d b=>ext b;let(a,i,rfl,d,b):=xW d;let:=u9 b j;subst this;show#[z,a,f,W,W,d.sq,h,q.at (.str _)]
   .ext e
 .ext e
def jA:D->ck Int->ck Int->ck RV
 |.str z,lo,a=>if z.length<=1000000 then R (.fz (.str (Txt.slice z lo a)))else P
 |_,_,_=>P
def IB:UL K SB jA:=by
 intro O H x lo f g d Q n a e q;unfold jA at e;split at e
 .split at e
  .rename_i b;ext e;ext a;show#[_,W,lm b,q.at (.str _)]
  .ext e
 .ext e
def c7:D->D->z RV
 |.str i,.str j=>if i.length+j.length<=1000000 then R (.fz (.str (i++j)))else P
 |_,_=>P
def Fz:jU K (λx y H Q=>∃i j,x=.str i/\y=.str j/\i.length+j.length<=Yc/\Q (.str (i++j)) H) c7:=by
 intro O H x y h f g Q n b a e q;unfold c7 at e;split at e
 .split at e
  .rename_i d;ext e;ext b;ext a;show#[_,_,W,W,lm d,q.at (.str _)]
  .ext e
 .ext e
def RF(i j:Str):Bool:= !(Yx.Str.occurrences j i 0 j.length 1).isEmpty
def Vl:=fS RF
theorem PU{X:Cx}:OpR X (Y9 .In) (Gk RF):=Cn
theorem HZ:jU K (Gk RF) Vl:=MA
def gv:G D->z RV
 |[.int i]=>if i.natAbs<10^30 then R (.fz (.str (an7 (toString i))))else P
 |_=>P
def B8{n:Nat}(h:n<10^30):n.log2<1920:=by
 by_cases a:n=0
 .subst a;decide
 .let:=(ajl (k:=128) a).mpr (Yu h ());ext
def PB:wj K (λxs H Q=>∃i,xs=[.int i]/\i.natAbs.log2<1920/\Q (.str (toString i)) H) gv:=by
 intro O H xs ds g Q n a e q;unfold gv at e;split at e
 .split at e
  .rename_i b
   ext e;cases a with
   |cons f d=>ext d;ext f;show#[_,W,B8 b,q.at (.str _)]
  .ext e
 .ext e
def Ib:G D->ck RV
 |[.str z]=>(match abD z with
  |some n=>if z.length<=640 then R (.fz (.int n))else P
  |none=>P)
 |_=>P
def JQ:wj K (λxs H Q=>∃z n,xs=[.str z]/\abD z=R n/\z.length<=640/\Q (.int n) H) Ib:=by
 intro O H xs ds h Q n a e q;unfold Ib at e;split at e
 .rename_i z
  cases g:abD z with
  |none=>rw[g]at e;ext e
  |some m=>
   rw[g]at e;dsimp only at e;split at e
   .rename_i b
    ext e;cases a with
    |cons f d=>ext d;ext f;show#[_,_,W,g,b,q.at (.int _)]
   .ext e
 .ext e
def qC(z:Str):G D:=z.cps.toList.map λc=>.str #[#v[c]]
def zz(b:FE):FI:=λU=>(b U).bind λa=>(Res.YT (tD a.1)).bind λz=>.ok (qC z,a.2)
def Gb{z:Str}:pG K (Vy z) O H (qC z):=by
 intro N L e n;let a:(qC z).length=z.cps.size:=by ext qC;rw[X4,YU]
 rw[a];show#[λi f=>#[f,?_],W];rintro x d ⟨c,b,rfl,rfl⟩;show#[Zw.refl _,.str #[#v[c]],?_,.str _];ext qC;rw[Yl,abv,b];rfl
def G3{d:TE}{c:FE}(h:EO K E d c):IO K E (Hk d) (zz c):=by intro B Y O Z H U l R w;show h B Y O Z H U _ R (w.bind.imp λa b i x j e1 g f=>?_);let(z,e,b):=b.YT;obtain rfl:=r6 f e;show#[z,W,b i _ j e1 g Gb]
end
end L3
namespace PySem
open Sem (wp)
open AutoSeq1 (wpAny_loadPart')
open Builtin Builtin.Str
section
variable{X:Yr}{w:YJ}{A:YC}{E:XY->X3->Prop}{s:X3}
def xN{T a i:String}{t u:Yx}{args:cc XY}{d:cc (Str×XY)}{S:Spec}{Q Q₁:XY->X3->Prop}(x:TypeCalled T a i)
  (y:checkTypeCall T #[args,d]=pure ⟨⟩) (n:checkBuiltinCall a #[.type T::args,d]=pure ⟨⟩) (p:entryFor table a=R t) (q:entryFor table i=R u) (g:Meets (t #[.type T::args,d]) S) (h:S A.in1 (wants Q₁ E) s)
  (o:∀obj k,Q₁ obj k->k.TypeIs obj T/\argsOk i #[obj::args,d]/\∃N,Meets (u #[obj::args,d]) N/\N A.in1 (wants (λr D=>r=.none/\Q obj D) E) k):wpAny (model X w) A (call (.type T) args d) Q E s:=by
 let(c,K,H):=x.mro;let I:=x.made;let J:=x.sub;show aeg (codeAny_of_tree ?_);show wpAny _ _ (callAny (.type T) _) _ _ _;show X8 #[aeR.quiet_builtin _ (by left),Z8 F.entry_type_call ?_];rw[YC.under_plain (weight_type_call_type T args d) (units_type_call_type T args d)];let k1:=x.notType;let k2:=x.canCreate
 repeat (any_goals (first|assumption|wp_step))
 show aaZ (aaM x.plain p (ab6 n (g X w A.in1 _ s h))) λr k m=>?_;cases r with
 |error e=>show m
 |ok G=>
  cases G with
  |ret obj=>
   let(B,Zl,N,C,l):=o _ _ m;let v:=x.init.lookup;let z:=x.init.bind obj
   repeat (any_goals (first|assumption|wp_step))
   show aaZ (aaM x.init.plain q (x.init.check _ _ _ _ _ _ _ _ B Zl (C X w A.in1 _ k l))) λj D b=>?_;cases j with
   |error e=>show b
   |ok f=>
    cases f with
    |ret r=>let(rfl,L):=b;repeat (any_goals (first|assumption|wp_step))
    |_=>show b.elim
  |_=>show m.elim
end
def oB(a b:T):checkTypeCall "enumerate" #[[a],[("start",b)]]=pure ⟨⟩:=by kernel_rfl
def pF(a b:T):checkBuiltinCall "enumerate.__new__" #[[.type "enumerate",a],[("start",b)]]=pure ⟨⟩:=by kernel_rfl
def vj(a b c:T):argsOk "object.__init__" #[[a,b],[("start",c)]]:=by ext argsOk;rw[signature?_of (id:= "object.__init__") (n:=['_','_','t','i','n','i','_','_']) (o:=['t','c','e','j','b','o']) (by kernel_rfl) F.owner_object];kernel_rfl
def rg{T d:String}{self a b:XY}(i:typeLookup (.type T) "__init__"=pure (cL (.builtin "object.__init__")))(hm:Bind.madeBy (.type T)=pure (cL d))(h:(cL d !=cL "object.__new__")=S):
  Meets (Yx.«object.__init__» #[[self,a],[("start",b)]]) (λ_ R s=>s.TypeIs self T/\R (.ok (.ret .none)) s):=by
 show Meets.of_wp λe w A R s f=>?_;let(j,g):=f
 repeat (any_goals (first|assumption|wp_step))
 show#[_,W,g]
theorem sQ(b:Bool)(l:J)(a:Array T)(t:Tok):
  Meets (Yx.«enumerate.__new__» #[[.type "enumerate",.ref l],[("start",.int 1 t)]]) (λ_ R s=>sqAt b s.heap l a/\R (.ok (.ret (.ref (s.heap.objs.size+1))))
   {s with heap:=(s.heap.push {cls:=.type (mC b),data:=.fields #v[.ref l,.int 0 0]}).push {cls:=.type "enumerate",data:=.fields #v[.none,.bool M,.ref s.heap.objs.size,rawInt 1,.none,.none]}}):=
 .of_wp λj w A R s h=>by
  let(i,g,d,m,n):=s;let(o,h):=h;let p:=al8;let e:sqAt b (X3.heap #[i,g,d,m,n]) l a:=o;let f:(i.push {cls:=.type (mC b),data:=.fields #v[.ref l,.int 0 0]}).objs.size=i.objs.size+1:=dg ..
  wp_walk using lY e
  show ajm λq=>X8 ?_;split
  .rename_i c _ _ _ _ _
   cases(c==XY.type "enumerate")
   .wp_walk using lY e
    rw[f];show#[_,W,h]
   .wp_walk using lY e
    rw[f];show#[_,W,h]
  .wp_walk using lY e
   rw[f];show#[_,W,h]
section
variable{X:Yr}{w:YJ}{A:YC}{E:XY->X3->Prop}{s:X3}
def vQ{b:Bool}{l:J}{a:Array T}{t:Tok}{Q:T->X3->Prop}(i:sqAt b s.heap l a)
  (h:∀j,aeh j (s.heap.objs.size+1) s.heap.objs.size 1 .none->itAt b j s.heap.objs.size l 0->(∀c o,s.heap.get? c=R o->j.get? c=R o)->Q (.ref (s.heap.objs.size+1)) {s with heap:=j}):
  wpAny (model X w) A (call (.type "enumerate") [.ref l] [("start",.int 1 t)]) Q E s:=by
 show xN (Q₁:=λobj d=>d.TypeIs obj "enumerate"/\Q obj d) F.called_enumerate (oB _ _) (pF _ _) F.entry_enumerate_new F.entry_object_init (sQ b l a t) #[i,?_] λobj _ e=>
  #[e.1,vj _ _ _,_,rg F.called_enumerate.init.lookup F.called_enumerate.made (),e.1,W,e.2]
 let g:(s.heap.push {cls:=.type (mC b),data:=.fields #v[.ref l,.int 0 0]}).objs.size=s.heap.objs.size+1:=dg ..;let f:aeh ((s.heap.push {cls:=.type (mC b),data:=.fields #v[.ref l,.int 0 0]}).push {cls:=.type "enumerate",data:=.fields #v[.none,.bool M,.ref s.heap.objs.size,rawInt 1,.none,.none]}) (s.heap.objs.size+1) s.heap.objs.size 1 .none:=by let:=c5 (s.heap.push {cls:=.type (mC b),data:=.fields #v[.ref l,.int 0 0]}) (o:={cls:=.type "enumerate",data:=.fields #v[.none,.bool M,.ref s.heap.objs.size,rawInt 1,.none,.none]}) W;rw[g]at this;show this
 show#[#[_,f,W],h _ f (zp (cn _ (c5 _ W))) λc o x=>cn _ (cn _ x)]
end
end PySem
namespace PySem
open Sem (wp)
open Builtin Builtin.Str
def sqAt.to{b:Bool}{h c:Heap}{a:J}{xs:Array T}(x:sqAt b h a xs)(e:∀o,h.get? a=R o->c.get? a=R o):sqAt b c a xs:=by
 cases b with
 |true=>let(o,f,d):=(show h.IsTuple a xs from x);show#[o,e o f,d]
 |false=>let(o,f,d):=(show h.IsList a xs from x);show#[o,e o f,d]
theorem Eh{prog:Yr}{w:YJ}{A:YC}(b:Bool)(u:A.handled=P)(f l:J)(q:l≠f)(a:Array T):
  Draws prog w A f [f,l] (a.size+1) (λj v=>1<=j/\a[j - 1]?=R v) (λj h=>1<=j/\itAt b h f l (j - 1)/\sqAt b h l a) where
 live:=λ_ _ d=>let#[o,I,_]:=d.2.1.live;#[o,I]
 frame:=λ_ _ _ d r=>#[d.1,d.2.1.to λo e=>r f (by simp) o e,d.2.2.to λo e=>r l (by simp) o e]
 item:=λj s Q E C d y=>by
  let(t,p,n):=d;let i:j - 1<a.size:=by ext
  show pU p n (x:=a[j - 1]) (by simp[i]) λB m g=>?_;let e:j - 1+1=j+1 - 1:=by ext
  rw[e]at m;show y _ B s.toks #[t,by simp[i]] #[by ext,m,n.ext g.extBut q] g
 done:=λs Q E d z=>by let(t,p,n):=d;rw[aaV]at p;show ur u p n (by simp) z
section
variable{M:Model}{A:YC}{E:XY->X3->Prop}{s:X3}{X:Env}
def rT{b:Pos}{T:String}{e:Yo}{d:G aa0}{Q:XY->X3->Prop}
  (h:wpAny M A (spliced (backTo b (Yp [e] X))) (λm c=>wpAny M A (evalAll ((backToKw b (keywordEach d X)).map (·.2))) (λn k=>wpAny M A (call (.type T) m (((backToKw b (keywordEach d X)).filterMap (·.1)).zip n)) Q E k) E c) E s)
  (l:backTo b (Yp [e] X)=[(XZ,eval e X)]) (i:(backToKw b (keywordEach d X)).all (·.1.isSome)=S) (g:(backToKw b (keywordEach d X)).any (·.1.isNone)=XZ):
  wpAny M A (callWith b (.type T) [] (backTo b (Yp [e] X)) (backToKw b (keywordEach d X))) Q E s:=by
 rw[l]at h⊢;ext callWith;show XW (Zo (wpAny_mono (ajn (Q:=λa c=>wpAny M A (call (.type T) a.pos a.kw) Q E c) i h) (λa c f=>XW (acs ?_)) λ_ _ x=>x));simp only[g,aak,List.any_nil,abU];show XW (X8 ?_);show XW (wpAny_mono f (λr k j=>XW (Zo (wpAny_point (X8 j)))) λ_ _ x=>x)
end
end PySem
namespace L3
open PySem PySem.Spec PyProof.Rows L2 PySem.Builtin
def OO(K:lD)(b:Bool)(a:J):It:=
 #[λi H=>∃xs x,xU b K H a xs/\xs[i]?=R x,
  λi H v d=>∃p x,H p=P/\v=.ref p/\(∀xs,xU b K H a xs->xs[i]?=R x)/\d=bj H p (.tup [.int ((i+1:Nat):Int),x]),
  λi H=>∃xs,xU b K H a xs/\xs.length=i]
theorem zt{P:Yr}{w:YJ}{K:lD}{J:cc Yo}{D}{tp:Pos}(b:Bool)(a e d:X5)(r:e≠d)(G:a≠d)(V:a≠e):
  Turn P w K (.Tuple J D tp) (OO K b a) [e,d] e (λi h=>(∃old,aeh h e d ((i+1:Nat):Int) old)/\itAt b h d a i) where
 mem:=by simp
 obj:=λi h j c t=>by
  let((old,g),hi):=j;rcases Yg.mp t with z|t
  .subst z;show#[_,g,λv z=>by cases(show acB.fields _=acB.cell v from z)]
  .let z:c=d:=by simpa using t
   subst z;show hi.live
 keep:=λi h h' j k=>by let((old,g),f):=j;show#[#[old,k e (by simp) _ g],f.to λo q=>k d (by simp) o q]
 item:=by
  intro X hP T hK t i m s σ H E I O j Y;subst hP T hK;let((old,g),f):=j;let(xs,x,N,S):=Y;let(B,rv,p):=j0 I N;let(u,hu,ru):=rv.get S;let hlt:i<B.toArray.size:=by
   let:=(X0.mp hu).1
   simpa using this
  show afd (Eh (A:=X.A.in1) b (I.ok.hd t) d a G B.toArray) g #[by ext,by rw[aaV];show f,p] () r (by simp[r,V.symm]) λy h1 M R ho afR hT hsz hk=>#[_,W,?_];let Q:y=u:=by
   let q:B.toArray[i]?=cL u:=by simpa using hu
   let C:=R.2;rw[aaV,q]at C;show(Yq C).symm
  subst Q;show aa9 (s:={s with heap:=h1,toks:=M+1}) ho λh2 Z n=>?_;let F:e<s.heap.objs.size:=cv g;let U:d<s.heap.objs.size:=by let(_,z,_):=f.live;show cv z
  let hn:H s.heap.objs.size=CL:=I.Zl.fresh (X6 _);let D:∀c o,c∉[e,d]->s.heap.get? c=cL o->h2.get? c=cL o:=λc o l q=>by let h3:c≠e:=λz=>l (by simp[z]);let h4:c≠d:=λz=>l (by simp[z]);show(n.2 c h3).trans (hk c o h3 h4 q)
  let hT2:h2.get? s.heap.objs.size=cL {cls:=.type "tuple",data:=.seq #v[.int ((i+1:Nat):Int) M,y]}:=(n.2 _ (Y1 F)).trans hT
  let I2:L2.Inv X m σ (bj H s.heap.objs.size (.tup [.int ((i+1:Nat):Int),x])) {s with heap:=h2,toks:=M+1}:=
   I.abc (ch:=[e,d]) O D (X6 _) #[by show 2<=Yc;decide,[.int ((i+1:Nat):Int) M,y],.cons #[_,W] (.cons ru .nil),#[_,hT2,#[W,_,W],W]]
  let L:=afR.2.1;rw[show i+1+1 - 1=i+1 by ext]at L;show#[.ref s.heap.objs.size,_,I2,W,#[_,x,hn,W,λys R=>by rw[ut I R N];show S,W],#[#[y,Z],L.to λo q=>(n.2 d r.symm).trans q],λc l=>?_];let hb2:c≠s.heap.objs.size:=by
   rcases Yg.mp l with z|l
   .rw[z];show Yk F
   .rw[show c=d by simpa using l];show Yk U
  rw[aQ hb2];show(O c l).1
 done:=by
  intro X hP T hK t i m s σ H E I O j Y;subst hP T hK;let((old,g),f):=j;let(xs,N,S):=Y;let(B,rv,p):=j0 I N;let(f0,f1,f2,f3,f4,f5):=O d (by simp);let hl:=rv.length;let ei:i=B.toArray.size:=by rw[Yd];ext
  subst ei;show afp (Eh (A:=X.A.in1) b (I.ok.hd t) d a G B.toArray) g #[by ext,by rw[aaV];show f,p] λh1 eb=>#[W,I.turned (t':=s.toks) (λc o l q=>eb c o l q) f0 f1 f3 f4 f5]
 self:=λ_ _ _ _ _ j h=>by let((old,g),_):=j;show aab g h
def Ba(K:lD)(c:TA):TI:=λe H R=>c e H λf d=>∃a b,f=[.ref a]/\(∃xs,xU b K d a xs)/\R (OO K b a) d
def Ft{X:Cx}{l:Yo}{k:TA}{p f tp v t:Pos}{o:cc Yo}{x}{j:Nat}(M:Gl X "enumerate")(hm:X.mg "enumerate"=CL)(D:PA X [l] k)(G:JI l=XZ:=by rfl):
  PI X (.Tuple o x tp) (.Call (.Name "enumerate" p) [l] [#[cL "start",.Constant (.int 1) j v,t]] f) (Ba X.K k):=by
 intro g s C H R I h;let N:eval (.Call (.Name "enumerate" p) [l] [#[cL "start",.Constant (.int 1) j v,t]] f) X.env=(do callWith f (<-eval (.Name "enumerate" p) X.env) [] (backTo f (Yp [l] X.env)) (backToKw f (keywordEach [#[cL "start",.Constant (.int 1) j v,t]] X.env))):=W;rw[N];show XW (jX I M hm boot_enumerate (rT (b9 (D f g s C H _ I h) λQ d #[U,B,r,r1,F]=>?_) (by rw[on _ _ _ G];rfl) W W));let(a,b,e,(xs,J),q):=F;subst e;let(u,rfl,E):=gu r1;ext E;let(S,rv,A):=j0 r J;show acD (acy (acL ?_));let T:=r.tok (d.toks+1);let n:a<d.heap.objs.size:=A.lt;let P:∀c∈[d.heap.objs.size+1,d.heap.objs.size],mi X g B c:=λc y=>by
  let m:d.heap.objs.size<=c:=by
   rcases Yg.mp y with z|y
   .rw[z];show aaB _
   .rw[show c=d.heap.objs.size by simpa using y];show X6 _
  show r.acT m (r.Zl.fresh m)
 show vQ (s:={d with toks:=d.toks+1}) A λO i w L=>?_;show aab (s:={d with heap:=O,toks:=d.toks+1}) i ?_;show#[d.heap.objs.size+1,[d.heap.objs.size+1,d.heap.objs.size],_,_,B,W,r.kept (t':=d.toks+1) L,zt b a _ _ (abf _) (Yk n) (Yk (ZM n)),#[#[_,i],w],P,q]
section
variable{K:lD}{E:XK}{B O N:bG}{U H L:Hp}{Q:L2.St}{X I:aU}{v:V}
def DW{b:Bool}{a:J}{xs:G V}{ds:G D}(h:adn b O K H a xs)(hd:Zn O K H xs ds):pG K (OO K b a) O H (cM 1 ds):=by intro N L e n;let j:=h.ev e;let g:=hd.ev e;rw[gj];show#[λi o=>?_,#[xs,j.at,hd.length]];let(x,l,t):=g.get (Ye o);show#[#[xs,x,j.at,l],?_];rintro y m ⟨p,z,f,rfl,r,rfl⟩;let d:=r xs j.at;rw[l]at d;ext d;show#[a9 f _,.tuple [.int ((i+1:Nat):Int),ds[i]],?_,.tup #[SqT.of aI,λq=>b4 q (n p f)] (.cons (.int _) (.cons (t.ev (Ev.grow (a9 f _))) .nil))];rw[iu,Ye o,acm 1 i];rfl
def yq(c:FA):FI:=λX=>(c X).bind λa=>(Res.YT (mX a.2 a.1)).bind λb=>match b.1 with
 |[d]=>(Res.YT (eF d)).bind λds=>.ok (cM 1 ds,b.2)
 |_=>.bad
def Fx{c:TA}{k:FA}(h:AO K E c k):IO K E (Ba K c) (yq k):=by
 intro B U O Q H X t R w;show h B U O Q H X _ R (w.bind.imp λa d u y r e1 o i=>?_);let((ds,f),q,d):=d.YT;let(p,e2,R2,m):=mQ o i q;dsimp only at d;cases m with
 |nil=>show d.elim
 |cons l j=>
  cases j with
  |cons _ _=>show d.elim
  |nil=>let(es,g,d):=WR.YT d;let(b,n,xs,rfl,e,d1):=HJ l g;show#[n,b,W,#[_,e.at],d p _ r (e1.trans e2) R2 (DW e d1)]
end
end L3
namespace L2
open PySem PySem.Spec PyProof.Rows
section
variable{X:Type}[DecidableEq X]
def kK(b:G (X×V))(k:X):z V:=(b.find? λa=>decide (a.1=k)).map (·.2)
def jJ(b:G (X×V))(k:X)(v:V):G (X×V):=
 if(b.any λa=>decide (a.1=k))=S then b.map (λa=>if a.1=k then(a.1,v)else a)else b++[(k,v)]
def nw(b:G (X×V))(k:X):G (X×V):=b.filter λa=>decide (a.1≠k)
def rD{k:X}(e:p.1=k):kK (p::r) k=R p.2:=by simp[kK,Zx,e]
def rL{k:X}(e:¬p.1=k):kK (p::r) k=kK r k:=by simp[kK,Zx,e]
theorem xH(k:X):∀a:G (X×V),(a.any λb=>decide (b.1=k))=(kK a k).isSome
 |[]=>rfl
 |p::r=>by
  rw[aak];by_cases e:p.1=k
  .simp only[rD e,a7 e,abm,aeB]
  .rw[rL e,bg e,abV];show xH k r
def kW(a:G (X×V))(k:X)(v:V):(jJ a k v).length<=a.length+1:=by
 ext jJ;split
 .rw[X4];ext
 .rw[Yb,Yf,ZZ];ext
def abw.ace(r:abw o u):o.isSome=u.isSome:=by
 cases o with
 |none=>cases u with
  |none=>rfl
  |some _=>show(show False from r).elim
 |some _=>cases u with
  |none=>show(show False from r).elim
  |some _=>rfl
def KV.val{i:G (X×V)}{c:G (X×T)}(r:KV i c)(k:X):abw (kK i k) (valueAt c k):=by
 unfold KV at r
 induction r with
 |nil=>show True.intro
 | @cons p q l g h t j=>
  let(d,f):=h;by_cases e:p.1=k
  .let a:q.1=k:=d.symm.trans e
   let b:valueAt (q::g) k=R q.2:=by simp[valueAt,Zx,a]
   rw[rD e,b];show f
  .let a:¬q.1=k:=λz=>e (d.trans z)
   let b:valueAt (q::g) k=valueAt g k:=by simp[valueAt,Zx,a]
   rw[rL e,b];show j
def KV.any(r:KV YA vs)(k:X):(YA.any λb=>decide (b.1=k))=vs.any λb=>decide (b.1=k):=by
 unfold KV at r
 induction r with
 |nil=>rfl
 |cons h t a=>rw[aak,aak,a,h.1]
def KV.ahy(r:KV YA vs)(k:X)(b:RelV y u):
  KV (YA.map λc=>if c.1=k then(c.1,y)else c) (vs.map λc=>if c.1=k then(c.1,u)else c):=by
 unfold KV at r⊢
 induction r with
 |nil=>show .nil
 | @cons p q i g h t f=>
  rw[Yi,Yi];show .cons ?_ f;let(a,d):=h;by_cases e:p.1=k
  .rw[ax e,ax (a.symm.trans e)];show#[a,b]
  .rw[a6 e,a6 (λz=>e (a.trans z))];show#[a,d]
def KV.put(r:KV YA vs)(k:X)(a:RelV y u):KV (jJ YA k y) (stored vs k u):=by
 unfold jJ stored;rw[r.any k];by_cases e:(vs.any λb=>decide (b.1=k))=S
 .rw[ax e,ax e];show r.ahy k a
 .rw[a6 e,a6 e];show Paired.snoc r #[W,a]
def KV.drop(r:KV YA vs)(k:X):KV (nw YA k) (without vs k):=by
 unfold KV at r⊢;unfold nw without
 induction r with
 |nil=>show .nil
 | @cons p q l j h t i=>
  let(d,f):=h;rw[abe,abe];by_cases e:p.1=k
  .let a:¬decide (p.1≠k)=S:=by simp[e]
   let b:¬decide (q.1≠k)=S:=by simp[d.symm.trans e]
   rw[a6 a,a6 b];show i
  .let g:¬q.1=k:=λz=>e (d.trans z)
   let a:decide (p.1≠k)=S:=by simp[e]
   let b:decide (q.1≠k)=S:=by simp[g]
   rw[ax a,ax b];show .cons #[d,f] i
def KV.keys{b:G (X×T)}(r:KV YA b):YA.map (·.1)=b.map (·.1):=by
 unfold KV at r
 induction r with
 |nil=>rfl
 |cons h t a=>rw[Yi,Yi,a,h.1]
theorem KV.length(r:KV YA vs):YA.length=vs.length:=Paired.length r
theorem Hz(a:G (X×V))(k:X):(nw a k).length<=a.length:=ZF _ _
end
def tQ(r:RelV (kV k) u):(cR a w).is k u=S:=by
 cases k with
 |inl i=>let(t,e):=(show∃t,u=XY.int i t from r);subst e;show xK a w i t
 |inr x=>let(t,e):=(show∃t,u=XY.str x t from r);subst e;show wP a w x t
theorem tZ:∀{b:G cE} {us:G T},Vals (b.map kV) us->ItemsAre (cR a w) b us
 |[],_,r=>by rw[abk]at r;ext r;show .nil
 |k::b,_,r=>by
  rw[Yi]at r;cases r with
  |cons h t=>show .cons (tQ h) (tZ t)
abbrev KT(H:Hp):G (G cE×V)->G (G cE×J×T)->Prop:=Paired λp q=>p.1=q.1/\H q.2.1=R (.tup (p.1.map kV))/\RelV p.2 q.2.2
def KT.val(r:KT H YA xs)(k:G cE):abw (kK YA k) ((atKey xs k).map (·.2)):=by
 induction r with
 |nil=>show True.intro
 | @cons p q j g h t i=>
  let(d,_,f):=h;by_cases e:p.1=k
  .let a:=d.symm.trans e
   let b:atKey (q::g) k=R q.2:=by simp[atKey,Zx,a]
   rw[rD e,b];show f
  .let a:¬q.1=k:=λz=>e (d.trans z)
   let b:atKey (q::g) k=atKey g k:=by simp[atKey,Zx,a]
   rw[rL e,b];show i
def KT.ahy(r:KT H YA xs)(k:G cE)(d:RelV y u):
  KT H (YA.map λc=>if c.1=k then(c.1,y)else c) (xs.map (putAt k u)):=by
 induction r with
 |nil=>show .nil
 | @cons p q j i h t g=>
  rw[Yi,Yi];show .cons ?_ g;let(a,b,f):=h;ext putAt;by_cases e:p.1=k
  .rw[ax e,ax (a.symm.trans e)];show#[a,b,d]
  .rw[a6 e,a6 (λz=>e (a.trans z))];show#[a,b,f]
def KT.put(r:KT H YA xs)(k:G cE)(f:H b=R (.tup (k.map kV)))(a:RelV y u):
  KT H (jJ YA k y) (storedH xs k b u):=by
 let e:(YA.any λd=>decide (d.1=k))=(atKey xs k).isSome:=by rw[xH,(r.val k).ace,aeT]
 unfold jJ storedH;rw[e];by_cases q:(atKey xs k).isSome=S
 .rw[ax q,ax q];show r.ahy k a
 .rw[a6 q,a6 q];show Paired.snoc r #[W,f,a]
theorem KT.keeps(r:KT H YA xs)(a:∀b ys,H b=R (.tup ys)->H' b=R (.tup ys)):KT H' YA xs:=
 Paired.aaQ r λ_ _ z=>#[z.1,a _ _ z.2.1,z.2.2]
section
variable{P:Yr}{w:YJ}{H:Hp}{h:Heap}{a:X5}
theorem Mj(ok:HOk P w H h)(e:Rd H a u):ObjOk P w H h a u:=e.ok ok
theorem wD(ok:HOk P w H h)(e:Rd H a (.dK o)):o.length<=Yc/\(a==aag)=M/\∃b,KV o b/\h.DictOf (cR P w) a b:=
 show ObjOk P w H h a (.dK o)from Mj ok e
theorem xD(ok:HOk P w H h)(e:H a=R (.dK o)):o.length<=Yc/\(a==aag)=M/\∃b,KV o b/\h.DictOf (cR P w) a b:=wD ok (.inl e)
def vD{c:G cE}(ok:HOk P w H h)(e:H a=R (.tup (c.map kV))):(tupleKind (cR P w)).is h c a:=by let(_,g,r,o,f,(d,n,b),_):=(show ObjOk P w H h a (.tup (c.map kV))from ok a _ e);show#[o,g.toArray,n,f,d,b,by simpa using tZ r]
def xR(ok:HOk P w H h)(e:Rd H a (.dT C)):C.length<=Yc/\(a==aag)=M/\
  ∃xs,KT H C xs/\h.DictOfH (tupleKind (cR P w)) a xs:=by
 let(z,y,xs,r,o,es,n,j,i,g,f,d):=(show ObjOk P w H h a (.dT C)from Mj ok e);show#[z,y,xs,r,o,es,n,j,i,g,f,λx b=>?_,d];let all:∀{l:G (G cE×V)} {m:G (G cE×J×T)},KT H l m->∀x∈m,(tupleKind (cR P w)).is h x.1 x.2.1:=by
  intro l m q
  induction q with
  |nil=>intro x b;show nomatch b
  | @cons p q B A u t v=>
   intro x b;rcases Yg.mp b with e|b
   .subst e;show vD ok (by rw[<-u.1];show u.2.1)
   .show v x b
 show all r x b
theorem SD(ok:HOk P w H h)(e:H a=R (.dT o)):o.length<=Yc/\(a==aag)=M/\
  ∃xs,KT H o xs/\h.DictOfH (tupleKind (cR P w)) a xs:=xR ok (.inl e)
end
def adl(H:Hp)(a:J)(y:V)(r:z V):Prop:=
 (∃d k,Rd H a (.dK d)/\y=kV k/\r=kK d k)\/∃d k b,Rd H a (.dT d)/\y=.ref b/\H b=R (.tup (k.map kV))/\r=kK d k
def af0(H:Hp)(a:J)(y v:V)(d:Hp):Prop:=
 (∃e k,H a=R (.dK e)/\y=kV k/\e.length<Yc/\d=bj H a (.dK (jJ e k v)))\/
 ∃e k b,H a=R (.dT e)/\y=.ref b/\H b=R (.tup (k.map kV))/\e.length<Yc/\d=bj H a (.dT (jJ e k v))
theorem adl.k{k:cE}(e:H a=R (.dK YA)):adl H a (kV k) (kK YA k):=.inl #[YA,k,.inl e,W,W]
theorem af0.k{k:cE}(e:H a=R (.dK YA))(b:YA.length<Yc):af0 H a (kV k) v (bj H a (.dK (jJ YA k v))):=.inl #[YA,k,e,W,b,W]
section
variable{X:Cx}{Z:cc (X5×Obj)}{Y:St}{H:Hp}{s:X3}{a:X5}{y v:V}{u r:XY}{o:ck V}{A:YC}{E:XY->X3->Prop}
def Inv.big(I:Inv X Z Y H s):aag<s.heap.objs.size:=by let h:=(I.mod.glob.keeps I.bk).lt;show aav () h
def Ck{Q:T->X3->Prop}(q:A.units+1<cLine)(I:Inv X Z Y H s)(g:adl H a y (R v))(n:RelV y u)(h:∀c w,Inv X Z Y H w->RelV v c->Q c w):
  wpAny (model X.prog X.w) A (getItem (.ref a) u) Q E s:=by
 rcases g with⟨N,k,e,m,l⟩|⟨N,k,b,e,m,C,l⟩
 .subst m;let(z,B,L,f,dd):=wD I.Zl e;let(c,i,d):=abw.some_of (v:=v) (o:=valueAt L k) (by rw[l];show f.val k);show wpAny_getItem_of (tQ n) dd.mapOf i (h c _ (I.tok _) d)
 .subst m;cases(show u=XY.ref b from n);let(z,B,xs,f,dd):=xR I.Zl e;let(c,i,d):=abw.some_of (v:=v) (o:=(atKey xs k).map (·.2)) (by rw[l];show f.val k);let(p,t,j):=adK.mp i;show wpAny_getItem_heap (acE q) (vD I.Zl C) dd t ?_;rw[j];show h c _ (I.tok _) d
def Vx{Q:T->X3->Prop}(m:A.units+1<cLine)(I:Inv X Z Y H s)(g:adl H a y o)(j:RelV y u)(h:∀c,Inv X Z Y H c->Q (.bool o.isSome) c):
  wpAny (model X.prog X.w) A (Y9 .In u (.ref a)) Q E s:=by
 rcases g with⟨p,k,e,i,l⟩|⟨p,k,b,e,i,n,l⟩
 .subst i;let(z,f,t,d,dd):=wD I.Zl e;show wpAny_in_of (tQ j) f dd.mapOf ?_;rw[<-(d.val k).ace,<-l];show h _ (I.tok _)
 .subst i;cases(show u=XY.ref b from j);let(z,f,xs,d,dd):=xR I.Zl e;show wpAny_in_heap (acE m) (vD I.Zl n) f dd ?_;let q:=(d.val k).ace;rw[aeT]at q;rw[<-q,<-l];show h _ (I.tok _)
theorem vV{c:Heap}{j:Nat}{d:HO}(I:Inv X Z Y H s)(f:SI (H a))(g:Heap.SameBut a s.heap c)(h:∃q,c.get? a=R q)(new:ObjOk X.prog X.w (bj H a d) c a d):
  Inv X Z Y (bj H a d) {s with heap:=c,toks:=j}:=
 I.write (x:=a) (e:=a) f (.inl W) (λb q i z=>(g.2 b i).trans z) h new
theorem zy(z:I.length<=Yc)(hd:(a==aag)=M)(b:KV I C)(dd:U.DictOf (cR d w) a C):
  ObjOk d w H' U a (.dK I):=#[z,hd,C,b,dd]
def Cj{K:Hp}{Q:Unit->X3->Prop}(L:A.units+1<cLine)(I:Inv X Z Y H s)(g:af0 H a y v K)(C:RelV y u)(D:RelV v r)(h:∀x,Inv X Z Y K x->Q ⟨⟩ x):
  wpAny (model X.prog X.w) A (setItem (.ref a) u r) Q E s:=by
 rcases g with⟨w,k,e,t,l,B⟩|⟨w,k,b,e,t,J,l,B⟩
 .subst t B
  let(z,p,U,d,dd):=xD I.Zl e;let j:U.length<=Yc:=by rw[<-d.length];show z
  let n:(jJ w k v).length<=Yc:=by let:=kW w k v;ext
  show wpAny_setItem_pairs (hsz:=j) (tQ C) dd λF f m=>h _ ?_;let M:∃q,F.get? a=cL q:=let#[q,_,_,i,_]:=f;#[q,i]
  show vV I (by rw[e];show True.intro) m M (zy n p (d.put k D) f)
 .subst t B
  cases(show u=XY.ref b from C);let(z,p,xs,d,dd):=SD I.Zl e;let j:xs.length<=Yc:=by rw[<-Paired.length d];show z
  let n:(jJ w k v).length<=Yc:=by let:=kW w k v;ext
  show wpAny_setItem_heap (hsz:=j) (acE L) (vD I.Zl J) dd λF f m=>h _ ?_;let(q,es,S,i,R,P,O,_,N):=f;show vV I (by rw[e];show True.intro) m #[q,i] #[n,p,_,(d.put k J D).keeps λc T G=>?_,q,es,S,i,R,P,O,N];rw[aQ (ST G e (λz=>nomatch z))];show G
end
section
variable{X:Cx}{Z:cc (X5×Obj)}{U:St}{H:Hp}{s:X3}{a:X5}{Y:cc (cE×V)}{k:cE}{u:XY}{A:YC}{E:XY->X3->Prop}
def Tb{v:V}{b:G T}{Q:T->X3->Prop}(I:Inv X Z U H s)(e:H a=R (.dK Y))(g:RelV (kV k) u)(l:kK Y k=R v)(hm:b=[]\/∃x,b=[x])
  (h:∀c C,Inv X Z U (bj H a (.dK (nw Y k))) C->RelV v c->Q c C):wpAny (model X.prog X.w) A (call (.builtin "dict.pop") (.ref a::u::b)) Q E s:=by
 let(z,y,w,d,dd):=xD I.Zl e;let(c,m,j):=abw.some_of (v:=v) (o:=valueAt w k) (by rw[<-l];show d.val k);let p:(keyPart u).isSome=S:=by
  cases k with
  |inl i=>let(t,q):=(show∃t,u=XY.int i t from g);subst q;rfl
  |inr x=>let(t,q):=(show∃t,u=XY.str x t from g);subst q;rfl
 let N:argsOk "dict.pop" #[.ref a::u::b,[]]:=by
  rcases hm with q|⟨x,q⟩
  .subst q;show PySem.F.args_dict_pop_2 _ _
  .subst q;show PySem.F.args_dict_pop_3 _ _ _
 show call_meetsIn adL dd.typeIs PySem.F.entry_dict_pop N (meets_dict_pop_there (cR X.prog X.w) a (tQ g) b hm p)
  #[w,c,dd,by rw[<-d.length];show z,m,λB f n=>h c _ ?_ j]
 let r:∃q,B.get? a=R q:=let#[q,_,_,L,_]:=f;#[q,L]
 show vV I (by rw[e];show True.intro) n r (zy (YN (Hz Y k) z) y (d.drop k) f)
end
def T8(i:Yo):Prop:=∀a b,subscripted i M a b=operate [a,b] (getItem a b)
def Ig{T id:String}
  (l:typeLookup (.type T) "__getitem__"=pure (R (.builtin id))) (j:T8 slice)
  (h:wpAny (model prog w) A (eval value env) (λo k=>wpAny (model prog w) A (eval slice env) (λi c=>c.TypeIs o T/\wpAny (model prog w) A (getItem o i) Q E c) E k) E s):
  wpAny (model prog w) A (eval (.Subscript value slice pos) env) Q E s:=by
 show Subscript_ (wpAny_mono h (λo k f=>wpAny_mono f (λi c a=>?_) λ_ _ x=>x) λ_ _ x=>x);let(g,a):=a;ext subscriptTail;show XW ?_;rw[getitemInPython_of_ne g.not_modules];show XW (ajo g l ?_);let d:wpAny (model prog w) A (subscripted slice M o i) (λr b=>wpAny (model prog w) A (letTemporaryGo value o r>>=λ_=>pure r) Q E b) E c:=by rw[j o i];show wpAny_operating (wpAny_mono a (λr b e=>XW (wpAny_letTemporaryGo (X8 e))) λ_ _ x=>x)
 first
  |show X8 (XW d)
  |show XW (X8 (XW d))
  |show XW d
def wv(I:Inv X pins σ H s)(g:adl H a y o):s.TypeIs (.ref a) "dict":=by
 rcases g with⟨d,k,e,_,_⟩|⟨d,k,b,e,_,_,_⟩
 .let(_,_,f,_,dd):=wD I.Zl e;show dd.typeIs
 .let(_,_,xs,_,dd):=xR I.Zl e;show dd.typeIs
def Nk(e ty:TE):TE:=λb H Q=>e b H λx f=>ty b f λy d=>∃a v,x=.ref a/\adl d a y (R v)/\Q v d
def UB(ty e:TE):TE:=λb H Q=>ty b H λy f=>e b f λx d=>∃a o,x=.ref a/\adl d a y o/\Q (.bl o.isSome) d
def NB(e ty d:TE):TS:=λD b H=>d b H λv h=>e b h λx g=>ty b g λy f=>∃a i,x=.ref a/\af0 f a y v i/\D.nx b i
section
variable{X:Cx}{o i e Z:Yo}{U Y ak1:Pos}{S T tv:TE}
def LW(r:X.A.units+1<cLine)(w:PE X o S)(c:PE X i T)(t:T8 i):PE X (.Subscript o i U) (Nk S T):=by intro b s f H Q I h;show Ig PySem.F.slot_dict_getitem.lookup t (b9 (w b s f H _ I h) λu l #[x,G,C,n,q]=>b9 (c b l f G _ C q) λM L #[y,E,j,m,a,v,z,g,p]=>?_);subst z;obtain rfl:=n;show#[wv j g,Ck r j g m λJ K B d=>#[v,E,B,d,p]]
def GU(q:X.A.units+1<cLine)(c:PE X i T)(r:PE X o S):PC X .In i o (UB T S):=by intro b s d H Q I h;show b9 (c b s d H _ I h) λG f #[y,C,z,j,n]=>b9 (r b f d C _ z n) λu F #[x,B,w,l,a,p,t,g,m]=>?_;subst t;obtain rfl:=l;show Vx q w g j λE v=>#[.bl p.isSome,B,v,W,m]
def K0(w:X.A.units+1<cLine)(B:PE X o S)(c:PE X i T)(t:PE X Z tv)(z:aaw Z (R (.Subscript o i Y)) U.line X.env=pure XZ):
  PS X (.Assign [.Subscript o i Y] Z U) (NB S T tv):=by
 intro b s d H D I h;show wpAny_Assign_Subscript (b9 (t b s d H _ I h) λr j #[v,Mz0,A,rv,q]=>b9 (B b j d Mz0 _ A q) λu f #[x,L,G,m,p]=>b9 (c b f d L _ G p) λP O #[y,Q,F,l,a,K,C,g,n]=>?_) z;subst C;obtain rfl:=m;show Cj w F g l rv λN E=>#[d,K,E,n]
end
def oN(c a:G (cE×V)):G (cE×V):=a.foldl (λb d=>jJ b d.1 d.2) c
def KV.merge:∀{a:G (cE×V)} {b:G (cE×T)} {d:G (cE×V)} {c:G (cE×T)},KV a b->KV d c->KV (oN d a) (merged c b):=by
 intro a b d c r;unfold KV at r
 induction r generalizing d c with
 |nil=>intro q;show q
 | @cons p q i g h t f=>
  intro r0;let e:KV (jJ d p.1 p.2) (stored c q.1 q.2):=by let:=r0.put p.1 h.2;rw[<-h.1];show this
  show f e
theorem mB:∀(a c:G (cE×V)),(oN c a).length<=c.length+a.length
 |[],c=>by show c.length<=c.length+0;ext
 |p::r,c=>by let d:=mB r (jJ c p.1 p.2);let b:=kW c p.1 p.2;show(oN (jJ c p.1 p.2) r).length<=_;rw[Yf];ext
structure M1(X:Cx)(o:Yo)(m:Str)(apos:Pos)(e:Yo)(aaP:Pos):Prop where
 base:attributeBase o m X.env (eval o X.env)=eval o X.env
 few:((backTo aaP (Yp [e] X.env)).all (λx=> !x.1)&&(backToKw aaP (keywordEach [] X.env)).all (λx=>x.1.isSome)
  &&decide (([e]:G Yo).length+([]:G aa0).length+(if([]:G aa0).isEmpty then 0 else 1)<30))=S
 line:(apos.endLine==aaP.line)=S
 trees:backTo aaP (Yp [e] X.env)=[(M,eval e X.env)]
structure M2(X:Cx)(o:Yo)(m:Str)(apos:Pos)(e f:Yo)(aaP:Pos):Prop where
 base:attributeBase o m X.env (eval o X.env)=eval o X.env
 few:((backTo aaP (Yp [e,f] X.env)).all (λx=> !x.1)&&(backToKw aaP (keywordEach [] X.env)).all (λx=>x.1.isSome)
  &&decide (([e,f]:G Yo).length+([]:G aa0).length+(if([]:G aa0).isEmpty then 0 else 1)<30))=S
 line:(apos.endLine==aaP.line)=S
 trees:backTo aaP (Yp [e,f] X.env)=[(M,eval e X.env),(M,eval f X.env)]
def Wd(H:Hp)(a:J):Prop:=(∃b,Rd H a (.dK b))\/∃b,Rd H a (.dT b)
def Rq(I:Inv X pins σ H s)(d:Wd H a):
  s.TypeIs (.ref a) "dict"/\(∀b,XY.ref a=.ref b->∃c,s.heap.get? b=R c/\c.dict=P)/\(a==aag)=M:=by
 rcases d with⟨i,e⟩|⟨i,e⟩
 .let(_,f,j,_,dd):=wD I.Zl e;show#[dd.typeIs,λb q=>?_,f];ext q;let(c,_,_,h,g,_):=dd;show#[c,h,g.2.1]
 .let(_,f,xs,_,dd):=xR I.Zl e;show#[dd.typeIs,λb q=>?_,f];ext q;let(c,_,_,h,g,_):=dd;show#[c,h,g.2.1]
def Gj(f ty:TE):TE:=λb H Q=>f b H λx e=>∃a,x=.ref a/\Wd e a/\ty b e λy d=>∃g k v,d a=R (.dK g)/\y=kV k/\kK g k=R v/\Q v (bj d a (.dK (nw g k)))
section
variable{X:Cx}{o e f:Yo}{Z Y:Pos}{U ty tx:TE}
def EB(A:PE X o U)(B:PE X e ty)(m:M1 X o "pop" Z e Y):PE X (.Call (.Attribute o "pop" Z) [e] [] Y) (Gj U ty):=by intro b s i H Q I h;show wpAny_Call_method m.base m.few m.line ac6 adL PySem.F.type_dict_pop (b9 (A b s i H _ I h) λu q #[x,L,j,t,a,E,d,z]=>?_);subst E;obtain rfl:=t;let(p,n,_):=Rq j d;show#[p,n,?_];rw[m.trees];show Calls.callWith_builtin W (Calls.evalArgs_plain (Calls.spliced_cons (b9 (B b q i L _ j z) λP O #[y,F,K,r,YA,k,v,G,C,l,w]=>Calls.spliced_nil ?_)));subst C;show Tb K G r l (.inl W) λM N J g=>#[v,_,J,g,w]
end
end L2
namespace L4
open PySem PySem.Spec PyProof.Rows L2 L3
def SY(h:Heap)(e:J)(c:XY)(i:z J)(a:XY)(hd:z J):Prop:=
 ∃d fs,h.get? e=R d/\d.cls=c/\d.dict=i/\d.data=.fields fs/\fs[0]?=R a/\
  match hd with
  |none=>fs[1]?=R .none
  |some b=>fs[1]?=R (.ref b)/\b≠e/\∃g f,h.get? b=R g/\g.data=.fields f/\f[3]?=R .none
structure Lft(l:G Env)(e:J)(hd:z J)(h h':Heap):Prop where
 keep:∀b o,h.get? b=R o->b≠e->hd≠R b->b∉zj l->h'.get? b=R o
 slot:∀b o,h.get? b=R o->b≠e->hd≠R b->∃sl,h'.get? b=R {o with slots:=sl}
 here:∀b o,h.get? b=R o->∃o',h'.get? b=R o'
section
variable{M:Model}{A:YC}{E:XY->X3->Prop}{s:X3}
def r9
  (I:A.frames=R (env::outer)) (B:s.heap.FunFrames base (env::outer)) (H:env.frame=R L) (C:s.heap.get? e=R U) (p:U.data=.fields fs) (m:1<fs.size) (J:fs[0]?=R a0)
  (k:∀D T,s.heap.objs.size<=T->SY D e U.cls U.dict a0 (R T)->Lft (env::outer) e CL s.heap D->Q ⟨⟩ {s with heap:=D}):
  wpAny M A (frameOf env>>=λfr=>entryPlaceOf L nx>>=λpl=>EntryCells.newEntry hv fr .none (rawInt L) .none pl>>=λb=>setField (.ref e) 1 b) (λ_ V=>wpAny M A (setFlight (.ref e) CL) Q E V) E s:=by
 let j:e∉(env::outer).filterMap (·.frame):=λz=>by let(_,o,q,n):=B.mem z;rw[C]at q;ext q;show n fs p
 show XW (wpAny_frameOf_fun I B H λa S=>?_);show XW (wpAny_entryPlaceOf λpl P=>?_);unfold EntryCells.newEntry newFields;show XW (Ze ?_ (P.sizeOk5 _ _ _ _ _));let y:=(S.2.1 e j).trans C;generalize X:({cls:=.type "traceback",dict:=CL,data:=.fields ([hv,.ref L,.none,rawInt L,.none]++(if pl.isEmpty then X1 6 XY.none else pl)).toArray}:Obj)=N;let g:N.data=.fields ([hv,.ref L,.none,rawInt L,.none]++(if pl.isEmpty then X1 6 XY.none else pl)).toArray:=by rw[<-X]
 let K:=dN g;let w:=cn N y;show aba w p m ?_;let l:=Y1 (cv y);let r:=dt p (·.setIfInBounds 1 (XY.ref a.objs.size));let i:=da (Obj.mapFields (·.setIfInBounds 1 (XY.ref a.objs.size))) w (dN r)
 let u:=
  (c6 (a.push N) (Obj.mapFields (·.setIfInBounds 1 (XY.ref a.objs.size))) l.symm).trans (c5 a K)
 ext setFlight;show XW (Y2 i r (x:=.ref a.objs.size) (by simp[m]) ?_);rw[ax (show(XY.ref a.objs.size !=XY.none)=XX from by simp)];let t:3<([hv,.ref L,.none,rawInt L,.none]++(if pl.isEmpty then X1 6 XY.none else pl)).toArray.size:=by simp only[Yd,Yb,Yf,ZZ];ext
 show aba u g t ?_;let v:=c6 ((a.push N).update e (Obj.mapFields (·.setIfInBounds 1 (XY.ref a.objs.size)))) (Obj.mapFields (·.setIfInBounds 3 ((CL:ck X5).elim XY.none λf=>rawInt f))) l;let F:=da (Obj.mapFields (·.setIfInBounds 3 ((CL:ck X5).elim XY.none λf=>rawInt f))) u (dN (dt g _));let acr:∀b o,b≠e->a.get? b=R o->(((a.push N).update e (Obj.mapFields (·.setIfInBounds 1 (XY.ref a.objs.size)))).update a.objs.size (Obj.mapFields (·.setIfInBounds 3 ((CL:ck X5).elim XY.none λf=>rawInt f)))).get? b=R o:=λb o ne q=>by rw[c6 _ _ (Y1 (cv q)),c6 _ _ ne.symm];show cn N q
 show k _ a.objs.size (by rw[S.1];show X6 _) #[_,_,v.trans i,Obj.cls_mapFields _ _,?_,r,?_,?_,l,_,_,F,dt g _,?_] #[λb o q ne _ G=>acr b o ne ((S.2.1 b G).trans q),λb o q ne _=>?_,λb o q=>?_]
 .cases U with
  |mk c d O h=>ext O<;>rfl
 .rw[Array.getElem?_setIfInBounds_ne ()];show J
 .simp[m]
 .rw[Array.getElem?_setIfInBounds_self_of_lt t];rfl
 .let(h,z):=S.2.2 b o q;show#[h,acr b _ ne z]
 .by_cases ne:b=e
  .subst ne;show#[_,v.trans i]
  .let(h,z):=S.2.2 b o q;show#[_,acr b _ ne z]
def Ch
  (v:A.frames=R (env::outer)) (u:s.heap.FunFrames base (env::outer)) (h:env.frame=R L) (F:SY s.heap e c dx a0 hd)
  (k:∀x T,s.heap.objs.size<=T->SY x e c dx a0 (R T)->Lft (env::outer) e hd s.heap x->Q ⟨⟩ {s with heap:=x}):wpAny M A (leaving env (.ref e)) Q E s:=by
 let(N,fs,q,I,H,d,w,r):=F;subst I H;cases hd with
 |none=>let r:=r;unfold leaving noteFrame;simp only[h];show XW (XW (Y2 q d r ?_));rw[a6 ()];show r9 v u h q d (aaN.mp r).1 w k
 |some T=>
  let(r,C,O,B,g,dT,p):=r;unfold leaving noteFrame;simp only[h];show XW (XW (Y2 q d r ?_));rw[ax (show(XY.ref T !=XY.none)=S from by simp)];show XW (Y2 g dT p ?_);rw[a6 (show¬((XY.none==rawInt L)=S)from by simp[rawInt])];show XW (aba g dT (aaN.mp p).1 ?_);let a:∀b,b≠T->(s.heap.update T (Obj.mapFields (·.setIfInBounds 3 XY.none))).get? b=s.heap.get? b:=λb ne=>c6 _ _ ne.symm;let f:=da (Obj.mapFields (·.setIfInBounds 3 XY.none)) g (dN (dt dT _));let m:∀b o,s.heap.get? b=R o->(∀U,o.data≠.fields U)->b≠T:=λb o z n y=>by rw[y,g]at z;ext z;show n B dT
  show r9 v (u.of_keeps λb o z n=>#[o,(a b (m b o z n)).trans z,W]) h ((a e C.symm).trans q) d (aaN.mp r).1 w λx J t K i=>k x J (by rw[Heap.size_after_update]at t;show t) K #[λb o z l j G=>?_,λb o z l j=>?_,λb o z=>?_]
  .show i.keep b o ((a b λy=>j (by rw[y])).trans z) l (by simp) G
  .show i.slot b o ((a b λy=>j (by rw[y])).trans z) l (by simp)
  .by_cases y:b=T
   .subst y;show i.here b _ f
   .show i.here b o ((a b y).trans z)
end
theorem Lft.Zl{P:Yr}{w:YJ}{l:G Env}{e:J}{hd:ck J}{H:Hp}{h k:Heap}(L:Lft l e hd h k)(j:HOk P w H h)(ne:H e=CL)(g:∀T,hd=R T->H T=CL)(i:∀b∈zj l,H b=CL):HOk P w H k:=λb u q=>by
 let free:∀c v,H c=R v->c≠e/\hd≠R c/\c∉zj l:=λc v z=>#[(λy=>by rw[y,ne]at z;ext z),(λy=>by rw[g c y]at z;ext z),(λy=>by rw[i c y]at z;ext z)];show(j b u q).acr (λc v m z=>?_) (λ_ z=>z) λ_ _ z=>z;rcases m with y|y
 .rw[y]at z⊢;let(f,d,a):=free b u q;show L.keep b v z f d a
 .let(f,d,a):=free c _ y;show L.keep c v z f d a
def Hn(P:Yr)(w:YJ):we:=λa H s E x b=>
 ∃e c f a0 T d,x=.ref e/\s.heap.get? e=CL/\s.heap.get? T=CL/\SY b.heap e c f a0 (R T)/\d e=CL/\d T=CL/\
  b.os=s.os/\AllBare b.gens/\Un (zj a) [] H d s.heap b.heap/\HOk P w d b.heap/\E c f d
def TF{P:Yr}{w:YJ}{K:lD}{x:Str->ck XY}{base:Heap}{N:cc Str}{h:Str}{a:ZO}{f:X5}{u:XY}{A:YC}{outer:cc Env}{d:X3}{C:Hp}{E:XK}
  {j:cc (X5×Obj)} {G:L2.St} {H:Hp} {s:X3} {e:X5} {c v:XY} {k hd:ck X5} (I:L2.Inv (me (Hn P w) P w K x base N h a f u A outer d C E) j G H s)
  (F:SY s.heap e c k v hd) (t:d.heap.get? e=CL) (R:∀T,hd=cL T->d.heap.get? T=CL) (ne:H e=CL) (O:∀T,hd=cL T->H T=CL) (q:E c k H):
  (me (Hn P w) P w K x base N h a f u A outer d C E).xe (.ref e) s:=by
 let Y:=I.ok.frames;let X:=I.stack;show Ch (L:=d.heap.objs.size) Y X W F λh' T r Z L=>?_;let Q:=L.Zl I.Zl ne O I.ads;let U:H T=CL:=I.Zl.fresh r;let m:∀b o,d.heap.get? b=cL o->b<d.heap.objs.size:=λb o z=>cv z;let g:∀b o,d.heap.get? b=cL o->b≠e/\hd≠cL b:=λb o z=>#[(λy=>by rw[y,t]at z;ext z),(λy=>by rw[R b y]at z;ext z)];let sz:=I.sz;show#[e,c,k,v,T,H,W,t,Heap.get?_none_of_le (YN sz r),Z,ne,U,I.os,I.bare,?_,Q,q];let B:=I.base;show#[λb o z n p _=>?_,λb o z n S _=>?_,λb o z n _=>?_,λb o z _=>?_,B.adx,B.ac1,B.adD]
 .let i:=B.keep b o z n p (λy=>nomatch y)
  show L.keep b o i (g b o z).1 (g b o z).2 λy=>?_;rcases Yg.mp (I.adj b y)with y|y
  .let y:b=d.heap.objs.size:=y;show b4 (m b o z) (by rw[y];show Zc _)
  .show p y
 .let(sl,i):=B.slot b o z n S (λy=>nomatch y);let(l,J):=L.slot b _ i (g b o z).1 (g b o z).2;show#[l,J]
 .show B.free b o z n (λy=>nomatch y)
 .let(M,i):=B.there b o z (λy=>nomatch y);show L.here b M i
def EJ{P:Yr}{w:YJ}{K:lD}{k:Str->ck XY}{base:Heap}{N:G Str}{d:Str}{a:ZO}{f:J}{l:XY}{A:YC}{outer:G Env}{h:X3}{p:Hp}{E:XK}:
  eA (Hn P w) (me (Hn P w) P w K k base N d a f l A outer h p E) E:=by
 rintro j r H s x t I ⟨e,c,Q,v,T,B,rfl,le,L,F,ne,C,os,bare,un,Zl,q⟩;let n:=I.agZ (ch:=[]) os un Zl bare (λb z=>nomatch z);let g:∀b,s.heap.get? b=CL->h.heap.get? b=CL:=λb z=>by
  cases y:h.heap.get? b with
  |none=>rfl
  |some o=>let(u,i):=I.base.there b o y (λy=>nomatch y);rw[z]at i;ext i
 show TF n F (g e le) (λm z=>by ext z;show g T L) ne (λm z=>by ext z;show C) q
section
variable{P:Yr}{w:YJ}{K:lD}{C:Str->ck XY}{L:Heap}{N:cc Str}{I:Str}{U:ZO}{f:X5}{B:XY}{A:YC}{Q:cc Env}{y:X3}{v:Hp}{E:XK}{u:we}
  {t:L2.St} {H:Hp} {s:X3} {r:Heap} {X:Cx}
end
def Sq(K:lD)(C:J)(m:G T):Prop:=∃nm q N bs hd sn sub a col dd k0 k1 k2 k3 k5 id,K.lookup C=R (excClassObj nm q C N bs m hd sn sub a col dd k0 k1 k2 k3 k5 id)
structure Apart(X:Cx)(a:J):Prop where
 n0:X.s₀.heap.get? a=P
 nL:a≠X.env.locals
 nC:∀y c,X.env.cells.lookup y=R c->c≠a
 nP:∀p∈X.pn,p.1≠a
end L4
namespace L4
open PySem PySem.Spec PySem.W PyProof.Rows L2 L3
section
variable{X:Yr}{w:YJ}{A:YC}{E:XY->X3->Prop}{h:Heap}{g:Array aee}{d:Drawn}{t:Nat}{Q:OsState}{a C:X5}{o:Obj}{K:lD}
  {N L:Str} {I:X5} {b1 B:cc XY} {d1:Bool} {y:cc Str} {v:cc XY} {u:Bool} {r:ck Bool} {q:ck X5} {p n l j i:ck XY} {U:String}
structure aks(K:lD)(C:J)(m:G T):Prop where
 cl:Sq K C m
 be:m.contains (.type "BaseException")=S
 ga:findIn K (.ref C) "__getattribute__"=R (R (.builtin "BaseException.__getattribute__"))
 gt:findIn K (.ref C) "__getattr__"=R P
 cs:findIn K (.ref C) "__class__"=R (R (.builtin "object.__class__"))
 ob:mroIn K C (.type "object")=R S
end
end L4
namespace PySem
open Sem (wp)
open PyProof.Rows
section
variable{U:Yr}{w:YJ}{A:YC}{E:XY->X3->Prop}{s:X3}{t:X5}{X:Array (Int×Tok)}
def wT{Q:T->X3->Prop}(f:s.heap.IsTuple t (intItems X))
  (h:∀s2:X3,s2={s with heap:=s.heap.push {cls:=.type "tuple_iterator",data:=.fields #v[.ref t,.int 0 0]}}->
   (s2.heap.IsTupleIter s.heap.objs.size t 0/\s2.heap.IsTuple t (intItems X))->(∀b∈[s.heap.objs.size,t],b<s2.heap.objs.size)->t≠s.heap.objs.size->Q (.ref s.heap.objs.size) s2):
  wpAny (model U w) A (pyIter (.ref t)) Q E s:=by
 let a:t<s.heap.objs.size:=by let(_,e,_):=f;show cv e
 show ZD f (h _ W #[#[_,c5 _ W,W,W],f.push _] (λb d=>?_) (Yk a));show b<(s.heap.push _).objs.size;rw[dg];rcases Yg.mp d with rfl|d
 .show ZU _
 .rcases Yg.mp d with rfl|d
  .show ZM a
  .ext d
theorem B9{c:Heap}(a:∀b o,b∉[s.heap.objs.size]->(s.heap.push {cls:=.type "tuple_iterator",data:=.fields #v[.ref t,.int 0 0]}).get? b=R o->c.get? b=R o):
  ∀b o,s.heap.get? b=R o->c.get? b=R o:=λb o e=>by
 show a b o (λhm=>?_) (cn _ e);rcases Yg.mp hm with e1|hm
 .show b4 (e1▸cv e) (Zc _)
 .ext hm
def y9{Q:T->X3->Prop}(n:A.handled=P)(l:s.heap.IsTuple t (intItems X))(a:0<X.size)
  (h:∀v c k,(intItems X)[argBest (λi j=>decide (numAt X i>numAt X j)) (X.size - 1)]?=R v->(∀b o,s.heap.get? b=R o->c.get? b=R o)->Q v {s with heap:=c,toks:=k}):
  wpAny (model U w) A (call (.builtin "max") [.ref t]) Q E s:=by
 show call_max_walk (wT l λq e g f d=>?_);subst e;show#[_,_,_,_,_,_,_,W,adI.tuple (A:=A.in1) n _ t d (intItems X),g,f,by simpa [intItems]using a,CmpOf.ints_gt (numAt X) (λ_ _=>agk),λv c k p m=>?_];show h v c k (by simpa [intItems]using p) (B9 m)
def Ek{x:G T}{ns:G Int}{Q:T->X3->Prop}(q:A.handled=P)(i:s.heap.IsTuple t x.toArray)(B:IntsAre x ns)(g:0<ns.length)
  (h:∀k M (u:Tok) c,(∀b o,s.heap.get? b=R o->k.get? b=R o)->M∈ns->(∀a,a∈ns->a<=M)->Q (.int M u) {s with heap:=k,toks:=c}):
  wpAny (model U w) A (call (.builtin "max") [.ref t]) Q E s:=by
 let(X,e):=B.allInts.items;let d:ns=X.toList.map (·.1):=by rw[<-B.numsOf,<-ama,<-e]
 let f:0<X.size:=by let l:=g;rw[d,X4,YU]at l;show l
 rw[e]at i;show y9 q i f λv k c m n=>?_;let(t,rfl):=agk m;let(y,r):=argBest_gt (numAt X) (X.size - 1);show h _ _ t c n ?_ λa C=>?_
 .rw[d,agl];show getD_mem (by rw[X4,YU];ext)
 .rw[d]at C;let(j,p,rfl):=mem_getD C;rw[X4,YU]at p;rw[<-agl];show r j ()
end
end PySem
namespace L3
open PySem PySem.Spec PyProof.Rows L2
def Nn(K:lD):G V->Hp->VK->Prop:=λxs H Q=>∃(a:J) (b:G Int),xs=[.ref a]/\SqT K H a (b.map V.int)/\0<b.length/\∀M,M∈b->(∀i,i∈b->i<=M)->Q (.int M) H
def Cr{X:Cx}(i:X.calm=S):ZS X (.builtin "max") (Nn X.K):=by intro b s m H xs n Q I r h;let(a,p,rfl,e,w,q):=h;let(u,rfl,r1):=gu r;ext r1;let(v,d,f,_):=I.tuple e;show Ek (I.ok.hd i) f (iY d) w λt M u o g l j=>#[.int M,H,I.kept g,#[_,W],q M l j]
def HD:G Int->Int
 |[]=>0
 |[a]=>a
 |a::r=>if HD r<=a then a else HD r
theorem DQ:∀{ns:G Int},0<ns.length->HD ns∈ns/\∀i,i∈ns->i<=HD ns
 |[a],_=>#[X9,λi h=>by rw[Yh.mp h];show aa5 _]
 |a::b::r,_=>by
  let(e,d):=DQ (ns:=b::r) (by rw[Yf];ext);show(if HD (b::r)<=a then a else HD (b::r))∈a::b::r/\∀i,i∈a::b::r->i<=(if HD (b::r)<=a then a else HD (b::r));by_cases q:HD (b::r)<=a
  .rw[ax q]
   show#[X9,λi h=>?_];rcases Yg.mp h with z|z
   .omega
   .let:=d i z;ext
  .rw[a6 q]
   show#[Ya _ e,λi h=>?_];rcases Yg.mp h with z|z
   .omega
   .show d i z
def t8:G D->z RV
 |[.tuple ds]=>(match mH ds with
  |some a=>if 0<a.length then R (.fz (.int (HD a)))else P
  |none=>P)
 |_=>P
def LG{K:lD}:wj K (Nn K) t8:=by
 intro O H xs ds r Q n i e q;unfold t8 at e;split at e
 .split at e
  .rename_i b h
   split at e
   .rename_i o
    ext e;cases i with
    |cons l j=>ext j;let(a,p,rfl,d,m):=Dg l;rw[lW m h]at d;show#[a,b,W,d.1,o,λM g f=>?_];let(k1,k2):=DQ o;let:M=HD b:=agM (k2 M g) (f _ k1);subst this;show q.at (.int _)
   .ext e
  .ext e
 .ext e
end L3
namespace L3
open PySem PySem.Spec PyProof.Rows L2
section
variable{K:lD}{E:XK}
end
end L3
namespace L9
open PySem PySem.W PyProof.Rows Builtin Builtin.ObjectAttr
abbrev Wj:G T:=[.type "ValueError",.type "Exception",.type "BaseException",.type "object"]
end L9
namespace L9
open PySem PySem.Spec PyProof.Rows L2
structure XC(K:lD)(C B fI:J):Prop where
 obj:∃nm q N bs sn sub ab col dd k0 k1 k2 k3 k5,K.lookup C=R (excClassObj nm q C N bs (.ref B::Wj) S sn sub ab col dd k0 k1 k2 k3 k5 "ValueError.__new__")/\PySem.W.nsOkIn K N=S/\Yt K N "__init__"=R (R (.ref fI))
 base:acO K B Wj "ValueError.__new__"=S
 sa:YZ K (.ref C) "__setattr__"=R (R (.builtin "object.__setattr__"))
end L9
namespace L9
open PySem PySem.Spec PySem.W PyProof.Rows L2 L3 L4
section
variable{X:Yr}{w:YJ}{A:YC}{E:XY->X3->Prop}{h:Heap}{g:Array aee}{d:Drawn}{t:Nat}{N:OsState}{a C:X5}{o:Obj}{K:lD}{L:ck Obj}{U:Str}{v:XY}
  {I B:Str} {y:X5} {b1 u:cc XY} {d1:Bool} {r:cc Str} {q:cc XY} {p:Bool} {n:ck Bool} {m:ck X5} {l j i f e:ck XY} {Q:String}
end
end L9
namespace L3
open PySem PySem.Spec PyProof.Rows L2
mutual
def V5:X2->Bool
 |.tuple ds=>Ri ds
 |.int _=>XX
 |.str _=>XX
 |.bool _=>XX
 |.none=>XX
 |_=>XZ
def Ri:cc X2->Bool
 |[]=>XX
 |d::r=>V5 d&&Ri r
end
section
variable{K:lD}{E:XK}{B:bG}{X:Hp}{O Z:bG}{U:L2.St}{H Q:Hp}{N:aU}
def JB(h:SqT K H a xs)(l:H a=R (.lst ys)):SqT K (λ_=>P) a xs:=by
 rcases h with(h|⟨o,h⟩)|h
 .rw[l]at h;ext h
 .rw[l]at h;ext h
 .show .inr h
mutual
theorem Li(f:∀b,O b->¬Z b->∃ys,H b=cL (.lst ys)):∀{v:V} {d:D},DV Z K H v d->V5 d=XX->DV O K H v d
 |_,_,.non,_=>.non
 |_,_,.bl b,_=>.bl b
 |_,_,.int i,_=>.int i
 |_,_,.str x,_=>.str x
 |_,_,.tup (a:=a) h hs,e=>.tup ⟨h.1,λz=>by
   by_cases y:Z a
   .exact h.2 y
   .obtain⟨ys,q⟩:=f a z y;exact JB h.1 q⟩ (xy f hs e)
 |_,_,.lst h hs,e=>by cases e
theorem xy(a:∀b,O b->¬Z b->∃ys,H b=cL (.lst ys)):∀{vs:cc V} {ds:cc D},Zn Z K H vs ds->Ri ds=XX->Zn O K H vs ds
 |_,_,.nil,_=>.nil
 |_,_,.cons h hs,e=>by have d:=Bool.and_eq_true_iff.mp e;exact .cons (Li a h d.1) (xy a hs d.2)
end
end
end L3
namespace PyProof.Rows
open PySem
section
variable{X:Yr}{w:YJ}{A:YC}{E:XY->X3->Prop}{s:X3}
def r8(b:h.get? a=R (seqObj "list" o.toArray n)):∃e,(sortedHeap h a o out).get? a=R (seqObj "list" out e):=by let d:=get?_update_seq b (λ_=> #v[]);show#[_,get?_update_seq (cn _ (cn _ d)) _]
theorem oW(d:b≠a)(e:h.get? b=R o):(sortedHeap h a C out).get? b=R o:=
 (c6 _ _ (d0 d)).trans (cn _ (cn _ ((c6 _ _ (d0 d)).trans e)))
def zq{l:J}{c:G T}{ns:G Int}{Q:T->X3->Prop}(i:s.heap.IsTuple l c.toArray)(u:IntsAre c ns)(g:c.length<64)
  (h:∀(a k:Heap) (out:Array T) (e:Nat) (d:G Int),(∀b o,s.heap.get? b=R o->a.get? b=R o)->k.get? a.objs.size=R (seqObj "list" out e)->(∀b o,a.get? b=R o->k.get? b=R o)->IntsAre out.toList d->d.Perm ns->d.Pairwise (·<=·)->Q (.ref a.objs.size) {s with heap:=k}):
  wpAny (model X w) A (call (.builtin "sorted") [.ref l]) Q E s:=by
 let(o,j,t,n,r):=i;show Calls.call_function_entry kind_sorted plain_sorted entry_sorted (args_sorted1 _) (XW (m:=checkCount "sorted" 1 1 _) (X8 (XW (wpAny_collect_seq l (.inr W) j t r (λa p=>XW (amb ?_)) (by rw[Yd,abj];ext)))));let f:(a.push (seqObj "list" c.toArray 0)).get? a.objs.size=R (seqObj "list" c.toArray 0):=c5 _ W;show XW (Zo (ZY slot_list_sort #[_,f,W] entry_list_sort (list_sort_tree f u g λout d B y v=>#[_,W,X8 #[_,W,?_]]) (args_list_sort _)));let(e,q):=r8 (out:=out) f;show h a _ out e d p q (λb C z=>oW (Yk (cv z)) (cn _ z)) B y v
end
end PyProof.Rows
namespace L9
open PySem PySem.Spec PyProof.Rows L2 L3
section
variable{K:lD}{E:XK}
def v7:ZS X (.builtin "sorted") (λxs H Q=>∃(p:J) (ns:cc Int),xs=[.ref p]/\SqT X.K H p (ns.map V.int)/\ns.length<64/\∀(l:J) (a:cc Int),H l=P->a.Perm ns->a.Pairwise (·<=·)->Q (.ref l) (bj H l (.lst (a.map V.int)))):=by
 intro g s A H xs B Q I r h;let(p,ns,rfl,o,y,q):=h;let(u,rfl,m):=gu r;ext m;let(G,L,pl,C):=I.tuple o;let t:=L.length;rw[X4]at t;show zq pl (iY L) () λz F d e a v w f N i n=>?_;let b:=i.length_eq;let j:=I.kept (t':=s.toks) v;show#[.ref z.objs.size,_,j.laid f (X6 _) ?_,W,q _ a (j.Zl.fresh (X6 _)) i n];show#[?_,d.toList,e,jS N,w];rw[X4,b];let:(64:Nat)<=Yc:=by decide
 ext
theorem uT:ZS X (.builtin "sorted") (λxs H Q=>(∃(p:J) (ns:G Int),xs=[.ref p]/\SqL X.K H p (ns.map V.int)/\ns.length<64/\∀(l:J) (a:G Int),H l=P->a.Perm ns->a.Pairwise (·<=·)->Q (.ref l) (bj H l (.lst (a.map V.int))))\/
  (∃(p:J) (ns:G Int),xs=[.ref p]/\SqT X.K H p (ns.map V.int)/\ns.length<64/\∀(l:J) (a:G Int),H l=P->a.Perm ns->a.Pairwise (·<=·)->Q (.ref l) (bj H l (.lst (a.map V.int))))):=L2.ZS.or wW v7
def gQ:G D->z RV
 |[.tuple ds]=>(match mH ds with
  |some a=>if a.length<64 then R (.ow ((kR a).map .int))else P
  |none=>P)
 |ds=>vS ds
def yM:wj K (λxs H Q=>(∃(p:J) (ns:G Int),xs=[.ref p]/\SqL K H p (ns.map V.int)/\ns.length<64/\∀(l:J) (b:G Int),H l=P->b.Perm ns->b.Pairwise (·<=·)->Q (.ref l) (bj H l (.lst (b.map V.int))))\/
  (∃(p:J) (ns:G Int),xs=[.ref p]/\SqT K H p (ns.map V.int)/\ns.length<64/\∀(l:J) (b:G Int),H l=P->b.Perm ns->b.Pairwise (·<=·)->Q (.ref l) (bj H l (.lst (b.map V.int))))) gQ:=by
 intro O H xs ds r Q n f e q;unfold gQ at e;split at e
 .split at e
  .rename_i ns h
   split at e
   .rename_i t
    ext e;cases f with
    |cons m j=>ext j;let(a,u,rfl,g,o):=Dg m;rw[lW o h]at g;show .inr #[a,ns,W,g.1,t,λl b i d eI=>?_];let e2:=l4 (d.trans (fM ns).symm) eI (eN ns);subst e2;show q.new (qE _) l i
   .ext e
  .ext e
 .show .inl (Cu O H xs ds r Q n f e q)
end
end L9
namespace LD
open PySem PyProof.Rows L2 L3
mutual
def kd:X2->Bool
 |.none=>XX
 |.int _=>XX
 |.str x=>X2.strOk x
 |.tuple xs=>xZ xs
 |_=>XZ
def xZ:cc X2->Bool
 |[]=>XX
 |x::r=>kd x&&xZ r
end
def KW:X2->Bool
 |.tuple xs=>xZ xs&&decide ((X2.tuple xs).depth<=8)
 |_=>M
mutual
theorem vo:∀d:X2,kd d=XX->d.canLay0=XX
 |.none,_=>rfl
 |.int _,_=>rfl
 |.str x,h=>by unfold X2.canLay0;unfold kd at h;exact h
 |.tuple xs,h=>by unfold X2.canLay0;unfold kd at h;exact Be xs h
 |.bool _,h|.list _,h|.dict _,h=>by simp[kd]at h
theorem Be:∀xs:cc X2,xZ xs=XX->X2.canLayAll0 xs=XX
 |[],_=>rfl
 |x::r,h=>by unfold xZ at h;rw[Ld]at h;unfold X2.canLayAll0;rw[vo x h.1,Be r h.2];rfl
end
mutual
theorem Gy:∀d e:X2,kd d=XX->kd e=XX->X2.eqv d e=XX->d=e
 |.none,e,_,h,q=>by cases e<;>simp_all [kd,X2.eqv]
 |.int i,e,_,h,q=>by cases e<;>simp_all [kd,X2.eqv]
 |.str x,e,_,h,q=>by cases e<;>simp_all [kd,X2.eqv]
 |.tuple xs,e,g,h,q=>by
  cases e with
  |tuple a=>rw[X2.eqv]at q;unfold kd at g h;rw[zN xs a g h q]
  |_=>simp_all [kd,X2.eqv]
 |.bool _,_,h,_,_|.list _,_,h,_,_|.dict _,_,h,_,_=>by simp[kd]at h
theorem zN:∀xs ys:cc X2,xZ xs=XX->xZ ys=XX->X2.eqvAll xs ys=XX->xs=ys
 |[],[],_,_,_=>rfl
 |[],_::_,_,_,q=>by simp[X2.eqvAll]at q
 |_::_,[],_,_,q=>by simp[X2.eqvAll]at q
 |x::xs,y::ys,g,h,q=>by unfold xZ at g h;rw[X2.eqvAll]at q;rw[Ld]at g h q;rw[Gy x y g.1 h.1 q.1,zN xs ys g.2 h.2 q.2]
end
def Qp[Decidable (d=e)](hd:kd d=S)(a:kd e=S):X2.eqv d e=decide (d=e):=by
 by_cases q:d=e
 .subst q;rw[a7 W];show SeqAt.eqv_refl d (vo d hd)
 .rw[bg q]
  cases z:X2.eqv d e with
  |false=>rfl
  |true=>show b4 (Gy d e hd a z) q
def gH(h:KW d=S):kd d=S/\d.depth<=8:=by
 cases d with
 |tuple xs=>unfold KW at h;rw[Ld]at h;show#[by ext kd;show h.1,b3 h.2]
 |_=>simp[KW]at h
mutual
def wR(w:YJ):X2->Int
 |.none=>reduceHash 0xFCA86420
 |.int i=>hashInt i
 |.str x=>hashStr w x
 |.tuple xs=>reduceHash (Yx.Tuple.tupleHashOf (rH w xs))
 |_=>0
def rH(w:YJ):cc X2->cc Int
 |[]=>[]
 |x::r=>wR w x::rH w r
end
mutual
def U5:X2->Nat
 |.tuple xs=>LH xs+1
 |_=>1
def LH:cc X2->Nat
 |[]=>0
 |x::r=>U5 x+LH r
end
section
variable{prog:Yr}{w:YJ}{E:XY->X3->Prop}
mutual
theorem Bs:∀(d:X2) (v:XY) (as:cc X5) (A:YC) (s:X3) (Q:Int->X3->Prop),kd d=XX->aei s.heap v d as->A.units+d.depth<cLine->Q (wR w d) {s with toks:=s.toks+U5 d}->wpAny (model prog w) A (pyHash v) Q E s
 |.none,_,_,A,s,Q,_,r,hu,h=>by cases r;exact ad7 (T:= "NoneType") rfl F.slot_NoneType_hash F.entry_NoneType_hash (F.args_NoneType_hash_1 _) (ais _) (.inr (by ext)) (XW (X8 (XW (wpAny_mkInt (X8 ⟨_,_,rfl,h⟩)))))
 |.int i,_,_,A,s,Q,_,r,_,h=>by cases r;exact aij h
 |.str x,_,_,A,s,Q,_,r,_,h=>by cases r;exact aik h
 |.tuple xs,_,_,A,s,Q,hk,r,hu,h=>by
  cases r with
  | @tuple a o vs n _ _ h1 h2 h3 h4=>
   refine ad7 (T:= "tuple") ⟨_,h1,h2⟩ F.slot_tuple_hash F.entry_tuple_hash (F.args_tuple_hash_1 _) (ais _) (.inr (by ext)) ?_;show wpAny _ _ (Yx.Tuple.tupleItemsOf (.ref a)>>=_) _ _ s;refine XW (wpAny_tupleItemsOf h1 h3 ?_);refine XW ?_;rw[<-aeU];unfold kd at hk;refine tS xs vs.toList _ A.in1 s #v[] _ hk h4 (by simp only[X2.depth,YC.in1_units]at hu⊢;ext) λb e=>?_;show wpAny _ _ (retInt (Yx.Tuple.tupleHashOf b.toList)) _ _ _;rw[e];refine XW (wpAny_mkInt (X8 ⟨_,_,rfl,?_⟩));unfold wR U5 at h
   simpa [ab1]using h
 |.bool _,_,_,_,_,_,h,_,_,_|.list _,_,_,_,_,_,h,_,_,_|.dict _,_,_,_,_,_,h,_,_,_=>by simp[kd]at h
theorem tS:∀(xs:cc X2) (vs:cc XY) (as:cc X5) (A:YC) (s:X3) (b:Array Int) (Q:Array Int->X3->Prop),xZ xs=XX->ab5 s.heap vs xs as->A.units+X2.depthAll xs<cLine->
  (∀b':Array Int,b'.toList=b.toList++rH w xs->Q b' {s with toks:=s.toks+LH xs})->
  wpAny (model prog w) A (forIn vs b λx r=>do let h<-pyHash x;pure PUnit.unit;pure (ForInStep.yield (r.push h))) Q E s
 |[],_,_,A,s,b,Q,_,x,_,h=>by cases x;exact X8 (h b (by simp[rH]))
 |k::xs,_,_,A,s,b,Q,hk,x,hu,h=>by
  cases x with
  |cons d a=>
   unfold xZ at hk;simp only[Ld,X2.depthAll]at hk hu;rw[abr];refine XW (XW (Bs k _ _ A s _ hk.1 d (by ext) ?_));refine XW (X8 (X8 ?_));refine tS xs _ _ A _ _ Q hk.2 a (by ext) λb' e=>?_;have:=h b' (by simp[e,rH]);unfold LH at this
   simpa [ab1]using this
end
theorem wJ:∀(n:Nat) (d:X2) (v:T) (as:G J) (A:YC) (s:X3) (Q:Bool->X3->Prop),kd d=S->aei s.heap v d as->d.depth<=n->Q S s->wpAny (model prog w) A (eqIsQuiet n v) Q E s
 |n,.none,_,_,A,s,Q,_,r,_,h=>by ext r;rw[acP _ W];show X8 h
 |n,.int i,_,_,A,s,Q,_,r,_,h=>by ext r;rw[acP _ W];show X8 h
 |n,.str i,_,_,A,s,Q,_,r,_,h=>by ext r;rw[acP _ W];show X8 h
 |0,.tuple xs,_,_,A,s,Q,q,r,p,h=>by simp only[X2.depth]at p;ext
 |n+1,.tuple xs,_,_,A,s,Q,q,r,p,h=>by
  cases r with
  | @tuple a o C m _ _ h1 B u t=>
   let g:s.TypeIs (.ref a) "tuple":=#[_,h1,B];simp only[X2.depth]at p;ext eqIsQuiet;show XW (ajo g F.slot_tuple_eq.lookup ?_);show XW (adh g isSubtype_tuple_tuple ?_);simp only[adM,aam,if_false];show XW (Zr h1 u ?_);show XW ?_;rw[<-aeU];unfold kd at q;show wpAny_forIn_list _ (λb r e=>r.1=P/\e=s/\∃ys bs,xZ ys=S/\ab5 s.heap b ys bs/\X2.depthAll ys<=n) _ ?_ ?_ _ _ #[W,W,xs,_,q,t,by ext]
   .rintro v b r e ⟨f,rfl,ys,bs,k1,k2,k3⟩
    cases k2 with
    | @cons _ _ y l _ _ g1 g2=>unfold xZ at k1;simp only[Ld,X2.depthAll]at k1 k3;show XW (wJ n y v _ A e _ k1.1 g1 () ?_);simp only[adM,aam,if_false];show X8 #[W,W,l,_,k1.2,g2,by ext]
   .rintro⟨r1,j⟩ e ⟨f,rfl,_⟩;simp only at f;subst f;show X8 h
 |_,.bool _,_,_,_,_,_,h,_,_,_|_,.list _,_,_,_,_,_,h,_,_,_|_,.dict _,_,_,_,_,_,h,_,_,_=>by simp[kd]at h
end
mutual
theorem tH{h h':Heap}{x:X5}{e:Obj}{es:Array acf}{j:Nat}(f:h.get? x=cL e)(i:e.data=.dict es j)(g:Heap.SameBut x h h'):∀(d:X2) (v:XY) (as:cc X5),kd d=XX->aei h v d as->aei h' v d as
 |.none,_,_,_,r=>by cases r;exact .none
 |.int _,_,_,_,r=>by cases r;exact .int _ _
 |.str _,_,_,_,r=>by cases r;exact .str _ _
 |.tuple xs,_,_,k,r=>by
  cases r with
  | @tuple a o vs n _ _ h1 h2 h3 h4=>
   have b:a≠x:=by rintro rfl;rw[f]at h1;cases h1;rw[i]at h3;exact nomatch h3
   unfold kd at k;exact .tuple ((g.2 a b).trans h1) h2 h3 (re f i g xs _ _ k h4)
 |.bool _,_,_,h,_|.list _,_,_,h,_|.dict _,_,_,h,_=>by simp[kd]at h
theorem re{h h':Heap}{x:X5}{a:Obj}{es:Array acf}{i:Nat}(b:h.get? x=cL a)(f:a.data=.dict es i)(e:Heap.SameBut x h h'):∀(ds:cc X2) (vs:cc XY) (as:cc X5),xZ ds=XX->ab5 h vs ds as->ab5 h' vs ds as
 |[],_,_,_,r=>by cases r;exact .nil
 |d::ds,_,_,k,r=>by
  cases r with
  |cons r1 g=>unfold xZ at k;rw[Ld]at k;exact .cons (tH b f e d _ _ k.1 r1) (re b f e ds _ _ k.2 g)
end
abbrev KD:={d:X2//KW d=S}
noncomputable instance kdDec:DecidableEq KD:=λ_ _=>Classical.propDecidable _
def G0(prog:Yr)(w:YJ):HeapKind prog w KD where
 is:=λh k a=>∃as,aei h (.ref a) k.1 as
 hash:=λk=>wR w k.1
 draws:=λk=>U5 k.1
 room:=λA=>A.units+8<cLine
 inj:=λ#[_,r] #[_,f]=>Subtype.ext (aei.unique r _ _ f).1
 keeps:=λ{h l k a d o es m} #[as,r] j hd i=>#[as,tH j hd i k.1 _ _ (gH k.2).1 r]
 pyHash:=λ{A E s k a Q} g #[as,r] q=>Bs k.1 _ as A s Q (gH k.2).1 r (by let:=(gH k.2).2;ext) q
 eqBool:=λ{A E s x y a b Q} g #[as,r] #[bs,f] q=>SeqAt.eqAt_reads x.1 y.1 A s _ _ as bs r f (vo _ (gH x.2).1) (vo _ (gH y.2).1) (by let:=(gH x.2).2;ext) prog w E Q (by
  haveI:Decidable (x.1=y.1):=Classical.propDecidable _
  rw[Qp (gH x.2).1 (gH y.2).1];by_cases e:x=y
  .rw[a7 e]at q;rw[a7 (d6 Subtype.val e)];show q
  .rw[bg e]at q;rw[bg λz=>e (Subtype.ext z)];show q)
 quiet:=λ{A E s k a Q} #[as,r] q=>wJ 8 k.1 _ as A s Q (gH k.2).1 r (gH k.2).2 q
def WI(a:J)(xs:G (KD×J×V))(w:YJ)(h:Heap):Prop:=
 (xs.length<=Yc/\(a==aag)=M/\(xs.map (·.1)).Nodup)/\∃o es b,h.get? a=R o/\o.ExactDict/\o.data=.dict es b/\Paired (λ(x:KD×J×V) (e:acf)=>e.hash=wR w x.1.1/\e.key=.ref x.2.1/\RelV x.2.2 e.val) xs es.toList
abbrev DkO(a:J)(xs:G (KD×J×V)):HO:=.exw (WI a xs)
abbrev PrD(O:bG)(K:lD)(H:Hp):G (KD×J×V)->G (D×D)->Prop:=
 Paired λx a=>x.1.1=a.1/\L3.DV O K H (.ref x.2.1) a.1/\L3.DV O K H x.2.2 a.2
end LD
namespace L10
open PySem L2 L3
inductive AV where
 |fz (d:D)
 |rf (i:Nat)
inductive SV where
 |fz (d:D)
 |rf (i:Nat)
 |tp (l:G AV)
def AV.sv:AV->SV
 |.fz d=>.fz d
 |.rf i=>.rf i
inductive Cell where
 |lst (xs:G SV)
 |dct (YA:G (cE×SV))
 |obj (C:Str) (fs:G (Str×SV))
 |dd (YA:G (D×D))
 |dead
abbrev aO:=G Cell
abbrev bc:=G (z SV)
inductive RS(α:Type) where
 |ok (a:α) (ω:aO)
 |er (x:Xc) (ω:aO)
 |bad
def RS.bind(r:RS α)(f:α->aO->RS β):RS β:=match r with
 |.ok a b=>f a b
 |.er x b=>.er x b
 |.bad=>.bad
def RS.YT(b:aO):z α->RS α
 |some a=>.ok a b
 |none=>.bad
theorem RS.bind_ok(a:α)(b:aO)(f:α->aO->RS β):(RS.ok a b).bind f=f a b:=W
abbrev ej:=@RS.bind_ok
def Lv(α:G J)(a:aO):bG:=λb=>∃(i:Nat) (c:Cell),α[i]?=R b/\a[i]?=R c/\c≠Cell.dead
def ow(B:bG)(α:G J)(a:aO):bG:=λb=>B b\/Lv α a b
section
variable(O:bG)(K:lD)(H:Hp)(Z:cc X5)
def AOk(v:V):AV->Prop
 |.fz d=>DV O K H v d
 |.rf i=>∃a,Z[i]?=R a/\v=.ref a
def VOk(v:V):SV->Prop
 |.fz d=>DV O K H v d
 |.rf i=>∃a,Z[i]?=R a/\v=.ref a
 |.tp l=>∃a xs,v=.ref a/\abg O K H a xs/\Paired (AOk O K H Z) xs l
abbrev Z0:G V->G SV->Prop:=Paired (VOk O K H Z)
def COk(a:J):Cell->Prop
 |.lst xs=>∃d,H a=R (.lst d)/\Z0 O K H Z d xs
 |.dct b=>∃ws:G (cE×V),H a=R (.dK ws)/\Paired (λ(p:cE×V) (q:cE×SV)=>p.1=q.1/\VOk O K H Z p.2 q.2) ws b
 |.obj C fs=>∃e f ws,Yt K Yj C=R (R (.ref e))/\H a=R (.ins e f ws)/\Paired (λ(p:Str×V) (q:Str×SV)=>p.1=q.1/\VOk O K H Z p.2 q.2) ws fs
 |.dd b=>∃xs,H a=R (LD.DkO a xs)/\LD.PrD O K H xs b
 |.dead=>True
def aah(a:L2.St)(b:bc):Prop:=a.length=b.length/\∀(i:Nat) (x:SV),b[i]?=R (R x)->∃v,a[i]?=R (R v)/\VOk O K H Z v x
end
structure YB(B:bG)(K:lD)(H:Hp)(α:G J)(ω:aO):Prop where
 len:α.length=ω.length
 nd:∀(i j:Nat) (a:J),α[i]?=R a->α[j]?=R a->i=j
 bn:∀a,B a->H a≠P
 ba:∀a,B a->∀i:Nat,α[i]?≠R a
 al:∀(i:Nat) (a:J),α[i]?=R a->H a≠P
 cel:∀(i:Nat) (a:J) (c:Cell),α[i]?=R a->ω[i]?=R c->COk (ow B α ω) K H α a c
structure ZA(α:G J)(ω:aO)(H:Hp)(α':G J)(ω':aO)(H':Hp):Prop where
 pre:∀(i:Nat) (a:J),α[i]?=R a->α'[i]?=R a
 kp:∀b o,H b=R o->¬Lv α ω b->H' b=R o
 lv:∀b,Lv α' ω' b->Lv α ω b\/H b=P
section
variable{B O N:bG}{K:lD}{E:XK}{H U R M:Hp}{Z Y T S:cc X5}{L X I Q:aO}{t:L2.St}{ρ:bc}{v:V}
theorem ZA.refl:ZA Z L H Z L H:=#[λ_ _ h=>h,λ_ _ h _=>h,λ_ h=>.inl h]
def ZA.trans(a:ZA Z L H T I R)(b:ZA T I R S Q M):ZA Z L H S Q M:=by
 let d:∀b o,H b=cL o->¬Lv Z L b->¬Lv T I b:=λb o h n z=>(a.lv b z).elim n λq=>by simp_all
 show#[λi p h=>b.pre i p (a.pre i p h),λp o h n=>b.kp p o (a.kp p o h n) (d p o h n),λp h=>?_];rcases b.lv p h with h|h
 .show a.lv p h
 .cases q:H p with
  |none=>simp_all
  |some o=>show .inl (Classical.byContradiction λn=>?_);rw[a.kp p o q n]at h;ext h
theorem ZA.same(s:Zw H U):ZA Z L H Z L U:=#[λ_ _ h=>h,λb o h _=>s b o h,λ_ h=>.inl h]
theorem ZA.ev(e:ZA Z L H Y X U):Ev (ow B Z L) H (ow B Y X) U:=λb o h n=>
 #[e.kp b o h λz=>n (.inr z),λz=>z.elim (λq=>n (.inl q)) λq=>(e.lv b q).elim (λq=>n (.inr q)) λq=>by simp_all]
def AOk.ev(e:Ev O H N U)(p:∀(i:Nat) (a:J),Z[i]?=cL a->Y[i]?=cL a)(h:AOk O K H Z v x):AOk N K U Y v x:=by
 cases x with
 |fz d=>show DV.ev e h
 |rf i=>let(a,f,b):=h;show#[a,p i a f,b]
def VOk.ev(e:Ev O H N U)(p:∀(i:Nat) (a:J),Z[i]?=cL a->Y[i]?=cL a)(h:VOk O K H Z v x):VOk N K U Y v x:=by
 cases x with
 |fz d=>show DV.ev e h
 |rf i=>let(a,f,b):=h;show#[a,p i a f,b]
 |tp l=>let(a,xs,f,b,g):=h;show#[a,xs,f,b.ev e,Paired.aaQ g λ_ _ q=>q.ev e p]
theorem VOk.evo(e:ZA Z L H Y X U)(h:VOk (ow B Z L) K H Z v x):VOk (ow B Y X) K U Y v x:=h.ev e.ev e.pre
theorem Z0.evo(e:ZA Z L H Y X U)(h:Z0 (ow B Z L) K H Z vs xs):Z0 (ow B Y X) K U Y vs xs:=Paired.aaQ h λ_ _ q=>q.evo e
theorem aah.evo(e:ZA Z L H Y X U)(h:aah (ow B Z L) K H Z t ρ):aah (ow B Y X) K U Y t ρ:=#[h.1,λi x q=>let#[v,h1,a]:=h.2 i x q;#[v,h1,a.evo e]]
def COk.ev(e:Ev O H N U)(p:∀(i:Nat) (a:J),Z[i]?=cL a->Y[i]?=cL a)(j:∀o,H a=cL o->U a=cL o)(h:COk O K H Z a c):COk N K U Y a c:=by
 cases c with
 |lst xs=>let(l,d,b):=h;show#[l,j _ d,Paired.aaQ b λ_ _ q=>q.ev e p]
 |dct n=>let(ws,d,b):=h;show#[ws,j _ d,Paired.aaQ b λ_ _ q=>#[q.1,q.2.ev e p]]
 |obj C fs=>let(g,m,ws,f,d,b):=h;show#[g,m,ws,f,j _ d,Paired.aaQ b λ_ _ q=>#[q.1,q.2.ev e p]]
 |dd n=>let(xs,d,b):=h;show#[xs,j _ d,Paired.aaQ b λ_ _ q=>#[q.1,q.2.1.ev e,q.2.2.ev e]]
 |dead=>trivial
theorem YB.noO(s:YB B K H Z L):mz (ow B Z L) H:=λa h z=>z.elim (λq=>s.bn a q h) λ#[i,c,q,_]=>s.al i a q h
theorem YB.owd(s:YB B K H Z L):∀a,ow B Z L a->H a≠P:=λa z h=>s.noO a h z
def YB.grow(s:YB B K H Z L)(e:Zw H U):YB B K U Z L:=by let n:∀a,H a≠P->U a≠P:=λa h z=>h (e.free z);show#[s.len,s.nd,λa h=>n a (s.bn a h),s.ba,λi a h=>n a (s.al i a h),λi a c d b=>(s.cel i a c d b).ev (Ev.grow e) (λ_ _ h=>h) λo h=>e _ _ h]
def YB.at(s:YB B K H Z L){i:Nat}(h:L[i]?=cL c):∃a,Z[i]?=cL a:=by let:i<L.length:=(X0.mp h).1;rw[<-s.len]at this;simp_all
theorem YB.agB(s:YB B K H Z L){i:Nat}(h:Z[i]?=cL a):¬B a:=λz=>s.ba a z i h
def zn{i:Nat}{c m:Cell}(h:L[i]?=cL c)(n:c≠.dead)(g:m≠.dead){b:J}:Lv Z (L.set i m) b↔Lv Z L b:=by
 constructor
 .rintro⟨j,d,f,a,l⟩
  rcases bX a with⟨rfl,rfl⟩|⟨_,a⟩
  .show#[j,c,f,h,n]
  .show#[j,d,f,a,l]
 .rintro⟨j,d,f,a,l⟩
  by_cases e:j=i
  .subst e;show#[j,m,f,by rw[ZV (X0.mp h).1],g]
  .show#[j,d,f,by rw[aaz (λz=>e z.symm)];show a,l]
def Py(h:L[i]?=cL c)(d:c≠.dead)(a:o≠.dead):ow B Z (L.set i o)=ow B Z L:=by funext b;show propext #[λz=>z.imp id (zn h d a).mp,λz=>z.imp id (zn h d a).mpr]
theorem ZA.put(j:Z[i]?=cL a)(h:L[i]?=cL c)(f:c≠.dead)(d:c'≠.dead):ZA Z L H Z (L.set i c') (bj H a o):=
 #[λ_ _ h=>h,λb g q n=>by let z:b≠a:=λe=>n #[i,c,by simp_all,h,f];rw[aQ z];show q,λb z=>.inl ((zn h f d).mp z)]
def YB.put(s:YB B K H Z L)(k:Z[i]?=cL a)(h:L[i]?=cL c)(p:c≠.dead)(f:c'≠.dead)(new:COk (ow B Z L) K (bj H a o) Z a c'):YB B K (bj H a o) Z (L.set i c'):=by
 let e:ZA Z L H Z (L.set i c') (bj H a o):=ZA.put k h p f;let n:∀b,H b≠P->bj H a o b≠P:=λb h=>by
  by_cases z:b=a
  .subst z;rw[aI];simp
  .rw[aQ z];show h
 show#[by rw[Y7];show s.len,s.nd,λb h=>n b (s.bn b h),s.ba,λj b h=>n b (s.al j b h),λj b d m l=>?_];rcases bX l with⟨rfl,rfl⟩|⟨g,l⟩
 .rw[k]at m;ext m;rw[Py h p f];show new
 .show(s.cel j b d m l).ev e.ev e.pre λu q=>by rw[aQ (λz=>g (s.nd j i a (by simp_all) k))];show q
theorem sj{i:Nat}{a:J}{c:Cell}{o:HO}(d:Z[i]?=cL a)(h:L[i]?=cL c)(b:c≠.dead):Ev (ow B Z L) H (ow B Z L) (bj H a o):=Ev.mut (.inr #[i,c,d,h,b]) o
def b8{Z:Type}{l:G Z}{x y:Z}{i:Nat}(h:(l++[x])[i]?=cL y):l[i]?=cL y\/(i=l.length/\y=x):=by
 by_cases hi:i<l.length
 .rw[Yz hi]at h;show .inl h
 .rw[Ys ()]at h
  cases q:i - l.length with
  |zero=>rw[q]at h;ext h;show .inr #[by ext,W]
  |succ n=>rw[q]at h;ext h
def gX{Z:Type}{l:G Z}{x y:Z}{i:Nat}(h:l[i]?=cL y):(l++[x])[i]?=cL y:=by rw[Yz (X0.mp h).1];show h
def aH:(l++[x])[l.length]?=cL x:=by simp
def sI(g:Z.length=L.length)(h:Lv (Z++[p]) (L++[c]) b):Lv Z L b\/b=p:=by
 let(i,d,e,a,f):=h;rcases b8 e with e|⟨e1,e2⟩
 .rcases b8 a with a|⟨e1,e2⟩
  .show .inl #[i,d,e,a,f]
  simp_all
 .show .inr e2
theorem ZA.adY(d:Z.length=L.length)(s:Zw H U)(f:H p=P):ZA Z L H (Z++[p]) (L++[c]) U:=
 #[λi a h=>gX h,λb u q _=>s b u q,λb z=>(sI d z).imp id λe=>by simp_all]
def YB.adY(s:YB B K H Z L)(e:Zw H U)(l:H p=P)(m:U p≠P)(new:COk (ow B (Z++[p]) (L++[c])) K U (Z++[p]) p c):YB B K U (Z++[p]) (L++[c]):=by
 let ev:ZA Z L H (Z++[p]) (L++[c]) U:=ZA.adY s.len e l;let n:∀b,H b≠P->U b≠P:=λb h z=>h (e.free z);show#[by rw[Yb,Yb,s.len];rfl,λi j a f g=>?_,λa h=>n a (s.bn a h),λa h i q=>?_,λi a h=>?_,λi a d f g=>?_]
 .rcases b8 f with g1|⟨e1,e2⟩<;>rcases b8 g with g2|⟨e3,e4⟩
  .show s.nd i j a g1 g2
  .show b4 (by rw[e4];show l) (s.al i a g1)
  .show b4 (by rw[e2];show l) (s.al j a g2)
  .omega
 .rcases b8 q with q|⟨_,e2⟩
  .show s.ba a h i q
  .subst e2;show s.bn a h l
 .rcases b8 h with h|⟨_,e2⟩
  .show n a (s.al i a h)
  simp_all
 .rcases b8 g with g|⟨e1,e2⟩
  .rcases b8 f with f|⟨e1,_⟩
   .show(s.cel i a d f g).ev ev.ev ev.pre λo q=>e _ _ q
   .let:=(X0.mp g).1;let:=s.len;ext
  .rcases b8 f with f|⟨_,e3⟩
   .let:=(X0.mp f).1;let:=s.len;ext
   simp_all
def WS(K:lD)(E:XK)(B:bG)(H:Hp)(Z:G J)(L:aO)(P:A->G J->aO->Hp->Prop):RS A->Prop
 |.ok a X=>∀Y U,ZA Z L H Y X U->YB B K U Y X->P a Y X U
 |.er x X=>∀c b Y U,ZA Z L H Y X U->YB B K U Y X->XOk K (ow B Y X) U c b x->E c b U
 |.bad=>False
def WS.from(e:ZA Z L H T I R)(h:WS K E B H Z L d r):WS K E B R T I d r:=by
 cases r with
 |ok a Q=>show λS M e2 b=>h S M (e.trans e2) b
 |er x Q=>show λc f S M e2 b=>h c f S M (e.trans e2) b
 |bad=>show h
def WS.bind(h:WS K E B H Z L b (r.bind k)):WS K E B H Z L (λa T I R=>WS K E B R T I b (k a I)) r:=by
 cases r with
 |ok a I=>show λT R e1 _=>WS.from e1 h
 |er x I=>show h
 |bad=>show h
def WS.YT(h:WS K E B H Z L b ((RS.YT L o).bind k)):∃a,o=cL a/\WS K E B H Z L b (k a L):=by
 cases o with
 |none=>show h.elim
 |some a=>show#[a,W,h]
def WS.imp(h:WS K E B H Z L d r)(g:∀a Y X U,ZA Z L H Y X U->YB B K U Y X->d a Y X U->P' a Y X U):WS K E B H Z L P' r:=by
 cases r with
 |ok a I=>show λT R e1 b=>g a T I R e1 b (h T R e1 b)
 |er x I=>show h
 |bad=>show h
theorem WS.now(s:YB B K H Z L)(h:WS K E B H Z L b (.ok a L)):b a Z L H:=h Z H .refl s
end
abbrev ez:=bc->aO->RS SV
abbrev sJ:=bc->aO->RS Bool
abbrev wY:=bc->aO->RS (G SV)
def eu(K:lD)(E:XK)(t:TE)(f:ez):Prop:=
 ∀(B:bG) (d:L2.St) (H:Hp) (α:G J) (g:aO) (h:bc) (Q:VK),YB B K H α g->aah (ow B α g) K H α d h->WS K E B H α g (λx a b e=>∀v,VOk (ow B a b) K e a v x->Q v e) (f h g)->t d H Q
def uD(K:lD)(E:XK)(t:TT)(f:sJ):Prop:=
 ∀(B:bG) (a:L2.St) (H:Hp) (α:G J) (e:aO) (g:bc) (Q:Bool->Hp->Prop),YB B K H α e->aah (ow B α e) K H α a g->WS K E B H α e (λb _ _ d=>Q b d) (f g e)->t a H Q
def BE(K:lD)(E:XK)(t:TA)(f:wY):Prop:=
 ∀(B:bG) (d:L2.St) (H:Hp) (α:G J) (g:aO) (h:bc) (Q:G V->Hp->Prop),YB B K H α g->aah (ow B α g) K H α d h->WS K E B H α g (λxs a b e=>∀i,Z0 (ow B a b) K e a i xs->Q i e) (f h g)->t d H Q
section
variable{B O M:bG}{K:lD}{E:XK}{H T U H2:Hp}{Z N Y I:cc X5}{ω J ω1 P:aO}{X:L2.St}{ρ:bc}{v:V}
def Mw:z SV->z PV
 |some (.fz d)=>R (.fz d)
 |_=>CL
def bO(ρ:bc):aU:=ρ.map Mw
def ui{i:Nat}(h:(bO ρ)[i]?=R (R x)):∃d,x=.fz d/\ρ[i]?=R (R (.fz d)):=by
 unfold bO at h;rw[Yl]at h;cases q:ρ[i]? with
 |none=>simp_all
 |some o=>
  rw[q]at h;let a:=Yq h;unfold Mw at a;split at a
  .ext a;show#[_,W,W]
  .ext a
def GH(s:YB B K H Z ω)(a:aah (ow B Z ω) K H Z X ρ):Rl K (ow B Z ω) H (ow B Z ω) X H (bO ρ):=by
 show#[Zw.refl _,λ_ h=>h,s.owd,s.noO,by ext bO;rw[X4];show a.1,λi x h=>?_,λi j ds es w h=>?_]
 .let(d,rfl,b):=ui h;let(v,g,f):=a.2 i _ b;show#[v,g,f]
 .let(d,e,_):=ui h;ext e
def kB(ω:aO):RV->RS SV
 |.fz d=>.ok (.fz d) ω
 |.ow ds=>.ok (.rf ω.length) (ω++[.lst (ds.map .fz)])
abbrev PQ(B:bG)(K:lD)(Q:VK):SV->G X5->aO->Hp->Prop:=λx N J T=>∀v,VOk (ow B N J) K T N v x->Q v T
theorem oJ(O:bG)(Z:G X5):∀{a:G V} {ds:G D},Zn O K H a ds->Z0 O K H Z a (ds.map .fz)
 |_,_,.nil=>.nil
 |_,_,.cons h t=>.cons h (oJ O Z t)
theorem Ef:∀{a:G V} {ds:G D},Z0 O K H Z a (ds.map .fz)->Zn O K H a ds
 |_,[],.nil=>.nil
 |_,_::_,.cons h t=>.cons h (Ef t)
def p9(s:YB B K H Z ω)(w:WS K E B H Z ω (PQ B K Q) (kB ω (.ow ds)))(e:Zw H T)(a:H p=CL)(h:T p=R (.lst o))(hd:Zn M K T o ds)(d:∀b,ow B Z ω b->M b)(f:M p):Q (.ref p) T:=by
 let sub:∀b,ow B (Z++[p]) (ω++[.lst (ds.map .fz)]) b->M b:=λb z=>z.elim (λq=>d b (.inl q)) λq=>(sI s.len q).elim (λq=>d b (.inr q)) λq=>by simp_all
 show w (Z++[p]) T (ZA.adY s.len e a) (s.adY e a (by rw[h];simp) #[o,h,oJ _ _ (hd.ev (Ev.sub sub))]) (.ref p) #[p,by rw[<-s.len];show aH,W]
def DR(s:YB B K H Z ω)(w:WS K E B H Z ω (PQ B K Q) (kB ω o)):Fin (ow B Z ω) K H Q o:=by
 cases o with
 |fz d=>show λv T e a=>w Z T (ZA.same e) (s.grow e) v a
 |ow ds=>show λp g T e f h a=>p9 s w e f h a (λb z=>.inl z) (.inr W)
def ag(f:FE):ez:=λρ ω=>match f (bO ρ)with
 |.ok (.fz d,_)=>.ok (.fz d) ω
 |.ok (.ow ds,_)=>kB ω (.ow ds)
 |.ok (.pl _,_)=>.bad
 |.er x=>.er x ω
 |.bad=>.bad
def xu(h:EO K E t f):eu K E t (ag f):=by
 intro B X H Z ω ρ Q s g w;show h (ow B Z ω) H (ow B Z ω) X H (bO ρ) Q (GH s g) ?_;unfold ag at w;cases q:f (bO ρ)with
 |bad=>rw[q]at w;show w.elim
 |er x=>rw[q]at w;show λc u T e k=>w c u Z T (ZA.same e) (s.grow e) k
 |ok r=>
  let(pv,b):=r;rw[q]at w;intro M v T e R p;cases pv with
  |fz d=>show w Z T (ZA.same R.same) (s.grow R.same) v (DV.ev (Ev.sub R.bo) p)
  |ow ds=>let(a,y,rfl,n,m,l,j,o):=p;show p9 s w R.same m l j R.bo n
  |pl i=>show w.elim
def br(f:FT):sJ:=λρ ω=>match f (bO ρ)with
 |.ok (b,_)=>.ok b ω
 |.er x=>.er x ω
 |.bad=>.bad
def Hv(h:TTO K E t f):uD K E t (br f):=by
 intro B X H Z ω ρ Q s d w;show h (ow B Z ω) H (ow B Z ω) X H (bO ρ) Q (GH s d) ?_;unfold br at w;cases q:f (bO ρ)with
 |bad=>rw[q]at w;show w.elim
 |er x=>rw[q]at w;show λc g T e k=>w c g Z T (ZA.same e) (s.grow e) k
 |ok r=>let(b,a):=r;rw[q]at w;show λM T e R=>w Z T (ZA.same R.same) (s.grow R.same)
def au(i:Nat):ez:=λρ ω=>match ρ[i]? with
 |some (R x)=>.ok x ω
 |_=>.bad
def Kr:eu K E (xg i) (au i):=by
 intro B X H Z ω ρ Q s a w;unfold au at w;cases q:ρ[i]? with
 |none=>rw[q]at w;show w.elim
 |some o=>
  cases o with
  |none=>rw[q]at w;show w.elim
  |some x=>rw[q]at w;let(v,d,b):=a.2 i x q;show#[v,d,WS.now s w v b]
def nZ(K:lD)(C:Str)(fs:G Str):Prop:=∃a,Yt K Yj C=R (R (.ref a))/\Cls K a/\∀f∈fs,abx K a f
def aY(C f:Str)(e:ez):ez:=λρ ω=>(e ρ ω).bind λx ω1=>match x with
 |.rf i=>(match ω1[i]? with
  |some (.obj D fs)=>if D=C then RS.YT ω1 (fs.lookup f)else .bad
  |_=>.bad)
 |_=>.bad
def Ce:∀{ws:G (Str×V)} {fs:G (Str×SV)},Paired (λ(p:Str×V) (q:Str×SV)=>p.1=q.1/\VOk O K H Z p.2 q.2) ws fs->fs.lookup f=R x->∃v,ws.lookup f=R v/\VOk O K H Z v x:=by
 intro ws fs p
 induction p with
 |nil=>intro h;ext h
 | @cons a b _ _ q t g=>
  let(a,v):=a;let(b,y):=b;let(e,d):=q;intro h;ext e;rw[YM]at h⊢;split at h
  .ext h;show#[v,W,d]
  .show g h
def Bz:∀{ws:G (Str×V)} {fs:G (Str×SV)},Paired (λ(p:Str×V) (q:Str×SV)=>p.1=q.1/\VOk O K H Z p.2 q.2) ws fs->fs.lookup f=CL->ws.lookup f=CL:=by
 intro ws fs p
 induction p with
 |nil=>intro h;rfl
 | @cons a b _ _ q t g=>
  let(a,v):=a;let(b,y):=b;let(d,e):=q;intro h;ext d;rw[YM]at h⊢;split at h
  .ext h
  .show g h
def Kj(o:nZ K C L)(n:f∈L)(k:eu K E ta fa):eu K E (S9 K ta f) (aY C f fa):=by
 intro B X H Z ω ρ Q s h w;show k B X H Z ω ρ _ s h (w.bind.imp λx Y ω1 U e1 e b v j=>?_);cases x with
 |fz d=>show b.elim
 |tp l=>show b.elim
 |rf i=>
  let(a,k,rfl):=j;dsimp only at b;cases q:ω1[i]? with
  |none=>rw[q]at b;show b.elim
  |some c=>
   rw[q]at b;cases c with
   |obj D fs=>
    dsimp only at b;by_cases z:D=C
    .subst z
     rw[ax W]at b;let(F,dx,ws,t,r,p):=e.cel i a _ k q;cases ql:fs.lookup f with
     |none=>rw[ql]at b;show b.elim
     |some x=>rw[ql]at b;let(u,m,g):=Ce p ql;let(G,g0,A,y):=o;rw[t]at g0;ext g0;show#[a,F,dx,ws,u,W,r,A,y f n,m,WS.now e b u g]
    .rw[a6 z]at b;show b.elim
   |_=>show b.elim
def aF{Z a:Type}(f:Z->z a):G Z->z (G a)
 |[]=>R []
 |x::r=>match f x with
  |some y=>(match aF f r with
   |some b=>R (y::b)
   |none=>CL)
  |none=>CL
def wa:Nat->aO->SV->z D
 |_,_,.fz d=>R d
 |0,_,_=>CL
 |n+1,ω,.rf i=>match ω[i]? with
  |some (.lst xs)=>(aF (wa n ω) xs).map .list
  |_=>CL
 |n+1,ω,.tp l=>(aF (λx=>wa n ω x.sv) l).map .tuple
theorem dE{Z a:Type}{f:Z->z a}{R:V->Z->Prop}{S:V->a->Prop}(h:∀v x y,R v x->f x=cL y->S v y):∀{c:G V} {xs:G Z} {d:G a},Paired R c xs->aF f xs=cL d->Paired S c d
 |_,_,_,.nil,e=>by ext e;show .nil
 |_,_,_,.cons (b:=x) (l₂:=xs) r t,e=>by
  unfold aF at e;cases q:f x with
  |none=>simp_all
  |some y=>
   rw[q]at e;dsimp only at e;cases g:aF f xs with
   |none=>simp_all
   |some d=>rw[g]at e;ext e;show .cons (h _ _ _ r q) (dE h t g)
def mL:∀{b:G V} {ds:G D},Paired (DV O K H) b ds->Zn O K H b ds:=by
 intro _ _ p
 induction p with
 |nil=>show .nil
 |cons h t a=>show .cons h a
theorem M6:Ev O H noO H:=Ev.sub λ_ z=>z.elim
theorem l8(s:YB B K H Z ω):∀(n:Nat) {v:V} {x:SV} {d:D},VOk (ow B Z ω) K H Z v x->wa n ω x=cL d->DV noO K H v d
 |n,v,.fz o,d,h,e=>by
  let g:cL o=cL d:=by ext n<;>show e
  ext g;show DV.ev M6 h
 |0,v,.rf i,d,h,e=>by ext e
 |0,v,.tp l,d,h,e=>by ext e
 |n+1,v,.rf i,d,h,e=>by
  let(a,m,rfl):=h;unfold wa at e;cases q:ω[i]? with
  |none=>simp_all
  |some c=>
   rw[q]at e;cases c with
   |lst xs=>
    dsimp only at e;cases j:aF (wa n ω) xs with
    |none=>simp_all
    |some ds=>rw[j]at e;ext e;let(p,f,b):=s.cel i a _ m q;show .lst #[aaO.of f,λz=>z.elim] (mL (dE (R:=VOk (ow B Z ω) K H Z) (λv x y r e=>l8 s n r e) b j))
   |_=>ext e
 |n+1,v,.tp l,d,h,e=>by
  let(a,xs,rfl,f,b):=h;unfold wa at e;cases j:aF (λx=>wa n ω x.sv) l with
  |none=>simp_all
  |some ds=>rw[j]at e;ext e;show .tup (f.ev M6) (mL (dE (λv x y r e=>l8 s n (by ext x<;>show r) e) b j))
def wc:SV->z D
 |.fz d=>R d
 |_=>CL
def sh(ω:aO):SV->z D
 |.fz d=>R d
 |.rf i=>match ω[i]? with
  |some (.lst xs)=>(aF wc xs).map .list
  |_=>CL
 |.tp _=>CL
def D8(s:YB B K H Z ω)(h:VOk (ow B Z ω) K H Z v x)(e:sh ω x=R d):DX (ow B Z ω) K H v d:=by
 cases x with
 |fz g=>ext e;show DV.x h
 |tp l=>ext e
 |rf i=>
  let(a,n,rfl):=h;unfold sh at e;dsimp only at e;cases q:ω[i]? with
  |none=>simp_all
  |some c=>
   rw[q]at e;cases c with
   |lst xs=>
    dsimp only at e;cases j:aF wc xs with
    |none=>simp_all
    |some ds=>
     rw[j]at e;ext e;let(m,f,b):=s.cel i a _ n q;show#[a,m,W,aaO.of f,mL (dE (λv x y r e=>?_) b j)];cases x with
     |fz d=>ext e;show r
     |rf i=>ext e
     |tp l=>ext e
   |_=>ext e
def BF:D->Bool
 |.none=>S
 |.bool _=>S
 |.int _=>S
 |.str _=>S
 |_=>XZ
def Jf(h:BF d=S)(a:DV O K H v d):DV M K T v d:=by
 cases a with
 |non=>show .non
 |bl b=>show .bl b
 |int i=>show .int i
 |str x=>show .str x
 |tup _ _=>ext h
 |lst _ _=>ext h
def tM(ω:aO):RV->RS SV
 |.fz d=>if BF d=S then .ok (.fz d) ω else .bad
 |.ow _=>.bad
def DY(s:YB B K H Z ω)(w:WS K E B H Z ω (PQ B K Q) (tM ω o)):Fin noO K H Q o:=by
 cases o with
 |fz d=>
  let w:WS K E B H Z ω (PQ B K Q) (if BF d=S then RS.ok (SV.fz d) ω else RS.bad):=w;by_cases z:BF d=S
  .rw[ax z]at w;show λv T e a=>w Z T (ZA.same e) (s.grow e) v (Jf z a)
  .rw[a6 z]at w;show w.elim
 |ow ds=>show w.elim
theorem FW:mz noO H:=λ_ _ z=>z
def rB(f:D->D->z RV)(x y:SV)(ω:aO):RS SV:=match sh ω x,sh ω y with
 |some e,R b=>(RS.YT ω (f e b)).bind λd ω1=>kB ω1 d
 |_,_=>(RS.YT ω (wa 6 ω x)).bind λe ω1=>(RS.YT ω1 (wa 6 ω1 y)).bind λb P=>(RS.YT P (f e b)).bind λd a=>tM a d
def DA(m:jU K r f)(s:YB B K H Z ω)(l:VOk (ow B Z ω) K H Z x a)(j:VOk (ow B Z ω) K H Z y b)(w:WS K E B H Z ω (PQ B K Q) (rB f a b ω)):r x y H Q:=by
 let n:WS K E B H Z ω (PQ B K Q) ((RS.YT ω (wa 6 ω a)).bind λp ω1=>(RS.YT ω1 (wa 6 ω1 b)).bind λd P=>(RS.YT P (f p d)).bind λo h=>tM h o)->r x y H Q:=λw=>by let(p,g,w):=w.YT;let(d,e,w):=w.YT;let(o,i,w):=w.YT;show m noO H x y p d o Q FW (DV.x (l8 s 6 l g)) (DV.x (l8 s 6 j e)) i (DY s w)
 unfold rB at w;cases g:sh ω a with
 |none=>simp_all
 |some p=>
  cases e:sh ω b with
  |none=>simp_all
  |some d=>rw[g,e]at w;let(o,i,w):=w.YT;show m _ H x y p d o Q s.noO (D8 s l g) (D8 s j e) i (DR s w)
def i6(f:D->D->z RV)(b a:ez):ez:=λρ ω=>(b ρ ω).bind λx ω1=>(a ρ ω1).bind λy P=>rB f x y P
def Eu(j:jU K r f)(c:eu K E C fa)(l:eu K E o fb):eu K E (HX r C o) (i6 f fa fb):=by intro B X H Z ω ρ Q s a w;show c B X H Z ω ρ _ s a (w.bind.imp λx Y ω1 U e1 g d v h=>?_);show l B X U Y ω1 ρ _ g (a.evo e1) (d.bind.imp λy I P H2 e2 e b u i=>?_);show DA j e (h.evo e2) i b
def Ix:SV->z Bool
 |.fz (.bool b)=>R b
 |_=>CL
def Kh(e:Ix x=R b)(h:VOk O K H Z v x):v=.bl b:=by
 unfold Ix at e;split at e
 .ext e;ext h;rfl
 .ext e
def aZ(a:ez):sJ:=λρ ω=>(a ρ ω).bind λx ω1=>RS.YT ω1 (Ix x)
def sC(c:eu K E o C):uD K E (tY o) (aZ C):=by
 intro B X H Z ω ρ Q s d w;show c B X H Z ω ρ _ s d (w.bind.imp λx Y ω1 U e1 e a v f=>?_);cases q:Ix x with
 |none=>rw[q]at a;show a.elim
 |some b=>rw[q]at a;show#[b,Kh q f,WS.now e a]
theorem Nr(a:eu K E o C):uD K E (tB o) (aZ C):=sC a
def mV(c a:sJ):sJ:=λρ ω=>(c ρ ω).bind λb ω1=>if b=S then a ρ ω1 else .ok XZ ω1
def zI(c a:sJ):sJ:=λρ ω=>(c ρ ω).bind λb ω1=>if b=S then .ok S ω1 else a ρ ω1
def qY(a:sJ):sJ:=λρ ω=>(a ρ ω).bind λb ω1=>.ok (!b) ω1
def Im(i:uD K E t f)(h:uD K E u g):uD K E (Q4 t u) (mV f g):=by
 intro B X H Z ω ρ Q s d w;show i B X H Z ω ρ _ s d (w.bind.imp λb Y ω1 U e1 e a=>?_);cases b with
 |true=>show h B X U Y ω1 ρ Q e (d.evo e1) a
 |false=>show WS.now e a
def RD(i:uD K E t f)(h:uD K E u g):uD K E (VF t u) (zI f g):=by
 intro B X H Z ω ρ Q s d w;show i B X H Z ω ρ _ s d (w.bind.imp λb Y ω1 U e1 e a=>?_);cases b with
 |true=>show WS.now e a
 |false=>show h B X U Y ω1 ρ Q e (d.evo e1) a
def JG(g:uD K E t f):uD K E (Kn t) (qY f):=by intro B X H Z ω ρ Q s d w;show g B X H Z ω ρ _ s d (w.bind.imp λb Y ω1 U e1 e a=>WS.now e a)
def kI:sJ:=λ_ ω=>.ok S ω
theorem EI:uD K E En kI:=λB X H Z ω ρ Q s a w=>WS.now s w
def x3(c a:ez):ez:=λρ ω=>(aZ c ρ ω).bind λb ω1=>if b=S then a ρ ω1 else .ok (.fz (.bool XZ)) ω1
def Kq(g:eu K E C fa)(f:eu K E o fb):eu K E (EN C o) (x3 fa fb):=by
 intro B X H Z ω ρ Q s d w;show sC g B X H Z ω ρ (λc U=>if c=S then o X U Q else Q (.bl XZ) U) s d (w.bind.imp λb Y ω1 U e1 e a=>?_);cases b with
 |true=>show f B X U Y ω1 ρ Q e (d.evo e1) a
 |false=>show WS.now e a _ (.bl XZ)
def Nc(c:sJ)(d a:ez):ez:=λρ ω=>(c ρ ω).bind λb ω1=>if b=S then d ρ ω1 else a ρ ω1
def Qk(f:uD K E t c)(h:eu K E C fa)(g:eu K E o fb):eu K E (UX t C o) (Nc c fa fb):=by
 intro B X H Z ω ρ Q s a w;show f B X H Z ω ρ _ s a (w.bind.imp λb Y ω1 U e1 e d=>?_);cases b with
 |true=>show h B X U Y ω1 ρ Q e (a.evo e1) d
 |false=>show g B X U Y ω1 ρ Q e (a.evo e1) d
def aL:wY:=λ_ ω=>.ok [] ω
def aj(b:ez)(a:wY):wY:=λρ ω=>(b ρ ω).bind λx ω1=>(a ρ ω1).bind λxs P=>.ok (x::xs) P
theorem uW:BE K E jx aL:=λB X H Z ω ρ Q s a w=>WS.now s w [] .nil
def Dr(c:eu K E o C)(i:BE K E tr fr):BE K E (g7 o tr) (aj C fr):=by intro B X H Z ω ρ Q s b w;show c B X H Z ω ρ _ s b (w.bind.imp λx Y ω1 U e1 g e v h=>?_);show i B X U Y ω1 ρ _ g (b.evo e1) (e.bind.imp λxs I P H2 e2 f d j a=>?_);show WS.now f d (v::j) (.cons (h.evo e2) a)
def QM:SV->z AV
 |.fz d=>R (.fz d)
 |.rf i=>R (.rf i)
 |.tp _=>CL
def UN(xs:G SV):z SV:=match aF wc xs with
 |some ds=>R (.fz (.tuple ds))
 |none=>(aF QM xs).map .tp
def nI(a:wY):ez:=λρ ω=>(a ρ ω).bind λxs ω1=>if xs.length<=1000 then RS.YT ω1 (UN xs)else .bad
def yU(r:VOk O K H Z v x)(e:wc x=R d):DV O K H v d:=by
 cases x with
 |fz d=>ext e;show r
 |rf i=>ext e
 |tp l=>ext e
def Dt(r:VOk O K H Z v x)(e:QM x=R d):AOk O K H Z v d:=by
 cases x with
 |fz d=>ext e;show r
 |rf i=>ext e;show r
 |tp l=>ext e
def Ku(c:BE K E o C):eu K E (IW o) (nI C):=by
 intro B X H Z ω ρ Q s j w;show c B X H Z ω ρ _ s j (w.bind.imp λxs Y ω1 U e1 d a m f=>?_);by_cases hn:xs.length<=1000
 .rw[ax hn]at a
  show#[by rw[f.length];show yj hn,λp i=>?_];let b:Zw U (bj U p (.tup m)):=a9 i _;let e:ZA Y ω1 U Y ω1 (bj U p (.tup m)):=ZA.same b;let h:abg (ow B Y ω1) K (bj U p (.tup m)) p m:=#[SqT.of aI,λz=>b4 z (d.noO p i)];unfold UN at a;cases q:aF wc xs with
  |some ds=>rw[q]at a;show a Y _ e (d.grow b) _ (.tup h (mL (dE (R:=VOk (ow B Y ω1) K U Y) (λv x y r g=>(yU r g).ev e.ev) f q)))
  |none=>
   rw[q]at a;dsimp only at a;cases n:aF QM xs with
   |none=>rw[n]at a;show a.elim
   |some l=>rw[n]at a;show a Y _ e (d.grow b) _ #[p,m,W,h,dE (R:=VOk (ow B Y ω1) K U Y) (λv x y r g=>(Dt r g).ev e.ev e.pre) f n]
 .rw[a6 hn]at a;show a.elim
def L7(f:G D->z RV)(xs:G SV)(ω:aO):RS SV:=match aF (sh ω) xs with
 |some ds=>(RS.YT ω (f ds)).bind λb ω1=>kB ω1 b
 |_=>(RS.YT ω (aF (wa 6 ω) xs)).bind λds ω1=>(RS.YT ω1 (f ds)).bind λb a=>tM a b
def Gr(f:G D->z RV)(a:wY):ez:=λρ ω=>(a ρ ω).bind λxs ω1=>L7 f xs ω1
def N3(h:wj K r f)(c:BE K E o C):eu K E (Dh r o) (Gr f C):=by
 intro B X H Z ω ρ Q s i w;show c B X H Z ω ρ _ s i (w.bind.imp λxs Y ω1 U e1 b a n g=>?_);unfold L7 at a;cases m:aF (sh ω1) xs with
 |none=>rw[m]at a;let(ds,j,a):=a.YT;let(l,d,a):=a.YT;show h noO U n ds l Q FW (dE (R:=VOk (ow B Y ω1) K U Y) (λv x y r e=>DV.x (l8 b 6 r e)) g j) d (DY b a)
 |some ds=>rw[m]at a;let(l,d,a):=a.YT;show h _ U n ds l Q b.noO (dE (R:=VOk (ow B Y ω1) K U Y) (λv x y r e=>D8 b r e) g m) d (DR b a)
end
section
variable{B O O':bG}{K:lD}{E:XK}{H J N L:Hp}{Z M U T:cc X5}{ω Y ω1 X:aO}{S:L2.St}{ρ:bc}{v:V}
theorem yY:∀{c:G V} {xs:G β} {i:Nat} {x:β},Paired d c xs->xs[i]?=cL x->∃v,c[i]?=cL v/\d v x
 |_,_,_,_,.nil,e=>by simp at e
 |_,_,0,_,.cons h _,e=>by simp_all
 |_,_,i+1,x,.cons _ t,e=>by let(v,b,a):=yY t (by simpa using e);simp_all
def M5{b:G V}(h:Paired a b xs)(e:kO xs i=cL x):∃v,kO b i=cL v/\a v x:=by
 unfold kO at e⊢;rw[h.length];cases q:Dj xs.length i with
 |none=>simp_all
 |some j=>rw[q]at e;show yY h e
def B5:SV->z Int
 |.fz (.int i)=>R i
 |_=>P
def z0(e:B5 x=R i)(h:VOk O K H Z v x):v=.int i:=by
 unfold B5 at e;split at e
 .ext e;ext h;rfl
 .ext e
def K9(x y:SV)(ω:aO):RS SV:=match x with
 |.fz _=>rB aK x y ω
 |.rf j=>(match ω[j]? with
  |some (.lst xs)=>(RS.YT ω (B5 y)).bind λi ω1=>RS.YT ω1 (kO xs i)
  |_=>.bad)
 |.tp l=>(RS.YT ω (B5 y)).bind λi ω1=>RS.YT ω1 ((kO l i).map AV.sv)
def i9(b a:ez):ez:=λρ ω=>(b ρ ω).bind λx ω1=>(a ρ ω1).bind λy X=>K9 x y X
def QX(k:eu K E ta fa)(C:eu K E tb fb):eu K E (HX (Ub K) ta tb) (i9 fa fb):=by
 intro B S H Z ω ρ Q s r w;show k B S H Z ω ρ _ s r (w.bind.imp λx U ω1 N e1 A t v e=>?_);show C B S N U ω1 ρ _ A (r.evo e1) (t.bind.imp λy T X L e2 f b u n=>?_);let e:=e.evo e2;unfold K9 at b;cases x with
 |fz d=>show DA G8 f e n b
 |rf j=>
  let(a,k,rfl):=e;dsimp only at b;cases q:X[j]? with
  |none=>rw[q]at b;show b.elim
  |some c=>
   rw[q]at b;cases c with
   |lst xs=>
    let(i,h,b):=WS.YT b;cases I:kO xs i with
    |none=>rw[I]at b;show b.elim
    |some x=>rw[I]at b;let(vs,p,o):=f.cel j a _ k q;let(z,m,g):=M5 o I;show .inl #[a,vs,i,z,W,z0 h n,SqL.of p,m,WS.now f b z g]
   |_=>show b.elim
 |tp l=>
  let(a,xs,rfl,p,o):=e;let(i,h,b):=WS.YT b;cases I:kO l i with
  |none=>rw[I]at b;show b.elim
  |some x=>rw[I]at b;let(z,m,g):=M5 o I;show .inr (.inl #[a,xs,i,z,W,z0 h n,p.1,m,WS.now f b z (by ext x<;>show g)])
def K2(h:Lv Z (ω.set i .dead) b):Lv Z ω b:=by
 let(j,c,e,a,d):=h;rcases bX a with⟨rfl,rfl⟩|⟨_,a⟩
 .simp_all
 .show#[j,c,e,a,d]
theorem ZA.kill:ZA Z ω H Z (ω.set i .dead) H:=#[λ_ _ h=>h,λ_ _ h _=>h,λ_ h=>.inl (K2 h)]
def YB.kill(s:YB B K H Z ω)(i:Nat):YB B K H Z (ω.set i .dead):=by
 let e:ZA Z ω H Z (ω.set i .dead) H:=ZA.kill;show#[by rw[Y7];show s.len,s.nd,s.bn,s.ba,s.al,λj b d g a=>?_];rcases bX a with⟨rfl,rfl⟩|⟨f,a⟩
 .show trivial
 .show(s.cel j b d g a).ev e.ev e.pre λu q=>q
def YB.ahg(s:YB B K H Z ω)(g:Z[i]?=R a):¬ow B Z (ω.set i .dead) a:=by
 rintro(z|⟨j,c,f,e,d⟩)
 .show s.agB g z
 .let:=s.nd j i a f g
  subst this;rcases bX e with⟨_,rfl⟩|⟨b,_⟩
  .show d W
  .show b W
def sP(g:aO->SV->z (D×aO)):aO->G SV->z (G D×aO)
 |ω,[]=>R ([],ω)
 |ω,x::r=>match g ω x with
  |some (d,ω1)=>(match sP g ω1 r with
   |some (ds,X)=>R (d::ds,X)
   |none=>P)
  |none=>P
def frz:Nat->aO->SV->z (D×aO)
 |_,ω,.fz d=>R (d,ω)
 |0,_,_=>P
 |n+1,ω,.rf i=>match ω[i]? with
  |some (.lst xs)=>(match sP (frz n) ω xs with
   |some (ds,ω1)=>R (.list ds,ω1.set i .dead)
   |none=>P)
  |_=>P
 |n+1,ω,.tp l=>match sP (frz n) ω (l.map AV.sv)with
  |some (ds,ω1)=>R (.tuple ds,ω1)
  |none=>P
theorem uP(a:∀{ω Y:aO} {v:V} {x:SV} {d:D},YB B K H Z ω->VOk (ow B Z ω) K H Z v x->g ω x=R (d,Y)->YB B K H Z Y/\ZA Z ω H Z Y H/\L3.DV (ow B Z Y) K H v d):
  ∀{c:G V} {xs:G SV} {ds:G D} {ω Y:aO},YB B K H Z ω->Z0 (ow B Z ω) K H Z c xs->sP g ω xs=R (ds,Y)->YB B K H Z Y/\ZA Z ω H Z Y H/\L3.Zn (ow B Z Y) K H c ds
 |_,_,_,ω,Y,s,.nil,e=>by ext e;show#[s,.refl,.nil]
 |_,_,_,ω,Y,s,.cons (b:=x) (l₂:=xs) r t,e=>by
  unfold sP at e;cases q:g ω x with
  |none=>simp_all
  |some p=>
   let(d,ω1):=p;rw[q]at e;dsimp only at e;let(h,e1,d1):=a s r q;cases l:sP g ω1 xs with
   |none=>simp_all
   |some i=>let(ds,X):=i;rw[l]at e;ext e;let(f,e2,j):=uP a h (Z0.evo e1 t) l;show#[f,e1.trans e2,.cons (d1.ev e2.ev) j]
theorem vK:∀{a:G V} {l:G AV},Paired (AOk O K H Z) a l->Z0 O K H Z a (l.map AV.sv)
 |_,_,.nil=>.nil
 |_,_,.cons (b:=x) h t=>.cons (by ext x<;>show h) (vK t)
theorem uN:∀(n:Nat) {ω Y:aO} {v:V} {x:SV} {d:D},YB B K H Z ω->VOk (ow B Z ω) K H Z v x->frz n ω x=R (d,Y)->YB B K H Z Y/\ZA Z ω H Z Y H/\L3.DV (ow B Z Y) K H v d
 |n,ω,Y,v,.fz r,d,s,h,e=>by
  let j:R (r,ω)=R (d,Y):=by ext n<;>show e
  ext j;show#[s,.refl,h]
 |0,_,_,v,.rf i,d,s,h,e=>by ext e
 |0,_,_,v,.tp l,d,s,h,e=>by ext e
 |n+1,ω,Y,v,.rf i,d,s,h,e=>by
  let(a,o,rfl):=h;unfold frz at e;cases q:ω[i]? with
  |none=>simp_all
  |some c=>
   rw[q]at e;cases c with
   |lst xs=>
    dsimp only at e;let(t,g,f):=s.cel i a _ o q;cases m:sP (frz n) ω xs with
    |none=>simp_all
    |some p=>let(ds,ω1):=p;rw[m]at e;ext e;let(b,e1,d1):=uP (λs h e=>uN n s h e) s f m;show#[b.kill i,e1.trans ZA.kill,uQ g (b.ahg o) (d1.ev (ZA.kill).ev)]
   |_=>ext e
 |n+1,ω,Y,v,.tp l,d,s,h,e=>by
  let(a,xs,rfl,g,f):=h;unfold frz at e;cases m:sP (frz n) ω (l.map AV.sv)with
  |none=>simp_all
  |some p=>let(ds,ω1):=p;rw[m]at e;ext e;let(b,e1,d1):=uP (λs h e=>uN n s h e) s (vK f) m;show#[b,e1,.tup (g.ev e1.ev) d1]
def Qm(x:SV)(ω:aO):RS SV:=match frz 4 ω x with
 |some (d,ω1)=>.ok (.fz d) ω1
 |none=>.bad
def mh(f:ez):ez:=λρ ω=>(f ρ ω).bind λx ω1=>Qm x ω1
def Af(h:eu K E t f):eu K E t (mh f):=by
 intro B S H Z ω ρ Q s b w;show h B S H Z ω ρ _ s b (w.bind.imp λx U ω1 N e1 g a v i=>?_);unfold Qm at a;cases q:frz 4 ω1 x with
 |none=>rw[q]at a;show a.elim
 |some p=>let(d,X):=p;rw[q]at a;let(e,e2,j):=uN 4 g i q;show a U N e2 e v j
def XOk.sub(h:∀b,O' b->O b)(k:XOk K O H c dx x):XOk K O' H c dx x:=by let(i,fs,g,a):=k;show#[i,fs,g,λf d e=>let#[g1,v,g2,g3]:=a f d e;#[g1,v,g2,g3.ev (Ev.sub h)]]
def um(F:FN)(n:Nat)(xs:G SV)(ω:aO):RS SV:=if xs.length=n then(match aF wc xs with
 |some ds=>(match F ds with
  |.ok a=>kB ω a
  |.er x=>.er x ω
  |.bad=>.bad)
 |none=>(RS.YT ω (aF (wa 6 ω) xs)).bind λds ω1=>(match F ds with
  |.ok a=>tM ω1 a
  |_=>.bad))else .bad
def jL:RS A->RS A
 |.er _ _=>.bad
 |r=>r
def gC(F:FN)(n:Nat)(a:wY):ez:=λρ ω=>(a ρ ω).bind λxs ω1=>jL (um F n xs ω1)
def WS.e0(h:WS K E B H Z ω b (jL r)):WS K E0 B H Z ω b r:=by
 cases r with
 |ok a ω=>show h
 |er x ω=>show h.elim
 |bad=>show h
def LQ(s:YB B K H Z ω)(b:Z0 (ow B Z ω) K H Z o xs)(w:WS K E B H Z ω (PQ B K Q) (um F n xs ω)):CV K n F o H Q E:=by
 unfold um at w;by_cases hn:xs.length=n
 .rw[ax hn]at w
  show#[b.length.trans hn,?_];cases q:aF wc xs with
  |some ds=>
   rw[q]at w;show#[ow B Z ω,ds,s.owd,mL (dE (R:=VOk (ow B Z ω) K H Z) (λv x y r e=>yU r e) b q),?_];dsimp only at w;cases f:F ds with
   |ok g=>rw[f]at w;show DR s w
   |er x=>rw[f]at w;show λc h J e k=>w c h Z J (ZA.same e) (s.grow e) k
   |bad=>rw[f]at w;show w.elim
  |none=>
   rw[q]at w;let(ds,d,w):=WS.YT w;show#[noO,ds,λa z=>z.elim,mL (dE (R:=VOk (ow B Z ω) K H Z) (λv x y r e=>l8 s 6 r e) b d),?_];cases f:F ds with
   |ok g=>rw[f]at w;show DY s w
   |er x=>rw[f]at w;show w.elim
   |bad=>rw[f]at w;show w.elim
 .rw[a6 hn]at w;show w.elim
def KF(c:BE K E o C):eu K E (ug (CV K n F) [] E0 o) (gC F n C):=by intro B S H Z ω ρ Q s b w;show c B S H Z ω ρ _ s b (w.bind.imp λxs U ω1 N e1 d a f e=>?_);rw[YK];show LQ d e (WS.e0 a)
abbrev hG:=G SV->aO->RS SV
def vx(K:lD)(n:Nat)(F:hG):Sp:=λa H Q E=>a.length=n/\∃(B:bG) (Z:G X5) (ω:aO) (xs:G SV),YB B K H Z ω/\Z0 (ow B Z ω) K H Z a xs/\WS K E B H Z ω (PQ B K Q) (F xs ω)
def tF(F:hG)(n:Nat)(a:wY):ez:=λρ ω=>(a ρ ω).bind λxs ω1=>if xs.length=n then jL (F xs ω1)else .bad
def C6(c:BE K E o C):eu K E (ug (vx K n F) [] E0 o) (tF F n C):=by
 intro B S H Z ω ρ Q s d w;show c B S H Z ω ρ _ s d (w.bind.imp λxs U ω1 N e1 e a f b=>?_);rw[YK];by_cases hn:xs.length=n
 .rw[ax hn]at a;show#[b.length.trans hn,B,U,ω1,xs,e,b,WS.e0 a]
 .rw[a6 hn]at a;show a.elim
def tV(ω:aO)(C m:Str):SV->Bool
 |.rf i=>match ω[i]? with
  |some (.obj D fs)=>decide (D=C)&&(fs.lookup m).isNone
  |_=>XZ
 |_=>XZ
def aD(C m:Str)(F:hG)(n:Nat)(a:ez)(b:wY):ez:=λρ ω=>(a ρ ω).bind λx ω1=>if tV ω1 C m x=XX then(b ρ ω1).bind λxs X=>(if(x::xs).length=n then jL (F (x::xs) X)else .bad)else .bad
def Qo(f:Yt K Yj C=R (R (.ref I)))(s:YB B K H Z ω)(b:VOk (ow B Z ω) K H Z v x)(h:tV ω C m x=XX):∃a k fs,v=.ref a/\H a=R (.ins I k fs)/\fs.lookup m=P:=by
 cases x with
 |fz d=>ext h
 |tp l=>ext h
 |rf i=>
  let(a,r,rfl):=b;unfold tV at h;dsimp only at h;cases q:ω[i]? with
  |none=>simp_all
  |some c=>
   rw[q]at h;cases c with
   |obj D fs=>rw[Ld]at h;let(j,g):=h;let e:=b3 j;subst e;let(p,k,ws,g0,o,n):=s.cel i a _ r q;rw[f]at g0;ext g0;show#[a,k,ws,W,o,Bz n (Z9.mp g)]
   |_=>ext h
def Cy(p:Yt K Yj C=R (R (.ref Ca)))(o:eu K E to fo)(c:BE K E I fa):eu K E (Bj Ca m (vx K n F) [] E0 to I) (aD C m F n fo fa):=by
 intro B S H Z ω ρ Q s f w;show o B S H Z ω ρ _ s f (w.bind.imp λx U ω1 N e1 g d v i=>?_);by_cases h:tV ω1 C m x=XX
 .rw[ax h]at d
  let(a,u,fs,rfl,r,q):=Qo p g i h;show#[a,u,fs,W,r,q,?_];show c B S N U ω1 ρ _ g (f.evo e1) (d.bind.imp λxs T X L e2 l b t e=>?_);rw[YK];let j:Z0 (ow B T X) K L T (.ref a::t) (x::xs):=.cons (i.evo e2) e;by_cases hn:(x::xs).length=n
  .rw[ax hn]at b;show#[j.length.trans hn,B,T,X,_,l,j,WS.e0 b]
  .rw[a6 hn]at b;show b.elim
 .rw[a6 h]at d;show d.elim
def Fs:SV->Bool
 |.fz .none=>XX
 |_=>XZ
def zB(C:Str)(F:hG)(n:Nat)(xs:G SV)(ω:aO):RS SV:=if(SV.rf ω.length::xs).length=n then(F (.rf ω.length::xs) (ω++[.obj C []])).bind λr X=>(if Fs r=XX then .ok (.rf ω.length) X else .bad)else .bad
def iR(C:Str)(F:hG)(n:Nat)(a:wY):ez:=λρ ω=>(a ρ ω).bind λxs ω1=>jL (zB C F n xs ω1)
def JK(h:Fs x=XX)(a:VOk O K H Z v x):v=.non:=by
 unfold Fs at h;split at h
 .ext a;rfl
 .ext h
def Rs(p:Yt K Yj C=R (R (.ref I)))(s:YB B K H Z ω)(o:Z0 (ow B Z ω) K H Z vs xs)(w:WS K E B H Z ω (PQ B K Q) (zB C F n xs ω)):
  ∀x c,H x=P->H c=P->c≠x->vx K n F (.ref x::(vs++[])) (bj (bj H c (.own x)) x (.ins I c [])) (λv L=>v=.non/\Q (.ref x) L) E:=by
 intro x c d h g;rw[YK];unfold zB at w;let i:Zw H (bj (bj H c (.own x)) x (.ins I c [])):=(a9 h _).trans (a9 (by rw[aQ (λz=>g z.symm)];show d) _);let e:ZA Z ω H (Z++[x]) (ω++[.obj C []]) (bj (bj H c (.own x)) x (.ins I c [])):=ZA.adY s.len i d;let m:YB B K (bj (bj H c (.own x)) x (.ins I c [])) (Z++[x]) (ω++[.obj C []]):=s.adY i d (by rw[aI];simp) #[I,c,[],p,aI,.nil];let a:∀{M:G X5} {Y:aO} {J:Hp},ZA (Z++[x]) (ω++[.obj C []]) (bj (bj H c (.own x)) x (.ins I c [])) M Y J->VOk (ow B M Y) K J M (.ref x) (.rf ω.length):=λe=>#[x,e.pre _ _ (by rw[<-s.len];show aH),W];by_cases hn:(SV.rf ω.length::xs).length=n
 .rw[ax hn]at w
  let j:Z0 (ow B (Z++[x]) (ω++[.obj C []])) K (bj (bj H c (.own x)) x (.ins I c [])) (Z++[x]) (.ref x::vs) (.rf ω.length::xs):=.cons (a .refl) (Z0.evo e o);show#[j.length.trans hn,B,_,_,_,m,j,?_];show WS.imp (WS.from e w.bind) λr T X L e2 l b v f=>?_;by_cases z:Fs r=XX
  .rw[ax z]at b;show#[JK z f,WS.now l b _ (a e2)]
  .rw[a6 z]at b;show b.elim
 .rw[a6 hn]at w;show w.elim
def Dv(f:Yt K Yj C=R (R (.ref Ca)))(c:BE K E o I):eu K E (AB Ca (vx K n F) [] E0 o) (iR C F n I):=by intro B S H Z ω ρ Q s b w;show c B S H Z ω ρ _ s b (w.bind.imp λxs U ω1 N e1 d a g e=>?_);show Rs f d e (WS.e0 a)
def fW(ω:aO):SV->z (Nat×G SV)
 |.rf i=>match ω[i]? with
  |some (.lst xs)=>R (i,xs)
  |_=>P
 |_=>P
def ni(s:YB B K H Z ω)(b:VOk (ow B Z ω) K H Z v x)(h:fW ω x=R (i,xs)):ω[i]?=R (.lst xs)/\∃a k,Z[i]?=R a/\v=.ref a/\H a=R (.lst k)/\Z0 (ow B Z ω) K H Z k xs:=by
 cases x with
 |fz d=>ext h
 |tp l=>ext h
 |rf j=>
  let(a,n,rfl):=b;unfold fW at h;dsimp only at h;cases q:ω[j]? with
  |none=>simp_all
  |some c=>
   rw[q]at h;cases c with
   |lst m=>let e:=Yq h;ext e;let(k,g,f):=s.cel i a _ n q;show#[q,a,k,n,W,g,f]
   |_=>ext h
def uK(h:Paired d o xs)(r:d v x):Paired d (o++[v]) (xs++[x]):=by
 induction h with
 |nil=>show .cons r .nil
 |cons a _ b=>show .cons a b
def uX(b c:ez):ez:=λρ ω=>(b ρ ω).bind λo ω1=>(RS.YT ω1 (fW ω1 o)).bind λ_ ω1=>(c ρ ω1).bind λx X=>(RS.YT X (fW X o)).bind λp a=>
 if p.2.length<1000000 then .ok (.fz .none) (a.set p.1 (.lst (p.2++[x])))else .bad
def Jx(C:eu K E to fo)(F:eu K E te fe):eu K E (Q7 K "list" uB to (g7 te jx)) (uX fo fe):=by
 intro B S H Z ω ρ Q s g w;show C B S H Z ω ρ _ s g (w.bind.imp λo U ω1 N e1 l d v m=>?_);let((P,t),y,d):=WS.YT d;let(_,p,e,_,rfl,g0,_):=ni l m y;show#[.inl #[W,e,SqL.of g0],?_];show F B S N U ω1 ρ _ l (g.evo e1) (d.bind.imp λx T X L e2 j b u A=>?_);let((i,xs),q,b):=WS.YT b;let(f,a,vs,ha,I,G,n):=ni j (m.evo e2) q;ext I;dsimp only at b;by_cases hn:xs.length<1000000
 .rw[ax hn]at b;let ev:Ev (ow B T X) L (ow B T X) (bj L p (.lst (vs++[u]))):=sj ha f (by nofun);show#[p,vs,u,W,W,G,tJ (by rw[n.length];show hn),?_];show b T _ (ZA.put ha f (by nofun) (by nofun)) (j.put ha f (by nofun) (by nofun) #[_,aI,uK (Paired.aaQ n λ_ _ r=>r.ev ev λ_ _ h=>h) (A.ev ev λ_ _ h=>h)]) _ .non
 .rw[a6 hn]at b;show b.elim
end
inductive FlS where
 |nx (ρ:bc)
 |bk (ρ:bc)
 |ct (ρ:bc)
 |rt (x:SV)
abbrev fK:=bc->aO->RS FlS
abbrev v9:=SV->bc->aO->RS bc
abbrev BG:=G SV->bc->aO->RS bc
def G5(B:bG)(K:lD)(D:Ends):FlS->G J->aO->Hp->Prop
 |.nx b,α,a,H=>∀σ,aah (ow B α a) K H α σ b->D.nx σ H
 |.bk b,α,a,H=>∀σ,aah (ow B α a) K H α σ b->D.bk σ H
 |.ct b,α,a,H=>∀σ,aah (ow B α a) K H α σ b->D.ct σ H
 |.rt x,α,a,H=>∀v,VOk (ow B α a) K H α v x->D.rt v H
def tt(K:lD)(E:XK)(t:TS)(g:fK):Prop:=
 ∀(B:bG) (a:L2.St) (H:Hp) (α:G J) (b:aO) (d:bc) (D:Ends),YB B K H α b->aah (ow B α b) K H α a d->WS K E B H α b (G5 B K D) (g d b)->t D a H
def HW(K:lD)(E:XK)(g:TG)(f:v9):Prop:=
 ∀(B:bG) (e:L2.St) (H:Hp) (α:G J) (i:aO) (l:bc) (v:V) (x:SV) (Q:L2.St->Hp->Prop),YB B K H α i->aah (ow B α i) K H α e l->VOk (ow B α i) K H α v x->WS K E B H α i (λd a b h=>∀j,aah (ow B a b) K h a j d->Q j h) (f x l i)->g v e H Q
def D5(K:lD)(E:XK)(g:yu)(f:BG):Prop:=
 ∀(B:bG) (e:L2.St) (H:Hp) (α:G J) (i:aO) (l:bc) (m:G V) (xs:G SV) (Q:L2.St->Hp->Prop),YB B K H α i->aah (ow B α i) K H α e l->Z0 (ow B α i) K H α m xs->WS K E B H α i (λd a b h=>∀j,aah (ow B a b) K h a j d->Q j h) (f xs l i)->g m e H Q
section
variable{B O O':bG}{K:lD}{E:XK}{H P S N:Hp}{X I U Y:cc X5}{ω M ω1 Z:aO}{T:L2.St}{ρ:bc}{v:V}
def aah.set(a:aah O K H X T ρ)(h:VOk O K H X v x):aah O K H X (T.set i (R v)) (ρ.set i (R x)):=by
 show#[by rw[Y7,Y7];show a.1,λj y f=>?_];rcases bX f with⟨rfl,e⟩|⟨d,b⟩
 .ext e;show#[v,?_,h];rw[ZV];let:=uM f;rw[a.1];show this
 .let(u,l,g):=a.2 j y b;show#[u,by rw[aaz (λz=>d z.symm)];show l,g]
def dW(i:Nat):v9:=λx ρ ω=>.ok (ρ.set i (R x)) ω
theorem rc:HW K E (pf i) (dW i):=λB T H X ω ρ v x Q s a h w=>WS.now s w _ (a.set h)
def v4:BG:=λxs ρ ω=>match xs with
 |[]=>.ok ρ ω
 |_=>.bad
def mf(f:v9)(g:BG):BG:=λxs ρ ω=>match xs with
 |x::r=>(f x ρ ω).bind λa ω1=>g r a ω1
 |[]=>.bad
def KU:D5 K E IK v4:=by
 intro B T H X ω ρ b xs Q s a h w;cases h with
 |nil=>show#[W,WS.now s w _ a]
 |cons _ _=>show w.elim
def EA(o:HW K E t f)(n:D5 K E u g):D5 K E (A1 t u) (mf f g):=by
 intro B T H X ω ρ p xs Q s l h w;cases h with
 |nil=>show w.elim
 |cons a b=>show#[_,_,W,o B T H X ω ρ _ _ _ s l a (WS.imp (WS.bind w) λe U ω1 S e1 m j d i=>?_)];show n B d S U ω1 e _ _ _ m i (Z0.evo e1 b) j
def Fy:SV->z (G SV)
 |.fz (.tuple ds)=>R (ds.map .fz)
 |.tp l=>R (l.map AV.sv)
 |_=>CL
def QK(h:VOk O K H X v x)(e:Fy x=R xs):∃a c,v=.ref a/\abg O K H a c/\Z0 O K H X c xs:=by
 unfold Fy at e;split at e
 .ext e
  cases h with
  |tup h d=>show#[_,_,W,h,oJ _ _ d]
 .ext e;let(a,b,rfl,g,f):=h;show#[a,b,W,g,vK f]
 .ext e
def Ia(n:Nat)(f:BG):v9:=λx ρ ω=>(RS.YT ω (Fy x)).bind λxs ω1=>if xs.length=n then f xs ρ ω1 else .bad
def Ip(h:D5 K E t f):HW K E (K3 K n t) (Ia n f):=by
 intro B T H X ω ρ v x Q s d e w;let(xs,q,w):=WS.YT w;let(a,i,rfl,g,b):=QK e q;by_cases hn:xs.length=n
 .rw[ax hn]at w;show#[a,i,W,g.1,b.length.trans hn,h B T H X ω ρ i xs Q s d b w]
 .rw[a6 hn]at w;show w.elim
def bC:fK:=λρ ω=>.ok (.nx ρ) ω
def av(f g:fK):fK:=λρ ω=>(f ρ ω).bind λa ω1=>match a with
 |.nx b=>g b ω1
 |a=>.ok a ω1
def bS(f:ez):fK:=λρ ω=>(f ρ ω).bind λ_ ω1=>.ok (.nx ρ) ω1
def b6(f:ez)(g:v9):fK:=λρ ω=>(f ρ ω).bind λx ω1=>(g x ρ ω1).bind λa Z=>.ok (.nx a) Z
def bE(c:sJ)(f g:fK):fK:=λρ ω=>(c ρ ω).bind λb ω1=>if b=XX then f ρ ω1 else g ρ ω1
def eK(f:ez):fK:=λρ ω=>(f ρ ω).bind λx ω1=>.ok (.rt x) ω1
def qj:fK:=λ_ ω=>.ok (.rt (.fz .none)) ω
def zr:fK:=λ_ _=>.bad
theorem DZ:tt K E HN bC:=λB T H X ω ρ D s a w=>WS.now s w T a
theorem BX:tt K E yG zr:=λB T H X ω ρ D s a w=>w.elim
theorem EE:tt K E MH qj:=λB T H X ω ρ D s a w=>WS.now s w .non .non
def IT(l:tt K E t f)(j:tt K E u g):tt K E (Il t u) (av f g):=by
 intro B T H X ω ρ D s i w;show l B T H X ω ρ {D with nx:=u D} s i (WS.imp (WS.bind w) λm U ω1 S e1 d b=>?_);cases m with
 |nx a=>show λe h=>j B e S U ω1 a D d h b
 |rt x=>show WS.now (E:=E) d b
 |bk a=>show WS.now (E:=E) d b
 |ct a=>show WS.now (E:=E) d b
def Ds(h:eu K E t f):tt K E (zY t) (bS f):=by intro B T H X ω ρ D s a w;show h B T H X ω ρ _ s a (WS.imp (WS.bind w) λx U ω1 S e1 d b v e=>WS.now d b T (a.evo e1))
def Bh(h:eu K E t f)(o:HW K E g C):tt K E (zu t g) (b6 f C):=by intro B T H X ω ρ D s d w;show h B T H X ω ρ _ s d (WS.imp (WS.bind w) λx U ω1 S e1 m j v n=>?_);show o B T S U ω1 ρ v x _ m (d.evo e1) n (WS.imp (WS.bind j) λe Y Z N e2 l i a b=>WS.now l i a b)
def NS(h:uD K E c o)(j:tt K E t f)(i:tt K E u g):tt K E (JU c t u) (bE o f g):=by
 intro B T H X ω ρ D s a w;show h B T H X ω ρ _ s a (WS.imp (WS.bind w) λb U ω1 S e1 e d=>?_);cases b with
 |true=>show j B T S U ω1 ρ D e (a.evo e1) d
 |false=>show i B T S U ω1 ρ D e (a.evo e1) d
def JL(h:eu K E t f):tt K E (LR t) (eK f):=by intro B T H X ω ρ D s b w;show h B T H X ω ρ _ s b (WS.imp (WS.bind w) λx U ω1 S e1 d a v e=>WS.now d a v e)
def cX(f:Str)(x:SV):G (Str×SV)->G (Str×SV)
 |[]=>[(f,x)]
 |(g,y)::r=>if g=f then(g,x)::r else(g,y)::cX f x r
def P3(h:VOk O K H X v x):∀{ws:G (Str×V)} {fs:G (Str×SV)},Paired (λ(p:Str×V) (q:Str×SV)=>p.1=q.1/\VOk O K H X p.2 q.2) ws fs->Paired (λ(p:Str×V) (q:Str×SV)=>p.1=q.1/\VOk O K H X p.2 q.2) (jM f v ws) (cX f x fs):=by
 intro ws fs p
 induction p with
 |nil=>show .cons #[W,h] .nil
 | @cons a b _ _ q t i=>
  let(g,u):=a;let(d,y):=b;let(e,k):=q;ext e;unfold jM cX;by_cases z:g=f
  .rw[ax z,ax z];show .cons #[W,h] t
  .rw[a6 z,a6 z];show .cons #[W,k] i
def Hq(ω:aO)(C:Str):SV->z (Nat×G (Str×SV))
 |.rf i=>match ω[i]? with
  |some (.obj D fs)=>if D=C then R (i,fs)else CL
  |_=>CL
 |_=>CL
def Sf(s:YB B K H X ω)(b:VOk (ow B X ω) K H X v x)(h:Hq ω C x=R (i,fs)):ω[i]?=R (.obj C fs)/\∃a k n ws,X[i]?=R a/\v=.ref a/\Yt K Yj C=R (R (.ref k))/\H a=R (.ins k n ws)/\Paired (λ(p:Str×V) (q:Str×SV)=>p.1=q.1/\VOk (ow B X ω) K H X p.2 q.2) ws fs:=by
 cases x with
 |fz d=>ext h
 |tp l=>ext h
 |rf j=>
  let(a,o,rfl):=b;unfold Hq at h;dsimp only at h;cases q:ω[j]? with
  |none=>simp_all
  |some c=>
   rw[q]at h;cases c with
   |obj D gs=>
    dsimp only at h;by_cases z:D=C
    .subst z;rw[ax W]at h;let e:=Yq h;ext e;let(k,n,ws,m,g,f):=s.cel i a _ o q;show#[q,a,k,n,ws,o,W,m,g,f]
    simp_all
   |_=>ext h
def dA(C f:Str)(b c:ez):fK:=λρ ω=>(c ρ ω).bind λx ω1=>(b ρ ω1).bind λo Z=>(RS.YT Z (Hq Z C o)).bind λp a=>if p.2.length<100 then .ok (.nx ρ) (a.set p.1 (.obj C (cX f x p.2)))else .bad
def Lx(G:nZ K C L)(A:f∈L)(z:eu K E to fo)(F:eu K E te fe):tt K E (SS K to te f) (dA C f fo fe):=by
 intro B T H X ω ρ D s e w;show F B T H X ω ρ _ s e (WS.imp (WS.bind w) λx U ω1 S e1 p n v t=>?_);show z B T S U ω1 ρ _ p (e.evo e1) (WS.imp (WS.bind n) λo Y Z N e2 j b u y=>?_);let((i,fs),q,b):=WS.YT b;let(g,a,d,dx,ws,ha,rfl,m,J,l):=Sf j y q;let(Cb,g0,R,Q):=G;rw[m]at g0;ext g0;dsimp only at b;by_cases hn:fs.length<100
 .rw[ax hn]at b;let ev:Ev (ow B Y Z) N (ow B Y Z) (bj N a (.ins d dx (jM f v ws))):=sj ha g (by simp_all);let e3:ZA Y Z N Y (Z.set i (.obj C (cX f x fs))) (bj N a (.ins d dx (jM f v ws))):=ZA.put ha g (by simp_all) (by simp_all);let hl:=Paired.length l;show#[a,d,dx,ws,W,J,R,Q f A,by ext,?_];show b Y _ e3 (j.put ha g (by simp_all) (by simp_all) #[d,dx,_,m,aI,P3 ((t.evo e2).ev ev λ_ _ h=>h) (Paired.aaQ l λ_ _ r=>#[r.1,r.2.ev ev λ_ _ h=>h])]) T ((e.evo (e1.trans e2)).evo e3)
 .rw[a6 hn]at b;show b.elim
abbrev Rv:=bc->aO->RS (G D)
def Uc(K:lD)(E:XK)(b:TI)(c:Rv):Prop:=
 ∀(B:bG) (T:L2.St) (H:Hp) (X:G X5) (ω:aO) (ρ:bc) (a:It->Hp->Prop),YB B K H X ω->aah (ow B X ω) K H X T ρ->WS K E B H X ω (λds I M P=>∀J,pG K J (ow B I M) P ds->a J P) (c ρ ω)->b T H a
def jO(f:FI):Rv:=λρ ω=>match f (bO ρ)with
 |.ok (ds,_)=>.ok ds ω
 |.er x=>.er x ω
 |.bad=>.bad
def HQ(h:IO K E C f):Uc K E C (jO f):=by
 intro B T H X ω ρ i s d w;show h (ow B X ω) H (ow B X ω) T H (bO ρ) i (GH s d) ?_;unfold jO at w;cases q:f (bO ρ)with
 |bad=>rw[q]at w;show w.elim
 |er x=>rw[q]at w;show λc l P e k=>w c l X P (ZA.same e) (s.grow e) k
 |ok r=>let(ds,a):=r;rw[q]at w;show λO' J P e R g=>w X P (ZA.same R.same) (s.grow R.same) J λj N e2 n=>g j N (λb o h z=>e2 b o h λy=>z (R.bo b y)) n
def i8(a:ez):Rv:=λρ ω=>(a ρ ω).bind λx ω1=>(match frz 4 ω1 x with
 |some (d,Z)=>RS.YT Z (eF d)
 |none=>.bad)
def K7(h:eu K E o C):Uc K E (Hl K o) (i8 C):=by
 intro B T H X ω ρ l s f w;show h B T H X ω ρ _ s f (WS.imp (WS.bind w) λx U ω1 S e1 g a v i=>?_);cases q:frz 4 ω1 x with
 |none=>rw[q]at a;show a.elim
 |some p=>
  let(d,Z):=p;rw[q]at a;let(e,e2,j):=uN 4 g i q;dsimp only at a;cases m:eF d with
  |none=>rw[m]at a;show a.elim
  |some ds=>
   rw[m]at a;cases j with
   |tup h b=>ext m;show#[_,W,.inr #[#[_,h.1],a U S e2 e _ (HB h b)]]
   |lst h b=>ext m;show#[_,W,.inl #[#[_,h.1.sq],a U S e2 e _ (Bp h b)]]
   |_=>ext m
def lc(gt:v9)(b:fK):G D->fK
 |[],ρ,ω=>.ok (.nx ρ) ω
 |d::r,ρ,ω=>(gt (.fz d) ρ ω).bind λa ω1=>(b a ω1).bind λe Z=>match e with
  |.nx f=>lc gt b r f Z
  |.ct f=>lc gt b r f Z
  |.bk f=>.ok (.nx f) Z
  |.rt x=>.ok (.rt x) Z
def qB(a:Rv)(gt:v9)(b:fK):fK:=λρ ω=>(a ρ ω).bind λds ω1=>lc gt b ds ρ ω1
def JO(c:Uc K E wi fi)(k:HW K E g gt)(hb:tt K E tb b):tt K E (Je wi g tb) (qB fi gt b):=by
 intro B T H X ω ρ D s R w;show c B T H X ω ρ _ s R (WS.imp (WS.bind w) λds U ω1 S e1 s1 w1 J it=>?_);show#[λi m a P=>m=ds.length - i/\i<=ds.length/\∃Y Z ρ2,ZA U ω1 S Y Z P/\YB B K P Y Z/\aah (ow B Y Z) K P Y a ρ2/\WS K E B P Y Z (G5 B K D) (lc gt b (ds.drop i) ρ2 Z),#[_,W,Zj _,U,ω1,ρ,.refl,s1,R.evo e1,w1],?_];rintro i m n N ⟨rfl,c,Y,Z,ρ2,e2,s2,sl2,w2⟩;let(go,p):=it (ow B Y Z) N e2.ev s2.noO;by_cases h:i<ds.length
 .let(g1,g2):=go i h
  show .inr #[g1,λa P=>i+1<=ds.length/\∃Y Z ρ2,ZA U ω1 S Y Z P/\YB B K P Y Z/\aah (ow B Y Z) K P Y a ρ2/\WS K E B P Y Z (G5 B K D) (lc gt b (ds.drop (i+1)) ρ2 Z),λa P #[h1,h2]=>#[ds.length - (i+1),by ext,W,h1,h2],λx Q y=>?_];let(s3,d,hd,dv):=g2 x Q y;let ed:ds.drop i=d::ds.drop (i+1):=by let(_,q):=X0.mp hd;rw[ZI h,q]
  rw[ed]at w2;let e3:ZA Y Z N Y Z Q:=ZA.same s3;show k B n Q Y Z ρ2 x (.fz d) _ (s2.grow s3) (sl2.evo e3) dv (WS.imp (WS.bind (WS.from e3 w2)) λF G z H4 e4 s4 w3 C L=>?_);show hb B C H4 G z F _ s4 L (WS.imp (WS.bind w3) λfl o l H5 e5 u t=>?_);let r:=e2.trans (e3.trans (e4.trans e5));cases fl with
  |nx f=>show λA j=>#[h,o,l,f,r,u,j,t]
  |ct f=>show λA j=>#[h,o,l,f,r,u,j,t]
  |bk f=>show WS.now (E:=E) u t
  |rt x=>show WS.now (E:=E) u t
 .let e:i=ds.length:=by ext
  subst e;rw[aas (X6 _)]at w2;show .inl #[p,WS.now s2 w2 n sl2]
end
section
variable{B O O':bG}{K:lD}{E:XK}{H T S L:Hp}{U R X Y:cc X5}{ω ω' ω1 Z:aO}{M:L2.St}{ρ:bc}{v:V}
def dj(gt:v9)(c:sJ)(f:ez):G D->bc->aO->G SV->RS (G SV)
 |[],_,ω,acc=>.ok acc ω
 |d::r,ρ,ω,acc=>(gt (.fz d) ρ ω).bind λa ω1=>(c a ω1).bind λb Z=>if b=XX then(f a Z).bind λx e=>(if acc.length<1000000 then dj gt c f r a e (acc++[x])else .bad)else dj gt c f r a Z acc
def jN(n:Nat)(a:G Nat)(ρ:bc):bc:=X1 n P++a.map λj=>(ρ[j]?).join
def jF(n:Nat)(a:G Nat)(c:Rv)(gt:v9)(b:sJ)(d:ez):ez:=λρ ω=>(c ρ ω).bind λds ω1=>(jL (dj gt b d ds (jN n a ρ) ω1 [])).bind λxs Z=>.ok (.rf Z.length) (Z++[.lst xs])
def AM{own:G Str}{d:G (Str×Nat)}{n:Nat}{f:G Nat}(c:own.length=n)(h:d.map (·.2)=f)(i:aah O K H U M ρ):aah O K H U (iW own d M) (jN n f ρ):=by
 unfold iW jN;rw[Bu c];let l:d.length=f.length:=by rw[<-h,X4]
 show#[by simp_all,λj x b=>?_];by_cases g:j<n
 .rw[Yz (by rw[YE];show g),Zt,ax g]at b;ext b
 .rw[Ys (by simp_all),YE,Yl]at b⊢
  subst h;rw[Yl]at b;cases q:d[j - n]? with
  |none=>simp_all
  |some p=>
   rw[q]at b;let a:(ρ[p.2]?).join=cL x:=Yq b;let e:ρ[p.2]?=cL (cL x):=by
    cases t:ρ[p.2]? with
    |none=>rw[t]at a;ext a
    |some o=>rw[t]at a;show d6 cL a
   let(u,r,m):=i.2 p.2 x e;simp_all
def Fv{p:J}{c:Cell}(a:U.length=ω.length)(e:c≠.dead):ow (bF B p) U ω=ow B (U++[p]) (ω++[c]):=by
 funext b;show propext #[λz=>?_,λz=>?_]
 .rcases z with(z|z)|⟨i,d,h1,g,f⟩
  .show .inl z
  .show .inr #[U.length,c,by rw[z];show aH,by rw[a];show aH,e]
  .show .inr #[i,d,gX h1,gX g,f]
 .rcases z with z|z
  .show .inl (.inl z)
  .rcases sI a z with z|z
   .show .inr z
   .show .inl (.inr z)
def YB.adopt{p:J}{c:G V}{xs:G SV}(s:YB (bF B p) K H U ω)(l:H p=cL (.lst c))(g:Z0 (ow (bF B p) U ω) K H U c xs)(n:¬B p):YB B K H (U++[p]) (ω++[.lst xs]):=by
 let eo:ow (bF B p) U ω=ow B (U++[p]) (ω++[.lst xs]):=Fv s.len (by simp_all);let b:∀(i:Nat) (a:J),U[i]?=cL a->(U++[p])[i]?=cL a:=λi a h=>gX h;let m:∀i:Nat,U[i]?≠cL p:=s.ba p (.inr W);show#[by rw[Yb,Yb,s.len];rfl,λi j a e f=>?_,λa h=>s.bn a (.inl h),λa h i q=>?_,λi a h=>?_,λi a d e f=>?_]
 .rcases b8 e with g1|⟨e1,e2⟩<;>rcases b8 f with g2|⟨e3,e4⟩
  .show s.nd i j a g1 g2
  .simp_all
  .simp_all
  .omega
 .rcases b8 q with q|⟨_,e2⟩
  .show s.ba a (.inl h) i q
  simp_all
 .rcases b8 h with h|⟨_,e2⟩
  .show s.al i a h
  simp_all
 .rw[<-eo]
  rcases b8 f with g2|⟨e1,e2⟩
  .rcases b8 e with g1|⟨e1,_⟩
   .show(s.cel i a d g1 g2).ev .refl b λo q=>q
   .let:=(X0.mp g2).1;let:=s.len;ext
  .rcases b8 e with g1|⟨_,e3⟩
   .let:=(X0.mp g1).1;let:=s.len;ext
   .rw[e2,e3];show#[c,l,Paired.aaQ g λ_ _ r=>r.ev .refl b]
def YB.hide{p:J}{o:HO}(s:YB B K H U ω)(f:H p=P):YB (bF B p) K (bj H p o) U ω:=by let d:Zw H (bj H p o):=a9 f o;let g:=s.grow d;let ev:Ev (ow B U ω) H (ow (bF B p) U ω) (bj H p o):=λb u h n=>#[d b u h,λz=>z.elim (λz=>z.elim (λz=>n (.inl z)) λz=>by simp_all) λz=>n (.inr z)];show#[g.len,g.nd,λa h=>h.elim (g.bn a) λe=>by rw[e,aI];simp,λa h i q=>h.elim (λh=>g.ba a h i q) λe=>by rw[e]at q;show s.al i p q f,g.al,λi a c l j=>?_];show(s.cel i a c l j).ev ev (λ_ _ h=>h) λo q=>d _ _ q
def YB.aiZ{p:J}{o d:HO}(s:YB (bF B p) K H U ω)(g:H p=cL o):YB (bF B p) K (bj H p d) U ω:=by
 let ev:Ev (ow (bF B p) U ω) H (ow (bF B p) U ω) (bj H p d):=Ev.mut (.inl (.inr W)) d;let n:∀b,H b≠P->bj H p d b≠P:=λb h=>by
  by_cases z:b=p
  .subst z;rw[aI];simp
  .rw[aQ z];show h
 show#[s.len,s.nd,λa h=>n a (s.bn a h),s.ba,λi a h=>n a (s.al i a h),λi a c e f=>(s.cel i a c e f).ev ev (λ_ _ h=>h) λu q=>?_];let:a≠p:=λz=>s.ba p (.inr W) i (by rw[<-z];show e);rw[aQ this];show q
theorem ZA.dd{p:J}{o:HO}(e:ZA X ω1 S U ω H)(a:S p=P):ZA X ω1 S U ω (bj H p o):=#[e.pre,λb u h n=>by rw[aQ (bK h a)];show e.kp b u h n,e.lv]
theorem YB.af3{p:J}(s:YB (bF B p) K H U ω):YB B K H U ω:=
 #[s.len,s.nd,λa h=>s.bn a (.inl h),λa h=>s.ba a (.inl h),s.al,λi a c e d=>(s.cel i a c e d).ev (λb o h n=>#[h,λy=>n (y.elim (λy=>.inl (.inl y)) .inr)]) (λ_ _ h=>h) λ_ h=>h]
def x4{own:cc Str}{fv:cc (Str×Nat)}{g:TG}{tc:TT}{te:TE}{gt:v9}{s:sJ}{k:ez}{n:Nat}{fj:cc Nat}{J:It}{Q:VK}{ds:cc D}(hn:own.length=n)(hf:fv.map (·.2)=fj)
  (hg:HW K E g gt) (ht:uD K E tc s) (he:eu K E te k) (s1:YB B K S X ω1) (sl1:aah (ow B X ω1) K S X M ρ) (it:pG K J (ow B X ω1) S ds) (w1:WS K E B S X ω1 (PQ B K Q) ((dj gt s k ds (jN n fj ρ) ω1 []).bind λxs Z=>.ok (.rf Z.length) (Z++[.lst xs]))):
  ∀D,S D=CL->A6 J D (iW own fv M) g tc te S λT=>Q (.ref D) T:=by
 intro p hD;let slc:aah (ow B X ω1) K S X (iW own fv M) (jN n fj ρ):=AM hn hf sl1;generalize qr:dj gt s k ds (jN n fj ρ) ω1 []=rr at w1;by_cases C:rr=.bad
 .subst C;show w1.elim
 .
  let hB:¬B p:=λz=>s1.bn p z hD;let evH:∀{Y:cc X5} {Z:aO} {T:Hp},ZA X ω1 S Y Z T->Ev (ow B X ω1) S (ow (bF B p) Y Z) T:=λe b o h n=>#[e.kp b o h λz=>n (.inr z),λz=>by
   rcases z with(z|z)|z
   .show n (.inl z)
   .simp_all
   .show(e.lv b z).elim (λq=>n (.inr q)) λq=>by simp_all]
  show#[λi m σ' T=>m=ds.length - i/\i<=ds.length/\∃Y Z ρc acc ys,ZA X ω1 S Y Z T/\YB (bF B p) K T Y Z/\aah (ow (bF B p) Y Z) K T Y σ' ρc/\T p=cL (.lst ys)/\Z0 (ow (bF B p) Y Z) K T Y ys acc/\dj gt s k (ds.drop i) ρc Z acc=rr,
   #[_,W,Zj _,X,ω1,jN n fj ρ,[],[],ZA.same (a9 hD _),s1.hide hD,?_,aI,.nil,qr],?_]
  .show#[slc.1,λj x hx=>let#[v,h1,h2]:=slc.2 j x hx;#[v,h1,h2.ev (evH (ZA.same (a9 hD _))) λ_ _ h=>h]]
  .rintro i m σ2 L ⟨rfl,hi,Y,Z,ρ2,acc,ys,e2,s2,sl2,hy,vy,f⟩
   let(go,stop):=it (ow (bF B p) Y Z) L (evH e2) s2.noO;by_cases G:i<ds.length
   .let(g1,g2):=go i G
    show .inr #[g1,λσ5 I=>i+1<=ds.length/\∃Y Z ρc acc ys,ZA X ω1 S Y Z I/\YB (bF B p) K I Y Z/\aah (ow (bF B p) Y Z) K I Y σ5 ρc/\I p=cL (.lst ys)/\Z0 (ow (bF B p) Y Z) K I Y ys acc/\dj gt s k (ds.drop (i+1)) ρc Z acc=rr,
     λσ5 I #[h1,h2]=>#[ds.length - (i+1),by ext,W,h1,h2],λx H3 y=>?_]
    let(s3,d,hd,dv):=g2 x H3 y;let ed:ds.drop i=d::ds.drop (i+1):=by let(_,q):=X0.mp hd;rw[ZI G,q]
    rw[ed]at f;unfold dj at f;let e3:ZA Y Z L Y Z H3:=ZA.same s3;let kD:∀{αx αy:cc X5} {ωx ωy:aO} {Hx Hy:Hp} {o:HO},YB (bF B p) K Hx αx ωx->ZA αx ωx Hx αy ωy Hy->Hx p=cL o->Hy p=cL o:=λsx ex h=>ex.kp _ _ h λ#[i,c,q,_]=>sx.ba p (.inr W) i q;let w:∀{α3:cc X5} {u:aO} {H3:Hp} {z:Xc} {t:aO},ZA X ω1 S α3 u H3->RS.er z t=rr->∀c dx R T,ZA α3 u H3 R t T->YB (bF B p) K T R t->XOk K (ow (bF B p) R t) T c dx z->E c dx T:=λ{α3 u H3 z t} e3 q c dx R T e s' x'=>by subst q;show w1 c dx R T (e3.trans e) s'.af3 (XOk.sub (λb y=>y.elim (λy=>.inl (.inl y)) .inr) x')
    show hg (bF B p) σ2 H3 Y Z ρ2 x (.fz d) _ (s2.grow s3) (sl2.evo e3) dv ?_;cases qg:gt (.fz d) ρ2 Z with
    |er z t=>rw[qg]at f;show w (e2.trans e3) f
    |bad=>rw[qg]at f;show C f.symm
    |ok l N=>
     rw[qg]at f;intro α4 H4 e4 s4 σ4 sl4;show ht (bF B p) σ4 H4 α4 N l _ s4 sl4 ?_;let f:((s l N).bind λb Z=>if b=XX then(k l Z).bind λx u=>(if acc.length<1000000 then dj gt s k (ds.drop (i+1)) l u (acc++[x])else .bad)else dj gt s k (ds.drop (i+1)) l Z acc)=rr:=f;cases qt:s l N with
     |er z t=>rw[qt]at f;show w (e2.trans (e3.trans e4)) f
     |bad=>rw[qt]at f;show C f.symm
     |ok b A=>
      rw[qt]at f;intro α5 I e5 s5;let sl5:=sl4.evo e5;let BP:=e3.trans (e4.trans e5);cases b with
      |false=>let f:dj gt s k (ds.drop (i+1)) l A acc=rr:=f;show#[G,α5,A,l,acc,ys,e2.trans BP,s5,sl5,kD s2 BP hy,Z0.evo BP vy,f]
      |true=>
       let f:((k l A).bind λx u=>(if acc.length<1000000 then dj gt s k (ds.drop (i+1)) l u (acc++[x])else .bad))=rr:=f;rw[ax W];show he (bF B p) σ4 I α5 A l _ s5 sl5 ?_;cases qe:k l A with
       |er z t=>rw[qe]at f;show w (e2.trans BP) f
       |bad=>rw[qe]at f;show C f.symm
       |ok x6 F=>
        rw[qe]at f;intro P H6 e6 s6 v6 hv6;let f:(if acc.length<1000000 then dj gt s k (ds.drop (i+1)) l F (acc++[x6])else .bad)=rr:=f;by_cases hl6:acc.length<1000000
        .rw[ax hl6]at f;let KM:=BP.trans e6;let hy6:H6 p=cL (.lst ys):=kD s2 KM hy;let vy6:=Z0.evo KM vy;let em:Ev (ow (bF B p) P F) H6 (ow (bF B p) P F) (bj H6 p (.lst (ys++[v6]))):=Ev.mut (.inl (.inr W)) _;let sl6:=sl5.evo e6;show#[ys,hy6,tJ (by rw[vy6.length];show hl6),G,P,F,l,acc++[x6],ys++[v6],(e2.trans KM).dd hD,s6.aiZ hy6,#[sl6.1,λj x hx=>let#[v,h1,h2]:=sl6.2 j x hx;#[v,h1,h2.ev em λ_ _ h=>h]],aI,uK (Paired.aaQ vy6 λ_ _ r=>r.ev em λ_ _ h=>h) (hv6.ev em λ_ _ h=>h),f]
        .rw[a6 hl6]at f;show b4 f.symm C
   .let e:i=ds.length:=by ext
    subst e;rw[aas (X6 _)]at f;let f:RS.ok acc Z=rr:=f;subst f;show .inl #[stop,?_];show w1 (Y++[p]) L #[λi a h=>gX (e2.pre i a h),e2.kp,λb z=>(sI s2.len z).elim (e2.lv b) λz=>.inr (by rw[z];show hD)] (s2.adopt hy vy hB) (.ref p) #[p,by rw[<-s2.len];show aH,W]
def G4{A C:Type}{P:C->G J->aO->Hp->Prop}{r:RS A}{k:A->aO->C}{m:A->aO->aO}(w:WS K E B H U ω P ((jL r).bind λa o=>.ok (k a o) (m a o))):WS K E0 B H U ω P (r.bind λa o=>.ok (k a o) (m a o)):=by
 cases r with
 |ok a o=>show w
 |er x o=>show w.elim
 |bad=>show w
def Hg{own:G Str}{f:G (Str×Nat)}{a:TI}{g:TG}{d:TT}{b:TE}{k:Rv}{gt:v9}{c:sJ}{r:ez}{n:Nat}{h:G Nat}(t:own.length=n)(p:f.map (·.2)=h)
  (u:Uc K E a k) (o:HW K E0 g gt) (m:uD K E0 d c) (q:eu K E0 b r):eu K E (qD own f a g d b) (jF n h k gt c r):=by
 intro B M H U ω ρ Q s e w;show u B M H U ω ρ _ s e (WS.imp (WS.bind w) λds X ω1 S e1 j i J l=>?_);show x4 t p o m q j (e.evo e1) l (G4 i)
def cZ(N:Nat)(g:fK):hG:=λxs ω=>(g (xs.map cL++X1 (N - xs.length) P) ω).bind λa ω1=>match a with
 |.rt x=>.ok x ω1
 |.nx _=>.ok (.fz .none) ω1
 |_=>.bad
def GK{N:G Str}{c:G V}{xs:G SV}(h:Z0 O K H U c xs):aah O K H U (L2.start N c) (xs.map cL++X1 (N.length - xs.length) P):=by
 let e:c.length=xs.length:=Paired.length h;ext L2.start;show#[by simp_all,λi x a=>?_];by_cases hi:i<xs.length
 .rw[Yz (by simp_all),Yl]at a
  cases q:xs[i]? with
  |none=>rw[q]at a;ext a
  |some d=>rw[q]at a;ext a;let(v,b,f):=yY h q;show#[v,?_,f];rw[Yz (by rw[X4,e];show hi),Yl,b];rfl
 .rw[Ys (by rw[X4];ext),Zt]at a;split at a<;>ext a
def yz{N:G Str}{c:G V}{xs:G SV}{g:fK}{t:TS}{Q:VK}{n:Nat}(e:tt K E t g)(h:vx K n (cZ N.length g) c H Q E):t {nx:=λ_ T=>Q .non T,rt:=Q} (L2.start N c) H:=by
 let(j,B,U,ω,xs,s,d,w):=h;show e B _ H U ω _ _ s (GK d) (WS.imp (WS.bind w) λf X ω1 S e1 b a=>?_);cases f with
 |rt x=>show WS.now (E:=E) b a
 |nx ρ=>show λM i=>WS.now (E:=E) b a .non .non
 |bk ρ=>show a.elim
 |ct ρ=>show a.elim
end
def Wg{P:Yr}{w:YJ}{K:lD}{q:Str->z T}{base:Heap}{x a:Str}{st:ZW}{f:J}{e:Zq}{N c:G Str}{k n m:Nat}{g:fK}{i:hG}(F:Fun K x a st f e)(S:aay N c (aG st))(u:c.length=n)(hm:N.length=m)(p:i=cZ m g)
  (d:∀(b:T) (A:YC) (outer:G Env) (s:X3) (H:Hp) (E:XK),ZN k (A.deeper (YX a (aG st) s.heap.objs.size f b))->
   ∃t,PSs (me oa P w K q base N a (aG st) f b A outer s H E).nox (eV st) t/\tt K E t g):FnOk P w K q base oa (k+1) f e c (vx K n i):=by
 subst p hm;show F.ok S (λr H Q E h=>h.1.trans u.symm) (λb A outer s H r Q E o h=>?_);let(t,j,l):=d b A outer s H E o;show#[t,j,yz (xs:=[]) l h]
end L10
namespace PySem.W
open PySem PySem.Calls PyProof.Rows PyProof.V PySem.Spec
section
variable{X:Yr}{w:YJ}{A:YC}{E:XY->X3->Prop}{s:X3}{T:String}{r d:X5}{n:Nat}{P:Nat->XY->Prop}{U:Heap->Prop}
def collect_kdl(K:KdlSrc X w T r d n P U)(m:A.handled=CL)(Zl:U s.heap)(u:n<=Yc)
  (q:∀c k acc,(∀b o,s.heap.get? b=cL o->c.get? b=cL o)->amc P acc n->Q acc.toList {s with heap:=c,toks:=k}):wpAny (model X w) A (collect (.ref r)) Q E s:=by
 let f:=K.there _ Zl;ext collect;show XW (wpAny_runValue (Z8 F.entry_proto_collect ?_));rw[YC.under_plainId F.plain_proto_collect _];show XW (Ze ?_);show X8 #[aaq F.plain_list_iadd _,Z8 F.entry_list_iadd ?_];rw[YC.under_plainId F.plain_list_iadd _];let p:(s.heap.push {cls:=.type "list",data:=.seq ([]:G XY).toArray}).get? s.heap.objs.size=cL {cls:=.type "list",data:=.seq ([]:G XY).toArray}:=c5 _ W;show kdl_extend (R:=wants (λv j=>wpAny (model X w) A (match v with|.ref a=>(load a>>=λo=>match o.data with|.seq xs _=>pure xs.toList|_=>unsupported "internal:collect")|_=>unsupported "internal:collect") Q E j) E) (s:={s with heap:=s.heap.push {cls:=.type "list",data:=.seq ([]:G XY).toArray}}) K m (K.keep _ _ Zl λb _ o e=>cn _ e) _ (Y1 f.1) (Y1 f.2) _ 0 p (λc k h t l g i=>?_) u;show XW (ag7 g ?_);show X8 (q c k h (λb o e=>l b o (Yk (cv e)) (cn _ e)) i)
end
end PySem.W
namespace PyProof.Rows
open PySem
section
variable{X:Yr}{w:YJ}{A:YC}{E:XY->X3->Prop}{s:X3}{T:String}{r d:X5}{n:Nat}{P:Nat->XY->Prop}{U:Heap->Prop}
def ze(K:PySem.W.KdlSrc X w T r d n P U)(p:A.handled=CL)(Zl:U s.heap)(l:n<64)(t:∀acc:Array XY,amc P acc n->IntsAre acc.toList ns)
  (h:∀(a c:Heap) (g:Nat) (out:Array XY) (e:Nat) (f:G Int),(∀b o,s.heap.get? b=R o->a.get? b=R o)->c.get? a.objs.size=R (seqObj "list" out e)->(∀b o,a.get? b=R o->c.get? b=R o)->IntsAre out.toList f->f.Perm ns->f.Pairwise (·<=·)->Q (.ref a.objs.size) {s with heap:=c,toks:=g}):
  wpAny (model X w) A (call (.builtin "sorted") [.ref r]) Q E s:=by
 show Calls.call_function_entry kind_sorted plain_sorted entry_sorted (args_sorted1 _) (XW (X8 (XW (PySem.W.collect_kdl K p Zl (by rw[abj];ext) (λa g acc m C=>XW (amb ?_ (hsz:=by rw[YU,C.1,abj];ext)))))));let i:(a.push (seqObj "list" acc.toList.toArray 0)).get? a.objs.size=R (seqObj "list" acc.toList.toArray 0):=c5 _ W;let j:=t acc C;show XW (Zo (ZY slot_list_sort #[_,i,W] entry_list_sort (list_sort_tree i j (by rw[YU,C.1];show l) λout f y v u=>#[_,W,X8 #[_,W,?_]]) (args_list_sort _)));let(e,q):=r8 i;show h a _ g out e f m q (λb B z=>oW (Yk (cv z)) (cn _ z)) y v u
end
end PyProof.Rows
namespace L10
open PySem PySem.Spec PyProof.Rows L2 L3
def U4(p d:J):HO:=.ext λh=>h.IsValuesView p d
theorem S8(x:h.IsValuesView p d):ObjOk g w H h p (U4 p d):=#[x,let#[o,a,_]:=x;#[o,a],λf e #[o,a,b] k=>#[o,k o a,b]]
def MU:V->G V->Hp->VK->Prop:=λx b H Q=>∃a d,x=.ref a/\b=[]/\H a=R (.dK d)/\∀p,H p=P->Q (.ref p) (bj H p (U4 p a))
def BD:Mz X "dict.values" MU:=by intro f s l H x xs v m Q I g d h;let(a,p,rfl,rfl,e,q):=h;ext g;ext d;let(z,j,n,i,dd):=xD I.Zl e;show call_meetsIn acQ dd.typeIs PySem.F.entry_dict_values (PySem.F.args_dict_values_1 _) (meets_dict_values (cR X.prog X.w) a j) #[#[n,dd],?_];show#[.ref s.heap.objs.size,_,I.laid (λb o e=>cn _ e) (X6 _) (S8 #[_,c5 _ W,W,W]),W,q _ (I.Zl.fresh (X6 _))]
def GZ:G V->Hp->VK->Prop:=λxs H Q=>∃p a b,xs=[.ref p]/\H p=R (U4 p a)/\H a=R (.dK b)/\∀l,H l=P->Q (.ref l) (bj H l (.lst (b.map (·.2))))
def Lq:∀{c:G (o×V)} {b:G (o×T)},KV c b->Vals (c.map (·.2)) (b.map (·.2)):=by
 intro _ _ a
 induction a with
 |nil=>show .nil
 | @cons _ _ _ _ h t d=>show .cons h.2 (d)
def y0(m:X.calm=S):ZS X (.type "list") GZ:=by intro f s B H xs C Q I r h;let(p,a,N,rfl,t,e,q):=h;let(u,rfl,i):=gu r;ext i;let(z,F,U,b,dd):=xD I.Zl e;let(J,A):=dd.dictAt;let(g,_,_):=I.Zl p _ t;show PySem.W.kdl_call (PySem.W.kdl_values) (I.ok.hd m) #[g,A] (by rw[<-b.length];show z) λG E d c l n L=>?_;let y:=PySem.W.kdl_vals_eq d.toList (by rw[YU];show L.1) λj v w=>L.2 j v (by rw[<-abv];show w);show#[.ref s.heap.objs.size,_,I.laid (o:=.lst (N.map (·.2))) l (X6 _) #[by rw[X4];show z,d.toList,c,by rw[y];show Lq b,by rw[Array.toArray_toList];show n],W,q _ (I.Zl.fresh (X6 _))]
def zl:G V->Hp->VK->Prop:=λxs H Q=>∃(p:J) (d:G (cE×V)) (a:G Int),xs=[.ref p]/\H p=R (.dK d)/\d.map (·.1)=a.map Sum.inl/\a.length<64/\∀(l:J) (b:G Int),H l=P->b.Perm a->b.Pairwise (·<=·)->Q (.ref l) (bj H l (.lst (b.map V.int)))
theorem sg:∀{c:G (cE×T)} {ns:G Int} {us:G T},c.map (·.1)=ns.map Sum.inl->us.length=c.length->(∀(j:Nat) (u:T),us[j]?=R u->∃k x,c[j]?=R (k,x)/\(cR prog w).is k u=S)->IntsAre us ns
 |[],[],[],_,_,_=>.nil
 |[],[],_::_,_,h,_=>by simp at h
 |[],_::_,_,h,_,_=>by simp at h
 |_::_,[],_,h,_,_=>by simp at h
 |_::_,_::_,[],_,h,_=>by simp at h
 |(k,y)::c,n::ns,u::us,h1,i,g=>by rw[Yi,Yi,aoa]at h1;let(f,x,e,b):=g 0 u W;ext e;let d:=h1.1;subst d;let(t,rfl):=XY.isInt_shape (show XY.isInt n u=S from b);show .cons _ _ (sg h1.2 (by simpa using i) λj a e=>g (j+1) a (by simpa using e))
def ya(C:X.calm=XX):ZS X (.builtin "sorted") zl:=by
 intro g s M H xs N Q I r h;let(p,YA,i,rfl,e,G,E,q):=h;let(u,rfl,o):=gu r;ext o;let(z,B,vs,b,dd):=xD I.Zl e;let(S,K):=dd.dictAt;let l:vs.map (·.1)=i.map Sum.inl:=by rw[<-b.keys];show G
 let P:vs.length=i.length:=by let:=d6 aaA l;simpa using this
 show ze (PySem.W.kdl_dict B) (I.ok.hd C) K () (λL U=>sg l (by rw[YU];show U.1) λj v J=>U.2 j v (by rw[<-abv];show J)) λF R O d e2 t y A f U m w=>?_;let a:=m.length_eq;let n:=I.kept (t':=s.toks) y;show#[.ref F.objs.size,_,n.laid f (X6 _) ?_,W,q _ t (n.Zl.fresh (X6 _)) m w];show#[?_,d.toList,e2,jS U,A];rw[X4,a];let:(64:Nat)<=Yc:=by decide
 ext
end L10
namespace PySem
open Sem (wp)
namespace F
def lk_tuple_keys:typeLookup (.type "tuple") "keys"=pure P:=by rw[ajp,af6];kernel_rfl
def lk_tuple_hook:typeLookup (.type "tuple") "__getattr__"=pure P:=by rw[ajp,af6];kernel_rfl
def sub_ae:isSubtype (.type "AttributeError") (.type "AttributeError")=pure S:=by rw[isSubtype_type];kernel_rfl
end F
section
variable{X:Yr}{w:YJ}{A:YC}{E:XY->X3->Prop}{h:Heap}{g:Array aee}{d:Drawn}{t:Nat}{Z:OsState}{a:X5}{o:Obj}
def zk{α:Type}{name f:Str}{Q:α->X3->Prop}{E:T->X3->Prop}(hm:f.length<=Yc)(l:A.handled=P)(i:∀e c k,(∀b o,h.get? b=R o->c.get? b=R o)->(#[c,g,d,k,Z]:X3).TypeIs e "AttributeError"->E e #[c,g,d,k,Z]):
  wpAny (model X w) A (raiseAttrError (.ref a) name f:Sem α) Q E #[h,g,d,t,Z]:=by
 let j:¬f.length>Yc:=Nat.not_lt.mpr hm;unfold raiseAttrError newExc newTuple
 repeat (any_goals (first|assumption|wp_step))
 show ab6 (a:=S) F.sub_ae ?_
 repeat (any_goals (first|assumption|wp_step))
 show wpAny_raiseNew_none l (i _ _ _ (λb o e=>?_) ?_)
 .show(c6 _ _ (d0 (Yk (cv (cn _ e))))).trans (cn _ (cn _ e))
 .show#[_,da _ (c5 _ W) W,W]
def oH{f:Tok}{Q:Fin->X3->Prop}{E:T->X3->Prop}{p:Array T}{n:Nat}{i:Array (z T)}(j:h.get? a=R #[.type "tuple",P,.seq p n,i])(m:A.handled=P)(l:∀e c k,(∀b o,h.get? b=R o->c.get? b=R o)->(#[c,g,d,k,Z]:X3).TypeIs e "AttributeError"->E e #[c,g,d,k,Z]):
  wpAny (model X w) A (Yx.«object.__getattribute__» #[[.ref a,.str "keys" f],[]]) Q E #[h,g,d,t,Z]:=by
 let q:(#[h,g,d,t,Z]:X3).TypeIs (.ref a) "tuple":=#[_,j,W];let r:=F.lk_tuple_keys
 repeat (any_goals (first|assumption|wp_step))
 show zk (by left) m l
def sM{f:Tok}{Q:T->X3->Prop}{E:T->X3->Prop}{u:Array T}{n:Nat}{l:Array (ck T)}(i:h.get? a=R #[.type "tuple",P,.seq u n,l])(q:A.handled=P)(m:∀e c k,(∀b o,h.get? b=R o->c.get? b=R o)->(#[c,g,d,k,Z]:X3).TypeIs e "AttributeError"->E e #[c,g,d,k,Z]):
  wpAny (model X w) A (getAttrBy (.ref a) (.str "keys" f) M) Q E #[h,g,d,t,Z]:=by
 let r:(#[h,g,d,t,Z]:X3).TypeIs (.ref a) "tuple":=#[_,i,W];let z:=F.slot_tuple_getattribute.lookup;let y:=F.slot_tuple_getattribute.bind (.ref a);let v:=F.lk_tuple_hook
 repeat (any_goals (first|assumption|wp_step))
 show aaM F.slot_tuple_getattribute.plain F.entry_tuple_ga (F.slot_tuple_getattribute.check _ _ _ _ _ _ _ _ r (F.args_tuple_getattribute_2 _ _) (oH i q λe c k p j=>?_));let fs:=F.sub_ae;show wpAny (model X w) A (getattributeRaised (XY.ref a) (XY.str (Str.ofString "keys") f) (XY.type "tuple") e P M M) Q E _;ext getattributeRaised;show XW (adh j fs ?_)
 repeat (any_goals (first|assumption|wp_step))
 show m e c k p j
def pB(f:h.get? a=R #[.type "tuple",P,.seq I n,C])(l:A.handled=P)(i:∀c k,(∀b o,h.get? b=R o->c.get? b=R o)->Q P #[c,g,d,k,Z]):
  wpAny (model X w) A (getAttr? (.ref a) "keys") Q E #[h,g,d,t,Z]:=by
 unfold getAttr? getAttrBy?;let fs:=F.sub_ae;show XW ?_
 repeat (any_goals (first|assumption|(specialize sM f l λe c k j m=>?_)|wp_step))
 show i c k j
namespace F
theorem entry_upd_loop:entryFor table "dict.update.loop"=R Yx.«dict.update.loop»:=entryFor_of_tree (by kernel_rfl)
def plain_upd_loop:plainId "dict.update.loop"=S:=by left
end F
end
section
variable{prog:Yr}{w:YJ}{A:YC}{E:XY->X3->Prop}{s:X3}{K:Type}[DecidableEq K]{knd:KeyKind prog w K}{I dd Y:X5}{Z:Array XY}{ks:cc (K×XY)}{R:aef->X3->Prop}
def zo(a:G (K×T))(k:K)(v:T):(stored a k v).length<=a.length+1:=by
 ext stored;split
 .rw[X4];ext
 .rw[Yb];show X6 _
theorem pd:∀(a c:G (K×T)),(merged c a).length<=c.length+a.length
 |[],c=>X6 _
 |p::r,c=>by let d:=pd r (stored c p.1 p.2);let b:=zo c p.1 p.2;show(merged (stored c p.1 p.2) r).length<=_;rw[Yf];ext
def yc(a:G (K×T)):(merged [] a).length<=a.length:=by let:=pd a [];simpa using this
def Ei{P:Heap}(V:A.handled=CL)(G:Y≠I)(O:I≠dd)(N:Y≠dd)(D:∀(i:Nat) (v:XY),Z[i]?=cL v->∃q key k x,v=.ref q/\q≠dd/\q≠I/\ks[i]?=cL (k,x)/\knd.is k key=XX/\P.IsTuple q #v[key,x])(hs:ks.length=Z.size)(hz:Z.size<=Yc)
  (hR:∀c j,c.DictOf knd dd (merged [] ks)->(∀b o,b≠dd->b≠I->P.get? b=cL o->c.get? b=cL o)->R (.ok (.ret .none)) {s with heap:=c,toks:=j}):
  ∀(m i:Nat) (h:Heap) (j:Nat),Z.size - i=m->i<=Z.size->h.IsTupleIter I Y i->h.IsTuple Y Z->h.DictOf knd dd (merged [] (ks.take i))->(∀b o,b≠dd->b≠I->P.get? b=cL o->h.get? b=cL o)->
   codeAny (model prog w) A (.builtin "dict.update.loop" #[[.ref dd,.ref I,rawInt i,.none],[]]) R {s with heap:=h,toks:=j}:=by
 let W:=adI.tuple (prog:=prog) (w:=w) (A:=A.in1) V I Y G Z;intro m
 induction m with
 |zero=>
  intro i h j hm hi y t r kp;let e:i=Z.size:=by ext
  subst e;show Z8 F.entry_upd_loop ?_;rw[YC.under_plainId F.plain_upd_loop _];show XW (W.done _ _ _ #[y,t] λc d f=>?_);rw[List.take_of_length_le ()]at r;show XW (X8 (X8 ?_));show hR c d (r.at λo e=>f dd o (by simp;show λz=>O z.symm) e) λb o g a e=>f b o (by simp;show a) (kp b o g a e)
 |succ m ih=>
  intro i h j hm hi y t r kp;let p:i<Z.size:=by ext
  show Z8 F.entry_upd_loop ?_;rw[YC.under_plainId F.plain_upd_loop _];show XW (W.item i _ _ _ p #[y,t] λv c d hv S f=>?_);let(q,key,k,x,rfl,C,l,J,H,ht):=D i v hv;let B:=ht.at λo e=>f q o (by simp;show l) (kp q o C l e);let Q:=r.at λo e=>f dd o (by simp;show λz=>O z.symm) e;let u:=λb o g a e=>f b o (by simp;show a) (kp b o g a e);let(X,n,M,nq,L):=B;let(cq,dq,dtq,T):=X;ext M;ext L;let hT:({s with heap:=c,toks:=d}:X3).TypeIs (.ref q) "tuple":=#[_,n,rfl];show XW (Zo (XW ?_));show ab8 ?_;ext Yx.Dict.pairItems;show XW (afn hT ?_);rw[ax ()];show XW ?_;unfold seqItems?;show XW (ag7 n (X8 (X8 ?_)));show Zo (wpAny_dictSet_pairs H Q (λa d2 U=>?_) ?_)
  .show X8 #[aaq F.plain_upd_loop _,?_];let e2:∀b o,b≠dd->c.get? b=cL o->a.get? b=cL o:=λb o hb e=>(U.2 b hb).trans e;show ih (i+1) a (d+1) () p (S.1.at λo e=>e2 I o O e) (S.2.at λo e=>e2 Y o N e) ?_ λb o g a e=>e2 b o g (u b o g a e);rw[merged_take_succ [] ks i (k,x) J];show d2
  .let:(merged [] (ks.take i)).length<=(ks.take i).length:=yc _;rw[Zh]at this;ext
end
end PySem
namespace PySem
open Sem (wp)
open PyProof.Rows
section
variable{U:Yr}{w:YJ}{A:YC}{E:XY->X3->Prop}{s:X3}{K:Type}[DecidableEq K]{X:KeyKind U w K}{Y:X5}{Z:Array XY}{N:cc (K×XY)}{R:aef->X3->Prop}
def pI(z:A.handled=P)(y:s.heap.get? Y=cL #[.type "tuple",P,.seq Z n,sl])(C:N.length=Z.size)(V:Z.size<=Yc)
  (G:∀(i:Nat) (v:T),Z[i]?=cL v->∃q key k x,v=.ref q/\N[i]?=cL (k,x)/\X.is k key=S/\s.heap.IsTuple q #v[key,x])
  (h:∀c D,c.DictOf X s.heap.objs.size (merged [] N)->(∀b o,s.heap.get? b=cL o->c.get? b=cL o)->Q (.ref s.heap.objs.size) {s with heap:=c,toks:=D}):
  wpAny (model U w) A (call (.type "dict") [.ref Y]) Q E s:=by
 show callType_codes (Q₁:=λobj d=>obj=.ref s.heap.objs.size/\d={s with heap:=s.heap.push {cls:=.type "dict",data:=.dict #v[]}}) F.kt_called_dict (F.kt_typeCall_dict_1 _) F.entry_dict_init (kt_code_dict_new _ #[W,W]) ?_;rintro obj d ⟨rfl,rfl⟩;let a:(s.heap.push {cls:=.type "dict",data:=.dict #v[]}).DictOf X s.heap.objs.size []:=Heap.DictOf.new s.heap;let f:(s.heap.push {cls:=.type "dict",data:=.dict #v[]}).get? Y=cL #[.type "tuple",P,.seq Z n,sl]:=cn _ y;let H:({s with heap:=s.heap.push {cls:=.type "dict",data:=.dict #v[]}}:X3).TypeIs (.ref Y) "tuple":=#[_,f,W];show#[a.typeIs,F.args_dict_init_2 _ _,?_];unfold Yx.«dict.__init__»;show XW ?_;ext Yx.Dict.selfAndRest;show XW (wpAny_notOrdered_dict a.typeIs ?_);show X8 ?_;show wpAny _ _ (Yx.Dict.updateFrom "dict.__init__" s.heap.objs.size (.ref Y) [] .none) _ _ _;ext Yx.Dict.updateFrom;show XW (afn H ?_);rw[ax ()];show XW (pB f z λc B l=>?_);rw[ax (show(P:ck T).isNone=S from rfl)];show XW (acC ?_);let j:=l _ _ f;let r:c.IsTuple Y Z:=#[_,j,W,n,W];show XW (ZD r ?_);show X8 #[aaq F.plain_upd_loop _,?_];let R8:s.heap.objs.size<c.objs.size:=by let(o,_,_,m,_):=a;show cv (l _ _ m)
 let g:=cv y;show Ei (A:=A.in1) (knd:=X) z (Yk (aav g R8)) (Y1 R8) (Yk g) (λi v e=>?_) C V (λt p L k2=>?_) Z.size 0 _ B () (Zj _) #[_,c5 _ W,W,W] #[_,cn _ j,W,n,W] ?_ λb o _ _ e=>e
 .let(q,key,k,x,rfl,J,t,o,m,I):=G i v e;let u:=cv m;show#[q,key,k,x,W,Yk u,Yk (aav u R8),J,t,o,cn _ (l _ _ (cn _ m)),I]
 .show#[W,h t p L λb o e=>?_];let lb:=cv e;show k2 b o (Yk lb) (Yk (aav lb R8)) (cn _ (l _ _ (cn _ e)))
 .let:=a.at (h':=c.push {cls:=.type "tuple_iterator",data:=.fields #v[.ref Y,.int 0 0]}) λo e=>cn _ (l _ _ e);show this
end
end PySem
namespace L10
open PySem PySem.Spec PyProof.Rows L2 L3
inductive ac9(K:lD)(H:Hp):G V->G (cE×V)->Prop
 |nil:ac9 K H [] []
 |cons {q:J} {k:cE} {v:V} {vs:G V} {YA:G (cE×V)}:SqT K H q [kV k,v]->ac9 K H vs YA->ac9 K H (.ref q::vs) ((k,v)::YA)
def ym(K:lD):G V->Hp->VK->Prop:=λxs H Q=>∃p ys a,xs=[.ref p]/\SqT K H p ys/\ac9 K H ys a/\∀d,H d=P->Q (.ref d) (bj H d (.dK (oN [] a)))
theorem FZ(I:Inv X pins σ H s):∀{g:G V} {A:G (cE×V)} {us:G T},ac9 X.K H g A->Vals g us->∃y:G (cE×T),KV A y/\y.length=us.length/\∀(i:Nat) (v:T),us[i]?=R v->∃q key k x,v=.ref q/\y[i]?=R (k,x)/\(cR X.prog X.w).is k key=S/\s.heap.IsTuple q #v[key,x]
 |_,_,_,.nil,.nil=>#[[],.nil,W,λi v e=>by simp at e]
 |_,_,_,.cons (q:=q) (k:=k) (v:=v) h t,.cons r rs=>by
  let(y,o,n,m):=FZ I t rs;let(p,B,pl,_):=I.tuple h;ext r;obtain⟨f,d,rfl,l,j⟩:∃f d,p=[f,d]/\RelV (kV k) f/\RelV v d:=by
   cases B with
   |cons a b=>cases b with
    |cons b c=>ext c;show#[_,_,W,a,b]
  show#[(k,d)::y,.cons #[W,j] o,by rw[Yf,Yf,n],λi u e=>?_];cases i with
  |zero=>ext e;show#[q,f,k,d,W,W,tQ l,pl]
  |succ i=>show m i u (by simpa using e)
def zg(C:X.calm=S):ZS X (.type "dict") (ym X.K):=by
 intro d s E H xs G Q I r h;let(p,F,YA,rfl,m,t,q):=h;let(u,rfl,f):=gu r;ext f;let(P,U,(o,w,(b,n,B),a),l):=I.ahI m;let(N,k1,k2,k3):=FZ I t U;let(M,L,j,g):=o;ext b;ext B;ext a;let y:=U.length;let z:=k1.length;show pI (I.ok.hd C) w (by rw[Yd];show k2) (by rw[Yd,<-y];show l) (λi v e=>k3 i v (by simpa using e)) λO J dd A=>?_;show#[.ref s.heap.objs.size,_,I.laid A (X6 _) ?_,W,q _ (I.Zl.fresh (X6 _))];show zy ?_ ?_ (KV.merge k1 .nil) dd
 .let:=mB YA [];rw[ZZ]at this;ext
 .show beq_eq_false_iff_ne.mpr (Y1 I.big)
end L10
namespace L10
open PySem PyProof.Rows L2 L3
def NV:YO "dict"=R (.type "dict"):=by left
section
variable{B O O':bG}{K:lD}{E:XK}{H H' S R:Hp}{Y α' X U:cc X5}{ω ω' ω1 Z:aO}{T:L2.St}{ρ:bc}{v:V}
def sX:SV->z cE
 |.fz (.int i)=>cL (.inl i)
 |.fz (.str x)=>cL (.inr x)
 |_=>P
def pL(e:sX x=cL k)(h:VOk O K H Y v x):v=kV k:=by
 unfold sX at e;split at e
 .ext e;ext h;rfl
 .ext e;ext h;rfl
 .ext e
abbrev vT(O:bG)(K:lD)(H:Hp)(Y:G J):G (cE×V)->G (cE×SV)->Prop:=Paired (λ(p:cE×V) (q:cE×SV)=>p.1=q.1/\VOk O K H Y p.2 q.2)
def iM(ω:aO):SV->z (Nat×G (cE×SV))
 |.rf i=>match ω[i]? with
  |some (.dct a)=>cL (i,a)
  |_=>P
 |_=>P
def mS(s:YB B K H Y ω)(b:VOk (ow B Y ω) K H Y v x)(h:iM ω x=cL (i,o)):ω[i]?=cL (.dct o)/\∃a ws,Y[i]?=cL a/\v=.ref a/\H a=cL (.dK ws)/\vT (ow B Y ω) K H Y ws o:=by
 cases x with
 |fz d=>ext h
 |tp l=>ext h
 |rf j=>
  let(a,n,rfl):=b;unfold iM at h;dsimp only at h;cases q:ω[j]? with
  |none=>rw[q]at h;ext h
  |some c=>
   rw[q]at h;cases c with
   |dct m=>let e:=Yq h;ext e;let(ws,g,f):=s.cel i a _ n q;show#[q,a,ws,n,W,g,f]
   |_=>ext h
def kz(b:G (cE×SV))(k:cE):z SV:=(b.find? λa=>decide (a.1=k)).map (·.2)
def kE(b:G (cE×SV))(k:cE)(x:SV):G (cE×SV):=
 if(b.any λa=>decide (a.1=k))=XX then b.map (λa=>if a.1=k then(a.1,x)else a)else b++[(k,x)]
def mF(b:G (cE×SV))(k:cE):G (cE×SV):=b.filter λa=>decide (a.1≠k)
def uw:∀{ws:G (cE×V)} {c:G (cE×SV)},vT O K H Y ws c->(∀x,kz c k=cL x->∃v,kK ws k=cL v/\VOk O K H Y v x)/\(kz c k=P->kK ws k=P):=by
 intro _ _ d
 induction d with
 |nil=>show#[λx e=>(by ext e),λ_=>W]
 | @cons l j ws c i t m=>
  let(a,u):=l;let(b,y):=j;let(g,f):=i;ext g;unfold kz kK;rw[Zx,Zx];by_cases e:a=k
  .simp only[a7 e];show#[λx h=>#[u,W,by ext h;show f],λh=>by ext h]
  .simp only[bg e];show m
def Vz:∀{ws:G (cE×V)} {g:G (cE×SV)},vT O K H Y ws g->(ws.any λc=>decide (c.1=k))=g.any λc=>decide (c.1=k):=by
 intro _ _ d
 induction d with
 |nil=>show W
 | @cons j i ws g h t l=>let(a,u):=j;let(b,y):=i;let(e,f):=h;ext e;rw[aak,aak,l]
def Ve(f:VOk O K H Y v x):∀{ws:G (cE×V)} {i:G (cE×SV)},vT O K H Y ws i->vT O K H Y (ws.map (λc=>if c.1=k then(c.1,v)else c)) (i.map (λc=>if c.1=k then(c.1,x)else c)):=by
 intro _ _ d
 induction d with
 |nil=>show .nil
 | @cons n m ws i l t j=>
  let(a,u):=n;let(b,y):=m;let(h,g):=l;ext h;rw[Yi,Yi];by_cases e:a=k
  .rw[ax e,ax e];show .cons #[W,f] (j)
  .rw[a6 e,a6 e];show .cons #[W,g] (j)
def D2(h:vT O K H Y ws o)(r:p.1=q.1/\VOk O K H Y p.2 q.2):vT O K H Y (ws++[p]) (o++[q]):=by
 induction h with
 |nil=>show .cons r .nil
 |cons a _ b=>show .cons a b
def AE(a:VOk O K H Y v x)(h:vT O K H Y ws o):vT O K H Y (jJ ws k v) (kE o k x):=by
 unfold jJ kE;rw[Vz h];split
 .show Ve a h
 .show D2 h #[W,a]
def He:∀{ws:G (cE×V)} {c:G (cE×SV)},vT O K H Y ws c->vT O K H Y (nw ws k) (mF c k):=by
 intro _ _ d
 induction d with
 |nil=>show .nil
 | @cons l j ws c i t h=>
  let(a,u):=l;let(b,y):=j;let(g,f):=i;ext g;unfold nw mF;rw[abe,abe];by_cases e:a=k
  .let z:decide (a≠k)=M:=bg λn=>n e;simp only[z];show h
  .let z:=a7 e;simp only[z];show .cons #[W,f] (h)
def sN(a:Bool)(b d:ez):ez:=λρ ω=>(b ρ ω).bind λx ω1=>(d ρ ω1).bind λo Z=>(RS.YT Z (sX x)).bind λk Z=>(RS.YT Z (iM Z o)).bind λp Z=>.ok (.fz (.bool ((kz p.2 k).isSome !=a))) Z
def F2(h:vT O K H Y ws o):(kK ws k).isSome=(kz o k).isSome:=by
 let(b,a):=uw h;cases q:kz o k with
 |none=>rw[a q];rfl
 |some x=>let(u,e,_):=b x q;rw[e];rfl
def KQ(n:eu K E C fk)(hd:eu K E I fd):eu K E (UB C I) (sN M fk fd):=by intro B T H Y ω ρ Q s d w;show n B T H Y ω ρ _ s d (w.bind.imp λx X ω1 S e1 g f v l=>?_);show hd B T S X ω1 ρ _ g (d.evo e1) (f.bind.imp λo U Z R e2 e b u m=>?_);let(k,j,b):=WS.YT b;let((i,t),h,b):=WS.YT b;let(_,a,ws,r,rfl,q,p):=mS e m h;show#[a,kK ws k,W,by rw[pL j l];show adl.k q,?_];rw[F2 p];show WS.now e b _ ?_;rw[Bool.bne_false];show .bl _
def qM(b a:ez):ez:=λρ ω=>(b ρ ω).bind λo ω1=>(a ρ ω1).bind λx Z=>(RS.YT Z (sX x)).bind λk Z=>(RS.YT Z (iM Z o)).bind λp Z=>RS.YT Z (kz p.2 k)
def Fi(hd:eu K E I fd)(r:eu K E C fk):eu K E (Nk I C) (qM fd fk):=by
 intro B T H Y ω ρ Q s d w;show hd B T H Y ω ρ _ s d (w.bind.imp λo X ω1 S e1 h f u p=>?_);show r B T S X ω1 ρ _ h (d.evo e1) (f.bind.imp λx U Z R e2 e b v n=>?_);let(k,l,b):=WS.YT b;let((i,L),j,b):=WS.YT b;let(_,a,ws,N,rfl,A,t):=mS e (p.evo e2) j;dsimp only at b;cases q:kz L k with
 |none=>rw[q]at b;show b.elim
 |some y=>rw[q]at b;let(z,m,g):=(uw t).1 y q;show#[a,z,W,by rw[pL l n,<-m];show adl.k A,WS.now e b z g]
def ub(e d b:ez):fK:=λρ ω=>(b ρ ω).bind λy ω1=>(e ρ ω1).bind λo Z=>(d ρ Z).bind λx a=>(RS.YT a (sX x)).bind λk a=>(RS.YT a (iM a o)).bind λp a=>if p.2.length<1000000 then .ok (.nx ρ) (a.set p.1 (.dct (kE p.2 k y)))else .bad
def Er(hd:eu K E td fd)(M:eu K E tk fk)(J:eu K E tv fv):tt K E (NB td tk tv) (ub fd fk fv):=by
 intro B T H Y ω ρ D s f w;show J B T H Y ω ρ _ s f (WS.imp (WS.bind w) λy X ω1 S e1 C t m l=>?_);show hd B T S X ω1 ρ _ C (f.evo e1) (WS.imp (WS.bind t) λo U Z R e2 A q u L=>?_);show M B T R U Z ρ _ A (f.evo (e1.trans e2)) (WS.imp (WS.bind q) λx b d g e3 n e z I=>?_);let(k,G,e):=WS.YT e;let((i,YA),F,e):=WS.YT e;let(j,a,ws,Q,rfl,N,p):=mS n (L.evo e3) F;dsimp only at e;by_cases hn:YA.length<1000000
 .rw[ax hn]at e;let ev:Ev (ow B b d) g (ow B b d) (bj g a (.dK (jJ ws k m))):=sj Q j (by nofun);let e4:ZA b d g b (d.set i (.dct (kE YA k y))) (bj g a (.dK (jJ ws k m))):=ZA.put Q j (by nofun) (by nofun);let P:=Paired.length p;show#[a,_,W,by rw[pL G I];show af0.k N (tJ ()),?_];show e b _ e4 (n.put Q j (by nofun) (by nofun) #[_,aI,AE ((l.evo (e2.trans e3)).ev ev λ_ _ h=>h) (Paired.aaQ p λ_ _ r=>#[r.1,r.2.ev ev λ_ _ h=>h])]) T ((f.evo (e1.trans (e2.trans e3))).evo e4)
 .rw[a6 hn]at e;show e.elim
def uj(b a:ez):ez:=λρ ω=>(b ρ ω).bind λo ω1=>(RS.YT ω1 (iM ω1 o)).bind λ_ ω1=>(a ρ ω1).bind λx Z=>(RS.YT Z (sX x)).bind λk Z=>(RS.YT Z (iM Z o)).bind λp Z=>(RS.YT Z (kz p.2 k)).bind λy Z=>.ok y (Z.set p.1 (.dct (mF p.2 k)))
def Ho(hd:eu K E td fd)(I:eu K E tk fk):eu K E (Gj td tk) (uj fd fk):=by intro B T H Y ω ρ Q s g w;show hd B T H Y ω ρ _ s g (w.bind.imp λo X ω1 S e1 l e u m=>?_);let((N,M),C,e):=WS.YT e;let(_,a,d,_,rfl,g0,_):=mS l m C;show#[a,W,.inl #[d,.inl g0],?_];show I B T S X ω1 ρ _ l (g.evo e1) (e.bind.imp λx U Z R e2 j b v G=>?_);let(k,A,b):=WS.YT b;let((i,YA),t,b):=WS.YT b;let(f,P,ws,ha,L,J,n):=mS j (m.evo e2) t;ext L;dsimp only at b;let(y,q,b):=WS.YT b;let(z,F,p):=(uw n).1 y q;let ev:Ev (ow B U Z) R (ow B U Z) (bj R a (.dK (nw ws k))):=sj ha f (by nofun);let e4:ZA U Z R U (Z.set i (.dct (mF YA k))) (bj R a (.dK (nw ws k))):=ZA.put ha f (by nofun) (by nofun);show#[ws,k,z,J,pL A G,F,?_];show b U _ e4 (j.put ha f (by nofun) (by nofun) #[_,aI,He (Paired.aaQ n λ_ _ r=>#[r.1,r.2.ev ev λ_ _ h=>h])]) z (p.evo e4)
def rb(s:YB B K H Y ω)(a:H p=P)(w:WS K E B H Y ω (PQ B K Q) (.ok (.rf ω.length) (ω++[c])))(d:∀e:ZA Y ω H (Y++[p]) (ω++[c]) (bj H p o),COk (ow B (Y++[p]) (ω++[c])) K (bj H p o) (Y++[p]) p c):Q (.ref p) (bj H p o):=by let b:Zw H (bj H p o):=a9 a _;let e:ZA Y ω H (Y++[p]) (ω++[c]) (bj H p o):=ZA.adY s.len b a;show w _ _ e (s.adY b a (by rw[aI];simp) (d e)) _ #[p,by rw[<-s.len];show aH,W]
def wZ(a:ez):ez:=λρ ω=>(a ρ ω).bind λo ω1=>(RS.YT ω1 (iM ω1 o)).bind λp ω1=>.ok (.rf ω1.length) (ω1++[.lst (p.2.map (·.2))])
def Et:∀{ws:G (cE×V)} {b:G (cE×SV)},vT O K H Y ws b->Z0 O K H Y (ws.map (·.2)) (b.map (·.2)):=by
 intro _ _ a
 induction a with
 |nil=>show .nil
 | @cons _ _ _ _ h t d=>show .cons h.2 (d)
def Ea(hd:eu K E C fd):eu K E (Dh GZ (g7 (Td K "dict" MU C) jx)) (wZ fd):=by intro B T H Y ω ρ Q s j w;show hd B T H Y ω ρ _ s j (w.bind.imp λo X ω1 S e1 g d u q=>?_);let((i,L),n,d):=WS.YT d;let(A,a,ws,I,rfl,f,z):=mS g q n;show#[.inr (.inr (.inl #[W,.inl #[ws,f]])),a,ws,W,W,f,λp t=>?_];let b:Zw S (bj S p (U4 p a)):=a9 t _;let m:=g.grow b;let h:=WS.from (ZA.same b) d;show#[p,a,ws,W,aI,b _ _ f,λl y=>?_];show rb m y h λe=>#[_,aI,Et (Paired.aaQ z λ_ _ r=>#[r.1,(r.2.evo (ZA.same b)).evo e])]
def yt:cE->z Int
 |.inl i=>cL i
 |.inr _=>P
def qQ(b:ez):ez:=λρ ω=>(b ρ ω).bind λo ω1=>(RS.YT ω1 (iM ω1 o)).bind λp ω1=>(RS.YT ω1 (aF yt (p.2.map (·.1)))).bind λa ω1=>if a.length<64 then .ok (.rf ω1.length) (ω1++[.lst ((kR a).map λi=>SV.fz (.int i))])else .bad
theorem rj:∀{b:G cE} {ns:G Int},aF yt b=cL ns->b=ns.map Sum.inl
 |[],_,e=>by ext e;rfl
 |k::r,ns,e=>by
  unfold aF at e;cases k with
  |inr x=>ext e
  |inl i=>
   dsimp only[yt]at e;cases q:aF yt r with
   |none=>rw[q]at e;ext e
   |some a=>rw[q]at e;ext e;rw[Yi,<-rj q]
def Ga:∀{ws:G (cE×V)} {b:G (cE×SV)},vT O K H Y ws b->ws.map (·.1)=b.map (·.1):=by
 intro _ _ a
 induction a with
 |nil=>show W
 | @cons _ _ _ _ h t d=>rw[Yi,Yi,h.1,d]
theorem AZ(O:bG)(K:lD)(H:Hp)(Y:G J):∀ns:G Int,Z0 O K H Y (ns.map V.int) (ns.map λi=>SV.fz (.int i))
 |[]=>.nil
 |n::r=>.cons (.int n) (AZ O K H Y r)
def Fr(hd:eu K E C fd):eu K E (Dh zl (g7 C jx)) (qQ fd):=by
 intro B T H Y ω ρ Q s g w;show hd B T H Y ω ρ _ s g (w.bind.imp λo X ω1 S e1 f b u m=>?_);let((i,L),j,b):=WS.YT b;let(z,a,ws,I,rfl,t,r):=mS f m j;let(d,h,b):=WS.YT b;by_cases hn:d.length<64
 .rw[ax hn]at b;show#[a,ws,d,W,t,by rw[Ga r];show rj h,hn,λl A q p n=>?_];let y:=l4 (p.trans (fM d).symm) n (eN d);subst y;show rb f q b λe=>#[_,aI,AZ _ _ _ _ _]
 .rw[a6 hn]at b;show b.elim
def qA:D->z (cE×SV)
 |.tuple [.int i,d]=>cL (.inl i,.fz d)
 |.tuple [.str x,d]=>cL (.inr x,.fz d)
 |_=>P
def uz:SV->z (G (cE×SV))
 |.fz (.tuple ds)=>aF qA ds
 |_=>P
def Bw(e:uz x=cL o):∃ds,x=.fz (.tuple ds)/\aF qA ds=cL o:=by
 unfold uz at e;split at e
 .show#[_,W,e]
 .ext e
def mU(c a:G (cE×SV)):G (cE×SV):=a.foldl (λb d=>kE b d.1 d.2) c
def tI(b:ez):ez:=λρ ω=>(b ρ ω).bind λx ω1=>(RS.YT ω1 (uz x)).bind λa ω1=>.ok (.rf ω1.length) (ω1++[.dct (mU [] a)])
theorem wQ:∀{k:G V} {ds:G D} {j:G (cE×SV)},L3.Zn O K H k ds->aF qA ds=cL j->∃g,ac9 K H k g/\vT O K H Y g j
 |_,_,_,.nil,e=>by ext e;show#[[],.nil,.nil]
 |_,_,_,.cons (d:=d) (ds:=ds) h t,e=>by
  unfold aF at e;cases q:qA d with
  |none=>rw[q]at e;ext e
  |some p=>
   rw[q]at e;dsimp only at e;cases i:aF qA ds with
   |none=>rw[i]at e;ext e
   |some j=>
    rw[i]at e;ext e;let(g,k1,k2):=wQ t i;unfold qA at q;split at q
    .ext q
     cases h with
     |tup h f=>cases f with
      |cons a b=>cases b with
       |cons b c=>ext c;ext a;show#[(.inl _,_)::g,.cons h.1 k1,.cons #[W,b] k2]
    .ext q
     cases h with
     |tup h f=>cases f with
      |cons a b=>cases b with
       |cons b c=>ext c;ext a;show#[(.inr _,_)::g,.cons h.1 k1,.cons #[W,b] k2]
    .ext q
theorem AF:∀{d:G (cE×V)} {e:G (cE×SV)} {ws:G (cE×V)} {c:G (cE×SV)},vT O K H Y d e->vT O K H Y ws c->vT O K H Y (oN ws d) (mU c e)
 |_,_,_,_,.nil,h=>h
 |(a,u)::d,(b,y)::e,_,_,.cons r t,h=>by let(r1,f):=r;ext r1;show vT O K H Y (oN (jJ _ a u) d) (mU (kE _ a y) e);show AF t (AE f h)
def E7(l:eu K E o C):eu K E (Dh (ym K) (g7 o jx)) (tI C):=by
 intro B T H Y ω ρ Q s f w;show l B T H Y ω ρ _ s f (w.bind.imp λx X ω1 S e1 g b u i=>?_);let(p,q,a):=WS.YT b;let(ds,rfl,q):=Bw q;let a:=a;cases i with
 |tup h j=>let(n,k1,k2):=wQ j q;show#[_,_,n,W,h.1,k1,λd m=>rb g m a λe=>#[_,aI,AF (Paired.aaQ k2 λ_ _ r=>#[r.1,r.2.evo e]) .nil]]
end
end L10
namespace PySem
open PyProof.Rows
def mj:z Int->Int->z Int
 |none,x=>R x
 |some m,x=>R (if x>m then x else m)
def T9:z (Int×Tok)->Array T
 |none=> #v[]
 |some (m,t)=> #v[.int m t,.int m t]
def Me(d:T):z (Int×Tok)->T
 |none=>d
 |some (m,t)=>.int m t
namespace F
def args_maxd(a b:T):checkBuiltinCall "max" #[[a],[("default",b)]]=pure ⟨⟩:=by kernel_rfl
end F
section
variable{prog:Yr}{w:YJ}{A:YC}{E:XY->X3->Prop}{R:aef->X3->Prop}{I l S:X5}{vs:cc XY}{d:XY}
def Ie(hh:A.handled=CL)(D:l≠I)(r:S≠I)(Q:S≠l){s:X3}:
  ∀{B:cc XY} {ns:cc Int},IntsAre B ns->∀(i:Nat) (h:Heap) (N:Nat) (b:ck (Int×Tok)) (c:Nat),vs=vs.take i++B->i<=vs.length->h.IsListIter I l i->h.IsList l vs.toArray->h.get? S=cL {cls:=.type "list",dict:=CL,data:=.seq (T9 b) c,slots:= #v[]}->
  (∀x N V,V.map (·.1)=ns.foldl mj (b.map (·.1))->(∀a o,a≠I->a≠S->h.get? a=cL o->x.get? a=cL o)->R (.ok (.ret (Me d V))) {s with heap:=x,toks:=N})->
  codeAny (model prog w) A (.builtin "max.loop" #[[.ref I,.none,.ref S],[("default",d)]]) R {s with heap:=h,toks:=N}:=by
 let W:=adI.list (prog:=prog) (w:=w) (A:=A.in1) hh I l D vs.toArray;intro B ns hi
 induction hi with
 |nil=>
  intro i h N b c u hi it Z T M;let e:i=vs.toArray.size:=by rw[YK]at u;let:=d6 aaA u;rw[Zh]at this;rw[Yd];ext
  show Z8 F.entry_max_loop ?_;rw[YC.under_plainId F.plain_max_loop _];show XW (Zr T rfl ?_);show XW (ab8 (W.done _ _ _ (e▸#[it,Z]) λx g y=>?_));let f:=y S _ (by simpa using r) T;cases b with
  |none=>show XW (acC (X8 ?_));show M x g CL rfl λa o j z e=>y a o (by simpa using j) e
  |some p=>let(m,t):=p;show XW (adR f rfl (XW (aaL (X8 ?_))) (hz:=by show 2<=Yc;decide));show M _ g (cL (m,t)) rfl λa o j z e=>(c6 _ _ (d0 z)).trans (y a o (by simpa using j) e)
 | @cons n t alE ajf hr ih=>
  intro i h N b c u hi it Z T M;let G:i<vs.toArray.size:=by let:=d6 aaA u;rw[Yb,Zh,Yf]at this;rw[Yd];ext
  let O:vs[i]?=cL (.int n t):=by rw[u,Ys (by rw[Zh];ext),Zh,Nat.min_eq_left hi,aek];rfl
  let C:vs=vs.take (i+1)++alE:=by rw[ach,O];rw[YR];show u
  let H:i+1<=vs.length:=by rw[Yd]at G;show G
  show Z8 F.entry_max_loop ?_;rw[YC.under_plainId F.plain_max_loop _];show XW (Zr T rfl ?_);show XW (ab8 (W.item i _ _ _ G #[it,Z] λv x g hP L y=>?_));let ev:v=.int n t:=by let U:=hP;rw[List.getElem?_toArray,O]at U;show(Yq U).symm
  subst ev;let f:=y S _ (by simpa using r) T;let K:(toString "max"++toString ".loop":String)= "max.loop":=by decide
  cases b with
  |none=>
   show wpAny _ A.in1 (updateSeq S (λ_=> #v[XY.int n t,XY.int n t])>>=_) _ _ _;show XW (adR f rfl ?_);rw[K];show X8 #[aaq F.plain_max_loop _,ih (i+1) _ g (cL (n,t)) _ C H (L.1.at λo e=>?_) (L.2.at λo e=>?_) (da _ f rfl) λz q X e2 k2=>M z q X e2 λa o j J e=>k2 a o j J ((c6 _ _ (d0 J)).trans (y a o (by simpa using j) e))]
   .show(c6 _ _ r).trans e
   .show(c6 _ _ Q).trans e
  |some p=>
   let(m,t0):=p;show wpAny _ A.in1 (tryCatch (holding [XY.int n t,XY.int n t] (richCompare .Gt (XY.int n t) (XY.int m t0)>>=_)) _>>=_) _ _ _;let akz:=CmpOf.ints_gt (prog:=prog) (w:=w) (A:=A.in1) (P:=λ(k:Nat) v=>(k=0/\v=XY.int n t)\/(k=1/\v=XY.int m t0)) (λk=>if k=0 then n else m) λk v u=>by
    rcases u with⟨rfl,rfl⟩|⟨rfl,rfl⟩
    .show#[t,rfl]
    .show#[t0,rfl]
   show XW (ab8 (Zo (XW (akz 0 1 _ _ _ _ _ (.inl #[rfl,rfl]) (.inr #[rfl,rfl]) ?_))));show XW (Zo (Zd ?_));show XW (aaL (X8 ?_));show wpAny _ A.in1 (if decide (n>m)=XX then _ else _) _ _ _;by_cases Y:n>m
   .rw[ax (a7 Y)]
    show XW (adR f rfl (XW (aaL ?_)) (hz:=by show 2<=Yc;decide));rw[K];show X8 #[aaq F.plain_max_loop _,ih (i+1) _ g (cL (n,t)) _ C H (L.1.at λo e=>?_) (L.2.at λo e=>?_) (da _ f rfl) λz q X e2 k2=>M z q X ?_ λa o j J e=>k2 a o j J ((c6 _ _ (d0 J)).trans (y a o (by simpa using j) e))]
    .show(c6 _ _ r).trans e
    .show(c6 _ _ Q).trans e
    .rw[e2];show _=ajf.foldl mj (cL (if n>m then n else m));rw[ax Y];rfl
   .rw[a6 (by rw[bg Y];show X7)];show XW (aaL ?_);rw[K];show X8 #[aaq F.plain_max_loop _,ih (i+1) _ g (cL (m,t0)) c C H L.1 L.2 f λz q X e2 k2=>M z q X ?_ λa o j J e=>k2 a o j J (y a o (by simpa using j) e)];rw[e2];show _=ajf.foldl mj (cL (if n>m then n else m));rw[a6 Y];rfl
def Bv(n:A.handled=P)(h:s.heap.IsList l vs.toArray)(r:IntsAre vs ns)
  (q:∀c k b,b.map (·.1)=ns.foldl mj P->(∀a o,s.heap.get? a=cL o->c.get? a=cL o)->Q (Me d b) {s with heap:=c,toks:=k}):
  wpAny (model prog w) A (call (.builtin "max") [.ref l] [("default",d)]) Q E s:=by
 let g:l<s.heap.objs.size:=by let(_,e,_):=h;show cv e
 let i:(toString "max"++toString ".loop":String)= "max.loop":=by decide
 show aeg (aaM F.plain_max F.entry_max (ab6 (F.args_maxd _ _) ?_));show XW (ab6 (show Yx.Builtins.bindParams "max" ["key","default"] 0 #[[],[("default",d)]]=pure [P,cL d]from rfl) ?_);show XW (X8 ?_);show XW (aaW h ?_);show XW (Ze ?_);rw[i];let f:(s.heap.push {cls:=.type "list_iterator",data:=.fields #v[.ref l,.int 0 0]}).objs.size=s.heap.objs.size+1:=dg _ _;show X8 #[aaq F.plain_max_loop _,Ie n (Yk g) (by rw[f];show abf _) (by rw[f];show Y1 (ZM g)) r 0 _ s.toks P 0 W (Zj _) #[_,cn _ (c5 _ W),W,W] ((h.push _).push _) (c5 _ W) λc k b p m=>?_];show q c k b p λa o e=>?_;let j:=cv e;show m a o (Yk j) (by rw[f];show Yk (ZM j)) (cn _ (cn _ e))
end
end PySem
namespace L10
open PySem PySem.Spec PyProof.Rows L2 L3
def Nv(K:lD)(i:Int):G V->Hp->VK->Prop:=λxs H Q=>∃(p:J) (a:G Int),xs=[.ref p]/\SqL K H p (a.map V.int)/\Q (.int ((a.foldl mj P).getD i)) H
def J0(A:X.calm=S)(z:Gl X "max")(hm:X.mg "max"=P)(c:PA X [l] U)(f:JI l=XZ:=by rfl):
  PE X (.Call (.Name "max" p) [l] [#[R "default",.Constant (.int i) j p1,p2]] pos) (Dh (Nv X.K i) U):=by
 intro d s g H Q I h;show Z2 (jX I z hm Mx (callWith_kw (b9 (c pos d s g H _ I h) λE n #[vs,C,e,r1,r]=>?_) (by rw[on _ _ _ f];rfl) (by rw[on _ _ _ f];rfl) W W));let(a,v,rfl,w,q):=r;let(u,rfl,o):=gu r1;ext o;let(L,N,pl,G):=e.list w;show acD (acy (acL ?_));let M:=e.tok (n.toks+1);show Bv (e.ok.hd A) pl.isList (iY N) λJ F b B y=>?_;show#[.int ((v.foldl mj P).getD i),C,e.kept y,?_,q];rw[<-B];cases b with
 |none=>show#[_,W]
 |some p=>let(m,t):=p;show#[t,W]
def zL(i:Int):G D->z RV
 |[.list ds]=>(mH ds).map λa=>.fz (.int ((a.foldl mj P).getD i))
 |_=>P
def Jy{K:lD}:wj K (Nv K i) (zL i):=by
 intro O H xs ds o Q n d e q;unfold zL at e;split at e
 .rename_i es
  cases d with
  |cons j h=>
   ext h;cases l:mH es with
   |none=>rw[l]at e;ext e
   |some b=>rw[l]at e;ext e;let(a,m,rfl,g,f):=xW j;obtain rfl:=lW f l;show#[a,b,W,g.sq,q.at (.int _)]
 .ext e
end L10
namespace L10
open PySem L2 L3
section
variable{B O O':bG}{K:lD}{E:XK}{H U H1 H2:Hp}{X Y T α2:cc X5}{ω Z ω1 ω2:aO}{σ:L2.St}{ρ:bc}{v:V}
def ir{l r:G A}(h:(l++r)[i]?=R y):l[i]?=R y\/∃j,i=l.length+j/\r[j]?=R y:=by
 by_cases hi:i<l.length
 .rw[Yz hi]at h;show .inl h
 .rw[Ys ()]at h;show .inr #[i - l.length,by ext,h]
def L6{l r:G A}{i:Nat}(h:l[i]?=R y):(l++r)[i]?=R y:=by rw[Yz (X0.mp h).1];show h
def Gg{l r:G A}(h:r[i]?=R y):(l++r)[l.length+i]?=R y:=by rw[Ys (),ad8];show h
def Gc(g:X.length=ω.length)(h:Lv (X++o) (ω++cs) b):Lv X ω b\/b∈o:=by
 let(i,d,f,e,a):=h;rcases ir f with g1|⟨j,e1,g1⟩
 .rcases ir e with g2|⟨k,e2,g2⟩
  .show .inl #[i,d,g1,g2,a]
  .let:=(X0.mp g1).1;ext
 .show .inr (YD g1)
theorem ZA.adB(s:YB B K H X ω)(e:Zw H U)(d:∀p∈ps,H p=P):ZA X ω H (X++ps) (ω++cs) U:=
 #[λi a h=>L6 h,λb u q _=>e b u q,λb z=>(Gc s.len z).imp id λz=>d b z]
def YB.adB(s:YB B K H X ω)(e:Zw H U)(f:∀p∈ps,H p=P)(m:∀p∈ps,U p≠P)(nd:∀(i j:Nat) (a:J),ps[i]?=R a->ps[j]?=R a->i=j)(t:ps.length=cs.length)
  (new:∀(i:Nat) (a:J) (c:Cell),ps[i]?=R a->cs[i]?=R c->COk (ow B (X++ps) (ω++cs)) K U (X++ps) a c):YB B K U (X++ps) (ω++cs):=by
 let ev:ZA X ω H (X++ps) (ω++cs) U:=ZA.adB s e f;let n:∀b,H b≠P->U b≠P:=λb h z=>h (e.free z);show#[by rw[Yb,Yb,s.len,t],λi j a g l=>?_,λa h=>n a (s.bn a h),λa h i q=>?_,λi a h=>?_,λi a d g l=>?_]
 .rcases ir g with g1|⟨y,e1,g1⟩<;>rcases ir l with g2|⟨u,e2,g2⟩
  .show s.nd i j a g1 g2
  .show b4 (f a (YD g2)) (s.al i a g1)
  .show b4 (f a (YD g1)) (s.al j a g2)
  .let:=nd y u a g1 g2;ext
 .rcases ir q with q|⟨j,_,q⟩
  .show s.ba a h i q
  .show s.bn a h (f a (YD q))
 .rcases ir h with h|⟨j,_,h⟩
  .show n a (s.al i a h)
  .show m a (YD h)
 .let r:=s.len
  rcases ir l with g2|⟨j,e2,g2⟩
  .rcases ir g with g1|⟨k,e1,g1⟩
   .show(s.cel i a d g1 g2).ev ev.ev ev.pre λo q=>e _ _ q
   .let:=(X0.mp g2).1;ext
  .rcases ir g with g1|⟨k,e1,g1⟩
   .let:=(X0.mp g1).1;ext
   .let:k=j:=by ext
    subst this;show new k a d g1 g2
def Di(Z:aO):Nat->G AV->z (G AV×G (G D)×G Nat)
 |_,[]=>R ([],[],[])
 |n,.fz d::r=>match Di Z n r with
  |some (l,cs,a)=>R (.fz d::l,cs,a)
  |none=>P
 |n,.rf i::r=>match sh Z (.rf i)with
  |some (.list ds)=>(match Di Z (n+1) r with
   |some (l,cs,a)=>R (.rf n::l,ds::cs,i::a)
   |none=>P)
  |_=>P
def UV(ds:G D):Cell:=.lst (ds.map .fz)
def p8(x:SV)(Z ω:aO):RS SV:=match x with
 |.fz d=>.ok (.fz d) ω
 |.rf i=>(match sh Z (.rf i)with
  |some (.list ds)=>kB ω (.ow ds)
  |_=>.bad)
 |.tp l=>(match Di Z ω.length l with
  |some (a,cs,b)=>if b.Nodup then .ok (.tp a) (ω++cs.map UV)else .bad
  |none=>.bad)
def vO(h:sh ω (.rf i)=R (.list ds)):∃xs,ω[i]?=R (.lst xs)/\aF wc xs=R ds:=by
 unfold sh at h;dsimp only at h;cases q:ω[i]? with
 |none=>rw[q]at h;ext h
 |some c=>
  rw[q]at h;cases c with
  |lst xs=>
   dsimp only at h;cases a:aF wc xs with
   |none=>rw[a]at h;ext h
   |some es=>rw[a]at h;ext h;show#[xs,W,a]
  |_=>ext h
def mI(s:YB B K H X ω)(h:sh ω (.rf i)=cL (.list ds)):∃a c,X[i]?=cL a/\H a=cL (.lst c)/\L3.Zn (ow B X ω) K H c ds/\ow B X ω a:=by let(xs,b,d):=vO h;let(a,j):=s.at b;let(c,g,f):=s.cel i a _ j b;show#[a,c,j,g,mL (dE (R:=VOk (ow B X ω) K H X) (λv x y r e=>yU r e) f d),.inr #[i,_,j,b,by intro z;ext z]]
def Uq{o:bG}(s:YB o K U Y Z):∀{n:Nat} {l u:cc AV} {cs:cc (cc D)} {g:cc Nat} {xs:cc V},Di Z n l=R (u,cs,g)->Paired (AOk (ow o Y Z) K U Y) xs l->
  ∃c:cc X5,c.length=g.length/\cs.length=g.length/\(∀(k j:Nat),g[k]?=R j->∃a ds Q,c[k]?=R a/\cs[k]?=R ds/\Y[j]?=R a/\U a=R (.lst Q)/\L3.Zn (ow o Y Z) K U Q ds/\ow o Y Z a)/\
   ∀(b:cc X5),b.length=n->Paired (AOk (ow o Y Z) K U (b++c)) xs u:=by
 intro n l u cs g xs e p
 induction p generalizing n u cs g with
 |nil=>ext e;show#[[],W,W,λk j h=>by simp at h,λb _=>.nil]
 | @cons _ x _ r h t ih=>
  cases x with
  |fz d=>
   unfold Di at e;cases q:Di Z n r with
   |none=>rw[q]at e;ext e
   |some p=>let(I,F,w):=p;rw[q]at e;ext e;let(c,C,A,z,y):=ih q;show#[c,C,A,z,λb f=>.cons h (y b f)]
  |rf i=>
   unfold Di at e;cases qs:sh Z (.rf i)with
   |none=>rw[qs]at e;ext e
   |some d=>
    rw[qs]at e;cases d with
    |list ds=>
     dsimp only at e;cases q:Di Z (n+1) r with
     |none=>rw[q]at e;ext e
     |some p=>
      let(I,F,w):=p;rw[q]at e;ext e;let(c,C,A,z,y):=ih q;let(a,Q,ha,J,M,L):=mI s qs;show#[a::c,by rw[Yf,Yf,C],by rw[Yf,Yf,A],λk j G=>?_,λb f=>?_]
      .cases k with
       |zero=>ext G;show#[a,ds,Q,W,W,ha,J,M,L]
       |succ k=>show z k j (by simpa using G)
      .let e2:b++a::c=(b++[a])++c:=by simp
       let(N,m,rfl):=h;rw[ha]at m;ext m;show .cons #[a,by rw[<-f];show Gg (l:=b) (r:=a::c) (i:=0) W,W] ?_;rw[e2];show y (b++[a]) (by rw[Yb,f];rfl)
    |_=>ext e
def BC(s:YB B K H X ω)(w:WS K E B H X ω (PQ B K Q) (p8 x Z ω))(D:ZA [] [] H Y Z U)(G:YB (ow B X ω) K U Y Z)(J:VOk (ow (ow B X ω) Y Z) K U Y v x):Q v U:=by
 let C:=λb o h=>D.kp b o h λ#[i,c,q,_]=>by simp at q
 let sub:∀b,ow B X ω b->ow (ow B X ω) Y Z b:=λb z=>.inl z;let fr:=λi a c R h2 h3=>(D.lv a #[i,c,R,h2,h3]).elim (λ#[i,c,q,_]=>by simp at q) id;cases x with
 |fz d=>show w X U (ZA.same C) (s.grow C) v (DV.ev (Ev.sub sub) J)
 |rf i=>
  unfold p8 at w;dsimp only at w;cases qs:sh Z (.rf i)with
  |none=>rw[qs]at w;show w.elim
  |some d=>
   rw[qs]at w;cases d with
   |list ds=>let(a,vs,ha,R,hd,M):=mI G qs;let(xs,e,_):=vO qs;let(a',F,rfl):=J;rw[ha]at F;ext F;show p9 s w C (fr i a _ ha e (by nofun)) R hd sub M
   |_=>show w.elim
 |tp l=>
  unfold p8 at w;dsimp only at w;cases qg:Di Z ω.length l with
  |none=>rw[qg]at w;show w.elim
  |some p=>
   let(l',cs,I):=p;rw[qg]at w;dsimp only at w;by_cases hn:I.Nodup
   .rw[ax hn]at w
    let(a,xs,rfl,ht,hl):=J;let(ps,g1,g2,g3,g4):=Uq G qg hl;let A:∀(k:Nat) (b:X5),ps[k]?=cL b->∃j ds vs,I[k]?=cL j/\cs[k]?=cL ds/\Y[j]?=cL b/\U b=cL (.lst vs)/\L3.Zn (ow (ow B X ω) Y Z) K U vs ds/\ow (ow B X ω) Y Z b:=λk b hb=>by
     let f:k<I.length:=by rw[<-g1];show(X0.mp hb).1
     let(b',ds,vs,e,y,u,m,t,g):=g3 k _ (Ye f);rw[hb]at e;ext e;show#[_,ds,vs,Ye f,y,u,m,t,g]
    let nB:∀(j:Nat) (b:X5),Y[j]?=cL b->ow (ow B X ω) Y Z b->H b=CL:=λj b N M=>by
     rcases M with z|⟨i,c,z1,z2,z3⟩
     .show b4 N (G.ba b z j)
     .show fr i b c z1 z2 z3
    let fp:∀p∈ps,H p=CL:=λp L=>by let(k,f):=Zb.mp L;let(j,ds,vs,e,y,u,m,t,g):=A k p f;show nB j p u g
    let n:∀b,ow B (X++ps) (ω++cs.map UV) b->ow (ow B X ω) Y Z b:=λb z=>by
     rcases z with z|z
     .show .inl (.inl z)
     .rcases Gc s.len z with z|z
      .show .inl (.inr z)
      .let(k,f):=Zb.mp z;let(j,ds,vs,e,y,u,m,t,g):=A k b f;show g
    let ev:=ZA.adB (cs:=cs.map UV) s C fp;show w (X++ps) U ev (s.adB C fp (λp L=>?_) (λi j b hi N=>?_) (by rw[X4,g1,g2]) λi b c hi hc=>?_) (.ref a) #[a,xs,W,ht.ev (Ev.sub n),Paired.aaQ (g4 X s.len) λ_ _ r=>r.ev (Ev.sub n) λ_ _ h=>h]
    .let(k,f):=Zb.mp L;let(j,ds,vs,e,y,u,m,t,g):=A k p f;rw[m];simp
    .let(j1,_,_,S,_,p3,_):=A i b hi;let(j2,_,_,r1,_,r3,_):=A j b N;let:=G.nd j1 j2 b p3 r3;subst this;let P:=(X0.mp S).1;show(afr P hn).mp (S.trans r1.symm)
    .let(j,ds,vs,e,y,u,m,t,g):=A i b hi;rw[Yl,y]at hc;ext hc;show#[vs,m,oJ _ _ (t.ev (Ev.sub n))]
   .rw[a6 hn]at w;show w.elim
def ul(F:hG)(n:Nat)(xs:G SV)(ω:aO):RS SV:=if xs.length=n then(match aF wc xs with
 |some ds=>(match F (ds.map .fz) []with
  |.ok x Z=>p8 x Z ω
  |.er x _=>.er x ω
  |.bad=>.bad)
 |none=>.bad)else .bad
def wB(F:hG)(n:Nat)(a:wY):ez:=λρ ω=>(a ρ ω).bind λxs ω1=>jL (ul F n xs ω1)
theorem Hc(h:∀a,B a->H a≠P):YB B K H [] []:=#[W,λi j a h=>by simp at h,h,λa h i=>by simp,λi a h=>by simp at h,λi a c h=>by simp at h]
theorem Ap:∀{xs:G SV} {ds:G D},aF wc xs=R ds->xs=ds.map .fz
 |[],_,e=>by ext e;rfl
 |x::r,ds,e=>by
  unfold aF at e;cases x with
  |fz d=>
   dsimp only[wc]at e;cases q:aF wc r with
   |none=>rw[q]at e;ext e
   |some es=>rw[q]at e;ext e;rw[Yi,<-Ap q]
  |rf i=>ext e
  |tp l=>ext e
def E2(s:YB B K H X ω)(d:Z0 (ow B X ω) K H X C xs)(w:WS K E B H X ω (PQ B K Q) (ul F n xs ω)):vx K n F C H Q E:=by
 unfold ul at w;by_cases hn:xs.length=n
 .rw[ax hn]at w
  show#[d.length.trans hn,?_];cases q:aF wc xs with
  |none=>rw[q]at w;show w.elim
  |some ds=>
   rw[q]at w;dsimp only at w;let j:=Ap q;show#[ow B X ω,[],[],ds.map .fz,Hc s.owd,?_,?_]
   .rw[j]at d;show oJ _ _ ((Ef d).ev (Ev.sub λb z=>z.elim id λ#[i,c,q,_]=>by simp at q))
   .cases l:F (ds.map .fz) []with
    |bad=>rw[l]at w;show w.elim
    |ok x Z=>rw[l]at w;show λY U e g v a=>BC s w e g a
    |er x Z=>
     rw[l]at w;intro c m Y U e g k;let f:=λb o h=>e.kp b o h λ#[i,c,q,_]=>by simp at q
     show w c m X U (ZA.same f) (s.grow f) (XOk.sub (λb z=>.inl z) k)
 .rw[a6 hn]at w;show w.elim
def BO(c:BE K E o C):eu K E (ug (vx K n F) [] E0 o) (wB F n C):=by intro B σ H X ω ρ Q s b w;show c B σ H X ω ρ _ s b (w.bind.imp λxs T ω1 H1 e1 d a f e=>?_);rw[YK];show E2 d e (WS.e0 a)
def SM(F:hG):FN:=λds=>match F (ds.map .fz) []with
 |.ok (.fz d) _=>.ok (.fz d)
 |.ok (.rf i) ω=>(match sh ω (.rf i)with
  |some (.list ds)=>.ok (.ow ds)
  |_=>.bad)
 |.ok (.tp _) _=>.bad
 |.er x _=>.er x
 |.bad=>.bad
def Rc(h:CV K n (SM F) vs H Q E):vx K n F vs H Q E:=by
 let(u,B,ds,A,G,w):=h;show#[u,B,[],[],ds.map .fz,Hc A,oJ _ _ (G.ev (Ev.sub λb z=>z.elim id λ#[i,c,q,_]=>by simp at q)),?_];unfold SM at w;cases N:F (ds.map .fz) []with
 |bad=>rw[N]at w;show w.elim
 |er x Z=>rw[N]at w;intro c dx Y U f j k;show w c dx U (λb o h=>f.kp b o h λ#[i,c,q,_]=>by simp at q) (XOk.sub (λb z=>.inl z) k)
 |ok x Z=>
  rw[N]at w;intro Y U f j v m;let g:=λb o h=>f.kp b o h λ#[i,c,q,_]=>by simp at q
  cases x with
  |fz d=>show w v U g (DV.ev (Ev.sub λb z=>.inl z) m)
  |tp l=>show w.elim
  |rf i=>
   dsimp only at w;cases L:sh Z (.rf i)with
   |none=>rw[L]at w;show w.elim
   |some d=>
    rw[L]at w;cases d with
    |list es=>let(a,p,ha,C,y,t):=mI j L;let(xs,r,_):=vO L;let(I,e,rfl):=m;rw[ha]at e;ext e;show w a p U g ((f.lv a #[i,_,ha,r,by intro z;ext z]).elim (λ#[i,c,q,_]=>by simp at q) id) C (y.ev (Ev.sub λb z=>z.elim (λz=>.inl z) λz=>by rw[z];show t))
    |_=>show w.elim
end
def oK(P:Yr)(w:YJ)(K:lD)(d:Str->z T)(base:Heap)(a:we)(k:Nat)(C m:Str)(c:G Str)(sp:Sp):Prop:=
 ∃b f fd,Yt K Yj C=R (R (.ref b))/\Cls K b/\Meth K b m f/\FnOk P w K d base a k f fd c sp/\Binds K fd c []
def wE(P:Yr)(w:YJ)(K:lD)(d:Str->z T)(base:Heap)(a:we)(k:Nat)(C:Str)(c:G Str)(sp:Sp):Prop:=
 ∃b f fd,Yt K Yj C=R (R (.ref b))/\d C=R (.ref b)/\Mk K b f/\FnOk P w K d base a k f fd c sp/\Binds K fd c []
def rY(K:lD)(C m:Str)(sp:Sp)(E:XK)(c:TE)(t:TA):TE:=λa H Q=>∃b,Yt K Yj C=R (R (.ref b))/\Bj b m sp [] E c t a H Q
def yZ(K:lD)(C:Str)(sp:Sp)(E:XK)(t:TA):TE:=λa H Q=>∃b,Yt K Yj C=R (R (.ref b))/\AB b sp [] E t a H Q
section
variable{X:Cx}{U:we}{E:XK}{k j:Nat}{C m:Str}{S:cc Str}{N:Sp}{o e:Yo}{es:cc Yo}{T:TE}{t:TA}{Y Z p:Pos}
def SZ(M:oK X.prog X.w X.K X.mg X.base U k C m S N)(l:eA U X E)(q:ZN j X.A)(r:PE X o T)(c:PA X (e::es) t)(d:k<=j:=by decide)
  (eI:Yp (e::es) X.env=(XZ,eval e X.env)::Yp es X.env:=by rfl) (b:(backTo Z (Yp es X.env)).any (·.1)=XZ:=by rfl)
  (n:eval (.Call (.Attribute o m Y) (e::es) [] Z) X.env=(do
   let ov<-eval o X.env
   standAt Y.atName
   let(f,first)<-holding [ov] (getMethod ov m pl)
   callWith Z f first (backTo Z (Yp (e::es) X.env)) (backToKw Z (keywordEach [] X.env))):=by rfl):PE X (.Call (.Attribute o m Y) (e::es) [] Z) (rY X.K C m N E T t):=by
 let(J,f,F,B,z,y,v,u):=M;intro a s i H Q I #[G,g,h];rw[B]at g;ext g;show Lh r z y v (q.mono d) u .nil l c eI b n a s i H Q I h
def O0(M:oK X.prog X.w X.K X.mg X.base U k C m S N)(i:eA U X E)(n:ZN j X.A)(q:PE X o T)(b:k<=j:=by decide)
  (l:eval (.Call (.Attribute o m Y) [] [] Z) X.env=(do
   let ov<-eval o X.env
   standAt Y.atName
   let(f,first)<-holding [ov] (getMethod ov m pl)
   callWith Z f first (backTo Z (Yp [] X.env)) (backToKw Z (keywordEach [] X.env))):=by rfl):PE X (.Call (.Attribute o m Y) [] [] Z) (rY X.K C m N E T jx):=by
 let(G,f,B,z,y,v,u,r):=M;intro a s g H Q I #[F,d,h];rw[z]at d;ext d;show Fj q y v u (n.mono b) r .nil i l a s g H Q I h
def Us(M:wE X.prog X.w X.K X.mg X.base U k C S N)(n:eA U X E)(q:ZN j X.A)(c:PA X (e::es) t)(d:k+1<=j:=by decide)(r:Gl X C:=by rfl)
  (g:(C==("__debug__":Str))=XZ:=by decide) (u:Yp (e::es) X.env=(XZ,eval e X.env)::Yp es X.env:=by rfl) (b:(backTo Z (Yp es X.env)).any (·.1)=XZ:=by rfl):
  PE X (.Call (.Name C p) (e::es) [] Z) (yZ X.K C N E t):=by
 let(L,f,G,F,B,z,y,v):=M;intro a s l H Q I #[A,i,h];rw[F]at i;ext i;show JZ z y (q.mono d) r B v .nil n c g u b a s l H Q I h
def NY(M:wE X.prog X.w X.K X.mg X.base U k C S N)(l:eA U X E)(n:ZN j X.A)(b:k+1<=j:=by decide)(q:Gl X C:=by rfl)
  (d:(C==("__debug__":Str))=XZ:=by decide):PE X (.Call (.Name C p) [] [] Z) (yZ X.K C N E jx):=by
 let(G,f,B,z,y,v,u,r):=M;intro a s i H Q I #[F,g,h];rw[z]at g;ext g;show DH v u (n.mono b) q y r .nil l d a s i H Q I h
end
section
variable{K:lD}{E:XK}{C m:Str}{F:hG}{n:Nat}{to:TE}{Z:TA}{U:ez}{X:wY}{L:cc Str}
def AU(a:nZ K C L)(e:eu K E to U)(c:BE K E Z X):eu K E (rY K C m (vx K n F) E0 to Z) (aD C m F n U X):=by let(f,a,_):=a;show λB b H α g h Q s d w=>#[f,a,Cy a e c B b H α g h Q s d w]
def AL(a:nZ K C L)(c:BE K E Z X):eu K E (yZ K C (vx K n F) E0 Z) (iR C F n X):=by let(e,a,_):=a;show λB b H α f g Q s d w=>#[e,a,Dv a c B b H α f g Q s d w]
end
section
variable{ρ ρ1 L:bc}{ω Q Z Y I:aO}{x y z:SV}{i n:Nat}{d U X:D}{ds:cc D}{b:Bool}
def aA(h:ρ[i]?=R (R x)):au i ρ ω=.ok x ω:=by ext au;rw[h]
def af(h:f (bO ρ)=.ok (.fz d,ρ')):ag f ρ ω=.ok (.fz d) ω:=by ext ag;rw[h]
def dD(h:f (bO ρ)=.ok (.ow ds,ρ')):ag f ρ ω=.ok (.rf ω.length) (ω++[.lst (ds.map .fz)]):=by ext ag;rw[h];rfl
def aN(h:f (bO ρ)=.ok (b,o)):br f ρ ω=.ok b ω:=by ext br;rw[h]
def lg(h:f (bO ρ)=.ok (ds,o)):jO f ρ ω=.ok ds ω:=by ext jO;rw[h]
def dM(g:e ρ ω=.ok (.rf i) Q)(h:Q[i]?=R (.obj C fs))(a:fs.lookup f=R x):aY C f e ρ ω=.ok x Q:=by ext aY;rw[g,ej];dsimp only;rw[h];dsimp only;rw[ax W,a];rfl
def cz(c:o ρ ω=.ok x Q)(e:fb ρ Q=.ok y Z)(a:rB f x y Z=.ok z Y):i6 f o fb ρ ω=.ok z Y:=by ext i6;rw[c,ej,e,ej,a]
def bR(h:f U X=R (.fz d)):rB f (.fz U) (.fz X) ω=.ok (.fz d) ω:=by ext rB;show((RS.YT ω (f U X)).bind λa Q=>kB Q a)=_;rw[h];rfl
def vG(e:sh ω x=R U)(a:sh ω y=R X)(h:f U X=R (.fz d)):rB f x y ω=.ok (.fz d) ω:=by ext rB;rw[e,a];show((RS.YT ω (f U X)).bind λg Q=>kB Q g)=_;rw[h];rfl
theorem nF:∀ds:G D,aF wc (ds.map .fz)=R ds
 |[]=>rfl
 |d::r=>by rw[Yi];ext aF;rw[nF r];rfl
def gB(h:ω[i]?=R (.lst (ds.map .fz))):sh ω (.rf i)=R (.list ds):=by ext sh;dsimp only;rw[h];dsimp only;rw[nF];rfl
def aX(h:o ρ ω=.ok (.fz (.bool b)) Q):aZ o ρ ω=.ok b Q:=by ext aZ;rw[h];rfl
def jP(h:o ρ ω=.ok S Q)(k:fb ρ Q=r):mV o fb ρ ω=r:=by ext mV;rw[h,ej,ax W,k]
def iI(h:o ρ ω=.ok M Q):mV o fb ρ ω=.ok M Q:=by ext mV;rw[h,ej,a6 X7]
def nM(h:o ρ ω=.ok S Q):zI o fb ρ ω=.ok S Q:=by ext zI;rw[h,ej,ax W]
def kZ(h:o ρ ω=.ok M Q)(k:fb ρ Q=r):zI o fb ρ ω=r:=by ext zI;rw[h,ej,a6 X7,k]
def p7(h:o ρ ω=.ok b Q):qY o ρ ω=.ok (!b) Q:=by ext qY;rw[h];rfl
def B6(h:aZ o ρ ω=.ok S Q)(k:fb ρ Q=r):x3 o fb ρ ω=r:=by ext x3;rw[h,ej,ax W,k]
def Cw(h:aZ o ρ ω=.ok M Q):x3 o fb ρ ω=.ok (.fz (.bool M)) Q:=by ext x3;rw[h,ej,a6 X7]
def IC(h:c ρ ω=.ok S Q)(k:o ρ Q=r):Nc c o fb ρ ω=r:=by ext Nc;rw[h,ej,ax W,k]
def Lz(h:c ρ ω=.ok M Q)(k:fb ρ Q=r):Nc c o fb ρ ω=r:=by ext Nc;rw[h,ej,a6 X7,k]
theorem aB:aL ρ ω=.ok [] ω:=W
def aq(c:o ρ ω=.ok x Q)(a:fr ρ Q=.ok xs Z):aj o fr ρ ω=.ok (x::xs) Z:=by ext aj;rw[c,ej,a,ej]
def vd(c:o ρ ω=.ok (ds.map .fz) Q)(a:ds.length<=1000):nI o ρ ω=.ok (.fz (.tuple ds)) Q:=by ext nI;rw[c,ej,X4,ax a];ext UN;rw[nF];rfl
def Ug(c:o ρ ω=.ok xs Q)(a:xs.length<=1000)(f:aF wc xs=P)(e:aF QM xs=R l):nI o ρ ω=.ok (.tp l) Q:=by ext nI;rw[c,ej,ax a];ext UN;rw[f];dsimp only;rw[e];rfl
def Mp(c:o ρ ω=.ok xs Q)(a:aF (sh Q) xs=R ds)(h:f ds=R (.fz d)):Gr f o ρ ω=.ok (.fz d) Q:=by ext Gr;rw[c,ej];ext L7;rw[a];show((RS.YT Q (f ds)).bind λe Q=>kB Q e)=_;rw[h];rfl
def qp(e:o ρ ω=.ok (ds.map .fz) Q)(c:ds.length=n)(a:F ds=.ok (.fz d)):gC F n o ρ ω=.ok (.fz d) Q:=by ext gC;rw[e,ej];ext um;rw[X4,ax c,nF];dsimp only;rw[a];rfl
def pO(e:o ρ ω=.ok (ds.map .fz) Q)(c:ds.length=n)(a:F ds=.ok (.ow es)):gC F n o ρ ω=.ok (.rf Q.length) (Q++[.lst (es.map .fz)]):=by ext gC;rw[e,ej];ext um;rw[X4,ax c,nF];dsimp only;rw[a];rfl
theorem EL:jL (RS.ok a ω)=.ok a ω:=W
def dI(e:o ρ ω=.ok (.rf i) Q)(f:Q[i]?=R (.obj C fs))(hm:fs.lookup m=P)(h:fa ρ Q=.ok xs Z)(c:(SV.rf i::xs).length=n)(g:F (.rf i::xs) Z=.ok x Y):aD C m F n o fa ρ ω=.ok x Y:=by
 let a:tV Q C m (.rf i)=S:=by ext tV;dsimp only;rw[f];dsimp only;rw[hm,a7 W];rfl
 ext aD;rw[e,ej,ax a,h,ej,ax c,g];rfl
def qN(e:fa ρ ω=.ok xs Q)(c:(SV.rf Q.length::xs).length=n)(a:F (.rf Q.length::xs) (Q++[.obj C []])=.ok (.fz .none) Z):iR C F n fa ρ ω=.ok (.rf Q.length) Z:=by ext iR;rw[e,ej];ext zB;rw[ax c,a,ej,ax (show Fs (.fz .none)=S from rfl)];rfl
def c8(c:o ρ ω=.ok (.fz U) Q)(a:fb ρ Q=.ok (.fz X) Z)(h:aK U X=R (.fz d)):i9 o fb ρ ω=.ok (.fz d) Z:=by ext i9;rw[c,ej,a,ej];show bR h
def EU(a:C ρ ω=.ok (.rf i) Q)(h:Q[i]?=R (.lst xs))(f:o ρ Q=.ok x Z)(g:Z[i]?=R (.lst ys))(e:ys.length<1000000):uX C o ρ ω=.ok (.fz .none) (Z.set i (.lst (ys++[x]))):=by
 let e1:fW Q (.rf i)=R (i,xs):=by ext fW;dsimp only;rw[h]
 let e2:fW Z (.rf i)=R (i,ys):=by ext fW;dsimp only;rw[g]
 ext uX;rw[a,ej,e1];show((o ρ Q).bind _)=_;rw[f,ej,e2];show(if ys.length<1000000 then _ else _)=_;rw[ax e]
def mN(h:ω[i]?=R (.dct o)):iM ω (.rf i)=R (i,o):=by ext iM;dsimp only;rw[h]
def zm(a:o ρ ω=.ok x Q)(hd:fd ρ Q=.ok (.rf i) Z)(f:sX x=R k)(e:Z[i]?=R (.dct C)):sN neg o fd ρ ω=.ok (.fz (.bool ((kz C k).isSome !=neg))) Z:=by ext sN;rw[a,ej,hd,ej,f];show((RS.YT Z (iM Z (.rf i))).bind _)=_;rw[mN e];rfl
def Jm(hd:fd ρ ω=.ok (.rf i) Q)(a:C ρ Q=.ok x Z)(g:sX x=R k)(f:Z[i]?=R (.dct o))(e:kz o k=R y):qM fd C ρ ω=.ok y Z:=by ext qM;rw[hd,ej,a,ej,g];show((RS.YT Z (iM Z (.rf i))).bind _)=_;rw[mN f];show RS.YT Z (kz o k)=_;rw[e];rfl
def LJ(a:C ρ ω=.ok y Q)(hd:fd ρ Q=.ok (.rf i) Z)(f:fk ρ Z=.ok x Y)(h:sX x=R k)(g:Y[i]?=R (.dct o))(e:o.length<1000000):ub fd fk C ρ ω=.ok (.nx ρ) (Y.set i (.dct (kE o k y))):=by ext ub;rw[a,ej,hd,ej,f,ej,h];show((RS.YT Y (iM Y (.rf i))).bind _)=_;rw[mN g];show(if o.length<1000000 then _ else _)=_;rw[ax e]
def Lk(hd:fd ρ ω=.ok (.rf i) Q)(h:Q[i]?=R (.dct alN))(a:C ρ Q=.ok x Z)(g:sX x=R k)(f:Z[i]?=R (.dct o))(e:kz o k=R y):uj fd C ρ ω=.ok y (Z.set i (.dct (mF o k))):=by ext uj;rw[hd,ej,mN h];show((C ρ Q).bind _)=_;rw[a,ej,g];show((RS.YT Z (iM Z (.rf i))).bind _)=_;rw[mN f];show((RS.YT Z (kz o k)).bind _)=_;rw[e];rfl
def Ly(hd:fd ρ ω=.ok (.rf i) Q)(h:Q[i]?=R (.dct o)):wZ fd ρ ω=.ok (.rf Q.length) (Q++[.lst (o.map (·.2))]):=by ext wZ;rw[hd,ej,mN h];rfl
def JC(hd:fd ρ ω=.ok (.rf i) Q)(h:Q[i]?=R (.dct o))(e:aF yt (o.map (·.1))=R ns)(a:ns.length<64):qQ fd ρ ω=.ok (.rf Q.length) (Q++[.lst ((kR ns).map λi=>SV.fz (.int i))]):=by ext qQ;rw[hd,ej,mN h];show((RS.YT Q (aF yt (o.map (·.1)))).bind _)=_;rw[e];show(if ns.length<64 then _ else _)=_;rw[ax a]
def JN(a:C ρ ω=.ok x Q)(h:uz x=R o):tI C ρ ω=.ok (.rf Q.length) (Q++[.dct (mU [] o)]):=by ext tI;rw[a,ej,h];rfl
variable{B:FlS}{r:RS FlS}
def aJ(h:f ρ ω=.ok (.nx ρ1) Q)(k:g ρ1 Q=r):av f g ρ ω=r:=by ext av;rw[h,ej];show k
def eR(h:f ρ ω=.ok (.rt x) Q):av f g ρ ω=.ok (.rt x) Q:=by ext av;rw[h];rfl
def dX(h:c ρ ω=.ok S Q)(k:f ρ Q=r):bE c f g ρ ω=r:=by ext bE;rw[h,ej,ax W,k]
def cC(h:c ρ ω=.ok M Q)(k:g ρ Q=r):bE c f g ρ ω=r:=by ext bE;rw[h,ej,a6 X7,k]
def cJ(h:f ρ ω=.ok x Q):eK f ρ ω=.ok (.rt x) Q:=by ext eK;rw[h];rfl
def je(h:f ρ ω=.ok x Q):bS f ρ ω=.ok (.nx ρ) Q:=by ext bS;rw[h];rfl
def dR(h:f ρ ω=.ok x Q)(e:ρ.set i (R x)=ρ1):b6 f (dW i) ρ ω=.ok (.nx ρ1) Q:=by subst e;ext b6;rw[h];rfl
theorem cQ:bC ρ ω=.ok (.nx ρ) ω:=W
def di(h:fe ρ ω=.ok x Q)(a:o ρ Q=.ok (.rf i) Z)(j:Z[i]?=R (.obj C fs))(g:fs.length<100):dA C f o fe ρ ω=.ok (.nx ρ) (Z.set i (.obj C (cX f x fs))):=by
 let e:Hq Z C (.rf i)=R (i,fs):=by ext Hq;dsimp only;rw[j];dsimp only;rw[ax W]
 ext dA;rw[h,ej,a,ej,e];show(if fs.length<100 then _ else _)=_;rw[ax g]
def vX(h:f ρ ω=.ok x Q)(k:frz 4 Q x=R (d,Z)):mh f ρ ω=.ok (.fz d) Z:=by ext mh;rw[h,ej];ext Qm;rw[k]
def eG(e:xs.map R++X1 (N - xs.length) P=ρ)(h:g ρ ω=.ok (.rt x) Q):cZ N g xs ω=.ok x Q:=by subst e;ext cZ;rw[h];rfl
def ji(e:xs.map R++X1 (N - xs.length) P=ρ)(h:g ρ ω=.ok (.nx ρ1) Q):cZ N g xs ω=.ok (.fz .none) Q:=by subst e;ext cZ;rw[h];rfl
end
section
variable{ρ Q B:bc}{X U Z A u:aO}{x y z:SV}{i n:Nat}{d t p:D}{ds:cc D}{b:Bool}
theorem oC(e:α->D)(f:α->SV)(X:aO)(I:bc->Prop):∀(xs:G α) (ρ:bc) (acc:G SV),I ρ->acc.length+xs.length<=1000000->(∀x∈xs,∀ρ,I ρ->∃c,gt (.fz (e x)) ρ X=.ok c X/\C c X=.ok S X/\fe c X=.ok (f x) X/\I c)->dj gt C fe (xs.map e) ρ X acc=.ok (acc++xs.map f) X
 |[],ρ,acc,_,_,_=>by show RS.ok acc X=_;rw[abk,YK]
 |x::r,ρ,acc,h0,o,m=>by let(c,l,j,h,g):=m x X9 ρ h0;rw[Yf]at o;show((gt (.fz (e x)) ρ X).bind _)=_;rw[l,ej,j,ej,ax W,h,ej,ax (),oC e f X I r c _ g (by rw[Yb,Z1];ext) λy a=>m y (Ya _ a),YR];rfl
def pZ(c:fi ρ X=.ok ds U)(a:dj gt o I ds (jN n C ρ) U []=.ok xs Z):jF n C fi gt o I ρ X=.ok (.rf Z.length) (Z++[.lst xs]):=by ext jF;rw[c,ej,a,EL,ej]
theorem AD(m:Nat):∀(ds:G D),sP (frz m) X (ds.map .fz)=R (ds,X)
 |[]=>rfl
 |d::r=>by rw[Yi];ext sP;rw[show frz m X (.fz d)=R (d,X) by ext m<;>rfl];dsimp only;rw[AD m r]
def pK(h:X[i]?=R (.lst (ds.map .fz))):frz 4 X (.rf i)=R (.list ds,X.set i .dead):=by ext frz;rw[h];dsimp only;rw[AD]
def v5(h:o ρ X=.ok (.rf i) U)(a:U[i]?=R (.lst (ds.map .fz))):i8 o ρ X=.ok ds (U.set i .dead):=by ext i8;rw[h,ej,pK a];rfl
def VU(N C:bc->aO->Prop)(T:SV->aO->Prop):RS FlS->Prop
 |.ok (.nx ρ) X=>N ρ X
 |.ok (.ct ρ) X=>C ρ X
 |.ok (.rt v) X=>T v X
 |_=>False
structure GoS(r:RS FlS)(N C:bc->aO->Prop)(T:SV->aO->Prop):Prop where
 out:VU N C T r
variable{f g:fK}{L:ez}{N C:bc->aO->Prop}{T:SV->aO->Prop}
def GoS.eq(e:r=r')(h:GoS r' N C T):GoS r N C T:=by rw[e];show h
def qJ(h:GoS (f ρ X) (λr o=>GoS (g r o) N C T) C T):GoS (av f g ρ X) N C T:=by
 show#[?_];let h:=h.out;ext av;cases q:f ρ X with
 |bad=>rw[q]at h;show h.elim
 |er x o=>rw[q]at h;show h.elim
 |ok a o=>
  rw[q]at h;cases a with
  |nx r=>show(show GoS (g r o) N C T from h).out
  |ct r=>show h
  |rt v=>show h
  |bk r=>show h.elim
def xl(h:c ρ X=.ok b U)(a:b=S->GoS (f ρ U) N C T)(e:b=M->GoS (g ρ U) N C T):GoS (bE c f g ρ X) N C T:=by
 ext bE;rw[h,ej];cases b with
 |true=>show a W
 |false=>show e W
theorem qK(e:c ρ X=.ok S U)(a:GoS (f ρ U) N C T):GoS (bE c f g ρ X) N C T:=xl e (λ_=>a) λh=>by ext h
theorem eC(e:c ρ X=.ok M U)(a:GoS (g ρ U) N C T):GoS (bE c f g ρ X) N C T:=xl e (λh=>by ext h) λ_=>a
def QQ(e:L ρ X=.ok x U)(a:gt x ρ U=.ok Q Z)(h:N Q Z):GoS (b6 L gt ρ X) N C T:=by show#[?_];ext b6;rw[e,ej,a,ej];show h
theorem nK(a:f ρ X=.ok (.nx Q) U)(h:N Q U):GoS (f ρ X) N C T:=#[by rw[a];show h]
theorem Tw(a:f ρ X=.ok (.rt x) U)(h:T x U):GoS (f ρ X) N C T:=#[by rw[a];show h]
theorem jt(a:L ρ X=.ok x U)(h:N ρ U):GoS (bS L ρ X) N C T:=nK (je a) h
theorem P2(a:L ρ X=.ok x U)(h:T x U):GoS (eK L ρ X) N C T:=Tw (cJ a) h
theorem JT(h:T (.fz .none) X):GoS (qj ρ X) N C T:=#[h]
theorem lV(h:N ρ X):GoS (bC ρ X) N C T:=#[h]
theorem j3{gt:v9}(e:L ρ X=.ok x U)(a:gt x ρ U=.ok Q Z)(h:GoS (g Q Z) N C T):GoS (av (b6 L gt) g ρ X) N C T:=qJ (QQ e a h)
theorem Bg(a:f ρ X=.ok (.nx Q) U)(h:GoS (g Q U) N C T):GoS (av f g ρ X) N C T:=qJ (nK a h)
theorem lQ(a:L ρ X=.ok x U)(h:GoS (g ρ U) N C T):GoS (av (bS L) g ρ X) N C T:=qJ (jt a h)
def wG{h a:fK}(m:c ρ X=.ok b U)(j:b=S->GoS (av h g ρ U) N C T)(l:b=M->GoS (av a g ρ U) N C T):GoS (av (bE c h a) g ρ X) N C T:=by
 let e:av (bE c h a) g ρ X=if b=S then av h g ρ U else av a g ρ U:=by unfold av bE;rw[m,ej];ext b<;>rfl
 show .eq e ?_;cases b with
 |true=>show j W
 |false=>show l W
theorem u8{a l:fK}(j:c ρ X=.ok S U)(e:GoS (av a g ρ U) N C T):GoS (av (bE c a l) g ρ X) N C T:=wG j (λ_=>e) λh=>by ext h
theorem qh{l a:fK}(j:c ρ X=.ok M U)(e:GoS (av a g ρ U) N C T):GoS (av (bE c l a) g ρ X) N C T:=wG j (λh=>by ext h) λ_=>e
theorem uH(h:T (.fz .none) X):GoS (av qj g ρ X) N C T:=qJ (JT h)
theorem nY(h:GoS (g ρ X) N C T):GoS (av bC g ρ X) N C T:=qJ (lV h)
def OT{a e:fK}(h:GoS (av a (av e g) ρ X) N C T):GoS (av (av a e) g ρ X) N C T:=by
 show .eq ?_ h;ext av;cases a ρ X with
 |bad=>rfl
 |er x o=>rfl
 |ok j o=>ext j<;>rfl
def Pg(a:xs.map R++X1 (n - xs.length) P=ρ)(h:GoS (g ρ X) (λ_ c=>T (.fz .none) c) (λ_ _=>False) T):∃x c,cZ n g xs X=.ok x c/\T x c:=by
 let h:=h.out;ext cZ;rw[a];cases q:g ρ X with
 |bad=>rw[q]at h;show h.elim
 |er x o=>rw[q]at h;show h.elim
 |ok e o=>
  rw[q]at h;cases e with
  |nx r=>show#[_,_,W,h]
  |ct r=>show h.elim
  |rt v=>show#[_,_,W,h]
  |bk r=>show h.elim
def jC{W:aO->Prop}(a:xs.map R++X1 (n - xs.length) P=ρ)(h:GoS (g ρ X) (λ_ c=>SV.fz .none=v/\W c) (λ_ _=>False) (λr c=>r=v/\W c)):∃c,cZ n g xs X=.ok v c/\W c:=by let(x,c,l,j,e):=Pg (T:=λr c=>r=v/\W c) a h;show#[c,by rw[l,j],e]
end
end L10
namespace L10
open PySem PyProof.Rows L2 L3
section
variable{B O A:bG}{K:lD}{E:XK}{H u t r:Hp}{q N L I:cc X5}{Q C X Z:aO}{p:L2.St}{U:bc}{v:V}
def Q5{c a:ez}{y z:SV}{i:Nat}{n:Int}{xs:G SV}(g:c U Q=.ok (.rf i) X)(e:a U X=.ok y Z)(f:B5 y=R n)(b:Z[i]?=R (.lst xs))(d:kO xs n=R z):i9 c a U Q=.ok z Z:=by ext i9;rw[g,ej,e,ej];ext K9;simp only[b,f];show RS.YT Z (kO xs n)=_;rw[d];rfl
end
end L10
namespace L10
open PySem PyProof.Rows L2 L3
section
variable{O Y:bG}{K:lD}{H Z:Hp}{a b:X5}{U:cc V}{X:Heap->Prop}
def UO(a:J)(O:bG)(H:Hp)(Y:bG)(Z:Hp):Prop:=∀b o,b≠a->H b=R o->¬O b->Z b=R o/\¬Y b
def acb.evx(g:H a=R (.ext X))(h:acb O K H b U)(e:UO a O H Y Z):acb Y K Z b U:=by
 let(h,k):=h;by_cases z:O b
 .show#[aaO.same (lP Z) (k z),λ_=>k z]
 .rcases h with(h|⟨o,h⟩)|h
  .let(f,d):=e b _ (λy=>by rw[y,g]at h;ext h) h z;show#[.inl (.inl f),λy=>b4 y d]
  .let(f,d):=e b _ (λy=>by rw[y,g]at h;ext h) h z;show#[.inl (.inr #[o,f]),λy=>b4 y d]
  .show#[.inr h,λ_=>.inr h]
def abg.evx(g:H a=R (.ext X))(h:abg O K H b U)(e:UO a O H Y Z):abg Y K Z b U:=by
 let(h,k):=h;by_cases z:O b
 .show#[(lP Z).tup (k z),λ_=>k z]
 .rcases h with(h|⟨o,h⟩)|h
  .let(f,d):=e b _ (λy=>by rw[y,g]at h;ext h) h z;show#[.inl (.inl f),λy=>b4 y d]
  .let(f,d):=e b _ (λy=>by rw[y,g]at h;ext h) h z;show#[.inl (.inr #[o,f]),λy=>b4 y d]
  .show#[.inr h,λ_=>.inr h]
mutual
theorem DV.evx(f:H a=cL (.ext X))(e:UO a O H Y Z):∀{v:V} {d:D},L3.DV O K H v d->L3.DV Y K Z v d
 |_,_,.non=>.non
 |_,_,.bl b=>.bl b
 |_,_,.int i=>.int i
 |_,_,.str x=>.str x
 |_,_,.tup h hs=>.tup (abg.evx f h e) (Zn.evx f e hs)
 |_,_,.lst h hs=>.lst (acb.evx f h e) (Zn.evx f e hs)
theorem Zn.evx(d:H a=cL (.ext X))(e:UO a O H Y Z):∀{vs:cc V} {ds:cc D},L3.Zn O K H vs ds->L3.Zn Y K Z vs ds
 |_,_,.nil=>.nil
 |_,_,.cons h hs=>.cons (DV.evx d e h) (Zn.evx d e hs)
end
end
end L10
namespace L3
open PySem L2
structure NI(K:lD)(f:J)(n:Str)(t:ZW):Prop where
 a:Yt K Yj n=R (R (.ref f))
 F:∃fd,Fun K n n t f fd
structure MI(K:lD)(C f:J)(m q:Str)(t:ZW):Prop where
 a:YZ K (.ref C) m=R (R (.ref f))
 i:abS K (.ref f)=S
 F:∃fd,Fun K m q t f fd
structure CI(K:lD)(C:J)(n:Str)(fs:G Str):Prop where
 a:Yt K Yj n=R (R (.ref C))
 pg:aau K C Str.empty=S
 hd:aaR K C=S
 po:abT K C=S
 sa:YZ K (.ref C) "__setattr__"=R (R (.builtin "object.__setattr__"))
 mm:ack K C=S
 kc:ZR K (.ref C)=S
 fl:∀x∈fs,abx K C x
def BA(n q:Str)(t:ZW)(c:G Str):Prop:=∀(kV b e:T) (f:z J) (d ct:T) (a:G T),a.length=c.length->bindArgs (Z7 n q (lX t) (eV t) (aG t) .none kV b e f d ct) #[a,[]]=pure (c.zip a)
section
variable{P:Yr}{w:YJ}{K:lD}{Q:Str->ck XY}{U h:Heap}{f C:X5}{n m q:Str}{t:ZW}{Z fs:cc Str}{Y k:Nat}{N L:Sp}
theorem CI.cls(c:CI K C n fs):Cls K C:=#[c.pg,c.hd,c.po,c.sa]
theorem CI.cf(c:CI K C n fs):L10.nZ K n fs:=#[C,c.a,c.cls,c.fl]
theorem NI.cal(i:NI K f n t)(X:K.In h)(G:h.Ns Yj Q)(b:BA n n t Z)(ok:∀fd,Fun K n n t f fd->FnOk P w K Q U oa Y f fd Z N):xt P w K Q U Y n Z N:=
 let#[fd,z]:=i.F;#[f,fd,ok fd z,z.binds b,z.kp,YV X G i.a]
def NI.law(i:NI K f "law" t)(X:K.In h)(G:h.Ns Yj Q)(b:Q "law"=R (.ref fa))(p:BA "law" "law" t [x])(ok:∀U fd,Fun K "law" "law" t f fd->FnOk P w K Q U oa Y f fd [x] N):∃fd:Zq,(∀(s:X3) (v:T),acg s fd #[[v],[]] [(x,v)])/\∀U:Heap,K.In U->U.Ns Yj Q->FnOk P w K Q U oa Y fa fd [x] N:=by let e:=b.symm.trans (YV X G i.a);ext e;let(fd,z):=i.F;let(y,u,kV,d,j,r,g,ct,l,rfl,A,o):=z.ex;show#[_,λs v=>.of_eq (p kV d j r g ct [v] W),λU _ _=>ok U _ z]
def tR(a:ZN k A):A.units+65<cLine:=by let:=a.un;ext
theorem CJ{W:J}{a:Array T}{g:Nat}{e:Array (z T)}{xs:G V}{ds:G D}(l:K.lookup W=R #[.type "tuple",CL,.seq a g,e])(d:a.size<=Yc)(b:Vals xs a.toList)(hd:∀O H,Zn O K H xs ds):∀O H,DV O K H (.ref W) (.tuple ds):=λO H=>
 .tup (xs:=xs) #[.inr #[_,_,_,l,#[rfl,rfl],rfl,d,b],λ_=>.inr #[_,_,_,l,#[rfl,rfl],rfl,d,b]] (hd O H)
end
end L3
namespace LD
open PySem PyProof.Rows L2 L3
mutual
def R8:X2->X2->ck Bool
 |.int i,.int j=>cL (decide (i<j))
 |.str x,.str y=>cL (decide (x.cps.toList<y.cps.toList))
 |.tuple xs,.tuple ys=>Tn xs ys
 |_,_=>CL
def Tn:cc X2->cc X2->ck Bool
 |[],[]=>cL XZ
 |[],_::_=>cL XX
 |_::_,[]=>cL XZ
 |x::xs,y::ys=>if X2.eqv x y=XX then Tn xs ys else R8 x y
end
end LD
namespace LD
open PySem PyProof.Rows
structure VE(es:G acf)(YA:G (Unit×T)):Prop where
 vals:es.map (·.val)=YA.map (·.2)
end LD
namespace PySem
open Sem (wp)
open PyProof.Rows
section
variable{X:Yr}{w:YJ}{A:YC}{E:XY->X3->Prop}{s:X3}{t:X5}
theorem lA(ns:G Int):∀j,j<=ns.length->preSum (λi=>ns.getD i 0) j=(ns.take j).sum
 |0,_=>by simp[preSum]
 |j+1,h=>by
  rw[preSum,lA ns j (),ach];let:ns[j]?=R (ns.getD j 0):=by rw[aaS,Ye ()];rfl
  rw[this];simp
theorem t7:∀(ns:G Int) (B:Int),0<=B->(∀n∈ns,0<=n/\n<=B)->0<=ns.sum/\ns.sum<=ns.length*B
 |[],B,f,_=>by simp
 |n::r,B,f,h=>by
  let(b,a):=t7 r B f λm hm=>h m (Ya _ hm);let(e,d):=h n (X9 ..);rw[List.sum_cons,Yf];let:((r.length+1:Nat):Int)*B=r.length*B+B:=by rw[Int.natCast_add,Int.add_mul];simp
  rw[this];ext
def D6{x:cc T}{ns:cc Int}{Q:T->X3->Prop}(C:A.handled=P)(q:s.heap.IsList t x.toArray)(D:IntsAre x ns)(v:∀n∈ns,0<=n/\n<=1000000)(I:ns.length<=1000000)
  (h:∀c (u:Tok) k,(∀b o,s.heap.get? b=R o->c.get? b=R o)->Q (.int ns.sum u) {s with heap:=c,toks:=k}):
  wpAny (model X w) A (call (.builtin "sum") [.ref t]) Q E s:=by
 let(xs,e):=D.allInts.items;let a:ns=xs.toList.map (·.1):=by rw[<-D.numsOf,<-ama,<-e]
 let f:xs.size=ns.length:=by rw[a,X4,YU]
 let d:(intItems xs).size=ns.length:=by rw[<-f];simp[intItems]
 rw[e]at q;show call_sum_walk (iter_intList q λp e z l g=>?_);subst e;show#[_,_,_,_,_,_,numAt xs,W,adI.list (A:=A.in1) C _ t g (intItems xs),z,l,λ_ _=>agk,λj r=>?_,λc k y B=>?_]
 .rw[d]at r
  let ev:numAt xs=λi=>ns.getD i 0:=by funext i;rw[agl,<-a]
  rw[ev];let(H,G):=v (ns.getD j 0) (getD_mem r);show#[#[by show -(2^63)<=ns.getD j 0;ext,by show ns.getD j 0<2^63;ext],?_];rw[lA ns (j+1) ()];let(b1,F):=t7 (ns.take (j+1)) 1000000 () λn m=>v n (aeE m);let:(ns.take (j+1)).length<=1000000:=by rw[Zh];ext
  constructor
  .omega
  .let:((ns.take (j+1)).length:Int)*1000000<=1000000*1000000:=by ext
   ext
 .let ev:numAt xs=λi=>ns.getD i 0:=by funext i;rw[agl,<-a]
  rw[d,ev,lA ns _ (X6 _),af7];show h c y k (old_kept B)
end
end PySem
namespace L10
open PySem PySem.Spec PyProof.Rows L2 L3 LD
def MV(K:lD):G V->Hp->VK->Prop:=λxs H Q=>∃(a:J) (b:G Int),xs=[.ref a]/\SqL K H a (b.map V.int)/\(∀n∈b,0<=n/\n<=1000000)/\b.length<=1000000/\Q (.int b.sum) H
def Da{X:Cx}(j:X.calm=S):ZS X (.builtin "sum") (MV X.K):=by intro b s m H xs n Q I r h;let(a,e,rfl,f,l,v,q):=h;let(u,rfl,r1):=gu r;ext r1;let(t,d,g,_):=I.list f;show D6 (I.ok.hd j) g.isList (iY d) l v λp u o i=>#[.int e.sum,H,I.kept i,#[_,W],q]
def Au:G D->z RV
 |[.list ds]=>(match mH ds with
  |some a=>if(a.all λn=>decide (0<=n)&&decide (n<=1000000))=S/\a.length<=1000000 then R (.fz (.int a.sum))else P
  |none=>P)
 |_=>P
def LN{K:lD}:wj K (MV K) Au:=by
 intro O H xs ds o Q n g e q;unfold Au at e;split at e
 .split at e
  .rename_i d f
   split at e
   .rename_i l
    ext e;cases g with
    |cons i h=>ext h;let(a,m,rfl,b,j):=xW i;rw[lW j f]at b;show#[a,d,W,b.sq,λn hm=>?_,l.2,q.at (.int _)];let:=(Y8.mp l.1) n hm;rw[Ld]at this;show#[b3 this.1,b3 this.2]
   .ext e
  .ext e
 .ext e
def Sd:YO "sum"=R (.builtin "sum"):=by left
end L10
namespace L3
open PySem PyProof.Rows L2
structure akw(K:lD)(x qual:Str)(st:ZW)(f:J)(fd:Zq)(T:J)(YI:Array XY):Prop where
 ex:∃(oc:XY) (od:z J) (kV doc pm:XY) (an:z J) (cdv ct:XY) (osl:Array (z XY)),
  fd=Z7 x qual (lX st) (eV st) (aG st) (.ref T) kV doc pm an cdv ct/\K.lookup f=R #[oc,od,.func fd,osl]/\abp K cdv qual=S
 kp:ZR K (.ref f)=S
 tp:∃o n,K.lookup T=R o/\o.data=.seq YI n
end L3
namespace L3
open PySem L2
section
variable{P:Yr}{w:YJ}{K:lD}{N:Str->ck XY}{Q h:Heap}{f C:X5}{n m q:Str}{t:ZW}{Z fs:cc Str}{Y k:Nat}{L I:Sp}{U:we}
theorem MI.aiS(i:MI K C f m q t)(c:CI K C n fs)(b:BA m q t Z)(ok:∀fd,Fun K m q t f fd->FnOk P w K N Q U Y f fd Z L):L10.oK P w K N Q U Y n m Z L:=
 let#[fd,z]:=i.F;#[C,f,fd,c.a,c.cls,#[i.a,i.i,z.kp],ok fd z,z.binds b]
theorem MI.akp(i:MI K C f "__init__" q t)(c:CI K C n fs)(X:K.In h)(G:h.Ns Yj N)(b:BA "__init__" q t Z)(ok:∀fd,Fun K "__init__" q t f fd->FnOk P w K N Q U Y f fd Z L):L10.wE P w K N Q U Y n Z L:=
 let#[fd,z]:=i.F;#[C,f,fd,c.a,YV X G c.a,#[c.mm,i.a,i.i,c.kc],ok fd z,z.binds b]
end
end L3
namespace L3
open PySem L2
theorem RA{X:Cx}{P:Yr}{w:YJ}:eA (L4.Hn P w) X E0:=λ_ _ _ _ _ _ _ h=>by let(_,_,_,_,_,_,_,_,_,_,_,_,_,_,_,_,h):=h;show h.elim
end L3
namespace L10
open PySem L2 L3
def Vn(T:A->aO->Prop)(X:Xc->Prop):RS A->Prop
 |.ok a b=>T a b
 |.er x _=>X x
 |.bad=>False
structure Out{A:Type}(r:RS A)(T:A->aO->Prop)(X:Xc->Prop):Prop where
 out:Vn T X r
section
variable{A B:Type}{r N:RS A}{T L:A->aO->Prop}{U:B->aO->Prop}{X:Xc->Prop}{Q:aO}
def Out.eq(e:r=N)(h:Out N T X):Out r T X:=by rw[e];show h
def Out.imp(h:Out r T X)(k:∀a Q,T a Q->L a Q):Out r L X:=by
 show#[?_];let h:=h.out;cases r with
 |bad=>show h
 |er x o=>show h
 |ok a o=>show k a o h
def Out.bind(h:Out r (λa o=>Out (f a o) U X) X):Out (r.bind f) U X:=by
 show#[?_];let h:=h.out;cases r with
 |bad=>show h
 |er x o=>show h
 |ok a o=>show(show Out (f a o) U X from h).out
end
section
variable{ρ ρ1 Y:bc}{U ω1 Z L:aO}{x y z:SV}{i n:Nat}{d:D}{ds:cc D}{b:Bool}{f g:fK}{Q:ez}{N:bc->aO->Prop}{T:SV->aO->Prop}{X:Xc->Prop}
def Xh(N:bc->aO->Prop)(T:SV->aO->Prop):FlS->aO->Prop
 |.nx ρ,U=>N ρ U
 |.rt v,U=>T v U
 |_,_=>False
abbrev sK(r:RS FlS)(N:bc->aO->Prop)(T:SV->aO->Prop)(X:Xc->Prop):Prop:=Out r (Xh N T) X
def oz(h:sK (f ρ U) (λr o=>sK (g r o) N T X) T X):sK (av f g ρ U) N T X:=by
 show Out.bind (h.imp λa o k=>?_);cases a with
 |nx r=>show k
 |rt v=>show#[k]
 |ct r=>show k.elim
 |bk r=>show k.elim
theorem ML(a:f ρ U=.ok (.nx ρ1) ω1)(h:sK (g ρ1 ω1) N T X):sK (av f g ρ U) N T X:=oz (.eq a #[h])
theorem qS(a:f ρ U=.ok (.nx ρ1) ω1)(h:N ρ1 ω1):sK (f ρ U) N T X:=.eq a #[h]
theorem de(e:Q ρ U=.ok x ω1)(a:gt x ρ ω1=.ok ρ1 Z)(h:sK (g ρ1 Z) N T X):sK (av (b6 Q gt) g ρ U) N T X:=ML (by ext b6;rw[e,ej,a,ej]) h
def OG{a j:fK}(e:c ρ U=.ok S ω1)(h:sK (av a g ρ ω1) N T X):sK (av (bE c a j) g ρ U) N T X:=by show .eq ?_ h;unfold av bE;rw[e,ej,ax W]
def sd{j a:fK}(e:c ρ U=.ok M ω1)(h:sK (av a g ρ ω1) N T X):sK (av (bE c j a) g ρ U) N T X:=by show .eq ?_ h;unfold av bE;rw[e,ej,a6 X7]
theorem nU(h:sK (g ρ U) N T X):sK (av bC g ρ U) N T X:=oz #[h]
theorem uV(a:Q ρ U=.ok x ω1)(h:T x ω1):sK (eK Q ρ U) N T X:=.eq (cJ a) #[h]
def uU(a:xs.map R++X1 (n - xs.length) P=ρ)(h:sK (g ρ U) (λ_ c=>T (.fz .none) c) T X):Out (cZ n g xs U) T X:=by
 ext cZ;rw[a];show Out.bind (h.imp λe o k=>?_);cases e with
 |nx r=>show#[k]
 |rt v=>show#[k]
 |ct r=>show k.elim
 |bk r=>show k.elim
theorem AW{b:fK}(I:Nat->bc->aO->Prop):∀(ds:G D) (k:Nat) (ρ:bc) (U:aO),I k ρ U->(∀i d ρ U,ds[i]?=R d->I (k+i) ρ U->∃ρ1 ω1,gt (.fz d) ρ U=.ok ρ1 ω1/\sK (b ρ1 ω1) (I (k+i+1)) T X)->sK (lc gt b ds ρ U) (I (k+ds.length)) T X
 |[],k,ρ,U,h0,_=>#[h0]
 |d::r,k,ρ,U,h0,B=>by
  let(ρ1,ω1,w,u):=B 0 d ρ U W h0;let p:∀j a,I (k+1) j a->sK (lc gt b r j a) (I (k+(r.length+1))) T X:=λj a h=>by
   let e:k+(r.length+1)=k+1+r.length:=by ext
   rw[e];show AW I r (k+1) j a h λi A m l C t=>?_;let e:k+1+i=k+(i+1):=by ext
   rw[e]at t⊢;show B (i+1) A m l (by simpa using C) t
  show .eq (show lc gt b (d::r) ρ U=(b ρ1 ω1).bind λq Z=>match q with
   |.nx Y=>lc gt b r Y Z
   |.ct Y=>lc gt b r Y Z
   |.bk Y=>.ok (.nx Y) Z
   |.rt x=>.ok (.rt x) Z from ?_) (Out.bind (u.imp λq o k=>?_))
  .show((gt (.fz d) ρ U).bind _)=_
   rw[w,ej]
   all_goals (cases b ρ1 ω1 with
    |bad=>rfl
    |er x o=>rfl
    |ok q o=>ext q<;>rfl)
  .cases q with
   |nx r=>show p _ _ k
   |rt v=>show#[k]
   |ct r=>show k.elim
   |bk r=>show k.elim
def vA{b:fK}(I:Nat->bc->aO->Prop)(m:C ρ U=.ok ds ω1)(h:I 0 ρ ω1)(a:∀i d ρ U,ds[i]?=R d->I i ρ U->∃ρ1 ω1,gt (.fz d) ρ U=.ok ρ1 ω1/\sK (b ρ1 ω1) (I (i+1)) T X)(e:∀l c,I ds.length l c->N l c):sK (qB C gt b ρ U) N T X:=by
 let:=AW I ds 0 ρ ω1 h (by simpa using a);rw[abu]at this;show .eq ?_ (this.imp λj o k=>?_)
 .ext qB;rw[m,ej]
 .cases j with
  |nx r=>show e _ _ k
  |rt v=>show k
  |ct r=>show k.elim
  |bk r=>show k.elim
end
end L10
namespace L3
open PySem PyProof.Rows L2
section
variable{P:Yr}{w:YJ}{K:lD}{U:Str->ck XY}{X h:Heap}{f T:X5}{n:Str}{t:ZW}{Q:cc Str}{N:Nat}{L:Sp}{I:we}{YI:Array XY}
structure DI(K:lD)(f T:J)(n:Str)(t:ZW)(YI:Array XY):Prop where
 a:Yt K Yj n=R (R (.ref f))
 F:∃fd,akw K n n t f fd T YI
end
structure Tp(P:Yr)(w:YJ)(K:lD)(mg:Str->z T)(base h:Heap):Prop where
 X:K.In h
 G:h.Ns Yj mg
section
variable{P:Yr}{w:YJ}{K:lD}{Q:Str->ck XY}{X h:Heap}{f C T:X5}{n m q:Str}{t:ZW}{Z fs:cc Str}{Y:Nat}{N:Sp}{U:we}{L:Array XY}
theorem NI.c(i:NI K f n t)(W:Tp P w K Q X h)(ok:∀fd,Fun K n n t f fd->FnOk P w K Q X oa Y f fd Z N)(a:BA n n t Z:=by ext:5):xt P w K Q X Y n Z N:=i.cal W.X W.G a ok
theorem MI.mt(i:MI K C f m q t)(c:CI K C n fs)(W:Tp P w K Q X h)(ok:∀fd,Fun K m q t f fd->FnOk P w K Q X U Y f fd Z N)(a:BA m q t Z:=by ext:5):L10.oK P w K Q X U Y n m Z N:=i.aiS c a ok
theorem MI.k(i:MI K C f "__init__" q t)(c:CI K C n fs)(W:Tp P w K Q X h)(ok:∀fd,Fun K "__init__" q t f fd->FnOk P w K Q X U Y f fd Z N)(a:BA "__init__" q t Z:=by ext:5):L10.wE P w K Q X U Y n Z N:=i.akp c W.X W.G a ok
end
end L3
namespace LD
open PySem PyProof.Rows L2 L3 L10
def lstAt(a:aO):SV->z (G SV)
 |.rf i=>match a[i]? with
  |some (.lst xs)=>R xs
  |_=>P
 |_=>P
section
variable{K:lD}{E:XK}{B:bG}{H:Hp}{Z:cc X5}{X:aO}{v:V}
def lst_at{x:SV}{xs:G SV}(s:YB B K H Z X)(b:VOk (ow B Z X) K H Z v x)(h:lstAt X x=R xs):∃a i,v=.ref a/\H a=R (.lst i)/\Z0 (ow B Z X) K H Z i xs:=by
 cases x with
 |fz d=>ext h
 |tp l=>ext h
 |rf j=>
  let(a,m,rfl):=b;unfold lstAt at h;dsimp only at h;cases q:X[j]? with
  |none=>rw[q]at h;ext h
  |some c=>
   rw[q]at h;cases c with
   |lst g=>ext h;let(ws,f,e):=s.cel j a _ m q;show#[a,ws,W,f,e]
   |_=>ext h
end
end LD
namespace PySem
namespace SetTable
def V9(xs:Array Nat):Prop:=xs.toList.Pairwise (·<·)
structure TI(b:Bool)(t:SetTable):Prop where
 led:t.led=b
 dm:t.dummies= #v[]
 ris:V9 t.place
end SetTable
end PySem
namespace PySem
open SetTable
section
variable{prog:Yr}{w:YJ}{K:Type}[DecidableEq K]{knd:KeyKind prog w K}{A:YC}{E:XY->X3->Prop}{s:X3}{b:Bool}{a:X5}{es:Array (Int×XY)}
structure SetX(knd:KeyKind prog w K)(b:Bool)(h:Heap)(a:J)(es:Array (Int×T)):Prop where
 x:∃o ep t,h.get? a=R o/\o.ExactSet/\o.data=.set es ep t/\t.fits es.size=S/\TI b t
 el:ElemsOf knd es.toList
 sz:es.size<scanBound
end
end PySem
namespace L10
open PySem PySem.SetTable PySem.Spec PyProof.Rows L2 L3
def Dk(x y:Str):Prop:=x.cps.toList<=y.cps.toList
def vE{x y:Str}:ltCps y.cps.toList x.cps.toList=M↔Dk x y:=by rw[ltCps_eq,decide_eq_false_iff_not];show Iff.rfl
theorem ue{x y z:Str}(b:Dk x y)(a:Dk y z):Dk x z:=List.le_trans b a
def G2{x y:Str}(b:Dk x y)(a:Dk y x):x=y:=by let:=List.le_antisymm b a;ext x;ext y;congr 1;show Array.ext' this
theorem wO:∀{p:Str} {l:G Str},risingS p l=S->(p::l).Pairwise Dk
 |p,[],_=>adS _ _
 |p,x::r,h=>by
  let h:(!ltCps x.cps.toList p.cps.toList&&risingS x r)=S:=h;rw[Ld,ZK]at h;let i:=wO h.2;show Zg.mpr #[λy a=>?_,i];rcases Yg.mp a with rfl|a
  .show vE.mp h.1
  .show ue (vE.mp h.1) ((Zg.mp i).1 y a)
theorem El:∀{l:G Str},sortedS l=S->l.Pairwise Dk
 |[],_=>aad
 |_::_,h=>wO h
def C2(x:Str):G Str->G Str
 |[]=>[x]
 |y::r=>if ltCps y.cps.toList x.cps.toList=S then y::C2 x r else x::y::r
def eW:G Str->G Str
 |[]=>[]
 |x::r=>C2 x (eW r)
theorem oG(x:Str):∀l,(C2 x l).Perm (x::l)
 |[]=>.rfl
 |y::r=>by
  ext C2;split
  .show((oG x r).cons y).trans (.swap _ _ _)
  .show .rfl
theorem kq:∀l,(eW l).Perm l
 |[]=>.rfl
 |x::r=>(oG x _).trans ((kq r).cons x)
theorem Av(x:Str):∀l,l.Pairwise Dk->(C2 x l).Pairwise Dk
 |[],_=>adS _ _
 |y::r,h=>by
  let(b,d):=Zg.mp h;ext C2;split
  .rename_i q
   show Zg.mpr #[λz a=>?_,Av x r d];rcases Yg.mp ((oG x r).mem_iff.mp a)with rfl|a
   .rw[ltCps_eq]at q;show List.le_of_lt (b3 q)
   .show b z a
  .rename_i q
   let q:=vE.mp (Bool.eq_false_iff.mpr q);show Zg.mpr #[λz a=>?_,h];rcases Yg.mp a with rfl|a
   .show q
   .show ue q (b z a)
theorem rA:∀l,(eW l).Pairwise Dk
 |[]=>aad
 |x::r=>Av x _ (rA r)
theorem tL{l m:G Str}(p:l.Perm m)(h:l.Pairwise Dk):l=eW m:=(p.trans (kq m).symm).eq_of_pairwise (λ_ _ _ _=>G2) h (rA m)
theorem DL{l m:G Str}(p:l.Perm m):eW l=eW m:=tL ((kq l).trans p) (rA l)
theorem Ax:∀{a:G Str} {us:G T},Vals (a.map V.str) us->StrsAre us a
 |[],_,r=>by ext r;show .nil
 |x::a,_,r=>by
  rw[Yi]at r;cases r with
  |cons h t=>let(b,rfl):=h;show .cons x b (Ax t)
theorem jI:∀{b:G T} {a:G Str},StrsAre b a->Vals (a.map V.str) b
 |_,_,.nil=>.nil
 |_,_,.cons n t h=>.cons #[t,W] (jI h)
def Nq(K:lD):G V->Hp->VK->Prop:=λxs H Q=>∃(p:J) (a:G Str),xs=[.ref p]/\SqL K H p (a.map V.str)/\a.length<64/\∀l,H l=P->Q (.ref l) (bj H l (.lst ((eW a).map V.str)))
def u6{X:Cx}:ZS X (.builtin "sorted") (Nq X.K):=by
 intro d s A H xs B Q I r h;let(p,b,rfl,l,v,q):=h;let(u,rfl,i):=gu r;ext i;let(g,L,(o,n,e1,e2,e3,e4),E):=I.list l;let m:=L.length;rw[X4]at m;let C:(64:Nat)<=Yc:=by decide
 show sorted_strs (vs:=g) #[o,e1,e2,n,e4] (Ax L) () λa j z f y=>?_;let w:j=eW b:=tL f (El y);subst w;let(e,t):=sortedAll_at s.heap g a;show#[.ref (s.heap.objs.size+1),_,I.laid (t':=s.toks) (o:=.lst ((eW b).map V.str)) (λ_ _=>sortedAll_old) (aaB _) #[?_,a.toList,e,jI z,t],W,q _ (I.Zl.fresh (aaB _))];rw[X4,f.length_eq];ext
def oV:G D->z RV
 |[.list ds]=>if ds.length<64 then(match sV ds with
  |some a=>R (.ow ((eW a).map .str))
  |none=>P)else P
 |_=>P
section
variable{K:lD}{E:XK}
def nJ{O:bG}{H:Hp}(a:G Str):Zn O K H (a.map V.str) (a.map .str):=by
 induction a with
 |nil=>show .nil
 |cons n r b=>show .cons (.str n) b
def Ko:wj K (Nq K) oV:=by
 intro O H xs ds p Q n h e q;unfold oV at e;split at e
 .rename_i es
  split at e
  .rename_i j
   cases h with
   |cons d b=>
    ext b;let(a,m,rfl,d,b):=xW d;let f:=b.length;cases o:sV es with
    |none=>rw[o]at e;ext e
    |some g=>rw[o]at e;ext e;let:=u9 b o;subst this;rw[X4]at f;show#[a,g,W,d.sq,by ext,λl i=>Fin.new (nJ _) q l i]
  .ext e
 .ext e
end
end L10
namespace PySem
namespace SetTable
structure TT(t:SetTable)(n:Nat):Prop where
 k:∃k,t.mask+1=2^k
 dm:t.dummies= #v[]
 ris:V9 t.place
 le:∀v∈t.place.toList,v<=t.mask
 sz:t.place.size=n
 few:n*5<t.mask*3
section
variable{t:SetTable}{n:Nat}{p:Probe}
structure PI(t:SetTable)(p:Probe):Prop where
 nine:p.more<=9
 jm:p.j+p.more<=t.mask
 pt:p.perturb<2^64
 dm:p.dummy=P
end
end SetTable
end PySem
namespace LD
open PySem PySem.SetTable PyProof.Rows L2 L3
section
variable{prog:Yr}{w:YJ}{E:XY->X3->Prop}
variable{A:YC}{s:X3}
structure SetH(prog:Yr)(w:YJ)(b:Bool)(h:Heap)(a:J)(es:Array (Int×T))(ks:G (KD×J)):Prop where
 x:∃o ep t,h.get? a=R o/\o.ExactSet/\o.data=.set es ep t/\TT t es.size/\t.led=b/\t.mask<=8*es.size+8
 el:∀e∈es.toList,∃k c,(k,c)∈ks/\e.2=.ref c/\(G0 prog w).is h k c
mutual
theorem B0{h h':Heap}{x:X5}{e:Obj}(f:h.get? x=cL e)(i:∀vs n,e.data≠.seq vs n)(g:Heap.SameBut x h h'):∀(d:X2) (v:XY) (as:cc X5),kd d=XX->aei h v d as->aei h' v d as
 |.none,_,_,_,r=>by cases r;exact .none
 |.int _,_,_,_,r=>by cases r;exact .int _ _
 |.str _,_,_,_,r=>by cases r;exact .str _ _
 |.tuple xs,_,_,k,r=>by
  cases r with
  | @tuple a o vs n _ _ h1 h2 h3 h4=>
   have b:a≠x:=by rintro rfl;rw[f]at h1;cases h1;exact i _ _ h3
   unfold kd at k;exact .tuple ((g.2 a b).trans h1) h2 h3 (sF f i g xs _ _ k h4)
 |.bool _,_,_,h,_|.list _,_,_,h,_|.dict _,_,_,h,_=>by simp[kd]at h
theorem sF{h h':Heap}{x:X5}{a:Obj}(b:h.get? x=cL a)(f:∀vs n,a.data≠.seq vs n)(e:Heap.SameBut x h h'):∀(ds:cc X2) (vs:cc XY) (as:cc X5),xZ ds=XX->ab5 h vs ds as->ab5 h' vs ds as
 |[],_,_,_,r=>by cases r;exact .nil
 |d::ds,_,_,k,r=>by
  cases r with
  |cons r1 g=>unfold xZ at k;rw[Ld]at k;exact .cons (B0 b f e d _ _ k.1 r1) (sF b f e ds _ _ k.2 g)
end
end
end LD
namespace L10
open PySem PyProof.Rows L2 L3
section
variable{K:lD}{E:XK}
theorem M3:∀{b:G V} {xs:G SV} {i:Nat},Z0 O K H α b xs->(∀v,b[i]?=R v->∃x,xs[i]?=R x/\VOk O K H α v x)/\(b[i]?=P->xs[i]?=P)
 |_,_,_,.nil=>#[λv h=>(by ext h),λ_=>W]
 |_,_,0,.cons a t=>#[λv h=>(by ext h;show#[_,W,a]),λh=>(by ext h)]
 |_,_,i+1,.cons a t=>M3 (i:=i) t
end
end L10
namespace L10
open PySem PyProof.Rows L2 L3
def gZ(gt:v9)(c:sJ)(h:ez)(x:SV):Nat->Nat->bc->aO->G SV->RS (G SV)
 |0,_,_,_,_=>.bad
 |m+1,i,j,g,acc=>match LD.lstAt g x with
  |none=>.bad
  |some xs=>match xs[i]? with
   |none=>.ok acc g
   |some y=>match QM y with
    |none=>.bad
    |some z=>(gt (.tp [.fz (nd i),z]) j g).bind λa f=>(c a f).bind λb d=>if b=S then(h a d).bind λz e=>(if acc.length<1000000 then gZ gt c h x m (i+1) a e (acc++[z])else .bad)else gZ gt c h x m (i+1) a d acc
def rX(n:Nat)(e:G Nat)(d:ez)(gt:v9)(c:sJ)(h:ez):ez:=λf g=>(d f g).bind λx b=>(jL (gZ gt c h x 1000000 0 (jN n e f) b [])).bind λxs a=>.ok (.rf a.length) (a++[.lst xs])
section
variable{K:lD}{E:XK}{B:bG}{Y:Hp}{Z:cc X5}{ω1:aO}{X:L2.St}{ρ:bc}
def xO(hn:own.length=n)(hf:fv.map (·.2)=fj)
  (hg:HW K E g gt) (ht:uD K E tc ft) (he:eu K E te fe) (s1:YB B K Y Z ω1) (sl1:aah (ow B Z ω1) K Y Z X ρ) (hj:Z[j]?=cL a) (V:WS K E B Y Z ω1 (PQ B K Q) ((gZ gt ft fe (.rf j) Mz0 0 (jN n fj ρ) ω1 []).bind λxs k=>.ok (.rf k.length) (k++[.lst xs]))):
  ∀D,Y D=CL->A6 (UJ K a) D (iW own fv X) g tc te Y λs=>Q (.ref D) s:=by
 intro w hD;let slc:=AM hn hf sl1;generalize qr:gZ gt ft fe (.rf j) Mz0 0 (jN n fj ρ) ω1 []=rr at V;by_cases C:rr=.bad
 .subst C;show V.elim
 .
  let hB:=λz=>s1.bn w z hD;let evH:∀{d:cc X5} {k:aO} {s:Hp},ZA Z ω1 Y d k s->Ev (ow B Z ω1) Y (ow (bF B w) d k) s:=λe b o h n=>#[e.kp b o h λz=>n (.inr z),λz=>by
   rcases z with(z|z)|z
   .show n (.inl z)
   .rw[z,hD]at h;ext h
   .show(e.lv b z).elim (λq=>n (.inr q)) λq=>by rw[h]at q;ext q]
  show#[λi m σ' s=>∃d k ρc l I,ZA Z ω1 Y d k s/\YB (bF B w) K s d k/\aah (ow (bF B w) d k) K s d σ' ρc/\s w=cL (.lst I)/\Z0 (ow (bF B w) d k) K s d I l/\gZ gt ft fe (.rf j) m i ρc k l=rr,
   #[_,Z,ω1,jN n fj ρ,[],[],ZA.same (a9 hD _),s1.hide hD,?_,aI,.nil,qr],?_]
  .show#[slc.1,λj x hx=>let#[v,h1,h2]:=slc.2 j x hx;#[v,h1,h2.ev (evH (ZA.same (a9 hD _))) λ_ _ h=>h]]
  .rintro i m σ2 H2 ⟨d,k,ρ2,l,I,e2,H,O,hy,vy,f⟩
   cases m with
   |zero=>show b4 f.symm C
   |succ m=>
   unfold gZ at f;cases ql:LD.lstAt k (.rf j)with
   |none=>rw[ql]at f;show b4 f.symm C
   |some xs=>
   rw[ql]at f;dsimp only at f;let(a',N,ea,k1,k2):=LD.lst_at H (x:=.rf j) #[a,e2.pre j a hj,W] ql;ext ea;let(y1,y2):=M3 k2;cases qv:N[i]? with
   |some u=>
    let(y,qx,hyv):=y1 u qv;rw[qx]at f;dsimp only at f;cases qa:QM y with
    |none=>rw[qa]at f;show b4 f.symm C
    |some az=>
    rw[qa]at f;dsimp only at f;show .inr #[#[N,u,SqL.of k1,qv],λσ5 P=>∃d k ρc l I,ZA Z ω1 Y d k P/\YB (bF B w) K P d k/\aah (ow (bF B w) d k) K P d σ5 ρc/\P w=cL (.lst I)/\Z0 (ow (bF B w) d k) K P d I l/\gZ gt ft fe (.rf j) m (i+1) ρc k l=rr,
     λσ5 P h=>#[m,ZU m,h],?_]
    rintro u' H3 ⟨p,u2,hp,rfl,hu,rfl⟩;let:=(hu N (SqL.of k1)).symm.trans qv;ext this;let sm:Zw H2 (bj H2 p (.tup [.int i,u])):=a9 hp _;let e3:ZA d k H2 d k (bj H2 p (.tup [.int i,u])):=ZA.same sm;let tv:VOk (ow (bF B w) d k) K (bj H2 p (.tup [.int i,u])) d (.ref p) (.tp [.fz (nd i),az]):=#[p,_,W,#[SqT.of aI,λz=>b4 z (H.noO p hp)],.cons (.int _) (.cons ((Dt hyv qa).ev e3.ev e3.pre) .nil)];let e2:=e2.trans e3;let H:=H.grow sm;let O:=O.evo e3;let hy:=sm _ _ hy;let vy:=Z0.evo e3 vy;generalize bj H2 p (.tup [.int i,u])=H3 at e2 H O hy vy tv;let kD:∀{αx αy:cc X5} {ωx ωy:aO} {Hx Hy:Hp} {o:HO},YB (bF B w) K Hx αx ωx->ZA αx ωx Hx αy ωy Hy->Hx w=cL o->Hy w=cL o:=λsx ex h=>ex.kp _ _ h λ#[i,c,q,_]=>sx.ba w (.inr W) i q;let G:∀{T1:cc X5} {F:aO} {H3:Hp} {z:Xc} {A:aO},ZA Z ω1 Y T1 F H3->RS.er z A=rr->∀c dx α' s,ZA T1 F H3 α' A s->YB (bF B w) K s α' A->XOk K (ow (bF B w) α' A) s c dx z->E c dx s:=λ{T1 F H3 z A} e3 q c dx α' s e s' x'=>by subst q;show V c dx α' s (e3.trans e) s'.af3 (XOk.sub (λb y=>y.elim (λy=>.inl (.inl y)) .inr) x')
    show hg (bF B w) σ2 H3 d k ρ2 (.ref p) (.tp [.fz (nd i),az]) _ H O tv ?_;cases qg:gt (.tp [.fz (nd i),az]) ρ2 k with
    |er z A=>rw[qg]at f;show G e2 f
    |bad=>rw[qg]at f;show b4 f.symm C
    |ok t R=>
     rw[qg]at f;intro α4 H4 e4 s4 σ4 sl4;show ht (bF B w) σ4 H4 α4 R t _ s4 sl4 ?_;let f:((ft t R).bind λb k=>if b=XX then(fe t k).bind λx F=>(if l.length<1000000 then gZ gt ft fe (.rf j) m (i+1) t F (l++[x])else .bad)else gZ gt ft fe (.rf j) m (i+1) t k l)=rr:=f;cases qt:ft t R with
     |er z A=>rw[qt]at f;show G (e2.trans e4) f
     |bad=>rw[qt]at f;show b4 f.symm C
     |ok b L=>
      rw[qt]at f;intro α5 P e5 s5;let U:=sl4.evo e5;let BP:=e4.trans e5;cases b with
      |false=>show#[α5,L,t,l,I,e2.trans BP,s5,U,kD H BP hy,Z0.evo BP vy,f]
      |true=>
       let f:((fe t L).bind λx F=>(if l.length<1000000 then gZ gt ft fe (.rf j) m (i+1) t F (l++[x])else .bad))=rr:=f;rw[ax W];show he (bF B w) σ4 P α5 L t _ s5 U ?_;cases qe:fe t L with
       |er z A=>rw[qe]at f;show G (e2.trans BP) f
       |bad=>rw[qe]at f;show b4 f.symm C
       |ok x6 J=>
        rw[qe]at f;intro S H6 e6 s6 v6 hv6;let f:(if l.length<1000000 then gZ gt ft fe (.rf j) m (i+1) t J (l++[x6])else .bad)=rr:=f;by_cases hl6:l.length<1000000
        .rw[ax hl6]at f;let KM:=BP.trans e6;let hy6:=kD H KM hy;let vy6:=Z0.evo KM vy;let em:Ev (ow (bF B w) S J) H6 (ow (bF B w) S J) (bj H6 w (.lst (I++[v6]))):=Ev.mut (.inl (.inr W)) _;let sl6:=U.evo e6;show#[I,hy6,tJ (by rw[vy6.length];show hl6),S,J,t,l++[x6],I++[v6],(e2.trans KM).dd hD,s6.aiZ hy6,#[sl6.1,λj x hx=>let#[v,h1,h2]:=sl6.2 j x hx;#[v,h1,h2.ev em λ_ _ h=>h]],aI,uK (Paired.aaQ vy6 λ_ _ r=>r.ev em λ_ _ h=>h) (hv6.ev em λ_ _ h=>h),f]
        .rw[a6 hl6]at f;show b4 f.symm C
   |none=>rw[y2 qv]at f;subst f;show .inl #[#[N,SqL.of k1,List.getElem?_eq_none_iff.mp qv],?_];show V (d++[w]) H2 #[λi a h=>gX (e2.pre i a h),e2.kp,λb z=>(sI H.len z).elim (e2.lv b) λz=>.inr (by rw[z];show hD)] (H.adopt hy vy hB) (.ref w) #[w,by rw[<-H.len];show aH,W]
def zx(c:own.length=n)(t:fv.map (·.2)=fj)
  (p:eu K E I fl) (r:HW K E0 g gt) (o:uD K E0 tc ft) (u:eu K E0 U fe):eu K E (qD own fv (rh K (g7 I jx)) g tc U) (rX n fj fl gt ft fe):=by
 intro B X H α A ρ Q s f w;show p B X H α A ρ _ s f (WS.imp (WS.bind w) λx Z ω1 Y e1 h m v i=>?_);let b:=G4 m;obtain⟨j,rfl,xs,q⟩:∃j,x=.rf j/\∃xs,LD.lstAt ω1 x=R xs:=by
  cases q:LD.lstAt ω1 x with
  |none=>unfold gZ at b;rw[q]at b;show b.elim
  |some xs=>
   cases x with
   |rf j=>show#[j,W,xs,W]
   |fz d=>ext q
   |tp l=>ext q
 let(a,C,rfl,k1,k2):=LD.lst_at h i q;let(y,L,e):=i;ext e;show#[a,W,.inl #[#[C,SqL.of k1],xO c t r o u h (f.evo e1) L b]]
end
section
variable{K:lD}{E:XK}
def Oc{α a:Type}{R:α->a->Prop}:∀{xs:G α} {b:G a} {us:G α} {c:G a},Paired R xs b->Paired R us c->Paired R (xs++us) (b++c):=by
 intro xs b us c h k
 induction h with
 |nil=>show k
 |cons r _ d=>show .cons r d
def BJ(e c:ez):ez:=λf g=>(e f g).bind λo b=>(RS.YT b (fW b o)).bind λ_ b=>(c f b).bind λx a=>(RS.YT a (fW a x)).bind λq a=>(RS.YT a (fW a o)).bind λp d=>
 if p.2.length+q.2.length<=1000000 then .ok (.fz .none) (d.set p.1 (.lst (p.2++q.2)))else .bad
def Ma(S:eu K E to fo)(T:eu K E te fe):eu K E (Q7 K "list" zW to (g7 te jx)) (BJ fo fe):=by
 intro B y H α ω ρ Q s C w;show S B y H α ω ρ _ s C (w.bind.imp λo l g Y e1 F m v G=>?_);let((Z,N),P,m):=WS.YT m;let(_,J,n,_,rfl,g0,_):=ni F G P;show#[.inl #[W,n,SqL.of g0],?_];show T B y Y l g ρ _ F (C.evo e1) (m.bind.imp λx e f L e2 p d u R=>?_);let((j,M),O,d):=WS.YT d;let(_,b,A,_,rfl,k1,k2):=ni p R O;let((i,xs),q,d):=WS.YT d;let(t,a,vs,ha,X,U,I):=ni p (G.evo e2) q;ext X;dsimp only at d;by_cases hn:xs.length+M.length<=1000000
 .rw[ax hn]at d;let ev:Ev (ow B e f) L (ow B e f) (bj L J (.lst (vs++A))):=sj ha t (by nofun);show#[J,b,vs,A,W,W,U,k1,lm (by rw[I.length,k2.length];show hn),?_];show d e _ (ZA.put ha t (by nofun) (by nofun)) (p.put ha t (by nofun) (by nofun) #[_,aI,Oc (Paired.aaQ I λ_ _ r=>r.ev ev λ_ _ h=>h) (Paired.aaQ k2 λ_ _ r=>r.ev ev λ_ _ h=>h)]) _ .non
 .rw[a6 hn]at d;show d.elim
end
end L10
namespace L2
open PySem PySem.Spec PyProof.Rows
variable{X:Cx}{a b:Yo}{Z:cc Yo}{Y:Pos}{T U:TE}
def SX(T U:TE):TE:=λd H Q=>T d H λx e=>∃y,x=.str y/\y.length<=Yc/\if y.length=0 then U d e Q else Q (.str y) e
def QH(c:PE X a T)(l:PE X (.BoolOp .Or (b::Z) Y) U):PE X (.BoolOp .Or (a::b::Z) Y) (SX T U):=by
 intro d s g H Q I h;show BoolOp_or (b9 (c d s g H _ I h) λv m #[x,j,i,r1,e]=>?_);let(y,rfl,n,e):=e;let(t,rfl):=r1;let o:=oI;show PySem.P.truthy_str () ?_;by_cases f:y.length=0
 .rw[ax f]at e;rw[show((y.length:Int) !=0)=M by rw[f];rfl];show l d _ g j Q (i.tok _) e
 .rw[a6 f]at e;rw[show((y.length:Int) !=0)=S by rw[bne_iff_ne];ext];show#[.str y,j,i.tok _,#[_,W],e]
end L2
namespace L3
open PySem L2
section
variable{K:lD}{E:XK}{U N:TE}{X Z:FE}
def IV(X Z:FE):FE:=λb=>(X b).bind λa=>(Res.YT (tD a.1)).bind λz=>if z.length<=1000000 then(if z.length=0 then Z a.2 else .ok (.fz (.str z),a.2))else .bad
def QI(c:EO K E U X)(j:EO K E N Z):EO K E (SX U N) (IV X Z):=by
 intro B n O g H o Q R w;show c B n O g H o _ R (w.bind.imp λa b l x m e1 f i=>?_);let(z,h,b):=b.YT;obtain rfl:=r6 i h;by_cases d:z.length<=1000000
 .rw[ax d]at b
  show#[z,W,lm d,?_];by_cases e:z.length=0
  .rw[ax e]at b⊢;show j.next f e1 b
  .rw[a6 e]at b⊢;show b l _ m e1 f (.str _)
 .rw[a6 d]at b;show b.elim
end
end L3
namespace L2
open PySem PySem.Spec PyProof.Rows
def UF(b:Int)(n:Nat):It:=#[λi _=>i<n,λi H x a=>a=H/\x=.int (b+i*2),λi _=>n<=i]
theorem Ff{P:Yr}{w:YJ}{K:lD}{N:Yo}(f:X5)(c:Int)(n:Nat):Turn P w K N (UF c n) [f] f (λi h=>adH h f (c+(i:Nat)*2) ((n:Int) - (i:Nat)) 2) where
 mem:=by simp
 obj:=λi h a b g=>by
  let e:b=f:=by simpa using g
  subst e;show#[_,a,λv z=>by let M:acB.fields _=acB.cell v:=z;ext M]
 keep:=λi h m a k=>k f (by simp) _ a
 item:=by intro X u p y r i d s J H E I l a q;subst u p y;let(G,F,R,C,B,A):=l f (by simp);let W:=adI.range (prog:=X.prog) (w:=X.w) (I.ok.hd r) f c 2 n;show W.item i s _ _ q a λv m L Q j O=>?_;let(t,rfl):=Q;let T:Inv X d J H {s with heap:=m,toks:=L}:=I.turned (λb o g e=>O b o (by simpa using g) e) G F C B A;show#[_,rfl,xQ (s:={s with heap:=m,toks:=L}) (n:= "range_iterator") j rfl rfl () #[.int (c+i*2),H,T,#[t,?_],#[rfl,rfl],j,λb g=>(l b g).1]];rfl
 done:=by intro X u p y r i d s J H E I l a q;subst u p y;let(G,F,R,C,B,A):=l f (by simp);show afl (I.ok.hd r) a (by let:n<=i:=q;ext) λm S=>#[rfl,I.turned (t':=s.toks) (λb o g e=>S b o g e) G F C B A]
 self:=λ_ _ _ _ _ a h=>afm a h
def mo(a b:Int):Yx.Range.rangeSize a b 2=if a<b then(b - a+1)/2 else 0:=by ext Yx.Range.rangeSize;simp only[show((2:Int)>0) by decide,if_true];split<;>ext
def BR{a b:Int}(c: -(2^61)<=a)(e:a<2^61)(f: -(2^61)<=b)(d:b<2^61):Yx.Range.small a b 2=S:=by ext Yx.Range.small;rw[mo];simp only[Yx.Range.rangeFitsLong,Ld,Zf,decide_eq_true_eq,beq_iff_eq,show((2:Int)>0) by decide,if_true];split<;>ext
section
variable{X:Cx}{U:Yo}
def B7{a:G (J×Obj)}{d:St}{H:Hp}{s:X3}{R:It->Hp->Prop}{E:T->X3->Prop}{c lo:Int}{t u v:Tok}{f:Nat}(I:Inv X a d H s)(m: -(2^61)<=c)(l:c<2^61)(j: -(2^61)<=lo)(i:lo<2^61)
  (q:R (UF c ((lo - c+1)/2).toNat) H):wpAny (model X.prog X.w) X.A (pyIter (.ref s.heap.objs.size)) (VQ X a d U R) E {s with heap:=s.heap.push {cls:=.type "range",data:=.fields #v[.int c t,.int lo u,.int 2 v]},toks:=f}:=by
 show ag8 (IsRange.new ..) (BR m l j i) ?_;let g:Inv X a d H {s with heap:=s.heap.push {cls:=.type "range",data:=.fields #v[.int c t,.int lo u,.int 2 v]},toks:=f}:=I.kept λb o e=>cn _ e;show#[(s.heap.push {cls:=.type "range",data:=.fields #v[.int c t,.int lo u,.int 2 v]}).objs.size,[(s.heap.push {cls:=.type "range",data:=.fields #v[.int c t,.int lo u,.int 2 v]}).objs.size],_,_,H,W,
  g.kept (t':=f) λb o e=>cn _ e,Ff _ c ((lo - c+1)/2).toNat,?_,λb h=>?_,q]
 .let e1:c+((0:Nat):Int)*2=c:=by simp
  let e2:((((lo - c+1)/2).toNat:Nat):Int) - ((0:Nat):Int)=Yx.Range.rangeSize c lo 2:=by rw[mo];split<;>ext
  show adH _ _ (c+((0:Nat):Int)*2) (((((lo - c+1)/2).toNat:Nat):Int) - ((0:Nat):Int)) 2;rw[e1,e2];show c5 _ W
 .let e:b=(s.heap.push {cls:=.type "range",data:=.fields #v[.int c t,.int lo u,.int 2 v]}).objs.size:=by simpa using h
  subst e;show g.acT (X6 _) (g.Zl.fresh (X6 _))
def Mv(c:TA):TI:=λa H R=>c a H λd b=>∃i j:Int,d=[.int i,.int j,.int 2]/\(-(2^61)<=i/\i<2^61/\ -(2^61)<=j/\j<2^61)/\R (UF i ((j - i+1)/2).toNat) b
def BU{a b c:Yo}{k:TA}{p f:Pos}(B:Gl X "range")(hm:X.mg "range"=P)(x:PA X [a,b,c] k)(A:Yp [a,b,c] X.env=[(M,eval a X.env),(M,eval b X.env),(M,eval c X.env)]:=by rfl)(l:Yp [b,c] X.env=[(M,eval b X.env),(M,eval c X.env)]:=by rfl):
  PI X U (.Call (.Name "range" p) [a,b,c] [] f) (Mv k):=by
 intro g s o H R I h;show Call_ (jX I B hm boot_range (Zs (b9 (x f g s o H _ I h) λE G #[N,L,C,r1,n]=>?_) (by rw[A,l]) (by rw[l];rfl)));let(i,j,e,(n,z,y,w),q):=n;subst e;cases r1 with
 |cons r d=>
  cases d with
  |cons v d=>
   cases d with
   |cons m d=>ext d;let(t,rfl):=r;let(F,rfl):=v;let(u,rfl):=m;show call_range_3 () (B7 C n z y w q) (.inl (PyProof.noPylong_small ()))
end
end L2
namespace L3
open PySem PySem.Spec PyProof.Rows L2
section
variable{K:lD}{E:XK}
abbrev Sg(i:Int):Prop:= -(2^61)<=i/\i<2^61
def nW(a:Int)(n:Nat):G D:=(Yw n).map λ(k:Nat)=>.int (a+(k:Int)*2)
def Oj{O:bG}{H:Hp}{c:Int}{n:Nat}:pG K (UF c n) O H (nW c n):=by
 intro f g e d;let a:(nW c n).length=n:=by ext nW;rw[X4,YL]
 show#[λi c=>?_,by show n<=_;rw[a];show X6 _];rw[a]at c;show#[c,?_];rintro x b ⟨rfl,rfl⟩;show#[Zw.refl _,.int (_+i*2),by ext nW;rw[Yl,abO c];rfl,.int _]
def Jl:G D->z (G D)
 |[.int i,.int j,.int 2]=>if Sg i/\Sg j then R (nW i ((j - i+1)/2).toNat)else P
 |_=>P
def Lu{c:TA}{k:FA}(h:AO K E c k):IO K E (Mv c) (jy Jl k):=by
 intro B v O m H A y R w;show h B v O m H A _ R (w.bind.imp λa d t C u e1 l o=>?_);let(ds,q,d):=d.YT;let(xs,b,d):=d.YT;let n:=qV l o q;unfold Jl at b;split at b
 .rename_i i j
  split at b
  .rename_i e
   ext b;cases n with
   |cons r g=>
    cases g with
    |cons g f=>
     cases f with
     |cons f p=>ext p;ext r;ext g;ext f;show#[i,j,W,#[e.1.1,e.1.2,e.2.1,e.2.2],d t _ u e1 l Oj]
  .ext b
 .ext b
end
end L3
namespace CC
open PySem L2 L3 L10
def jT:Yo->Bool
 |.BinOp .. |.UnaryOp .. |.IfExp .. |.ListComp .. |.Compare .. |.Call .. |.Constant .. |.Attribute .. |.Subscript .. |.Name .. |.List .. |.Tuple .. |.BoolOp .. |.JoinedStr .. |.Dict .. =>S
 |_=>M
def Sm:Yo->Bool
 |.BinOp .. |.Call .. |.Attribute .. |.Subscript .. |.Name .. =>S
 |_=>M
def QU:Yo->Bool
 |.ListComp .. =>S
 |_=>M
def Uy:Yo->Bool
 |.Constant .. |.Attribute .. |.Subscript .. |.Name .. =>S
 |_=>M
def nV:Yo->Bool
 |.Tuple .. =>S
 |_=>M
section
variable{e o a b:Yo}{es:cc Yo}{env:Env}{Z p:Pos}{n k:Nat}
def fF(h:jT e=S):Yp (e::es) env=(M,eval e env)::Yp es env:=by ext e<;>first|rfl|ext h
def yK(h:jT e=S):Bq e:=by ext e<;>first|(intro _ _;rfl)|ext h
def zP(h:jT e=S):∀x,foldedSetIterable e env x=pure x:=by ext e<;>first|(intro _;rfl)|ext h
def KS(h:Sm e=S):∀whole:Sem T,isTrue e env whole=(do let v<-whole;standAt e.pos;holding [v] (truthy v)):=by ext e<;>first|(intro _;rfl)|ext h
def Bl{t}(h:(jT e&& !QU e)=S):aaw e t n env=pure M:=by ext e<;>first|rfl|ext h
def TR{f p}(h:jT e=S):aaw e (R (.Attribute o f p)) n env=pure M:=by ext e<;>first|rfl|ext h
def Tj(h:jT e=S):aaw e (R (.Subscript o a p)) n env=pure M:=by ext e<;>first|rfl|ext h
def iB{f:Str}(h:Uy e=S):attributeBase e f env (eval e env)=eval e env:=by ext e<;>first|rfl|ext h
def zE(h:jT e=S):JI e=M:=by ext e<;>first|rfl|ext h
def Fq(h:Sm e=S):swapsWithSole [.Subscript a b p] e n env=pure M:=by ext e<;>first|rfl|ext h
def y4(h:Sm e=S):swappedStores [.Subscript a b p] e env=pure P:=by ext e<;>first|rfl|ext h
def nv(h:nV e=S):∃l k p,e=.Tuple l k p:=by ext e<;>first|show#[_,_,_,W]|ext h
def Qt(h:es.all jT=S):((backTo Z (Yp es env)).any λx=>x.1)=M:=by
 induction es with
 |nil=>rfl
 |cons e es d=>rw[ZC,Ld]at h;rw[fF h.1];show d h.2
def Ow(h:es.all jT=S):((backTo Z (Yp es env)).all λx=> !x.1)=S:=by
 induction es with
 |nil=>rfl
 |cons e es d=>rw[ZC,Ld]at h;rw[fF h.1];show d h.2
def gz(h:(e::es).all jT=S):Yp (e::es) env=(M,eval e env)::Yp es env:=by rw[ZC,Ld]at h;show fF h.1
def my(h:(e::es).all jT=S):((backTo Z (Yp es env)).any λx=>x.1)=M:=by rw[ZC,Ld]at h;show Qt h.2
def pN(h:es.all jT=S)(d:es.length<20):methodCallForm (es.length+([]:G aa0).length) (backTo Z (Yp es env)) (backToKw Z (keywordEach [] env))=S:=by ext methodCallForm;rw[Ow h,abW];show(Ld _ _).mpr #[W,a7 ?_];show es.length+0+0<30;ext
def Sj{q}{m:Str}(h:Uy o=S)(d:es.all jT=S)(g:es.length<20)(i:(p.endLine==q.line)=S):∃pl,eval (.Call (.Attribute o m p) es [] q) env=(do
   let C<-eval o env
   standAt p.atName
   let(f,first)<-holding [C] (getMethod C m pl)
   callWith q f first (backTo q (Yp es env)) (backToKw q (keywordEach [] env))):=by
 show#[do return(<-importBound o env).getD S,?_];show(do
  let C<-attributeBase o m env (eval o env)
  standAt p.atName
  methodCall o m p q env C (es.length+([]:G aa0).length) (backTo q (Yp es env)) (backToKw q (keywordEach [] env)))=_
 rw[iB h];unfold methodCall calleeOf methodCallPos;rw[pN d g,i];rfl
def Vp(h:jT b=S):∀v,assign (.Subscript a b p) env v=(do
 let C<-holding [v] (eval a env)
 let I<-holding [v,C] (eval b env)
 standAt p
 holding [v,C,I] (setItem C I v)
 release [v,C,I] []):=by ext b<;>first|(intro _;rfl)|ext h
def T7{elt g sc x}(h1:env.scope.kind=.function)(f:env.kindOf x=R .local)(d:(p.line==Z.line)=S)(c:(sc.names.any λy=>y.1==x&&(y.2==.local||y.2==.cell))=M):aaw (.ListComp elt [g] sc Z) (R (.Name x p)) n env=pure S:=by show(pure _:Sem Bool)=_;rw[show env.blockKind=.function by ext Env.blockKind;rw[h1];rfl,f];show(pure (_&&(p.line==Z.line)&& !(sc.names.any λy=>y.1==x&&(y.2==.local||y.2==.cell))):Sem Bool)=_;rw[d,c];rfl
end
def bu{α:Type}{o:z α}{p:α->Bool}(h:o.any p=S):∃x,o=R x/\p x=S:=by
 cases o with
 |none=>ext h
 |some x=>show#[x,W,h]
def vN:Yo->z (Str×Pos)
 |.Name x p=>R (x,p)
 |_=>P
def vC:Yo->z Const
 |.Constant c _ _=>R c
 |_=>P
def Tc:Yo->z (Yo×Operator×Yo)
 |.BinOp a o b _=>R (a,o,b)
 |_=>P
def Qy:Yo->z (Yo×G ae8×G Yo)
 |.Compare a o b _=>R (a,o,b)
 |_=>P
def yx:Yo->z (Yo×Yo×Pos)
 |.Subscript a b p=>R (a,b,p)
 |_=>P
def Wc:Yo->z (z Yo×z Yo×z Yo)
 |.Slice a b c _=>R (a,b,c)
 |_=>P
def J1:Yo->z (G Yo)
 |.Tuple es _ _=>R es
 |_=>P
def S0:Yo->z (G Yo)
 |.List es _=>R es
 |_=>P
def xE:Yo->z (Yo×G Yo×G aa0×Pos)
 |.Call f es a p=>R (f,es,a,p)
 |_=>P
def UT:Yo->z (Yo×Str×Pos)
 |.Attribute o x p=>R (o,x,p)
 |_=>P
def Wn:Yo->z (Yo×Yo×Yo)
 |.IfExp c a b _=>R (c,a,b)
 |_=>P
def Va:Yo->z (BoolOp×G Yo×Pos)
 |.BoolOp o es p=>R (o,es,p)
 |_=>P
def UE:Yo->z (UnaryOp×Yo)
 |.UnaryOp o a _=>R (o,a)
 |_=>P
def V6:Yo->z (Yo×G aaI×ZO×Pos)
 |.ListComp e g s p=>R (e,g,s,p)
 |_=>P
section
variable{e:Yo}
def oZ(h:vN e=R x):e=.Name x.1 x.2:=by ext e<;>ext h<;>rfl
def NA(h:vC e=R x):∃k p,e=.Constant x k p:=by ext e<;>ext h<;>show#[_,_,W]
def Kw(h:Tc e=R x):∃p,e=.BinOp x.1 x.2.1 x.2.2 p:=by ext e<;>ext h<;>show#[_,W]
def Bo(h:Qy e=R x):∃p,e=.Compare x.1 x.2.1 x.2.2 p:=by ext e<;>ext h<;>show#[_,W]
def lR(h:yx e=R x):e=.Subscript x.1 x.2.1 x.2.2:=by ext e<;>ext h<;>rfl
def OD(h:Wc e=R x):∃p,e=.Slice x.1 x.2.1 x.2.2 p:=by ext e<;>ext h<;>show#[_,W]
def Bc(h:J1 e=R x):∃k p,e=.Tuple x k p:=by ext e<;>ext h<;>show#[_,_,W]
def IY(h:S0 e=R x):∃p,e=.List x p:=by ext e<;>ext h<;>show#[_,W]
def na(h:xE e=R x):e=.Call x.1 x.2.1 x.2.2.1 x.2.2.2:=by ext e<;>ext h<;>rfl
def zc(h:UT e=R x):e=.Attribute x.1 x.2.1 x.2.2:=by ext e<;>ext h<;>rfl
def Rj(h:Wn e=R x):∃p,e=.IfExp x.1 x.2.1 x.2.2 p:=by ext e<;>ext h<;>show#[_,W]
def EF(h:Va e=R x):e=.BoolOp x.1 x.2.1 x.2.2:=by ext e<;>ext h<;>rfl
def x8(h:UE e=R x):∃p,e=.UnaryOp x.1 x.2 p:=by ext e<;>ext h<;>show#[_,W]
def N7(h:V6 e=R x):e=.ListComp x.1 x.2.1 x.2.2.1 x.2.2.2:=by ext e<;>ext h<;>rfl
end
abbrev Fd:=Yr->YJ->lD->(Str->z T)->Heap->Prop
abbrev cb(lv:Nat)(x:Str)(c:G Str)(n:Nat)(F:FN):Fd:=λP w K b a=>VG P w K b a lv x c n F
abbrev Nm(lv:Nat)(x:Str)(c:G Str)(n:Nat)(F:hG):Fd:=λP w K b a=>xt P w K b a lv x c (vx K n F)
abbrev qO(c:Bool)(lv:Nat)(C x:Str)(d:G Str)(n:Nat)(F:hG):Fd:=λP w K b a=>oK P w K b a (if c then L4.Hn P w else oa) lv C x d (vx K n F)
abbrev T4(lv:Nat)(C:Str)(c:G Str)(n:Nat)(F:hG):Fd:=λP w K b a=>wE P w K b a oa lv C c (vx K n F)
structure Md where
 bl:G Str
 ex:G Str
 cs:G (Str×D)
 cl:G (Str×G Str)
structure Gm where
 M:Md
 N:G Str
 sc:G (Str×Ym)
 lv:Nat
 rz:Bool
 fa:Bool
 fc:G Str
 top:Nat
abbrev Tg:G T:=[.type "ValueError",.type "Exception",.type "BaseException",.type "object"]
structure afY(K:lD)(mg:Str->z T)(M:Md):Prop where
 bl:∀x∈M.bl,mg x=P
 ex:∀x∈M.ex,∃C,Yt K Yj x=R (R (.ref C))/\mg x=R (.ref C)/\acO K C Tg "ValueError.__new__"=S
 cs:∀x d,M.cs.lookup x=R d->∃v u,mg x=R u/\RelV v u/\∀O H,DV O K H v d
 cl:∀C L,M.cl.lookup C=R L->nZ K C L
structure Ct(T:G Fd)(Γ:Gm)(X:Cx)(E:XK):Prop where
 n:X.N=Γ.N
 nd:X.N.Nodup
 sc:X.env.scope.names=Γ.sc
 kd:X.env.scope.kind=.function
 cm:X.calm=S
 rm:ZN Γ.lv X.A
 po:Γ.fa=S->ae9 (model X.prog X.w) X.A X.env X.xe
 px:Γ.rz=S->∃(N:G Str) (qual:Str) (scope:ZO) (f:J) (cd:XY) (A:YC) (outer:G Env) (s0:X3) (H0:Hp),X=me (L4.Hn X.prog X.w) X.prog X.w X.K X.mg X.base N qual scope f cd A outer s0 H0 E
 fc:∀x∈Γ.fc,X.fn x=S
 md:afY X.K X.mg Γ.M
 fs:∀i fd,i<Γ.top->T[i]?=R fd->fd X.prog X.w X.K X.mg X.base
def S3(s:G (Str×Ym))(x:Str):Bool:=s.lookup x==R .local||s.lookup x==R .cell||s.lookup x==R .free
def UD(x:Str):Bool:= !(x==("__debug__":Str))&& !(x==("__classdict__":Str))&& !(x==("__name__":Str))
def QR(a:Gm)(x:Str):Bool:=a.sc.lookup x==R .globalImplicit&&UD x
def blt(a:Gm)(x:Str):Bool:=QR a x&&a.M.bl.contains x
def fO{a:z Ym}{b:Ym}(h:(a==R b)=S):a=R b:=by
 cases a with
 |none=>ext h
 |some a=>ext a<;>ext b<;>first|rfl|ext h
section
variable{T:cc Fd}{Z:Gm}{X:Cx}{E:XK}{x:Str}{i:Nat}
def uv(h:UD x=S):(x==("__debug__":Str))=M/\(x==("__classdict__":Str))=M/\x≠("__name__":Str):=by unfold UD at h;simp only[Ld,ZK]at h;show#[h.1.1,h.1.2,λe=>by rw[e,ec]at h;cases h.2]
def sr(c:Ct T Z X E)(h:QR Z x=S):Gl X x/\(x==("__debug__":Str))=M/\x≠("__name__":Str):=by unfold QR at h;rw[Ld]at h;show#[?_,(uv h.2).1,(uv h.2).2.2];show X.env.scope.names.lookup x=_;rw[c.sc];show fO h.1
def ki(c:Ct T Z X E)(h:blt Z x=S):Gl X x/\X.mg x=P/\(x==("__debug__":Str))=M/\x≠("__name__":Str):=by unfold blt at h;rw[Ld]at h;let(b,a):=sr c h.1;show#[b,c.md.bl x (abz.mp h.2),a]
def Mu(c:Ct T Z X E)(h:Z.rz=S):eA (L4.Hn X.prog X.w) X E:=by let(N,d,a,f,j,A,b,g,l,e):=c.px h;rw[e];show L4.EJ
end
abbrev Jd(a:Type):=lD->XK->a->Prop
def eo(g:FE):Jd TE:=λK E t=>EO K E t g
def es(g:ez):Jd TE:=λK E t=>eu K E t g
def ao(g:FA):Jd TA:=λK E t=>AO K E t g
def as(g:wY):Jd TA:=λK E t=>BE K E t g
def lJ(g:FT):Jd TT:=λK E t=>TTO K E t g
def mY(g:sJ):Jd TT:=λK E t=>uD K E t g
def oo(g:FO):Jd TO:=λK E t=>S4 K E t g
def go(g:FG):Jd TG:=λK E t=>GO K E t g
def HK(g:v9):Jd TG:=λK E t=>HW K E t g
def gs(g:RO):Jd yu:=λK E t=>SE K E t g
def R9(g:BG):Jd yu:=λK E t=>D5 K E t g
def io(g:FI):Jd TI:=λK E t=>L3.IO K E t g
def QB(g:FI):Jd TI:=λK E t=>VI K E t g
def RT(g:Rv):Jd TI:=λK E t=>Uc K E t g
def so(g:FS):Jd TS:=λK E t=>SO K E t g
def cY(g:fK):Jd TS:=λK E t=>tt K E t g
class CK (T:G Fd) {α τ:Type} (P:Cx->α->τ->Prop) (J:Jd τ) where
 chk:Gm->α->Bool
 ok:∀{Γ X E a},Ct T Γ X E->chk Γ a=S->∃t,P X a t/\J X.K E t
def WQ(X:Cx)(e:Yo)(t:TG):Prop:=PG X e t/\∀r,assignEach (e::r) X.env=(M,assign e X.env)::assignEach r X.env
def Xl(X:Cx)(r:G Yo)(t:yu):Prop:=Ss X r t/\(assignEach r X.env).length=r.length/\List.findIdx? (λx=>x.1) (assignEach r X.env)=P
def Wz(X:Cx)(p:Yo×Yo)(t:TI):Prop:=PI X p.1 p.2 t/\jT p.2=S
abbrev CE(T:G Fd)(J:Jd TE):=CK T PE J
abbrev CA(T:G Fd)(J:Jd TA):=CK T PA J
abbrev CT(T:G Fd)(J:Jd TT):=CK T PT J
abbrev CQ(T:G Fd)(J:Jd TT):=CK T yQ J
abbrev CO(T:G Fd)(J:Jd TO):=CK T PO J
abbrev CG(T:G Fd)(J:Jd TG):=CK T WQ J
abbrev CH(T:G Fd)(J:Jd yu):=CK T Xl J
abbrev CI(T:G Fd)(J:Jd TI):=CK T Wz J
abbrev CU(T:G Fd)(J:Jd TS):=CK T PS J
abbrev CS(T:G Fd)(J:Jd TS):=CK T PSs J
def xi{T:G Fd}{α a:Type}{P:Cx->α->a->Prop}{A J:Jd a}[x:CK T P A](k:∀{K E t},A K E t->J K E t):CK T P J:=#[x.chk,λc h=>let#[t,p,q]:=x.ok c h;#[t,p,k q]]
end CC
set_option warn.classDefReducibility false
namespace CC
open PySem L2 L3 L10
variable{T:cc Fd}
def Jj(i:Nat)(a:Gm)(e:Yo):Bool:=(vN e).any λx=>a.N[i]? ==R x.1&&S3 a.sc x.1&&UD x.1
def x0{a:Gm}{X:Cx}{E:XK}{i:Nat}{e:Yo}(c:Ct T a X E)(h:Jj i a e=S):PE X e (xg i):=by
 let(x,q,h):=bu h;rw[oZ q];unfold S3 at h;simp only[Ld,Zf]at h;show Ou (by rw[c.n];show beq_iff_eq.mp h.1.1) ?_ (uv h.2).1 (uv h.2).2.1;ext VW;rw[c.sc];rcases h.1.2 with(z|z)|z
 .show .inl (fO z)
 .show .inr (.inl (fO z))
 .show .inr (.inr (fO z))
def My{J:Jd TE}(i:Nat)(k:∀{K E},J K E (xg i)):CE T J:=#[Jj i,λc h=>#[_,x0 c h,k]]
noncomputable instance:CE T (eo (aa i)):=My i RI
noncomputable instance:CE T (es (au i)):=My i Kr
def dq:Nat->D->D->Bool
 |0,_,_=>M
 |_+1,.int a,.int b=>a==b
 |_+1,.str a,.str b=>a==b
 |_+1,.none,.none=>S
 |_+1,.bool a,.bool b=>a==b
 |n+1,.tuple a,.tuple b=>a.length==b.length&&(a.zip b).all λp=>dq n p.1 p.2
 |n+1,.list a,.list b=>a.length==b.length&&(a.zip b).all λp=>dq n p.1 p.2
 |_,_,_=>M
def qL{f:D->D->Bool}(i:∀a b,f a b=S->a=b):∀{a b:G D},(a.length==b.length&&(a.zip b).all λp=>f p.1 p.2)=S->a=b:=by
 intro a
 induction a with
 |nil=>
  intro b h;cases b with
  |nil=>rfl
  |cons y s=>ext h
 |cons x r g=>
  intro b h;cases b with
  |nil=>ext h
  |cons y s=>rw[Ld]at h;let(e,d):=h;rw[afg,ZC,Ld]at d;let e:=eq_of_beq e;rw[i x y d.1,g (b:=s) (by rw[Ld];show#[beq_iff_eq.mpr (by simpa using e),d.2])]
def qW:∀(n:Nat) (a b:D),dq n a b=S->a=b:=by
 intro n
 induction n with
 |zero=>intro a b h;ext h
 |succ n d=>
  intro a b h;unfold dq at h;split at h
  .ext h
  .rw[eq_of_beq h]
  .rw[eq_of_beq h]
  .rfl
  .rw[eq_of_beq h]
  .rename_i e;ext e;rw[qL d h]
  .rename_i e;ext e;rw[qL d h]
  .ext h
def cD:Const->z D
 |.int i=>R (.int i)
 |.str x=>R (.str x)
 |.bool b=>R (.bool b)
 |.none=>R .none
 |_=>P
noncomputable instance{d:D}:CE T (eo (pC d)) where
 chk Γ e:=(((vC e).bind cD).any λa=>dq 9 a d)||((vN e).any λx=>QR Γ x.1&&((Γ.M.cs.lookup x.1).any λa=>dq 9 a d))
 ok c h:=by
  rcases(Zf _ _).mp h with h|h
  .let(a,q,h):=bu h
   obtain rfl:=qW _ _ _ h;let(k,f,b):=YQ.mp q;let(_,_,rfl):=NA f;ext k<;>ext b
   .show#[_,Qh,P1]
   .show#[_,SJ,Tu]
   .show#[_,Q3,P7]
   .show#[_,Qf,Qr]
  .let(x,q,h):=bu h;rw[Ld]at h;let(a,b,g):=bu h.2;obtain rfl:=qW _ _ _ g;let(j,i,_):=sr c h.1;let(v,u,e1,e2,e3):=c.md.cs _ _ b;rw[oZ q];show#[_,Lm j e1 e2 i,E4 e3]
class BOp (f:D->D->z RV) where
 sp:Yo->z (Yo×Yo)
 ok:∀{X:Cx} {e p ta tb},sp e=R p->X.A.units+65<cLine->jT p.2=S->PE X p.1 ta->PE X p.2 tb->∃r,PE X e (HX r ta tb)/\jU X.K r f
def Ew{f:D->D->ck RV}(op:Operator)(d:∀{X:Cx},∃r,OpR X (Zp op) r/\jU X.K r f):BOp f where
 sp e:=(Tc e).bind λx=>if x.2.1=op then R (x.1,x.2.2)else P
 ok h hu _ ha hb:=by
  let(x,q,a):=YQ.mp h;let(_,rfl):=Kw q;split at a
  .rename_i z;ext a;let(r,b,g):=d;rw[<-z]at b;show#[r,UA b ha hb,g]
  .ext a
def Wi{f:D->D->z RV}(k:∀{K},jU K (Ub K) f):BOp f where
 sp e:=(yx e).map λx=>(x.1,x.2.1)
 ok h _ hp ha hb:=by let(x,q,a):=adK.mp h;ext a;rw[lR q];show#[_,MN Hi ha hb (yK hp),k]
class COp (f:D->D->z RV) where
 op:ae8
 ok:∀{X:Cx},X.A.units+65<cLine->∃r,OpR X (Y9 op) r/\jU X.K r f
def UR(op:ae8)(e:Yo):z (Yo×Yo):=(Qy e).bind λx=>match x.2.2 with
 |[b]=>if x.2.1=[op]&& !behindInMarks op b then R (x.1,b)else P
 |_=>P
def y6{op:ae8}{e:Yo}{p:Yo×Yo}(h:UR op e=R p):∃pos,e=.Compare p.1 [op] [p.2] pos/\behindInMarks op p.2=M:=by
 let((a,o,b),q,d):=YQ.mp h;let(_,rfl):=Bo q;dsimp only at d;split at d
 .split at d
  .rename_i z;ext d;rw[Ld,decide_eq_true_eq,ZK]at z;show#[_,by rw[z.1],z.2]
  .ext d
 .ext d
noncomputable instance[o:COp f]:BOp f where
 sp:=UR o.op
 ok h hu _ ha hb:=by let(p,rfl,q):=y6 h;let(r,b,a):=o.ok hu;show#[r,Lb b ha hb q,a]
noncomputable instance:BOp aK:=Wi G8
noncomputable instance:BOp L3.i9:=Wi Jp
noncomputable instance:COp bv:=#[.Eq,λh=>#[_,Pn (),NW]]
noncomputable instance:COp lr:=#[.NotEq,λh=>#[_,Pc (),Oq]]
noncomputable instance:COp qX:=#[.LtE,λ_=>#[_,Ui,Om]]
noncomputable instance:COp uR:=#[.Lt,λ_=>#[_,SR,P0]]
noncomputable instance:COp VY:=#[.Gt,λ_=>#[_,Tz,Pw]]
noncomputable instance:COp kJ:=#[.In,λh=>#[_,Qb h,QV]]
noncomputable instance:COp nQ:=#[.NotIn,λh=>#[_,Ik h,JX]]
noncomputable instance:COp nO:=#[.Is,λ_=>#[_,RH,L5]]
noncomputable instance:COp lf:=#[.IsNot,λ_=>#[_,KJ,Ls]]
noncomputable instance:COp Vl:=#[.In,λ_=>#[_,PU,HZ]]
noncomputable instance:COp UZ:=#[.LtE,λ_=>#[_,O9,Jn]]
noncomputable instance:BOp cH:=Ew .Add #[_,Kd,Km]
noncomputable instance:BOp c7:=Ew .Add #[_,yD,Fz]
noncomputable instance:BOp rq:=Ew .Sub #[_,Rn,JH]
noncomputable instance:BOp rM:=Ew .Mod #[_,NT,Iy]
noncomputable instance:BOp tj:=Ew .FloorDiv #[_,Gu,Lg]
noncomputable instance:BOp eY:=Ew .Mult #[_,IS,HH]
noncomputable instance:BOp mE:=Ew .BitAnd #[_,Rh,Io]
noncomputable instance:BOp LC:=Ew .BitOr #[_,Ty,Qx]
noncomputable instance:BOp Jb:=Ew .LShift #[_,OE,Jt]
noncomputable instance:BOp vM:=Ew .RShift #[_,Ry,Lo]
section
variable{A B C J:Jd TE}{U Z:Jd TA}{Q R S:Jd TT}
def Ul(A B:Jd TE){f:D->D->z RV}[o:BOp f][x:CE T A][y:CE T B](k:∀{K E r l j},jU K r f->A K E l->B K E j->J K E (HX r l j)):CE T J where
 chk Γ e:=(o.sp e).any λp=>jT p.2&&x.chk Γ p.1&&y.chk Γ p.2
 ok c h:=by let(p,q,h):=bu h;simp only[Ld]at h;let(l,i,g):=x.ok c h.1.2;let(j,b1,d):=y.ok c h.2;let(r,b,a):=o.ok q (tR c.rm) h.1.1 i b1;show#[_,b,k a g d]
noncomputable instance[BOp f][CE T (eo a)][CE T (eo b)]:CE T (eo (am f a b)):=Ul (eo a) (eo b) ND
noncomputable instance[BOp f][CE T (es a)][CE T (es b)]:CE T (es (i6 f a b)):=Ul (es a) (es b) Eu
noncomputable instance[CE T (es a)][CE T (es b)]:CE T (es (L10.i9 a b)) where
 chk Γ e:=(yx e).any λp=>jT p.2.1&&CK.chk T PE (es a) Γ p.1&&CK.chk T PE (es b) Γ p.2.1
 ok c h:=by let(p,q,h):=bu h;simp only[Ld]at h;let(j,g,f):=CK.ok c h.1.2;let(i,b1,d):=CK.ok c h.2;rw[lR q];show#[_,MN Hi g b1 (yK h.1.1),QX f d]
def Mm(k:∀{K E},Z K E jx):CA T Z:=#[λ_ l=>l.isEmpty,λ_ h=>by rw[YS.mp h];show#[_,oS,k]]
def Ej(A:Jd TE)(U:Jd TA)[x:CE T A][y:CA T U](k:∀{K E g f},A K E g->U K E f->Z K E (g7 g f)):CA T Z where
 chk Γ l:=match l with
  |e::r=>jT e&&x.chk Γ e&&y.chk Γ r
  |[]=>M
 ok c h:=by
  split at h
  .simp only[Ld]at h;let(g,d,b):=x.ok c h.1.2;let(f,b1,a):=y.ok c h.2;show#[_,kj d b1 (fF h.1.1),k b a]
  .ext h
noncomputable instance:CA T (ao ah):=Mm Oo
noncomputable instance:CA T (as aL):=Mm uW
noncomputable instance[CE T (eo a)][CA T (ao b)]:CA T (ao (ae a b)):=Ej (eo a) (ao b) K6
noncomputable instance[CE T (es a)][CA T (as b)]:CA T (as (aj a b)):=Ej (es a) (as b) Dr
def MJ(U:Jd TA)[x:CA T U](k:∀{K E t},U K E t->J K E (IW t)):CE T J where
 chk Γ e:=(J1 e).any (x.chk Γ)
 ok c h:=by let(l,q,h):=bu h;let(_,_,rfl):=Bc q;let(t,b,a):=x.ok c h;show#[_,P9 b,k a]
def Uf(U:Jd TA)[x:CA T U](k:∀{K E t},U K E t->J K E (Rr t)):CE T J where
 chk Γ e:=(S0 e).any (x.chk Γ)
 ok c h:=by let(l,q,h):=bu h;let(_,rfl):=IY q;let(t,b,a):=x.ok c h;show#[_,PP b,k a]
noncomputable instance[CA T (ao a)]:CE T (eo (bT a)):=MJ (ao a) Rm
noncomputable instance[CA T (as a)]:CE T (es (nI a)):=MJ (as a) Ku
noncomputable instance[CA T (ao a)]:CE T (eo (bV a)):=Uf (ao a) QS
noncomputable instance[CE T (eo a)]:CE T (es (ag a)):=xi (A:=eo a) xu
noncomputable instance[CE T (es a)]:CE T (es (mh a)):=xi (A:=es a) Af
class Fn (T:G Fd) {φ:Type} (k:Nat->Str->G Str->Nat->φ->Fd) (F:φ) (n:Nat) where
 i:Nat
 lv:Nat
 x:Str
 ps:G Str
 h:T[i]?=cL (k lv x ps n F)
def UU(b:Gm)(i lv:Nat)(x:Str)(e:Yo):ck (Yo×G Yo×Pos×Pos):=(xE e).bind λy=>match y.2.1 with
 |a::r=>(vN y.1).bind λz=>if z.1==x&&QR b x&&decide (i<b.top)&&decide (lv<=b.lv)&&(a::r).all jT&&y.2.2.1.isEmpty then cL (a,r,z.2,y.2.2.2)else P
 |[]=>P
def yy{c:Gm}{i lv:Nat}{x:Str}{e:Yo}{y:Yo×G Yo×Pos×Pos}(h:UU c i lv x e=cL y):e=.Call (.Name x y.2.2.1) (y.1::y.2.1) [] y.2.2.2/\QR c x=XX/\i<c.top/\lv<=c.lv/\(y.1::y.2.1).all jT=XX:=by
 let((f,l,n,p),q,a):=YQ.mp h;rw[na q];dsimp only at a;split at a
 .let(z,b,d):=YQ.mp a
  obtain rfl:=oZ b;split at d
  .rename_i z;ext d;simp only[Ld,decide_eq_true_eq,beq_iff_eq,YS]at z;let(((((rfl,b),m),j),g),rfl):=z;show#[W,b,m,j,g]
  .ext d
 .ext a
def AC(U:Jd TA){i:Type}(k0:Nat->Str->G Str->Nat->i->Fd)(F:i)(n:Nat)[o:Fn T k0 F n][u:CA T U](v:Bool)(k:∀{X:Cx} {E lv x D t e r p q},k0 lv x D n F X.prog X.w X.K X.mg X.base->(v=XX->eA (L4.Hn X.prog X.w) X E)->ZN lv X.A->Gl X x->(x==("__debug__":Str))=M->(e::r).all jT=XX->PA X (e::r) t->U X.K E t->∃s,PE X (.Call (.Name x p) (e::r) [] q) s/\J X.K E s):CE T J where
 chk Γ e:=(!v||Γ.rz)&&(UU Γ o.i o.lv o.x e).any λy=>u.chk Γ (y.1::y.2.1)
 ok c h:=by rw[Ld]at h;let(y,q,f):=bu h.2;let(rfl,g,I,b,a):=yy q;let(m,l,_):=sr c g;let(t,j,d):=u.ok c f;show k (c.fs _ _ I o.h) (λz=>Mu c (by let:=h.1;rw[z]at this;show this)) (c.rm.mono b) m l a j d
noncomputable instance[Fn T cb F n][CA T (ao a)]:CE T (eo (aW F n a)):=AC (ao a) cb F n M λf _ r g d p e b=>#[_,v1 f r e (X6 _) g d (gz p) (my p),Oa b]
noncomputable instance[Fn T cb F n][CA T (as a)]:CE T (es (gC F n a)):=AC (as a) cb F n M λf _ r g d p e b=>#[_,v1 f r e (X6 _) g d (gz p) (my p),KF b]
noncomputable instance[Fn T Nm F n][CA T (as a)]:CE T (es (tF F n a)):=AC (as a) Nm F n M λf _ r g d p e b=>#[_,v1 f r e (X6 _) g d (gz p) (my p),C6 b]
noncomputable instance[Fn T Nm F n][CA T (as a)]:CE T (es (wB F n a)):=AC (as a) Nm F n M λf _ r g d p e b=>#[_,v1 f r e (X6 _) g d (gz p) (my p),BO b]
class CB (f:G D->z RV) where
 x:Str
 v:XY
 b:YO x=cL v
 y:(∃id,v=.builtin id)\/∃ty,v=.type ty
 ok:∀{X:Cx},X.calm=XX->∃r,ZS X v r/\wj X.K r f
def D1(a:Gm)(x:Str)(e:Yo):z (Yo×G Yo×Pos×Pos):=if blt a x then UU {a with top:=1} 0 0 x e else P
def ke{c:Gm}{x:Str}{e:Yo}{y:Yo×G Yo×Pos×Pos}(h:D1 c x e=cL y):e=.Call (.Name x y.2.2.1) (y.1::y.2.1) [] y.2.2.2/\blt c x=XX/\(y.1::y.2.1).all jT=XX:=by
 unfold D1 at h;split at h
 .rename_i z;let(b,_,_,_,a):=yy h;show#[b,z,a]
 .ext h
def vq{m:Gm}{X:Cx}{E:XK}{x:Str}{v:XY}{r:G V->Hp->VK->Prop}{e:Yo}{l:G Yo}{p q:Pos}{t:TA}(c:Ct T m X E)(j:blt m x=XX)(b:YO x=cL v)(y:(∃id,v=.builtin id)\/∃ty,v=.type ty)(k:ZS X v r)(a:(e::l).all jT=XX)(h:PA X (e::l) t):PE X (.Call (.Name x p) (e::l) [] q) (Dh r t):=by
 let(i,f,g,d):=ki c j;rcases y with⟨id,rfl⟩|⟨id,rfl⟩
 .show FU k i f b h d g (gz a) (my a)
 .show BV k i f b h d g (gz a) (my a)
def Ux(U:Jd TA)(f:G D->z RV)[o:CB f][u:CA T U](k:∀{K E r t},wj K r f->U K E t->J K E (Dh r t)):CE T J where
 chk Γ e:=(D1 Γ o.x e).any λy=>u.chk Γ (y.1::y.2.1)
 ok c h:=by let(y,q,i):=bu h;let(rfl,g,a):=ke q;let(t,j,d):=u.ok c i;let(r,k1,k2):=o.ok c.cm;show#[_,vq c g o.b o.y k1 a j,k k2 d]
noncomputable instance[CB f][CA T (ao a)]:CE T (eo (cF f a)):=Ux (ao a) f Nf
noncomputable instance[CB f][CA T (as a)]:CE T (es (Gr f a)):=Ux (as a) f N3
noncomputable instance:CB eU:=#["len",_,MZ,.inl #[_,W],λ_=>#[_,xB,Pb]]
noncomputable instance:CB wy:=#["len",_,MZ,.inl #[_,W],λ_=>#[_,xB,Ln]]
noncomputable instance:CB mJ:=#["tuple",_,K4,.inr #[_,W],λ_=>#[_,sY,D9]]
noncomputable instance:CB sU:=#["all",_,SH,.inl #[_,W],λh=>#[_,GD h,N4]]
noncomputable instance:CB uF:=#["int",_,Mg,.inr #[_,W],λ_=>#[_,CD,Qv]]
noncomputable instance:CB Ib:=#["int",_,Mg,.inr #[_,W],λ_=>#[_,BH,JQ]]
noncomputable instance:CB gv:=#["str",_,Se,.inr #[_,W],λ_=>#[_,uA,PB]]
noncomputable instance:CB ou:=#["list",_,HA,.inr #[_,W],λ_=>#[_,uS,Ir]]
noncomputable instance:CB L9.gQ:=#["sorted",_,rK,.inl #[_,W],λ_=>#[_,L9.uT,L9.yM]]
def U9(a:Gm)(x y:Str)(i:Int)(e:Yo):ck Yo:=(xE e).bind λc=>match c.2.1,c.2.2.1 with
 |[l],[#[cL w,v,_]]=>if(vN c.1).any (λz=>z.1==x)&&blt a x&&w==y&&((vC v).bind cD).any (λz=>dq 2 z (.int i))&&jT l then cL l else P
 |_,_=>P
def FX{k:Gm}{x y:Str}{i:Int}{e l:Yo}(h:U9 k x y i e=cL l):(∃p s I D j,e=.Call (.Name x p) [l] [#[cL y,.Constant (.int i) j s,I]] D)/\blt k x=XX/\jT l=XX:=by
 let((f,a,G,p),q,b):=YQ.mp h;rw[na q];dsimp only at b;split at b
 .split at b
  .rename_i z;ext b;simp only[Ld,beq_iff_eq]at z;let((((r,o),rfl),m),g):=z;let(n,F,E):=bu r;let(d,w,v):=bu m;let(c,u,t):=YQ.mp w;obtain rfl:=qW _ _ _ v;let(j,s,rfl):=NA u;ext c<;>ext t;rw[oZ F,beq_iff_eq.mp E];show#[#[_,_,_,_,_,W],o,g]
  .ext b
 .ext b
noncomputable instance[u:CA T (ao a)]:CE T (eo (cF (L10.zL i) a)) where
 chk Γ e:=(U9 Γ "max" "default" i e).any λl=>u.chk Γ [l]
 ok c h:=by let(l,q,j):=bu h;let((_,_,_,_,_,rfl),g,b):=FX q;let(n,m,_):=ki c g;let(t,f,d):=u.ok c j;show#[_,L10.J0 c.cm n m f (zE b),Nf L10.Jy d]
noncomputable instance[x:CE T (eo a)]:CE T (eo (P8 Cv a)) where
 chk Γ e:=(UE e).any λy=>(match y.1 with|.USub=>XX|_=>M)&&x.chk Γ y.2
 ok c h:=by let((o,e),q,b):=bu h;let(_,rfl):=x8 q;rw[Ld]at b;let(t,f,d):=x.ok c b.2;ext o<;>first|show#[_,Uo P6 f,TM JE d]|cases b.1
noncomputable instance:CO T (oo iX):=#[λ_ e=>e.isNone,λ_ h=>by rw[Z9.mp h];show#[_,JY,DB]]
noncomputable instance[x:CE T (eo a)]:CO T (oo (eB a)) where
 chk Γ e:=e.any (x.chk Γ)
 ok c h:=by let(e,q,f):=bu h;subst q;let(t,d,b):=x.ok c f;show#[_,KB d,D3 b]
class SOp (f:D->z Int->z Int->z RV) where
 ok:∀{X:Cx},∃r,RQ X r/\UL X.K r f
noncomputable instance:SOp Df:=#[#[_,QW,Iw]]
noncomputable instance:SOp jA:=#[#[_,Q2,IB]]
noncomputable instance[o:SOp f][x:CE T (eo a)][m:CO T (oo l)][n:CO T (oo u)]:CE T (eo (tN f a l u)) where
 chk Γ e:=(yx e).any λy=>(Wc y.2.1).any λz=>z.2.2.isNone&&x.chk Γ y.1&&m.chk Γ z.1&&n.chk Γ z.2.1
 ok c h:=by let((e,s,p),q,w):=bu h;rw[lR q];let((G,F,E),g,d):=bu w;let(_,b):=OD g;let b:s=_:=b;subst b;simp only[Ld,Z9]at d;let(((rfl,v),j),i):=d;let(t,k1,k2):=x.ok c v;let(I,k3,k4):=m.ok c j;let(H,k5,k6):=n.ok c i;let(r,k7,k8):=o.ok;show#[_,F6 k7 k1 k3 k5,SG k8 k2 k4 k6]
def OB(op:BoolOp)(A B:Jd TE)[x:CE T A][y:CE T B]{f:TE->TE->TE}(p:∀{X:Cx} {a b pos s n},PE X a s->PE X (.BoolOp op [b] pos) n->PE X (.BoolOp op [a,b] pos) (f s n))(k:∀{K E s n},A K E s->B K E n->J K E (f s n)):CE T J where
 chk Γ e:=(Va e).any λz=>decide (z.1=op)&&match z.2.1 with
  |[l,r]=>x.chk Γ l&&y.chk Γ r
  |_=>M
 ok c h:=by
  let((o,l,p),q,g):=bu h;rw[EF q];simp only[Ld,decide_eq_true_eq]at g;let(rfl,d):=g;split at d
  .rw[Ld]at d;let(s,m,j):=x.ok c d.1;let(n,b1,i):=y.ok c d.2;show#[_,p m (OX b1),k j i]
  .ext d
noncomputable instance[CE T (eo a)][CE T (eo b)]:CE T (eo (C3 a b)):=OB .And (eo a) (eo b) GJ NZ
noncomputable instance[CE T (eo a)][CE T (eo b)]:CE T (eo (IV a b)):=OB .Or (eo a) (eo b) QH QI
noncomputable instance[CE T (es a)][CE T (es b)]:CE T (es (x3 a b)):=OB .And (es a) (es b) GJ Kq
def Th(Q:Jd TT)(A B:Jd TE)[l:CT T Q][x:CE T A][y:CE T B](k:∀{K E t n m},Q K E t->A K E n->B K E m->J K E (UX t n m)):CE T J where
 chk Γ e:=(Wn e).any λw=>l.chk Γ w.1&&x.chk Γ w.2.1&&y.chk Γ w.2.2
 ok c h:=by let(w,q,a):=bu h;let(_,rfl):=Rj q;simp only[Ld]at a;let(j,d,b):=l.ok c a.1.1;let(n,i,g):=x.ok c a.1.2;let(m,b1,f):=y.ok c a.2;show#[_,FC d i b1,k b g f]
noncomputable instance[CT T (lJ q)][CE T (eo a)][CE T (eo b)]:CE T (eo (Dl q a b)):=Th (lJ q) (eo a) (eo b) TX
noncomputable instance[CT T (mY q)][CE T (es a)][CE T (es b)]:CE T (es (Nc q a b)):=Th (mY q) (es a) (es b) Qk
def Wo(o p:ae8)(e:Yo):z (Yo×Yo×Yo):=(Qy e).bind λx=>match x.2.2 with
 |[b,c]=>if x.2.1=[o,p]&& !lastMarks [o,p] [b,c]then cL (x.1,b,c)else P
 |_=>P
def PX{o p:ae8}{e:Yo}{y:Yo×Yo×Yo}(h:Wo o p e=cL y):∃pos,e=.Compare y.1 [o,p] [y.2.1,y.2.2] pos/\lastMarks [o,p] [y.2.1,y.2.2]=M:=by
 let((a,u,b),q,d):=YQ.mp h;let(_,rfl):=Bo q;dsimp only at d;split at d
 .split at d
  .rename_i z;ext d;rw[Ld,decide_eq_true_eq,ZK]at z;show#[_,by rw[z.1],z.2]
  .ext d
 .ext d
section
variable{f g:D->D->ck RV}{a b d:FE}[o:COp f][p:COp g][x:CE T (eo a)][y:CE T (eo b)][v:CE T (eo d)]
def OU(x:CE T (eo a))(y:CE T (eo b))(v:CE T (eo d))(o:COp f)(p:COp g)(c:Gm)(e:Yo):Bool:=(Wo o.op p.op e).any λw=>x.chk c w.1&&y.chk c w.2.1&&v.chk c w.2.2
def An{k X E e}(c:Ct T k X E)(h:OU x y v o p k e=XX):∃t,PE X e t/\PT X e (tY t)/\EO X.K E t (dB f g a b d):=by let(w,q,i):=bu h;let(m,rfl,j):=PX q;simp only[Ld]at i;let(L,l,z):=x.ok c i.1.1;let(I,b1,u):=y.ok c i.1.2;let(F,d1,n):=v.ok c i.2;let(r,k1,k2):=o.ok (tR c.rm);let(s,k3,k4):=p.ok (tR c.rm);show#[_,GL k1 k3 l b1 d1 j,ET k1 k3 l b1 d1 j,HC k2 k4 z u n]
noncomputable instance:CE T (eo (dB f g a b d)):=#[OU x y v o p,λc h=>let#[_,h1,_,e]:=An c h;#[_,h1,e]]
end
def Wa(A:Jd TE)[x:CE T A](k:∀{K E t},A K E t->Q K E (tB t)):CT T Q where
 chk Γ e:=Sm e&&x.chk Γ e
 ok c h:=by rw[Ld]at h;let(t,b,a):=x.ok c h.2;show#[_,NJ b (KS h.1),k a]
def Nu(A B:Jd TE){f:D->D->z RV}[o:COp f][x:CE T A][y:CE T B](k:∀{K E r n m},jU K r f->A K E n->B K E m->Q K E (tY (HX r n m))):CT T Q where
 chk Γ e:=(UR o.op e).any λp=>x.chk Γ p.1&&y.chk Γ p.2
 ok c h:=by let(p,q,a):=bu h;rw[Ld]at a;let(n,l,j):=x.ok c a.1;let(m,b1,i):=y.ok c a.2;let(_,rfl,b):=y6 q;let(r,g,d):=o.ok (tR c.rm);show#[_,IZ g l b1 b,k d j i]
noncomputable instance[CE T (eo a)]:CT T (lJ (ai a)):=Wa (eo a) Up
noncomputable instance[CE T (es a)]:CT T (mY (aZ a)):=Wa (es a) Nr
noncomputable instance[COp f][CE T (eo a)][CE T (eo b)]:CT T (lJ (ai (am f a b))):=Nu (eo a) (eo b) λg e d=>kX (ND g e d)
noncomputable instance[COp f][CE T (es a)][CE T (es b)]:CT T (mY (aZ (i6 f a b))):=Nu (es a) (es b) λg e d=>sC (Eu g e d)
noncomputable instance[o:COp f][p:COp g][x:CE T (eo a)][y:CE T (eo b)][v:CE T (eo d)]:CT T (lJ (ai (dB f g a b d))):=#[OU x y v o p,λc h=>let#[_,_,h1,e]:=An c h;#[_,h1,kX e]]
def MW(R:Jd TT)[f:CT T R](k:∀{K E t},R K E t->Q K E (Kn t)):CT T Q where
 chk Γ e:=(UE e).any λy=>(match y.1 with|.Not=>XX|_=>M)&&f.chk Γ y.2
 ok c h:=by let((o,e),q,a):=bu h;let(_,rfl):=x8 q;rw[Ld]at a;let(t,d,b):=f.ok c a.2;ext o<;>first|show#[_,Qc d,k b]|cases a.1
theorem Uz{X:Cx}{op:BoolOp}{b:G Yo}{a:Pos}{t:TT}(h:PT X (.BoolOp op b a) t):PW X (.BoolOp op b a) t:=λ_=>h
def KN(op:BoolOp)(R S:Jd TT)[I:CT T R][v:CT T S]{f:TT->TT->TT}(F:∀{X:Cx} {a pos t},PT X a t->PW X (.BoolOp op [a] pos) t)(p:∀{X:Cx} {a b r pos D x},PT X a D->PW X (.BoolOp op (b::r) pos) x->PW X (.BoolOp op (a::b::r) pos) (f D x))(k:∀{K E D x},R K E D->S K E x->Q K E (f D x)):CT T Q where
 chk Γ e:=(Va e).any λy=>decide (y.1=op)&&match y.2.1 with
  |[l,m]=>I.chk Γ l&&v.chk Γ m
  |l::m::n::s=>I.chk Γ l&&v.chk Γ (.BoolOp op (m::n::s) y.2.2)
  |_=>M
 ok c h:=by
  let((o,l,w),q,u):=bu h;rw[EF q];simp only[Ld,decide_eq_true_eq]at u;let(rfl,d):=u;split at d
  .rw[Ld]at d;let(D,j,i):=I.ok c d.1;let(x,b1,g):=v.ok c d.2;show#[_,(p j (F b1)).pt,k i g]
  .rw[Ld]at d;let(D,j,i):=I.ok c d.1;let(x,b1,g):=v.ok c d.2;show#[_,(p j (Uz b1)).pt,k i g]
  .ext d
noncomputable instance[CT T (lJ q)]:CT T (lJ (jG q)):=MW (lJ q) Iv
noncomputable instance[CT T (mY q)]:CT T (mY (L10.qY q)):=MW (mY q) JG
noncomputable instance[CT T (lJ q)][CT T (lJ r)]:CT T (lJ (jK q r)):=KN .And (lJ q) (lJ r) A4 Fw Kl
noncomputable instance[CT T (lJ q)][CT T (lJ r)]:CT T (lJ (pQ q r)):=KN .Or (lJ q) (lJ r) D0 MG PF
noncomputable instance[CT T (mY q)][CT T (mY r)]:CT T (mY (mV q r)):=KN .And (mY q) (mY r) A4 Fw Im
noncomputable instance[CT T (mY q)][CT T (mY r)]:CT T (mY (zI q r)):=KN .Or (mY q) (mY r) D0 MG RD
noncomputable instance[CT T (lJ q)]:CT T (mY (br q)):=xi (A:=lJ q) Hv
end
end CC
set_option warn.classDefReducibility false
namespace CC
open PySem L2 L3 L10
variable{T:cc Fd}{A B C J:Jd TE}{U Z:Jd TA}
def RP(x:Str)(e:Yo):ck (Yo×G Yo×Pos×Pos):=(xE e).bind λy=>(UT y.1).bind λz=>if z.2.1==x&&Uy z.1&&z.2.2.endLine==y.2.2.2.line&&y.2.1.all jT&&decide (y.2.1.length<20)&&y.2.2.1.isEmpty then R (z.1,y.2.1,z.2.2,y.2.2.2)else P
def qG{x:Str}{e:Yo}{y:Yo×G Yo×Pos×Pos}(h:RP x e=R y):e=.Call (.Attribute y.1 x y.2.2.1) y.2.1 [] y.2.2.2/\Uy y.1=S/\(y.2.2.1.endLine==y.2.2.2.line)=S/\y.2.1.all jT=S/\y.2.1.length<20:=by
 let((f,l,u,p),q,v):=YQ.mp h;let((o,n,r),t,a):=YQ.mp v;rw[na q,show f=_ from zc t];split at a
 .rename_i z;ext a;simp only[Ld,decide_eq_true_eq,YS]at z;let(((((m,j),i),g),d),b):=z;show#[?_,j,i,g,d];rw[show n=x from beq_iff_eq.mp m,show u=[]from b]
 .ext a
class MS (f:Str->G D->z RV) where
 x:Str
 ok:∀{X:Cx},∃id r,Slot "str" x id/\typeOf (.builtin id)=pure (.type "method_descriptor")/\Mz X id r/\T6 X.K r f
noncomputable instance[o:MS f][x:CE T (eo a)][u:CA T (ao b)]:CE T (eo (tU f a b)) where
 chk Γ e:=(RP o.x e).any λy=>decide (0<y.2.1.length)&&x.chk Γ y.1&&u.chk Γ y.2.1
 ok c h:=by
  let((b,l,p,q),z,g):=bu h;let(rfl,I,H,d,G):=qG z;simp only[Ld,decide_eq_true_eq]at g;let((E,w),v):=g;let(t,n,m):=x.ok c w;let(K,j,i):=u.ok c v;let(id,r,k1,k2,k3,k4):=o.ok;cases l with
  |nil=>ext E
  |cons e l=>show#[_,Mq PySem.F.plainAttrs_str k1 k2 k3 n j (iB I) (pN d G) H (gz d) (my d),SK k4 m i]
noncomputable instance:MS gy:=#["join",#[_,_,PySem.F.slot_str_join,PySem.F.type_str_join,Jq,KZ]]
noncomputable instance:MS jZ:=#["split",#[_,_,PySem.F.slot_str_split,PySem.F.type_str_split,EX,FD]]
noncomputable instance:MS l9:=#["startswith",#[_,_,PySem.F.slot_str_startswith,PySem.F.type_str_startswith,BL,C0]]
def Ot(m:Str){id:String}{r:V->cc V->Hp->VK->Prop}(s:Slot "list" m id)(ty:typeOf (.builtin id)=pure (.type "method_descriptor"))(mt:∀{X:Cx},Mz X id r)(g:Gm->Yo->Bool)(G:Jd TE)(A:Jd TE)[x:CE T A](i:∀{D X E e},Ct T D X E->g D e=S->∃t,PE X e t/\G X.K E t)(k:∀{K E to t},G K E to->A K E t->J K E (Q7 K "list" r to (g7 t jx))):CE T J where
 chk D e:=(RP m e).any λy=>g D y.1&&match y.2.1 with
  |[e]=>x.chk D e
  |_=>M
 ok c h:=by
  let((b,l,p,q),z,f):=bu h;let(rfl,H,w,a,I):=qG z;rw[Ld]at f;let(v,d):=f;let(to,u,o):=i c v
  match l,a,d with
  |[e],a,d=>let a:[e].all jT=S:=a;let(t,n,j):=x.ok c d;show#[Q7 _ "list" r to (g7 t jx),?_,k o j];show Mq PySem.F.plainAttrs_list s ty mt u (kj n oS (gz a)) (iB H) (pN a (by show 1<20;decide)) w (gz a) W
def vJ(i:Nat):Jd TE:=λ_ _ t=>t=xg i
noncomputable instance[CE T (eo a)]:CE T (eo (wo i a)):=Ot "append" acR acS oO (Jj i) (vJ i) (eo a) (λc h=>#[_,x0 c h,W]) λh k=>by ext h;show P4 k
noncomputable instance[x:CE T (es o)][CE T (es a)]:CE T (es (uX o a)):=Ot "append" acR acS oO x.chk (es o) (es a) x.ok Jx
noncomputable instance[x:CE T (es o)][CE T (es a)]:CE T (es (BJ o a)):=Ot "extend" PySem.F.slot_list_extend PySem.F.type_list_extend C4 x.chk (es o) (es a) x.ok Ma
def N6(a:Gm)(C f:Str):Bool:=(a.M.cl.lookup C).any λL=>L.contains f
def z9{b:Gm}{X:Cx}{E:XK}{C f:Str}(c:Ct T b X E)(h:N6 b C f=S):∃L,nZ X.K C L/\f∈L:=by let(L,q,a):=bu h;show#[L,c.md.cl _ _ q,abz.mp a]
noncomputable instance{C f:Str}[x:CE T (es a)]:CE T (es (aY C f a)) where
 chk Γ e:=(UT e).any λy=>y.2.1==f&&N6 Γ C f&&Uy y.1&&x.chk Γ y.1
 ok c h:=by let((o,n,p),q,b):=bu h;rw[zc q];simp only[Ld,beq_iff_eq]at b;let(((rfl,r),m),l):=b;let(L,g,d):=z9 c r;let(t,j,i):=x.ok c l;show#[_,Rz j (iB m),Kj g d i]
class FM (T:G Fd) (rz:Bool) (C m:Str) (F:hG) (n:Nat) where
 i:Nat
 lv:Nat
 ps:G Str
 h:T[i]?=R (qO rz lv C m ps n F)
section
variable{C m:Str}{F:hG}{n:Nat}
def II(T:G Fd)(b hd:Bool)(C m:Str)(F:hG)(n:Nat)[o:FM T b C m F n](x:Gm->Yo->Bool)(u:Gm->G Yo->Bool)(a:Gm)(e:Yo):Bool:=(!hd||a.rz&&b)&&decide (o.i<a.top)&&decide (o.lv<=a.lv)&&(a.M.cl.lookup C).isSome&&(RP m e).any λy=>x a y.1&&u a y.2.1
def Ak{k hd:Bool}[o:FM T k C m F n]{x:Gm->Yo->Bool}{u:Gm->cc Yo->Bool}{s:Gm}{X:Cx}{E:XK}{e:Yo}(c:Ct T s X E)(h:II T k hd C m F n x u s e=S):∃(b:Yo) (l:cc Yo) (p q:Pos) (L:cc Str) (pl:Sem Bool),e=.Call (.Attribute b m p) l [] q/\x s b=S/\u s l=S/\nZ X.K C L/\oK X.prog X.w X.K X.mg X.base (if k then L4.Hn X.prog X.w else oa) o.lv C m o.ps (vx X.K n F)/\ZN o.lv X.A/\eA (if k then L4.Hn X.prog X.w else oa) X (if hd then E else E0)/\l.all jT=S/\eval (.Call (.Attribute b m p) l [] q) X.env=(do
   let I<-eval b X.env
   standAt p.atName
   let(f,first)<-holding [I] (getMethod I m pl)
   callWith q f first (backTo q (Yp l X.env)) (backToKw q (keywordEach [] X.env))):=by
 unfold II at h;simp only[Ld,decide_eq_true_eq]at h;let((((a,v),t),r),j):=h;let((b,l,p,q),z,d):=bu j;let(rfl,H,G,g,y):=qG z;rw[Ld]at d;let(L,i):=ZJ.mp r;let(pl,ev):=Sj (m:=m) (env:=X.env) H g y G;show#[b,l,p,q,L,pl,W,d.1,d.2,c.md.cl _ _ i,c.fs _ _ v o.h,c.rm.mono t,?_,g,ev];cases hd with
 |true=>let a:=(Ld _ _).mp a;rw[a.2];show Mu c a.1
 |false=>cases k with
  |true=>show RA
  |false=>show AN
def VX(s hd:Bool)(A:Jd TE)(U:Jd TA)[o:FM T s C m F n][x:CE T A][u:CA T U](k:∀{K E L to t},nZ K C L->A K E to->U K E t->J K E (rY K C m (vx K n F) (if hd then E else E0) to t)):CE T J where
 chk:=II T s hd C m F n x.chk λy l=> !l.isEmpty&&u.chk y l
 ok c h:=by
  let(b,l,p,q,L,pl,rfl,v,a,r,j,i,g,d,f):=Ak c h;rw[Ld]at a;let(to,k1,k2):=x.ok c v;let(t,k3,k4):=u.ok c a.2;cases l with
  |nil=>cases a.1
  |cons e l=>show#[_,SZ j g i k1 k3 (X6 _) (gz d) (my d) f,k r k2 k4]
def Tm(s hd:Bool)(A:Jd TE)[o:FM T s C m F n][x:CE T A](k:∀{K E L to},nZ K C L->A K E to->J K E (rY K C m (vx K n F) (if hd then E else E0) to jx)):CE T J where
 chk:=II T s hd C m F n x.chk λ_ l=>l.isEmpty
 ok c h:=by let(b,l,p,q,L,pl,rfl,j,a,i,g,f,e,r,d):=Ak c h;let(to,k1,k2):=x.ok c j;rw[YS]at a;subst a;show#[_,O0 g e f k1 (X6 _) d,k i k2]
noncomputable instance[FM T M C m F n][CE T (es o)][CE T (es a)][CA T (as b)]:CE T (es (aD C m F n o (aj a b))):=VX (C:=C) (m:=m) (F:=F) (n:=n) M M (es o) (as (aj a b)) AU
noncomputable instance[FM T M C m F n][CE T (es o)]:CE T (es (aD C m F n o aL)):=Tm (C:=C) (m:=m) (F:=F) (n:=n) M M (es o) λh k=>AU h k uW
class FK (T:G Fd) (C:Str) (F:hG) (n:Nat) where
 i:Nat
 lv:Nat
 ps:G Str
 h:T[i]?=R (T4 lv C ps n F)
noncomputable instance[o:FK T C F n][x:CE T (es a)][u:CA T (as b)]:CE T (es (iR C F n (aj a b))) where
 chk Γ e:=(Γ.M.cl.lookup C).isSome&&(UU Γ o.i (o.lv+1) C e).any λy=>CK.chk T PA (as (aj a b)) Γ (y.1::y.2.1)
 ok c h:=by rw[Ld]at h;let(L,j):=ZJ.mp h.1;let(y,q,p):=bu h.2;let(rfl,g,i,f,d):=yy q;let(w,v,_):=sr c g;let(t,r,l):=CK.ok c p;show#[_,Us (c.fs _ _ i o.h) AN c.rm r f w v (gz d) (my d),AL (c.md.cl _ _ j) l]
noncomputable instance[o:FK T C F n]:CE T (es (iR C F n aL)) where
 chk Γ e:=(Γ.M.cl.lookup C).isSome&&decide (o.i<Γ.top)&&decide (o.lv+1<=Γ.lv)&&QR Γ C&&(xE e).any λy=>y.2.1.isEmpty&&y.2.2.1.isEmpty&&(vN y.1).any λz=>z.1==C
 ok c h:=by simp only[Ld,decide_eq_true_eq]at h;let((((w,v),u),t),r):=h;let(L,d):=ZJ.mp w;let((f,l,H,p),q,a):=bu r;rw[na q];simp only[Ld,YS]at a;let((rfl,rfl),j):=a;let(z,b,g):=bu j;rw[show f=_ from oZ b,beq_iff_eq.mp g];let(G,E,_):=sr c t;show#[_,NY (c.fs _ _ v o.h) AN c.rm u G E,AL (c.md.cl _ _ d) uW]
end
end CC
set_option warn.classDefReducibility false
namespace CC
open PySem L2 L3 L10
variable{T:cc Fd}{A B C J:Jd TE}{U Z:Jd TA}{Q R:Jd TT}
theorem UG{a:Gm}{X:Cx}{E:XK}(c:Ct T a X E):X.A.units+1<cLine:=FQ c.rm
noncomputable instance[x:CE T (es d)][y:CE T (es k)]:CE T (es (qM d k)) where
 chk Γ e:=(yx e).any λp=>jT p.2.1&&x.chk Γ p.1&&y.chk Γ p.2.1
 ok c h:=by let(p,q,a):=bu h;simp only[Ld]at a;let(j,g,f):=x.ok c a.1.2;let(i,b1,b):=y.ok c a.2;rw[lR q];show#[_,LW (UG c) g b1 (yK a.1.1),Fi f b]
def M7(x y:Gm->Yo->Bool)(a:Gm)(e:Yo):Bool:=(UR .In e).any λp=>x a p.1&&y a p.2
def GM[x:CE T (es k)][y:CE T (es d)]{j X E e}(c:Ct T j X E)(h:M7 x.chk y.chk j e=S):∃t,PE X e t/\PT X e (tB t)/\eu X.K E t (sN M k d):=by let(p,q,a):=bu h;rw[Ld]at a;let(_,rfl,b):=y6 q;let(m,f,i):=x.ok c a.1;let(l,b1,g):=y.ok c a.2;show#[_,NP (GU (UG c) f b1) b,QA (GU (UG c) f b1) b,KQ i g]
noncomputable instance[x:CE T (es k)][y:CE T (es d)]:CT T (mY (aZ (sN M k d))):=#[M7 x.chk y.chk,λc h=>let#[_,_,h1,a]:=GM c h;#[_,h1,Nr a]]
noncomputable instance[x:CE T (es d)][y:CE T (es k)]:CE T (es (uj d k)) where
 chk Γ e:=(RP "pop" e).any λz=>x.chk Γ z.1&&match z.2.1 with
  |[e]=>y.chk Γ e
  |_=>M
 ok c h:=by
  let((b,l,p,q),z,g):=bu h;let(rfl,m,j,a,t):=qG z;rw[Ld]at g;let(i,f):=g;let(v,r,o):=x.ok c i
  match l,a,f with
  |[e],a,f=>let a:[e].all jT=S:=a;let(u,b1,n):=y.ok c f;show#[_,EB r b1 #[iB m,pN a (by show 1<20;decide),j,?_],Ho o n];rw[gz a];rfl
noncomputable instance[x:CE T (es d)]:CE T (es (wZ d)) where
 chk Γ e:=(D1 Γ "list" e).any λy=>y.2.1.isEmpty&&(RP "values" y.1).any λz=>z.2.1.isEmpty&&x.chk Γ z.1
 ok c h:=by let((e,l,E,w),q,f):=bu h;let(rfl,g,i):=ke q;simp only[Ld,YS]at f;let(rfl,o):=f;let((b,l,v,u),z,a):=bu o;let(rfl,r,p,H,G):=qG z;simp only[Ld,YS]at a;let(rfl,n):=a;let(t,m,j):=x.ok c n;show#[_,vq c g HA (.inr #[_,W]) (L10.y0 c.cm) i (kj (Pz ac6 acQ PySem.F.type_dict_values L10.BD m (iB r) p) oS (fF W)),Ea j]
def T5(x:Str){v:XY}(b:YO x=cL v)(y:(∃id,v=.builtin id)\/∃ty,v=.type ty)(A:Jd TE)[p:CE T A]{r:lD->G V->Hp->VK->Prop}(m:∀{X:Cx},X.calm=S->ZS X v (r X.K))(k:∀{K E t},A K E t->J K E (Dh (r K) (g7 t jx))):CE T J where
 chk Γ e:=(D1 Γ x e).any λy=>y.2.1.isEmpty&&p.chk Γ y.1
 ok c h:=by let((e,l,o,n),q,d):=bu h;let(rfl,g,a):=ke q;simp only[Ld,YS]at d;let(rfl,j):=d;let(t,i,f):=p.ok c j;show#[_,vq c g b y (m c.cm) a (kj i oS (gz a)),k f]
noncomputable instance[CE T (es d)]:CE T (es (qQ d)):=T5 "sorted" rK (.inl #[_,W]) (es d) (r:=λ_=>zl) L10.ya Fr
noncomputable instance[CE T (es d)]:CE T (es (tI d)):=T5 "dict" L10.NV (.inr #[_,W]) (es d) (r:=ym) L10.zg E7
def Lr(i:Nat)(a:Gm)(e:Yo):Bool:=(vN e).any λx=>a.N[i]? ==cL x.1&&(a.sc.lookup x.1==cL .local||(a.sc.lookup x.1==cL .cell&&a.fc.contains x.1))
def vP{b:Gm}{X:Cx}{E:XK}{i:Nat}{e:Yo}(c:Ct T b X E)(h:Lr i b e=S):∃x p,e=.Name x p/\X.N[i]?=cL x/\L2.RL X.env.scope x/\(X.fn x=S\/aao x X.env.scope.names=cL Ym.local):=by
 let((x,p),q,a):=bu h;simp only[Ld,Zf]at a;show#[x,p,oZ q,by rw[c.n];show beq_iff_eq.mp a.1,?_];ext L2.RL;rw[c.sc];rcases a.2 with z|⟨z,w⟩
 .show#[.inl (fO z),.inr (fO z)]
 .show#[.inr (fO z),.inl (c.fc _ (abz.mp w))]
def S7{G:Jd TG}(i:Nat)(k:∀{K E},G K E (pf i)):CG T G where
 chk:=Lr i
 ok c h:=by let(x,p,rfl,d,b,a):=vP c h;show#[_,#[J8 c.nd d b a,λ_=>W],k]
noncomputable instance:CG T (go (gN i)):=S7 i vH
noncomputable instance:CG T (HK (dW i)):=S7 i rc
def TW{G:Jd yu}(k:∀{K E},G K E IK):CH T G:=#[λ_ l=>l.isEmpty,λ_ h=>by rw[YS.mp h];show#[_,#[KC,W,W],k]]
noncomputable instance:CH T (gs Fc):=TW On
noncomputable instance:CH T (R9 v4):=TW KU
def Tf{I:Jd yu}(G:Jd TG)(H:Jd yu)[x:CG T G][y:CH T H](k:∀{K E t u},G K E t->H K E u->I K E (A1 t u)):CH T I where
 chk Γ l:=match l with
  |e::r=>x.chk Γ e&&y.chk Γ r
  |[]=>M
 ok c h:=by
  split at h
  .rw[Ld]at h;let(m,(i,a),g):=x.ok c h.1;let(j,(b1,d,b),f):=y.ok c h.2;show#[_,#[Hm i b1 (by rw[a];rfl),by rw[a,Yf,Yf,d],by rw[a,List.findIdx?_cons,b];rfl],k g f]
  .ext h
noncomputable instance[CG T (go g)][CH T (gs r)]:CH T (gs (vh g r)):=Tf (go g) (gs r) LY
noncomputable instance[CG T (HK g)][CH T (R9 r)]:CH T (R9 (mf g r)):=Tf (HK g) (R9 r) EA
def S6{I:Jd TG}(n:Nat)(H:Jd yu)[y:CH T H](k:∀{K E t},H K E t->I K E (K3 K n t)):CG T I where
 chk Γ e:=(J1 e).any λl=>decide (l.length=n)&&y.chk Γ l
 ok c h:=by let(l,q,a):=bu h;let(_,_,rfl):=Bc q;simp only[Ld,decide_eq_true_eq]at a;let(rfl,b):=a;let(t,(i,f,d),g):=y.ok c b;show#[_,#[PZ c.cm i f d,λ_=>W],k g]
noncomputable instance[CH T (gs r)]:CG T (go (gT n r)):=S6 n (gs r) NR
noncomputable instance[CH T (R9 r)]:CG T (HK (Ia n r)):=S6 n (R9 r) Ip
def Qa(A:Jd TE){I:Jd TI}[x:CE T A]{f:lD->TE->TI}(p:∀{X:Cx} {d e t},PE X e t->PI X d e (f X.K t))(k:∀{K E t},A K E t->I K E (f K t)):CI T I where
 chk Γ p:=jT p.2&&x.chk Γ p.2
 ok c h:=by rw[Ld]at h;let(t,b,a):=x.ok c h.2;show#[_,#[p b,h.1],k a]
noncomputable instance[CE T (eo a)]:CI T (io (eO a)):=Qa (eo a) Gd Px
noncomputable instance[CE T (eo a)]:CI T (io (zz a)):=Qa (eo a) (f:=λ_=>Hk) Qn G3
noncomputable instance[CE T (es a)]:CI T (RT (i8 a)):=Qa (es a) Gd K7
noncomputable instance[CI T (io f)]:CI T (QB f):=xi (A:=io f) λh=>L3.IO.s h
noncomputable instance[CI T (io f)]:CI T (RT (jO f)):=xi (A:=io f) HQ
noncomputable instance[u:CA T (ao a)]:CI T (io (jy kL a)) where
 chk I p:=(D1 I "range" p.2).any λy=>y.2.1.isEmpty&&u.chk I [y.1]
 ok {I X E p} c h:=by let((e,l,w,v),q,b):=bu h;let(z,g,f):=ke q;simp only[Ld,YS]at b;let(rfl,m):=b;let(o,n,_):=ki c g;let(t,j,i):=u.ok c m;let(r,d):=p;let z:d=_:=z;subst z;show#[_,#[CN o n j (gz f),W],K1 i]
def VH(U:Jd TA){I:Jd TI}[u:CA T U](k:∀{K E t},U K E t->I K E (rh K t)):CI T I where
 chk L p:=nV p.1&&(D1 L "enumerate" p.2).any λy=>y.2.1.isEmpty&&u.chk L [y.1]
 ok {L X E p} c h:=by rw[Ld]at h;let((e,l,w,v),q,a):=bu h.2;let(z,g,f):=ke q;simp only[Ld,YS]at a;let(rfl,m):=a;let(r,o,_):=ki c g;let(t,j,i):=u.ok c m;let(b,d):=p;let z:d=_:=z;subst z;let n:nV b=S:=h.1;let(_,_,_,rfl):=nv n;show#[_,#[wM r o j (gz f),W],k i]
noncomputable instance[CA T (ao a)]:CI T (io (L3.nu a)):=VH (ao a) IQ
noncomputable instance[u:CA T (ao a)]:CI T (io (yq a)) where
 chk r p:=nV p.1&&(U9 r "enumerate" "start" 1 p.2).any λl=>u.chk r [l]
 ok {r X E p} c h:=by rw[Ld]at h;let(l,q,j):=bu h.2;let((_,_,_,_,_,z),g,e):=FX q;let(o,n,_):=ki c g;let(t,i,f):=u.ok c j;let(b,d):=p;let z:d=_:=z;subst z;let m:nV b=S:=h.1;let(_,_,_,rfl):=nv m;show#[_,#[Ft o n i (zE e),W],Fx f]
noncomputable instance[u:CA T (ao a)]:CI T (io (zv a)) where
 chk I p:=nV p.1&&(D1 I "zip" p.2).any λy=>match y.2.1 with
  |[r]=>u.chk I [y.1,r]
  |_=>M
 ok {I X E p} c h:=by
  rw[Ld]at h;let((e,l,F,w),q,d):=bu h.2;let(z,g,b):=ke q;let(v,o,_):=ki c g;let(f,i):=p;let z:i=_:=z;subst z;let n:nV f=S:=h.1
  match l,b,d with
  |[r],b,d=>let b:[e,r].all jT=S:=b;let(t,m,j):=u.ok c d;let(_,_,_,rfl):=nv n;show#[_,#[RB v o m (gz b) (my b),W],Rt j]
end CC
set_option warn.classDefReducibility false
namespace CC
open PySem L2 L3 L10
variable{T:cc Fd}{A B C J:Jd TE}{U Z:Jd TA}{Q R:Jd TT}{G:Jd TG}{I:Jd TI}
noncomputable instance:CQ T (lJ bW):=#[λ_ l=>l.isEmpty,λ_ h=>by rw[YS.mp h];show#[_,xf,EC]]
noncomputable instance:CQ T (mY kI):=#[λ_ l=>l.isEmpty,λ_ h=>by rw[YS.mp h];show#[_,xf,EI]]
def Ws(Q:Jd TT)[d:CT T Q]:CQ T Q where
 chk Γ l:=match l with
  |[e]=>d.chk Γ e
  |_=>M
 ok c h:=by
  split at h
  .let(t,b,a):=d.ok c h;show#[_,Hf b,a]
  .ext h
noncomputable instance[CT T (lJ q)]:CQ T (lJ q):=Ws (lJ q)
noncomputable instance[CT T (mY q)]:CQ T (mY q):=Ws (mY q)
def t0{b:Type}(P:Jd (St->Hp->b->Prop))(K:lD)(E:XK):St->Hp->b->Prop:=λa H Q=>∀t,P K E t->t a H Q
def g0(P:Jd TG)(K:lD)(E:XK):TG:=λv a H Q=>∀t,P K E t->t v a H Q
class Cl {τ:Type} (P:Jd (St->Hp->τ->Prop)):Prop where
 cl:∀{K E},P K E (t0 P K E)
class ClG (P:Jd TG):Prop where
 cl:∀{K E},P K E (g0 P K E)
noncomputable instance:Cl (eo g):=#[λB b O a H d Q R w _ h=>h B b O a H d Q R w]
noncomputable instance:Cl (es g):=#[λB a H α b d Q s l w _ h=>h B a H α b d Q s l w]
noncomputable instance:Cl (lJ g):=#[λB b O a H d Q R w _ h=>h B b O a H d Q R w]
noncomputable instance:Cl (mY g):=#[λB a H α b d Q s l w _ h=>h B a H α b d Q s l w]
noncomputable instance:ClG (go g):=#[λB b O a H d v pv Q R p w _ h=>h B b O a H d v pv Q R p w]
noncomputable instance:ClG (HK g):=#[λB a H α b d v x Q s l p w _ h=>h B a H α b d v x Q s l p w]
def UY(e:Yo):cc Str:=((vN e).map (·.1)).toList++((J1 e).getD []).filterMap λe=>(vN e).map (·.1)
def OY(l:cc (Str×Ym)):cc Str:=(l.filter λy=>y.2==Ym.cell&&l.all λp=> !(p.1==y.1)|| !(p.2==Ym.free)).map (·.1)
def Vv(a:Gm)(l:cc (Str×Ym)):cc (Str×Ym):=l.map λp=>if(p.2==Ym.free&&(ScopeKind.function==ScopeKind.function)&&a.sc.lookup p.1==cL .cell)then(p.1,.cell)else p
def Gm.inn(b:Gm)(own:cc Str)(a:cc (Str×Nat))(sc:cc (Str×Ym)):Gm:={b with N:=own++a.map (·.1),sc:=Vv b sc,rz:=XZ,fa:=XZ,fc:=OY sc}
def Kz(b:Gm)(a:cc Nat):cc (Str×Nat):=a.filterMap λj=>(b.N[j]?).map λx=>(x,j)
def VZ(b:Gm)(sc:ZO)(a:cc (Str×Nat)):Bool:=a.all λp=>b.N[p.2]? ==cL p.1&&sc.names.lookup p.1==cL .free&&(b.sc.lookup p.1==cL .cell||b.sc.lookup p.1==cL .free)
theorem MR{g:Gm}{X:Cx}{E:XK}{sc:ZO}(c:Ct T g X E):∀{a:cc (Str×Nat)},VZ g sc a=S->adF X sc a
 |[],_=>trivial
 |p::r,h=>by unfold VZ at h;simp only[ZC,Ld,Zf]at h;let(((f,e),d),b):=h;show#[#[by rw[c.n];show beq_iff_eq.mp f,fO e,?_],MR c b];rw[c.sc];show d.imp fO fO
theorem Al{env:Env}{y:Str}:∀{l:cc (Str×Ym)} {acc:cc (Str×X5)},(∀p∈l,p.1=y->(p.2==Ym.free)=M)->acc.lookup y=P->(hW env l acc).lookup y=P
 |[],_,_,h=>h
 |(n,k)::r,acc,h,d=>by
  let a:=λacc=>Al (env:=env) (y:=y) (l:=r) (acc:=acc) λp b=>h p (Ya _ b);ext hW;split
  .rename_i q
   let ne:n≠y:=λe=>by rw[h (n,k) X9 e]at q;ext q
   split
   .show a _ (by rw[YM,show(y==n)=M from beq_eq_false_iff_ne.mpr (d0 ne)];show d)
   .show a _ d
  .show a _ d
def FH{env:Env}{l:cc (Str×Ym)}{y:Str}(h:y∈OY l):((hW env l []).lookup y).isNone=S:=by
 let(p,d,rfl):=Yy.mp h;let(_,a):=YF.mp d;rw[Ld]at a;rw[Al (λq b e=>?_) W]
 .rfl
 .let:=Y8.mp a.2 q b;rw[e,ec]at this;revert this;cases q.2==Ym.free<;>intro h<;>first|rfl|ext h
structure Lc(X:Cx)(E:XK)(n:Nat)(fj:cc Nat)(I:Jd TI)(G:Jd TG)(Q:Jd TT)(A:Jd TE)(sc:ZO)(elt:Yo)(cp:aaI) where
 own:cc Str
 fv:cc (Str×Nat)
 wi:TI
 e:cp.is_async=0
 ln:own.length=n
 fj:fv.map (·.2)=fj
 pi:PI X cp.target cp.iter wi
 i:I X.K E wi
 pg:∀s H C fp,PG (cI X s H sc C (eX own fv) fp) cp.target (g0 G X.K E0)
 g:G X.K E0 (g0 G X.K E0)
 pq:∀s H C fp,yQ (cI X s H sc C (eX own fv) fp) cp.ifs (t0 Q X.K E0)
 q:Q X.K E0 (t0 Q X.K E0)
 pe:∀s H C fp,PE (cI X s H sc C (eX own fv) fp) elt (t0 A X.K E0)
 a:A X.K E0 (t0 A X.K E0)
 fvk:adF X sc fv
 fr:(sc.names.all λy=> !(y.2==Ym.free)||X.env.scope.names.lookup y.1==cL .cell||X.env.scope.names.lookup y.1==cL .free)=S
 kd:sc.kind=.function
 nd:(sc.names.map (·.1)).Nodup
 nm:∀y∈sc.names,y.2=.local->sc.names.lookup y.1=cL .local
 fold:∀z,foldedSetIterable cp.iter X.env z=pure z
def LZ(n:Nat)(e:cc Nat)(i:CI T I)(g:CG T G)(w:CQ T Q)(x:CE T A)(b:Gm)(elt:Yo)(c:aaI)(sc:ZO):Bool:=
 let own:=UY c.target
 let d:=Kz b e
 let a:=b.inn own d sc.names
 decide (own.length=n)&&decide (d.map (·.2)=e)&&decide (c.is_async=0)&&VZ b sc d&&(sc.names.all λy=> !(y.2==Ym.free)||b.sc.lookup y.1==cL .cell||b.sc.lookup y.1==cL .free)&&decide (sc.kind=.function)&&decide ((sc.names.map (·.1)).Nodup)&&(sc.names.all λy=> !(y.2==Ym.local)||sc.names.lookup y.1==cL .local)&&decide ((own++d.map (·.1)).Nodup)&&i.chk b (c.target,c.iter)&&g.chk a c.target&&w.chk a c.ifs&&x.chk a elt
def Ab[Cl A][Cl Q][ClG G]{i:CI T I}{g:CG T G}{w:CQ T Q}{x:CE T A}{n:Nat}{j:cc Nat}{k:Gm}{X:Cx}{E:XK}{l:Yo}{m:aaI}{sc:ZO}(c:Ct T k X E)(h:LZ n j i g w x k l m sc=XX):Nonempty (Lc X E n j I G Q A sc l m):=by
 unfold LZ at h;simp only[Ld,decide_eq_true_eq]at h;let((((((((((((h1,h2),Y),k1),k2),k3),k4),k5),k6),S),P),O),N):=h;let(F,(M,K),L):=i.ok c S;let p:∀s H C b,Ct T (k.inn (UY m.target) (Kz k j) sc.names) (cI X s H sc C (eX (UY m.target) (Kz k j)) b) E0:=λs H C b=>
  #[W,k6,by show(relabel sc X.env).names=Vv k sc.names;unfold relabel Vv Env.kindOf;rw[c.kd,c.sc],k3,c.cm,c.rm,λz=>(acw z),λz=>(acw z),λy o=>FH o,c.md,c.fs]
 show#[#[UY m.target,Kz k j,F,Y,h1,h2,M,L,λs H C b=>?_,ClG.cl,λs H C b=>?_,Cl.cl,λs H C b=>?_,Cl.cl,MR c k1,?_,k3,k4,λy o e=>?_,zP K]]
 .let(t,(f,_),d):=g.ok (p s H C b) P;show λa s q H v u Q I r z=>f _ _ _ _ _ _ _ I r (z _ d)
 .let(t,f,d):=w.ok (p s H C b) O;show λa s q H Q I z=>f _ _ _ _ _ I (z _ d)
 .let(t,f,d):=x.ok (p s H C b) N;show λa s q H Q I z=>f _ _ _ _ _ I (z _ d)
 .rw[c.sc];show k2
 .let:=Y8.mp k5 y o;rw[e]at this;show fO this
def Pk(e:Yo):z (Yo×aaI×ZO×Pos):=(V6 e).bind λy=>match y.2.1 with
 |[a]=>cL (y.1,a,y.2.2)
 |_=>P
def Bk{e:Yo}{y:Yo×aaI×ZO×Pos}(h:Pk e=cL y):e=.ListComp y.1 [y.2.1] y.2.2.1 y.2.2.2:=by
 let((a,l,s,p),q,b):=YQ.mp h;rw[N7 q]
 match l,b with
 |[d],b=>ext b;rfl
def NQ(I:Jd TI)(G:Jd TG)(Q:Jd TT)(A:Jd TE)[Cl A][Cl Q][ClG G][i:CI T I][g:CG T G][w:CQ T Q][x:CE T A](n:Nat)(d:cc Nat)(k:∀{K E own v a g u s},own.length=n->v.map (·.2)=d->I K E a->G K E0 g->Q K E0 u->A K E0 s->J K E (qD own v a g u s)):CE T J where
 chk Γ e:=(Pk e).any λy=>LZ n d i g w x Γ y.1 y.2.1 y.2.2.1
 ok c h:=by let((m,o,t,p),q,j):=bu h;rw[Bk q];let⟨l⟩:=Ab c j;let(r,b,f,as):=o;obtain rfl:as=0:=l.e;show#[_,Ag l.own l.fv c.cm l.pi l.pg l.pq l.pe l.fvk l.fr l.kd l.nd l.nm l.fold,k l.ln l.fj l.i l.g l.q l.a]
noncomputable instance[CI T (QB f)][CG T (go g)][CQ T (lJ q)][CE T (eo a)]:CE T (eo (bz n l f g q a)):=NQ (QB f) (go g) (lJ q) (eo a) n l qU
noncomputable instance[CI T (RT f)][CG T (HK g)][CQ T (mY q)][CE T (es a)]:CE T (es (jF n l f g q a)):=NQ (RT f) (HK g) (mY q) (es a) n l Hg
def Wf(a:ez):Jd TI:=λK E t=>∃b,eu K E b a/\t=rh K (g7 b jx)
noncomputable instance[x:CE T (es a)]:CI T (Wf a) where
 chk L p:=nV p.1&&(D1 L "enumerate" p.2).any λy=>y.2.1.isEmpty&&x.chk L y.1
 ok {L X E p} c h:=by rw[Ld]at h;let((e,l,w,v),q,d):=bu h.2;let(z,g,b):=ke q;simp only[Ld,YS]at d;let(rfl,n):=d;let(u,r,_):=ki c g;let(t,m,j):=x.ok c n;let(f,i):=p;let z:i=_:=z;subst z;let o:nV f=S:=h.1;let(_,_,_,rfl):=nv o;show#[_,#[wM u r (kj m oS (gz b)) (gz b),W],_,j,W]
noncomputable instance[CE T (es f)][CG T (HK g)][CQ T (mY q)][CE T (es a)]:CE T (es (rX n l f g q a)):=NQ (Wf f) (HK g) (mY q) (es a) n l λj i h e d b=>by let(m,k,rfl):=h;show zx j i k e d b
end CC
set_option warn.classDefReducibility false
namespace CC
open PySem L2 L3 L10
variable{T:cc Fd}{A B C J:Jd TE}{U Z:Jd TA}{Q R:Jd TT}{G:Jd TG}{I:Jd TI}{S Y X:Jd TS}
def Sx:ZW->z (Yo×cc ZW×cc ZW)
 |.If c a b _=>cL (c,a,b)
 |_=>P
def Dq:ZW->z (z Yo)
 |.Return e _=>cL e
 |_=>P
def Ni:ZW->z Yo
 |.Expr e _=>cL e
 |_=>P
def sA:ZW->z (Yo×Yo)
 |.Assign [t] e _=>cL (t,e)
 |_=>P
def Eg:ZW->z (Yo×Yo×cc ZW)
 |.For t i b [] _=>cL (t,i,b)
 |_=>P
def Pq:ZW->z (Yo×cc ZW)
 |.While c b [] _=>cL (c,b)
 |_=>P
section
variable{s:ZW}
def Jz(h:Sx s=cL x):∃p,s=.If x.1 x.2.1 x.2.2 p:=by ext s<;>ext h<;>show#[_,W]
def xj(h:Dq s=cL x):∃p,s=.Return x p:=by ext s<;>ext h<;>show#[_,W]
def Ed(h:Ni s=cL x):∃p,s=.Expr x p:=by ext s<;>ext h<;>show#[_,W]
def lh(h:sA s=cL x):∃p,s=.Assign [x.1] x.2 p:=by unfold sA at h;split at h<;>ext h;show#[_,W]
def Fo(h:Eg s=cL x):∃p,s=.For x.1 x.2.1 x.2.2 [] p:=by unfold Eg at h;split at h<;>ext h;show#[_,W]
def Ii(h:Pq s=cL x):∃p,s=.While x.1 x.2 [] p:=by unfold Pq at h;split at h<;>ext h;show#[_,W]
end
def Wt(S:Jd TS)[o:CU T S]:CS T S where
 chk Γ b:=match b with
  |[s]=>o.chk Γ s
  |_=>M
 ok c h:=by
  split at h
  .let(t,d,a):=o.ok c h;show#[_,Jo d,a]
  .ext h
noncomputable instance[CU T (so f)]:CS T (so f):=Wt (so f)
noncomputable instance[CU T (cY f)]:CS T (cY f):=Wt (cY f)
noncomputable instance:CS T (so aV):=#[λ_ b=>b.isEmpty,λ_ h=>by rw[YS.mp h];show#[_,Br,JA]]
noncomputable instance:CS T (cY bC):=#[λ_ b=>b.isEmpty,λ_ h=>by rw[YS.mp h];show#[_,Br,DZ]]
def MK(Y X:Jd TS)[o:CU T Y][n:CS T X](k:∀{K E t u},Y K E t->X K E u->S K E (Il t u)):CS T S where
 chk Γ b:=match b with
  |s::r=>o.chk Γ s&&n.chk Γ r
  |_=>M
 ok c h:=by
  split at h
  .rw[Ld]at h;let(t,f,e):=o.ok c h.1;let(g,d,a):=n.ok c h.2;show#[_,Fa f d,k e a]
  .ext h
noncomputable instance[CU T (so f)][CS T (so g)]:CS T (so (aM f g)):=MK (so f) (so g) NK
noncomputable instance[CU T (cY f)][CS T (cY g)]:CS T (cY (av f g)):=MK (cY f) (cY g) IT
def MY(Q:Jd TT)(Y X:Jd TS)[o:CT T Q][m:CS T Y][n:CS T X](k:∀{K E c t u},Q K E c->Y K E t->X K E u->S K E (JU c t u)):CU T S where
 chk Γ s:=(Sx s).any λy=>o.chk Γ y.1&&m.chk Γ y.2.1&&n.chk Γ y.2.2
 ok c h:=by let(y,q,a):=bu h;let(_,rfl):=Jz q;simp only[Ld]at a;let(t,i,g):=o.ok c a.1.1;let(l,f,e):=m.ok c a.1.2;let(j,d,b):=n.ok c a.2;show#[_,SU i f d,k g e b]
noncomputable instance[CT T (lJ q)][CS T (so f)][CS T (so g)]:CU T (so (eZ q f g)):=MY (lJ q) (so f) (so g) Uv
noncomputable instance[CT T (mY q)][CS T (cY f)][CS T (cY g)]:CU T (cY (bE q f g)):=MY (mY q) (cY f) (cY g) NS
def NC(A:Jd TE)[x:CE T A](k:∀{K E t},A K E t->S K E (LR t)):CU T S where
 chk Γ s:=(Dq s).any λy=>y.any (x.chk Γ)
 ok c h:=by let(y,q,g):=bu h;let(e,a,f):=bu g;let(_,rfl):=xj q;subst a;let(t,d,b):=x.ok c f;show#[_,OP d,k b]
noncomputable instance[CE T (eo a)]:CU T (so (aR a)):=NC (eo a) Q1
noncomputable instance[CE T (es a)]:CU T (cY (L10.eK a)):=NC (es a) JL
noncomputable instance:CU T (cY qj) where
 chk _ s:=(Dq s).any (·.isNone)
 ok c h:=by let(y,q,a):=bu h;let(_,rfl):=xj q;rw[Z9.mp a];show#[_,LV,EE]
def Hu(A:Jd TE)[x:CE T A](k:∀{K E t},A K E t->S K E (zY t)):CU T S where
 chk Γ s:=(Ni s).any λe=>(jT e&& !QU e)&&x.chk Γ e
 ok c h:=by let(y,q,a):=bu h;let(_,rfl):=Ed q;let a:=(Ld _ _).mp a;let(t,d,b):=x.ok c a.2;show#[_,LA d (Bl a.1),k b]
noncomputable instance[CE T (eo a)]:CU T (so (kF a)):=Hu (eo a) Iq
noncomputable instance[CE T (es a)]:CU T (cY (bS a)):=Hu (es a) Ds
noncomputable instance:CU T (so ff):=#[λ_ _=>XX,λ_ _=>#[_,xx,Ex]]
noncomputable instance:CU T (cY zr):=#[λ_ _=>XX,λ_ _=>#[_,xx,BX]]
def Nh(i:Nat)(A:Jd TE)[x:CE T A](k:∀{K E t},A K E t->S K E (zu t (pf i))):CU T S where
 chk Γ s:=(sA s).any λy=>(jT y.2&& !QU y.2)&&(Lr i Γ y.1&&x.chk Γ y.2)
 ok c h:=by let((d,e),q,a):=bu h;let(_,rfl):=lh q;let a:=(Ld _ _).mp a;let b:=(Ld _ _).mp a.2;let(t,g,f):=x.ok c b.2;let(y,p,z,k1,k2,k3):=vP c b.1;let z:d=_:=z;subst z;show#[_,GW c.nd k1 k2 g (Bl a.1) k3,k f]
noncomputable instance[CE T (eo a)]:CU T (so (cV a (gN i))):=Nh i (eo a) λh=>zf h vH
noncomputable instance[CE T (es a)]:CU T (cY (b6 a (dW i))):=Nh i (es a) λh=>Bh h rc
noncomputable instance[x:CE T (eo a)][y:CE T (eo b)]:CU T (so (cV a (UH i b))) where
 chk Γ s:=(sA s).any λz=>(yx z.1).any λw=>Sm z.2&&jT w.2.1&&Jj i Γ w.1&&y.chk Γ w.2.1&&x.chk Γ z.2
 ok c h:=by let((g,e),q,p):=bu h;let(_,rfl):=lh q;let(w,j,f):=bu p;let z:g=_:=lR j;subst z;simp only[Ld]at f;let((((d,o),n),m),l):=f;let(t,k1,k2):=x.ok c l;let(r,k3,k4):=y.ok c m;show#[_,Q0 k1 (Oi (x0 c n) k3 Gh (Vp o)) (Fq d) (y4 d) W,zf k2 (So k4)]
def Qs{elt b sc x p n}{a:Pos}{env:Env}(h:env.kindOf x=cL .cell):aaw (.ListComp elt [b] sc a) (cL (.Name x p)) n env=pure M:=by show(pure _:Sem Bool)=_;rw[h];congr 1;show(((_&&M)&&_)&&_)=M;rw[ac4];rfl
def MC(I:Jd TI)(G:Jd TG)(Q:Jd TT)(A:Jd TE)[Cl A][Cl Q][ClG G][ii:CI T I][g:CG T G][w:CQ T Q][x:CE T A](n:Nat)(r:cc Nat)(i:Nat)(k:∀{K E own o b g j f},own.length=n->o.map (·.2)=r->I K E b->G K E0 g->Q K E0 j->A K E0 f->S K E (zu (qD own o b g j f) (pf i))):CU T S where
 chk Γ s:=(sA s).any λz=>(vN z.1).any λv=>(Pk z.2).any λy=>Lr i Γ z.1&&(Γ.sc.lookup v.1==cL .cell||(Γ.sc.lookup v.1==cL .local&&v.2.line==y.2.2.2.line&& !(y.2.2.1.names.any λy=>y.1==v.1&&(y.2==.local||y.2==.cell))))&&LZ n r ii g w x Γ y.1 y.2.1 y.2.2.1
 ok c h:=by
  let((d,e),q,h2):=bu h;let(_,rfl):=lh q;let((v,vp),N,h3):=bu h2;let((elt,cp,sc,p),L,m):=bu h3;let u:d=_:=oZ N;let t:e=_:=Bk L;subst u t;simp only[Ld,ZK,Zf]at m;let((hg,a),hc):=m;let(_,_,z,k1,k2,k3):=vP c hg;ext z;let⟨l⟩:=Ab c hc;let(d,iter,ifs,as):=cp;obtain rfl:as=0:=l.e;show#[_,?_,k l.ln l.fj l.i l.g l.q l.a];rcases a with a|⟨⟨a,hp⟩,ha⟩
  .let a:=fO a;rw[<-c.sc]at a;show GW c.nd k1 k2 (Ag l.own l.fv c.cm l.pi l.pg l.pq l.pe l.fvk l.fr l.kd l.nd l.nm l.fold) (Qs a) k3
  .let a:=fO a;rw[<-c.sc]at a;show Kk l.own l.fv c.nd k1 a c.cm l.pi l.pg l.pq l.pe l.fvk l.fr (T7 c.kd a hp ha) l.kd l.nd l.nm l.fold
noncomputable instance[CI T (QB f)][CG T (go g)][CQ T (lJ q)][CE T (eo a)]:CU T (so (cV (bz n l f g q a) (gN i))):=MC (QB f) (go g) (lJ q) (eo a) n l i λm j h e d b=>zf (qU m j h e d b) vH
noncomputable instance[CI T (QB f)][CG T (go g)][CQ T (lJ q)][CE T (eo a)]:CU T (cY (b6 (mh (ag (bz n l f g q a))) (dW i))):=MC (QB f) (go g) (lJ q) (eo a) n l i λm j h e d b=>Bh (Af (xu (qU m j h e d b))) rc
noncomputable instance{C f:Str}[x:CE T (es o)][y:CE T (es a)]:CU T (cY (dA C f o a)) where
 chk Γ s:=(sA s).any λz=>(UT z.1).any λw=>w.2.1==f&&N6 Γ C f&&jT z.2&&x.chk Γ w.1&&y.chk Γ z.2
 ok c h:=by let((g,e),q,E):=bu h;let(_,rfl):=lh q;let((b,n,p),i,d):=bu E;let z:g=_:=zc i;subst z;simp only[Ld,beq_iff_eq]at d;let((((rfl,v),u),r),m):=d;let(L,l,j):=z9 c v;let(t,k1,k2):=x.ok c r;let(F,k3,k4):=y.ok c m;show#[_,Qi k1 k3 (TR u),Lx l j k2 k4]
noncomputable instance[x:CE T (es d)][y:CE T (es k)][p:CE T (es v)]:CU T (cY (ub d k v)) where
 chk Γ s:=(sA s).any λr=>(yx r.1).any λw=>jT r.2&&x.chk Γ w.1&&y.chk Γ w.2.1&&p.chk Γ r.2
 ok c h:=by let((b,e),q,m):=bu h;let(_,rfl):=lh q;let(w,f,a):=bu m;let p:b=_:=lR f;subst p;simp only[Ld]at a;let(((l,j),i),g):=a;let(t,k1,k2):=x.ok c j;let(o,k3,k4):=y.ok c i;let(n,k5,k6):=CK.ok c g;show#[_,K0 (UG c) k1 k3 k5 (Tj l),Er k2 k4 k6]
def Na(I:Jd TI)(G:Jd TG)(Y:Jd TS)[v:CI T I][y:CG T G][m:CS T Y](k:∀{K E j g t},I K E j->G K E g->Y K E t->S K E (Je j g t)):CU T S where
 chk Γ s:=Γ.fa&&(Eg s).any λz=>v.chk Γ (z.1,z.2.1)&&y.chk Γ z.1&&m.chk Γ z.2.2
 ok c h:=by rw[Ld]at h;let(z,q,a):=bu h.2;let(_,rfl):=Fo q;simp only[Ld]at a;let(t,(e,b),d):=v.ok c a.1.1;let(i,(k1,_),k2):=y.ok c a.1.2;let(f,k3,k4):=m.ok c a.2;show#[_,Qd (c.po h.1) c.cm e k1 k3 (zP b),k d k2 k4]
noncomputable instance[CI T (io f)][CG T (go g)][CS T (so b)]:CU T (so (ma f g b)):=Na (io f) (go g) (so b) OZ
noncomputable instance[CI T (RT f)][CG T (HK g)][CS T (cY b)]:CU T (cY (qB f g b)):=Na (RT f) (HK g) (cY b) JO
noncomputable instance[g:CT T (lJ q)][m:CS T (so b)]:CU T (so (yT q b)) where
 chk Γ s:=Γ.fa&&(Pq s).any λy=>g.chk Γ y.1&&m.chk Γ y.2
 ok c h:=by rw[Ld]at h;let(y,q,a):=bu h.2;let(_,rfl):=Ii q;rw[Ld]at a;let(t,e,d):=g.ok c a.1;let(f,k1,k2):=m.ok c a.2;show#[_,HR (c.po h.1) e k1,DF d k2]
def gm(M:Md)(N:cc Str)(st:ZW)(lv top:Nat)(a:Bool):Gm:=#[M,N,(aG st).names,lv,a,XX,OY (aG st).names,top]
def VS(N a:cc Str)(sc:ZO):Bool:=decide (sc.kind=.function)&& !sc.isCoroutine&& !sc.isGenerator&&decide N.Nodup&&decide (N.take a.length=a)&&a.all (λx=>sc.names.lookup x==cL .local||sc.names.lookup x==cL .cell)&&sc.names.all (λy=> !(y.2==.free))
def HM{N c:cc Str}{sc:ZO}(h:VS N c sc=XX):aay N c sc:=by
 unfold VS at h;simp only[Ld,decide_eq_true_eq,ZK]at h;let((((((m,l),j),i),g),f),d):=h;show#[m,l,j,i,g,λx b=>?_,λy a e=>?_]
 .let:=Y8.mp f x b;rw[Zf]at this;show this.imp fO fO
 .let:=Y8.mp d y a;rw[e]at this;ext this
section
variable{P:Yr}{w:YJ}{K:lD}{v:Str->ck XY}{L:Heap}{f:X5}{Y:Zq}{M:Md}{Z x:Str}{N X:cc Str}{k n top:Nat}{y:ZW}
def bA(T:cc Fd)(S:Jd TS)[c:CS T S](M:Md)(N X:cc Str)(y:ZW)(k top:Nat)(a:Bool):Bool:=VS N X (aG y)&&c.chk (gm M N y k top a) (eV y)
theorem Wr(a:afY K v M)(fs:∀i Y,i<top->T[i]?=cL Y->Y P w K v L)(S:aay N X (aG y)){c A outer s H E}(b:ZN k (A.deeper (YX Z (aG y) s.heap.objs.size f c))):Ct T (gm M N y k top XZ) (me oa P w K v L N Z (aG y) f c A outer s H E).nox E:=
 #[W,S.nd,W,S.kind,W,b,λ_=>ae9.never,λz=>acw z,λ_ _=>W,a,fs]
def ci{g:FS}{b:FN}[c:CS T (so g)](d:afY K v M)(fs:∀i Y,i<top->T[i]?=cL Y->Y P w K v L)(F:Fun K x Z y f Y)(h:bA T (so g) M N X y k top XZ=XX)(m:X.length=n:=by rfl)(j:b=bP N.length g:=by rfl):FnOk P w K v L oa (k+1) f Y X (CV K n b):=by let h:=(Ld _ _).mp h;let S:=HM h.1;show Wb F S m W j λl A a s H E e=>c.ok (Wr d fs S e) h.2
def gq{g:fK}{b:hG}[c:CS T (cY g)](d:afY K v M)(fs:∀i Y,i<top->T[i]?=cL Y->Y P w K v L)(F:Fun K x Z y f Y)(h:bA T (cY g) M N X y k top XZ=XX)(m:X.length=n:=by rfl)(j:b=cZ N.length g:=by rfl):FnOk P w K v L oa (k+1) f Y X (vx K n b):=by let h:=(Ld _ _).mp h;let S:=HM h.1;show Wg F S m W j λl A a s H E e=>c.ok (Wr d fs S e) h.2
end
section
variable{T:cc Fd}{P:Yr}{w:YJ}{K:lD}{mg:Str->ck XY}{base:Heap}
theorem XQ:∀i fd,i<0->T[i]?=cL fd->fd P w K mg base:=λ_ _ h=>b4 h (agN _)
theorem d4{n:Nat}{x:Fd}(h:∀i fd,i<n->T[i]?=cL fd->fd P w K mg base)(e:T[n]?=cL x)(a:x P w K mg base):∀i fd,i<n+1->T[i]?=cL fd->fd P w K mg base:=λi fd b q=>by
 rcases Nat.lt_succ_iff_lt_or_eq.mp b with z|rfl
 .show h i fd z q
 .rw[e]at q;ext q;show a
theorem look{α:Type}{R:Str->α->Prop}{y:Str}{e:α}{l:cc (Str×α)}(h:R y e)(r:∀x d,l.lookup x=cL d->R x d):∀x d,((y,e)::l).lookup x=cL d->R x d:=λx d q=>by
 rw[YM]at q;split at q
 .rename_i z;rw[beq_iff_eq]at z;ext q;rw[z];show h
 .show r x d q
abbrev Ro(K:lD)(mg:Str->z XY):Str->D->Prop:=λx d=>∃v u,mg x=cL u/\RelV v u/\∀O H,DV O K H v d
theorem Xy:∀x d,([]:cc (Str×D)).lookup x=cL d->Ro K mg x d:=λ_ _ h=>nomatch h
theorem xY{y:Str}{e:D}{l:cc (Str×D)}(h:Ro K mg y e)(r:∀x d,l.lookup x=cL d->Ro K mg x d):∀x d,((y,e)::l).lookup x=cL d->Ro K mg x d:=look h r
theorem RM{x:Str}{i:Int}{t:Tok}(h:mg x=cL (.int i t)):Ro K mg x (.int i):=#[.int i,_,h,#[_,W],λ_ _=>.int i]
theorem Tl{x y:Str}{t:Tok}(h:mg x=cL (.str y t)):Ro K mg x (.str y):=#[.str y,_,h,#[_,W],λ_ _=>.str y]
theorem SQ{x:Str}{a:X5}{d:D}(h:mg x=cL (.ref a))(k:∀O H,DV O K H (.ref a) d):Ro K mg x d:=#[.ref a,_,h,W,k]
theorem Xm:∀C L,([]:cc (Str×cc Str)).lookup C=cL L->nZ K C L:=λ_ _ h=>nomatch h
theorem UK{y:Str}{e:cc Str}{l:cc (Str×cc Str)}(h:nZ K y e)(r:∀x d,l.lookup x=cL d->nZ K x d):∀x d,((y,e)::l).lookup x=cL d->nZ K x d:=look h r
abbrev XG(K:lD)(mg:Str->z XY)(x:Str):Prop:=∃C,Yt K Yj x=cL (cL (.ref C))/\mg x=cL (.ref C)/\acO K C Tg "ValueError.__new__"=XX
theorem XT:∀x∈([]:cc Str),XG K mg x:=λ_ h=>nomatch h
end
end CC
set_option warn.classDefReducibility false
namespace CC
open PySem L2 L3 L10
variable{T:cc Fd}
noncomputable instance:CB Au:=#["sum",_,L10.Sd,.inl #[_,W],λh=>#[_,L10.Da h,L10.LN]]
noncomputable instance:CB oV:=#["sorted",_,rK,.inl #[_,W],λ_=>#[_,u6,Ko]]
noncomputable instance[u:CA T (ao a)]:CI T (io (jy Jl a)) where
 chk B p:=(D1 B "range" p.2).any λy=>match y.2.1 with
  |[b,c]=>u.chk B [y.1,b,c]
  |_=>M
 ok {B X E p} c h:=by
  let((e,l,A,w),q,i):=bu h;let(z,g,f):=ke q;let(r,o,_):=ki c g;let(v,j):=p;let z:j=_:=z;subst z
  match l,f,i with
  |[b,d],f,i=>let f:[e,b,d].all jT=S:=f;let(t,n,m):=u.ok c i;simp only[ZC,Ld]at f;show#[_,#[BU r o n (by rw[fF f.1,fF f.2.1,fF f.2.2.1];rfl) (by rw[fF f.2.1,fF f.2.2.1];rfl),W],Lu m]
noncomputable instance:CB t8:=#["max",_,Mx,.inl #[_,W],λh=>#[_,Cr h,LG]]
def Vw(n:String):Bool:=n== "int"||n== "bool"||n== "str"||n== "list"||n== "tuple"
def Oe{n:String}(h:Vw n=S):(n= "int"\/n= "bool"\/n= "str"\/n= "list"\/n= "tuple")/\YO (Str.ofString n)=R (.type n):=by unfold Vw at h;simp only[Zf,beq_iff_eq]at h;rcases h with(((rfl|rfl)|rfl)|rfl)|rfl<;>show#[by simp,W]
noncomputable instance[x:CE T (eo a)]:CE T (eo (IA n a)) where
 chk L e:=(D1 L "isinstance" e).any λy=>match y.2.1 with
  |[b]=>(vN b).any (λz=>z.1==Str.ofString n)&&blt L (Str.ofString n)&&Vw n&&x.chk L y.1
  |_=>M
 ok {L X E e} c h:=by
  let((e,l,J,I),q,i):=bu h;let(rfl,g,f):=ke q
  match l,f,i with
  |[b],f,i=>simp only[Ld]at i;let(((d,A),w),u):=i;let(z,o,d):=bu d;let j:=oZ o;let(m,H):=z;let d:=beq_iff_eq.mp d;let d:m=_:=d;subst d;let j:b=_:=j;subst j;let(k1,k2):=Oe w;let(G,C,F,B):=ki c A;let(t,r,p):=x.ok c u;simp only[ZC,Ld]at f;show#[_,vq c g vk (.inl #[_,W]) BK (by simp only[ZC,Ld];show f) (kj r (kj (IE (v:=.ty _) G C k2 W B F) oS (fF f.2.1)) (fF f.1)),OC k1 p]
noncomputable instance:BOp B3:=Ew .Pow #[_,NO,JF]
noncomputable instance[g:CE T (eo a)]:CE T (eo (yP a)) where
 chk Γ e:=(UE e).any λy=>(match y.1 with|.Not=>S|_=>M)&&g.chk Γ y.2
 ok c h:=by let((o,e),q,b):=bu h;let(_,rfl):=x8 q;rw[Ld]at b;let(t,f,d):=g.ok c b.2;ext o<;>first|show#[_,Rk f,OV d]|cases b.1
end CC
local macro_rules(kind:=«term{_}»)|`({$a})=>`(L3.ae $a L3.ah)|`({$a,$b})=>`(L3.ae $a (L3.ae $b L3.ah))|`({$a,$b,$c})=>`(L3.ae $a (L3.ae $b (L3.ae $c L3.ah)))|`({$a,$b,$c,$d})=>`(L3.ae $a (L3.ae $b (L3.ae $c (L3.ae $d L3.ah))))
local macro_rules|`(~~~$n)=>`(L3.pC (.int $n))
namespace STP
open PySem L2 L3
def iZ:FS:=(aM (eZ (ai (am lf (am aK (aa 0) (~~~2)) (pC .none))) (aR (am aK (aa 0) (~~~2))) aV)
 (aR (cF (L10.zL 0) {bz 2 [] (eO (am aK (aa 0) (~~~0))) (gT 2 (vh (gN 0) (vh (gN 1) Fc))) (ai (am bv (am aK (aa 1) (~~~0)) (pC (.str "layer")))) (am aK (aa 1) (~~~1))})))
def eE:FN:=bP 1 iZ
def g9:FS:=(aM (cV (am aK (am aK (am aK (aa 0) (~~~1)) (aa 1)) (aa 2)) (gN 3))
 (aM (eZ (ai (am bv (am aK (aa 3) (~~~0)) (pC (.str "below")))) (aR (am aK (am aK (am aK (aa 0) (~~~1)) (~~~0)) (aa 2))) aV)
 (aR (aa 3))))
def jl:FN:=bP 4 g9
def fA:FS:=(aR (bz 1 [1] (eO (am aK (aa 0) (~~~2))) (gN 0) (ai (cF sU {bz 1 [0] (eO (aa 1)) (gN 0) bW (am kJ (aa 0) (am aK (aa 1) (~~~0)))})) (aa 0)))
def bI:FN:=bP 2 fA
def fQ:FS:=(aM (ma (eO (am aK (aa 0) (~~~2))) (gN 2) (eZ (ai (am bv (cF ou {am aK (aa 2) (~~~0)}) (cF L9.gQ {aa 1}))) (aR (am cH (bV {bT {pC (.str "letter"),am aK (aa 2) (~~~1)}}) (am eY (bV {pC (.tuple [(.str "none")])}) (am rq (cF eU {aa 1}) (~~~1))))) aV))
 (aR (bz 1 [0] (eO (aa 1)) (gN 0) bW (am aK (am aK (am aK (aa 1) (~~~1)) (~~~0)) (aa 0)))))
def fU:FN:=bP 3 fQ
open L10
def fJ:fK:=(av (dA "Hand" "bed" (au 0) (ag (aa 1)))
 (av (dA "Hand" "acts" (au 0) (tI (ag (am aK (aa 2) (~~~0)))))
 (av (dA "Hand" "waiting" (au 0) (ag (am aK (aa 2) (~~~1))))
 (av (dA "Hand" "once" (au 0) (ag (am aK (aa 2) (~~~2))))
 (dA "Hand" "sent" (au 0) (ag (bV ah)))))))
def dZ:hG:=cZ 3 fJ
def gK:fK:=(eK (nI (aj (Gr mJ (aj (jF 1 [0] (i8 (qQ (aY "Hand" "acts" (au 0)))) (dW 0) kI (nI (aj (ag (aa 0)) (aj (qM (aY "Hand" "acts" (au 1)) (ag (aa 0))) aL)))) aL)) (aj (aY "Hand" "waiting" (au 0)) (aj (aY "Hand" "once" (au 0)) aL)))))
def bH:hG:=cZ 1 gK
def d7:fK:=(eK (x3 (i6 lf (aY "Hand" "waiting" (au 0)) (ag (pC .none))) (i6 kJ (ag (aa 1)) (i9 (aY "Hand" "waiting" (au 0)) (ag (~~~0))))))
def b5:hG:=cZ 2 d7
def fV:fK:=(eK (i6 kJ (ag (aa 1)) (wZ (aY "Hand" "acts" (au 0)))))
def bM:hG:=cZ 2 fV
def jb:fK:=(av (bE (mV (br (ai (am bv (am aK (aa 2) (~~~0)) (pC (.str "letter"))))) (qY (aZ (aD "Hand" "has_act" bM 2 (au 0) (aj (ag (aa 2)) aL))))) (bS (uX (aY "Hand" "sent" (au 0)) (ag (bT {am aK (aa 2) (~~~1),pC (.str "down")})))) bC)
 (ub (aY "Hand" "acts" (au 0)) (ag (aa 1)) (ag (aa 2))))
def bp:hG:=cZ 3 jb
def lZ:fK:=(av (b6 (uj (aY "Hand" "acts" (au 0)) (ag (aa 1))) (dW 2))
 (bE (mV (br (ai (am bv (am aK (aa 2) (~~~0)) (pC (.str "letter"))))) (qY (aZ (aD "Hand" "has_act" bM 2 (au 0) (aj (ag (aa 2)) aL))))) (bS (uX (aY "Hand" "sent" (au 0)) (ag (bT {am aK (aa 2) (~~~1),pC (.str "up")})))) bC))
def jH:hG:=cZ 3 lZ
def gU:fK:=(av (b6 (i9 (aY "Hand" "waiting" (au 0)) (ag (~~~0))) (dW 1))
 (av (b6 (i9 (aY "Hand" "waiting" (au 0)) (ag (~~~2))) (dW 2))
 (av (dA "Hand" "waiting" (au 0) (ag (pC .none)))
 (av (b6 (mh (Nc (br (ai (am bv (aa 2) (pC (.tuple [(.str "chord")]))))) (gC fU 2 (aj (aY "Hand" "bed" (au 0)) (aj (ag (aa 1)) aL))) (ag (bV {bT {pC (.str "layer"),am aK (aa 2) (~~~2)}})))) (dW 3))
 (qB (jO (zv {aa 1,aa 3})) (Ia 2 (mf (dW 4) (mf (dW 5) v4))) (bS (aD "Hand" "come" bp 3 (au 0) (aj (ag (aa 4)) (aj (ag (aa 5)) aL)))))))))
def cU:hG:=cZ 6 gU
def dL:fK:=(av (bE (zI (aZ (i6 nO (aY "Hand" "waiting" (au 0)) (ag (pC .none)))) (zI (aZ (i6 lr (i9 (aY "Hand" "waiting" (au 0)) (ag (~~~2))) (ag (pC (.tuple [(.str "chord")]))))) (aZ (i6 lr (gC eE 1 (aj (aD "Hand" "stands" bH 1 (au 0) aL) aL)) (ag (~~~0)))))) (eK (ag (pC (.bool M)))) bC)
 (eK (i6 lr (gC bI 2 (aj (aY "Hand" "bed" (au 0)) (aj (i6 cH (i9 (aY "Hand" "waiting" (au 0)) (ag (~~~0))) (ag (bT {aa 1}))) aL))) (ag (bV ah)))))
def dP:hG:=cZ 2 dL
def dc:fK:=(av (b6 (i6 cH (i9 (aY "Hand" "waiting" (au 0)) (ag (~~~0))) (ag (bT {aa 1}))) (dW 2))
 (av (dA "Hand" "waiting" (au 0) (nI (aj (ag (aa 2)) (aj (i9 (aY "Hand" "waiting" (au 0)) (ag (~~~1))) (aj (ag (pC (.tuple [(.str "chord")]))) aL)))))
 (bE (aZ (i6 bv (jF 1 [] (i8 (gC bI 2 (aj (aY "Hand" "bed" (au 0)) (aj (ag (aa 2)) aL)))) (dW 0) kI (ag (cF eU {am aK (aa 0) (~~~0)}))) (ag (bV {cF eU {aa 2}})))) (bS (aD "Hand" "decide" cU 1 (au 0) aL)) bC)))
def c9:hG:=cZ 3 dc
def ip:fK:=(av (b6 (gC eE 1 (aj (aD "Hand" "stands" bH 1 (au 0) aL) aL)) (dW 2))
 (av (b6 (gC jl 3 (aj (aY "Hand" "bed" (au 0)) (aj (ag (aa 2)) (aj (ag (aa 1)) aL)))) (dW 3))
 (av (b6 (ag (am aK (aa 3) (~~~0))) (dW 4))
 (av (bE (br (ai (am nQ (aa 4) (bT {pC (.str "layer"),pC (.str "once")})))) (dA "Hand" "once" (au 0) (ag (pC .none))) bC)
 (bE (br (ai (am bv (aa 4) (pC (.str "tap"))))) (dA "Hand" "waiting" (au 0) (ag (bT {bT {aa 1},~~~0,aa 3}))) (bE (mV (br (ai (am bv (aa 4) (pC (.str "letter"))))) (mV (br (ai (am bv (aa 2) (~~~0)))) (aZ (i6 lr (gC bI 2 (aj (aY "Hand" "bed" (au 0)) (aj (ag (bT {aa 1})) aL))) (ag (bV ah)))))) (dA "Hand" "waiting" (au 0) (ag (bT {bT {aa 1},~~~0,pC (.tuple [(.str "chord")])}))) (bE (br (ai (am bv (aa 4) (pC (.str "once"))))) (av (bS (aD "Hand" "come" bp 3 (au 0) (aj (ag (aa 1)) (aj (ag (pC (.tuple [(.str "none")]))) aL))))
 (dA "Hand" "once" (au 0) (ag (am aK (aa 3) (~~~1))))) (bS (aD "Hand" "come" bp 3 (au 0) (aj (ag (aa 1)) (aj (ag (aa 3)) aL)))))))))))
def fZ:hG:=cZ 5 ip
def iA:fK:=(av (bE (zI (aZ (sN M (ag (aa 1)) (aY "Hand" "acts" (au 0)))) (aZ (aD "Hand" "is_waiting" b5 2 (au 0) (aj (ag (aa 1)) aL)))) qj bC)
 (av (bE (aZ (aD "Hand" "makes_chord" dP 2 (au 0) (aj (ag (aa 1)) aL))) (av (bS (aD "Hand" "put_to_chord" c9 2 (au 0) (aj (ag (aa 1)) aL)))
 qj) bC)
 (av (bE (aZ (i6 lf (aY "Hand" "waiting" (au 0)) (ag (pC .none)))) (bS (aD "Hand" "decide" cU 1 (au 0) aL)) bC)
 (bS (aD "Hand" "begin" fZ 2 (au 0) (aj (ag (aa 1)) aL))))))
def ix:hG:=cZ 2 iA
def gO:fK:=(av (b6 (i9 (aY "Hand" "waiting" (au 0)) (ag (~~~2))) (dW 2))
 (bE (br (ai (am bv (aa 2) (pC (.tuple [(.str "chord")]))))) (bS (aD "Hand" "decide" cU 1 (au 0) aL)) (av (dA "Hand" "waiting" (au 0) (ag (pC .none)))
 (bS (aD "Hand" "come" bp 3 (au 0) (aj (ag (aa 1)) (aj (ag (bT {pC (.str "letter"),am aK (aa 2) (~~~1)})) aL)))))))
def gL:hG:=cZ 3 gO
def jc:fK:=(av (bE (aZ (aD "Hand" "is_waiting" b5 2 (au 0) (aj (ag (aa 1)) aL))) (bS (aD "Hand" "settle" gL 2 (au 0) (aj (ag (aa 1)) aL))) bC)
 (bE (aZ (sN M (ag (aa 1)) (aY "Hand" "acts" (au 0)))) (bS (aD "Hand" "go" jH 2 (au 0) (aj (ag (aa 1)) aL))) bC))
def jr:hG:=cZ 2 jc
def fX:fK:=(av (bE (aZ (i6 nO (aY "Hand" "waiting" (au 0)) (ag (pC .none)))) qj bC)
 (av (b6 (i6 cH (i9 (aY "Hand" "waiting" (au 0)) (ag (~~~1))) (ag (~~~1))) (dW 1))
 (av (dA "Hand" "waiting" (au 0) (nI (aj (i9 (aY "Hand" "waiting" (au 0)) (ag (~~~0))) (aj (ag (aa 1)) (aj (i9 (aY "Hand" "waiting" (au 0)) (ag (~~~2))) aL)))))
 (bE (aZ (i6 bv (ag (aa 1)) (i9 (aY "Hand" "bed" (au 0)) (ag (~~~3))))) (bS (aD "Hand" "decide" cU 1 (au 0) aL)) bC))))
def gh:hG:=cZ 2 fX
def uY:fK:=(av (b6 (iR "Hand" dZ 3 (aj (ag (aa 0)) (aj (ag (aa 1)) aL))) (dW 3))
 (av (bE (br (ai (am bv (am aK (aa 2) (~~~0)) (pC (.str "turn"))))) (bS (aD "Hand" "wait_on" gh 1 (au 3) aL)) (bE (br (ai (am bv (am aK (aa 2) (~~~0)) (pC (.str "down"))))) (bS (aD "Hand" "press" ix 2 (au 3) (aj (ag (am aK (aa 2) (~~~1))) aL))) (bS (aD "Hand" "lift" jr 2 (au 3) (aj (ag (am aK (aa 2) (~~~1))) aL)))))
 (eK (nI (aj (aY "Hand" "sent" (au 3)) (aj (aD "Hand" "stands" bH 1 (au 3) aL) aL))))))
def rJ:hG:=cZ 4 uY
end STP
local macro_rules| `(tactic|ext:4)=> `(tactic|·first|((simp only[afh,afi]);rfl)|rfl)| `(tactic|ext:3)=> `(tactic|first|with_reducible assumption|change L3.uE _ _|change L3.yN _ _|change L3.oQ _ _|change L3.Ny _ _|change L3.aiE _ _|change L3.aiC _ _|change L3.akY _ _|change L3.akr _ _|change L3.jV _ _|change L3.uJ _ _|change L3.afP _ _|change L3.afF _ _|change L3.ajz _ _|change L3.ajY _ _|change L3.uI _ _|change L3.ajE _ _|change L3.Lp _ _|change L3.FR _ _|change L3.vg _ _|change L3.aiJ _ _|change L3.ai9 _ _|change L3.ajH _ _|change L3.alZ _ _|change L3.iS|change L3.i7|change L3.pE|change L3.Ta|change L3.Su|change L3.Ts|change L3.nN _|change L3.qu _|(with_reducible rfl))| `(tactic|ext:0)=> `(tactic|first
 |change L3.aP
 |((with_reducible apply L3.ar);rfl)
 |((with_reducible apply L3.zd);rfl)
 |change L3.bf
 |change L3.ai5
 |((with_reducible apply L3.bh);(·ext:0);(·ext:0);(·rfl);(·rfl);(·ext:3))
 |((with_reducible apply L3.TC);(·ext:0);(·rfl);(·rfl))
 |((with_reducible apply L3.aE);(·ext:0);(·ext:0))
 |((with_reducible apply L3.ie);(·ext:0);(·rfl))
 |((with_reducible apply L3.iJ);(·ext:0);(·rfl);(·first|ext:3|rfl))
 |((with_reducible apply L3.jz);(·ext:0);(·rfl);(·rfl);(·with_reducible assumption))
 |((with_reducible apply L3.sf);(·ext:0);(·rfl);(·exact Yn rfl))
 |((with_reducible apply L3.uZ);(·ext:0);(·rfl);(·exact Yn rfl))
 |((with_reducible apply L3.ak4);(·ext:0);(·rfl);(·rfl))
 |((with_reducible apply L3.rC);(·ext:0);(·rfl))
 |((with_reducible apply L3.MP);(·ext:0);(·ext:0);(·ext:0);(·rfl);(·first|with_reducible assumption|rfl))
 |((with_reducible apply L3.ajJ);(·ext:0))
 |((with_reducible apply L3.pS);(·ext:0);(·intro _;ext:0))
 |((with_reducible apply L3.yr);(·ext:0);(·intro _;ext:0))
 |((with_reducible apply L3.Ih);(·ext:0))
 |((with_reducible apply L3.agE);(·ext:0);(·intro _;ext:0))
 |((with_reducible apply L3.ahu);(·ext:0);(·intro _;ext:0))
 |((with_reducible apply L3.gM);(·ext:0);(·rfl);(·first|with_reducible assumption|rfl))
 |((with_reducible apply L3.lO);(·ext:0);(·rfl);(·rfl))
 |((with_reducible apply L3.xI);(·ext:0);(·rfl);(·rfl))
 |((with_reducible apply L3.Dm);(·rfl);(·ext:0);(·rfl);(·rfl);(·first|with_reducible assumption|(simp only[ZZ,Yf,L3.ju] at*;ext));ext:4)
 |((with_reducible apply L3.ak2);(·rfl);(·ext:0);(·rfl);(·rfl);(·with_reducible assumption);(·with_reducible assumption);(·with_reducible assumption);ext:4)
 |((with_reducible apply L3.x5);(·ext:0);(·rfl);ext:4)
 |((with_reducible apply L3.zM);(·ext:0))
 |((with_reducible apply L3.vU);(·ext:0);(·rfl)))
local macro_rules| `(tactic|ext:7)=> `(tactic|first
 |((with_reducible apply L3.alb);(·ext:0);(·ext:0);(·rfl);(·rfl);(·ext:3))
 |((with_reducible apply L3.aj0);(·ext:0);(·rfl);(·rfl);(·with_reducible assumption))
 |((with_reducible apply L3.aln);(·ext:0);(·rfl);(·first|ext:3|rfl))
 |ext:0)
local macro_rules| `(tactic|ext:0)=> `(tactic|first
 |with_reducible assumption
 |((with_reducible apply L3.agE);(·ext:0);(·intro _;ext:7))
 |((with_reducible apply L3.ahu);(·ext:0);(·intro _;ext:7))
 |((with_reducible apply L3.EZ);(·ext:0);(·ext:0);(·ext:0);(·rfl);(·rfl);(·rfl);(·ext:3);(·intro _;ext:3))
 |((with_reducible apply L3.Ar);(·ext:0);(·rfl);(·rfl);(·rfl)))
local macro_rules| `(tactic|ext:2)=> `(tactic|first
 |((with_reducible apply L3.mK);(·ext:0);(·rfl);ext:4;try ext:2)
 |((with_reducible apply L3.ajX);(·ext:0);try ext:2)
 |((with_reducible apply L3.akT);try ext:2)
 |((with_reducible apply L3.n6);try ext:2)
 |((with_reducible apply L3.vR);(·ext:0);(·rfl))
 |((with_reducible apply L3.xq);(·ext:0))
 |((with_reducible apply L3.alr);(·ext:0);(·rfl);ext:4)
 |((with_reducible apply L3.zC);(·ext:0))
 |((with_reducible apply L3.hJ);(·ext:0);(·rfl))
 |((with_reducible apply L3.anx);(·ext:0))
 |(with_reducible apply L3.ajS))
local macro_rules| `(tactic|ext:1)=> `(tactic|((apply Eq.trans);(·ext:0);(·rfl)))
namespace STP
open PySem L2 L3
def mw(c:Nat):Str:=#[#v[97+c]]
inductive Mn where
 |YG (c:Nat)
 |aat (n:Int)
 |tap (c:Nat) (n:Int)
 |once (n:Int)
 |none
 |below
 deriving DecidableEq
def mD:Mn->D
 |.YG c=>.tuple [.str "letter",.str (mw c)]
 |.aat n=>.tuple [.str "layer",.int n]
 |.tap c n=>.tuple [.str "tap",.str (mw c),.int n]
 |.once n=>.tuple [.str "once",.int n]
 |.none=>.tuple [.str "none"]
 |.below=>.tuple [.str "below"]
def VM(L a:Int):Mn->Prop
 |.YG c=>c<26
 |.aat n=>1<=n/\n<a
 |.tap c n=>c<26/\1<=n/\n<a
 |.once n=>1<=n/\n<a
 |.none=>True
 |.below=>L≠0
def Mn.isL:Mn->Bool
 |.YG _=>S
 |_=>M
structure Bd where
 n:Int
 ls:G (G Mn)
 cs:G (G Nat×Nat)
 wt:Int
def Od(l:G Mn):D:=.tuple (l.map mD)
def bA(c:G Nat×Nat):D:=.tuple [.tuple (a8 c.1),.str (mw c.2)]
def bD(b:Bd):D:=.tuple [.int b.n,.tuple (b.ls.map Od),.tuple (b.cs.map bA),.int b.wt]
def VL(n a:Int)(b:G (G Mn)):Prop:=∀(i:Nat) l,b[i]?=R l->(l.length:Int)=n/\∀m∈l,VM i a m
def Sc(a:G Mn)(k:Nat):Bool:=(a[k]?.map Mn.isL).getD M
def VC(a:G Mn)(c:G Nat×Nat):Prop:=2<=c.1.length/\c.1.Pairwise (·<·)/\(∀k∈c.1,Sc a k=S)/\c.2<26
structure VB(b:Bd):Prop where
 n1:1<=b.n
 n5:b.n<=5
 l1:1<=b.ls.length
 l3:b.ls.length<=3
 vl:VL b.n b.ls.length b.ls
 c4:b.cs.length<=4
 vc:∀c∈b.cs,VC (b.ls.headD []) c
 cu:b.cs.Pairwise λa c=>a.1≠c.1
 w1:1<=b.wt
 w4:b.wt<=4
def wn:Mn->Nat
 |.YG _=>0
 |.aat _=>1
 |.tap _ _=>2
 |.once _=>3
 |.none=>4
 |.below=>5
def ws:Nat->Str
 |0=> "letter"
 |1=> "layer"
 |2=> "tap"
 |3=> "once"
 |4=> "none"
 |_=> "below"
def wd(m:Mn):Str:=ws (wn m)
def uf(m:Mn):wn m<6:=by ext m<;>show Yn W
def wI(m:Mn):aK (mD m) (.int 0)=R (.fz (.str (wd m))):=by ext m<;>show iS
theorem M4(m:Mn):X2.strOk (wd m)=S:=(by left:∀i,i<6->X2.strOk (ws i)=S) _ (uf m)
def Ai:∀i,i<6->∀j,j<6->(ws i==ws j)=decide (i=j):=by left
def xL(m:Mn)(j:Nat)(a:j<6):bv (.str (wd m)) (.str (ws j))=R (.fz (.bool (decide (wn m=j)))):=by rw[MF (M4 m) ((by left:∀i,i<6->X2.strOk (ws i)=S) j a)];ext wd;rw[Ai _ (uf m) _ a]
def Mn.isB:Mn->Bool
 |.below=>S
 |_=>M
def Mn.aeZ:Mn->Bool
 |.aat _=>S
 |_=>M
def Mn.isT:Mn->Bool
 |.tap _ _=>S
 |_=>M
def Mn.isO:Mn->Bool
 |.once _=>S
 |_=>M
theorem og(m:Mn):bv (.str (wd m)) (.str "letter")=R (.fz (.bool m.isL)):=(xL m 0 ()).trans (by ext m<;>rfl)
theorem E5(m:Mn):bv (.str (wd m)) (.str "below")=R (.fz (.bool m.isB)):=(xL m 5 ()).trans (by ext m<;>rfl)
theorem F7(m:Mn):bv (.str (wd m)) (.str "layer")=R (.fz (.bool m.aeZ)):=(xL m 1 ()).trans (by ext m<;>rfl)
theorem QD(m:Mn):bv (.str (wd m)) (.str "tap")=R (.fz (.bool m.isT)):=(xL m 2 ()).trans (by ext m<;>rfl)
theorem KY(m:Mn):bv (.str (wd m)) (.str "once")=R (.fz (.bool m.isO)):=(xL m 3 ()).trans (by ext m<;>rfl)
def SF(m:Mn):nQ (.str (wd m)) (.tuple [.str "layer",.str "once"])=R (.fz (.bool (!(m.aeZ||m.isO)))):=by
 let h:∀a:Str,X2.strOk a=S->nQ (.str a) (.tuple [.str "layer",.str "once"])=R (.fz (.bool (!(("layer":Str)==a||("once":Str)==a)))):=λa b=>by show(if(mq (.str a)&&(X2.strOk "layer"&&(X2.strOk "once"&&S)))=S then R (RV.fz (.bool (!(X2.eqv (.str "layer") (.str a)||(X2.eqv (.str "once") (.str a)||false)))))else P)=_;rw[show mq (.str a)=S by ext mq;rw[show X2.canLay0 (.str a)=S from b];rfl,show X2.strOk "layer"=S by left,show X2.strOk "once"=S by left,abU];rfl
 rw[h _ (M4 m)];ext wd;rw[show(("layer":Str)==ws (wn m))=_ from Ai 1 () _ (uf m),show(("once":Str)==ws (wn m))=_ from Ai 3 () _ (uf m)];ext m<;>rfl
def LB:Mn->Prop
 |.YG c=>c<26
 |.tap c _=>c<26
 |_=>True
def VM.lb(h:VM L nL m):LB m:=by
 cases m with
 |YG c=>show h
 |tap c n=>show h.1
 |_=>trivial
def yB(h:c<26):X2.strOk (mw c)=S:=by show((#v[97+c]:Array Nat).all λc=>decide (c<0x110000))=S;simp;ext
def Kg(h:mw c=mw d):c=d:=by
 let:(97+c)=97+d:=by let a:=d6 (λz:Str=>z.cps.toList) h;show List.head_eq_of_cons_eq a
 ext
def Fu(h:LB m):X2.canLay0 (mD m)=S:=by
 cases m with
 |YG c=>show(X2.strOk "letter"&&(X2.strOk (mw c)&&S))=S;rw[yB h,show X2.strOk "letter"=S by left];rfl
 |aat n=>show(X2.strOk "layer"&&(S&&S))=S;left
 |tap c n=>show(X2.strOk "tap"&&(X2.strOk (mw c)&&(S&&S)))=S;rw[yB h,show X2.strOk "tap"=S by left];rfl
 |once n=>show(X2.strOk "once"&&(S&&S))=S;left
 |none=>show(X2.strOk "none"&&S)=S;left
 |below=>show(X2.strOk "below"&&S)=S;left
def Gw(h:LB m):mq (mD m)=S:=by ext mq;rw[Fu h];ext m<;>rfl
def mR:Mn->G D
 |.YG c=>[.str (mw c)]
 |.aat n=>[.int n]
 |.tap c n=>[.str (mw c),.int n]
 |.once n=>[.int n]
 |.none=>[]
 |.below=>[]
def NF(m:Mn):mD m=.tuple (.str (wd m)::mR m):=by ext m<;>rfl
def Sr(a b:Mn):decide (wd a=wd b)=decide (wn a=wn b):=by
 let h:=Ai _ (uf a) _ (uf b)
 assumption
theorem zO(c d:Nat):decide (mw c=mw d)=decide (c=d):=decide_eq_decide.mpr #[Kg,λh=>by rw[h]]
def Pv(a b:Mn)(h:wn a=wn b):X2.eqvAll (mR a) (mR b)=decide (a=b):=by
 ext a<;>ext b<;>first|ext h|skip
 .show(decide (mw _=mw _)&&S)=_;rw[zO,abX];show decide_eq_decide.mpr #[λh=>by rw[h],λh=>by ext h;rfl]
 .show(decide (_=_)&&S)=_;rw[abX];show decide_eq_decide.mpr #[λh=>by rw[h],λh=>by ext h;rfl]
 .show(decide (mw _=mw _)&&(decide (_=_)&&S))=_;rw[zO,abX,<-Bool.decide_and];show decide_eq_decide.mpr #[λh=>by rw[h.1,h.2],λh=>by ext h;show#[W,W]]
 .show(decide (_=_)&&S)=_;rw[abX];show decide_eq_decide.mpr #[λh=>by rw[h],λh=>by ext h;rfl]
 .rfl
 .rfl
def Qz(a b:Mn):X2.eqv (mD a) (mD b)=decide (a=b):=by
 rw[NF,NF];show(decide (wd a=wd b)&&X2.eqvAll (mR a) (mR b))=_;rw[Sr];by_cases h:wn a=wn b
 .rw[a7 h,abW,Pv a b h]
 .rw[bg h,ac2,bg λz=>h (by rw[z])]
theorem Bt:∀{l:G Mn},(∀m∈l,LB m)->X2.canLayAll0 (l.map mD)=S
 |[],_=>rfl
 |m::r,h=>by show(X2.canLay0 (mD m)&&X2.canLayAll0 (r.map mD))=S;rw[Fu (h m X9),Bt λx a=>h x (Ya _ a)];rfl
theorem Aj(a:Mn):∀l:G Mn,((l.map mD).any λe=>X2.eqv e (mD a))=decide (a∈l)
 |[]=>rfl
 |m::r=>by
  rw[Yi,aak,Aj a r,Qz,<-Bool.decide_or]
  grind
def LL{l:G Mn}(c:LB a)(b:∀m∈l,LB m):kJ (mD a) (.list (l.map mD))=R (.fz (.bool (decide (a∈l)))):=by show(if(mq (mD a)&&X2.canLayAll0 (l.map mD))=S then _ else _)=_;rw[Gw c,Bt b,aaj,ax W,Aj]
def zG(e:α->D)(g:α->z D)(I:aU->Prop)(xs:G α)(o:I k)(f:xs.length<=1000)(b:∀x∈xs,∀k,I k->∃c,kG gt C U (e x) k=.ok (g x,c)/\I c):g6 (b7 gt C U (xs.map e) k [])=.ok (xs.filterMap g):=by
 let h:∀(xs:G α) (a:G D) (k:aU),I k->a.length+xs.length<=1000->(∀x∈xs,∀k,I k->∃c,kG gt C U (e x) k=.ok (g x,c)/\I c)->b7 gt C U (xs.map e) k a=.ok (a++xs.filterMap g):=by
  intro xs
  induction xs with
  |nil=>intro a k _ _ _;show Res.ok a=_;simp_all
  |cons x r i=>
   intro a k l f b;rw[Yf]at f;let(c,n,m):=b x X9 k l;rw[Yi,ra n ()];let d:(a++(g x).toList).length+r.length<=1000:=by
    rw[Yb];cases g x with
    |none=>rw[abM,ZZ];ext
    |some y=>rw[aeD,Z1];ext
   rw[i _ c m d λy j=>b y (Ya _ j),YR];cases q:g x with
   |none=>rw[ZP q];rfl
   |some y=>rw[ZQ q];rfl
 rw[h xs [] k o (by simpa using f) b];rfl
def Ah(a:bU o=o):bU (R (PV.fz d)::o)=R (.fz d)::o:=by show xP _::bU o=_;rw[a];rfl
def nS{α:Type}{c:FT}{k:FE}{a:aU}(e f:α->D)(p:α->Bool)(xs:G α)(i:xs.length<=1000)(l:bU a=a)(g:∀x∈xs,c (R (.fz (e x))::a)=.ok (p x,R (.fz (e x))::a))(j:∀x∈xs,p x=S->k (R (.fz (e x))::a)=.ok (.fz (f x),R (.fz (e x))::a)):g6 (b7 (gN 0) c k (xs.map e) (P::a) [])=.ok ((xs.filter p).map f):=by
 rw[zG e (λx=>if p x=S then R (f x)else P) (λm=>∃o,m=o::a) xs #[P,W] i ?_]
 .congr 1
  clear i g j
  induction xs with
  |nil=>rfl
  |cons x r h=>
   cases q:p x with
   |true=>rw[ZQ (b:=f x) (by rw[ax q]),Zi q,h];rfl
   |false=>rw[ZP (by rw[a6 (by rw[q];simp)]),Zv (by rw[q];simp),h]
 .rintro x d m ⟨o,rfl⟩
  cases q:p x with
  |true=>show#[_,Mc W ((g x d).trans (by rw[q])) (j x d q) W (Ah l),_,W]
  |false=>show#[_,Ki W ((g x d).trans (by rw[q])) (Ah l),_,W]
theorem yF(xs:G α):xs.filter (λ_=>S)=xs:=List.filter_eq_self.mpr λ_ _=>W
def zK{α:Type}(e f:α->D)(xs:G α)(b:xs.length<=1000)(g:bU o=o)(d:∀x∈xs,C (R (.fz (e x))::o)=.ok (.fz (f x),R (.fz (e x))::o)):g6 (b7 (gN 0) bW C (xs.map e) (P::o) [])=.ok (xs.map f):=by rw[nS e f (λ_=>S) xs b g (λ_ _=>W) λx a _=>d x a,yF]
theorem wk(p:α->Bool):∀l:G α,vF (l.map λc=>X2.bool (p c))=R (l.map p)
 |[]=>rfl
 |c::r=>by show(vF (r.map λc=>X2.bool (p c))).map (p c::·)=_;rw[wk p r];rfl
def EW(p:α->Bool)(l:G α):sU [.list (l.map λc=>X2.bool (p c))]=R (.fz (.bool (l.all p))):=by show(vF _).map (λbs=>RV.fz (.bool (bs.all id)))=_;rw[wk];simp_all
theorem rV:∀ns:G Int,mH (ns.map X2.int)=R ns
 |[]=>rfl
 |n::r=>by show(mH (r.map X2.int)).map (n::·)=_;rw[rV r];rfl
abbrev Ac:=Nat->z Mn
abbrev Wq:=z (G Nat×Int×z (Nat×Int))
structure Stn where
 ac:Ac
 wt:Wq
 oc:z Int
def jk(ac:Ac):G (Nat×Mn):=(Yw 5).filterMap λk=>(ac k).map λa=>(k,a)
def pD(p:Nat×Mn):D:=.tuple [nd p.1,mD p.2]
def v2:z (Nat×Int)->D
 |some (c,n)=>mD (.tap c n)
 |none=>.tuple [.str "chord"]
def l6:Wq->D
 |some (b,a,w)=>.tuple [.tuple (a8 b),.int a,v2 w]
 |none=>.none
def xV:z Int->D
 |some o=>.int o
 |none=>.none
def gw(s:Stn):D:=.tuple [.tuple ((jk s.ac).map pD),l6 s.wt,xV s.oc]
inductive Evn where
 |down (k:Nat)
 |up (k:Nat)
 |turn
def mZ:Evn->D
 |.down k=>.tuple [.str "down",nd k]
 |.up k=>.tuple [.str "up",nd k]
 |.turn=>.tuple [.str "turn",.int 0]
def j6:p∈jk ac↔p.1<5/\ac p.1=R p.2:=by
 ext jk;rw[ZE];constructor
 .rintro⟨k,d,b⟩
  cases q:ac k with
  |none=>simp_all
  |some a=>rw[q]at b;ext b;show#[Yv.mp d,q]
 .rintro⟨d,b⟩;show#[p.1,Yv.mpr d,by rw[b];rfl]
theorem ve(ac:Ac):(jk ac).length<=5:=aa6 _ _
def PD:Nat×Mn->z Int
 |(_,.aat n)=>R n
 |_=>P
def sR(ac:Ac):Int:=(((jk ac).filterMap PD).foldl mj P).getD 0
def pR(ac:Ac):z Int->Int
 |some o=>o
 |none=>sR ac
def Hr(ac:Ac):g6 (b7 (gT 2 (vh (gN 0) (vh (gN 1) Fc))) (ai (am bv (am aK (aa 1) (~~~0)) (pC (.str "layer")))) (am aK (aa 1) (~~~1)) ((jk ac).map pD) [P,P] [])=.ok (((jk ac).filterMap PD).map .int):=by
 rw[zG pD (λp=>(PD p).map .int) (λf=>∃d b,f=[d,b]) (jk ac) #[P,P,W] (YN (ve ac) ()) ?_,List.map_filterMap];rintro⟨k,a⟩ _ f ⟨d,b,rfl⟩;let e1:=wI a;let e2:=F7 a;let e:ai (am bv (am aK (aa 1) (~~~0)) (pC (.str "layer"))) [R (.fz (nd k)),R (.fz (mD a))]=.ok (a.aeZ,[R (.fz (nd k)),R (.fz (mD a))]):=by ext:0
 show#[[R (.fz (nd k)),R (.fz (mD a))],?_,_,_,W];cases a with
 |aat n=>show Mc W e (bh (ar W) aP W W i7) W W
 |_=>show Ki W e W
def wz(s:Stn):eE [gw s]=.ok (.fz (.int (pR s.ac s.oc))):=by
 show gA W ?_;let e2:aK (gw s) (.int 2)=R (.fz (xV s.oc)):=pE;let e0:aK (gw s) (.int 0)=R (.fz (.tuple ((jk s.ac).map pD))):=iS;ext iZ;cases q:s.oc with
 |some o=>
  rw[q]at e2;let e3:lf (xV (R o)) .none=R (.fz (.bool S)):=W;ext:2
  .intro _;show vR (by ext:0) W W
  .intro h;ext h
 |none=>
  rw[q]at e2;let e3:lf (xV P) .none=R (.fz (.bool M)):=W;ext:2
  .intro h;ext h
  .intro _;show n6 (hJ (iJ (rv:=.fz (.int (sR s.ac))) (aE (d9 (by ext:0) W (Hr s.ac)) bf) W ?_) W W);show(mH _).map _=_;rw[rV];rfl
def sL(b:Bd)(L k:Nat):Mn:=((b.ls[L]?.getD [])[k]?).getD .none
def look(b:Bd)(L:Int)(k:Nat):Mn:=if(sL b L.toNat k).isB=S then sL b 0 k else sL b L.toNat k
section
variable{b:Bd}(Z:VB b)
include Z
def MO{L k:Nat}(a:L<b.ls.length)(d:(k:Int)<b.n):∃l,b.ls[L]?=R l/\l[k]?=R (sL b L k):=by
 let f:=Z.vl L _ (Ye a);let e:k<(b.ls[L]).length:=by ext
 show#[_,Ye a,?_];ext sL;simp_all
def y8{L k:Nat}(d:L<b.ls.length)(a:(k:Int)<b.n):VM L b.ls.length (sL b L k):=by let(l,f,e):=MO Z d a;show(Z.vl L l f).2 _ (YD e)
def GF{L k:Nat}(e:L<b.ls.length)(a:(k:Int)<b.n):∃d,aK (.tuple (b.ls.map Od)) (nd L)=R (.fz d)/\aK d (nd k)=R (.fz (mD (sL b L k))):=by let(l,f,g):=MO Z e a;show#[Od l,RY (by rw[Yl,f];rfl),RY (by simp_all)]
def Kc{L:Int}{k:Nat}(i:0<=L)(h:L<b.ls.length)(e:(k:Int)<b.n):jl [bD b,.int L,nd k]=.ok (.fz (mD (look b L k))):=by
 obtain⟨n,rfl⟩:∃n:Nat,L=(n:Int):=#[L.toNat,by ext];let g:=Z.l1;let(d,e2,e3):=GF Z (L:=n) () e;let(f,e4,e5):=GF Z (L:=0) () e;let e1:aK (bD b) (.int 1)=R (.fz (.tuple (b.ls.map Od))):=i7;let e6:=wI (sL b n k);let e7:=E5 (sL b n k);let e8:aK (.tuple (b.ls.map Od)) (.int 0)=R (.fz f):=e4;let a:look b (n:Int) k=if(sL b n k).isB=S then sL b 0 k else sL b n k:=W
 rw[a];generalize sL b n k=m at e3 e6 e7 a;generalize sL b 0 k=m0 at e5 a;show gA W ?_;ext g9;ext:2
 .intro q;rw[ax q];show vR (by ext:0) W W
 .intro q;rw[a6 (by rw[q];simp)];show n6 (hJ (by ext:0) W W)
def Aw{L:Int}{k:Nat}(f:0<=L)(h:L<b.ls.length)(e:(k:Int)<b.n):VM L b.ls.length (look b L k)/\look b L k≠.below:=by
 let g:=Z.l1;let a:=y8 Z (L:=0) (k:=k) () e;let v:=y8 Z (L:=L.toNat) (k:=k) () e;let d:sL b 0 k≠.below:=λz=>by rw[z]at a;show a W
 rw[afc f]at v;ext look;split
 .show#[?_,d]
  generalize sL b 0 k=m at a d;cases m with
  |below=>show b4 W d
  |_=>show a
 .rename_i q;show#[v,λz=>?_];rw[z]at q;show q W
omit Z in
theorem ED(ks:cc Nat)(a:ks.length<=5)(c:cc Nat×Nat):ai (cF sU {bz 1 [0] (eO (aa 1)) (gN 0) bW (am kJ (aa 0) (am aK (aa 1) (~~~0)))}) [cL (.fz (bA c)),cL (.fz (.tuple (a8 ks)))]=.ok (ks.all λk=>decide (k∈c.1),[cL (.fz (bA c)),cL (.fz (.tuple (a8 ks)))]):=by
 have e:g6 (b7 (gN 0) bW (am kJ (aa 0) (am aK (aa 1) (~~~0))) (a8 ks) [CL,cL (.fz (bA c))] [])=.ok (ks.map λk=>.bool (decide (k∈c.1))):=zK nd (λk=>.bool (decide (k∈c.1))) ks (by ext) rfl λk _=>by have e0:aK (bA c) (.int 0)=cL (.fz (.tuple (a8 c.1))):=iS;exact bh (rv:=.fz (.bool (decide (k∈c.1)))) (ar rfl) (by ext:0) rfl rfl (vg _ _)
 exact ie (iJ (rv:=.fz (.bool (ks.all λk=>decide (k∈c.1)))) (ds:=[.list (ks.map λk=>.bool (decide (k∈c.1)))]) (aE (d9 (cs:=[bA c]) (ds:=a8 ks) (by ext:0) rfl e) bf) rfl (EW _ _)) rfl
def gr(b:Bd)(a:G Nat):G (G Nat×Nat):=b.cs.filter λc=>a.all λk=>decide (k∈c.1)
def zZ(a:o.length<=5):bI [bD b,.tuple (a8 o)]=.ok (.ow ((gr b o).map bA)):=by let e2:aK (bD b) (.int 2)=R (.fz (.tuple (b.cs.map bA))):=pE;let d:=Z.c4;show gA W ?_;ext fA;show hJ (d9 (cs:=[.tuple (a8 o)]) (by ext:0) W (nS bA bA (λc=>o.all λk=>decide (k∈c.1)) b.cs () W (λc _=>ED o a c) λc _ _=>ar W)) W W
def pH(a:G Nat):G Nat:=(kR (a.map acF)).map ad9
omit Z in
theorem qI(ks:cc Nat):(pH ks).Perm ks:=by have h:=(fM (ks.map acF)).map ad9;rw[YW]at h;exact h.trans (by rw[show(ad9∘acF)=id from funext λx=>rfl,List.map_id])
omit Z in
theorem JV(ks:cc Nat):(kR (ks.map acF)).map X2.int=a8 (pH ks):=by unfold pH a8;rw[YW];refine Zz λx a=>?_;obtain⟨n,_,rfl⟩:=Yy.mp ((fM _).mem_iff.mp a);rfl
omit Z in
theorem y3(ks:cc Nat):(pH ks).Pairwise (·<=·):=by
 have h:∀l:cc Int,l.Pairwise (·<=·)->(l.map ad9).Pairwise (·<=·):=λl h=>by rw[Z5];exact h.imp λh=>by ext
 exact h _ (eN _)
omit Z in
theorem IH(ks:cc Nat):(pH ks).length=ks.length:=(qI ks).length_eq
omit Z in
theorem wx{ks:cc Nat}(h:ks.length<64):L9.gQ [.tuple (a8 ks)]=cL (.ow (a8 (pH ks))):=by
 have e:a8 ks=(ks.map acF).map X2.int:=by rw[YW];rfl
 show(match mH (a8 ks)with
  |some a=>if a.length<64 then cL (RV.ow ((kR a).map .int))else CL
  |none=>CL)=_
 rw[e,rV];dsimp only;rw[ax (by rw[X4];exact h),JV]
def Tx(b:Bd)(a:G Nat):G Mn:=match b.cs.find? λc=>decide (c.1=pH a)with
 |some c=>.YG c.2::X1 (a.length - 1) .none
 |none=>a.map (sL b 0)
omit Z in
omit Z in
theorem Te(n:Nat)(d:D):(X1 n [d]).flatten=X1 n d:=by
 induction n with
 |zero=>rfl
 |succ n a=>rw[Y4,Zu,a];rfl
def RG{n:cc Nat}(G:1<=n.length)(F:n.length<=5)(B:∀k∈n,(k:Int)<b.n):fU [bD b,.tuple (a8 n)]=.ok (.ow ((Tx b n).map mD)):=by
 let e2:aK (bD b) (.int 2)=R (.fz (.tuple (b.cs.map bA))):=pE;let e1:aK (bD b) (.int 1)=R (.fz (.tuple (b.ls.map Od))):=i7;let E:=Z.l1;let i:=wx (ks:=n) ();show gA W ?_;ext fQ;let rt:∀c:cc Nat×Nat,(am cH (bV {bT {pC (.str "letter"),am aK (aa 2) (~~~1)}}) (am eY (bV {pC (.tuple [(.str "none")])}) (am rq (cF eU {aa 1}) (~~~1)))) [R (.fz (bD b)),R (.fz (.tuple (a8 n))),R (.fz (bA c))]=.ok (.ow ((Mn.YG c.2::X1 (n.length - 1) Mn.none).map mD),[R (.fz (bD b)),R (.fz (.tuple (a8 n))),R (.fz (bA c))]):=λc=>by
  let l:aK (bA c) (.int 1)=R (.fz (.str (mw c.2))):=i7;let j:eY (.list [.tuple [.str "none"]]) (.int (((a8 n).length:Int) - 1))=R (.ow (X1 (n.length - 1) (.tuple [.str "none"]))):=by rw[ju,show((n.length:Int) - 1)=((n.length - 1:Nat):Int) by ext];show(NX () ()).trans (by rw[Te])
  let y:cH (.list [mD (.YG c.2)]) (.list (X1 (n.length - 1) (.tuple [.str "none"])))=R (.ow ((Mn.YG c.2::X1 (n.length - 1) Mn.none).map mD)):=by show(if 1+(X1 (n.length - 1) (X2.tuple [.str "none"])).length<=1000000 then R (RV.ow ([mD (.YG c.2)]++X1 (n.length - 1) (X2.tuple [.str "none"])))else P)=_;rw[YE,ax (),Yi,ab2];rfl
  show bh (by ext:0) (bh (by ext:0) (bh (by ext:0) aP W W (yN _ _)) W W j) W W y
 let f:∀(e:cc (cc Nat×Nat)) (o:ck PV),(∀c,e.find? (λc=>decide (c.1=pH n))=R c->pA (gN 2) (eZ (ai (am bv (cF ou {am aK (aa 2) (~~~0)}) (cF L9.gQ {aa 1}))) (aR (am cH (bV {bT {pC (.str "letter"),am aK (aa 2) (~~~1)}}) (am eY (bV {pC (.tuple [(.str "none")])}) (am rq (cF eU {aa 1}) (~~~1))))) aV) (e.map bA) [R (.fz (bD b)),R (.fz (.tuple (a8 n))),o]=.ok (.rt (.ow ((Mn.YG c.2::X1 (n.length - 1) Mn.none).map mD))))/\
   (e.find? (λc=>decide (c.1=pH n))=P->∃u,pA (gN 2) (eZ (ai (am bv (cF ou {am aK (aa 2) (~~~0)}) (cF L9.gQ {aa 1}))) (aR (am cH (bV {bT {pC (.str "letter"),am aK (aa 2) (~~~1)}}) (am eY (bV {pC (.tuple [(.str "none")])}) (am rq (cF eU {aa 1}) (~~~1))))) aV) (e.map bA) [R (.fz (bD b)),R (.fz (.tuple (a8 n))),o]=.ok (.nx [R (.fz (bD b)),R (.fz (.tuple (a8 n))),u])):=by
  intro e
  induction e with
  |nil=>show λo=>#[λc h=>(by ext h),λ_=>#[o,W]]
  |cons c r A=>
   intro o;let C:aK (bA c) (.int 0)=R (.fz (.tuple (a8 c.1))):=iS
   let a:ai (am bv (cF ou {am aK (aa 2) (~~~0)}) (cF L9.gQ {aa 1})) [R (.fz (bD b)),R (.fz (.tuple (a8 n))),R (.fz (bA c))]=.ok (decide (c.1=pH n),[R (.fz (bD b)),R (.fz (.tuple (a8 n))),R (.fz (bA c))]):=
    ie (bh (iJ (by ext:0) W W) (iJ (by ext:0) W i) W W (uI _ _)) W
   rw[Zx];by_cases h:c.1=pH n
   .rw[a7 h]at a⊢;show#[λH t=>?_,λt=>(by ext t)];ext t;show((gN 2 (.fz (bA c)) [R (.fz (bD b)),R (.fz (.tuple (a8 n))),o]).bind λg=>_)=_;rw[Dz,eg];show((eZ _ _ _ [R (.fz (bD b)),R (.fz (.tuple (a8 n))),R (.fz (bA c))]).bind _)=_;rw[Vf a,vU (rt c) W];rfl
   .rw[bg h]at a⊢
    let w:pA (gN 2) (eZ (ai (am bv (cF ou {am aK (aa 2) (~~~0)}) (cF L9.gQ {aa 1}))) (aR (am cH (bV {bT {pC (.str "letter"),am aK (aa 2) (~~~1)}}) (am eY (bV {pC (.tuple [(.str "none")])}) (am rq (cF eU {aa 1}) (~~~1))))) aV) ((c::r).map bA) [R (.fz (bD b)),R (.fz (.tuple (a8 n))),o]=pA (gN 2) (eZ (ai (am bv (cF ou {am aK (aa 2) (~~~0)}) (cF L9.gQ {aa 1}))) (aR (am cH (bV {bT {pC (.str "letter"),am aK (aa 2) (~~~1)}}) (am eY (bV {pC (.tuple [(.str "none")])}) (am rq (cF eU {aa 1}) (~~~1))))) aV) (r.map bA) [R (.fz (bD b)),R (.fz (.tuple (a8 n))),R (.fz (bA c))]:=by show((gN 2 (.fz (bA c)) [R (.fz (bD b)),R (.fz (.tuple (a8 n))),o]).bind λg=>_)=_;rw[Dz,eg];show((eZ _ _ _ [R (.fz (bD b)),R (.fz (.tuple (a8 n))),R (.fz (bA c))]).bind _)=_;rw[VV a];rfl
    rw[w];show A _
 let(z,m):=f b.cs P;let v:eO (am aK (aa 0) (~~~2)) [R (.fz (bD b)),R (.fz (.tuple (a8 n))),P]=.ok (b.cs.map bA,[R (.fz (bD b)),R (.fz (.tuple (a8 n))),P]):=by ext:0
 ext Tx;cases q:b.cs.find? λc=>decide (c.1=pH n)with
 |some c=>show .eq (Gi ((yw v).trans (z c q))) #[W]
 |none=>let(u,m):=m q;show .eq (GS ((yw v).trans m)) ?_;show hJ (d9 (by ext:0) W ?_) W W;rw[YW];show zK nd (mD∘sL b 0) n () W λk p=>?_;let(d,l,j):=GF Z (L:=0) () (B k p);let l:aK (.tuple (b.ls.map Od)) (.int 0)=R (.fz d):=l;show bh (by ext:0) (ar W) W W j
end
end STP
local macro_rules|`(-($x))=>`(Option.some (.fz $x))
namespace STP
open PySem L2 L3
open L10
def kM(p:Nat×Mn):cE×SV:=(.inl (p.1:Int),.fz (mD p.2))
def kH(ac:Ac)(k:Nat)(o:z Mn):Ac:=λj=>if j=k then o else ac j
def fq:kH ac k o k=o:=by ext kH;simp_all
def hV(h:j≠k):kH ac k o j=ac j:=by ext kH;rw[a6 h]
def E3(ac:Ac):(jk ac).Pairwise λp q=>p.1<q.1:=by
 ext jk;show ait _ (λa f h p d q b=>?_) (List.pairwise_lt_range);cases e:ac a with
 |none=>simp_all
 |some x=>
  cases g:ac f with
  |none=>simp_all
  |some y=>rw[e]at d;rw[g]at b;ext d;ext b;show h
def rF(ac:Ac):((jk ac).map (·.1)).Nodup:=by rw[ajq,Z5];show(E3 ac).imp λh=>Yk h
def A3{l:G (Nat×Mn)}(h:(l.map (·.1)).Nodup):l.Nodup:=by rw[ajq,Z5]at h;show h.imp λh e=>h (by rw[e])
theorem su{l:G (Nat×Mn)}(h:(l.map (·.1)).Nodup)(hm:∀p,p∈l↔p.1<5/\ac p.1=R p.2):l.Perm (jk ac):=
 (List.perm_ext_iff_of_nodup (A3 h) (A3 (rF ac))).mpr λp=>(hm p).trans j6.symm
section
variable{Z:cc (Nat×Mn)}{X:Ac}(Y:Z.Perm (jk X))
include Y
theorem lC:p∈Z↔p.1<5/\X p.1=R p.2:=Y.mem_iff.trans j6
theorem Ez:(Z.map (·.1)).Nodup:=(Y.map (·.1)).nodup_iff.mpr (rF X)
def E8:Z.length<=5:=by rw[Y.length_eq];show ve X
def nc{k:Nat}(d:k<5):kz (Z.map kM) (.inl (k:Int))=(X k).map λa=>SV.fz (mD a):=by
 ext kz;cases q:(Z.map kM).find? λb=>decide (b.1=(.inl (k:Int):cE))with
 |none=>
  cases e:X k with
  |none=>rfl
  |some a=>let:=ab3.mp q (kM (k,a)) (Yy.mpr #[(k,a),(lC Y).mpr #[d,e],W]);show b4 (a7 W) this
 |some b=>
  let(p,h,rfl):=Yy.mp (aaX q);let g:=b3 (agm (p:=λb:cE×SV=>decide (b.1=(.inl (k:Int):cE))) q);let f:p.1=k:=by let:=Sum.inl.inj g;ext
  rw[<-f,((lC Y).mp h).2];rfl
def Ke{k:Nat}(n:k<5):∃c:G (Nat×Mn),kE (Z.map kM) (.inl (k:Int)) (.fz (mD a))=c.map kM/\c.Perm (jk (kH X k (R a))):=by
 ext kE;let g:∀p:Nat×Mn,((kM p).1=(.inl (k:Int):cE))↔p.1=k:=λp=>#[λh=>by let:=Sum.inl.inj h;ext,λh=>by rw[<-h];rfl];split
 .rename_i h
  show#[Z.map λp=>if p.1=k then(k,a)else p,?_,su ?_ λp=>?_]
  .rw[YW,YW]
   show Zz λp _=>?_;show(if(kM p).1=(.inl (k:Int):cE)then((kM p).1,SV.fz (mD a))else kM p)=kM (if p.1=k then(k,a)else p);by_cases e:p.1=k
   .rw[ax ((g p).mpr e),ax e,(g p).mpr e];rfl
   simp_all
  .rw[YW,show Z.map ((·.1)∘λp:Nat×Mn=>if p.1=k then(k,a)else p)=Z.map (·.1)from Zz λp _=>by
    show(if p.1=k then(k,a)else p).1=p.1;split
    .rename_i e;show e.symm
    .rfl]
   show Ez Y
  .let(v,j,i):=acx.mp h
   let(m,u,rfl):=Yy.mp j;let b:=(g m).mp (b3 i);rw[Yy];constructor
   .rintro⟨r,t,rfl⟩
    split
    .show#[n,fq]
    .rename_i e;let:=(lC Y).mp t;show#[this.1,by rw[hV e];show this.2]
   .rintro⟨d,f⟩
    by_cases e:p.1=k
    .rw[e,fq]at f;show#[m,u,?_];rw[ax b,<-e,Yq f]
    .rw[hV e]at f;show#[p,(lC Y).mpr #[d,f],by rw[a6 e]]
 .rename_i h
  let A:=λp l e=>h (acx.mpr #[kM p,Yy.mpr #[p,l,W],a7 ((g p).mpr e)]);show#[Z++[(k,a)],by rw[YH];rfl,su ?_ λp=>?_]
  .rw[YH,aa1];show#[Ez Y,Y6.mpr #[Y0,abH],λx q y o=>?_];let(p,b,rfl):=Yy.mp q;rw[Yh.mp o];show A p b
  .rw[Y3,Yh]
   constructor
   .rintro(b|rfl)
    .let:=(lC Y).mp b;show#[this.1,by rw[hV (A p b)];show this.2]
    .show#[n,fq]
   .rintro⟨b,d⟩
    by_cases e:p.1=k
    .rw[e,fq]at d;show .inr (by rw[<-e,Yq d])
    .rw[hV e]at d;show .inl ((lC Y).mpr #[b,d])
def HI{k:Nat}:∃c:G (Nat×Mn),mF (Z.map kM) (.inl (k:Int))=c.map kM/\c.Perm (jk (kH X k P)):=by
 let f:∀p:Nat×Mn,((kM p).1=(.inl (k:Int):cE))↔p.1=k:=λp=>#[λh=>by let:=Sum.inl.inj h;ext,λh=>by rw[<-h];rfl];show#[Z.filter λp=>decide (p.1≠k),?_,su ?_ λp=>?_]
 .ext mF;rw[List.filter_map];congr 1;show aa2 λp _=>?_;show decide_eq_decide.mpr (not_congr (f p))
 .show amd ((abP).map _) (Ez Y)
 .rw[YF,lC Y,decide_eq_true_eq]
  constructor
  .rintro⟨⟨b,a⟩,d⟩;show#[b,by rw[hV d];show a]
  .rintro⟨b,a⟩
   by_cases e:p.1=k
   .rw[e,fq]at a;ext a
   .rw[hV e]at a;show#[#[b,a],e]
def F0:aF yt ((Z.map kM).map (·.1))=R (Z.map λp=>(p.1:Int)):=by
 clear Y
 induction Z with
 |nil=>rfl
 |cons p r a=>rw[Yi,Yi];ext aF;rw[a];rfl
def GN:kR (Z.map λp=>(p.1:Int))=(jk X).map λp=>(p.1:Int):=by show l4 ((fM _).trans (Y.map _)) (eN _) ?_;rw[Z5];show(E3 X).imp λh=>by ext
end
abbrev Sn:=G (Nat×Bool)
def mM(ac:Ac)(a:Mn):Bool:=decide (a∈(jk ac).map (·.2))
def nG(ac:Ac):Mn->Sn
 |.YG c=>if mM ac (.YG c)=S then[]else[(c,S)]
 |_=>[]
def J6(ac:Ac):Mn->Sn
 |.YG c=>if mM ac (.YG c)=S then[]else[(c,M)]
 |_=>[]
def ia(p:Stn×Sn)(k:Nat)(a:Mn):Stn×Sn:=({p.1 with ac:=kH p.1.ac k (R a)},p.2++nG p.1.ac a)
def go(p:Stn×Sn)(k:Nat):Stn×Sn:=match p.1.ac k with
 |some a=>({p.1 with ac:=kH p.1.ac k P},p.2++J6 (kH p.1.ac k P) a)
 |none=>p
def mx(p:Stn×Sn)(a:G (Nat×Mn)):Stn×Sn:=a.foldl (λp q=>ia p q.1 q.2) p
def jD(b:Bd)(a:G Nat):z (Nat×Int)->G Mn
 |some (_,n)=>[.aat n]
 |none=>Tx b a
def d8(b:Bd)(p:Stn×Sn):Stn×Sn:=match p.1.wt with
 |none=>p
 |some (a,_,w)=>mx ({p.1 with wt:=P},p.2) (a.zip (jD b a w))
def HY:Wq->Nat->Bool
 |some (a,_,_),k=>decide (k∈a)
 |none,_=>M
def GV(b:Bd)(s:Stn)(k:Nat):Bool:=match s.wt with
 |some (a,_,P)=>decide (pR s.ac s.oc=0)&& !(gr b (a++[k])).isEmpty
 |_=>M
def xb(b:Bd)(p:Stn×Sn)(k:Nat):Stn×Sn:=match p.1.wt with
 |some (a,g,_)=>if(gr b (a++[k])).map (·.1.length)=[(a++[k]).length]then d8 b ({p.1 with wt:=R (a++[k],g,P)},p.2)else({p.1 with wt:=R (a++[k],g,P)},p.2)
 |none=>p
def kA(s:Stn)(m:Mn):Stn:=if(m.aeZ||m.isO)=S then s else{s with oc:=P}
def wm(b:Bd)(L:Int)(p:Stn×Sn)(k:Nat):Mn->Stn×Sn
 |.tap c n=>({p.1 with wt:=R ([k],0,R (c,n))},p.2)
 |.YG c=>if(decide (L=0)&& !(gr b [k]).isEmpty)=S then({p.1 with wt:=R ([k],0,P)},p.2)else ia p k (.YG c)
 |.once n=>({(ia p k .none).1 with oc:=R n},(ia p k .none).2)
 |m=>ia p k m
def M8(b:Bd)(p:Stn×Sn)(k:Nat):Stn×Sn:=
 wm b (pR p.1.ac p.1.oc) (kA p.1 (look b (pR p.1.ac p.1.oc) k),p.2) k (look b (pR p.1.ac p.1.oc) k)
def nX(b:Bd)(p:Stn×Sn)(k:Nat):Stn×Sn:=
 if((p.1.ac k).isSome||HY p.1.wt k)=S then p else if GV b p.1 k=S then xb b p k else M8 b (d8 b p) k
def cx(b:Bd)(p:Stn×Sn)(k:Nat):Stn×Sn:=match p.1.wt with
 |some (_,_,P)=>d8 b p
 |some (_,_,R (c,_))=>ia ({p.1 with wt:=P},p.2) k (.YG c)
 |none=>p
def BM(b:Bd)(p:Stn×Sn)(k:Nat):Stn×Sn:=go (if HY p.1.wt k=S then cx b p k else p) k
def ph(b:Bd)(p:Stn×Sn):Stn×Sn:=match p.1.wt with
 |none=>p
 |some (a,g,w)=>if g+1=b.wt then d8 b ({p.1 with wt:=R (a,g+1,w)},p.2)else({p.1 with wt:=R (a,g+1,w)},p.2)
def bZ(b:Bd)(s:Stn):Evn->Stn×Sn
 |.down k=>nX b (s,[]) k
 |.up k=>BM b (s,[]) k
 |.turn=>ph b (s,[])
def J4(b:Bd)(s:Stn):G (Str×SV):=[("bed",.fz (bD b)),("acts",.rf 1),("waiting",.fz (l6 s.wt)),("once",.fz (xV s.oc)),("sent",.rf 2)]
def xS(p:Nat×Bool):D:=.tuple [.str (mw p.1),.str (if p.2=S then "down" else "up")]
def eI(b:Bd)(s:Stn)(sn:Sn)(a:G (Nat×Mn))(J:aO):aO:=.obj "Hand" (J4 b s):: .dct (a.map kM):: .lst ((sn.map xS).map .fz)::J
def HS(b:Bd)(p:Stn×Sn)(c:aO):Prop:=∃a J,a.Perm (jk p.1.ac)/\c=eI b p.1 p.2 a J
section
variable{b:Bd}{s:Stn}{sn:Sn}{Z:cc (Nat×Mn)}{J:aO}{ρ:bc}{i:Nat}{X:aO}{p:Stn×Sn}{k:Nat}{a:Mn}
def OA:(J4 b s).lookup ("bed":Str)=-(bD b):=by rfl
def Ll:(J4 b s).lookup ("acts":Str)=R (.rf 1):=by rfl
def Ja:(J4 b s).lookup ("waiting":Str)=-(l6 s.wt):=by rfl
def KI:(J4 b s).lookup ("once":Str)=-(xV s.oc):=by rfl
def LF:(J4 b s).lookup ("sent":Str)=R (.rf 2):=by rfl
def U8(m:Str):Bool:=(m== "bed"||m== "acts"||m== "waiting"||m== "once"||m== "sent")==M
def Sw(h:U8 m=S):(J4 b s).lookup m=P:=by unfold U8 at h;simp only[beq_iff_eq,aeF]at h;let((((j,g),f),e),d):=h;ext J4;simp_all
theorem oP(h:ρ[i]?=R (R (.rf 0))):aY "Hand" "bed" (au i) ρ (eI b s sn Z J)=.ok (.fz (bD b)) (eI b s sn Z J):=dM (aA h) W OA
theorem ic(h:ρ[i]?=R (R (.rf 0))):aY "Hand" "acts" (au i) ρ (eI b s sn Z J)=.ok (.rf 1) (eI b s sn Z J):=dM (aA h) W Ll
theorem bB(h:ρ[i]?=R (R (.rf 0))):aY "Hand" "waiting" (au i) ρ (eI b s sn Z J)=.ok (.fz (l6 s.wt)) (eI b s sn Z J):=dM (aA h) W Ja
theorem A8(h:ρ[i]?=R (R (.rf 0))):aY "Hand" "once" (au i) ρ (eI b s sn Z J)=.ok (.fz (xV s.oc)) (eI b s sn Z J):=dM (aA h) W KI
theorem vn(h:ρ[i]?=R (R (.rf 0))):aY "Hand" "sent" (au i) ρ (eI b s sn Z J)=.ok (.rf 2) (eI b s sn Z J):=dM (aA h) W LF
theorem l7(w:Wq)(h:ρ[i]?=R (R (.rf 0)))(d:o ρ X=.ok (.fz (l6 w)) (eI b s sn Z J)):dA "Hand" "waiting" (au i) o ρ X=.ok (.nx ρ) (eI b {s with wt:=w} sn Z J):=
 (di d (aA h) W (by show Yn W)).trans (by rfl)
theorem zU(o:z Int)(h:ρ[i]?=R (R (.rf 0)))(d:C ρ X=.ok (.fz (xV o)) (eI b s sn Z J)):dA "Hand" "once" (au i) C ρ X=.ok (.nx ρ) (eI b {s with oc:=o} sn Z J):=
 (di d (aA h) W (by show Yn W)).trans (by rfl)
def bL(d:HS b p X)(hm:U8 m=S)(h:ρ[i]?=R (R (.rf 0)))(g:fa ρ X=.ok xs X)(c:(SV.rf 0::xs).length=n)(e:F (.rf 0::xs) X=.ok x o):aD "Hand" m F n (au i) fa ρ X=.ok x o:=by let(Z,J,f,rfl):=d;show dI (aA h) W (Sw hm) g c e
def Gn(Z:G (Nat×Mn)):(Z.map kM).map (·.2)=((Z.map (·.2)).map mD).map SV.fz:=by rw[YW,YW,YW];rfl
def AK(ac:Ac):Prop:=∀k a,ac k=R a->k<5/\LB a
def FP(e:HS b p X)(f:AK p.1.ac)(h:LB a):∃c,bM [.rf 0,.fz (mD a)] X=.ok (.fz (.bool (mM p.1.ac a))) c/\HS b p c:=by
 let(Z,J,d,rfl):=e;let e1:mM p.1.ac a=decide (a∈Z.map (·.2)):=decide_eq_decide.mpr (d.map (·.2)).symm.mem_iff;let lb:∀m∈Z.map (·.2),LB m:=λm hm=>by let(q,g,rfl):=Yy.mp hm;show(f _ _ ((lC d).mp g).2).2
 show#[eI b p.1 p.2 Z (J++[.lst ((Z.map kM).map (·.2))]),?_,Z,_,d,W];rw[e1];show eG W (cJ (cz (af (ar W)) (Ly (ic W) W) (vG W (gB (by rw[Gn];show aH)) (LL h lb))))
theorem Ad(f:sn.length<1000)(h:ρ[i]?=R (R (.rf 0)))(e:o ρ (eI b s sn Z J)=.ok (.fz (xS (c,d))) (eI b s sn Z J)):uX (aY "Hand" "sent" (au i)) o ρ (eI b s sn Z J)=.ok (.fz .none) (eI b s (sn++[(c,d)]) Z J):=
 (EU (vn h) W e W (by rw[X4,X4];ext)).trans (by ext eI;rw[YH,YH];rfl)
def qZ(d:Z.Perm (jk s.ac))(g:k<5)(n:ρ[0]?=R (R (.rf 0)))(m:ρ[1]?=R (-(nd k)))(l:ρ[2]?=R (-(mD a))):∃c:G (Nat×Mn),c.Perm (jk (kH s.ac k (R a)))/\ub (aY "Hand" "acts" (au 0)) (ag (aa 1)) (ag (aa 2)) ρ (eI b s sn Z J)=.ok (.nx ρ) (eI b {s with ac:=kH s.ac k (R a)} sn c J):=by let(c,j,h):=Ke d g;let f:aa 1 (bO ρ)=.ok (.fz (nd k),bO ρ):=ar (by ext bO;rw[Yl,m];rfl);let e:aa 2 (bO ρ)=.ok (.fz (mD a),bO ρ):=ar (by ext bO;rw[Yl,l];rfl);show#[c,h,(LJ (af e) (ic n) (af f) W W (by rw[X4];let:=E8 d;ext)).trans ?_];rw[j];rfl
def pW(m:HS b p X)(v:AK p.1.ac)(B:LB a)(n:k<5)(u:p.2.length<1000):∃x,bp [.rf 0,.fz (nd k),.fz (mD a)] X=.ok (.fz .none) x/\HS b (ia p k a) x:=by
 let e0:=wI a;let e1:=og a;cases q:a.isL with
 |false=>
  let(Z,J,g,rfl):=m;rw[q]at e1;let(d,h,w):=qZ (ρ:=[R (.rf 0),-(nd k),-(mD a)]) g n W W W;show#[_,ji W (aJ (cC (iI (aN (by ext:0))) cQ) w),d,J,h,?_];let:nG p.1.ac a=[]:=by ext a<;>first|rfl|ext q
  ext ia;simp_all
 |true=>
  rw[q]at e1;let(j,h,l):=FP m v B;let f:∀t,mM p.1.ac a=t->(mV (br (ai (am bv (am aK (aa 2) (~~~0)) (pC (.str "letter"))))) (qY (aZ (aD "Hand" "has_act" bM 2 (au 0) (aj (ag (aa 2)) aL))))) [R (.rf 0),-(nd k),-(mD a)] X=.ok (!t) j:=λt e=>by rw[e]at h;show jP (aN (by ext:0)) (p7 (aX (bL m (by rfl) W (aq (af (ar W)) aB) W h)))
  let(Z,J,g,rfl):=l;cases A:mM p.1.ac a with
  |true=>
   let(d,r,o):=qZ (ρ:=[R (.rf 0),-(nd k),-(mD a)]) g n W W W;show#[_,ji W (aJ (cC (f S A) cQ) o),d,J,r,?_];let:nG p.1.ac a=[]:=by
    ext a<;>first|ext q|skip
    show(if mM p.1.ac _=S then _ else _)=_;simp_all
   ext ia;simp_all
  |false=>
   ext a<;>first|ext q|skip
   rename_i c;let(d,r,o):=qZ (ρ:=[R (.rf 0),-(nd k),-(mD (.YG c))]) (sn:=p.2++[(c,S)]) g n W W W;let y:aK (mD (.YG c)) (.int 1)=-(.str (mw c)):=i7;show#[_,ji W (aJ (dX (f M A) (je (Ad u W (af (show _=Res.ok (PV.fz (.tuple [.str (mw c),.str "down"]),_) by ext:0))))) o),d,J,r,?_];let:nG p.1.ac (.YG c)=[(c,S)]:=by show(if mM p.1.ac _=S then _ else _)=_;simp_all
   ext ia;rw[this]
end
end STP
namespace STP
open PySem L2 L3 L10
def VA(a:Int):Mn->Prop
 |.YG c=>c<26
 |.aat n=>1<=n/\n<a
 |.none=>True
 |_=>False
def VA.lb(h:VA nL m):LB m:=by
 cases m with
 |YG c=>show h
 |tap c n=>show h.elim
 |_=>trivial
structure SA(b:Bd)(s:Stn):Prop where
 ac:∀k a,s.ac k=R a->(k:Int)<b.n/\VA b.ls.length a
 oc:∀o,s.oc=R o->1<=o/\o<b.ls.length
structure WV(b:Bd)(ac:Ac)(ks:G Nat)(g:Int)(w:z (Nat×Int)):Prop where
 ne:ks≠[]
 nd:ks.Nodup
 kn:∀k∈ks,(k:Int)<b.n
 kf:∀k∈ks,ac k=P
 g0:0<=g
 tp:∀c n,w=R (c,n)->c<26/\(1<=n/\n<b.ls.length)/\ks.length=1
 ch:w=P->∀k∈ks,Sc (b.ls.headD []) k=S
structure SW(b:Bd)(s:Stn):Prop where
 sa:SA b s
 wt:∀ks g w,s.wt=R (ks,g,w)->WV b s.ac ks g w/\g<b.wt
def yE{c:G Nat}(hd:c.Nodup)(h:∀k∈c,k<n):c.length<=n:=by rw[<-IH c];let b:=(qI c).nodup_iff.mpr hd;show LK (((y3 c).and b).imp λh=>by ext) λk a=>h k ((qI c).mem_iff.mp a)
section
variable{b:Bd}(Z:VB b){s:Stn}{p:Stn×Sn}{X:cc Nat}{g:Int}{w:ck (Nat×Int)}{U:Ac}{k:Nat}{a:Mn}
include Z
theorem WV.len(h:WV b U X g w):X.length<=5:=yE h.nd λk d=>by let:=h.kn k d;let:=Z.n5;ext
omit Z in
theorem WV.akm(h:WV b U X g w):1<=X.length:=List.length_pos_iff.mpr h.ne
theorem SA.ak(h:SA b s):AK s.ac:=λk a e=>by let:=h.ac k a e;let:=Z.n5;show#[by ext,(h.ac k a e).2.lb]
omit Z in
theorem SA.cm(h:SA b p.1)(d:(k:Int)<b.n)(ha:VA b.ls.length a):SA b (ia p k a).1:=by
 refine⟨λj x e=>?_,h.oc⟩;by_cases z:j=k
 .subst z;have f:cL a=cL x:=(fq (ac:=p.1.ac) (k:=j) (o:=cL a)).symm.trans e;cases f;exact⟨d,ha⟩
 .exact h.ac j x ((hV z).symm.trans e)
omit Z in
theorem SA.gg(h:SA b p.1):SA b (go p k).1:=by
 unfold go;split
 .refine⟨λj x e=>?_,h.oc⟩
  by_cases z:j=k
  .subst z;exact b4 ((fq (ac:=p.1.ac) (k:=j) (o:=CL)).symm.trans e) (by simp)
  .exact h.ac j x ((hV z).symm.trans e)
 .exact h
omit Z in
theorem se:(ia p k a).2.length<=p.2.length+1:=by
 show(p.2++nG p.1.ac a).length<=_;rw[Yb];have:(nG p.1.ac a).length<=1:=by
  cases a with
  |YG c=>show(if _ then _ else _:Sn).length<=1;split<;>simp
  |_=>simp[nG]
 ext
omit Z in
theorem CW(d:cc (Nat×Mn)):∀p:Stn×Sn,(mx p d).2.length<=p.2.length+d.length:=by
 induction d with
 |nil=>exact λp=>X6 _
 |cons q r e=>intro p;have h:=e (ia p q.1 q.2);have f:=se (p:=p) (k:=q.1) (a:=q.2);show(mx (ia p q.1 q.2) r).2.length<=_;rw[Yf];ext
omit Z in
theorem SA.cms(d:cc (Nat×Mn)):∀{p:Stn×Sn},SA b p.1->(∀q∈d,(q.1:Int)<b.n/\VA b.ls.length q.2)->SA b (mx p d).1/\(mx p d).1.wt=p.1.wt/\(mx p d).1.oc=p.1.oc:=by
 induction d with
 |nil=>exact λh _=>⟨h,rfl,rfl⟩
 |cons q r i=>intro p h e;have f:=e q X9;exact i (h.cm f.1 f.2) λx j=>e x (Ya _ j)
def PJ(h:Sc (b.ls.headD []) k=S):∃c,sL b 0 k=.YG c:=by
 let f:=Z.l1;obtain⟨d,r,e⟩:∃d r,b.ls=d::r:=by
  cases q:b.ls with
  |nil=>rw[q]at f;ext f
  |cons l r=>show#[l,r,W]
 unfold Sc at h;ext sL;rw[e]at h⊢;rw[adT,afe];rw[List.headD_cons]at h;cases q:d[k]? with
 |none=>rw[q]at h;ext h
 |some m=>
  rw[q]at h;cases m with
  |YG c=>show#[c,W]
  |_=>ext h
def K8(d:(k:Int)<b.n)(h:Sc (b.ls.headD []) k=S):VA b.ls.length (sL b 0 k):=by let f:=Z.l1;let(c,e):=PJ Z h;let:=y8 Z (L:=0) () d;rw[e]at this⊢;show this
def NH(h:WV b U X g P):∀m∈Tx b X,VA b.ls.length m:=by
 intro m hm;unfold Tx at hm;split at hm
 .rename_i c e
  rcases Yg.mp hm with rfl|hm
  .show(Z.vc c (aaX e)).2.2.2
  .rw[(List.mem_replicate.mp hm).2];trivial
 .let(j,d,rfl):=Yy.mp hm;show K8 Z (h.kn j d) (h.ch W j d)
def A7(h:WV b U X g w):∀q∈X.zip (jD b X w),(q.1:Int)<b.n/\VA b.ls.length q.2:=by
 intro q e;let d:=aaE e;show#[h.kn _ d.1,?_];cases w with
 |none=>show NH Z h _ d.2
 |some f=>let(c,n):=f;rw[Yh.mp d.2];show(h.tp c n W).2.1
def WD(b:Bd)(s:Stn):Prop:=∀X g w,s.wt=R (X,g,w)->WV b s.ac X g w
def lj(h:SA b p.1)(d:WD b p.1):SW b (d8 b p).1/\(d8 b p).1.wt=P/\(d8 b p).2.length<=p.2.length+5/\(d8 b p).1.oc=p.1.oc:=by
 ext d8;split
 .rename_i q;show#[#[h,λX g w e=>by simp_all],q,Nat.le_add_right _ _,W]
 .rename_i X g w q
  let v:=d X g w q;let(j,i,f):=SA.cms (X.zip (jD b X w)) (p:=({p.1 with wt:=P},p.2)) #[h.ac,h.oc] (A7 Z v);show#[#[j,λ_ _ _ e=>?_],i,?_,f]
  .simp_all
  .let:=CW (X.zip (jD b X w)) ({p.1 with wt:=P},p.2)
   let l:=v.len Z
   grind
omit Z in
theorem AJ:∀(l:cc Int) (m:ck Int),l.foldl mj m=m\/∃x∈l,l.foldl mj m=cL x
 |[],m=>.inl rfl
 |x::r,m=>by
  rw[abq];rcases AJ r (mj m x)with h|⟨y,hy,h⟩
  .rw[h]
   cases m with
   |none=>exact .inr ⟨x,X9,rfl⟩
   |some z=>
    show cL (if x>z then x else z)=cL z\/_;split
    .exact .inr ⟨x,X9,by show cL (if x>z then x else z)=_;rename_i q;rw[ax q]⟩
    .exact .inl rfl
  .exact .inr ⟨y,Ya _ hy,h⟩
omit Z in
theorem Aq:∀(l:cc Int) (m:ck Int),(∀x∈l,∃y,l.foldl mj m=cL y/\x<=y)/\∀z,m=cL z->∃y,l.foldl mj m=cL y/\z<=y
 |[],m=>⟨λx e=>(by cases e),λz h=>⟨z,h,aa5 _⟩⟩
 |x::r,m=>by
  rw[abq];obtain⟨n,j⟩:=Aq r (mj m x);have i:∃z,mj m x=cL z/\x<=z/\∀u,m=cL u->u<=z:=by
   cases m with
   |none=>exact⟨x,rfl,aa5 _,λu h=>by cases h⟩
   |some u=>
    refine⟨if x>u then x else u,rfl,?_,λv h=>?_⟩
    .split<;>ext
    .cases h;split<;>ext
  obtain⟨z,e1,e2,e3⟩:=i;obtain⟨y,e4,e5⟩:=j z e1;refine⟨λv d=>?_,λu f=>⟨y,e4,by have:=e3 u f;ext⟩⟩;rcases Yg.mp d with rfl|d
  .exact⟨y,e4,by ext⟩
  .exact n v d
omit Z in
theorem zH{U:Ac}{n:Int}:n∈(jk U).filterMap PD↔∃k,k<5/\U k=cL (.aat n):=by
 rw[ZE];constructor
 .rintro⟨⟨k,m⟩,e,d⟩
  have f:=j6.mp e;cases m with
  |aat x=>have:x=n:=Yq d;subst this;exact⟨k,f.1,f.2⟩
  |_=>cases d
 .rintro⟨k,e,d⟩;exact⟨(k,.aat n),j6.mpr ⟨e,d⟩,rfl⟩
def Js(h:SA b s):0<=sR s.ac/\sR s.ac<b.ls.length/\(∀k n,s.ac k=R (.aat n)->n<=sR s.ac)/\(sR s.ac=0\/∃k,s.ac k=R (.aat (sR s.ac))):=by
 let j:=Z.l1;let l:=Z.n5;ext sR;generalize hm:((jk s.ac).filterMap PD).foldl mj P=m;let f:=(Aq ((jk s.ac).filterMap PD) P).1;let d:=AJ ((jk s.ac).filterMap PD) P;rw[hm]at f d;let up:∀k n,s.ac k=R (.aat n)->∃y,m=R y/\n<=y:=λk n e=>f n (zH.mpr #[k,by let:=(h.ac k _ e).1;ext,e]);cases m with
 |none=>show#[aa5 _,by show(0:Int)<_;ext,λk n e=>?_,.inl W];let(y,e2,_):=up k n e;ext e2
 |some x=>
  rcases d with d|⟨y,o,d⟩
  .ext d
  .ext d;let(k,_,e):=zH.mp o;let:=(h.ac k _ e).2;let:1<=x/\x<b.ls.length:=this;show#[by show 0<=x;ext,by show x<_;ext,λk n e=>?_,.inr #[k,e]];let(y,e2,i):=up k n e;ext e2;show i
def ER(h:SA b s):0<=pR s.ac s.oc/\pR s.ac s.oc<b.ls.length:=by
 cases q:s.oc with
 |none=>let:=Js Z h;show#[this.1,this.2.1]
 |some o=>let:=h.oc o q;show#[by show 0<=o;ext,this.2]
end
section
variable{b:Bd}{s:Stn}{Q:Sn}{Z:cc (Nat×Mn)}{J:aO}{U:bc}{i:Nat}{X:aO}{p:Stn×Sn}{k:Nat}{a:Mn}
def ye(h:f x=R y):aF f [x]=R [y]:=by ext aF;rw[h];rfl
def ny:(l++[c]).set l.length o=l++[o]:=by simp
def oh(e:HS b p X):∃c,bH [.rf 0] X=.ok (.fz (gw p.1)) c/\HS b p c:=by
 let(Z,J,d,rfl):=e;let g:=E8 d;let h:i8 (qQ (aY "Hand" "acts" (au 0))) [R (.rf 0)] (eI b p.1 p.2 Z J)=.ok ((jk p.1.ac).map λq=>nd q.1) (eI b p.1 p.2 Z (J++[.dead])):=by
  show(v5 (ds:=(jk p.1.ac).map λq=>nd q.1) (JC (ic W) W (F0 d) (by rw[X4];ext)) ?_).trans ?_
  .rw[GN d];show aH.trans ?_;rw[YW,YW];rfl
  .rw[ny];rfl
 let j:dj (dW 0) kI (nI (aj (ag (aa 0)) (aj (qM (aY "Hand" "acts" (au 1)) (ag (aa 0))) aL))) ((jk p.1.ac).map λq=>nd q.1) [P,R (.rf 0)] (eI b p.1 p.2 Z (J++[.dead])) []=.ok (((jk p.1.ac).map pD).map .fz) (eI b p.1 p.2 Z (J++[.dead])):=by show(oC (λq:Nat×Mn=>nd q.1) (λq=>.fz (pD q)) _ (λU=>∃o,U=[o,R (.rf 0)]) (jk p.1.ac) _ [] #[P,W] (by let:=ve p.1.ac;grind) ?_).trans (by rw[YW];rfl);rintro q f U ⟨o,rfl⟩;let hm:=j6.mp f;show#[[-(nd q.1),R (.rf 0)],W,W,?_,_,W];show vd (aq (af (ar W)) (aq (Jm (ic W) (af (ar W)) W W (by rw[nc d hm.1,hm.2];rfl)) aB)) (Yn W)
 let tp:Gr mJ (aj (jF 1 [0] (i8 (qQ (aY "Hand" "acts" (au 0)))) (dW 0) kI (nI (aj (ag (aa 0)) (aj (qM (aY "Hand" "acts" (au 1)) (ag (aa 0))) aL)))) aL) [R (.rf 0)] (eI b p.1 p.2 Z J)=.ok (.fz (.tuple ((jk p.1.ac).map pD))) (eI b p.1 p.2 Z (J++[.dead]++[.lst (((jk p.1.ac).map pD).map .fz)])):=
  Mp (aq (pZ h j) aB) (ye (gB aH)) W
 show#[_,eG W (cJ (vd (aq tp (aq (bB W) (aq (A8 W) aB))) (Yn W))),Z,_,d,W]
def GA(e:HS b p X):b5 [.rf 0,.fz (nd k)] X=.ok (.fz (.bool (HY p.1.wt k))) X:=by
 let(Z,J,f,rfl):=e;show eG W (cJ ?_);cases q:p.1.wt with
 |none=>
  let e1:lf (l6 p.1.wt) .none=-(.bool M):=by rw[q];rfl
  show Cw (aX (cz (bB W) (af aP) (bR e1)))
 |some x=>
  let(d,g,w):=x;let e1:lf (l6 p.1.wt) .none=-(.bool S):=by rw[q];rfl
  let e2:aK (l6 p.1.wt) (.int 0)=-(.tuple (a8 d)):=by rw[q];show iS
  show B6 (aX (cz (bB W) (af aP) (bR e1))) (cz (af (ar W)) (c8 (bB W) (af aP) e2) (bR (vg _ _)))
def Ua(F:HS b p X)(u:AK p.1.ac)(L:p.1.ac k=R a)(G:p.2.length<1000):∃D,jH [.rf 0,.fz (nd k)] X=.ok (.fz .none) D/\HS b (go p k) D:=by
 let(Z,J,C,rfl):=F;let H:=(u k a L).1;let lb:=(u k a L).2;let(f,d1,y):=HI C
 let n:uj (aY "Hand" "acts" (au 0)) (ag (aa 1)) [R (.rf 0),-(nd k),P] (eI b p.1 p.2 Z J)=.ok (.fz (mD a)) (eI b {p.1 with ac:=kH p.1.ac k P} p.2 f J):=
  (Lk (ic W) W (af (ar W)) W W (by rw[nc C H,L];rfl)).trans (by rw[d1];rfl)
 let I:go p k=({p.1 with ac:=kH p.1.ac k P},p.2++J6 (kH p.1.ac k P) a):=by ext go;rw[L]
 rw[I];let t:AK (kH p.1.ac k P):=λj x e=>by
  by_cases z:j=k
  .subst z;rw[fq]at e;ext e
  .rw[hV z]at e;show u j x e
 let e0:=wI a;let e1:=og a;let l:ai (am bv (am aK (aa 2) (~~~0)) (pC (.str "letter"))) (bO [R (.rf 0),-(nd k),-(mD a)])=.ok (a.isL,bO [R (.rf 0),-(nd k),-(mD a)]):=by ext:0
 let w:GoS (bE (mV (br (ai (am bv (am aK (aa 2) (~~~0)) (pC (.str "letter"))))) (qY (aZ (aD "Hand" "has_act" bM 2 (au 0) (aj (ag (aa 2)) aL))))) (bS (uX (aY "Hand" "sent" (au 0)) (ag (bT {am aK (aa 2) (~~~1),pC (.str "up")})))) bC [R (.rf 0),-(nd k),-(mD a)] (eI b {p.1 with ac:=kH p.1.ac k P} p.2 f J)) (λ_ D=>SV.fz .none=.fz .none/\HS b ({p.1 with ac:=kH p.1.ac k P},p.2++J6 (kH p.1.ac k P) a) D) (λ_ _=>False) (λr D=>r=.fz .none/\HS b ({p.1 with ac:=kH p.1.ac k P},p.2++J6 (kH p.1.ac k P) a) D):=by
  cases q:a.isL with
  |false=>
   rw[q]at l;show eC (iI (aN l)) (lV #[W,f,J,y,?_]);let:J6 (kH p.1.ac k P) a=[]:=by ext a<;>first|rfl|ext q
   simp_all
  |true=>
   rw[q]at l;let(h,v,o):=FP (p:=({p.1 with ac:=kH p.1.ac k P},p.2)) #[f,J,y,W] t lb;let g:∀m,mM (kH p.1.ac k P) a=m->(mV (br (ai (am bv (am aK (aa 2) (~~~0)) (pC (.str "letter"))))) (qY (aZ (aD "Hand" "has_act" bM 2 (au 0) (aj (ag (aa 2)) aL))))) [R (.rf 0),-(nd k),-(mD a)] (eI b {p.1 with ac:=kH p.1.ac k P} p.2 f J)=.ok (!m) h:=λm e=>by
    let v:bM [.rf 0,.fz (mD a)] (eI b {p.1 with ac:=kH p.1.ac k P} p.2 f J)=.ok (.fz (.bool m)) h:=by rw[<-e];show v
    show jP (aN l) (p7 (aX (bL (p:=({p.1 with ac:=kH p.1.ac k P},p.2)) #[f,J,y,W] (by rfl) W (aq (af (ar W)) aB) W v)))
   let(A,E,B,e2):=o;rw[e2]at g;cases N:mM (kH p.1.ac k P) a with
   |true=>
    show eC (g S N) (lV #[W,A,E,B,?_]);let:J6 (kH p.1.ac k P) a=[]:=by
     ext a<;>first|ext q|skip
     show(if mM (kH p.1.ac k P) _=S then _ else _)=_;rw[ax N]
    simp_all
   |false=>
    ext a<;>first|ext q|skip
    rename_i c;let K:aK (mD (.YG c)) (.int 1)=-(.str (mw c)):=i7;show qK (g M N) (jt (Ad (d:=M) G W (af (show _=Res.ok (PV.fz (.tuple [.str (mw c),.str "up"]),_) by ext:0))) #[W,A,E,B,?_]);let:J6 (kH p.1.ac k P) (.YG c)=[(c,M)]:=by show(if mM (kH p.1.ac k P) _=S then _ else _)=_;simp_all
    rw[this]
 show jC W (j3 n W w)
end
section
variable{b:Bd}(Y:VB b){s:Stn}{N:Sn}{Z:cc (Nat×Mn)}{J:aO}{Q:bc}{i:Nat}{U:aO}{p:Stn×Sn}{k:Nat}{a:Mn}{X:cc Nat}{g:Int}{w:ck (Nat×Int)}
theorem Gs:∀(X:G Nat) (as:G Mn),mO (a8 X) (as.map mD)=(X.zip as).map pD
 |[],_=>by rfl
 |_::_,[]=>rfl
 |k::r,a::t=>by show X2.tuple [nd k,mD a]::mO (a8 r) (t.map mD)=_;rw[Gs r t];rfl
def zw(h:∀c n,w=R (c,n)->c<26):bv (v2 w) (.tuple [.str "chord"])=-(.bool w.isNone)/\lr (v2 w) (.tuple [.str "chord"])=-(.bool w.isSome):=by
 cases w with
 |none=>
  let j:mq (.tuple [.str "chord"])=S:=by left
  let f:X2.canLay0 (.tuple [.str "chord"])=S:=by left
  let d:X2.eqv (.tuple [.str "chord"]) (.tuple [.str "chord"])=S:=by rfl
  constructor
  .show(if(mq (.tuple [.str "chord"])&&X2.canLay0 (.tuple [.str "chord"]))=S then R (RV.fz (.bool (X2.eqv (.tuple [.str "chord"]) (.tuple [.str "chord"]))))else P)=_;rw[j,f,d];rfl
  .show(if(mq (.tuple [.str "chord"])&&X2.canLay0 (.tuple [.str "chord"]))=S then R (RV.fz (.bool (!X2.eqv (.tuple [.str "chord"]) (.tuple [.str "chord"]))))else P)=_;rw[j,f,d];rfl
 |some l=>
  let(c,n):=l;let lb:LB (.tap c n):=h c n W;let e:X2.eqv (mD (.tap c n)) (.tuple [.str "chord"])=M:=by rfl
  constructor
  .show(if(mq (mD (.tap c n))&&X2.canLay0 (.tuple [.str "chord"]))=S then R (RV.fz (.bool (X2.eqv (mD (.tap c n)) (.tuple [.str "chord"]))))else P)=_;rw[Gw lb,show X2.canLay0 (.tuple [.str "chord"])=S by left,e];rfl
  .show(if(mq (mD (.tap c n))&&X2.canLay0 (.tuple [.str "chord"]))=S then R (RV.fz (.bool (!X2.eqv (mD (.tap c n)) (.tuple [.str "chord"]))))else P)=_;rw[Gw lb,show X2.canLay0 (.tuple [.str "chord"])=S by left,e];rfl
theorem xc(X:G Nat)(w:ck (Nat×Int))(as:G Mn):∀(f:G (Nat×Mn)) (p:Stn×Sn) (U:aO) (m l:ck SV),HS b p U->AK p.1.ac->(∀q∈f,q.1<5/\LB q.2)->p.2.length+f.length<1000->
  ∃A c,lc (Ia 2 (mf (dW 4) (mf (dW 5) v4))) (bS (aD "Hand" "come" bp 3 (au 0) (aj (ag (aa 4)) (aj (ag (aa 5)) aL)))) (f.map pD) [R (.rf 0),-(.tuple (a8 X)),-(v2 w),-(.list (as.map mD)),m,l] U=.ok (.nx A) c/\HS b (mx p f) c
 |[],p,U,m,l,B,_,_,_=>#[_,U,W,B]
 |q::r,p,U,m,l,B,I,C,L=>by
  rw[Yf]at L;let h:=C q X9;let(d,e1,o):=pW B I h.2 h.1 ();let t:AK (ia p q.1 q.2).1.ac:=λj x e=>by
   by_cases z:j=q.1
   .let y:R q.2=R x:=by rw[z]at e;show(fq).symm.trans e
    ext y;show#[by rw[z];show h.1,h.2]
   .show I j x ((hV z).symm.trans e)
  let:=se (p:=p) (k:=q.1) (a:=q.2);let(A,c,e2,n):=xc X w as r (ia p q.1 q.2) d (-(nd q.1)) (-(mD q.2)) o t (λx v=>C x (Ya _ v)) ();show#[A,c,?_,n]
  let u:bS (aD "Hand" "come" bp 3 (au 0) (aj (ag (aa 4)) (aj (ag (aa 5)) aL))) [R (.rf 0),-(.tuple (a8 X)),-(v2 w),-(.list (as.map mD)),-(nd q.1),-(mD q.2)] U=.ok (.nx [R (.rf 0),-(.tuple (a8 X)),-(v2 w),-(.list (as.map mD)),-(nd q.1),-(mD q.2)]) d:=
   je (bL B (by left) W (aq (af (ar W)) (aq (af (ar W)) aB)) W e1)
  show((bS (aD "Hand" "come" bp 3 (au 0) (aj (ag (aa 4)) (aj (ag (aa 5)) aL))) [R (.rf 0),-(.tuple (a8 X)),-(v2 w),-(.list (as.map mD)),-(nd q.1),-(mD q.2)] U).bind _)=_;rw[u,ej];show e2
include Y
def lG(u:HS b p U)(o:SA b p.1)(f:p.1.wt=R (X,g,w))(v:WV b p.1.ac X g w)(I:p.2.length<900):∃x,cU [.rf 0] U=.ok (.fz .none) x/\HS b (d8 b p) x:=by
 let(Z,J,z,rfl):=u;let e0:aK (l6 p.1.wt) (.int 0)=-(.tuple (a8 X)):=by rw[f];show iS
 let e2:aK (l6 p.1.wt) (.int 2)=-(v2 w):=by rw[f];show pE
 let r:=v.len Y;let t:=v.akm;let E:=zw λc n h=>(v.tp c n h).1;let C:d8 b p=mx ({p.1 with wt:=P},p.2) (X.zip (jD b X w)):=by ext d8;rw[f]
 rw[C];let m:ai (am bv (aa 2) (pC (.tuple [.str "chord"]))) (bO [R (.rf 0),-(.tuple (a8 X)),-(v2 w),P,P,P])=.ok (w.isNone,bO [R (.rf 0),-(.tuple (a8 X)),-(v2 w),P,P,P]):=ie (bh (ar W) aP W W E.1) W;let l:mh (Nc (br (ai (am bv (aa 2) (pC (.tuple [(.str "chord")]))))) (gC fU 2 (aj (aY "Hand" "bed" (au 0)) (aj (ag (aa 1)) aL))) (ag (bV {bT {pC (.str "layer"),am aK (aa 2) (~~~2)}}))) [R (.rf 0),-(.tuple (a8 X)),-(v2 w),P,P,P] (eI b {p.1 with wt:=P} p.2 Z J)=.ok (.fz (.list ((jD b X w).map mD))) (eI b {p.1 with wt:=P} p.2 Z (J++[.dead])):=by
  cases w with
  |none=>let G:=RG Y t r v.kn;show(vX (IC (aN m) (pO (aq (oP W) (aq (af (ar W)) aB)) W G)) (pK aH)).trans (by rw[ny];rfl)
  |some F=>let(c,n):=F;let H:aK (v2 (R (c,n))) (.int 2)=-(.int n):=pE;show(vX (Lz (aN m) (dD (show _=Res.ok (PV.ow [.tuple [.str "layer",.int n]],_) by ext:0))) (pK aH)).trans (by rw[ny];rfl)
 let e:∃d x,qB (jO (zv {aa 1,aa 3})) (Ia 2 (mf (dW 4) (mf (dW 5) v4))) (bS (aD "Hand" "come" bp 3 (au 0) (aj (ag (aa 4)) (aj (ag (aa 5)) aL)))) [R (.rf 0),-(.tuple (a8 X)),-(v2 w),-(.list ((jD b X w).map mD)),P,P] (eI b {p.1 with wt:=P} p.2 Z (J++[.dead]))=.ok (.nx d) x/\HS b (mx ({p.1 with wt:=P},p.2) (X.zip (jD b X w))) x:=by
  let K:=Y.n5;let(d,x,B,A):=xc X w (jD b X w) (X.zip (jD b X w)) ({p.1 with wt:=P},p.2) (eI b {p.1 with wt:=P} p.2 Z (J++[.dead])) P P #[Z,_,z,W] (SA.ak Y #[o.ac,o.oc]) (λq y=>by
   let:=A7 Y v q y;show#[by ext,this.2.lb]) (by
   rw[List.length_zip];show p.2.length+_<1000;ext)
  show#[d,x,?_,A];ext qB;rw[lg (Ar (aE (ar W) (aE (ar W) bf)) W W W),ej,Gs];show B
 let(d,x,e,j):=e;show#[x,ji (ρ1:=d) W ?_,j];show aJ (dR (c8 (bB W) (af aP) e0) W) (aJ (dR (c8 (bB W) (af aP) e2) W) (aJ (l7 P W (af aP)) (aJ (dR l W) e)))
omit Y in
theorem IU{c:cc Nat×Nat}(h:c.2<26):X2.canLay0 (bA c)=XX:=by show(X2.canLayAll0 (a8 c.1)&&(X2.strOk (mw c.2)&&XX))=XX;rw[j8,yB h];rfl
omit Y in
theorem Pl:∀{cs:cc (cc Nat×Nat)},(∀c∈cs,c.2<26)->lr (.list (cs.map bA)) (.list [])=-(.bool (!cs.isEmpty)):=by
 intro cs h;have f:∀cs:cc (cc Nat×Nat),(∀c∈cs,c.2<26)->X2.canLayAll0 (cs.map bA)=XX:=by
  intro cs
  induction cs with
  |nil=>exact λ_=>rfl
  |cons c r d=>intro h;show(X2.canLay0 (bA c)&&X2.canLayAll0 (r.map bA))=XX;rw[IU (h c X9),d λx j=>h x (Ya _ j)];rfl
 have e:∀cs:cc (cc Nat×Nat),X2.depthAll (cs.map bA)<=2:=by
  intro cs
  induction cs with
  |nil=>exact Zj _
  |cons c r d=>show max (X2.depth (bA c)) (X2.depthAll (r.map bA))<=2;refine Nat.max_le.mpr ⟨?_,d⟩;show max (X2.depthAll (a8 c.1)+1) (max 0 0)+1<=2;rw[uy];decide
 show(if((X2.canLayAll0 (cs.map bA)&&decide (X2.depthAll (cs.map bA)+1<=64))&&XX)=XX then cL (RV.fz (.bool (!X2.eqvAll (cs.map bA) [])))else CL)=_;rw[f cs h,a7 (show X2.depthAll (cs.map bA)+1<=64 by have:=e cs;ext)];cases cs<;>rfl
theorem Lj(h:c∈gr b X):c.2<26:=(Y.vc c (YF.mp h).1).2.2.2
omit Y in
theorem Az(h:X≠[])(d:X.length<=5):cH (.tuple (a8 X)) (.tuple [nd k])=-(.tuple (a8 (X++[k]))):=by
 show(if a8 X≠[]/\(a8 X).length+1<=1000000 then cL (RV.fz (.tuple (a8 X++[nd k])))else CL)=_;rw[ax ⟨by cases X with
  |nil=>exact b4 rfl h
  |cons x r=>simp[a8],by rw[ju];ext⟩,JJ]
 rfl
def A2{l:ez}{ω1:aO}(d:∃Z J,ω1=eI b s N Z J)(j:Q[0]?=R (R (.rf 0)))(e:X.length<=5)(f:l Q ω1=.ok (.fz (.tuple (a8 X))) ω1):i6 lr (gC bI 2 (aj (aY "Hand" "bed" (au 0)) (aj l aL))) (ag (bV ah)) Q ω1=.ok (.fz (.bool (!(gr b X).isEmpty))) (ω1++[.lst (((gr b X).map bA).map .fz)]++[.lst []]):=by let(Z,J,rfl):=d;show cz (pO (ds:=[bD b,.tuple (a8 X)]) (aq (oP j) (aq f aB)) W (zZ Y e)) (dD (ds:=[]) (ρ':=bO Q) (uZ bf W (Zj _))) ?_;show vG (gB (gX aH)) (gB (ds:=[]) aH) (Pl λc h=>Lj Y h)
def Ph(m:HS b p U)(B:SW b p.1)(I:(k:Int)<b.n)(V:HY p.1.wt k=M):∃D,dP [.rf 0,.fz (nd k)] U=.ok (.fz (.bool (GV b p.1 k))) D/\HS b p D:=by
 cases q:p.1.wt with
 |none=>
  let o:GV b p.1 k=M:=by ext GV;rw[q]
  rw[o];let(Z,J,j,rfl):=m;let e1:nO (l6 p.1.wt) .none=-(.bool S):=by rw[q];rfl
  show#[_,eG W (eR (dX (nM (aX (cz (bB W) (af aP) (bR e1)))) (cJ (af aP)))),Z,J,j,W]
 |some x=>
  let(X,g,w):=x;let v:=(B.wt X g w q).1;let C:=v.len Y;let e1:nO (l6 p.1.wt) .none=-(.bool M):=by rw[q];rfl
  let e2:aK (l6 p.1.wt) (.int 2)=-(v2 w):=by rw[q];show pE
  let e0:aK (l6 p.1.wt) (.int 0)=-(.tuple (a8 X)):=by rw[q];show iS
  let A:=(zw λc n h=>(v.tp c n h).1).2;cases w with
  |some L=>
   let o:GV b p.1 k=M:=by ext GV;rw[q]
   rw[o];let(Z,J,j,rfl):=m;show#[_,eG W (eR (dX (kZ (aX (cz (bB W) (af aP) (bR e1))) (nM (aX (cz (c8 (bB W) (af aP) e2) (af aP) (bR A))))) (cJ (af aP)))),Z,J,j,W]
  |none=>
   let o:GV b p.1 k=(decide (pR p.1.ac p.1.oc=0)&& !(gr b (X++[k])).isEmpty):=by ext GV;rw[q]
   rw[o];let(f,F,l):=oh m;let d:(zI (aZ (i6 nO (aY "Hand" "waiting" (au 0)) (ag (pC .none)))) (zI (aZ (i6 lr (i9 (aY "Hand" "waiting" (au 0)) (ag (~~~2))) (ag (pC (.tuple [(.str "chord")]))))) (aZ (i6 lr (gC eE 1 (aj (aD "Hand" "stands" bH 1 (au 0) aL) aL)) (ag (~~~0)))))) [R (.rf 0),-(nd k)] U=.ok (!decide (pR p.1.ac p.1.oc=0)) f:=by
    let G:aZ (i6 lr (gC eE 1 (aj (aD "Hand" "stands" bH 1 (au 0) aL) aL)) (ag (~~~0))) [R (.rf 0),-(nd k)] U=.ok (!decide (pR p.1.ac p.1.oc=0)) f:=
     aX (cz (qp (aq (bL m (by rfl) W aB W F) aB) W (wz p.1)) (af aP) (bR (uJ _ _)))
    let(Z,J,j,rfl):=m;show kZ (aX (cz (bB W) (af aP) (bR e1))) (kZ (aX (cz (c8 (bB W) (af aP) e2) (af aP) (bR A))) G)
   by_cases z:pR p.1.ac p.1.oc=0
   .rw[a7 z]at d⊢
    let(Z,J,j,rfl):=l;let t:k∉X:=by rw[q]at V;show of_decide_eq_false V
    let r:(X++[k]).Nodup:=by rw[aa1];show#[v.nd,Y6.mpr #[Y0,abH],λx u y H e=>t (by simp_all)]
    let E:(X++[k]).length<=5:=yE r λx u=>by
     let K:=Y.n5;rcases Y3.mp u with h|h
     .let:=v.kn x h;ext
     .rw[Yh.mp h];ext
    show#[_,eG W (aJ (cC d cQ) (cJ (A2 Y #[Z,J,W] W E (cz (c8 (bB W) (af aP) e0) (af (sf (aE (ar W) bf) W (Yn W))) (bR (Az v.ne C)))))),Z,_,j,W]
   .rw[bg z]at d⊢;show#[f,eG W (eR (dX d (cJ (af aP)))),l]
end
section
variable{b:Bd}(Y:VB b){s:Stn}{sn:Sn}{Z:cc (Nat×Mn)}{J:aO}{ρ:bc}{i:Nat}{ω:aO}{p:Stn×Sn}{k:Nat}{a:Mn}{ks:cc Nat}{g:Int}{w:ck (Nat×Int)}
include Y
def Pr(v:WV b p.1.ac ks g w)(c:k∉ks)(l:(k:Int)<b.n):(ks++[k]).Nodup/\(ks++[k]).length<=5:=by
 let d:(ks++[k]).Nodup:=by rw[aa1];show#[v.nd,Y6.mpr #[Y0,abH],λx f y j e=>c (by simp_all)]
 show#[d,yE d λx f=>?_];let m:=Y.n5;rcases Y3.mp f with h|h
 .let:=v.kn x h;ext
 .rw[Yh.mp h];ext
def Gx(m:SW b p.1)(l:(k:Int)<b.n)(C:p.1.ac k=P)(B:HY p.1.wt k=M)(hm:GV b p.1 k=S):∃ks g,p.1.wt=R (ks,g,P)/\k∉ks/\WV b p.1.ac (ks++[k]) g P/\g<b.wt:=by
 unfold GV at hm;split at hm
 .rename_i ks g q
  rw[Ld]at hm;let(v,o):=m.wt ks g P q;let e:k∉ks:=by rw[q]at B;show of_decide_eq_false B
  let(j,z):=Pr Y v e l;show#[ks,g,q,e,#[by simp,j,λx d=>?_,λx d=>?_,v.g0,λc n h=>(by ext h),λ_ x d=>?_],o]
  .rcases Y3.mp d with h|h
   .show v.kn x h
   .rw[Yh.mp h];show l
  .rcases Y3.mp d with h|h
   .show v.kf x h
   .rw[Yh.mp h];show C
  .let f:=hm.2
   cases A:gr b (ks++[k])with
   |nil=>rw[A]at f;ext f
   |cons c r=>
    let t:c∈gr b (ks++[k]):=by rw[A];show X9
    let(y,u):=YF.mp t;let:=Y8.mp u x d;show(Y.vc c y).2.2.1 x (b3 this)
 .ext hm
def LI(u:HS b p ω)(j:SW b p.1)(f:p.1.wt=R (ks,g,P))(v:WV b p.1.ac (ks++[k]) g P)(h:WV b p.1.ac ks g P)(y:p.2.length<900):∃x,c9 [.rf 0,.fz (nd k)] ω=.ok (.fz .none) x/\HS b (xb b p k) x:=by
 let(Z,J,l,rfl):=u;let n:=v.len Y;let e0:aK (l6 p.1.wt) (.int 0)=-(.tuple (a8 ks)):=by rw[f];show iS
 let e1:aK (l6 p.1.wt) (.int 1)=-(.int g):=by rw[f];show i7
 let C:xb b p k=if(gr b (ks++[k])).map (·.1.length)=[(ks++[k]).length]then d8 b ({p.1 with wt:=R (ks++[k],g,P)},p.2)else({p.1 with wt:=R (ks++[k],g,P)},p.2):=by ext xb;rw[f]
 let t:HS b ({p.1 with wt:=R (ks++[k],g,P)},p.2) (eI b {p.1 with wt:=R (ks++[k],g,P)} p.2 Z J):=#[Z,J,l,W];let E:dj (dW 0) kI (ag (cF eU {am aK (aa 0) (~~~0)})) ((gr b (ks++[k])).map bA) [P] (eI b {p.1 with wt:=R (ks++[k],g,P)} p.2 Z (J++[.dead])) []=.ok ((a8 ((gr b (ks++[k])).map (·.1.length))).map .fz) (eI b {p.1 with wt:=R (ks++[k],g,P)} p.2 Z (J++[.dead])):=by
  show(oC bA (λc=>.fz (nd c.1.length)) _ (λρ=>∃o,ρ=[o]) (gr b (ks++[k])) _ [] #[P,W] ?_ ?_).trans (by ext a8;rw[YW,YW];rfl)
  .let:=ZF (λc:G Nat×Nat=>(ks++[k]).all λk=>decide (k∈c.1)) b.cs;let:=Y.c4;show 0+(gr b (ks++[k])).length<=_;ext gr;ext
  .rintro c _ ρ ⟨o,rfl⟩;let r:aK (bA c) (.int 0)=-(.tuple (a8 c.1)):=iS;show#[[-(bA c)],W,W,af (iJ (aE (bh (ar W) aP W W r) bf) W ((nN _).trans (by rw[ju]))),_,W]
 let B:i8 (gC bI 2 (aj (aY "Hand" "bed" (au 0)) (aj (ag (aa 2)) aL))) [R (.rf 0),-(nd k),-(.tuple (a8 (ks++[k])))] (eI b {p.1 with wt:=R (ks++[k],g,P)} p.2 Z J)=.ok ((gr b (ks++[k])).map bA) (eI b {p.1 with wt:=R (ks++[k],g,P)} p.2 Z (J++[.dead])):=
  (v5 (pO (aq (oP W) (aq (af (ar W)) aB)) W (zZ Y n)) aH).trans (by rw[ny];rfl)
 let rt:bV {cF eU {aa 2}} (bO [R (.rf 0),-(nd k),-(.tuple (a8 (ks++[k])))])=.ok (.ow (a8 [(ks++[k]).length]),bO [R (.rf 0),-(nd k),-(.tuple (a8 (ks++[k])))]):=by show uZ (aE (iJ (aE (ar W) bf) W ((nN _).trans (by rw[ju]))) bf) W (Yn W)
 let e:aZ (i6 bv (jF 1 [] (i8 (gC bI 2 (aj (aY "Hand" "bed" (au 0)) (aj (ag (aa 2)) aL)))) (dW 0) kI (ag (cF eU {am aK (aa 0) (~~~0)}))) (ag (bV {cF eU {aa 2}}))) [R (.rf 0),-(nd k),-(.tuple (a8 (ks++[k])))] (eI b {p.1 with wt:=R (ks++[k],g,P)} p.2 Z J)=.ok (decide ((gr b (ks++[k])).map (·.1.length)=[(ks++[k]).length])) (eI b {p.1 with wt:=R (ks++[k],g,P)} p.2 Z (J++[.dead])++[.lst ((a8 ((gr b (ks++[k])).map (·.1.length))).map .fz)]++[.lst ((a8 [(ks++[k]).length]).map .fz)]):=
  aX (cz (pZ B E) (dD rt) (vG (gB (gX aH)) (gB aH) (uI _ _)))
 let d:HS b ({p.1 with wt:=R (ks++[k],g,P)},p.2) (eI b {p.1 with wt:=R (ks++[k],g,P)} p.2 Z (J++[.dead])++[.lst ((a8 ((gr b (ks++[k])).map (·.1.length))).map .fz)]++[.lst ((a8 [(ks++[k]).length]).map .fz)]):=#[Z,_,l,W];generalize (eI b {p.1 with wt:=R (ks++[k],g,P)} p.2 Z (J++[.dead])++[.lst ((a8 ((gr b (ks++[k])).map (·.1.length))).map .fz)]++[.lst ((a8 [(ks++[k]).length]).map .fz)]:aO)=I at e d;rw[C];show jC W (j3 (cz (c8 (bB W) (af aP) e0) (af (sf (aE (ar W) bf) W (Yn W))) (bR (Az h.ne (h.len Y)))) W (Bg (l7 (R (ks++[k],g,P)) W (vd (aq (af (ar W)) (aq (c8 (bB W) (af aP) e1) (aq (af aP) aB))) (Yn W))) (xl e (λq=>?_) λq=>?_)))
 .rw[ax (b3 q)];let(m,A,z):=lG Y d #[j.sa.ac,j.sa.oc] W v y;show jt (bL d (by rfl) W aB W A) #[W,z]
 .rw[a6 (of_decide_eq_false q)];show lV #[W,d]
def Jr(d:SW b p.1)(f:p.1.wt=R (ks,g,P))(v:WV b p.1.ac (ks++[k]) g P)(h:g<b.wt):SW b (xb b p k).1:=by
 let j:xb b p k=if(gr b (ks++[k])).map (·.1.length)=[(ks++[k]).length]then d8 b ({p.1 with wt:=R (ks++[k],g,P)},p.2)else({p.1 with wt:=R (ks++[k],g,P)},p.2):=by ext xb;rw[f]
 rw[j];split
 .show(lj Y (p:=({p.1 with wt:=R (ks++[k],g,P)},p.2)) #[d.sa.ac,d.sa.oc] λ_ _ _ e=>by ext e;show v).1
 .show#[#[d.sa.ac,d.sa.oc],λ_ _ _ e=>by ext e;show#[v,h]]
omit Y in
theorem Ae(s:Stn)(m:Mn):(kA s m).ac=s.ac/\(kA s m).wt=s.wt:=by unfold kA;split<;>exact⟨rfl,rfl⟩
omit Y in
theorem zX{m:Mn}(h:SA b s):SA b (kA s m):=by
 unfold kA;split
 .exact h
 .exact⟨h.ac,λo e=>by cases e⟩
def OI(E:HS b p ω)(Q:SA b p.1)(hw:p.1.wt=CL)(T:(k:Int)<b.n)(V:p.2.length<900):∃D,fZ [.rf 0,.fz (nd k)] ω=.ok (.fz .none) D/\HS b (M8 b p k) D:=by
 let(P,O):=ER Y Q;let H:=Kc Y P O T;let(v,R):=Aw Y P O T;let(ω1,h1,K):=oh E;let h5:=Y.n5;let eb:M8 b p k=wm b (pR p.1.ac p.1.oc) (kA p.1 (look b (pR p.1.ac p.1.oc) k),p.2) k (look b (pR p.1.ac p.1.oc) k):=W;rw[eb];let S:gC eE 1 (aj (aD "Hand" "stands" bH 1 (au 0) aL) aL) [cL (.rf 0),-(nd k),CL,CL,CL] ω=.ok (.fz (.int (pR p.1.ac p.1.oc))) ω1:=qp (aq (bL E (by rfl) W aB W h1) aB) W (wz p.1);generalize pR p.1.ac p.1.oc=L at H v R S P O;generalize look b L k=m at H v R;let(Z,J,hp,rfl):=K;let lb:=v.lb;let c0:=wI m;let c1:=SF m;let c2:=QD m;let c3:=og m;let c4:=KY m;let eL:bv (.int L) (.int 0)=-(.bool (decide (L=0))):=jV _ _;let A:(av (bE (br (ai (am nQ (aa 4) (bT {pC (.str "layer"),pC (.str "once")})))) (dA "Hand" "once" (au 0) (ag (pC .none))) bC) bC) [cL (.rf 0),-(nd k),-(.int L),-(mD m),-(.str (wd m))] (eI b p.1 p.2 Z J)=.ok (.nx [cL (.rf 0),-(nd k),-(.int L),-(mD m),-(.str (wd m))]) (eI b (kA p.1 m) p.2 Z J):=by
  let t:br (ai (am nQ (aa 4) (bT {pC (.str "layer"),pC (.str "once")}))) [cL (.rf 0),-(nd k),-(.int L),-(mD m),-(.str (wd m))] (eI b p.1 p.2 Z J)=.ok (!(m.aeZ||m.isO)) (eI b p.1 p.2 Z J):=aN (by ext:0);ext kA;cases q:(m.aeZ||m.isO)with
  |true=>rw[q]at t;rw[ax W];show aJ (cC t cQ) cQ
  |false=>rw[q]at t;rw[a6 X7];show aJ (dX t (zU CL W (af aP))) cQ
 let U:=Ae p.1 m;let G:SA b (kA p.1 m):=zX Q;let j:Z.Perm (jk (kA p.1 m).ac):=by simp_all
 let e:HS b (kA p.1 m,p.2) (eI b (kA p.1 m) p.2 Z J):=#[Z,J,j,W];generalize kA p.1 m=s2 at A U G j e;let N:GoS ((bE (br (ai (am bv (aa 4) (pC (.str "tap"))))) (dA "Hand" "waiting" (au 0) (ag (bT {bT {aa 1},~~~0,aa 3}))) (bE (mV (br (ai (am bv (aa 4) (pC (.str "letter"))))) (mV (br (ai (am bv (aa 2) (~~~0)))) (aZ (i6 lr (gC bI 2 (aj (aY "Hand" "bed" (au 0)) (aj (ag (bT {aa 1})) aL))) (ag (bV ah)))))) (dA "Hand" "waiting" (au 0) (ag (bT {bT {aa 1},~~~0,pC (.tuple [(.str "chord")])}))) (bE (br (ai (am bv (aa 4) (pC (.str "once"))))) (av (bS (aD "Hand" "come" bp 3 (au 0) (aj (ag (aa 1)) (aj (ag (pC (.tuple [(.str "none")]))) aL))))
 (dA "Hand" "once" (au 0) (ag (am aK (aa 3) (~~~1))))) (bS (aD "Hand" "come" bp 3 (au 0) (aj (ag (aa 1)) (aj (ag (aa 3)) aL))))))) [cL (.rf 0),-(nd k),-(.int L),-(mD m),-(.str (wd m))] (eI b s2 p.2 Z J)) (λ_ D=>SV.fz .none=.fz .none/\HS b (wm b L (s2,p.2) k m) D) (λ_ _=>False) (λr D=>r=.fz .none/\HS b (wm b L (s2,p.2) k m) D):=by
  let z:∀{ω:aO},br (ai (am bv (aa 4) (pC (.str "tap")))) [cL (.rf 0),-(nd k),-(.int L),-(mD m),-(.str (wd m))] ω=.ok m.isT ω:=aN (by ext:0);let C:∀{ω:aO},br (ai (am bv (aa 4) (pC (.str "letter")))) [cL (.rf 0),-(nd k),-(.int L),-(mD m),-(.str (wd m))] ω=.ok m.isL ω:=aN (by ext:0);let B:∀{ω:aO},br (ai (am bv (aa 4) (pC (.str "once")))) [cL (.rf 0),-(nd k),-(.int L),-(mD m),-(.str (wd m))] ω=.ok m.isO ω:=aN (by ext:0);let F:∀{ω:aO},br (ai (am bv (aa 2) (~~~0))) [cL (.rf 0),-(nd k),-(.int L),-(mD m),-(.str (wd m))] ω=.ok (decide (L=0)) ω:=aN (by ext:0);let kt:∀{ω:aO},ag (bT {aa 1}) [cL (.rf 0),-(nd k),-(.int L),-(mD m),-(.str (wd m))] ω=.ok (.fz (.tuple (a8 [k]))) ω:=af (sf (aE (ar W) bf) W (Yn W));let cm:∀{ω:aO},HS b (s2,p.2) ω->VA b.ls.length m->∃D,bS (aD "Hand" "come" bp 3 (au 0) (aj (ag (aa 1)) (aj (ag (aa 3)) aL))) [cL (.rf 0),-(nd k),-(.int L),-(mD m),-(.str (wd m))] ω=.ok (.nx [cL (.rf 0),-(nd k),-(.int L),-(mD m),-(.str (wd m))]) D/\HS b (ia (s2,p.2) k m) D:=λ{ω} E va=>by let(D,u,l):=pW (k:=k) E (G.ak Y) va.lb () (show p.2.length<1000 by ext);show#[D,je (bL E (by rfl) W (aq (af (ar W)) (aq (af (ar W)) aB)) W u),l]
  cases m with
  |below=>simp_all
  |tap c n=>show qK z (nK (l7 (cL ([k],0,cL (c,n))) W (af (ρ':=bO [cL (.rf 0),-(nd k),-(.int L),-(mD (.tap c n)),-(.str (wd (.tap c n)))]) ?_)) #[W,Z,J,j,W]);rfl
  |YG c=>
   obtain⟨d1,d2⟩:VA b.ls.length (.YG c)/\True:=#[v,trivial];by_cases M:L=0
   .rw[a7 M]at F
    let ov:=A2 Y (ω1:=eI b s2 p.2 Z J) #[Z,J,W] W (Yn W) kt;let I:HS b (s2,p.2) (eI b s2 p.2 Z J++[.lst (((gr b [k]).map bA).map .fz)]++[.lst []]):=#[Z,_,j,W];let y:wm b L (s2,p.2) k (.YG c)=if(!(gr b [k]).isEmpty)=XX then({s2 with wt:=cL ([k],0,CL)},p.2)else ia (s2,p.2) k (.YG c):=by show(if(decide (L=0)&& !(gr b [k]).isEmpty)=XX then _ else _)=_;rw[a7 M,abW]
    rw[y];show eC z (xl (jP C (jP F (aX ov))) (λq=>?_) λq=>?_)
    .rw[ax q];show nK (l7 (cL ([k],0,CL)) W (af (ρ':=bO [cL (.rf 0),-(nd k),-(.int L),-(mD (.YG c)),-(.str (wd (.YG c)))]) ?_)) #[W,Z,_,j,W];rfl
    .rw[a6 (by rw[q];simp)];let(D,u,l):=cm I v;show eC B (nK u #[W,l])
   .rw[bg M]at F
    let y:wm b L (s2,p.2) k (.YG c)=ia (s2,p.2) k (.YG c):=by show(if(decide (L=0)&& !(gr b [k]).isEmpty)=XX then _ else _)=_;simp_all
    rw[y];let(D,u,l):=cm e v;show eC z (eC (jP C (iI F)) (eC B (nK u #[W,l])))
  |aat n=>let(D,u,l):=cm e v;show eC z (eC (iI C) (eC B (nK u #[W,l])))
  |none=>let(D,u,l):=cm e trivial;show eC z (eC (iI C) (eC B (nK u #[W,l])))
  |once n=>let(D,u,l):=pW (k:=k) (a:=.none) e (G.ak Y) trivial () (show p.2.length<1000 by ext);let i1:aK (mD (.once n)) (.int 1)=-(.int n):=i7;let(X,J2,hq,rfl):=l;show eC z (eC (iI C) (qK B (Bg (je (bL e (by rfl) W (aq (af (ar W)) (aq (af aP) aB)) W u)) (nK (zU (cL n) W (af (ρ':=bO [cL (.rf 0),-(nd k),-(.int L),-(mD (.once n)),-(.str (wd (.once n)))]) ?_)) #[W,X,J2,hq,W]))));rfl
 show jC (ρ:=[cL (.rf 0),-(nd k),CL,CL,CL]) W (j3 S W (j3 (qp (ds:=[bD b,.int L,nd k]) (aq (oP W) (aq (af (ar W)) (aq (af (ar W)) aB))) W H) W (j3 (af (d:=.str (wd m)) (ρ':=bO [cL (.rf 0),-(nd k),-(.int L),-(mD m),CL]) (bh (rv:=.fz (.str (wd m))) (ar W) aP W W c0)) W ?_)));show .eq ?_ N;let tw:∀{f g:fK} {ρ:bc} {ω D:aO},av f bC ρ ω=.ok (.nx ρ) D->av f g ρ ω=g ρ D:=λ{f g ρ ω D} h=>by
  unfold av at h⊢;cases q:f ρ ω with
  |bad=>rw[q]at h;ext h
  |er x o=>rw[q]at h;ext h
  |ok fl o=>
   rw[q]at h;cases fl with
   |nx r=>ext h;rfl
   |_=>ext h
 show tw A
end
section
variable{b:Bd}(Z:VB b){s:Stn}{sn:Sn}{Y:cc (Nat×Mn)}{J:aO}{U:bc}{i:Nat}{ω:aO}{p:Stn×Sn}{k:Nat}{a:Mn}{X:cc Nat}{g:Int}{w:ck (Nat×Int)}
include Z
omit Z in
theorem Bm(h:SA b s)(d:s.wt=CL):SW b s:=⟨h,λ_ _ _ e=>by rw[d]at e;cases e⟩
def Q8(v:SA b p.1)(H:p.1.wt=CL)(B:(k:Int)<b.n)(D:p.1.ac k=CL):SW b (M8 b p k).1:=by
 let(E,C):=ER Z v;let(d,y):=Aw Z E C B;let K:M8 b p k=wm b (pR p.1.ac p.1.oc) (kA p.1 (look b (pR p.1.ac p.1.oc) k),p.2) k (look b (pR p.1.ac p.1.oc) k):=W;rw[K];generalize pR p.1.ac p.1.oc=L at d y E C;generalize look b L k=m at d y;let u:=Ae p.1 m;let f:SA b (kA p.1 m):=zX v;let j:=u.2.trans H;let t:(kA p.1 m).ac k=CL:=by rw[u.1];show D
 generalize kA p.1 m=s2 at f j t;let P:=Z.w1;let z:[k].Nodup:=Y6.mpr #[Y0,abH];let A:∀x∈[k],(x:Int)<b.n:=λx l=>by simp_all
 let kf:∀x∈[k],s2.ac x=CL:=λx l=>by simp_all
 let cm:∀m,VA b.ls.length m->SW b (ia (s2,p.2) k m).1:=λm F=>Bm (f.cm B F) j;cases m with
 |below=>simp_all
 |tap c n=>show#[#[f.ac,f.oc],λ_ _ _ e=>?_];ext e;show#[#[by simp,z,A,kf,aa5 _,λO G e=>by ext e;show#[d.1,d.2,W],λe=>by ext e],by ext]
 |YG c=>
  show SW b (if(decide (L=0)&& !(gr b [k]).isEmpty)=S then({s2 with wt:=R ([k],0,CL)},p.2)else ia (s2,p.2) k (.YG c)).1;split
  .rename_i q
   show#[#[f.ac,f.oc],λ_ _ _ e=>?_];ext e;show#[#[by simp,z,A,kf,aa5 _,λO G e=>(by ext e),λ_ x l=>?_],by ext];let Q:=(Ld _ _▸q:_/\_).2;cases qo:gr b [k]with
   |nil=>simp_all
   |cons c r=>
    let I:c∈gr b [k]:=by simp_all
    let(N,M):=YF.mp I;show(Z.vc c N).2.2.1 x (b3 (Y8.mp M x l))
  .show cm _ d
 |aat n=>show cm _ d
 |none=>show cm _ trivial
 |once n=>let h:=cm .none trivial;show#[#[h.sa.ac,λo e=>by ext e;show d],λX g w e=>by let e:s2.wt=R (X,g,w):=e;simp_all]
theorem SW.wd(h:SW b s):WD b s:=λX g w e=>(h.wt X g w e).1
omit Z in
theorem zh(d:cc (Nat×Mn)):∀{p:Stn×Sn},p.1.ac k=CL->k∉d.map (·.1)->(mx p d).1.ac k=CL:=by
 induction d with
 |nil=>exact λh _=>h
 |cons q r e=>intro p h hn;rw[Yi,Yg,not_or]at hn;exact e (p:=ia p q.1 q.2) ((hV hn.1).trans h) hn.2
omit Z in
theorem yf(ha:p.1.ac k=CL)(hn:HY p.1.wt k=XZ):(d8 b p).1.ac k=CL:=by
 unfold d8;split
 .exact ha
 .rename_i X g w q;refine zh _ (p:=({p.1 with wt:=CL},p.2)) ha λz=>?_;rw[q]at hn;obtain⟨x,d,rfl⟩:=Yy.mp z;exact of_decide_eq_false hn (aaE d).1
def E9(e:SW b p.1)(f:(k:Int)<b.n):SW b (nX b p k).1:=by
 ext nX;split
 .show e
 .rename_i q
  rw[Zf,not_or]at q;let l:p.1.ac k=P:=by simp_all
  let j:HY p.1.wt k=M:=by simp_all
  split
  .rename_i h;let(X,g,e1,e2,e3,e4):=Gx Z e f l j h;show Jr Z e e1 e3 e4
  .let d:=lj Z e.sa (SW.wd Z e);show Q8 Z d.1.sa d.2.1 f (yf l j)
def Fe(l:HS b p ω)(j:SW b p.1)(z:(k:Int)<b.n)(M:p.2.length<800):∃c,ix [.rf 0,.fz (nd k)] ω=.ok (.fz .none) c/\HS b (nX b p k) c:=by
 let N:=Z.n5;let y:k<5:=by ext
 let L:zI (aZ (sN XZ (ag (aa 1)) (aY "Hand" "acts" (au 0)))) (aZ (aD "Hand" "is_waiting" b5 2 (au 0) (aj (ag (aa 1)) aL))) [R (.rf 0),-(nd k)] ω=.ok ((p.1.ac k).isSome||HY p.1.wt k) ω:=by
  let H:=bL (ρ:=[R (.rf 0),-(nd k)]) (i:=0) (m:= "is_waiting") (fa:=aj (ag (aa 1)) aL) l (by rfl) W (aq (af (ar W)) aB) W (GA l);let(Y,J,v,rfl):=l
  let d1:sN XZ (ag (aa 1)) (aY "Hand" "acts" (au 0)) [R (.rf 0),-(nd k)] (eI b p.1 p.2 Y J)=.ok (.fz (.bool (p.1.ac k).isSome)) (eI b p.1 p.2 Y J):=
   (zm (af (ar W)) (ic W) W W).trans (by rw[show kz (Y.map kM) (.inl (k:Int))=_ from nc v y];simp_all)
  cases q:(p.1.ac k).isSome with
  |true=>rw[q]at d1;rw[abm];show nM (aX d1)
  |false=>rw[q]at d1;rw[abV];show kZ (aX d1) (aX H)
 show jC W (wG L (λq=>?_) λq=>nY ?_)
 .ext nX;rw[ax q];show uH #[W,l]
 rw[aeF]at q;let Q:p.1.ac k=P:=by simp_all
 let K:nX b p k=if GV b p.1 k=S then xb b p k else M8 b (d8 b p) k:=by ext nX;simp_all
 rw[K];let(t,G,h):=Ph Z l j z q.2;show wG (aX (bL l (by rfl) W (aq (af (ar W)) aB) W G)) (λo=>?_) λo=>nY ?_
 .rw[ax o];let(X,g,e1,e2,e3,e4):=Gx Z j z Q q.2 o;let(e,A,f):=LI Z h j e1 e3 (j.wt _ _ _ e1).1 ();show OT (lQ (bL h (by rfl) W (aq (af (ar W)) aB) W A) (uH #[W,f]))
 .rw[a6 (by rw[o];simp)]
  let d:=lj Z j.sa (SW.wd Z j);let C:∀e,HS b (d8 b p) e->GoS (bS (aD "Hand" "begin" fZ 2 (au 0) (aj (ag (aa 1)) aL)) [R (.rf 0),-(nd k)] e) (λ_ c=>SV.fz .none=.fz .none/\HS b (M8 b (d8 b p) k) c) (λ_ _=>False) (λr c=>r=.fz .none/\HS b (M8 b (d8 b p) k) c):=λe f=>by let(E,I,u):=OI Z f d.1.sa d.2.1 z ();show jt (bL f (by rfl) W (aq (af (ar W)) aB) W I) #[W,u]
  cases n:p.1.wt with
  |none=>
   let O:d8 b p=p:=by ext d8;rw[n]
   let e1:lf (l6 p.1.wt) .none=-(.bool XZ):=by rw[n];rfl
   let B:=C t (by simp_all);let(Y,J,v,rfl):=h;show qh (aX (cz (bB W) (af aP) (bR e1))) (nY B)
  |some x=>
   let(X,g,w):=x;let e1:lf (l6 p.1.wt) .none=-(.bool S):=by rw[n];rfl
   let(e,A,f):=lG Z h j.sa n (j.wt _ _ _ n).1 ();let F:=bL (ρ:=[R (.rf 0),-(nd k)]) (i:=0) (m:= "decide") h (by rfl) W aB W A;let(Y,J,v,rfl):=h;show u8 (aX (cz (bB W) (af aP) (bR e1))) (lQ F (C e f))
def uc(e:SW b p.1)(f:HY p.1.wt k=S):SW b (cx b p k).1/\(cx b p k).2.length<=p.2.length+5:=by
 ext cx;split
 .let d:=lj Z e.sa (SW.wd Z e);simp_all
 .rename_i X g c n q
  let v:=(e.wt _ _ _ q).1;rw[q]at f;let h:=v.kn k (b3 f);let j:=(v.tp c n W).1;show#[Bm (SA.cm #[e.sa.ac,e.sa.oc] h j) W,?_];let:=se (p:=({p.1 with wt:=P},p.2)) (k:=k) (a:=.YG c)
  grind
 simp_all
def gD(l:HS b p ω)(f:SW b p.1)(j:HY p.1.wt k=S)(F:p.2.length<800):∃D,gL [.rf 0,.fz (nd k)] ω=.ok (.fz .none) D/\HS b (cx b p k) D:=by
 let H:=Z.n5;cases q:p.1.wt with
 |none=>rw[q]at j;ext j
 |some x=>
  let(X,g,w):=x;let v:=(f.wt _ _ _ q).1;let r:k∈X:=by rw[q]at j;show b3 j
  let e2:aK (l6 p.1.wt) (.int 2)=-(v2 w):=by rw[q];show pE
  let C:=(zw λc n h=>(v.tp c n h).1).1;let u:∀{ω:aO},br (ai (am bv (aa 2) (pC (.tuple [.str "chord"])))) [R (.rf 0),-(nd k),-(v2 w)] ω=.ok w.isNone ω:=aN (ie (bh (ar W) aP W W C) W);cases w with
  |none=>
   let es:cx b p k=d8 b p:=by ext cx;rw[q]
   rw[es];let(o,t,d):=lG Z l f.sa q v ();let z:=bL (ρ:=[R (.rf 0),-(nd k),-(v2 P)]) (i:=0) (m:= "decide") l (by left) W aB W t;let(Y,J,y,rfl):=l;show jC W (j3 (c8 (bB W) (af aP) e2) W (qK u (jt z #[W,d])))
  |some E=>
   let(c,n):=E;let es:cx b p k=ia ({p.1 with wt:=P},p.2) k (.YG c):=by ext cx;rw[q]
   rw[es];let B:=(v.tp c n W).1;let G:=v.kn k r;let(Y,J,y,rfl):=l;let e:HS b ({p.1 with wt:=P},p.2) (eI b {p.1 with wt:=P} p.2 Y J):=#[Y,J,y,W];let(o,t,d):=pW (k:=k) (a:=.YG c) e (SA.ak Z #[f.sa.ac,f.sa.oc]) B () (show p.2.length<1000 by ext);let A:aK (v2 (R (c,n))) (.int 1)=-(.str (mw c)):=i7;show jC W (j3 (c8 (bB W) (af aP) e2) W (eC u (Bg (l7 P W (af aP)) (jt (bL e (by left) W (aq (af (ar W)) (aq (af (sf (aE aP (aE (bh (ar W) aP W W A) bf)) W (Yn W))) aB)) W t) #[W,d]))))
omit Z in
theorem Mo(d:SW b p.1):SW b (go p k).1:=by
 refine⟨d.sa.gg,?_⟩;unfold go;split
 .intro X g w e;obtain⟨v,h⟩:=d.wt X g w e;exact⟨⟨v.ne,v.nd,v.kn,λx f=>by
   by_cases z:x=k
   .rw[z];exact fq
   .exact(hV z).trans (v.kf x f),v.g0,v.tp,v.ch⟩,h⟩
 .exact d.wt
def LU(d:SW b p.1):SW b (BM b p k).1:=by
 ext BM;split
 .rename_i q;show Mo (uc Z d q).1
 .show Mo d
def Kb(d:HS b p ω)(f:SW b p.1)(E:(k:Int)<b.n)(y:p.2.length<700):∃c,jr [.rf 0,.fz (nd k)] ω=.ok (.fz .none) c/\HS b (BM b p k) c:=by
 let F:=Z.n5;let h:k<5:=by ext
 let e:∀{p:Stn×Sn} {ω:aO},HS b p ω->SW b p.1->p.2.length<800->GoS (bE (aZ (sN M (ag (aa 1)) (aY "Hand" "acts" (au 0)))) (bS (aD "Hand" "go" jH 2 (au 0) (aj (ag (aa 1)) aL))) bC [R (.rf 0),-(nd k)] ω) (λ_ c=>SV.fz .none=.fz .none/\HS b (go p k) c) (λ_ _=>False) (λr c=>r=.fz .none/\HS b (go p k) c):=λ{p ω} d f y=>by
  cases n:p.1.ac k with
  |none=>
   let C:go p k=p:=by ext go;rw[n]
   rw[C];let(Y,J,j,rfl):=d;show eC (aX ((zm (af (ar W)) (ic W) W W).trans (by rw[show kz (Y.map kM) (.inl (k:Int))=_ from nc j h,n];rfl))) (lV #[W,Y,J,j,W])
  |some a=>let(t,A,l):=Ua d (f.sa.ak Z) n ();let v:=bL (ρ:=[R (.rf 0),-(nd k)]) (i:=0) (m:= "go") (fa:=aj (ag (aa 1)) aL) d (by rfl) W (aq (af (ar W)) aB) W A;let(Y,J,j,rfl):=d;show qK (aX ((zm (af (ar W)) (ic W) W W).trans (by rw[show kz (Y.map kM) (.inl (k:Int))=_ from nc j h,n];rfl))) (jt v #[W,l])
 show jC W (wG (aX (bL d (by rfl) W (aq (af (ar W)) aB) W (GA d))) (λq=>?_) λq=>?_)
 .ext BM;rw[ax q];let(u,B,o):=gD Z d f q ();let z:=uc Z f q;show lQ (bL d (by rfl) W (aq (af (ar W)) aB) W B) (e o z.1 ())
 .ext BM;rw[a6 (by rw[q];simp)];show nY (e d f ())
def IX(d:SW b p.1):SW b (ph b p).1:=by
 ext ph;split
 .show d
 .rename_i X g w q
  let(v,j):=d.wt X g w q;let f:WV b p.1.ac X (g+1) w:=#[v.ne,v.nd,v.kn,v.kf,by let:=v.g0;ext,v.tp,v.ch];split
  .show(lj Z (p:=({p.1 with wt:=R (X,g+1,w)},p.2)) #[d.sa.ac,d.sa.oc] λ_ _ _ e=>by simp_all).1
  .rename_i h;show#[#[d.sa.ac,d.sa.oc],λ_ _ _ e=>by ext e;show#[f,by ext]]
def KO(n:HS b p ω)(e:SW b p.1)(r:p.2.length<800):∃c,gh [.rf 0] ω=.ok (.fz .none) c/\HS b (ph b p) c:=by
 let(Y,J,j,rfl):=n;cases q:p.1.wt with
 |none=>
  let h:ph b p=p:=by ext ph;rw[q]
  rw[h];let e1:nO (l6 p.1.wt) .none=-(.bool S):=by rw[q];rfl
  show jC W (u8 (aX (cz (bB W) (af aP) (bR e1))) (uH #[W,Y,J,j,W]))
 |some x=>
  let(X,g,w):=x;let v:=(e.wt _ _ _ q).1;let m:WV b p.1.ac X (g+1) w:=#[v.ne,v.nd,v.kn,v.kf,by let:=v.g0;ext,v.tp,v.ch];let h:ph b p=if g+1=b.wt then d8 b ({p.1 with wt:=R (X,g+1,w)},p.2)else({p.1 with wt:=R (X,g+1,w)},p.2):=by ext ph;rw[q]
  rw[h];let e1:nO (l6 p.1.wt) .none=-(.bool M):=by rw[q];rfl
  let e0:aK (l6 p.1.wt) (.int 0)=-(.tuple (a8 X)):=by rw[q];show iS
  let e2:aK (l6 p.1.wt) (.int 2)=-(v2 w):=by rw[q];show pE
  let e3:aK (l6 p.1.wt) (.int 1)=-(.int g):=by rw[q];show i7
  let e4:aK (bD b) (.int 3)=-(.int b.wt):=RY W;let d:HS b ({p.1 with wt:=R (X,g+1,w)},p.2) (eI b {p.1 with wt:=R (X,g+1,w)} p.2 Y J):=#[Y,J,j,W];show jC W (qh (aX (cz (bB W) (af aP) (bR e1))) (nY (j3 (cz (c8 (bB W) (af aP) e3) (af aP) (bR (uE _ _))) W (Bg (l7 (R (X,g+1,w)) W (vd (aq (c8 (bB W) (af aP) e0) (aq (af (ar W)) (aq (c8 (bB W) (af aP) e2) aB))) (Yn W))) (xl (aX (cz (af (ar W)) (c8 (oP W) (af aP) e4) (bR (jV _ _)))) (λz=>?_) λz=>?_)))))
  .rw[ax (b3 z)];let(l,o,f):=lG Z d #[e.sa.ac,e.sa.oc] W m (show p.2.length<900 by ext);show jt (bL d (by rfl) W aB W o) #[W,f]
  .rw[a6 (of_decide_eq_false z)];show lV #[W,d]
def Evn.afx:Evn->Bool
 |.turn=>S
 |_=>M
def Evn.isDown:Evn->Bool
 |.down _=>S
 |_=>M
def EV(b:Bd):Evn->Prop
 |.down k=>(k:Int)<b.n
 |.up k=>(k:Int)<b.n
 |.turn=>True
def JW(d:SW b s)(f:EV b e):SW b (bZ b s e).1:=by
 cases e with
 |down k=>show E9 Z d f
 |up k=>show LU Z d
 |turn=>show IX Z d
omit Z in
theorem uh:∀l:cc (Nat×Mn),aF qA (l.map pD)=cL (l.map kM)
 |[]=>rfl
 |q::r=>by rw[Yi];unfold aF;rw[uh r];rfl
omit Z in
theorem wV:∀(l acc:cc (Nat×Mn)),((acc++l).map (·.1)).Nodup->mU (acc.map kM) (l.map kM)=(acc++l).map kM
 |[],acc,_=>by rw[YK];rfl
 |q::r,acc,h=>by
  have hn:∀x∈acc,x.1≠q.1:=λx d e=>by rw[YH,aa1]at h;exact h.2.2 _ (Yy.mpr ⟨x,d,rfl⟩) q.1 X9 e
  have e1:kE (acc.map kM) (kM q).1 (kM q).2=(acc++[q]).map kM:=by
   unfold kE;rw[a6 ?_,YH]
   .rfl
   .intro z;obtain⟨n,m,j⟩:=acx.mp z;obtain⟨x,f,rfl⟩:=Yy.mp m;have:=Sum.inl.inj (b3 j);exact hn x f (by ext)
  show mU (kE (acc.map kM) (kM q).1 (kM q).2) (r.map kM)=_;rw[e1,wV r (acc++[q]) (by rw[YR];exact h),YR];rfl
omit Z in
theorem vi:dZ [.rf 0,.fz (bD b),.fz (gw s)] [.obj "Hand" []]=.ok (.fz .none) (eI b s [] (jk s.ac) []):=by
 have e0:aK (gw s) (.int 0)=-(.tuple ((jk s.ac).map pD)):=iS;have e1:aK (gw s) (.int 1)=-(l6 s.wt):=i7;have e2:aK (gw s) (.int 2)=-(xV s.oc):=pE;have v:cX "bed" (.fz (bD b)) []=([("bed",.fz (bD b))]:cc (Str×SV)):=rfl;have q:cX "acts" (.rf 1) ([("bed",.fz (bD b))]:cc (Str×SV))=([("bed",.fz (bD b)),("acts",.rf 1)]:cc (Str×SV)):=by unfold cX;rw[a6 (by left)];rfl
 have o:cX "waiting" (.fz (l6 s.wt)) ([("bed",.fz (bD b)),("acts",.rf 1)]:cc (Str×SV))=([("bed",.fz (bD b)),("acts",.rf 1),("waiting",.fz (l6 s.wt))]:cc (Str×SV)):=by unfold cX;rw[a6 (by left)];unfold cX;rw[a6 (by left)];rfl
 have n:cX "once" (.fz (xV s.oc)) ([("bed",.fz (bD b)),("acts",.rf 1),("waiting",.fz (l6 s.wt))]:cc (Str×SV))=([("bed",.fz (bD b)),("acts",.rf 1),("waiting",.fz (l6 s.wt)),("once",.fz (xV s.oc))]:cc (Str×SV)):=by unfold cX;rw[a6 (by left)];unfold cX;rw[a6 (by left)];unfold cX;rw[a6 (by left)];rfl
 have m:cX "sent" (.rf 2) ([("bed",.fz (bD b)),("acts",.rf 1),("waiting",.fz (l6 s.wt)),("once",.fz (xV s.oc))]:cc (Str×SV))=J4 b s:=by unfold cX;rw[a6 (by left)];unfold cX;rw[a6 (by left)];unfold cX;rw[a6 (by left)];unfold cX;rw[a6 (by left)];rfl
 have r:mU [] ((jk s.ac).map kM)=(jk s.ac).map kM:=wV (jk s.ac) [] (rF s.ac);have j:∀{x:SV} {U:bc} {fs:cc (Str×SV)} {ω:aO} {l:ez} {f:Str} {c:Cell} {e:aO},U[0]?=cL (cL (.rf 0))->l U ω=.ok x (.obj "Hand" fs::e)->fs.length<100->dA "Hand" f (au 0) l U ω=.ok (.nx U) (.obj "Hand" (cX f x fs)::e):=λh u t=>(di u (aA h) rfl t).trans rfl
 have ha:tI (ag (am aK (aa 2) (~~~0))) [cL (.rf 0),-(bD b),-(gw s)] [.obj "Hand" ([("bed",.fz (bD b))]:cc (Str×SV))]=.ok (.rf 1) [.obj "Hand" ([("bed",.fz (bD b))]:cc (Str×SV)),.dct ((jk s.ac).map kM)]:=
  (JN (af (d:=.tuple ((jk s.ac).map pD)) (bh (rv:=.fz (.tuple ((jk s.ac).map pD))) (ar rfl) aP rfl rfl e0)) (uh _)).trans (by rw[r];rfl)
 refine ji (ρ:=[cL (.rf 0),-(bD b),-(gw s)]) (ρ1:=[cL (.rf 0),-(bD b),-(gw s)]) rfl (aJ (j rfl (c:=.dead) (af (d:=bD b) (ar rfl)) (Yn rfl)) (aJ (j rfl (c:=.dead) ha (Yn rfl)) (aJ (j rfl (c:=.dead) (af (d:=l6 s.wt) (bh (rv:=.fz (l6 s.wt)) (ar rfl) aP rfl rfl e1)) (Yn rfl)) (aJ (j rfl (c:=.dead) (af (d:=xV s.oc) (bh (rv:=.fz (xV s.oc)) (ar rfl) aP rfl rfl e2)) (Yn rfl)) ?_))));rw[q,o,n];refine(j (fs:=([("bed",.fz (bD b)),("acts",.rf 1),("waiting",.fz (l6 s.wt)),("once",.fz (xV s.oc))]:cc (Str×SV))) rfl (c:=.dead) (dD (ds:=[]) (uZ bf rfl (Zj _))) (Yn rfl)).trans ?_;show RS.ok _ (Cell.obj "Hand" (cX "sent" (.rf 2) ([("bed",.fz (bD b)),("acts",.rf 1),("waiting",.fz (l6 s.wt)),("once",.fz (xV s.oc))]:cc (Str×SV)))::_)=_;rw[m];rfl
omit Z in
theorem L8(e:Evn):∃x:Str,aK (mZ e) (.int 0)=-(.str x)/\bv (.str x) (.str "turn")=-(.bool (e.afx))/\bv (.str x) (.str "down")=-(.bool (e.isDown)):=by
 have f:X2.strOk "down"=XX:=by left
 have h:X2.strOk "up"=XX:=by left
 have d:X2.strOk "turn"=XX:=by left
 cases e with
 |down k=>exact⟨"down",iS,AI f d (by left),Nt f⟩
 |up k=>exact⟨"up",iS,AI h d (by left),AI h f (by left)⟩
 |turn=>exact⟨"turn",iS,Nt d,AI d f (by left)⟩
def Kt(o:SW b s)(v:EV b e):∃c,rJ [.fz (bD b),.fz (gw s),.fz (mZ e)] []=.ok (.tp [.rf 2,.fz (gw (bZ b s e).1)]) c/\sh c (.rf 2)=R (.list ((bZ b s e).2.map xS)):=by
 let f:HS b (s,[]) (eI b s [] (jk s.ac) []):=#[jk s.ac,[],.refl _,W];let(x,t,z,y):=L8 e;let n:∀{ω:aO},br (ai (am bv (am aK (aa 2) (~~~0)) (pC (.str "turn")))) [-(bD b),-(gw s),-(mZ e),R (.rf 0)] ω=.ok (e.afx) ω:=aN (ie (bh (bh (ar W) aP W W t) aP W W z) W);let u:∀{ω:aO},br (ai (am bv (am aK (aa 2) (~~~0)) (pC (.str "down")))) [-(bD b),-(gw s),-(mZ e),R (.rf 0)] ω=.ok (e.isDown) ω:=aN (ie (bh (bh (ar W) aP W W t) aP W W y) W);let l:∀{ω:aO},HS b (bZ b s e) ω->GoS (eK (nI (aj (aY "Hand" "sent" (au 3)) (aj (aD "Hand" "stands" bH 1 (au 3) aL) aL))) [-(bD b),-(gw s),-(mZ e),R (.rf 0)] ω) (λ_ c=>SV.fz .none=.tp [.rf 2,.fz (gw (bZ b s e).1)]/\sh c (.rf 2)=R (.list ((bZ b s e).2.map xS))) (λ_ _=>False) (λr c=>r=.tp [.rf 2,.fz (gw (bZ b s e).1)]/\sh c (.rf 2)=R (.list ((bZ b s e).2.map xS))):=λ{ω} I=>by let(h,j,d):=oh I;let m:=bL (ρ:=[-(bD b),-(gw s),-(mZ e),R (.rf 0)]) (i:=3) (m:= "stands") I (by rfl) W aB W j;let(Y,J,E,rfl):=I;let(B,F,C,rfl):=d;show P2 (Ug (aq (vn W) (aq m aB)) (Yn W) W W) #[W,gB W]
 let A:iR "Hand" dZ 3 (aj (ag (aa 0)) (aj (ag (aa 1)) aL)) [-(bD b),-(gw s),-(mZ e),P] []=.ok (.rf 0) (eI b s [] (jk s.ac) []):=qN (aq (af (ar W)) (aq (af (ar W)) aB)) W vi;show jC W (j3 A W ?_);cases e with
 |turn=>let(h,j,d):=KO Z f o (show 0<800 by decide);show u8 n (lQ (bL f (by rfl) W aB W j) (l d))
 |down k=>let(h,j,d):=Fe Z f o v (show 0<800 by decide);let q:aK (mZ (.down k)) (.int 1)=-(nd k):=i7;show qh n (u8 u (lQ (bL f (by rfl) W (aq (af (bh (ar W) aP W W q)) aB) W j) (l d)))
 |up k=>let(h,j,d):=Kb Z f o v (show 0<700 by decide);let q:aK (mZ (.up k)) (.int 1)=-(nd k):=i7;show qh n (qh u (lQ (bL f (by rfl) W (aq (af (bh (ar W) aP W W q)) aB) W j) (l d)))
def TH{e:Evn}(f:SW b s)(j:EV b e):ul rJ 3 [.fz (bD b),.fz (gw s),.fz (mZ e)] ω=.ok (.tp [.rf ω.length,.fz (gw (bZ b s e).1)]) (ω++[.lst (((bZ b s e).2.map xS).map .fz)]):=by
 let(d,m,l):=Kt Z f j;ext ul;rw[ax (show([.fz (bD b),.fz (gw s),.fz (mZ e)]:G SV).length=3 from rfl),show aF wc [.fz (bD b),.fz (gw s),.fz (mZ e)]=R [bD b,gw s,mZ e]from rfl];dsimp only;rw[show[bD b,gw s,mZ e].map SV.fz=[.fz (bD b),.fz (gw s),.fz (mZ e)]from rfl,m];show(match Di d ω.length [.rf 2,.fz (gw (bZ b s e).1)]with
  |some (n,cs,o)=>if o.Nodup then RS.ok (SV.tp n) (ω++cs.map UV)else .bad
  |none=>.bad)=_
 let h:Di d ω.length [.rf 2,.fz (gw (bZ b s e).1)]=R ([.rf ω.length,.fz (gw (bZ b s e).1)],[(bZ b s e).2.map xS],[2]):=by ext Di;rw[l];rfl
 rw[h];dsimp only;rw[ax ()];rfl
end
section
variable{b:Bd}(X:VB b){s:Stn}{p:Stn×Sn}{k:Nat}{a:Mn}
include X
end
def dY(b:Bd):Stn->G Evn->Stn×G Sn
 |s,[]=>(s,[])
 |s,e::r=>((dY b (bZ b s e).1 r).1,(bZ b s e).2::(dY b (bZ b s e).1 r).2)
theorem sG(b:Bd):∀(xs a:G Evn) (s:Stn),dY b s (xs++a)=((dY b (dY b s xs).1 a).1,(dY b s xs).2++(dY b (dY b s xs).1 a).2)
 |[],_,_=>rfl
 |e::r,a,s=>by show((dY b (bZ b s e).1 (r++a)).1,_::(dY b (bZ b s e).1 (r++a)).2)=_;rw[sG b r a];rfl
theorem zJ{b:Bd}(a:VB b):∀(xs:G Evn) {s:Stn},SW b s->(∀e∈xs,EV b e)->SW b (dY b s xs).1
 |[],_,h,_=>h
 |e::r,s,h,he=>zJ a r (JW a h (he e X9)) λx d=>he x (Ya _ d)
end STP
namespace K91
open PySem L2 L3 STP
def jv:FS:=(aR (Dl (ai (am uR (aa 1) (cF eU {aa 0}))) (am aK (aa 0) (aa 1)) (~~~0)))
def g8:FN:=bP 2 jv
def jo:FS:=(aM (cV (am rM (am eY (am cH (am rM (aa 0) (~~~1000033)) (aa 1)) (am cH (aa 1) (~~~521))) (~~~1000033)) (gN 3))
 (aM (cV (am rM (am cH (am cH (am eY (aa 3) (aa 3)) (am tj (aa 0) (~~~1000033))) (am eY (~~~7) (aa 1))) (~~~999983)) (gN 3))
 (aR (am rM (am tj (aa 3) (~~~3)) (aa 2)))))
def bN:FN:=bP 4 jo
def eJ:FS:=(aM (cV (am cH (aa 1) (aW bN 3 {aa 0,~~~233,~~~2})) (gN 2))
 (aM (eZ (ai (am bv (aW bN 3 {aa 0,~~~239,~~~2}) (~~~0))) (aR (bT {~~~1,aa 2})) aV)
 (aR (bT {aa 2,~~~1}))))
def iE:FN:=bP 3 eJ
def jg:FS:=(aR (am aK (bV {am c7 (cF gv {aa 1}) (pC (.str ".0")),am c7 (pC (.str "0.")) (cF gv {aa 1})}) (cF uF {am bv (am aK (aa 0) (~~~0)) (~~~1)})))
def gY:FN:=bP 2 jg
def gk:FS:=(aM (eZ (ai (am bv (am aK (aa 0) (~~~0)) (~~~1))) (aR (cF gv {cF L10.Au {bz 1 [] (eO (aa 1)) (gN 0) bW (am Jb (~~~1) (aa 0))}})) aV)
 (aR (tU gy (pC (.str ",")) {bz 1 [1] (jy kL {am aK (aa 0) (~~~0)}) (gN 0) bW (cF gv {cF uF {am kJ (aa 0) (aa 1)}})})))
def cj:FN:=bP 2 gk
def ku:FS:=(aR (bz 1 [1,2] (jy kL {aa 0}) (gN 0) (ai (am bv (aW bN 3 {am cH (aa 1) (am eY (~~~41) (aa 0)),aa 2,~~~2}) (~~~0))) (aa 0)))
def iU:FN:=bP 3 ku
def fP:FS:=(aM (eZ (ai (aa 3)) (aR (bz 1 [1,2] (jy kL {aa 0}) (gN 0) (ai (am bv (am mE (am vM (am tj (aa 1) (~~~64)) (am cH (am eY (~~~6) (aa 2)) (aa 0))) (~~~1)) (~~~1))) (aa 0))) aV)
 (aR (aW iU 3 {aa 0,am cH (aa 1) (am eY (~~~3) (aa 2)),am cH (~~~241) (aa 2)})))
def jj:FN:=bP 4 fP
def eS:FS:=(aM (cV (bV ah) (gN 6))
 (aM (ma (jy kL {aa 1}) (gN 7) (aM (cV (aW jj 4 {aa 0,aa 4,aa 7,aa 5}) (gN 8))
 (aM (cV (bz 1 [3] (eO (aa 2)) (gN 0) (ai (am kJ (aa 0) (aa 1))) (aa 0)) (gN 9))
 (kF (wo 6 (bz 1 [9,8,2,3] (jy kL {aa 0}) (gN 0) (pQ (ai (am kJ (aa 0) (aa 1))) (jK (ai (am kJ (aa 0) (aa 2))) (pQ (ai (am kJ (aa 0) (aa 3))) (ai (am kJ (aa 0) (aa 4)))))) (aa 0)))))))
 (aR (am cH (aa 6) (am eY (bV {aa 3}) (am cH (~~~1) (aW bN 3 {aa 4,~~~251,~~~2})))))))
def gn:FN:=bP 10 eS
def iP:FS:=(aM (cV (bz 1 [2,1] (jy kL {aa 0}) (gN 0) (jK (ai (am kJ (aa 0) (aa 1))) (ai (am nQ (aa 0) (aa 2)))) (am c7 (pC (.str "+")) (am i9 (pC (.str "abcde")) (aa 0)))) (gN 3))
 (aR (cF L10.oV {am cH (aa 3) (bz 1 [1,2] (jy kL {aa 0}) (gN 0) (jK (ai (am kJ (aa 0) (aa 1))) (ai (am nQ (aa 0) (aa 2)))) (am c7 (pC (.str "-")) (am i9 (pC (.str "abcde")) (aa 0))))})))
def iO:FN:=bP 4 iP
def im:FS:=(aM (eZ (pQ (jG (ai (IA "str" (aa 0)))) (ai (am bv (aa 0) (pC (.str ""))))) (aR (bV {pC (.str "bad")})) aV)
 (aM (eZ (ai (am bv (aa 0) (pC (.str ".")))) (aR (bV ah)) aV)
 (aR (bz 1 [0] (jy Jl {~~~0,cF wy {aa 0},~~~2}) (gN 0) bW (tN jA (aa 1) (eB (aa 0)) (eB (am cH (aa 0) (~~~2))))))))
def eT:FN:=bP 1 im
def jq:FS:=(aR (C3 (dB qX uR (~~~0) (am aK (aa 2) (~~~0)) (aa 0)) (dB qX uR (~~~0) (am aK (aa 2) (~~~1)) (aa 1))))
def kQ:FN:=bP 3 jq
def kx:FS:=(aM (eZ (pQ (jG (ai (dB qX qX (~~~1) (aa 0) (~~~6)))) (jG (ai (dB qX qX (~~~1) (aa 1) (~~~6))))) ff aV)
 (aM (eZ (jG (ai (dB qX qX (~~~1) (cF eU {aa 2}) (~~~12)))) ff aV)
 (aM (ma (L3.nu {aa 2}) (gT 2 (vh (gN 3) (vh (gN 4) Fc))) (eZ (pQ (jG (ai (aW kQ 3 {aa 0,aa 1,aa 4}))) (ai (am kJ (aa 4) (tN Df (aa 2) iX (eB (aa 3)))))) ff aV))
 (aR (bT {aa 0,aa 1,cF mJ {aa 2}})))))
def cg:FN:=bP 5 kx
def gI:FS:=(aM (eZ (pQ (jG (ai (dB qX qX (~~~1) (cF wy {aa 0}) (~~~2)))) (jG (ai (cF sU {bz 1 [] (zz (aa 0)) (gN 0) bW (am Vl (aa 0) (pC (.str "0123456789")))})))) (aR (pC .none)) aV)
 (aM (eZ (jK (ai (am bv (cF wy {aa 0}) (~~~2))) (ai (am bv (am i9 (aa 0) (~~~0)) (pC (.str "0"))))) (aR (pC .none)) aV)
 (aR (cF Ib {aa 0}))))
def bJ:FN:=bP 1 gI
def jY:FS:=(aM (eZ (ai (am kJ (pC .none) (aa 0))) (aR (pC .none)) aV)
 (aR (cF mJ {aa 0})))
def cW:FN:=bP 1 jY
def fT:FS:=(aM (eZ (pQ (ai (am lr (cF eU {aa 0}) (~~~4))) (pQ (ai (am lr (am aK (aa 0) (~~~0)) (pC (.str "keys")))) (ai (am lr (am aK (aa 0) (~~~2)) (pC (.str "wait")))))) (aR (pC .none)) aV)
 (aR (aW cW 1 {bV {aW bJ 1 {am aK (aa 0) (~~~1)},aW bJ 1 {am aK (aa 0) (~~~3)}}})))
def iQ:FN:=bP 1 fT
def jf:FS:=(aR (C3 (am bv (cF wy {aa 0}) (~~~1)) (dB UZ UZ (pC (.str "a")) (aa 0) (pC (.str "z")))))
def dH:FN:=bP 1 jf
def gb:FS:=(aM (eZ (ai (am bv (aa 0) (pC (.str ".")))) (aR (bT {pC (.str "none")})) aV)
 (aM (eZ (ai (am bv (aa 0) (pC (.str "_")))) (aR (bT {pC (.str "below")})) aV)
 (aM (eZ (ai (aW dH 1 {aa 0})) (aR (bT {pC (.str "letter"),aa 0})) aV)
 (aM (eZ (ai (tU l9 (aa 0) {pC (.str "~")})) (aR (aW cW 1 {bV {pC (.str "once"),aW bJ 1 {tN jA (aa 0) (eB (~~~1)) iX}}})) aV)
 (aM (eZ (ai (tU l9 (aa 0) {pC (.str ">")})) (aR (aW cW 1 {bV {pC (.str "layer"),aW bJ 1 {tN jA (aa 0) (eB (~~~1)) iX}}})) aV)
 (aM (eZ (jK (ai (aW dH 1 {tN jA (aa 0) iX (eB (~~~1))})) (ai (am bv (tN jA (aa 0) (eB (~~~1)) (eB (~~~2))) (pC (.str ">"))))) (aR (aW cW 1 {bV {pC (.str "tap"),am i9 (aa 0) (~~~0),aW bJ 1 {tN jA (aa 0) (eB (~~~2)) iX}}})) aV)
 (aR (pC .none))))))))
def i4:FN:=bP 1 gb
def iq:FS:=(aM (eZ (pQ (ai (am uR (cF eU {aa 0}) (~~~2))) (ai (am lr (am aK (aa 0) (~~~0)) (pC (.str "layer"))))) (aR (pC .none)) aV)
 (aR (aW cW 1 {bz 1 [] (eO (tN Df (aa 0) (eB (~~~1)) iX)) (gN 0) bW (aW i4 1 {aa 0})})))
def kh:FN:=bP 1 iq
def gS:FS:=(aR (aW cW 1 {bz 1 [] (eO (tU jZ (aa 0) {aa 1})) (gN 0) bW (aW bJ 1 {aa 0})}))
def fu:FN:=bP 2 gS
def iG:FS:=(aM (eZ (pQ (ai (am lr (cF eU {aa 0}) (~~~3))) (pQ (ai (am lr (am aK (aa 0) (~~~0)) (pC (.str "chord")))) (jG (ai (aW dH 1 {am aK (aa 0) (~~~2)}))))) (aR (pC .none)) aV)
 (aM (cV (aW fu 2 {am aK (aa 0) (~~~1),pC (.str "+")}) (gN 1))
 (aM (eZ (ai (am nO (aa 1) (pC .none))) (aR (pC .none)) aV)
 (aR (bT {aa 1,am aK (aa 0) (~~~2)})))))
def j9:FN:=bP 2 iG
def fL:FS:=(aM (eZ (pQ (jG (ai (dB qX qX (~~~1) (am aK (aa 0) (~~~0)) (~~~5)))) (jG (ai (dB qX qX (~~~1) (cF eU {am aK (aa 0) (~~~1)}) (~~~3))))) ff aV)
 (eZ (pQ (ai (am VY (cF eU {am aK (aa 0) (~~~2)}) (~~~4))) (jG (ai (dB qX qX (~~~1) (am aK (aa 0) (~~~3)) (~~~4))))) ff aV))
def hU:FN:=bP 1 fL
def ka:FS:=(aM (cV (am aK (aa 0) (~~~0)) (gN 3))
 (aM (eZ (ai (am bv (aa 3) (pC (.str "below")))) (aR (am lr (aa 1) (~~~0))) aV)
 (aM (eZ (jK (ai (am kJ (aa 3) (bT {pC (.str "letter"),pC (.str "tap")}))) (jG (ai (aW dH 1 {am aK (aa 0) (~~~1)})))) (aR (pC (.bool M))) aV)
 (aM (eZ (ai (am kJ (aa 3) (bT {pC (.str "layer"),pC (.str "tap"),pC (.str "once")}))) (aR (dB qX uR (~~~1) (am aK (aa 0) (P8 Cv (~~~1))) (aa 2))) aV)
 (aR (pC (.bool S)))))))
def mW:FN:=bP 4 ka
def gR:FS:=(aM (cV (am aK (am aK (aa 0) (~~~1)) (aa 1)) (gN 2))
 (aM (eZ (ai (am lr (cF eU {aa 2}) (am aK (aa 0) (~~~0)))) ff aV)
 (ma (L3.nu {aa 2}) (gT 2 (vh (gN 3) (vh (gN 4) Fc))) (eZ (jG (ai (aW mW 3 {aa 4,aa 1,cF eU {am aK (aa 0) (~~~1)}}))) ff aV))))
def jw:FN:=bP 5 gR
def pV:FS:=(aR (cF sU {bz 2 [] (zv {aa 0,tN Df (aa 0) (eB (~~~1)) iX}) (gT 2 (vh (gN 0) (vh (gN 1) Fc))) bW (am uR (aa 0) (aa 1))}))
def vI:FN:=bP 1 pV
def fR:FS:=(aM (eZ (pQ (ai (am uR (cF eU {aa 1}) (~~~2))) (jG (ai (aW vI 1 {aa 1})))) (aR (pC (.bool M))) aV)
 (aR (cF sU {bz 1 [0] (eO (aa 1)) (gN 0) bW (C3 (dB qX uR (~~~0) (aa 0) (am aK (aa 1) (~~~0))) (am bv (am aK (am aK (am aK (am aK (aa 1) (~~~1)) (~~~0)) (aa 0)) (~~~0)) (pC (.str "letter"))))})))
def iV:FN:=bP 2 fR
def gJ:FS:=(aM (cV (am aK (am aK (am aK (aa 0) (~~~2)) (aa 1)) (~~~0)) (gN 2))
 (aM (eZ (pQ (jG (ai (aW dH 1 {am aK (am aK (am aK (aa 0) (~~~2)) (aa 1)) (~~~1)}))) (jG (ai (aW iV 2 {aa 0,aa 2})))) ff aV)
 (eZ (ai (am kJ (aa 2) (bz 1 [] (eO (tN Df (am aK (aa 0) (~~~2)) iX (eB (aa 1)))) (gN 0) bW (am aK (aa 0) (~~~0))))) ff aV)))
def jB:FN:=bP 3 gJ
def lH:FS:=(aM (kF (aW hU 1 {aa 0}))
 (aM (ma (jy kL {cF eU {am aK (aa 0) (~~~1)}}) (gN 1) (kF (aW jw 2 {aa 0,aa 1})))
 (aM (ma (jy kL {cF eU {am aK (aa 0) (~~~2)}}) (gN 2) (kF (aW jB 2 {aa 0,aa 2})))
 (aR (aa 0)))))
def oj:FN:=bP 3 lH
def kl:FS:=(aM (cV (tU jZ (aa 0) {pC (.str "\n")}) (gN 1))
 (aM (cV (aW iQ 1 {tU jZ (am aK (aa 1) (~~~0)) {pC (.str " ")}}) (gN 2))
 (aM (eZ (ai (am nO (aa 2) (pC .none))) ff aV)
 (aM (cV (bV ah) (gN 3))
 (aM (cV (bV ah) (gN 4))
 (aM (ma (yq {tN Df (aa 1) (eB (~~~1)) iX}) (gT 2 (vh (gN 5) (vh (gN 6) Fc))) (aM (cV (tU jZ (aa 6) {pC (.str " ")}) (gN 7))
 (aM (cV (aW kh 1 {aa 7}) (gN 8))
 (aM (cV (aW j9 1 {aa 7}) (gN 9))
 (eZ (jK (ai (am lf (aa 8) (pC .none))) (ai (am bv (aa 4) (bV ah)))) (kF (wo 3 (aa 8))) (eZ (ai (am lf (aa 9) (pC .none))) (kF (wo 4 (aa 9))) ff))))))
 (aR (aW oj 1 {bT {am aK (aa 2) (~~~0),cF mJ {aa 3},cF mJ {aa 4},am aK (aa 2) (~~~1)}}))))))))
def dQ:FN:=bP 10 kl
def jd:FS:=(aM (cV (aW fu 2 {aa 0,pC (.str ".")}) (gN 1))
 (aM (eZ (pQ (ai (am nO (aa 1) (pC .none))) (ai (am lr (cF eU {aa 1}) (~~~2)))) (aR (pC .none)) aV)
 (aR (aa 1))))
def kY:FN:=bP 2 jd
def iH:FS:=(aM (cV (bz 1 [] (eO (tN Df (aa 0) iX (eB (~~~3)))) (gN 0) bW (aW bJ 1 {aa 0})) (gN 1))
 (aR (aW cW 1 {am cH (aa 1) (bV {aW cW 1 {bz 1 [] (eO (tU jZ (am aK (aa 0) (~~~3)) {pC (.str ",")})) (gN 0) bW (aW kY 1 {aa 0})}})})))
def j5:FN:=bP 2 iH
def fY:FS:=(aM (eZ (pQ (ai (am bv (aa 0) (pC (.str "")))) (jG (ai (cF sU {bz 1 [] (eO (aa 0)) (gN 0) bW (aW dH 1 {aa 0})})))) (aR (pC .none)) aV)
 (aR (aa 0)))
def iK:FN:=bP 1 fY
def iy:FS:=(aM (cV (am aK (aa 0) (~~~0)) (gN 1))
 (aM (cV (cF eU {aa 0}) (gN 2))
 (aM (eZ (jK (ai (am kJ (aa 1) (bT {pC (.str "keys"),pC (.str "turn"),pC (.str "states")}))) (ai (am bv (aa 2) (~~~1)))) (aR (bT ah)) aV)
 (aM (eZ (jK (ai (am bv (aa 1) (pC (.str "frame")))) (ai (am bv (aa 2) (~~~5)))) (aR (aW j5 1 {tN Df (aa 0) (eB (~~~1)) iX})) aV)
 (aM (eZ (jK (ai (am kJ (aa 1) (bT {pC (.str "scan"),pC (.str "seen")}))) (ai (am bv (aa 2) (~~~2)))) (aR (aW fu 2 {am aK (aa 0) (~~~1),pC (.str ",")})) aV)
 (aM (eZ (jK (ai (am kJ (aa 1) (bT {pC (.str "down"),pC (.str "up")}))) (ai (am bv (aa 2) (~~~2)))) (aR (aW bJ 1 {am aK (aa 0) (~~~1)})) aV)
 (aM (eZ (jK (ai (am bv (aa 1) (pC (.str "word")))) (ai (am bv (aa 2) (~~~2)))) (aR (aW iK 1 {am aK (aa 0) (~~~1)})) aV)
 (aR (pC .none)))))))))
def kg:FN:=bP 3 iy
def kr:FS:=(aM (eZ (ai (tU l9 (aa 0) {pC (.str "bed\n")})) (aR (bT {pC (.str "bed"),tN jA (aa 0) (eB (cF wy {pC (.str "bed\n")})) iX})) aV)
 (aM (cV (tU jZ (aa 0) {pC (.str " ")}) (gN 1))
 (aM (cV (aW kg 1 {aa 1}) (gN 2))
 (aM (eZ (ai (am nO (aa 2) (pC .none))) ff aV)
 (aR (bT {am aK (aa 1) (~~~0),aa 2}))))))
def bQ:FN:=bP 3 kr
def gc:FS:=(aR (am bv (am mE (am vM (aa 0) (aa 1)) (~~~1)) (~~~1)))
def iT:FN:=bP 2 gc
def nR:FS:=(aM (ma (eO (aa 1)) (gN 2) (eZ (ai (am lr (am mE (aa 2) (aa 0)) (~~~0))) (cV (am LC (aa 0) (aa 2)) (gN 0)) aV))
 (aR (aa 0)))
def nr:FN:=bP 3 nR
def nz:FS:=(aM (cV (bz 1 [0] (eO (aa 0)) (gN 0) bW (aW nr 2 {aa 0,aa 1})) (gN 1))
 (aM (yT (ai (am lr (aa 1) (aa 0))) (aM (cV (aa 1) (gN 0))
 (cV (bz 1 [0] (eO (aa 0)) (gN 0) bW (aW nr 2 {aa 0,aa 1})) (gN 1))))
 (aR (aa 0))))
def sD:FN:=bP 2 nz
def pM:FS:=(aM (cV (am eY (bV {~~~0}) (am aK (aa 0) (~~~0))) (gN 2))
 (aM (ma (eO (aa 1)) (gN 3) (aM (cV (am aK (am aK (aa 0) (~~~2)) (aa 3)) (gN 4))
 (cV (am LC (am aK (aa 2) (am aK (aa 4) (~~~0))) (am Jb (~~~1) (am aK (aa 4) (~~~1)))) (UH 2 (am aK (aa 4) (~~~0))))))
 (aR (cF mJ {aW sD 1 {aa 2}}))))
def pP:FN:=bP 5 pM
def jp:FS:=(aM (eZ (ai (am lr (cF eU {aa 1}) (am aK (aa 0) (~~~0)))) ff aV)
 (aM (cV (cF mJ {bz 2 [1] (L3.nu {am aK (aa 0) (~~~2)}) (gT 2 (vh (gN 0) (vh (gN 1) Fc))) (ai (aW iT 2 {am aK (aa 2) (am aK (aa 1) (~~~0)),am aK (aa 1) (~~~1)})) (aa 0)}) (gN 2))
 (aM (eZ (ai (am lr (aW pP 2 {aa 0,aa 2}) (aa 1))) ff aV)
 (aR (aa 2)))))
def lz:FN:=bP 3 jp
def lI:FS:=(aR (cF mJ {bz 1 [1] (eO (aa 0)) (gN 0) (ai (am lr (aa 0) (aa 1))) (aa 0)}))
def ox:FN:=bP 2 lI
def lS:FS:=(aM (eZ (ai (am nQ (aa 3) (aa 2))) (aR (pC (.str "up"))) aV)
 (aM (eZ (ai (am bv (aW pP 2 {aa 0,aW ox 2 {aa 2,aa 3}}) (aa 1))) (aR (pC (.str "unsure"))) aV)
 (aR (pC (.str "sure")))))
def om:FN:=bP 4 lS
def u0:FS:=(aM (cV (aW lz 2 {aa 0,aa 1}) (gN 2))
 (aR (cF mJ {bz 1 [0,1,2] (jy kL {cF eU {am aK (aa 0) (~~~2)}}) (gN 0) bW (aW om 4 {aa 1,aa 2,aa 3,aa 0})})))
def kT:FN:=bP 3 u0
def ij:FS:=(aR (IV (tU gy (pC (.str "")) {bz 2 [] (eO (aa 0)) (gT 2 (vh (gN 0) (vh (gN 1) Fc))) bW (am c7 (Dl (ai (am bv (aa 1) (pC (.str "down")))) (pC (.str "+")) (pC (.str "-"))) (aa 0))}) (pC (.str "."))))
def cN:FN:=bP 1 ij
def iz:FS:=(aR (IV (tU gy (pC (.str ",")) {bz 1 [] (eO (aa 0)) (gN 0) bW (cF gv {aa 0})}) (pC (.str "."))))
def dJ:FN:=bP 1 iz
end K91
namespace K91
open PySem L2 L3 L10 STP
def cT:fK:=(av (dA "OneKey" "bound" (au 0) (ag (aa 1)))
 (av (dA "OneKey" "last" (au 0) (ag (~~~0)))
 (av (dA "OneKey" "turns" (au 0) (ag (~~~0)))
 (dA "OneKey" "free_from" (au 0) (ag (~~~0))))))
def bq:hG:=cZ 2 cT
def fx:fK:=(av (b6 (aY "OneKey" "turns" (au 0)) (dW 2))
 (av (dA "OneKey" "turns" (au 0) (ag (am cH (aa 2) (~~~1))))
 (av (bE (zI (aZ (i6 bv (ag (aa 1)) (aY "OneKey" "last" (au 0)))) (aZ (i6 uR (ag (aa 2)) (aY "OneKey" "free_from" (au 0))))) (eK (ag (pC .none))) bC)
 (av (dA "OneKey" "last" (au 0) (ag (aa 1)))
 (av (dA "OneKey" "free_from" (au 0) (i6 cH (ag (aa 2)) (aY "OneKey" "bound" (au 0))))
 (eK (ag (am aK (pC (.tuple [(.str "up"),(.str "down")])) (aa 1)))))))))
def fC:hG:=cZ 3 fx
def cP:fK:=(av (dA "Teller" "frame" (au 0) (ag (aa 1)))
 (dA "Teller" "each_key" (au 0) (jF 1 [2] (jO (eO (am aK (aa 1) (~~~2)))) (dW 0) kI (iR "OneKey" bq 2 (aj (ag (aa 1)) aL)))))
def b0:hG:=cZ 3 cP
def cK:fK:=(av (b6 (i9 (aY "Teller" "each_key" (au 0)) (ag (aa 1))) (dW 3))
 (av (bE (br (ai (am bv (aa 2) (pC (.str "unsure"))))) (eK (aD "OneKey" "tell" fC 2 (au 3) (aj (aY "OneKey" "last" (au 3)) aL))) bC)
 (eK (aD "OneKey" "tell" fC 2 (au 3) (aj (ag (Dl (ai (am bv (aa 2) (pC (.str "sure")))) (~~~1) (~~~0))) aL)))))
def eh:hG:=cZ 4 cK
def fw:fK:=(av (b6 (gC kT 2 (aj (aY "Teller" "frame" (au 0)) (aj (ag (aa 1)) aL))) (dW 2))
 (av (b6 (ag (bV ah)) (dW 3))
 (av (qB (jO (L3.nu {aa 2})) (Ia 2 (mf (dW 4) (mf (dW 5) v4))) (av (b6 (aD "Teller" "tell_one" eh 3 (au 0) (aj (ag (aa 4)) (aj (ag (aa 5)) aL))) (dW 6))
 (bE (br (ai (am lf (aa 6) (pC .none)))) (bS (uX (au 3) (ag (bT {aa 6,aa 4})))) bC)))
 (eK (au 3)))))
def fy:hG:=cZ 7 fw
def fD:fK:=(eK (Gr mJ (aj (rX 2 [] (aY "Teller" "each_key" (au 0)) (Ia 2 (mf (dW 0) (mf (dW 1) v4))) (aZ (i6 bv (aY "OneKey" "last" (au 1)) (ag (~~~1)))) (ag (aa 0))) aL)))
def gP:hG:=cZ 1 fD
def dS:fK:=(av (dA "Desk" "teller" (au 0) (iR "Teller" b0 3 (aj (ag (aW cg 3 {~~~1,~~~1,bV {bT {~~~0,~~~0}}})) (aj (ag (~~~0)) aL))))
 (av (dA "Desk" "bed" (au 0) (ag (aW dQ 1 {pC (.str "keys 1 wait 1\nlayer a")})))
 (dA "Desk" "standing" (au 0) (ag (pC (.tuple [(.tuple []),.none,.none]))))))
def fG:hG:=cZ 1 dS
def cA:fK:=(av (b6 (ag (bV ah)) (dW 2))
 (av (qB (i8 (au 1)) (dW 3) (av (b6 (wB STP.rJ 3 (aj (aY "Desk" "bed" (au 0)) (aj (aY "Desk" "standing" (au 0)) (aj (ag (aa 3)) aL)))) (dW 4))
 (av (bS (BJ (au 2) (i9 (au 4) (ag (~~~0)))))
 (dA "Desk" "standing" (au 0) (i9 (au 4) (ag (~~~1)))))))
 (eK (gC cN 1 (aj (au 2) aL)))))
def cB:hG:=cZ 5 cA
def cS:fK:=(av (dA "Desk" "teller" (au 0) (iR "Teller" b0 3 (aj (ag (aW cg 3 {am aK (aa 1) (~~~0),am aK (aa 1) (~~~1),cF ou {am aK (aa 1) (~~~3)}})) (aj (ag (am aK (aa 1) (~~~2))) aL))))
 (av (dA "Desk" "standing" (au 0) (ag (pC (.tuple [(.tuple []),.none,.none]))))
 (eK (ag (pC (.str "ok"))))))
def et:hG:=cZ 2 cS
def dU:fK:=(av (dA "Desk" "bed" (au 0) (ag (aW dQ 1 {aa 1})))
 (av (dA "Desk" "standing" (au 0) (ag (pC (.tuple [(.tuple []),.none,.none]))))
 (eK (ag (pC (.str "ok"))))))
def fH:hG:=cZ 2 dU
def dG:fK:=(av (b6 (aD "Teller" "scan" fy 2 (aY "Desk" "teller" (au 0)) (aj (ag (aa 1)) aL)) (dW 2))
 (eK (aD "Desk" "run_through" cB 2 (au 0) (aj (i6 cH (jF 1 [0] (i8 (au 2)) (dW 0) (aZ (i6 uR (ag (am aK (aa 0) (~~~1))) (i9 (aY "Desk" "bed" (au 1)) (ag (~~~0))))) (ag (aa 0))) (ag (bV {pC (.tuple [(.str "turn"),(.int 0)])}))) aL))))
def eP:hG:=cZ 3 dG
def eD:fK:=(av (b6 (ag (aW bQ 1 {aa 1})) (dW 2))
 (av (b6 (ag (am aK (aa 2) (~~~0))) (dW 3))
 (av (b6 (ag (am aK (aa 2) (~~~1))) (dW 4))
 (av (bE (br (ai (am bv (aa 3) (pC (.str "frame"))))) (eK (aD "Desk" "take_frame" et 2 (au 0) (aj (ag (aa 4)) aL))) bC)
 (av (bE (br (ai (am bv (aa 3) (pC (.str "bed"))))) (eK (aD "Desk" "take_bed" fH 2 (au 0) (aj (ag (aa 4)) aL))) bC)
 (av (bE (br (ai (am bv (aa 3) (pC (.str "scan"))))) (eK (aD "Desk" "take_scan" eP 2 (au 0) (aj (ag (aa 4)) aL))) bC)
 (av (bE (br (ai (am kJ (aa 3) (bT {pC (.str "down"),pC (.str "up")})))) zr bC)
 (av (bE (br (ai (am bv (aa 3) (pC (.str "turn"))))) zr bC)
 (av (bE (br (ai (am bv (aa 3) (pC (.str "keys"))))) (eK (gC dJ 1 (aj (aD "Teller" "down" gP 1 (aY "Desk" "teller" (au 0)) aL) aL))) bC)
 (av (bE (br (ai (am bv (aa 3) (pC (.str "seen"))))) zr bC)
 (av (bE (br (ai (am bv (aa 3) (pC (.str "states"))))) zr bC)
 zr)))))))))))
def cy:hG:=cZ 5 eD
def iL:fK:=(av (b6 (ag (bV ah)) (dW 5))
 (av (qB (jO (eO (aa 3))) (dW 6) (bS (BJ (au 5) (gC eT 1 (aj (aD "Desk" "say" cy 2 (au 0) (aj (ag (am c7 (pC (.str "scan ")) (aW cj 2 {aa 2,aa 6}))) aL)) aL)))))
 (av (bE (aZ (i6 lr (Gr oV (aj (au 5) aL)) (au 4))) (eK (ag (pC (.bool M)))) bC)
 (av (b6 (ag (tU gy (pC (.str ",")) {bz 1 [] (eO (am aK (aa 3) (P8 Cv (~~~1)))) (gN 0) bW (cF gv {aa 0})})) (dW 7))
 (eK (i6 bv (aD "Desk" "say" cy 2 (au 0) (aj (ag (pC (.str "keys"))) aL)) (ag (am aK (bV {aa 7,pC (.str ".")}) (cF uF {am bv (aa 7) (pC (.str ""))})))))))))
def gG:hG:=cZ 8 iL
def xJ:fK:=(av (b6 (ag (aW g8 2 {aa 0,~~~0})) (dW 1))
 (av (b6 (ag (am cH (~~~1) (aW bN 3 {aa 1,~~~269,~~~5}))) (dW 2))
 (av (b6 (ag (aW iE 2 {aa 1,aa 2})) (dW 3))
 (av (b6 (ag (cF t8 {aa 3})) (dW 4))
 (av (b6 (ag (aW bN 3 {aW g8 2 {aa 0,~~~1},~~~257,~~~3})) (dW 5))
 (av (b6 (iR "Desk" fG 1 aL) (dW 6))
 (av (b6 (ag (am c7 (pC (.str "layer ")) (tU gy (pC (.str " ")) {bz 1 [] (jy kL {aa 2}) (gN 0) bW (am i9 (pC (.str "abcde")) (aa 0))}))) (dW 7))
 (av (bE (aZ (i6 lr (aD "Desk" "say" cy 2 (au 6) (aj (ag (am c7 (am c7 (am c7 (am c7 (am c7 (pC (.str "bed\nkeys ")) (cF gv {aa 2})) (pC (.str " wait "))) (cF gv {am cH (~~~1) (aW bN 3 {aa 1,~~~23,~~~4})})) (pC (.str "\n"))) (aa 7))) aL)) (ag (pC (.str "ok"))))) (eK (ag (pC (.bool M)))) bC)
 (av (b6 (ag (tU gy (pC (.str ",")) {bz 1 [3] (jy kL {aa 4}) (gN 0) bW (aW gY 2 {aa 1,aa 0})})) (dW 8))
 (av (bE (aZ (i6 lr (aD "Desk" "say" cy 2 (au 6) (aj (ag (tU gy (pC (.str " ")) {bV (ae (pC (.str "frame")) {cF gv {am aK (aa 3) (~~~0)},cF gv {am aK (aa 3) (~~~1)},cF gv {aa 5},aa 8})})) aL)) (ag (pC (.str "ok"))))) (eK (ag (pC (.bool M)))) bC)
 (av (b6 (mh (ag (bV ah))) (dW 9))
 (av (qB (jO (eO (tN Df (aa 0) (eB (~~~2)) (eB (am rq (~~~63) (am eY (~~~11) (cF uF {am bv (aa 5) (~~~2)}))))))) (dW 1) (av (b6 (ag (yP (dB qX uR (~~~0) (aa 1) (am B3 (~~~10) (~~~18))))) (dW 10))
 (av (b6 (mh (ag (aW iU 3 {aa 4,aa 1,~~~263}))) (dW 11))
 (av (bE (br (ai (aa 10))) (b6 (mh (ag (bz 1 [1] (jy kL {aa 4}) (gN 0) (ai (am bv (am mE (am vM (aa 1) (aa 0)) (~~~1)) (~~~1))) (aa 0)))) (dW 11)) bC)
 (av (b6 (mh (ag (aW gn 6 (ae (aa 4) (ae (aa 5) {aa 9,aa 11,aa 1,aa 10}))))) (dW 12))
 (av (bE (qY (aZ (tF gG 5 (aj (au 6) (aj (ag (aa 2)) (aj (ag (aa 3)) (aj (ag (aa 12)) (aj (ag (aW iO 3 {aa 2,aa 9,aa 11})) aL)))))))) (eK (ag (pC (.bool M)))) bC)
 (b6 (mh (ag (aa 11))) (dW 9))))))))
 (eK (ag (pC (.bool S))))))))))))))))
def F_law:hG:=cZ 13 xJ
def kf(b l t f:Int):G (Str×SV):=[("bound",.fz (.int b)),("last",.fz (.int l)),("turns",.fz (.int t)),("free_from",.fz (.int f))]
abbrev kC(b t:Int)(s:Int×Int):Cell:=.obj "OneKey" (kf b s.1 t s.2)
def kN(t:Int)(s:Int×Int)(r:Int):Bool:=decide (r=s.1)||decide (t<s.2)
def kS(b t:Int)(s:Int×Int)(r:Int):Int×Int:=if kN t s r=S then s else(r,t+b)
def tw(r:Int):Str:=if r=1 then "down" else "up"
def RZ(t:Int)(s:Int×Int)(r:Int):D:=if kN t s r=S then .none else .str (tw r)
section
variable{b l t f y:Int}
def KK:(kf b l t f).lookup ("bound":Str)=-(.int b):=by rfl
def zb:(kf b l t f).lookup ("last":Str)=-(.int l):=by rfl
def KG:(kf b l t f).lookup ("turns":Str)=-(.int t):=by rfl
def Ob:(kf b l t f).lookup ("free_from":Str)=-(.int f):=by rfl
def yW:(kf b l t f).lookup ("tell":Str)=P:=by rfl
def Ju:cX "turns" (.fz (.int y)) (kf b l t f)=kf b l y f:=by rfl
def N9:cX "last" (.fz (.int y)) (kf b l t f)=kf b y t f:=by rfl
def QP:cX "free_from" (.fz (.int y)) (kf b l t f)=kf b l t y:=by rfl
def TK:cX "free_from" (.fz (.int 0)) (cX "turns" (.fz (.int 0)) (cX "last" (.fz (.int 0)) (cX "bound" (.fz (.int b)) [])))=kf b 0 0 0:=by rfl
end
def gp{a:aO}{k:Nat}{c d:Cell}(h:a[k]?=R c):(a.set k d)[k]?=R d:=by rw[ZV (X0.mp h).1]
def dh{a:aO}{k j:Nat}{c d:Cell}(n:k≠j)(h:a[j]?=R c):(a.set k d)[j]?=R c:=by simp_all
def dF{a J:aO}{k:Nat}{c:Cell}(h:a[k]?=R c):(a++J)[k]?=R c:=by rw[Yz (X0.mp h).1];show h
def Gp{r:Int}(a:r=0\/r=1):aK (.tuple [.str "up",.str "down"]) (.int r)=-(.str (tw r)):=by
 rcases a with rfl|rfl
 .show iS
 .show i7
def uq{c:aO}{k:Nat}{b t r:Int}{s:Int×Int}(a:c[k]?=R (kC b t s))(h:r=0\/r=1):fC [.rf k,.fz (.int r)] c=.ok (.fz (RZ t s r)) (c.set k (kC b (t+1) (kS b t s r))):=by
 let(l,f):=s;let e:=gp (d:=kC b (t+1) (l,f)) a;show eG (ρ:=[R (.rf k),-(.int r),P]) W ?_;ext fx;show aJ (dR (ρ1:=[R (.rf k),-(.int r),-(.int t)]) (dM (aA W) a KG) W) ?_;show aJ (di (x:=.fz (.int (t+1))) (af (by ext:1)) (aA W) a (by show 4<100;decide)) ?_;rw[Ju];let e1:aZ (i6 bv (ag (aa 1)) (aY "OneKey" "last" (au 0))) [R (.rf k),-(.int r),-(.int t)] (c.set k (kC b (t+1) (l,f)))=.ok (decide (r=l)) (c.set k (kC b (t+1) (l,f))):=aX (cz (af (d:=.int r) (by ext:0)) (dM (aA W) e zb) (bR (jV r l)));let e2:aZ (i6 uR (ag (aa 2)) (aY "OneKey" "free_from" (au 0))) [R (.rf k),-(.int r),-(.int t)] (c.set k (kC b (t+1) (l,f)))=.ok (decide (t<f)) (c.set k (kC b (t+1) (l,f))):=aX (cz (af (d:=.int t) (by ext:0)) (dM (aA W) e Ob) (bR (oQ t f)));let e3:zI (aZ (i6 bv (ag (aa 1)) (aY "OneKey" "last" (au 0)))) (aZ (i6 uR (ag (aa 2)) (aY "OneKey" "free_from" (au 0)))) [R (.rf k),-(.int r),-(.int t)] (c.set k (kC b (t+1) (l,f)))=.ok (kN t (l,f) r) (c.set k (kC b (t+1) (l,f))):=by
  ext kN;dsimp only;cases q:decide (r=l)with
  |true=>rw[q]at e1;show nM e1
  |false=>rw[q]at e1;show kZ e1 e2
 unfold RZ kS;cases q:kN t (l,f) r with
 |true=>rw[q]at e3;rw[ax W,ax W];show eR (dX e3 (cJ (af aP)))
 |false=>rw[q]at e3;rw[a6 X7,a6 X7];let g:=gp (d:=kC b (t+1) (r,f)) a;show aJ (cC e3 cQ) ?_;show aJ (di (x:=.fz (.int r)) (af (by ext:0)) (aA W) e (by show 4<100;decide)) ?_;rw[N9,aaJ];show aJ (di (x:=.fz (.int (t+b))) (cz (af (d:=.int t) (by ext:0)) (dM (aA W) g KK) (bR (uE t b))) (aA W) g (by show 4<100;decide)) ?_;rw[QP,aaJ];let w:=Gp h;show cJ (af (by ext:1))
def vi{e:aO}{b:Int}:bq [.rf e.length,.fz (.int b)] (e++[.obj "OneKey" []])=.ok (.fz .none) (e++[kC b 0 (0,0)]):=by
 let a:∀c d:Cell,(e++[c]).set e.length d=e++[d]:=λc d=>by simp_all
 let at_:∀c:Cell,(e++[c])[e.length]?=R c:=λc=>aH;show ji (ρ:=[R (.rf e.length),-(.int b)]) W (ρ1:=[R (.rf e.length),-(.int b)]) ?_;ext cT;show aJ (di (x:=.fz (.int b)) (af (by ext:0)) (aA W) (at_ _) (by simp_all)) ?_;rw[a];show aJ (di (x:=.fz (.int 0)) (af aP) (aA W) (at_ _) (by show 1<100;decide)) ?_;rw[a];show aJ (di (x:=.fz (.int 0)) (af aP) (aA W) (at_ _) (by show 2<100;decide)) ?_;rw[a];show(di (x:=.fz (.int 0)) (af aP) (aA W) (at_ _) (by show 3<100;decide)).trans ?_;rw[a,TK]
def tf(a:D)(l:Nat):G (Str×SV):=[("frame",.fz a),("each_key",.rf l)]
section
variable{Z:D}{l:Nat}
def La:(tf Z l).lookup ("frame":Str)=-(Z):=by rfl
def FL:(tf Z l).lookup ("each_key":Str)=R (.rf l):=by rfl
def NU:(tf Z l).lookup ("scan":Str)=P:=by rfl
def Re:(tf Z l).lookup ("down":Str)=P:=by rfl
def TU:(tf Z l).lookup ("tell_one":Str)=P:=by rfl
end
abbrev tC(a:D)(l:Nat):Cell:=.obj "Teller" (tf a l)
structure TL(ω:aO)(T l:Nat)(fr:D)(b:Int)(ks:G Nat)(g:Nat->Int×(Int×Int)):Prop where
 t:ω[T]?=R (tC fr l)
 l:ω[l]?=R (.lst (ks.map .rf))
 nd:ks.Nodup
 k:∀(j k:Nat),ks[j]?=R k->ω[k]?=R (kC b (g j).1 (g j).2)
def Kp(S:G Nat)(b a:aO):Prop:=∀(j:Nat) (c:Cell),b[j]?=R c->j∉S->a[j]?=R c
theorem Kp.refl{S:G Nat}{a:aO}:Kp S a a:=λ_ _ h _=>h
theorem Kp.trans{S:G Nat}{f e d:aO}(a:Kp S f e)(b:Kp S e d):Kp S f d:=λj c h n=>b j c (a j c h n) n
theorem Kp.mono{S b:G Nat}{f d:aO}(a:Kp S f d)(h:∀x∈S,x∈b):Kp b f d:=λj c e n=>a j c e λz=>n (h j z)
theorem Kp.app{S:G Nat}{a J:aO}:Kp S a (a++J):=λ_ _ h _=>dF h
theorem Kp.set{S:G Nat}{a:aO}{i:Nat}{c:Cell}(h:i∈S):Kp S a (a.set i c):=λj d e n=>dh (λz=>n (z▸h)) e
theorem Kp.new{S:G Nat}{a J:aO}{i:Nat}{c:Cell}(h:a.length<=i):Kp S a ((a++J).set i c):=λj d e n=>dh (λz=>by simp_all) (dF e)
section
variable{X Y:aO}{T l:Nat}{Z:D}{b:Int}{U:cc Nat}{g:Nat->Int×(Int×Int)}
def TL.alg(h:TL X T l Z b U g):T∉U/\l∉U/\T≠l:=by
 show#[λz=>?_,λz=>?_,λz=>?_]
 .let(j,a):=Zb.mp z;let:=(h.k j T a).symm.trans h.t;ext this
 .let(j,a):=Zb.mp z;let:=(h.k j l a).symm.trans h.l;ext this
 .subst z;let:=h.t.symm.trans h.l;ext this
theorem TL.kp{S:G Nat}(h:TL X T l Z b U g)(k:Kp S X Y)(f:T∉S)(e:l∉S)(d:∀x∈U,x∉S):TL Y T l Z b U g:=#[k _ _ h.t f,k _ _ h.l e,h.nd,λj x a=>k _ _ (h.k j x a) (d x (YD a))]
theorem TL.app(h:TL X T l Z b U g){J:aO}:TL (X++J) T l Z b U g:=#[dF h.t,dF h.l,h.nd,λj x a=>dF (h.k j x a)]
def UM(g:Nat->Int×(Int×Int))(i:Nat)(v:Int×(Int×Int)):Nat->Int×(Int×Int):=λj=>if j=i then v else g j
def TL.put(h:TL X T l Z b U g){i k:Nat}(c:U[i]?=R k)(v:Int×(Int×Int)):TL (X.set k (kC b v.1 v.2)) T l Z b U (UM g i v):=by
 let n:=h.alg;let d:=YD c;show#[dh (λz=>n.1 (z▸d)) h.t,dh (λz=>n.2.1 (z▸d)) h.l,h.nd,λj x a=>?_];ext UM;by_cases e:j=i
 .subst e;rw[c]at a;ext a;rw[ax W];show gp (h.k _ _ c)
 .rw[a6 e];show dh (λz=>e ?_) (h.k j x a);subst z;show(afr (X0.mp a).1 h.nd).mp (a.trans c.symm)
def MF{a b:Str}(c:X2.strOk a=S)(d:X2.strOk b=S):bv (.str a) (.str b)=-(.bool (decide (a=b))):=by show(if((X2.strOk a&&decide (0<=64))&&X2.strOk b)=S then R (RV.fz (.bool (X2.eqv (.str a) (.str b))))else P)=_;rw[c,d];rfl
def rW(w:Str)(l:Int):Int:=if w= "unsure" then l else if w= "sure" then 1 else 0
def RK(h:TL X T l Z b U g){i k:Nat}(c:U[i]?=R k){w:Str}(f:w= "up"\/w= "sure"\/w= "unsure")(j:(g i).2.1=0\/(g i).2.1=1):
  eh [.rf T,.fz (nd i),.fz (.str w)] X=.ok (.fz (RZ (g i).1 (g i).2 (rW w (g i).2.1))) (X.set k (kC b ((g i).1+1) (kS b (g i).1 (g i).2 (rW w (g i).2.1)))):=by
 let d:=h.k i k c;let at_:kO (U.map SV.rf) (i:Int)=R (.rf k):=vY () (by simp_all);show eG (ρ:=[R (.rf T),-(nd i),-(.str w),P]) W ?_;ext cK;show aJ (dR (ρ1:=[R (.rf T),-(nd i),-(.str w),R (.rf k)]) (Q5 (y:=.fz (nd i)) (dM (aA W) h.t FL) (af (by ext:0)) W h.l at_) W) ?_;let so:X2.strOk w=S:=by rcases f with rfl|rfl|rfl<;>left
 let e1:=MF so (b:= "unsure") (by left);let e2:=MF so (b:= "sure") (by left);by_cases u:w= "unsure"
 .rw[a7 u]at e1;let a:rW w (g i).2.1=(g i).2.1:=ax u;rw[a];show eR (dX (aN (by ext:0)) (cJ (dI (aA W) d yW (aq (dM (aA W) d zb) aB) W (uq d j))))
 .rw[bg u]at e1
  show aJ (cC (aN (by ext:0)) cQ) ?_;by_cases v:w= "sure"
  .rw[a7 v]at e2
   let a:rW w (g i).2.1=1:=by ext rW;rw[a6 u,ax v]
   rw[a];let e:ag (Dl (ai (am bv (aa 2) (pC (.str "sure")))) (~~~1) (~~~0)) [R (.rf T),-(nd i),-(.str w),R (.rf k)] X=.ok (.fz (.int 1)) X:=af (show(ai (am bv (aa 2) (pC (.str "sure"))) _).bind _=_ by rw[show ai (am bv (aa 2) (pC (.str "sure"))) (bO [R (.rf T),-(nd i),-(.str w),R (.rf k)])=.ok (S,_) by ext:0];rfl);show cJ (dI (aA W) d yW (aq e aB) W (uq d (.inr W)))
  .rw[bg v]at e2
   let a:rW w (g i).2.1=0:=by ext rW;rw[a6 u,a6 v]
   rw[a];let e:ag (Dl (ai (am bv (aa 2) (pC (.str "sure")))) (~~~1) (~~~0)) [R (.rf T),-(nd i),-(.str w),R (.rf k)] X=.ok (.fz (.int 0)) X:=af (show(ai (am bv (aa 2) (pC (.str "sure"))) _).bind _=_ by rw[show ai (am bv (aa 2) (pC (.str "sure"))) (bO [R (.rf T),-(nd i),-(.str w),R (.rf k)])=.ok (M,_) by ext:0];rfl);show cJ (dI (aA W) d yW (aq e aB) W (uq d (.inl W)))
end
def LX:∀(l:G D) (k i:Nat) (d:D),(cM k l)[i]?=R d->∃x,l[i]?=R x/\d=.tuple [nd (k+i),x]:=by
 intro l
 induction l with
 |nil=>intro k i d h;ext h
 |cons a r b=>
  intro k i d h;cases i with
  |zero=>ext h;show#[a,W,W]
  |succ i=>let(x,f,e):=b (k+1) i d h;show#[x,f,by rw[e,ab1,acm 1 i]]
def UQ{α:Type}{r:RS α}{P:α->aO->Prop}(h:Out r P λ_=>False):∃a b,r=.ok a b/\P a b:=by
 cases r with
 |ok a b=>show#[a,b,W,h.out]
 |er x b=>show h.out.elim
 |bad=>show h.out.elim
def sO(c:Str×Nat):D:=.tuple [.str c.1,nd c.2]
section
variable(b:Int)(g:Nat->Int×(Int×Int))(ws:cc Str)
def Cg(j:Nat):Int:=rW (ws.getD j "") (g j).2.1
def AH(j:Nat):Int×(Int×Int):=((g j).1+1,kS b (g j).1 (g j).2 (Cg g ws j))
def cw(j:Nat):z (Str×Nat):=if kN (g j).1 (g j).2 (Cg g ws j)=S then P else R (tw (Cg g ws j),j)
def sT(n:Nat):G (Str×Nat):=(Yw n).filterMap (cw g ws)
def Uu(i j:Nat):Int×(Int×Int):=if j<i then AH b g ws j else g j
def Os(i:Nat):UM (Uu b g ws i) i (AH b g ws i)=Uu b g ws (i+1):=by
 funext j;unfold UM Uu
 grind
def EG(i:Nat):sT g ws (i+1)=sT g ws i++(cw g ws i).toList:=by ext sT;rw[List.range_succ,abA];rfl
def zQ(i:Nat):(sT g ws i).length<=i:=by let:=aa6 (cw g ws) (Yw i);rw[YL]at this;show this
end
theorem TL.lt{c:aO}{T l:Nat}{e:D}{b:Int}{f:G Nat}{g:Nat->Int×(Int×Int)}(h:TL c T l e b f g):T<c.length/\l<c.length/\∀k∈f,k<c.length:=#[(X0.mp h.t).1,(X0.mp h.l).1,λk a=>by let(j,d):=Zb.mp a;show(X0.mp (h.k j k d)).1]
theorem TL.ext{f:aO}{T l:Nat}{d:D}{b:Int}{c:G Nat}{g i:Nat->Int×(Int×Int)}(h:TL f T l d b c g)(e:∀j,j<c.length->g j=i j):TL f T l d b c i:=#[h.t,h.l,h.nd,λj k a=>by rw[<-e j (X0.mp a).1];show h.k j k a]
def KR{s:aO}{T l:Nat}{n:D}{b:Int}{t:cc Nat}{g:Nat->Int×(Int×Int)}(h:TL s T l n b t g){V:D}{ws:cc Str}(hn:ws.length=t.length)(L:kT [n,V]=.ok (.fz (.tuple (ws.map .str))))(K:∀w∈ws,w= "up"\/w= "sure"\/w= "unsure")(N:∀j,j<t.length->(g j).2.1=0\/(g j).2.1=1)(U:t.length<=100):
  ∃k,fy [.rf T,.fz V] s=.ok (.rf s.length) k/\k[s.length]?=cL (.lst (((sT g ws t.length).map sO).map .fz))/\TL k T l n b t (AH b g ws)/\Kp t s k:=by
 let lt:=h.lt;let E:Out (fy [.rf T,.fz V] s) (λv k=>v=.rf s.length/\k[s.length]?=cL (.lst (((sT g ws t.length).map sO).map .fz))/\TL k T l n b t (AH b g ws)/\Kp t s k) (λ_=>False):=by
  show uU (ρ:=[cL (.rf T),-(V),CL,CL,CL,CL,CL]) W ?_;ext fw;show de (x:=.fz (.tuple (ws.map .str))) (ρ1:=[cL (.rf T),-(V),-(.tuple (ws.map .str)),CL,CL,CL,CL]) (qp (ds:=[n,V]) (aq (dM (aA W) h.t La) (aq (af (d:=V) (by ext:0)) aB)) W L) W ?_;show de (x:=.rf s.length) (ω1:=s++[.lst []]) (ρ1:=[cL (.rf T),-(V),-(.tuple (ws.map .str)),cL (.rf s.length),CL,CL,CL]) (dD (ds:=[]) (by ext:0)) W ?_;show oz (vA (λi ρ k=>∃(C B u:ck SV),ρ=[cL (.rf T),-(V),-(.tuple (ws.map .str)),cL (.rf s.length),C,B,u]/\TL k T l n b t (Uu b g ws i)/\k[s.length]?=cL (.lst (((sT g ws i).map sO).map .fz))/\Kp t s k) (ds:=cM 0 (ws.map .str)) (ω1:=s++[.lst []]) (lg (xI (d:=.tuple (ws.map .str)) (aE (ar W) bf) W W)) #[CL,CL,CL,W,h.app.ext λj _=>(a6 (agN j)).symm,aH,Kp.app] ?_ ?_)
  .rintro i d ρ k M ⟨C,B,u,rfl,X,ch,kp⟩
   let(x,m,rfl):=LX _ _ _ _ M;rw[abu];rw[Yl]at m;cases q:ws[i]? with
   |none=>rw[q]at m;ext m
   |some w=>
   rw[q]at m;ext m;let R:=(X0.mp q).1;let y:i<t.length:=by ext
   let hi:t[i]?=cL t[i]:=Ye y;let F:Uu b g ws i i=g i:=a6 (Zc i);let G:ws.getD i ""=w:=by rw[aaS,q];rfl
   let o:=RK X hi (K w (YD q)) (by rw[F];show N i y);rw[F]at o;let f:=X.put hi (AH b g ws i);rw[Os]at f;let e0:rW w (g i).2.1=Cg g ws i:=by ext Cg;rw[G]
   rw[e0]at o;let I:t[i]≠s.length:=by let:=lt.2.2 _ (abd y);ext
   let a:=dh (d:=kC b (AH b g ws i).1 (AH b g ws i).2) I ch;let p:Kp t s (k.set t[i] (kC b (AH b g ws i).1 (AH b g ws i).2)):=kp.trans (Kp.set (abd y));show#[[cL (.rf T),-(V),-(.tuple (ws.map .str)),cL (.rf s.length),-(nd i),-(.str w),u],k,W,?_];show de (x:=.fz (RZ (g i).1 (g i).2 (Cg g ws i))) (ρ1:=[cL (.rf T),-(V),-(.tuple (ws.map .str)),cL (.rf s.length),-(nd i),-(.str w),-(RZ (g i).1 (g i).2 (Cg g ws i))]) (dI (aA W) X.t TU (aq (af (d:=nd i) (by ext:0)) (aq (af (d:=.str w) (by ext:0)) aB)) W o) W ?_;let r:=EG g ws i;let cl:=zQ g ws i;ext RZ;unfold cw at r;cases qk:kN (g i).1 (g i).2 (Cg g ws i)with
   |true=>rw[qk,ax W]at r;rw[ax W];let H:lf .none .none=-(.bool XZ):=W;show qS (cC (aN (by ext:0)) cQ) #[_,_,_,W,f,?_,p];rw[r];show _=cL (Cell.lst (((sT g ws i++[]).map sO).map .fz));rw[YK];show a
   |false=>
    rw[qk,a6 X7]at r;rw[a6 X7];let H:lf (.str (tw (Cg g ws i))) .none=-(.bool XX):=W;show qS (dX (aN (by ext:0)) (je (EU (x:=.fz (sO (tw (Cg g ws i),i))) (aA W) a (af (by ext:1)) a (by rw[X4,X4];ext)))) #[_,_,_,W,f.kp (S:=[s.length]) (Kp.set X9) (by rw[Yh];ext) (by rw[Yh];ext) (λx m=>by rw[Yh];let:=lt.2.2 x m;ext),?_,?_]
    .rw[r];show(gp a).trans ?_;show _=cL (Cell.lst (((sT g ws i++[(tw (Cg g ws i),i)]).map sO).map .fz));rw[YH,YH];rfl
    .show λj c A J=>dh (λz=>?_) (p j c A J);let:=(X0.mp A).1;ext
  .rintro ρ k ⟨C,B,u,rfl,X,ch,kp⟩;rw[gj,X4,hn]at X ch;show uV (aA W) #[W,ch,X.ext λj A=>ax A,kp]
 let(v,k,e,rfl,Q,P,O):=UQ E;show#[k,e,Q,P,O]
def Cm{gt:v9}{ft:sJ}{fe:ez}{x:SV}{xs:G SV}{ω:aO}(f:LD.lstAt ω x=R xs)(o:xs.length<1000000)(p:Nat->Bool)(z:Nat->SV)(g:∀i y,xs[i]?=R y->∃a,QM y=R a/\∀r,r.length=2->∃c,c.length=2/\gt (.tp [.fz (nd i),a]) r ω=.ok c ω/\ft c ω=.ok (p i) ω/\fe c ω=.ok (z i) ω):
  ∀(n m i:Nat) (r:bc) (acc:G SV),i+n=xs.length->n<m->acc.length<=i->r.length=2->gZ gt ft fe x m i r ω acc=.ok (acc++((ZL i n).filter p).map z) ω:=by
 intro n
 induction n with
 |zero=>intro m i r acc l j h e;obtain⟨m,rfl⟩:∃k,m=k+1:=#[m - 1,by ext];ext gZ;simp_all
 |succ n d=>
  intro m i r acc l j h e;obtain⟨m,rfl⟩:∃k,m=k+1:=#[m - 1,by ext];let t:xs[i]?=R xs[i]:=Ye ();let(a,u,k):=g i _ t;let(c,b,k1,k2,k3):=k r e;ext gZ;rw[f];dsimp only;rw[t];dsimp only;rw[u];dsimp only;rw[k1,ej,k2,ej,List.range'_succ];cases q:p i with
  |true=>rw[ax W,k3,ej,ax (),d m (i+1) c _ () () (by simp_all) b,Zi q,Yi,YR];rfl
  |false=>rw[a6 X7,d m (i+1) c _ () () () b,Zv (by rw[q];show X7)]
def HV(g:Nat->Int×(Int×Int))(n:Nat):G Nat:=(Yw n).filter λj=>decide ((g j).2.1=1)
def LP{s:aO}{T l:Nat}{o:D}{b:Int}{r:G Nat}{g:Nat->Int×(Int×Int)}(h:TL s T l o b r g)(p:r.length<=100):∃J,gP [.rf T] s=.ok (.fz (.tuple (a8 (HV g r.length)))) (s++J):=by
 let c:=Cm (gt:=Ia 2 (mf (dW 0) (mf (dW 1) v4))) (ft:=aZ (i6 bv (aY "OneKey" "last" (au 1)) (ag (~~~1)))) (fe:=ag (aa 0)) (x:=.rf l) (xs:=r.map .rf) (ω:=s) (show LD.lstAt s (.rf l)=_ by ext LD.lstAt;dsimp only;rw[h.l]) (by rw[X4];ext) (λj=>decide ((g j).2.1=1)) (λj=>.fz (nd j)) (λi y n=>by
  rw[Yl]at n;cases q:r[i]? with
  |none=>simp_all
  |some k=>
   rw[q]at n;ext n;show#[.rf k,W,λt m=>?_];obtain⟨f,a,rfl⟩:∃f a,t=[f,a]:=by
    match t,m with
    |[f,a],_=>show#[f,a,W]
   show#[[-(nd i),R (.rf k)],W,W,aX (cz (dM (aA W) (h.k i k q) zb) (af (d:=.int 1) aP) (bR (jV _ _))),af (by ext:0)]) r.length 1000000 0 [P,P] [] (by simp_all) () (X6 _) W
 rw[<-List.range_eq_range',abt]at c;show#[[.lst ((a8 (HV g r.length)).map .fz)],?_];show eG (ρ:=[R (.rf T)]) W ?_;ext fD;let e:rX 2 [] (aY "Teller" "each_key" (au 0)) (Ia 2 (mf (dW 0) (mf (dW 1) v4))) (aZ (i6 bv (aY "OneKey" "last" (au 1)) (ag (~~~1)))) (ag (aa 0)) [R (.rf T)] s=.ok (.rf s.length) (s++[.lst ((a8 (HV g r.length)).map .fz)]):=by ext rX;rw[dM (aA W) h.t FL,ej];show(jL (gZ _ _ _ (.rf l) 1000000 0 [P,P] s [])).bind _=_;rw[c,show((Yw r.length).filter λj=>decide ((g j).2.1=1)).map (λj=>SV.fz (nd j))=(a8 (HV g r.length)).map .fz by unfold a8 HV;rw[YW];rfl];rfl
 show cJ (Mp (aq e aB) (ds:=[.list (a8 (HV g r.length))]) ?_ W);ext aF;rw[gB aH];rfl
def DN(n:Nat)(c:Cell):X1 (n+1) c=X1 n c++[c]:=by rw[aeG]
def DS{ω:aO}{d1 d2:D}{sps:G D}{b:Int}(q:sps.length<=100):∃s,b0 [.rf ω.length,.fz (.tuple [d1,d2,.tuple sps]),.fz (.int b)] (ω++[.obj "Teller" []])=.ok (.fz .none) s/\TL s ω.length (ω.length+1+sps.length) (.tuple [d1,d2,.tuple sps]) b (ZL (ω.length+1) sps.length) (λ_=>(0,(0,0)))/\Kp [] ω s:=by
 let t:=(X2.tuple [d1,d2,.tuple sps]);let h:∀(c d:Cell) (J:aO),(ω++c::J).set ω.length d=ω++d::J:=λc d J=>by simp_all
 let at_:∀(c:Cell) (J:aO),(ω++c::J)[ω.length]?=R c:=λc J=>by simp_all
 let cm:∀(r:G D) (n:Nat) (o:z SV),n+r.length<=100->dj (dW 0) kI (iR "OneKey" bq 2 (aj (ag (aa 1)) aL)) r [o,-(.int b)] (ω++ .obj "Teller" [("frame",.fz (.tuple [d1,d2,.tuple sps]))]::X1 n (kC b 0 (0,0))) ((ZL (ω.length+1) n).map .rf)=.ok ((ZL (ω.length+1) (n+r.length)).map .rf) (ω++ .obj "Teller" [("frame",.fz (.tuple [d1,d2,.tuple sps]))]::X1 (n+r.length) (kC b 0 (0,0))):=by
  intro r
  induction r with
  |nil=>intro n o _;rfl
  |cons d r m=>
   intro n o u;rw[Yf]at u;let f:(ω++ .obj "Teller" [("frame",.fz (.tuple [d1,d2,.tuple sps]))]::X1 n (kC b 0 (0,0))).length=ω.length+1+n:=by rw[Yb,Yf,YE];ext
   let i:=qN (C:= "OneKey") (F:=bq) (n:=2) (fa:=aj (ag (aa 1)) aL) (ρ:=[-(d),-(.int b)]) (ω:=ω++ .obj "Teller" [("frame",.fz (.tuple [d1,d2,.tuple sps]))]::X1 n (kC b 0 (0,0))) (aq (af (d:=.int b) (by ext:0)) aB) W vi;rw[f]at i;show((dW 0 (.fz d) [o,-(.int b)] _).bind _)=_;rw[show dW 0 (.fz d) [o,-(.int b)] (ω++ .obj "Teller" [("frame",.fz (.tuple [d1,d2,.tuple sps]))]::X1 n (kC b 0 (0,0)))=.ok [-(d),-(.int b)] (ω++ .obj "Teller" [("frame",.fz (.tuple [d1,d2,.tuple sps]))]::X1 n (kC b 0 (0,0)))from rfl,ej];show(RS.ok S _).bind _=_;rw[ej,ax W,i,ej,ax (by rw[X4,ab4];ext)];let e1:(ZL (ω.length+1) n).map SV.rf++[.rf (ω.length+1+n)]=(ZL (ω.length+1) (n+1)).map .rf:=by rw[List.range'_concat,YH,ajr];rfl
   let e2:(ω++ .obj "Teller" [("frame",.fz (.tuple [d1,d2,.tuple sps]))]::X1 n (kC b 0 (0,0)))++[kC b 0 (0,0)]=ω++ .obj "Teller" [("frame",.fz (.tuple [d1,d2,.tuple sps]))]::X1 (n+1) (kC b 0 (0,0)):=by rw[YR,DN];rfl
   rw[e1,e2,m (n+1) _ (),Yf,ab1,acm 1]
 let l:=cm sps 0 P ();rw[abu]at l;let f:(ω++ .obj "Teller" [("frame",.fz (.tuple [d1,d2,.tuple sps]))]::X1 sps.length (kC b 0 (0,0))).length=ω.length+1+sps.length:=by rw[Yb,Yf,YE];ext
 show#[ω++tC (.tuple [d1,d2,.tuple sps]) (ω.length+1+sps.length)::(X1 sps.length (kC b 0 (0,0))++[.lst ((ZL (ω.length+1) sps.length).map .rf)]),?_,#[at_ _ _,?_,List.nodup_range',λj k g=>?_],Kp.app]
 .show ji (ρ:=[R (.rf ω.length),-(.tuple [d1,d2,.tuple sps]),-(.int b)]) W (ρ1:=[R (.rf ω.length),-(.tuple [d1,d2,.tuple sps]),-(.int b)]) ?_
  ext cP;show aJ (di (x:=.fz (.tuple [d1,d2,.tuple sps])) (af (by ext:0)) (aA W) (at_ _ []) (by simp_all)) ?_;rw[h];let e:jF 1 [2] (jO (eO (am aK (aa 1) (~~~2)))) (dW 0) kI (iR "OneKey" bq 2 (aj (ag (aa 1)) aL)) [R (.rf ω.length),-(.tuple [d1,d2,.tuple sps]),-(.int b)] (ω++[.obj "Teller" (cX "frame" (.fz (.tuple [d1,d2,.tuple sps])) [])])=.ok (.rf (ω.length+1+sps.length)) ((ω++ .obj "Teller" [("frame",.fz (.tuple [d1,d2,.tuple sps]))]::X1 sps.length (kC b 0 (0,0)))++[.lst ((ZL (ω.length+1) sps.length).map .rf)]):=by let p:dj (dW 0) kI (iR "OneKey" bq 2 (aj (ag (aa 1)) aL)) sps (jN 1 [2] [R (.rf ω.length),-(.tuple [d1,d2,.tuple sps]),-(.int b)]) (ω++[.obj "Teller" [("frame",.fz (.tuple [d1,d2,.tuple sps]))]]) []=.ok ((ZL (ω.length+1) sps.length).map .rf) (ω++ .obj "Teller" [("frame",.fz (.tuple [d1,d2,.tuple sps]))]::X1 sps.length (kC b 0 (0,0))):=l;let:=pZ (fi:=jO (eO (am aK (aa 1) (~~~2)))) (ρ:=[R (.rf ω.length),-(.tuple [d1,d2,.tuple sps]),-(.int b)]) (lg (lO (d:=.tuple sps) (bh (rv:=.fz (.tuple sps)) (ar W) aP W W pE) W W)) p;rw[f]at this;show this
  show(di (x:=.rf (ω.length+1+sps.length)) e (aA W) (by rw[YR];show at_ _ _) (by simp_all)).trans ?_;rw[YR];show RS.ok _ ((ω++Cell.obj "Teller" [("frame",.fz (.tuple [d1,d2,.tuple sps]))]::(X1 sps.length (kC b 0 (0,0))++[.lst ((ZL (ω.length+1) sps.length).map .rf)])).set ω.length _)=_;rw[h];rfl
 .rw[Ys (),show ω.length+1+sps.length - ω.length=sps.length+1 by ext,ZT,Ys (by rw[YE];show X6 _),YE,aek];rfl
 .let a:=(X0.mp g).1;rw[ab4]at a;rw[List.getElem?_range' a,ajr]at g;ext g;rw[Ys (),show ω.length+1+j - ω.length=j+1 by ext,ZT,Yz (by rw[YE];show a),Zt,ax a]
section
variable{Q:bc}{X U Z:aO}
def JS(n:Nat){i:Nat}{ds:G D}(h:X[i]?=R (.lst (ds.map .fz))):wa (n+1) X (.rf i)=R (.list ds):=by
 ext wa;rw[h];dsimp only;let e:∀ds:G D,aF (wa n X) (ds.map .fz)=R ds:=λds=>by
  induction ds with
  |nil=>rfl
  |cons d r a=>rw[Yi];ext aF;rw[a,show wa n X (.fz d)=R d by ext n<;>rfl]
 rw[e];rfl
def LM{F:FN}{n:Nat}{c:wY}{xs:G SV}{ds:G D}{d:D}(i:c Q X=.ok xs U)(f:aF wc xs=P)(b:aF (wa 6 U) xs=R ds)(h:xs.length=n)(e:F ds=.ok (.fz d))(a:BF d=S):gC F n c Q X=.ok (.fz d) U:=by
 ext gC;rw[i,ej];ext um;rw[ax h,f];dsimp only;rw[b];show jL (match F ds with
  |.ok g=>tM U g
  |_=>.bad)=_
 rw[e];show jL (if BF d=S then RS.ok (SV.fz d) U else RS.bad)=_;rw[ax a];rfl
def Ec{e c:ez}{xs a:G SV}{i j:Nat}(f:e Q X=.ok (.rf i) U){b:G SV}(m:U[i]?=R (.lst b))(l:c Q U=.ok (.rf j) Z)(g:Z[j]?=R (.lst a))(k:Z[i]?=R (.lst xs))(n:xs.length+a.length<=1000000):BJ e c Q X=.ok (.fz .none) (Z.set i (.lst (xs++a))):=by
 let d:∀{X:aO} {i:Nat} {xs:G SV},X[i]?=R (.lst xs)->fW X (.rf i)=R (i,xs):=λ{X i xs} h=>by ext fW;simp_all
 ext BJ;rw[f,ej,d m];show((c Q U).bind _)=_;rw[l,ej,d g];show((RS.YT Z (fW Z (.rf i))).bind _)=_;rw[d k];show(if xs.length+a.length<=1000000 then RS.ok (SV.fz .none) (Z.set i (.lst (xs++a)))else .bad)=_;simp_all
def Ji{f:D->D->z RV}{x y:SV}{c a:D}{ds:G D}(d:sh X x=R c)(b:sh X y=R a)(h:f c a=R (.ow ds)):rB f x y X=.ok (.rf X.length) (X++[.lst (ds.map .fz)]):=by ext rB;rw[d,b];show((RS.YT X (f c a)).bind λe U=>kB U e)=_;rw[h];rfl
def Aa{c b:ez}{y:SV}{l:G AV}{a:AV}{i:Int}(g:c Q X=.ok (.tp l) U)(e:b Q U=.ok y Z)(f:B5 y=R i)(d:kO l i=R a):L10.i9 c b Q X=.ok a.sv Z:=by ext L10.i9;rw[g,ej,e,ej];ext K9;dsimp only;rw[f];show RS.YT Z ((kO l i).map AV.sv)=_;rw[d];rfl
def Dy{F:hG}{n:Nat}{b:wY}{xs:G SV}{x:SV}(c:b Q X=.ok xs U)(a:ul F n xs U=.ok x Z):wB F n b Q X=.ok x Z:=by ext wB;rw[c,ej,a];rfl
def Bx{α:Type}{gt:v9}{k:sJ}{m:ez}(e:α->D)(p:α->Bool)(I:bc->Prop):∀(xs:G α) (Q:bc) (acc:G SV),I Q->acc.length+xs.length<=1000000->(∀x∈xs,∀Q,I Q->∃c,gt (.fz (e x)) Q X=.ok c X/\k c X=.ok (p x) X/\m c X=.ok (.fz (e x)) X/\I c)->dj gt k m (xs.map e) Q X acc=.ok (acc++((xs.filter p).map e).map .fz) X:=by
 intro xs
 induction xs with
 |nil=>intro Q acc _ _ _;show RS.ok acc X=RS.ok (acc++[]) X;simp_all
 |cons x r d=>
  intro Q acc l g b;let(c,j,i,h,f):=b x X9 Q l;rw[Yf]at g;show((gt (.fz (e x)) Q X).bind _)=_;rw[j,ej,i,ej];cases q:p x with
  |true=>rw[ax W,h,ej,ax (),d c _ f (by rw[Yb,Z1];ext) λy a=>b y (Ya _ a),Zi q,YR];rfl
  |false=>rw[a6 X7,d c _ f () λy a=>b y (Ya _ a),Zv (by rw[q];show X7)]
end
def df(T:Nat)(a st:D):G (Str×SV):=[("teller",.rf T),("bed",.fz a),("standing",.fz st)]
section
variable{T:Nat}{X Q x:D}
def wS:(df T X Q).lookup ("teller":Str)=R (.rf T):=by rfl
def Nj:(df T X Q).lookup ("bed":Str)=-(X):=by rfl
def Vg:(df T X Q).lookup ("standing":Str)=-(Q):=by rfl
def T3:(df T X Q).lookup ("run_through":Str)=P:=by rfl
def Bb:(df T X Q).lookup ("say":Str)=P:=by rfl
def Vc:(df T X Q).lookup ("take_frame":Str)=P:=by rfl
def Vd:(df T X Q).lookup ("take_bed":Str)=P:=by rfl
def Vm:(df T X Q).lookup ("take_scan":Str)=P:=by rfl
def Fb{U:Nat}:cX "teller" (.rf U) (df T X Q)=df U X Q:=by rfl
def Ti:cX "bed" (.fz x) (df T X Q)=df T x Q:=by rfl
def Pe:cX "standing" (.fz x) (df T X Q)=df T X x:=by rfl
def S5{U:Nat}:cX "standing" (.fz Q) (cX "bed" (.fz X) (cX "teller" (.rf U) []))=df U X Q:=by rfl
end
abbrev dC(T:Nat)(a st:D):Cell:=.obj "Desk" (df T a st)
abbrev jQ:D:=.tuple [.tuple [],.none,.none]
def yz{Q:aO}{D T e:Nat}{b:Bd}(B:VB b){s:Stn}(G:SW b s){es:cc Evn}(E:∀e∈es,EV b e)(hd:Q[D]?=R (dC T (bD b) (gw s)))(l:Q[e]?=R (.lst ((es.map mZ).map .fz)))(u:∀i,i<=es.length->(dY b s (es.take i)).2.flatten.length<=1000){z:Str}(V:cN [.list ((dY b s es).2.flatten.map xS)]=.ok (.fz (.str z))):
  ∃k,cB [.rf D,.rf e] Q=.ok (.fz (.str z)) k/\k[D]?=R (dC T (bD b) (gw (dY b s es).1))/\Kp [D,e] Q k:=by
 let P:=(X0.mp hd).1;let O:=(X0.mp l).1;let ne:e≠D:=λq=>by simp_all
 let t:Out (cB [.rf D,.rf e] Q) (λv k=>v=.fz (.str z)/\k[D]?=R (dC T (bD b) (gw (dY b s es).1))/\Kp [D,e] Q k) (λ_=>False):=by
  show uU (ρ:=[R (.rf D),R (.rf e),CL,CL,CL]) W ?_;ext cA;show de (x:=.rf Q.length) (ω1:=Q++[.lst []]) (ρ1:=[R (.rf D),R (.rf e),R (.rf Q.length),CL,CL]) (dD (ds:=[]) (by ext:0)) W ?_;show oz (vA (λi U k=>∃(p n:ck SV),U=[R (.rf D),R (.rf e),R (.rf Q.length),p,n]/\k[D]?=R (dC T (bD b) (gw (dY b s (es.take i)).1))/\k[Q.length]?=R (.lst (((dY b s (es.take i)).2.flatten.map xS).map .fz))/\Kp [D,e] Q k) (ds:=es.map mZ) (ω1:=(Q++[Cell.lst []]).set e Cell.dead) (v5 (aA W) (dF l)) #[CL,CL,W,dh ne (dF hd),dh () (aH:(Q++[Cell.lst []])[Q.length]?=_),Kp.app.trans (Kp.set (Ya _ X9))] ?_ ?_)
  .rintro i d U k X ⟨p,n,rfl,f,h,kp⟩
   rw[Yl]at X;cases q:es[i]? with
   |none=>simp_all
   |some ev=>
   rw[q]at X;ext X;let I:=(X0.mp q).1;let F:es.take (i+1)=es.take i++[ev]:=by rw[ach,q];rfl
   let o:SW b (dY b s (es.take i)).1:=zJ B _ G λx K=>E x (aeE K);let H:=TH B o (E ev (YD q)) (ω:=k);let r1:dY b s (es.take (i+1))=((bZ b (dY b s (es.take i)).1 ev).1,(dY b s (es.take i)).2++[(bZ b (dY b s (es.take i)).1 ev).2]):=by rw[F,sG];rfl
   let A:=u (i+1) I;rw[r1]at A⊢;rw[abQ,List.flatten_singleton]at A⊢;rw[Yb]at A;let N:=(X0.mp f).1;let M:=(X0.mp h).1;let m:=dF (J:=[.lst (((bZ b (dY b s (es.take i)).1 ev).2.map xS).map .fz)]) f;let g:=dF (J:=[.lst (((bZ b (dY b s (es.take i)).1 ev).2.map xS).map .fz)]) h;let r:Q.length≠D:=by ext
   show#[[R (.rf D),R (.rf e),R (.rf Q.length),-(mZ ev),n],k,W,?_];show de (x:=.tp [.rf k.length,.fz (gw (bZ b (dY b s (es.take i)).1 ev).1)]) (ρ1:=[R (.rf D),R (.rf e),R (.rf Q.length),-(mZ ev),R (.tp [.rf k.length,.fz (gw (bZ b (dY b s (es.take i)).1 ev).1)])]) (Dy (aq (dM (aA W) f Nj) (aq (dM (aA W) f Vg) (aq (af (d:=mZ ev) (by ext:0)) aB))) H) W ?_;show ML (je (Ec (aA W) g (Aa (y:=.fz (.int 0)) (a:=.rf k.length) (aA W) (af aP) W W) aH g (by simp only[X4];ext))) ?_;show qS (di (x:=.fz (gw (bZ b (dY b s (es.take i)).1 ev).1)) (Aa (y:=.fz (.int 1)) (a:=.fz (gw (bZ b (dY b s (es.take i)).1 ev).1)) (aA W) (af aP) W W) (aA W) (dh r m) (by show 3<100;decide)) #[_,_,W,?_,?_,?_]
   .rw[Pe];show gp (dh r m)
   .rw[YH,YH];show dh (d0 r) (gp g)
   .show λj c L C=>dh (λw=>C (w▸X9)) (dh (λw=>?_) (dF (kp j c L C)));simp_all
  .rintro U k ⟨p,n,rfl,f,h,kp⟩;rw[X4,af7]at f h;show uV (LM (ds:=[.list ((dY b s es).2.flatten.map xS)]) (aq (aA W) aB) W (by ext aF;rw[JS 5 h];rfl) W V W) #[W,f,kp]
 let(v,k,e1,rfl,f,h):=UQ t;show#[k,e1,f,h]
def dq:Nat->D->D->Bool
 |0,_,_=>M
 |_+1,.int a,.int b=>a==b
 |_+1,.str a,.str b=>a==b
 |_+1,.none,.none=>S
 |_+1,.bool a,.bool b=>a==b
 |n+1,.tuple a,.tuple b=>a.length==b.length&&(a.zip b).all λp=>dq n p.1 p.2
 |n+1,.list a,.list b=>a.length==b.length&&(a.zip b).all λp=>dq n p.1 p.2
 |_,_,_=>M
def qL{f:D->D->Bool}(i:∀a b,f a b=S->a=b):∀{a b:G D},(a.length==b.length&&(a.zip b).all λp=>f p.1 p.2)=S->a=b:=by
 intro a
 induction a with
 |nil=>
  intro b h;cases b with
  |nil=>rfl
  |cons y s=>ext h
 |cons x r g=>
  intro b h;cases b with
  |nil=>ext h
  |cons y s=>rw[Ld]at h;let(e,d):=h;rw[afg,ZC,Ld]at d;let e:=eq_of_beq e;rw[i x y d.1,g (b:=s) (by rw[Ld];show#[beq_iff_eq.mpr (by simpa using e),d.2])]
def qW:∀(n:Nat) (a b:D),dq n a b=S->a=b:=by
 intro n
 induction n with
 |zero=>intro a b h;ext h
 |succ n d=>
  intro a b h;unfold dq at h;split at h
  .ext h
  .rw[eq_of_beq h]
  .rw[eq_of_beq h]
  .rfl
  .rw[eq_of_beq h]
  .rename_i e;ext e;rw[qL d h]
  .rename_i e;ext e;rw[qL d h]
  .ext h
def OJ(r:Res RV)(d:D):Bool:=match r with
 |.ok (.fz e)=>dq 8 e d
 |_=>M
def lx{r:Res RV}{d:D}(h:OJ r d=S):r=.ok (.fz d):=by
 unfold OJ at h;split at h
 .rw[qW _ _ _ h]
 .ext h
def Vj(r:Res RV)(ds:G D):Bool:=match r with
 |.ok (.ow es)=>dq 8 (.list es) (.list ds)
 |_=>M
def Rp{r:Res RV}{ds:G D}(h:Vj r ds=S):r=.ok (.ow ds):=by
 unfold Vj at h;split at h
 .cases qW _ _ _ h;rfl
 .ext h
structure DK(ω:aO)(Q T l:Nat)(fr:D)(b:Int)(ks:G Nat)(g:Nat->Int×(Int×Int))(bed st:D):Prop where
 d:ω[Q]?=R (dC T bed st)
 t:TL ω T l fr b ks g
section
variable{ω:aO}{Q T l:Nat}{Z:D}{b:Int}{t:cc Nat}{g:Nat->Int×(Int×Int)}{bed st:D}
def DK.ne(h:DK ω Q T l Z b t g bed st):Q≠T/\Q≠l/\Q∉t:=by
 show#[λz=>?_,λz=>?_,λz=>?_]
 .subst z;let:=h.d.symm.trans h.t.t;show b4 (show("Desk":Str)= "Teller" from d6 (λc:ck Cell=>match c with|some (.obj C _)=>C|_=> "") this) (by left)
 .subst z;let:=h.d.symm.trans h.t.l;ext this
 .let(j,a):=Zb.mp z;let:=h.d.symm.trans (h.t.k j Q a);show b4 (show("Desk":Str)= "OneKey" from d6 (λc:ck Cell=>match c with|some (.obj C _)=>C|_=> "") this) (by left)
def R0(c:Str×Nat):Evn:=if c.1= "down" then .down c.2 else .up c.2
def v3(n:Int)(cs:G (Str×Nat)):G Evn:=(cs.filter λc=>decide ((c.2:Int)<n)).map R0++[.turn]
def Sb{c:Str×Nat}(h:c.1= "down"\/c.1= "up"):sO c=mZ (R0 c):=by
 let(x,k):=c;rcases h with h|h
 .let h:x= "down":=h;subst h;rfl
 .let h:x= "up":=h;subst h;rfl
def Ru{B:Bd}{cs:G (Str×Nat)}:∀e∈v3 B.n cs,EV B e:=by
 intro e a;rcases Y3.mp a with a|a
 .let(c,d,rfl):=Yy.mp a
  let:=b3 (YF.mp d).2;ext R0;split
  .show this
  .show this
 .rw[Yh.mp a];trivial
def TD{g:Nat->Int×(Int×Int)}{ws:G Str}{n:Nat}:∀c∈sT g ws n,c.1= "down"\/c.1= "up":=by
 intro c a;let(j,_,h):=ZE.mp a;unfold cw at h;split at h
 .ext h
 .ext h
  ext tw;split
  .show .inl W
  .show .inr W
def vZ{B:Bd}{s:Stn}(h:DK ω Q T l Z b t g (bD B) (gw s))(v:VB B)(C:SW B s){V:D}{ws:cc Str}(hn:ws.length=t.length)(G:kT [Z,V]=.ok (.fz (.tuple (ws.map .str))))(F:∀w∈ws,w= "up"\/w= "sure"\/w= "unsure")(J:∀j,j<t.length->(g j).2.1=0\/(g j).2.1=1)(H:t.length<=100)
  (q:∀i,i<=(v3 B.n (sT g ws t.length)).length->(dY B s ((v3 B.n (sT g ws t.length)).take i)).2.flatten.length<=1000) {z:Str} (hz:cN [.list ((dY B s (v3 B.n (sT g ws t.length))).2.flatten.map xS)]=.ok (.fz (.str z))):
  ∃k,eP [.rf Q,.fz V] ω=.ok (.fz (.str z)) k/\DK k Q T l Z b t (AH b g ws) (bD B) (gw (dY B s (v3 B.n (sT g ws t.length))).1)/\Kp (Q::t) ω k:=by
 let ne:=h.ne;let lt:=h.t.lt;let R:=(X0.mp h.d).1;let(a,e1,u,A,k1):=KR h.t hn G F J H;let U:=(X0.mp u).1;let d1:=k1 _ _ h.d ne.2.2;let cl:=zQ g ws t.length;generalize hcs:sT g ws t.length=cs at*;let r:(a.set ω.length .dead)[Q]?=_:=dh () d1;let cm:jF 1 [0] (i8 (au 2)) (dW 0) (aZ (i6 uR (ag (am aK (aa 0) (~~~1))) (i9 (aY "Desk" "bed" (au 1)) (ag (~~~0))))) (ag (aa 0)) [cL (.rf Q),-(V),cL (.rf ω.length)] a=.ok (.rf (a.set ω.length .dead).length) (a.set ω.length .dead++[Cell.lst (((cs.filter λc=>decide ((c.2:Int)<B.n)).map sO).map .fz)]):=by show pZ (v5 (aA W) u) ?_;show(Bx sO (λc=>decide ((c.2:Int)<B.n)) (λρ=>∃o,ρ=[o,cL (.rf Q)]) cs _ [] #[CL,W] (by rw[ZZ];ext) ?_);rintro c _ ρ ⟨o,rfl⟩;show#[[-(sO c),cL (.rf Q)],W,?_,af (by ext:0),_,W];show aX (cz (af (d:=nd c.2) (bh (rv:=.fz (nd c.2)) (ar W) aP W W i7)) (c8 (dM (aA W) r Nj) (af (d:=.int 0) aP) (iS:aK (bD B) (.int 0)=-(.int B.n))) (bR (oQ _ _)))
 let K:(cs.filter λc=>decide ((c.2:Int)<B.n)).map sO++[.tuple [.str "turn",.int 0]]=(v3 B.n cs).map mZ:=by ext v3;rw[YH,YW];congr 1;show Zz λc I=>Sb ?_;let:=TD (g:=g) (ws:=ws) (n:=t.length) c;rw[hcs]at this;show this (YF.mp I).1
 generalize hω2:a.set ω.length .dead=ω2 at*;let X:ω2.length=a.length:=by rw[<-hω2,Y7]
 let k2:Kp t ω ω2:=λj c e f=>by rw[<-hω2];let:=(X0.mp e).1;show dh () (k1 j c e f)
 let y:TL ω2 T l Z b t (AH b g ws):=by rw[<-hω2];show A.kp (S:=[ω.length]) (Kp.set X9) (by rw[Yh];ext) (by rw[Yh];ext) λx m=>by rw[Yh];let:=lt.2.2 x m;ext
 let E:i6 cH (jF 1 [0] (i8 (au 2)) (dW 0) (aZ (i6 uR (ag (am aK (aa 0) (~~~1))) (i9 (aY "Desk" "bed" (au 1)) (ag (~~~0))))) (ag (aa 0))) (ag (bV {pC (.tuple [.str "turn",.int 0])})) [cL (.rf Q),-(V),cL (.rf ω.length)] a=.ok (.rf (ω2.length+2)) (ω2++[Cell.lst (((cs.filter λc=>decide ((c.2:Int)<B.n)).map sO).map .fz),Cell.lst ([.tuple [.str "turn",.int 0]].map .fz),Cell.lst (((v3 B.n cs).map mZ).map .fz)]):=by
  let P:(ω2++[Cell.lst (((cs.filter λc=>decide ((c.2:Int)<B.n)).map sO).map .fz)]++[.lst ([.tuple [.str "turn",.int 0]].map .fz)])[ω2.length]?=cL (Cell.lst (((cs.filter λc=>decide ((c.2:Int)<B.n)).map sO).map .fz)):=dF aH;let O:(ω2++[Cell.lst (((cs.filter λc=>decide ((c.2:Int)<B.n)).map sO).map .fz)]++[.lst ([.tuple [.str "turn",.int 0]].map .fz)])[(ω2++[Cell.lst (((cs.filter λc=>decide ((c.2:Int)<B.n)).map sO).map .fz)]).length]?=cL (Cell.lst ([.tuple [.str "turn",.int 0]].map .fz)):=aH;let Y:(cs.filter λc=>decide ((c.2:Int)<B.n)).length<=cs.length:=ZF _ _;let N:cH (.list ((cs.filter λc=>decide ((c.2:Int)<B.n)).map sO)) (.list [.tuple [.str "turn",.int 0]])=cL (.ow ((v3 B.n cs).map mZ)):=by rw[<-K];show(if((cs.filter λc=>decide ((c.2:Int)<B.n)).map sO).length+1<=1000000 then cL (RV.ow _)else CL)=_;rw[ax (by rw[X4];ext)]
  show(cz cm (dD (ds:=[.tuple [.str "turn",.int 0]]) (by ext:1)) (Ji (gB P) (gB O) N)).trans ?_;congr 1
  .simp only[Yb,Z1]
  .simp only[YR];rfl
 let k5:Kp [] ω2 (ω2++[Cell.lst (((cs.filter λc=>decide ((c.2:Int)<B.n)).map sO).map .fz),Cell.lst ([.tuple [.str "turn",.int 0]].map .fz),Cell.lst (((v3 B.n cs).map mZ).map .fz)]):=Kp.app;let e5:(ω2++[Cell.lst (((cs.filter λc=>decide ((c.2:Int)<B.n)).map sO).map .fz),Cell.lst ([.tuple [.str "turn",.int 0]].map .fz),Cell.lst (((v3 B.n cs).map mZ).map .fz)])[ω2.length+2]?=cL (Cell.lst (((v3 B.n cs).map mZ).map .fz)):=by rw[Ys (),ad8];rfl
 generalize ω2++[Cell.lst (((cs.filter λc=>decide ((c.2:Int)<B.n)).map sO).map .fz),Cell.lst ([.tuple [.str "turn",.int 0]].map .fz),Cell.lst (((v3 B.n cs).map mZ).map .fz)]=ω5 at*;let M:=k5 _ _ r (by nofun);let(p,e6,L,k6):=yz v C Ru M e5 q hz;show#[p,?_,#[L,?_],?_]
 .show eG (ρ:=[cL (.rf Q),-(V),CL]) W ?_;ext dG;show aJ (dR (ρ1:=[cL (.rf Q),-(V),cL (.rf ω.length)]) (dI (dM (aA W) h.d wS) h.t.t NU (aq (af (d:=V) (by ext:0)) aB) W e1) W) ?_;show cJ (dI (aA W) d1 T3 (aq E aB) W e6)
 .show(y.kp k5 (by nofun) (by nofun) λ_ _ z=>by ext z).kp k6 ?_ ?_ ?_
  .simp only[Yg,Y0,or_false];let:=ne.1;ext
  .simp only[Yg,Y0,or_false];let:=ne.2.1;ext
  .intro x m z
   simp only[Yg,Y0,or_false]at z;rcases z with rfl|z
   .show ne.2.2 m
   .let:=lt.2.2 x m;ext
 .intro j c e f
  let:=(X0.mp e).1;show k6 j c (k5 j c (k2 j c e λz=>f (Ya _ z)) (by nofun)) λz=>?_;simp only[Yg,Y0,or_false]at z;rcases z with rfl|z
  .show f X9
  .omega
end
def C5{a b:Str}{v:Bool}(c:X2.strOk a=S)(d:X2.strOk b=S)(h:decide (a=b)=v):bv (.str a) (.str b)=-(.bool v):=by rw[MF c d,h]
section
variable{X:aO}{Q T l:Nat}{Z:D}{b:Int}{U:cc Nat}{g:Nat->Int×(Int×Int)}{N L:D}
def wX(h:DK X Q T l Z b U g N L){x:Str}{a:D}(i:dQ [.str x]=.ok (.fz a)):∃c,fH [.rf Q,.fz (.str x)] X=.ok (.fz (.str "ok")) c/\DK c Q T l Z b U g a jQ/\Kp [Q] X c:=by let ne:=h.ne;let f:=gp (d:=dC T a L) h.d;show#[X.set Q (dC T a jQ),?_,#[gp h.d,h.t.kp (S:=[Q]) (Kp.set X9) (by rw[Yh];show d0 ne.1) (by rw[Yh];show d0 ne.2.1) λx e=>by rw[Yh];show λz=>ne.2.2 (z▸e)],Kp.set X9];show eG (ρ:=[R (.rf Q),-(.str x)]) W ?_;ext dU;show aJ (di (x:=.fz a) (af (by ext:1)) (aA W) h.d (by show 3<100;decide)) ?_;rw[Ti];show aJ (di (x:=.fz jQ) (af aP) (aA W) f (by show 3<100;decide)) ?_;rw[Pe,aaJ];show cJ (af aP)
def sZ(h:DK X Q T l Z b U g N L){a d1:D}{b':Int}{k:G D}(q:k.length<=100)(t:cg [a,d1,.list k]=.ok (.fz (.tuple [a,d1,.tuple k]))):∃s I F C,et [.rf Q,.fz (.tuple [a,d1,.int b',.tuple k])] X=.ok (.fz (.str "ok")) s/\C.length=k.length/\DK s Q I F (.tuple [a,d1,.tuple k]) b' C (λ_=>(0,(0,0))) N jQ/\Kp [Q] X s:=by
 let w:=(X0.mp h.d).1;let(f,e1,i,k1):=DS (ω:=X) (d1:=a) (d2:=d1) (b:=b') q;let e:=k1 _ _ h.d (by nofun);let u:=gp (d:=dC X.length N L) e;let lt:=i.lt;let B:aK (.tuple [a,d1,.int b',.tuple k]) (.int 0)=-(a):=iS;let A:aK (.tuple [a,d1,.int b',.tuple k]) (.int 1)=-(d1):=i7;let o:aK (.tuple [a,d1,.int b',.tuple k]) (.int 2)=-(.int b'):=pE;let y:aK (.tuple [a,d1,.int b',.tuple k]) (.int 3)=-(.tuple k):=U7 () W;let n:ou [.tuple k]=R (.ow k):=W;show#[f.set Q (dC X.length N jQ),X.length,X.length+1+k.length,ZL (X.length+1) k.length,?_,ab4,#[gp e,i.kp (S:=[Q]) (Kp.set X9) (by rw[Yh];ext) (by rw[Yh];ext) λx p=>?_],?_]
 .show eG (ρ:=[R (.rf Q),-(.tuple [a,d1,.int b',.tuple k])]) W ?_;ext cS;let v:ag (aW cg 3 {am aK (aa 1) (~~~0),am aK (aa 1) (~~~1),cF ou {am aK (aa 1) (~~~3)}}) [R (.rf Q),-(.tuple [a,d1,.int b',.tuple k])] X=.ok (.fz (.tuple [a,d1,.tuple k])) X:=af (jz (rv:=.fz (.tuple [a,d1,.tuple k])) (ds:=[a,d1,.list k]) (aE (by ext:0) (aE (by ext:0) (aE (iJ (rv:=.ow k) (aE (by ext:0) bf) W n) bf))) W W t);show aJ (di (x:=.rf X.length) (qN (aq v (aq (af (d:=.int b') (bh (rv:=.fz (.int b')) (ar W) aP W W o)) aB)) W e1) (aA W) e (by show 3<100;decide)) ?_;rw[Fb];show aJ (di (x:=.fz jQ) (af aP) (aA W) u (by show 3<100;decide)) ?_;rw[Pe,aaJ];show cJ (af aP)
 .rw[Yh];let:=(afs.mp p).1;ext
 .intro j c r m;rw[Yh]at m;show dh (d0 m) (k1 j c r (by nofun))
def KP(h:DK X Q T l Z b U g N L){a x:Str}{f:D}(n:bQ [.str a]=.ok (.fz (.tuple [.str "bed",.str x])))(i:dQ [.str x]=.ok (.fz f)):∃c,cy [.rf Q,.fz (.str a)] X=.ok (.fz (.str "ok")) c/\DK c Q T l Z b U g f jQ/\Kp [Q] X c:=by let(c,e,k):=wX h i;let m:bv (.str "bed") (.str "frame")=-(.bool M):=C5 (by left) (by left) (by left);let j:bv (.str "bed") (.str "bed")=-(.bool S):=C5 (by left) (by left) (by left);show#[c,?_,k];show eG (ρ:=[R (.rf Q),-(.str a),P,P,P]) W ?_;ext eD;show aJ (dR (x:=.fz (.tuple [.str "bed",.str x])) (ρ1:=[R (.rf Q),-(.str a),-(.tuple [.str "bed",.str x]),P,P]) (af (by ext:1)) W) ?_;show aJ (dR (x:=.fz (.str "bed")) (ρ1:=[R (.rf Q),-(.str a),-(.tuple [.str "bed",.str x]),-(.str "bed"),P]) (af (bh (rv:=.fz (.str "bed")) (ar W) aP W W iS)) W) ?_;show aJ (dR (x:=.fz (.str x)) (ρ1:=[R (.rf Q),-(.str a),-(.tuple [.str "bed",.str x]),-(.str "bed"),-(.str x)]) (af (bh (rv:=.fz (.str x)) (ar W) aP W W i7)) W) ?_;show aJ (cC (aN (by ext:0)) cQ) ?_;show eR (dX (aN (by ext:0)) (cJ (dI (aA W) h.d Vd (aq (af (d:=.str x) (by ext:0)) aB) W e)))
def Cc(h:DK X Q T l Z b U g N L){a:Str}{f d1:D}{b':Int}{c:G D}(i:c.length<=100)(n:bQ [.str a]=.ok (.fz (.tuple [.str "frame",.tuple [f,d1,.int b',.tuple c]])))(j:cg [f,d1,.list c]=.ok (.fz (.tuple [f,d1,.tuple c]))):∃o r q p,cy [.rf Q,.fz (.str a)] X=.ok (.fz (.str "ok")) o/\p.length=c.length/\DK o Q r q (.tuple [f,d1,.tuple c]) b' p (λ_=>(0,(0,0))) N jQ/\Kp [Q] X o:=by let(o,r,q,p,e,k):=sZ h (b':=b') i j;let m:bv (.str "frame") (.str "frame")=-(.bool S):=C5 (by left) (by left) (by left);show#[o,r,q,p,?_,k];generalize t:X2.tuple [f,d1,.int b',.tuple c]=x at*;show eG (ρ:=[R (.rf Q),-(.str a),P,P,P]) W ?_;ext eD;show aJ (dR (x:=.fz (.tuple [.str "frame",x])) (ρ1:=[R (.rf Q),-(.str a),-(.tuple [.str "frame",x]),P,P]) (af (by ext:1)) W) ?_;show aJ (dR (x:=.fz (.str "frame")) (ρ1:=[R (.rf Q),-(.str a),-(.tuple [.str "frame",x]),-(.str "frame"),P]) (af (bh (rv:=.fz (.str "frame")) (ar W) aP W W iS)) W) ?_;show aJ (dR (x:=.fz x) (ρ1:=[R (.rf Q),-(.str a),-(.tuple [.str "frame",x]),-(.str "frame"),-(x)]) (af (bh (rv:=.fz x) (ar W) aP W W i7)) W) ?_;show eR (dX (aN (by ext:0)) (cJ (dI (aA W) h.d Vc (aq (af (d:=x) (by ext:0)) aB) W e)))
def Hb{B:Bd}{s:Stn}(h:DK X Q T l Z b U g (bD B) (gw s))(m:VB B)(o:SW B s){a:Str}{rd:D}(A:bQ [.str a]=.ok (.fz (.tuple [.str "scan",rd]))){ws:G Str}(C:ws.length=U.length)(q:kT [Z,rd]=.ok (.fz (.tuple (ws.map .str))))(p:∀w∈ws,w= "up"\/w= "sure"\/w= "unsure")(t:∀j,j<U.length->(g j).2.1=0\/(g j).2.1=1)(r:U.length<=100)
  (f:∀i,i<=(v3 B.n (sT g ws U.length)).length->(dY B s ((v3 B.n (sT g ws U.length)).take i)).2.flatten.length<=1000) {z:Str} (n:cN [.list ((dY B s (v3 B.n (sT g ws U.length))).2.flatten.map xS)]=.ok (.fz (.str z))):
  ∃c,cy [.rf Q,.fz (.str a)] X=.ok (.fz (.str z)) c/\DK c Q T l Z b U (AH b g ws) (bD B) (gw (dY B s (v3 B.n (sT g ws U.length))).1)/\Kp (Q::U) X c:=by
 let(c,e,k):=vZ h m o C q p t r f n;let y:bv (.str "scan") (.str "frame")=-(.bool M):=C5 (by left) (by left) (by left);let v:bv (.str "scan") (.str "bed")=-(.bool M):=C5 (by left) (by left) (by left);let u:bv (.str "scan") (.str "scan")=-(.bool S):=C5 (by left) (by left) (by left);show#[c,?_,k];show eG (ρ:=[R (.rf Q),-(.str a),P,P,P]) W ?_;ext eD;show aJ (dR (x:=.fz (.tuple [.str "scan",rd])) (ρ1:=[R (.rf Q),-(.str a),-(.tuple [.str "scan",rd]),P,P]) (af (by ext:1)) W) ?_;show aJ (dR (x:=.fz (.str "scan")) (ρ1:=[R (.rf Q),-(.str a),-(.tuple [.str "scan",rd]),-(.str "scan"),P]) (af (bh (rv:=.fz (.str "scan")) (ar W) aP W W iS)) W) ?_;show aJ (dR (x:=.fz rd) (ρ1:=[R (.rf Q),-(.str a),-(.tuple [.str "scan",rd]),-(.str "scan"),-(rd)]) (af (bh (rv:=.fz rd) (ar W) aP W W i7)) W) ?_;show aJ (cC (aN (by ext:0)) cQ) ?_;show aJ (cC (aN (by ext:0)) cQ) ?_;show eR (dX (aN (by ext:0)) (cJ (dI (aA W) h.d Vm (aq (af (d:=rd) (by ext:0)) aB) W e)))
theorem HL:bQ [.str "keys"]=.ok (.fz (.tuple [.str "keys",.tuple []])):=lx (by left)
def F8(h:DK X Q T l Z b U g N L)(a:U.length<=100){z:Str}(c:dJ [.tuple (a8 (HV g U.length))]=.ok (.fz (.str z))):∃J,cy [.rf Q,.fz (.str "keys")] X=.ok (.fz (.str z)) (X++J):=by
 let(J,e):=LP h.t a;let p:=HL;let o:bv (.str "keys") (.str "frame")=-(.bool M):=C5 (by left) (by left) (by left);let n:bv (.str "keys") (.str "bed")=-(.bool M):=C5 (by left) (by left) (by left);let m:bv (.str "keys") (.str "scan")=-(.bool M):=C5 (by left) (by left) (by left);let j:bv (.str "keys") (.str "turn")=-(.bool M):=C5 (by left) (by left) (by left);let i:bv (.str "keys") (.str "keys")=-(.bool S):=C5 (by left) (by left) (by left);let f:kJ (.str "keys") (.tuple [.str "down",.str "up"])=-(.bool M):=by rw[V3 (by left) (by left) (by left)];rfl
 show#[J,?_];show eG (ρ:=[R (.rf Q),-(.str "keys"),P,P,P]) W ?_;ext eD;show aJ (dR (x:=.fz (.tuple [.str "keys",.tuple []])) (ρ1:=[R (.rf Q),-(.str "keys"),-(.tuple [.str "keys",.tuple []]),P,P]) (af (by ext:1)) W) ?_;show aJ (dR (x:=.fz (.str "keys")) (ρ1:=[R (.rf Q),-(.str "keys"),-(.tuple [.str "keys",.tuple []]),-(.str "keys"),P]) (af (bh (rv:=.fz (.str "keys")) (ar W) aP W W iS)) W) ?_;show aJ (dR (x:=.fz (.tuple [])) (ρ1:=[R (.rf Q),-(.str "keys"),-(.tuple [.str "keys",.tuple []]),-(.str "keys"),-(.tuple [])]) (af (bh (rv:=.fz (.tuple [])) (ar W) aP W W i7)) W) ?_;show aJ (cC (aN (by ext:0)) cQ) ?_;show aJ (cC (aN (by ext:0)) cQ) ?_;show aJ (cC (aN (by ext:0)) cQ) ?_;show aJ (cC (aN (by ext:0)) cQ) ?_;show aJ (cC (aN (by ext:0)) cQ) ?_;show eR (dX (aN (by ext:0)) (cJ (qp (ds:=[.tuple (a8 (HV g U.length))]) (aq (dI (dM (aA W) h.d wS) h.t.t Re aB W e) aB) W c)))
end
abbrev U1:D:=.tuple [.int 1,.int 1,.tuple [.tuple [.int 0,.int 0]]]
abbrev Hd:D:=.tuple [.int 1,.tuple [.tuple [.tuple [.str "letter",.str "a"]]],.tuple [],.int 1]
theorem QY:cg [.int 1,.int 1,.list [.tuple [.int 0,.int 0]]]=.ok (.fz U1):=lx (by rfl)
theorem IG:dQ [.str "keys 1 wait 1\nlayer a"]=.ok (.fz Hd):=lx (by left)
def QJ{ω:aO}:∃k T l q,fG [.rf ω.length] (ω++[.obj "Desk" []])=.ok (.fz .none) k/\DK k ω.length T l U1 0 q (λ_=>(0,(0,0))) Hd jQ/\Kp [] ω k:=by
 let(a,e1,g,k1):=DS (ω:=ω++[.obj "Desk" []]) (d1:=.int 1) (d2:=.int 1) (sps:=[.tuple [.int 0,.int 0]]) (b:=0) ();let f:(ω++[Cell.obj "Desk" []]).length=ω.length+1:=by rw[Yb];rfl
 let e:a[ω.length]?=R (.obj "Desk" []):=k1 _ _ aH (by nofun);let d1:=gp (d:=.obj "Desk" (cX "teller" (.rf (ω.length+1)) [])) e;let r:=gp (d:=.obj "Desk" (cX "bed" (.fz Hd) (cX "teller" (.rf (ω.length+1)) []))) e;rw[f]at e1 g;let p:=QY;let b1:=IG;show#[a.set ω.length (dC (ω.length+1) Hd jQ),ω.length+1,_,_,?_,#[gp e,g.kp (S:=[ω.length]) (Kp.set X9) (by rw[Yh];ext) (by rw[Yh];show ω.length+1+1+1≠_;ext) λx m=>?_],?_]
 .show ji (ρ:=[R (.rf ω.length)]) W (ρ1:=[R (.rf ω.length)]) ?_;ext dS;let o:ag (aW cg 3 {~~~1,~~~1,bV {bT {~~~0,~~~0}}}) [R (.rf ω.length)] (ω++[Cell.obj "Desk" []])=.ok (.fz U1) (ω++[Cell.obj "Desk" []]):=af (jz (rv:=.fz U1) (ds:=[.int 1,.int 1,.list [.tuple [.int 0,.int 0]]]) (by ext:0) W W p);let h:=qN (C:= "Teller") (F:=b0) (n:=3) (aq o (aq (af (d:=.int 0) aP:ag (~~~0) [R (.rf ω.length)] (ω++[Cell.obj "Desk" []])=_) aB)) W (by rw[f];show e1);rw[f]at h;show aJ (di (x:=.rf (ω.length+1)) h (aA W) e (by show 0<100;decide)) ?_;show aJ (di (x:=.fz Hd) (af (by ext:1)) (aA W) d1 (by show 1<100;decide)) ?_;rw[aaJ];show(di (x:=.fz jQ) (af aP) (aA W) r (by show 2<100;decide)).trans ?_;rw[S5,aaJ]
 .rw[Yh];let:=(afs.mp m).1;ext
 .intro j c i _;let:=(X0.mp i).1;show dh () (k1 j c (dF i) (by nofun))
def lb(n w:Nat):Bd:=#[n,[(Yw n).map .YG],[],w]
def T0{n w:Nat}(g:1<=n)(f:n<=5)(e:1<=w)(d:w<=4):VB (lb n w):=by
 show#[by show(1:Int)<=(n:Int);ext,by show(n:Int)<=5;ext,X6 1,by show 1<=3;decide,?_,Zj _,(λc b=>by ext b),aad,by show(1:Int)<=(w:Int);ext,by show(w:Int)<=4;ext];intro i l h;cases i with
 |succ i=>ext h
 |zero=>ext h;show#[by rw[X4,YL];rfl,λm hm=>?_];let(k,a,rfl):=Yy.mp hm;let:=Yv.mp a;show k<26;ext
def ng(A:Nat->Bool):Ac:=λk=>if A k=S then R (.YG k)else P
def lw(A:Nat->Bool):Stn:=#[ng A,P,P]
def xX(A:Nat->Bool)(k:Nat)(v:Bool):Nat->Bool:=λj=>if j=k then v else A j
def Tt(A:Nat->Bool)(k:Nat):kH (ng A) k (R (.YG k))=ng (xX A k S):=by
 funext j;unfold kH ng xX;by_cases h:j=k
 .subst h;rw[ax W,ax W,ax W]
 .rw[a6 h,a6 h]
def TY(A:Nat->Bool)(k:Nat):kH (ng A) k P=ng (xX A k M):=by
 funext j;unfold kH ng xX;by_cases h:j=k
 .subst h;rw[ax W,ax W,a6 X7]
 .rw[a6 h,a6 h]
def No{A:Nat->Bool}{c:Nat}(h:A c=M):mM (ng A) (.YG c)=M:=by
 show bg λhm=>?_;let(p,a,e):=Yy.mp hm;let:=(j6.mp a).2;unfold ng at this;split at this
 .rename_i q
  let:=Yq this;rw[<-this]at e;let e:p.1=c:=by injection e
  rw[e,h]at q;ext q
 .ext this
def Tr(A:Nat->Bool):pR (ng A) P=0:=by
 show sR (ng A)=0;ext sR;rw[adi.mpr λp a=>?_]
 .rfl
 .let:=(j6.mp a).2
  unfold ng at this;split at this
  .let(k,m):=p;let t:Mn.YG k=m:=Yq this;subst t;rfl
  .ext this
def Qu{n w k:Nat}(h:k<n):look (lb n w) 0 k=.YG k:=by
 let e:sL (lb n w) 0 k=.YG k:=by show(((Yw n).map Mn.YG)[k]?).getD .none=_;rw[Yl,abO h];rfl
 ext look;rw[show(0:Int).toNat=0 from rfl,e];rfl
def Jh{n w k:Nat}{A:Nat->Bool}(a:k<n)(h:A k=M):bZ (lb n w) (lw A) (.down k)=(lw (xX A k S),[(k,S)]):=by
 let e0:ng A k=P:=by ext ng;rw[h];rfl
 show nX (lb n w) (lw A,[]) k=_;ext nX;rw[a6 (by show¬((ng A k).isSome||false)=S;rw[e0];decide),a6 (by show¬(M=S);decide)];show wm (lb n w) (pR (ng A) P) (kA (lw A) (look (lb n w) (pR (ng A) P) k),[]) k (look (lb n w) (pR (ng A) P) k)=_;rw[Tr,Qu a];show ia (lw A,[]) k (.YG k)=_;ext ia;show(({(lw A)with ac:=kH (ng A) k (R (.YG k))}:Stn),[]++nG (ng A) (.YG k))=_;let b:nG (ng A) (.YG k)=[(k,S)]:=by show(if mM (ng A) (.YG k)=S then[]else[(k,S)])=_;rw[No h,a6 X7]
 rw[Tt,b];rfl
def Sz{n w k:Nat}{A:Nat->Bool}(h:A k=S):bZ (lb n w) (lw A) (.up k)=(lw (xX A k M),[(k,M)]):=by
 let e0:ng A k=R (.YG k):=by ext ng;rw[h];rfl
 show go (lw A,[]) k=_;ext go;show(match ng A k with
  |some a=>(({(lw A)with ac:=kH (ng A) k P}:Stn),[]++J6 (kH (ng A) k P) a)
  |none=>(lw A,[]))=_
 rw[e0];dsimp only;let b:J6 (ng (xX A k M)) (.YG k)=[(k,M)]:=by show(if mM (ng (xX A k M)) (.YG k)=S then[]else[(k,M)])=_;rw[No (by ext xX;rw[ax W]),a6 X7]
 rw[TY,b];rfl
def C1(c:Nat×Bool):Evn:=if c.2=S then .down c.1 else .up c.1
def GR(A:Nat->Bool):G (Nat×Bool)->Nat->Bool
 |[]=>A
 |c::r=>GR (xX A c.1 c.2) r
def wL{n w:Nat}:∀(cs:G (Nat×Bool)) (A:Nat->Bool),(cs.map (·.1)).Nodup->(∀c∈cs,c.1<n/\A c.1= !c.2)->dY (lb n w) (lw A) (cs.map C1++[.turn])=(lw (GR A cs),cs.map (λc=>[c])++[[]]):=by
 intro cs
 induction cs with
 |nil=>intro A _ _;rfl
 |cons c r i=>
  intro A nd h;rw[Yi,Y6]at nd;let b:=h c X9;let g:bZ (lb n w) (lw A) (C1 c)=(lw (xX A c.1 c.2),[c]):=by
   let(k,v):=c;cases v with
   |true=>show Jh b.1 b.2
   |false=>show Sz b.2
  let e:=i (xX A c.1 c.2) nd.2 λd a=>#[(h d (Ya _ a)).1,by ext xX;rw[a6 (λz:d.1=c.1=>nd.1 (by rw[<-z];show aaG (f:=(·.1)) a))];show(h d (Ya _ a)).2];show((dY (lb n w) (bZ (lb n w) (lw A) (C1 c)).1 (r.map C1++[.turn])).1,(bZ (lb n w) (lw A) (C1 c)).2::(dY (lb n w) (bZ (lb n w) (lw A) (C1 c)).1 (r.map C1++[.turn])).2)=_;rw[g];dsimp only;rw[e];rfl
def Pa:∀(cs:G (Nat×Bool)) (A:Nat->Bool) (j:Nat),(cs.map (·.1)).Nodup->GR A cs j=match cs.find? (λc=>c.1==j)with|some c=>c.2|none=>A j:=by
 intro cs
 induction cs with
 |nil=>intro A j _;rfl
 |cons c r a=>
  intro A j nd;rw[Yi,Y6]at nd;show GR (xX A c.1 c.2) r j=_;rw[a _ j nd.2];by_cases h:c.1=j
  .let f:r.find? (λc=>c.1==j)=P:=ab3.mpr λd b z=>nd.1 (by rw[h,<-eq_of_beq z];show aaG (f:=(·.1)) b);rw[f,List.find?_cons_of_pos (by rw[h];show ec j)];dsimp only;ext xX;rw[ax h.symm]
  .rw[List.find?_cons_of_neg (by rw[beq_iff_eq];show h)]
   cases r.find? (λc=>c.1==j)with
   |some d=>rfl
   |none=>dsimp only;ext xX;rw[a6 (d0 h)]
def tG(b:Int):Int->Int×Int->G Int->Int×Int
 |_,s,[]=>s
 |t,s,r::rs=>tG b (t+1) (kS b t s r) rs
def uo(t:Int)(s:Int×Int)(r:Int):z Bool:=if kN t s r=S then P else R (decide (r=1))
def BB(d:Bool)(b:Int):Int->Int×Int->G Int->Nat
 |_,_,[]=>0
 |t,s,r::rs=>(if uo t s r=R d then 1 else 0)+BB d b (t+1) (kS b t s r) rs
def Sy{t:Int}{s:Int×Int}{r:Int}(h:r=s.1\/t<s.2):kN t s r=S:=by
 ext kN;rcases h with h|h
 .rw[a7 h];rfl
 .rw[a7 h,ahU]
def U6{t:Int}{s:Int×Int}{r:Int}(h:r≠s.1)(a:s.2<=t):kN t s r=M:=by ext kN;rw[bg h,bg ()];rfl
def xA(b:Int):∀(a:G Int) (t:Int) (s:Int×Int),(∀(i:Nat) (r:Int),a[i]?=R r->r=s.1\/t+(i:Int)<s.2)->tG b t s a=s/\∀d,BB d b t s a=0:=by
 intro a
 induction a with
 |nil=>intro t s _;show#[W,λ_=>W]
 |cons r a f=>
  intro t s h;let k:kN t s r=S:=Sy (by let:=h 0 r W;simpa using this);let e:kS b t s r=s:=by ext kS;rw[ax k]
  let(l,j):=f (t+1) s λi x g=>by
   let:=h (i+1) x (by simpa using g);rcases this with z|z
   .show .inl z
   .show .inr (by let:=z;push_cast at this;ext)
  show#[by show tG b (t+1) (kS b t s r) a=s;rw[e,l],λd=>?_];show(if uo t s r=R d then 1 else 0)+BB d b (t+1) (kS b t s r) a=0;rw[e,j d,show uo t s r=P by ext uo;rw[ax k]];rfl
def Kf(b:Int)(K:0<=b){v l:Int}(H:v=0/\l=1\/v=1/\l=0)(e:Nat)(J:1<=e):∀(a:cc Int) (t f T:Int),(∀r∈a,r=0\/r=1)->f<=t+(a.length:Int)->t+(a.length:Int)=T->T<=t+b->∃c,c<=T+b/\tG b t (l,f) (a++X1 e v)=(v,c)/\∀d:Bool,BB d b t (l,f) (a++X1 e v)=if d=decide (v=1)then 1 else 0:=by
 let g:∀(j:cc Int) (t T:Int),(∀(i:Nat) (r:Int),j[i]?=R r->r=v\/t+1+(i:Int)<t+b)->t<=T->∀f,f<=t->∃c,c<=T+b/\tG b t (l,f) (v::j)=(v,c)/\∀d:Bool,BB d b t (l,f) (v::j)=if d=decide (v=1)then 1 else 0:=λj t T h I f m=>by
  let k:kN t (l,f) v=M:=U6 (by show v≠l;ext) m;let e1:kS b t (l,f) v=(v,t+b):=by ext kS;rw[k,a6 X7]
  let(w,u):=xA b j (t+1) (v,t+b) h;show#[t+b,by ext,by show tG b (t+1) (kS b t (l,f) v) j=_;rw[e1,w],λd=>?_];show(if uo t (l,f) v=R d then 1 else 0)+BB d b (t+1) (kS b t (l,f) v) j=_;rw[e1,u d,show uo t (l,f) v=R (decide (v=1)) by ext uo;rw[k,a6 X7]];by_cases q:d=decide (v=1)
  .rw[ax q,ax (by rw[q])]
  .rw[a6 q,a6 (λz=>q (Yq z).symm)]
 intro a
 induction a with
 |nil=>intro t f T _ m n _;let m:f<=t+0:=m;let n:t+0=T:=n;obtain⟨F,rfl⟩:∃k,e=k+1:=#[e - 1,by ext];show g (X1 F v) t T (λi r L=>.inl (aa7 (YD L))) () f ()
 |cons r a A=>
  intro t f T y m n C;rw[Yf]at m n;let p:t+1+(a.length:Int)=T:=by push_cast at n;ext
  let o:f<=t+1+(a.length:Int):=by push_cast at m;ext
  by_cases q:r=v/\f<=t
  .let(rfl,q):=q
   show g (a++X1 e r) t T (λi x L=>?_) () f q;by_cases G:i<a.length
   .show .inr ()
   .rw[Ys ()]at L;show .inl (aa7 (YD L))
  .let k:kN t (l,f) r=S:=Sy (by
    show r=l\/t<f;let:=y r X9;ext)
   let e1:kS b t (l,f) r=(l,f):=by ext kS;rw[ax k]
   let(c,E,w,u):=A (t+1) f T (λx B=>y x (Ya _ B)) o p ();show#[c,E,by show tG b (t+1) (kS b t (l,f) r) (a++X1 e v)=_;rw[e1,w],λd=>?_];show(if uo t (l,f) r=R d then 1 else 0)+BB d b (t+1) (kS b t (l,f) r) (a++X1 e v)=_;rw[e1,u d,show uo t (l,f) r=P by ext uo;rw[ax k]];simp
def bx(m:Nat)(p:Nat->Bool):G Nat:=(Yw m).filter p
def bt(p:Nat->Bool)(j:Nat):Int:=if p j=S then 1 else 0
def wb(m:Nat)(p:Nat->Bool):G Str:=(Yw m).map λj=>if p j=S then "sure" else "up"
def mv(s m:Nat):D:=if s=0 then .tuple [.int 1,.int m]else .tuple [.int m,.int 1]
def Ey(s m:Nat):G D:=(Yw m).map λj=>if s=0 then .tuple [.int 0,nd j]else .tuple [nd j,.int 0]
def xT(s m:Nat):D:=if s=0 then .tuple [.int 1,.int m,.tuple (Ey s m)]else .tuple [.int m,.int 1,.tuple (Ey s m)]
def xp(x k:Nat):Bool:=x/2^k % 2==1
def b1(p:Nat->Bool)(k:Nat):Nat:=if p k=S then 1 else 0
def tq(p:Nat->Bool):Nat:=b1 p 0+2*b1 p 1+4*b1 p 2+8*b1 p 3+16*b1 p 4+32*b1 p 5
def gx(p:Nat->Bool)(k:Nat):b1 p k<=1:=by ext b1;split<;>ext
def Mb(p:Nat->Bool):tq p<64:=by let g:=gx p 0;let f:=gx p 1;let e:=gx p 2;let d:=gx p 3;let b:=gx p 4;let a:=gx p 5;ext tq;ext
def wC(p:Nat->Bool){k:Nat}(a:k<6):xp (tq p) k=p k:=by
 let i:=gx p 0;let h:=gx p 1;let g:=gx p 2;let f:=gx p 3;let d:=gx p 4;let b:=gx p 5;let e:tq p/2^k % 2=b1 p k:=by
  ext tq;obtain rfl|rfl|rfl|rfl|rfl|rfl:k=0\/k=1\/k=2\/k=3\/k=4\/k=5:=by ext
  all_goals ext
 ext xp;rw[e];ext b1;cases p k<;>rfl
theorem AY{m:Nat}(hm:m<=6)(p:Nat->Bool):bx m p=bx m (xp (tq p)):=aa2 λk a=>(wC p (by let:=Yv.mp a;ext)).symm
theorem IR{m:Nat}(hm:m<=6)(p:Nat->Bool):wb m p=wb m (xp (tq p)):=Zz λk a=>by rw[wC p (by let:=Yv.mp a;ext)]
def mP(m:Nat)(p:Nat->Bool)(k:Nat):Bool:=decide (k<m)&&p k
def HF{m k:Nat}{p:Nat->Bool}(h:k<m):mP m p k=p k:=by ext mP;rw[a7 h];rfl
theorem N8(m:Nat)(p:Nat->Bool):bx m (mP m p)=bx m p:=aa2 λk a=>HF (Yv.mp a)
theorem PN(m:Nat)(p:Nat->Bool):wb m (mP m p)=wb m p:=Zz λk a=>by rw[HF (Yv.mp a)]
def Hj{m:Nat}(i:1<=m)(d:m<=6)(p:Nat->Bool):tq (mP m p)<2^m:=by
 let z:∀k,m<=k->b1 (mP m p) k=0:=λk b=>by unfold b1 mP;rw[bg ()];rfl
 let j:=gx (mP m p) 0;let a:=gx (mP m p) 1;let h:=gx (mP m p) 2;let g:=gx (mP m p) 3;let f:=gx (mP m p) 4;let e:=gx (mP m p) 5;ext tq;obtain rfl|rfl|rfl|rfl|rfl|rfl:m=1\/m=2\/m=3\/m=4\/m=5\/m=6:=by ext
 .rw[z 1 (),z 2 (),z 3 (),z 4 (),z 5 ()];ext
 .rw[z 2 (),z 3 (),z 4 (),z 5 ()];ext
 .rw[z 3 (),z 4 (),z 5 ()];ext
 .rw[z 4 (),z 5 ()];ext
 .rw[z 5 ()];ext
 .omega
def AQ(s m x:Nat):Bool:=match cj [mv s m,.list (a8 (bx m (xp x)))]with
 |.ok (.fz (.str z))=>(match c7 (.str "scan ") (.str z)with
  |some (.fz (.str row))=>(match bQ [.str row]with
   |.ok (.fz (.tuple [.str w,a]))=>w== "scan"&&OJ (kT [xT s m,a]) (.tuple ((wb m (xp x)).map .str))
   |_=>M)
  |_=>M)
 |_=>M
def fE(s m k:Nat):Bool:=(Yw 16).all λx=>decide (2^m<=16*k+x)||AQ s m (16*k+x)
def QZ:fE 0 1 0=S:=by left
def Ol:fE 0 2 0=S:=by left
def NM:fE 0 3 0=S:=by left
def Rg:fE 0 4 0=S:=by left
def OH:fE 0 5 0=S:=by left
def Ov:fE 0 5 1=S:=by left
def PR:fE 0 6 0=S:=by left
def Oy:fE 0 6 1=S:=by left
def OL:fE 0 6 2=S:=by left
def Op:fE 0 6 3=S:=by left
def PK:fE 1 1 0=S:=by left
def Ox:fE 1 2 0=S:=by left
def Q6:fE 1 3 0=S:=by left
def N5:fE 1 4 0=S:=by left
def Oz:fE 1 5 0=S:=by left
def QE:fE 1 5 1=S:=by left
def RE:fE 1 6 0=S:=by left
def QT:fE 1 6 1=S:=by left
def PH:fE 1 6 2=S:=by left
def N2:fE 1 6 3=S:=by left
def F1{s m x:Nat}(d:s<2)(f:1<=m)(e:m<=6)(b:x<2^m):AQ s m x=S:=by
 let a:fE s m (x/16)=S->AQ s m x=S:=λh=>by let g:=Y8.mp h (x % 16) (Yv.mpr (Nat.mod_lt _ ()));rw[Nat.div_add_mod,bg ()]at g;show g
 apply a;obtain rfl|rfl:s=0\/s=1:=by ext
 .obtain rfl|rfl|rfl|rfl|rfl|rfl:m=1\/m=2\/m=3\/m=4\/m=5\/m=6:=by ext
  .rw[show x/16=0 by ext];show QZ
  .rw[show x/16=0 by ext];show Ol
  .rw[show x/16=0 by ext];show NM
  .rw[show x/16=0 by ext];show Rg
  .obtain h|h:x/16=0\/x/16=1:=by ext
   .rw[h];show OH
   .rw[h];show Ov
  .obtain h|h|h|h:x/16=0\/x/16=1\/x/16=2\/x/16=3:=by ext
   .rw[h];show PR
   .rw[h];show Oy
   .rw[h];show OL
   .rw[h];show Op
 .obtain rfl|rfl|rfl|rfl|rfl|rfl:m=1\/m=2\/m=3\/m=4\/m=5\/m=6:=by ext
  .rw[show x/16=0 by ext];show PK
  .rw[show x/16=0 by ext];show Ox
  .rw[show x/16=0 by ext];show Q6
  .rw[show x/16=0 by ext];show N5
  .obtain h|h:x/16=0\/x/16=1:=by ext
   .rw[h];show Oz
   .rw[h];show QE
  .obtain h|h|h|h:x/16=0\/x/16=1\/x/16=2\/x/16=3:=by ext
   .rw[h];show RE
   .rw[h];show QT
   .rw[h];show PH
   .rw[h];show N2
def G1{s m:Nat}(d:s<2)(b:1<=m)(a:m<=6)(p:Nat->Bool):∃z row c,cj [mv s m,.list (a8 (bx m p))]=.ok (.fz (.str z))/\c7 (.str "scan ") (.str z)=-(.str row)/\bQ [.str row]=.ok (.fz (.tuple [.str "scan",c]))/\kT [xT s m,c]=.ok (.fz (.tuple ((wb m p).map .str))):=by
 let h:=F1 d b a (Hj b a p);rw[<-N8 m p,<-PN m p,AY a (mP m p),IR a (mP m p)];unfold AQ at h;split at h
 .rename_i z e1
  split at h
  .rename_i row e2
   split at h
   .rename_i w c e3;rw[Ld]at h;rw[eq_of_beq h.1]at e3;show#[z,row,c,e1,e2,e3,lx h.2]
   .ext h
  .ext h
 .ext h
def Ml(m x:Nat):Bool:=match g6 (b7 (gN 0) bW (cF gv {aa 0}) (a8 (bx m (xp x))) [P] [])with
 |.ok a=>(match gy "," [.list a]with
  |some (.fz (.str kt))=>OJ (dJ [.tuple (a8 (bx m (xp x)))]) (.str (if kt= "" then "." else kt))&&X2.strOk kt
  |_=>M)
 |_=>M
def HU:∀m,m<7->∀x,x<64->Ml m x=S:=by left
def GQ{m:Nat}(a:m<=6)(p:Nat->Bool):∃b kt,g6 (b7 (gN 0) bW (cF gv {aa 0}) (a8 (bx m p)) [P] [])=.ok b/\gy "," [.list b]=-(.str kt)/\dJ [.tuple (a8 (bx m p))]=.ok (.fz (.str (if kt= "" then "." else kt)))/\X2.strOk kt=S:=by
 let h:=HU m () (tq p) (Mb p);rw[AY a p];unfold Ml at h;split at h
 .rename_i b e1
  split at h
  .rename_i kt e2;rw[Ld]at h;show#[b,kt,e1,e2,lx h.1,h.2]
  .ext h
 .ext h
def kP(n:Nat)(c:Nat->z Bool):G (Nat×Bool):=(Yw n).filterMap λj=>(c j).map λd=>(j,d)
def jE(p:Nat×Bool):Str:=#[#v[if p.2=S then 43 else 45,97+p.1]]
def Ud(x j:Nat):z Bool:=match x/3^j % 3 with
 |0=>P
 |1=>R S
 |_=>R M
def d1(c:Nat->z Bool)(n j:Nat):Nat:=if j<n then(match c j with
 |none=>0
 |some S=>1
 |some M=>2)else 0
def rN(c:Nat->z Bool)(n:Nat):Nat:=d1 c n 0+3*d1 c n 1+9*d1 c n 2+27*d1 c n 3+81*d1 c n 4
def mn(c:Nat->z Bool)(n j:Nat):d1 c n j<=2:=by
 ext d1;split
 .split<;>ext
 .omega
def FY(c:Nat->z Bool)(n:Nat):rN c n<243:=by let f:=mn c n 0;let e:=mn c n 1;let d:=mn c n 2;let b:=mn c n 3;let a:=mn c n 4;ext rN;ext
def CZ(c:Nat->z Bool)(n:Nat){k:Nat}(a:k<5):Ud (rN c n) k=if k<n then c k else P:=by
 let i:=mn c n 0;let g:=mn c n 1;let f:=mn c n 2;let d:=mn c n 3;let b:=mn c n 4;let e:rN c n/3^k % 3=d1 c n k:=by
  ext rN;obtain rfl|rfl|rfl|rfl|rfl:k=0\/k=1\/k=2\/k=3\/k=4:=by ext
  all_goals ext
 ext Ud;rw[e];ext d1;by_cases h:k<n
 .rw[ax h,ax h]
  cases c k with
  |none=>rfl
  |some v=>ext v<;>rfl
 .rw[a6 h,a6 h];rfl
def xF{α b:Type}{f g:α->z b}:∀{l:G α},(∀a∈l,f a=g a)->l.filterMap f=l.filterMap g:=by
 intro l
 induction l with
 |nil=>intro _;rfl
 |cons a r d=>intro h;rw[Zm,Zm,h a X9,d λx e=>h x (Ya _ e)]
def Ql{n:Nat}{c a:Nat->z Bool}(h:∀j,j<n->c j=a j):kP n c=kP n a:=by ext kP;show xF λj b=>by rw[h j (Yv.mp b)]
def IL{n:Nat}(f:n<=5)(c:Nat->z Bool):kP n c=kP 5 (Ud (rN c n)):=by
 let e:∀k,n+k=5->kP 5 (λj=>if j<n then c j else P)=kP n c:=λk b=>by ext kP;rw[<-b,agO,abA,afa];rw[show(Yw k).filterMap ((λj=>aeH (λd=>(j,d)) (if j<n then c j else P))∘λx=>n+x)=[]from adi.mpr λx _=>by show aeH _ (if n+x<n then c (n+x)else P)=P;rw[a6 ()];rfl,YK];show xF λj a=>by show aeH (λd=>(j,d)) (if j<n then c j else P)=_;rw[ax (Yv.mp a)]
 rw[<-e (5 - n) ()];show Ql λj a=>(CZ c n a).symm
def Mh(x:Nat):Bool:=match cN [.list ((kP 5 (Ud x)).map xS)]with
 |.ok (.fz (.str z))=>Vj (eT [.str z]) ((kP 5 (Ud x)).map λc=>.str (jE c))
 |_=>M
def Ep:∀x,x<243->Mh x=S:=by left
def F9{n:Nat}(a:n<=5)(c:Nat->ck Bool):∃z,cN [.list ((kP n c).map xS)]=.ok (.fz (.str z))/\eT [.str z]=.ok (.ow ((kP n c).map λc=>.str (jE c))):=by
 let h:=Ep (rN c n) (FY c n);rw[IL a c];unfold Mh at h;split at h
 .rename_i z e1;show#[z,e1,Rp h]
 .ext h
def Ay(b:Int)(g:Nat->Int×(Int×Int))(P:Nat->Bool)(j:Nat):Int×(Int×Int):=((g j).1+1,kS b (g j).1 (g j).2 (bt P j))
def cG(g:Nat->Int×(Int×Int))(P:Nat->Bool)(j:Nat):z Bool:=uo (g j).1 (g j).2 (bt P j)
def AG(n:Nat)(g:Nat->Int×(Int×Int))(j:Nat):Bool:=decide (j<n)&&decide ((g j).2.1=1)
def uC(P:Nat->Bool)(j:Nat):bt P j=0\/bt P j=1:=by ext bt;split<;>ext
def Po{b t:Int}{s:Int×Int}{r:Int}(h:s.1=0\/s.1=1)(a:r=0\/r=1):(kS b t s r).1=0\/(kS b t s r).1=1:=by
 ext kS;split
 .show h
 .show a
def MB{m:Nat}{g:Nat->Int×(Int×Int)}{P:Nat->Bool}{j:Nat}(h:j<m):Cg g (wb m P) j=bt P j:=by
 let e:(wb m P).getD j ""=if P j=S then("sure":Str)else "up":=by ext wb;rw[aaS,Yl,abO h];rfl
 unfold Cg rW bt;rw[e];cases P j with
 |true=>rw[ax W,ax W,a6 (show¬("sure":Str)= "unsure" by left),ax W]
 |false=>rw[a6 X7,a6 X7,a6 (show¬("up":Str)= "unsure" by left),a6 (show¬("up":Str)= "sure" by left)]
def Um{m:Nat}{b:Int}{g:Nat->Int×(Int×Int)}{P:Nat->Bool}{j:Nat}(h:j<m):AH b g (wb m P) j=Ay b g P j:=by unfold AH Ay;rw[MB h]
def Mr{m:Nat}{g:Nat->Int×(Int×Int)}{P:Nat->Bool}{j:Nat}(h:j<m):cw g (wb m P) j=(cG g P j).map λd=>((if d=S then "down" else "up":Str),j):=by
 unfold cw cG uo;rw[MB h];split
 .rfl
 .show R (tw (bt P j),j)=R ((if decide (bt P j=1)=S then "down" else "up":Str),j)
  ext tw;by_cases q:bt P j=1
  .rw[ax q,a7 q,ax W]
  .rw[a6 q,bg q,a6 X7]
def Tv{n m:Nat}(i:n<=m)(g:Nat->Int×(Int×Int))(P:Nat->Bool):v3 (n:Int) (sT g (wb m P) m)=(kP n (cG g P)).map C1++[.turn]:=by
 unfold v3 sT;congr 1;obtain⟨k,rfl⟩:∃k,m=n+k:=#[m - n,by ext];rw[agO,abA,List.filter_append];let e2:((Yw k).map (λx=>n+x)|>.filterMap (cw g (wb (n+k) P))).filter (λc=>decide ((c.2:Int)<(n:Int)))=[]:=by
  rw[aea];intro c o;let(j,b,e):=ZE.mp o;let(x,a,rfl):=Yy.mp b;rw[Mr (by let:=Yv.mp a;ext)]at e;cases q:cG g P (n+x)with
  |none=>rw[q]at e;ext e
  |some d=>rw[q]at e;ext e;simp;ext
 rw[e2,YK];let e1:∀l:G Nat,(∀j∈l,j<n)->(((l.filterMap (cw g (wb (n+k) P))).filter (λc=>decide ((c.2:Int)<(n:Int)))).map R0)=(l.filterMap λj=>(cG g P j).map λd=>(j,d)).map C1:=λl=>by
  induction l with
  |nil=>intro _;rfl
  |cons j r f=>
   intro h;let b:=h j X9;rw[Zm,Zm,Mr ()];cases q:cG g P j with
   |none=>show f λx a=>h x (Ya _ a)
   |some d=>
    show((((if d=S then "down" else "up":Str),j)::r.filterMap (cw g (wb (n+k) P))).filter (λc=>decide ((c.2:Int)<(n:Int)))).map R0=C1 (j,d)::_;rw[Zi (p:=λc:Str×Nat=>decide ((c.2:Int)<(n:Int))) (a7 (show(j:Int)<(n:Int) by ext)),Yi,f λx a=>h x (Ya _ a)];congr 1;unfold R0 C1;cases d with
    |true=>rfl
    |false=>show(if("up":Str)= "down" then Evn.down j else .up j)=_;rw[a6 (show¬("up":Str)= "down" by left)];rfl
 show e1 _ λj b=>Yv.mp b
def K5(c:Nat->z Bool):∀l:G Nat,(l.filterMap λj=>(c j).map λd=>(j,d)).map (·.1)=l.filter λj=>(c j).isSome:=by
 intro l
 induction l with
 |nil=>rfl
 |cons j r a=>
  rw[Zm];cases q:c j with
  |none=>rw[Zv (by rw[q];show X7)];show a
  |some d=>rw[Zi (by rw[q];rfl)];show j::_=_;rw[<-a]
def E6(n:Nat)(c:Nat->z Bool):((kP n c).map (·.1)).Nodup:=by ext kP;rw[K5];show af8.sublist abP
def oy{n:Nat}{c:Nat->z Bool}{x:Nat×Bool}:x∈kP n c↔x.1<n/\c x.1=R x.2:=by
 ext kP;rw[ZE];constructor
 .rintro⟨j,a,e⟩
  cases q:c j with
  |none=>rw[q]at e;ext e
  |some d=>rw[q]at e;ext e;show#[Yv.mp a,q]
 .rintro⟨f,b⟩;show#[x.1,Yv.mpr f,by rw[b];rfl]
def KA{n:Nat}{c:Nat->z Bool}(j:Nat):(kP n c).find? (λx=>x.1==j)=if j<n then(c j).map λd=>(j,d)else P:=by
 cases q:(kP n c).find? (λx=>x.1==j)with
 |some x=>let g:=aaX q;let f:x.1=j:=eq_of_beq (agm (p:=λx:Nat×Bool=>x.1==j) q);let(b,a):=oy.mp g;rw[<-f,ax b,a];rfl
 |none=>
  rw[ab3]at q;by_cases h:j<n
  .rw[ax h]
   cases e:c j with
   |none=>rfl
   |some d=>show b4 (ec j) (q (j,d) (oy.mpr #[h,e]))
  .rw[a6 h]
def Jw{n:Nat}{b:Int}{g:Nat->Int×(Int×Int)}{P:Nat->Bool}:GR (AG n g) (kP n (cG g P))=AG n (Ay b g P):=by
 funext j;rw[Pa _ _ _ (E6 n _),KA];unfold AG Ay cG uo kS;by_cases h:j<n
 .rw[ax h]
  split
  .rename_i x e
   split at e
   .ext e
   .rename_i k;ext e;rw[a6 k,a7 h];rfl
  .rename_i e
   split at e
   .rename_i k;rw[ax k]
   .ext e
 .rw[a6 h];dsimp only;rw[bg h];rfl
def Sv{n:Nat}{g:Nat->Int×(Int×Int)}{P:Nat->Bool}(f:∀j,j<n->(g j).2.1=0\/(g j).2.1=1):∀c∈kP n (cG g P),c.1<n/\AG n g c.1= !c.2:=by
 rintro⟨j,d⟩ e;let(b,a):=oy.mp e;show#[b,?_];let a:(if kN (g j).1 (g j).2 (bt P j)=S then CL else R (decide (bt P j=1)))=R d:=a;split at a
 .ext a
 .rename_i k
  let a:=Yq a;unfold kN at k;rw[Zf,not_or]at k;let k1:¬bt P j=(g j).2.1:=λz=>k.1 (a7 z);let b1:=f j b;let h:=uC P j;show(decide (j<n)&&decide ((g j).2.1=1))= !d;rw[a7 b,<-a];by_cases q:bt P j=1
  .rw[a7 q,bg ()];rfl
  .rw[bg q,a7 ()];rfl
def UC{n w:Nat}{g:Nat->Int×(Int×Int)}(d:n<=5):SW (lb n w) (lw (AG n g)):=by
 show#[#[λk a h=>?_,λo h=>by ext h],λb g w h=>by ext h];let h:(if AG n g k=S then R (Mn.YG k)else P)=R a:=h;split at h
 .rename_i q;unfold AG at q;rw[Ld]at q;let:=b3 q.1;ext h;show#[by show(k:Int)<(n:Int);ext,?_];show k<26;ext
 .ext h
def C7{D:aO}{Q T l s m n w:Nat}{b:Int}{t:cc Nat}{g:Nat->Int×(Int×Int)}(U:s<2)(O:1<=m)(N:m<=6)(M:1<=n)(p:n<=5)(u:n<=m)(I:1<=w)(H:w<=4)(e:t.length=m)(h:DK D Q T l (xT s m) b t g (bD (lb n w)) (gw (lw (AG n g))))(B:∀j,j<m->(g j).2.1=0\/(g j).2.1=1)(P:Nat->Bool):
  ∃x row z k,cj [mv s m,.list (a8 (bx m P))]=.ok (.fz (.str x))/\c7 (.str "scan ") (.str x)=-(.str row)/\cy [.rf Q,.fz (.str row)] D=.ok (.fz (.str z)) k/\eT [.str z]=.ok (.ow ((kP n (cG g P)).map λc=>.str (jE c)))/\DK k Q T l (xT s m) b t (Ay b g P) (bD (lb n w)) (gw (lw (AG n (Ay b g P))))/\Kp (Q::t) D k:=by
 let(x,row,X,e1,e2,e3,e4):=G1 U O N P;let(z,F,E):=F9 p (cG g P);let J:=T0 M p I H;let y:=Tv u g P;let o:=wL (w:=w) (kP n (cG g P)) (AG n g) (E6 n _) (Sv λj A=>B j ());let C:((kP n (cG g P)).map (λc=>[c])++[[]]).flatten=kP n (cG g P):=by
  rw[abQ];let:∀l:cc (Nat×Bool),(l.map λc=>[c]).flatten=l:=λl=>by
   induction l with
   |nil=>rfl
   |cons a r R=>rw[Yi,Zu,R];rfl
  rw[this];show YK _
 let cl:(kP n (cG g P)).length<=n:=by let:=aa6 (λj=>(cG g P j).map λd=>(j,d)) (Yw n);rw[YL]at this;show this
 let G:(wb m P).length=t.length:=by ext wb;rw[X4,YL,e]
 let(k,L,f,K):=Hb (rd:=X) h J (UC p) e3 (ws:=wb m P) G e4 (λv S=>by
  let(j,_,rfl):=Yy.mp S;split
  .show .inr (.inl W)
  .show .inl W) (λj A=>B j ()) () (z:=z) (λi hi=>by
  rw[e,show(lb n w).n=(n:Int)from rfl,y];let:=sG (lb n w) (((kP n (cG g P)).map C1++[Evn.turn]).take i) (((kP n (cG g P)).map C1++[Evn.turn]).drop i) (lw (AG n g));rw[List.take_append_drop,o]at this;let:=d6 (λq:Stn×cc Sn=>q.2.flatten.length) this;dsimp only at this;rw[C,abQ,Yb]at this;ext) (by rw[e,show(lb n w).n=(n:Int)from rfl,y,o,C];show F)
 rw[e,show(lb n w).n=(n:Int)from rfl,y,o,Jw (b:=b)]at f;show#[x,row,z,k,e1,e2,L,E,#[f.d,f.t.ext λj A=>Um ()],K]
def SL(b:Int)(n:Nat):(Nat->Int×(Int×Int))->G (Nat->Bool)->G Str
 |_,[]=>[]
 |g,a::r=>(kP n (cG g a)).map jE++SL b n (Ay b g a) r
def gE(b:Int):(Nat->Int×(Int×Int))->G (Nat->Bool)->Nat->Int×(Int×Int)
 |g,[]=>g
 |g,a::r=>gE b (Ay b g a) r
def DT(b:Int)(j:Nat):∀(a:G (Nat->Bool)) (g:Nat->Int×(Int×Int)),gE b g a j=((g j).1+(a.length:Int),tG b (g j).1 (g j).2 (a.map λP=>bt P j)):=by
 intro a
 induction a with
 |nil=>intro g;show g j=((g j).1+0,(g j).2);rw[ael]
 |cons P r d=>intro g;show gE b (Ay b g P) r j=_;rw[d];show((g j).1+1+(r.length:Int),tG b ((g j).1+1) (kS b (g j).1 (g j).2 (bt P j)) _)=((g j).1+((r.length+1:Nat):Int),tG b ((g j).1+1) (kS b (g j).1 (g j).2 (bt P j)) _);congr 1;ext
def vt{x y:Nat×Bool}(h:jE x=jE y):x=y:=by
 let(j,d):=x;let(k,e):=y;let h:[if d=S then 43 else 45,97+j]=[if e=S then 43 else 45,97+k]:=d6 (λs:Str=>s.cps.toList) h;let a:=(acG h).1;let b:=(acG (acG h).2).1;let:j=k:=by ext
 subst this;ext d<;>ext e
 .rfl
 .show b4 a ()
 .show b4 a ()
 .rfl
theorem Gv{α d:Type}{f:α->d}(g:∀a b,f a=f b->a=b){l:G α}(h:l.Nodup):(l.map f).Nodup:=Z5.mpr (h.imp λn e=>n (g _ _ e))
def EK{a:Str}:∀{l:G Str},l.Nodup->a∈l->l.count a=1:=by
 intro l
 induction l with
 |nil=>intro _ h;ext h
 |cons x r f=>
  intro nd h;let(d,b):=Y6.mp nd;by_cases e:x=a
  .subst e;rw[List.count_cons_self,aan.mpr d]
  .rw[List.count_cons_of_ne e]
   rcases Yg.mp h with z|z
   .show b4 z.symm e
   .show f b z
def ON{n j:Nat}{d:Bool}(b:j<n)(c:Nat->z Bool):((kP n c).map jE).count (jE (j,d))=if c j=R d then 1 else 0:=by
 let nd:((kP n c).map jE).Nodup:=by let g:(kP n c).Nodup:=(Z5.mp (E6 n c)).imp λn e=>n (by rw[e]);show Gv (λ_ _ h=>vt h) g
 by_cases q:c j=R d
 .rw[ax q];show EK nd (aaG (f:=jE) (oy.mpr #[b,q]))
 .rw[a6 q];show aan.mpr λhm=>?_;let(x,a,e):=Yy.mp hm;let:=vt e;subst this;show q (oy.mp a).2
def Qe{b:Int}{n j:Nat}{d:Bool}(f:j<n):∀(a:G (Nat->Bool)) (g:Nat->Int×(Int×Int)),(SL b n g a).count (jE (j,d))=BB d b (g j).1 (g j).2 (a.map λP=>bt P j):=by
 intro a
 induction a with
 |nil=>intro g;rfl
 |cons P r e=>intro g;show((kP n (cG g P)).map jE++SL b n (Ay b g P) r).count (jE (j,d))=_;rw[aft,ON f,e];rfl
def PM{b:Int}{n:Nat}{x:Str}:∀(a:G (Nat->Bool)) (g:Nat->Int×(Int×Int)),x∈SL b n g a->∃j d,j<n/\x=jE (j,d):=by
 intro a
 induction a with
 |nil=>intro g h;ext h
 |cons P r e=>
  intro g h;rcases Y3.mp h with h|h
  .let(y,f,rfl):=Yy.mp h;show#[y.1,y.2,(oy.mp f).1,W]
  .show e _ h
def ky(n:Nat)(p q:Nat->Bool):G Str:=((bx n λj=>q j&& !p j).map λj=>jE (j,S))++((bx n λj=>p j&& !q j).map λj=>jE (j,M))
def HG{n j:Nat}{d e:Bool}(i:j<n)(r:Nat->Bool):((bx n r).map λj=>jE (j,e)).count (jE (j,d))=if r j=S/\d=e then 1 else 0:=by
 let nd:((bx n r).map λj=>jE (j,e)).Nodup:=Gv (λa c h=>d6 (·.1) (vt h)) (af8.sublist abP);by_cases q:r j=S/\d=e
 .rw[ax q];let(b,rfl):=q;show EK nd (aaG (f:=λj=>jE (j,d)) (YF.mpr #[Yv.mpr i,b]))
 .rw[a6 q];show aan.mpr λhm=>?_;let(x,g,h):=Yy.mp hm;let h:=vt h;ext h;show q #[(YF.mp g).2,W]
structure ac7(b e m:Nat)(p q:Nat->Bool)(Ps:G (Nat->Bool)):Prop where
 ps:∃pre:G (Nat->Bool),pre.length=b/\Ps=pre++X1 e q/\∀P∈pre,∀j,j<m->p j=q j->P j=p j
 e1:1<=e
structure GI(m:Nat)(b t:Int)(p:Nat->Bool)(g:Nat->Int×(Int×Int)):Prop where
 tm:∀j,j<m->(g j).1=t
 ls:∀j,j<m->(g j).2.1=bt p j
 fr:∀j,j<m->(g j).2.2<=t+b
def Fk{p q:Nat->Bool}{j:Nat}(h:p j=q j):bt p j=bt q j:=by ext bt;rw[h]
def v8{b e m:Nat}{p q:Nat->Bool}{o:cc (Nat->Bool)}(c:ac7 b e m p q o){t:Int}{g:Nat->Int×(Int×Int)}(v:GI m b t p g){j:Nat}(n:j<m):
  (∃k,k<=t+(o.length:Int)+b/\tG b (g j).1 (g j).2 (o.map λP=>bt P j)=(bt q j,k))/\∀d:Bool,BB d b (g j).1 (g j).2 (o.map λP=>bt P j)=(if(q j&& !p j)=S/\d=S then 1 else 0)+(if(p j&& !q j)=S/\d=M then 1 else 0):=by
 let(a,u,rfl,B):=c.ps;let e1:=c.e1;let F:=v.tm j n;let G:=v.ls j n;let H:=v.fr j n;let es:g j=(t,(bt p j,(g j).2.2)):=by rw[<-F,<-G]
 generalize (g j).2.2=f at es H;rw[es];dsimp only;let w:((a++X1 e q).length:Int)=(b:Int)+e:=by rw[Yb,YE,u];ext
 rw[w,YH,ab2];by_cases h:p j=q j
 .let(E,C):=xA (b:Int) (a.map (λP=>bt P j)++X1 e (bt q j)) t (bt p j,f) λi r L=>by
   apply Or.inl;rcases Y3.mp (YD L)with z|z
   .let(P,l,rfl):=Yy.mp z;show Fk (B P l j n h)
   .rw[aa7 z];show(Fk h).symm
  show#[#[f,by ext,by rw[E,Fk h]],λd=>?_];rw[C d,h];cases q j<;>simp
 .let y:bt q j=0/\bt p j=1\/bt q j=1/\bt p j=0:=by
   ext bt;cases l:p j<;>cases I:q j
   .rw[l,I]at h;show b4 W h
   .show .inr #[W,W]
   .show .inl #[W,W]
   .rw[l,I]at h;show b4 W h
  let(k,k1,k2,k3):=Kf (b:Int) () y e e1 (a.map λP=>bt P j) t f (t+b) (λr A=>by let(P,_,rfl):=Yy.mp A;show uC P j) (by rw[X4,u];ext) (by rw[X4,u]) ();show#[#[k,by ext,k2],λd=>?_];rw[k3 d];ext bt;cases l:p j<;>cases I:q j
  .rw[l,I]at h;show b4 W h
  .ext d<;>simp
  .ext d<;>simp
  .rw[l,I]at h;show b4 W h
def EH{b e m n:Nat}{p q:Nat->Bool}{f:G (Nat->Bool)}(c:ac7 b e m p q f){t:Int}{g:Nat->Int×(Int×Int)}(l:GI m b t p g)(i:n<=m):(SL b n g f).Perm (ky n p q):=by
 rw[List.perm_iff_count];intro x;by_cases h:∃j d,j<n/\x=jE (j,d)
 .let(j,d,a,rfl):=h;ext ky;rw[Qe a,(v8 c l ()).2 d,aft,HG a,HG a]
 .rw[aan.mpr λz=>h (PM _ _ z),aan.mpr λz=>h ?_]
  rcases Y3.mp z with z|z
  .let(j,a,rfl):=Yy.mp z;show#[j,S,Yv.mp (YF.mp a).1,W]
  .let(j,a,rfl):=Yy.mp z;show#[j,M,Yv.mp (YF.mp a).1,W]
def wK{b e m:Nat}{p q:Nat->Bool}{h:G (Nat->Bool)}(c:ac7 b e m p q h){t:Int}{g:Nat->Int×(Int×Int)}(d:GI m b t p g):GI m b (t+(h.length:Int)) q (gE b g h):=by
 show#[λj a=>?_,λj a=>?_,λj a=>?_]
 .rw[DT];show(g j).1+_=_;rw[d.tm j a]
 .let((l,i,f),_):=v8 c d a;rw[DT];show(tG b (g j).1 (g j).2 _).1=_;rw[f]
 .let((l,i,f),_):=v8 c d a;rw[DT];show(tG b (g j).1 (g j).2 _).2<=_;rw[f];show i
def z8{f:Str->G D->ck RV}{b:FE}{i:FA}{g c a:aU}{pv:PV}{z:Str}{h:G PV}{ds:G D}{rv:RV}(d:b g=.ok (pv,c))(j:tD pv=R z)(k:i c=.ok (h,a))(hd:sW a h=R ds)(e:f z ds=R rv):tU f b i g=.ok (rv.pv,a):=by ext tU;rw[d,eg];dsimp only;rw[j,aC,eg,k,eg,hd,aC,eg,e,aC,eg]
def Tq:∀{X:G Str},(∀x∈X,X2.strOk x=S)->X2.canLayAll0 (X.map X2.str)=S:=by
 intro X
 induction X with
 |nil=>intro _;rfl
 |cons x r a=>intro h;show(X2.strOk x&&X2.canLayAll0 (r.map X2.str))=S;rw[h x X9,a λy b=>h y (Ya _ b)];rfl
def VT:∀X:G Str,X2.depthAll (X.map X2.str)=0:=by
 intro X
 induction X with
 |nil=>rfl
 |cons x r a=>show max 0 (X2.depthAll (r.map X2.str))=0;rw[a];rfl
def Vt:∀X:G Str,X2.eqvAll (X.map X2.str) (X.map X2.str)=S:=by
 intro X
 induction X with
 |nil=>rfl
 |cons x r a=>show(decide (x=x)&&X2.eqvAll (r.map X2.str) (r.map X2.str))=S;rw[a,a7 W];rfl
def Hw{X:G Str}(h:∀x∈X,X2.strOk x=S):lr (.list (X.map .str)) (.list (X.map .str))=-(.bool M):=by
 ext lr;let a:mq (.list (X.map X2.str))=S:=by show(X2.canLayAll0 (X.map X2.str)&&decide (X2.depthAll (X.map X2.str)+1<=64))=S;rw[Tq h,VT];rfl
 rw[a,show X2.canLay0 (.list (X.map X2.str))=S from Tq h,aaj,ax W,show X2.eqv (.list (X.map X2.str)) (.list (X.map X2.str))=_ from Vt X];rfl
def DM:∀X:G Str,sV (X.map .str)=R X:=by
 intro X
 induction X with
 |nil=>rfl
 |cons x r a=>rw[Yi];ext sV;rw[a];rfl
def Nw{X:G Str}(h:X.length<64):oV [.list (X.map .str)]=R (.ow ((eW X).map .str)):=by ext oV;dsimp only;rw[ax (by rw[X4];show h),DM]
def Rb{f:G D->z RV}{e:wY}{d:bc}{c b:aO}{xs:G SV}{ds es:G D}(i:e d c=.ok xs b)(a:aF (sh b) xs=R ds)(h:f ds=R (.ow es)):Gr f e d c=.ok (.rf b.length) (b++[.lst (es.map .fz)]):=by ext Gr;rw[i,ej];ext L7;rw[a];show((RS.YT b (f ds)).bind λg b=>kB b g)=_;rw[h];rfl
def Pd(xs:G D)(y:D):aK (.list (xs++[y])) (.int (-1))=-(y):=by show(kO (xs++[y]) (-1)).map RV.fz=_;rw[DJ];rfl
def M9{j:Nat}{d:Bool}(h:j<5):X2.strOk (jE (j,d))=S:=by
 let:∀j,j<5->X2.strOk (jE (j,S))=S/\X2.strOk (jE (j,M))=S:=by left
 ext d
 .show(this j h).2
 .show(this j h).1
def Eb{n:Nat}{p q:Nat->Bool}(f:n<=5):(∀x∈eW (ky n p q),X2.strOk x=S)/\(ky n p q).length<64:=by
 constructor
 .intro x b
  rcases Y3.mp ((kq _).mem_iff.mp b)with z|z
  .let(j,a,rfl):=Yy.mp z;show M9 (by let:=Yv.mp (YF.mp a).1;ext)
  .let(j,a,rfl):=Yy.mp z;show M9 (by let:=Yv.mp (YF.mp a).1;ext)
 .unfold ky bx;let e:=ZF (λj=>q j&& !p j) (Yw n);let d:=ZF (λj=>p j&& !q j) (Yw n);rw[YL]at e d;rw[Yb,X4,X4];ext
theorem QF{m:Nat}{b t:Int}{q:Nat->Bool}{g:Nat->Int×(Int×Int)}(h:GI m b t q g):HV g m=bx m q:=aa2 λj a=>by rw[h.ls j (Yv.mp a)];ext bt;cases q j<;>rfl
theorem Q9{b:Int}{m:Nat}{g:Nat->Int×(Int×Int)}{P:Nat->Bool}(h:∀j,j<m->(g j).2.1=0\/(g j).2.1=1):∀j,j<m->(Ay b g P j).2.1=0\/(Ay b g P j).2.1=1:=λj a=>Po (h j a) (uC P j)
abbrev yH(m:Nat)(a:G (Nat->Bool)):D:=.list (a.map λP=>.list (a8 (bx m P)))
def Jv{V:aO}{Q T l s m n w b e r:Nat}{ks:cc Nat}{g:Nat->Int×(Int×Int)}{p q:Nat->Bool}{a:cc (Nat->Bool)}{t:Int}(hs:s<2)(m1:1<=m)(m6:m<=6)(n1:1<=n)(n5:n<=5)(H:n<=m)(w1:1<=w)(w4:w<=4)(hk:ks.length=m)(h:DK V Q T l (xT s m) (b:Int) ks g (bD (lb n w)) (gw (lw (AG n g))))(N:GI m b t p g)(c:ac7 b e m p q a)(hd:V[r]?=cL (.lst (((eW (ky n p q)).map X2.str).map .fz))):
  ∃D,gG [.rf Q,.fz (.int n),.fz (mv s m),.fz (yH m a),.rf r] V=.ok (.fz (.bool XX)) D/\DK D Q T l (xT s m) (b:Int) ks (gE b g a) (bD (lb n w)) (gw (lw (AG n (gE b g a))))/\Kp (Q::ks) V D:=by
 let ne:=h.ne;let lt:=h.t.lt;let ql:=(X0.mp h.d).1;let dl:=(X0.mp hd).1;let dq:r∉Q::ks:=λz=>by
  rcases Yg.mp z with rfl|z
  .let:=hd.symm.trans h.d;ext this
  .let(j,C):=Zb.mp z;let:=hd.symm.trans (h.t.k j r C);ext this
 let pm:=EH c N H;let(d1,d2):=Eb (n:=n) (p:=p) (q:=q) n5;let sl:(SL b n g a).length<64:=by rw[pm.length_eq];show d2
 let ge:=wK c N;let nn:V.length∉Q::ks:=λz=>by
  rcases Yg.mp z with z|z
  .omega
  .let:=lt.2.2 _ z;ext
 let K:Out (gG [.rf Q,.fz (.int n),.fz (mv s m),.fz (yH m a),.rf r] V) (λv D=>v=.fz (.bool XX)/\DK D Q T l (xT s m) (b:Int) ks (gE b g a) (bD (lb n w)) (gw (lw (AG n (gE b g a))))/\Kp (Q::ks) V D) (λ_=>False):=by
  show uU (ρ:=[cL (.rf Q),-(.int n),-(mv s m),-(yH m a),cL (.rf r),CL,CL,CL]) W ?_;ext iL;show de (x:=.rf V.length) (ω1:=V++[.lst []]) (ρ1:=[cL (.rf Q),-(.int n),-(mv s m),-(yH m a),cL (.rf r),cL (.rf V.length),CL,CL]) (dD (ds:=[]) (by ext:0)) W ?_;show oz (vA (λi ρ D=>∃(B:ck SV) (o:Nat->Int×(Int×Int)) (L:cc Str),ρ=[cL (.rf Q),-(.int n),-(mv s m),-(yH m a),cL (.rf r),cL (.rf V.length),B,CL]/\DK D Q T l (xT s m) (b:Int) ks o (bD (lb n w)) (gw (lw (AG n o)))/\(∀j,j<m->(o j).2.1=0\/(o j).2.1=1)/\gE b o (a.drop i)=gE b g a/\L++SL b n o (a.drop i)=SL b n g a/\D[V.length]?=cL (.lst ((L.map .str).map .fz))/\Kp (Q::ks) V D) (ds:=a.map λP=>.list (a8 (bx m P))) (ω1:=V++[.lst []]) (lg (lO (d:=yH m a) (ar W) W W)) #[CL,g,[],W,#[dF h.d,h.t.app],λj C=>by rw[N.ls j C];show uC p j,W,W,aH,Kp.app] ?_ ?_)
  .rintro i d ρ D hi ⟨B,o,L,rfl,dk,bi,A,u,ls,kp⟩
   rw[Yl]at hi;cases hq:a[i]? with
   |none=>rw[hq]at hi;ext hi
   |some P=>
   rw[hq]at hi;ext hi;let il:=(X0.mp hq).1;let dr:a.drop i=P::a.drop (i+1):=by rw[ZI il,(X0.mp hq).2]
   rw[dr]at A u;let(x,E,z,ω2,e1,e2,e3,e4,e5,e6):=C7 hs m1 m6 n1 n5 H w1 w4 hk dk bi P;let l2:=e6 _ _ ls nn;let l3:=dF (J:=[.lst (((kP n (cG o P)).map λc=>X2.str (jE c)).map .fz)]) l2;let u:L++((kP n (cG o P)).map jE++SL b n (Ay b o P) (a.drop (i+1)))=SL b n g a:=u;let ll:=d6 aaA u;rw[Yb,Yb,X4]at ll;show#[[cL (.rf Q),-(.int n),-(mv s m),-(yH m a),cL (.rf r),cL (.rf V.length),-(.list (a8 (bx m P))),CL],D,W,?_];let Y:ag (am c7 (pC (.str "scan ")) (aW cj 2 {aa 2,aa 6})) [cL (.rf Q),-(.int n),-(mv s m),-(yH m a),cL (.rf r),cL (.rf V.length),-(.list (a8 (bx m P))),CL] D=.ok (.fz (.str E)) D:=af (bh (rv:=.fz (.str E)) aP (jz (rv:=.fz (.str x)) (ds:=[mv s m,.list (a8 (bx m P))]) (aE (ar W) (aE (ar W) bf)) W W e1) W W e2);show qS (je (Ec (aA W) ls (pO (ds:=[.str z]) (aq (dI (aA W) dk.d Bb (aq Y aB) W e3) aB) W e4) aH l3 (by simp only[X4];ext))) #[_,Ay b o P,L++(kP n (cG o P)).map jE,W,#[?_,?_],Q9 bi,A,by rw[YR];show u,?_,?_]
   .show dh (λz=>nn (by rw[z];show X9)) (dF e5.d)
   .show e5.t.app.kp (S:=[V.length]) (Kp.set X9) (by rw[Yh];ext) (by rw[Yh];ext) λx hx=>by rw[Yh];let:=lt.2.2 x hx;ext
   .rw[gp l3,YH,YH,YW (g:=X2.str)];rfl
   .show λj c C nj=>dh (λz=>?_) (dF (e6 j c (kp j c C nj) nj));let:=(X0.mp C).1;ext
  .rintro ρ D ⟨B,o,L,rfl,dk,bi,A,u,ls,kp⟩
   rw[X4,List.drop_length]at A u;let A:o=gE b g a:=A;subst A;let u:L++[]=SL b n g a:=u;rw[YK]at u;subst u;let O:=kp _ _ hd dq;let(ts,f,k1,k2,k3,k4):=GQ m6 q;let so:eW (SL b n g a)=eW (ky n p q):=DL pm;let c1:Gr oV (aj (au 5) aL) [cL (.rf Q),-(.int n),-(mv s m),-(yH m a),cL (.rf r),cL (.rf V.length),B,CL] D=.ok (.rf D.length) (D++[.lst (((eW (ky n p q)).map X2.str).map .fz)]):=by rw[<-so];show Rb (aq (aA W) aB) (by ext aF;rw[gB ls];rfl) (Nw sl)
   show sd (aX (cz c1 (aA W) (vG (gB aH) (gB (dF O)) (Hw d1)))) (nU ?_);let y:DK (D++[.lst (((eW (ky n p q)).map X2.str).map .fz)]) Q T l (xT s m) (b:Int) ks (gE b g a) (bD (lb n w)) (gw (lw (AG n (gE b g a)))):=#[dF dk.d,dk.t.app];let G:Kp (Q::ks) V (D++[.lst (((eW (ky n p q)).map X2.str).map .fz)]):=kp.trans Kp.app;generalize D++[Cell.lst (((eW (ky n p q)).map X2.str).map .fz)]=ω3 at y G;let(I,_,R,_):=c.ps;obtain⟨e',rfl⟩:∃k,e=k+1:=#[e - 1,by let:=c.e1;ext];let Z:aK (yH m a) (.int (-1))=-(.list (a8 (bx m q))):=by rw[R,aeG,<-YR];show aK (.list ((I++X1 e' q++[q]).map λP=>.list (a8 (bx m P)))) (.int (-1))=_;rw[YH];show Pd _ _
   show de (x:=.fz (.str f)) (ρ1:=[cL (.rf Q),-(.int n),-(mv s m),-(yH m a),cL (.rf r),cL (.rf V.length),B,-(.str f)]) (af (z8 (rv:=.fz (.str f)) aP W (aE (d9 (lO (d:=.list (a8 (bx m q))) (bh (rv:=.fz (.list (a8 (bx m q)))) (ar W) (by ext:0) W W Z) W W) W k1) bf) W k2)) W ?_;let X:=QF ge;let M:dJ [.tuple (a8 (HV (gE b g a) ks.length))]=.ok (.fz (.str (if f= "" then "." else f))):=by rw[hk,X];show k3
   let(J,sk):=F8 y () M;let q1:bv (.str f) (.str "")=-(.bool (decide (f= ""))):=MF k4 (by left);let F:ag (am aK (bV {aa 7,pC (.str ".")}) (cF uF {am bv (aa 7) (pC (.str ""))})) [cL (.rf Q),-(.int n),-(mv s m),-(yH m a),cL (.rf r),cL (.rf V.length),B,-(.str f)] (ω3++J)=.ok (.fz (.str (if f= "" then "." else f))) (ω3++J):=by
    by_cases z:f= ""
    .rw[a7 z]at q1;rw[ax z];show af (bh (rv:=.fz (.str ".")) (by ext:0) (iJ (rv:=.fz (.int 1)) (aE (by ext:0) bf) W W) W W Su)
    .rw[bg z]at q1;rw[a6 z];show af (bh (rv:=.fz (.str f)) (by ext:0) (iJ (rv:=.fz (.int 0)) (aE (by ext:0) bf) W W) W W Ta)
   let U:bv (.str (if f= "" then "." else f)) (.str (if f= "" then "." else f))=-(.bool XX):=by
    split
    .show C5 (by left) (by left) (by left)
    .show C5 k4 k4 (a7 W)
   show uV (cz (dI (aA W) y.d Bb (aq (af (d:=.str "keys") aP) aB) W sk) F (bR U)) #[W,#[dF y.d,y.t.app],G.trans Kp.app]
 let(v,D,e1,rfl,h1,h2):=UQ K;show#[D,e1,h1,h2]
def A9(ns:G Int)(k:Int)(b:0<=k):∃c:Int,g8 [.list (ns.map .int),.int k]=.ok (.fz (.int c)):=by
 obtain⟨n,rfl⟩:∃n:Nat,k=(n:Int):=#[k.toNat,by ext];let a:eU [.list (ns.map .int)]=-(nd ns.length):=(qu _).trans (by simp_all);by_cases h:n<ns.length
 .show#[ns[n],gA (ρ:=[-(.list (ns.map .int)),-(nd n)]) W (hJ (pv:=.fz (.int ns[n])) (rv:=.fz (.int ns[n])) (Oh (ie (bh (rv:=.fz (.bool S)) (ar W) (iJ (rv:=.fz (nd ns.length)) (aE (ar W) bf) W a) W W ?_) W) (bh (rv:=.fz (.int ns[n])) (ar W) (ar W) W W (V2 ?_))) W W)]
  .rw[oQ,a7 ()]
  simp_all
 .show#[0,gA (ρ:=[-(.list (ns.map .int)),-(nd n)]) W (hJ (pv:=.fz (.int 0)) (rv:=.fz (.int 0)) (Qj (ie (bh (rv:=.fz (.bool M)) (ar W) (iJ (rv:=.fz (nd ns.length)) (aE (ar W) bf) W a) W W ?_) W) aP) W W)];rw[oQ,bg ()]
theorem US{i j:Int}(h: -2^64<i/\i<2^64):eY (.int i) (.int j)=-(.int (i*j)):=Iz h
theorem Wm{i j:Int}(h: -2^64<j/\j<2^64):eY (.int i) (.int j)=-(.int (i*j)):=JM h
def n9(x s m:Int):Int:=((x % 1000033+s)*(s+521) % 1000033*((x % 1000033+s)*(s+521) % 1000033)+x/1000033+7*s) % 999983/3 % m
theorem sB{x s m:Int}(hm:0<m):0<=n9 x s m/\n9 x s m<m:=#[agP _ (),afu _ hm]
def ko(x:Int){s m:Int}(n:0<=s)(l:s<1000)(hm:0<m):bN [.int x,.int s,.int m]=.ok (.fz (.int (n9 x s m))):=by ext n9;let j:rM (.int x) (.int 1000033)=-(.int (x % 1000033)):=vB ();let e:eY (.int (x % 1000033+s)) (.int (s+521))=-(.int ((x % 1000033+s)*(s+521))):=Wm #[by ext,by ext];generalize (x % 1000033+s)*(s+521)=y at e;let d:rM (.int y) (.int 1000033)=-(.int (y % 1000033)):=vB ();let b1:0<=y % 1000033/\y % 1000033<1000033:=#[agP _ (),afu _ ()];generalize y % 1000033=z at d b1;let b:eY (.int z) (.int z)=-(.int (z*z)):=Wm #[by ext,by ext];let i:tj (.int x) (.int 1000033)=-(.int (x/1000033)):=x9 #[by decide,by decide];let h:eY (.int 7) (.int s)=-(.int (7*s)):=US #[by decide,by decide];generalize z*z=u at b;let a:rM (.int (u+x/1000033+7*s)) (.int 999983)=-(.int ((u+x/1000033+7*s) % 999983)):=vB ();generalize (u+x/1000033+7*s) % 999983=v at a;let g:tj (.int v) (.int 3)=-(.int (v/3)):=x9 #[by decide,by decide];let f:rM (.int (v/3)) (.int m)=-(.int (v/3 % m)):=vB hm;show gA (ρ:=[-(.int x),-(.int s),-(.int m),P]) W (yS (DD (by ext:0) W (yS (DD (by ext:0) W (hJ (by ext:0) W W)))))
def Gf(ns:G Int)(lo a:z Int):∃ms:G Int,ms.length<=ns.length/\Df (.list (ns.map .int)) lo a=R (.ow (ms.map .int)):=by
 show#[(ns.drop (HT.sIx ns.length 0 lo)).take (HT.sIx ns.length ns.length a - HT.sIx ns.length 0 lo),?_,?_]
 .rw[Zh,acu];ext
 .show R (RV.ow (CF (ns.map .int) lo a))=_;ext CF;simp_all
def jR{c:FT}{cs:aU}(p:Nat->Bool)(xs:G Nat)(f:xs.length<=1000000)(g:bU cs=cs)(h:∀x∈xs,c (-(nd x)::cs)=.ok (p x,-(nd x)::cs)):g6 (b7 (gN 0) c (aa 0) (a8 xs) (P::cs) [])=.ok (a8 (xs.filter p)):=by
 rw[zD (λl=>∃o,l=o::cs) (λd=>match d with|.int i=>if p i.toNat=S then R (.int i)else P|_=>P) #[P,W] (by rw[ju];show f) ?_,OM (p:=p) xs λx _=>by rfl];rintro d j l ⟨o,rfl⟩;let(x,e,rfl):=Yy.mp j;show#[-(nd x)::cs,?_,_,W];show kG _ _ _ (nd x) (o::cs)=.ok ((if p ((x:Nat):Int).toNat=S then R (nd x)else P),-(nd x)::cs);rw[Za];let b:bU (R (PV.fz (nd x))::cs)=-(nd x)::cs:=by show xP _::bU cs=_;rw[g];rfl
 let a:=h x e;cases q:p x with
 |true=>rw[q]at a;rw[ax W];show Mc W a W W b
 |false=>rw[q]at a;rw[a6 X7];show Ki W a b
def EY{m:Nat}(hm:m<=6)(c:Int){salt:Int}(b:0<=salt)(a:salt<1000):iU [nd m,.int c,.int salt]=.ok (.ow (a8 (bx m λk=>decide (n9 (c+41*(k:Int)) salt 2=0)))):=by
 let cm:g6 (b7 (gN 0) (ai (am bv (aW bN 3 {am cH (aa 1) (am eY (~~~41) (aa 0)),aa 2,~~~2}) (~~~0))) (aa 0) (a8 (Yw m)) [P,-(.int c),-(.int salt)] [])=.ok (a8 ((Yw m).filter λk=>decide (n9 (c+41*(k:Int)) salt 2=0))):=jR _ _ (by rw[YL];ext) W λk _=>by let d:eY (.int 41) (nd k)=-(.int (41*(k:Int))):=US #[by decide,by decide];let e:=ko (c+41*(k:Int)) b a (m:=2) ();ext:0
 show gA (ρ:=[-(nd m),-(.int c),-(.int salt)]) W (hJ (d9 (gM (ds:=[nd m]) (aE (ar W) bf) W (ig ())) W cm) W W)
def Kx{m:Nat}(hm:m<=6)(c:Int){u:Nat}(g:u<=2)(a:Bool):∃r:Nat->Bool,jj [nd m,.int c,nd u,.bool a]=.ok (.ow (a8 (bx m r))):=by
 cases a with
 |true=>
  let d1:tj (.int c) (.int 64)=-(.int (c/64)):=x9 ();let d:eY (.int 6) (nd u)=-(.int (6*(u:Int))):=US #[by decide,by decide];show#[λk=>decide (Yx.bitAnd (c/64/2^(6*(u:Int)+(k:Int)).toNat) 1=1),?_];let cm:g6 (b7 (gN 0) (ai (am bv (am mE (am vM (am tj (aa 1) (~~~64)) (am cH (am eY (~~~6) (aa 2)) (aa 0))) (~~~1)) (~~~1))) (aa 0) (a8 (Yw m)) [P,-(.int c),-(nd u)] [])=.ok (a8 ((Yw m).filter λk=>decide (Yx.bitAnd (c/64/2^(6*(u:Int)+(k:Int)).toNat) 1=1))):=jR _ _ (by rw[YL];ext) W λk _=>by
   let f:vM (.int (c/64)) (.int (6*(u:Int)+(k:Int)))=-(.int (c/64/2^(6*(u:Int)+(k:Int)).toNat)):=by show(if decide (0<=6*(u:Int)+(k:Int))=S then R (RV.fz (.int _))else P)=_;rw[a7 (),ax W]
   let b1:mE (.int (c/64/2^(6*(u:Int)+(k:Int)).toNat)) (.int 1)=-(.int (Yx.bitAnd (c/64/2^(6*(u:Int)+(k:Int)).toNat) 1)):=W;ext:0
  show gA (ρ:=[-(nd m),-(.int c),-(nd u),-(.bool S)]) W ?_;ext fP;show xq (b:=S) (by ext:0) (λ_=>?_) λq=>by ext q
  show vR (d9 (gM (ds:=[nd m]) (aE (ar W) bf) W (ig ())) W cm) W W
 |false=>let d:eY (.int 3) (nd u)=-(.int (3*(u:Int))):=US #[by decide,by decide];let e:=EY hm (c+3*(u:Int)) (salt:=241+(u:Int)) () ();show#[λk=>decide (n9 (c+3*(u:Int)+41*(k:Int)) (241+(u:Int)) 2=0),gA (ρ:=[-(nd m),-(.int c),-(nd u),-(.bool M)]) W ?_];ext fP;show xq (b:=M) (by ext:0) (λq=>by ext q) λ_=>n6 ?_;show hJ (jz (rv:=.ow _) (aE (ar W) (aE (by ext:0) (aE (by ext:0) bf))) W W e) W W
def lB{m k:Nat}{p:Nat->Bool}(h:k<m):decide (k∈bx m p)=p k:=by
 ext bx;cases q:p k with
 |true=>show a7 (YF.mpr #[Yv.mpr h,q])
 |false=>show bg λz=>by rw[(YF.mp z).2]at q;ext q
abbrev lN(P:G Nat):D:=.list (a8 P)
def IJ{d:D}{e:Nat}(h:e=1\/e=2):eY (.list [d]) (.int (e:Int))=R (.ow (X1 e d)):=by rcases h with rfl|rfl<;>rfl
def G7{m b:Nat}(hm:m<=6)(M:b<=2)(p q:Nat->Bool)(c:Int)(f:Bool):∃e Ps,ac7 b e m p q Ps/\gn [nd m,nd b,lN (bx m p),lN (bx m q),.int c,.bool f]=.ok (.ow (Ps.map λP=>lN (bx m P))):=by
 let A:∃X,bP 10 eS [nd m,nd b,lN (bx m p),lN (bx m q),.int c,.bool f]=.ok X/\∃e Ps,ac7 b e m p q Ps/\X=.ow (Ps.map λP=>lN (bx m P)):=by
  show Fh (ρ:=[-(nd m),-(nd b),-(lN (bx m p)),-(lN (bx m q)),-(.int c),-(.bool f),CL,CL,CL,CL]) W ?_;ext eS;show mK (ρ3:=[-(nd m),-(nd b),-(lN (bx m p)),-(lN (bx m q)),-(.int c),-(.bool f),R (.ow []),CL,CL,CL]) (by ext:0) W W ?_;show NN (λi U=>∃(a:cc (Nat->Bool)) (y w n:ck PV),U=[-(nd m),-(nd b),-(lN (bx m p)),-(lN (bx m q)),-(.int c),-(.bool f),R (.ow (a.map λP=>lN (bx m P))),y,w,n]/\a.length=i/\∀P∈a,∀j,j<m->p j=q j->P j=p j) (gM (ds:=[nd b]) (aE (ar W) bf) W (ig ())) #[[],CL,CL,CL,W,W,λP t=>by ext t] ?_ ?_
  .rintro i d U l ⟨a,y,w,n,rfl,Q,t⟩
   unfold a8 at l;rw[Yl]at l;cases z:(Yw b)[i]? with
   |none=>rw[z]at l;ext l
   |some k=>
   rw[z]at l;ext l;let K:k<b:=Yv.mp (YD z);let L:i<b:=by let:=(X0.mp z).1;rwa [YL]at this
   let(r,er):=Kx hm c (u:=k) () f;let H:g6 (b7 (gN 0) (ai (am kJ (aa 0) (aa 1))) (aa 0) (a8 (bx m p)) [CL,-(lN (bx m q))] [])=.ok (a8 ((bx m p).filter λk=>decide (k∈bx m q))):=jR _ _ (by let:(bx m p).length<=(Yw m).length:=ZF _ _;rw[YL]at this;ext) W λk _=>by ext:0
   let G:g6 (b7 (gN 0) (pQ (ai (am kJ (aa 0) (aa 1))) (jK (ai (am kJ (aa 0) (aa 2))) (pQ (ai (am kJ (aa 0) (aa 3))) (ai (am kJ (aa 0) (aa 4)))))) (aa 0) (a8 (Yw m)) [CL,-(lN ((bx m p).filter λk=>decide (k∈bx m q))),-(lN (bx m r)),-(lN (bx m p)),-(lN (bx m q))] [])=.ok (a8 ((Yw m).filter λk=>decide (k∈(bx m p).filter λk=>decide (k∈bx m q))||(decide (k∈bx m r)&&(decide (k∈bx m p)||decide (k∈bx m q))))):=jR _ _ (by rw[YL];ext) W λk _=>yr (by ext:0) λ_=>pS (by ext:0) λ_=>yr (by ext:0) λ_=>by ext:0
   show#[[-(nd m),-(nd b),-(lN (bx m p)),-(lN (bx m q)),-(.int c),-(.bool f),R (.ow (a.map λP=>lN (bx m P))),-(nd k),w,n],W,?_];show mK (ρ3:=[-(nd m),-(nd b),-(lN (bx m p)),-(lN (bx m q)),-(.int c),-(.bool f),R (.ow (a.map λP=>lN (bx m P))),-(nd k),R (.ow (a8 (bx m r))),n]) (jz (rv:=.ow _) (aE (ar W) (aE (ar W) (aE (ar W) (aE (ar W) bf)))) W W er) W W ?_;show mK (ρ3:=[-(nd m),-(nd b),-(lN (bx m p)),-(lN (bx m q)),-(.int c),-(.bool f),R (.ow (a.map λP=>lN (bx m P))),-(nd k),R (.ow (a8 (bx m r))),R (.ow (a8 ((bx m p).filter λk=>decide (k∈bx m q))))]) (d9 (lO (d:=lN (bx m p)) (ar W) W W) W H) W W ?_;show zC (Dm W (d9 (gM (ds:=[nd m]) (aE (ar W) bf) W (ig ())) W G) W W (by rw[X4];ext) W) #[a++[λk=>decide (k∈(bx m p).filter λk=>decide (k∈bx m q))||(decide (k∈bx m r)&&(decide (k∈bx m p)||decide (k∈bx m q)))],_,_,_,by rw[YH];rfl,by rw[Yb,Q];rfl,λP o j h g=>?_];rcases Y3.mp o with o|o
   .show t P o j h g
   .rw[Yh.mp o]
    show(decide (j∈(bx m p).filter λk=>decide (k∈bx m q))||(decide (j∈bx m r)&&(decide (j∈bx m p)||decide (j∈bx m q))))=p j;rw[lB h,lB h,lB h,<-g];cases N:p j with
    |true=>let v:j∈(bx m p).filter λk=>decide (k∈bx m q):=YF.mpr #[YF.mpr #[Yv.mpr h,N],by rw[lB h,<-g];show N];rw[a7 v];rfl
    |false=>
     let v:¬j∈(bx m p).filter λk=>decide (k∈bx m q):=λz=>by let:=(YF.mp (YF.mp z).1).2;rw[N]at this;ext this
     rw[bg v];simp
  .rintro U ⟨a,y,w,n,rfl,Q,t⟩
   rw[ju,YL]at Q;obtain⟨e,C,E⟩:∃e:Nat,(e=1\/e=2)/\1+n9 c 251 2=(e:Int):=by let:=sB (x:=c) (s:=251) (m:=2) ();show#[(1+n9 c 251 2).toNat,by ext,by ext]
   let F:=ko c (s:=251) (m:=2) () () ();let J:cH (.int 1) (.int (n9 c 251 2))=-(.int (e:Int)):=by rw[<-E];rfl
   let B:=IJ (d:=lN (bx m q)) C;let I:cH (.list (a.map λP=>lN (bx m P))) (.list (X1 e (lN (bx m q))))=R (.ow ((a++X1 e q).map λP=>lN (bx m P))):=by show(if(a.map λP=>lN (bx m P)).length+(X1 e (lN (bx m q))).length<=1000000 then R (RV.ow _)else CL)=_;rw[ax (by rw[X4,YE];ext),YH,ab2]
   show hJ (bh (rv:=.ow _) (zd W) (bh (rv:=.ow (X1 e (lN (bx m q)))) (by ext:0) (bh (rv:=.fz (.int (e:Int))) aP (jz (rv:=.fz (.int (n9 c 251 2))) (by ext:0) W W F) W W J) W W B) W W I) W #[e,a++X1 e q,#[#[a,Q,W,t],by ext],W]
 let(X,er,e,Ps,v,rfl):=A;show#[e,Ps,v,er]
def U3(p:Nat->Bool)(z:Nat->D):D->ck D
 |.int i=>if p i.toNat=S then R (z i.toNat)else P
 |_=>P
def Hs{p:Nat->Bool}{z:Nat->D}{x:Nat}:U3 p z (nd x)=if p x=S then R (z x)else P:=by show(if p ((x:Nat):Int).toNat=S then R (z ((x:Nat):Int).toNat)else P)=_;rw[Za]
def nS{c:FT}{k:FE}{cs:aU}(p:Nat->Bool)(z:Nat->D)(xs:G Nat)(i:xs.length<=1000000)(j:bU cs=cs)(h:∀x∈xs,c (-(nd x)::cs)=.ok (p x,-(nd x)::cs)/\k (-(nd x)::cs)=.ok (.fz (z x),-(nd x)::cs)):g6 (b7 (gN 0) c k (a8 xs) (P::cs) [])=.ok ((xs.filter p).map z):=by
 let n:∀xs:G Nat,(a8 xs).filterMap (U3 p z)=(xs.filter p).map z:=λxs=>by
  induction xs with
  |nil=>rfl
  |cons x r e=>
   show(nd x::a8 r).filterMap (U3 p z)=_;cases q:p x with
   |true=>rw[ZQ (b:=z x) (by rw[Hs,ax q]),Zi q,Yi,e]
   |false=>rw[ZP (by rw[Hs,a6 (by rw[q];show X7)]),Zv (by rw[q];show X7),e]
 rw[zD (λt=>∃o,t=o::cs) (U3 p z) #[P,W] (by rw[ju];show i) ?_,n];rintro d l t ⟨o,rfl⟩;let(x,g,rfl):=Yy.mp l;show#[-(nd x)::cs,?_,_,W];rw[Hs];let f:bU (R (PV.fz (nd x))::cs)=-(nd x)::cs:=by show xP _::bU cs=_;rw[j];rfl
 let(a,m):=h x g;cases q:p x with
 |true=>rw[q]at a;rw[ax W];show Mc W a m W f
 |false=>rw[q]at a;rw[a6 X7];show Ki W a f
def RN(r:z RV)(d:D):Bool:=match r with
 |some (.fz e)=>dq 8 e d
 |_=>M
def rQ{r:z RV}{d:D}(h:RN r d=S):r=-(d):=by
 unfold RN at h;split at h
 .rw[qW _ _ _ h]
 .ext h
def Iu:∀j,j<5->(RN (L3.i9 (.str "abcde") (nd j)) (.str (mw j))&&RN (c7 (.str "+") (.str (mw j))) (.str (jE (j,S)))&&RN (c7 (.str "-") (.str (mw j))) (.str (jE (j,M))))=S:=by left
def zA{j:Nat}(h:j<5):L3.i9 (.str "abcde") (nd j)=-(.str (mw j))/\c7 (.str "+") (.str (mw j))=-(.str (jE (j,S)))/\c7 (.str "-") (.str (mw j))=-(.str (jE (j,M))):=by let:=Iu j h;rw[Ld,Ld]at this;show#[rQ this.1.1,rQ this.1.2,rQ this.2]
def BQ{n m:Nat}(b:n<=5)(l:n<=m)(p q:Nat->Bool):iO [nd n,lN (bx m p),lN (bx m q)]=.ok (.ow ((eW (ky n p q)).map .str)):=by
 let t:g6 (b7 (gN 0) (jK (ai (am kJ (aa 0) (aa 1))) (ai (am nQ (aa 0) (aa 2)))) (am c7 (pC (.str "+")) (am L3.i9 (pC (.str "abcde")) (aa 0))) (a8 (Yw n)) [P,-(lN (bx m q)),-(lN (bx m p))] [])=.ok ((bx n λj=>q j&& !p j).map λj=>.str (jE (j,S))):=nS (λj=>q j&& !p j) (λj=>.str (jE (j,S))) _ (by rw[YL];ext) W λj a=>by let i:=Yv.mp a;let(h,g,f):=zA (j:=j) ();show#[?_,by ext:1];rw[<-lB (m:=m) (p:=q) (show j<m by ext),<-lB (m:=m) (p:=p) (show j<m by ext)];show pS (by ext:0) λ_=>by ext:0
 let r:g6 (b7 (gN 0) (jK (ai (am kJ (aa 0) (aa 1))) (ai (am nQ (aa 0) (aa 2)))) (am c7 (pC (.str "-")) (am L3.i9 (pC (.str "abcde")) (aa 0))) (a8 (Yw n)) [P,-(lN (bx m p)),-(lN (bx m q))] [])=.ok ((bx n λj=>p j&& !q j).map λj=>.str (jE (j,M))):=nS (λj=>p j&& !q j) (λj=>.str (jE (j,M))) _ (by rw[YL];ext) W λj a=>by let i:=Yv.mp a;let(h,g,f):=zA (j:=j) ();show#[?_,by ext:1];rw[<-lB (m:=m) (p:=q) (show j<m by ext),<-lB (m:=m) (p:=p) (show j<m by ext)];show pS (by ext:0) λ_=>by ext:0
 let(_,o):=Eb (n:=n) (p:=p) (q:=q) b;let u:cH (.list ((bx n λj=>q j&& !p j).map λj=>.str (jE (j,S)))) (.list ((bx n λj=>p j&& !q j).map λj=>.str (jE (j,M))))=R (.ow ((ky n p q).map .str)):=by
  let e:(bx n λj=>q j&& !p j).map (λj=>X2.str (jE (j,S)))++(bx n λj=>p j&& !q j).map (λj=>X2.str (jE (j,M)))=(ky n p q).map .str:=by ext ky;rw[YH,YW,YW];rfl
  let d:=d6 aaA e;rw[Yb,X4 (as:=ky n p q)]at d;show(if((bx n λj=>q j&& !p j).map λj=>X2.str (jE (j,S))).length+((bx n λj=>p j&& !q j).map λj=>X2.str (jE (j,M))).length<=1000000 then R (RV.ow _)else P)=_;rw[ax (),e]
 show gA (ρ:=[-(nd n),-(lN (bx m p)),-(lN (bx m q)),P]) W ?_;ext iP;show mK (ρ3:=[-(nd n),-(lN (bx m p)),-(lN (bx m q)),R (.ow ((bx n λj=>q j&& !p j).map λj=>.str (jE (j,S))))]) (d9 (gM (ds:=[nd n]) (aE (ar W) bf) W (ig ())) W t) W W ?_;show hJ (iJ (rv:=.ow _) (aE (bh (rv:=.ow ((ky n p q).map .str)) (zd W) (d9 (gM (ds:=[nd n]) (aE (ar W) bf) W (ig ())) W r) W W u) bf) W (Nw o)) W W
def Sk(n w:Nat):Bool:=match g6 (b7 (gN 0) bW (am L3.i9 (pC (.str "abcde")) (aa 0)) (a8 (Yw n)) [P] [])with
 |.ok a=>(match gy " " [.list a]with
  |some (.fz (.str j))=>(match c7 (.str "layer ") (.str j)with
   |some (.fz (.str row))=>(match gv [nd n]with
    |some (.fz (.str b))=>(match gv [nd w]with
     |some (.fz (.str tw))=>(match c7 (.str "bed\nkeys ") (.str b)with
      |some (.fz (.str a1))=>(match c7 (.str a1) (.str " wait ")with
       |some (.fz (.str a2))=>(match c7 (.str a2) (.str tw)with
        |some (.fz (.str f))=>(match c7 (.str f) (.str "\n")with
         |some (.fz (.str e))=>(match c7 (.str e) (.str row)with
          |some (.fz (.str d))=>(match bQ [.str d]with
           |.ok (.fz (.tuple [.str k,.str x]))=>k== "bed"&&OJ (dQ [.str x]) (bD (lb n w))
           |_=>M)
          |_=>M)
         |_=>M)
        |_=>M)
       |_=>M)
      |_=>M)
     |_=>M)
    |_=>M)
   |_=>M)
  |_=>M)
 |_=>M
def J5:∀n,n<6->1<=n->∀w,w<5->1<=w->Sk n w=S:=by left
def LO{n w:Nat}(b:1<=n)(e:n<=5)(a:1<=w)(d:w<=4):∃c j row f tw a1 a2 l i g x,g6 (b7 (gN 0) bW (am L3.i9 (pC (.str "abcde")) (aa 0)) (a8 (Yw n)) [P] [])=.ok c/\gy " " [.list c]=-(.str j)/\c7 (.str "layer ") (.str j)=-(.str row)/\gv [nd n]=-(.str f)/\gv [nd w]=-(.str tw)/\c7 (.str "bed\nkeys ") (.str f)=-(.str a1)/\c7 (.str a1) (.str " wait ")=-(.str a2)/\c7 (.str a2) (.str tw)=-(.str l)/\c7 (.str l) (.str "\n")=-(.str i)/\c7 (.str i) (.str row)=-(.str g)/\bQ [.str g]=.ok (.fz (.tuple [.str "bed",.str x]))/\dQ [.str x]=.ok (.fz (bD (lb n w))):=by
 let h:=J5 n () b w () a;unfold Sk at h;split at h
 .rename_i c e0
  split at h
  .rename_i j e1
   split at h
   .rename_i row e2
    split at h
    .rename_i f e3
     split at h
     .rename_i tw e4
      split at h
      .rename_i a1 e5
       split at h
       .rename_i a2 e6
        split at h
        .rename_i l e7
         split at h
         .rename_i i e8
          split at h
          .rename_i g e9
           split at h
           .rename_i k x U0;rw[Ld]at h;rw[eq_of_beq h.1]at U0;show#[c,j,row,f,tw,a1,a2,l,i,g,x,e0,e1,e2,e3,e4,e5,e6,e7,e8,e9,U0,lx h.2]
           .ext h
          .ext h
         .ext h
        .ext h
       .ext h
      .ext h
     .ext h
    .ext h
   .ext h
  .ext h
 .ext h
def r0(s m:Nat):Int:=if s=0 then 1 else(m:Int)
def r1(s m:Nat):Int:=if s=0 then(m:Int)else 1
def Ht(s m:Nat):mv s m=.tuple [.int (r0 s m),.int (r1 s m)]:=by
 unfold mv r0 r1;by_cases h:s=0
 .rw[ax h,ax h,ax h]
 .rw[a6 h,a6 h,a6 h]
def NL(s m:Nat):xT s m=.tuple [.int (r0 s m),.int (r1 s m),.tuple (Ey s m)]:=by
 unfold xT r0 r1;by_cases h:s=0
 .rw[ax h,ax h,ax h]
 .rw[a6 h,a6 h,a6 h]
def E1(s m b:Nat):Bool:=match g6 (b7 (gN 0) bW (aW gY 2 {aa 1,aa 0}) (a8 (Yw m)) [P,-(mv s m)] [])with
 |.ok a=>(match gy "," [.list a]with
  |some (.fz (.str sp))=>(match gv [.int (r0 s m)]with
   |some (.fz (.str t0))=>(match gv [.int (r1 s m)]with
    |some (.fz (.str t1))=>(match gv [nd b]with
     |some (.fz (.str d))=>(match gy " " [.list [.str "frame",.str t0,.str t1,.str d,.str sp]]with
      |some (.fz (.str row))=>OJ (bQ [.str row]) (.tuple [.str "frame",.tuple [.int (r0 s m),.int (r1 s m),nd b,.tuple (Ey s m)]])&&OJ (cg [.int (r0 s m),.int (r1 s m),.list (Ey s m)]) (.tuple [.int (r0 s m),.int (r1 s m),.tuple (Ey s m)])&&RN (t8 [mv s m]) (nd m)
      |_=>M)
     |_=>M)
    |_=>M)
   |_=>M)
  |_=>M)
 |_=>M
def Cz:∀s,s<2->∀m,m<7->1<=m->∀b,b<3->E1 s m b=S:=by left
def B2{s m b:Nat}(d:s<2)(a:1<=m)(f:m<=6)(e:b<3):∃c sp t0 t1 g row,g6 (b7 (gN 0) bW (aW gY 2 {aa 1,aa 0}) (a8 (Yw m)) [P,-(mv s m)] [])=.ok c/\gy "," [.list c]=-(.str sp)/\gv [.int (r0 s m)]=-(.str t0)/\gv [.int (r1 s m)]=-(.str t1)/\gv [nd b]=-(.str g)/\gy " " [.list [.str "frame",.str t0,.str t1,.str g,.str sp]]=-(.str row)/\bQ [.str row]=.ok (.fz (.tuple [.str "frame",.tuple [.int (r0 s m),.int (r1 s m),nd b,.tuple (Ey s m)]]))/\cg [.int (r0 s m),.int (r1 s m),.list (Ey s m)]=.ok (.fz (.tuple [.int (r0 s m),.int (r1 s m),.tuple (Ey s m)]))/\t8 [mv s m]=-(nd m):=by
 let h:=Cz s d m () a b e;unfold E1 at h;split at h
 .rename_i c e0
  split at h
  .rename_i sp e1
   split at h
   .rename_i t0 e2
    split at h
    .rename_i t1 e3
     split at h
     .rename_i g e4
      split at h
      .rename_i row e5;rw[Ld,Ld]at h;show#[c,sp,t0,t1,g,row,e0,e1,e2,e3,e4,e5,lx h.1.1,lx h.1.2,rQ h.2]
      .ext h
     .ext h
    .ext h
   .ext h
  .ext h
 .ext h
def GX{F:hG}{n:Nat}{f:wY}{e:bc}{d c a:aO}{xs:G SV}{x:SV}(h:f e d=.ok xs c)(g:xs.length=n)(b:F xs c=.ok x a):tF F n f e d=.ok x a:=by ext tF;rw[h,ej,ax g,b];rfl
def pT{f:ez}{b:bc}{a:aO}{ds:G D}(h:f b a=.ok (.rf a.length) (a++[.lst (ds.map .fz)])):mh f b a=.ok (.fz (.list ds)) (a++[.dead]):=by let e:=vX h (pK aH);simp_all
theorem Ij{f:ez}{b:bc}{a:aO}{d:D}(h:f b a=.ok (.fz d) a):mh f b a=.ok (.fz d) a:=vX h W
def wH(c:Int){n:Nat}:∃s m:Nat,s<2/\n<=m/\m<=n+1/\iE [.int c,nd n]=.ok (.fz (mv s m)):=by
 let d1:=ko c (s:=233) (m:=2) () () ();let d:=ko c (s:=239) (m:=2) () () ();let b1:=sB (x:=c) (s:=233) (m:=2) ();obtain⟨k,a⟩:∃k:Nat,n9 c 233 2=(k:Int):=#[(n9 c 233 2).toNat,by ext];let e:cH (nd n) (.int (n9 c 233 2))=-(nd (n+k)):=by rw[a];rfl
 by_cases h:n9 c 239 2=0
 .show#[0,n+k,by decide,by ext,by ext,?_];show gA (ρ:=[-(.int c),-(nd n),P]) W ?_;ext eJ;show mK (ρ3:=[-(.int c),-(nd n),-(nd (n+k))]) (by ext:0) W W ?_;show xq (b:=decide (n9 c 239 2=0)) (by ext:0) (λ_=>?_) λq=>b4 h (of_decide_eq_false q);ext:2;rfl
 .show#[1,n+k,by decide,by ext,by ext,?_];show gA (ρ:=[-(.int c),-(nd n),P]) W ?_;ext eJ;show mK (ρ3:=[-(.int c),-(nd n),-(nd (n+k))]) (by ext:0) W W ?_;show xq (b:=decide (n9 c 239 2=0)) (by ext:0) (λq=>b4 (b3 q) h) λ_=>n6 ?_;ext:2;rfl
def Ic(n:Nat):gw (lw (AG n λ_=>(0,(0,0))))=jQ:=by
 let e:(AG n λ_=>(0,(0,0)))=λ_=>M:=by funext j;ext AG;show(decide (j<n)&&M)=M;rw[ac4]
 rw[e];rfl
theorem Dn:lr (.str "ok") (.str "ok")=-(.bool M):=rQ (by left)
abbrev eQ(ns:G Int)(h:z SV)(n s m b:Nat)(a sp:Str)(g f e d:z SV):bc:=[-(.list (ns.map .int)),h,-(nd n),-(mv s m),-(nd m),-(nd b),R (.rf 0),-(.str a),-(.str sp),g,f,e,d]
theorem DK.ap{c J:aO}{Q T l:Nat}{e:D}{b:Int}{d:G Nat}{g:Nat->Int×(Int×Int)}{a st:D}(h:DK c Q T l e b d g a st):DK (c++J) Q T l e b d g a st:=#[dF h.d,h.t.app]
def main(ns:cc Int)(D:ns.length<=63):L10.SM F_law [.list (ns.map .int)]=.ok (.fz (.bool XX)):=by
 let(f,e0):=A9 ns 0 ();let(M,e1):=A9 ns 1 ();let dn:=ko f (s:=269) (m:=5) () () ();let bn:=sB (x:=f) (s:=269) (m:=5) ();obtain⟨n,hn⟩:∃n:Nat,1+n9 f 269 5=(n:Int):=#[(1+n9 f 269 5).toNat,by ext];let an:cH (.int 1) (.int (n9 f 269 5))=-(nd n):=by show cL (RV.fz (.int (1+n9 f 269 5)))=_;rw[hn]
 let(s,m,hs,H,hm,ef):=wH f (n:=n);let db:=ko M (s:=257) (m:=3) () () ();let bb:=sB (x:=M) (s:=257) (m:=3) ();obtain⟨b,hb⟩:∃b:Nat,n9 M 257 3=(b:Int):=#[(n9 M 257 3).toNat,by ext];rw[hb]at db;let dw:=ko f (s:=23) (m:=4) () () ();let bw:=sB (x:=f) (s:=23) (m:=4) ();obtain⟨w,hw⟩:∃w:Nat,1+n9 f 23 4=(w:Int):=#[(1+n9 f 23 4).toNat,by ext];let aw:cH (.int 1) (.int (n9 f 23 4))=-(nd w):=by show cL (RV.fz (.int (1+n9 f 23 4)))=_;rw[hw]
 let(ts,j,a,tn,tw,a1,a2,a3,a4,a5,x,w0,w1,w2,w3,w4,w5,w6,w7,w8,w9,O,N):=LO (n:=n) (w:=w) () () () ();let(us,sp,t0,t1,tb,J,f0,f1,f2,f3,f4,f5,f6,f7,f8):=B2 (s:=s) (m:=m) (b:=b) hs () () ();let i0:aK (mv s m) (.int 0)=-(.int (r0 s m)):=by rw[Ht];show iS
 let i1:aK (mv s m) (.int 1)=-(.int (r1 s m)):=by rw[Ht];show i7
 let S:Out (F_law [.fz (.list (ns.map .int))] []) (λv _=>v=.fz (.bool XX)) (λ_=>False):=by
  show uU (ρ:=[-(.list (ns.map .int)),CL,CL,CL,CL,CL,CL,CL,CL,CL,CL,CL,CL]) W ?_;ext xJ;show de (x:=.fz (.int f)) (ρ1:=[-(.list (ns.map .int)),-(.int f),CL,CL,CL,CL,CL,CL,CL,CL,CL,CL,CL]) (af (by ext:1)) W ?_;show de (x:=.fz (nd n)) (ρ1:=[-(.list (ns.map .int)),-(.int f),-(nd n),CL,CL,CL,CL,CL,CL,CL,CL,CL,CL]) (af (by ext:1)) W ?_;show de (x:=.fz (mv s m)) (ρ1:=[-(.list (ns.map .int)),-(.int f),-(nd n),-(mv s m),CL,CL,CL,CL,CL,CL,CL,CL,CL]) (af (by ext:1)) W ?_;show de (x:=.fz (nd m)) (ρ1:=[-(.list (ns.map .int)),-(.int f),-(nd n),-(mv s m),-(nd m),CL,CL,CL,CL,CL,CL,CL,CL]) (af (by ext:1)) W ?_;show de (x:=.fz (nd b)) (ρ1:=[-(.list (ns.map .int)),-(.int f),-(nd n),-(mv s m),-(nd m),-(nd b),CL,CL,CL,CL,CL,CL,CL]) (af (by ext:1)) W ?_;let(ω1,T1,l1,ks1,d1,k1,_):=QJ (ω:=[]);show de (x:=.rf 0) (ω1:=ω1) (ρ1:=[-(.list (ns.map .int)),-(.int f),-(nd n),-(mv s m),-(nd m),-(nd b),cL (.rf 0),CL,CL,CL,CL,CL,CL]) (qN aB W d1) W ?_;show de (x:=.fz (.str a)) (ρ1:=[-(.list (ns.map .int)),-(.int f),-(nd n),-(mv s m),-(nd m),-(nd b),cL (.rf 0),-(.str a),CL,CL,CL,CL,CL]) (af (bh (rv:=.fz (.str a)) aP (z8 (rv:=.fz (.str j)) aP W (aE (d9 (gM (ds:=[nd n]) (aE (ar W) bf) W (ig ())) W w0) bf) W w1) W W w2)) W ?_;let(ω2,s2,k2,_):=KP k1 O N;let tx:ag (am c7 (am c7 (am c7 (am c7 (am c7 (pC (.str "bed\nkeys ")) (cF gv {aa 2})) (pC (.str " wait "))) (cF gv {am cH (~~~1) (aW bN 3 {aa 1,~~~23,~~~4})})) (pC (.str "\n"))) (aa 7)) [-(.list (ns.map .int)),-(.int f),-(nd n),-(mv s m),-(nd m),-(nd b),cL (.rf 0),-(.str a),CL,CL,CL,CL,CL] ω1=.ok (.fz (.str a5)) ω1:=af (by ext:1);show sd (aX (cz (dI (aA W) k1.d Bb (aq tx aB) W s2) (af (d:=.str "ok") aP) (bR Dn))) (nU ?_);show de (x:=.fz (.str sp)) (ρ1:=eQ ns (-(.int f)) n s m b a sp CL CL CL CL) (af (z8 (rv:=.fz (.str sp)) aP W (aE (d9 (gM (ds:=[nd m]) (aE (ar W) bf) W (ig ())) W f0) bf) W f1)) W ?_;let Q:(Ey s m).length=m:=by ext Ey;rw[X4,YL]
  let(E,T,l,G,s3,hk,k3,_):=Cc (b':=(b:Int)) k2 () f6 f7;rw[Q]at hk;rw[<-NL,<-Ic n]at k3;show sd (aX (cz (dI (aA W) k2.d Bb (aq (af (d:=.str J) (z8 (rv:=.fz (.str J)) aP W (aE (by ext:0) bf) W f5)) aB) W s3) (af (d:=.str "ok") aP) (bR Dn))) (nU ?_);show de (x:=.fz (.list [])) (ω1:=E++[.dead]) (ρ1:=eQ ns (-(.int f)) n s m b a sp (-(.list [])) CL CL CL) (pT (ds:=[]) (dD (ds:=[]) (by ext:0))) W ?_;obtain⟨hi,X⟩:∃hi:Int,(am rq (~~~63) (am eY (~~~11) (cF uF {am bv (aa 5) (~~~2)}))) (bO (eQ ns (-(.int f)) n s m b a sp (-(.list [])) CL CL CL))=.ok (.fz (.int hi),bO (eQ ns (-(.int f)) n s m b a sp (-(.list [])) CL CL CL)):=by
   let q5:bv (nd b) (.int 2)=-(.bool (decide ((b:Int)=2))):=jV _ _;by_cases z:(b:Int)=2
   .rw[a7 z]at q5;let R:eY (.int 11) (.int 1)=-(.int 11):=W;show#[52,bh (rv:=.fz (.int 52)) aP (bh (rv:=.fz (.int 11)) aP (iJ (rv:=.fz (.int 1)) (aE (by ext:0) bf) W W) W W R) W W W]
   .rw[bg z]at q5;let R:eY (.int 11) (.int 0)=-(.int 0):=W;show#[63,bh (rv:=.fz (.int 63)) aP (bh (rv:=.fz (.int 0)) aP (iJ (rv:=.fz (.int 0)) (aE (by ext:0) bf) W W) W W R) W W W]
  let(L,ml,em):=Gf ns (cL 2) (cL hi);show oz (vA (λi ρ h=>∃(F u r o:ck SV) (p:Nat->Bool) (g:Nat->Int×(Int×Int)) (t:Int),ρ=eQ ns F n s m b a sp (-(lN (bx m p))) u r o/\DK h 0 T l (xT s m) (b:Int) G g (bD (lb n w)) (gw (lw (AG n g)))/\GI m b t p g) (ds:=L.map .int) (ω1:=E++[.dead]) (lg (lO (d:=.list (L.map .int)) (MP (rv:=.ow (L.map .int)) (ar W) (rC aP W) (rC X W) W em) W W)) #[-(.int f),CL,CL,CL,λ_=>XZ,λ_=>(0,(0,0)),0,?_,k3.ap,#[λ_ _=>W,λ_ _=>W,λ_ _=>by show(0:Int)<=0+(b:Int);ext]] ?_ ?_)
  .show eQ ns (-(.int f)) n s m b a sp (-(.list [])) CL CL CL=_;rw[show bx m (λ_=>XZ)=[]from aea.mpr λ_ _=>X7];rfl
  .rintro i d ρ h I ⟨F,u,r,o,p,g,t,rfl,dk,gi⟩
   rw[Yl]at I;cases z:L[i]? with
   |none=>rw[z]at I;ext I
   |some c=>
   rw[z]at I;ext I;show#[eQ ns (-(.int c)) n s m b a sp (-(lN (bx m p))) u r o,h,W,?_];obtain⟨A,Y⟩:∃A:Bool,ag (yP (dB qX uR (~~~0) (aa 1) (am B3 (~~~10) (~~~18)))) (eQ ns (-(.int c)) n s m b a sp (-(lN (bx m p))) u r o) h=.ok (.fz (.bool A)) h:=#[!(decide (0<=c)&&decide (c<10^18)),af (by ext:1)];show de (x:=.fz (.bool A)) (ρ1:=eQ ns (-(.int c)) n s m b a sp (-(lN (bx m p))) (-(.bool A)) r o) Y W ?_;let es:=EY (m:=m) () c (salt:=263) () ();generalize (λk:Nat=>decide (n9 (c+41*(k:Int)) 263 2=0))=q0 at es;show de (x:=.fz (lN (bx m q0))) (ω1:=h++[.dead]) (ρ1:=eQ ns (-(.int c)) n s m b a sp (-(lN (bx m p))) (-(.bool A)) (-(lN (bx m q0))) o) (pT (dD (jz (rv:=.ow (a8 (bx m q0))) (by ext:0) W W es))) W ?_;let C:DK (h++[.dead]) 0 T l (xT s m) (b:Int) G g (bD (lb n w)) (gw (lw (AG n g))):=dk.ap;generalize h++[Cell.dead]=ω4 at C;let B:∀(q:Nat->Bool) (y:aO),DK y 0 T l (xT s m) (b:Int) G g (bD (lb n w)) (gw (lw (AG n g)))->sK ((av (b6 (mh (ag (aW gn 6 (ae (aa 4) (ae (aa 5) {aa 9,aa 11,aa 1,aa 10}))))) (dW 12))
 (av (bE (qY (aZ (tF gG 5 (aj (au 6) (aj (ag (aa 2)) (aj (ag (aa 3)) (aj (ag (aa 12)) (aj (ag (aW iO 3 {aa 2,aa 9,aa 11})) aL)))))))) (eK (ag (pC (.bool XZ)))) bC)
 (b6 (mh (ag (aa 11))) (dW 9)))) (eQ ns (-(.int c)) n s m b a sp (-(lN (bx m p))) (-(.bool A)) (-(lN (bx m q))) o) y) (λρ h=>∃(F u r o:ck SV) (p:Nat->Bool) (g:Nat->Int×(Int×Int)) (t:Int),ρ=eQ ns F n s m b a sp (-(lN (bx m p))) u r o/\DK h 0 T l (xT s m) (b:Int) G g (bD (lb n w)) (gw (lw (AG n g)))/\GI m b t p g) (λv _=>v=.fz (.bool XX)) (λ_=>False):=λq y dk5=>by
    let(e,K,ce,U):=G7 (m:=m) (b:=b) () () p q c A;show de (x:=.fz (yH m K)) (ω1:=y++[.dead]) (ρ1:=eQ ns (-(.int c)) n s m b a sp (-(lN (bx m p))) (-(.bool A)) (-(lN (bx m q))) (-(yH m K))) (pT (dD (jz (rv:=.ow (K.map λP=>lN (bx m P))) (by ext:0) W W U))) W ?_;let dk6:DK (y++[.dead]++[.lst (((eW (ky n p q)).map X2.str).map .fz)]) 0 T l (xT s m) (b:Int) G g (bD (lb n w)) (gw (lw (AG n g))):=dk5.ap.ap;let(ω7,e7,Z,_):=Jv hs () () () () H () () hk dk6 gi ce aH;let ed:=BQ (n:=n) (m:=m) () H p q;show sd (p7 (b:=XX) (aX (GX (aq (aA W) (aq (af (d:=nd n) (by ext:0)) (aq (af (d:=mv s m) (by ext:0)) (aq (af (d:=yH m K) (by ext:0)) (aq (dD (jz (rv:=.ow ((eW (ky n p q)).map .str)) (by ext:0) W W ed)) aB))))) W e7))) (nU ?_);show qS (dR (Ij (af (d:=lN (bx m q)) (by ext:0))) W) #[_,_,_,_,q,gE b g K,_,W,Z,wK ce gi]
   cases hdg:A with
   |false=>subst hdg;show sd (aN (by ext:0)) (nU ?_);show B q0 ω4 C
   |true=>
    subst hdg;let cm:g6 (b7 (gN 0) (ai (am bv (am mE (am vM (aa 1) (aa 0)) (~~~1)) (~~~1))) (aa 0) (a8 (Yw m)) [CL,-(.int c)] [])=.ok (a8 ((Yw m).filter λk=>decide (Yx.bitAnd (c/2^k) 1=1))):=jR _ _ (by rw[YL];ext) W λk _=>by
     let s1:vM (.int c) (nd k)=-(.int (c/2^k)):=by show(if decide (0<=(k:Int))=XX then cL (RV.fz (.int (c/2^((k:Int)).toNat)))else CL)=_;rw[a7 (),ax W,Za]
     let b1:mE (.int (c/2^k)) (.int 1)=-(.int (Yx.bitAnd (c/2^k) 1)):=W;ext:0
    show OG (aN (by ext:0)) ?_;show de (x:=.fz (lN (bx m λk=>decide (Yx.bitAnd (c/2^k) 1=1)))) (ω1:=ω4++[.dead]) (ρ1:=eQ ns (-(.int c)) n s m b a sp (-(lN (bx m p))) (-(.bool XX)) (-(lN (bx m λk=>decide (Yx.bitAnd (c/2^k) 1=1)))) o) (pT (dD (d9 (gM (ds:=[nd m]) (aE (ar W) bf) W (ig ())) W cm))) W ?_;show B _ _ C.ap
  .rintro ρ h ⟨F,u,r,o,p,g,t,rfl,dk,gi⟩;show uV (af aP) W
 let(v,h,e,rfl):=UQ S;ext L10.SM;rw[show([X2.list (ns.map .int)].map SV.fz)=[.fz (.list (ns.map .int))]from rfl,e]
end K91
namespace K91
open PySem L2 L3 L10 STP CC
set_option synthInstance.maxHeartbeats 400000
set_option synthInstance.maxSize 4000
def top(i:Nat):ZW:=PySem.Challenge.pw_chordbed_k91_whole_from_wires_to_letters.main.body.getD i (.Pass ⟨0,0,0,0⟩)
def TB:G Fd:=[cb 1 "layer_of" ["standing"] 1 eE,
 cb 1 "looked_up" ["bed","layer","key"] 3 jl,
 cb 1 "chords_over" ["bed","keys"] 2 bI,
 cb 1 "chord_acts" ["bed","keys"] 2 fU,
 cb 1 "_law_cell" ["_law_script","_law_k"] 2 g8,
 cb 1 "_law_draw" ["_law_cell_here","_law_salt","_law_many"] 3 bN,
 cb 2 "_law_frame" ["_law_cell_here","_law_keys"] 2 iE,
 cb 1 "_law_spot" ["_law_frame_here","_law_key"] 2 gY,
 cb 1 "_law_reading" ["_law_frame_here","_law_keys"] 2 cj,
 cb 2 "_law_set" ["_law_many","_law_cell_here","_law_salt"] 3 iU,
 cb 3 "_law_some" ["_law_many","_law_cell_here","_law_turn","_law_digits"] 4 jj,
 cb 4 "_law_scans" ["_law_many","_law_bound","_law_ahead","_law_keys","_law_cell_here","_law_digits"] 6 gn,
 cb 1 "_law_due" ["_law_bed","_law_ahead","_law_keys"] 3 iO,
 cb 1 "_law_parts" ["_law_answer"] 1 eT,
 cb 1 "is_within" ["rows","columns","spot"] 3 kQ,
 cb 2 "frame_of" ["rows","columns","spots"] 3 cg,
 cb 1 "read_number" ["word"] 1 bJ,
 cb 1 "all_read" ["values"] 1 cW,
 cb 2 "read_numbers" ["words"] 1 iQ,
 cb 1 "is_letter" ["text"] 1 dH,
 cb 2 "read_meaning" ["word"] 1 i4,
 cb 3 "read_layer" ["words"] 1 kh,
 cb 2 "read_parted" ["text","sign"] 2 fu,
 cb 3 "read_chord" ["words"] 1 j9,
 cb 1 "check_numbers" ["bed"] 1 hU,
 cb 2 "may_mean" ["meaning","layer","layers"] 3 mW,
 cb 3 "check_layer" ["bed","layer"] 2 jw,
 cb 1 "rises" ["keys"] 1 vI,
 cb 2 "is_chord_set" ["bed","keys"] 2 iV,
 cb 3 "check_chord" ["bed","place"] 2 jB,
 cb 4 "checked" ["bed"] 1 oj,
 cb 5 "read_bed" ["text"] 1 dQ,
 cb 3 "read_spot" ["word"] 1 kY,
 cb 4 "read_frame" ["words"] 1 j5,
 cb 2 "read_letters" ["word"] 1 iK,
 cb 5 "read_words" ["words"] 1 kg,
 cb 6 "read_row" ["row"] 1 bQ,
 cb 1 "reads_column" ["number","column"] 2 iT,
 cb 1 "joined" ["number","numbers"] 2 nr,
 cb 2 "spread" ["numbers"] 1 sD,
 cb 3 "reads" ["frame","keys"] 2 pP,
 cb 4 "keys_read" ["frame","reading"] 2 lz,
 cb 1 "without" ["keys","key"] 2 ox,
 cb 4 "word_of" ["frame","reading","keys","key"] 4 om,
 cb 5 "seen" ["frame","reading"] 2 kT,
 cb 1 "shown_sent" ["sent"] 1 cN,
 cb 1 "shown_keys" ["keys"] 1 dJ,
 T4 3 "Hand" ["self","bed","standing"] 3 dZ,
 qO M 3 "Hand" "stands" ["self"] 1 bH,
 qO M 3 "Hand" "is_waiting" ["self","key"] 2 b5,
 qO M 3 "Hand" "has_act" ["self","act"] 2 bM,
 qO M 4 "Hand" "come" ["self","key","act"] 3 bp,
 qO M 4 "Hand" "go" ["self","key"] 2 jH,
 qO M 5 "Hand" "decide" ["self"] 1 cU,
 qO M 4 "Hand" "makes_chord" ["self","key"] 2 dP,
 qO M 6 "Hand" "put_to_chord" ["self","key"] 2 c9,
 qO M 5 "Hand" "begin" ["self","key"] 2 fZ,
 qO M 7 "Hand" "press" ["self","key"] 2 ix,
 qO M 6 "Hand" "settle" ["self","key"] 2 gL,
 qO M 7 "Hand" "lift" ["self","key"] 2 jr,
 qO M 6 "Hand" "wait_on" ["self"] 1 gh,
 Nm 8 "step" ["bed","standing","event"] 3 STP.rJ,
 T4 3 "OneKey" ["self","bound"] 2 bq,
 qO M 3 "OneKey" "tell" ["self","reading"] 2 fC,
 T4 5 "Teller" ["self","frame","bound"] 3 b0,
 qO M 4 "Teller" "tell_one" ["self","key","word"] 3 eh,
 qO M 6 "Teller" "scan" ["self","reading"] 2 fy,
 qO M 3 "Teller" "down" ["self"] 1 gP,
 T4 7 "Desk" ["self"] 1 fG,
 qO M 9 "Desk" "run_through" ["self","events"] 2 cB,
 qO M 7 "Desk" "take_frame" ["self","what"] 2 et,
 qO M 6 "Desk" "take_bed" ["self","text"] 2 fH,
 qO M 10 "Desk" "take_scan" ["self","reading"] 2 eP,
 qO M 11 "Desk" "say" ["self","row"] 2 cy,
 Nm 12 "_law_one" ["_law_desk","_law_bed","_law_frame_here","_law_scans_here","_law_due_here"] 5 gG]
def MD:Md:=⟨["max","all","list","sorted","len","str","int","sum","range","isinstance","enumerate","tuple","zip","dict"],[],[("NONE",(.tuple [(.str "none")])),("MOST_WIRES",(.int 6)),("MOST_KEYS_frames",(.int 12)),("FIGURES",(.str "0123456789")),("MOST_KEYS_beds",(.int 5)),("MOST_LAYERS",(.int 3)),("MOST_CHORDS",(.int 4)),("MOST_WAIT",(.int 4)),("BED_AHEAD",(.str "bed\n")),("NOTHING",(.str ".")),("CHORD",(.tuple [(.str "chord")])),("WORDS",(.tuple [(.str "up"),(.str "down")])),("FIRST_BED",(.str "keys 1 wait 1\nlayer a")),("AT_REST",(.tuple [(.tuple []),.none,.none])),("DONE",(.str "ok")),("TURN",(.tuple [(.str "turn"),(.int 0)]))],[("Hand",["bed","acts","waiting","once","sent"]),("OneKey",["bound","last","turns","free_from"]),("Teller",["frame","each_key"]),("Desk",["teller","bed","standing"])]⟩
noncomputable instance:Fn TB cb eE 1:=⟨0,1,"layer_of",["standing"],W⟩
noncomputable instance:Fn TB cb jl 3:=⟨1,1,"looked_up",["bed","layer","key"],W⟩
noncomputable instance:Fn TB cb bI 2:=⟨2,1,"chords_over",["bed","keys"],W⟩
noncomputable instance:Fn TB cb fU 2:=⟨3,1,"chord_acts",["bed","keys"],W⟩
noncomputable instance:Fn TB cb g8 2:=⟨4,1,"_law_cell",["_law_script","_law_k"],W⟩
noncomputable instance:Fn TB cb bN 3:=⟨5,1,"_law_draw",["_law_cell_here","_law_salt","_law_many"],W⟩
noncomputable instance:Fn TB cb iE 2:=⟨6,2,"_law_frame",["_law_cell_here","_law_keys"],W⟩
noncomputable instance:Fn TB cb gY 2:=⟨7,1,"_law_spot",["_law_frame_here","_law_key"],W⟩
noncomputable instance:Fn TB cb cj 2:=⟨8,1,"_law_reading",["_law_frame_here","_law_keys"],W⟩
noncomputable instance:Fn TB cb iU 3:=⟨9,2,"_law_set",["_law_many","_law_cell_here","_law_salt"],W⟩
noncomputable instance:Fn TB cb jj 4:=⟨10,3,"_law_some",["_law_many","_law_cell_here","_law_turn","_law_digits"],W⟩
noncomputable instance:Fn TB cb gn 6:=⟨11,4,"_law_scans",["_law_many","_law_bound","_law_ahead","_law_keys","_law_cell_here","_law_digits"],W⟩
noncomputable instance:Fn TB cb iO 3:=⟨12,1,"_law_due",["_law_bed","_law_ahead","_law_keys"],W⟩
noncomputable instance:Fn TB cb eT 1:=⟨13,1,"_law_parts",["_law_answer"],W⟩
noncomputable instance:Fn TB cb kQ 3:=⟨14,1,"is_within",["rows","columns","spot"],W⟩
noncomputable instance:Fn TB cb cg 3:=⟨15,2,"frame_of",["rows","columns","spots"],W⟩
noncomputable instance:Fn TB cb bJ 1:=⟨16,1,"read_number",["word"],W⟩
noncomputable instance:Fn TB cb cW 1:=⟨17,1,"all_read",["values"],W⟩
noncomputable instance:Fn TB cb iQ 1:=⟨18,2,"read_numbers",["words"],W⟩
noncomputable instance:Fn TB cb dH 1:=⟨19,1,"is_letter",["text"],W⟩
noncomputable instance:Fn TB cb i4 1:=⟨20,2,"read_meaning",["word"],W⟩
noncomputable instance:Fn TB cb kh 1:=⟨21,3,"read_layer",["words"],W⟩
noncomputable instance:Fn TB cb fu 2:=⟨22,2,"read_parted",["text","sign"],W⟩
noncomputable instance:Fn TB cb j9 1:=⟨23,3,"read_chord",["words"],W⟩
noncomputable instance:Fn TB cb hU 1:=⟨24,1,"check_numbers",["bed"],W⟩
noncomputable instance:Fn TB cb mW 3:=⟨25,2,"may_mean",["meaning","layer","layers"],W⟩
noncomputable instance:Fn TB cb jw 2:=⟨26,3,"check_layer",["bed","layer"],W⟩
noncomputable instance:Fn TB cb vI 1:=⟨27,1,"rises",["keys"],W⟩
noncomputable instance:Fn TB cb iV 2:=⟨28,2,"is_chord_set",["bed","keys"],W⟩
noncomputable instance:Fn TB cb jB 2:=⟨29,3,"check_chord",["bed","place"],W⟩
noncomputable instance:Fn TB cb oj 1:=⟨30,4,"checked",["bed"],W⟩
noncomputable instance:Fn TB cb dQ 1:=⟨31,5,"read_bed",["text"],W⟩
noncomputable instance:Fn TB cb kY 1:=⟨32,3,"read_spot",["word"],W⟩
noncomputable instance:Fn TB cb j5 1:=⟨33,4,"read_frame",["words"],W⟩
noncomputable instance:Fn TB cb iK 1:=⟨34,2,"read_letters",["word"],W⟩
noncomputable instance:Fn TB cb kg 1:=⟨35,5,"read_words",["words"],W⟩
noncomputable instance:Fn TB cb bQ 1:=⟨36,6,"read_row",["row"],W⟩
noncomputable instance:Fn TB cb iT 2:=⟨37,1,"reads_column",["number","column"],W⟩
noncomputable instance:Fn TB cb nr 2:=⟨38,1,"joined",["number","numbers"],W⟩
noncomputable instance:Fn TB cb sD 1:=⟨39,2,"spread",["numbers"],W⟩
noncomputable instance:Fn TB cb pP 2:=⟨40,3,"reads",["frame","keys"],W⟩
noncomputable instance:Fn TB cb lz 2:=⟨41,4,"keys_read",["frame","reading"],W⟩
noncomputable instance:Fn TB cb ox 2:=⟨42,1,"without",["keys","key"],W⟩
noncomputable instance:Fn TB cb om 4:=⟨43,4,"word_of",["frame","reading","keys","key"],W⟩
noncomputable instance:Fn TB cb kT 2:=⟨44,5,"seen",["frame","reading"],W⟩
noncomputable instance:Fn TB cb cN 1:=⟨45,1,"shown_sent",["sent"],W⟩
noncomputable instance:Fn TB cb dJ 1:=⟨46,1,"shown_keys",["keys"],W⟩
noncomputable instance:FK TB "Hand" dZ 3:=⟨47,3,["self","bed","standing"],W⟩
noncomputable instance:FM TB M "Hand" "stands" bH 1:=⟨48,3,["self"],W⟩
noncomputable instance:FM TB M "Hand" "is_waiting" b5 2:=⟨49,3,["self","key"],W⟩
noncomputable instance:FM TB M "Hand" "has_act" bM 2:=⟨50,3,["self","act"],W⟩
noncomputable instance:FM TB M "Hand" "come" bp 3:=⟨51,4,["self","key","act"],W⟩
noncomputable instance:FM TB M "Hand" "go" jH 2:=⟨52,4,["self","key"],W⟩
noncomputable instance:FM TB M "Hand" "decide" cU 1:=⟨53,5,["self"],W⟩
noncomputable instance:FM TB M "Hand" "makes_chord" dP 2:=⟨54,4,["self","key"],W⟩
noncomputable instance:FM TB M "Hand" "put_to_chord" c9 2:=⟨55,6,["self","key"],W⟩
noncomputable instance:FM TB M "Hand" "begin" fZ 2:=⟨56,5,["self","key"],W⟩
noncomputable instance:FM TB M "Hand" "press" ix 2:=⟨57,7,["self","key"],W⟩
noncomputable instance:FM TB M "Hand" "settle" gL 2:=⟨58,6,["self","key"],W⟩
noncomputable instance:FM TB M "Hand" "lift" jr 2:=⟨59,7,["self","key"],W⟩
noncomputable instance:FM TB M "Hand" "wait_on" gh 1:=⟨60,6,["self"],W⟩
noncomputable instance:Fn TB Nm STP.rJ 3:=⟨61,8,"step",["bed","standing","event"],W⟩
noncomputable instance:FK TB "OneKey" bq 2:=⟨62,3,["self","bound"],W⟩
noncomputable instance:FM TB M "OneKey" "tell" fC 2:=⟨63,3,["self","reading"],W⟩
noncomputable instance:FK TB "Teller" b0 3:=⟨64,5,["self","frame","bound"],W⟩
noncomputable instance:FM TB M "Teller" "tell_one" eh 3:=⟨65,4,["self","key","word"],W⟩
noncomputable instance:FM TB M "Teller" "scan" fy 2:=⟨66,6,["self","reading"],W⟩
noncomputable instance:FM TB M "Teller" "down" gP 1:=⟨67,3,["self"],W⟩
noncomputable instance:FK TB "Desk" fG 1:=⟨68,7,["self"],W⟩
noncomputable instance:FM TB M "Desk" "run_through" cB 2:=⟨69,9,["self","events"],W⟩
noncomputable instance:FM TB M "Desk" "take_frame" et 2:=⟨70,7,["self","what"],W⟩
noncomputable instance:FM TB M "Desk" "take_bed" fH 2:=⟨71,6,["self","text"],W⟩
noncomputable instance:FM TB M "Desk" "take_scan" eP 2:=⟨72,10,["self","reading"],W⟩
noncomputable instance:FM TB M "Desk" "say" cy 2:=⟨73,11,["self","row"],W⟩
noncomputable instance:Fn TB Nm gG 5:=⟨74,12,"_law_one",["_law_desk","_law_bed","_law_frame_here","_law_scans_here","_law_due_here"],W⟩
noncomputable instance k0:CS TB (so iZ):=by delta iZ;infer_instance
def e0:bA TB (so iZ) MD ["standing"] ["standing"] (top 22) 0 0 M=S:=by left
noncomputable instance k1:CS TB (so g9):=by delta g9;infer_instance
def e1:bA TB (so g9) MD ["bed","layer","key","meaning"] ["bed","layer","key"] (top 25) 0 1 M=S:=by left
noncomputable instance k2:CS TB (so fA):=by delta fA;infer_instance
def e2:bA TB (so fA) MD ["bed","keys"] ["bed","keys"] (top 26) 0 2 M=S:=by left
noncomputable instance k3:CS TB (so fQ):=by delta fQ;infer_instance
def e3:bA TB (so fQ) MD ["bed","keys","chord"] ["bed","keys"] (top 27) 0 3 M=S:=by left
noncomputable instance k4:CS TB (so jv):=by delta jv;infer_instance
def e4:bA TB (so jv) MD ["_law_script","_law_k"] ["_law_script","_law_k"] (top 92) 0 4 M=S:=by left
noncomputable instance k5:CS TB (so jo):=by delta jo;infer_instance
def e5:bA TB (so jo) MD ["_law_cell_here","_law_salt","_law_many","_law_number"] ["_law_cell_here","_law_salt","_law_many"] (top 93) 0 5 M=S:=by left
noncomputable instance k6:CS TB (so eJ):=by delta eJ;infer_instance
def e6:bA TB (so eJ) MD ["_law_cell_here","_law_keys","_law_many"] ["_law_cell_here","_law_keys"] (top 94) 1 6 M=S:=by left
noncomputable instance k7:CS TB (so jg):=by delta jg;infer_instance
def e7:bA TB (so jg) MD ["_law_frame_here","_law_key"] ["_law_frame_here","_law_key"] (top 95) 0 7 M=S:=by left
noncomputable instance k8:CS TB (so gk):=by delta gk;infer_instance
def e8:bA TB (so gk) MD ["_law_frame_here","_law_keys"] ["_law_frame_here","_law_keys"] (top 96) 0 8 M=S:=by left
noncomputable instance k9:CS TB (so ku):=by delta ku;infer_instance
def e9:bA TB (so ku) MD ["_law_many","_law_cell_here","_law_salt"] ["_law_many","_law_cell_here","_law_salt"] (top 97) 1 9 M=S:=by left
noncomputable instance k10:CS TB (so fP):=by delta fP;infer_instance
def U0:bA TB (so fP) MD ["_law_many","_law_cell_here","_law_turn","_law_digits"] ["_law_many","_law_cell_here","_law_turn","_law_digits"] (top 98) 2 10 M=S:=by left
noncomputable instance k11:CS TB (so eS):=by delta eS;infer_instance
def W9:bA TB (so eS) MD ["_law_many","_law_bound","_law_ahead","_law_keys","_law_cell_here","_law_digits","_law_found","_law_turn","_law_some_here","_law_still"] ["_law_many","_law_bound","_law_ahead","_law_keys","_law_cell_here","_law_digits"] (top 99) 3 11 M=S:=by left
noncomputable instance k12:CS TB (so iP):=by delta iP;infer_instance
def WY:bA TB (so iP) MD ["_law_bed","_law_ahead","_law_keys","_law_found"] ["_law_bed","_law_ahead","_law_keys"] (top 100) 0 12 M=S:=by left
noncomputable instance k13:CS TB (so im):=by delta im;infer_instance
def XV:bA TB (so im) MD ["_law_answer"] ["_law_answer"] (top 101) 0 13 M=S:=by left
noncomputable instance k14:CS TB (so jq):=by delta jq;infer_instance
def WM:bA TB (so jq) MD ["rows","columns","spot"] ["rows","columns","spot"] (top 14) 0 14 M=S:=by left
noncomputable instance k15:CS TB (so kx):=by delta kx;infer_instance
def W6:bA TB (so kx) MD ["rows","columns","spots","place","spot"] ["rows","columns","spots"] (top 13) 1 15 M=S:=by left
noncomputable instance k16:CS TB (so gI):=by delta gI;infer_instance
def Wv:bA TB (so gI) MD ["word"] ["word"] (top 58) 0 16 M=S:=by left
noncomputable instance k17:CS TB (so jY):=by delta jY;infer_instance
def W2:bA TB (so jY) MD ["values"] ["values"] (top 55) 0 17 M=S:=by left
noncomputable instance k18:CS TB (so fT):=by delta fT;infer_instance
def XB:bA TB (so fT) MD ["words"] ["words"] (top 52) 1 18 M=S:=by left
noncomputable instance k19:CS TB (so jf):=by delta jf;infer_instance
def Xu:bA TB (so jf) MD ["text"] ["text"] (top 48) 0 19 M=S:=by left
noncomputable instance k20:CS TB (so gb):=by delta gb;infer_instance
def WE:bA TB (so gb) MD ["word"] ["word"] (top 56) 1 20 M=S:=by left
noncomputable instance k21:CS TB (so iq):=by delta iq;infer_instance
def Xt:bA TB (so iq) MD ["words"] ["words"] (top 53) 2 21 M=S:=by left
noncomputable instance k22:CS TB (so gS):=by delta gS;infer_instance
def XL:bA TB (so gS) MD ["text","sign"] ["text","sign"] (top 57) 1 22 M=S:=by left
noncomputable instance k23:CS TB (so iG):=by delta iG;infer_instance
def WW:bA TB (so iG) MD ["words","keys"] ["words"] (top 54) 2 23 M=S:=by left
noncomputable instance k24:CS TB (so fL):=by delta fL;infer_instance
def Xj:bA TB (so fL) MD ["bed"] ["bed"] (top 42) 0 24 M=S:=by left
noncomputable instance k25:CS TB (so ka):=by delta ka;infer_instance
def WA:bA TB (so ka) MD ["meaning","layer","layers","word"] ["meaning","layer","layers"] (top 44) 1 25 M=S:=by left
noncomputable instance k26:CS TB (so gR):=by delta gR;infer_instance
def Xn:bA TB (so gR) MD ["bed","layer","meanings","key","meaning"] ["bed","layer"] (top 43) 2 26 M=S:=by left
noncomputable instance k27:CS TB (so pV):=by delta pV;infer_instance
def Xp:bA TB (so pV) MD ["keys"] ["keys"] (top 47) 0 27 M=S:=by left
noncomputable instance k28:CS TB (so fR):=by delta fR;infer_instance
def Wx:bA TB (so fR) MD ["bed","keys"] ["bed","keys"] (top 46) 1 28 M=S:=by left
noncomputable instance k29:CS TB (so gJ):=by delta gJ;infer_instance
def XR:bA TB (so gJ) MD ["bed","place","keys"] ["bed","place"] (top 45) 2 29 M=S:=by left
noncomputable instance k30:CS TB (so lH):=by delta lH;infer_instance
def WX:bA TB (so lH) MD ["bed","layer","place"] ["bed"] (top 41) 3 30 M=S:=by left
noncomputable instance k31:CS TB (so kl):=by delta kl;infer_instance
def XI:bA TB (so kl) MD ["text","rows","numbers","layers","chords","place","row","words","layer","chord"] ["text"] (top 51) 4 31 M=S:=by left
noncomputable instance k32:CS TB (so jd):=by delta jd;infer_instance
def WB:bA TB (so jd) MD ["word","spot"] ["word"] (top 65) 2 32 M=S:=by left
noncomputable instance k33:CS TB (so iH):=by delta iH;infer_instance
def Xw:bA TB (so iH) MD ["words","numbers"] ["words"] (top 64) 3 33 M=S:=by left
noncomputable instance k34:CS TB (so fY):=by delta fY;infer_instance
def XN:bA TB (so fY) MD ["word"] ["word"] (top 66) 1 34 M=S:=by left
noncomputable instance k35:CS TB (so iy):=by delta iy;infer_instance
def BP:bA TB (so iy) MD ["words","word","count"] ["words"] (top 63) 4 35 M=S:=by left
noncomputable instance k36:CS TB (so kr):=by delta kr;infer_instance
def KM:bA TB (so kr) MD ["row","words","what"] ["row"] (top 62) 5 36 M=S:=by left
noncomputable instance k37:CS TB (so gc):=by delta gc;infer_instance
def Xe:bA TB (so gc) MD ["number","column"] ["number","column"] (top 80) 0 37 M=S:=by left
noncomputable instance k38:CS TB (so nR):=by delta nR;infer_instance
def W7:bA TB (so nR) MD ["number","numbers","other"] ["number","numbers"] (top 17) 0 38 M=S:=by left
noncomputable instance k39:CS TB (so nz):=by delta nz;infer_instance
def WT:bA TB (so nz) MD ["numbers","wider"] ["numbers"] (top 16) 1 39 M=S:=by left
noncomputable instance k40:CS TB (so pM):=by delta pM;infer_instance
def WF:bA TB (so pM) MD ["frame","keys","numbers","key","spot"] ["frame","keys"] (top 15) 2 40 M=S:=by left
noncomputable instance k41:CS TB (so jp):=by delta jp;infer_instance
def XS:bA TB (so jp) MD ["frame","reading","keys"] ["frame","reading"] (top 77) 3 41 M=S:=by left
noncomputable instance k42:CS TB (so lI):=by delta lI;infer_instance
def WH:bA TB (so lI) MD ["keys","key"] ["keys","key"] (top 79) 0 42 M=S:=by left
noncomputable instance k43:CS TB (so lS):=by delta lS;infer_instance
def Wy:bA TB (so lS) MD ["frame","reading","keys","key"] ["frame","reading","keys","key"] (top 78) 3 43 M=S:=by left
noncomputable instance k44:CS TB (so u0):=by delta u0;infer_instance
def W3:bA TB (so u0) MD ["frame","reading","keys"] ["frame","reading"] (top 76) 4 44 M=S:=by left
noncomputable instance k45:CS TB (so ij):=by delta ij;infer_instance
def XD:bA TB (so ij) MD ["sent"] ["sent"] (top 67) 0 45 M=S:=by left
noncomputable instance k46:CS TB (so iz):=by delta iz;infer_instance
def Xq:bA TB (so iz) MD ["keys"] ["keys"] (top 68) 0 46 M=S:=by left
noncomputable instance k47:CS TB (cY fJ):=by delta fJ;infer_instance
def Xb:bA TB (cY fJ) MD ["self","bed","standing"] ["self","bed","standing"] (ay (top 24) 0) 2 47 M=S:=by left
noncomputable instance k48:CS TB (cY gK):=by delta gK;infer_instance
def Xf:bA TB (cY gK) MD ["self"] ["self"] (ay (top 24) 1) 2 48 M=S:=by left
noncomputable instance k49:CS TB (cY d7):=by delta d7;infer_instance
def WC:bA TB (cY d7) MD ["self","key"] ["self","key"] (ay (top 24) 2) 2 49 M=S:=by left
noncomputable instance k50:CS TB (cY fV):=by delta fV;infer_instance
def WO:bA TB (cY fV) MD ["self","act"] ["self","act"] (ay (top 24) 13) 2 50 M=S:=by left
noncomputable instance k51:CS TB (cY jb):=by delta jb;infer_instance
def Ww:bA TB (cY jb) MD ["self","key","act"] ["self","key","act"] (ay (top 24) 11) 3 51 M=S:=by left
noncomputable instance k52:CS TB (cY lZ):=by delta lZ;infer_instance
def W4:bA TB (cY lZ) MD ["self","key","act"] ["self","key"] (ay (top 24) 12) 3 52 M=S:=by left
noncomputable instance k53:CS TB (cY gU):=by delta gU;infer_instance
def WZ:bA TB (cY gU) MD ["self","keys","what","acts","key","act"] ["self"] (ay (top 24) 10) 4 53 M=S:=by left
noncomputable instance k54:CS TB (cY dL):=by delta dL;infer_instance
def XH:bA TB (cY dL) MD ["self","key"] ["self","key"] (ay (top 24) 4) 3 54 M=S:=by left
noncomputable instance k55:CS TB (cY dc):=by delta dc;infer_instance
def WK:bA TB (cY dc) MD ["self","key","keys"] ["self","key"] (ay (top 24) 5) 5 55 M=S:=by left
noncomputable instance k56:CS TB (cY ip):=by delta ip;infer_instance
def WN:bA TB (cY ip) MD ["self","key","layer","meaning","word"] ["self","key"] (ay (top 24) 6) 4 56 M=S:=by left
noncomputable instance k57:CS TB (cY iA):=by delta iA;infer_instance
def Xg:bA TB (cY iA) MD ["self","key"] ["self","key"] (ay (top 24) 3) 6 57 M=S:=by left
noncomputable instance k58:CS TB (cY gO):=by delta gO;infer_instance
def WG:bA TB (cY gO) MD ["self","key","what"] ["self","key"] (ay (top 24) 8) 5 58 M=S:=by left
noncomputable instance k59:CS TB (cY jc):=by delta jc;infer_instance
def WP:bA TB (cY jc) MD ["self","key"] ["self","key"] (ay (top 24) 7) 6 59 M=S:=by left
noncomputable instance k60:CS TB (cY fX):=by delta fX;infer_instance
def XF:bA TB (cY fX) MD ["self","age"] ["self"] (ay (top 24) 9) 5 60 M=S:=by left
noncomputable instance k61:CS TB (cY STP.uY):=by delta STP.uY;infer_instance
def XJ:bA TB (cY STP.uY) MD ["bed","standing","event","hand"] ["bed","standing","event"] (top 23) 7 61 M=S:=by left
noncomputable instance k62:CS TB (cY cT):=by delta cT;infer_instance
def Xo:bA TB (cY cT) MD ["self","bound"] ["self","bound"] (ay (top 83) 0) 2 62 M=S:=by left
noncomputable instance k63:CS TB (cY fx):=by delta fx;infer_instance
def XO:bA TB (cY fx) MD ["self","reading","turn"] ["self","reading"] (ay (top 83) 1) 2 63 M=S:=by left
noncomputable instance k64:CS TB (cY cP):=by delta cP;infer_instance
def W1:bA TB (cY cP) MD ["self","frame","bound"] ["self","frame","bound"] (ay (top 85) 0) 4 64 M=S:=by left
noncomputable instance k65:CS TB (cY cK):=by delta cK;infer_instance
def XA:bA TB (cY cK) MD ["self","key","word","one_key"] ["self","key","word"] (ay (top 85) 3) 3 65 M=S:=by left
noncomputable instance k66:CS TB (cY fw):=by delta fw;infer_instance
def Xr:bA TB (cY fw) MD ["self","reading","words","changes","key","word","change"] ["self","reading"] (ay (top 85) 1) 5 66 M=S:=by left
noncomputable instance k67:CS TB (cY fD):=by delta fD;infer_instance
def Xa:bA TB (cY fD) MD ["self"] ["self"] (ay (top 85) 2) 2 67 M=S:=by left
noncomputable instance k68:CS TB (cY dS):=by delta dS;infer_instance
def Xs:bA TB (cY dS) MD ["self"] ["self"] (ay (top 90) 0) 6 68 M=S:=by left
noncomputable instance k69:CS TB (cY cA):=by delta cA;infer_instance
def Xx:bA TB (cY cA) MD ["self","events","sent","event","answer"] ["self","events"] (ay (top 90) 6) 8 69 M=S:=by left
noncomputable instance k70:CS TB (cY cS):=by delta cS;infer_instance
def W0:bA TB (cY cS) MD ["self","what"] ["self","what"] (ay (top 90) 2) 6 70 M=S:=by left
noncomputable instance k71:CS TB (cY dU):=by delta dU;infer_instance
def Xd:bA TB (cY dU) MD ["self","text"] ["self","text"] (ay (top 90) 3) 5 71 M=S:=by left
noncomputable instance k72:CS TB (cY dG):=by delta dG;infer_instance
def Xz:bA TB (cY dG) MD ["self","reading","changes"] ["self","reading"] (ay (top 90) 4) 9 72 M=S:=by left
noncomputable instance k73:CS TB (cY eD):=by delta eD;infer_instance
def W8:bA TB (cY eD) MD ["self","row","line","word","what"] ["self","row"] (ay (top 90) 1) 10 73 M=S:=by left
noncomputable instance k74:CS TB (cY iL):=by delta iL;infer_instance
def Xv:bA TB (cY iL) MD ["_law_desk","_law_bed","_law_frame_here","_law_scans_here","_law_due_here","_law_sent","_law_some_here","_law_keys"] ["_law_desk","_law_bed","_law_frame_here","_law_scans_here","_law_due_here"] (top 102) 11 74 M=S:=by left
noncomputable instance k75:CS TB (cY xJ):=by delta xJ;infer_instance
def XU:bA TB (cY xJ) MD ["_law_script","_law_cell_here","_law_bed","_law_frame_here","_law_many","_law_bound","_law_desk","_law_row","_law_spots","_law_ahead","_law_digits","_law_keys","_law_scans_here"] ["_law_script"] (top 103) 12 75 M=S:=by left
end K91
theorem V1{α:Type}:∀{l:G α},l.length=1->∃a,l=[a]
 |[a],_=>⟨a,W⟩
theorem Vq{α:Type}:∀{l:G α},l.length=2->∃a b,l=[a,b]
 |[a,b],_=>⟨a,b,W⟩
theorem We{α:Type}:∀{l:G α},l.length=3->∃a b c,l=[a,b,c]
 |[a,b,c],_=>⟨a,b,c,W⟩
theorem WU{α:Type}:∀{l:G α},l.length=4->∃a b c d,l=[a,b,c,d]
 |[a,b,c,d],_=>⟨a,b,c,d,W⟩
local macro_rules| `(tactic|ext:5)=> `(tactic|(intro _ _ _ _ _ _ us hl;first|(obtain⟨_,h⟩:=V1 hl;subst h;kernel_rfl)|(obtain⟨_,_,h⟩:=Vq hl;subst h;kernel_rfl)|(obtain⟨_,_,_,h⟩:=We hl;subst h;kernel_rfl)|(obtain⟨_,_,_,_,h⟩:=WU hl;subst h;kernel_rfl)|(match us,hl with|[_,_,_,_,_],_=>rfl)|(match us,hl with|[_,_,_,_,_,_],_=>rfl)|(match us,hl with|[],_=>rfl)))| `(tactic|ext:6)=> `(tactic|first|exact List.forall_mem_nil _|(refine List.forall_mem_cons.mpr ⟨?_,?_⟩;(·first|(show YZ _ _ _=_;k_is)|(show Yt _ _ _=_;k_is));ext:6))| `(tactic|ext:8)=> `(tactic|first|(refine' L3.NI.mk ?a' ⟨_,L2.Gq ?b' ?c' ?d'⟩;(case a'=>k_is);(case b'=>k_is);(case c'=>k_is);(case d'=>k_is))|(refine' L3.MI.mk ?a' ?e' ⟨_,L2.Gq ?b' ?c' ?d'⟩;(case a'=>k_is);(case e'=>k_is);(case b'=>k_is);(case c'=>k_is);(case d'=>k_is))|(refine' L3.CI.mk ?a' ?b' ?c' ?d' ?e' ?f' ?g' ?i';(case a'=>k_is);(case b'=>k_is);(case c'=>k_is);(case d'=>k_is);(case e'=>k_is);(case f'=>k_is);(case g'=>k_is);(case i'=>ext:6))|(refine' L3.DI.mk ?a' ⟨_,L3.ajQ ?b' ?c' ?d' ?e'⟩;(case a'=>k_is);(case b'=>k_is);(case c'=>k_is);(case d'=>k_is);(case e'=>k_is))|k_is|k_exc|rfl|ext:6|left|(rw[<-Array.all_toList];rfl))
namespace K91
open PySem L2 L3 CC
def F_lawH:FN:=L10.SM F_law
def all_mk{l:aff}{w:YJ}{K:lD}{h:Heap}{a:Str->ck XY}{fa:X5}
  {afI:Tok}
  {k:X5} {ago:Nat} {agv:Array (ck XY)}
  {adw:Tok}
  {abK:Tok}
  {ae4:Tok}
  {aca:Tok}
  {acW:Tok}
  {acZ:Tok}
  {ad4:Tok}
  {ad5:Tok}
  {aeW:Tok}
  {ae2:Tok}
  {V:X5} {afZ:Nat} {afM:Array (ck XY)}
  {aeV:Tok}
  {aeX:Tok}
  {D:X5} {afy:Nat} {afQ:Array (ck XY)}
  {adZ:Tok}
  {p:X5} {adu:Nat} {adA:Array (ck XY)}
  {ada:X5} {aes:Nat} {aem:Array (ck XY)}
  {ahJ:Tok}
  {afT:Tok}
  {afD:Tok}
  {c:X5} {agx:Nat} {agz:Array (ck XY)}
  {f0 f1 f2 f3 f4 f5 f6 f7 f8 f9 f10 f11 f12 f13 f14 f15 f16 f17 f18 f19 f20 f21 f22 f23 f24 f25 f26 f27 f28 f29 f30 f31 f32 f33 f34 f35 f36 f37 f38 f39 f40 f41 f42 f43 f44 f45 f46 f47 f48 f49 e f51 f52 f53 f54 f55 f56 f57 f58 f59 f60 f61 f62 f63 f64 o f66 f67 j f69 f70 f71 f72 g f74 f75 f76 f77 f78 f79:X5} (X:K.In h) (G:h.Ns Yj a) (hfa:a "law"=cL (.ref fa))
  (h0:NI K f0 "layer_of" (top 22))
  (h1:NI K f1 "looked_up" (top 25))
  (h2:NI K f2 "chords_over" (top 26))
  (h3:NI K f3 "chord_acts" (top 27))
  (h4:NI K f4 "_law_cell" (top 92))
  (h5:NI K f5 "_law_draw" (top 93))
  (h6:NI K f6 "_law_frame" (top 94))
  (h7:NI K f7 "_law_spot" (top 95))
  (h8:NI K f8 "_law_reading" (top 96))
  (h9:NI K f9 "_law_set" (top 97))
  (h10:NI K f10 "_law_some" (top 98))
  (h11:NI K f11 "_law_scans" (top 99))
  (h12:NI K f12 "_law_due" (top 100))
  (h13:NI K f13 "_law_parts" (top 101))
  (h14:NI K f14 "is_within" (top 14))
  (h15:NI K f15 "frame_of" (top 13))
  (h16:NI K f16 "read_number" (top 58))
  (h17:NI K f17 "all_read" (top 55))
  (h18:NI K f18 "read_numbers" (top 52))
  (h19:NI K f19 "is_letter" (top 48))
  (h20:NI K f20 "read_meaning" (top 56))
  (h21:NI K f21 "read_layer" (top 53))
  (h22:NI K f22 "read_parted" (top 57))
  (h23:NI K f23 "read_chord" (top 54))
  (h24:NI K f24 "check_numbers" (top 42))
  (h25:NI K f25 "may_mean" (top 44))
  (h26:NI K f26 "check_layer" (top 43))
  (h27:NI K f27 "rises" (top 47))
  (h28:NI K f28 "is_chord_set" (top 46))
  (h29:NI K f29 "check_chord" (top 45))
  (h30:NI K f30 "checked" (top 41))
  (h31:NI K f31 "read_bed" (top 51))
  (h32:NI K f32 "read_spot" (top 65))
  (h33:NI K f33 "read_frame" (top 64))
  (h34:NI K f34 "read_letters" (top 66))
  (h35:NI K f35 "read_words" (top 63))
  (h36:NI K f36 "read_row" (top 62))
  (h37:NI K f37 "reads_column" (top 80))
  (h38:NI K f38 "joined" (top 17))
  (h39:NI K f39 "spread" (top 16))
  (h40:NI K f40 "reads" (top 15))
  (h41:NI K f41 "keys_read" (top 77))
  (h42:NI K f42 "without" (top 79))
  (h43:NI K f43 "word_of" (top 78))
  (h44:NI K f44 "seen" (top 76))
  (h45:NI K f45 "shown_sent" (top 67))
  (h46:NI K f46 "shown_keys" (top 68))
  (h47:NI K f47 "step" (top 23))
  (h48:NI K f48 "_law_one" (top 102))
  (h49:NI K f49 "law" (top 103))
  (d:CI K e "Hand" ["bed","acts","waiting","once","sent"])
  (h51:MI K e f51 "__init__" "Hand.__init__" (ay (top 24) 0))
  (h52:MI K e f52 "stands" "Hand.stands" (ay (top 24) 1))
  (h53:MI K e f53 "is_waiting" "Hand.is_waiting" (ay (top 24) 2))
  (h54:MI K e f54 "has_act" "Hand.has_act" (ay (top 24) 13))
  (h55:MI K e f55 "come" "Hand.come" (ay (top 24) 11))
  (h56:MI K e f56 "go" "Hand.go" (ay (top 24) 12))
  (h57:MI K e f57 "decide" "Hand.decide" (ay (top 24) 10))
  (h58:MI K e f58 "makes_chord" "Hand.makes_chord" (ay (top 24) 4))
  (h59:MI K e f59 "put_to_chord" "Hand.put_to_chord" (ay (top 24) 5))
  (h60:MI K e f60 "begin" "Hand.begin" (ay (top 24) 6))
  (h61:MI K e f61 "press" "Hand.press" (ay (top 24) 3))
  (h62:MI K e f62 "settle" "Hand.settle" (ay (top 24) 8))
  (h63:MI K e f63 "lift" "Hand.lift" (ay (top 24) 7))
  (h64:MI K e f64 "wait_on" "Hand.wait_on" (ay (top 24) 9))
  (m:CI K o "OneKey" ["bound","last","turns","free_from"])
  (h66:MI K o f66 "__init__" "OneKey.__init__" (ay (top 83) 0))
  (h67:MI K o f67 "tell" "OneKey.tell" (ay (top 83) 1))
  (i:CI K j "Teller" ["frame","each_key"])
  (h69:MI K j f69 "__init__" "Teller.__init__" (ay (top 85) 0))
  (h70:MI K j f70 "tell_one" "Teller.tell_one" (ay (top 85) 3))
  (h71:MI K j f71 "scan" "Teller.scan" (ay (top 85) 1))
  (h72:MI K j f72 "down" "Teller.down" (ay (top 85) 2))
  (f:CI K g "Desk" ["teller","bed","standing"])
  (h74:MI K g f74 "__init__" "Desk.__init__" (ay (top 90) 0))
  (h75:MI K g f75 "run_through" "Desk.run_through" (ay (top 90) 6))
  (h76:MI K g f76 "take_frame" "Desk.take_frame" (ay (top 90) 2))
  (h77:MI K g f77 "take_bed" "Desk.take_bed" (ay (top 90) 3))
  (h78:MI K g f78 "take_scan" "Desk.take_scan" (ay (top 90) 4))
  (h79:MI K g f79 "say" "Desk.say" (ay (top 90) 1))
  (agA:Yt K Yj "NONE"=cL (cL (.ref k)))
  (acY:Yt K Yj "MOST_WIRES"=cL (cL (.int 6 adw)))
  (abF:Yt K Yj "MOST_KEYS_frames"=cL (cL (.int 12 abK)))
  (aex:Yt K Yj "FIGURES"=cL (cL (.str "0123456789" ae4)))
  (ab0:Yt K Yj "MOST_KEYS_beds"=cL (cL (.int 5 aca)))
  (acJ:Yt K Yj "MOST_LAYERS"=cL (cL (.int 3 acW)))
  (acH:Yt K Yj "MOST_CHORDS"=cL (cL (.int 4 acZ)))
  (ady:Yt K Yj "MOST_WAIT"=cL (cL (.int 4 ad4)))
  (adp:Yt K Yj "BED_AHEAD"=cL (cL (.str "bed\n" ad5)))
  (aev:Yt K Yj "NOTHING"=cL (cL (.str "." aeW)))
  (afJ:Yt K Yj "CHORD"=cL (cL (.ref V)))
  (afV:Yt K Yj "WORDS"=cL (cL (.ref D)))
  (adE:Yt K Yj "FIRST_BED"=cL (cL (.str "keys 1 wait 1\nlayer a" adZ)))
  (aeu:Yt K Yj "AT_REST"=cL (cL (.ref ada)))
  (agr:Yt K Yj "DONE"=cL (cL (.str "ok" ahJ)))
  (agG:Yt K Yj "TURN"=cL (cL (.ref c)))
  (agp:K.lookup c=cL ⟨.type "tuple",CL,.seq #v[.str "turn" afT,.int 0 afD] agx,agz⟩)
  (aeo:K.lookup ada=cL ⟨.type "tuple",CL,.seq #v[.ref p,.none,.none] aes,aem⟩)
  (adG:K.lookup p=cL ⟨.type "tuple",CL,.seq #v[] adu,adA⟩)
  (afH:K.lookup D=cL ⟨.type "tuple",CL,.seq #v[.str "up" aeV,.str "down" aeX] afy,afQ⟩)
  (af1:K.lookup V=cL ⟨.type "tuple",CL,.seq #v[.str "chord" ae2] afZ,afM⟩)
  (agy:K.lookup k=cL ⟨.type "tuple",CL,.seq #v[.str "none" afI] ago,agv⟩)
  (yb:∀x∈MD.bl,Yt K Yj x=cL CL):
  ∃fd:Zq,(∀(s:X3) (v:XY),acg s fd ⟨[v],[]⟩ [("_law_script",v)])/\∀base:Heap,K.In base->base.Ns Yj a->FnOk l.prog w K a base oa 13 fa fd ["_law_script"] (L3.CV K 1 F_lawH):=by
 let ahl:=CJ (xs:=[.str "none"]) (ds:=[(.str "none")]) agy (by show 1<=Yc;decide) (.cons ⟨_,rfl⟩ .nil) λO H=>(.cons (.str _) .nil);let agq:=CJ (xs:=[.str "chord"]) (ds:=[(.str "chord")]) af1 (by show 1<=Yc;decide) (.cons ⟨_,rfl⟩ .nil) λO H=>(.cons (.str _) .nil);let agF:=CJ (xs:=[.str "up",.str "down"]) (ds:=[(.str "up"),(.str "down")]) afH (by show 2<=Yc;decide) (.cons ⟨_,rfl⟩ (.cons ⟨_,rfl⟩ .nil)) λO H=>(.cons (.str _) (.cons (.str _) .nil));let adW:=CJ (xs:=[]) (ds:=[]) adG (by show 0<=Yc;decide) .nil λO H=>.nil;let ae7:=CJ (xs:=[.ref p,.non,.non]) (ds:=[(.tuple []),.none,.none]) aeo (by show 3<=Yc;decide) (.cons rfl (.cons rfl (.cons rfl .nil))) λO H=>(.cons (adW O H) (.cons .non (.cons .non .nil)));let aha:=CJ (xs:=[.str "turn",.int 0]) (ds:=[(.str "turn"),(.int 0)]) agp (by show 2<=Yc;decide) (.cons ⟨_,rfl⟩ (.cons ⟨_,rfl⟩ .nil)) λO H=>(.cons (.str _) (.cons (.int _) .nil));show h49.law X G hfa (by ext:5) λbase fd ahe=>?_;let W:Tp l.prog w K a base h:=⟨X,G⟩;let b:afY K a MD:=⟨λx hx=>PySem.W.mg_none_of X G (yb x hx),XT,(xY (SQ (YV X G agA) ahl) (xY (RM (YV X G acY)) (xY (RM (YV X G abF)) (xY (Tl (YV X G aex)) (xY (RM (YV X G ab0)) (xY (RM (YV X G acJ)) (xY (RM (YV X G acH)) (xY (RM (YV X G ady)) (xY (Tl (YV X G adp)) (xY (Tl (YV X G aev)) (xY (SQ (YV X G afJ) agq) (xY (SQ (YV X G afV) agF) (xY (Tl (YV X G adE)) (xY (SQ (YV X G aeu) ae7) (xY (Tl (YV X G agr)) (xY (SQ (YV X G agG) aha) Xy)))))))))))))))),(UK d.cf (UK m.cf (UK i.cf (UK f.cf Xm))))⟩;let s0:=XQ (T:=TB) (P:=l.prog) (w:=w) (K:=K) (mg:=a) (base:=base);let s1:=d4 s0 rfl (h0.c W λ_ z=>ci b s0 z e0);let s2:=d4 s1 rfl (h1.c W λ_ z=>ci b s1 z e1);let s3:=d4 s2 rfl (h2.c W λ_ z=>ci b s2 z e2);let s4:=d4 s3 rfl (h3.c W λ_ z=>ci b s3 z e3);let s5:=d4 s4 rfl (h4.c W λ_ z=>ci b s4 z e4);let s6:=d4 s5 rfl (h5.c W λ_ z=>ci b s5 z e5);let s7:=d4 s6 rfl (h6.c W λ_ z=>ci b s6 z e6);let s8:=d4 s7 rfl (h7.c W λ_ z=>ci b s7 z e7);let s9:=d4 s8 rfl (h8.c W λ_ z=>ci b s8 z e8);let s10:=d4 s9 rfl (h9.c W λ_ z=>ci b s9 z e9);let s11:=d4 s10 rfl (h10.c W λ_ z=>ci b s10 z U0);let s12:=d4 s11 rfl (h11.c W λ_ z=>ci b s11 z W9);let s13:=d4 s12 rfl (h12.c W λ_ z=>ci b s12 z WY);let s14:=d4 s13 rfl (h13.c W λ_ z=>ci b s13 z XV);let s15:=d4 s14 rfl (h14.c W λ_ z=>ci b s14 z WM);let s16:=d4 s15 rfl (h15.c W λ_ z=>ci b s15 z W6);let s17:=d4 s16 rfl (h16.c W λ_ z=>ci b s16 z Wv);let s18:=d4 s17 rfl (h17.c W λ_ z=>ci b s17 z W2);let s19:=d4 s18 rfl (h18.c W λ_ z=>ci b s18 z XB);let s20:=d4 s19 rfl (h19.c W λ_ z=>ci b s19 z Xu);let s21:=d4 s20 rfl (h20.c W λ_ z=>ci b s20 z WE);let s22:=d4 s21 rfl (h21.c W λ_ z=>ci b s21 z Xt);let s23:=d4 s22 rfl (h22.c W λ_ z=>ci b s22 z XL);let s24:=d4 s23 rfl (h23.c W λ_ z=>ci b s23 z WW);let s25:=d4 s24 rfl (h24.c W λ_ z=>ci b s24 z Xj);let s26:=d4 s25 rfl (h25.c W λ_ z=>ci b s25 z WA);let s27:=d4 s26 rfl (h26.c W λ_ z=>ci b s26 z Xn);let s28:=d4 s27 rfl (h27.c W λ_ z=>ci b s27 z Xp);let s29:=d4 s28 rfl (h28.c W λ_ z=>ci b s28 z Wx);let s30:=d4 s29 rfl (h29.c W λ_ z=>ci b s29 z XR);let s31:=d4 s30 rfl (h30.c W λ_ z=>ci b s30 z WX);let s32:=d4 s31 rfl (h31.c W λ_ z=>ci b s31 z XI);let s33:=d4 s32 rfl (h32.c W λ_ z=>ci b s32 z WB);let s34:=d4 s33 rfl (h33.c W λ_ z=>ci b s33 z Xw);let s35:=d4 s34 rfl (h34.c W λ_ z=>ci b s34 z XN);let s36:=d4 s35 rfl (h35.c W λ_ z=>ci b s35 z BP);let s37:=d4 s36 rfl (h36.c W λ_ z=>ci b s36 z KM);let s38:=d4 s37 rfl (h37.c W λ_ z=>ci b s37 z Xe);let s39:=d4 s38 rfl (h38.c W λ_ z=>ci b s38 z W7);let s40:=d4 s39 rfl (h39.c W λ_ z=>ci b s39 z WT);let s41:=d4 s40 rfl (h40.c W λ_ z=>ci b s40 z WF);let s42:=d4 s41 rfl (h41.c W λ_ z=>ci b s41 z XS);let s43:=d4 s42 rfl (h42.c W λ_ z=>ci b s42 z WH);let s44:=d4 s43 rfl (h43.c W λ_ z=>ci b s43 z Wy);let s45:=d4 s44 rfl (h44.c W λ_ z=>ci b s44 z W3);let s46:=d4 s45 rfl (h45.c W λ_ z=>ci b s45 z XD);let s47:=d4 s46 rfl (h46.c W λ_ z=>ci b s46 z Xq);let s48:=d4 s47 rfl (h51.k d W λ_ z=>gq b s47 z Xb);let s49:=d4 s48 rfl (h52.mt d W λ_ z=>gq b s48 z Xf);let s50:=d4 s49 rfl (h53.mt d W λ_ z=>gq b s49 z WC);let s51:=d4 s50 rfl (h54.mt d W λ_ z=>gq b s50 z WO);let s52:=d4 s51 rfl (h55.mt d W λ_ z=>gq b s51 z Ww);let n:=d4 s52 rfl (h56.mt d W λ_ z=>gq b s52 z W4);let Z:=d4 n rfl (h57.mt d W λ_ z=>gq b n z WZ);let Y:=d4 Z rfl (h58.mt d W λ_ z=>gq b Z z XH);let U:=d4 Y rfl (h59.mt d W λ_ z=>gq b Y z WK);let S:=d4 U rfl (h60.mt d W λ_ z=>gq b U z WN);let R:=d4 S rfl (h61.mt d W λ_ z=>gq b S z Xg);let Q:=d4 R rfl (h62.mt d W λ_ z=>gq b R z WG);let N:=d4 Q rfl (h63.mt d W λ_ z=>gq b Q z WP);let M:=d4 N rfl (h64.mt d W λ_ z=>gq b N z XF);let L:=d4 M rfl (h47.c W λ_ z=>gq b M z XJ);let J:=d4 L rfl (h66.k m W λ_ z=>gq b L z Xo);let I:=d4 J rfl (h67.mt m W λ_ z=>gq b J z XO);let F:=d4 I rfl (h69.k i W λ_ z=>gq b I z W1);let E:=d4 F rfl (h70.mt i W λ_ z=>gq b F z XA);let C:=d4 E rfl (h71.mt i W λ_ z=>gq b E z Xr);let B:=d4 C rfl (h72.mt i W λ_ z=>gq b C z Xa);let A:=d4 B rfl (h74.k f W λ_ z=>gq b B z Xs);let y:=d4 A rfl (h75.mt f W λ_ z=>gq b A z Xx);let u:=d4 y rfl (h76.mt f W λ_ z=>gq b y z W0);let t:=d4 u rfl (h77.mt f W λ_ z=>gq b u z Xd);let r:=d4 t rfl (h78.mt f W λ_ z=>gq b t z Xz);let q:=d4 r rfl (h79.mt f W λ_ z=>gq b r z W8);let s75:=d4 q rfl (h48.c W λ_ z=>gq b q z Xv);show(gq b s75 ahe XU).imp λ_ _ _ _ h=>L10.Rc h
end K91
local macro_rules|`(universe $i*)=>do
 let t:=fun (c:Lean.Name)=>`(theorem $(Lean.mkIdent ((`PySem.W.Fast).str ("tw"++toString c.hash))):ident:True:=trivial)
 let b:=`PySem.Challenge.cw_chordbed_k91_whole_from_wires_to_letters_holds
 let o←(List.range 979).mapM fun n=>t (b.str ("o_"++toString n))
 let l←i.mapM fun j=>t (b++j.getId)
 return Lean.mkNullNode (((o.toArray++l).push (←t `PySem.Challenge.pw_chordbed_k91_whole_from_wires_to_letters)))
universe heap_979 heap_39 tree_978 tree_908 tree_845 tree_804 tree_774 tree_742 view_39 tree_686 tree_607 tree_536 tree_484 tree_371 tree_452 tree_261 tree_243 sts_909 sts_537 sts_608 sts_262 tree_195 sts_846 tree_173 sts_687 sts_456 tree_151 sts_485 sts_743 sts_805 sts_196 tree_129 sts_244 tree_107 tree_92 sts_775 sts_108 tree_70 sts_71 sts_152 sts_130 sts_174 sts_49 sts_93 heap_46 tree_47 env_41
open PySem PySem.W PyProof.Rows
set_option maxRecDepth 100000 in
set_option maxHeartbeats 0 in
theorem PySem.Challenge.cw_chordbed_k91_whole_from_wires_to_letters_holds : PySem.Challenge.rw_chordbed_k91_whole_from_wires_to_letters.Holds := by
 w_on;o_law;k_head;(case hw=>w_witness2)
 k_fill
 refine L3.TZ (l:=PySem.Challenge.rw_chordbed_k91_whole_from_wires_to_letters) (n:=63) (k:=13) (x:= "_law_script") (F:=K91.F_lawH) rfl (by decide) rfl ⟨rfl,by decide,by decide⟩ (λw h Y=>PySem.W.kIn_of Y) ?F K91.main
 case F=>
  intro w d e h b G a
  apply K91.all_mk b G a
  all_goals ext:8
