import PyProof.Rows.All
import Wide.All
import OpenK.AllK
import Wide.FinOn
import Lean
import PyProof.EqAt
import PyProof.EqKinds
import PyProof.TupleCall
import KE.KIntText
import KE.KRevSl
import PyProof.Rows.SeqMore
import PyProof.WalkInts
import PyProof.Rows.MinMaxN
import PyProof.ExcInit
import OpenK.KMake
import PyProof.InstStoreFacts
import PyProof.FString2
import PyProof.Rows.FStr
import PyProof.Rows.SetFrom
import PyProof.SeqRoads2
import PyProof.RangeFor
import PyProof.WalksMore
import PyProof.StrBlock2
import PyProof.Rows.SortShell
import PyProof.TupleOfSeq
import KE.KDictList
import KE.KDictOf
import PyProof.IsiH_tuple
import PyProof.Rows.RuleN_abs
import PyProof.Rows.Range3
import KE.KRevIter
import PyProof.StrLawsRepr
import PyProof.ReprStr
import PyProof.IsiH_list
import PyProof.Rows.TupDisplay
import PyProof.SetKind
import PyProof.SetScanFacts
import PyProof.CollectIter
import PyProof.Rows.SortStr
import PySem.Challenge.RW_chordbed_k82_scans_told_to_a_desk
set_option bootstrap.genMatcherCode false
set_option compiler.extract_closed false
set_option genSizeOf false
set_option genInjectivity false
set_option Elab.async false
set_option linter.all false
set_option maxRecDepth 100000
abbrev ax:=@if_pos
abbrev aE:=@if_neg
abbrev a4:=@decide_eq_true
abbrev a5:=@decide_eq_false
abbrev a6:=@of_decide_eq_true
abbrev a7:=@absurd
abbrev a8:=@List
abbrev bb:=@Option
abbrev bg:=@PySem.Heap.get?_push_of_some
abbrev br:=@PySem.Heap.lt_size
abbrev b4:=@PySem.Heap.get?_push_size
abbrev b5:=@PySem.Heap.get?_update_other
abbrev b7:=@PySem.Heap.get?_update_self
abbrev cc:=@PySem.Heap.size_push
abbrev ck:=@PySem.Obj.data_mapFields
abbrev cv:=@PySem.Obj.isFreed_of_fields
abbrev cx:=@Ne.symm
abbrev dt:=@congrArg
abbrev dN:=@beq_self_eq_true
open Lean in
def HF:Nat→TSyntax `term→MacroM (TSyntax `rcasesPat) |0,_=>Macro.throwUnsupported|n+1,t=>let f:=fun(a:Array Term)=>do let l←(←a.mapM (HF n)).mapM fun p=>`(Lean.Parser.Tactic.rcasesPatLo|$p:rcasesPat)`(rcasesPat|⟨$l,*⟩)
  match t with |`(⟨$a,*⟩)=>f a|`(($a,$b,*))=>f (#[a]++b.getElems)|`(0)=>let r:=mkIdent `rfl;`(rcasesPat|$r:ident)|`($i:ident)=>`(rcasesPat|$i:ident)|`(_)=>`(rcasesPat|_)|_=>Macro.throwUnsupported
local macro_rules|`(tactic|let$d:letDecl)=>`(tactic|have$d:letDecl)
theorem J2_0{A0 A1:Prop}{G:Prop}(h:A0∧A1)(k:A0→A1→G):G:=k h.1 h.2
theorem J2_1{α0:Sort _}{A0:α0→Prop}{G:Prop}(h:∃x0,A0 x0)(k:∀x0,A0 x0→G):G:=let⟨x0,y⟩:=h;k x0 y
theorem J3_0{A0 A1 A2:Prop}{G:Prop}(h:A0∧A1∧A2)(k:A0→A1→A2→G):G:=k h.1 h.2.1 h.2.2
theorem J3_1{α0:Sort _}{A0 A1:α0→Prop}{G:Prop}(h:∃x0,A0 x0∧A1 x0)(k:∀x0,A0 x0→A1 x0→G):G:=let⟨x0,y⟩:=h;k x0 y.1 y.2
theorem J3_2{α0:Sort _}{α1:Sort _}{A0:α0→α1→Prop}{G:Prop}(h:∃x0 x1,A0 x0 x1)(k:∀x0 x1,A0 x0 x1→G):G:=let⟨x0,x1,y⟩:=h;k x0 x1 y
theorem J4_0{A0 A1 A2 A3:Prop}{G:Prop}(h:A0∧A1∧A2∧A3)(k:A0→A1→A2→A3→G):G:=k h.1 h.2.1 h.2.2.1 h.2.2.2
theorem J4_1{α0:Sort _}{A0 A1 A2:α0→Prop}{G:Prop}(h:∃x0,A0 x0∧A1 x0∧A2 x0)(k:∀x0,A0 x0→A1 x0→A2 x0→G):G:=let⟨x0,y⟩:=h;k x0 y.1 y.2.1 y.2.2
theorem J4_2{α0:Sort _}{α1:Sort _}{A0 A1:α0→α1→Prop}{G:Prop}(h:∃x0 x1,A0 x0 x1∧A1 x0 x1)(k:∀x0 x1,A0 x0 x1→A1 x0 x1→G):G:=let⟨x0,x1,y⟩:=h;k x0 x1 y.1 y.2
theorem J4_3{α0:Sort _}{α1:Sort _}{α2:Sort _}{A0:α0→α1→α2→Prop}{G:Prop}(h:∃x0 x1 x2,A0 x0 x1 x2)(k:∀x0 x1 x2,A0 x0 x1 x2→G):G:=let⟨x0,x1,x2,y⟩:=h;k x0 x1 x2 y
theorem J5_0{A0 A1 A2 A3 A4:Prop}{G:Prop}(h:A0∧A1∧A2∧A3∧A4)(k:A0→A1→A2→A3→A4→G):G:=k h.1 h.2.1 h.2.2.1 h.2.2.2.1 h.2.2.2.2
theorem J5_1{α0:Sort _}{A0 A1 A2 A3:α0→Prop}{G:Prop}(h:∃x0,A0 x0∧A1 x0∧A2 x0∧A3 x0)(k:∀x0,A0 x0→A1 x0→A2 x0→A3 x0→G):G:=let⟨x0,y⟩:=h;k x0 y.1 y.2.1 y.2.2.1 y.2.2.2
theorem J5_2{α0:Sort _}{α1:Sort _}{A0 A1 A2:α0→α1→Prop}{G:Prop}(h:∃x0 x1,A0 x0 x1∧A1 x0 x1∧A2 x0 x1)(k:∀x0 x1,A0 x0 x1→A1 x0 x1→A2 x0 x1→G):G:=let⟨x0,x1,y⟩:=h;k x0 x1 y.1 y.2.1 y.2.2
theorem J5_3{α0:Sort _}{α1:Sort _}{α2:Sort _}{A0 A1:α0→α1→α2→Prop}{G:Prop}(h:∃x0 x1 x2,A0 x0 x1 x2∧A1 x0 x1 x2)(k:∀x0 x1 x2,A0 x0 x1 x2→A1 x0 x1 x2→G):G:=let⟨x0,x1,x2,y⟩:=h;k x0 x1 x2 y.1 y.2
theorem J6_0{A0 A1 A2 A3 A4 A5:Prop}{G:Prop}(h:A0∧A1∧A2∧A3∧A4∧A5)(k:A0→A1→A2→A3→A4→A5→G):G:=k h.1 h.2.1 h.2.2.1 h.2.2.2.1 h.2.2.2.2.1 h.2.2.2.2.2
theorem J6_1{α0:Sort _}{A0 A1 A2 A3 A4:α0→Prop}{G:Prop}(h:∃x0,A0 x0∧A1 x0∧A2 x0∧A3 x0∧A4 x0)(k:∀x0,A0 x0→A1 x0→A2 x0→A3 x0→A4 x0→G):G:=let⟨x0,y⟩:=h;k x0 y.1 y.2.1 y.2.2.1 y.2.2.2.1 y.2.2.2.2
theorem J6_2{α0:Sort _}{α1:Sort _}{A0 A1 A2 A3:α0→α1→Prop}{G:Prop}(h:∃x0 x1,A0 x0 x1∧A1 x0 x1∧A2 x0 x1∧A3 x0 x1)(k:∀x0 x1,A0 x0 x1→A1 x0 x1→A2 x0 x1→A3 x0 x1→G):G:=let⟨x0,x1,y⟩:=h;k x0 x1 y.1 y.2.1 y.2.2.1 y.2.2.2
theorem J6_3{α0:Sort _}{α1:Sort _}{α2:Sort _}{A0 A1 A2:α0→α1→α2→Prop}{G:Prop}(h:∃x0 x1 x2,A0 x0 x1 x2∧A1 x0 x1 x2∧A2 x0 x1 x2)(k:∀x0 x1 x2,A0 x0 x1 x2→A1 x0 x1 x2→A2 x0 x1 x2→G):G:=let⟨x0,x1,x2,y⟩:=h;k x0 x1 x2 y.1 y.2.1 y.2.2
theorem J6_4{α0:Sort _}{α1:Sort _}{α2:Sort _}{α3:Sort _}{A0 A1:α0→α1→α2→α3→Prop}{G:Prop}(h:∃x0 x1 x2 x3,A0 x0 x1 x2 x3∧A1 x0 x1 x2 x3)(k:∀x0 x1 x2 x3,A0 x0 x1 x2 x3→A1 x0 x1 x2 x3→G):G:=let⟨x0,x1,x2,x3,y⟩:=h;k x0 x1 x2 x3 y.1 y.2
theorem J7_2{α0:Sort _}{α1:Sort _}{A0 A1 A2 A3 A4:α0→α1→Prop}{G:Prop}(h:∃x0 x1,A0 x0 x1∧A1 x0 x1∧A2 x0 x1∧A3 x0 x1∧A4 x0 x1)(k:∀x0 x1,A0 x0 x1→A1 x0 x1→A2 x0 x1→A3 x0 x1→A4 x0 x1→G):G:=let⟨x0,x1,y⟩:=h;k x0 x1 y.1 y.2.1 y.2.2.1 y.2.2.2.1 y.2.2.2.2
theorem J7_3{α0:Sort _}{α1:Sort _}{α2:Sort _}{A0 A1 A2 A3:α0→α1→α2→Prop}{G:Prop}(h:∃x0 x1 x2,A0 x0 x1 x2∧A1 x0 x1 x2∧A2 x0 x1 x2∧A3 x0 x1 x2)(k:∀x0 x1 x2,A0 x0 x1 x2→A1 x0 x1 x2→A2 x0 x1 x2→A3 x0 x1 x2→G):G:=let⟨x0,x1,x2,y⟩:=h;k x0 x1 x2 y.1 y.2.1 y.2.2.1 y.2.2.2
theorem J7_4{α0:Sort _}{α1:Sort _}{α2:Sort _}{α3:Sort _}{A0 A1 A2:α0→α1→α2→α3→Prop}{G:Prop}(h:∃x0 x1 x2 x3,A0 x0 x1 x2 x3∧A1 x0 x1 x2 x3∧A2 x0 x1 x2 x3)(k:∀x0 x1 x2 x3,A0 x0 x1 x2 x3→A1 x0 x1 x2 x3→A2 x0 x1 x2 x3→G):G:=let⟨x0,x1,x2,x3,y⟩:=h;k x0 x1 x2 x3 y.1 y.2.1 y.2.2
theorem J8_2{α0:Sort _}{α1:Sort _}{A0 A1 A2 A3 A4 A5:α0→α1→Prop}{G:Prop}(h:∃x0 x1,A0 x0 x1∧A1 x0 x1∧A2 x0 x1∧A3 x0 x1∧A4 x0 x1∧A5 x0 x1)(k:∀x0 x1,A0 x0 x1→A1 x0 x1→A2 x0 x1→A3 x0 x1→A4 x0 x1→A5 x0 x1→G):G:=let⟨x0,x1,y⟩:=h;k x0 x1 y.1 y.2.1 y.2.2.1 y.2.2.2.1 y.2.2.2.2.1 y.2.2.2.2.2
theorem J8_3{α0:Sort _}{α1:Sort _}{α2:Sort _}{A0 A1 A2 A3 A4:α0→α1→α2→Prop}{G:Prop}(h:∃x0 x1 x2,A0 x0 x1 x2∧A1 x0 x1 x2∧A2 x0 x1 x2∧A3 x0 x1 x2∧A4 x0 x1 x2)(k:∀x0 x1 x2,A0 x0 x1 x2→A1 x0 x1 x2→A2 x0 x1 x2→A3 x0 x1 x2→A4 x0 x1 x2→G):G:=let⟨x0,x1,x2,y⟩:=h;k x0 x1 x2 y.1 y.2.1 y.2.2.1 y.2.2.2.1 y.2.2.2.2
theorem J8_4{α0:Sort _}{α1:Sort _}{α2:Sort _}{α3:Sort _}{A0 A1 A2 A3:α0→α1→α2→α3→Prop}{G:Prop}(h:∃x0 x1 x2 x3,A0 x0 x1 x2 x3∧A1 x0 x1 x2 x3∧A2 x0 x1 x2 x3∧A3 x0 x1 x2 x3)(k:∀x0 x1 x2 x3,A0 x0 x1 x2 x3→A1 x0 x1 x2 x3→A2 x0 x1 x2 x3→A3 x0 x1 x2 x3→G):G:=let⟨x0,x1,x2,x3,y⟩:=h;k x0 x1 x2 x3 y.1 y.2.1 y.2.2.1 y.2.2.2
theorem J9_3{α0:Sort _}{α1:Sort _}{α2:Sort _}{A0 A1 A2 A3 A4 A5:α0→α1→α2→Prop}{G:Prop}(h:∃x0 x1 x2,A0 x0 x1 x2∧A1 x0 x1 x2∧A2 x0 x1 x2∧A3 x0 x1 x2∧A4 x0 x1 x2∧A5 x0 x1 x2)(k:∀x0 x1 x2,A0 x0 x1 x2→A1 x0 x1 x2→A2 x0 x1 x2→A3 x0 x1 x2→A4 x0 x1 x2→A5 x0 x1 x2→G):G:=let⟨x0,x1,x2,y⟩:=h;k x0 x1 x2 y.1 y.2.1 y.2.2.1 y.2.2.2.1 y.2.2.2.2.1 y.2.2.2.2.2
theorem J11_5{α0:Sort _}{α1:Sort _}{α2:Sort _}{α3:Sort _}{α4:Sort _}{A0 A1 A2 A3 A4 A5:α0→α1→α2→α3→α4→Prop}{G:Prop}(h:∃x0 x1 x2 x3 x4,A0 x0 x1 x2 x3 x4∧A1 x0 x1 x2 x3 x4∧A2 x0 x1 x2 x3 x4∧A3 x0 x1 x2 x3 x4∧A4 x0 x1 x2 x3 x4∧A5 x0 x1 x2 x3 x4)(k:∀x0 x1 x2 x3 x4,A0 x0 x1 x2 x3 x4→A1 x0 x1 x2 x3 x4→A2 x0 x1 x2 x3 x4→A3 x0 x1 x2 x3 x4→A4 x0 x1 x2 x3 x4→A5 x0 x1 x2 x3 x4→G):G:=let⟨x0,x1,x2,x3,x4,y⟩:=h;k x0 x1 x2 x3 x4 y.1 y.2.1 y.2.2.1 y.2.2.2.1 y.2.2.2.2.1 y.2.2.2.2.2
local macro_rules|`(tactic|let$p:term:=$e)=>if p.raw.isIdent then Lean.Macro.throwUnsupported else do let q←HF 99 p let ls:Array Lean.Syntax:=match p with |`(#[$a,*])=>a.getElems.map (·.raw)|`(($a,$b,*))=>(#[a.raw]:Array Lean.Syntax)++b.getElems.map (·.raw)|_=>#[]let n:=ls.size if n<2||n>11||ls.any (λx=>x.isIdent&&x.getId==`rfl||x.isOfKind `num)then`(tactic|obtain$q:rcasesPat:=$e)else do
  let mut ns:Array (Lean.TSyntax `term):=#[]let mut post:Array (Lean.TSyntax `tactic):=#[]for x in ls do
    let w:Lean.TSyntax `term:=⟨x⟩ if(x.isIdent&&!(x.getId==`rfl))||x.isOfKind ``Lean.Parser.Term.hole then ns:=ns.push w else
      let i:=Lean.mkIdent (Lean.Name.mkSimple s!"tt{ns.size}")ns:=ns.push i let r←HF 99 w
      post:=post.push (←`(tactic|obtain$r:rcasesPat:=$i:term))
  let tz:=Lean.mkIdent (Lean.Name.mkSimple "tz")let e2:Lean.TSyntax `term:=if e.raw.isIdent then tz else e if e.raw.isIdent then post:=#[←`(tactic|try clear$tz)]++post
  let mut alts:Array (Lean.TSyntax ``Lean.Parser.Tactic.tacticSeq):=#[]for k in[0:min n (6+1)]do let f:=Lean.mkIdent (Lean.Name.mkSimple s!"J{n}_{k}")alts:=alts.push (←`(tacticSeq|refine$f $e2 (fun$ns*=>?_)))
  if e.raw.isIdent then let j:Lean.Ident:=⟨e.raw⟩`(tactic|first|(revert$j;intro$tz:ident;(first$[|$alts]*);$[$post]*)|obtain$q:rcasesPat:=$e)else`(tactic|first|((first$[|$alts]*);$[$post]*)|obtain$q:rcasesPat:=$e)
local macro_rules|`(tactic|left)=>`(tactic|decide+kernel)|`(tactic|change$e)=>`(tactic|with_reducible exact$e)|`(tactic|specialize$e)=>`(tactic|with_reducible refine$e)
local macro_rules|`(def$i:declId$s:optDeclSig$v:declVal)=>if v.raw[1].isOfKind ``Lean.Parser.Term.byTactic then`(theorem$i:declId$(⟨Lean.mkNode ``Lean.Parser.Command.declSig #[s.raw[0],s.raw[1][0]]⟩):declSig$v:declVal)else`(noncomputable def$i:declId$s:optDeclSig$v:declVal)|`(abbrev$i:declId$s:optDeclSig$v:declVal)=>`(noncomputable abbrev$i:declId$s:optDeclSig$v:declVal)|`(instance$s:declSig$v:declVal)=>`(noncomputable instance$s:declSig$v:declVal)
local macro_rules|`(tactic|ext)=>`(tactic|(simp_all;done))
local macro_rules|`(tactic|ext)=>`(tactic|(simp;done))
local macro_rules|`(tactic|ext$i:ident:0)=>`(tactic|(delta$i:ident;infer_instance))
local macro_rules|`(tactic|ext)=>`(tactic|decide)
local macro_rules|`(tactic|ext)=>`(tactic|omega)
local macro_rules|`(tactic|ext)=>`(tactic|lia)
local macro_rules|`(tactic|show$e)=>`(tactic|refine$e)
local macro_rules|`(tactic|ext$i:ident)=>`(tactic|cases$i:ident)
local macro_rules|`(tactic|ext$i:ident)=>`(tactic|unfold$i:ident)
local macro_rules|`(#[$a,*])=>`(⟨$a,*⟩)|`(#v[$a,*])=>`(List.toArray [$a,*])
local macro_rules|`(())=>`(by ext)
open Option renaming some->cL,none->CL,bind_eq_some_iff->q3,isSome_iff_exists->EM,isNone_iff_eq_none->DD,map_eq_some_iff->K7,toList_none->JP,toList_some->JK,isSome_map->JG,getD_none->Jc
open PySem.W renaming Frag->lD,nsIn->iN,mg_of->m7,findIn->p5,keepIn->t!,instObj->vu,fnOf->vk,excIn->x_,emptyDict->J',cellsFrom_some->T?,plainGet->KX,isFn->A',hasDictIn->SS,lookIn->S_,codeIn->S2,plainGet_of->C7,callWith_K->C6,plainOver->CR,takerIn->Cz,makesIn->Cq,methodCall_KW->K9,callWith_K0->KQ,pyHash_slot->KL,specialIn->JR,handedIn->JJ,OpenLaw->JV
open Bool renaming true->Ld,and_eq_true->c!,false->fg,false_ne_true->ml,not_eq_true'->z6,and_self->ua,or_eq_true->w!,and_false->O3,false_or->Q_,true_and->Qn,true_or->Rw,noConfusion->Br,or_false->B4,or_true->B8,false_eq_true->aiW,not_true->ak7,and_true->Io
open PySem renaming wpAny_bind->bY,PyData->aS,Value->a_,wpAny_pure->ew,sizeLine->eg,mainGlobals->gE,Addr->aT,starEach->e_,Shared->d_,Builtin->e?,NameKind->hO,Expr->c_,wpAny_field->l_,bootBuiltins->ni,compareOp->m6,wpAny_holding->qi,wpAny_truthy_bool->t?,wpAny_seqItems->ra,binaryOp->nt,Program->m4,mem_of_lookup->y!,wpAny_callSpecial?_slot->Em,wpAny_newObj_type->vo,cellsFrom->pj,wpAny_call_entry->vr,Around->m3,wpAny_pyIter_tuple->C?,World->k?,wpAny_Call_Name_kw->C_,call_meets->q_,wpAny_setField_rec->C1,wpAny_passesOwn->w',codeAny_builtin->x!,wpAny_pyIter_enum->D_,sysModules->rn,wpAny_setField->xR,plainId_quiet->w?,swapsWith->ro,wpAny_getItem_str_slice->U?,Stmt->kl,Scope->nS,wpAny_letGo->w_,codeAny_call_builtin->S1,wpAny_execs_nil->ID,wpAny_loadPart'->H?,wpAny_pyIter_list->Sb,codeAny_mono->By,FuncData->t5,typeIs_str->w6,wpAny_letOwnedTupleGo_enum->D3,sizeLine_eq->B_,Comprehension->G!,intText?->O_,post_val_or_str->OF,IsPart->rk,ReadsAll->wh,wpAny_of_eq->G?,wpAny_updateSeq_pair->CD,wpAny_tryCatch->P!,BindsTo->u_,Keyword->u5,wpAny_standAt->age,wpAny_onRaise->N!,wpAny_Constant_int->BV,typeIs_int->Ge,wpAny_rule->F?,JoinOk->t4,tupleKind_room_in1->BP,wpAny_typeOf->N?,ZipApart->z?,eqIsQuiet_byValue->agL,PassesOwn->G_,Within->BO,pushCells_keeps->BK,wpAny_updateSeq->B9,wpAny_call->N_,IsEnum->v?,Reads->tA,IsZip->s?,wpAny_binaryOp_repeat_ref->JQ,wpAny_comprehension_free->JH,DictEntry->M!,wpAny_pyNext_enum_itemD->JZ,seqIndex_neg->AP,wpAny_pyNext_enum_endD->Iz,wpAny_isTrue_Compare1->J6,Walks->v',seqIndex_of->Ab,wpAny_isSubtype_exc->Ik,wpAny_Name->AM,wpAny_load->AL,wpAny_assign_Name->Ia,wpAny_sequenceKey->IZ,slot_list_getitem->Ib,wpAny_pyHash_int->IU,wpAny_pyHash_str->IT,wpAny_execs_cons->IS,noFill_tuple_add->IJ,call->IH,wpAny_isInstance->IG,wpAny_pyIter_zip->IC,wpAny_getItem_of->IB,beq_builtin_none->IX,wpAny_stack_any->Hv,wpAny_specialOf->IA,wpAny_Compare1->HY,Operator->VE,rangeSize_one->HX,intBits_le_64->HW,seq_tuple_add->HV,call_list_seq->HR,sub_enumerate->HQ,wpAny_attempt->HP,wpAny_newList->HK,ItemsOf->HJ
open List renaming getElem?_eq_some_iff->f_,length_map->dO,mem_cons_self->eQ,mem_singleton->f?,replicate->ey,mem_cons_of_mem->h_,getElem?_eq_getElem->j',getElem?_map->iD,mem_map->gi,range->eI,length_append->jl,mem_cons->hX,mem_of_getElem?->lq,length_cons->j_,all_eq_true->j?,getElem?_append_right->oq,size_toArray->lE,mem_range->js,getElem?_append_left->oT,map_map->i?,mem_append_right->oe,map_append->mN,map_cons->l4,length_range->n_,mem_append->m?,append_nil->n9,length_replicate->p!,mem_filter->n7,lookup_cons->o2,take_of_length_le->q0,append_assoc->pb,mem_iff_getElem?->q?,length_take->p',length_set->p_,isEmpty_iff->qk,getElem?_set->qF,mem_append_left->rR,drop_eq_nil_of_le->t_,map_congr_left->rC,take_add_one->rp,filterMap_cons_some->y_,getElem?_replicate->z5,nodup_cons->r4,length_singleton->z4,length_filter_le->y?,pairwise_map->vp,not_mem_nil->vm,getD_eq_getElem?_getD->K_,drop_eq_getElem_cons->K!,replicate_succ->K',getElem_mem->Dd,filter_cons_of_pos->J_,filter_cons_of_neg->I?,getElem?_set_self->I!,flatten_singleton->I_,length_nil->C!,nodup_append->B?,mem_of_mem_take->Ks,filterMap_cons_none->U_,all_cons->xv,mem_filterMap->J!,lookup->vf,getElem?_cons_succ->DG,range'->vb,contains_iff_mem->U',length_drop->H!,getElem?_set_ne->R_,mem_iff_getElem->R3,of_mem_zip->H_,foldl_cons->H8,filterMap_cons->RW,set_set->A_,pairwise_cons->Si,nodup_nil->IF,getElem?_eq_none_iff->DB,pairwise_iff_getElem->DA,length->A?,reverse_cons->R?,mem_range'_1->R!,filter_cons->T_,take_length->S?,foldl->BY,forIn_cons->P_,drop_zero->OR,length_reverse->C4,length_range'->CN,flatten_cons->C9,ext_getElem?->D0,any_eq_true->Bb,find?_cons->C3,range_succ->Bx,Nodup->Of,mem_of_find?_eq_some->LA,length_filterMap_le->K4,take_nil->Ak,getElem?_cons_zero->ahE,pairwise_singleton->KR,pairwise_lt_range->KA,getElem?_eq_none->KW,forall_mem_cons->JL,filter_eq_self->Jk,drop_succ_cons->Jj,map_eq_nil_iff->Ji,filterMap_map->Je,map_inj_right->K3,contains_cons->K0,getElem_range->Jy,zip_cons_cons->Jx,set_cons_zero->ai4,set_cons_succ->ai5,map_replicate->Jw,mem_replicate->Jq,getElem?_inj->Iy,zipIdx_cons->J3,zipIdx_nil->J9,headD_cons->J7,forIn_nil->Il,take_zero->Ih,any_cons->Ir,map_take->Im,map_nil->al1,map_id->IW
open Nat renaming le_refl->dc,lt_of_lt_of_le->lr,ne_of_lt->iF,le_of_ble_eq_true->nE,le_trans->la,zero_le->mT,ne_of_gt->n?,lt_irrefl->qT,lt_succ_of_lt->B!,lt_succ_self->DO,le_succ->u?,lt_trans->x?,zero_add->D!,le_of_lt->AS,le_of_succ_le->R',succ_ne_self->S!,add_sub_cancel_left->DF,min_eq_left->O!,mul_le_mul->OK,add_assoc->P?,le_of_eq->Q?,succ_mul->Q!,add_comm->Q',or_lt_two_pow->Cd,min_le_right->BR,not_lt_zero->Bs,sub_self->KY,eq_of_testBit_eq->JB,pow_lt_pow_right->Jl,lt_of_le_of_lt->ajf,and_one_is_mod->Iv,le_add_right->Ic,left_le_or->Ip,log2_lt->Hw,one_mul->Hz
open PySem.Str renaming join->iw,length_append->pk,cps_append->LC,ofString->KS,ext'->avn,append_assoc->avt,empty->avu
open Option.some renaming inj->lp
open PyProof.Rows renaming envOfC->z_,slot_tuple_getitem->D?,callWith_type1->T!,kws_cons->Kd,kws_nil->L7,callWith_builtin1->anR,bitAnd_pp->anU,bitAnd_nn->anV,evalArgs_kwB->anW,split_pos->anZ,litPairs->an1,strKeyed->an2
open Int renaming toNat_natCast->q!,le_refl->G',natCast_nonneg->CF,ofNat->F!,fdiv_eq_ediv_of_nonneg->LH,toNat->Nn,toNat_of_nonneg->Ja,emod_lt_of_pos->Iw,emod_nonneg->Ij,ediv_one->II
open Array renaming getElem?_eq_some_iff->y',toList_append->E1,length_toList->J?,getElem?_toList->U!,forIn_toList->JC,all_eq_true'->Jg,toList->Iu
open List.Pairwise renaming nil->R5,filter->KZ,filterMap->amE
open Nat.succ renaming inj->A!
open List.cons renaming inj->O?,injEq->avr
open PySem.StrLaws renaming glued_eq_join->LL,joinFits->LM,subAt_eq->Ke,split_free->amA,join_split->amB,sliced_plain->amF,strSliceIndices_plain->amG
open List.Perm renaming refl->Cf,swap->avl
open PySem.F renaming excBase_ValueError->Kb,args_tuple_add_2->Kz,slot_dict_values->Ky,slot_list_append->Kn,type_list_append->Km,slot_list_extend->Ki,type_list_extend->Kh,entry_tuple_add->Kf,plainAttrs_dict->LJ,slot_tuple_add->LF,slot_dict_pop->K6
open PySem.W.Looks renaming here->amt
open PySem.Within renaming cons->anQ
open PySem.SeqAt renaming compareEq_reads->apm,compareNe_reads->apn,in_list_reads->apo,in_tuple_reads->apq,notIn_list_reads->apr,notIn_tuple_reads->aps
open PySem.W.KIN renaming call_text->apt
open List.Nodup renaming sublist->asd
open PySem.IsL renaming update->avj
open PyProof.V renaming same_str->avm
abbrev W:=@rfl
abbrev I:=@List
open Option renaming some->G
open Bool renaming false->M,true->u
namespace L2
open PySem PySem.Spec PyProof.Rows
abbrev gY:=Sum Int Str
def yc:gY->a_->Bool|.inl k,v=>a_.isInt k v|.inr x,v=>a_.isStrOf x v
def abb(w:k?):gY->Int|.inl k=>hashInt k|.inr x=>hashStr w x
theorem dQ:∀{k:gY}{v:a_},yc k v=u->(∃i t,k=Sum.inl i/\v=a_.int i t)\/(∃x t,k=Sum.inr x/\v=a_.str x t) |.inl i,v,h=>by let(t,e):=a_.isInt_shape h;show .inl #[i,t,W,e]|.inr x,v,h=>by let(t,e):=a_.isStrOf_shape h;show .inr #[x,t,W,e]
def ai9(i:Int)(t:Tok):yc (.inl i) (.int i t)=u:=by simp[yc,a_.isInt]
def Ix(x)(t):yc (.inr x) (.str x t)=u:=by simp[yc,a_.isStrOf]
def Xd(a b):decide ((Sum.inl a:gY)=Sum.inl b)=(a==b):=by
 by_cases e:a=b
 .subst e;simp
 .let h:¬(Sum.inl a:gY)=Sum.inl b:=λq=>e (Sum.inl.inj q);rw[a5 h];show(beq_eq_false_iff_ne.mpr e).symm
def U3(a b):decide ((Sum.inr a:gY)=Sum.inr b)=decide (a=b):=by
 by_cases e:a=b
 .simp
 .let h:¬(Sum.inr a:gY)=Sum.inr b:=λq=>e (Sum.inr.inj q);rw[a5 h,a5 e]
def XT(a)(b):decide ((Sum.inl a:gY)=Sum.inr b)=M:=a5 (nofun)
def Vn(a)(b):decide ((Sum.inr a:gY)=Sum.inl b)=M:=a5 (nofun)
def eO(prog:m4)(w:k?):PySem.KeyKind prog w gY where
 is:=yc
 hash:=abb w
 inj:=λv a b m g=>by
  rcases dQ m with⟨i,t,rfl,rfl⟩|⟨x,t,rfl,rfl⟩
  .rcases dQ g with⟨j,u,rfl,e⟩|⟨y,u,rfl,e⟩
   .injection e with e1 _;rw[e1]
   .show nomatch e
  .rcases dQ g with⟨j,u,rfl,e⟩|⟨y,u,rfl,e⟩
   .show nomatch e
   .injection e with e1 _;rw[e1]
 byValue:=λk v h=>by rcases dQ h with⟨i,t,rfl,rfl⟩|⟨x,t,rfl,rfl⟩<;>rfl
 pyHash:=λf h=>by
  rcases dQ f with⟨i,t,rfl,rfl⟩|⟨x,t,rfl,rfl⟩
  .show IU h
  .show IT h
 eqBool:=λl f h=>by
  rcases dQ l with⟨i,t,rfl,rfl⟩|⟨x,t,rfl,rfl⟩
  .rcases dQ f with⟨j,u,rfl,rfl⟩|⟨y,u,rfl,rfl⟩
   .rw[Xd]at h;show wpAny_eqBool_int h
   .rw[XT]at h;show SeqAt.EqAt.int_str i t y u _ _ _ _ h
  .rcases dQ f with⟨j,u,rfl,rfl⟩|⟨y,u,rfl,rfl⟩
   .rw[Vn]at h;show SeqAt.EqAt.str_int x t j u _ _ _ _ h
   .rw[U3]at h;show wpAny_eqBool_str h
 «strs»:=λk x t v h=>by
  rcases dQ h with⟨i,u,rfl,e⟩|⟨y,u,rfl,e⟩
  .show nomatch e
  .injection e with e1 _
   subst e1;ext v<;>rfl
def ab9(prog)(w)(i)(t):(eO prog w).is (.inl i) (.int i t)=u:=ai9 i t
def ab7(prog)(w)(x)(t):(eO prog w).is (.inr x) (.str x t)=u:=Ix x t
set_option genInjectivity true in
inductive V where|non|bl(b:Bool)|int(i:Int)|str(x:Str)|byt(b:Array UInt8)|flt(b:UInt64)|ref(a:aT)|ty(n:String)deriving DecidableEq
def b?:V->a_->Prop|.non,e=>e=a_.none|.bl b,e=>e=a_.bool b|.int i,e=>∃t,e=a_.int i t|.str x,e=>∃t,e=a_.str x t|.byt b,e=>∃t,e=a_.bytes b t|.flt b,e=>∃t,e=a_.float b t|.ref a,e=>e=a_.ref a|.ty n,e=>e=a_.type n
abbrev b_:I V->I a_->Prop:=Paired b?
def b_.length(r:b_ xs us):xs.length=us.length:=Paired.length r
theorem b_.get:∀{xs:I V}{a:I a_}{i:Nat}{x:V},b_ xs a->xs[i]?=G x->∃u,a[i]?=G u/\b? x u |_,_,_,_,.nil,e=>by simp at e|_,_,0,_,.cons r _,e=>by simp at e;subst e;show#[_,W,r]|_,_,i+1,x,.cons _ t,e=>by let(u,f,b):=b_.get t (by simpa using e);show#[u,by simpa using f,b]
theorem b_.set(r:b? x b):∀{xs:I V}{a:I a_}(i),b_ xs a->b_ (xs.set i x) (a.set i b) |_,_,_,.nil=>.nil|_,_,0,.cons _ t=>.cons r t|_,_,i+1,.cons q t=>.cons q (b_.set r i t)
theorem b_.append:∀{xs a:I V}{b ws:I a_},b_ xs b->b_ a ws->b_ (xs++a) (b++ws) |_,_,_,_,.nil,s=>s|_,_,_,_,.cons r t,s=>.cons r (b_.append t s)
theorem b_.take:∀{xs:I V}{a:I a_}(n),b_ xs a->b_ (xs.take n) (a.take n) |_,_,0,_|_,_,_+1,.nil=>.nil|_,_,n+1,.cons r t=>.cons r (b_.take n t)
theorem b_.drop:∀{xs:I V}{a:I a_}(n),b_ xs a->b_ (xs.drop n) (a.drop n) |_,_,0,r=>r|_,_,_+1,.nil=>.nil|_,_,n+1,.cons _ t=>b_.drop n t
def o4:bb V->bb a_->Prop|some v,G a=>b? v a|none,CL=>True|_,_=>False
def KV:I (o×V)->I (o×a_)->Prop:=Paired λ(p:o×V)(q:o×a_)=>p.1=q.1/\b? p.2 q.2
def kV:gY->V|.inl i=>.int i|.inr x=>.str x
set_option genInjectivity true in
inductive HO where|lst(xs:I V)|tup(xs:I V)|dK(kvs:I (gY×V))|dT(kvs:I (I gY×V))|set(S:Int->Bool)(n:Nat)|ins(C dx:aT)(fs:I (Str×V))|own(x:aT)|xd(fs:I (Str×V))|met(f x:aT)|rng(lo hi:Int)|frz(o:Obj)(u:HO)|tbl(ps:Array a_)|ext(φ:Heap->Prop)|exw(φ:k?->Heap->Prop)
abbrev Hp:=aT->bb HO
def bW(H:Hp)(a:aT)(o:HO):Hp:=λb=>if b=a then G o else H b
def aR:bW H a o a=G o:=by ext bW;rw[ax W]
def bh(h:b≠a):bW H a o b=H b:=by ext bW;rw[aE h]
def Zj{H:Hp}(h:H a=G o)(c:H b=G f)(d:o≠f):a≠b:=by intro e;subst e;rw[h]at c;show d (lp c)
def ci{H:Hp}(h:H a=G o)(c:H b=CL):a≠b:=by intro e;subst e;rw[h]at c;ext c
def qf(h:Heap)(a:aT)(b:Array a_):Prop:=∃o,h.get? a=G o/\(o.cls=.type "tuple"/\∃n,o.data=.seq b n)/\o.dict=CL
def qf.tup(x:qf h a items):IsTup h a items:=by let(o,e,c,_):=x;show#[o,e,c]
def qf.lt(x:qf h a items):a<h.objs.size:=by let(_,e,_):=x;show br e
def qf.new(h:Heap)(xs):qf (h.push {cls:=.type "tuple",data:=.seq xs}) h.objs.size xs:=#[_,b4 _ W,#[W,_,W],W]
section
variable(P:m4)(w:k?)
def eH(H:Hp)(h:Heap)(a:aT):HO->Prop |.lst xs=>xs.length<=eg/\∃(b:I a_)(n:Nat),b_ xs b/\h.get? a=G {cls:=.type "list",data:=.seq b.toArray n}|.tup xs=>xs.length<=eg/\∃b:I a_,b_ xs b/\qf h a b.toArray|.dK g=>g.length<=eg/\(a==rn)=M/\∃r,KV g r/\h.DictOf (eO P w) a r|.dT g=>g.length<=eg/\(a==rn)=M/\∃xs:I (I gY×aT×a_),Paired (λ(p:I gY×V)(q:I gY×aT×a_)=>p.1=q.1/\H q.2.1=G (.tup (p.1.map kV))/\b? p.2 q.2.2) g xs/\∃o es A,h.get? a=G o/\o.ExactDict/\o.data=.dict es A/\es.toList=xs.map (entryOfKey (tupleKind (eO P w)))/\(xs.map (·.1)).Nodup|.set S n=>h.SetOf (intKind P w) a S n|.ins C m fs=>H m=G (.own a)/\fs.length<=1000/\m≠a/\h.get? a=G (vu C m)/\∃j,h.Ns1 m j/\(∀f,o4 (fs.lookup f) (j f))/\BO j (fs.map (·.1))|.own _=>∃o,h.get? a=G o|.xd fs=>∃j,h.Ns1 a j/\∀f,o4 (fs.lookup f) (j f)|.rng lo z=>∃t e v,h.get? a=G {cls:=.type "range",data:=.fields #v[.int lo t,.int z e,.int 1 v]}|.frz o e=>h.get? a=G o/\eH H h a e|.tbl y=>h.get? a=G {cls:=.none,data:=.fields y}|.met f x=>h.get? a=G (PySem.W.methodObj (.ref f) (.ref x))|.ext i=>i h/\(∃o,h.get? a=G o)/\∀h1 l:Heap,i h1->(∀o,h1.get? a=G o->l.get? a=G o)->i l|.exw i=>i w h/\(∃o,h.get? a=G o)/\∀h1 l:Heap,i w h1->(∀o,h1.get? a=G o->l.get? a=G o)->i w l
def jo(H:Hp)(h:Heap):Prop:=∀a o,H a=G o->eH P w H h a o
end
section
variable{a:aT}
def eH.lt(x:eH P w H h a o):a<h.objs.size:=by cases o with |lst xs=>let(_,_,_,_,e):=x;show br e|tup xs=>let(_,_,_,p):=x;show p.lt|dK g|dT g=>let(_,_,_,_,o,_,_,e,_):=x;show br e|set S n=>let(o,_,_,_,e,_):=x;show br e|ins C m fs=>let(_,_,_,e,_):=x;show br e|own y=>let(_,e):=x;show br e|xd fs=>let(_,(_,_,_,e,_),_):=x;show br e|rng lo l=>let(_,_,_,e):=x;show br e|frz b u=>let(e,_):=x;show br e|tbl j|met f y=>show br (x)|ext i|exw i=>let(_,(_,e),_):=x;show br e
theorem Paired.aes:∀{d:I α}{c:I β},Paired F d c->(∀a b,F a b->e a b)->Paired e d c |_,_,.nil,_=>.nil|_,_,.cons r t,f=>.cons (f _ _ r) (Paired.aes t f)
def eH.afT(x:eH P w H h a o)(k:∀b u,(b=a\/H b=G (.own a))->h.get? b=G u->h'.get? b=G u)(F:∀b,H b=G (.own a)->H' b=G (.own a))(E:∀b xs,H b=G (.tup xs)->H' b=G (.tup xs)):eH P w H' h' a o:=by induction o with |lst xs=>let(z,j,n,r,e):=x;show#[z,j,n,r,k _ _ (.inl W) e]|tup xs=>let(z,j,r,g,e,c):=x;show#[z,j,r,g,k _ _ (.inl W) e,c]|dK J=>let(z,y,N,r,g,es,i,e,c):=x;show#[z,y,N,r,g,es,i,k _ _ (.inl W) e,c]|dT J=>let(z,y,xs,r,g,es,i,e,c):=x;show#[z,y,xs,Paired.aes r λp q z=>#[z.1,E _ _ z.2.1,z.2.2],g,es,i,k _ _ (.inl W) e,c]|set S n=>let(g,es,i,t,e,c):=x;show#[g,es,i,t,k _ _ (.inl W) e,c]|ins C R fs=>let(d,z,ne,e,A,(m,es,i,e2,c),r):=x;show#[F _ d,z,ne,k _ _ (.inl W) e,A,#[m,es,i,k _ _ (.inr d) e2,c],r]|own y=>let(g,e):=x;show#[g,k _ _ (.inl W) e]|xd fs=>let(A,(m,es,i,e,c),r):=x;show#[A,#[m,es,i,k _ _ (.inl W) e,c],r]|rng lo Q=>let(t,u,v,e):=x;show#[t,u,v,k _ _ (.inl W) e]|frz g u B=>let(e,q):=x;show#[k _ _ (.inl W) e,B q]|tbl O|met f y=>let e:h.get? a=G _:=x;show k a _ (.inl W) e|ext L|exw L=>let(p,(o,e),l):=x;show#[l _ _ p λo q=>k _ _ (.inl W) q,#[o,k _ _ (.inl W) e],l]
def jo.lt(x:jo P w H h)(e:H a=G o):a<h.objs.size:=(x a o e).lt
def jo.fresh(x:jo P w H h)(e:h.objs.size<=a):H a=CL:=by cases q:H a with |none=>rfl|some u=>show a7 (lr (x.lt q) e) (qT _)
def jo.kept(x:jo P w H h)(k:∀b u,h.get? b=G u->h'.get? b=G u):jo P w H h':=λa o e=>(x a o e).afT (λb u _ q=>k b u q) (λ_ q=>q) λ_ _ q=>q
def jo.laid(x:jo P w H h)(k:∀b u,h.get? b=G u->h'.get? b=G u)(g:h.objs.size<=a)(new:eH P w (bW H a o) h' a o):jo P w (bW H a o) h':=λb u e=>by
 let i:=x.fresh g;by_cases f:b=a
 .subst f;rw[aR]at e;simp_all
 .rw[bh f]at e;show(x b u e).afT (λc v _ q=>k c v q) (λc q=>by rw[bh (ci q i)];show q) λc xs q=>by rw[bh (ci q i)];show q
end
def Rd(H:Hp)(a:aT)(u:HO):Prop:=H a=G u\/∃o,H a=G (.frz o u)
def Rd.ok(r:Rd H a b)(x:jo P w H h):eH P w H h a b:=by
 rcases r with r|⟨o,r⟩
 .show x a b r
 .let(_,q):=x a _ r;show q
def YO:bb HO->Prop |some (.lst _)|some (.dK _)|some (.dT _)|some (.set _ _)|some (.ins _ _ _)|some (.ext _)|some (.exw _)=>True|_=>False
section
def jo.write(ok:jo P w H h)(g:YO (H x))(o:e=x\/H e=G (.own x))(k:∀b u,b≠e->h.get? b=G u->h'.get? b=G u)(l:∃u,h'.get? e=G u)(new:eH P w (bW H x o') h' x o'):jo P w (bW H x o') h':=λb u q=>by
 let f:∀c y,H c=G (.own y)->c≠x:=λc y r z=>by subst z;rw[r]at g;show g
 let m:∀c xs,H c=G (.tup xs)->c≠x:=λc xs r z=>by subst z;rw[r]at g;show g
 by_cases j:b=x
 .subst j;rw[aR]at q;ext q;show new
 .rw[bh j]at q
  by_cases a:b=e
  .let n:H b=G (.own x):=by
    rcases o with z|z
    .show a7 (a.trans z) j
    .rw[a];show z
   rw[q]at n;ext n;let(v,p):=l;show#[v,by rw[a];show p]
  .show(ok b u q).afT (λc v i r=>k c v ?_ r) (λc r=>by rw[bh (f c b r)];show r) λc xs r=>by rw[bh (m c xs r)];show r
   rcases i with rfl|i
   .show a
   .rintro rfl
    rcases o with z|z
    .show f c b i z
    .rw[i]at z;ext z;show j W
end
structure Un(fs ex:I aT)(H H':Hp)(h h':Heap):Prop where
 keep:∀b o,h.get? b=G o->H b=CL->b∉fs->b∉ex->h'.get? b=G o
 slot:∀b o,h.get? b=G o->H b=CL->b∈fs->b∉ex->∃sl,h'.get? b=G {o with slots:=sl}free:∀b o,h.get? b=G o->H b=CL->b∉ex->H' b=CL
 there:∀b o,h.get? b=G o->b∉ex->∃o',h'.get? b=G o'
 agU:∀b xs,H b=G (.tup xs)->H' b=G (.tup xs)agB:∀b o u,H b=G (.frz o u)->H' b=G (.frz o u)agS:∀b ps,H b=G (.tbl ps)->∃more,H' b=G (.tbl (ps++more))
section
variable{h:Heap}{a:aT}
def Un.any(u:Un fs ex H H1 h h1)(q:h.get? b=G ob)(n:H b=CL)(e:b∉ex):∃c,h1.get? b=G {ob with slots:=c}:=by
 by_cases f:b∈fs
 .show u.slot b ob q n f e
 .show#[_,u.keep b ob q n f e]
def Un.kept(k:∀b u,h.get? b=G u->h'.get? b=G u):Un fs ex H H h h':=#[λb e q _ _ _=>k b e q,λb e q _ _ _=>#[_,k b e q],λ_ _ _ n _=>n,λb e q _=>#[e,k b e q],λ_ _ q=>q,λ_ _ _ q=>q,λ_ f q=>#[#v[],by simp_all]]
def Un.refl:Un fs ex H H h h:=Un.kept λ_ _ q=>q
def Un.laid(k:∀b u,h.get? b=G u->h'.get? b=G u)(e:h.objs.size<=a)(c:H a=CL):Un fs ex H (bW H a o) h h' where
 keep:=λb u q _ _ _=>k b u q
 slot:=λb u q _ _ _=>#[_,k b u q]
 free:=λb u q n _=>by rw[bh (iF (lr (br q) e))];show n
 there:=λb u q _=>#[u,k b u q]
 agU:=λb xs q=>by rw[bh (ci q c)];show q
 agB:=λb u xs q=>by rw[bh (ci q c)];show q
 agS:=λb f q=>#[#v[],by rw[bh (ci q c),q];rfl]
def Un.write(i:YO (H x))(p:e=x\/H e=G (.own x))(k:∀b u,b≠e->h.get? b=G u->h'.get? b=G u)(g:∃u,h'.get? e=G u):Un fs ex H (bW H x o) h h':=by
 let l:∀b,H b=CL->b≠x:=λb n z=>by subst z;rw[n]at i;show i
 let j:∀b,H b=CL->b≠e:=λb n z=>by simp_all
 let hm:∀b u,H b=G u->¬YO (G u)->b≠x:=λb u q m z=>by simp_all
 show#[λb u q n _ _=>k b u (j b n) q,λb u q n _ _=>#[_,k b u (j b n) q],λb u q n _=>by rw[bh (l b n)];show n,λb u q _=>?_,λb xs q=>by rw[bh (hm b _ q λz=>z)];show q,λb u xs q=>by rw[bh (hm b _ q λz=>z)];show q,λb r q=>#[#v[],by rw[bh (hm b _ q λz=>z),q];simp]]
 by_cases f:b=e
 .subst f;show g
 .show#[u,k b u f q]
end
def Dp(h:Heap)(H:Hp):I aT:=(eI h.objs.size).filter λa=>(H a).isSome
def HU(h:Heap)(H:Hp):Heap:=PySem.W.hideAll h (Dp h H)
def akE(h)(H):(HU h H).objs.size=h.objs.size:=PySem.W.hideAll_size _ _
def akX(e:h.get? b=G o)(n:H b=CL):(HU h H).get? b=G o:=PySem.W.hideAll_get _ e λhm=>by let q:=(n7.mp hm).2;rw[n]at q;simp at q
def OW(e:(HU h H).get? b=G o):h.get? b=G o/\H b=CL:=by let a:=PySem.W.of_hideAll _ e;show#[a,?_];cases q:H b with|none=>rfl|some x=>let hm:b∈Dp h H:=n7.mpr #[js.mpr (br a),by simp[q]];let z:(HU h H).get? b=CL:=PySem.W.hideAll_none _ hm;simp_all
structure Mod(K:lD)(mg:Str->bb a_)(base:Heap):Prop where
 kin:K.In base
 glob:base.Ns gE mg
 blt:∃mb,base.Ns builtinsNs mb/\∀x:Str,x≠"__name__"->mb x=ni x
 nolimit:base.NoLimit
structure Cx where
 prog:m4
 w:k?
 K:lD
 mg:Str->bb a_
 base:Heap
 A:m3
 N:I Str
 s₀:d_
 H₀:Hp
 env:Env
 outer:I Env
 stack:I Env
 ex:I aT
 fn:Str->Bool
 calm:Bool
 pn:I (aT×Obj)xe:a_->d_->Prop
def Bg(l:I Env):I aT:=l.filterMap (·.frame)
abbrev Cx.fs(X:Cx):I aT:=Bg X.outer
def Vis(sc:nS)(x:Str):Prop:=sc.names.lookup x=G .local\/sc.names.lookup x=G .cell\/sc.names.lookup x=G .free
def Ye(sc:nS)(x:Str):Prop:=sc.names.lookup x=G .local\/sc.names.lookup x=G .cell
def abz(env:Env)(h:Heap)(m:Str->bb a_)(x:Str)(u:a_):Prop:=(env.kindOf x=G .local/\m x=G u)\/((env.kindOf x=G .cell\/env.kindOf x=G .free)/\∃c,env.cells.lookup x=G c/\h.IsCell c (G u))
structure Cx.Ok(X:Cx):Prop where
 mod:Mod X.K X.mg X.base
 kind:X.env.scope.kind=.function
 glob:X.env.globals=gE
 blt:X.env.builtins=builtinsNs
 above:X.s₀.heap.objs.size<=X.env.locals
 inj:∀x y c,X.env.cells.lookup x=G c->X.env.cells.lookup y=G c->x=y
 has:∀x,(X.env.kindOf x=G .cell\/X.env.kindOf x=G .free)->∃c,X.env.cells.lookup x=G c
 cab:∀x c,X.fn x=u->X.env.cells.lookup x=G c->X.s₀.heap.objs.size<=c
 hd:X.calm=u->X.A.handled=CL
 frames:X.A.frames=G X.stack
 stk:X.stack=X.outer\/(X.stack=X.env::X.outer/\X.env.frame=G X.env.locals)exf:∀b∈X.ex,b≠X.env.locals/\∀x c,X.env.cells.lookup x=G c->c≠b
 bs:∀b o,X.base.get? b=G o->X.s₀.heap.get? b=G o/\X.H₀ b=CL
 bsz:X.base.objs.size<=X.s₀.heap.objs.size
 ahG:∀b o,X.base.get? b=G o->b∉X.ex
 ahH:∀b∈X.ex,b∉X.fs
 afw:X.s₀.heap.FunFrames X.base X.outer
 frf:∀b∈X.fs,X.H₀ b=CL
structure a!(X:Cx)(pins:I (aT×Obj))(σ:I (bb V))(H:Hp)(s:d_):Prop where
 ok:X.Ok
 os:s.os=X.s₀.os
 bare:AllBare s.gens
 base:Un X.fs X.ex X.H₀ H X.s₀.heap s.heap
 loc:∃m,s.heap.Ns X.env.locals m/\∀(i:Nat)(x:Str)(v:V),X.N[i]?=G x->σ[i]?=G (G v)->Vis X.env.scope x->∃u,b? v u/\abz X.env s.heap m x u
 cell:∀x c,X.env.cells.lookup x=G c->∃v,s.heap.IsCell c v
 free:H X.env.locals=CL
 aet:∀x c,X.env.cells.lookup x=G c->H c=CL
 pin:∀p∈X.pn++pins,s.heap.get? p.1=G p.2/\H p.1=CL/\p.1≠X.env.locals/\p.1∉X.fs/\∀v,p.2.data≠.cell v
 hok:jo X.prog X.w H s.heap
 len:σ.length=X.N.length
section
variable{X:Cx}
def Cx.Ok.arY(ok:X.Ok)(e:X.base.get? b=G o):b∉X.fs:=λa=>by let:=(ok.afw.mem a).1;simp_all
def a!.bs(I:a! X pins σ H s):∀b o,X.base.get? b=G o->s.heap.get? b=G o/\H b=CL:=λb o e=>#[I.base.keep b o (I.ok.bs b o e).1 (I.ok.bs b o e).2 (I.ok.arY e) (I.ok.ahG b o e),I.base.free b o (I.ok.bs b o e).1 (I.ok.bs b o e).2 (I.ok.ahG b o e)]
def a!.bk(I:a! X pins σ H s):∀b o,X.base.get? b=G o->s.heap.get? b=G o:=λb o e=>(I.bs b o e).1
def a!.mod(I:a! X pins σ H s):Mod X.K X.mg X.base:=I.ok.mod
def a!.kIn(I:a! X pins σ H s):X.K.In s.heap:=I.ok.mod.kin.keeps I.bk
def a!.lt(I:a! X pins σ H s):X.env.locals<s.heap.objs.size:=by let(_,a,_):=I.loc;show a.lt
def a!.sz(I:a! X pins σ H s):X.s₀.heap.objs.size<=s.heap.objs.size:=la I.ok.above (AS I.lt)
def a!.am6(I:a! X pins σ H s)(h:s.heap.objs.size<=a):a∉X.fs:=λe=>by let(_,o,b,_):=I.ok.afw.mem e;show a7 (lr (br b) (la I.sz h)) (qT _)
def a!.cne(I:a! X pins σ H s):∀x c,X.env.cells.lookup x=G c->c≠X.env.locals:=λx c e z=>by let(v,o,g,h):=I.cell x c e;let(m,(f,es,i,a,b,_),_):=I.loc;simp_all
def a!.afw(I:a! X pins σ H s):s.heap.FunFrames X.base X.outer:=by
 let all:∀(l:a8 Env),(∀b∈Bg l,b∈X.fs)->X.s₀.heap.FunFrames X.base l->s.heap.FunFrames X.base l:=by
  intro l
  induction l with|nil=>intro _ _;trivial|cons t r i=>intro h n;let(p,(L,o,a,v,m,q),j):=n;let g:=h L (by ext Bg;rw[RW,a];show eQ);let(u,e):=I.base.slot L o m (I.ok.frf L g) g λz=>I.ok.ahH L z g;show#[p,#[L,_,a,v,e,q],i (λb f=>h b (by ext Bg;rw[RW,a];show h_ _ f)) j]
 show all _ (λ_ f=>f) I.ok.afw
def a!.stack(I:a! X pins σ H s):s.heap.FunFrames X.base X.stack:=by
 rcases I.ok.stk with e|⟨e,hf⟩
 .rw[e];show I.afw
 .rw[e];let(m,a,_):=I.loc;show .cons (by rw[I.ok.kind];decide) hf a ?_ I.afw;show Heap.get?_none_of_le (la I.ok.bsz I.ok.above)
def a!.afU(I:a! X pins σ H s):∀b∈Bg X.stack,b∈X.env.locals::X.fs:=λb a=>by
 rcases I.ok.stk with e|⟨e,hf⟩
 .rw[e]at a;show h_ _ a
 .rw[e]at a;unfold Bg at a;rw[RW,hf]at a;show a
def a!.agi(I:a! X pins σ H s):∀b∈Bg X.stack,H b=CL:=λb a=>by
 rcases hX.mp (I.afU b a)with e|a
 .rw[e];show I.free
 .let(_,o,f,_):=I.ok.afw.mem a;show I.base.free b o f (I.ok.frf b a) λz=>I.ok.ahH b z a
def a!.step{ch:a8 _}(I:a! X pins σ H s)(g:∀b∈ch,(b∈X.ex\/X.s₀.heap.objs.size<=b)/\b≠X.env.locals/\(∀x c,X.env.cells.lookup x=cL c->c≠b)/\∀p∈X.pn++pins,p.1≠b)(keep:∀b o,b≠X.env.locals->b∉X.fs->b∉ch->s.heap.get? b=cL o->H b=CL->h'.get? b=cL o)(slot:∀b o,b≠X.env.locals->b∈X.fs->b∉ch->s.heap.get? b=cL o->H b=CL->∃O,h'.get? b=cL {o with slots:=O})(free:∀b o,b∉ch->s.heap.get? b=cL o->H b=CL->H' b=CL)(there:∀b o,b∉ch->s.heap.get? b=cL o->∃w,h'.get? b=cL w)(P:∀b xs,H b=cL (.tup xs)->H' b=cL (.tup xs))(R:∀b o u,H b=cL (.frz o u)->H' b=cL (.frz o u))(Q:∀b D,H b=cL (.tbl D)->∃more,H' b=cL (.tbl (D++more)))(ns:∀m,s.heap.Ns X.env.locals m->h'.Ns X.env.locals m)(hok:jo X.prog X.w H' h')(L:AllBare g'):a! X pins σ H' {s with heap:=h',gens:=g',drawn:=d',toks:=t'}:=by
 let A:∀b o,X.s₀.heap.get? b=cL o->b≠X.env.locals:=λb o e=>iF (lr (br e) I.ok.above);let j:∀b o,X.s₀.heap.get? b=cL o->b∉X.ex->b∉ch:=λb o e a t=>by
  rcases(g b t).1 with z|z
  .show a z
  .show a7 (lr (br e) z) (qT _)
 let h:∀x c,X.env.cells.lookup x=cL c->∀v,s.heap.IsCell c v->h'.IsCell c v:=λx c e v#[o,y,C]=>by
  let f:c∉ch:=λz=>(g c z).2.2.1 x c e W;by_cases G:c∈X.fs
  .let(O,q):=slot c o (I.cne x c e) G f y (I.aet x c e);show#[_,q,C]
  .show#[o,keep c o (I.cne x c e) G f y (I.aet x c e),C]
 show#[I.ok,I.os,L,#[λb o e n t a=>?_,λb o e n t a=>?_,λb o e n a=>?_,λb o e a=>?_,λb xs e=>P b xs (I.base.agU b xs e),λb o xs e=>R b o xs (I.base.agB b o xs e),λb D e=>?_],?_,λx c e=>?_,?_,λx c e=>?_,λp F=>?_,hok,I.len]
 .show keep b o (A b o e) t (j b o e a) (I.base.keep b o e n t a) (I.base.free b o e n a)
 .let(O,e1):=I.base.slot b o e n t a;let(B,e2):=slot b _ (A b o e) t (j b o e a) e1 (I.base.free b o e n a);show#[B,e2]
 .let(w,e1):=I.base.there b o e a;show free b w (j b o e a) e1 (I.base.free b o e n a)
 .let(w,e1):=I.base.there b o e a;show there b w (j b o e a) e1
 .let(N,e1):=I.base.agS b D e;let(M,e2):=Q b _ e1;show#[_,by rw[e2,Array.append_assoc]]
 .let(m,S,J):=I.loc
  show#[m,ns m S,λi x v e1 e2 e3=>?_];let(u,r,l):=J i x v e1 e2 e3;show#[u,r,?_];rcases l with l|⟨k,c,e,z⟩
  .show .inl l
  .show .inr #[k,c,e,h x c e _ z]
 .let(v,z):=I.cell x c e;show#[v,h x c e v z]
 .let(m,(o,_,_,y,_),_):=I.loc;show free _ o (λz=>(g _ z).2.1 W) y I.free
 .let(v,o,y,C):=I.cell x c e;show free c o (λz=>(g c z).2.2.1 x c e W) y (I.aet x c e)
 .let(e,n,ne,E,d):=I.pin p F;let f:p.1∉ch:=λz=>(g p.1 z).2.2.2 p F W;show#[keep p.1 p.2 ne E f e n,free p.1 p.2 f e n,ne,E,d]
def a!.un(I:a! X pins σ H s)(u:Un X.fs [] H H' s.heap h')(hok:jo X.prog X.w H' h'):a! X pins σ H' {s with heap:=h',toks:=t'}:=by let(m,(o,es,v,i,r),_):=id I.loc;let(p,l):=u.any i I.free ();show I.step (ch:=[]) (λ_ z=>nomatch z) (λb o _ f _ e n=>u.keep b o e n f ()) (λb o _ f _ e n=>u.slot b o e n f ()) (λb o _ e n=>u.free b o e n ()) (λb o _ e=>u.there b o e ()) u.agU u.agB u.agS (λt hm=>by let(q,g,h,a,j):=hm;rw[i]at a;injections;subst_vars;show#[_,g,h,l,j]) hok I.bare
def a!.call(I:a! X pins σ H s)(u:Un (Bg X.stack) ch H H' s.heap h')(hok:jo X.prog X.w H' h')(t:AllBare g')(f:∀b∈ch,(b∈X.ex\/X.s₀.heap.objs.size<=b)/\b≠X.env.locals/\(∀x c,X.env.cells.lookup x=G c->c≠b)/\∀p∈X.pn++pins,p.1≠b):a! X pins σ H' {s with heap:=h',gens:=g',drawn:=d',toks:=t'}:=by let(m,(o,es,C,l,r),_):=id I.loc;let(y,h):=u.any l I.free λz=>(f _ z).2.1 W;show I.step f (λb o h v a e n=>u.keep b o e n (λz=>(hX.mp (I.afU b z)).elim h v) a) (λb o _ _ a e n=>u.any e n a) (λb o a e n=>u.free b o e n a) (λb o a e=>u.there b o e a) u.agU u.agB u.agS (λB hm=>by let(A,i,j,g,q):=hm;rw[l]at g;injections;subst_vars;show#[_,i,j,h,q]) hok t
def a!.turned(I:a! X pins σ H s)(k:∀b o,b≠it->s.heap.get? b=G o->h'.get? b=G o)(d:H it=CL)(g:it≠X.env.locals)(t:it∈X.ex\/X.s₀.heap.objs.size<=it)(l:∀x c,X.env.cells.lookup x=G c->c≠it)(j:∀p∈X.pn++pins,p.1≠it):a! X pins σ H {s with heap:=h',toks:=t'}:=by
 let f:∀b u,H b=G u->b≠it:=λb u e z=>by rw[z,d]at e;ext e
 show I.step (ch:=[it]) (λb i=>?_) (λb o _ _ a e _=>k b o (λz=>a (by simp[z])) e) (λb o _ _ a e _=>#[_,k b o (λz=>a (by simp[z])) e]) (λ_ _ _ _ n=>n) (λb o a e=>#[o,k b o (λz=>a (by simp[z])) e]) (λ_ _ e=>e) (λ_ _ _ e=>e) (λb y e=>#[#v[],by rw[e];simp]) (λm hm=>?_) (λb u e=>?_) I.bare
 .let e:b=it:=by simpa using i
  subst e;show#[t,g,l,j]
 .let(o,es,w,h,r):=hm;show#[o,es,w,k _ o (cx g) h,r]
 .show(I.hok b u e).afT (λc v a q=>k c v ?_ q) (λ_ q=>q) λ_ _ q=>q
  rcases a with z|z
  .rw[z];show f b u e
  .show f c _ z
def a!.tok(I:a! X pins σ H s)(t):a! X pins σ H {s with toks:=t}:=I.un Un.refl I.hok
def a!.kept(I:a! X pins σ H s)(k:∀b u,s.heap.get? b=G u->h'.get? b=G u):a! X pins σ H {s with heap:=h',toks:=t'}:=I.un (Un.kept k) (I.hok.kept k)
def a!.laid{a:aT}(I:a! X pins σ H s)(k:∀b u,s.heap.get? b=G u->h'.get? b=G u)(e:s.heap.objs.size<=a)(new:eH X.prog X.w (bW H a o) h' a o):a! X pins σ (bW H a o) {s with heap:=h',toks:=t'}:=I.un (Un.laid k e (I.hok.fresh e)) (I.hok.laid k e new)
def a!.write(I:a! X pins σ H s)(f:YO (H x))(g:e=x\/H e=G (.own x))(k:∀b u,b≠e->s.heap.get? b=G u->h'.get? b=G u)(a:∃u,h'.get? e=G u)(new:eH X.prog X.w (bW H x o) h' x o):a! X pins σ (bW H x o) {s with heap:=h',toks:=t'}:=I.un (Un.write f g k a) (I.hok.write f g k a new)
def a!.afG(I:a! X pins σ H s)(h:∀p∈anf,s.heap.get? p.1=G p.2/\H p.1=CL/\p.1≠X.env.locals/\p.1∉X.fs/\∀v,p.2.data≠.cell v):a! X anf σ H s:=#[I.ok,I.os,I.bare,I.base,I.loc,I.cell,I.free,I.aet,λp a=>(m?.mp a).elim (λz=>I.pin p (rR _ z)) (h p),I.hok,I.len]
def BC{N:I Str}(e:N.Nodup){j:Nat}(a:N[i]?=G x)(b:N[j]?=G x):i=j:=by let(g,e1):=f_.mp a;let(f,e2):=f_.mp b;show(List.getElem_inj e).mp (e1.trans e2.symm)
def yH(I:a! X pins σ H s)(V:X.N.Nodup)(D:X.N[i]?=G x)(w:Ye X.env.scope x)(r:b? v g)(h:∀F,a! X pins (σ.set i (G v)) H F->(∃a,Heap.SameBut a s.heap F.heap/\(a=X.env.locals\/X.env.cells.lookup x=G a))->Q ⟨⟩ F)(hf:X.fn x=Ld\/X.env.scope.names.lookup x=G .local:=by first|show .inl W|show .inr W|assumption):wpAny f A (storeName X.env x g) Q E s:=by
 let(m,hn,hl):=id I.loc;let apy:(X.env.scope.kind==.class||(X.env.scope.kind==.module&&X.env.locals !=X.env.globals))=fg:=by rw[I.ok.kind];rfl
 let C:i<σ.length:=by rw[I.len];show(f_.mp D).1
 let cne:=I.cne;let tracked:∀{a:aT}{P:Heap},(∃o,s.heap.get? a=G o/\H a=CL)->Heap.SameBut a _ P->jo _ X.w H P:=λ{a P}ha l b ob e=>by
  let(_,_,R):=ha;show(I.hok b ob e).afT (λc S t q=>(l.2 c ?_).trans q) (λ_ q=>q) λ_ _ q=>q;rintro rfl;rcases t with rfl|t
  .rw[R]at e;ext e
  .rw[R]at t;ext t
 rcases w with B|B
 .show wpAny_storeName_local B hn (λP hn' l=>?_) apy
  let(oL,_,_,hoL,_):=id hn;show h _ #[I.ok,I.os,I.bare,#[λb o e n L w=>?_,λb o e n L w=>?_,I.base.free,λb o e w=>?_,I.base.agU,I.base.agB,I.base.agS],#[_,hn',λj y U e1 e2 e3=>?_],λy c e=>?_,I.free,I.aet,λp hp=>?_,tracked #[oL,hoL,I.free] l,by simpa using I.len] #[_,l,.inl W]
  .show(l.2 b (iF (lr (br e) I.ok.above))).trans (I.base.keep b o e n L w)
  .let(Z,e1):=I.base.slot b o e n L w;show#[Z,(l.2 b (iF (lr (br e) I.ok.above))).trans e1]
  .let(o',e1):=I.base.there b o e w;show#[o',(l.2 b (iF (lr (br e) I.ok.above))).trans e1]
  .by_cases hj:j=i
   .subst hj;rw[D]at e1;ext e1;rw[I! C]at e2;ext e2;show#[g,r,.inl #[B,by simp]]
   .rw[R_ (cx hj)]at e2
    let(Y,r',q):=hl j y U e1 e2 e3;show#[Y,r',?_];rcases q with⟨k,e⟩|⟨k,c,e,z⟩
    .show .inl #[k,?_];let:y≠x:=λe=>hj (BC V e1 (e▸D));simp[this,e]
    .show .inr #[k,c,e,z.sameBut l (cne y c e)]
  .let(S,z):=I.cell y c e;show#[S,z.sameBut l (cne y c e)]
  .let(e,n,ne,nf,d):=I.pin p hp;show#[(l.2 p.1 ne).trans e,n,ne,nf,d]
 .let J:X.fn x=Ld:=by
   rcases hf with z|z
   .show z
   .rw[z]at B;ext B
  let(c,t):=I.ok.has x (.inl B);let(S,z):=I.cell x c t;show wpAny_storeName_cell I.ok.kind B t z (λP O l=>?_);let(oc,N,arH):=id z;show h _ #[I.ok,I.os,I.bare,#[λb o e n L w=>?_,λb o e n L w=>?_,I.base.free,λb o e w=>?_,I.base.agU,I.base.agB,I.base.agS],#[m,hn.sameBut l (cx (cne x c t)),λj y U e1 e2 e3=>?_],λy T e=>?_,I.free,I.aet,λp hp=>?_,tracked #[oc,N,I.aet x c t] l,by simpa using I.len] #[c,l,.inr t]
  .show(l.2 b (iF (lr (br e) (I.ok.cab x c J t)))).trans (I.base.keep b o e n L w)
  .let(Z,e1):=I.base.slot b o e n L w;show#[Z,(l.2 b (iF (lr (br e) (I.ok.cab x c J t)))).trans e1]
  .let(o',e1):=I.base.there b o e w;show#[o',(l.2 b (iF (lr (br e) (I.ok.cab x c J t)))).trans e1]
  .by_cases hj:j=i
   .subst hj;rw[D]at e1;ext e1;rw[I! C]at e2;ext e2;show#[g,r,.inr #[.inl B,c,t,O]]
   .rw[R_ (cx hj)]at e2
    let(Y,r',q):=hl j y U e1 e2 e3;show#[Y,r',?_];rcases q with q|⟨k,T,e,z'⟩
    .show .inl q
    .show .inr #[k,T,e,z'.sameBut l ?_];rintro rfl;show hj (BC V e1 (I.ok.inj _ _ _ e t▸D))
  .by_cases hcc:T=c
   .subst hcc;show#[_,O]
   .let(w2,z2):=I.cell y T e;show#[w2,z2.sameBut l hcc]
  .let(e,n,ne,nf,d):=I.pin p hp;show#[(l.2 p.1 ?_).trans e,n,ne,nf,d];intro q;rw[q,N]at e;let q':oc=p.2:=lp e;show d S (by rw[<-q'];show arH)
def BB(I:a! X pins σ H s)(f:X.N.Nodup)(e:X.N[i]?=G x)(d:Ye X.env.scope x)(r:b? v b)(h:∀c,a! X pins (σ.set i (G v)) H c->Q ⟨⟩ c)(hf:X.fn x=Ld\/X.env.scope.names.lookup x=G .local:=by first|show .inl W|show .inr W|assumption):wpAny a A (storeName X.env x b) Q E s:=yH I f e d r (λc g _=>h c g) hf
def a!.ajK(I:a! X pins σ H s)(g:s'.os=s.os)(u:Un (Bg X.stack) ch H H' s.heap s'.heap)(hok:jo X.prog X.w H' s'.heap)(h:AllBare s'.gens)(a:∀b∈ch,(b∈X.ex\/X.s₀.heap.objs.size<=b)/\b≠X.env.locals/\(∀x c,X.env.cells.lookup x=G c->c≠b)/\∀p∈X.pn++pins,p.1≠b):a! X pins σ H' s':=by let(j,l,m,i,f):=s';let e:f=s.os:=g;subst e;show I.call u hok h a
end
abbrev XK:=a_->bb aT->Hp->Prop
abbrev St:=I (bb V)
abbrev VK:=V->Hp->Prop
abbrev TE:=St->Hp->VK->Prop
abbrev TT:=St->Hp->(Bool->Hp->Prop)->Prop
abbrev TA:=St->Hp->(I V->Hp->Prop)->Prop
structure Ends where
 nx:St->Hp->Prop
 rt:VK
 bk:St->Hp->Prop:=λ_ _=>False
 ct:St->Hp->Prop:=λ_ _=>False
abbrev TS:=Ends->St->Hp->Prop
def EP(X:Cx)(a:I (aT×Obj))(b:St)(Q:VK)(u:a_)(e:d_):Prop:=∃v f,a! X a b f e/\b? v u/\Q v f
def TP(X:Cx)(a:I (aT×Obj))(e:St)(Q:Bool->Hp->Prop)(b:Bool)(f:d_):Prop:=∃g,a! X a e g f/\Q b g
def aaS(X:Cx)(a:I (aT×Obj))(b:St)(Q:I V->Hp->Prop)(e:I a_)(f:d_):Prop:=∃g h,a! X a b h f/\b_ g e/\Q g h
def SP(X:Cx)(a:I (aT×Obj))(D:Ends)(f:Flow)(b:d_):Prop:=match f with |.next=>∃g h,a! X a g h b/\D.nx g h|.brk=>∃g h,a! X a g h b/\D.bk g h|.cont=>∃g h,a! X a g h b/\D.ct g h|.ret e=>∃v g h,a! X a g h b/\b? v e/\D.rt v h
def PE(X:Cx)(e:c_)(t:TE):Prop:=∀(a:I (aT×Obj))(s:d_)(b:St)(H:Hp)(Q:VK),a! X a b H s->t b H Q->wpAny (model X.prog X.w) X.A (eval e X.env) (EP X a b Q) X.xe s
def PT(X:Cx)(e:c_)(t:TT):Prop:=∀(a:I (aT×Obj))(s:d_)(b:St)(H:Hp)(Q:Bool->Hp->Prop),a! X a b H s->t b H Q->wpAny (model X.prog X.w) X.A (isTrue e X.env (eval e X.env)) (TP X a b Q) X.xe s
def PW(X:Cx)(e:c_)(t:TT):Prop:=∀(b:Sem a_)(a:I (aT×Obj))(s:d_)(f:St)(H:Hp)(Q:Bool->Hp->Prop),a! X a f H s->t f H Q->wpAny (model X.prog X.w) X.A (isTrue e X.env b) (TP X a f Q) X.xe s
def PW.pt(h:PW X e t):PT X e t:=h _
def PA(X:Cx)(es:I c_)(t:TA):Prop:=∀(e:Pos)(a:I (aT×Obj))(s:d_)(b:St)(H:Hp)(Q:I V->Hp->Prop),a! X a b H s->t b H Q->wpAny (model X.prog X.w) X.A (spliced (backTo e (e_ es X.env))) (aaS X a b Q) X.xe s
def PS(X:Cx)(st:kl)(t:TS):Prop:=∀(a:I (aT×Obj))(s:d_)(b:St)(H:Hp)(D:Ends),a! X a b H s->t D b H->wpAny (model X.prog X.w) X.A (exec st X.env) (SP X a D) X.xe s
def nh(X:Cx)(st:I kl)(t:TS):Prop:=∀(a:I (aT×Obj))(s:d_)(b:St)(H:Hp)(D:Ends),a! X a b H s->t D b H->wpAny (model X.prog X.w) X.A (execs st X.env) (SP X a D) X.xe s
def de{t:Sem α}{Q:α->d_->Prop}(h:wpAny e A t Q E s)(b:∀a s,Q a s->o a s):wpAny e A t o E s:=wpAny_mono h b λ_ _ x=>x
section
variable{X:Cx}
def uo(i:Nat):TE:=λa H Q=>∃v,a[i]?=G (G v)/\Q v H
def tC(v:V):TE:=λ_ H Q=>Q v H
def Ka(t:X.N[i]?=G x)(p:Vis X.env.scope x)(hd:(x==("__debug__"))=M:=by decide)(j:(x==("__classdict__"))=M:=by decide):PE X (.Name x pos) (uo i):=by
 intro f s o H Q I h;let(v,e,h):=h;let(m,w,q):=I.loc;let(u,r,l):=q i x v t e p;let b:EP X f o Q u s:=#[v,H,I,r,h];rcases l with⟨a,hm⟩|⟨a,c,n,g⟩
 .show AM (wpAny_loadName_local I.ok.kind a w hm b) hd
 .rcases a with a|a
  .show AM (wpAny_loadName_cell I.ok.kind a n g b) hd
  .show AM (wpAny_loadName_free I.ok.kind a n g b j) hd
def rA:PE X (.Constant (.int i) j pos) (tC (.int i)):=λ_ _ _ H _ I h=>BV #[.int i,H,I.tok _,#[_,W],h]
def OB:PE X (.Constant (.bool b) j pos) (tC (.bl b)):=λ_ _ _ H _ I h=>Constant_bool #[.bl b,H,I,W,h]
def V9:PE X (.Constant .none j pos) (tC .non):=λ_ _ _ H _ I h=>Constant_none #[.non,H,I,W,h]
def JM:PE X (.Constant (.str x) j pos) (tC (.str x)):=λ_ _ _ H _ I h=>Calls.Constant_str #[.str x,H,I.tok _,#[_,W],h]
def Gl(X:Cx)(x:Str):Prop:=X.env.kindOf x=G .globalImplicit
def pG(I:a! X pins σ H s)(a:Gl X x)(hm:X.mg x=G b)(h:Q b s)(hd:(x==("__debug__"))=M:=by decide):wpAny (model X.prog X.w) X.A (eval (.Name x pos) X.env) Q E s:=Calls.Name_function_global I.ok.kind a (Calls.loadGlobal_global (by rw[I.ok.glob];show I.mod.glob.keeps I.bk) hm h) hd
def qQ(I:a! X pins σ H s)(b:Gl X x)(hm:X.mg x=CL)(a:ni x=G i)(h:Q i s)(c:x≠"__name__":=by decide)(hd:(x==("__debug__"))=M:=by decide):wpAny (model X.prog X.w) X.A (eval (.Name x pos) X.env) Q E s:=by let(g,f,e):=I.mod.blt;show Calls.Name_function_global I.ok.kind b (Calls.loadGlobal_builtin (by rw[I.ok.glob];show I.mod.glob.keeps I.bk) hm (by rw[I.ok.blt];show f.keeps I.bk) ((e x c).trans a) h) hd
def So(a:Gl X x)(hm:X.mg x=G b)(r:b? v b)(hd:(x==("__debug__"))=M:=by decide):PE X (.Name x pos) (tC v):=λ_ _ _ H _ I h=>pG I a hm #[v,H,I,r,h] hd
variable{a b:c_}{U Y:TE}{Z:Pos}
def PC(X:Cx)(op:CmpOp)(a b:c_)(t:TE):Prop:=∀(e:I (aT×Obj))(s:d_)(h:St)(H:Hp)(Q:VK),a! X e h H s->t h H Q->wpAny (model X.prog X.w) X.A (eval a X.env) (λv g=>wpAny (model X.prog X.w) X.A (eval b X.env) (λu f=>wpAny (model X.prog X.w) X.A (m6 op v u) (EP X e h Q) X.xe f) X.xe g) X.xe s
def tB(t:TE):TT:=λe H Q=>t e H λx f=>∃c,x=.bl c/\Q c f
def XY(h:PC X op a b t)(i:behindInMarks op b=M:=by first|show o _ _ _|rfl):PE X (.Compare a [op] [b] Z) t:=λe s f H Q I g=>HY (h e s f H Q I g) i
def X5(h:PC X op a b t)(f:behindInMarks op b=M:=by first|show C _ _ _|rfl):PT X (.Compare a [op] [b] Z) (tB t):=by
 intro e s g H Q I j;show J6 (de (h e s g H _ I j) λv r f=>de f λu p l=>de l λc o a=>?_) f;let(x,n,m,w,i):=a;let(d,0,q):=i
 injections;subst_vars
 show t? #[n,m,q]
def WK(h:PE X e t)(l:∀whole,isTrue e X.env whole=(do let v<-whole;standAt e.pos;holding [v] (truthy v)):=by intro _;rfl):PT X e (tB t):=by
 intro f s g H Q I j;show isTrue_plain (de (h f s g H _ I j) λv o#[x,n,m,p,i]=>?_) (l _);let(d,0,q):=i
 injections;subst_vars
 show t? #[n,m,q]
variable{T:a8 c_}
def Vv(t u:TT):TT:=λe H Q=>t e H λc f=>if c=Ld then u e f Q else Q M f
def YP(t u:TT):TT:=λe H Q=>t e H λc f=>if c=Ld then Q Ld f else u e f Q
def Pf(t:TT):TT:=λe H Q=>t e H λc f=>Q (!c) f
def Fj(d:PT X a o):PW X (.BoolOp .And [a] Z) o:=by intro i f s g H Q I h;show isTrue_and (de (d f s g H Q I h) λc j e=>?_);cases c with|true=>show isTrue_and_nil e|false=>show e
def Mo(d:PT X a o):PW X (.BoolOp .Or [a] Z) o:=by intro i f s g H Q I h;show isTrue_or (de (d f s g H Q I h) λc j e=>?_);cases c with|false=>show isTrue_or_nil e|true=>show e
def NZ(d:PT X a C)(n:PW X (.BoolOp .And (b::T) Z) o):PW X (.BoolOp .And (a::b::T) Z) (Vv C o):=by intro l e s f H Q I h;show isTrue_and (de (d e s f H _ I h) λc m a=>?_);let(j,i,g):=a;cases c with|true=>show n l e m f j Q i g|false=>show#[j,i,g]
def T7(d:PT X a C)(n:PW X (.BoolOp .Or (b::T) Z) o):PW X (.BoolOp .Or (a::b::T) Z) (YP C o):=by intro l e s f H Q I h;show isTrue_or (de (d e s f H _ I h) λc m a=>?_);let(j,i,g):=a;cases c with|true=>show#[j,i,g]|false=>show n l e m f j Q i g
def WA(c:PT X a o):PT X (.UnaryOp .Not a Z) (Pf o):=by intro e s f H Q I h;show isTrue_not (c e s f H _ I h)
def NJ(U Y:TE):TE:=λe H Q=>U e H λx f=>∃c,x=.bl c/\if c=u then Y e f Q else Q (.bl M) f
def WT(h:PE X a t):PE X (.BoolOp op [a] Z) t:=λe s f H Q I g=>BoolOp_one (h e s f H Q I g)
def KJ(d:PE X a U)(m:PE X (.BoolOp .And (b::T) Z) Y):PE X (.BoolOp .And (a::b::T) Z) (NJ U Y):=by
 intro e s g H Q I h;show BoolOp_and (de (d e s g H _ I h) λv l a=>?_);let(x,j,i,n,f):=a;let(c,0,f):=f
 injections;subst_vars
 show t? ?_;cases c with|true=>show m e l g j Q i f|false=>show#[.bl _,j,i,W,f]
def Zz(t:TT)(U Y:TE):TE:=λe H Q=>t e H λc f=>if c=u then U e f Q else Y e f Q
def Oy(m:PT X c o)(k:PE X a U)(n:PE X b Y):PE X (.IfExp c a b Z) (Zz o U Y):=by intro e s f H Q I h;show wpAny_IfExp (de (m e s f H _ I h) λd g a=>?_);let(l,j,i):=a;cases d with|true=>show k e g f l Q j i|false=>show n e g f l Q j i
end
def hL(K:lD)(H:Hp)(a:aT)(xs:I V):Prop:=Rd H a (.lst xs)\/∃(o:Obj)(b:Array a_)(n:Nat),K.lookup a=G o/\o.cls=.type "list"/\o.dict=CL/\o.data=.seq b n/\b.size<=eg/\b_ xs b.toList
def hY(K:lD)(H:Hp)(a:aT)(xs:I V):Prop:=Rd H a (.tup xs)\/∃(o:Obj)(b:Array a_)(n:Nat),K.lookup a=G o/\(o.cls=.type "tuple"/\o.dict=CL)/\o.data=.seq b n/\b.size<=eg/\b_ xs b.toList
def aa1:a_->bb V |.none=>G .non|.bool b=>G (.bl b)|.int i _=>G (.int i)|.str x _=>G (.str x)|.bytes b _=>G (.byt b)|.float b _=>G (.flt b)|.ref a=>G (.ref a)|.type n=>G (.ty n)|_=>CL
def b?.abs(r:b? x a):aa1 a=G x:=by cases x with|non|bl _|ref _|ty _=>subst r;rfl|int _|str _|byt _|flt _=>let(t,0):=r;rfl
def b?.inj(r:b? x a)(q:b? y a):x=y:=lp (r.abs.symm.trans q.abs)
theorem b_.inj:∀{xs a:I V}{b:I a_},b_ xs b->b_ a b->xs=a|_,_,_,.nil,.nil=>rfl|_,_,_,.cons r t,.cons f e=>by rw[r.inj f,b_.inj t e]
section
variable{X:Cx}{Z:a8 (aT×Obj)}{Y:St}{H:Hp}{s:d_}{a:aT}
def hL.of{K:lD}(h:H a=G (.lst xs)):hL K H a xs:=.inl (.inl h)
def hY.of{K:lD}(h:H a=G (.tup xs)):hY K H a xs:=.inl (.inl h)
def a!.list(I:a! X Z Y H s)(h:hL X.K H a xs):∃b,b_ xs b/\PlainL s.heap a b.toArray/\xs.length<=eg:=by
 rcases h with h|⟨o,b,n,g,i,hd,f,j,r⟩
 .let(z,b,n,r,e):=h.ok I.hok;show#[b,r,#[_,n,e,W,W,W],z]
 .show#[_,r,#[o,n,I.kIn a o g,i,hd,by simpa using f],?_];let e:=r.length;simp_all
def a!.tuple(I:a! X Z Y H s)(h:hY X.K H a xs):∃b,b_ xs b/\IsTup s.heap a b.toArray/\xs.length<=eg:=by
 rcases h with h|⟨o,b,n,g,i,f,j,r⟩
 .let(z,b,r,p):=h.ok I.hok;show#[b,r,p.tup,z]
 .show#[_,r,#[o,I.kIn a o g,i.1,n,by simpa using f],?_];let e:=r.length;simp_all
def a!.alq(I:a! X Z Y H s)(h:hY X.K H a xs):∃b,b_ xs b/\qf s.heap a b.toArray/\xs.length<=eg:=by
 rcases h with h|⟨o,b,n,i,f,g,j,r⟩
 .let(z,b,r,p):=h.ok I.hok;show#[b,r,p,z]
 .show#[_,r,#[o,I.kIn a o i,#[f.1,n,by simpa using g],f.2],?_];let e:=r.length;simp_all
def a!.ahN(I:a! X Z Y H s)(h:hL X.K H a xs)(c:hL X.K H a ys):xs=ys:=by
 let(b,r,(o,n,e,_,_,d),_):=I.list h;let(f,i,(l,m,j,_,_,g),_):=I.list c;rw[e]at j;injections;subst_vars;rw[d]at g;injection g with d1 _;let:b=f:=by simpa using dt Iu d1
 subst this;show r.inj i
def a!.aiO(I:a! X Z Y H s)(h:hY X.K H a xs)(c:hY X.K H a ys):xs=ys:=by
 let(b,r,(o,e,_,n,d),_):=I.tuple h;let(f,i,(l,j,_,m,g),_):=I.tuple c;rw[e]at j;injections;subst_vars;rw[d]at g;injection g with d1 _;let:b=f:=by simpa using dt Iu d1
 subst this;show r.inj i
end
abbrev Cx.afd(X:Cx)(E:a_->d_->Prop):Cx:={X with xe:=E}
abbrev Cx.nox(X:Cx):Cx:=X.afd λ_ _=>False
def Cx.Ok.afd{X:Cx}(ok:X.Ok)(E):(X.afd E).Ok:=#[ok.mod,ok.kind,ok.glob,ok.blt,ok.above,ok.inj,ok.has,ok.cab,ok.hd,ok.frames,ok.stk,ok.exf,ok.bs,ok.bsz,ok.ahG,ok.ahH,ok.afw,ok.frf]
def Cx.Ok.aeu{X:Cx}(ok:(X.afd E).Ok):X.Ok:=#[ok.mod,ok.kind,ok.glob,ok.blt,ok.above,ok.inj,ok.has,ok.cab,ok.hd,ok.frames,ok.stk,ok.exf,ok.bs,ok.bsz,ok.ahG,ok.ahH,ok.afw,ok.frf]
section
variable{Z:St}
def a!.afd(I:a! X pins Z H s)(E):a! (X.afd E) pins Z H s:=#[I.ok.afd E,I.os,I.bare,I.base,I.loc,I.cell,I.free,I.aet,I.pin,I.hok,I.len]
def a!.aeu(I:a! (X.afd E) pins Z H s):a! X pins Z H s:=#[I.ok.aeu,I.os,I.bare,I.base,I.loc,I.cell,I.free,I.aet,I.pin,I.hok,I.len]
def SP.aeu(h:SP (X.afd E) pins D f s'):SP X pins D f s':=by cases f with|next|brk|cont=>let(a,b,I,q):=h;show#[a,b,I.aeu,q]|ret u=>let(v,a,b,I,r,q):=h;show#[v,a,b,I.aeu,r,q]
def nh.nox{st:a8 _}(h:nh X.nox st t):nh X st t:=λa s Z H D I b=>wpAny_mono (h a s Z H D (I.afd _) b) (λ_ _ q=>q.aeu) λ_ _ z=>False.elim z
end
section
variable{X:Cx}{T:kl}{U:a8 kl}{t u:TS}{e:c_}{Y:TE}{Z:Pos}
def JF:TS:=λD a H=>D.nx a H
def JT(t u:TS):TS:=λD a H=>t {D with nx:=u D} a H
def GR:nh X [] JF:=λ_ _ a H _ I h=>ID #[a,H,I,h]
def we(l:PS X T t)(j:nh X U u):nh X (T::U) (JT t u):=by intro a s g H D I h;show IS (de (l a s g H _ I h) λf i q=>?_);cases f with|next=>let(b,n,m,q):=q;show j a i b n D m q|ret v|brk|cont=>show q
def uW(g:PS X T t):nh X [T] t:=by intro a s b H D I h;show IS (de (g a s b H D I h) λf i q=>?_);cases f with|next=>show ID q|ret v|brk|cont=>show q
def a!.quiet{a:a8 (aT×Obj)}{b:St}{H:Hp}{s:d_}(I:a! X a b H s):interactive X.env=M:=by simp[interactive,I.ok.kind]
def Bu(Y:TE):TS:=λD a H=>Y a H λ_ b=>D.nx a b
def G5(i:PE X e Y)(g:ro e CL Z.line X.env=pure M:=by rfl):PS X (.Expr e Z) (Bu Y):=by intro a s b H D I h;show wpAny_Expr_any (de (i a s b H _ I h) λv m a=>by let(x,l,j,n,f):=a;show#[b,l,j,f]) I.quiet g
def RO(Y:TE):TS:=λD a H=>Y a H D.rt
def D5(i:PE X e Y):PS X (.Return (G e) Z) (RO Y):=by intro a s b H D I h;show wpAny_Return_some (de (i a s b H _ I h) λv m a=>by let(x,l,j,f,g):=a;show#[x,b,l,j,f,g])
def Uh:TS:=λD _ H=>D.rt .non H
def P1:PS X (.Return CL Z) Uh:=λ_ _ a H _ I h=>wpAny_Return_none #[.non,a,H,I,W,h]
def QS(c:TT)(t u:TS):TS:=λD a H=>c a H λb f=>if b=Ld then t D a f else u D a f
def aar(n:PT X c C)(k:nh X a t)(o:nh X b u):PS X (.If c a b Z) (QS C t u):=by intro f s g H D I h;show wpAny_If (de (n f s g H _ I h) λd i a=>?_);let(m,l,j):=a;cases d with|true=>show k f i g m D l j|false=>show o f i g m D l j
def Ec:TS:=λ_ _ _=>False
def Co:PS X T Ec:=λ_ _ _ _ _ _ h=>h.elim
end
abbrev TG:=V->St->Hp->(St->Hp->Prop)->Prop
abbrev ON:=I V->St->Hp->(St->Hp->Prop)->Prop
def PG(X:Cx)(a:c_)(t:TG):Prop:=∀(b:I (aT×Obj))(s:d_)(e:St)(H:Hp)(v:V)(u:a_)(Q:St->Hp->Prop),a! X b e H s->b? v u->t v e H Q->wpAny (model X.prog X.w) X.A (assign a X.env u) (λ_ f=>∃g h,a! X b g h f/\Q g h) X.xe s
def ZT(X:Cx)(f:I c_)(t:ON):Prop:=∀(a:I (aT×Obj))(s:d_)(b:St)(H:Hp)(i:I V)(e:I a_)(Q:St->Hp->Prop),a! X a b H s->b_ i e->t i b H Q->wpAny (model X.prog X.w) X.A (assignInOrder ((assignEach f X.env).map (·.2)) e) (λ_ g=>∃h j,a! X a h j g/\Q h j) X.xe s
abbrev YD:=V->V->V->Hp->(Hp->Prop)->Prop
def YX(X:Cx)(t:YD):Prop:=∀(a:I (aT×Obj))(s:d_)(b:St)(H:Hp)(o i v:V)(e f u:a_)(Q:Hp->Prop),a! X a b H s->b? o e->b? i f->b? v u->t o i v H Q->wpAny (model X.prog X.w) X.A (setItem e f u) (λ_ g=>∃h,a! X a b h g/\Q h) X.xe s
abbrev TIp:=V->V->Hp->VK->Prop
def PIp(X:Cx)(op:VE)(t:TIp):Prop:=∀(a:I (aT×Obj))(s:d_)(b:St)(H:Hp)(x y:V)(v u:a_)(Q:VK),a! X a b H s->b? x v->b? y u->t x y H Q->wpAny (model X.prog X.w) X.A (inplaceOp op v u) (EP X a b Q) X.xe s
section
variable{Z:Pos}
def rS(i:Nat):TG:=λv a H Q=>Q (a.set i (G v)) H
def RH(c:X.N.Nodup)(b:X.N[i]?=G x)(a:Ye X.env.scope x)(hf:X.fn x=Ld\/X.env.scope.names.lookup x=G .local:=by first|show .inl W|show .inr W|assumption):PG X (.Name x Z) (rS i):=by intro pins s σ H v u Q I r h;show Ia (BB I c b a r (λf e=>#[_,H,e,h]) hf)
def PB:ON:=λb a H Q=>b=[]/\Q a H
def Fp(t:TG)(u:ON):ON:=λf b H Q=>∃v r,f=v::r/\t v b H λa e=>u r a e Q
def PF:ZT X [] PB:=by intro a s b H g f Q I r h;let(e,h):=h;subst e;show assignInOrder_nil #[b,H,I,h]
def Mb(n:PG X e t)(m:ZT X es y)(l:(assignEach (e::es) X.env).map (·.2)=assign e X.env::(assignEach es X.env).map (·.2):=by rfl):ZT X (e::es) (Fp t y):=by intro a s f H z w Q I r h;let(v,q,e1,h):=h;subst e1;cases r with|cons r i=>rw[l];show assignInOrder_cons (de (n a s f H _ _ _ I r h) λ_ g a=>?_);let(b,p,o,j):=a;show m a g b p _ _ Q o i j
def QU(K:lD)(n:Nat)(t:ON):TG:=λv b H Q=>∃a xs,v=.ref a/\hY K H a xs/\xs.length=n/\t xs b H Q
def WW(w:X.calm=Ld)(h:ZT X es t)(c:(assignEach es X.env).length=n:=by rfl)(gr:(assignEach es X.env).findIdx? (·.1)=CL:=by rfl):PG X (.Tuple es k Z) (QU X.K n t):=by intro f s i H v u Q I r g;let(a,xs,e1,p,q,g):=g;subst e1;ext r;let(j,B,m,z):=I.tuple p;show assign_Tuple_tuple (I.ok.hd w) m (by simp[c,<-q,B.length]) gr λA l=>?_;let y:=I.kept (t':=s.toks) λb o e=>l b o (iF (br e)) e;show h f _ i H xs _ Q y (by simpa using B) g
def YR(to c:TE)(t:YD):TG:=λv a H Q=>to a H λo f=>c a f λi e=>t o i v e λb=>Q a b
def UA(q:PE X o to)(c:PE X i ti)(p:YX X t)(d:∀v,assign (.Subscript o i Z) X.env v=(do
   let J<-holding [v] (eval o X.env)let U<-holding [v,J] (eval i X.env)standAt Z
   holding [v,J,U] (setItem J U v)release [v,J,U] []):=by intro _;rfl):PG X (.Subscript o i Z) (YR to ti t):=by intro a s b H v u Q I r h;rw[d];show bY (qi (de (q a s b H _ I h) λJ f a=>?_));let(x,E,A,j,n):=a;show bY (qi (de (c a f b E _ A n) λU e a=>?_));let(y,C,z,g,m):=a;show bY (age (bY (qi (de (p a e b C x y v J U u _ z j g r m) λ_ F a=>?_))));let(B,w,l):=a;show wpAny_release #[b,B,w,l]
def Ai(b:TE)(g:TG):TS:=λD a H=>b a H λx e=>g x a e D.nx
def L8(o:PE X e J)(n:PG X C g)(m:swapsWithSole [C] e Z.line X.env=pure M:=by rfl)(l:swappedStores [C] e X.env=pure CL:=by rfl)(p:(assignEach [C] X.env).map (·.2)=[assign C X.env]:=by rfl):PS X (.Assign [C] e Z) (Ai J g):=by intro a s b H D I h;show wpAny_Assign_stores (de (o a s b H _ I h) λv f a=>?_) m l;let(x,t,r,i,j):=a;rw[p];show de (n a f b t x v _ r i j) λ_ u q=>q
def EU(g:X.N.Nodup)(f:X.N[i]?=G x)(c:Ye X.env.scope x)(he:PE X e o)(d:ro e (G (.Name x pos')) Z.line X.env=pure M:=by rfl)(hf:X.fn x=u\/X.env.scope.names.lookup x=G .local:=by first|show .inl W|show .inr W|assumption):PS X (.Assign [.Name x pos'] e Z) (Ai o (rS i)):=by intro pins s σ H D I h;show wpAny_Assign_Name (de (he pins s σ H _ I h) λv s1 a=>?_) d;let(y,H1,l,a,b):=a;show BB l g f c a (λs2 j=>#[_,H1,j,b]) hf
end
section
def KF(c:TT)(d:TS):TS:=λD a H=>∃W:Nat->St->Hp->Prop,(∃m,W m a H)/\∀m a H,W m a H->c a H λb e=>if b=u then∃N:St->Hp->Prop,(∀f h,N f h->∃g,g<m/\W g f h)/\d {D with nx:=N,ct:=N,bk:=D.nx} a e else D.nx a e
def alB(r:G_ (model X.prog X.w) X.A X.env X.xe)(M:PT X c U)(O:nh X body tb):PS X (.While c body [] pos) (KF U tb):=by intro e s B H D I h;let(W,(L,E),turn):=h;show wpAny_While (codeAny_whileLoop (λn J=>∃A R,a! X e A R J/\W n A R) ?_ L #[B,H,I,E]);rintro n G ⟨g,z,P,C⟩;show w' r (de (M e G g z _ P (turn n g z C)) λb F a=>?_);let(y,w,l):=a;cases b with
 |true=>let(N,t,l):=l;show w' r (de (O e F g y _ w l) λf Q j=>?_);cases f with |next|cont=>let(a,i,q,o):=j;let(p,hm,m):=t a i o;show#[p,hm,a,i,q,m]|brk|ret v=>show j
 |false=>show ID #[g,y,w,l]
end
structure It where
 go:Nat->Hp->Prop
 yld:Nat->Hp->V->Hp->Prop
 stop:Nat->Hp->Prop
def pS(X:Cx)(a:I (aT×Obj))(H:Hp)(b:aT):Prop:=H b=CL/\b≠X.env.locals/\b∉X.fs/\(b∈X.ex\/X.s₀.heap.objs.size<=b)/\(∀x c,X.env.cells.lookup x=G c->c≠b)/\∀p∈X.pn++a,p.1≠b
def a!.ahe(I:a! X pins σ H s)(a:s.heap.objs.size<=b)(d:H' b=CL):pS X pins H' b:=by
 show#[d,n? (lr I.lt a),I.am6 a,.inr (la I.sz a),λx c e z=>?_,λp f z=>?_]
 .let(v,q):=I.cell x c e;show a7 (lr q.lt (by rw[z];show a)) (qT _)
 .show a7 (lr (br (I.pin p f).1) (by rw[z];show a)) (qT _)
structure Turn(P:m4)(w:k?)(K:lD)(tg:c_)(J:It)(fp:I aT)(it:aT)(tn:Nat->Heap->Prop):Prop where
 mem:it∈fp
 obj:∀i h,tn i h->∀b∈fp,∃o,h.get? b=G o/\∀v,o.data≠.cell v
 keep:∀i h h',tn i h->(∀b∈fp,∀o,h.get? b=G o->h'.get? b=G o)->tn i h'
 item:∀(X:Cx),X.prog=P->X.w=w->X.K=K->X.calm=Ld->∀(i:Nat)(pins:I (aT×Obj))(s:d_)(σ:St)(H:Hp)(E:a_->d_->Prop),a! X pins σ H s->(∀b∈fp,pS X pins H b)->tn i s.heap->J.go i H->wpAny (model P w) X.A (pyNext (.ref it)) (λr s1=>∃u,r=G u/\wpAny (model P w) X.A (letOwnedTupleGo tg (.ref it) u) (λ_ s2=>∃x H',a! X pins σ H' s2/\b? x u/\J.yld i H x H'/\tn (i+1) s2.heap/\∀b∈fp,H' b=CL) E s1) E s
 done:∀(X:Cx),X.prog=P->X.w=w->X.K=K->X.calm=Ld->∀(i:Nat)(pins:I (aT×Obj))(s:d_)(σ:St)(H:Hp)(E:a_->d_->Prop),a! X pins σ H s->(∀b∈fp,pS X pins H b)->tn i s.heap->J.stop i H->wpAny (model P w) X.A (pyNext (.ref it)) (λr s1=>r=CL/\a! X pins σ H s1) E s
 self:∀(A:m3)(i:Nat)(s:d_)(Q:a_->d_->Prop)(E:a_->d_->Prop),tn i s.heap->Q (.ref it) s->wpAny (model P w) A (pyIter (.ref it)) Q E s
abbrev TI:=St->Hp->(It->Hp->Prop)->Prop
def Lj(X:Cx)(a:I (aT×Obj))(l:St)(m:c_)(R:It->Hp->Prop)(e:a_)(h:d_):Prop:=∃(i:aT)(j:I aT)(g:Nat->Heap->Prop)(J:It)(f:Hp),e=.ref i/\a! X a l f h/\Turn X.prog X.w X.K m J j i g/\g 0 h.heap/\(∀b∈j,pS X a f b)/\R J f
def PI(X:Cx)(g b:c_)(f:TI):Prop:=∀(a:I (aT×Obj))(s:d_)(e:St)(H:Hp)(R:It->Hp->Prop),a! X a e H s->f e H R->wpAny (model X.prog X.w) X.A (eval b X.env) (λv h=>wpAny (model X.prog X.w) X.A (pyIter v) (Lj X a e g R) X.xe h) X.xe s
def G1(b:s.heap.get? it=G o)(e:o.cls=.type n)(hd:o.data=.fields C)(c:["enumerate","zip","dict_itemiterator","dict_reverseitemiterator","odict_iterator","itertools.zip_longest","itertools.pairwise"].contains n=fg)(a:Q ⟨⟩ s):wpAny f A (letOwnedTupleGo J (.ref it) g) Q E s:=by ext J<;>first|show ew a|(ext g<;>first
    |show ew a
    |(show bY (AL b ?_)
      rw[e,hd];show wpAny f A (if(["enumerate","zip","dict_itemiterator","dict_reverseitemiterator","odict_iterator","itertools.zip_longest","itertools.pairwise"].contains n&&C[0]?==G _)=Ld then _ else _) Q E s;rw[aE (by intro h;rw[c]at h;ext h)];show ew a))
def DY(K:lD)(a:aT):It:=#[λi H=>∃xs x,hL K H a xs/\xs[i]?=G x,λi H x b=>b=H/\∀xs,hL K H a xs->xs[i]?=G x,λi H=>∃xs,hL K H a xs/\xs.length<=i]
def DM(K:lD)(a:aT):It:=#[λi H=>∃xs x,hY K H a xs/\xs[i]?=G x,λi H x b=>b=H/\∀xs,hY K H a xs->xs[i]?=G x,λi H=>∃xs,hY K H a xs/\xs.length<=i]
def V'(lo:Int)(n:Nat):It:=#[λi _=>i<n,λi H x a=>a=H/\x=.int (lo+i),λi _=>n<=i]
def aiL{K:lD}(a it):Turn P w K tg (DY K a) [it] it (λi h=>h.IsListIter it a i)where
 mem:=by simp
 obj:=λi h f b g=>by
  let e:b=it:=by simpa using g
  subst e;let(o,e,c,d):=f;show#[o,e,λv z=>by rw[d]at z;ext z]
 keep:=λi h N f k=>f.at λo e=>k it () o e
 item:=by intro X A t B M i l s O H E I n f y;subst A t B;let(xs,x,m,r):=y;let(q,rv,p,S):=I.list m;let(u,U,R):=rv.get r;let(L,J,Y,G,F,C):=n it ();show wpAny_pyNext_list_item f p.isList (by simpa using U) λN j Q=>?_;let I1:=I.turned (t':=s.toks) (λb o g e=>(Q.2 b g).trans e) L J G F C;let(o,e,c,d):=id j;show#[u,W,G1 e c d () #[x,H,I1,R,#[W,λys T=>by rw[I.ahN T m];show r],j,λb g=>(n b g).1]]
 done:=by intro X A t B M i l s O H E I n f y;subst A t B;let(xs,m,r):=y;let(q,rv,p,S):=I.list m;let(L,J,Y,G,F,C):=n it ();let hl:=rv.length;show wpAny_pyNext_list_end (I.ok.hd M) f p.isList (by simp;ext) λN Z=>#[W,I.turned (λb o g e=>Z b o g e) L J G F C]
 self:=λ_ _ _ _ _ f h=>wpAny_pyIter_listiter f h
def adX{K:lD}(a it):Turn P w K tg (DM K a) [it] it (λi h=>h.IsTupleIter it a i)where
 mem:=by simp
 obj:=λi h f b g=>by
  let e:b=it:=by simpa using g
  subst e;let(o,e,c,d):=f;show#[o,e,λv z=>by rw[d]at z;ext z]
 keep:=λi h N f k=>f.at λo e=>k it () o e
 item:=by intro X A t B M i l s O H E I n f y;subst A t B;let(xs,x,m,r):=y;let(q,rv,p,S):=I.tuple m;let(u,U,R):=rv.get r;let(L,J,Y,G,F,C):=n it ();show wpAny_pyNext_tuple_item f (show s.heap.IsTuple a _ from p) (by simpa using U) λN j Q=>?_;let I1:=I.turned (t':=s.toks) (λb o g e=>(Q.2 b g).trans e) L J G F C;let(o,e,c,d):=id j;show#[u,W,G1 e c d () #[x,H,I1,R,#[W,λys T=>by rw[I.aiO T m];show r],j,λb g=>(n b g).1]]
 done:=by intro X A t B M i l s O H E I n f y;subst A t B;let(xs,m,r):=y;let(q,rv,p,S):=I.tuple m;let(L,J,Y,G,F,C):=n it ();let hl:=rv.length;show wpAny_pyNext_tuple_end (I.ok.hd M) f (show s.heap.IsTuple a _ from p) (by simp;ext) λN Z=>#[W,I.turned (λb o g e=>Z b o g e) L J G F C]
 self:=λ_ _ _ _ _ f h=>wpAny_pyIter_tupleiter f h
def adW{K:lD}(it)(lo)(n):Turn P w K U (V' lo n) [it] it (λi h=>IsRangeIter h it (lo+(i)*1) ((n)-(i)) 1)where
 mem:=by simp
 obj:=λi h a b g=>by
  let e:b=it:=by simpa using g
  subst e;show#[_,a,λv z=>by let L:=z;ext L]
 keep:=λi h q a k=>k it () _ a
 item:=by intro X G F J p i f s C H E I l a m;subst G F J;let(B,A,Q,y,u,r):=l it ();let W:=v'.range (prog:=X.prog) (w:=X.w) (I.ok.hd p) it lo 1 n;show W.item i s _ _ m a λv q M O j N=>?_;let(t,0):=O;let S:a! X f C H {s with heap:=q,toks:=M}:=I.turned (λb o g e=>N b o (by simpa using g) e) B A y u r;show#[_,rfl,G1 j rfl rfl () #[.int _,H,S,#[t,?_],#[rfl,rfl],j,λb g=>(l b g).1]];rw[Int.mul_one]
 done:=by intro X G F J p i f s C H E I l a m;let(B,A,Q,y,u,r):=l it ();show wpAny_pyNext_range_end (I.ok.hd p) a (by let:n<=i:=m;ext) λq R=>#[rfl,I.turned (λb o g e=>R b o g e) B A y u r]
 self:=λ_ _ _ _ _ a h=>wpAny_pyIter_rangeiter a h
section
variable{Z:c_}
def Mx{a:St}{lo:Int}(I:a! X pins a H s)(l:-(2^62)<=lo)(j:lo<2^62)(i:-(2^62)<=C)(h:C<2^62)(q:R (V' lo (C-lo).toNat) H):wpAny (model X.prog X.w) X.A (pyIter (.ref s.heap.objs.size)) (Lj X pins a Z R) E {s with heap:=s.heap.push {cls:=.type "range",data:=.fields #v[.int lo t,.int C m,.int 1 v]},toks:=J}:=by
 show wpAny_pyIter_range (IsRange.new ..) (small_one l j i h) ?_;let f:a! X pins a H {s with heap:=s.heap.push {cls:=.type "range",data:=.fields #v[.int lo t,.int C m,.int 1 v]},toks:=J}:=I.kept λb o e=>bg _ e;show#[_,_,_,_,H,W,f.kept λb o e=>bg _ e,adW _ lo _,?_,λb g=>?_,q]
 .let e1:lo+((0:Nat))*1=lo:=by simp
  let e2:(((C-lo).toNat))-((0:Nat))=e?.Range.rangeSize lo C 1:=by rw[HX];split<;>ext
  rw[e1,e2];show b4 _ W
 .let e:b=(s.heap.push {cls:=.type "range",data:=.fields #v[.int lo t,.int C m,.int 1 v]}).objs.size:=by simpa using g
  subst e;show f.ahe (dc _) (f.hok.fresh (dc _))
def TV(c:TA):TI:=λa H R=>c a H λe b=>∃j:Int,e=[.int j]/\-(2^62)<=j/\j<2^62/\R (V' 0 j.toNat) b
def aiS(o:Gl X "range")(hm:X.mg "range"=CL)(c:PA X [a] C)(n:e_ [a] X.env=[(M,eval a X.env)]:=by rfl):PI X Z (.Call (.Name "range" p) [a] [] pos) (TV C):=by intro b s g H R I h;show Call_ (qQ I o hm boot_range (T! (de (c pos b s g H _ I h) λv w#[A,y,z,l,f]=>?_) n W));let(j,e,f,m,q):=f;subst e;cases l with|cons r i=>ext i;let(t,0):=r;show call_range_1 (Mx z () () f m (by simpa using q))
def RD(e:TI)(g:TG)(c:TS):TS:=λD a H=>e a H λJ h=>∃W:Nat->Nat->St->Hp->Prop,(∃m,W 0 m a h)/\∀i m a H,W i m a H->(J.stop i H/\D.nx a H)\/(J.go i H/\∃N:St->Hp->Prop,(∀j l,N j l->∃n,n<m/\W (i+1) n j l)/\∀x l,J.yld i H x l->g x a l λb f=>c {D with nx:=N,ct:=N,bk:=D.nx} b f)
def zg(a:I aT)(h:Heap):I (aT×Obj):=a.filterMap λb=>(h.get? b).map λo=>(b,o)
def mW(a:b∈C)(e:h.get? b=G o):(b,o)∈zg C h:=J!.mpr #[b,a,by rw[e];rfl]
def aid(a:p∈zg C h):p.1∈C/\h.get? p.1=G p.2:=by let(b,f,e):=J!.mp a;cases q:h.get? b with|none=>ext|some o=>rw[q]at e;let g:=lp e;subst g;show#[f,q]
def a!.pinned(I:a! X pins σ H s)(h:∀b∈fp,pS X pins H b)(g:∀b∈fp,∃o,s.heap.get? b=G o/\∀v,o.data≠.cell v):a! X (pins++zg fp s.heap) σ H s:=I.afG λp f=>(m?.mp f).elim (λz=>I.pin p (oe _ z)) λz=>by let(a,e):=aid z;let(l,j,i,_):=h p.1 a;let(o,m,d):=g p.1 a;simp[e]at m;injections;subst_vars;show#[e,l,j,i,d]
def a!.afH(I:a! X (pins++pl) σ H s):a! X pins σ H s:=I.afG λp a=>I.pin p (oe _ (rR _ a))
def UP(M:G_ (model X.prog X.w) X.A X.env X.xe)(c:X.calm=Ld)(V:PI X Z iter wi)(hg:PG X Z g)(p:nh X body tb)(k:∀x,foldedSetIterable iter X.env x=pure x:=by intro _;rfl):PS X (.For Z iter body [] pos) (RD wi g tb):=by
 intro j s σ H D I h;show wpAny_For (de (V j s σ H _ I h) λv s1 h1=>de h1 λitv s2 h2=>?_) k;let(it,P,tn,J,H2,e,I2,T,S,f2,W,(m0,w0),turn):=h2;subst e;let E:∀{z:Hp},(∀b∈P,z b=CL)->∀b∈P,pS X j z b:=λhn b p=>#[hn b p,(f2 b p).2];show codeAny_forLoop_any (λn s'=>∃i A z,a! X j A z s'/\tn i s'.heap/\(∀b∈P,z b=CL)/\W i n A z) ?_ m0 #[0,σ,H2,I2,S,λb p=>(f2 b p).1,w0];rintro n s3 ⟨i,l,Q,I3,G,O,w3⟩;rcases turn i n l Q w3 with⟨F,qn⟩|⟨go,N,hN,step⟩
 .show w' M (de (T.done X rfl rfl rfl c i j s3 l Q X.xe I3 (E O) G F) λr s4#[Y,I4]=>?_);subst Y;show ID #[l,Q,I4,qn]
 .show w' M (de (T.item X rfl rfl rfl c i j s3 l Q X.xe I3 (E O) G go) λr s4#[w,Y,h4]=>?_)
  subst Y;show w' M (de h4 λ_ s5 a=>?_);let(x,H5,I5,r5,y5,C,fr5):=a;let I5':=I5.pinned (E fr5) (T.obj _ _ C);show w' M (de (hg _ s5 l H5 x w _ I5' r5 (step x H5 y5)) λ_ s6 a=>?_);let(R,H6,I6,q6):=a;show w' M (de (p _ s6 R H6 _ I6 q6) λf U B=>?_);let q:∀{a:St}{y:Hp},a! X _ a y U->N a y->∃m,m<n/\∃i A z,a! X j A z U/\tn i U.heap/\(∀b∈P,z b=CL)/\W i m A z:=λ{a y}t L=>by let(m',hm,w7):=hN a y L;show#[m',hm,i+1,a,y,t.afH,T.keep _ _ _ C λb p o e=>(t.pin (b,o) (oe _ (oe _ (mW p e)))).1,λb p=>?_,w7];let(o,e,d):=T.obj _ _ C b p;show(t.pin (b,o) (oe _ (oe _ (mW p e)))).2.1
  cases f with |next|cont=>let(a,y,t,L):=B;show q t L|brk=>let(a,y,t,B):=B;show#[a,y,t.afH,B]|ret v=>let(x7,a,y,t,r7,B):=B;show#[x7,a,y,t.afH,r7,B]
end
abbrev R2:=V->V->Hp->VK->Prop
def hH(X:Cx)(f:a_->a_->Sem a_)(r:R2):Prop:=∀(a:I (aT×Obj))(s:d_)(b:St)(H:Hp)(x y:V)(v u:a_)(Q:VK),a! X a b H s->b? x v->b? y u->r x y H Q->wpAny (model X.prog X.w) X.A (f v u) (EP X a b Q) X.xe s
def DH(X:Cx)(f:a_->Sem a_)(r:V->Hp->VK->Prop):Prop:=∀(a:I (aT×Obj))(s:d_)(b:St)(H:Hp)(x:V)(v:a_)(Q:VK),a! X a b H s->b? x v->r x H Q->wpAny (model X.prog X.w) X.A (f v) (EP X a b Q) X.xe s
def lT(X:Cx)(f:a_)(r:I V->Hp->VK->Prop):Prop:=∀(a:I (aT×Obj))(s:d_)(b:St)(H:Hp)(xs:I V)(e:I a_)(Q:VK),a! X a b H s->b_ xs e->r xs H Q->wpAny (model X.prog X.w) X.A (call f e) (EP X a b Q) X.xe s
def OJ(r:R2)(d c:TE):TE:=λa H Q=>d a H λx e=>c a e λy b=>r x y b Q
def X?(r:V->Hp->VK->Prop)(c:TE):TE:=λa H Q=>c a H λx b=>r x b Q
def rI(C:Int->Int->Prop)(g:Int->Int->V):R2:=λx y H Q=>∃i j,x=.int i/\y=.int j/\C i j/\Q (g i j) H
def yn(g:Int->Int->V):R2:=λx y H Q=>∃i j,x=.int i/\y=.int j/\Q (g i j) H
def rU(g:Int->V):V->Hp->VK->Prop:=λx H Q=>∃i,x=.int i/\Q (g i) H
section
def WB(q:PE X a J)(n:PE X b C){R:V->V->Hp->Prop}(I:a! X pins σ H s)(h:J σ H λx H1=>C σ H1 λy c=>R x y c){f:a_->a_->Sem a_}(m:∀v u s2 x y c,a! X pins σ c s2->b? x v->b? y u->R x y c->wpAny (model X.prog X.w) X.A (f v u) Q X.xe s2):wpAny (model X.prog X.w) X.A (eval a X.env) (λv k=>wpAny (model X.prog X.w) X.A (eval b X.env) (λu d=>wpAny (model X.prog X.w) X.A (f v u) Q X.xe d) X.xe k) X.xe s:=by show de (q pins s σ H _ I h) λv e a=>?_;let(x,H1,p,i,l):=a;show de (n pins e σ H1 _ p l) λu s2 a=>?_;let(y,c,o,g,j):=a;show m v u s2 x y c o i g j
def yT(l:hH X (nt op) r)(c:PE X a J)(m:PE X b C):PE X (.BinOp a op b pos) (OJ r J C):=by intro e s f H Q I h;show wpAny_BinOp (WB c m I h λv u g x y o n j i q=>l e g f o x y v u Q n j i q)
def Uf(j:DH X (unaryOp op) r)(c:PE X a o):PE X (.UnaryOp op a pos) (X? r o):=by intro b s e H Q I h;show UnaryOp_ (de (c b s e H _ I h) λv f a=>by let(x,m,l,g,i):=a;show j b f e m x v Q l g i)
def YN{g:Int->Int->Int}(a:∀(i j)(t u)(s)(Q)(E),C i j->Q (.int (g i j) s.toks) {s with toks:=s.toks+1}->wpAny (model X.prog X.w) X.A (f (.int i t) (.int j u)) Q E s):hH X f (rI C λi j=>.int (g i j)):=by intro b s o H x y v u Q I m l h;let(i,j,0,0,n,q):=h;let(t,0):=m;let(e,0):=l;show a i j t e s _ _ n #[.int _,H,I.tok _,#[_,W],q]
def Py{g:Int->Int->Int}(a:∀(i j)(t u)(s)(Q)(E),Q (.int (g i j) s.toks) {s with toks:=s.toks+1}->wpAny (model X.prog X.w) X.A (f (.int i t) (.int j u)) Q E s):hH X f (yn λi j=>.int (g i j)):=by intro b s n H x y v u Q I m l h;let(i,j,0,0,q):=h;let(t,0):=m;let(e,0):=l;show a i j t e s _ _ #[.int _,H,I.tok _,#[_,W],q]
def Qx{g:Int->Int->Bool}(a:∀(i j)(t u)(s)(Q)(E),Q (.bool (g i j)) s->wpAny (model X.prog X.w) X.A (f (.int i t) (.int j u)) Q E s):hH X f (yn λi j=>.bl (g i j)):=by intro b s n H x y v u Q I m l h;let(i,j,0,0,q):=h;let(t,0):=m;let(e,0):=l;show a i j t e s _ _ #[.bl _,H,I,W,q]
def VI(i j:Int):Prop:=0<=j/\j<=1000000/\i.natAbs<2^64
def M_(i j:Int):Prop:=(-(2^64)<i/\i<2^64)\/(-(2^64)<j/\j<2^64)
def M_.ok(h:M_ i j):IntMulOk i j:=by
 rcases h with⟨b,a⟩|⟨b,a⟩
 .show .of_left (HW b a)
 .show .of_right (HW b a)
def o!(k):(0:Int)<=2^k:=CF _
def VP:hH X (nt .Add) (yn λi j=>.int (i+j)):=Py λ_ _ _ _ _ _ _ q=>add_int q
def JA:hH X (nt .Sub) (yn λi j=>.int (i-j)):=Py λ_ _ _ _ _ _ _ q=>sub_int q
def W2:hH X (nt .Mult) (rI M_ λi j=>.int (i*j)):=YN λ_ _ _ _ _ _ _ a q=>mul_int q a.ok
def V3:hH X (nt .Mod) (rI (λ_ j=>0<j) λi j=>.int (i%j)):=YN λi j _ _ _ _ _ a q=>by show mod_int' () (by rw[Int.fmod_eq_emod_of_nonneg i ()];show q)
def KI:hH X (nt .LShift) (rI VI λi j=>.int (i*2^j.toNat)):=YN λ_ _ _ _ _ _ _ a q=>lshift_int_small a.1 a.2.1 a.2.2 q
def Vl:hH X (nt .RShift) (rI (λ_ j=>0<=j) λi j=>.int (i/2^j.toNat)):=YN λi j _ _ _ _ _ a q=>rshift_int a (by rw[LH i (o! _)];show q)
def UT:hH X (nt .BitAnd) (yn λi j=>.int (e?.bitAnd i j)):=Py λ_ _ _ _ _ _ _ q=>and_int q
def ZY:hH X (nt .BitOr) (yn λi j=>.int (e?.bitOr i j)):=Py λ_ _ _ _ _ _ _ q=>or_int q
def unI{g:Int->Int}(a:∀(i)(t)(s)(Q)(E),Q (.int (g i) s.toks) {s with toks:=s.toks+1}->wpAny (model X.prog X.w) X.A (f (.int i t)) Q E s):DH X f (rU λi=>.int (g i)):=by intro b s j H x v Q I e h;let(i,0,q):=h;let(t,0):=e;show a i t s _ _ #[.int _,H,I.tok _,#[_,W],q]
def LN:DH X (unaryOp .USub) (rU λi=>.int (-i)):=unI λ_ _ _ _ _ q=>neg_int q
end
section
def AU(I:a! X pins σ H s)(q:Q (.bl k) H)(e:k=o):EP X pins σ Q (.bool o) s:=by subst e;show#[.bl k,H,I,W,q]
def ZB:hH X (m6 .Lt) (yn λi j=>.bl (decide (i<j))):=Qx λ_ _ _ _ _ _ _ q=>lt_int q
def Yv:hH X (m6 .LtE) (yn λi j=>.bl (decide (i<=j))):=Qx λ_ _ _ _ _ _ _ q=>le_int q
def aam:hH X (m6 .Gt) (yn λi j=>.bl (decide (j<i))):=Qx λ_ _ _ _ _ _ _ q=>gt_int q
def aad:hH X (m6 .GtE) (yn λi j=>.bl (decide (j<=i))):=Qx λ_ _ _ _ _ _ _ q=>ge_int q
def ahZ:hH X (m6 .In) (λx y H Q=>∃i j,x=.str i/\y=.str j/\Q (.bl (!(e?.Str.occurrences j i 0 j.length 1).isEmpty)) H):=by intro a s f H x y v u Q I e b h;let(i,j,0,0,q):=h;let(t,0):=e;let(g,0):=b;show in_str (AU I q W)
def Vj:hH X (m6 .Is) (λx y H Q=>y=.non/\Q (.bl (decide (x=.non))) H):=by intro a s f H x y v u Q I e b h;let(0,q):=h;subst b;show is_none_gen (AU I q ?_);ext x<;>first|(rfl)|(let(t,0):=e;rfl)
def SU:hH X (m6 .IsNot) (λx y H Q=>y=.non/\Q (.bl (!decide (x=.non))) H):=by intro a s f H x y v u Q I e b h;let(0,q):=h;subst b;show isnot_none_gen (AU I q ?_);ext x<;>first|(rfl)|(let(t,0):=e;rfl)
def Sw(l:hH X (m6 op) r)(c:PE X a J)(m:PE X b C)(hm:behindInMarks op b=M):PE X (.Compare a [op] [b] pos) (OJ r J C):=by intro e s f H Q I h;show HY (WB c m I h λv u g x y o n j i q=>l e g f o x y v u Q n j i q) hm
def yA(t:TE):TT:=λa H Q=>t a H λx b=>∃k,x=.bl k/\Q k b
def QT(q:hH X (m6 op) r)(d:PE X a ta)(t:PE X b U)(hm:behindInMarks op b=M):PT X (.Compare a [op] [b] pos) (yA (OJ r ta U)):=by
 intro f s g H Q I h;show J6 (de (d f s g H _ I h) λv j#[x,F,B,m,p]=>de (t f j g F _ B p) λu i#[y,E,A,l,o]=>de (q f i g E x y v u _ A m l o) λc G a=>?_) hm;let(z,C,w,J,k,e,n):=a
 subst e
 injections;subst_vars
 show t? #[C,w,n]
def EW(r g:R2)(d c f:TE):TE:=λa H Q=>d a H λx j=>c a j λy i=>r x y i λz b=>∃k,z=.bl k/\(if k=u then f a b λe h=>g y e h Q else Q (.bl M) b)
def Mc(L:hH X (m6 op) r)(i:hH X (m6 op') r')(D:PE X a ta)(N:PE X b tb)(M:PE X c tc)(hm:lastMarks [op,op'] [b,c]=fg:=by with_unfolding_all rfl):PE X (.Compare a [op,op'] [b,c] pos) (EW r r' ta tb tc):=by
 intro f s g H Q I h;show Compare_chain (de (D f s g H _ I h) λv A#[x,U,R,E,J]=>chain_link (de (N f A g U _ R J) λu w#[y,T,P,j,Y]=>de (L f w g T x y v u _ P E j Y) λd t a=>?_)) hm;let(z,n,m,C,k,e,l):=a
 subst e;ext C;show t? ?_;cases k with |false=>show ite_ff #[.bl _,n,m,W,l]|true=>show ite_tt (chain_last (de (M f t g n _ m l) λp q a=>by let(o,S,O,B,F):=a;show i f q g S y o u p Q O j B F))
def KM(O:hH X (m6 op) r)(i:hH X (m6 op') r')(D:PE X a ta)(R:PE X b tb)(P:PE X c tc)(hm:lastMarks [op,op'] [b,c]=fg:=by with_unfolding_all rfl):PT X (.Compare a [op,op'] [b,c] pos) (yA (EW r r' ta tb tc)):=by
 intro f s g H Q I h;show isTrue_chain (de (D f s g H _ I h) λv A#[x,H1,Z,F,Mz0]=>test_link (de (R f A g H1 _ Z Mz0) λu w#[y,H2,Y,j,L]=>de (O f w g H2 x y v u _ Y F j L) λd t a=>?_)) hm;let(z,n,m,E,k,e,l):=a
 subst e;ext E;show t? ?_;cases k with |false=>let(k',S,N):=l;ext S;show ite_ff #[n,m,N]|true=>show ite_tt (test_last (de (P f t g n _ m l) λp q#[o,H4,U,C,J]=>de (i f q g H4 y o u p _ U j C J) λd' s5 a=>?_));let(z2,H5,T,B,k2,e2,Gz0):=a;subst e2;ext B;show t? #[H5,T,Gz0]
def wu:(eg)<2^63:=by decide
def wa:hH X (nt .Add) (λx y H Q=>∃i j,x=.str i/\y=.str j/\i.length+j.length<=eg/\Q (.str (i++j)) H):=by intro a s l H x y v u Q I f e h;let(i,j,0,0,g,q):=h;let(t,0):=f;let(b,0):=e;show add_str (λb m=>#[.str _,H,I.tok _,#[_,W],q]) g
def iO(r:b_ [x] us):∃u,us=[u]/\b? x u:=by cases r with|cons b a=>ext a;show#[_,W,b]
def Uc(r:b_ [x,y] us):∃u c,us=[u,c]/\b? x u/\b? y c:=by cases r with|cons f e=>cases e with|cons b a=>ext a;show#[_,_,W,f,b]
def ajv(e:X.calm=Ld):lT X (.builtin "max") (λxs H Q=>∃i j,xs=[.int i,.int j]/\Q (.int (if j>i then j else i)) H):=by
 intro b s f H xs l Q I r h;let(i,j,0,q):=h;let(u,g,0,(t,0),(n,0)):=Uc r;show max_two_ints (I.ok.hd e) λo m k=>#[_,H,I.kept k,?_,q];by_cases a:j>i
 .rw[ax a,ax a];show#[_,W]
 .rw[aE a,aE a];show#[_,W]
def ajA:lT X (.type "int") (λxs H Q=>(∃i,xs=[.int i]/\Q (.int i) H)\/∃k,xs=[.bl k]/\Q (.int (if k then 1 else 0)) H):=by
 intro a s b H xs e Q I r h;rcases h with⟨i,rfl,q⟩|⟨k,rfl,q⟩
 .let(u,0,t,0):=iO r;show call_int_int #[.int i,H,I,#[_,W],q]
 .let(u,0,f):=iO r
  injections;subst_vars
  show call_int_bool #[.int _,H,I.tok _,#[_,W],q]
def za:lT X (.type "str") (λxs H Q=>∃i,xs=[.int i]/\i.natAbs.log2<1920/\Q (.str (toString i)) H):=by intro a s e H xs f Q I r h;let(i,0,b,q):=h;let(u,0,t,0):=iO r;show PySem.P.str_of_int b #[.str _,H,I.tok _,#[_,W],q]
def VU(K:lD)(x:V)(H:Hp)(n:Nat):Prop:=match x with|.str y=>y.length<=eg/\n=y.length|.byt y=>y.size<=eg/\n=y.size|.ref p=>(∃xs,hL K H p xs/\n=xs.length)\/∃xs,hY K H p xs/\n=xs.length|_=>False
def BE:lT X (.builtin "len") (λxs H Q=>∃x n,xs=[x]/\VU X.K x H n/\Q (.int n) H):=by intro l s v H xs w Q I r h;let(x,n,0,e,q):=h;let(u,0,f):=iO r;let z:=B_;cases x with
 |str y=>let(t,0):=f;let(o,b):=e;subst b;show len_str () #[.int _,H,I.tok _,#[_,W],q]|byt y=>let(t,0):=f;let(o,b):=e;subst b;show PySem.W.len_bytes () #[.int _,H,I.tok _,#[_,W],q]|ref p=>
  ext f;let b:=e;rcases b with⟨xs,j,b⟩|⟨xs,j,b⟩
  .subst b;let(i,g,pl,m):=I.list j;let a:=g.length;show Calls.call_len_list pl.isList (by simp only[lE];ext) #[.int _,H,I.tok _,#[_,by simp only[lE];rw[a]],q]
  .subst b;let(i,g,pl,m):=I.tuple j;let a:=g.length;show len_tuple pl (by simp only[lE];ext) #[.int _,H,I.tok _,#[_,by simp only[lE];rw[a]],q]|_=>show(e).elim
end
structure v!(h:Heap)(x dx C:aT)(mA:Str->bb a_):Prop where
 obj:h.get? x=G (vu C dx)ns:h.Ns1 dx mA
 ne:dx≠x
def aiG{h:Heap}(n:h.Ns1 J C):∃c,h.get? J=G c/\∀name,S_ name c=G (C name):=by
 let(o,es,m,g,j,i,_,hm):=n;show#[o,g,λname=>?_];let e:=hm name;unfold nsFind findBy at e;rw[<-Array.find?_toList]at e;ext S_;rw[j];dsimp only;split
 .rename_i y q;rw[q]at e;show dt G e
 .rename_i q
  rw[q]at e;let a:es.toList.any (·.refKey)=M:=by rw[List.any_eq_false];intro y f;let(z,t,b):=i y (Array.mem_toList_iff.mp f);simp[M!.refKey,b]
  let l:¬es.toList.any (·.refKey)=u:=by rw[a];show ml
  rw[aE l];show dt G e
def v!.look(I:v! h x dx C mA):∃a,PySem.W.InstAt h x (vu C dx) C (G a)/\∀name,S_ name a=G (mA name):=let#[a,b,e]:=aiG I.ns
 #[a,#[I.obj,W,W,b],e]
section
variable{s:d_}{K:lD}
def Sr(X:K.In s.heap)(I:v! s.heap x U C o)(g:KX K C name=u)(f:SS K C=u)(c:p5 K (.ref C) name=G CL)(b:o name=G v)(a:JJ v=u)(h:Q v {s with toks:=s.toks+1}):wpAny (model prog w) A (getAttr (.ref x) name expr) Q E s:=by let(i,J,e):=I.look;show PySem.W.get_value X J (C7 g).1 (PySem.W.findObj_own f c W (by rw[e,b])) a h
def akd(X:K.In s.heap)(I:v! s.heap x U C o)(a:KX K C name=u)(j:p5 K (.ref C) name=G (G (.ref f)))(g:A' K (.ref f)=u)(e:o name=CL)(h:Q (.ref f,[.ref x]) s):wpAny (model prog w) A (getMethod (.ref x) name pl) Q E s:=by let(b,J,i):=I.look;show PySem.W.method_fn X J (C7 a).1 (C7 a).2 j (beq_iff_eq.mp g) (by show(S_ name b).map _=G _;rw[i,e];rfl) h
def QP(X:K.In s.heap)(I:v! s.heap x dx C U)(o:p5 K (.ref C) "__setattr__"=cL (cL (.builtin "object.__setattr__")))(p:CR K C=Ld)(n:Cz K C name=cL CL)(q:SS K C=Ld)(m:BO U ns)(d:ns.length<=eg)(h:∀c,v! c x dx C (λy=>if y=name then cL v else U y)->Heap.SameBut dx s.heap c->Q ⟨⟩ {s with heap:=c,toks:=s.toks+2}):wpAny (model prog w) A (setAttr (.ref x) name v) Q E s:=by let(z,J,F):=I.look;show PySem.W.set_plain X J o (PySem.W.osa_open X J p n λb=>?_);let(G,r,i):=PySem.W.any_some q;let l:=I.obj;show bY (ew (bY (bY (wpAny_loadPart l (bY (amt (PySem.W.looks_clsIn X r) ?_))))));rw[i];show ew (bY (ew (bY ?_)));show wpAny_nsSet1 I.ns λc e a=>?_;let(B,t,u,f,g,j):=e.count (anQ name v m);show bY (wpAny_lookBehind f (by rw[g];show pastItsLine_dict (la j (by rw[j_];ext))) ?_);show ew (h _ #[(a.2 _ (cx I.ne)).trans I.obj,e,I.ne] a)
def ak1(X:K.In s.heap)(hm:Cq K C=u)(c:p5 K (.ref C) "__init__"=G (G (.ref f)))(b:PySem.W.typeIn K (.ref f)=G (.type "function"))(h:codeAny (model prog w) (A.under (.builtin "type.__call__" #[.ref C::o,kw])) (.call (.ref f) #[.ref (s.heap.objs.size+1)::o,kw]) (PySem.W.InitBack (s.heap.objs.size+1) R) {s with heap:=(s.heap.push J').push (vu C s.heap.objs.size)}):codeAny (model prog w) A (.call (.ref C) #[o,kw]) R s:=by show PySem.W.make_core (PySem.W.makes_of X hm) (PySem.W.looks_findIn X c) (λa=>PySem.W.bind_fn X a b) (.inl W) h
end
def mB(f:Str)(v:V):I (Str×V)->I (Str×V)|[]=>[(f,v)]|(g,x)::r=>if g=f then(g,v)::r else(g,x)::mB f v r
theorem t7(f g)(v):∀fs,(mB f v fs).lookup g=if g=f then G v else fs.lookup g
 |[]=>by
  show vf g [(f,v)]=_;by_cases h:g=f
  .let a:=beq_iff_eq.mpr h;simp only[vf,a,ax h]
  .let a:=beq_eq_false_iff_ne.mpr h;simp only[vf,a,aE h]|(k,x)::r=>by
  let i:=t7 f g v r;rw[show mB f v _=(if k=f then(k,v)::r else(k,x)::mB f v r)from rfl];by_cases b:k=f
  .rw[ax b]
   by_cases h:g=k
   .let a:=beq_iff_eq.mpr h;simp only[vf,a,ax (h.trans b)]
   .let a:=beq_eq_false_iff_ne.mpr h;simp only[vf,a,aE (λe:g=f=>h (e.trans b.symm))]
  .rw[aE b]
   by_cases h:g=k
   .let a:=beq_iff_eq.mpr h;simp only[vf,a,aE (λe:g=f=>b (h.symm.trans e))]
   .let a:=beq_eq_false_iff_ne.mpr h;simp only[vf,a];show i
theorem sV(f:Str)(v:V):∀fs:I (Str×V),f∈(mB f v fs).map (·.1)/\∀g,g∈fs.map (·.1)->g∈(mB f v fs).map (·.1)
 |[]=>#[by simp[mB],λg h=>by simp at h]|(k,x)::r=>by
  let(i,b):=sV f v r;rw[show mB f v _=(if k=f then(k,v)::r else(k,x)::mB f v r)from rfl];by_cases a:k=f
  .rw[ax a];subst a;show#[by simp,λg h=>by simpa using h]
  .rw[aE a]
   show#[?_,λg h=>?_]
   .show h_ _ i
   .rcases hX.mp h with e|e
    .show hX.mpr (.inl e)
    .show h_ _ (b g e)
theorem ub(f)(v):∀fs,(mB f v fs).length<=fs.length+1
 |[]=>by simp[mB]|(k,x)::r=>by
  let a:=ub f v r;rw[show mB f v _=(if k=f then(k,v)::r else(k,x)::mB f v r)from rfl];by_cases b:k=f
  .simp_all
  simp_all
def o4.some_of(r:o4 (G v) o):∃u,o=G u/\b? v u:=by cases o with|none=>show(r).elim|some u=>show#[u,W,r]
def o4.none_of(r:o4 CL o):o=CL:=by cases o with|none=>rfl|some u=>show(r).elim
def ais(r:b? v f):JJ f=Ld:=by cases v with|non|bl b|ref a|ty n=>subst(r);rfl|int i|str x|byt b|flt b=>let(t,e):=(r);subst e;rfl
section
def yZ(hok:jo P w H h)(e:H a=G (.ins C o fs)):∃c,v! h a o C c/\(∀f,o4 (fs.lookup f) (c f))/\BO c (fs.map (·.1))/\fs.length<=1000/\H o=G (.own a):=by let(d,z,ne,b,c,n,r,q):=(hok a _ e);show#[c,#[b,n,ne],r,q,z,d]
end
structure qo(K:lD)(C:aT):Prop where
 pg:KX K C Str.empty=u
 hd:SS K C=u
 po:CR K C=u
 sa:p5 K (.ref C) "__setattr__"=G (G (.builtin "object.__setattr__"))
def qo.get{K:lD}(c:qo K C)(f):KX K C f=u:=c.pg
def u!(K:lD)(C:aT)(f:Str):Prop:=p5 K (.ref C) f=G CL
def u!.ant{K:lD}(n:u! K C f):Cz K C f=G CL:=by ext Cz;rw[n];rfl
structure Con(K:lD)(C:aT)(f:Str)(v:V)(u:a_):Prop where
 at_:p5 K (.ref C) f=G (G u)rel:b? v u
 get:JR K u "__get__"=G CL
 cp:PySem.W.copiedNames.contains f=M
structure Meth(K:lD)(C:aT)(m:Str)(f:aT):Prop where
 at_:p5 K (.ref C) m=G (G (.ref f))fn:A' K (.ref f)=u
 kp:t! K (.ref f)=u
section
variable{Z:St}
def ahn(I:a! X pins Z H s)(e:H a=G (.ins C o fs))(c:qo X.K C)(n:u! X.K C f)(l:fs.lookup f=G v)(h:∀u d,a! X pins Z H d->b? v u->Q u d):wpAny (model X.prog X.w) A (getAttr (.ref a) f b) Q E s:=by let(j,O,r,_,_,_):=yZ I.hok e;let(u,i,g):=o4.some_of (by rw[<-l];show r f);show Sr I.kIn O (c.get f) c.hd n i (ais g) (h u _ (I.tok _) g)
def wc(I:a! X pins Z H s)(e:H a=G (.ins C o fs))(c:qo X.K C)(k:Meth X.K C m g)(l:fs.lookup m=CL)(h:Q (.ref g,[.ref a]) s):wpAny (model X.prog X.w) A (getMethod (.ref a) m pl) Q E s:=by let(b,O,r,_,_,_):=yZ I.hok e;let f:=o4.none_of (by rw[<-l];show r m);show akd I.kIn O (c.get m) k.at_ k.fn f h
def ae5(I:a! X pins Z H s)(e:H a=cL (.ins C U fs))(c:qo X.K C)(n:u! X.K C f)(L:fs.length<1000)(p:b? y w)(h:∀d,a! X pins Z (bW H a (.ins C U (mB f y fs))) d->Q ⟨⟩ d):wpAny (model X.prog X.w) A (setAttr (.ref a) f w) Q E s:=by
 let(t,O,r,j,_,l):=yZ I.hok e;let v:(fs.map (·.1)).length<=eg:=by rw[dO,B_];ext
 show QP I.kIn O c.sa c.po n.ant c.hd j v λJ i m=>h _ ?_;let F:∃o,J.get? U=cL o:=by let(o,_,_,N,_):=i.ns;show#[o,N]
 show I.write (by rw[e];show True.intro) (.inr l) (λb q G z=>(m.2 b G).trans z) F ?_;show#[by rw[bh O.ne];show l,?_,O.ne,i.obj,_,i.ns,λg=>?_,λg B=>?_]
 .let:=ub f y fs;ext
 .rw[t7]
  by_cases q:g=f
  .rw[ax q,ax q];show p
  .rw[aE q,aE q];show r g
 .by_cases q:g=f
  .rw[q];show(sV f y fs).1
  .show(sV f y fs).2 g (j g λz=>B ?_);show(if g=f then cL w else t g)=CL;rw[aE q];show z
def a!.made(I:a! X pins Z H s):a! X pins Z (bW (bW H s.heap.objs.size (.own (s.heap.objs.size+1))) (s.heap.objs.size+1) (.ins C s.heap.objs.size [])) {s with heap:=(s.heap.push J').push (vu C s.heap.objs.size)}:=by
 let e1:(s.heap.push _).get? _=G J':=b4 _ W;let e2:((s.heap.push J').push (vu C s.heap.objs.size)).get? (s.heap.objs.size+1)=G (vu C s.heap.objs.size):=by let:=b4 (s.heap.push J') (o:=vu C s.heap.objs.size) W;rwa[cc]at this
 let e3:(s.heap.push _).Ns _ _:=#[_,#v[],_,e1,W,(λe f=>a7 f ()),λ_=>W];let g:=I.laid (o:=.own (s.heap.objs.size+1)) (t':=s.toks) (λb u q=>bg _ q) (dc _) #[_,e1];show g.laid (λb u q=>bg _ q) (Q? (cc _ _)) ?_;let ne:s.heap.objs.size≠s.heap.objs.size+1:=iF (DO _);show#[by rw[bh ne,aR],mT _,ne,e2,_,(Heap.Ns1.of_empty e3).at λo q=>bg _ q,λ_=>True.intro,λy a=>a7 W a]
def Pg(a:attributeBase e f env (eval e env)=eval e env)(h:wpAny (model prog w) A (eval e env) (λo b=>wpAny (model prog w) A (getAttr o f u) Q E b) E s):wpAny (model prog w) A (eval (.Attribute e f pos) env) Q E s:=Attribute_any_ h (by simp only[arm_eval_Attribute,a])
end
def W7(K:lD)(c:TE)(f:Str):TE:=λe H Q=>c e H λx b=>∃a C g fs v,x=.ref a/\b a=G (.ins C g fs)/\qo K C/\u! K C f/\fs.lookup f=G v/\Q v b
def WZ(K:lD)(c g:TE)(f:Str):TS:=λD b H=>g b H λy h=>c b h λx e=>∃a C i fs,x=.ref a/\e a=G (.ins C i fs)/\qo K C/\u! K C f/\fs.length<1000/\D.nx b (bW e a (.ins C i (mB f y fs)))
section
def Vt(m:PE X e J)(o:attributeBase e f X.env (eval e X.env)=eval e X.env):PE X (.Attribute e f pos) (W7 X.K J f):=by intro b s g H Q I h;show Pg o (de (m b s g H _ I h) λu B a=>?_);let(x,y,w,i,a,C,E,fs,v,p,r,c,n,l,q):=a;subst p;obtain rfl:=i;show ahn w r c n l λz A t j=>#[v,y,t,j,q]
def Xy(d:PE X o ta)(p:PE X value U)(r:ro value (cL (.Attribute o f pos')) pos.line X.env=pure M):PS X (.Assign [.Attribute o f pos'] value pos) (WZ X.K ta U f):=by intro b s e H D I h;show plainObj_wpAny_Assign_Attribute (de (p b s e H _ I h) λu g#[y,B,A,i,q]=>de (d b g e B _ A q) λG F a=>?_) r;let(x,J,z,j,a,C,L,fs,t,v,c,n,l,m):=a;subst t;obtain rfl:=j;show ae5 z v c n l i λE w=>#[e,_,w,m]
end
section
variable{Z:St}
set_option genInjectivity true in
inductive q5(K:lD)(H:Hp):V->a_->Prop where|non:q5 K H .non (.type "NoneType")|bl(x:Bool):q5 K H (.bl x) (.type "bool")|int(i:Int):q5 K H (.int i) (.type "int")|str(x:Str):q5 K H (.str x) (.type "str")|flt(x:UInt64):q5 K H (.flt x) (.type "float")|lst{a:aT}{xs:I V}(e:H a=G (.lst xs)):q5 K H (.ref a) (.type "list")|frz{a:aT}{o:Obj}{xs:I V}(e:H a=G (.frz o (.lst xs))):q5 K H (.ref a) (.type "list")|tup{a:aT}{xs:I V}(e:H a=G (.tup xs)):q5 K H (.ref a) (.type "tuple")|dK{a:aT}{kvs:I (gY×V)}(e:H a=G (.dK kvs)):q5 K H (.ref a) (.type "dict")|dT{a:aT}{kvs:I (I gY×V)}(e:H a=G (.dT kvs)):q5 K H (.ref a) (.type "dict")|ins{a C dx:aT}{fs:I (Str×V)}(e:H a=G (.ins C dx fs))(cl:qo K C)(ha:p5 K (.ref C) "__class__"=G (G (.builtin "object.__class__")))(hn:JR K (.builtin "object.__class__") "__get__"=G (G (.builtin "getset_descriptor.__get__")))(htk:PySem.W.takesIn K (.builtin "object.__class__")=G u)(hm:PySem.W.mroIn K C (.type "object")=G u):q5 K H (.ref a) (.ref C)
end
structure ik(k:Nat)(A:m3):Prop where
 hd:A.handled=CL
 dp:A.depth+3*k+5<recursionLimit
 un:A.units+16*k+200<cLine
def ik.mono(r:ik k A)(h:j<=k):ik j A:=#[r.hd,by let:=r.dp;ext,by let:=r.un;ext]
def ik.deeper(r:ik (k+1) A)(env):ik k (A.deeper env):=#[r.hd,by let:=r.dp;show A.depth+1+3*k+5<_;ext,by let:=r.un;show A.units+3+16*k+200<_;ext]
def aeq{A:m3}:(A.under (.builtin "type.__call__" #[.ref C::us,kw])).depth=A.depth+1:=by first|rfl|simp[guardIds]
def acK{A:m3}:(A.under (.builtin "type.__call__" #[.ref C::us,kw])).units=A.units+1:=by first|rfl|simp[Code.frames]
def ik.make(r:ik (k+1) A)(C)(us)(kw):ik k (A.under (.builtin "type.__call__" #[.ref C::us,kw])):=#[r.hd,by let:=r.dp;rw[aeq];ext,by let:=r.un;rw[acK];ext]
def ik.depth(r:ik k A):A.depth<recursionLimit:=by let:=r.dp;ext
def ik.units(r:ik k A):A.units+64<cLine:=by let:=r.un;ext
def lW:TA:=λ_ H Q=>Q [] H
def jM(c:TE)(b:TA):TA:=λa H Q=>c a H λx f=>b a f λxs e=>Q (x::xs) e
section
def ma:PA X [] lW:=λ_ _ _ _ H Q I h=>Calls.spliced_nil #[[],H,I,.nil,h]
def jh(c:PE X e C)(o:PA X es t)(n:e_ (e::es) X.env=(M,eval e X.env)::e_ es X.env:=by rfl):PA X (e::es) (jM C t):=by intro b a s f H Q I h;rw[n];show Calls.spliced_cons (de (c a s f H _ I h) λu g a=>?_);let(x,v,q,j,m):=a;show de (o b a g f v _ q m) λw y a=>by let(xs,r,p,i,l):=a;show#[_,r,p,.cons j i,l]
def Q7(t:TA):TE:=λb H Q=>t b H λxs a=>xs.length<=eg/\∀p,a p=CL->Q (.ref p) (bW a p (.tup xs))
def Sk(t:TA):TE:=λb H Q=>t b H λxs a=>xs.length<=eg/\∀p,a p=CL->Q (.ref p) (bW a p (.lst xs))
def W0(h:PA X es t):PE X (.Tuple es o pos) (Q7 t):=by intro a s g H Q I j;show wpAny_Tuple_spliced (de (h pos a s g H _ I j) λi m#[xs,n,f,r,z,q]=>#[by rw[<-r.length];show z,?_]);let l:=f.hok.fresh (dc _);show#[.ref _,_,f.laid (λb u e=>bg _ e) (dc _) ?_,W,q _ l];show#[z,i,r,#[_,b4 _ W,#[W,_,W],W]]
def DE(h:PA X es t):PE X (.List es pos) (Sk t):=by intro a s g H Q I j;show wpAny_List_spliced (de (h pos a s g H _ I j) λi m#[xs,n,f,r,z,q]=>#[by rw[<-r.length];show z,?_]);let l:=f.hok.fresh (dc _);show#[.ref _,_,f.laid (λb u e=>bg _ e) (dc _) ?_,W,q _ l];show#[z,i,0,r,b4 _ W]
end
abbrev Sp:=I V->Hp->VK->XK->Prop
abbrev TB:=I Env->Hp->d_->XK->a_->d_->Prop
structure p0(P:m4)(w:k?)(K:lD)(mg:Str->bb a_)(base:Heap)(A:m3)(outer:I Env)(s:d_)(H:Hp):Prop where
 frames:A.frames=G outer
 mod:Mod K mg base
 bs:∀b o,base.get? b=G o->s.heap.get? b=G o/\H b=CL
 bsz:base.objs.size<=s.heap.objs.size
 afw:s.heap.FunFrames base outer
 frf:∀b∈Bg outer,H b=CL
 hok:jo P w H s.heap
 bare:AllBare s.gens
def CE(outer:I Env)(P:m4)(w:k?)(H:Hp)(s:d_)(Q:VK)(u:a_)(a:d_):Prop:=∃v b,a.os=s.os/\AllBare a.gens/\Un (Bg outer) [] H b s.heap a.heap/\jo P w b a.heap/\b? v u/\Q v b
def ac6(b:TB)(outer:I Env)(P:m4)(w:k?)(H:Hp)(s:d_)(Q:VK)(E:XK)(r:Result)(a:d_):Prop:=match r with |.ok (.ret f)=>CE outer P w H s Q f a|.ok _=>False|.error e=>b outer H s E e a
structure ek(P:m4)(w:k?)(K:lD)(mg:Str->bb a_)(base:Heap)(CX:TB)(k:Nat)(f:aT)(fd:t5)(ps:I Str)(sp:Sp):Prop where
 len:∀vs H Q E,sp vs H Q E->vs.length=ps.length
 run:∀(A:m3)(outer:I Env)(s:d_)(H:Hp)(args:Args)(us:I a_)(vs:I V)(Q:VK)(E:XK),ik k A->p0 P w K mg base A outer s H->u_ s fd args (ps.zip us)->b_ vs us->sp vs H Q E->codeAny (model P w) A (.call (.ref f) args) (ac6 CX outer P w H s Q E) s
def ek.imp{K:lD}(F:ek P w K mg base CX k f fd ps sp)(h:∀c H Q E,sp' c H Q E->sp c H Q E):ek P w K mg base CX k f fd ps sp':=#[λc H Q E q=>F.len c H Q E (h _ _ _ _ q),λA b s H a e c Q E j l m g i=>F.run A _ s H a e c Q E j l m g (h _ _ _ _ i)]
def p0.make{K:lD}(e:p0 P w K mg base A outer s H)(C)(us)(kw):p0 P w K mg base (A.under (.builtin "type.__call__" #[.ref C::us,kw])) outer s H:=#[by first|show e.frames|(simpa[m3.under,Code.envs,Code.isFrame,pushEnvs]using e.frames),e.mod,e.bs,e.bsz,e.afw,e.frf,e.hok,e.bare]
section
variable{Z:St}
def a!.am5(I:a! X pins Z H s):p0 X.prog X.w X.K X.mg X.base X.A X.stack s H:=#[I.ok.frames,I.ok.mod,I.bs,la I.ok.bsz I.sz,I.stack,I.agi,I.hok,I.bare]
def a!.after(I:a! X pins Z H s)(h:CE X.stack X.prog X.w H s Q l s'):EP X pins Z Q l s':=by let(v,i,f,a,un,hok,r,q):=h;let(j,g,d,t,e):=s';obtain rfl:e=s.os:=f;show#[v,i,I.call un hok a (λb z=>a7 z ()),r,q]
end
def sj(sp:Sp)(a:I V)(E:XK)(t:TA):TE:=λb H Q=>t b H λf e=>sp (f++a) e Q E
def xZ(C:aT)(m:Str)(sp:Sp)(b:I V)(E:XK)(c:TE)(t:TA):TE:=λe H Q=>c e H λx f=>∃a i fs,x=.ref a/\f a=G (.ins C i fs)/\fs.lookup m=CL/\t e f λh g=>sp (x::(h++b)) g Q E
def B2(C:aT)(sp:Sp)(a:I V)(E:XK)(t:TA):TE:=λe H Q=>t e H λh b=>∀x g,b x=CL->b g=CL->g≠x->sp (.ref x::(h++a)) (bW (bW b g (.own x)) x (.ins C g [])) (λv f=>v=.non/\Q (.ref x) f) E
def hI(K:lD)(b:t5)(c:I Str)(ds:I a_):Prop:=∀(s:d_)(a:I a_),K.In s.heap->(a++ds).length=c.length->u_ s b #[a,[]] (c.zip (a++ds))
def hI.all{K:lD}(h:∀us,us.length=ps.length->bindArgs fd #[us,[]]=pure (ps.zip us)):hI K fd ps []:=λs us _ a=>by rw[n9]at a⊢;show .of_eq (h us a)
def eu(g:TB)(X:Cx)(E:XK):Prop:=∀(a:I (aT×Obj))(f:St)(H:Hp)(s:d_)(e:a_)(b:d_),a! X a f H s->g X.stack H s E e b->X.xe e b
section
variable{p Z Y:Pos}
def D9{b:St}(F:ek X.prog X.w X.K X.mg X.base U k f fd J sp)(l:ik k X.A)(n:hI X.K fd J ds)(hd:b_ C ds)(j:eu U X E)(I:a! X pins b H s)(r:b_ vs us)(h:sp (vs++C) H Q E):wpAny (model X.prog X.w) X.A (call (.ref f) us) (EP X pins b Q) X.xe s:=by
 let g:b_ _ _:=r.append hd;let m:(us++ds).length=J.length:=by rw[<-g.length];show F.len _ _ _ _ h
 show N_ (By (F.run X.A _ s H _ _ _ Q E l I.am5 (n s us I.kIn m) g h) λr i a=>?_);cases r with|error e=>show j pins b H s e i I a|ok o=>cases o with|ret u=>show I.after a|next|brk|cont=>show False.elim a
def Gz(F:ek X.prog X.w X.K X.mg X.base U k f fd J sp)(m:ik k X.A)(o:Gl X x)(hm:X.mg x=G (.ref f))(n:t! X.K (.ref f)=Ld)(v:hI X.K fd J ds)(hd:b_ C ds)(l:eu U X E)(c:PA X (e::es) t)(g:(x==("__debug__"))=M:=by decide)(u:e_ (e::es) X.env=(M,eval e X.env)::e_ es X.env:=by rfl)(b:(backTo Z (e_ es X.env)).any (·.1)=M:=by rfl):PE X (.Call (.Name x p) (e::es) [] Z) (sj sp C E t):=by intro a s j H Q I h;show C_ (pG I o hm ?_ g);show C6 I.ok.mod.kin n (de (c Z a s j H _ I h) λy z#[w,B,i,r,q]=>#[i.kIn,?_]) u b;show D9 F m v hd l i r q
def Re{pl:Sem _}(L:PE X o ta)(c:qo X.K C)(hm:Meth X.K C m f)(F:ek X.prog X.w X.K X.mg X.base CX k f fd ps sp)(J:ik k X.A)(M:hI X.K fd ps ds)(hd:b_ U ds)(B:eu CX X E)(d:PA X (e::es) t)(gr:e_ (e::es) X.env=(fg,eval e X.env)::e_ es X.env:=by rfl)(g:(backTo Z (e_ es X.env)).any (·.1)=fg:=by rfl)(G:eval (.Call (.Attribute o m Y) (e::es) [] Z) X.env=(do
   let ov<-eval o X.env
   standAt Y.atName let(f,first)<-holding [ov] (getMethod ov m pl)callWith Z f first (backTo Z (e_ (e::es) X.env)) (backToKw Z (keywordEach [] X.env))):=by rfl):PE X (.Call (.Attribute o m Y) (e::es) [] Z) (xZ C m sp U E ta t):=by intro b s i H Q I h;show K9 (de (L b s i H _ I h) λu v a=>?_) G;let(x,P,n,y,a,A,fs,N,O,l,q):=a;subst N;obtain rfl:u=a_.ref a:=y;show wc n O c hm l ?_;show C6 I.ok.mod.kin hm.kp (de (d Z b v i P _ n q) λR S#[w,T,j,r,z]=>#[j.kIn,?_]) gr g;show D9 (vs:=.ref a::w) F J M hd B j (.cons W r) z
def ak0(t:PE X o ta)(c:qo X.K C)(hm:Meth X.K C m f)(F:ek X.prog X.w X.K X.mg X.base CX k f fd ps sp)(r:ik k X.A)(v:hI X.K fd ps ds)(hd:b_ J ds)(j:eu CX X E)(n:eval (.Call (.Attribute o m Y) [] [] Z) X.env=(do
   let U<-eval o X.env
   standAt Y.atName let(f,first)<-holding [U] (getMethod U m pl)callWith Z f first (backTo Z (e_ [] X.env)) (backToKw Z (keywordEach [] X.env))):=by rfl):PE X (.Call (.Attribute o m Y) [] [] Z) (xZ C m sp J E ta lW):=by intro b s g H Q I h;show K9 (de (t b s g H _ I h) λu B a=>?_) n;let(x,w,e,i,a,A,fs,y,z,l,q):=a;subst y;obtain rfl:u=a_.ref a:=i;show wc e z c hm l ?_;show KQ e.kIn hm.kp (D9 (vs:=[.ref a]) F r v hd j e (.cons W .nil) q)
structure Mk(K:lD)(C f:aT):Prop where
 makes:Cq K C=u
 init:p5 K (.ref C) "__init__"=G (G (.ref f))fn:A' K (.ref f)=u
 kp:t! K (.ref C)=u
def BG(M:Mk X.K C f)(F:ek X.prog X.w X.K X.mg X.base CX k f fd ps sp)(n:ik (k+1) X.A)(q:hI X.K fd ps ds)(hd:b_ J ds)(m:eu CX X E)(I:a! X pins σ H s)(r:b_ U us)(h:∀x c,H x=CL->H c=CL->c≠x->sp (.ref x::(U++J)) (bW (bW H c (.own x)) x (.ins C c [])) (λv d=>v=.non/\Q (.ref x) d) E):wpAny (model X.prog X.w) X.A (call (.ref C) us) (EP X pins σ Q) X.xe s:=by
 let i:=h _ _ (I.hok.fresh (u? _)) (I.hok.fresh (dc _)) (iF (DO _));let b:=a!.made (C:=C) I;let g:b_ (V.ref (s.heap.objs.size+1)::(U++J)) _:=.cons W (r.append hd);let o:(a_.ref (s.heap.objs.size+1)::us++ds).length=ps.length:=by let e:=g.length;rw[F.len _ _ _ _ i]at e;show e.symm
 show N_ (ak1 I.kIn M.makes M.init (beq_iff_eq.mp M.fn) (By (F.run _ _ _ _ _ _ _ _ E (n.make C us []) (b.am5.make C us []) (q _ _ b.kIn o) g i) λr j a=>?_))
 cases r with |error e=>show m pins σ _ _ e j b a|ok t=>cases t with|ret u=>let(v,z,y,w,ev,l):=b.after a;subst ev;show#[w,#[V.ref _,z,y,W,l]]|next|brk|cont=>show False.elim a
def Pu(M:Mk X.K C f)(F:ek X.prog X.w X.K X.mg X.base CX k f fd U sp)(m:ik (k+1) X.A)(n:Gl X x)(hm:X.mg x=G (.ref C))(u:hI X.K fd U ds)(hd:b_ J ds)(l:eu CX X E)(c:PA X (e::es) t)(g:(x==("__debug__"))=fg:=by decide)(o:e_ (e::es) X.env=(fg,eval e X.env)::e_ es X.env:=by rfl)(b:(backTo Z (e_ es X.env)).any (·.1)=fg:=by rfl):PE X (.Call (.Name x p) (e::es) [] Z) (B2 C sp J E t):=by intro a s j H Q I h;show C_ (pG I n hm ?_ g);show C6 I.ok.mod.kin M.kp (de (c Z a s j H _ I h) λv y#[w,z,i,r,q]=>#[i.kIn,?_]) o b;show BG M F m u hd l i r q
def akS(M:Mk X.K C f)(F:ek X.prog X.w X.K X.mg X.base U k f fd J sp)(g:ik (k+1) X.A)(i:Gl X x)(hm:X.mg x=G (.ref C))(j:hI X.K fd J ds)(hd:b_ o ds)(e:eu U X E)(a:(x==("__debug__"))=fg:=by decide):PE X (.Call (.Name x p) [] [] Z) (B2 C sp o E lW):=by intro b s l H Q I h;show C_ (pG I i hm ?_ a);show KQ I.kIn M.kp (BG M F g j hd e I .nil h)
end
section
variable{p:Pos}
structure aqi(K:lD)(fd:t5)(ps ks:I Str)(g:I a_->I a_->I a_)(gV:I V->I V->I V):Prop where to:∀(s:d_)(us ws:I a_),K.In s.heap->(g us ws).length=ps.length->u_ s fd #[us,ks.zip ws] (ps.zip (g us ws))rel:∀{vs:I V}{us:I a_}{zs:I V}{ws:I a_},b_ vs us->b_ zs ws->b_ (gV vs zs) (g us ws)
end
structure qz(N P:I Str)(sc:nS):Prop where
 kind:sc.kind=.function
 co:sc.isCoroutine=M
 gen:sc.isGenerator=M
 nd:N.Nodup
 pre:N.take P.length=P
 par:∀x∈P,sc.names.lookup x=G .local\/sc.names.lookup x=G .cell
 alN:∀y∈sc.names,y.2≠.free
theorem yO{a:Str->bb _}:∀{binds:I (Str×a_)}{m:Str->bb _},(∀v,(x,v)∉binds)->bindL a binds m x=m x
 |[],_,_=>rfl|(n,v)::r,m,h=>by
  ext bindL;rw[yO λw b=>h w (h_ _ b)];split
  .let:x≠n:=by rintro rfl;show h v eQ
   simp[this]
  .rfl
theorem yJ{a:Str->bb _}:∀{binds:I (Str×a_)}{m:Str->bb _},(∀v,(x,v)∉binds)->bindC a binds m x=m x
 |[],_,_=>rfl|(n,v)::r,m,h=>by
  ext bindC;rw[yJ λw b=>h w (h_ _ b)];split
  .rfl
  .let:x≠n:=by rintro rfl;show h v eQ
   simp[this]
theorem yM{kindOf:Str->bb _}:∀{P:I Str}{a:I a_}{i:Nat}{m:Str->bb a_},P.Nodup->P[i]?=G x->a[i]?=G v->kindOf x=G .local->bindL kindOf (P.zip a) m x=G v |[],_,_,_,_,h,_,_|_::_,[],_,_,_,_,h,_=>by simp at h|p::P,w::a,0,m,nd,h1,b,e=>by simp at h1 b;subst h1;subst b;show bindL _ ((p,w)::P.zip a) m p=_;ext bindL;rw[yO λv f=>(r4.mp nd).1 (H_ f).1,ax e];simp|p::P,w::a,i+1,m,nd,h1,b,e=>by ext bindL;show yM (r4.mp nd).2 (by simpa using h1) (by simpa using b) e
theorem yi{kindOf:Str->bb _}:∀{P:I Str}{a:I a_}{i:Nat}{m:Str->bb a_},P.Nodup->P[i]?=G x->a[i]?=G v->kindOf x≠G .local->bindC kindOf (P.zip a) m x=G v |[],_,_,_,_,h,_,_|_::_,[],_,_,_,_,h,_=>by simp at h|p::P,w::a,0,m,nd,h1,b,e=>by simp at h1 b;subst h1;subst b;show bindC _ ((p,w)::P.zip a) m p=_;ext bindC;rw[yJ λv f=>(r4.mp nd).1 (H_ f).1,aE e];simp|p::P,w::a,i+1,m,nd,h1,b,e=>by ext bindC;show yi (r4.mp nd).2 (by simpa using h1) (by simpa using b) e
def start(N:I Str)(a:I V):St:=a.map G++ey (N.length-a.length) CL
def jz(i:TB)(P:m4)(w:k?)(K:lD)(c:Str->bb a_)(base:Heap)(N:I Str)(b:Str)(a:nS)(f:aT)(h:a_)(A:m3)(outer:I Env)(s:d_)(H:Hp)(E:XK):Cx where
 prog:=P
 w:=w
 K:=K
 mg:=c
 base:=base
 A:=A.deeper (envOfC b a s.heap.objs.size f h)
 N:=N
 s₀:=s
 H₀:=H
 env:=envOfC b a s.heap.objs.size f h
 outer:=outer
 stack:=envOfC b a s.heap.objs.size f h::outer
 ex:=[]
 calm:=u
 fn:=λ_=>u
 pn:=[]
 xe:=λe j=>wpAny (model P w) (A.deeper (envOfC b a s.heap.objs.size f h)) (leaving (envOfC b a s.heap.objs.size f h) e) (λ_ g=>i outer H s E e g) (λl g=>i outer H s E l g) j
def Cn{sc:nS}(h:sc.names.lookup x=G .cell):∃c,(pj n sc.names []).lookup x=G c:=by let q:=T? _ n [] (.inl h);show EM.mp q
def aiu{K:lD}(S:qz N U scope)(hd:A.handled=CL)(e0:p0 P w K mg base A outer s H)(G:J.length=U.length)(r:b_ J us)(x:InCallC s s.heap.objs.size (bindL (envOfC qual scope s.heap.objs.size f cd).kindOf (U.zip us) λ_=>CL) (pj (s.heap.objs.size+1) scope.names []) (bindC (envOfC qual scope s.heap.objs.size f cd).kindOf (U.zip us) λ_=>CL) s1):a! (jz CX P w K mg base N qual scope f cd A outer s H E) [] (start N J) H s1:=by
 let C:U.length<=N.length:=by let:=dt A? S.pre;rw[p']at this;ext
 let(o,F,0,B):=x.done;let j:∀b:aT,b∉(jz CX P w K mg base N qual scope f cd A outer s H E).ex:=λb z=>a7 (show b∈([])from z) ();show#[#[e0.mod,S.kind,W,W,dc _,λy z c o g=>?_,λy m=>?_,λy c _ h=>?_,λ_=>hd,m3.frames_deeper e0.frames,.inr #[W,W],λb z=>a7 z (j b),e0.bs,e0.bsz,λb _ _=>j b,λb z=>a7 z (j b),e0.afw,e0.frf],W,e0.bare,Un.kept B,#[_,x.toInCall.ns,λi y v o g I=>?_],λy c h=>#[_,x.cell y c h],e0.hok.fresh (dc _),λy c h=>?_,λp n=>a7 (show p∈([])from n) (),e0.hok.kept B,?_]
 .show name_of_addr x.apart (y! o) (y! g)
 .rcases m with m|m
  .show Cn m
  .show a7 W (S.alN _ (y! m))
 .show AS (x.above y c (y! h))
 .let L:i<J.length:=by
   unfold start at g;by_cases L:i<J.length
   .show L
   .rw[oq (by simpa using L)]at g;rw[z5]at g;split at g<;>ext g
  let Q:J[i]?=cL v:=by unfold start at g;rw[oT (by simpa using L),iD]at g;cases e:J[i]? with |none=>rw[e]at g;ext g|some a=>rw[e]at g;ext g;rfl
  let(u,t,O):=r.get Q;let n:U[i]?=cL y:=by rw[<-S.pre,List.getElem?_take_of_lt ()];show o
  let l:U.Nodup:=by rw[<-S.pre];show S.nd.sublist (List.take_sublist _ _)
  show#[u,O,?_];rcases S.par y (lq n)with k|k
  .show .inl #[k,yM l n t k]
  .let(c,e):=Cn k;show .inr #[.inl k,c,e,?_];let q:=x.cell y c e;rw[yi l n t (by show scope.names.lookup y≠_;rw[k];decide)]at q;show q
 .show e0.hok.fresh (AS (x.above y c (y! h)))
 .ext start;show _=N.length;rw[jl,dO,p!];ext
def Ng{K:lD}{kV:a_}(M:K.lookup f=cL #[oc,od,.func (vk name qual params body scope dV kV doc pm an cdv ct),osl])(p:S2 K cdv qual=Ld)(S:qz N ps scope)(len:∀d H Q E,sp d H Q E->d.length=ps.length)(z:∀(A)(outer)(s)(H)(d)(Q)(E),ik k (A.deeper (envOfC qual scope s.heap.objs.size f cdv))->sp d H Q E->∃t,nh (jz CX P w K mg base N qual scope f cdv A outer s H E) body t/\t {nx:=λ_ c=>Q .non c,rt:=Q} (start N d) H):ek P w K mg base CX (k+1) f (vk name qual params body scope dV kV doc pm an cdv ct) ps sp:=by
 show#[len,λA outer s H F L d Q E m e0 Y r h=>?_];let U:=len _ _ _ _ h;let G:K.In _:=e0.mod.kin.keeps λb o e=>(e0.bs b o e).1;let l:s.heap.NoLimit:=e0.mod.nolimit.keeps λb o e=>(e0.bs b o e).1;let B:∀y∈ps.zip L,scope.names.lookup y.1=cL _\/(scope.names.lookup y.1=cL _/\((pj (s.heap.objs.size+1) _ []).lookup y.1).isSome=Ld):=λ#[n,v]O=>by
  rcases S.par n (H_ O).1 with q|q
  .show .inl q
  .show .inr #[q,T? _ _ _ (.inl q)]
 show codeAny_call_function m.depth (G _ _ M) W S.co S.gen W (PySem.W.codeRec_of G p) (Y _ _ _ _ ?_);show wpAny_newFunctionEnv_cells S.kind B λenv X C x=>?_;subst X;show#[l.keeps x.toInCall.keep,codeAny_func ?_];let(t,R,T):=z A _ s H d Q E (m.deeper _) h;let I:a! (jz CX P w K mg base N qual _ f cdv A _ s H E) [] _ H C:=aiu S m.hd e0 U r x;show wpAny_mono (R [] C _ H _ I T) (λZ j g=>?_) λe j g=>g
 let i:∀{a:St}{c:Hp}{v:V}{u1:a_},a! (jz CX P w K mg base N qual scope f cdv A _ s H E) [] a c j->b? v u1->Q v c->CE outer P w H s Q u1 j:=λ{a c v u1}J rv q=>#[v,c,J.os,J.bare,J.base,J.hok,rv,q]
 cases Z with |ret u1=>let(v,a,c,J,rv,q):=g;show i J rv q|next=>let(a,c,J,q):=g;show i (v:=V.non) J W q|brk|cont=>let(_,_,_,q):=g;show False.elim q
section
variable{p Z:Pos}{Y:String}
def FW(r:I V->Hp->VK->Prop)(t:TA):TE:=λa H Q=>t a H λe b=>r e b Q
def N9(u:lT X (.builtin Y) r)(o:Gl X x)(hm:X.mg x=CL)(n:ni x=G (.builtin Y))(d:PA X (e::es) t)(c:x≠"__name__":=by decide)(f:(x==("__debug__"))=M:=by decide)(q:e_ (e::es) X.env=(M,eval e X.env)::e_ es X.env:=by rfl)(b:(backTo Z (e_ es X.env)).any (·.1)=M:=by rfl):PE X (.Call (.Name x p) (e::es) [] Z) (FW r t):=by intro a s g H Q I h;show C_ (qQ I o hm n ?_ c f);show anR (de (d Z a s g H _ I h) λi j b=>by let(y,w,v,l,m):=b;show u a j g w y i Q v l m) q b
def ajp(u:lT X (.type T) r)(o:Gl X x)(hm:X.mg x=CL)(n:ni x=G (.type T))(d:PA X (e::es) t)(c:x≠"__name__":=by decide)(f:(x==("__debug__"))=M:=by decide)(q:e_ (e::es) X.env=(M,eval e X.env)::e_ es X.env:=by rfl)(b:(backTo Z (e_ es X.env)).any (·.1)=M:=by rfl):PE X (.Call (.Name x p) (e::es) [] Z) (FW r t):=by intro a s g H Q I h;show C_ (qQ I o hm n ?_ c f);show T! (de (d Z a s g H _ I h) λi j b=>by let(y,w,v,l,m):=b;show u a j g w y i Q v l m) q b
end
end L2
namespace HT
open PySem PyProof.Rows
section
open PySem.SeqAt
open PySem.AutoSeq1(wpAny_loadPart')
open PySem.MeetsSeq PySem.MeetsSeq2 PySem.MeetsSeq3
end
section
def r?(r:IsTup s.heap t J.toArray)(y:IsTup s.heap b ws.toArray)(q:J≠[])(B:ws=[]->Q (.ref t) s)(z:ws≠[]->Q (.ref s.heap.objs.size) {s with heap:=s.heap.push {cls:=.type "tuple",data:=.seq (J++ws).toArray}})(c:J.length+ws.length<=eg):wpAny (model prog w) A (nt .Add (.ref t) (.ref b)) Q E s:=by
 let((cls,dd,data,o),i,v,n,u):=id r;let((C,g,m,f),a,l,p,j):=id y;simp_all;subst v u l j;let e:J.toArray++ws.toArray=(J++ws).toArray:=by simp
 by_cases h:ws=[]
 .show concat_meets #[_,i,W] #[_,a,W] IJ HV LF Kf (Kz _ _) (tuple_addW1 t b _ _ n p dd g o f (by simpa using q) (by simp[h])) #[i,a,B h]
 .show concat_meets #[_,i,W] #[_,a,W] IJ HV LF Kf (Kz _ _) (tuple_addW2 t b _ _ n p dd g o f (by simpa using q) (by simpa using h) (by show c)) #[i,a,?_]
  rw[e];show z h
def hA(n d:Nat):bb Int->Nat|none=>d|some v=>if v<0 then(v+(n:Int)).toNat else min v.toNat n
def km(n d):hA n d CL=d:=W
def nH(n d k:Nat):hA n d (G (k))=min k n:=by rfl
def Ux(n d)(hd:d<=n)(o):hA n d o<=n:=by cases o with|none=>show hd|some v=>
  show(if v<0 then(v+(n)).toNat else min _ n)<=n;by_cases a:v<0
  .rw[ax a];ext
  .rw[aE a];show BR _ _
def G7(v)(n d:Nat):(if v<0 then max (v+(n:Int)) 0 else min v (n))=((hA n d (G v))):=by
 show(if v<0 then max _ 0 else min v _)=(((if v<0 then(v+(n)).toNat else min _ n)));by_cases a:v<0
 .simp only[ax a];ext
 .simp only[aE a];ext
def afD(lo b)(n:Nat):e?.Slice.sliceAdjust lo b 1 (n)=(((hA n 0 lo):Int),((hA n n b):Int)):=by
 let a:¬((1:Int)<0):=by simp_all
 ext e?.Slice.sliceAdjust;show Prod.ext ?_ ?_
 .cases lo with |none=>rfl|some v=>show G7 v n 0
 .cases b with|none=>rfl|some v=>show G7 v n n
def agb(i j:Nat):e?.Slice.slicePlaces (i) (j) 1=j-i:=by
 ext e?.Slice.slicePlaces;let a:(1:Int)>0:=by ext
 simp only[a,if_true,II];split<;>simp_all
def rB(p:rk v o)(h:Q o s):wpAny (model prog w) A (e?.Slice.slicePartIndex v) Q E s:=by cases p with|none=>show slicePart_none h|int i t=>show slicePart_int h
def tL{lo:bb Int}{Q:Int×Int×Nat->d_->Prop}(f:s.heap.IsSliceOf U J C .none)(pl:rk J lo)(e:rk C o)(h:Q (((hA n 0 lo)),1,hA n n o-hA n 0 lo) s):wpAny (model prog w) A (e?.Slice.sliceApplied (.ref U) (pure (n))) Q E s:=by let(i,a,g,b):=id f;show bY (bY (l_ a b W (bY (l_ a b W (bY (l_ a b W (ew ?_)))))));show bY (slicePart_none ?_);show bY (rB pl (bY (rB e (bY (ew ?_)))));show wpAny _ _ (match e?.Slice.sliceAdjust lo o 1 _ with|(lo,o)=>pure (lo,(1:Int),e?.Slice.slicePlaces lo o 1)) _ _ s;rw[afD lo o n];show wpAny _ _ (pure _) _ _ s;rw[agb];show ew h
def akY(xs:Array a_)(i k:Nat):((eI k).filterMap λ(m:Nat)=>xs[((i)+(m:Int)*1).toNat]?).toArray=((xs.toList.drop i).take k).toArray:=by
 let e:(λ(m:Nat)=>xs[((i)+(m:Int)*1).toNat]?)=λm=>xs[i+m]?:=by
  funext m;let:((i)+(m:Int)*1).toNat=i+m:=by ext
  rw[this]
 rw[e];let:=pick_run xs i k;rw[Je]at this;let e2:((λx=>xs[x]?)∘λx=>i+x)=λm=>xs[i+m]?:=W;rw[e2]at this;rw[this]
def k!{lo:bb Int}(a:IsTup s.heap t items)(j:s.heap.IsSliceOf J vl U .none)(pl:rk vl lo)(l:rk U C)(n:¬(hA items.size 0 lo=0/\hA items.size items.size C=items.size))(h:Q (.ref s.heap.objs.size) {s with heap:=s.heap.push {cls:=.type "tuple",data:=.seq ((items.toList.drop (hA items.size 0 lo)).take (hA items.size items.size C-hA items.size 0 lo)).toArray}})(c:items.size<=eg):wpAny (model prog w) A (getItem (.ref t) (.ref J)) Q E s:=by
 let i:sizeOk (.seq ((items.toList.drop (hA items.size 0 lo)).take (hA items.size items.size C-hA items.size 0 lo)).toArray):=by show((items.toList.drop _).take _).toArray.size<=eg;rw[lE,p',H!,J?];ext
 let u:hA _ _ C<=items.size:=Ux _ _ (dc _) C;let(m,b,f,o):=id j;let g:s.TypeIs (.ref J) _:=#[m,b,f];ext getItem
 try specialize qi ?_
 show bY (IZ a.typeIs () ?_);show bY (Em a.typeIs D? (vr D? a.typeIs entry_tuple_getitem ?_ (args_tuple_getitem _ _)))
 show wpAny _ _ (e?.Tuple.tupleItemsOf _>>=_) _ _ s;show bY (tupleItemsOf_ a ?_);show bY (N? g ?_);show bY (tL j pl l ?_);let e:¬((((hA items.size 0 lo):Int)==0&&(1:Int)==1&&(hA items.size items.size C-hA items.size 0 lo)==items.size)=Ld):=by intro q;rw[c!,c!]at q;let r:=eq_of_beq q.1.1;let p:=eq_of_beq q.2;show n #[by ext,by ext]
 show wpAny _ _ (if(((hA _ 0 lo:Nat):Int)==0&&(1:Int)==1&&(hA _ _ C-hA _ 0 lo)==items.size)=Ld then _ else _) _ _ s;rw[aE e,akY]
 first |show bY (vo (ew #[_,W,ew h]) i)|show bY _|show bY _|show bY _
end
end HT
namespace L2
open PySem PySem.Spec PyProof.Rows
abbrev TO:=St->Hp->(bb Int->Hp->Prop)->Prop
def PO(X:Cx)(e:bb c_)(t:TO):Prop:=∀(a:I (aT×Obj))(s:d_)(b:St)(H:Hp)(Q:bb Int->Hp->Prop),a! X a b H s->t b H Q->wpAny (model X.prog X.w) X.A (evalPart e X.env) (λu f=>∃o g,a! X a b g f/\rk u o/\Q o g) X.xe s
def Hg:TO:=λ_ H Q=>Q CL H
def MF(t:TE):TO:=λa H Q=>t a H λx b=>∃i,x=.int i/\Q (G i) b
def qI:∀{a:I _},b_ (ns.map V.int) a->IntsAre a ns:=by induction ns with |nil=>intro a r;ext r;show .nil|cons n ns g=>intro a r;cases r with|cons f b=>let(t,e):=f;subst e;show .cons n t (g b)
section
variable{Z:bb c_}
def RB:PO X CL Hg:=by intro a s b H Q I h;show ew #[_,H,I,.none,h]
def Gi(h:PE X e o):PO X (G e) (MF o):=by intro a s b H Q I j;show de (h a s b H _ I j) λu n a=>?_;let(x,m,l,f,g):=a;let(i,0,q):=g;let(t,0):=f;show#[_,m,l,.int i t,q]
def X9(X:Cx)(r:V->bb Int->bb Int->Hp->VK->Prop):Prop:=∀(a:I (aT×Obj))(s:d_)(b:St)(H:Hp)(x:V)(v f e:a_)(Z h:bb Int)(g:aT)(Q:VK),a! X a b H s->b? x v->s.heap.IsSliceOf g f e .none->rk f Z->rk e h->r x Z h H Q->∃T id,typeLookup (.type T) "__getitem__"=pure (G (.builtin id))/\s.TypeIs v T/\wpAny (model X.prog X.w) X.A (getItem v (.ref g)) (EP X a b Q) X.xe s
def Dy(r:V->bb Int->bb Int->Hp->VK->Prop)(f:TE)(b e:TO):TE:=λa H Q=>f a H λx i=>b a i λl h=>e a h λu g=>r x l u g Q
def MZ(C:X9 X r)(G:PE X e te)(E:PO X Z tl)(A:PO X hi th):PE X (.Subscript e (.Slice Z hi CL p2) pos) (Dy r te tl th):=by intro a s f H Q I h;show Subscript_ (de (G a s f H _ I h) λv o a=>?_);let(x,R,O,p,y):=a;show wpAny_Slice (de (E a o f R _ O y) λi n#[l,P,N,pl,w]=>de (A a n f P _ N w) λg j a=>?_);let(Y,m,U,z,t):=a;show ew ?_;let L:a! X a f m {j with heap:=j.heap.push {cls:=.type "slice",data:=.fields #v[i,g,.none]}}:=U.kept λb S q=>bg _ q;let(T,id,J,B,F):=C a _ f m x v i g l Y _ Q L p (Heap.IsSliceOf.new ..) pl z t;show tail_any B J F (by with_unfolding_all rfl)
def Jb(xs:I V)(Z a:bb Int):I V:=(xs.drop (HT.hA xs.length 0 Z)).take (HT.hA xs.length xs.length a-HT.hA xs.length 0 Z)
def tT(xs)(Z a):(Jb xs Z a).length<=xs.length:=by ext Jb;rw[p',H!];ext
def Yo(K:lD):V->bb Int->bb Int->Hp->VK->Prop:=λx Z b H Q=>∃a xs,x=.ref a/\hY K H a xs/\¬(HT.hA xs.length 0 Z=0/\HT.hA xs.length xs.length b=xs.length)/\∀p,H p=CL->Q (.ref p) (bW H p (.tup (Jb xs Z b)))
def VX:X9 X (Yo X.K):=by
 intro g s p H x v u t Z A w Q I y o pl l h;let(a,xs,0,m,n,q):=h
 injections;subst_vars
 let(f,r,j,i):=I.tuple m;let e:f.toArray.size=xs.length:=r.length.symm;show#[_,_,D?.lookup,j.typeIs,?_];show HT.k! j o pl l (by rw[e];show n) ?_ (by rw[e];show i);rw[e];show#[.ref _,_,I.laid (λb z q=>bg _ q) (dc _) ?_,W,q _ (I.hok.fresh (dc _))];show#[la (tT xs Z A) i,_,(r.drop _).take _,qf.new _ _]
def T3(K:lD):R2:=λx y H Q=>∃a b xs ys,x=.ref a/\y=.ref b/\hY K H a xs/\hY K H b ys/\xs≠[]/\xs.length+ys.length<=eg/\(ys=[]->Q (.ref a) H)/\(ys≠[]->∀p,H p=CL->Q (.ref p) (bW H p (.tup (xs++ys))))
def b_.ahd(r:b_ xs us):us=[]↔xs=[]:=by cases r with|nil|cons _ _=>simp
def SG:hH X (nt .Add) (T3 X.K):=by intro g s C H x y v u Q I l j h;let(a,b,xs,E,0,0,J,A,t,i,n,m):=h;subst l;subst j;let(r,f,p,_):=I.tuple J;let(B,e,o,_):=I.tuple A;show HT.r? p o (λz=>t (f.ahd.mp z)) (λz=>#[.ref a,H,I,W,n (e.ahd.mp z)]) (λz=>?_) (by rw[<-f.length,<-e.length];show i);show#[.ref _,_,I.laid (λb F q=>bg _ q) (dc _) ?_,W,m (λw=>z (e.ahd.mpr w)) _ (I.hok.fresh (dc _))];show#[by rw[jl];show i,_,f.append e,qf.new _ _]
end
def HM(n:Nat)(i:Int):bb Nat:=if 0<=i then(if i<n then G i.toNat else CL)else if-(n:Int)<=i then G (i+n).toNat else CL
def pQ(xs:I α)(i:Int):bb α:=(HM xs.length i).bind λj=>xs[j]?
def E9(h:HM n i=G j):seqIndex? i n=G j/\j<n/\-(n)<=i/\i<n:=by
 unfold HM at h;by_cases b:0<=i
 .rw[ax b]at h
  by_cases a:i<n
  .rw[ax a]at h;let e:=lp h;show#[by rw[Ab b a,e],by ext,by ext,a]
  .rw[aE a]at h;ext h
 .rw[aE b]at h
  by_cases a:-(n)<=i
  .rw[ax a]at h;let e:=lp h;show#[by rw[AP () a,e],by ext,a,by ext]
  .rw[aE a]at h;ext h
def A2(h:pQ xs i=G v):∃j,seqIndex? i xs.length=G j/\xs[j]?=G v/\j<xs.length/\-(xs.length)<=i/\i<xs.length:=by unfold pQ at h;cases e:HM _ i with|none=>rw[e]at h;simp_all|some j=>rw[e]at h;let(g,f,b,a):=E9 e;show#[j,g,h,f,b,a]
def GV{j:Nat}(h:xs[j]?=G v):pQ xs (j)=G v:=by
 let a:=(f_.mp h).1;let e:HM xs.length (j)=G j:=by ext HM;simp_all
 ext pQ;rw[e];show h
def Ay(b:c_):Prop:=∀o i,subscripted b M o i=operate [o,i] (getItem o i)
def ux(X:Cx)(r:R2):Prop:=∀(e a:c_)(b:I (aT×Obj))(s:d_)(f:St)(H:Hp)(x y:V)(v u:a_)(Q:VK),a! X b f H s->b? x v->b? y u->r x y H Q->subscripted a M v u=operate [v,u] (getItem v u)->wpAny (model X.prog X.w) X.A (subscriptTail e a v u) (EP X b f Q) X.xe s
def S4(X:Cx)(id:String)(r:V->I V->Hp->VK->Prop):Prop:=∀(a:I (aT×Obj))(s:d_)(b:St)(H:Hp)(x:V)(xs:I V)(v:a_)(e:I a_)(Q:VK),a! X a b H s->b? x v->b_ xs e->r x xs H Q->wpAny (model X.prog X.w) X.A (call (.builtin id) (v::e)) (EP X a b Q) X.xe s
section
variable{X:Cx}{a b:c_}{ta tb:TE}{Z:Pos}
def ux.or(h:ux X r)(c:ux X r'):ux X (λx y H Q=>r x y H Q\/r' x y H Q):=by
 intro f g e s i H x y v u Q I l j q m;rcases q with q|q
 .show h _ _ e s i H x y v u Q I l j q m
 .show c _ _ e s i H x y v u Q I l j q m
def Hl(m:ux X r)(c:PE X a ta)(n:PE X b tb)(l:Ay b):PE X (.Subscript a b Z) (OJ r ta tb):=by intro e s f H Q I h;show Subscript_ (WB c n I h λv u g x y p o j i q=>m a b e g f p x y v u Q o j i q (l _ _))
def Yt(K:lD):R2:=λx y H Q=>∃p xs i v,x=.ref p/\y=.int i/\hL K H p xs/\pQ xs i=G v/\Q v H
def LR(K:lD):R2:=λx y H Q=>∃p xs i v,x=.ref p/\y=.int i/\hY K H p xs/\pQ xs i=G v/\Q v H
def YL:R2:=λx y H Q=>∃z i c,x=.str z/\y=.int i/\z.length<=eg/\pQ z.cps.toList i=G c/\Q (.str #[#v[c]]) H
def Ps:ux X (Yt X.K):=by
 intro l m e s F H x y v u Q I J G h B;let(p,xs,i,z,0,0,L,N,q):=h;ext J;let(t,0):=G;let(o,r,pl,S):=I.list L;let(j,g,R,T,P,O):=A2 N;let(w,E,n):=r.get R;let M:=r.length;let U:=wu;let f:EP X e F Q w s:=#[z,H,I,n,q];by_cases C:0<=i
 .let A:i.toNat=j:=by rw[Ab C O]at g;show lp g
  show item_listR pl.isList C () (by rw[A];simpa using E) f B
 .let A:(i+(o.toArray.size)).toNat=j:=by rw[AP () P]at g;rw[lE,<-M];show lp g
  show subscriptTail_builtinR pl.isList.typeIs Ib.lookup (wpAny_getItem_list_neg pl.isList () (by rw[lE]<;>ext) () (by rw[A];simpa using E) #[W,f]) B
def WI:ux X (LR X.K):=by intro f g e s n H x y v u Q I A o h C;let(p,xs,i,z,0,0,E,G,q):=h;ext A;let(t,0):=o;let(B,r,pl,N):=I.tuple E;let(j,L,J,R,P,O):=A2 G;let(w,M,l):=r.get J;let F:=r.length;let S:=wu;let m:EP X e n Q w s:=#[z,H,I,l,q];show subscriptTail_builtinR pl.typeIs slot_tuple_getitem.lookup (getItem_tuple pl () () (by rw[lE,<-F];show L) (by simpa using M) #[W,m]) C
def Vw:ux X YL:=by
 intro e f g s C H x y v u Q I n m h o;let(z,i,c,0,0,F,r,q):=h;let(t,0):=n;let(E,0):=m;let(j,l,B,G,A,w):=A2 r;let p:z.cps.toList.length=z.length:=by simp[Str.length]
 rw[p]at l A w;let J:=wu;show tail_any (w6 s z t) slot_str_getitem.lookup (getItem_str (by let e1:decide (i< -(2^63:Int))=M:=a5 ();let e2:decide (i≥2^63)=M:=a5 ();rw[e1,e2,B4]) (by rw[l];simpa using B) #[.str #[#v[c]],H,I.tok _,#[_,W],q]) o
def Z8(K:lD):R2:=λx y H Q=>Yt K x y H Q\/LR K x y H Q\/YL x y H Q
def AN:ux X (Z8 X.K):=Ps.or (WI.or Vw)
def afp(e:I _)(n j)(u):Obj.mapSeq (·.setIfInBounds j u) {cls:=.type "list",data:=.seq e.toArray n}={cls:=.type "list",data:=.seq (e.set j u).toArray n}:=by simp[Obj.mapSeq]
def a!.lst(I:a! X pins σ H s)(h:H p=G (.lst xs)):∃(f:a8 _)(n:Nat),b_ xs f/\s.heap.get? p=G {cls:=.type "list",data:=.seq f.toArray n}/\xs.length<=eg:=by let(z,f,n,r,e):=I.hok p _ h;show#[f,n,r,e,z]
def a!.ald{i:St}{g:a8 _}(I:a! X pins i H s)(h:H p=G (.lst xs))(l:s.heap.get? p=G {cls:=.type "list",data:=.seq g.toArray n})(j:f {cls:=.type "list",data:=.seq g.toArray n}={cls:=.type "list",data:=.seq ahL.toArray n'})(r:b_ ys ahL)(c:ys.length<=eg)(t):a! X pins i (bW H p (.lst ys)) {s with heap:=s.heap.update p f,toks:=t}:=by
 let e:(s.heap.update p f).get? p=G {cls:=.type "list",data:=.seq ahL.toArray n'}:=by rw[b7 f l (by rw[j]<;>rfl),j]
 show I.write (by rw[h];trivial) (.inl W) (λb u m q=>(b5 _ _ (cx m)).trans q) #[_,e] ?_;show#[c,_,n',r,e]
def Tw:V->V->V->Hp->(Hp->Prop)->Prop:=λo i v H Q=>∃p xs k j,o=.ref p/\i=.int k/\H p=G (.lst xs)/\HM xs.length k=G j/\Q (bW H p (.lst (xs.set j v)))
def alg:YX X Tw:=by
 intro w s L H o i v M N u Q I E F P h;let(p,xs,k,j,0,0,y,J,q):=h;ext E;let(t,0):=F;let(e,n,r,g,G):=I.lst y;let(f,O,A,z):=E9 J;let l:=r.length;let R:=wu
 let C:=I.ald y g (afp e n j u) (r.set P j) (by rw[p_];show G) s.toks
 by_cases B:0<=k
 .let m:k.toNat=j:=by rw[Ab B z]at f;show lp f
  show PySem.W.ki_setAt g B () (by rw[lE,<-l];show z) (by rw[m];show#[_,C,q])
 .let m:(k+(e.toArray.size)).toNat=j:=by rw[AP () A]at f;rw[lE,<-l];show lp f
  show PySem.W.ki_setBack g () (by rw[lE,<-l];show A) () (by rw[m];show#[_,C,q])
def aaF(lo c:bb Int)(n:Nat):(sliceBounds lo c CL n).1=((HT.hA n 0 lo:Nat):Int)/\(sliceBounds lo c CL n).2.1=((HT.hA n n c:Nat):Int)/\(sliceBounds lo c CL n).2.2=1:=by
 show#[?_,?_,W]
 .cases lo with|none=>simp[sliceBounds,HT.hA]|some i=>
   simp only[sliceBounds,HT.hA,Jc,show(1:Int)>0 by decide,if_true];by_cases h:i<0
   .simp only[h,if_true]<;>ext
   .simp only[h,if_false]<;>ext
 .cases c with|none=>simp[sliceBounds,HT.hA]|some i=>
   simp only[sliceBounds,HT.hA,Jc,show(1:Int)>0 by decide,if_true];by_cases h:i<0
   .simp only[h,if_true]<;>ext
   .simp only[h,if_false]<;>ext
def xy(e:I _)(lo c):slicePick e.toArray lo c CL=((e.drop (HT.hA e.length 0 lo)).take (HT.hA e.length e.length c-HT.hA e.length 0 lo)).toArray:=by let(h,g,f):=aaF lo c _;ext slicePick;rw[h,g,f];simp only[sliceRange_one,pick_run]<;>rfl
def Zt(K:lD):V->bb Int->bb Int->Hp->VK->Prop:=λx lo e H Q=>∃a xs,x=.ref a/\hL K H a xs/\∀p,H p=CL->Q (.ref p) (bW H p (.lst (Jb xs lo e)))
def Pw:X9 X (Zt X.K):=by
 intro f s o H x v t p lo z u Q I w n pl i h;let(a,xs,0,m,q):=h
 injections;subst_vars
 let(j,r,g,l):=I.list m;let e:=r.length;show#[_,_,Ib.lookup,g.isList.typeIs,?_];show wpAny_getItem_list_slice g.isList n pl i .none () ?_ ();rw[xy,<-e];show#[.ref _,_,I.laid (λb y q=>bg _ q) (dc _) ?_,W,q _ (I.hok.fresh (dc _))];show#[la (tT xs lo z) l,_,0,(r.drop _).take _,b4 _ W]
def lT.or(h:lT X f r)(c:lT X f r'):lT X f (λxs H Q=>r xs H Q\/r' xs H Q):=by
 intro e s g H xs i Q I j q;rcases q with q|q
 .show h e s g H xs i Q I j q
 .show c e s g H xs i Q I j q
def z8:lT X (.type "list") (λxs H Q=>∃p ys,xs=[.ref p]/\(hL X.K H p ys\/hY X.K H p ys)/\∀l,H l=CL->Q (.ref l) (bW H l (.lst ys))):=by
 intro i s E H xs G Q I r h;let(p,ys,0,m,q):=h;let(u,0,F):=iO r;ext F
 let y:∀(f:a8 _),b_ ys f->ys.length<=eg->∀(v:Heap)(C:Nat),(∀b w,s.heap.get? b=cL w->v.get? b=cL w)->v.get? _=cL _->EP X i E Q _ {s with heap:=v}:=λf g j v C kp e=>#[.ref _,_,I.laid kp (dc _) (show eH _ X.w _ v _ (.lst ys)from#[j,f,C,g,e]),W,q _ (I.hok.fresh (dc _))]
 rcases m with m|m
 .let(f,g,pl,j):=I.list m;let t:=g.length;let(o,z,B,n,A):=pl.isList;show HR p (.inl W) z B A (y f g j) (by simp<;>ext)
 .let(f,g,pl,j):=I.tuple m;let t:=g.length;let(o,z,B,n,A):=pl;show HR p (.inr W) z B A (y f g j) (by simp<;>ext)
def xA:lT X (.type "tuple") (λxs H Q=>∃p ys,xs=[.ref p]/\((hL X.K H p ys/\∀l,H l=CL->Q (.ref l) (bW H l (.tup ys)))\/(hY X.K H p ys/\Q (.ref p) H))):=by
 intro j s y H xs z Q I r h;let(p,ys,0,h):=h;let(u,0,A):=iO r
 injections;subst_vars
 rcases h with⟨i,q⟩|⟨i,q⟩
 .let(f,g,pl,m):=I.list i
  let n:=g.length;show call_tuple_list pl.isList (λB kp=>?_) (by simp<;>ext);let t:=I.kept (t':=s.toks) kp
  let v:=t.laid (t':=s.toks) (λb o e=>bg _ e) (dc _) (show eH _ X.w _ _ _ (.tup ys)from#[m,f,g,qf.new _ _])
  show#[.ref _,_,v,W,q _ (t.hok.fresh (dc _))]
 .let(f,g,pl,m):=I.tuple i;show call_tuple_same pl #[.ref p,H,I,W,q]
def X!(K:lD)(T:String)(x:V)(H:Hp):Prop:=match x with |.str _=>T="str"|.int _=>T="int"|.ref p=>(T="list"/\∃xs,hL K H p xs)\/(T="tuple"/\∃o,K.lookup p=G o/\o.cls=.type "tuple"/\o.dict=CL)\/(T="dict"/\((∃e,H p=G (.dK e))\/∃e,H p=G (.dT e)))\/(T="set"/\∃S n,H p=G (.set S n))|_=>False
def Nc(I:a! X pins σ H s)(r:b? x v)(ty:X! X.K T x H):s.TypeIs v T/\∀a,v=.ref a->∃d,s.heap.get? a=G d/\d.dict=CL:=by cases x with
 |str z=>let(t,0):=r;cases(ty);show#[w6 s z t,λ_ e=>nomatch e]|int i=>let(t,0):=r;cases(ty);show#[Ge s i t,λ_ e=>nomatch e]|ref p=>
  ext r;rcases ty with⟨rfl,xs,l⟩|⟨rfl,o,f,m,h⟩|⟨rfl,f⟩|⟨rfl,S,n,f⟩
  .let(j,_,pl,_):=I.list l;show#[pl.isList.typeIs,λa e=>?_];ext e;let(o,n,e,c,h,_):=pl;show#[o,e,h]
  .show#[#[o,I.kIn p o f,m],λa e=>?_];ext e;show#[o,I.kIn _ o f,h]
  .let z:∃o,s.heap.get? p=G o/\o.ExactDict:=by
    rcases f with⟨q,f⟩|⟨q,f⟩
    .let(_,_,_,_,o,_,_,e,g,_):=I.hok p _ f;show#[o,e,g]
    .let(_,_,_,_,o,_,_,e,g,_):=I.hok p _ f;show#[o,e,g]
   let(o,e,g):=z;show#[#[o,e,g.1],λa e2=>?_];ext e2;show#[o,e,g.2.1]
  .let(o,_,_,_,e,g,_):=I.hok p _ f;show#[#[o,e,g.1],λa e2=>?_];ext e2;show#[o,e,g.2.1]|_=>show False.elim ty
def ZM(K:lD)(T:String)(r:V->I V->Hp->VK->Prop)(to:TE):TE:=λf H Q=>to f H λx e=>X! K T x e/\r x [] e Q
def Xm(K:lD)(T:String)(r:V->I V->Hp->VK->Prop)(to:TE)(t:TA):TE:=λe H Q=>to e H λx f=>X! K T x f/\t e f λxs g=>r x xs g Q
variable{Y Z:Pos}{U:String}
def UN(c:PlainAttrs T)(slot:Slot T name U)(f:typeOf (.builtin U)=pure (.type "method_descriptor"))(hm:S4 X U r)(q:PE X o to)(g:attributeBase o name X.env (eval o X.env)=eval o X.env:=by rfl)(i:(Y.endLine==Z.line)=Ld:=by rfl):PE X (.Call (.Attribute o name Y) [] [] Z) (ZM X.K T r to):=by intro e s j H Q I h;show wpAny_Call_method0_late g i (de (q e s j H _ I h) λv n a=>?_);let(x,w,m,l,ty,p):=a;let(u,t):=Nc m l ty;show#[T,U,c,slot,f,u,t,Calls.callWith_builtin W (PySem.evalArgs_none (hm e n j w x [] v [] Q m l .nil p))]
def T4(c:PlainAttrs T)(slot:Slot T name U)(i:typeOf (.builtin U)=pure (.type "method_descriptor"))(hm:S4 X U r)(F:PE X o to)(d:PA X (e::es) t)(m:attributeBase o name X.env (eval o X.env)=eval o X.env:=by rfl)(j:((backTo Z (e_ (e::es) X.env)).all (λx=>!x.1)&&(backToKw Z (keywordEach [] X.env)).all (λx=>x.1.isSome)&&decide ((e::es).length+([]:a8 u5).length+(if([]:a8 u5).isEmpty then 0 else 1)<30))=Ld:=by rfl)(n:(Y.endLine==Z.line)=Ld:=by rfl)(E:e_ (e::es) X.env=(fg,eval e X.env)::e_ es X.env:=by rfl)(l:(backTo Z (e_ es X.env)).any (·.1)=fg:=by rfl):PE X (.Call (.Attribute o name Y) (e::es) [] Z) (Xm X.K T r to t):=by intro f s g H Q I h;show wpAny_Call_method_late m j n W (de (F f s g H _ I h) λv z a=>?_);let(x,N,P,p,ty,C):=a;let(J,G):=Nc P p ty;show#[T,U,c,slot,i,J,G,?_];let q:=d Z f z g N _ P C;rw[E]at q⊢;show Calls.callWith_builtin (by show(fg||(backTo Z _).any _)=fg;rw[l]<;>rfl) (Calls.evalArgs_plain ?_);show de q λw y a=>by let(R,O,L,A,B):=a;show hm f y g O x R v w Q L p A B
end
def Lk(X:Cx)(id:String)(r:V->I V->Hp->VK->Prop):Prop:=∀(a:I (aT×Obj))(s:d_)(b:St)(H:Hp)(x:V)(xs:I V)(v:a_)(e:I a_)(Q:VK),a! X a b H s->b? x v->b_ xs e->r x xs H Q->wpAny (model X.prog X.w) X.A (call (.builtin id) (v::e)) (EP X a b Q) X.xe s
theorem b_.one:∀{x:V}{a:I a_},b_ [x] a->∃u,a=[u]/\b? x u|_,_,.cons r .nil=>#[_,W,r]
theorem b_.rep(h:b_ xs us):∀k,b_ (ey k xs).flatten (ey k us).flatten |0=>.nil|k+1=>b_.append h (b_.rep h k)
theorem tq(a):∀(k)(acc:I a_),BY (λc b=>c++b) acc.toArray (ey k a.toArray)=(acc++(ey k a).flatten).toArray
 |0,acc=>by simp|k+1,acc=>by
  let e:acc.toArray++a.toArray=(acc++a).toArray:=by simp
  let e2:(acc++a)++(ey k a).flatten=acc++(ey (k+1) a).flatten:=by rw[K',C9,pb]
  rw[<-e2,<-tq a k _,<-e,K',H8]
section
variable{Z:St}
def a!.amR{a:a8 _}(I:a! X pins Z H s)(j:H l=G (.lst xs))(e:s.heap.get? l=G {cls:=.type "list",data:=.seq a.toArray n})(h:f a.toArray=ahL.toArray)(b:b_ ys ahL)(c:ys.length<=eg):a! X pins Z (bW H l (.lst ys)) {s with heap:=s.heap.update l (Obj.mapSeq f),toks:=t'}:=by let q:=avj e f;rw[h]at q;show I.write (by rw[j];show trivial) (.inl W) (λm u i g=>(b5 _ _ (cx i)).trans g) #[_,q] ?_;show#[c,_,_,b,q]
def a!.alA(I:a! X pins Z H s)(a:b_ ys its)(b:ys.length<=eg):a! X pins Z (bW H s.heap.objs.size (.lst ys)) {s with heap:=s.heap.push {cls:=.type "list",data:=.seq its.toArray},toks:=t'}:=I.laid (λ_ _ q=>bg _ q) (dc _) #[b,its,0,a,b4 _ W]
def a!.fresh(I:a! X pins Z H s):H s.heap.objs.size=CL:=I.hok.fresh (dc _)
def a!.akA(I:a! X pins Z H s)(b:H l=G (.lst xs)):xs.length<=eg/\∃(a:a8 _)(n:Nat),b_ xs a/\xs.length=a.length/\s.heap.get? l=G {cls:=.type "list",data:=.seq a.toArray n}:=by let(z,a,n,r,e):=I.hok l _ b;show#[z,a,n,r,r.length,e]
def BX(h:n<=eg):e?.List.listTooLong n=M:=a5 ()
end
section
def zM:V->I V->Hp->VK->Prop:=λx a H Q=>∃l xs y,x=.ref l/\a=[y]/\H l=G (.lst xs)/\xs.length<eg/\Q .non (bW H l (.lst (xs++[y])))
def sU:Lk X "list.append" zM:=by
 intro a s i H x w v j Q I m t h;let(l,xs,y,0,0,b,o,q):=h
 injections;subst_vars
 let(u,0,f):=t.one;let(z,g,n,r,p,e):=I.akA b;show q_ F.slot_list_append #[_,e,W] F.entry_list_append (F.args_list_append_2 _ _) (PySem.list_append l _ n u (by rw[lE];simp_all)) #[e,?_];show#[.non,_,I.amR b e () (r.append (.cons f .nil)) ?_,W,q];rw[jl,z4];ext
def y9:V->I V->Hp->VK->Prop:=λx a H Q=>∃l b xs zs,x=.ref l/\a=[.ref b]/\H l=G (.lst xs)/\H b=G (.lst zs)/\xs.length+zs.length<=eg/\Q .non (bW H l (.lst (xs++zs)))
def yg:Lk X "list.extend" y9:=by
 intro j s B H x O v G Q I o N h;let(l,b,xs,C,0,0,m,A,J,q):=h;ext o;let(u,0,p):=N.one;ext p;let(z,a,n,r,L,e):=I.akA m;let(E,f,w,t,y,e2):=I.akA A;let g:a.toArray.size+f.toArray.size<=eg:=by rw[lE,lE];ext
 let i:¬(!a.toArray.isEmpty&&e?.List.listTooLong (a.toArray.size+f.toArray.size))=Ld:=by rw[BX g,O3];show ml
 show q_ F.slot_list_extend #[_,e,W] F.entry_list_extend (F.args_list_extend_2 _ _) (AutoSeq1.list_extend_list_list_0 l _ n b _ w i (by rw[lE];ext) ()) #[e,e2,?_]
 show#[.non,_,I.amR m e () (r.append t) ?_,W,q];rw[jl];ext
def Fz(xs:I α)(k):(ey k xs).flatten.length=k*xs.length:=by simp_all
end
section
variable{Z:m4}{w:k?}{A:m3}{E:a_->d_->Prop}
set_option maxRecDepth 100000 in
end
end L2
namespace Att
open PySem PySem.W PySem.Calls PyProof.Rows
def uj:∀(ns)(c),WellAll P h c (ns.map WData.int)->IntsAre c ns:=by
 intro ns
 induction ns with |nil=>intro c w;ext w;show .nil|cons n ns e=>intro c w;cases w with|cons a b=>ext a;show .cons _ _ (e _ b)
def ajx{l:OpenLaw}(k:l.most=G n)(e:l.row.toRowW.claim.pre args=Ld)(g:WellAll P h vals args):∃a c ns,vals=[a_.ref a]/\args=[WData.list (ns.map WData.int)]/\h.get? a=G {cls:=.type "list",data:=.seq c.toArray}/\IntsAre c ns/\ns.length<=n:=by
 let i:=(pre_splitW e).1;let q:l.pre.holds [] _=Ld:=(pre_splitW e).2;let(d,r,0,v,u):=hasAllW_cons i;obtain rfl:=hasAllW_nil u;let(xs,0,t):=hasW_list v;let(ns,0):=items_int t;let b:ns.length<=n:=by
  let f:(WTm.not (.lt (.lit (.int (n))) (.len (.arg 0)))).holds [] {args:=[.list (ns.map .int)]}=Ld:=by let f:=(holds_andW q).1;rw[k]at f;show f
  let w:=condW_of f (w_not (w_lt w_lit (w_len_list (w_arg W))));simp_all
 cases g with|cons o m=>ext m;cases o with|list p j=>show#[_,_,ns,W,W,p,uj ns _ j,b]
def ahq(l:OpenLaw)(args):l.row.toRowW.claim.post args (.bool u) args=u:=postW_of (show WShape.has [] _ _=u by first|rfl|decide|simp[WShape.arms]) (show(WTm.eq .res _).value [] _=G _ from w_eq_bool (w_res W) w_lit) W
def oI{l:OpenLaw}(O:l.most=cL n)(i:d.params.defaults=[])(call:∀(w)(k c)(N mb)(x)(o)(pm cd doc)(a)(s)(ns),Ground q loose [] XP w k N mb c.heap->U w c.heap->c.heap.get? x=cL o->o.data=.func (docDef d.name d.params d.body d.scope pm cd doc)->c.heap.CodeRec cd d.name->N d.name=cL (.ref x)->c.heap.get? a=cL {cls:=.type "list",data:=.seq s.toArray}->IntsAre s ns->ns.length<=n->c.gens=#v[]->codeAny (model l.prog w) callerA (.call (.ref x) #[[.ref a],[]]) (λr D=>r=.ok (.ret (.bool Ld))/\OldK c.heap D.heap/\D.os=c.os/\AllBare D.gens) c):WalkO q loose XP U l.row.toRowW d [] (λf s=>IH f s):=by intro w k c N mb G Y x o pm cd doc J kV A E j u h C v t as p L y g B;obtain rfl:J=.none:=Dflts.none u i;obtain rfl:kV=.none:=Dflts.noKw u;let(a,s,ns,0,0,m,b,e):=ajx O p g;show enter_call (By (call w k c N mb x o pm cd doc a s ns G Y A (fd_plain E) j h m b e C) λr D z=>?_);let(0,I,H,F):=z;show#[.inl #[_,_,[],W,λ_=>W,.bool Ld,ahq l _,λ_=>#[R5,λ_ hm=>(nomatch hm)]],I,H,F]
end Att
namespace L2
open PySem PySem.Spec PyProof.Rows
theorem mG:∀{a:I a_}{ns:I Int},IntsAre a ns->b_ (ns.map V.int) a|_,_,.nil=>.nil|_,_,.cons n t h=>.cons #[t,W] (mG h)
def Y1(H:Hp):Prop:=∀b,H b=CL\/∃o xs,H b=G (.frz o (.lst xs))
def MQ{K:lD}(R:K.In s₁.heap)(l:s₁.heap.Ns gE mg)(f:s₁.heap.Ns builtinsNs mb)(C:∀x:Str,x≠"__name__"->mb x=ni x)(L:s₁.heap.NoLimit)(Z:s₁.gens=#v[])(D:s₁.heap.get? a=cL {cls:=.type "list",data:=.seq vs.toArray})(hi:IntsAre vs ns)(N:ns.length<=eg)(Y:ik k callerA)(F:∀base,K.In base->base.Ns gE mg->ek P w K mg base CX k fa fd [x] sp)(M:∀(s)(u),u_ s fd #[[u],[]] [(x,u)])(B:∀H,Y1 H->hL K H a (ns.map V.int)->sp [.ref a] H (λv _=>v=.bl Ld) λ_ _ _=>False)(E:∀H e c,CX [] H s₁ (λ_ _ _=>False) e c->False):codeAny (model P w) callerA (.call (.ref fa) #[[.ref a],[]]) (λr c=>r=.ok (.ret (.bool Ld))/\OldK s₁.heap c.heap/\c.os=s₁.os/\AllBare c.gens) s₁:=by
 let rv:=mG hi;let I:=hi.length
 let i:∀H:Hp,Y1 H->hL K H a (ns.map V.int)->jo P w H s₁.heap->(∀b,H b≠CL->b=a)->(H a≠CL->K.lookup a=CL)->codeAny (model P w) callerA (.call (.ref fa) #[[.ref a],[]]) (λr c=>r=.ok (.ret (.bool Ld))/\OldK s₁.heap c.heap/\c.os=s₁.os/\AllBare c.gens) s₁:=by
  intro H O hS hok Q hK;let jR:∀{b:aT}{o:Obj},s₁.heap.get? b=cL o->H b=CL->(HU _ H).get? b=cL o:=λe n=>akX e n;let A:∀{b:aT}{o:Obj}{es:Array _}{t:Nat},s₁.heap.get? b=cL o->o.data=.dict es t->H b=CL:=λ{b o es t}e d=>by cases q:H b with |none=>rfl|some u=>let G:b=a:=Q b (by rw[q];simp);subst G;rw[D]at e;ext e;let d':Data.seq _ _=Data.dict es t:=d;ext d'
  let g:∀{b:aT}{m:Str->bb _},s₁.heap.Ns b m->(HU _ H).Ns b m:=λ{b m}#[o,es,t,e,d,r]=>#[o,es,t,jR e (A e d),d,r];let p:K.In _:=λb o e=>jR (R b o e) (by cases q:H b with|none=>rfl|some u=>let G:b=a:=Q b (by rw[q];simp);subst G;rw[hK (by rw[q];simp)]at e;ext e)
  let hM:Mod K mg _:=#[p,g l,#[mb,g f,C],by let(mc,h1,h2):=L;show#[mc,g h1,h2]];let e0:p0 P w K mg _ callerA [] s₁ H:=#[W,hM,λb o e=>OW e,Q? (akE _ _),trivial,λb f=>a7 (show b∈([])from f) (),hok,.of_eq Z];show By ((F _ p (g l)).run _ [] s₁ H _ [.ref a] [.ref a] _ _ Y e0 (M s₁ _) (.cons W .nil) (B H O hS)) λr c h=>?_;cases r with |error e=>show(E H e c h).elim|ok fl=>cases fl with|next|brk|cont=>show False.elim h|ret u=>let(v,H',X,y,un,J,T,q):=h;let U:v=.bl Ld:=q;subst U;obtain rfl:u=a_.bool Ld:=T;show#[W,OldK.of_keep λb o e=>?_,X,y];cases q:H b with |none=>show un.keep b o e q (by intro z;show a7 (show b∈([])from z) ()) ()|some u=>
     rcases O b with z|⟨ob,xs,z⟩
     .rw[q]at z;ext z
     .let S:=un.agB b ob _ z;let(e1,_):=hok b _ z;let(e2,_):=J b _ S;rw[e]at e1;ext e1;show e2
 cases hk:K.lookup a with |some o=>let e:=R a o hk;rw[D]at e;ext e;show i _ (λ_=>.inl W) (.inr #[_,_,_,hk,W,W,W,by rw[lE,I];show N,by simpa using rv]) (λb u z=>by let j:(CL)=cL u:=z;ext j) (λb z=>a7 W z) λz=>a7 W z|none=>
  show i (λb=>if b=a then cL _ else CL) (λb=>?_) (.inl (.inr #[{cls:=.type "list",data:=.seq vs.toArray},ax W])) (λb u z=>?_) (λb z=>?_) λ_=>hk
  .by_cases f:b=a
   .show .inr #[_,_,ax f]
   .show .inl (aE f)
  .by_cases f:b=a
   .let j:=(ax f).symm.trans z;ext j;subst f;show#[D,by rw[dO];show N,vs,_,rv,D]
   .let j:=(aE f).symm.trans z;ext j
  .by_cases f:b=a
   .show f
   .show a7 (aE f) z
def aL(s:kl)(j:Nat):kl:=match s with |.ClassDef _ _ _ body _ _ _ _ _ _ _=>body.getD j (.Pass #[0,0,0,0])|_=>.Pass #[0,0,0,0]
def oZ(s:kl):Arguments:=match s with|.FunctionDef _ a _ _ _ _ _ _ _ _=>a|_=>{posonlyargs:=[],args:=[],vararg:=CL,kwonlyargs:=[],kw_defaults:=[],kwarg:=CL,defaults:=[]}
def eX(s:kl):I kl:=match s with|.FunctionDef _ _ b _ _ _ _ _ _ _=>b|_=>[]
def aK(s:kl):nS:=match s with|.FunctionDef _ _ _ _ _ _ sc _ _ _=>sc|_=>{kind:=.function,names:=[],isGenerator:=M,isCoroutine:=M}
abbrev rj:TB:=λ_ _ _ _ _ _=>False
abbrev E0:XK:=λ_ _ _=>False
def E5:eu rj X E0:=λ_ _ _ _ _ _ _ h=>h.elim
structure l!(K:lD)(x qual:Str)(st:kl)(f:aT)(fd:t5):Prop where
 ex:∃(oc:a_)(od:bb aT)(kV doc pm:a_)(an:bb aT)(cdv ct:a_)(osl:Array (bb a_)),fd=vk x qual (oZ st) (eX st) (aK st) .none kV doc pm an cdv ct/\K.lookup f=G #[oc,od,.func fd,osl]/\S2 K cdv qual=u
 kp:t! K (.ref f)=u
section
variable{K:lD}
def l!.ok{st:kl}(F:l! K x qual st f fd)(S:qz N ps (aK st))(len:∀d H Q E,sp d H Q E->d.length=ps.length)(e:∀(c)(A)(outer)(s)(H)(d)(Q)(E),ik k (A.deeper (envOfC qual (aK st) s.heap.objs.size f c))->sp d H Q E->∃t,nh (jz rj P w K mg base N qual (aK st) f c A outer s H E).nox (eX st) t/\t {nx:=λ_ r=>Q .non r,rt:=Q} (start N d) H):ek P w K mg base rj (k+1) f fd ps sp:=by let(o,n,kV,l,m,p,c,ct,g,0,i,b):=F.ex;show Ng i b S len λA outer s H d Q E j a=>?_;let(t,h,q):=e c A _ s H d Q E j a;show#[t,h.nox,q]
def l!.binds{st:kl}(F:l! K x qual st f fd)(h:∀(kV doc pm)(an)(c ct)(us),us.length=ps.length->bindArgs (vk x qual (oZ st) (eX st) (aK st) .none kV doc pm an c ct) #[us,[]]=pure (ps.zip us)):hI K fd ps []:=by let(g,e,kV,doc,pm,an,c,ct,a,0,i,b):=F.ex;show .all (h kV doc pm an c ct)
def NT{st:kl}{kV:a_}(l:K.lookup f=G #[U,J,.func (vk x qual (oZ st) (eX st) (aK st) .none kV doc pm an o ct),C])(c:S2 K o qual=u)(k:t! K (.ref f)=u):l! K x qual st f (vk x qual (oZ st) (eX st) (aK st) .none kV doc pm an o ct):=#[#[U,J,kV,doc,pm,an,o,ct,C,W,l,c],k]
end
def NP(a:ik k A):A.units+1<cLine:=ajf (Nat.add_le_add_left () _) a.units
section
variable{X:Cx}
def pv(i)(e:X.N[i]?=G x:=by rfl)(b:Vis X.env.scope x:=by first|show Or.inl W|show Or.inr _)(hd:(x==("__debug__"))=M:=by decide)(a:(x==("__classdict__"))=M:=by decide):PE X (.Name x pos) (uo i):=Ka e b hd a
end
def g_(H a:Hp):Prop:=∀b o,H b=G o->a b=G o
def g_.refl(H):g_ H H:=λ_ _ h=>h
def g_.trans(a:g_ H H1)(b:g_ H1 H2):g_ H H2:=λc o h=>b c o (a c o h)
def g_.free(e:g_ H H')(h:H' l=CL):H l=CL:=by cases q:H l with|none=>rfl|some o=>rw[e l o q]at h;ext h
end L2
set_option maxHeartbeats 4000000
namespace L2
open PySem PySem.Spec PyProof.Rows
section
variable{Z:St}
def a!.aeZ{ch:a8 _}(I:a! X pins Z H s)(i:∀b∈ch,pS X pins H b)(k:∀b u,b∉ch->s.heap.get? b=G u->h'.get? b=G u)(l:s.heap.objs.size<=p)(new:eH X.prog X.w (bW H p o) h' p o):a! X pins Z (bW H p o) {s with heap:=h',toks:=t'}:=by
 let w:=I.hok.fresh l;let f:∀b u,H b=G u->b∉ch:=λb u e z=>by rw[(i b z).1]at e;ext e
 let h:∀b u,s.heap.get? b=G u->b≠p:=λb u e=>iF (lr (br e) l);show I.step (λb g=>?_) (λb u _ _ a e _=>k b u a e) (λb u _ _ a e _=>#[_,k b u a e]) (λb u _ e n=>by rw[bh (h b u e)];show n) (λb u a e=>#[u,k b u a e]) (λb xs e=>by rw[bh (ci e w)];show e) (λb u xs e=>by rw[bh (ci e w)];show e) (λb J e=>#[#v[],by rw[bh (ci e w),e];simp]) (λm hm=>?_) (λb u e=>?_) I.bare
 .let(_,C,_,B,A,y):=i b g;show#[B,C,A,y]
 .let(j,es,E,t,r):=hm;show#[j,es,E,k _ j (λz=>(i _ z).2.1 W) t,r]
 .by_cases g:b=p
  .subst g;rw[aR]at e;ext e;show new
  .rw[bh g]at e
   show(I.hok b u e).afT (λc v a q=>k c v ?_ q) (λc q=>by rw[bh (ci q w)];show q) λc xs q=>by rw[bh (ci q w)];show q
   rcases a with z|z
   .rw[z];show f b u e
   .show f c _ z
end
def V!(K:lD)(a:aT):It:=#[λi H=>∃xs x,hL K H a xs/\xs[i]?=G x,λi H v b=>∃p x,H p=CL/\v=.ref p/\(∀xs,hL K H a xs->xs[i]?=G x)/\b=bW H p (.tup [.int i,x]),λi H=>∃xs,hL K H a xs/\xs.length<=i]
def ajO{K:lD}(a e it)(r:e≠it):Turn P w K (.Tuple elts kk tp) (V! K a) [e,it] e (λi h=>(∃old,v? h e it i old)/\h.IsListIter it a i)where
 mem:=by simp
 obj:=λi h l b g=>by
  let((old,j),o,G,_,d):=l;rcases hX.mp g with z|g
  .subst z;show#[_,j,λv z=>by cases(show Data.fields _=Data.cell v from z)]
  .let z:b=it:=by simpa using g
   subst z;show#[o,G,λv z=>by rw[d]at z;ext z]
 keep:=λi h h' l k=>by let((old,j),f):=l;show#[#[old,k e () _ j],f.at λo q=>k it () o q]
 item:=by
  intro X Q F R U i m s T H E I A l L;subst Q F R;let((old,j),f):=l;let(xs,x,y,C):=L;let(B,rv,p,hz):=I.list y;let(u,hu,ru):=rv.get C;show wpAny_pyNext_enum_item j f p.isList (by simpa using hu) r λh1 G S hT hsz hk=>#[_,W,?_];show D3 G λZ M n=>?_;let t:=br j;let J:it<s.heap.objs.size:=by let(_,z,_):=f;show br z
  let hn:=I.hok.fresh (dc _);let kk:∀b o,b∉[e,it]->s.heap.get? b=cL o->Z.get? b=cL o:=λb o g q=>by let Y:b≠e:=λz=>g (by simp[z]);let h4:b≠it:=λz=>g (by simp[z]);show(n.2 b Y).trans (hk b o Y h4 q)
  let O:=(n.2 _ (n? t)).trans hT
  let I2:a! X m T (bW H s.heap.objs.size (.tup [.int i,x])) {s with heap:=Z,toks:=s.toks+1}:=I.aeZ A kk (dc _) #[by show 2<=eg;decide,[.int i s.toks,u],.cons #[_,W] (.cons ru .nil),#[_,O,#[W,_,W],W]]
  show#[.ref s.heap.objs.size,_,I2,W,#[_,x,hn,W,λys hy=>by rw[I.ahN hy y];show C,W],#[#[u,M],S.at λo q=>(n.2 it r.symm).trans q],λb g=>?_];let N:b≠s.heap.objs.size:=by
   rcases hX.mp g with z|g
   .rw[z];show iF t
   .rw[show b=it by simpa using g];show iF J
  rw[bh N];show(A b g).1
 done:=by intro X Q F R U i m s T H E I A l L;subst Q F R;let((old,j),f):=l;let(xs,y,C):=L;let(B,rv,p,hz):=I.list y;let(f0,f1,f2,f3,f4,f5):=A it ();let hl:=rv.length;show wpAny_pyNext_enum_end (I.ok.hd U) j f p.isList (by simp;ext) λh1 eb=>#[W,I.turned (λb o g q=>eb b o g q) f0 f1 f3 f4 f5]
 self:=λ_ _ _ _ _ l h=>by let((old,j),_):=l;show D_ j h
mutual
inductive DV(K:lD)(H:Hp):V->aS->Prop|non:DV K H .non .none|bl(b:Bool):DV K H (.bl b) (.bool b)|int(i:Int):DV K H (.int i) (.int i)|str(x:Str):DV K H (.str x) (.str x)|tup{a:aT}{xs:a8 V}{ds:a8 aS}:hY K H a xs->DVs K H xs ds->DV K H (.ref a) (.tuple ds)|lst{a:aT}{xs:a8 V}{ds:a8 aS}:hL K H a xs->DVs K H xs ds->DV K H (.ref a) (.list ds)inductive DVs(K:lD)(H:Hp):a8 V->a8 aS->Prop|nil:DVs K H [] []|cons{v:V}{vs:a8 V}{d:aS}{ds:a8 aS}:DV K H v d->DVs K H vs ds->DVs K H (v::vs) (d::ds)end
section
mutual
theorem DV.reads(I:a! X pins σ H s):∀{v:V}{d:aS}{u:a_},DV X.K H v d->b? v u->∃as,tA s.heap u d as |_,_,_,.non,r=>by cases r;exact⟨_,.none⟩|_,_,_,.bl b,r=>by cases r;exact⟨_,.bool b⟩|_,_,_,.int i,r=>by obtain⟨t,rfl⟩:=r;exact⟨_,.int i t⟩|_,_,_,.str x,r=>by obtain⟨t,rfl⟩:=r;exact⟨_,.str x t⟩|_,_,_,.tup h hs,r=>by cases r;obtain⟨a,rv,⟨o,e,c,n,d⟩,_⟩:=I.tuple h;obtain⟨as,q⟩:=DVs.reads I hs rv;exact⟨_,.tuple e c d (by simpa using q)⟩|_,_,_,.lst h hs,r=>by cases r;obtain⟨a,rv,⟨o,n,e,c,_,d⟩,_⟩:=I.list h;obtain⟨as,q⟩:=DVs.reads I hs rv;exact⟨_,.list e c d (by simpa using q)⟩
theorem DVs.reads(I:a! X pins σ H s):∀{vs:a8 V}{ds:a8 aS}{a:a8 a_},DVs X.K H vs ds->b_ vs a->∃as,wh s.heap a ds as |_,_,_,.nil,r=>by cases r;exact⟨_,.nil⟩|_,_,_,.cons h hs,r=>by cases r with|cons e b=>obtain⟨as,q⟩:=DV.reads I h e;obtain⟨bs,f⟩:=DVs.reads I hs b;exact⟨_,.cons q f⟩
end
end
def Rj(K:lD)(a:Bool):R2:=λx y H Q=>∃b e,DV K H x b/\DV K H y e/\b.canLay0=u/\e.canLay0=u/\b.depth<=64/\Q (.bl (if a then !aS.eqv b e else aS.eqv b e)) H
section
def Vu(o:X.A.units+64<cLine):hH X (m6 .Eq) (Rj X.K M):=by intro a s n H x y v u Q I e b h;let(t,r,m,l,j,i,p,q):=h;let(as,g):=m.reads I e;let(bs,f):=l.reads I b;show apm g f j i () #[.bl _,H,I,W,q]
def Xb(o:X.A.units+64<cLine):hH X (m6 .NotEq) (Rj X.K Ld):=by intro a s n H x y v u Q I e b h;let(t,r,m,l,j,i,p,q):=h;let(as,g):=m.reads I e;let(bs,f):=l.reads I b;show apn g f j i () #[.bl _,H,I,W,q]
def Om:hH X (nt .FloorDiv) (rI (λ_ j=>0<j/\j.natAbs.log2<9000) λi j=>.int (i/j)):=YN λi j _ _ _ _ _ a q=>by show floordiv_int () (by rw[LH i ()];show q) (.inl (PyProof.noPylong_of_log2 a.2))
end
def jH(env:Env):I (Str×hO)->I (Str×aT)->I (Str×aT) |[],acc=>acc|(n,k)::r,acc=>if(k==hO.free)=u then(match env.cells.lookup n with|some c=>jH env r ((n,c)::acc)|none=>jH env r acc)else jH env r acc
theorem qK{f:Str×hO->I (Str×aT)->Sem (ForInStep (I (Str×aT)))}(g:∀n k acc,(k==hO.free)=M->f (n,k) acc=pure (.yield acc))(b:∀n c acc,env.cells.lookup n=G c->f (n,.free) acc=pure (.yield ((n,c)::acc))):∀(names:I (Str×hO))(acc:I (Str×aT)),(∀y∈names,y.2=.free->∃c,env.cells.lookup y.1=G c)->forIn names acc f=pure (jH env names acc) |[],acc,_=>rfl|(n,k)::r,acc,h=>by let i:=λy l=>h y (h_ _ l);rw[P_];cases m:(k==hO.free)with |false=>rw[g n k acc m];show forIn r acc f=_;rw[qK g b r acc i];simp only[jH,m,aiW,if_false]|true=>
   let e:k=.free:=by simpa using m
   subst e;let(c,j):=h _ eQ W;rw[b n c acc j];show forIn r _ f=_;rw[qK g b r _ i];let a:=j;simp only[jH,m,if_true,a]
def vU(h:∀y∈scope.names,y.2=.free->∃c,env.cells.lookup y.1=G c):closureFor scope env=pure (jH env scope.names []):=by simp only[closureFor];rw[qK (λn k a e=>by simp_all) (λn c a b=>by simp only[dN,if_true,cellOf,b,pure_bind]) _ [] h,pure_bind]
theorem nW:∀(names)(acc),(∀x c,acc.lookup x=G c->env.cells.lookup x=G c)->∀x c,(jH env names acc).lookup x=G c->env.cells.lookup x=G c
 |[],_,h,x,c,e=>h x c e|(n,k)::r,acc,h,x,c,e=>by
  unfold jH at e;split at e
  .split at e
   .rename_i b a
    show nW r _ (λy d q=>?_) x c e;rw[o2]at q;split at q
    .simp_all
    .show h y d q
   .show nW r acc h x c e
  .show nW r acc h x c e
theorem oV:∀(names)(acc)(x),(acc.lookup x).isSome=u->((jH env names acc).lookup x).isSome=u
 |[],_,_,h=>h|(n,k)::r,acc,x,h=>by
  ext jH;split
  .split
   .show oV r _ x ?_
    rw[o2];split
    .rfl
    .show h
   .show oV r acc x h
  .show oV r acc x h
theorem sR:∀(names)(acc)(x)(c),(x,hO.free)∈names->env.cells.lookup x=G c->((jH env names acc).lookup x).isSome=u
 |[],_,_,_,h,_=>by ext h|(n,k)::r,acc,x,c,h,a=>by
  rcases hX.mp h with z|h
  .ext z;simp only[jH,a];show oV r _ _ (by simp[o2])
  .ext jH
   split
   .split
    .show sR r _ x c h a
    .show sR r acc x c h a
   .show sR r acc x c h a
def BT(h:(x,hO.free)∈names)(a:env.cells.lookup x=G c):(jH env names []).lookup x=G c:=by let q:=sR _ [] x c h a;cases e:(jH env _ []).lookup x with|none=>ext|some d=>let z:=nW _ [] (λy d q=>by simp_all) x d e;rw[a]at z;show z.symm
def ab0(h:(relabel scope env).names.lookup x=G k):∃k0,(x,k0)∈scope.names/\(k=k0\/(k0=.free/\k=.cell)):=by
 let((n,k0),hm,e):=gi.mp (y! h);simp only at e;split at e
 .rename_i a
  injections;subst_vars
  let b:(k0==hO.free)=u:=by rw[c!,c!]at a;show a.1.1
  show#[k0,hm,.inr #[by simpa using b,W]]
 .injections;subst_vars
  show#[_,hm,.inl W]
theorem mQ{env:Env}:∀{names:I _}{x:Str},names.lookup x=G .free->(names.map λ(n,k)=>if(k==hO.free&&env.scope.kind==.function&&env.kindOf n==G .cell)then(n,hO.cell)else(n,k)).lookup x=G .cell\/(names.map λ(n,k)=>if(k==hO.free&&env.scope.kind==.function&&env.kindOf n==G .cell)then(n,hO.cell)else(n,k)).lookup x=G .free
 |[],_,h=>by ext h|(n,k)::r,x,h=>by
  rw[o2]at h;rw[l4];dsimp only;by_cases a:(k==hO.free&&env.scope.kind==.function&&env.kindOf n==G .cell)=u
  .rw[ax a,o2]
   cases b:x==n with |true=>show .inl W|false=>rw[b]at h;show mQ h
  .rw[aE a,o2]
   cases b:x==n with |true=>rw[b]at h;show .inr h|false=>rw[b]at h;show mQ h
def fX(own:I Str)(a:I (Str×Nat)):I Str:=own++a.map (·.1)
def lV(own:I Str)(b:I (Str×Nat))(a:St):St:=own.map (λ_=>CL)++b.map λp=>(a[p.2]?).join
def s_(X:Cx)(a:nS):I (Str×Nat)->Prop|[]=>True|p::r=>(X.N[p.2]?=G p.1/\a.names.lookup p.1=G .free/\(X.env.scope.names.lookup p.1=G .cell\/X.env.scope.names.lookup p.1=G .free))/\s_ X a r
theorem s_.mem:∀{a:I _},s_ X scope a->∀p∈a,X.N[p.2]?=G p.1/\scope.names.lookup p.1=G .free/\(X.env.scope.names.lookup p.1=G .cell\/X.env.scope.names.lookup p.1=G .free)
 |[],_,p,b=>by simp_all|q::r,h,p,b=>by
  rcases hX.mp b with z|b
  .rw[z];show h.1
  .show h.2.mem p b
def z9(X:Cx)(a:nS)(C:aT):I (Str×aT):=pj (C+1) a.names (jH X.env a.names [])
theorem vL:∀(names)(n)(acc)(x)(c),(pj n names acc).lookup x=G c->(n<=c/\(x,hO.cell)∈names)\/acc.lookup x=G c
 |[],_,_,_,_,h=>.inr h|(y,k)::r,n,acc,x,c,h=>by
  unfold pj at h;by_cases b:(k==hO.cell)=u
  .rw[ax b]at h
   let e:k=.cell:=by simpa using b
   rcases vL r _ _ x c h with⟨a,f⟩|a
   .show .inl #[R' a,h_ _ f]
   .rw[o2]at a
    split at a
    .rename_i g;ext a;show .inl #[dc _,by rw[eq_of_beq g,e];show eQ]
    .show .inr a
  .rw[aE b]at h
   rcases vL r _ _ x c h with⟨a,f⟩|a
   .show .inl #[a,h_ _ f]
   .show .inr a
theorem JN:∀(names)(n)(acc)(x),(x,hO.cell)∉names->(pj n names acc).lookup x=acc.lookup x
 |[],_,_,_,_=>rfl|(y,k)::r,n,acc,x,h=>by
  let b:=λz=>h (h_ _ z);ext pj;by_cases a:(k==hO.cell)=u
  .let e:k=.cell:=by simpa using a
   rw[ax a,JN r _ _ x b,o2];let f:(x==y)=M:=by show beq_eq_false_iff_ne.mpr λz=>h ?_;rw[z,e];show eQ
   rw[f]
  .rw[aE a];show JN r _ _ x b
theorem ve:∀(names)(h:Heap)(acc)(x)(c),(pj h.objs.size names acc).lookup x=G c->(h.objs.size<=c/\(pushCells h names).IsCell c CL)\/acc.lookup x=G c
 |[],_,_,_,_,e=>.inr e|(y,k)::r,h,acc,x,c,e=>by
  unfold pj at e;ext pushCells;by_cases b:(k==hO.cell)=u
  .rw[ax b]at e⊢
   rw[<-cc h {cls:=.type "cell",data:=.cell CL}]at e;rcases ve r _ _ x c e with⟨a,f⟩|a
   .rw[cc]at a;show .inl #[R' a,f]
   .rw[o2]at a
    split at a
    .ext a;show .inl #[dc _,_,BK _ _ _ _ (b4 _ W),W]
    .show .inr a
  .rw[aE b]at e⊢;show ve r _ _ x c e
theorem Dk:∀(names)(n:Nat)(acc:I (Str×aT)),(∀x c,acc.lookup x=G c->c<n)->(∀x y c,acc.lookup x=G c->acc.lookup y=G c->x=y)->∀x y c,(pj n names acc).lookup x=G c->(pj n names acc).lookup y=G c->x=y
 |[],_,_,_,i,x,y,c,e1,e2=>i x y c e1 e2|(z,k)::r,n,acc,h1,i,x,y,c,e1,e2=>by
  unfold pj at e1 e2;by_cases g:(k==hO.cell)=u
  .rw[ax g]at e1 e2
   show Dk r _ _ (λa d q=>?_) (λa b d f e=>?_) x y c e1 e2
   .rw[o2]at q
    split at q
    .ext q;show DO _
    .show B! (h1 a d q)
   .rw[o2]at f e
    split at f
    .rename_i j
     split at e
     .rename_i h;rw[eq_of_beq j,eq_of_beq h]
     .ext f;show a7 (h1 b _ e) (qT _)
    .split at e
     .ext e;show a7 (h1 a _ f) (qT _)
     .show i a b d f e
  .rw[aE g]at e1 e2;show Dk r n acc h1 i x y c e1 e2
theorem Er:∀{names:I (Str×hO)}{x:Str}{k a:hO},(names.map (·.1)).Nodup->names.lookup x=G k->(x,a)∈names->k=a
 |[],_,_,_,_,h,_=>by simp_all|(y,j)::r,x,k,a,f,h,hm=>by
  rw[l4,r4]at f;simp only[o2]at h;rcases hX.mp hm with e|b
  .simp_all
  .cases g:x==y with |true=>rw[eq_of_beq g]at b;show a7 (gi.mpr #[_,b,W]) f.1|false=>rw[g]at h;show Er f.2 h b
def dg(X:Cx)(s:d_)(H:Hp)(a:nS)(C:aT)(N:I Str)(b:I aT):Cx:={X with N:=N,s₀:=s,H₀:=H,env:=compEnvC a (z9 X a C) C X.env,outer:=X.stack,stack:=X.stack,ex:=b,fn:=λx=>((jH X.env a.names []).lookup x).isNone,pn:=[],xe:=λ_ _=>False}
section
variable{Z:St}
def yI{a:nS}(I:a! X pins Z H s)(e:(jH X.env a.names []).lookup x=G c):X.env.cells.lookup x=G c/\c<s.heap.objs.size:=by let h:=nW _ _ (λ_ _ q=>by simp_all) x c e;let(v,o,z,_):=I.cell x c h;show#[h,br z]
def FP(I:a! X pins Z H s)(E:scope.kind=.function)(n:(scope.names.map (·.1)).Nodup)(v:∀y∈scope.names,y.2=.free->∃c,X.env.cells.lookup y.1=cL c)(g:s.heap.objs.size<=C)(j:∀b∈U,pS X pins H b)(f:∀b∈U,b<s.heap.objs.size):(dg X s H scope C N U).Ok where
 mod:=I.ok.mod
 kind:=E
 glob:=I.ok.glob
 blt:=I.ok.blt
 above:=g
 inj:=Dk _ _ _ (λx c e=>B! (lr (yI I e).2 g)) λx y c B A=>I.ok.inj x y c (yI I B).1 (yI I A).1
 has:=λx G=>by
  let m:∃k,(relabel scope X.env).names.lookup x=cL k/\(k=.cell\/k=.free):=by
   rcases G with z|z
   .show#[_,z,.inl W]
   .show#[_,z,.inr W]
  let(k,L,t):=m;let(k0,hm,u):=ab0 L;let e:k0=.free\/k0=.cell:=by
   rcases u with z|⟨z,_⟩
   .subst z
    rcases t with z|z
    .show .inr z
    .show .inl z
   .show .inl z
  let q:((z9 X scope C).lookup x).isSome=Ld:=by
   rcases e with e|e
   .subst e;let(c,M):=v _ hm W;show T? _ _ _ (.inr (by rw[BT hm M];rfl))
   .subst e
    show T? _ _ _ (.inl ?_);cases z:scope.names.lookup x with
    |none=>show a7 hm (λhm=>by
      let:∀{l:a8 _},l.lookup x=CL->(x,hO.cell)∉l:=λ{l}=>by induction l with |nil=>show λ_=>by simp|cons p r F=>
        intro h q;rw[o2]at h;rcases hX.mp q with q|q
        .rw[<-q,dN]at h;ext h
        .split at h
         .ext h
         .show F h q
      show this z hm)|some O=>rw[Er n z hm]
  show EM.mp q
 cab:=λx c B A=>by
  let i:((jH _ _ []).lookup x).isNone=Ld:=B;let w:=A;rcases vL _ _ _ x c w with⟨z,_⟩|z
  .show la g (R' z)
  .rw[z]at i;ext i
 hd:=I.ok.hd
 frames:=I.ok.frames
 stk:=.inl W
 exf:=λb a=>#[iF (lr (f b a) g),λx c e=>by
  rcases vL _ _ _ x c e with⟨z,_⟩|z
  .show n? (lr (lr (f b a) g) (R' z))
  .show(j b a).2.2.2.2.1 x c (yI I z).1]
 bs:=I.bs
 bsz:=la I.ok.bsz I.sz
 ahG:=λb o e a=>by
  rcases(j b a).2.2.2.1 with z|z
  .show I.ok.ahG b o e z
  .show a7 (lr (br e) (la I.ok.bsz z)) (qT _)
 ahH:=λb a J=>by
  rcases hX.mp (I.afU b J)with z|z
  .show(j b a).2.1 z
  .show(j b a).2.2.1 z
 afw:=I.stack
 frf:=I.agi
def M9(I:a! X pins Z H s)(T:scope.kind=.function)(d:(scope.names.map (·.1)).Nodup)(O:∀y∈scope.names,y.2=.free->∃c,X.env.cells.lookup y.1=G c)(N:s_ X scope J)(B:s.heap.objs.size<=D)(j:D<C)(R:s.heap.objs.size<=C)(hf:∀b∈U,pS X pins H b)(P:∀b∈U,b<s.heap.objs.size)(F:h1.Ns C m)(E:∀x c,(z9 X scope C).lookup x=G c->C<c->∃v,h1.IsCell c v)(w:∀b o,s.heap.get? b=G o->h1.get? b=G o)(hd:∃n,h1.get? D=G {cls:=.type "list",data:=.seq #v[] n}):a! (dg X s H scope C (fX own J) U) [] (lV own J Z) (bW H D (.lst [])) {s with heap:=h1,toks:=t1}:=by
 let hn:=I.hok.fresh B;let(n,hd):=hd;let Q:=n? j;let h:∀x c,(z9 X scope C).lookup x=G c->C<c\/(X.env.cells.lookup x=G c/\c<s.heap.objs.size):=λx c e=>by
  rcases vL _ _ _ x c e with⟨z,_⟩|z
  .show .inl z
  .show .inr (yI I z)
 show#[FP I T d O R hf P,W,I.bare,Un.laid w B hn,#[m,F,λi x v e1 e2 e3=>?_],λx c e=>?_,?_,λx c e=>?_,λp hp=>a7 (show p∈([]:a8 (aT×Obj))from hp) (),?_,?_]
 .let f:(own++J.map (·.1))[i]?=G x:=e1;let a:(own.map _++J.map λp=>(Z[p.2]?).join)[i]?=G (G v):=e2;let A:own.length<=i:=by
   by_cases A:i<own.length
   .rw[oT (by simpa using A),iD]at a
    cases q:own[i]? with|none|some _=>rw[q]at a;ext a
   .omega
  rw[oq A,iD]at f;rw[oq (by simpa using A),iD,dO]at a;cases q:J[i-own.length]? with |none=>rw[q]at f;ext f|some p=>
   rw[q]at f a;let ex:=lp f;subst ex;let ev:(Z[p.2]?).join=G v:=lp a;let(g1,g2,g3):=N.mem p (lq q);let S:Z[p.2]?=G (G v):=by cases z:Z[p.2]? with |none=>rw[z]at ev;ext ev|some y=>rw[z]at ev;show dt G ev
   let(m0,_,hl):=I.loc;let(u,r,l):=hl p.2 p.1 v g1 S (.inr g3);show#[u,r,?_];let l2:∃c,X.env.cells.lookup p.1=G c/\s.heap.IsCell c (G u):=by
    rcases l with⟨k,_⟩|⟨_,c,e,z⟩
    .let t:X.env.scope.names.lookup p.1=G .local:=k
     rcases g3 with z|z
     .rw[z]at t;ext t
     .rw[z]at t;ext t
    .show#[c,e,z]
   let(c,e,o,L,g):=l2;show .inr #[?_,c,?_,o,w c o L,g]
   .show mQ g2
   .show(z9 X scope C).lookup p.1=G c;ext z9;rw[JN _ _ _ _ λz=>by cases Er d g2 z];show BT (y! g2) e
 .rcases h x c e with z|⟨z,_⟩
  .show E x c e z
  .let(v,o,L,g):=I.cell x c z;show#[v,o,w c o L,g]
 .show bW H D (.lst []) C=CL;rw[bh Q];show I.hok.fresh R
 .rcases h x c e with z|⟨z1,Y⟩
  .rw[bh (n? (x? j z))];show I.hok.fresh (la R (AS z))
  .rw[bh (iF (lr Y B))];show I.aet x c z1
 .show I.hok.laid w B #[by show 0<=eg;show mT _,[],n,.nil,hd]
 .show(own.map (λ_=>(CL:bb V))++J.map λp=>(Z[p.2]?).join).length=(own++J.map (·.1)).length;simp
end
def D1(X:Cx)(e:I c_)(t:TT):Prop:=∀(a:I (aT×Obj))(s:d_)(b:St)(H:Hp)(Q:Bool->Hp->Prop),a! X a b H s->t b H Q->wpAny (model X.prog X.w) X.A (forIn e u λc r=>if r=u then do let ok<-isTrue c X.env (eval c X.env);pure (ForInStep.yield ok)else pure (ForInStep.yield r)) (TP X a b Q) X.xe s
def Kt:TT:=λ_ H Q=>Q u H
def BH:D1 X [] Kt:=λ_ _ _ H _ I h=>wpAny_tests_nil #[H,I,h]
def alm(h:PT X c o):D1 X [c] o:=λa s b H Q I e=>wpAny_tests_one (h a s b H Q I e)
def Hq(J:It)(D:aT)(e:St)(g:TG)(l:TT)(j:TE)(o:Hp)(Fin:Hp->Prop):Prop:=∃W:Nat->Nat->St->Hp->Prop,(∃m,W 0 m e (bW o D (.lst [])))/\∀i m σ H,W i m σ H->(J.stop i H/\Fin H)\/(J.go i H/\∃N:St->Hp->Prop,(∀p q,N p q->∃r,r<m/\W (i+1) r p q)/\∀x q,J.yld i H x q->g x σ q λa n=>l a n λb h=>if b=u then j a h λy f=>∃ys,f D=G (.lst ys)/\ys.length<eg/\N a (bW f D (.lst (ys++[y])))else N a h)
section
def akp(l:∀x s1,XE x s1->notedBy (model prog w) A env (λe s2=>R (.error e) s2) x s1)(I:Nat->d_->Prop)(turn:∀n s,I n s->wpAny (model prog w) A (pyNext it) (λr s1=>match r with
   |none=>R (.ok .next) s1|some v=>wpAny (model prog w) A (letOwnedTupleGo C it v) (λ_ s2=>wpAny (model prog w) A (assign C env v) (λ_ s3=>wpAny (model prog w) A (forIn ifs Ld λc r=>if r=Ld then do let ok<-isTrue c env (eval c env);pure (ForInStep.yield ok)else pure (ForInStep.yield r)) (λok s4=>if ok=Ld then wpAny (model prog w) A (eval elt env) (λx s5=>wpAny (model prog w) A (call (.builtin "list.append") [acc,x]) (λ_ d=>∃m,m<n/\I m d) (λ_ _=>False) s5) XE s4 else∃m,m<n/\I m s4) (λ_ _=>False) s3) (λ_ _=>False) s2) (λ_ _=>False) s1) (λ_ _=>False) s)(n)(h:I n s):codeAny (model prog w) A (.compLoop (.ListComp elt [#[C,iter,ifs,0]] scope pos) 0 it acc env) R s:=by
 show codeAny_loop W I (λn s o=>?_) n h;show wpAny _ A _ _ _ s;show wpAny_noted ?_;rw[compTurn_list]
 let b:∀{α:Type}{t:Sem α}{Q j:α->d_->Prop}{E:a_->d_->Prop}{s:d_},wpAny _ A t Q _ s->(∀a y,Q a y->j a y)->wpAny (model prog w) A t j E s:=λf g=>wpAny_mono f g λ_ _ z=>False.elim z
 show bY (age (bY (b (turn n s o) λr s1 f=>?_)));cases r with|none=>show ew f|some v=>show bY (b f λ_ s2 g=>bY (b g λ_ s3 u=>bY (b u λok s4 i=>?_)));cases ok with |false=>show ew #[W,i]|true=>show bY (bY (wpAny_mono i (λx s5 q=>bY (b q λ_ d p=>ew (ew #[W,p]))) l))
end
section
variable{X:Cx}{Z:St}
def zx(h:Q (newEnv scope s.heap.objs.size globals (pj (s.heap.objs.size+1) scope.names closure) qual CL .none (G env) builtinsNs) {s with heap:=pushCells (s.heap.push {cls:=.type "dict",data:=.dict #v[]}) scope.names}):wpAny f A (newFunctionEnv scope globals closure [] qual CL .none (G env)) Q E s:=by simp only[newFunctionEnv,if_true];show bY (wpAny_alloc ?_);show bY (wpAny_layCells _ (λb e a=>by simp_all) _ _ _ _ ?_);rw[cc ..];show bY (ew (ew h))
def vi{Fin:aT->Hp->Prop}{RR:a_->aT->Result->d_->Prop}(I:a! X pins Z H s)(hc:X.calm=Ld)(aeI:scope.kind=.function)(S:(scope.names.map (·.1)).Nodup)(U:∀y∈scope.names,y.2=.free->∃c,X.env.cells.lookup y.1=cL c)(hfv:s_ X scope fv)(T:Turn X.prog X.w X.K tg J fp it tn)(st:tn 0 s.heap)(t:∀b∈fp,pS X pins H b)(hg:∀C,PG (dg X s H scope C (fX own fv) fp) tg g)(ht:∀C,D1 (dg X s H scope C (fX own fv) fp) ifs tc){W:aT->a_->d_->Prop}(he:∀C,PE ((dg X s H scope C (fX own fv) fp).afd (W C)) elt te)(hEE:∀D C x s1,s.heap.objs.size<=C->W C x s1->notedBy (model X.prog X.w) X.A (compEnvC scope (z9 X scope C) C X.env) (λe s2=>RR (.ref D) C (.error e) s2) x s1)(hR:∀D,H D=CL->Hq J D (lV own fv Z) g tc te H (Fin D))(hRR:∀D C k V,a! X pins Z k V->Fin D k->(∃m,V.heap.Ns C m)->s.heap.objs.size<=C->k C=CL->RR (.ref D) C (.ok .next) V):wpAny (model X.prog X.w) X.A (newList []) (λacc s3=>wpAny (model X.prog X.w) X.A (newFunctionEnv scope X.env.globals (jH X.env scope.names []) [] X.env.qual CL .none (cL X.env)) (λanr s4=>codeAny (model X.prog X.w) X.A (.compStart (.ListComp elt [#[tg,iter,ifs,0]] scope pos) 0 (.ref it) acc {anr with scope:=relabel scope X.env}) (RR acc anr.locals) s4) E s3) E s:=by
 show vo ?_;generalize hH2:s.heap.push {cls:=.type "list",dict:=CL,data:=.seq ([]:a8 a_).toArray}=h2;let hz:h2.objs.size=s.heap.objs.size+1:=by rw[<-hH2,cc]
 show zx (s:={s with heap:=h2}) ?_;let B:s.heap.objs.size<h2.objs.size:=by rw[hz];show DO _
 let hC:s.heap.objs.size<=h2.objs.size:=AS B;generalize hH1:pushCells (h2.push {cls:=.type "dict",data:=.dict #v[]}) scope.names=h1;let R:∀b o,h2.get? b=cL o->h1.get? b=cL o:=λb o e=>by rw[<-hH1];show BK _ _ b o (bg _ e)
 let kp:∀b o,s.heap.get? b=cL o->h1.get? b=cL o:=λb o e=>R b o (by rw[<-hH2];show bg _ e);let hns:h1.Ns h2.objs.size (λ_=>CL):=by rw[<-hH1];show(Heap.Ns.new h2 (.type "dict")).keeps (BK _ _)
 let hoc:∀x c,(z9 X scope h2.objs.size).lookup x=cL c->h2.objs.size<c->∃v,h1.IsCell c v:=λx c e hlt=>by
  let e':(pj (h2.push {cls:=.type "dict",data:=.dict #v[]}).objs.size scope.names (jH X.env scope.names [])).lookup x=cL c:=by rw[cc];show e
  rcases ve _ _ _ x c e' with⟨_,z⟩|z
  .show#[CL,by rw[<-hH1];show z]
  .show a7 (x? (yI I z).2 (x? B hlt)) (qT _)
 let hd:∃n,h1.get? s.heap.objs.size=cL {cls:=.type "list",data:=.seq #v[] n}:=#[0,R _ _ (by rw[<-hH2];show b4 _ rfl)];let q:∀b∈fp,b<s.heap.objs.size:=λb f=>by let(o,e,_):=T.obj 0 _ st b f;show br e
 let hn:H s.heap.objs.size=CL:=I.hok.fresh (dc _);let(W,(m0,w0),turn):=hR s.heap.objs.size hn;let F:∀{pl:a8 (aT×Obj)}{k:Hp},(∀b∈fp,k b=CL)->(∀p∈pl,p.1∉fp)->∀b∈fp,pS (dg X s H scope h2.objs.size (fX own fv) fp) pl k b:=λ{pl k}hn' hpl b f=>by let ok:=FP (C:=h2.objs.size) (N:=fX own fv) I aeI S U hC t q;show#[hn' b f,(ok.exf b f).1,ok.ahH b f,.inl f,(ok.exf b f).2,λp hp=>by let hp':p∈([]:a8 (aT×Obj))++pl:=hp;intro z;show hpl p (by simpa using hp') (by rw[z];show f)]
 let j:∀s4:d_,s4={s with heap:=h1}->codeAny (model X.prog X.w) X.A (.compLoop (.ListComp elt [#[tg,iter,ifs,0]] scope pos) 0 (.ref it) (.ref s.heap.objs.size) (compEnvC scope (z9 X scope h2.objs.size) h2.objs.size X.env)) (RR (.ref s.heap.objs.size) h2.objs.size) s4:=by
  rintro s4 rfl
  let I0:a! (dg X s H scope h2.objs.size (fX own fv) fp) [] (lV own fv Z) (bW H s.heap.objs.size (.lst [])) {s with heap:=h1}:=M9 I aeI S U hfv (dc _) B hC t q hns hoc kp hd
  let st0:tn 0 h1:=T.keep 0 _ _ st λb _ o e=>kp b o e;let fr0:∀b∈fp,(bW H s.heap.objs.size (.lst [])) b=CL:=λb f=>by rw[bh (iF (q b f))];show(t b f).1
  show akp (λx s1 z=>hEE _ _ x s1 hC z) (λn V=>∃i σ' k,a! (dg X s H scope h2.objs.size (fX own fv) fp) [] σ' k V/\tn i V.heap/\(∀b∈fp,k b=CL)/\W i n σ' k) ?_ m0 #[0,_,_,I0,st0,fr0,w0];rintro n s5 ⟨i,h,H5,I5,Q,Y,w5⟩;rcases turn i n h H5 w5 with⟨P,fin⟩|⟨go,N,hN,step⟩
  .show de (T.done (dg X s H scope h2.objs.size (fX own fv) fp) rfl rfl rfl hc i [] s5 h H5 (λ_ _=>False) I5 (F Y ()) Q P) λr s6#[hr,A]=>?_;subst hr;let(mm,hm,_):=A.loc;show hRR _ _ H5 s6 ?_ fin #[mm,hm] hC A.free;show I.ajK (ch:=fp) A.os A.base A.hok A.bare λb f=>#[(t b f).2.2.2.1,(t b f).2.1,(t b f).2.2.2.2.1,(t b f).2.2.2.2.2]
  .show de (T.item (dg X s H scope h2.objs.size (fX own fv) fp) rfl rfl rfl hc i [] s5 h H5 (λ_ _=>False) I5 (F Y ()) Q go) λr s6#[u1,hr,h6]=>?_
   subst hr;show de h6 λ_ s7 a=>?_;let(x,H7,I7,r7,y7,l,fr7):=a;let I7':=I7.pinned (fp:=fp) (F fr7 ()) (T.obj _ _ l);let back:∀{a:St}{w:Hp}{L:d_},a! (dg X s H scope h2.objs.size (fX own fv) fp) ([]++zg fp s7.heap) a w L->N a w->∃m,m<n/\∃i σ' k,a! (dg X s H scope h2.objs.size (fX own fv) fp) [] σ' k L/\tn i L.heap/\(∀b∈fp,k b=CL)/\W i m σ' k:=λ{a w L}I8 n8=>by let(m',hm,w8):=hN a w n8;show#[m',hm,i+1,a,w,I8.afH,T.keep _ _ _ l λb f o e=>(I8.pin (b,o) (oe _ (oe _ (mW f e)))).1,λb f=>?_,w8];let(o,e,d):=T.obj _ _ l b f;show(I8.pin (b,o) (oe _ (oe _ (mW f e)))).2.1
   show de (hg _ _ s7 h H7 x u1 _ I7' r7 (step x H7 y7)) λ_ L a=>?_;let(a,w,I8,q8):=a;show de (ht _ _ L a w _ I8 q8) λok s9 a=>?_;let(H9,I9,q9):=a;cases ok with|false=>rw[aE ml]at q9⊢;show back I9 q9|true=>rw[ax rfl]at q9⊢;show de (he _ _ s9 a H9 _ (I9.afd _) q9) λy s10 a=>?_;let(O,H10,arj,r10,ys,hy,hl,q10):=a;let I10:=arj.aeu;show de (sU _ s10 a H10 (.ref s.heap.objs.size) [O] (.ref s.heap.objs.size) [y] (λ_ H11=>N a H11) I10 rfl (.cons r10 .nil) #[_,ys,O,rfl,rfl,hy,hl,q10]) λ_ s11 a=>?_;let(v11,H11,I11,_,q11):=a;show back I11 q11
 show codeAny_compStart_list (j _ rfl) (T.self _ 0 _ _ _ (T.keep 0 _ _ st λb _ o e=>kp b o e) (j _ rfl))
def vA(own:I Str)(h:I (Str×Nat))(b:TI)(g:TG)(f:TT)(e:TE):TE:=λZ H Q=>b Z H λJ a=>∀D,a D=CL->Hq J D (lV own h Z) g f e a λi=>Q (.ref D) i
def uP{a:nS}(ok:X.Ok)(h:∀y∈a.names,y.2=.free->(X.env.scope.names.lookup y.1=G .cell\/X.env.scope.names.lookup y.1=G .free)):∀y∈a.names,y.2=.free->∃c,X.env.cells.lookup y.1=G c:=λy b e=>ok.has y.1 (h y b e)
def Ta{a sc:nS}(h:(a.names.all λy=>!(y.2==hO.free)||(sc.names.lookup y.1==G hO.cell)||(sc.names.lookup y.1==G hO.free))=u):∀y∈a.names,y.2=.free->(sc.names.lookup y.1=G .cell\/sc.names.lookup y.1=G .free):=λy b e=>by let q:=j?.mp h y b;simp_all
def FR{pos:Pos}(own)(c)(F:X.calm=u)(B:PI X U iter wi)(E:∀s H C a,PG (dg X s H scope C (fX own c) a) U g)(v:∀s H C a,D1 (dg X s H scope C (fX own c) a) ifs tc)(he:∀s H C a,PE (dg X s H scope C (fX own c) a) elt te)(l:s_ X scope c)(n:(scope.names.all λy=>!(y.2==hO.free)||(X.env.scope.names.lookup y.1==G hO.cell)||(X.env.scope.names.lookup y.1==G hO.free))=u)(d:scope.kind=.function:=by rfl)(k:(scope.names.map (·.1)).Nodup:=by left)(p:∀y∈scope.names,y.2=.local->scope.names.lookup y.1=G .local:=by left)(w:∀x,foldedSetIterable iter X.env x=pure x:=by intro _;rfl):PE X (.ListComp elt [#[U,iter,ifs,0]] scope pos) (vA own c wi g tc te):=by intro pins s Z H Q I h;let f:=Ta n;show JH W w (vU (uP I.ok f)) d p (de (B pins s Z H _ I h) λxv s1 h1=>de h1 λt s2 O=>?_);let(it,a,tn,J,H2,e,r,T,i,f2,R):=O;subst e;show vi r F d k (uP I.ok f) l T i f2 (λC=>E _ _ C _) (λC=>v _ _ C _) (λC=>he _ _ C _) (λ_ _ _ _ _ z=>z.elim) R ?_;intro D C H' s' Y fin hm N A;let(m,hm):=hm;show#[m,hm,λh' j=>#[.ref D,H',?_,W,fin]];let(f0,f1,_,S,f4,P):=r.ahe N A;show Y.turned (λb o L q=>(j.2 b L).trans q) f0 f1 S f4 P
def OZ{j:Pos}(own)(d)(hN:X.N.Nodup)(t:X.N[i]?=G x)(F:X.env.scope.names.lookup x=G .local)(hc:X.calm=u)(hi:PI X U iter wi)(hg:∀s H C c,PG (dg X s H scope C (fX own d) c) U g)(V:∀s H C c,D1 (dg X s H scope C (fX own d) c) ifs tc)(he:∀s H C c,PE (dg X s H scope C (fX own d) c) elt te)(w:s_ X scope d)(B:(scope.names.all λy=>!(y.2==hO.free)||(X.env.scope.names.lookup y.1==G hO.cell)||(X.env.scope.names.lookup y.1==G hO.free))=u)(n:ro (.ListComp elt [#[U,iter,ifs,0]] scope pos) (G (.Name x py)) j.line X.env=pure u:=by rfl)(k:scope.kind=.function:=by rfl)(r:(scope.names.map (·.1)).Nodup:=by left)(E:∀y∈scope.names,y.2=.local->scope.names.lookup y.1=G .local:=by left)(Y:∀x,foldedSetIterable iter X.env x=pure x:=by intro _;rfl):PS X (.Assign [.Name x py] (.ListComp elt [#[U,iter,ifs,0]] scope pos) j) (Ai (vA own d wi g tc te) (rS i)):=by
 intro pins s Z H D I h;let f:=Ta B;rw[exec_Assign_Name_used _ _ _ _ n];show bY (age (bY ?_));show bY (de (JH W Y (vU (uP I.ok f)) k E (de (hi pins s Z H _ I h) λxv s1 h1=>de h1 λS s2 h2=>?_)) λ_ Q q=>ew (ew q))
 let(it,c,tn,J,H2,e,O,T,l,f2,R):=h2;subst e;show vi O hc k r (uP I.ok f) w T l f2 (λC=>hg _ _ C _) (λC=>V _ _ C _) (λC=>he _ _ C _) (λ_ _ _ _ _ z=>z.elim) R ?_;intro L C H' Q I' fin hm hC hn;let(m,hm):=hm;let(f0,f1,f2',f3,f4,f5):=O.ahe hC hn;show Ia (yH I' hN t (.inl F) (v:=.ref L) W (λP N#[a,sb,ha]=>?_) (.inr F));let A:C≠a:=by
  rcases ha with z|z
  .rw[z];show f1
  .show λq=>f4 x a z q.symm
 show#[m,hm.sameBut sb A,λh' p=>#[_,H',?_,fin]];show N.turned (λb o hb q=>(p.2 b hb).trans q) f0 f1 f3 f4 f5
end
def BM(P:m4)(w:k?)(K:lD)(c:Str->bb a_)(base:Heap)(k:Nat)(x:Str)(b:I Str)(sp:Sp):Prop:=∃(f:aT)(a:t5),ek P w K c base rj k f a b sp/\hI K a b []/\t! K (.ref f)=u/\c x=G (.ref f)
def vM(C:BM X.prog X.w X.K X.mg X.base k x J sp)(i:ik j X.A)(c:PA X (e::es) t)(g:k<=j:=by decide)(l:Gl X x:=by rfl)(h:(x==("__debug__"))=M:=by decide)(n:e_ (e::es) X.env=(M,eval e X.env)::e_ es X.env:=by rfl)(a:(backTo pos (e_ es X.env)).any (·.1)=M:=by rfl):PE X (.Call (.Name x p) (e::es) [] pos) (sj sp [] E0 t):=by let(f,o,F,b,kp,m):=C;show Gz F (i.mono g) l m kp b .nil E5 c h n a
def WC{α:Type}{xs:I α}{v:α}(a:0<=i)(h:xs[i.toNat]?=G v):pQ xs i=G v:=by let q:=GV h;rwa[Ja a]at q
def g_.tup{K:lD}(e:g_ H H')(h:hY K H a xs):hY K H' a xs:=by
 rcases h with(h|⟨o,h⟩)|h
 .show .inl (.inl (e _ _ h))
 .show .inl (.inr #[o,e _ _ h])
 .show .inr h
def bq(h:H p=CL)(o):g_ H (bW H p o):=λb u q=>by rw[bh (ci q h)];show q
def Q9(a:α)(k):(ey k [a]).flatten=ey k a:=by induction k with|zero=>rfl|succ k b=>rw[K',C9,b];rfl
def Ui:ni "max"=G (.builtin "max"):=by left
def Ue:ni "len"=G (.builtin "len"):=by left
def Bl:ni "sorted"=G (.builtin "sorted"):=by left
def ZC:ni "all"=G (.builtin "all"):=by left
def TK:ni "int"=G (.type "int"):=by left
def aaq:ni "str"=G (.type "str"):=by left
def Di:ni "list"=G (.type "list"):=by left
def Qi:ni "tuple"=G (.type "tuple"):=by left
section
def adE:lT X (.builtin "sorted") (λxs H Q=>∃(p:aT)(ns:a8 Int),xs=[.ref p]/\hL X.K H p (ns.map V.int)/\ns.length<64/\∀(l)(ms:a8 Int),H l=CL->ms.Perm ns->ms.Pairwise (·<=·)->Q (.ref l) (bW H l (.lst (ms.map V.int)))):=by
 intro i s A H xs B Q I r h;let(p,ns,0,o,w,q):=h;let(u,0,m):=iO r;ext m;let(g,J,pl,E):=I.list o;let t:=J.length;rw[dO]at t;show sorted_ints pl.isList (qI J) () λa ms L j n=>?_;let(e,v):=sortedAll_at _ g a;let f:ms.length=ns.length:=j.length_eq;let y:a.toList.length=ms.length:=L.length;show#[.ref _,_,I.laid (λb C z=>sortedAll_old z) (u? _) ?_,W,q _ ms (I.hok.fresh (u? _)) j n];show#[?_,_,e,mG L,v];rw[dO,f];let:(64)<=eg:=by decide
 ext
end
end L2
namespace L3
open PySem L2
abbrev D:=aS
set_option genInjectivity true in
inductive PV where|fz(d:D)|ow(ds:I D)|pl(i:Nat)
abbrev bM:=I (bb PV)
structure Xc where
 cls:Str
 fs:I (Str×D)
set_option genInjectivity true in
inductive d7(α:Type)where|ok(a:α)|er(x:Xc)|bad
namespace d7
def bind(r:d7 α)(f:α->d7 β):d7 β:=match r with|.ok a=>f a|.er x=>.er x|.bad=>.bad
def bR:bb α->d7 α|some a=>.ok a|none=>.bad
def nR(a)(f:α->d7 β):(d7.ok a).bind f=f a:=W
end d7
abbrev d3:=@d7.nR
abbrev iP:=aT->Prop
def g9(O:iP)(p:aT):iP:=λb=>O b\/b=p
def Z6(O:iP)(p:aT):iP:=λb=>O b/\b≠p
def oD:iP:=λ_=>False
def Ev(O:iP)(H:Hp)(a:iP)(e:Hp):Prop:=∀b o,H b=G o->¬O b->e b=G o/\¬a b
def Ev.refl:Ev O H O H:=λ_ _ h n=>#[h,n]
def Ev.trans(a:Ev O H O1 H1)(b:Ev O1 H1 O2 H2):Ev O H O2 H2:=λp o h n=>by let(h1,e):=a p o h n;show b p o h1 e
def Ev.grow(s:g_ H H'):Ev O H O H':=λb o h n=>#[s b o h,n]
def Ev.add(s:g_ H H')(a:H p=CL):Ev O H (g9 O p) H':=λb o h n=>#[s b o h,λz=>z.elim n λe=>by simp_all]
def Ev.sub(h:∀b,O' b->O b):Ev O H O' H:=λb o e n=>#[e,λz=>n (h b z)]
def Ev.mut(a:O p)(u):Ev O H O (bW H p u):=λb o h n=>#[by rw[bh (λe=>n ())];show h,n]
def m5(K:lD)(H:Hp)(a:aT)(xs:I V):Prop:=Rd H a (.lst xs)\/∃(b:I _)(n:Nat),K.lookup a=G {cls:=.type "list",data:=.seq b.toArray n}/\xs.length<=eg/\b_ xs b
def m5.sq(h:m5 K H a xs):hL K H a xs:=by
 rcases h with h|⟨b,n,h1,f,e⟩
 .show .inl h
 .show .inr #[_,_,n,h1,W,W,W,by rw[lE,<-e.length];show f,by ext]
def m5.of(h:H a=G (.lst xs)):m5 K H a xs:=.inl (.inl h)
def m5.same(e:g_ H H')(h:m5 K H a xs):m5 K H' a xs:=by
 rcases h with(h|⟨o,h⟩)|h
 .show .inl (.inl (e _ _ h))
 .show .inl (.inr #[o,e _ _ h])
 .show .inr h
def pI(H):g_ (λ_=>CL) H:=λ_ _ h=>by ext h
def qy(O:iP)(K:lD)(H:Hp)(a:aT)(xs:I V):Prop:=m5 K H a xs/\(O a->m5 K (λ_=>CL) a xs)
def oN(O:iP)(K:lD)(H:Hp)(a:aT)(xs:I V):Prop:=hY K H a xs/\(O a->hY K (λ_=>CL) a xs)
section
def qy.ev(h:qy O K H a xs)(e:Ev O H O' H'):qy O' K H' a xs:=by
 let(h,k):=h;by_cases z:O a
 .show#[m5.same (pI H') (k z),λ_=>k z]
 .rcases h with(h|⟨o,h⟩)|h
  .let(f,b):=e a _ h z;show#[.inl (.inl f),λy=>a7 y b]
  .let(f,b):=e a _ h z;show#[.inl (.inr #[o,f]),λy=>a7 y b]
  .show#[.inr h,λ_=>.inr h]
def oN.ev(h:oN O K H a xs)(e:Ev O H O' H'):oN O' K H' a xs:=by
 let(h,k):=h;by_cases z:O a
 .show#[(pI H').tup (k z),λ_=>k z]
 .rcases h with(h|⟨o,h⟩)|h
  .let(f,b):=e a _ h z;show#[.inl (.inl f),λy=>a7 y b]
  .let(f,b):=e a _ h z;show#[.inl (.inr #[o,f]),λy=>a7 y b]
  .show#[.inr h,λ_=>.inr h]
end
mutual
inductive DV(O:iP)(K:lD)(H:Hp):V->D->Prop|non:DV O K H .non .none|bl(b:Bool):DV O K H (.bl b) (.bool b)|int(i:Int):DV O K H (.int i) (.int i)|str(x:Str):DV O K H (.str x) (.str x)|tup{a:aT}{xs:a8 V}{ds:a8 D}:oN O K H a xs->DVs O K H xs ds->DV O K H (.ref a) (.tuple ds)|lst{a:aT}{xs:a8 V}{ds:a8 D}:qy O K H a xs->DVs O K H xs ds->DV O K H (.ref a) (.list ds)inductive DVs(O:iP)(K:lD)(H:Hp):a8 V->a8 D->Prop|nil:DVs O K H [] []|cons{v:V}{vs:a8 V}{d:D}{ds:a8 D}:DV O K H v d->DVs O K H vs ds->DVs O K H (v::vs) (d::ds)end
section
mutual
theorem DV.ev(e:Ev O H O' H'):∀{v:V}{d:D},DV O K H v d->DV O' K H' v d |_,_,.non=>.non|_,_,.bl b=>.bl b|_,_,.int i=>.int i|_,_,.str x=>.str x|_,_,.tup h hs=>.tup (h.ev e) (DVs.ev e hs)|_,_,.lst h hs=>.lst (h.ev e) (DVs.ev e hs)theorem DVs.ev(e:Ev O H O' H'):∀{vs:a8 V}{ds:a8 D},DVs O K H vs ds->DVs O' K H' vs ds|_,_,.nil=>.nil|_,_,.cons h hs=>.cons (DV.ev e h) (DVs.ev e hs)end
theorem DVs.length:∀{a:I V}{ds:I D},DVs O K H a ds->a.length=ds.length|_,_,.nil=>rfl|_,_,.cons _ t=>by simp only[j_,j_,t.length]
theorem DVs.get:∀{c:I V}{ds:I D}{i:Nat}{d:D},DVs O K H c ds->ds[i]?=G d->∃v,c[i]?=G v/\DV O K H v d |_,_,_,_,.nil,e=>by contradiction|_,_,0,_,.cons h _,e=>by simp_all|_,_,i+1,d,.cons _ t,e=>by let(v,b,a):=DVs.get t (by simpa using e);simp_all
theorem DVs.aki:∀{c:I V}{ds:I D}{i:Nat}{v:V},DVs O K H c ds->c[i]?=G v->∃d,ds[i]?=G d/\DV O K H v d |_,_,_,_,.nil,e=>by contradiction|_,_,0,_,.cons h _,e=>by simp_all|_,_,i+1,v,.cons _ t,e=>by let(d,b,a):=DVs.aki t (by simpa using e);simp_all
theorem DVs.append:∀{a ws:I V}{ds es:I D},DVs O K H a ds->DVs O K H ws es->DVs O K H (a++ws) (ds++es) |_,_,_,_,.nil,h=>h|_,_,_,_,.cons h t,g=>.cons h (DVs.append t g)
theorem DVs.take:∀{a:I V}{ds:I D}(n),DVs O K H a ds->DVs O K H (a.take n) (ds.take n) |_,_,0,_|_,_,_+1,.nil=>.nil|_,_,n+1,.cons h t=>.cons h (DVs.take n t)
theorem DVs.drop:∀{a:I V}{ds:I D}(n),DVs O K H a ds->DVs O K H (a.drop n) (ds.drop n) |_,_,0,h=>h|_,_,_+1,.nil=>.nil|_,_,n+1,.cons _ t=>DVs.drop n t
theorem DVs.set(h:DV O K H v d):∀{a:I V}{ds:I D}(n),DVs O K H a ds->DVs O K H (a.set n v) (ds.set n d) |_,_,_,.nil=>.nil|_,_,0,.cons _ t=>.cons h t|_,_,n+1,.cons g t=>.cons g (DVs.set h n t)
theorem DVs.flat(h:DVs O K H vs ds):∀n,DVs O K H (ey n vs).flatten (ey n ds).flatten |0=>.nil|n+1=>h.append (DVs.flat h n)
mutual
theorem DV.plain:∀{v:V}{d:D},DV O K H v d->L2.DV K H v d |_,_,.non=>.non|_,_,.bl b=>.bl b|_,_,.int i=>.int i|_,_,.str x=>.str x|_,_,.tup h hs=>.tup h.1 (DVs.plain hs)|_,_,.lst h hs=>.lst h.1.sq (DVs.plain hs)theorem DVs.plain:∀{vs:a8 V}{ds:a8 D},DVs O K H vs ds->L2.DVs K H vs ds |_,_,.nil=>.nil|_,_,.cons h hs=>.cons (DV.plain h) (DVs.plain hs)end
end
def DX(O:iP)(K:lD)(H:Hp)(v:V):D->Prop|.list ds=>∃a xs,v=.ref a/\m5 K H a xs/\DVs O K H xs ds|d=>DV O K H v d
def DV.x(h:DV O K H v d):DX O K H v d:=by cases h with |lst h a=>show#[_,_,W,h.1,a]|non=>show .non|bl b=>show .bl b|int i=>show .int i|str x=>show .str x|tup h a=>show .tup h a
def DX.plain(h:DX O K H v d):L2.DV K H v d:=by cases d with |list ds=>let(a,xs,0,f,e):=h;show .lst f.sq e.plain|none|bool b|int i|str x|tuple ds|dict g=>show DV.plain h
def M?(K:lD)(b:Hp)(O:iP)(H:Hp)(v:V):PV->Prop |.fz d=>DV O K H v d|.ow ds=>∃a e,v=.ref a/\O a/\b a=CL/\H a=G (.lst e)/\DVs O K H e ds|.pl _=>False
structure Rl(K)(B:iP)(H0)(O:iP)(σ:St)(H)(ρ:bM):Prop where
 same:g_ H0 H
 bo:∀a,B a->O a
 bd:∀a,B a->H0 a≠CL
 od:∀a,H a=CL->¬O a
 len:σ.length=ρ.length
 slot:∀(i:Nat)(x),ρ[i]?=G (G x)->∃v,σ[i]?=G (G v)/\M? K H0 O H v x
 one:∀(i j:Nat)(ds es)(v),ρ[i]?=G (G (.ow ds))->ρ[j]?=G (G (.ow es))->σ[i]?=G (G v)->σ[j]?=G (G v)->i=j
def oR(K:lD)(e:Hp)(O:iP)(b:St)(H:Hp)(c:bM)(v:V):PV->Prop |.fz d=>DV O K H v d|.ow ds=>∃a f,v=.ref a/\O a/\e a=CL/\H a=G (.lst f)/\DVs O K H f ds/\∀(i:Nat)(es),c[i]?=G (G (.ow es))->b[i]?≠G (G (.ref a))|.pl i=>b[i]?=G (G v)
def rY:PV->Prop|.ow _=>False|_=>True
def cI:PV->PV |.ow ds=>.fz (.list ds)|p=>p
section
def M?.grow(s:g_ H H')(h:M? K H0 O H v x):M? K H0 O H' v x:=by cases x with |fz d=>show DV.ev (Ev.grow s) h|ow ds=>let(a,l,e,j,g,f,b):=h;show#[a,l,e,j,g,s _ _ f,b.ev (Ev.grow s)]|pl i=>show h
def Rl.grow(R:Rl K B H0 O σ H ρ)(s:g_ H H'):Rl K B H0 O σ H' ρ:=#[R.same.trans s,R.bo,R.bd,λa h=>R.od a (s.free h),R.len,λi x h=>by let(v,h1,b):=R.slot i x h;show#[v,h1,b.grow s],R.one]
def Rl.akK(R:Rl K B H0 O σ H ρ)(h:H p=CL):H0 p=CL:=R.same.free h
def Rl.add(R:Rl K B H0 O σ H ρ)(s:g_ H H')(f:H p=CL)(g:H' p≠CL):Rl K B H0 (g9 O p) σ H' ρ:=by show#[R.same.trans s,λa h=>.inl (R.bo a h),R.bd,λa h z=>z.elim (R.od a (s.free h)) λe=>g (),R.len,λi x h=>?_,R.one];let(v,j,b):=R.slot i x h;show#[v,j,?_];cases x with |fz d=>show DV.ev (Ev.add s f) b|ow ds=>let(a,q,e,o,n,m,l):=b;show#[a,q,e,.inl o,n,s _ _ m,l.ev (Ev.add s f)]|pl i=>show b
def Rl.akh(R:Rl K B H0 O σ H ρ)(h:H0 a=CL):¬B a:=λz=>R.bd a z h
def Rl.sub(R:Rl K B H0 O σ H ρ)(m:H0 a=CL)(h:∀(i:Nat)(es),ρ[i]?=G (G (.ow es))->σ[i]?≠G (G (.ref a))):Rl K B H0 (Z6 O a) σ H ρ:=by show#[R.same,λb f=>#[R.bo b f,λe=>R.akh m (e▸f)],R.bd,λb f z=>R.od b f z.1,R.len,λi x j=>?_,R.one];let(v,l,g):=R.slot i x j;show#[v,l,?_];cases x with |fz d=>show DV.ev (Ev.sub λb z=>z.1) g|ow ds=>let(b,r,e,q,p,o,n):=g;subst e;show#[b,r,W,#[q,λe=>h i ds j (by rw[l,e])],p,o,n.ev (Ev.sub λb z=>z.1)]|pl i=>show g
def Al(h:H a=G (.lst o))(n:¬O a)(hd:DVs O K H o ds):DV O K H (.ref a) (.list ds):=.lst #[m5.of h,λz=>a7 z n] hd
def iT{pv:PV}(R:Rl K B C O σ H o)(h:oR K C O σ H o v pv):∃c,Ev O H c H/\Rl K B C c σ H o/\oR K C c σ H o v (cI pv):=by cases pv with|fz d|pl i=>show#[O,.refl,R,h]|ow ds=>let(a,m,0,l,j,g,f,e):=h;show#[_,Ev.sub λb z=>z.1,R.sub j e,Al g (λz=>z.2 W) (f.ev (Ev.sub λb z=>z.1))]
def pB(pv):rY (cI pv):=by ext pv<;>trivial
def oR.keep{pv:PV}(a:rY pv)(e:Ev O H O' H')(h:oR K H0 O σ H ρ v pv):oR K H0 O' σ H' ρ' v pv:=by cases pv with|fz d=>show DV.ev e h|pl i=>show h|ow ds=>show a.elim
def EG:bb (bb PV)->bb D |some (G (.fz d))=>G d|some (G (.ow ds))=>G (.list ds)|_=>CL
def kb(a:bM):PV->bb D |.fz d=>G d|.ow ds=>G (.list ds)|.pl i=>EG a[i]?
def kI{pv:PV}(R:Rl K B J O σ H C)(h:oR K J O σ H C v pv)(e:kb C pv=G d):DX O K H v d:=by cases pv with
 |fz n=>injections;subst_vars;show DV.x h|ow ds=>
  injections;subst_vars
  let(a,w,0,t,r,l,g,p):=h;show#[a,w,W,m5.of l,g]|pl i=>let f:EG _=G d:=e;cases q:C[i]? with|none=>rw[q]at f;contradiction|some o=>cases o with |none=>rw[q]at f;contradiction|some x=>
    let(u,m,b):=R.slot i x q;rw[h]at m
    injections;subst_vars
    rw[q]at f;cases x with |fz n=>injections;subst_vars;show DV.x b|ow ds=>
     injections;subst_vars
     let(a,w,0,k1,k2,k3,k4):=b;show#[a,w,W,m5.of k3,k4]|pl j=>show b.elim
def toS(a:bM)(i:Nat):bb (bb PV)->bb (D×bM) |some (G (.fz d))=>G (d,a)|some (G (.ow ds))=>G (.list ds,a.set i (G (.fz (.list ds))))|_=>CL
def A6(a:bM):PV->bb (D×bM) |.fz d=>G (d,a)|.ow ds=>G (.list ds,a)|.pl i=>toS a i a[i]?
def cW{l:I α}(h:(l.set i x)[j]?=G y):(j=i/\y=x)\/(j≠i/\l[j]?=G y):=by
 rw[qF]at h;by_cases e:i=j
 .simp_all
 .rw[aE e]at h;show .inr #[λz=>e z.symm,h]
def xo{pv:PV}(R:Rl K B H0 O σ H ρ)(h:oR K H0 O σ H ρ v pv)(e:A6 ρ pv=cL (d,ρ')):∃c,Ev O H c H/\Rl K B H0 c σ H ρ'/\DV c K H v d:=by cases pv with |fz U=>ext e;show#[O,.refl,R,h]|ow ds=>ext e;let(a,Y,0,X,T,S,Q,P):=h;show#[_,Ev.sub λb z=>z.1,R.sub T P,Al S (λz=>z.2 W) (Q.ev (Ev.sub λb z=>z.1))]|pl i=>let f:toS ρ i _=cL _:=e;let y:=h;cases q:ρ[i]? with |none=>rw[q]at f;ext f|some o=>cases o with|none=>rw[q]at f;ext f|some x=>let(u,E,A):=R.slot i x q;rw[y]at E;ext E;rw[q]at f;cases x with |fz U=>ext f;show#[O,.refl,R,A]|pl j=>show A.elim|ow ds=>
     ext f;let(a,Y,0,k1,k2,k3,k4):=A;let es:Ev O H (Z6 O a) H:=Ev.sub λb z=>z.1;let F:=Al k3 (λz=>z.2 W) (k4.ev es);show#[_,es,#[R.same,λb m=>#[R.bo b m,λe=>R.akh k2 (e▸m)],R.bd,λb m z=>R.od b m z.1,by rw[p_];show R.len,λj x l=>?_,λj k xs G w t r=>?_],F]
     .rcases cW l with⟨rfl,g⟩|⟨p,l⟩
      .ext g;show#[_,y,F]
      .let(u,C,n):=R.slot j x l
       show#[u,C,?_];cases x with |fz d=>show DV.ev es n|pl i=>show n|ow xs=>let(b,I,0,N,M,L,J):=n;show#[b,I,W,#[N,λz=>p (R.one j i xs ds _ l q (by rw[C,z]) y)],M,L,J.ev es]
     .rcases cW t with⟨rfl,g⟩|⟨_,t⟩
      .ext g
      .rcases cW r with⟨rfl,g⟩|⟨_,r⟩
       .ext g
       .show R.one j k xs G w t r
end
def rb(K:lD)(B:iP)(H:Hp)(c:a_)(b:bb aT)(x:Xc):Prop:=(∃a,c=.ref a/\iN K gE x.cls=G (G (.ref a)))/\∃fs,(∀p,b=G p->H p=G (.xd fs))/\∀f d,x.fs.lookup f=G d->b≠CL/\∃v,fs.lookup f=G v/\DV B K H v d
def XE(K:lD)(B:iP)(a:Hp)(E:XK)(x:Xc):Prop:=∀c e b,g_ a b->rb K B b c e x->E c e b
def XE.from(h:XE K B H0 E x)(g:∀a,B a->O a)(s:g_ H0 H):XE K O H E x:=λc n m b#[l,fs,j,i]=>h c n m (s.trans b) #[l,fs,j,λf d e=>by let(g1,v,g2,g3):=i f d e;show#[g1,v,g2,g3.ev (Ev.sub g)]]
def WR(K:lD)(E:XK)(B:iP)(b:Hp)(P:α->Prop):d7 α->Prop|.ok a=>P a|.er x=>XE K B b E x|.bad=>False
section
variable{K:lD}{E:XK}{B:iP}
def WR.bind(h:WR K E B H0 P (r.bind k)):WR K E B H0 (λa=>WR K E B H0 P (k a)) r:=by ext r<;>show h
def WR.bR(h:WR K E B H0 P ((d7.bR o).bind k)):∃a,o=G a/\WR K E B H0 P (k a):=by cases o with|none=>show h.elim|some a=>show#[a,W,h]
def WR.imp(h:WR K E B H0 P r)(g:∀a,P a->P' a):WR K E B H0 P' r:=by cases r with|ok a=>show g a h|er x|bad=>show h
end
abbrev FE:=bM->d7 (PV×bM)
abbrev FT:=bM->d7 (Bool×bM)
abbrev FA:=bM->d7 (I PV×bM)
def EO(K:lD)(E:XK)(t:TE)(f:FE):Prop:=∀(B)(a)(O)(σ)(H)(g)(Q),Rl K B a O σ H g->WR K E B a (λr=>∀e v b,Ev O H e b->Rl K B a e σ b r.2->oR K a e σ b r.2 v r.1->Q v b) (f g)->t σ H Q
def n!(K:lD)(E:XK)(t:TT)(f:FT):Prop:=∀(B)(a)(O)(σ)(H)(e)(Q),Rl K B a O σ H e->WR K E B a (λr=>∀g b,Ev O H g b->Rl K B a g σ b r.2->Q r.1 b) (f e)->t σ H Q
def AO(K:lD)(E:XK)(t:TA)(f:FA):Prop:=∀(B)(a)(O)(σ)(H)(g)(Q),Rl K B a O σ H g->WR K E B a (λr=>∀e h b,Ev O H e b->Rl K B a e σ b r.2->Paired (λv pv=>oR K a e σ b r.2 v pv/\rY pv) h r.1->Q h b) (f g)->t σ H Q
set_option genInjectivity true in
inductive RV where|fz(d:D)|ow(ds:I D)
def RV.pv:RV->PV|.fz d=>.fz d|.ow ds=>.ow ds
def Fin(O:iP)(K:lD)(H:Hp)(Q:VK):RV->Prop |.fz d=>∀v a,g_ H a->DV O K a v d->Q v a|.ow ds=>∀p b a,g_ H a->H p=CL->a p=G (.lst b)->DVs (g9 O p) K a b ds->Q (.ref p) a
def qA(O:iP)(H:Hp):Prop:=∀a,H a=CL->¬O a
section
variable{K:lD}{E:XK}{B O U:iP}{Y H X:Hp}{Z:St}{ρ ρ':bM}{v:V}
def kE(R:Rl K B Y O Z H ρ)(h:∀U v X,Ev O H U X->Rl K B Y U Z X ρ->oR K Y U Z X ρ v rv.pv->Q v X):Fin O K H Q rv:=by cases rv with |fz d=>show λv X s f=>h O v X (Ev.grow s) (R.grow s) f|ow ds=>intro p q X s b e f;show h _ _ X (Ev.add s b) (R.add s b (by rw[e];simp)) #[p,q,W,.inr W,R.akK b,e,f,λi es r z=>?_];let(u,j,a,g,e2,o,n,m,l):=R.slot i _ r;simp_all
def Fin.new(hd:DVs O K H vs ds)(h:Fin O K H Q (.ow ds)):∀p,H p=CL->Q (.ref p) (bW H p (.lst vs)):=λp a=>h p vs _ (bq a _) a aR (hd.ev (Ev.add (bq a _) a))
def Fin.aiP(hd:DVs O K H vs ds)(b:qA O H)(h:Fin O K H Q (.fz (.tuple ds))):∀p,H p=CL->Q (.ref p) (bW H p (.tup vs)):=λp a=>h _ _ (bq a _) (.tup #[hY.of aR,λz=>a7 z (b p a)] (hd.ev (Ev.grow (bq a _))))
def Fin.at(h:Fin O K H Q (.fz d))(a:DV O K H v d):Q v H:=h v H (g_.refl H) a
def GG(ρ:bM)(i:Nat):bb (bb PV)->d7 (PV×bM) |some (G (.fz d))=>.ok (.fz d,ρ)|some (G (.ow _))=>.ok (.pl i,ρ)|_=>.bad
def ae(i:Nat):FE:=λρ=>GG ρ i ρ[i]?
def DS:EO K E (uo i) (ae i):=by intro B Y O Z H ρ Q R w;unfold ae at w;cases q:ρ[i]? with |none=>simp[q]at w;show w.elim|some o=>cases o with |none=>simp[q]at w;show w.elim|some x=>rw[q]at w;let(v,a,b):=R.slot i x q;cases x with |fz d=>show#[v,a,w O v H .refl R b]|ow ds=>show#[v,a,w O v H .refl R a]|pl j=>show w.elim
def pC(d:D):FE:=λρ=>.ok (.fz d,ρ)
def NL(h:∀O H,DV O K H v d):EO K E (tC v) (pC d):=λB Y O Z H ρ Q R w=>w O v H .refl R (h O H)
def tI:EO K E (tC (.int i)) (pC (.int i)):=NL λ_ _=>.int i
def ZR:EO K E (tC (.bl b)) (pC (.bool b)):=NL λ_ _=>.bl b
def Kx:EO K E (tC (.str x)) (pC (.str x)):=NL λ_ _=>.str x
def Xz:EO K E (tC .non) (pC .none):=NL λ_ _=>.non
def mo(K:lD)(r:R2)(f:D->D->bb RV):Prop:=∀(O)(H)(x y)(e b)(a)(Q),qA O H->DX O K H x e->DX O K H y b->f e b=G a->Fin O K H Q a->r x y H Q
def am(f:D->D->bb RV)(c e:FE):FE:=λρ=>(c ρ).bind λa=>(e a.2).bind λb=>(d7.bR (kb b.2 (cI a.1))).bind λi=>(d7.bR (kb b.2 b.1)).bind λg=>(d7.bR (f i g)).bind λh=>.ok (h.pv,b.2)
def r8(q:mo K r f)(c:EO K E ta fa)(t:EO K E tb fb):EO K E (OJ r ta tb) (am f fa fb):=by intro B Y O Z H ρ Q R w;show c B Y O Z H ρ _ R (w.bind.imp λa h M x L e1 A p=>?_);let(G,e2,R2,o):=iT A p;show t B Y G Z L a.2 _ R2 (h.bind.imp λb e F y J e3 g n=>?_);let(P,j,e):=e.bR;let(u,i,e):=e.bR;let(N,l,e):=e.bR;show q F J x y P u N Q g.od (kI g (o.keep (pB a.1) e3 (ρ':=b.2)) j) (kI g n i) l (kE g λC v I e4 z m=>?_);show e C v I (e1.trans (e2.trans (e3.trans e4))) z m
def Lc(K:lD)(r:V->Hp->VK->Prop)(f:D->bb RV):Prop:=∀(O)(H)(x)(b)(a)(Q),qA O H->DX O K H x b->f b=G a->Fin O K H Q a->r x H Q
def OH(f:D->bb RV)(c:FE):FE:=λρ=>(c ρ).bind λa=>(d7.bR (kb a.2 a.1)).bind λe=>(d7.bR (f e)).bind λb=>.ok (b.pv,a.2)
def YC(l:Lc K r f)(c:EO K E C J):EO K E (X? r C) (OH f J):=by intro B Y O Z H ρ Q R w;show c B Y O Z H ρ _ R (w.bind.imp λa b o x q e1 e j=>?_);let(y,g,b):=b.bR;let(t,h,b):=b.bR;show l o q x y t Q e.od (kI e j g) h (kE e λn v p e4 m i=>b n v p (e1.trans e4) m i)
def FX:D->bb Bool|.bool b=>G b|_=>CL
def WJ(h:DX O K H x d)(e:FX d=G b):x=.bl b:=by ext d<;>injections;subst_vars;ext h;rfl
def ai(c:FE):bM->d7 (Bool×bM):=λρ=>(c ρ).bind λa=>(d7.bR (kb a.2 a.1)).bind λd=>(d7.bR (FX d)).bind λb=>.ok (b,a.2)
def rT(c:EO K E o C):n! K E (yA o) (ai C):=by intro B Y O Z H ρ Q R w;show c B Y O Z H ρ _ R (w.bind.imp λa e j x l e1 f i=>?_);let(d,g,e):=e.bR;let(b,h,e):=e.bR;show#[b,WJ (kI f i g) h,e j l e1 f]
def Y7(a:EO K E o C):n! K E (tB o) (ai C):=rT a
def mz(c b:FT):FT:=λρ=>(c ρ).bind λa=>if a.1=u then b a.2 else .ok (M,a.2)
def yf(c b:FT):FT:=λρ=>(c ρ).bind λa=>if a.1=u then .ok (u,a.2)else b a.2
def kR(b:FT):FT:=λρ=>(b ρ).bind λa=>.ok (!a.1,a.2)
def n!.next(h:n! K E t f)(R:Rl K B Y O1 Z H1 ρ)(e1:Ev O H O1 H1)(w:WR K E B Y (λr=>∀U X,Ev O H U X->Rl K B Y U Z X r.2->Q r.1 X) (f ρ)):t Z H1 Q:=h B Y O1 Z H1 ρ Q R (w.imp λr q U X a b=>q U X (e1.trans a) b)
def EO.next(h:EO K E t f)(R:Rl K B Y O1 Z H1 ρ)(e1:Ev O H O1 H1)(w:WR K E B Y (λr=>∀U v X,Ev O H U X->Rl K B Y U Z X r.2->oR K Y U Z X r.2 v r.1->Q v X) (f ρ)):t Z H1 Q:=h B Y O1 Z H1 ρ Q R (w.imp λr q U v X b e a=>q U v X (e1.trans b) e a)
def Sy(l:n! K E t f)(j:n! K E o g):n! K E (Vv t o) (mz f g):=by intro B Y O Z H ρ Q R w;show l B Y O Z H ρ _ R (w.bind.imp λa e m n e1 h=>?_);let(b,i):=a;cases b with|true=>show j.next h e1 e|false=>show e m n e1 h
def WO(l:n! K E t f)(j:n! K E o g):n! K E (YP t o) (yf f g):=by intro B Y O Z H ρ Q R w;show l B Y O Z H ρ _ R (w.bind.imp λa e m n e1 h=>?_);let(b,i):=a;cases b with|true=>show e m n e1 h|false=>show j.next h e1 e
def Sl(e:n! K E t f):n! K E (Pf t) (kR f):=by show λB Y O Z H ρ Q R w=>e B Y O Z H ρ _ R (w.bind.imp λa b h i e1 g=>b h i e1 g)
def bi:FT:=λρ=>.ok (u,ρ)
def akf:n! K E Kt bi:=λB Y O Z H ρ Q R w=>w O H .refl R
def Am(c b:FE):FE:=λρ=>(ai c ρ).bind λa=>if a.1=u then b a.2 else .ok (.fz (.bool M),a.2)
def XW(c:EO K E C J)(h:EO K E o fb):EO K E (NJ C o) (Am J fb):=by intro B Y O Z H ρ Q R w;show rT c B Y O Z H ρ _ R (w.bind.imp λa e i j e1 f=>?_);let(b,g):=a;cases b with |true=>show h.next f e1 e|false=>show e i _ j e1 f (.bl _)
def yp(c:FT)(d b:FE):FE:=λρ=>(c ρ).bind λa=>if a.1=u then d a.2 else b a.2
def Z3(h:n! K E t c)(d:EO K E C J)(i:EO K E o fb):EO K E (Zz t C o) (yp c J fb):=by intro B Y O Z H ρ Q R w;show h B Y O Z H ρ _ R (w.bind.imp λa e j l e1 f=>?_);let(b,g):=a;cases b with|true=>show d.next f e1 e|false=>show i.next f e1 e
def eB(f g:D->D->bb RV)(k h d:FE):FE:=λρ=>(k ρ).bind λa=>(h a.2).bind λb=>(d7.bR (kb b.2 (cI a.1))).bind λm=>(d7.bR (kb b.2 (cI b.1))).bind λj=>(d7.bR (f m j)).bind λl=>match l with |.fz (.bool u)=>(d b.2).bind λc=>(d7.bR (kb c.2 (cI b.1))).bind λe=>(d7.bR (kb c.2 c.1)).bind λi=>(d7.bR (g e i)).bind λl=>.ok (l.pv,c.2)|.fz (.bool M)=>.ok (.fz (.bool M),b.2)|_=>.bad
def ali(D:mo K r f)(o:mo K r' g)(ha:EO K E ta fa)(hb:EO K E tb fb)(hc:EO K E tc fc):EO K E (EW r r' ta tb tc) (eB f g fa fb fc):=by intro B Y O Z H ρ Q R w;show ha B Y O Z H ρ _ R (w.bind.imp λa F O1 x H1 e1 R1 T=>?_);let(O2,e2,R2,S):=iT R1 T;show hb B Y O2 Z H1 a.2 _ R2 (F.bind.imp λb e O3' y C p t n=>?_);let(i,e3,l,u):=iT t n;let e3:=p.trans e3;let(dx,J,e):=e.bR;let(dy,I,e):=e.bR;let(rv,M,e):=e.bR;show D i C x y dx dy rv _ l.od (kI l (S.keep (pB a.1) e3 (ρ':=b.2)) J) (kI l u I) M ?_;cases rv with|ow ds=>show e.elim|fz d=>intro v X s dv;cases dv with
  |bl k=>show#[k,W,?_];let A:=l.grow s;let e4:Ev i C i X:=Ev.grow s;cases k with |false=>show e i _ X (e1.trans (e2.trans (e3.trans e4))) A (.bl _)|true=>show hc B Y i Z X b.2 _ A (WR.imp (WR.bind e) λc h O5 z H5 e5 j P=>?_);let(q,m,h):=h.bR;let(dz,G,h):=h.bR;let(rv,L,h):=h.bR;show o O5 H5 y z q dz rv Q j.od (kI j (u.keep (pB b.1) (e4.trans e5)) m) (kI j P G) L (kE j λO6 v H6 e6 R6 N=>h O6 v H6 (e1.trans (e2.trans (e3.trans (e4.trans (e5.trans e6))))) R6 N)
  |_=>show e.elim
def ag:FA:=λρ=>.ok ([],ρ)
def aa(c:FE)(fr:FA):FA:=λρ=>(c ρ).bind λa=>(fr a.2).bind λb=>.ok (cI a.1::b.1,b.2)
def yX:AO K E lW ag:=λB Y O Z H ρ Q R w=>w O [] H .refl R .nil
def uQ(c:EO K E C J)(j:AO K E tr fr):AO K E (jM C tr) (aa J fr):=by intro B Y O Z H ρ Q R w;show c B Y O Z H ρ _ R (w.bind.imp λa f t x q e1 m i=>?_);let(o,e2,R2,h):=iT m i;show j B Y o Z q a.2 _ R2 (f.bind.imp λb e n r p e3 l g=>e n _ p (e1.trans (e2.trans e3)) l (.cons #[h.keep (pB a.1) e3,pB a.1] g))
def xP(ρ:bM):I PV->bb (I D) |[]=>G []|p::r=>match kb ρ p with |some d=>(match xP ρ r with |some ds=>G (d::ds)|none=>CL)|none=>CL
theorem zQ(R:Rl K B Y O Z H ρ):∀{f:I V}{c:I PV}{ds:I D},Paired (λv pv=>oR K Y O Z H ρ v pv/\rY pv) f c->xP ρ c=G ds->Paired (DX O K H) f ds |_,_,_,.nil,e=>by injections;subst_vars;show .nil|_,_,_,.cons (l₂:=c) (b:=p) h t,e=>by unfold xP at e;cases q:kb ρ p with|none=>ext|some d=>rw[q]at e;cases g:xP ρ c with |none=>ext|some a=>
    rw[g]at e
    injections;subst_vars
    show .cons (kI R h.1 q) (zQ R t g)
def nv(ρ:bM):I PV->bb (I D×bM) |[]=>G ([],ρ)|p::r=>match A6 ρ p with |some (d,b)=>(match nv b r with |some (ds,a)=>G (d::ds,a)|none=>CL)|none=>CL
theorem oB:∀{k:I V}{c:I PV}{ds:I D}{O:iP}{ρ ρ':bM},Rl K B Y O Z H ρ->Paired (λv pv=>oR K Y O Z H ρ v pv/\rY pv) k c->nv ρ c=G (ds,ρ')->∃U,Ev O H U H/\Rl K B Y U Z H ρ'/\DVs U K H k ds |_,_,_,O,_,_,R,.nil,e=>by injections;subst_vars;show#[O,.refl,R,.nil]|_,_,_,O,ρ,ρ',R,.cons (l₁:=k) (l₂:=c) (b:=p) h t,e=>by unfold nv at e;cases q:A6 ρ p with |none=>ext|some r=>let(d,a):=r;rw[q]at e;dsimp only at e;cases w:nv a c with |none=>ext|some n=>
    rw[w]at e
    injections;subst_vars
    let(o,e1,l,j):=xo R h.1 q;let(m,e2,R2,i):=oB l (Paired.aes t λv pv a=>by let(g,f):=a;show#[g.keep f e1,f]) w;show#[m,e1.trans e2,R2,.cons (j.ev e2) i]
abbrev FN:=I D->d7 RV
def yC(K:lD)(n:Nat)(F:FN):Sp:=λb H Q E=>b.length=n/\∃(B:iP)(ds:I D),(∀a,B a->H a≠CL)/\DVs B K H b ds/\WR K E B H (Fin B K H Q) (F ds)
def wZ(F:FN)(n:Nat)(c:FA):FE:=λρ=>(c ρ).bind λa=>(d7.bR (nv a.2 a.1)).bind λb=>if b.1.length=n then(F b.1).bind λe=>.ok (e.pv,b.2)else .bad
def QC(c:AO K E C J):EO K E (sj (yC K n F) [] E C) (wZ F n J):=by
 intro B Y O Z H ρ Q R w;show c B Y O Z H ρ _ R (w.bind.imp λa g t A u e1 m i=>?_);let((ds,f),q,b):=g.bR;let(p,e2,R2,e):=oB m i q;dsimp only at b;by_cases hn:ds.length=n
 .rw[ax hn]at b
  rw[n9];show#[e.length.trans hn,p,ds,λa z j=>R2.od a j z,e,?_];cases y:F ds with|bad=>rw[y]at b;show b.elim|er x=>rw[y]at b;show XE.from b R2.bo R2.same|ok L=>rw[y]at b;show kE R2 λo v r e3 l h=>b o v r (e1.trans (e2.trans e3)) l h
 .rw[aE hn]at b;show b.elim
def bK(c:FA):FE:=λρ=>(c ρ).bind λa=>(d7.bR (nv a.2 a.1)).bind λb=>if b.1.length<=1000 then .ok (.fz (.tuple b.1),b.2)else .bad
def bS(c:FA):FE:=λρ=>(c ρ).bind λa=>(d7.bR (nv a.2 a.1)).bind λb=>if b.1.length<=1000 then .ok (.ow b.1,b.2)else .bad
def xb(h:n<=1000):n<=eg:=la h ()
def Xq(c:AO K E C J):EO K E (Q7 C) (bK J):=by
 intro B Y O Z H ρ Q R w;show c B Y O Z H ρ _ R (w.bind.imp λa g p t r e1 l i=>?_);let((ds,f),q,b):=g.bR;let(o,e2,R2,e):=oB l i q;by_cases hn:ds.length<=1000
 .rw[ax hn]at b;show#[by rw[e.length];show xb hn,Fin.aiP e R2.od (kE R2 λm v n e3 j h=>b m v n (e1.trans (e2.trans e3)) j h)]
 .rw[aE hn]at b;show b.elim
def Ef(c:AO K E C J):EO K E (Sk C) (bS J):=by
 intro B Y O Z H ρ Q R w;show c B Y O Z H ρ _ R (w.bind.imp λa g p t r e1 l i=>?_);let((ds,f),q,b):=g.bR;let(o,e2,R2,e):=oB l i q;by_cases hn:ds.length<=1000
 .rw[ax hn]at b;show#[by rw[e.length];show xb hn,Fin.new e (kE R2 λm v n e3 j h=>b m v n (e1.trans (e2.trans e3)) j h)]
 .rw[aE hn]at b;show b.elim
def Ci(K:lD)(r:I V->Hp->VK->Prop)(f:I D->bb RV):Prop:=∀(O)(H)(xs)(ds)(a)(Q),qA O H->Paired (DX O K H) xs ds->f ds=G a->Fin O K H Q a->r xs H Q
def cy(f:I D->bb RV)(c:FA):FE:=λρ=>(c ρ).bind λa=>(d7.bR (xP a.2 a.1)).bind λds=>(d7.bR (f ds)).bind λb=>.ok (b.pv,a.2)
def Lo(l:Ci K r f)(c:AO K E C J):EO K E (FW r C) (cy f J):=by intro B Y O Z H ρ Q R w;show c B Y O Z H ρ _ R (w.bind.imp λa g o y t e1 e j=>?_);let(ds,q,b):=g.bR;let(z,h,b):=b.bR;show l o t y ds z Q e.od (zQ e j q) h (kE e λn v p e4 m i=>b n v p (e1.trans e4) m i)
def MT:D->bb Int|.int i=>G i|_=>CL
def JS(h:DX O K H x d)(e:MT d=G i):x=.int i:=by ext d<;>injections;subst_vars;ext h;rfl
abbrev FO:=bM->d7 (bb Int×bM)
def Zb(K:lD)(E:XK)(t:TO)(f:FO):Prop:=∀(B)(Y)(O)(Z)(H)(ρ)(Q),Rl K B Y O Z H ρ->WR K E B Y (λr=>∀U X,Ev O H U X->Rl K B Y U Z X r.2->Q r.1 X) (f ρ)->t Z H Q
def jN:FO:=λρ=>.ok (CL,ρ)
def fw(b:FE):FO:=λρ=>(b ρ).bind λa=>(d7.bR (kb a.2 a.1)).bind λd=>(d7.bR (MT d)).bind λi=>.ok (G i,a.2)
def ala:Zb K E Hg jN:=λB Y O Z H ρ Q R w=>w O H .refl R
def Oa(c:EO K E o C):Zb K E (MF o) (fw C):=by intro B Y O Z H ρ Q R w;show c B Y O Z H ρ _ R (w.bind.imp λa f j x l e1 e h=>?_);let(d,q,b):=f.bR;let(i,g,b):=b.bR;show#[i,JS (kI e h q) g,b j l e1 e]
def VJ(K:lD)(r:V->bb Int->bb Int->Hp->VK->Prop)(f:D->bb Int->bb Int->bb RV):Prop:=∀(O)(H)(x)(lo b)(e)(a)(Q),qA O H->DX O K H x e->f e lo b=G a->Fin O K H Q a->r x lo b H Q
def xu(f:D->bb Int->bb Int->bb RV)(c:FE)(b e:FO):FE:=λρ=>(c ρ).bind λa=>(b a.2).bind λl=>(e l.2).bind λh=>(d7.bR (kb h.2 (cI a.1))).bind λi=>(d7.bR (f i l.1 h.1)).bind λg=>.ok (g.pv,h.2)
def YA(q:VJ K r f)(c:EO K E ta fa)(t:Zb K E tl fl)(u:Zb K E th fh):EO K E (Dy r ta tl th) (xu f fa fl fh):=by intro B Y O Z H ρ Q R w;show c B Y O Z H ρ _ R (w.bind.imp λa i P x N e1 A p=>?_);let(I,e2,R2,o):=iT A p;show t B Y I Z N a.2 _ R2 (i.bind.imp λl g G M e3 z=>?_);show u B Y G Z M l.2 _ z (g.bind.imp λh b F L e4 e=>?_);let(T,j,b):=b.bR;let(S,m,b):=b.bR;show q F L x l.1 h.1 T S Q e.od (kI e (o.keep (pB a.1) (e3.trans e4)) j) m (kE e λC v J e5 y n=>b C v J (e1.trans (e2.trans (e3.trans (e4.trans e5)))) y n)
end
def zN{l:I α}(h:(l.set i x)[i]?=G y):i<l.length:=by rw[qF]at h;simp_all
section
def Rl.mut(R:Rl K B H0 O σ H ρ)(c:ρ[i]?=cL (cL (.ow ds)))(E:σ[i]?=cL (cL (.ref a)))(F:O a)(G:H0 a=CL)(hd:DVs O K H vs' ds'):Rl K B H0 O σ (bW H a (.lst vs')) (ρ.set i (cL (.ow ds'))):=by
 let ev:Ev O H O (bW H a (.lst vs')):=Ev.mut F _;show#[λb o e=>by rw[bh (ci e G)];show R.same b o e,R.bo,R.bd,λb y=>?_,by rw[p_];show R.len,λj x f=>?_,λj k xs A w Q P r p=>?_]
 .by_cases e:b=a
  .rw[e,aR]at y;simp_all
  .rw[bh e]at y;show R.od b y
 .rcases cW f with⟨rfl,S⟩|⟨n,f⟩
  .injections;subst_vars
   show#[_,E,a,vs',W,F,G,aR,hd.ev ev]
  .let(u,C,m):=R.slot j x f
   show#[u,C,?_];cases x with |fz d=>show DV.ev ev m|pl i=>show m|ow xs=>let(b,I,0,N,M,L,J):=m;let v:b≠a:=λz=>n (R.one j i xs ds _ f c (by rw[C,z]) E);show#[b,I,W,N,M,by rw[bh v];show L,J.ev ev]
 .let own:∀{j:Nat}{xs:a8 D},(ρ.set i (cL (.ow ds')))[j]?=cL (cL (.ow xs))->∃A,ρ[j]?=cL (cL (.ow A)):=λ{j xs}h=>by
   rcases cW h with⟨rfl,_⟩|⟨_,h⟩
   .show#[_,c]
   .show#[_,h]
  let(l,t):=own Q;let(g,q):=own P;show R.one j k l g w t q r p
def yj(h:n<1000000):n<eg:=lr h ()
def Aa:bb (bb PV)->bb (I D) |some (G (.ow ds))=>G ds|_=>CL
def pE(h:Aa o=G ds):o=G (G (.ow ds)):=by
 unfold Aa at h;split at h
 .simp_all
 simp_all
def sZ(i:Nat)(c:FE):FE:=λe=>(d7.bR (Aa e[i]?)).bind λ_=>(c e).bind λa=>(d7.bR (A6 a.2 a.1)).bind λb=>(d7.bR (Aa b.2[i]?)).bind λds=>if ds.length<1000000 then .ok (.fz .none,b.2.set i (G (.ow (ds++[b.1]))))else .bad
def Wf(q:EO K E U fe):EO K E (Xm K "list" zM (uo i) (jM U lW)) (sZ i fe):=by
 intro B F O l H S Q R w;let(z,o,w):=w.bR;let(v,j,a,T,0,L,J,r,I):=R.slot i _ (pE o);show#[_,j,.inl #[W,_,hL.of r],?_];show q B F O l H S _ R (w.bind.imp λb e N y P e1 A p=>?_);let((d,m),n,e):=e.bR;let(C,e2,R2,u):=xo A p n;let(ds,f,e):=e.bR;let f:=pE f;let(G,k1,M,g,t,k2,k3,k4,k5):=R2.slot i _ f;subst t;simp[j]at k1;ext k1;by_cases h:ds.length<1000000
 .rw[ax h]at e;show#[a,g,y,W,W,k4,yj (by rw[k5.length];show h),(e C .non _ (e1.trans (e2.trans (Ev.mut k2 _))) (R2.mut f j k2 k3 (k5.append (.cons u .nil))) .non)]
 .rw[aE h]at e;show e.elim
abbrev FG:=PV->bM->d7 bM
abbrev Yc:=I D->bM->d7 bM
def GO(K:lD)(E:XK)(g:TG)(f:FG):Prop:=∀(B)(e)(O)(σ)(H)(h)(v)(pv)(Q),Rl K B e O σ H h->oR K e O σ H h v pv->WR K E B e (λa=>∀j b i,Ev O H j i->Rl K B e j b i a->Q b i) (f pv h)->g v σ H Q
def ZH(K:lD)(E:XK)(g:ON)(f:Yc):Prop:=∀(B)(e)(O)(σ)(H)(i)(j)(ds)(Q),Rl K B e O σ H i->DVs O K H j ds->WR K E B e (λa=>∀l b h,Ev O H l h->Rl K B e l b h a->Q b h) (f ds i)->g j σ H Q
def Rl.ans(R:Rl K B H0 O σ H ρ)(h:DV O K H v d):Rl K B H0 O (σ.set i (G v)) H (ρ.set i (G (.fz d))):=by
 show#[R.same,R.bo,R.bd,R.od,by rw[p_,p_];show R.len,λj x f=>?_,λj k xs n w m l b a=>?_]
 .rcases cW f with⟨rfl,e⟩|⟨g,f⟩
  .injections;subst_vars
   show#[v,by rw[qF,ax W,ax (by rw[R.len];show(zN f))],h]
  .let(u,r,q):=R.slot j x f;show#[u,by rw[qF,aE (λz=>g z.symm)];show r,q]
 .rcases cW m with⟨rfl,t⟩|⟨p,m⟩
  .simp_all
  .rcases cW l with⟨rfl,t⟩|⟨o,l⟩
   .simp_all
   .rw[qF,aE (λz=>p z.symm)]at b;rw[qF,aE (λz=>o z.symm)]at a;show R.one j k xs n w m l b a
def Rl.apB(R:Rl K B H0 O σ H ρ)(h:oR K H0 O σ H ρ v (.ow ds)):Rl K B H0 O (σ.set i (cL v)) H (ρ.set i (cL (.ow ds))):=by
 let(a,L,0,G,F,E,C,q):=h;show#[R.same,R.bo,R.bd,R.od,by rw[p_,p_];show R.len,λj x m=>?_,λj k xs p w A g f b=>?_]
 .rcases cW m with⟨rfl,e⟩|⟨o,m⟩
  .ext e;show#[_,by rw[qF,ax W,ax (by rw[R.len];show(zN m))],a,L,W,G,F,E,C]
  .let(u,y,t):=R.slot j x m;show#[u,by rw[qF,aE (λz=>o z.symm)];show y,t]
 .rcases cW A with⟨rfl,J⟩|⟨r,l⟩
  .rcases cW g with⟨rfl,I⟩|⟨n,g⟩
   .rfl
   .rw[qF,aE (λz=>n z.symm)]at b
    rcases cW f with⟨_,e⟩|⟨z,_⟩
    .ext e;show a7 b (q k p g)
    .show a7 W z
  .rw[qF,aE (λz=>r z.symm)]at f
   rcases cW g with⟨rfl,J⟩|⟨n,g⟩
   .rcases cW b with⟨_,e⟩|⟨z,_⟩
    .ext e;show a7 f (q j xs l)
    .show a7 W z
   .rw[qF,aE (λz=>n z.symm)]at b;show R.one j k xs p w l g f b
def gN(i:Nat):FG:=λpv a=>match pv with |.ow ds=>.ok (a.set i (G (.ow ds)))|.fz d=>.ok (a.set i (G (.fz d)))|.pl j=>(d7.bR (A6 a (.pl j))).bind λb=>.ok (b.2.set i (G (.fz b.1)))
def zG:GO K E (rS i) (gN i):=by intro B g O f H h v pv Q R p w;cases pv with |ow ds=>show w O _ H .refl (R.apB p)|fz d=>show w O _ H .refl (R.ans p)|pl j=>let((d,a),q,w):=WR.bR (w);let(e,e2,R2,b):=xo R p q;show w e _ H e2 (R2.ans b)
def rE:Yc:=λds a=>match ds with|[]=>.ok a|_=>.bad
def iM(f:FG)(g:Yc):Yc:=λds b=>match ds with|[]=>.bad|d::r=>(f (.fz d) b).bind λa=>g r a
def WF:ZH K E PB rE:=by intro B e O a H f g ds Q R b w;cases b with |nil=>show#[W,w O a H .refl R]|cons _ _=>show w.elim
def Qj(p:GO K E t f)(o:ZH K E J g):ZH K E (Fp t J) (iM f g):=by intro B h O i H L N ds Q R r w;cases r with |nil=>show w.elim|cons n m=>rename_i v N d ds;show#[_,_,W,p B h O i H L _ (.fz d) _ R n (WR.imp (WR.bind w) λe l A b F e1 y=>o B h A b F e _ _ Q y (m.ev e1) (l.imp λj q z a C e2 R2=>q z a C (e1.trans e2) R2))]
def HN:D->bb (I D)|.tuple ds=>G ds|_=>CL
def Jr(h:DX O K H x d)(e:HN d=G ds):∃a xs,x=.ref a/\oN O K H a xs/\DVs O K H xs ds:=by ext d<;>injections;subst_vars;cases h with|tup h b=>show#[_,_,W,h,b]
def gT(n:Nat)(f:Yc):FG:=λpv a=>(d7.bR (kb a pv)).bind λd=>(d7.bR (HN d)).bind λds=>if ds.length=n then f ds a else .bad
def XL(h:ZH K E t f):GO K E (QU K n t) (gT n f):=by
 intro B l O e H m v pv Q R p w;let(d,i,w):=w.bR;let(ds,g,w):=w.bR;let(a,xs,0,j,b):=Jr (kI R p i) g;by_cases hn:ds.length=n
 .rw[ax hn]at w;show#[a,xs,W,j.1,b.length.trans hn,h B l O e H m xs ds Q R b w]
 .rw[aE hn]at w;show w.elim
def Wy(i:Nat)(c:FE):FG:=λpv e=>(d7.bR (A6 e pv)).bind λb=>(d7.bR (Aa b.2[i]?)).bind λ_=>(c b.2).bind λa=>(d7.bR (kb a.2 a.1)).bind λd=>(d7.bR (MT d)).bind λn=>(d7.bR (Aa a.2[i]?)).bind λds=>(d7.bR (HM ds.length n)).bind λk=>.ok (a.2.set i (G (.ow (ds.set k b.1))))
def aas(c:EO K E ti fi):GO K E (YR (uo i) ti Tw) (Wy i fi):=by intro B M O l H ρ v pv Q R p w;let((d,g),t,w):=w.bR;let(L,e1,m,G):=xo R p t;let(I,z,w):=w.bR;let(u,j,a,vs,0,U,T,S,P):=m.slot i _ (pE z);show#[_,j,?_];show c B M L l H g _ m (w.bind.imp λb e J y Z e2 R2 A=>?_);let(X,o,e):=e.bR;let(n,r,e):=e.bR;let(ds,f,e):=e.bR;let(k,q,e):=e.bR;let f:=pE f;let C:=JS (kI R2 A o) r;subst C;let(N,k1,Y,h,F,k2,k3,k4,k5):=R2.slot i _ f;subst F;simp[j]at k1;ext k1;show#[a,h,n,k,W,W,k4,by rw[k5.length];show q,(e J l _ (e1.trans (e2.trans (Ev.mut k2 _))) (R2.mut f j k2 k3 (k5.set (G.ev e2) k)))]
set_option genInjectivity true in
inductive Fl where|nx(ρ:bM)|rt(rv:RV)|bk(ρ:bM)|ct(ρ:bM)
abbrev FS:=bM->d7 Fl
def M'(K:lD)(B:iP)(a:Hp)(O:iP)(H:Hp)(D:Ends):Fl->Prop|.nx e=>∀g b f,Ev O H g f->Rl K B a g b f e->D.nx b f|.bk e=>∀g b f,Ev O H g f->Rl K B a g b f e->D.bk b f|.ct e=>∀g b f,Ev O H g f->Rl K B a g b f e->D.ct b f|.rt h=>Fin B K a D.rt h
def SO(K:lD)(E:XK)(t:TS)(g:FS):Prop:=∀(B)(a)(O)(σ)(H)(b)(D),Rl K B a O σ H b->WR K E B a (M' K B a O H D) (g b)->t D σ H
def M'.ev{D:Ends}(e:Ev O H O1 H1)(h:M' K B H0 O H D fl):M' K B H0 O1 H1 D fl:=by cases fl with |nx b|bk b|ct b=>show λi a j f g=>h i a j (e.trans f) g|rt l=>show h
def aX:FS:=λa=>.ok (.nx a)
def aF(f g:FS):FS:=λe=>(f e).bind λa=>match a with|.nx b=>g b|a=>.ok a
def iy(f:FE):FS:=λb=>(f b).bind λa=>.ok (.nx a.2)
def bF(f:FE)(g:FG):FS:=λe=>(f e).bind λa=>(g a.1 a.2).bind λb=>.ok (.nx b)
def eJ(c:FT)(f g:FS):FS:=λb=>(c b).bind λa=>if a.1=u then f a.2 else g a.2
def Ie(a:bM):PV->bb RV |.fz d=>G (.fz d)|.ow ds=>G (.ow ds)|.pl i=>match a[i]? with |some (G (.fz d))=>G (.fz d)|some (G (.ow ds))=>G (.ow ds)|_=>CL
def aY(f:FE):FS:=λb=>(f b).bind λa=>(d7.bR (Ie a.2 a.1)).bind λe=>.ok (.rt e)
def gp:FS:=λ_=>.bad
def OP:SO K E JF aX:=λB b O a H e D R w=>w O a H .refl R
def Nj:SO K E Ec gp:=λB b O a H e D R w=>w.elim
def W9(m:SO K E t f)(l:SO K E r g):SO K E (JT t r) (aF f g):=by intro B i O j H v D R w;show m B i O j H v _ R (WR.imp (WR.bind w) λh b=>?_);cases h with |nx a=>show λo e p e1 n=>l B i o e p a D n (WR.imp b λh q=>q.ev e1)|rt y|bk a|ct a=>show b
def Pm(h:EO K E t f):SO K E (Bu t) (iy f):=by show λB l O b H n D R w=>h B l O b H n _ R (w.bind.imp λa e i x j e1 g m=>e i b j e1 g)
def Af(h:EO K E t f)(o:GO K E g C):SO K E (Ai t g) (bF f C):=by intro B i O e H y D R w;show h B i O e H y _ R (w.bind.imp λa m r x v e1 p n=>o B i r e v a.2 x a.1 _ p n (m.bind.imp λj l q b u e2 R2=>l q b u (e1.trans e2) R2))
def ZS(o:n! K E c C)(r:SO K E t f)(p:SO K E y g):SO K E (QS c t y) (eJ C f g):=by intro B i O h H z D R w;show o B i O h H z _ R (w.bind.imp λa j m n e1 l=>?_);let(b,e):=a;cases b with |true=>show r B i m h n e D l (WR.imp j λv q=>q.ev e1)|false=>show p B i m h n e D l (WR.imp j λv q=>q.ev e1)
def XG{pv:PV}(R:Rl K B C O σ H J)(p:oR K C O σ H J v pv)(e:Ie J pv=G U)(w:Fin B K C Q U):Q v H:=by
 let ow:∀{a:aT}{y:I V}{ds:I D},O a->C a=CL->H a=G _->DVs O K H y ds->Fin B K C Q (.ow ds)->Q _ H:=λ{a y ds}m l g f w=>w a y H R.same l g (f.ev (Ev.sub λb z=>z.elim (R.bo b) λe=>by simp_all))
 let fz:∀{d:D},DV O K H v d->Fin B K C Q (.fz d)->Q v H:=λ{d}h w=>w v H R.same (h.ev (Ev.sub R.bo));cases pv with|fz d=>ext e;show fz p w|ow ds=>ext e;let(a,y,0,m,l,g,f,t):=p;show ow m l g f w|pl i=>unfold Ie at e;dsimp only at e;cases q:J[i]? with|none=>ext|some o=>cases o with |none=>ext|some x=>
    let(u,r,n):=R.slot i x q;rw[p]at r
    injections;subst_vars
    rw[q]at e;cases x with |fz d=>injections;subst_vars;show fz n w|ow ds=>
     injections;subst_vars
     let(a,y,0,m,l,g,f):=n;show ow m l g f w|pl j=>show n.elim
def XN(h:EO K E t f):SO K E (RO t) (aY f):=by intro B j O e H n D R w;show h B j O e H n _ R (w.bind.imp λa b l x m e1 i g=>?_);let(o,q,b):=b.bR;show XG i g q b
def xa(K:lD)(J:It)(O:iP)(H:Hp)(ds:I D):Prop:=∀e b,Ev O H e b->qA e b->(∀i,i<ds.length->J.go i b/\∀x a,J.yld i b x a->g_ b a/\∃d,ds[i]?=G d/\DV e K a x d)/\J.stop ds.length b
abbrev FI:=bM->d7 (I D×bM)
def IO(K:lD)(E:XK)(a:TI)(c:FI):Prop:=∀(B)(f)(O)(σ)(H)(g)(h),Rl K B f O σ H g->WR K E B f (λr=>∀e J b,Ev O H e b->Rl K B f e σ b r.2->xa K J e b r.1->h J b) (c g)->a σ H h
def sT(gt:FG)(b:FS):I D->FS |[],g=>.ok (.nx g)|d::r,g=>(gt (.fz d) g).bind λa=>(b a).bind λe=>match e with |.nx f|.ct f=>sT gt b r f|.bk f=>.ok (.nx f)|.rt h=>.ok (.rt h)
def jU(c:FI)(gt:FG)(b:FS):FS:=λe=>(c e).bind λa=>sT gt b a.1 a.2
def VG(c:IO K E wi fi)(Y:GO K E g gt)(k:SO K E tb b):SO K E (RD wi g tb) (jU fi gt b):=by
 intro B o O U H ρ D R w;show c B o O U H ρ _ R (w.bind.imp λa L G J T e1 P N=>?_);let(ds,F):=a;dsimp only at L N P;show#[λi m f p=>m=ds.length-i/\i<=ds.length/\∃O2 ρ2,Ev G T O2 p/\Rl K B o O2 f p ρ2/\WR K E B o _ (sT gt b (ds.drop i) ρ2),#[_,W,mT _,G,F,.refl,P,L],?_];rintro i m r S ⟨rfl,c,O2,ρ2,e2,R2,w2⟩;let(go,t):=N O2 S e2 R2.od;by_cases j:i<ds.length
 .let(g1,g2):=go i j
  show .inr #[g1,λf p=>i+1<=ds.length/\∃O2 ρ2,Ev G T O2 p/\Rl K B o O2 f p ρ2/\WR K E B o _ _,λf p a=>by let(h1,h2):=a;show#[_,by ext,W,h1,h2],λx Q y=>?_];let(M,d,Z,dv):=g2 x Q y;let ed:ds.drop i=d::ds.drop (i+1):=by let(_,q):=f_.mp Z;rw[K! j,q]
  rw[ed]at w2;show Y B o O2 r Q ρ2 x (.fz d) _ (R2.grow M) dv (WR.imp (WR.bind w2) λC X O4 A H4 e4 R4=>?_);let n:=e2.trans ((Ev.grow M).trans e4);show k B o O4 A H4 C _ R4 (WR.imp (WR.bind X) λfl z=>?_);cases fl with |nx h|ct h=>show λv l I e5 u=>#[j,v,h,n.trans e5,u,z]|bk h=>show λv l I e5 u=>z v l I (e1.trans (n.trans e5)) u|rt rv=>show z
 .let e:i=ds.length:=by ext
  subst e;rw[t_ (dc _)]at w2;show .inl #[t,w2 O2 r S (e1.trans e2) R2]
def v8(c:FT)(b:FS):Nat->FS|0,_=>.bad|n+1,g=>(c g).bind λa=>if a.1=u then(b a.2).bind λe=>match e with |.nx f|.ct f=>v8 c b n f|.bk f=>.ok (.nx f)|.rt h=>.ok (.rt h)else .ok (.nx a.2)
def Dc(c:FT)(b:FS):FS:=v8 c b 1000000
def ME(G:n! K E c U)(I:SO K E tb b):SO K E (KF c tb) (Dc U b):=by intro B n O M H N D R w;show#[λm f o=>∃l e,Ev O H l o/\Rl K B n l f o e/\WR K E B n _ (v8 U b m e),#[_,O,N,.refl,R,w],?_];rintro m i L ⟨l,e,e2,R2,z⟩;cases m with|zero=>show z.elim|succ m=>show G B n l i L e _ R2 (WR.imp (WR.bind z) λa y C F e3 A=>?_);let(k,u):=a;cases k with
  |true=>show#[λf o=>∃l e,Ev O H l o/\Rl K B n l f o e/\WR K E B n _ _,λf o q=>#[m,DO m,q],?_];show I B n C i F u _ A (WR.imp (WR.bind y) λJ t=>?_);let j:=e2.trans e3;cases J with |nx g|ct g=>show λr h v e5 p=>#[r,g,j.trans e5,p,t]|bk g=>show λr h v e5 p=>t r h v (j.trans e5) p|rt P=>show t
  |false=>show y C i F (e2.trans e3) A
def fA:D->bb (I D)|.tuple ds|.list ds=>G ds|_=>CL
def GB(K:lD)(f:TE):TI:=λe H R=>f e H λx b=>∃a,x=.ref a/\(((∃xs,hL K b a xs)/\R (DY K a) b)\/((∃xs,hY K b a xs)/\R (DM K a) b))
def DL(y:PE X l C):PI X J l (GB X.K C):=by
 intro g s t H R I h;show de (y g s t H _ I h) λv n a=>?_;let(x,r,f,z,A):=a;let(a,e,q):=A;subst e
 injections;subst_vars
 rcases q with⟨⟨xs,j⟩,q⟩|⟨⟨xs,j⟩,q⟩
 .let(i,B,p,w):=f.list j
  show Sb p.isList ?_;show#[_,_,_,_,r,W,f.kept λb o e=>bg _ e,aiL a _,#[_,b4 _ W,W,W],λb m=>?_,q];let e:b=n.heap.objs.size:=by simpa using m
  subst e;show f.ahe (dc _) (f.hok.fresh (dc _))
 .let(i,B,p,w):=f.tuple j
  show C? (p) ?_;show#[_,_,_,_,r,W,f.kept λb o e=>bg _ e,adX a _,#[_,b4 _ W,W,W],λb m=>?_,q];let e:b=n.heap.objs.size:=by simpa using m
  subst e;show f.ahe (dc _) (f.hok.fresh (dc _))
def GK(h:qy O K H a xs)(hd:DVs O K H xs ds):xa K (DY K a) O H ds:=by intro o p e n;let f:=h.ev e;let b:=hd.ev e;show#[λi r=>?_,#[xs,f.1.sq,by rw[hd.length];show dc _]];let(x,l,_):=b.get (j' r);show#[#[xs,x,f.1.sq,l],?_];rintro y m ⟨rfl,q⟩;let(d,j,g):=b.aki (q xs f.1.sq);show#[g_.refl _,d,j,g]
def M8(h:oN O K H a xs)(hd:DVs O K H xs ds):xa K (DM K a) O H ds:=by intro o p e n;let f:=h.ev e;let b:=hd.ev e;show#[λi r=>?_,#[xs,f.1,by rw[hd.length];show dc _]];let(x,l,_):=b.get (j' r);show#[#[xs,x,f.1,l],?_];rintro y m ⟨rfl,q⟩;let(d,j,g):=b.aki (q xs f.1);show#[g_.refl _,d,j,g]
def dB(c:FE):FI:=λe=>(c e).bind λa=>(d7.bR (A6 a.2 a.1)).bind λb=>(d7.bR (fA b.1)).bind λds=>.ok (ds,b.2)
def Wc(h:EO K E C J):IO K E (GB K C) (dB J):=by intro B p O j H v r R w;show h B p O j H v _ R (w.bind.imp λa b t x i e1 o m=>?_);let((d,l),q,b):=b.bR;let(g,e2,R2,n):=xo o m q;let(ds,e,b):=b.bR;dsimp only at e;cases n with |tup h f=>ext e;show#[_,W,.inr #[#[_,h.1],b g _ i (e1.trans e2) R2 (M8 h f)]]|lst h f=>ext e;show#[_,W,.inl #[#[_,h.1.sq],b g _ i (e1.trans e2) R2 (GK h f)]]|_=>contradiction
def kz(lo:Int)(n:Nat):I D:=(eI n).map λ(k:Nat)=>.int (lo+(k))
def NB:xa K (V' lo n) O H (kz lo n):=by
 intro g h e f;let a:(kz lo n).length=n:=by ext kz;simp_all
 show#[λi j=>?_,by rw[a];show dc _];rw[a]at j;show#[j,?_];rintro x b ⟨rfl,rfl⟩;show#[g_.refl _,_,by ext kz;simp_all,.int _]
def oY(i:Int):Prop:=-(2^62)<=i/\i<2^62
instance(i):Decidable (oY i):=by ext oY:0
def kB:I D->bb (I D) |[.int j]=>if oY j then G (kz 0 j.toNat)else CL|_=>CL
def nQ(f:I D->bb (I D))(c:FA):FI:=λb=>(c b).bind λa=>(d7.bR (xP a.2 a.1)).bind λds=>(d7.bR (f ds)).bind λxs=>.ok (xs,a.2)
def OY(h:AO K E C J):IO K E (TV C) (nQ kB J):=by
 intro B r O i H v t R w;show h B r O i H v _ R (w.bind.imp λa b o y p e1 g l=>?_);let(ds,q,b):=b.bR;let(xs,e,b):=b.bR;unfold kB at e;split at e
 .rename_i j
  split at e
  .rename_i f
   injections;subst_vars
   cases(zQ g l q)with|cons n m=>ext m;ext n;show#[j,W,f.1,f.2,b o _ p e1 g NB]
  simp_all
 simp_all
end
section
variable{K:lD}{E:XK}{B O X:iP}{U H Z:Hp}{Y:St}{ρ ρ':bM}{v:V}
def Cg:bb PV->bb PV |some (.fz d)=>G (.fz d)|_=>CL
def cZ(ρ:bM):bM:=ρ.map Cg
def agW{i:Nat}(h:(cZ ρ)[i]?=G (G x)):∃d,x=.fz d/\ρ[i]?=G (G (.fz d)):=by unfold cZ at h;rw[iD]at h;cases q:ρ[i]? with |none=>ext|some o=>
  rw[q]at h;let a:=lp h;unfold Cg at a;split at a
  .ext a;show#[_,W,W]
  simp_all
def yR(ρ:bM):I Nat->bb (I D×bM) |[]=>G ([],ρ)|j::r=>match A6 ρ (.pl j)with |some (d,b)=>(match yR b r with |some (c,a)=>G (d::c,a)|none=>CL)|none=>CL
def ajd(R:Rl K B U O Y H ρ)(h:A6 ρ (.pl i)=G (d,ρ')):∃v,Y[i]?=G (G v):=by let a:toS ρ i _=G _:=h;cases q:ρ[i]? with |none=>rw[q]at a;contradiction|some o=>cases o with|none=>rw[q]at a;contradiction|some x=>let(v,b,_):=R.slot i x q;show#[v,b]
theorem Ba:∀{b:I Nat}{ds:I D}{O:iP}{ρ ρ':bM},Rl K B U O Y H ρ->yR ρ b=G (ds,ρ')->∃X c,Ev O H X H/\Rl K B U X Y H ρ'/\DVs X K H c ds/\b.map (λj=>(Y[j]?).join)=c.map G |[],_,O,_,_,R,e=>by injections;subst_vars;show#[O,[],.refl,R,.nil,W]|j::r,_,O,ρ,ρ',R,e=>by unfold yR at e;cases q:A6 ρ (.pl j)with |none=>ext|some p=>let(d,a):=p;rw[q]at e;dsimp only at e;cases t:yR a r with|none=>ext|some m=>
    rw[t]at e
    injections;subst_vars
    let(v,f):=ajd R q;let(o,e1,i,h):=xo (pv:=.pl j) R f q;let(l,c,e2,R2,g,n):=Ba i t;show#[l,_,e1.trans e2,R2,.cons (h.ev e2) g,by simp_all]
def bN(gt:FG)(c:FT)(f:FE):I D->bM->I D->d7 (I D) |[],_,acc=>.ok acc|d::r,ρ,acc=>(gt (.fz d) ρ).bind λe=>(c e).bind λb=>if b.1=u then(f b.2).bind λa=>(d7.bR (A6 a.2 a.1)).bind λx=>if acc.length<1000000 then bN gt c f r (cZ x.2) (acc++[x.1])else .bad else bN gt c f r (cZ b.2) acc
def eN:d7 α->d7 α|.er _=>.bad|r=>r
def bE(n:Nat)(b:I Nat)(f:FI)(gt:FG)(e:FT)(g:FE):FE:=λρ=>(f ρ).bind λa=>(d7.bR (yR a.2 b)).bind λc=>(eN (bN gt e g a.1 (ey n CL++c.1.map λd=>G (.fz d)) [])).bind λxs=>.ok (.ow xs,c.2)
def GX{own:I Str}(h:own.length=n):own.map (λ_=>(CL:bb V))=ey n CL:=by
 subst h
 induction own with|nil=>rfl|cons x r a=>grind
def FZ(h:WR K E B U P (eN r)):∃a,r=.ok a/\P a:=by cases r with|ok a=>show#[a,W,h]|er x|bad=>show h.elim
def Y4(K:lD)(J:It)(O:iP)(H:Hp)(ds:I D):Prop:=∀X Z,Ev O H X Z->g_ H Z->qA X Z->(∀i,i<ds.length->J.go i Z/\∀x a,J.yld i Z x a->g_ Z a/\∃d,ds[i]?=G d/\DV X K a x d)/\J.stop ds.length Z
def V?(K:lD)(E:XK)(a:TI)(c:FI):Prop:=∀(B)(U)(O)(Y)(H)(ρ)(b),Rl K B U O Y H ρ->WR K E B U (λr=>∀X J Z,Ev O H X Z->Rl K B U X Y Z r.2->Y4 K J X Z r.1->b J Z) (c ρ)->a Y H b
def IO.s(h:IO K E wi fi):V? K E wi fi:=λB U O Y H ρ b R w=>h B U O Y H ρ b R (w.imp λr q X J Z e R a=>q X J Z e R λf g e2 _ n=>a f g e2 n)
def wv(c:own.length=n)(hf:fv.map (·.2)=fj)(hi:V? K E wi fi)(hg:GO K E0 g gt)(ht:n! K E0 tc ft)(he:EO K E0 te fe):EO K E (vA own fv wi g tc te) (bE n fj fi gt ft fe):=by
 intro B U O Y H ρ Q R w;show hi B U O Y H ρ _ R (w.bind.imp λa w1 O1 J H1 e1 R1 it=>?_);let(ds,ρ1):=a;let((cs,ρ2),qc,w1):=w1.bR;dsimp only at qc it;let(O2,vs,e2,R2,dvs,hvs):=Ba R1 qc;let(xs,qx,w1):=FZ (WR.bind w1);intro C A;let hB:∀{Z:Hp},g_ H1 Z->Z C≠CL->∀a,g9 O2 C a->Z a≠CL:=λ{Z}s nd a h z=>h.elim (R2.od a (s.free z)) λe=>nd (by rw[<-e];show z);show#[λi m F Z=>m=ds.length-i/\i<=ds.length/\∃(l:a8 D)(L:a8 V)(f:bM),g_ H1 Z/\Z C=cL (.lst L)/\DVs (g9 O2 C) K Z L l/\F.length=f.length/\(∀(j:Nat)(x:PV),f[j]?=cL (cL x)->∃d u,x=PV.fz d/\F[j]?=cL (cL u)/\DV (g9 O2 C) K Z u d)/\bN gt ft fe (ds.drop i) f l=.ok xs,#[_,W,mT _,[],[],_,bq A _,aR,.nil,?_,λj x G=>?_,qx],?_]
 .ext lV
  rw[jl,jl,dO,dO,p!,dO,c,<-dvs.length];let:=dt A? hvs
  grind
 .let hm:fv.map (λp=>(Y[p.2]?).join)=vs.map cL:=by rw[<-hvs,<-hf,i?];rfl
  ext lV;rw[GX c,hm];by_cases hj:j<n
  .rw[oT (by rw[p!];show hj),z5,ax hj]at G;ext G
  .rw[oq (by rw[p!];ext),p!,iD]at G⊢
   cases qd:cs[j-n]? with|none=>rw[qd]at G;ext G|some d=>rw[qd]at G;ext G;let(u,hu,du):=dvs.get qd;show#[d,u,W,by rw[hu];rfl,du.ev (Ev.add (bq A _) A)]
 .rintro i m F Z ⟨rfl,hi,l,L,f,s,hD,dys,hl,hsl,qP⟩
  let nD:Z C≠CL:=by rw[hD];simp
  let ev1:=e2.trans (Ev.add s A);let(go,stop):=it _ Z ev1 s (λa z h=>hB s nD a h z);by_cases P:i<ds.length
  .let(g1,g2):=go i P
   show .inr #[g1,λt I=>i+1<=ds.length/\∃(l:a8 D)(L:a8 V)(f:bM),g_ H1 I/\I C=cL _/\DVs _ K I L l/\t.length=f.length/\(∀(j:Nat)(x:PV),f[j]?=cL _->∃d u,x=PV.fz d/\t[j]?=cL _/\DV _ K I u d)/\bN gt ft fe _ f l=.ok xs,λt I a=>by let(T,h2):=a;show#[_,by ext,W,T,h2],λx H3 y=>?_]
   let(s3,d,hd,dv):=g2 x H3 y;let ed:ds.drop i=d::ds.drop (i+1):=by let(_,q):=f_.mp hd;rw[K! P,q]
   rw[ed]at qP;let hD3:=s3 _ _ hD;let nD3:H3 C≠CL:=by rw[hD3];simp
   let sv:=s.trans s3;let RC:Rl K _ H3 _ F H3 f:=#[g_.refl _,λ_ h=>h,hB sv nD3,λa z h=>hB sv nD3 a h z,hl,λj x G=>by let(d,u,0,T,h2):=hsl j x G;show#[u,T,h2.ev (Ev.grow s3)],λj k xs L w hj=>by let(d,u,e,_):=hsl j _ hj;ext e];unfold bN at qP;let back:∀{O5:iP}{t:St}{I:Hp}{Mz0:bM}{H6:Hp},Rl K _ H3 O5 t I Mz0->(∀b o,b≠C->I b=cL o->H6 b=cL o)->t.length=(cZ Mz0).length/\∀(j:Nat)(x:PV),(cZ Mz0)[j]?=cL (cL x)->∃d u,x=PV.fz d/\t[j]?=cL (cL u)/\DV (g9 O2 C) K H6 u d:=λ{O5 t I Mz0 H6}S k=>by show#[by ext cZ;rw[dO];show S.len,λj x G=>?_];let(d,0,hxx):=agW G;let(u,T,h2):=S.slot j _ hxx;show#[d,u,W,T,DV.ev (λb o h n=>#[k b o (λe=>n (.inr e)) h,n]) (DV.ev (Ev.sub S.bo) h2)]
   show hg _ _ _ F H3 f x (.fz d) _ RC dv ?_;cases qg:gt _ f with|er z|bad=>rw[qg]at qP;ext qP|ok ρ3=>rw[qg,d3]at qP;intro O4 σ4 H4 e4 R4;show ht _ _ _ σ4 H4 ρ3 _ R4 ?_;cases qt:ft ρ3 with |er z|bad=>rw[qt]at qP;ext qP|ok b=>let(b,ρ4):=b;rw[qt,d3]at qP;intro O5 I e5 S;cases b with |false=>let(l5,k5):=back S λb o _ h=>h;show#[P,l,L,_,sv.trans S.same,S.same _ _ hD3,(dys.ev (Ev.grow (s3.trans S.same))),l5,k5,qP]|true=>show he _ _ _ σ4 I ρ4 _ S ?_;cases qe:fe ρ4 with |er z|bad=>rw[qe]at qP;ext qP|ok r=>rw[qe,d3]at qP;intro O6 yv H6 e6 R6 p6;cases q7:A6 r.2 r.1 with|none=>rw[q7]at qP;ext qP|some xr=>
        let(xd,ρ7):=xr;rw[q7]at qP;let(O7,e7,R7,dv7):=xo R6 p6 q7;let hD7:=R7.same _ _ hD3;let N:(if l.length<1000000 then bN gt ft fe _ (cZ ρ7) (l++[xd])else .bad)=.ok xs:=qP;by_cases hl6:l.length<1000000
        .rw[ax hl6]at N
         let up:∀b o,b≠C->H6 b=cL o->bW H6 C (.lst (L++[yv])) b=cL o:=λb o hb h=>by rw[bh hb];show h
         let arq:=dys.ev (Ev.grow (s3.trans R7.same));let(l5,k5):=back R7 up;show#[L,hD7,yj (by rw[dys.length];show hl6),P,_,_,_,λb o h=>?_,aR,?_,l5,k5,N]
         .rw[bh (ci h A)];show R7.same _ _ (sv _ _ h)
         .show(arq.append (.cons (DV.ev (Ev.sub R7.bo) dv7) .nil)).ev (λb o h n=>#[up b o (λe=>n (.inr e)) h,n])
        .rw[aE hl6]at N;ext N
  .let e:i=ds.length:=by ext
   subst e;rw[t_ (dc _)]at qP;ext qP;show .inl #[stop,?_];show w1 _ _ Z (e1.trans ev1) (R2.add s A nD) #[C,L,W,.inr W,R2.akK A,hD,dys,λk es hk z=>?_];let(u,T,b,us,e2,g1,g2,g3,g4):=R2.slot k _ hk;rw[z]at T;ext T;ext e2;rw[A]at g3;ext g3
def VN(ρ:bM):bb (bb PV)->d7 (I D×bM) |some (G (.ow ds))=>.ok (ds,ρ)|_=>.bad
def Hb(i:Nat):FI:=λρ=>VN ρ ρ[i]?
def aj2:V? K E (GB K (uo i)) (Hb i):=by intro B U O Y H ρ A R w;unfold Hb at w;cases q:ρ[i]? with |none=>simp[q]at w;show w.elim|some o=>cases o with|none=>simp[q]at w;show w.elim|some x=>cases x with |fz d|pl j=>rw[q]at w;show w.elim|ow ds=>simp[q]at w;let(v,p,a,C,0,z,u,f,r):=R.slot i _ q;show#[_,p,a,W,.inl #[#[C,hL.of f],w O _ H .refl R λX Z e s n=>?_]];let k:=s _ _ f;let b:=r.ev e;show#[λj m=>?_,#[C,hL.of k,by rw[b.length];simp_all]];let(x,l,_):=b.get (j' m);show#[#[C,x,hL.of k,l],?_];rintro y t ⟨rfl,J⟩;let(d,h,g):=b.aki (J C (hL.of k));show#[g_.refl _,d,h,g]
def aG(F:FN)(n:Nat)(c:FA):FE:=λρ=>(c ρ).bind λa=>(d7.bR (nv a.2 a.1)).bind λb=>if b.1.length=n then(eN (F b.1)).bind λe=>.ok (e.pv,b.2)else .bad
def JW(c:AO K E C J):EO K E (sj (yC K n F) [] E0 C) (aG F n J):=by
 intro B U O Y H ρ Q R w;show c B U O Y H ρ _ R (w.bind.imp λa g u A y e1 o j=>?_);let((ds,f),q,b):=g.bR;let(r,e2,R2,e):=oB o j q;by_cases hn:ds.length=n
 .rw[ax hn]at b;let(L,h,b):=FZ (WR.bind b);rw[n9];show#[e.length.trans hn,r,ds,λa z l=>R2.od a l z,e,?_];rw[h];show kE R2 λp v t e3 m i=>b p v t (e1.trans (e2.trans e3)) m i
 .rw[aE hn]at b;show b.elim
end
def bL(N:Nat)(g:FS):FN:=λds=>(g (ds.map (λd=>G (.fz d))++ey (N-ds.length) CL)).bind λa=>match a with |.rt b=>.ok b|.nx _=>.ok (.fz .none)|_=>.bad
def Cy(g:∀a,B a->H a≠CL)(l:DVs B K H C ds):Rl K B H B (L2.start N C) H (ds.map (λd=>G (.fz d))++ey (N.length-ds.length) CL):=by
 let r:=l.length;show#[g_.refl _,λ_ h=>h,g,λa z h=>g a h z,?_,λi x m=>?_,λi j xs p w t=>?_]
 .ext L2.start;simp_all
 all_goals
  let b:∀{i:Nat}{x:PV},(ds.map (λd=>G (PV.fz d))++ey (N.length-ds.length) CL)[i]?=G (G x)->∃d,x=.fz d/\ds[i]?=G d:=λ{i x}h=>by
   by_cases t:i<ds.length
   .rw[oT (by rw[dO];show t),iD]at h
    cases q:ds[i]? with |none=>rw[q]at h;ext h|some d=>rw[q]at h;ext h;show#[d,W,W]
   .rw[oq (by rw[dO];ext),z5]at h;split at h<;>ext h
 .let(d,0,n):=b m;let(v,f,o):=l.get n;show#[v,?_,o];ext L2.start;rw[oT (by rw[dO];show((f_.mp f).1)),iD,f];rfl
 .let(d,e,_):=b t;ext e
def okP(F:l! K x qual st f fd)(S:qz N C (aK st))(d:C.length=n)(a:∀(c)(A)(outer)(s)(H)(E),ik k (A.deeper (z_ qual (aK st) s.heap.objs.size f c))->∃t,nh (jz rj P w K J base N qual (aK st) f c A outer s H E).nox (eX st) t/\SO K E t g):ek P w K J base rj (k+1) f fd C (yC K n (bL N.length g)):=by show F.ok S (λz H Q E h=>h.1.trans d.symm) (λc A outer s H z Q E l h=>?_);let(t,i,j):=a c A outer s H E l;let(u,B,ds,m,p,h):=h;show#[t,i,j B H B _ H _ _ (Cy m p) (WR.imp (WR.bind h) λo q=>?_)];cases o with |rt L=>show q|nx y=>show λv b r e R=>q .non r R.same .non|bk y|ct y=>show q.elim
end L3
namespace L3
open PySem PySem.Spec PyProof.Rows L2
def hH.or(h:hH X f r)(c:hH X f r'):hH X f (λx y H Q=>r x y H Q\/r' x y H Q):=by
 intro a s b H x y v u Q I g e q;rcases q with q|q
 .show h a s b H x y v u Q I g e q
 .show c a s b H x y v u Q I g e q
def Xu(I:a! X pins σ H s)(h:m5 X.K H l xs):xs.length<=eg/\∃(a:a8 _)(n:Nat),b_ xs a/\xs.length=a.length/\s.heap.get? l=G {cls:=.type "list",data:=.seq a.toArray n}:=by
 rcases h with(h|⟨o,h⟩)|⟨a,n,h1,f,b⟩
 .show I.akA h
 .let(_,z,a,n,r,e):=I.hok l _ h;show#[z,a,n,r,r.length,e]
 .show#[f,a,n,b,b.length,I.kIn _ _ h1]
def Ts(K:lD):R2:=λx y H Q=>∃l b xs zs,x=.ref l/\y=.ref b/\m5 K H l xs/\m5 K H b zs/\xs.length+zs.length<=eg/\∀p,H p=CL->Q (.ref p) (bW H p (.lst (xs++zs)))
def Pa:hH X (nt .Add) (Ts X.K):=by
 intro g s A H x y v u Q I j i h;let(l,b,xs,B,0,0,p,t,F,q):=h;subst j;subst i;let(z,a,n,r,G,e):=Xu I p;let(C,f,E,m,o,e2):=Xu I t;show PySem.P.add_list e e2 ?_ ();let w:a.toArray++f.toArray=(a++f).toArray:=by simp
 rw[w];show#[.ref _,_,I.alA (r.append m) (),W,q _ I.fresh]
def Tt(K:lD):R2:=λx y H Q=>∃l k xs,x=.ref l/\y=.int k/\m5 K H l xs/\-(2^63)<=k/\k<2^63/\xs.length*k.toNat<=eg/\∀p,H p=CL->Q (.ref p) (bW H p (.lst (ey k.toNat xs).flatten))
def Rg:hH X (nt .Mult) (Tt X.K):=by
 intro p s N H x y v u Q I O C h;let(l,k,xs,0,0,G,L,J,E,q):=h
 injections;subst_vars
 let(t,0):=C;let(z,b,n,r,R,e):=Xu I G;let f:b.toArray.size*k.toNat<=eg:=by simp_all
 let i:¬b.toArray.size*k.toNat>(2^63-1)/8:=by
  let:(eg)<=(2^63-1)/8:=by decide
  ext
 let g:¬(!e?.List.listFitsIndex k)=Ld:=by rw[fitsIndex_both L J];simp_all
 let j:¬e?.List.listTooLong (b.toArray.size*k.toNat)=Ld:=by rw[BX f];simp_all
 let o:BY (λA w=>A++w) #v[] (ey (if b.toArray.isEmpty=Ld then 0 else k.toNat) b.toArray)=(ey k.toNat b).flatten.toArray:=by
  let M:=λm=>by show(tq b m [])
  rw[M];cases b with|nil=>simp|cons a P=>rfl
 show JQ () #[_,e,W] (λB=>Ge B k t) noFill_list_mul F.fills_int_mul F.slot_int_rmul repeat_list F.slot_int_index.lookup (q_ F.slot_int_rmul (Ge s k t) F.entry_int_rmul (F.args_int_rmul_2 _ _) (int___rmul___int_list k t l _ n) #[e,W,#[_,e,W],q_ F.slot_list_mul #[_,e,W] F.entry_list_mul (F.args_list_mul_2 _ _) (AutoListH.list___mul___list_int_3 l _ n k t g i j) #[e,?_]])
 rw[o];show#[.ref _,_,I.alA (r.rep _) (by rw[Fz,Nat.mul_comm];show E),W,q _ I.fresh]
section
variable{K:lD}
def fI(g:Int->Int->Int):D->D->bb RV |.int i,.int j=>G (.fz (.int (g i j)))|_,_=>CL
def fB(g:Int->Int->Bool):D->D->bb RV |.int i,.int j=>G (.fz (.bool (g i j)))|_,_=>CL
def Ya(C:Int->Int->Bool)(g:Int->Int->Int):D->D->bb RV |.int i,.int j=>if C i j=u then G (.fz (.int (g i j)))else CL|_,_=>CL
def NX(h:fI g J C=G o):∃i j,J=.int i/\C=.int j/\o=.fz (.int (g i j)):=by
 unfold fI at h;split at h
 .simp_all
 simp_all
def J0:mo K (yn λi j=>.int (g i j)) (fI g):=by intro O H x y l f h Q n b a e q;let(i,j,0,0,0):=NX e;ext b;ext a;show#[i,j,W,W,q.at (.int _)]
def FJ:mo K (yn λi j=>.bl (g i j)) (fB g):=by
 intro O H x y l f h Q n b a e q;unfold fB at e;split at e
 .injections;subst_vars
  ext b;ext a;show#[_,_,W,W,q.at (.bl _)]
 simp_all
def zO(h:∀i j,C i j=u->o i j):mo K (rI o λi j=>.int (g i j)) (Ya C g):=by
 intro O H x y p l m Q n b a e q;unfold Ya at e;split at e
 .split at e
  .rename_i f
   injections;subst_vars
   ext b;ext a;show#[_,_,W,W,h _ _ f,q.at (.int _)]
  simp_all
 .simp_all
def Ii(h:DX O K H x (.list ds)):∃a xs,x=.ref a/\m5 K H a xs/\DVs O K H xs ds:=h
def OA(h:DX O K H x (.tuple ds)):∃a xs,x=.ref a/\oN O K H a xs/\DVs O K H xs ds:=Jr h W
def Tj(K:lD):R2:=λx y H Q=>yn (λi j=>.int (i+j)) x y H Q\/Ts K x y H Q\/T3 K x y H Q
def FL:hH X (nt .Add) (Tj X.K):=hH.or VP (hH.or Pa SG)
def b6:D->D->bb RV |.int i,.int j=>G (.fz (.int (i+j)))|.list xs,.list ys=>if xs.length+ys.length<=1000000 then G (.ow (xs++ys))else CL|.tuple xs,.tuple ys=>if xs≠[]/\xs.length+ys.length<=1000000 then G (.fz (.tuple (xs++ys)))else CL|_,_=>CL
def nI(h:n<=1000000):n<=eg:=la h ()
def DVs.ne(h:DVs O K H vs ds):vs=[]↔ds=[]:=by ext h<;>simp
def Ha:mo K (Tj K) b6:=by
 intro O H x y v r t Q n m l e q;unfold b6 at e;split at e
 .injections;subst_vars
  ext m;ext l;show .inl #[_,_,W,W,q.at (.int _)]
 .split at e
  .rename_i h;ext e;let(a,xs,0,i,f):=Ii m;let(b,j,0,o,g):=Ii l;show .inr (.inl #[a,b,xs,j,W,W,i,o,nI (by rw[f.length,g.length];show h),Fin.new (f.append g) q])
  simp_all
 .split at e
  .rename_i h;ext e;let(a,xs,0,i,f):=OA m;let(b,j,0,o,g):=OA l;show .inr (.inr #[a,b,xs,j,W,W,i.1,o.1,λz=>h.1 (f.ne.mp z),nI (by rw[f.length,g.length];show h.2),λz=>?_,λ_=>Fin.aiP (f.append g) n q]);let p:=g.ne.mp z;subst p;rw[n9]at q;show q.at (.tup i f)
  simp_all
 simp_all
def Oh(K:lD):R2:=λx y H Q=>rI M_ (λi j=>.int (i*j)) x y H Q\/Tt K x y H Q
def QJ:hH X (nt .Mult) (Oh X.K):=hH.or W2 Rg
def kq(i:Int):Bool:=decide (-(2^64)<i/\i<2^64)
def vE(h:kq i=u):-(2^64)<i/\i<2^64:=a6 h
def Eh:D->D->bb RV |.int i,.int j=>if(kq i||kq j)=u then G (.fz (.int (i*j)))else CL|.list xs,.int k=>if xs.length*k.toNat<=1000000/\-(2^63)<=k/\k<2^63 then G (.ow (ey k.toNat xs).flatten)else CL|_,_=>CL
def RG:mo K (Oh K) Eh:=by
 intro O H x y m j l Q n g f e q;unfold Eh at e;split at e
 .split at e
  .rename_i b
   ext e;ext g;ext f;show .inl #[_,_,W,W,?_,q.at (.int _)];rcases(w! _ _).mp b with z|z
   .show .inl (vE z)
   .show .inr (vE z)
  simp_all
 .split at e
  .rename_i b;ext e;ext f;let(a,xs,0,i,h):=Ii g;show .inr #[a,_,xs,W,W,i,b.2.1,b.2.2,nI (by rw[h.length];show b.1),Fin.new (h.flat _) q]
  simp_all
 simp_all
def pX:=fI λi j=>i-j
def Fk:mo K (yn λi j=>.int (i-j)) pX:=J0
def Wh(_ j:Int):Bool:=decide (0<j)
def wE:=Ya Wh λi j=>i%j
def Sq:mo K (rI (λ_ j=>0<j) λi j=>.int (i%j)) wE:=zO λi j h=>a6 h
def Uz(_ j:Int):Bool:=decide (0<j/\j<2^128)
def EI:=Ya Uz λi j=>i/j
def PH:mo K (rI (λ_ j=>0<j/\j.natAbs.log2<9000) λi j=>.int (i/j)) EI:=zO λi j h=>by
 let b:=a6 h;show#[b.1,?_];let a:j.natAbs<2^128:=by ext
 let e:=(Hw ()).mpr a;ext
def VD(i j:Int):Bool:=decide (0<=j/\j<=1000000/\i.natAbs<2^64)
def P7(i j)(h:VD i j=u):VI i j:=(show 0<=j/\j<=1000000/\i.natAbs<2^64 from a6 h)
def Bp:=Ya VD λi j=>i*2^j.toNat
def Gq:mo K (rI VI λi j=>.int (i*2^j.toNat)) Bp:=zO P7
def nnC(_ j:Int):Bool:=decide (0<=j)
def RX:=Ya nnC λi j=>i/2^j.toNat
def Su:mo K (rI (λ_ j=>0<=j) λi j=>.int (i/2^j.toNat)) RX:=zO λi j h=>a6 h
def v4:=fI λi j=>e?.bitAnd i j
def Eu:=fI λi j=>e?.bitOr i j
def SR:mo K (yn λi j=>.int (e?.bitAnd i j)) v4:=J0
def WL:mo K (yn λi j=>.int (e?.bitOr i j)) Eu:=J0
def uT:=fB λi j=>decide (i<j)
def uH:=fB λi j=>decide (i<=j)
def Cr:=fB λi j=>decide (j<i)
def ZN:=fB λi j=>decide (j<=i)
def Vd:mo K (yn λi j=>.bl (decide (i<j))) uT:=FJ
def XZ:mo K (yn λi j=>.bl (decide (i<=j))) uH:=FJ
def Va:mo K (yn λi j=>.bl (decide (j<i))) Cr:=FJ
def U8:mo K (yn λi j=>.bl (decide (j<=i))) ZN:=FJ
def lj(d:D):Bool:=d.canLay0&&decide (d.depth<=64)
def bx(d e:D):bb RV:=if(lj d&&e.canLay0)=u then G (.fz (.bool (aS.eqv d e)))else CL
def fO(d e:D):bb RV:=if(lj d&&e.canLay0)=u then G (.fz (.bool (!aS.eqv d e)))else CL
def U7:mo K (Rj K M) bx:=by
 intro O H x y h g i Q n f b e q;unfold bx at e;split at e
 .rename_i a
  injections;subst_vars
  unfold lj at a;simp_all;show#[h,g,f.plain,b.plain,a.1.1,a.2,a.1.2,q.at (.bl _)]
 simp_all
def UG:mo K (Rj K u) fO:=by
 intro O H x y h g i Q n f b e q;unfold fO at e;split at e
 .rename_i a
  injections;subst_vars
  unfold lj at a;simp_all;show#[h,g,f.plain,b.plain,a.1.1,a.2,a.1.2,q.at (.bl _)]
 simp_all
def pW:D->D->bb RV |.none,.none=>G (.fz (.bool u))|_,.none=>G (.fz (.bool M))|_,_=>CL
def pR:D->D->bb RV |.none,.none=>G (.fz (.bool M))|_,.none=>G (.fz (.bool u))|_,_=>CL
def Ln(h:DX O K H x d)(hd:d≠.none):x≠.non:=by cases d with|none=>trivial|list ds=>let(a,xs,0,_):=Ii h;simp|tuple ds=>let(a,xs,0,_):=OA h;simp|bool b|int b|str b=>ext h;simp|dict b=>ext h
def Sd:mo K (λx y H Q=>y=.non/\Q (.bl (decide (x=.non))) H) pW:=by
 intro O H x y i g h Q n b a e q;unfold pW at e;split at e
 .injections;subst_vars
  ext b;ext a;show#[W,q.at (.bl _)]
 .rename_i f;ext e;ext a;show#[W,?_];rw[a5 (Ln b f)];show q.at (.bl _)
 simp_all
def Qc:mo K (λx y H Q=>y=.non/\Q (.bl (!decide (x=.non))) H) pR:=by
 intro O H x y i g h Q n b a e q;unfold pR at e;split at e
 .injections;subst_vars
  ext b;ext a;show#[W,q.at (.bl _)]
 .rename_i f;ext e;ext a;show#[W,?_];rw[a5 (Ln b f)];show q.at (.bl _)
 simp_all
def Qs(K:lD)(a:Bool):R2:=λx y H Q=>∃d ds,L2.DV K H x d/\(L2.DV K H y (.list ds)\/L2.DV K H y (.tuple ds))/\d.canLay0=u/\aS.canLayAll0 ds=u/\d.depth<=64/\Q (.bl (if a then !(ds.any λe=>aS.eqv e d)else ds.any λe=>aS.eqv e d)) H
def U9(p:X.A.units+65<cLine):hH X (m6 .In) (Qs X.K M):=by
 intro g s o H x y v u Q I l e h;let(d,ds,n,a,j,i,m,q):=h;let(as,f):=n.reads I l;let hm:min (aS.depthAll ds) _<=64:=la (BR _ _) m;rcases a with a|a
 .let(bs,b):=a.reads I e;show apo b f i j () #[.bl _,H,I,W,q]
 .let(bs,b):=a.reads I e;show apq b f i j () #[.bl _,H,I,W,q]
def Q0(p:X.A.units+65<cLine):hH X (m6 .NotIn) (Qs X.K Ld):=by
 intro g s o H x y v u Q I l e h;let(d,ds,n,a,j,i,m,q):=h;let(as,f):=n.reads I l;let hm:min (aS.depthAll ds) _<=64:=la (BR _ _) m;rcases a with a|a
 .let(bs,b):=a.reads I e;show apr b f i j () #[.bl _,H,I,W,q]
 .let(bs,b):=a.reads I e;show aps b f i j () #[.bl _,H,I,W,q]
def pP(d e:D):bb RV:=match fA e with |some ds=>if(lj d&&aS.canLayAll0 ds)=u then G (.fz (.bool (ds.any λe=>aS.eqv e d)))else CL|none=>CL
def rK(d e:D):bb RV:=match fA e with |some ds=>if(lj d&&aS.canLayAll0 ds)=u then G (.fz (.bool (!ds.any λe=>aS.eqv e d)))else CL|none=>CL
def KO(a:DX O K H y e)(h:fA e=G ds):L2.DV K H y (.list ds)\/L2.DV K H y (.tuple ds):=by
 unfold fA at h;split at h
 .ext h;show .inr a.plain
 .ext h;show .inl a.plain
 simp_all
def Xl:mo K (Qs K M) pP:=by
 intro O H x y i h j Q n f b e q;unfold pP at e;split at e
 .rename_i ds g
  split at e
  .rename_i a
   injections;subst_vars
   unfold lj at a;simp_all;show#[i,ds,f.plain,KO b g,a.1.1,a.2,a.1.2,q.at (.bl _)]
  simp_all
 simp_all
def SL:mo K (Qs K u) rK:=by
 intro O H x y i h j Q n f b e q;unfold rK at e;split at e
 .rename_i ds g
  split at e
  .rename_i a
   injections;subst_vars
   unfold lj at a;simp_all;show#[i,ds,f.plain,KO b g,a.1.1,a.2,a.1.2,q.at (.bl _)]
  simp_all
 simp_all
def av(d e:D):bb RV:=match fA d,e with |some ds,.int i=>(pQ ds i).map .fz|_,_=>CL
def L5(h:DVs O K H xs ds)(e:pQ ds i=G d):∃v,pQ xs i=G v/\DV O K H v d:=by unfold pQ at e⊢;rw[h.length];cases q:HM _ i with|none=>ext|some j=>rw[q]at e;show h.get e
def zS:mo K (Z8 K) av:=by
 intro O H x y t o r Q n l m e q;unfold av at e;split at e
 .rename_i ds i b
  ext m;cases p:pQ ds i with|none=>ext|some d=>
   rw[p]at e
   injections;subst_vars
   unfold fA at b;split at b
   .ext b;let(a,xs,0,h,g):=OA l;let(v,f,j):=L5 g p;show .inr (.inl #[a,xs,i,v,W,W,h.1,f,q.at j])
   .ext b;let(a,xs,0,h,g):=Ii l;let(v,f,j):=L5 g p;show .inl #[a,xs,i,v,W,W,h.sq,f,q.at j]
   simp_all
 simp_all
def ut(xs:I D)(lo a:bb Int):I D:=(xs.drop (HT.hA xs.length 0 lo)).take (HT.hA xs.length xs.length a-HT.hA xs.length 0 lo)
def NG{lo:bb Int}(h:DVs O K H xs ds):DVs O K H (Jb xs lo o) (ut ds lo o):=by unfold Jb ut;rw[h.length];show(h.drop _).take _
def kH(n:Nat)(lo a:bb Int):Bool:=decide (HT.hA n 0 lo=0/\HT.hA n n a=n)
def YF(K:lD):V->bb Int->bb Int->Hp->VK->Prop:=λx lo a H Q=>Zt K x lo a H Q\/Yo K x lo a H Q
def XV:X9 X (YF X.K):=by
 intro a s b H x v f e lo m g Q I i l pl j h;rcases h with h|h
 .show Pw a s b H x v f e lo m g Q I i l pl j h
 .show VX a s b H x v f e lo m g Q I i l pl j h
def xM:D->bb Int->bb Int->bb RV |.list ds,lo,a=>G (.ow (ut ds lo a))|.tuple ds,lo,a=>if kH ds.length lo a=u then CL else G (.fz (.tuple (ut ds lo a)))|_,_,_=>CL
def P5:VJ K (YF K) xM:=by
 intro O H x lo j l i Q n g e q;unfold xM at e;split at e
 .ext e;let(a,xs,0,f,b):=Ii g;show .inl #[a,xs,W,f.sq,Fin.new (NG b) q]
 .split at e
  .simp_all
  .rename_i h
   injections;subst_vars
   let(a,xs,0,f,b):=OA g;show .inr #[a,xs,W,f.1,λz=>h ?_,Fin.aiP (NG b) n q];rw[<-b.length];show a4 z
 simp_all
def Oz:D->bb RV |.int i=>G (.fz (.int (-i)))|_=>CL
def O0:Lc K (rU λi=>.int (-i)) Oz:=by
 intro O H x f b Q n a e q;unfold Oz at e;split at e
 .injections;subst_vars
  ext a;show#[_,W,q.at (.int _)]
 simp_all
def cX:I D->bb RV |[d]=>(match fA d with |some ds=>G (.fz (.int ds.length))|none=>CL)|_=>CL
def Wj:Ci K (λxs H Q=>∃x n,xs=[x]/\VU K x H n/\Q (.int n) H) cX:=by
 intro O H xs ds i Q n h e q;unfold cX at e;split at e
 .split at e
  .rename_i es g
   injections;subst_vars
   cases h with|cons b f=>
    ext f;unfold fA at g;split at g
    .ext g;let(a,xs,0,b,f):=OA b;show#[_,_,W,.inr #[xs,b.1,W],by rw[f.length];show q.at (.int _)]
    .ext g;let(a,xs,0,b,f):=Ii b;show#[_,_,W,.inl #[xs,b.sq,W],by rw[f.length];show q.at (.int _)]
    simp_all
  simp_all
 simp_all
def iW:I D->bb RV |[.tuple ds]|[.list ds]=>G (.fz (.tuple ds))|_=>CL
def akV:Ci K (λxs H Q=>∃p ys,xs=[.ref p]/\((hL K H p ys/\∀l,H l=CL->Q (.ref l) (bW H l (.tup ys)))\/(hY K H p ys/\Q (.ref p) H))) iW:=by
 intro O H xs ds h Q n g e q;unfold iW at e;split at e
 .ext e
  cases g with|cons b f=>ext f;let(a,xs,0,b,f):=OA b;show#[a,xs,W,.inr #[b.1,q.at (.tup b f)]]
 .ext e
  cases g with|cons b f=>ext f;let(a,xs,0,b,f):=Ii b;show#[a,xs,W,.inl #[b.sq,Fin.aiP f n q]]
 simp_all
def ww:I D->bb RV |[d]=>(fA d).map .ow|_=>CL
def Pc:Ci K (λxs H Q=>∃p ys,xs=[.ref p]/\(hL K H p ys\/hY K H p ys)/\∀l,H l=CL->Q (.ref l) (bW H l (.lst ys))) ww:=by
 intro O H xs ds i Q n g e q;unfold ww at e;split at e
 .rename_i d
  cases g with|cons b f=>ext f;cases h:fA d with|none=>ext|some es=>
    rw[h]at e
    injections;subst_vars
    unfold fA at h;split at h
    .ext h;let(a,xs,0,b,f):=OA b;show#[a,xs,W,.inr b.1,Fin.new f q]
    .ext h;let(a,xs,0,b,f):=Ii b;show#[a,xs,W,.inl b.sq,Fin.new f q]
    simp_all
 simp_all
def A9:I D->bb RV |[.int i,.int j]=>G (.fz (.int (if j>i then j else i)))|_=>CL
def SQ:Ci K (λxs H Q=>∃i j,xs=[.int i,.int j]/\Q (.int (if j>i then j else i)) H) A9:=by
 intro O H xs ds h Q n b e q;unfold A9 at e;split at e
 .injections;subst_vars
  cases b with|cons g a=>cases a with|cons a f=>ext f;ext g;ext a;show#[_,_,W,q.at (.int _)]
 simp_all
end
end L3
namespace PySem
open Sem(wp)
open AutoSeq1(wpAny_loadPart')
open Builtin Builtin.Str
section
def lx(a:s.heap.IsTupleIter it t i)(h:s.heap.IsTuple t items)(p:items[i]?=G x)(l:∀c,c.IsTupleIter it t (i+1)->Heap.SameBut it s.heap c->Q x {s with heap:=c}):wpAny (model prog w) A (e?.SmallTypes.nextOf (.ref it)) Q E s:=by
 let(o,e,j,b):=id a;let(m,f,_,n,g):=h;show bY (Em a.typeIs F.slot_tuple_iterator_next (vr F.slot_tuple_iterator_next a.typeIs F.entry_tuple_iterator_next ?_ (F.args_tuple_iterator_next_1 _)))
 show wpAny _ _ (field _ 0>>=_) _ _ s;show bY (l_ e b W ?_);show bY (l_ e b W ?_);show bY (ra f g ?_);simp_all;show bY (xR e b () (ew #[x,W,ew (l _ ?_ (Heap.SameBut.update ..))]));show#[_,b7 _ e (cv (ck b _)),(Obj.cls_mapFields ..).trans j,by rw[ck b];rfl]
def i4(j:A.handled=CL)(a:s.heap.IsTupleIter it t i)(m:s.heap.IsTuple t items)(l:items[i]?=CL)(n:∀c e,Heap.ExtBut it s.heap c->(∃o,c.get? e=G o/\o.cls=.type "StopIteration")->E (.ref e) {s with heap:=c}):wpAny (model prog w) A (e?.SmallTypes.nextOf (.ref it)) Q E s:=by
 let(o,f,r,h):=id a;let(p,b,_,q,g):=m;show bY (Em a.typeIs F.slot_tuple_iterator_next (vr F.slot_tuple_iterator_next a.typeIs F.entry_tuple_iterator_next ?_ (F.args_tuple_iterator_next_1 _)))
 show wpAny _ _ (field _ 0>>=_) _ _ s;show bY (l_ f h W ?_);show bY (l_ f h W ?_);show bY (ra b g ?_);simp only[q!,l];show bY (F? (bY (xR f h () ?_)));show bY ?_;show bY (vo ?_ (by size_fits));show bY (G? (by first|rfl|(rfl)) ?_);show vo ?_ (by size_fits);show bY (wpAny_handled ?_)
 first|rw[j]|rw[j]
 show bY (ew (wpAny_throw (n _ _ (((Heap.SameBut.update ..).extBut.push _).push _) #[_,b4 _ W,W])))
end
def Ot(m:A.handled=CL)(it l)(f:l≠it)(items):Draws prog w A it [it,l] items.size (λi v=>items[i]?=G v) (λi h=>h.IsTupleIter it l i/\h.IsTuple l items)where
 live:=λ_ _ a=>by let(o,y,_):=a.1;show#[o,y]
 frame:=λ_ _ _ a j=>#[a.1.at λo e=>j it () o e,by let(o,h1,r):=a.2;show#[o,j l () o h1,r]]
 item:=λi s Q E t a n=>by show lx a.1 a.2 (x:=items[i]) (by simp[t]) λq g b=>n _ q _ (by simp[t]) #[g,by let(o,h1,r):=a.2;show#[o,(b.2 l f).trans h1,r]] b
 done:=λs Q E a p=>i4 m a.1 a.2 () p
set_option maxHeartbeats 4000000 in
def ou(l:aT)(a:Array a_)(n:Nat)(dct:bb aT)(j:Array (bb a_)):Meets (e?.«enumerate.__new__» ⟨[.type "enumerate",.ref l],[]⟩) (λ_ R s=>s.heap.get? l=cL {cls:=.type "tuple",dict:=dct,data:=.seq a n,slots:=j}/\R (.ok (.ret (.ref (s.heap.push {cls:=.type "tuple_iterator",data:=.fields #v[.ref l,.int 0 0]}).objs.size))) {s with heap:=(s.heap.push {cls:=.type "tuple_iterator",data:=.fields #v[.ref l,.int 0 0]}).push {cls:=.type "enumerate",data:=.fields #v[.none,.bool fg,.ref s.heap.objs.size,rawInt 0,.none,.none]}}):=.of_wp λf w A R s h=>by
  obtain⟨o,g,d,i,m⟩:=s;obtain⟨b,h⟩:=h;have p:=HQ;have e:Heap.IsTuple (d_.heap ⟨o,g,d,i,m⟩) l a:=⟨_,b,rfl,n,rfl⟩
  wp_walk using H? b
  refine Hv λq=>ew ?_;split
  .rename_i c _ _ _ _ _
   cases(c==a_.type "enumerate")
   .wp_walk using H? b,C? e
    exact⟨_,rfl,h⟩
   .wp_walk using H? b,C? e
    exact⟨_,rfl,h⟩
  .wp_walk using H? b,C? e
   exact⟨_,rfl,h⟩
section
variable{s:d_}
def ot(m:s.heap.IsTuple l items)(h:∀d,v? d (s.heap.objs.size+1) s.heap.objs.size 0 .none->d.IsTupleIter s.heap.objs.size l 0->d.objs.size=s.heap.objs.size+2->(∀b o,s.heap.get? b=G o->d.get? b=G o)->Q (.ref (s.heap.objs.size+1)) {s with heap:=d}):wpAny (model prog w) A (call (.type "enumerate") [.ref l]) Q E s:=by
 let((c,dct,p,f),g,j,n,i):=m;subst j i;show callType_new F.called_enumerate () (F.typeCall_enumerate_1 _) (F.newCall_enumerate_1 _) (λobj=>F.args_object_init_2 obj _) F.entry_enumerate_new (ou l _ n dct f) #[g,?_]
 let a:(s.heap.push {cls:=.type "tuple_iterator",data:=.fields #v[.ref l,.int 0 0]}).objs.size=s.heap.objs.size+1:=cc ..;rw[a]
 let e:v? ((s.heap.push {cls:=.type "tuple_iterator",data:=.fields #v[.ref l,.int 0 0]}).push {cls:=.type "enumerate",data:=.fields #v[.none,.bool M,.ref s.heap.objs.size,rawInt 0,.none,.none]}) (s.heap.objs.size+1) s.heap.objs.size 0 .none:=by
  let:=b4 (s.heap.push {cls:=.type "tuple_iterator",data:=.fields #v[.ref l,.int 0 0]}) (o:={cls:=.type "enumerate",data:=.fields #v[.none,.bool M,.ref s.heap.objs.size,rawInt 0,.none,.none]}) W
  rw[a]at this;show this
 show#[#[_,e,W],h _ e #[_,bg _ (b4 _ W),W,W] (by rw[cc,a]) λb o x=>bg _ (bg _ x)]
end
end PySem
namespace L3
open PySem PySem.Spec PyProof.Rows L2
def Ws(K:lD)(a:aT):It:=#[λi H=>∃xs x,hY K H a xs/\xs[i]?=G x,λi H v b=>∃p x,H p=CL/\v=.ref p/\(∀xs,hY K H a xs->xs[i]?=G x)/\b=bW H p (.tup [.int i,x]),λi H=>∃xs,hY K H a xs/\xs.length<=i]
def Gr(I:a! X pins σ H s)(j:hY X.K H a xs)(i:hY X.K H a ys):xs=ys:=by
 let(b,h,(o,e1,_,n,l),_):=I.tuple j;let(e,g,(m,e2,_,p,f),_):=I.tuple i;rw[e1]at e2
 injections;subst_vars
 rw[l]at f;let:b=e:=by
  let q:b.toArray=e.toArray:=by injection f
  simpa using q
 subst this;show h.inj g
def aeC{K:lD}(a e it)(B:e≠it)(c:a≠it)(D:a≠e):Turn P w K (.Tuple elts kk tp) (Ws K a) [e,it] e (λi h=>(∃old,v? h e it i old)/\h.IsTupleIter it a i)where
 mem:=by simp
 obj:=λi h f b l=>by
  let((old,m),o,C,_,d):=f;rcases hX.mp l with z|l
  .subst z;show#[_,m,λv z=>by cases(z)]
  .let z:b=it:=by simpa using l
   subst z;show#[o,C,λv z=>by rw[d]at z;ext z]
 keep:=λi h h' f k=>by let((old,m),g):=f;show#[#[old,k e () _ m],g.at λo q=>k it () o q]
 item:=by
  intro X hP S hK Z i r s σ H E I M f U;subst hP S hK;let((old,m),g):=f;let(xs,x,J,R):=U;let(n,rv,p,hz):=I.tuple J;let(u,hu,ru):=rv.get R;let T:i<n.toArray.size:=by simpa using((f_.mp hu).1)
  show JZ (Ot (A:=X.A.in1) (I.ok.hd Z) it a c _) m #[g,p] T B (by simp[B,D.symm]) λy h1 tk G C ajE hT hsz L=>#[_,W,?_];let O:y=u:=by
   let q:n.toArray[i]?=cL u:=by simpa using hu
   rw[q]at G;show(lp G).symm
  subst O;show D3 C λN Y t=>?_;let F:=br m;let hn:=I.hok.fresh (dc _);let kk:∀b o,b∉[e,it]->s.heap.get? b=cL o->N.get? b=cL o:=λb o l q=>by let h3:b≠e:=λz=>l (by simp[z]);let h4:b≠it:=λz=>l (by simp[z]);show(t.2 b h3).trans (L b o h3 h4 q)
  let hT2:=(t.2 _ (n? F)).trans hT
  let I2:a! X r σ (bW H _ (.tup [.int i,x])) {s with heap:=N,toks:=tk+1}:=I.aeZ M kk (dc _) #[by show 2<=eg;decide,_,.cons #[_,W] (.cons ru .nil),#[_,hT2,#[W,_,W],W]]
  show#[.ref _,_,I2,W,#[_,x,hn,W,λys G=>by rw[Gr I G J];show R,W],#[#[y,Y],ajE.1.at λo q=>(t.2 it B.symm).trans q],λb l=>?_];let hb2:b≠s.heap.objs.size:=by
   rcases hX.mp l with z|l
   .rw[z];show iF F
   .rw[show b=it by simpa using l];show iF (by let(_,z,_):=g;show br z)
  rw[bh hb2];show(M b l).1
 done:=by
  intro X hP S hK Z i r s σ H E I M f U;subst hP S hK;let((old,m),g):=f;let(xs,J,R):=U;let(n,rv,p,hz):=I.tuple J;let(f0,f1,f2,f3,f4,f5):=M it ();let hl:=rv.length
  let D':Draws X.prog X.w X.A.in1 it [it,a] i (λ_ _=>True) (λj h=>j=i/\h.IsTupleIter it a i/\h.IsTuple a n.toArray):=#[λj h f=>by let(o,C,_):=f.2.1;show#[o,C],λj h h' f L=>#[f.1,f.2.1.at λo e=>L it () o e,by let(o,h1,N):=f.2.2;show#[o,L a () o h1,N]],λj s Q E hj f hQ=>a7 f.1 (iF hj),λs Q E f hE=>i4 (I.ok.hd Z) f.2.1 f.2.2 (by simp;ext) hE]
  show Iz D' m #[W,g,p] λh1 eb=>#[W,I.turned (eb) f0 f1 f3 f4 f5]
 self:=λ_ _ _ _ _ f h=>by let((old,m),_):=f;show D_ m h
def vx(K:lD)(c:TA):TI:=λe H R=>c e H λf b=>∃a,f=[.ref a]/\(((∃xs,hL K b a xs)/\R (V! K a) b)\/((∃xs,hY K b a xs)/\R (Ws K a) b))
def Ck(M:Gl X "enumerate")(hm:X.mg "enumerate"=CL)(c:PA X [l] U)(L:e_ [l] X.env=[(fg,eval l X.env)]:=by rfl):PI X (.Tuple elts kk tp) (.Call (.Name "enumerate" p) [l] [] pos) (vx X.K U):=by
 intro f s C H R I h;show Call_ (qQ I M hm boot_enumerate (T! (de (c pos f s C H _ I h) λO j#[S,A,i,F,P]=>?_) L W));let(a,e,q):=P;subst e;let(u,0,E):=iO F;ext E;let B:∀b∈[j.heap.objs.size+1,j.heap.objs.size],pS X f A b:=λb y=>by
  let n:j.heap.objs.size<=b:=by
   rcases hX.mp y with z|y
   .rw[z];show u? _
   .rw[show b=j.heap.objs.size by simpa using y];show dc _
  show i.ahe n (i.hok.fresh n)
 rcases q with⟨⟨xs,v⟩,q⟩|⟨⟨xs,v⟩,q⟩
 .let(r,Q,pl,J):=i.list v;show call_enumerate_list pl.isList λN m g t w=>?_;show D_ m (#[_,_,_,_,A,W,i.kept w,ajO a _ _ (S! _),#[#[_,m],g],B,q])
 .let(r,Q,pl,J):=i.tuple v
  show ot pl λN m g t w=>?_;show D_ m ?_;let o:a<j.heap.objs.size:=by let(_,z,_):=pl;show br z
  show#[_,_,_,_,A,W,i.kept w,aeC a _ _ (S! _) (iF o) (iF (B! o)),#[#[_,m],g],B,q]
def bX(i:Nat):I D->I D |[]=>[]|d::r=>.tuple [.int (i),d]::bX (i+1) r
theorem eU:∀(ds)(i),(bX i ds).length=ds.length|[],_=>rfl|d::r,i=>by show(bX _ r).length+1=r.length+1;rw[eU r]
theorem gc:∀(ds:I D)(i j:Nat),(bX i ds)[j]?=(ds[j]?).map λd=>.tuple [.int ((i+j:Nat):Int),d]
 |[],_,_=>by simp[bX]|d::r,i,0=>rfl|d::r,i,j+1=>by
  show(bX _ r)[j]?=_;rw[gc r _ j,DG];let:i+1+j=i+(j+1):=by ext
  rw[this]
section
variable{K:lD}
def Nq(h:qy O K H a xs)(hd:DVs O K H xs ds):xa K (V! K a) O H (bX 0 ds):=by
 intro m o e n;let g:=h.ev e;rw[eU];show#[λi r=>?_,#[xs,g.1.sq,by rw[hd.length];show dc _]];let(x,j,v):=(hd.ev e).get (j' r);show#[#[xs,x,g.1.sq,j],?_];rintro y l ⟨p,z,f,rfl,t,rfl⟩;let b:=t xs g.1.sq;simp[j]at b
 injections;subst_vars
 show#[bq f _,_,?_,.tup #[hY.of aR,λq=>a7 q (n p f)] (.cons (.int _) (.cons (v.ev (Ev.grow (bq f _))) .nil))];rw[gc,j' r];simp
def akb(h:oN O K H a xs)(hd:DVs O K H xs ds):xa K (Ws K a) O H (bX 0 ds):=by
 intro m o e n;let g:=h.ev e;rw[eU];show#[λi r=>?_,#[xs,g.1,by rw[hd.length];show dc _]];let(x,j,v):=(hd.ev e).get (j' r);show#[#[xs,x,g.1,j],?_];rintro y l ⟨p,z,f,rfl,t,rfl⟩;let b:=t xs g.1;simp[j]at b
 injections;subst_vars
 show#[bq f _,_,?_,.tup #[hY.of aR,λq=>a7 q (n p f)] (.cons (.int _) (.cons (v.ev (Ev.grow (bq f _))) .nil))];rw[gc,j' r];simp
def qp(c:FA):FI:=λe=>(c e).bind λa=>(d7.bR (nv a.2 a.1)).bind λb=>match b.1 with |[d]=>(d7.bR (fA d)).bind λds=>.ok (bX 0 ds,b.2)|_=>.bad
def Q1(h:AO K E C J):IO K E (vx K C) (qp J):=by intro B r O i H y u R w;show h B r O i H y _ R (w.bind.imp λa b v z g e1 p l=>?_);let((ds,j),q,b):=b.bR;let(f,e2,R2,o):=oB p l q;dsimp only at b;cases o with|nil=>show b.elim|cons n m=>cases m with |cons _ _=>show b.elim|nil=>let(es,t,b):=WR.bR b;cases n with |tup h e=>show#[_,W,.inr #[#[_,h.1],b f _ g (e1.trans e2) R2 (akb h e)]]|lst h e=>show#[_,W,.inl #[#[_,h.1.sq],b f _ g (e1.trans e2) R2 (Nq h e)]]|_=>contradiction
end
def ahz{bs:I _}(r:b_ (bs.map V.bl) o){i:Nat}(h:o[i]?=G v):∃b,bs[i]?=G b/\v=.bool b:=by
 let e:=r.length;rw[dO]at e;let g:i<bs.length:=by rw[e];show(f_.mp h).1
 let(u,a,f):=r.get (by rw[iD,j' g];rfl);simp[h]at a;ext a;show#[_,j' g,f]
def afK(bs:I _):((eI bs.length).all λi=>(bs[i]?).getD u)=bs.all id:=by
 rw[Bool.eq_iff_iff,j?,j?];constructor
 .intro h b a;let(i,f,e):=R3.mp a;let:=h i (js.mpr f);rw[j' f,e]at this;show this
 .intro h i f;let f:=js.mp f;rw[j' f];show h _ (Dd f)
section
def MJ(n:X.calm=Ld):lT X (.builtin "all") (λxs H Q=>∃(p:aT)(bs:a8 _),xs=[.ref p]/\hL X.K H p (bs.map V.bl)/\Q (.bl (bs.all id)) H):=by
 intro f s y H xs z Q I r h;let(l,bs,0,j,q):=h;let(u,0,E):=iO r
 injections;subst_vars
 let(g,N,pl,F):=I.list j;let a:=N.length;rw[dO]at a;show call_all_walk (Sb pl.isList ?_);show#[_,_,_,_,_,_,λi=>(bs[i]?).getD Ld,W,v'.list (A:=X.A.in1) (I.ok.hd n) _ l (iF (by let(_,_,e,_):=pl;show br e)) _,#[#[_,b4 _ W,W,W],pl.isList.push _],λi v C J L w t=>?_,λG B m=>?_]
 .let(b,e,0):=ahz N (by simpa using w);simp_all;show t? t
 .rw[lE,<-a,afK];show#[.bl _,H,I.kept λb o e=>m b o (λhm=>?_) (bg _ e),W,q];rw[f?.mp hm]at e;show qT _ (br e)
end
section
variable{K:lD}
def um:I D->bb (I Bool) |[]=>G []|.bool b::r=>(um r).map (b::·)|_=>CL
theorem Fe:∀{xs:I V}{ds:I D}{bs:I Bool},DVs O K H xs ds->um ds=G bs->xs=bs.map V.bl |_,_,_,.nil,e=>by injections;subst_vars;rfl|_,_,bs,.cons (ds:=r) h t,e=>by cases h with
  |bl b=>let a:(um r).map _=G bs:=e;cases q:um r with |none=>ext|some f=>
    rw[q]at a
    injections;subst_vars
    rw[Fe t q];rfl |_=>contradiction
def v3:I D->bb RV |[.list ds]=>(um ds).map λbs=>.fz (.bool (bs.all id))|_=>CL
def Wl:Ci K (λxs H Q=>∃(p:aT)(bs:I _),xs=[.ref p]/\hL K H p (bs.map V.bl)/\Q (.bl (bs.all id)) H) v3:=by
 intro O H xs ds j Q n g e q;unfold v3 at e;split at e
 .rename_i es
  cases i:um es with|none=>ext|some bs=>
   rw[i]at e
   injections;subst_vars
   cases g with|cons f b=>ext b;let(a,h,0,f,b):=Ii f;let:=Fe b i;subst this;show#[a,bs,W,f.sq,q.at (.bl _)]
 simp_all
def tQ:I D->bb (I Int) |[]=>G []|.int b::r=>(tQ r).map (b::·)|_=>CL
theorem uA:∀{xs:I V}{ds:I D}{bs:I Int},DVs O K H xs ds->tQ ds=G bs->xs=bs.map V.int |_,_,_,.nil,e=>by injections;subst_vars;rfl|_,_,bs,.cons (ds:=r) h t,e=>by cases h with
  |int b=>let a:(tQ r).map _=G bs:=e;cases q:tQ r with |none=>ext|some f=>
    rw[q]at a
    injections;subst_vars
    rw[uA t q];rfl |_=>contradiction
def EB(x:Int):I Int->I Int|[]=>[x]|y::r=>if x<=y then x::y::r else y::EB x r
def p8:I Int->I Int |[]=>[]|x::r=>EB x (p8 r)
theorem tS(x:Int):∀l,(EB x l).Perm (x::l)
 |[]=>Cf _|y::r=>by
  ext EB;split
  .show Cf _
  .show((tS x r).cons y).trans (avl x y r)
theorem gQ:∀l,(p8 l).Perm l |[]=>Cf _|x::r=>(tS x _).trans ((gQ r).cons x)
theorem t6(x:Int):∀l:I Int,l.Pairwise (·<=·)->(EB x l).Pairwise (·<=·)
 |[],_=>by simp[EB]|y::r,h=>by
  ext EB;let(f,g):=Si.mp h;split
  .rename_i b
   show Si.mpr #[λz a=>?_,h];rcases hX.mp a with e|e
   .rw[e];show b
   .let:=f z e;ext
  .show Si.mpr #[λz a=>?_,t6 x r g]
   rcases hX.mp ((tS x r).mem_iff.mp a)with e|e
   .rw[e];ext
   .show f z e
theorem gl:∀l,(p8 l).Pairwise (·<=·) |[]=>R5|x::r=>t6 x _ (gl r)
def pp{m:I Int}(e:l.Perm m)(f:l.Pairwise (·<=·))(hm:m.Pairwise (·<=·)):l=m:=e.eq_of_pairwise (λa b _ _ h g=>Int.le_antisymm h g) f hm
def zc:I D->bb RV |[.list ds]=>(match tQ ds with |some a=>if a.length<64 then G (.ow ((p8 a).map .int))else CL|none=>CL)|_=>CL
def vW(ns:I Int):DVs O K H (ns.map V.int) (ns.map .int):=by induction ns with |nil=>show .nil|cons n r a=>show .cons (.int n) a
def ah0:Ci K (λxs H Q=>∃(p:aT)(ns:I Int),xs=[.ref p]/\hL K H p (ns.map V.int)/\ns.length<64/\∀(l)(ms:I Int),H l=CL->ms.Perm ns->ms.Pairwise (·<=·)->Q (.ref l) (bW H l (.lst (ms.map V.int)))) zc:=by
 intro O H xs ds r Q n b e q;unfold zc at e;split at e
 .rename_i es
  cases o:tQ es with|none=>ext|some ns=>
   rw[o]at e;dsimp only at e;split at e
   .rename_i f
    injections;subst_vars
    cases b with|cons h g=>ext g;let(a,m,0,h,g):=Ii h;let:=uA g o;subst this;show#[a,ns,W,h.sq,f,λl ms f b i=>?_];let j:=pp (b.trans (gQ ns).symm) i (gl ns);subst j;show Fin.new (vW _) q l f
   simp_all
 simp_all
end
section
variable{K:lD}
def xQ:I D->bb RV |[.int i]=>G (.fz (.int i))|[.bool k]=>G (.fz (.int (if k then 1 else 0)))|_=>CL
def WU:Ci K (λxs H Q=>(∃i,xs=[.int i]/\Q (.int i) H)\/∃k,xs=[.bl k]/\Q (.int (if k then 1 else 0)) H) xQ:=by
 intro O H xs ds g Q n f e q;unfold xQ at e;split at e
 .ext e
  cases f with|cons b a=>ext a;ext b;show .inl #[_,W,q.at (.int _)]
 .ext e
  cases f with|cons b a=>ext a;ext b;show .inr #[_,W,q.at (.int _)]
 simp_all
end
def ajt{K:lD}(l:K.In J.heap)(b:J.heap.Ns gE mg)(q:J.heap.Ns builtinsNs mb)(f:∀x:Str,x≠"__name__"->mb x=ni x)(g:J.heap.NoLimit)(p:J.gens=#v[])(d:J.heap.get? a=cL {cls:=.type "list",data:=.seq U.toArray})(D:IntsAre U ns)(j:ns.length<=eg)(m:ik k callerA)(B:∀base,K.In base->base.Ns gE mg->ek P w K mg base rj k fa fd [x] (yC K 1 F))(i:∀(s)(u),u_ s fd #[[u],[]] [(x,u)])(y:F [.list (ns.map .int)]=.ok (.fz (.bool Ld))):codeAny (model P w) callerA (.call (.ref fa) #[[.ref a],[]]) (λr c=>r=.ok (.ret (.bool Ld))/\OldK J.heap c.heap/\c.os=J.os/\AllBare c.gens) J:=by
 show MQ (sp:=λU H Q E=>yC K 1 F U H Q E\/(U.length=1/\False)) l b q f g p d D j m (λbase k1 k2=>(B base k1 k2).imp λU H Q E h=>?_) i (λH C t=>?_) λ_ _ _ h=>h
 .show h.elim (λh=>h) λh=>h.2.elim
 .show .inl #[W,oD,_,λa z=>z.elim,.cons (.lst #[?_,λz=>z.elim] (vW ns)) .nil,?_]
  .rcases t with h|⟨o,L,n,h1,T,S,R,O,N⟩
   .show .inl h
   .let e:=l a o h1
    rw[d]at e
    injections;subst_vars
    injections;subst_vars
    show .inr #[U,0,h1,by rw[dO];show j,by simpa using N]
  .rw[y];show λv G s A=>by ext A;rfl
def Y6{l:JV}{K:Params->lD}(D:l.most=cL n)(j:n<=eg)(p:d.params.defaults=[])(A:ik k callerA)(H:∀(w)(h),U w h->(K w.params).In h)(L:∀(w)(b)(c)(h),(K w.params).In h->h.Ns gE b->b d.name=cL (.ref c)->∃fd,(∀(s)(u),u_ s fd #[[u],[]] [(x,u)])/\∀base,(K w.params).In base->base.Ns gE b->ek l.prog w (K w.params) b base rj k c fd [x] (yC (K w.params) 1 F))(I:∀ns:a8 Int,ns.length<=n->F [.list (ns.map .int)]=.ok (.fz (.bool Ld))):PySem.W.WalkO q loose XP U l.row.toRowW d [] (λf g=>IH f g):=by show Att.oI D p λw y v b N c o M Q J a g ns G Y O P C m t i e B=>?_;let z:=H w _ Y;let(fd,E,r):=L w b c _ z G.T.g m;show ajt z G.T.g G.T.b G.T.builtins G.T.nolimit B t i (la e j) A r E (I ns e)
def okF{K:lD}{st:kl}(F:l! K x qual st f fd)(S:qz N o (aK st))(d:o.length=n)(hm:N.length=m)(b:J=bL m g)(a:∀(c)(A)(outer)(s)(H)(E),ik k (A.deeper (z_ qual (aK st) s.heap.objs.size f c))->∃t,nh (jz rj P w K C base N qual (aK st) f c A outer s H E).nox (eX st) t/\SO K E t g):ek P w K C base rj (k+1) f fd o (yC K n J):=by subst b hm;show okP F S d a
abbrev YU(P:m4)(w:k?)(K:lD)(b:Str->bb a_)(base:Heap)(k:Nat)(x:Str)(a:I Str)(n:Nat)(F:FN):Prop:=BM P w K b base k x a (yC K n F)
end L3
namespace L3
open PySem L2
abbrev nd(n:Nat):D:=.int (n)
def aM(ns:I Nat):I D:=ns.map nd
def bI(ns):(aM ns).length=ns.length:=by ext aM;rw[dO]
def PL(xs ys):aM (xs++ys)=aM xs++aM ys:=by ext aM;rw[mN]
def fM{i:Nat}(h:(aM ns)[i]?=G d):∃n,ns[i]?=G n/\d=nd n:=by unfold aM at h;rw[iD]at h;cases e:ns[i]? with|none=>ext|some n=>rw[e]at h;show#[n,W,(lp h).symm]
def aC(a:α):d7.bR (G a)=.ok a:=W
def abE(a:α):eN (d7.ok a)=.ok a:=W
def DT(i)(a):ae i a=GG a i a[i]?:=W
def NS(a)(i)(d):GG a i (G (G (.fz d)))=.ok (.fz d,a):=W
def akU(a)(i)(ds):GG a i (G (G (.ow ds)))=.ok (.pl i,a):=W
def iS(ds):Aa (G (G (.ow ds)))=G ds:=W
def yW(i):MT (.int i)=G i:=W
def abf(b):FX (.bool b)=G b:=W
def fC(ds:I D):cX [.tuple ds]=G (.fz (nd ds.length)):=W
def v9(ds:I D):cX [.list ds]=G (.fz (nd ds.length)):=W
def oy(i j):uT (.int i) (.int j)=G (.fz (.bool (decide (i<j)))):=W
def Fq(i j):uH (.int i) (.int j)=G (.fz (.bool (decide (i<=j)))):=W
def Ft(i j):Cr (.int i) (.int j)=G (.fz (.bool (decide (j<i)))):=W
def zR(i j):b6 (.int i) (.int j)=G (.fz (.int (i+j))):=W
def Dm(i j):pX (.int i) (.int j)=G (.fz (.int (i-j))):=W
def AA(h:0<j):wE (.int i) (.int j)=G (.fz (.int (i%j))):=by show(if Wh i j=u then _ else _)=_;rw[ax (show Wh i j=u from a4 h)]
def MP(h:0<j/\j<2^128):EI (.int i) (.int j)=G (.fz (.int (i/j))):=by show(if Uz i j=u then _ else _)=_;rw[ax (show Uz i j=u from a4 h)]
def QK(h:-(2^64)<i/\i<2^64):Eh (.int i) (.int j)=G (.fz (.int (i*j))):=by show(if(kq i||kq j)=u then _ else _)=_;rw[ax (by rw[show kq i=u from a4 h,Rw])]
def P3(h:-(2^64)<j/\j<2^64):Eh (.int i) (.int j)=G (.fz (.int (i*j))):=by show(if(kq i||kq j)=u then _ else _)=_;rw[ax (by rw[show kq j=u from a4 h,B8])]
def Q8(h:oY j):kB [.int j]=G (kz 0 j.toNat):=by show(if oY j then _ else _)=_;rw[ax h]
def Lw(n):kz 0 n=aM (eI n):=by apply rC;intro k _;rw[Int.zero_add]
def iG(h:n<=1000000):kB [nd n]=G (aM (eI n)):=by rw[Q8 (by ext oY;ext),Lw,q!]
def dH(h:f C=.ok (.nx o)):aF f g C=g o:=by ext aF;rw[h];rfl
def Ad(h:f o=.ok (.rt C)):aF f g o=.ok (.rt C):=by ext aF;rw[h];rfl
def JD(h:c C=.ok (u,o)):eJ c f g C=f o:=by ext eJ;rw[h];rfl
def xH(h:c C=.ok (M,o)):eJ c f g C=g o:=by ext eJ;rw[h];rfl
def wy(h:J C=.ok (ds,o)):jU J gt b C=sT gt b ds o:=by ext jU;rw[h];rfl
def jJ(a:ds.map (λd=>G (.fz d))++ey (N-ds.length) CL=o)(h:g o=.ok (.rt C)):bL N g ds=.ok C:=by ext bL;rw[a,h];rfl
theorem Hc(I:Nat->bM->Prop):∀(ds)(k)(o),I k o->(∀i d o,ds[i]?=G d->I (k+i) o->∃p n,gt (.fz d) o=.ok p/\(b p=.ok (.nx n)\/b p=.ok (.ct n))/\I (k+i+1) n)->∃c,sT gt b ds o=.ok (.nx c)/\I (k+ds.length) c
 |[],k,o,h0,_=>#[o,W,h0]|d::r,k,o,h0,q=>by
  let(p,n,j,a,h):=q 0 d o W h0;let(c,g,m):=Hc I r (k+1) n h λi l c t f=>by
   let e:k+1+i=k+(i+1):=by ext
   rw[e]at f⊢;show q _ l c (by simpa using t) f
  let e:k+(r.length+1)=k+1+r.length:=by ext
  show#[c,?_,by simp_all];show(gt _ o).bind _=_;rw[j,d3];rcases a with a|a<;>(rw[a];show g)
def Kg(I:Nat->bM->Prop)(e:I 0 h)(a:∀i d h,ds[i]?=G d->I i h->∃f c,gt (.fz d) h=.ok f/\(b f=.ok (.nx c)\/b f=.ok (.ct c))/\I (i+1) c):∃g,sT gt b ds h=.ok (.nx g)/\I ds.length g:=by simpa using(Hc I ds 0 h e (by simpa using a))
def kF(gt:FG)(f:FT)(g:FE)(d:D)(c:bM):d7 (bb D×bM):=(gt (.fz d) c).bind λe=>(f e).bind λb=>if b.1=u then(g b.2).bind λa=>(d7.bR (A6 a.2 a.1)).bind λx=>.ok (G x.1,cZ x.2)else .ok (CL,cZ b.2)
def qZ(h:kF gt U fe d J=.ok (o,C))(g:acc.length<1000000):bN gt U fe (d::r) J acc=bN gt U fe r C (acc++o.toList):=by unfold kF at h;show(gt _ J).bind _=_;cases l:gt _ J with |er x|bad=>rw[l]at h;contradiction|ok f=>simp[l,d3]at h;simp[d3];cases j:U f with|er x|bad=>rw[j]at h;contradiction|ok b=>let(b,e):=b;simp only[j,d3]at h;simp only[d3];cases b with
   |false=>
    rw[aE ml]at h⊢
    injections;subst_vars
    rw[JP,n9]|true=>rw[ax W]at h⊢;cases i:fe e with |er x|bad=>rw[i]at h;contradiction|ok a=>rw[i,d3]at h;simp[d3];cases m:A6 a.2 a.1 with |none=>rw[m]at h;contradiction|some x=>
      rw[m]at h
      injections;subst_vars
      show(if acc.length<1000000 then _ else _)=_;rw[ax g];rfl
theorem B3(I:bM->Prop)(f):∀(ds)(h)(acc),I h->acc.length+ds.length<=1000000->(∀d∈ds,∀h,I h->∃c,kF gt o C d h=.ok (f d,c)/\I c)->bN gt o C ds h acc=.ok (acc++ds.filterMap f)
 |[],h,acc,_,_,_=>by show d7.ok acc=_;simp|d::r,h,acc,h0,j,i=>by
  let(c,e,b):=i d eQ h h0;simp only[j_]at j;rw[qZ e (),B3 I f r c _ b (by
   let:(f d).toList.length<=1:=by simp_all
   rw[jl];ext) λg a=>i g (h_ _ a)]
  cases q:f d with|none=>ext|some y=>rw[y_ q,pb];rfl
def lI(I:bM->Prop)(f)(e:I g)(b:ds.length<=1000000)(a:∀d∈ds,∀g,I g->∃c,kF gt o C d g=.ok (f d,c)/\I c):eN (bN gt o C ds g [])=.ok (ds.filterMap f):=by rw[B3 I f ds g [] e (by simpa using b) a];rfl
def Pb(a b:Nat):e?.bitAnd (a) (b)=((a&&&b)):=by rw[anU (CF _) (CF _),q!,q!]
def Wm(a b:Nat):e?.bitOr (a:Int) (b:Int)=((a|||b:Nat):Int):=by
 let f:∀x:Nat,e?.bitNot (x)=-(x)-1:=λx=>by simp[e?.bitNot]<;>ext
 let e:∀x:Int,e?.bitNot (e?.bitNot x)=x:=λx=>by simp[e?.bitNot]<;>ext
 show e?.bitNot _=_;rw[anV (by rw[f];ext) (by rw[f];ext),e,e,e,q!,q!]
def Cw(a b):v4 (nd a) (nd b)=G (.fz (nd (a&&&b))):=by show G (RV.fz (.int (e?.bitAnd _ _)))=_;rw[Pb]
def Pl(a b):Eu (nd a) (nd b)=G (.fz (nd (a|||b))):=by show G (RV.fz (.int (e?.bitOr _ _)))=_;rw[Wm]
def Fh(c)(h:c<=1000):Bp (.int 1) (nd c)=G (.fz (nd (2^c))):=by show(if VD 1 _=u then G (RV.fz (.int (1*2^((c):Int).toNat)))else CL)=_;rw[ax (by show a4 #[by ext,by ext,by decide]),Int.one_mul];simp_all
def Xo(a c):RX (nd a) (nd c)=G (.fz (nd (a/2^c))):=by congr 3
def DR(a b:Nat):decide ((a)=(b:Int))=decide (a=b):=by
 by_cases h:a=b
 .rw[a4 h,a4 (by rw[h])]
 .rw[a5 h,a5 ()]
def OG(a b):aS.eqv (nd a) (nd b)=decide (a=b):=DR a b
def lA(a b):bx (.int a) (.int b)=G (.fz (.bool (decide (a=b)))):=W
def pH(a b):fO (.int a) (.int b)=G (.fz (.bool (!decide (a=b)))):=W
def JX(a b):bx (nd a) (nd b)=G (.fz (.bool (decide (a=b)))):=by rw[lA,DR]
def Ww(a b):fO (nd a) (nd b)=G (.fz (.bool (!decide (a=b)))):=by rw[pH,DR]
theorem gG:∀ns,aS.canLayAll0 (aM ns)=u |[]=>rfl|n::r=>by show(aS.canLay0 _&&aS.canLayAll0 (aM r))=u;rw[gG r];rfl
theorem uS:∀ns,aS.depthAll (aM ns)=0 |[]=>rfl|n::r=>by show max _ (aS.depthAll (aM r))=0;rw[uS r];rfl
theorem pJ:∀xs ys,aS.eqvAll (aM xs) (aM ys)=decide (xs=ys)|[],[]|[],_::_|_::_,[]=>rfl|n::r,m::t=>by show(aS.eqv _ _&&aS.eqvAll (aM r) (aM t))=_;rw[pJ r t,OG];simp
def ze(ns):lj (.tuple (aM ns))=u:=by show(aS.canLayAll0 _&&decide (aS.depthAll _+1<=64))=u;rw[gG,uS];rfl
def Kr(ns):lj (.list (aM ns))=u:=by show(aS.canLayAll0 _&&decide (aS.depthAll _+1<=64))=u;rw[gG,uS];rfl
def Qe(xs ys):bx (.tuple (aM xs)) (.tuple (aM ys))=G (.fz (.bool (decide (xs=ys)))):=by ext bx;simp[ze,show aS.canLay0 (.tuple _)=u from gG ys,ua,ax W,show aS.eqv (.tuple _) (.tuple _)=_ from pJ xs ys]
def Pt(xs ys):fO (.tuple (aM xs)) (.tuple (aM ys))=G (.fz (.bool (!decide (xs=ys)))):=by ext fO;simp[ze,show aS.canLay0 (.tuple _)=u from gG ys,ua,ax W,show aS.eqv (.tuple _) (.tuple _)=_ from pJ xs ys]
def F9(xs ys):bx (.list (aM xs)) (.list (aM ys))=G (.fz (.bool (decide (xs=ys)))):=by ext bx;simp[Kr,show aS.canLay0 (.list _)=u from gG ys,ua,ax W,show aS.eqv (.list _) (.list _)=_ from pJ xs ys]
def Rb(xs ys):fO (.list (aM xs)) (.list (aM ys))=G (.fz (.bool (!decide (xs=ys)))):=by ext fO;simp[Kr,show aS.canLay0 (.list _)=u from gG ys,ua,ax W,show aS.eqv (.list _) (.list _)=_ from pJ xs ys]
def Gg(x)(xs):((aM xs).any λe=>aS.eqv e (nd x))=decide (x∈xs):=by induction xs with |nil=>rfl|cons y r a=>
  show(aS.eqv _ _||(aM r).any _)=_;rw[a,OG];by_cases h:y=x
  .rw[a4 h,a4 (show x∈y::r by rw[h];show eQ),Rw]
  .rw[a5 h,Q_]
   by_cases g:x∈r
   .rw[a4 g,a4 (h_ _ g)]
   .rw[a5 g,a5 (λz=>(hX.mp z).elim (λe=>h e.symm) g)]
def zC(x)(xs):pP (nd x) (.tuple (aM xs))=G (.fz (.bool (decide (x∈xs)))):=by show(if(lj _&&aS.canLayAll0 _)=u then _ else _)=_;rw[gG,show lj _=u from rfl,ua,ax W,Gg]
def aj4(x)(xs):rK (nd x) (.tuple (aM xs))=G (.fz (.bool (!decide (x∈xs)))):=by show(if(lj _&&aS.canLayAll0 _)=u then _ else _)=_;rw[gG,show lj _=u from rfl,ua,ax W,Gg]
def Nl{i:Nat}(h:xs[i]?=G v):pQ xs (i)=G v:=GV h
def Ez(h:ds[i]?=G d):av (.tuple ds) (nd i)=G (.fz d):=by show(pQ ds _).map _=_;rw[Nl h];rfl
def Uq(h:ds[i]?=G d):av (.list ds) (nd i)=G (.fz d):=by show(pQ ds _).map _=_;rw[Nl h];rfl
section
variable{pv:PV}{ds:a8 D}
def au(h:o[i]?=G (G (.fz d))):ae i o=.ok (.fz d,o):=by rw[DT,h,NS]
def lZ(h:o[i]?=G (G (.ow ds))):ae i o=.ok (.pl i,o):=by rw[DT,h,akU]
def aU:pC d o=.ok (.fz d,o):=W
def aZ(c:fa J=.ok (pa,C))(g:fb C=.ok (U,o))(b:kb o (cI pa)=G dx)(a:kb o U=G dy)(e:f dx dy=G rv):am f fa fb J=.ok (rv.pv,o):=by ext am;simp only[c,d3,g,d3,b,aC,d3,a,aC,d3,e,aC,d3]
def Tn(c:fa C=.ok (U,o))(a:kb o U=G dx)(b:f dx=G J):OH f fa C=.ok (J.pv,o):=by ext OH;simp only[c,d3,a,aC,d3,b,aC,d3]
def b9(c:U C=.ok (J,o))(a:kb o J=G (.bool b)):ai U C=.ok (b,o):=by ext ai;simp only[c,d3,a,aC,d3,abf,aC,d3]
def zw(c:f C=.ok (a,o))(e:a=u->g o=.ok (b,o)):mz f g C=.ok (a&&b,o):=by ext mz;rw[c,d3];cases a with|true=>rw[ax W,e W,Qn]|false=>rfl
def wA(c:f ρ=.ok (a,o))(e:a=M->g o=.ok (b,o)):yf f g ρ=.ok (a||b,o):=by ext yf;rw[c,d3];cases a with|true=>rfl|false=>rw[aE ml,e W,Q_]
def rN(b:f C=.ok (a,o)):kR f C=.ok (!a,o):=by ext kR;rw[b,d3]
def Gp(c:ai J C=.ok (a,o))(e:a=u->fb o=.ok (.fz (.bool b),o)):Am J fb C=.ok (.fz (.bool (a&&b)),o):=by ext Am;rw[c,d3];cases a with|true=>rw[ax W,e W,Qn]|false=>rfl
def aP:ag o=.ok ([],o):=W
def ar(b:fa J=.ok (pa,C))(a:fr C=.ok (U,o)):aa fa fr J=.ok (cI pa::U,o):=by ext aa;simp only[b,d3,a,d3]
def fq(b:fr C=.ok (J,o))(hd:xP o J=G ds)(a:f ds=G rv):cy f fr C=.ok (rv.pv,o):=by ext cy;simp only[b,d3,hd,aC,d3,a,aC,d3]
def cY(c:fr J=.ok (U,C))(hd:nv C U=G (ds,o))(b:ds.length=n)(a:F ds=.ok rv):aG F n fr J=.ok (rv.pv,o):=by ext aG;simp[c,d3,hd,aC,d3];rw[ax b,a,abE,d3]
def qX(b:fr J=.ok (U,C))(hd:nv C U=G (ds,o))(a:ds.length<=1000):bK fr J=.ok (.fz (.tuple ds),o):=by ext bK;rw[b,d3,hd,aC,d3];rw[ax a]
def oA(b:fr J=.ok (U,C))(hd:nv C U=G (ds,o))(a:ds.length<=1000):bS fr J=.ok (.ow ds,o):=by ext bS;rw[b,d3,hd,aC,d3];rw[ax a]
def aly:jN o=.ok (CL,o):=W
def M5(b:U C=.ok (J,o))(a:kb o J=G (.int i)):fw U C=.ok (G i,o):=by ext fw;simp only[b,d3,a,aC,d3,yW,aC,d3]
def Gf(c:fa U=.ok (pa,J))(b:fl J=.ok (lo,C))(e:fh C=.ok (hi,o))(a:kb o (cI pa)=G dx)(g:f dx lo hi=G rv):xu f fa fl fh U=.ok (rv.pv,o):=by ext xu;simp only[c,d3,b,d3,e,d3,a,aC,d3,g,aC,d3]
def nu(g:J[i]?=G (G (.ow es)))(c:U J=.ok (pa,C))(b:A6 C pa=G (d,o))(f:o[i]?=G (G (.ow ds)))(e:ds.length<1000000)(a:o.set i (G (.ow (ds++[d])))=x):sZ i U J=.ok (.fz .none,x):=by ext sZ;simp only[g,iS,aC,d3,c,d3,b,aC,d3];simp[f,iS,aC,d3,ax e,a]
def bj(c:fi J=.ok (ds,C))(b:yR C U=G (cs,o))(a:eN (bN gt ft fe ds (ey n CL++cs.map λd=>G (.fz d)) [])=.ok xs):bE n U fi gt ft fe J=.ok (.ow xs,o):=by ext bE;simp[c,d3];simp only[b,aC,d3];rw[a,d3]
def D7(a:c J=.ok (u,C))(h:U C=.ok (pv,o)):yp c U fb J=.ok (pv,o):=by ext yp;simp[a,d3,ax W,h]
def Ed(a:c J=.ok (M,C))(h:fb C=.ok (pv,o)):yp c U fb J=.ok (pv,o):=by ext yp;simp[a,d3,aE ml,h]
def gB:av (.tuple (a::r)) (.int 0)=G (.fz a):=Ez W
def jI:av (.tuple (a::b::r)) (.int 1)=G (.fz b):=Ez W
def ny:av (.tuple (a::b::c::r)) (.int 2)=G (.fz c):=Ez W
def A3:av (.list (a::r)) (.int 0)=G (.fz a):=Uq W
def abh:av (.list (a::b::r)) (.int 1)=G (.fz b):=Uq W
def Mg(b:k<=1000)(a:xs.length<=1000):Eh (.list xs) (nd k)=G (.ow (ey k xs).flatten):=by show(if xs.length*((k):Int).toNat<=1000000/\-(2^63)<=(k:Int)/\(k:Int)<2^63 then G _ else CL)=_;rw[q!,ax #[la (OK a b) (),by ext,by ext]]
def Vp(h:k<n):HM n (k)=G k:=by ext HM;simp_all
def UF(xs)(h:∀x∈xs,f (nd x)=G (nd (g x))):(aM xs).filterMap f=aM (xs.map g):=by induction xs with|nil=>rfl|cons x r a=>show((nd x)::aM r).filterMap f=nd _::aM _;rw[y_ (h x eQ),a λy b=>h y (h_ _ b)]
def Lp(xs)(h:∀x∈xs,f (nd x)=if p x=u then G (nd x)else CL):(aM xs).filterMap f=aM (xs.filter p):=by induction xs with|nil=>rfl|cons x r e=>let a:=h x eQ;let b:=e λy g=>h y (h_ _ g);show((nd x)::aM r).filterMap f=_;cases q:p x with |true=>rw[q]at a;rw[y_ a,b,J_ q];rfl|false=>rw[q]at a;rw[U_ a,b,I? (by rw[q];show ml)]
def Sf(I:Nat->bM->Prop)(Z:bM->Prop)(g:∀m q,I m q->(∃d,c q=.ok (M,d)/\Z d)\/∃r k s,c q=.ok (u,r)/\(b r=.ok (.nx k)\/b r=.ok (.ct k))/\s<m/\I s k):∀(n m)(q),I m q->m<n->∃d,v8 c b n q=.ok (.nx d)/\Z d:=by
 intro n
 induction n with |zero=>show λm q _ h=>a7 h (Bs _)|succ n f=>
  intro m q o t;rcases g m q o with⟨d,e,a⟩|⟨r,k,s,e,a,p,l⟩
  .show#[d,?_,a];show(c q).bind _=_;rw[e,d3,aE ml]
  .let(d,j,i):=f s k l ();show#[d,?_,i];show(c q).bind _=_;rw[e,d3];rcases a with a|a<;>(rw[a];show j)
def lL(c:fe J=.ok (U,C))(a:A6 C U=G (d,o))(b:fA d=G es):dB fe J=.ok (es,o):=by ext dB;simp only[c,d3,a,aC,d3];simp[b,aC,d3]
def Fv(b:fr C=.ok (J,o))(hd:xP o J=G ds)(a:f ds=G es):nQ f fr C=.ok (es,o):=by ext nQ;simp only[b,d3,hd,aC,d3,a,aC,d3]
def ale(b:fr J=.ok (U,C))(hd:nv C U=G ([d],o))(a:fA d=G es):qp fr J=.ok (bX 0 es,o):=by ext qp;rw[b,d3,hd,aC,d3];dsimp only;simp[a,aC,d3]
def mJ(b:fe U=.ok (pv,J))(a:g pv J=.ok C)(c:C=o):bF fe g U=.ok (.nx o):=by ext bF;rw[b,d3];rw[a,d3,c]
def zr(a:J C=.ok (pv,o)):iy J C=.ok (.nx o):=by ext iy;rw[a,d3]
def lU(b:U C=.ok (pv,o))(a:Ie o pv=G J):aY U C=.ok (.rt J):=by ext aY;rw[b,d3];simp[a,aC,d3]
def abq(b:A6 J pv=G (d,C))(h:C[i]?=G (G (.ow es)))(c:fe C=.ok (U,o))(a:kb o U=G (.int n))(g:o[i]?=G (G (.ow ds)))(f:HM ds.length n=G k)(e:o.set i (G (.ow (ds.set k d)))=x):Wy i fe pv J=.ok x:=by ext Wy;simp only[b,aC,d3];simp only[h,iS,aC,d3,c,d3,a,aC,d3,yW,aC,d3,g,iS,aC,d3,f,aC,d3,e]
def lX(e:gt (.fz d) ρ=.ok ρ1)(b:ft ρ1=.ok (u,U))(g:fe U=.ok (pv,J))(a:A6 J pv=G (x,C))(f:cZ C=o):kF gt ft fe d ρ=.ok (G x,o):=by ext kF;simp[e,d3,b,d3,ax W,g,d3,a,aC,d3,f]
def C8(b:gt (.fz d) U=.ok J)(a:ft J=.ok (M,C))(e:cZ C=o):kF gt ft fe d U=.ok (CL,o):=by ext kF;simp[b,d3,a,d3,aE ml,e]
end
end L3
namespace PySem
open Sem(wp)
open Builtin
open AutoSeq1(wpAny_loadPart')
def sW:fillsNumberSlot (.type "tuple") "mul"=pure M:=fillsNumberSlot_seq F.slot_tuple_mul.lookup (by left) F.slot_tuple_rmul.lookup (by left)
def zl:seqRepeat? (.type "tuple")=pure (G (.builtin "tuple.__mul__")):=by unfold seqRepeat?;rw[seqSlot_of (name:="__mul__") F.slot_tuple_mul.lookup (by left),seqSlot_of (name:="__rmul__") F.slot_tuple_rmul.lookup (by rfl)];rfl
def wD(a)(t)(l)(items)(n)(dct)(c):Meets (e?.«int.__rmul__» #[[.int a t,.ref l],[]]) (λ_ R s=>s.heap.get? l=G {cls:=.type "tuple",dict:=dct,data:=.seq items n,slots:=c}/\R (.ok (.ret a_.notImplemented)) s):=.of_wp λb w A R s h=>by let(e,h):=h;wp_walk;show#[_,W,h]
def abc(l)(items)(n)(dct)(c)(u):Meets (e?.«tuple.__mul__» #[[.ref l,.int 1 u],[]]) (λ_ R s=>s.heap.get? l=G {cls:=.type "tuple",dict:=dct,data:=.seq items n,slots:=c}/\R (.ok (.ret (a_.ref l))) s):=.of_wp λa w A R s h=>by
  let(b,h):=h
  wp_walk
  show#[_,W,h]
def abk(l)(items)(n)(dct)(k)(x)(u)(y:2<=x)(o:x<=1000)(i:items.isEmpty=M)(C:items.size<=1000):Meets (e?.«tuple.__mul__» #[[.ref l,.int x u],[]]) (λ_ R s=>s.heap.get? l=G {cls:=.type "tuple",dict:=dct,data:=.seq items n,slots:=k}/\R (.ok (.ret (a_.ref s.heap.objs.size))) {s with heap:=s.heap.push {cls:=a_.type "tuple",data:=Data.seq (BY (λd c=>d++c) #v[] (ey x.toNat items))},toks:=s.toks}):=.of_wp λa w A R s h=>by
  let(j,h):=h;let t:¬(decide (x< -(2^63))||decide (x≥2^63))=Ld:=by simp;ext
  let B:(x==1)=M:=by simp;ext
  let z:decide (x<=0)=M:=by simp;ext
  let e:(items.size:Int)*x<=1000000:=by let:(items.size:Int)*x<=1000*1000:=Int.mul_le_mul () o () ();ext
  let r:¬(items.size:Int)*x>(2^63-1)/8:=by ext
  let q:¬Tuple.tupleTooMany ((items.size:Int)*x)=Ld:=by
   ext Tuple.tupleTooMany;simp;let:(eg:Nat)=16777216:=by decide
   ext
  wp_walk
  rw[aE t]
  wp_walk using H? j
  rw[aE r];rw[aE q];let g:(BY (λd c=>d++c) #v[] (ey x.toNat items)).size<=eg:=by
   let p:∀(m:Nat)(b:Array a_),(BY (λd c=>d++c) b (ey m items)).size=b.size+m*items.size:=by
    intro m
    induction m with |zero=>intro b;simp|succ m f=>intro b;rw[K',H8,f,Array.size_append,Q!];ext
   rw[p];let v:x.toNat*items.size<=1000*1000:=OK () C;let:(eg:Nat)=16777216:=by decide
   simp;ext
  wp_walk
  show#[_,W,h]
end PySem
namespace L3
open PySem PySem.Spec PyProof.Rows L2
def TU(K:lD):R2:=λx y H Q=>∃(a:aT)(k:Nat)(xs:I V),x=.ref a/\y=.int (k)/\hY K H a xs/\xs≠[]/\1<=k/\k<=1000/\xs.length<=1000/\(k=1->Q (.ref a) H)/\(2<=k->∀p,H p=CL->Q (.ref p) (bW H p (.tup (ey k xs).flatten)))
def P2:hH X (nt .Mult) (TU X.K):=by
 intro i s P H x y v u Q I S A h;let(a,k,xs,0,0,E,J,Y,N,L,C,B):=h
 injections;subst_vars
 let(t,0):=A;let(e,r,G,U):=I.tuple E;let((cls,dd,o,g),f,m,n,l):=id G;simp only at m l;subst m l;let j:=r.length;show JQ (by rfl) #[_,f,W] (λz=>Ge z k t) sW F.fills_int_mul F.slot_int_rmul zl F.slot_int_index.lookup (q_ F.slot_int_rmul (Ge s k t) F.entry_int_rmul (F.args_int_rmul_2 _ _) (wD k t a _ n dd g) #[f,W,#[_,f,W],?_])
 by_cases M:k=1
 .subst M;show q_ F.slot_tuple_mul #[_,f,W] F.entry_tuple_mul (F.args_tuple_mul_2 _ _) (abc a _ n dd g t) #[f,#[.ref a,H,I,W,C W]]
 .show q_ F.slot_tuple_mul #[_,f,W] F.entry_tuple_mul (F.args_tuple_mul_2 _ _) (abk a _ n dd g k t () () ?_ (by rw[lE];ext)) #[f,?_]
  .cases e with|nil=>ext|cons y R=>rfl
  .let O:BY (λw p=>w++p) #v[] (ey ((k):Int).toNat e.toArray)=(ey k e).flatten.toArray:=by show(tq e k [])
   rw[O];show#[.ref _,_,I.laid (λb T q=>bg _ q) (dc _) ?_,W,B () _ (I.hok.fresh (dc _))];show#[?_,_,r.rep k,qf.new _ _];rw[Fz];show la (OK N L) ()
def TR(K:lD):R2:=λx y H Q=>Oh K x y H Q\/TU K x y H Q
def FC:hH X (nt .Mult) (TR X.K):=hH.or QJ P2
def fP:D->D->bb RV |.tuple xs,.int k=>if xs≠[]/\1<=k/\k<=1000/\xs.length<=1000 then G (.fz (.tuple (ey k.toNat xs).flatten))else CL|d,e=>Eh d e
def BN{K:lD}:mo K (TR K) fP:=by
 intro O H x y o j l Q n g f e q;unfold fP at e;split at e
 .rename_i ds k
  split at e
  .rename_i h
   injections;subst_vars
   ext f;let(a,xs,0,i,b):=OA g;obtain⟨m,rfl⟩:∃m:Nat,k=(m):=#[k.toNat,by ext];simp[q!]at q;show .inr #[a,m,xs,W,W,i.1,λz=>h.1 (b.ne.mp z),by ext,by ext,by rw[b.length];show h.2.2.2,λe=>?_,λ_=>Fin.aiP (b.flat m) n q];subst e;let e1:(ey 1 ds).flatten=ds:=by simp
   rw[e1]at q;show q.at (.tup i b)
  simp_all
 .show .inl (RG O H x y o j l Q n g f e q)
def als(xs:I D)(j):fP (.list xs) (.int j)=Eh (.list xs) (.int j):=W
def Pq(b:k<=1000)(a:xs.length<=1000):fP (.list xs) (nd k)=G (.ow (ey k xs).flatten):=(als xs k).trans (Mg b a)
end L3
namespace PySem
open Sem(wp)
open Builtin Builtin.Str
def fx:Bool->Heap->aT->aT->Nat->Prop|true,h,it,a,i=>h.IsTupleIter it a i|false,h,it,a,i=>h.IsListIter it a i
def e!:Bool->Heap->aT->Array a_->Prop|true,h,a,xs=>h.IsTuple a xs|false,h,a,xs=>h.IsList a xs
def qh:Bool->String|true=>"tuple_iterator"|false=>"list_iterator"
def fx.ext(x:fx b h it a i)(e:Heap.ExtBut c h h')(n:it≠c):fx b h' it a i:=by cases b with|true=>show Heap.IsTupleIter.extBut x e n|false=>show Heap.IsListIter.extBut x e n
def fx.to(x:fx b h it a i)(e:∀o,h.get? it=G o->h'.get? it=G o):fx b h' it a i:=by cases b with|true=>show Heap.IsTupleIter.at x e|false=>show Heap.IsListIter.at x e
def fx.live(x:fx b h it a i):∃o,h.get? it=G o/\∀v,o.data≠.cell v:=by cases b with|true|false=>let(o,e,_,d):=(x);show#[o,e,λv z=>by rw[d]at z;ext z]
def e!.ext(x:e! b h a xs)(e:Heap.ExtBut c h h')(n:a≠c):e! b h' a xs:=by cases b with|true=>show Heap.IsTuple.extBut x e n|false=>show Heap.IsList.extBut x e n
def e!.psh(x:e! b h a xs)(o):e! b (h.push o) a xs:=by cases b with|true=>show Heap.IsTuple.push x o|false=>show Heap.IsList.push x o
def e!.lt(x:e! b h a xs):a<h.objs.size:=by cases b with|true|false=>let(o,e,_):=(x);show br e
section
def uv(d:fx b s.heap it l i)(e:e! b s.heap l xs)(a:xs[i]?=G x)(q:∀c,fx b c it l (i+1)->Heap.SameBut it s.heap c->Q x {s with heap:=c}):wpAny (model prog w) A (SmallTypes.nextOf (.ref it)) Q E s:=by cases b with|true=>show lx d e a q|false=>show wpAny_nextOf_list_item d e a q
def AY(g:A.handled=CL)(d:fx b s.heap it l i)(f:e! b s.heap l xs)(a:xs[i]?=CL)(q:∀c e,Heap.ExtBut it s.heap c->(∃o,c.get? e=G o/\o.cls=.type "StopIteration")->E (.ref e) {s with heap:=c}):wpAny (model prog w) A (SmallTypes.nextOf (.ref it)) Q E s:=by cases b with|true=>show i4 g d f a q|false=>show wpAny_nextOf_list_end g d f a q
def ph(a:e! b s.heap l xs)(q:Q (.ref s.heap.objs.size) {s with heap:=s.heap.push {cls:=.type (qh b),data:=.fields #v[.ref l,.int 0 0]}}):wpAny (model prog w) A (pyIter (.ref l)) Q E s:=by cases b with|true=>show C? a q|false=>show Sb a q
def aiq{Q:a_->d_->Prop}(D:z? z TI TO i1 i2 l1 l2)(k:s? s.heap z TI TO .none)(hTI:IsPair s.heap TI (.ref i1) (.ref i2))(hTO:IsPair s.heap TO a b)(h1:fx b1 s.heap i1 l1 n)(h2:fx b2 s.heap i2 l2 n)(hl1:e! b1 s.heap l1 xs)(V:e! b2 s.heap l2 ys)(hx:xs[n]?=cL x)(hy:ys[n]?=cL y)(q:∀d,s? d z TI TO (rawInt s.heap.objs.size)->IsPair d TO x y->fx b1 d i1 l1 (n+1)->fx b2 d i2 l2 (n+1)->IsPair d s.heap.objs.size x y->d.objs.size=s.heap.objs.size+1->(∀c o,c≠z->c≠TO->c≠i1->c≠i2->s.heap.get? c=cL o->d.get? c=cL o)->Q (.ref s.heap.objs.size) {s with heap:=d}):wpAny (model prog w) A (e?.«zip.__next__» #[[.ref z],[]]) (λfin s'=>∃v,fin=.done (.ret v)/\Q v s') E s:=by
 show wpAny _ _ (field _ 2>>=_) _ _ _;show bY (l_ k W W ?_);show bY (l_ k W W ?_);show bY (ra hTI W ?_);show bY ?_;show bY (l_ k W W (ew ?_));show bY (F? ?_);show bY (l_ k W W ?_);show bY (C1 k () λk₁ L g=>?_);show bY ?_;simp only[J3,J9,P_,Il];show bY (bY (N! ?_));show bY (uv (h1.ext g.extBut D.i1z) (hl1.ext g.extBut D.l1z) hx λk₂ g₂ i=>ew ?_);let G:=i.extBut _ _ D.TOi1 (g.extBut _ _ D.TOz hTO);show bY (ra G W ?_);show bY (CD G λk₃ U h=>?_);let J:=U;show bY (w_ (ew ?_));show bY (bY (N! ?_));show bY (uv (((h2.ext g.extBut D.i2z).ext i.extBut D.i12.symm).ext h.extBut D.TOi2.symm) (((V.ext g.extBut D.l2z).ext i.extBut D.l2i1).ext h.extBut D.l2TO) hy λk₄ Z l=>ew ?_);let F:=l.extBut _ _ D.TOi2 J;show bY (ra F W ?_);show bY (CD F λf T j=>?_);let p:IsPair f TO x y:=T;show bY (w_ (ew (ew ?_)));show bY (ra p W ?_);let X:f.objs.size=s.heap.objs.size:=by rw[j.1,l.1,h.1,i.1,g.1]
 let B:=j.extBut _ _ D.TOz.symm (l.extBut _ _ D.i2z.symm (h.extBut _ _ D.TOz.symm (i.extBut _ _ D.i1z.symm L)));let kp:∀c o,c≠z->c≠TO->c≠i1->c≠i2->s.heap.get? c=cL o->f.get? c=cL o:=λc o M c2 c3 c4 e=>j.extBut _ _ c2 (l.extBut _ _ c4 (h.extBut _ _ c2 (i.extBut _ _ c3 (g.extBut _ _ M e))))
 let S:=((g₂.ext h.extBut D.TOi1.symm).ext l.extBut D.i12).ext j.extBut D.TOi1.symm;let R:=Z.ext j.extBut D.TOi2.symm;let Y:=br B;show wpAny _ _ (SmallTypes.ownedTupleHandOut _ (.ref f.objs.size)>>=_) _ _ _;show bY ?_;let P:s? (f.push {cls:=.type "tuple",data:=.seq #v[x,y]}) z TI TO _:=bg _ B;show bY (C1 P () λk₇ O u=>?_);let I:=O;show C1 I () λr N t=>?_;let m:=N;let up:∀c o,c≠z->f.get? c=cL o->r.get? c=cL o:=λc o M e=>t.extBut _ _ M (u.extBut _ _ M (bg _ e));let C:=t.extBut _ _ (n? Y) (u.extBut _ _ (n? Y) (b4 _ W));let H:r.objs.size=f.objs.size+1:=by rw[t.1,u.1,cc]
 rw[X]at m C H;show ew #[_,W,?_];rw[X];show q r m (up _ _ D.TOz p) (S.to λo e=>up _ o D.i1z e) (R.to λo e=>up _ o D.i2z e) C H λc o M c2 c3 c4 e=>up c o M (kp c o M c2 c3 c4 e)
def Oo(U:A.handled=CL)(D:z? z TI TO i1 i2 l1 l2)(d:s? s.heap z TI TO .none)(N:IsPair s.heap TI (.ref i1) (.ref i2))(M:IsPair s.heap TO a b)(X:fx b1 s.heap i1 l1 n)(V:fx b2 s.heap i2 l2 n)(F:e! b1 s.heap l1 xs)(J:e! b2 s.heap l2 ys)(P:xs[n]?=CL\/ys[n]?=CL)(q:∀k e,(∀c o,c≠z->c≠TO->c≠i1->c≠i2->s.heap.get? c=cL o->k.get? c=cL o)->(∃o,k.get? e=cL o/\o.cls=.type "StopIteration")->E (.ref e) {s with heap:=k}):wpAny (model prog w) A (e?.«zip.__next__» #[[.ref z],[]]) Q E s:=by show wpAny _ _ (field _ 2>>=_) _ _ _;show bY (l_ d W W ?_);show bY (l_ d W W ?_);show bY (ra N W ?_);show bY ?_;show bY (l_ d W W (ew ?_));show bY (F? ?_);show bY (l_ d W W ?_);show bY (C1 d () λT y f=>?_);let H:=y;show bY ?_;simp only[J3,J9,P_,Il];show bY (bY (N! ?_));cases hx:xs[n]? with
 |none=>
  show bY (AY U (X.ext f.extBut D.i1z) (F.ext f.extBut D.l1z) hx λC e g L=>?_);let(I,i,j):=L;let m:=g _ _ D.i1z.symm H;let ne:e≠z:=λt=>by subst t;rw[m]at i;ext i;simp at j
  show C1 m () λr _ h=>q r e (λc o G _ O _ t=>h.extBut _ _ G (g _ _ O (f.extBut _ _ G t))) #[I,h.extBut _ _ ne i,j]|some x=>
  let Z:ys[n]?=CL:=by
   rcases P with t|t
   .rw[hx]at t;ext t
   .show t
  show bY (uv (X.ext f.extBut D.i1z) (F.ext f.extBut D.l1z) hx λC Y g=>ew ?_);let p:=g.extBut _ _ D.TOi1 (f.extBut _ _ D.TOz M);show bY (ra p W ?_);show bY (CD p λr R h=>?_);show bY (w_ (ew ?_));show bY (bY (N! ?_));show bY (AY U (((V.ext f.extBut D.i2z).ext g.extBut D.i12.symm).ext h.extBut D.TOi2.symm) (((J.ext f.extBut D.l2z).ext g.extBut D.l2i1).ext h.extBut D.l2TO) Z λS e v L=>?_);let(I,i,j):=L;let l:=v _ _ D.i2z.symm (h.extBut _ _ D.TOz.symm (g.extBut _ _ D.i1z.symm H));let ne:e≠z:=λt=>by subst t;rw[l]at i;ext i;simp at j
  show C1 l () λB _ u=>q B e (λc o G c2 O c4 t=>u.extBut _ _ G (v _ _ c4 (h.extBut _ _ c2 (g.extBut _ _ O (f.extBut _ _ G t))))) #[I,u.extBut _ _ ne i,j]
end
section
def acS(D:z? z TI TO U J l1 l2)(k:s? s.heap z TI TO .none)(h:IsPair s.heap TI (.ref U) (.ref J))(g:IsPair s.heap TO a b)(p:fx b1 s.heap U l1 n)(m:fx b2 s.heap J l2 n)(f:e! b1 s.heap l1 xs)(e:e! b2 s.heap l2 ys)(l:xs[n]?=cL x)(j:ys[n]?=cL y)(q:∀d,s? d z TI TO (rawInt s.heap.objs.size)->IsPair d TO x y->fx b1 d U l1 (n+1)->fx b2 d J l2 (n+1)->IsPair d s.heap.objs.size x y->d.objs.size=s.heap.objs.size+1->(∀c o,c≠z->c≠TO->c≠U->c≠J->s.heap.get? c=cL o->d.get? c=cL o)->Q (cL (.ref s.heap.objs.size)) {s with heap:=d}):wpAny (model prog w) A (pyNext (.ref z)) Q E s:=by let i:s.TypeIs (.ref z) _:=#[_,k,W];show bY (HP (Em i F.slot_zip_next (vr F.slot_zip_next i F.entry_zip_next (aiq D k h g p m f e l j λd G C B v u t r=>ew (q d G C B v u t r)) (F.args_zip_next_1 _))))
def acN(r:A.handled=CL)(D:z? z TI TO J C l1 U)(k:s? s.heap z TI TO .none)(i:IsPair s.heap TI (.ref J) (.ref C))(h:IsPair s.heap TO a b)(y:fx b1 s.heap J l1 n)(v:fx b2 s.heap C U n)(g:e! b1 s.heap l1 xs)(f:e! b2 s.heap U ys)(j:xs[n]?=CL\/ys[n]?=CL)(q:∀d,(∀c o,c≠z->c≠TO->c≠J->c≠C->s.heap.get? c=G o->d.get? c=G o)->Q CL {s with heap:=d}):wpAny (model prog w) A (pyNext (.ref z)) Q E s:=by let l:s.TypeIs (.ref z) _:=#[_,k,W];show bY (HP (Em l F.slot_zip_next ?_));show vr F.slot_zip_next l F.entry_zip_next (Oo r D k i h y v g f j λd e p t=>?_) (F.args_zip_next_1 _);let(o,m,u):=t;show bY (IG #[o,m,u] isSubtype_stop (ew (q _ p)))
end
abbrev Zw(h:Heap)(b:Bool)(a:aT):Heap:=h.push {cls:=.type (qh b),data:=.fields #v[.ref a,.int 0 0]}
abbrev YE(h:Heap)(f e:Bool)(b a:aT):Heap:=(Zw h f b).push {cls:=.type (qh e),data:=.fields #v[.ref a,.int 0 0]}
abbrev Zr(h:Heap)(b f:Bool)(a e:aT):Heap:=(YE h b f a e).push {cls:=.type "tuple",data:=.seq #v[.ref h.objs.size,.ref (Zw h b a).objs.size]}
abbrev YT(h:Heap)(f e:Bool)(b a:aT):Heap:=(Zr h f e b a).push {cls:=.type "tuple",data:=.seq #v[.none,.none]}
abbrev W!(h:Heap)(f e:Bool)(b a:aT):Heap:=(YT h f e b a).push {cls:=.type "zip",data:=.fields #v[.none,.bool M,.bool M,.ref (YE h f e b a).objs.size,.ref (Zr h f e b a).objs.size]}
def wz(b1 k)(l1 c)(xs ys):Meets (e?.«zip.__new__» #[[.type "zip",.ref l1,.ref c],[]]) (λ_ R s=>e! b1 s.heap l1 xs/\e! k s.heap c ys/\R (.ok (.ret (.ref (YT s.heap b1 k l1 c).objs.size))) {s with heap:=W! s.heap b1 k l1 c}):=.of_wp λf w A R s h=>by
  let(l,g,d,i,j):=s;let(b,a,h):=h;let m:=sub_zip;let e:e! k (d_.heap #[l.push {cls:=.type (qh b1),data:=.fields #v[.ref l1,.int 0 0]},g,d,i,j]) c ys:=e!.psh a _
  wp_walk using ph b,ph e
  show#[_,W,h]
section
variable{s:d_}
def Dr(e:h.get? it=G {cls:=.type (qh b),data:=.fields #v[.ref l,.int 0 0]}):fx b h it l 0:=by cases b with|true|false=>show#[_,e,W,W]
def ai8(l:e! b1 s.heap l1 xs)(j:e! J s.heap C ys)(q:∀d,s? d (s.heap.objs.size+4) (s.heap.objs.size+2) (s.heap.objs.size+3) .none->IsPair d (s.heap.objs.size+2) (.ref s.heap.objs.size) (.ref (s.heap.objs.size+1))->IsPair d (s.heap.objs.size+3) .none .none->fx b1 d s.heap.objs.size l1 0->fx J d (s.heap.objs.size+1) C 0->(∀c o,s.heap.get? c=G o->d.get? c=G o)->Q (.ref (s.heap.objs.size+4)) {s with heap:=d}):wpAny (model prog w) A (call (.type "zip") [.ref l1,.ref C]) Q E s:=by
 show callType_new F.called_zip () (F.typeCall_zip_2 _ _) (F.newCall_zip_2 _ _) (λobj=>F.args_object_init_3 obj _ _) F.entry_zip_new (wz b1 J l1 C xs ys) #[l,j,?_];let i:(Zw _ b1 l1).objs.size=s.heap.objs.size+1:=cc ..;let h:(YE s.heap b1 J l1 C).objs.size=s.heap.objs.size+2:=by rw[cc,i]
 let g:(Zr s.heap b1 J l1 C).objs.size=s.heap.objs.size+3:=by rw[cc,h]
 let p:(YT s.heap b1 J l1 C).objs.size=s.heap.objs.size+4:=by rw[cc,g]
 let v:∀c o,s.heap.get? c=G o->(Zw _ b1 l1).get? c=G o:=λc o e=>bg _ e;let n:∀c o,(Zw _ b1 l1).get? c=G o->(YE s.heap b1 J l1 C).get? c=G o:=λc o e=>bg _ e;let f:∀c o,(YE _ b1 J l1 C).get? c=G o->(Zr s.heap b1 J l1 C).get? c=G o:=λc o e=>bg _ e;let b:∀c o,(Zr _ b1 J l1 C).get? c=G o->(YT s.heap b1 J l1 C).get? c=G o:=λc o e=>bg _ e;let a:∀c o,(YT _ b1 J l1 C).get? c=G o->(W! s.heap b1 J l1 C).get? c=G o:=λc o e=>bg _ e;let m:(W! s.heap b1 J l1 C).get? _=G _:=b4 _ W;let r:=a _ _ (b4 _ W);let t:=a _ _ (b _ _ (b4 _ W));let u:=a _ _ (b _ _ (f _ _ (b4 _ W)));rw[h,g,p]at m;rw[i,h]at t;rw[g]at r;rw[i]at u;rw[p];show#[#[_,m,W],q _ m t r (Dr (a _ _ (b _ _ (f _ _ (n _ _ (b4 _ W)))))) (Dr u) λc o e=>a _ _ (b _ _ (f _ _ (n _ _ (v _ _ e))))]
end
end PySem
namespace L3
open PySem PySem.Spec PyProof.Rows L2
def C0(b:Bool)(K:lD)(H:Hp)(a:aT)(xs:I V):Prop:=match b with|true=>hY K H a xs|false=>hL K H a xs
def DJ(K:lD)(e b:Bool)(a c:aT):It:=#[λi H=>∃xs ys x y,C0 e K H a xs/\C0 b K H c ys/\xs[i]?=G x/\ys[i]?=G y,λi H v f=>∃p x y,H p=CL/\v=.ref p/\(∀xs,C0 e K H a xs->xs[i]?=G x)/\(∀ys,C0 b K H c ys->ys[i]?=G y)/\f=bW H p (.tup [x,y]),λi H=>∃xs ys,C0 e K H a xs/\C0 b K H c ys/\(xs.length<=i\/ys.length<=i)]
def Se(I:a! X pins σ H s)(i:hL X.K H a xs)(h:hL X.K H a ys):xs=ys:=by
 let(b,g,(o,k,e1,_,n,l),_):=I.list i;let(e,f,(m,k2,e2,_,p,j),_):=I.list h;rw[e1]at e2
 injections;subst_vars
 let:b=e:=by
  let q:b.toArray=e.toArray:=by injection l.symm.trans j
  simpa using q
 subst this;show g.inj f
def mL(I:a! X pins σ H s)(h:C0 b X.K H a xs):∃c,b_ xs c/\e! b s.heap a c.toArray:=by cases b with|true=>let(c,f,p,e):=I.tuple h;show#[c,f,p]|false=>let(c,f,p,e):=I.list h;show#[c,f,p.isList]
def zI(I:a! X pins σ H s)(f:C0 b X.K H a xs)(e:C0 b X.K H a ys):xs=ys:=by cases b with|true=>show Gr I f e|false=>show Se I f e
def akt{ch:a8 _}(I:a! X pins σ H s)(g:∀b∈ch,pS X pins H b)(k:∀b u,b∉ch->s.heap.get? b=G u->C.get? b=G u):a! X pins σ H {s with heap:=C,toks:=J}:=by
 let f:∀b u,H b=G u->b∉ch:=λb u e z=>by rw[(g b z).1]at e;simp_all
 show I.step (λb j=>?_) (λb u _ _ a e _=>k b u a e) (λb u _ _ a e _=>#[_,k b u a e]) (λ_ _ _ _ n=>n) (λb u a e=>#[u,k b u a e]) (λ_ _ e=>e) (λ_ _ _ e=>e) (λb y e=>#[#v[],by rw[e];simp]) (λm hm=>?_) (λb u e=>?_) I.bare
 .let(_,t,_,p,o,l):=g b j;show#[p,t,o,l]
 .let(h,es,w,i,r):=hm;show#[h,es,w,k _ h (λz=>(g _ z).2.1 W) i,r]
 .show(I.hok b u e).afT (λc v a q=>k c v ?_ q) (λ_ q=>q) λ_ _ q=>q
  rcases a with z|z
  .rw[z];show f b u e
  .show f c _ z
def ajZ{K:lD}(b1 b2)(z TI TO V d l1 l2)(D:z? z TI TO V d l1 l2):Turn P w K (.Tuple elts kk tp) (DJ K b1 b2 l1 l2) [z,TI,TO,V,d] z (λi h=>s? h z TI TO .none/\IsPair h TI (.ref V) (.ref d)/\(∃a b,IsPair h TO a b)/\fx b1 h V l1 i/\fx b2 h d l2 i)where
 mem:=by simp
 obj:=λi h f b e=>by
  let(l,g,(a,c,m),r,p):=f;simp_all;rcases e with rfl|rfl|rfl|rfl|rfl
  .show#[_,l,λv q=>by cases(q)]
  .show#[_,g,λv q=>by cases(q)]
  .show#[_,m,λv q=>by cases(q)]
  .show r.live
  .show p.live
 keep:=λi h h' f k=>by let(l,g,(a,c,m),r,p):=f;show#[k z () _ l,k TI () _ g,#[a,c,k TO () _ m],r.to λo q=>k V () o q,p.to λo q=>k d () o q]
 item:=by
  intro X Z S hK hc i j s σ H E I J f U;subst Z S hK;let(l,g,(a,c,m),r,p):=f;let(xs,ys,x,y,G,F,hx,hy):=U;let(C,M,O):=mL I G;let(B,L,N):=mL I F;let(u,hu,ru):=M.get hx;let(t,ht,rt):=L.get hy;show acS D l g m r p O N (by simpa using hu) (by simpa using ht) λk z1 o1 g1 g2 pr sz kp=>#[_,W,?_];show wpAny_letOwnedTupleGo_zip z1 λA z2 e2=>?_;let Q:=br l;let hIl:=br g;let hOl:=br m;let h1l:V<s.heap.objs.size:=by let(_,q,_):=r.live;show br q
  let h2l:d<s.heap.objs.size:=by let(_,q,_):=p.live;show br q
  let hn:=I.hok.fresh (dc _);let kk:∀b o,b∉[z,TI,TO,V,d]->s.heap.get? b=cL o->A.get? b=cL o:=λb o e q=>by simp only[hX,vm,or_false,not_or]at e;show(e2.2 b e.1).trans (kp b o e.1 e.2.2.1 e.2.2.2.1 e.2.2.2.2 q)
  let I2:a! X j σ (bW H _ (.tup _)) {s with heap:=A}:=I.aeZ J kk (dc _) #[by show 2<=eg;decide,_,.cons ru (.cons rt .nil),#[_,((e2.2 _ (n? Q)).trans pr),#[W,_,W],W]]
  let oth:∀b o,b≠z->k.get? b=cL o->A.get? b=cL o:=λb o n q=>(e2.2 b n).trans q;show#[.ref _,_,I2,W,#[_,x,y,hn,W,λzs T=>by rw[zI I T G];show hx,λzs T=>by rw[zI I T F];show hy,W],#[z2,oth _ _ D.TIz (kp _ _ D.TIz D.TITO D.TIi1 D.TIi2 g),#[_,_,oth _ _ D.TOz o1],g1.to λo q=>oth _ _ D.i1z q,g2.to λo q=>oth _ _ D.i2z q],λb e=>?_]
  let Y:b<s.heap.objs.size:=by simp at e;rcases e with rfl|rfl|rfl|rfl|rfl<;>assumption
  rw[bh (iF Y)];show(J b e).1
 done:=by
  intro X Z S hK hc i j s σ H E I J f U;subst Z S hK;let(l,g,(a,c,m),r,p):=f;let(xs,ys,G,F,R):=U;let(C,M,O):=mL I G;let(B,L,N):=mL I F;let hl1:=M.length;let hl2:=L.length;let hd:C.toArray[i]?=CL\/B.toArray[i]?=CL:=by show R.elim (λq=>.inl (by simp;ext)) λq=>.inr (by simp;ext)
  show acN (I.ok.hd hc) D l g m r p O N hd λk kp=>#[W,?_];show akt I J λb o e q=>by simp at e;show kp b o e.1 e.2.2.1 e.2.2.2.1 e.2.2.2.2 q
 self:=λ_ _ _ _ _ f h=>IC f.1 h
def ahy(n b a:Nat)(f:b<n)(e:a<n):z? (n+4) (n+2) (n+3) n (n+1) b a:=by constructor<;>(show(_:Nat)≠_;ext)
def Tv(K:lD)(d:TA):TI:=λe H R=>d e H λg b=>∃a c b1 f,g=[.ref a,.ref c]/\(∃xs,C0 b1 K b a xs)/\(∃ys,C0 f K b c ys)/\R (DJ K b1 f a c) b
def aj1:ni "zip"=G (.type "zip"):=by left
def We{d}(Q:Gl X "zip")(hm:X.mg "zip"=CL)(k:PA X [l,m] ta)(N:e_ [l,m] X.env=(fg,eval l X.env)::e_ [m] X.env:=by rfl)(O:(backTo pos (e_ [m] X.env)).any (·.1)=fg:=by rfl):PI X (.Tuple elts d tp) (.Call (.Name "zip" p) [l,m] [] pos) (Tv X.K ta):=by
 intro f s w H R I h;show Call_ (qQ I Q hm aj1 (T! (de (k pos f s w H _ I h) λus g#[vs,v,j,E,F]=>?_) N O));let(a,c,Z,Y,e,(xs,B),(ys,A),q):=F;subst e;let(u,t,0,C,rt):=Uc E;ext C;injections;subst_vars;let(M,rx,r):=mL j B;let(L,ry,o):=mL j A;let U:∀b∈[g.heap.objs.size+4,g.heap.objs.size+2,g.heap.objs.size+3,g.heap.objs.size,g.heap.objs.size+1],pS X f v b:=λb T=>by
  let i:g.heap.objs.size<=b:=by simp_all;let S:=T;ext
  show j.ahe i (j.hok.fresh i)
 show ai8 r o λh1 n J G z y P=>?_;show IC n (#[_,_,_,_,v,W,j.kept P,ajZ Z Y _ _ _ _ _ a c (ahy _ _ _ r.lt o.lt),#[n,J,#[_,_,G],z,y],U,q])
def PD:c_->Bool|.Starred _ _=>u|_=>M
def tE(e)(es)(env)(h:PD e=M):e_ (e::es) env=(M,eval e env)::e_ es env:=by ext e<;>first|rfl|contradiction
def vd:I D->I D->I D |x::r,y::q=>.tuple [x,y]::vd r q|_,_=>[]
theorem wY:∀(xs a:I D),(vd xs a).length=min xs.length a.length|[],_|_::_,[]=>by rfl|_::r,_::q=>by simp only[vd,j_,wY r q];simp_all
theorem wF:∀(xs ys)(i:Nat),(vd xs ys)[i]?=(xs[i]?).bind λx=>(ys[i]?).map λy=>.tuple [x,y] |[],_,_=>by rfl|x::r,[],i=>by injections;subst_vars<;>simp[vd]|x::r,y::q,0=>by rfl|x::r,y::q,i+1=>wF r q i
section
variable{K:lD}
def sd(b:Bool)(O:iP)(K:lD)(H:Hp)(a:aT)(xs:I V):Prop:=match b with|true=>oN O K H a xs|false=>qy O K H a xs
def sd.ev(h:sd b O K H a xs)(e:Ev O H O' H'):sd b O' K H' a xs:=by cases b with|true=>show oN.ev h e|false=>show qy.ev h e
def sd.at(h:sd b O K H a xs):C0 b K H a xs:=by cases b with|true=>show(h).1|false=>show(h).1.sq
def WG(h:sd b1 O K H a xs)(hd:DVs O K H xs ds)(g:sd U O K H c ys)(w:DVs O K H ys es):xa K (DJ K b1 U a c) O H (vd ds es):=by
 intro F G e n;let f:=h.ev e;let l:=g.ev e;let j:=w.ev e;rw[wY];show#[λi P=>?_,#[xs,ys,f.at,l.at,?_]]
 .let r:i<ds.length:=by ext
  let o:i<es.length:=by ext
  let(x,v,N):=(hd.ev e).get (j' r);let(y,u,A):=j.get (j' o);show#[#[xs,ys,x,y,f.at,l.at,v,u],?_];rintro t B ⟨p,E,C,b,rfl,L,J,rfl⟩;let m:=L xs f.at;let z:=J ys l.at;simp[v]at m;simp[u]at z;ext m;injections;subst_vars;show#[bq b _,_,?_,.tup #[hY.of aR,λq=>a7 q (n p b)] (.cons (N.ev (Ev.grow (bq b _))) (.cons (A.ev (Ev.grow (bq b _))) .nil))];rw[wF,j' r,j' o];rfl
 .rw[hd.length,w.length];ext
def Kl(h:DV O K H v d)(q:fA d=G ds):∃b a xs,v=.ref a/\sd b O K H a xs/\DVs O K H xs ds:=by cases h with|tup h e=>ext q;show#[u,_,_,W,h,e]|lst h e=>ext q;show#[M,_,_,W,h,e]|_=>contradiction
def ET(c:FA):FI:=λf=>(c f).bind λa=>(d7.bR (nv a.2 a.1)).bind λb=>match b.1 with |[d,e]=>(d7.bR (fA d)).bind λds=>(d7.bR (fA e)).bind λes=>.ok (vd ds es,b.2)|_=>.bad
def Xg(h:AO K E U fa):IO K E (Tv K U) (ET fa):=by intro B I O i H N L R w;show h B I O i H N _ R (w.bind.imp λa b M P G e1 C n=>?_);let((ds,j),q,b):=b.bR;let(F,e2,R2,r):=oB C n q;dsimp only at b;cases r with|nil=>show b.elim|cons p e=>cases e with |nil=>show b.elim|cons e o=>cases o with |cons _ _=>show b.elim|nil=>let(es,m,b):=WR.bR b;let(fs,l,b):=WR.bR b;let(y,A,xs,0,g,u):=Kl p m;let(v,z,J,0,f,t):=Kl e l;show#[A,z,y,v,W,#[_,g.at],#[_,f.at],b F _ G (e1.trans e2) R2 (WG g u f t)]
def mn(d e:D):bb RV:=match d,e with |.str z,.int i=>if z.length<=1000000 then(pQ z.cps.toList i).map λc=>.fz (.str #[#v[c]])else CL|_,_=>CL
def QA:mo K (Z8 K) mn:=by
 intro O H x y l g j Q n b a e q;unfold mn at e;split at e
 .split at e
  .rename_i z i f
   cases h:pQ _ i with|none=>rw[h]at e;simp_all|some c=>
    rw[h]at e
    injections;subst_vars
    ext b;ext a;show .inr (.inr #[z,i,c,W,W,nI f,h,q.at (.str _)])
  simp_all
 .simp_all
def C2:I D->bb RV |[.str z]=>if z.length<=1000000 then G (.fz (.int z.length))else CL|_=>CL
def R8:Ci K (λxs H Q=>∃x n,xs=[x]/\VU K x H n/\Q (.int n) H) C2:=by
 intro O H xs ds h Q n a e q;unfold C2 at e;split at e
 .split at e
  .rename_i z b
   injections;subst_vars
   cases a with|cons g f=>ext f;ext g;show#[_,_,W,#[nI b,W],q.at (.int _)]
  simp_all
 .simp_all
def LW(g:Str->Str->Bool):R2:=λx y H Q=>∃i j,x=.str i/\y=.str j/\Q (.bl (g i j)) H
def fS(g:Str->Str->Bool):D->D->bb RV |.str i,.str j=>G (.fz (.bool (g i j)))|_,_=>CL
def Tl:mo K (LW g) (fS g):=by
 intro O H x y i f h Q n b a e q;unfold fS at e;split at e
 .injections;subst_vars
  ext b;ext a;show#[_,_,W,W,q.at (.bl _)]
 simp_all
def Nx(i j:Str):Bool:=!decide (j.cps.toList<i.cps.toList)
def X6:hH X (m6 .LtE) (LW Nx):=by intro a s f H x y v u Q I e b h;let(i,j,0,0,q):=h;let(t,0):=e;let(g,0):=b;show PySem.P.le_str (AU I q W)
def Yf:=fS Nx
def O9:mo K (LW Nx) Yf:=Tl
end
end L3
namespace L3
open PySem L2
def Lq(N C:bM->Prop)(T:RV->Prop):d7 Fl->Prop |.ok (.nx a)=>N a|.ok (.ct a)=>C a|.ok (.rt v)=>T v|_=>False
structure Go(r)(N C)(T):Prop where out:Lq N C T r
section
variable{pv:PV}{ds:a8 D}
def Go.eq(e:r=r')(h:Go r' N C T):Go r N C T:=by rw[e];show h
def Go.imp(h:Go r N C T)(b:∀c,N c->N' c)(e:∀c,C c->C' c)(a:∀v,T v->T' v):Go r N' C' T':=by show#[?_];let h:=h.out;cases r with|bad|er x=>show h|ok f=>cases f with|nx r=>show b _ h|ct r=>show e _ h|rt v=>show a _ h|bk r=>show h
def EE(h:Go (f o) (λr=>Go (g r) N C T) C T):Go (aF f g o) N C T:=by show#[?_];let h:=h.out;ext aF;cases q:f o with|bad|er x=>rw[q]at h;show h.elim|ok a=>rw[q]at h;cases a with|nx r=>show(h).out|ct r|rt v=>show h|bk r=>show h.elim
def u7(h:c o=.ok (b,ρ1))(a:b=u->Go (f ρ1) N C T)(e:b=M->Go (g ρ1) N C T):Go (eJ c f g o) N C T:=by ext eJ;rw[h];cases b with|true=>show a W|false=>show e W
def Aw(b:U J=.ok (pv,o))(a:gt pv o=.ok ρ2)(h:N ρ2):Go (bF U gt J) N C T:=.eq (mJ b a W) #[h]
def gK(a:J o=.ok (pv,ρ1))(h:N ρ1):Go (iy J o) N C T:=.eq (zr a) #[h]
def b8(b:U o=.ok (pv,ρ1))(a:Ie ρ1 pv=G J)(h:T J):Go (aY U o) N C T:=.eq (lU b a) #[h]
def lf(h:N o):Go (aX o) N C T:=#[h]
theorem GZ(I:Nat->bM->Prop):∀(ds)(k)(p),I k p->(∀i d p,ds[i]?=G d->I (k+i) p->∃c,gt (.fz d) p=.ok c/\Go (b c) (I (k+i+1)) (I (k+i+1)) T)->Go (sT gt b ds p) (I (k+ds.length)) C T
 |[],k,p,h0,_=>#[h0]|d::r,k,p,h0,t=>by
  let(c,m,a):=t 0 d p W h0;let a:=a.out;let g:∀f,I _ f->Go (sT gt b r f) (I (k+(r.length+1))) C T:=λf h=>by
   let e:k+(r.length+1)=k+1+r.length:=by ext
   rw[e];show GZ I r _ f h λi o j w l=>?_;let e:k+1+i=k+(i+1):=by ext
   rw[e]at l⊢;show t _ o j (by simpa using w) l
  show#[?_];show Lq _ _ _ ((gt _ p).bind _);rw[m,d3];cases q:b c with|bad|er x=>rw[q]at a;show a.elim|ok n=>rw[q]at a;cases n with|nx r|ct r=>show(g _ a).out|rt v=>show a|bk r=>show a.elim
def KG(I:Nat->bM->Prop)(k:o j=.ok (ds,c))(f:I 0 c)(a:∀i d j,ds[i]?=G d->I i j->∃c,gt (.fz d) j=.ok c/\Go (b c) (I (i+1)) (I (i+1)) T)(e:∀g,I ds.length g->N g):Go (jU o gt b j) N C T:=by let:=GZ (C:=C) I ds 0 c f (by simpa using a);rw[D!]at this;show .eq (wy k) (this.imp e (λ_ h=>h) λ_ h=>h)
def qG(a:ds.map (λd=>G (.fz d))++ey (n-ds.length) CL=o)(h:Go (g o) (λ_=>T (.fz .none)) (λ_=>False) T):∃c,bL n g ds=.ok c/\T c:=by let h:=h.out;ext bL;rw[a];cases q:g o with|bad|er x=>rw[q]at h;show h.elim|ok b=>rw[q]at h;cases b with|nx r|rt v=>show#[_,W,h]|ct r|bk r=>show h.elim
def bQ(a:ds.map (λd=>G (.fz d))++ey (n-ds.length) CL=ρ)(h:Go (g ρ) (λ_=>RV.fz .none=v) (λ_=>False) (λr=>r=v)):bL n g ds=.ok v:=by let(f,e,b):=qG (T:=λr=>r=v) a h;rw[e,b]
def bB(b:fe U=.ok (pv,J))(a:gt pv J=.ok o)(c:o=ρ3)(h:Go (g ρ3) N C T):Go (aF (bF fe gt) g U) N C T:=.eq (dH (mJ b a c)) h
def F0(a:U J=.ok (pv,o))(h:Go (g o) N C T):Go (aF (iy U) g J) N C T:=.eq (dH (zr a)) h
def ia(b:fe J=.ok (pv,o))(a:Ie o pv=G U)(h:T U):Go (aF (aY fe) g J) N C T:=.eq (Ad (lU b a)) #[h]
def cz(h:Go (g o) N C T):Go (aF aX g o) N C T:=.eq W h
def fy(h:c o=.ok (b,ρ1))(a:b=u->Go (aF f1 g ρ1) N C T)(f:b=M->Go (aF f2 g ρ1) N C T):Go (aF (eJ c f1 f2) g o) N C T:=by
 let e:aF (eJ c f1 f2) g o=if b=u then aF f1 g ρ1 else aF f2 g ρ1:=by unfold aF eJ;rw[h];ext b<;>rfl
 show .eq e ?_;cases b with|true=>show a W|false=>show f W
def i7(I:Nat->bM->Prop)(j:o h=.ok (ds,ρ1))(f:I 0 ρ1)(a:∀i d h,ds[i]?=G d->I i h->∃ρ1,gt (.fz d) h=.ok ρ1/\Go (b ρ1) (I (i+1)) (I (i+1)) T)(e:∀c,I ds.length c->Go (g c) N C T):Go (aF (jU o gt b) g h) N C T:=EE (KG I j f a e)
theorem yl(I:bM->Prop)(P:Nat->D->Prop):∀(ds)(k)(q)(acc),I q->acc.length+ds.length<=1000000->(∀i d,ds[i]?=G d->∀q,I q->∃x c,kF gt C J d q=.ok (G x,c)/\I c/\P (k+i) x)->∃xs,bN gt C J ds q acc=.ok (acc++xs)/\xs.length=ds.length/\∀i x,xs[i]?=G x->P (k+i) x
 |[],k,q,acc,_,_,_=>#[[],by show d7.ok acc=_;simp,W,λi x h=>by simp at h]|d::r,k,q,acc,h0,v,t=>by
  let(x,c,j,g,o):=t 0 d W q h0;rw[j_]at v;let(xs,m,p,l):=yl I P r _ c (acc++[x]) g (by simp;ext) λi n w a f=>by
   let e:k+1+i=k+(i+1):=by ext
   rw[e];show t _ n (by simpa using w) a f
  show#[x::xs,?_,by simp_all,λi y b=>?_]
  .rw[qZ j ()];show bN gt C J r c (acc++[x])=_;rw[m,pb];rfl
  .cases i with|zero=>ext|succ i=>
    let e:k+(i+1)=k+1+i:=by ext
    rw[e];show l i y (by simpa using b)
def mq(I:bM->Prop)(P:Nat->D->Prop)(e:I j)(b:ds.length<=1000000)(a:∀i d,ds[i]?=G d->∀j,I j->∃x c,kF gt ft fe d j=.ok (G x,c)/\I c/\P i x):∃xs,eN (bN gt ft fe ds j [])=.ok xs/\xs.length=ds.length/\∀i x,xs[i]?=G x->P i x:=by let(xs,h,g,f):=yl I P ds 0 j [] e (by simpa using b) (by simpa using a);show#[xs,by rw[h];rfl,g,by simpa using f]
theorem zh{α:Type}{f:α->D}{Q:Nat->α->Prop}:∀(xs)(k),(∀i x,xs[i]?=G x->∃a,x=f a/\Q (k+i) a)->∃as:I α,xs=as.map f/\∀i a,as[i]?=G a->Q (k+i) a
 |[],_,_=>#[[],W,λi a h=>by contradiction]|x::r,k,h=>by
  let(a,e,q):=h 0 x W;let(as,e2,g):=zh r _ λi y j=>by
   let e:k+1+i=k+(i+1):=by ext
   rw[e];show h _ y (by simpa using j)
  show#[a::as,by rw[e,e2];rfl,λi b l=>?_];cases i with|zero=>ext|succ i=>
   let e:k+(i+1)=k+1+i:=by ext
   rw[e];show g i b (by simpa using l)
def Tx(c:aS.strOk a=u)(e:aS.strOk b=u):bx (.str a) (.str b)=G (.fz (.bool (a==b))):=by ext bx;rw[show lj _=u by ext lj;rw[show aS.canLay0 (.str a)=u from c];rfl,show aS.canLay0 (.str b)=u from e];rfl
def x8(b:aS.strOk a=u):bx (.str a) (.str a)=G (.fz (.bool u)):=by rw[Tx b b,dN]
def wP(c:aS.strOk a=u)(e:aS.strOk b=u)(h:(a==b)=M):bx (.str a) (.str b)=G (.fz (.bool M)):=by rw[Tx c e,h]
def NM(d:aS.strOk a=u)(f:aS.strOk b=u)(e:aS.strOk c=u):pP (.str a) (.tuple [.str b,.str c])=G (.fz (.bool (b==a||c==a))):=by show(if(lj _&&(aS.strOk b&&(aS.strOk c&&u)))=u then G (RV.fz (.bool (aS.eqv _ _||(aS.eqv _ _||false))))else CL)=_;rw[show lj _=u by ext lj;rw[show aS.canLay0 (.str a)=u from d];rfl,f,e,B4];rfl
def abN(d:aS.strOk a=u)(h:aS.strOk b=u)(g:aS.strOk c=u)(f:aS.strOk e=u):pP (.str a) (.tuple [.str b,.str c,.str e])=G (.fz (.bool (b==a||(c==a||e==a)))):=by show(if(lj _&&(aS.strOk b&&(aS.strOk c&&(aS.strOk e&&u))))=u then G (RV.fz (.bool (aS.eqv _ _||(aS.eqv _ _||(aS.eqv _ _||false)))))else CL)=_;simp only[show lj _=u by ext lj;rw[show aS.canLay0 (.str a)=u from d];rfl,h,g,f,B4];rfl
def uE{α:Type}{xs:I α}{v:α}(a:0<=i)(h:xs[i.toNat]?=G v):pQ xs i=G v:=WC a h
def Zo(a:0<=i)(h:ds[i.toNat]?=G d):av (.tuple ds) (.int i)=G (.fz d):=by show(pQ ds i).map _=_;rw[uE a h];rfl
def EN(a:0<=i)(h:ds[i.toNat]?=G d):av (.list ds) (.int i)=G (.fz d):=by show(pQ ds i).map _=_;rw[uE a h];rfl
def NN(c:fa J=.ok (pa,C))(h:fb C=.ok (U,o))(e:kb o (cI pa)=G dx)(a:kb o U=G dy)(g:f dx dy=G (.fz (.bool b))):am f fa fb J=.ok (.fz (.bool b),o):=aZ c h e a g
def An{s:I Nat}(e:s.Pairwise (·<·))(h:∀k∈s,k<n):s.length<=n:=by
 let:∀(s:I Nat)(a:Nat),s.Pairwise (·<·)->(∀k∈s,a<=k/\k<n)->s.length<=n-a:=by
  intro s
  induction s with|nil=>show λa _ _=>mT _|cons x r f=>intro a e h;let(i,g):=Si.mp e;let j:=h x eQ;let:=f (x+1) g λk b=>#[i k b,(h k (h_ _ b)).2];rw[j_];ext
 show this s 0 e λk b=>#[mT _,h k b]
def GH(c:fr J=.ok (U,C))(hd:nv C U=G ([d,e],o))(b:fA d=G es)(a:fA e=G fs):ET fr J=.ok (vd es fs,o):=by ext ET;rw[c,d3,hd,aC,d3];dsimp only;simp only[b,aC,d3,a,aC,d3]
def B0(d:fa o=.ok (U,o))(j:fb o=.ok (J,o))(i:fc o=.ok (pc,o))(b:kb o (cI U)=G dx)(a:kb o (cI J)=G C)(c:kb o pc=G dz)(h:f dx C=G (.fz (.bool b1)))(e:b1=u->g C dz=G (.fz (.bool b2))):eB f g fa fb fc o=.ok (.fz (.bool (b1&&b2)),o):=by ext eB;rw[d,d3,j,d3];rw[b,aC,d3,a,aC,d3,h,aC,d3];cases b1 with|false=>rfl|true=>dsimp only;rw[i,d3];simp only[a,aC,d3,c,aC,d3,e W];rfl
end
end L3
namespace L3
open PySem PySem.Spec PyProof.Rows L2 PySem.Builtin PySem.Builtin.Str
section
def qj(h:b? (.str z) a):∃t,a=.str z t:=h
def aja:S4 X "str.startswith" (λx xs H Q=>∃a b,x=.str a/\xs=[.str b]/\Q (.bl (Txt.startswith a b)) H):=by rintro f s i H x xs v j Q I g e ⟨a,b,rfl,rfl,q⟩;let(t,0):=qj g;let(u,0,h):=e.one;let(l,0):=qj h;show PySem.SC.startswith #[.bl _,H,I,W,q]
theorem yh:∀l,b_ ((l.map (·.1)).map V.str) (strValues l)|[]=>.nil|p::r=>.cons #[p.2,W] (yh r)
theorem yy:∀{b:I Str}{a:I a_},b_ (b.map V.str) a->∃l,a=strValues l/\l.map (·.1)=b|[],_,.nil=>#[[],W,W]|z::r,_,.cons h t=>by let(k,0):=qj h;let(l,0,e):=yy t;show#[(z,k)::l,W,by simp_all]
def My:V->I V->Hp->VK->Prop:=λx xs H Q=>∃a b,x=.str a/\xs=[.str b]/\(b.length==0)=M/\a.length<=eg/\(Txt.split a b).length<=eg/\∀p,H p=CL->Q (.ref p) (bW H p (.lst ((Txt.split a b).map V.str)))
def NQ:S4 X "str.split" My:=by
 rintro g s m H x xs v p Q I n h ⟨a,b,rfl,rfl,w,z,y,q⟩;let(t,0):=qj n;let(u,0,o):=h.one;let(r,0):=qj o;let f:∀(l:a8 _)(i:Nat),l.map _=Txt.split a b->EP X g m Q _ _:=λl i e=>by let j:=yh l;rw[e]at j;show#[.ref _,_,I.alA (t':=i) j (by rw[dO];show y),W,q _ I.fresh]
 cases h1:(decide (a.length<b.length)||decide (strKind a<strKind b))with |true=>show q_ F.slot_str_split (w6 _ _ _) F.entry_str_split (F.args_str_split_2 _ _) (meets_str_split_cannot_occur a b t r h1) (f [(a,t)] _ (ax h1).symm)|false=>cases hf:(occurrences a b 0 _ _).isEmpty with |true=>show q_ F.slot_str_split (w6 _ _ _) F.entry_str_split (F.args_str_split_2 _ _) (meets_str_split_not_found a b t r h1 w hf) (f [(a,t)] _ ((aE (ne_true_of_eq_false h1)).trans (ax hf)).symm)|false=>let e:Txt.split a b=partsBetween a _ _:=(aE (ne_true_of_eq_false h1)).trans (aE (ne_true_of_eq_false hf));show q_ F.slot_str_split (w6 _ _ _) F.entry_str_split (F.args_str_split_2 _ _) (meets_str_split_sep a b t r h1 w hf z (by rw[<-e];show y)) ?_;rw[strsFrom_eq];show f _ _ ((numbered_texts _ _).trans e.symm)
def Uu(K:lD):V->I V->Hp->VK->Prop:=λx xs H Q=>∃a l b,x=.str a/\xs=[.ref l]/\hL K H l (b.map V.str)/\t4 a b=u/\Q (.str (Txt.join a b)) H
def QE:S4 X "str.join" (Uu X.K):=by
 rintro f s j H x xs v m Q I h b ⟨a,l,n,rfl,rfl,y,hok,q⟩;let(t,0):=qj h;let(u,0,p):=b.one
 injections;subst_vars
 let(i,w,pl,r):=I.list y;let(e,0,0):=yy w;let g:tooLong ((e.map (·.1)).toArray.foldl (·+·.length+a.length) 0)=M:=by unfold t4 at hok;rwa[z6]at hok
 show q_ F.slot_str_join (w6 _ _ _) F.entry_str_join (F.args_str_join_2 _ _) (meets_str_join_list a t l e g) #[pl.isList,post_join e #[joinFit_length g,λo k=>#[.str _,H,I.tok k,#[_,W],q]]]
def LY:V->bb Int->bb Int->Hp->VK->Prop:=λx lo a H Q=>∃z,x=.str z/\z.length<=eg/\Q (.str (Txt.slice z lo a)) H
def VT:X9 X LY:=by rintro b s h H x v p o lo y r Q I n e pl g ⟨z,rfl,w,q⟩;let(t,0):=qj n;show#[_,_,F.slot_str_getitem.lookup,w6 _ _ _,?_];let a:(Txt.slice z lo y).length<=eg/\∀f k,EP X b h Q (.str _ f) _:=#[la (Txt.slice_le z _ _) w,λf k=>#[.str _,H,I.tok k,#[_,W],q]];cases pl with
 |none=>cases g with |none=>show U? (l:=CL) (u:=CL) (st:=CL) e W (OF a)|int j u=>show U? (l:=CL) (u:=G (j,u)) (st:=CL) e W (OF a)
 |int i u=>cases g with |none=>show U? (l:=G (i,u)) (u:=CL) (st:=CL) e W (OF a)|int j m=>show U? (l:=G (i,u)) (u:=G (j,m)) (st:=CL) e W (OF a)
def akD:lT X (.type "int") (λxs H Q=>∃z n,xs=[.str z]/\O_ z=G n/\z.length<=640/\Q (.int n) H):=by rintro a s e H xs f Q I r ⟨z,n,rfl,g,h,q⟩;let(u,0,b):=iO r;let(t,0):=qj b;show apt g h #[.int n,H,I.tok _,#[_,W],q]
end
section
def DW(x:Str):It:=#[λi _=>i<x.cps.size,λi H v a=>∃c,x.cps[i]?=G c/\v=.str #[#v[c]]/\a=H,λi _=>i=x.cps.size]
def ye{K:lD}(x)(t)(it)(ty)(D:["enumerate","zip","dict_itemiterator","dict_reverseitemiterator","odict_iterator","itertools.zip_longest","itertools.pairwise"].contains ty=fg)(W:∀A,A.handled=CL->v' P w A it [it] [it] x.cps.size (SignAt x) (λi h=>h.IsStrIter it ty x t i))(self:∀(A)(i)(s)(Q)(E),s.heap.IsStrIter it ty x t i->Q (.ref it) s->wpAny (model P w) A (pyIter (.ref it)) Q E s):Turn P w K U (DW x) [it] it (λi h=>h.IsStrIter it ty x t i)where
 mem:=by simp
 obj:=λi h a b f=>by
  let e:b=it:=by simpa using f
  subst e;let(o,e,c,d):=a;show#[o,e,λv z=>by simp_all]
 keep:=λi h N a k=>by let(o,e,r):=a;show#[o,k it () o e,r]
 item:=by intro X y m B q i j s O H E I l a n;subst y m B;let(L,J,S,G,F,C):=l it ();show(W X.A (I.ok.hd q)).item i s _ _ n a λv N M R g kp=>?_;let(c,u,p,0):=R;let(o,e,cl,d):=id g;show#[_,rfl,G1 e cl d D #[.str _,H,(I.turned (t':=M) (λb o f e=>kp b o (by simpa using f) e) L J G F C),#[u,rfl],#[c,p,rfl,rfl],g,λb f=>(l b f).1]]
 done:=by intro X y m B q i j s O H E I l a n;subst y m B;subst n;let(L,J,S,G,F,C):=l it ();show(W X.A (I.ok.hd q)).done s _ _ a λN M kp=>#[rfl,I.turned (λb o f e=>kp b o (by simpa using f) e) L J G F C]
 self:=self
def S8(b:TE):TI:=λa H R=>b a H λx e=>∃z,x=.str z/\R (DW z) e
def X7(u:PE X l C):PI X J l (S8 C):=by
 intro a s p H R I h;show de (u a s p H _ I h) λv m a=>?_;let(y,j,f,r,z,e,q):=a;subst e;let(t,0):=qj r;let n:∀b∈[m.heap.objs.size],pS X a j b:=λb w=>by
  let e:b=m.heap.objs.size:=by simpa using w
  subst e;show f.ahe (dc _) (f.hok.fresh (dc _))
 cases B:z.cps.all _ with |false=>show wpAny_pyIter_wide B (#[_,_,_,_,j,W,f.kept λb o e=>bg _ e,ye z t _ _ () (λA i=>v'.strWide i _ z t) (λ_ _ _ _ _ g h=>wpAny_pyIter_striter_wide g h),#[_,b4 _ W,W,W],n,q])|true=>show wpAny_pyIter_ascii B (#[_,_,_,_,j,W,f.kept λb o e=>bg _ e,ye z t _ _ () (λA i=>v'.strAscii i _ z t) (λ_ _ _ _ _ g h=>wpAny_pyIter_striter_ascii g h),#[_,b4 _ W,W,W],n,q])
end
section
def EA(D:I (aS×aS))(c:TE):TE:=λa H Q=>c a H λy b=>∃k z,y=.str k/\lookup (aS.str k) D=G (.str z)/\Q (.str z) b
def Pn{D:a8 _}(O:PE X b tb)(P:litPairs keys values=cL D)(L:strKeyed D=Ld)(c:(strKeysOf D).Nodup)(A:keys.all (·.isSome)=Ld)(N:keys.length=values.length)(R:keys≠[])(i:keys.length<=15)(g:Ay b):PE X (.Subscript (.Dict keys values ax5) b pos) (EA D tb):=by
 intro f s n H Q I h;show Subscript_ (Dict_lits_str P L c A N R i λa o Z m ha M T kp=>?_);let E:=I.kept (t':=m) kp;let(kvs,j,r):=T;let U:L2.a! X (f++[(a,o)]) n H _:=E.afG λp g=>by
  rcases m?.mp g with z|z
  .show E.pin p (oe _ z)
  .rw[f?.mp z];show#[M,I.hok.fresh ha,n? (lr I.lt ha),I.am6 ha,λv q=>by let(_,_,_,d,_):=j;simp_all]
 show de (O _ _ n H _ U h) λu C a=>?_;let(y,Y,B,F,k,z,e,Gz0,q):=a;subst e;let(t,0):=qj F;let(v,J,S):=r.of_lookup avm Gz0;let l:C.heap.DictOf _ a kvs:=Heap.dictOf_iff.mpr #[o,((B.pin _ (oe _ (oe _ (f?.mpr W)))).1),j];let w:∀m,EP X f n Q v _:=λm=>#[_,Y,(B.afG λp g=>B.pin p (oe _ (rR _ g))).tok m,(by cases S C.heap;show#[_,W]),q];show subscriptTail_builtinR l.typeIs PySem.slot_dict_getitem.lookup (IB (PySem.strKind_is _ _ k t) l.mapOf J #[W,w _]) (g _ _)
end
section
variable{K:lD}
def yS:PV->bb Str |.fz (.str z)=>G z|_=>CL
def wB{pv:PV}(p:oR K C O σ H o v pv)(e:yS pv=G z):v=.str z:=by
 unfold yS at e;split at e
 .injections;subst_vars
  cases(p);rfl
 simp_all
def Yy(K:lD)(r:V->I V->Hp->VK->Prop)(f:Str->I D->bb RV):Prop:=∀(O)(H)(z)(xs)(ds)(a)(Q),qA O H->Paired (DX O K H) xs ds->f z ds=G a->Fin O K H Q a->r (.str z) xs H Q
def ue(f:Str->I D->bb RV)(e:FE)(c:FA):FE:=λg=>(e g).bind λa=>(d7.bR (yS a.1)).bind λz=>(c a.2).bind λb=>(d7.bR (xP b.2 b.1)).bind λds=>(d7.bR (f z ds)).bind λh=>.ok (h.pv,b.2)
def YJ(q:Yy K r f)(t:EO K E to fo)(c:AO K E U fa):EO K E (Xm K "str" r to U) (ue f fo fa):=by intro B i O h H L Q R w;show t B i O h H L _ R (w.bind.imp λa g F x J e1 y p=>?_);let(z,j,g):=g.bR;obtain rfl:=wB p j;show#[W,?_];show c B i F h J a.2 _ y (g.bind.imp λb e C xs I e2 R2 o=>?_);let(ds,m,e):=e.bR;let(N,l,e):=e.bR;show q C I z xs ds N Q R2.od (zQ R2 o m) l (kE R2 λA v G e3 u n=>e A v G (e1.trans (e2.trans e3)) u n)
def mM(z:Str):I D->bb RV |[.str b]=>G (.fz (.bool (Txt.startswith z b)))|_=>CL
def ajM:Yy K (λx xs H Q=>∃a b,x=.str a/\xs=[.str b]/\Q (.bl (Txt.startswith a b)) H) mM:=by
 intro O H z xs ds i Q n f e q;unfold mM at e;split at e
 .injections;subst_vars
  cases f with|cons h g=>ext g;ext h;show#[_,_,W,W,q.at (.bl _)]
 simp_all
theorem BW:∀a:I Str,DVs O K H (a.map V.str) (a.map .str)|[]=>.nil|z::r=>.cons (.str z) (BW r)
def eK(z:Str):I D->bb RV |[.str b]=>if(b.length==0)=M/\z.length<=1000000/\(Txt.split z b).length<=1000000 then G (.ow ((Txt.split z b).map .str))else CL|_=>CL
def Na:Yy K My eK:=by
 intro O H z xs ds h Q n b e q;unfold eK at e;split at e
 .split at e
  .rename_i a
   injections;subst_vars
   cases b with|cons g f=>ext f;ext g;show#[_,_,W,W,a.1,nI a.2.1,nI a.2.2,Fin.new (BW _) q]
  simp_all
 .simp_all
def xF:I D->bb (I Str) |[]=>G []|.str b::r=>(xF r).map (b::·)|_=>CL
theorem Fx:∀{xs:I V}{ds:I D}{bs:I Str},DVs O K H xs ds->xF ds=G bs->xs=bs.map V.str |_,_,_,.nil,e=>by injections;subst_vars;rfl|_,_,bs,.cons (ds:=r) h t,e=>by cases h with
  |str b=>let a:(xF r).map _=G bs:=e;cases q:xF r with |none=>ext|some f=>
    rw[q]at a
    injections;subst_vars
    rw[Fx t q];rfl |_=>contradiction
def CJ(b):xF (b.map .str)=G b:=by induction b with|nil=>rfl|cons n r a=>show(xF _).map _=_;rw[a];rfl
def eE(z:Str):I D->bb RV |[.list ds]=>(match xF ds with |some a=>if t4 z a=u then G (.fz (.str (Txt.join z a)))else CL|none=>CL)|_=>CL
def Sa:Yy K (Uu K) eE:=by
 intro O H z xs ds m Q n h e q;unfold eE at e;split at e
 .rename_i es
  cases l:xF es with|none=>ext|some g=>
   rw[l]at e;dsimp only at e;split at e
   .rename_i i
    injections;subst_vars
    cases h with|cons f b=>ext b;let(a,j,0,f,b):=Ii f;let:=Fx b l;subst this;show#[z,a,g,W,W,f.sq,i,q.at (.str _)]
   simp_all
 simp_all
def hJ:D->bb Int->bb Int->bb RV |.str z,lo,a=>if z.length<=1000000 then G (.fz (.str (Txt.slice z lo a)))else CL|_,_,_=>CL
def RU:VJ K LY hJ:=by
 intro O H x lo g h f Q n a e q;unfold hJ at e;split at e
 .split at e
  .rename_i b
   injections;subst_vars
   ext a;show#[_,W,nI b,q.at (.str _)]
  simp_all
 .simp_all
def cT:D->D->bb RV |.str i,.str j=>if i.length+j.length<=1000000 then G (.fz (.str (i++j)))else CL|_,_=>CL
def Be:mo K (λx y H Q=>∃i j,x=.str i/\y=.str j/\i.length+j.length<=eg/\Q (.str (i++j)) H) cT:=by
 intro O H x y l g h Q n b a e q;unfold cT at e;split at e
 .split at e
  .rename_i f
   injections;subst_vars
   ext b;ext a;show#[_,_,W,W,nI f,q.at (.str _)]
  simp_all
 .simp_all
def X0(i j:Str):Bool:=!(e?.Str.occurrences j i 0 j.length 1).isEmpty
def Z':=fS X0
def WN:hH X (m6 .In) (LW X0):=ahZ
def OX:mo K (LW X0) Z':=Tl
def iX:I D->bb RV |[.int i]=>if i.natAbs<10^30 then G (.fz (.str (KS (toString i))))else CL|_=>CL
def ajy(h:n<10^30):n.log2<1920:=by
 by_cases a:n=0
 .subst a;decide
 .let:=(Hw (k:=128) a).mpr (lr h ());ext
def W5:Ci K (λxs H Q=>∃i,xs=[.int i]/\i.natAbs.log2<1920/\Q (.str (toString i)) H) iX:=by
 intro O H xs ds h Q n a e q;unfold iX at e;split at e
 .split at e
  .rename_i b
   injections;subst_vars
   cases a with|cons g f=>ext f;ext g;show#[_,W,ajy b,q.at (.str _)]
  simp_all
 .simp_all
def Ry:I D->bb RV |[.str z]=>(match O_ z with |some n=>if z.length<=640 then G (.fz (.int n))else CL|none=>CL)|_=>CL
def PZ:Ci K (λxs H Q=>∃z n,xs=[.str z]/\O_ z=G n/\z.length<=640/\Q (.int n) H) Ry:=by
 intro O H xs ds i Q n a e q;unfold Ry at e;split at e
 .rename_i z
  cases h:O_ z with |none=>ext|some m=>
   rw[h]at e;dsimp only at e;split at e
   .rename_i b
    injections;subst_vars
    cases a with|cons g f=>ext f;ext g;show#[_,_,W,h,b,q.at (.int _)]
   simp_all
 simp_all
def vn(z:Str):I D:=z.cps.toList.map λc=>.str #[#v[c]]
def zn(c:FE):FI:=λb=>(c b).bind λa=>(d7.bR (yS a.1)).bind λz=>.ok (vn z,a.2)
def Ni:xa K (DW z) O H (vn z):=by
 intro g h e n;let a:(vn z).length=z.cps.size:=by ext vn;rw[dO,J?]
 rw[a];show#[λi j=>#[j,?_],W];rintro x f ⟨c,b,rfl,rfl⟩;show#[g_.refl _,_,?_,.str _];ext vn;rw[iD,U!,b];rfl
def Mh(h:EO K E C J):IO K E (S8 C) (zn J):=by intro B m O e H o n R w;show h B m O e H o _ R (w.bind.imp λa b j x l e1 i g=>?_);let(z,f,b):=b.bR;obtain rfl:=wB g f;show#[z,W,b j _ l e1 i Ni]
def HE(T:I (aS×aS)):D->bb RV |.str k=>(match lookup (aS.str k) T with |some (.str z)=>G (.fz (.str z))|_=>CL)|_=>CL
def Yi(T:I (aS×aS))(b:FE):FE:=λe=>(b e).bind λa=>(d7.bR (kb a.2 a.1)).bind λd=>(d7.bR (HE T d)).bind λf=>.ok (f.pv,a.2)
def Z2(l:EO K E C fb):EO K E (EA T C) (Yi T fb):=by
 intro B o O g H p Q R w;show l B o O g H p _ R (w.bind.imp λa b m x n e1 f i=>?_);let(d,h,b):=b.bR;let(q,e,b):=b.bR;unfold HE at e;split at e
 .rename_i k
  split at e
  .rename_i z j
   injections;subst_vars
   cases(kI f i h);show#[k,z,W,j,b m _ n e1 f (.str _)]
  simp_all
 simp_all
end
end L3
namespace PySem
open Sem(wp)
open AutoSeq1(wpAny_loadPart')
open Builtin Builtin.Str
section
def ads(k:TypeCalled T newId J)(q:checkTypeCall T #[args,kw]=pure ⟨⟩)(l:checkBuiltinCall newId #[.type T::args,kw]=pure ⟨⟩)(n:entryFor table newId=cL U)(o:entryFor table J=cL Bi)(g:Meets (U #[.type T::args,kw]) S)(h:S A.in1 (wants Q₁ E) s)(m:∀obj d,Q₁ obj d->d.TypeIs obj T/\argsOk J #[obj::args,kw]/\∃D,Meets (Bi #[obj::args,kw]) D/\D A.in1 (wants (λr x=>r=.none/\Q obj x) E) d):wpAny (model prog w) A (call (.type T) args kw) Q E s:=by
 let(c,G,C):=k.mro;let z:=k.made;let B:=k.sub;show N_ (codeAny_of_tree ?_);show ew #[Code.quiet_builtin _ (by left),x! F.entry_type_call ?_];rw[m3.under_plain (weight_type_call_type T args kw) (units_type_call_type T args kw)];let k1:=k.notType;let k2:=k.canCreate
 repeat(any_goals(first|assumption|wp_step))
 show By (S1 k.plain n (G? l (g prog w _ _ s h))) λr d j=>?_;cases r with |error e=>show j|ok y=>cases y with
  |ret obj=>
   let(u,hok,D,v,i):=m _ _ j;let p:=k.init.lookup;let t:=k.init.bind obj
   repeat(any_goals(first|assumption|wp_step))
   show By (S1 k.init.plain o (k.init.check _ _ _ _ _ _ _ _ u hok (v prog w _ _ d i))) λf x a=>?_;cases f with|error e=>show a|ok b=>cases b with |ret r=>let(0,H):=a;repeat(any_goals(first|assumption|wp_step))|_=>show a.elim
  |_=>show j.elim
end
def tJ(a b):checkTypeCall "enumerate" #[[a],[("start",b)]]=pure ⟨⟩:=by kernel_rfl
def ud(a b):checkBuiltinCall "enumerate.__new__" #[[.type "enumerate",a],[("start",b)]]=pure ⟨⟩:=by kernel_rfl
def zU(a b c):argsOk "object.__init__" #[[a,b],[("start",c)]]:=by kernel_rfl
def wO(i:typeLookup (.type T) "__init__"=pure (G (.builtin "object.__init__")))(hm:Bind.madeBy (.type T)=pure (G newId))(h:(G newId !=G "object.__new__")=u):Meets (e?.«object.__init__» #[[self,a],[("start",b)]]) (λ_ R s=>s.TypeIs self T/\R (.ok (.ret .none)) s):=by
 show Meets.of_wp λe w A R s f=>?_;let(j,g):=f
 repeat(any_goals(first|assumption|wp_step))
 show#[_,W,g]
def xN(b)(l)(items)(t):Meets (e?.«enumerate.__new__» #[[.type "enumerate",.ref l],[("start",.int 1 t)]]) (λ_ R s=>e! b s.heap l items/\R (.ok (.ret (.ref (s.heap.objs.size+1)))) {s with heap:=(s.heap.push {cls:=.type (qh b),data:=.fields #v[.ref l,.int 0 0]}).push {cls:=.type "enumerate",data:=.fields #v[.none,.bool M,.ref s.heap.objs.size,rawInt 1,.none,.none]}}):=.of_wp λf w A R s h=>by
  let(i,g,d,n,p):=s;let(j,h):=h;let m:=HQ;let a:e! b _ l items:=j;let e:(i.push {cls:=.type (qh b),data:=.fields #v[.ref l,.int 0 0]}).objs.size=i.objs.size+1:=cc ..
  wp_walk using ph a
  show Hv λo=>ew ?_;split
  .rename_i c _ _ _ _ _
   cases(c==a_.type "enumerate")
   .wp_walk using ph a
    rw[e];show#[_,W,h]
   .wp_walk using ph a
    rw[e];show#[_,W,h]
  .wp_walk using ph a
   rw[e];show#[_,W,h]
section
variable{s:d_}
def aa7(i:e! b s.heap l items)(h:∀d,v? d (s.heap.objs.size+1) s.heap.objs.size 1 .none->fx b d s.heap.objs.size l 0->(∀c o,s.heap.get? c=G o->d.get? c=G o)->Q (.ref (s.heap.objs.size+1)) {s with heap:=d}):wpAny (model prog w) A (call (.type "enumerate") [.ref l] [("start",.int 1 t)]) Q E s:=by
 show ads (Q₁:=λobj a=>a.TypeIs obj _/\Q obj a) F.called_enumerate (tJ _ _) (ud _ _) F.entry_enumerate_new F.entry_object_init (xN b l _ t) #[i,?_] λobj _ e=>#[e.1,zU _ _ _,_,wO F.called_enumerate.init.lookup F.called_enumerate.made (by rfl),e.1,W,e.2]
 let g:(s.heap.push {cls:=.type (qh b),data:=.fields #v[.ref l,.int 0 0]}).objs.size=s.heap.objs.size+1:=cc ..;let f:v? ((s.heap.push {cls:=.type (qh b),data:=.fields #v[.ref l,.int 0 0]}).push {cls:=.type "enumerate",data:=.fields #v[.none,.bool M,.ref s.heap.objs.size,rawInt 1,.none,.none]}) (s.heap.objs.size+1) s.heap.objs.size 1 .none:=by let:=b4 (s.heap.push {cls:=.type (qh b),data:=.fields #v[.ref l,.int 0 0]}) (o:={cls:=.type "enumerate",data:=.fields #v[.none,.bool M,.ref s.heap.objs.size,rawInt 1,.none,.none]}) W;rw[g]at this;show this
 show#[#[_,f,W],h _ f (Dr (bg _ (b4 _ W))) λc o x=>bg _ (bg _ x)]
end
end PySem
namespace PySem
open Sem(wp)
open Builtin Builtin.Str
def e!.to(x:e! b h a xs)(e:∀o,h.get? a=G o->h'.get? a=G o):e! b h' a xs:=by cases b with|true|false=>let(o,g,f):=(x);show#[o,e o g,f]
def J5(b)(t:A.handled=CL)(it l)(n:l≠it)(items):Draws prog w A it [it,l] (items.size+1) (λj v=>1<=j/\items[j-1]?=G v) (λj h=>1<=j/\fx b h it l (j-1)/\e! b h l items)where
 live:=λ_ _ a=>by let(o,C,_):=a.2.1.live;show#[o,C]
 frame:=λ_ _ _ a q=>#[a.1,a.2.1.to λo e=>q it () o e,a.2.2.to λo e=>q l () o e]
 item:=λj s Q E B a u=>by
  let(r,p,m):=a;let g:j-1<items.size:=by ext
  show uv p m (x:=items[j-1]) (by simp[g]) λz i f=>?_;let e:j-1+1=j+1-1:=by ext
  rw[e]at i;show u _ z _ #[r,by simp[g]] #[by simp_all,i,m.ext f.extBut n] f
 done:=λs Q E a y=>by let(r,p,m):=a;show AY t p m () y
section
def w9(h:wpAny l A (spliced (backTo pos (e_ [e] env))) (λm c=>wpAny l A (evalAll ((backToKw pos (keywordEach o env)).map (·.2))) (λk d=>wpAny l A (call (.type T) m (((backToKw pos (keywordEach o env)).filterMap (·.1)).zip k)) Q E d) E c) E s)(j:backTo pos (e_ [e] env)=[(fg,eval e env)])(g:(backToKw pos (keywordEach o env)).all (·.1.isSome)=u)(f:(backToKw pos (keywordEach o env)).any (·.1.isNone)=fg):wpAny l A (callWith pos (.type T) [] (backTo pos (e_ [e] env)) (backToKw pos (keywordEach o env))) Q E s:=by rw[j]at h⊢;show bY (qi (wpAny_mono (anW (Q:=λa c=>wpAny l A (call _ a.pos a.kw) Q E c) g h) (λa c b=>bY (age ?_)) λ_ _ x=>x));simp only[f];show bY (ew (bY (wpAny_mono b (λr d i=>bY (qi (wpAny_point (ew i)))) λ_ _ x=>x)))
end
end PySem
namespace L3
open PySem PySem.Spec PyProof.Rows L2 PySem.Builtin
def Vg(K:lD)(b:Bool)(a:aT):It:=#[λi H=>∃xs x,C0 b K H a xs/\xs[i]?=G x,λi H v e=>∃p x,H p=CL/\v=.ref p/\(∀xs,C0 b K H a xs->xs[i]?=G x)/\e=bW H p (.tup [.int ((i+1:Nat)),x]),λi H=>∃xs,C0 b K H a xs/\xs.length=i]
def aee{K:lD}(b)(a e it)(r:e≠it)(G:a≠it)(Y:a≠e):Turn P w K (.Tuple elts kk tp) (Vg K b a) [e,it] e (λi h=>(∃old,v? h e it ((i+1:Nat)) old)/\fx b h it a i)where
 mem:=by simp
 obj:=λi h j c t=>by
  let((old,g),hi):=j;rcases hX.mp t with z|t
  .subst z;show#[_,g,λv z=>by cases(z)]
  .let z:c=it:=by simpa using t
   subst z;show hi.live
 keep:=λi h h' j k=>by let((old,g),f):=j;show#[#[old,k e () _ g],f.to λo q=>k it () o q]
 item:=by
  intro X hP R hK t i m s σ H E I M j S;subst hP R hK;let((old,g),f):=j;let(xs,x,L,Q):=S;let(l,rv,p):=mL I L;let(u,hu,ru):=rv.get Q;let hlt:i<l.toArray.size:=by simpa using((f_.mp hu).1)
  show JZ (J5 (A:=X.A.in1) b (I.ok.hd t) it a G _) g #[by ext,f,p] () r (by simp[r,Y.symm]) λy h1 tk O ho ajE hT hsz hk=>#[_,W,?_];let N:y=u:=by
   let q:l.toArray[i]?=cL u:=by simpa using hu
   let C:=O.2;rw[Nat.add_sub_cancel,q]at C;show(lp C).symm
  subst N;show D3 ho λh2 T n=>?_;let F:e<s.heap.objs.size:=br g;let hn:H _=CL:=I.hok.fresh (dc _);let kk:∀c o,c∉[e,it]->s.heap.get? c=cL o->h2.get? c=cL o:=λc o B q=>by let h3:c≠e:=λz=>B (by simp[z]);let h4:c≠it:=λz=>B (by simp[z]);show(n.2 c h3).trans (hk c o h3 h4 q)
  let Z:h2.get? _=cL _:=(n.2 _ (n? F)).trans hT
  let I2:L2.a! X m σ (bW H _ (.tup [.int _,x])) {s with heap:=h2,toks:=tk+1}:=I.aeZ M kk (dc _) #[by show 2<=eg;decide,_,.cons #[_,W] (.cons ru .nil),#[_,Z,#[W,_,W],W]]
  let J:=ajE.2.1;rw[show i+1+1-1=i+1 by ext]at J;show#[.ref _,_,I2,W,#[_,x,hn,W,λys O=>by rw[zI I O L];show Q,W],#[#[y,T],J.to λo q=>(n.2 it r.symm).trans q],λc B=>?_];let U:c≠s.heap.objs.size:=by
   rcases hX.mp B with z|B
   .rw[z];show iF F
   .rw[show c=it by simpa using B];show iF (by let(_,z,_):=f.live;show br z)
  rw[bh U];show(M c B).1
 done:=by
  intro X hP R hK t i m s σ H E I M j S;subst hP R hK;let((old,g),f):=j;let(xs,L,Q):=S;let(l,rv,p):=mL I L;let(f0,f1,f2,f3,f4,f5):=M it ();let hl:=rv.length;let ei:i=l.toArray.size:=by rw[lE];ext
  subst ei;show Iz (J5 (A:=X.A.in1) b (I.ok.hd t) it a G _) g #[by ext,f,p] λh1 eb=>#[W,I.turned (eb) f0 f1 f3 f4 f5]
 self:=λ_ _ _ _ _ j h=>by let((old,g),_):=j;show D_ g h
def Hj(K:lD)(c:TA):TI:=λf H R=>c f H λg e=>∃a b,g=[.ref a]/\(∃xs,C0 b K e a xs)/\R (Vg K b a) e
def akM(L:Gl X "enumerate")(hm:X.mg "enumerate"=CL)(d:PA X [l] U)(F:PD l=fg:=by rfl):PI X (.Tuple elts kk tp) (.Call (.Name "enumerate" p) [l] [#[cL "start",.Constant (.int 1) j p1,p2]] pos) (Hj X.K U):=by
 intro f s y H R I h;show bY (qQ I L hm boot_enumerate (w9 (de (d pos f s y H _ I h) λO g#[P,w,o,B,C]=>?_) (by rw[tE _ _ _ F];rfl) W W));let(a,b,e,(xs,G),q):=C;subst e;let(u,0,A):=iO B;ext A;let(E,Q,v):=mL o G;show Kd (BV (L7 ?_));let n:a<g.heap.objs.size:=v.lt;let N:∀c∈[g.heap.objs.size+1,g.heap.objs.size],pS X f w c:=λc t=>by
  let m:g.heap.objs.size<=c:=by
   rcases hX.mp t with z|t
   .rw[z];show u? _
   .rw[show c=g.heap.objs.size by simpa using t];show dc _
  show o.ahe m (o.hok.fresh m)
 show aa7 v λM i r J=>?_;show D_ (s:={g with heap:=M,toks:=g.toks+1}) i (#[_,_,_,_,w,W,o.kept J,aee b a _ _ (S! _) (iF n) (iF (B! n)),#[#[_,i],r],N,q])
section
variable{K:lD}
def MU(h:sd b O K H a xs)(hd:DVs O K H xs ds):xa K (Vg K b a) O H (bX 1 ds):=by
 intro o r e n;let j:=h.ev e;rw[eU];show#[λi t=>?_,#[xs,j.at,hd.length]];let(x,l,w):=(hd.ev e).get (j' t);show#[#[xs,x,j.at,l],?_];rintro y m ⟨p,z,g,rfl,v,rfl⟩;let f:=v xs j.at;simp[l]at f
 injections;subst_vars
 show#[bq g _,_,?_,.tup #[hY.of aR,λq=>a7 q (n p g)] (.cons (.int _) (.cons (w.ev (Ev.grow (bq g _))) .nil))];rw[gc,j' t,Q' 1 i];rfl
def wb(c:FA):FI:=λe=>(c e).bind λa=>(d7.bR (nv a.2 a.1)).bind λb=>match b.1 with |[d]=>(d7.bR (fA d)).bind λds=>.ok (bX 1 ds,b.2)|_=>.bad
def N4(h:AO K E J U):IO K E (Hj K J) (wb U):=by intro B y O g H C z R w;show h B y O g H C _ R (w.bind.imp λa e A L v e1 t l=>?_);let((ds,i),q,e):=e.bR;let(u,e2,R2,o):=oB t l q;dsimp only at e;cases o with|nil=>show e.elim|cons n m=>cases m with|cons _ _=>show e.elim|nil=>let(es,j,e):=WR.bR e;let(b,r,xs,0,f,p):=Kl n j;show#[r,b,W,#[_,f.at],e u _ v (e1.trans e2) R2 (MU f p)]
end
end L3
namespace L3
open PySem L2
def jn(c:Nat):I (I Nat)->I Nat |[]=>[]|[x]=>x|x::y::r=>x++c::jn c (y::r)
theorem oJ(c):∀a,(iw #[#v[c]] a).cps.toList=jn c (a.map λp=>p.cps.toList)|[]|[x]=>rfl|x::y::r=>by show(x++#[_]++iw _ _).cps.toList=x.cps.toList++c::jn c _;simp only[LC,LC,E1,E1,oJ c _,pb];rfl
theorem G3:∀{p w x y:I Nat},c∉p->c∉w->p++c::x=w++c::y->p=w/\x=y |[],[],_,_,_,_,e=>#[W,(O? e).2]|[],b::w,_,_,_,h,e=>a7 (O? e).1 λz=>h (by rw[z];show eQ)|a::p,[],_,_,h,_,e=>a7 (O? e).1 λz=>h (by rw[<-z];show eQ)|a::p,b::w,_,_,h,g,e=>by let(e1,e2):=O? e;let(i,f):=G3 (λz=>h (h_ _ z)) (λz=>g (h_ _ z)) e2;show#[by rw[e1,i],f]
theorem Ol:∀{b ws:I _},b≠[]->ws≠[]->(∀p∈b,c∉p)->(∀w∈ws,c∉w)->jn c b=jn c ws->b=ws |[],_,h,_,_,_,_|_,[],_,h,_,_,_=>a7 W h|[p],[w],_,_,_,_,e=>by rw[show p=w from e]|[p],w::f::r,_,_,h,_,e=>a7 (show p=w++c::jn c _ from e) λz=>h p eQ (by rw[z];show oe _ eQ)|p::i::r,[w],_,_,_,h,e=>a7 (show p++c::jn c _=w from e) λz=>h w eQ (by rw[<-z];show oe _ eQ)|p::i::r,w::f::t,_,_,h,g,e=>by let(e1,e2):=G3 (h p eQ) (g w eQ) (e);rw[e1,(Ol () () (λq a=>h q (h_ _ a)) (λq a=>g q (h_ _ a)) e2)]
def EX{b:Str}(h:a.cps.toList=b.cps.toList):a=b:=avn (Array.toList_inj.mp h)
def Fr(c:Nat)(s:Str):Prop:=c∉s.cps.toList
def agv(i:ws≠[])(h:∀w∈ws,Fr c w):Txt.split (iw #[#v[c]] ws) #[#v[c]]=ws:=by
 let f:=amA (iw #[#v[c]] ws) c;let n:Txt.split _ _≠[]:=λz=>by let:=anZ (iw #[#v[c]] ws) #[#v[c]];rw[z]at this;simp_all
 let e2:=dt (λs:Str=>s.cps.toList) (amB (iw #[#v[c]] ws) #[#v[c]]);rw[oJ,oJ]at e2;show(K3 λa b h=>EX h).mp (Ol (by simpa using n) (by simpa using i) (λp g=>by let(q,e,0):=gi.mp g;show f q e) (λp g=>by let(q,e,0):=gi.mp g;show h q e) e2)
def pO(f:c≠d):∀{ws:I Str},(∀w∈ws,Fr c w)->Fr c (iw #[#v[d]] ws):=by
 intro ws h;ext Fr;rw[oJ];let:∀l:I _,(∀w∈l,c∉w)->c∉jn d l:=by
  intro l
  induction l with |nil=>intro _ z;ext z|cons x r b=>intro h;cases r with|nil=>show h x eQ|cons y r=>
    intro z;rcases m?.mp z with z|z
    .show h x eQ z
    .show(hX.mp z).elim (λz=>f z) λz=>b (λw a=>h w (h_ _ a)) z
 show this _ λw a=>by let(q,e,0):=gi.mp a;show h q e
theorem gC:∀{ws:I Str},(∀w∈ws,w.length<=B)->(iw #[#v[d]] ws).length<=ws.length*(B+1) |[],_=>mT _|[x],h=>by let:=h x eQ;show x.length<=1*(B+1);ext|x::y::r,h=>by let g:=h x eQ;let f:=gC (d:=d) λw a=>h w (h_ _ a);show(x++#[_]++iw _ _).length<=(r.length+1+1)*(B+1);rw[pk,pk];let e:(#[#v[d]]:Str).length=1:=W;let b:(y::r).length=r.length+1:=W;rw[b]at f;rw[e,Q! _];ext
def alk(h:∀w∈ws,w.length<=B)(a:ws.length*B+ws.length<=1000000):t4 #[#v[d]] ws=u:=by ext t4;rw[(LM h (by let:(#[#v[d]]:Str).length=1:=W;rw[this];ext))];rfl
def kJ(h:∀w∈ws,w.length<=B)(b:ws.length*B+ws.length<=1000000):eE #[#v[d]] [.list (ws.map .str)]=G (.fz (.str (iw #[#v[d]] ws))):=by
 show(match xF _ with |some a=>if t4 _ a=u then G _ else CL|none=>CL)=_
 rw[CJ];dsimp only;rw[ax (alk h b),show Txt.join _ ws=iw _ ws from LL _ _]
def iR(e:ws≠[])(h:∀w∈ws,Fr c w)(b:(iw #[#v[c]] ws).length<=1000000)(a:ws.length<=1000000):eK (iw #[#v[c]] ws) [.str #[#v[c]]]=G (.ow (ws.map .str)):=by show(if((#[_]:Str).length==0)=M/\(iw _ ws).length<=1000000/\(Txt.split _ _).length<=1000000 then _ else _)=_;rw[agv e h,ax #[W,b,a]]
end L3
namespace L2
open PySem PySem.Spec PyProof.Rows
section
variable{Z:Type}[DecidableEq Z]
def om(b:I (Z×V))(k:Z):bb V:=(b.find? λa=>decide (a.1=k)).map (·.2)
def mK(b:I (Z×V))(k:Z)(v:V):I (Z×V):=if(b.any λa=>decide (a.1=k))=u then b.map (λa=>if a.1=k then(a.1,v)else a)else b++[(k,v)]
def rH(b:I (Z×V))(k:Z):I (Z×V):=b.filter λa=>decide (a.1≠k)
def vY{k:Z}(e:p.1=k):om (p::r) k=G p.2:=by simp[om,e]
def vh{k:Z}(e:¬p.1=k):om (p::r) k=om r k:=by simp[om,e]
theorem BJ(k:Z):∀a:I (Z×V),(a.any λb=>decide (b.1=k))=(om a k).isSome
 |[]=>rfl|p::r=>by
  simp[Ir];by_cases e:p.1=k
  .simp only[vY e,a4 e,Rw,Option.isSome_some]
  .simp[vh e,a5 e];show BJ k r
def oE(a)(k:Z)(v):(mK a k v).length<=a.length+1:=by
 ext mK;split
 .simp_all
 simp_all
def o4.afV(r:o4 o a):o.isSome=a.isSome:=by cases o with
 |none=>cases a with|none=>rfl|some _=>show(r).elim
 |some _=>cases a with|none=>show(r).elim|some _=>rfl
def KV.val(r:KV kvs vs)(k:Z):o4 (om kvs k) (valueAt vs k):=by induction r with|nil=>show True.intro|@cons p q l i h t j=>
  let(f,g):=h;by_cases e:p.1=k
  .let a:q.1=k:=f.symm.trans e
   let b:valueAt (q::i) k=G q.2:=by simp[valueAt,a]
   rw[vY e,b];show g
  .let a:¬q.1=k:=λz=>e (f.trans z)
   let b:valueAt (q::i) k=valueAt i k:=by simp[valueAt,a]
   rw[vh e,b];show j
def KV.any(r:KV kvs vs)(k:Z):(kvs.any λb=>decide (b.1=k))=vs.any λb=>decide (b.1=k):=by induction r with|nil=>rfl|cons h t a=>ext
def KV.alG(r:KV kvs vs)(k:Z)(b:b? y g):KV (kvs.map λc=>if c.1=k then(c.1,y)else c) (vs.map λc=>if c.1=k then(c.1,g)else c):=by induction r with |nil=>show .nil|@cons p q l j h t i=>
  simp only[l4,l4];show .cons ?_ i;let(a,f):=h;by_cases e:p.1=k
  .rw[ax e,ax (a.symm.trans e)];show#[a,b]
  .rw[aE e,aE (λz=>e (a.trans z))];show#[a,f]
def KV.put(r:KV kvs vs)(k:Z)(a:b? y f):KV (mK kvs k y) (stored vs k f):=by
 unfold mK stored;rw[r.any k];by_cases e:(vs.any λb=>decide (b.1=k))=Ld
 .rw[ax e,ax e];show r.alG k a
 .rw[aE e,aE e];show Paired.snoc r #[W,a]
def KV.drop(r:KV kvs vs)(k:Z):KV (rH kvs k) (without vs k):=by
 unfold rH without
 induction r with |nil=>show .nil|@cons p q m l h t j=>
  let(f,g):=h;simp only[T_,T_];by_cases e:p.1=k
  .let a:¬decide (p.1≠k)=u:=by simp[e]
   let b:¬decide (q.1≠k)=u:=by simp[f.symm.trans e]
   rw[aE a,aE b];show j
  .let i:¬q.1=k:=λz=>e (f.trans z)
   let a:decide (p.1≠k)=u:=by simp[e]
   let b:decide (q.1≠k)=u:=by simp[i]
   rw[ax a,ax b];show .cons #[f,g] j
def KV.keys{b:I (Z×a_)}(r:KV kvs b):kvs.map (·.1)=b.map (·.1):=by induction r with|nil=>rfl|cons h t a=>ext
def KV.length(r:KV kvs vs):kvs.length=vs.length:=Paired.length r
def NO(a)(k:Z):(rH a k).length<=a.length:=y? _ _
end
def yB(r:b? (kV k) a):(eO P w).is k a=Ld:=by cases k with|inl i=>let(t,e):=(r);subst e;show ab9 P w i t|inr x=>let(t,e):=(r);subst e;show ab7 P w x t
theorem yQ:∀{b:I gY}{a:I a_},b_ (b.map kV) a->ItemsAre (eO P w) b a |[],_,r=>by ext r;show .nil|k::b,_,r=>by cases r with|cons h t=>show .cons (yB h) (yQ t)
abbrev KT(H:Hp):I (I gY×V)->I (I gY×aT×a_)->Prop:=Paired λp q=>p.1=q.1/\H q.2.1=G (.tup (p.1.map kV))/\b? p.2 q.2.2
def KT.val(r:KT H kvs xs)(k):o4 (om kvs k) ((atKey xs k).map (·.2)):=by induction r with |nil=>show True.intro|@cons p q l i h t j=>
  let(f,_,g):=h;by_cases e:p.1=k
  .let a:=f.symm.trans e
   let b:atKey (q::i) k=G q.2:=by simp[atKey,a]
   rw[vY e,b];show g
  .let a:¬q.1=k:=λz=>e (f.trans z)
   let b:atKey (q::i) k=atKey i k:=by simp[atKey,a]
   rw[vh e,b];show j
def KT.alG(r:KT H kvs xs)(k)(f:b? y i):KT H (kvs.map λc=>if c.1=k then(c.1,y)else c) (xs.map (putAt k i)):=by induction r with |nil=>show .nil|@cons p q m l h t j=>
  rw[l4];show .cons ?_ j;let(a,b,g):=h;ext putAt;by_cases e:p.1=k
  .rw[ax e,ax (a.symm.trans e)];show#[a,b,f]
  .rw[aE e,aE (λz=>e (a.trans z))];show#[a,b,g]
def KT.put(r:KT H kvs xs)(k)(g:H b=G (.tup (k.map kV)))(a:b? y h):KT H (mK kvs k y) (storedH xs k b h):=by
 let e:(kvs.any λf=>decide (f.1=k))=(atKey xs k).isSome:=by rw[BJ,(r.val k).afV,JG]
 unfold mK storedH;rw[e];by_cases q:(atKey xs k).isSome=Ld
 .rw[ax q,ax q];show r.alG k a
 .rw[aE q,aE q];show Paired.snoc r #[W,g,a]
def KT.keeps(r:KT H kvs xs)(a:∀b ys,H b=G (.tup ys)->H' b=G (.tup ys)):KT H' kvs xs:=Paired.aes r λ_ _ z=>#[z.1,a _ _ z.2.1,z.2.2]
section
def Tf(ok:jo P w H h)(e:Rd H a b):eH P w H h a b:=e.ok ok
def Bm(ok:jo P w H h)(e:Rd H a (.dK o)):o.length<=eg/\(a==rn)=M/\∃b,KV o b/\h.DictOf (eO P w) a b:=Tf ok e
def Bw(ok:jo P w H h)(e:H a=G (.dK o)):o.length<=eg/\(a==rn)=M/\∃b,KV o b/\h.DictOf (eO P w) a b:=Bm ok (.inl e)
def zt(ok:jo P w H h)(e:H a=G (.tup (C.map kV))):(tupleKind (eO P w)).is h C a:=by let(_,b,r,o,i,(g,n,f),_):=(show eH P w H h a _ from ok a _ e);show#[o,_,n,i,g,f,by simpa using yQ r]
def CP(ok:jo P w H h)(e:Rd H a (.dT C)):C.length<=eg/\(a==rn)=M/\∃xs,KT H C xs/\h.DictOfH (tupleKind (eO P w)) a xs:=by
 let(z,y,xs,r,o,es,u,n,j,i,g,f):=(Tf ok e);show#[z,y,xs,r,o,es,u,n,j,i,g,λx b=>?_,f];let all:∀{l:I _}{m:I _},KT H l m->∀x∈m,(tupleKind (eO P w)).is h x.1 x.2.1:=by
  intro l m q
  induction q with|nil=>ext|@cons p q E B v t A=>
   intro x b;rcases hX.mp b with e|b
   .subst e;show zt ok (by rw[<-v.1];show v.2.1)
   .show A x b
 show all r x b
def YM(ok:jo P w H h)(e:H a=G (.dT o)):o.length<=eg/\(a==rn)=M/\∃xs,KT H o xs/\h.DictOfH (tupleKind (eO P w)) a xs:=CP ok (.inl e)
end
def sy(H:Hp)(a:aT)(y:V)(r:bb V):Prop:=(∃e k,Rd H a (.dK e)/\y=kV k/\r=om e k)\/∃e k b,Rd H a (.dT e)/\y=.ref b/\H b=G (.tup (k.map kV))/\r=om e k
def F'(H:Hp)(a:aT)(y v:V)(e:Hp):Prop:=(∃f k,H a=G (.dK f)/\y=kV k/\f.length<eg/\e=bW H a (.dK (mK f k v)))\/∃f k b,H a=G (.dT f)/\y=.ref b/\H b=G (.tup (k.map kV))/\f.length<eg/\e=bW H a (.dT (mK f k v))
def sy.k{k:gY}(e:H a=G (.dK kvs)):sy H a (kV k) (om kvs k):=.inl #[kvs,k,.inl e,W,W]
def F'.k{k:gY}(e:H a=G (.dK kvs))(b:kvs.length<eg):F' H a (kV k) v (bW H a (.dK (mK kvs k v))):=.inl #[kvs,k,e,W,b,W]
section
variable{Z:St}
def a!.big(I:a! X pins Z H s):rn<s.heap.objs.size:=by let h:=(I.mod.glob.keeps I.bk).lt;show x? () h
def akq(q:A.units+1<cLine)(I:a! X pins Z H s)(g:sy H a y (G v))(o:b? y w)(h:∀c d,a! X pins Z H d->b? v c->Q c d):wpAny (model X.prog X.w) A (getItem (.ref a) w) Q E s:=by
 rcases g with⟨C,k,e,n,l⟩|⟨C,k,b,e,n,B,l⟩
 .subst n;let(z,t,J,i,dd):=Bm I.hok e;let(c,j,f):=o4.some_of (by rw[l];show i.val k);show IB (yB o) dd.mapOf j (h c _ (I.tok _) f)
 .subst n
  injections;subst_vars
  let(z,t,xs,i,dd):=CP I.hok e;let(c,j,f):=o4.some_of (by rw[l];show i.val k);let(p,r,m):=K7.mp j;show wpAny_getItem_heap (BP q) (zt I.hok B) dd r ?_;simp[m];show h c _ (I.tok _) f
def abF(n:A.units+1<cLine)(I:a! X pins Z H s)(g:sy H a y o)(m:b? y r)(h:∀c,a! X pins Z H c->Q (.bool o.isSome) c):wpAny (model X.prog X.w) A (m6 .In r (.ref a)) Q E s:=by
 rcases g with⟨t,k,e,j,l⟩|⟨t,k,b,e,j,p,l⟩
 .subst j;let(z,i,v,f,dd):=Bm I.hok e;show wpAny_in_of (yB m) i dd.mapOf ?_;rw[<-(f.val k).afV,<-l];show h _ (I.tok _)
 .subst j;cases(show r=a_.ref b from m);let(z,i,xs,f,dd):=CP I.hok e;show wpAny_in_heap (BP n) (zt I.hok p) i dd ?_;let q:=(f.val k).afV;rw[JG]at q;simp[<-q,<-l];show h _ (I.tok _)
def AZ(I:a! X pins Z H s)(e:YO (H a))(f:Heap.SameBut a s.heap o)(g:∃q,o.get? a=G q)(new:eH X.prog X.w (bW H a C) o a C):a! X pins Z (bW H a C) {s with heap:=o,toks:=J}:=I.write e (.inl W) (λb q h z=>(f.2 b h).trans z) g new
def ES(z:o.length<=eg)(hd:(a==rn)=M)(b:KV o C)(dd:J.DictOf (eO P w) a C):eH P w U J a (.dK o):=#[z,hd,C,b,dd]
def ahX(L:A.units+1<cLine)(I:a! X pins Z H s)(g:F' H a y v H')(B:b? y w)(x:b? v r)(h:∀d,a! X pins Z H' d->Q ⟨⟩ d):wpAny (model X.prog X.w) A (setItem (.ref a) w r) Q E s:=by
 rcases g with⟨U,k,e,p,l,t⟩|⟨U,k,b,e,p,G,l,t⟩
 .subst p t
  let(z,o,Y,f,dd):=Bw I.hok e;let J:Y.length<=eg:=by rw[<-f.length];show z
  let n:(mK U k v).length<=eg:=by let:=oE U k v;ext
  show wpAny_setItem_pairs (yB B) dd λC i m=>h _ ?_;let M:∃q,C.get? a=cL q:=by let(q,_,_,j,_):=i;show#[q,j]
  show AZ I (by rw[e];show True.intro) m M (ES n o (f.put k x) i)
 .subst p t
  cases(show w=a_.ref b from B);let(z,o,xs,f,dd):=YM I.hok e;let J:xs.length<=eg:=by rw[<-Paired.length f];show z
  let n:(mK U k v).length<=eg:=by let:=oE U k v;ext
  show wpAny_setItem_heap (BP L) (zt I.hok G) dd λC i m=>h _ ?_;let(q,es,S,j,R,P,O,_,N):=i;show AZ I (by rw[e];show True.intro) m #[q,j] #[n,o,_,(f.put k G x).keeps λc T F=>?_,q,es,S,j,R,P,O,N];rw[bh (Zj F e (λz=>nomatch z))];show F
end
section
variable{Z:St}
def Zy(I:a! X pins Z H s)(e:H a=G (.dK C))(g:b? (kV k) w)(l:om C k=G v)(hm:more=[]\/∃x,more=[x])(h:∀c d,a! X pins Z (bW H a (.dK (rH C k))) d->b? v c->Q c d):wpAny (model X.prog X.w) A (call (.builtin "dict.pop") (.ref a::w::more)) Q E s:=by
 let(z,r,B,b,dd):=Bw I.hok e;let(c,m,j):=o4.some_of (by rw[<-l];show b.val k);let o:(keyPart w).isSome=Ld:=by cases k with|inl i=>let(t,q):=(show∃t,w=a_.int i t from g);subst q;rfl|inr x=>let(t,q):=(show∃t,w=a_.str x t from g);subst q;rfl
 let L:argsOk "dict.pop" #[.ref a::w::more,[]]:=by
  rcases hm with q|⟨x,q⟩
  .subst q;show PySem.F.args_dict_pop_2 _ _
  .subst q;show PySem.F.args_dict_pop_3 _ _ _
 show call_meetsIn K6 dd.typeIs PySem.F.entry_dict_pop L (meets_dict_pop_there _ a (yB g) more hm o) #[B,c,dd,by rw[<-b.length];show z,m,λy f n=>h c _ ?_ j]
 let p:∃q,y.get? a=G q:=by let(q,_,_,J,_):=f;show#[q,J]
 show AZ I (by rw[e];show True.intro) n p (ES (la (NO C k) z) r (b.drop k) f)
end
def ZJ(i:c_):Prop:=∀a b,subscripted i M a b=operate [a,b] (getItem a b)
def Sm{id:String}(l:typeLookup (.type T) "__getitem__"=pure (G (.builtin id)))(j:ZJ slice)(h:wpAny (model prog w) A (eval value env) (λo d=>wpAny (model prog w) A (eval slice env) (λi c=>c.TypeIs o T/\wpAny (model prog w) A (getItem o i) Q E c) E d) E s):wpAny (model prog w) A (eval (.Subscript value slice pos) env) Q E s:=by
 show Subscript_ (wpAny_mono h (λo d f=>wpAny_mono f (λi c a=>?_) λ_ _ x=>x) λ_ _ x=>x);let(m,a):=a;show bY ?_;show bY (IA m l ?_);let g:wpAny (model prog w) A (subscripted slice M o i) (λr b=>wpAny (model prog w) A (letTemporaryGo value o r>>=λ_=>pure r) Q E b) E c:=by rw[j o i];show wpAny_operating (wpAny_mono a (λr b e=>bY (wpAny_letTemporaryGo (ew e))) λ_ _ x=>x)
 first |show ew (bY g)|show bY _|show bY g
def ack(I:a! X pins σ H s)(g:sy H a y o):s.TypeIs (.ref a) "dict":=by
 rcases g with⟨f,k,e,_,_⟩|⟨f,k,b,e,_,_,_⟩
 .let(_,_,h,_,dd):=Bm I.hok e;show dd.typeIs
 .let(_,_,xs,_,dd):=CP I.hok e;show dd.typeIs
def Te(f ty:TE):TE:=λb H Q=>f b H λx g=>ty b g λy e=>∃a v,x=.ref a/\sy e a y (G v)/\Q v e
def Y8(ty f:TE):TE:=λb H Q=>ty b H λy g=>f b g λx e=>∃a o,x=.ref a/\sy e a y o/\Q (.bl o.isSome) e
def TN(f ty e:TE):TS:=λD b H=>e b H λv i=>f b i λx h=>ty b h λy g=>∃a j,x=.ref a/\F' g a y v j/\D.nx b j
section
def P8(r:X.A.units+1<cLine)(w:PE X o U)(c:PE X i ty)(t:ZJ i):PE X (.Subscript o i pos) (Te U ty):=by intro b s f H Q I h;show Sm PySem.F.slot_dict_getitem.lookup t (de (w b s f H _ I h) λu l#[x,A,C,n,q]=>de (c b l f A _ C q) λN M a=>?_);let(y,E,j,m,a,v,z,g,p):=a;subst z;obtain rfl:=n;show#[ack j g,akq r j g m λJ L B e=>#[v,E,B,e,p]]
def KP(p:X.A.units+1<cLine)(c:PE X i ty)(q:PE X o J):PC X .In i o (Y8 ty J):=by intro b s e H Q I h;show de (c b s e H _ I h) λG f#[y,B,w,j,n]=>de (q b f e B _ w n) λu E a=>?_;let(x,z,v,l,a,F,r,g,m):=a;subst r;obtain rfl:=l;show abF p v g j λC t=>#[.bl _,z,t,W,m]
def PR(w:X.A.units+1<cLine)(B:PE X o td)(c:PE X i ty)(t:PE X value U)(z:ro value (cL (.Subscript o i pos')) pos.line X.env=pure fg):PS X (.Assign [.Subscript o i pos'] value pos) (TN td ty U):=by intro b s e H D I h;show wpAny_Assign_Subscript (de (t b s e H _ I h) λr j#[v,N,J,T,q]=>de (B b j e N _ J q) λu f#[x,S,A,m,p]=>de (c b f e S _ A p) λQ P a=>?_) z;let(y,R,F,l,a,L,C,g,n):=a;subst C;obtain rfl:=m;show ahX w F g l T λO E=>#[e,L,E,n]
end
def tH(c a:I (gY×V)):I (gY×V):=a.foldl (λb e=>mK b e.1 e.2) c
def KV.merge:∀{a:I (gY×V)}{rs:I (gY×a_)}{b:I _}{c:I (gY×a_)},KV a rs->KV b c->KV (tH b a) (merged c rs):=by
 intro a rs b c r
 induction r generalizing b c with|nil=>intro q;show q|@cons p q j i h t g=>
  intro f;let e:KV (mK b p.1 p.2) (stored c q.1 q.2):=by let:=f.put p.1 h.2;rw[<-h.1];show this
  show g e
theorem p7:∀(more c),(tH c more).length<=c.length+more.length|[],c=>by show c.length<=c.length+0;ext|p::r,c=>by let b:=p7 r (mK c p.1 p.2);let a:=oE c p.1 p.2;show(tH (mK c p.1 p.2) r).length<=_;simp only[j_];ext
structure M1(X:Cx)(o)(m)(apos:Pos)(e)(aen):Prop where
 base:attributeBase o m X.env (eval o X.env)=eval o X.env
 few:((backTo aen (e_ [e] X.env)).all (λx=>!x.1)&&(backToKw aen (keywordEach [] X.env)).all (λx=>x.1.isSome)&&decide (([e]).length+([]:I u5).length+(if([]:I u5).isEmpty then 0 else 1)<30))=u
 line:(apos.endLine==aen.line)=u
 trees:backTo aen (e_ [e] X.env)=[(M,eval e X.env)]
structure M2(X:Cx)(o)(m)(apos:Pos)(e f)(aen):Prop where
 base:attributeBase o m X.env (eval o X.env)=eval o X.env
 few:((backTo aen (e_ [e,f] X.env)).all (λx=>!x.1)&&(backToKw aen (keywordEach [] X.env)).all (λx=>x.1.isSome)&&decide (([e,f]).length+([]:I u5).length+(if([]:I u5).isEmpty then 0 else 1)<30))=u
 line:(apos.endLine==aen.line)=u
 trees:backTo aen (e_ [e,f] X.env)=[(M,eval e X.env),(M,eval f X.env)]
def Lm(H:Hp)(a:aT):Prop:=(∃b,Rd H a (.dK b))\/∃b,Rd H a (.dT b)
def Vz(I:a! X pins σ H s)(d:Lm H a):s.TypeIs (.ref a) "dict"/\(∀b,a_.ref a=.ref b->∃c,s.heap.get? b=G c/\c.dict=CL)/\(a==rn)=M:=by
 rcases d with⟨i,e⟩|⟨i,e⟩
 .let(_,f,j,_,dd):=Bm I.hok e;show#[dd.typeIs,λb q=>?_,f];ext q;let(c,_,_,h,g,_):=dd;show#[c,h,g.2.1]
 .let(_,f,xs,_,dd):=CP I.hok e;show#[dd.typeIs,λb q=>?_,f];ext q;let(c,_,_,h,g,_):=dd;show#[c,h,g.2.1]
def KC(g ty:TE):TE:=λb H Q=>g b H λx f=>∃a,x=.ref a/\Lm f a/\ty b f λy e=>∃h k v,e a=G (.dK h)/\y=kV k/\om h k=G v/\Q v (bW e a (.dK (rH h k)))
section
def Mj(z:PE X o td)(A:PE X e ty)(m:M1 X o "pop" apos e U):PE X (.Call (.Attribute o "pop" apos) [e] [] U) (KC td ty):=by intro b s g H Q I h;show wpAny_Call_method m.base m.few m.line LJ K6 PySem.F.type_dict_pop (de (z b s g H _ I h) λu p a=>?_);let(x,L,i,r,a,C,d,w):=a;subst C;obtain rfl:=r;let(n,j,_):=Vz i d;show#[n,j,?_];rw[m.trees];show Calls.callWith_builtin W (Calls.evalArgs_plain (Calls.spliced_cons (de (A b p g L _ i w) λP O a=>?_)));let(y,R,J,q,S,k,v,E,B,l,t):=a;show Calls.spliced_nil ?_;subst B;show Zy J E q l (.inl W) λM N G f=>#[v,_,G,f,t]
end
end L2
namespace HT
open PySem PySem.Spec PyProof.Rows PySem.Calls
def agC(n:Nat):e?.Slice.sliceAdjust CL CL (-1) (n)=((n:Int)-1,-1):=by
 ext e?.Slice.sliceAdjust;let a:(-1)<0:=by decide
 simp
def afi(n:Nat):e?.Slice.slicePlaces ((n)-1) (-1) (-1)=n:=by
 ext e?.Slice.slicePlaces;let a:¬((-1)>0):=by decide
 simp only[a,if_false];by_cases h:(n:Int)-1>-1
 .rw[ax h,show(- -1)=1 by decide,II];ext
 .rw[aE h];ext
def N6(xs:Array a_):((eI xs.size).filterMap λ(m:Nat)=>xs[((xs.size)-1+(m:Int)*(-1)).toNat]?).toArray=xs.toList.reverse.toArray:=by
 let e:(eI xs.size).filterMap (λ(m:Nat)=>xs[((xs.size)-1+(m:Int)*(-1)).toNat]?)=((eI xs.size).map λk=>xs.size-1-k).filterMap (xs[·]?):=by
  rw[Je];let a:∀l:I Nat,(∀m∈l,m<xs.size)->l.filterMap (λ(m:Nat)=>xs[((xs.size)-1+(m:Int)*(-1)).toNat]?)=l.filterMap ((xs[·]?)∘λk=>xs.size-1-k):=by
   intro l
   induction l with |nil=>intro _;rfl|cons m r b=>
    intro h;let hm:=h m (.head _);let e1:((xs.size)-1+(m:Int)*(-1)).toNat=xs.size-1-m:=by ext
    rw[RW,b λk f=>h k (.tail _ f),e1];rfl
  show a _ λm hm=>js.mp hm
 rw[e,PySem.W.krv_range,List.filterMap_reverse,PySem.W.krv_all]
section
def tM{n:Nat}(f:s.heap.IsSliceOf C .none .none o)(e:rk o (G (-1)))(h:Q ((n)-1,-1,n) s):wpAny (model prog w) A (e?.Slice.sliceApplied (.ref C) (pure (n))) Q E s:=by let(i,a,g,b):=id f;show bY (bY (l_ a b (x:=.none) W (bY (l_ a b (x:=.none) W (bY (l_ a b (x:=o) W (ew ?_)))))));show bY (rB e ?_);show wpAny _ _ (match e?.Slice.sliceAdjust CL CL (-1) _ with|(lo,j)=>pure (lo,(-1),e?.Slice.slicePlaces lo j (-1))) _ _ s;rw[agC n];show wpAny _ _ (pure _) _ _ s;rw[afi];show ew h
def k_(a:IsTup s.heap t items)(i:s.heap.IsSliceOf o .none .none C)(j:rk C (G (-1)))(h:Q (.ref s.heap.objs.size) {s with heap:=s.heap.push {cls:=.type "tuple",data:=.seq items.toList.reverse.toArray}})(c:items.size<=eg):wpAny (model prog w) A (getItem (.ref t) (.ref o)) Q E s:=by
 let g:sizeOk (.seq items.toList.reverse.toArray):=by show items.toList.reverse.toArray.size<=eg;rw[lE,C4];show c
 let(l,b,e,m):=id i;let f:s.TypeIs (.ref o) _:=#[l,b,e];ext getItem
 try specialize qi ?_
 show bY (IZ a.typeIs () ?_);show bY (Em a.typeIs D? (vr D? a.typeIs entry_tuple_getitem ?_ (args_tuple_getitem _ _)))
 show wpAny _ _ (e?.Tuple.tupleItemsOf _>>=_) _ _ s;show bY (tupleItemsOf_ a ?_);show bY (N? f ?_);show bY (tM i j ?_);show wpAny _ _ (if(((items.size:Int)-1)==0&&(-1)==1&&items.size==items.size)=u then _ else _) _ _ s;rw[aE (by rw[show((-1)==1)=M from by decide,O3];show ml),N6]
 first |show bY (vo (ew #[_,W,ew h]) g)|show bY _|show bY _|show bY _
end
end HT
namespace L2
open PySem PySem.Spec PyProof.Rows
def akg(h:b_ xs o):b_ xs.reverse o.reverse:=by induction h with |nil=>show .nil|cons h t a=>rw[R?,R?];show a.append (.cons h .nil)
def Z4(K:lD)(g:TE)(f:TO):TE:=λe H Q=>g e H λx h=>f e h λo b=>o=G (-1)/\∃a xs,x=.ref a/\hY K b a xs/\∀p,b p=CL->Q (.ref p) (bW b p (.tup xs.reverse))
def W8{st:c_}(F:PE X e te)(E:PO X (cL st) U):PE X (.Subscript e (.Slice CL CL (cL st) p2) pos) (Z4 X.K te U):=by intro f s i H Q I h;show Subscript_ (de (F f s i H _ I h) λv u a=>?_);let(x,N,L,w,z):=a;show wpAny_Slice ?_;show ew ?_;show ew (de (E f u i N _ L z) λt m a=>?_);let(o,P,J,A,e3,a,xs,O,C,y):=a;subst e3 O;ext w;let l:a! X f i P {m with heap:=m.heap.push {cls:=.type "slice",data:=.fields #v[.none,.none,t]}}:=J.kept λb B q=>bg _ q;let(j,r,p,n):=l.tuple C;let g:j.toArray.size=xs.length:=r.length.symm;show tail_any p.typeIs D?.lookup ?_ (by with_unfolding_all rfl);show HT.k_ p (Heap.IsSliceOf.new ..) A ?_ (by rw[g];show n);show#[.ref _,_,l.laid (λb B q=>bg _ q) (dc _) ?_,W,y _ (l.hok.fresh (dc _))];show#[by rw[C4];show n,_,akg r,qf.new _ _]
end L2
namespace L4
open PySem PySem.Spec PyProof.Rows L2 L3
def OI(h:Heap)(e:aT)(c:a_)(d:bb aT)(a:a_)(hd:bb aT):Prop:=∃b fs,h.get? e=G b/\b.cls=c/\b.dict=d/\b.data=.fields fs/\fs[0]?=G a/\match hd with |none=>fs[1]?=G .none|some T=>fs[1]?=G (.ref T)/\T≠e/\∃g f,h.get? T=G g/\g.data=.fields f/\f[3]?=G .none
structure K?(l)(e)(hd)(h h':Heap):Prop where
 keep:∀b o,h.get? b=G o->b≠e->hd≠G b->b∉Bg l->h'.get? b=G o
 slot:∀b o,h.get? b=G o->b≠e->hd≠G b->∃sl,h'.get? b=G {o with slots:=sl}here:∀b o,h.get? b=G o->∃o',h'.get? b=G o'
section
variable{s:d_}
def nc(H:A.frames=cL (env::outer))(y:s.heap.FunFrames base (env::outer))(G:env.frame=cL L)(B:s.heap.get? e=cL U)(p:U.data=.fields fs)(m:1<fs.size)(I:fs[0]?=cL a0)(k:∀D T,s.heap.objs.size<=T->OI D e U.cls U.dict a0 (cL T)->K? (env::outer) e CL s.heap D->Q ⟨⟩ {s with heap:=D}):wpAny O A (frameOf env>>=λfr=>entryPlaceOf L nx>>=λpl=>EntryCells.newEntry hv fr .none (rawInt L) .none pl>>=λb=>setField (.ref e) 1 b) (λ_ R=>wpAny O A (setFlight (.ref e) CL) Q E R) E s:=by
 let j:e∉(env::outer).filterMap _:=λz=>by let(_,o,q,n):=y.mem z;rw[B]at q;ext q;show n fs p
 show bY (wpAny_frameOf_fun H y G λa S=>?_);show bY (wpAny_entryPlaceOf λpl P=>?_);show bY (vo ?_ (P.sizeOk5 _ _ _ _ _));let w:=(S.2.1 e j).trans B;generalize X:({cls:=.type _,dict:=CL,data:=.fields _}:Obj)=N;let g:N.data=.fields ([hv,.ref L,.none,rawInt L,.none]++(if pl.isEmpty then ey 6 a_.none else pl)).toArray:=by rw[<-X]
 let v:=bg N w;show xR v p m ?_;let l:=n? (br w);let r:=ck p (·.setIfInBounds 1 (a_.ref a.objs.size));let i:=b7 _ v (cv r)
 let t:=(b5 _ (Obj.mapFields (·.setIfInBounds 1 (a_.ref a.objs.size))) l.symm).trans (b4 a (cv g))
 show bY (l_ i r (x:=.ref a.objs.size) (by simp[m]) ?_);let C:3<([hv,.ref L,.none,rawInt L,.none]++(if pl.isEmpty then ey 6 a_.none else pl)).toArray.size:=by simp only[lE,jl,j_,C!];ext
 show xR t g C ?_;let u:=b5 ((a.push N).update e (Obj.mapFields (·.setIfInBounds 1 (a_.ref a.objs.size)))) (Obj.mapFields (·.setIfInBounds 3 ((CL).elim a_.none rawInt))) l;let afT:∀b o,b≠e->a.get? b=cL o->(((a.push N).update e (Obj.mapFields (·.setIfInBounds 1 (a_.ref a.objs.size)))).update _ (Obj.mapFields (·.setIfInBounds 3 ((CL).elim a_.none λf=>rawInt f)))).get? b=cL o:=λb o ne q=>by rw[b5 _ _ (n? (br q)),b5 _ _ ne.symm];show bg N q
 show k _ _ (by rw[S.1];show dc _) #[_,_,u.trans i,Obj.cls_mapFields _ _,?_,r,?_,?_,l,_,_,(b7 (Obj.mapFields (·.setIfInBounds 3 ((CL).elim a_.none λf=>rawInt f))) t (cv (ck g _))),ck g _,?_] #[λb o q ne _ F=>afT b o ne ((S.2.1 b F).trans q),λb o q ne _=>?_,λb o q=>?_]
 .cases U with|mk c d J h=>ext J<;>rfl
 .rw[Array.getElem?_setIfInBounds_ne ()];show I
 .simp[m]
 .rfl
 .let(h,z):=S.2.2 b o q;show#[h,afT b _ ne z]
 .by_cases ne:b=e
  .subst ne;show#[_,u.trans i]
  .let(h,z):=S.2.2 b o q;show#[_,afT b _ ne z]
def ajR(t:A.frames=cL (env::outer))(p:s.heap.FunFrames base (env::outer))(f:env.frame=cL L)(F:OI s.heap e c U a0 hd)(k:∀x T,s.heap.objs.size<=T->OI x e c U a0 (cL T)->K? (env::outer) e hd s.heap x->Q ⟨⟩ {s with heap:=x}):wpAny O A (leaving env (.ref e)) Q E s:=by let(J,fs,q,G,C,d,u,r):=F;subst G C;cases hd with |none=>unfold leaving noteFrame;simp only[f];show bY (bY (l_ q d r (nc t p f q d (y'.mp r).1 u k)))|some T=>
  let(r,w,N,v,a,dT,l):=r;unfold leaving noteFrame;simp only[f];show bY (bY (l_ q d r ?_));show bY (l_ a dT l ?_);show bY (xR a dT (y'.mp l).1 ?_);let oth:∀b,b≠T->(s.heap.update T (Obj.mapFields (·.setIfInBounds 3 a_.none))).get? b=s.heap.get? b:=λb ne=>b5 _ _ ne.symm;let j:∀b o,s.heap.get? b=cL o->(∀P,o.data≠.fields P)->b≠T:=λb o z n y=>by rw[y,a]at z;ext z;show n v dT
  show nc t (p.of_keeps λb o z n=>#[o,(oth b (j b o z n)).trans z,W]) f ((oth e w.symm).trans q) d (y'.mp r).1 u λx H m I g=>k x H (by rw[Heap.size_after_update]at m;show m) I #[λb o z i h B=>?_,λb o z i h=>?_,λb o z=>?_]
  .show g.keep b o ((oth b λy=>h (by rw[y])).trans z) i () B
  .show g.slot b o ((oth b λy=>h (by rw[y])).trans z) i ()
  .by_cases y:b=T
   .subst y;show g.here b _ (b7 (Obj.mapFields (·.setIfInBounds 3 a_.none)) a (cv (ck dT _)))
   .show g.here b o ((oth b y).trans z)
end
def K?.hok(L:K? l e hd h h')(m:jo P w H h)(ne:H e=CL)(i:∀T,hd=G T->H T=CL)(j:∀b∈Bg l,H b=CL):jo P w H h':=λb u q=>by
 let free:∀c v,H c=G v->c≠e/\hd≠G c/\c∉Bg l:=λc v z=>#[(λy=>by simp_all),(λy=>by rw[i c y]at z;simp_all),(λy=>by rw[j c y]at z;simp_all)];show(m b u q).afT (λc v n z=>?_) (λ_ z=>z) λ_ _ z=>z;rcases n with y|y
 .rw[y]at z⊢;let(g,f,a):=free b u q;show L.keep b v z g f a
 .let(g,f,a):=free c _ y;show L.keep c v z g f a
def pZ(P:m4)(w:k?):TB:=λa H s E x b=>∃e c g a0 T f,x=.ref e/\s.heap.get? e=CL/\s.heap.get? T=CL/\OI b.heap e c g a0 (G T)/\f e=CL/\f T=CL/\b.os=s.os/\AllBare b.gens/\Un (Bg a) [] H f s.heap b.heap/\jo P w f b.heap/\E c g f
def S5{K:lD}{m:L2.St}(I:L2.a! (jz (pZ P w) P w K mg base N qual scope f cd A outer s0 H0 E) pins m H s)(F:OI s.heap e c U a0 hd)(G:s0.heap.get? e=CL)(v:∀T,hd=cL T->s0.heap.get? T=CL)(ne:H e=CL)(t:∀T,hd=cL T->H T=CL)(q:E c U H):(jz (pZ P w) P w K mg base N qual scope f cd A outer s0 H0 E).xe (.ref e) s:=by
 let O:=I.ok.frames;let M:=I.stack;show ajR O M W F λS T l Q L=>?_;let u:=L.hok I.hok ne t I.agi;let J:H T=CL:=I.hok.fresh l;let i:∀b o,s0.heap.get? b=cL o->b<s0.heap.objs.size:=λb o z=>br z;let a:∀b o,s0.heap.get? b=cL o->b≠e/\hd≠cL b:=λb o z=>#[(λy=>by simp_all),(λy=>by rw[v b y]at z;simp_all)];let sz:=I.sz;show#[e,c,U,a0,T,H,W,G,Heap.get?_none_of_le (la sz l),Q,ne,J,I.os,I.bare,?_,u,q];let B:=I.base;show#[λb o z n j _=>?_,λb o z n C _=>?_,λb o z n _=>?_,λb o z _=>?_,B.agU,B.agB,B.agS]
 .let g:=B.keep b o z n j (λy=>nomatch y)
  show L.keep b o g (a b o z).1 (a b o z).2 λy=>?_;rcases hX.mp (I.afU b y)with y|y
  .show a7 (i b o z) (by rw[y];show qT _)
  .show j y
 .let(R,g):=B.slot b o z n C (λy=>nomatch y);let(h,p):=L.slot b _ g (a b o z).1 (a b o z).2;show#[h,p]
 .show B.free b o z n (λy=>nomatch y)
 .let(r,g):=B.there b o z (λy=>nomatch y);show L.here b r g
def Mw{K:lD}:eu (pZ P w) (jz (pZ P w) P w K C base N qual scope f cd A outer s0 J E) E:=by
 rintro g j H s x m I ⟨e,c,B,p,T,r,rfl,le,v,F,ne,t,os,bare,un,hok,q⟩;let i:=I.ajK os un hok bare (λb z=>nomatch z);let a:∀b,s.heap.get? b=CL->s0.heap.get? b=CL:=λb z=>by cases y:s0.heap.get? b with|none=>rfl|some o=>let(n,l):=I.base.there b o y (λy=>nomatch y);simp_all
 show S5 i F (a e le) (λh z=>by ext z;show a T v) ne (λh z=>by ext z;show t) q
def WQ(x:eH P w H h a o):∃b,h.get? a=G b:=by cases o with|lst xs=>let(_,_,_,_,e):=x;show#[_,e]|tup xs=>let(_,_,_,b,e,_):=x;show#[b,e]|dK g|dT g=>let(_,_,_,_,o,_,_,e,_):=x;show#[o,e]|set S n=>let(o,_,_,_,e,_):=x;show#[o,e]|ins C m fs=>let(_,_,_,e,_):=x;show#[_,e]|own y=>show x|xd fs=>let(_,(o,_,_,e,_),_):=x;show#[o,e]|rng lo l=>let(_,_,_,e):=x;show#[_,e]|frz b u=>show#[b,x.1]|tbl j|met f y=>show#[_,x]|ext i|exw i=>show x.2.1
def alf(k:jo P w H h)(n:h.get? a=CL):H a=CL:=by cases q:H a with |none=>rfl|some o=>let(b,z):=WQ (k a o q);simp_all
def XM{K:lD}(X:K.In h)(q:x_ K C bm J=u):∃d N nm s bs c sn sub t col dd k0 k1 k2 k3 k5 k,h.get? C=G (excClassObj nm s C N bs d c sn sub t col dd k0 k1 k2 k3 k5 J)/\h.Ns N k/\k "__init__"=CL/\OwnTail h bm d:=by
 unfold x_ at q;split at q
 .rename_i p g b a
  split at q
  .rename_i r o n m l j f i e es
   simp only[c!,beq_iff_eq,z6]at q;let(((((e1,e2),e3),e4),e5),e6):=q;subst e1 e2;ext g;dsimp only at e e3 e5 e6;subst e e3;obtain rfl:b=#v[n,m,l,j,G (.builtin f),i]:=by ext b;simp only at es;rw[es]
   show#[_,_,_,_,_,_,_,_,_,_,_,_,_,_,_,_,_,X _ _ a,.of_isNs (PySem.W.isNs_of_in X e5),PySem.W.nsMap_none_of_in X e5 e6,PySem.W.tail_of_in X e4]
  .ext q
 .ext q
def MM(C:aT)(E:XK)(c:TA):TS:=λ_ a H=>c a H λe b=>e.length<=eg/\E (.ref C) CL b
def alj{K:lD}(Q:x_ K C bm nid=Ld)(Fn:ExcBaseFacts Bn nid inN bmN)(l:bm.contains (.type Bn)=Ld)(u:ExcBaseFacts B ayP ini bm)(O:Gl (jz (pZ P w) P w K mg base N qual scope f cd A outer s0 H0 E) x)(hm:mg x=cL (.ref C))(c:PA (jz (pZ P w) P w K mg base N qual scope f cd A outer s0 H0 E) (e0::es) ta)(j:(x==("__debug__"))=fg:=by decide)(p:e_ (e0::es) (jz (pZ P w) P w K mg base N qual scope f cd A outer s0 H0 E).env=(fg,eval e0 (jz (pZ P w) P w K mg base N qual scope f cd A outer s0 H0 E).env)::e_ es (jz (pZ P w) P w K mg base N qual scope f cd A outer s0 H0 E).env:=by rfl)(i:(backTo aen (e_ es (jz (pZ P w) P w K mg base N qual scope f cd A outer s0 H0 E).env)).any (·.1)=fg:=by rfl):PS (jz (pZ P w) P w K mg base N qual scope f cd A outer s0 H0 E) (.Raise (cL (.Call (.Name x np) (e0::es) [] aen)) CL pos) (MM C E ta):=by
 intro b s v H D I h;let(U,R,nm,G,bs,hdct,sn,sub,ab,col,dd,k0,k1,k2,k3,k5,Y,L,J,M,T):=XM I.ok.mod.kin Q;show wpAny_Raise_call_subU (nm:=nm) (q:=G) (N:=R) (bs:=bs) (hdct:=hdct) (sn:=sn) (sub:=sub) (ab:=ab) (col:=col) (dd:=dd) (k0:=k0) (k1:=k1) (k2:=k2) (k3:=k3) (k5:=k5) Fn l u (T.hasType u.hasBase) (I.ok.hd W) (by rw[p];show(Q_ _).trans i) M (pG I O hm #[W,?_] j)
 let go:=c aen b s v H _ I h;rw[p]at go⊢;show Calls.evalArgs_plain (de go λS F a=>?_);let(vs,H1,a,r,q):=a;show#[W,by rw[<-r.length];show q.1,a.bk _ _ L,J.keeps a.bk,T.keeps a.bk,λZ m e=>?_];let(t,y,_,_):=e.there;let g:s0.heap.get? m=CL:=by cases z:s0.heap.get? m with|none=>rfl|some o=>let(X,n):=a.base.there m o z (λy=>nomatch y);rw[e.new]at n;ext n
 show S5 (hd:=CL) (a.kept (t':=F.toks) e.keeps) #[_,_,y,W,W,W,W,W] g (λT z=>nomatch z) (alf a.hok e.new) (λT z=>nomatch z) q.2
section
variable{s:d_}
def Rf(u:A.frames=cL (env::outer))(t:s.heap.FunFrames base (env::outer))(g:env.frame=cL L)(F:OI s.heap e c U a0 hd)(k:∀x T,s.heap.objs.size<=T->OI x e c U a0 (cL T)->K? (env::outer) e hd s.heap x->Q ⟨⟩ {s with heap:=x}):wpAny P A (noteFrame (.ref e) env) (λ_ s2=>wpAny P A (setFlight (.ref e) CL) Q E s2) E s:=by let(N,fs,q,H,G,d,v,r):=F;subst H G;cases hd with |none=>ext noteFrame;simp only[g];show bY (l_ q d r ?_);show nc u t g q d (y'.mp r).1 v k|some T=>
  let(r,B,O,w,f,dT,m):=r;ext noteFrame;simp only[g];show bY (l_ q d r ?_);show bY (l_ f dT m ?_);show bY (xR f dT (y'.mp m).1 ?_);let oth:∀b,b≠T->(s.heap.update T (Obj.mapFields (·.setIfInBounds 3 a_.none))).get? b=s.heap.get? b:=λb ne=>b5 _ _ ne.symm;let a:=b7 (Obj.mapFields (·.setIfInBounds 3 a_.none)) f (cv (ck dT _));let l:∀b o,s.heap.get? b=cL o->(∀R,o.data≠.fields R)->b≠T:=λb o z n y=>by rw[y,f]at z;ext z;show n w dT
  show nc u (t.of_keeps λb o z n=>#[o,(oth b (l b o z n)).trans z,W]) g ((oth e B.symm).trans q) d (y'.mp r).1 v λx I p J h=>k x I (by rw[Heap.size_after_update]at p;show p) J #[λb o z j i C=>?_,λb o z j i=>?_,λb o z=>?_]
  .show h.keep b o ((oth b λy=>i (by rw[y])).trans z) j () C
  .show h.slot b o ((oth b λy=>i (by rw[y])).trans z) j ()
  .by_cases y:b=T
   .subst y;show h.here b _ a
   .show h.here b o ((oth b y).trans z)
def U4(F:OI s.heap e c C a0 (G T))(k:∀w,OI w e c C a0 (G T)->(∀b,b≠T->w.get? b=s.heap.get? b)->(∃o,w.get? T=G o)->Q ⟨⟩ {s with heap:=w}):wpAny v A (setFlight (.ref e) CL) Q E s:=by let(l,fs,q,n,m,d,p,r,i,u,t,h,dT,j):=F;show bY (l_ q d r ?_);let g:=(y'.mp j).1;show xR h dT g ?_;let oth:∀b,b≠T->(s.heap.update T (Obj.mapFields (·.setIfInBounds 3 ((CL).elim a_.none λf=>rawInt f)))).get? b=s.heap.get? b:=λb ne=>b5 _ _ ne.symm;let a:=b7 (Obj.mapFields (·.setIfInBounds 3 ((CL).elim a_.none λf=>rawInt f))) h (cv (ck dT _));show k _ #[l,fs,(oth e i.symm).trans q,n,m,d,p,r,i,_,_,a,ck dT _,?_] oth #[_,a];rw[Array.getElem?_setIfInBounds_self_of_lt g];rfl
end
section
variable{Z:L2.St}
def Ch(I:L2.a! X [] Z H s)(S:aT->Prop)(C:X.ex=[])(t:∀p∈X.pn,¬S p.1)(keep:∀b o,s.heap.get? b=cL o->¬S b->b∉Bg X.stack->h'.get? b=cL o)(slot:∀b o,s.heap.get? b=cL o->¬S b->∃d,h'.get? b=cL {o with slots:=d})(h:∀b o,s.heap.get? b=cL o->∃k,h'.get? b=cL k)(N:∀b,S b->X.s₀.heap.get? b=CL)(J:¬S X.env.locals)(M:∀x c,X.env.cells.lookup x=cL c->¬S c)(L:∀b,S b->H b=CL):L2.a! X [] Z H {s with heap:=h'}:=by
 let F:∀b o,X.s₀.heap.get? b=cL o->¬S b:=λb o z y=>by rw[N b y]at z;ext z
 let g:∀b,b∉X.ex:=λb z=>by rw[C]at z;ext z
 let B:=I.base;let a:∀x c,X.env.cells.lookup x=cL c->∀v,s.heap.IsCell c v->h'.IsCell c v:=λx c z v#[o,A,E]=>by let(d,q):=slot c o A (M x c z);show#[_,q,E]
 show#[I.ok,I.os,I.bare,#[λb o z n f _=>?_,λb o z n P _=>?_,λb o z n x=>B.free b o z n x,λb o z x=>?_,B.agU,B.agB,B.agS],?_,λx c z=>?_,I.free,I.aet,λp w=>?_,λb u q=>?_,I.len]
 .let e:=B.keep b o z n f (g b)
  show keep b o e (F b o z) λy=>?_;rcases hX.mp (I.afU b y)with y|y
  .rw[y]at z;show a7 (br z) (Nat.not_lt_of_le I.ok.above)
  .show f y
 .let(d,e):=B.slot b o z n P (g b);let(j,G):=slot b _ e (F b o z);show#[j,G]
 .let(k,e):=B.there b o z x;show h b k e
 .let(m,hn,O):=I.loc
  let(o,es,R,A,E,r):=hn;let(d,q):=slot _ o A J;show#[m,#[_,es,R,q,E,r],λi x v Y U T=>?_];let(u,rv,l):=O i x v Y U T;show#[u,rv,?_];rcases l with l|⟨kd,c,z,y⟩
  .show .inl l
  .show .inr #[kd,c,z,a x c z _ y]
 .let(v,y):=I.cell x c z;show#[v,a x c z v y]
 .let(z,n,ne,f,dd):=I.pin p w
  rw[n9]at w;show#[keep p.1 p.2 z (t p w) (λy=>?_),n,ne,f,dd];rcases hX.mp (I.afU _ y)with y|y
  .show ne y
  .show f y
 .let free:∀c v,H c=cL v->¬S c/\c∉Bg _:=λc v z=>#[(λy=>by rw[L c y]at z;ext z),(λy=>by rw[I.agi c y]at z;ext z)]
  show(I.hok b u q).afT (λc v Q z=>?_) (λ_ z=>z) λ_ _ z=>z;rcases Q with y|y
  .rw[y]at z⊢;show keep b v z (free b u q).1 (free b u q).2
  .show keep c v z (free c _ y).1 (free c _ y).2
end
section
variable{Z:OsState}
def MW(l:h.get? C=G (excClassObj n1 q1 C N1 b1 m1 d1 s1 u1 a1 c1 x1 i0 i1 i2 i3 i5 id1))(b:h.get? U=G (excClassObj n2 q2 U N2 b2 J d2 s2 u2 a2 c2 x2 j0 j1 j2 j3 j5 id2))(m:h.get? e=G ob)(i:ob.cls=.ref C)(j:J.contains (.type "BaseException")=u)(hm:(a_.ref C::m1).contains (.ref U)=u)(f:Q u #[h,g,d,t,Z]):wpAny o A (excMatches (.ref e) (.ref U)) Q E #[h,g,d,t,Z]:=by
 let a:(a_.ref U::J).contains (.type "BaseException")=u:=by rw[K0,j,B8]
 let n:=tc_notTuple
 repeat(first|(with_reducible rw[i])|specialize wpAny_loadPart_at b ?_|(specialize Ik b ?_;rw[a])|(specialize Ik l ?_;rw[hm])|wp_step)
 show f
end
abbrev Cx.marked(X:Cx)(e:aT):Cx:={X with A:=X.A.mark (G (.ref e)),calm:=M,xe:=λ_ _=>False}
section
variable{X:Cx}{Z:L2.St}{H:Hp}{s:d_}
def wC(I:L2.a! X [] Z H s)(e):L2.a! (Cx.marked X e) [] Z H s:=#[#[I.ok.mod,I.ok.kind,I.ok.glob,I.ok.blt,I.ok.above,I.ok.inj,I.ok.has,I.ok.cab,(nofun),I.ok.frames,I.ok.stk,I.ok.exf,I.ok.bs,I.ok.bsz,I.ok.ahG,I.ok.ahH,I.ok.afw,I.ok.frf],I.os,I.bare,I.base,I.loc,I.cell,I.free,I.aet,I.pin,I.hok,I.len]
def wQ(ok:X.Ok)(I:L2.a! (Cx.marked X e) [] Z H s):L2.a! X [] Z H s:=#[ok,I.os,I.bare,I.base,I.loc,I.cell,I.free,I.aet,I.pin,I.hok,I.len]
end
def Bq(K:lD)(C:aT)(m:I a_):Prop:=∃nm q N bs hd sn sub a col dd k0 k1 k2 k3 k5 id,K.lookup C=G (excClassObj nm q C N bs m hd sn sub a col dd k0 k1 k2 k3 k5 id)
structure p?(X:Cx)(a):Prop where
 n0:X.s₀.heap.get? a=CL
 nL:a≠X.env.locals
 nC:∀y c,X.env.cells.lookup y=G c->c≠a
 nP:∀p∈X.pn,p.1≠a
def Nw(X:Cx)(d:XK):a_->d_->Prop:=λx a=>∃b H1 e c f a0 T,x=.ref e/\L2.a! X [] b H1 a/\OI a.heap e c f a0 (G T)/\p? X e/\p? X T/\H1 e=CL/\H1 T=CL/\d c f H1
def wI(I:L2.a! X pins σ H s)(e:X.ex=[])(n:s.heap.get? a=CL):p? X a:=by
 let ne:∀b o,s.heap.get? b=G o->b≠a:=λb o z y=>by simp_all
 show#[?_,?_,λy c z=>?_,λp h=>?_]
 .cases z:X.s₀.heap.get? a with |none=>rfl|some o=>let(g,y):=I.base.there a o z (by rw[e];simp);show a7 W (ne a g y)
 .let(m,(o,_,_,z,_),_):=I.loc;show(ne _ o z).symm
 .let(v,o,f,_):=I.cell y c z;show ne c o f
 .show ne _ _ (I.pin p (rR _ h)).1
def adL{X:Cx}(a:X.ex=[]):eu (pZ X.prog X.w) (X.afd (Nw X C)) C:=by rintro g h H s x l I ⟨e,c,o,i,T,j,rfl,le,n,F,ne,m,os,bare,un,hok,q⟩;let f:=I.aeu;show#[h,j,e,c,o,i,T,W,(f.ajK os un hok bare (λb z=>nomatch z)).afG (λp z=>nomatch z),F,wI f a le,wI f a n,ne,m,q]
abbrev Cx.pinned(X:Cx)(l:I (aT×Obj)):Cx:={X with pn:=l}
def Ql(I:L2.a! X pins σ H s):L2.a! (Cx.pinned X (X.pn++pins)) [] σ H s:=#[#[I.ok.mod,I.ok.kind,I.ok.glob,I.ok.blt,I.ok.above,I.ok.inj,I.ok.has,I.ok.cab,I.ok.hd,I.ok.frames,I.ok.stk,I.ok.exf,I.ok.bs,I.ok.bsz,I.ok.ahG,I.ok.ahH,I.ok.afw,I.ok.frf],I.os,I.bare,I.base,I.loc,I.cell,I.free,I.aet,(λp a=>I.pin p (by rw[n9]at a;show a)),I.hok,I.len]
def kr(ok:X.Ok)(I:L2.a! (Cx.pinned X (X.pn++pins)) [] σ H s):L2.a! X pins σ H s:=#[ok,I.os,I.bare,I.base,I.loc,I.cell,I.free,I.aet,(λp a=>I.pin p (by rw[n9];show a)),I.hok,I.len]
end L4
namespace L4
open PySem PySem.Spec L2 L3
def okE(F:l! K x qual st f fd)(S:qz N ps (aK st))(d:ps.length=n)(hm:N.length=m)(y:FF=bL m g)(i:∀(c)(A)(outer)(s)(H)(E),ik k (A.deeper (z_ qual (aK st) s.heap.objs.size f c))->∃t,nh (jz (pZ P w) P w K mg base N qual (aK st) f c A outer s H E) (eX st) t/\SO K E t g):ek P w K mg base (pZ P w) (k+1) f fd ps (yC K n FF):=by subst y hm;let(M,L,kV,G,J,T,c,ct,l,0,o,b):=F.ex;show Ng o b S (λY H Q E h=>h.1.trans d.symm) λA outer s H Y Q E u a=>?_;let(t,p,r):=i c A outer s H E u;let(O,B,ds,v,C,h):=a;show#[t,p,r B H B _ H _ _ (Cy v C) (WR.imp (WR.bind h) λz q=>?_)];cases z with |rt Z=>show q|nx X=>show λU j I e R=>q .non I R.same .non|bk X|ct X=>show q.elim
def Xe(P:m4)(w:k?)(K:lD)(b:Str->bb a_)(base:Heap)(k:Nat)(x:Str)(a:I Str)(n:Nat)(F:FN):Prop:=∃f fd,ek P w K b base (pZ P w) k f fd a (yC K n F)/\hI K fd a []/\t! K (.ref f)=u/\b x=G (.ref f)
def Gv{p a:Pos}(C:Xe X.prog X.w X.K X.mg X.base k x J n F)(l:eu (pZ X.prog X.w) X E)(o:ik j X.A)(c:PA X (e::es) t)(h:k<=j:=by decide)(q:Gl X x:=by rfl)(i:(x==("__debug__"))=M:=by decide)(r:e_ (e::es) X.env=(M,eval e X.env)::e_ es X.env:=by rfl)(g:(backTo a (e_ es X.env)).any (·.1)=M:=by rfl):PE X (.Call (.Name x p) (e::es) [] a) (sj (yC X.K n F) [] E t):=by let(f,u,F,b,kp,m):=C;show Gz F (o.mono h) q m kp b .nil l c i r g
def tG(c:Str)(d:FA):FS:=λb=>(d b).bind λa=>if a.1.length<=1000 then .er #[c,[]]else .bad
def MH(i:iN K gE c=G (G (.ref C)))(k:AO K E J U):SO K E (MM C E J) (tG c U):=by
 intro B m O g H o D R w;show k B m O g H o _ R (w.bind.imp λa b n q l e1 j h=>?_);by_cases e:a.1.length<=1000
 .rw[ax e]at b;show#[by rw[h.length];show xb e,b _ CL l j.same #[#[C,W,i],[],(λp z=>nomatch z),λf d z=>nomatch z]]
 .rw[aE e]at b;show b.elim
end L4
namespace L4
open PySem PySem.Spec PySem.W PyProof.Rows L2 L3
section
variable{Z:OsState}{K:lD}
structure aqY(K)(C)(m):Prop where
 cl:Bq K C m
 be:m.contains (.type "BaseException")=u
 ga:findIn K (.ref C) "__getattribute__"=G (G (.builtin "BaseException.__getattribute__"))gt:findIn K (.ref C) "__getattr__"=G CL
 cs:findIn K (.ref C) "__class__"=G (G (.builtin "object.__class__"))ob:mroIn K C (.type "object")=G u
end
end L4
namespace L3
open PySem PySem.Spec PyProof.Rows L2
def ED:D->bb Int->bb Int->bb RV |.list ds,lo,a=>G (.ow (ut ds lo a))|.tuple ds,lo,a=>G (.fz (.tuple (ut ds lo a)))|_,_,_=>CL
section
variable{K:lD}
end
end L3
namespace L9
open PySem PySem.W PyProof.Rows Builtin Builtin.ObjectAttr
abbrev Ee:I a_:=[.type "ValueError",.type "Exception",.type "BaseException",.type "object"]
end L9
namespace L9
open PySem PySem.Spec PyProof.Rows L2
def DZ(v:V):Prop:=v=.non\/∃i,v=.int i/\i.natAbs.log2<1920
def Lr(C e:aT):Heap->Prop:=λh=>∃fs t0,h.get? e=G #[.ref C,CL,.fields fs,#v[]]/\fs[0]?=G (.ref t0)/\fs[1]?=G .none
def Lu(C e p:aT):Heap->Prop:=λh=>∃fs a0,h.get? e=G #[.ref C,G p,.fields fs,#v[]]/\fs[0]?=G a0/\fs[1]?=G .none
structure XC(K)(C B fI):Prop where
 obj:∃nm q N bs sn sub ab col dd k0 k1 k2 k3 k5,K.lookup C=G (excClassObj nm q C N bs (.ref B::Ee) u sn sub ab col dd k0 k1 k2 k3 k5 "ValueError.__new__")/\PySem.W.nsOkIn K N=u/\iN K N "__init__"=G (G (.ref fI))base:x_ K B Ee "ValueError.__new__"=u
 sa:p5 K (.ref C) "__setattr__"=G (G (.builtin "object.__setattr__"))
end L9
namespace L9
open PySem PySem.Spec PySem.W PyProof.Rows L2 L3 L4
def Rm(C:aT)(f:Str):Sp:=λa H Q _=>∃e v,a=[.ref e,v]/\DZ v/\H e=G (.ext (Lr C e))/\∀p,H p=CL->p≠e->Q .non (bW (bW H e (.ext (Lu C e p))) p (.xd [(f,v)]))
end L9
namespace L3
open PySem PySem.Spec PyProof.Rows L2
mutual
def EK:aS->Bool|.tuple ds=>U0 ds|.int _|.str _|.bool _|.none=>Ld|_=>fg
def U0:a8 aS->Bool|[]=>Ld|d::r=>EK d&&U0 r
end
section
variable{K:lD}
end
end L3
namespace PyProof.Rows
open PySem
section
def u9(b:h.get? a=G (seqObj "list" o.toArray n)):∃e,(sortedHeap h a o out).get? a=G (seqObj "list" out e):=by show#[_,get?_update_seq (bg _ (bg _ (get?_update_seq b (λ_=>#v[])))) _]
def tZ(f:b≠a)(e:h.get? b=G o):(sortedHeap h a C out).get? b=G o:=(b5 _ _ (cx f)).trans (bg _ (bg _ ((b5 _ _ (cx f)).trans e)))
def ag2(i:s.heap.IsTuple l C.toArray)(t:IntsAre C ns)(g:C.length<64)(h:∀(a c:Heap)(out)(e)(ms),(∀b o,s.heap.get? b=G o->a.get? b=G o)->c.get? a.objs.size=G (seqObj "list" out e)->(∀b o,a.get? b=G o->c.get? b=G o)->IntsAre out.toList ms->ms.Perm ns->ms.Pairwise (·<=·)->Q (.ref a.objs.size) {s with heap:=c}):wpAny (model prog w) A (call (.builtin "sorted") [.ref l]) Q E s:=by let(o,j,r,n,q):=i;show Calls.call_function_entry kind_sorted plain_sorted entry_sorted (args_sorted1 _) (bY (ew (bY (wpAny_collect_seq l (.inr W) j r q (λa m=>bY (HK ?_)) (by rw[lE,B_];ext)))));let f:(a.push _).get? _=G (seqObj "list" C.toArray 0):=b4 _ W;show bY (qi (vr slot_list_sort #[_,f,W] entry_list_sort (list_sort_tree f t g λout ms y v u=>#[_,W,ew #[_,W,?_]]) (args_list_sort _)));let(e,p):=u9 f;show h a _ out e ms m p (λb B z=>tZ (iF (br z)) (bg _ z)) y v u
end
end PyProof.Rows
namespace L9
open PySem PySem.Spec PyProof.Rows L2 L3
section
variable{K:lD}
def zi:lT X (.builtin "sorted") (λxs H Q=>∃(p:aT)(ns:a8 Int),xs=[.ref p]/\hY X.K H p (ns.map V.int)/\ns.length<64/\∀(l)(ms:a8 Int),H l=CL->ms.Perm ns->ms.Pairwise (·<=·)->Q (.ref l) (bW H l (.lst (ms.map V.int)))):=by
 intro b s z H xs A Q I r h;let(p,ns,0,o,y,q):=h;let(u,0,B):=iO r
 injections;subst_vars
 let(m,J,pl,C):=I.tuple o;let t:=J.length;rw[dO]at t;show ag2 pl (qI J) () λE F j e ms v w a L f n=>?_;let g:=f.length_eq;let i:=I.kept (t':=s.toks) v;show#[.ref _,_,i.laid a (dc _) ?_,W,q _ ms (i.hok.fresh (dc _)) f n];show#[?_,_,e,mG L,w];simp_all
def aa6:lT X (.builtin "sorted") (λxs H Q=>(∃(p:aT)(ns:I Int),xs=[.ref p]/\hL X.K H p (ns.map V.int)/\ns.length<64/\∀(l)(ms:I Int),H l=CL->ms.Perm ns->ms.Pairwise (·<=·)->Q (.ref l) (bW H l (.lst (ms.map V.int))))\/(∃(p:aT)(ns:I Int),xs=[.ref p]/\hY X.K H p (ns.map V.int)/\ns.length<64/\∀(l)(ms:I Int),H l=CL->ms.Perm ns->ms.Pairwise (·<=·)->Q (.ref l) (bW H l (.lst (ms.map V.int))))):=L2.lT.or adE zi
def jY:I D->bb RV |[.tuple ds]=>(match tQ ds with |some a=>if a.length<64 then G (.ow ((p8 a).map .int))else CL|none=>CL)|ds=>zc ds
def ae2:Ci K (λxs H Q=>(∃(p:aT)(ns:I Int),xs=[.ref p]/\hL K H p (ns.map V.int)/\ns.length<64/\∀(l)(ms:I Int),H l=CL->ms.Perm ns->ms.Pairwise (·<=·)->Q (.ref l) (bW H l (.lst (ms.map V.int))))\/(∃(p:aT)(ns:I Int),xs=[.ref p]/\hY K H p (ns.map V.int)/\ns.length<64/\∀(l)(ms:I Int),H l=CL->ms.Perm ns->ms.Pairwise (·<=·)->Q (.ref l) (bW H l (.lst (ms.map V.int))))) jY:=by
 intro O H xs ds r Q n f e q;unfold jY at e;split at e
 .split at e
  .rename_i ns h
   split at e
   .rename_i t
    injections;subst_vars
    cases f with|cons m j=>ext j;let(a,v,0,g,o):=OA m;rw[uA o h]at g;show .inr #[a,ns,W,g.1,t,λl ms i b gr=>?_];let e2:=pp (b.trans (gQ ns).symm) gr (gl ns);subst e2;show q.new (vW _) l i
   simp_all
  simp_all
 .show .inl (ah0 O H xs ds r Q n f e q)
def QG:ni "range"=G (.type "range"):=by left
end
end L9
namespace L9
open PySem PySem.W PyProof.Rows Builtin Builtin.ObjectAttr
open PySem.Spec L2
open L3 L4
def OC(C:aT)(f g:Str):Sp:=λa H Q _=>∃e v u,a=[.ref e,v,u]/\DZ v/\DZ u/\H e=G (.ext (Lr C e))/\∀p,H p=CL->p≠e->Q .non (bW (bW H e (.ext (Lu C e p))) p (.xd [(g,u),(f,v)]))
def Jf:D->bb RV |.tuple ds=>G (.fz (.tuple ds.reverse))|_=>CL
theorem Gk{K:lD}:∀{a:I V}{ds:I D},DVs O K H a ds->DVs O K H a.reverse ds.reverse |_,_,.nil=>.nil|_,_,.cons h t=>by simp[R?,R?];show(Gk t).append (.cons h .nil)
def V8{K:lD}(c:EO K E C J):EO K E (Z4 K C (MF (X? (rU λi=>.int (-i)) (tC (.int 1))))) (OH Jf J):=by
 intro B q O h H y Q R w;show c B q O h H y _ R (w.bind.imp λa e r x t e1 f m=>?_);let(d,j,e):=e.bR;let(L,g,e):=e.bR;let A:=kI f m j;unfold Jf at g;split at g
 .injections;subst_vars
  let(b,z,0,k1,k2):=OA A;show#[1,W,-1,W,W,b,z,W,k1.1,?_];show Fin.aiP (Gk k2) f.od (kE (rv:=.fz (.tuple _)) f λo v p e4 n l=>e o v p (e1.trans e4) n l)
 simp_all
end L9
namespace LD
open PySem PyProof.Rows L2 L3
mutual
def kd:aS->Bool|.none|.int _=>Ld|.str x=>aS.strOk x|.tuple xs=>CZ xs|_=>fg
def CZ:a8 aS->Bool|[]=>Ld|x::r=>kd x&&CZ r
end
def QW:aS->Bool |.tuple xs=>CZ xs&&decide ((aS.tuple xs).depth<=8)|_=>M
mutual
theorem Av:∀d:aS,kd d=Ld->d.canLay0=Ld|.none,_|.int _,_=>rfl|.str x,h=>by unfold aS.canLay0;unfold kd at h;exact h|.tuple xs,h=>by unfold aS.canLay0;unfold kd at h;exact Gc xs h|.bool _,h|.list _,h|.dict _,h=>by simp[kd]at h
theorem Gc:∀xs:a8 aS,CZ xs=Ld->aS.canLayAll0 xs=Ld|[],_=>rfl|x::r,h=>by unfold CZ at h;rw[c!]at h;unfold aS.canLayAll0;rw[Av x h.1,Gc r h.2];rfl
end
mutual
theorem J8:∀d e:aS,kd d=Ld->kd e=Ld->aS.eqv d e=Ld->d=e
 |.none,e,_,h,q|.int i,e,_,h,q|.str x,e,_,h,q=>by cases e<;>simp_all[kd,aS.eqv]|.tuple xs,e,g,h,q=>by cases e with|tuple a=>rw[aS.eqv]at q;unfold kd at g h;rw[GA xs a g h q]|_=>simp_all[kd,aS.eqv]
 |.bool _,_,h,_,_|.list _,_,h,_,_|.dict _,_,h,_,_=>by simp[kd]at h
theorem GA:∀xs ys:a8 aS,CZ xs=Ld->CZ ys=Ld->aS.eqvAll xs ys=Ld->xs=ys |[],[],_,_,_=>rfl|[],_::_,_,_,q|_::_,[],_,_,q=>by simp[aS.eqvAll]at q|x::xs,y::ys,g,h,q=>by unfold CZ at g h;rw[aS.eqvAll]at q;rw[c!]at g h q;rw[J8 x y g.1 h.1 q.1,GA xs ys g.2 h.2 q.2]end
def Xn[Decidable (d=e)](hd:kd d=u)(a:kd e=u):aS.eqv d e=decide (d=e):=by
 by_cases q:d=e
 .subst q;rw[a4 W];show SeqAt.eqv_refl d (Av d hd)
 .rw[a5 q]
  cases z:aS.eqv d e with |false=>rfl|true=>show a7 (J8 d e hd a z) q
def jr(h:QW d=u):kd d=u/\d.depth<=8:=by cases d with|tuple xs=>unfold QW at h;rw[c!]at h;show#[h.1,a6 h.2]|_=>simp[QW]at h
mutual
def Cs(w:k?):aS->Int |.none=>reduceHash 0xFCA86420|.int i=>hashInt i|.str x=>hashStr w x|.tuple xs=>reduceHash (e?.Tuple.tupleHashOf (u0 w xs))|_=>0
def u0(w:k?):a8 aS->a8 Int|[]=>[]|x::r=>Cs w x::u0 w r
end
mutual
def L!:aS->Nat|.tuple xs=>Sh xs+1|_=>1
def Sh:a8 aS->Nat|[]=>0|x::r=>L! x+Sh r
end
section
mutual
theorem GC:∀(d:aS)(v:a_)(as:a8 aT)(A:m3)(s:d_)(Q:Int->d_->Prop),kd d=Ld->tA s.heap v d as->A.units+d.depth<cLine->Q (Cs w d) {s with toks:=s.toks+L! d}->wpAny (model prog w) A (pyHash v) Q E s
 |.none,_,_,A,s,Q,_,r,hu,h=>by cases r;exact KL (T:="NoneType") rfl F.slot_NoneType_hash F.entry_NoneType_hash (F.args_NoneType_hash_1 _) (IX _) (.inr (by ext)) (bY (ew (bY (wpAny_mkInt (ew ⟨_,_,rfl,h⟩)))))|.int i,_,_,A,s,Q,_,r,_,h=>by cases r;exact IU h|.str x,_,_,A,s,Q,_,r,_,h=>by cases r;exact IT h|.tuple xs,_,_,A,s,Q,hk,r,hu,h=>by cases r with|@tuple a o vs n _ _ h1 h2 h3 h4=>
   refine KL (T:="tuple") ⟨_,h1,h2⟩ F.slot_tuple_hash F.entry_tuple_hash (F.args_tuple_hash_1 _) (IX _) (.inr (by ext)) ?_;show wpAny _ _ (e?.Tuple.tupleItemsOf (.ref a)>>=_) _ _ s;refine bY (wpAny_tupleItemsOf h1 h3 ?_);refine bY ?_;rw[<-JC];unfold kd at hk;refine yL xs vs.toList _ A.in1 s #v[] _ hk h4 (by simp only[aS.depth,m3.in1_units]at hu⊢;ext) λb e=>?_;show wpAny _ _ (retInt (e?.Tuple.tupleHashOf b.toList)) _ _ _;rw[e];refine bY (wpAny_mkInt (ew ⟨_,_,rfl,?_⟩));unfold Cs L! at h
   simpa[P?]using h |.bool _,_,_,_,_,_,h,_,_,_|.list _,_,_,_,_,_,h,_,_,_|.dict _,_,_,_,_,_,h,_,_,_=>by simp[kd]at h
theorem yL:∀(xs:a8 aS)(vs:a8 a_)(as:a8 aT)(A:m3)(s:d_)(b:Array Int)(Q:Array Int->d_->Prop),CZ xs=Ld->wh s.heap vs xs as->A.units+aS.depthAll xs<cLine->(∀b':Array Int,b'.toList=b.toList++u0 w xs->Q b' {s with toks:=s.toks+Sh xs})->wpAny (model prog w) A (forIn vs b λx r=>do let h<-pyHash x;pure PUnit.unit;pure (ForInStep.yield (r.push h))) Q E s
 |[],_,_,A,s,b,Q,_,x,_,h=>by cases x;exact ew (h b (by simp[u0]))|k::xs,_,_,A,s,b,Q,hk,x,hu,h=>by cases x with|cons e a=>
   unfold CZ at hk;simp only[c!,aS.depthAll]at hk hu;rw[P_];refine bY (bY (GC k _ _ A s _ hk.1 e (by ext) ?_));refine bY (ew (ew ?_));refine yL xs _ _ A _ _ Q hk.2 a (by ext) λb' f=>?_;have:=h b' (by simp[f,u0]);unfold Sh at this
   simpa[P?]using this
end
theorem B6:∀(n)(d)(v)(as)(A)(s)(Q),kd d=u->tA s.heap v d as->d.depth<=n->Q u s->wpAny (model prog w) A (eqIsQuiet n v) Q E s
 |n,.none,_,_,A,s,Q,_,r,_,h|n,.int i,_,_,A,s,Q,_,r,_,h|n,.str i,_,_,A,s,Q,_,r,_,h=>by ext r;rw[agL _ W];show ew h|0,.tuple xs,_,_,A,s,Q,t,r,q,h=>by simp only[aS.depth]at q;ext|n+1,.tuple xs,_,_,A,s,Q,t,r,q,h=>by cases r with|@tuple a o H m _ _ h1 C B z=>
   let g:s.TypeIs (.ref a) _:=#[_,h1,C];simp only[aS.depth]at q;ext eqIsQuiet;show bY (IA g F.slot_tuple_eq.lookup ?_);show bY (IG g isSubtype_tuple_tuple ?_);show bY (ra h1 B ?_);show bY ?_;rw[<-JC];show wpAny_forIn_list _ (λb r e=>r.1=CL/\e=s/\∃ys bs,CZ ys=u/\wh _ b ys bs/\aS.depthAll ys<=n) _ ?_ ?_ _ _ #[W,W,xs,_,t,z,by ext]
   .rintro v b r e ⟨f,rfl,ys,bs,k1,k2,k3⟩
    cases k2 with|@cons _ _ y p _ _ g1 g2=>unfold CZ at k1;simp only[c!,aS.depthAll]at k1 k3;show bY (B6 n y v _ A e _ k1.1 g1 () (ew #[W,W,p,_,k1.2,g2,by ext]))
   .rintro⟨l,j⟩ e ⟨f,rfl,_⟩;subst f;show ew h |_,.bool _,_,_,_,_,_,h,_,_,_|_,.list _,_,_,_,_,_,h,_,_,_|_,.dict _,_,_,_,_,_,h,_,_,_=>by simp[kd]at h
end
mutual
theorem yd{h h':Heap}{x:aT}{e:Obj}{es:Array M!}{j:Nat}(f:h.get? x=cL e)(i:e.data=.dict es j)(g:Heap.SameBut x h h'):∀(d:aS)(v:a_)(as:a8 aT),kd d=Ld->tA h v d as->tA h' v d as
 |.none,_,_,_,r=>by cases r;exact .none|.int _,_,_,_,r=>by cases r;exact .int _ _|.str _,_,_,_,r=>by cases r;exact .str _ _|.tuple xs,_,_,k,r=>by cases r with|@tuple a o vs n _ _ h1 h2 h3 h4=>
   have b:a≠x:=by rintro rfl;rw[f]at h1;cases h1;rw[i]at h3;exact nomatch h3
   unfold kd at k;exact .tuple ((g.2 a b).trans h1) h2 h3 (wj f i g xs _ _ k h4) |.bool _,_,_,h,_|.list _,_,_,h,_|.dict _,_,_,h,_=>by simp[kd]at h
theorem wj{h h':Heap}{x:aT}{a:Obj}{es:Array M!}{j:Nat}(b:h.get? x=cL a)(f:a.data=.dict es j)(e:Heap.SameBut x h h'):∀(ds:a8 aS)(vs:a8 a_)(as:a8 aT),CZ ds=Ld->wh h vs ds as->wh h' vs ds as |[],_,_,_,r=>by cases r;exact .nil|d::ds,_,_,k,r=>by cases r with|cons i g=>unfold CZ at k;rw[c!]at k;exact .cons (yd b f e d _ _ k.1 i) (wj b f e ds _ _ k.2 g)end
abbrev KD:={d:aS//QW d=u}
noncomputable instance Ex:DecidableEq KD:=λ_ _=>Classical.propDecidable _
def N8(prog)(w):HeapKind prog w KD where
 is:=λh k a=>∃as,tA h (.ref a) k.1 as
 hash:=λk=>Cs w k.1
 draws:=λk=>L! k.1
 room:=λA=>A.units+8<cLine
 inj:=λ#[_,r]#[_,f]=>Subtype.ext (tA.unique r _ _ f).1
 keeps:=λ{h l k a d o es m}#[as,r]j hd i=>#[as,yd j hd i k.1 _ _ (jr k.2).1 r]
 pyHash:=λ{A E s k a Q}g#[as,r]q=>GC k.1 _ as A s Q (jr k.2).1 r (by let:=(jr k.2).2;ext) q
 eqBool:=λ{A E s x y a b Q}g#[as,r]#[bs,f]q=>SeqAt.eqAt_reads x.1 y.1 A s _ _ as bs r f (Av _ (jr x.2).1) (Av _ (jr y.2).1) (by let:=(jr x.2).2;ext) _ w E Q (by
  haveI:Decidable (x.1=y.1):=Classical.propDecidable _
  rw[Xn (jr x.2).1 (jr y.2).1];by_cases e:x=y
  .rw[a4 e]at q;rw[a4 (dt _ e)];show q
  .rw[a5 e]at q;rw[a5 λz=>e (Subtype.ext z)];show q)
 quiet:=λ{A E s k a Q}#[as,r]q=>B6 8 k.1 _ as A s Q (jr k.2).1 r (jr k.2).2 q
def DkP(a:aT)(xs:I (KD×aT×V))(w:k?)(h:Heap):Prop:=(xs.length<=eg/\(a==rn)=M/\(xs.map (·.1)).Nodup)/\∃o es b,h.get? a=G o/\o.ExactDict/\o.data=.dict es b/\Paired (λ(x)(e)=>e.hash=Cs w x.1.1/\e.key=.ref x.2.1/\b? x.2.2 e.val) xs es.toList
abbrev DkO(a:aT)(xs:I (KD×aT×V)):HO:=.exw (DkP a xs)
abbrev PrD(O:iP)(K:lD)(H:Hp):I (KD×aT×V)->I (D×D)->Prop:=Paired λx a=>x.1.1=a.1/\L3.DV O K H (.ref x.2.1) a.1/\L3.DV O K H x.2.2 a.2
end LD
namespace L10
open PySem L2 L3
set_option genInjectivity true in
inductive AV where|fz(d:D)|rf(i:Nat)
set_option genInjectivity true in
inductive SV where|fz(d:D)|rf(i:Nat)|tp(l:I AV)
def AV.sv:AV->SV|.fz d=>.fz d|.rf i=>.rf i
set_option genInjectivity true in
inductive d? where|lst(xs:I SV)|dct(kvs:I (gY×SV))|obj(C:Str)(fs:I (Str×SV))|dd(kvs:I (D×D))|dead
abbrev cj:=I d?
abbrev dJ:=I (bb SV)
set_option genInjectivity true in
inductive RS(α:Type)where|ok(a:α)(ω:cj)|er(x:Xc)(ω:cj)|bad
def RS.bind(r:RS α)(f:α->cj->RS β):RS β:=match r with|.ok a b=>f a b|.er x b=>.er x b|.bad=>.bad
def RS.bR(b:cj):bb α->RS α|some a=>.ok a b|none=>.bad
def RS.nR(a)(b)(f:α->cj->RS β):(RS.ok a b).bind f=f a b:=W
abbrev d5:=@RS.nR
def Lv(α:I aT)(a:cj):iP:=λb=>∃(i:Nat)(c:d?),α[i]?=G b/\a[i]?=G c/\c≠d?.dead
def ow(B:iP)(α:I aT)(a:cj):iP:=λb=>B b\/Lv α a b
section
variable(O:iP)(K:lD)(H:Hp)(Z:a8 aT)
def vz(v:V):AV->Prop|.fz d=>DV O K H v d|.rf i=>∃a,Z[i]?=G a/\v=.ref a
def gd(v:V):SV->Prop |.fz d=>DV O K H v d|.rf i=>∃a,Z[i]?=G a/\v=.ref a|.tp l=>∃a xs,v=.ref a/\oN O K H a xs/\Paired (vz O K H Z) xs l
abbrev i_:I V->I SV->Prop:=Paired (gd O K H Z)
def vw(a:aT):d?->Prop |.lst xs=>∃e,H a=G (.lst e)/\i_ O K H Z e xs|.dct b=>∃ws,H a=G (.dK ws)/\Paired (λ(p)(q)=>p.1=q.1/\gd O K H Z p.2 q.2) ws b|.obj C fs=>∃f g ws,iN K gE C=G (G (.ref f))/\H a=G (.ins f g ws)/\Paired (λ(p)(q)=>p.1=q.1/\gd O K H Z p.2 q.2) ws fs|.dd b=>∃xs,H a=G (LD.DkO a xs)/\LD.PrD O K H xs b|.dead=>True
def j!(a:L2.St)(b:dJ):Prop:=a.length=b.length/\∀(i:Nat)(x),b[i]?=G (G x)->∃v,a[i]?=G (G v)/\gd O K H Z v x
end
structure ee(B:iP)(K)(H:Hp)(α:I _)(ω:cj):Prop where
 len:α.length=ω.length
 nd:∀(i j:Nat)(a),α[i]?=G a->α[j]?=G a->i=j
 bn:∀a,B a->H a≠CL
 ba:∀a,B a->∀i:Nat,α[i]?≠G a
 al:∀(i:Nat)(a),α[i]?=G a->H a≠CL
 cel:∀(i:Nat)(a)(c),α[i]?=G a->ω[i]?=G c->vw (ow B α ω) K H α a c
structure d6(α:I _)(ω)(H:Hp)(α':I _)(ω')(H':Hp):Prop where
 pre:∀(i:Nat)(a),α[i]?=G a->α'[i]?=G a
 kp:∀b o,H b=G o->¬Lv α ω b->H' b=G o
 lv:∀b,Lv α' ω' b->Lv α ω b\/H b=CL
section
variable{B:iP}{K:lD}{E:XK}{H X:Hp}{Z Y:a8 aT}
def d6.refl:d6 Z ω H Z ω H:=#[λ_ _ h=>h,λ_ _ h _=>h,λ_ h=>.inl h]
def d6.trans(a:d6 Z ω H Y ω1 X)(b:d6 Y ω1 X α2 ω2 H2):d6 Z ω H α2 ω2 H2:=by
 let e:∀b o,H b=G o->¬Lv Z ω b->¬Lv Y ω1 b:=λb o h n z=>(a.lv b z).elim n λq=>by simp_all
 show#[λi p h=>b.pre i p (a.pre i p h),λp o h n=>b.kp p o (a.kp p o h n) (e p o h n),λp h=>?_];rcases b.lv p h with h|h
 .show a.lv p h
 .cases q:H p with |none=>ext|some o=>show .inl (Classical.byContradiction λn=>?_);rw[a.kp p o q n]at h;simp_all
def d6.same(s:g_ H H'):d6 Z ω H Z ω H':=#[λ_ _ h=>h,λb o h _=>s b o h,λ_ h=>.inl h]
def d6.ev(e:d6 Z ω H α' ω' H'):Ev (ow B Z ω) H (ow B α' ω') H':=λb o h n=>#[e.kp b o h λz=>n (.inr z),λz=>z.elim (λq=>n (.inl q)) λq=>(e.lv b q).elim (λq=>n (.inr q)) λq=>by simp_all]
def vz.ev(e:Ev O H O' H')(p:∀(i:Nat)(a),Z[i]?=G a->α'[i]?=G a)(h:vz O K H Z v x):vz O' K H' α' v x:=by cases x with|fz d=>show DV.ev e h|rf i=>let(a,f,b):=h;show#[a,p i a f,b]
def gd.ev(e:Ev O H O' H')(p:∀(i:Nat)(a),Z[i]?=G a->α'[i]?=G a)(h:gd O K H Z v x):gd O' K H' α' v x:=by cases x with|fz d=>show DV.ev e h|rf i=>let(a,f,b):=h;show#[a,p i a f,b]|tp l=>let(a,xs,f,b,g):=h;show#[a,xs,f,b.ev e,Paired.aes g λ_ _ q=>q.ev e p]
def gd.evo(e:d6 Z ω H α' ω' H')(h:gd (ow B Z ω) K H Z v x):gd (ow B α' ω') K H' α' v x:=h.ev e.ev e.pre
def i_.evo(e:d6 Z ω H α' ω' H')(h:i_ (ow B Z ω) K H Z vs xs):i_ (ow B α' ω') K H' α' vs xs:=Paired.aes h λ_ _ q=>q.evo e
def j!.evo(e:d6 Z ω H α' ω' H')(h:j! (ow B Z ω) K H Z σ ρ):j! (ow B α' ω') K H' α' σ ρ:=#[h.1,λi x q=>by let(v,h1,a):=h.2 i x q;show#[v,h1,a.evo e]]
def vw.ev(e:Ev O H O' H')(p:∀(i:Nat)(a),Z[i]?=G a->α'[i]?=G a)(d:∀o,H a=G o->H' a=G o)(h:vw O K H Z a c):vw O' K H' α' a c:=by cases c with|lst xs=>let(m,f,b):=h;show#[m,d _ f,Paired.aes b λ_ _ q=>q.ev e p]|dct l=>let(ws,f,b):=h;show#[ws,d _ f,Paired.aes b λ_ _ q=>#[q.1,q.2.ev e p]]|obj C fs=>let(j,n,ws,g,f,b):=h;show#[j,n,ws,g,d _ f,Paired.aes b λ_ _ q=>#[q.1,q.2.ev e p]]|dd l=>let(xs,f,b):=h;show#[xs,d _ f,Paired.aes b λ_ _ q=>#[q.1,q.2.1.ev e,q.2.2.ev e]]|dead=>trivial
def ee.oD(s:ee B K H Z ω):qA (ow B Z ω) H:=λa h z=>z.elim (λq=>s.bn a q h) λb=>by let(i,c,q,_):=b;show s.al i a q h
def ee.owd(s:ee B K H Z ω):∀a,ow B Z ω a->H a≠CL:=λa z h=>s.oD a h z
def ee.grow(s:ee B K H Z ω)(e:g_ H H'):ee B K H' Z ω:=by let n:∀a,H a≠CL->H' a≠CL:=λa h z=>h (e.free z);show#[s.len,s.nd,λa h=>n a (s.bn a h),s.ba,λi a h=>n a (s.al i a h),λi a c f b=>(s.cel i a c f b).ev (Ev.grow e) (λ_ _ h=>h) λo h=>e _ _ h]
def ee.at(s:ee B K H Z ω){i:Nat}(h:ω[i]?=G c):∃a,Z[i]?=G a:=by let:i<ω.length:=(f_.mp h).1;rw[<-s.len]at this;simp_all
def ee.akh(s:ee B K H Z ω){i:Nat}(h:Z[i]?=G a):¬B a:=λz=>s.ba a z i h
def D8(h:o[i]?=G c)(m:c≠.dead)(g:C≠.dead):Lv Z (o.set i C) b↔Lv Z o b:=by
 constructor
 .rintro⟨j,d,f,a,l⟩
  rcases cW a with⟨rfl,rfl⟩|⟨_,a⟩
  .show#[j,c,f,h,m]
  .show#[j,d,f,a,l]
 .rintro⟨j,d,f,a,l⟩
  by_cases e:j=i
  .subst e;show#[j,C,f,by rw[I! (f_.mp h).1],g]
  .show#[j,d,f,by rw[R_ (λz=>e z.symm)];show a,l]
def VR(h:o[i]?=G c)(e:c≠.dead)(a:C≠.dead):ow B Z (o.set i C)=ow B Z o:=by funext b;show propext #[λz=>z.imp id (D8 h e a).mp,λz=>z.imp id (D8 h e a).mpr]
def d6.put(d:Z[i]?=G a)(h:ω[i]?=G c)(g:c≠.dead)(f:c'≠.dead):d6 Z ω H Z (ω.set i c') (bW H a o):=#[λ_ _ h=>h,λb j q n=>by rw[bh (λe=>n #[i,c,by simp_all,h,g])];show q,λb z=>.inl ((D8 h g f).mp z)]
def ee.put(s:ee B K H Z ω)(k:Z[i]?=G a)(h:ω[i]?=G c)(p:c≠.dead)(f:c'≠.dead)(new:vw (ow B Z ω) K (bW H a o) Z a c'):ee B K (bW H a o) Z (ω.set i c'):=by
 let e:d6 Z ω H Z _ (bW H a o):=d6.put k h p f;let n:∀b,H b≠CL->bW H a o b≠CL:=λb h=>by
  by_cases z:b=a
  .subst z;rw[aR];simp
  .rw[bh z];show h
 show#[by rw[p_];show s.len,s.nd,λb h=>n b (s.bn b h),s.ba,λj b h=>n b (s.al j b h),λj b d m l=>?_];rcases cW l with⟨rfl,rfl⟩|⟨g,l⟩
 .simp[k]at m;ext m;rw[VR h p f];show new
 .show(s.cel j b d m l).ev e.ev e.pre λu q=>by rw[bh (λz=>g (s.nd j i a () k))];show q
def xn{i:Nat}(d:Z[i]?=G a)(h:C[i]?=G c)(b:c≠.dead):Ev (ow B Z C) H (ow B Z C) (bW H a o):=Ev.mut (.inr #[i,c,d,h,b]) o
def cQ{Z:Type}{l:I Z}{x y:Z}(h:(l++[x])[i]?=G y):l[i]?=G y\/(i=l.length/\y=x):=by
 by_cases hi:i<l.length
 .rw[oT hi]at h;show .inl h
 .rw[oq ()]at h
  cases q:i-l.length with |zero=>rw[q]at h;injections;subst_vars;show .inr #[by ext,W]|succ n=>ext
def jw{Z:Type}{l:I Z}{x y:Z}{i:Nat}(h:l[i]?=G y):(l++[x])[i]?=G y:=by rw[oT (f_.mp h).1];show h
def aO:(l++[x])[l.length]?=G x:=by simp
def xi(g:Z.length=o.length)(h:Lv (Z++[p]) (o++[c]) b):Lv Z o b\/b=p:=by
 let(i,d,e,a,f):=h;rcases cQ e with e|⟨e1,e2⟩
 .rcases cQ a with a|⟨e1,e2⟩
  .show .inl #[i,d,e,a,f]
  simp_all
 .show .inr e2
def d6.agR(f:Z.length=ω.length)(s:g_ H H')(g:H p=CL):d6 Z ω H (Z++[p]) (ω++[c]) H':=#[λi a h=>jw h,λb u q _=>s b u q,λb z=>(xi f z).imp id λe=>by simp_all]
def ee.agR(s:ee B K H Z ω)(e:g_ H H')(l:H p=CL)(m:H' p≠CL)(new:vw (ow B (Z++[p]) (ω++[c])) K H' (Z++[p]) p c):ee B K H' (Z++[p]) (ω++[c]):=by
 let ev:d6 Z ω H _ (ω++[c]) H':=d6.agR s.len e l;let n:∀b,H b≠CL->H' b≠CL:=λb h z=>h (e.free z);show#[by rw[jl,jl,s.len];rfl,λi j a f g=>?_,λa h=>n a (s.bn a h),λa h i q=>?_,λi a h=>?_,λi a d f g=>?_]
 .rcases cQ f with g1|⟨e1,e2⟩<;>rcases cQ g with g2|⟨e3,e4⟩
  .show s.nd i j a g1 g2
  .show a7 (by rw[e4];show l) (s.al i a g1)
  .show a7 (by rw[e2];show l) (s.al j a g2)
  .omega
 .rcases cQ q with q|⟨_,e2⟩
  .show s.ba a h i q
  .subst e2;show s.bn a h l
 .rcases cQ h with h|⟨_,e2⟩
  .show n a (s.al i a h)
  simp_all
 .rcases cQ g with g|⟨e1,e2⟩
  .rcases cQ f with f|⟨e1,_⟩
   .show(s.cel i a d f g).ev ev.ev ev.pre λo q=>e _ _ q
   .let:=(f_.mp g).1;let:=s.len;ext
  .rcases cQ f with f|⟨_,e3⟩
   .let:=(f_.mp f).1;let:=s.len;ext
   simp_all
def WS(K:lD)(E:XK)(B:iP)(H:Hp)(Z:I aT)(d:cj)(P:A->I aT->cj->Hp->Prop):RS A->Prop |.ok a b=>∀e f,d6 Z d H e b f->ee B K f e b->P a e b f|.er x b=>∀c g e f,d6 Z d H e b f->ee B K f e b->rb K (ow B e b) f c g x->E c g f|.bad=>False
def WS.from(e:d6 Z ω H Y ω1 X)(h:WS K E B H Z ω P r):WS K E B X Y ω1 P r:=by cases r with |ok a f=>show λb i e2 g=>h b i (e.trans e2) g|er x f=>show λc j b i e2 g=>h c j b i (e.trans e2) g|bad=>show h
def WS.bind(h:WS K E B H Z ω P (r.bind k)):WS K E B H Z ω (λa Y b X=>WS K E B X Y b P (k a b)) r:=by cases r with|ok a b=>show λY X e1 _=>WS.from e1 h|er x b|bad=>show h
def WS.bR(h:WS K E B H Z ω P ((RS.bR ω o).bind k)):∃a,o=G a/\WS K E B H Z ω P (k a ω):=by cases o with|none=>show h.elim|some a=>show#[a,W,h]
def WS.imp(h:WS K E B H Z ω P r)(g:∀a d c f,d6 Z ω H d c f->ee B K f d c->P a d c f->P' a d c f):WS K E B H Z ω P' r:=by cases r with |ok a b=>show λY X e1 e=>g a Y b X e1 e (h Y X e1 e)|er x b|bad=>show h
def WS.now(s:ee B K H Z ω)(h:WS K E B H Z ω P (.ok a ω)):P a Z ω H:=h Z H .refl s
end
abbrev gW:=dJ->cj->RS SV
abbrev Aq:=dJ->cj->RS Bool
abbrev El:=dJ->cj->RS (I SV)
def eD(K:lD)(E:XK)(t:TE)(f:gW):Prop:=∀(B)(σ)(H)(α)(g)(h)(Q),ee B K H α g->j! (ow B α g) K H α σ h->WS K E B H α g (λx a b e=>∀v,gd (ow B a b) K e a v x->Q v e) (f h g)->t σ H Q
def yY(K:lD)(E:XK)(t:TT)(f:Aq):Prop:=∀(B)(σ)(H)(α)(e)(g)(Q),ee B K H α e->j! (ow B α e) K H α σ g->WS K E B H α e (λb _ _ a=>Q b a) (f g e)->t σ H Q
def CM(K:lD)(E:XK)(t:TA)(f:El):Prop:=∀(B)(σ)(H)(α)(g)(h)(Q),ee B K H α g->j! (ow B α g) K H α σ h->WS K E B H α g (λxs a b e=>∀i,i_ (ow B a b) K e a i xs->Q i e) (f h g)->t σ H Q
section
variable{B O M:iP}{K:lD}{E:XK}{H T U H2:Hp}{Z N Y I:a8 aT}{ω J ω1 P:cj}{X:L2.St}{ρ:dJ}{v:V}
def Tk:bb SV->bb PV |some (.fz d)=>G (.fz d)|_=>CL
def dX(ρ:dJ):bM:=ρ.map Tk
def yx{i:Nat}(h:(dX ρ)[i]?=G (G x)):∃d,x=.fz d/\ρ[i]?=G (G (.fz d)):=by unfold dX at h;rw[iD]at h;cases q:ρ[i]? with|none=>ext|some o=>
  rw[q]at h;let a:=lp h;unfold Tk at a;split at a
  .simp_all
  simp_all
def Ny(s:ee B K H Z ω)(a:j! (ow B Z ω) K H Z X ρ):Rl K (ow B Z ω) H (ow B Z ω) X H (dX ρ):=by
 show#[g_.refl _,λ_ h=>h,s.owd,s.oD,by ext dX;rw[dO];show a.1,λi x h=>?_,λi j ds es w h=>?_]
 .let(d,0,b):=yx h;let(v,g,f):=a.2 i _ b;show#[v,g,f]
 .let(d,e,_):=yx h;simp_all
def uZ(ω:cj):RV->RS SV |.fz d=>.ok (.fz d) ω|.ow ds=>.ok (.rf ω.length) (ω++[.lst (ds.map .fz)])
abbrev PQ(B:iP)(K:lD)(Q:VK):SV->a8 aT->cj->Hp->Prop:=λx N J T=>∀v,gd (ow B N J) K T N v x->Q v T
theorem sX(O)(Z):∀{a:a8 V}{ds:a8 D},DVs O K H a ds->i_ O K H Z a (ds.map .fz) |_,_,.nil=>.nil|_,_,.cons h t=>.cons h (sX O Z t)
theorem K8:∀{a:a8 V}{ds:a8 D},i_ O K H Z a (ds.map .fz)->DVs O K H a ds |_,[],.nil=>.nil|_,_::_,.cons h t=>.cons h (K8 t)
def xj(s:ee B K H Z ω)(w:WS K E B H Z ω (PQ B K Q) (uZ ω (.ow ds)))(e:g_ H T)(a:H p=CL)(h:T p=G (.lst o))(hd:DVs M K T o ds)(f:∀b,ow B Z ω b->M b)(g:M p):Q (.ref p) T:=by show w _ T (d6.agR s.len e a) (s.agR e a (by rw[h];simp) #[o,h,sX _ _ (hd.ev (Ev.sub (λb z=>z.elim (λq=>f b (.inl q)) λq=>(xi s.len q).elim (λq=>f b (.inr q)) λq=>by simp_all)))]) _ #[p,by rw[<-s.len];show aO,W]
def NA(s:ee B K H Z ω)(w:WS K E B H Z ω (PQ B K Q) (uZ ω o)):Fin (ow B Z ω) K H Q o:=by cases o with |fz d=>show λv T e a=>w Z T (d6.same e) (s.grow e) v a|ow ds=>show λp g T e f h a=>xj s w e f h a (λb z=>.inl z) (.inr W)
def af(f:FE):gW:=λρ ω=>match f (dX ρ)with |.ok (.fz d,_)=>.ok (.fz d) ω|.ok (.ow ds,_)=>uZ ω (.ow ds)|.ok (.pl _,_)=>.bad|.er x=>.er x ω|.bad=>.bad
def wH(h:EO K E t f):eD K E t (af f):=by intro B X H Z ω ρ Q s g w;show h _ H _ X H _ Q (Ny s g) ?_;unfold af at w;cases q:f _ with |bad=>simp[q]at w;show w.elim|er x=>simp[q]at w;show λc y T e k=>w c y Z T (d6.same e) (s.grow e) k|ok r=>let(pv,b):=r;rw[q]at w;intro M v T e R p;cases pv with |fz d=>show w Z T (d6.same R.same) (s.grow R.same) v (DV.ev (Ev.sub R.bo) p)|ow ds=>let(a,z,0,n,m,l,j,o):=p;show xj s w R.same m l j R.bo n|pl i=>show w.elim
def bG(f:FT):Aq:=λρ ω=>match f (dX ρ)with |.ok (b,_)=>.ok b ω|.er x=>.er x ω|.bad=>.bad
def Lx(h:n! K E t f):yY K E t (bG f):=by intro B X H Z ω ρ Q s a w;show h _ H _ X H _ Q (Ny s a) ?_;unfold bG at w;cases q:f _ with |bad=>rw[q]at w;show w.elim|er x=>rw[q]at w;show λc b T e k=>w c b Z T (d6.same e) (s.grow e) k|ok r=>rw[q]at w;show λM T e R=>w Z T (d6.same R.same) (s.grow R.same)
def ap(i:Nat):gW:=λρ ω=>match ρ[i]? with |some (G x)=>.ok x ω|_=>.bad
def AG:eD K E (uo i) (ap i):=by intro B X H Z ω ρ Q s a w;unfold ap at w;cases q:ρ[i]? with |none=>simp[q]at w;show w.elim|some o=>cases o with|none=>simp[q]at w;show w.elim|some x=>simp[q]at w;let(v,e,b):=a.2 i x q;show#[v,e,WS.now s w v b]
def pV(K:lD)(C:Str)(fs:a8 Str):Prop:=∃a,iN K gE C=G (G (.ref a))/\qo K a/\∀f∈fs,u! K a f
def bw(C f:Str)(e:gW):gW:=λρ ω=>(e ρ ω).bind λx ω1=>match x with |.rf i=>(match ω1[i]? with |some (.obj D fs)=>if D=C then RS.bR ω1 (fs.lookup f)else .bad|_=>.bad)|_=>.bad
def ajk:∀{ws:a8 (Str×V)}{fs:a8 (Str×SV)},Paired (λ(p)(q)=>p.1=q.1/\gd O K H Z p.2 q.2) ws fs->fs.lookup f=G x->∃v,ws.lookup f=G v/\gd O K H Z v x:=by
 intro ws fs p
 induction p with|nil=>intro h;simp_all|@cons a b _ _ q t i=>
  let(a,v):=a;let(b,y):=b;let(e,g):=q;intro h;ext e;simp only[o2]at h⊢;split at h
  .simp_all
  .show i h
def aib:∀{ws:a8 (Str×V)}{fs:a8 (Str×SV)},Paired (λ(p)(q)=>p.1=q.1/\gd O K H Z p.2 q.2) ws fs->fs.lookup f=CL->ws.lookup f=CL:=by
 intro ws fs p
 induction p with|nil=>intro h;rfl|@cons a b _ _ q t i=>
  let(a,v):=a;let(b,y):=b;let(e,g):=q;intro h;ext e;simp only[o2]at h⊢;split at h
  .simp_all
  .show i h
def Qt(o:pV K C L)(n:f∈L)(k:eD K E ta fa):eD K E (W7 K ta f) (bw C f fa):=by intro B X H Z ω ρ Q s h w;show k B X H Z ω ρ _ s h (w.bind.imp λx Y ω1 U e1 e b v j=>?_);cases x with |fz d|tp l=>show b.elim|rf i=>let(a,k,0):=j;dsimp only at b;cases q:ω1[i]? with|none=>simp[q]at b;show b.elim|some c=>rw[q]at b;cases c with
   |obj D fs=>
    dsimp only at b;by_cases z:D=C
    .subst z
     rw[ax W]at b;let(F,S,ws,t,r,p):=e.cel i a _ k q;cases R:fs.lookup f with|none=>rw[R]at b;show b.elim|some x=>rw[R]at b;let(u,m,g):=ajk p R;let(G,g0,A,y):=o;simp[t]at g0;ext g0;show#[a,F,S,ws,u,W,r,A,y f n,m,WS.now e b u g]
    .rw[aE z]at b;show b.elim|_=>show b.elim
def aQ{Z a:Type}(f:Z->bb a):a8 Z->bb (a8 a) |[]=>G []|x::r=>match f x with |some y=>(match aQ f r with |some b=>G (y::b)|none=>CL)|none=>CL
def xC:Nat->cj->SV->bb D
 |_,_,.fz d=>G d|0,_,_=>CL|n+1,ω,.rf i=>match ω[i]? with |some (.lst xs)=>(aQ (xC n ω) xs).map .list|_=>CL
 |n+1,ω,.tp l=>(aQ (λx=>xC n ω x.sv) l).map .tuple
theorem eA{Z a:Type}{f:Z->bb a}{R:V->Z->Prop}{S:V->a->Prop}(h:∀v x y,R v x->f x=G y->S v y):∀{c:a8 V}{xs:a8 Z}{g:a8 a},Paired R c xs->aQ f xs=G g->Paired S c g |_,_,_,.nil,e=>by injections;subst_vars;show .nil|_,_,_,.cons (b:=x) (l₂:=xs) r t,e=>by unfold aQ at e;cases q:f x with|none=>ext|some y=>rw[q]at e;cases i:aQ f xs with |none=>ext|some g=>
    rw[i]at e
    injections;subst_vars
    show .cons (h _ _ _ r q) (eA h t i)
def qJ:∀{b:a8 V}{ds:a8 D},Paired (DV O K H) b ds->DVs O K H b ds:=by
 intro _ _ p
 induction p with |nil=>show .nil|cons h t a=>show .cons h a
def Um:Ev O H oD H:=Ev.sub λ_ z=>z.elim
theorem oO(s:ee B K H Z ω):∀(n:Nat){v:V}{x:SV}{d:D},gd (ow B Z ω) K H Z v x->xC n ω x=G d->DV oD K H v d
 |n,v,.fz o,d,h,e=>by
  let g:G o=G d:=by ext n<;>show e
  injections;subst_vars
  show DV.ev Um h|0,v,.rf i,d,h,e|0,v,.tp l,d,h,e=>by ext e|n+1,v,.rf i,d,h,e=>by let(a,m,0):=h;unfold xC at e;cases q:ω[i]? with |none=>ext|some c=>rw[q]at e;cases c with
   |lst xs=>dsimp only at e;cases j:aQ (xC n ω) xs with |none=>ext|some ds=>rw[j]at e;ext e;let(p,f,b):=s.cel i a _ m q;show .lst #[m5.of f,λz=>z.elim] (qJ (eA (R:=gd _ K H Z) (λv x y r e=>oO s n r e) b j))
   |_=>ext e
 |n+1,v,.tp l,d,h,e=>by let(a,xs,0,f,b):=h;unfold xC at e;cases j:aQ (λx=>xC n ω x.sv) l with|none=>ext|some ds=>rw[j]at e;ext e;show .tup (f.ev Um) (qJ (eA (λv x y r e=>oO s n (by ext x<;>show r) e) b j))
def B1:SV->bb D|.fz d=>G d|_=>CL
def sh(ω:cj):SV->bb D
 |.fz d=>G d|.rf i=>match ω[i]? with |some (.lst xs)=>(aQ B1 xs).map .list|_=>CL
 |.tp _=>CL
def LZ(s:ee B K H Z ω)(h:gd (ow B Z ω) K H Z v x)(e:sh ω x=G d):DX (ow B Z ω) K H v d:=by cases x with |fz g=>injections;subst_vars;show DV.x h|tp l=>contradiction|rf i=>let(a,n,0):=h;unfold sh at e;dsimp only at e;cases q:ω[i]? with|none=>ext|some c=>rw[q]at e;cases c with
   |lst xs=>dsimp only at e;cases j:aQ B1 xs with |none=>ext|some ds=>
     rw[j]at e
     injections;subst_vars
     let(m,f,b):=s.cel i a _ n q;show#[a,m,W,m5.of f,qJ (eA (λv x y r e=>?_) b j)];cases x with |fz d=>injections;subst_vars;show r|rf i|tp l=>ext e
   |_=>ext
def IQ:D->Bool|.none|.bool _|.int _|.str _=>u|_=>fg
def R0(h:IQ d=u)(a:DV O K H v d):DV M K T v d:=by cases a with |non=>show .non|bl b=>show .bl b|int i=>show .int i|str x=>show .str x|tup _ _|lst _ _=>ext h
def yG(ω:cj):RV->RS SV |.fz d=>if IQ d=u then .ok (.fz d) ω else .bad|.ow _=>.bad
def Kv(s:ee B K H Z ω)(w:WS K E B H Z ω (PQ B K Q) (yG ω o)):Fin oD K H Q o:=by cases o with
 |fz d=>
  let w:WS K E B H Z ω _ (if IQ d=u then RS.ok _ ω else RS.bad):=w;by_cases z:IQ d=u
  .rw[ax z]at w;show λv T e a=>w Z T (d6.same e) (s.grow e) v (R0 z a)
  .rw[aE z]at w;show w.elim|ow ds=>show w.elim
def JO:qA oD H:=λ_ _ z=>z
def xG(f:D->D->bb RV)(x y:SV)(ω:cj):RS SV:=match sh ω x,sh ω y with |some g,G b=>(RS.bR ω (f g b)).bind λe ω1=>uZ ω1 e|_,_=>(RS.bR ω (xC 6 ω x)).bind λg ω1=>(RS.bR ω1 (xC 6 ω1 y)).bind λb P=>(RS.bR P (f g b)).bind λe a=>yG a e
def Np(n:mo K r f)(s:ee B K H Z ω)(m:gd (ow B Z ω) K H Z x a)(l:gd (ow B Z ω) K H Z y b)(w:WS K E B H Z ω (PQ B K Q) (xG f a b ω)):r x y H Q:=by
 let o:WS K E B H Z ω _ ((RS.bR ω _).bind λq ω1=>(RS.bR ω1 (xC 6 ω1 b)).bind λe P=>(RS.bR P (f q e)).bind λp i=>yG i p)->r x y H Q:=λw=>by let(q,h,w):=w.bR;let(e,g,w):=w.bR;let(p,j,w):=w.bR;show n oD H x y q e p Q JO (DV.x (oO s 6 m h)) (DV.x (oO s 6 l g)) j (Kv s w)
 unfold xG at w;cases h:sh ω a with|none=>ext|some q=>cases g:sh ω b with|none=>ext|some e=>rw[h,g]at w;let(p,j,w):=w.bR;show n _ H x y q e p Q s.oD (LZ s m h) (LZ s l g) j (NA s w)
def iQ(f:D->D->bb RV)(b a:gW):gW:=λρ ω=>(b ρ ω).bind λx ω1=>(a ρ ω1).bind λy P=>xG f x y P
def K2(l:mo K r f)(c:eD K E C fa)(m:eD K E o fb):eD K E (OJ r C o) (iQ f fa fb):=by intro B X H Z ω ρ Q s a w;show c B X H Z ω ρ _ s a (w.bind.imp λx Y ω1 U e1 h e v i=>?_);show m B X U Y ω1 ρ _ h (a.evo e1) (e.bind.imp λy I P H2 e2 g b u j=>Np l g (i.evo e2) j b)
def Sz:SV->bb Bool |.fz (.bool b)=>G b|_=>CL
def Qo(e:Sz x=G b)(h:gd O K H Z v x):v=.bl b:=by
 unfold Sz at e;split at e
 .injections;subst_vars;ext h;rfl
 simp_all
def bf(a:gW):Aq:=λρ ω=>(a ρ ω).bind λx ω1=>RS.bR ω1 (Sz x)
def wm(c:eD K E o C):yY K E (yA o) (bf C):=by intro B X H Z ω ρ Q s e w;show c B X H Z ω ρ _ s e (w.bind.imp λx Y ω1 U e1 f a v g=>?_);cases q:Sz x with|none=>rw[q]at a;show a.elim|some b=>rw[q]at a;show#[b,Qo q g,WS.now f a]
def Ul(a:eD K E o C):yY K E (tB o) (bf C):=wm a
def qE(c a:Aq):Aq:=λρ ω=>(c ρ ω).bind λb ω1=>if b=u then a ρ ω1 else .ok fg ω1
def Bk(c a:Aq):Aq:=λρ ω=>(c ρ ω).bind λb ω1=>if b=u then .ok u ω1 else a ρ ω1
def ug(a:Aq):Aq:=λρ ω=>(a ρ ω).bind λb ω1=>.ok (!b) ω1
def Q4(j:yY K E t f)(i:yY K E l g):yY K E (Vv t l) (qE f g):=by intro B X H Z ω ρ Q s e w;show j B X H Z ω ρ _ s e (w.bind.imp λb Y ω1 U e1 h a=>?_);cases b with |true=>show i B X U Y ω1 ρ Q h (e.evo e1) a|false=>show WS.now h a
def UO(j:yY K E t f)(i:yY K E l g):yY K E (YP t l) (Bk f g):=by intro B X H Z ω ρ Q s e w;show j B X H Z ω ρ _ s e (w.bind.imp λb Y ω1 U e1 h a=>?_);cases b with|true=>show WS.now h a|false=>show i B X U Y ω1 ρ Q h (e.evo e1) a
def Rk(h:yY K E t f):yY K E (Pf t) (ug f):=by show λB X H Z ω ρ Q s e w=>h B X H Z ω ρ _ s e (w.bind.imp λb Y ω1 U e1 g a=>WS.now g a)
def nY:Aq:=λ_ ω=>.ok u ω
def alb:yY K E Kt nY:=λB X H Z ω ρ Q s a w=>WS.now s w
def Eg(c a:gW):gW:=λρ ω=>(bf c ρ ω).bind λb ω1=>if b=u then a ρ ω1 else .ok (.fz (.bool fg)) ω1
def RP(c:eD K E C fa)(g:eD K E o fb):eD K E (NJ C o) (Eg fa fb):=by intro B X H Z ω ρ Q s e w;show wm c B X H Z ω ρ _ s e (w.bind.imp λb Y ω1 U e1 f a=>?_);cases b with |true=>show g B X U Y ω1 ρ Q f (e.evo e1) a|false=>show WS.now f a _ (.bl _)
def Tb(c:Aq)(d a:gW):gW:=λρ ω=>(c ρ ω).bind λb ω1=>if b=u then d ρ ω1 else a ρ ω1
def UM(g:yY K E t c)(d:eD K E C fa)(h:eD K E o fb):eD K E (Zz t C o) (Tb c fa fb):=by intro B X H Z ω ρ Q s a w;show g B X H Z ω ρ _ s a (w.bind.imp λb Y ω1 U e1 f e=>?_);cases b with |true=>show d B X U Y ω1 ρ Q f (a.evo e1) e|false=>show h B X U Y ω1 ρ Q f (a.evo e1) e
def aJ:El:=λ_ ω=>.ok [] ω
def aj(a:gW)(fr:El):El:=λρ ω=>(a ρ ω).bind λx ω1=>(fr ρ ω1).bind λxs P=>.ok (x::xs) P
def uN:CM K E lW aJ:=λB X H Z ω ρ Q s a w=>WS.now s w [] .nil
def Bv(c:eD K E o C)(j:CM K E tr fr):CM K E (jM o tr) (aj C fr):=by intro B X H Z ω ρ Q s b w;show c B X H Z ω ρ _ s b (w.bind.imp λx Y ω1 U e1 h f v i=>?_);show j B X U Y ω1 ρ _ h (b.evo e1) (f.bind.imp λxs I P H2 e2 g e l a=>WS.now g e _ (.cons (i.evo e2) a))
def XD:SV->bb AV |.fz d=>G (.fz d)|.rf i=>G (.rf i)|.tp _=>CL
def mkT(xs:a8 SV):bb SV:=match aQ B1 xs with |some ds=>G (.fz (.tuple ds))|none=>(aQ XD xs).map .tp
def tK(a:El):gW:=λρ ω=>(a ρ ω).bind λxs ω1=>if xs.length<=1000 then RS.bR ω1 (mkT xs)else .bad
def DQ(r:gd O K H Z v x)(e:B1 x=G d):DV O K H v d:=by cases x with|fz d=>injections;subst_vars;show r|rf i|tp l=>ext e
def N7(r:gd O K H Z v x)(e:XD x=G d):vz O K H Z v d:=by cases x with|fz d|rf i=>ext e;show r|tp l=>ext e
def Qa(c:CM K E C fa):eD K E (Q7 C) (tK fa):=by
 intro B X H Z ω ρ Q s m w;show c B X H Z ω ρ _ s m (w.bind.imp λxs Y ω1 U e1 f a n g=>?_);by_cases hn:xs.length<=1000
 .rw[ax hn]at a
  show#[by rw[g.length];show xb hn,λp j=>?_];let b:g_ U (bW U p (.tup n)):=bq j _;let e:d6 Y ω1 U Y ω1 _:=d6.same b;let i:oN _ K (bW U p _) p n:=#[hY.of aR,λz=>a7 z (f.oD p j)];unfold mkT at a;cases q:aQ B1 xs with |some ds=>rw[q]at a;show a Y _ e (f.grow b) _ (.tup i (qJ (eA (R:=gd _ K U Y) (λv x y r h=>(DQ r h).ev e.ev) g q)))|none=>rw[q]at a;cases o:aQ XD xs with |none=>rw[o]at a;show a.elim|some l=>rw[o]at a;show a Y _ e (f.grow b) _ #[p,n,W,i,eA (R:=gd _ K U Y) (λv x y r h=>(N7 r h).ev e.ev e.pre) g o]
 .rw[aE hn]at a;show a.elim
def IV(a:El):gW:=λρ ω=>(a ρ ω).bind λxs ω1=>if xs.length<=1000 then .ok (.rf ω1.length) (ω1++[.lst xs])else .bad
def SD(c:CM K E o C):eD K E (Sk o) (IV C):=by
 intro B X H Z ω ρ Q s i w;show c B X H Z ω ρ _ s i (w.bind.imp λxs Y ω1 U e1 b a j h=>?_);by_cases hn:xs.length<=1000
 .rw[ax hn]at a;show#[by rw[h.length];show xb hn,λp f=>?_];let g:g_ U (bW U p (.lst j)):=bq f _;let e:d6 Y ω1 U _ (ω1++[.lst xs]) _:=d6.agR b.len g f;show a _ _ e (b.agR g f (by rw[aR];simp) #[j,aR,Paired.aes h λ_ _ d=>d.evo e]) _ #[p,by rw[<-b.len];show aO,W]
 .rw[aE hn]at a;show a.elim
def Xf(f:a8 D->bb RV)(xs:a8 SV)(ω:cj):RS SV:=match aQ (sh ω) xs with |some ds=>(RS.bR ω (f ds)).bind λb ω1=>uZ ω1 b|_=>(RS.bR ω (aQ (xC 6 ω) xs)).bind λds ω1=>(RS.bR ω1 (f ds)).bind λb a=>yG a b
def Wk(f:a8 D->bb RV)(a:El):gW:=λρ ω=>(a ρ ω).bind λxs ω1=>Xf f xs ω1
def UZ(i:Ci K r f)(c:CM K E C fa):eD K E (FW r C) (Wk f fa):=by intro B X H Z ω ρ Q s j w;show c B X H Z ω ρ _ s j (w.bind.imp λxs Y ω1 U e1 b a o h=>?_);unfold Xf at a;cases n:aQ _ xs with |none=>rw[n]at a;let(ds,l,a):=a.bR;let(m,g,a):=a.bR;show i oD U o ds m Q JO (eA (R:=gd _ K U Y) (λv x y r e=>DV.x (oO b 6 r e)) h l) g (Kv b a)|some ds=>rw[n]at a;let(m,g,a):=a.bR;show i _ U o ds m Q b.oD (eA (R:=gd _ K U Y) (λv x y r e=>LZ b r e) h n) g (NA b a)
end
section
variable{B O O':iP}{K:lD}{E:XK}{H J N M:Hp}{Z L U T:a8 aT}{ω Y ω1 X:cj}{S:L2.St}{ρ:dJ}{v:V}
theorem D2:∀{c:I V}{xs:I β}{i:Nat}{x:β},Paired R c xs->xs[i]?=G x->∃v,c[i]?=G v/\R v x |_,_,_,_,.nil,e=>by contradiction|_,_,0,_,.cons h _,e=>by simp_all|_,_,i+1,x,.cons _ t,e=>by let(v,b,a):=D2 t (by simpa using e);simp_all
def Uj{a:I V}(h:Paired R a xs)(e:pQ xs i=G x):∃v,pQ a i=G v/\R v x:=by unfold pQ at e⊢;rw[h.length];cases q:HM _ i with|none=>ext|some j=>rw[q]at e;show D2 h e
def HC:SV->bb Int |.fz (.int i)=>G i|_=>CL
def E3(e:HC x=G i)(h:gd O K H Z v x):v=.int i:=by
 unfold HC at e;split at e
 .injections;subst_vars;ext h;rfl
 simp_all
def RN(x y:SV)(ω:cj):RS SV:=match x with |.fz _=>xG av x y ω|.rf j=>(match ω[j]? with |some (.lst xs)=>(RS.bR ω (HC y)).bind λi ω1=>RS.bR ω1 (pQ xs i)|_=>.bad)|.tp l=>(RS.bR ω (HC y)).bind λi ω1=>RS.bR ω1 ((pQ l i).map AV.sv)
def mn(b a:gW):gW:=λρ ω=>(b ρ ω).bind λx ω1=>(a ρ ω1).bind λy X=>RN x y X
def Wo(k:eD K E ta fa)(C:eD K E tb fb):eD K E (OJ (Z8 K) ta tb) (mn fa fb):=by intro B S H Z ω ρ Q s r w;show k B S H Z ω ρ _ s r (w.bind.imp λx U ω1 N e1 A t v e=>?_);show C B S N U ω1 ρ _ A (r.evo e1) (t.bind.imp λy T X M e2 f b u n=>?_);let e:=e.evo e2;unfold RN at b;cases x with
 |fz d=>show Np zS f e n b|rf j=>let(a,k,0):=e;dsimp only at b;cases q:X[j]? with|none=>simp[q]at b;show b.elim|some c=>rw[q]at b;cases c with
   |lst xs=>let(i,h,b):=WS.bR b;cases P:pQ xs i with|none=>simp[P]at b;show b.elim|some x=>simp[P]at b;let(R,p,o):=f.cel j a _ k q;let(z,m,g):=Uj o P;show .inl #[a,R,i,z,W,E3 h n,hL.of p,m,WS.now f b z g]
   |_=>show b.elim
 |tp l=>let(a,xs,0,p,o):=e;let(i,h,b):=WS.bR b;cases P:pQ l i with|none=>rw[P]at b;show b.elim|some x=>rw[P]at b;let(z,m,g):=Uj o P;show .inr (.inl #[a,xs,i,z,W,E3 h n,p.1,m,WS.now f b z (by ext x<;>show g)])
def RK(h:Lv Z (ω.set i .dead) b):Lv Z ω b:=by
 let(j,c,f,a,e):=h;rcases cW a with⟨rfl,rfl⟩|⟨_,a⟩
 .trivial
 .show#[j,c,f,a,e]
def d6.kill:d6 Z ω H Z (ω.set i .dead) H:=#[λ_ _ h=>h,λ_ _ h _=>h,λ_ h=>.inl (RK h)]
def ee.kill(s:ee B K H Z ω)(i):ee B K H Z (ω.set i .dead):=by
 let e:d6 Z ω H Z (ω.set i _) H:=d6.kill;show#[by rw[p_];show s.len,s.nd,s.bn,s.ba,s.al,λj b d g a=>?_];rcases cW a with⟨rfl,rfl⟩|⟨f,a⟩
 .show trivial
 .show(s.cel j b d g a).ev e.ev e.pre λu q=>q
def ee.alr(s:ee B K H Z ω)(d:Z[i]?=G a):¬ow B Z (ω.set i .dead) a:=by
 rintro(z|⟨j,c,g,f,e⟩)
 .show s.akh d z
 .let:=s.nd j i a g d
  subst this;rcases cW f with⟨_,rfl⟩|⟨b,_⟩
  .show e W
  .show b W
def xV(g:cj->SV->bb (D×cj)):cj->I SV->bb (I D×cj) |ω,[]=>G ([],ω)|ω,x::r=>match g ω x with |some (d,ω1)=>(match xV g ω1 r with |some (ds,X)=>G (d::ds,X)|none=>CL)|none=>CL
def frz:Nat->cj->SV->bb (D×cj)
 |_,ω,.fz d=>G (d,ω)|0,_,_=>CL|n+1,ω,.rf i=>match ω[i]? with
  |some (.lst xs)=>(match xV (frz n) ω xs with |some (ds,ω1)=>G (.list ds,ω1.set i .dead)|none=>CL)|_=>CL
 |n+1,ω,.tp l=>match xV (frz n) ω (l.map AV.sv)with |some (ds,ω1)=>G (.tuple ds,ω1)|none=>CL
theorem zJ(a:∀{ω Y:cj}{v:V}{x:SV}{d:D},ee B K H Z ω->gd (ow B Z ω) K H Z v x->g ω x=G (d,Y)->ee B K H Z Y/\d6 Z ω H Z Y H/\L3.DV (ow B Z Y) K H v d):∀{c:I V}{xs:I SV}{ds:I D}{ω Y:cj},ee B K H Z ω->i_ (ow B Z ω) K H Z c xs->xV g ω xs=G (ds,Y)->ee B K H Z Y/\d6 Z ω H Z Y H/\L3.DVs (ow B Z Y) K H c ds |_,_,_,ω,Y,s,.nil,e=>by injections;subst_vars;show#[s,.refl,.nil]|_,_,_,ω,Y,s,.cons (b:=x) (l₂:=xs) r t,e=>by unfold xV at e;cases q:g ω x with|none=>ext|some p=>let(d,ω1):=p;rw[q]at e;dsimp only at e;let(h,e1,j):=a s r q;cases m:xV g ω1 xs with |none=>ext|some l=>
    rw[m]at e
    injections;subst_vars
    let(f,e2,i):=zJ a h (i_.evo e1 t) m;show#[f,e1.trans e2,.cons (j.ev e2.ev) i]
theorem z7:∀{a:I V}{l:I AV},Paired (vz O K H Z) a l->i_ O K H Z a (l.map AV.sv) |_,_,.nil=>.nil|_,_,.cons (b:=x) h t=>.cons (by ext x<;>show h) (z7 t)
theorem y8:∀(n:Nat){ω Y:cj}{v:V}{x:SV}{d:D},ee B K H Z ω->gd (ow B Z ω) K H Z v x->frz n ω x=G (d,Y)->ee B K H Z Y/\d6 Z ω H Z Y H/\L3.DV (ow B Z Y) K H v d
 |n,ω,Y,v,.fz t,d,s,h,e=>by
  let m:G (t,ω)=G (d,Y):=by ext n<;>show e
  ext m;show#[s,.refl,h]|0,_,_,v,.rf i,d,s,h,e|0,_,_,v,.tp l,d,s,h,e=>by ext e|n+1,ω,Y,v,.rf i,d,s,h,e=>by let(a,r,0):=h;unfold frz at e;cases q:ω[i]? with |none=>ext|some c=>rw[q]at e;cases c with
   |lst xs=>dsimp only at e;let(w,g,f):=s.cel i a _ r q;cases o:xV (frz n) ω xs with |none=>ext|some p=>rw[o]at e;ext e;let(b,e1,j):=zJ (y8 n) s f o;show#[b.kill i,e1.trans d6.kill,Al g (b.alr r) (j.ev (d6.kill).ev)]
   |_=>ext e
 |n+1,ω,Y,v,.tp l,d,s,h,e=>by let(a,xs,0,g,f):=h;unfold frz at e;cases o:xV (frz n) ω (l.map AV.sv)with|none=>ext|some p=>rw[o]at e;ext e;let(b,e1,j):=zJ (y8 n) s (z7 f) o;show#[b,e1,.tup (g.ev e1.ev) j]
def W3(x:SV)(ω:cj):RS SV:=match frz 4 ω x with |some (d,ω1)=>.ok (.fz d) ω1|none=>.bad
def wM(f:gW):gW:=λρ ω=>(f ρ ω).bind λx ω1=>W3 x ω1
def Hf(h:eD K E t f):eD K E t (wM f):=by intro B S H Z ω ρ Q s b w;show h B S H Z ω ρ _ s b (w.bind.imp λx U ω1 N e1 g a v i=>?_);unfold W3 at a;cases q:frz 4 ω1 x with|none=>simp[q]at a;show a.elim|some p=>simp[q]at a;let(e,e2,j):=y8 4 g i q;show a U N e2 e v j
def rb.sub(h:∀b,O' b->O b)(k:rb K O H c dx x):rb K O' H c dx x:=by let(i,fs,g,a):=k;show#[i,fs,g,λf d e=>by let(g1,v,g2,g3):=a f d e;show#[g1,v,g2,g3.ev (Ev.sub h)]]
def su(F:FN)(n:Nat)(xs:I SV)(ω:cj):RS SV:=if xs.length=n then(match aQ B1 xs with|some ds=>(match F ds with|.ok a=>uZ ω a|.er x=>.er x ω|.bad=>.bad)|none=>(RS.bR ω (aQ (xC 6 ω) xs)).bind λds ω1=>(match F ds with |.ok a=>yG ω1 a|_=>.bad))else .bad
def mh:RS A->RS A|.er _ _=>.bad|r=>r
def agc(F:FN)(n:Nat)(a:El):gW:=λρ ω=>(a ρ ω).bind λxs ω1=>su F n xs ω1
def gn(F:FN)(n:Nat)(a:El):gW:=λρ ω=>(a ρ ω).bind λxs ω1=>mh (su F n xs ω1)
def WS.e0(h:WS K E B H Z ω P (mh r)):WS K E0 B H Z ω P r:=by cases r with|ok a ω|bad=>show h|er x ω=>show h.elim
def He(s:ee B K H Z ω)(b:i_ (ow B Z ω) K H Z o xs)(w:WS K E B H Z ω (PQ B K Q) (su F n xs ω)):yC K n F o H Q E:=by
 unfold su at w;by_cases hn:xs.length=n
 .rw[ax hn]at w
  show#[b.length.trans hn,?_];cases q:aQ B1 xs with
  |some ds=>rw[q]at w;show#[_,ds,s.owd,qJ (eA (R:=gd _ K H Z) (λv x y r e=>DQ r e) b q),?_];dsimp only at w;cases g:F ds with |ok h=>rw[g]at w;show NA s w|er x=>rw[g]at w;show λc i J e k=>w c i Z J (d6.same e) (s.grow e) k|bad=>rw[g]at w;show w.elim
  |none=>rw[q]at w;let(ds,f,w):=WS.bR w;show#[oD,ds,λa z=>z.elim,qJ (eA (R:=gd _ K H Z) (λv x y r e=>oO s 6 r e) b f),?_];cases g:F ds with |ok h=>rw[g]at w;show Kv s w|er x|bad=>rw[g]at w;show w.elim
 .rw[aE hn]at w;show w.elim
def akL(c:CM K E o C):eD K E (sj (yC K n F) [] E o) (agc F n C):=by intro B S H Z ω ρ Q s b w;show c B S H Z ω ρ _ s b (w.bind.imp λxs U ω1 N e1 e a g f=>?_);rw[n9];show He e f a
def RQ(c:CM K E o C):eD K E (sj (yC K n F) [] E0 o) (gn F n C):=by intro B S H Z ω ρ Q s b w;show c B S H Z ω ρ _ s b (w.bind.imp λxs U ω1 N e1 e a g f=>?_);rw[n9];show He e f (WS.e0 a)
abbrev jG:=I SV->cj->RS SV
def lM(K:lD)(n:Nat)(F:jG):Sp:=λa H Q E=>a.length=n/\∃(B:iP)(Z:I _)(ω:cj)(xs:I SV),ee B K H Z ω/\i_ (ow B Z ω) K H Z a xs/\WS K E B H Z ω (PQ B K Q) (F xs ω)
def sO(F:jG)(n:Nat)(a:El):gW:=λρ ω=>(a ρ ω).bind λxs ω1=>if xs.length=n then mh (F xs ω1)else .bad
def ajl(c:CM K E o C):eD K E (sj (lM K n F) [] E0 o) (sO F n C):=by
 intro B S H Z ω ρ Q s e w;show c B S H Z ω ρ _ s e (w.bind.imp λxs U ω1 N e1 f a g b=>?_);rw[n9];by_cases hn:xs.length=n
 .rw[ax hn]at a;show#[b.length.trans hn,B,U,ω1,xs,f,b,WS.e0 a]
 .rw[aE hn]at a;show a.elim
def sK(ω:cj)(C m:Str):SV->Bool
 |.rf i=>match ω[i]? with |some (.obj D fs)=>decide (D=C)&&(fs.lookup m).isNone|_=>fg
 |_=>fg
def mv(C m:Str)(F:jG)(n:Nat)(a:gW)(b:El):gW:=λρ ω=>(a ρ ω).bind λx ω1=>if sK ω1 C m x=u then(b ρ ω1).bind λxs X=>(if(x::xs).length=n then F (x::xs) X else .bad)else .bad
def aB(C m:Str)(F:jG)(n:Nat)(a:gW)(b:El):gW:=λρ ω=>(a ρ ω).bind λx ω1=>if sK ω1 C m x=u then(b ρ ω1).bind λxs X=>(if(x::xs).length=n then mh (F (x::xs) X)else .bad)else .bad
def NK(f:iN K gE C=G (G (.ref Ca)))(s:ee B K H Z ω)(b:gd (ow B Z ω) K H Z v x)(h:sK ω C m x=u):∃a k fs,v=.ref a/\H a=G (.ins Ca k fs)/\fs.lookup m=CL:=by cases x with|fz d|tp l=>ext h|rf i=>let(a,r,0):=b;unfold sK at h;dsimp only at h;cases q:ω[i]? with|none=>ext|some c=>rw[q]at h;cases c with
   |obj D fs=>
    rw[c!]at h;let(j,g):=h;let e:=a6 j;subst e;let(p,k,ws,g0,o,n):=s.cel i a _ r q;simp[f]at g0
    injections;subst_vars
    show#[a,k,ws,W,o,aib n (DD.mp g)]|_=>ext
def aln(q:iN K gE C=G (G (.ref Ca)))(p:eD K E to fo)(c:CM K E ta fa):eD K E (xZ Ca m (lM K n F) [] E to ta) (mv C m F n fo fa):=by
 intro B S H Z ω ρ Q s g w;show p B S H Z ω ρ _ s g (w.bind.imp λx U ω1 N e1 i e v j=>?_);by_cases h:sK ω1 C m x=u
 .rw[ax h]at e
  let(a,y,fs,0,t,r):=NK q i j h;show#[a,y,fs,W,t,r,?_];show c B S N U ω1 ρ _ i (g.evo e1) (e.bind.imp λxs T X M e2 o b z f=>?_);rw[n9];let l:i_ _ K M T _ _:=.cons (j.evo e2) f;by_cases hn:(x::xs).length=n
  .rw[ax hn]at b;show#[l.length.trans hn,B,T,X,_,o,l,b]
  .rw[aE hn]at b;show b.elim
 .rw[aE h]at e;show e.elim
def aks(q:iN K gE C=G (G (.ref Ca)))(p:eD K E to fo)(c:CM K E ta fa):eD K E (xZ Ca m (lM K n F) [] E0 to ta) (aB C m F n fo fa):=by
 intro B S H Z ω ρ Q s g w;show p B S H Z ω ρ _ s g (w.bind.imp λx U ω1 N e1 i e v j=>?_);by_cases h:sK ω1 C m x=u
 .rw[ax h]at e
  let(a,y,fs,0,t,r):=NK q i j h;show#[a,y,fs,W,t,r,?_];show c B S N U ω1 ρ _ i (g.evo e1) (e.bind.imp λxs T X M e2 o b z f=>?_);rw[n9];let l:i_ _ K M T _ _:=.cons (j.evo e2) f;by_cases hn:(x::xs).length=n
  .rw[ax hn]at b;show#[l.length.trans hn,B,T,X,_,o,l,WS.e0 b]
  .rw[aE hn]at b;show b.elim
 .rw[aE h]at e;show e.elim
def Px:SV->Bool |.fz .none=>u|_=>fg
def Gu(C:Str)(F:jG)(n:Nat)(xs:I SV)(ω:cj):RS SV:=if(SV.rf ω.length::xs).length=n then(F (.rf ω.length::xs) (ω++[.obj C []])).bind λr X=>(if Px r=u then .ok (.rf ω.length) X else .bad)else .bad
def jv(C:Str)(F:jG)(n:Nat)(a:El):gW:=λρ ω=>(a ρ ω).bind λxs ω1=>mh (Gu C F n xs ω1)
def Qr(h:Px x=u)(a:gd O K H Z v x):v=.non:=by
 unfold Px at h;split at h
 .ext a;rfl
 simp_all
def WM(q:iN K gE C=G (G (.ref Ca)))(s:ee B K H Z ω)(p:i_ (ow B Z ω) K H Z vs xs)(w:WS K E B H Z ω (PQ B K Q) (Gu C F n xs ω)):∀x c,H x=CL->H c=CL->c≠x->lM K n F (.ref x::(vs++[])) (bW (bW H c (.own x)) x (.ins Ca c [])) (λv M=>v=.non/\Q (.ref x) M) E:=by
 intro x c f i h;rw[n9];unfold Gu at w;let j:g_ H (bW (bW H c (.own x)) x (.ins Ca c [])):=(bq i _).trans (bq (by rw[bh (λz=>h z.symm)];show f) _);let e:d6 Z ω H _ (ω++[.obj C []]) _:=d6.agR s.len j f;let o:ee B K _ _ (ω++[.obj C []]):=s.agR j f (by rw[aR];simp) #[Ca,c,[],q,aR,.nil];let a:∀{L:I aT}{Y:cj}{J:Hp},d6 _ (ω++[.obj C []]) (bW (bW H c (.own x)) x (.ins Ca c [])) L Y J->gd (ow B L Y) K J L _ (.rf ω.length):=λe=>#[x,e.pre _ _ (by rw[<-s.len];show aO),W];by_cases hn:(SV.rf ω.length::xs).length=n
 .rw[ax hn]at w
  let l:i_ _ K _ _ _ _:=.cons (a .refl) (i_.evo e p);show#[l.length.trans hn,B,_,_,_,o,l,?_];show WS.imp (WS.from e w.bind) λr T X M e2 m b v g=>?_;by_cases z:Px r=u
  .rw[ax z]at b;show#[Qr z g,WS.now m b _ (a e2)]
  .rw[aE z]at b;show b.elim
 .rw[aE hn]at w;show w.elim
def MD(g:iN K gE C=G (G (.ref Ca)))(c:CM K E o fa):eD K E (B2 Ca (lM K n F) [] E0 o) (jv C F n fa):=by intro B S H Z ω ρ Q s b w;show c B S H Z ω ρ _ s b (w.bind.imp λxs U ω1 N e1 e a h f=>WM g e f (WS.e0 a))
def im(ω:cj):SV->bb (Nat×I SV)
 |.rf i=>match ω[i]? with |some (.lst xs)=>G (i,xs)|_=>CL
 |_=>CL
def rZ(s:ee B K H Z ω)(b:gd (ow B Z ω) K H Z v x)(h:im ω x=G (i,xs)):ω[i]?=G (.lst xs)/\∃a k,Z[i]?=G a/\v=.ref a/\H a=G (.lst k)/\i_ (ow B Z ω) K H Z k xs:=by cases x with|fz d|tp l=>ext h|rf j=>let(a,m,0):=b;unfold im at h;dsimp only at h;cases q:ω[j]? with|none=>ext|some c=>rw[q]at h;cases c with|lst g=>cases(lp h);let(k,f,e):=s.cel i a _ m q;show#[q,a,k,m,W,f,e]|_=>ext
def zF(h:Paired R o xs)(r:R v x):Paired R (o++[v]) (xs++[x]):=by induction h with |nil=>show .cons r .nil|cons a _ b=>show .cons a b
def xB(b c:gW):gW:=λρ ω=>(b ρ ω).bind λo ω1=>(RS.bR ω1 (im ω1 o)).bind λ_ ω1=>(c ρ ω1).bind λx X=>(RS.bR X (im X o)).bind λp a=>if p.2.length<1000000 then .ok (.fz .none) (a.set p.1 (.lst (p.2++[x])))else .bad
def Pk(F:eD K E to fo)(G:eD K E te fe):eD K E (Xm K "list" zM to (jM te lW)) (xB fo fe):=by
 intro B S H Z ω ρ Q s j w;show F B S H Z ω ρ _ s j (w.bind.imp λo U ω1 N e1 m e v n=>?_);let((R,y),A,e):=WS.bR e;let(_,t,f,_,0,g0,_):=rZ m n A;show#[.inl #[W,f,hL.of g0],?_];show G B S N U ω1 ρ _ m (j.evo e1) (e.bind.imp λx T X M e2 l b u C=>?_);let((i,xs),q,b):=WS.bR b;let(g,a,vs,ha,P,I,p):=rZ l (n.evo e2) q;ext P;by_cases hn:xs.length<1000000
 .rw[ax hn]at b;let ev:Ev _ M (ow B T X) (bW M t (.lst (vs++[u]))):=xn ha g (by intro z;simp_all);show#[t,vs,u,W,W,I,yj (by rw[p.length];show hn),(b T _ (d6.put ha g (by nofun) (by nofun)) (l.put ha g (by nofun) (by nofun) #[_,aR,zF (Paired.aes p λ_ _ r=>r.ev ev λ_ _ h=>h) (C.ev ev λ_ _ h=>h)]) _ .non)]
 .rw[aE hn]at b;show b.elim
end
set_option genInjectivity true in
inductive Le where|nx(ρ:dJ)|bk(ρ:dJ)|ct(ρ:dJ)|rt(x:SV)
abbrev iL:=dJ->cj->RS Le
abbrev GL:=SV->dJ->cj->RS dJ
abbrev Iq:=I SV->dJ->cj->RS dJ
def Zs(B:iP)(K:lD)(D:Ends):Le->I aT->cj->Hp->Prop |.nx b,α,a,H=>∀σ,j! (ow B α a) K H α σ b->D.nx σ H|.bk b,α,a,H=>∀σ,j! (ow B α a) K H α σ b->D.bk σ H|.ct b,α,a,H=>∀σ,j! (ow B α a) K H α σ b->D.ct σ H|.rt x,α,a,H=>∀v,gd (ow B α a) K H α v x->D.rt v H
def xO(K:lD)(E:XK)(t:TS)(g:iL):Prop:=∀(B)(σ)(H)(α)(a)(b)(D),ee B K H α a->j! (ow B α a) K H α σ b->WS K E B H α a (Zs B K D) (g b a)->t D σ H
def OO(K:lD)(E:XK)(g:TG)(f:GL):Prop:=∀(B)(σ)(H)(α)(i)(l)(v)(x)(Q),ee B K H α i->j! (ow B α i) K H α σ l->gd (ow B α i) K H α v x->WS K E B H α i (λe a b h=>∀j,j! (ow B a b) K h a j e->Q j h) (f x l i)->g v σ H Q
def Jt(K:lD)(E:XK)(g:ON)(f:Iq):Prop:=∀(B)(σ)(H)(α)(i)(l)(m)(xs)(Q),ee B K H α i->j! (ow B α i) K H α σ l->i_ (ow B α i) K H α m xs->WS K E B H α i (λe a b h=>∀j,j! (ow B a b) K h a j e->Q j h) (f xs l i)->g m σ H Q
section
variable{B O O':iP}{K:lD}{E:XK}{H P S N:Hp}{Y I U X:a8 aT}{ω M ω1 Z:cj}{T:L2.St}{ρ:dJ}{v:V}
def j!.set(a:j! O K H Y T ρ)(h:gd O K H Y v x):j! O K H Y (T.set i (G v)) (ρ.set i (G x)):=by
 show#[by rw[p_,p_];show a.1,λj y g=>?_];rcases cW g with⟨rfl,e⟩|⟨f,b⟩
 .injections;subst_vars
  show#[v,?_,h];rw[I!];rw[a.1];show(zN g)
 .let(u,m,l):=a.2 j y b;show#[u,by rw[R_ (λz=>f z.symm)];show m,l]
def d4(i:Nat):GL:=λx ρ ω=>.ok (ρ.set i (G x)) ω
def vj:OO K E (rS i) (d4 i):=λB T H Y ω ρ v x Q s a h w=>WS.now s w _ (a.set h)
def uq:Iq:=λxs ρ ω=>match xs with|[]=>.ok ρ ω|_=>.bad
def kT(f:GL)(g:Iq):Iq:=λxs ρ ω=>match xs with|x::r=>(f x ρ ω).bind λa ω1=>g r a ω1|[]=>.bad
def OV:Jt K E PB uq:=by intro B T H Y ω ρ b xs Q s a h w;cases h with|nil=>show#[W,WS.now s w _ a]|cons _ _=>show w.elim
def Mv(p:OO K E t f)(o:Jt K E q g):Jt K E (Fp t q) (kT f g):=by intro B T H Y ω ρ r xs Q s m h w;cases h with|nil=>show w.elim|cons a b=>show#[_,_,W,p B T H Y ω ρ _ _ _ s m a (WS.imp (WS.bind w) λi U ω1 S e1 n l e j=>o B e S U ω1 i _ _ _ n j (i_.evo e1 b) l)]
def MV:SV->bb (a8 SV) |.fz (.tuple ds)=>G (ds.map .fz)|.tp l=>G (l.map AV.sv)|_=>CL
def US(h:gd O K H Y v x)(e:MV x=G xs):∃a c,v=.ref a/\oN O K H a c/\i_ O K H Y c xs:=by
 unfold MV at e;split at e
 .injections;subst_vars
  cases h with|tup h f=>show#[_,_,W,h,sX _ _ f]
 .injections;subst_vars
  let(a,b,0,i,g):=h;show#[a,b,W,i,z7 g]
 trivial
def IP(n:Nat)(f:Iq):GL:=λx ρ ω=>(RS.bR ω (MV x)).bind λxs ω1=>if xs.length=n then f xs ρ ω1 else .bad
def Qd(h:Jt K E t f):OO K E (QU K n t) (IP n f):=by
 intro B T H Y ω ρ v x Q s e g w;let(xs,q,w):=WS.bR w;let(a,j,0,i,b):=US g q;by_cases hn:xs.length=n
 .rw[ax hn]at w;show#[a,j,W,i.1,b.length.trans hn,h B T H Y ω ρ j xs Q s e b w]
 .rw[aE hn]at w;show w.elim
def bJ:iL:=λρ ω=>.ok (.nx ρ) ω
def aH(f g:iL):iL:=λρ ω=>(f ρ ω).bind λa ω1=>match a with|.nx b=>g b ω1|a=>.ok a ω1
def cJ(f:gW):iL:=λρ ω=>(f ρ ω).bind λ_ ω1=>.ok (.nx ρ) ω1
def cB(f:gW)(g:GL):iL:=λρ ω=>(f ρ ω).bind λx ω1=>(g x ρ ω1).bind λa Z=>.ok (.nx a) Z
def bP(c:Aq)(f g:iL):iL:=λρ ω=>(c ρ ω).bind λb ω1=>if b=u then f ρ ω1 else g ρ ω1
def c8(f:gW):iL:=λρ ω=>(f ρ ω).bind λx ω1=>.ok (.rt x) ω1
def vQ:iL:=λ_ ω=>.ok (.rt (.fz .none)) ω
def Lh:iL:=λ_ _=>.bad
def alO:xO K E JF bJ:=λB T H Y ω ρ D s a w=>WS.now s w T a
def ahY:xO K E Ec Lh:=λB T H Y ω ρ D s a w=>w.elim
def M3:xO K E Uh vQ:=λB T H Y ω ρ D s a w=>WS.now s w .non .non
def Pj(m:xO K E t f)(l:xO K E o g):xO K E (JT t o) (aH f g):=by intro B T H Y ω ρ D s j w;show m B T H Y ω ρ _ s j (WS.imp (WS.bind w) λn U ω1 S e1 e b=>?_);cases n with |nx a=>show λh i=>l B h S U ω1 a D e i b|rt x|bk a|ct a=>show WS.now (E:=E) e b
def Od(h:eD K E t f):xO K E (Bu t) (cJ f):=by show λB T H Y ω ρ D s a w=>h B T H Y ω ρ _ s a (WS.imp (WS.bind w) λx U ω1 S e1 e b v g=>WS.now e b T (a.evo e1))
def Ar(h:eD K E t f)(p:OO K E g C):xO K E (Ai t g) (cB f C):=by intro B T H Y ω ρ D s e w;show h B T H Y ω ρ _ s e (WS.imp (WS.bind w) λx U ω1 S e1 n l v o=>p B T S U ω1 ρ v x _ n (e.evo e1) o (WS.imp (WS.bind l) λi X Z N e2 m j a b=>WS.now m j a b))
def XR(i:yY K E c o)(l:xO K E t f)(j:xO K E m g):xO K E (QS c t m) (bP o f g):=by intro B T H Y ω ρ D s a w;show i B T H Y ω ρ _ s a (WS.imp (WS.bind w) λb U ω1 S e1 h e=>?_);cases b with |true=>show l B T S U ω1 ρ D h (a.evo e1) e|false=>show j B T S U ω1 ρ D h (a.evo e1) e
def QV(h:eD K E t f):xO K E (RO t) (c8 f):=by show λB T H Y ω ρ D s b w=>h B T H Y ω ρ _ s b (WS.imp (WS.bind w) λx U ω1 S e1 e a v g=>WS.now e a v g)
def dZ(f:Str)(x:SV):a8 (Str×SV)->a8 (Str×SV)|[]=>[(f,x)]|(g,y)::r=>if g=f then(g,x)::r else(g,y)::dZ f x r
def Xw(h:gd O K H Y v x):∀{ws:a8 (Str×V)}{fs:a8 (Str×SV)},Paired (λ(p:Str×V)(q:Str×SV)=>p.1=q.1/\gd O K H Y p.2 q.2) ws fs->Paired (λ(p:Str×V)(q:Str×SV)=>p.1=q.1/\gd O K H Y p.2 q.2) (mB f v ws) (dZ f x fs):=by
 intro ws fs p
 induction p with |nil=>show .cons #[W,h] .nil|@cons a b _ _ q t j=>
  let(g,u):=a;let(i,y):=b;let(e,k):=q
  injections;subst_vars
  unfold mB dZ;by_cases z:g=f
  .rw[ax z,ax z];show .cons #[W,h] t
  .rw[aE z,aE z];show .cons #[W,k] j
def NW(ω:cj)(C:Str):SV->bb (Nat×a8 (Str×SV))
 |.rf i=>match ω[i]? with |some (.obj D fs)=>if D=C then G (i,fs)else CL|_=>CL
 |_=>CL
def Zp(s:ee B K H Y ω)(b:gd (ow B Y ω) K H Y v x)(h:NW ω C x=G (i,fs)):ω[i]?=G (.obj C fs)/\∃a k n ws,Y[i]?=G a/\v=.ref a/\iN K gE C=G (G (.ref k))/\H a=G (.ins k n ws)/\Paired (λ(p)(q)=>p.1=q.1/\gd (ow B Y ω) K H Y p.2 q.2) ws fs:=by cases x with|fz d|tp l=>ext h|rf j=>let(a,o,0):=b;unfold NW at h;dsimp only at h;cases q:ω[j]? with|none=>ext|some c=>rw[q]at h;cases c with
   |obj D gs=>
    dsimp only at h;by_cases z:D=C
    .subst z;rw[ax W]at h;let e:=lp h;ext e;let(k,n,ws,m,g,f):=s.cel i a _ o q;show#[q,a,k,n,ws,o,W,m,g,f]
    simp_all|_=>trivial
def dW(C f:Str)(b c:gW):iL:=λρ ω=>(c ρ ω).bind λx ω1=>(b ρ ω1).bind λo Z=>(RS.bR Z (NW Z C o)).bind λp a=>if p.2.length<100 then .ok (.nx ρ) (a.set p.1 (.obj C (dZ f x p.2)))else .bad
def SF(J:pV K C L)(F:f∈L)(A:eD K E to fo)(G:eD K E te fe):xO K E (WZ K to te f) (dW C f fo fe):=by
 intro B T H Y ω ρ D s g w;show G B T H Y ω ρ _ s g (WS.imp (WS.bind w) λx U ω1 S e1 t p v y=>?_);show A B T S U ω1 ρ _ t (g.evo e1) (WS.imp (WS.bind p) λo X Z N e2 l b u z=>?_);let((i,fs),q,b):=WS.bR b;let(j,a,e,dx,ws,ha,0,n,Q,m):=Zp l z q;let(Cb,g0,g1,R):=J;simp[n]at g0;ext g0;by_cases hn:fs.length<100
 .rw[ax hn]at b;let ev:Ev _ N (ow B X Z) (bW N a (.ins e dx (mB f v ws))):=xn ha j ();let e3:d6 X Z N X (Z.set i (.obj C (dZ f x fs))) (bW N a (.ins e dx (mB f v ws))):=d6.put ha j () ();let hl:=Paired.length m;show#[a,e,dx,ws,W,Q,g1,R f F,by ext,(b X _ e3 (l.put ha j () () #[e,dx,_,n,aR,Xw ((y.evo e2).ev ev λ_ _ h=>h) (Paired.aes m λ_ _ r=>#[r.1,r.2.ev ev λ_ _ h=>h])]) T ((g.evo (e1.trans e2)).evo e3))]
 .rw[aE hn]at b;show b.elim
abbrev X8:=dJ->cj->RS (a8 D)
def YI(K:lD)(E:XK)(a:TI)(c:X8):Prop:=∀(B)(T)(H)(Y)(ω)(ρ)(b),ee B K H Y ω->j! (ow B Y ω) K H Y T ρ->WS K E B H Y ω (λds I M P=>∀J,xa K J (ow B I M) P ds->b J P) (c ρ ω)->a T H b
def nZ(f:FI):X8:=λρ ω=>match f (dX ρ)with |.ok (ds,_)=>.ok ds ω|.er x=>.er x ω|.bad=>.bad
def alI(h:IO K E C f):YI K E C (nZ f):=by intro B T H Y ω ρ i s a w;show h _ H _ T H _ i (Ny s a) ?_;unfold nZ at w;cases q:f _ with |bad=>rw[q]at w;show w.elim|er x=>rw[q]at w;show λc l P e k=>w c l Y P (d6.same e) (s.grow e) k|ok r=>rw[q]at w;show λO' J P e R g=>w Y P (d6.same R.same) (s.grow R.same) J λj N e2 n=>g j N (λb o h z=>e2 b o h λy=>z (R.bo b y)) n
def jA(a:gW):X8:=λρ ω=>(a ρ ω).bind λx ω1=>(match frz 4 ω1 x with |some (d,Z)=>RS.bR Z (fA d)|none=>.bad)
def Rt(h:eD K E o C):YI K E (GB K o) (jA C):=by intro B T H Y ω ρ l s f w;show h B T H Y ω ρ _ s f (WS.imp (WS.bind w) λx U ω1 S e1 g a v i=>?_);cases q:frz 4 ω1 x with |none=>rw[q]at a;show a.elim|some p=>let(d,Z):=p;rw[q]at a;let(e,e2,j):=y8 4 g i q;dsimp only at a;cases m:fA d with |none=>rw[m]at a;show a.elim|some ds=>rw[m]at a;cases j with |tup h b=>ext m;show#[_,W,.inr #[#[_,h.1],a U S e2 e _ (M8 h b)]]|lst h b=>ext m;show#[_,W,.inl #[#[_,h.1.sq],a U S e2 e _ (GK h b)]]|_=>contradiction
def qB(gt:GL)(b:iL):a8 D->iL |[],ρ,ω=>.ok (.nx ρ) ω|d::r,ρ,ω=>(gt (.fz d) ρ ω).bind λa ω1=>(b a ω1).bind λe Z=>match e with |.nx f|.ct f=>qB gt b r f Z|.bk f=>.ok (.nx f) Z|.rt x=>.ok (.rt x) Z
def vK(a:X8)(gt:GL)(b:iL):iL:=λρ ω=>(a ρ ω).bind λds ω1=>qB gt b ds ρ ω1
def QN(c:YI K E wi fi)(k:OO K E g gt)(hb:xO K E tb b):xO K E (RD wi g tb) (vK fi gt b):=by
 intro B T H Y ω ρ D s R w;show c B T H Y ω ρ _ s R (WS.imp (WS.bind w) λds U ω1 S e1 s1 w1 J it=>?_);show#[λi m a P=>m=ds.length-i/\i<=ds.length/\∃X Z ρ2,d6 U ω1 S X Z P/\ee B K P X Z/\j! (ow B X Z) K P X a ρ2/\WS K E B P X Z _ (qB gt b (ds.drop i) ρ2 Z),#[_,W,mT _,U,ω1,ρ,.refl,s1,R.evo e1,w1],?_];rintro i m n N ⟨rfl,c,X,Z,ρ2,e2,s2,sl2,w2⟩;let(go,p):=it _ N e2.ev s2.oD;by_cases h:i<ds.length
 .let(g1,g2):=go i h
  show .inr #[g1,λa P=>i+1<=ds.length/\∃X Z ρ2,d6 U ω1 S X Z P/\ee B K P X Z/\j! _ K P X a ρ2/\WS K E B P X Z _ _,λa P b=>by let(h1,h2):=b;show#[_,by ext,W,h1,h2],λx Q y=>?_];let(s3,d,hd,dv):=g2 x Q y;let ed:ds.drop i=d::ds.drop (i+1):=by let(_,q):=f_.mp hd;rw[K! h,q]
  rw[ed]at w2;let e3:d6 X Z N X Z Q:=d6.same s3;show k B n Q X Z ρ2 x (.fz d) _ (s2.grow s3) (sl2.evo e3) dv (WS.imp (WS.bind (WS.from e3 w2)) λF G z H4 e4 s4 w3 C L=>?_);show hb B C H4 G z F _ s4 L (WS.imp (WS.bind w3) λfl o l H5 e5 u t=>?_);let r:=e2.trans (e3.trans (e4.trans e5));cases fl with |nx f|ct f=>show λA j=>#[h,o,l,f,r,u,j,t]|bk f|rt x=>show WS.now (E:=E) u t
 .let e:i=ds.length:=by ext
  subst e;rw[t_ (dc _)]at w2;show .inl #[p,WS.now s2 w2 n sl2]
end
section
variable{B O O':iP}{K:lD}{E:XK}{H T S L:Hp}{U R X Y:a8 aT}{ω ω' ω1 Z:cj}{M:L2.St}{ρ:dJ}{v:V}
def gq(gt:GL)(c:Aq)(f:gW):I D->dJ->cj->I SV->RS (I SV)|[],_,ω,acc=>.ok acc ω|d::r,ρ,ω,acc=>(gt (.fz d) ρ ω).bind λa ω1=>(c a ω1).bind λb Z=>if b=u then(f a Z).bind λx e=>(if acc.length<1000000 then gq gt c f r a e (acc++[x])else .bad)else gq gt c f r a Z acc
def tU(n:Nat)(a:I Nat)(ρ:dJ):dJ:=ey n CL++a.map λj=>(ρ[j]?).join
def jO(n:Nat)(a:I Nat)(c:X8)(gt:GL)(b:Aq)(d:gW):gW:=λρ ω=>(c ρ ω).bind λds ω1=>(mh (gq gt b d ds (tU n a ρ) ω1 [])).bind λxs Z=>.ok (.rf Z.length) (Z++[.lst xs])
def Ga(c:own.length=n)(g:C.map (·.2)=J)(h:j! O K H U M ρ):j! O K H U (lV own C M) (tU n J ρ):=by
 unfold lV tU;rw[GX c];let i:C.length=J.length:=by rw[<-g,dO]
 show#[by simp_all,λj x b=>?_];by_cases f:j<n
 .rw[oT (by rw[p!];show f),z5,ax f]at b;simp_all
 .rw[oq (),p!,iD]at b⊢
  subst g;rw[iD]at b;cases q:C[j-n]? with|none=>ext|some p=>
   rw[q]at b;let a:(ρ[p.2]?).join=G x:=lp b;let e:ρ[p.2]?=G (G x):=by cases r:ρ[p.2]? with|none=>rw[r]at a;simp_all|some o=>rw[r]at a;show dt G a
   let(u,m,l):=h.2 p.2 x e;simp_all
def Nb(a:U.length=ω.length)(e:c≠.dead):ow (g9 B p) U ω=ow B (U++[p]) (ω++[c]):=by
 funext b;show propext #[λz=>?_,λz=>?_]
 .rcases z with(z|z)|⟨i,d,h1,g,f⟩
  .show .inl z
  .show .inr #[_,c,by rw[z];show aO,by rw[a];show aO,e]
  .show .inr #[i,d,jw h1,jw g,f]
 .rcases z with z|z
  .show .inl (.inl z)
  .show(xi a z).elim (λz=>.inr z) λz=>.inl (.inr z)
def ee.adopt(s:ee (g9 B p) K H U ω)(l:H p=G (.lst vs))(g:i_ (ow (g9 B p) U ω) K H U vs xs)(n:¬B p):ee B K H (U++[p]) (ω++[.lst xs]):=by
 let b:∀(i:Nat)(a:aT),U[i]?=G a->(U++[p])[i]?=G a:=λi a h=>jw h;let m:∀i:Nat,U[i]?≠G p:=s.ba p (.inr W);show#[by rw[jl,jl,s.len];rfl,λi j a e f=>?_,λa h=>s.bn a (.inl h),λa h i q=>?_,λi a h=>?_,λi a d e f=>?_]
 .rcases cQ e with g1|⟨e1,e2⟩<;>rcases cQ f with g2|⟨e3,e4⟩
  .show s.nd i j a g1 g2
  .simp_all
  .simp_all
  .omega
 .rcases cQ q with q|⟨_,e2⟩
  .show s.ba a (.inl h) i q
  simp_all
 .rcases cQ h with h|⟨_,e2⟩
  .show s.al i a h
  simp_all
 .rw[<-(Nb s.len ())]
  rcases cQ f with g2|⟨e1,e2⟩
  .rcases cQ e with g1|⟨e1,_⟩
   .show(s.cel i a d g1 g2).ev .refl b λo q=>q
   .let:=(f_.mp g2).1;let:=s.len;ext
  .rcases cQ e with g1|⟨_,e3⟩
   .let:=(f_.mp g1).1;let:=s.len;ext
   .rw[e2,e3];show#[vs,l,Paired.aes g λ_ _ r=>r.ev .refl b]
def ee.hide(s:ee B K H U ω)(j:H p=CL):ee (g9 B p) K (bW H p o) U ω:=by let f:g_ H _:=bq j o;let g:=s.grow f;let ev:Ev (ow B U ω) H (ow (g9 B p) U ω) _:=λb u h n=>#[f b u h,λz=>z.elim (λz=>z.elim (λz=>n (.inl z)) λz=>by simp_all) λz=>n (.inr z)];show#[g.len,g.nd,λa h=>h.elim (g.bn a) λe=>by rw[e,aR];simp,λa h i q=>h.elim (λh=>g.ba a h i q) λe=>by rw[e]at q;show s.al i p q j,g.al,λi a c m l=>(s.cel i a c m l).ev ev (λ_ _ h=>h) λo q=>f _ _ q]
def ee.anE(s:ee (g9 B p) K H U ω)(g:H p=G o):ee (g9 B p) K (bW H p o') U ω:=by
 let ev:Ev _ H (ow (g9 B p) U ω) _:=Ev.mut (.inl (.inr W)) o';let n:∀b,H b≠CL->bW H p o' b≠CL:=λb h=>by
  by_cases z:b=p
  .subst z;rw[aR];simp
  .rw[bh z];show h
 show#[s.len,s.nd,λa h=>n a (s.bn a h),s.ba,λi a h=>n a (s.al i a h),λi a c e f=>(s.cel i a c e f).ev ev (λ_ _ h=>h) λu q=>?_];let:a≠p:=λz=>s.ba p (.inr W) i (by rw[<-z];show e);rw[bh this];show q
def d6.dd(e:d6 X ω1 S U ω H)(a:S p=CL):d6 X ω1 S U ω (bW H p o):=#[e.pre,λb u h n=>by rw[bh (ci h a)];show e.kp b u h n,e.lv]
def ee.ajm(s:ee (g9 B p) K H U ω):ee B K H U ω:=#[s.len,s.nd,λa h=>s.bn a (.inl h),λa h=>s.ba a (.inl h),s.al,λi a c f e=>(s.cel i a c f e).ev (λb o h n=>#[h,λy=>n (y.elim (λy=>.inl (.inl y)) .inr)]) (λ_ _ h=>h) λ_ h=>h]
def agG{own:a8 Str}{fv:a8 (Str×Nat)}{g:TG}{tc:TT}{te:TE}{gt:GL}{k:Aq}{s:gW}{n:Nat}{fj:a8 Nat}{J:It}{Q:VK}{ds:a8 D}(hn:own.length=n)(hf:fv.map (·.2)=fj)(hg:OO K E g gt)(ht:yY K E tc k)(he:eD K E te s)(s1:ee B K S X ω1)(sl1:j! (ow B X ω1) K S X M ρ)(it:xa K J (ow B X ω1) S ds)(w1:WS K E B S X ω1 (PQ B K Q) ((gq gt k s ds (tU n fj ρ) ω1 []).bind λxs Z=>.ok (.rf Z.length) (Z++[.lst xs]))):∀D,S D=CL->Hq J D (lV own fv M) g tc te S λT=>Q (.ref D) T:=by
 intro t hD;let slc:j! _ K S X _ _:=Ga hn hf sl1;generalize qr:gq gt k s ds _ ω1 []=rr at w1;by_cases w:rr=.bad
 .subst w;show w1.elim
 .let evH:∀{Y:a8 aT}{Z:cj}{T:Hp},d6 X ω1 S Y Z T->Ev (ow B X ω1) S (ow (g9 B t) Y Z) T:=λe b o h n=>#[e.kp b o h λz=>n (.inr z),λz=>by
   rcases z with(z|z)|z
   .show n (.inl z)
   .simp_all
   .show(e.lv b z).elim (λq=>n (.inr q)) λq=>by simp_all]
  show#[λi m σ' T=>m=ds.length-i/\i<=ds.length/\∃Y Z ρc acc ys,d6 X ω1 S Y Z T/\ee _ K T Y Z/\j! (ow (g9 B t) Y Z) K T Y σ' ρc/\T t=cL (.lst ys)/\i_ (ow (g9 B t) Y Z) K T Y ys acc/\gq gt k s (ds.drop i) ρc Z acc=rr,#[_,W,mT _,X,ω1,_,[],[],d6.same (bq hD _),s1.hide hD,?_,aR,.nil,qr],?_]
  .show#[slc.1,λj x hx=>by let(v,h1,h2):=slc.2 j x hx;show#[v,h1,h2.ev (evH (d6.same (bq hD _))) λ_ _ h=>h]]
  .rintro i m σ2 L ⟨rfl,hi,Y,Z,ρ2,acc,ys,e2,s2,sl2,hy,vy,f⟩
   let(go,stop):=it _ L (evH e2) s2.oD;by_cases C:i<ds.length
   .let(g1,g2):=go i C
    show .inr #[g1,λσ5 F=>i+1<=ds.length/\∃Y Z ρc acc ys,d6 X ω1 S Y Z F/\ee _ K F Y Z/\j! _ K F Y σ5 ρc/\F t=cL _/\i_ _ K F Y ys acc/\gq gt k s _ ρc Z acc=rr,λσ5 F a=>by let(h1,h2):=a;show#[_,by ext,W,h1,h2],λx H3 y=>?_]
    let(s3,d,hd,dv):=g2 x H3 y;let ed:ds.drop i=d::ds.drop (i+1):=by let(_,q):=f_.mp hd;rw[K! C,q]
    rw[ed]at f;unfold gq at f;let e3:d6 Y Z L Y Z H3:=d6.same s3;let kD:∀{αx αy:a8 aT}{ωx ωy:cj}{Hx Hy:Hp}{o:HO},ee (g9 B t) K Hx αx ωx->d6 αx ωx Hx αy ωy Hy->Hx t=cL o->Hy t=cL o:=λsx ex h=>ex.kp _ _ h λ#[i,c,q,_]=>sx.ba t (.inr W) i q;let u:∀{P:a8 aT}{N:cj}{H3:Hp}{z:Xc}{p:cj},d6 X ω1 S P N H3->RS.er z p=rr->∀c dx R T,d6 P N H3 R p T->ee (g9 B t) K T R p->rb K (ow (g9 B t) R p) T c dx z->E c dx T:=λ{P N H3 z p}e3 q c dx R T e s' x'=>by subst q;show w1 c dx R T (e3.trans e) s'.ajm (rb.sub (λb y=>y.elim (λy=>.inl (.inl y)) .inr) x')
    show hg _ σ2 H3 Y Z ρ2 x (.fz d) _ (s2.grow s3) (sl2.evo e3) dv ?_;cases qg:gt _ ρ2 Z with |er z p=>rw[qg]at f;show u (e2.trans e3) f|bad=>rw[qg]at f;show w f.symm|ok l I=>rw[qg]at f;intro α4 H4 e4 s4 σ4 sl4;show ht _ σ4 H4 α4 I l _ s4 sl4 ?_;let f:((k l I).bind _)=rr:=f;cases qt:k l I with |er z p=>rw[qt]at f;show u (e2.trans (e3.trans e4)) f|bad=>rw[qt]at f;show w f.symm|ok b A=>rw[qt]at f;intro α5 F e5 s5;let sl5:=sl4.evo e5;let Ig:=e3.trans (e4.trans e5);cases b with|false=>show#[C,α5,A,l,acc,ys,e2.trans Ig,s5,sl5,kD s2 Ig hy,i_.evo Ig vy,f]|true=>let f:((s l A).bind _)=rr:=f;show he _ σ4 F α5 A l _ s5 sl5 ?_;cases qe:s l A with |er z p=>rw[qe]at f;show u (e2.trans Ig) f|bad=>rw[qe]at f;show w f.symm|ok x6 G=>
        rw[qe]at f;intro α6 H6 e6 s6 v6 hv6;let f:(if acc.length<1000000 then gq gt k s _ l G _ else .bad)=rr:=f;by_cases hl6:acc.length<1000000
        .rw[ax hl6]at f;let PN:=Ig.trans e6;let hy6:H6 t=cL _:=kD s2 PN hy;let vy6:=i_.evo PN vy;let em:Ev _ H6 (ow (g9 B t) α6 G) (bW H6 t (.lst (ys++[v6]))):=Ev.mut (.inl (.inr W)) _;let sl6:=sl5.evo e6;show#[ys,hy6,yj (by rw[vy6.length];show hl6),C,α6,G,l,_,_,(e2.trans PN).dd hD,s6.anE hy6,#[sl6.1,λj x hx=>by let(v,h1,h2):=sl6.2 j x hx;show#[v,h1,h2.ev em λ_ _ h=>h]],aR,zF (Paired.aes vy6 λ_ _ r=>r.ev em λ_ _ h=>h) (hv6.ev em λ_ _ h=>h),f]
        .rw[aE hl6]at f;show a7 f.symm w
   .let e:i=ds.length:=by ext
    subst e;rw[t_ (dc _)]at f;subst f;show .inl #[stop,?_];show w1 _ L #[λi a h=>jw (e2.pre i a h),e2.kp,λb z=>(xi s2.len z).elim (e2.lv b) λz=>.inr (by rw[z];show hD)] (s2.adopt hy vy (λz=>s1.bn t z hD)) _ #[t,by rw[<-s2.len];show aO,W]
def Kc{P:C->I _->cj->Hp->Prop}{k:A->cj->C}{m:A->cj->cj}(w:WS K E B H U ω P ((mh r).bind λa o=>.ok (k a o) (m a o))):WS K E0 B H U ω P (r.bind λa o=>.ok (k a o) (m a o)):=by cases r with|ok a o|bad=>show w|er x o=>show w.elim
def MN(c:own.length=n)(j:fv.map (·.2)=fj)(d:YI K E o fi)(i:OO K E0 g gt)(h:yY K E0 tc ft)(l:eD K E0 C fe):eD K E (vA own fv o g tc C) (jO n fj fi gt ft fe):=by intro B M H U ω ρ Q s a w;show d B M H U ω ρ _ s a (WS.imp (WS.bind w) λds X ω1 S e1 e b J f=>agG c j i h l e (a.evo e1) f (Kc b))
def c7(N:Nat)(g:iL):jG:=λxs ω=>(g (xs.map G++ey (N-xs.length) CL) ω).bind λa ω1=>match a with |.rt x=>.ok x ω1|.nx _=>.ok (.fz .none) ω1|_=>.bad
def Ml(h:i_ O K H U o xs):j! O K H U (L2.start N o) (xs.map G++ey (N.length-xs.length) CL):=by
 let e:o.length=xs.length:=Paired.length h;ext L2.start;show#[by simp_all,λi x a=>?_];by_cases hi:i<xs.length
 .rw[oT (),iD]at a
  cases q:xs[i]? with|none=>rw[q]at a;simp_all|some d=>
   simp[q]at a
   injections;subst_vars
   let(v,b,f):=D2 h q;show#[v,?_,f];rw[oT (by rw[dO,e];show hi),iD,b];rfl
 .rw[oq (),z5]at a;simp_all
def vg{xs:I SV}(f:xO K E t g)(h:lM K n (c7 N.length g) o H Q E):t {nx:=λ_ T=>Q .non T,rt:=Q} (L2.start N o) H:=by let(l,B,U,ω,xs,s,e,w):=h;show f B _ H U ω _ _ s (Ml e) (WS.imp (WS.bind w) λi X ω1 S e1 b a=>?_);cases i with |rt x=>show WS.now (E:=E) b a|nx ρ=>show λM j=>WS.now b a .non .non|bk ρ|ct ρ=>show a.elim
end
def okS(F:l! K x qual st f fd)(S:qz N o (aK st))(d:o.length=n)(hm:N.length=m)(j:J=c7 m g)(a:∀(c)(A)(outer)(s)(H)(E),ik k (A.deeper (z_ qual (aK st) s.heap.objs.size f c))->∃t,nh (jz rj P w K C base N qual (aK st) f c A outer s H E).nox (eX st) t/\xO K E t g):ek P w K C base rj (k+1) f fd o (lM K n J):=by subst j hm;show F.ok S (λl H Q E h=>h.1.trans d.symm) (λc A outer s H l Q E i h=>?_);let(t,b,e):=a c A _ s H E i;show#[t,b,vg (xs:=[]) e h]
def abp(F:l! K x qual st f fd)(S:qz N C (aK st))(d:C.length=n)(hm:N.length=m)(q:U=c7 m g)(e:∀(c)(A)(outer)(s)(H)(E),ik k (A.deeper (z_ qual (aK st) s.heap.objs.size f c))->∃t,nh (jz (L4.pZ P w) P w K J base N qual (aK st) f c A outer s H E) (eX st) t/\xO K E t g):ek P w K J base (L4.pZ P w) (k+1) f fd C (lM K n U):=by subst q hm;let(y,v,kV,r,u,z,c,ct,i,0,j,b):=F.ex;show Ng j b S (λB H Q E h=>h.1.trans d.symm) λA outer s H B Q E p a=>?_;let(t,l,o):=e c A _ s H E p;show#[t,l,vg (xs:=[]) o a]
end L10
namespace PySem.W
open PySem PySem.Calls PyProof.Rows PyProof.V PySem.Spec
section
def oF(K:KdlSrc prog w T r d n P C)(j:A.handled=CL)(hok:C s.heap)(q:n<=eg)(m:∀c k acc,(∀b o,s.heap.get? b=G o->c.get? b=G o)->HJ P acc n->Q acc.toList {s with heap:=c,toks:=k}):wpAny (model prog w) A (collect (.ref r)) Q E s:=by let a:=K.there _ hok;show bY (wpAny_runValue (x! F.entry_proto_collect ?_));show bY (vo ?_);show ew #[w? F.plain_list_iadd _,x! F.entry_list_iadd ?_];let l:(s.heap.push _).get? _=G {cls:=.type "list",data:=.seq ([]).toArray}:=b4 _ W;show kdl_extend (R:=wants _ E) K j (K.keep _ _ hok λb _ o e=>bg _ e) _ (n? a.1) (n? a.2) _ 0 l (λc k g p i f h=>?_) q;show bY (AL f (ew (m c k g (λb o e=>i b o (iF (br e)) (bg _ e)) h)))
end
end PySem.W
namespace PyProof.Rows
open PySem
section
def aea(K:PySem.W.KdlSrc prog w T r d n P C)(j:A.handled=CL)(hok:C s.heap)(g:n<64)(m:∀acc,HJ P acc n->IntsAre acc.toList ns)(h:∀(a k:Heap)(c)(out)(e)(ms),(∀b o,s.heap.get? b=G o->a.get? b=G o)->k.get? a.objs.size=G (seqObj "list" out e)->(∀b o,a.get? b=G o->k.get? b=G o)->IntsAre out.toList ms->ms.Perm ns->ms.Pairwise (·<=·)->Q (.ref a.objs.size) {s with heap:=k,toks:=c}):wpAny (model prog w) A (call (.builtin "sorted") [.ref r]) Q E s:=by show Calls.call_function_entry kind_sorted plain_sorted entry_sorted (args_sorted1 _) (bY (ew (bY (PySem.W.oF K j hok (by rw[B_];ext) (λa c acc i v=>bY (HK ?_ (hsz:=by simp[J?,v.1,B_];ext)))))));let f:(a.push _).get? _=G (seqObj "list" acc.toList.toArray 0):=b4 _ W;show bY (qi (vr slot_list_sort #[_,f,W] entry_list_sort (list_sort_tree f (m acc v) (by rw[J?,v.1];show g) λout ms t q p=>#[_,W,ew #[_,W,?_]]) (args_list_sort _)));let(e,l):=u9 f;show h a _ c out e ms i l (λb u z=>tZ (iF (br z)) (bg _ z)) t q p
end
end PyProof.Rows
namespace L10
open PySem PySem.Spec PyProof.Rows L2 L3
def Vr(p d:aT):HO:=.ext λh=>h.IsValuesView p d
def ZD(x:h.IsValuesView p d):eH P w H h p (Vr p d):=#[x,by let(o,a,_):=x;show#[o,a],λf e#[o,a,b]k=>#[o,k o a,b]]
def S6:V->I V->Hp->VK->Prop:=λx e H Q=>∃a b,x=.ref a/\e=[]/\H a=G (.dK b)/\∀p,H p=CL->Q (.ref p) (bW H p (Vr p a))
def aiM:S4 X "dict.values" S6:=by
 intro g s l H x xs v m Q I n f h;let(a,r,0,0,e,q):=h
 injections;subst_vars
 ext f;let(z,j,p,i,dd):=Bw I.hok e;show call_meetsIn Ky dd.typeIs PySem.F.entry_dict_values (PySem.F.args_dict_values_1 _) (meets_dict_values _ a j) #[#[p,dd],(#[.ref _,_,I.laid (λb o e=>bg _ e) (dc _) (ZD #[_,b4 _ W,W,W]),W,q _ (I.hok.fresh (dc _))])]
def NR:I V->Hp->VK->Prop:=λxs H Q=>∃p a b,xs=[.ref p]/\H p=G (Vr p a)/\H a=G (.dK b)/\∀l,H l=CL->Q (.ref l) (bW H l (.lst (b.map (·.2))))
def SK:∀{b:I (o×V)}{c:I (o×a_)},KV b c->b_ (b.map (·.2)) (c.map (·.2)):=by
 intro _ _ a
 induction a with |nil=>show .nil|@cons _ _ _ _ h t e=>show .cons h.2 (e)
def ael(m:X.calm=Ld):lT X (.type "list") NR:=by
 intro g s B H xs C Q I r h;let(p,a,O,0,t,e,q):=h;let(u,0,F):=iO r
 injections;subst_vars
 let(z,G,P,b,dd):=Bw I.hok e;let(L,A):=dd.dictAt;let(i,_,_):=I.hok p _ t;show PySem.W.kdl_call (PySem.W.kdl_values) (I.ok.hd m) #[i,A] (by rw[<-b.length];show z) λJ E f c l n N=>?_;let y:=PySem.W.kdl_vals_eq _ (N.1) λj v w=>N.2 j v (by rw[<-U!];show w);show#[.ref _,_,I.laid (o:=.lst _) l (dc _) #[by rw[dO];show z,f.toList,c,by rw[y];show SK b,n],W,q _ (I.hok.fresh (dc _))]
def Mm:I V->Hp->VK->Prop:=λxs H Q=>∃(p:aT)(e:I _)(a:I Int),xs=[.ref p]/\H p=G (.dK e)/\e.map (·.1)=a.map Sum.inl/\a.length<64/\∀(l)(b:I Int),H l=CL->b.Perm a->b.Pairwise (·<=·)->Q (.ref l) (bW H l (.lst (b.map V.int)))
theorem xm:∀{c:I (gY×a_)}{ns:I Int}{a:I a_},c.map (·.1)=ns.map Sum.inl->a.length=c.length->(∀(j:Nat)(l),a[j]?=G l->∃k x,c[j]?=G (k,x)/\(eO prog w).is k l=Ld)->IntsAre a ns |[],[],[],_,_,_=>.nil|[],[],_::_,_,h,_|[],_::_,_,h,_,_|_::_,[],_,h,_,_|_::_,_::_,[],_,h,_=>by contradiction|(k,y)::c,n::ns,l::a,h1,o,m=>by simp only[l4,l4,avr]at h1;let(i,x,e,f):=m 0 l W;ext e;let g:=h1.1;subst g;let(t,0):=a_.isInt_shape (f);show .cons _ _ (xm h1.2 (by simpa using o) λj b e=>m (j+1) b (by simpa using e))
def ad4(C:X.calm=Ld):lT X (.builtin "sorted") Mm:=by
 intro g s M H xs N Q I r h;let(p,kvs,i,0,e,F,E,q):=h;let(u,0,P):=iO r
 injections;subst_vars
 let(z,B,Z,b,dd):=Bw I.hok e;let(U,J):=dd.dictAt;let l:Z.map (·.1)=i.map Sum.inl:=by rw[<-b.keys];show F
 let R:Z.length=i.length:=by simpa using(dt A? l)
 show aea (PySem.W.kdl_dict B) (I.ok.hd C) J () (λL Y=>xm l (Y.1) λj v G=>Y.2 j v (by rw[<-U!];show G)) λS T O o e2 t y A f Y m w=>?_;let a:=m.length_eq;let n:=I.kept (t':=s.toks) y;show#[.ref _,_,n.laid f (dc _) ?_,W,q _ t (n.hok.fresh (dc _)) m w];show#[?_,_,e2,mG Y,A];rw[dO,a];let:(64)<=eg:=by decide
 ext
end L10
namespace PySem
open Sem(wp)
namespace F
def m9:typeLookup (.type "tuple") "keys"=pure CL:=by kernel_rfl
def m_:typeLookup (.type "tuple") "__getattr__"=pure CL:=by kernel_rfl
def o?:isSubtype (.type "AttributeError") (.type "AttributeError")=pure u:=by kernel_rfl
end F
section
variable{Z:OsState}
def aem{Q:α->d_->Prop}(hm:msg.length<=eg)(i:A.handled=CL)(f:∀e c j,(∀b o,h.get? b=G o->c.get? b=G o)->(#[c,g,d,j,Z]:d_).TypeIs e "AttributeError"->E e #[c,g,d,j,Z]):wpAny (model prog w) A (raiseAttrError (.ref a) name msg) Q E #[h,g,d,t,Z]:=by
 unfold raiseAttrError newExc newTuple
 repeat(any_goals(first|assumption|wp_step))
 show G? F.o? ?_
 repeat(any_goals(first|assumption|wp_step))
 show wpAny_raiseNew_none i (f _ _ _ (λb o e=>?_) ?_)
 .show(b5 _ _ (cx (iF (br (bg _ e))))).trans (bg _ (bg _ e))
 .show#[_,b7 _ (b4 _ W) W,W]
def tP(f:h.get? a=G #[.type "tuple",CL,.seq C n,U])(j:A.handled=CL)(i:∀e c k,(∀b o,h.get? b=G o->c.get? b=G o)->(#[c,g,d,k,Z]:d_).TypeIs e "AttributeError"->E e #[c,g,d,k,Z]):wpAny (model prog w) A (e?.«object.__getattribute__» #[[.ref a,.str "keys" J],[]]) Q E #[h,g,d,t,Z]:=by
 let l:(#[h,g,d,t,Z]:d_).TypeIs (.ref a) _:=#[_,f,W];let m:=F.m9
 repeat(any_goals(first|assumption|wp_step))
 show aem (by left) j i
def xT(f:h.get? a=G #[.type "tuple",CL,.seq C n,U])(l:A.handled=CL)(i:∀e c k,(∀b o,h.get? b=G o->c.get? b=G o)->(#[c,g,d,k,Z]:d_).TypeIs e "AttributeError"->E e #[c,g,d,k,Z]):wpAny (model prog w) A (getAttrBy (.ref a) (.str "keys" J) M) Q E #[h,g,d,t,Z]:=by
 let p:(#[h,g,d,t,Z]:d_).TypeIs (.ref a) "tuple":=#[_,f,W];let u:=F.slot_tuple_getattribute.lookup;let r:=F.slot_tuple_getattribute.bind (.ref a);let q:=F.m_
 repeat(any_goals(first|assumption|wp_step))
 show S1 F.slot_tuple_getattribute.plain F.entry_tuple_ga (F.slot_tuple_getattribute.check _ _ _ _ _ _ _ _ p (F.args_tuple_getattribute_2 _ _) (tP f l λe c k j m=>?_));let fs:=F.o?
 repeat(any_goals(first|assumption|wp_step))
 show i e c k j m
def uf(f:h.get? a=G #[.type "tuple",CL,.seq C n,J])(l:A.handled=CL)(i:∀c k,(∀b o,h.get? b=G o->c.get? b=G o)->Q CL #[c,g,d,k,Z]):wpAny (model prog w) A (getAttr? (.ref a) "keys") Q E #[h,g,d,t,Z]:=by
 let fs:=F.o?
 repeat(any_goals(first|assumption|(specialize xT f l λe c k j m=>?_)|wp_step))
 show i c k j
namespace F
def ja:entryFor table "dict.update.loop"=G e?.«dict.update.loop»:=entryFor_of_tree (by kernel_rfl)
def hZ:plainId "dict.update.loop"=u:=by left
end F
end
section
variable{A:m3}{s:d_}{K:Type}[DecidableEq K]{knd:KeyKind prog w K}{I dd Y:aT}{Z:Array a_}{ks:a8 (K×a_)}
def aff(a)(k:K)(v):(stored a k v).length<=a.length+1:=by
 ext stored;split
 .simp_all
 .rw[jl];show dc _
theorem tW:∀(a c:a8 (K×a_)),(merged c a).length<=c.length+a.length|[],c=>dc _|p::r,c=>by let e:=tW r (stored c p.1 p.2);let b:=aff c p.1 p.2;show(merged (stored c p.1 p.2) r).length<=_;simp only[j_];ext
def acD(a:a8 (K×a_)):(merged [] a).length<=a.length:=by simpa using(tW a [])
def akT{N:Heap}(V:A.handled=CL)(C:Y≠I)(M:I≠dd)(L:Y≠dd)(D:∀(i:Nat)(v),Z[i]?=cL v->∃q key k x,v=.ref q/\q≠dd/\q≠I/\ks[i]?=cL (k,x)/\knd.is k key=Ld/\N.IsTuple q #v[key,x])(hs:ks.length=Z.size)(hz:Z.size<=eg)(hR:∀c d,c.DictOf knd dd (merged [] ks)->(∀b o,b≠dd->b≠I->N.get? b=cL o->c.get? b=cL o)->R (.ok (.ret .none)) {s with heap:=c,toks:=d}):∀(m i)(h)(d),Z.size-i=m->i<=Z.size->h.IsTupleIter I Y i->h.IsTuple Y Z->h.DictOf knd dd (merged [] (ks.take i))->(∀b o,b≠dd->b≠I->N.get? b=cL o->h.get? b=cL o)->codeAny (model prog w) A (.builtin "dict.update.loop" #[[.ref dd,.ref I,rawInt i,.none],[]]) R {s with heap:=h,toks:=d}:=by
 let W:=v'.tuple (prog:=prog) (w:=w) (A:=A.in1) V I Y C Z;intro m
 induction m with |zero=>
  intro i h d hm hi y t r kp;let e:i=Z.size:=by ext
  subst e;show x! F.ja ?_;show bY (W.done _ _ _ #[y,t] λc f g=>?_);rw[q0 ()]at r;show bY (ew (ew (hR c f (r.at λo e=>g dd o (by simp;show λz=>M z.symm) e) λb o j a e=>g b o (by simp;show a) (kp b o j a e))))|succ m U=>
  intro i h d hm hi y t r kp;let p:i<Z.size:=by ext
  show x! F.ja ?_;rw[m3.under_plainId F.hZ _];show bY (W.item i _ _ _ p #[y,t] λv c f X P g=>?_);let(q,key,k,x,0,B,l,G,E,ht):=D i v X;let O:=r.at λo e=>g dd o (by simp;show λz=>M z.symm) e;let u:=λb o j a e=>g b o (by simp;show a) (kp b o j a e);let(T,n,J,nq,H):=(ht.at λo e=>g q o (by simp;show l) (kp q o B l e));let(cq,dq,dtq,Q):=T;ext J;ext H;let hT:({s with heap:=c,toks:=f}).TypeIs (.ref q) _:=#[_,n,rfl];show bY (qi (bY ?_));show P! ?_;show bY (N? hT ?_);show bY ?_;show bY (AL n (ew (ew ?_)));show qi (wpAny_dictSet_pairs E O (λa d2 S=>?_) ?_)
  .show ew #[w? F.hZ _,?_];let e2:∀b o,b≠dd->c.get? b=cL o->a.get? b=cL o:=λb o hb e=>(S.2 b hb).trans e;show U (i+1) a (f+1) () p (P.1.at λo e=>e2 I o M e) (P.2.at λo e=>e2 Y o L e) ?_ λb o j a e=>e2 b o j (u b o j a e);rw[merged_take_succ [] ks i _ G];show d2
  .let:(merged [] _).length<=(ks.take i).length:=acD _;rw[p']at this;ext
end
end PySem
namespace PySem
open Sem(wp)
open PyProof.Rows
section
variable{A:m3}{E:a_->d_->Prop}{s:d_}{K:Type}[DecidableEq K]{X:KeyKind prog w K}{Y:aT}{Z:Array a_}{U:a8 (K×a_)}
def uh(z:A.handled=CL)(y:s.heap.get? Y=cL #[.type "tuple",CL,.seq Z n,sl])(C:U.length=Z.size)(D:Z.size<=eg)(G:∀(i:Nat)(v),Z[i]?=cL v->∃q key k x,v=.ref q/\U[i]?=cL (k,x)/\X.is k key=Ld/\s.heap.IsTuple q #v[key,x])(h:∀c d,c.DictOf X s.heap.objs.size (merged [] U)->(∀b o,s.heap.get? b=cL o->c.get? b=cL o)->Q (.ref s.heap.objs.size) {s with heap:=c,toks:=d}):wpAny (model prog w) A (call (.type "dict") [.ref Y]) Q E s:=by
 show callType_codes (Q₁:=λobj f=>obj=.ref _/\f={s with heap:=s.heap.push _}) F.kt_called_dict (F.kt_typeCall_dict_1 _) F.entry_dict_init (kt_code_dict_new _ #[W,W]) ?_;rintro obj f ⟨rfl,rfl⟩;let a:(s.heap.push _).DictOf X _ []:=Heap.DictOf.new _;let g:(s.heap.push {cls:=.type "dict",data:=.dict #v[]}).get? Y=cL _:=bg _ y;let H:({s with heap:=s.heap.push _}).TypeIs (.ref Y) _:=#[_,g,W];show#[a.typeIs,F.args_dict_init_2 _ _,?_];show bY ?_;show bY (wpAny_notOrdered_dict a.typeIs ?_);show ew ?_;show bY (N? H ?_);show bY (uf g z λc B m=>?_);show bY (F? ?_);let l:=m _ _ g;show bY (C? (#[_,l,W,n,W]) ?_);show ew #[w? F.hZ _,?_];let Yk:s.heap.objs.size<c.objs.size:=by let(o,_,_,p,_):=a;show br (m _ _ p)
 let j:=br y;show akT (A:=A.in1) (knd:=X) z (iF (x? j Yk)) (n? Yk) (iF j) (λi v e=>?_) C D (λt r L k2=>?_) Z.size 0 _ B () (mT _) #[_,b4 _ W,W,W] #[_,bg _ l,W,n,W] ?_ λb o _ _ e=>e
 .let(q,key,k,x,0,J,t,o,p,I):=G i v e;let u:=br p;show#[q,key,k,x,W,iF u,iF (x? u Yk),J,t,o,bg _ (m _ _ (bg _ p)),I]
 .show#[W,h t r L λb o e=>?_];let lb:=br e;show k2 b o (iF lb) (iF (x? lb Yk)) (bg _ (m _ _ (bg _ e)))
 .show(a.at (h':=c.push {cls:=.type "tuple_iterator",data:=.fields #v[.ref Y,.int 0 0]}) λo e=>bg _ (m _ _ e))
end
end PySem
namespace L10
open PySem PySem.Spec PyProof.Rows L2 L3
inductive As(K)(H):I V->I (gY×V)->Prop|nil:As K H [] []|cons{vs:I V}{kvs:I _}:hY K H q [kV k,v]->As K H vs kvs->As K H (.ref q::vs) ((k,v)::kvs)
def Nd(K:lD):I V->Hp->VK->Prop:=λxs H Q=>∃p ys a,xs=[.ref p]/\hY K H p ys/\As K H ys a/\∀d,H d=CL->Q (.ref d) (bW H d (.dK (tH [] a)))
theorem M6(I:a! X pins σ H s):∀{m:a8 V}{d:a8 (gY×V)}{j:a8 a_},As X.K H m d->b_ m j->∃w,KV d w/\w.length=j.length/\∀(i:Nat)(v),j[i]?=G v->∃q key k x,v=.ref q/\w[i]?=G (k,x)/\(eO X.prog X.w).is k key=Ld/\s.heap.IsTuple q #v[key,x]
 |_,_,_,.nil,.nil=>#[[],.nil,W,λi v e=>by simp at e]|_,_,_,.cons (q:=q) (k:=k) (v:=v) h t,.cons r rs=>by
  let(w,y,z,p):=M6 I t rs;let(l,A,pl,_):=I.tuple h;ext r;obtain⟨g,f,rfl,o,n⟩:∃g f,l=[g,f]/\b? (kV k) g/\b? v f:=by cases A with|cons a b=>cases b with|cons b c=>ext c;show#[_,_,W,a,b]
  show#[(k,f)::w,.cons #[W,n] y,by simp_all,λi u e=>?_];cases i with |zero=>ext e;show#[q,g,k,f,W,W,yB o,pl]|succ i=>show p i u (by simpa using e)
def afk(C:X.calm=Ld):lT X (.type "dict") (Nd X.K):=by
 intro b s E H xs G Q I r h;let(p,F,S,0,m,t,q):=h;let(u,0,L):=iO r
 injections;subst_vars
 let(j,T,(o,w,(a,n,P),B),l):=I.alq m;let(O,k1,k2,k3):=M6 I t T;let(N,M,g,f):=o;subst a;injections;subst_vars;injections;subst_vars;let y:=T.length;let z:=k1.length;show uh (I.ok.hd C) w (k2) (by rw[lE,<-y];show l) (λi v e=>k3 i v (by simpa using e)) λR J dd A=>?_;show#[.ref _,_,I.laid A (dc _) ?_,W,q _ (I.hok.fresh (dc _))];show ES ?_ ?_ (KV.merge k1 .nil) dd
 .let:=p7 S [];rw[C!]at this;ext
 .show beq_eq_false_iff_ne.mpr (n? I.big)
end L10
namespace L10
open PySem PyProof.Rows L2 L3
def XO:ni "dict"=G (.type "dict"):=by left
section
variable{K:lD}
def xx:SV->bb gY |.fz (.int i)=>G (.inl i)|.fz (.str x)=>G (.inr x)|_=>CL
def uM(e:xx x=G k)(h:gd O K H α v x):v=kV k:=by
 unfold xx at e;split at e
 .ext e;ext h;rfl
 .ext e;ext h;rfl
 trivial
abbrev A0(O:iP)(K:lD)(H:Hp)(α:I aT):I (gY×V)->I (gY×SV)->Prop:=Paired (λ(p)(q)=>p.1=q.1/\gd O K H α p.2 q.2)
def lg(b:cj):SV->bb (Nat×I (gY×SV))
 |.rf i=>match b[i]? with |some (.dct a)=>G (i,a)|_=>CL
 |_=>CL
def rq(s:ee B K H α o)(b:gd (ow B α o) K H α v x)(h:lg o x=G (i,C)):o[i]?=G (.dct C)/\∃a ws,α[i]?=G a/\v=.ref a/\H a=G (.dK ws)/\A0 (ow B α o) K H α ws C:=by cases x with|fz d|tp l=>ext h|rf j=>let(a,m,0):=b;unfold lg at h;dsimp only at h;cases q:o[j]? with|none=>ext|some c=>rw[q]at h;cases c with|dct g=>cases(lp h);let(ws,f,e):=s.cel i a _ m q;show#[q,a,ws,m,W,f,e]|_=>trivial
def pY(b:I (gY×SV))(k:gY):bb SV:=(b.find? λa=>decide (a.1=k)).map (·.2)
def oi(b:I (gY×SV))(k:gY)(x:SV):I (gY×SV):=if(b.any λa=>decide (a.1=k))=u then b.map (λa=>if a.1=k then(a.1,x)else a)else b++[(k,x)]
def qH(b:I (gY×SV))(k:gY):I (gY×SV):=b.filter λa=>decide (a.1≠k)
def zB:∀{ws:I _}{c:I (gY×SV)},A0 O K H α ws c->(∀x,pY c k=G x->∃v,om ws k=G v/\gd O K H α v x)/\(pY c k=CL->om ws k=CL):=by
 intro _ _ f
 induction f with|nil=>show#[λx e=>(by contradiction),λ_=>W]|@cons m l ws c j t n=>
  let(a,u):=m;let(b,y):=l;let(i,g):=j
  injections;subst_vars
  unfold pY om;rw[C3,C3];by_cases e:a=k
  .simp only[a4 e];show#[λx h=>#[u,W,by simp_all],λh=>by contradiction]
  .simp only[a5 e];show n
def abC:∀{ws:I _}{b:I (gY×SV)},A0 O K H α ws b->(ws.any λc=>decide (c.1=k))=b.any λc=>decide (c.1=k):=by
 intro _ _ a
 induction a with |nil=>show W|@cons g f ws b e t h=>ext
def abH(g:gd O K H α v x):∀{ws:I _}{c:I (gY×SV)},A0 O K H α ws c->A0 O K H α (ws.map (λd=>if d.1=k then(d.1,v)else d)) (c.map (λd=>if d.1=k then(d.1,x)else d)):=by
 intro _ _ f
 induction f with |nil=>show .nil|@cons n m ws c l t j=>
  let(a,u):=n;let(b,y):=m;let(i,h):=l
  injections;subst_vars
  rw[l4,l4];by_cases e:a=k
  .rw[ax e,ax e];show .cons #[W,g] (j)
  .rw[aE e,aE e];show .cons #[W,h] (j)
def alU(h:A0 O K H α ws o)(r:p.1=q.1/\gd O K H α p.2 q.2):A0 O K H α (ws++[p]) (o++[q]):=by induction h with |nil=>show .cons r .nil|cons a _ b=>show .cons a b
def Ht(a:gd O K H α v x)(h:A0 O K H α ws o):A0 O K H α (mK ws k v) (oi o k x):=by
 unfold mK oi;rw[abC h];split
 .show abH a h
 .show alU h #[W,a]
def Og:∀{ws:I _}{c:I (gY×SV)},A0 O K H α ws c->A0 O K H α (rH ws k) (qH c k):=by
 intro _ _ f
 induction f with |nil=>show .nil|@cons m l ws c j t i=>
  let(a,u):=m;let(b,y):=l;let(h,g):=j
  injections;subst_vars
  unfold rH qH;simp only[T_,T_];by_cases e:a=k
  .let z:decide (a≠k)=M:=a5 λn=>n e;simp only[z];show i
  .let z:=a4 e;simp only[z];show .cons #[W,g] (i)
def xD(e:Bool)(f g:gW):gW:=λh i=>(f h i).bind λx b=>(g h b).bind λo a=>(RS.bR a (xx x)).bind λk a=>(RS.bR a (lg a o)).bind λp a=>.ok (.fz (.bool ((pY p.2 k).isSome !=e))) a
def KB(h:A0 O K H α ws o):(om ws k).isSome=(pY o k).isSome:=by let(b,a):=zB h;cases q:pY o k with|none=>rw[a q];rfl|some x=>let(u,e,_):=b x q;rw[e];rfl
def RJ(z:eD K E U fk)(hd:eD K E td fd):eD K E (Y8 U td) (xD M fk fd):=by intro B g H α L J Q s h w;show z B g H α L J _ s h (w.bind.imp λx f e F e1 p n v t=>?_);show hd B g F f e J _ p (h.evo e1) (n.bind.imp λo m l G e2 j b u y=>?_);let(k,r,b):=WS.bR b;let((i,N),q,b):=WS.bR b;let(_,a,ws,O,0,C,A):=rq j y q;show#[a,_,W,by rw[uM r t];show sy.k C,?_];rw[KB A];show WS.now j b _ ?_;rw[Bool.bne_false];show .bl _
def yt(f e:gW):gW:=λg h=>(f g h).bind λo b=>(e g b).bind λx a=>(RS.bR a (xx x)).bind λk a=>(RS.bR a (lg a o)).bind λp a=>RS.bR a (pY p.2 k)
def alR(hd:eD K E td fd)(I:eD K E U fk):eD K E (Te td U) (yt fd fk):=by intro B g H α R P Q s h w;show hd B g H α R P _ s h (w.bind.imp λo f e M e1 r n u G=>?_);show I B g M f e P _ r (h.evo e1) (n.bind.imp λx m l N e2 j b v F=>?_);let(k,A,b):=WS.bR b;let((i,O),t,b):=WS.bR b;let(_,a,ws,S,0,L,J):=rq j (G.evo e2) t;cases q:pY O k with|none=>rw[q]at b;show b.elim|some y=>rw[q]at b;let(z,C,p):=(zB J).1 y q;show#[a,z,W,by rw[uM A F,<-C];show sy.k L,WS.now j b z p]
def yP(h g f:gW):iL:=λi j=>(f i j).bind λy e=>(h i e).bind λo b=>(g i b).bind λx a=>(RS.bR a (xx x)).bind λk a=>(RS.bR a (lg a o)).bind λp a=>if p.2.length<1000000 then .ok (.nx i) (a.set p.1 (.dct (oi p.2 k y)))else .bad
def alz(hd:eD K E td fd)(R:eD K E tk fk)(P:eD K E tv fv):xO K E (TN td tk tv) (yP fd fk fv):=by
 intro B g H α ω Z D s j w;show P B g H α ω Z _ s j (WS.imp (WS.bind w) λy q n U e1 L I A v=>?_);show hd B g U q n Z _ L (j.evo e1) (WS.imp (WS.bind I) λo p m T e2 J G u Q=>?_);show R B g T p m Z _ J (j.evo (e1.trans e2)) (WS.imp (WS.bind G) λx b f l e3 C e z O=>?_);let(k,N,e):=WS.bR e;let((i,Y),M,e):=WS.bR e;let(t,a,ws,ha,0,S,F):=rq C (Q.evo e3) M;dsimp only at e;by_cases hn:Y.length<1000000
 .rw[ax hn]at e;let ev:Ev _ l (ow B b f) (bW l a (.dK (mK ws k A))):=xn ha t (by intro z;simp_all);let e4:d6 b f l b (f.set i (.dct (oi Y k y))) (bW l a (.dK (mK ws k A))):=d6.put ha t (by intro z;trivial) (by intro z;simp_all);let X:=Paired.length F;show#[a,_,W,by rw[uM N O];show F'.k S (yj ()),(e b _ e4 (C.put ha t (by intro z;simp_all) (by intro z;trivial) #[_,aR,Ht ((v.evo (e2.trans e3)).ev ev λ_ _ h=>h) (Paired.aes F λ_ _ r=>#[r.1,r.2.ev ev λ_ _ h=>h])]) g ((j.evo (e1.trans (e2.trans e3))).evo e4))]
 .rw[aE hn]at e;show e.elim
def x9(f e:gW):gW:=λg h=>(f g h).bind λo b=>(RS.bR b (lg b o)).bind λ_ b=>(e g b).bind λx a=>(RS.bR a (xx x)).bind λk a=>(RS.bR a (lg a o)).bind λp a=>(RS.bR a (pY p.2 k)).bind λy a=>.ok y (a.set p.1 (.dct (qH p.2 k)))
def NC(hd:eD K E td fd)(R:eD K E tk fk):eD K E (KC td tk) (x9 fd fk):=by intro B t H α ω ρ Q s A w;show hd B t H α ω ρ _ s A (w.bind.imp λo l j X e1 F n u G=>?_);let((Y,U),N,n):=WS.bR n;let(_,a,m,_,0,g0,_):=rq F G N;show#[a,W,.inl #[m,.inl g0],?_];show R B t X l j ρ _ F (A.evo e1) (n.bind.imp λx b f g e2 C e v P=>?_);let(k,M,e):=WS.bR e;let((i,kvs),L,e):=WS.bR e;let(p,Z,ws,ha,T,S,I):=rq C (G.evo e2) L;ext T;dsimp only at e;let(y,q,e):=WS.bR e;let(z,O,J):=(zB I).1 y q;let ev:Ev _ g (ow B b f) (bW g a (.dK (rH ws k))):=xn ha p (by intro z;simp_all);let e4:d6 b f g b (f.set i (.dct (qH kvs k))) (bW g a (.dK (rH ws k))):=d6.put ha p (by intro z;trivial) (by intro z;simp_all);show#[ws,k,z,S,uM M P,O,(e b _ e4 (C.put ha p (by intro z;simp_all) (by intro z;trivial) #[_,aR,Og (Paired.aes I λ_ _ r=>#[r.1,r.2.ev ev λ_ _ h=>h])]) z (J.evo e4))]
def wR(s:ee B K H α C)(a:H p=CL)(w:WS K E B H α C (PQ B K Q) (.ok (.rf C.length) (C++[c])))(f:∀e:d6 α C H (α++[p]) (C++[c]) (bW H p o),vw (ow B (α++[p]) (C++[c])) K (bW H p o) (α++[p]) p c):Q (.ref p) (bW H p o):=by let b:g_ H (bW H p o):=bq a _;let e:d6 α C H _ (C++[c]) _:=d6.agR s.len b a;show w _ _ e (s.agR b a (by rw[aR];simp) (f e)) _ #[p,by rw[<-s.len];show aO,W]
def Cm(b:gW):gW:=λf e=>(b f e).bind λo a=>(RS.bR a (lg a o)).bind λp a=>.ok (.rf a.length) (a++[.lst (p.2.map (·.2))])
def KK:∀{ws:I _}{b:I (gY×SV)},A0 O K H α ws b->i_ O K H α (ws.map (·.2)) (b.map (·.2)):=by
 intro _ _ a
 induction a with |nil=>show .nil|@cons _ _ _ _ h t e=>show .cons h.2 (e)
def alc(hd:eD K E U fd):eD K E (FW NR (jM (ZM K "dict" S6 U) lW)) (Cm fd):=by intro B n H α J L Q s v w;show hd B n H α J L _ s v (w.bind.imp λo q m j e1 h f u z=>?_);let((i,N),y,f):=WS.bR f;let(G,a,ws,O,0,g,F):=rq h z y;show#[.inr (.inr (.inl #[W,.inl #[ws,g]])),a,ws,W,W,g,λp A=>?_];let b:g_ j (bW j p (Vr p a)):=bq A _;let t:=WS.from (d6.same b) f;show#[p,a,ws,W,aR,b _ _ g,λl C=>?_];show wR (h.grow b) C t λe=>#[_,aR,KK (Paired.aes F λ_ _ r=>#[r.1,(r.2.evo (d6.same b)).evo e])]
def C5:gY->bb Int|.inl i=>G i|.inr _=>CL
def yz(e:gW):gW:=λg f=>(e g f).bind λo a=>(RS.bR a (lg a o)).bind λp a=>(RS.bR a (aQ C5 (p.2.map (·.1)))).bind λb a=>if b.length<64 then .ok (.rf a.length) (a++[.lst ((p8 b).map λi=>SV.fz (.int i))])else .bad
theorem vq:∀{b:I gY}{ns:I Int},aQ C5 b=G ns->b=ns.map Sum.inl |[],_,e=>by injections;subst_vars;rfl|k::r,ns,e=>by unfold aQ at e;cases k with |inr x=>contradiction|inl i=>dsimp only[C5]at e;cases q:aQ C5 r with |none=>ext|some a=>
    rw[q]at e
    injections;subst_vars
    rw[l4,<-vq q]
def alV:∀{ws:I _}{b:I (gY×SV)},A0 O K H α ws b->ws.map (·.1)=b.map (·.1):=by
 intro _ _ a
 induction a with |nil=>show W|@cons _ _ _ _ h t e=>ext
theorem Hi(O)(K)(H)(α):∀ns:I Int,i_ O K H α (ns.map V.int) (ns.map λi=>SV.fz (.int i))|[]=>.nil|n::r=>.cons (.int n) (Hi O K H α r)
def MK(hd:eD K E U fd):eD K E (FW Mm (jM U lW)) (yz fd):=by
 intro B j H α J L Q s n w;show hd B j H α J L _ s n (w.bind.imp λo m h I e1 g b u r=>?_);let((i,N),q,b):=WS.bR b;let(F,a,ws,O,0,A,z):=rq g r q;let(f,p,b):=WS.bR b;by_cases hn:f.length<64
 .rw[ax hn]at b;show#[a,ws,f,W,A,by rw[alV z];show vq p,hn,λl G y v t=>?_];let C:=pp (v.trans (gQ f).symm) t (gl f);subst C;show wR g y b λe=>#[_,aR,Hi _ _ _ _ _]
 .rw[aE hn]at b;show b.elim
def yr:D->bb (gY×SV) |.tuple [.int i,d]=>G (.inl i,.fz d)|.tuple [.str x,d]=>G (.inr x,.fz d)|_=>CL
def zd:SV->bb (I (gY×SV)) |.fz (.tuple ds)=>aQ yr ds|_=>CL
def ajn(e:zd x=G o):∃ds,x=.fz (.tuple ds)/\aQ yr ds=G o:=by
 unfold zd at e;split at e
 .show#[_,W,e]
 trivial
def qS(c a:I (gY×SV)):I (gY×SV):=a.foldl (λb e=>oi b e.1 e.2) c
def yE(c:gW):gW:=λe b=>(c e b).bind λx a=>(RS.bR a (zd x)).bind λf a=>.ok (.rf a.length) (a++[.dct (qS [] f)])
theorem BL:∀{k:I V}{ds:I D}{j:I (gY×SV)},L3.DVs O K H k ds->aQ yr ds=G j->∃g,As K H k g/\A0 O K H α g j |_,_,_,.nil,e=>by injections;subst_vars;show#[[],.nil,.nil]|_,_,_,.cons (d:=d) (ds:=ds) h t,e=>by unfold aQ at e;cases q:yr d with |none=>rw[q]at e;contradiction|some p=>rw[q]at e;cases i:aQ _ ds with|none=>rw[i]at e;contradiction|some j=>
    rw[i]at e
    injections;subst_vars
    let(g,k1,k2):=BL t i;unfold yr at q;split at q
    .injections;subst_vars
     cases h with|tup h f=>cases f with|cons a b=>cases b with|cons b c=>ext c;ext a;show#[(.inl _,_)::g,.cons h.1 k1,.cons #[W,b] k2]
    .injections;subst_vars
     cases h with|tup h f=>cases f with|cons a b=>cases b with|cons b c=>ext c;ext a;show#[(.inr _,_)::g,.cons h.1 k1,.cons #[W,b] k2]
    .contradiction
theorem Fa:∀{e:I (gY×V)}{ms:I (gY×SV)}{ws:I _}{c:I (gY×SV)},A0 O K H α e ms->A0 O K H α ws c->A0 O K H α (tH ws e) (qS c ms)
 |_,_,_,_,.nil,h=>h|(a,i)::e,(b,y)::ms,_,_,.cons r t,h=>by
  let(g,f):=r
  injections;subst_vars
  show A0 O K H α (tH _ e) (qS _ ms);show Fa t (Ht f h)
def Nf(o:eD K E C J):eD K E (FW (Nd K) (jM C lW)) (yE J):=by intro B b H α y z Q s j w;show o B b H α y z _ s j (w.bind.imp λx f a t e1 l i u m=>?_);let(A,q,g):=WS.bR i;let(ds,0,q):=ajn q;cases m with|tup h n=>let(v,k1,k2):=BL n q;show#[_,_,v,W,h.1,k1,λd p=>wR l p g λe=>#[_,aR,Fa (Paired.aes k2 λ_ _ r=>#[r.1,r.2.evo e]) .nil]]
end
end L10
namespace PySem
open PyProof.Rows
def qY:bb Int->Int->bb Int |none,x=>G x|some m,x=>G (if x>m then x else m)
def YY:bb (Int×Tok)->Array a_ |none=>#v[]|some (m,t)=>#v[.int m t,.int m t]
def S9(d:a_):bb (Int×Tok)->a_ |none=>d|some (m,t)=>.int m t
namespace F
def qb(a b):checkBuiltinCall "max" #[[a],[("default",b)]]=pure ⟨⟩:=by kernel_rfl
end F
section
def PX(hh:A.handled=CL)(V:l≠I0)(r:S≠I0)(O:S≠l){s:d_}:∀{B:a8 a_}{ns:a8 Int},IntsAre B ns->∀(i)(h)(x)(b)(c),vs=vs.take i++B->i<=vs.length->h.IsListIter I0 l i->h.IsList l vs.toArray->h.get? S=cL {cls:=.type "list",dict:=CL,data:=.seq (YY b) c,slots:=#v[]}->(∀D x b',b'.map (·.1)=ns.foldl qY (b.map (·.1))->(∀a o,a≠I0->a≠S->h.get? a=cL o->D.get? a=cL o)->R (.ok (.ret (S9 d b'))) {s with heap:=D,toks:=x})->codeAny (model prog w) A (.builtin "max.loop" #[[.ref I0,.none,.ref S],[("default",d)]]) R {s with heap:=h,toks:=x}:=by
 let W:=v'.list (prog:=prog) (w:=w) (A:=A.in1) hh I0 l V vs.toArray;intro B ns hi
 induction hi with
 |nil=>
  intro i h x b c u hi Z Y Q M;let e:i=vs.toArray.size:=by rw[n9]at u;let:=dt A? u;rw[p']at this;rw[lE];ext
  show x! F.entry_max_loop ?_;rw[m3.under_plainId F.plain_max_loop _];show bY (ra Q rfl ?_);show bY (P! (W.done _ _ _ (e▸#[Z,Y]) λD g y=>?_));let f:=y S _ (by simpa using r) Q;cases b with |none=>show bY (F? (ew ?_));show M D g CL rfl λa o j z e=>y a o (by simpa using j) e|some p=>let(m,t):=p;show bY (B9 f rfl (bY (w_ (ew ?_))) (hz:=by show 2<=eg;decide));show M _ g (cL (m,t)) rfl λa o j z e=>(b5 _ _ (cx z)).trans (y a o (by simpa using j) e)
 |@cons n t aqf amT hr ih=>
  intro i h x b c u hi Z Y Q M;let E:i<vs.toArray.size:=by let:=dt A? u;rw[jl,p',j_]at this;rw[lE];ext
  let N:vs[i]?=cL (.int n t):=by rw[u,oq (by rw[p'];ext),p',O! hi,KY];rfl
  let C:vs=vs.take (i+1)++aqf:=by rw[rp,N];rw[pb];show u
  let G:i+1<=vs.length:=by rw[lE]at E;show E
  show x! F.entry_max_loop ?_;rw[m3.under_plainId F.plain_max_loop _];show bY (ra Q rfl ?_);show bY (P! (W.item i _ _ _ E #[Z,Y] λv D g hP L y=>?_));let ev:v=.int n t:=by let T:=hP;rw[List.getElem?_toArray,N]at T;show(lp T).symm
  subst ev;let f:=y S _ (by simpa using r) Q;let J:(toString "max"++toString ".loop":String)="max.loop":=by decide
  cases b with |none=>
   show wpAny _ A.in1 (updateSeq S (λ_=>#v[a_.int n t,a_.int n t])>>=_) _ _ _;show bY (B9 f rfl ?_);rw[J];show ew #[w? F.plain_max_loop _,ih (i+1) _ g (cL (n,t)) _ C G (L.1.at λo e=>?_) (L.2.at λo e=>?_) (b7 _ f rfl) λz q U e2 k2=>M z q U e2 λa o j H e=>k2 a o j H ((b5 _ _ (cx H)).trans (y a o (by simpa using j) e))]
   .show(b5 _ _ r).trans e
   .show(b5 _ _ O).trans e|some p=>
   let(m,t0):=p;show wpAny _ A.in1 (tryCatch _ _>>=_) _ _ _;let ars:=CmpOf.ints_gt (prog:=prog) (w:=w) (A:=A.in1) (P:=λ(k:Nat)v=>(k=0/\v=a_.int n t)\/(k=1/\v=a_.int m t0)) (λk=>if k=0 then n else m) λk v u=>by
    rcases u with⟨rfl,rfl⟩|⟨rfl,rfl⟩
    .show#[t,rfl]
    .show#[t0,rfl]
   show bY (P! (qi (bY (ars 0 1 _ _ _ _ _ (.inl #[rfl,rfl]) (.inr #[rfl,rfl]) ?_))));show bY (qi (t? ?_));show bY (w_ (ew ?_));show wpAny _ A.in1 (if decide (n>m)=Ld then _ else _) _ _ _;by_cases X:n>m
   .rw[ax (a4 X)]
    show bY (B9 f rfl (bY (w_ ?_)) (hz:=by show 2<=eg;decide));rw[J];show ew #[w? F.plain_max_loop _,ih (i+1) _ g (cL (n,t)) _ C G (L.1.at λo e=>?_) (L.2.at λo e=>?_) (b7 _ f rfl) λz q U e2 k2=>M z q U ?_ λa o j H e=>k2 a o j H ((b5 _ _ (cx H)).trans (y a o (by simpa using j) e))]
    .show(b5 _ _ r).trans e
    .show(b5 _ _ O).trans e
    .rw[e2];show _=amT.foldl qY (cL (if n>m then n else m));rw[ax X];rfl
   .rw[aE (by rw[a5 X];show ml)];show bY (w_ ?_);rw[J];show ew #[w? F.plain_max_loop _,ih (i+1) _ g (cL (m,t0)) c C G L.1 L.2 f λz q U e2 k2=>M z q U ?_ λa o j H e=>k2 a o j H (y a o (by simpa using j) e)];rw[e2];show _=amT.foldl qY (cL (if n>m then n else m));rw[aE X];rfl
def ajS(m:A.handled=CL)(h:s.heap.IsList l C.toArray)(q:IntsAre C ns)(p:∀c k b,b.map (·.1)=ns.foldl qY CL->(∀a o,s.heap.get? a=G o->c.get? a=G o)->Q (S9 d b) {s with heap:=c,toks:=k}):wpAny (model prog w) A (call (.builtin "max") [.ref l] [("default",d)]) Q E s:=by
 let g:l<s.heap.objs.size:=by let(_,e,_):=h;show br e
 show N_ (S1 F.plain_max F.entry_max (G? (F.qb _ _) ?_));show bY (G? (show e?.Builtins.bindParams _ _ 0 _=pure [CL,G d]from rfl) ?_);show bY (ew ?_);show bY (Sb h ?_);show bY (vo ?_);let f:(s.heap.push {cls:=.type "list_iterator",data:=.fields #v[.ref l,.int 0 0]}).objs.size=s.heap.objs.size+1:=cc _ _;show ew #[w? F.plain_max_loop _,PX m (iF g) (by rw[f];show S! _) (by rw[f];show n? (B! g)) q 0 _ _ CL 0 W (mT _) #[_,bg _ (b4 _ W),W,W] ((h.push _).push _) (b4 _ W) λc k b n j=>?_];show p c k b n λa o e=>?_;let i:=br e;show j a o (iF i) (by rw[f];show iF (B! i)) (bg _ (bg _ e))
end
end PySem
namespace L10
open PySem PySem.Spec PyProof.Rows L2 L3
def TH(K:lD)(i:Int):I V->Hp->VK->Prop:=λxs H Q=>∃(p:aT)(a:I Int),xs=[.ref p]/\hL K H p (a.map V.int)/\Q (.int ((a.foldl qY CL).getD i)) H
def QO(B:X.calm=Ld)(A:Gl X "max")(hm:X.mg "max"=CL)(c:PA X [l] U)(g:PD l=fg:=by rfl):PE X (.Call (.Name "max" p) [l] [#[cL "default",.Constant (.int i) j p1,p2]] pos) (FW (TH X.K i) U):=by intro e s n H Q I h;show C_ (qQ I A hm Ui (callWith_kw (de (c pos e s n H _ I h) λF J#[P,E,f,r,v]=>?_) (by rw[tE _ _ _ g];rfl) (by rw[tE _ _ _ g];rfl) W W));let(a,L,0,y,q):=v;let(u,0,o):=iO r;ext o;let(w,O,pl,M):=f.list y;show Kd (BV (L7 ?_));show ajS (f.ok.hd B) pl.isList (qI O) λN G b C z=>?_;show#[_,E,f.kept z,?_,q];rw[<-C];cases b with|none=>show#[_,W]|some p=>let(m,t):=p;show#[t,W]
def Ff(i:Int):I D->bb RV |[.list ds]=>(tQ ds).map λa=>.fz (.int ((a.foldl qY CL).getD i))|_=>CL
def R9{K:lD}:Ci K (TH K i) (Ff i):=by
 intro O H xs ds p Q n f e q;unfold Ff at e;split at e
 .rename_i es
  cases f with|cons l j=>ext j;cases m:tQ es with|none=>ext|some b=>
    rw[m]at e
    injections;subst_vars
    let(a,o,0,h,g):=Ii l;obtain rfl:=uA g m;show#[a,b,W,h.sq,q.at (.int _)]
 simp_all
end L10
namespace L10
open PySem L2 L3
section
variable{B O O':iP}{K:lD}{E:XK}{H U H1 H2:Hp}{X Y T α2:a8 aT}{ω Z ω1 ω2:cj}{σ:L2.St}{ρ:dJ}{v:V}
def j8{r:I A}(h:(l++r)[i]?=G y):l[i]?=G y\/∃j,i=l.length+j/\r[j]?=G y:=by
 by_cases hi:i<l.length
 .rw[oT hi]at h;show .inl h
 .rw[oq ()]at h;show .inr #[_,by simp_all,h]
def Sc{r:I A}{i:Nat}(h:l[i]?=G y):(l++r)[i]?=G y:=by rw[oT (f_.mp h).1];show h
def alT{r:I A}(h:r[i]?=G y):(l++r)[l.length+i]?=G y:=by rw[oq (),DF];show h
def LS(g:X.length=ω.length)(h:Lv (X++o) (ω++cs) b):Lv X ω b\/b∈o:=by
 let(i,d,f,e,a):=h;rcases j8 f with g1|⟨j,e1,g1⟩
 .rcases j8 e with g2|⟨k,e2,g2⟩
  .show .inl #[i,d,g1,g2,a]
  simp_all
 .show .inr (lq g1)
def d6.ahk(s:ee B K H X ω)(e:g_ H U)(f:∀p∈ps,H p=CL):d6 X ω H (X++ps) (ω++cs) U:=#[λi a h=>Sc h,λb u q _=>e b u q,λb z=>(LS s.len z).imp id λz=>f b z]
def ee.ahk(s:ee B K H X ω)(e:g_ H U)(f:∀p∈ps,H p=CL)(m:∀p∈ps,U p≠CL)(nd:∀(i j:Nat)(a),ps[i]?=G a->ps[j]?=G a->i=j)(t:ps.length=cs.length)(new:∀(i:Nat)(a)(c),ps[i]?=G a->cs[i]?=G c->vw (ow B (X++ps) (ω++cs)) K U (X++ps) a c):ee B K U (X++ps) (ω++cs):=by
 let ev:d6 X ω H _ (ω++cs) U:=d6.ahk s e f;let n:∀b,H b≠CL->U b≠CL:=λb h z=>h (e.free z);show#[by rw[jl,jl,s.len,t],λi j a g l=>?_,λa h=>n a (s.bn a h),λa h i q=>?_,λi a h=>?_,λi a d g l=>?_]
 .rcases j8 g with g1|⟨y,e1,g1⟩<;>rcases j8 l with g2|⟨w,e2,g2⟩
  .show s.nd i j a g1 g2
  .show a7 (f a (lq g2)) (s.al i a g1)
  .show a7 (f a (lq g1)) (s.al j a g2)
  .let:=nd y w a g1 g2;ext
 .rcases j8 q with q|⟨j,_,q⟩
  .show s.ba a h i q
  .show s.bn a h (f a (lq q))
 .rcases j8 h with h|⟨j,_,h⟩
  .show n a (s.al i a h)
  .show m a (lq h)
 .let r:=s.len
  rcases j8 l with g2|⟨j,e2,g2⟩
  .rcases j8 g with g1|⟨k,e1,g1⟩
   .show(s.cel i a d g1 g2).ev ev.ev ev.pre λo q=>e _ _ q
   .let:=(f_.mp g2).1;ext
  .rcases j8 g with g1|⟨k,e1,g1⟩
   .let:=(f_.mp g1).1;ext
   .let:k=j:=by ext
    subst this;show new k a d g1 g2
def Jp(Z:cj):Nat->I AV->bb (I AV×I (I D)×I Nat)
 |_,[]=>G ([],[],[])|n,.fz d::r=>match Jp Z n r with |some (l,cs,a)=>G (.fz d::l,cs,a)|none=>CL
 |n,.rf i::r=>match sh Z (.rf i)with |some (.list ds)=>(match Jp Z (n+1) r with |some (l,cs,a)=>G (.rf n::l,ds::cs,i::a)|none=>CL)|_=>CL
def Z_(ds:I D):d?:=.lst (ds.map .fz)
def uU(x:SV)(Z ω:cj):RS SV:=match x with |.fz d=>.ok (.fz d) ω|.rf i=>(match sh Z (.rf i)with |some (.list ds)=>uZ ω (.ow ds)|_=>.bad)|.tp l=>(match Jp Z ω.length l with |some (a,cs,b)=>if b.Nodup then .ok (.tp a) (ω++cs.map Z_)else .bad|none=>.bad)
def zy(h:sh ω (.rf i)=G (.list ds)):∃xs,ω[i]?=G (.lst xs)/\aQ B1 xs=G ds:=by unfold sh at h;dsimp only at h;cases q:ω[i]? with |none=>ext|some c=>rw[q]at h;cases c with|lst xs=>ext|_=>ext
def qL(s:ee B K H X ω)(h:sh ω (.rf i)=G (.list ds)):∃a c,X[i]?=G a/\H a=G (.lst c)/\L3.DVs (ow B X ω) K H c ds/\ow B X ω a:=by let(xs,b,f):=zy h;let(a,l):=s.at b;let(c,j,g):=s.cel i a _ l b;show#[a,c,l,j,qJ (eA (R:=gd _ K H X) (λv x y r e=>DQ r e) g f),.inr #[i,_,l,b,by simp_all]]
def aae{o:iP}(s:ee o K U Y Z):∀{n:Nat}{l u:a8 AV}{cs:a8 (a8 D)}{g:a8 Nat}{xs:a8 V},Jp Z n l=cL (u,cs,g)->Paired (vz (ow o Y Z) K U Y) xs l->∃c:a8 aT,c.length=g.length/\cs.length=g.length/\(∀(k j:Nat),g[k]?=cL j->∃a ds L,c[k]?=cL a/\cs[k]?=cL ds/\Y[j]?=cL a/\U a=cL (.lst L)/\L3.DVs (ow o Y Z) K U L ds/\ow o Y Z a)/\∀(f:a8 aT),f.length=n->Paired (vz (ow o Y Z) K U (f++c)) xs u:=by
 intro n l u cs g xs e p
 induction p generalizing n u cs g with |nil=>ext e;show#[[],W,W,λk j h=>by simp at h,λf _=>.nil]|@cons _ x _ r h t P=>cases x with
  |fz d=>unfold Jp at e;cases q:Jp Z n r with|none=>rw[q]at e;ext e|some p=>rw[q]at e;ext e;let(c,A,z,y,w):=P q;show#[c,A,z,y,λf b=>.cons h (w f b)]
  |rf i=>unfold Jp at e;cases N:sh Z _ with|none=>rw[N]at e;ext e|some d=>rw[N]at e;cases d with
    |list ds=>dsimp only at e;cases q:Jp Z _ r with|none=>rw[q]at e;ext e|some p=>
      rw[q]at e;ext e;let(c,A,z,y,w):=P q;let(a,L,Q,F,I,G):=qL s N;show#[a::c,by rw[j_,j_,A],by rw[j_,j_,z],λk j C=>?_,λf b=>?_]
      .cases k with |zero=>ext C;show#[a,ds,L,W,W,Q,F,I,G]|succ k=>show y k j (by simpa using C)
      .let e2:f++a::c=(f++[a])++c:=by simp
       let(J,m,0):=h;rw[Q]at m;ext m;show .cons #[a,by rw[<-b];show alT (i:=0) W,W] ?_;rw[e2];show w _ (by rw[jl,b];rfl)
    |_=>ext e
def ajB(s:ee B K H X ω)(w:WS K E B H X ω (PQ B K Q) (uU x Z ω))(D:d6 [] [] H Y Z U)(G:ee (ow B X ω) K U Y Z)(J:gd (ow (ow B X ω) Y Z) K U Y v x):Q v U:=by
 let C:=λb o h=>D.kp b o h λ#[i,c,q,_]=>by simp at q
 let sub:∀b,ow B X ω b->ow _ Y Z b:=λb z=>.inl z;let fr:=λi a c P h2 h3=>(D.lv a #[i,c,P,h2,h3]).elim (λ#[i,c,q,_]=>by simp at q) id;cases x with
 |fz d=>show w X U (d6.same C) (s.grow C) v (DV.ev (Ev.sub sub) J)|rf i=>unfold uU at w;dsimp only at w;cases qs:sh Z _ with|none=>rw[qs]at w;show w.elim|some d=>rw[qs]at w;cases d with |list ds=>let(a,vs,ha,P,hd,M):=qL G qs;let(xs,e,_):=zy qs;let(a',F,0):=J;rw[ha]at F;ext F;show xj s w C (fr i a _ ha e (by nofun)) P hd sub M|_=>show w.elim
 |tp l=>unfold uU at w;dsimp only at w;cases qg:Jp Z _ l with|none=>rw[qg]at w;show w.elim|some p=>
   let(l',cs,I):=p;rw[qg]at w;dsimp only at w;by_cases hn:I.Nodup
   .rw[ax hn]at w
    let(a,xs,0,ht,hl):=J;let(ps,g1,g2,g3,g4):=aae G qg hl;let A:∀(k:Nat)(b:aT),ps[k]?=cL b->∃j ds vs,I[k]?=cL j/\cs[k]?=cL ds/\Y[j]?=cL b/\U b=cL (.lst vs)/\L3.DVs _ K U vs ds/\ow _ Y Z b:=λk b hb=>by
     let f:k<I.length:=by rw[<-g1];show(f_.mp hb).1
     let(b',ds,vs,e,y,u,m,t,g):=g3 k _ (j' f);rw[hb]at e;ext e;show#[_,ds,vs,j' f,y,u,m,t,g]
    let nB:∀(j:Nat)(b:aT),Y[j]?=cL b->ow _ Y Z b->H b=CL:=λj b N M=>by
     rcases M with z|⟨i,c,z1,z2,z3⟩
     .show a7 N (G.ba b z j)
     .show fr i b c z1 z2 z3
    let fp:∀p∈ps,H p=CL:=λp L=>by let(k,f):=q?.mp L;let(j,ds,vs,e,y,u,m,t,g):=A k p f;show nB j p u g
    let n:∀b,ow B _ (ω++cs.map Z_) b->ow (ow B X ω) Y Z b:=λb z=>by
     rcases z with z|z
     .show .inl (.inl z)
     .rcases LS s.len z with z|z
      .show .inl (.inr z)
      .let(k,f):=q?.mp z;let(j,ds,vs,e,y,u,m,t,g):=A k b f;show g
    show w _ U (d6.ahk (cs:=cs.map Z_) s C fp) (s.ahk C fp (λp L=>?_) (λi j b hi N=>?_) (by rw[dO,g1,g2]) λi b c hi S=>?_) _ #[a,xs,W,ht.ev (Ev.sub n),Paired.aes (g4 X s.len) λ_ _ r=>r.ev (Ev.sub n) λ_ _ h=>h]
    .let(k,f):=q?.mp L;let(j,ds,vs,e,y,u,m,t,g):=A k p f;rw[m];simp
    .let(j1,_,_,R,_,p3,_):=A i b hi;let(j2,_,_,r1,_,r3,_):=A j b N;let:=G.nd j1 j2 b p3 r3;subst this;show(Iy ((f_.mp R).1) hn).mp (R.trans r1.symm)
    .let(j,ds,vs,e,y,u,m,t,g):=A i b hi;rw[iD,y]at S;ext S;show#[vs,m,sX _ _ (t.ev (Ev.sub n))]
   .rw[aE hn]at w;show w.elim
def yU(F:jG)(n:Nat)(xs:I SV)(ω:cj):RS SV:=if xs.length=n then(match aQ B1 xs with |some ds=>(match F (ds.map .fz) []with |.ok x Z=>uU x Z ω|.er x _=>.er x ω|.bad=>.bad)|none=>.bad)else .bad
def t8(F:jG)(n:Nat)(a:El):gW:=λρ ω=>(a ρ ω).bind λxs ω1=>mh (yU F n xs ω1)
def Nt(h:∀a,B a->H a≠CL):ee B K H [] []:=#[W,λi j a h=>by simp at h,h,λa h i=>by simp,λi a h=>by contradiction,λi a c h=>by simp at h]
theorem Hk:∀{xs:I SV}{ds:I D},aQ B1 xs=G ds->xs=ds.map .fz |[],_,e=>by injections;subst_vars;rfl|x::r,ds,e=>by unfold aQ at e;cases x with
  |fz d=>dsimp only[B1]at e;cases q:aQ B1 r with |none=>ext|some es=>rw[q]at e;injections;subst_vars;rw[l4,<-Hk q]
  |rf i|tp l=>contradiction
def alJ(s:ee B K H X ω)(e:i_ (ow B X ω) K H X C xs)(w:WS K E B H X ω (PQ B K Q) (yU F n xs ω)):lM K n F C H Q E:=by
 unfold yU at w;by_cases hn:xs.length=n
 .rw[ax hn]at w
  show#[e.length.trans hn,?_];cases q:aQ B1 xs with |none=>rw[q]at w;show w.elim|some ds=>
   rw[q]at w;dsimp only at w;show#[_,[],[],ds.map .fz,Nt s.owd,?_,?_]
   .rw[(Hk q)]at e;show sX _ _ ((K8 e).ev (Ev.sub λb z=>z.elim id λ#[i,c,q,_]=>by trivial))
   .cases l:F _ []with |bad=>rw[l]at w;show w.elim|ok x Z=>rw[l]at w;show λY U f j v a=>ajB s w f j a|er x Z=>
     rw[l]at w;intro c m Y U f j k;let g:=λb o h=>f.kp b o h λ#[i,c,q,_]=>by contradiction
     show w c m X U (d6.same g) (s.grow g) (rb.sub (λb z=>.inl z) k)
 .rw[aE hn]at w;show w.elim
def aiH(c:CM K E o C):eD K E (sj (lM K n F) [] E0 o) (t8 F n C):=by intro B σ H X ω ρ Q s b w;show c B σ H X ω ρ _ s b (w.bind.imp λxs T ω1 H1 e1 e a g f=>?_);rw[n9];show alJ e f (WS.e0 a)
def Z9(F:jG):FN:=λds=>match F (ds.map .fz) []with |.ok (.fz d) _=>.ok (.fz d)|.ok (.rf i) ω=>(match sh ω (.rf i)with |some (.list ds)=>.ok (.ow ds)|_=>.bad)|.ok (.tp _) _=>.bad|.er x _=>.er x|.bad=>.bad
def Vi(h:yC K n (Z9 F) vs H Q E):lM K n F vs H Q E:=by let(u,B,ds,A,G,w):=h;show#[u,B,[],[],_,Nt A,sX _ _ (G.ev (Ev.sub λb z=>z.elim id λ#[i,c,q,_]=>by trivial)),?_];unfold Z9 at w;cases L:F _ []with |bad=>rw[L]at w;show w.elim|er x Z=>rw[L]at w;intro c P Y U f j k;show w c P U (λb o h=>f.kp b o h λ#[i,c,q,_]=>by simp at q) (rb.sub (λb z=>.inl z) k)|ok x Z=>
  rw[L]at w;intro Y U f j v m;let g:=λb o h=>f.kp b o h λ#[i,c,q,_]=>by simp at q
  cases x with |fz d=>show w v U g (DV.ev (Ev.sub λb z=>.inl z) m)|tp l=>show w.elim|rf i=>dsimp only at w;cases J:sh Z _ with |none=>rw[J]at w;show w.elim|some d=>rw[J]at w;cases d with |list es=>let(a,p,N,C,y,t):=qL j J;let(xs,r,_):=zy J;let(I,e,0):=m;rw[N]at e;ext e;show w a p U g ((f.lv a #[i,_,N,r,by simp_all]).elim (λ#[i,c,q,_]=>by simp at q) id) C (y.ev (Ev.sub λb z=>z.elim (.inl) λz=>by rw[z];show t))|_=>show w.elim
end
def nV(P:m4)(w:k?)(K:lD)(d:Str->bb a_)(base:Heap)(a:TB)(k:Nat)(C m:Str)(c:I Str)(sp:Sp):Prop:=∃b f fd,iN K gE C=G (G (.ref b))/\qo K b/\Meth K b m f/\ek P w K d base a k f fd c sp/\hI K fd c []
def ym(P:m4)(w:k?)(K:lD)(d:Str->bb a_)(base:Heap)(a:TB)(k:Nat)(C:Str)(c:I Str)(sp:Sp):Prop:=∃b f fd,iN K gE C=G (G (.ref b))/\d C=G (.ref b)/\Mk K b f/\ek P w K d base a k f fd c sp/\hI K fd c []
def rh(K:lD)(C m:Str)(sp:Sp)(E:XK)(c:TE)(t:TA):TE:=λa H Q=>∃b,iN K gE C=G (G (.ref b))/\xZ b m sp [] E c t a H Q
def DP(K:lD)(C:Str)(sp:Sp)(E:XK)(t:TA):TE:=λa H Q=>∃b,iN K gE C=G (G (.ref b))/\B2 b sp [] E t a H Q
section
variable{Y Z p:Pos}
def Uk(M:nV X.prog X.w X.K X.mg X.base CX k C m ps sp)(l:eu CX X E)(q:ik j X.A)(r:PE X o ta)(c:PA X (e::es) t)(g:k<=j:=by decide)(gr:e_ (e::es) X.env=(fg,eval e X.env)::e_ es X.env:=by rfl)(b:(backTo Z (e_ es X.env)).any (·.1)=fg:=by rfl)(n:eval (.Call (.Attribute o m Y) (e::es) [] Z) X.env=(do
   let U<-eval o X.env
   standAt Y.atName let(f,first)<-holding [U] (getMethod U m pl)callWith Z f first (backTo Z (e_ (e::es) X.env)) (backToKw Z (keywordEach [] X.env))):=by rfl):PE X (.Call (.Attribute o m Y) (e::es) [] Z) (rh X.K C m sp E ta t):=by
 let(L,f,G,B,z,y,v,u):=M;intro a s i H Q I#[J,F,h];simp[B]at F
 injections;subst_vars
 show Re r z y v (q.mono g) u .nil l c gr b n a s i H Q I h
def Xt(M:nV X.prog X.w X.K X.mg X.base CX k C m ps sp)(g:eu CX X E)(l:ik j X.A)(n:PE X o U)(b:k<=j:=by decide)(i:eval (.Call (.Attribute o m Y) [] [] Z) X.env=(do
   let J<-eval o X.env
   standAt Y.atName let(f,first)<-holding [J] (getMethod J m pl)callWith Z f first (backTo Z (e_ [] X.env)) (backToKw Z (keywordEach [] X.env))):=by rfl):PE X (.Call (.Attribute o m Y) [] [] Z) (rh X.K C m sp E U lW):=by
 let(F,f,z,v,u,t,r,q):=M;intro a s e H Q I#[B,y,h];simp[v]at y
 injections;subst_vars
 show ak0 n u t r (l.mono b) q .nil g i a s e H Q I h
def Zv(M:ym X.prog X.w X.K X.mg X.base U k C ps sp)(m:eu U X E)(n:ik j X.A)(c:PA X (e::es) t)(g:k+1<=j:=by decide)(o:Gl X C:=by rfl)(i:(C==("__debug__"))=fg:=by decide)(q:e_ (e::es) X.env=(fg,eval e X.env)::e_ es X.env:=by rfl)(b:(backTo Z (e_ es X.env)).any (·.1)=fg:=by rfl):PE X (.Call (.Name C p) (e::es) [] Z) (DP X.K C sp E t):=by
 let(J,f,F,z,y,v,u,r):=M;intro a s l H Q I#[w,B,h];simp[z]at B
 injections;subst_vars
 show Pu v u (n.mono g) o y r .nil m c i q b a s l H Q I h
def Wn(M:ym X.prog X.w X.K X.mg X.base J k C U sp)(i:eu J X E)(l:ik j X.A)(b:k+1<=j:=by decide)(m:Gl X C:=by rfl)(e:(C==("__debug__"))=fg:=by decide):PE X (.Call (.Name C p) [] [] Z) (DP X.K C sp E lW):=by
 let(z,f,v,t,r,q,o,n):=M;intro a s g H Q I#[y,w,h];simp[t]at w
 injections;subst_vars
 show akS q o (l.mono b) m r n .nil i e a s g H Q I h
end
section
def J4(a:pV K C L)(f:eD K E to J)(c:CM K E o U):eD K E (rh K C m (lM K n F) E to o) (mv C m F n J U):=by let(g,a,_):=a;show λB b H α h i Q s e w=>#[g,a,aln a f c B b H α h i Q s e w]
def y6(a:pV K C L)(f:eD K E to J)(c:CM K E o U):eD K E (rh K C m (lM K n F) E0 to o) (aB C m F n J U):=by let(g,a,_):=a;show λB b H α h i Q s e w=>#[g,a,aks a f c B b H α h i Q s e w]
def G9(a:pV K C L)(c:CM K E o J):eD K E (DP K C (lM K n F) E0 o) (jv C F n J):=by let(f,a,_):=a;show λB b H α g h Q s e w=>#[f,a,MD a c B b H α g h Q s e w]
end
section
variable{ρ ρ1:dJ}{ω:cj}{ds:a8 D}
def aA(h:ρ[i]?=G (G x)):ap i ρ ω=.ok x ω:=by ext ap;rw[h]
def ah(h:f (dX ρ)=.ok (.fz d,ρ')):af f ρ ω=.ok (.fz d) ω:=by ext af;rw[h]
def c9(h:f (dX ρ)=.ok (.ow ds,o)):af f ρ ω=.ok (.rf ω.length) (ω++[.lst (ds.map .fz)]):=by ext af;rw[h];rfl
def cA(h:f (dX ρ)=.ok (b,o)):bG f ρ ω=.ok b ω:=by ext bG;rw[h]
def v5(h:f (dX ρ)=.ok (ds,o)):nZ f ρ ω=.ok ds ω:=by ext nZ;rw[h]
def dr(b:e ρ ω=.ok (.rf i) o)(g:o[i]?=G (.obj C fs))(a:fs.lookup f=G x):bw C f e ρ ω=.ok x o:=by ext bw;rw[b,d5];dsimp only;rw[g];dsimp only;rw[ax W,a];rfl
def dI(c:U ρ ω=.ok x J)(b:fb ρ J=.ok y C)(a:xG f x y C=.ok z o):iQ f U fb ρ ω=.ok z o:=by ext iQ;simp only[c,d5,b,d5,a]
def cR(h:f C o=G (.fz d)):xG f (.fz C) (.fz o) ω=.ok (.fz d) ω:=by show((RS.bR ω _).bind _)=_;rw[h];rfl
def Eb(b:sh ω x=G C)(a:sh ω y=G o)(h:f C o=G (.fz d)):xG f x y ω=.ok (.fz d) ω:=by ext xG;rw[b,a];show((RS.bR ω _).bind _)=_;rw[h];rfl
theorem mO:∀ds,aQ B1 (ds.map .fz)=G ds|[]=>rfl|d::r=>by rw[l4];ext aQ;rw[mO r];rfl
def jL(h:ω[i]?=G (.lst (ds.map .fz))):sh ω (.rf i)=G (.list ds):=by ext sh;dsimp only;rw[h];dsimp only;rw[mO];rfl
def bp(h:C ρ ω=.ok (.fz (.bool b)) o):bf C ρ ω=.ok b o:=by ext bf;rw[h];rfl
def mj(h:C ρ ω=.ok u o)(k:fb ρ o=r):qE C fb ρ ω=r:=by ext qE;rw[h,d5,ax W,k]
def ku(h:C ρ ω=.ok M o):qE C fb ρ ω=.ok M o:=by ext qE;rw[h,d5,aE ml]
def sN(h:C ρ ω=.ok u o):Bk C fb ρ ω=.ok u o:=by ext Bk;rw[h,d5,ax W]
def jB(h:o ρ ω=.ok M ω1)(k:fb ρ ω1=r):Bk o fb ρ ω=r:=by ext Bk;rw[h,d5,aE ml,k]
def pK(h:C ρ ω=.ok b o):ug C ρ ω=.ok (!b) o:=by ext ug;rw[h];rfl
def akJ(h:bf C ρ ω=.ok u o)(k:fb ρ o=r):Eg C fb ρ ω=r:=by ext Eg;rw[h,d5,ax W,k]
def ajb(h:bf C ρ ω=.ok M o):Eg C fb ρ ω=.ok (.fz (.bool M)) o:=by ext Eg;rw[h,d5,aE ml]
def Q6(h:c ρ ω=.ok u o)(k:C ρ o=r):Tb c C fb ρ ω=r:=by ext Tb;rw[h,d5,ax W,k]
def OS(h:c ρ ω=.ok M o)(k:fb ρ o=r):Tb c C fb ρ ω=r:=by ext Tb;rw[h,d5,aE ml,k]
def aV:aJ ρ ω=.ok [] ω:=W
def aq(b:J ρ ω=.ok x C)(a:fr ρ C=.ok xs o):aj J fr ρ ω=.ok (x::xs) o:=by ext aj;simp[b,d5,a,d5]
def Ap(b:C ρ ω=.ok (ds.map .fz) o)(a:ds.length<=1000):tK C ρ ω=.ok (.fz (.tuple ds)) o:=by ext tK;rw[b,d5,dO,ax a];ext mkT;rw[mO];rfl
def aac(c:C ρ ω=.ok xs o)(a:xs.length<=1000)(e:aQ B1 xs=CL)(b:aQ XD xs=G l):tK C ρ ω=.ok (.tp l) o:=by ext tK;rw[c,d5,ax a];ext mkT;rw[e];rw[b];rfl
def Xa(b:C ρ ω=.ok xs o)(a:xs.length<=1000):IV C ρ ω=.ok (.rf o.length) (o++[.lst xs]):=by ext IV;rw[b,d5,ax a]
def TW(b:C ρ ω=.ok xs o)(a:aQ (sh o) xs=G ds)(h:f ds=G (.fz d)):Wk f C ρ ω=.ok (.fz d) o:=by ext Wk;rw[b,d5];ext Xf;rw[a];show((RS.bR o _).bind _)=_;rw[h];rfl
def tF(c:C ρ ω=.ok (ds.map .fz) o)(b:ds.length=n)(a:F ds=.ok (.fz d)):gn F n C ρ ω=.ok (.fz d) o:=by ext gn;rw[c,d5];ext su;rw[dO,ax b,mO];dsimp only;rw[a];rfl
def AR(c:C ρ ω=.ok (ds.map .fz) o)(b:ds.length=n)(a:F ds=.ok (.ow es)):gn F n C ρ ω=.ok (.rf o.length) (o++[.lst (es.map .fz)]):=by ext gn;rw[c,d5];ext su;rw[dO,ax b,mO];dsimp only;rw[a];rfl
def Nk:mh (RS.ok a ω)=.ok a ω:=W
def cN(b:fo ρ ω=.ok (.rf i) o)(e:o[i]?=G (.obj C fs))(hm:fs.lookup m=CL)(d:fa ρ o=.ok xs U)(c:(SV.rf i::xs).length=n)(f:F (.rf i::xs) U=.ok x J):aB C m F n fo fa ρ ω=.ok x J:=by
 let a:sK o C m (.rf i)=u:=by ext sK;dsimp only;rw[e];dsimp only;rw[hm,a4 W];rfl
 ext aB;rw[b,d5,ax a,d,d5,ax c,f];rfl
def qW(c:fa ρ ω=.ok xs o)(b:(SV.rf o.length::xs).length=n)(a:F (.rf o.length::xs) (o++[.obj C []])=.ok (.fz .none) J):jv C F n fa ρ ω=.ok (.rf o.length) J:=by ext jv;rw[c,d5];ext Gu;rw[ax b,a];rfl
def iu(b:J ρ ω=.ok (.fz dx) C)(a:fb ρ C=.ok (.fz U) o)(h:av dx U=G (.fz d)):mn J fb ρ ω=.ok (.fz d) o:=by ext mn;rw[b,d5,a];show cR h
def DC(a:U ρ ω=.ok (.rf i) o)(g:o[i]?=G (.lst xs))(e:J ρ o=.ok x C)(f:C[i]?=G (.lst ys))(b:ys.length<1000000):xB U J ρ ω=.ok (.fz .none) (C.set i (.lst (ys++[x]))):=by
 let e1:im o (.rf i)=G (i,xs):=by ext im;dsimp only;rw[g]
 let e2:im C (.rf i)=G (i,ys):=by ext im;dsimp only;rw[f]
 ext xB;simp[a,d5,e1];show((J ρ o).bind _)=_;simp[e,d5,e2];show(if ys.length<1000000 then _ else _)=_;rw[ax b]
def qN(h:ω[i]?=G (.dct o)):lg ω (.rf i)=G (i,o):=by ext lg;dsimp only;rw[h]
def Dx(a:U ρ ω=.ok x C)(hd:fd ρ C=.ok (.rf i) o)(e:xx x=G k)(b:o[i]?=G (.dct J)):xD neg U fd ρ ω=.ok (.fz (.bool ((pY J k).isSome !=neg))) o:=by ext xD;rw[a,d5,hd,e];show((RS.bR o _).bind _)=_;rw[qN b];rfl
def Qm(hd:fd ρ ω=.ok (.rf i) C)(a:U ρ C=.ok x o)(f:xx x=G k)(e:o[i]?=G (.dct J))(b:pY J k=G y):yt fd U ρ ω=.ok y o:=by ext yt;simp only[hd,d5,a,d5,f];show((RS.bR o (lg o _)).bind _)=_;rw[qN e];show RS.bR o _=_;rw[b];rfl
def Po(a:fv ρ ω=.ok y U)(hd:fd ρ U=.ok (.rf i) J)(e:fk ρ J=.ok x o)(g:xx x=G k)(f:o[i]?=G (.dct C))(b:C.length<1000000):yP fd fk fv ρ ω=.ok (.nx ρ) (o.set i (.dct (oi C k y))):=by ext yP;simp only[a,d5,hd,d5,e,d5,g];show((RS.bR o (lg o _)).bind _)=_;rw[qN f];show(if C.length<1000000 then _ else _)=_;rw[ax b]
def RM(hd:fd ρ ω=.ok (.rf i) C)(g:C[i]?=G (.dct aqJ))(a:U ρ C=.ok x o)(f:xx x=G k)(e:o[i]?=G (.dct J))(b:pY J k=G y):x9 fd U ρ ω=.ok y (o.set i (.dct (qH J k))):=by ext x9;rw[hd,d5,qN g];show((U ρ C).bind _)=_;rw[a,d5,f];show((RS.bR o (lg o _)).bind _)=_;rw[qN e];show((RS.bR o (pY J k)).bind _)=_;rw[b];rfl
def PU(hd:fd ρ ω=.ok (.rf i) o)(h:o[i]?=G (.dct C)):Cm fd ρ ω=.ok (.rf o.length) (o++[.lst (C.map (·.2))]):=by ext Cm;rw[hd,d5,qN h];rfl
def Qh(hd:fd ρ ω=.ok (.rf i) o)(h:o[i]?=G (.dct C))(b:aQ C5 (C.map (·.1))=G ns)(a:ns.length<64):yz fd ρ ω=.ok (.rf o.length) (o++[.lst ((p8 ns).map λi=>SV.fz (.int i))]):=by ext yz;rw[hd,d5,qN h];show((RS.bR o (aQ C5 _)).bind _)=_;rw[b];show(if ns.length<64 then _ else _)=_;rw[ax a]
def SX(a:J ρ ω=.ok x o)(h:zd x=G C):yE J ρ ω=.ok (.rf o.length) (o++[.dct (qS [] C)]):=by ext yE;rw[a,d5,h];rfl
def aD(h:f ρ ω=.ok (.nx ρ1) ω1)(k:g ρ1 ω1=r):aH f g ρ ω=r:=by ext aH;rw[h];show k
def mf(h:f ρ ω=.ok (.rt x) o):aH f g ρ ω=.ok (.rt x) o:=by ext aH;rw[h];rfl
def gA(h:c ρ ω=.ok u o)(k:f ρ o=r):bP c f g ρ ω=r:=by ext bP;rw[h,d5,ax W,k]
def a9(h:c ρ ω=.ok M ω1)(k:g ρ ω1=r):bP c f g ρ ω=r:=by ext bP;rw[h,d5,aE ml,k]
def fV(h:f ρ ω=.ok x o):c8 f ρ ω=.ok (.rt x) o:=by ext c8;rw[h];rfl
def lP(h:f ρ ω=.ok x o):cJ f ρ ω=.ok (.nx ρ) o:=by ext cJ;rw[h];rfl
def cF(h:f ρ ω=.ok x o)(e:ρ.set i (G x)=ρ1):cB f (d4 i) ρ ω=.ok (.nx ρ1) o:=by subst e;ext cB;rw[h];rfl
def bv:bJ ρ ω=.ok (.nx ρ) ω:=W
def eh(g:fe ρ ω=.ok x J)(a:U ρ J=.ok (.rf i) o)(h:o[i]?=G (.obj C fs))(b:fs.length<100):dW C f U fe ρ ω=.ok (.nx ρ) (o.set i (.obj C (dZ f x fs))):=by
 let e:NW o C (.rf i)=G (i,fs):=by ext NW;dsimp only;rw[h];dsimp only;rw[ax W]
 ext dW;simp only[g,d5,a,d5,e];show(if fs.length<100 then _ else _)=_;rw[ax b]
def Ep(h:f ρ ω=.ok x C)(k:frz 4 C x=G (d,o)):wM f ρ ω=.ok (.fz d) o:=by ext wM;rw[h,d5];ext W3;rw[k]
def ij(e:xs.map G++ey (N-xs.length) CL=ρ)(h:g ρ ω=.ok (.rt x) o):c7 N g xs ω=.ok x o:=by subst e;ext c7;rw[h];rfl
def lR(e:xs.map G++ey (N-xs.length) CL=ρ)(h:g ρ ω=.ok (.nx ρ1) o):c7 N g xs ω=.ok (.fz .none) o:=by subst e;ext c7;rw[h];rfl
end
section
variable{Z:dJ}{ds:a8 D}
theorem sY(e)(f)(d)(I:dJ->Prop):∀(xs:a8 α)(Z)(acc),I Z->acc.length+xs.length<=1000000->(∀x∈xs,∀Z,I Z->∃c,gt (.fz (e x)) Z d=.ok c d/\o c d=.ok u d/\C c d=.ok (f x) d/\I c)->gq gt o C (xs.map e) Z d acc=.ok (acc++xs.map f) d |[],Z,acc,_,_,_=>by show RS.ok acc d=_;rw[al1,n9]|x::r,Z,acc,h0,l,j=>by let(c,i,h,g,b):=j x eQ Z h0;simp only[j_]at l;show((gt _ Z d).bind _)=_;rw[i,d5,h,d5,ax W,g,d5,ax (),sY e f d I r c _ b (by rw[jl,z4];ext) λy a=>j y (h_ _ a),pb];rfl
def sQ(b:fi Z J=.ok ds C)(a:gq gt U fe ds (tU n fj Z) C []=.ok xs o):jO n fj fi gt U fe Z J=.ok (.rf o.length) (o++[.lst xs]):=by ext jO;simp only[b,d5,a,Nk,d5]
theorem FH(m):∀(ds),xV (frz m) o (ds.map .fz)=G (ds,o)|[]=>rfl|d::r=>by rw[l4];ext xV;rw[show frz m o _=G _ by ext m<;>rfl];dsimp only;rw[FH m r]
def uY(h:o[i]?=G (.lst (ds.map .fz))):frz 4 o (.rf i)=G (.list ds,o.set i .dead):=by ext frz;rw[h];dsimp only;rw[FH]
def qD(h:J Z C=.ok (.rf i) o)(a:o[i]?=G (.lst (ds.map .fz))):jA J Z C=.ok ds (o.set i .dead):=by ext jA;rw[h,d5,uY a];rfl
def abM(N C:dJ->cj->Prop)(T:SV->cj->Prop):RS Le->Prop |.ok (.nx Z) a=>N Z a|.ok (.ct Z) a=>C Z a|.ok (.rt v) a=>T v a|_=>False
structure iv(r)(N C)(T):Prop where out:abM N C T r
variable{f:iL}
def iv.eq(e:r=r')(h:iv r' N C T):iv r N C T:=by rw[e];show h
def xf(h:iv (f Z J) (λr o=>iv (g r o) N C T) C T):iv (aH f g Z J) N C T:=by show#[?_];let h:=h.out;ext aH;cases q:f Z J with|bad|er x o=>rw[q]at h;show h.elim|ok a o=>rw[q]at h;cases a with|nx r=>show(h).out|ct r|rt v=>show h|bk r=>show h.elim
def Ce(h:c Z J=.ok b o)(a:b=u->iv (f Z o) N C T)(e:b=M->iv (g Z o) N C T):iv (bP c f g Z J) N C T:=by ext bP;rw[h];cases b with|true=>show a W|false=>show e W
def vV(b:c Z J=.ok u o)(a:iv (f Z o) N C T):iv (bP c f g Z J) N C T:=Ce b (λ_=>a) λh=>by ext h
def fW(b:c Z J=.ok M o)(a:iv (g Z o) N C T):iv (bP c f g Z J) N C T:=Ce b (λh=>by ext h) λ_=>a
def Xs(b:fe Z ω=.ok x J)(a:gt x Z J=.ok U o)(h:N U o):iv (cB fe gt Z ω) N C T:=by show#[?_];ext cB;rw[b,d5,a];show h
def sP(a:f Z U=.ok (.nx J) o)(h:N J o):iv (f Z U) N C T:=#[by rw[a];show h]
def Zq(a:f Z J=.ok (.rt x) o)(h:T x o):iv (f Z J) N C T:=#[by rw[a];show h]
def lH(a:U Z J=.ok x o)(h:N Z o):iv (cJ U Z J) N C T:=sP (lP a) h
def Wp(a:U Z J=.ok x o)(h:T x o):iv (c8 U Z J) N C T:=Zq (fV a) h
def Sx(h:T (.fz .none) o):iv (vQ Z o) N C T:=#[h]
def pF(h:N Z o):iv (bJ Z o) N C T:=#[h]
def nF(b:fe Z ω=.ok x J)(a:gt x Z J=.ok U o)(h:iv (g U o) N C T):iv (aH (cB fe gt) g Z ω) N C T:=xf (Xs b a h)
def Fb(a:f Z U=.ok (.nx J) o)(h:iv (g J o) N C T):iv (aH f g Z U) N C T:=xf (sP a h)
def pw(a:U Z J=.ok x o)(h:iv (g Z o) N C T):iv (aH (cJ U) g Z J) N C T:=xf (lH a h)
def BQ{a:iL}(j:c Z J=.ok b o)(h:b=u->iv (aH f1 g Z o) N C T)(i:b=M->iv (aH a g Z o) N C T):iv (aH (bP c f1 a) g Z J) N C T:=by
 let e:aH (bP c f1 a) g Z J=if b=u then aH f1 g Z o else aH a g Z o:=by unfold aH bP;rw[j];ext b<;>rfl
 show .eq e ?_;cases b with|true=>show h W|false=>show i W
def zW{e:iL}(b:c Z J=.ok u o)(a:iv (aH f1 g Z o) N C T):iv (aH (bP c f1 e) g Z J) N C T:=BQ b (λ_=>a) λh=>by ext h
def vR{a:iL}(e:c Z J=.ok M o)(b:iv (aH a g Z o) N C T):iv (aH (bP c f1 a) g Z J) N C T:=BQ e (λh=>by ext h) λ_=>b
def zk(h:T (.fz .none) o):iv (aH vQ g Z o) N C T:=xf (Sx h)
def rV(h:iv (g Z o) N C T):iv (aH bJ g Z o) N C T:=xf (pF h)
def Wv{a:iL}(h:iv (aH f1 (aH a g) Z J) N C T):iv (aH (aH f1 a) g Z J) N C T:=by show .eq ?_ h;ext aH;cases f1 Z J with|bad|er x o=>rfl|ok b o=>ext b<;>rfl
def X3(a:xs.map G++ey (n-xs.length) CL=Z)(h:iv (g Z C) (λ_ c=>T (.fz .none) c) (λ_ _=>False) T):∃x c,c7 n g xs C=.ok x c/\T x c:=by let h:=h.out;ext c7;rw[a];cases q:g Z C with |bad|er x o=>rw[q]at h;show h.elim|ok b o=>rw[q]at h;cases b with|nx r|rt v=>show#[_,_,W,h]|ct r|bk r=>show h.elim
def lS{W:cj->Prop}(a:xs.map G++ey (n-xs.length) CL=Z)(h:iv (g Z o) (λ_ c=>SV.fz .none=v/\W c) (λ_ _=>False) (λr c=>r=v/\W c)):∃c,c7 n g xs o=.ok v c/\W c:=by let(x,c,i,e,b):=X3 (T:=λr c=>r=v/\W c) a h;show#[c,by rw[i,e],b]
end
end L10
namespace L10
open PySem PySem.SeqAt PySem.Spec PySem.W PyProof.Rows L2 L3
section
variable{K:lD}{E:XK}
def LO(i:Nat)(c:FE):FE:=λb=>(d7.bR (Aa b[i]?)).bind λ_=>(c b).bind λa=>match a.1 with |.ow es=>(d7.bR (Aa a.2[i]?)).bind λds=>if ds.length+es.length<=1000000 then .ok (.fz .none,a.2.set i (G (.ow (ds++es))))else .bad|_=>.bad
def Xp(z:EO K E te fe):EO K E (Xm K "list" y9 (uo i) (jM te lW)) (LO i fe):=by intro B J O q H Z Q R w;let(F,t,w):=w.bR;let(v,m,a,vs,0,U,T,A,S):=R.slot i _ (pE t);show#[_,m,.inl #[W,_,hL.of A],?_];show z B J O q H Z _ R (w.bind.imp λb e I y Y e1 n o=>?_);let(pv,r):=b;dsimp only at e n o;cases pv with |fz d|pl j=>show e.elim|ow es=>
  dsimp only at e;let(ds,f,e):=e.bR;let f:=pE f;let(G,g,0,P,N,u,p,M):=o;let(L,k1,X,h,C,k2,k3,k4,k5):=n.slot i _ f;subst C;simp[m]at k1;ext k1;by_cases l:ds.length+es.length<=1000000
  .rw[ax l]at e;show#[a,G,h,g,W,W,k4,u,nI (by rw[k5.length,p.length];show l),?_];show e I .non _ (e1.trans (Ev.mut k2 _)) (n.mut f m k2 k3 (k5.append p)) .non
  .rw[aE l]at e;show e.elim
def Vq(f:C[i]?=G (G (.ow U)))(e:J C=.ok (.ow es,o))(b:o[i]?=G (G (.ow ds)))(a:ds.length+es.length<=1000000):LO i J C=.ok (.fz .none,o.set i (G (.ow (ds++es)))):=by ext LO;rw[f,iS,aC,d3,e,d3];dsimp only;simp[b,iS,aC,d3,ax a]
end
end L10
namespace L10
open PySem PyProof.Rows L2 L3
section
variable{K:lD}
def VH(d:fa J U=.ok (.rf i) C)(e:fb J C=.ok y o)(c:HC y=G n)(a:o[i]?=G (.lst xs))(b:pQ xs n=G z):mn fa fb J U=.ok z o:=by ext mn;rw[d,d5,e,d5];ext RN;simp only[a,c];show RS.bR o (pQ xs n)=_;rw[b];rfl
end
end L10
namespace L10
open PySem PyProof.Rows L2 L3
section
variable{K:lD}
end
end L10
namespace L3
open PySem L2
structure NI(K)(f)(n)(t):Prop where a:iN K gE n=G (G (.ref f))F:∃fd,l! K n n t f fd
structure MI(K)(C f)(m q)(t):Prop where
 a:p5 K (.ref C) m=G (G (.ref f))i:A' K (.ref f)=u
 F:∃fd,l! K m q t f fd
structure CI(K)(C)(n)(fs:I Str):Prop where
 a:iN K gE n=G (G (.ref C))pg:KX K C Str.empty=u
 hd:SS K C=u
 po:CR K C=u
 sa:p5 K (.ref C) "__setattr__"=G (G (.builtin "object.__setattr__"))mm:Cq K C=u
 kc:t! K (.ref C)=u
 fl:∀x∈fs,u! K C x
def BA(n q:Str)(t:kl)(b:I Str):Prop:=∀(kV doc pm)(an)(a ct)(us),us.length=b.length->bindArgs (vk n q (oZ t) (eX t) (aK t) .none kV doc pm an a ct) #[us,[]]=pure (b.zip us)
section
def CI.cls(c:CI K C n fs):qo K C:=#[c.pg,c.hd,c.po,c.sa]
def CI.cf(c:CI K C n fs):L10.pV K n fs:=#[C,c.a,c.cls,c.fl]
def NI.cal(i:NI K f n t)(X:K.In h)(G:h.Ns gE mg)(b:BA n n t ps)(ok:∀fd,l! K n n t f fd->ek P w K mg base rj lv f fd ps sp):BM P w K mg base lv n ps sp:=let#[fd,z]:=i.F;#[f,fd,ok fd z,z.binds b,z.kp,m7 X G i.a]
def NI.law(i:NI K f "law" t)(X:K.In h)(G:h.Ns gE mg)(b:mg "law"=cL (.ref fa))(o:BA "law" "law" t [x])(ok:∀base fd,l! K "law" "law" t f fd->ek P w K mg base rj lv f fd [x] sp):∃fd,(∀(s)(v),u_ s fd #[[v],[]] [(x,v)])/\∀base,K.In base->base.Ns gE mg->ek P w K mg base rj lv fa fd [x] sp:=by
 let e:=b.symm.trans (m7 X G i.a)
 injections;subst_vars
 let(fd,z):=i.F;let(r,q,kV,g,l,p,j,ct,m,0,u,n):=z.ex;show#[_,λs v=>.of_eq (o kV g l p j ct [v] W),λbase _ _=>ok base _ z]
def x3(a:ik k A):A.units+65<cLine:=by let:=a.un;ext
def IM(l:K.lookup e=G #[.type "tuple",CL,.seq o nn,ss])(b:o.size<=eg)(a:b_ xs o.toList)(hd:∀O H,DVs O K H xs ds):∀O H,DV O K H (.ref e) (.tuple ds):=λO H=>.tup #[.inr #[_,_,_,l,#[rfl,rfl],rfl,b,a],λ_=>.inr #[_,_,_,l,#[rfl,rfl],rfl,b,a]] (hd O H)
end
end L3
namespace L3
open PySem L2
def NI.agc{F:FN}(i:NI K f n t)(X:K.In h)(G:h.Ns gE mg)(b:BA n n t ps)(ok:∀fd,l! K n n t f fd->ek P w K mg base (L4.pZ P w) lv f fd ps (yC K m F)):L4.Xe P w K mg base lv n ps m F:=let#[fd,z]:=i.F;#[f,fd,ok fd z,z.binds b,z.kp,m7 X G i.a]
end L3
namespace LD
open PySem PyProof.Rows L2 L3
mutual
def Yk:aS->aS->bb Bool |.int i,.int j=>cL (decide (i<j))|.str x,.str y=>cL (decide (x.cps.toList<y.cps.toList))|.tuple xs,.tuple ys=>ZQ xs ys|_,_=>CL
def ZQ:a8 aS->a8 aS->bb Bool|[],[]=>cL fg|[],_::_=>cL Ld|_::_,[]=>cL fg|x::xs,y::ys=>if aS.eqv x y=Ld then ZQ xs ys else Yk x y
end
end LD
namespace LD
open PySem PyProof.Rows
structure aax(es:I M!)(kvs:I (Unit×a_)):Prop where vals:es.map (·.val)=kvs.map (·.2)
end LD
namespace L3
open PySem PyProof.Rows L2
structure arT(K)(x qual)(st)(f)(fd)(T)(its):Prop where
 ex:∃(oc:a_)(od:bb _)(kV doc pm:a_)(an:bb _)(cdv ct:a_)(osl:Array _),fd=vk x qual (oZ st) (eX st) (aK st) (.ref T) kV doc pm an cdv ct/\K.lookup f=G #[oc,od,.func fd,osl]/\S2 K cdv qual=u
 kp:t! K (.ref f)=u
 tp:∃o n,K.lookup T=G o/\o.data=.seq its n
end L3
namespace L3
open PySem L2
section
def MI.anB(i:MI K C f m q t)(c:CI K C n fs)(b:BA m q t ps)(ok:∀fd,l! K m q t f fd->ek P w K mg base CX lv f fd ps sp):L10.nV P w K mg base CX lv n m ps sp:=let#[fd,z]:=i.F;#[C,f,fd,c.a,c.cls,#[i.a,i.i,z.kp],ok fd z,z.binds b]
def MI.apP(i:MI K C f "__init__" q t)(c:CI K C n fs)(X:K.In h)(G:h.Ns gE mg)(b:BA "__init__" q t ps)(ok:∀fd,l! K "__init__" q t f fd->ek P w K mg base CX lv f fd ps sp):L10.ym P w K mg base CX lv n ps sp:=let#[fd,z]:=i.F;#[C,f,fd,c.a,m7 X G c.a,#[c.mm,i.a,i.i,c.kc],ok fd z,z.binds b]
end
end L3
namespace L3
open PySem L2
def UX:eu (L4.pZ P w) X E0:=λ_ _ _ _ _ _ _ h=>by let(_,_,_,_,_,_,_,_,_,_,_,_,_,_,_,_,h):=h;show h.elim
end L3
namespace L10
open PySem L2 L3
def abd(T:A->cj->Prop)(X:Xc->Prop):RS A->Prop|.ok a b=>T a b|.er x _=>X x|.bad=>False
structure Out(r:RS A)(T)(X):Prop where out:abd T X r
section
variable{r:RS A}{U:B->cj->Prop}
def Out.eq(e:r=r')(h:Out r' T X):Out r T X:=by rw[e];show h
def Out.imp(h:Out r T X)(k:∀a b,T a b->T' a b):Out r T' X:=by show#[?_];let h:=h.out;cases r with|bad|er x o=>show h|ok a o=>show k a o h
def Out.bind(h:Out r (λa o=>Out (f a o) U X) X):Out (r.bind f) U X:=by show#[?_];let h:=h.out;cases r with|bad|er x o=>show h|ok a o=>show(h).out
end
section
variable{ρ:dJ}{f:iL}
def FlX(N:dJ->cj->Prop)(T:SV->cj->Prop):Le->cj->Prop|.nx ρ,a=>N ρ a|.rt v,a=>T v a|_,_=>False
abbrev AJ(r:RS Le)(N:dJ->cj->Prop)(T:SV->cj->Prop)(X:Xc->Prop):Prop:=Out r (FlX N T) X
def tD(h:AJ (f ρ C) (λr o=>AJ (g r o) N T X) T X):AJ (aH f g ρ C) N T X:=by show Out.bind (h.imp λa o k=>?_);cases a with|nx r=>show k|rt v=>show#[k]|ct r|bk r=>show k.elim
def L6(a:f ρ J=.ok (.nx C) o)(h:AJ (g C o) N T X):AJ (aH f g ρ J) N T X:=tD (.eq a #[h])
def vH(a:f ρ J=.ok (.nx C) o)(h:N C o):AJ (f ρ J) N T X:=.eq a #[h]
def eS(b:J ρ C=.ok x ω1)(a:gt x ρ ω1=.ok ρ1 o)(h:AJ (g ρ1 o) N T X):AJ (aH (cB J gt) g ρ C) N T X:=L6 (by ext cB;simp[b,d5,a,d5]) h
def ox{a:iL}(b:c ρ o=.ok M ω1)(h:AJ (aH a g ρ ω1) N T X):AJ (aH (bP c f1 a) g ρ o) N T X:=by show .eq ?_ h;unfold aH bP;rw[b,d5,aE ml]
def lK(h:AJ (g ρ o) N T X):AJ (aH bJ g ρ o) N T X:=tD #[h]
def vT(a:J ρ C=.ok x o)(h:T x o):AJ (c8 J ρ C) N T X:=.eq (fV a) #[h]
def vt(a:xs.map G++ey (n-xs.length) CL=ρ)(h:AJ (g ρ C) (λ_ c=>T (.fz .none) c) T X):Out (c7 n g xs C) T X:=by ext c7;rw[a];show Out.bind (h.imp λb o k=>?_);cases b with|nx r|rt v=>show#[k]|ct r|bk r=>show k.elim
theorem Gh(I:Nat->dJ->cj->Prop):∀(ds)(k)(ρ)(c),I k ρ c->(∀i d ρ c,ds[i]?=G d->I (k+i) ρ c->∃z s,gt (.fz d) ρ c=.ok z s/\AJ (b z s) (I (k+i+1)) T X)->AJ (qB gt b ds ρ c) (I (k+ds.length)) T X
 |[],k,ρ,c,h0,_=>#[h0]|d::r,k,ρ,c,h0,A=>by
  let(z,s,u,t):=A 0 d ρ c W h0;let n:∀j g,I _ j g->AJ (qB gt b r j g) (I (k+(r.length+1))) T X:=λj g h=>by
   let e:k+(r.length+1)=k+1+r.length:=by ext
   rw[e];show Gh I r _ j g h λi w m l B q=>?_;let e:k+1+i=k+(i+1):=by ext
   rw[e]at q⊢;show A _ w m l (by simpa using B) q
  show .eq (show qB gt b _ ρ c=(b z s).bind λp a=>match p with |.nx y|.ct y=>qB gt b r y a|.bk y=>.ok (.nx y) a|.rt x=>.ok (.rt x) a from ?_) (Out.bind (t.imp λp o k=>?_))
  .show((gt _ ρ c).bind _)=_;rw[u,d5]
  .cases p with|nx r=>show n _ _ k|rt v=>show#[k]|ct r|bk r=>show k.elim
def Ao(I:Nat->dJ->cj->Prop)(n:C ρ m=.ok ds ω1)(g:I 0 ρ ω1)(a:∀i d ρ m,ds[i]?=G d->I i ρ m->∃j ω1,gt (.fz d) ρ m=.ok j ω1/\AJ (b j ω1) (I (i+1)) T X)(e:∀l c,I ds.length l c->N l c):AJ (vK C gt b ρ m) N T X:=by
 let:=Gh I ds 0 ρ ω1 g (by simpa using a);rw[D!]at this;show .eq ?_ (this.imp λh o k=>?_)
 .ext vK;rw[n,d5]
 .cases h with |nx r=>show e _ _ k|rt v=>show k|ct r|bk r=>show k.elim
def SH(a:fo ρ U=.ok (.rf i) o)(b:o[i]?=G (.obj C fs))(hm:fs.lookup m=CL)(d:fa ρ o=.ok xs J)(c:(SV.rf i::xs).length=n):mv C m F n fo fa ρ U=F (.rf i::xs) J:=by ext mv;rw[a,d5,ax (by ext sK;dsimp only;rw[b];dsimp only;rw[hm];simp),d,d5,ax c]
end
end L10
namespace L3
open PySem PyProof.Rows L2
section
variable{K:lD}
structure aed(K)(f T)(n)(t)(its):Prop where a:iN K gE n=G (G (.ref f))F:∃fd,arT K n n t f fd T its
end
structure Tp(P:m4)(w:k?)(K:lD)(mg)(base h:Heap):Prop where
 X:K.In h
 G:h.Ns gE mg
section
variable{K:lD}
def NI.c(i:NI K f n t)(W:Tp P w K mg base h)(ok:∀fd,l! K n n t f fd->ek P w K mg base rj lv f fd ps sp)(a:BA n n t ps:=by ext:5):BM P w K mg base lv n ps sp:=i.cal W.X W.G a ok
def MI.mt(i:MI K C f m q t)(c:CI K C n fs)(W:Tp P w K mg base h)(ok:∀fd,l! K m q t f fd->ek P w K mg base CX lv f fd ps sp)(a:BA m q t ps:=by ext:5):L10.nV P w K mg base CX lv n m ps sp:=i.anB c a ok
def MI.k(i:MI K C f "__init__" q t)(c:CI K C n fs)(W:Tp P w K mg base h)(ok:∀fd,l! K "__init__" q t f fd->ek P w K mg base CX lv f fd ps sp)(a:BA "__init__" q t ps:=by ext:5):L10.ym P w K mg base CX lv n ps sp:=i.apP c W.X W.G a ok
end
end L3
namespace L4
open PySem PySem.Spec PyProof.Rows L2 L3
def Tc(g:XK)(d b:TS):TS:=λD a H=>d D a H/\∀c f H1,g c f H1->∀(e),e.length=a.length->b {nx:=D.nx,rt:=D.rt} e H1
def Rn(hex:X.ex=[])(gr:X.stack=X.env::X.outer)(V:X.env.frame=cL X.env.locals)(hg:Gl X x)(hm:X.mg x=cL (.ref U))(hU:Bq X.K U mU)(hbU:mU.contains (.type "BaseException")=Ld)(hb:∀l,nh ((Cx.pinned X l).afd (Nw (Cx.pinned X l) E2)) body tb)(hs:∀l e,nh (Cx.marked (Cx.pinned X l) e) (b0::anj) ts)(hE:∀c d H,E2 c d H->∃C m,c=.ref C/\Bq X.K C m/\(a_.ref C::m).contains (.ref U)=Ld)(hdb:(x==("__debug__"))=fg:=by decide):PS X (.Try body [.ExceptHandler (cL (.Name x np)) CL (b0::anj) aw2] [] [] pos) (Tc E2 tb ts):=by
 intro M s σ H D I#[h,hc];let IY:=Ql I;let J:(Cx.pinned X _).ex=[]:=hex;show wpAny_Try_except (wpAny_mono (hb _ [] s σ H D (IY.afd _) h) (λf Y j=>?_) (λv Y hx=>?_))
 .let j:=SP.aeu j
  cases f with |next=>let(a,i,g,E):=j;show ID #[a,i,kr I.ok g,E]|brk|cont=>let(a,i,g,E):=j;show#[a,i,kr I.ok g,E]|ret u=>let(v,a,i,g,r,E):=j;show#[v,a,i,kr I.ok g,r,E]
 .let(a,i,e,c,d,a0,T,0,g,F,Q,P,ne,nT,q):=hx
  let(C,mC,hcC,(n1,E,N1,b1,d1,t1,u1,a1,l1,x1,i0,i1,i2,i3,i5,id1,kC),A):=hE c d i q;let(n2,q2,N2,b2,d2,t2,u2,a2,l2,x2,j0,j1,j2,j3,j5,id2,kU):=hU;let fr:X.A.frames=cL (X.env::X.outer):=by rw[<-gr];show I.ok.frames
  let ff:Y.heap.FunFrames X.base (X.env::X.outer):=by rw[<-gr];show g.stack
  show Rf fr ff V F λh2 T2 z2 F2 L=>?_
  let R:L2.a! _ [] a i _:=Ch g (λb=>b=e\/b=T) J (λp O y=>y.elim (Q.nP p O) (P.nP p O)) (λb o z t nf=>L.keep b o z (λy=>t (.inl y)) (λy=>t (.inr (lp y).symm)) (by rw[<-gr];show nf)) (λb o z t=>L.slot b o z (λy=>t (.inl y)) (λy=>t (.inr (lp y).symm))) L.here (λb y=>y.elim (λy=>by rw[y];show Q.n0) (λy=>by rw[y];show P.n0)) (λy=>y.elim (λy=>Q.nL y.symm) (λy=>P.nL y.symm)) (λy k z w=>w.elim (Q.nC y k z) (P.nC y k z)) (λb y=>y.elim (λy=>by rw[y];show ne) (λy=>by rw[y];show nT))
  let B:p? _ T2:=wI g J (Heap.get?_none_of_le z2);let Z:i T2=CL:=g.hok.fresh z2;show wpAny_handleBy_cons (codeAny_handlers_test (pG (wC R e) hg hm ?_ hdb)) (by nofun);let F2':=F2;let(ob,fs,qe,cE,dE,dF,_):=F2';show MW (R.kIn _ _ kC) (R.kIn _ _ kU) qe (cE.trans hcC) hbU A ?_;show codeAny_handlers_suite (U4 F2 λh3 F3 oth hT3=>?_)
  let I3:L2.a! _ [] a i _:=Ch (s:={Y with heap:=h2}) R _ J (λp O y=>B.nP p O y) (λb o z t _=>(oth b t).trans z) (λb o z t=>#[_,(oth b t).trans z]) (λb o z=>(Classical.em _).elim (λy=>by rw[y];show hT3) (λy=>#[o,(oth b y).trans z])) (λb y=>by rw[y];show B.n0) (λy=>B.nL y.symm) (λy k z w=>B.nC y k z w) (λb y=>by rw[y];show Z)
  let w:=hc c d i q a (g.len.trans I.len.symm);show wpAny_mono (hs (X.pn++M) e [] _ _ _ _ (wC I3 e) w) (λf s5 j=>?_) (λy s5 z=>z.elim);cases f with |next=>let(n,S,N,G):=j;show#[_,_,kr I.ok (wQ IY.ok N),G]|brk|cont=>let(n,S,N,G):=j;show G.elim|ret u=>let(v,n,S,N,r,G):=j;show#[v,n,S,kr I.ok (wQ IY.ok N),r,G]
end L4
namespace LD
open PySem PyProof.Rows L2 L3 L10
def kv(a:cj):SV->bb (I SV)
 |.rf i=>match a[i]? with |some (.lst xs)=>G xs|_=>CL
 |_=>CL
section
variable{K:lD}
def q4(s:ee B K H α o)(b:gd (ow B α o) K H α v x)(h:kv o x=G xs):∃a i,v=.ref a/\H a=G (.lst i)/\i_ (ow B α o) K H α i xs:=by cases x with |fz d|tp l=>ext h|rf j=>let(a,m,0):=b;unfold kv at h;dsimp only at h;cases q:o[j]? with|none=>rw[q]at h;ext h|some c=>rw[q]at h;cases c with|lst g=>ext h;let(ws,f,e):=s.cel j a _ m q;show#[a,ws,W,f,e]|_=>ext h
end
end LD
namespace L9
open PySem PySem.Spec PyProof.Rows L2 L3
def Gx:I V->Hp->VK->Prop:=λxs H Q=>∃a,xs=[.int a]/\∀r,H r=CL->Q (.ref r) (bW H r (.rng 0 a))
def IR:lT X (.type "range") Gx:=by intro a s g H xs i Q I r h;let(j,0,q):=h;let(u,0,f):=iO r;let(t,0):=f;show call_range_1 #[.ref _,_,I.laid (λb o e=>bg _ e) (dc _) (show eH _ X.w _ _ _ (.rng 0 j)from#[_,_,_,b4 _ W]),W,q _ (I.hok.fresh (dc _))]
def EY:I V->Hp->VK->Prop:=λxs H Q=>∃(r:aT)(n:Nat),xs=[.ref r]/\H r=G (.rng 0 n)/\n<=1000/\∀l,H l=CL->Q (.ref l) (bW H l (.lst ((eI n).map λ(i:Nat)=>V.int i)))
theorem Ug{R:α->β->Prop}:∀{xs:I α}{e:I β},xs.length=e.length->(∀(i:Nat)(x)(y),xs[i]?=G x->e[i]?=G y->R x y)->Paired R xs e |[],[],_,_=>.nil|[],_::_,h,_=>by contradiction|_::_,[],h,_=>by simp_all|x::r,y::t,h,j=>.cons (j 0 x y W W) (Ug (A! h) λi a b g f=>j (i+1) a b g f)
def ahx(B:X.calm=Ld):lT X (.type "list") EY:=by
 intro f s F H xs G Q I r h;let(p,n,0,o,w,q):=h;let(u,0,l):=iO r;ext l;let(t,u,v,m):=(I.hok p _ o);show call_list_range (n:=n) (I.ok.hd B) m (small_one () () () ()) ?_ () λE J b c kp e a=>?_
 .rw[HX];split<;>ext
 show#[.ref _,_,I.laid kp (dc _) (show eH _ X.w _ E _ (.lst _)from#[?_,b.toList,c,?_,?_]),W,q _ (I.hok.fresh (dc _))]
 .rw[dO,n_,B_];ext
 .show Ug (by rw[dO,n_,J?,a.1]) λi x y j C=>?_
  rw[iD]at j;cases z:(eI n)[i]? with |none=>ext|some k=>
   rw[z]at j
   injections;subst_vars
   let A:k=i:=by let(L,g):=f_.mp z;rw[Jy]at g;show g.symm
   let(t,e):=a.2 i y (by rw[<-U!];show C);rw[e,A];show#[t,by congr 1;ext]
 .simpa using e
def Yg:I D->bb RV |[.int i]=>if 0<=i/\i<=1000 then G (.ow (aM (eI i.toNat)))else CL|_=>CL
theorem FY{K:lD}:∀ns,L3.DVs O K H (ns.map λ(i:Nat)=>V.int i) (aM ns) |[]=>.nil|n::r=>.cons (.int _) (FY r)
def Z1{K:lD}:Ci K (λxs H Q=>Gx xs H λv H1=>EY [v] H1 Q) Yg:=by
 intro O H xs ds p Q n g e q;unfold Yg at e;split at e
 .rename_i i
  split at e
  .injections;subst_vars
   cases g with|cons j h=>
    ext h;ext j;show#[i,W,λr f=>#[r,i.toNat,W,by rw[aR];congr 2;ext,by simp_all,λl b=>?_]];show q l _ _ (λa o m=>bq b _ a o (bq f _ a o m)) ?_ aR (FY _);by_cases z:l=r
    .rw[z];show f
    .rw[bh z]at b;show b
  simp_all
 .simp_all
def Yu{K:lD}(b:AO K E o C):EO K E (FW EY (jM (FW Gx o) lW)) (cy Yg C):=by show EO K E (FW (λxs H Q=>Gx xs H λv a=>EY [v] a Q) o) _;show Lo Z1 b
end L9
namespace PySem
namespace SetTable
def Lg(xs:Array Nat):Prop:=xs.toList.Pairwise (·<·)
structure TI(b:Bool)(t:SetTable):Prop where
 led:t.led=b
 dm:t.dummies=#v[]ris:Lg t.place
end SetTable
end PySem
namespace PySem
open SetTable
section
variable{prog:m4}{w:k?}{K:Type}[DecidableEq K]{knd:KeyKind prog w K}{A:m3}{E:a_->d_->Prop}{s:d_}{b:Bool}{a:aT}{es:Array (Int×a_)}
structure SetX(knd:KeyKind prog w K)(b:Bool)(h:Heap)(a:aT)(es:Array (Int×a_)):Prop where
 x:∃o ep t,h.get? a=G o/\o.ExactSet/\o.data=.set es ep t/\t.fits es.size=u/\TI b t
 el:ElemsOf knd es.toList
 sz:es.size<scanBound
end
end PySem
namespace PySem
namespace SetTable
structure TT(t:SetTable)(n:Nat):Prop where
 k:∃k,t.mask+1=2^k
 dm:t.dummies=#v[]ris:Lg t.place
 le:∀v∈t.place.toList,v<=t.mask
 sz:t.place.size=n
 few:n*5<t.mask*3
section
variable{t:SetTable}{n:Nat}{p:Probe}
structure PI(t:SetTable)(p:Probe):Prop where
 nine:p.more<=9
 jm:p.j+p.more<=t.mask
 pt:p.perturb<2^64
 dm:p.dummy=CL
end
end SetTable
end PySem
namespace LD
open PySem PySem.SetTable PyProof.Rows L2 L3
section
variable{prog:m4}{w:k?}{E:a_->d_->Prop}
variable{A:m3}{s:d_}
structure SetH(prog:m4)(w:k?)(b:Bool)(h:Heap)(a:aT)(es:Array (Int×a_))(ks:I (KD×aT)):Prop where
 x:∃o ep t,h.get? a=G o/\o.ExactSet/\o.data=.set es ep t/\TT t es.size/\t.led=b/\t.mask<=8*es.size+8
 el:∀e∈es.toList,∃k c,(k,c)∈ks/\e.2=.ref c/\(N8 prog w).is h k c
end
end LD
namespace L10
open PySem PyProof.Rows L2 L3
section
variable{K:lD}
theorem Up:∀{b:I V}{xs:I SV}{i:Nat},i_ O K H α b xs->(∀v,b[i]?=G v->∃x,xs[i]?=G x/\gd O K H α v x)/\(b[i]?=CL->xs[i]?=CL) |_,_,_,.nil=>#[λv h=>(by ext h),λ_=>W]|_,_,0,.cons a t=>#[λv h=>(by ext h;show#[_,W,a]),λh=>(by ext h)]|_,_,i+1,.cons a t=>Up (i:=i) t
end
end L10
namespace L10
open PySem PyProof.Rows L2 L3
def kZ(gt:GL)(c:Aq)(d:gW)(x:SV):Nat->Nat->dJ->cj->I SV->RS (I SV) |0,_,_,_,_=>.bad|m+1,i,j,h,acc=>match LD.kv h x with |none=>.bad|some xs=>match xs[i]? with|none=>.ok acc h|some y=>match XD y with|none=>.bad|some z=>(gt (.tp [.fz (nd i),z]) j h).bind λa g=>(c a g).bind λb e=>if b=u then(d a e).bind λz f=>(if acc.length<1000000 then kZ gt c d x m (i+1) a f (acc++[z])else .bad)else kZ gt c d x m (i+1) a e acc
def u8(n:Nat)(f:I Nat)(e:gW)(gt:GL)(c:Aq)(d:gW):gW:=λg h=>(e g h).bind λx b=>(mh (kZ gt c d x 1000000 0 (tU n f g) b [])).bind λxs a=>.ok (.rf a.length) (a++[.lst xs])
section
variable{K:lD}{E:XK}{B:iP}{Y:Hp}{Z:a8 aT}{ω1:cj}{X:L2.St}{ρ:dJ}
def acn(hn:own.length=n)(hf:fv.map (·.2)=fj)(hg:OO K E g gt)(ht:yY K E tc ft)(he:eD K E te fe)(s1:ee B K Y Z ω1)(V:j! (ow B Z ω1) K Y Z X ρ)(hj:Z[j]?=cL a)(s:WS K E B Y Z ω1 (PQ B K Q) ((kZ gt ft fe (.rf j) Mz0 0 (tU n fj ρ) ω1 []).bind λxs d=>.ok (.rf d.length) (d++[.lst xs]))):∀D,Y D=CL->Hq (V! K a) D (lV own fv X) g tc te Y λk=>Q (.ref D) k:=by
 intro G hD;let slc:=Ga hn hf V;generalize qr:kZ gt ft fe _ Mz0 0 _ ω1 []=rr at s;by_cases C:rr=.bad
 .subst C;show s.elim
 .let hB:=λz=>s1.bn G z hD;let evH:∀{l:a8 aT}{d:cj}{k:Hp},d6 Z ω1 Y l d k->Ev (ow B Z ω1) Y (ow (g9 B G) l d) k:=λe b o h n=>#[e.kp b o h λz=>n (.inr z),λz=>by
   rcases z with(z|z)|z
   .show n (.inl z)
   .rw[z,hD]at h;ext h
   .show(e.lv b z).elim (λq=>n (.inr q)) λq=>by rw[h]at q;ext q]
  show#[λi m σ' k=>∃l d ρc w N,d6 Z ω1 Y l d k/\ee _ K k l d/\j! (ow (g9 B G) l d) K k l σ' ρc/\k G=cL (.lst N)/\i_ (ow (g9 B G) l d) K k l N w/\kZ gt ft fe _ m i ρc d w=rr,#[_,Z,ω1,_,[],[],d6.same (bq hD _),s1.hide hD,?_,aR,.nil,qr],?_]
  .show#[slc.1,λj x hx=>by let(v,h1,h2):=slc.2 j x hx;show#[v,h1,h2.ev (evH (d6.same (bq hD _))) λ_ _ h=>h]]
  .rintro i m σ2 H2 ⟨l,d,ρ2,w,N,e2,H,L,hy,vy,f⟩
   cases m with|zero=>show a7 f.symm C|succ m=>unfold kZ at f;cases ql:LD.kv d _ with |none=>rw[ql]at f;show a7 f.symm C|some xs=>rw[ql]at f;dsimp only at f;let(a',J,ea,k1,k2):=LD.q4 H (x:=.rf j) #[a,e2.pre j a hj,W] ql;ext ea;let(y1,y2):=Up k2;cases qv:J[i]? with
   |some u=>let(y,qx,hyv):=y1 u qv;rw[qx]at f;dsimp only at f;cases qa:XD y with |none=>rw[qa]at f;show a7 f.symm C|some az=>
    rw[qa]at f;dsimp only at f;show .inr #[#[J,u,hL.of k1,qv],λσ5 O=>∃l d ρc w N,d6 Z ω1 Y l d O/\ee _ K O l d/\j! _ K O l σ5 ρc/\O G=cL _/\i_ _ K O l N w/\kZ gt ft fe _ m _ ρc d w=rr,λσ5 O h=>#[m,DO m,h],?_]
    rintro u' H3 ⟨p,u2,hp,rfl,hu,rfl⟩;cases((hu J (hL.of k1)).symm.trans qv);let sm:g_ H2 (bW H2 p (.tup [.int i,u])):=bq hp _;let e3:d6 l d H2 l d _:=d6.same sm;let tv:gd _ K _ l _ (.tp [.fz _,az]):=#[p,_,W,#[hY.of aR,λz=>a7 z (H.oD p hp)],.cons (.int _) (.cons ((N7 hyv qa).ev e3.ev e3.pre) .nil)];let e2:=e2.trans e3;let H:=H.grow sm;let L:=L.evo e3;let hy:=sm _ _ hy;let vy:=i_.evo e3 vy;generalize bW H2 p _=H3 at e2 H L hy vy tv;let kD:∀{αx αy:a8 aT}{ωx ωy:cj}{Hx Hy:Hp}{o:HO},ee (g9 B G) K Hx αx ωx->d6 αx ωx Hx αy ωy Hy->Hx G=cL o->Hy G=cL o:=λsx ex h=>ex.kp _ _ h λ#[i,c,q,_]=>sx.ba G (.inr W) i q;let F:∀{T:a8 aT}{S:cj}{H3:Hp}{z:Xc}{A:cj},d6 Z ω1 Y T S H3->RS.er z A=rr->∀c dx α' k,d6 T S H3 α' A k->ee (g9 B G) K k α' A->rb K (ow (g9 B G) α' A) k c dx z->E c dx k:=λ{T S H3 z A}e3 q c dx α' k e s' x'=>by subst q;show s c dx α' k (e3.trans e) s'.ajm (rb.sub (λb y=>y.elim (λy=>.inl (.inl y)) .inr) x')
    show hg _ σ2 H3 l d ρ2 _ _ _ H L tv ?_;cases qg:gt _ ρ2 d with|er z A=>rw[qg]at f;show F e2 f|bad=>rw[qg]at f;show a7 f.symm C|ok t R=>rw[qg]at f;intro α4 H4 e4 s4 σ4 sl4;show ht _ σ4 H4 α4 R t _ s4 sl4 ?_;let f:((ft t R).bind _)=rr:=f;cases qt:ft t R with |er z A=>rw[qt]at f;show F (e2.trans e4) f|bad=>rw[qt]at f;show a7 f.symm C|ok b I=>rw[qt]at f;intro α5 O e5 s5;let U:=sl4.evo e5;let Ig:=e4.trans e5;cases b with|false=>show#[α5,I,t,w,N,e2.trans Ig,s5,U,kD H Ig hy,i_.evo Ig vy,f]|true=>let f:((fe t I).bind _)=rr:=f;show he _ σ4 O α5 I t _ s5 U ?_;cases qe:fe t I with |er z A=>rw[qe]at f;show F (e2.trans Ig) f|bad=>rw[qe]at f;show a7 f.symm C|ok x6 P=>
        rw[qe]at f;intro α6 H6 e6 s6 v6 hv6;let f:(if w.length<1000000 then kZ gt ft fe _ m _ t P _ else .bad)=rr:=f;by_cases hl6:w.length<1000000
        .rw[ax hl6]at f;let PN:=Ig.trans e6;let hy6:=kD H PN hy;let vy6:=i_.evo PN vy;let em:Ev _ H6 (ow (g9 B G) α6 P) (bW H6 G (.lst (N++[v6]))):=Ev.mut (.inl (.inr W)) _;let sl6:=U.evo e6;show#[N,hy6,yj (by rw[vy6.length];show hl6),α6,P,t,_,_,(e2.trans PN).dd hD,s6.anE hy6,#[sl6.1,λj x hx=>by let(v,h1,h2):=sl6.2 j x hx;show#[v,h1,h2.ev em λ_ _ h=>h]],aR,zF (Paired.aes vy6 λ_ _ r=>r.ev em λ_ _ h=>h) (hv6.ev em λ_ _ h=>h),f]
        .rw[aE hl6]at f;show a7 f.symm C |none=>rw[y2 qv]at f;subst f;show .inl #[#[J,hL.of k1,DB.mp qv],(s _ H2 #[λi a h=>jw (e2.pre i a h),e2.kp,λb z=>(xi H.len z).elim (e2.lv b) λz=>.inr (by rw[z];show hD)] (H.adopt hy vy hB) _ #[G,by rw[<-H.len];show aO,W])]
def acx(c:own.length=n)(t:fv.map (·.2)=fj)(p:eD K E C fl)(r:OO K E0 g gt)(o:yY K E0 U ft)(u:eD K E0 J fe):eD K E (vA own fv (vx K (jM C lW)) g U J) (u8 n fj fl gt ft fe):=by
 intro B X H α z ρ Q s f w;show p B X H α z ρ _ s f (WS.imp (WS.bind w) λx Z ω1 Y e1 h m v i=>?_);let b:=Kc m;obtain⟨j,rfl,xs,q⟩:∃j,x=.rf j/\∃xs,LD.kv ω1 x=G xs:=by cases q:LD.kv ω1 x with|none=>unfold kZ at b;rw[q]at b;show b.elim|some xs=>cases x with|rf j=>show#[j,W,xs,W]|fz d|tp l=>ext q
 let(a,A,0,k1,k2):=LD.q4 h i q;let(y,L,e):=i;ext e;show#[a,W,.inl #[#[A,hL.of k1],acn c t r o u h (f.evo e1) L b]]
end
section
variable{K:lD}
def Vy{R:α->β->Prop}:∀{xs:I α}{a:I β}{b:I α}{c:I β},Paired R xs a->Paired R b c->Paired R (xs++b) (a++c):=by
 intro xs a b c h k
 induction h with |nil=>show k|cons r _ e=>show .cons r e
def M0(f c:gW):gW:=λg h=>(f g h).bind λo b=>(RS.bR b (im b o)).bind λ_ b=>(c g b).bind λx a=>(RS.bR a (im a x)).bind λq a=>(RS.bR a (im a o)).bind λp e=>if p.2.length+q.2.length<=1000000 then .ok (.fz .none) (e.set p.1 (.lst (p.2++q.2)))else .bad
def SB(T:eD K E to fo)(U:eD K E te fe):eD K E (Xm K "list" y9 to (jM te lW)) (M0 fo fe):=by
 intro B A H α ω ρ Q s F w;show T B A H α ω ρ _ s F (w.bind.imp λo m l Z e1 G n v I=>?_);let((i0,O),R,n):=WS.bR n;let(_,L,p,_,0,g0,_):=rZ G I R;show#[.inl #[W,p,hL.of g0],?_];show U B A Z m l ρ _ G (F.evo e1) (n.bind.imp λx f g M e2 t e u S=>?_);let((j,N),P,e):=WS.bR e;let(_,b,C,_,0,k1,k2):=rZ t S P;let((i,xs),q,e):=WS.bR e;let(y,a,vs,ha,Y,X,J):=rZ t (I.evo e2) q;ext Y;dsimp only at e;by_cases hn:xs.length+N.length<=1000000
 .rw[ax hn]at e;let ev:Ev _ M (ow B f g) (bW M L (.lst (vs++C))):=xn ha y (by intro z;simp_all);show#[L,b,vs,C,W,W,X,k1,nI (by rw[J.length,k2.length];show hn),(e f _ (d6.put ha y (by nofun) (by nofun)) (t.put ha y (by nofun) (by nofun) #[_,aR,Vy (Paired.aes J λ_ _ r=>r.ev ev λ_ _ h=>h) (Paired.aes k2 λ_ _ r=>r.ev ev λ_ _ h=>h)]) _ .non)]
 .rw[aE hn]at e;show e.elim
end
end L10
namespace L2
open PySem PySem.Spec PyProof.Rows
variable{Z:a8 c_}
def Yx(d c:TE):TE:=λa H Q=>d a H λx b=>∃y,x=.str y/\y.length<=eg/\if y.length=0 then c a b Q else Q (.str y) b
def Vs(c:PE X a J)(n:PE X (.BoolOp .Or (b::Z) pos) C):PE X (.BoolOp .Or (a::b::Z) pos) (Yx J C):=by
 intro e s i H Q I h;show BoolOp_or (de (c e s i H _ I h) λv o a=>?_);let(x,l,j,m,f):=a;let(y,0,p,f):=f;let(t,0):=m;let q:=wu;show PySem.P.truthy_str () ?_;by_cases g:y.length=0
 .rw[ax g]at f;rw[show((y.length:Int)!=0)=M by rw[g];rfl];show n e _ i l Q (j.tok _) f
 .rw[aE g]at f;rw[show((y.length:Int)!=0)=u by rw[bne_iff_ne];ext];show#[.str y,l,j.tok _,#[_,W],f]
end L2
namespace L3
open PySem L2
section
def HL(c b:FE):FE:=λe=>(c e).bind λa=>(d7.bR (yS a.1)).bind λz=>if z.length<=1000000 then(if z.length=0 then b a.2 else .ok (.fz (.str z),a.2))else .bad
def Wt(c:EO K E J U)(l:EO K E C fb):EO K E (Yx J C) (HL U fb):=by
 intro B o O h H p Q R w;show c B o O h H p _ R (w.bind.imp λa b m x n e1 g j=>?_);let(z,i,b):=b.bR;obtain rfl:=wB j i;by_cases e:z.length<=1000000
 .rw[ax e]at b
  show#[z,W,nI e,?_];by_cases f:z.length=0
  .rw[ax f]at b⊢;show l.next g e1 b
  .rw[aE f]at b⊢;show b m _ n e1 g (.str _)
 .rw[aE e]at b;show b.elim
end
end L3
namespace CC
open PySem L2 L3 L10
def nO:c_->Bool |.BinOp ..|.UnaryOp ..|.IfExp ..|.ListComp ..|.Compare ..|.Call ..|.Constant ..|.Attribute ..|.Subscript ..|.Name ..|.List ..|.Tuple ..|.BoolOp ..|.JoinedStr ..|.Dict ..=>u|_=>M
def Tu:c_->Bool |.BinOp ..|.Call ..|.Attribute ..|.Subscript ..|.Name ..=>u|_=>M
def VV:c_->Bool |.ListComp ..=>u|_=>M
def Z5:c_->Bool |.Constant ..|.Attribute ..|.Subscript ..|.Name ..=>u|_=>M
section
def pf(h:nO e=u):e_ (e::es) env=(M,eval e env)::e_ es env:=by ext e<;>first|rfl|contradiction
def zm(h:nO e=u):Ay e:=by ext e<;>first|(intro _ _;rfl)|contradiction
def Fu(h:nO e=u):∀x,foldedSetIterable e env x=pure x:=by ext e<;>first|(intro _;rfl)|contradiction
def Ro(h:Tu e=u):∀whole,isTrue e env whole=(do let v<-whole;standAt e.pos;holding [v] (truthy v)):=by ext e<;>first|(intro _;rfl)|contradiction
def F5(h:(nO e&&!VV e)=u):ro e t n env=pure M:=by ext e<;>first|rfl|contradiction
def ZW(h:nO e=u):ro e (G (.Attribute o f p)) n env=pure M:=by ext e<;>first|rfl|ext h
def Zd(h:nO e=u):ro e (G (.Subscript o a p)) n env=pure M:=by ext e<;>first|rfl|ext h
def jR(h:Z5 e=u):attributeBase e f env (eval e env)=eval e env:=by ext e<;>first|rfl|contradiction
def Gd(h:nO e=u):PD e=M:=by ext e<;>first|rfl|contradiction
def QD(h:Tu e=u):swapsWithSole [.Tuple es k p] e n env=pure M:=by ext e<;>first|rfl|ext h
def aic(h:Tu e=u):swappedStores [.Tuple es k p] e env=pure CL:=by ext e<;>first|rfl|contradiction
def akW(h:Tu e=u):swapsWithSole [.Subscript a b p] e n env=pure M:=by ext e<;>first|rfl|ext h
def acu(h:Tu e=u):swappedStores [.Subscript a b p] e env=pure CL:=by rfl
def VO(h:es.all nO=u):((backTo pos (e_ es env)).any λx=>x.1)=M:=by induction es with|nil=>rfl|cons e es a=>rw[xv,c!]at h;rw[pf h.1];show a h.2
def Wz(h:es.all nO=u):((backTo pos (e_ es env)).all λx=>!x.1)=u:=by induction es with|nil=>rfl|cons e es a=>rw[xv,c!]at h;rw[pf h.1];show a h.2
def gu(h:(e::es).all nO=u):e_ (e::es) env=(M,eval e env)::e_ es env:=by rw[xv,c!]at h;show pf h.1
def mF(h:(e::es).all nO=u):((backTo pos (e_ es env)).any λx=>x.1)=M:=by rw[xv,c!]at h;show VO h.2
def uJ(h:es.all nO=u)(a:es.length<20):methodCallForm (es.length+([]:I u5).length) (backTo pos (e_ es env)) (backToKw pos (keywordEach [] env))=u:=by ext methodCallForm;rw[Wz h];show(c! _ _).mpr #[W,a4 ?_];show es.length+0+0<30;ext
def ZI(h:Z5 o=u)(a:es.all nO=u)(b:es.length<20)(e:(p.endLine==q.line)=u):∃pl,eval (.Call (.Attribute o m p) es [] q) env=(do
   let C<-eval o env
   standAt p.atName let(f,first)<-holding [C] (getMethod C m pl)callWith q f first (backTo q (e_ es env)) (backToKw q (keywordEach [] env))):=by
 show#[do return(<-importBound o env).getD u,?_];show(do
  let C<-attributeBase o m env _
  standAt _
  methodCall o m p q env C _ _ _)=_
 rw[jR h];unfold methodCall calleeOf methodCallPos;rw[uJ a b,e];rfl
def abt(h:nO b=u):∀v,assign (.Subscript a b p) env v=(do
 let o<-holding [v] (eval a env)let C<-holding [v,o] (eval b env)standAt p
 holding [v,o,C] (setItem o C v)release [v,o,C] []):=by ext b<;>first|(intro _;rfl)|contradiction
def aab(h1:env.scope.kind=.function)(c:env.kindOf x=G .local)(b:(p.line==pos.line)=u)(a:(sc.names.any λy=>y.1==x&&(y.2==.local||y.2==.cell))=M):ro (.ListComp elt [o] sc pos) (G (.Name x p)) n env=pure u:=by show(pure _)=_;rw[show env.blockKind=.function by ext Env.blockKind;rw[h1];rfl,c];show(pure (_&&(p.line==pos.line)&&!(sc.names.any _)))=_;rw[b,a];rfl
end
def bH{α:Type}{o:bb α}{p:α->Bool}(h:o.any p=u):∃x,o=G x/\p x=u:=by cases o with|none=>ext|some x=>show#[x,W,h]
def xp{α:Type}{P:α->Prop}{o:bb α}(k:o.elim True P){x:α}(h:o=G x):P x:=by subst h;show k
def vN:c_->bb (Str×Pos) |.Name x p=>G (x,p)|_=>CL
def vC:c_->bb Const|.Constant c _ _=>G c|_=>CL
def Zl:c_->bb (c_×VE×c_) |.BinOp a o b _=>G (a,o,b)|_=>CL
def V4:c_->bb (c_×I CmpOp×I c_) |.Compare a o b _=>G (a,o,b)|_=>CL
def Az:c_->bb (c_×c_×Pos) |.Subscript a b p=>G (a,b,p)|_=>CL
def W?:c_->bb (bb c_×bb c_×bb c_) |.Slice a b c _=>G (a,b,c)|_=>CL
def Ou:c_->bb (I c_)|.Tuple es _ _=>G es|_=>CL
def LU:c_->bb (I c_)|.List es _=>G es|_=>CL
def Bj:c_->bb (c_×I c_×I u5×Pos) |.Call f es a p=>G (f,es,a,p)|_=>CL
def L1:c_->bb (c_×Str×Pos) |.Attribute o x p=>G (o,x,p)|_=>CL
def Dh:c_->bb (c_×c_×c_) |.IfExp c a b _=>G (c,a,b)|_=>CL
def X_:c_->bb (BoolOp×I c_×Pos) |.BoolOp o es p=>G (o,es,p)|_=>CL
def L0:c_->bb (UnaryOp×c_) |.UnaryOp o a _=>G (o,a)|_=>CL
def Df:c_->bb (c_×I G!×nS×Pos) |.ListComp e g s p=>G (e,g,s,p)|_=>CL
def Dj:c_->bb (I (bb c_)×I c_) |.Dict k v _=>G (k,v)|_=>CL
section
def vB(h:vN e=G x):e=.Name x.1 x.2:=xp (P:=λx=>e=.Name x.1 x.2) (by ext e<;>first|show trivial|rfl|show#[_,W]|show#[_,_,W]) h
def NH(h:vC e=G x):∃k p,e=.Constant x k p:=xp (P:=λx=>∃k p,e=.Constant x k p) (by ext e<;>first|show trivial|rfl|show#[_,W]|show#[_,_,W]) h
def QB(h:Zl e=G x):∃p,e=.BinOp x.1 x.2.1 x.2.2 p:=xp (P:=λx=>∃p,e=.BinOp x.1 x.2.1 x.2.2 p) (by ext e<;>first|show trivial|rfl|show#[_,W]|show#[_,_,W]) h
def Fg(h:V4 e=G x):∃p,e=.Compare x.1 x.2.1 x.2.2 p:=xp (P:=λx=>∃p,e=.Compare x.1 x.2.1 x.2.2 p) (by ext e<;>first|show trivial|rfl|show#[_,W]|show#[_,_,W]) h
def lJ(h:Az e=G x):e=.Subscript x.1 x.2.1 x.2.2:=xp (P:=λx=>e=.Subscript x.1 x.2.1 x.2.2) (by ext e<;>first|show trivial|rfl|show#[_,W]|show#[_,_,W]) h
def M4(h:W? e=G x):∃p,e=.Slice x.1 x.2.1 x.2.2 p:=xp (P:=λx=>∃p,e=.Slice x.1 x.2.1 x.2.2 p) (by ext e<;>first|show trivial|rfl|show#[_,W]|show#[_,_,W]) h
def AX(h:Ou e=G x):∃k p,e=.Tuple x k p:=xp (P:=λx=>∃k p,e=.Tuple x k p) (by ext e<;>first|show trivial|rfl|show#[_,W]|show#[_,_,W]) h
def PP(h:LU e=G x):∃p,e=.List x p:=xp (P:=λx=>∃p,e=.List x p) (by ext e<;>first|show trivial|rfl|show#[_,W]|show#[_,_,W]) h
def rX(h:Bj e=G x):e=.Call x.1 x.2.1 x.2.2.1 x.2.2.2:=xp (P:=λx=>e=.Call x.1 x.2.1 x.2.2.1 x.2.2.2) (by ext e<;>first|show trivial|rfl|show#[_,W]|show#[_,_,W]) h
def D4(h:L1 e=G x):e=.Attribute x.1 x.2.1 x.2.2:=xp (P:=λx=>e=.Attribute x.1 x.2.1 x.2.2) (by ext e<;>first|show trivial|rfl|show#[_,W]|show#[_,_,W]) h
def UC(h:Dh e=G x):∃p,e=.IfExp x.1 x.2.1 x.2.2 p:=xp (P:=λx=>∃p,e=.IfExp x.1 x.2.1 x.2.2 p) (by ext e<;>first|show trivial|rfl|show#[_,W]|show#[_,_,W]) h
def Nh(h:X_ e=G x):e=.BoolOp x.1 x.2.1 x.2.2:=xp (P:=λx=>e=.BoolOp x.1 x.2.1 x.2.2) (by ext e<;>first|show trivial|rfl|show#[_,W]|show#[_,_,W]) h
def Eo(h:L0 e=G x):∃p,e=.UnaryOp x.1 x.2 p:=xp (P:=λx=>∃p,e=.UnaryOp x.1 x.2 p) (by ext e<;>first|show trivial|rfl|show#[_,W]|show#[_,_,W]) h
def Xk(h:Df e=G x):e=.ListComp x.1 x.2.1 x.2.2.1 x.2.2.2:=xp (P:=λx=>e=.ListComp x.1 x.2.1 x.2.2.1 x.2.2.2) (by ext e<;>first|show trivial|rfl|show#[_,W]|show#[_,_,W]) h
def XF(h:Dj e=G x):∃p,e=.Dict x.1 x.2 p:=xp (P:=λx=>∃p,e=.Dict x.1 x.2 p) (by ext e<;>first|show trivial|rfl|show#[_,W]|show#[_,_,W]) h
def p9(e:c_):Bool:=(Ou e).isSome
def oj(h:p9 e=u):∃l k p,e=.Tuple l k p:=by let(x,h):=EM.mp h;show#[x,AX h]
end
abbrev Fd:=m4->k?->lD->(Str->bb a_)->Heap->Prop
abbrev da(lv:Nat)(x:Str)(b:I Str)(n:Nat)(F:FN):Fd:=λP w K a base=>YU P w K a base lv x b n F
abbrev u3(lv:Nat)(x:Str)(b:I Str)(n:Nat)(F:FN):Fd:=λP w K a base=>L4.Xe P w K a base lv x b n F
abbrev qw(lv:Nat)(x:Str)(b:I Str)(n:Nat)(F:jG):Fd:=λP w K a base=>BM P w K a base lv x b (lM K n F)
abbrev l?(b:Bool)(lv:Nat)(C x:Str)(c:I Str)(n:Nat)(F:jG):Fd:=λP w K a base=>nV P w K a base (if b then L4.pZ P w else rj) lv C x c (lM K n F)
abbrev E!(lv:Nat)(C:Str)(b:I Str)(n:Nat)(F:jG):Fd:=λP w K a base=>ym P w K a base rj lv C b (lM K n F)
structure Md where
 bl:I Str
 ex:I Str
 cs:I (Str×D)cl:I (Str×I Str)
structure Gm where
 M:Md
 N:I Str
 sc:I (Str×hO)lv:Nat
 rz:Bool
 fa:Bool
 fc:I Str
 top:Nat
abbrev Y5:I a_:=[.type "ValueError",.type "Exception",.type "BaseException",.type "object"]
structure u4(K)(mg:Str->bb a_)(M:Md):Prop where
 bl:∀x∈M.bl,mg x=CL
 ex:∀x∈M.ex,∃C,iN K gE x=G (G (.ref C))/\mg x=G (.ref C)/\x_ K C Y5 "ValueError.__new__"=Ld
 cs:∀x d,M.cs.lookup x=G d->∃v u,mg x=G u/\b? v u/\∀O H,DV O K H v d
 cl:∀C L,M.cl.lookup C=G L->pV K C L
structure Ct(T:I Fd)(Γ:Gm)(X:Cx)(E):Prop where
 n:X.N=Γ.N
 nd:X.N.Nodup
 sc:X.env.scope.names=Γ.sc
 kd:X.env.scope.kind=.function
 cm:X.calm=u
 rm:ik Γ.lv X.A
 po:Γ.fa=u->G_ (model X.prog X.w) X.A X.env X.xe
 px:Γ.rz=u->∃(N:I Str)(qual:Str)(scope:nS)(f:aT)(cd:a_)(A:m3)(outer:I Env)(s0:d_)(H0:Hp),X=jz (L4.pZ X.prog X.w) X.prog X.w X.K X.mg X.base N qual scope f cd A outer s0 H0 E
 fc:∀x∈Γ.fc,X.fn x=u
 md:u4 X.K X.mg Γ.M
 fs:∀i fd,i<Γ.top->T[i]?=G fd->fd X.prog X.w X.K X.mg X.base
def Yr(s:I (Str×hO))(x:Str):Bool:=s.lookup x==G .local||s.lookup x==G .cell||s.lookup x==G .free
def okN(x:Str):Bool:=!(x==("__debug__"))&&!(x==("__classdict__"))&&!(x==("__name__"))
def UQ(a:Gm)(x:Str):Bool:=a.sc.lookup x==G .globalImplicit&&okN x
def blt(a:Gm)(x:Str):Bool:=UQ a x&&a.M.bl.contains x
def gP{b:hO}(h:(a==G b)=u):a=G b:=by simp_all
section
def zq(h:okN x=u):(x==("__debug__"))=M/\(x==("__classdict__"))=M/\x≠("__name__"):=by unfold okN at h;simp_all
def tO(c:Ct T o X E)(h:UQ o x=u):Gl X x/\(x==("__debug__"))=M/\x≠("__name__"):=by unfold UQ at h;rw[c!]at h;show#[?_,(zq h.2).1,(zq h.2).2.2];show X.env.scope.names.lookup x=_;rw[c.sc];show gP h.1
def qR(c:Ct T o X E)(h:blt o x=u):Gl X x/\X.mg x=CL/\(x==("__debug__"))=M/\x≠("__name__"):=by unfold blt at h;rw[c!]at h;let(b,a):=tO c h.1;show#[b,c.md.bl x (U'.mp h.2),a]
def Tm(c:Ct T o X E)(h:o.rz=u):eu (L4.pZ X.prog X.w) X E:=by let(N,g,a,f,j,A,b,i,l,e):=c.px h;rw[e];show L4.Mw
end
abbrev Jd(a:Type):=lD->XK->a->Prop
def eo(g:FE):Jd TE:=λK E t=>EO K E t g
def es(g:gW):Jd TE:=λK E t=>eD K E t g
def ao(g:FA):Jd TA:=λK E t=>AO K E t g
def as(g:El):Jd TA:=λK E t=>CM K E t g
def pT(g:FT):Jd TT:=λK E t=>n! K E t g
def rM(g:Aq):Jd TT:=λK E t=>yY K E t g
def oo(g:FO):Jd TO:=λK E t=>Zb K E t g
def go(g:FG):Jd TG:=λK E t=>GO K E t g
def Jm(g:GL):Jd TG:=λK E t=>OO K E t g
def gs(g:Yc):Jd ON:=λK E t=>ZH K E t g
def XS(g:Iq):Jd ON:=λK E t=>Jt K E t g
def io(g:FI):Jd TI:=λK E t=>L3.IO K E t g
def TX(g:FI):Jd TI:=λK E t=>V? K E t g
def Yh(g:X8):Jd TI:=λK E t=>YI K E t g
def so(g:FS):Jd TS:=λK E t=>SO K E t g
def d!(g:iL):Jd TS:=λK E t=>xO K E t g
class CK(T:I Fd){α τ:Type}(P:Cx->α->τ->Prop)(J:Jd τ)where
 chk:Gm->α->Bool
 ok:∀{Γ X E a},Ct T Γ X E->chk Γ a=u->∃t,P X a t/\J X.K E t
def pgA(X:Cx)(e:c_)(t:TG):Prop:=PG X e t/\∀r,assignEach (e::r) X.env=(M,assign e X.env)::assignEach r X.env
def pgS(X:Cx)(r:I c_)(t:ON):Prop:=ZT X r t/\(assignEach r X.env).length=r.length/\List.findIdx? (λx=>x.1) (assignEach r X.env)=CL
def piA(X:Cx)(p:c_×c_)(t:TI):Prop:=PI X p.1 p.2 t/\nO p.2=u
abbrev CE(T)(J):=CK T PE J
abbrev CA(T)(J):=CK T PA J
abbrev CT(T)(J):=CK T PT J
abbrev CQ(T)(J):=CK T D1 J
abbrev CO(T)(J):=CK T PO J
abbrev CG(T)(J):=CK T pgA J
abbrev CH(T)(J):=CK T pgS J
abbrev CI(T)(J):=CK T piA J
abbrev CU(T)(J):=CK T PS J
abbrev CS(T)(J):=CK T nh J
def Bt{α a:Type}{P:Cx->α->a->Prop}{A J:Jd a}[x:CK T P A](k:∀{K E t},A K E t->J K E t):CK T P J:=#[x.chk,λc h=>by let(t,p,q):=x.ok c h;show#[t,p,k q]]
end CC
set_option warn.classDefReducibility false
namespace CC
open PySem L2 L3 L10
variable{T:a8 Fd}
def Ox(i:Nat)(a:Gm)(e:c_):Bool:=(vN e).any λx=>a.N[i]?==G x.1&&Yr a.sc x.1&&okN x.1
def vv(c:Ct T o X E)(h:Ox i o e=u):PE X e (uo i):=by
 let(x,q,h):=bH h;rw[vB q];unfold Yr at h;simp only[c!,w!]at h;show Ka (by rw[c.n];show beq_iff_eq.mp h.1.1) ?_ (zq h.2).1 (zq h.2).2.1;ext Vis;rw[c.sc];rcases h.1.2 with(z|z)|z
 .show .inl (gP z)
 .show .inr (.inl (gP z))
 .show .inr (.inr (gP z))
def TJ(i)(k:∀{K E},J K E (uo i)):CE T J:=#[Ox i,λc h=>#[_,vv c h,k]]
instance:CE T (eo (ae i)):=TJ i DS
instance:CE T (es (ap i)):=TJ i AG
def dq:Nat->D->D->Bool|0,_,_=>M|_+1,.int a,.int b|_+1,.str a,.str b=>a==b|_+1,.none,.none=>u|_+1,.bool a,.bool b=>a==b|n+1,.tuple a,.tuple b|n+1,.list a,.list b=>a.length==b.length&&(a.zip b).all λp=>dq n p.1 p.2|_,_,_=>M
def zE{f:D->D->Bool}(i:∀a b,f a b=u->a=b):∀{a b:I D},(a.length==b.length&&(a.zip b).all λp=>f p.1 p.2)=u->a=b:=by
 intro a
 induction a with
 |nil=>intro b h;cases b with |nil=>rfl|cons y s=>contradiction
 |cons x r g=>intro b h;cases b with|nil=>contradiction|cons y s=>rw[c!]at h;let(j,e):=h;simp only[Jx,xv,c!]at e;rw[i x y e.1,g (by rw[c!];show#[beq_iff_eq.mpr (by simpa using(eq_of_beq j)),e.2])]
def sf:∀(n)(a b),dq n a b=u->a=b:=by
 intro n
 induction n with |zero=>intro a b h;contradiction|succ n e=>intro a b h;ext a<;>ext b<;>first|contradiction|rfl|show dt _ (eq_of_beq h)|show dt _ (zE e h)
def cD:Const->bb D |.int i=>G (.int i)|.str x=>G (.str x)|.bool b=>G (.bool b)|.none=>G .none|_=>CL
instance:CE T (eo (pC d))where
 chk Γ e:=(((vC e).bind cD).any λa=>dq 9 a d)||((vN e).any λx=>UQ Γ x.1&&((Γ.M.cs.lookup x.1).any λa=>dq 9 a d))
 ok c h:=by
  rcases(w! _ _).mp h with h|h
  .let(a,q,h):=bH h
   obtain rfl:=sf _ _ _ h;let(k,f,b):=q3.mp q;let(_,_,0):=NH f;ext k<;>ext b
   .show#[_,V9,Xz]
   .show#[_,OB,ZR]
   .show#[_,rA,tI]
   .show#[_,JM,Kx]
  .let(x,q,h):=bH h;rw[c!]at h;let(a,b,g):=bH h.2;obtain rfl:=sf _ _ _ g;let(j,i,_):=tO c h.1;let(v,u,e1,e2,e3):=c.md.cs _ _ b;rw[vB q];show#[_,So j e1 e2 i,NL e3]
class oC(f:D->D->bb RV)where sp:c_->bb (c_×c_)ok:∀{X:Cx}{e p ta tb},sp e=G p->X.A.units+65<cLine->nO p.2=u->PE X p.1 ta->PE X p.2 tb->∃r,PE X e (OJ r ta tb)/\mo X.K r f
def OL(op)(g:∀{X:Cx},∃r,hH X (nt op) r/\mo X.K r f):oC f where
 sp e:=(Zl e).bind λx=>if x.2.1=op then G (x.1,x.2.2)else CL
 ok h hu _ ha hb:=by
  let(x,q,a):=q3.mp h;let(_,0):=QB q;split at a
  .rename_i z;ext a;let(r,b,i):=g;rw[<-z]at b;show#[r,yT b ha hb,i]
  .ext a
def HA{f:D->D->bb RV}(k:∀{K},mo K (Z8 K) f):oC f where
 sp e:=(Az e).map λx=>(x.1,x.2.1)
 ok h _ hp ha hb:=by let(x,q,a):=K7.mp h;ext a;rw[lJ q];show#[_,Hl AN ha hb (zm hp),k]
class m8(f:D->D->bb RV)where
 op:CmpOp
 ok:∀{X:Cx},X.A.units+65<cLine->∃r,hH X (m6 op) r/\mo X.K r f
def L_(op:CmpOp)(e:c_):bb (c_×c_):=(V4 e).bind λx=>match x.2.2 with |[b]=>if x.2.1=[op]&&!behindInMarks op b then G (x.1,b)else CL|_=>CL
def Dw(h:L_ op e=G p):∃pos,e=.Compare p.1 [op] [p.2] pos/\behindInMarks op p.2=M:=by
 let((a,o,b),q,f):=q3.mp h;let(_,0):=Fg q;dsimp only at f;split at f
 .split at f
  .rename_i z;ext f;rw[c!,decide_eq_true_eq,z6]at z;show#[_,by rw[z.1],z.2]
  simp_all
 simp_all
instance[o:m8 f]:oC f where
 sp:=L_ _
 ok h hu _ ha hb:=by let(p,0,q):=Dw h;let(r,b,a):=o.ok hu;show#[r,Sw b ha hb q,a]
instance:oC av:=HA zS
instance:oC L3.mn:=HA QA
instance:m8 bx:=#[.Eq,λh=>#[_,Vu (),U7]]
instance:m8 fO:=#[_,λh=>#[_,Xb (),UG]]
instance:m8 uH:=#[_,λ_=>#[_,Yv,XZ]]
instance:m8 uT:=#[.Lt,λ_=>#[_,ZB,Vd]]
instance:m8 Cr:=#[.Gt,λ_=>#[_,aam,Va]]
instance:m8 ZN:=#[_,λ_=>#[_,aad,U8]]
instance:m8 pP:=#[.In,λh=>#[_,U9 h,Xl]]
instance:m8 rK:=#[_,λh=>#[_,Q0 h,SL]]
instance:m8 pW:=#[.Is,λ_=>#[_,Vj,Sd]]
instance:m8 pR:=#[_,λ_=>#[_,SU,Qc]]
instance:m8 Z':=#[.In,λ_=>#[_,WN,OX]]
instance:m8 Yf:=#[_,λ_=>#[_,X6,O9]]
instance:oC b6:=OL _ #[_,FL,Ha]
instance:oC cT:=OL _ #[_,wa,Be]
instance:oC pX:=OL _ #[_,JA,Fk]
instance:oC wE:=OL _ #[_,V3,Sq]
instance:oC EI:=OL _ #[_,Om,PH]
instance:oC fP:=OL _ #[_,FC,BN]
instance:oC v4:=OL _ #[_,UT,SR]
instance:oC Eu:=OL _ #[_,ZY,WL]
instance:oC Bp:=OL _ #[_,KI,Gq]
instance:oC RX:=OL _ #[_,Vl,Su]
section
def ZA(A B){f:D->D->bb RV}[o:oC f][x:CE T A][y:CE T B](k:∀{K E r m d},mo K r f->A K E m->B K E d->J K E (OJ r m d)):CE T J where
 chk Γ e:=(o.sp e).any λp=>nO p.2&&x.chk Γ p.1&&y.chk Γ p.2
 ok c h:=by let(p,q,h):=bH h;simp only[c!]at h;let(m,l,j):=x.ok c h.1.2;let(d,i,g):=y.ok c h.2;let(r,b,a):=o.ok q (x3 c.rm) h.1.1 l i;show#[_,b,k a j g]
instance[oC f][CE T (eo a)][CE T (eo b)]:CE T (eo (am f a b)):=ZA (eo a) (eo b) r8
instance[oC f][CE T (es a)][CE T (es b)]:CE T (es (iQ f a b)):=ZA (es a) (es b) K2
instance[CE T (es a)][CE T (es b)]:CE T (es (L10.mn a b))where
 chk Γ e:=(Az e).any λp=>nO _&&CK.chk T PE (es a) Γ p.1&&CK.chk T PE (es b) Γ _
 ok c h:=by let(p,q,h):=bH h;simp only[c!]at h;let(m,j,i):=CK.ok c h.1.2;let(l,g,f):=CK.ok c h.2;rw[lJ q];show#[_,Hl AN j g (zm h.1.1),Wo i f]
def Ti(k:∀{K E},Z K E lW):CA T Z:=#[λ_ l=>l.isEmpty,λ_ h=>by rw[qk.mp h];show#[_,ma,k]]
def Li(A)(U)[x:CE T A][y:CA T U](k:∀{K E i d},A K E i->U K E d->Z K E (jM i d)):CA T Z where
 chk Γ l:=match l with|e::r=>nO e&&x.chk Γ e&&y.chk Γ r|[]=>M
 ok c h:=by
  split at h
  .simp only[c!]at h;let(i,g,f):=x.ok c h.1.2;let(d,b,a):=y.ok c h.2;show#[_,jh g b (pf h.1.1),k f a]
  .ext h
instance:CA T (ao ag):=Ti yX
instance:CA T (as aJ):=Ti uN
instance[CE T (eo a)][CA T (ao b)]:CA T (ao (aa a b)):=Li (eo a) (ao b) uQ
instance[CE T (es a)][CA T (as b)]:CA T (as (aj a b)):=Li (es a) (as b) Bv
def TC(U)[x:CA T U](k:∀{K E t},U K E t->J K E (Q7 t)):CE T J where
 chk Γ e:=(Ou e).any (x.chk Γ)
 ok c h:=by let(l,q,h):=bH h;let(_,_,0):=AX q;let(t,b,a):=x.ok c h;show#[_,W0 b,k a]
def Ut(U)[x:CA T U](k:∀{K E t},U K E t->J K E (Sk t)):CE T J where
 chk Γ e:=(LU e).any (x.chk Γ)
 ok c h:=by let(l,q,h):=bH h;let(_,0):=PP q;let(t,b,a):=x.ok c h;show#[_,DE b,k a]
instance[CA T (ao a)]:CE T (eo (bK a)):=TC (ao a) Xq
instance[CA T (as a)]:CE T (es (tK a)):=TC (as a) Qa
instance[CA T (ao a)]:CE T (eo (bS a)):=Ut (ao a) Ef
instance[CA T (as a)]:CE T (es (IV a)):=Ut (as a) SD
instance[CE T (eo a)]:CE T (es (af a)):=Bt (A:=eo a) wH
instance[CE T (es a)]:CE T (es (wM a)):=Bt (A:=es a) Hf
class Fn(T:I Fd){φ:Type}(k:Nat->Str->I Str->Nat->φ->Fd)(F:φ)(n:Nat)where
 i:Nat
 lv:Nat
 x:Str
 ps:I Str
 h:T[i]?=G (k lv x ps n F)
def ZP(b:Gm)(i lv:Nat)(x:Str)(e:c_):bb (c_×I c_×Pos×Pos):=(Bj e).bind λy=>match y.2.1 with |a::r=>(vN y.1).bind λz=>if z.1==x&&UQ b x&&decide (i<b.top)&&decide (lv<=b.lv)&&(a::r).all nO&&y.2.2.1.isEmpty then G (a,r,z.2,y.2.2.2)else CL|[]=>CL
def Ax(h:ZP o i lv x e=G y):e=.Call (.Name x y.2.2.1) (y.1::y.2.1) [] y.2.2.2/\UQ o x=u/\i<o.top/\lv<=o.lv/\(y.1::y.2.1).all nO=u:=by
 let((f,l,j,p),q,b):=q3.mp h;simp only[rX q]
 skip
 split at b
 .let(z,g,a):=q3.mp b
  obtain rfl:=vB g;split at a
  .rename_i z;ext a;simp_all
  simp_all
 simp_all
def yV(U){w:Type}(k0)(F:w)(n)[o:Fn T k0 F n][i:CA T U](s)(k:∀{X:Cx}{E lv x A t e r p q},k0 lv x A n F X.prog X.w X.K X.mg X.base->(s=Ld->eu (L4.pZ X.prog X.w) X E)->ik lv X.A->Gl X x->(x==("__debug__"))=M->(e::r).all nO=Ld->PA X (e::r) t->U X.K E t->∃d,PE X (.Call (.Name x p) (e::r) [] q) d/\J X.K E d):CE T J where
 chk Γ e:=(!s||Γ.rz)&&(ZP Γ o.i o.lv o.x e).any λy=>i.chk Γ (y.1::y.2.1)
 ok c h:=by rw[c!]at h;let(y,q,j):=bH h.2;let(0,g,B,b,a):=Ax q;let(v,m,_):=tO c g;let(t,l,f):=i.ok c j;show k (c.fs _ _ B o.h) (λz=>Tm c (by let:=h.1;rw[z]at this;show this)) (c.rm.mono b) v m a l f
instance[Fn T da F n][CA T (ao a)]:CE T (eo (aG F n a)):=yV (ao a) da F n M λf _ r g d p e b=>#[_,vM f r e (dc _) g d (gu p) (mF p),JW b]
instance[Fn T u3 F n][CA T (ao a)]:CE T (eo (wZ F n a)):=yV (ao a) u3 F n _ λf x r g d p e b=>#[_,L4.Gv f (x W) r e (dc _) g d (gu p) (mF p),QC b]
instance[Fn T da F n][CA T (as a)]:CE T (es (gn F n a)):=yV (as a) da F n M λf _ r g d p e b=>#[_,vM f r e (dc _) g d (gu p) (mF p),RQ b]
instance[Fn T u3 F n][CA T (as a)]:CE T (es (agc F n a)):=yV (as a) u3 F n _ λf x r g d p e b=>#[_,L4.Gv f (x W) r e (dc _) g d (gu p) (mF p),akL b]
instance[Fn T qw F n][CA T (as a)]:CE T (es (sO F n a)):=yV (as a) qw F n M λf _ r g d p e b=>#[_,vM f r e (dc _) g d (gu p) (mF p),ajl b]
instance[Fn T qw F n][CA T (as a)]:CE T (es (t8 F n a)):=yV (as a) qw F n M λf _ r g d p e b=>#[_,vM f r e (dc _) g d (gu p) (mF p),aiH b]
class CB(f:I D->bb RV)where
 x:Str
 v:a_
 b:ni x=G v
 y:(∃id,v=.builtin id)\/∃ty,v=.type ty
 ok:∀{X:Cx},X.calm=u->∃r,lT X v r/\Ci X.K r f
def N5(a:Gm)(x:Str)(e:c_):bb (c_×I c_×Pos×Pos):=if blt a x then ZP {a with top:=1} 0 0 x e else CL
def mV(h:N5 o x e=G y):e=.Call (.Name x y.2.2.1) (y.1::y.2.1) [] y.2.2.2/\blt o x=u/\(y.1::y.2.1).all nO=u:=by
 unfold N5 at h;split at h
 .rename_i z;let(b,_,_,_,a):=Ax h;show#[b,z,a]
 simp_all
def wT(c:Ct T o X E)(m:blt o x=u)(b:ni x=G v)(y:(∃id,v=.builtin id)\/∃ty,v=.type ty)(k:lT X v r)(a:(e::l).all nO=u)(h:PA X (e::l) t):PE X (.Call (.Name x p) (e::l) [] q) (FW r t):=by
 let(j,g,i,f):=qR c m;rcases y with⟨id,rfl⟩|⟨id,rfl⟩
 .show N9 k j g b h f i (gu a) (mF a)
 .show ajp k j g b h f i (gu a) (mF a)
def Yw(U)(f)[o:CB f][b:CA T U](k:∀{K E r t},Ci K r f->U K E t->J K E (FW r t)):CE T J where
 chk Γ e:=(N5 Γ o.x e).any λy=>b.chk Γ (y.1::y.2.1)
 ok c h:=by let(y,q,j):=bH h;let(0,g,a):=mV q;let(t,l,i):=b.ok c j;let(r,k1,k2):=o.ok c.cm;show#[_,wT c g o.b o.y k1 a l,k k2 i]
instance[CB f][CA T (ao a)]:CE T (eo (cy f a)):=Yw (ao a) f Lo
instance[CB f][CA T (as a)]:CE T (es (Wk f a)):=Yw (as a) f UZ
instance:CB cX:=#[_,_,Ue,.inl #[_,W],λ_=>#[_,BE,Wj]]
instance:CB C2:=#[_,_,Ue,.inl #[_,W],λ_=>#[_,BE,R8]]
instance:CB iW:=#[_,_,Qi,.inr #[_,W],λ_=>#[_,xA,akV]]
instance:CB v3:=#[_,_,ZC,.inl #[_,W],λh=>#[_,MJ h,Wl]]
instance:CB xQ:=#[_,_,TK,.inr #[_,W],λ_=>#[_,ajA,WU]]
instance:CB Ry:=#[_,_,TK,.inr #[_,W],λ_=>#[_,akD,PZ]]
instance:CB iX:=#[_,_,aaq,.inr #[_,W],λ_=>#[_,za,W5]]
instance:CB ww:=#[_,_,Di,.inr #[_,W],λ_=>#[_,z8,Pc]]
instance:CB L9.jY:=#[_,_,Bl,.inl #[_,W],λ_=>#[_,L9.aa6,L9.ae2]]
instance:CB A9:=#[_,_,Ui,.inl #[_,W],λh=>#[_,ajv h,SQ]]
instance[A:CA T (ao a)]:CE T (eo (cy L9.Yg a))where
 chk Γ e:=(N5 Γ "list" e).any λy=>y.2.1.isEmpty&&(N5 Γ "range" y.1).any λz=>A.chk Γ (z.1::z.2.1)
 ok c h:=by let((e,l,w,v),q,p):=bH h;let(0,g,i):=mV q;simp_all;let(0,o):=p;let(z,f,n):=bH o;let(0,r,b):=mV f;let(t,m,j):=A.ok c n;show#[_,wT c g Di (.inr #[_,W]) (L9.ahx c.cm) i (jh (wT c r L9.QG (.inr #[_,W]) L9.IR b m) ma (pf W)),L9.Yu j]
def Y_(a:Gm)(x y:Str)(i:Int)(e:c_):bb c_:=(Bj e).bind λc=>match c.2.1,c.2.2.1 with |[l],[#[G w,v,_]]=>if(vN c.1).any (λz=>z.1==x)&&blt a x&&w==y&&((vC v).bind cD).any (λz=>dq 2 z (.int i))&&nO l then G l else CL|_,_=>CL
def LI(h:Y_ J x y i e=G l):(∃p k D s j,e=.Call (.Name x p) [l] [#[G y,.Constant (.int i) j k,D]] s)/\blt J x=Ld/\nO l=Ld:=by
 let((f,a,C,p),q,b):=q3.mp h;simp only[rX q];dsimp only at b;split at b
 .split at b
  .rename_i z
   injections;subst_vars
   simp at z;let((((r,o),0),m),g):=z;let(n,A,w):=bH r;let(d,v,u):=bH m;let(c,t,B):=q3.mp v;obtain rfl:=sf _ _ _ u;let(j,k,0):=NH t;ext c<;>injections;subst_vars;rw[vB A,beq_iff_eq.mp w];show#[#[_,_,_,_,_,W],o,g]
  simp_all
 simp_all
instance[p:CA T (ao a)]:CE T (eo (cy (Ff i) a))where
 chk Γ e:=(Y_ Γ "max" "default" i e).any λl=>p.chk Γ [l]
 ok c h:=by let(l,q,m):=bH h;let((_,_,_,_,_,0),g,b):=LI q;let(o,n,_):=qR c g;let(t,j,f):=p.ok c m;show#[_,QO c.cm o n j (Gd b),Lo R9 f]
instance[x:CE T (eo a)]:CE T (eo (OH Oz a))where
 chk Γ e:=(L0 e).any λy=>(match y.1 with|.USub=>u|_=>M)&&x.chk Γ y.2
 ok c h:=by let((o,e),q,b):=bH h;let(_,0):=Eo q;rw[c!]at b;let(t,g,f):=x.ok c b.2;ext o<;>first|show#[_,Uf LN g,YC O0 f]|simp_all
def La(e:c_):Bool:=(L0 e).any λy=>(match y.1 with|.USub=>u|_=>M)&&((vC y.2).bind cD).any λd=>dq 2 d (.int 1)
def Rc(h:La e=u):∃k p q,e=.UnaryOp .USub (.Constant (.int 1) k p) q:=by let((o,e),q,a):=bH h;let(_,0):=Eo q;rw[c!]at a;let(d,l,i):=bH a.2;let(c,g,f):=q3.mp l;obtain rfl:=sf _ _ _ i;let(j,m,b):=NH g;ext c<;>ext f;ext o<;>first|show#[_,_,_,by rw[b]]|simp_all
instance[x:CE T (eo a)]:CE T (eo (OH L9.Jf a))where
 chk Γ e:=(Az e).any λy=>(W? y.2.1).any λz=>z.1.isNone&&z.2.1.isNone&&z.2.2.any La&&x.chk Γ y.1
 ok c h:=by let((e,s,p),q,u):=bH h;simp[lJ q];let((A,w,v),g,r):=bH u;let(_,f):=M4 g;subst f;simp_all;let(((0,0),o),n):=r;let(m,b,l):=bH o;subst b;let(_,_,_,0):=Rc l;let(t,j,i):=x.ok c n;show#[_,W8 j (Gi (Uf LN rA)),L9.V8 i]
instance:CO T (oo jN):=#[λ_ e=>e.isNone,λ_ h=>by rw[DD.mp h];show#[_,RB,ala]]
instance[x:CE T (eo a)]:CO T (oo (fw a))where
 chk Γ e:=e.any (x.chk Γ)
 ok c h:=by let(e,q,g):=bH h;subst q;let(t,f,b):=x.ok c g;show#[_,Gi f,Oa b]
class DI(f:D->bb Int->bb Int->bb RV)where ok:∀{X:Cx},∃r,X9 X r/\VJ X.K r f
instance:DI xM:=#[#[_,XV,P5]]
instance:DI hJ:=#[#[_,VT,RU]]
instance[o:DI f][x:CE T (eo a)][m:CO T (oo l)][n:CO T (oo H)]:CE T (eo (xu f a l H))where
 chk Γ e:=(Az e).any λy=>(W? y.2.1).any λz=>z.2.2.isNone&&x.chk Γ y.1&&m.chk Γ z.1&&n.chk Γ z.2.1
 ok c h:=by let((e,s,p),q,A):=bH h;simp[lJ q];let((E,C,B),g,w):=bH A;let(_,b):=M4 g;subst b;simp_all;let(((0,v),j),i):=w;let(t,k1,k2):=x.ok c v;let(G,k3,k4):=m.ok c j;let(F,k5,k6):=n.ok c i;let(r,k7,k8):=o.ok;show#[_,MZ k7 k1 k3 k5,YA k8 k2 k4 k6]
def UD(op)(A B)[x:CE T A][y:CE T B]{f:TE->TE->TE}(p:∀{X:Cx}{a b pos s d},PE X a s->PE X (.BoolOp op [b] pos) d->PE X (.BoolOp op [a,b] pos) (f s d))(k:∀{K E s d},A K E s->B K E d->J K E (f s d)):CE T J where
 chk Γ e:=(X_ e).any λz=>decide (z.1=op)&&match z.2.1 with |[l,r]=>x.chk Γ l&&y.chk Γ r|_=>M
 ok c h:=by
  let((o,l,p),q,i):=bH h;rw[Nh q];simp only[c!,decide_eq_true_eq]at i;let(0,g):=i;split at g
  .rw[c!]at g;let(s,t,n):=x.ok c g.1;let(d,m,j):=y.ok c g.2;show#[_,p t (WT m),k n j]
  .ext g
instance[CE T (eo a)][CE T (eo b)]:CE T (eo (Am a b)):=UD _ (eo a) (eo b) KJ XW
instance[CE T (eo a)][CE T (eo b)]:CE T (eo (HL a b)):=UD .Or (eo a) (eo b) Vs Wt
instance[CE T (es a)][CE T (es b)]:CE T (es (Eg a b)):=UD _ (es a) (es b) KJ RP
def Yz(Q)(A B)[z:CT T Q][x:CE T A][y:CE T B](k:∀{K E t n d},Q K E t->A K E n->B K E d->J K E (Zz t n d)):CE T J where
 chk Γ e:=(Dh e).any λw=>z.chk Γ w.1&&x.chk Γ w.2.1&&y.chk Γ w.2.2
 ok c h:=by let(w,q,a):=bH h;let(_,0):=UC q;simp only[c!]at a;let(m,f,b):=z.ok c a.1.1;let(n,l,j):=x.ok c a.1.2;let(d,i,g):=y.ok c a.2;show#[_,Oy f l i,k b j g]
instance[CT T (pT q)][CE T (eo a)][CE T (eo b)]:CE T (eo (yp q a b)):=Yz (pT q) (eo a) (eo b) Z3
instance[CT T (rM q)][CE T (es a)][CE T (es b)]:CE T (es (Tb q a b)):=Yz (rM q) (es a) (es b) UM
def EC(o p:CmpOp)(e:c_):bb (c_×c_×c_):=(V4 e).bind λx=>match x.2.2 with |[b,c]=>if x.2.1=[o,p]&&!lastMarks [o,p] [b,c]then G (x.1,b,c)else CL|_=>CL
def XH(h:EC o p e=G y):∃pos,e=.Compare y.1 [o,p] [y.2.1,y.2.2] pos/\lastMarks [o,p] [y.2.1,y.2.2]=M:=by
 let((a,u,b),q,f):=q3.mp h;let(_,0):=Fg q;dsimp only at f;split at f
 .split at f
  .rename_i z;ext f;rw[c!,decide_eq_true_eq,z6]at z;show#[_,by rw[z.1],z.2]
  simp_all
 simp_all
section
variable{f g:D->D->bb RV}{a b d:FE}[o:m8 f][p:m8 g][x:CE T (eo a)][y:CE T (eo b)][v:CE T (eo d)]
def Vx(x:CE T (eo a))(y:CE T (eo b))(v:CE T (eo d))(o:m8 f)(p:m8 g)(c:Gm)(e:c_):Bool:=(EC o.op p.op e).any λw=>x.chk c w.1&&y.chk c w.2.1&&v.chk c w.2.2
def Hm(c:Ct T J X E)(h:Vx x y v o p J e=Ld):∃t,PE X e t/\PT X e (yA t)/\EO X.K E t (eB f g a b d):=by let(w,q,i):=bH h;let(u,0,j):=XH q;simp_all;let(L,n,B):=x.ok c i.1.1;let(H,m,A):=y.ok c i.1.2;let(C,l,z):=v.ok c i.2;let(r,k1,k2):=o.ok (x3 c.rm);let(s,k3,k4):=p.ok (x3 c.rm);show#[_,Mc k1 k3 n m l j,KM k1 k3 n m l j,ali k2 k4 B A z]
instance:CE T (eo (eB f g a b d)):=#[Vx x y v o p,λc h=>by let(_,h1,_,e):=Hm c h;show#[_,h1,e]]
end
def ER(A)[x:CE T A](k:∀{K E t},A K E t->Q K E (tB t)):CT T Q where
 chk Γ e:=Tu e&&x.chk Γ e
 ok c h:=by rw[c!]at h;let(t,b,a):=x.ok c h.2;show#[_,WK b (Ro h.1),k a]
def Us(A B){f:D->D->bb RV}[o:m8 f][x:CE T A][y:CE T B](k:∀{K E r s d},mo K r f->A K E s->B K E d->Q K E (yA (OJ r s d))):CT T Q where
 chk Γ e:=(L_ o.op e).any λp=>x.chk Γ p.1&&y.chk Γ p.2
 ok c h:=by let(p,q,a):=bH h;rw[c!]at a;let(s,n,m):=x.ok c a.1;let(d,l,j):=y.ok c a.2;let(_,0,b):=Dw q;let(r,i,g):=o.ok (x3 c.rm);show#[_,QT i n l b,k g m j]
instance[CE T (eo a)]:CT T (pT (ai a)):=ER (eo a) Y7
instance[CE T (es a)]:CT T (rM (bf a)):=ER (es a) Ul
instance[m8 f][CE T (eo a)][CE T (eo b)]:CT T (pT (ai (am f a b))):=Us (eo a) (eo b) λh g e=>rT (r8 h g e)
instance[m8 f][CE T (es a)][CE T (es b)]:CT T (rM (bf (iQ f a b))):=Us (es a) (es b) λh g e=>wm (K2 h g e)
instance[o:m8 f][p:m8 g][x:CE T (eo a)][y:CE T (eo b)][v:CE T (eo d)]:CT T (pT (ai (eB f g a b d))):=#[Vx x y v o p,λc h=>by let(_,_,h1,e):=Hm c h;show#[_,h1,rT e]]
def Tz(R)[z:CT T R](k:∀{K E t},R K E t->Q K E (Pf t)):CT T Q where
 chk Γ e:=(L0 e).any λy=>(match y.1 with|.Not=>u|_=>M)&&z.chk Γ y.2
 ok c h:=by let((o,e),q,a):=bH h;let(_,0):=Eo q;rw[c!]at a;let(t,f,b):=z.ok c a.2;ext o<;>first|show#[_,WA f,k b]|cases a.1
def Z7(h:PT X (.BoolOp op o pos) t):PW X (.BoolOp op o pos) t:=λ_=>h
def Rh(op)(R S)[z:CT T R][v:CT T S]{f:TT->TT->TT}(C:∀{X:Cx}{a pos t},PT X a t->PW X (.BoolOp op [a] pos) t)(p:∀{X:Cx}{a b r pos x d},PT X a x->PW X (.BoolOp op (b::r) pos) d->PW X (.BoolOp op (a::b::r) pos) (f x d))(k:∀{K E x d},R K E x->S K E d->Q K E (f x d)):CT T Q where
 chk Γ e:=(X_ e).any λy=>decide (y.1=op)&&match y.2.1 with |[l,m]=>z.chk Γ l&&v.chk Γ m|l::m::n::s=>z.chk Γ l&&v.chk Γ (.BoolOp op (m::n::s) y.2.2)|_=>M
 ok c h:=by
  let((o,l,w),q,B):=bH h;rw[Nh q];simp only[c!,decide_eq_true_eq]at B;let(0,g):=B;split at g
  .rw[c!]at g;let(x,A,u):=z.ok c g.1;let(d,j,i):=v.ok c g.2;show#[_,(p A (C j)).pt,k u i]
  .rw[c!]at g;let(x,A,u):=z.ok c g.1;let(d,j,i):=v.ok c g.2;show#[_,(p A (Z7 j)).pt,k u i]
  .ext g
instance[CT T (pT q)]:CT T (pT (kR q)):=Tz (pT q) Sl
instance[CT T (rM q)]:CT T (rM (ug q)):=Tz (rM q) Rk
instance[CT T (pT q)][CT T (pT r)]:CT T (pT (mz q r)):=Rh _ (pT q) (pT r) Fj NZ Sy
instance[CT T (pT q)][CT T (pT r)]:CT T (pT (yf q r)):=Rh .Or (pT q) (pT r) Mo T7 WO
instance[CT T (rM q)][CT T (rM r)]:CT T (rM (qE q r)):=Rh _ (rM q) (rM r) Fj NZ Q4
instance[CT T (rM q)][CT T (rM r)]:CT T (rM (Bk q r)):=Rh .Or (rM q) (rM r) Mo T7 UO
instance[CT T (pT q)]:CT T (rM (bG q)):=Bt (A:=pT q) Lx
end
end CC
set_option warn.classDefReducibility false
namespace CC
open PySem L2 L3 L10
variable{T:a8 Fd}{J:Jd TE}
theorem GJ{α f:Type}:∀{l m:I (α×f)},l.map (·.1)=m.map (·.1)->l.map (·.2)=m.map (·.2)->l=m
 |[],[],_,_=>rfl|[],_::_,h,_=>by contradiction|_::_,[],h,_=>by simp_all|(a,b)::l,(c,d)::m,h,k=>by
  injection h with e h2
  injection k with k1 k2
  let e:a=c:=e;let k1:b=d:=k1;simp[e,k1,GJ h2 k2]
instance{l:a8 (D×D)}[x:CE T (eo a)]:CE T (eo (Yi l a))where
 chk Γ e:=(Az e).any λy=>(Dj y.1).any λd=>((an1 d.1 d.2).any λm=>dq 9 (.tuple (m.map (·.1))) (.tuple (l.map (·.1)))&&dq 9 (.tuple (m.map (·.2))) (.tuple (l.map (·.2))))&&an2 l&&decide _&&d.1.all (·.isSome)&&decide (d.1.length=d.2.length)&&decide (0<d.1.length)&&decide (d.1.length<=15)&&nO y.2.1&&x.chk Γ y.2.1
 ok c h:=by let((e,b,p),q,H):=bH h;simp only[lJ q];let((A,L),w,u):=bH H;let(_,v):=XF w;subst v;simp only[c!,decide_eq_true_eq]at u;let((((((((G,F),E),C),B),I),o),n),j):=u;let(m,r,f):=bH G;rw[c!]at f;let i:=sf _ _ _ f.1;let g:=sf _ _ _ f.2;injection i with i;injection g with g;rw[GJ i g]at r;let(t,k1,k2):=x.ok c j;show#[_,Pn k1 r F E C B (λz=>by let z:A=[]:=z;simp_all) o (zm n),Z2 k2]
def Yb(x:Str)(e:c_):bb (c_×I c_×Pos×Pos):=(Bj e).bind λy=>(L1 y.1).bind λz=>if z.2.1==x&&Z5 z.1&&z.2.2.endLine==y.2.2.2.line&&y.2.1.all nO&&decide (y.2.1.length<20)&&y.2.2.1.isEmpty then G (z.1,y.2.1,z.2.2,y.2.2.2)else CL
def vF{x:Str}{e:c_}{y:c_×I c_×Pos×Pos}(h:Yb x e=G y):e=.Call (.Attribute y.1 x y.2.2.1) y.2.1 [] y.2.2.2/\Z5 y.1=Ld/\(y.2.2.1.endLine==y.2.2.2.line)=Ld/\y.2.1.all nO=Ld/\y.2.1.length<20:=by
 let((f,l,v,p),q,w):=q3.mp h;let((o,n,r),u,a):=q3.mp w;rw[rX q,show f=_ from D4 u];split at a
 .rename_i z;ext a;simp only[c!,decide_eq_true_eq,qk]at z;let(((((t,m),j),i),g),b):=z;show#[?_,m,j,i,g];rw[show n=x from beq_iff_eq.mp t,show v=[]from b]
 .ext a
class MS(f:Str->I D->bb RV)where
 x:Str
 ok:∀{X:Cx},∃id r,Slot "str" x id/\typeOf (.builtin id)=pure (.type "method_descriptor")/\S4 X id r/\Yy X.K r f
instance[o:MS f][x:CE T (eo a)][F:CA T (ao b)]:CE T (eo (ue f a b))where
 chk Γ e:=(Yb o.x e).any λy=>decide (0<y.2.1.length)&&x.chk Γ y.1&&F.chk Γ y.2.1
 ok c h:=by let((b,l,p,q),z,i):=bH h;let(0,E,C,g,B):=vF z;simp only[c!,decide_eq_true_eq]at i;let((H,A),w):=i;let(t,v,n):=x.ok c A;let(G,m,j):=F.ok c w;let(id,r,k1,k2,k3,k4):=o.ok;cases l with |nil=>contradiction|cons e l=>show#[_,T4 PySem.F.plainAttrs_str k1 k2 k3 v m (jR E) (uJ g B) C (gu g) (mF g),YJ k4 n j]
instance:MS eE:=#[_,#[_,_,PySem.F.slot_str_join,PySem.F.type_str_join,QE,Sa]]
instance:MS eK:=#[_,#[_,_,PySem.F.slot_str_split,PySem.F.type_str_split,NQ,Na]]
instance:MS mM:=#[_,#[_,_,PySem.F.slot_str_startswith,PySem.F.type_str_startswith,aja,ajM]]
def Rp(m){id:String}{r:V->I V->Hp->VK->Prop}(s:Slot "list" m id)(ty:typeOf (.builtin id)=pure (.type "method_descriptor"))(mt:∀{X:Cx},S4 X id r)(i:Gm->c_->Bool)(G:Jd TE)(A)[x:CE T A](j:∀{d X E e},Ct T d X E->i d e=Ld->∃t,PE X e t/\G X.K E t)(k:∀{K E to t},G K E to->A K E t->J K E (Xm K "list" r to (jM t lW))):CE T J where
 chk d e:=(Yb m e).any λy=>i d y.1&&match y.2.1 with |[e]=>x.chk d e|_=>M
 ok c h:=by
  let((b,l,p,q),z,g):=bH h;let(0,C,B,a,H):=vF z;rw[c!]at g;let(w,f):=g;let(to,v,u):=j c w
  match l,a,f with|[e],a,f=>let(t,o,n):=x.ok c f;show#[_,?_,k u n];show T4 PySem.F.plainAttrs_list s ty mt v (jh o ma (gu a)) (jR C) (uJ a (by show 1<20;decide)) B (gu a) W
def vJ(i:Nat):Jd TE:=λ_ _ t=>t=uo i
instance[CE T (eo a)]:CE T (eo (sZ i a)):=Rp _ Kn Km sU (Ox i) (vJ i) (eo a) (λc h=>#[_,vv c h,W]) λh k=>by injections;subst_vars;show Wf k
instance[CE T (eo a)]:CE T (eo (LO i a)):=Rp _ Ki Kh yg (Ox i) (vJ i) (eo a) (λc h=>#[_,vv c h,W]) λh k=>by injections;subst_vars;show Xp k
instance[x:CE T (es o)][CE T (es a)]:CE T (es (xB o a)):=Rp _ Kn Km sU x.chk _ (es a) x.ok Pk
instance[x:CE T (es o)][CE T (es a)]:CE T (es (M0 o a)):=Rp _ Ki Kh yg x.chk _ (es a) x.ok SB
def Xr(a:Gm)(C f:Str):Bool:=(a.M.cl.lookup C).any λL=>L.contains f
def G0(c:Ct T o X E)(h:Xr o C f=u):∃L,pV X.K C L/\f∈L:=by let(L,q,a):=bH h;show#[L,c.md.cl _ _ q,U'.mp a]
instance{C f:Str}[x:CE T (es a)]:CE T (es (bw C f a))where
 chk Γ e:=(L1 e).any λy=>y.2.1==f&&Xr Γ C f&&Z5 y.1&&x.chk Γ y.1
 ok c h:=by let((o,n,p),q,b):=bH h;rw[D4 q];simp only[c!,beq_iff_eq]at b;let(((0,u),r),m):=b;let(L,i,g):=G0 c u;let(t,l,j):=x.ok c m;show#[_,Vt l (jR r),Qt i g j]
class FM(T:I Fd)(rz:Bool)(C m:Str)(F:jG)(n:Nat)where
 i:Nat
 lv:Nat
 ps:I Str
 h:T[i]?=G (l? rz lv C m ps n F)
section
variable{C m:Str}{F:jG}
def Sv(T)(b hd:Bool)(C m)(F)(n)[o:FM T b C m F n](x:Gm->c_->Bool)(u:Gm->I c_->Bool)(a:Gm)(e:c_):Bool:=(!hd||a.rz&&b)&&decide (o.i<a.top)&&decide (o.lv<=a.lv)&&(a.M.cl.lookup C).isSome&&(Yb m e).any λy=>x a y.1&&u a y.2.1
def Fi[o:FM T U C m F n](c:Ct T Γ X E)(h:Sv T U hd C m F n x w Γ e=Ld):∃(b:c_)(l:I _)(p q:Pos)(L:I Str)(pl:Sem _),e=.Call (.Attribute b m p) l [] q/\x Γ b=Ld/\w Γ l=Ld/\pV X.K C L/\nV X.prog X.w X.K X.mg X.base (if U then L4.pZ X.prog X.w else rj) o.lv C m o.ps (lM X.K n F)/\ik o.lv X.A/\eu (if U then L4.pZ X.prog X.w else rj) X (if hd then E else E0)/\l.all nO=Ld/\eval (.Call (.Attribute b m p) l [] q) X.env=(do
   let ov<-eval b X.env
   standAt p.atName let(f,first)<-holding [ov] (getMethod ov m pl)callWith q f first (backTo q (e_ l X.env)) (backToKw q (keywordEach [] X.env))):=by unfold Sv at h;simp only[c!,decide_eq_true_eq]at h;let((((a,y),v),t),r):=h;let((b,l,p,q),z,g):=bH r;let(0,H,G,i,B):=vF z;rw[c!]at g;let(L,j):=EM.mp t;let(pl,ev):=ZI H i B G;show#[b,l,p,q,L,pl,W,g.1,g.2,c.md.cl _ _ j,c.fs _ _ y o.h,c.rm.mono v,?_,i,ev];cases hd with |true=>let a:=(c! _ _).mp a;rw[a.2];show Tm c a.1|false=>cases U with|true=>show UX|false=>show E5
def VQ(d hd:Bool)(A)(U)[o:FM T d C m F n][x:CE T A][y:CA T U](k:∀{K E L to t},pV K C L->A K E to->U K E t->J K E (rh K C m (lM K n F) (if hd then E else E0) to t)):CE T J where
 chk:=Sv T d hd C m F n x.chk λz l=>!l.isEmpty&&y.chk z l
 ok c h:=by let(b,l,p,q,L,pl,0,w,a,v,r,j,i,f,g):=Fi c h;rw[c!]at a;let(to,k1,k2):=x.ok c w;let(t,k3,k4):=y.ok c a.2;cases l with |nil=>cases a.1|cons e l=>show#[_,Uk r i j k1 k3 (dc _) (gu f) (mF f) g,k v k2 k4]
def aaa(d hd:Bool)(A:Jd TE)[o:FM T d C m F n][x:CE T A](k:∀{K E L to},pV K C L->A K E to->J K E (rh K C m (lM K n F) (if hd then E else E0) to lW)):CE T J where
 chk:=Sv T d hd C m F n x.chk λ_ l=>l.isEmpty
 ok c h:=by let(b,l,p,q,L,pl,0,r,a,j,i,g,f,t,e):=Fi c h;let(to,k1,k2):=x.ok c r;rw[qk]at a;subst a;show#[_,Xt i f g k1 (dc _) e,k j k2]
instance[FM T u C m F n][CE T (es o)][CE T (es a)][CA T (as b)]:CE T (es (aB C m F n o (aj a b))):=VQ u M (es o) (as _) y6
instance[FM T M C m F n][CE T (es o)][CE T (es a)][CA T (as b)]:CE T (es (aB C m F n o (aj a b))):=VQ M M (es o) (as _) y6
instance[FM T M C m F n][CE T (es o)]:CE T (es (aB C m F n o aJ)):=aaa M M (es o) λh k=>y6 h k uN
instance[FM T u C m F n][CE T (es o)][CE T (es a)][CA T (as b)]:CE T (es (mv C m F n o (aj a b))):=VQ u u (es o) (as _) J4
class FK(T:I Fd)(C:Str)(F:jG)(n:Nat)where
 i:Nat
 lv:Nat
 ps:I Str
 h:T[i]?=G (E! lv C ps n F)
instance[o:FK T C F n][x:CE T (es a)][i:CA T (as b)]:CE T (es (jv C F n (aj a b)))where
 chk Γ e:=(Γ.M.cl.lookup C).isSome&&(ZP Γ o.i (o.lv+1) C e).any λy=>CK.chk T PA (as (aj a b)) Γ (y.1::y.2.1)
 ok c h:=by rw[c!]at h;let(L,l):=EM.mp h.1;let(y,q,r):=bH h.2;let(0,g,A,j,f):=Ax q;let(z,w,_):=tO c g;let(t,v,p):=CK.ok c r;show#[_,Zv (c.fs _ _ A o.h) E5 c.rm v j z w (gu f) (mF f),G9 (c.md.cl _ _ l) p]
instance[o:FK T C F n]:CE T (es (jv C F n aJ))where
 chk Γ e:=(Γ.M.cl.lookup C).isSome&&decide _&&decide _&&UQ Γ C&&(Bj e).any λy=>y.2.1.isEmpty&&y.2.2.1.isEmpty&&(vN y.1).any λz=>z.1==C
 ok c h:=by simp only[c!,decide_eq_true_eq]at h;let((((w,v),u),t),r):=h;let(L,b):=EM.mp w;let((f,l,E,p),q,j):=bH r;rw[rX q];simp_all;let((0,0),i):=j;let(z,a,g):=bH i;rw[show f=_ from vB a,beq_iff_eq.mp g];let(B,A,_):=tO c t;show#[_,Wn (c.fs _ _ v o.h) E5 c.rm u B A,G9 (c.md.cl _ _ b) uN]
end
end CC
set_option warn.classDefReducibility false
namespace CC
open PySem L2 L3 L10
variable{T:a8 Fd}
def L'(c:Ct T o X E):X.A.units+1<cLine:=NP c.rm
instance[x:CE T (es d)][y:CE T (es k)]:CE T (es (yt d k))where
 chk Γ e:=(Az e).any λp=>nO _&&x.chk Γ p.1&&y.chk Γ _
 ok c h:=by let(p,q,a):=bH h;simp only[c!]at a;let(l,i,g):=x.ok c a.1.2;let(j,f,b):=y.ok c a.2;rw[lJ q];show#[_,P8 (L' c) i f (zm a.1.1),alR g b]
def T5(x y:Gm->c_->Bool)(a:Gm)(e:c_):Bool:=(L_ .In e).any λp=>x a p.1&&y a p.2
def MY[x:CE T (es k)][y:CE T (es d)](c:Ct T o X E)(h:T5 x.chk y.chk o e=u):∃t,PE X e t/\PT X e (tB t)/\eD X.K E t (xD M k d):=by let(p,q,a):=bH h;rw[c!]at a;let(_,0,b):=Dw q;let(m,g,j):=x.ok c a.1;let(l,f,i):=y.ok c a.2;show#[_,XY (KP (L' c) g f) b,X5 (KP (L' c) g f) b,RJ j i]
instance[x:CE T (es k)][y:CE T (es d)]:CT T (rM (bf (xD M k d))):=#[T5 _ _,λc h=>let#[_,_,h1,a]:=MY c h;#[_,h1,Ul a]]
instance[x:CE T (es d)][y:CE T (es k)]:CE T (es (x9 d k))where
 chk Γ e:=(Yb "pop" e).any λz=>x.chk Γ z.1&&match z.2.1 with|[e]=>y.chk Γ e|_=>M
 ok c h:=by
  let((b,l,p,q),z,g):=bH h;let(0,m,j,a,u):=vF z;rw[c!]at g;let(i,f):=g;let(w,t,r):=x.ok c i
  match l,a,f with|[e],a,f=>let(v,o,n):=y.ok c f;show#[_,Mj t o #[jR m,uJ a (),j,?_],NC r n];rw[gu a];rfl
instance[x:CE T (es d)]:CE T (es (Cm d))where
 chk Γ e:=(N5 Γ "list" e).any λy=>y.2.1.isEmpty&&(Yb "values" y.1).any λz=>z.2.1.isEmpty&&x.chk Γ z.1
 ok c h:=by let((e,l,A,w),q,o):=bH h;let(0,g,f):=mV q;simp_all;let(0,n):=o;let((b,l,v,u),z,a):=bH n;let(0,r,p,C,B):=vF z;simp only[c!,qk]at a;let(0,m):=a;let(t,j,i):=x.ok c m;show#[_,wT c g Di (.inr #[_,W]) (ael c.cm) f (jh (UN LJ Ky PySem.F.type_dict_values aiM j (jR r) p) ma (pf W)),alc i]
def Zx(x){v:a_}(b:ni x=G v)(y:(∃id,v=.builtin id)\/∃ty,v=.type ty)(A)[z:CE T A]{r:lD->I V->Hp->VK->Prop}(n:∀{X:Cx},X.calm=u->lT X v (r X.K))(k:∀{K E t},A K E t->J K E (FW (r K) (jM t lW))):CE T J where
 chk Γ e:=(N5 Γ x e).any λy=>y.2.1.isEmpty&&z.chk Γ y.1
 ok c h:=by let((e,l,p,o),q,f):=bH h;let(0,g,a):=mV q;simp only[c!,qk]at f;let(0,m):=f;let(t,j,i):=z.ok c m;show#[_,wT c g b y (n c.cm) a (jh j ma (gu a)),k i]
instance[CE T (es d)]:CE T (es (yz d)):=Zx _ Bl (.inl #[_,W]) (es d) ad4 MK
instance[CE T (es d)]:CE T (es (yE d)):=Zx _ XO (.inr #[_,W]) (es d) afk Nf
def QQ(i:Nat)(a:Gm)(e:c_):Bool:=(vN e).any λx=>a.N[i]?==G x.1&&(a.sc.lookup x.1==G .local||(a.sc.lookup x.1==G .cell&&a.fc.contains x.1))
def zV(c:Ct T o X E)(h:QQ i o e=u):∃x p,e=.Name x p/\X.N[i]?=G x/\L2.Ye X.env.scope x/\(X.fn x=u\/vf x X.env.scope.names=G hO.local):=by
 let((x,p),q,a):=bH h;simp only[c!,w!]at a;show#[x,p,vB q,by rw[c.n];show beq_iff_eq.mp a.1,?_];ext L2.Ye;rw[c.sc];rcases a.2 with z|⟨z,w⟩
 .show#[.inl (gP z),.inr (gP z)]
 .show#[.inr (gP z),.inl (c.fc _ (U'.mp w))]
def Zg(i)(k:∀{K E},f K E (rS i)):CG T f where
 chk:=QQ i
 ok c h:=by let(x,p,0,e,b,a):=zV c h;show#[_,#[RH c.nd e b a,λ_=>W],k]
instance:CG T (go (gN i)):=Zg i zG
instance:CG T (Jm (d4 i)):=Zg i vj
def Zc(k:∀{K E},a K E PB):CH T a:=#[λ_ l=>l.isEmpty,λ_ h=>by rw[qk.mp h];show#[_,#[PF,W,W],k]]
instance:CH T (gs rE):=Zc WF
instance:CH T (XS uq):=Zc OV
def YK(G)(H)[x:CG T G][y:CH T H](k:∀{K E t u},G K E t->H K E u->n K E (Fp t u)):CH T n where
 chk Γ l:=match l with|e::r=>x.chk Γ e&&y.chk Γ r|[]=>M
 ok c h:=by
  split at h
  .rw[c!]at h;let(p,(m,a),j):=x.ok c h.1;let(o,(i,f,b),g):=y.ok c h.2;show#[_,#[Mb m i (by rw[a];rfl),by rw[a,j_,j_,f],by rw[a,List.findIdx?_cons,b];rfl],k j g]
  .ext h
instance[CG T (go g)][CH T (gs r)]:CH T (gs (iM g r)):=YK (go g) (gs r) Qj
instance[CG T (Jm g)][CH T (XS r)]:CH T (XS (kT g r)):=YK (Jm g) (XS r) Mv
def YV(n)(H)[y:CH T H](k:∀{K E t},H K E t->m K E (QU K n t)):CG T m where
 chk Γ e:=(Ou e).any λl=>decide (l.length=n)&&y.chk Γ l
 ok c h:=by let(l,q,a):=bH h;let(_,_,0):=AX q;simp only[c!,decide_eq_true_eq]at a;let(0,b):=a;let(t,(j,g,f),i):=y.ok c b;show#[_,#[WW c.cm j g f,λ_=>W],k i]
instance[CH T (gs r)]:CG T (go (gT n r)):=YV n (gs r) XL
instance[CH T (XS r)]:CG T (Jm (IP n r)):=YV n (XS r) Qd
def Vb(A){I:Jd TI}[x:CE T A]{f:lD->TE->TI}(p:∀{X:Cx}{d e t},PE X e t->PI X d e (f X.K t))(k:∀{K E t},A K E t->I K E (f K t)):CI T I where
 chk Γ p:=nO p.2&&x.chk Γ p.2
 ok c h:=by rw[c!]at h;let(t,b,a):=x.ok c h.2;show#[_,#[p b,h.1],k a]
instance[CE T (eo a)]:CI T (io (dB a)):=Vb (eo a) DL Wc
instance[CE T (eo a)]:CI T (io (zn a)):=Vb (eo a) X7 Mh
instance[CE T (es a)]:CI T (Yh (jA a)):=Vb (es a) DL Rt
instance[CI T (io f)]:CI T (TX f):=Bt (A:=io f) λh=>L3.IO.s h
instance:CI T (TX (Hb i)):=#[_,λc h=>by rw[c!]at h;show#[_,#[DL (vv c h.2),h.1],aj2]]
instance[CI T (io f)]:CI T (Yh (nZ f)):=Bt (A:=io f) alI
instance[B:CA T (ao a)]:CI T (io (nQ kB a))where
 chk C p:=(N5 C "range" p.2).any λy=>y.2.1.isEmpty&&B.chk C [y.1]
 ok{C X E p}c h:=by let((e,l,w,v),q,b):=bH h;let(z,g,f):=mV q;simp only[c!,qk]at b;let(0,m):=b;let(o,n,_):=qR c g;let(t,j,i):=B.ok c m;let(r,A):=p;subst z;show#[_,#[aiS o n j (gu f),W],OY i]
def abn(U){I:Jd TI}[B:CA T U](k:∀{K E t},U K E t->I K E (vx K t)):CI T I where
 chk C p:=p9 p.1&&(N5 C "enumerate" p.2).any λy=>y.2.1.isEmpty&&B.chk C [y.1]
 ok{C X E p}c h:=by rw[c!]at h;let((e,l,w,v),q,a):=bH h.2;let(z,g,f):=mV q;simp only[c!,qk]at a;let(0,m):=a;let(r,o,_):=qR c g;let(t,j,i):=B.ok c m;let(b,A):=p;subst z;let n:p9 b=Ld:=h.1;let(_,_,_,0):=oj n;show#[_,#[Ck r o j (gu f),W],k i]
instance[CA T (ao a)]:CI T (io (qp a)):=abn (ao a) Q1
instance[v:CA T (ao a)]:CI T (io (wb a))where
 chk w p:=p9 p.1&&(Y_ w "enumerate" "start" 1 p.2).any λl=>v.chk w [l]
 ok{w X E p}c h:=by rw[c!]at h;let(l,q,j):=bH h.2;let((_,_,_,_,_,z),g,e):=LI q;let(o,n,_):=qR c g;let(t,i,f):=v.ok c j;let(b,r):=p;subst z;let m:p9 b=Ld:=h.1;let(_,_,_,0):=oj m;show#[_,#[akM o n i (Gd e),W],N4 f]
instance[C:CA T (ao a)]:CI T (io (ET a))where
 chk H p:=p9 p.1&&(N5 H "zip" p.2).any λy=>match y.2.1 with |[r]=>C.chk H [y.1,r]|_=>M
 ok{H X E p}c h:=by
  rw[c!]at h;let((e,l,B,A),q,f):=bH h.2;let(z,g,b):=mV q;let(w,v,_):=qR c g;let(i,j):=p;let z:j=_:=z;subst z;let o:p9 i=Ld:=h.1
  match l,b,f with|[r],b,f=>let(t,n,m):=C.ok c f;let(_,_,_,0):=oj o;show#[_,#[We w v n (gu b) (mF b),W],Xg m]
end CC
set_option warn.classDefReducibility false
namespace CC
open PySem L2 L3 L10
variable{T:a8 Fd}{A:Jd TE}{Q:Jd TT}{G:Jd TG}
instance:CQ T (pT bi):=#[λ_ l=>l.isEmpty,λ_ h=>by rw[qk.mp h];show#[_,BH,akf]]
instance:CQ T (rM nY):=#[λ_ l=>l.isEmpty,λ_ h=>by rw[qk.mp h];show#[_,BH,alb]]
def EL(Q)[z:CT T Q]:CQ T Q where
 chk Γ l:=match l with|[e]=>z.chk Γ e|_=>M
 ok c h:=by
  split at h
  .let(t,b,a):=z.ok c h;show#[_,alm b,a]
  .ext h
instance[CT T (pT q)]:CQ T (pT q):=EL _
instance[CT T (rM q)]:CQ T (rM q):=EL _
def t0{b:Type}(P:Jd (St->Hp->b->Prop))(K:lD)(E:XK):St->Hp->b->Prop:=λa H Q=>∀t,P K E t->t a H Q
def g0(P:Jd TG)(K:lD)(E:XK):TG:=λv a H Q=>∀t,P K E t->t v a H Q
class Cl{τ:Type}(P:Jd (St->Hp->τ->Prop)):Prop where cl:∀{K E},P K E (t0 P K E)
class E_(P:Jd TG):Prop where cl:∀{K E},P K E (g0 P K E)
instance:Cl (eo g):=#[λB b O a H e Q R w _ h=>h B b O a H e Q R w]
instance:Cl (es g):=#[λB a H α b e Q s l w _ h=>h B a H α b e Q s l w]
instance:Cl (pT g):=#[λB b O a H e Q R w _ h=>h B b O a H e Q R w]
instance:Cl (rM g):=#[λB a H α b e Q s l w _ h=>h B a H α b e Q s l w]
instance:E_ (go g):=#[λB b O a H e v pv Q R p w _ h=>h B b O a H e v pv Q R p w]
instance:E_ (Jm g):=#[λB a H α b e v x Q s l p w _ h=>h B a H α b e v x Q s l p w]
def Ds(e:c_):I Str:=((vN e).map (·.1)).toList++((Ou e).getD []).filterMap λe=>(vN e).map (·.1)
def VZ(l:I (Str×hO)):I Str:=(l.filter λy=>y.2==hO.cell&&l.all λp=>!(p.1==y.1)||!(p.2==hO.free)).map (·.1)
def Y!(a:Gm)(l:I (Str×hO)):I (Str×hO):=l.map λp=>if(p.2==hO.free&&(ScopeKind.function==ScopeKind.function)&&a.sc.lookup p.1==cL .cell)then(p.1,.cell)else p
def Gm.inn(b:Gm)(own:I Str)(a:I (Str×Nat))(sc:I (Str×hO)):Gm:={b with N:=own++a.map (·.1),sc:=Y! b sc,rz:=fg,fa:=fg,fc:=VZ sc}
def Zn(b:Gm)(a:I Nat):I (Str×Nat):=a.filterMap λj=>(b.N[j]?).map λx=>(x,j)
def Z!(b:Gm)(sc:nS)(a:I (Str×Nat)):Bool:=a.all λp=>b.N[p.2]?==cL p.1&&sc.names.lookup p.1==cL .free&&(b.sc.lookup p.1==cL .cell||b.sc.lookup p.1==cL .free)
theorem SZ(c:Ct T o X E):∀{a:I _},Z! o sc a=u->s_ X sc a|[],_=>trivial|p::r,h=>by unfold Z! at h;simp only[xv,c!,w!]at h;let(((g,f),e),b):=h;show#[#[by rw[c.n];show beq_iff_eq.mp g,gP f,?_],SZ c b];rw[c.sc];show e.imp gP gP
theorem Gn:∀{l:I (Str×hO)}{acc:I _},(∀p∈l,p.1=y->(p.2==hO.free)=M)->acc.lookup y=CL->(jH env l acc).lookup y=CL
 |[],_,_,h=>h|(n,k)::r,acc,h,f=>by
  let a:=λacc=>Gn (env:=env) (acc:=acc) λp b=>h p (h_ _ b);ext jH;split
  .rename_i q
   split
   .show a _ (by rw[o2,show(y==n)=M from beq_eq_false_iff_ne.mpr (cx (λe=>by rw[h _ eQ e]at q;simp_all))];show f)
   .show a _ f
  .show a _ f
def alo(h:y∈VZ l):((jH env l []).lookup y).isNone=u:=by
 let(p,f,0):=gi.mp h;let(_,a):=n7.mp f;rw[c!]at a;rw[Gn (λq b e=>?_) W]
 .rfl
 .let:=j?.mp a.2 q b;simp_all
structure alM(T)(Γ')(X)(E)(n)(fj)(I:Jd TI)(G)(Q:Jd TT)(A:Jd TE)(sc)(elt)(cp:G!)where
 own:a8 Str
 fv:a8 (Str×Nat)wi:TI
 e:cp.is_async=0
 ln:own.length=n
 fj:fv.map (·.2)=fj
 pi:PI X cp.target cp.iter wi
 i:I X.K E wi
 pg:∀s H C fp,PG (dg X s H sc C (fX own fv) fp) cp.target (g0 G X.K E0)g:G X.K E0 (g0 G X.K E0)pq:∀s H C fp,D1 (dg X s H sc C (fX own fv) fp) cp.ifs (t0 Q X.K E0)q:Q X.K E0 (t0 Q X.K E0)pe:∀s H C fp,PE (dg X s H sc C (fX own fv) fp) elt (t0 A X.K E0)a:A X.K E0 (t0 A X.K E0)fvk:s_ X sc fv
 fr:(sc.names.all λy=>!(y.2==hO.free)||X.env.scope.names.lookup y.1==cL .cell||X.env.scope.names.lookup y.1==cL .free)=u
 kd:sc.kind=.function
 nd:(sc.names.map (·.1)).Nodup
 nm:∀y∈sc.names,y.2=.local->sc.names.lookup y.1=cL .local
 fold:∀z,foldedSetIterable cp.iter X.env z=pure z
 ct:∀s H C fp W E',Ct T Γ' ((dg X s H sc C (fX own fv) fp).afd W) E'
def OQ(n:Nat)(f:a8 Nat)(i:CI T a)(g:CG T G)(w:CQ T Q)(x:CE T A)(c:Gm)(elt:c_)(d:G!)(sc:nS):Bool:=let own:=Ds d.target
 let e:=Zn c f
 let b:=c.inn own e sc.names
 decide (own.length=n)&&decide (e.map (·.2)=f)&&decide (d.is_async=0)&&Z! c sc e&&(sc.names.all λy=>!(y.2==hO.free)||c.sc.lookup y.1==cL .cell||c.sc.lookup y.1==cL .free)&&decide (sc.kind=.function)&&decide ((sc.names.map (·.1)).Nodup)&&(sc.names.all λy=>!(y.2==hO.local)||sc.names.lookup y.1==cL .local)&&decide ((own++e.map (·.1)).Nodup)&&i.chk c (d.target,d.iter)&&g.chk b d.target&&w.chk b d.ifs&&x.chk b elt
def Gb[Cl A][Cl Q][E_ G]{i:CI T Z}{g:CG T G}{w:CQ T Q}{x:CE T A}{n:Nat}{o:a8 Nat}{d:Gm}{X:Cx}{E:XK}{l:c_}{k:G!}{sc:nS}(c:Ct T d X E)(h:OQ n o i g w x d l k sc=Ld):Nonempty (alM T (d.inn (Ds k.target) (Zn d o) sc.names) X E n o Z G Q A sc l k):=by
 unfold OQ at h;simp only[c!,decide_eq_true_eq]at h;let((((((((((((Y,U),S),k1),k2),k3),k4),k5),k6),R),P),O),N):=h;let(F,(M,J),L):=i.ok c R;let ct:∀s H C a W B,Ct T (d.inn _ _ _) ((dg X s H sc C _ a).afd W) B:=λs H C a W B=>#[rfl,k6,by show(relabel sc _).names=Y! d _;unfold relabel Y! Env.kindOf;rw[c.kd,c.sc],k3,c.cm,c.rm,λz=>(Br z),λz=>(Br z),λy m=>alo m,c.md,c.fs]
 let p:∀s H C a,Ct T _ (dg X s H sc C (fX _ _) a) E0:=λs H C a=>ct s H C a _ E0;show#[#[_,_,F,S,Y,U,M,L,λs H C a=>?_,E_.cl,λs H C a=>?_,Cl.cl,λs H C a=>?_,Cl.cl,SZ c k1,?_,k3,k4,λy m e=>?_,Fu J,ct]]
 .let(t,(j,_),f):=g.ok (p s H C a) P;show λb s q H v u Q Z r z=>j _ _ _ _ _ _ _ Z r (z _ f)
 .let(t,j,f):=w.ok (p s H C a) O;show λb s q H Q Z z=>j _ _ _ _ _ Z (z _ f)
 .let(t,j,f):=x.ok (p s H C a) N;show λb s q H Q Z z=>j _ _ _ _ _ Z (z _ f)
 .rw[c.sc];show k2
 .let:=j?.mp k5 y m;rw[e]at this;show gP this
def UE(e:c_):bb (c_×G!×nS×Pos):=(Df e).bind λy=>match y.2.1 with |[a]=>cL (y.1,a,y.2.2)|_=>CL
def E4(h:UE e=cL y):e=.ListComp y.1 [y.2.1] y.2.2.1 y.2.2.2:=by
 let((a,l,s,p),q,b):=q3.mp h;simp only[Xk q]
 match l,b with|[f],b=>injections;subst_vars;rfl
def Wi(I)(G)(Q:Jd TT)(A:Jd TE)[Cl A][Cl Q][E_ G][i:CI T I][g:CG T G][w:CQ T Q][x:CE T A](n)(z)(k:∀{K E own v a g s d},own.length=n->v.map (·.2)=z->I K E a->G K E0 g->Q K E0 s->A K E0 d->J K E (vA own v a g s d)):CE T J where
 chk Γ e:=(UE e).any λy=>OQ n z i g w x Γ y.1 y.2.1 y.2.2.1
 ok c h:=by let((m,o,t,p),q,j):=bH h;rw[E4 q];let⟨l⟩:=Gb c j;let(r,b,f,as):=o;obtain rfl:as=0:=l.e;show#[_,FR _ _ c.cm l.pi l.pg l.pq l.pe l.fvk l.fr l.kd l.nd l.nm l.fold,k l.ln l.fj l.i l.g l.q l.a]
instance[CI T (TX f)][CG T (go g)][CQ T (pT q)][CE T (eo a)]:CE T (eo (bE n l f g q a)):=Wi (TX f) (go g) (pT q) (eo a) n l wv
instance[CI T (Yh f)][CG T (Jm g)][CQ T (rM q)][CE T (es a)]:CE T (es (jO n l f g q a)):=Wi (Yh f) (Jm g) (rM q) (es a) n l MN
def HD(a:gW):Jd TI:=λK E t=>∃b,eD K E b a/\t=vx K (jM b lW)
instance[x:CE T (es a)]:CI T (HD a)where
 chk C p:=p9 p.1&&(N5 C "enumerate" p.2).any λy=>y.2.1.isEmpty&&x.chk C y.1
 ok{C X E p}c h:=by rw[c!]at h;let((e,l,w,v),q,f):=bH h.2;let(z,g,b):=mV q;simp only[c!,qk]at f;let(0,n):=f;let(u,r,_):=qR c g;let(t,m,j):=x.ok c n;let(i,B):=p;subst z;let o:p9 i=Ld:=h.1;let(_,_,_,0):=oj o;show#[_,#[Ck u r (jh m ma (gu b)) (gu b),W],_,j,W]
instance[CE T (es f)][CG T (Jm g)][CQ T (rM q)][CE T (es a)]:CE T (es (u8 n l f g q a)):=Wi (HD f) (Jm g) (rM q) (es a) n l λm j i h e b=>by let(o,k,0):=i;show acx m j k h e b
end CC
set_option warn.classDefReducibility false
namespace CC
open PySem L2 L3 L10
variable{T:a8 Fd}
def Lb:kl->bb (c_×I kl×I kl) |.If c a b _=>G (c,a,b)|_=>CL
def Lf:kl->bb (bb c_)|.Return e _=>G e|_=>CL
def TY:kl->bb c_|.Expr e _=>G e|_=>CL
def xg:kl->bb (c_×c_) |.Assign [t] e _=>G (t,e)|_=>CL
def S3:kl->bb (c_×c_×I kl) |.For t i b [] _=>G (t,i,b)|_=>CL
def Zf:kl->bb (c_×I kl) |.While c b [] _=>G (c,b)|_=>CL
def Zi:kl->bb c_ |.Raise (G e) CL _=>G e|_=>CL
section
def Qq(h:Lb s=G x):∃p,s=.If x.1 x.2.1 x.2.2 p:=xp (P:=λx=>∃p,s=.If x.1 x.2.1 x.2.2 p) (by ext s<;>first|show trivial|show#[_,W]) h
def Bf(h:Lf s=G x):∃p,s=.Return x p:=xp (P:=λx=>∃p,s=.Return x p) (by ext s<;>first|show trivial|show#[_,W]) h
def Ob(h:TY s=G x):∃p,s=.Expr x p:=xp (P:=λx=>∃p,s=.Expr x p) (by ext s<;>first|show trivial|show#[_,W]) h
def mw(h:xg s=G x):∃p,s=.Assign [x.1] x.2 p:=xp (P:=λx=>∃p,s=.Assign [x.1] x.2 p) (by ext s<;>first|show trivial|(rename_i l _ _;rcases l with _|⟨t,_|⟨_,_⟩⟩<;>first|show trivial|show#[_,W])) h
def akc(h:S3 s=G x):∃p,s=.For x.1 x.2.1 x.2.2 [] p:=xp (P:=λx=>∃p,s=.For x.1 x.2.1 x.2.2 [] p) (by ext s<;>first|show trivial|(rename_i l _;ext l<;>first|show trivial|show#[_,W])) h
def SM(h:Zf s=G x):∃p,s=.While x.1 x.2 [] p:=xp (P:=λx=>∃p,s=.While x.1 x.2 [] p) (by ext s<;>first|show trivial|(rename_i l _;ext l<;>first|show trivial|show#[_,W])) h
def Sg(h:Zi s=G x):∃p,s=.Raise (G x) CL p:=xp (P:=λx=>∃p,s=.Raise (G x) CL p) (by ext s<;>first|show trivial|(rename_i a b _;ext a<;>ext b<;>first|show trivial|show#[_,W])) h
end
def Ea(S)[o:CU T S]:CS T S where
 chk Γ b:=match b with|[s]=>o.chk Γ s|_=>M
 ok c h:=by
  split at h
  .let(t,e,a):=o.ok c h;show#[_,uW e,a]
  .ext h
instance[CU T (so f)]:CS T (so f):=Ea _
instance[CU T (d! f)]:CS T (d! f):=Ea _
instance:CS T (so aX):=#[λ_ b=>b.isEmpty,λ_ h=>by rw[qk.mp h];show#[_,GR,OP]]
instance:CS T (d! bJ):=#[λ_ b=>b.isEmpty,λ_ h=>by rw[qk.mp h];show#[_,GR,alO]]
def Ud(j d)[o:CU T j][n:CS T d](k:∀{K E t u},j K E t->d K E u->S K E (JT t u)):CS T S where
 chk Γ b:=match b with |s::r=>o.chk Γ s&&n.chk Γ r|_=>M
 ok c h:=by
  split at h
  .rw[c!]at h;let(t,g,f):=o.ok c h.1;let(i,e,a):=n.ok c h.2;show#[_,we g e,k f a]
  .ext h
instance[CU T (so f)][CS T (so g)]:CS T (so (aF f g)):=Ud (so f) (so g) W9
instance[CU T (d! f)][CS T (d! g)]:CS T (d! (aH f g)):=Ud (d! f) (d! g) Pj
def Uv(Q)(p d)[z:CT T Q][m:CS T p][n:CS T d](k:∀{K E c t u},Q K E c->p K E t->d K E u->S K E (QS c t u)):CU T S where
 chk Γ s:=(Lb s).any λy=>z.chk Γ y.1&&m.chk Γ y.2.1&&n.chk Γ y.2.2
 ok c h:=by let(y,q,a):=bH h;let(_,0):=Qq q;simp only[c!]at a;let(t,j,i):=z.ok c a.1.1;let(o,g,f):=m.ok c a.1.2;let(l,e,b):=n.ok c a.2;show#[_,aar j g e,k i f b]
instance[CT T (pT q)][CS T (so f)][CS T (so g)]:CU T (so (eJ q f g)):=Uv (pT q) (so f) (so g) ZS
instance[CT T (rM q)][CS T (d! f)][CS T (d! g)]:CU T (d! (bP q f g)):=Uv (rM q) (d! f) (d! g) XR
def Tg(A)[x:CE T A](k:∀{K E t},A K E t->S K E (RO t)):CU T S where
 chk Γ s:=(Lf s).any λy=>y.any (x.chk Γ)
 ok c h:=by let(y,q,i):=bH h;let(e,a,g):=bH i;let(_,0):=Bf q;subst a;let(t,f,b):=x.ok c g;show#[_,D5 f,k b]
instance[CE T (eo a)]:CU T (so (aY a)):=Tg (eo a) XN
instance[CE T (es a)]:CU T (d! (c8 a)):=Tg (es a) QV
instance:CU T (d! vQ)where
 chk _ s:=(Lf s).any (·.isNone)
 ok c h:=by let(y,q,a):=bH h;let(_,0):=Bf q;rw[DD.mp a];show#[_,P1,M3]
def Mr(A)[x:CE T A](k:∀{K E t},A K E t->S K E (Bu t)):CU T S where
 chk Γ s:=(TY s).any λe=>(nO e&&!VV e)&&x.chk Γ e
 ok c h:=by let(y,q,a):=bH h;let(_,0):=Ob q;let a:=(c! _ _).mp a;let(t,f,b):=x.ok c a.2;show#[_,G5 f (F5 a.1),k b]
instance[CE T (eo a)]:CU T (so (iy a)):=Mr (eo a) Pm
instance[CE T (es a)]:CU T (d! (cJ a)):=Mr (es a) Od
instance:CU T (so gp):=#[λ_ _=>u,λ_ _=>#[_,Co,Nj]]
instance:CU T (d! Lh):=#[λ_ _=>u,λ_ _=>#[_,Co,ahY]]
def Td(i)(A)[x:CE T A](k:∀{K E t},A K E t->S K E (Ai t (rS i))):CU T S where
 chk Γ s:=(xg s).any λy=>(nO y.2&&!VV y.2)&&(QQ i Γ y.1&&x.chk Γ y.2)
 ok c h:=by let((j,e),q,a):=bH h;let(_,0):=mw q;let a:=(c! _ _).mp a;let b:=(c! _ _).mp a.2;let(t,g,f):=x.ok c b.2;let(y,p,z,k1,k2,k3):=zV c b.1;subst z;show#[_,EU c.nd k1 k2 g (F5 a.1) k3,k f]
instance[CE T (eo a)]:CU T (so (bF a (gN i))):=Td i (eo a) λh=>Af h zG
instance[CE T (es a)]:CU T (d! (cB a (d4 i))):=Td i (es a) λh=>Ar h vj
def Y0(A)(G)[x:CE T A][y:CG T G](k:∀{K E t g},A K E t->G K E g->S K E (Ai t g)):CU T S where
 chk Γ s:=(xg s).any λz=>Tu z.2&&p9 z.1&&y.chk Γ z.1&&x.chk Γ z.2
 ok c h:=by let((m,e),q,a):=bH h;let(_,0):=mw q;simp only[c!]at a;let(((b,j),i),f):=a;let(t,l,a):=x.ok c f;let(n,(k1,k3),k2):=y.ok c i;let(_,_,_,0):=oj j;show#[_,L8 l k1 (QD b) (aic b) (by rfl),k a k2]
instance[CE T (eo a)][CH T (gs r)]:CU T (so (bF a (gT n r))):=Y0 (eo a) (go _) Af
instance[CE T (es a)][CH T (XS r)]:CU T (d! (cB a (IP n r))):=Y0 (es a) (Jm _) Ar
instance[x:CE T (eo a)][y:CE T (eo b)]:CU T (so (bF a (Wy i b)))where
 chk Γ s:=(xg s).any λz=>(Az z.1).any λw=>Tu z.2&&nO w.2.1&&Ox i Γ w.1&&y.chk Γ w.2.1&&x.chk Γ z.2
 ok c h:=by let((j,e),q,r):=bH h;let(_,0):=mw q;let(w,l,g):=bH r;let z:j=_:=lJ l;subst z;simp only[c!]at g;let((((f,p),o),n),m):=g;let(t,k1,k2):=x.ok c m;let(u,k3,k4):=y.ok c n;show#[_,L8 k1 (UA (vv c o) k3 alg (abt p)) (akW f) (acu f) W,Af k2 (aas k4)]
def V5(h:env.kindOf x=G .cell):ro (.ListComp elt [o] sc pos) (G (.Name x p)) n env=pure M:=by show(pure _)=_;rw[h];congr 1;show(((_&&M)&&_)&&_)=M;rw[O3];rfl
def Tq(I:Jd TI)(G:Jd TG)(Q:Jd TT)(A:Jd TE)[Cl A][Cl Q][E_ G][ii:CI T I][g:CG T G][w:CQ T Q][x:CE T A](n:Nat)(r:a8 Nat)(i:Nat)(k:∀{K E own o b g j d},own.length=n->o.map (·.2)=r->I K E b->G K E0 g->Q K E0 j->A K E0 d->S K E (Ai (vA own o b g j d) (rS i))):CU T S where
 chk Γ s:=(xg s).any λz=>(vN z.1).any λv=>(UE z.2).any λy=>QQ i Γ z.1&&(Γ.sc.lookup v.1==cL .cell||(Γ.sc.lookup v.1==cL .local&&v.2.line==y.2.2.2.line&&!(y.2.2.1.names.any λy=>y.1==v.1&&(y.2==.local||y.2==.cell))))&&OQ n r ii g w x Γ y.1 y.2.1 y.2.2.1
 ok c h:=by
  let((f,e),q,R):=bH h;let(_,0):=mw q;let((v,X),H,P):=bH R;let((elt,U,sc,p),C,m):=bH P;let B:f=_:=vB H;let t:e=_:=E4 C;subst B t;simp only[c!,z6,w!]at m;let((L,a),N):=m;let(_,_,z,k1,k2,k3):=zV c L;ext z;let⟨l⟩:=Gb c N;let(f,iter,ifs,as):=U;obtain rfl:as=0:=l.e;show#[_,?_,k l.ln l.fj l.i l.g l.q l.a];rcases a with a|⟨⟨a,J⟩,O⟩
  .let a:=gP a;rw[<-c.sc]at a;show EU c.nd k1 k2 (FR l.own l.fv c.cm l.pi l.pg l.pq l.pe l.fvk l.fr l.kd l.nd l.nm l.fold) (V5 a) k3
  .let a:=gP a;rw[<-c.sc]at a;show OZ l.own l.fv c.nd k1 a c.cm l.pi l.pg l.pq l.pe l.fvk l.fr (aab c.kd a J O) l.kd l.nd l.nm l.fold
instance[CI T (TX f)][CG T (go g)][CQ T (pT q)][CE T (eo a)]:CU T (so (bF (bE n l f g q a) (gN i))):=Tq (TX f) (go g) (pT q) (eo a) n l i λo m j h e b=>Af (wv o m j h e b) zG
instance[CI T (TX f)][CG T (go g)][CQ T (pT q)][CE T (eo a)]:CU T (d! (cB (wM (af (bE n l f g q a))) (d4 i))):=Tq (TX f) (go g) (pT q) (eo a) n l i λo m j h e b=>Ar (Hf (wH (wv o m j h e b))) vj
instance{C f:Str}[x:CE T (es o)][y:CE T (es a)]:CU T (d! (dW C f o a))where
 chk Γ s:=(xg s).any λz=>(L1 z.1).any λw=>w.2.1==f&&Xr Γ C f&&nO z.2&&x.chk Γ w.1&&y.chk Γ z.2
 ok c h:=by let((i,e),q,B):=bH h;let(_,0):=mw q;let((b,n,p),j,g):=bH B;let z:i=_:=D4 j;subst z;simp only[c!,beq_iff_eq]at g;let((((0,A),v),u),r):=g;let(L,m,l):=G0 c A;let(t,k1,k2):=x.ok c u;let(E,k3,k4):=y.ok c r;show#[_,Xy k1 k3 (ZW v),SF m l k2 k4]
instance[x:CE T (es d)][y:CE T (es k)][z:CE T (es v)]:CU T (d! (yP d k v))where
 chk Γ s:=(xg s).any λr=>(Az r.1).any λw=>nO r.2&&x.chk Γ w.1&&y.chk Γ w.2.1&&z.chk Γ r.2
 ok c h:=by let((b,e),q,m):=bH h;let(_,0):=mw q;let(w,f,a):=bH m;let z:b=_:=lJ f;subst z;simp only[c!]at a;let(((l,j),i),g):=a;let(t,k1,k2):=x.ok c j;let(o,k3,k4):=y.ok c i;let(n,k5,k6):=CK.ok c g;show#[_,PR (L' c) k1 k3 k5 (Zd l),alz k2 k4 k6]
def TZ(I)(G)(l)[v:CI T I][y:CG T G][m:CS T l](k:∀{K E d g t},I K E d->G K E g->l K E t->S K E (RD d g t)):CU T S where
 chk Γ s:=Γ.fa&&(S3 s).any λz=>v.chk Γ (z.1,z.2.1)&&y.chk Γ z.1&&m.chk Γ z.2.2
 ok c h:=by rw[c!]at h;let(z,q,a):=bH h.2;let(_,0):=akc q;simp only[c!]at a;let(t,(f,b),e):=v.ok c a.1.1;let(j,(k1,_),k2):=y.ok c a.1.2;let(i,k3,k4):=m.ok c a.2;show#[_,UP (c.po h.1) c.cm f k1 k3 (Fu b),k e k2 k4]
instance[CI T (io f)][CG T (go g)][CS T (so b)]:CU T (so (jU f g b)):=TZ (io f) (go g) (so b) VG
instance[CI T (Yh f)][CG T (Jm g)][CS T (d! b)]:CU T (d! (vK f g b)):=TZ (Yh f) (Jm g) (d! b) QN
instance[z:CT T (pT q)][m:CS T (so b)]:CU T (so (Dc q b))where
 chk Γ s:=Γ.fa&&(Zf s).any λy=>z.chk Γ y.1&&m.chk Γ y.2
 ok c h:=by rw[c!]at h;let(y,q,a):=bH h.2;let(_,0):=SM q;rw[c!]at a;let(t,f,e):=z.ok c a.1;let(g,k1,k2):=m.ok c a.2;show#[_,alB (c.po h.1) f k1,ME e k2]
instance[O:CA T (ao a)]:CU T (so (L4.tG k a))where
 chk Γ s:=Γ.rz&&Γ.M.ex.contains k&&(Zi s).any λe=>(ZP {Γ with top:=1} 0 0 k e).any λy=>O.chk Γ (y.1::y.2.1)
 ok c h:=by simp only[c!]at h;let((B,z),w):=h;let(e,q,v):=bH w;let(_,0):=Sg q;let(y,o,r):=bH v;let(0,g,_,_,l):=Ax o;let(n,E,_):=tO c g;let(C,H,G,F):=c.md.ex _ (U'.mp z);let(t,m,p):=O.ok c r;let(N,j,b,f,J,A,i,I,L,e):=c.px B;show#[_,?_,L4.MH H p];rw[e]at n m⊢;show L4.alj F Kb (by left) Kb n G m E (gu l) (mF l)
def gm(M:Md)(N:I Str)(st:kl)(lv top:Nat)(a:Bool):Gm:=#[M,N,(aK st).names,lv,a,u,VZ (aK st).names,top]
def Y'(N a:I Str)(sc:nS):Bool:=decide (sc.kind=.function)&&!sc.isCoroutine&&!sc.isGenerator&&decide N.Nodup&&decide (N.take a.length=a)&&a.all (λx=>sc.names.lookup x==G .local||sc.names.lookup x==G .cell)&&sc.names.all (λy=>!(y.2==.free))
def zb(h:Y' N o sc=u):qz N o sc:=by
 unfold Y' at h;simp only[c!,decide_eq_true_eq,z6]at h;let((((((n,m),l),j),i),g),f):=h;show#[n,m,l,j,i,λx b=>?_,λy a e=>?_]
 .let:=j?.mp g x b;rw[w!]at this;show this.imp gP gP
 .let:=j?.mp f y a;simp_all
section
variable{top:Nat}
def chD(T)(S)[c:CS T S](M:Md)(N b:I Str)(st:kl)(k top:Nat)(a:Bool):Bool:=Y' N b (aK st)&&c.chk (gm M N st k top a) (eX st)
def HH(a:u4 K C e)(fs:∀i fd,i<top->T[i]?=G fd->fd P w K C base)(S:qz N J (aK st))(b:ik k (A.deeper (z_ qual (aK st) s.heap.objs.size f o))):Ct T (gm e N st k top fg) (jz rj P w K C base N qual (aK st) f o A outer s H E).nox E:=#[W,S.nd,W,S.kind,W,b,λ_=>G_.never,Br,λ_ _=>W,a,fs]
def HG(a:u4 K C e)(fs:∀i fd,i<top->T[i]?=G fd->fd P w K C base)(S:qz N J (aK st))(b:ik k (A.deeper (z_ qual (aK st) s.heap.objs.size f o))):Ct T (gm e N st k top u) (jz (L4.pZ P w) P w K C base N qual (aK st) f o A outer s H E) E:=#[W,S.nd,W,S.kind,W,b,λ_=>G_.leaving,λ_=>#[_,_,_,_,_,_,_,_,_,W],λ_ _=>W,a,fs]
def g?{b:FN}[c:CS T (so g)](e:u4 K J o)(fs:∀i fd,i<top->T[i]?=G fd->fd P w K J base)(F:l! K x qual st f fd)(h:chD T (so g) o N C st k top fg=u)(d:C.length=n:=by rfl)(l:b=bL N.length g:=by rfl):ek P w K J base rj (k+1) f fd C (yC K n b):=by let h:=(c! _ _).mp h;let S:=zb h.1;show okF F S d W l λm A a s H E j=>c.ok (HH e fs S j) h.2
def HZ{b:FN}[c:CS T (so g)](e:u4 K J o)(fs:∀i fd,i<top->T[i]?=G fd->fd P w K J base)(F:l! K x qual st f fd)(h:chD T (so g) o N C st k top u=u)(d:C.length=n:=by rfl)(l:b=bL N.length g:=by rfl):ek P w K J base (L4.pZ P w) (k+1) f fd C (yC K n b):=by let h:=(c! _ _).mp h;let S:=zb h.1;show L4.okE F S d W l λm A a s H E j=>c.ok (HG e fs S j) h.2
def ll{b:jG}[c:CS T (d! g)](e:u4 K J o)(fs:∀i fd,i<top->T[i]?=G fd->fd P w K J base)(F:l! K x qual st f fd)(h:chD T (d! g) o N C st k top fg=u)(d:C.length=n:=by rfl)(l:b=c7 N.length g:=by rfl):ek P w K J base rj (k+1) f fd C (lM K n b):=by let h:=(c! _ _).mp h;let S:=zb h.1;show okS F S d W l λm A a s H E j=>c.ok (HH e fs S j) h.2
def AF{b:jG}[c:CS T (d! g)](e:u4 K J o)(fs:∀i fd,i<top->T[i]?=G fd->fd P w K J base)(F:l! K x qual st f fd)(h:chD T (d! g) o N C st k top u=u)(d:C.length=n:=by rfl)(l:b=c7 N.length g:=by rfl):ek P w K J base (L4.pZ P w) (k+1) f fd C (lM K n b):=by let h:=(c! _ _).mp h;let S:=zb h.1;show abp F S d W l λm A a s H E j=>c.ok (HG e fs S j) h.2
end
section
variable{T:a8 Fd}
def fs0:∀i fd,i<0->T[i]?=G fd->fd P w K mg base:=λ_ _ h=>a7 h (Bs _)
def ej(h:∀i fd,i<n->T[i]?=G fd->fd P w K o base)(e:T[n]?=G x)(a:x P w K o base):∀i fd,i<n+1->T[i]?=G fd->fd P w K o base:=λi fd b q=>by
 rcases Nat.lt_succ_iff_lt_or_eq.mp b with z|rfl
 .show h i fd z q
 simp_all
def look{α:Type}{R:Str->α->Prop}{e:α}{l:I _}(h:R y e)(r:∀x d,l.lookup x=G d->R x d):∀x d,((y,e)::l).lookup x=G d->R x d:=λx d q=>by
 simp only[o2]at q;split at q
 .simp_all
 .show r x d q
abbrev U2(K:lD)(a:Str->bb a_):Str->D->Prop:=λx d=>∃v u,a x=G u/\b? v u/\∀O H,DV O K H v d
def csN:∀x d,([]).lookup x=G d->U2 K o x d:=λ_ _ h=>nomatch h
def o3(h:U2 K o y e)(r:∀x d,l.lookup x=G d->U2 K o x d):∀x d,((y,e)::l).lookup x=G d->U2 K o x d:=look h r
def z!(h:o x=G (.int i t)):U2 K o x (.int i):=#[.int i,_,h,#[_,W],λ_ _=>.int i]
def F_(h:o x=G (.str y t)):U2 K o x (.str y):=#[.str y,_,h,#[_,W],λ_ _=>.str y]
def E?(h:o x=G (.ref a))(k:∀O H,DV O K H (.ref a) d):U2 K o x d:=#[.ref a,_,h,W,k]
def clN:∀C L,([]).lookup C=G L->pV K C L:=λ_ _ h=>nomatch h
def L?(h:pV K y e)(r:∀x d,l.lookup x=G d->pV K x d):∀x d,((y,e)::l).lookup x=G d->pV K x d:=look h r
abbrev W_(K:lD)(a:Str->bb a_)(x:Str):Prop:=∃C,iN K gE x=G (G (.ref C))/\a x=G (.ref C)/\x_ K C Y5 "ValueError.__new__"=u
def exN:∀x∈([]),W_ K o x:=λ_ h=>nomatch h
def exC(h:W_ K o y)(r:∀x∈l,W_ K o x):∀x∈y::l,W_ K o x:=JL.mpr #[h,r]
end
end CC
set_option warn.classDefReducibility false
set_option warn.classDefReducibility false
namespace CC
open PySem L2 L3 L10
variable{T:a8 Fd}{A B C J:Jd TE}{U Z:Jd TA}{Q R:Jd TT}
end CC
set_option warn.classDefReducibility false
namespace CC
open PySem L2 L3 L10
variable{T:a8 Fd}{A B C J:Jd TE}{U Z:Jd TA}{Q R:Jd TT}
class IOp(f:D->D->bb RV)where
 op:VE
 ok:∀{X:Cx},∃ti,PIp X op ti/\mo X.K ti f
def vD:D->V|.int i=>.int i|_=>.non
class av5(l:I D):Prop where h:∀K O H,DVs O K H (l.map vD) l
abbrev abG(lv:Nat)(C:Str)(b:I Str)(n:Nat)(F:jG):Fd:=λP w K a base=>ym P w K a base (L4.pZ P w) lv C b (lM K n F)
class FKE(T:I Fd)(C:Str)(F:jG)(n:Nat)where
 i:Nat
 lv:Nat
 ps:I Str
 h:T[i]?=G (abG lv C ps n F)
abbrev fdX(lv:Nat)(x f:Str):Fd:=λP w K b base=>∃(C B fI:aT)(e:Obj)(a:t5)(g:I Str),L9.XC K C B fI/\K.lookup fI=G e/\A' K (.ref fI)=u/\ek P w K b base rj lv fI a g (L9.Rm C f)/\hI K a g []/\iN K gE x=G (G (.ref C))/\b x=G (.ref C)
class aag(T:I Fd)(x f:Str)where
 i:Nat
 lv:Nat
 h:T[i]?=G (fdX lv x f)
end CC
set_option warn.classDefReducibility false
namespace CC
open PySem L2 L3 L10
variable{T:a8 Fd}{A B C J:Jd TE}{U Z:Jd TA}{Q R:Jd TT}
abbrev abm(lv:Nat)(x f g:Str):Fd:=λP w K b base=>∃(C B fI:aT)(e:Obj)(a:t5)(h:I Str),L9.XC K C B fI/\K.lookup fI=G e/\A' K (.ref fI)=u/\ek P w K b base rj lv fI a h (L9.OC C f g)/\hI K a h []/\iN K gE x=G (G (.ref C))/\b x=G (.ref C)
class FX2(T:I Fd)(x f g:Str)where
 i:Nat
 lv:Nat
 h:T[i]?=G (abm lv x f g)
end CC
set_option warn.classDefReducibility false
namespace CC
open PySem L2 L3 L10
variable{T:a8 Fd}{A B C J:Jd TE}{U Z:Jd TA}{Q R:Jd TT}
end CC
set_option warn.classDefReducibility false
namespace CC
open PySem L2 L3 L10
variable{T:a8 Fd}
end CC
set_option warn.classDefReducibility false
namespace CC
open PySem L2 L3 L10
variable{T:a8 Fd}{A B:Jd TE}
end CC
set_option warn.classDefReducibility false
namespace CC
open PySem L2 L3 L10
variable{T:a8 Fd}
end CC
set_option warn.classDefReducibility false
namespace CC
open PySem L2 L3 L10
variable{T:a8 Fd}
end CC
namespace M02
inductive Con(E:I _)(r0):Bool->Nat->Prop|base:Con E r0 u r0|col:Con E r0 u r->(r,c)∈E->Con E r0 M c|row{c:Nat}:Con E r0 M c->(r,c)∈E->Con E r0 u r
def Con.trans(h:Con E a u b)(g:Con E b k x):Con E a k x:=by induction g with |base=>show h|col _ e f=>show .col f e|row _ e f=>show .row f e
def Con.back(g:Con E a k x):(k=u->Con E x u a)/\(k=M->∀b,Con E b M x->Con E b u a):=by induction g with |base=>show#[λ_=>.base,λh=>by simp_all]|@col r c _ e i=>show#[λh=>(),λ_ b f=>?_];show(Con.row f e).trans (i.1 W)|@row r c _ e i=>show#[λ_=>?_,λh=>by simp_all];show i.2 W r (.col .base e)
def Con.share(f:Con E a M c)(e:Con E b M c)(h:Con E b M x):Con E a M x:=(e.back.2 W a f).trans h
def has(n c:Nat):Prop:=n.testBit c=u
def qO:has (n|||m) c↔has n c\/has m c:=by ext has;simp_all
def AD:has (n&&&m) c↔has n c/\has m c:=by ext has;simp_all
def Vk(h:n≠0):∃c,has n c:=by apply Classical.byContradiction;intro g;apply h;apply JB;intro i;cases e:n.testBit i with|false=>simp|true=>show a7 #[i,e] g
def iz:¬has 0 c:=by ext has;simp
def uD(h:∀c,has n c↔has m c):n=m:=by apply JB;intro i;let:=h i;unfold has at this;simp_all
def jn(n:Nat):I Nat->Nat|[]=>n|o::r=>jn (if o&&&n≠0 then n|||o else n) r
theorem TF(n:Nat):∀ns:I Nat,∀c,has n c->has (jn n ns) c
 |[],c,h=>h|o::r,c,h=>by
  ext jn;show TF _ r c ?_;split
  .show qO.mpr (.inl h)
  .show h
def Dv(n):∀ns,n<=jn n ns:=by
 intro ns
 induction ns generalizing n with |nil=>show dc _|cons o r a=>
  ext jn;split
  .show la Ip (a _)
  .show a n
def Ur:∀{ns:I Nat},n<2^k->(∀o∈ns,o<2^k)->jn n ns<2^k:=by
 intro ns
 induction ns generalizing n with|nil=>show λh _=>h|cons o r e=>
  intro b a;show e ?_ (λx f=>a x (h_ _ f));split
  .show Cd b (a o eQ)
  .show b
theorem Ew:∀{ns:I Nat},jn n ns=n->∀o∈ns,o&&&n≠0->∀c,has o c->has n c
 |[],_,o,g,_,_,_=>by simp_all|p::r,h,o,g,i,c,j=>by
  unfold jn at h;by_cases a:p&&&n≠0
  .rw[ax a]at h
   let e:n|||p=n:=by let f:n|||p<=jn _ r:=Dv _ _;let b:n<=n|||p:=Ip;ext
   rw[e]at h;rcases hX.mp g with z|g
   .subst z;rw[<-e];show qO.mpr (.inr j)
   .show Ew h o g i c j
  .rw[aE a]at h
   rcases hX.mp g with z|g
   .subst z;show a7 i a
   .show Ew h o g i c j
def Oj(d:∀c,has n c->Con E r M c):∀{ns:I Nat},(∀o∈ns,∃k,∀c,has o c->Con E k M c)->∀c,has (jn n ns) c->Con E r M c:=by
 intro ns
 induction ns generalizing n with |nil=>intro _ c h;show d c h|cons o f i=>
  intro g c h;show i ?_ (λx a=>g x (h_ _ a)) c h;intro x a;split at a
  .rename_i e
   rcases qO.mp a with z|z
   .show d x z
   .let(y,j):=Vk e;let(m,l):=AD.mp j;let(k,b):=g o eQ;show(d y l).share (b y m) (b x z)
  .show d x a
structure Nums(E:I _)(R C)(ns:I Nat):Prop where
 len:ns.length=R
 lt:∀n∈ns,n<2^C
 own:∀r c,(r,c)∈E->has (ns.getD r 0) c
 snd:∀r,r<R->∀c,has (ns.getD r 0) c->Con E r M c
def sI{ns:I Nat}(h:r<ns.length):(ns.map f).getD r 0=f (ns.getD r 0):=by simp_all
def alC{ns:I Nat}(h:n∈ns):∃r,r<ns.length/\ns.getD r 0=n:=by let(r,a,e):=R3.mp h;show#[r,a,by simp_all]
def BS{ns:I Nat}(h:r<ns.length):ns.getD r 0∈ns:=by simp_all
def lu(ns:I Nat):I Nat:=ns.map λn=>jn n ns
def Nums.swp(h:Nums E R C ns)(q:∀p∈E,p.1<R):Nums E R C (lu ns)where
 len:=by ext lu;rw[dO];show h.len
 lt:=λn t=>by let(m,hm,0):=gi.mp t;show Ur (h.lt m hm) h.lt
 own:=λr c a=>by ext lu;rw[sI (by rw[h.len];show q _ a)];show TF _ _ _ (h.own r c a)
 snd:=λr i c f=>by unfold lu at f;rw[sI (by rw[h.len];show i)]at f;show Oj (h.snd r i) (λo l=>?_) c f;let(g,b,e):=alC l;show#[g,λx j=>h.snd g (by rw[<-h.len];show b) x (by rw[e];show j)]
def Nums.done(h:Nums E R C ns)(l:∀p∈E,p.1<R)(j:lu ns=ns)(i:r<R)(c):has (ns.getD r 0) c↔Con E r M c:=by
 show#[h.snd r i c,λg=>?_];let n:∀a,a<R->jn _ ns=ns.getD a 0:=λa m=>by
  let q:(lu ns).getD a 0=ns.getD a 0:=by rw[j]
  unfold lu at q;rwa[sI (by rw[h.len];show m)]at q
 let b:∀k x,Con E r k x->(k=u->x<R/\∀y,has (ns.getD x 0) y->has (ns.getD r 0) y)/\(k=M->has (ns.getD r 0) x):=by
  intro k x g
  induction g with |base=>show#[λ_=>#[i,λy f=>f],λh=>by ext h]|@col a o _ e t=>show#[λh=>(),λ_=>(t.1 W).2 o (h.own a o e)]|@row a o _ e t=>show#[λ_=>#[l _ e,λy f=>?_],λh=>by ext h];show Ew (n r i) _ (BS (by rw[h.len];show l _ e)) (λz=>?_) y f;let q:has _ o:=AD.mpr #[h.own a o e,t.2 W];rw[z]at q;show iz q
 show(b _ c g).2 W
def room(C:Nat):I Nat->Nat|[]=>0|n::r=>(2^C-n)+room C r
theorem Hn{xs:I Nat}:∀{ns:I Nat},room C (ns.map λn=>jn n xs)<=room C ns |[]=>dc _|n::r=>by let b:=Dv n xs;let a:=@Hn C xs r;show 2^C-jn n xs+room C _<=2^C-n+room C r;ext
theorem Hh:∀{ns:I Nat},(∀n∈ns,jn n xs<2^C)->(ns.map λn=>jn n xs)≠ns->room C (ns.map λn=>jn n xs)<room C ns
 |[],_,h=>a7 W h|n::r,i,h=>by
  let g:=Dv n xs;let b:=i n eQ;show 2^C-jn n xs+room C _<2^C-n+room C r;by_cases e:jn n xs=n
  .let a:=Hh (λm hm=>i m (h_ _ hm)) (λz=>h ());ext
  .let f:=@Hn C xs r;ext
abbrev NF:=I Nat×I Nat
def CY(s:NF)(k:Nat×Nat):NF:=let s1:NF:=if k.1∈s.1/\k.2∉s.2 then(s.1,s.2++[k.2])else s
 if k.2∈s1.2/\k.1∉s1.1 then(s1.1++[k.1],s1.2)else s1
def Ym(E:I (Nat×Nat))(s:NF):NF:=E.foldl CY s
def Sub(s t:NF):Prop:=(∀x∈s.1,x∈t.1)/\(∀x∈s.2,x∈t.2)
def Sub.refl(s):Sub s s:=#[λ_ h=>h,λ_ h=>h]
def Sub.trans(a:Sub s t)(b:Sub t e):Sub s e:=#[λx h=>b.1 x (a.1 x h),λx h=>b.2 x (a.2 x h)]
def Hs(s)(k):Sub s (CY s k):=by
 ext CY;by_cases a:k.1∈s.1/\k.2∉s.2
 .simp only[ax a]
  split
  .simp_all
  .show#[λx h=>h,λx h=>rR _ h]
 .simp only[aE a]
  split
  .show#[λx h=>rR _ h,λx h=>h]
  .show Sub.refl s
def Wx(s)(k)(h:k.1∈s.1\/k.2∈s.2):k.1∈(CY s k).1/\k.2∈(CY s k).2:=by
 ext CY;by_cases f:k.1∈s.1/\k.2∉s.2
 .simp_all
 .simp only[aE f]
  by_cases a:k.2∈s.2/\k.1∉s.1
  .rw[ax a];show#[by simp,a.1]
  .rw[aE a]
   by_cases e:k.1∈s.1
   .by_cases b:k.2∈s.2
    .show#[e,b]
    .show a7 #[e,b] f
   .let b:k.2∈s.2:=h.resolve_left e;show a7 #[b,e] a
def A8(E:I _):∀s,Sub s (E.foldl CY s):=by induction E with |nil=>show λs=>Sub.refl s|cons k r a=>show λs=>(Hs s k).trans (a _)
def Rz(E:I _):∀(s)(k),k∈E->(k.1∈s.1\/k.2∈s.2)->k.1∈(E.foldl CY s).1/\k.2∈(E.foldl CY s).2:=by induction E with|nil=>ext|cons p r b=>
  intro s k a h;rcases hX.mp a with z|a
  .subst z;let q:=Wx s k h;let f:=A8 r (CY s k);show#[f.1 _ q.1,f.2 _ q.2]
  .show b _ k a ?_
   let f:=Hs s p;rcases h with h|h
   .show .inl (f.1 _ h)
   .show .inr (f.2 _ h)
def rO(s:NF):I (Nat×Nat)->Nat|[]=>0|k::r=>(if k.1∈s.1/\k.2∈s.2 then 1 else 0)+rO s r
theorem yo{s t:NF}(h:Sub s t):∀E,rO s E<=rO t E
 |[]=>dc _|k::r=>by
  let:=yo h r;ext rO;by_cases g:k.1∈s.1/\k.2∈s.2
  .rw[ax g,ax #[h.1 _ g.1,h.2 _ g.2]];ext
  grind
theorem Hu(h:Sub s t):∀E(k),k∈E->¬(k.1∈s.1/\k.2∈s.2)->(k.1∈t.1/\k.2∈t.2)->rO s E<rO t E
 |[],k,a,_,_=>by simp_all|p::r,k,a,g1,g2=>by
  ext rO;rcases hX.mp a with z|a
  .subst z;let:=yo h r;rw[aE g1,ax g2];ext
  .let:=Hu h r k a g1 g2
   by_cases g:p.1∈s.1/\p.2∈s.2
   .rw[ax g,ax #[h.1 _ g.1,h.2 _ g.2]];ext
   .rw[aE g];ext
theorem AE(s):∀E,rO s E<=E.length
 |[]=>dc _|k::r=>by
  let:=AE s r;ext rO
  grind
theorem BU:∀E,rO s E=E.length->∀k∈E,k.1∈s.1/\k.2∈s.2
 |[],_,k,a=>by simp_all|p::r,h,k,a=>by
  let:=AE s r;unfold rO at h;simp at h;by_cases g:p.1∈s.1/\p.2∈s.2
  .rw[ax g]at h
   rcases hX.mp a with z|a
   .rw[z];show g
   .show BU r () k a
  .rw[aE g]at h;ext
def tj(E:I (Nat×Nat))(s:NF):Prop:=∀k∈E,k.1∈s.1↔k.2∈s.2
def Db(h:k.1∈s.1↔k.2∈s.2):CY s k=s:=by ext CY;simp_all
def vO(h:tj E s):Ym E s=s:=by
 let a:∀r:I _,(∀k∈r,k.1∈s.1↔k.2∈s.2)->r.foldl CY s=s:=by
  intro r
  induction r with|nil=>intro _;rfl|cons k r b=>intro h;rw[H8,Db (h k eQ)];show b λx e=>h x (h_ _ e)
 show a E h
def nK(E:I (Nat×Nat))(s:NF):Nat->NF |0=>s|n+1=>Ym E (nK E s n)
theorem yw:∀n,tj E (nK E s n)\/n<=rO (nK E s n) E
 |0=>.inr (mT _)|n+1=>by
  rcases yw n with h|h
  .show .inl ?_;show tj E (Ym E _);rw[vO h];show h
  .by_cases e:tj E (nK E s n)
   .show .inl ?_;show tj E (Ym E _);rw[vO e];show e
   .show .inr ?_
    let:∃k,k∈E/\¬(k.1∈(nK E s n).1↔k.2∈(nK E s n).2):=by apply Classical.byContradiction;intro g;apply e;intro k a;apply Classical.byContradiction;intro f;show g #[k,a,f]
    let(k,a,b):=this;let one:k.1∈(nK E s n).1\/k.2∈(nK E s n).2:=by grind
    let:=Hu (A8 E _) E k a (λz=>b #[λ_=>z.2,λ_=>z.1]) (Rz E _ k a one);show n+1<=rO (Ym E _) E;ext Ym;ext
def akQ:tj E (nK E s E.length):=by
 rcases yw _ with h|h
 .show h
 .let:=AE (nK E s E.length) E;let all:=BU E (by omega:rO (nK E s E.length) E=E.length);show λk a=>#[λ_=>(all k a).2,λ_=>(all k a).1]
structure p4(E)(r0)(s:NF):Prop where
 a:r0∈s.1
 n:∀x∈s.1,Con E r0 u x
 f:∀x∈s.2,Con E r0 M x
 d:s.2.Nodup
 d1:s.1.Nodup
def wg{x:Nat}(h:l.Nodup)(f:x∉l):(l++[x]).Nodup:=by rw[B?];show#[h,by simp,λa i b g=>?_];rw[f?.mp g];show λe=>f (e▸i)
def p4.step(h:p4 E r0 s)(i:k∈E):p4 E r0 (CY s k):=by
 let b:p4 E r0 (if k.1∈s.1/\k.2∉s.2 then(s.1,s.2++[k.2])else s):=by
  by_cases g:k.1∈s.1/\k.2∉s.2
  .rw[ax g]
   show#[h.a,h.n,λx e=>?_,wg h.d g.2,h.d1];rcases m?.mp e with z|z
   .show h.f x z
   .rw[f?.mp z];show .col (h.n _ g.1) i
  .rw[aE g];show h
 ext CY;generalize(if k.1∈s.1/\k.2∉s.2 then(s.1,s.2++[k.2])else s)=t at b;by_cases g:k.2∈t.2/\k.1∉t.1
 .rw[ax g]
  show#[rR _ b.a,λx e=>?_,b.f,b.d,wg b.d1 g.2];rcases m?.mp e with z|z
  .show b.n x z
  .rw[f?.mp z];show .row (b.f _ g.1) i
 .rw[aE g];show b
theorem p4.fold:∀(r:I _){s:NF},p4 E r0 s->(∀k∈r,k∈E)->p4 E r0 (r.foldl CY s)|[],_,h,_=>h|k::r,_,h,g=>p4.fold r (h.step (g k eQ)) λx a=>g x (h_ _ a)
theorem p4.walk(h:p4 E r0 s):∀n,p4 E r0 (nK E s n) |0=>h|n+1=>p4.fold E (h.walk n) λ_ a=>a
def aao(E)(b):p4 E b ([b],[]):=#[by simp,λx a=>(by rw[f?.mp a];show .base),λx a=>(),IF,by simp]
def IL:p4 E o (nK E ([o],[]) E.length)/\(∀c,c∈(nK E ([o],[]) E.length).2↔Con E o M c)/\(∀r,r∈(nK E ([o],[]) E.length).1↔Con E o u r):=by
 let F:=(aao E o).walk E.length;let cl:=akQ (E:=E) (s:=([o],[]));let b:∀k x,Con E o k x->(k=u->x∈(nK E ([o],[]) E.length).1)/\(k=M->x∈(nK E ([o],[]) E.length).2):=by
  intro k x g
  induction g with |base=>show#[λ_=>F.a,λh=>by simp_all]|col _ e i=>show#[λh=>(),λ_=>(cl _ e).mp (i.1 W)]|row _ e i=>show#[λ_=>(cl _ e).mpr (i.2 W),λh=>by simp_all]
 show#[F,λc=>#[F.f c,λh=>(b _ c h).2 W],λr=>#[F.n r,λh=>(b u r h).1 W]]
def nM:I Nat->Nat|[]=>0|c::r=>2^c+nM r
def uI:has (2^c) i↔i=c:=by
 ext has
 grind
def UW:∀a,a<64->∀b,b<64->a&&&b=0->a+b=a|||b:=by left
theorem AB:∀{l:I Nat},l.Nodup->(∀c∈l,c<6)->nM l<64/\∀i,has (nM l) i↔i∈l
 |[],_,_=>#[by decide,λi=>#[λh=>a7 h iz,λh=>()]]|c::r,h,t=>by
  let(q,p):=r4.mp h;let(g,j):=AB p λx o=>t x (h_ _ o);let m:2^c<64:=by let:2^c<2^6:=Jl () (t c eQ);show this
  let f:2^c&&&nM r=0:=by apply uD;intro x;rw[AD,uI,j x];show#[λc=>by let(a,b):=c;show a7 (a▸b) q,λz=>a7 z iz]
  let e:nM (c::r)=2^c|||nM r:=UW _ m _ g f;show#[by rw[e];show Cd (n:=6) m g,λi=>?_];rw[e,qO,uI,j i,hX]
def ahR(h:l.Perm m):nM l=nM m:=by induction h with|nil=>rfl|cons x _ e=>show 2^x+nM _=2^x+nM _;rw[e]|swap x y l=>show 2^y+(2^x+nM l)=2^x+(2^y+nM l);ext|trans _ _ a b=>rw[a,b]
structure n4(R C)(ss:I (Nat×Nat)):Prop where
 r1:1<=R
 r6:R<=6
 c1:1<=C
 c6:C<=6
 l1:1<=ss.length
 l12:ss.length<=12
 nd:ss.Nodup
 inn:∀s∈ss,s.1<R/\s.2<C
def bO(ss:I (Nat×Nat))(a:I Nat):I (Nat×Nat):=a.map λk=>ss.getD k (0,0)
def eT(ss:I (Nat×Nat))(a:I Nat):Prop:=∀k∈a,k<ss.length
def pN(F:n4 R C ss)(h:k<ss.length):(ss.getD k (0,0)).1<R/\(ss.getD k (0,0)).2<C:=by rw[K_,j' h];show F.inn _ (Dd h)
def jE(F:n4 R C ss)(h:eT ss o):∀e∈bO ss o,e.1<R/\e.2<C:=λe b=>by let(k,a,0):=gi.mp b;show pN F (h k a)
def qq(E:I (Nat×Nat))(r:Nat):Nat:=nM (nK E ([r],[]) E.length).2
def kx(E:I (Nat×Nat))(R:Nat):I Nat:=(eI R).map (qq E)
def AC(a:∀e∈E,e.2<C)(h:Con E r k x):k=M->x<C:=by cases h with|base|row _ _=>ext|col _ e=>show λ_=>a _ e
def oU(b:∀e∈E,e.2<6):qq E r<64/\∀c,has (qq E r) c↔Con E r M c:=by let(F,g,_):=IL;let(i,h):=AB F.d λc a=>AC b (F.f c a) W;show#[i,λc=>(h c).trans (g c)]
def AW(E)(R):(kx E R).length=R:=by ext kx;simp_all
def G2(h:r<R):(kx E R).getD r 0=qq E r:=by ext kx;simp_all
def alF{a:I Nat}(b:xs.length=a.length)(h:∀i,i<xs.length->xs.getD i 0=a.getD i 0):xs=a:=by apply List.ext_getElem b;simp_all
def alu(h:Nums E R C ns)(b:∀e∈E,e.1<R/\e.2<C)(j:C<=6)(a:lu ns=ns):ns=kx E R:=by show alF (h.len.trans (AW E R).symm) λi l=>?_;rw[h.len]at l;rw[G2 l];apply uD;intro c;rw[h.done (λp f=>(b p f).1) a l c,(oU λe g=>lr (b e g).2 j).2 c]
end M02
local macro_rules(kind:=«term{_}»)|`({$a,*})=>do let r:Lean.Term←a.getElems.foldrM (fun x y=>`(L3.aa $x $y)) (←`(L3.ag))return r
local macro_rules|`(~~~$n)=>`(L3.pC (.int $n))
local macro_rules(kind:=«term{_}»)|`({0,$a,*})=>do let r:Lean.Term←a.getElems.foldrM (fun x y=>`(L10.aj $x $y)) (←`(L10.aJ))return r|`({1,$a,*})=>`(.tuple [$a,*])
local macro_rules|`(~~~$s:str)=>`(L3.pC (.str $s))
local macro_rules|`($a:num/$b:num)=>`(L3.am L3.av (L3.ae $a) (L3.pC (.int $b)))
local macro_rules|`(!$n:num)=>`(L10.af (L3.ae $n))
local macro_rules|`(-($x))=>`(Option.some (.fz $x))
namespace STP
open PySem L2 L3
def kK:FS:=(aF (eJ (ai (am pR (0/2) (pC .none))) (aY (0/2)) aX) (aY (cy (L10.Ff 0) {bE 2 [] (dB (0/0)) (gT 2 (iM (gN 0) (iM (gN 1) rE))) (ai (am bx (1/0) (~~~"layer"))) (1/1)})))
def gU:FN:=bL 1 kK
def jy:FS:=(aF (bF (am av (am av (0/1) (ae 1)) (ae 2)) (gN 3)) (aF (eJ (ai (am bx (3/0) (~~~"below"))) (aY (am av (am av (0/1) (~~~0)) (ae 2))) aX) (aY (ae 3))))
def lw:FN:=bL 4 jy
def ji:FS:=(aY (bE 1 [1] (dB (0/2)) (gN 0) (ai (cy v3 {bE 1 [0] (dB (ae 1)) (gN 0) bi (am pP (ae 0) (1/0))})) (ae 0)))
def cO:FN:=bL 2 ji
def kg:FS:=(aF (jU (dB (0/2)) (gN 2) (eJ (ai (am bx (cy ww {2/0}) (cy L9.jY {ae 1}))) (aY (am b6 (bS {bK {pC (.str "letter"),2/1}}) (am fP (bS {pC {1,(.str "none")}}) (am pX (cy cX {ae 1}) (~~~1))))) aX)) (aY (bE 1 [0] (dB (ae 1)) (gN 0) bi (am av (am av (1/1) (~~~0)) (ae 0)))))
def ig:FN:=bL 3 kg
open L10
def gF:iL:=(aH (dW "Hand" "bed" (ap 0) (!1)) (aH (dW "Hand" "acts" (ap 0) (yE (af (2/0)))) (aH (dW "Hand" "waiting" (ap 0) (af (2/1))) (aH (dW "Hand" "once" (ap 0) (af (2/2))) (dW "Hand" "sent" (ap 0) (af (bS ag)))))))
def gI:jG:=c7 3 gF
def je:iL:=(c8 (tK {0,Wk iW {0,jO 1 [0] (jA (yz (bw "Hand" "acts" (ap 0)))) (d4 0) nY (tK {0,!0,yt (bw "Hand" "acts" (ap 1)) (!0)})},bw "Hand" "waiting" (ap 0),bw "Hand" "once" (ap 0)}))
def dw:jG:=c7 1 je
def fN:iL:=(c8 (Eg (iQ pR (bw "Hand" "waiting" (ap 0)) (af (pC .none))) (iQ pP (!1) (mn (bw "Hand" "waiting" (ap 0)) (af (~~~0))))))
def cU:jG:=c7 2 fN
def iJ:iL:=(c8 (iQ pP (!1) (Cm (bw "Hand" "acts" (ap 0)))))
def dG:jG:=c7 2 iJ
def lz:iL:=(aH (bP (qE (bG (ai (am bx (2/0) (~~~"letter")))) (ug (bf (aB "Hand" "has_act" dG 2 (ap 0) {0,!2})))) (cJ (xB (bw "Hand" "sent" (ap 0)) (af (bK {2/1,pC (.str "down")})))) bJ) (yP (bw "Hand" "acts" (ap 0)) (!1) (!2)))
def bV:jG:=c7 3 lz
def oP:iL:=(aH (cB (x9 (bw "Hand" "acts" (ap 0)) (!1)) (d4 2)) (bP (qE (bG (ai (am bx (2/0) (~~~"letter")))) (ug (bf (aB "Hand" "has_act" dG 2 (ap 0) {0,!2})))) (cJ (xB (bw "Hand" "sent" (ap 0)) (af (bK {2/1,pC (.str "up")})))) bJ))
def pd:jG:=c7 3 oP
def jt:iL:=(aH (cB (mn (bw "Hand" "waiting" (ap 0)) (af (~~~0))) (d4 1)) (aH (cB (mn (bw "Hand" "waiting" (ap 0)) (af (~~~2))) (d4 2)) (aH (dW "Hand" "waiting" (ap 0) (af (pC .none))) (aH (cB (wM (Tb (bG (ai (am bx (ae 2) (pC {1,(.str "chord")})))) (gn ig 2 {0,bw "Hand" "bed" (ap 0),!1}) (af (bS {bK {pC (.str "layer"),2/2}})))) (d4 3)) (vK (nZ (ET {ae 1,ae 3})) (IP 2 (kT (d4 4) (kT (d4 5) uq))) (cJ (aB "Hand" "come" bV 3 (ap 0) {0,!4,!5})))))))
def dU:jG:=c7 6 jt
def eY:iL:=(aH (bP (Bk (bf (iQ pW (bw "Hand" "waiting" (ap 0)) (af (pC .none)))) (Bk (bf (iQ fO (mn (bw "Hand" "waiting" (ap 0)) (af (~~~2))) (af (pC {1,(.str "chord")})))) (bf (iQ fO (gn gU 1 {0,aB "Hand" "stands" dw 1 (ap 0) aJ}) (af (~~~0)))))) (c8 (af (pC (.bool M)))) bJ) (c8 (iQ fO (gn cO 2 {0,bw "Hand" "bed" (ap 0),iQ b6 (mn (bw "Hand" "waiting" (ap 0)) (af (~~~0))) (af (bK {ae 1}))}) (af (bS ag)))))
def eP:jG:=c7 2 eY
def d8:iL:=(aH (cB (iQ b6 (mn (bw "Hand" "waiting" (ap 0)) (af (~~~0))) (af (bK {ae 1}))) (d4 2)) (aH (dW "Hand" "waiting" (ap 0) (tK {0,!2,mn (bw "Hand" "waiting" (ap 0)) (af (~~~1)),af (pC {1,(.str "chord")})})) (bP (bf (iQ bx (jO 1 [] (jA (gn cO 2 {0,bw "Hand" "bed" (ap 0),!2})) (d4 0) nY (af (cy cX {0/0}))) (af (bS {cy cX {ae 2}})))) (cJ (aB "Hand" "decide" dU 1 (ap 0) aJ)) bJ)))
def d9:jG:=c7 3 d8
def j9:iL:=(aH (cB (gn gU 1 {0,aB "Hand" "stands" dw 1 (ap 0) aJ}) (d4 2)) (aH (cB (gn lw 3 {0,bw "Hand" "bed" (ap 0),!2,!1}) (d4 3)) (aH (cB (af (3/0)) (d4 4)) (aH (bP (bG (ai (am rK (ae 4) (bK {pC (.str "layer"),pC (.str "once")})))) (dW "Hand" "once" (ap 0) (af (pC .none))) bJ) (bP (bG (ai (am bx (ae 4) (~~~"tap")))) (dW "Hand" "waiting" (ap 0) (af (bK {bK {ae 1},~~~0,ae 3}))) (bP (qE (bG (ai (am bx (ae 4) (~~~"letter")))) (qE (bG (ai (am bx (ae 2) (~~~0)))) (bf (iQ fO (gn cO 2 {0,bw "Hand" "bed" (ap 0),af (bK {ae 1})}) (af (bS ag)))))) (dW "Hand" "waiting" (ap 0) (af (bK {bK {ae 1},~~~0,pC {1,(.str "chord")}}))) (bP (bG (ai (am bx (ae 4) (~~~"once")))) (aH (cJ (aB "Hand" "come" bV 3 (ap 0) {0,!1,af (pC {1,(.str "none")})})) (dW "Hand" "once" (ap 0) (af (3/1)))) (cJ (aB "Hand" "come" bV 3 (ap 0) {0,!1,!3})))))))))
def jZ:jG:=c7 5 j9
def ka:iL:=(aH (bP (Bk (bf (xD M (!1) (bw "Hand" "acts" (ap 0)))) (bf (aB "Hand" "is_waiting" cU 2 (ap 0) {0,!1}))) vQ bJ) (aH (bP (bf (aB "Hand" "makes_chord" eP 2 (ap 0) {0,!1})) (aH (cJ (aB "Hand" "put_to_chord" d9 2 (ap 0) {0,!1})) vQ) bJ) (aH (bP (bf (iQ pR (bw "Hand" "waiting" (ap 0)) (af (pC .none)))) (cJ (aB "Hand" "decide" dU 1 (ap 0) aJ)) bJ) (cJ (aB "Hand" "begin" jZ 2 (ap 0) {0,!1})))))
def jS:jG:=c7 2 ka
def i8:iL:=(aH (cB (mn (bw "Hand" "waiting" (ap 0)) (af (~~~2))) (d4 2)) (bP (bG (ai (am bx (ae 2) (pC {1,(.str "chord")})))) (cJ (aB "Hand" "decide" dU 1 (ap 0) aJ)) (aH (dW "Hand" "waiting" (ap 0) (af (pC .none))) (cJ (aB "Hand" "come" bV 3 (ap 0) {0,!1,af (bK {pC (.str "letter"),2/1})})))))
def jp:jG:=c7 3 i8
def lC:iL:=(aH (bP (bf (aB "Hand" "is_waiting" cU 2 (ap 0) {0,!1})) (cJ (aB "Hand" "settle" jp 2 (ap 0) {0,!1})) bJ) (bP (bf (xD M (!1) (bw "Hand" "acts" (ap 0)))) (cJ (aB "Hand" "go" pd 2 (ap 0) {0,!1})) bJ))
def lF:jG:=c7 2 lC
def iq:iL:=(aH (bP (bf (iQ pW (bw "Hand" "waiting" (ap 0)) (af (pC .none)))) vQ bJ) (aH (cB (iQ b6 (mn (bw "Hand" "waiting" (ap 0)) (af (~~~1))) (af (~~~1))) (d4 1)) (aH (dW "Hand" "waiting" (ap 0) (tK {0,mn (bw "Hand" "waiting" (ap 0)) (af (~~~0)),!1,mn (bw "Hand" "waiting" (ap 0)) (af (~~~2))})) (bP (bf (iQ bx (!1) (mn (bw "Hand" "bed" (ap 0)) (af (~~~3))))) (cJ (aB "Hand" "decide" dU 1 (ap 0) aJ)) bJ))))
def hV:jG:=c7 2 iq
def Ae:iL:=(aH (cB (jv "Hand" gI 3 {0,!0,!1}) (d4 3)) (aH (bP (bG (ai (am bx (2/0) (~~~"turn")))) (cJ (aB "Hand" "wait_on" hV 1 (ap 3) aJ)) (bP (bG (ai (am bx (2/0) (~~~"down")))) (cJ (aB "Hand" "press" jS 2 (ap 3) {0,af (2/1)})) (cJ (aB "Hand" "lift" lF 2 (ap 3) {0,af (2/1)})))) (c8 (tK {0,bw "Hand" "sent" (ap 3),aB "Hand" "stands" dw 1 (ap 3) aJ}))))
def ng:jG:=c7 4 Ae
end STP
open Lean in
private def HX(s:String):MacroM Syntax:=do
  let a←(s.splitOn ",").toArray.mapM fun w=>do
    let i:=mkIdent ((w.splitOn " ").headD "").toName let l←(((w.splitOn " ").getD 1 "").toList.toArray).mapM fun c=>do
      let t←match c.toLower with |'y'=>`(tactic|with_reducible apply$i)|'e'=>`(tactic|done)|'r'=>`(tactic|rfl)|'c'=>`(tactic|calc 1)|'a'=>`(tactic|with_reducible assumption)|'z'=>`(tactic|calc 0)|'t'=>`(tactic|try ext:3)|'x'=>`(tactic|fail)|'w'=>`(tactic|with_reducible rfl)|'h'=>`(tactic|intro _)|'i'=>`(tactic|exact nE rfl)|'k'=>`(tactic|(simp only[C!,j_,L3.bI]at*;ext))|'p'=>`(tactic|have h:=$i hl)|'o'=>`(tactic|obtain⟨_,h⟩:=h)|'q'=>`(tactic|(subst h;kernel_rfl))|d=>let n:=d.toNat;`(tactic|ext:$(Syntax.mkNumLit (toString (if n<58 then n-48 else n))))
      if c.isUpper then pure t else`(tactic|·$t:tactic)
    `(tacticSeq|$[$l]*)
  return (←`(tactic|first$[|$a]*)).raw
local macro_rules|`(tactic|calc 0)=>`(tactic|·first|((simp only[ai4,ai5]);rfl)|rfl)|`(tactic|calc 1)=>HX " A,L3.zR YE,L3.Dm YE,L3.oy YE,L3.Fq YE,L3.Ft YE,L3.amV YE,L3.JX YE,L3.Ww YE,L3.lA YE,L3.pH YE,L3.ajw YE,L3.ajD YE,L3.Qe YE,L3.Pt YE,L3.F9 YE,L3.Rb YE,L3.aow YE,L3.amU YE,L3.zC YE,L3.aj4 YE,L3.Cw YE,L3.Pl YE,L3.Xo YE,L3.gB YE,L3.jI YE,L3.ny YE,L3.A3 YE,L3.abh YE,L3.asU YE,L3.fC YE,L3.v9 YE, W"|`(tactic|ext:6)=>HX "L3.aU YE,L3.au YR,L3.lZ YR,L3.aP YE,L3.aly YE,L3.aZ Y66rrc,L3.Tn Y6rr,L3.ar Y66,L3.b9 Y6r,L3.fq Y6rf,L3.cY Y6rra,L3.qX Y6ri,L3.oA Y6ri,L3.apN Y6rr,L3.M5 Y6r,L3.Gf Y666rg,L3.rN Y6,L3.zw Y6j,L3.wA Y6j,L3.an9 Y6,L3.Gp Y6j,L3.alv Y6j,L3.Fv Y6rg,L3.lL Y6rr,L3.ale Y6rr,L3.nu Yr6rrnZ,L3.arw Yr6rraaaZ,L3.mJ Y6rZ,L3.zr Y6,L3.lU Y6r, X"|`(tactic|ext:102)=>HX " C, R"|`(tactic|ext:103)=>HX " A, R"|`(tactic|ext:106)=>HX " H6"|`(tactic|ext:108)=>HX " H8"|`(tactic|ext:109)=>HX " Hc"|`(tactic|ext:110)=>HX " A, K"|`(tactic|ext:100)=>HX "L10.cR Yc"
local macro_rules|`(tactic|ext:8)=>HX "L3.NN Y66rrc,L3.aoU Y6rra,L3.aqA Y6rf, 6"
local macro_rules|`(tactic|ext:6)=>HX " A,L3.Gp Y6l,L3.alv Y6l,L3.B0 Y666rrrcm,L3.GH Y6rrr, X"
local macro_rules|`(tactic|ext:3)=>HX "L3.bB Y6rZT,L3.F0 Y6T,L3.aql YT,L3.cz YT,L3.ia Y6r,L3.fy Y6,L3.arh Y6rZ,L3.gK Y6,L3.b8 Y6r,L3.u7 Y6,L3.lf Y"
local macro_rules|`(tactic|ext:2)=>`(tactic|((apply Eq.trans);(·ext:6);(·rfl)))|`(tactic|ext:1)=>HX " A,L10.aA YR,L10.aV YE,L10.aq Y11,L10.ah Y6,L10.cA Y6,L10.iu Y11c,L10.dI Y11d,L10.bp Y1,L10.pK Y1"
namespace STP
open PySem L2 L3
def me(c:Nat):Str:=#[#v[97+c]]
set_option genInjectivity true in
inductive Mn where|ab3(c:Nat)|ac7(n:Int)|tap(c:Nat)(n:Int)|once(n:Int)|none|below deriving DecidableEq
def mD:Mn->D |.ab3 c=>.tuple [.str "letter",.str (me c)]|.ac7 n=>.tuple [.str "layer",.int n]|.tap c n=>.tuple [.str "tap",.str (me c),.int n]|.once n=>.tuple [.str "once",.int n]|.none=>.tuple [.str "none"]|.below=>.tuple [.str "below"]
def VM(L a:Int):Mn->Prop|.ab3 c=>c<26|.ac7 n=>1<=n/\n<a|.tap c n=>c<26/\1<=n/\n<a|.once n=>1<=n/\n<a|.none=>True|.below=>L≠0
def Mn.isL:Mn->Bool|.ab3 _=>u|_=>M
structure Bd where
 n:Int
 ls:I (I Mn)cs:I (I Nat×Nat)wt:Int
def mI(l:I Mn):D:=.tuple (l.map mD)
def chD(c:I Nat×Nat):D:=.tuple [.tuple (aM c.1),.str (me c.2)]
def bD(b:Bd):D:=.tuple [.int b.n,.tuple (b.ls.map mI),.tuple (b.cs.map chD),.int b.wt]
def VL(n a:Int)(b:I (I Mn)):Prop:=∀(i:Nat)l,b[i]?=G l->(l.length)=n/\∀m∈l,VM i a m
def yD(a:I Mn)(k:Nat):Bool:=(a[k]?.map Mn.isL).getD M
def VC(a:I Mn)(c:I Nat×Nat):Prop:=2<=c.1.length/\c.1.Pairwise (·<·)/\(∀k∈c.1,yD a k=u)/\c.2<26
structure VB(b:Bd):Prop where
 n1:1<=b.n
 n5:b.n<=5
 l1:1<=b.ls.length
 l3:b.ls.length<=3
 vl:VL b.n b.ls.length b.ls
 c4:b.cs.length<=4
 vc:∀c∈b.cs,VC (b.ls.headD []) c
 cu:b.cs.Pairwise λa c=>a.1≠c.1
 w1:1<=b.wt
 w4:b.wt<=4
def wn:Mn->Nat|.ab3 _=>0|.ac7 _=>1|.tap _ _=>2|.once _=>3|.none=>4|.below=>5
def ws:Nat->Str|0=>"letter"|1=>"layer"|2=>"tap"|3=>"once"|4=>"none"|_=>"below"
def wd(m:Mn):Str:=ws (wn m)
def GS(m):wn m<6:=by ext m<;>show nE W
def wK(m):av (mD m) (.int 0)=-(.str (wd m)):=by ext m<;>show gB
def T0(m):aS.strOk (wd m)=u:=(by left:∀i,i<6->aS.strOk _=u) _ (GS m)
def To:∀i,i<6->∀j,j<6->(ws i==ws j)=decide (i=j):=by trivial
def BZ(m)(j)(a:j<6):bx (.str (wd m)) (.str (ws j))=-(.bool (decide (wn m=j))):=by rw[Tx (T0 m) ((by left:∀i,i<6->aS.strOk _=u) j a)];ext wd;rw[To _ (GS m) _ a]
def Mn.isB:Mn->Bool|.below=>u|_=>M
def Mn.aiF:Mn->Bool|.ac7 _=>u|_=>M
def Mn.isT:Mn->Bool|.tap _ _=>u|_=>M
def Mn.isO:Mn->Bool|.once _=>u|_=>M
def mx(m):bx (.str (wd m)) (.str "letter")=-(.bool m.isL):=(BZ m 0 ()).trans (by ext m<;>rfl)
def alH(m):bx (.str (wd m)) (.str "below")=-(.bool m.isB):=(BZ m 5 ()).trans (by ext m<;>rfl)
def Mz(m):bx (.str (wd m)) (.str "layer")=-(.bool m.aiF):=(BZ m 1 ()).trans (by ext m<;>rfl)
def UL(m):bx (.str (wd m)) (.str "tap")=-(.bool m.isT):=(BZ m 2 ()).trans (by ext m<;>rfl)
def RI(m):bx (.str (wd m)) (.str "once")=-(.bool m.isO):=(BZ m 3 ()).trans (by ext m<;>rfl)
def aah(m):rK (.str (wd m)) {1,.str "layer",.str "once"}=-(.bool (!(m.aiF||m.isO))):=by
 let h:∀a:Str,aS.strOk a=u->rK _ {1,.str _,.str _}=G _:=λa b=>by show(if(lj _&&(aS.strOk _&&(aS.strOk "once"&&u)))=u then G _ else CL)=_;rw[show lj _=u by ext lj;rw[show aS.canLay0 (.str a)=u from b];rfl,show aS.strOk "layer"=u by left,show aS.strOk _=u by left];rfl
 rw[h _ (T0 m)];ext m<;>rfl
def LB:Mn->Prop|.ab3 c|.tap c _=>c<26|_=>True
def VM.lb(h:VM L nL m):LB m:=by cases m with|ab3 c=>show h|tap c n=>show h.1|_=>trivial
def EH(h:c<26):aS.strOk (me c)=u:=by show((#v[97+c]).all _)=u;simp;ext
def Ru(h:me c=me d):c=d:=by
 let:(97+c)=97+d:=by show List.head_eq_of_cons_eq (dt (λz:Str=>z.cps.toList) h)
 simp_all
def zP(h:LB m):aS.canLay0 (mD m)=u:=by cases m with |ab3 c=>show(aS.strOk _&&(aS.strOk _&&u))=u;rw[EH h,show aS.strOk _=u by left];rfl|ac7 n|once n=>show(aS.strOk _&&(u&&u))=u;left|tap c n=>show(aS.strOk _&&(aS.strOk _&&(u&&u)))=u;rw[EH h,show aS.strOk _=u by left];rfl|none|below=>show(aS.strOk _&&u)=u;left
def Nu(h:LB m):lj (mD m)=u:=by ext lj;rw[zP h];ext m<;>rfl
def mR:Mn->I D |.ab3 c=>[.str (me c)]|.ac7 n=>[.int n]|.tap c n=>[.str (me c),.int n]|.once n=>[.int n]|.none|.below=>[]
def Ty(m):mD m=.tuple (.str (wd m)::mR m):=by ext m<;>rfl
def Zu(a b):decide (wd a=wd b)=decide (wn a=wn b):=by
 let h:=To _ (GS a) _ (GS b)
 assumption
def GP(c d):decide (me c=me d)=decide (c=d):=decide_eq_decide.mpr #[Ru,λh=>by rw[h]]
def X2(a b)(h:wn a=wn b):aS.eqvAll (mR a) (mR b)=decide (a=b):=by
 ext a<;>ext b<;>first|ext h|skip
 .show(decide _&&u)=_;rw[GP,Io];simp_all
 .show(decide _&&u)=_;simp_all
 .show(decide _&&(decide _&&u))=_;rw[GP,Io,<-Bool.decide_and];simp_all
 .show(decide _&&u)=_;simp_all
 .rfl
 .rfl
def VW(a b):aS.eqv (mD a) (mD b)=decide (a=b):=by
 rw[Ty,Ty];show(decide _&&aS.eqvAll _ _)=_;rw[Zu];by_cases h:wn a=wn b
 .rw[a4 h,Qn,X2 a b h]
 .rw[a5 h,Bool.false_and,a5 λz=>h (by rw[z])]
theorem Gs:∀{l:I Mn},(∀m∈l,LB m)->aS.canLayAll0 (l.map mD)=u |[],_=>rfl|m::r,h=>by show(aS.canLay0 _&&aS.canLayAll0 _)=u;rw[zP (h m eQ),Gs λx a=>h x (h_ _ a)];rfl
theorem F6(a):∀l:I Mn,((l.map mD).any λe=>aS.eqv e (mD a))=decide (a∈l)
 |[]=>rfl|m::r=>by
  rw[l4,Ir,F6 a r,VW,<-Bool.decide_or]
  grind
def Pv{l:I Mn}(c:LB a)(b:∀m∈l,LB m):pP (mD a) (.list (l.map mD))=-(.bool (decide (a∈l))):=by show(if(lj _&&aS.canLayAll0 _)=u then _ else _)=_;rw[Nu c,Gs b,ua,ax W,F6]
def Gj(e)(g)(I:bM->Prop)(xs:a8 α)(p:I d)(i:xs.length<=1000)(b:∀x∈xs,∀d,I d->∃c,kF gt C J (e x) d=.ok (g x,c)/\I c):eN (bN gt C J (xs.map e) d [])=.ok (xs.filterMap g):=by
 let h:∀(xs:a8 α)(a:a8 D)(d:bM),I d->a.length+xs.length<=1000->(∀x∈xs,∀d,I d->∃c,kF gt C J (e x) d=.ok (g x,c)/\I c)->bN gt C J (xs.map e) d a=.ok (a++xs.filterMap g):=by
  intro xs
  induction xs with |nil=>intro a d _ _ _;show d7.ok a=_;simp_all|cons x r j=>
   intro a d m i b;rw[j_]at i;let(c,o,n):=b x eQ d m;rw[l4,qZ o ()];let f:(a++(g x).toList).length+r.length<=1000:=by rw[jl];cases g x with |none=>rw[JP,C!];ext|some y=>rw[JK,z4];ext
   rw[j _ c n f λy l=>b y (h_ _ l),pb];cases q:g x with|none=>rw[U_ q];rfl|some y=>rw[y_ q];rfl
 rw[h xs [] d p (by simpa using i) b];rfl
def E8(a:cZ o=o):cZ (G (PV.fz d)::o)=-(d)::o:=by show Cg _::cZ o=_;rw[a];rfl
def uV{α:Type}(e f)(p)(xs:I α)(h:xs.length<=1000)(j:cZ C=C)(b:∀x∈xs,J (-(e x)::C)=.ok (p x,-(e x)::C))(i:∀x∈xs,p x=u->U (-(e x)::C)=.ok (.fz (f x),-(e x)::C)):eN (bN (gN 0) J U (xs.map e) (CL::C) [])=.ok ((xs.filter p).map f):=by
 rw[Gj e (λx=>if p x=u then G (f x)else CL) (λl=>∃o,l=o::C) xs #[_,W] h ?_]
 .congr 1
  clear h b i
  induction xs with|nil=>rfl|cons x r g=>cases q:p x with |true=>rw[y_ (by rw[ax q]),J_ q,g];rfl|false=>rw[U_ (by rw[aE (by rw[q];simp)]),I? (by rw[q];simp),g]
 .rintro x a l ⟨o,rfl⟩
  cases q:p x with |true=>show#[_,lX W ((b x a).trans (by rw[q])) (i x a q) W (E8 j),_,W]|false=>show#[_,C8 W ((b x a).trans (by rw[q])) (E8 j),_,W]
def afj(xs:I α):xs.filter (λ_=>u)=xs:=Jk.mpr λ_ _=>W
def Aj{α:Type}(e f)(xs:I α)(b:xs.length<=1000)(h:cZ o=o)(g:∀x∈xs,C (-(e x)::o)=.ok (.fz (f x),-(e x)::o)):eN (bN (gN 0) bi C (xs.map e) (CL::o) [])=.ok (xs.map f):=by rw[uV e f _ xs b h (λ_ _=>W) λx a _=>g x a,afj]
theorem Cj(p):∀l:I α,um (l.map λc=>aS.bool (p c))=G (l.map p)|[]=>rfl|c::r=>by show(um _).map _=_;rw[Cj p r];rfl
def akO(p)(l:I α):v3 [.list (l.map λc=>aS.bool (p c))]=-(.bool (l.all p)):=by show(um _).map _=_;rw[Cj];simp_all
theorem vS:∀ns,tQ (ns.map aS.int)=G ns|[]=>rfl|n::r=>by show(tQ _).map _=_;rw[vS r];rfl
abbrev Ac:=Nat->bb Mn
abbrev Wq:=bb (I Nat×Int×bb (Nat×Int))
structure hq where
 ac:Ac
 wt:Wq
 oc:bb Int
def og(ac:Ac):I (Nat×Mn):=(eI 5).filterMap λk=>(ac k).map λa=>(k,a)
def pD(p:Nat×Mn):D:=.tuple [nd p.1,mD p.2]
def zY:bb (Nat×Int)->D |some (c,n)=>mD (.tap c n)|none=>.tuple [.str "chord"]
def ui:Wq->D |some (b,a,w)=>.tuple [.tuple (aM b),.int a,zY w]|none=>.none
def Dl:bb Int->D|some o=>.int o|none=>.none
def kQ(s:hq):D:=.tuple [.tuple ((og s.ac).map pD),ui s.wt,Dl s.oc]
set_option genInjectivity true in
inductive qm where|down(k:Nat)|up(k:Nat)|turn
def tY:qm->D |.down k=>.tuple [.str "down",nd k]|.up k=>.tuple [.str "up",nd k]|.turn=>.tuple [.str "turn",.int 0]
def sD:p∈og ac↔p.1<5/\ac p.1=G p.2:=by
 ext og;rw[J!];constructor
 .rintro⟨k,e,b⟩
  cases q:ac k with |none=>ext|some a=>rw[q]at b;injections;subst_vars;show#[js.mp e,q]
 .rintro⟨e,b⟩;show#[p.1,js.mpr e,by rw[b];rfl]
def AI(ac):(og ac).length<=5:=K4 _ _
def Yd:Nat×Mn->bb Int|(_,.ac7 n)=>G n|_=>CL
def D6(ac:Ac):Int:=(((og ac).filterMap Yd).foldl qY CL).getD 0
def A7(ac:Ac):bb Int->Int|some o=>o|none=>D6 ac
def alD(ac):eN (bN (gT 2 (iM (gN 0) (iM (gN 1) rE))) (ai (am bx (1/0) (~~~"layer"))) (1/1) ((og ac).map pD) [CL,CL] [])=.ok (((og ac).filterMap Yd).map .int):=by
 rw[Gj pD _ (λg=>∃e b,g=[e,b]) _ #[_,_,W] (la (AI ac) ()) ?_,List.map_filterMap];rintro⟨k,a⟩ _ g ⟨e,b,rfl⟩;let e1:=wK a;let e2:=Mz a;let f:ai (am bx (1/0) (~~~"layer")) [-(nd k),-(mD a)]=.ok (a.aiF,[-(nd k),-(mD a)]):=by ext:6
 show#[[-(nd k),-(mD a)],?_,_,_,W];cases a with |ac7 n=>show lX W f (aZ (au W) aU W W jI) W W|_=>show C8 W f W
def sG(s):gU [kQ s]=.ok (.fz (.int (A7 s.ac s.oc))):=by show bQ W ?_;let e2:av (kQ s) _=G _:=ny;let e0:av (kQ s) _=G _:=gB;ext kK;cases q:s.oc with
 |some o=>
  rw[q]at e2;let e3:pR (Dl (G o)) .none=G _:=W;ext:3
  .show λ_=>ia (by ext:6) W W
  .intro h;simp_all|none=>
  rw[q]at e2;let e3:pR (Dl CL) .none=G _:=W;ext:3
  .intro h;simp_all
  .intro _;show cz (b8 (fq (rv:=.fz _) (ar (bj (by rfl) W (alD s.ac)) aP) W ?_) W W);show(tQ _).map _=_;rw[vS];rfl
def A5(b:Bd)(L k:Nat):Mn:=((b.ls[L]?.getD [])[k]?).getD .none
def look(b:Bd)(L:Int)(k:Nat):Mn:=if(A5 b L.toNat k).isB=u then A5 b 0 k else A5 b L.toNat k
section
variable(Z:VB b)
include Z
def TQ{k:Nat}(a:L<b.ls.length)(e:(k)<b.n):∃l,b.ls[L]?=G l/\l[k]?=G (A5 b L k):=by
 let g:=Z.vl L _ (j' a);let f:k<(b.ls[L]).length:=by ext
 show#[_,j' a,?_];ext A5;simp_all
def Ei{k:Nat}(e:L<b.ls.length)(a:(k)<b.n):VM L b.ls.length (A5 b L k):=by let(l,g,f):=TQ Z e a;show(Z.vl L l g).2 _ (lq f)
def J1{k:Nat}(e:L<b.ls.length)(a:(k)<b.n):∃d,av (.tuple (b.ls.map mI)) (nd L)=-(d)/\av d (nd k)=-(mD (A5 b L k)):=by let(l,f,g):=TQ Z e a;show#[_,Ez (by rw[iD,f];rfl),Ez ()]
def Q5{L:Int}{k:Nat}(h:0<=L)(g:L<b.ls.length)(a:(k)<b.n):lw [bD b,.int L,nd k]=.ok (.fz (mD (look b L k))):=by
 obtain⟨n,rfl⟩:∃n:Nat,L=(n):=#[L.toNat,by ext];let f:=Z.l1;let(d,e2,e3):=J1 Z (L:=n) () a;let(i,e4,e5):=J1 Z (L:=0) () a;let e1:av (bD b) _=G _:=jI;let e6:=wK (A5 b n k);let e7:=alH (A5 b n k);let e8:av _ (.int 0)=G _:=e4;let e:look b (n) k=if(A5 b n k).isB=u then A5 b 0 k else A5 b n k:=W
 rw[e];show bQ W ?_;ext jy;ext:3
 .intro q;rw[ax q];show ia (by ext:6) W W
 .intro q;rw[aE (by rw[q];simp)];show cz (b8 (by ext:6) W W)
def zD{L:Int}{k:Nat}(g:0<=L)(i:L<b.ls.length)(f:(k)<b.n):VM L b.ls.length (look b L k)/\look b L k≠.below:=by
 let h:=Z.l1;let a:=Ei Z (L:=0) () f;let v:=Ei Z (L:=L.toNat) () f;let e:A5 b 0 k≠.below:=λz=>by rw[z]at a;show a W
 rw[Ja g]at v;ext look;split
 .show#[?_,e]
  generalize A5 b 0 k=m at a e;cases m with |below=>show a7 W e|_=>show a
 .rename_i q;show#[v,λz=>?_];rw[z]at q;show q W
omit Z in
theorem Lz(ks:a8 Nat)(a:ks.length<=5)(c:a8 Nat×Nat):ai (cy v3 {bE 1 [0] (dB (ae 1)) (gN 0) bi (am pP (ae 0) (1/0))}) [-(chD c),-(.tuple (aM ks))]=.ok (ks.all λk=>decide (k∈c.1),[-(chD c),-(.tuple (aM ks))]):=by
 have e:eN (bN _ _ (am pP (ae 0) (1/0)) _ [CL,cL _] [])=.ok _:=Aj nd _ ks (by ext) rfl λk _=>by have e0:av (chD c) _=cL _:=gB;exact aZ (au rfl) (by ext:6) rfl rfl (zC _ _)
 exact b9 (fq (ar (bj (by ext:6) rfl e) aP) rfl (akO _ _)) rfl
def iZ(b:Bd)(a:I Nat):I (I Nat×Nat):=b.cs.filter λc=>a.all λk=>decide (k∈c.1)
def Hd(a:o.length<=5):cO [bD b,.tuple (aM o)]=.ok (.ow ((iZ b o).map chD)):=by let e2:av (bD b) _=G _:=ny;let e:=Z.c4;show bQ W (b8 (bj (cs:=[.tuple _]) (by rfl) W (uV chD chD _ b.cs () W (λc _=>Lz o a c) λc _ _=>au W)) W W)
def xK(a:I Nat):I Nat:=(p8 (a.map F!)).map Nn
omit Z in
theorem vZ(ks:a8 Nat):(xK ks).Perm ks:=by have h:=(gQ (ks.map F!)).map Nn;rw[i?]at h;exact h.trans (by rw[show(Nn∘F!)=id from funext λx=>rfl,IW])
omit Z in
theorem Rs(ks:a8 Nat):(p8 (ks.map F!)).map aS.int=aM (xK ks):=by unfold xK aM;rw[i?];refine rC λx a=>?_;obtain⟨n,_,rfl⟩:=gi.mp ((gQ _).mem_iff.mp a);rfl
omit Z in
theorem Da(ks:a8 Nat):(xK ks).Pairwise (·<=·):=by
 have h:∀l:a8 Int,l.Pairwise (·<=·)->(l.map Nn).Pairwise (·<=·):=λl h=>by rw[vp];exact h.imp λh=>by ext
 exact h _ (gl _)
omit Z in
theorem Pd(ks:a8 Nat):(xK ks).length=ks.length:=(vZ ks).length_eq
omit Z in
theorem aba{ks:a8 Nat}(h:ks.length<64):L9.jY [.tuple (aM ks)]=cL (.ow (aM (xK ks))):=by
 have e:aM ks=(ks.map F!).map aS.int:=by rw[i?];rfl
 show(match tQ _ with |some a=>if a.length<64 then cL _ else CL|none=>CL)=_
 rw[e,vS];dsimp only;rw[ax (by rw[dO];exact h),Rs]
def Y2(b:Bd)(a:I Nat):I Mn:=match b.cs.find? λc=>decide (c.1=xK a)with |some c=>.ab3 c.2::ey (a.length-1) .none|none=>a.map (A5 b 0)
omit Z in
omit Z in
theorem YH(n:Nat)(d:D):(ey n [d]).flatten=ey n d:=by induction n with|zero=>rfl|succ n a=>rw[K',C9,a];rfl
def UI{n:I Nat}(F:1<=n.length)(E:n.length<=5)(A:∀k∈n,(k)<b.n):ig [bD b,.tuple (aM n)]=.ok (.ow ((Y2 b n).map mD)):=by
 let e2:av (bD b) _=cL _:=ny;let e1:av (bD b) _=cL _:=jI;let C:=Z.l1;let v:=aba (ks:=n) ();show bQ W ?_;let rt:∀c:I Nat×Nat,(am b6 (bS {bK {pC _,am av (ae 2) (pC _)}}) (am fP (bS {pC _}) (am pX (cy cX {ae 1}) _))) [-(bD b),-(.tuple _),cL _]=.ok _:=λc=>by
  let i:av (chD c) _=cL _:=jI;let g:fP (.list [.tuple [.str "none"]]) (.int (((aM n).length:Int)-1))=cL (.ow (ey (n.length-1) {1,.str "none"})):=by rw[bI,show((n.length:Int)-1)=((n.length-1:Nat):Int)by ext];show(Mg () ()).trans (by rw[YH])
  let w:b6 (.list [mD (.ab3 c.2)]) (.list (ey (n.length-1) {1,.str "none"}))=cL (.ow ((Mn.ab3 c.2::ey (n.length-1) Mn.none).map mD)):=by show(if 1+(ey _ _).length<=1000000 then cL _ else CL)=_;rw[p!,ax (),l4,Jw];rfl
  show aZ (by ext:6) (aZ (by ext:6) (aZ (by ext:6) aU W W (Dm _ _)) W W g) W W w
 let f:∀(e:I _)(o:bb PV),(∀c,e.find? (λc=>decide (c.1=xK n))=cL c->sT (gN 2) (eJ (ai (am bx (cy ww {2/0}) (cy L9.jY {ae 1}))) (aY (am b6 (bS {bK {pC (.str "letter"),2/1}}) (am fP (bS {pC {1,(.str "none")}}) (am pX (cy cX {ae 1}) (~~~1))))) aX) (e.map chD) [-(bD b),-(.tuple (aM n)),o]=.ok (.rt (.ow ((Mn.ab3 c.2::ey (n.length-1) Mn.none).map mD))))/\(e.find? (λc=>decide (c.1=xK n))=CL->∃p,sT (gN 2) (eJ (ai (am bx (cy ww {2/0}) (cy L9.jY {ae 1}))) (aY (am b6 (bS {bK {pC (.str "letter"),2/1}}) (am fP (bS {pC {1,(.str "none")}}) (am pX (cy cX {ae 1}) (~~~1))))) aX) (e.map chD) [-(bD b),-(.tuple (aM n)),o]=.ok (.nx [-(bD b),-(.tuple (aM n)),p])):=by
  intro e
  induction e with|nil=>show λo=>#[λc h=>(by ext h),λ_=>#[o,W]]|cons c r z=>
   intro o;let B:av (chD c) (.int 0)=cL _:=gB
   let a:ai (am bx (cy ww {2/0}) (cy _ {ae 1})) [-(bD b),-(.tuple (aM n)),-(chD c)]=.ok _:=b9 (by ext:6) W
   rw[C3];by_cases h:c.1=xK n
   .rw[a4 h]at a⊢;show#[λG m=>?_,λm=>(by ext m)];ext m;show((gN 2 _ _).bind _)=_;show((eJ _ _ _ [cL _,cL _,cL _]).bind _)=_;rw[JD a,lU (rt c) W];rfl
   .rw[a5 h]at a⊢
    let u:sT (gN 2) (eJ (ai (am bx (cy ww {2/0}) (cy L9.jY {ae 1}))) (aY (am b6 (bS {bK {pC (.str "letter"),2/1}}) (am fP (bS {pC {1,(.str "none")}}) (am pX (cy cX {ae 1}) (~~~1))))) aX) ((c::r).map chD) [-(bD b),-(.tuple (aM n)),o]=sT (gN 2) (eJ (ai (am bx (cy ww {2/0}) (cy L9.jY {ae 1}))) (aY (am b6 (bS {bK {pC (.str "letter"),2/1}}) (am fP (bS {pC {1,(.str "none")}}) (am pX (cy cX {ae 1}) (~~~1))))) aX) (r.map chD) [-(bD b),-(.tuple (aM n)),-(chD c)]:=by show((gN 2 _ _).bind _)=_;show((eJ _ _ _ [cL _,cL _,cL _]).bind _)=_;rw[xH a];rfl
    rw[u];show z _
 let(y,j):=f b.cs CL;let t:dB (0/2) [-(bD b),-(.tuple (aM n)),CL]=.ok (b.cs.map chD,[-(bD b),-(.tuple (aM n)),CL]):=by ext:6
 ext Y2;cases q:b.cs.find? _ with |some c=>show .eq (Ad ((wy t).trans (y c q))) #[W]|none=>let(p,j):=j q;show .eq (dH ((wy t).trans j)) ?_;show b8 (bj (by ext:6) W ?_) W W;rw[i?];show Aj nd _ n () W λk l=>?_;let(d,i,g):=J1 Z (L:=0) () (A k l);let i:av _ (.int 0)=-(d):=i;show aZ (by ext:6) (au W) W W g
end
end STP
namespace STP
open PySem L2 L3
open L10
def rD(p:Nat×Mn):gY×SV:=(.inl (p.1),.fz (mD p.2))
def si(ac:Ac)(k:Nat)(o:bb Mn):Ac:=λj=>if j=k then o else ac j
def gv:si ac k o k=o:=by ext si;simp_all
def jK(h:j≠k):si ac k o j=ac j:=by ext si;rw[aE h]
def JE(ac):(og ac).Pairwise λp q=>p.1<q.1:=by show amE _ (λa g h p b q f=>?_) (KA);cases e:ac a with|none=>ext|some x=>cases i:ac g with |none=>ext|some y=>
   rw[e]at b;rw[i]at f;ext b
   injections;subst_vars
   show h
def wL(ac):((og ac).map (·.1)).Nodup:=by rw[Of,vp];show(JE ac).imp iF
def GF{l:I (Nat×Mn)}(h:(l.map (·.1)).Nodup):l.Nodup:=by rw[Of,vp]at h;show h.imp λh e=>h (by rw[e])
def u6{l:I _}(h:(l.map (·.1)).Nodup)(hm:∀p,p∈l↔p.1<5/\ac p.1=G p.2):l.Perm (og ac):=(List.perm_ext_iff_of_nodup (GF h) (GF (wL ac))).mpr λp=>(hm p).trans sD.symm
section
variable{Y:a8 (Nat×Mn)}(Z:Y.Perm (og ac))
include Z
theorem oh:p∈Y↔p.1<5/\ac p.1=G p.2:=Z.mem_iff.trans sD
theorem K5:(Y.map (·.1)).Nodup:=(Z.map _).nodup_iff.mpr (wL ac)
def Ju:Y.length<=5:=by rw[Z.length_eq];show AI ac
def rQ{k:Nat}(f:k<5):pY (Y.map rD) (.inl (k))=(ac k).map λa=>SV.fz (mD a):=by ext pY;cases q:(Y.map rD).find? _ with
 |none=>cases e:ac k with |none=>rfl|some a=>show a7 (a4 W) (List.find?_eq_none.mp q _ (gi.mpr #[(k,a),(oh Z).mpr #[f,e],W]))
 |some b=>
  let(p,i,0):=gi.mp (LA q);let h:=a6 (List.find?_some (p:=λb:gY×SV=>decide _) q);let g:p.1=k:=by let:=Sum.inl.inj h;ext
  rw[<-g,((oh Z).mp i).2];rfl
def Qz{k:Nat}(o:k<5):∃c:I _,oi (Y.map rD) (.inl (k)) (.fz (mD a))=c.map rD/\c.Perm (og (si ac k (G a))):=by
 ext oi;let i:∀p:Nat×Mn,((rD p).1=(.inl (k)))↔p.1=k:=λp=>#[λh=>by let:=Sum.inl.inj h;ext,λh=>by rw[<-h];rfl];split
 .rename_i h
  show#[Y.map λp=>if p.1=k then(k,a)else p,?_,u6 ?_ λp=>?_]
  .rw[i?,i?]
   show rC λp _=>?_;show(if(rD p).1=(.inl _)then((rD p).1,SV.fz _)else rD p)=rD (if p.1=k then(k,a)else p);by_cases e:p.1=k
   .rw[ax ((i p).mpr e),ax e,(i p).mpr e];rfl
   simp_all
  .rw[i?,rC λp _=>by
    show(if p.1=k then(k,a)else p).1=p.1;split
    .rename_i e;show e.symm
    .rfl]
   show K5 Z
  .let(w,l,j):=Bb.mp h
   let(n,v,0):=gi.mp l;rw[gi];constructor
   .rintro⟨r,u,rfl⟩
    split
    .show#[o,gv]
    .rename_i e;let:=(oh Z).mp u;show#[this.1,by rw[jK e];show this.2]
   .rintro⟨b,g⟩
    by_cases e:p.1=k
    .rw[e,gv]at g;show#[n,v,?_];rw[ax ((i n).mp (a6 j)),<-e,lp g]
    .rw[jK e]at g;show#[p,(oh Z).mpr #[b,g],by rw[aE e]]
 .rename_i h
  let z:=λp m e=>h (Bb.mpr #[_,gi.mpr #[p,m,W],a4 ((i p).mpr e)]);show#[Y++[(k,a)],by rw[mN];rfl,u6 ?_ λp=>?_]
  .rw[mN,B?];show#[K5 Z,r4.mpr #[vm,IF],λx t y q=>?_];let(p,f,0):=gi.mp t;rw[f?.mp q];show z p f
  .rw[m?,f?]
   constructor
   .rintro(f|rfl)
    .let:=(oh Z).mp f;show#[this.1,by rw[jK (z p f)];show this.2]
    .show#[o,gv]
   .rintro⟨f,b⟩
    by_cases e:p.1=k
    .rw[e,gv]at b;show .inr (by rw[<-e,lp b])
    .rw[jK e]at b;show .inl ((oh Z).mpr #[f,b])
def Nv{k:Nat}:∃c:I _,qH (Y.map rD) (.inl (k))=c.map rD/\c.Perm (og (si ac k CL)):=by
 show#[Y.filter λp=>decide (p.1≠k),?_,u6 ?_ λp=>?_]
 .ext qH;rw[List.filter_map];congr 1;show List.filter_congr λp _=>?_;show decide_eq_decide.mpr (not_congr ((λp=>#[λh=>by let:=Sum.inl.inj h;ext,λh=>by rw[<-h];rfl]) p))
 .show asd ((List.filter_sublist).map _) (K5 Z)
 .rw[n7,oh Z,decide_eq_true_eq]
  constructor
  .rintro⟨⟨b,a⟩,f⟩;show#[b,by rw[jK f];show a]
  .rintro⟨b,a⟩
   by_cases e:p.1=k
   .rw[e,gv]at a;simp_all
   .rw[jK e]at a;show#[#[b,a],e]
def akj:aQ C5 ((Y.map rD).map (·.1))=G (Y.map λp=>(p.1:Int)):=by
 clear Z
 induction Y with|nil=>rfl|cons p r a=>rw[l4,l4];ext aQ;rw[a];rfl
def Me:p8 (Y.map λp=>(p.1))=(og ac).map λp=>(p.1:Int):=by show pp ((gQ _).trans (Z.map _)) (gl _) ?_;rw[vp];show(JE ac).imp λh=>by ext
end
abbrev Sn:=I (Nat×Bool)
def qC(ac:Ac)(a:Mn):Bool:=decide (a∈(og ac).map (·.2))
def wN(ac:Ac):Mn->Sn |.ab3 c=>if qC ac (.ab3 c)=u then[]else[(c,u)]|_=>[]
def Tr(ac:Ac):Mn->Sn |.ab3 c=>if qC ac (.ab3 c)=u then[]else[(c,M)]|_=>[]
def i6(p:hq×Sn)(k:Nat)(a:Mn):hq×Sn:=({p.1 with ac:=si p.1.ac k (G a)},p.2++wN p.1.ac a)
def go(p:hq×Sn)(k:Nat):hq×Sn:=match p.1.ac k with |some a=>({p.1 with ac:=si p.1.ac k CL},p.2++Tr (si p.1.ac k CL) a)|none=>p
def n6(p:hq×Sn)(a:I (Nat×Mn)):hq×Sn:=a.foldl (λp q=>i6 p q.1 q.2) p
def mX(b:Bd)(a:I Nat):bb (Nat×Int)->I Mn |some (_,n)=>[.ac7 n]|none=>Y2 b a
def eG(b:Bd)(p:hq×Sn):hq×Sn:=match p.1.wt with |none=>p|some (a,_,w)=>n6 ({p.1 with wt:=CL},p.2) (a.zip (mX b a w))
def Jo:Wq->Nat->Bool |some (a,_,_),k=>decide (k∈a)|none,_=>M
def KN(b:Bd)(s:hq)(k:Nat):Bool:=match s.wt with |some (a,_,CL)=>decide (A7 s.ac s.oc=0)&&!(iZ b (a++[k])).isEmpty|_=>M
def xt(b:Bd)(p:hq×Sn)(k:Nat):hq×Sn:=match p.1.wt with |some (a,g,_)=>if(iZ b (a++[k])).map (·.1.length)=[(a++[k]).length]then eG b ({p.1 with wt:=G (a++[k],g,CL)},p.2)else({p.1 with wt:=G (a++[k],g,CL)},p.2)|none=>p
def l7(s:hq)(m:Mn):hq:=if(m.aiF||m.isO)=u then s else{s with oc:=CL}
def y3(b:Bd)(L:Int)(p:hq×Sn)(k:Nat):Mn->hq×Sn |.tap c n=>({p.1 with wt:=G ([k],0,G (c,n))},p.2)|.ab3 c=>if(decide (L=0)&&!(iZ b [k]).isEmpty)=u then({p.1 with wt:=G ([k],0,CL)},p.2)else i6 p k (.ab3 c)|.once n=>({(i6 p k .none).1 with oc:=G n},(i6 p k .none).2)|m=>i6 p k m
def Ku(b:Bd)(p:hq×Sn)(k:Nat):hq×Sn:=y3 b (A7 p.1.ac p.1.oc) (l7 p.1 (look b (A7 p.1.ac p.1.oc) k),p.2) k (look b (A7 p.1.ac p.1.oc) k)
def nX(b:Bd)(p:hq×Sn)(k:Nat):hq×Sn:=if((p.1.ac k).isSome||Jo p.1.wt k)=u then p else if KN b p.1 k=u then xt b p k else Ku b (eG b p) k
def cI(b:Bd)(p:hq×Sn)(k:Nat):hq×Sn:=match p.1.wt with |some (_,_,CL)=>eG b p|some (_,_,G (c,_))=>i6 ({p.1 with wt:=CL},p.2) k (.ab3 c)|none=>p
def xw(b:Bd)(p:hq×Sn)(k:Nat):hq×Sn:=go (if Jo p.1.wt k=u then cI b p k else p) k
def nG(b:Bd)(p:hq×Sn):hq×Sn:=match p.1.wt with |none=>p|some (a,g,w)=>if g+1=b.wt then eG b ({p.1 with wt:=G (a,g+1,w)},p.2)else({p.1 with wt:=G (a,g+1,w)},p.2)
def bT(b:Bd)(s:hq):qm->hq×Sn |.down k=>nX b (s,[]) k|.up k=>xw b (s,[]) k|.turn=>nG b (s,[])
def Qf(b:Bd)(s:hq):I (Str×SV):=[("bed",.fz (bD b)),("acts",.rf 1),("waiting",.fz (ui s.wt)),("once",.fz (Dl s.oc)),("sent",.rf 2)]
def nU(p:Nat×Bool):D:=.tuple [.str (me p.1),.str (if p.2=u then"down"else"up")]
def gr(b:Bd)(s:hq)(sn:Sn)(a:I (Nat×Mn))(J:cj):cj:=.obj "Hand" (Qf b s)::.dct (a.map rD)::.lst ((sn.map nU).map .fz)::J
def HS(b:Bd)(p:hq×Sn)(c:cj):Prop:=∃a J,a.Perm (og p.1.ac)/\c=gr b p.1 p.2 a J
section
def Wa:(Qf b s).lookup ("bed":Str)=-(bD b):=W
def QZ:(Qf b s).lookup ("acts":Str)=G (.rf 1):=W
def Pe:(Qf b s).lookup ("waiting":Str)=-(ui s.wt):=W
def QH:(Qf b s).lookup ("once":Str)=-(Dl s.oc):=W
def P0:(Qf b s).lookup ("sent":Str)=G (.rf 2):=W
def Y?(m:Str):Bool:=(m=="bed"||m=="acts"||m=="waiting"||m=="once"||m=="sent")==M
def Yq(h:Y? m=u):(Qf b s).lookup m=CL:=by unfold Y? at h;simp at h;let((((i,g),f),e),a):=h;ext Qf;simp_all
def wX(h:o[i]?=G (G (.rf 0))):bw "Hand" "bed" (ap i) o (gr b s sn C J)=.ok (.fz (bD b)) (gr b s sn C J):=dr (aA h) W Wa
def kh(h:o[i]?=G (G (.rf 0))):bw "Hand" "acts" (ap i) o (gr b s sn C J)=.ok (.rf 1) (gr b s sn C J):=dr (aA h) W QZ
def eR(h:o[i]?=G (G (.rf 0))):bw "Hand" "waiting" (ap i) o (gr b s sn C J)=.ok (.fz (ui s.wt)) (gr b s sn C J):=dr (aA h) W Pe
def Fc(h:o[i]?=G (G (.rf 0))):bw "Hand" "once" (ap i) o (gr b s sn C J)=.ok (.fz (Dl s.oc)) (gr b s sn C J):=dr (aA h) W QH
def y0(h:o[i]?=G (G (.rf 0))):bw "Hand" "sent" (ap i) o (gr b s sn C J)=.ok (.rf 2) (gr b s sn C J):=dr (aA h) W P0
def oK(w)(h:o[i]?=G (G (.rf 0)))(a:fe o C=.ok (.fz (ui w)) (gr b s sn U J)):dW "Hand" "waiting" (ap i) fe o C=.ok (.nx o) (gr b {s with wt:=w} sn U J):=(eh a (aA h) W (nE W)).trans (W)
def Fs(o)(h:C[i]?=G (G (.rf 0)))(a:fe C U=.ok (.fz (Dl o)) (gr b s sn ps J)):dW "Hand" "once" (ap i) fe C U=.ok (.nx C) (gr b {s with oc:=o} sn ps J):=(eh a (aA h) W (nE W)).trans (W)
def cg(a:HS b p o)(hm:Y? m=u)(h:ρ[i]?=G (G (.rf 0)))(d:fa ρ o=.ok xs o)(c:(SV.rf 0::xs).length=n)(e:F (.rf 0::xs) o=.ok x C):aB "Hand" m F n (ap i) fa ρ o=.ok x C:=by let(g,J,f,0):=a;show cN (aA h) W (Yq hm) d c e
def NY(a:I _):(a.map rD).map (·.2)=((a.map (·.2)).map mD).map SV.fz:=by rw[i?,i?,i?];rfl
def AK(ac:Ac):Prop:=∀k a,ac k=G a->k<5/\LB a
def ND(f:HS b p o)(g:AK p.1.ac)(d:LB a):∃c,dG [.rf 0,.fz (mD a)] o=.ok (.fz (.bool (qC p.1.ac a))) c/\HS b p c:=by
 let(i,J,e,0):=f;let e1:qC _ a=decide _:=decide_eq_decide.mpr (e.map _).symm.mem_iff;let lb:∀m∈i.map (·.2),LB m:=λm hm=>by let(q,h,0):=gi.mp hm;show(g _ _ ((oh e).mp h).2).2
 show#[gr b p.1 p.2 i (J++[.lst ((i.map rD).map (·.2))]),?_,i,_,e,W];rw[e1];show ij W (fV (dI (ah (au W)) (PU (kh W) W) (Eb W (jL (by rw[NY];show aO)) (Pv d lb))))
def GI(e:sn.length<1000)(h:C[i]?=G (G (.rf 0)))(a:U C (gr b s sn o J)=.ok (.fz (nU (c,d))) (gr b s sn o J)):xB (bw "Hand" "sent" (ap i)) U C (gr b s sn o J)=.ok (.fz .none) (gr b s (sn++[(c,d)]) o J):=(DC (y0 h) W a W (by rw[dO,dO];ext)).trans (by ext gr;rw[mN,mN];rfl)
def wx(e:o.Perm (og s.ac))(g:k<5)(m:ρ[0]?=G (G (.rf 0)))(l:ρ[1]?=G (-(nd k)))(j:ρ[2]?=G (-(mD a))):∃c,c.Perm (og (si s.ac k (G a)))/\yP (bw "Hand" "acts" (ap 0)) (!1) (!2) ρ (gr b s sn o J)=.ok (.nx ρ) (gr b {s with ac:=si s.ac k (G a)} sn c J):=by let(c,i,h):=Qz e g;let f:ae 2 (dX ρ)=.ok _:=au (by ext dX;rw[iD,j];rfl);show#[c,h,(Po (ah f) (kh m) (ah (au (by ext dX;rw[iD,l];rfl))) W W (by rw[dO];let:=Ju e;ext)).trans ?_];rw[i];rfl
def uF(m:HS b p C)(v:AK p.1.ac)(s:LB a)(n:k<5)(u:p.2.length<1000):∃d,bV [.rf 0,.fz (nd k),.fz (mD a)] C=.ok (.fz .none) d/\HS b (i6 p k a) d:=by let e0:=wK a;let e1:=mx a;cases q:a.isL with
 |false=>
  let(A,J,h,0):=m;rw[q]at e1;let(f,i,w):=wx (ρ:=[G _,G _,G _]) h n W W W;show#[_,lR W (aD (a9 (ku (by ext:1)) bv) w),f,J,i,?_];let:wN p.1.ac a=[]:=by ext a<;>first|rfl|ext q
  ext i6;simp_all|true=>
  rw[q]at e1;let(j,i,l):=ND m v s;let g:∀t,qC _ a=t->(qE (bG (ai (am bx (am av (ae 2) (pC _)) (pC _)))) (ug (bf (aB _ "has_act" _ 2 (ap 0) {0,!2})))) [G _,-(nd k),-(_)] C=.ok _ j:=λt e=>by rw[e]at i;show mj (by ext:1) (pK (bp (cg m (W) W (by ext:1) W i)))
  let(A,J,h,0):=l;cases z:qC _ a with
  |true=>
   let(f,r,o):=wx (ρ:=[G _,G _,G _]) h n W W W;show#[_,lR W (aD (a9 (g Ld z) bv) o),f,J,r,?_];let:wN p.1.ac a=[]:=by
    ext a<;>first|ext q|skip
    show(if qC _ _=Ld then _ else _)=_;simp_all
   ext i6;simp_all|false=>
   ext a<;>first|ext q|skip
   rename_i c;let(f,r,o):=wx (ρ:=[G _,G _,G _]) (sn:=p.2++[(c,Ld)]) h n W W W;let y:av (mD (.ab3 c)) _=G _:=jI;show#[_,lR W (aD (gA (g _ z) (lP (GI u W (ah (show _=d7.ok (PV.fz (.tuple _),_)by ext:6))))) o),f,J,r,?_];let:wN p.1.ac (.ab3 c)=[(c,Ld)]:=by show(if qC _ _=Ld then _ else _)=_;simp_all
   ext i6;rw[this]
end
end STP
local macro_rules|`(tactic|ext:1)=>HX "STP.wX YR,STP.kh YR,STP.eR YR,STP.Fc YR,STP.y0 YR"
namespace STP
open PySem L2 L3 L10
def VA(a:Int):Mn->Prop|.ab3 c=>c<26|.ac7 n=>1<=n/\n<a|.none=>True|_=>False
def VA.lb(h:VA nL m):LB m:=by cases m with|ab3 c=>show h|tap c n=>show h.elim|_=>trivial
structure SA(b:Bd)(s:hq):Prop where
 ac:∀k a,s.ac k=G a->(k)<b.n/\VA b.ls.length a
 oc:∀o,s.oc=G o->1<=o/\o<b.ls.length
structure WV(b:Bd)(ac:Ac)(ks:I Nat)(g:Int)(w:bb (Nat×Int)):Prop where
 ne:ks≠[]nd:ks.Nodup
 kn:∀k∈ks,(k)<b.n
 kf:∀k∈ks,ac k=CL
 g0:0<=g
 tp:∀c n,w=G (c,n)->c<26/\(1<=n/\n<b.ls.length)/\ks.length=1
 ch:w=CL->∀k∈ks,yD (b.ls.headD []) k=u
structure SW(b)(s):Prop where
 sa:SA b s
 wt:∀ks g w,s.wt=G (ks,g,w)->WV b s.ac ks g w/\g<b.wt
def DU{b:I Nat}(hd:b.Nodup)(h:∀k∈b,k<n):b.length<=n:=by rw[<-Pd b];show An (((Da b).and ((vZ b).nodup_iff.mpr hd)).imp λh=>by ext) λk a=>h k ((vZ b).mem_iff.mp a)
section
variable(Z:VB b){p:hq×Sn}{Y:a8 Nat}{g:Int}{w:bb (Nat×Int)}{k:Nat}
include Z
theorem WV.len(h:WV b ac Y g w):Y.length<=5:=DU h.nd λk a=>by let:=h.kn k a;let:=Z.n5;ext
omit Z in
theorem WV.aqP(h:WV b ac Y g w):1<=Y.length:=List.length_pos_iff.mpr h.ne
theorem SA.ak(h:SA b s):AK s.ac:=λk a e=>by let:=h.ac k a e;let:=Z.n5;show#[by ext,(h.ac k a e).2.lb]
omit Z in
theorem SA.cm(h:SA b p.1)(f:(k:Int)<b.n)(ha:VA b.ls.length a):SA b (i6 p k a).1:=by
 refine⟨λj x e=>?_,h.oc⟩;by_cases z:j=k
 .subst z;have i:cL a=cL x:=(gv (ac:=p.1.ac) (k:=j) (o:=cL a)).symm.trans e;cases i;exact⟨f,ha⟩
 .exact h.ac j x ((jK z).symm.trans e)
omit Z in
theorem SA.gg(h:SA b p.1):SA b (go p k).1:=by
 unfold go;split
 .refine⟨λj x e=>?_,h.oc⟩
  by_cases z:j=k
  .subst z;exact a7 ((gv (ac:=p.1.ac) (k:=j) (o:=CL)).symm.trans e) ()
  .exact h.ac j x ((jK z).symm.trans e)
 .exact h
omit Z in
theorem sE:(i6 p k a).2.length<=p.2.length+1:=by
 show(p.2++wN p.1.ac a).length<=_;rw[jl];have:(wN p.1.ac a).length<=1:=by cases a with |ab3 c=>show(if _ then _ else _:Sn).length<=1;split<;>simp|_=>simp[wN]
 ext
omit Z in
theorem ajH(e:a8 (Nat×Mn)):∀p:hq×Sn,(n6 p e).2.length<=p.2.length+e.length:=by induction e with |nil=>exact λp=>dc _|cons q r f=>intro p;have i:=f (i6 p q.1 q.2);have h:=sE (p:=p) (k:=q.1) (a:=q.2);show(n6 (i6 p q.1 q.2) r).2.length<=_;rw[j_];ext
omit Z in
theorem SA.cms(a:a8 (Nat×Mn)):∀{p:hq×Sn},SA b p.1->(∀q∈a,(q.1:Int)<b.n/\VA b.ls.length q.2)->SA b (n6 p a).1/\(n6 p a).1.wt=p.1.wt/\(n6 p a).1.oc=p.1.oc:=by induction a with |nil=>exact λh _=>⟨h,rfl,rfl⟩|cons q r i=>intro p h e;have f:=e q eQ;exact i (h.cm f.1 f.2) λx j=>e x (h_ _ j)
def V2(h:yD (b.ls.headD []) k=u):∃c,A5 b 0 k=.ab3 c:=by
 let f:=Z.l1;obtain⟨a,r,e⟩:∃a r,b.ls=a::r:=by cases q:b.ls with|nil=>ext|cons l r=>show#[l,r,W]
 unfold yD at h;ext A5;rw[e]at h⊢;simp only[ahE,Option.getD_some];simp only[J7]at h;cases q:a[k]? with|none=>ext|some m=>rw[q]at h;cases m with|ab3 c=>show#[c,W]|_=>contradiction
def RY(a:(k)<b.n)(h:yD (b.ls.headD []) k=u):VA b.ls.length (A5 b 0 k):=by let f:=Z.l1;let(c,e):=V2 Z h;let:=Ei Z (L:=0) () a;rw[e]at this⊢;show this
def Xv(h:WV b ac Y g CL):∀m∈Y2 b Y,VA b.ls.length m:=by
 intro m hm;unfold Y2 at hm;split at hm
 .rename_i c e
  rcases hX.mp hm with rfl|hm
  .show(Z.vc c (LA e)).2.2.2
  .rw[(Jq.mp hm).2];trivial
 .let(j,a,0):=gi.mp hm;show RY Z (h.kn j a) (h.ch W j a)
def Ag(h:WV b ac Y g w):∀q∈Y.zip (mX b Y w),(q.1)<b.n/\VA b.ls.length q.2:=by intro q e;let a:=H_ e;show#[h.kn _ a.1,?_];cases w with|none=>show Xv Z h _ a.2|some f=>let(c,n):=f;rw[f?.mp a.2];show(h.tp c n W).2.1
def WD(b:Bd)(s:hq):Prop:=∀Y g w,s.wt=G (Y,g,w)->WV b s.ac Y g w
def iH(h:SA b p.1)(a:WD b p.1):SW b (eG b p).1/\(eG b p).1.wt=CL/\(eG b p).2.length<=p.2.length+5/\(eG b p).1.oc=p.1.oc:=by
 ext eG;split
 .rename_i q;show#[#[h,λY g w e=>by simp_all],q,Ic _ _,W]
 .rename_i Y g w q
  let v:=a Y g w q;let(j,i,f):=SA.cms _ (p:=({p.1 with wt:=CL},p.2)) #[h.ac,h.oc] (Ag Z v);show#[#[j,λ_ _ _ e=>?_],i,?_,f]
  .simp_all
  .let:=ajH (Y.zip (mX b Y w)) ({p.1 with wt:=CL},p.2)
   let l:=v.len Z
   grind
omit Z in
theorem Fw:∀(l:a8 Int)(m:bb Int),l.foldl qY m=m\/∃x∈l,l.foldl qY m=cL x
 |[],m=>.inl rfl|x::r,m=>by
  rw[H8];rcases Fw r (qY m x)with h|⟨y,hy,h⟩
  .rw[h]
   cases m with |none=>exact .inr ⟨x,eQ,rfl⟩|some z=>
    show cL (if x>z then x else z)=cL z\/_;split
    .exact .inr ⟨x,eQ,by show cL (if x>z then x else z)=_;rename_i q;rw[ax q]⟩
    .exact .inl rfl
  .exact .inr ⟨y,h_ _ hy,h⟩
omit Z in
theorem F7:∀(l:a8 Int)(m:bb Int),(∀x∈l,∃y,l.foldl qY m=cL y/\x<=y)/\∀z,m=cL z->∃y,l.foldl qY m=cL y/\z<=y
 |[],m=>⟨λx e=>(by cases e),λz h=>⟨z,h,G' _⟩⟩|x::r,m=>by
  rw[H8];obtain⟨n,j⟩:=F7 r (qY m x);have i:∃z,qY m x=cL z/\x<=z/\∀u,m=cL u->u<=z:=by cases m with |none=>exact⟨x,rfl,G' _,λu h=>by cases h⟩|some u=>
    refine⟨if x>u then x else u,rfl,?_,λv h=>?_⟩
    .split<;>ext
    .cases h;split<;>ext
  obtain⟨z,e1,e2,e3⟩:=i;obtain⟨y,e4,e5⟩:=j z e1;refine⟨λv a=>?_,λu f=>⟨y,e4,by have:=e3 u f;ext⟩⟩;rcases hX.mp a with rfl|a
  .exact⟨y,e4,by ext⟩
  .exact n v a
omit Z in
theorem Fm{ac:Ac}{n:Int}:n∈(og ac).filterMap Yd↔∃k,k<5/\ac k=cL (.ac7 n):=by
 rw[J!];constructor
 .rintro⟨⟨k,m⟩,e,a⟩
  have f:=sD.mp e;cases m with |ac7 x=>have:x=n:=lp a;subst this;exact⟨k,f.1,f.2⟩|_=>contradiction
 .rintro⟨k,e,a⟩;exact⟨(k,.ac7 n),sD.mpr ⟨e,a⟩,rfl⟩
def P4(h:SA b s):0<=D6 s.ac/\D6 s.ac<b.ls.length/\(∀k n,s.ac k=G (.ac7 n)->n<=D6 s.ac)/\(D6 s.ac=0\/∃k,s.ac k=G (.ac7 (D6 s.ac))):=by let i:=Z.l1;let j:=Z.n5;ext D6;generalize hm:((og s.ac).filterMap Yd).foldl qY CL=m;let f:=(F7 ((og s.ac).filterMap Yd) CL).1;let a:=Fw ((og s.ac).filterMap Yd) CL;rw[hm]at f a;let up:∀k n,s.ac k=G _->∃y,m=G y/\n<=y:=λk n e=>f n (Fm.mpr #[k,by let:=(h.ac k _ e).1;ext,e]);cases m with|none=>show#[G' _,by show(0)<_;ext,λk n e=>?_,.inl W];let(y,e2,_):=up k n e;simp_all|some x=>
  rcases a with a|⟨y,o,a⟩
  .simp_all
  .ext a;let(k,_,e):=Fm.mp o;let:=(h.ac k _ e).2;let:1<=x/\x<b.ls.length:=this;show#[by show 0<=x;ext,by simp_all,λk n e=>?_,.inr #[k,e]];let(y,e2,l):=up k n e;simp_all
def Dg(h:SA b s):0<=A7 s.ac s.oc/\A7 s.ac s.oc<b.ls.length:=by cases q:s.oc with|none=>let:=P4 Z h;show#[this.1,this.2.1]|some o=>let:=h.oc o q;show#[by show 0<=o;ext,this.2]
end
section
def aeb(h:f x=G y):aQ f [x]=G [y]:=by ext aQ;rw[h];rfl
def rF:(l++[c]).set l.length o=l++[o]:=by simp
def tN(e:HS b p C):∃c,dw [.rf 0] C=.ok (.fz (kQ p.1)) c/\HS b p c:=by
 let(j,J,a,0):=e;let g:=Ju a;let h:jA (yz (bw "Hand" "acts" (ap 0))) [G (.rf 0)] (gr b p.1 p.2 j J)=.ok ((og p.1.ac).map λq=>nd q.1) (gr b p.1 p.2 j (J++[.dead])):=by
  show(qD (ds:=(og p.1.ac).map λq=>nd q.1) (Qh (kh W) W (akj a) (by rw[dO];ext)) ?_).trans ?_
  .rw[Me a];show aO.trans ?_;rw[i?,i?];rfl
  .rw[rF];rfl
 let i:gq (d4 0) nY (tK {0,!0,yt (bw "Hand" "acts" (ap 1)) (!0)}) ((og p.1.ac).map λq=>nd q.1) [CL,G (.rf 0)] (gr b p.1 p.2 j (J++[.dead])) []=.ok (((og p.1.ac).map pD).map .fz) (gr b p.1 p.2 j (J++[.dead])):=by show(sY _ _ _ (λl=>∃o,l=[o,G _]) _ _ [] #[_,W] (by let:=AI p.1.ac;grind) ?_).trans (by rw[i?];rfl);rintro q f l ⟨o,rfl⟩;let hm:=sD.mp f;show#[_,W,W,(Ap (aq (ah (au W)) (aq (Qm (kh W) (ah (au W)) W W (by rw[rQ a hm.1,hm.2];rfl)) aV)) (nE W)),_,W]
 let tp:Wk iW {0,jO 1 [0] _ _ _ _} _ _=.ok _ _:=TW (aq (sQ h i) aV) (aeb (jL aO)) W
 show#[_,ij W (fV (Ap (aq tp (aq (eR W) (aq (Fc W) aV))) (nE W))),j,_,a,W]
def MX(a:HS b p o):cU [.rf 0,.fz (nd k)] o=.ok (.fz (.bool (Jo p.1.wt k))) o:=by let(f,J,e,0):=a;show ij W (fV ?_);cases q:p.1.wt with |none=>show ajb (bp (dI (eR W) (ah aU) (cR (by rw[q];rfl))))|some x=>
  let e1:pR (ui p.1.wt) .none=-(.bool u):=by rw[q];rfl
  show akJ (by ext:1) (dI (ah (au W)) (iu (eR W) (ah aU) (by rw[q];rfl)) (cR (zC _ _)))
def aau(E:HS b p U)(o:AK p.1.ac)(D:p.1.ac k=cL a)(F:p.2.length<1000):∃s,pd [.rf 0,.fz (nd k)] U=.ok (.fz .none) s/\HS b (go p k) s:=by
 let(N,J,B,0):=E;let lb:=(o k a D).2;let(f,H,v):=Nv B
 let l:x9 (bw _ _ (ap 0)) (!1) [cL _,-(nd k),CL] (gr b p.1 p.2 N J)=.ok _ (gr b _ p.2 f J):=(RM (kh W) W (ah (au W)) W W (by rw[rQ B ((o k a D).1),D];rfl)).trans (by rw[H];rfl)
 let G:go p k=({p.1 with ac:=si p.1.ac k CL},p.2++Tr (si p.1.ac k CL) a):=by ext go;rw[D]
 rw[G];let n:AK (si _ k CL):=λj x e=>by
  by_cases z:j=k
  .subst z;rw[gv]at e;ext e
  .rw[jK z]at e;show o j x e
 let e0:=wK a;let e1:=mx a;let i:ai (am bx (2/0) (~~~"letter")) (dX [cL (.rf 0),-(nd k),-(mD a)])=.ok (a.isL,dX [cL (.rf 0),-(nd k),-(mD a)]):=by ext:6
 let u:iv (bP (qE (bG (ai (am bx (2/0) (~~~"letter")))) (ug (bf (aB "Hand" "has_act" dG 2 (ap 0) {0,!2})))) (cJ (xB (bw "Hand" "sent" (ap 0)) (af (bK {2/1,pC (.str "up")})))) bJ [cL (.rf 0),-(nd k),-(mD a)] (gr b {p.1 with ac:=si p.1.ac k CL} p.2 f J)) (λ_ s=>SV.fz .none=.fz .none/\HS b ({p.1 with ac:=si p.1.ac k CL},p.2++Tr (si p.1.ac k CL) a) s) (λ_ _=>False) (λr s=>r=.fz .none/\HS b ({p.1 with ac:=si p.1.ac k CL},p.2++Tr (si p.1.ac k CL) a) s):=by cases q:a.isL with
  |false=>
   rw[q]at i;show fW (ku (cA i)) (pF #[W,f,J,v,?_]);let:Tr (si p.1.ac k CL) a=[]:=by ext a<;>first|rfl|ext q
   simp_all|true=>
   rw[q]at i;let(h,t,m):=ND (p:=({p.1 with ac:=si _ k CL},p.2)) #[f,J,v,W] n lb;let g:∀w,qC (si _ k CL) a=w->(qE _ (ug (bf (aB _ "has_act" _ 2 (ap 0) {0,!2})))) _ (gr b {p.1 with ac:=si _ k CL} p.2 f J)=.ok _ h:=λw e=>by
    let t:dG [.rf 0,.fz (mD a)] (gr b {p.1 with ac:=si p.1.ac k CL} p.2 f J)=.ok (.fz (.bool w)) h:=by rw[<-e];show t
    show mj (cA i) (pK (bp (cg (p:=({p.1 with ac:=si _ k CL},p.2)) #[f,J,v,W] (W) W (by ext:1) W t)))
   let(y,C,A,e2):=m;rw[e2]at g;cases L:qC _ a with
   |true=>
    show fW (g Ld L) (pF #[W,y,C,A,?_]);let:Tr (si p.1.ac k CL) a=[]:=by
     ext a<;>first|ext q|skip
     show(if qC _ _=Ld then _ else _)=_;rw[ax L]
    simp_all|false=>
    ext a<;>first|ext q|skip
    rename_i c;let I:av (mD (.ab3 c)) _=cL _:=jI;show vV (g _ L) (lH (GI (d:=M) F W (ah (show _=d7.ok (PV.fz (.tuple _),_)by ext:6))) #[W,y,C,A,?_]);let:Tr (si p.1.ac k CL) (.ab3 c)=[(c,M)]:=by show(if qC _ _=Ld then _ else _)=_;simp_all
    rw[this]
 show lS W (nF l W u)
end
section
variable(Z:VB b){k:Nat}
theorem MC:∀(c)(as),vd (aM c) (as.map mD)=(c.zip as).map pD|[],_|_::_,[]=>rfl|k::r,a::t=>by show aS.tuple _::vd (aM r) _=_;rw[MC r t];rfl
def Dt(h:∀c n,w=G (c,n)->c<26):bx (zY w) {1,.str "chord"}=-(.bool w.isNone)/\fO (zY w) {1,.str "chord"}=-(.bool w.isSome):=by cases w with
 |none=>
  let e:lj {1,.str "chord"}=u:=by left
  let a:aS.canLay0 {1,.str "chord"}=u:=by left
  constructor
  .show(if(lj (.tuple _)&&aS.canLay0 _)=u then G _ else CL)=_;rw[e,a];rfl
  .show(if(lj (.tuple _)&&aS.canLay0 _)=u then G _ else CL)=_;rw[e,a];rfl|some f=>
  let(c,n):=f;let lb:LB (.tap c n):=h c n W;constructor
  .show(if(lj (mD (.tap c n))&&aS.canLay0 _)=u then G _ else CL)=_;rw[Nu lb,show aS.canLay0 _=u by left];rfl
  .show(if(lj (mD (.tap c n))&&aS.canLay0 _)=u then G _ else CL)=_;rw[Nu lb,show aS.canLay0 _=u by left];rfl
theorem B5(v:I Nat)(w:bb (Nat×Int))(as:I Mn):∀(g:I (Nat×Mn))(p:hq×Sn)(d:cj)(i A:bb SV),HS b p d->AK p.1.ac->(∀q∈g,q.1<5/\LB q.2)->p.2.length+g.length<1000->∃s c,qB (IP 2 (kT (d4 4) (kT (d4 5) uq))) (cJ (aB "Hand" "come" bV 3 (ap 0) {0,!4,!5})) (g.map pD) [G (.rf 0),-(.tuple (aM v)),-(zY w),-(.list (as.map mD)),i,A] d=.ok (.nx s) c/\HS b (n6 p g) c
 |[],p,d,i,A,y,_,_,_=>#[_,d,W,y]|q::r,p,d,i,A,y,C,B,E=>by
  rw[j_]at E;let h:=B q eQ;let(f,e1,m):=uF y C h.2 h.1 ();let n:AK (i6 p q.1 q.2).1.ac:=λj x e=>by
   by_cases z:j=q.1
   .let u:G q.2=G x:=by rw[z]at e;show(gv).symm.trans e
    ext u;show#[by rw[z];show h.1,h.2]
   .show C j x ((jK z).symm.trans e)
  let:=sE (p:=p) (k:=q.1) (a:=q.2);let(s,c,e2,l):=B5 v w as r (i6 p q.1 q.2) f (-(nd q.1)) (-(mD q.2)) m n (λx t=>B x (h_ _ t)) ();show#[s,c,?_,l]
  let o:cJ (aB "Hand" "come" bV 3 (ap 0) {0,!4,!5}) [G (.rf 0),-(.tuple (aM v)),-(zY w),-(.list (as.map mD)),-(nd q.1),-(mD q.2)] d=.ok (.nx [G (.rf 0),-(.tuple (aM v)),-(zY w),-(.list (as.map mD)),-(nd q.1),-(mD q.2)]) f:=lP (cg y (by left) W (aq (ah (au W)) (aq (ah (au W)) aV)) W e1)
  show((cJ (aB "Hand" "come" bV 3 (ap 0) {0,!4,!5}) [G (.rf 0),-(.tuple (aM v)),-(zY w),-(.list (as.map mD)),-(nd q.1),-(mD q.2)] d).bind _)=_;rw[o,d5];show e2
include Z
def pz(t:HS b p ω)(m:SA b p.1)(f:p.1.wt=cL (U,g,w))(v:WV b p.1.ac U g w)(H:p.2.length<900):∃d,dU [.rf 0] ω=.ok (.fz .none) d/\HS b (eG b p) d:=by
 let(L,J,y,0):=t;let e0:av (ui p.1.wt) (.int 0)=-(.tuple (aM U)):=by rw[f];show gB
 let e2:av (ui p.1.wt) (.int 2)=-(zY w):=by rw[f];show ny
 let o:=v.len Z;let r:=v.aqP;let C:=Dt λc n h=>(v.tp c n h).1;let B:eG b p=n6 ({p.1 with wt:=CL},p.2) (U.zip (mX b U w)):=by ext eG;rw[f]
 rw[B];let l:ai (am bx (ae 2) (pC {1,.str "chord"})) (dX [cL (.rf 0),-(.tuple (aM U)),-(zY w),CL,CL,CL])=.ok (w.isNone,dX [cL (.rf 0),-(.tuple (aM U)),-(zY w),CL,CL,CL]):=b9 (aZ (au W) aU W W C.1) W;let j:wM (Tb (bG (ai (am bx (ae 2) (pC {1,(.str "chord")})))) (gn ig 2 {0,bw "Hand" "bed" (ap 0),!1}) (af (bS {bK {pC (.str "layer"),2/2}}))) [cL (.rf 0),-(.tuple (aM U)),-(zY w),CL,CL,CL] (gr b {p.1 with wt:=CL} p.2 L J)=.ok (.fz (.list ((mX b U w).map mD))) (gr b {p.1 with wt:=CL} p.2 L (J++[.dead])):=by cases w with |none=>let F:=UI Z r o v.kn;show(Ep (Q6 (cA l) (AR (aq (wX W) (aq (ah (au W)) aV)) W F)) (uY aO)).trans (by rw[rF];rfl)|some E=>let(c,n):=E;let G:av (zY (cL (c,n))) (.int 2)=-(.int n):=ny;show(Ep (OS (cA l) (c9 (show _=d7.ok (PV.ow [.tuple [.str "layer",.int n]],_)by ext:6))) (uY aO)).trans (by rw[rF];rfl)
 let e:∃a d,vK (nZ (ET {ae 1,ae 3})) (IP 2 (kT (d4 4) (kT (d4 5) uq))) (cJ (aB "Hand" "come" bV 3 (ap 0) {0,!4,!5})) [cL (.rf 0),-(.tuple (aM U)),-(zY w),-(.list ((mX b U w).map mD)),CL,CL] (gr b {p.1 with wt:=CL} p.2 L (J++[.dead]))=.ok (.nx a) d/\HS b (n6 ({p.1 with wt:=CL},p.2) (U.zip (mX b U w))) d:=by
  let I:=Z.n5;let(a,d,A,z):=B5 U w (mX b U w) (U.zip (mX b U w)) ({p.1 with wt:=CL},p.2) (gr b {p.1 with wt:=CL} p.2 L (J++[.dead])) CL CL #[L,_,y,W] (SA.ak Z #[m.ac,m.oc]) (λq u=>by let:=Ag Z v q u;show#[by ext,this.2.lb]) (by rw[List.length_zip];show p.2.length+_<1000;ext)
  show#[a,d,?_,z];ext vK;rw[v5 (GH (ar (au W) (ar (au W) aP)) W W W),d5,MC];show A
 let(a,d,e,i):=e;show#[d,lR (ρ1:=a) W ?_,i];show aD (cF (iu (eR W) (ah aU) e0) W) (aD (cF (iu (eR W) (ah aU) e2) W) (aD (oK CL W (ah aU)) (aD (cF j W) e)))
omit Z in
theorem Qy{c:a8 Nat×Nat}(h:c.2<26):aS.canLay0 (chD c)=Ld:=by show(aS.canLayAll0 (aM c.1)&&(aS.strOk (me c.2)&&Ld))=Ld;rw[gG,EH h];rfl
omit Z in
theorem Xj:∀{cs:a8 (a8 Nat×Nat)},(∀c∈cs,c.2<26)->fO (.list (cs.map chD)) (.list [])=-(.bool (!cs.isEmpty)):=by
 intro cs h;have f:∀cs:a8 _,(∀c∈cs,c.2<26)->aS.canLayAll0 (cs.map chD)=Ld:=by
  intro cs
  induction cs with|nil=>exact λ_=>rfl|cons c r a=>intro h;show(aS.canLay0 _&&aS.canLayAll0 _)=Ld;rw[Qy (h c eQ),a λx g=>h x (h_ _ g)];rfl
 have e:∀cs:a8 _,aS.depthAll (cs.map chD)<=2:=by
  intro cs
  induction cs with |nil=>exact mT _|cons c r a=>refine Nat.max_le.mpr ⟨?_,a⟩;show max (aS.depthAll _+1) (max 0 0)+1<=2;rw[uS];decide
 show(if((aS.canLayAll0 _&&decide (aS.depthAll _+1<=64))&&Ld)=Ld then cL _ else CL)=_;rw[f cs h,a4 (by have:=e cs;ext)];cases cs<;>rfl
theorem Pp(h:c∈iZ b o):c.2<26:=(Z.vc c (n7.mp h).1).2.2.2
omit Z in
theorem GN(h:ks≠[])(a:ks.length<=5):b6 (.tuple (aM ks)) {1,nd k}=-(.tuple (aM (ks++[k]))):=by
 show(if aM ks≠[]/\(aM ks).length+1<=1000000 then cL _ else CL)=_;rw[ax ⟨by cases ks with |nil=>exact a7 rfl h|cons x r=>simp[aM],by rw[bI];ext⟩,PL]
 rfl
def Hr(a:∃d J,ω1=gr b s sn d J)(h:C[0]?=G (G (.rf 0)))(e:o.length<=5)(f:U C ω1=.ok (.fz (.tuple (aM o))) ω1):iQ fO (gn cO 2 {0,bw "Hand" "bed" (ap 0),U}) (af (bS ag)) C ω1=.ok (.fz (.bool (!(iZ b o).isEmpty))) (ω1++[.lst (((iZ b o).map chD).map .fz)]++[.lst []]):=by let(d,J,0):=a;show dI (AR (ds:=[bD b,.tuple _]) (aq (wX h) (aq f aV)) W (Hd Z e)) (c9 (oA aP W (mT _))) ?_;show Eb (jL (jw aO)) (jL aO) (Xj λc g=>Pp Z g)
def V6(m:HS b p U)(B:SW b p.1)(I:(k)<b.n)(s:Jo p.1.wt k=fg):∃d,eP [.rf 0,.fz (nd k)] U=.ok (.fz (.bool (KN b p.1 k))) d/\HS b p d:=by cases q:p.1.wt with
 |none=>
  let o:KN b p.1 k=fg:=by ext KN;rw[q]
  rw[o];let(N,J,i,0):=m;show#[_,ij W (mf (gA (sN (bp (dI (eR W) (ah aU) (cR (by rw[q];rfl))))) (fV (ah aU)))),N,J,i,W]|some x=>
  let(j,g,w):=x;let v:=(B.wt j g w q).1;let C:=v.len Z;let e1:pW (ui p.1.wt) .none=-(.bool fg):=by rw[q];rfl
  let e2:av (ui p.1.wt) (.int 2)=-(zY w):=by rw[q];show ny
  let A:=(Dt λc n h=>(v.tp c n h).1).2;cases w with |some M=>
   let o:KN b p.1 k=fg:=by ext KN;rw[q]
   rw[o];let(N,J,i,0):=m;show#[_,ij W (mf (gA (jB (by ext:1) (sN (bp (dI (by ext:1) (ah aU) (cR A))))) (fV (ah aU)))),N,J,i,W]|none=>
   let o:KN b p.1 k=(decide (A7 p.1.ac p.1.oc=0)&&!(iZ b (j++[k])).isEmpty):=by ext KN;rw[q]
   rw[o];let(f,F,l):=tN m;let a:(Bk (bf (iQ pW (bw "Hand" "waiting" (ap 0)) (af (pC .none)))) (Bk (bf (iQ fO (mn (bw "Hand" "waiting" (ap 0)) (af (~~~2))) (af (pC {1,(.str "chord")})))) (bf (iQ fO (gn gU 1 {0,aB "Hand" "stands" dw 1 (ap 0) aJ}) (af (~~~0)))))) [cL (.rf 0),-(nd k)] U=.ok (!decide (A7 p.1.ac p.1.oc=0)) f:=by
    let G:bf (iQ fO (gn _ 1 {0,aB _ "stands" _ 1 (ap 0) aJ}) (af (~~~0))) [cL _,-(nd k)] U=.ok _ f:=bp (dI (tF (aq (cg m (by rfl) W aV W F) aV) W (sG p.1)) (ah aU) (cR (pH _ _)))
    let(N,J,i,0):=m;show jB (by ext:1) (jB (bp (dI (by ext:1) (ah aU) (cR A))) G)
   by_cases z:A7 p.1.ac p.1.oc=0
   .rw[a4 z]at a⊢
    let(N,J,i,0):=l;let t:k∉j:=by rw[q]at s;show of_decide_eq_false s
    let r:(j++[k]).Nodup:=by rw[B?];show#[v.nd,r4.mpr #[vm,IF],λx u y H e=>t ()]
    let E:(j++[k]).length<=5:=DU r λx u=>by
     let L:=Z.n5;rcases m?.mp u with h|h
     .let:=v.kn x h;ext
     .rw[f?.mp h];ext
    show#[_,ij W (aD (a9 a bv) (fV (Hr Z #[N,J,W] W E (dI (iu (eR W) (ah aU) (by rw[q];show gB)) (by ext:1) (cR (GN v.ne C)))))),N,_,i,W]
   .rw[a5 z]at a⊢;show#[f,ij W (mf (gA a (fV (ah aU)))),l]
end
section
variable(Z:VB b){p:hq×Sn}{k:Nat}
include Z
def W1(v:WV b p.1.ac o g w)(c:k∉o)(j:(k)<b.n):(o++[k]).Nodup/\(o++[k]).length<=5:=by
 let a:(o++[k]).Nodup:=by rw[B?];show#[v.nd,r4.mpr #[vm,IF],λx f y i e=>c ()]
 show#[a,DU a λx f=>?_];let l:=Z.n5;rcases m?.mp f with h|h
 .let:=v.kn x h;ext
 .rw[f?.mp h];ext
def A1(l:SW b p.1)(j:(k)<b.n)(z:p.1.ac k=CL)(s:Jo p.1.wt k=M)(hm:KN b p.1 k=Ld):∃d g,p.1.wt=G (d,g,CL)/\k∉d/\WV b p.1.ac (d++[k]) g CL/\g<b.wt:=by
 unfold KN at hm;split at hm
 .rename_i d g q
  rw[c!]at hm;let(v,m):=l.wt d g CL q;let e:k∉d:=by rw[q]at s;show of_decide_eq_false s
  let(f,w):=W1 Z v e j;show#[d,g,q,e,#[by simp,f,λx a=>?_,λx a=>?_,v.g0,λc n h=>(),λ_ x a=>?_],m]
  .rcases m?.mp a with h|h
   .show v.kn x h
   .rw[f?.mp h];show j
  .rcases m?.mp a with h|h
   .show v.kf x h
   .rw[f?.mp h];show z
  .let i:=hm.2
   cases y:iZ b _ with |nil=>rw[y]at i;contradiction|cons c r=>
    let o:c∈iZ b (d++[k]):=by rw[y];show eQ
    let(u,t):=n7.mp o;let:=j?.mp t x a;show(Z.vc c u).2.2.1 x (a6 this)
 simp_all
def P9(n:HS b p U)(i:SW b p.1)(e:p.1.wt=G (C,g,CL))(v:WV b p.1.ac (C++[k]) g CL)(h:WV b p.1.ac C g CL)(t:p.2.length<900):∃d,d9 [.rf 0,.fz (nd k)] U=.ok (.fz .none) d/\HS b (xt b p k) d:=by
 let(B,J,r,0):=n;let l:=v.len Z;let e1:av (ui p.1.wt) (.int 1)=-(.int g):=by rw[e];show jI
 let z:xt b p k=if(iZ b (C++[k])).map (·.1.length)=[(C++[k]).length]then eG b ({p.1 with wt:=G (C++[k],g,CL)},p.2)else({p.1 with wt:=G (C++[k],g,CL)},p.2):=by ext xt;rw[e]
 let A:gq (d4 0) nY (af (cy cX {0/0})) ((iZ b (C++[k])).map chD) [CL] (gr b {p.1 with wt:=G (C++[k],g,CL)} p.2 B (J++[.dead])) []=.ok ((aM ((iZ b (C++[k])).map (·.1.length))).map .fz) (gr b {p.1 with wt:=G (C++[k],g,CL)} p.2 B (J++[.dead])):=by
  show(sY chD (λc=>.fz (nd c.1.length)) _ (λE=>∃o,E=[o]) (iZ b (C++[k])) _ [] #[CL,W] ?_ ?_).trans (by ext aM;rw[i?,i?];rfl)
  .let:=y? (λc:I Nat×Nat=>(C++[k]).all λk=>decide (k∈c.1)) b.cs;let:=Z.c4;show 0+(iZ b (C++[k])).length<=_;ext iZ;ext
  .rintro c _ E ⟨o,rfl⟩;let m:av (chD c) (.int 0)=-(.tuple (aM c.1)):=gB;show#[[-(chD c)],W,W,ah (fq (ar (aZ (au W) aU W W m) aP) W ((fC _).trans (by rw[bI]))),_,W]
 let y:jA (gn cO 2 {0,bw "Hand" "bed" (ap 0),!2}) [G (.rf 0),-(nd k),-(.tuple (aM (C++[k])))] _=.ok ((iZ b (C++[k])).map chD) (gr b {p.1 with wt:=G (C++[k],g,CL)} p.2 B (J++[.dead])):=(qD (AR (aq (wX W) (aq (ah (au W)) aV)) W (Hd Z l)) aO).trans (by rw[rF];rfl)
 let rt:bS {cy cX {ae 2}} (dX [G (.rf 0),-(nd k),-(.tuple (aM (C++[k])))])=.ok (.ow (aM [(C++[k]).length]),dX [G (.rf 0),-(nd k),-(.tuple (aM (C++[k])))]):=by show oA (ar (fq (by ext:6) W ((fC _).trans (by rw[bI]))) aP) W (nE W)
 let f:bf (iQ bx (jO 1 [] _ (d4 0) nY _) _) _ _=.ok _ _:=bp (dI (sQ y A) (c9 rt) (Eb (jL (jw aO)) (jL aO) (F9 _ _)))
 let a:HS b ({p.1 with wt:=G (C++[k],g,CL)},p.2) (gr b _ p.2 B (J++[.dead])++[.lst ((aM ((iZ b (C++[k])).map (·.1.length))).map .fz)]++[.lst ((aM [(C++[k]).length]).map .fz)]):=#[B,_,r,W];rw[z];show lS W (nF (dI (iu (eR W) (ah aU) (by rw[e];show gB)) (by ext:1) (cR (GN h.ne (h.len Z)))) W (Fb (oK (G (C++[k],g,CL)) W (Ap (aq (ah (au W)) (aq (by ext:1) (aq (ah aU) aV))) (nE W))) (Ce f (λq=>?_) λq=>?_)))
 .rw[ax (a6 q)];let(j,w,u):=pz Z a #[i.sa.ac,i.sa.oc] W v t;show lH (cg a (W) W aV W w) #[W,u]
 .rw[aE (of_decide_eq_false q)];show pF #[W,a]
def Qw(a:SW b p.1)(f:p.1.wt=G (o,g,CL))(v:WV b p.1.ac (o++[k]) g CL)(h:g<b.wt):SW b (xt b p k).1:=by
 let i:xt b p k=if(iZ b (o++[k])).map (·.1.length)=[(o++[k]).length]then eG b ({p.1 with wt:=G (o++[k],g,CL)},p.2)else({p.1 with wt:=G (o++[k],g,CL)},p.2):=by ext xt;rw[f]
 rw[i];split
 .show(iH Z (p:=({p.1 with wt:=G _},p.2)) #[a.sa.ac,a.sa.oc] λ_ _ _ e=>by ext e;show v).1
 .show#[#[a.sa.ac,a.sa.oc],λ_ _ _ e=>by ext e;show#[v,h]]
omit Z in
theorem E6(s:hq)(m:Mn):(l7 s m).ac=s.ac/\(l7 s m).wt=s.wt:=by unfold l7;split<;>exact⟨rfl,rfl⟩
omit Z in
theorem GW{m:Mn}(h:SA b s):SA b (l7 s m):=by
 unfold l7;split
 .exact h
 .exact⟨h.ac,λo e=>by simp_all⟩
def Wu(B:HS b p ω)(O:SA b p.1)(hw:p.1.wt=CL)(R:(k)<b.n)(D:p.2.length<900):∃s,jZ [.rf 0,.fz (nd k)] ω=.ok (.fz .none) s/\HS b (Ku b p k) s:=by
 let(N,M):=Dg Z O;let F:=Q5 Z N M R;let(v,P):=zD Z N M R;let(ω1,h1,G):=tN B;let h5:=Z.n5;let eb:Ku b p k=y3 b (A7 p.1.ac p.1.oc) _ k _:=W;rw[eb];let Q:gn gU 1 {0,aB "Hand" "stands" dw 1 (ap 0) aJ} [cL (.rf 0),-(nd k),CL,CL,CL] ω=.ok _ ω1:=tF (aq (cg B (W) W aV W h1) aV) W (sG p.1);generalize A7 p.1.ac p.1.oc=L at F v P Q N M;generalize look b L k=m at F v P;let(ps,J,hp,0):=G;let lb:=v.lb;let c0:=wK m;let c1:=aah m;let c2:=UL m;let c3:=mx m;let c4:=RI m;let y:(aH (bP (bG (ai (am rK (ae 4) (bK {pC (.str "layer"),pC (.str "once")})))) (dW "Hand" "once" (ap 0) (af (pC .none))) bJ) bJ) [cL (.rf 0),-(nd k),-(.int L),-(mD m),-(.str (wd m))] (gr b p.1 p.2 ps J)=.ok (.nx [cL (.rf 0),-(nd k),-(.int L),-(mD m),-(.str (wd m))]) (gr b (l7 p.1 m) p.2 ps J):=by let t:bG (ai (am rK (ae 4) (bK {pC (.str "layer"),pC (.str "once")}))) [cL (.rf 0),-(nd k),-(.int L),-(mD m),-(.str (wd m))] (gr b p.1 p.2 ps J)=.ok (!(m.aiF||m.isO)) (gr b p.1 p.2 ps J):=cA (by ext:6);ext l7;cases q:(m.aiF||m.isO)with |true=>rw[q]at t;rw[ax W];show aD (a9 t bv) bv|false=>rw[q]at t;show aD (gA t (Fs CL W (ah aU))) bv
 let S:=E6 p.1 m;let E:SA b (l7 p.1 m):=GW O;let i:ps.Perm (og (l7 p.1 m).ac):=by simp_all
 let e:HS b (l7 p.1 m,p.2) (gr b (l7 p.1 m) p.2 ps J):=#[ps,J,i,W];generalize l7 p.1 m=s2 at y S E i e;let I:iv ((bP (bG (ai (am bx (ae 4) (~~~"tap")))) (dW "Hand" "waiting" (ap 0) (af (bK {bK {ae 1},~~~0,ae 3}))) (bP (qE (bG (ai (am bx (ae 4) (~~~"letter")))) (qE (bG (ai (am bx (ae 2) (~~~0)))) (bf (iQ fO (gn cO 2 {0,bw "Hand" "bed" (ap 0),af (bK {ae 1})}) (af (bS ag)))))) (dW "Hand" "waiting" (ap 0) (af (bK {bK {ae 1},~~~0,pC {1,(.str "chord")}}))) (bP (bG (ai (am bx (ae 4) (~~~"once")))) (aH (cJ (aB "Hand" "come" bV 3 (ap 0) {0,!1,af (pC {1,(.str "none")})})) (dW "Hand" "once" (ap 0) (af (3/1)))) (cJ (aB "Hand" "come" bV 3 (ap 0) {0,!1,!3}))))) [cL (.rf 0),-(nd k),-(.int L),-(mD m),-(.str (wd m))] (gr b s2 p.2 ps J)) (λ_ s=>SV.fz .none=.fz .none/\HS b (y3 b L (s2,p.2) k m) s) (λ_ _=>False) (λr s=>r=.fz .none/\HS b (y3 b L (s2,p.2) k m) s):=by
  let w:∀{ω:cj},bG (ai (am bx (ae 4) (~~~"tap"))) [cL (.rf 0),-(nd k),-(.int L),-(mD m),-(.str (wd m))] ω=.ok m.isT ω:=cA (by ext:6);let A:∀{ω:cj},bG (ai (am bx (ae 4) (~~~"letter"))) [cL (.rf 0),-(nd k),-(.int L),-(mD m),-(.str (wd m))] ω=.ok m.isL ω:=cA (by ext:6);let z:∀{ω:cj},bG (ai (am bx (ae 4) (~~~"once"))) [cL (.rf 0),-(nd k),-(.int L),-(mD m),-(.str (wd m))] ω=.ok m.isO ω:=cA (by ext:6);let C:∀{ω:cj},bG (ai (am bx (ae 2) (~~~0))) [cL (.rf 0),-(nd k),-(.int L),-(mD m),-(.str (wd m))] ω=.ok (decide (L=0)) ω:=cA (by ext:6);let X:∀{ω:cj},af (bK {ae 1}) [cL (.rf 0),-(nd k),-(.int L),-(mD m),-(.str (wd m))] ω=.ok (.fz (.tuple (aM [k]))) ω:=ah (by ext:6);let cm:∀{ω:cj},HS b (s2,p.2) ω->VA b.ls.length m->∃s,cJ (aB "Hand" "come" bV 3 (ap 0) {0,!1,!3}) [cL (.rf 0),-(nd k),-(.int L),-(mD m),-(.str (wd m))] ω=.ok _ s/\HS b (i6 (s2,p.2) k m) s:=λ{ω}B va=>by let(s,l,j):=uF (k:=k) B (E.ak Z) va.lb () (show p.2.length<1000 by ext);show#[s,lP (cg B (W) W (by ext:1) W l),j]
  cases m with |below=>ext|tap c n=>show vV w (sP (oK (cL ([k],0,cL (c,n))) W (ah (ρ':=dX [cL (.rf 0),-(nd k),-(.int L),-(mD (.tap c n)),-(.str (wd (.tap c n)))]) ?_)) #[W,ps,J,i,W]);rfl|ab3 c=>
   by_cases H:L=0
   .rw[a4 H]at C
    let U:=Hr Z (ω1:=gr b s2 p.2 ps J) #[ps,J,W] W (nE W) X;let u:y3 b L (s2,p.2) k (.ab3 c)=if(!(iZ b [k]).isEmpty)=Ld then({s2 with wt:=cL ([k],0,CL)},p.2)else i6 (s2,p.2) k (.ab3 c):=by show(if(decide (L=0)&&!(iZ b [k]).isEmpty)=Ld then _ else _)=_;rw[a4 H,Qn]
    rw[u];show fW w (Ce (mj A (mj C (bp U))) (λq=>?_) λq=>?_)
    .rw[ax q];show sP (oK (cL ([k],0,CL)) W (ah (ρ':=dX [cL (.rf 0),-(nd k),-(.int L),-(mD (.ab3 c)),-(.str (wd (.ab3 c)))]) ?_)) #[W,ps,_,i,W];rfl
    .rw[aE (by rw[q];simp)];let(s,l,j):=cm (#[ps,_,i,W]) v;show fW z (sP l #[W,j])
   .rw[a5 H]at C
    let u:y3 b L (s2,p.2) k (.ab3 c)=i6 (s2,p.2) k (.ab3 c):=by show(if(decide (L=0)&&!(iZ b [k]).isEmpty)=Ld then _ else _)=_;simp_all
    rw[u];let(s,l,j):=cm e v;show fW w (fW (mj A (ku C)) (fW z (sP l #[W,j])))|ac7 n=>let(s,l,j):=cm e v;show fW w (fW (ku A) (fW z (sP l #[W,j])))|none=>let(s,l,j):=cm e trivial;show fW w (fW (ku A) (fW z (sP l #[W,j])))|once n=>let(s,l,j):=uF (k:=k) (a:=.none) e (E.ak Z) trivial () (show p.2.length<1000 by ext);let(T,J2,Y,0):=j;show fW w (fW (ku A) (vV z (Fb (lP (cg e (W) W (aq (ah (au W)) (aq (ah aU) aV)) W l)) (sP (Fs (cL n) W (ah (ρ':=dX [cL (.rf 0),-(nd k),-(.int L),-(mD (.once n)),-(.str (wd (.once n)))]) ?_)) #[W,T,J2,Y,W]))));rfl
 show lS W (nF Q W (nF (tF (aq (wX W) (aq (ah (au W)) (aq (ah (au W)) aV))) W F) W (nF (ah (d:=.str (wd m)) (by ext:2)) W ?_)));show .eq ?_ I;let tw:∀{f g:iL}{ρ:dJ}{ω s:cj},aH f bJ ρ ω=.ok (.nx ρ) s->aH f g ρ ω=g ρ s:=λ{f g ρ ω s}h=>by unfold aH at h⊢;cases q:f ρ ω with |bad|er x o=>rw[q]at h;ext h|ok fl o=>rw[q]at h;cases fl with|nx r=>ext h;rfl|_=>ext h
 show tw y
end
section
variable(Z:VB b){p:hq×Sn}{k:Nat}
include Z
omit Z in
theorem GM(h:SA b s)(a:s.wt=CL):SW b s:=⟨h,λ_ _ _ e=>by simp_all⟩
def U1(sa:SA b p.1)(C:p.1.wt=CL)(v:(k)<b.n)(d:p.1.ac k=CL):SW b (Ku b p k).1:=by
 let(z,y):=Dg Z sa;let(a,q):=zD Z z y v;let F:Ku b p k=y3 b _ _ k _:=W;rw[F];generalize A7 _ _=L at a q z y;generalize look b L k=m at a q;let l:=E6 p.1 m;let f:SA b (l7 p.1 m):=GW sa;let h:=l.2.trans C;let j:(l7 p.1 m).ac k=CL:=by rw[l.1];show d
 generalize l7 p.1 m=s2 at f h j;let J:=Z.w1;let t:[k].Nodup:=r4.mpr #[vm,IF];let u:∀x∈[k],(x)<b.n:=λx i=>by simp_all
 let kf:∀x∈[k],s2.ac x=CL:=λx i=>by simp_all
 let cm:∀m,VA _ m->SW b (i6 (s2,p.2) k m).1:=λm A=>GM (f.cm v A) h;cases m with
 |below=>ext|tap c n=>show#[#[f.ac,f.oc],λ_ _ _ e=>?_];ext e;show#[#[by simp,t,u,kf,G' _,λI B e=>by ext e;show#[a.1,a.2,W],λe=>by ext e],by ext]|ab3 c=>
  show SW b (if(decide _&&!(iZ b [k]).isEmpty)=Ld then({s2 with wt:=cL _},p.2)else i6 _ k _).1;split
  .show#[#[f.ac,f.oc],λ_ _ _ e=>?_]
   ext e;show#[#[by simp,t,u,kf,G' _,λI B e=>(by ext e),λ_ x i=>?_],by ext];cases N:iZ b [k]with |nil=>ext|cons c r=>
    let E:c∈iZ b [k]:=by simp_all
    let(H,G):=n7.mp E;show(Z.vc c H).2.2.1 x (a6 (j?.mp G x i))
  .show cm _ a|ac7 n=>show cm _ a|none=>show cm _ trivial|once n=>show#[#[(cm .none trivial).sa.ac,λo e=>by ext e;show a],λM g w e=>by let e:s2.wt=cL _:=e;simp_all]
theorem SW.wd(h:SW b s):WD b s:=λa g w e=>(h.wt a g w e).1
omit Z in
theorem agz(a:a8 (Nat×Mn)):∀{p:hq×Sn},p.1.ac k=CL->k∉a.map (·.1)->(n6 p a).1.ac k=CL:=by induction a with |nil=>exact λh _=>h|cons q r e=>intro p h hn;rw[l4,hX,not_or]at hn;exact e (p:=i6 p q.1 q.2) ((jK hn.1).trans h) hn.2
omit Z in
theorem acB(ha:p.1.ac k=CL)(hn:Jo p.1.wt k=fg):(eG b p).1.ac k=CL:=by
 unfold eG;split
 .exact ha
 .rename_i e g w q;refine agz _ ha λz=>?_;rw[q]at hn;obtain⟨x,a,rfl⟩:=gi.mp z;exact of_decide_eq_false hn (H_ a).1
def ajV(a:SW b p.1)(e:(k)<b.n):SW b (nX b p k).1:=by
 ext nX;split
 .show a
 .let j:p.1.ac k=CL:=by simp_all
  let i:Jo p.1.wt k=M:=by simp_all
  split
  .rename_i f;let(h,g,e1,e2,e3,e4):=A1 Z a e j i f;show Qw Z a e1 e3 e4
  .let d:=iH Z a.sa (SW.wd Z a);show U1 Z d.1.sa d.2.1 e (acB j i)
def aj3(j:HS b p U)(h:SW b p.1)(w:(k)<b.n)(M:p.2.length<800):∃c,jS [.rf 0,.fz (nd k)] U=.ok (.fz .none) c/\HS b (nX b p k) c:=by
 let N:=Z.n5;let I:Bk (bf (xD fg (!1) (bw "Hand" "acts" (ap 0)))) (bf (aB "Hand" "is_waiting" cU 2 (ap 0) {0,!1})) [cL (.rf 0),-(nd k)] U=.ok ((p.1.ac k).isSome||Jo p.1.wt k) U:=by
  let F:=cg (ρ:=[cL _,-(nd k)]) (i:=0) (m:="is_waiting") (fa:=aj (!1) aJ) j (by rfl) W (by ext:1) W (MX j);let(P,J,v,0):=j
  let o:xD fg (!1) (bw _ _ (ap 0)) [cL _,-(nd k)] (gr b p.1 p.2 P J)=.ok (.fz (.bool (p.1.ac k).isSome)) (gr b p.1 p.2 P J):=(Dx (ah (au W)) (kh W) W W).trans (by rw[show pY _ _=_ from rQ v ()];simp_all)
  cases q:(p.1.ac k).isSome with |true=>rw[q]at o;show sN (bp o)|false=>rw[q]at o;show jB (bp o) (bp F)
 show lS W (BQ I (λq=>?_) λq=>rV ?_)
 .ext nX;rw[ax q];show zk #[W,j]
 rw[Bool.or_eq_false_iff]at q;let Q:p.1.ac k=CL:=by simp_all
 let H:nX b p k=if KN b p.1 k=Ld then xt b p k else Ku b (eG b p) k:=by ext nX;simp_all
 rw[H];let(t,E,f):=V6 Z j h w q.2;show BQ (bp (cg j (W) W (by ext:1) W E)) (λl=>?_) λl=>rV ?_
 .rw[ax l];let(L,g,e1,e2,e3,e4):=A1 Z h w Q q.2 l;let(a,y,e):=P9 Z f h e1 e3 (h.wt _ _ _ e1).1 ();show Wv (pw (cg f (W) W (by ext:1) W y) (zk #[W,e]))
 .rw[aE (by rw[l];simp)]
  let d:=iH Z h.sa (SW.wd Z h);let A:∀a,HS b _ a->iv (cJ (aB _ "begin" _ 2 (ap 0) {0,!1}) [cL _,-(_)] a) (λ_ c=>SV.fz _=.fz .none/\HS b _ c) (λ_ _=>False) (λr c=>r=.fz .none/\HS b (Ku b (eG b p) k) c):=λa e=>by let(B,G,u):=Wu Z e d.1.sa d.2.1 w ();show lH (cg e (W) W (by ext:1) W G) #[W,u]
  cases n:p.1.wt with |none=>
   let O:eG b p=p:=by ext eG;rw[n]
   let z:=A t ();let(P,J,v,0):=f;show vR (bp (dI (eR W) (ah aU) (cR (by rw[n];rfl)))) (rV z)|some x=>let(a,y,e):=pz Z f h.sa n (h.wt _ _ _ n).1 ();let C:=cg (ρ:=[cL _,-(nd k)]) (i:=0) (m:="decide") f (by rfl) W aV W y;let(P,J,v,0):=f;show zW (bp (dI (eR W) (ah aU) (cR (by rw[n];rfl)))) (pw C (A a e))
def pL(e:SW b p.1)(f:Jo p.1.wt k=u):SW b (cI b p k).1/\(cI b p k).2.length<=p.2.length+5:=by
 ext cI;split
 .let d:=iH Z e.sa (SW.wd Z e);simp_all
 .rename_i i g c n q
  let v:=(e.wt _ _ _ q).1;rw[q]at f;let h:=(v.tp c n W).1;show#[GM (SA.cm #[e.sa.ac,e.sa.oc] (v.kn k (a6 f)) h) W,?_];let:=sE (p:=({p.1 with wt:=CL},p.2)) (k:=k) (a:=.ab3 c)
  grind
 simp_all
def iT(o:HS b p U)(j:SW b p.1)(l:Jo p.1.wt k=Ld)(H:p.2.length<800):∃d,jp [.rf 0,.fz (nd k)] U=.ok (.fz .none) d/\HS b (cI b p k) d:=by let L:=Z.n5;cases q:p.1.wt with |none=>rw[q]at l;ext l|some x=>
  let(B,g,w):=x;let v:=(j.wt _ _ _ q).1;let t:k∈B:=by rw[q]at l;show a6 l
  let e2:av (ui p.1.wt) (.int 2)=-(zY w):=by rw[q];show ny
  let F:=(Dt λc n h=>(v.tp c n h).1).1;let y:∀{U:cj},bG (ai (am bx (ae 2) (pC {1,.str "chord"}))) [cL (.rf 0),-(nd k),-(zY w)] U=.ok w.isNone U:=cA (b9 (aZ (au W) aU W W F) W);cases w with |none=>
   let es:cI b p k=eG b p:=by ext cI;rw[q]
   rw[es];let(r,u,e):=pz Z o j.sa q v ();let A:=cg (ρ:=[cL (.rf 0),-(nd k),-(zY CL)]) (i:=0) (m:="decide") o (by left) W aV W u;let(N,J,z,0):=o;show lS W (nF (iu (eR W) (ah aU) e2) W (vV y (lH A #[W,e])))|some G=>
   let(c,n):=G;let es:cI b p k=i6 ({p.1 with wt:=CL},p.2) k (.ab3 c):=by ext cI;rw[q]
   rw[es];let E:=(v.tp c n W).1;let I:=v.kn k t;let(N,J,z,0):=o;let f:HS b ({p.1 with wt:=CL},p.2) (gr b {p.1 with wt:=CL} p.2 N J):=#[N,J,z,W];let(r,u,e):=uF (k:=k) (a:=.ab3 c) f (SA.ak Z #[j.sa.ac,j.sa.oc]) E () (show p.2.length<1000 by ext);let C:av (zY (cL (c,n))) (.int 1)=-(.str (me c)):=jI;show lS W (nF (iu (eR W) (ah aU) e2) W (fW y (Fb (oK CL W (ah aU)) (lH (cg f (by left) W (aq (ah (au W)) (aq (ah (qX (ar aU (ar (aZ (au W) aU W W C) aP)) W (nE W))) aV)) W u) #[W,e]))))
omit Z in
theorem Ua(a:SW b p.1):SW b (go p k).1:=by
 refine⟨a.sa.gg,?_⟩;unfold go;split
 .intro f g w e;obtain⟨v,i⟩:=a.wt f g w e;exact⟨⟨v.ne,v.nd,v.kn,λx h=>by
   by_cases z:x=k
   .rw[z];exact gv
   .exact(jK z).trans (v.kf x h),v.g0,v.tp,v.ch⟩,i⟩
 .exact a.wt
def Q3(a:SW b p.1):SW b (xw b p k).1:=by
 ext xw;split
 .rename_i q;show Ua (pL Z a q).1
 .show Ua a
def Qg(e:HS b p U)(g:SW b p.1)(C:(k)<b.n)(w:p.2.length<700):∃c,lF [.rf 0,.fz (nd k)] U=.ok (.fz .none) c/\HS b (xw b p k) c:=by
 let E:=Z.n5;let h:k<5:=by ext
 let f:∀{p:hq×Sn}{U:cj},HS b p U->SW b p.1->p.2.length<800->iv (bP (bf (xD M (!1) (bw _ _ (ap 0)))) (cJ (aB _ "go" _ 2 _ _)) _ [G _,-(nd k)] U) (λ_ c=>SV.fz _=.fz .none/\HS b (go p k) c) (λ_ _=>False) (λr c=>r=.fz .none/\HS b (go p k) c):=λ{p U}e g w=>by cases n:p.1.ac k with
  |none=>
   let B:go p k=p:=by ext go;rw[n]
   rw[B];let(H,J,j,0):=e;show fW (bp ((Dx (ah (au W)) (kh W) W W).trans (by rw[rQ j h,n];rfl))) (pF #[W,H,J,j,W])|some a=>let(t,y,l):=aau e (g.sa.ak Z) n ();let v:=cg (ρ:=[G _,-(_)]) (i:=0) (m:="go") (fa:=aj (!1) aJ) e (W) W (by ext:1) W y;let(H,J,j,0):=e;show vV (bp ((Dx (ah (au W)) (kh W) W W).trans (by rw[rQ j h,n];rfl))) (lH v #[W,l])
 show lS W (BQ (bp (cg e (W) W (by ext:1) W (MX e))) (λq=>?_) λq=>?_)
 .ext xw;rw[ax q];let(u,A,o):=iT Z e g q ();let z:=pL Z g q;show pw (cg e (W) W (by ext:1) W A) (f o z.1 ())
 .ext xw;rw[aE (by rw[q];simp)];show rV (f e g ())
def ST(a:SW b p.1):SW b (nG b p).1:=by
 ext nG;split
 .show a
 .rename_i f g w q
  let(v,i):=a.wt f g w q;let h:WV b _ f (g+1) w:=#[v.ne,v.nd,v.kn,v.kf,by let:=v.g0;ext,v.tp,v.ch];split
  .show(iH Z (p:=({p.1 with wt:=G _},p.2)) #[a.sa.ac,a.sa.oc] λ_ _ _ e=>by simp_all).1
  .show#[#[a.sa.ac,a.sa.oc],λ_ _ _ e=>by injections;subst_vars;show#[h,by ext]]
def QF(n:HS b p C)(f:SW b p.1)(r:p.2.length<800):∃c,hV [.rf 0] C=.ok (.fz .none) c/\HS b (nG b p) c:=by let(t,J,j,0):=n;cases q:p.1.wt with
 |none=>
  let i:nG b p=p:=by ext nG;rw[q]
  rw[i];show lS W (zW (bp (dI (eR W) (ah aU) (cR (by rw[q];rfl)))) (zk #[W,t,J,j,W]))|some x=>
  let(e,g,w):=x;let v:=(f.wt _ _ _ q).1;let m:WV b _ e (g+1) w:=#[v.ne,v.nd,v.kn,v.kf,by let:=v.g0;ext,v.tp,v.ch];let i:nG b p=if g+1=b.wt then eG b ({p.1 with wt:=G (e,g+1,w)},p.2)else({p.1 with wt:=G (e,g+1,w)},p.2):=by ext nG;rw[q]
  rw[i];let e1:pW (ui p.1.wt) .none=-(.bool M):=by rw[q];rfl
  let e2:av (ui p.1.wt) (.int 2)=-(zY w):=by rw[q];show ny
  let e3:av (ui p.1.wt) (.int 1)=-(.int g):=by rw[q];show jI
  let e4:av (bD b) (.int 3)=G _:=Ez W;let a:HS b ({p.1 with wt:=G (e,g+1,w)},p.2) _:=#[t,J,j,W];show lS W (vR (by ext:1) (rV (nF (by ext:1) W (Fb (oK (G (e,g+1,w)) W (Ap (aq (iu (eR W) (ah aU) (by rw[q];show gB)) (aq (ah (au W)) (aq (by ext:1) aV))) (nE W))) (Ce (by ext:1) (λz=>?_) λz=>?_)))))
  .rw[ax (a6 z)];let(l,o,h):=pz Z a #[f.sa.ac,f.sa.oc] W m (show p.2.length<900 by ext);show lH (cg a (W) W aV W o) #[W,h]
  .rw[aE (of_decide_eq_false z)];show pF #[W,a]
def qm.alP:qm->Bool|.turn=>u|_=>M
def qm.isDown:qm->Bool|.down _=>u|_=>M
def EV(b:Bd):qm->Prop|.down k|.up k=>(k)<b.n|.turn=>True
def A4(a:SW b s)(f:EV b e):SW b (bT b s e).1:=by cases e with |down k=>show ajV Z a f|up k=>show Q3 Z a|turn=>show ST Z a
omit Z in
theorem yu:∀l:a8 (Nat×Mn),aQ yr (l.map pD)=cL (l.map rD)|[]=>rfl|q::r=>by rw[l4];unfold aQ;rw[yu r];rfl
omit Z in
theorem BI:∀(l acc:a8 (Nat×Mn)),((acc++l).map (·.1)).Nodup->qS (acc.map rD) (l.map rD)=(acc++l).map rD
 |[],acc,_=>by rw[n9];rfl|q::r,acc,h=>by
  have hn:∀x∈acc,x.1≠q.1:=λx a e=>by rw[mN,B?]at h;exact h.2.2 _ (gi.mpr ⟨x,a,rfl⟩) q.1 eQ e
  have e1:oi (acc.map rD) (rD q).1 (rD q).2=(acc++[q]).map rD:=by
   unfold oi;rw[aE ?_,mN]
   .rfl
   .intro z;obtain⟨j,i,g⟩:=Bb.mp z;obtain⟨x,f,rfl⟩:=gi.mp i;have:=Sum.inl.inj (a6 g);exact hn x f (by ext)
  show qS (oi (acc.map rD) (rD q).1 (rD q).2) (r.map rD)=_;rw[e1,BI r (acc++[q]) (by rw[pb];exact h),pb];rfl
omit Z in
theorem zj:gI [.rf 0,.fz (bD b),.fz (kQ s)] [.obj "Hand" []]=.ok (.fz .none) (gr b s [] (og s.ac) []):=by
 have e0:av (kQ s) (.int 0)=-(.tuple ((og s.ac).map pD)):=gB;have e1:av (kQ s) (.int 1)=-(ui s.wt):=jI;have e2:av (kQ s) (.int 2)=-(Dl s.oc):=ny;have r:dZ "bed" (.fz (bD b)) []=([("bed",.fz (bD b))]:a8 (Str×SV)):=rfl;have m:dZ "acts" (.rf 1) ([("bed",.fz (bD b))]:a8 (Str×SV))=([("bed",.fz (bD b)),("acts",.rf 1)]:a8 (Str×SV)):=by unfold dZ;rw[aE (by left)];rfl
 have l:dZ "waiting" (.fz (ui s.wt)) ([("bed",.fz (bD b)),("acts",.rf 1)]:a8 (Str×SV))=([("bed",.fz (bD b)),("acts",.rf 1),("waiting",.fz (ui s.wt))]:a8 (Str×SV)):=by unfold dZ;rw[aE (by left)];unfold dZ;rw[aE (by left)];rfl
 have j:dZ "once" (.fz (Dl s.oc)) ([("bed",.fz (bD b)),("acts",.rf 1),("waiting",.fz (ui s.wt))]:a8 (Str×SV))=([("bed",.fz (bD b)),("acts",.rf 1),("waiting",.fz (ui s.wt)),("once",.fz (Dl s.oc))]:a8 (Str×SV)):=by unfold dZ;rw[aE (by left)];unfold dZ;rw[aE (by left)];unfold dZ;rw[aE (by left)];rfl
 have i:dZ "sent" (.rf 2) ([("bed",.fz (bD b)),("acts",.rf 1),("waiting",.fz (ui s.wt)),("once",.fz (Dl s.oc))]:a8 (Str×SV))=Qf b s:=by unfold dZ;rw[aE (by left)];unfold dZ;rw[aE (by left)];unfold dZ;rw[aE (by left)];unfold dZ;rw[aE (by left)];rfl
 have n:qS [] ((og s.ac).map rD)=(og s.ac).map rD:=BI (og s.ac) [] (wL s.ac);have e:∀{x:SV}{ρ:dJ}{fs:a8 (Str×SV)}{ω:cj}{g:gW}{f:Str}{c:d?}{a:cj},ρ[0]?=cL (cL (.rf 0))->g ρ ω=.ok x (.obj "Hand" fs::a)->fs.length<100->dW "Hand" f (ap 0) g ρ ω=.ok (.nx ρ) (.obj "Hand" (dZ f x fs)::a):=λh q o=>(eh q (aA h) rfl o).trans rfl
 have ha:yE (af (2/0)) [cL (.rf 0),-(bD b),-(kQ s)] [.obj "Hand" ([("bed",.fz (bD b))]:a8 (Str×SV))]=.ok (.rf 1) [.obj "Hand" ([("bed",.fz (bD b))]:a8 (Str×SV)),.dct ((og s.ac).map rD)]:=(SX (ah (d:=.tuple ((og s.ac).map pD)) (aZ (rv:=.fz (.tuple ((og s.ac).map pD))) (au rfl) aU rfl rfl e0)) (yu _)).trans (by rw[n];rfl)
 refine lR (ρ:=[cL (.rf 0),-(bD b),-(kQ s)]) (ρ1:=[cL (.rf 0),-(bD b),-(kQ s)]) rfl (aD (e rfl (c:=.dead) (ah (d:=bD b) (au rfl)) (nE rfl)) (aD (e rfl (c:=.dead) ha (nE rfl)) (aD (e rfl (c:=.dead) (ah (d:=ui s.wt) (aZ (rv:=.fz (ui s.wt)) (au rfl) aU rfl rfl e1)) (nE rfl)) (aD (e rfl (c:=.dead) (ah (d:=Dl s.oc) (aZ (rv:=.fz (Dl s.oc)) (au rfl) aU rfl rfl e2)) (nE rfl)) ?_))));rw[m,l,j];refine(e (fs:=([("bed",.fz (bD b)),("acts",.rf 1),("waiting",.fz (ui s.wt)),("once",.fz (Dl s.oc))]:a8 (Str×SV))) rfl (c:=.dead) (c9 (ds:=[]) (oA aP rfl (mT _))) (nE rfl)).trans ?_;show RS.ok _ (d?.obj "Hand" (dZ "sent" (.rf 2) ([("bed",.fz (bD b)),("acts",.rf 1),("waiting",.fz (ui s.wt)),("once",.fz (Dl s.oc))]:a8 (Str×SV)))::_)=_;rw[i];rfl
omit Z in
theorem Qk(e:qm):∃x:Str,av (tY e) (.int 0)=-(.str x)/\bx (.str x) (.str "turn")=-(.bool (e.alP))/\bx (.str x) (.str "down")=-(.bool (e.isDown)):=by
 have f:aS.strOk "down"=Ld:=by left
 have g:aS.strOk "up"=Ld:=by left
 have a:aS.strOk "turn"=Ld:=by left
 cases e with |down k=>exact⟨_,gB,wP f a (by left),x8 f⟩|up k=>exact⟨_,gB,wP g a (by left),wP g f (by left)⟩|turn=>exact⟨_,gB,x8 a,wP a f (by rfl)⟩
def Pz(n:SW b s)(t:EV b e):∃c,ng [.fz (bD b),.fz (kQ s),.fz (tY e)] []=.ok (.tp [.rf 2,.fz (kQ (bT b s e).1)]) c/\sh c (.rf 2)=G (.list ((bT b s e).2.map nU)):=by
 let f:HS b (s,[]) _:=#[_,[],.refl _,W];let(x,o,v,u):=Qk e;let l:∀{C:cj},bG (ai (am bx (am av (ae 2) _) _)) [-(bD b),-(kQ s),-(_),G (.rf 0)] C=.ok _ C:=cA (b9 (aZ (aZ (au W) aU W W o) aU W W v) W);let q:∀{C:cj},bG (ai (am bx (am av (ae 2) _) _)) [-(bD b),-(kQ s),-(_),G (.rf 0)] C=.ok _ C:=cA (b9 (aZ (aZ (au W) aU W W o) aU W W u) W);let j:∀{C:cj},HS b (bT b s e) C->iv (c8 (tK (aj (bw _ _ (ap 3)) _)) _ C) (λ_ c=>SV.fz .none=.tp [.rf 2,.fz (kQ (bT b s e).1)]/\sh c (.rf 2)=G (.list ((bT b s e).2.map nU))) (λ_ _=>False) (λr c=>r=.tp _/\sh c (.rf 2)=G (.list ((bT b s e).2.map nU))):=λ{C}E=>by let(g,h,a):=tN E;let m:=cg (ρ:=[-(bD b),-(kQ s),-(tY e),G _]) (i:=3) (m:="stands") E (W) W aV W h;let(H,J,A,0):=E;let(y,B,z,0):=a;show Wp (aac (aq (y0 W) (aq m aV)) (nE W) W W) #[W,jL W]
 show lS W (nF (qW (aq (ah (au W)) (aq (ah (au W)) aV)) W zj) W ?_);cases e with |turn=>let(g,h,a):=QF Z f n (show 0<800 by decide);show zW l (pw (cg f (W) W aV W h) (j a))|down k=>let(g,h,a):=aj3 Z f n t (show 0<800 by decide);let w:av (tY (.down k)) _=G _:=jI;show vR l (zW q (pw (cg f (W) W (aq (ah (by ext:2)) aV) W h) (j a)))|up k=>let(g,h,a):=Qg Z f n t (show 0<700 by decide);let w:av (tY (.up k)) _=G _:=jI;show vR l (vR q (pw (cg f (W) W (aq (ah (by ext:2)) aV) W h) (j a)))
def Nr(f:SW b s)(h:EV b e):yU ng 3 [.fz (bD b),.fz (kQ s),.fz (tY e)] ω=.ok (.tp [.rf ω.length,.fz (kQ (bT b s e).1)]) (ω++[.lst (((bT b s e).2.map nU).map .fz)]):=by
 let(a,j,i):=Pz Z f h;ext yU;rw[show aQ B1 _=G _ from rfl];dsimp only;rw[show[bD b,kQ s,tY e].map _=[.fz _,.fz _,.fz _]from rfl,j];show(match Jp a _ _ with |some (m,cs,l)=>if l.Nodup then RS.ok _ _ else .bad|none=>.bad)=_
 let g:Jp a ω.length [.rf 2,.fz (kQ (bT b s e).1)]=G ([.rf ω.length,.fz (kQ (bT b s e).1)],[(bT b s e).2.map nU],[2]):=by ext Jp;rw[i];rfl
 rw[g];rfl
end
def IE:hq:=#[λ_=>CL,CL,CL]
def Qv(b):SW b IE:=#[#[λk a e=>(by contradiction),λo e=>(by contradiction)],λf g w e=>(by contradiction)]
theorem Au{α:Type}{f:α->D}:∀{l:I α},(∀a∈l,aS.canLay0 (f a)=u)->aS.canLayAll0 (l.map f)=u |[],_=>rfl|a::r,h=>by show(aS.canLay0 _&&aS.canLayAll0 _)=u;rw[h a eQ,Au λx b=>h x (h_ _ b)];rfl
def ly(sn:Sn):Prop:=∀q∈sn,q.1<26
section
variable(Z:VB b){k:Nat}
def ly.app(e:ly x)(a:ly y):ly (x++y):=λq f=>(m?.mp f).elim (e q) (a q)
def oQ(h:ly p.2)(d:LB a):ly (i6 p k a).2:=by show h.app λq e=>?_;cases a with
 |ab3 c=>
  let e:q∈(if qC _ _=u then[]else[(c,u)]):=e;split at e
  .simp_all
  .rw[f?.mp e];show d|_=>ext e
def alQ(c):∀{p:hq×Sn},ly p.2->(∀q∈c,LB q.2)->ly (n6 p c).2:=by induction c with|nil=>show λh _=>h|cons q r e=>show λh a=>e (oQ h (a q eQ)) λx f=>a x (h_ _ f)
def Uw(h:ly p.2)(d:SA b p.1):ly (go p k).2:=by
 ext go;split
 .rename_i a q
  let lb:=(d.ac k a q).2.lb;show h.app λx e=>?_;cases a with
  |ab3 c=>
   let e:x∈(if qC (si p.1.ac k CL) (.ab3 c)=u then[]else[(c,M)]:Sn):=e;split at e
   .ext e
   .rw[f?.mp e];show lb|_=>ext e
 .show h
include Z
def rG(h:ly p.2)(f:WD b p.1):ly (eG b p).2:=by
 ext eG;split
 .show h
 .rename_i a g w q;show alQ _ h λx e=>(Ag Z (f a g w q) x e).2.lb
def XA(h:ly p.2)(e:SA b p.1)(g:(k)<b.n):ly (Ku b p k).2:=by let(l,j):=Dg Z e;let(a,f):=zD Z l j g;let i:Ku b p k=y3 b _ _ k _:=W;rw[i];generalize look b _ k=m at a f;let lb:=a.lb;cases m with
 |tap c n=>show h|ab3 c=>
  show ly (if(decide _&&!(iZ b [k]).isEmpty)=u then({l7 p.1 _ with wt:=G ([k],0,CL)},p.2)else i6 _ k _).2;split
  .show h
  .show oQ h lb|ac7 n|none=>show oQ h lb|once n=>show oQ (k:=k) h trivial|below=>trivial
def GY(f:SW b s)(i:EV b e):ly (bT b s e).2:=by
 let a:ly []:=λq l=>by ext l
 cases e with
 |turn=>
  show ly (nG b _).2;ext nG;split
  .show a
  .rename_i h g w q
   let v:=(f.wt h g w q).1;split
   .show rG Z a λ_ _ _ e=>by ext e;show#[v.ne,v.nd,v.kn,v.kf,by let:=v.g0;ext,v.tp,v.ch]
   .show a|up k=>
  show ly (xw b _ k).2;ext xw;split
  .rename_i q
   show Uw ?_ (pL Z f q).1.sa;ext cI;split
   .show rG Z a (SW.wd Z f)
   .rename_i c n e;show oQ a (((f.wt _ _ _ e).1.tp c n W).1)
   .show a
  .show Uw a f.sa|down k=>
  show ly (nX b _ k).2;ext nX;split
  .show a
  .let o:s.ac k=CL:=by simp_all
   let m:Jo s.wt k=M:=by simp_all
   split
   .rename_i j
    let(h,g,e1,e2,e3,e4):=A1 Z f i o m j;ext xt;rw[e1];dsimp only;split
    .show rG Z a λ_ _ _ e=>by ext e;show e3
    .show a
   .show XA Z (rG Z a (SW.wd Z f)) (iH Z f.sa (SW.wd Z f)).1.sa i
end
def cS(b:Bd):hq->I qm->hq×I Sn|s,[]=>(s,[])|s,e::r=>((cS b (bT b s e).1 r).1,(bT b s e).2::(cS b (bT b s e).1 r).2)
theorem wq(b):∀(xs ys)(s),cS b s (xs++ys)=((cS b (cS b s xs).1 ys).1,(cS b s xs).2++(cS b (cS b s xs).1 ys).2)|[],_,_=>rfl|e::r,ys,s=>by show((cS b _ (r++ys)).1,_::(cS b _ (r++ys)).2)=_;rw[wq b r ys];rfl
theorem v7(b):∀(xs)(s),(cS b s xs).2.length=xs.length|[],_=>rfl|e::r,s=>by show(_::(cS b _ r).2).length=_;simp only[j_,v7 b r,j_]
theorem uR(a:VB b):∀(xs){s:hq},SW b s->(∀e∈xs,EV b e)->SW b (cS b s xs).1|[],_,h,_=>h|e::r,s,h,he=>uR a r (A4 a h (he e eQ)) λx f=>he x (h_ _ f)
end STP
namespace K82
open PySem L2 L3 STP
def lO:FS:=(aY (yp (ai (am uT (ae 1) (cy cX {ae 0}))) (am av (ae 0) (ae 1)) (~~~0)))
def bZ:FN:=bL 2 lO
def lG:FS:=(aF (bF (am wE (am fP (am b6 (am wE (ae 0) (~~~1000033)) (ae 1)) (am b6 (ae 1) (~~~521))) (~~~1000033)) (gN 3)) (aF (bF (am wE (am b6 (am b6 (am fP (ae 3) (ae 3)) (am EI (ae 0) (~~~1000033))) (am fP (~~~7) (ae 1))) (~~~999983)) (gN 3)) (aY (am wE (am EI (ae 3) (~~~3)) (ae 2)))))
def aI:FN:=bL 4 lG
def fY:FS:=(aF (bF (am mn (~~~"abcd") (aG aI 3 {ae 0,~~~5,~~~4})) (gN 3)) (aF (bF (am b6 (~~~1) (aG aI 3 {ae 0,~~~7,cy A9 {~~~1,am pX (ae 2) (~~~1)}})) (gN 4)) (aF (bF (aG aI 3 {ae 0,~~~3,~~~9}) (gN 5)) (aF (eJ (mz (ai (am Cr (ae 1) (~~~0))) (ai (am Cr (ae 5) (~~~6)))) (aY (bK {pC (.str "below")})) aX) (aF (eJ (ai (am bx (ae 5) (~~~3))) (aY (bK {pC (.str "none")})) aX) (aF (eJ (mz (ai (am Cr (ae 2) (~~~1))) (ai (am bx (ae 5) (~~~4)))) (aY (bK {pC (.str "layer"),ae 4})) aX) (aF (eJ (mz (ai (am Cr (ae 2) (~~~1))) (ai (am bx (ae 5) (~~~5)))) (aY (bK {pC (.str "tap"),ae 3,ae 4})) aX) (aF (eJ (mz (ai (am Cr (ae 2) (~~~1))) (ai (am bx (ae 5) (~~~6)))) (aY (bK {pC (.str "once"),ae 4})) aX) (aY (bK {pC (.str "letter"),ae 3}))))))))))
def fR:FN:=bL 6 fY
def gw:FS:=(aF (bF (bE 1 [2] (nQ kB {cy cX {ae 2}}) (gN 0) (ai (am bx (am av (am av (ae 1) (ae 0)) (~~~0)) (~~~"letter"))) (ae 0)) (gN 3)) (aF (bF (bS ag) (gN 4)) (aF (jU (nQ kB {~~~4}) (gN 5) (aF (bF (aG bZ 2 {ae 0,am b6 (ae 1) (ae 5)}) (gN 6)) (aF (bF (cy iW {bE 1 [6] (dB (ae 3)) (gN 0) (ai (am Cr (aG aI 3 {am b6 (ae 1) (am fP (~~~31) (ae 0)),~~~13,~~~3}) (~~~0))) (ae 0)}) (gN 7)) (eJ (mz (ai (am Cr (cy cX {ae 7}) (~~~1))) (mz (ai (am Cr (aG aI 3 {ae 6,~~~17,~~~3}) (~~~0))) (ai (am rK (ae 7) (bE 1 [] (Hb 4) (gN 0) bi (0/0)))))) (iy (sZ 4 (bK {ae 7,am mn (~~~"abxy") (aG aI 3 {ae 6,~~~19,~~~4})}))) aX)))) (aY (cy iW {ae 4})))))
def jb:FN:=bL 8 gw
def iU:FS:=(aF (bF (aG bZ 2 {ae 0,~~~0}) (gN 2)) (aF (bF (am b6 (~~~1) (aG aI 3 {ae 2,~~~1,ae 1})) (gN 3)) (aF (bF (am b6 (~~~1) (aG aI 3 {ae 2,~~~2,~~~3})) (gN 4)) (aF (bF (bS ag) (gN 5)) (aF (jU (nQ kB {ae 4}) (gN 6) (aF (bF (bE 1 [0,3,6] (nQ kB {ae 3}) (gN 0) bi (aG bZ 2 {ae 1,am b6 (am b6 (~~~1) (am fP (ae 2) (ae 3))) (ae 0)})) (gN 7)) (iy (sZ 5 (cy iW {bE 1 [6,4] (dB (ae 7)) (gN 0) bi (aG fR 3 {ae 0,ae 1,ae 2})}))))) (aY (bK {ae 3,cy iW {ae 5},aG jb 3 {ae 0,~~~16,5/0},am b6 (~~~1) (aG aI 3 {ae 2,~~~23,~~~4})})))))))
def nr:FN:=bL 8 iU
def ip:FS:=(aF (bF (am b6 (~~~1) (aG aI 3 {aG bZ 2 {ae 0,ae 1},~~~149,~~~3})) (gN 2)) (aF (bF (am b6 (~~~1) (aG aI 3 {aG bZ 2 {ae 0,ae 1},~~~151,~~~3})) (gN 3)) (aF (bF (bS ag) (gN 4)) (aF (jU (nQ kB {am b6 (~~~1) (aG aI 3 {aG bZ 2 {ae 0,ae 1},~~~157,~~~5})}) (gN 5) (aF (bF (am b6 (aG bZ 2 {ae 0,am b6 (ae 1) (ae 5)}) (am fP (~~~17) (ae 5))) (gN 6)) (aF (bF (bK {aG aI 3 {ae 6,~~~163,ae 2},aG aI 3 {ae 6,~~~167,ae 3}}) (gN 7)) (eJ (ai (am rK (ae 7) (ae 4))) (iy (sZ 4 (ae 7))) aX)))) (aY (bK {ae 2,ae 3,cy iW {ae 4}}))))))
def jV:FN:=bL 8 ip
def iA:FS:=(aF (bF (cy L9.Yg {am b6 (0/0) (0/1)}) (gN 2)) (aF (jU (dB (ae 1)) (gN 3) (aF (bF (am av (0/2) (ae 3)) (gT 2 (iM (gN 4) (iM (gN 5) rE)))) (aF (bF (am av (ae 2) (ae 4)) (gN 6)) (aF (bF (am av (ae 2) (am b6 (0/0) (ae 5))) (gN 7)) (bF (bE 1 [6,7] (dB (ae 2)) (gN 0) bi (yp (ai (am bx (ae 0) (ae 1))) (ae 2) (ae 0))) (gN 2)))))) (aF (bF (bS ag) (gN 8)) (aF (jU (nQ kB {0/0}) (gN 4) (aF (bF (~~~0) (gN 9)) (aF (jU (nQ kB {0/1}) (gN 5) (eJ (ai (am bx (am av (ae 2) (ae 4)) (am av (ae 2) (am b6 (0/0) (ae 5))))) (bF (am b6 (ae 9) (am Bp (~~~1) (ae 5))) (gN 9)) aX)) (iy (sZ 8 (ae 9)))))) (aY (cy iW {ae 8}))))))
def jP:FN:=bL 10 iA
def gj:FS:=(aF (bF (ue eE (~~~",") {bE 2 [] (dB (0/2)) (gT 2 (iM (gN 0) (iM (gN 1) rE))) bi (am cT (am cT (cy iX {ae 0}) (~~~".")) (cy iX {ae 1}))}) (gN 2)) (aY (ue eE (~~~" ") {bS (aa (~~~"frame") {cy iX {0/0},cy iX {0/1},cy iX {ae 1},ae 2})})))
def cG:FN:=bL 3 gj
def lm:FS:=(aY (ue eE (~~~",") {bE 1 [] (dB (ae 0)) (gN 0) bi (cy iX {ae 0})}))
def dR:FN:=bL 1 lm
def lB:FS:=(aF (eJ (ai (am bx (0/0) (~~~"letter"))) (aY (0/1)) aX) (aF (eJ (ai (am bx (0/0) (~~~"layer"))) (aY (am cT (~~~">") (cy iX {0/1}))) aX) (aF (eJ (ai (am bx (0/0) (~~~"tap"))) (aY (am cT (am cT (0/1) (~~~">")) (cy iX {0/2}))) aX) (aF (eJ (ai (am bx (0/0) (~~~"once"))) (aY (am cT (~~~"~") (cy iX {0/1}))) aX) (aY (Yi [(aS.str "none",aS.str "."),(aS.str "below",aS.str "_")] (0/0)))))))
def g8:FN:=bL 1 lB
def fu:FS:=(aF (bF (bS {am cT (am cT (am cT (~~~"keys ") (cy iX {0/0})) (~~~" wait ")) (cy iX {0/3})}) (gN 1)) (aF (jU (dB (0/1)) (gN 2) (iy (sZ 1 (ue eE (~~~" ") {am b6 (bS {pC (.str "layer")}) (bE 1 [] (dB (ae 2)) (gN 0) bi (aG g8 1 {ae 0}))})))) (aF (jU (dB (0/2)) (gT 2 (iM (gN 3) (iM (gN 4) rE))) (iy (sZ 1 (am cT (am cT (am cT (~~~"chord ") (ue eE (~~~"+") {bE 1 [] (dB (ae 3)) (gN 0) bi (cy iX {ae 0})})) (~~~" ")) (ae 4))))) (aY (ue eE (pC (.str "\n")) {ae 1})))))
def dL:FN:=bL 5 fu
def jx:FS:=(aF (bF (bS ag) (gN 1)) (aF (jU (dB (ae 0)) (gN 2) (iy (L10.LO 1 (bE 2 [] (dB (ae 2)) (gT 2 (iM (gN 0) (iM (gN 1) rE))) bi (am cT (am av (bS {pC (.str "-"),pC (.str "+")}) (cy xQ {am bx (ae 1) (~~~"down")})) (ae 0)))))) (aF (eJ (ai (am bx (ae 1) (bS ag))) (aY (~~~".")) aX) (aY (ue eE (~~~"") {ae 1})))))
def gZ:FN:=bL 3 jx
def fU:FS:=(aY (am bx (am v4 (am RX (ae 0) (ae 1)) (~~~1)) (~~~1)))
def bz:FN:=bL 2 fU
def rL:FS:=(aF (jU (dB (ae 1)) (gN 2) (eJ (ai (am fO (am v4 (ae 2) (ae 0)) (~~~0))) (bF (am Eu (ae 0) (ae 2)) (gN 0)) aX)) (aY (ae 0)))
def my:FN:=bL 3 rL
def sH:FS:=(aF (bF (bE 1 [0] (dB (ae 0)) (gN 0) bi (aG my 2 {ae 0,ae 1})) (gN 1)) (aF (Dc (ai (am fO (ae 1) (ae 0))) (aF (bF (ae 1) (gN 0)) (bF (bE 1 [0] (dB (ae 0)) (gN 0) bi (aG my 2 {ae 0,ae 1})) (gN 1)))) (aY (ae 0))))
def sC:FN:=bL 2 sH
def uG:FS:=(aF (bF (am fP (bS {~~~0}) (0/0)) (gN 2)) (aF (jU (dB (ae 1)) (gN 3) (aF (bF (am av (0/2) (ae 3)) (gN 4)) (bF (am Eu (am av (ae 2) (4/0)) (am Bp (~~~1) (4/1))) (Wy 2 (4/0))))) (aY (cy iW {aG sC 1 {ae 2}}))))
def jg:FN:=bL 5 uG
def lQ:FS:=(aF (eJ (ai (am fO (cy cX {ae 1}) (0/0))) gp aX) (aF (bF (cy iW {bE 2 [1] (qp {0/2}) (gT 2 (iM (gN 0) (iM (gN 1) rE))) (ai (aG bz 2 {am av (ae 2) (1/0),1/1})) (ae 0)}) (gN 2)) (aF (eJ (ai (am fO (aG jg 2 {ae 0,ae 2}) (ae 1))) gp aX) (aY (ae 2)))))
def lN:FN:=bL 3 lQ
def pA:FS:=(aY (cy iW {bE 1 [1] (dB (ae 0)) (gN 0) (ai (am fO (ae 0) (ae 1))) (ae 0)}))
def mE:FN:=bL 2 pA
def oW:FS:=(aF (eJ (ai (am rK (ae 3) (ae 2))) (aY (~~~"up")) aX) (aF (eJ (ai (am bx (aG jg 2 {ae 0,aG mE 2 {ae 2,ae 3}}) (ae 1))) (aY (~~~"unsure")) aX) (aY (~~~"sure"))))
def iV:FN:=bL 4 oW
def zX:FS:=(aF (bF (aG lN 2 {ae 0,ae 1}) (gN 2)) (aY (cy iW {bE 1 [0,1,2] (nQ kB {cy cX {0/2}}) (gN 0) bi (aG iV 4 {ae 1,ae 2,ae 3,ae 0})})))
def tR:FN:=bL 3 zX
def j7:FS:=(aY (ue eE (~~~"") {bE 1 [] (dB (aG tR 2 {ae 0,ae 1})) (gN 0) bi (Yi [(aS.str "up",aS.str "u"),(aS.str "sure",aS.str "s"),(aS.str "unsure",aS.str "?")] (ae 0))}))
def jT:FN:=bL 2 j7
def kW:FS:=(aY (Am (eB uH uT (~~~0) (2/0) (ae 0)) (eB uH uT (~~~0) (2/1) (ae 1))))
def gX:FN:=bL 3 kW
def mZ:FS:=(aF (eJ (yf (kR (ai (eB uH uH (~~~1) (ae 0) (~~~6)))) (kR (ai (eB uH uH (~~~1) (ae 1) (~~~6))))) gp aX) (aF (eJ (kR (ai (eB uH uH (~~~1) (cy cX {ae 2}) (~~~12)))) gp aX) (aF (jU (qp {ae 2}) (gT 2 (iM (gN 3) (iM (gN 4) rE))) (eJ (yf (kR (ai (aG gX 3 {ae 0,ae 1,ae 4}))) (ai (am pP (ae 4) (xu xM (ae 2) jN (fw (ae 3)))))) gp aX)) (aY (bK {ae 0,ae 1,cy iW {ae 2}})))))
def gS:FN:=bL 5 mZ
def i9:FS:=(aF (eJ (yf (kR (ai (eB uH uH (~~~1) (cy C2 {ae 0}) (~~~2)))) (kR (ai (cy v3 {bE 1 [] (zn (ae 0)) (gN 0) bi (am Z' (ae 0) (~~~"0123456789"))})))) (aY (pC .none)) aX) (aF (eJ (mz (ai (am bx (cy C2 {ae 0}) (~~~2))) (ai (am bx (am mn (ae 0) (~~~0)) (~~~"0")))) (aY (pC .none)) aX) (aY (cy Ry {ae 0}))))
def bA:FN:=bL 1 i9
def nz:FS:=(aF (eJ (ai (am pP (pC .none) (ae 0))) (aY (pC .none)) aX) (aY (cy iW {ae 0})))
def cH:FN:=bL 1 nz
def ir:FS:=(aF (eJ (yf (ai (am fO (cy cX {ae 0}) (~~~4))) (yf (ai (am fO (0/0) (~~~"keys"))) (ai (am fO (0/2) (~~~"wait"))))) (aY (pC .none)) aX) (aY (aG cH 1 {bS {aG bA 1 {0/1},aG bA 1 {0/3}}})))
def fQ:FN:=bL 1 ir
def jF:FS:=(aY (Am (am bx (cy C2 {ae 0}) (~~~1)) (eB Yf Yf (~~~"a") (ae 0) (~~~"z"))))
def dA:FN:=bL 1 jF
def ib:FS:=(aF (eJ (ai (am bx (ae 0) (~~~"."))) (aY (bK {pC (.str "none")})) aX) (aF (eJ (ai (am bx (ae 0) (~~~"_"))) (aY (bK {pC (.str "below")})) aX) (aF (eJ (ai (aG dA 1 {ae 0})) (aY (bK {pC (.str "letter"),ae 0})) aX) (aF (eJ (ai (ue mM (ae 0) {pC (.str "~")})) (aY (aG cH 1 {bS {pC (.str "once"),aG bA 1 {xu hJ (ae 0) (fw (~~~1)) jN}}})) aX) (aF (eJ (ai (ue mM (ae 0) {pC (.str ">")})) (aY (aG cH 1 {bS {pC (.str "layer"),aG bA 1 {xu hJ (ae 0) (fw (~~~1)) jN}}})) aX) (aF (eJ (mz (ai (aG dA 1 {xu hJ (ae 0) jN (fw (~~~1))})) (ai (am bx (xu hJ (ae 0) (fw (~~~1)) (fw (~~~2))) (~~~">")))) (aY (aG cH 1 {bS {pC (.str "tap"),am mn (ae 0) (~~~0),aG bA 1 {xu hJ (ae 0) (fw (~~~2)) jN}}})) aX) (aY (pC .none))))))))
def et:FN:=bL 1 ib
def jQ:FS:=(aF (eJ (yf (ai (am uT (cy cX {ae 0}) (~~~2))) (ai (am fO (0/0) (~~~"layer")))) (aY (pC .none)) aX) (aY (aG cH 1 {bE 1 [] (dB (xu xM (ae 0) (fw (~~~1)) jN)) (gN 0) bi (aG et 1 {ae 0})})))
def iI:FN:=bL 1 jQ
def jj:FS:=(aY (aG cH 1 {bE 1 [] (dB (ue eK (ae 0) {ae 1})) (gN 0) bi (aG bA 1 {ae 0})}))
def dS:FN:=bL 2 jj
def ke:FS:=(aF (eJ (yf (ai (am fO (cy cX {ae 0}) (~~~3))) (yf (ai (am fO (0/0) (~~~"chord"))) (kR (ai (aG dA 1 {0/2}))))) (aY (pC .none)) aX) (aF (bF (aG dS 2 {0/1,pC (.str "+")}) (gN 1)) (aF (eJ (ai (am pW (ae 1) (pC .none))) (aY (pC .none)) aX) (aY (bK {ae 1,0/2})))))
def hW:FN:=bL 2 ke
def fm:FS:=(aF (eJ (yf (kR (ai (eB uH uH (~~~1) (0/0) (~~~5)))) (kR (ai (eB uH uH (~~~1) (cy cX {0/1}) (~~~3))))) gp aX) (eJ (yf (ai (am Cr (cy cX {0/2}) (~~~4))) (kR (ai (eB uH uH (~~~1) (0/3) (~~~4))))) gp aX))
def gO:FN:=bL 1 fm
def mY:FS:=(aF (bF (0/0) (gN 3)) (aF (eJ (ai (am bx (ae 3) (~~~"below"))) (aY (am fO (ae 1) (~~~0))) aX) (aF (eJ (mz (ai (am pP (ae 3) (bK {pC (.str "letter"),pC (.str "tap")}))) (kR (ai (aG dA 1 {0/1})))) (aY (pC (.bool M))) aX) (aF (eJ (ai (am pP (ae 3) (bK {pC (.str "layer"),pC (.str "tap"),pC (.str "once")}))) (aY (eB uH uT (~~~1) (am av (ae 0) (OH Oz (~~~1))) (ae 2))) aX) (aY (pC (.bool u)))))))
def kG:FN:=bL 4 mY
def gx:FS:=(aF (bF (am av (0/1) (ae 1)) (gN 2)) (aF (eJ (ai (am fO (cy cX {ae 2}) (0/0))) gp aX) (jU (qp {ae 2}) (gT 2 (iM (gN 3) (iM (gN 4) rE))) (eJ (kR (ai (aG kG 3 {ae 4,ae 1,cy cX {0/1}}))) gp aX))))
def ju:FN:=bL 5 gx
def uL:FS:=(aY (cy v3 {bE 2 [] (ET {ae 0,xu xM (ae 0) (fw (~~~1)) jN}) (gT 2 (iM (gN 0) (iM (gN 1) rE))) bi (am uT (ae 0) (ae 1))}))
def uu:FN:=bL 1 uL
def iK:FS:=(aF (eJ (yf (ai (am uT (cy cX {ae 1}) (~~~2))) (kR (ai (aG uu 1 {ae 1})))) (aY (pC (.bool M))) aX) (aY (cy v3 {bE 1 [0] (dB (ae 1)) (gN 0) bi (Am (eB uH uT (~~~0) (ae 0) (1/0)) (am bx (am av (am av (am av (1/1) (~~~0)) (ae 0)) (~~~0)) (~~~"letter")))})))
def iC:FN:=bL 2 iK
def gy:FS:=(aF (bF (am av (am av (0/2) (ae 1)) (~~~0)) (gN 2)) (aF (eJ (yf (kR (ai (aG dA 1 {am av (am av (0/2) (ae 1)) (~~~1)}))) (kR (ai (aG iC 2 {ae 0,ae 2})))) gp aX) (eJ (ai (am pP (ae 2) (bE 1 [] (dB (xu xM (0/2) jN (fw (ae 1)))) (gN 0) bi (0/0)))) gp aX)))
def jd:FN:=bL 3 gy
def oS:FS:=(aF (iy (aG gO 1 {ae 0})) (aF (jU (nQ kB {cy cX {0/1}}) (gN 1) (iy (aG ju 2 {ae 0,ae 1}))) (aF (jU (nQ kB {cy cX {0/2}}) (gN 2) (iy (aG jd 2 {ae 0,ae 2}))) (aY (ae 0)))))
def oX:FN:=bL 3 oS
def kM:FS:=(aF (bF (ue eK (ae 0) {pC (.str "\n")}) (gN 1)) (aF (bF (aG fQ 1 {ue eK (1/0) {pC (.str " ")}}) (gN 2)) (aF (eJ (ai (am pW (ae 2) (pC .none))) gp aX) (aF (bF (bS ag) (gN 3)) (aF (bF (bS ag) (gN 4)) (aF (jU (wb {xu xM (ae 1) (fw (~~~1)) jN}) (gT 2 (iM (gN 5) (iM (gN 6) rE))) (aF (bF (ue eK (ae 6) {pC (.str " ")}) (gN 7)) (aF (bF (aG iI 1 {ae 7}) (gN 8)) (aF (bF (aG hW 1 {ae 7}) (gN 9)) (eJ (mz (ai (am pR (ae 8) (pC .none))) (ai (am bx (ae 4) (bS ag)))) (iy (sZ 3 (ae 8))) (eJ (ai (am pR (ae 9) (pC .none))) (iy (sZ 4 (ae 9))) gp)))))) (aY (aG oX 1 {bK {2/0,cy iW {ae 3},cy iW {ae 4},2/1}}))))))))
def gR:FN:=bL 10 kM
def kY:FS:=(aF (bF (aG dS 2 {ae 0,pC (.str ".")}) (gN 1)) (aF (eJ (yf (ai (am pW (ae 1) (pC .none))) (ai (am fO (cy cX {ae 1}) (~~~2)))) (aY (pC .none)) aX) (aY (ae 1))))
def fT:FN:=bL 2 kY
def ki:FS:=(aF (bF (bE 1 [] (dB (xu xM (ae 0) jN (fw (~~~3)))) (gN 0) bi (aG bA 1 {ae 0})) (gN 1)) (aY (aG cH 1 {am b6 (ae 1) (bS {aG cH 1 {bE 1 [] (dB (ue eK (0/3) {pC (.str ",")})) (gN 0) bi (aG fT 1 {ae 0})}})})))
def j6:FN:=bL 2 ki
def ic:FS:=(aF (eJ (yf (ai (am bx (ae 0) (~~~""))) (kR (ai (cy v3 {bE 1 [] (zn (ae 0)) (gN 0) bi (aG dA 1 {ae 0})})))) (aY (pC .none)) aX) (aY (ae 0)))
def kL:FN:=bL 1 ic
def jW:FS:=(aF (bF (0/0) (gN 1)) (aF (bF (cy cX {ae 0}) (gN 2)) (aF (eJ (mz (ai (am pP (ae 1) (bK {pC (.str "keys"),pC (.str "turn"),pC (.str "states")}))) (ai (am bx (ae 2) (~~~1)))) (aY (bK ag)) aX) (aF (eJ (mz (ai (am bx (ae 1) (~~~"frame"))) (ai (am bx (ae 2) (~~~5)))) (aY (aG j6 1 {xu xM (ae 0) (fw (~~~1)) jN})) aX) (aF (eJ (mz (ai (am pP (ae 1) (bK {pC (.str "scan"),pC (.str "seen")}))) (ai (am bx (ae 2) (~~~2)))) (aY (aG dS 2 {0/1,pC (.str ",")})) aX) (aF (eJ (mz (ai (am pP (ae 1) (bK {pC (.str "down"),pC (.str "up")}))) (ai (am bx (ae 2) (~~~2)))) (aY (aG bA 1 {0/1})) aX) (aF (eJ (mz (ai (am bx (ae 1) (~~~"word"))) (ai (am bx (ae 2) (~~~2)))) (aY (aG kL 1 {0/1})) aX) (aY (pC .none)))))))))
def gk:FN:=bL 3 jW
def nA:FS:=(aF (eJ (ai (ue mM (ae 0) {pC (.str "bed\n")})) (aY (bK {pC (.str "bed"),xu hJ (ae 0) (fw (cy C2 {pC (.str "bed\n")})) jN})) aX) (aF (bF (ue eK (ae 0) {pC (.str " ")}) (gN 1)) (aF (bF (aG gk 1 {ae 1}) (gN 2)) (aF (eJ (ai (am pW (ae 2) (pC .none))) gp aX) (aY (bK {1/0,ae 2}))))))
def bu:FN:=bL 3 nA
def jX:FS:=(aY (HL (ue eE (~~~"") {bE 2 [] (dB (ae 0)) (gT 2 (iM (gN 0) (iM (gN 1) rE))) bi (am cT (yp (ai (am bx (ae 1) (~~~"down"))) (~~~"+") (~~~"-")) (ae 0))}) (~~~".")))
def eV:FN:=bL 1 jX
def j4:FS:=(aY (HL (ue eE (~~~",") {bE 1 [] (dB (ae 0)) (gN 0) bi (cy iX {ae 0})}) (~~~".")))
def gh:FN:=bL 1 j4
def kj:FS:=(aY (ue eE (~~~"") {bE 1 [] (dB (ae 0)) (gN 0) bi (yp (ai (am bx (ae 0) (~~~"unsure"))) (~~~"?") (am mn (ae 0) (~~~0)))}))
def gf:FN:=bL 1 kj
def ko:FS:=(aF (eJ (ai (am fO (cy cX {ae 1}) (0/0))) (L4.tG "NoReading" {pC (.str "not a number for each row")}) aX) (aF (bF (cy iW {bE 2 [1] (qp {0/2}) (gT 2 (iM (gN 0) (iM (gN 1) rE))) (ai (aG bz 2 {am av (ae 2) (1/0),1/1})) (ae 0)}) (gN 2)) (aF (eJ (ai (am fO (aG jg 2 {ae 0,ae 2}) (ae 1))) (L4.tG "NoReading" {pC (.str "no set of keys reads so")}) aX) (aY (ae 2)))))
def ie:FN:=bL 3 ko
def uK:FS:=(aF (bF (wZ ie 2 {ae 0,ae 1}) (gN 2)) (aY (cy iW {bE 1 [0,1,2] (nQ kB {cy cX {0/2}}) (gN 0) bi (aG iV 4 {ae 1,ae 2,ae 3,ae 0})})))
def fL:FN:=bL 3 uK
end K82
namespace K82
open PySem L2 L3 L10 STP
def fH:iL:=(aH (dW "OneKey" "bound" (ap 0) (!1)) (aH (dW "OneKey" "last" (ap 0) (af (~~~0))) (aH (dW "OneKey" "turns" (ap 0) (af (~~~0))) (dW "OneKey" "free_from" (ap 0) (af (~~~0))))))
def cb:jG:=c7 2 fH
def jq:iL:=(aH (cB (bw "OneKey" "turns" (ap 0)) (d4 2)) (aH (dW "OneKey" "turns" (ap 0) (af (am b6 (ae 2) (~~~1)))) (aH (bP (Bk (bf (iQ bx (!1) (bw "OneKey" "last" (ap 0)))) (bf (iQ uT (!2) (bw "OneKey" "free_from" (ap 0))))) (c8 (af (pC .none))) bJ) (aH (dW "OneKey" "last" (ap 0) (!1)) (aH (dW "OneKey" "free_from" (ap 0) (iQ b6 (!2) (bw "OneKey" "bound" (ap 0)))) (c8 (af (am av (pC {1,(.str "up"),(.str "down")}) (ae 1)))))))))
def gz:jG:=c7 3 jq
def fG:iL:=(aH (dW "Teller" "frame" (ap 0) (!1)) (dW "Teller" "each_key" (ap 0) (jO 1 [2] (nZ (dB (1/2))) (d4 0) nY (jv "OneKey" cb 2 {0,!1}))))
def bU:jG:=c7 3 fG
def fJ:iL:=(aH (cB (mn (bw "Teller" "each_key" (ap 0)) (!1)) (d4 3)) (aH (bP (bG (ai (am bx (ae 2) (~~~"unsure")))) (c8 (aB "OneKey" "tell" gz 2 (ap 3) {0,bw "OneKey" "last" (ap 3)})) bJ) (c8 (aB "OneKey" "tell" gz 2 (ap 3) {0,af (yp (ai (am bx (ae 2) (~~~"sure"))) (~~~1) (~~~0))}))))
def fF:jG:=c7 4 fJ
def jf:iL:=(aH (cB (agc fL 2 {0,bw "Teller" "frame" (ap 0),!1}) (d4 2)) (aH (cB (af (bS ag)) (d4 3)) (aH (vK (nZ (qp {ae 2})) (IP 2 (kT (d4 4) (kT (d4 5) uq))) (aH (cB (aB "Teller" "tell_one" fF 3 (ap 0) {0,!4,!5}) (d4 6)) (bP (bG (ai (am pR (ae 6) (pC .none)))) (cJ (xB (ap 3) (af (bK {ae 6,ae 4})))) bJ))) (c8 (ap 3)))))
def cK:jG:=c7 7 jf
def jc:iL:=(c8 (Wk iW {0,u8 2 [] (bw "Teller" "each_key" (ap 0)) (IP 2 (kT (d4 0) (kT (d4 1) uq))) (bf (iQ bx (bw "OneKey" "last" (ap 1)) (af (~~~1)))) (!0)}))
def fD:jG:=c7 1 jc
def gM:iL:=(aH (dW "Desk" "teller" (ap 0) (jv "Teller" bU 3 {0,af (aG gS 3 {~~~1,~~~1,bS {bK {~~~0,~~~0}}}),af (~~~0)})) (aH (dW "Desk" "bed" (ap 0) (af (aG gR 1 {pC (.str "keys 1 wait 1\nlayer a")}))) (dW "Desk" "standing" (ap 0) (af (pC {1,(.tuple []),.none,.none})))))
def gD:jG:=c7 1 gM
def eZ:iL:=(aH (cB (af (bS ag)) (d4 2)) (aH (vK (jA (ap 1)) (d4 3) (aH (cB (t8 ng 3 {0,bw "Desk" "bed" (ap 0),bw "Desk" "standing" (ap 0),!3}) (d4 4)) (aH (cJ (M0 (ap 2) (mn (ap 4) (af (~~~0))))) (dW "Desk" "standing" (ap 0) (mn (ap 4) (af (~~~1))))))) (c8 (gn eV 1 {0,ap 2}))))
def bC:jG:=c7 5 eZ
def fE:iL:=(aH (dW "Desk" "teller" (ap 0) (jv "Teller" bU 3 {0,af (aG gS 3 {1/0,1/1,cy ww {1/3}}),af (1/2)})) (aH (dW "Desk" "standing" (ap 0) (af (pC {1,(.tuple []),.none,.none}))) (c8 (af (~~~"ok")))))
def cV:jG:=c7 2 fE
def gH:iL:=(aH (dW "Desk" "bed" (ap 0) (af (aG gR 1 {ae 1}))) (aH (dW "Desk" "standing" (ap 0) (af (pC {1,(.tuple []),.none,.none}))) (c8 (af (~~~"ok")))))
def dM:jG:=c7 2 gH
def fZ:iL:=(aH (cB (mv "Teller" "scan" cK 2 (bw "Desk" "teller" (ap 0)) {0,!1}) (d4 2)) (c8 (aB "Desk" "run_through" bC 2 (ap 0) {0,iQ b6 (jO 1 [0] (jA (ap 2)) (d4 0) (bf (iQ uT (af (0/1)) (mn (bw "Desk" "bed" (ap 1)) (af (~~~0))))) (!0)) (af (bS {pC {1,(.str "turn"),(.int 0)}}))})))
def cC:jG:=c7 3 fZ
def gL:iL:=(aH (bP (bf (iQ ZN (!2) (mn (bw "Desk" "bed" (ap 0)) (af (~~~0))))) Lh bJ) (c8 (aB "Desk" "run_through" bC 2 (ap 0) {0,af (bS {bK {ae 1,ae 2}})})))
def dP:jG:=c7 3 gL
def kO:iL:=(aH (cB (af (aG bu 1 {ae 1})) (d4 2)) (aH (cB (af (2/0)) (d4 3)) (aH (cB (af (2/1)) (d4 4)) (aH (bP (bG (ai (am bx (ae 3) (~~~"frame")))) (c8 (aB "Desk" "take_frame" cV 2 (ap 0) {0,!4})) bJ) (aH (bP (bG (ai (am bx (ae 3) (~~~"bed")))) (c8 (aB "Desk" "take_bed" dM 2 (ap 0) {0,!4})) bJ) (aH (bP (bG (ai (am bx (ae 3) (~~~"scan")))) (c8 (mv "Desk" "take_scan" cC 2 (ap 0) {0,!4})) bJ) (aH (bP (bG (ai (am pP (ae 3) (bK {pC (.str "down"),pC (.str "up")})))) (c8 (aB "Desk" "take_key" dP 3 (ap 0) {0,!3,!4})) bJ) (aH (bP (bG (ai (am bx (ae 3) (~~~"turn")))) (c8 (aB "Desk" "run_through" bC 2 (ap 0) {0,af (bS {pC {1,(.str "turn"),(.int 0)}})})) bJ) (aH (bP (bG (ai (am bx (ae 3) (~~~"keys")))) (c8 (gn gh 1 {0,aB "Teller" "down" fD 1 (bw "Desk" "teller" (ap 0)) aJ})) bJ) (aH (bP (bG (ai (am bx (ae 3) (~~~"seen")))) (c8 (gn gf 1 {0,agc fL 2 {0,bw "Teller" "frame" (bw "Desk" "teller" (ap 0)),!4}})) bJ) (aH (bP (bG (ai (am bx (ae 3) (~~~"states")))) Lh bJ) Lh)))))))))))
def aW:jG:=c7 5 kO
def Z0:FE:=am cT (~~~"scan ") (aG dR 1 {am b6 (bS {am Bp (~~~1) (1/1)}) (am fP (bS {~~~0}) (am pX (1/0) (~~~1)))})
def eC:jG:=λxs e=>(match af Z0 (xs.map G++[CL]) e with |.ok (.fz (.str row)) b=>(match mv "Desk" "say" aW 2 (ap 0) {0,ap 2} (xs.map G++[-(.str row)]) b with |.ok _ a=>.ok (.fz (.bool M)) a|.er x a=>if x.cls=("NoReading":Str)then .ok (.fz (.bool u)) a else .bad|.bad=>.bad)|_=>.bad)
def jC:iL:=(aH (cB (af (bS ag)) (d4 5)) (aH (vK (jA (iQ b6 (jO 1 [1] (jA (aB "Teller" "scan" cK 2 (ap 2) {0,!3})) (d4 0) (bG (ai (am uT (0/1) (1/0)))) (!0)) (af (bS {bK {pC (.str "turn"),~~~0}})))) (d4 6) (aH (cB (t8 ng 3 {0,!1,!4,!6}) (IP 2 (kT (d4 7) (kT (d4 4) uq)))) (cJ (xB (ap 5) (ap 7))))) (aH (bP (bf (iQ fO (aB "Desk" "say" aW 2 (ap 0) {0,af (am cT (~~~"scan ") (aG dR 1 {ae 3}))}) (gn gZ 1 {0,ap 5}))) (c8 (af (pC .none))) bJ) (aH (cB (gn dR 1 {0,aB "Teller" "down" fD 1 (ap 2) aJ}) (d4 8)) (aH (bP (bf (iQ fO (aB "Desk" "say" aW 2 (ap 0) {0,af (~~~"keys")}) (af (am av (bS {ae 8,pC (.str ".")}) (cy xQ {am bx (ae 8) (~~~"")}))))) (c8 (af (pC .none))) bJ) (c8 (!4)))))))
def jD:jG:=c7 9 jC
def iB:iL:=(aH (cB (af (bK {bK ag,pC .none,pC .none})) (d4 5)) (aH (cB (wM (af (bS ag))) (d4 6)) (aH (vK (jA (ap 4)) (d4 7) (aH (bP (bG (ai (am Cr (aG aI 3 {ae 7,~~~173,~~~3}) (~~~0)))) (cB (wM (af (bE 1 [7] (nQ kB {cy cX {2/2}}) (gN 0) (ai (am bx (aG aI 3 {am b6 (ae 1) (am fP (~~~41) (ae 0)),~~~179,~~~3}) (~~~0))) (ae 0)))) (d4 6)) bJ) (aH (cB (af (aG jP 2 {ae 2,ae 6})) (d4 8)) (aH (bP (Bk (bf (iQ fO (aB "Desk" "say" aW 2 (ap 0) {0,af (am cT (~~~"seen ") (aG dR 1 {ae 8}))}) (af (aG jT 2 {ae 2,ae 8})))) (ug (bf (sO eC 2 {0,ap 0,!2})))) (c8 (af (pC (.bool M)))) bJ) (aH (cB (sO jD 5 (aj (ap 0) {0,!1,ap 3,!8,!5})) (d4 5)) (aH (bP (bG (ai (am pW (ae 5) (pC .none)))) (c8 (af (pC (.bool M)))) bJ) (bP (bG (ai (am bx (aG aI 3 {ae 7,~~~191,~~~3}) (~~~1)))) (aH (cB (af (bK {am av (bS {pC (.str "down"),pC (.str "up")}) (aG aI 3 {ae 7,~~~197,~~~2}),aG aI 3 {ae 7,~~~199,1/0}})) (d4 9)) (aH (cB (t8 ng 3 {0,!1,!5,!9}) (IP 2 (kT (d4 10) (kT (d4 5) uq)))) (bP (bf (iQ fO (aB "Desk" "say" aW 2 (ap 0) {0,af (am cT (am cT (9/0) (~~~" ")) (cy iX {9/1}))}) (gn gZ 1 {0,IV {0,ap 10}}))) (c8 (af (pC (.bool M)))) bJ))) bJ))))))) (c8 (af (pC (.bool u)))))))
def dD:jG:=c7 11 iB
def G4:iL:=(aH (cB (af (aG nr 2 {ae 0,~~~4})) (d4 1)) (aH (cB (af (aG jV 2 {ae 0,~~~19})) (d4 2)) (aH (cB (af (aG aI 3 {aG bZ 2 {ae 0,~~~19},~~~181,~~~3})) (d4 3)) (aH (cB (jv "Desk" gD 1 aJ) (d4 4)) (aH (bP (Bk (bf (iQ fO (aB "Desk" "say" aW 2 (ap 4) {0,af (am cT (pC (.str "bed\n")) (aG dL 1 {ae 1}))}) (af (~~~"ok")))) (bf (iQ fO (aB "Desk" "say" aW 2 (ap 4) {0,af (aG cG 2 {ae 2,ae 3})}) (af (~~~"ok"))))) (c8 (af (pC (.bool M)))) bJ) (aH (cB (jv "Teller" bU 3 {0,!2,!3}) (d4 5)) (aH (cB (af (am b6 (~~~24) (aG aI 3 {aG bZ 2 {ae 0,~~~19},~~~293,~~~20}))) (d4 6)) (aH (bP (ug (bf (sO dD 5 (aj (ap 4) {0,!1,!2,ap 5,af (xu xM (ae 0) (fw (~~~24)) (fw (ae 6)))})))) (c8 (af (pC (.bool M)))) bJ) (aH (bP (bf (iQ fO (aB "Desk" "say" aW 2 (ap 4) {0,af (am cT (pC (.str "bed\n")) (aG dL 1 {ae 1}))}) (af (~~~"ok")))) (c8 (af (pC (.bool M)))) bJ) (aH (bP (ug (bf (sO dD 5 (aj (ap 4) {0,!1,!2,ap 5,af (xu xM (ae 0) (fw (ae 6)) (fw (~~~63)))})))) (c8 (af (pC (.bool M)))) bJ) (aH (cB (af (bK {2/1,2/0,cy iW {bE 2 [] (dB (OH L9.Jf (2/2))) (gT 2 (iM (gN 0) (iM (gN 1) rE))) bi (bK {ae 1,ae 0})}})) (d4 7)) (aH (bP (Bk (bf (iQ fO (aB "Desk" "say" aW 2 (ap 4) {0,af (aG cG 2 {ae 7,am pX (~~~2) (ae 3)})}) (af (~~~"ok")))) (bf (iQ fO (aB "Desk" "say" aW 2 (ap 4) {0,af (~~~"keys")}) (af (~~~"."))))) (c8 (af (pC (.bool M)))) bJ) (c8 (sO dD 5 (aj (ap 4) {0,!1,!7,jv "Teller" bU 3 {0,!7,af (am pX (~~~2) (ae 3))},af (xu xM (ae 0) (fw (~~~24)) (fw (~~~34)))})))))))))))))))
def ri:jG:=c7 8 G4
section
def Fy(c:U J C=.ok (ds.map .fz) o)(b:ds.length=n)(a:F ds=.ok (.fz d)):agc F n U J C=.ok (.fz d) o:=by ext agc;rw[c,d5];ext su;rw[dO,ax b,mO];dsimp only;rw[a];rfl
def QX(c:U J C=.ok (ds.map .fz) o)(b:ds.length=n)(a:F ds=.er x):agc F n U J C=.er x o:=by ext agc;rw[c,d5];ext su;rw[dO,ax b,mO];simp_all
def sr(a:fo U ω=.ok (.rf i) o)(b:o[i]?=G (.obj C fs))(hm:fs.lookup m=CL)(d:fa U o=.ok xs J)(c:(SV.rf i::xs).length=n)(e:F (.rf i::xs) J=r):mv C m F n fo fa U ω=r:=(SH a b hm d c).trans e
def Oc(h:f J C=.er x o):aH f g J C=.er x o:=by ext aH;rw[h];rfl
def JY(h:f J C=.er x o):cB f gt J C=.er x o:=by ext cB;rw[h];rfl
def KU{xs:I SV}(e:xs.map G++ey (N-xs.length) CL=J)(h:g J C=.er x o):c7 N g xs C=.er x o:=by subst e;ext c7;rw[h];rfl
def mS(h:c C U=.ok u o):aH (bP c (c8 J) k) g C U=c8 J C o:=by unfold aH bP;rw[h,d5];ext c8;cases J C o<;>rfl
def na{xs:I SV}(e:xs.map G++ey (N-xs.length) CL=ρ)(h:g ρ o=c8 fe ρ1 ω1)(a:fe ρ1 ω1=r):c7 N g xs o=r:=by subst e;ext c7;rw[h];ext c8;rw[a];ext r<;>rfl
end
section
def Rr(d:fa U=.ok (J,C))(a:nv C J=G (ds,o))(c:ds.length=n)(b:F ds=.ok rv):wZ F n fa U=.ok (rv.pv,o):=by ext wZ;rw[d];show((d7.bR _).bind _)=_;rw[a];show(if ds.length=n then _ else _)=_;rw[ax c,b];rfl
def Sj(d:fa U=.ok (C,o))(a:nv o C=G (ds,J))(c:ds.length=n)(b:F ds=.er x):wZ F n fa U=.er x:=by ext wZ;rw[d];show((d7.bR _).bind _)=_;rw[a];show(if ds.length=n then _ else _)=_;rw[ax c,b];rfl
end
def X1(h:a<b):ZN (.int a) (.int b)=-(.bool M):=by show G (RV.fz (.bool (decide (a≥b))))=_;rw[a5 ()]
def YS(b:(bT B s e).2.length<=1000)(a:i<=[e].length):(cS B s ([e].take i)).2.flatten.length<=1000:=by match i,a with|0,_=>show mT _|1,_=>show([(bT B s e).2].flatten).length<=1000;simp_all
def kf(b l t f:Int):I (Str×SV):=[("bound",.fz (.int b)),("last",.fz (.int l)),("turns",.fz (.int t)),("free_from",.fz (.int f))]
abbrev kC(b t:Int)(s:Int×Int):d?:=.obj "OneKey" (kf b s.1 t s.2)
def kN(t:Int)(s:Int×Int)(r:Int):Bool:=decide (r=s.1)||decide (t<s.2)
def kS(b t:Int)(s:Int×Int)(r:Int):Int×Int:=if kN t s r=u then s else(r,t+b)
def tw(r:Int):Str:=if r=1 then"down"else"up"
def tlD(t:Int)(s:Int×Int)(r:Int):D:=if kN t s r=u then .none else .str (tw r)
section
def QI:(kf b l t f).lookup ("bound":Str)=-(.int b):=W
def Es:(kf b l t f).lookup ("last":Str)=-(.int l):=W
def Rx:(kf b l t f).lookup ("turns":Str)=-(.int t):=W
def Wb:(kf b l t f).lookup ("free_from":Str)=-(.int f):=W
def DN:(kf b l t f).lookup ("tell":Str)=CL:=W
def ZV:dZ "free_from" (.fz (.int 0)) (dZ "turns" (.fz (.int 0)) (dZ "last" (.fz (.int 0)) (dZ "bound" (.fz (.int b)) [])))=kf b 0 0 0:=W
end
def iE{a:cj}(h:a[k]?=G c):(a.set k d)[k]?=G d:=by rw[I! (f_.mp h).1]
def dh{a:cj}(n:k≠j)(h:a[j]?=G c):(a.set k d)[j]?=G c:=by simp_all
def di{J:cj}{k:Nat}(h:o[k]?=G c):(o++J)[k]?=G c:=by rw[oT (f_.mp h).1];show h
def Ma(a:r=0\/r=1):av {1,.str "up",.str "down"} (.int r)=-(.str (tw r)):=by
 rcases a with rfl|rfl
 .show gB
 .show jI
def zv(a:o[k]?=G (kC b t s))(h:r=0\/r=1):gz [.rf k,.fz (.int r)] o=.ok (.fz (tlD t s r)) (o.set k (kC b (t+1) (kS b t s r))):=by
 let(l,f):=s;let e:=iE (d:=kC b (t+1) (l,f)) a;show ij W ?_;show aD (cF (ρ1:=[G _,G _,G _]) (dr (aA W) a Rx) W) ?_;show aD (eh (ah (by ext:2)) (aA W) a (by show 4<100;decide)) ?_;let e1:bf (iQ bx _ (bw _ _ (ap 0))) [G _,-(.int r),-(.int t)] _=.ok _ _:=bp (dI (by ext:1) (dr (aA W) e Es) (cR (lA r l)));let e3:Bk (bf (iQ bx (!1) (bw "OneKey" "last" (ap 0)))) (bf (iQ uT (!2) (bw "OneKey" "free_from" (ap 0)))) [G (.rf k),-(.int r),-(.int t)] (o.set k (kC b (t+1) (l,f)))=.ok (kN t (l,f) r) (o.set k (kC b (t+1) (l,f))):=by ext kN;cases q:decide (r=l)with |true=>rw[q]at e1;show sN e1|false=>rw[q]at e1;show jB e1 (bp (dI (by ext:1) (dr (aA W) e Wb) (cR (oy t f))))
 unfold tlD kS;cases q:kN t _ r with |true=>rw[q]at e3;show mf (gA e3 (fV (ah aU)))|false=>rw[q]at e3;let g:=iE (d:=kC b (t+1) (r,f)) a;show aD (a9 e3 bv) ?_;show aD (eh (by ext:1) (aA W) e (by show 4<100;decide)) ?_;rw[A_];show aD (eh (dI (ah (by ext:6)) (dr (aA W) g QI) (cR (zR t b))) (aA W) g (by show 4<100;decide)) ?_;rw[A_];let w:=Ma h;show fV (ah (by ext:2))
def zj:cb [.rf o.length,.fz (.int b)] (o++[.obj "OneKey" []])=.ok (.fz .none) (o++[kC b 0 (0,0)]):=by
 let a:∀c d:d?,(o++[c]).set o.length d=o++[d]:=λc d=>by simp_all
 let at_:∀c:d?,(o++[c])[o.length]?=G c:=λc=>aO;show lR (ρ:=[G _,G _]) W (ρ1:=[G (.rf o.length),-(.int b)]) ?_;show aD (eh (by ext:1) (aA W) (at_ _) ()) ?_;rw[a];show aD (eh (ah aU) (aA W) (at_ _) (by show 1<100;decide)) ?_;rw[a];show aD (eh (ah aU) (aA W) (at_ _) (by show 2<100;decide)) ?_;rw[a];show(eh (ah aU) (aA W) (at_ _) (by show 3<100;decide)).trans ?_;rw[a,ZV]
def tf(fr:D)(l:Nat):I (Str×SV):=[("frame",.fz fr),("each_key",.rf l)]
section
def y4:(tf fr l).lookup ("frame":Str)=-(fr):=W
def JI:(tf fr l).lookup ("each_key":Str)=G (.rf l):=W
def EF:(tf fr l).lookup ("scan":Str)=CL:=W
def OE:(tf fr l).lookup ("down":Str)=CL:=W
def YB:(tf fr l).lookup ("tell_one":Str)=CL:=W
end
abbrev tC(fr:D)(l:Nat):d?:=.obj "Teller" (tf fr l)
structure TL(ω:cj)(T l:Nat)(fr)(b)(ks:I Nat)(g:Nat->Int×(Int×Int)):Prop where
 t:ω[T]?=G (tC fr l)l:ω[l]?=G (.lst (ks.map .rf))nd:ks.Nodup
 k:∀(j k),ks[j]?=G k->ω[k]?=G (kC b (g j).1 (g j).2)
def Kp(S:I Nat)(b a:cj):Prop:=∀(j)(c),b[j]?=G c->j∉S->a[j]?=G c
def Kp.refl:Kp S ω ω:=λ_ _ h _=>h
def Kp.trans(a:Kp S ω ω1)(b:Kp S ω1 ω2):Kp S ω ω2:=λj c h n=>b j c (a j c h n) n
def Kp.mono(a:Kp S ω ω1)(h:∀x∈S,x∈S'):Kp S' ω ω1:=λj c e n=>a j c e λz=>n (h j z)
def Kp.app:Kp S ω (ω++J):=λ_ _ h _=>di h
def Kp.set(h:i∈S):Kp S ω (ω.set i c):=λj d e n=>dh (λz=>n (z▸h)) e
def Kp.new(h:ω.length<=i):Kp S ω ((ω++J).set i c):=λj d e n=>dh (λz=>by simp_all) (di e)
section
variable{l:Nat}
def TL.apT(h:TL ω T l fr b ks g):T∉ks/\l∉ks/\T≠l:=by
 show#[λz=>?_,λz=>?_,λz=>?_]
 .let(j,a):=q?.mp z;let:=(h.k j T a).symm.trans h.t;ext this
 .let(j,a):=q?.mp z;let:=(h.k j l a).symm.trans h.l;simp_all
 .subst z;let:=h.t.symm.trans h.l;simp_all
def TL.kp(h:TL ω T l fr b ks g)(k:Kp S ω ω')(i:T∉S)(f:l∉S)(e:∀x∈ks,x∉S):TL ω' T l fr b ks g:=#[k _ _ h.t i,k _ _ h.l f,h.nd,λj x a=>k _ _ (h.k j x a) (e x (lq a))]
def TL.app(h:TL ω T l fr b ks g):TL (ω++J) T l fr b ks g:=#[di h.t,di h.l,h.nd,λj x a=>di (h.k j x a)]
def upG(g:Nat->Int×(Int×Int))(i:Nat)(v:Int×(Int×Int)):Nat->Int×(Int×Int):=λj=>if j=i then v else g j
def TL.put(h:TL ω T l fr b ks g){k:Nat}(c:ks[i]?=G k)(v):TL (ω.set k (kC b v.1 v.2)) T l fr b ks (upG g i v):=by
 let n:=h.apT;let f:=lq c;show#[dh (λz=>n.1 (z▸f)) h.t,dh (λz=>n.2.1 (z▸f)) h.l,h.nd,λj x a=>?_];ext upG;by_cases e:j=i
 .subst e
  simp[c]at a
  injections;subst_vars
  rw[ax W];show iE (h.k _ _ c)
 .rw[aE e];show dh (λz=>e ?_) (h.k j x a);subst z;show(Iy (f_.mp a).1 h.nd).mp (a.trans c.symm)
def Tx(c:aS.strOk a=u)(e:aS.strOk b=u):bx (.str a) (.str b)=-(.bool (decide (a=b))):=by show(if((aS.strOk a&&decide _)&&aS.strOk b)=u then G _ else CL)=_;rw[c,e];rfl
def rW(w:Str)(l:Int):Int:=if w="unsure"then l else if w="sure"then 1 else 0
def W6(h:TL o T l fr b C g)(c:C[i]?=G k){w:Str}(j:w="up"\/w="sure"\/w="unsure")(m:(g i).2.1=0\/(g i).2.1=1):fF [.rf T,.fz (nd i),.fz (.str w)] o=.ok (.fz (tlD (g i).1 (g i).2 (rW w (g i).2.1))) (o.set k (kC b ((g i).1+1) (kS b (g i).1 (g i).2 (rW w (g i).2.1)))):=by
 let e:=h.k i k c;let at_:pQ (C.map SV.rf) (i)=G (.rf k):=uE () ();show ij (ρ:=[G _,G _,G _,CL]) W ?_;show aD (cF (VH (dr (aA W) h.t JI) (by ext:1) W h.l at_) W) ?_;let so:aS.strOk w=Ld:=by rcases j with rfl|rfl|rfl<;>left
 let e1:=Tx so (b:="unsure") (by left);let e2:=Tx so (b:="sure") (by left);by_cases u:w="unsure"
 .rw[a4 u]at e1;let a:rW w _=(g i).2.1:=ax u;rw[a];show mf (gA (by ext:1) (fV (cN (aA W) e DN (aq (dr (aA W) e Es) aV) W (zv e m))))
 .rw[a5 u]at e1
  show aD (a9 (by ext:1) bv) ?_;by_cases v:w="sure"
  .rw[a4 v]at e2
   let a:rW w (g i).2.1=1:=by ext rW;rw[aE u,ax v]
   rw[a];let f:af (yp _ (~~~1) (~~~0)) [G (.rf T),-(nd i),-(.str w),G (.rf k)] o=.ok _ o:=ah (show(ai _ _).bind _=_ by rw[show ai (am bx (ae 2) (pC (.str _))) _=.ok _ by ext:6];rfl);show fV (cN (aA W) e DN (aq f aV) W (zv e (.inr W)))
  .rw[a5 v]at e2
   let a:rW w (g i).2.1=0:=by ext rW;rw[aE u,aE v]
   rw[a];let f:af (yp _ (~~~1) (~~~0)) [G (.rf T),-(nd i),-(.str w),G (.rf k)] o=.ok _ o:=ah (show(ai _ _).bind _=_ by rw[show ai (am bx (ae 2) (pC (.str _))) _=.ok _ by ext:6];rfl);show fV (cN (aA W) e DN (aq f aV) W (zv e (.inl W)))
end
def sS:∀(l)(k i:Nat)(d),(bX k l)[i]?=G d->∃x,l[i]?=G x/\d=.tuple [nd (k+i),x]:=by
 intro l
 induction l with|nil=>intro k i d h;contradiction|cons a r b=>intro k i d h;cases i with|zero=>injections;subst_vars;show#[a,W,W]|succ i=>let(x,f,e):=b _ i d h;show#[x,f,by rw[e,P?,Q' 1 i]]
def ZZ{P:α->cj->Prop}(h:Out r P λ_=>False):∃a b,r=.ok a b/\P a b:=by cases r with|ok a b=>show#[a,b,W,h.out]|er x b|bad=>show h.out.elim
def xq(c:Str×Nat):D:=.tuple [.str c.1,nd c.2]
section
variable(b:Int)(g:Nat->Int×(Int×Int))(ws:a8 Str)
def Yn(j:Nat):Int:=rW (ws.getD j "") (g j).2.1
def xz(j:Nat):Int×(Int×Int):=((g j).1+1,kS b (g j).1 (g j).2 (Yn g ws j))
def cw(j:Nat):bb (Str×Nat):=if kN (g j).1 (g j).2 (Yn g ws j)=u then CL else G (tw (Yn g ws j),j)
def zz(n:Nat):I (Str×Nat):=(eI n).filterMap (cw g ws)
def mid(i j:Nat):Int×(Int×Int):=if j<i then xz b g ws j else g j
def U5(i):upG (mid b g ws i) i (xz b g ws i)=mid b g ws (i+1):=by
 funext j;unfold upG mid
 grind
def akR(i):zz g ws (i+1)=zz g ws i++(cw g ws i).toList:=by ext zz;rw[Bx,List.filterMap_append];rfl
def uO(i):(zz g ws i).length<=i:=by let:=K4 (cw g ws) (eI i);rw[n_]at this;show this
end
def WX(h:l=0\/l=1):rW w l=0\/rW w l=1:=by
 ext rW;split
 .show h
 .split
  .show .inr W
  .show .inl W
def TL.lt{l:Nat}(h:TL ω T l fr b ks g):T<ω.length/\l<ω.length/\∀k∈ks,k<ω.length:=#[(f_.mp h.t).1,(f_.mp h.l).1,λk a=>by let(j,e):=q?.mp a;show(f_.mp (h.k j k e)).1]
def TL.ext{l:Nat}(h:TL ω T l fr b ks g)(e:∀j,j<ks.length->g j=g' j):TL ω T l fr b ks g':=#[h.t,h.l,h.nd,λj k a=>by rw[<-e j (f_.mp a).1];show h.k j k a]
def G8(h:TL ω T l fr b U g){ws:a8 Str}(s:ws.length=U.length)(L:fL [fr,rd]=.ok (.fz (.tuple (ws.map .str))))(J:∀w∈ws,w="up"\/w="sure"\/w="unsure")(N:∀j,j<U.length->(g j).2.1=0\/(g j).2.1=1)(S:U.length<=100):∃k,cK [.rf T,.fz rd] ω=.ok (.rf ω.length) k/\k[ω.length]?=cL (.lst (((zz g ws U.length).map xq).map .fz))/\TL k T l fr b U (xz b g ws)/\Kp U ω k:=by
 let lt:=h.lt;let A:Out (cK [.rf T,.fz rd] ω) (λv k=>v=.rf ω.length/\k[ω.length]?=cL (.lst (((zz g ws U.length).map xq).map .fz))/\TL k T l fr b U (xz b g ws)/\Kp U ω k) (λ_=>False):=by
  show vt W ?_;show eS (Fy (aq (dr (aA W) h.t y4) (aq (by ext:1) aV)) W L) W ?_;show eS (c9 (by ext:6)) W ?_;show tD (Ao (λi X k=>∃(y u p:bb SV),X=[cL _,cL _,cL _,cL _,y,u,p]/\TL k T l fr b U (mid b g ws i)/\k[ω.length]?=cL (.lst (((zz g ws i).map xq).map .fz))/\Kp U ω k) (v5 (by ext:6)) #[_,_,_,W,h.app.ext λj _=>(aE (Bs j)).symm,aO,Kp.app] ?_ ?_)
  .rintro i d X k M ⟨y,u,p,rfl,t,ch,kp⟩
   let(x,n,0):=sS _ _ _ _ M;rw[D!];rw[iD]at n;cases q:ws[i]? with |none=>ext|some w=>
   rw[q]at n;ext n;let R:=(f_.mp q).1;let r:i<U.length:=by ext
   let Y:U[i]?=cL _:=j' r;let E:mid b g ws i i=g i:=aE (qT i);let F:ws.getD i ""=w:=by simp_all
   let o:=W6 t Y (J w (lq q)) (by rw[E];show N i r);rw[E]at o;let a:=t.put Y (xz b g ws i);rw[U5]at a;let e0:rW w (g i).2.1=Yn g ws i:=by ext Yn;rw[F]
   rw[e0]at o;let H:U[i]≠ω.length:=by let:=lt.2.2 _ (Dd r);ext
   let f:=dh (d:=kC b (xz b g ws i).1 (xz b g ws i).2) H ch;let m:Kp U ω (k.set _ (kC b (xz b g ws i).1 (xz b g ws i).2)):=kp.trans (Kp.set (Dd r));show#[[cL _,cL _,cL _,cL _,cL _,cL _,p],k,W,?_];show eS (cN (aA W) t.t YB (by ext:1) W o) W ?_;let C:=akR g ws i;let cl:=uO g ws i;ext tlD;unfold cw at C;cases Z:kN _ _ _ with |true=>rw[ax W];let G:pR .none .none=cL _:=W;show vH (a9 (cA (by ext:6)) bv) #[_,_,_,W,a,?_,m];simp_all|false=>
    rw[Z]at C;rw[aE ml];let G:pR (.str (tw (Yn g ws i))) .none=cL _:=W;show vH (gA (cA (by ext:6)) (lP (DC (aA W) f (ah (by ext:2)) f (by rw[dO,dO];ext)))) #[_,_,_,W,a.kp (Kp.set eQ) (by rw[f?];ext) (by rw[f?];ext) (λx n=>by rw[f?];let:=lt.2.2 x n;ext),?_,?_]
    .rw[C];show(iE f).trans ?_;rw[mN,mN];rfl
    .show λj c B I=>dh (λz=>?_) (m j c B I);simp_all
  .rintro X k ⟨y,u,p,rfl,t,ch,kp⟩;rw[eU,dO,s]at t ch;show vT (aA W) #[W,ch,t.ext λj B=>ax B,kp]
 let(v,k,e,0,Q,P,O):=ZZ A;show#[k,e,Q,P,O]
def air(g:LD.kv C x=G xs)(r:xs.length<1000000)(p)(z)(h:∀i y,xs[i]?=G y->∃a,XD y=G a/\∀d,d.length=2->∃c,c.length=2/\gt (.tp [.fz (nd i),a]) d C=.ok c C/\ft c C=.ok (p i) C/\fe c C=.ok (z i) C):∀(n m i)(d)(acc),i+n=xs.length->n<m->acc.length<=i->d.length=2->kZ gt ft fe x m i d C acc=.ok (acc++((vb i n).filter p).map z) C:=by
 intro n
 induction n with |zero=>intro m i d acc o l j f;obtain⟨m,rfl⟩:∃k,m=k+1:=#[m-1,by ext];ext kZ;simp_all|succ n e=>intro m i d acc o l j f;obtain⟨m,rfl⟩:∃k,m=k+1:=#[m-1,by ext];let t:xs[i]?=G xs[i]:=j' _;let(a,v,k):=h i _ t;let(c,b,k1,k2,k3):=k d f;ext kZ;rw[g];dsimp only;rw[t];dsimp only;rw[v];dsimp only;rw[k1,d5,k2,d5,List.range'_succ];cases q:p i with |true=>rw[ax W,k3,d5,ax (),e m _ c _ () () () b,J_ q,pb];rfl|false=>rw[aE ml,e m _ c _ () () () b,I? (by rw[q];show ml)]
def OD(g:Nat->Int×(Int×Int))(n:Nat):I Nat:=(eI n).filter λj=>decide ((g j).2.1=1)
def GU(h:TL o T l fr b C g)(n:C.length<=100):∃J,fD [.rf T] o=.ok (.fz (.tuple (aM (OD g C.length)))) (o++J):=by
 let c:=air (gt:=IP 2 (kT (d4 0) (kT (d4 1) uq))) (ft:=bf (iQ bx (bw _ _ (ap 1)) _)) (fe:=af (ae 0)) (show LD.kv o (.rf l)=_ by ext LD.kv;dsimp only;rw[h.l]) (by rw[dO];ext) _ _ (λi y m=>by rw[iD]at m;cases q:C[i]? with|none=>ext|some k=>
   rw[q]at m;ext m;show#[_,W,λp j=>?_];obtain⟨f,a,rfl⟩:∃f a,p=[f,a]:=by match p,j with|[f,a],_=>show#[f,a,W]
   show#[_,W,W,bp (dI (dr (aA W) (h.k i k q) Es) (ah (d:=.int 1) aU) (cR (lA _ _))),ah (by ext:6)]) C.length 1000000 0 [CL,CL] [] () () (dc _) W
 rw[<-List.range_eq_range']at c;show#[[.lst ((aM (OD g C.length)).map .fz)],?_];show ij W ?_;let e:u8 2 [] (bw "Teller" "each_key" (ap 0)) (IP 2 (kT (d4 0) (kT (d4 1) uq))) (bf (iQ bx (bw "OneKey" "last" (ap 1)) (af (~~~1)))) (!0) [G (.rf T)] o=.ok (.rf o.length) (o++[.lst ((aM (OD g C.length)).map .fz)]):=by ext u8;rw[dr (aA W) h.t JI];show(mh (kZ _ _ _ _ _ 0 [CL,CL] o [])).bind _=_;rw[c,show((eI _).filter _).map _=(aM (OD g _)).map .fz by unfold aM OD;rw[i?];rfl];rfl
 show fV (TW (aq e aV) (ds:=[.list _]) ?_ W);ext aQ;rw[jL aO];rfl
def Nz(n)(c:d?):ey (n+1) c=ey n c++[c]:=by rw[List.replicate_succ']
def EJ{f a:D}{sps:I D}(u:sps.length<=100):∃s,bU [.rf U.length,.fz {1,f,a,.tuple sps},.fz (.int b)] (U++[.obj "Teller" []])=.ok (.fz .none) s/\TL s U.length (U.length+1+sps.length) {1,f,a,.tuple sps} b (vb (U.length+1) sps.length) (λ_=>(0,(0,0)))/\Kp [] U s:=by
 let l:∀(c d:d?)(J:cj),(U++c::J).set U.length d=U++d::J:=λc d J=>by simp_all
 let at_:∀(c:d?)(J:cj),(U++c::J)[U.length]?=G c:=λc J=>by simp_all
 let cm:∀(r:I D)(n:Nat)(o:bb SV),n+r.length<=100->gq (d4 0) nY (jv "OneKey" cb 2 {0,!1}) r [o,-(.int b)] (U++.obj "Teller" [("frame",.fz {1,f,a,.tuple sps})]::ey n (kC b 0 (0,0))) ((vb (U.length+1) n).map .rf)=.ok ((vb (U.length+1) (n+r.length)).map .rf) (U++.obj "Teller" [("frame",.fz {1,f,a,.tuple sps})]::ey (n+r.length) (kC b 0 (0,0))):=by
  intro r
  induction r with |nil=>intro n o _;rfl|cons d r q=>
   intro n o v;rw[j_]at v;let h:(U++.obj "Teller" [("frame",.fz {1,f,a,.tuple sps})]::ey n (kC b 0 (0,0))).length=U.length+1+n:=by rw[jl,j_,p!];ext
   let m:=qW (C:="OneKey") (F:=cb) (n:=2) (fa:=aj (!1) aJ) (ρ:=[-(d),-(.int b)]) (ω:=U++.obj "Teller" [("frame",.fz {1,f,a,.tuple sps})]::ey n (kC b 0 (0,0))) (by ext:1) W zj;rw[h]at m;show((d4 0 (.fz d) [o,-(.int b)] _).bind _)=_;rw[show d4 0 (.fz d) [o,-(.int b)] _=.ok [-(d),-(.int b)] _ from rfl,d5];show(RS.ok Ld _).bind _=_;rw[d5,ax W,m,d5,ax (by rw[dO,CN];ext)];let e1:(vb (U.length+1) n).map SV.rf++[.rf (U.length+1+n)]=(vb (U.length+1) (n+1)).map .rf:=by rw[List.range'_concat,mN,Hz];rfl
   let e2:(U++.obj "Teller" [("frame",.fz {1,f,a,.tuple sps})]::ey n (kC b 0 (0,0)))++[kC b 0 (0,0)]=U++.obj "Teller" [("frame",.fz {1,f,a,.tuple sps})]::ey (n+1) (kC b 0 (0,0)):=by rw[pb,Nz];rfl
   rw[e1,e2,q (n+1) _ (),j_,P?,Q' 1]
 let p:=cm sps 0 CL ();rw[D!]at p;let h:(U++.obj "Teller" [("frame",.fz {1,f,a,.tuple sps})]::ey sps.length (kC b 0 (0,0))).length=U.length+1+sps.length:=by rw[jl,j_,p!];ext
 show#[U++tC {1,f,a,.tuple sps} (U.length+1+sps.length)::(ey sps.length (kC b 0 (0,0))++[.lst ((vb (U.length+1) sps.length).map .rf)]),?_,#[at_ _ _,?_,List.nodup_range',λj k i=>?_],Kp.app]
 .show lR W (ρ1:=[G (.rf U.length),-({1,f,a,.tuple sps}),-(.int b)]) ?_
  show aD (eh (by ext:1) (aA W) (at_ _ []) ()) ?_;rw[l];let e:jO 1 [2] (nZ (dB (1/2))) (d4 0) nY (jv "OneKey" cb 2 {0,!1}) [G (.rf U.length),-({1,f,a,.tuple sps}),-(.int b)] (U++[.obj "Teller" (dZ "frame" (.fz {1,f,a,.tuple sps}) [])])=.ok (.rf (U.length+1+sps.length)) ((U++.obj "Teller" [("frame",.fz {1,f,a,.tuple sps})]::ey sps.length (kC b 0 (0,0)))++[.lst ((vb (U.length+1) sps.length).map .rf)]):=by let t:gq (d4 0) nY _ sps (tU 1 [2] [G (.rf U.length),-({1,f,a,.tuple sps}),-(.int b)]) _ []=.ok _ _:=p;let:=sQ (fi:=nZ (dB (1/2))) (v5 (by ext:6)) t;rw[h]at this;show this
  show(eh e (aA W) (by rw[pb];show at_ _ _) ()).trans ?_;rw[pb];show RS.ok _ ((U++d?.obj "Teller" _::(ey sps.length (kC b 0 (0,0))++[.lst _])).set U.length _)=_;rw[l];rfl
 .rw[oq (),show U.length+1+sps.length-U.length=sps.length+1 by ext,DG,oq (by rw[p!];show dc _),p!,KY];rfl
 .let g:=(f_.mp i).1;rw[CN]at g;rw[List.getElem?_range' g,Hz]at i;ext i;rw[oq (),show U.length+1+j-U.length=j+1 by ext,DG,oT (by rw[p!];show g),z5,ax g]
section
def F4(n){ds:I D}(h:o[i]?=G (.lst (ds.map .fz))):xC (n+1) o (.rf i)=G (.list ds):=by
 ext xC;rw[h];dsimp only;let e:∀ds:I D,aQ (xC n o) (ds.map .fz)=G ds:=λds=>by induction ds with |nil=>rfl|cons d r a=>rw[l4];ext aQ;rw[a,show xC n o _=G d by ext n<;>rfl]
 rw[e];rfl
def zK{d:D}(h:U J C=.ok xs o)(f:aQ B1 xs=CL)(b:aQ (xC 6 o) xs=G ds)(c:xs.length=n)(e:F ds=.ok (.fz d))(a:IQ d=u):gn F n U J C=.ok (.fz d) o:=by
 ext gn;rw[h,d5];ext su;rw[ax c,f];rw[b];show mh (match F ds with |.ok g=>yG o g|_=>.bad)=_
 rw[e];show mh (if IQ d=u then RS.ok _ o else RS.bad)=_;rw[ax a];rfl
def Uy(b:fo U J=.ok (.rf i) C)(g:C[i]?=G (.lst xs0))(f:fe U C=.ok (.rf j) o)(e:o[j]?=G (.lst ys))(c:o[i]?=G (.lst xs))(l:xs.length+ys.length<=1000000):M0 fo fe U J=.ok (.fz .none) (o.set i (.lst (xs++ys))):=by
 let a:∀{J:cj}{i:Nat}{xs:I SV},J[i]?=G (.lst xs)->im J (.rf i)=G (i,xs):=λ{J i xs}h=>by ext im;simp_all
 ext M0;simp[b,d5,a g];show((fe U C).bind _)=_;simp[f,d5,a e];show((RS.bR o (im o _)).bind _)=_;rw[a c];show(if xs.length+ys.length<=1000000 then RS.ok _ _ else .bad)=_;simp_all
def F1(b:sh o x=G J)(a:sh o y=G C)(h:f J C=G (.ow ds)):xG f x y o=.ok (.rf o.length) (o++[.lst (ds.map .fz)]):=by ext xG;rw[b,a];show((RS.bR o _).bind _)=_;rw[h];rfl
def F8(d:fa J U=.ok (.tp l) C)(e:fb J C=.ok y o)(c:HC y=G i)(b:pQ l i=G a):L10.mn fa fb J U=.ok a.sv o:=by ext L10.mn;simp[d,d5,e,d5];ext RN;rw[c];show RS.bR o _=_;rw[b];rfl
def xk(b:fa ρ J=.ok xs C)(a:yU F n xs C=.ok x o):t8 F n fa ρ J=.ok x o:=by ext t8;rw[b,d5,a];rfl
def yk{α:Type}(e)(p)(I:dJ->Prop):∀(xs:a8 α)(d)(acc),I d->acc.length+xs.length<=1000000->(∀x∈xs,∀d,I d->∃c,gt (.fz (e x)) d o=.ok c o/\C c o=.ok (p x) o/\J c o=.ok (.fz (e x)) o/\I c)->gq gt C J (xs.map e) d o acc=.ok (acc++((xs.filter p).map e).map .fz) o:=by
 intro xs
 induction xs with |nil=>intro d acc _ _ _;show RS.ok acc o=RS.ok (acc++[]) o;simp_all|cons x r f=>intro d acc m h b;let(c,l,j,i,g):=b x eQ d m;simp[j_]at h;show((gt _ d o).bind _)=_;simp only[l,d5,j,d5];cases q:p x with |true=>rw[ax W,i,d5,ax (),f c _ g (by rw[jl,z4];ext) λy a=>b y (h_ _ a),J_ q,pb];rfl|false=>rw[aE ml,f c _ g () λy a=>b y (h_ _ a),I? (by rw[q];show ml)]
end
def df(T:Nat)(a st:D):I (Str×SV):=[("teller",.rf T),("bed",.fz a),("standing",.fz st)]
section
def sJ:(df T o st).lookup ("teller":Str)=G (.rf T):=W
def No:(df T o st).lookup ("bed":Str)=-(o):=W
def aaZ:(df T o st).lookup ("standing":Str)=-(st):=W
def Ly:(df T o st).lookup ("run_through":Str)=CL:=W
def t9:(df T o st).lookup ("say":Str)=CL:=W
def abo:(df T o st).lookup ("take_frame":Str)=CL:=W
def abR:(df T o st).lookup ("take_bed":Str)=CL:=W
def abK:(df T o st).lookup ("take_scan":Str)=CL:=W
def Zm:dZ "standing" (.fz st) (dZ "bed" (.fz o) (dZ "teller" (.rf U) []))=df U o st:=W
end
abbrev dC(T:Nat)(a st:D):d?:=.obj "Desk" (df T a st)
abbrev vP:D:=.tuple [.tuple [],.none,.none]
def vg{D:Nat}(A:VB b)(F:SW b s)(C:∀e∈es,EV b e)(hd:U[D]?=cL (dC T (bD b) (kQ s)))(l:U[e]?=cL (.lst ((es.map tY).map .fz)))(u:∀i,i<=es.length->(cS b s (es.take i)).2.flatten.length<=1000)(R:eV [.list ((cS b s es).2.flatten.map nU)]=.ok (.fz (.str z))):∃k,bC [.rf D,.rf e] U=.ok (.fz (.str z)) k/\k[D]?=cL (dC T (bD b) (kQ (cS b s es).1))/\Kp [D,e] U k:=by
 let O:=(f_.mp hd).1;let N:=(f_.mp l).1;let t:Out (bC [.rf D,.rf e] U) (λv k=>v=.fz (.str z)/\k[D]?=cL (dC T (bD b) (kQ (cS b s es).1))/\Kp [D,e] U k) (λ_=>False):=by
  show vt W ?_;show eS (c9 (by ext:6)) W ?_;show tD (Ao (λi P k=>∃(p o:bb SV),P=[cL _,cL _,cL _,p,o]/\k[D]?=cL (dC T _ (kQ (cS b s (es.take i)).1))/\k[U.length]?=cL (.lst (((cS b s (es.take i)).2.flatten.map nU).map .fz))/\Kp [D,e] U k) (qD (aA W) (di l)) #[_,_,W,dh (λq=>by simp_all) (di hd),dh () (aO),Kp.app.trans (Kp.set (h_ _ eQ))] ?_ ?_)
  .rintro i d P k Q ⟨p,o,rfl,f,h,kp⟩
   rw[iD]at Q;cases q:es[i]? with |none=>ext|some ev=>
   rw[q]at Q;ext Q;let E:es.take (i+1)=es.take i++[ev]:=by rw[rp,q];rfl
   let n:SW b (cS b s (es.take i)).1:=uR A _ F λx I=>C x (Ks I);let G:=Nr A n (C ev (lq q)) (ω:=k);let H:cS b s (es.take (i+1))=((bT b (cS b s (es.take i)).1 ev).1,(cS b s (es.take i)).2++[(bT b (cS b s (es.take i)).1 ev).2]):=by rw[E,wq];rfl
   let y:=u _ ((f_.mp q).1);rw[H]at y⊢;rw[List.flatten_append,I_]at y⊢;rw[jl]at y;let M:=(f_.mp h).1;let m:=di (J:=[.lst (((bT b (cS b s (es.take i)).1 ev).2.map nU).map .fz)]) f;let g:=di (J:=[.lst (((bT b (cS b s (es.take i)).1 ev).2.map nU).map .fz)]) h;let r:U.length≠D:=by ext
   show#[_,k,W,?_];show eS (xk (aq (dr (aA W) f No) (aq (dr (aA W) f aaZ) (by ext:1))) G) W ?_;show L6 (lP (Uy (aA W) g (F8 (a:=.rf _) (aA W) (ah aU) W W) aO g (by simp only[dO];ext))) ?_;show vH (eh (F8 (aA W) (ah aU) W W) (aA W) (dh r m) (by show 3<100;decide)) #[_,_,W,?_,?_,?_]
   .show iE (dh r m)
   .rw[mN,mN];show dh (cx r) (iE g)
   .show λj c L B=>dh (λw=>B (w▸eQ)) (dh (λw=>?_) (di (kp j c L B)));simp_all
  .rintro P k ⟨p,o,rfl,f,h,kp⟩;rw[dO,S?]at f h;show vT (zK (by ext:1) W (by ext aQ;rw[F4 5 h];rfl) W R W) #[W,f,kp]
 let(v,k,e1,0,f,h):=ZZ t;show#[k,e1,f,h]
def dq:Nat->D->D->Bool|0,_,_=>M|_+1,.int a,.int b|_+1,.str a,.str b=>a==b|_+1,.none,.none=>u|_+1,.bool a,.bool b=>a==b|n+1,.tuple a,.tuple b|n+1,.list a,.list b=>a.length==b.length&&(a.zip b).all λp=>dq n p.1 p.2|_,_,_=>M
def zE{f:D->D->Bool}(i:∀a b,f a b=u->a=b):∀{a b:I D},(a.length==b.length&&(a.zip b).all λp=>f p.1 p.2)=u->a=b:=by
 intro a
 induction a with
 |nil=>intro b h;cases b with |nil=>rfl|cons y s=>contradiction
 |cons x r g=>intro b h;cases b with|nil=>contradiction|cons y s=>rw[c!]at h;let(j,e):=h;simp only[Jx,xv,c!]at e;rw[i x y e.1,g (by rw[c!];show#[beq_iff_eq.mpr (by simpa using(eq_of_beq j)),e.2])]
def sf:∀(n:Nat)(a b:D),dq n a b=u->a=b:=by
 intro n
 induction n with|zero=>intro a b h;ext h|succ n f=>
  intro a b h;unfold dq at h;split at h
  .ext h
  .rw[eq_of_beq h]
  .rw[eq_of_beq h]
  .rfl
  .rw[eq_of_beq h]
  .rename_i e;ext e;rw[zE f h]
  .rename_i e;ext e;rw[zE f h]
  .ext h
def Jn(r:d7 RV)(d:D):Bool:=match r with |.ok (.fz e)=>dq 8 e d|_=>M
def iY(h:Jn r d=u):r=.ok (.fz d):=by
 unfold Jn at h;split at h
 .rw[sf _ _ _ h]
 .ext h
structure DK(ω:cj)(Q T l:Nat)(fr)(b)(ks)(g)(bed st):Prop where d:ω[Q]?=G (dC T bed st)t:TL ω T l fr b ks g
section
def DK.ne(h:DK ω Q T l fr b ks g bed st):Q≠T/\Q≠l/\Q∉ks:=by
 show#[λz=>?_,λz=>?_,λz=>?_]
 .subst z;show a7 (show("Desk":Str)="Teller"from dt (λc:bb d?=>match c with|some (.obj C _)=>C|_=>"") (h.d.symm.trans h.t.t)) (by left)
 .subst z;let:=h.d.symm.trans h.t.l;simp_all
 .let(j,a):=q?.mp z;show a7 (show("Desk":Str)="OneKey"from dt (λc:bb d?=>match c with|some (.obj C _)=>C|_=>"") (h.d.symm.trans (h.t.k j Q a))) (by trivial)
def toE(c:Str×Nat):qm:=if c.1="down"then .down c.2 else .up c.2
def xJ(n:Int)(cs:I (Str×Nat)):I qm:=(cs.filter λc=>decide ((c.2)<n)).map toE++[.turn]
def Ub{c:Str×Nat}(h:c.1="down"\/c.1="up"):xq c=tY (toE c):=by
 let(x,k):=c;rcases h with h|h
 .subst h;rfl
 .subst h;rfl
def JU:∀e∈xJ B.n cs,EV B e:=by
 intro e a;rcases m?.mp a with a|a
 .let(c,b,0):=gi.mp a
  let:=a6 (n7.mp b).2;ext toE;split
  .show this
  .show this
 .rw[f?.mp a];trivial
def TM{ws:I Str}:∀c∈zz g ws n,c.1="down"\/c.1="up":=by
 intro c a;let(j,_,h):=J!.mp a;unfold cw at h;split at h
 .simp_all
 .injections;subst_vars
  ext tw;split
  .show .inl W
  .show .inr W
def aaC(h:DK ω Q T l fr b ks g (bD B) (kQ s))(y:VB B)(E:SW B s){ws:a8 Str}(V:ws.length=ks.length)(H:fL [fr,rd]=.ok (.fz (.tuple (ws.map .str))))(G:∀w∈ws,w="up"\/w="sure"\/w="unsure")(J:∀j,j<ks.length->(g j).2.1=0\/(g j).2.1=1)(I:ks.length<=100)(q:∀i,i<=(xJ B.n (zz g ws ks.length)).length->(cS B s ((xJ B.n (zz g ws ks.length)).take i)).2.flatten.length<=1000)(D:eV [.list ((cS B s (xJ B.n (zz g ws ks.length))).2.flatten.map nU)]=.ok (.fz (.str z))):∃k,cC [.rf Q,.fz rd] ω=.ok (.fz (.str z)) k/\DK k Q T l fr b ks (xz b g ws) (bD B) (kQ (cS B s (xJ B.n (zz g ws ks.length))).1)/\Kp (Q::ks) ω k:=by
 let ne:=h.ne;let lt:=h.t.lt;let P:=(f_.mp h.d).1;let(a,e1,v,C,k1):=G8 h.t V H G J I;let R:=(f_.mp v).1;let u:=k1 _ _ h.d ne.2.2;let cl:=uO g ws ks.length;generalize hcs:zz g ws ks.length=cs at*;let r:(a.set ω.length .dead)[Q]?=_:=dh () u;let cm:jO 1 [0] (jA (ap 2)) (d4 0) (bf (iQ uT (af (0/1)) (mn (bw "Desk" "bed" (ap 1)) (af (~~~0))))) (!0) [cL (.rf Q),-(rd),cL (.rf ω.length)] a=.ok (.rf (a.set ω.length .dead).length) (a.set ω.length .dead++[d?.lst (((cs.filter λc=>decide ((c.2:Int)<B.n)).map xq).map .fz)]):=by show sQ (qD (aA W) v) ?_;show(yk xq _ (λρ=>∃o,ρ=[o,cL (.rf Q)]) cs _ [] #[CL,W] (by rw[C!];ext) ?_);rintro c _ ρ ⟨o,rfl⟩;show#[_,W,(bp (dI (ah (d:=nd c.2) (aZ (rv:=.fz (nd c.2)) (au W) aU W W jI)) (iu (dr (aA W) r No) (by ext:1) (gB)) (cR (oy _ _)))),ah (by ext:6),_,W]
 let L:(cs.filter λc=>decide ((c.2:Int)<B.n)).map xq++[.tuple [.str "turn",.int 0]]=(xJ B.n cs).map tY:=by ext xJ;rw[mN,i?];congr 1;show rC λc X=>Ub ?_;let:=TM (g:=g) (ws:=ws) (n:=ks.length) c;simp_all
 generalize Z:a.set ω.length .dead=t at*;let U:t.length=a.length:=by rw[<-Z,p_]
 let k2:Kp ks ω t:=λj c e f=>by rw[<-Z];let:=(f_.mp e).1;show dh () (k1 j c e f)
 let A:TL t T l fr b ks (xz b g ws):=by rw[<-Z];show C.kp (S:=[ω.length]) (Kp.set eQ) (by rw[f?];ext) (by rw[f?];ext) λx m=>by rw[f?];let:=lt.2.2 x m;ext
 let F:iQ b6 (jO 1 [0] (jA (ap 2)) (d4 0) (bf (iQ uT (af (0/1)) (mn (bw "Desk" "bed" (ap 1)) (af (~~~0))))) (!0)) (af (bS {pC {1,.str "turn",.int 0}})) [cL (.rf Q),-(rd),cL (.rf ω.length)] a=.ok (.rf (t.length+2)) (t++[d?.lst (((cs.filter λc=>decide ((c.2:Int)<B.n)).map xq).map .fz),d?.lst ([.tuple [.str "turn",.int 0]].map .fz),d?.lst (((xJ B.n cs).map tY).map .fz)]):=by
  let O:(t++[d?.lst (((cs.filter λc=>decide ((c.2:Int)<B.n)).map xq).map .fz)]++[.lst ([.tuple [.str "turn",.int 0]].map .fz)])[t.length]?=cL _:=di aO;let Y:(cs.filter λc=>decide ((c.2:Int)<B.n)).length<=cs.length:=y? _ _;let N:b6 (.list ((cs.filter λc=>decide ((c.2:Int)<B.n)).map xq)) (.list [.tuple [.str "turn",.int 0]])=cL (.ow ((xJ B.n cs).map tY)):=by
   rw[<-L];show(if((cs.filter _).map xq).length+1<=1000000 then cL (RV.ow _)else CL)=_
   grind
  show(dI cm (c9 (by ext:2)) (F1 (jL O) (jL aO) N)).trans ?_;simp_all
 let k5:Kp [] t (t++[d?.lst (((cs.filter λc=>decide ((c.2:Int)<B.n)).map xq).map .fz),d?.lst ([.tuple [.str "turn",.int 0]].map .fz),d?.lst (((xJ B.n cs).map tY).map .fz)]):=Kp.app;let e5:(t++[d?.lst (((cs.filter λc=>decide ((c.2:Int)<B.n)).map xq).map .fz),d?.lst ([.tuple [.str "turn",.int 0]].map .fz),d?.lst (((xJ B.n cs).map tY).map .fz)])[t.length+2]?=cL (d?.lst (((xJ B.n cs).map tY).map .fz)):=by simp_all
 let(p,e6,M,k6):=vg y E JU (k5 _ _ r (by nofun)) e5 q D;show#[p,?_,#[M,?_],?_]
 .show ij W ?_;show aD (cF (sr (dr (aA W) h.d sJ) h.t.t EF (by ext:1) W e1) W) (fV (cN (aA W) u Ly (aq F aV) W e6))
 .show(A.kp k5 (by nofun) (by nofun) λ_ _ z=>by ext z).kp k6 ?_ ?_ ?_
  .simp only[hX,vm,or_false];let:=ne.1;ext
  .simp only[hX,vm,or_false];let:=ne.2.1;ext
  .intro x m z
   simp at z;rcases z with rfl|z
   .show ne.2.2 m
   .let:=lt.2.2 x m;ext
 .intro j c e f
  let:=(f_.mp e).1;show k6 j c (k5 j c (k2 j c e λz=>f (h_ _ z)) (by nofun)) λz=>?_;simp at z;rcases z with rfl|z
  .show f eQ
  .omega
end
def uX(c:aS.strOk a=u)(e:aS.strOk b=u)(h:decide (a=b)=v):bx (.str a) (.str b)=-(.bool v):=by rw[Tx c e,h]
section
def aby(h:DK C Q T l fr b J g U st)(e:gR [.str x]=.ok (.fz o)):∃c,dM [.rf Q,.fz (.str x)] C=.ok (.fz (.str "ok")) c/\DK c Q T l fr b J g o vP/\Kp [Q] C c:=by let ne:=h.ne;show#[_,?_,#[iE h.d,h.t.kp (Kp.set eQ) (by rw[f?];show cx ne.1) (by rw[f?];show cx ne.2.1) λx a=>by rw[f?];show λz=>ne.2.2 (z▸a)],Kp.set eQ];show ij W ?_;show aD (eh (ah (by ext:2)) (aA W) h.d (by show 3<100;decide)) ?_;show aD (eh (ah aU) (aA W) (iE h.d) (by show 3<100;decide)) ?_;rw[A_];rfl
def xL(h:DK J Q T l fr b ks g C st){k:I D}(n:k.length<=100)(t:gS [d0,U,.list k]=.ok (.fz {1,d0,U,.tuple k})):∃s y w v,cV [.rf Q,.fz {1,d0,U,.int b',.tuple k}] J=.ok (.fz (.str "ok")) s/\v.length=k.length/\DK s Q y w {1,d0,U,.tuple k} b' v (λ_=>(0,(0,0))) C vP/\Kp [Q] J s/\∀x∈y::w::v,J.length<=x:=by
 let q:=(f_.mp h.d).1;let(m,e1,f,k1):=EJ (b:=b') n;let e:=k1 _ _ h.d ();let p:=iE (d:=dC J.length C st) e;let lt:=f.lt;let r:av {1,d0,U,.int b',.tuple k} (.int 3)=G _:=Zo () W;show#[_,_,_,_,?_,CN,#[iE e,f.kp (Kp.set eQ) (by rw[f?];ext) (by rw[f?];ext) λx a=>?_],?_,λx a=>?_]
 .show ij W ?_;show aD (eh (qW (aq (ah (by ext:2)) (aq (ah (by ext:2)) aV)) W e1) (aA W) e (by show 3<100;decide)) ?_;show aD (eh (ah aU) (aA W) p (by show 3<100;decide)) ?_;rw[A_];rfl
 .rw[f?];let:=(R!.mp a).1;ext
 .intro j c o i;rw[f?]at i;show dh (cx i) (k1 j c o (by nofun))
 .rcases hX.mp a with rfl|a
  .show dc _
  rcases hX.mp a with rfl|a
  .omega
  .let:=(R!.mp a).1;ext
def aaD(h:DK o Q T l fr b U g J st)(a:fL [fr,C]=.er c):cC [.rf Q,.fz C] o=.er c o:=by
 let e:cK [.rf T,.fz C] o=.er c o:=by show KU W (Oc (JY (QX (aq (dr (aA W) h.t.t y4) (aq (by ext:1) aV)) W a)))
 show KU W (Oc (JY (sr (dr (aA W) h.d sJ) h.t.t EF (by rfl) W e)))
def acZ(h:DK C Q T l fr b J g (bD B) (kQ s))(m:VB B)(o:SW B s){k:Nat}(y:k<B.n)(q:tY e=.tuple [.str w,nd k])(v:EV B e)(t:(bT B s e).2.length<=1000)(n:eV [.list ((cS B s [e]).2.flatten.map nU)]=.ok (.fz (.str z))):∃d,dP [.rf Q,.fz (.str w),.fz (nd k)] C=.ok (.fz (.str z)) d/\DK d Q T l fr b J g (bD B) (kQ (cS B s [e]).1)/\Kp [Q] C d:=by
 let(d,e1,r,k1):=vg m o (λx f=>by simp_all) (di h.d) aO (λi A=>YS t A) n;let ne:=h.ne;let a:Kp [Q] C d:=λj c p u=>k1 j c (di p) λz=>by simp_all
 show#[d,?_,#[r,h.t.kp a (by rw[f?];show cx ne.1) (by rw[f?];show cx ne.2.1) λx f=>by rw[f?];show λz=>ne.2.2 (z▸f)],a];show ij (ρ:=[G _,G _,G _]) W ?_;show aD (a9 (bp (dI (by ext:1) (iu (dr (aA W) h.d No) (ah aU) (gB)) (cR (X1 ())))) bv) ?_;show fV (cN (aA W) h.d Ly (aq (c9 (by rw[l4,q];ext:6)) aV) W e1)
end
def abg:(df T o st).lookup ("take_key":Str)=CL:=W
section
variable{x:D}
def X4(h:C[Q]?=G (dC T J st))(a:bu [.str row]=.ok (.fz {1,.str "frame",x}))(b:cV [.rf Q,.fz x] C=.ok z o):aW [.rf Q,.fz (.str row)] C=.ok z o:=by
 let e:bx (.str "frame") (.str "frame")=G _:=uX (by left) (by left) (W);show na (ρ:=[G _,G _,CL,CL,CL]) (ρ1:=[G (.rf Q),-(.str row),-({1,.str "frame",x}),-(.str "frame"),-(x)]) (ω1:=C) (fe:=aB "Desk" "take_frame" cV 2 (ap 0) {0,!4}) W ?_ ?_
 .show aD (cF (ah (cY (by ext:6) W W a)) W) (mS (by ext:1))
 .show cN (aA W) h abo (by ext:1) W b
def UJ(h:C[Q]?=G (dC T J st))(f:bu [.str row]=.ok (.fz {1,.str "bed",x}))(a:dM [.rf Q,.fz x] C=.ok z o):aW [.rf Q,.fz (.str row)] C=.ok z o:=by
 let e:bx (.str "bed") (.str "frame")=G _:=uX (by left) (by left) (W);let b:bx (.str "bed") (.str "bed")=G _:=uX (by left) (by left) (W);show na (ρ1:=[G (.rf Q),-(.str row),-({1,.str "bed",x}),-(.str "bed"),-(x)]) (ω1:=C) (fe:=aB "Desk" "take_bed" dM 2 (ap 0) {0,!4}) W ?_ ?_
 .show aD (cF (ah (by ext:2)) W) ?_;show aD (cF (ah (by ext:2)) W) ?_;show aD (cF (ah (by ext:2)) W) ?_;show aD (a9 (by ext:1) bv) (mS (by ext:1))
 .show cN (aA W) h abR (by ext:1) W a
def NV(h:o[Q]?=G (dC T C st))(f:bu [.str row]=.ok (.fz {1,.str "scan",x})):aW [.rf Q,.fz (.str row)] o=cC [.rf Q,.fz x] o:=by
 let e:bx (.str "scan") (.str "frame")=G _:=uX (by left) (by left) (W);let b:bx (.str "scan") (.str "bed")=G _:=uX (by left) (by left) (W);let a:bx (.str "scan") (.str "scan")=G _:=uX (by left) (by left) (W);show na (ρ1:=[G (.rf Q),-(.str row),-({1,.str "scan",x}),-(.str "scan"),-(x)]) (ω1:=o) (fe:=mv "Desk" "take_scan" cC 2 (ap 0) {0,!4}) W ?_ ?_
 .show aD (cF (ah (by ext:2)) W) ?_;show aD (cF (ah (by ext:2)) W) ?_;show aD (cF (ah (by ext:2)) W) ?_;show aD (a9 (by ext:1) bv) ?_;show aD (a9 (by ext:1) bv) (mS (by ext:1))
 .show sr (aA W) h abK (by ext:1) W W
def UH{w:Str}(a:w="down"\/w="up")(h:C[Q]?=G (dC T J st))(j:bu [.str row]=.ok (.fz {1,.str w,x}))(b:dP [.rf Q,.fz (.str w),.fz x] C=.ok z o):aW [.rf Q,.fz (.str row)] C=.ok z o:=by
 let so:aS.strOk w=u:=by rcases a with rfl|rfl<;>left
 let i:bx _ (.str "frame")=-(.bool M):=uX so (by left) (by rcases a with rfl|rfl<;>left);let g:bx _ (.str "bed")=-(.bool M):=uX so (by left) (by rcases a with rfl|rfl<;>left);let f:bx _ (.str "scan")=-(.bool M):=uX so (by left) (by rcases a with rfl|rfl<;>rfl);let e:pP (.str w) {1,.str "down",.str "up"}=-(.bool u):=by rw[NM so (by left) (by left)];rcases a with rfl|rfl<;>rfl
 show na (ρ1:=[G (.rf Q),-(.str row),-({1,.str w,x}),-(.str w),-(x)]) (ω1:=C) (fe:=aB "Desk" "take_key" dP 3 (ap 0) {0,!3,!4}) W ?_ ?_
 .show aD (cF (ah (by ext:2)) W) ?_;show aD (cF (ah (by ext:2)) W) ?_;show aD (cF (ah (by ext:2)) W) ?_;show aD (a9 (by ext:1) bv) ?_;show aD (a9 (by ext:1) bv) ?_;show aD (a9 (by ext:1) bv) (mS (by ext:1))
 .show cN (aA W) h abg (by ext:1) W b
def EZ(h:DK C Q T l fr b U g bed st)(a:U.length<=100)(c:gh [.tuple (aM (OD g U.length))]=.ok (.fz (.str z)))(p:bu [.str row]=.ok (.fz {1,.str "keys",x})):∃J,aW [.rf Q,.fz (.str row)] C=.ok (.fz (.str z)) (C++J):=by
 let(J,e):=GU h.t a;show#[J,?_];let o:bx (.str "keys") (.str "frame")=G _:=uX (by left) (by left) (W);let n:bx (.str "keys") (.str "bed")=G _:=uX (by left) (by left) (W);let m:bx (.str "keys") (.str "scan")=G _:=uX (by left) (by left) (W);let j:pP (.str "keys") {1,.str "down",.str "up"}=-(.bool M):=by rw[NM (by left) (by left) (by left)];rfl
 let i:bx (.str "keys") (.str "turn")=G _:=uX (by left) (by left) (W);let f:bx (.str "keys") (.str "keys")=G _:=uX (by left) (by left) (W);show na (ρ1:=[G (.rf Q),-(.str row),-({1,.str "keys",x}),-(.str "keys"),-(x)]) (ω1:=C) (fe:=gn gh 1 {0,aB "Teller" "down" fD 1 (bw "Desk" "teller" (ap 0)) aJ}) W ?_ ?_
 .show aD (cF (ah (by ext:2)) W) ?_;show aD (cF (ah (by ext:2)) W) ?_;show aD (cF (ah (by ext:2)) W) ?_;show aD (a9 (by ext:1) bv) ?_;show aD (a9 (by ext:1) bv) ?_;show aD (a9 (by ext:1) bv) ?_;show aD (a9 (by ext:1) bv) ?_;show aD (a9 (by ext:1) bv) (mS (by ext:1))
 .show tF (aq (cN (dr (aA W) h.d sJ) h.t.t OE aV W e) aV) W c
def W4(h:DK C Q T l fr b U g J st)(a:fL [fr,x]=.ok (.fz y))(c:gf [y]=.ok (.fz z))(p:bu [.str row]=.ok (.fz {1,.str "seen",x})):aW [.rf Q,.fz (.str row)] C=.ok (.fz z) C:=by
 let o:bx (.str "seen") (.str "frame")=G _:=uX (by left) (by left) (W);let n:bx (.str "seen") (.str "bed")=G _:=uX (by left) (by left) (W);let m:bx (.str "seen") (.str "scan")=G _:=uX (by left) (by left) (W);let j:pP (.str "seen") {1,.str "down",.str "up"}=-(.bool M):=by rw[NM (by left) (by left) (by left)];rfl
 let i:bx (.str "seen") (.str "turn")=G _:=uX (by left) (by left) (W);let f:bx (.str "seen") (.str "keys")=G _:=uX (by left) (by left) (W);let e:bx (.str "seen") (.str "seen")=G _:=uX (by left) (by left) (W);show na (ρ1:=[G (.rf Q),-(.str row),-({1,.str "seen",x}),-(.str "seen"),-(x)]) (ω1:=C) (fe:=gn gf 1 {0,agc fL 2 {0,bw "Teller" "frame" (bw "Desk" "teller" (ap 0)),!4}}) W ?_ ?_
 .show aD (cF (ah (by ext:2)) W) ?_;show aD (cF (ah (by ext:2)) W) ?_;show aD (cF (ah (by ext:2)) W) ?_;show aD (a9 (by ext:1) bv) ?_;show aD (a9 (by ext:1) bv) ?_;show aD (a9 (by ext:1) bv) ?_;show aD (a9 (by ext:1) bv) ?_;show aD (a9 (by ext:1) bv) ?_;show aD (a9 (by ext:1) bv) (mS (by ext:1))
 .show tF (aq (Fy (aq (dr (dr (aA W) h.d sJ) h.t.t y4) (aq (by ext:1) aV)) W a) aV) W c
end
abbrev HB:D:=.tuple [.int 1,.int 1,{1,{1,.int 0,.int 0}}]
abbrev V7:D:=.tuple [.int 1,{1,{1,{1,.str "letter",.str "a"}}},.tuple [],.int 1]
def Vc:gS [.int 1,.int 1,.list [.tuple [.int 0,.int 0]]]=.ok (.fz HB):=iY (W)
def Qp:gR [.str "keys 1 wait 1\nlayer a"]=.ok (.fz V7):=iY (by left)
def UB:∃k T l r,gD [.rf ω.length] (ω++[.obj "Desk" []])=.ok (.fz .none) k/\DK k ω.length T l HB 0 r (λ_=>(0,(0,0))) V7 vP/\Kp [] ω k/\∀x∈T::l::r,ω.length<=x:=by
 let(e,e1,g,k1):=EJ (sps:=[.tuple [.int 0,.int 0]]) ();let f:(ω++[d?.obj "Desk" []]).length=ω.length+1:=by simp_all
 let b:e[ω.length]?=G (.obj "Desk" []):=k1 _ _ aO ();let p:=iE (d:=.obj "Desk" (dZ "teller" (.rf (ω.length+1)) [])) b;let o:=iE (d:=.obj "Desk" (dZ "bed" (.fz V7) (dZ "teller" (.rf (ω.length+1)) []))) b;rw[f]at e1 g;let q:=Qp;show#[_,_,_,_,?_,#[iE b,g.kp (S:=[ω.length]) (Kp.set eQ) () (by rw[f?];show ω.length+1+1+1≠_;ext) λx a=>?_],?_,λx a=>?_]
 .show lR (ρ:=[G _]) W (ρ1:=[G (.rf ω.length)]) ?_;let m:af (aG _ 3 {~~~1,~~~1,bS {bK {~~~0,~~~0}}}) [G (.rf ω.length)] _=.ok _ (ω++[d?.obj "Desk" []]):=ah (cY (by ext:6) W W Vc);let h:=qW (n:=3) (aq m (aq (ah aU) aV)) W (by rw[f];show e1);rw[f]at h;show aD (eh h (aA W) b ()) ?_;show aD (eh (ah (by ext:2)) (aA W) p (by show 1<100;decide)) ?_;rw[A_];show(eh (ah aU) (aA W) o (by show 2<100;decide)).trans ?_;rw[Zm,A_]
 .rw[f?];let:=(R!.mp a).1;ext
 .intro j c i _;let:=(f_.mp i).1;show dh () (k1 j c (di i) ())
 .rcases hX.mp a with rfl|a
  .show u? _
  rcases hX.mp a with rfl|a
  .show ω.length<=ω.length+1+1+1;ext
  .let:=(R!.mp a).1;ext
abbrev zf(d:D):bb PV:=-(d)
abbrev zo(l:I D):bb PV:=G (.ow l)
def oM(ns:I Int)(k)(b:0<=k):∃c,bZ [.list (ns.map .int),.int k]=.ok (.fz (.int c)):=by
 obtain⟨n,rfl⟩:∃n:Nat,k=(n):=#[k.toNat,by ext];let a:cX [.list (ns.map .int)]=-(nd ns.length):=(v9 _).trans ();by_cases h:n<ns.length
 .show#[ns[n],bQ (ρ:=[G _,-(nd n)]) W (b8 (D7 (b9 (aZ (rv:=.fz _) (au W) (by ext:6) W W ?_) W) (aZ (au W) (au W) W W (Uq ?_))) W W)]
  .simp[oy,a4 ()]
  simp_all
 .show#[0,bQ (ρ:=[G _,-(nd n)]) W (b8 (Ed (b9 (aZ (rv:=.fz _) (au W) (by ext:6) W W ?_) W) aU) W W)];rw[oy,a5 ()]
def Ze(h:-2^64<i/\i<2^64):fP (.int i) (.int j)=-(.int (i*j)):=QK h
def Dq(h:-2^64<j/\j<2^64):fP (.int i) (.int j)=-(.int (i*j)):=P3 h
def uz(x s m:Int):Int:=((x%1000033+s)*(s+521)%1000033*((x%1000033+s)*(s+521)%1000033)+x/1000033+7*s)%999983/3%m
def oz(hm:0<m):0<=uz x s m/\uz x s m<m:=#[Ij _ (),Iw _ hm]
def cP(x)(p:0<=s)(o:s<1000)(hm:0<m):aI [.int x,.int s,.int m]=.ok (.fz (.int (uz x s m))):=by ext uz;let n:wE (.int x) (.int 1000033)=G _:=AA ();let f:fP (.int (x%1000033+s)) (.int (s+521))=G _:=Dq #[by ext,by ext];generalize(x%1000033+s)*(s+521)=y at f;let e:wE (.int y) (.int 1000033)=G _:=AA ();let g:0<=y%1000033/\y%1000033<1000033:=#[Ij _ (),Iw _ ()];generalize y%1000033=z at e g;let b:fP (.int z) (.int z)=G _:=Dq #[by ext,by ext];let l:EI (.int x) (.int 1000033)=G _:=MP #[by decide,by decide];let j:fP (.int 7) (.int s)=G _:=Ze #[by decide,by decide];generalize z*z=u at b;let a:wE (.int (u+x/1000033+7*s)) (.int 999983)=G _:=AA ();generalize(u+x/1000033+7*s)%999983=v at a;let i:EI (.int v) (.int 3)=G _:=MP #[by decide,by decide];let h:wE (.int (v/3)) _=G _:=AA hm;show bQ W (EE (Aw (by ext:6) W (EE (Aw (by ext:6) W (b8 (by ext:6) W W)))))
def U6{cs:I Nat}(d:z.cps.toList=cs.map (97+·))(a:z.length<=1000000)(b:0<=r)(h:cs[r.toNat]?=G c):L3.mn (.str z) (.int r)=-(.str (me c)):=by show(if z.length<=1000000 then(pQ _ r).map _ else CL)=_;rw[ax a,uE (v:=97+c) b ()];rfl
def Ms(cs:I Nat)(d:z.cps.toList=cs.map (97+·))(b:z.length<=1000000)(e:∀c∈cs,c<26){r:Int}(f:0<=r)(g:r<cs.length):∃c,c<26/\L3.mn (.str z) (.int r)=-(.str (me c)):=by
 let a:r.toNat<cs.length:=by simp_all
 show#[_,e _ (Dd a),U6 d b f (j' a)]
def xl(ns:I Int)(lo a):∃ms:I Int,ms.length<=ns.length/\xM (.list (ns.map .int)) lo a=G (.ow (ms.map .int)):=by
 show#[(ns.drop (HT.hA ns.length 0 lo)).take (HT.hA ns.length ns.length a-HT.hA ns.length 0 lo),?_,?_]
 .rw[p',H!];ext
 .show G _=_;ext ut;simp_all
def kP(a:I (I Nat)):I D:=a.map λK=>.tuple (aM K)
theorem uy:∀a,aS.canLayAll0 (kP a)=u |[]=>rfl|K::r=>by show(aS.canLayAll0 _&&aS.canLayAll0 (kP r))=u;rw[gG,uy r];rfl
theorem zT(s):∀a,((kP a).any λe=>aS.eqv e (.tuple (aM s)))=decide (s∈a)
 |[]=>rfl|K::r=>by
  show(aS.eqvAll _ _||(kP r).any _)=_;rw[zT s r,pJ]
  grind
def Gw(s)(a):rK (.tuple (aM s)) (.list (kP a))=-(.bool (!decide (s∈a))):=by show(if(lj _&&aS.canLayAll0 _)=u then _ else _)=_;simp[ze,uy,ua,ax W,zT]
def yN(cs:I _)(a:cs.length<=1000)(d)(b:cZ d=d):eN (bN (gN 0) bi (0/0) (cs.map chD) (CL::d) [])=.ok (kP (cs.map (·.1))):=by ext kP;rw[i?];show Aj chD _ cs a b λc _=>aZ (au W) aU W W gB
def kA(h:(eI n)[i]?=G k):k=i/\i<n:=by let(b,a):=f_.mp h;rw[Jy]at a;rw[n_]at b;show#[a.symm,b]
def PM(h:VL n o ls)(b:(ms.length)=n)(a:∀m∈ms,VM ls.length o m):VL n o (ls++[ms]):=by
 intro i l e;rcases cQ e with f|⟨rfl,rfl⟩
 .show h i l f
 .show#[b,a]
def WY(a:1<=nl):∃M,A9 [.int 1,.int (nl-1)]=-(.int M)/\1<=M/\(1<nl->M=nl-1):=by show#[_,W,?_];split<;>ext
def OU(c)(L:Nat)(nl)(i:1<=nl):∃m,VM L nl m/\fR [.int c,nd L,.int nl]=.ok (.fz (mD m)):=by
 let n:=cP c (s:=5) (m:=4) () () ();let e:=oz (x:=c) (s:=5) (m:=4) ();generalize uz c 5 4=y at n e;let(l,f,r):=Ms (z:="abcd") [0,1,2,3] (W) (by left) () e.1 (e.2);let(M,p,M1,M2):=WY i;let j:=cP c (s:=7) (m:=M) () () ();let o:=oz (x:=c) (s:=7) (m:=M) ();generalize uz c 7 M=w at j o;let t:=cP c (s:=3) (m:=9) () () ();let b:∃v,bL 6 fY [.int c,nd L,.int nl]=.ok v/\∃m:Mn,VM L nl m/\v=.fz (mD m):=by
  show qG W ?_;show bB (by ext:6) W W ?_;show bB (by ext:6) W W ?_;show bB (ρ3:=[zf _,zf _,zf _,zf _,zf _,zf _]) (by ext:6) W W ?_;show fy (by ext:6) (λq=>?_) (λ_=>cz ?_)
  .rw[c!]at q;let a:=a6 q.1;show ia (by ext:6) W #[.below,by show(L:Int)≠0;ext,W]
  show fy (by ext:6) (λq=>?_) (λ_=>cz ?_)
  .show ia (by ext:6) W #[.none,trivial,W]
  show fy (by ext:6) (λq=>?_) (λ_=>cz ?_)
  .rw[c!]at q;let a:=M2 (a6 q.1);show ia (by ext:6) W #[.ac7 _,#[by ext,by ext],W]
  show fy (by ext:6) (λq=>?_) (λ_=>cz ?_)
  .rw[c!]at q;let a:=M2 (a6 q.1);show ia (by ext:6) W #[.tap l _,#[f,by ext,by ext],W]
  show fy (by ext:6) (λq=>?_) (λ_=>cz ?_)
  .rw[c!]at q;let a:=M2 (a6 q.1);show ia (by ext:6) W #[.once _,#[by ext,by ext],W]
  show b8 (by ext:6) W #[.ab3 l,f,W]
 let(v,h,m,g,0):=b;show#[m,g,h]
structure r_(l0)(cs:I _):Prop where
 vc:∀c∈cs,VC l0 c
 un:cs.Pairwise λa c=>a.1≠c.1
def r_.nil(l0):r_ l0 []:=#[λc a=>(by ext a),R5]
def r_.add(h:r_ l0 cs)(j:2<=s.length)(f:s.Pairwise (·<·))(i:∀k∈s,yD l0 k=u)(g:l<26)(e:s∉cs.map (·.1)):r_ l0 (cs++[(s,l)]):=by
 show#[λc b=>(m?.mp b).elim (h.vc c) λz=>?_,List.pairwise_append.mpr #[h.un,KR _ _,λa m c b=>?_]]
 .rw[f?.mp z];show#[j,f,i,g]
 .rw[f?.mp b];show λz=>e (gi.mpr #[a,m,z])
def UY(a:k<l0.length):∃d,av (mI l0) (nd k)=-(d)/\∃w,av d (.int 0)=-(.str w)/\bx (.str w) (.str "letter")=-(.bool (yD l0 k)):=by
 let e5:yD l0 k=l0[k].isL:=by ext yD;rw[j' a];rfl
 rw[e5];show#[_,Ez (by rw[iD,j' a];rfl),_,wK _,mx _]
def akl(ns:a8 Int)(l0)(P:l0.length<=5):∃cs,r_ l0 cs/\cs.length<=4/\jb [.list (ns.map .int),.int 16,mI l0]=.ok (.fz (.tuple (cs.map chD))):=by
 let O:cX [mI l0]=-(nd l0.length):=(fC _).trans ();let L:kB [nd l0.length]=cL _:=iG ();let G:eN (bN (gN 0) (ai (am bx (am av (am av (ae 1) (ae 0)) (~~~0)) (~~~"letter"))) (ae 0) _ [CL,cL _] [])=.ok _:=uV nd nd (yD l0) (eI l0.length) (by grind) W (λk o=>by let(d,e1,w,e2,e3):=UY (js.mp o);ext:6) λk _ _=>au W;let sp:((eI l0.length).filter (yD l0)).Pairwise (·<·):=KZ _ KA;let so:∀k∈(eI l0.length).filter (yD l0),yD l0 k=Ld:=λk o=>(n7.mp o).2;let J:((eI l0.length).filter (yD l0)).length<=5:=by grind
 generalize(eI l0.length).filter (yD l0)=T at G sp so J;let v:∃X,bL 8 gw [.list (ns.map .int),.int 16,mI l0]=.ok X/\∃cs,r_ l0 cs/\cs.length<=4/\X=.fz (.tuple (cs.map chD)):=by
  show qG W ?_;show bB (bj (by ext:6) W G) W W ?_;show bB (ρ3:=[zf _,zf (.int 16),zf (mI l0),zo (aM T),zo [],CL,CL,CL]) (by ext:6) W W ?_;show i7 (λi U=>∃(cs:a8 _)(e t r n:bb PV),r_ l0 cs/\cs.length<=i/\(e=zo (aM T)\/e=zf (.list (aM T)))/\U=[zf _,zf (.int 16),zf (mI l0),e,zo (cs.map chD),t,r,n]) (ds:=aM (eI 4)) (by ext:6) #[[],_,CL,CL,CL,r_.nil _,dc _,.inl W,W] ?_ ?_
  .rintro i d U hi ⟨cs,e,t,r,n,p,E,C,rfl⟩
   let(k,o,0):=fM hi;let(0,M):=kA o;show#[_,W,?_];let(c,S):=oM ns (16+(k:Int)) ();show bB (by ext:6) W W ?_;let a:eN (bN (gN 0) (ai (am Cr (aG aI 3 (aa (am b6 (ae 1) (am fP _ (ae 0))) _)) (~~~0))) (ae 0) (aM T) [CL,cL _] [])=.ok _:=uV nd nd _ T () W (λj F=>by let dd:=cP (c+31*(j:Int)) (s:=13) (m:=3) () () ();show b9 (aZ (cY (ar (aZ (au W) (aZ aU (au W) W W (Ze #[by decide,by decide])) W W (zR _ _)) (ar aU (ar aU aP))) W W dd) aU W W (Ft _ _)) W) λj _ _=>au W;let f:(T.filter λj:Nat=>decide ((0:Int)<uz (c+31*(j:Int)) 13 3)).Pairwise (·<·):=KZ _ sp;let g:∀j∈T.filter (λj:Nat=>decide ((0:Int)<uz (c+31*(j:Int)) 13 3)),yD l0 j=Ld:=λj F=>so j (n7.mp F).1;generalize T.filter _=s at a f g;let N:cy iW {bE 1 [6] (dB (ae 3)) (gN 0) (ai (am Cr (aG aI 3 {am b6 (ae 1) (am fP (~~~31) (ae 0)),~~~13,~~~3}) (~~~0))) (ae 0)} [zf (.list (ns.map .int)),zf (.int 16),zf (mI l0),e,zo (cs.map chD),zf (nd k),zf (.int c),n]=.ok (.fz (.tuple (aM s)),[zf (.list (ns.map .int)),zf (.int 16),zf (mI l0),zf (.list (aM T)),zo (cs.map chD),zf (nd k),zf (.int c),n]):=by
    rcases C with rfl|rfl
    .show fq (rv:=.fz _) (ar (bj (lL (lZ W) W W) W a) aP) W W
    .show fq (rv:=.fz _) (ar (bj (lL (au W) W W) W a) aP) W W
   show bB N W W ?_;let u:=Gw s (cs.map (·.1));let A:=cP c (s:=17) (m:=3) () () ();generalize uz c 17 3=Z at A;let y:=cP c (s:=19) (m:=4) () () ();let b:=oz (x:=c) (s:=19) (m:=4) ();generalize uz c 19 4=Y at y b;let(l,B,R):=Ms (z:="abxy") [0,1,23,24] (by rfl) (by left) () b.1 (show Y<4 from b.2);show u7 (zw (b9 (aZ (fq (by ext:2) W ((fC _).trans (by rw[bI]))) aU W W (Ft _ _)) W) λ_=>zw (by ext:6) λ_=>b9 (aZ (au W) (bj (W) W (yN cs () [] W)) W W u) W) (λq=>?_) λ_=>lf #[cs,_,_,_,_,p,by ext,.inr W,W]
   let Q:=a6 ((c! _ _▸q:_/\_)).1;show gK (nu (d:=chD (s,l)) W (by ext:6) W W (by grind) W) #[_,_,_,_,_,p.add () f g B (λz=>by simp_all),by simp_all,.inr W,by rw[mN];rfl]
  .rintro U ⟨cs,e,t,r,n,p,E,C,rfl⟩;show b8 (by ext:6) W #[cs,p,E,W]
 let(X,h,cs,I,H,0):=v;show#[cs,I,H,h]
def ZE(g:1<=n)(f:n<=5)(i:rs.length<=3)(l:rs[0]?=G l0)(h:VL n rs.length rs)(a:r_ l0 cs)(j:cs.length<=4)(e:1<=w)(b:w<=4):VB #[n,rs,cs,w]:=by cases rs with |nil=>contradiction|cons x r=>
  injections;subst_vars
  show#[g,f,by simp_all,i,h,j,a.vc,a.un,e,b]
def Vo(ns:a8 Int):∃b,VB b/\nr [.list (ns.map .int),.int 4]=.ok (.fz (bD b)):=by
 let(e,e0):=oM ns 0 ();let d1:=cP e (s:=1) (m:=4) () () ();let b1:=oz (x:=e) (s:=1) (m:=4) ();generalize uz e 1 4=r1 at d1 b1;let Z:=cP e (s:=2) (m:=3) () () ();let b2:=oz (x:=e) (s:=2) (m:=3) ();generalize uz e 2 3=r2 at Z b2;let G:=cP e (s:=23) (m:=4) () () ();let H:=oz (x:=e) (s:=23) (m:=4) ();generalize uz e 23 4=r23 at G H;obtain⟨n,hn⟩:∃n:Nat,1+r1=(n:Int):=#[(1+r1).toNat,by ext];obtain⟨S,E⟩:∃n:Nat,1+r2=(n:Int):=#[(1+r2).toNat,by ext];let O:kB [.int (1+r1)]=cL (aM (eI n)):=by rw[hn];show iG ()
 let P:kB [.int (1+r2)]=cL (aM (eI S)):=by rw[E];show iG ()
 let A:∃rv,bL 8 iU [.list (ns.map .int),.int 4]=.ok rv/\∃b:Bd,VB b/\rv=.fz (bD b):=by
  show qG W ?_;ext iU;show bB (by ext:6) W W ?_;show bB (by ext:6) W W ?_;show bB (by ext:6) W W ?_;show bB (ρ3:=[zf (.list (ns.map .int)),zf (.int 4),zf (.int e),zf (.int (1+r1)),zf (.int (1+r2)),zo [],CL,CL]) (by ext:6) W W ?_;show i7 (λi ρ=>∃(g:a8 (a8 Mn))(z y:bb PV),g.length=i/\VL (1+r1) (1+r2) g/\ρ=[zf (.list (ns.map .int)),zf (.int 4),zf (.int e),zf (.int (1+r1)),zf (.int (1+r2)),zo (g.map mI),z,y]) (ρ1:=[zf (.list (ns.map .int)),zf (.int 4),zf (.int e),zf (.int (1+r1)),zf (.int (1+r2)),zo [],CL,CL]) (by ext:6) #[[],CL,CL,W,(λj r h=>by ext h),W] ?_ ?_
  .rintro i d ρ hi ⟨g,z,y,v,C,rfl⟩
   let(L,Y,0):=fM hi;let(0,X):=kA Y;show#[_,W,?_];let mu:fP (.int (1+r1)) (nd L)=cL _:=Ze #[by ext,by ext];let(xs,c1,c2,c3):=mq (gt:=gN 0) (ft:=bi) (fe:=aG bZ 2 {ae 1,am b6 (am b6 (~~~1) (am fP (ae 2) (ae 3))) (ae 0)}) (ds:=aM (eI n)) (λρ=>∃o,ρ=[o,-(.list (ns.map .int)),-(.int (1+r1)),-(nd L)]) (λ_ x=>∃a:Int,x=.int a/\True) #[CL,W] (by rw[bI,n_];ext) (by rintro j d l ρ ⟨o,rfl⟩;let(k,hk,0):=fM l;let(c,J):=oM ns (1+(1+r1)*L+k) (by let:=Int.mul_nonneg (show 0<=1+r1 by ext) (show(0:Int)<=L by ext);ext);show#[.int c,_,lX W W (by ext:6) W W,#[_,W],c,W,trivial]);let(cs,0,_):=zh (f:=aS.int) (Q:=λ_(_:Int)=>True) xs 0 c3;rw[bI,n_,dO]at c2;show bB (bj (cs:=[.list (ns.map .int),.int (1+r1),nd L]) (by ext:6) W c1) W W ?_;let(M,c4,c5,c6):=mq (gt:=gN 0) (ft:=bi) (fe:=aG fR 3 {ae 0,ae 1,ae 2}) (ds:=cs.map .int) (λρ=>∃o,ρ=[o,-(nd L),-(.int (1+r2))]) (λ_ x=>∃a:Mn,x=mD a/\VM L (1+r2) a) #[CL,W] (by grind) (by
    rintro j d l ρ ⟨o,rfl⟩;obtain⟨c,rfl⟩:∃c:Int,d=.int c:=by rw[iD]at l;cases q:cs[j]? with |none=>rw[q]at l;ext l|some x=>rw[q]at l;show#[x,(lp l).symm]
    let(m,w,em):=OU c L (1+r2) ();show#[mD m,_,lX W W (by ext:6) W W,#[_,W],m,W,w])
   let(u,0,R):=zh (f:=mD) (Q:=λ_ a=>VM L (1+r2) a) M 0 c6;rw[dO,dO]at c5;let F:(g.map mI).length<1000000:=by grind
   show gK (pv:=.fz .none) (ρ1:=[zf (.list (ns.map .int)),zf (.int 4),zf (.int e),zf (.int (1+r1)),zf (.int (1+r2)),zo _,zf (nd L),zf (.list (cs.map .int))]) (nu (pa:=.fz (mI u)) (d:=mI u) W (fq (rv:=.fz (mI u)) (ar (bj (ds:=cs.map .int) (lL (lZ W) W W) W c4) aP) W W) W W F W) #[g++[u],_,_,by rw[jl,v];rfl,PM C () (λm hm=>?_),by rw[mN];rfl];let(t,T):=q?.mp hm;rw[v];show R t m T
  .rintro ρ ⟨g,z,y,v,C,rfl⟩;rw[bI,n_]at v;obtain⟨p,I⟩:∃p,g[0]?=cL p:=#[_,j' ()];let U:=(C 0 p I).1;let(cs,w,N,J):=akl ns p ();let tu:iW [.list (g.map mI)]=cL _:=W;show b8 (qX (ds:=[.int (1+r1),.tuple (g.map mI),.tuple (cs.map chD),.int (1+r23)]) (ar (au W) (ar (by ext:6) (ar (cY (ar (au W) (ar aU (ar (aZ (rv:=.fz (mI p)) (lZ W) aU W W (EN () ())) aP))) W W J) (by ext:6)))) W (nE W)) W #[_,ZE () () () I () w N () (),W]
 let(rv,h,b,B,0):=A;show#[b,B,h]
def tx(l:I Nat):Str:=#[l.toArray]
def zA(l):(tx l).length=l.length:=W
abbrev Dn(l:I Nat):D:=.str (tx l)
def uw{α:Type}{f g:α->D}(I:bM->Prop)(xs:a8 α)(r:xs.length<=1000000)(p:I C)(h:∀x∈xs,∀k,I k->∃c,kF gt bi fe (f x) k=.ok (G (g x),c)/\I c):eN (bN gt bi fe (xs.map f) C [])=.ok (xs.map g):=by
 let(b,o,n,m):=mq (ds:=xs.map f) I (λi y=>∃x,xs[i]?=G x/\y=g x) p () (by intro i d t k j;cases q:xs[i]? with |none=>ext|some x=>
   obtain rfl:d=f x:=by simp_all
   let(c,e,a):=h x (lq q) k j;show#[_,_,e,a,x,W,W])
 simp[o];congr 1;show D0 λi=>?_;rw[iD];cases q:b[i]? with
 |none=>
  let:xs.length<=i:=by let:=DB.mp q;rw[n,dO]at this;show this
  rw[KW this];rfl|some y=>let(x,l,0):=m i y q;rw[l];rfl
def Nm(a b n:Nat):e?.Str.strSliceIndices (G (a)) (G (b)) 1 n=e?.Str.strSliceIndices (G (Nat.cast (min a n))) (G (Nat.cast (min b n))) 1 n:=by
 ext e?.Str.strSliceIndices
 grind
def RZ(h:w.length<=1000){b:Nat}(i:a<=b):hJ (.str (tx w)) (G (a)) (G (b))=-(.str (tx ((w.drop a).take (b-a)))):=by
 let f:=zA w;let g:Txt.slice (tx w) (G (a)) (G (b))=tx ((w.drop a).take (b-a)):=by
  let e:=amF (tx w) (a:=min a w.length) (b:=min b w.length) () ();rw[f,<-Nm]at e;let e2:((tx w).cps.toList.drop (min a w.length)).take (min b w.length-min a w.length)=(w.drop a).take (b-a):=by
   show(w.drop _).take _=_;by_cases q:a<=w.length
   .rw[O! q,List.take_eq_take_iff,H!];ext
   .rw[t_ (),t_ (),Ak,Ak]
  rw[e2]at e;ext Txt.slice;rw[f];split
  .rename_i z
   rw[c!]at z;let z:=eq_of_beq z.2;rw[Nm,amG () (),dO,n_]at z;rw[q0 (by rw[H!];ext)];by_cases q:a=0
   .rw[q];rfl
   .rw[List.length_eq_zero_iff.mp (show w.length=0 by ext),List.drop_nil]
  .rw[e];rfl
 show(if(tx w).length<=1000000 then G _ else CL)=_
 grind
def YZ(a:Nat)(n):e?.Str.strSliceIndices (G (a)) CL 1 n=e?.Str.strSliceIndices (G (a)) (G (n)) 1 n:=by
 ext e?.Str.strSliceIndices
 grind
def S0(h:e?.Str.strSliceIndices lo J 1 x.length=e?.Str.strSliceIndices o C 1 x.length):hJ (.str x) lo J=hJ (.str x) o C:=by show(if x.length<=1000000 then G _ else CL)=(if x.length<=1000000 then G _ else CL);ext Txt.slice;rw[h]
def agY(h:w.length<=1000)(a:Nat):hJ (Dn w) (G (a)) CL=-(Dn (w.drop a)):=by
 rw[S0 (YZ _ _),zA];let e:=S0 (Nm a w.length (tx w).length);simp only[zA]at e;rw[e,RZ h ()];by_cases q:a<=w.length
 .rw[O! q,q0 ()]
 .rw[t_ (),t_ (),Ak]
def g6{pv:PV}(a:fo J=.ok (pv,C))(c:yS pv=G z)(d:fa C=.ok (U,o))(hd:xP o U=G ds)(b:f z ds=G rv):ue f fo fa J=.ok (rv.pv,o):=by ext ue;simp[a,d3];simp only[c,aC,d3,d,d3,hd,aC,d3,b,aC,d3]
def lh(k:Nat):Str:=#[#v[48+k]]
def Xx:∀k:Nat,k<10->KS (toString (k:Int))=lh k:=by left
def oG(b:0<=i)(a:i<=9):iX [.int i]=-(.str (lh i.toNat)):=by
 show(if i.natAbs<10^30 then G _ else CL)=_;let e:i=((i.toNat)):=by ext
 rw[ax ()]
 conv=>lhs;rw[e]
 rw[Xx _ ()]
def wS:Mn->Str|.ab3 c=>me c|.ac7 n=>#[#v[62,48+n.toNat]]|.tap c n=>#[#v[97+c,62,48+n.toNat]]|.once n=>#[#v[126,48+n.toNat]]|.none=>#[#v[46]]|.below=>#[#v[95]]
def gJ(e:a++b=c)(h:a.length+b.length<=1000):cT (.str a) (.str b)=-(.str c):=by
 show(if a.length+b.length<=1000000 then G _ else CL)=_
 grind
def tV(b:aS.strOk a=u):fO (.str a) (.str a)=-(.bool M):=by ext fO;rw[show lj _=u by ext lj;rw[show aS.canLay0 (.str a)=u from b];rfl,show aS.canLay0 (.str a)=u from b,show aS.eqv _ _=(a==a)from rfl,dN];rfl
def Th(c:aS.strOk a=u)(e:aS.strOk b=u)(h:(a==b)=M):fO (.str a) (.str b)=-(.bool u):=by ext fO;rw[show lj _=u by ext lj;rw[show aS.canLay0 (.str a)=u from c];rfl,show aS.canLay0 (.str b)=u from e,show aS.eqv _ _=(a==b)from rfl,h];rfl
def ZU{d:D}{r:I D}:xM (.list (d::r)) (G 1) CL=G (.ow r):=by show G _=_;let a:HT.hA (d::r).length 0 (G 1)=1:=W;ext ut;rw[a,HT.km,Jj,OR,q0 ()]
def aij(b:fr J=.ok (U,C))(hd:nv C U=G ([d],o))(a:fA d=G es):wb fr J=.ok (bX 1 es,o):=by ext wb;rw[b,d3,hd,aC,d3];dsimp only;simp[a,aC,d3]
def gb{α:Type}{f g:α->D}(xs:I α)(p:xs.length<=1000000)(e:cZ cp=cp)(b:∀x∈xs,fe (-(f x)::cp)=.ok (.fz (g x),-(f x)::cp)):eN (bN (gN 0) bi fe (xs.map f) (CL::cp) [])=.ok (xs.map g):=by
 let(a,m,l,j):=mq (gt:=gN 0) (ft:=bi) (ds:=xs.map f) (λr=>∃o,r=o::cp) (λi y=>∃x,xs[i]?=G x/\y=g x) #[_,W] () (by rintro i d t r ⟨o,rfl⟩;cases q:xs[i]? with |none=>ext|some x=>
   obtain rfl:d=f x:=by simp_all
   let n:cZ (G (PV.fz (f x))::cp)=-(f x)::cp:=by show Cg _::cZ cp=_;rw[e];rfl
   show#[_,_,lX W W (b x (lq q)) W n,#[_,W],x,W,W])
 rw[m];congr 1;show D0 λi=>?_;rw[iD];cases q:a[i]? with
 |none=>
  let:xs.length<=i:=by let:=DB.mp q;rw[l,dO]at this;show this
  rw[KW this];rfl|some y=>let(x,h,0):=j i y q;rw[h];rfl
def LP:(" ":Str)=#[#v[32]]:=W
def LQ:("\n":Str)=#[#v[10]]:=W
def sF(n w:Nat):Str:=iw #[#v[32]] ["keys",lh n,"wait",lh w]
def rJ(l:I Mn):Str:=iw #[#v[32]] ("layer"::l.map wS)
def nN(s:I Nat):Str:=iw #[#v[43]] (s.map lh)
def ul(c:I Nat×Nat):Str:=iw #[#v[32]] ["chord",nN c.1,me c.2]
def eF(b:Bd):I Str:=b.ls.map rJ++b.cs.map ul
def mH(b:Bd):Str:=iw #[#v[10]] (sF b.n.toNat b.wt.toNat::eF b)
def Pr:∀n,n<10->∀w,w<10->("keys ")++lh n++(" wait ")++lh w=sF n w:=by left
def Vh:("chord ")=("chord":Str)++#[#v[32]]:=W
def VY(m):(wS m).length<=3:=by ext m<;>(first|show(show 1<=3 by decide)|show(show 2<=3 by decide)|show(show 3<=3 by decide))
def aw{α:Type}{P:α->Prop}{a:α}{l:I α}(f:P a)(e:∀x∈l,P x):∀x∈a::l,P x:=λx b=>by
 rcases hX.mp b with z|z
 .rw[z];show f
 .show e x z
def xW(l:I Mn):∀w∈("layer":Str)::l.map wS,w.length<=5:=aw (by trivial) λw a=>by let(m,_,0):=gi.mp a;show la (VY m) ()
def mr(s:I Nat):∀w∈s.map lh,w.length<=1:=λw a=>by let(k,_,0):=gi.mp a;show dc _
def Bo(h:s.length<=5):(nN s).length<=10:=by let:=gC (d:=43) (mr s);rw[dO]at this;ext nN;ext
def Vf{c:I Nat×Nat}(h:c.1.length<=5):∀w∈[("chord":Str),nN c.1,me c.2],w.length<=10:=aw (by trivial) (aw (Bo h) (aw (by show 1<=10;decide) λ_ z=>by simp_all))
def Cc(h:l.length<=5):(rJ l).length<=36:=by let:=gC (d:=32) (xW l);rw[j_,dO]at this;ext rJ;ext
def CV(h:c.1.length<=5):(ul c).length<=36:=by let:=gC (d:=32) (Vf h);let e:[("chord":Str),nN c.1,me c.2].length=3:=W;rw[e]at this;ext ul;ext
def akN:∀n,n<10->∀w,w<10->(sF n w).length<=36:=by left
section
def YG:av (bD b) (.int 0)=-(.int b.n):=gB
def Za:av (bD b) (.int 1)=-(.tuple (b.ls.map mI)):=jI
def Mt:av (bD b) (.int 2)=-(.tuple (b.cs.map chD)):=ny
def HI:av (bD b) (.int 3)=-(.int b.wt):=Zo () W
def V0(h:VC l0 c):c.1.length<=l0.length:=by show An h.2.1 λk hm=>?_;let:=h.2.2.1 k hm;unfold yD at this;cases q:l0[k]? with|none=>ext|some m=>show(f_.mp q).1
def sA(h:VB b)(a:l∈b.ls):1<=l.length/\l.length<=5/\∃i:Nat,∀m∈l,VM i b.ls.length m:=by let(i,g):=q?.mp a;let(f,e):=h.vl i l g;let:=h.n1;let:=h.n5;show#[by ext,by ext,i,e]
def Dz(h:VB b)(e:c∈b.cs):2<=c.1.length/\c.1.length<=5/\(∀k∈c.1,k<10)/\c.2<26:=by
 let v:=h.vc c e;let g:(b.ls.headD []).length<=5:=by cases q:b.ls with |nil=>show mT _|cons f r=>show(sA h ()).2.1
 let:=V0 v;show#[v.1,by ext,λk a=>?_,v.2.2.2];let:=v.2.2.1 k a;unfold yD at this
 grind
def wJ(h:VB b):∀r∈sF b.n.toNat b.wt.toNat::eF b,r.length<=36:=by
 let i:=h.n5;let g:=h.w4;show aw (akN _ () _ ()) λr a=>?_;rcases m?.mp a with z|z
 .let(l,e,0):=gi.mp z;show Cc (sA h e).2.1
 .let(c,f,0):=gi.mp z;show CV (Dz h f).2.1
def wk(h:VB b):(eF b).length<=7:=by
 let e:=h.l3;let a:=h.c4;ext eF
 grind
def zu(a:∀k∈s,k<10)(f:s.length<=5):eN (bN (gN 0) bi (cy iX {ae 0}) (aM s) [CL] [])=.ok ((s.map lh).map .str):=by
 let:=gb (fe:=cy iX {ae 0}) (cp:=[]) s () W λk e=>by let b:=a k e;show fq (by ext:6) W (oG (i:=(k)) () ())
 rw[i?];show this
def OT(a:∀k∈s,k<10)(b:s.length<=5):eE "+" [.list ((s.map lh).map .str)]=-(.str (nN s)):=kJ (mr s) (by grind)
def vX:iw #[#v[d]] (x::y::r)=x++#[#v[d]]++iw #[#v[d]] (y::r):=W
def YQ(h:VM L o m)(a:x=32\/x=10):Fr x (wS m):=by cases m with |ab3 c|none|below=>intro z;let:=f?.mp (z);ext|ac7 n=>intro z;let z:x∈[62,48+n.toNat]:=z;grind|once n=>intro z;let z:x∈[126,48+n.toNat]:=z;grind|tap c n=>intro z;let z:x∈[97+c,62,48+n.toNat]:=z;grind
def lY(a:x<48):Fr x (lh k):=by intro z;let:=f?.mp (z);ext
def Ll(a:x<97):Fr x (me c):=by intro z;let:=f?.mp (z);ext
def xc:Fr 32 "keys"/\Fr 32 "wait"/\Fr 32 "layer"/\Fr 32 "chord"/\Fr 10 "keys"/\Fr 10 "wait"/\Fr 10 "layer"/\Fr 10 "chord":=by ext Fr;trivial
def K1(a:x≠43)(h:x<48):Fr x (nN s):=pO a λw b=>by let(k,_,0):=gi.mp b;show lY h
def nw{P:Str->Prop}:∀w∈([]),P w:=λ_ z=>by ext z
def abi(a:x=32\/x=10):∀s∈[("keys":Str),lh n,"wait",lh w],Fr x s:=by
 let(g,f,_,_,e,b,_,_):=xc;rcases a with rfl|rfl
 .show aw g (aw (lY ()) (aw f (aw (lY ()) nw)))
 .show aw e (aw (lY ()) (aw b (aw (lY ()) nw)))
def Yp{l:I Mn}(b:∀m∈l,VM L o m)(a:x=32\/x=10):∀s∈("layer":Str)::l.map wS,Fr x s:=by
 let(_,_,g,_,_,_,f,_):=xc;show aw ?_ λs e=>by let(m,hm,0):=gi.mp e;show YQ (b m hm) a
 rcases a with rfl|rfl
 .show g
 .show f
def ZX{c:I Nat×Nat}(a:x=32\/x=10):∀s∈[("chord":Str),nN c.1,me c.2],Fr x s:=by
 let(_,_,_,e,_,_,_,b):=xc;rcases a with rfl|rfl
 .show aw e (aw (K1 () ()) (aw (Ll ()) nw))
 .show aw b (aw (K1 () ()) (aw (Ll ()) nw))
def RA(h:VB b):∀r∈sF b.n.toNat b.wt.toNat::eF b,Fr 10 r:=by
 show aw (pO () (abi (.inr W))) λr e=>?_;rcases m?.mp e with z|z
 .let(l,f,0):=gi.mp z;let(_,_,i,a):=sA h f;show pO () (Yp a (.inr W))
 .let(c,g,0):=gi.mp z;show pO () (ZX (.inr W))
def Ko:I Mn:=(eI 26).map .ab3++(eI 26).map (λc=>.tap c 1)++(eI 26).map (λc=>.tap c 2)++[.ac7 1,.ac7 2,.once 1,.once 2,.none,.below]
def sB(h:VM L o m)(b:o<=3):m∈Ko:=by
 let a:∀{n:Int},1<=n/\n<o->n=1\/n=2:=λh=>by ext
 ext Ko;simp only[m?,gi,js,hX,vm,or_false];cases m with
 |ab3 c=>show .inl (.inl (.inl #[c,h,W]))|tap c n=>
  rcases a h.2 with rfl|rfl
  .show .inl (.inl (.inr #[c,h.1,W]))
  .show .inl (.inr #[c,h.1,W])|ac7 n|once n=>rcases a h with rfl|rfl<;>trivial|none|below=>trivial
def yK:(Ko.all λm=>Jn (g8 [mD m]) (.str (wS m))&&Jn (et [.str (wS m)]) (mD m))=u:=by left
def adj(h:VM L o m)(a:o<=3):g8 [mD m]=.ok (.fz (.str (wS m))):=iY ((c! _ _).mp (j?.mp yK m (sB h a))).1
def afW(h:VM L o m)(a:o<=3):et [.str (wS m)]=.ok (.fz (mD m)):=iY ((c! _ _).mp (j?.mp yK m (sB h a))).2
def Ra(h:VB b):dL [bD b]=.ok (.fz (.str (mH b))):=by
 let T:=h.n1;let S:=h.n5;let O:=h.w1;let N:=h.w4;let U:=h.l3;let X:=h.c4;let e0:=YG (b:=b);let e1:=Za (b:=b);let e2:=Mt (b:=b);let e3:=HI (b:=b);let R:=oG (i:=b.n) () ();let Q:=oG (i:=b.wt) () ();let er:=Pr b.n.toNat () b.wt.toNat ();let u:("keys ":Str).length=5:=W;let M:(" wait ":Str).length=6:=W;let a1:cT (.str "keys ") (.str (lh b.n.toNat))=cL _:=gJ W (by rw[u];show 5+1<=1000;decide);let Z:cT (.str (("keys ":Str)++lh b.n.toNat)) (.str " wait ")=cL _:=gJ W (by show 5+1+6<=1000;decide);let Y:cT _ (.str (lh b.wt.toNat))=cL _:=gJ er (by show 5+1+6+1<=1000;decide);show bQ W ?_;ext fu;ext:3
 with_reducible apply i7 (λi n=>∃e:bb PV,n=[-(bD b),cL (.ow ((sF b.n.toNat b.wt.toNat::(b.ls.take i).map rJ).map .str)),e,CL,CL])
 .rfl
 .show#[CL,W]
 .rintro i d n hi ⟨e,rfl⟩
  rw[iD]at hi;cases q:b.ls[i]? with|none=>ext|some l=>
   obtain rfl:d=mI l:=by simp_all
   let(A,z,j,y):=sA h (lq q);let B:=(f_.mp q).1;let o:=gb (f:=mD) (g:=λm=>.str (wS m)) (fe:=aG g8 1 {ae 0}) (cp:=[]) l () W λm hm=>by show cY (rv:=.fz (.str (wS m))) (by ext:6) W W (adj (y m hm) ())
   let E:(l.map λm=>aS.str (wS m))=(l.map wS).map .str:=by rw[i?];rfl
   rw[E]at o;let t:eE " " [.list ((("layer":Str)::l.map wS).map .str)]=-(.str (rJ l)):=by rw[LP];show kJ (xW l) (by grind)
   let H:b6 (.list [.str "layer"]) (.list ((l.map wS).map .str))=cL (.ow ((("layer":Str)::l.map wS).map .str)):=by
    show(if 1+((l.map wS).map aS.str).length<=1000000 then cL (RV.ow _)else CL)=_
    grind
   let F:ue eE (~~~" ") {am b6 (bS {pC (.str "layer")}) (bE 1 [] (dB (ae 2)) (gN 0) bi _)} [-(bD b),cL (.ow ((sF b.n.toNat b.wt.toNat::(b.ls.take i).map rJ).map .str)),-(mI l),CL,CL]=.ok _:=g6 (rv:=.fz (.str (rJ l))) aU W (ar (aZ (by ext:6) (bj (by ext:6) W o) W W H) aP) W t
   show#[_,W,gK (pv:=.fz .none) (nu W F W W (by grind) W) #[-(mI l),?_]];rw[rp,q];simp_all
 .rintro n ⟨e,rfl⟩
  with_reducible apply i7 (λi n=>∃r p:bb PV,n=[-(bD b),cL (.ow ((sF b.n.toNat b.wt.toNat::(b.ls.map rJ++(b.cs.take i).map ul)).map .str)),e,r,p])
  .rfl
  .simp_all
  .rintro i d n hi ⟨r,p,rfl⟩
   rw[iD]at hi;cases q:b.cs[i]? with |none=>ext|some c=>
    obtain rfl:d=chD c:=by simp_all
    let(C,a,v,G):=Dz h (lq q);let o:=zu v a;let w:=OT v a;let u:=Bo a;let cl:("chord ":Str).length=6:=W;let P:(" ":Str).length=1:=W;let L:cT (.str "chord ") (.str (nN c.1))=cL _:=gJ W ();let J:cT (.str (("chord ":Str)++nN c.1)) (.str " ")=cL _:=gJ W (by rw[pk];ext);let I:cT (.str (("chord ":Str)++nN c.1++(" ":Str))) (.str (me c.2))=-(.str (ul c)):=gJ (by ext ul;rw[vX,vX,Vh,LP];show _=_++(_++_++me c.2);simp only[avt]) (by rw[pk,pk];let:(me c.2).length=1:=W;ext);show#[[-(bD b),cL _,e,-(.tuple (aM c.1)),-(.str (me c.2))],W,gK (pv:=.fz .none) (nu W (aZ (rv:=.fz (.str (ul c))) (aZ (rv:=.fz (.str _)) (aZ (rv:=.fz (.str _)) aU (g6 (rv:=.fz (.str (nN c.1))) aU W (ar (bj (by ext:6) W o) aP) W w) W W L) aU W W J) (by ext:6) W W I) W W (by grind) W) #[-(.tuple (aM c.1)),-(.str (me c.2)),?_]];rw[rp,q];simp_all
  .rintro n ⟨r,p,rfl⟩
   rw[dO,q0 (dc _)];let t:eE "\n" [.list ((sF b.n.toNat b.wt.toNat::eF b).map .str)]=-(.str (mH b)):=by rw[LQ];let:=wk h;show kJ (wJ h) (by grind)
   show b8 (g6 (rv:=.fz (.str (mH b))) aU W (by ext:6) W t) W W
end
section
def B7(h:b=x):G (RV.fz (.bool b))=-(.bool x):=by rw[h]
def Bc{xs:I D}(h:∀(i:Nat)(x),xs[i]?=G x->x=.bool u):v3 [.list xs]=-(.bool u):=by
 let:um xs=G (ey xs.length u):=by induction xs with |nil=>rfl|cons x r a=>let e:x=.bool u:=h 0 x W;subst e;show(um r).map _=_;rw[a λi y b=>h (i+1) y (by assumption)];rfl
 show(um xs).map _=_;simp_all
def Ey(d:aS.strOk a=u)(i:aS.strOk b=u)(g:aS.strOk c=u)(f:aS.strOk e=u)(h:(b==a||(c==a||e==a))=v):pP (.str a) {1,.str b,.str c,.str e}=-(.bool v):=by rw[abN d i g f,h]
def agk(h:VB b):gO [bD b]=.ok (.fz .none):=by
 let e0:=YG (b:=b);let e1:=Za (b:=b);let e2:=Mt (b:=b);let e3:=HI (b:=b);let e:(1:Int)<=((b.ls.map mI).length):=by rw[dO];let:=h.l1;ext
 let a:(((b.ls.map mI).length):Int)<=3:=by rw[dO];let:=h.l3;ext
 let f:¬(4:Int)<((b.cs.map chD).length):=by rw[dO];let:=h.c4;ext
 show bQ (ρ:=[G _]) W ?_;ext fm;ext:3
 .intro q
  simp only[a4 h.n1,a4 h.n5,a4 e,a4 a]at q
  contradiction
 intro _;ext:3
 .intro q
  rw[a5 f,a4 h.w1,a4 h.w4]at q
  contradiction
 intro _;show lf W
def rP(h:c<26):dA [.str (me c)]=.ok (.fz (.bool u)):=by
 let e:∀c,c<26->Nx "a" (me c)=u:=by trivial
 let b:∀c,c<26->Nx (me c) "z"=u:=by trivial
 let e2:Yf (.str "a") (.str _)=G _:=B7 (e c h);let e3:Yf (.str _) (.str "z")=G _:=B7 (b c h);show bQ W ?_;ext jF;ext:3;rfl
def Js(s)(a):pP (.tuple (aM s)) (.list (kP a))=-(.bool (decide (s∈a))):=by show(if(lj _&&aS.canLayAll0 _)=u then _ else _)=_;simp[ze,uy,ua,ax W,zT]
def De(L a:Nat):Mn->Bool |.ab3 _=>u|.ac7 n|.tap _ n|.once n=>decide (n<a)|.none=>u|.below=>decide (L≠0)
def ML:((eI 3).all λL=>(eI 4).all λa=>Ko.all λm=>!De L a m||Jn (kG [mD m,nd L,nd a]) (.bool u))=u:=by left
def abL{L a:Nat}(h:VM L a m)(b:L<3)(d:a<=3):kG [mD m,nd L,nd a]=.ok (.fz (.bool u)):=by
 let v:De L a m=u:=by cases m with |ab3 c|none=>rfl|ac7 n|once n=>show a4 h.2|tap c n=>show a4 h.2.2|below=>show a4 λz=>h (by rw[z];rfl)
 let:=j?.mp (j?.mp (j?.mp ML L (js.mpr b)) a (js.mpr ())) m (sB h ());rw[v]at this;show iY this
def sG(h:VB b)(c:i<b.ls.length):ju [bD b,nd i]=.ok (.fz .none):=by
 let e0:=YG (b:=b);let e1:=Za (b:=b);let e2:av (.tuple (b.ls.map mI)) (nd i)=-(mI b.ls[i]):=Ez ();let(f,e):=h.vl i _ (j' c);generalize b.ls[i]=l at e2 f e;let e3:cX [mI l]=-(nd l.length):=by show G (RV.fz (nd _))=_;simp_all
 let e4:fO (nd l.length) (.int b.n)=-(.bool M):=by rw[pH,a4 f];rfl
 let e5:cX [.tuple (b.ls.map mI)]=-(nd b.ls.length):=by rw[fC,dO]
 show bQ (ρ:=[G _,G _,CL,CL,CL]) W ?_;ext gx;ext:3
 .intro q;ext q
 intro _;ext:3;show KG (λ_ n=>∃o g:bb PV,n=[G _,G _,G _,o,g]) (by ext:6) #[_,_,W] ?_ (λ_ _=>W);rintro j d n a ⟨o,g,rfl⟩;simp only[gc,iD]at a;cases q:l[j]? with |none=>ext|some m=>rw[q]at a;ext a;let p:=abL (e m (lq q)) (by let:=h.l3;ext) h.l3;show#[_,W,(u7 (b:=M) (by ext:2) (λz=>by contradiction) λ_=>lf #[_,_,W])]
def MG(v:2<=s.length)(g:s.Pairwise (·<·))(q:s.length<=5):uu [.tuple (aM s)]=.ok (.fz (.bool Ld)):=by
 let a:HT.hA s.length 0 (G 1)=1:=by let:=HT.nH s.length 0 1;grind
 let h:xM (.tuple (aM s)) (G 1) CL=-(.tuple (aM (s.drop 1))):=by
  show(if kH _ _ CL=Ld then CL else G _)=_;let w:kH (aM s).length (G 1) CL=M:=by ext kH;rw[bI,a];rfl
  rw[w,aE ml];ext ut;rw[bI,a,HT.km];ext aM;rw[<-List.map_drop,q0 ()]
 let(u,l,A,i):=mq (gt:=gT 2 (iM (gN 0) (iM (gN 1) rE))) (ft:=bi) (fe:=am uT (ae 0) (ae 1)) (ds:=vd (aM s) (aM (s.drop 1))) (λE=>∃o p,E=[o,p]) (λ_ x=>x=.bool Ld) #[_,_,W] (by rw[wY,bI];ext) (by rintro j d b E ⟨o,p,rfl⟩;rw[wF]at b;cases C:(aM s)[j]? with|none=>ext|some x=>cases B:(aM _)[j]? with |none=>rw[C,B]at b;contradiction|some y=>
    rw[C,B]at b
    injections;subst_vars
    let(x,f,0):=fM C;let(y,e,0):=fM B;rw[List.getElem?_drop]at e;let lt:x<y:=by let(t,r):=f_.mp f;let(n,m):=f_.mp e;let:=DA.mp g j _ t n ();rw[r,m]at this;show this
    let z:uT (nd x) (nd y)=-(.bool Ld):=by rw[oy];simp_all
    show#[_,_,lX W W (by ext:6) W W,#[_,_,W],W])
 show bQ W ?_;show b8 (fq (ar (bj (by ext:6) W l) aP) W (Bc i)) W W
def zL(h:VB b)(y:VC (b.ls.headD []) c):iC [bD b,.tuple (aM c.1)]=.ok (.fz (.bool Ld)):=by
 let(v,p,i,_):=y;let(s,l):=c;dsimp only at v p i⊢;obtain⟨a,r,e⟩:∃a r,b.ls=a::r:=by cases q:b.ls with|nil=>let:=h.l1;simp_all|cons a r=>show#[a,r,W]
 rw[e,J7]at i;let E:=(h.vl 0 a (by rw[e];rfl)).1;let g:∀k∈s,k<a.length:=λk hm=>by let:=i k hm;unfold yD at this;cases q:a[k]? with|none=>rw[q]at this;contradiction|some m=>show(f_.mp q).1
 let u:s.length<=5:=by let G:=h.n5;let:=An p g;ext
 let e0:=YG (b:=b);let e1:=Za (b:=b);let e2:av (.tuple (b.ls.map mI)) (.int 0)=-(mI a):=by rw[e];show gB
 let B:cX [.tuple (aM s)]=-(nd s.length):=by rw[fC,bI]
 let er:=MG v p u;let(C,A,H,z):=mq (gt:=gN 0) (ft:=bi) (fe:=Am (eB uH uT (~~~0) (ae 0) (1/0)) (am bx (am av (am av (am av (1/1) (~~~0)) (ae 0)) (~~~0)) (pC (.str _)))) (ds:=aM s) (λn=>∃o,n=[o,-(bD b)]) (λ_ x=>x=.bool Ld) #[_,W] (by rw[bI];ext) (by
  rintro j d w n ⟨o,rfl⟩;let(k,t,0):=fM w;let f:=lq t;let F:=g k f;let e3:av (mI a) (nd k)=-(mD a[k]):=Ez ();let e4:=wK a[k];let e5:bx (.str (wd a[k])) (.str "letter")=-(.bool Ld):=by rw[mx];let:=i k f;unfold yD at this;simp_all
  let e7:uT (nd k) (.int b.n)=-(.bool Ld):=by rw[oy];grind
  show#[_,_,lX W W (by ext:6) W W,#[_,W],W])
 show bQ (ρ:=[cL _,cL _]) W ?_;show fy (by ext:6) (λq=>?_) (λq=>cz ?_)
 .grind
 .show b8 (fq (ar (bj (by ext:6) W A) aP) W (Bc z)) W W
def Mp(h:VB b)(j:p<b.cs.length):jd [bD b,nd p]=.ok (.fz .none):=by
 let e2:=Mt (b:=b);let e3:av (.tuple (b.cs.map chD)) (nd p)=-(chD b.cs[p]):=Ez ();let g:=h.vc _ (Dd j);let e4:av (chD b.cs[p]) _=G _:=gB;let e5:av (chD b.cs[p]) _=G _:=jI;let o:=rP g.2.2.2;let es:=zL h g;let n:xM (.tuple (b.cs.map chD)) CL (G (p))=-(.tuple ((b.cs.take p).map chD)):=by
  let l:HT.hA b.cs.length b.cs.length (G (p))=p:=by rw[HT.nH];ext
  show(if kH _ CL _=u then CL else G _)=_;let w:kH (b.cs.map chD).length CL (G (p))=M:=by
   ext kH
   grind
  rw[w];ext ut;rw[dO,l,Im];rfl
 let r:=h.c4;let f:=yN (b.cs.take p) (by grind) [] W;let a:pP (.tuple (aM b.cs[p].1)) (.list (kP ((b.cs.take p).map (·.1))))=-(.bool M):=by rw[Js];show B7 (a5 λz=>?_);let(c,m,e):=gi.mp z;let(i,t,e2):=R3.mp m;rw[p']at t;rw[List.getElem_take]at e2;let:=DA.mp h.cu i p () j ();rw[e2]at this;show this e
 show bQ W ?_;ext gy;ext:3
 .intro q;contradiction
 intro _;show u7 (b9 (aZ (by ext:6) (bj (by ext:6) W f) W W a) W) (λz=>by contradiction) λ_=>lf W
def agj(h:VB b):oX [bD b]=.ok (.fz (bD b)):=by
 let e1:=Za (b:=b);let e2:=Mt (b:=b);let p:=h.l3;let q:=h.c4;let m:cX [.tuple (b.ls.map mI)]=-(nd b.ls.length):=by rw[fC,dO]
 let o:cX [.tuple (b.cs.map chD)]=-(nd b.cs.length):=by rw[fC,dO]
 let l:=iG (n:=b.ls.length) ();let j:=iG (n:=b.cs.length) ();show bQ W ?_;show F0 (cY (by ext:6) W W (agk h)) ?_
 with_reducible apply i7 (λ_ r=>∃t:bb PV,r=[G _,t,CL])
 .ext:6
 .show#[_,W]
 .rintro i d r v ⟨t,rfl⟩;let(k,f,0):=fM v;let(0,a):=kA f;let g:=sG h a;show#[_,W,gK (by ext:6) #[_,W]]
 rintro r ⟨t,rfl⟩
 with_reducible apply i7 (λ_ r=>∃e:bb PV,r=[G _,t,e])
 .ext:6
 .show#[_,W]
 .rintro i d r v ⟨e,rfl⟩;let(k,f,0):=fM v;let(0,a):=kA f;let g:=Mp h a;show#[_,W,gK (by ext:6) #[_,W]]
 rintro r ⟨e,rfl⟩;ext:3;rfl
end
def kX{α:Type}{f:α->D}{l:I α}(h:∀a∈l,aS.canLay0 (f a)=u/\aS.eqv (f a) .none=M):cH [.list (l.map f)]=.ok (.fz (.tuple (l.map f))):=by
 let e1:pP .none (.list (l.map f))=-(.bool M):=by show(if(lj _&&aS.canLayAll0 _)=u then G _ else CL)=_;rw[Au λa b=>(h a b).1,show lj _=u from rfl];simp_all
 show bQ W ?_;show fy (by ext:6) (λq=>by simp_all) (λq=>cz ?_);ext:3;rfl
def Ph:((eI 6).all λn=>(eI 5).all λw=>match eK (sF n w) [.str " "]with |some (.ow ws)=>Jn (fQ [.list ws]) {1,nd n,nd w}|_=>M)=u:=by left
def SY(b:n<=5)(a:w<=4):∃ws,eK (sF n w) [.str " "]=G (.ow ws)/\fQ [.list ws]=.ok (.fz {1,nd n,nd w}):=by
 let h:=j?.mp (j?.mp Ph n (js.mpr ())) w (js.mpr ());split at h
 .rename_i ws e;show#[ws,e,iY h]
 simp_all
def zP(h:VM L o m)(a:o<=3):aS.canLay0 (mD m)=u/\aS.eqv (mD m) .none=M:=by
 let:(Ko.all λm=>aS.canLay0 (mD m)&&!aS.eqv (mD m) .none)=u:=by left
 let:=j?.mp this m (sB h a);simp_all
section
def slL{l:I Mn}:xM (.list ((("layer":Str)::l.map wS).map .str)) (G 1) CL=G (.ow ((l.map wS).map .str)):=ZU
def Oe(h:1<=l.length)(g:l.length<=5)(a:∀m∈l,VM L o m)(b:o<=3):iI [.list ((("layer":Str)::l.map wS).map .str)]=.ok (.fz (mI l)):=by
 let e:cX [.list ((("layer":Str)::l.map wS).map .str)]=-(nd (l.length+1)):=by show G (RV.fz (nd _))=_;simp_all
 let lt:uT (nd (l.length+1)) (.int 2)=-(.bool M):=by
  show G _=_
  grind
 let f:av (.list ((("layer":Str)::l.map wS).map .str)) _=G _:=A3;let ne:fO _ (.str "layer")=G _:=tV (by left);let cm:eN (bN (gN 0) bi (aG et 1 {ae 0}) ((l.map wS).map .str) [CL] [])=.ok (l.map mD):=by
  let:=gb (fe:=aG _ 1 {ae 0}) (cp:=[]) l () W λm hm=>by show cY (by ext:6) W W (afW (a m hm) b)
  rw[i?];show this
 let i:=slL (l:=l);show bQ W ?_;show fy (by ext:6) (λq=>by ext q) (λ_=>cz ?_);show b8 (cY (ar (bj (by ext:6) W cm) aP) W W (kX λm hm=>zP (a m hm) b)) W W
def aj0{l:I Mn}:∃d,hW [.list ((("layer":Str)::l.map wS).map .str)]=.ok (.fz d):=by
 let e:av (.list ((("layer":Str)::l.map wS).map .str)) _=G _:=A3;let ne:fO (.str "layer") (.str "chord")=G _:=Th (by left) (by left) (W);show#[.none,?_];show bQ W ?_;let:=wA (b:=u) (f:=ai (am fO (cy cX {ae 0}) (~~~3))) (g:=yf (ai (am fO (0/0) (pC (.str _)))) (kR (ai (aG dA 1 {0/2})))) (ρ:=[-(.list _),CL]) (by ext:6) λ_=>wA (a:=u) (b:=u) (by ext:6) λz=>by ext z
 rw[B8]at this;show fy this (λq=>ia aU W W) (λq=>by ext q)
def WE:((eI 10).all λk=>Jn (bA [.str (lh k)]) (nd k))=u:=by left
def AQ(h:k<10):bA [.str (lh k)]=.ok (.fz (nd k)):=iY (j?.mp WE k (js.mpr h))
def xX(j:c<48)(m:s≠[])(n:s.length<=100)(i:∀k∈s,k<10):dS [.str (iw #[#v[c]] (s.map lh)),.str #[#v[c]]]=.ok (.fz (.tuple (aM s))):=by
 let g:=gC (d:=c) (mr s);rw[dO]at g;let sp:=iR (ws:=s.map lh) (by rw[Ne,Ji];show m) (λw h=>by let(k,_,0):=gi.mp h;show lY j) () (by rw[dO];ext);let cm:eN (bN (gN 0) bi (aG bA 1 {ae 0}) ((s.map lh).map .str) [CL] [])=.ok (aM s):=by
  let:=gb (fe:=aG _ 1 {ae 0}) (cp:=[]) s () W λk a=>by let e:=AQ (i k a);show cY (by ext:6) W W e
  rw[i?];show this
 let b:=kX (f:=nd) (l:=s) λk _=>#[W,W];show bQ W ?_;show b8 (cY (ar (bj (lL (g6 (au W) W (ar (au W) aP) W sp) W W) W cm) aP) W W b) W W
def Oq{c:I Nat×Nat}:iI [.list [.str "chord",.str (nN c.1),.str (me c.2)]]=.ok (.fz .none):=by let ne:fO (.str "chord") (.str "layer")=G _:=Th (by left) (by left) (W);show bQ W (fy (by ext:6) (λq=>ia aU W W) (λq=>by contradiction))
def MO(j:2<=c.1.length)(i:c.1.length<=5)(a:∀k∈c.1,k<10)(e:c.2<26):hW [.list [.str "chord",.str (nN c.1),.str (me c.2)]]=.ok (.fz (chD c)):=by let h:av (.list [.str "chord",.str (nN c.1),.str (me c.2)]) (.int 2)=G _:=EN () W;let ne:fO _ (.str "chord")=G _:=tV (by left);let g:=rP e;let f:pW (.tuple (aM c.1)) .none=G _:=W;show bQ (ρ:=[G _,CL]) W ?_;show fy (b:=M) (by ext:2) (λq=>by ext q) (λ_=>cz ?_);show bB (cY (by ext:6) W W (by show xX () (λz=>by simp_all) () a)) W W ?_;show fy (by ext:6) (λq=>by ext q) (λ_=>cz (b8 (by rfl) W W))
end
section
abbrev eW(t:Str)(rs:I Str)(nm:D)(a:I (I Mn))(cs:I (I Nat×Nat))(f e d c b:bb PV):bM:=[-(.str t),G (.ow (rs.map .str)),-(nm),G (.ow (a.map mI)),G (.ow (cs.map chD)),f,e,d,c,b]
def Ri(b:l.length<=5)(a:∀m∈l,VM L o m):eK (rJ l) [.str " "]=G (.ow ((("layer":Str)::l.map wS).map .str)):=by let:=Cc b;show iR () (Yp a (.inl W)) (by unfold rJ at this;ext) (by grind)
def RT(a:c.1.length<=5):eK (ul c) [.str " "]=G (.ow [.str "chord",.str (nN c.1),.str (me c.2)]):=by let:=CV a;show iR () (ZX (.inl W)) (by unfold ul at this;ext) (by show 3<=1000000;decide)
def Rq(i):(∃l,b.ls[i]?=G l/\(eF b)[i]?=G (rJ l))\/(b.ls.length<=i/\(eF b)[i]?=(b.cs[i-b.ls.length]?).map ul):=by
 ext eF;by_cases h:i<b.ls.length
 .show .inl #[_,j' h,by rw[oT (by rw[dO];show h),iD,j' h];rfl]
 .show .inr #[by ext,by rw[oq (by rw[dO];ext),dO,iD]]
def SI(h:VB b):gR [.str (mH b)]=.ok (.fz (bD b)):=by
 let U:=h.n1;let T:=h.n5;let Q:=h.w1;let P:=h.w4;let X:=h.l3;let Y:=h.c4;let R:=wk h;let G:=gC (d:=10) (wJ h);rw[j_]at G;let z:eK (mH b) [.str "\n"]=cL (.ow ((sF b.n.toNat b.wt.toNat::eF b).map .str)):=by rw[LQ];show iR () (RA h) () (by grind)
 let(ws,y,u):=SY (n:=b.n.toNat) (w:=b.wt.toNat) () ();let M:(nd b.n.toNat)=.int b.n:=by grind
 let L:(nd b.wt.toNat)=.int b.wt:=by grind
 rw[M,L]at u;let O:=agj h;let N:ED (.list ((sF b.n.toNat b.wt.toNat::eF b).map .str)) (cL 1) CL=cL (.ow ((eF b).map .str)):=by show cL _=_;ext ut;rw[dO,j_,HT.km];rw[show HT.hA ((eF b).length+1) 0 (cL 1)=1 by rfl];rw[l4,Jj,OR,q0 ()]
 generalize hr0:sF b.n.toNat b.wt.toNat=Z at*;show bQ W ?_;ext kM;show bB (pv:=.ow ((Z::eF b).map .str)) (g6 (rv:=.ow ((Z::eF b).map .str)) (au W) W (ar aU aP) W z) W W ?_;show bB (cY (ar (g6 (rv:=.ow ws) (aZ (rv:=.fz (.str Z)) (lZ W) aU W W A3) W (ar aU aP) W y) aP) W W u) W W ?_;let S:pW {1,.int b.n,.int b.wt} .none=-(.bool fg):=W;show fy (b:=fg) (by ext:6) (λq=>by ext q) (λ_=>cz ?_);show bB (pv:=.ow []) (by ext:6) W W ?_;show bB (pv:=.ow []) (ρ3:=eW (mH b) (Z::eF b) {1,.int b.n,.int b.wt} [] [] CL CL CL CL CL) (by ext:6) W W ?_;show i7 (λi ρ=>∃r p o m g,ρ=eW (mH b) (Z::eF b) {1,.int b.n,.int b.wt} (b.ls.take i) (b.cs.take (i-b.ls.length)) r p o m g) (aij (d:=.list ((eF b).map .str)) (ar (Gf (rv:=.ow ((eF b).map .str)) (dx:=.list ((Z::eF b).map .str)) (lZ W) (by ext:6) (by ext:6) W N) aP) W W) #[CL,CL,CL,CL,CL,by simp_all] ?_ ?_
 .rintro i d ρ hi ⟨r,p,o,m,g,rfl⟩
  let(x,a,0):=sS _ _ _ _ hi;rw[iD]at a;rcases Rq (b:=b) i with⟨l,e1,e2⟩|⟨e1,e2⟩
  .rw[e2]at a;ext a;let H:=(f_.mp e1).1;let(E,f,j,v):=sA h (lq e1);let A:=Oe E f v ();let(t,B):=aj0 (l:=l);let F:pR (mI l) .none=-(.bool Ld):=W;rw[show i-b.ls.length=0 by ext,Ih];show#[_,W,?_];show bB (g6 (au W) W (ar aU aP) W (Ri f v)) W W ?_;show bB (by ext:6) W W ?_;show bB (ρ3:=eW (mH b) (Z::eF b) {1,.int b.n,.int b.wt} (b.ls.take i) [] (-(nd (1+i))) (-(.str (rJ l))) _ (-(mI l)) (-(t))) (by ext:6) W W (gK (pv:=.fz .none) (ρ1:=eW (mH b) (Z::eF b) {1,.int b.n,.int b.wt} (b.ls.take (i+1)) [] (-(nd (1+i))) (-(.str (rJ l))) _ (-(mI l)) (-(t))) (nu (es:=(b.ls.take i).map mI) (ds:=(b.ls.take i).map mI) W (au W) W W (by rw[dO,p'];ext) (by rw[rp,e1];show List.set _ 3 _=_;ext eW;rw[JK,mN];rfl)) #[-(nd (1+i)),-(.str (rJ l)),_,-(mI l),-(t),by rw[show i+1-b.ls.length=0 by ext,Ih]])
  .rw[e2]at a
   cases q:b.cs[i-b.ls.length]? with|none=>ext|some c=>rw[q]at a;ext a;let H:=(f_.mp q).1;let(C,f,I,J):=Dz h (lq q);let A:=MO C f I J;let B:=Oq (c:=c);let F:pR .none .none=-(.bool fg):=W;show#[_,W,?_];show bB (g6 (au W) W (ar aU aP) W (RT f)) W W ?_;show bB (by ext:6) W W ?_;show bB (ρ3:=eW (mH b) (Z::eF b) {1,.int b.n,.int b.wt} (b.ls.take i) (b.cs.take (i-b.ls.length)) (-(nd (1+i))) (-(.str (ul c))) (-(.list [.str "chord",.str (nN c.1),.str (me c.2)])) (-(.none)) (-(chD c))) (by ext:6) W W ?_;show gK (pv:=.fz .none) (ρ1:=eW (mH b) (Z::eF b) {1,.int b.n,.int b.wt} (b.ls.take (i+1)) (b.cs.take (i+1-b.ls.length)) (-(nd (1+i))) (-(.str (ul c))) (-(.list [.str "chord",.str (nN c.1),.str (me c.2)])) (-(.none)) (-(chD c))) (nu W (au W) W W (by rw[dO,p'];ext) ?_) #[_,_,_,_,_,W];rw[show i+1-b.ls.length=i-b.ls.length+1 by ext,rp (l:=b.cs),q,q0 (e1),q0 (show b.ls.length<=i+1 by ext)];simp_all
 .rintro ρ ⟨r,p,o,m,g,rfl⟩
  rw[eU,dO];let e:(eF b).length=b.ls.length+b.cs.length:=by ext eF;simp_all
  rw[q0 (),q0 ()];show b8 (pv:=.fz (bD b)) (cY (rv:=.fz (bD b)) (ds:=[bD b]) (by ext:6) W W O) W W
end
def Uo(t):("bed\n"++t:Str).cps.toList=[98,101,100,10]++t.cps.toList:=by show(("bed\n":Str).cps++t.cps).toList=_;rw[E1,show("bed\n":Str).cps.toList=[98,101,100,10]by rfl]
def MR(t):Txt.startswith ("bed\n"++t) "bed\n"=u:=by show(decide _&&e?.Str.subAt _ _ 0)=u;rw[Ke,pk,a4 ()];rw[(Uo t)];rfl
def Ow(e:z.cps.toList=c::r)(h:c≠98):Txt.startswith z "bed\n"=M:=by
 show(decide _&&e?.Str.subAt z _ 0)=M;rw[Ke,OR,e];let:((c::r).take ("bed\n":Str).length==("bed\n":Str).cps.toList)=M:=by rw[beq_eq_false_iff_ne];intro z;let z:c::r.take 3=[98,101,100,10]:=z;simp_all
 rw[this,O3]
def Pi(h:t.length<=900):bu [.str ("bed\n"++t)]=.ok (.fz {1,.str "bed",.str t}):=by
 let a:hJ (.str ("bed\n"++t)) (G (4)) CL=-(.str t):=by let e:("bed\n"++t)=tx _:=EX (Uo t);let:=agY (w:=[98,101,100,10]++t.cps.toList) (by rw[jl];let e:t.cps.toList.length=t.length:=(zA _).symm;show 4+t.length<=1000;ext) 4;rw[e];show this
 show bQ W ?_;show fy (b9 (g6 (au W) W (ar aU aP) W (B7 (MR t))) W) (λ_=>?_) (λq=>by simp_all);show ia (qX (ar aU (ar (Gf (au W) (by ext:6) (by ext:6) W a) aP)) W ()) W W
def yq{ws:I Str}(e:z.cps.toList=c::r)(h:c≠98)(sp:eK z [.str " "]=G (.ow ((w::ws).map .str)))(g:gk [.list ((w::ws).map .str)]=.ok (.fz x))(f:pW x .none=-(.bool M)):bu [.str z]=.ok (.fz {1,.str w,x}):=by let a:mM z [.str _]=G _:=B7 (Ow e h);let b:av (.list ((w::ws).map .str)) _=G _:=A3;show bQ (ρ:=[G _,CL,CL]) W ?_;show fy (b9 (g6 (au W) W (ar aU aP) W a) W) (λq=>by simp_all) (λ_=>cz ?_);show bB (g6 (au W) W (ar aU aP) W sp) W W ?_;show bB (cY (ar (lZ W) aP) W W g) W W ?_;show fy (b9 (NN (au W) aU W W f) W) (λq=>by simp_all) (λ_=>cz ?_);show b8 (qX (ar (aZ (au W) aU W W b) (ar (au W) aP)) W (by show 2<=1000;decide)) W W
structure VF(R C)(K):Prop where
 r1:1<=R
 r3:R<=3
 c1:1<=C
 c3:C<=3
 k1:K≠[]k5:K.length<=5
 un:K.Nodup
 sp:∀k∈K,∃r c,k=[r,c]/\r<R/\c<C
abbrev pU(R C:Nat)(K:I (I Nat)):D:=.tuple [nd R,nd C,.tuple (kP K)]
def lM(k:I Nat):Str:=iw #[#v[46]] (k.map lh)
def Cp(K:I (I Nat)):Str:=iw #[#v[44]] (K.map lM)
def OM(R C b:Nat)(K:I (I Nat)):I Str:=["frame",lh R,lh C,lh b,Cp K]
def Ah(R C b:Nat)(K:I (I Nat)):Str:=iw #[#v[32]] (OM R C b K)
def QL:((eI 3).all λr=>(eI 3).all λc=>Jn (fT [.str (lM [r,c])]) (.tuple (aM [r,c]))&&((eI 4).all λR=>(eI 4).all λC=>!(decide (r<R)&&decide (c<C))||Jn (gX [nd R,nd C,.tuple (aM [r,c])]) (.bool u))&&decide ((lM [r,c]).length=3)&&(lM [r,c]).cps.toList.all λx=>decide (x≠44/\x≠32))=u:=by left
def Rv(b:r<3)(e:c<3):fT [.str (lM [r,c])]=.ok (.fz (.tuple (aM [r,c])))/\(∀R C,R<=3->C<=3->r<R->c<C->gX [nd R,nd C,.tuple (aM [r,c])]=.ok (.fz (.bool u)))/\(lM [r,c]).length=3/\Fr 44 (lM [r,c])/\Fr 32 (lM [r,c]):=by let h:=j?.mp (j?.mp QL r (js.mpr b)) c (js.mpr e);simp only[c!]at h;let(((i,g),f),a):=h;let a:=j?.mp a;show#[iY i,λR C m n l j=>?_,a6 f,λz=>(a6 (a _ z)).1 W,λz=>(a6 (a _ z)).2 W];let:=j?.mp (j?.mp g R (js.mpr ())) C (js.mpr ());rw[a4 l,a4 j]at this;show iY this
section
def VF.at(h:VF R C K)(e:k∈K):fT [.str (lM k)]=.ok (.fz (.tuple (aM k)))/\gX [nd R,nd C,.tuple (aM k)]=.ok (.fz (.bool u))/\(lM k).length=3/\Fr 44 (lM k)/\Fr 32 (lM k):=by let(r,c,0,b,f):=h.sp k e;let j:=h.r3;let i:=h.c3;let(a,g,c):=Rv (r:=r) (c:=c) () ();show#[a,g R C j i b f,c]
def G6(h:VF R C K):(Cp K).length<=20:=by
 let:=gC (d:=44) λw a=>by let(k,b,0):=gi.mp a;show Q? (h.at b).2.2.1
 rw[dO]at this;let:=h.k5;ext Cp;ext
def E7(h:VF R C K):∀w∈OM R C b K,w.length<=20:=aw (by left) (aw (by show 1<=20;decide) (aw (by show 1<=20;decide) (aw (by show 1<=20;decide) (aw (G6 h) nw))))
def sM(h:VF R C K)(p:b<10):cG [pU R C K,nd b]=.ok (.fz (.str (Ah R C b K))):=by
 let z:=h.r3;let E:=h.c3;let k5:=h.k5;let e:∀n:Nat,n<10->iX _=G _:=λn J=>by
  let:=oG (i:=(n)) () ()
  assumption
 let y:=e R ();let v:=e C ();let u:=e b p;let cm:eN (bN (gT 2 (iM (gN 0) (iM (gN 1) rE))) bi (am cT (am cT (cy iX {ae 0}) (~~~".")) (cy iX {ae 1})) (kP K) [CL,CL] [])=.ok ((K.map lM).map .str):=by let:=uw (f:=λk:I Nat=>.tuple (aM k)) (g:=λk=>.str (lM k)) (gt:=gT 2 (iM (gN 0) (iM (gN 1) rE))) (fe:=am cT (am cT (cy iX {ae 0}) _) (cy iX {ae 1})) (λH=>∃a b,H=[a,b]) K () #[CL,CL,W] (by rintro k j H ⟨a,b,rfl⟩;let(r,c,0,A,B):=h.sp k j;let t0:=e r ();let t:=e c ();let q:cT (.str (lh r)) (.str ".")=G _:=W;show#[_,lX W W (aZ (aZ (by ext:6) aU W W q) (by ext:6) W W W) W W,_,_,W]);rw[i?];show this
 let m:eE "," [.list ((K.map lM).map .str)]=-(.str (Cp K)):=by show kJ (λw o=>by let(k,j,0):=gi.mp o;show Q? (h.at j).2.2.1) (by grind)
 let l:eE " " [.list ((OM R C b K).map .str)]=-(.str (Ah R C b K)):=by show kJ (E7 h) (by show 5*20+5<=1000000;decide)
 show bQ W ?_;show bB (g6 aU W (ar (bj (by ext:6) W cm) aP) W m) W W (b8 (g6 aU W (by ext:6) W l) W W)
def adv(h:VF R C K):gS [nd R,nd C,.list (kP K)]=.ok (.fz (pU R C K)):=by
 let F:=h.r1;let E:=h.r3;let H:=h.c1;let G:=h.c3;let k5:=h.k5;let v:cX [.list (kP K)]=-(nd K.length):=by show cL _=_;ext kP;simp_all
 let k1:1<=K.length:=by cases q:K with|nil=>show a7 q h.k1|cons a r=>ext
 let p:∀{n m:Int}{u:FE}{J:bM},1<=n->n<=m->u J=.ok (.fz _,J)->eB uH uH _ u _ J=.ok _:=λA y e=>B0 aU e aU W W W (by rw[Fq,a4 A]) λ_=>by rw[Fq,a4 y]
 show bQ (ρ:=[cL _,cL _,cL _,CL,CL]) W ?_;show fy (b:=M) (wA (rN (b9 (p () () (au W)) W)) λ_=>rN (b9 (p () () (au W)) W)) (λq=>by ext q) (λ_=>cz ?_);show fy (b:=M) (rN (b9 (p () () (fq (by ext:6) W v)) W)) (λq=>by ext q) (λ_=>cz ?_);show i7 (λ_ J=>∃l g,J=[cL _,cL _,cL _,l,g]) (by ext:6) #[_,_,W] ?_ ?_
 .rintro i d J L ⟨l,g,rfl⟩
  let(x,f,0):=sS _ _ _ _ L;unfold kP at f;rw[iD]at f;cases q:K[i]? with|none=>ext|some k=>
  simp[q]at f;ext f;rw[D!];let t:=(f_.mp q).1;let B:ED (.list (kP K)) CL (cL (i))=cL (.ow (kP (K.take i))):=by show cL _=_;unfold ut kP;simp only[dO,HT.nH,HT.km,OR,Im,O! (AS t),Nat.sub_zero]
  let o:pP (.tuple (aM k)) (.list (kP (K.take i)))=-(.bool M):=by rw[Js];show B7 (a5 λz=>?_);let(j,w,e2):=R3.mp z;rw[p']at w;let:=DA.mp h.un j i () t ();simp_all
  show#[_,W,?_];show u7 (b:=M) (wA (rN (b9 (cY (by ext:6) W W ((h.at (lq q)).2.1)) W)) λ_=>b9 (aZ (au W) (Gf (dx:=.list _) (au W) (by ext:6) (by ext:6) W B) W W o) W) (λq=>by contradiction) (λ_=>lf #[_,_,W])
 .rintro J ⟨l,g,rfl⟩;show b8 (by ext:6) W W
end
section
def UK(h:VF R C K):∀w∈OM R C b K,Fr 32 w:=aw (by ext Fr;trivial) (aw (lY ()) (aw (lY ()) (aw (lY ()) (aw (pO () λw a=>by let(k,e,0):=gi.mp a;show(h.at e).2.2.2.2) nw))))
def Zk{a b c d e:D}:xM (.list [a,b,c,d,e]) (G 1) CL=G (.ow [b,c,d,e]):=ZU
def adO(h:VF R C K)(G:b<10):bu [.str (Ah R C b K)]=.ok (.fz {1,.str "frame",{1,nd R,nd C,nd b,.tuple (kP K)}}):=by
 let v:=h.r3;let I:=h.c3;let k5:=h.k5;let j:=gC (d:=32) (E7 (b:=b) h);let j:(Ah R C b K).length<=5*(20+1):=j;let sp:eK (Ah R C b K) [.str " "]=cL (.ow ((OM R C b K).map .str)):=by show iR (by nofun) (UK h) (by unfold Ah at j;ext) (by show 5<=1000000;decide)
 let i:=G6 h;let e:eK (Cp K) [.str ","]=cL (.ow ((K.map lM).map .str)):=by show iR (by rw[Ne,Ji];show h.k1) (λw o=>by let(k,a,0):=gi.mp o;show(h.at a).2.2.2.1) (by unfold Cp at i;ext) (by rw[dO];ext)
 let rf:j6 [.list [.str (lh R),.str (lh C),.str (lh b),.str (Cp K)]]=.ok (.fz {1,nd R,nd C,nd b,.tuple (kP K)}):=by
  let A:=AQ (k:=R) ();let y:=AQ (k:=C) ();let cm:eN _=.ok _:=gb (fe:=aG _ 1 {ae 0}) (cp:=[]) [R,C,b] () W λk a=>by show cY (by ext:6) W W (AQ (k:=k) (by grind))
  let p:eN (bN (gN 0) bi (aG fT 1 {ae 0}) ((K.map lM).map .str) [CL] [])=.ok (kP K):=by
   let:=gb (fe:=aG _ 1 {ae 0}) (cp:=[]) K () W λk a=>by show cY (by ext:6) W W ((h.at a).1)
   rw[i?];show this
  let n:cH [.list (kP K)]=.ok _:=kX λk _=>#[gG k,W];let m:cH [.list [nd R,nd C,nd b,.tuple (kP K)]]=.ok (.fz {1,nd R,nd C,nd b,.tuple (kP K)}):=by
   let:=kX (f:=id) (l:=[nd R,nd C,nd b,.tuple (kP K)]) (aw #[W,W] (aw #[W,W] (aw #[W,W] (aw #[uy K,W] λ_ z=>by ext z))))
   assumption
  let E:av (.list [.str (lh R),.str (lh C),.str (lh b),.str (Cp K)]) (.int 3)=cL _:=EN () W;generalize L:lh R=P at*;generalize J:lh C=O at*;generalize hd2:lh b=N at*;let cm:eN (bN (gN 0) bi (aG bA 1 {ae 0}) [.str P,.str O,.str N] [CL] [])=.ok [nd R,nd C,nd b]:=by rw[<-L,<-J,<-hd2];show cm
  show bQ W ?_;show bB (bj (by ext:6) W cm) W W ?_;show b8 (cY (ar (aZ (lZ W) (oA (ar (cY (ar (bj (lL (g6 (by ext:6) W (ar aU aP) W e) W W) W p) aP) W W n) aP) W ()) W W W) aP) W W m) W W
 let g:gk [.list ((OM R C b K).map .str)]=.ok (.fz {1,nd R,nd C,nd b,.tuple (kP K)}):=by let F:av (.list ((OM R C b K).map .str)) (.int 0)=cL _:=A3;let B:cX [.list ((OM R C b K).map .str)]=-(.int 5):=W;let u:pP (.str "frame") {1,.str "keys",.str "turn",.str "states"}=cL _:=Ey (by left) (by left) (by left) (by left) (W);let t:bx _ (.str "frame")=cL _:=x8 (by left);let H:xM (.list ((OM R C b K).map .str)) (cL 1) CL=cL _:=Zk;show bQ W ?_;show bB (by ext:6) W W ?_;show bB (by ext:6) W W ?_;show fy (b:=M&&M) (ρ1:=[cL _,cL _,cL _]) (by ext:6) (λq=>by ext q) (λ_=>cz ?_);show fy (by ext:6) (λ_=>ia (by ext:6) W W) (λq=>by ext q)
 obtain⟨r,er⟩:∃r,(Ah R C b K).cps.toList=102::r:=#[_,by unfold Ah OM;show((("frame":Str).cps++#v[32])++_).toList=_;rw[E1];rfl];show yq er () sp g W
end
def mP(x s m)(hm:0<m):∃n:Nat,uz x s m=(n)/\(n)<m:=by let:=oz (x:=x) (s:=s) hm;show#[(uz x s m).toNat,by ext,by ext]
def alL(ns:a8 Int):∃R C K,VF R C K/\jV [.list (ns.map .int),.int 19]=.ok (.fz (pU R C K)):=by
 let(f,e0):=oM ns 19 ();let(r,I,Z):=mP f 149 3 ();let(c,L,bc):=mP f 151 3 ();let(m,hm,bm):=mP f 157 5 ();let S:=cP f (s:=149) (m:=3) () () ();let Q:=cP f (s:=151) (m:=3) () () ();let P:=cP f (s:=157) (m:=5) () () ();rw[I]at S;rw[L]at Q;rw[hm]at P;let a3:b6 (.int 1) (.int (m:Int))=-(nd (1+m)):=W;let T:=iG (n:=1+m) ();let A:∃rv,bL 8 ip [.list (ns.map .int),.int 19]=.ok rv/\∃K,VF (1+r) (1+c) K/\rv=.fz (pU (1+r) (1+c) K):=by
  show qG W ?_;show bB (by ext:2) W W ?_;show bB (by ext:2) W W ?_;show i7 (λi ρ=>∃K w o l,K.length<=i/\(1<=i->K≠[])/\K.Nodup/\(∀k∈K,∃a b,k=[a,b]/\a<1+r/\b<1+c)/\ρ=[zf (.list (ns.map .int)),zf (.int 19),zf (nd (1+r)),zf (nd (1+c)),zo (kP K),w,o,l]) (by ext:2) #[[],CL,CL,CL,dc _,(λz=>by ext z),R5,(λ_ z=>by ext z),W] ?_ ?_
  .rintro i d ρ hi ⟨K,w,o,l,E,B,t,p,rfl⟩
   let(j,J,0):=fM hi;let(0,X):=kA J;show#[[zf _,zf (.int 19),zf (nd (1+r)),zf (nd (1+c)),zo (kP K),zf (nd j),o,l],W,?_];let(x,Y):=oM ns (19+j) ();let b2:fP (.int 17) (nd j)=cL _:=Ze #[by decide,by decide];show bB (by ext:2) W W ?_;generalize x+17*(j:Int)=y at*;let(a,ha,U):=mP y 163 ((1+r:Nat):Int) ();let(b,M,lb):=mP y 167 ((1+c:Nat):Int) ();let O:=cP y (s:=163) (m:=((1+r:Nat):Int)) () () ();let N:=cP y (s:=167) (m:=((1+c:Nat):Int)) () () ();rw[ha]at O;rw[M]at N;show bB (by ext:6) W W ?_;let F:=Gw [a,b] K;show u7 (ρ1:=[zf _,zf (.int 19),zf (nd (1+r)),zf (nd (1+c)),zo (kP K),zf (nd j),zf (.int y),zf (.tuple (aM [a,b]))]) (b9 (aZ (au W) (lZ W) W W F) W) (λq=>?_) (λq=>?_)
   .rw[z6,decide_eq_false_iff_not]at q
    show gK (nu (es:=kP K) (ds:=kP K) W (au W) W W (by ext kP;grind) (by ext kP;rw[mN];rfl)) #[K++[[a,b]],_,_,_,by simp_all,(λ_ z=>nomatch(List.append_eq_nil_iff.mp z).2),?_,?_,W]
    .rw[B?];show#[t,KR _ _,λu H v G e=>?_];rw[f?.mp G]at e;show q (e▸H)
    .intro k g
     rcases m?.mp g with g|g
     .show p k g
     .show#[a,b,f?.mp g,by ext,by ext]
   .show lf #[K,_,_,_,Nat.le_succ_of_le E,(λ_ z=>by rw[z]at q;ext q),t,p,W]
  .rintro ρ ⟨K,w,o,l,E,B,t,p,rfl⟩;rw[bI,n_]at E B;show b8 (by ext:6) W #[K,#[by ext,by ext,by ext,by ext,B (),by ext,t,p],W]
 let(rv,h,K,v,0):=A;show#[_,_,K,v,h]
section
open M02
open M02
def sp(s:Nat×Nat):D:=.tuple [nd s.1,nd s.2]
def jk(R C:Nat)(ss:I (Nat×Nat)):D:=.tuple [nd R,nd C,.tuple (ss.map sp)]
def ajQ(n)(ns):my [nd n,.list (aM ns)]=.ok (.fz (nd (jn n ns))):=by
 let(m,r,a,t,q,l):=Kg (gt:=gN 2) (b:=eJ _ (bF (am Eu (ae 0) (ae 2)) (gN 0)) aX) (λi w=>∃(a:Nat)(t:bb PV),w=[-(nd a),-(.list (aM ns)),t]/\jn a (ns.drop i)=jn n ns) #[n,_,W,W] (by
   rintro i d w y ⟨a,t,rfl,v⟩;let(o,p,0):=fM y;let(g,e):=f_.mp p;rw[K! g,e]at v;let f:(ai (am fO (am v4 (ae 2) (ae 0)) (~~~0))) [-(nd a),-(.list (aM ns)),-(nd o)]=.ok (!decide (((o&&&a):Int)=0),[-(nd a),-(.list (aM ns)),-(nd o)]):=by ext:6
   by_cases c:o&&&a=0
   .let j:(!decide (((o&&&a):Int)=0))=M:=by simp_all
    rw[j]at f;show#[_,_,W,.inl ((xH f).trans W),a,_,W,?_];rw[<-v]
    conv=>rhs;unfold M02.jn
    simp_all
   .let j:(!decide (((o&&&a):Int)=0))=u:=by simp_all
    rw[j]at f;show#[_,_,W,.inl ((JD f).trans (by ext:6)),_,_,W,?_];rw[<-v]
    conv=>rhs;unfold M02.jn
    rw[ax c])
 rw[bI,t_ (dc _)]at l;let h:a=jn n ns:=l;show jJ W ((dH ((wy (by ext:6)).trans (r.trans (by rw[q])))).trans ?_);rw[h];ext:6
theorem wU:∀ns,room C ns<=ns.length*2^C|[]=>mT _|n::r=>by let:=wU (C:=C) r;show 2^C-n+room C r<=(r.length+1)*2^C;simp[Q!];show la (Nat.add_le_add (Nat.sub_le _ n) this) (by rw[Q'];show dc _)
def jnD(ns:I Nat):D->bb D |.int i=>G (nd (jn i.toNat ns))|_=>CL
def Mf(e:ns.length<=1000):eN (bN (gN 0) bi (aG my 2 {ae 0,ae 1}) (aM ns) [CL,-(.list (aM ns))] [])=.ok (aM (lu ns)):=by
 rw[lI (λg=>∃o,g=[o,G _]) (jnD ns) #[_,W] (by rw[bI];ext) ?_]
 .rw[UF ns λx _=>by rfl];rfl
 .rintro d a g ⟨o,rfl⟩;let(x,b,0):=gi.mp a;let f:=ajQ x ns;show#[_,(lX W W (by ext:6) W W),_,W]
def ajs(i:Nums E R C ns)(j:∀e∈E,e.1<R/\e.2<C)(t:R<=6)(q:C<=6):sC [.list (aM ns)]=.ok (.fz (.list (aM (kx E R)))):=by
 let o:∀{a:I Nat}(w:bb PV),Nums E R C a->bF (bE 1 [0] (dB (ae 0)) _ _ _) (gN 1) [-(.list (aM a)),w]=.ok _:=λ{a}w h=>mJ (bj (by ext:6) W (Mf ((λh=>by rw[h.len];ext) h))) W W
 let(r,u,l):=Sf (b:=aF (bF (ae 1) (gN 0)) _) (λm A=>∃a,A=[-(.list (aM a)),G (.ow (aM (lu a)))]/\Nums E R C a/\m=room C a) (λA=>∃w,A=[-(.list (aM (kx E R))),w]) (by
   rintro m A ⟨a,rfl,z,rfl⟩;let f:(ai (am fO (ae 1) (ae 0))) [-(.list (aM a)),G (.ow (aM (lu a)))]=.ok (!decide (lu a=a),[-(.list (aM a)),G (.ow (aM (lu a)))]):=by ext:6
   by_cases c:lu a=a
   .rw[a4 c]at f;show .inl #[_,f,_,by rw[<-alu z j q c]]
   .rw[a5 c]at f;show .inr #[_,_,_,f,.inl ((dH (by ext:6)).trans (o _ (z.swp λp g=>(j p g).1))),(Hh (λn B=>Ur (z.lt n B) z.lt) c),_,W,z.swp λp g=>(j p g).1,W]) 1000000 _ _ #[ns,W,i,W] (by let y:=wU (C:=C) ns;let v:ns.length*2^C<=6*2^6:=OK (by rw[i.len];show t) (Nat.pow_le_pow_right () q);ext)
 let(w,l):=l;show jJ W ((dH (o CL i)).trans ((dH (u.trans (by rw[l]))).trans ?_));ext:6
def aew{b:I Nat}(a:b[i]?=G k):bO ss (b.take (i+1))=bO ss (b.take i)++[ss.getD k (0,0)]:=by ext bO;rw[rp,a];simp
def XQ{ss:I _}(h:k<ss.length):av (.tuple (ss.map sp)) (nd k)=-(sp (ss.getD k (0,0))):=Ez ()
def ZF(R C):Nums [] R C (ey R 0):=by
 show#[p!,λn f=>?_,λr c b=>?_,λr e c a=>?_]
 .rw[(Jq.mp f).2];show Nat.two_pow_pos _
 .simp_all
 .rw[K_,z5]at a
  split at a
  .show a7 a iz
  .show a7 a iz
def Os(a:Nums E R C ns)(m:∀e∈E,e.1<R/\e.2<C)(j:s.1<R)(o:s.2<C):Nums (E++[s]) R C (ns.set s.1 (ns.getD s.1 0|||2^s.2)):=by
 let gs:∀r,r<R->(ns.set s.1 _).getD r 0=if r=s.1 then ns.getD s.1 0|||2^s.2 else ns.getD r 0:=λr f=>by
  rw[K_,qF];by_cases z:s.1=r
  .rw[ax z,ax z.symm,ax (by rw[a.len];show j)];rfl
  .rw[aE z,aE (λy=>z y.symm),<-K_]
 let up:∀{k:Bool}{x r:Nat},Con E r k x->Con (E++[s]) r k x:=λh=>by induction h with |base=>show .base|col _ e g=>show .col g (rR _ e)|row _ e g=>show .row g (rR _ e)
 show#[by rw[p_];show a.len,λn p=>?_,λr c i=>?_,λr f c b=>?_]
 .rcases List.mem_or_eq_of_mem_set p with z|z
  .show a.lt n z
  .rw[z];show Cd (a.lt _ (BS (by rw[a.len];show j))) (Jl () o)
 .rcases m?.mp i with z|z
  .rw[gs r (m _ z).1]
   by_cases y:r=s.1
   .rw[ax y];let:=a.own r c z;rw[y]at this;show qO.mpr (.inl this)
   .rw[aE y];show a.own r c z
  .let l:(r,c)=s:=f?.mp z;subst l;rw[gs _ j,ax W];show qO.mpr (.inr (uI.mpr W))
 .rw[gs r f]at b
  by_cases y:r=s.1
  .rw[ax y]at b
   rcases qO.mp b with z|z
   .show up (a.snd r f c (by rw[y];show z))
   .rw[uI.mp z,y];show .col .base (oe _ ())
  .rw[aE y]at b;show up (a.snd r f c b)
def SN(ns)(i x):(aM ns).set i (nd x)=aM (ns.set i x):=by ext aM;simp_all
def qV(h:i<ns.length):(aM ns)[i]?=G (nd (ns.getD i 0)):=by ext aM;simp_all
def xh(F:n4 R C ss)(o:eT ss J):jg [jk R C ss,.tuple (aM J)]=.ok (.fz (.tuple (aM (kx (bO ss J) R)))):=by
 let l:=F.r6;let m:=F.c6;let w:fP (.list [.int 0]) (nd R)=cL (.ow (aM (ey R 0))):=by rw[Pq () (),Q9];ext aM;rw[Jw];rfl
 let E:av (jk R C ss) _=cL _:=gB;let B:av (jk R C ss) _=cL _:=ny;let(t,v,a,j,h,u,q):=Kg (gt:=gN 3) (b:=aF (bF (am av (0/2) (ae 3)) (gN 4)) (bF (am Eu (am av (ae 2) (4/0)) (am Bp (~~~1) (4/1))) (Wy 2 (4/0)))) (λi H=>∃(a:I Nat)(j h:bb PV),H=[-(jk R C ss),-(.tuple (aM J)),cL (.ow (aM a)),j,h]/\Nums (bO ss (J.take i)) R C a) #[_,_,_,W,ZF R C] (by
   rintro i d H N ⟨a,j,h,rfl,L⟩;let(k,g,0):=fM N;let f:k<ss.length:=o k (lq g);let e1:=XQ f;let(p,r):=pN F f;let n:=Os L (jE F λk g=>o k (Ks g)) p r;rw[<-aew g]at n;generalize ss.getD k _=s at e1 p r n;let e:s.1<a.length:=by rw[L.len];show p
   let A:av (sp s) _=cL _:=gB;let z:av (sp s) _=cL _:=jI;let y:av _ _=cL _:=Uq (qV e);let sh:=Fh s.2 ();show#[_,_,W,.inl ((dH (by ext:6)).trans (mJ (by ext:6) (abq W W (by ext:6) W W (Vp (by rw[bI];show e)) W) W)),_,-(nd k),-(sp s),?_,n];rw[<-SN];rfl)
 rw[bI,q0 (dc _)]at q;let G:=ajs q (jE F o) l m;show jJ W ((dH (by ext:6)).trans ((dH ((wy (by ext:6)).trans (v.trans (by rw[u])))).trans ?_));ext:6
end
section
open M02
def Ov(f:∀e∈C,e∈o)(b:∀e∈o,Con C e.1 M e.2):Con o r k x↔Con C r k x:=by
 constructor
 .intro h
  induction h with |base=>show .base|@col g i _ e a=>show a.trans (b _ e)|@row g i _ e a=>show(b _ e).back.2 W r a
 .intro h
  induction h with |base=>show .base|col _ e a=>show .col a (f _ e)|row _ e a=>show .row a (f _ e)
def akZ(b:∀e∈C,e.2<6)(a:∀e∈o,e.2<6)(h:∀r x,Con o r M x↔Con C r M x)(r):qq o r=qq C r:=by apply uD;intro c;rw[(oU a).2 c,(oU b).2 c,h]
def aj5(g:∀e∈C,e.2<6)(f:∀e∈o,e.2<6)(b:∀e∈C,e∈o)(a:∀e∈o,Con C e.1 M e.2):kx o R=kx C R:=rC λr _=>akZ g f (λr x=>Ov b a) r
def xI(ss:I (Nat×Nat))(a:I Nat)(k:Nat):Bool:=(a.getD (ss.getD k (0,0)).1 0).testBit (ss.getD k (0,0)).2
def ya(ss:I (Nat×Nat))(a:I Nat):I Nat:=(eI ss.length).filter (xI ss a)
def AH(ss)(a):eT ss (ya ss a):=λk h=>js.mp (n7.mp h).1
def Q2(ss)(a):(ya ss a).length<=ss.length:=by let:=y? (xI ss a) (eI ss.length);rwa[n_]at this
def BD(F:n4 R C ss)(b:eT ss o)(h:k<ss.length):xI ss (kx (bO ss o) R) k=u↔Con (bO ss o) (ss.getD k (0,0)).1 M (ss.getD k (0,0)).2:=by ext xI;rw[G2 (pN F h).1];show(oU λe a=>lr (jE F b e a).2 F.c6).2 _
def yF(h:k∈o):ss.getD k (0,0)∈bO ss o:=gi.mpr #[k,h,W]
def RE(F:n4 R C ss)(a:eT ss o)(h:k∈o):k∈ya ss (kx (bO ss o) R):=n7.mpr #[js.mpr (a k h),(BD F a (a k h)).mpr (.col .base (yF h))]
def QM(F:n4 R C ss)(f:eT ss o)(j:∀k∈o,k∈bs)(i:∀k∈bs,k∈ya ss (kx (bO ss o) R)):kx (bO ss bs) R=kx (bO ss o) R:=by
 let g:eT ss bs:=λk h=>AH ss _ k (i k h);show aj5 (λe a=>lr (jE F f e a).2 F.c6) (λe a=>lr (jE F g e a).2 F.c6) (λe a=>?_) λe a=>?_
 .let(k,b,0):=gi.mp a;show yF (j k b)
 .let(k,b,0):=gi.mp a;show(BD F f (g k b)).mp (n7.mp (i k b)).2
def LG(F:n4 R C ss)(a:eT ss o):kx (bO ss (ya ss (kx (bO ss o) R))) R=kx (bO ss o) R:=QM F a (λk h=>RE F a h) λ_ h=>h
def xY(n c):bz [nd n,nd c]=.ok (.fz (.bool (n.testBit c))):=by
 unfold bz fU;let a:v4 (nd (n/2^c)) (.int 1)=G _:=Cw _ 1;let e1:bx (nd (n/2^c&&&1)) (.int 1)=-(.bool (n.testBit c)):=by let:=JX (n/2^c&&&1) 1;rw[Iv,<-Nat.testBit_eq_decide_div_mod_eq]at this;rw[Iv];show this
 show jJ W (by ext:6)
def vI(ss:I _):bX 0 (ss.map sp)=(eI ss.length).map λk=>.tuple [nd k,sp (ss.getD k (0,0))]:=by
 apply D0;intro i;rw[gc,iD,iD];by_cases h:i<ss.length
 .rw[j' h,List.getElem?_range h];show G _=G (aS.tuple _);rw[D!,K_,j' h];rfl
 simp_all
def Ys(p:Nat->Bool):D->bb D |.tuple [.int i,_]=>if p i.toNat=u then G (nd i.toNat)else CL|_=>CL
def uB(p)(k)(d:D):Ys p {1,nd k,d}=if p k=u then G (nd k)else CL:=W
def Gy(p)(g:Nat->D)(xs:I Nat):(xs.map λk=>aS.tuple [nd k,g k]).filterMap (Ys p)=aM (xs.filter p):=by induction xs with|nil=>rfl|cons x r a=>rw[l4];cases q:p x with |true=>rw[y_ (by rw[uB,q,ax W]),a,J_ q];rfl|false=>rw[U_ (by simp[uB,q,aE ml]),a,I? ()]
def zp(F:n4 R C ss)(n:eT ss J):lN [jk R C ss,.tuple (aM (kx (bO ss J) R))]=.ok (.fz (.tuple (aM (ya ss (kx (bO ss J) R))))):=by
 let a:=AW (bO ss J) R;let f:=xh F (AH ss (kx (bO ss J) R));rw[(LG F n)]at f;let e:ya ss (kx (bO ss J) R)=(eI _).filter _:=W;generalize ya ss _=A at f e;generalize kx _ R=w at f a e;let v:av (jk R C ss) _=G _:=gB;let u:av (jk R C ss) _=G _:=ny;let k1:(ai (am fO (cy cX {ae 1}) (0/0))) [-(jk R C ss),-(.tuple (aM w)),CL]=.ok (!decide ((aM w).length=R),[-(jk R C ss),-(.tuple (aM w)),CL]):=by ext:6
 rw[a4 (by rw[bI];show a)]at k1;let k2:(ai (am fO (aG jg 2 {ae 0,ae 2}) (ae 1))) [-(jk R C ss),-(.tuple (aM w)),-(.tuple (aM A))]=.ok (!decide (w=w),[-(jk R C ss),-(.tuple (aM w)),-(.tuple (aM A))]):=by ext:6
 rw[a4 W]at k2;let g:eN (bN (gT 2 (iM (gN 0) (iM (gN 1) rE))) (ai (aG bz 2 {am av (ae 2) (1/0),1/1})) (ae 0) (bX 0 (ss.map sp)) [CL,CL,-(.tuple (aM w))] [])=.ok (aM A):=by
  rw[vI,lI (λy=>∃o h,y=[o,h,G _]) _ #[_,_,W] (by rw[dO,n_];let:=F.l12;ext) ?_,Gy,<-e];rintro d l y ⟨o,h,rfl⟩;let(k,j,0):=gi.mp l;let i:=pN F (js.mp j);rw[uB];let z:xI ss w k=(w.getD _ 0).testBit _:=W;generalize ss.getD k _=s at i z;let t:av (sp s) _=G _:=gB;let r:av (sp s) _=G _:=jI;let p:av _ _=G _:=Ez (qV (by rw[a];show i.1));let m:=xY (w.getD s.1 0) s.2;rw[<-z]at m;let b:(ai (aG bz 2 {am av (ae 2) (1/0),1/1})) [-(nd k),-(sp s),-(.tuple (aM w))]=.ok (xI ss w k,[-(nd k),-(sp s),-(.tuple (aM w))]):=by ext:6
  cases q:xI ss w k with |true=>rw[q]at b;show#[[G _,G _,G _],lX W b (by ext:6) W W,_,_,W]|false=>rw[q]at b;show#[[G _,G _,G _],C8 W b W,_,_,W]
 show jJ W ((dH ((xH k1).trans W)).trans ((dH (mJ (fq (ar (bj (by ext:6) W g) aP) W W) W W)).trans ((dH ((xH k2).trans W)).trans (by ext:6))))
def wo(a:I Nat)(k:Nat):I Nat:=a.filter λj=>!decide (j=k)
def abS(p:Nat->Bool):D->bb D |.int i=>if p i.toNat=u then G (nd i.toNat)else CL|_=>CL
def FD(p)(k):abS p (nd k)=if p k=u then G (nd k)else CL:=W
def adI(c)(k)(g:c.length<=1000):mE [.tuple (aM c),nd k]=.ok (.fz (.tuple (aM (wo c k)))):=by
 let b:eN (bN (gN 0) (ai (am fO (ae 0) (ae 1))) (ae 0) (aM c) [CL,-(nd k)] [])=.ok (aM (wo c k)):=by
  rw[lI (λh=>∃o,h=[o,G _]) _ #[_,W] (by rw[bI];ext) ?_,Lp c λx _=>FD _ x]
  .rfl
  rintro d e h ⟨o,rfl⟩;let(x,f,0):=gi.mp e;simp only[FD];let a:(ai (am fO (ae 0) (ae 1))) [-(nd x),-(nd k)]=.ok (!decide (x=k),[-(nd x),-(nd k)]):=by ext:6
  cases q:(!decide (x=k))with |true=>rw[q]at a;show#[_,lX W a (by ext:6) W W,_,W]|false=>rw[q]at a;show#[_,C8 W a W,_,W]
 show jJ W (lU (fq (ar (bj (by ext:6) W b) aP) W W) W)
set_option genInjectivity true in
inductive Wd where|up|sure|unsure deriving DecidableEq
def Wd.d:Wd->D |.up=>.str "up"|.sure=>.str "sure"|.unsure=>.str "unsure"
def wG(ss:I (Nat×Nat))(R:Nat)(a:I Nat)(k:Nat):Wd:=if k∉ya ss a then .up else if kx (bO ss (wo (ya ss a) k)) R=a then .unsure else .sure
def ZL:eT ss (wo (ya ss rd) k):=λj h=>AH ss rd j (n7.mp h).1
def FV(F:n4 R C ss)(c)(k):iV [jk R C ss,.tuple (aM c),.tuple (aM (ya ss c)),nd k]=.ok (.fz (wG ss R c k).d):=by
 let h:(ya ss c).length<=1000:=by let:=Q2 ss c;let:=F.l12;ext
 let f:=adI _ k h;let g:=xh F (ZL (rd:=c) (k:=k));let a:wG ss R c k=if k∉ya ss c then .up else if kx _ R=c then .unsure else .sure:=W
 generalize wo _ k=B at f g a;generalize ya ss c=A at f a;generalize kx _ R=i at g a;let k1:(ai (am rK (ae 3) (ae 2))) [-(jk R C ss),-(.tuple (aM c)),-(.tuple (aM A)),-(nd k)]=.ok (!decide (k∈A),[-(jk R C ss),-(.tuple (aM c)),-(.tuple (aM A)),-(nd k)]):=by ext:6
 let k2:(ai (am bx (aG jg 2 {ae 0,aG mE 2 {ae 2,ae 3}}) (ae 1))) [-(jk R C ss),-(.tuple (aM c)),-(.tuple (aM A)),-(nd k)]=.ok (decide (i=c),[-(jk R C ss),-(.tuple (aM c)),-(.tuple (aM A)),-(nd k)]):=by ext:6
 by_cases e:k∈A
 .rw[a4 e]at k1
  rw[aE (λz=>z e)]at a;by_cases b:i=c
  .rw[a4 b]at k2;rw[ax b]at a;rw[a];show jJ W ((dH ((xH k1).trans W)).trans ((Ad ((JD k2).trans (lU aU W))).trans W))
  .rw[a5 b]at k2;rw[aE b]at a;rw[a];show jJ W ((dH ((xH k1).trans W)).trans ((dH ((xH k2).trans W)).trans (lU aU W)))
 .rw[a5 e]at k1;rw[ax e]at a;rw[a];show jJ W ((Ad ((JD k1).trans (lU aU W))).trans W)
def Y9(f:Nat->D):D->bb D |.int i=>G (f i.toNat)|_=>CL
def Ss(f)(k):Y9 f (nd k)=G (f k):=W
def GD(f)(xs):(aM xs).filterMap (Y9 f)=xs.map f:=by induction xs with |nil=>rfl|cons x r a=>show((nd x)::aM r).filterMap _=_;rw[y_ (Ss f x),a];rfl
def Qu(F:n4 R C ss)(g:eT ss J):tR [jk R C ss,.tuple (aM (kx (bO ss J) R))]=.ok (.fz (.tuple ((eI ss.length).map λk=>(wG ss R (kx (bO ss J) R) k).d))):=by
 let e:=zp F g;let a:=FV F (kx (bO ss J) R);generalize kx _ R=j at e a;let h:av (jk R C ss) _=G _:=ny;let i:kB [nd (ss.map sp).length]=G (aM (eI ss.length)):=by rw[dO];show iG (by let:=F.l12;ext)
 let b:eN (bN (gN 0) bi (aG iV 4 {ae 1,ae 2,ae 3,ae 0}) (aM (eI ss.length)) [CL,-(jk R C ss),-(.tuple (aM j)),-(.tuple (aM (ya ss j)))] [])=.ok ((eI ss.length).map λk=>(wG ss R j k).d):=by rw[lI (λl=>∃o,l=[o,G _,G _,G _]) _ #[_,W] (by rw[bI,n_];let:=F.l12;ext) ?_,GD];rintro d f l ⟨o,rfl⟩;let(k,e,0):=gi.mp f;let a:=a k;show#[_,lX W W (by ext:6) W W,_,W]
 show jJ W ((dH (by ext:6)).trans (lU (fq (ar (bj (by ext:6) W b) aP) W W) W))
def xS(F:n4 R C ss)(n:eT ss J):ie [jk R C ss,.tuple (aM (kx (bO ss J) R))]=.ok (.fz (.tuple (aM (ya ss (kx (bO ss J) R))))):=by
 let a:=AW (bO ss J) R;let f:=xh F (AH ss (kx (bO ss J) R));rw[(LG F n)]at f;let e:ya ss (kx (bO ss J) R)=(eI _).filter _:=W;generalize ya ss _=A at f e;generalize kx _ R=w at f a e;let v:av (jk R C ss) _=G _:=gB;let u:av (jk R C ss) _=G _:=ny;let k1:(ai (am fO (cy cX {ae 1}) (0/0))) [-(jk R C ss),-(.tuple (aM w)),CL]=.ok (!decide ((aM w).length=R),[-(jk R C ss),-(.tuple (aM w)),CL]):=by ext:6
 rw[a4 (by rw[bI];show a)]at k1;let k2:(ai (am fO (aG jg 2 {ae 0,ae 2}) (ae 1))) [-(jk R C ss),-(.tuple (aM w)),-(.tuple (aM A))]=.ok (!decide (w=w),[-(jk R C ss),-(.tuple (aM w)),-(.tuple (aM A))]):=by ext:6
 rw[a4 W]at k2;let g:eN (bN (gT 2 (iM (gN 0) (iM (gN 1) rE))) (ai (aG bz 2 {am av (ae 2) (1/0),1/1})) (ae 0) (bX 0 (ss.map sp)) [CL,CL,-(.tuple (aM w))] [])=.ok (aM A):=by
  rw[vI,lI (λy=>∃o h,y=[o,h,G _]) _ #[_,_,W] (by rw[dO,n_];let:=F.l12;ext) ?_,Gy,<-e];rintro d l y ⟨o,h,rfl⟩;let(k,j,0):=gi.mp l;let i:=pN F (js.mp j);rw[uB];let z:xI ss w k=(w.getD _ 0).testBit _:=W;generalize ss.getD k _=s at i z;let t:av (sp s) _=G _:=gB;let r:av (sp s) _=G _:=jI;let p:av _ _=G _:=Ez (qV (by rw[a];show i.1));let m:=xY (w.getD s.1 0) s.2;rw[<-z]at m;let b:(ai (aG bz 2 {am av (ae 2) (1/0),1/1})) [-(nd k),-(sp s),-(.tuple (aM w))]=.ok (xI ss w k,[-(nd k),-(sp s),-(.tuple (aM w))]):=by ext:6
  cases q:xI ss w k with |true=>rw[q]at b;show#[[G _,G _,G _],lX W b (by ext:6) W W,_,_,W]|false=>rw[q]at b;show#[[G _,G _,G _],C8 W b W,_,_,W]
 show jJ W ((dH ((xH k1).trans W)).trans ((dH (mJ (fq (ar (bj (by ext:6) W g) aP) W W) W W)).trans ((dH ((xH k2).trans W)).trans (by ext:6))))
def alK(F:n4 R C ss)(g:eT ss J):fL [jk R C ss,.tuple (aM (kx (bO ss J) R))]=.ok (.fz (.tuple ((eI ss.length).map λk=>(wG ss R (kx (bO ss J) R) k).d))):=by
 let b:=xS F g;let a:=FV F (kx (bO ss J) R);generalize kx _ R=j at b a;let h:av (jk R C ss) _=G _:=ny;let i:kB [nd (ss.map sp).length]=G (aM (eI ss.length)):=by rw[dO];show iG (by let:=F.l12;ext)
 let e:eN (bN (gN 0) bi (aG iV 4 {ae 1,ae 2,ae 3,ae 0}) (aM (eI ss.length)) [CL,-(jk R C ss),-(.tuple (aM j)),-(.tuple (aM (ya ss j)))] [])=.ok ((eI ss.length).map λk=>(wG ss R j k).d):=by rw[lI (λl=>∃o,l=[o,G _,G _,G _]) _ #[_,W] (by rw[bI,n_];let:=F.l12;ext) ?_,GD];rintro d f l ⟨o,rfl⟩;let(k,b,0):=gi.mp f;let a:=a k;show#[_,lX W W (by ext:6) W W,_,W]
 show jJ W ((dH (mJ (Rr (by ext:6) W W b) W W)).trans (lU (fq (ar (bj (by ext:6) W e) aP) W W) W))
end
section
open M02
section
def sL(h:∀e∈E,e∈o)(g:Con E a k x):Con o a k x:=by induction g with |base=>show .base|col _ e b=>show .col b (h _ e)|row _ e b=>show .row b (h _ e)
def Yl(E:I (Nat×Nat))(R a i:Nat):Prop:=(i<R/\Con E a u i)\/(R<=i/\Con E a M (i-R))
def QR(E:I (Nat×Nat))(R i j:Nat):Prop:=i=j\/∃a,Yl E R a i/\Yl E R a j
def XX(h:Con E a u b)(g:Yl E R b i):Yl E R a i:=g.elim (λg=>.inl #[g.1,h.trans g.2]) λg=>.inr #[g.1,h.trans g.2]
def PY(f:Yl E R a j)(e:Yl E R b j):Con E a u b:=by
 rcases f with f|f<;>rcases e with e|e
 .show f.2.trans (e.2.back.1 W)
 .omega
 .omega
 .show e.2.back.2 W a f.2
def Cu(h:QR E R i j):QR E R j i:=h.elim (λh=>.inl h.symm) λc=>by let(a,e,b):=c;show .inr #[a,b,e]
def pM(h:QR E R i j)(g:QR E R j k):QR E R i k:=by
 rcases h with rfl|⟨a,h1,e⟩
 .show g
 rcases g with rfl|⟨b,g1,g2⟩
 .show .inr #[a,h1,e]
 .show .inr #[a,h1,XX (PY e g1) g2]
def wV(h:∀e∈E,e∈o)(g:QR E R i j):QR o R i j:=g.elim .inl λc=>by let(a,f,b):=c;show .inr #[a,f.elim (λg=>.inl #[g.1,sL h g.2]) λg=>.inr #[g.1,sL h g.2],b.elim (λg=>.inl #[g.1,sL h g.2]) λg=>.inr #[g.1,sL h g.2]]
def M7(a:r<R)(h:(r,c)∈E):QR E R r (R+c):=.inr #[r,.inl #[a,.base],.inr #[Ic _ _,by rw[DF];show .col .base h]]
end
def Xh(R:Nat)(m:I Nat)(e:Nat×Nat):I Nat:=m.map λx=>if x=m.getD e.1 0 then m.getD (R+e.2) 0 else x
structure uk(E)(R C)(m:I Nat):Prop where
 len:m.length=R+C
 to:∀i,i<R+C->QR E R i (m.getD i 0)eq:∀e∈E,m.getD e.1 0=m.getD (R+e.2) 0
def mi0(R C):uk [] R C (eI (R+C)):=#[n_,λi a=>.inl (),λ_ z=>by simp_all]
def vG(h:i<m.length):(Xh R m e).getD i 0=if m.getD i 0=m.getD e.1 0 then m.getD (R+e.2) 0 else m.getD i 0:=by ext Xh;rw[sI h]
def uk.step(h:uk E R C m)(f:e.1<R)(j:e.2<C)(g:∀e∈E,e.1<R/\e.2<C):uk (E++[e]) R C (Xh R m e):=by
 let sub:∀x∈E,x∈E++[e]:=λx a=>rR _ a;show#[by ext Xh;rw[dO,h.len],λi l=>?_,λx a=>?_]
 .rw[vG (by rw[h.len];show l)]
  let t0:=wV sub (h.to i l);split
  .rename_i q;rw[q]at t0;show pM t0 (pM (Cu (wV sub (h.to e.1 ()))) (pM (M7 f (oe _ eQ)) (wV sub (h.to _ ()))))
  .show t0
 .rcases m?.mp a with a|a
  .let b:=g x a;rw[vG (by rw[h.len];ext),vG (by rw[h.len];ext),h.eq x a]
  .rw[f?.mp a,vG (by rw[h.len];ext),vG (by rw[h.len];ext),ax W];split<;>rfl
def uk.iff(h:uk E R C m)(j:r<R)(l:c<C):m.getD r 0=m.getD (R+c) 0↔Con E r M c:=by
 constructor
 .intro q
  let i:=h.to r ();rw[q]at i;rcases pM i (Cu (h.to _ ()))with z|⟨a,f,p⟩
  .omega
  .let f:Con E a u r:=f.elim (λh=>h.2) λh=>by ext
   show(f.back.1 W).trans (p.elim (λh=>by ext) λh=>by simp_all)
 .intro g
  let b:∀k x,Con E r k x->(k=u->m.getD x 0=m.getD r 0)/\(k=M->m.getD (R+x) 0=m.getD r 0):=by
   intro k x g
   induction g with |base=>ext|@col o t _ e n=>show#[λz=>(),λ_=>(h.eq _ e).symm.trans (n.1 W)]|@row o t _ e n=>show#[λ_=>(h.eq _ e).trans (n.2 W),λz=>by simp_all]
  show((b _ c g).2 W).symm
def Cv(m:I Nat)(R r i:Nat):I Nat:=(eI i).filter λc=>decide (m.getD r 0=m.getD (R+c) 0)
def ajP(m)(R r i):nM (Cv m R r (i+1))=if m.getD r 0=m.getD (R+i) 0 then nM (Cv m R r i)+2^i else nM (Cv m R r i):=by
 ext Cv;rw[Bx,List.filter_append];by_cases h:m.getD r 0=m.getD (R+i) 0
 .let e:[i].filter (λc=>decide (m.getD r 0=m.getD (R+c) 0))=[i]:=Jk.mpr λx a=>by simp_all
  rw[ax h,e,ahR (List.perm_append_singleton _ _)];show 2^i+_=_+2^i;ext
 simp_all
def uk.qq(h:uk E R C m)(g:∀e∈E,e.1<R/\e.2<C)(i:C<=6)(b:r<R):nM (Cv m R r C)=M02.qq E r:=by
 let nd:(Cv m R r C).Nodup:=List.nodup_range.filter _;let p:=AB nd (λc a=>by let:=js.mp (n7.mp a).1;ext);show uD λc=>?_;rw[p.2,(oU λe f=>by grind).2];ext Cv;rw[n7,js,decide_eq_true_iff];constructor
 .show λz=>(h.iff b z.1).mp z.2
 .intro z;let a:=AC (λe f=>(g e f).2) z W;show#[a,(h.iff b a).mpr z]
end
section
open M02
abbrev eM(R C:Nat)(ss:I (Nat×Nat))(h m:I Nat)(b a g f e d c:bb PV):bM:=[-(jk R C ss),-(.list (aM h)),G (.ow (aM m)),b,a,g,f,e,d,c]
def ajI(F:n4 R C ss)(v:eT ss ks)(s:ks.length<=100):jP [jk R C ss,.list (aM ks)]=.ok (.fz (.tuple (aM (kx (bO ss ks) R)))):=by
 let Y:=F.r1;let X:=F.r6;let S:=F.c6;let i0:av (jk R C ss) (.int 0)=-(nd R):=gB;let i1:av (jk R C ss) (.int 1)=-(nd C):=jI;let i2:av (jk R C ss) (.int 2)=cL _:=ny;let M:L9.Yg [nd (R+C)]=cL (.ow (aM (eI (R+C)))):=by show(if 0<=((R+C:Nat):Int)/\((R+C:Nat):Int)<=1000 then cL _ else CL)=_;rw[ax #[by ext,by ext],q!]
 let w:=jE F v;let u:∃rv,bL 10 iA [jk R C ss,.list (aM ks)]=.ok rv/\rv=.fz (.tuple (aM (kx (bO ss ks) R))):=by
  show qG W ?_;show bB (fq (ds:=[nd (R+C)]) (by ext:6) W M) W W ?_;show i7 (λi ρ=>∃m p b a o l,ρ=eM R C ss ks m p b a o l CL CL/\uk (bO ss (ks.take i)) R C m) (ds:=aM ks) (by ext:6) #[_,_,_,_,_,_,W,mi0 R C] ?_ ?_
  .rintro i d ρ hi ⟨m,p,b,a,o,l,rfl,mi⟩
   let(k,B,0):=fM hi;let N:=v k (lq B);let E:=pN F N;let G:bO ss (ks.take (i+1))=bO ss (ks.take i)++[ss.getD k (0,0)]:=by ext bO;rw[rp,B,mN];rfl
   rw[G];let H:=mi.step E.1 E.2 (jE F λx A=>v x (Ks A));let J:=mi.len;show#[_,W,?_];let Z:av (.tuple (ss.map sp)) (nd k)=-(sp (ss.getD k (0,0))):=Ez ();generalize ss.getD k (0,0)=e at*;show bB (pv:=.fz (sp e)) (by ext:2) W W ?_;let L:av (.list (aM m)) (nd e.1)=-(nd (m.getD e.1 0)):=Uq (qV ());let y:av (.list (aM m)) (nd (R+e.2))=cL _:=Uq (qV ());show bB (by ext:6) W W ?_;show bB (aZ (dx:=.list (aM m)) (lZ W) (by ext:6) W W y) W W ?_;let cm:eN (bN (gN 0) bi (yp (ai (am bx (ae 0) (ae 1))) (ae 2) (ae 0)) (aM m) [CL,-(nd (m.getD e.1 0)),-(nd (m.getD (R+e.2) 0))] [])=.ok (aM (Xh R m e)):=by
    let:=gb (f:=nd) (g:=λx=>nd (if x=m.getD e.1 0 then m.getD (R+e.2) 0 else x)) (fe:=yp (ai (am bx (ae 0) (ae 1))) (ae 2) (ae 0)) (cp:=[-(nd (m.getD e.1 0)),cL _]) m () W λx A=>by
     let q:bx (nd x) (nd (m.getD e.1 0))=-(.bool (decide (x=m.getD e.1 0))):=by rw[lA];show B7 ?_;rw[decide_eq_decide];ext
     by_cases z:x=m.getD e.1 0
     .rw[ax z];rw[a4 z]at q;show D7 (by ext:6) (au W)
     .rw[aE z];rw[a5 z]at q;show Ed (by ext:6) (au W)
    unfold Xh aM;rw[i?];show this
   show Aw (ρ2:=eM R C ss ks (Xh R m e) (-(nd k)) (-(nd e.1)) (-(nd e.2)) _ _ CL CL) (bj (by ext:6) W cm) W #[_,_,_,_,_,_,W,H]
  .rintro ρ ⟨m,p,b,a,o,l,rfl,mi⟩
   rw[bI,S?]at mi;let J:=mi.len;show bB (pv:=.ow []) (by ext:6) W W ?_;let T:=iG (n:=R) ();let U:=iG (n:=C) ();show i7 (λi ρ=>∃b a t,ρ=eM R C ss ks m p b a o l (cL (.ow (aM ((eI i).map (qq (bO ss ks)))))) t) (by ext:2) #[_,_,_,W] ?_ ?_
   .rintro i d ρ hi ⟨b,a,t,rfl⟩
    let(r,O,0):=fM hi;let(0,I):=kA O;show#[_,W,?_];show bB (pv:=.fz (.int 0)) aU W W ?_;show i7 (λi ρ=>∃a,ρ=eM R C ss ks m p (-(nd r)) a o l _ (-(nd (nM (Cv m R r i))))) (by ext:6) #[_,W] ?_ ?_
    .rintro j d ρ P ⟨a,rfl⟩
     let(c,Q,0):=fM P;let(0,cl):=kA Q;show#[_,W,?_];let L:av (.list (aM m)) (nd r)=-(nd (m.getD r 0)):=Uq (qV ());let y:av (.list (aM m)) (nd (R+c))=cL _:=Uq (qV ());let a1:b6 (nd R) (nd c)=-(nd (R+c)):=W;let q:bx (nd (m.getD r 0)) (nd (m.getD (R+c) 0))=-(.bool (decide (m.getD r 0=m.getD (R+c) 0))):=by rw[lA];show B7 ?_;rw[decide_eq_decide];ext
     let sh:=Fh c ();rw[ajP];show u7 (by ext:6) (λz=>?_) (λz=>?_)
     .rw[ax (a6 z)];show Aw (by ext:6) W #[_,W]
     .rw[aE (of_decide_eq_false z)];show lf #[_,W]
    .rintro ρ ⟨a,rfl⟩;rw[bI,n_,mi.qq w S I];show gK (pv:=.fz .none) (nu W (au W) W W (by rw[bI,dO,n_];ext) (by rw[Bx,mN];ext aM;rw[mN];rfl)) #[_,_,_,W]
   .rintro ρ ⟨b,a,t,rfl⟩;rw[bI,n_];show b8 (by ext:6) W W
 let(rv,h,0):=u;show h
end
section
open M02
def O8(s:Nat×Nat):I Nat:=[s.1,s.2]
def on(R C)(ss):pU R C (ss.map O8)=jk R C ss:=by show aS.tuple [nd R,nd C,.tuple ((ss.map O8).map _)]=_;rw[i?];rfl
def VF.ss(h:VF R C K):∃ss,K=ss.map O8/\n4 R C ss/\ss.length=K.length:=by
 let e:K=(K.map λk=>(k.getD 0 0,k.getD 1 0)).map O8:=by rw[i?];show(IW K).symm.trans (rC λk f=>?_);let(a,b,0,_,_):=h.sp k f;rfl
 let j:=h.r3;let l:=h.c3;let k5:=h.k5;show#[_,e,#[h.r1,by ext,h.c1,by ext,?_,by grind,?_,λs g=>?_],dO _]
 .cases q:K with|nil=>show a7 q h.k1|cons _ _=>show Nat.succ_le_succ (mT _)
 .let un:=h.un;rw[e]at un;show(vp.mp un).imp λn z=>n (by rw[z])
 .let(k,f,0):=gi.mp g;let(a,b,0,m,i):=h.sp k f;show#[m,i]
def RL(F:n4 R C ss)(a:eT ss o):∃ws:I Str,ws.length=ss.length/\(∀w∈ws,w="up"\/w="sure"\/w="unsure")/\tR [jk R C ss,.tuple (aM (kx (bO ss o) R))]=.ok (.fz (.tuple (ws.map .str)))/\fL [jk R C ss,.tuple (aM (kx (bO ss o) R))]=.ok (.fz (.tuple (ws.map .str))):=by
 let e:∀w:Wd,∃z:Str,w.d=.str z/\(z="up"\/z="sure"\/z="unsure"):=λw=>by
  ext w
  .show#[_,W,.inl W]
  .show#[_,W,.inr (.inl W)]
  .show#[_,W,.inr (.inr W)]
 let f:=alK F a;show#[(eI ss.length).map λk=>Classical.choose (e (wG ss R (kx (bO ss o) R) k)),by simp_all,λw b=>?_,?_,?_]
 .let(k,_,0):=gi.mp b;show(Classical.choose_spec (e _)).2
 .rw[(Qu F a),i?];congr 3;show rC λk _=>(Classical.choose_spec (e _)).1
 .rw[f,i?];congr 3;show rC λk _=>(Classical.choose_spec (e _)).1
def aie(F:n4 R C ss)(h:C<=3)(b:eT ss o):∀n∈kx (bO ss o) R,n<10:=by
 intro n j;let(r,g,0):=gi.mp j;let f:=jE F b;let q:=oU (E:=bO ss o) (r:=r) λe a=>by grind
 let:qq _ r<2^3:=Nat.lt_pow_two_of_testBit _ λi l=>by cases z:(qq _ r).testBit i with|false=>rfl|true=>let:=AC (λe a=>(f e a).2) ((q.2 i).mp z) W;ext
 ext
end
def tX(s:I Nat):Str:=iw #[#v[44]] (s.map lh)
section
def Du(hd:fA d=G (aM s))(b:s.length<=5)(a:∀k∈s,k<10):dR [d]=.ok (.fz (.str (tX s))):=by
 let j:eE "," [.list ((s.map lh).map .str)]=-(.str (tX s)):=by show kJ (mr s) (by grind)
 show bQ W ?_;show b8 (g6 aU W (ar (bj (lL (au W) W hd) W (zu a b)) aP) W j) W W
def GQ(a:s.length<=5):(tX s).length<=10:=by let:=gC (d:=44) (mr s);rw[dO]at this;ext tX;ext
def tm{w:Str}(a:w="scan"\/w="seen")(l:s≠[])(j:s.length<=5)(i:∀k∈s,k<10):cT (.str (w++#[#v[32]])) (.str (tX s))=-(.str (w++#[#v[32]]++tX s))/\bu [.str (w++#[#v[32]]++tX s)]=.ok (.fz {1,.str w,.tuple (aM s)}):=by
 let t:=GQ j;let m:w.length=4:=by rcases a with rfl|rfl<;>left
 let g:Fr 32 w:=by ext Fr;rcases a with rfl|rfl<;>left
 let v:(#[#v[32]]:Str).length=1:=W;show#[gJ W (by rw[pk];ext),?_];let e:w++#[#v[32]]++tX s=iw _ [w,tX s]:=W;let sp:eK (w++#[#v[32]]++tX s) [.str " "]=G (.ow (([w,tX s]).map .str)):=by rw[e];show iR () (aw g (aw (pO () λx h=>by let(k,_,0):=gi.mp h;show lY ()) nw)) ?_ ();rw[<-e,pk,pk];ext
 let u:dS [.str (tX s),.str ","]=.ok _:=xX () l () i;let so:aS.strOk w=Ld:=by rcases a with rfl|rfl<;>left
 let f:gk [.list (([w,tX s]).map .str)]=.ok (.fz (.tuple (aM s))):=by
  let p:pP _ {1,.str "keys",.str "turn",.str "states"}=-(.bool M):=Ey so (by left) (by left) (by left) (by rcases a with rfl|rfl<;>left);let o:bx _ (.str "frame")=G _:=wP so (by left) (by rcases a with rfl|rfl<;>left);let n:pP (.str w) {1,.str "scan",.str "seen"}=-(.bool Ld):=by rw[NM so (by left) (by left)];rcases a with rfl|rfl<;>rfl
  show bQ W ?_;show fy (b:=M&&M) (ρ1:=[-(.list [.str w,.str _]),G _,-(.int 2)]) (by ext:6) (λq=>by ext q) (λ_=>cz ?_);show fy (b:=M&&M) (by ext:6) (λq=>by ext q) (λ_=>cz ?_);show fy (by ext:6) (λ_=>ia (by ext:6) W W) (λq=>by ext q)
 obtain⟨r,er⟩:∃r,(w++#[#v[32]]++tX s).cps.toList=115::r:=#[_,by show((w.cps++#v[32])++(tX s).cps).toList=_;rw[E1,E1,show w.cps.toList=115::w.cps.toList.tail by rcases a with rfl|rfl<;>left];rfl];show yq er () sp f W
end
def kb(R r c:Nat):I D:=(eI R).map λi=>nd (if i=r then 2^c else 0)
def ZK(R:Nat):I D:=aM (ey R 0)
def nB(o:bb RV)(v:Bool):Bool:=match o with |some (.fz (.bool x))=>x==v|_=>M
def Kq(h:nB o v=u):o=-(.bool v):=by
 unfold nB at h;split at h
 .rw[eq_of_beq h]
 simp_all
def V1:((eI 3).all λr=>(eI 4).all λc=>(eI 3).all λa=>(eI 3).all λb=>Jn (bz [nd (if a=r then 2^c else 0),nd b]) (.bool (decide (a=r/\b=c))))=u:=by rfl
def XB:((eI 4).all λR=>(eI 3).all λr=>(eI 4).all λc=>!decide (r<R)||(nB (fO (.tuple (kb R r c)) (.tuple (kb R r c))) M&&(nB (fO (.tuple (ZK R)) (.tuple (kb R r c))) u&&nB (bx (.tuple (ZK R)) (.tuple (kb R r c))) M)))=u:=by rfl
def WH(e:r<3)(f:c<4)(d:a<3)(g:b<3):bz [nd (if a=r then 2^c else 0),nd b]=.ok (.fz (.bool (decide (a=r/\b=c)))):=iY (j?.mp (j?.mp (j?.mp (j?.mp V1 r (js.mpr e)) c (js.mpr f)) a (js.mpr d)) b (js.mpr g))
def UR(e:R<=3)(a:r<R)(b:c<4):fO (.tuple (kb R r c)) (.tuple (kb R r c))=-(.bool M)/\fO (.tuple (ZK R)) (.tuple (kb R r c))=-(.bool u)/\bx (.tuple (ZK R)) (.tuple (kb R r c))=-(.bool M):=by let h:=j?.mp (j?.mp (j?.mp XB R (js.mpr ())) r (js.mpr ())) c (js.mpr b);simp[a4 a,ak7,Q_,c!,c!]at h;show#[Kq h.1,Kq h.2.1,Kq h.2.2]
def Y3(h:a<R):av (.tuple (kb R r c)) (nd a)=-(nd (if a=r then 2^c else 0)):=Ez (by ext kb;simp_all)
def WP(R r c):(kb R r c).length=R:=by ext kb;simp_all
def Vm{d e:D}(b:1<=R)(a:R<=3):jg [.tuple [nd R,d,e],.tuple []]=.ok (.fz (.tuple (ZK R))):=by
 obtain rfl|rfl|rfl:R=1\/R=2\/R=3:=by ext
 all_goals kernel_rfl
def Wr(h:C o=.er x):bF C gt o=.er x:=by ext bF;rw[h];rfl
def LV{b:bM}(a:ds.map (λd=>-(d))++ey (N-ds.length) CL=b)(h:g b=.er x):bL N g ds=.er x:=by ext bL;rw[a,h];rfl
def Oi(h:f o=.er x):aF f g o=.er x:=by ext aF;rw[h];rfl
section
def fK(r c:Nat):D->bb D |.tuple [i,{1,.int a,.int b}]=>if a=(r)/\b=(c)then G i else CL|_=>CL
def TD(a b)(i:D):fK r c {1,i,.tuple (aM [a,b])}=if a=r/\b=c then G i else CL:=by
 show(if(a)=(r:Int)/\(b)=(c:Int)then G i else CL)=_
 grind
def ajc(h:VF R C K)(n:r<3)(p:c<4):eN (bN (gT 2 (iM (gN 0) (iM (gN 1) rE))) (ai (aG bz 2 {am av (ae 2) (1/0),1/1})) (ae 0) (bX 0 (kP K)) [CL,CL,-(.tuple (kb R r c))] [])=.ok ((bX 0 (kP K)).filterMap (fK r c)):=by let k5:=h.k5;show lI (λw=>∃j g,w=[j,g,G _]) _ #[_,_,W] (by rw[eU];ext kP;grind) ?_;rintro d o w ⟨j,g,rfl⟩;let(i,y):=q?.mp o;let(x,f,0):=sS _ _ _ _ y;unfold kP at f;rw[iD]at f;cases q:K[i]? with |none=>ext|some k=>
 rw[q]at f;ext f;let(a,b,0,A,u):=h.sp k (lq q);let t:=h.r3;let v:=h.c3;let m:av (.tuple (aM [a,b])) _=G _:=jI;let l:=Y3 (r:=r) (c:=c) (a:=a) ();let cl:=WH (a:=a) (b:=b) n p () ();let e:ai (aG _ 2 {am av (ae 2) (am av (ae 1) _),am av (ae 1) _}) [-(nd (0+i)),G _,G _]=.ok _:=b9 (cY (ar (aZ (au W) (aZ (au W) aU W W gB) W W l) (ar (aZ (au W) aU W W m) aP)) W W cl) W;rw[TD];by_cases z:a=r/\b=c
 .rw[ax z];rw[a4 z]at e;show#[_,lX W e (au W) W W,_,_,W]
 .rw[aE z];rw[a5 z]at e;show#[_,C8 W e W,_,_,W]
def SJ(g:∀k∈K,∃a b,k=[a,b]/\a<R/\b<C)(l:∀k∈K,k≠[r,c])(m):(bX m (kP K)).filterMap (fK r c)=[]:=by rw[List.filterMap_eq_nil_iff];intro d h;let(i,n):=q?.mp h;let(x,e,0):=sS _ _ _ _ n;unfold kP at e;rw[iD]at e;cases q:K[i]? with |none=>ext|some k=>
 rw[q]at e
 injections;subst_vars
 let f:=lq q;let(a,b,0,o,j):=g k f;rw[TD,aE λz=>l _ f (by rw[z.1,z.2])]
def YW(h:VF R C K)(g:r<R)(b:c<4)(l:∀k∈K,k≠[r,c]):fL [pU R C K,.tuple (kb R r c)]=.er #["NoReading",[]]:=by
 let f:=h.r3;let j:cX [.tuple (kb R r c)]=-(nd R):=by rw[fC,WP]
 let ne:fO (nd R) (nd R)=-(.bool M):=by rw[pH,a4 W];rfl
 let a:=ajc h (r:=r) () b;rw[SJ h.sp l]at a;let i:=Vm (d:=nd C) (e:=.tuple (kP K)) h.r1 h.r3;let cm:=(UR f g b).2.1;let e:ie [pU R C K,.tuple (kb R r c)]=.er #["NoReading",[]]:=by show LV W ?_;show(dH ((xH (by ext:6)).trans W)).trans ?_;show(dH (mJ (fq (ar (bj (by ext:6) W a) aP) W W) W W)).trans ?_;show Oi ((JD (by ext:6)).trans ?_);rfl
 show LV W (Oi (Wr (Sj (by ext:6) W W e)))
end
section
variable(Z:VB b)
def Kj:(go p k).2.length<=p.2.length+1:=by
 ext go;split
 .rename_i a q
  simp[jl];let:(Tr (si p.1.ac k CL) a).length<=1:=by cases a with|ab3 c=>show(if qC _ _=u then[]else[(c,M)]).length<=1;split<;>show nE W|_=>show mT _
  simp_all
 simp_all
def RF:(Ku b p k).2.length<=p.2.length+1:=by let e:Ku b p k=y3 b (A7 p.1.ac p.1.oc) (l7 p.1 (look b (A7 p.1.ac p.1.oc) k),p.2) k (look b (A7 p.1.ac p.1.oc) k):=W;rw[e];generalize look b (A7 p.1.ac p.1.oc) k=m;generalize A7 p.1.ac p.1.oc=L;let cm:∀a,(i6 (l7 p.1 m,p.2) k a).2.length<=p.2.length+1:=λa=>sE;cases m with
 |tap c n=>show u? _|ab3 c=>
  show(if(decide (L=0)&&!(iZ b [k]).isEmpty)=u then({l7 p.1 (.ab3 c)with wt:=G ([k],0,CL)},p.2)else i6 (l7 p.1 (.ab3 c),p.2) k (.ab3 c)).2.length<=_;split
  .show u? _
  .show cm _|once n=>show cm .none|ac7 n|none|below=>show cm _
include Z
def Bz(a:SW b s)(i:EV b e):(bT b s e).2.length<=100:=by let j:(eG b _).2.length<=5:=(iH Z (p:=(s,[])) a.sa (SW.wd Z a)).2.2.1;cases e with
 |turn=>
  show(nG b _).2.length<=100;ext nG;split
  .simp_all
  .rename_i f g w q
   let v:=(a.wt f g w q).1;split
   .show la ((iH Z #[a.sa.ac,a.sa.oc] λ_ _ _ e=>by ext e;show#[v.ne,v.nd,v.kn,v.kf,by let:=v.g0;ext,v.tp,v.ch]).2.2.1) (show 0+5<=100 by decide)
   simp_all|up k=>
  show(xw b _ k).2.length<=100;ext xw;split
  .rename_i q;let z:=(pL Z a q).2;let z:(STP.cI b _ k).2.length<=5:=z;let:=Kj (p:=STP.cI b (s,[]) k) (k:=k);ext
  .show la Kj (show 0+1<=100 by decide)|down k=>
  show(nX b _ k).2.length<=100;ext nX;split
  .simp_all
  .let m:s.ac k=CL:=by simp_all
   let l:Jo s.wt k=M:=by simp_all
   split
   .rename_i h
    let(f,g,e1,e2,e3,e4):=A1 Z a i m l h;ext xt;rw[e1];dsimp only;split
    .show la ((iH Z #[a.sa.ac,a.sa.oc] λ_ _ _ e=>by ext e;show e3).2.2.1) (show 0+5<=100 by decide)
    .show mT _
   .let:=RF (b:=b) (p:=eG b (s,[])) (k:=k);ext
end
def LX(b:aS.strOk x=u)(a:aS.strOk y=u):aS.strOk (x++y)=u:=by show(x.cps++y.cps).all _=u;rw[Array.all_append];show(c! _ _).mpr #[b,a]
def r9(f:aS.strOk sep=u):∀{ws:I Str},(∀w∈ws,w.length<=B/\aS.strOk w=u)->(iw sep ws).length<=ws.length*(B+sep.length)/\aS.strOk (iw sep ws)=u:=by
 intro ws
 induction ws with |nil=>show λ_=>#[mT _,show aS.strOk avu=u by left]|cons x r b=>intro h;let a:=h x eQ;cases r with|nil=>show#[?_,a.2];show x.length<=1*(B+sep.length);ext|cons y r=>let g:=b λw e=>h w (h_ _ e);show(x++sep++iw sep _).length<=((y::r).length+1)*(B+sep.length)/\aS.strOk _=u;rw[pk,pk,Q!];show#[by ext,LX (LX a.2 f) g.2]
def N3{ws:I Str}(h:∀w∈ws,w.length<=B)(e:ws.length*B+ws.length*sep.length<=1000000):eE sep [.list (ws.map .str)]=-(.str (iw sep ws)):=by
 let b:t4 sep ws=u:=by ext t4;rw[(LM h ())];rfl
 show(match xF _ with|some a=>if t4 sep a=u then G _ else CL|none=>CL)=_
 rw[CJ];dsimp only;rw[ax b,show Txt.join sep ws=iw sep ws from LL _ _]
def CW(p:Nat×Bool):Str:=#[#v[if p.2=u then 43 else 45,97+p.1]]
section
variable(Z:VB b)
include Z
def KH:∀(es){s:hq},SW b s->(∀e∈es,EV b e)->(cS b s es).2.flatten.length<=100*es.length/\ly (cS b s es).2.flatten:=by
 intro es
 induction es with |nil=>intro s _ _;show#[mT _,λ_ z=>by ext z]|cons e r g=>intro s f a;let j:=Bz Z f (a e eQ);let i:=g (A4 Z f (a e eQ)) λx h=>a x (h_ _ h);show((bT b s e).2++(cS b _ r).2.flatten).length<=100*(r.length+1)/\ly _;rw[jl];show#[by ext,(GY Z f (a e eQ)).app i.2]
def Mu{es:I qm}(a:SW b s)(g:∀e∈es,EV b e)(h:es.length<=10)(i):(cS b s (es.take i)).2.flatten.length<=1000:=by
 let:=(KH Z (es.take i) a λx f=>g x (Ks f)).1
 grind
end
def Jh(w:Str):Str:=if w="unsure"then"?"else if w="sure"then"s"else"u"
def XJ{w:Str}(h:w="up"\/w="sure"\/w="unsure"):(Jh w).length<=1/\aS.strOk (Jh w)=u:=by rcases h with rfl|rfl|rfl<;>left
def Jz:("":Str).length=0:=W
section
variable{ws:a8 Str}
def zZ(h:∀w∈ws,w="up"\/w="sure"\/w="unsure")(f:ws.length<=100):eE "" [.list ((ws.map Jh).map .str)]=-(.str (iw "" (ws.map Jh)))/\aS.strOk (iw "" (ws.map Jh))=u:=by
 let b:∀w∈ws.map Jh,w.length<=1/\aS.strOk w=u:=λw a=>by let(v,e,0):=gi.mp a;show XJ (h v e)
 show#[N3 (λw a=>(b w a).1) (by rw[dO,Jz];ext),(r9 (by left) b).2]
def MB(h:∀w∈ws,w="up"\/w="sure"\/w="unsure")(b:ws.length<=100):gf [.tuple (ws.map .str)]=.ok (.fz (.str (iw "" (ws.map Jh)))):=by
 let cm:eN (bN (gN 0) bi (yp (ai (am bx (ae 0) (~~~"unsure"))) (~~~"?") (am L3.mn (ae 0) (~~~0))) (ws.map .str) [CL] [])=.ok ((ws.map Jh).map .str):=by
  let:=gb (f:=aS.str) (g:=λw=>.str (Jh w)) (fe:=yp (ai (am bx (ae 0) (~~~"unsure"))) (~~~"?") (am L3.mn (ae 0) (~~~0))) (cp:=[]) ws () W λw a=>by
   rcases h w a with rfl|rfl|rfl
   all_goals kernel_rfl
  rw[i?];show this
 show bQ W ?_;show b8 (g6 aU W (ar (bj (by rfl) W cm) aP) W ((zZ h b).1)) W W
def Mi(h:∀w∈ws,w="up"\/w="sure"\/w="unsure")(b:ws.length<=100)(e:tR [fr,o]=.ok (.fz (.tuple (ws.map .str)))):jT [fr,o]=.ok (.fz (.str (iw "" (ws.map Jh)))):=by
 let cm:eN (bN (gN 0) bi (Yi [(aS.str "up",aS.str "u"),(aS.str "sure",aS.str "s"),(aS.str "unsure",aS.str "?")] (ae 0)) (ws.map .str) [CL] [])=.ok ((ws.map Jh).map .str):=by
  let:=gb (f:=aS.str) (g:=λw=>.str (Jh w)) (fe:=Yi [(aS.str "up",aS.str "u"),(aS.str "sure",aS.str "s"),(aS.str "unsure",aS.str "?")] (ae 0)) (cp:=[]) ws () W λw a=>by
   rcases h w a with rfl|rfl|rfl
   all_goals rfl
  rw[i?];show this
 show bQ W ?_;show b8 (g6 aU W (ar (bj (by ext:6) W cm) aP) W ((zZ h b).1)) W W
end
def oa(l:Sn):Str:=if l=[]then"."else iw "" (l.map CW)
def zH(h:ly l):∀w∈l.map CW,w.length<=2/\aS.strOk w=u:=λw b=>by
 let(p,e,0):=gi.mp b;let:=h p e;show#[dc 2,?_];show(#v[if p.2=u then 43 else 45,97+p.1]).all _=u;rw[Jg];intro x a;simp at a;show a4 ?_;rcases a with rfl|rfl
 .split<;>decide
 .omega
def FQ(h:ly l)(b:l.length<=1000):eE "" [.list ((l.map CW).map .str)]=-(.str (iw "" (l.map CW))):=N3 (λw a=>(zH h w a).1) (by rw[dO,Jz];ext)
def BF(h:ly l):aS.strOk (oa l)=u:=by
 ext oa;split
 .left
 .show(r9 (by left) (zH h)).2
def UU{r:Sn}:2<=(iw "" ((p::r).map CW)).length:=by cases r with |nil=>show dc 2|cons q r=>show 2<=(CW p++""++iw "" _).length;rw[pk,pk];let:(CW p).length=2:=W;ext
def qu(h:ly l)(j:l.length<=1000):eV [.list (l.map nU)]=.ok (.fz (.str (oa l))):=by
 let cm:eN (bN (gT 2 (iM (gN 0) (iM (gN 1) rE))) bi (am cT (yp (ai (am bx (ae 1) (~~~"down"))) (~~~"+") (~~~"-")) (ae 0)) (l.map nU) [CL,CL] [])=.ok ((l.map CW).map .str):=by
  let:=uw (f:=nU) (g:=λp=>.str (CW p)) (gt:=gT 2 (iM (gN 0) (iM (gN 1) rE))) (fe:=am cT (yp (ai (am bx (ae 1) (pC (.str _)))) _ (pC _)) (ae 0)) (λn=>∃a b,n=[a,b]) l () #[CL,CL,W] (by rintro⟨c,d⟩ m n ⟨a,b,rfl⟩;cases d with |true=>let e1:bx _ (.str "down")=G _:=x8 (by left);let e:cT (.str "+") (.str (me c))=G _:=W;show#[_,lX (ρ1:=[-(.str (me c)),-(.str "down")]) W W (aZ (D7 (by ext:6) aU) (au W) W W e) W W,_,_,W]|false=>let e1:bx (.str "up") (.str "down")=G _:=wP (by left) (by left) (W);let e:cT (.str "-") (.str (me c))=G _:=W;show#[_,lX (ρ1:=[-(.str (me c)),-(.str "up")]) W W (aZ (Ed (by ext:6) aU) (au W) W W e) W W,_,_,W])
  rw[i?];show this
 let i:=(r9 (sep:="") (by left) (zH h)).1;rw[dO,Jz]at i;show bQ (ρ:=[G _]) W ?_;show b8 (pv:=.fz _) (ρ1:=[-(.list (l.map nU))]) ?_ W W;ext HL;rw[(g6 aU W (ar (bj (by ext:6) W cm) aP) W (FQ h j))];show(if(iw "" _).length<=1000000 then(if(iw "" _).length=0 then pC _ _ else .ok _)else .bad)=_;rw[ax ()];cases l with |nil=>rfl|cons p r=>rw[aE (by let:=UU (p:=p) (r:=r);ext)];rfl
def alW(l:I Str):aS.depthAll (l.map aS.str)=0:=by induction l with|nil=>rfl|cons a r b=>assumption
def uc{Ls:I Sn}(h:ly Ls.flatten)(u:Ls.flatten.length<=1000)(A:Ls.length<=100):gZ [.list (Ls.map λl=>.list (l.map nU))]=.ok (.fz (.str (oa Ls.flatten))):=by
 let m:∃C,bL 3 jx [.list (Ls.map λl=>.list (l.map nU))]=.ok C/\C=.fz (.str (oa Ls.flatten)):=by
  show qG W ?_;show i7 (λi B=>∃j,B=[G _,G (.ow (((Ls.take i).flatten.map CW).map .str)),j]) (by ext:6) #[_,W] ?_ ?_
  .rintro i d B E ⟨j,rfl⟩
   rw[iD]at E;cases q:Ls[i]? with |none=>ext|some l=>
   rw[q]at E;ext E;let o:(Ls.take (i+1)).flatten=(Ls.take i).flatten++l:=by rw[rp,q];simp_all
   let lb:((Ls.take i).flatten++l).length<=1000:=by
    rw[<-o];let:=dt (λl=>(List.flatten l).length) (List.take_append_drop (i+1) Ls)
    grind
   rw[jl]at lb;show#[_,W,?_];let cm:eN (bN (gT 2 (iM (gN 0) (iM (gN 1) rE))) bi (am cT (am av (bS {pC (.str "-"),pC (.str "+")}) (cy xQ {am bx (ae 1) (~~~"down")})) (ae 0)) (l.map nU) [CL,CL] [])=.ok ((l.map CW).map .str):=by
    let:=uw (f:=nU) (g:=λp=>.str (CW p)) (gt:=gT 2 (iM (gN 0) (iM (gN 1) rE))) (fe:=am cT (am av (bS {pC (.str "-"),pC (.str "+")}) (cy xQ {am bx (ae 1) (~~~"down")})) (ae 0)) (λB=>∃a b,B=[a,b]) l () #[CL,CL,W] (by rintro⟨c,d⟩ y B ⟨a,b,rfl⟩;cases d with |true=>let e1:bx _ (.str "down")=G _:=x8 (by left);let n:cT (.str "+") (.str (me c))=G _:=W;show#[_,lX (ρ1:=[-(.str (me c)),-(.str "down")]) W W (aZ (aZ (by ext:6) (by ext:6) W W (EN () W)) (au W) W W n) W W,_,_,W]|false=>let e1:bx (.str "up") (.str "down")=G _:=wP (by left) (by left) (W);let n:cT (.str "-") (.str (me c))=G _:=W;show#[_,lX (ρ1:=[-(.str (me c)),-(.str "up")]) W W (aZ (aZ (by ext:6) (by ext:6) W W A3) (au W) W W n) W W,_,_,W])
    simp_all
   let v:bE 2 [] (dB (ae 2)) _ bi _ [-(.list (Ls.map λl=>.list (l.map nU))),G (.ow (((Ls.take i).flatten.map CW).map .str)),-(.list _)]=.ok _:=bj (by ext:6) W cm;show gK (pv:=.fz .none) (ρ1:=[G _,G _,-(.list (l.map nU))]) ?_ #[_,W];rw[o,mN,mN];show(Vq (i:=1) W v W (by grind))
  .rintro B ⟨j,rfl⟩
   rw[dO,S?];let eq:bx (.list ((Ls.flatten.map CW).map .str)) (.list [])=-(.bool (decide (Ls.flatten=[]))):=by
    let r:aS.canLayAll0 ((Ls.flatten.map CW).map aS.str)=Ld:=Au λw t=>(zH h w t).2;let ok:lj (.list ((Ls.flatten.map CW).map .str))=Ld:=by ext lj;rw[show aS.canLay0 _=aS.canLayAll0 _ from rfl,r];show a4 (by show aS.depthAll _+1<=64;rw[alW];decide)
    show(if(lj _&&Ld)=Ld then G _ else CL)=_;rw[ok];cases Ls.flatten<;>rfl
   show fy (by ext:6) (λz=>ia aU W ?_) (λz=>cz (b8 (g6 aU W (by ext:6) W (FQ h u)) W ?_))
   .ext oa;rw[ax (a6 z)]
   .ext oa;rw[aE (of_decide_eq_false z)]
 let(C,e,0):=m;show e
def IK(s:I Nat):Str:=if s=[]then"."else tX s
def Kk:1<=(tX (k::r)).length:=by cases r with|nil=>show dc 1|cons q r=>show 1<=(lh k++#[_]++iw _ _).length;rw[pk,pk];let:(lh k).length=1:=W;ext
def MA(f:∀k∈s,k<10):aS.strOk (tX s)=u:=by
 show(r9 (B:=1) (by left) λw e=>?_).2;let(k,b,0):=gi.mp e;let:=f k b;show#[dc 1,?_];show(#v[48+k]).all _=u;rw[Jg];intro x a;let a:x∈[48+k]:=by simpa using a
 rw[f?.mp a];show a4 ()
def akP(a:∀k∈s,k<10):aS.strOk (IK s)=u:=by
 ext IK;split
 .left
 .show MA a
def xE(b:∀k∈s,k<10)(a:s.length<=5):gh [.tuple (aM s)]=.ok (.fz (.str (IK s))):=by let cm:=zu b a;let j:eE "," _=G _:=kJ (mr s) (by grind);let e:=GQ a;show bQ (ρ:=[G _]) W ?_;show b8 (pv:=.fz _) (ρ1:=[-(.tuple (aM s))]) ?_ W W;ext HL;rw[(g6 aU W (ar (bj (by rfl) W cm) aP) W j)];show(if(tX s).length<=1000000 then(if(tX s).length=0 then pC _ _ else .ok _)else .bad)=_;rw[ax ()];cases s with |nil=>rfl|cons k r=>rw[aE (by let:=Kk (k:=k) (r:=r);ext)];rfl
def alh(e:∀k∈s,k<10)(h:ρ[8]?=G (-(.str (tX s)))):am av (bS {ae 8,pC (.str ".")}) (cy xQ {am bx (ae 8) (~~~"")}) ρ=.ok (.fz (.str (IK s)),ρ):=by let e0:=Tx (MA e) (b:="") (by left);cases s with |nil=>let e1:bx _ (.str "")=G _:=x8 (by left);let a:xQ [.bool u]=G _:=W;show aZ (oA (ar (au h) (ar aU aP)) W ()) (fq (ar (aZ (au h) aU W W e1) aP) W a) W W (EN () W)|cons k r=>
  let ne:tX _≠"":=λz=>by let:=Kk (k:=k) (r:=r);rw[z]at this;ext this
  let e1:bx (.str (tX (k::r))) (.str "")=-(.bool M):=by simp_all
  let a:xQ [.bool M]=G _:=W;show aZ (oA (ar (au h) (ar aU aP)) W (by show 2<=1000;decide)) (fq (ar (aZ (au h) aU W W e1) aP) W a) W W A3
def Yj(R C:Nat):I Nat:=(eI R).map λi=>if i=0 then 2^C else 0
def S7(R C):kb R 0 C=aM (Yj R C):=by unfold kb Yj aM;rw[i?];rfl
def aap:("seen ")=("seen":Str)++#[#v[32]]:=W
section
def UV(h:VF R C K):am b6 (bS {am Bp (~~~1) (1/1)}) (am fP (bS {~~~0}) (am pX (1/0) (~~~1))) [x0,-(pU R C K),CL]=.ok (.ow (kb R 0 C),[x0,-(pU R C K),CL]):=by
 let b:=h.r1;let a:=h.r3;let f:=h.c1;let e:=h.c3;obtain rfl|rfl|rfl:R=1\/R=2\/R=3:=by ext
 all_goals
  obtain rfl|rfl|rfl:C=1\/C=2\/C=3:=by ext
  all_goals rfl
def aeP(h:VF R C K)(j:DK J Q T l (pU R C K) b ks g U st):eC [.rf Q,.fz (pU R C K)] J=.ok (.fz (.bool Ld)) J:=by
 let u:=h.r1;let t:=h.r3;let E:=h.c1;let B:=h.c3;let n:∀k∈Yj R C,k<10:=λk f=>by
  let(i,_,0):=gi.mp f;split
  .obtain rfl|rfl|rfl:C=1\/C=2\/C=3:=by ext
   all_goals decide
  .decide
 let v:(Yj R C).length=R:=by ext Yj;simp_all
 let ne:Yj R C≠[]:=λz=>by grind
 let tx:=Du (d:=.list (kb R 0 C)) (by rw[S7];rfl) () n;let(q,p):=tm (.inl W) ne () n;let m:=YW h (r:=0) (c:=C) () () λk f e=>by let(a,b,0,_,y):=h.sp k f;simp_all
 rw[S7]at m;let er:aW _ J=.er _ J:=(NV j.d p).trans (aaD j m);let o:=UV h (x0:=CL);let w:af Z0 [G (.rf Q),-(_),CL] J=.ok _ J:=ah (aZ (rv:=.fz _) aU (cY (ar o aP) W W tx) W W (by show q));show(match af Z0 [G _,G _,CL] J with |.ok (.fz (.str row)) H=>_|_=>_)=_
 let A:mv _ _ _ 2 (ap 0) {0,ap 2} [G _,-(pU R C K),G _] J=.er _ J:=sr (aA W) j.d t9 (by ext:1) W er;simp_all
end
structure LK(ω)(Q U)(fr)(n)(b)(g)(B)(s):Prop where ex:∃T l ks l' ks',ks.length=n/\ks'.length=n/\DK ω Q T l fr b ks g (bD B) (kQ s)/\TL ω U l' fr b ks' g/\∀x∈Q::T::l::ks,x∉U::l'::ks'
def DK.kp(h:DK ω Q T l fr b ks g bed st)(k:Kp S ω ω')(hd:∀x∈Q::T::l::ks,x∉S):DK ω' Q T l fr b ks g bed st:=#[k _ _ h.d (hd _ eQ),h.t.kp k (hd _ ()) (hd _ ()) λx a=>hd x (by simp[a])]
def DK.lt(h:DK ω Q T l fr b ks g bed st):∀x∈Q::T::l::ks,x<ω.length:=by
 let t:=h.t.lt;intro x a;simp_all;rcases a with rfl|rfl|rfl|a
 .show(f_.mp h.d).1
 .show t.1
 .show t.2.1
 simp_all
def V_(b:cj)(rs:I Nat)(a:I Sn):Prop:=rs.length=a.length/\∀(t r:Nat)(l),rs[t]?=G r->a[t]?=G l->b[r]?=G (.lst ((l.map nU).map .fz))
def P6(n):∀{rs:I Nat}{c:I Sn},V_ o rs c->aQ (xC (n+1) o) (rs.map .rf)=G (c.map λl=>.list (l.map nU)):=by
 intro rs
 induction rs with
 |nil=>intro c h;cases c with |nil=>rfl|cons _ _=>cases h.1
 |cons r q e=>intro c h;cases c with|nil=>cases h.1|cons l L=>let g:=h.2 0 r l W W;let f:=e #[A! h.1,λt r l a b=>h.2 (t+1) r l a b];rw[l4,l4];ext aQ;rw[F4 n g,f]
def Ho(a:ω[c]?=G (.lst (rs.map .rf)))(h:V_ ω rs Ls):xC 6 ω (.rf c)=G (.list (Ls.map λl=>.list (l.map nU))):=by ext xC;rw[a];dsimp only;rw[P6 4 h];rfl
def ajW(h:TL ω U l fr b ks g){ws:a8 Str}(s:ws.length=ks.length)(v:fL [fr,rd]=.ok (.fz (.tuple (ws.map .str))))(u:∀w∈ws,w="up"\/w="sure"\/w="unsure")(A:∀j,j<ks.length->(g j).2.1=0\/(g j).2.1=1)(y:ks.length<=100):∃k e,iQ b6 (jO 1 [1] (jA (aB "Teller" "scan" cK 2 (ap 2) {0,!3})) (d4 0) (bG (ai (am uT (0/1) (1/0)))) (!0)) (af (bS {bK {pC (.str "turn"),~~~0}})) [cL x0,-(bD B),cL (.rf U),-(rd),cL x4,cL x5,CL,CL,CL] ω=.ok (.rf e) k/\k[e]?=cL (.lst (((xJ B.n (zz g ws ks.length)).map tY).map .fz))/\ω.length<=e/\TL k U l fr b ks (xz b g ws)/\Kp ks ω k:=by
 let(a,e1,m,q,k1):=G8 h s v u A y;let lt:=h.lt;let H:=(f_.mp m).1;let cl:=uO g ws ks.length;generalize O:zz g ws ks.length=cs at*;let cm:jO 1 [1] (jA (aB "Teller" "scan" cK 2 (ap 2) {0,!3})) (d4 0) (bG (ai (am uT (0/1) (1/0)))) (!0) [cL x0,-(bD B),cL (.rf U),-(rd),cL x4,cL x5,CL,CL,CL] ω=.ok (.rf (a.set ω.length .dead).length) (a.set ω.length .dead++[d?.lst (((cs.filter λc=>decide ((c.2:Int)<B.n)).map xq).map .fz)]):=by show sQ (qD (cN (aA W) h.t EF (aq (ah (d:=rd) (by ext:6)) aV) W e1) m) ?_;show(yk xq _ (λP=>∃o,P=[o,-(bD B)]) cs _ [] #[CL,W] (by rw[C!];ext) ?_);rintro c _ P ⟨o,rfl⟩;let J:av (xq c) (.int 1)=-(nd c.2):=jI;let L:av (bD B) (.int 0)=-(.int B.n):=gB;show#[_,W,cA (by ext:6),ah (by ext:6),_,W]
 let C:(cs.filter λc=>decide ((c.2:Int)<B.n)).map xq++[.tuple [.str "turn",.int 0]]=(xJ B.n cs).map tY:=by ext xJ;rw[mN,i?];congr 1;show rC λc z=>Ub ?_;let:=TM (g:=g) (ws:=ws) (n:=ks.length) c;rw[O]at this;show this (n7.mp z).1
 generalize N:a.set ω.length .dead=t at*;let I:t.length=a.length:=by rw[<-N,p_]
 let k2:Kp ks ω t:=λj c f i=>by rw[<-N];let:=(f_.mp f).1;show dh () (k1 j c f i)
 let p:TL t U l fr b ks (xz b g ws):=by rw[<-N];show q.kp (S:=[ω.length]) (Kp.set eQ) (by rw[f?];ext) (by rw[f?];ext) λx r=>by rw[f?];let:=lt.2.2 x r;ext
 show#[t++[d?.lst (((cs.filter λc=>decide ((c.2:Int)<B.n)).map xq).map .fz),d?.lst ([.tuple [.str "turn",.int 0]].map .fz),d?.lst (((xJ B.n cs).map tY).map .fz)],t.length+2,?_,?_,by ext,p.app,λj c f i=>di (k2 j c f i)]
 .let G:(t++[d?.lst (((cs.filter λc=>decide ((c.2:Int)<B.n)).map xq).map .fz)]++[.lst ([.tuple [.str "turn",.int 0]].map .fz)])[t.length]?=cL _:=di aO
  let F:(t++[d?.lst _]++[.lst ([.tuple [.str "turn",.int 0]].map .fz)])[(t++[d?.lst (((cs.filter λc=>decide ((c.2:Int)<B.n)).map xq).map .fz)]).length]?=cL _:=aO;let M:(cs.filter λc=>decide ((c.2:Int)<B.n)).length<=cs.length:=y? _ _;let E:b6 (.list ((cs.filter λc=>decide ((c.2:Int)<B.n)).map xq)) (.list [.tuple [.str "turn",.int 0]])=cL (.ow ((xJ B.n cs).map tY)):=by rw[<-C];show(if((cs.filter _).map xq).length+1<=1000000 then cL (RV.ow _)else CL)=_;rw[ax (by rw[dO];ext)]
  show(dI cm (c9 (by ext:2)) (F1 (jL G) (jL F) E)).trans ?_;congr 1
  .simp only[jl,z4]
  .simp only[pb];rfl
 .rw[oq (),DF];rfl
def VS(g:Nat->Int×(Int×Int))(n:Nat):Prop:=∀j,j<n->(g j).2.1=0\/(g j).2.1=1
def Wg{ws:I Str}(h:VS g n):VS (xz b g ws) n:=λj a=>by
 show(kS b _ _ _).1=0\/(kS b _ _ _).1=1;ext kS;split
 .show h j a
 .show WX (h j a)
abbrev ZO(Q U c:Nat)(B:Bd)(x:D)(s:hq)(d b a:bb SV):dJ:=[G (.rf Q),-(bD B),G (.rf U),-(x),-(kQ s),G (.rf c),d,b,a]
def Mq:bu [.str "keys"]=.ok (.fz {1,.str "keys",.tuple []}):=iY (by left)
def ajo(b:n<=5):(∀k∈OD g n,k<10)/\(OD g n).length<=5:=by show#[λk a=>by let:=js.mp (n7.mp a).1;ext,?_];let:=y? (λj=>decide ((g j).2.1=1)) (eI n);rw[n_]at this;ext OD;ext
def ake(h:LK ω Q U fr n b g B s)(O:VB B)(P:SW B s)(h5:n<=5)(hb:VS g n){tx:Str}{ws:a8 Str}(ht:dR [x]=.ok (.fz (.str tx)))(ha:cT (.str "scan ") (.str tx)=-(.str row))(hr:bu [.str row]=.ok (.fz {1,.str "scan",x}))(hl:ws.length=n)(V:fL [fr,x]=.ok (.fz (.tuple (ws.map .str))))(hw:∀w∈ws,w="up"\/w="sure"\/w="unsure"):∃k D,jD [.rf Q,.fz (bD B),.rf U,.fz x,.fz (kQ s)] ω=.ok (.fz (kQ D)) k/\LK k Q U fr n b (xz b g ws) B D/\SW B D:=by
 let(T,l,m,l',f,n1,X,dk,tl,dj):=h.ex;subst n1;let lt:=tl.lt;let F:=dk.lt;let key:Out (jD [.rf Q,.fz (bD B),.rf U,.fz x,.fz (kQ s)] ω) (λv k=>∃D,v=.fz (kQ D)/\LK k Q U fr m.length b (xz b g ws) B D/\SW B D) (λ_=>False):=by
  show vt W ?_;ext jC;show eS (x:=.rf ω.length) (ω1:=ω++[.lst []]) (ρ1:=ZO Q U ω.length B x s CL CL CL) (c9 (ds:=[]) (by ext:6)) W ?_;let(ω1,e,ev1,ce,le,tl1,Y):=ajW (B:=B) (rd:=x) (ws:=ws) (tl.app (J:=[.lst []])) (by rw[hl,X]) V hw (by rw[X];show hb) () (x0:=.rf Q) (x4:=.fz (kQ s)) (x5:=.rf ω.length);rw[jl]at le;let le:ω.length+1<=e:=le;rw[X]at ce;let p:∀e∈xJ B.n (zz g ws m.length),EV B e:=JU;let el:(xJ B.n (zz g ws m.length)).length<=10:=by ext xJ;rw[jl,dO,z4];let h1:=y? (λc:Str×Nat=>decide ((c.2:Int)<B.n)) (zz g ws m.length);let h2:=uO g ws m.length;ext
  let tsc:=λ(ω5:cj)(dk5:DK ω5 Q T l fr b m g (bD B) (kQ s)){z:Str}hz=>aaC dk5 O P hl V hw hb () (λi _=>Mu O P p el i) (z:=z) hz;generalize hes:xJ B.n (zz g ws m.length)=es at*;let bd:=KH O es P p;let cn:ω.length∉f:=λz=>by let:=lt.2.2 _ z;ext
  let k0:Kp f ω (ω1.set e .dead):=λj c Z nj=>by let:=(f_.mp Z).1;show dh () (Y j c (di Z) nj)
  show tD (Ao (λi ρ k=>∃o6 R u,ρ=ZO Q U ω.length B x (cS B s (es.take i)).1 o6 R CL/\k[ω.length]?=cL (.lst (u.map .rf))/\V_ k u (cS B s (es.take i)).2/\(∀r∈u,ω.length<r)/\TL k U l' fr b f (xz b g ws)/\Kp f ω k) (ds:=es.map tY) (ω1:=ω1.set e .dead) (qD ev1 ce) #[CL,CL,[],W,dh () (Y _ _ aO cn),#[W,λt r l h _=>by ext h],(λ_ z=>by ext z),tl1.kp (S:=[e]) (Kp.set eQ) (by rw[f?];ext) (by rw[f?];ext) (λy C=>by rw[f?];let:=lt.2.2 y C;ext),k0] ?_ ?_)
  .rintro i d ρ k hi ⟨o6,R,u,rfl,hc,lk,hr',tl',kp⟩
   rw[iD]at hi;cases q:es[i]? with |none=>rw[q]at hi;ext hi|some ev=>
   rw[q]at hi;ext hi;let il:=(f_.mp q).1;let tk:es.take (i+1)=es.take i++[ev]:=by rw[rp,q];rfl
   let sw1:SW B (cS B s (es.take i)).1:=uR O _ P λy C=>p y (Ks C);let r1:cS B s (es.take (i+1))=((bT B (cS B s (es.take i)).1 ev).1,(cS B s (es.take i)).2++[(bT B (cS B s (es.take i)).1 ev).2]):=by rw[tk,wq];rfl
   rw[r1];let rl:u.length=i:=by rw[lk.1,v7,p'];ext
   generalize cS B s (es.take i)=st at*;let hcl:=(f_.mp hc).1;let I:=di (J:=[.lst (((bT B st.1 ev).2.map nU).map .fz)]) hc;show#[ZO Q U ω.length B x st.1 (-(tY ev)) R CL,k,W,?_];show eS (x:=.tp [.rf k.length,.fz (kQ (bT B st.1 ev).1)]) (ω1:=k++[.lst (((bT B st.1 ev).2.map nU).map .fz)]) (ρ1:=ZO Q U ω.length B x (bT B st.1 ev).1 (-(tY ev)) (cL (.rf k.length)) CL) (xk (by ext:1) (Nr O sw1 (p ev (lq q)) (ω:=k))) W ?_;show vH (lP (DC (aA W) I (aA W) I (by grind))) #[_,_,u++[k.length],W,?_,#[?_,?_],?_,?_,?_]
   .rw[mN];show iE I
   .rw[jl,jl,lk.1];rfl
   .intro t r L A N
    by_cases z:t<u.length
    .rw[oT z]at A;rw[oT (by rw[<-lk.1];show z)]at N;let:=hr' r (lq A);show dh () (di (lk.2 t r L A N))
    .rw[oq ()]at A
     rw[oq (by rw[<-lk.1];ext),<-lk.1]at N;let z0:t-u.length=0:=by let:=(f_.mp A).1;rw[z4]at this;ext
     rw[z0]at A N;ext A;ext N;show dh () aO
   .intro r hm
    rcases m?.mp hm with hm|hm
    .show hr' r hm
    .rw[f?.mp hm];show hcl
   .show tl'.app.kp (S:=[ω.length]) (Kp.set eQ) (by rw[f?];ext) (by rw[f?];ext) λy C=>by rw[f?];let:=lt.2.2 y C;ext
   .intro j c Z nj;let:=(f_.mp Z).1;show dh () (di (kp j c Z nj))
  .rintro ρ k ⟨o6,R,u,rfl,hc,lk,hr',tl',kp⟩
   rw[dO,S?]at lk⊢;let M:=dk.kp kp λy C z=>dj y C (h_ _ (h_ _ z));let(a,e2,dk2,H):=tsc k M (qu bd.2 ());let cD:ω.length∉Q::m:=λz=>by
    rcases hX.mp z with z|z
    .let:=F Q eQ;ext
    .let:=F _ (by simp[z]:ω.length∈Q::T::l::m);ext
   let hc2:=H _ _ hc cD;let lk2:V_ a u (cS B s es).2:=#[lk.1,λt r L A N=>H _ _ (lk.2 t r L A N) λz=>by
    let h1:=hr' r (lq A);rcases hX.mp z with z|z
    .let:=F Q eQ;ext
    .let:=F r (by simp[z]:r∈Q::T::l::m);ext]
   let G:TL a U l' fr b f (xz b g ws):=tl'.kp H (λz=>dj U (by rcases hX.mp z with z|z<;>simp[z]) ()) (λz=>dj l' (by rcases hX.mp z with z|z<;>simp[z]) ()) λy C z=>dj y (by rcases hX.mp z with z|z<;>simp[z]) (by simp[C]);let ls:=uc (Ls:=(cS B s es).2) bd.2 () (by rw[v7];ext);let ez:fO (.str (oa (cS B s es).2.flatten)) (.str (oa (cS B s es).2.flatten))=-(.bool fg):=tV (BF bd.2);generalize oa (cS B s es).2.flatten=z at*;show ox (ω1:=a) (bp (dI (cN (aA W) M.d t9 (aq (ah (d:=.str row) (by ext:2)) aV) W ((NV M.d hr).trans e2)) (zK (ds:=[.list ((cS B s es).2.map λl=>.list (l.map nU))]) (by ext:1) W (by ext aQ;rw[Ho hc2 lk2];rfl) W ls W) (cR ez))) (lK ?_);let(J,dn):=GU G ();rw[X]at dn;let o:=ajo (g:=xz b g ws) h5;generalize hks:OD (xz b g ws) m.length=kk at*;let tk:=Du (d:=.tuple (aM kk)) (s:=kk) W o.2 o.1;show eS (x:=.fz (.str (tX kk))) (ω1:=a++J) (tF (ds:=[.tuple (aM kk)]) (aq (cN (aA W) G.t OE aV W dn) aV) W tk) W ?_;let E:DK (a++J) Q T l fr b m (xz b g ws) (bD B) (kQ (cS B s es).1):=#[di dk2.d,dk2.t.app];let(J2,ky):=EZ E () (z:=IK kk) (by rw[hks];show xE o.1 o.2) Mq;let lk3:=alh (s:=kk) o.1 (ρ:=dX (ZO Q U ω.length B x (cS B s es).1 o6 R (-(.str (tX kk))))) W;show ox (ω1:=a++J++J2) (bp (dI (cN (aA W) E.d t9 (by ext:1) W ky) (ah (d:=.str (IK kk)) lk3) (cR (tV (akP o.1))))) (lK ?_);show vT (by ext:1) #[_,W,#[T,l,m,l',f,W,X,#[di E.d,E.t.app],G.app.app,dj],(uR O es P p)]
 let(v,k,e,D,0,h1,h2):=ZZ key;show#[k,D,e,h1,h2]
def ahM(p)(xs)(f:xs.length<=1000000)(g:cZ cs=cs)(h:∀x∈xs,C (-(nd x)::cs)=.ok (p x,-(nd x)::cs)):eN (bN (gN 0) C (ae 0) (aM xs) (CL::cs) [])=.ok (aM (xs.filter p)):=by
 rw[lI (λl=>∃o,l=o::cs) (λd=>match d with|.int i=>if p i.toNat=u then G (.int i)else CL|_=>CL) #[_,W] (by rw[bI];show f) ?_,Lp (p:=p) xs λx _=>W];rintro d j l ⟨o,rfl⟩;let(x,e,0):=gi.mp j;show#[-(nd x)::cs,?_,_,W];show kF _ _ _ _ _=.ok ((if p _=u then G _ else CL),G _::cs);rw[q!];let b:cZ (G (PV.fz (nd x))::cs)=-(nd x)::cs:=by show Cg _::cZ cs=_;rw[g];rfl
 let a:=h x e;cases q:p x with|true=>rw[q]at a;show lX W a W W b|false=>rw[q]at a;show C8 W a b
def Z?(n:Nat):Str:="down "++lh n
def X'(n:Nat):Str:="up "++lh n
def QY:((eI 10).all λk=>Jn (bu [.str (Z? k)]) {1,.str "down",nd k}&&Jn (bu [.str (X' k)]) {1,.str "up",nd k})=u:=by left
def XI(h:k<10):bu [.str (Z? k)]=.ok (.fz {1,.str "down",nd k})/\bu [.str (X' k)]=.ok (.fz {1,.str "up",nd k}):=by let:=j?.mp QY k (js.mpr h);rw[c!]at this;show#[iY this.1,iY this.2]
def oH(c:fa U J=.ok xs C)(b:xs.length=n)(a:F xs C=.ok x o):sO F n fa U J=.ok x o:=by ext sO;rw[c,d5,ax b,a];rfl
def FU{ds:I D}(h:f C o=.ok (.rf o.length) (o++[.lst (ds.map .fz)])):wM f C o=.ok (.fz (.list ds)) (o++[.dead]):=by let e:=Ep h (uY aO);simp_all
def LK.kp(h:LK ω Q U fr n b g B s)(k:Kp [] ω ω'):LK ω' Q U fr n b g B s:=by let(T,l,m,j,a,i,f,o,e,p):=h.ex;show#[T,l,m,j,a,i,f,o.kp k (λ_ _ z=>by ext z),e.kp k () () (λ_ _ z=>by ext z),p]
def LK.say{B:Bd}{s:hq}(h:ks.length=n)(f:ks'.length=n)(e:TL ω U l' fr b ks' g)(a:∀x∈Q::T::l::ks,x∉U::l'::ks')(j:DK ω' Q T l fr b ks g (bD B') (kQ s'))(k:Kp [Q] ω ω'):LK ω' Q U fr n b g B' s':=by
 show#[T,l,ks,l',ks',h,f,j,e.kp k (λz=>?_) (λz=>?_) (λy i z=>?_),a]
 .show a Q eQ (by rw[<-f?.mp z];show eQ)
 .show a Q eQ (by rw[<-f?.mp z];simp)
 .show a Q eQ (by rw[<-f?.mp z];simp[i])
section
open M02
abbrev Op(Q U R C:Nat)(B:Bd)(ss:I (Nat×Nat))(ms:Nat)(s:hq)(e:I Nat)(d c b a:bb SV):dJ:=[G (.rf Q),-(bD B),-(jk R C ss),G (.rf U),G (.rf ms),-(kQ s),-(.list (aM e)),d,c,b,a]
def aex(F:n4 R C ss)(j:ss.length<=5)(h:eT ss o)(f:o.length<=5)(x):∃c J,bP (bG (ai (am Cr (aG aI 3 {ae 7,~~~173,~~~3}) (~~~0)))) (cB (wM (af (bE 1 [7] (nQ kB {cy cX {2/2}}) (gN 0) (ai (am bx (aG aI 3 {am b6 (ae 1) (am fP (~~~41) (ae 0)),~~~179,~~~3}) (~~~0))) (ae 0)))) (d4 6)) bJ (Op Q U R C B ss ms s o (-(.int x)) o8 o9 o10) ω=.ok (.nx (Op Q U R C B ss ms s c (-(.int x)) o8 o9 o10)) (ω++J)/\eT ss c/\c.length<=5:=by
 let d:=cP x (s:=173) (m:=3) () () ();let a:Cr (.int (uz x 173 3)) (.int 0)=-(.bool (decide _)):=W;let e:av (jk R C ss) _=G _:=ny;let b:=iG (n:=ss.length) ();by_cases z:0<uz x 173 3
 .rw[a4 z]at a
  let cm:eN (bN _ (ai (am bx (aG _ 3 {am b6 (ae 1) (am fP (~~~41) (ae 0)),~~~179,~~~3}) (~~~0))) _ (aM (eI ss.length)) [CL,-(.int x)] [])=.ok _:=ahM _ _ (by grind) W λk _=>by let l:=cP (x+41*(k)) (s:=179) (m:=3) () () ();let i:fP (.int 41) (nd k)=G _:=Ze #[by decide,by decide];ext:6
  show#[_,_,gA (by ext:1) (cF (FU (c9 (bj (Fv (ar (fq (ar (aZ (au W) aU W W e) aP) W (by rw[fC,dO])) aP) W b) W cm))) W),λk g=>js.mp (n7.mp g).1,?_]
  grind
 .rw[a5 z]at a;show#[o,[],?_,h,f];rw[n9];show a9 (by ext:1) bv
end
section
open M02
def PK(e:VB B)(j:SW B s)(h:LK ω Q U (jk R C ss) n b g B s)(x):∃D V o9' amO,bP (bG (ai (am bx (aG aI 3 {ae 7,~~~191,~~~3}) (~~~1)))) (aH (cB (af (bK {am av (bS {pC (.str "down"),pC (.str "up")}) (aG aI 3 {ae 7,~~~197,~~~2}),aG aI 3 {ae 7,~~~199,1/0}})) (d4 9)) (aH (cB (t8 ng 3 {0,!1,!5,!9}) (IP 2 (kT (d4 10) (kT (d4 5) uq)))) (bP (bf (iQ fO (aB "Desk" "say" aW 2 (ap 0) {0,af (am cT (am cT (9/0) (~~~" ")) (cy iX {9/1}))}) (gn gZ 1 {0,IV {0,ap 10}}))) (c8 (af (pC (.bool fg)))) bJ))) bJ (Op Q U R C B ss ms s ks (-(.int x)) o8 o9 o10) ω=.ok (.nx (Op Q U R C B ss ms V ks (-(.int x)) o8 o9' amO)) D/\LK D Q U (jk R C ss) n b g B V/\SW B V:=by
 let n1:=e.n1;let n5:=e.n5;let d:=cP x (s:=191) (m:=3) () () ();let eq:=lA (uz x 191 3) 1;by_cases z:¬uz x 191 3=1
 .rw[a5 z]at eq;show#[ω,s,o9,o10,a9 (cA (by ext:6)) bv,h,j]
 rw[a4 (Classical.not_not.mp z)]at eq;let(k,hk,bk):=mP x 199 B.n ();let Z:=cP x (s:=199) (m:=B.n) () () ();rw[hk]at Z;let d2:=cP x (s:=197) (m:=2) () () ();let b2:=oz (x:=x) (s:=197) (m:=2) ();let i0:=YG (b:=B);let X:=XI (k:=k) ();let sk:iX [nd k]=-(.str (lh k)):=by let:=oG (i:=(k:Int)) () ();rw[q!]at this;show this
 obtain⟨w,ev,row,hw,ix,u,p,P,ar2,rd⟩:∃(w:Str)(ev:qm)(row:Str),(w="down"\/w="up")/\av (.list [.str "down",.str "up"]) (.int (uz x 197 2))=-(.str w)/\tY ev=.tuple [.str w,nd k]/\EV B ev/\(∃y,cT (.str w) (.str " ")=-(.str y)/\cT (.str y) (.str (lh k))=-(.str row))/\True/\bu [.str row]=.ok (.fz {1,.str w,nd k}):=by
  let O:uz x 197 2=0\/uz x 197 2=1:=by ext
  rcases O with q|q
  .show#["down",.down k,Z? k,.inl W,by rw[q];show A3,W,bk,#["down ",gJ (by left) (by left),gJ W (by show 5+1<=1000;decide)],trivial,X.1]
  .show#["up",.up k,X' k,.inr W,by rw[q];show EN () W,W,bk,#["up ",gJ (by left) (by left),gJ W (by show 3+1<=1000;decide)],trivial,X.2]
 let(y,a1,a2):=P;let(T,l,kd,l',ks',m1,m2,v,tl,dj):=h.ex;let S:=Nr e j p (ω:=ω);let sl:=Bz e j p;let G:=GY e j p;let E:=A4 e j p;let H:Kp [] ω (ω++[.lst (((bT B s ev).2.map nU).map .fz)]):=Kp.app;let f:=v.kp H λ_ _ z=>by ext z
 let fl:(cS B s [ev]).2.flatten=(bT B s ev).2:=by show([(bT B s ev).2]:a8 Sn).flatten=_;rw[I_]
 let(a,e2,N,o):=acZ f e j bk u p () (z:=oa (bT B s ev).2) (by rw[fl];show qu G ());let A:=tl.app (J:=[.lst (((bT B s ev).2.map nU).map .fz)]);let lk:=LK.say (B:=B) (s:=s) m1 m2 A dj N o;let cl:(ω++[.lst (((bT B s ev).2.map nU).map .fz)])[ω.length]?=cL (d?.lst (((bT B s ev).2.map nU).map .fz)):=aO;let c2:=o _ _ cl λz=>by let:=v.lt Q eQ;let:=f?.mp z;ext
 let Y:=uc (Ls:=[(bT B s ev).2]) (by rw[I_];show G) (by rw[I_];ext) (by show 1<=100;decide);rw[I_]at Y;let rv:aQ (xC 6 (a++[.lst [.rf ω.length]])) [.rf a.length]=cL [.list [.list ((bT B s ev).2.map nU)]]:=by
  let:=Ho (ω:=a++[.lst [.rf ω.length]]) (c:=a.length) (rs:=[ω.length]) (Ls:=[(bT B s ev).2]) aO #[W,λt r L Mz0 I=>by match t,Mz0,I with|0,Mz0,I=>ext Mz0;ext I;show di c2]
  ext aQ;rw[this];rfl
 let ez:=tV (BF G);show#[a++[.lst [.rf ω.length]],(bT B s ev).1,-({1,.str w,nd k}),cL (.rf ω.length),?_,lk.kp Kp.app,E];show gA (cA (by ext:6)) ?_;show aD (cF (x:=.fz {1,.str w,nd k}) (ρ1:=Op Q U R C B ss ms s ks (-(.int x)) o8 (-({1,.str w,nd k})) o10) (ah (qX (ds:=[.str w,nd k]) (ar (aZ (rv:=.fz (.str w)) (dx:=.list [.str "down",.str "up"]) (oA (ds:=[.str "down",.str "up"]) (by ext:6) W (by show 2<=1000;decide)) (cY (rv:=.fz (.int (uz x 197 2))) (by ext:6) W W d2) W W ix) (ar (cY (rv:=.fz (nd k)) (by ext:6) W W Z) aP)) W (by show 2<=1000;decide))) W) ?_;rw[u]at S;show aD (ρ1:=Op Q U R C B ss ms (bT B s ev).1 ks (-(.int x)) o8 (-({1,.str w,nd k})) (cL (.rf ω.length))) (ω1:=ω++[.lst (((bT B s ev).2.map nU).map .fz)]) ?_ ?_
 .let:=xk (F:=ng) (n:=3) (fa:=aj (!1) {0,!5,!9}) (ρ:=Op Q U R C B ss ms s ks (-(.int x)) o8 (-({1,.str w,nd k})) o10) (aq (ah (d:=bD B) (by ext:6)) (aq (ah (d:=kQ s) (by ext:6)) (aq (ah (d:=.tuple [.str w,nd k]) (by ext:6)) aV))) S;ext cB;rw[this,d5];rfl
 let j0:av {1,.str w,nd k} (.int 0)=-(.str w):=gB;let j1:av {1,.str w,nd k} (.int 1)=-(nd k):=jI;show a9 (ω1:=a++[.lst [.rf ω.length]]) (bp (dI (cN (aA W) f.d t9 (aq (ah (d:=.str row) (aZ (rv:=.fz (.str row)) (aZ (rv:=.fz (.str y)) (aZ (rv:=.fz (.str w)) (au W) aU W W j0) aU W W a1) (fq (rv:=.fz (.str (lh k))) (ds:=[nd k]) (ar (aZ (rv:=.fz (nd k)) (au W) aU W W j1) aP) W sk) W W a2)) aV) W (UH hw f.d rd e2)) (zK (ds:=[.list [.list ((bT B s ev).2.map nU)]]) (aq (Xa (aq (aA W) aV) (by show 1<=1000;decide)) aV) W rv W Y W) (cR ez))) bv
end
def DK.ap0(h:DK ω Q T l fr b ks g bed st):DK (ω++J) Q T l fr b ks g bed st:=h.kp (S:=[]) Kp.app λ_ _ z=>by simp_all
section
open M02
def qM(M:VB B)(j:VF R C (ss.map O8))(F:n4 R C ss)(hb:VS g ss.length)(h:LK ω Q U (jk R C ss) ss.length b g B IE)(ms:a8 Int):∃k V D,dD [.rf Q,.fz (bD B),.fz (jk R C ss),.rf U,.rf ω.length] (ω++[.lst ((ms.map aS.int).map .fz)])=.ok (.fz (.bool Ld)) k/\LK k Q U (jk R C ss) ss.length b V B D/\SW B D/\VS V ss.length:=by
 let P:ss.length<=5:=by let:=j.k5;simp_all
 let r1:=j.r1;let r3:=j.r3;let G:Out (dD [.rf Q,.fz (bD B),.fz (jk R C ss),.rf U,.rf ω.length] (ω++[.lst ((ms.map aS.int).map .fz)])) (λv k=>v=.fz (.bool Ld)/\∃V D,LK k Q U (jk R C ss) ss.length b V B D/\SW B D/\VS V ss.length) (λ_=>False):=by
  show vt W ?_;let cM:(ω++[d?.lst ((ms.map aS.int).map .fz)]++[d?.dead])[ω.length]?=cL _:=di aO;let eM:(ω++[d?.lst ((ms.map aS.int).map .fz)]++[d?.dead]).set ω.length .dead=ω++[d?.dead,.dead]:=by simp_all
  show eS (by ext:1) W ?_;show eS (ρ1:=Op Q U R C B ss ω.length IE [] CL CL CL CL) (FU (ds:=[]) (c9 (ds:=[]) (by ext:6))) W ?_;generalize hc:ω.length=c at*;show tD (Ao (λ_ ρ ω=>∃y o8 o9 o10 s ks g,ρ=Op Q U R C B ss c s ks y o8 o9 o10/\eT ss ks/\ks.length<=5/\LK ω Q U (jk R C ss) ss.length b g B s/\SW B s/\VS g ss.length) (by rw[<-eM];show qD (aA W) cM) #[CL,CL,CL,CL,IE,[],g,W,(λ_ z=>by ext z),mT _,h.kp Kp.app,Qv B,hb] ?_ ?_)
  .rintro i d ρ ω I ⟨y,o8,o9,o10,s,ks,g,rfl,hK,hl,lk,sw,bt⟩
   rw[iD]at I;cases q:ms[i]? with|none=>ext|some x=>
   rw[q]at I;ext I;show#[_,ω,W,?_];let(a,J,e1,f,H):=aex (ω:=ω) (Q:=Q) (U:=U) (B:=B) (ms:=c) (s:=s) (o8:=o8) (o9:=o9) (o10:=o10) F P hK hl x;show L6 e1 ?_;let er:=ajI F f ();let u:=aie F j.c3 f;let(ws,Y,o,Z,m):=RL F f;let O:(kx (bO ss a) R).length=R:=by ext kx;simp_all
   generalize kx (bO ss a) R=rd at*;show eS (ω1:=ω++J) (ρ1:=Op Q U R C B ss c s a (-(.int x)) _ o9 o10) (ah (by ext:2)) W ?_;let ne:rd≠[]:=λz=>by rw[z]at O;let:0=R:=O;ext
   let tx:=Du (d:=.tuple (aM rd)) (s:=rd) W () u;let(a1,a2):=tm (w:="scan") (.inl W) ne () u;let(b1,S):=tm (w:="seen") (.inr W) ne () u;rw[<-aap]at b1 S;generalize("seen ":Str)++tX rd=apX at*;let n:=lk.kp (Kp.app (J:=J));generalize ω++J=ω1 at*;let(T,l,kd,l',kd',m1,m2,L,tl,dj):=n.ex;let sg:=Mi o () Z;let zo:=(zZ o ()).2;let se:=W4 L m (MB o ()) S;let rf:=aeP j (by rw[on];show L);rw[on]at rf;generalize iw "" (ws.map Jh)=z at*;show ox (ω1:=ω1) (jB (ω1:=ω1) (bp (dI (cN (aA W) L.d t9 (aq (ah (d:=.str apX) (by ext:2)) aV) W se) (ah (d:=.str z) (by ext:2)) (cR (tV zo)))) (pK (b:=Ld) (bp (oH (by ext:1) W rf)))) (lK ?_);let(p,N,e2,E,t):=ake n M sw P bt tx a1 a2 Y m o;show eS (x:=.fz (kQ N)) (ω1:=p) (ρ1:=Op Q U R C B ss c N a (-(.int x)) _ o9 o10) (oH (by ext:1) W e2) W ?_;let(X,s3,o9',amO,e3,A,r):=PK M t (ms:=c) (ks:=a) E x (o9:=o9) (o10:=o10);show vH e3 #[_,_,_,_,s3,a,_,W,f,H,A,r,Wg bt]
  .rintro ρ ω ⟨y,o8,o9,o10,s,ks,g,rfl,hK,hl,lk,sw,bt⟩;show vT (by ext:1) #[W,g,s,lk,sw,bt]
 let(v,k,e,0,V,D,h1,h2,h3):=ZZ G;show#[k,V,D,e,h1,h2,h3]
end
def Qb(h:t.length<=900):cT (.str "bed\n") (.str t)=-(.str ("bed\n"++t)):=by let a:("bed\n":Str).length=4:=W;show gJ W ()
def Jv:fO (.str "ok") (.str "ok")=-(.bool M):=tV (by left)
abbrev g0:Nat->Int×(Int×Int):=λ_=>(0,(0,0))
def On(k5:K.length<=5)(a:DK o Q T l (pU R C K) b J g0 (bD B) vP)(f:J.length=K.length):∃c,bU [.rf o.length,.fz (pU R C K),.fz (.int b)] (o++[.obj "Teller" []])=.ok (.fz .none) c/\LK c Q o.length (pU R C K) K.length b g0 B IE:=by
 let g:(kP K).length=K.length:=by ext kP;simp_all
 let(c,e,t,k):=EJ (sps:=kP K) ();let lt:=a.lt;show#[c,e,#[T,l,J,_,_,f,by simp_all,a.kp k (λ_ _ z=>by ext z),t,λx h z=>?_]]
 grind
section
open M02
variable{ss:a8 (Nat×Nat)}
def VF.fr(f:VF R C (ss.map O8)):n4 R C ss:=by
 let(g,e,F,_):=f.ss;let:ss=g:=(K3 λa b z=>by
  injection z with z1 z2
  injection z2 with z2 _
  show Prod.ext z1 z2).mp e
 simp_all
def oth(ss:I (Nat×Nat)):I (Nat×Nat):=ss.reverse.map λp=>(p.2,p.1)
def uC:(oth ss).length=ss.length:=by ext oth;simp_all
def VF.oth(a:VF R C (ss.map O8)):VF C R ((oth ss).map O8):=by
 let k5:=a.k5;let un:=a.un;rw[dO]at k5;unfold Of at un;rw[vp]at un;show#[a.c1,a.c3,a.r1,a.r3,λz=>a.k1 ?_,by rw[dO,uC];show k5,?_,λk i=>?_]
 .let:=dt A? z;rw[dO,uC]at this;simp_all
 .unfold K82.oth Of
  rw[vp,vp,List.pairwise_reverse];show un.imp λh z=>h ?_;injection z with z1 z2
  injection z2 with z2 _
  dsimp only at z1 z2;ext O8;rw[z1,z2]
 .let(p,g,0):=gi.mp i;let(q,f,0):=gi.mp g;let(r,c,e,b,j):=a.sp _ (gi.mpr #[q,List.mem_reverse.mp f,W]);injection e with e1 e2;injection e2 with e2 _;show#[q.2,q.1,W,by rw[e2];show j,by rw[e1];show b]
def Xi(e:ss.length<=5)(h:ρ[2]?=G (-(jk R C ss))):bK {2/1,2/0,cy iW {bE 2 [] (dB (OH L9.Jf (2/2))) (gT 2 (iM (gN 0) (iM (gN 1) rE))) bi (bK {ae 1,ae 0})}} ρ=.ok (.fz (jk C R (oth ss)),ρ):=by
 let b:av (jk R C ss) _=G _:=jI;let a:av (jk R C ss) _=G _:=ny;let g:L9.Jf (.tuple (ss.map sp))=-(.tuple (ss.reverse.map sp)):=by rw[List.map_reverse];rfl
 let cm:eN (bN (gT 2 (iM (gN 0) (iM (gN 1) rE))) bi (bK {ae 1,ae 0}) (ss.reverse.map sp) [CL,CL] [])=.ok ((oth ss).map sp):=by let:=uw (f:=sp) (gt:=gT 2 (iM (gN 0) (iM (gN 1) rE))) (fe:=bK {ae 1,ae 0}) (λρ=>∃o p,ρ=[o,p]) ss.reverse (by rw[C4];ext) #[CL,CL,W] (by rintro p _ ρ ⟨o,q,rfl⟩;show#[_,lX W W (by ext:6) W W,_,_,W]);rw[this];ext oth;rw[i?];rfl
 show qX (ar (aZ (au h) aU W W b) (ar (aZ (au h) aU W W gB) (ar (fq (ar (bj (lL (Tn (aZ (au h) aU W W a) W g) W W) W cm) aP) W W) aP))) W (by show 3<=1000;decide)
end
abbrev eL(ns:I Int)(B:Bd)(fr:D)(b:Nat)(Q:Nat)(d c a:bb SV):dJ:=[-(.list (ns.map .int)),-(bD B),-(fr),-(nd b),G (.rf Q),d,c,a]
def Kw(a:VB B)(f:DK o Q T l fr b C g J st):∃c,bf (iQ fO (aB "Desk" "say" aW 2 (ap 4) {0,af (am cT (pC (.str "bed\n")) (aG dL 1 {ae 1}))}) (af (~~~"ok"))) (eL ns B fr' b' Q o5 o6 o7) o=.ok M c/\DK c Q T l fr b C g (bD B) vP/\Kp [Q] o c:=by
 let i:=wk a;let h:(mH B).length<=900:=by let:=gC (d:=10) (wJ a);simp only[j_]at this;ext mH;ext
 let(c,e,d,k):=aby f (SI a);show#[c,bp (dI (cN (aA W) f.d t9 (aq (ah (aZ aU (cY (by ext:6) W W (Ra a)) W W (Qb h))) aV) W (UJ f.d (Pi h) e)) (ah aU) (cR Jv)),d,k]
def N0(a:VF R C K)(i:b<10)(f:DK J Q T l fr c U g (bD B) st)(j:ρ[4]?=G (G (.rf Q))){fe:FE}(m:fe (dX ρ)=.ok (.fz (.str (Ah R C b K)),dX ρ)):∃k q p o,bf (iQ fO (aB "Desk" "say" aW 2 (ap 4) {0,af fe}) (af (~~~"ok"))) ρ J=.ok M k/\DK k Q q p (pU R C K) (b) o g0 (bD B) vP/\o.length=K.length:=by
 let k5:=a.k5;let h:(kP K).length=K.length:=by ext kP;simp_all
 let(k,q,p,o,e,n,d,_,_):=xL f () (adv a);show#[k,q,p,o,bp (dI (cN (aA j) f.d t9 (by ext:1) W (X4 f.d (adO a i) e)) (ah aU) (cR Jv)),d,n.trans h]
def main(ns:a8 Int)(c:ns.length<=63):Z9 ri [.list (ns.map .int)]=.ok (.fz (.bool Ld)):=by
 let(B,i,eb):=Vo ns;let(R,C,K,f,ef):=alL ns;let(ss,0,F,_):=f.ss;let k5:=f.k5;rw[dO]at k5;let n:=f.oth;let Fo:=n.fr;rw[on]at ef;let(o,ec):=oM ns 19 ();let(b,hb,b3):=mP o 181 3 ();let db:=cP o (s:=181) (m:=3) () () ();rw[hb]at db;let dy:=cP o (s:=293) (m:=20) () () ();generalize uz o 293 20=y at dy;let ay:b6 (.int 24) (.int y)=cL _:=W;let er:=sM f (b:=b) ();let L:=sM n (b:=2-b) ();rw[on]at er L;let sb:pX (.int 2) (nd b)=-(nd (2-b)):=by
  show cL _=cL _
  grind
 generalize hF:jk R C ss=fr at*;generalize hG:jk C R (oth ss)=fo at*;let I:Out (ri [.fz (.list (ns.map .int))] []) (λv _=>v=.fz (.bool Ld)) (λ_=>False):=by
  show vt (ρ:=[cL _,CL,CL,CL,CL,CL,CL,CL]) W ?_;show eS (ah (by ext:2)) W ?_;show eS (x:=.fz fr) (ah (by ext:2)) W ?_;show eS (ah (by ext:2)) W ?_;let(ω1,T1,l1,ks1,d1,k1,_,_):=UB (ω:=[]);show eS (x:=.rf 0) (ω1:=ω1) (ρ1:=eL ns B fr b 0 CL CL CL) (qW aV W d1) W ?_;let(ω2,e2,k2,_):=Kw (ns:=ns) (fr':=fr) (b':=b) (o5:=CL) (o6:=CL) (o7:=CL) i k1;let(q,T,l,ks,e3,k3,n3):=N0 f (b:=b) () (fe:=aG cG 2 {ae 2,ae 3}) k2 (ρ:=eL ns B fr b 0 CL CL CL) W (by ext:2);show ox (jB e2 e3) (lK ?_);let(h,e4,Z):=On (by rw[dO];show k5) k3 n3;rw[on,hF]at e4;rw[on,dO]at Z;show eS (ω1:=h) (qW (by ext:1) W e4) W ?_;generalize q.length=U at*;show eS (ω1:=h) (ρ1:=eL ns B fr b 0 (cL (.rf U)) _ CL) (ah (by ext:2)) W ?_;let(w,_,em1):=xl ns (cL 24) (cL (24+y));let(p,g5,s5,e5,E,sw5,P):=qM i f F (λ_ _=>.inl W) Z w;rw[hF]at e5;show ox (ω1:=p) (pK (b:=Ld) (bp (oH (aq (aA W) (aq (by ext:1) (aq (by ext:1) (aq (aA W) (aq (c9 (by ext:2)) aV))))) W e5))) (lK ?_);let(T6,l6,kd6,l6',avS,m1,m2,N,r,O):=E.ex;let(ω6,e6,k6,H):=Kw (ns:=ns) (fr':=fr) (b':=b) (o7:=CL) i N;show ox e6 (lK ?_);let(u,_,em2):=xl ns (cL (24+y)) (cL 63);let(g,g7,s7,e7,A,sw7,bt7):=qM i f F P (LK.say (B:=B) (s:=s5) m1 m2 r O k6 H) u;rw[hF]at e7;show ox (ω1:=g) (pK (b:=Ld) (bp (oH (aq (aA W) (aq (by ext:1) (aq (by ext:1) (aq (aA W) (aq (c9 (by ext:2)) aV))))) W e7))) (lK ?_);let X:=Xi (R:=R) (C:=C) (ss:=ss) k5 (ρ:=dX (eL ns B fr b 0 (cL (.rf U)) (-(.int (24+y))) CL)) (by rw[hF];rfl);rw[hG]at X;show eS (x:=.fz fo) (ω1:=g) (ρ1:=eL ns B fr b 0 (cL (.rf U)) _ (-(fo))) (ah X) W ?_;let(T8,l8,kd8,l8',avT,_,_,M,_,_):=A.ex;let(ω8,T9,l9,G,e8,k9,Y):=N0 n (b:=2-b) () (fe:=aG cG 2 {ae 7,am pX (~~~2) (ae 3)}) M (ρ:=eL ns B fr b 0 (cL (.rf U)) _ (-(fo))) W (by ext:2);let nk:OD g0 G.length=[]:=List.filter_eq_nil_iff.mpr λa _ z=>by cases a6 z
  let(J,e9):=EZ k9 (by rw[Y,dO,uC];ext) (z:=".") (by rw[nk];rfl) Mq;show ox (jB e8 (bp (dI (cN (aA W) k9.d t9 (by ext:1) W e9) (by ext:1) (cR (tV (by left)))))) (lK ?_);let(S,e10,j):=On (by rw[dO,uC];show k5) (k9.ap0 (J:=J)) Y;rw[on,hG]at e10;rw[on,dO]at j;let(t,_,em3):=xl ns (cL 24) (cL 34);let(Q,g11,s11,e11,_):=qM i n Fo (λ_ _=>.inl W) j t;rw[hG]at e11;show vT (oH (aq (aA W) (aq (by ext:1) (aq (by ext:1) (aq (qW (aq (by ext:1) (aq (ah (by ext:2)) aV)) W e10) (aq (c9 (by ext:2)) aV))))) W e11) W
 let(v,ω',e,0):=ZZ I;ext Z9;simp_all
end K82
namespace K82
open PySem L2 L3 L10 STP CC
set_option synthInstance.maxHeartbeats 400000
set_option synthInstance.maxSize 4000
def top(i:Nat):kl:=PySem.Challenge.pw_chordbed_k82_scans_told_to_a_desk.main.body.getD i (.Pass ⟨0,0,0,0⟩)
def aN:I Fd:=[da 1 "layer_of" ["standing"] 1 gU,da 1 "looked_up" ["bed","layer","key"] 3 lw,da 1 "chords_over" ["bed","keys"] 2 cO,da 1 "chord_acts" ["bed","keys"] 2 ig,da 1 "_law_cell" ["_law_script","_law_k"] 2 bZ,da 1 "_law_draw" ["_law_cell_here","_law_salt","_law_many"] 3 aI,da 2 "_law_meaning" ["_law_cell_here","_law_layer","_law_layers"] 3 fR,da 2 "_law_chords" ["_law_script","_law_at","_law_first"] 3 jb,da 3 "_law_bed" ["_law_script","_law_most"] 2 nr,da 2 "_law_frame" ["_law_script","_law_at"] 2 jV,da 1 "_law_reads" ["_law_frame_here","_law_keys"] 2 jP,da 1 "_law_frame_row" ["_law_frame_here","_law_bound"] 2 cG,da 1 "_law_text" ["_law_numbers"] 1 dR,da 1 "_law_word" ["_law_meaning_here"] 1 g8,da 2 "_law_bed_text" ["_law_bed_here"] 1 dL,da 1 "_law_sent" ["_law_steps"] 1 gZ,da 1 "reads_column" ["number","column"] 2 bz,da 1 "joined" ["number","numbers"] 2 my,da 2 "spread" ["numbers"] 1 sC,da 3 "reads" ["frame","keys"] 2 jg,da 4 "keys_read" ["frame","reading"] 2 lN,da 1 "without" ["keys","key"] 2 mE,da 4 "word_of" ["frame","reading","keys","key"] 4 iV,da 5 "seen" ["frame","reading"] 2 tR,da 6 "_law_signs" ["_law_frame_here","_law_reading"] 2 jT,da 1 "is_within" ["rows","columns","spot"] 3 gX,da 2 "frame_of" ["rows","columns","spots"] 3 gS,da 1 "read_number" ["word"] 1 bA,da 1 "all_read" ["values"] 1 cH,da 2 "read_numbers" ["words"] 1 fQ,da 1 "is_letter" ["text"] 1 dA,da 2 "read_meaning" ["word"] 1 et,da 3 "read_layer" ["words"] 1 iI,da 2 "read_parted" ["text","sign"] 2 dS,da 3 "read_chord" ["words"] 1 hW,da 1 "check_numbers" ["bed"] 1 gO,da 2 "may_mean" ["meaning","layer","layers"] 3 kG,da 3 "check_layer" ["bed","layer"] 2 ju,da 1 "rises" ["keys"] 1 uu,da 2 "is_chord_set" ["bed","keys"] 2 iC,da 3 "check_chord" ["bed","place"] 2 jd,da 4 "checked" ["bed"] 1 oX,da 5 "read_bed" ["text"] 1 gR,da 3 "read_spot" ["word"] 1 fT,da 4 "read_frame" ["words"] 1 j6,da 2 "read_letters" ["word"] 1 kL,da 5 "read_words" ["words"] 1 gk,da 6 "read_row" ["row"] 1 bu,da 1 "shown_sent" ["sent"] 1 eV,da 1 "shown_keys" ["keys"] 1 gh,da 1 "shown_seen" ["words"] 1 gf,u3 4 "keys_read" ["frame","reading"] 2 ie,u3 5 "seen" ["frame","reading"] 2 fL,E! 3 "Hand" ["self","bed","standing"] 3 gI,l? M 3 "Hand" "stands" ["self"] 1 dw,l? M 3 "Hand" "is_waiting" ["self","key"] 2 cU,l? M 3 "Hand" "has_act" ["self","act"] 2 dG,l? M 4 "Hand" "come" ["self","key","act"] 3 bV,l? M 4 "Hand" "go" ["self","key"] 2 pd,l? M 5 "Hand" "decide" ["self"] 1 dU,l? M 4 "Hand" "makes_chord" ["self","key"] 2 eP,l? M 6 "Hand" "put_to_chord" ["self","key"] 2 d9,l? M 5 "Hand" "begin" ["self","key"] 2 jZ,l? M 7 "Hand" "press" ["self","key"] 2 jS,l? M 6 "Hand" "settle" ["self","key"] 2 jp,l? M 7 "Hand" "lift" ["self","key"] 2 lF,l? M 6 "Hand" "wait_on" ["self"] 1 hV,qw 8 "step" ["bed","standing","event"] 3 ng,E! 3 "OneKey" ["self","bound"] 2 cb,l? M 3 "OneKey" "tell" ["self","reading"] 2 gz,E! 5 "Teller" ["self","frame","bound"] 3 bU,l? M 4 "Teller" "tell_one" ["self","key","word"] 3 fF,l? u 6 "Teller" "scan" ["self","reading"] 2 cK,l? M 3 "Teller" "down" ["self"] 1 fD,E! 7 "Desk" ["self"] 1 gD,l? M 9 "Desk" "run_through" ["self","events"] 2 bC,l? M 7 "Desk" "take_frame" ["self","what"] 2 cV,l? M 6 "Desk" "take_bed" ["self","text"] 2 dM,l? u 10 "Desk" "take_scan" ["self","reading"] 2 cC,l? M 10 "Desk" "take_key" ["self","word","key"] 3 dP,l? u 11 "Desk" "say" ["self","row"] 2 aW,qw 12 "_law_refused" ["_law_desk","_law_frame_here"] 2 eC,qw 12 "_law_scan" ["_law_desk","_law_bed_here","_law_teller","_law_reading","_law_standing"] 5 jD,qw 13 "_law_scanned" ["_law_desk","_law_bed_here","_law_frame_here","_law_teller","_law_cells"] 5 dD]
def dY:Md:=⟨["max","all","list","sorted","len","range","tuple","str","int","enumerate","zip","dict"],["NoReading"],[("NONE",{1,(.str "none")}),("MOST_WIRES",(.int 6)),("MOST_KEYS_frames",(.int 12)),("FIGURES",(.str "0123456789")),("MOST_KEYS_beds",(.int 5)),("MOST_LAYERS",(.int 3)),("MOST_CHORDS",(.int 4)),("MOST_WAIT",(.int 4)),("BED_AHEAD",(.str "bed\n")),("NOTHING",(.str ".")),("CHORD",{1,(.str "chord")}),("WORDS",{1,(.str "up"),(.str "down")}),("FIRST_BED",(.str "keys 1 wait 1\nlayer a")),("AT_REST",{1,(.tuple []),.none,.none}),("DONE",(.str "ok")),("TURN",{1,(.str "turn"),(.int 0)})],[("Hand",["bed","acts","waiting","once","sent"]),("OneKey",["bound","last","turns","free_from"]),("Teller",["frame","each_key"]),("Desk",["teller","bed","standing"])]⟩
instance:Fn aN da gU 1:=⟨0,_,_,_,W⟩
instance:Fn aN da lw 3:=⟨1,_,_,_,W⟩
instance:Fn aN da cO 2:=⟨2,_,_,_,W⟩
instance:Fn aN da ig 2:=⟨3,_,_,_,W⟩
instance:Fn aN da bZ 2:=⟨4,_,_,_,W⟩
instance:Fn aN da aI 3:=⟨5,_,_,_,W⟩
instance:Fn aN da fR 3:=⟨6,_,_,_,W⟩
instance:Fn aN da jb 3:=⟨7,_,_,_,W⟩
instance:Fn aN da nr 2:=⟨8,_,_,_,W⟩
instance:Fn aN da jV 2:=⟨9,_,_,_,W⟩
instance:Fn aN da jP 2:=⟨10,_,_,_,W⟩
instance:Fn aN da cG 2:=⟨11,_,_,_,W⟩
instance:Fn aN da dR 1:=⟨12,_,_,_,W⟩
instance:Fn aN da g8 1:=⟨13,_,_,_,W⟩
instance:Fn aN da dL 1:=⟨14,_,_,_,W⟩
instance:Fn aN da gZ 1:=⟨15,_,_,_,W⟩
instance:Fn aN da bz 2:=⟨16,_,_,_,W⟩
instance:Fn aN da my 2:=⟨17,_,_,_,W⟩
instance:Fn aN da sC 1:=⟨18,_,_,_,W⟩
instance:Fn aN da jg 2:=⟨19,_,_,_,W⟩
instance:Fn aN da lN 2:=⟨20,_,_,_,W⟩
instance:Fn aN da mE 2:=⟨21,_,_,_,W⟩
instance:Fn aN da iV 4:=⟨22,_,_,_,W⟩
instance:Fn aN da tR 2:=⟨23,_,_,_,W⟩
instance:Fn aN da jT 2:=⟨24,_,_,_,W⟩
instance:Fn aN da gX 3:=⟨25,_,_,_,W⟩
instance:Fn aN da gS 3:=⟨26,_,_,_,W⟩
instance:Fn aN da bA 1:=⟨27,_,_,_,W⟩
instance:Fn aN da cH 1:=⟨28,_,_,_,W⟩
instance:Fn aN da fQ 1:=⟨29,_,_,_,W⟩
instance:Fn aN da dA 1:=⟨30,_,_,_,W⟩
instance:Fn aN da et 1:=⟨31,_,_,_,W⟩
instance:Fn aN da iI 1:=⟨32,_,_,_,W⟩
instance:Fn aN da dS 2:=⟨33,_,_,_,W⟩
instance:Fn aN da hW 1:=⟨34,_,_,_,W⟩
instance:Fn aN da gO 1:=⟨35,_,_,_,W⟩
instance:Fn aN da kG 3:=⟨36,_,_,_,W⟩
instance:Fn aN da ju 2:=⟨37,_,_,_,W⟩
instance:Fn aN da uu 1:=⟨38,_,_,_,W⟩
instance:Fn aN da iC 2:=⟨39,_,_,_,W⟩
instance:Fn aN da jd 2:=⟨40,_,_,_,W⟩
instance:Fn aN da oX 1:=⟨41,_,_,_,W⟩
instance:Fn aN da gR 1:=⟨42,_,_,_,W⟩
instance:Fn aN da fT 1:=⟨43,_,_,_,W⟩
instance:Fn aN da j6 1:=⟨44,_,_,_,W⟩
instance:Fn aN da kL 1:=⟨45,_,_,_,W⟩
instance:Fn aN da gk 1:=⟨46,_,_,_,W⟩
instance:Fn aN da bu 1:=⟨47,_,_,_,W⟩
instance:Fn aN da eV 1:=⟨48,_,_,_,W⟩
instance:Fn aN da gh 1:=⟨49,_,_,_,W⟩
instance:Fn aN da gf 1:=⟨50,_,_,_,W⟩
instance:Fn aN u3 ie 2:=⟨51,_,_,_,W⟩
instance:Fn aN u3 fL 2:=⟨52,_,_,_,W⟩
instance:FK aN "Hand" gI 3:=⟨53,_,_,W⟩
instance:CC.FM aN M "Hand" "stands" dw 1:=⟨54,_,_,W⟩
instance:CC.FM aN M "Hand" "is_waiting" cU 2:=⟨55,_,_,W⟩
instance:CC.FM aN M "Hand" "has_act" dG 2:=⟨56,_,_,W⟩
instance:CC.FM aN M "Hand" "come" bV 3:=⟨57,_,_,W⟩
instance:CC.FM aN M "Hand" "go" pd 2:=⟨58,_,_,W⟩
instance:CC.FM aN M "Hand" "decide" dU 1:=⟨59,_,_,W⟩
instance:CC.FM aN M "Hand" "makes_chord" eP 2:=⟨60,_,_,W⟩
instance:CC.FM aN M "Hand" "put_to_chord" d9 2:=⟨61,_,_,W⟩
instance:CC.FM aN M "Hand" "begin" jZ 2:=⟨62,_,_,W⟩
instance:CC.FM aN M "Hand" "press" jS 2:=⟨63,_,_,W⟩
instance:CC.FM aN M "Hand" "settle" jp 2:=⟨64,_,_,W⟩
instance:CC.FM aN M "Hand" "lift" lF 2:=⟨65,_,_,W⟩
instance:CC.FM aN M "Hand" "wait_on" hV 1:=⟨66,_,_,W⟩
instance:Fn aN qw ng 3:=⟨67,_,_,_,W⟩
instance:FK aN "OneKey" cb 2:=⟨68,_,_,W⟩
instance:CC.FM aN M "OneKey" "tell" gz 2:=⟨69,_,_,W⟩
instance:FK aN "Teller" bU 3:=⟨70,_,_,W⟩
instance:CC.FM aN M "Teller" "tell_one" fF 3:=⟨71,_,_,W⟩
instance:CC.FM aN u "Teller" "scan" cK 2:=⟨72,_,_,W⟩
instance:CC.FM aN M "Teller" "down" fD 1:=⟨73,_,_,W⟩
instance:FK aN "Desk" gD 1:=⟨74,_,_,W⟩
instance:CC.FM aN M "Desk" "run_through" bC 2:=⟨75,_,_,W⟩
instance:CC.FM aN M "Desk" "take_frame" cV 2:=⟨76,_,_,W⟩
instance:CC.FM aN M "Desk" "take_bed" dM 2:=⟨77,_,_,W⟩
instance:CC.FM aN u "Desk" "take_scan" cC 2:=⟨78,_,_,W⟩
instance:CC.FM aN M "Desk" "take_key" dP 3:=⟨79,_,_,W⟩
instance:CC.FM aN u "Desk" "say" aW 2:=⟨80,_,_,W⟩
instance:Fn aN qw eC 2:=⟨81,_,_,_,W⟩
instance:Fn aN qw jD 5:=⟨82,_,_,_,W⟩
instance:Fn aN qw dD 5:=⟨83,_,_,_,W⟩
abbrev ZG(S)[CS aN S](N:I Str)(n i k j:Nat):=CC.chD aN S dY N (N.take n) (top i) k j M=u
abbrev Zh(S)[CS aN S](N:I Str)(n i m k j:Nat):=CC.chD aN S dY N (N.take n) (aL (top i) m) k j M=u
noncomputable instance k0:CS aN (so kK):=by ext kK:0
def e0:ZG (so kK) ["standing"] 1 22 0 0:=by left
noncomputable instance k1:CS aN (so jy):=by ext jy:0
def e1:ZG (so jy) ["bed","layer","key","meaning"] 3 25 0 1:=by left
noncomputable instance k2:CS aN (so ji):=by ext ji:0
def e2:ZG (so ji) ["bed","keys"] 2 26 0 2:=by left
noncomputable instance k3:CS aN (so kg):=by ext kg:0
def e3:ZG (so kg) ["bed","keys","chord"] 2 27 0 3:=by left
noncomputable instance k4:CS aN (so lO):=by ext lO:0
def e4:ZG (so lO) ["_law_script","_law_k"] 2 92 0 4:=by left
noncomputable instance k5:CS aN (so lG):=by ext lG:0
def e5:ZG (so lG) ["_law_cell_here","_law_salt","_law_many","_law_number"] 3 93 0 5:=by left
noncomputable instance k6:CS aN (so fY):=by ext fY:0
def e6:ZG (so fY) ["_law_cell_here","_law_layer","_law_layers","_law_letter","_law_other","_law_kind"] 3 94 1 6:=by left
noncomputable instance k7:CS aN (so gw):=by ext gw:0
def e7:ZG (so gw) ["_law_script","_law_at","_law_first","_law_some","_law_found","_law_k","_law_cell_here","_law_keys"] 3 95 1 7:=by left
noncomputable instance k8:CS aN (so iU):=by ext iU:0
def e8:ZG (so iU) ["_law_script","_law_most","_law_cell_here","_law_keys","_law_layers","_law_rows","_law_layer","_law_cells"] 2 96 2 8:=by left
noncomputable instance k9:CS aN (so ip):=by ext ip:0
def e9:ZG (so ip) ["_law_script","_law_at","_law_rows","_law_columns","_law_found","_law_k","_law_cell_here","_law_spot"] 2 98 1 9:=by left
noncomputable instance k10:CS aN (so iA):=by ext iA:0
def e10:ZG (so iA) ["_law_frame_here","_law_keys","_law_marks","_law_key","_law_row","_law_column","_law_old","_law_new","_law_found","_law_mask"] 2 99 0 10:=by left
noncomputable instance k11:CS aN (so gj):=by ext gj:0
def e11:ZG (so gj) ["_law_frame_here","_law_bound","_law_spots"] 2 100 0 11:=by left
noncomputable instance k12:CS aN (so lm):=by ext lm:0
def e12:ZG (so lm) ["_law_numbers"] 1 101 0 12:=by left
noncomputable instance k13:CS aN (so lB):=by ext lB:0
def e13:ZG (so lB) ["_law_meaning_here"] 1 103 0 13:=by left
noncomputable instance k14:CS aN (so fu):=by ext fu:0
def e14:ZG (so fu) ["_law_bed_here","_law_rows","_law_layer","_law_keys","_law_letter"] 1 104 1 14:=by left
noncomputable instance k15:CS aN (so jx):=by ext jx:0
def e15:ZG (so jx) ["_law_steps","_law_words","_law_sent_here"] 1 102 0 15:=by left
noncomputable instance k16:CS aN (so fU):=by ext fU:0
def e16:ZG (so fU) ["number","column"] 2 80 0 16:=by left
noncomputable instance k17:CS aN (so rL):=by ext rL:0
def e17:ZG (so rL) ["number","numbers","other"] 2 17 0 17:=by left
noncomputable instance k18:CS aN (so sH):=by ext sH:0
def e18:ZG (so sH) ["numbers","wider"] 1 16 1 18:=by left
noncomputable instance k19:CS aN (so uG):=by ext uG:0
def e19:ZG (so uG) ["frame","keys","numbers","key","spot"] 2 15 2 19:=by left
noncomputable instance k20:CS aN (so lQ):=by ext lQ:0
def e20:ZG (so lQ) ["frame","reading","keys"] 2 77 3 20:=by left
noncomputable instance k21:CS aN (so pA):=by ext pA:0
def e21:ZG (so pA) ["keys","key"] 2 79 0 21:=by left
noncomputable instance k22:CS aN (so oW):=by ext oW:0
def e22:ZG (so oW) ["frame","reading","keys","key"] 4 78 3 22:=by left
noncomputable instance k23:CS aN (so zX):=by ext zX:0
def e23:ZG (so zX) ["frame","reading","keys"] 2 76 4 23:=by left
noncomputable instance k24:CS aN (so j7):=by ext j7:0
def e24:ZG (so j7) ["_law_frame_here","_law_reading"] 2 106 5 24:=by left
noncomputable instance k25:CS aN (so kW):=by ext kW:0
def e25:ZG (so kW) ["rows","columns","spot"] 3 14 0 25:=by left
noncomputable instance k26:CS aN (so mZ):=by ext mZ:0
def e26:ZG (so mZ) ["rows","columns","spots","place","spot"] 3 13 1 26:=by left
noncomputable instance k27:CS aN (so i9):=by ext i9:0
def e27:ZG (so i9) ["word"] 1 58 0 27:=by left
noncomputable instance k28:CS aN (so nz):=by ext nz:0
def e28:ZG (so nz) ["values"] 1 55 0 28:=by left
noncomputable instance k29:CS aN (so ir):=by ext ir:0
def e29:ZG (so ir) ["words"] 1 52 1 29:=by left
noncomputable instance k30:CS aN (so jF):=by ext jF:0
def e30:ZG (so jF) ["text"] 1 48 0 30:=by left
noncomputable instance k31:CS aN (so ib):=by ext ib:0
def e31:ZG (so ib) ["word"] 1 56 1 31:=by left
noncomputable instance k32:CS aN (so jQ):=by ext jQ:0
def e32:ZG (so jQ) ["words"] 1 53 2 32:=by left
noncomputable instance k33:CS aN (so jj):=by ext jj:0
def e33:ZG (so jj) ["text","sign"] 2 57 1 33:=by left
noncomputable instance k34:CS aN (so ke):=by ext ke:0
def e34:ZG (so ke) ["words","keys"] 1 54 2 34:=by left
noncomputable instance k35:CS aN (so fm):=by ext fm:0
def Ig:ZG (so fm) ["bed"] 1 42 0 35:=by left
noncomputable instance k36:CS aN (so mY):=by ext mY:0
def PN:ZG (so mY) ["meaning","layer","layers","word"] 3 44 1 36:=by left
noncomputable instance k37:CS aN (so gx):=by ext gx:0
def e37:ZG (so gx) ["bed","layer","meanings","key","meaning"] 2 43 2 37:=by left
noncomputable instance k38:CS aN (so uL):=by ext uL:0
def e38:ZG (so uL) ["keys"] 1 47 0 38:=by left
noncomputable instance k39:CS aN (so iK):=by ext iK:0
def e39:ZG (so iK) ["bed","keys"] 2 46 1 39:=by left
noncomputable instance k40:CS aN (so gy):=by ext gy:0
def e40:ZG (so gy) ["bed","place","keys"] 2 45 2 40:=by left
noncomputable instance k41:CS aN (so oS):=by ext oS:0
def e41:ZG (so oS) ["bed","layer","place"] 1 41 3 41:=by left
noncomputable instance k42:CS aN (so kM):=by ext kM:0
def e42:ZG (so kM) ["text","rows","numbers","layers","chords","place","row","words","layer","chord"] 1 51 4 42:=by left
noncomputable instance k43:CS aN (so kY):=by ext kY:0
def e43:ZG (so kY) ["word","spot"] 1 65 2 43:=by left
noncomputable instance k44:CS aN (so ki):=by ext ki:0
def e44:ZG (so ki) ["words","numbers"] 1 64 3 44:=by left
noncomputable instance k45:CS aN (so ic):=by ext ic:0
def e45:ZG (so ic) ["word"] 1 66 1 45:=by left
noncomputable instance k46:CS aN (so jW):=by ext jW:0
def e46:ZG (so jW) ["words","word","count"] 1 63 4 46:=by left
noncomputable instance k47:CS aN (so nA):=by ext nA:0
def e47:ZG (so nA) ["row","words","what"] 1 62 5 47:=by left
noncomputable instance k48:CS aN (so jX):=by ext jX:0
def e48:ZG (so jX) ["sent"] 1 67 0 48:=by left
noncomputable instance k49:CS aN (so j4):=by ext j4:0
def e49:ZG (so j4) ["keys"] 1 68 0 49:=by left
noncomputable instance k50:CS aN (so kj):=by ext kj:0
def e50:ZG (so kj) ["words"] 1 69 0 50:=by left
noncomputable instance k51:CS aN (so ko):=by ext ko:0
def e51:CC.chD aN (so ko) dY ["frame","reading","keys"] ["frame","reading"] (top 77) 3 51 u=u:=by left
noncomputable instance k52:CS aN (so uK):=by ext uK:0
def e52:CC.chD aN (so uK) dY ["frame","reading","keys"] ["frame","reading"] (top 76) 4 52 u=u:=by left
noncomputable instance k53:CS aN (d! gF):=by ext gF:0
def e53:Zh (d! gF) ["self","bed","standing"] 3 24 0 2 53:=by left
noncomputable instance k54:CS aN (d! je):=by ext je:0
def e54:Zh (d! je) ["self"] 1 24 1 2 54:=by left
noncomputable instance k55:CS aN (d! fN):=by ext fN:0
def e55:Zh (d! fN) ["self","key"] 2 24 2 2 55:=by left
noncomputable instance k56:CS aN (d! iJ):=by ext iJ:0
def e56:Zh (d! iJ) ["self","act"] 2 24 13 2 56:=by left
noncomputable instance k57:CS aN (d! lz):=by ext lz:0
def e57:Zh (d! lz) ["self","key","act"] 3 24 11 3 57:=by left
noncomputable instance k58:CS aN (d! oP):=by ext oP:0
def e58:Zh (d! oP) ["self","key","act"] 2 24 12 3 58:=by left
noncomputable instance k59:CS aN (d! jt):=by ext jt:0
def e59:Zh (d! jt) ["self","keys","what","acts","key","act"] 1 24 10 4 59:=by left
noncomputable instance k60:CS aN (d! eY):=by ext eY:0
def e60:Zh (d! eY) ["self","key"] 2 24 4 3 60:=by left
noncomputable instance k61:CS aN (d! d8):=by ext d8:0
def e61:Zh (d! d8) ["self","key","keys"] 2 24 5 5 61:=by left
noncomputable instance k62:CS aN (d! j9):=by ext j9:0
def e62:Zh (d! j9) ["self","key","layer","meaning","word"] 2 24 6 4 62:=by left
noncomputable instance k63:CS aN (d! ka):=by ext ka:0
def e63:Zh (d! ka) ["self","key"] 2 24 3 6 63:=by left
noncomputable instance k64:CS aN (d! i8):=by ext i8:0
def e64:Zh (d! i8) ["self","key","what"] 2 24 8 5 64:=by left
noncomputable instance k65:CS aN (d! lC):=by ext lC:0
def e65:Zh (d! lC) ["self","key"] 2 24 7 6 65:=by left
noncomputable instance k66:CS aN (d! iq):=by ext iq:0
def e66:Zh (d! iq) ["self","age"] 1 24 9 5 66:=by left
noncomputable instance k67:CS aN (d! Ae):=by ext Ae:0
def e67:ZG (d! Ae) ["bed","standing","event","hand"] 3 23 7 67:=by left
noncomputable instance k68:CS aN (d! fH):=by ext fH:0
def e68:Zh (d! fH) ["self","bound"] 2 83 0 2 68:=by left
noncomputable instance k69:CS aN (d! jq):=by ext jq:0
def e69:Zh (d! jq) ["self","reading","turn"] 2 83 1 2 69:=by left
noncomputable instance k70:CS aN (d! fG):=by ext fG:0
def e70:Zh (d! fG) ["self","frame","bound"] 3 85 0 4 70:=by left
noncomputable instance k71:CS aN (d! fJ):=by ext fJ:0
def e71:Zh (d! fJ) ["self","key","word","one_key"] 3 85 3 3 71:=by left
noncomputable instance k72:CS aN (d! jf):=by ext jf:0
def e72:CC.chD aN (d! jf) dY ["self","reading","words","changes","key","word","change"] ["self","reading"] (aL (top 85) 1) 5 72 u=u:=by left
noncomputable instance k73:CS aN (d! jc):=by ext jc:0
def e73:Zh (d! jc) ["self"] 1 85 2 2 73:=by left
noncomputable instance k74:CS aN (d! gM):=by ext gM:0
def e74:Zh (d! gM) ["self"] 1 90 0 6 74:=by left
noncomputable instance k75:CS aN (d! eZ):=by ext eZ:0
def e75:Zh (d! eZ) ["self","events","sent","event","answer"] 2 90 6 8 75:=by left
noncomputable instance k76:CS aN (d! fE):=by ext fE:0
def e76:Zh (d! fE) ["self","what"] 2 90 2 6 76:=by left
noncomputable instance k77:CS aN (d! gH):=by ext gH:0
def e77:Zh (d! gH) ["self","text"] 2 90 3 5 77:=by left
noncomputable instance k78:CS aN (d! fZ):=by ext fZ:0
def e78:CC.chD aN (d! fZ) dY ["self","reading","changes"] ["self","reading"] (aL (top 90) 4) 9 78 u=u:=by left
noncomputable instance k79:CS aN (d! gL):=by ext gL:0
def e79:Zh (d! gL) ["self","word","key"] 3 90 5 9 79:=by left
noncomputable instance k80:CS aN (d! kO):=by ext kO:0
def e80:CC.chD aN (d! kO) dY ["self","row","line","word","what"] ["self","row"] (aL (top 90) 1) 10 80 u=u:=by left
noncomputable instance k82:CS aN (d! jC):=by ext jC:0
def e82:ZG (d! jC) ["_law_desk","_law_bed_here","_law_teller","_law_reading","_law_standing","_law_steps","_law_event","_law_sent_here","_law_keys"] 5 107 11 82:=by left
noncomputable instance k83:CS aN (d! iB):=by ext iB:0
def e83:ZG (d! iB) ["_law_desk","_law_bed_here","_law_frame_here","_law_teller","_law_cells","_law_standing","_law_keys","_law_cell_here","_law_reading","_law_event","_law_sent_here"] 5 108 12 83:=by left
noncomputable instance k84:CS aN (d! G4):=by ext G4:0
def e84:ZG (d! G4) ["_law_script","_law_bed_here","_law_frame_here","_law_bound","_law_desk","_law_teller","_law_cut","_law_other"] 1 109 13 84:=by left
end K82
namespace L2
open PySem PySem.Spec PyProof.Rows
section
variable{Z:St}{H:Hp}{Q:VK}{D:Ends}
end
end L2
namespace K82
open PySem L2
section
variable{P:m4}{w:k?}{K:lD}{mg:Str->bb a_}{base:Heap}{f:aT}{fd:t5}
def Ve{X:Cx}{K:lD}{P:m4}{w:k?}{mg:Str->bb a_}{base:Heap}{k j:Nat}{C m:Str}{d:I Str}{sp:Sp}{E:XK}{o e:c_}{es:I c_}{c:TE}{t:TA}{b a:Pos}{pl:Sem Bool}(M:L10.nV P w K mg base (L4.pZ P w) k C m d sp)(u:X.prog=P)(l:X.w=w)(v:X.K=K)(hm:X.mg=mg)(r:X.base=base)(i:eu (L4.pZ X.prog X.w) X E)(p:ik j X.A)(q:PE X o c)(s:PA X (e::es) t)(h:k<=j:=by decide)(gr:e_ (e::es) X.env=(fg,eval e X.env)::e_ es X.env:=by rfl)(g:(backTo a (e_ es X.env)).any (·.1)=fg:=by rfl)(n:eval (.Call (.Attribute o m b) (e::es) [] a) X.env=(do
   let J<-eval o X.env
   standAt b.atName let(f,first)<-holding [J] (getMethod J m pl)callWith a f first (backTo a (e_ (e::es) X.env)) (backToKw a (keywordEach [] X.env))):=by rfl):PE X (.Call (.Attribute o m b) (e::es) [] a) (L10.rh K C m sp E c t):=by subst u l v hm r;show L10.Uk M i p q s h gr g n
def nJ:qz ["_law_desk","_law_frame_here","_law_row"] ["_law_desk","_law_frame_here"] (aK (top 105)):=⟨W,W,W,by left,W,by left,by left⟩
def ur{C:aT}{m:a8 a_}(F:l! K "_law_refused" "_law_refused" (top 105) f fd)(T:L10.pV K "Desk" ["teller","bed","standing"])(S:L10.nV P w K mg base (L4.pZ P w) 11 "Desk" "say" ["self","row"] (L10.lM K 2 aW))(U:L3.YU P w K mg base 1 "_law_text" ["_law_numbers"] 1 dR)(R:mg "NoReading"=cL (.ref C))(X:L4.Bq K C m)(D:m.contains (.type "BaseException")=Ld)(k:iN K gE "NoReading"=cL (cL (.ref C))):ek P w K mg base rj 12 f fd ["_law_desk","_law_frame_here"] (L10.lM K 2 eC):=by
 show F.ok nJ (λvs H Q E h=>h.1) (λcdv A G s H vs Q E J h=>?_);let hu:=J.units;let(L,B,α,ω,xs,so,hv,a):=h;obtain⟨p,o,g,b,rfl,rfl,O,N⟩:∃p o g b,vs=[p,o]/\xs=[g,b]/\L10.gd (L10.ow B α ω) K H α p g/\L10.gd (L10.ow B α ω) K H α o b:=by cases hv with|nil=>ext L|cons O r0=>cases r0 with |nil=>ext L|cons N r1=>cases r1 with |nil=>show⟨_,_,_,_,W,W,O,N⟩|cons _ _=>ext L
 let e0:∀{E2:XK},L10.eD K E2 _ (L10.af Z0):=L10.wH (L3.r8 L3.Be L3.Kx (L3.JW (L3.uQ (L3.r8 L3.Ha (L3.Ef (L3.uQ (L3.r8 L3.Gq L3.tI (L3.r8 L3.zS L3.DS L3.tI)) L3.yX)) (L3.r8 L3.BN (L3.Ef (L3.uQ L3.tI L3.yX)) (L3.r8 L3.Fk (L3.r8 L3.zS L3.DS L3.tI) L3.tI))) L3.yX)));let ev:∀{E2:XK},L10.eD K E2 _ (L10.mv "Desk" "say" aW 2 (L10.ap 0) (L10.aj (L10.ap 2) L10.aJ)):=L10.J4 T L10.AG (L10.Bv L10.AG L10.uN);let Y:L10.j! (L10.ow B α ω) K H α [cL p,cL o,CL] [cL g,cL b,CL]:=⟨W,λi x h=>by match i,h with |0,h=>ext h;show⟨p,W,O⟩|1,h=>ext h;show⟨o,W,N⟩|2,h=>ext h|i+3,h=>ext h⟩
 unfold eC at a;show⟨_,(we (EU (i:=2) nJ.nd W (Or.inl W) (yT wa JM (vM U J (jh (yT L3.FL (DE (jh (yT KI rA (Hl AN (pv 1) rA (λ_ _=>W))) ma)) (yT L3.FC (DE (jh rA ma)) (yT JA (Hl AN (pv 1) rA (λ_ _=>W)) rA))) ma)))) (we (L4.Rn (E2:=λc _ r=>c=a_.ref C/\Q (.bl Ld) r) W W W W R X D (λl=>uW (G5 (Ve S W W W W W (L4.adL W) J (pv 0) (jh (pv 2) ma)))) (λl e=>uW (D5 OB)) (λc dx r h=>⟨C,m,h.1,X,by rw[K0,dN,Rw]⟩)) (uW (D5 OB)))),?_⟩
 unfold JT Ai;dsimp only;show e0 (E2:=λ_ _ _=>False) B _ H α ω _ _ so Y ?_;let em:([g,b].map cL++[CL]:L10.dJ)=[cL g,cL b,CL]:=W;rw[em]at a;cases h1:L10.af Z0 [cL g,cL b,CL] ω with |bad|er x ω'=>rw[h1]at a;show a.elim|ok x n=>
  rw[h1]at a;intro u r e1 s1 v I;obtain⟨row,rfl⟩:∃row,x=.fz (.str row):=by revert a;cases x with
   |fz d=>cases d with |str row=>intro _;show⟨row,W⟩|_=>intro a;show a.elim
   |_=>intro a;show a.elim
  ext rS;dsimp only;ext L4.Tc;show⟨?_,λc dx q h2 σ' hs=>?_⟩
  .ext Bu
   show ev B _ r u n _ _ s1 ((Y.evo e1).set (i:=2) I) ?_;let en:([cL g,cL b,CL]:L10.dJ).set 2 (-(.str row))=[g,b].map cL++[-(.str row)]:=W;rw[en];dsimp only at a;cases h3:L10.mv "Desk" "say" aW 2 (L10.ap 0) (L10.aj (L10.ap 2) L10.aJ) _ n with |bad=>rw[h3]at a;show a.elim|ok y t=>rw[h3]at a;intro j q e2 z v2 hv2;show a j q (e1.trans e2) z (.bl fg) (.bl _)|er y t=>
    rw[h3]at a;dsimp only at a;by_cases M:y.cls=("NoReading":Str)
    .rw[ax M]at a;rintro c dx j q e2 z ⟨⟨a',g1,Z⟩,_⟩;rw[M]at Z;let g3:=k.symm.trans Z;ext g3;show⟨g1,a j q (e1.trans e2) z (.bl Ld) (.bl _)⟩
    .rw[aE M]at a;show a.elim
  .show h2.2
end
end K82
theorem lE1{α:Type}:∀{l:I α},l.length=1->∃a,l=[a]|[a],_=>⟨a,W⟩
theorem Et{α:Type}:∀{l:I α},l.length=2->∃a b,l=[a,b]|[a,b],_=>⟨a,b,W⟩
theorem En{α:Type}:∀{l:I α},l.length=3->∃a b c,l=[a,b,c]|a::_,h=>let⟨b,c,q⟩:=Et (A! h);⟨a,b,c,dt (a::·) q⟩
theorem Ek{α:Type}:∀{l:I α},l.length=4->∃a b c d,l=[a,b,c,d]|a::_,h=>let⟨b,c,d,q⟩:=En (A! h);⟨a,b,c,d,dt (a::·) q⟩
theorem Ej{α:Type}:∀{l:I α},l.length=5->∃a b c d e,l=[a,b,c,d,e]|a::_,h=>let⟨b,c,d,e,q⟩:=Ek (A! h);⟨a,b,c,d,e,dt (a::·) q⟩
theorem lE6{α:Type}:∀{l:I α},l.length=6->∃a b c d e f,l=[a,b,c,d,e,f]|a::_,h=>let⟨b,c,d,e,f,q⟩:=Ej (A! h);⟨a,b,c,d,e,f,dt (a::·) q⟩
local macro_rules|`(tactic|ext:5)=>do let t←HX "lE1 POQ,Et POOQ,En POOOQ,Ek POOOOQ,Ej POOOOOQ,lE6 POOOOOOQ"`(tactic|(intro _ _ _ _ _ _ us hl;first|$(⟨t⟩):tactic|(match us,hl with|[],_=>rfl)))|`(tactic|ext:7)=>`(tactic|first|exact List.forall_mem_nil _|(refine JL.mpr ⟨?_,?_⟩;(·first|(show p5 _ _ _=_;k_is)|(show iN _ _ _=_;k_is));ext:7))|`(tactic|ext:9)=>do let k←`(by k_is)`(tactic|first|refine L3.NI.mk $k ⟨_,L2.NT $k $k $k⟩|refine L3.MI.mk $k $k ⟨_,L2.NT $k $k $k⟩|refine L3.CI.mk $k $k $k $k $k $k $k (by ext:7)|refine L3.aed.mk $k ⟨_,L3.aoX $k $k $k $k⟩|k_is|k_exc|rfl|ext:7|left|(rw[<-Array.all_toList];rfl))
namespace K82
open PySem L2 L3 CC
def rg:FN:=L10.Z9 ri
def v_{l:JV}{w:k?}{K:lD}{h:Heap}{a:Str->bb a_}{fa:aT}{ajF:Tok}{D:aT}{akz:Nat}{akm:Array (bb a_)}{ahp:Tok}{afv:Tok}{aiK:Tok}{afS:Tok}{agT:Tok}{agV:Tok}{ahI:Tok}{ahJ:Tok}{aiN:Tok}{aiQ:Tok}{V:aT}{ajG:Nat}{ajC:Array (bb a_)}{aiI:Tok}{aiR:Tok}{aip:aT}{aju:Nat}{ajr:Array (bb a_)}{ahQ:Tok}{u:aT}{ahi:Nat}{ahj:Array (bb a_)}{ag4:aT}{aih:Nat}{ah7:Array (bb a_)}{alw:Tok}{ajL:Tok}{ajz:Tok}{k:aT}{akr:Nat}{ako:Array (bb a_)}{f0 f1 f2 f3 f4 f5 f6 f7 f8 f9 f10 f11 f12 f13 f14 f15 f16 f17 f18 f19 f20 f21 f22 f23 f24 f25 f26 f27 f28 f29 f30 f31 f32 f33 f34 f35 f36 f37 f38 f39 f40 f41 f42 f43 f44 f45 f46 f47 f48 f49 f50 f51 f52 f53 f54 f55 f f57 f58 f59 f60 f61 f62 f63 f64 f65 f66 f67 f68 f69 f70 t f72 f73 m f75 f76 f77 f78 i f80 f81 f82 f83 f84 f85 f86:aT}{o agx:aT}{nmU qU:Str}{NU:aT}{bsU:a8 a_}{hdU:Bool}{snU:a8 Str}{aq2:a8 a_}{abU:Bool}{ard:bb Bool}{ddU:bb aT}{k0U k1U k2U k3U k5U:bb a_}(X:K.In h)(G:h.Ns gE a)(hfa:a "law"=cL (.ref fa))(h0:NI K f0 "layer_of" (top 22))(h1:NI K f1 "looked_up" (top 25))(h2:NI K f2 "chords_over" (top 26))(h3:NI K f3 "chord_acts" (top 27))(h4:NI K f4 "_law_cell" (top 92))(h5:NI K f5 "_law_draw" (top 93))(h6:NI K f6 "_law_meaning" (top 94))(h7:NI K f7 "_law_chords" (top 95))(h8:NI K f8 "_law_bed" (top 96))(h9:NI K f9 "_law_frame" (top 98))(h10:NI K f10 "_law_reads" (top 99))(h11:NI K f11 "_law_frame_row" (top 100))(h12:NI K f12 "_law_text" (top 101))(h13:NI K f13 "_law_word" (top 103))(h14:NI K f14 "_law_bed_text" (top 104))(h15:NI K f15 "_law_sent" (top 102))(h16:NI K f16 "reads_column" (top 80))(h17:NI K f17 "joined" (top 17))(h18:NI K f18 "spread" (top 16))(h19:NI K f19 "reads" (top 15))(d:NI K f20 "keys_read" (top 77))(h21:NI K f21 "without" (top 79))(h22:NI K f22 "word_of" (top 78))(c:NI K f23 "seen" (top 76))(h24:NI K f24 "_law_signs" (top 106))(h25:NI K f25 "is_within" (top 14))(h26:NI K f26 "frame_of" (top 13))(h27:NI K f27 "read_number" (top 58))(h28:NI K f28 "all_read" (top 55))(h29:NI K f29 "read_numbers" (top 52))(h30:NI K f30 "is_letter" (top 48))(h31:NI K f31 "read_meaning" (top 56))(h32:NI K f32 "read_layer" (top 53))(h33:NI K f33 "read_parted" (top 57))(h34:NI K f34 "read_chord" (top 54))(h35:NI K f35 "check_numbers" (top 42))(h36:NI K f36 "may_mean" (top 44))(h37:NI K f37 "check_layer" (top 43))(h38:NI K f38 "rises" (top 47))(h39:NI K f39 "is_chord_set" (top 46))(h40:NI K f40 "check_chord" (top 45))(h41:NI K f41 "checked" (top 41))(h42:NI K f42 "read_bed" (top 51))(h43:NI K f43 "read_spot" (top 65))(h44:NI K f44 "read_frame" (top 64))(h45:NI K f45 "read_letters" (top 66))(h46:NI K f46 "read_words" (top 63))(h47:NI K f47 "read_row" (top 62))(h48:NI K f48 "shown_sent" (top 67))(h49:NI K f49 "shown_keys" (top 68))(h50:NI K f50 "shown_seen" (top 69))(h51:NI K f51 "step" (top 23))(h52:NI K f52 "_law_refused" (top 105))(h53:NI K f53 "_law_scan" (top 107))(h54:NI K f54 "_law_scanned" (top 108))(h55:NI K f55 "law" (top 109))(e:CI K f "Hand" ["bed","acts","waiting","once","sent"])(h57:MI K f f57 "__init__" "Hand.__init__" (aL (top 24) 0))(h58:MI K f f58 "stands" "Hand.stands" (aL (top 24) 1))(h59:MI K f f59 "is_waiting" "Hand.is_waiting" (aL (top 24) 2))(h60:MI K f f60 "has_act" "Hand.has_act" (aL (top 24) 13))(h61:MI K f f61 "come" "Hand.come" (aL (top 24) 11))(h62:MI K f f62 "go" "Hand.go" (aL (top 24) 12))(h63:MI K f f63 "decide" "Hand.decide" (aL (top 24) 10))(h64:MI K f f64 "makes_chord" "Hand.makes_chord" (aL (top 24) 4))(h65:MI K f f65 "put_to_chord" "Hand.put_to_chord" (aL (top 24) 5))(h66:MI K f f66 "begin" "Hand.begin" (aL (top 24) 6))(h67:MI K f f67 "press" "Hand.press" (aL (top 24) 3))(h68:MI K f f68 "settle" "Hand.settle" (aL (top 24) 8))(h69:MI K f f69 "lift" "Hand.lift" (aL (top 24) 7))(h70:MI K f f70 "wait_on" "Hand.wait_on" (aL (top 24) 9))(r:CI K t "OneKey" ["bound","last","turns","free_from"])(h72:MI K t f72 "__init__" "OneKey.__init__" (aL (top 83) 0))(h73:MI K t f73 "tell" "OneKey.tell" (aL (top 83) 1))(j:CI K m "Teller" ["frame","each_key"])(h75:MI K m f75 "__init__" "Teller.__init__" (aL (top 85) 0))(h76:MI K m f76 "tell_one" "Teller.tell_one" (aL (top 85) 3))(h77:MI K m f77 "scan" "Teller.scan" (aL (top 85) 1))(h78:MI K m f78 "down" "Teller.down" (aL (top 85) 2))(g:CI K i "Desk" ["teller","bed","standing"])(h80:MI K i f80 "__init__" "Desk.__init__" (aL (top 90) 0))(h81:MI K i f81 "run_through" "Desk.run_through" (aL (top 90) 6))(h82:MI K i f82 "take_frame" "Desk.take_frame" (aL (top 90) 2))(h83:MI K i f83 "take_bed" "Desk.take_bed" (aL (top 90) 3))(h84:MI K i f84 "take_scan" "Desk.take_scan" (aL (top 90) 4))(h85:MI K i f85 "take_key" "Desk.take_key" (aL (top 90) 5))(h86:MI K i f86 "say" "Desk.say" (aL (top 90) 1))(p:iN K gE "NoReading"=cL (cL (.ref o)))(xU:K.lookup o=cL (excClassObj nmU qU o NU bsU (.ref agx::[.type "ValueError",.type "Exception",.type "BaseException",.type "object"]) hdU snU aq2 abU ard ddU k0U k1U k2U k3U k5U "ValueError.__new__"))(ahh:x_ K o [.type "ValueError",.type "Exception",.type "BaseException",.type "object"] "ValueError.__new__"=Ld)(aky:iN K gE "NONE"=cL (cL (.ref D)))(agX:iN K gE "MOST_WIRES"=cL (cL (.int 6 ahp)))(afn:iN K gE "MOST_KEYS_frames"=cL (cL (.int 12 afv)))(ah8:iN K gE "FIGURES"=cL (cL (.str "0123456789" aiK)))(afF:iN K gE "MOST_KEYS_beds"=cL (cL (.int 5 afS)))(agy:iN K gE "MOST_LAYERS"=cL (cL (.int 3 agT)))(agA:iN K gE "MOST_CHORDS"=cL (cL (.int 4 agV)))(ahb:iN K gE "MOST_WAIT"=cL (cL (.int 4 ahI)))(ahm:iN K gE "BED_AHEAD"=cL (cL (.str "bed\n" ahJ)))(aif:iN K gE "NOTHING"=cL (cL (.str "." aiN)))(ajN:iN K gE "CHORD"=cL (cL (.ref V)))(ajJ:iN K gE "WORDS"=cL (cL (.ref aip)))(ahl:iN K gE "FIRST_BED"=cL (cL (.str "keys 1 wait 1\nlayer a" ahQ)))(aia:iN K gE "AT_REST"=cL (cL (.ref ag4)))(akv:iN K gE "DONE"=cL (cL (.str "ok" alw)))(akk:iN K gE "TURN"=cL (cL (.ref k)))(akB:K.lookup k=cL ⟨.type "tuple",CL,.seq #v[.str "turn" ajL,.int 0 ajz] akr,ako⟩)(aii:K.lookup ag4=cL ⟨.type "tuple",CL,.seq #v[.ref u,.none,.none] aih,ah7⟩)(ahc:K.lookup u=cL ⟨.type "tuple",CL,.seq #v[] ahi,ahj⟩)(ajq:K.lookup aip=cL ⟨.type "tuple",CL,.seq #v[.str "up" aiI,.str "down" aiR] aju,ajr⟩)(ajU:K.lookup V=cL ⟨.type "tuple",CL,.seq #v[.str "chord" aiQ] ajG,ajC⟩)(akn:K.lookup D=cL ⟨.type "tuple",CL,.seq #v[.str "none" ajF] akz,akm⟩)(yb:∀x∈dY.bl,iN K gE x=cL CL):∃fd:t5,(∀(s:d_)(v:a_),u_ s fd ⟨[v],[]⟩ [("_law_script",v)])/\∀base:Heap,K.In base->base.Ns gE a->ek l.prog w K a base rj 14 fa fd ["_law_script"] (yC K 1 rg):=by let alS:=IM (xs:=[.str "none"]) (ds:=[(.str "none")]) akn (by show 1<=eg;decide) (.cons ⟨_,rfl⟩ .nil) λO H=>(.cons (.str _) .nil);let aku:=IM (xs:=[.str "chord"]) (ds:=[(.str "chord")]) ajU (by show 1<=eg;decide) (.cons ⟨_,rfl⟩ .nil) λO H=>(.cons (.str _) .nil);let akx:=IM (xs:=[.str "up",.str "down"]) (ds:=[(.str "up"),(.str "down")]) ajq (by show 2<=eg;decide) (.cons ⟨_,rfl⟩ (.cons ⟨_,rfl⟩ .nil)) λO H=>(.cons (.str _) (.cons (.str _) .nil));let ahK:=IM (xs:=[]) (ds:=[]) ahc (by show 0<=eg;decide) .nil λO H=>.nil;let aiJ:=IM (xs:=[.ref u,.non,.non]) (ds:=[(.tuple []),.none,.none]) aii (by show 3<=eg;decide) (.cons rfl (.cons rfl (.cons rfl .nil))) λO H=>(.cons (ahK O H) (.cons .non (.cons .non .nil)));let alx:=IM (xs:=[.str "turn",.int 0]) (ds:=[(.str "turn"),(.int 0)]) akB (by show 2<=eg;decide) (.cons ⟨_,rfl⟩ (.cons ⟨_,rfl⟩ .nil)) λO H=>(.cons (.str _) (.cons (.int _) .nil));show h55.law X G hfa (by ext:5) λbase fd alp=>?_;let W:Tp l.prog w K a base h:=⟨X,G⟩;let ahO:=m7 X G p;let XU:L4.Bq K o (.ref agx::[.type "ValueError",.type "Exception",.type "BaseException",.type "object"]):=⟨_,_,_,_,_,_,_,_,_,_,_,_,_,_,_,_,xU⟩;let b:u4 K a dY:=⟨λx hx=>PySem.W.mg_none_of X G (yb x hx),(exC ⟨_,p,m7 X G p,ahh⟩ exN),(o3 (E? (m7 X G aky) alS) (o3 (z! (m7 X G agX)) (o3 (z! (m7 X G afn)) (o3 (F_ (m7 X G ah8)) (o3 (z! (m7 X G afF)) (o3 (z! (m7 X G agy)) (o3 (z! (m7 X G agA)) (o3 (z! (m7 X G ahb)) (o3 (F_ (m7 X G ahm)) (o3 (F_ (m7 X G aif)) (o3 (E? (m7 X G ajN) aku) (o3 (E? (m7 X G ajJ) akx) (o3 (F_ (m7 X G ahl)) (o3 (E? (m7 X G aia) aiJ) (o3 (F_ (m7 X G akv)) (o3 (E? (m7 X G akk) alx) csN)))))))))))))))),(L? e.cf (L? r.cf (L? j.cf (L? g.cf clN))))⟩;let s0:=fs0 (T:=aN) (P:=l.prog) (w:=w) (K:=K) (mg:=a) (base:=base);let s1:=ej s0 rfl (h0.c W λ_ z=>g? b s0 z e0);let s2:=ej s1 rfl (h1.c W λ_ z=>g? b s1 z e1);let s3:=ej s2 rfl (h2.c W λ_ z=>g? b s2 z e2);let s4:=ej s3 rfl (h3.c W λ_ z=>g? b s3 z e3);let s5:=ej s4 rfl (h4.c W λ_ z=>g? b s4 z e4);let s6:=ej s5 rfl (h5.c W λ_ z=>g? b s5 z e5);let s7:=ej s6 rfl (h6.c W λ_ z=>g? b s6 z e6);let s8:=ej s7 rfl (h7.c W λ_ z=>g? b s7 z e7);let s9:=ej s8 rfl (h8.c W λ_ z=>g? b s8 z e8);let s10:=ej s9 rfl (h9.c W λ_ z=>g? b s9 z e9);let s11:=ej s10 rfl (h10.c W λ_ z=>g? b s10 z e10);let s12:=ej s11 rfl (h11.c W λ_ z=>g? b s11 z e11);let s13:=ej s12 rfl (h12.c W λ_ z=>g? b s12 z e12);let s14:=ej s13 rfl (h13.c W λ_ z=>g? b s13 z e13);let s15:=ej s14 rfl (h14.c W λ_ z=>g? b s14 z e14);let s16:=ej s15 rfl (h15.c W λ_ z=>g? b s15 z e15);let s17:=ej s16 rfl (h16.c W λ_ z=>g? b s16 z e16);let s18:=ej s17 rfl (h17.c W λ_ z=>g? b s17 z e17);let s19:=ej s18 rfl (h18.c W λ_ z=>g? b s18 z e18);let s20:=ej s19 rfl (h19.c W λ_ z=>g? b s19 z e19);let s21:=ej s20 rfl (d.c W λ_ z=>g? b s20 z e20);let s22:=ej s21 rfl (h21.c W λ_ z=>g? b s21 z e21);let s23:=ej s22 rfl (h22.c W λ_ z=>g? b s22 z e22);let s24:=ej s23 rfl (c.c W λ_ z=>g? b s23 z e23);let s25:=ej s24 rfl (h24.c W λ_ z=>g? b s24 z e24);let s26:=ej s25 rfl (h25.c W λ_ z=>g? b s25 z e25);let s27:=ej s26 rfl (h26.c W λ_ z=>g? b s26 z e26);let s28:=ej s27 rfl (h27.c W λ_ z=>g? b s27 z e27);let s29:=ej s28 rfl (h28.c W λ_ z=>g? b s28 z e28);let s30:=ej s29 rfl (h29.c W λ_ z=>g? b s29 z e29);let s31:=ej s30 rfl (h30.c W λ_ z=>g? b s30 z e30);let s32:=ej s31 rfl (h31.c W λ_ z=>g? b s31 z e31);let s33:=ej s32 rfl (h32.c W λ_ z=>g? b s32 z e32);let s34:=ej s33 rfl (h33.c W λ_ z=>g? b s33 z e33);let s35:=ej s34 rfl (h34.c W λ_ z=>g? b s34 z e34);let s36:=ej s35 rfl (h35.c W λ_ z=>g? b s35 z Ig);let s37:=ej s36 rfl (h36.c W λ_ z=>g? b s36 z PN);let s38:=ej s37 rfl (h37.c W λ_ z=>g? b s37 z e37);let s39:=ej s38 rfl (h38.c W λ_ z=>g? b s38 z e38);let s40:=ej s39 rfl (h39.c W λ_ z=>g? b s39 z e39);let s41:=ej s40 rfl (h40.c W λ_ z=>g? b s40 z e40);let s42:=ej s41 rfl (h41.c W λ_ z=>g? b s41 z e41);let s43:=ej s42 rfl (h42.c W λ_ z=>g? b s42 z e42);let s44:=ej s43 rfl (h43.c W λ_ z=>g? b s43 z e43);let s45:=ej s44 rfl (h44.c W λ_ z=>g? b s44 z e44);let s46:=ej s45 rfl (h45.c W λ_ z=>g? b s45 z e45);let s47:=ej s46 rfl (h46.c W λ_ z=>g? b s46 z e46);let s48:=ej s47 rfl (h47.c W λ_ z=>g? b s47 z e47);let s49:=ej s48 rfl (h48.c W λ_ z=>g? b s48 z e48);let s50:=ej s49 rfl (h49.c W λ_ z=>g? b s49 z e49);let s51:=ej s50 rfl (h50.c W λ_ z=>g? b s50 z e50);let s52:=ej s51 rfl (d.agc X G (by ext:5) λ_ z=>HZ b s51 z e51);let s53:=ej s52 rfl (c.agc X G (by ext:5) λ_ z=>HZ b s52 z e52);let s54:=ej s53 rfl (h57.k e W λ_ z=>ll b s53 z e53);let s55:=ej s54 rfl (h58.mt e W λ_ z=>ll b s54 z e54);let s56:=ej s55 rfl (h59.mt e W λ_ z=>ll b s55 z e55);let s57:=ej s56 rfl (h60.mt e W λ_ z=>ll b s56 z e56);let s58:=ej s57 rfl (h61.mt e W λ_ z=>ll b s57 z e57);let s59:=ej s58 rfl (h62.mt e W λ_ z=>ll b s58 z e58);let s60:=ej s59 rfl (h63.mt e W λ_ z=>ll b s59 z e59);let s61:=ej s60 rfl (h64.mt e W λ_ z=>ll b s60 z e60);let s62:=ej s61 rfl (h65.mt e W λ_ z=>ll b s61 z e61);let s63:=ej s62 rfl (h66.mt e W λ_ z=>ll b s62 z e62);let s64:=ej s63 rfl (h67.mt e W λ_ z=>ll b s63 z e63);let n:=ej s64 rfl (h68.mt e W λ_ z=>ll b s64 z e64);let Z:=ej n rfl (h69.mt e W λ_ z=>ll b n z e65);let Y:=ej Z rfl (h70.mt e W λ_ z=>ll b Z z e66);let U:=ej Y rfl (h51.c W λ_ z=>ll b Y z e67);let S:=ej U rfl (h72.k r W λ_ z=>ll b U z e68);let R:=ej S rfl (h73.mt r W λ_ z=>ll b S z e69);let Q:=ej R rfl (h75.k j W λ_ z=>ll b R z e70);let N:=ej Q rfl (h76.mt j W λ_ z=>ll b Q z e71);let M:=ej N rfl (h77.mt j W λ_ z=>AF b N z e72);let L:=ej M rfl (h78.mt j W λ_ z=>ll b M z e73);let J:=ej L rfl (h80.k g W λ_ z=>ll b L z e74);let I:=ej J rfl (h81.mt g W λ_ z=>ll b J z e75);let F:=ej I rfl (h82.mt g W λ_ z=>ll b I z e76);let E:=ej F rfl (h83.mt g W λ_ z=>ll b F z e77);let C:=ej E rfl (h84.mt g W λ_ z=>AF b E z e78);let B:=ej C rfl (h85.mt g W λ_ z=>ll b C z e79);let q:=ej B rfl (h86.mt g W λ_ z=>AF b B z e80);let A:=ej q rfl (h52.c W λ_ z=>ur z g.cf (q 80 _ () rfl) (q 12 _ () rfl) ahO XU rfl p);let y:=ej A rfl (h53.c W λ_ z=>ll b A z e82);let s84:=ej y rfl (h54.c W λ_ z=>ll b y z e83);show(ll b s84 alp e84).imp λ_ _ _ _ h=>L10.Vi h
end K82
local macro_rules|`(universe$i*)=>do let b:=`PySem.Challenge.cw_chordbed_k82_scans_told_to_a_desk_holds let l←(((List.range 1017).toArray.map (λn=>b.str ("o_"++toString n))++i.raw.map (λj=>b++j.getId)).push `PySem.Challenge.pw_chordbed_k82_scans_told_to_a_desk).mapM λc=>`(theorem$(Lean.mkIdent ((`PySem.W.Fast).str ("tw"++toString c.hash))):ident:True:=trivial) return Lean.mkNullNode (l.map (·.raw))
universe heap_1017 heap_39 tree_1016 tree_987 tree_908 tree_845 tree_804 tree_774 view_39 tree_742 tree_686 tree_607 tree_536 tree_484 tree_371 tree_452 sts_909 tree_261 tree_243 sts_988 sts_537 sts_608 sts_262 tree_195 sts_846 tree_173 sts_687 sts_456 tree_151 sts_485 sts_743 sts_805 sts_196 tree_129 sts_244 tree_107 tree_92 sts_775 sts_108 tree_70 sts_152 sts_71 sts_130 sts_174 sts_49 sts_93 heap_46 tree_47 env_41
open PySem PySem.W PyProof.Rows
set_option maxRecDepth 100000 in
set_option maxHeartbeats 0 in
theorem PySem.Challenge.cw_chordbed_k82_scans_told_to_a_desk_holds : PySem.Challenge.rw_chordbed_k82_scans_told_to_a_desk.Holds := by
 w_on;o_law;k_head;(case hw=>w_witness2)
 k_fill
 refine L3.Y6 (l:=PySem.Challenge.rw_chordbed_k82_scans_told_to_a_desk) (n:=63) (k:=14) (x:="_law_script") (F:=K82.rg) rfl (by decide) rfl ⟨rfl,by decide,by decide⟩ (λw h Y=>PySem.W.kIn_of Y) ?F K82.main
 case F=>
  intro w e f h b G a
  apply K82.v_ b G a
  all_goals ext:9
