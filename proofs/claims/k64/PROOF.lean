import PyProof.Rows.All
import Wide.All
import OpenK.AllK
import Wide.FinOn
import Lean
import PyProof.EqAt
import PyProof.EqKinds
import PyProof.TupleCall
import KE.KIntText
import KE.KRevSl
import PyProof.Rows.SeqMore
import PyProof.WalkInts
import PyProof.Rows.MinMaxN
import PyProof.ExcInit
import OpenK.KMake
import PyProof.InstStoreFacts
import PyProof.FString2
import PyProof.Rows.FStr
import PyProof.Rows.SetFrom
import PyProof.SeqRoads2
import PyProof.RangeFor
import PyProof.WalksMore
import PyProof.StrBlock2
import PyProof.Rows.SortShell
import PyProof.TupleOfSeq
import KE.KDictList
import KE.KDictOf
import PyProof.IsiH_tuple
import PyProof.Rows.RuleN_abs
import PyProof.Rows.Range3
import KE.KRevIter
import PyProof.StrLawsRepr
import PyProof.ReprStr
import PyProof.IsiH_list
import PyProof.Rows.TupDisplay
import PyProof.Rows.SortRuns
import PyProof.Rows.SortKey
import PyProof.Rows.SortShellK
import KE.KSortTup
import PyProof.SetKind
import PyProof.SetScanFacts
import PyProof.CollectIter
import PyProof.Rows.SortStr
import PySem.Challenge.RW_chordbed_k64_whole_clear_or_twofold
set_option compiler.extract_closed false
set_option genSizeOf false
set_option genInjectivity false
set_option Elab.async false
set_option linter.all false
set_option maxRecDepth 100000
abbrev ai:=@if_pos
abbrev ak:=@if_neg
abbrev a6:=@decide_eq_true
abbrev a7:=@decide_eq_false
abbrev a8:=@of_decide_eq_true
abbrev b9:=@absurd
abbrev cb:=@List
abbrev cc:=@Option
abbrev cj:=@PySem.Heap.get?_push_of_some
abbrev cv:=@PySem.Heap.lt_size
abbrev c0:=@PySem.Heap.get?_push_size
abbrev c3:=@PySem.Heap.get?_update_other
abbrev c4:=@PySem.Heap.get?_update_self
abbrev c5:=@PySem.Heap.size_push
abbrev c6:=@PySem.Obj.data_mapFields
abbrev di:=@PySem.Obj.isFreed_of_fields
abbrev dt:=@Ne.symm
abbrev eh:=@congrArg
abbrev ey:=@beq_self_eq_true
open Lean in
def cvP:Nat→TSyntax `term→MacroM (TSyntax `rcasesPat)
 |0,_=>Macro.throwUnsupported
 |n+1,t=>let f:=fun (a:Array Term)=>do
   let l←(←a.mapM (cvP n)).mapM fun p=>`(Lean.Parser.Tactic.rcasesPatLo|$p:rcasesPat)
   `(rcasesPat|⟨$l,*⟩)
  match t with
  |`(⟨$a,*⟩)=>f a
  |`(($a,$b,*))=>f (#[a]++b.getElems)
  |`($i:ident)=>`(rcasesPat|$i:ident)
  |`(_)=>`(rcasesPat|_)
  |_=>Macro.throwUnsupported
local macro_rules|`(tactic|let $d:letDecl)=>`(tactic|have $d:letDecl)
theorem J2_0{A0 A1:Prop}{G:Prop}(h:A0∧A1)(k:A0→A1→G):G:=k h.1 h.2
theorem J2_1{α0:Sort _}{A0:α0→Prop}{G:Prop}(h:∃x0,A0 x0)(k:∀x0,A0 x0→G):G:=let⟨x0,y⟩:=h;k x0 y
theorem J3_0{A0 A1 A2:Prop}{G:Prop}(h:A0∧A1∧A2)(k:A0→A1→A2→G):G:=k h.1 h.2.1 h.2.2
theorem J3_1{α0:Sort _}{A0 A1:α0→Prop}{G:Prop}(h:∃x0,A0 x0∧A1 x0)(k:∀x0,A0 x0→A1 x0→G):G:=let⟨x0,y⟩:=h;k x0 y.1 y.2
theorem J3_2{α0:Sort _}{α1:Sort _}{A0:α0→α1→Prop}{G:Prop}(h:∃x0 x1,A0 x0 x1)(k:∀x0 x1,A0 x0 x1→G):G:=let⟨x0,x1,y⟩:=h;k x0 x1 y
theorem J4_0{A0 A1 A2 A3:Prop}{G:Prop}(h:A0∧A1∧A2∧A3)(k:A0→A1→A2→A3→G):G:=k h.1 h.2.1 h.2.2.1 h.2.2.2
theorem J4_1{α0:Sort _}{A0 A1 A2:α0→Prop}{G:Prop}(h:∃x0,A0 x0∧A1 x0∧A2 x0)(k:∀x0,A0 x0→A1 x0→A2 x0→G):G:=let⟨x0,y⟩:=h;k x0 y.1 y.2.1 y.2.2
theorem J4_2{α0:Sort _}{α1:Sort _}{A0 A1:α0→α1→Prop}{G:Prop}(h:∃x0 x1,A0 x0 x1∧A1 x0 x1)(k:∀x0 x1,A0 x0 x1→A1 x0 x1→G):G:=let⟨x0,x1,y⟩:=h;k x0 x1 y.1 y.2
theorem J4_3{α0:Sort _}{α1:Sort _}{α2:Sort _}{A0:α0→α1→α2→Prop}{G:Prop}(h:∃x0 x1 x2,A0 x0 x1 x2)(k:∀x0 x1 x2,A0 x0 x1 x2→G):G:=let⟨x0,x1,x2,y⟩:=h;k x0 x1 x2 y
theorem J5_0{A0 A1 A2 A3 A4:Prop}{G:Prop}(h:A0∧A1∧A2∧A3∧A4)(k:A0→A1→A2→A3→A4→G):G:=k h.1 h.2.1 h.2.2.1 h.2.2.2.1 h.2.2.2.2
theorem J5_1{α0:Sort _}{A0 A1 A2 A3:α0→Prop}{G:Prop}(h:∃x0,A0 x0∧A1 x0∧A2 x0∧A3 x0)(k:∀x0,A0 x0→A1 x0→A2 x0→A3 x0→G):G:=let⟨x0,y⟩:=h;k x0 y.1 y.2.1 y.2.2.1 y.2.2.2
theorem J5_2{α0:Sort _}{α1:Sort _}{A0 A1 A2:α0→α1→Prop}{G:Prop}(h:∃x0 x1,A0 x0 x1∧A1 x0 x1∧A2 x0 x1)(k:∀x0 x1,A0 x0 x1→A1 x0 x1→A2 x0 x1→G):G:=let⟨x0,x1,y⟩:=h;k x0 x1 y.1 y.2.1 y.2.2
theorem J5_3{α0:Sort _}{α1:Sort _}{α2:Sort _}{A0 A1:α0→α1→α2→Prop}{G:Prop}(h:∃x0 x1 x2,A0 x0 x1 x2∧A1 x0 x1 x2)(k:∀x0 x1 x2,A0 x0 x1 x2→A1 x0 x1 x2→G):G:=let⟨x0,x1,x2,y⟩:=h;k x0 x1 x2 y.1 y.2
theorem J5_4{α0:Sort _}{α1:Sort _}{α2:Sort _}{α3:Sort _}{A0:α0→α1→α2→α3→Prop}{G:Prop}(h:∃x0 x1 x2 x3,A0 x0 x1 x2 x3)(k:∀x0 x1 x2 x3,A0 x0 x1 x2 x3→G):G:=let⟨x0,x1,x2,x3,y⟩:=h;k x0 x1 x2 x3 y
theorem J6_0{A0 A1 A2 A3 A4 A5:Prop}{G:Prop}(h:A0∧A1∧A2∧A3∧A4∧A5)(k:A0→A1→A2→A3→A4→A5→G):G:=k h.1 h.2.1 h.2.2.1 h.2.2.2.1 h.2.2.2.2.1 h.2.2.2.2.2
theorem J6_1{α0:Sort _}{A0 A1 A2 A3 A4:α0→Prop}{G:Prop}(h:∃x0,A0 x0∧A1 x0∧A2 x0∧A3 x0∧A4 x0)(k:∀x0,A0 x0→A1 x0→A2 x0→A3 x0→A4 x0→G):G:=let⟨x0,y⟩:=h;k x0 y.1 y.2.1 y.2.2.1 y.2.2.2.1 y.2.2.2.2
theorem J6_2{α0:Sort _}{α1:Sort _}{A0 A1 A2 A3:α0→α1→Prop}{G:Prop}(h:∃x0 x1,A0 x0 x1∧A1 x0 x1∧A2 x0 x1∧A3 x0 x1)(k:∀x0 x1,A0 x0 x1→A1 x0 x1→A2 x0 x1→A3 x0 x1→G):G:=let⟨x0,x1,y⟩:=h;k x0 x1 y.1 y.2.1 y.2.2.1 y.2.2.2
theorem J6_3{α0:Sort _}{α1:Sort _}{α2:Sort _}{A0 A1 A2:α0→α1→α2→Prop}{G:Prop}(h:∃x0 x1 x2,A0 x0 x1 x2∧A1 x0 x1 x2∧A2 x0 x1 x2)(k:∀x0 x1 x2,A0 x0 x1 x2→A1 x0 x1 x2→A2 x0 x1 x2→G):G:=let⟨x0,x1,x2,y⟩:=h;k x0 x1 x2 y.1 y.2.1 y.2.2
theorem J6_4{α0:Sort _}{α1:Sort _}{α2:Sort _}{α3:Sort _}{A0 A1:α0→α1→α2→α3→Prop}{G:Prop}(h:∃x0 x1 x2 x3,A0 x0 x1 x2 x3∧A1 x0 x1 x2 x3)(k:∀x0 x1 x2 x3,A0 x0 x1 x2 x3→A1 x0 x1 x2 x3→G):G:=let⟨x0,x1,x2,x3,y⟩:=h;k x0 x1 x2 x3 y.1 y.2
theorem J6_5{α0:Sort _}{α1:Sort _}{α2:Sort _}{α3:Sort _}{α4:Sort _}{A0:α0→α1→α2→α3→α4→Prop}{G:Prop}(h:∃x0 x1 x2 x3 x4,A0 x0 x1 x2 x3 x4)(k:∀x0 x1 x2 x3 x4,A0 x0 x1 x2 x3 x4→G):G:=let⟨x0,x1,x2,x3,x4,y⟩:=h;k x0 x1 x2 x3 x4 y
theorem J7_0{A0 A1 A2 A3 A4 A5 A6:Prop}{G:Prop}(h:A0∧A1∧A2∧A3∧A4∧A5∧A6)(k:A0→A1→A2→A3→A4→A5→A6→G):G:=k h.1 h.2.1 h.2.2.1 h.2.2.2.1 h.2.2.2.2.1 h.2.2.2.2.2.1 h.2.2.2.2.2.2
theorem J7_1{α0:Sort _}{A0 A1 A2 A3 A4 A5:α0→Prop}{G:Prop}(h:∃x0,A0 x0∧A1 x0∧A2 x0∧A3 x0∧A4 x0∧A5 x0)(k:∀x0,A0 x0→A1 x0→A2 x0→A3 x0→A4 x0→A5 x0→G):G:=let⟨x0,y⟩:=h;k x0 y.1 y.2.1 y.2.2.1 y.2.2.2.1 y.2.2.2.2.1 y.2.2.2.2.2
theorem J7_2{α0:Sort _}{α1:Sort _}{A0 A1 A2 A3 A4:α0→α1→Prop}{G:Prop}(h:∃x0 x1,A0 x0 x1∧A1 x0 x1∧A2 x0 x1∧A3 x0 x1∧A4 x0 x1)(k:∀x0 x1,A0 x0 x1→A1 x0 x1→A2 x0 x1→A3 x0 x1→A4 x0 x1→G):G:=let⟨x0,x1,y⟩:=h;k x0 x1 y.1 y.2.1 y.2.2.1 y.2.2.2.1 y.2.2.2.2
theorem J7_3{α0:Sort _}{α1:Sort _}{α2:Sort _}{A0 A1 A2 A3:α0→α1→α2→Prop}{G:Prop}(h:∃x0 x1 x2,A0 x0 x1 x2∧A1 x0 x1 x2∧A2 x0 x1 x2∧A3 x0 x1 x2)(k:∀x0 x1 x2,A0 x0 x1 x2→A1 x0 x1 x2→A2 x0 x1 x2→A3 x0 x1 x2→G):G:=let⟨x0,x1,x2,y⟩:=h;k x0 x1 x2 y.1 y.2.1 y.2.2.1 y.2.2.2
theorem J7_4{α0:Sort _}{α1:Sort _}{α2:Sort _}{α3:Sort _}{A0 A1 A2:α0→α1→α2→α3→Prop}{G:Prop}(h:∃x0 x1 x2 x3,A0 x0 x1 x2 x3∧A1 x0 x1 x2 x3∧A2 x0 x1 x2 x3)(k:∀x0 x1 x2 x3,A0 x0 x1 x2 x3→A1 x0 x1 x2 x3→A2 x0 x1 x2 x3→G):G:=let⟨x0,x1,x2,x3,y⟩:=h;k x0 x1 x2 x3 y.1 y.2.1 y.2.2
theorem J7_5{α0:Sort _}{α1:Sort _}{α2:Sort _}{α3:Sort _}{α4:Sort _}{A0 A1:α0→α1→α2→α3→α4→Prop}{G:Prop}(h:∃x0 x1 x2 x3 x4,A0 x0 x1 x2 x3 x4∧A1 x0 x1 x2 x3 x4)(k:∀x0 x1 x2 x3 x4,A0 x0 x1 x2 x3 x4→A1 x0 x1 x2 x3 x4→G):G:=let⟨x0,x1,x2,x3,x4,y⟩:=h;k x0 x1 x2 x3 x4 y.1 y.2
theorem J7_6{α0:Sort _}{α1:Sort _}{α2:Sort _}{α3:Sort _}{α4:Sort _}{α5:Sort _}{A0:α0→α1→α2→α3→α4→α5→Prop}{G:Prop}(h:∃x0 x1 x2 x3 x4 x5,A0 x0 x1 x2 x3 x4 x5)(k:∀x0 x1 x2 x3 x4 x5,A0 x0 x1 x2 x3 x4 x5→G):G:=let⟨x0,x1,x2,x3,x4,x5,y⟩:=h;k x0 x1 x2 x3 x4 x5 y
theorem J8_0{A0 A1 A2 A3 A4 A5 A6 A7:Prop}{G:Prop}(h:A0∧A1∧A2∧A3∧A4∧A5∧A6∧A7)(k:A0→A1→A2→A3→A4→A5→A6→A7→G):G:=k h.1 h.2.1 h.2.2.1 h.2.2.2.1 h.2.2.2.2.1 h.2.2.2.2.2.1 h.2.2.2.2.2.2.1 h.2.2.2.2.2.2.2
theorem J8_1{α0:Sort _}{A0 A1 A2 A3 A4 A5 A6:α0→Prop}{G:Prop}(h:∃x0,A0 x0∧A1 x0∧A2 x0∧A3 x0∧A4 x0∧A5 x0∧A6 x0)(k:∀x0,A0 x0→A1 x0→A2 x0→A3 x0→A4 x0→A5 x0→A6 x0→G):G:=let⟨x0,y⟩:=h;k x0 y.1 y.2.1 y.2.2.1 y.2.2.2.1 y.2.2.2.2.1 y.2.2.2.2.2.1 y.2.2.2.2.2.2
theorem J8_2{α0:Sort _}{α1:Sort _}{A0 A1 A2 A3 A4 A5:α0→α1→Prop}{G:Prop}(h:∃x0 x1,A0 x0 x1∧A1 x0 x1∧A2 x0 x1∧A3 x0 x1∧A4 x0 x1∧A5 x0 x1)(k:∀x0 x1,A0 x0 x1→A1 x0 x1→A2 x0 x1→A3 x0 x1→A4 x0 x1→A5 x0 x1→G):G:=let⟨x0,x1,y⟩:=h;k x0 x1 y.1 y.2.1 y.2.2.1 y.2.2.2.1 y.2.2.2.2.1 y.2.2.2.2.2
theorem J8_3{α0:Sort _}{α1:Sort _}{α2:Sort _}{A0 A1 A2 A3 A4:α0→α1→α2→Prop}{G:Prop}(h:∃x0 x1 x2,A0 x0 x1 x2∧A1 x0 x1 x2∧A2 x0 x1 x2∧A3 x0 x1 x2∧A4 x0 x1 x2)(k:∀x0 x1 x2,A0 x0 x1 x2→A1 x0 x1 x2→A2 x0 x1 x2→A3 x0 x1 x2→A4 x0 x1 x2→G):G:=let⟨x0,x1,x2,y⟩:=h;k x0 x1 x2 y.1 y.2.1 y.2.2.1 y.2.2.2.1 y.2.2.2.2
theorem J8_4{α0:Sort _}{α1:Sort _}{α2:Sort _}{α3:Sort _}{A0 A1 A2 A3:α0→α1→α2→α3→Prop}{G:Prop}(h:∃x0 x1 x2 x3,A0 x0 x1 x2 x3∧A1 x0 x1 x2 x3∧A2 x0 x1 x2 x3∧A3 x0 x1 x2 x3)(k:∀x0 x1 x2 x3,A0 x0 x1 x2 x3→A1 x0 x1 x2 x3→A2 x0 x1 x2 x3→A3 x0 x1 x2 x3→G):G:=let⟨x0,x1,x2,x3,y⟩:=h;k x0 x1 x2 x3 y.1 y.2.1 y.2.2.1 y.2.2.2
theorem J8_5{α0:Sort _}{α1:Sort _}{α2:Sort _}{α3:Sort _}{α4:Sort _}{A0 A1 A2:α0→α1→α2→α3→α4→Prop}{G:Prop}(h:∃x0 x1 x2 x3 x4,A0 x0 x1 x2 x3 x4∧A1 x0 x1 x2 x3 x4∧A2 x0 x1 x2 x3 x4)(k:∀x0 x1 x2 x3 x4,A0 x0 x1 x2 x3 x4→A1 x0 x1 x2 x3 x4→A2 x0 x1 x2 x3 x4→G):G:=let⟨x0,x1,x2,x3,x4,y⟩:=h;k x0 x1 x2 x3 x4 y.1 y.2.1 y.2.2
theorem J8_6{α0:Sort _}{α1:Sort _}{α2:Sort _}{α3:Sort _}{α4:Sort _}{α5:Sort _}{A0 A1:α0→α1→α2→α3→α4→α5→Prop}{G:Prop}(h:∃x0 x1 x2 x3 x4 x5,A0 x0 x1 x2 x3 x4 x5∧A1 x0 x1 x2 x3 x4 x5)(k:∀x0 x1 x2 x3 x4 x5,A0 x0 x1 x2 x3 x4 x5→A1 x0 x1 x2 x3 x4 x5→G):G:=let⟨x0,x1,x2,x3,x4,x5,y⟩:=h;k x0 x1 x2 x3 x4 x5 y.1 y.2
theorem J9_0{A0 A1 A2 A3 A4 A5 A6 A7 A8:Prop}{G:Prop}(h:A0∧A1∧A2∧A3∧A4∧A5∧A6∧A7∧A8)(k:A0→A1→A2→A3→A4→A5→A6→A7→A8→G):G:=k h.1 h.2.1 h.2.2.1 h.2.2.2.1 h.2.2.2.2.1 h.2.2.2.2.2.1 h.2.2.2.2.2.2.1 h.2.2.2.2.2.2.2.1 h.2.2.2.2.2.2.2.2
theorem J9_1{α0:Sort _}{A0 A1 A2 A3 A4 A5 A6 A7:α0→Prop}{G:Prop}(h:∃x0,A0 x0∧A1 x0∧A2 x0∧A3 x0∧A4 x0∧A5 x0∧A6 x0∧A7 x0)(k:∀x0,A0 x0→A1 x0→A2 x0→A3 x0→A4 x0→A5 x0→A6 x0→A7 x0→G):G:=let⟨x0,y⟩:=h;k x0 y.1 y.2.1 y.2.2.1 y.2.2.2.1 y.2.2.2.2.1 y.2.2.2.2.2.1 y.2.2.2.2.2.2.1 y.2.2.2.2.2.2.2
theorem J9_2{α0:Sort _}{α1:Sort _}{A0 A1 A2 A3 A4 A5 A6:α0→α1→Prop}{G:Prop}(h:∃x0 x1,A0 x0 x1∧A1 x0 x1∧A2 x0 x1∧A3 x0 x1∧A4 x0 x1∧A5 x0 x1∧A6 x0 x1)(k:∀x0 x1,A0 x0 x1→A1 x0 x1→A2 x0 x1→A3 x0 x1→A4 x0 x1→A5 x0 x1→A6 x0 x1→G):G:=let⟨x0,x1,y⟩:=h;k x0 x1 y.1 y.2.1 y.2.2.1 y.2.2.2.1 y.2.2.2.2.1 y.2.2.2.2.2.1 y.2.2.2.2.2.2
theorem J9_3{α0:Sort _}{α1:Sort _}{α2:Sort _}{A0 A1 A2 A3 A4 A5:α0→α1→α2→Prop}{G:Prop}(h:∃x0 x1 x2,A0 x0 x1 x2∧A1 x0 x1 x2∧A2 x0 x1 x2∧A3 x0 x1 x2∧A4 x0 x1 x2∧A5 x0 x1 x2)(k:∀x0 x1 x2,A0 x0 x1 x2→A1 x0 x1 x2→A2 x0 x1 x2→A3 x0 x1 x2→A4 x0 x1 x2→A5 x0 x1 x2→G):G:=let⟨x0,x1,x2,y⟩:=h;k x0 x1 x2 y.1 y.2.1 y.2.2.1 y.2.2.2.1 y.2.2.2.2.1 y.2.2.2.2.2
theorem J9_4{α0:Sort _}{α1:Sort _}{α2:Sort _}{α3:Sort _}{A0 A1 A2 A3 A4:α0→α1→α2→α3→Prop}{G:Prop}(h:∃x0 x1 x2 x3,A0 x0 x1 x2 x3∧A1 x0 x1 x2 x3∧A2 x0 x1 x2 x3∧A3 x0 x1 x2 x3∧A4 x0 x1 x2 x3)(k:∀x0 x1 x2 x3,A0 x0 x1 x2 x3→A1 x0 x1 x2 x3→A2 x0 x1 x2 x3→A3 x0 x1 x2 x3→A4 x0 x1 x2 x3→G):G:=let⟨x0,x1,x2,x3,y⟩:=h;k x0 x1 x2 x3 y.1 y.2.1 y.2.2.1 y.2.2.2.1 y.2.2.2.2
theorem J9_5{α0:Sort _}{α1:Sort _}{α2:Sort _}{α3:Sort _}{α4:Sort _}{A0 A1 A2 A3:α0→α1→α2→α3→α4→Prop}{G:Prop}(h:∃x0 x1 x2 x3 x4,A0 x0 x1 x2 x3 x4∧A1 x0 x1 x2 x3 x4∧A2 x0 x1 x2 x3 x4∧A3 x0 x1 x2 x3 x4)(k:∀x0 x1 x2 x3 x4,A0 x0 x1 x2 x3 x4→A1 x0 x1 x2 x3 x4→A2 x0 x1 x2 x3 x4→A3 x0 x1 x2 x3 x4→G):G:=let⟨x0,x1,x2,x3,x4,y⟩:=h;k x0 x1 x2 x3 x4 y.1 y.2.1 y.2.2.1 y.2.2.2
theorem J9_6{α0:Sort _}{α1:Sort _}{α2:Sort _}{α3:Sort _}{α4:Sort _}{α5:Sort _}{A0 A1 A2:α0→α1→α2→α3→α4→α5→Prop}{G:Prop}(h:∃x0 x1 x2 x3 x4 x5,A0 x0 x1 x2 x3 x4 x5∧A1 x0 x1 x2 x3 x4 x5∧A2 x0 x1 x2 x3 x4 x5)(k:∀x0 x1 x2 x3 x4 x5,A0 x0 x1 x2 x3 x4 x5→A1 x0 x1 x2 x3 x4 x5→A2 x0 x1 x2 x3 x4 x5→G):G:=let⟨x0,x1,x2,x3,x4,x5,y⟩:=h;k x0 x1 x2 x3 x4 x5 y.1 y.2.1 y.2.2
theorem J10_0{A0 A1 A2 A3 A4 A5 A6 A7 A8 A9:Prop}{G:Prop}(h:A0∧A1∧A2∧A3∧A4∧A5∧A6∧A7∧A8∧A9)(k:A0→A1→A2→A3→A4→A5→A6→A7→A8→A9→G):G:=k h.1 h.2.1 h.2.2.1 h.2.2.2.1 h.2.2.2.2.1 h.2.2.2.2.2.1 h.2.2.2.2.2.2.1 h.2.2.2.2.2.2.2.1 h.2.2.2.2.2.2.2.2.1 h.2.2.2.2.2.2.2.2.2
theorem J10_1{α0:Sort _}{A0 A1 A2 A3 A4 A5 A6 A7 A8:α0→Prop}{G:Prop}(h:∃x0,A0 x0∧A1 x0∧A2 x0∧A3 x0∧A4 x0∧A5 x0∧A6 x0∧A7 x0∧A8 x0)(k:∀x0,A0 x0→A1 x0→A2 x0→A3 x0→A4 x0→A5 x0→A6 x0→A7 x0→A8 x0→G):G:=let⟨x0,y⟩:=h;k x0 y.1 y.2.1 y.2.2.1 y.2.2.2.1 y.2.2.2.2.1 y.2.2.2.2.2.1 y.2.2.2.2.2.2.1 y.2.2.2.2.2.2.2.1 y.2.2.2.2.2.2.2.2
theorem J10_2{α0:Sort _}{α1:Sort _}{A0 A1 A2 A3 A4 A5 A6 A7:α0→α1→Prop}{G:Prop}(h:∃x0 x1,A0 x0 x1∧A1 x0 x1∧A2 x0 x1∧A3 x0 x1∧A4 x0 x1∧A5 x0 x1∧A6 x0 x1∧A7 x0 x1)(k:∀x0 x1,A0 x0 x1→A1 x0 x1→A2 x0 x1→A3 x0 x1→A4 x0 x1→A5 x0 x1→A6 x0 x1→A7 x0 x1→G):G:=let⟨x0,x1,y⟩:=h;k x0 x1 y.1 y.2.1 y.2.2.1 y.2.2.2.1 y.2.2.2.2.1 y.2.2.2.2.2.1 y.2.2.2.2.2.2.1 y.2.2.2.2.2.2.2
theorem J10_3{α0:Sort _}{α1:Sort _}{α2:Sort _}{A0 A1 A2 A3 A4 A5 A6:α0→α1→α2→Prop}{G:Prop}(h:∃x0 x1 x2,A0 x0 x1 x2∧A1 x0 x1 x2∧A2 x0 x1 x2∧A3 x0 x1 x2∧A4 x0 x1 x2∧A5 x0 x1 x2∧A6 x0 x1 x2)(k:∀x0 x1 x2,A0 x0 x1 x2→A1 x0 x1 x2→A2 x0 x1 x2→A3 x0 x1 x2→A4 x0 x1 x2→A5 x0 x1 x2→A6 x0 x1 x2→G):G:=let⟨x0,x1,x2,y⟩:=h;k x0 x1 x2 y.1 y.2.1 y.2.2.1 y.2.2.2.1 y.2.2.2.2.1 y.2.2.2.2.2.1 y.2.2.2.2.2.2
theorem J10_4{α0:Sort _}{α1:Sort _}{α2:Sort _}{α3:Sort _}{A0 A1 A2 A3 A4 A5:α0→α1→α2→α3→Prop}{G:Prop}(h:∃x0 x1 x2 x3,A0 x0 x1 x2 x3∧A1 x0 x1 x2 x3∧A2 x0 x1 x2 x3∧A3 x0 x1 x2 x3∧A4 x0 x1 x2 x3∧A5 x0 x1 x2 x3)(k:∀x0 x1 x2 x3,A0 x0 x1 x2 x3→A1 x0 x1 x2 x3→A2 x0 x1 x2 x3→A3 x0 x1 x2 x3→A4 x0 x1 x2 x3→A5 x0 x1 x2 x3→G):G:=let⟨x0,x1,x2,x3,y⟩:=h;k x0 x1 x2 x3 y.1 y.2.1 y.2.2.1 y.2.2.2.1 y.2.2.2.2.1 y.2.2.2.2.2
theorem J10_5{α0:Sort _}{α1:Sort _}{α2:Sort _}{α3:Sort _}{α4:Sort _}{A0 A1 A2 A3 A4:α0→α1→α2→α3→α4→Prop}{G:Prop}(h:∃x0 x1 x2 x3 x4,A0 x0 x1 x2 x3 x4∧A1 x0 x1 x2 x3 x4∧A2 x0 x1 x2 x3 x4∧A3 x0 x1 x2 x3 x4∧A4 x0 x1 x2 x3 x4)(k:∀x0 x1 x2 x3 x4,A0 x0 x1 x2 x3 x4→A1 x0 x1 x2 x3 x4→A2 x0 x1 x2 x3 x4→A3 x0 x1 x2 x3 x4→A4 x0 x1 x2 x3 x4→G):G:=let⟨x0,x1,x2,x3,x4,y⟩:=h;k x0 x1 x2 x3 x4 y.1 y.2.1 y.2.2.1 y.2.2.2.1 y.2.2.2.2
theorem J10_6{α0:Sort _}{α1:Sort _}{α2:Sort _}{α3:Sort _}{α4:Sort _}{α5:Sort _}{A0 A1 A2 A3:α0→α1→α2→α3→α4→α5→Prop}{G:Prop}(h:∃x0 x1 x2 x3 x4 x5,A0 x0 x1 x2 x3 x4 x5∧A1 x0 x1 x2 x3 x4 x5∧A2 x0 x1 x2 x3 x4 x5∧A3 x0 x1 x2 x3 x4 x5)(k:∀x0 x1 x2 x3 x4 x5,A0 x0 x1 x2 x3 x4 x5→A1 x0 x1 x2 x3 x4 x5→A2 x0 x1 x2 x3 x4 x5→A3 x0 x1 x2 x3 x4 x5→G):G:=let⟨x0,x1,x2,x3,x4,x5,y⟩:=h;k x0 x1 x2 x3 x4 x5 y.1 y.2.1 y.2.2.1 y.2.2.2
theorem J11_0{A0 A1 A2 A3 A4 A5 A6 A7 A8 A9 A10:Prop}{G:Prop}(h:A0∧A1∧A2∧A3∧A4∧A5∧A6∧A7∧A8∧A9∧A10)(k:A0→A1→A2→A3→A4→A5→A6→A7→A8→A9→A10→G):G:=k h.1 h.2.1 h.2.2.1 h.2.2.2.1 h.2.2.2.2.1 h.2.2.2.2.2.1 h.2.2.2.2.2.2.1 h.2.2.2.2.2.2.2.1 h.2.2.2.2.2.2.2.2.1 h.2.2.2.2.2.2.2.2.2.1 h.2.2.2.2.2.2.2.2.2.2
theorem J11_1{α0:Sort _}{A0 A1 A2 A3 A4 A5 A6 A7 A8 A9:α0→Prop}{G:Prop}(h:∃x0,A0 x0∧A1 x0∧A2 x0∧A3 x0∧A4 x0∧A5 x0∧A6 x0∧A7 x0∧A8 x0∧A9 x0)(k:∀x0,A0 x0→A1 x0→A2 x0→A3 x0→A4 x0→A5 x0→A6 x0→A7 x0→A8 x0→A9 x0→G):G:=let⟨x0,y⟩:=h;k x0 y.1 y.2.1 y.2.2.1 y.2.2.2.1 y.2.2.2.2.1 y.2.2.2.2.2.1 y.2.2.2.2.2.2.1 y.2.2.2.2.2.2.2.1 y.2.2.2.2.2.2.2.2.1 y.2.2.2.2.2.2.2.2.2
theorem J11_2{α0:Sort _}{α1:Sort _}{A0 A1 A2 A3 A4 A5 A6 A7 A8:α0→α1→Prop}{G:Prop}(h:∃x0 x1,A0 x0 x1∧A1 x0 x1∧A2 x0 x1∧A3 x0 x1∧A4 x0 x1∧A5 x0 x1∧A6 x0 x1∧A7 x0 x1∧A8 x0 x1)(k:∀x0 x1,A0 x0 x1→A1 x0 x1→A2 x0 x1→A3 x0 x1→A4 x0 x1→A5 x0 x1→A6 x0 x1→A7 x0 x1→A8 x0 x1→G):G:=let⟨x0,x1,y⟩:=h;k x0 x1 y.1 y.2.1 y.2.2.1 y.2.2.2.1 y.2.2.2.2.1 y.2.2.2.2.2.1 y.2.2.2.2.2.2.1 y.2.2.2.2.2.2.2.1 y.2.2.2.2.2.2.2.2
theorem J11_3{α0:Sort _}{α1:Sort _}{α2:Sort _}{A0 A1 A2 A3 A4 A5 A6 A7:α0→α1→α2→Prop}{G:Prop}(h:∃x0 x1 x2,A0 x0 x1 x2∧A1 x0 x1 x2∧A2 x0 x1 x2∧A3 x0 x1 x2∧A4 x0 x1 x2∧A5 x0 x1 x2∧A6 x0 x1 x2∧A7 x0 x1 x2)(k:∀x0 x1 x2,A0 x0 x1 x2→A1 x0 x1 x2→A2 x0 x1 x2→A3 x0 x1 x2→A4 x0 x1 x2→A5 x0 x1 x2→A6 x0 x1 x2→A7 x0 x1 x2→G):G:=let⟨x0,x1,x2,y⟩:=h;k x0 x1 x2 y.1 y.2.1 y.2.2.1 y.2.2.2.1 y.2.2.2.2.1 y.2.2.2.2.2.1 y.2.2.2.2.2.2.1 y.2.2.2.2.2.2.2
theorem J11_4{α0:Sort _}{α1:Sort _}{α2:Sort _}{α3:Sort _}{A0 A1 A2 A3 A4 A5 A6:α0→α1→α2→α3→Prop}{G:Prop}(h:∃x0 x1 x2 x3,A0 x0 x1 x2 x3∧A1 x0 x1 x2 x3∧A2 x0 x1 x2 x3∧A3 x0 x1 x2 x3∧A4 x0 x1 x2 x3∧A5 x0 x1 x2 x3∧A6 x0 x1 x2 x3)(k:∀x0 x1 x2 x3,A0 x0 x1 x2 x3→A1 x0 x1 x2 x3→A2 x0 x1 x2 x3→A3 x0 x1 x2 x3→A4 x0 x1 x2 x3→A5 x0 x1 x2 x3→A6 x0 x1 x2 x3→G):G:=let⟨x0,x1,x2,x3,y⟩:=h;k x0 x1 x2 x3 y.1 y.2.1 y.2.2.1 y.2.2.2.1 y.2.2.2.2.1 y.2.2.2.2.2.1 y.2.2.2.2.2.2
theorem J11_5{α0:Sort _}{α1:Sort _}{α2:Sort _}{α3:Sort _}{α4:Sort _}{A0 A1 A2 A3 A4 A5:α0→α1→α2→α3→α4→Prop}{G:Prop}(h:∃x0 x1 x2 x3 x4,A0 x0 x1 x2 x3 x4∧A1 x0 x1 x2 x3 x4∧A2 x0 x1 x2 x3 x4∧A3 x0 x1 x2 x3 x4∧A4 x0 x1 x2 x3 x4∧A5 x0 x1 x2 x3 x4)(k:∀x0 x1 x2 x3 x4,A0 x0 x1 x2 x3 x4→A1 x0 x1 x2 x3 x4→A2 x0 x1 x2 x3 x4→A3 x0 x1 x2 x3 x4→A4 x0 x1 x2 x3 x4→A5 x0 x1 x2 x3 x4→G):G:=let⟨x0,x1,x2,x3,x4,y⟩:=h;k x0 x1 x2 x3 x4 y.1 y.2.1 y.2.2.1 y.2.2.2.1 y.2.2.2.2.1 y.2.2.2.2.2
theorem J11_6{α0:Sort _}{α1:Sort _}{α2:Sort _}{α3:Sort _}{α4:Sort _}{α5:Sort _}{A0 A1 A2 A3 A4:α0→α1→α2→α3→α4→α5→Prop}{G:Prop}(h:∃x0 x1 x2 x3 x4 x5,A0 x0 x1 x2 x3 x4 x5∧A1 x0 x1 x2 x3 x4 x5∧A2 x0 x1 x2 x3 x4 x5∧A3 x0 x1 x2 x3 x4 x5∧A4 x0 x1 x2 x3 x4 x5)(k:∀x0 x1 x2 x3 x4 x5,A0 x0 x1 x2 x3 x4 x5→A1 x0 x1 x2 x3 x4 x5→A2 x0 x1 x2 x3 x4 x5→A3 x0 x1 x2 x3 x4 x5→A4 x0 x1 x2 x3 x4 x5→G):G:=let⟨x0,x1,x2,x3,x4,x5,y⟩:=h;k x0 x1 x2 x3 x4 x5 y.1 y.2.1 y.2.2.1 y.2.2.2.1 y.2.2.2.2
theorem J12_0{A0 A1 A2 A3 A4 A5 A6 A7 A8 A9 A10 A11:Prop}{G:Prop}(h:A0∧A1∧A2∧A3∧A4∧A5∧A6∧A7∧A8∧A9∧A10∧A11)(k:A0→A1→A2→A3→A4→A5→A6→A7→A8→A9→A10→A11→G):G:=k h.1 h.2.1 h.2.2.1 h.2.2.2.1 h.2.2.2.2.1 h.2.2.2.2.2.1 h.2.2.2.2.2.2.1 h.2.2.2.2.2.2.2.1 h.2.2.2.2.2.2.2.2.1 h.2.2.2.2.2.2.2.2.2.1 h.2.2.2.2.2.2.2.2.2.2.1 h.2.2.2.2.2.2.2.2.2.2.2
theorem J12_1{α0:Sort _}{A0 A1 A2 A3 A4 A5 A6 A7 A8 A9 A10:α0→Prop}{G:Prop}(h:∃x0,A0 x0∧A1 x0∧A2 x0∧A3 x0∧A4 x0∧A5 x0∧A6 x0∧A7 x0∧A8 x0∧A9 x0∧A10 x0)(k:∀x0,A0 x0→A1 x0→A2 x0→A3 x0→A4 x0→A5 x0→A6 x0→A7 x0→A8 x0→A9 x0→A10 x0→G):G:=let⟨x0,y⟩:=h;k x0 y.1 y.2.1 y.2.2.1 y.2.2.2.1 y.2.2.2.2.1 y.2.2.2.2.2.1 y.2.2.2.2.2.2.1 y.2.2.2.2.2.2.2.1 y.2.2.2.2.2.2.2.2.1 y.2.2.2.2.2.2.2.2.2.1 y.2.2.2.2.2.2.2.2.2.2
theorem J12_2{α0:Sort _}{α1:Sort _}{A0 A1 A2 A3 A4 A5 A6 A7 A8 A9:α0→α1→Prop}{G:Prop}(h:∃x0 x1,A0 x0 x1∧A1 x0 x1∧A2 x0 x1∧A3 x0 x1∧A4 x0 x1∧A5 x0 x1∧A6 x0 x1∧A7 x0 x1∧A8 x0 x1∧A9 x0 x1)(k:∀x0 x1,A0 x0 x1→A1 x0 x1→A2 x0 x1→A3 x0 x1→A4 x0 x1→A5 x0 x1→A6 x0 x1→A7 x0 x1→A8 x0 x1→A9 x0 x1→G):G:=let⟨x0,x1,y⟩:=h;k x0 x1 y.1 y.2.1 y.2.2.1 y.2.2.2.1 y.2.2.2.2.1 y.2.2.2.2.2.1 y.2.2.2.2.2.2.1 y.2.2.2.2.2.2.2.1 y.2.2.2.2.2.2.2.2.1 y.2.2.2.2.2.2.2.2.2
theorem J12_3{α0:Sort _}{α1:Sort _}{α2:Sort _}{A0 A1 A2 A3 A4 A5 A6 A7 A8:α0→α1→α2→Prop}{G:Prop}(h:∃x0 x1 x2,A0 x0 x1 x2∧A1 x0 x1 x2∧A2 x0 x1 x2∧A3 x0 x1 x2∧A4 x0 x1 x2∧A5 x0 x1 x2∧A6 x0 x1 x2∧A7 x0 x1 x2∧A8 x0 x1 x2)(k:∀x0 x1 x2,A0 x0 x1 x2→A1 x0 x1 x2→A2 x0 x1 x2→A3 x0 x1 x2→A4 x0 x1 x2→A5 x0 x1 x2→A6 x0 x1 x2→A7 x0 x1 x2→A8 x0 x1 x2→G):G:=let⟨x0,x1,x2,y⟩:=h;k x0 x1 x2 y.1 y.2.1 y.2.2.1 y.2.2.2.1 y.2.2.2.2.1 y.2.2.2.2.2.1 y.2.2.2.2.2.2.1 y.2.2.2.2.2.2.2.1 y.2.2.2.2.2.2.2.2
theorem J12_4{α0:Sort _}{α1:Sort _}{α2:Sort _}{α3:Sort _}{A0 A1 A2 A3 A4 A5 A6 A7:α0→α1→α2→α3→Prop}{G:Prop}(h:∃x0 x1 x2 x3,A0 x0 x1 x2 x3∧A1 x0 x1 x2 x3∧A2 x0 x1 x2 x3∧A3 x0 x1 x2 x3∧A4 x0 x1 x2 x3∧A5 x0 x1 x2 x3∧A6 x0 x1 x2 x3∧A7 x0 x1 x2 x3)(k:∀x0 x1 x2 x3,A0 x0 x1 x2 x3→A1 x0 x1 x2 x3→A2 x0 x1 x2 x3→A3 x0 x1 x2 x3→A4 x0 x1 x2 x3→A5 x0 x1 x2 x3→A6 x0 x1 x2 x3→A7 x0 x1 x2 x3→G):G:=let⟨x0,x1,x2,x3,y⟩:=h;k x0 x1 x2 x3 y.1 y.2.1 y.2.2.1 y.2.2.2.1 y.2.2.2.2.1 y.2.2.2.2.2.1 y.2.2.2.2.2.2.1 y.2.2.2.2.2.2.2
theorem J12_5{α0:Sort _}{α1:Sort _}{α2:Sort _}{α3:Sort _}{α4:Sort _}{A0 A1 A2 A3 A4 A5 A6:α0→α1→α2→α3→α4→Prop}{G:Prop}(h:∃x0 x1 x2 x3 x4,A0 x0 x1 x2 x3 x4∧A1 x0 x1 x2 x3 x4∧A2 x0 x1 x2 x3 x4∧A3 x0 x1 x2 x3 x4∧A4 x0 x1 x2 x3 x4∧A5 x0 x1 x2 x3 x4∧A6 x0 x1 x2 x3 x4)(k:∀x0 x1 x2 x3 x4,A0 x0 x1 x2 x3 x4→A1 x0 x1 x2 x3 x4→A2 x0 x1 x2 x3 x4→A3 x0 x1 x2 x3 x4→A4 x0 x1 x2 x3 x4→A5 x0 x1 x2 x3 x4→A6 x0 x1 x2 x3 x4→G):G:=let⟨x0,x1,x2,x3,x4,y⟩:=h;k x0 x1 x2 x3 x4 y.1 y.2.1 y.2.2.1 y.2.2.2.1 y.2.2.2.2.1 y.2.2.2.2.2.1 y.2.2.2.2.2.2
theorem J12_6{α0:Sort _}{α1:Sort _}{α2:Sort _}{α3:Sort _}{α4:Sort _}{α5:Sort _}{A0 A1 A2 A3 A4 A5:α0→α1→α2→α3→α4→α5→Prop}{G:Prop}(h:∃x0 x1 x2 x3 x4 x5,A0 x0 x1 x2 x3 x4 x5∧A1 x0 x1 x2 x3 x4 x5∧A2 x0 x1 x2 x3 x4 x5∧A3 x0 x1 x2 x3 x4 x5∧A4 x0 x1 x2 x3 x4 x5∧A5 x0 x1 x2 x3 x4 x5)(k:∀x0 x1 x2 x3 x4 x5,A0 x0 x1 x2 x3 x4 x5→A1 x0 x1 x2 x3 x4 x5→A2 x0 x1 x2 x3 x4 x5→A3 x0 x1 x2 x3 x4 x5→A4 x0 x1 x2 x3 x4 x5→A5 x0 x1 x2 x3 x4 x5→G):G:=let⟨x0,x1,x2,x3,x4,x5,y⟩:=h;k x0 x1 x2 x3 x4 x5 y.1 y.2.1 y.2.2.1 y.2.2.2.1 y.2.2.2.2.1 y.2.2.2.2.2
local macro_rules|`(tactic|let $p:term:=$e)=>if p.raw.isIdent then Lean.Macro.throwUnsupported else do
  let q←cvP 99 p
  let ls:Array Lean.Syntax:=match p with
    |`(#[$a,*])=>a.getElems.map (·.raw)
    |`(($a,$b,*))=>(#[a.raw]:Array Lean.Syntax)++b.getElems.map (·.raw)
    |_=>#[]
  let n:=ls.size
  if n<2||n>12||ls.any (λx=>x.isIdent&&x.getId==`rfl) then `(tactic|obtain $q:rcasesPat:=$e) else do
  let mut ns:Array (Lean.TSyntax `term):=#[]
  let mut post:Array (Lean.TSyntax `tactic):=#[]
  for x in ls do
    let w:Lean.TSyntax `term:=⟨x⟩
    if (x.isIdent&&!(x.getId==`rfl))||x.isOfKind ``Lean.Parser.Term.hole then ns:=ns.push w
    else
      let i:=Lean.mkIdent (Lean.Name.mkSimple s!"tt{ns.size}")
      ns:=ns.push i
      let r←cvP 99 w
      post:=post.push (←`(tactic|obtain $r:rcasesPat:=$i:term))
  let tz:=Lean.mkIdent (Lean.Name.mkSimple "tz")
  let e2:Lean.TSyntax `term:=if e.raw.isIdent then tz else e
  if e.raw.isIdent then post:=#[←`(tactic|try clear $tz)]++post
  let mut alts:Array (Lean.TSyntax ``Lean.Parser.Tactic.tacticSeq):=#[]
  for k in [0:min n (6+1)] do
    let f:=Lean.mkIdent (Lean.Name.mkSimple s!"J{n}_{k}")
    alts:=alts.push (←`(tacticSeq|refine $f $e2 (fun $ns* => ?_)))
  if e.raw.isIdent then
   let j:Lean.Ident:=⟨e.raw⟩
   `(tactic|first|(revert $j;intro $tz:ident;(first $[|$alts]*);$[$post]*)|obtain $q:rcasesPat:=$e)
  else `(tactic|first|((first $[|$alts]*);$[$post]*)|obtain $q:rcasesPat:=$e)
local macro_rules|`(def $i:declId $s:optDeclSig $v:declVal)=>if v.raw[1].isOfKind ``Lean.Parser.Term.byTactic then `(theorem $i:declId $(⟨Lean.mkNode ``Lean.Parser.Command.declSig #[s.raw[0],s.raw[1][0]]⟩):declSig $v:declVal) else `(noncomputable def $i:declId $s:optDeclSig $v:declVal)|`(abbrev $i:declId $s:optDeclSig $v:declVal)=>`(noncomputable abbrev $i:declId $s:optDeclSig $v:declVal)
local macro_rules|`(tactic|ext)=>`(tactic|decide)
local macro_rules|`(tactic|ext)=>`(tactic|omega)
local macro_rules|`(tactic|ext)=>`(tactic|lia)
local macro_rules|`(tactic|show $e)=>`(tactic|refine $e)
local macro_rules|`(tactic|ext $i:ident)=>`(tactic|cases $i:ident)
local macro_rules|`(tactic|ext $i:ident)=>`(tactic|unfold $i:ident)
local macro_rules|`(#[$a,*])=>`(⟨$a,*⟩)|`(#v[$a,*])=>`(List.toArray [$a,*])
local macro_rules|`(())=>`(by ext)
open Option renaming some->cL,none->CL,bind_eq_some_iff->Ue,map_eq_some_iff->Uj,isSome_iff_exists->UD,isSome_map->U6,isNone_iff_eq_none->WL,map_eq_none_iff->Xf,getD_some->X7,map_some->Yi,isSome_some->ZK,map->ZO,getD_none->aal
open PySem renaming wpAny_bind->lD,Value->OK,wpAny_pure->SH,PyData->SR,Shared->SS,Addr->SU,sizeLine->S8,Program->Tg,NameKind->Tq,Expr->Ts,Around->Tv,wpAny_newObj_type->TJ,World->TN,mainGlobals->T3,starEach->Ua,bootBuiltins->Uc,wpAny_holding->UA,wpAny_call_entry->UB,sysModules->UE,wpAny_dictEntries->UH,FuncData->UI,compareOp->UK,wpAny_callSpecial?_slot->UL,DictEntry->UM,binaryOp->U0,builtinLookup_eq_fast->U1,mem_of_lookup->Va,plainId_quiet->Vf,cellsFrom->Vg,wpAny_isInstance->Vh,wpAny_notOrdered_dict->Vi,Scope->Vm,wpAny_truthy_bool->Vo,wpAny_field->Vp,Reads->Vq,Stmt->Vz,wpAny_typeNameOfWhole_valiter->VC,wpAny_typeNameOfWhole_keyiter->VD,wpAny_typeOf->VF,wpAny_passesOwn->VJ,typeLookup_type->VM,codeAny_builtin->VN,wpAny_dictEpoch->VO,ReadsAll->V0,wpAny_setField->V1,noFill_tuple_add->V2,wpAny_typeNameOf_valiter->V8,wpAny_ite_split->Wb,wpAny_Call_Name_kw->Wh,call_meets->Wi,wpAny_tryCatch->Wt,seq_tuple_add->WA,Comprehension->WB,typeIs_int->W3,tupleKind_room_in1->W4,wpAny_seqItems->W5,wpAny_of_eq->Xj,wpAny_letGo->Xk,IsPart->Xn,wpAny_attempt->Xq,Keyword->XD,wpAny_rule->XF,wpAny_inplaceOp_concat->XG,wpAny_execs_nil->XI,wpAny_specialOf->XM,wpAny_updateSeq->XN,wpAny_pyIter_tuple->XQ,wpAny_isOneOf_valiter->XR,wpAny_pyIter_list->X0,wpAny_fieldsOf->X2,swapsWith->X5,BindsTo->X6,Result->Yk,wpAny_getItem_heap->Ym,wpAny_tupleItemsOf->Yn,GenState->Yx,wpAny_sequenceKey->Yy,eqIsQuiet_byValue->YA,sizeLine_eq->Y3,pushCells_keeps->Za,ItemsOf->Zc,wpAny_richCompare_same_room->Zn,Operator->Zt,typeIs_str->Zu,callType_codes->Zv,wpAny_binaryOp_repeat_ref->ZL,evalPart_none->Z3,CmpOp->aah,PassesOwn->aai,codeAny_mono->aav,concat_meets->aaw,wpAny_Assign_Subscript->aay,call_meetsIn->aaz,wpAny_isTrue_Compare1->aa3,isSubtype_tuple_tuple->aa4,wpAny_isOneOf_keyiter->aa6,wpAny_loadName_local->abk,codeAny_call_builtin->abl,wpAny_loadName_cell->abL,wpAny_Name->ab4,wpAny_load->ab6,wpAny_setItem_heap->ab9,call_function_tree->aca,Drawn->acK,Model->acL,slot_list_getitem->acM,OsState->acN,wpAny_Call_method->acO,richCompare_gives->acP,wpAny_pyIter_slot->acQ,wpAny_pyHash_int->adh,wpAny_pyHash_str->adi,wpAny_execs_cons->adj,call->adm,beq_builtin_none->adp,wpAny_forIn_list->adq,kt_code_dict_new->ads,wpAny_Compare1->afd,isSubtype_type->afk,isSubtype_stop->afl,intBits_le_64->agV,call_list_seq->agW,wpAny_in_heap->agX,wpAny_handled->agY,wpAny_newList->ag0
open PySem.W renaming Frag->Bn,nsIn->UC,findIn->UW,keepIn->Vl,fnOf->VL,kia_one->VY,cellsFrom_some->V3,isFn->W0,codeIn->Xm,methodObj->XO,excIn->Yz,pyHash_slot->Zm,hasDictIn->ZH,plainOver->ZI,specialIn->ZJ,plainGet->Z2,instObj->aag,makesIn->aaj,OpenLaw->aam,kitOne->aax,mg_of->aa5
open Bool renaming and_eq_true->Ld,true->SJ,false->SW,false_eq_true->S4,false_ne_true->Td,not_true->UY,or_eq_true->Vy,true_and->VA,not_eq_true'->We,false_and->WJ,noConfusion->Yj,and_false->YK,bne_false->YL,not_false->YM,bne_true->Y4,true_or->Zl,or_false->ab7,false_or->ab8
open List renaming length_map->SI,getElem?_eq_some_iff->SK,length_append->SQ,map_cons->SX,replicate->SY,length_cons->S0,getElem?_map->S3,mem_cons_of_mem->S5,mem_singleton->S6,mem_map->S7,mem_cons_self->Ta,size_toArray->Tb,getElem?_eq_getElem->Tc,mem_of_getElem?->Te,mem_cons->Tf,mem_append->Th,getElem?_append_left->Ti,map_append->Tj,getElem?_append_right->Tr,find?_cons->Tu,mem_append_right->Tw,append_assoc->Tz,append_nil->TC,length_range->TM,length_replicate->TQ,all_eq_true->TR,isEmpty_iff->TU,range->TV,map_nil->TZ,map_map->T1,pairwise_append->T4,length_take->T7,length_singleton->T9,nodup_cons->Uh,lookup_cons->Ui,mem_append_left->Uk,replicate_succ->Ul,mem_filter->Um,drop_eq_getElem_cons->Uo,mem_filterMap->Uq,take_of_length_le->Ur,zip_cons_cons->Us,length_drop->Ut,take_length->Uu,filter_cons->Uv,take_append_drop->Uw,getElem?_set->Ux,length_nil->UG,getElem?_cons_succ->UJ,take_succ_eq_append_getElem->UO,length_reverse->UP,length->UQ,length_set->UR,pairwise_iff_getElem->US,getElem_mem->UU,mem_range->U3,drop_left->U5,reverse_cons->U8,drop_eq_nil_of_le->Vc,pairwise_cons->Vd,getElem?_take_of_lt->Vj,all_cons->Vk,filterMap_cons->Vn,getElem_of_mem->Vr,getElem?_replicate->Vs,getElem?_set_self->Vv,getElem_range->Vw,flatten_cons->VG,find?_isSome->VH,getElem?_set_ne->VQ,getD_eq_getElem?_getD->VR,nodup_nil->VS,reverse_append->VZ,length_eq_zero_iff->V4,ext_getElem?->Wc,nodup_append->Wf,pairwise_map->Wg,mem_iff_getElem?->Wm,getElem?_eq_none->Wn,not_mem_nil->Wq,any_cons->Ws,map_take->Wv,mem_of_mem_take->Wx,getElem?_drop->WK,find?_eq_none->WM,map_drop->WX,getElem?_cons_zero->W7,eraseIdx_cons_succ->W8,map_snd_zip->W9,getElem_map->Xa,append_cancel_left->Xb,map_reverse->Xd,mem_reverse->Xe,mem_flatMap->Xg,foldl->Xi,foldl_cons->Xo,nil_append->Xp,length_filter_le->Xw,perm_append_comm->Xx,take_zero->XA,map_congr_left->XJ,set_cons_zero->XY,take_add_one->X9,getElem_take->Ya,of_mem_zip->Yu,forIn_cons->Yv,nodup_iff_pairwise_ne->YN,mem_of_find?_eq_some->YS,pairwise_singleton->Zf,length_pos_of_mem->Zp,set_append_right->Zw,contains_iff_mem->Zy,filterMap_append->Zz,mem_iff_getElem->ZM,mem_of_mem_drop->ZP,reverse_reverse->ZQ,filter_sublist->Z5,flatten_append->Z6,filterMap_map->aak,set_cons_succ->aan,filterMap_nil->aao,getElem_drop->aaA,foldl_append->aaD,flatMap_cons->aaF,map_fst_zip->aa7,cons_append->aa8,nodup_range->aa9,any_eq_true->aba,drop_length->abb,find?_some->abo,forIn_nil->abM,drop_zero->abN,drop_drop->abO,take_left->abP,take_nil->acb,map_id'->acR,range'->adt,map->ag1,set->ag2
open Nat renaming le_refl->SN,le_trans->S9,lt_of_lt_of_le->To,ne_of_lt->TB,le_of_ble_eq_true->TH,zero_le->TX,lt_irrefl->Ub,le_of_lt->Uy,lt_succ_self->UX,ne_of_gt->UZ,le_of_not_lt->Vu,lt_trans->Vx,add_sub_cancel_left->V7,lt_succ_of_lt->Wj,zero_add->WD,sub_self->WH,lt_of_le_of_lt->WN,mul_le_mul->WO,le_of_succ_le->WW,add_sub_cancel->X3,min_le_right->Yl,min_eq_right->Yo,le_add_right->Yp,min_eq_left->YF,add_assoc->Zb,not_lt_of_lt->abm,succ_mul->adl,le_of_eq->adn,sub_zero->ado,le_succ->aeu
open Array renaming length_toList->Tt,getElem?_toList->T8,toList_append->Ug,perm_iff_toList_perm->VP,toList_push->V9,toList_reverse->Wu,getElem?_eq_some_iff->WG,getElem?_eq_getElem->WQ,getElem?_setIfInBounds_self_of_lt->Xv,isEmpty_iff->X1,getElem?_setIfInBounds_ne->X8,eq_empty_of_size_eq_zero->Yc,isEmpty_eq_false_iff->YC,getElem?_eq_none->Zd,getElem_extract->Zo,forIn_toList->Z4,toList_zip->aaB,toList_map->aaC,all_toList->aaE,size_map->abn,toList->ab5
open Option.some renaming inj->Tx,injEq->Xy
open Int renaming emod_nonneg->TF,emod_lt_of_pos->TL,toNat_natCast->Uz,ediv_nonneg->VB,ediv_one->adk,lt_trans->adw,le_refl->aet
open PyProof.Rows renaming slot_tuple_getitem->TY,envOfC->Ud,callWith_type1->Vt,callWith_builtin1->aes
open PySem.F renaming args_tuple_add_2->UT,entry_tuple_add->U4,slot_tuple_add->Vb,slot_dict_getitem->WE,plainAttrs_dict->WT,slot_dict_values->YB,slot_list_append->YD,type_list_append->YE,slot_dict_get->Y5,slot_dict_pop->Y6,slot_dict_ne->Ze
open List.cons renaming inj->VT,injEq->ZN
open List.Pairwise renaming nil->YJ,imp_of_mem->adx
open Array.Perm renaming refl->Zx,trans->agZ
open PySem.W.Looks renaming ld->adu
open PySem.SeqAt renaming compareEq_reads->afe,compareNe_reads->aff,in_list_reads->afg,in_tuple_reads->afh,notIn_list_reads->afi,notIn_tuple_reads->afj
open PySem.IsL renaming update->aif
open List.Perm renaming append_left->aih,append_right->aii
abbrev W:=@rfl
abbrev G:=@List
abbrev I:=@Option
open Option renaming some->M,none->S
open Bool renaming true->U
open PySem renaming Addr->J,Value->T
namespace L2
open PySem PySem.Spec PyProof.Rows
abbrev bz:=Sum Int Str
def pM:bz->T->Bool
 |.inl k,v=>OK.isInt k v
 |.inr x,v=>OK.isStrOf x v
def QS(w:TN):bz->Int
 |.inl k=>hashInt k
 |.inr x=>hashStr w x
theorem bO:∀{k:bz} {v:T},pM k v=U->(∃i t,k=Sum.inl i/\v=OK.int i t)\/(∃x t,k=Sum.inr x/\v=OK.str x t)
 |.inl i,v,h=>by let(t,e):=OK.isInt_shape h;show .inl #[i,t,W,e]
 |.inr x,v,h=>by let(t,e):=OK.isStrOf_shape h;show .inr #[x,t,W,e]
def zC(i:Int)(t:Tok):pM (.inl i) (.int i t)=U:=by simp[pM,OK.isInt]
def AB(x:Str)(t:Tok):pM (.inr x) (.str x t)=U:=by simp[pM,OK.isStrOf]
def Lw(a b:Int):decide ((Sum.inl a:bz)=Sum.inl b)=(a==b):=by
 by_cases e:a=b
 .subst e;simp
 .let h:¬(Sum.inl a:bz)=Sum.inl b:=λq=>e (Sum.inl.inj q);rw[a7 h];show(beq_eq_false_iff_ne.mpr e).symm
def MR(a b:Str):decide ((Sum.inr a:bz)=Sum.inr b)=decide (a=b):=by
 by_cases e:a=b
 .subst e;simp
 .let h:¬(Sum.inr a:bz)=Sum.inr b:=λq=>e (Sum.inr.inj q);rw[a7 h,a7 e]
theorem Kj(a:Int)(b:Str):decide ((Sum.inl a:bz)=Sum.inr b)=SW:=a7 (λq=>nomatch q)
theorem Lb(a:Str)(b:Int):decide ((Sum.inr a:bz)=Sum.inl b)=SW:=a7 (λq=>nomatch q)
def bU(prog:Tg)(w:TN):PySem.KeyKind prog w bz where
 is:=pM
 hash:=QS w
 inj:=λv a b l f=>by
  rcases bO l with⟨i,t,rfl,rfl⟩|⟨x,t,rfl,rfl⟩
  .rcases bO f with⟨j,u,rfl,e⟩|⟨y,u,rfl,e⟩
   .injection e with e1 _;rw[e1]
   .show nomatch e
  .rcases bO f with⟨j,u,rfl,e⟩|⟨y,u,rfl,e⟩
   .show nomatch e
   .injection e with e1 _;rw[e1]
 byValue:=λk v h=>by rcases bO h with⟨i,t,rfl,rfl⟩|⟨x,t,rfl,rfl⟩<;>rfl
 pyHash:=λd h=>by
  rcases bO d with⟨i,t,rfl,rfl⟩|⟨x,t,rfl,rfl⟩
  .show adh h
  .show adi h
 eqBool:=λg d h=>by
  rcases bO g with⟨i,t,rfl,rfl⟩|⟨x,t,rfl,rfl⟩
  .rcases bO d with⟨j,u,rfl,rfl⟩|⟨y,u,rfl,rfl⟩
   .rw[Lw]at h;show wpAny_eqBool_int h
   .rw[Kj]at h;show SeqAt.EqAt.int_str i t y u _ _ _ _ h
  .rcases bO d with⟨j,u,rfl,rfl⟩|⟨y,u,rfl,rfl⟩
   .rw[Lb]at h;show SeqAt.EqAt.str_int x t j u _ _ _ _ h
   .rw[MR]at h;show wpAny_eqBool_str h
 «strs»:=λk x t v h=>by
  rcases bO h with⟨i,u,rfl,e⟩|⟨y,u,rfl,e⟩
  .show nomatch e
  .injection e with e1 _
   subst e1;ext v<;>rfl
theorem tY(prog:Tg)(w:TN)(i:Int)(t:Tok):(bU prog w).is (.inl i) (.int i t)=U:=zC i t
theorem uO(prog:Tg)(w:TN)(x:Str)(t:Tok):(bU prog w).is (.inr x) (.str x t)=U:=AB x t
inductive V where
 |Wa|bl (b:Bool)|int (i:Int)|str (x:Str)|byt (b:Array UInt8)|flt (b:UInt64)|ref (a:J)|ty (n:String)
 deriving DecidableEq
def RelV:V->T->Prop
 |.Wa,u=>u=OK.none
 |.bl b,u=>u=OK.bool b
 |.int i,u=>∃t,u=OK.int i t
 |.str x,u=>∃t,u=OK.str x t
 |.byt b,u=>∃t,u=OK.bytes b t
 |.flt b,u=>∃t,u=OK.float b t
 |.ref a,u=>u=OK.ref a
 |.ty n,u=>u=OK.type n
abbrev Vals:G V->G T->Prop:=Paired RelV
theorem Vals.length(r:Vals xs us):xs.length=us.length:=Paired.length r
theorem Vals.get:∀{xs:G V} {a:G T} {i:Nat} {x:V},Vals xs a->xs[i]?=M x->∃u,a[i]?=M u/\RelV x u
 |_,_,_,_,.nil,e=>by simp at e
 |_,_,0,_,.cons r _,e=>by simp at e;subst e;show#[_,W,r]
 |_,_,i+1,x,.cons _ t,e=>by let(u,h1,b):=Vals.get t (by simpa using e);show#[u,by simpa using h1,b]
theorem Vals.append:∀{xs ys:G V} {a ws:G T},Vals xs a->Vals ys ws->Vals (xs++ys) (a++ws)
 |_,_,_,_,.nil,s=>s
 |_,_,_,_,.cons r t,s=>.cons r (Vals.append t s)
theorem Vals.take:∀{xs:G V} {a:G T} (n:Nat),Vals xs a->Vals (xs.take n) (a.take n)
 |_,_,0,_=>.nil
 |_,_,_+1,.nil=>.nil
 |_,_,n+1,.cons r t=>.cons r (Vals.take n t)
theorem Vals.drop:∀{xs:G V} {a:G T} (n:Nat),Vals xs a->Vals (xs.drop n) (a.drop n)
 |_,_,0,r=>r
 |_,_,_+1,.nil=>.nil
 |_,_,n+1,.cons _ t=>Vals.drop n t
def Xz:I V->I T->Prop
 |some v,M u=>RelV v u
 |none,S=>True
 |_,_=>False
def KV:G (o×V)->G (o×T)->Prop:=Paired λ(p:o×V) (q:o×T)=>p.1=q.1/\RelV p.2 q.2
def kV:bz->V
 |.inl i=>.int i
 |.inr x=>.str x
inductive HO where
 |lst (xs:G V)
 |tup (xs:G V)
 |dK (kvs:G (bz×V))|dT (kvs:G (G bz×V))
 |set (S:Int->Bool) (n:Nat)
 |ins (C dx:J) (fs:G (Str×V))
 |own (x:J)
 |xd (fs:G (Str×V))
 |met (f x:J)
 |rng (lo hi:Int)
 |frz (o:Obj) (u:HO)
 |tbl (ps:Array T)
 |ext (φ:Heap->Prop)
 |exw (φ:TN->Heap->Prop)
abbrev Hp:=J->I HO
def upd(H:Hp)(a:J)(o:HO):Hp:=λb=>if b=a then M o else H b
def ay:upd H a o a=M o:=by ext upd;rw[ai W]
def av(h:b≠a):upd H a o b=H b:=by ext upd;rw[ak h]
def OL{H:Hp}{a b:J}{o u:HO}(h:H a=M o)(c:H b=M u)(d:o≠u):a≠b:=by intro e;subst e;rw[h]at c;show d (Tx c)
def bR{H:Hp}(h:H a=M o)(c:H b=S):a≠b:=by intro e;subst e;rw[h]at c;ext c
def X4(h:Heap)(a:J)(items:Array T):Prop:=∃o,h.get? a=M o/\(o.cls=.type "tuple"/\∃n,o.data=.seq items n)/\o.dict=S
theorem X4.tup(x:X4 h a items):IsTup h a items:=let#[o,e,c,_]:=x;#[o,e,c]
theorem X4.lt(x:X4 h a items):a<h.objs.size:=let#[_,e,_]:=x;cv e
theorem X4.new(h:Heap)(xs:Array T):X4 (h.push {cls:=.type "tuple",data:=.seq xs}) h.objs.size xs:=#[_,c0 _ W,#[W,_,W],W]
section
variable(P:Tg)(w:TN)
def ObjOk(H:Hp)(h:Heap)(a:J):HO->Prop
 |.lst xs=>xs.length<=S8/\∃(b:G T) (n:Nat),Vals xs b/\h.get? a=M {cls:=.type "list",data:=.seq b.toArray n}
 |.tup xs=>xs.length<=S8/\∃b:G T,Vals xs b/\X4 h a b.toArray
 |.dK e=>e.length<=S8/\(a==UE)=SW/\∃m,KV e m/\h.DictOf (bU P w) a m
 |.dT e=>e.length<=S8/\(a==UE)=SW/\∃xs:G (G bz×J×T),
   Paired (λ(p:G bz×V) (q:G bz×J×T)=>p.1=q.1/\H q.2.1=M (.tup (p.1.map kV))/\RelV p.2 q.2.2) e xs/\
   ∃o es A,h.get? a=M o/\o.ExactDict/\o.data=.dict es A/\es.toList=xs.map (entryOfKey (tupleKind (bU P w)))/\(xs.map (·.1)).Nodup
 |.set d n=>h.SetOf (intKind P w) a d n
 |.ins C l fs=>H l=M (.own a)/\fs.length<=1000/\l≠a/\h.get? a=M (aag C l)/\
   ∃i,h.Ns1 l i/\(∀f,Xz (fs.lookup f) (i f))/\PySem.Within i (fs.map (·.1))
 |.own _=>∃o,h.get? a=M o
 |.xd fs=>∃i,h.Ns1 a i/\∀f,Xz (fs.lookup f) (i f)
 |.rng lo z=>∃t u v,h.get? a=M {cls:=.type "range",data:=.fields #v[.int lo t,.int z u,.int 1 v]}
 |.frz o u=>h.get? a=M o/\ObjOk H h a u
 |.tbl r=>h.get? a=M {cls:=.none,data:=.fields r}
 |.met f x=>h.get? a=M (XO (.ref f) (.ref x))
 |.ext g=>g h/\(∃o,h.get? a=M o)/\∀h1 j:Heap,g h1->(∀o,h1.get? a=M o->j.get? a=M o)->g j
 |.exw g=>g w h/\(∃o,h.get? a=M o)/\∀h1 j:Heap,g w h1->(∀o,h1.get? a=M o->j.get? a=M o)->g w j
def XB(H:Hp)(h:Heap):Prop:=∀a o,H a=M o->ObjOk P w H h a o
end
section
variable{P:Tg}{w:TN}{H Y:Hp}{h Z:Heap}{a:SU}{o:HO}
def ObjOk.lt(x:ObjOk P w H h a o):a<h.objs.size:=by
 cases o with
 |lst xs=>let(_,_,_,_,e):=x;show cv e
 |tup xs=>let(_,_,_,p):=x;show p.lt
 |dK d=>let(_,_,_,_,o,_,_,e,_):=x;show cv e
 |dT d=>let(_,_,_,_,o,_,_,e,_):=x;show cv e
 |set S n=>let(o,_,_,_,e,_):=x;show cv e
 |ins C l fs=>let(_,_,_,e,_):=x;show cv e
 |own y=>let(_,e):=x;show cv e
 |xd fs=>let(_,(_,_,_,e,_),_):=x;show cv e
 |rng lo j=>let(_,_,_,e):=x;show cv e
 |frz b u=>let(e,_):=x;show cv e
 |tbl i=>show cv (show h.get? a=M _ from x)
 |met f y=>show cv (show h.get? a=M _ from x)
 |ext g=>let(_,(_,e),_):=x;show cv e
 |exw g=>let(_,(_,e),_):=x;show cv e
theorem Paired.WU:∀{e:cb α} {c:cb β},Paired F e c->(∀a b,F a b->d a b)->Paired d e c
 |_,_,.nil,_=>.nil
 |_,_,.cons r t,f=>.cons (f _ _ r) (Paired.WU t f)
def ObjOk.Yq(x:ObjOk P w H h a o)(k:∀b u,(b=a\/H b=M (.own a))->h.get? b=M u->Z.get? b=M u)
  (E:∀b,H b=M (.own a)->Y b=M (.own a)) (B:∀b xs,H b=M (.tup xs)->Y b=M (.tup xs)):ObjOk P w Y Z a o:=by
 induction o with
 |lst xs=>let(z,m,n,r,e):=x;show#[z,m,n,r,k _ _ (.inl W) e]
 |tup xs=>let(z,m,r,g,e,c):=x;show#[z,m,r,g,k _ _ (.inl W) e,c]
 |dK K=>let(z,y,O,r,g,es,i,e,c):=x;show#[z,y,O,r,g,es,i,k _ _ (.inl W) e,c]
 |dT K=>let(z,y,xs,r,g,es,i,e,c):=x;show#[z,y,xs,Paired.WU r λp q z=>#[z.1,B _ _ z.2.1,z.2.2],g,es,i,k _ _ (.inl W) e,c]
 |set S n=>let(g,es,i,t,e,c):=x;show#[g,es,i,t,k _ _ (.inl W) e,c]
 |ins C X fs=>let(d,z,ne,e,l,(j,es,i,e2,c),r):=x;show#[E _ d,z,ne,k _ _ (.inl W) e,l,#[j,es,i,k _ _ (.inr d) e2,c],r]
 |own y=>let(g,e):=x;show#[g,k _ _ (.inl W) e]
 |xd fs=>let(l,(j,es,i,e,c),r):=x;show#[l,#[j,es,i,k _ _ (.inl W) e,c],r]
 |rng lo Q=>let(t,u,v,e):=x;show#[t,u,v,k _ _ (.inl W) e]
 |frz g u A=>let(e,q):=x;show#[k _ _ (.inl W) e,A q]
 |tbl L=>let e:h.get? a=M {cls:=.none,data:=.fields L}:=x;show Z.get? a=M {cls:=.none,data:=.fields L};show k a _ (.inl W) e
 |met f y=>let e:h.get? a=M (XO (.ref f) (.ref y)):=x;show Z.get? a=M (XO (.ref f) (.ref y));show k a _ (.inl W) e
 |ext N=>let(p,(o,e),st):=x;show#[st _ _ p λo q=>k _ _ (.inl W) q,#[o,k _ _ (.inl W) e],st]
 |exw N=>let(p,(o,e),st):=x;show#[st _ _ p λo q=>k _ _ (.inl W) q,#[o,k _ _ (.inl W) e],st]
theorem XB.lt(x:XB P w H h)(e:H a=M o):a<h.objs.size:=(x a o e).lt
def XB.fresh(x:XB P w H h)(e:h.objs.size<=a):H a=S:=by
 cases q:H a with
 |none=>rfl
 |some u=>show b9 (To (x.lt q) e) (Ub _)
theorem XB.kept(x:XB P w H h)(k:∀b u,h.get? b=M u->Z.get? b=M u):XB P w H Z:=λa o e=>
 (x a o e).Yq (λb u _ q=>k b u q) (λ_ q=>q) λ_ _ q=>q
theorem XB.laid(x:XB P w H h)(k:∀b u,h.get? b=M u->Z.get? b=M u)(f:h.objs.size<=a)(new:ObjOk P w (upd H a o) Z a o):XB P w (upd H a o) Z:=λb u e=>by
 let g:=x.fresh f;by_cases d:b=a
 .subst d;rw[ay]at e;ext e;show new
 .rw[av d]at e;show(x b u e).Yq (λc v _ q=>k c v q) (λc q=>by rw[av (bR q g)];show q) λc xs q=>by rw[av (bR q g)];show q
end
def Rd(H:Hp)(a:J)(u:HO):Prop:=H a=M u\/∃o,H a=M (.frz o u)
def Rd.ok(r:Rd H a u)(x:XB P w H h):ObjOk P w H h a u:=by
 rcases r with r|⟨o,r⟩
 .show x a u r
 .let(_,q):=x a _ r;show q
def Pm:I HO->Prop
 |some (.lst _)=>True
 |some (.dK _)=>True
 |some (.dT _)=>True
 |some (.set _ _)=>True
 |some (.ins _ _ _)=>True
 |some (.ext _)=>True
 |some (.exw _)=>True
 |_=>False
section
variable{P:Tg}{w:TN}{H:Hp}{h h':Heap}{x e:SU}{Z:HO}
theorem XB.write(ok:XB P w H h)(f:Pm (H x))(n:e=x\/H e=M (.own x))(k:∀b u,b≠e->h.get? b=M u->h'.get? b=M u)(j:∃u,h'.get? e=M u)
  (new:ObjOk P w (upd H x Z) h' x Z):XB P w (upd H x Z) h':=λb u q=>by
 let d:∀c y,H c=M (.own y)->c≠x:=λc y r z=>by subst z;rw[r]at f;show f
 let l:∀c xs,H c=M (.tup xs)->c≠x:=λc xs r z=>by subst z;rw[r]at f;show f
 by_cases i:b=x
 .subst i;rw[ay]at q;ext q;show new
 .rw[av i]at q
  by_cases a:b=e
  .let m:H b=M (.own x):=by
    rcases n with z|z
    .show b9 (a.trans z) i
    .rw[a];show z
   rw[q]at m;ext m;let(v,o):=j;show#[v,by rw[a];show o]
  .show(ok b u q).Yq (λc v g r=>k c v ?_ r) (λc r=>by rw[av (d c b r)];show r) λc xs r=>by rw[av (l c xs r)];show r
   rcases g with rfl|g
   .show a
   .rintro rfl
    rcases n with z|z
    .show d c b g z
    .rw[g]at z;ext z;show i W
end
structure Un(fs ex:G J)(H H':Hp)(h h':Heap):Prop where
 keep:∀b o,h.get? b=M o->H b=S->b∉fs->b∉ex->h'.get? b=M o
 slot:∀b o,h.get? b=M o->H b=S->b∈fs->b∉ex->∃sl,h'.get? b=M {o with slots:=sl}
 free:∀b o,h.get? b=M o->H b=S->b∉ex->H' b=S
 there:∀b o,h.get? b=M o->b∉ex->∃o',h'.get? b=M o'
 YH:∀b xs,H b=M (.tup xs)->H' b=M (.tup xs)
 Yr:∀b o u,H b=M (.frz o u)->H' b=M (.frz o u)
 YI:∀b ps,H b=M (.tbl ps)->∃more,H' b=M (.tbl (ps++more))
section
variable{fs Y Z X:cb SU}{H Q P:Hp}{h h1 O h':Heap}{a x e:SU}{o:HO}
def Un.any(u:Un fs Z H Q h h1)(q:h.get? b=M ob)(n:H b=S)(d:b∉Z):∃c,h1.get? b=M {ob with slots:=c}:=by
 by_cases f:b∈fs
 .show u.slot b ob q n f d
 .show#[ob.slots,u.keep b ob q n f d]
theorem Un.kept(k:∀b u,h.get? b=M u->h'.get? b=M u):Un fs Z H H h h':=
 #[λb d q _ _ _=>k b d q,λb d q _ _ _=>#[d.slots,k b d q],λ_ _ _ n _=>n,λb d q _=>#[d,k b d q],λ_ _ q=>q,λ_ _ _ q=>q,λ_ f q=>#[#v[],by rw[q];simp]]
theorem Un.refl:Un fs Z H H h h:=Un.kept λ_ _ q=>q
theorem Un.laid(k:∀b u,h.get? b=M u->h'.get? b=M u)(d:h.objs.size<=a)(c:H a=S):Un fs Z H (upd H a o) h h' where
 keep:=λb u q _ _ _=>k b u q
 slot:=λb u q _ _ _=>#[u.slots,k b u q]
 free:=λb u q n _=>by rw[av (TB (To (cv q) d))];show n
 there:=λb u q _=>#[u,k b u q]
 YH:=λb xs q=>by rw[av (bR q c)];show q
 Yr:=λb u xs q=>by rw[av (bR q c)];show q
 YI:=λb f q=>#[#v[],by rw[av (bR q c),q];simp]
def Un.write(f:Pm (H x))(l:e=x\/H e=M (.own x))(k:∀b u,b≠e->h.get? b=M u->h'.get? b=M u)(g:∃u,h'.get? e=M u):Un fs Z H (upd H x o) h h':=by
 let i:∀b,H b=S->b≠x:=λb n z=>by subst z;rw[n]at f;show f
 let j:∀b,H b=S->b≠e:=λb n z=>by
  subst z;rcases l with r|r
  .show i b n r
  .rw[n]at r;ext r
 let hm:∀b u,H b=M u->¬Pm (M u)->b≠x:=λb u q nm z=>by subst z;rw[q]at f;show nm f
 show#[λb u q n _ _=>k b u (j b n) q,λb u q n _ _=>#[u.slots,k b u (j b n) q],λb u q n _=>by rw[av (i b n)];show n,λb u q _=>?_,
  λb xs q=>by rw[av (hm b _ q λz=>z)];show q,λb u xs q=>by rw[av (hm b _ q λz=>z)];show q,λb m q=>#[#v[],by rw[av (hm b _ q λz=>z),q];simp]]
 by_cases d:b=e
 .subst d;show g
 .show#[u,k b u d q]
end
def P6(h:Heap)(H:Hp):G J:=(TV h.objs.size).filter λa=>(H a).isSome
def sg(h:Heap)(H:Hp):Heap:=PySem.W.hideAll h (P6 h H)
theorem Ah(h:Heap)(H:Hp):(sg h H).objs.size=h.objs.size:=PySem.W.hideAll_size _ _
theorem A9(e:h.get? b=M o)(n:H b=S):(sg h H).get? b=M o:=
 PySem.W.hideAll_get _ e λhm=>by let q:=(Um.mp hm).2;rw[n]at q;simp at q
def Iq(e:(sg h H).get? b=M o):h.get? b=M o/\H b=S:=by
 let a:=PySem.W.of_hideAll (P6 h H) e;show#[a,?_];cases q:H b with
 |none=>rfl
 |some x=>let hm:b∈P6 h H:=Um.mpr #[U3.mpr (cv a),by simp[q]];let z:(sg h H).get? b=S:=PySem.W.hideAll_none (P6 h H) hm;rw[z]at e;ext e
structure Mod(K:Bn)(mg:Str->I T)(base:Heap):Prop where
 kin:K.In base
 glob:base.Ns T3 mg
 blt:∃mb,base.Ns builtinsNs mb/\∀x:Str,x≠ "__name__"->mb x=Uc x
 nolimit:base.NoLimit
structure Cx where
 prog:Tg
 w:TN
 K:Bn
 mg:Str->I T
 base:Heap
 A:Tv
 N:G Str
 s₀:SS
 H₀:Hp
 env:Env
 outer:G Env
 stack:G Env
 ex:G J
 fn:Str->Bool
 calm:Bool
 pn:G (J×Obj)
 xe:T->SS->Prop
def wb(l:G Env):G J:=l.filterMap (·.frame)
abbrev Cx.fs(X:Cx):G J:=wb X.outer
def Qf(sc:Vm)(x:Str):Prop:=sc.names.lookup x=M .local\/sc.names.lookup x=M .cell\/sc.names.lookup x=M .free
def Kx(sc:Vm)(x:Str):Prop:=sc.names.lookup x=M .local\/sc.names.lookup x=M .cell
def Q9(env:Env)(h:Heap)(m:Str->I T)(x:Str)(u:T):Prop:=
 (env.kindOf x=M .local/\m x=M u)\/((env.kindOf x=M .cell\/env.kindOf x=M .free)/\∃c,env.cells.lookup x=M c/\h.IsCell c (M u))
structure Cx.Ok(X:Cx):Prop where
 mod:Mod X.K X.mg X.base
 kind:X.env.scope.kind=.function
 glob:X.env.globals=T3
 blt:X.env.builtins=builtinsNs
 above:X.s₀.heap.objs.size<=X.env.locals
 inj:∀x y c,X.env.cells.lookup x=M c->X.env.cells.lookup y=M c->x=y
 has:∀x,(X.env.kindOf x=M .cell\/X.env.kindOf x=M .free)->∃c,X.env.cells.lookup x=M c
 cab:∀x c,X.fn x=U->X.env.cells.lookup x=M c->X.s₀.heap.objs.size<=c
 hd:X.calm=U->X.A.handled=S
 frames:X.A.frames=M X.stack
 stk:X.stack=X.outer\/(X.stack=X.env::X.outer/\X.env.frame=M X.env.locals)
 exf:∀b∈X.ex,b≠X.env.locals/\∀x c,X.env.cells.lookup x=M c->c≠b
 bs:∀b o,X.base.get? b=M o->X.s₀.heap.get? b=M o/\X.H₀ b=S
 bsz:X.base.objs.size<=X.s₀.heap.objs.size
 Z8:∀b o,X.base.get? b=M o->b∉X.ex
 aaa:∀b∈X.ex,b∉X.fs
 Ye:X.s₀.heap.FunFrames X.base X.outer
 frf:∀b∈X.fs,X.H₀ b=S
structure Inv(X:Cx)(pins:G (J×Obj))(σ:G (I V))(H:Hp)(s:SS):Prop where
 ok:X.Ok
 os:s.os=X.s₀.os
 bare:AllBare s.gens
 base:Un X.fs X.ex X.H₀ H X.s₀.heap s.heap
 loc:∃m,s.heap.Ns X.env.locals m/\∀(i:Nat) (x:Str) (v:V),X.N[i]?=M x->σ[i]?=M (M v)->Qf X.env.scope x->∃u,RelV v u/\Q9 X.env s.heap m x u
 cell:∀x c,X.env.cells.lookup x=M c->∃v,s.heap.IsCell c v
 free:H X.env.locals=S
 Xs:∀x c,X.env.cells.lookup x=M c->H c=S
 pin:∀p∈X.pn++pins,s.heap.get? p.1=M p.2/\H p.1=S/\p.1≠X.env.locals/\p.1∉X.fs/\∀v,p.2.data≠.cell v
 U9:XB X.prog X.w H s.heap
 len:σ.length=X.N.length
section
variable{X:Cx}{Z:cb (SU×Obj)}{Y:cb (cc V)}{H P:Hp}{s:SS}{h':Heap}
theorem Cx.Ok.agE(ok:X.Ok)(e:X.base.get? b=M o):b∉X.fs:=λa=>by let:=(ok.Ye.mem a).1;rw[e]at this;ext this
theorem Inv.bs(I:Inv X Z Y H s):∀b o,X.base.get? b=M o->s.heap.get? b=M o/\H b=S:=λb o e=>
 #[I.base.keep b o (I.ok.bs b o e).1 (I.ok.bs b o e).2 (I.ok.agE e) (I.ok.Z8 b o e),I.base.free b o (I.ok.bs b o e).1 (I.ok.bs b o e).2 (I.ok.Z8 b o e)]
theorem Inv.bk(I:Inv X Z Y H s):∀b o,X.base.get? b=M o->s.heap.get? b=M o:=λb o e=>(I.bs b o e).1
theorem Inv.mod(I:Inv X Z Y H s):Mod X.K X.mg X.base:=I.ok.mod
theorem Inv.ZW(I:Inv X Z Y H s):X.K.In s.heap:=I.ok.mod.kin.keeps I.bk
theorem Inv.lt(I:Inv X Z Y H s):X.env.locals<s.heap.objs.size:=let#[_,a,_]:=I.loc;a.lt
theorem Inv.sz(I:Inv X Z Y H s):X.s₀.heap.objs.size<=s.heap.objs.size:=S9 I.ok.above (Uy I.lt)
theorem Inv.agM(I:Inv X Z Y H s)(h:s.heap.objs.size<=a):a∉X.fs:=λd=>by let(_,o,b,_):=I.ok.Ye.mem d;show b9 (To (cv b) (S9 I.sz h)) (Ub _)
theorem Inv.cne(I:Inv X Z Y H s):∀x c,X.env.cells.lookup x=M c->c≠X.env.locals:=λx c e z=>by let(v,o,d,f):=I.cell x c e;let(m,(g,es,h,a,b,_),_):=I.loc;rw[z,a]at d;ext d;rw[b]at f;ext f
def Inv.Ye(I:Inv X Z Y H s):s.heap.FunFrames X.base X.outer:=by
 let all:∀(l:G Env),(∀b∈wb l,b∈X.fs)->X.s₀.heap.FunFrames X.base l->s.heap.FunFrames X.base l:=by
  intro l
  induction l with
  |nil=>intro _ _;trivial
  |cons q r h=>intro g m;let(n,(L,o,a,u,j,p),i):=m;let f:=g L (by ext wb;rw[Vn,a];show Ta);let(t,e):=I.base.slot L o j (I.ok.frf L f) f λz=>I.ok.aaa L z f;show#[n,#[L,_,a,u,e,p],h (λb d=>g b (by ext wb;rw[Vn,a];show S5 _ d)) i]
 show all X.outer (λ_ d=>d) I.ok.Ye
def Inv.stack(I:Inv X Z Y H s):s.heap.FunFrames X.base X.stack:=by
 rcases I.ok.stk with e|⟨e,hf⟩
 .rw[e];show I.Ye
 .rw[e];let(m,a,_):=I.loc;show .cons (by rw[I.ok.kind];decide) hf a ?_ I.Ye;show Heap.get?_none_of_le (S9 I.ok.bsz I.ok.above)
theorem Inv.Y0(I:Inv X Z Y H s):∀b∈wb X.stack,b∈X.env.locals::X.fs:=λb a=>by
 rcases I.ok.stk with e|⟨e,hf⟩
 .rw[e]at a;show S5 _ a
 .rw[e]at a;unfold wb at a;rw[Vn,hf]at a;show a
theorem Inv.YT(I:Inv X Z Y H s):∀b∈wb X.stack,H b=S:=λb a=>by
 rcases Tf.mp (I.Y0 b a)with e|a
 .rw[e];show I.free
 .let(_,o,d,_):=I.ok.Ye.mem a;show I.base.free b o d (I.ok.frf b a) λz=>I.ok.aaa b z a
def Inv.step{g':Array Yx}{Q:Nat}{d':acK}{ch:cb SU}(I:Inv X Z Y H s)
  (g:∀b∈ch,(b∈X.ex\/X.s₀.heap.objs.size<=b)/\b≠X.env.locals/\(∀x c,X.env.cells.lookup x=cL c->c≠b)/\∀p∈X.pn++Z,p.1≠b)
  (keep:∀b o,b≠X.env.locals->b∉X.fs->b∉ch->s.heap.get? b=cL o->H b=S->h'.get? b=cL o)
  (slot:∀b o,b≠X.env.locals->b∈X.fs->b∉ch->s.heap.get? b=cL o->H b=S->∃D,h'.get? b=cL {o with slots:=D}) (free:∀b o,b∉ch->s.heap.get? b=cL o->H b=S->P b=S)
  (there:∀b o,b∉ch->s.heap.get? b=cL o->∃w,h'.get? b=cL w)
  (YH:∀b xs,H b=cL (.tup xs)->P b=cL (.tup xs)) (R:∀b o u,H b=cL (.frz o u)->P b=cL (.frz o u)) (YI:∀b y,H b=cL (.tbl y)->∃more,P b=cL (.tbl (y++more)))
  (K:∀m,s.heap.Ns X.env.locals m->h'.Ns X.env.locals m) (U9:XB X.prog X.w P h') (O:AllBare g'):
  Inv X Z Y P {s with heap:=h',gens:=g',drawn:=d',toks:=Q}:=by
 let B:∀b o,X.s₀.heap.get? b=cL o->b≠X.env.locals:=λb o e=>TB (To (cv e) I.ok.above);let j:∀b o,X.s₀.heap.get? b=cL o->b∉X.ex->b∉ch:=λb o e a t=>by
  rcases(g b t).1 with z|z
  .show a z
  .show b9 (To (cv e) z) (Ub _)
 let h:∀x c,X.env.cells.lookup x=cL c->∀v,s.heap.IsCell c v->h'.IsCell c v:=λx c e v #[o,A,E]=>by
  let f:c∉ch:=λz=>(g c z).2.2.1 x c e W;by_cases J:c∈X.fs
  .let(D,q):=slot c o (I.cne x c e) J f A (I.Xs x c e);show#[_,q,E]
  .show#[o,keep c o (I.cne x c e) J f A (I.Xs x c e),E]
 show#[I.ok,I.os,O,#[λb o e n t a=>?_,λb o e n t a=>?_,λb o e n a=>?_,λb o e a=>?_,λb xs e=>YH b xs (I.base.YH b xs e),λb o xs e=>R b o xs (I.base.Yr b o xs e),λb y e=>?_],?_,λx c e=>?_,?_,λx c e=>?_,λp G=>?_,U9,I.len]
 .show keep b o (B b o e) t (j b o e a) (I.base.keep b o e n t a) (I.base.free b o e n a)
 .let(D,e1):=I.base.slot b o e n t a;let(C,e2):=slot b _ (B b o e) t (j b o e a) e1 (I.base.free b o e n a);show#[C,e2]
 .let(w,e1):=I.base.there b o e a;show free b w (j b o e a) e1 (I.base.free b o e n a)
 .let(w,e1):=I.base.there b o e a;show there b w (j b o e a) e1
 .let(M,e1):=I.base.YI b y e;let(L,e2):=YI b _ e1;show#[M++L,by rw[e2,Array.append_assoc]]
 .let(m,hn,N):=I.loc
  show#[m,K m hn,λi x v e1 e2 e3=>?_];let(u,r,l):=N i x v e1 e2 e3;show#[u,r,?_];rcases l with l|⟨k,c,e,z⟩
  .show .inl l
  .show .inr #[k,c,e,h x c e _ z]
 .let(v,z):=I.cell x c e;show#[v,h x c e v z]
 .let(m,(o,_,_,A,_),_):=I.loc;show free _ o (λz=>(g _ z).2.1 W) A I.free
 .let(v,o,A,E):=I.cell x c e;show free c o (λz=>(g c z).2.2.1 x c e W) A (I.Xs x c e)
 .let(e,n,ne,F,d):=I.pin p G;let f:p.1∉ch:=λz=>(g p.1 z).2.2.2 p G W;show#[keep p.1 p.2 ne F f e n,free p.1 p.2 f e n,ne,F,d]
def Inv.un{c:Nat}(I:Inv X Z Y H s)(u:Un X.fs [] H P s.heap h')(U9:XB X.prog X.w P h'):Inv X Z Y P {s with heap:=h',toks:=c}:=by let(m,(o,es,t,h,r),_):=id I.loc;let(l,j):=u.any h I.free (by simp);show I.step (g':=s.gens) (d':=s.drawn) (ch:=[]) (λ_ z=>nomatch z) (λb o _ d _ e n=>u.keep b o e n d (by simp)) (λb o _ d _ e n=>u.slot b o e n d (by simp)) (λb o _ e n=>u.free b o e n (by simp)) (λb o _ e=>u.there b o e (by simp)) u.YH u.Yr u.YI (λq hm=>by let(p,f,g,a,i):=hm;rw[h]at a;ext a;show#[_,f,g,j,i]) U9 I.bare
def Inv.call{g':Array Yx}{t':Nat}{d':acK}{ch:G J}(I:Inv X Z Y H s)(u:Un (wb X.stack) ch H P s.heap h')(U9:XB X.prog X.w P h')(q:AllBare g')
  (f:∀b∈ch,(b∈X.ex\/X.s₀.heap.objs.size<=b)/\b≠X.env.locals/\(∀x c,X.env.cells.lookup x=M c->c≠b)/\∀p∈X.pn++Z,p.1≠b):
  Inv X Z Y P {s with heap:=h',gens:=g',drawn:=d',toks:=t'}:=by
 let(m,(o,es,C,j,r),_):=id I.loc;let(v,g):=u.any j I.free λz=>(f _ z).2.1 W;show I.step (ch:=ch) f (λb o g t a e n=>u.keep b o e n (λz=>(Tf.mp (I.Y0 b z)).elim g t) a) (λb o _ _ a e n=>u.any e n a) (λb o a e n=>u.free b o e n a) (λb o a e=>u.there b o e a) u.YH u.Yr u.YI (λB hm=>by let(A,h,i,d,l):=hm;rw[j]at d;ext d;show#[_,h,i,g,l]) U9 q
def Inv.turned{t':Nat}{it:J}(I:Inv X Z Y H s)(k:∀b o,b≠it->s.heap.get? b=M o->h'.get? b=M o)(t:H it=S)(f:it≠X.env.locals)
  (h1:it∈X.ex\/X.s₀.heap.objs.size<=it) (j:∀x c,X.env.cells.lookup x=M c->c≠it) (i:∀p∈X.pn++Z,p.1≠it):Inv X Z Y H {s with heap:=h',toks:=t'}:=by
 let d:∀b u,H b=M u->b≠it:=λb u e z=>by rw[z,t]at e;ext e
 show I.step (g':=s.gens) (d':=s.drawn) (ch:=[it]) (λb h=>?_) (λb o _ _ a e _=>k b o (λz=>a (by simp[z])) e) (λb o _ _ a e _=>#[o.slots,k b o (λz=>a (by simp[z])) e]) (λ_ _ _ _ n=>n)
  (λb o a e=>#[o,k b o (λz=>a (by simp[z])) e]) (λ_ _ e=>e) (λ_ _ _ e=>e) (λb w e=>#[#v[],by rw[e];simp]) (λm hm=>?_) (λb u e=>?_) I.bare
 .let e:b=it:=by simpa using h
  subst e;show#[h1,f,j,i]
 .let(o,es,l,g,r):=hm;show#[o,es,l,k _ o (dt f) g,r]
 .show(I.U9 b u e).Yq (λc v a q=>k c v ?_ q) (λ_ q=>q) λ_ _ q=>q
  rcases a with z|z
  .rw[z];show d b u e
  .show d c _ z
theorem Inv.tok(I:Inv X Z Y H s)(t:Nat):Inv X Z Y H {s with toks:=t}:=I.un Un.refl I.U9
theorem Inv.kept{t':Nat}(I:Inv X Z Y H s)(k:∀b u,s.heap.get? b=M u->h'.get? b=M u):Inv X Z Y H {s with heap:=h',toks:=t'}:=I.un (Un.kept k) (I.U9.kept k)
theorem Inv.laid{a:J}{o:HO}{t':Nat}(I:Inv X Z Y H s)(k:∀b u,s.heap.get? b=M u->h'.get? b=M u)(d:s.heap.objs.size<=a)(new:ObjOk X.prog X.w (upd H a o) h' a o):
  Inv X Z Y (upd H a o) {s with heap:=h',toks:=t'}:=I.un (Un.laid k d (I.U9.fresh d)) (I.U9.laid k d new)
theorem Inv.write{x e:J}{o:HO}{t':Nat}(I:Inv X Z Y H s)(d:Pm (H x))(f:e=x\/H e=M (.own x))(k:∀b u,b≠e->s.heap.get? b=M u->h'.get? b=M u)(a:∃u,h'.get? e=M u)
  (new:ObjOk X.prog X.w (upd H x o) h' x o):Inv X Z Y (upd H x o) {s with heap:=h',toks:=t'}:=I.un (Un.write d f k a) (I.U9.write d f k a new)
theorem Inv.ZZ(I:Inv X Z Y H s)(h:∀p∈ad0,s.heap.get? p.1=M p.2/\H p.1=S/\p.1≠X.env.locals/\p.1∉X.fs/\∀v,p.2.data≠.cell v):Inv X ad0 Y H s:=
 #[I.ok,I.os,I.bare,I.base,I.loc,I.cell,I.free,I.Xs,λp a=>(Th.mp a).elim (λz=>I.pin p (Uk _ z)) (h p),I.U9,I.len]
def uK{N:G Str}(d:N.Nodup){i j:Nat}(a:N[i]?=M x)(b:N[j]?=M x):i=j:=by let(h1,e1):=SK.mp a;let(e,e2):=SK.mp b;show(List.getElem_inj d).mp (e1.trans e2.symm)
def zF{M:acL}{A:Tv}{E:T->SS->Prop}{i:Nat}{x:Str}{v:V}{u:T}{Q:Unit->SS->Prop}(I:Inv X Z Y H s)(R:X.N.Nodup)(D:X.N[i]?=cL x)(l:Kx X.env.scope x)(r:RelV v u)
  (h:∀F,Inv X Z (Y.set i (cL v)) H F->(∃a,Heap.SameBut a s.heap F.heap/\(a=X.env.locals\/X.env.cells.lookup x=cL a))->Q ⟨⟩ F) (hf:X.fn x=U\/X.env.scope.names.lookup x=cL .local:=by first|show .inl W|show .inr W|assumption):wpAny M A (storeName X.env x u) Q E s:=by
 let(m,hn,hl):=id I.loc;let agj:(X.env.scope.kind==.class||(X.env.scope.kind==.module&&X.env.locals !=X.env.globals))=SW:=by rw[I.ok.kind];rfl
 let w:i<Y.length:=by rw[I.len];show(SK.mp D).1
 let cne:=I.cne;let tracked:∀{a:J} {h':Heap},(∃o,s.heap.get? a=cL o/\H a=S)->Heap.SameBut a s.heap h'->XB X.prog X.w H h':=λ{a h'} ha f b ob e=>by
  let(_,_,L):=ha;show(I.U9 b ob e).Yq (λc N g q=>(f.2 c ?_).trans q) (λ_ q=>q) λ_ _ q=>q;rintro rfl;rcases g with rfl|g
  .rw[L]at e;ext e
  .rw[L]at g;ext g
 rcases l with t|t
 .show wpAny_storeName_local t hn (λh' hn' f=>?_) agj
  let(oL,_,_,hoL,_):=id hn;show h _ #[I.ok,I.os,I.bare,#[λb o e n C l=>?_,λb o e n C l=>?_,I.base.free,λb o e l=>?_,I.base.YH,I.base.Yr,I.base.YI],#[_,hn',λj y v' e1 e2 e3=>?_],λy c e=>?_,I.free,I.Xs,λp hp=>?_,tracked #[oL,hoL,I.free] f,by simpa using I.len] #[_,f,.inl W]
  .show(f.2 b (TB (To (cv e) I.ok.above))).trans (I.base.keep b o e n C l)
  .let(sl,e1):=I.base.slot b o e n C l;show#[sl,(f.2 b (TB (To (cv e) I.ok.above))).trans e1]
  .let(o',e1):=I.base.there b o e l;show#[o',(f.2 b (TB (To (cv e) I.ok.above))).trans e1]
  .by_cases hj:j=i
   .subst hj;rw[D]at e1;ext e1;rw[Vv w]at e2;ext e2;show#[u,r,.inl #[t,by simp]]
   .rw[VQ (dt hj)]at e2
    let(u',r',q):=hl j y v' e1 e2 e3;show#[u',r',?_];rcases q with⟨k,e⟩|⟨k,c,e,z⟩
    .show .inl #[k,?_];let:y≠x:=λe=>hj (uK R e1 (e▸D));simp[this,e]
    .show .inr #[k,c,e,z.sameBut f (cne y c e)]
  .let(N,z):=I.cell y c e;show#[N,z.sameBut f (cne y c e)]
  .let(e,n,ne,nf,d):=I.pin p hp;show#[(f.2 p.1 ne).trans e,n,ne,nf,d]
 .let B:X.fn x=U:=by
   rcases hf with z|z
   .show z
   .rw[z]at t;ext t
  let(c,g):=I.ok.has x (.inl t);let(N,z):=I.cell x c g;show wpAny_storeName_cell I.ok.kind t g z (λh' Y9 f=>?_);let(oc,K,agh):=id z;show h {s with heap:=h'} #[I.ok,I.os,I.bare,#[λb o e n C l=>?_,λb o e n C l=>?_,I.base.free,λb o e l=>?_,I.base.YH,I.base.Yr,I.base.YI],#[m,hn.sameBut f (dt (cne x c g)),λj y v' e1 e2 e3=>?_],λy O e=>?_,I.free,I.Xs,λp hp=>?_,tracked #[oc,K,I.Xs x c g] f,by simpa using I.len] #[c,f,.inr g]
  .show(f.2 b (TB (To (cv e) (I.ok.cab x c B g)))).trans (I.base.keep b o e n C l)
  .let(sl,e1):=I.base.slot b o e n C l;show#[sl,(f.2 b (TB (To (cv e) (I.ok.cab x c B g)))).trans e1]
  .let(o',e1):=I.base.there b o e l;show#[o',(f.2 b (TB (To (cv e) (I.ok.cab x c B g)))).trans e1]
  .by_cases hj:j=i
   .subst hj;rw[D]at e1;ext e1;rw[Vv w]at e2;ext e2;show#[u,r,.inr #[.inl t,c,g,Y9]]
   .rw[VQ (dt hj)]at e2
    let(u',r',q):=hl j y v' e1 e2 e3;show#[u',r',?_];rcases q with q|⟨k,O,e,z'⟩
    .show .inl q
    .show .inr #[k,O,e,z'.sameBut f ?_];rintro rfl;show hj (uK R e1 (I.ok.inj _ _ _ e g▸D))
  .by_cases hcc:O=c
   .subst hcc;show#[_,Y9]
   .let(w2,z2):=I.cell y O e;show#[w2,z2.sameBut f hcc]
  .let(e,n,ne,nf,d):=I.pin p hp;show#[(f.2 p.1 ?_).trans e,n,ne,nf,d];intro q;rw[q,K]at e;let q':oc=p.2:=Tx e;show d N (by rw[<-q'];show agh)
theorem nk{i:Nat}{v:V}{u:T}{Q:Unit->SS->Prop}(I:Inv X Z Y H s)(e:X.N.Nodup)(d:X.N[i]?=cL x)(c:Kx X.env.scope x)(r:RelV v u)
  (h:∀b,Inv X Z (Y.set i (cL v)) H b->Q ⟨⟩ b) (hf:X.fn x=U\/X.env.scope.names.lookup x=cL .local:=by first|show .inl W|show .inr W|assumption):wpAny a A (storeName X.env x u) Q E s:=
 zF I e d c r (λb f _=>h b f) hf
def Inv.abV{a:SS}{ch:G J}(I:Inv X Z Y H s)(g:a.os=s.os)(u:Un (wb X.stack) ch H P s.heap a.heap)(U9:XB X.prog X.w P a.heap)(h:AllBare a.gens)
  (d:∀b∈ch,(b∈X.ex\/X.s₀.heap.objs.size<=b)/\b≠X.env.locals/\(∀x c,X.env.cells.lookup x=M c->c≠b)/\∀p∈X.pn++Z,p.1≠b):Inv X Z Y P a:=by
 let(h',j,l,i,f):=a;let e:f=s.os:=g;subst e;show I.call (g':=j) (t':=i) (d':=l) u U9 h d
end
abbrev XK:=T->I J->Hp->Prop
abbrev St:=G (I V)
abbrev VK:=V->Hp->Prop
abbrev TE:=St->Hp->VK->Prop
abbrev TT:=St->Hp->(Bool->Hp->Prop)->Prop
abbrev TA:=St->Hp->(G V->Hp->Prop)->Prop
structure Ends where
 nx:St->Hp->Prop
 rt:VK
 bk:St->Hp->Prop:=λ_ _=>False
 ct:St->Hp->Prop:=λ_ _=>False
abbrev TS:=Ends->St->Hp->Prop
def EP(X:Cx)(a:G (J×Obj))(b:St)(Q:VK)(u:T)(d:SS):Prop:=∃v e,Inv X a b e d/\RelV v u/\Q v e
def TP(X:Cx)(a:G (J×Obj))(d:St)(Q:Bool->Hp->Prop)(b:Bool)(e:SS):Prop:=∃f,Inv X a d f e/\Q b f
def AP(X:Cx)(a:G (J×Obj))(b:St)(Q:G V->Hp->Prop)(d:G T)(e:SS):Prop:=∃f g,Inv X a b g e/\Vals f d/\Q f g
def SP(X:Cx)(a:G (J×Obj))(D:Ends)(f:Flow)(b:SS):Prop:=
 match f with
 |.next=>∃d e,Inv X a d e b/\D.nx d e
 |.brk=>∃d e,Inv X a d e b/\D.bk d e
 |.cont=>∃d e,Inv X a d e b/\D.ct d e
 |.ret u=>∃v d e,Inv X a d e b/\RelV v u/\D.rt v e
def PE(X:Cx)(e:Ts)(t:TE):Prop:=
 ∀(a:G (J×Obj)) (s:SS) (b:St) (H:Hp) (Q:VK),Inv X a b H s->t b H Q->wpAny (model X.prog X.w) X.A (eval e X.env) (EP X a b Q) X.xe s
def PT(X:Cx)(e:Ts)(t:TT):Prop:=
 ∀(a:G (J×Obj)) (s:SS) (b:St) (H:Hp) (Q:Bool->Hp->Prop),Inv X a b H s->t b H Q->wpAny (model X.prog X.w) X.A (isTrue e X.env (eval e X.env)) (TP X a b Q) X.xe s
def PW(X:Cx)(e:Ts)(t:TT):Prop:=
 ∀(b:Sem T) (a:G (J×Obj)) (s:SS) (d:St) (H:Hp) (Q:Bool->Hp->Prop),Inv X a d H s->t d H Q->wpAny (model X.prog X.w) X.A (isTrue e X.env b) (TP X a d Q) X.xe s
theorem PW.pt(h:PW X e t):PT X e t:=h _
def PA(X:Cx)(es:G Ts)(t:TA):Prop:=
 ∀(pos:Pos) (a:G (J×Obj)) (s:SS) (b:St) (H:Hp) (Q:G V->Hp->Prop),Inv X a b H s->t b H Q->wpAny (model X.prog X.w) X.A (spliced (backTo pos (Ua es X.env))) (AP X a b Q) X.xe s
def PS(X:Cx)(st:Vz)(t:TS):Prop:=
 ∀(a:G (J×Obj)) (s:SS) (b:St) (H:Hp) (D:Ends),Inv X a b H s->t D b H->wpAny (model X.prog X.w) X.A (exec st X.env) (SP X a D) X.xe s
def YV(X:Cx)(st:G Vz)(t:TS):Prop:=
 ∀(a:G (J×Obj)) (s:SS) (b:St) (H:Hp) (D:Ends),Inv X a b H s->t D b H->wpAny (model X.prog X.w) X.A (execs st X.env) (SP X a D) X.xe s
theorem bG{α:Type}{t:Sem α}{Q b:α->SS->Prop}{M:acL}{A:Tv}{E:T->SS->Prop}{s:SS}(h:wpAny M A t Q E s)(d:∀a s,Q a s->b a s):wpAny M A t b E s:=wpAny_mono h d λ_ _ x=>x
section
variable{X:Cx}
def gO(i:Nat):TE:=λa H Q=>∃v,a[i]?=M (M v)/\Q v H
def tC(v:V):TE:=λ_ H Q=>Q v H
def Kg(q:X.N[i]?=M x)(o:Qf X.env.scope x)(hd:(x==("__debug__":Str))=SW:=by decide)(f:(x==("__classdict__":Str))=SW:=by decide):PE X (.Name x pos) (gO i):=by
 intro d s n H Q I h;let(v,e,h):=h;let(m,t,p):=I.loc;let(u,r,l):=p i x v q e o;let b:EP X d n Q u s:=#[v,H,I,r,h];rcases l with⟨a,hm⟩|⟨a,c,g,j⟩
 .show ab4 (abk I.ok.kind a t hm b) hd
 .rcases a with a|a
  .show ab4 (abL I.ok.kind a g j b) hd
  .show ab4 (wpAny_loadName_free I.ok.kind a g j b f) hd
theorem vo{i j pos}:PE X (.Constant (.int i) j pos) (tC (.int i)):=λ_ _ _ H _ I h=>wpAny_Constant_int #[.int i,H,I.tok _,#[_,W],h]
theorem NV{b j pos}:PE X (.Constant (.bool b) j pos) (tC (.bl b)):=λ_ _ _ H _ I h=>Constant_bool #[.bl b,H,I,W,h]
theorem Nb{j pos}:PE X (.Constant .none j pos) (tC .Wa):=λ_ _ _ H _ I h=>Constant_none #[.Wa,H,I,W,h]
theorem Mc{x j pos}:PE X (.Constant (.str x) j pos) (tC (.str x)):=λ_ _ _ H _ I h=>Calls.Constant_str #[.str x,H,I.tok _,#[_,W],h]
def Gl(X:Cx)(x:Str):Prop:=X.env.kindOf x=M .globalImplicit
theorem xH(I:Inv X pins σ H s)(a:Gl X x)(hm:X.mg x=M u)(h:Q u s)
  (hd:(x==("__debug__":Str))=SW:=by decide):wpAny (model X.prog X.w) X.A (eval (.Name x pos) X.env) Q E s:=
 Calls.Name_function_global I.ok.kind a (Calls.loadGlobal_global (by rw[I.ok.glob];show I.mod.glob.keeps I.bk) hm h) hd
def kW(I:Inv X pins σ H s)(b:Gl X x)(hm:X.mg x=S)(a:Uc x=M u)(h:Q u s)
  (c:x≠ "__name__":=by decide) (hd:(x==("__debug__":Str))=SW:=by decide):wpAny (model X.prog X.w) X.A (eval (.Name x pos) X.env) Q E s:=by
 let(e,h1,d):=I.mod.blt;show Calls.Name_function_global I.ok.kind b (Calls.loadGlobal_builtin (by rw[I.ok.glob];show I.mod.glob.keeps I.bk) hm (by rw[I.ok.blt];show h1.keeps I.bk) ((d x c).trans a) h) hd
theorem FH{x:Str}{v:V}{u:T}{pos:Pos}(a:Gl X x)(hm:X.mg x=M u)(r:RelV v u)(hd:(x==("__debug__":Str))=SW:=by decide):PE X (.Name x pos) (tC v):=
 λ_ _ _ H _ I h=>xH I a hm #[v,H,I,r,h] hd
theorem IE(b:Gl X x)(hm:X.mg x=S)(a:Uc x=M u)(r:RelV v u)(c:x≠ "__name__":=by decide)(hd:(x==("__debug__":Str))=SW:=by decide):PE X (.Name x pos) (tC v):=
 λ_ _ _ H _ I h=>kW I b hm a #[v,H,I,r,h] c hd
variable{a b:Ts}{Y Z:TE}{pos:Pos}
def PC(X:Cx)(op:aah)(a b:Ts)(t:TE):Prop:=
 ∀(d:G (J×Obj)) (s:SS) (g:St) (H:Hp) (Q:VK),Inv X d g H s->t g H Q->
  wpAny (model X.prog X.w) X.A (eval a X.env) (λv f=>wpAny (model X.prog X.w) X.A (eval b X.env) (λu e=>wpAny (model X.prog X.w) X.A (UK op v u) (EP X d g Q) X.xe e) X.xe f) X.xe s
def tB(t:TE):TT:=λd H Q=>t d H λx e=>∃c,x=.bl c/\Q c e
theorem nN(h:PC X op a b t)(h1:behindInMarks op b=SW:=by first|show o _ () ()|rfl):PE X (.Compare a [op] [b] pos) t:=λd s e H Q I f=>afd (h d s e H Q I f) h1
def oA(h:PC X op a b t)(h1:behindInMarks op b=SW:=by first|show C _ () ()|rfl):PT X (.Compare a [op] [b] pos) (tB t):=by intro e s f H Q I j;show aa3 (bG (h e s f H _ I j) λv r h1=>bG h1 λu p l=>bG l λc o a=>?_) h1;let(x,n,m,g,i):=a;let(d,rfl,q):=i;ext g;show Vo #[n,m,q]
def KG{e:Ts}{t:TE}(h:PE X e t)(m:∀whole,isTrue e X.env whole=(do let v<-whole;standAt e.pos;holding [v] (truthy v)):=by intro _;rfl):PT X e (tB t):=by intro f s g H Q I l;show isTrue_plain (bG (h f s g H _ I l) λv p #[x,o,n,i,j]=>?_) (m _);let(d,rfl,q):=j;ext i;show Vo #[o,n,q]
variable{T S:TT}{U:cb Ts}
def Lk(t u:TT):TT:=λd H Q=>t d H λc e=>if c=SJ then u d e Q else Q SW e
def QL(t u:TT):TT:=λd H Q=>t d H λc e=>if c=SJ then Q SJ e else u d e Q
def HF(t:TT):TT:=λd H Q=>t d H λc e=>Q (!c) e
def xT(j:PT X a T):PW X (.BoolOp .And [a] pos) T:=by
 intro g d s f H Q I h;show isTrue_and (bG (j d s f H Q I h) λc i e=>?_);cases c with
 |true=>show isTrue_and_nil e
 |false=>show e
def ED(j:PT X a T):PW X (.BoolOp .Or [a] pos) T:=by
 intro g d s f H Q I h;show isTrue_or (bG (j d s f H Q I h) λc i e=>?_);cases c with
 |false=>show isTrue_or_nil e
 |true=>show e
def Eb(m:PT X a T)(k:PW X (.BoolOp .And (b::U) pos) S):PW X (.BoolOp .And (a::b::U) pos) (Lk T S):=by
 intro j d s e H Q I h;show isTrue_and (bG (m d s e H _ I h) λc l a=>?_);let(i,g,f):=a;cases c with
 |true=>show k j d l e i Q g f
 |false=>show#[i,g,f]
def Jk(m:PT X a T)(k:PW X (.BoolOp .Or (b::U) pos) S):PW X (.BoolOp .Or (a::b::U) pos) (QL T S):=by
 intro j d s e H Q I h;show isTrue_or (bG (m d s e H _ I h) λc l a=>?_);let(i,g,f):=a;cases c with
 |true=>show#[i,g,f]
 |false=>show k j d l e i Q g f
def L5(g:PT X a T):PT X (.UnaryOp .Not a pos) (HF T):=by intro d s e H Q I h;show isTrue_not (g d s e H (λc f=>Q (!c) f) I h)
def JC(Y Z:TE):TE:=λd H Q=>Y d H λx e=>∃c,x=.bl c/\if c=SJ then Z d e Q else Q (.bl SW) e
theorem My{op}(h:PE X a t):PE X (.BoolOp op [a] pos) t:=λd s e H Q I f=>BoolOp_one (h d s e H Q I f)
def LC(m:PE X a Y)(k:PE X (.BoolOp .And (b::U) pos) Z):PE X (.BoolOp .And (a::b::U) pos) (JC Y Z):=by
 intro d s f H Q I h;show BoolOp_and (bG (m d s f H _ I h) λv j a=>?_);let(x,i,g,l,e):=a;let(c,rfl,e):=e;ext l;show Vo ?_;cases c with
 |true=>show k d j f i Q g e
 |false=>show#[.bl SW,i,g,W,e]
end
def Xl(K:Bn)(H:Hp)(a:J)(xs:G V):Prop:=
 Rd H a (.lst xs)\/
  ∃(o:Obj) (b:Array T) (n:Nat),K.lookup a=M o/\o.cls=.type "list"/\o.dict=S/\o.data=.seq b n/\b.size<=S8/\Vals xs b.toList
def WY(K:Bn)(H:Hp)(a:J)(xs:G V):Prop:=
 Rd H a (.tup xs)\/
  ∃(o:Obj) (b:Array T) (n:Nat),K.lookup a=M o/\(o.cls=.type "tuple"/\o.dict=S)/\o.data=.seq b n/\b.size<=S8/\Vals xs b.toList
def QT:T->I V
 |.none=>M .Wa
 |.bool b=>M (.bl b)
 |.int i _=>M (.int i)
 |.str x _=>M (.str x)
 |.bytes b _=>M (.byt b)
 |.float b _=>M (.flt b)
 |.ref a=>M (.ref a)
 |.type n=>M (.ty n)
 |_=>S
def RelV.abs(r:RelV x u):QT u=M x:=by
 cases x with
 |Wa=>ext r;rfl
 |bl _=>ext r;rfl
 |int _=>let(t,rfl):=r;rfl
 |str _=>let(t,rfl):=r;rfl
 |byt _=>let(t,rfl):=r;rfl
 |flt _=>let(t,rfl):=r;rfl
 |ref _=>ext r;rfl
 |ty _=>ext r;rfl
theorem RelV.inj(r:RelV x u)(q:RelV y u):x=y:=Tx (r.abs.symm.trans q.abs)
theorem Vals.inj:∀{xs ys:G V} {a:G T},Vals xs a->Vals ys a->xs=ys
 |_,_,_,.nil,.nil=>rfl
 |_,_,_,.cons r t,.cons d b=>by rw[r.inj d,Vals.inj t b]
section
variable{X:Cx}{Z:cb (SU×Obj)}{Y:St}{H:Hp}{s:SS}{a:SU}{xs ys:cb V}
theorem Xl.of{K:Bn}(h:H a=M (.lst xs)):Xl K H a xs:=.inl (.inl h)
theorem WY.of{K:Bn}(h:H a=M (.tup xs)):WY K H a xs:=.inl (.inl h)
def Inv.list(I:Inv X Z Y H s)(h:Xl X.K H a xs):∃b:G T,Vals xs b/\PlainL s.heap a b.toArray/\xs.length<=S8:=by
 rcases h with h|⟨o,b,n,f,g,hd,d,i,r⟩
 .let(z,b,n,r,e):=h.ok I.U9;show#[b,r,#[_,n,e,W,W,W],z]
 .show#[b.toList,r,#[o,n,I.ZW a o f,g,hd,by simpa using d],?_];let e:=r.length;simp only[Tt]at e;ext
def Inv.tuple(I:Inv X Z Y H s)(h:WY X.K H a xs):∃b:G T,Vals xs b/\IsTup s.heap a b.toArray/\xs.length<=S8:=by
 rcases h with h|⟨o,b,n,f,g,d,i,r⟩
 .let(z,b,r,p):=h.ok I.U9;show#[b,r,p.tup,z]
 .show#[b.toList,r,#[o,I.ZW a o f,g.1,n,by simpa using d],?_];let e:=r.length;simp only[Tt]at e;ext
def Inv.acz(I:Inv X Z Y H s)(h:WY X.K H a xs):∃b:G T,Vals xs b/\X4 s.heap a b.toArray/\xs.length<=S8:=by
 rcases h with h|⟨o,b,n,g,d,f,i,r⟩
 .let(z,b,r,p):=h.ok I.U9;show#[b,r,p,z]
 .show#[b.toList,r,#[o,I.ZW a o g,#[d.1,n,by simpa using f],d.2],?_];let e:=r.length;simp only[Tt]at e;ext
def Inv.aa2(I:Inv X Z Y H s)(h:Xl X.K H a xs)(c:Xl X.K H a ys):xs=ys:=by
 let(j,r,(o,n,e,_,_,d),_):=I.list h;let(i,g,(l,m,b,_,_,f),_):=I.list c;rw[e]at b;ext b;rw[d]at f;injection f with d1 _;let:j=i:=by simpa using eh ab5 d1
 subst this;show r.inj g
def Inv.aaf(I:Inv X Z Y H s)(h:WY X.K H a xs)(c:WY X.K H a ys):xs=ys:=by
 let(j,r,(o,e,_,n,d),_):=I.tuple h;let(i,g,(l,b,_,m,f),_):=I.tuple c;rw[e]at b;ext b;rw[d]at f;injection f with d1 _;let:j=i:=by simpa using eh ab5 d1
 subst this;show r.inj g
end
abbrev Cx.XS(X:Cx)(E:T->SS->Prop):Cx:={X with xe:=E}
abbrev Cx.nox(X:Cx):Cx:=X.XS λ_ _=>False
theorem Cx.Ok.XS{X:Cx}(ok:X.Ok)(E:T->SS->Prop):(X.XS E).Ok:=
 #[ok.mod,ok.kind,ok.glob,ok.blt,ok.above,ok.inj,ok.has,ok.cab,ok.hd,ok.frames,ok.stk,ok.exf,ok.bs,ok.bsz,ok.Z8,ok.aaa,ok.Ye,ok.frf]
theorem Cx.Ok.W6{X:Cx}(ok:(X.XS E).Ok):X.Ok:=
 #[ok.mod,ok.kind,ok.glob,ok.blt,ok.above,ok.inj,ok.has,ok.cab,ok.hd,ok.frames,ok.stk,ok.exf,ok.bs,ok.bsz,ok.Z8,ok.aaa,ok.Ye,ok.frf]
section
variable{X:Cx}{Z:cb (SU×Obj)}{Y:St}{H:Hp}{s:SS}{E:OK->SS->Prop}
theorem Inv.XS(I:Inv X Z Y H s)(E:T->SS->Prop):Inv (X.XS E) Z Y H s:=#[I.ok.XS E,I.os,I.bare,I.base,I.loc,I.cell,I.free,I.Xs,I.pin,I.U9,I.len]
theorem Inv.W6(I:Inv (X.XS E) Z Y H s):Inv X Z Y H s:=#[I.ok.W6,I.os,I.bare,I.base,I.loc,I.cell,I.free,I.Xs,I.pin,I.U9,I.len]
def SP.W6(h:SP (X.XS E) Z D f s'):SP X Z D f s':=by
 cases f with
 |next=>let(a,b,I,q):=h;show#[a,b,I.W6,q]
 |brk=>let(a,b,I,q):=h;show#[a,b,I.W6,q]
 |cont=>let(a,b,I,q):=h;show#[a,b,I.W6,q]
 |ret u=>let(v,a,b,I,r,q):=h;show#[v,a,b,I.W6,r,q]
theorem YV.nox{st:G Vz}(h:YV X.nox st t):YV X st t:=λZ s Y H D I a=>
 wpAny_mono (h Z s Y H D (I.XS _) a) (λ_ _ q=>q.W6) λ_ _ z=>False.elim z
end
section
variable{X:Cx}{st:Vz}{Z:cb Vz}{t u:TS}{e:Ts}{Y:TE}{pos:Pos}
def Ew:TS:=λD a H=>D.nx a H
def GD(t u:TS):TS:=λD a H=>t {D with nx:=u D} a H
theorem yg:YV X [] Ew:=λ_ _ a H _ I h=>XI #[a,H,I,h]
def Ds(h1:PS X st t)(i:YV X Z u):YV X (st::Z) (GD t u):=by
 intro a s d H D I h;show adj (bG (h1 a s d H {D with nx:=u D} I h) λf g q=>?_);cases f with
 |next=>let(b,l,j,q):=q;show i a g b l D j q
 |ret v=>show q
 |brk=>show q
 |cont=>show q
def Ha(h1:PS X st t):YV X [st] t:=by
 intro a s b H D I h;show adj (bG (h1 a s b H D I h) λf d q=>?_);cases f with
 |next=>show XI q
 |ret v=>show q
 |brk=>show q
 |cont=>show q
def Inv.quiet{a:G (J×Obj)}{b:St}{H:Hp}{s:SS}(I:Inv X a b H s):interactive X.env=SW:=by simp[interactive,I.ok.kind]
def zc(Y:TE):TS:=λD a H=>Y a H λ_ b=>D.nx a b
def G0(g:PE X e Y)(f:X5 e S pos.line X.env=pure SW:=by rfl):PS X (.Expr e pos) (zc Y):=by intro a s b H D I h;show wpAny_Expr_any (bG (g a s b H _ I h) λv l #[x,j,i,m,d]=>#[b,j,i,d]) I.quiet f
def Gc(Y:TE):TS:=λD a H=>Y a H D.rt
def Lr(g:PE X e Y):PS X (.Return (M e) pos) (Gc Y):=by intro a s b H D I h;show wpAny_Return_some (bG (g a s b H _ I h) λv l #[x,j,i,d,f]=>#[x,b,j,i,d,f])
def HB(c:TT)(t u:TS):TS:=λD a H=>c a H λb d=>if b=U then t D a d else u D a d
def Ol(n:PT X c o)(p:YV X a t)(k:YV X b u):PS X (.If c a b pos) (HB o t u):=by
 intro f s g H D I h;show wpAny_If (bG (n f s g H _ I h) λd i a=>?_);let(m,l,j):=a;cases d with
 |true=>show p f i g m D l j
 |false=>show k f i g m D l j
def Dx:TS:=λ_ _ _=>False
theorem Df:PS X st Dx:=λ_ _ _ _ _ _ h=>h.elim
end
abbrev TG:=V->St->Hp->(St->Hp->Prop)->Prop
abbrev wW:=G V->St->Hp->(St->Hp->Prop)->Prop
def PG(X:Cx)(a:Ts)(t:TG):Prop:=
 ∀(b:G (J×Obj)) (s:SS) (d:St) (H:Hp) (v:V) (u:T) (Q:St->Hp->Prop),Inv X b d H s->RelV v u->t v d H Q->
  wpAny (model X.prog X.w) X.A (assign a X.env u) (λ_ e=>∃f g,Inv X b f g e/\Q f g) X.xe s
def N3(X:Cx)(e:G Ts)(t:wW):Prop:=
 ∀(a:G (J×Obj)) (s:SS) (b:St) (H:Hp) (h:G V) (d:G T) (Q:St->Hp->Prop),Inv X a b H s->Vals h d->t h b H Q->
  wpAny (model X.prog X.w) X.A (assignInOrder ((assignEach e X.env).map (·.2)) d) (λ_ f=>∃g i,Inv X a g i f/\Q g i) X.xe s
abbrev Qs:=V->V->Hp->VK->Prop
def NX(X:Cx)(op:Zt)(t:Qs):Prop:=
 ∀(a:G (J×Obj)) (s:SS) (b:St) (H:Hp) (x y:V) (v u:T) (Q:VK),Inv X a b H s->RelV x v->RelV y u->t x y H Q->
  wpAny (model X.prog X.w) X.A (inplaceOp op v u) (EP X a b Q) X.xe s
section
variable{X:Cx}{pos:Pos}
def kj(i:Nat):TG:=λv a H Q=>Q (a.set i (M v)) H
def y6(c:X.N.Nodup)(b:X.N[i]?=M x)(a:Kx X.env.scope x)(hf:X.fn x=U\/X.env.scope.names.lookup x=M .local:=by first|show .inl W|show .inr W|assumption):PG X (.Name x pos) (kj i):=by intro pins s σ H v u Q I r h;show wpAny_assign_Name (nk I c b a r (λe d=>#[_,H,d,h]) hf)
def Ik:wW:=λb a H Q=>b=[]/\Q a H
def yO(t:TG)(u:wW):wW:=λe b H Q=>∃v r,e=v::r/\t v b H λa d=>u r a d Q
def FD:N3 X [] Ik:=by intro a s b H f d Q I r h;let(e,h):=h;subst e;ext r;show assignInOrder_nil #[b,H,I,h]
def DD(h1:PG X e t)(l:N3 X es u)
  (j:(assignEach (e::es) X.env).map (·.2)=assign e X.env::(assignEach es X.env).map (·.2):=by rfl):N3 X (e::es) (yO t u):=by
 intro a s d H q p Q I r h;let(v,o,e1,h):=h;subst e1;cases r with
 |cons r g=>rw[j];show assignInOrder_cons (bG (h1 a s d H _ _ _ I r h) λ_ f a=>?_);let(b,n,m,i):=a;show l a f b n _ _ Q m g i
def Gn(K:Bn)(n:Nat)(t:wW):TG:=λv b H Q=>∃a xs,v=.ref a/\WY K H a xs/\xs.length=n/\t xs b H Q
def Kd(p:X.calm=U)(h:N3 X es t)
  (c:(assignEach es X.env).length=n:=by rfl) (q:(assignEach es X.env).findIdx? (·.1)=S:=by rfl):PG X (.Tuple es k pos) (Gn X.K n t):=by
 intro d s g H v u Q I r f;let(a,xs,e1,l,m,f):=f;subst e1;ext r;let(B,C,j,z):=I.tuple l;show assign_Tuple_tuple (I.ok.hd p) j (by simp[c,<-m,C.length]) q λA i=>?_;let w:=I.kept (t':=s.toks) λb o e=>i b o (TB (cv e)) e;show h d _ g H xs _ Q w (by simpa using C) f
def AE(c:TE)(g:TG):TS:=λD a H=>c a H λx b=>g x a b D.nx
def KA(n:PE X e te)(m:PG X C g)(l:swapsWithSole [C] e pos.line X.env=pure SW:=by rfl)(j:swappedStores [C] e X.env=pure S:=by rfl)
  (h1:(assignEach [C] X.env).map (·.2)=[assign C X.env]:=by rfl):PS X (.Assign [C] e pos) (AE te g):=by
 intro a s b H D I h;show wpAny_Assign_stores (bG (n a s b H _ I h) λv d a=>?_) l j;let(x,p,o,f,i):=a;rw[h1];show bG (m a d b p x v _ o f i) λ_ r q=>q
def M6{i:Nat}{x:Str}{e:Ts}{a:TE}{pos':Pos}(j:X.N.Nodup)(g:X.N[i]?=M x)(c:Kx X.env.scope x)(he:PE X e a)(f:X5 e (M (.Name x pos')) pos.line X.env=pure SW:=by rfl)(hf:X.fn x=U\/X.env.scope.names.lookup x=M .local:=by first|show .inl W|show .inr W|assumption):
  PS X (.Assign [.Name x pos'] e pos) (AE a (kj i)):=by
 intro pins s σ H D I h;show wpAny_Assign_Name (bG (he pins s σ H _ I h) λv s1 a=>?_) f;let(y,H1,m,b,d):=a;show nk m j g c b (λs2 l=>#[_,H1,l,d]) hf
def Pt(i:Nat)(e:TE)(c:Qs):TS:=λD a H=>∃x,a[i]?=M (M x)/\e a H λy d=>c x y d λz b=>D.nx (a.set i (M z)) b
def MZ(F:X.N.Nodup)(j:X.N[i]?=M x)(g:Kx X.env.scope x)(he:PE X e C)(A:NX X op o)(hf:X.fn x=U\/X.env.scope.names.lookup x=M .local:=by first|show .inl W|show .inr W|assumption):
  PS X (.AugAssign (.Name x pos') op e pos) (Pt i C o):=by
 intro pins s σ H D I h;let(v,e1,h):=h;let(m,B,E):=I.loc;let f:Qf X.env.scope x:=by rcases g with k|k;show .inl k;show .inr (.inl k)
 let(u,r,l):=E i x v j e1 f;show wpAny_AugAssign_Name ?_;let go:wpAny (model X.prog X.w) X.A (eval e X.env) (λw d=>wpAny (model X.prog X.w) X.A (inplaceOp op u w) (λr b=>wpAny (model X.prog X.w) X.A (storeName X.env x r) (λ_=>SP X pins D .next) X.xe b) X.xe d) X.xe s:=by show bG (he pins s σ H _ I h) λw s1 #[y,H1,P,p,t]=>?_;show bG (A pins s1 σ H1 v y u w _ P r p t) λz s2 a=>?_;let(Y,Q,O,n,q):=a;show nk O F j g n (λs3 N=>#[_,Q,N,q]) hf
 rcases l with⟨a,hm⟩|⟨a,c,K,L⟩
 .show abk I.ok.kind a B hm go
 .rcases a with a|a
  .show abL I.ok.kind a K L go
  .rcases g with k|k
   .let:X.env.scope.names.lookup x=M .free:=a;rw[k]at this;ext this
   .let:X.env.scope.names.lookup x=M .free:=a;rw[k]at this;ext this
def Ro(f:Int->Int->Int):Qs:=λx y H Q=>∃i j,x=.int i/\y=.int j/\Q (.int (f i j)) H
def LM:NX X .Sub (Ro λi j=>i - j):=by intro a s e H x y v u Q I d b h;let(i,j,e1,e2,q):=h;subst e1;subst e2;let(t,rfl):=d;let(f,rfl):=b;show isub_int #[.int _,H,I.tok _,#[_,W],q]
end
section
variable{X:Cx}{pos:Pos}
def AR(c:TT)(h:TS):TS:=λD a H=>∃W:Nat->St->Hp->Prop,(∃m,W m a H)/\∀m a H,W m a H->
 c a H λb d=>if b=U then∃N:St->Hp->Prop,(∀e g,N e g->∃f,f<m/\W f e g)/\h {D with nx:=N,ct:=N,bk:=D.nx} a d else D.nx a d
def DG(r:aai (model X.prog X.w) X.A X.env X.xe)(M:PT X c tc)(k:YV X body tb):PS X (.While c body [] pos) (AR tc tb):=by
 intro d s C H D I h;let(W,(L,F),g):=h;show wpAny_While (codeAny_whileLoop (λn K=>∃w A,Inv X d w A K/\W n w A) ?_ L #[C,H,I,F]);rintro n J ⟨e,B,O,E⟩;show VJ r (bG (M d J e B _ O (g n e B E)) λb G a=>?_);let(z,u,l):=a;cases b with
 |true=>
  let(N,t,l):=l;rw[ai rfl];show VJ r (bG (k d G e z _ u l) λf P j=>?_);cases f with
  |next=>let(a,i,q,o):=j;let(p,hm,m):=t a i o;show#[p,hm,a,i,q,m]
  |cont=>let(a,i,q,o):=j;let(p,hm,m):=t a i o;show#[p,hm,a,i,q,m]
  |brk=>show j
  |ret v=>show j
 |false=>rw[ak Td];show XI #[e,z,u,l]
end
structure It where
 go:Nat->Hp->Prop
 yld:Nat->Hp->V->Hp->Prop
 stop:Nat->Hp->Prop
def oZ(X:Cx)(a:G (J×Obj))(H:Hp)(b:J):Prop:=
 H b=S/\b≠X.env.locals/\b∉X.fs/\(b∈X.ex\/X.s₀.heap.objs.size<=b)/\(∀x c,X.env.cells.lookup x=M c->c≠b)/\∀p∈X.pn++a,p.1≠b
def Inv.ZC(I:Inv X pins σ H s)(d:s.heap.objs.size<=b)(f:H' b=S):oZ X pins H' b:=by
 show#[f,UZ (To I.lt d),I.agM d,.inr (S9 I.sz d),λx c e z=>?_,λp a z=>?_]
 .let(v,q):=I.cell x c e;show b9 (To q.lt (by rw[z];show d)) (Ub _)
 .show b9 (To (cv (I.pin p a).1) (by rw[z];show d)) (Ub _)
structure Turn(P:Tg)(w:TN)(K:Bn)(tg:Ts)(J:It)(fp:G SU)(it:SU)(tn:Nat->Heap->Prop):Prop where
 mem:it∈fp
 obj:∀i h,tn i h->∀b∈fp,∃o,h.get? b=M o/\∀v,o.data≠.cell v
 keep:∀i h h',tn i h->(∀b∈fp,∀o,h.get? b=M o->h'.get? b=M o)->tn i h'
 item:∀(X:Cx),X.prog=P->X.w=w->X.K=K->X.calm=U->∀(i:Nat) (pins:G (SU×Obj)) (s:SS) (σ:St) (H:Hp) (E:T->SS->Prop),Inv X pins σ H s->(∀b∈fp,oZ X pins H b)->tn i s.heap->J.go i H->
  wpAny (model P w) X.A (pyNext (.ref it)) (λr s1=>∃u,r=M u/\
   wpAny (model P w) X.A (letOwnedTupleGo tg (.ref it) u) (λ_ s2=>∃x H',Inv X pins σ H' s2/\RelV x u/\J.yld i H x H'/\tn (i+1) s2.heap/\∀b∈fp,H' b=S) E s1) E s
 done:∀(X:Cx),X.prog=P->X.w=w->X.K=K->X.calm=U->∀(i:Nat) (pins:G (SU×Obj)) (s:SS) (σ:St) (H:Hp) (E:T->SS->Prop),Inv X pins σ H s->(∀b∈fp,oZ X pins H b)->tn i s.heap->J.stop i H->
  wpAny (model P w) X.A (pyNext (.ref it)) (λr s1=>r=S/\Inv X pins σ H s1) E s
 self:∀(A:Tv) (i:Nat) (s:SS) (Q:T->SS->Prop) (E:T->SS->Prop),tn i s.heap->Q (.ref it) s->wpAny (model P w) A (pyIter (.ref it)) Q E s
abbrev TI:=St->Hp->(It->Hp->Prop)->Prop
def Rt(X:Cx)(a:G (SU×Obj))(j:St)(c:Ts)(R:It->Hp->Prop)(d:T)(g:SS):Prop:=
 ∃(h:SU) (i:G SU) (f:Nat->Heap->Prop) (J:It) (e:Hp),d=.ref h/\Inv X a j e g/\Turn X.prog X.w X.K c J i h f/\f 0 g.heap/\(∀b∈i,oZ X a e b)/\R J e
def PI(X:Cx)(c iter:Ts)(d:TI):Prop:=
 ∀(a:G (J×Obj)) (s:SS) (b:St) (H:Hp) (R:It->Hp->Prop),Inv X a b H s->d b H R->
  wpAny (model X.prog X.w) X.A (eval iter X.env) (λv e=>wpAny (model X.prog X.w) X.A (pyIter v) (Rt X a b c R) X.xe e) X.xe s
def ye{M:acL}{A:Tv}{E:T->SS->Prop}{s:SS}{e:Ts}{it:J}{u:T}{o:Obj}{n:String}{c:Array T}{Q:Unit->SS->Prop}(b:s.heap.get? it=cL o)(d:o.cls=.type n)(hd:o.data=.fields c)
  (f:["enumerate","zip","dict_itemiterator","dict_reverseitemiterator","odict_iterator","itertools.zip_longest","itertools.pairwise"].contains n=SW) (a:Q ⟨⟩ s):wpAny M A (letOwnedTupleGo e (.ref it) u) Q E s:=by
 ext letOwnedTupleGo;ext e<;>first
  |show SH a
  |(ext u<;>first
    |show SH a
    |(show lD (ab6 b ?_)
      rw[d,hd];show wpAny M A (if(["enumerate","zip","dict_itemiterator","dict_reverseitemiterator","odict_iterator","itertools.zip_longest","itertools.pairwise"].contains n&&c[0]? ==cL (rawInt _))=U then _ else _) Q E s;rw[ak (by intro h;rw[f,WJ]at h;ext h)];show SH a))
def Re(K:Bn)(a:J):It:=
 #[λi H=>∃xs x,Xl K H a xs/\xs[i]?=M x,λi H x b=>b=H/\∀xs,Xl K H a xs->xs[i]?=M x,λi H=>∃xs,Xl K H a xs/\xs.length<=i]
def QH(K:Bn)(a:J):It:=
 #[λi H=>∃xs x,WY K H a xs/\xs[i]?=M x,λi H x b=>b=H/\∀xs,WY K H a xs->xs[i]?=M x,λi H=>∃xs,WY K H a xs/\xs.length<=i]
def Ql(lo:Int)(n:Nat):It:=#[λi _=>i<n,λi H x a=>a=H/\x=.int (lo+i),λi _=>n<=i]
theorem zA{K:Bn}(a it:SU):Turn P w K tg (Re K a) [it] it (λi h=>h.IsListIter it a i) where
 mem:=by simp
 obj:=λi h st b f=>by
  let e:b=it:=by simpa using f
  subst e;let(o,e,c,d):=st;show#[o,e,λv z=>by rw[d]at z;ext z]
 keep:=λi h L st k=>st.at λo e=>k it (by simp) o e
 item:=by intro X r n t J i g s N H E I l st q;subst r n t;let(xs,x,j,m):=q;let(T5,rv,p,S):=I.list j;let(u,U,Q):=rv.get m;let(G,F,Y,C,B,A):=l it (by simp);show wpAny_pyNext_list_item st p.isList (by simpa using U) λL M O=>?_;let I1:=I.turned (t':=s.toks) (λb o f e=>(O.2 b f).trans e) G F C B A;let(o,e,c,d):=id M;show#[u,W,ye e c d () #[x,H,I1,Q,#[W,λys T=>by rw[I.aa2 T j];show m],M,λb f=>(l b f).1]]
 done:=by intro X r n t J i g s N H E I l st q;subst r n t;let(xs,j,m):=q;let(T5,rv,p,S):=I.list j;let(G,F,Y,C,B,A):=l it (by simp);let hl:=rv.length;show wpAny_pyNext_list_end (I.ok.hd J) st p.isList (by simp;ext) λL Z=>#[W,I.turned (λb o f e=>Z b o f e) G F C B A]
 self:=λ_ _ _ _ _ st h=>wpAny_pyIter_listiter st h
theorem wj{K:Bn}(a it:SU):Turn P w K tg (QH K a) [it] it (λi h=>h.IsTupleIter it a i) where
 mem:=by simp
 obj:=λi h st b f=>by
  let e:b=it:=by simpa using f
  subst e;let(o,e,c,d):=st;show#[o,e,λv z=>by rw[d]at z;ext z]
 keep:=λi h M st k=>st.at λo e=>k it (by simp) o e
 item:=by intro X r n t L i g s O H E I l st q;subst r n t;let(xs,x,j,m):=q;let(J,rv,p,T):=I.tuple j;let(u,Y,S):=rv.get m;let(G,F,Z,C,B,A):=l it (by simp);show wpAny_pyNext_tuple_item st (show s.heap.IsTuple a J.toArray from p) (by simpa using Y) λM N Q=>?_;let I1:=I.turned (t':=s.toks) (λb o f e=>(Q.2 b f).trans e) G F C B A;let(o,e,c,d):=id N;show#[u,W,ye e c d () #[x,H,I1,S,#[W,λys U=>by rw[I.aaf U j];show m],N,λb f=>(l b f).1]]
 done:=by intro X r n t L i g s O H E I l st q;subst r n t;let(xs,j,m):=q;let(J,rv,p,T):=I.tuple j;let(G,F,Z,C,B,A):=l it (by simp);let hl:=rv.length;show wpAny_pyNext_tuple_end (I.ok.hd L) st (show s.heap.IsTuple a J.toArray from p) (by simp;ext) λM eb=>#[W,I.turned (λb o f e=>eb b o f e) G F C B A]
 self:=λ_ _ _ _ _ st h=>wpAny_pyIter_tupleiter st h
theorem xo{K:Bn}(it:SU)(lo:Int)(n:Nat):Turn P w K tg (Ql lo n) [it] it (λi h=>IsRangeIter h it (lo+(i:Nat)*1) ((n:Int) - (i:Nat)) 1) where
 mem:=by simp
 obj:=λi h st b d=>by
  let e:b=it:=by simpa using d
  subst e;show#[_,st,λv z=>by let J:=z;ext J]
 keep:=λi h q st k=>k it (by simp) _ st
 item:=by intro X m g p l i a s F H E I f st j;subst m g p;let(C,B,O,A,u,r):=f it (by simp);let W:=Walks.range (prog:=X.prog) (w:=X.w) (I.ok.hd l) it lo 1 n;show W.item i s _ _ j st λv q L N G M=>?_;let(t,rfl):=N;let S:Inv X a F H {s with heap:=q,toks:=L}:=I.turned (λb o d e=>M b o (by simpa using d) e) C B A u r;show#[_,rfl,ye G rfl rfl () #[.int (lo+i),H,S,#[t,?_],#[rfl,rfl],G,λb d=>(f b d).1]];rw[Int.mul_one]
 done:=by intro X m g p l i a s F H E I f st j;subst m g p;let(C,B,O,A,u,r):=f it (by simp);show wpAny_pyNext_range_end (I.ok.hd l) st (by let:n<=i:=j;ext) λq Q=>#[rfl,I.turned (λb o d e=>Q b o d e) C B A u r]
 self:=λ_ _ _ _ _ st h=>wpAny_pyIter_rangeiter st h
section
variable{X:Cx}{A:Ts}
def DT{a:G (J×Obj)}{d:St}{H:Hp}{s:SS}{R:It->Hp->Prop}{E:T->SS->Prop}{lo c:Int}{t u v:Tok}{f:Nat}(I:Inv X a d H s)(h1: -(2^62)<=lo)(l:lo<2^62)(j: -(2^62)<=c)(i:c<2^62)
  (q:R (Ql lo (c - lo).toNat) H):wpAny (model X.prog X.w) X.A (pyIter (.ref s.heap.objs.size)) (Rt X a d A R) E {s with heap:=s.heap.push {cls:=.type "range",data:=.fields #v[.int lo t,.int c u,.int 1 v]},toks:=f}:=by
 show wpAny_pyIter_range (IsRange.new ..) (small_one h1 l j i) ?_;let g:Inv X a d H {s with heap:=s.heap.push {cls:=.type "range",data:=.fields #v[.int lo t,.int c u,.int 1 v]},toks:=f}:=I.kept λb o e=>cj _ e;show#[(s.heap.push {cls:=.type "range",data:=.fields #v[.int lo t,.int c u,.int 1 v]}).objs.size,[(s.heap.push {cls:=.type "range",data:=.fields #v[.int lo t,.int c u,.int 1 v]}).objs.size],_,_,H,W,
  g.kept (t':=f) λb o e=>cj _ e,xo _ lo (c - lo).toNat,?_,λb h=>?_,q]
 .let e1:lo+((0:Nat):Int)*1=lo:=by simp
  let e2:(((c - lo).toNat:Nat):Int) - ((0:Nat):Int)=Builtin.Range.rangeSize lo c 1:=by rw[rangeSize_one];split<;>ext
  show IsRangeIter _ _ (lo+((0:Nat):Int)*1) ((((c - lo).toNat:Nat):Int) - ((0:Nat):Int)) 1;rw[e1,e2];show c0 _ W
 .let e:b=(s.heap.push {cls:=.type "range",data:=.fields #v[.int lo t,.int c u,.int 1 v]}).objs.size:=by simpa using h
  subst e;show g.ZC (SN _) (g.U9.fresh (SN _))
def IL(c:TA):TI:=λa H R=>c a H λd b=>∃j:Int,d=[.int j]/\ -(2^62)<=j/\j<2^62/\R (Ql 0 j.toNat) b
def zK(n:Gl X "range")(hm:X.mg "range"=S)(c:PA X [a] C)(m:Ua [a] X.env=[(SW,eval a X.env)]:=by rfl):PI X A (.Call (.Name "range" p) [a] [] pos) (IL C):=by
 intro b s f H R I h;show Call_ (kW I n hm boot_range (Vt (bG (c pos b s f H _ I h) λu v #[z,w,o,i,d]=>?_) m W));let(j,e,d,l,q):=d;subst e;cases i with
 |cons r g=>ext g;let(t,rfl):=r;show call_range_1 (DT o () () d l (by simpa using q))
def GG(d:TI)(g:TG)(c:TS):TS:=λD a H=>d a H λJ f=>∃W:Nat->Nat->St->Hp->Prop,(∃m,W 0 m a f)/\∀i m a H,W i m a H->
 (J.stop i H/\D.nx a H)\/(J.go i H/\∃N:St->Hp->Prop,(∀h j,N h j->∃l,l<m/\W (i+1) l h j)/\∀x j,J.yld i H x j->g x a j λb e=>c {D with nx:=N,ct:=N,bk:=D.nx} b e)
def ny(a:G J)(h:Heap):G (J×Obj):=a.filterMap λb=>(h.get? b).map λo=>(b,o)
theorem gS(a:b∈C)(e:h.get? b=M o):(b,o)∈ny C h:=Uq.mpr #[b,a,by rw[e];rfl]
def zk(a:p∈ny C h):p.1∈C/\h.get? p.1=M p.2:=by
 let(b,d,e):=Uq.mp a;cases q:h.get? b with
 |none=>rw[q]at e;ext e
 |some o=>rw[q]at e;let f:=Tx e;subst f;show#[d,q]
theorem Inv.pinned(I:Inv X pins σ H s)(i:∀b∈fp,oZ X pins H b)(h:∀b∈fp,∃o,s.heap.get? b=M o/\∀v,o.data≠.cell v):Inv X (pins++ny fp s.heap) σ H s:=
 I.ZZ λp g=>(Th.mp g).elim (λz=>I.pin p (Tw _ z)) λz=>by let(a,e):=zk z;let(m,l,j,_):=i p.1 a;let(o,f,d):=h p.1 a;rw[e]at f;ext f;show#[e,m,l,j,d]
theorem Inv.XT(I:Inv X (pins++pl) σ H s):Inv X pins σ H s:=I.ZZ λp a=>I.pin p (Tw _ (Uk _ a))
def ME(M:aai (model X.prog X.w) X.A X.env X.xe)(k:X.calm=SJ)(R:PI X A iter wi)(V:PG X A g)(c:YV X body tb)
  (y:∀x,foldedSetIterable iter X.env x=pure x:=by intro _;rfl):PS X (.For A iter body [] pos) (GG wi g tb):=by
 intro j s σ H D I h;show wpAny_For (bG (R j s σ H _ I h) λv s1 h1=>bG h1 λitv s2 h2=>?_) y;let(it,P,tn,J,H2,e,I2,T,U,f2,W,(m0,w0),F):=h2;subst e;let E:∀{z:Hp},(∀b∈P,z b=CL)->∀b∈P,oZ X j z b:=λhn b c=>#[hn b c,(f2 b c).2];show codeAny_forLoop_any (λn s'=>∃i σ' z,Inv X j σ' z s'/\tn i s'.heap/\(∀b∈P,z b=CL)/\W i n σ' z) ?_ m0 #[0,σ,H2,I2,U,λb c=>(f2 b c).1,w0];rintro n s3 ⟨i,l,Q,I3,K,O,w3⟩;rcases F i n l Q w3 with⟨G,qn⟩|⟨go,N,hN,step⟩
 .show VJ M (bG (T.done X rfl rfl rfl k i j s3 l Q X.xe I3 (E O) K G) λr s4 #[Z,I4]=>?_);subst Z;show XI #[l,Q,I4,qn]
 .show VJ M (bG (T.item X rfl rfl rfl k i j s3 l Q X.xe I3 (E O) K go) λr s4 #[u,Z,h4]=>?_)
  subst Z;show VJ M (bG h4 λ_ s5 a=>?_);let(x,H5,I5,r5,y5,C,fr5):=a;let I5':=I5.pinned (E fr5) (T.obj _ _ C);show VJ M (bG (V _ s5 l H5 x u _ I5' r5 (step x H5 y5)) λ_ s6 a=>?_);let(w,H6,I6,q6):=a;show VJ M (bG (c _ s6 w H6 _ I6 q6) λf Y B=>?_);let p:∀{a:St} {t:Hp},Inv X (j++ny P s5.heap) a t Y->N a t->∃m,m<n/\∃i σ' z,Inv X j σ' z Y/\tn i Y.heap/\(∀b∈P,z b=CL)/\W i m σ' z:=λ{a t} q L=>by let(m',hm,w7):=hN a t L;show#[m',hm,i+1,a,t,q.XT,T.keep _ _ _ C λb c o e=>(q.pin (b,o) (Tw _ (Tw _ (gS c e)))).1,λb c=>?_,w7];let(o,e,d):=T.obj _ _ C b c;show(q.pin (b,o) (Tw _ (Tw _ (gS c e)))).2.1
  cases f with
  |next=>let(a,t,q,L):=B;show p q L
  |cont=>let(a,t,q,L):=B;show p q L
  |brk=>let(a,t,q,B):=B;show#[a,t,q.XT,B]
  |ret v=>let(x7,a,t,q,r7,B):=B;show#[x7,a,t,q.XT,r7,B]
end
abbrev R2:=V->V->Hp->VK->Prop
def OpR(X:Cx)(f:T->T->Sem T)(r:R2):Prop:=
 ∀(a:G (J×Obj)) (s:SS) (b:St) (H:Hp) (x y:V) (v u:T) (Q:VK),Inv X a b H s->RelV x v->RelV y u->r x y H Q->
  wpAny (model X.prog X.w) X.A (f v u) (EP X a b Q) X.xe s
def Qn(X:Cx)(f:T->Sem T)(r:V->Hp->VK->Prop):Prop:=
 ∀(a:G (J×Obj)) (s:SS) (b:St) (H:Hp) (x:V) (v:T) (Q:VK),Inv X a b H s->RelV x v->r x H Q->
  wpAny (model X.prog X.w) X.A (f v) (EP X a b Q) X.xe s
def fF(X:Cx)(f:T)(r:G V->Hp->VK->Prop):Prop:=
 ∀(a:G (J×Obj)) (s:SS) (b:St) (H:Hp) (xs:G V) (d:G T) (Q:VK),Inv X a b H s->Vals xs d->r xs H Q->
  wpAny (model X.prog X.w) X.A (call f d) (EP X a b Q) X.xe s
def yS(r:R2)(e c:TE):TE:=λa H Q=>e a H λx d=>c a d λy b=>r x y b Q
def Q1(r:V->Hp->VK->Prop)(c:TE):TE:=λa H Q=>c a H λx b=>r x b Q
def rI(C:Int->Int->Prop)(g:Int->Int->V):R2:=λx y H Q=>∃i j,x=.int i/\y=.int j/\C i j/\Q (g i j) H
def vh(g:Int->Int->V):R2:=λx y H Q=>∃i j,x=.int i/\y=.int j/\Q (g i j) H
def rU(g:Int->V):V->Hp->VK->Prop:=λx H Q=>∃i,x=.int i/\Q (g i) H
section
variable{X:Cx}{a b c:Ts}{Z Y P:TE}{pos:Pos}
def Nd(r:PE X a Z)(q:PE X b Y){R:V->V->Hp->Prop}(I:Inv X pins σ H s)
  (h:Z σ H λx H1=>Y σ H1 λy k=>R x y k) {f:T->T->Sem T}
  (l:∀v u s2 x y k,Inv X pins σ k s2->RelV x v->RelV y u->R x y k->wpAny (model X.prog X.w) X.A (f v u) Q X.xe s2):
  wpAny (model X.prog X.w) X.A (eval a X.env) (λv p=>wpAny (model X.prog X.w) X.A (eval b X.env) (λu o=>wpAny (model X.prog X.w) X.A (f v u) Q X.xe o) X.xe p) X.xe s:=by
 show bG (r pins s σ H _ I h) λv d a=>?_;let(x,H1,n,g,j):=a;show bG (q pins d σ H1 _ n j) λu s2 a=>?_;let(y,k,m,e,i):=a;show l v u s2 x y k m g e i
def Oa(j:OpR X (U0 op) r)(n:PE X a Z)(k:PE X b Y):PE X (.BinOp a op b pos) (yS r Z Y):=by intro d s e H Q I h;show wpAny_BinOp (Nd n k I h λv u f x y m l i g q=>j d f e m x y v u Q l i g q)
def Ja(j:Qn X (unaryOp op) r)(k:PE X a Z):PE X (.UnaryOp op a pos) (Q1 r Z):=by intro d s e H Q I h;show UnaryOp_ (bG (k d s e H _ I h) λv f #[x,m,l,g,i]=>j d f e m x v Q l g i)
def Qi{g:Int->Int->Int}
  (d:∀(i j:Int) (t u:Tok) (s:SS) (Q:T->SS->Prop) (E:T->SS->Prop),C i j->Q (.int (g i j) s.toks) {s with toks:=s.toks+1}->wpAny (model X.prog X.w) X.A (f (.int i t) (.int j u)) Q E s):
  OpR X f (rI C λi j=>.int (g i j)):=by
 intro e s p H x y v u Q I n m h;let(i,j,rfl,rfl,o,q):=h;let(t,rfl):=n;let(l,rfl):=m;show d i j t l s _ _ o #[.int (g i j),H,I.tok _,#[_,W],q]
def Pe{g:Int->Int->Int}
  (d:∀(i j:Int) (t u:Tok) (s:SS) (Q:T->SS->Prop) (E:T->SS->Prop),Q (.int (g i j) s.toks) {s with toks:=s.toks+1}->wpAny (model X.prog X.w) X.A (f (.int i t) (.int j u)) Q E s):
  OpR X f (vh λi j=>.int (g i j)):=by
 intro e s o H x y v u Q I n m h;let(i,j,rfl,rfl,q):=h;let(t,rfl):=n;let(l,rfl):=m;show d i j t l s _ _ #[.int (g i j),H,I.tok _,#[_,W],q]
def Gq{g:Int->Int->Bool}
  (d:∀(i j:Int) (t u:Tok) (s:SS) (Q:T->SS->Prop) (E:T->SS->Prop),Q (.bool (g i j)) s->wpAny (model X.prog X.w) X.A (f (.int i t) (.int j u)) Q E s):
  OpR X f (vh λi j=>.bl (g i j)):=by
 intro e s o H x y v u Q I n m h;let(i,j,rfl,rfl,q):=h;let(t,rfl):=n;let(l,rfl):=m;show d i j t l s _ _ #[.bl (g i j),H,I,W,q]
def LO(i j:Int):Prop:=0<=j/\j<=1000000/\i.natAbs<2^64
def abx(i j:Int):Prop:=(-(2^64)<i/\i<2^64)\/(-(2^64)<j/\j<2^64)
def abx.ok(h:abx i j):IntMulOk i j:=by
 rcases h with⟨h1,d⟩|⟨h1,d⟩
 .show .of_left (agV h1 d)
 .show .of_right (agV h1 d)
theorem KR:OpR X (U0 .Add) (vh λi j=>.int (i+j)):=Pe λ_ _ _ _ _ _ _ q=>add_int q
theorem Ka:OpR X (U0 .Sub) (vh λi j=>.int (i - j)):=Pe λ_ _ _ _ _ _ _ q=>sub_int q
theorem Nc:OpR X (U0 .Mult) (rI abx λi j=>.int (i*j)):=Qi λ_ _ _ _ _ _ _ d q=>mul_int q d.ok
theorem L7:OpR X (U0 .Mod) (rI (λ_ j=>0<j) λi j=>.int (i % j)):=Qi λi j _ _ _ _ _ d q=>by let h1:(0:Int)<j:=d;show mod_int' () (by rw[Int.fmod_eq_emod_of_nonneg i ()];show q)
theorem Li:OpR X (U0 .Pow) (rI LO λi j=>.int (i^j.toNat)):=Qi λ_ _ _ _ _ _ _ d q=>pow_int_small d.1 d.2.1 d.2.2 q
def R0{g:Int->Int}
  (d:∀(i:Int) (t:Tok) (s:SS) (Q:T->SS->Prop) (E:T->SS->Prop),Q (.int (g i) s.toks) {s with toks:=s.toks+1}->wpAny (model X.prog X.w) X.A (f (.int i t)) Q E s):
  Qn X f (rU λi=>.int (g i)):=by
 intro e s l H x v Q I j h;let(i,rfl,q):=h;let(t,rfl):=j;show d i t s _ _ #[.int (g i),H,I.tok _,#[_,W],q]
theorem CP:Qn X (unaryOp .USub) (rU λi=>.int (-i)):=R0 λ_ _ _ _ _ q=>neg_int q
end
section
variable{X:Cx}{a b c:Ts}{Y Z P:TE}{pos:Pos}
def Cp(I:Inv X pins σ H s)(q:Q (.bl k) H)(e:k=o):EP X pins σ Q (.bool o) s:=by subst e;show#[.bl k,H,I,W,q]
theorem PB:OpR X (UK .Lt) (vh λi j=>.bl (decide (i<j))):=Gq λ_ _ _ _ _ _ _ q=>lt_int q
theorem Oi:OpR X (UK .LtE) (vh λi j=>.bl (decide (i<=j))):=Gq λ_ _ _ _ _ _ _ q=>le_int q
theorem PR:OpR X (UK .Gt) (vh λi j=>.bl (decide (j<i))):=Gq λ_ _ _ _ _ _ _ q=>gt_int q
theorem OC:OpR X (UK .GtE) (vh λi j=>.bl (decide (j<=i))):=Gq λ_ _ _ _ _ _ _ q=>ge_int q
def Ln:OpR X (UK .Is) (λx y H Q=>y=.Wa/\Q (.bl (decide (x=.Wa))) H):=by
 intro e s g H x y v u Q I d f h;let(rfl,q):=h;ext f;show is_none_gen (Cp I q ?_);ext x<;>first
  |(ext d;rfl)
  |(let(t,rfl):=d;rfl)
def HX:OpR X (UK .IsNot) (λx y H Q=>y=.Wa/\Q (.bl (!decide (x=.Wa))) H):=by
 intro e s g H x y v u Q I d f h;let(rfl,q):=h;ext f;show isnot_none_gen (Cp I q ?_);ext x<;>first
  |(ext d;rfl)
  |(let(t,rfl):=d;rfl)
def Hu{op:aah}{r:R2}(j:OpR X (UK op) r)(n:PE X a Y)(k:PE X b Z)(hm:behindInMarks op b=SW):PE X (.Compare a [op] [b] pos) (yS r Y Z):=by intro d s e H Q I h;show afd (Nd n k I h λv u f x y m l i g q=>j d f e m x y v u Q l i g q) hm
def yd(t:TE):TT:=λd H Q=>t d H λx e=>∃k,x=.bl k/\Q k e
def HI(q:OpR X (UK op) r)(K:PE X a Y)(D:PE X b Z)(hm:behindInMarks op b=SW):PT X (.Compare a [op] [b] pos) (yd (yS r Y Z)):=by
 intro d s f H Q I h;show aa3 (bG (K d s f H _ I h) λv i #[x,E,A,m,p]=>bG (D d i f E _ A p) λu g #[y,C,w,l,o]=>
  bG (q d g f C x y v u _ w m l o) λc F a=>?_) hm;let(z,B,t,j,k,e,n):=a
 subst e;ext j;show Vo #[B,t,n]
def sZ:(S8:Nat)<2^63:=by rw[Y3];decide
def wU:OpR X (U0 .Add) (λx y H Q=>∃i j,x=.str i/\y=.str j/\i.length+j.length<=S8/\Q (.str (i++j)) H):=by intro d s m H x y v u Q I g f h;let(i,j,rfl,rfl,l,q):=h;let(t,rfl):=g;let(e,rfl):=f;show add_str (λe n=>#[.str (i++j),H,I.tok _,#[_,W],q]) l
def l8(r:Vals [x] us):∃u,us=[u]/\RelV x u:=by
 cases r with
 |cons e d=>ext d;show#[_,W,e]
def Jj(r:Vals [x,y] us):∃u h,us=[u,h]/\RelV x u/\RelV y h:=by
 cases r with
 |cons g f=>
  cases f with
  |cons e d=>ext d;show#[_,_,W,g,e]
def zL(f:X.calm=U):fF X (.builtin "max") (λxs H Q=>∃i j,xs=[.int i,.int j]/\Q (.int (if j>i then j else i)) H):=by
 intro e s g H xs m Q I r h;let(i,j,rfl,q):=h;let(u,l,rfl,(t,rfl),(o,rfl)):=Jj r;show max_two_ints (I.ok.hd f) λp n k=>#[_,H,I.kept k,?_,q];by_cases d:j>i
 .rw[ai d,ai d];show#[_,W]
 .rw[ak d,ak d];show#[_,W]
def Pq(K:Bn)(x:V)(H:Hp)(n:Nat):Prop:=
 match x with
 |.str y=>y.length<=S8/\n=y.length
 |.byt y=>y.size<=S8/\n=y.size
 |.ref p=>(∃xs,Xl K H p xs/\n=xs.length)\/∃xs,WY K H p xs/\n=xs.length
 |_=>False
def EB:fF X (.builtin "len") (λxs H Q=>∃x n,xs=[x]/\Pq X.K x H n/\Q (.int n) H):=by
 intro l s w H xs z Q I r h;let(x,n,rfl,e,q):=h;let(u,rfl,g):=l8 r;let B:=sZ;let A:=Y3;cases x with
 |str y=>let(t,rfl):=g;let(o,f):=e;subst f;show len_str () #[.int _,H,I.tok _,#[_,W],q]
 |byt y=>let(t,rfl):=g;let(o,f):=e;subst f;show PySem.W.len_bytes () #[.int _,H,I.tok _,#[_,W],q]
 |ref p=>
  ext g;let f:=e;rcases f with⟨xs,j,f⟩|⟨xs,j,f⟩
  .subst f;let(v,i,pl,m):=I.list j;let d:=i.length;show Calls.call_len_list pl.isList (by simp only[Tb];ext) #[.int xs.length,H,I.tok _,#[_,by simp only[Tb];rw[d]],q]
  .subst f;let(v,i,pl,m):=I.tuple j;let d:=i.length;show len_tuple pl (by simp only[Tb];ext) #[.int xs.length,H,I.tok _,#[_,by simp only[Tb];rw[d]],q]
 |_=>show(show False from e).elim
end
structure aj0(h:Heap)(x dx C:J)(mA:Str->I T):Prop where
 obj:h.get? x=M (aag C dx)
 ns:h.Ns1 dx mA
 ne:dx≠x
def Xz.some_of(r:Xz (M v) o):∃u,o=M u/\RelV v u:=by
 cases o with
 |none=>show(show False from r).elim
 |some u=>show#[u,W,r]
structure Cls(K:Bn)(C:J):Prop where
 pg:Z2 K C Str.empty=U
 hd:ZH K C=U
 po:ZI K C=U
 sa:UW K (.ref C) "__setattr__"=M (M (.builtin "object.__setattr__"))
def C2(K:Bn)(C:J)(f:Str):Prop:=UW K (.ref C) f=M S
structure Con(K:Bn)(C:J)(f:Str)(v:V)(u:T):Prop where
 at_:UW K (.ref C) f=M (M u)
 rel:RelV v u
 get:ZJ K u "__get__"=M S
 cp:PySem.W.copiedNames.contains f=SW
structure Meth(K:Bn)(C:J)(m:Str)(f:J):Prop where
 at_:UW K (.ref C) m=M (M (.ref f))
 fn:W0 K (.ref f)=U
 kp:Vl K (.ref f)=U
section
variable{X:Cx}{Z:cb (SU×Obj)}{Y:St}{H:Hp}{s:SS}{A:Tv}{E:OK->SS->Prop}{Q:OK->SS->Prop}{c:OK}{b:Bool}
inductive Ys(K:Bn)(H:Hp):V->T->Prop where
 |Wa:Ys K H .Wa (.type "NoneType")
 |bl (x:Bool):Ys K H (.bl x) (.type "bool")
 |int (i:Int):Ys K H (.int i) (.type "int")
 |str (x:Str):Ys K H (.str x) (.type "str")
 |flt (x:UInt64):Ys K H (.flt x) (.type "float")
 |lst {a:J} {xs:G V} (e:H a=M (.lst xs)):Ys K H (.ref a) (.type "list")
 |frz {a:J} {o:Obj} {xs:G V} (e:H a=M (.frz o (.lst xs))):Ys K H (.ref a) (.type "list")
 |tup {a:J} {xs:G V} (e:H a=M (.tup xs)):Ys K H (.ref a) (.type "tuple")
 |dK {a:J} {kvs:G (bz×V)} (e:H a=M (.dK kvs)):Ys K H (.ref a) (.type "dict")
 |dT {a:J} {kvs:G (G bz×V)} (e:H a=M (.dT kvs)):Ys K H (.ref a) (.type "dict")
 |ins {a C dx:J} {fs:G (Str×V)} (e:H a=M (.ins C dx fs)) (cl:Cls K C) (ha:UW K (.ref C) "__class__"=M (M (.builtin "object.__class__")))
   (hn:ZJ K (.builtin "object.__class__") "__get__"=M (M (.builtin "getset_descriptor.__get__"))) (htk:PySem.W.takesIn K (.builtin "object.__class__")=M U)
   (hm:PySem.W.mroIn K C (.type "object")=M U):Ys K H (.ref a) (.ref C)
end
structure V6(k:Nat)(A:Tv):Prop where
 hd:A.handled=S
 dp:A.depth+3*k+5<recursionLimit
 un:A.units+16*k+200<cLine
theorem V6.mono(r:V6 k A)(h:j<=k):V6 j A:=#[r.hd,by let:=r.dp;ext,by let:=r.un;ext]
theorem V6.deeper(r:V6 (k+1) A)(env:Env):V6 k (A.deeper env):=
 #[r.hd,by let:=r.dp;show A.depth+1+3*k+5<_;ext,by let:=r.un;show A.units+3+16*k+200<_;ext]
def V6.depth(r:V6 k A):A.depth<recursionLimit:=by let:=r.dp;ext
def V6.units(r:V6 k A):A.units+64<cLine:=by let:=r.un;ext
def jd:TA:=λ_ H Q=>Q [] H
def dr(c:TE)(tr:TA):TA:=λa H Q=>c a H λx d=>tr a d λxs b=>Q (x::xs) b
section
variable{X:Cx}{e:Ts}{es:cb Ts}{Z:TE}{t:TA}{pos:Pos}
theorem i9:PA X [] jd:=λ_ _ _ _ H Q I h=>Calls.spliced_nil #[[],H,I,.nil,h]
def eK(c:PE X e Z)(m:PA X es t)(l:Ua (e::es) X.env=(SW,eval e X.env)::Ua es X.env:=by rfl):PA X (e::es) (dr Z t):=by intro pos a s b H Q I h;rw[l];show Calls.spliced_cons (bG (c a s b H _ I h) λu d a=>?_);let(x,q,o,g,j):=a;show bG (m pos a d b q _ o j) λr v #[xs,p,n,f,i]=>#[x::xs,p,n,.cons g f,i]
def wB(t:TA):TE:=λb H Q=>t b H λxs a=>xs.length<=S8/\∀p,a p=S->Q (.ref p) (upd a p (.tup xs))
def LQ(t:TA):TE:=λb H Q=>t b H λxs a=>xs.length<=S8/\∀p,a p=S->Q (.ref p) (upd a p (.lst xs))
def Dh{c}(h:PA X es t):PE X (.Tuple es c pos) (wB t):=by intro a s g H Q I j;show wpAny_Tuple_spliced (bG (h pos a s g H _ I j) λi d #[xs,m,f,r,z,q]=>#[by rw[<-r.length];show z,?_]);let l:=f.U9.fresh (SN _);show#[.ref d.heap.objs.size,upd m d.heap.objs.size (.tup xs),f.laid (λb u e=>cj _ e) (SN _) ?_,W,q _ l];show#[z,i,r,#[_,c0 _ W,#[W,_,W],W]]
def KI(h:PA X es t):PE X (.List es pos) (LQ t):=by intro a s g H Q I j;show wpAny_List_spliced (bG (h pos a s g H _ I j) λi d #[xs,m,f,r,z,q]=>#[by rw[<-r.length];show z,?_]);let l:=f.U9.fresh (SN _);show#[.ref d.heap.objs.size,upd m d.heap.objs.size (.lst xs),f.laid (λb u e=>cj _ e) (SN _) ?_,W,q _ l];show#[z,i,0,r,c0 _ W]
end
abbrev Sp:=G V->Hp->VK->XK->Prop
abbrev tt:=G Env->Hp->SS->XK->T->SS->Prop
structure abt(P:Tg)(w:TN)(K:Bn)(mg:Str->I T)(base:Heap)(A:Tv)(outer:G Env)(s:SS)(H:Hp):Prop where
 frames:A.frames=M outer
 mod:Mod K mg base
 bs:∀b o,base.get? b=M o->s.heap.get? b=M o/\H b=S
 bsz:base.objs.size<=s.heap.objs.size
 Ye:s.heap.FunFrames base outer
 frf:∀b∈wb outer,H b=S
 U9:XB P w H s.heap
 bare:AllBare s.gens
def CE(outer:G Env)(P:Tg)(w:TN)(H:Hp)(s:SS)(Q:VK)(u:T)(a:SS):Prop:=
 ∃v b,a.os=s.os/\AllBare a.gens/\Un (wb outer) [] H b s.heap a.heap/\XB P w b a.heap/\RelV v u/\Q v b
def CR(b:tt)(outer:G Env)(P:Tg)(w:TN)(H:Hp)(s:SS)(Q:VK)(E:XK)(r:Yk)(a:SS):Prop:=
 match r with
 |.ok (.ret u)=>CE outer P w H s Q u a
 |.ok _=>False
 |.error e=>b outer H s E e a
structure FnOk(P:Tg)(w:TN)(K:Bn)(mg:Str->I T)(base:Heap)(CX:tt)(k:Nat)(f:J)(fd:UI)(ps:G Str)(sp:Sp):Prop where
 len:∀vs H Q E,sp vs H Q E->vs.length=ps.length
 run:∀(A:Tv) (outer:G Env) (s:SS) (H:Hp) (args:Args) (us:G T) (vs:G V) (Q:VK) (E:XK),V6 k A->abt P w K mg base A outer s H->X6 s fd args (ps.zip us)->Vals vs us->sp vs H Q E->
  codeAny (model P w) A (.call (.ref f) args) (CR CX outer P w H s Q E) s
theorem FnOk.imp{P:Tg}{w:TN}{K:Bn}{p:Str->I T}{base:Heap}{e:tt}{k:Nat}{f:J}{fd:UI}{o:G Str}{sp b:Sp}(F:FnOk P w K p base e k f fd o sp)
  (h:∀c H Q E,b c H Q E->sp c H Q E):FnOk P w K p base e k f fd o b:=
 #[λc H Q E q=>F.len c H Q E (h _ _ _ _ q),λA a s H d g c Q E l m n i j=>F.run A a s H d g c Q E l m n i (h _ _ _ _ j)]
section
variable{X:Cx}{Z:cb (SU×Obj)}{Y:St}{H:Hp}{s U:SS}
theorem Inv.agz(I:Inv X Z Y H s):abt X.prog X.w X.K X.mg X.base X.A X.stack s H:=
 #[I.ok.frames,I.ok.mod,I.bs,S9 I.ok.bsz I.sz,I.stack,I.YT,I.U9,I.bare]
def Inv.after{Q:VK}{u:T}(I:Inv X Z Y H s)(h:CE X.stack X.prog X.w H s Q u U):EP X Z Y Q u U:=by let(v,j,f,a,un,U9,r,q):=h;let(i,g,d,t,e):=U;obtain rfl:e=s.os:=f;show#[v,j,I.call (h':=i) (g':=g) (d':=d) (t':=t) (ch:=[]) un U9 a (λb z=>b9 z (by simp)),r,q]
end
def qp(sp:Sp)(a:G V)(E:XK)(t:TA):TE:=λb H Q=>t b H λe d=>sp (e++a) d Q E
def Binds(K:Bn)(fd:UI)(b:G Str)(ds:G T):Prop:=
 ∀(s:SS) (a:G T),K.In s.heap->(a++ds).length=b.length->X6 s fd #[a,[]] (b.zip (a++ds))
theorem Binds.all{K:Bn}{fd:UI}{b:G Str}(h:∀us:G T,us.length=b.length->bindArgs fd #[us,[]]=pure (b.zip us)):Binds K fd b []:=λs us _ a=>by rw[TC]at a⊢;show .of_eq (h us a)
def lC(f:tt)(X:Cx)(E:XK):Prop:=∀(a:G (J×Obj)) (d:St) (H:Hp) (s:SS) (e:T) (b:SS),Inv X a d H s->f X.stack H s E e b->X.xe e b
section
variable{X:Cx}{Y:tt}{k:Nat}{f C:SU}{N:UI}{O:cb Str}{L:Sp}{Z:cb V}{P:cb OK}{E:XK}{x m:Str}{p pos A:Pos}{e o:Ts}{es:cb Ts}{w:TE}{t:TA}
def Mm{a:G (J×Obj)}{g:St}{H:Hp}{s:SS}{Q:VK}{b:G T}{c:G V}(F:FnOk X.prog X.w X.K X.mg X.base Y k f N O L)(n:V6 k X.A)(y:Binds X.K N O P)(hd:Vals Z P)(l:lC Y X E)
  (I:Inv X a g H s) (r:Vals c b) (h:L (c++Z) H Q E):wpAny (model X.prog X.w) X.A (call (.ref f) b) (EP X a g Q) X.xe s:=by
 let i:Vals (c++Z) (b++P):=r.append hd;let q:(b++P).length=O.length:=by rw[<-i.length];show F.len _ _ _ _ h
 show wpAny_call (aav (F.run X.A X.stack s H #[b,[]] (b++P) (c++Z) Q E n I.agz (y s b I.ZW q) i h) λr j d=>?_);cases r with
 |error e=>show l a g H s e j I d
 |ok v=>
  cases v with
  |ret u=>show I.after d
  |next=>show False.elim d
  |brk=>show False.elim d
  |cont=>show False.elim d
def Hi(F:FnOk X.prog X.w X.K X.mg X.base Y k f N O L)(l:V6 k X.A)(u:Gl X x)(hm:X.mg x=M (.ref f))(n:Vl X.K (.ref f)=U)(c:Binds X.K N O P)(hd:Vals Z P)(j:lC Y X E)
  (y:PA X (e::es) t) (d:(x==("__debug__":Str))=SW:=by decide) (v:Ua (e::es) X.env=(SW,eval e X.env)::Ua es X.env:=by rfl) (b:(backTo pos (Ua es X.env)).any (·.1)=SW:=by rfl):
  PE X (.Call (.Name x p) (e::es) [] pos) (qp L Z E t):=by
 intro a s i H Q I h;show Wh (xH I u hm ?_ d);show PySem.W.callWith_K I.ok.mod.kin n (bG (y pos a s i H _ I h) λz B #[K,G,g,r,q]=>#[g.ZW,?_]) v b;show Mm F l c hd j g r q
structure Mk(K:Bn)(C f:J):Prop where
 makes:aaj K C=U
 init:UW K (.ref C) "__init__"=M (M (.ref f))
 fn:W0 K (.ref f)=U
 kp:Vl K (.ref C)=U
end
section
variable{X:Cx}{P:tt}{k:Nat}{f C:SU}{fd:UI}{ps ks:cb Str}{O:Sp}{E:XK}{x m:Str}{p pos Z Y:Pos}{e o:Ts}{es:cb Ts}{Q:cb XD}{N L:TE}{t H:TA}{nm:cc Str}
structure agm(K:Bn)(fd:UI)(ps ks:G Str)(g:G T->G T->G T)(gV:G V->G V->G V):Prop where
 to:∀(s:SS) (us ws:G T),K.In s.heap->(g us ws).length=ps.length->X6 s fd #[us,ks.zip ws] (ps.zip (g us ws))
 rel:∀{vs:G V} {us:G T} {zs:G V} {ws:G T},Vals vs us->Vals zs ws->Vals (gV vs zs) (g us ws)
variable{g:cb OK->cb OK->cb OK}{K:cb V->cb V->cb V}
end
structure Wl(N P:G Str)(sc:Vm):Prop where
 kind:sc.kind=.function
 co:sc.isCoroutine=SW
 gen:sc.isGenerator=SW
 nd:N.Nodup
 pre:N.take P.length=P
 par:∀x∈P,sc.names.lookup x=M .local\/sc.names.lookup x=M .cell
 acp:∀y∈sc.names,y.2≠.free
theorem qh{a:Str->I Tq}:∀{binds:G (Str×T)} {m:Str->I T},(∀v,(x,v)∉binds)->bindL a binds m x=m x
 |[],_,_=>rfl
 |(n,v)::r,m,h=>by
  ext bindL;rw[qh λw b=>h w (S5 _ b)];split
  .let:x≠n:=by rintro rfl;show h v Ta
   simp[this]
  .rfl
theorem qE{a:Str->I Tq}:∀{binds:G (Str×T)} {m:Str->I T},(∀v,(x,v)∉binds)->bindC a binds m x=m x
 |[],_,_=>rfl
 |(n,v)::r,m,h=>by
  ext bindC;rw[qE λw b=>h w (S5 _ b)];split
  .rfl
  .let:x≠n:=by rintro rfl;show h v Ta
   simp[this]
theorem qC{kindOf:Str->I Tq}:∀{P:G Str} {a:G T} {i:Nat} {m:Str->I T},P.Nodup->P[i]?=M x->a[i]?=M v->kindOf x=M .local->
  bindL kindOf (P.zip a) m x=M v
 |[],_,_,_,_,h,_,_=>by simp at h
 |_::_,[],_,_,_,_,h,_=>by simp at h
 |p::P,w::a,0,m,nd,h1,b,d=>by simp at h1 b;subst h1;subst b;show bindL kindOf ((p,w)::P.zip a) m p=_;ext bindL;rw[qh λv e=>(Uh.mp nd).1 (Yu e).1,ai d];simp
 |p::P,w::a,i+1,m,nd,h1,b,d=>by ext bindL;show qC (Uh.mp nd).2 (by simpa using h1) (by simpa using b) d
theorem pT{kindOf:Str->I Tq}:∀{P:G Str} {a:G T} {i:Nat} {m:Str->I T},P.Nodup->P[i]?=M x->a[i]?=M v->kindOf x≠M .local->
  bindC kindOf (P.zip a) m x=M v
 |[],_,_,_,_,h,_,_=>by simp at h
 |_::_,[],_,_,_,_,h,_=>by simp at h
 |p::P,w::a,0,m,nd,h1,b,d=>by simp at h1 b;subst h1;subst b;show bindC kindOf ((p,w)::P.zip a) m p=_;ext bindC;rw[qE λv e=>(Uh.mp nd).1 (Yu e).1,ak d];simp
 |p::P,w::a,i+1,m,nd,h1,b,d=>by ext bindC;show pT (Uh.mp nd).2 (by simpa using h1) (by simpa using b) d
def start(N:G Str)(a:G V):St:=a.map M++SY (N.length - a.length) S
def jF(h:tt)(P:Tg)(w:TN)(K:Bn)(c:Str->I T)(base:Heap)(N:G Str)(b:Str)(a:Vm)(f:J)(g:T)(A:Tv)(outer:G Env)(s:SS)(H:Hp)(E:XK):Cx where
 prog:=P
 w:=w
 K:=K
 mg:=c
 base:=base
 A:=A.deeper (envOfC b a s.heap.objs.size f g)
 N:=N
 s₀:=s
 H₀:=H
 env:=envOfC b a s.heap.objs.size f g
 outer:=outer
 stack:=envOfC b a s.heap.objs.size f g::outer
 ex:=[]
 calm:=U
 fn:=λ_=>U
 pn:=[]
 xe:=λe i=>wpAny (model P w) (A.deeper (envOfC b a s.heap.objs.size f g)) (leaving (envOfC b a s.heap.objs.size f g) e) (λ_ d=>h outer H s E e d) (λj d=>h outer H s E j d) i
def uR{sc:Vm}(h:sc.names.lookup x=M .cell):∃c,(Vg n sc.names []).lookup x=M c:=by let q:=V3 sc.names n [] (.inl h);show UD.mp q
def zN{K:Bn}
  (S:Wl N ps scope) (hd:A.handled=CL) (e0:abt P w K mg base A outer s H) (C:vs.length=ps.length) (r:Vals vs us)
  (x:InCallC s s.heap.objs.size (bindL (envOfC qual scope s.heap.objs.size f cd).kindOf (ps.zip us) λ_=>CL) (Vg (s.heap.objs.size+1) scope.names []) (bindC (envOfC qual scope s.heap.objs.size f cd).kindOf (ps.zip us) λ_=>CL) s1):
  Inv (jF CX P w K mg base N qual scope f cd A outer s H E) [] (start N vs) H s1:=by
 let t:ps.length<=N.length:=by let:=eh UQ S.pre;rw[T7]at this;ext
 let(h1,B,rfl,o):=x.done;let g:∀b:J,b∉(jF CX P w K mg base N qual scope f cd A outer s H E).ex:=λb z=>b9 (show b∈([]:G J)from z) (by simp);show#[#[e0.mod,S.kind,W,W,SN _,λy z c h1 d=>?_,λy j=>?_,λy c _ h=>?_,λ_=>hd,Tv.frames_deeper e0.frames,.inr #[W,W],λb z=>b9 z (g b),e0.bs,e0.bsz,λb _ _=>g b,λb z=>b9 z (g b),e0.Ye,e0.frf],
  W,e0.bare,Un.kept o,#[_,x.toInCall.ns,λi y v h1 d F=>?_],λy c h=>#[_,x.cell y c h],e0.U9.fresh (SN _),λy c h=>?_,λp m=>b9 (show p∈([]:G (J×Obj))from m) (by simp),e0.U9.kept o,?_]
 .show name_of_addr x.apart (Va h1) (Va d)
 .let j:=j
  rcases j with j|j
  .show uR j
  .show b9 W (S.acp _ (Va j))
 .show Uy (x.above y c (Va h))
 .let L:i<vs.length:=by
   unfold start at d;by_cases L:i<vs.length
   .show L
   .rw[Tr (by simpa using L)]at d;rw[Vs]at d;split at d<;>ext d
  let Q:vs[i]?=M v:=by
   unfold start at d;rw[Ti (by simpa using L),S3]at d;cases e:vs[i]? with
   |none=>rw[e]at d;ext d
   |some a=>rw[e]at d;ext d;rfl
  let(u,n,O):=r.get Q;let m:ps[i]?=M y:=by rw[<-S.pre,Vj ()];show h1
  let l:ps.Nodup:=by rw[<-S.pre];show S.nd.sublist (List.take_sublist _ _)
  show#[u,O,?_];rcases S.par y (Te m)with k|k
  .show .inl #[k,qC l m n k]
  .let(c,e):=uR k;show .inr #[.inl k,c,e,?_];let q:=x.cell y c e;rw[pT l m n (by show scope.names.lookup y≠_;rw[k];decide)]at q;show q
 .show e0.U9.fresh (Uy (x.above y c (Va h)))
 .ext start;show _=N.length;rw[SQ,SI,TQ];ext
def N0{m:tt}{P:Tg}{w:TN}{K:Bn}{l:Str->cc T}{base:Heap}{k:Nat}{f:SU}{name qual:Str}{params:Arguments}{body:G Vz}{scope:Vm}{F kV doc pm g ct R:T}{an O:cc SU}
  {B:Array (cc T)} {N j:G Str} {sp:Sp} (X:K.lookup f=M #[R,O,.func (VL name qual params body scope F kV doc pm an g ct),B]) (D:Xm K g qual=U) (S:Wl N j scope)
  (len:∀c H Q E,sp c H Q E->c.length=j.length)
  (WV:∀(A:Tv) (outer:G Env) (s:SS) (H:Hp) (c:G V) (Q:VK) (E:XK),V6 k (A.deeper (envOfC qual scope s.heap.objs.size f g))->sp c H Q E->
   ∃t,YV (jF m P w K l base N qual scope f g A outer s H E) body t/\t {nx:=λ_ d=>Q .Wa d,rt:=Q} (start N c) H):
  FnOk P w K l base m (k+1) f (VL name qual params body scope F kV doc pm an g ct) j sp:=by
 show#[len,λA outer s H args us c Q E C e0 hb r i=>?_];let hl:=len _ _ _ _ i;let L:K.In s.heap:=e0.mod.kin.keeps λb o e=>(e0.bs b o e).1;let lim:s.heap.NoLimit:=e0.mod.nolimit.keeps λb o e=>(e0.bs b o e).1;let Xr:∀y∈j.zip us,scope.names.lookup y.1=M .local\/(scope.names.lookup y.1=M .cell/\((Vg (s.heap.objs.size+1) scope.names []).lookup y.1).isSome=U):=λ#[n,v] Y=>by
  rcases S.par n (Yu Y).1 with q|q
  .show .inl q
  .show .inr #[q,V3 _ _ _ (.inl q)]
 show codeAny_call_function C.depth (L _ _ X) W S.co S.gen W (PySem.W.codeRec_of L D) (hb _ _ _ _ ?_);show wpAny_newFunctionEnv_cells S.kind Xr λenv he s1 x=>?_;subst he;show#[lim.keeps x.toInCall.keep,codeAny_func ?_];let(t,Z,hq):=WV A outer s H c Q E (C.deeper _) i;let I:Inv (jF m P w K l base N qual scope f g A outer s H E) [] (start N c) H s1:=zN S C.hd e0 hl r x;show wpAny_mono (Z [] s1 (start N c) H _ I hq) (λfl p h=>?_) λe p h=>h
 let fin:∀{a:St} {d:Hp} {v:V} {u:T},Inv (jF m P w K l base N qual scope f g A outer s H E) [] a d p->RelV v u->Q v d->CE outer P w H s Q u p:=
  λ{a d v u} J z q=>#[v,d,J.os,J.bare,J.base,J.U9,z,q]
 cases fl with
 |ret u=>let(v,a,d,J,z,q):=h;show fin J z q
 |next=>let(a,d,J,q):=h;show fin (v:=V.Wa) (u:=OK.none) J W q
 |brk=>let(_,_,_,q):=h;show False.elim q
 |cont=>let(_,_,_,q):=h;show False.elim q
section
variable{X:Cx}{x:Str}{p pos:Pos}{e:Ts}{es:cb Ts}{t:TA}{Z T:String}{r:cb V->Hp->VK->Prop}
def AM(r:G V->Hp->VK->Prop)(t:TA):TE:=λa H Q=>t a H λd b=>r d b Q
def Ce(q:fF X (.builtin Z) r)(n:Gl X x)(hm:X.mg x=S)(m:Uc x=M (.builtin Z))(k:PA X (e::es) t)(c:x≠ "__name__":=by decide)(d:(x==("__debug__":Str))=SW:=by decide)
  (o:Ua (e::es) X.env=(SW,eval e X.env)::Ua es X.env:=by rfl) (b:(backTo pos (Ua es X.env)).any (·.1)=SW:=by rfl):PE X (.Call (.Name x p) (e::es) [] pos) (AM r t):=by
 intro a s f H Q I h;show Wh (kW I n hm m ?_ c d);show aes (bG (k pos a s f H _ I h) λg i #[w,v,u,j,l]=>q a i f v w g Q u j l) o b
def zq(q:fF X (.type T) r)(n:Gl X x)(hm:X.mg x=S)(m:Uc x=M (.type T))(k:PA X (e::es) t)(c:x≠ "__name__":=by decide)(d:(x==("__debug__":Str))=SW:=by decide)
  (o:Ua (e::es) X.env=(SW,eval e X.env)::Ua es X.env:=by rfl) (b:(backTo pos (Ua es X.env)).any (·.1)=SW:=by rfl):PE X (.Call (.Name x p) (e::es) [] pos) (AM r t):=by
 intro a s f H Q I h;show Wh (kW I n hm m ?_ c d);show Vt (bG (k pos a s f H _ I h) λg i #[w,v,u,j,l]=>q a i f v w g Q u j l) o b
end
end L2
namespace HT
open PySem PyProof.Rows
section
open PySem.SeqAt
open PySem.AutoSeq1 (wpAny_loadPart')
open PySem.MeetsSeq PySem.MeetsSeq2 PySem.MeetsSeq3
end
section
variable{Z:Tg}{w:TN}{A:Tv}{E:OK->SS->Prop}{s:SS}
def cat_tup{t b:J}{c ws:G T}{Q:T->SS->Prop}(u:IsTup s.heap t c.toArray)(x:IsTup s.heap b ws.toArray)(o:c≠[])
  (h1:ws=[]->Q (.ref t) s) (v:ws≠[]->Q (.ref s.heap.objs.size) {s with heap:=s.heap.push {cls:=.type "tuple",data:=.seq (c++ws).toArray}})
  (k:c.length+ws.length<=S8):wpAny (model Z w) A (U0 .Add (.ref t) (.ref b)) Q E s:=by
 let((cls,dd,data,l),h,q,n,p):=id u;let((z,f,j,r),i,d,m,a):=id x;simp only at q p d a;subst q p d a;let e:c.toArray++ws.toArray=(c++ws).toArray:=by simp
 by_cases g:ws=[]
 .show aaw #[_,h,W] #[_,i,W] V2 WA Vb U4 (UT _ _)
   (tuple_addW1 t b c.toArray ws.toArray n m dd f l r (by simpa using o) (by simp[g])) #[h,i,h1 g]
 .show aaw #[_,h,W] #[_,i,W] V2 WA Vb U4 (UT _ _)
   (tuple_addW2 t b c.toArray ws.toArray n m dd f l r (by simpa using o) (by simpa using g) (by rw[Tb,Tb];show k)) #[h,i,?_]
  rw[e];show v g
def sIx(n d:Nat):I Int->Nat
 |none=>d
 |some v=>if v<0 then(v+(n:Int)).toNat else min v.toNat n
theorem sIx_none(n d:Nat):sIx n d S=d:=W
def sIx_nat(n d k:Nat):sIx n d (M (k:Int))=min k n:=by show(if(k:Int)<0 then((k:Int)+(n:Int)).toNat else min (k:Int).toNat n)=min k n;rw[ak (),Uz]
def LZ(n d:Nat)(hd:d<=n)(o:I Int):sIx n d o<=n:=by
 cases o with
 |none=>show hd
 |some v=>
  show(if v<0 then(v+(n:Int)).toNat else min v.toNat n)<=n;by_cases a:v<0
  .rw[ai a];ext
  .rw[ak a];show Yl _ _
def ze(v:Int)(n d:Nat):(if v<0 then max (v+(n:Int)) 0 else min v (n:Int))=((sIx n d (M v):Nat):Int):=by
 show(if v<0 then max (v+(n:Int)) 0 else min v (n:Int))=(((if v<0 then(v+(n:Int)).toNat else min v.toNat n):Nat):Int);by_cases a:v<0
 .simp only[ai a];ext
 .simp only[ak a];ext
def wJ(lo a:I Int)(n:Nat):Builtin.Slice.sliceAdjust lo a 1 (n:Int)=(((sIx n 0 lo:Nat):Int),((sIx n n a:Nat):Int)):=by
 let h1:¬((1:Int)<0):=by ext
 ext Builtin.Slice.sliceAdjust;simp only[h1,if_false];show Prod.ext ?_ ?_
 .cases lo with
  |none=>rfl
  |some v=>show ze v n 0
 .cases a with
  |none=>rfl
  |some v=>show ze v n n
def vZ(i j:Nat):Builtin.Slice.slicePlaces (i:Int) (j:Int) 1=j - i:=by
 ext Builtin.Slice.slicePlaces;let h1:(1:Int)>0:=by ext
 simp only[h1,if_true,adk];split<;>ext
def fQ(p:Xn v o)(h:Q o s):wpAny (model Z w) A (Builtin.Slice.slicePartIndex v) Q E s:=by
 cases p with
 |none=>show slicePart_none h
 |int i t=>show slicePart_int h
def gP{lo c:I Int}{Q:Int×Int×Nat->SS->Prop}(e:s.heap.IsSliceOf sl C o .none)(pl:Xn C lo)(d:Xn o c)
  (h:Q (((sIx n 0 lo:Nat):Int),1,sIx n n c - sIx n 0 lo) s):wpAny (model Z w) A (Builtin.Slice.sliceApplied (.ref sl) (pure (n:Int))) Q E s:=by
 let(g,a,f,b):=id e;unfold Builtin.Slice.sliceApplied Builtin.Slice.sliceFields;show lD (lD (Vp a b W (lD (Vp a b W (lD (Vp a b W (SH ?_)))))));show lD (slicePart_none ?_);rw[ak ()];show lD (fQ pl (lD (fQ d (lD (SH ?_)))));show wpAny _ _ (match Builtin.Slice.sliceAdjust lo c 1 (n:Int)with|(lo,c)=>pure (lo,(1:Int),Builtin.Slice.slicePlaces lo c 1)) _ _ s;rw[wJ lo c n];show wpAny _ _ (pure (((sIx n 0 lo:Nat):Int),(1:Int),Builtin.Slice.slicePlaces ((sIx n 0 lo:Nat):Int) ((sIx n n c:Nat):Int) 1)) _ _ s;rw[vZ];show SH h
def BD(xs:Array T)(i k:Nat):((TV k).filterMap λ(m:Nat)=>xs[((i:Int)+(m:Int)*1).toNat]?).toArray=((xs.toList.drop i).take k).toArray:=by
 let e:(λ(m:Nat)=>xs[((i:Int)+(m:Int)*1).toNat]?)=λm=>xs[i+m]? :=by
  funext m;let:((i:Int)+(m:Int)*1).toNat=i+m:=by ext
  rw[this]
 rw[e];let:=pick_run xs i k;rw[aak]at this;let e2:((λx=>xs[x]?)∘λx=>i+x)=λm=>xs[i+m]? :=W;rw[e2]at this;rw[this]
def getItem_tuple_cut{lo c:I Int}(a:IsTup s.heap t items)(i:s.heap.IsSliceOf C vl vu .none)(pl:Xn vl lo)(j:Xn vu c)
  (m:¬(sIx items.size 0 lo=0/\sIx items.size items.size c=items.size))
  (h:Q (.ref s.heap.objs.size) {s with heap:=s.heap.push {cls:=.type "tuple",data:=.seq ((items.toList.drop (sIx items.size 0 lo)).take (sIx items.size items.size c - sIx items.size 0 lo)).toArray}})
  (k:items.size<=S8):wpAny (model Z w) A (getItem (.ref t) (.ref C)) Q E s:=by
 let b:sizeOk (.seq ((items.toList.drop (sIx items.size 0 lo)).take (sIx items.size items.size c - sIx items.size 0 lo)).toArray):=by show((items.toList.drop (sIx items.size 0 lo)).take (sIx items.size items.size c - sIx items.size 0 lo)).toArray.size<=S8;rw[Tb,T7,Ut,Tt];ext
 let r:sIx items.size items.size c<=items.size:=LZ _ _ (SN _) c;let(l,d,f,n):=id i;let g:s.TypeIs (.ref C) "slice":=#[l,d,f];ext getItem
 try with_reducible show UA ?_
 first|show lD (SH ?_)|skip
 show lD (Yy a.typeIs () ?_);show lD (UL a.typeIs TY
  (UB TY a.typeIs entry_tuple_getitem ?_ (args_tuple_getitem _ _)))
 show wpAny _ _ (Builtin.Tuple.tupleItemsOf (.ref t)>>=_) _ _ s;show lD (tupleItemsOf_ a ?_);show lD (VF g ?_);rw[ai ()];show lD (gP i pl j ?_);let e:¬((((sIx items.size 0 lo:Nat):Int)==0&&(1:Int)==1&&(sIx items.size items.size c - sIx items.size 0 lo)==items.size)=U):=by intro q;rw[Ld,Ld]at q;let p:=eq_of_beq q.1.1;let o:=eq_of_beq q.2;show m #[by ext,by ext]
 show wpAny _ _ (if(((sIx items.size 0 lo:Nat):Int)==0&&(1:Int)==1&&(sIx items.size items.size c - sIx items.size 0 lo)==items.size)=U then _ else _) _ _ s;rw[ak e,BD]
 first
  |show lD (TJ (SH #[_,W,SH h]) b)
  |show lD (TJ (lD (SH (SH #[_,W,SH h]))) b)
  |show lD (lD (TJ (SH (SH #[_,W,SH h])) b))
  |show lD (lD (TJ (SH #[_,W,SH h]) b))
end
end HT
namespace L2
open PySem PySem.Spec PyProof.Rows
abbrev TO:=St->Hp->(I Int->Hp->Prop)->Prop
def PO(X:Cx)(e:I Ts)(t:TO):Prop:=
 ∀(a:G (J×Obj)) (s:SS) (b:St) (H:Hp) (Q:I Int->Hp->Prop),Inv X a b H s->t b H Q->
  wpAny (model X.prog X.w) X.A (evalPart e X.env) (λu d=>∃o f,Inv X a b f d/\Xn u o/\Q o f) X.xe s
def yF:TO:=λ_ H Q=>Q S H
def El(t:TE):TO:=λa H Q=>t a H λx b=>∃i,x=.int i/\Q (M i) b
section
variable{X:Cx}{e:Ts}{te:TE}{Z Y:cc Ts}{U S:TO}{pos p2:Pos}
def HW:PO X CL yF:=by intro a s b H Q I h;rw[Z3];show SH #[CL,H,I,.none,h]
def xF(h:PE X e te):PO X (M e) (El te):=by intro a s b H Q I g;rw[evalPart_some];show bG (h a s b H _ I g) λu m a=>?_;let(x,l,j,d,f):=a;let(i,rfl,q):=f;let(t,rfl):=d;show#[M i,l,j,.int i t,q]
def Ky(X:Cx)(r:V->I Int->I Int->Hp->VK->Prop):Prop:=
 ∀(a:G (J×Obj)) (s:SS) (b:St) (H:Hp) (x:V) (v f d:OK) (Z Y:I Int) (g:J) (Q:VK),Inv X a b H s->RelV x v->s.heap.IsSliceOf g f d .none->Xn f Z->Xn d Y->r x Z Y H Q->
  ∃T id,typeLookup (.type T) "__getitem__"=pure (M (.builtin id))/\s.TypeIs v T/\wpAny (model X.prog X.w) X.A (getItem v (.ref g)) (EP X a b Q) X.xe s
def Rh(r:V->I Int->I Int->Hp->VK->Prop)(te:TE)(U S:TO):TE:=λa H Q=>te a H λx f=>U a f λl d=>S a d λu b=>r x l u b Q
def DA{r:V->cc Int->cc Int->Hp->VK->Prop}(F:Ky X r)(K:PE X e te)(G:PO X Z U)(C:PO X Y S):PE X (.Subscript e (.Slice Z Y CL p2) pos) (Rh r te U S):=by intro a s f H Q I h;show Subscript_ (bG (K a s f H _ I h) λv n a=>?_);let(x,H1,P,o,z):=a;show wpAny_Slice (bG (G a n f H1 _ P z) λi m #[l,w,O,pl,t]=>bG (C a m f w _ O t) λg d a=>?_);let(u,j,N,B,p):=a;rw[Z3];show SH ?_;let M:Inv X a f j {d with heap:=d.heap.push {cls:=.type "slice",data:=.fields #v[i,g,.none]}}:=N.kept (t':=d.toks) λb A q=>cj _ q;let(T,id,L,E,J):=F a {d with heap:=d.heap.push {cls:=.type "slice",data:=.fields #v[i,g,.none]}} f j x v i g l u d.heap.objs.size Q M o (Heap.IsSliceOf.new ..) pl B p;show wpAny (model X.prog X.w) X.A (subscriptTail e (.Slice Z Y CL p2) v (.ref d.heap.objs.size)) (EP X a f Q) X.xe {d with heap:=d.heap.push {cls:=.type "slice",data:=.fields #v[i,g,.none]}};show tail_any (ops:=[.ref d.heap.objs.size,v]) E L J (by with_unfolding_all rfl)
def Af(xs:G V)(Z Y:I Int):G V:=(xs.drop (HT.sIx xs.length 0 Z)).take (HT.sIx xs.length xs.length Y - HT.sIx xs.length 0 Z)
def l4(xs:G V)(Z Y:I Int):(Af xs Z Y).length<=xs.length:=by ext Af;rw[T7,Ut];ext
def Px(K:Bn):V->I Int->I Int->Hp->VK->Prop:=λx Z Y H Q=>∃a xs,x=.ref a/\WY K H a xs/\
 ¬(HT.sIx xs.length 0 Z=0/\HT.sIx xs.length xs.length Y=xs.length)/\∀p,H p=CL->Q (.ref p) (upd H p (.tup (Af xs Z Y)))
def Lx:Ky X (Px X.K):=by
 intro f s t H x v w u Z Y z Q I j o pl l h;let(a,xs,rfl,m,n,q):=h;ext j;let(p,r,i,g):=I.tuple m;let d:p.toArray.size=xs.length:=by rw[Tb];show r.length.symm
 show#["tuple",_,TY.lookup,i.typeIs,?_];show HT.getItem_tuple_cut i o pl l (by rw[d];show n) ?_ (by rw[d];show g);rw[d];show#[.ref s.heap.objs.size,_,I.laid (λb A q=>cj _ q) (SN _) ?_,W,q _ (I.U9.fresh (SN _))];show#[S9 (l4 xs Z Y) g,_,(r.drop (HT.sIx xs.length 0 Z)).take (HT.sIx xs.length xs.length Y - HT.sIx xs.length 0 Z),X4.new _ _]
def JR(K:Bn):R2:=λx y H Q=>∃a b xs ys,x=.ref a/\y=.ref b/\WY K H a xs/\WY K H b ys/\xs≠[]/\xs.length+ys.length<=S8/\
 (ys=[]->Q (.ref a) H)/\(ys≠[]->∀p,H p=CL->Q (.ref p) (upd H p (.tup (xs++ys))))
def Vals.YX(r:Vals xs us):us=[]↔xs=[]:=by
 cases r with
 |nil=>simp
 |cons _ _=>simp
def GW:OpR X (U0 .Add) (JR X.K):=by intro g s t H x y v u Q I l j h;let(a,b,xs,ys,rfl,rfl,E,r,p,i,n,m):=h;ext l;ext j;let(C,f,o,_):=I.tuple E;let(B,d,p2,_):=I.tuple r;show HT.cat_tup o p2 (λz=>p (f.YX.mp z)) (λz=>#[.ref a,H,I,W,n (d.YX.mp z)]) (λz=>?_) (by rw[<-f.length,<-d.length];show i);show#[.ref s.heap.objs.size,_,I.laid (λb A q=>cj _ q) (SN _) ?_,W,m (λw=>z (d.YX.mpr w)) _ (I.U9.fresh (SN _))];show#[by rw[SQ];show i,_,f.append d,X4.new _ _]
end
def Fm(n:Nat)(i:Int):I Nat:=if 0<=i then(if i<n then M i.toNat else S)else if -(n:Int)<=i then M (i+n).toNat else S
def j8(xs:G α)(i:Int):I α:=(Fm xs.length i).bind λj=>xs[j]?
def GC(h:Fm n i=M j):seqIndex? i n=M j/\j<n/\ -(n:Int)<=i/\i<n:=by
 unfold Fm at h;by_cases h0:0<=i
 .rw[ai h0]at h
  by_cases h1:i<n
  .rw[ai h1]at h;let e:=Tx h;show#[by rw[seqIndex_of h0 h1,e],by ext,by ext,h1]
  .rw[ak h1]at h;ext h
 .rw[ak h0]at h
  by_cases h1: -(n:Int)<=i
  .rw[ai h1]at h;let e:=Tx h;show#[by rw[seqIndex_neg () h1,e],by ext,h1,by ext]
  .rw[ak h1]at h;ext h
def qR(h:j8 xs i=M v):∃j,seqIndex? i xs.length=M j/\xs[j]?=M v/\j<xs.length/\ -(xs.length:Int)<=i/\i<xs.length:=by
 unfold j8 at h;cases e:Fm xs.length i with
 |none=>rw[e]at h;ext h
 |some j=>rw[e]at h;let(h1,d,b,a):=GC e;show#[j,h1,h,d,b,a]
def yj{j:Nat}(h:xs[j]?=M v):j8 xs (j:Int)=M v:=by
 let a:=(SK.mp h).1;let e:Fm xs.length (j:Int)=M j:=by ext Fm;rw[ai (),ai ()];simp
 ext j8;rw[e];show h
def zd(b:Ts):Prop:=∀o i,subscripted b SW o i=operate [o,i] (getItem o i)
def IxR(X:Cx)(r:R2):Prop:=
 ∀(d a:Ts) (b:G (J×Obj)) (s:SS) (e:St) (H:Hp) (x y:V) (v u:T) (Q:VK),Inv X b e H s->RelV x v->RelV y u->r x y H Q->
  subscripted a SW v u=operate [v,u] (getItem v u)->wpAny (model X.prog X.w) X.A (subscriptTail d a v u) (EP X b e Q) X.xe s
def Qa(X:Cx)(id:String)(r:V->G V->Hp->VK->Prop):Prop:=
 ∀(a:G (J×Obj)) (s:SS) (b:St) (H:Hp) (x:V) (xs:G V) (v:T) (d:G T) (Q:VK),Inv X a b H s->RelV x v->Vals xs d->r x xs H Q->
  wpAny (model X.prog X.w) X.A (call (.builtin id) (v::d)) (EP X a b Q) X.xe s
section
variable{X:Cx}{a b:Ts}{ta tb:TE}{pos:Pos}
def IxR.or(h:IxR X r)(c:IxR X r'):IxR X (λx y H Q=>r x y H Q\/r' x y H Q):=by
 intro d e f s g H x y v u Q I j i q l;rcases q with q|q
 .show h d e f s g H x y v u Q I j i q l
 .show c d e f s g H x y v u Q I j i q l
def BR{r:R2}(l:IxR X r)(k:PE X a ta)(c:PE X b tb)(j:zd b):PE X (.Subscript a b pos) (yS r ta tb):=by intro d s e H Q I h;show Subscript_ (Nd k c I h λv u f x y n m i g q=>l a b d f e n x y v u Q m i g q (j _ _))
def PH(K:Bn):R2:=λx y H Q=>∃p xs i v,x=.ref p/\y=.int i/\Xl K H p xs/\j8 xs i=M v/\Q v H
def zO(K:Bn):R2:=λx y H Q=>∃p xs i v,x=.ref p/\y=.int i/\WY K H p xs/\j8 xs i=M v/\Q v H
def NT:R2:=λx y H Q=>∃z i c,x=.str z/\y=.int i/\z.length<=S8/\j8 z.cps.toList i=M c/\Q (.str #[#v[c]]) H
def Fz:IxR X (PH X.K):=by
 intro f g d s o H x y v u Q I B A h m;let(p,xs,i,z,rfl,rfl,C,F,q):=h;ext B;let(t,rfl):=A;let(N,r,pl,O):=I.list C;let(j,h1,L,P,J,G):=qR F;let(w,n,M):=r.get L;let E:=r.length;let K:=sZ;let e:EP X d o Q w s:=#[z,H,I,M,q];by_cases h0:0<=i
 .let l:i.toNat=j:=by
   rw[seqIndex_of h0 G]at h1;show Tx h1
  show item_listR pl.isList h0 () (by rw[l];simpa using n) e m
 .let l:(i+(N.toArray.size:Int)).toNat=j:=by
   rw[seqIndex_neg () J]at h1;rw[Tb,<-E];show Tx h1
  show subscriptTail_builtinR pl.isList.typeIs acM.lookup
   (wpAny_getItem_list_neg pl.isList () (by rw[Tb]<;>ext) () (by rw[l];simpa using n) #[W,e]) m
def Db:IxR X (zO X.K):=by
 intro e f d s l H x y v u Q I n m h o;let(p,xs,i,z,rfl,rfl,A,C,q):=h;ext n;let(t,rfl):=m;let(O,r,pl,J):=I.tuple A;let(j,h1,E,N,M,L):=qR C;let(w,F,G):=r.get E;let B:=r.length;let K:=sZ;let g:EP X d l Q w s:=#[z,H,I,G,q];show subscriptTail_builtinR pl.typeIs slot_tuple_getitem.lookup
  (getItem_tuple pl () () (by rw[Tb,<-B];show h1) (by simpa using F) #[W,g]) o
def Lg:IxR X NT:=by
 intro d e f s A H x y v u Q I l g h m;let(z,i,c,rfl,rfl,C,o,q):=h;let(t,rfl):=l;let(B,rfl):=g;let(j,h1,w,E,r,p):=qR o;let n:z.cps.toList.length=z.length:=by simp[Str.length]
 rw[n]at h1 r p;let K:=sZ;show tail_any (Zu s z t) slot_str_getitem.lookup (getItem_str (by let e1:decide (i< -(2^63:Int))=SW:=a7 ();let e2:decide (i≥2^63)=SW:=a7 ();rw[e1,e2,ab7]) (by rw[h1];simpa using w) #[.str #[#v[c]],H,I.tok _,#[_,W],q]) m
def OG(K:Bn):R2:=λx y H Q=>PH K x y H Q\/zO K x y H Q\/NT x y H Q
theorem BS:IxR X (OG X.K):=Fz.or (Db.or Lg)
def rD(lo c:I Int)(n:Nat):(sliceBounds lo c S n).1=((HT.sIx n 0 lo:Nat):Int)/\(sliceBounds lo c S n).2.1=((HT.sIx n n c:Nat):Int)/\(sliceBounds lo c S n).2.2=1:=by
 show#[?_,?_,W]
 .cases lo with
  |none=>simp[sliceBounds,HT.sIx]
  |some i=>
   simp only[sliceBounds,HT.sIx,aal,show(1:Int)>0 by decide,if_true];by_cases h:i<0
   .simp only[h,if_true]<;>ext
   .simp only[h,if_false]<;>ext
 .cases c with
  |none=>simp[sliceBounds,HT.sIx]
  |some i=>
   simp only[sliceBounds,HT.sIx,aal,show(1:Int)>0 by decide,if_true];by_cases h:i<0
   .simp only[h,if_true]<;>ext
   .simp only[h,if_false]<;>ext
def pH(d:G T)(lo c:I Int):slicePick d.toArray lo c S=((d.drop (HT.sIx d.length 0 lo)).take (HT.sIx d.length d.length c - HT.sIx d.length 0 lo)).toArray:=by let(h1,f,e):=rD lo c d.toArray.size;ext slicePick;rw[h1,f,e];simp only[sliceRange_one,pick_run,Tb]<;>rfl
def PD(K:Bn):V->I Int->I Int->Hp->VK->Prop:=λx lo d H Q=>∃a xs,x=.ref a/\Xl K H a xs/\∀p,H p=S->Q (.ref p) (upd H p (.lst (Af xs lo d)))
def Hv:Ky X (PD X.K):=by intro e s n H x v p o lo z t Q I g m pl i h;let(a,xs,rfl,l,q):=h;ext g;let(w,r,f,j):=I.list l;let d:=r.length;show#["list",_,acM.lookup,f.isList.typeIs,?_];show wpAny_getItem_list_slice f.isList m pl i .none (by simp) ?_ (by rw[Tb]<;>ext);rw[pH,<-d];show#[.ref s.heap.objs.size,_,I.laid (λb u q=>cj _ q) (SN _) ?_,W,q _ (I.U9.fresh (SN _))];show#[S9 (l4 xs lo z) j,_,0,(r.drop (HT.sIx xs.length 0 lo)).take (HT.sIx xs.length xs.length z - HT.sIx xs.length 0 lo),c0 _ W]
def rh:fF X (.type "list") (λxs H Q=>∃p ys,xs=[.ref p]/\(Xl X.K H p ys\/WY X.K H p ys)/\∀l,H l=S->Q (.ref l) (upd H l (.lst ys))):=by
 intro j s F H xs J Q I r h;let(p,ys,rfl,v,q):=h;let(u,rfl,G):=l8 r;ext G
 let A:∀(f:cb T),Vals ys f->ys.length<=S8->∀(d:Heap) (i:Nat),(∀b w,s.heap.get? b=M w->d.get? b=M w)->
   d.get? s.heap.objs.size=M {cls:=.type "list",dict:=S,data:=.seq f.toArray i,slots:= #v[]}->EP X j F Q (.ref s.heap.objs.size) {s with heap:=d}:=λf g t d i m e=>
  #[.ref s.heap.objs.size,_,I.laid m (SN _) (show ObjOk X.prog X.w _ d _ (.lst ys)from#[t,f,i,g,e]),W,q _ (I.U9.fresh (SN _))]
 rcases v with v|v
 .let(f,g,pl,t):=I.list v;let z:=g.length;let(o,B,E,n,C):=pl.isList;show agW p (.inl W) B E C (λd i m e=>A f g t d i m e) (by simp only[Tb]<;>ext)
 .let(f,g,pl,t):=I.tuple v;let z:=g.length;let(o,B,E,n,C):=pl;show agW p (.inr W) B E C (λd i m e=>A f g t d i m e) (by simp only[Tb]<;>ext)
def pG:fF X (.type "tuple") (λxs H Q=>∃p ys,xs=[.ref p]/\((Xl X.K H p ys/\∀l,H l=S->Q (.ref l) (upd H l (.tup ys)))\/(WY X.K H p ys/\Q (.ref p) H))):=by
 intro g s B H xs C Q I r h;let(p,ys,rfl,h):=h;let(u,rfl,t):=l8 r;ext t;rcases h with⟨f,q⟩|⟨f,q⟩
 .let(m,d,pl,i):=I.list f
  let j:=d.length;show call_tuple_list pl.isList (λz v=>?_) (by simp only[Tb]<;>ext);let n:=I.kept (t':=s.toks) v
  let A:=
   n.laid (t':=s.toks) (λb o e=>cj _ e) (SN _) (show ObjOk X.prog X.w _ _ _ (.tup ys)from#[i,m,d,X4.new _ _])
  show#[.ref z.objs.size,_,A,W,q _ (n.U9.fresh (SN _))]
 .let(m,d,pl,i):=I.tuple f;show call_tuple_same pl #[.ref p,H,I,W,q]
def Rn(K:Bn)(T:String)(x:V)(H:Hp):Prop:=match x with
 |.str _=>T= "str"
 |.int _=>T= "int"
 |.ref p=>(T= "list"/\∃xs,Xl K H p xs)\/(T= "tuple"/\∃o,K.lookup p=M o/\o.cls=.type "tuple"/\o.dict=CL)\/
   (T= "dict"/\((∃d,H p=M (.dK d))\/∃d,H p=M (.dT d)))\/(T= "set"/\∃S n,H p=M (.set S n))
 |_=>False
def MC(I:Inv X pins σ H s)(r:RelV x v)(ty:Rn X.K m x H):
  s.TypeIs v m/\∀a,v=.ref a->∃k,s.heap.get? a=M k/\k.dict=CL:=by
 cases x with
 |str z=>let(t,rfl):=r;cases(show m= "str" from ty);show#[Zu s z t,λ_ e=>nomatch e]
 |int i=>let(t,rfl):=r;cases(show m= "int" from ty);show#[W3 s i t,λ_ e=>nomatch e]
 |ref p=>
  ext r;rcases ty with⟨rfl,xs,h⟩|⟨rfl,o,d,j,g⟩|⟨rfl,d⟩|⟨rfl,S,n,d⟩
  .let(l,_,pl,_):=I.list h;show#[pl.isList.typeIs,λa e=>?_];ext e;let(o,n,e,c,g,_):=pl;show#[o,e,g]
  .show#[#[o,I.ZW p o d,j],λa e=>?_];ext e;show#[o,I.ZW _ o d,g]
  .let z:∃o,s.heap.get? p=M o/\o.ExactDict:=by
    rcases d with⟨q,d⟩|⟨q,d⟩
    .let(_,_,_,_,o,_,_,e,f,_):=I.U9 p _ d;show#[o,e,f]
    .let(_,_,_,_,o,_,_,e,f,_):=I.U9 p _ d;show#[o,e,f]
   let(o,e,f):=z;show#[#[o,e,f.1],λa e2=>?_];ext e2;show#[o,e,f.2.1]
  .let(o,_,_,_,e,f,_):=I.U9 p _ d;show#[#[o,e,f.1],λa e2=>?_];ext e2;show#[o,e,f.2.1]
 |_=>show False.elim ty
def Pf(K:Bn)(T:String)(r:V->G V->Hp->VK->Prop)(f:TE)(t:TA):TE:=λd H Q=>f d H λx e=>Rn K T x e/\t d e λxs g=>r x xs g Q
variable{o e:Ts}{es:cb Ts}{O:TE}{t:TA}{P:Str}{Z Y:Pos}{T U:String}{r:V->cb V->Hp->VK->Prop}
def N5(E:PlainAttrs T)(slot:Slot T P U)(g:typeOf (.builtin U)=pure (.type "method_descriptor"))(hm:Qa X U r)(G:PE X o O)(c:PA X (e::es) t)
  (m:attributeBase o P X.env (eval o X.env)=eval o X.env:=by rfl)
  (i:((backTo Y (Ua (e::es) X.env)).all (λx=> !x.1)&&(backToKw Y (keywordEach [] X.env)).all (λx=>x.1.isSome)
   &&decide ((e::es).length+([]:cb XD).length+(if([]:cb XD).isEmpty then 0 else 1)<30))=SJ:=by rfl)
  (l:(Z.endLine==Y.line)=SJ:=by rfl) (F:Ua (e::es) X.env=(SW,eval e X.env)::Ua es X.env:=by rfl) (j:(backTo Y (Ua es X.env)).any (·.1)=SW:=by rfl):
  PE X (.Call (.Attribute o P Z) (e::es) [] Y) (Pf X.K T r O t):=by
 intro d s f H Q I h;show wpAny_Call_method_late m i l W (bG (G d s f H _ I h) λv z a=>?_);let(x,N,q,n,ty,C):=a;let(h1,J):=MC q n ty;show#[T,U,E,slot,g,h1,J,?_];let p:=c Y d z f N _ q C;rw[F]at p⊢;show Calls.callWith_builtin (by show(SW||(backTo Y (Ua es X.env)).any (·.1))=SW;rw[j]<;>rfl) (Calls.evalArgs_plain ?_);show bG p λu w #[vs,K,L,A,B]=>hm d w f K x vs v u Q L n A B
end
def SD(X:Cx)(id:String)(r:V->G V->Hp->VK->Prop):Prop:=
 ∀(a:G (J×Obj)) (s:SS) (b:St) (H:Hp) (x:V) (xs:G V) (v:T) (d:G T) (Q:VK),Inv X a b H s->RelV x v->Vals xs d->r x xs H Q->
  wpAny (model X.prog X.w) X.A (call (.builtin id) (v::d)) (EP X a b Q) X.xe s
theorem Vals.one:∀{x:V} {a:G T},Vals [x] a->∃u,a=[u]/\RelV x u
 |_,_,.cons r .nil=>#[_,W,r]
theorem Vals.rep(h:Vals xs us):∀k:Nat,Vals (SY k xs).flatten (SY k us).flatten
 |0=>.nil
 |k+1=>by rw[Ul,Ul,VG,VG];show Vals.append h (Vals.rep h k)
theorem lA(a:G T):∀(k:Nat) (acc:G T),
  Xi (λc b=>c++b) acc.toArray (SY k a.toArray)=(acc++(SY k a).flatten).toArray
 |0,acc=>by simp
 |k+1,acc=>by
  let e:acc.toArray++a.toArray=(acc++a).toArray:=by simp
  let e2:(acc++a)++(SY k a).flatten=acc++(SY (k+1) a).flatten:=by rw[Ul,VG,Tz]
  rw[<-e2,<-lA a k (acc++a),<-e,Ul,Xo]
section
variable{X:Cx}{Z:cb (SU×Obj)}{Y:St}{H:Hp}{s:SS}{l b:SU}{xs ys Q:cb V}
def Inv.af2{d a:G T}(I:Inv X Z Y H s)(m:H l=M (.lst xs))
  (e:s.heap.get? l=M {cls:=.type "list",data:=.seq d.toArray n}) (i:f d.toArray=a.toArray) (g:Vals ys a) (c:ys.length<=S8):
  Inv X Z Y (upd H l (.lst ys)) {s with heap:=s.heap.update l (Obj.mapSeq f),toks:=t'}:=by
 let q:=aif e f;rw[i]at q;show I.write (by rw[m];show trivial) (.inl W) (λo u j h=>(c3 s.heap (Obj.mapSeq f) (dt j)).trans h) #[_,q] ?_;show#[c,a,_,g,q]
theorem Inv.adZ(I:Inv X Z Y H s)(a:Vals ys T5)(c:ys.length<=S8):
  Inv X Z Y (upd H s.heap.objs.size (.lst ys)) {s with heap:=s.heap.push {cls:=.type "list",data:=.seq T5.toArray},toks:=t'}:=
 I.laid (λ_ _ q=>cj _ q) (SN _) #[c,T5,0,a,c0 _ W]
theorem Inv.fresh(I:Inv X Z Y H s):H s.heap.objs.size=S:=I.U9.fresh (SN _)
def Inv.aek(I:Inv X Z Y H s)(d:H l=M (.lst xs)):xs.length<=S8/\∃(a:G T) (n:Nat),Vals xs a/\xs.length=a.length/\s.heap.get? l=M {cls:=.type "list",data:=.seq a.toArray n}:=by let(z,a,n,r,e):=I.U9 l _ d;show#[z,a,n,r,r.length,e]
def CN(h:n<=S8):Builtin.List.listTooLong n=SW:=by ext Builtin.List.listTooLong;show a7 ()
end
section
variable{X:Cx}
def rF:V->G V->Hp->VK->Prop:=λx a H Q=>∃l xs y,x=.ref l/\a=[y]/\H l=M (.lst xs)/\xs.length<S8/\Q .Wa (upd H l (.lst (xs++[y])))
def lM:SD X "list.append" rF:=by intro a s i H x t v j Q I d p h;let(l,xs,y,rfl,rfl,b,m,q):=h;ext d;let(u,rfl,f):=p.one;let(z,g,n,r,o,e):=I.aek b;show Wi F.slot_list_append #[_,e,W] F.entry_list_append (F.args_list_append_2 _ _) (PySem.list_append l g.toArray n u (by rw[Tb];ext)) #[e,?_];show#[.Wa,_,I.af2 b e (by simp) (r.append (.cons f .nil)) ?_,W,q];rw[SQ,T9];ext
def xY(xs:G α)(k:Nat):(SY k xs).flatten.length=k*xs.length:=by
 induction k with
 |zero=>simp
 |succ k a=>rw[Ul,VG,SQ,a,adl,Nat.add_comm]
end
section
variable{Z:Tg}{w:TN}{A:Tv}{E:OK->SS->Prop}{s:SS}
set_option maxRecDepth 100000 in
end
end L2
namespace Att
open PySem PySem.W PySem.Calls PyProof.Rows
def mB:∀(d:G Int) (c:G T),WellAll P h c (d.map WData.int)->IntsAre c d:=by
 intro d
 induction d with
 |nil=>intro c w;rw[TZ]at w;ext w;show .nil
 |cons n d e=>
  intro c w;rw[SX]at w;cases w with
  |cons a b=>ext a;show .cons _ _ (e _ b)
def Al{l:OpenLaw}(k:l.most=M n)
  (e:l.row.toRowW.claim.pre args=U) (i:WellAll P h vals args):
  ∃a c ns,vals=[OK.ref a]/\args=[WData.list (ns.map WData.int)]/\h.get? a=M {cls:=.type "list",data:=.seq c.toArray}/\IntsAre c ns/\ns.length<=n:=by
 let j:=(pre_splitW e).1;let o:l.pre.holds [] {args:=args}=U:=(pre_splitW e).2;let(d,r,rfl,h1,z):=hasAllW_cons j;obtain rfl:=hasAllW_nil z;let(xs,rfl,w):=hasW_list h1;let(ns,rfl):=items_int w;let b:ns.length<=n:=by
  unfold OpenLaw.pre at o;let g:(WTm.not (.lt (.lit (.int (n:Int))) (.len (.arg 0)))).holds [] {args:=[.list (ns.map .int)]}=U:=by let g:=(holds_andW o).1;rw[k]at g;show g
  let f:=condW_of g (w_not (w_lt w_lit (w_len_list (w_arg W))));rw[SI]at f;show Vu λq=>?_;let u:(n:Int)<((ns.length:Nat):Int):=by ext
  first
   |(rw[a6 u]at f;show b9 f ())
   |(simp at f;ext)
 cases i with
 |cons t p=>
  ext p;cases t with
  |list v m=>show#[_,_,ns,W,W,v,mB ns _ m,b]
theorem zP(l:OpenLaw)(args:G WData):l.row.toRowW.claim.post args (.bool U) args=U:=
 postW_of
  (show WShape.has [] (.bool U) .bool=U by first|rfl|decide|simp[WShape.has,WShape.arms,WShape.armsAll])
  (show(WTm.eq .res (.lit (.bool U))).value [] {args:=args,res:=M (.bool U),after:=args}=M (.bool (U==U))from w_eq_bool (w_res W) w_lit) W
def attach_call{l:OpenLaw}{n:Nat}{q:Tg}{e:cb Str}{I:(Str->cc OK)->Heap->Prop}{H:TN->Heap->Prop}{d:DefRec}
  (D:l.most=cL n) (v:d.params.defaults=[])
  (call:∀(w:TN) (c b:SS) (y mb:Str->cc OK) (s:SU) (o:Obj) (p m h:OK) (a:SU) (k:cb OK) (j:cb Int),
   Ground q e [] I w c y mb b.heap->H w b.heap->
   b.heap.get? s=cL o->o.data=.func (docDef d.name d.params d.body d.scope p m h)->b.heap.CodeRec m d.name->y d.name=cL (.ref s)->
   b.heap.get? a=cL {cls:=.type "list",data:=.seq k.toArray}->IntsAre k j->j.length<=n->b.gens= #v[]->
   codeAny (model l.prog w) callerA (.call (.ref s) #[[.ref a],[]]) (λr x=>r=.ok (.ret (.bool SJ))/\OldK b.heap x.heap/\x.os=b.os/\AllBare x.gens) b):
  WalkO q e I H l.row.toRowW d [] (λf k=>adm f k):=by
 intro w c b y mb G Y s o p m h T kV L O z E u N F C as B U J t M;obtain rfl:T=.none:=Dflts.none E v;obtain rfl:kV=.none:=Dflts.noKw E;let(a,k,j,rfl,rfl,A,g,i):=Al D B t;show enter_call (aav (call w c b y mb s o p m h a k j G Y L (fd_plain O) z u A g i N) λr x K=>?_);let(rfl,S,Q,P):=K;show#[.inl #[.bool SJ,.bool SJ,[],W,λ_=>W,.bool SJ,zP l _,λ_=>#[YJ,λ_ hm=>(nomatch hm)]],S,Q,P]
end Att
namespace L2
open PySem PySem.Spec PyProof.Rows
theorem qv:∀{b:G T} {a:G Int},IntsAre b a->Vals (a.map V.int) b
 |_,_,.nil=>.nil
 |_,_,.cons n t h=>.cons #[t,W] (qv h)
def Nx(H:Hp):Prop:=∀b,H b=S\/∃o xs,H b=M (.frz o (.lst xs))
def B9{P:Tg}{w:TN}{K:Bn}{R mb:Str->cc OK}{X:tt}{k:Nat}{fa a:SU}{fd:UI}{x:Str}{sp:Sp}{f:SS}{D:cb OK}{l:cb Int}
  (U:K.In f.heap) (T:f.heap.Ns T3 R) (c:f.heap.Ns builtinsNs mb) (E:∀x:Str,x≠ "__name__"->mb x=Uc x) (M:f.heap.NoLimit) (hg:f.gens= #v[])
  (ha:f.heap.get? a=cL {cls:=.type "list",data:=.seq D.toArray}) (hi:IntsAre D l) (O:l.length<=S8) (hr:V6 k callerA)
  (F:∀base:Heap,K.In base->base.Ns T3 R->FnOk P w K R base X k fa fd [x] sp) (N:∀(s:SS) (u:OK),X6 s fd #[[u],[]] [(x,u)])
  (C:∀H:Hp,Nx H->Xl K H a (l.map V.int)->sp [.ref a] H (λv _=>v=.bl SJ) λ_ _ _=>False)
  (G:∀H e y,X [] H f (λ_ _ _=>False) e y->False):
  codeAny (model P w) callerA (.call (.ref fa) #[[.ref a],[]]) (λr y=>r=.ok (.ret (.bool SJ))/\OldK f.heap y.heap/\y.os=f.os/\AllBare y.gens) f:=by
 let rv:=qv hi;let L:=hi.length
 let i:∀H:Hp,Nx H->Xl K H a (l.map V.int)->XB P w H f.heap->(∀b,H b≠CL->b=a)->(H a≠CL->K.lookup a=CL)->
   codeAny (model P w) callerA (.call (.ref fa) #[[.ref a],[]]) (λr y=>r=.ok (.ret (.bool SJ))/\OldK f.heap y.heap/\y.os=f.os/\AllBare y.gens) f:=by
  intro H Q hS U9 S hK;let g8:∀{b:SU} {o:Obj},f.heap.get? b=cL o->H b=CL->(sg f.heap H).get? b=cL o:=λe n=>A9 e n;let B:∀{b:SU} {o:Obj} {es:Array UM} {t:Nat},f.heap.get? b=cL o->o.data=.dict es t->H b=CL:=λ{b o es t} e d=>by
   cases q:H b with
   |none=>rfl
   |some u=>let I:b=a:=S b (by rw[q];simp);subst I;rw[ha]at e;ext e;let d':Data.seq D.toArray _=Data.dict es t:=d;ext d'
  let g:∀{b:SU} {m:Str->cc OK},f.heap.Ns b m->(sg f.heap H).Ns b m:=λ{b m} #[o,es,t,e,d,r]=>#[o,es,t,g8 e (B e d),d,r];let p:K.In (sg f.heap H):=λb o e=>g8 (U b o e) (by
   cases q:H b with
   |none=>rfl
   |some u=>let I:b=a:=S b (by rw[q];simp);subst I;rw[hK (by rw[q];simp)]at e;ext e)
  let hM:Mod K R (sg f.heap H):=#[p,g T,#[mb,g c,E],let#[mc,h1,h2]:=M;#[mc,g h1,h2]];let e0:abt P w K R (sg f.heap H) callerA [] f H:=#[W,hM,λb o e=>Iq e,adn (Ah _ _),trivial,λb c=>b9 (show b∈([]:cb SU)from c) (by simp),U9,.of_eq hg];show aav ((F _ p (g T)).run callerA [] f H #[[.ref a],[]] [.ref a] [.ref a] _ _ hr e0 (N f (.ref a)) (.cons W .nil) (C H Q hS)) λr y h=>?_;cases r with
  |error e=>show(G H e y h).elim
  |ok fl=>
   cases fl with
   |next=>show False.elim h
   |brk=>show False.elim h
   |cont=>show False.elim h
   |ret u=>
    let(v,H',os,A,un,J,Z,q):=h;let q':v=.bl SJ:=q;subst q';obtain rfl:u=OK.bool SJ:=Z;show#[W,OldK.of_keep λb o e=>?_,os,A];cases q:H b with
    |none=>show un.keep b o e q (by intro z;show b9 (show b∈([]:cb SU)from z) (by simp)) (by simp)
    |some u=>
     rcases Q b with z|⟨ob,xs,z⟩
     .rw[q]at z;ext z
     .let Y:=un.Yr b ob _ z;let(e1,_):=U9 b _ z;let(e2,_):=J b _ Y;rw[e]at e1;ext e1;show e2
 cases hk:K.lookup a with
 |some o=>let e:=U a o hk;rw[ha]at e;ext e;show i (λ_=>CL) (λ_=>.inl W) (.inr #[_,D.toArray,_,hk,W,W,W,by rw[Tb,L];show O,by simpa using rv]) (λb u z=>by let j:(CL:cc HO)=cL u:=z;ext j) (λb z=>b9 W z) λz=>b9 W z
 |none=>
  show i (λb=>if b=a then cL (.frz {cls:=.type "list",data:=.seq D.toArray} (.lst (l.map V.int)))else CL) (λb=>?_) (.inl (.inr #[{cls:=.type "list",data:=.seq D.toArray},ai W])) (λb u z=>?_) (λb z=>?_) λ_=>hk
  .by_cases c:b=a
   .show .inr #[_,_,ai c]
   .show .inl (ak c)
  .by_cases c:b=a
   .let j:=(ai c).symm.trans z;ext j;subst c;show#[ha,by rw[SI];show O,D,_,rv,ha]
   .let j:=(ak c).symm.trans z;ext j
  .by_cases c:b=a
   .show c
   .show b9 (ak c) z
def jD(s:Vz):Arguments:=match s with
 |.FunctionDef _ a _ _ _ _ _ _ _ _=>a
 |_=>{posonlyargs:=[],args:=[],vararg:=S,kwonlyargs:=[],kw_defaults:=[],kwarg:=S,defaults:=[]}
def cZ(s:Vz):G Vz:=match s with
 |.FunctionDef _ _ b _ _ _ _ _ _ _=>b
 |_=>[]
def aA(s:Vz):Vm:=match s with
 |.FunctionDef _ _ _ _ _ _ sc _ _ _=>sc
 |_=>{kind:=.function,names:=[],isGenerator:=SW,isCoroutine:=SW}
abbrev kP:tt:=λ_ _ _ _ _ _=>False
abbrev E0:XK:=λ_ _ _=>False
theorem PL:lC kP X E0:=λ_ _ _ _ _ _ _ h=>h.elim
structure Zk(K:Bn)(x qual:Str)(st:Vz)(f:J)(fd:UI):Prop where
 ex:∃(oc:T) (od:I J) (kV doc pm:T) (an:I J) (VU ct:T) (osl:Array (I T)),
  fd=VL x qual (jD st) (cZ st) (aA st) .none kV doc pm an VU ct/\K.lookup f=M #[oc,od,.func fd,osl]/\Xm K VU qual=U
 kp:Vl K (.ref f)=U
section
variable{P:Tg}{w:TN}{K:Bn}{Y:Str->cc OK}{Z:Heap}
def Zk.ok{x a:Str}{st:Vz}{f:J}{fd:UI}{N u:G Str}{k:Nat}{sp:Sp}(F:Zk K x a st f fd)(S:Wl N u (aA st))(len:∀c H Q E,sp c H Q E->c.length=u.length)
  (m:∀(b:T) (A:Tv) (outer:G Env) (s:SS) (H:Hp) (c:G V) (Q:VK) (E:XK),V6 k (A.deeper (envOfC a (aA st) s.heap.objs.size f b))->sp c H Q E->
   ∃t,YV (jF kP P w K Y Z N a (aA st) f b A outer s H E).nox (cZ st) t/\t {nx:=λ_ v=>Q .Wa v,rt:=Q} (start N c) H):FnOk P w K Y Z kP (k+1) f fd u sp:=by
 let(p,o,kV,l,n,r,b,ct,g,rfl,i,e):=F.ex;show N0 i e S len λA outer s H c Q E j d=>?_;let(t,h,q):=m b A outer s H c Q E j d;show#[t,h.nox,q]
def Zk.binds{x a:Str}{st:Vz}{f:J}{fd:UI}{c:G Str}(F:Zk K x a st f fd)
  (h:∀(kV b e:T) (g:I J) (i ct:T) (d:G T),d.length=c.length->bindArgs (VL x a (jD st) (cZ st) (aA st) .none kV b e g i ct) #[d,[]]=pure (c.zip d)):Binds K fd c []:=by
 let(n,m,kV,b,e,g,i,ct,j,rfl,o,l):=F.ex;show .all (h kV b e g i ct)
theorem DR{st:Vz}{kV a d b ct:T}(l:K.lookup f=M #[oc,C,.func (VL x qual (jD st) (cZ st) (aA st) .none kV a d an b ct),o])
  (c:Xm K b qual=U) (k:Vl K (.ref f)=U):Zk K x qual st f (VL x qual (jD st) (cZ st) (aA st) .none kV a d an b ct):=#[#[oc,C,kV,a,d,an,b,ct,o,W,l,c],k]
end
theorem EZ(a:V6 k A):A.units+1<cLine:=WN (Nat.add_le_add_left (by decide:1<=64) _) a.units
def U7(H a:Hp):Prop:=∀b o,H b=M o->a b=M o
theorem U7.refl(H:Hp):U7 H H:=λ_ _ h=>h
theorem U7.trans(a:U7 H H1)(b:U7 H1 H2):U7 H H2:=λc o h=>b c o (a c o h)
def U7.free(e:U7 H H')(h:H' l=S):H l=S:=by
 cases q:H l with
 |none=>rfl
 |some o=>rw[e l o q]at h;ext h
end L2
set_option maxHeartbeats 4000000
namespace L2
open PySem PySem.Spec PyProof.Rows
mutual
inductive DV(K:Bn)(H:Hp):V->SR->Prop
 |Wa:DV K H .Wa .none
 |bl (b:Bool):DV K H (.bl b) (.bool b)
 |int (i:Int):DV K H (.int i) (.int i)
 |str (x:Str):DV K H (.str x) (.str x)
 |tup {a:SU} {xs:cb V} {ds:cb SR}:WY K H a xs->UN K H xs ds->DV K H (.ref a) (.tuple ds)
 |lst {a:SU} {xs:cb V} {ds:cb SR}:Xl K H a xs->UN K H xs ds->DV K H (.ref a) (.list ds)
inductive UN(K:Bn)(H:Hp):cb V->cb SR->Prop
 |nil:UN K H [] []
 |cons {v:V} {vs:cb V} {d:SR} {ds:cb SR}:DV K H v d->UN K H vs ds->UN K H (v::vs) (d::ds)
end
section
variable{X:Cx}{Z:cb (SU×Obj)}{σ:St}{H:Hp}{s:SS}
mutual
theorem DV.reads(I:Inv X Z σ H s):∀{v:V} {d:SR} {u:OK},DV X.K H v d->RelV v u->∃as,Vq s.heap u d as
 |_,_,_,.Wa,r=>by cases r;exact⟨_,.none⟩
 |_,_,_,.bl b,r=>by cases r;exact⟨_,.bool b⟩
 |_,_,_,.int i,r=>by obtain⟨t,rfl⟩:=r;exact⟨_,.int i t⟩
 |_,_,_,.str x,r=>by obtain⟨t,rfl⟩:=r;exact⟨_,.str x t⟩
 |_,_,_,.tup h hs,r=>by cases r;obtain⟨a,rv,⟨o,e,c,n,d⟩,_⟩:=I.tuple h;obtain⟨as,q⟩:=UN.reads I hs rv;exact⟨_,.tuple e c d (by simpa using q)⟩
 |_,_,_,.lst h hs,r=>by cases r;obtain⟨a,rv,⟨o,n,e,c,_,d⟩,_⟩:=I.list h;obtain⟨as,q⟩:=UN.reads I hs rv;exact⟨_,.list e c d (by simpa using q)⟩
theorem UN.reads(I:Inv X Z σ H s):∀{vs:cb V} {ds:cb SR} {a:cb OK},UN X.K H vs ds->Vals vs a->∃as,V0 s.heap a ds as
 |_,_,_,.nil,r=>by cases r;exact⟨_,.nil⟩
 |_,_,_,.cons h hs,r=>by
  cases r with
  |cons d b=>obtain⟨as,q⟩:=DV.reads I h d;obtain⟨bs,e⟩:=UN.reads I hs b;exact⟨_,.cons q e⟩
end
end
def IB(K:Bn)(neg:Bool):R2:=λx y H Q=>∃a b,DV K H x a/\DV K H y b/\a.canLay0=U/\b.canLay0=U/\a.depth<=64/\Q (.bl (if neg then !SR.eqv a b else SR.eqv a b)) H
section
variable{X:Cx}
def M0(l:X.A.units+64<cLine):OpR X (UK .Eq) (IB X.K SW):=by intro a s j H x y v u Q I d b h;let(o,n,h1,i,l1,g,m,q):=h;let(as,f):=h1.reads I d;let(bs,e):=i.reads I b;show afe f e l1 g () #[.bl _,H,I,W,q]
def KB(l:X.A.units+64<cLine):OpR X (UK .NotEq) (IB X.K U):=by intro a s j H x y v u Q I d b h;let(o,n,h1,i,l1,g,m,q):=h;let(as,f):=h1.reads I d;let(bs,e):=i.reads I b;show aff f e l1 g () #[.bl _,H,I,W,q]
theorem Cg:OpR X (U0 .FloorDiv) (rI (λ_ j=>0<j/\j.natAbs.log2<9000) λi j=>.int (i/j)):=Qi λi j _ _ _ _ _ a q=>by let h1:(0:Int)<j:=a.1;show floordiv_int () (by rw[Int.fdiv_eq_ediv_of_nonneg i ()];show q) (.inl (PyProof.noPylong_of_log2 a.2))
end
def fE(env:Env):G (Str×Tq)->G (Str×J)->G (Str×J)
 |[],acc=>acc
 |(n,k)::r,acc=>if(k==Tq.free)=U then(match env.cells.lookup n with|some c=>fE env r ((n,c)::acc)|none=>fE env r acc)else fE env r acc
theorem j3{f:Str×Tq->G (Str×J)->Sem (ForInStep (G (Str×J)))}
  (h1:∀n k acc,(k==Tq.free)=SW->f (n,k) acc=pure (.yield acc)) (a:∀n c acc,env.cells.lookup n=M c->f (n,.free) acc=pure (.yield ((n,c)::acc))):
  ∀(names:G (Str×Tq)) (acc:G (Str×J)),(∀y∈names,y.2=.free->∃c,env.cells.lookup y.1=M c)->forIn names acc f=pure (fE env names acc)
 |[],acc,_=>rfl
 |(n,k)::r,acc,h=>by
  let b:=λy g=>h y (S5 _ g);rw[Yv];cases j:(k==Tq.free)with
  |false=>rw[h1 n k acc j,pure_bind];show forIn r acc f=_;rw[j3 h1 a r acc b];simp only[fE,j,S4,if_false]
  |true=>
   let e:k=.free:=by simpa using j
   subst e;let(c,d):=h _ Ta W;rw[a n c acc d,pure_bind];show forIn r ((n,c)::acc) f=_;rw[j3 h1 a r _ b];let i:=d;simp only[fE,j,if_true,i]
def vp(h:∀y∈scope.names,y.2=.free->∃c,env.cells.lookup y.1=M c):closureFor scope env=pure (fE env scope.names []):=by simp only[closureFor];rw[j3 (λn k a b=>by simp only[b,S4,if_false]) (λn c a d=>by simp only[ey,if_true,cellOf,d,pure_bind]) scope.names [] h,pure_bind]
theorem iQ:∀(names:G (Str×Tq)) (acc:G (Str×J)),(∀x c,acc.lookup x=M c->env.cells.lookup x=M c)->∀x c,(fE env names acc).lookup x=M c->env.cells.lookup x=M c
 |[],_,h,x,c,e=>h x c e
 |(n,k)::r,acc,h,x,c,e=>by
  unfold fE at e;split at e
  .split at e
   .rename_i f b
    show iQ r _ (λy d q=>?_) x c e;rw[Ui]at q;split at q
    .rename_i a;ext q;rw[eq_of_beq a];show b
    .show h y d q
   .show iQ r acc h x c e
  .show iQ r acc h x c e
theorem jC:∀(names:G (Str×Tq)) (acc:G (Str×J)) (x:Str),(acc.lookup x).isSome=U->((fE env names acc).lookup x).isSome=U
 |[],_,_,h=>h
 |(n,k)::r,acc,x,h=>by
  ext fE;split
  .split
   .show jC r _ x ?_
    rw[Ui];split
    .rfl
    .show h
   .show jC r acc x h
  .show jC r acc x h
theorem kF:∀(names:G (Str×Tq)) (acc:G (Str×J)) (x:Str) (c:J),(x,Tq.free)∈names->env.cells.lookup x=M c->((fE env names acc).lookup x).isSome=U
 |[],_,_,_,h,_=>by ext h
 |(n,k)::r,acc,x,c,h,a=>by
  rcases Tf.mp h with z|h
  .ext z;simp only[fE,ey,if_true,a];show jC r _ _ (by simp[Ui])
  .ext fE
   split
   .split
    .show kF r _ x c h a
    .show kF r acc x c h a
   .show kF r acc x c h a
def u9(h:(x,Tq.free)∈names)(a:env.cells.lookup x=M c):(fE env names []).lookup x=M c:=by
 let q:=kF names [] x c h a;cases e:(fE env names []).lookup x with
 |none=>rw[e]at q;ext q
 |some d=>let z:=iQ names [] (λy d q=>by ext q) x d e;rw[a]at z;show z.symm
def uL{env:Env}{a:Vm}{x:Str}{k:Tq}(h:(relabel a env).names.lookup x=M k):∃k0,(x,k0)∈a.names/\(k=k0\/(k0=.free/\k=.cell)):=by
 let((n,k0),hm,e):=S7.mp (Va h);simp only at e;split at e
 .rename_i b
  ext e;let d:(k0==Tq.free)=U:=by rw[Ld,Ld]at b;show b.1.1
  show#[k0,hm,.inr #[by simpa using d,W]]
 .ext e;show#[_,hm,.inl W]
theorem iA{env:Env}:∀{names:G (Str×Tq)} {x:Str},names.lookup x=M .free->
  (names.map λ(n,k)=>if(k==Tq.free&&env.scope.kind==.function&&env.kindOf n==M .cell)then(n,Tq.cell)else(n,k)).lookup x=M .cell\/
  (names.map λ(n,k)=>if(k==Tq.free&&env.scope.kind==.function&&env.kindOf n==M .cell)then(n,Tq.cell)else(n,k)).lookup x=M .free
 |[],_,h=>by ext h
 |(n,k)::r,x,h=>by
  rw[Ui]at h;rw[SX];dsimp only;by_cases a:(k==Tq.free&&env.scope.kind==.function&&env.kindOf n==M .cell)=U
  .rw[ai a,Ui]
   cases b:x==n with
   |true=>show .inl W
   |false=>rw[b]at h;show iA h
  .rw[ak a,Ui]
   cases b:x==n with
   |true=>rw[b]at h;show .inr h
   |false=>rw[b]at h;show iA h
def cH(own:G Str)(a:G (Str×Nat)):G Str:=own++a.map (·.1)
def fw(own:G Str)(b:G (Str×Nat))(a:St):St:=own.map (λ_=>S)++b.map λp=>(a[p.2]?).join
def Zj(X:Cx)(a:Vm):G (Str×Nat)->Prop
 |[]=>True
 |p::r=>(X.N[p.2]?=M p.1/\a.names.lookup p.1=M .free/\(X.env.scope.names.lookup p.1=M .cell\/X.env.scope.names.lookup p.1=M .free))/\Zj X a r
theorem Zj.mem:∀{a:G (Str×Nat)},Zj X scope a->∀p∈a,X.N[p.2]?=M p.1/\scope.names.lookup p.1=M .free/\(X.env.scope.names.lookup p.1=M .cell\/X.env.scope.names.lookup p.1=M .free)
 |[],_,p,b=>by ext b
 |q::r,h,p,b=>by
  rcases Tf.mp b with z|b
  .rw[z];show h.1
  .show h.2.mem p b
def qQ(X:Cx)(a:Vm)(C:J):G (Str×J):=Vg (C+1) a.names (fE X.env a.names [])
theorem oj:∀(names:G (Str×Tq)) (n:Nat) (acc:G (Str×J)) (x:Str) (c:J),(Vg n names acc).lookup x=M c->(n<=c/\(x,Tq.cell)∈names)\/acc.lookup x=M c
 |[],_,_,_,_,h=>.inr h
 |(y,k)::r,n,acc,x,c,h=>by
  unfold Vg at h;by_cases a:(k==Tq.cell)=U
  .rw[ai a]at h
   let e:k=.cell:=by simpa using a
   rcases oj r _ _ x c h with⟨h1,b⟩|h1
   .show .inl #[WW h1,S5 _ b]
   .rw[Ui]at h1
    split at h1
    .rename_i d;ext h1;show .inl #[SN _,by rw[eq_of_beq d,e];show Ta]
    .show .inr h1
  .rw[ak a]at h
   rcases oj r _ _ x c h with⟨h1,b⟩|h1
   .show .inl #[h1,S5 _ b]
   .show .inr h1
theorem DK:∀(names:G (Str×Tq)) (n:Nat) (acc:G (Str×J)) (x:Str),(x,Tq.cell)∉names->(Vg n names acc).lookup x=acc.lookup x
 |[],_,_,_,_=>rfl
 |(y,k)::r,n,acc,x,h=>by
  let b:=λz=>h (S5 _ z);ext Vg;by_cases a:(k==Tq.cell)=U
  .let e:k=.cell:=by simpa using a
   rw[ai a,DK r _ _ x b,Ui];let d:(x==y)=SW:=by show beq_eq_false_iff_ne.mpr λz=>h ?_;rw[z,e];show Ta
   rw[d]
  .rw[ak a];show DK r _ _ x b
theorem oi:∀(names:G (Str×Tq)) (h:Heap) (acc:G (Str×J)) (x:Str) (c:J),(Vg h.objs.size names acc).lookup x=M c->(h.objs.size<=c/\(pushCells h names).IsCell c S)\/acc.lookup x=M c
 |[],_,_,_,_,e=>.inr e
 |(y,k)::r,h,acc,x,c,e=>by
  unfold Vg at e;ext pushCells;by_cases a:(k==Tq.cell)=U
  .rw[ai a]at e⊢
   rw[<-c5 h {cls:=.type "cell",data:=.cell S}]at e;rcases oi r _ _ x c e with⟨h1,b⟩|h1
   .rw[c5]at h1;show .inl #[WW h1,b]
   .rw[Ui]at h1
    split at h1
    .ext h1;show .inl #[SN _,_,Za _ _ _ _ (c0 _ W),W]
    .show .inr h1
  .rw[ak a]at e⊢;show oi r _ _ x c e
theorem xj:∀(names:G (Str×Tq)) (n:Nat) (acc:G (Str×J)),(∀x c,acc.lookup x=M c->c<n)->(∀x y c,acc.lookup x=M c->acc.lookup y=M c->x=y)->∀x y c,(Vg n names acc).lookup x=M c->(Vg n names acc).lookup y=M c->x=y
 |[],_,_,_,i,x,y,c,e1,e2=>i x y c e1 e2
 |(z,k)::r,n,acc,h1,i,x,y,c,e1,e2=>by
  unfold Vg at e1 e2;by_cases g:(k==Tq.cell)=U
  .rw[ai g]at e1 e2
   show xj r (n+1) ((z,n)::acc) (λa d q=>?_) (λa b d f e=>?_) x y c e1 e2
   .rw[Ui]at q
    split at q
    .ext q;show UX _
    .show Wj (h1 a d q)
   .rw[Ui]at f e
    split at f
    .rename_i j
     split at e
     .rename_i h;rw[eq_of_beq j,eq_of_beq h]
     .ext f;show b9 (h1 b _ e) (Ub _)
    .split at e
     .ext e;show b9 (h1 a _ f) (Ub _)
     .show i a b d f e
  .rw[ak g]at e1 e2;show xj r n acc h1 i x y c e1 e2
theorem wZ:∀{names:G (Str×Tq)} {x:Str} {k a:Tq},(names.map (·.1)).Nodup->names.lookup x=M k->(x,a)∈names->k=a
 |[],_,_,_,_,h,_=>by ext h
 |(y,j)::r,x,k,a,d,h,hm=>by
  rw[SX,Uh]at d;rw[Ui]at h;rcases Tf.mp hm with e|b
  .ext e;rw[ey]at h;show(Tx h).symm
  .cases f:x==y with
   |true=>rw[eq_of_beq f]at b;show b9 (S7.mpr #[_,b,W]) d.1
   |false=>rw[f]at h;show wZ d.2 h b
def bC(X:Cx)(s:SS)(H:Hp)(a:Vm)(C:J)(N:G Str)(b:G J):Cx:=
 {X with N:=N,s₀:=s,H₀:=H,env:=compEnvC a (qQ X a C) C X.env,outer:=X.stack,stack:=X.stack,ex:=b,fn:=λx=>((fE X.env a.names []).lookup x).isNone,pn:=[],xe:=λ_ _=>False}
section
variable{X:Cx}{Z:cb (SU×Obj)}{Y:St}{H:Hp}{s:SS}
def pS{a:Vm}(I:Inv X Z Y H s)(e:(fE X.env a.names []).lookup x=M c):X.env.cells.lookup x=M c/\c<s.heap.objs.size:=by let h:=iQ _ _ (λ_ _ q=>by ext q) x c e;let(v,o,z,_):=I.cell x c h;show#[h,cv z]
theorem xX(I:Inv X Z Y H s)(J:scope.kind=.function)(j:(scope.names.map (·.1)).Nodup)
  (m:∀y∈scope.names,y.2=.free->∃c,X.env.cells.lookup y.1=M c) (f:s.heap.objs.size<=C) (i:∀b∈fp,oZ X Z H b) (d:∀b∈fp,b<s.heap.objs.size):(bC X s H scope C N fp).Ok where
 mod:=I.ok.mod
 kind:=J
 glob:=I.ok.glob
 blt:=I.ok.blt
 above:=f
 inj:=xj _ _ _ (λx c e=>Wj (To (pS I e).2 f)) λx y c h1 t=>I.ok.inj x y c (pS I h1).1 (pS I t).1
 has:=λx v=>by
  let G:∃k,(relabel scope X.env).names.lookup x=M k/\(k=.cell\/k=.free):=by
   rcases v with z|z
   .show#[_,z,.inl W]
   .show#[_,z,.inr W]
  let(k,A,F):=G;let(k0,hm,E):=uL A;let e:k0=.free\/k0=.cell:=by
   rcases E with z|⟨z,_⟩
   .subst z
    rcases F with z|z
    .show .inr z
    .show .inl z
   .show .inl z
  let q:((qQ X scope C).lookup x).isSome=U:=by
   rcases e with e|e
   .subst e;let(c,B):=m _ hm W;show V3 _ _ _ (.inr (by rw[u9 hm B];rfl))
   .subst e
    show V3 _ _ _ (.inl ?_);cases z:scope.names.lookup x with
    |none=>show b9 hm (λhm=>by
      let:∀{l:cb (Str×Tq)},l.lookup x=S->(x,Tq.cell)∉l:=λ{l}=>by
       induction l with
       |nil=>show λ_=>by simp
       |cons p r u=>
        intro h q;rw[Ui]at h;rcases Tf.mp q with q|q
        .rw[<-q,ey]at h;ext h
        .split at h
         .ext h
         .show u h q
      show this z hm)
    |some K=>rw[wZ j z hm]
  show UD.mp q
 cab:=λx c h1 t=>by
  let g:((fE X.env scope.names []).lookup x).isNone=U:=h1;let n:=t;rcases oj _ _ _ x c n with⟨z,_⟩|z
  .show S9 f (WW z)
  .rw[z]at g;ext g
 hd:=I.ok.hd
 frames:=I.ok.frames
 stk:=.inl W
 exf:=λb a=>#[TB (To (d b a) f),λx c e=>by
  rcases oj _ _ _ x c e with⟨z,_⟩|z
  .show UZ (To (To (d b a) f) (WW z))
  .show(i b a).2.2.2.2.1 x c (pS I z).1]
 bs:=I.bs
 bsz:=S9 I.ok.bsz I.sz
 Z8:=λb o e a=>by
  rcases(i b a).2.2.2.1 with z|z
  .show I.ok.Z8 b o e z
  .show b9 (To (cv e) (S9 I.ok.bsz z)) (Ub _)
 aaa:=λb a w=>by
  rcases Tf.mp (I.Y0 b w)with z|z
  .show(i b a).2.1 z
  .show(i b a).2.2.1 z
 Ye:=I.stack
 frf:=I.YT
def Bm(I:Inv X Z Y H s)(Xr:scope.kind=.function)(g:(scope.names.map (·.1)).Nodup)
  (L:∀y∈scope.names,y.2=.free->∃c,X.env.cells.lookup y.1=M c) (F:Zj X scope fv) (B:s.heap.objs.size<=D) (j:D<C) (P:s.heap.objs.size<=C) (hf:∀b∈fp,oZ X Z H b) (N:∀b∈fp,b<s.heap.objs.size)
  (R:h1.Ns C m) (E:∀x c,(qQ X scope C).lookup x=M c->C<c->∃v,h1.IsCell c v) (w:∀b o,s.heap.get? b=M o->h1.get? b=M o) (hd:∃n,h1.get? D=M {cls:=.type "list",data:=.seq #v[] n}):
  Inv (bC X s H scope C (cH own fv) fp) [] (fw own fv Y) (upd H D (.lst [])) {s with heap:=h1,toks:=t1}:=by
 let hn:=I.U9.fresh B;let(n,hd):=hd;let O:=UZ j;let h:∀x c,(qQ X scope C).lookup x=M c->C<c\/(X.env.cells.lookup x=M c/\c<s.heap.objs.size):=λx c e=>by
  rcases oj _ _ _ x c e with⟨z,_⟩|z
  .show .inl z
  .show .inr (pS I z)
 show#[xX I Xr g L P hf N,W,I.bare,Un.laid w B hn,#[m,R,λi x v e1 e2 e3=>?_],λx c e=>?_,?_,λx c e=>?_,λp hp=>b9 (show p∈([]:G (J×Obj))from hp) (by simp),?_,?_]
 .
  let d:(own++fv.map (·.1))[i]?=M x:=e1;let a:(own.map (λ_=>(S:cc V))++fv.map λp=>(Y[p.2]?).join)[i]?=M (M v):=e2;let A:own.length<=i:=by
   by_cases A:i<own.length
   .rw[Ti (by simpa using A),S3]at a
    cases q:own[i]? with
    |none=>rw[q]at a;ext a
    |some _=>rw[q]at a;ext a
   .omega
  rw[Tr A,S3]at d;rw[Tr (by simpa using A),S3,SI]at a;cases q:fv[i - own.length]? with
  |none=>rw[q]at d;ext d
  |some p=>
   rw[q]at d a;let ex:=Tx d;subst ex;let ev:(Y[p.2]?).join=M v:=Tx a;let(g1,g2,g3):=F.mem p (Te q);let Q:Y[p.2]?=M (M v):=by
    cases z:Y[p.2]? with
    |none=>rw[z]at ev;ext ev
    |some y=>rw[z]at ev;show eh M ev
   let(m0,_,hl):=I.loc;let(u,r,l):=hl p.2 p.1 v g1 Q (.inr g3);show#[u,r,?_];let l2:∃c,X.env.cells.lookup p.1=M c/\s.heap.IsCell c (M u):=by
    rcases l with⟨k,_⟩|⟨_,c,e,z⟩
    .let t:X.env.scope.names.lookup p.1=M .local:=k
     rcases g3 with z|z
     .rw[z]at t;ext t
     .rw[z]at t;ext t
    .show#[c,e,z]
   let(c,e,o,K,f):=l2;show .inr #[?_,c,?_,o,w c o K,f]
   .show iA g2
   .show(qQ X scope C).lookup p.1=M c;ext qQ;rw[DK _ _ _ _ λz=>by cases wZ g g2 z];show u9 (Va g2) e
 .rcases h x c e with z|⟨z,_⟩
  .show E x c e z
  .let(v,o,K,f):=I.cell x c z;show#[v,o,w c o K,f]
 .show upd H D (.lst []) C=S;rw[av O];show I.U9.fresh P
 .show upd H D (.lst []) c=S
  rcases h x c e with z|⟨z1,z2⟩
  .rw[av (UZ (Vx j z))];show I.U9.fresh (S9 P (Uy z))
  .rw[av (TB (To z2 B))];show I.Xs x c z1
 .show I.U9.laid w B #[by show 0<=S8;show TX _,[],n,.nil,hd]
 .show(own.map (λ_=>(S:cc V))++fv.map λp=>(Y[p.2]?).join).length=(own++fv.map (·.1)).length;simp
end
def zR(X:Cx)(d:G Ts)(t:TT):Prop:=
 ∀(a:G (J×Obj)) (s:SS) (b:St) (H:Hp) (Q:Bool->Hp->Prop),Inv X a b H s->t b H Q->
  wpAny (model X.prog X.w) X.A (forIn d U λc r=>if r=U then do let ok<-isTrue c X.env (eval c X.env);pure (ForInStep.yield ok)else pure (ForInStep.yield r)) (TP X a b Q) X.xe s
def uV:TT:=λ_ H Q=>Q U H
theorem mX:zR X [] uV:=λ_ _ _ H _ I h=>wpAny_tests_nil #[H,I,h]
theorem E1(h:PT X c o):zR X [c] o:=λa s b H Q I d=>wpAny_tests_one (h a s b H Q I d)
def x5(J:It)(D:SU)(d:St)(g:TG)(h:TT)(c:TE)(l:Hp)(Fin:Hp->Prop):Prop:=
 ∃W:Nat->Nat->St->Hp->Prop,(∃m,W 0 m d (upd l D (.lst [])))/\∀i m σ H,W i m σ H->
  (J.stop i H/\Fin H)\/(J.go i H/\∃N:St->Hp->Prop,(∀n o,N n o->∃p,p<m/\W (i+1) p n o)/\
   ∀x o,J.yld i H x o->g x σ o λa j=>h a j λb f=>if b=U then c a f λy e=>∃ys,e D=M (.lst ys)/\ys.length<S8/\N a (upd e D (.lst (ys++[y])))else N a f)
section
variable{Y:Tg}{w:TN}{A:Tv}{s:SS}
def zi{elt k iter:Ts}{d:G Ts}{b:Vm}{pos:Pos}{it acc:T}{env:Env}{R:Yk->SS->Prop}{XE:T->SS->Prop}(o:∀x s1,XE x s1->notedBy (model Y w) A env (λe s2=>R (.error e) s2) x s1)(I:Nat->SS->Prop)
  (f:∀n s,I n s->wpAny (model Y w) A (pyNext it) (λr s1=>match r with
   |none=>R (.ok .next) s1
   |some v=>wpAny (model Y w) A (letOwnedTupleGo k it v) (λ_ s2=>wpAny (model Y w) A (assign k env v) (λ_ s3=>
     wpAny (model Y w) A (forIn d U λc r=>if r=U then do let ok<-isTrue c env (eval c env);pure (ForInStep.yield ok)else pure (ForInStep.yield r)) (λok s4=>
      if ok=U then wpAny (model Y w) A (eval elt env) (λx s5=>
       wpAny (model Y w) A (call (.builtin "list.append") [acc,x]) (λ_ y=>∃m,m<n/\I m y) (λ_ _=>False) s5) XE s4
      else∃m,m<n/\I m s4) (λ_ _=>False) s3) (λ_ _=>False) s2) (λ_ _=>False) s1) (λ_ _=>False) s)
  (n:Nat) (h:I n s):codeAny (model Y w) A (.compLoop (.ListComp elt [#[k,iter,d,0]] b pos) 0 it acc env) R s:=by
 show codeAny_loop W I (λn s p=>?_) n h;show wpAny _ A (Sem.onRaise (compTurn (.ListComp elt [#[k,iter,d,0]] b pos) 0 it acc env) (λx=>do noteFrame x env;theTreesLotGoes x)) _ _ s;show wpAny_noted ?_;rw[compTurn_list]
 let g:∀{α:Type} {t:Sem α} {Q l:α->SS->Prop} {E:T->SS->Prop} {s:SS},wpAny (model Y w) A t Q (λ_ _=>False) s->(∀a C,Q a C->l a C)->wpAny (model Y w) A t l E s:=
  λh1 i=>wpAny_mono h1 i λ_ _ z=>False.elim z
 show lD (wpAny_standAt (lD (g (f n s p) λr s1 h1=>?_)));cases r with
 |none=>show SH h1
 |some v=>
  show lD (g h1 λ_ s2 i=>lD (g i λ_ s3 B=>lD (g B λok s4 j=>?_)));cases ok with
  |false=>show SH #[W,j]
  |true=>show lD (lD (wpAny_mono j (λx s5 u=>lD (g u λ_ y q=>SH (SH #[W,q]))) o))
end
section
variable{X:Cx}{Z:cb (SU×Obj)}{Y:St}{H:Hp}{s:SS}
def rX
  (h:Q (newEnv scope s.heap.objs.size globals (Vg (s.heap.objs.size+1) scope.names closure) qual S .none (cL env) builtinsNs) {s with heap:=pushCells (s.heap.push {cls:=.type "dict",data:=.dict #v[]}) scope.names}):
  wpAny e A (newFunctionEnv scope globals closure [] qual S .none (cL env)) Q E s:=by
 simp only[newFunctionEnv,ZK,if_true];show lD (wpAny_alloc ?_);show lD (wpAny_layCells _ (λd a b=>by cases f:a==Tq.cell<;>simp[f]) _ _ _ _ ?_);rw[show({s with heap:=s.heap.push {cls:=.type "dict",data:=.dict #v[]}}:SS).heap.objs.size=s.heap.objs.size+1 from c5 ..];rw[abM];show lD (SH (SH h))
def wt{elt tg iter:Ts}{B:cb Ts}{scope:Vm}{pos:Pos}{own:cb Str}{h:cb (Str×Nat)}{g:TG}{tc:TT}{te:TE}{E:OK->SS->Prop}{it:SU}{k:cb SU}{V:Nat->Heap->Prop}{J:It}{Fin:SU->Hp->Prop}
  {RR:OK->SU->Yk->SS->Prop} (I:Inv X Z Y H s) (hc:X.calm=SJ) (Xr:scope.kind=.function) (hnd:(scope.names.map (·.1)).Nodup) (hfr:∀y∈scope.names,y.2=.free->∃c,X.env.cells.lookup y.1=cL c) (hfv:Zj X scope h)
  (T:Turn X.prog X.w X.K tg J k it V) (st:V 0 s.heap) (G:∀b∈k,oZ X Z H b)
  (hg:∀C,PG (bC X s H scope C (cH own h) k) tg g) (ht:∀C,zR (bC X s H scope C (cH own h) k) B tc) {W:SU->OK->SS->Prop} (he:∀C,PE ((bC X s H scope C (cH own h) k).XS (W C)) elt te) (hEE:∀D C x s1,s.heap.objs.size<=C->W C x s1->notedBy (model X.prog X.w) X.A (compEnvC scope (qQ X scope C) C X.env) (λe s2=>RR (.ref D) C (.error e) s2) x s1)
  (hR:∀D,H D=CL->x5 J D (fw own h Y) g tc te H (Fin D))
  (hRR:∀D C K R,Inv X Z Y K R->Fin D K->(∃m,R.heap.Ns C m)->s.heap.objs.size<=C->K C=CL->RR (.ref D) C (.ok .next) R):
  wpAny (model X.prog X.w) X.A (newList []) (λacc s3=>wpAny (model X.prog X.w) X.A (newFunctionEnv scope X.env.globals (fE X.env scope.names []) [] X.env.qual CL .none (cL X.env)) (λadQ s4=>
   codeAny (model X.prog X.w) X.A (.compStart (.ListComp elt [#[tg,iter,B,0]] scope pos) 0 (.ref it) acc {adQ with scope:=relabel scope X.env}) (RR acc adQ.locals) s4) E s3) E s:=by
 show TJ ?_;generalize hH2:s.heap.push {cls:=.type "list",dict:=CL,data:=.seq ([]:cb OK).toArray}=A;let hz:A.objs.size=s.heap.objs.size+1:=by rw[<-hH2,c5]
 show rX (s:={s with heap:=A}) ?_;let L:s.heap.objs.size<A.objs.size:=by rw[hz];show UX _
 let hC:s.heap.objs.size<=A.objs.size:=Uy L;generalize hH1:pushCells (A.push {cls:=.type "dict",data:=.dict #v[]}) scope.names=h1;let kp2:∀b o,A.get? b=cL o->h1.get? b=cL o:=λb o e=>by rw[<-hH1];show Za _ _ b o (cj _ e)
 let kp:∀b o,s.heap.get? b=cL o->h1.get? b=cL o:=λb o e=>kp2 b o (by rw[<-hH2];show cj _ e);let Zr:h1.Ns A.objs.size (λ_=>CL):=by rw[<-hH1];show(Heap.Ns.new A (.type "dict")).keeps (Za _ _)
 let hoc:∀x c,(qQ X scope A.objs.size).lookup x=cL c->A.objs.size<c->∃v,h1.IsCell c v:=λx c e WZ=>by
  let e':(Vg (A.push {cls:=.type "dict",data:=.dict #v[]}).objs.size scope.names (fE X.env scope.names [])).lookup x=cL c:=by rw[c5];show e
  rcases oi _ _ _ x c e' with⟨_,z⟩|z
  .show#[CL,by rw[<-hH1];show z]
  .show b9 (Vx (pS I z).2 (Vx L WZ)) (Ub _)
 let hd:∃n,h1.get? s.heap.objs.size=cL {cls:=.type "list",data:=.seq #v[] n}:=#[0,kp2 _ _ (by rw[<-hH2];show c0 _ rfl)];let F:∀b∈k,b<s.heap.objs.size:=λb f=>by let(o,e,_):=T.obj 0 _ st b f;show cv e
 let hn:H s.heap.objs.size=CL:=I.U9.fresh (SN _);let(W,(m0,w0),U):=hR s.heap.objs.size hn;let M:∀{pl:cb (SU×Obj)} {K:Hp},(∀b∈k,K b=CL)->(∀p∈pl,p.1∉k)->∀b∈k,oZ (bC X s H scope A.objs.size (cH own h) k) pl K b:=λ{pl K} hn' hpl b f=>by let ok:=xX (C:=A.objs.size) (N:=cH own h) I Xr hnd hfr hC G F;show#[hn' b f,(ok.exf b f).1,ok.aaa b f,.inl f,(ok.exf b f).2,λp hp=>by let hp':p∈([]:cb (SU×Obj))++pl:=hp;intro z;show hpl p (by simpa using hp') (by rw[z];show f)]
 let l:∀s4:SS,s4={s with heap:=h1}->
   codeAny (model X.prog X.w) X.A (.compLoop (.ListComp elt [#[tg,iter,B,0]] scope pos) 0 (.ref it) (.ref s.heap.objs.size) (compEnvC scope (qQ X scope A.objs.size) A.objs.size X.env)) (RR (.ref s.heap.objs.size) A.objs.size) s4:=by
  rintro s4 rfl
  let I0:Inv (bC X s H scope A.objs.size (cH own h) k) [] (fw own h Y) (upd H s.heap.objs.size (.lst [])) {s with heap:=h1}:=
   Bm I Xr hnd hfr hfv (SN _) L hC G F Zr hoc kp hd
  let st0:V 0 h1:=T.keep 0 _ _ st λb _ o e=>kp b o e;let fr0:∀b∈k,(upd H s.heap.objs.size (.lst [])) b=CL:=λb f=>by rw[av (TB (F b f))];show(G b f).1
  show zi (λx s1 z=>hEE _ _ x s1 hC z) (λn R=>∃i σ' K,Inv (bC X s H scope A.objs.size (cH own h) k) [] σ' K R/\V i R.heap/\(∀b∈k,K b=CL)/\W i n σ' K) ?_ m0 #[0,_,_,I0,st0,fr0,w0];rintro n s5 ⟨i,j,H5,I5,st5,fr5,w5⟩;rcases U i n j H5 w5 with⟨stop,fin⟩|⟨go,N,hN,step⟩
  .show bG (T.done (bC X s H scope A.objs.size (cH own h) k) rfl rfl rfl hc i [] s5 j H5 (λ_ _=>False) I5 (M fr5 (by simp)) st5 stop) λr s6 #[hr,Q]=>?_;subst hr;let(mm,hm,_):=Q.loc;show hRR _ _ H5 s6 ?_ fin #[mm,hm] hC Q.free;show I.abV (ch:=k) Q.os Q.base Q.U9 Q.bare λb f=>#[(G b f).2.2.2.1,(G b f).2.1,(G b f).2.2.2.2.1,(G b f).2.2.2.2.2]
  .show bG (T.item (bC X s H scope A.objs.size (cH own h) k) rfl rfl rfl hc i [] s5 j H5 (λ_ _=>False) I5 (M fr5 (by simp)) st5 go) λr s6 #[u,hr,h6]=>?_
   subst hr;show bG h6 λ_ s7 a=>?_;let(x,H7,I7,r7,y7,t,fr7):=a;let I7':=I7.pinned (fp:=k) (M fr7 (by simp)) (T.obj _ _ t);let q:∀{a:St} {O:Hp} {P:SS},Inv (bC X s H scope A.objs.size (cH own h) k) ([]++ny k s7.heap) a O P->N a O->∃m,m<n/\∃i σ' K,Inv (bC X s H scope A.objs.size (cH own h) k) [] σ' K P/\V i P.heap/\(∀b∈k,K b=CL)/\W i m σ' K:=λ{a O P} I8 n8=>by let(m',hm,w8):=hN a O n8;show#[m',hm,i+1,a,O,I8.XT,T.keep _ _ _ t λb f o e=>(I8.pin (b,o) (Tw _ (Tw _ (gS f e)))).1,λb f=>?_,w8];let(o,e,d):=T.obj _ _ t b f;show(I8.pin (b,o) (Tw _ (Tw _ (gS f e)))).2.1
   show bG (hg _ _ s7 j H7 x u _ I7' r7 (step x H7 y7)) λ_ P a=>?_;let(a,O,I8,q8):=a;show bG (ht _ _ P a O _ I8 q8) λok s9 a=>?_;let(H9,I9,q9):=a;cases ok with
   |false=>rw[ak Td]at q9⊢;show q I9 q9
   |true=>rw[ai rfl]at q9⊢;show bG (he _ _ s9 a H9 _ (I9.XS _) q9) λy s10 a=>?_;let(w,H10,agB,r10,ys,hy,hl,q10):=a;let I10:=agB.W6;show bG (lM _ s10 a H10 (.ref s.heap.objs.size) [w] (.ref s.heap.objs.size) [y] (λ_ H11=>N a H11) I10 rfl (.cons r10 .nil) #[_,ys,w,rfl,rfl,hy,hl,q10]) λ_ s11 a=>?_;let(v11,H11,I11,_,q11):=a;show q I11 q11
 show codeAny_compStart_list (l _ rfl) (T.self _ 0 _ _ _ (T.keep 0 _ _ st λb _ o e=>kp b o e) (l _ rfl))
def ul(own:G Str)(e:G (Str×Nat))(b:TI)(g:TG)(d:TT)(c:TE):TE:=λY H Q=>b Y H λJ a=>∀D,a D=S->x5 J D (fw own e Y) g d c a λf=>Q (.ref D) f
theorem yQ{a:Vm}(ok:X.Ok)(h:∀y∈a.names,y.2=.free->(X.env.scope.names.lookup y.1=M .cell\/X.env.scope.names.lookup y.1=M .free)):∀y∈a.names,y.2=.free->∃c,X.env.cells.lookup y.1=M c:=
 λy b e=>ok.has y.1 (h y b e)
theorem N9{a sc:Vm}(h:(a.names.all λy=> !(y.2==Tq.free)||(sc.names.lookup y.1==M Tq.cell)||(sc.names.lookup y.1==M Tq.free))=U):
  ∀y∈a.names,y.2=.free->(sc.names.lookup y.1=M .cell\/sc.names.lookup y.1=M .free):=λy b e=>by
 let q:=TR.mp h y b;rw[e]at q
 simpa using q
def yZ{elt tg iter:Ts}{ifs:G Ts}{scope:Vm}{pos:Pos}(own:G Str)(c:G (Str×Nat)){r:TI}{g:TG}{t:TT}{te:TE}(N:X.calm=U)(F:PI X tg iter r)
  (L:∀s H C a,PG (bC X s H scope C (cH own c) a) tg g) (B:∀s H C a,zR (bC X s H scope C (cH own c) a) ifs t) (he:∀s H C a,PE (bC X s H scope C (cH own c) a) elt te) (k:Zj X scope c)
  (l:(scope.names.all λy=> !(y.2==Tq.free)||(X.env.scope.names.lookup y.1==M Tq.cell)||(X.env.scope.names.lookup y.1==M Tq.free))=U)
  (u:scope.kind=.function:=by rfl) (j:(scope.names.map (·.1)).Nodup:=by decide+kernel)
  (n:∀y∈scope.names,y.2=.local->scope.names.lookup y.1=M .local:=by decide+kernel) (E:∀x,foldedSetIterable iter X.env x=pure x:=by intro _;rfl):
  PE X (.ListComp elt [#[tg,iter,ifs,0]] scope pos) (ul own c r g t te):=by
 intro Z s Y H Q I h;let d:=N9 l;rw[eval_ListComp];show wpAny_comprehension_free (use:=S) rfl E (vp (yQ I.ok d)) u n (bG (F Z s Y H _ I h) λxv s1 h1=>bG h1 λA s2 h2=>?_);let(it,a,tn,J,H2,e,v,T,f,f2,R):=h2;subst e;show wt v N u j (yQ I.ok d) k T f f2 (λC=>L _ _ C _) (λC=>B _ _ C _) (W:=λ_ _ _=>False) (λC=>he _ _ C _) (λ_ _ _ _ _ z=>z.elim) (Fin:=λD p=>Q (.ref D) p) R ?_;intro D C p w I' fin hm P K;let(m,hm):=hm;show#[m,hm,λh' i=>#[.ref D,p,?_,rfl,fin]];let(f0,f1,_,f3,f4,f5):=v.ZC P K;show I'.turned (t':=w.toks) (λb o O q=>(i.2 b O).trans q) f0 f1 f3 f4 f5
end
def F9{J:It}{D:SU}{d:St}{g:TG}{l:TT}{u:TE}{o:Hp}{Fin:Hp->Prop}(n:Nat)(a:Nat->St->Hp->Prop)(h0:a 0 d (upd o D (.lst [])))(f:∀i σ H,i<n->a i σ H->J.go i H)(h:∀σ H,a n σ H->J.stop n H)
  (t:∀i σ H x k,i<n->a i σ H->J.yld i H x k->g x σ k λc z=>l c z λb w=>if b=U then u c w λy v=>∃ys,v D=M (.lst ys)/\ys.length<S8/\a (i+1) c (upd v D (.lst (ys++[y])))else a (i+1) c w)
  (hd:∀σ H,a n σ H->Fin H):x5 J D d g l u o Fin:=by
 show#[λi m σ H=>m=n - i/\i<=n/\a i σ H,#[n,by simp,TX _,h0],?_];rintro i m σ H ⟨rfl,A,p⟩;by_cases j:i<n
 .show .inr #[f i σ H j p,a (i+1),λq k r=>#[n - (i+1),by ext,W,j,r],λx k y=>t i σ H x k j p y]
 .let e:i=n:=by ext
  subst e;show .inl #[h σ H p,hd σ H p]
def uH(P:Tg)(w:TN)(K:Bn)(c:Str->I T)(base:Heap)(k:Nat)(x:Str)(b:G Str)(sp:Sp):Prop:=
 ∃(f:J) (a:UI),FnOk P w K c base kP k f a b sp/\Binds K a b []/\Vl K (.ref f)=U/\c x=M (.ref f)
def rZ(C:uH X.prog X.w X.K X.mg X.base k x ps sp)(i:V6 j X.A)(c:PA X (e::es) t)(d:k<=j:=by decide)(l:Gl X x:=by rfl)
  (g:(x==("__debug__":Str))=SW:=by decide) (n:Ua (e::es) X.env=(SW,eval e X.env)::Ua es X.env:=by rfl) (a:(backTo pos (Ua es X.env)).any (·.1)=SW:=by rfl):
  PE X (.Call (.Name x p) (e::es) [] pos) (qp sp [] E0 t):=by
 let(f,o,F,b,h,m):=C;show Hi F (i.mono d) l m h b .nil PL c g n a
def Eo{α:Type}{xs:G α}{i:Int}{v:α}(h0:0<=i)(h:xs[i.toNat]?=M v):j8 xs i=M v:=by let q:=yj h;rwa [Int.toNat_of_nonneg h0]at q
def U7.tup{K:Bn}(e:U7 H H')(h:WY K H a xs):WY K H' a xs:=by
 rcases h with(h|⟨o,h⟩)|h
 .show .inl (.inl (e _ _ h))
 .show .inl (.inr #[o,e _ _ h])
 .show .inr h
theorem bw(h:H p=S)(o:HO):U7 H (upd H p o):=λb u q=>by rw[av (bR q h)];show q
def Ps:Uc "max"=M (.builtin "max"):=by decide+kernel
def JB:Uc "min"=M (.builtin "min"):=by decide+kernel
def su:Uc "isinstance"=M (.builtin "isinstance"):=by decide+kernel
def ON:Uc "len"=M (.builtin "len"):=by decide+kernel
def BU:Uc "sorted"=M (.builtin "sorted"):=by decide+kernel
def NO:Uc "all"=M (.builtin "all"):=by decide+kernel
def Er:Uc "list"=M (.type "list"):=by decide+kernel
def G1:Uc "tuple"=M (.type "tuple"):=by decide+kernel
end L2
namespace L3
open PySem L2
abbrev D:=SR
inductive PV where
 |fz (d:D)
 |ow (ds:G D)
 |pl (i:Nat)
abbrev aE:=G (I PV)
structure Xc where
 cls:Str
 fs:G (Str×D)
inductive Res(α:Type) where
 |ok (a:α)
 |er (x:Xc)
 |bad
namespace Res
def bind(r:Res α)(f:α->Res β):Res β:=match r with
 |.ok a=>f a
 |.er x=>.er x
 |.bad=>.bad
def T6:I α->Res α
 |some a=>.ok a
 |none=>.bad
theorem bind_ok(a:α)(f:α->Res β):(Res.ok a).bind f=f a:=W
end Res
abbrev eF:=@Res.bind_ok
abbrev a5:=J->Prop
def aY(O:a5)(p:J):a5:=λb=>O b\/b=p
def BX(O:a5)(p:J):a5:=λb=>O b/\b≠p
def Zs:a5:=λ_=>False
def Ev(O:a5)(H:Hp)(a:a5)(c:Hp):Prop:=∀b o,H b=M o->¬O b->c b=M o/\¬a b
theorem Ev.refl:Ev O H O H:=λ_ _ h n=>#[h,n]
theorem Ev.trans(a:Ev O H O1 H1)(b:Ev O1 H1 O2 H2):Ev O H O2 H2:=λp o h n=>let#[h1,d]:=a p o h n;b p o h1 d
theorem Ev.grow(s:U7 H H'):Ev O H O H':=λb o h n=>#[s b o h,n]
theorem Ev.add(s:U7 H H')(a:H p=S):Ev O H (aY O p) H':=λb o h n=>#[s b o h,λz=>z.elim n λe=>by simp_all]
theorem Ev.sub(h:∀b,O' b->O b):Ev O H O' H:=λb o e n=>#[e,λz=>n (h b z)]
theorem Ev.mut(a:O p)(u:HO):Ev O H O (upd H p u):=λb o h n=>#[by rw[av (λe=>n (by simp_all))];show h,n]
def WI(K:Bn)(H:Hp)(a:J)(xs:G V):Prop:=Rd H a (.lst xs)\/∃(b:G T) (n:Nat),K.lookup a=M {cls:=.type "list",data:=.seq b.toArray n}/\xs.length<=S8/\Vals xs b
def WI.sq(h:WI K H a xs):Xl K H a xs:=by
 rcases h with h|⟨e,n,h1,d,b⟩
 .show .inl h
 .show .inr #[_,e.toArray,n,h1,W,W,W,by rw[Tb,<-b.length];show d,by ext]
theorem WI.of(h:H a=M (.lst xs)):WI K H a xs:=.inl (.inl h)
def WI.same(e:U7 H H')(h:WI K H a xs):WI K H' a xs:=by
 rcases h with(h|⟨o,h⟩)|h
 .show .inl (.inl (e _ _ h))
 .show .inl (.inr #[o,e _ _ h])
 .show .inr h
theorem jo(H:Hp):U7 (λ_=>S) H:=λ_ _ h=>by ext h
def YZ(O:a5)(K:Bn)(H:Hp)(a:J)(xs:G V):Prop:=WI K H a xs/\(O a->WI K (λ_=>S) a xs)
def XW(O:a5)(K:Bn)(H:Hp)(a:J)(xs:G V):Prop:=WY K H a xs/\(O a->WY K (λ_=>S) a xs)
section
variable{O Z:a5}{K:Bn}{H H':Hp}{a:SU}{xs:cb V}
def YZ.ev(h:YZ O K H a xs)(e:Ev O H Z H'):YZ Z K H' a xs:=by
 let(h,k):=h;by_cases z:O a
 .show#[WI.same (jo H') (k z),λ_=>k z]
 .rcases h with(h|⟨o,h⟩)|h
  .let(h1,b):=e a _ h z;show#[.inl (.inl h1),λy=>b9 y b]
  .let(h1,b):=e a _ h z;show#[.inl (.inr #[o,h1]),λy=>b9 y b]
  .show#[.inr h,λ_=>.inr h]
def XW.ev(h:XW O K H a xs)(e:Ev O H Z H'):XW Z K H' a xs:=by
 let(h,k):=h;by_cases z:O a
 .show#[(jo H').tup (k z),λ_=>k z]
 .rcases h with(h|⟨o,h⟩)|h
  .let(h1,b):=e a _ h z;show#[.inl (.inl h1),λy=>b9 y b]
  .let(h1,b):=e a _ h z;show#[.inl (.inr #[o,h1]),λy=>b9 y b]
  .show#[.inr h,λ_=>.inr h]
end
mutual
inductive DV(O:a5)(K:Bn)(H:Hp):V->D->Prop
 |Wa:DV O K H .Wa .none
 |bl (b:Bool):DV O K H (.bl b) (.bool b)
 |int (i:Int):DV O K H (.int i) (.int i)
 |str (x:Str):DV O K H (.str x) (.str x)
 |tup {a:SU} {xs:cb V} {ds:cb D}:XW O K H a xs->UN O K H xs ds->DV O K H (.ref a) (.tuple ds)
 |lst {a:SU} {xs:cb V} {ds:cb D}:YZ O K H a xs->UN O K H xs ds->DV O K H (.ref a) (.list ds)
inductive UN(O:a5)(K:Bn)(H:Hp):cb V->cb D->Prop
 |nil:UN O K H [] []
 |cons {v:V} {vs:cb V} {d:D} {ds:cb D}:DV O K H v d->UN O K H vs ds->UN O K H (v::vs) (d::ds)
end
section
variable{O Z:a5}{K:Bn}{H H':Hp}
mutual
theorem DV.ev(e:Ev O H Z H'):∀{v:V} {d:D},DV O K H v d->DV Z K H' v d
 |_,_,.Wa=>.Wa
 |_,_,.bl b=>.bl b
 |_,_,.int i=>.int i
 |_,_,.str x=>.str x
 |_,_,.tup h hs=>.tup (h.ev e) (UN.ev e hs)
 |_,_,.lst h hs=>.lst (h.ev e) (UN.ev e hs)
theorem UN.ev(e:Ev O H Z H'):∀{vs:cb V} {ds:cb D},UN O K H vs ds->UN Z K H' vs ds
 |_,_,.nil=>.nil
 |_,_,.cons h hs=>.cons (DV.ev e h) (UN.ev e hs)
end
theorem UN.length:∀{a:G V} {ds:G D},UN O K H a ds->a.length=ds.length
 |_,_,.nil=>rfl
 |_,_,.cons _ t=>by rw[S0,S0,t.length]
theorem UN.get:∀{b:G V} {ds:G D} {i:Nat} {d:D},UN O K H b ds->ds[i]?=M d->∃v,b[i]?=M v/\DV O K H v d
 |_,_,_,_,.nil,e=>by simp at e
 |_,_,0,_,.cons h _,e=>by simp_all
 |_,_,i+1,d,.cons _ t,e=>by let(v,h1,a):=UN.get t (by simpa using e);simp_all
theorem UN.abD:∀{b:G V} {ds:G D} {i:Nat} {v:V},UN O K H b ds->b[i]?=M v->∃d,ds[i]?=M d/\DV O K H v d
 |_,_,_,_,.nil,e=>by simp at e
 |_,_,0,_,.cons h _,e=>by simp_all
 |_,_,i+1,v,.cons _ t,e=>by let(d,h1,a):=UN.abD t (by simpa using e);simp_all
theorem UN.append:∀{a ws:G V} {ds es:G D},UN O K H a ds->UN O K H ws es->UN O K H (a++ws) (ds++es)
 |_,_,_,_,.nil,h=>h
 |_,_,_,_,.cons h t,g=>.cons h (UN.append t g)
theorem UN.take:∀{a:G V} {ds:G D} (n:Nat),UN O K H a ds->UN O K H (a.take n) (ds.take n)
 |_,_,0,_=>.nil
 |_,_,_+1,.nil=>.nil
 |_,_,n+1,.cons h t=>.cons h (UN.take n t)
theorem UN.drop:∀{a:G V} {ds:G D} (n:Nat),UN O K H a ds->UN O K H (a.drop n) (ds.drop n)
 |_,_,0,h=>h
 |_,_,_+1,.nil=>.nil
 |_,_,n+1,.cons _ t=>UN.drop n t
theorem UN.flat(h:UN O K H vs ds):∀n:Nat,UN O K H (SY n vs).flatten (SY n ds).flatten
 |0=>.nil
 |n+1=>by rw[Ul,Ul,VG,VG];show h.append (UN.flat h n)
mutual
theorem DV.plain:∀{v:V} {d:D},DV O K H v d->L2.DV K H v d
 |_,_,.Wa=>.Wa
 |_,_,.bl b=>.bl b
 |_,_,.int i=>.int i
 |_,_,.str x=>.str x
 |_,_,.tup h hs=>.tup h.1 (UN.plain hs)
 |_,_,.lst h hs=>.lst h.1.sq (UN.plain hs)
theorem UN.plain:∀{vs:cb V} {ds:cb D},UN O K H vs ds->L2.UN K H vs ds
 |_,_,.nil=>.nil
 |_,_,.cons h hs=>.cons (DV.plain h) (UN.plain hs)
end
end
def DX(O:a5)(K:Bn)(H:Hp)(v:V):D->Prop
 |.list ds=>∃a xs,v=.ref a/\WI K H a xs/\UN O K H xs ds
 |d=>DV O K H v d
def DV.x(h:DV O K H v d):DX O K H v d:=by
 cases h with
 |lst h a=>show#[_,_,W,h.1,a]
 |Wa=>show .Wa
 |bl b=>show .bl b
 |int i=>show .int i
 |str x=>show .str x
 |tup h a=>show .tup h a
def DX.plain(h:DX O K H v d):L2.DV K H v d:=by
 cases d with
 |list ds=>let(a,xs,rfl,h1,e):=h;show .lst h1.sq e.plain
 |none=>show DV.plain h
 |bool b=>show DV.plain h
 |int i=>show DV.plain h
 |str x=>show DV.plain h
 |tuple ds=>show DV.plain h
 |dict f=>show DV.plain h
def YW(K:Bn)(b:Hp)(O:a5)(H:Hp)(v:V):PV->Prop
 |.fz d=>DV O K H v d
 |.ow ds=>∃a e,v=.ref a/\O a/\b a=S/\H a=M (.lst e)/\UN O K H e ds
 |.pl _=>False
structure Rl(K:Bn)(B:a5)(H0:Hp)(O:a5)(σ:St)(H:Hp)(ρ:aE):Prop where
 same:U7 H0 H
 bo:∀a,B a->O a
 bd:∀a,B a->H0 a≠S
 od:∀a,H a=S->¬O a
 len:σ.length=ρ.length
 slot:∀(i:Nat) (x:PV),ρ[i]?=M (M x)->∃v,σ[i]?=M (M v)/\YW K H0 O H v x
 one:∀(i j:Nat) (ds es:G D) (v:V),ρ[i]?=M (M (.ow ds))->ρ[j]?=M (M (.ow es))->σ[i]?=M (M v)->σ[j]?=M (M v)->i=j
def Xu(K:Bn)(e:Hp)(O:a5)(b:St)(H:Hp)(c:aE)(v:V):PV->Prop
 |.fz d=>DV O K H v d
 |.ow ds=>∃a f,v=.ref a/\O a/\e a=S/\H a=M (.lst f)/\UN O K H f ds/\∀(i:Nat) (es:G D),c[i]?=M (M (.ow es))->b[i]?≠M (M (.ref a))
 |.pl i=>b[i]?=M (M v)
def jB:PV->Prop
 |.ow _=>False
 |_=>True
def im:PV->PV
 |.ow ds=>.fz (.list ds)
 |p=>p
section
variable{K:Bn}{B O X:a5}{Z H H':Hp}{Y:St}{ρ ρ':aE}{v:V}
def YW.grow(s:U7 H H')(h:YW K Z O H v x):YW K Z O H' v x:=by
 cases x with
 |fz d=>show DV.ev (Ev.grow s) h
 |ow ds=>let(a,j,e,h1,g,f,b):=h;show#[a,j,e,h1,g,s _ _ f,b.ev (Ev.grow s)]
 |pl i=>show h
theorem Rl.grow(R:Rl K B Z O Y H ρ)(s:U7 H H'):Rl K B Z O Y H' ρ:=
 #[R.same.trans s,R.bo,R.bd,λa h=>R.od a (s.free h),R.len,λi x h=>let#[v,h1,b]:=R.slot i x h;#[v,h1,b.grow s],R.one]
theorem Rl.ab3(R:Rl K B Z O Y H ρ)(h:H p=S):Z p=S:=R.same.free h
def Rl.add(R:Rl K B Z O Y H ρ)(s:U7 H H')(f:H p=S)(g:H' p≠S):Rl K B Z (aY O p) Y H' ρ:=by
 show#[R.same.trans s,λa h=>.inl (R.bo a h),R.bd,λa h z=>z.elim (R.od a (s.free h)) λe=>g (by simp_all),R.len,λi x h=>?_,R.one];let(v,h1,b):=R.slot i x h;show#[v,h1,?_];cases x with
 |fz d=>show DV.ev (Ev.add s f) b
 |ow ds=>let(a,o,e,n,m,l,j):=b;show#[a,o,e,.inl n,m,s _ _ l,j.ev (Ev.add s f)]
 |pl i=>show b
theorem Rl.abz(R:Rl K B Z O Y H ρ)(h:Z a=S):¬B a:=λz=>R.bd a z h
def Rl.sub(R:Rl K B Z O Y H ρ){a:J}(h0:Z a=S)(h:∀(i:Nat) (es:G D),ρ[i]?=M (M (.ow es))->Y[i]?≠M (M (.ref a))):Rl K B Z (BX O a) Y H ρ:=by
 show#[R.same,λb f=>#[R.bo b f,λe=>R.abz h0 (e▸f)],R.bd,λb f z=>R.od b f z.1,R.len,λi x j=>?_,R.one];let(v,h1,g):=R.slot i x j;show#[v,h1,?_];cases x with
 |fz d=>show DV.ev (Ev.sub λb z=>z.1) g
 |ow ds=>let(b,p,e,o,n,m,l):=g;subst e;show#[b,p,W,#[o,λe=>h i ds j (by rw[h1,e])],n,m,l.ev (Ev.sub λb z=>z.1)]
 |pl i=>show g
theorem qV(h:H a=M (.lst o))(n:¬O a)(hd:UN O K H o ds):DV O K H (.ref a) (.list ds):=.lst #[WI.of h,λz=>b9 z n] hd
def lm{pv:PV}(R:Rl K B Z O Y H ρ)(h:Xu K Z O Y H ρ v pv):∃X,Ev O H X H/\Rl K B Z X Y H ρ/\Xu K Z X Y H ρ v (im pv):=by
 cases pv with
 |fz d=>show#[O,.refl,R,h]
 |pl i=>show#[O,.refl,R,h]
 |ow ds=>let(a,l,rfl,h1,j,g,f,e):=h;show#[BX O a,Ev.sub λb z=>z.1,R.sub j e,qV g (λz=>z.2 W) (f.ev (Ev.sub λb z=>z.1))]
def mF(pv:PV):jB (im pv):=by ext pv<;>trivial
def Xu.keep{pv:PV}(a:jB pv)(e:Ev O H X H')(h:Xu K Z O Y H ρ v pv):Xu K Z X Y H' ρ' v pv:=by
 cases pv with
 |fz d=>show DV.ev e h
 |pl i=>show h
 |ow ds=>show a.elim
def RD:I (I PV)->I D
 |some (M (.fz d))=>M d
 |some (M (.ow ds))=>M (.list ds)
 |_=>S
def qI(ρ:aE):PV->I D
 |.fz d=>M d
 |.ow ds=>M (.list ds)
 |.pl i=>RD ρ[i]?
def jO{pv:PV}(R:Rl K B Z O Y H ρ)(h:Xu K Z O Y H ρ v pv)(e:qI ρ pv=M d):DX O K H v d:=by
 cases pv with
 |fz p=>ext e;show DV.x h
 |ow ds=>ext e;let(a,w,rfl,h1,t,m,l,r):=h;show#[a,w,W,WI.of m,l]
 |pl i=>
  let b:RD ρ[i]?=M d:=e;let n:=h;cases q:ρ[i]? with
  |none=>rw[q]at b;ext b
  |some o=>
   cases o with
   |none=>rw[q]at b;ext b
   |some x=>
    let(u,g,f):=R.slot i x q;rw[n]at g;ext g;rw[q]at b;cases x with
    |fz p=>ext b;show DV.x f
    |ow ds=>ext b;let(a,w,rfl,k1,k2,k3,k4):=f;show#[a,w,W,WI.of k3,k4]
    |pl j=>show f.elim
def toS(ρ:aE)(i:Nat):I (I PV)->I (D×aE)
 |some (M (.fz d))=>M (d,ρ)
 |some (M (.ow ds))=>M (.list ds,ρ.set i (M (.fz (.list ds))))
 |_=>S
def tN(ρ:aE):PV->I (D×aE)
 |.fz d=>M (d,ρ)
 |.ow ds=>M (.list ds,ρ)
 |.pl i=>toS ρ i ρ[i]?
def bq{l:G α}(h:(l.set i x)[j]?=M y):(j=i/\y=x)\/(j≠i/\l[j]?=M y):=by
 rw[Ux]at h;by_cases e:i=j
 .rw[ai e]at h
  split at h
  .ext h;show .inl #[e.symm,W]
  .ext h
 .rw[ak e]at h;show .inr #[λz=>e z.symm,h]
def qB{pv:PV}(R:Rl K B Z O Y H ρ)(h:Xu K Z O Y H ρ v pv)(e:tN ρ pv=cL (d,ρ')):∃X,Ev O H X H/\Rl K B Z X Y H ρ'/\DV X K H v d:=by
 cases pv with
 |fz T=>ext e;show#[O,.refl,R,h]
 |ow ds=>ext e;let(a,vs,rfl,h1,S,Q,P,N):=h;show#[BX O a,Ev.sub λb z=>z.1,R.sub S N,qV Q (λz=>z.2 W) (P.ev (Ev.sub λb z=>z.1))]
 |pl i=>
  let f:toS ρ i ρ[i]?=cL (d,ρ'):=e;let t:=h;cases q:ρ[i]? with
  |none=>rw[q]at f;ext f
  |some o=>
   cases o with
   |none=>rw[q]at f;ext f
   |some x=>
    let(u,E,A):=R.slot i x q;rw[t]at E;ext E;rw[q]at f;cases x with
    |fz T=>ext f;show#[O,.refl,R,A]
    |pl j=>show A.elim
    |ow ds=>
     ext f;let(a,vs,rfl,k1,k2,k3,k4):=A;let es:Ev O H (BX O a) H:=Ev.sub λb z=>z.1;let F:=qV k3 (λz=>z.2 W) (k4.ev es);show#[BX O a,es,#[R.same,λb m=>#[R.bo b m,λe=>R.abz k2 (e▸m)],R.bd,λb m z=>R.od b m z.1,by rw[UR];show R.len,λj x l=>?_,λj k xs ys w r p=>?_],F]
     .rcases bq l with⟨rfl,g⟩|⟨U,l⟩
      .ext g;show#[_,t,F]
      .let(u,C,n):=R.slot j x l
       show#[u,C,?_];cases x with
       |fz d=>show DV.ev es n
       |pl i=>show n
       |ow xs=>let(b,G,rfl,M,L,J,I):=n;show#[b,G,W,#[M,λz=>U (R.one j i xs ds (.ref a) l q (by rw[C,z]) t)],L,J,I.ev es]
     .rcases bq r with⟨rfl,g⟩|⟨_,r⟩
      .ext g
      .rcases bq p with⟨rfl,g⟩|⟨_,p⟩
       .ext g
       .show R.one j k xs ys w r p
end
def XOk(K:Bn)(B:a5)(H:Hp)(c:T)(b:I J)(x:Xc):Prop:=
 (∃a,c=.ref a/\UC K T3 x.cls=M (M (.ref a)))/\∃fs,(∀p,b=M p->H p=M (.xd fs))/\∀f d,x.fs.lookup f=M d->b≠S/\∃v,fs.lookup f=M v/\DV B K H v d
def XE(K:Bn)(B:a5)(a:Hp)(E:XK)(x:Xc):Prop:=∀c b H',U7 a H'->XOk K B H' c b x->E c b H'
def WR(K:Bn)(E:XK)(B:a5)(b:Hp)(P:α->Prop):Res α->Prop
 |.ok a=>P a
 |.er x=>XE K B b E x
 |.bad=>False
section
variable{K:Bn}{E:XK}{B:a5}{Z:Hp}
def WR.bind(h:WR K E B Z P (r.bind k)):WR K E B Z (λa=>WR K E B Z P (k a)) r:=by ext r<;>show h
def WR.T6(h:WR K E B Z P ((Res.T6 o).bind k)):∃a,o=M a/\WR K E B Z P (k a):=by
 cases o with
 |none=>show h.elim
 |some a=>show#[a,W,h]
def WR.imp(h:WR K E B Z P r)(g:∀a,P a->P' a):WR K E B Z P' r:=by
 cases r with
 |ok a=>show g a h
 |er x=>show h
 |bad=>show h
end
abbrev FE:=aE->Res (PV×aE)
abbrev FT:=aE->Res (Bool×aE)
abbrev FA:=aE->Res (G PV×aE)
def EO(K:Bn)(E:XK)(t:TE)(f:FE):Prop:=
 ∀(B:a5) (b:Hp) (O:a5) (a:St) (H:Hp) (e:aE) (Q:VK),Rl K B b O a H e->WR K E B b (λr=>∀d v H',Ev O H d H'->Rl K B b d a H' r.2->Xu K b d a H' r.2 v r.1->Q v H') (f e)->t a H Q
def Zg(K:Bn)(E:XK)(t:TT)(f:FT):Prop:=
 ∀(B:a5) (b:Hp) (O:a5) (a:St) (H:Hp) (d:aE) (Q:Bool->Hp->Prop),Rl K B b O a H d->WR K E B b (λr=>∀e H',Ev O H e H'->Rl K B b e a H' r.2->Q r.1 H') (f d)->t a H Q
def AO(K:Bn)(E:XK)(t:TA)(f:FA):Prop:=
 ∀(B:a5) (b:Hp) (O:a5) (a:St) (H:Hp) (e:aE) (Q:G V->Hp->Prop),Rl K B b O a H e->WR K E B b (λr=>∀d g H',Ev O H d H'->Rl K B b d a H' r.2->Paired (λv pv=>Xu K b d a H' r.2 v pv/\jB pv) g r.1->Q g H') (f e)->t a H Q
inductive RV where
 |fz (d:D)
 |ow (ds:G D)
def RV.pv:RV->PV
 |.fz d=>.fz d
 |.ow ds=>.ow ds
def Fin(O:a5)(K:Bn)(H:Hp)(Q:VK):RV->Prop
 |.fz d=>∀v H',U7 H H'->DV O K H' v d->Q v H'
 |.ow ds=>∀p a H',U7 H H'->H p=S->H' p=M (.lst a)->UN (aY O p) K H' a ds->Q (.ref p) H'
def jI(O:a5)(H:Hp):Prop:=∀a,H a=S->¬O a
section
variable{K:Bn}{E:XK}{B O X:a5}{Y H H':Hp}{Z:St}{ρ ρ':aE}{v:V}
def iU(R:Rl K B Y O Z H ρ)(h:∀X v H',Ev O H X H'->Rl K B Y X Z H' ρ->Xu K Y X Z H' ρ v rv.pv->Q v H'):Fin O K H Q rv:=by
 cases rv with
 |fz d=>show λv H' s f=>h O v H' (Ev.grow s) (R.grow s) f
 |ow ds=>intro p o H' s b e f;show h (aY O p) (.ref p) H' (Ev.add s b) (R.add s b (by rw[e];simp)) #[p,o,W,.inr W,R.ab3 b,e,f,λi es q z=>?_];let(u,h1,a,j,e2,n,m,g,l):=R.slot i _ q;rw[z]at h1;ext h1;ext e2;rw[b]at g;ext g
theorem Fin.new(hd:UN O K H vs ds)(h:Fin O K H Q (.ow ds)):∀p,H p=S->Q (.ref p) (upd H p (.lst vs)):=λp a=>
 h p vs _ (bw a _) a ay (hd.ev (Ev.add (bw a _) a))
theorem Fin.ZE(hd:UN O K H vs ds)(b:jI O H)(h:Fin O K H Q (.fz (.tuple ds))):∀p,H p=S->Q (.ref p) (upd H p (.tup vs)):=λp a=>
 h (.ref p) _ (bw a _) (.tup #[WY.of ay,λz=>b9 z (b p a)] (hd.ev (Ev.grow (bw a _))))
theorem Fin.at(h:Fin O K H Q (.fz d))(a:DV O K H v d):Q v H:=h v H (U7.refl H) a
def xV(ρ:aE)(i:Nat):I (I PV)->Res (PV×aE)
 |some (M (.fz d))=>.ok (.fz d,ρ)
 |some (M (.ow _))=>.ok (.pl i,ρ)
 |_=>.bad
def aa(i:Nat):FE:=λρ=>xV ρ i ρ[i]?
def L6:EO K E (gO i) (aa i):=by
 intro B Y O Z H ρ Q R w;unfold aa at w;cases q:ρ[i]? with
 |none=>rw[q]at w;show w.elim
 |some o=>
  cases o with
  |none=>rw[q]at w;show w.elim
  |some x=>
   rw[q]at w;let(v,h1,a):=R.slot i x q;cases x with
   |fz d=>show#[v,h1,w O v H .refl R a]
   |ow ds=>show#[v,h1,w O v H .refl R h1]
   |pl j=>show w.elim
def pC(d:D):FE:=λρ=>.ok (.fz d,ρ)
theorem EA(h:∀O H,DV O K H v d):EO K E (tC v) (pC d):=λB Y O Z H ρ Q R w=>w O v H .refl R (h O H)
theorem Kt:EO K E (tC (.int i)) (pC (.int i)):=EA λ_ _=>.int i
theorem Pa:EO K E (tC (.bl b)) (pC (.bool b)):=EA λ_ _=>.bl b
theorem Ko:EO K E (tC (.str x)) (pC (.str x)):=EA λ_ _=>.str x
theorem MP:EO K E (tC .Wa) (pC .none):=EA λ_ _=>.Wa
def iG(K:Bn)(r:R2)(f:D->D->I RV):Prop:=∀(O:a5) (H:Hp) (x y:V) (d a:D) (b:RV) (Q:VK),jI O H->DX O K H x d->DX O K H y a->f d a=M b->Fin O K H Q b->r x y H Q
def aC(f:D->D->I RV)(c fb:FE):FE:=λρ=>(c ρ).bind λa=>(fb a.2).bind λb=>(Res.T6 (qI b.2 (im a.1))).bind λg=>(Res.T6 (qI b.2 b.1)).bind λd=>(Res.T6 (f g d)).bind λe=>.ok (e.pv,b.2)
def IR(q:iG K r f)(k:EO K E ta fa)(c:EO K E tb fb):EO K E (yS r ta tb) (aC f fa fb):=by intro B Y O Z H ρ Q R w;show k B Y O Z H ρ _ R (w.bind.imp λa h L x J e1 z p=>?_);let(F,e2,R2,o):=lm z p;show c B Y F Z J a.2 _ R2 (h.bind.imp λb d C y I e3 e n=>?_);let g:=o.keep (mF a.1) e3 (ρ':=b.2);let(P,j,d):=d.T6;let(t,i,d):=d.T6;let(N,l,d):=d.T6;show q C I x y P t N Q e.od (jO e g j) (jO e n i) l (iU e λA v G e4 u m=>?_);show d A v G (e1.trans (e2.trans (e3.trans e4))) u m
def RM(K:Bn)(r:V->Hp->VK->Prop)(f:D->I RV):Prop:=∀(O:a5) (H:Hp) (x:V) (b:D) (a:RV) (Q:VK),jI O H->DX O K H x b->f b=M a->Fin O K H Q a->r x H Q
def Fj(f:D->I RV)(c:FE):FE:=λρ=>(c ρ).bind λa=>(Res.T6 (qI a.2 a.1)).bind λd=>(Res.T6 (f d)).bind λb=>.ok (b.pv,a.2)
def OO(j:RM K r f)(c:EO K E C fa):EO K E (Q1 r C) (Fj f fa):=by intro B Y O Z H ρ Q R w;show c B Y O Z H ρ _ R (w.bind.imp λa b n x p e1 d i=>?_);let(t,e,b):=b.T6;let(q,g,b):=b.T6;show j n p x t q Q d.od (jO d i e) g (iU d λm v o e4 l h=>b m v o (e1.trans e4) l h)
def Qw:D->I Bool
 |.bool b=>M b
 |_=>S
def Mg(h:DX O K H x d)(e:Qw d=M b):x=.bl b:=by ext d<;>ext e;ext h;rfl
def aL(c:FE):aE->Res (Bool×aE):=λρ=>(c ρ).bind λa=>(Res.T6 (qI a.2 a.1)).bind λd=>(Res.T6 (Qw d)).bind λb=>.ok (b,a.2)
def oQ(c:EO K E o C):Zg K E (yd o) (aL C):=by intro B Y O Z H ρ Q R w;show c B Y O Z H ρ _ R (w.bind.imp λa e j x l e1 f i=>?_);let(d,g,e):=e.T6;let(b,h,e):=e.T6;show#[b,Mg (jO f i g) h,e j l e1 f]
theorem NU(a:EO K E o C):Zg K E (tB o) (aL C):=oQ a
def rH(b fb:FT):FT:=λρ=>(b ρ).bind λa=>if a.1=U then fb a.2 else .ok (SW,a.2)
def zD(b fb:FT):FT:=λρ=>(b ρ).bind λa=>if a.1=U then .ok (U,a.2)else fb a.2
def pI(b:FT):FT:=λρ=>(b ρ).bind λa=>.ok (!a.1,a.2)
theorem Zg.next(h:Zg K E t f)(R:Rl K B Y O1 Z H1 ρ)(e1:Ev O H O1 H1)(w:WR K E B Y (λr=>∀X H',Ev O H X H'->Rl K B Y X Z H' r.2->Q r.1 H') (f ρ)):t Z H1 Q:=
 h B Y O1 Z H1 ρ Q R (w.imp λr q X H' a b=>q X H' (e1.trans a) b)
theorem EO.next(h:EO K E t f)(R:Rl K B Y O1 Z H1 ρ)(e1:Ev O H O1 H1)(w:WR K E B Y (λr=>∀X v H',Ev O H X H'->Rl K B Y X Z H' r.2->Xu K Y X Z H' r.2 v r.1->Q v H') (f ρ)):t Z H1 Q:=
 h B Y O1 Z H1 ρ Q R (w.imp λr q X v H' b d a=>q X v H' (e1.trans b) d a)
def G9(h1:Zg K E t f)(i:Zg K E u g):Zg K E (Lk t u) (rH f g):=by
 intro B Y O Z H ρ Q R w;show h1 B Y O Z H ρ _ R (w.bind.imp λa d j l e1 e=>?_);let(b,h):=a;cases b with
 |true=>show i.next e e1 d
 |false=>show d j l e1 e
def LH(h1:Zg K E t f)(i:Zg K E u g):Zg K E (QL t u) (zD f g):=by
 intro B Y O Z H ρ Q R w;show h1 B Y O Z H ρ _ R (w.bind.imp λa d j l e1 e=>?_);let(b,h):=a;cases b with
 |true=>show d j l e1 e
 |false=>show i.next e e1 d
def Hm(h1:Zg K E t f):Zg K E (HF t) (pI f):=by intro B Y O Z H ρ Q R w;show h1 B Y O Z H ρ _ R (w.bind.imp λa b e g e1 d=>b e g e1 d)
def d5:FT:=λρ=>.ok (U,ρ)
theorem BJ:Zg K E uV d5:=λB Y O Z H ρ Q R w=>w O H .refl R
def ut(b fb:FE):FE:=λρ=>(aL b ρ).bind λa=>if a.1=U then fb a.2 else .ok (.fz (.bool SW),a.2)
def LR(j:EO K E C fa)(i:EO K E o fb):EO K E (JC C o) (ut fa fb):=by
 intro B Y O Z H ρ Q R w;show oQ j B Y O Z H ρ (λc d=>if c=U then o Z d Q else Q (.bl SW) d) R (w.bind.imp λa e h d e1 f=>?_);let(b,g):=a;cases b with
 |true=>show i.next f e1 e
 |false=>show e h _ d e1 f (.bl SW)
def au:FA:=λρ=>.ok ([],ρ)
def af(c:FE)(d:FA):FA:=λρ=>(c ρ).bind λa=>(d a.2).bind λb=>.ok (im a.1::b.1,b.2)
theorem MW:AO K E jd au:=λB Y O Z H ρ Q R w=>w O [] H .refl R .nil
def HD(c:EO K E C fa)(i:AO K E tr fr):AO K E (dr C tr) (af fa fr):=by intro B Y O Z H ρ Q R w;show c B Y O Z H ρ _ R (w.bind.imp λa e q x p e1 l h=>?_);let(n,e2,R2,g):=lm l h;show i B Y n Z p a.2 _ R2 (e.bind.imp λb d m ys o e3 j f=>?_);show d m (x::ys) o (e1.trans (e2.trans e3)) j (.cons #[g.keep (mF a.1) e3,mF a.1] f)
def sI(ρ:aE):G PV->I (G D)
 |[]=>M []
 |p::r=>match qI ρ p with
  |some d=>(match sI ρ r with
   |some ds=>M (d::ds)
   |none=>S)
  |none=>S
theorem vG(R:Rl K B Y O Z H ρ):∀{f:G V} {c:G PV} {ds:G D},Paired (λv pv=>Xu K Y O Z H ρ v pv/\jB pv) f c->sI ρ c=M ds->Paired (DX O K H) f ds
 |_,_,_,.nil,e=>by ext e;show .nil
 |_,_,_,.cons (l₂:=c) (b:=p) h t,e=>by
  unfold sI at e;cases q:qI ρ p with
  |none=>simp_all
  |some d=>
   rw[q]at e;dsimp only at e;cases g:sI ρ c with
   |none=>simp_all
   |some a=>rw[g]at e;ext e;show .cons (jO R h.1 q) (vG R t g)
def oY(ρ:aE):G PV->I (G D×aE)
 |[]=>M ([],ρ)
 |p::r=>match tN ρ p with
  |some (d,b)=>(match oY b r with
   |some (ds,a)=>M (d::ds,a)
   |none=>S)
  |none=>S
theorem qU:∀{k:G V} {c:G PV} {ds:G D} {O:a5} {ρ ρ':aE},Rl K B Y O Z H ρ->Paired (λv pv=>Xu K Y O Z H ρ v pv/\jB pv) k c->oY ρ c=M (ds,ρ')->∃X,Ev O H X H/\Rl K B Y X Z H ρ'/\UN X K H k ds
 |_,_,_,O,_,_,R,.nil,e=>by ext e;show#[O,.refl,R,.nil]
 |_,_,_,O,ρ,ρ',R,.cons (l₁:=k) (l₂:=c) (b:=p) h t,e=>by
  unfold oY at e;cases q:tN ρ p with
  |none=>simp_all
  |some r=>
   let(d,a):=r;rw[q]at e;dsimp only at e;cases z:oY a c with
   |none=>simp_all
   |some j=>let(l,g):=j;rw[z]at e;ext e;let(w,e1,o,n):=qB R h.1 q;let i:Paired (λv pv=>Xu K Y w Z H a v pv/\jB pv) k c:=Paired.WU t λv pv #[h1,f]=>#[h1.keep f e1,f];let(u,e2,R2,m):=qU o i z;show#[u,e1.trans e2,R2,.cons (n.ev e2) m]
abbrev FN:=G D->Res RV
def zj(K:Bn)(n:Nat)(F:FN):Sp:=λb H Q E=>b.length=n/\∃(B:a5) (ds:G D),(∀a,B a->H a≠S)/\UN B K H b ds/\WR K E B H (Fin B K H Q) (F ds)
def cu(c:FA):FE:=λρ=>(c ρ).bind λa=>(Res.T6 (oY a.2 a.1)).bind λb=>if b.1.length<=1000 then .ok (.fz (.tuple b.1),b.2)else .bad
def eR(c:FA):FE:=λρ=>(c ρ).bind λa=>(Res.T6 (oY a.2 a.1)).bind λb=>if b.1.length<=1000 then .ok (.ow b.1,b.2)else .bad
theorem wg(h:n<=1000):n<=S8:=S9 h ()
def LB(c:AO K E C fa):EO K E (wB C) (cu fa):=by
 intro B Y O Z H ρ Q R w;show c B Y O Z H ρ _ R (w.bind.imp λa f o r p e1 j h=>?_);let((ds,e),q,b):=f.T6;let(n,e2,R2,d):=qU j h q;dsimp only at b;by_cases hn:ds.length<=1000
 .rw[ai hn]at b;show#[by rw[d.length];show wg hn,Fin.ZE d R2.od (iU R2 λl v m e3 i g=>b l v m (e1.trans (e2.trans e3)) i g)]
 .rw[ak hn]at b;show b.elim
def Lp(c:AO K E C fa):EO K E (LQ C) (eR fa):=by
 intro B Y O Z H ρ Q R w;show c B Y O Z H ρ _ R (w.bind.imp λa f o r p e1 j h=>?_);let((ds,e),q,b):=f.T6;let(n,e2,R2,d):=qU j h q;dsimp only at b;by_cases hn:ds.length<=1000
 .rw[ai hn]at b;show#[by rw[d.length];show wg hn,Fin.new d (iU R2 λl v m e3 i g=>b l v m (e1.trans (e2.trans e3)) i g)]
 .rw[ak hn]at b;show b.elim
def Fo(K:Bn)(r:G V->Hp->VK->Prop)(f:G D->I RV):Prop:=∀(O:a5) (H:Hp) (xs:G V) (ds:G D) (a:RV) (Q:VK),jI O H->Paired (DX O K H) xs ds->f ds=M a->Fin O K H Q a->r xs H Q
def iL(f:G D->I RV)(c:FA):FE:=λρ=>(c ρ).bind λa=>(Res.T6 (sI a.2 a.1)).bind λds=>(Res.T6 (f ds)).bind λb=>.ok (b.pv,a.2)
def OY(j:Fo K r f)(c:AO K E C fa):EO K E (AM r C) (iL f fa):=by intro B Y O Z H ρ Q R w;show c B Y O Z H ρ _ R (w.bind.imp λa e n t p e1 d i=>?_);let(ds,q,b):=e.T6;let(u,g,b):=b.T6;show j n p t ds u Q d.od (vG d i q) g (iU d λm v o e4 l h=>b m v o (e1.trans e4) l h)
def QD:D->I Int
 |.int i=>M i
 |_=>S
def Kz(h:DX O K H x d)(e:QD d=M i):x=.int i:=by ext d<;>ext e;ext h;rfl
abbrev FO:=aE->Res (I Int×aE)
def O0(K:Bn)(E:XK)(t:TO)(f:FO):Prop:=
 ∀(B:a5) (Y:Hp) (O:a5) (Z:St) (H:Hp) (ρ:aE) (Q:I Int->Hp->Prop),Rl K B Y O Z H ρ->WR K E B Y (λr=>∀X H',Ev O H X H'->Rl K B Y X Z H' r.2->Q r.1 H') (f ρ)->t Z H Q
def iH:FO:=λρ=>.ok (S,ρ)
def dA(b:FE):FO:=λρ=>(b ρ).bind λa=>(Res.T6 (qI a.2 a.1)).bind λd=>(Res.T6 (QD d)).bind λi=>.ok (M i,a.2)
theorem Dw:O0 K E yF iH:=λB Y O Z H ρ Q R w=>w O H .refl R
def D5(c:EO K E o C):O0 K E (El o) (dA C):=by intro B Y O Z H ρ Q R w;show c B Y O Z H ρ _ R (w.bind.imp λa f j x l e1 e h=>?_);let(d,q,b):=f.T6;let(i,g,b):=b.T6;show#[i,Kz (jO e h q) g,b j l e1 e]
def P3(K:Bn)(r:V->I Int->I Int->Hp->VK->Prop)(f:D->I Int->I Int->I RV):Prop:=∀(O:a5) (H:Hp) (x:V) (lo b:I Int) (d:D) (a:RV) (Q:VK),jI O H->DX O K H x d->f d lo b=M a->Fin O K H Q a->r x lo b H Q
def uf(f:D->I Int->I Int->I RV)(c:FE)(b d:FO):FE:=λρ=>(c ρ).bind λa=>(b a.2).bind λl=>(d l.2).bind λh=>(Res.T6 (qI h.2 (im a.1))).bind λg=>(Res.T6 (f g l.1 h.1)).bind λe=>.ok (e.pv,h.2)
def N7(p:P3 K r f)(c:EO K E ta fa)(q:O0 K E tl fl)(t:O0 K E th fh):EO K E (Rh r ta tl th) (uf f fa fl fh):=by intro B Y O Z H ρ Q R w;show c B Y O Z H ρ _ R (w.bind.imp λa g P x N e1 A o=>?_);let(I,e2,R2,n):=lm A o;show q B Y I Z N a.2 _ R2 (g.bind.imp λl e G M e3 z=>?_);show t B Y G Z M l.2 _ z (e.bind.imp λh b F L e4 d=>?_);let(dx,i,b):=b.T6;let(rv,j,b):=b.T6;show p F L x l.1 h.1 dx rv Q d.od (jO d (n.keep (mF a.1) (e3.trans e4)) i) j (iU d λC v J e5 u m=>b C v J (e1.trans (e2.trans (e3.trans (e4.trans e5)))) u m)
end
def sK{l:G α}(h:(l.set i x)[i]?=M y):i<l.length:=by
 rw[Ux]at h;rw[ai W]at h;split at h
 .assumption
 .ext h
section
variable{K:Bn}{E:XK}{B O U:a5}{Z H H':Hp}{Y:St}{ρ ρ':aE}{v:V}
def Rl.mut{i:Nat}{ds g:cb D}{a:SU}{f:cb V}(R:Rl K B Z O Y H ρ)(c:ρ[i]?=cL (cL (.ow ds)))(C:Y[i]?=cL (cL (.ref a)))(F:O a)(h0:Z a=CL)(hd:UN O K H f g):
  Rl K B Z O Y (upd H a (.lst f)) (ρ.set i (cL (.ow g))):=by
 let ev:Ev O H O (upd H a (.lst f)):=Ev.mut F _;show#[λb o e=>by rw[av (bR e h0)];show R.same b o e,R.bo,R.bd,λb m=>?_,by rw[UR];show R.len,λj x l=>?_,λj k xs ys w P N S T=>?_]
 .by_cases e:b=a
  .rw[e,ay]at m;ext m
  .rw[av e]at m;show R.od b m
 .rcases bq l with⟨rfl,Q⟩|⟨V5,l⟩
  .ext Q;show#[_,C,a,f,W,F,h0,ay,hd.ev ev]
  .let(u,A,q):=R.slot j x l
   show#[u,A,?_];cases x with
   |fz d=>show DV.ev ev q
   |pl i=>show q
   |ow xs=>let(b,G,rfl,M,L,J,I):=q;let t:b≠a:=λz=>V5 (R.one j i xs ds (.ref a) l c (by rw[A,z]) C);show#[b,G,W,M,L,by rw[av t];show J,I.ev ev]
 .let own:∀{j:Nat} {xs:cb D},(ρ.set i (cL (.ow g)))[j]?=cL (cL (.ow xs))->∃ys,ρ[j]?=cL (cL (.ow ys)):=λ{j xs} h=>by
   rcases bq h with⟨rfl,_⟩|⟨_,h⟩
   .show#[_,c]
   .show#[_,h]
  let(p,r):=own P;let(n,X):=own N;show R.one j k p n w r X S T
theorem pR(h:n<1000000):n<S8:=To h ()
def BH:I (I PV)->I (G D)
 |some (M (.ow ds))=>M ds
 |_=>S
def yV(h:BH o=M ds):o=M (M (.ow ds)):=by
 unfold BH at h;split at h
 .ext h;rfl
 .ext h
def gK(i:Nat)(c:FE):FE:=λρ=>(Res.T6 (BH ρ[i]?)).bind λ_=>(c ρ).bind λa=>(Res.T6 (tN a.2 a.1)).bind λb=>(Res.T6 (BH b.2[i]?)).bind λds=>
 if ds.length<1000000 then .ok (.fz .none,b.2.set i (M (.ow (ds++[b.1]))))else .bad
def LG(p:EO K E te fe):EO K E (Pf K "list" rF (gO i) (dr te jd)) (gK i fe):=by
 intro B Z O Y H ρ Q R w;let(u,n,w):=w.T6;let(v,j,a,N,rfl,I,G,q,F):=R.slot i _ (yV n);show#[_,j,.inl #[W,_,Xl.of q],?_];show p B Z O Y H ρ _ R (w.bind.imp λb e L y M e1 z o=>?_);let((d,l),m,e):=e.T6;let(A,e2,R2,t):=qB z o m;let(ds,f,e):=e.T6;let f:=yV f;let(C,k1,J,g,r,k2,k3,k4,k5):=R2.slot i _ f;subst r;rw[j]at k1;ext k1;dsimp only at e;by_cases h:ds.length<1000000
 .rw[ai h]at e;show#[a,g,y,W,W,k4,pR (by rw[k5.length];show h),?_];show e A .Wa _ (e1.trans (e2.trans (Ev.mut k2 _))) (R2.mut f j k2 k3 (k5.append (.cons t .nil))) .Wa
 .rw[ak h]at e;show e.elim
abbrev FG:=PV->aE->Res aE
abbrev Nj:=G D->aE->Res aE
def GO(K:Bn)(E:XK)(g:TG)(f:FG):Prop:=
 ∀(B:a5) (Z:Hp) (O:a5) (Y:St) (H:Hp) (ρ:aE) (v:V) (pv:PV) (Q:St->Hp->Prop),Rl K B Z O Y H ρ->Xu K Z O Y H ρ v pv->WR K E B Z (λρ'=>∀U a H',Ev O H U H'->Rl K B Z U a H' ρ'->Q a H') (f pv ρ)->g v Y H Q
def OP(K:Bn)(E:XK)(g:wW)(f:Nj):Prop:=
 ∀(B:a5) (Z:Hp) (O:a5) (Y:St) (H:Hp) (ρ:aE) (b:G V) (ds:G D) (Q:St->Hp->Prop),Rl K B Z O Y H ρ->UN O K H b ds->WR K E B Z (λρ'=>∀U a H',Ev O H U H'->Rl K B Z U a H' ρ'->Q a H') (f ds ρ)->g b Y H Q
def Rl.aec(R:Rl K B Z O Y H ρ)(h:DV O K H v d):Rl K B Z O (Y.set i (M v)) H (ρ.set i (M (.fz d))):=by
 show#[R.same,R.bo,R.bd,R.od,by rw[UR,UR];show R.len,λj x a=>?_,λj k xs ys w f b l m=>?_]
 .rcases bq a with⟨rfl,e⟩|⟨r,a⟩
  .ext e;let:=sK a;show#[v,by rw[Ux,ai W,ai (by rw[R.len];show this)],h]
  .let(u,q,p):=R.slot j x a;show#[u,by rw[Ux,ak (λz=>r z.symm)];show q,p]
 .rcases bq f with⟨rfl,g⟩|⟨o,f⟩
  .ext g
  .rcases bq b with⟨rfl,g⟩|⟨n,b⟩
   .ext g
   .rw[Ux,ak (λz=>o z.symm)]at l;rw[Ux,ak (λz=>n z.symm)]at m;show R.one j k xs ys w f b l m
def Rl.af3(R:Rl K B Z O Y H ρ)(h:Xu K Z O Y H ρ v (.ow ds)):Rl K B Z O (Y.set i (M v)) H (ρ.set i (M (.ow ds))):=by
 let(a,L,rfl,h1,F,C,A,n):=h;show#[R.same,R.bo,R.bd,R.od,by rw[UR,UR];show R.len,λj x g=>?_,λj k xs ys w t d l f=>?_]
 .rcases bq g with⟨rfl,e⟩|⟨J,g⟩
  .ext e;let:=sK g;show#[.ref a,by rw[Ux,ai W,ai (by rw[R.len];show this)],a,L,W,h1,F,C,A]
  .let(u,q,p):=R.slot j x g;show#[u,by rw[Ux,ak (λz=>J z.symm)];show q,p]
 .rcases bq t with⟨rfl,I⟩|⟨o,b⟩
  .rcases bq d with⟨rfl,G⟩|⟨m,d⟩
   .rfl
   .rw[Ux,ak (λz=>m z.symm)]at f
    rcases bq l with⟨_,e⟩|⟨z,_⟩
    .ext e;show b9 f (n k ys d)
    .show b9 W z
  .let r:=b
   rw[Ux,ak (λz=>o z.symm)]at l;rcases bq d with⟨rfl,I⟩|⟨m,d⟩
   .rcases bq f with⟨_,e⟩|⟨z,_⟩
    .ext e;show b9 l (n j xs b)
    .show b9 W z
   .rw[Ux,ak (λz=>m z.symm)]at f;show R.one j k xs ys w b d l f
def gN(i:Nat):FG:=λpv ρ=>match pv with
 |.ow ds=>.ok (ρ.set i (M (.ow ds)))
 |.fz d=>.ok (ρ.set i (M (.fz d)))
 |.pl j=>(Res.T6 (tN ρ (.pl j))).bind λb=>.ok (b.2.set i (M (.fz b.1)))
def yL:GO K E (kj i) (gN i):=by
 intro B Z O Y H ρ v pv Q R p w;cases pv with
 |ow ds=>show w O _ H .refl (R.af3 p)
 |fz d=>show w O _ H .refl (R.aec p)
 |pl j=>let((d,a),q,w):=WR.T6 (show WR K E B Z _ ((Res.T6 (tN ρ (.pl j))).bind λb=>.ok (b.2.set i (M (.fz b.1))))from w);let(f,e2,R2,e):=qB R p q;show w f _ H e2 (R2.aec e)
def vg:Nj:=λds ρ=>match ds with
 |[]=>.ok ρ
 |_=>.bad
def kH(f:FG)(g:Nj):Nj:=λds ρ=>match ds with
 |[]=>.bad
 |d::r=>(f (.fz d) ρ).bind λa=>g r a
def Na:OP K E Ik vg:=by
 intro B Z O Y H ρ b ds Q R a w;cases a with
 |nil=>show#[W,w O Y H .refl R]
 |cons _ _=>show w.elim
def Hw(h1:GO K E t f)(m:OP K E u g):OP K E (yO t u) (kH f g):=by
 intro B Z O Y H ρ C ds Q R n w;cases n with
 |nil=>show w.elim
 |cons l j=>rename_i v C d ds;show#[_,_,W,h1 B Z O Y H ρ _ (.fz d) _ R l (WR.imp (WR.bind w) λe i r b A e1 o=>?_)];show m B Z r b A e _ _ Q o (j.ev e1) (i.imp λh q p a z e2 R2=>q p a z (e1.trans e2) R2)
def RK:D->I (G D)
 |.tuple ds=>M ds
 |_=>S
def Dr(h:DX O K H x d)(e:RK d=M ds):∃a xs,x=.ref a/\XW O K H a xs/\UN O K H xs ds:=by
 ext d<;>ext e;cases h with
 |tup h b=>show#[_,_,W,h,b]
def gT(n:Nat)(f:Nj):FG:=λpv ρ=>(Res.T6 (qI ρ pv)).bind λd=>(Res.T6 (RK d)).bind λds=>if ds.length=n then f ds ρ else .bad
def KN(h:OP K E t f):GO K E (Gn K n t) (gT n f):=by
 intro B Z O Y H ρ v pv Q R p w;let(d,g,w):=w.T6;let(ds,e,w):=w.T6;let(a,xs,rfl,i,b):=Dr (jO R p g) e;by_cases hn:ds.length=n
 .rw[ai hn]at w;show#[a,xs,W,i.1,b.length.trans hn,h B Z O Y H ρ xs ds Q R b w]
 .rw[ak hn]at w;show w.elim
inductive Fl where
 |nx (ρ:aE)
 |rt (rv:RV)
 |bk (ρ:aE)
 |ct (ρ:aE)
abbrev FS:=aE->Res Fl
def Z7(K:Bn)(B:a5)(Z:Hp)(O:a5)(H:Hp)(D:Ends):Fl->Prop
 |.nx ρ'=>∀U a H',Ev O H U H'->Rl K B Z U a H' ρ'->D.nx a H'
 |.bk ρ'=>∀U a H',Ev O H U H'->Rl K B Z U a H' ρ'->D.bk a H'
 |.ct ρ'=>∀U a H',Ev O H U H'->Rl K B Z U a H' ρ'->D.ct a H'
 |.rt b=>Fin B K Z D.rt b
def SO(K:Bn)(E:XK)(t:TS)(g:FS):Prop:=
 ∀(B:a5) (Z:Hp) (O:a5) (Y:St) (H:Hp) (ρ:aE) (D:Ends),Rl K B Z O Y H ρ->WR K E B Z (Z7 K B Z O H D) (g ρ)->t D Y H
def Z7.ev{D:Ends}(e:Ev O H O1 H1)(h:Z7 K B Z O H D fl):Z7 K B Z O1 H1 D fl:=by
 cases fl with
 |nx ρ'=>show λU a H' b d=>h U a H' (e.trans b) d
 |bk ρ'=>show λU a H' b d=>h U a H' (e.trans b) d
 |ct ρ'=>show λU a H' b d=>h U a H' (e.trans b) d
 |rt f=>show h
def cT:FS:=λρ=>.ok (.nx ρ)
def az(f g:FS):FS:=λρ=>(f ρ).bind λa=>match a with
 |.nx b=>g b
 |a=>.ok a
def de(f:FE):FS:=λρ=>(f ρ).bind λa=>.ok (.nx a.2)
def aO(f:FE)(g:FG):FS:=λρ=>(f ρ).bind λa=>(g a.1 a.2).bind λb=>.ok (.nx b)
def kY(c:FT)(f g:FS):FS:=λρ=>(c ρ).bind λa=>if a.1=SJ then f a.2 else g a.2
def Ae(ρ:aE):PV->I RV
 |.fz d=>M (.fz d)
 |.ow ds=>M (.ow ds)
 |.pl i=>match ρ[i]? with
  |some (M (.fz d))=>M (.fz d)
  |some (M (.ow ds))=>M (.ow ds)
  |_=>S
def cV(f:FE):FS:=λρ=>(f ρ).bind λa=>(Res.T6 (Ae a.2 a.1)).bind λb=>.ok (.rt b)
theorem HL:SO K E Ew cT:=λB Z O Y H ρ D R w=>w O Y H .refl R
def Mu(h1:SO K E t f)(h:SO K E u g):SO K E (GD t u) (az f g):=by
 intro B Z O Y H ρ D R w;show h1 B Z O Y H ρ {D with nx:=u D} R (WR.imp (WR.bind w) λe b=>?_);cases e with
 |nx a=>show λj d l e1 i=>h B Z j d l a D i (WR.imp b λe q=>q.ev e1)
 |rt m=>show b
 |bk a=>show b
 |ct a=>show b
def Fw(h:EO K E t f):SO K E (zc t) (de f):=by intro B Z O Y H ρ D R w;show h B Z O Y H ρ _ R (w.bind.imp λa b e x g e1 d i=>b e Y g e1 d)
def D3(h:EO K E t f)(l:GO K E g C):SO K E (AE t g) (aO f C):=by intro B Z O Y H ρ D R w;show h B Z O Y H ρ _ R (w.bind.imp λa i o x q e1 m j=>?_);show l B Z o Y q a.2 x a.1 _ m j (i.bind.imp λd e n b p e2 R2=>e n b p (e1.trans e2) R2)
def Pp(l:Zg K E c o)(h1:SO K E t f)(m:SO K E u g):SO K E (HB c t u) (kY o f g):=by
 intro B Z O Y H ρ D R w;show l B Z O Y H ρ _ R (w.bind.imp λa e i j e1 h=>?_);let(b,d):=a;cases b with
 |true=>show h1 B Z i Y j d D h (WR.imp e λn q=>q.ev e1)
 |false=>show m B Z i Y j d D h (WR.imp e λn q=>q.ev e1)
def LU{pv:PV}(R:Rl K B Z O Y H ρ)(p:Xu K Z O Y H ρ v pv)(e:Ae ρ pv=M C)(w:Fin B K Z Q C):Q v H:=by
 let ow:∀{a:J} {A:G V} {ds:G D},O a->Z a=S->H a=M (.lst A)->UN O K H A ds->Fin B K Z Q (.ow ds)->Q (.ref a) H:=λ{a A ds} h1 l g f w=>
  w a A H R.same l g (f.ev (Ev.sub λb z=>z.elim (R.bo b) λe=>by simp_all))
 let fz:∀{d:D},DV O K H v d->Fin B K Z Q (.fz d)->Q v H:=λ{d} h w=>w v H R.same (h.ev (Ev.sub R.bo));cases pv with
 |fz d=>ext e;show fz p w
 |ow ds=>ext e;let(a,A,rfl,h1,l,g,f,t):=p;show ow h1 l g f w
 |pl i=>
  let r:=p;unfold Ae at e;dsimp only at e;cases q:ρ[i]? with
  |none=>simp_all
  |some o=>
   cases o with
   |none=>simp_all
   |some x=>
    let(u,n,m):=R.slot i x q;rw[r]at n;ext n;rw[q]at e;cases x with
    |fz d=>ext e;show fz m w
    |ow ds=>ext e;let(a,A,rfl,h1,l,g,f):=m;show ow h1 l g f w
    |pl j=>show m.elim
def KH(h:EO K E t f):SO K E (Gc t) (cV f):=by intro B Z O Y H ρ D R w;show h B Z O Y H ρ _ R (w.bind.imp λa b g x i e1 e d=>?_);let(j,q,b):=b.T6;show LU e d q b
def z0(K:Bn)(J:It)(O:a5)(H:Hp)(ds:G D):Prop:=∀U H',Ev O H U H'->jI U H'->
 (∀i,i<ds.length->J.go i H'/\∀x a,J.yld i H' x a->U7 H' a/\∃d,ds[i]?=M d/\DV U K a x d)/\J.stop ds.length H'
abbrev FI:=aE->Res (G D×aE)
def IO(K:Bn)(E:XK)(b:TI)(d:FI):Prop:=
 ∀(B:a5) (Z:Hp) (O:a5) (Y:St) (H:Hp) (ρ:aE) (a:It->Hp->Prop),Rl K B Z O Y H ρ->WR K E B Z (λr=>∀U J H',Ev O H U H'->Rl K B Z U Y H' r.2->z0 K J U H' r.1->a J H') (d ρ)->b Y H a
def tE(gt:FG)(b:FS):G D->FS
 |[],ρ=>.ok (.nx ρ)
 |d::r,ρ=>(gt (.fz d) ρ).bind λa=>(b a).bind λe=>match e with
  |.nx f=>tE gt b r f
  |.ct f=>tE gt b r f
  |.bk f=>.ok (.nx f)
  |.rt g=>.ok (.rt g)
def fD(d:FI)(gt:FG)(b:FS):FS:=λρ=>(d ρ).bind λa=>tE gt b a.1 a.2
def K0(c:IO K E wi fi)(X:GO K E g gt)(k:SO K E tb b):SO K E (GG wi g tb) (fD fi gt b):=by
 intro B Z O Y H ρ D R w;show c B Z O Y H ρ _ R (w.bind.imp λa M F J S e1 Q P=>?_);let(ds,C):=a;dsimp only at M P Q;show#[λi m f H'=>m=ds.length - i/\i<=ds.length/\∃O2 ρ2,Ev F S O2 H'/\Rl K B Z O2 f H' ρ2/\WR K E B Z (Z7 K B Z O H D) (tE gt b (ds.drop i) ρ2),#[_,W,TX _,F,C,.refl,Q,M],?_];rintro i m n L ⟨rfl,c,O2,ρ2,e2,R2,w2⟩;let(go,o):=P O2 L e2 R2.od;by_cases u:i<ds.length
 .let(g1,g2):=go i u
  show .inr #[g1,λf H'=>i+1<=ds.length/\∃O2 ρ2,Ev F S O2 H'/\Rl K B Z O2 f H' ρ2/\WR K E B Z (Z7 K B Z O H D) (tE gt b (ds.drop (i+1)) ρ2),λf H' #[h1,h2]=>#[ds.length - (i+1),by ext,W,h1,h2],λx I y=>?_];let(N,d,hd,dv):=g2 x I y;let ed:ds.drop i=d::ds.drop (i+1):=by let(_,q):=SK.mp hd;rw[Uo u,q]
  rw[ed]at w2;let e3:Ev O2 L O2 I:=Ev.grow N;show X B Z O2 n I ρ2 x (.fz d) _ (R2.grow N) dv (WR.imp (WR.bind w2) λA T O4 z H4 e4 R4=>?_);let l:=e2.trans (e3.trans e4);show k B Z O4 z H4 A _ R4 (WR.imp (WR.bind T) λfl t=>?_);cases fl with
  |nx h=>show λr j G e5 p=>#[u,r,h,l.trans e5,p,t]
  |ct h=>show λr j G e5 p=>#[u,r,h,l.trans e5,p,t]
  |bk h=>show λr j G e5 p=>t r j G (e1.trans (l.trans e5)) p
  |rt rv=>show t
 .let e:i=ds.length:=by ext
  subst e;rw[Vc (SN _)]at w2;show .inl #[o,w2 O2 n L (e1.trans e2) R2]
def fW:D->I (G D)
 |.tuple ds=>M ds
 |.list ds=>M ds
 |_=>S
def zb(K:Bn)(d:TE):TI:=λY H R=>d Y H λx b=>∃a,x=.ref a/\(((∃xs,Xl K b a xs)/\R (Re K a) b)\/((∃xs,WY K b a xs)/\R (QH K a) b))
def wR(w:PE X l C):PI X tg l (zb X.K C):=by
 intro g s Y H R I h;show bG (w g s Y H _ I h) λv f a=>?_;let(x,n,d,r,t):=a;let(a,e,q):=t;subst e;ext r;rcases q with⟨⟨xs,i⟩,q⟩|⟨⟨xs,i⟩,q⟩
 .let(m,z,p,u):=d.list i
  show X0 p.isList ?_;show#[f.heap.objs.size,[f.heap.objs.size],_,_,n,W,d.kept λb o e=>cj _ e,zA a _,#[_,c0 _ W,W,W],λb j=>?_,q];let e:b=f.heap.objs.size:=by simpa using j
  subst e;show d.ZC (SN _) (d.U9.fresh (SN _))
 .let(m,z,p,u):=d.tuple i
  show XQ (show f.heap.IsTuple a m.toArray from p) ?_;show#[f.heap.objs.size,[f.heap.objs.size],_,_,n,W,d.kept λb o e=>cj _ e,wj a _,#[_,c0 _ W,W,W],λb j=>?_,q];let e:b=f.heap.objs.size:=by simpa using j
  subst e;show d.ZC (SN _) (d.U9.fresh (SN _))
def zg(h:YZ O K H a xs)(hd:UN O K H xs ds):z0 K (Re K a) O H ds:=by intro U H' e n;let f:=h.ev e;let b:=hd.ev e;show#[λi p=>?_,#[xs,f.1.sq,by rw[hd.length];show SN _]];let(x,l,_):=b.get (Tc p);show#[#[xs,x,f.1.sq,l],?_];rintro y m ⟨rfl,o⟩;let(d,j,g):=b.abD (o xs f.1.sq);show#[U7.refl _,d,j,g]
def DY(h:XW O K H a xs)(hd:UN O K H xs ds):z0 K (QH K a) O H ds:=by intro U H' e n;let f:=h.ev e;let b:=hd.ev e;show#[λi p=>?_,#[xs,f.1,by rw[hd.length];show SN _]];let(x,l,_):=b.get (Tc p);show#[#[xs,x,f.1,l],?_];rintro y m ⟨rfl,o⟩;let(d,j,g):=b.abD (o xs f.1);show#[U7.refl _,d,j,g]
def gG(c:FE):FI:=λρ=>(c ρ).bind λa=>(Res.T6 (tN a.2 a.1)).bind λb=>(Res.T6 (fW b.1)).bind λds=>.ok (ds,b.2)
def J1(h:EO K E C fe):IO K E (zb K C) (gG fe):=by
 intro B Z O Y H ρ o R w;show h B Z O Y H ρ _ R (w.bind.imp λa b p x i e1 n l=>?_);let((d,j),q,b):=b.T6;let(g,e2,R2,m):=qB n l q;let(ds,e,b):=b.T6;dsimp only at e;cases m with
 |tup h f=>ext e;show#[_,W,.inr #[#[_,h.1],b g _ i (e1.trans e2) R2 (DY h f)]]
 |lst h f=>ext e;show#[_,W,.inl #[#[_,h.1.sq],b g _ i (e1.trans e2) R2 (zg h f)]]
 |_=>ext e
def ff(lo:Int)(n:Nat):G D:=(TV n).map λ(k:Nat)=>.int (lo+(k:Int))
def Di:z0 K (Ql lo n) O H (ff lo n):=by
 intro U H' e d;let a:(ff lo n).length=n:=by ext ff;simp_all
 show#[λi f=>?_,by show n<=_;rw[a];show SN _];rw[a]at f;show#[f,?_];rintro x b ⟨rfl,rfl⟩;show#[U7.refl _,.int (lo+i),by ext ff;simp_all,.int _]
def g7(i:Int):Prop:= -(2^62)<=i/\i<2^62
noncomputable instance(i:Int):Decidable (g7 i):=by ext g7;infer_instance
def dR:G D->I (G D)
 |[.int j]=>if g7 j then M (ff 0 j.toNat)else S
 |_=>S
def gz(f:G D->I (G D))(b:FA):FI:=λρ=>(b ρ).bind λa=>(Res.T6 (sI a.2 a.1)).bind λds=>(Res.T6 (f ds)).bind λxs=>.ok (xs,a.2)
def GS(h:AO K E o C):IO K E (IL o) (gz dR C):=by
 intro B Z O Y H ρ n R w;show h B Z O Y H ρ _ R (w.bind.imp λa d l p m e1 f g=>?_);let(ds,q,d):=d.T6;let(xs,b,d):=d.T6;let px:=vG f g q;unfold dR at b;split at b
 .rename_i j
  split at b
  .rename_i e
   ext b;cases px with
   |cons h1 i=>ext i;ext h1;show#[j,W,e.1,e.2,d l _ m e1 f Di]
  .ext b
 .ext b
end
section
variable{K:Bn}{E:XK}{B O Y:a5}{X H H':Hp}{Z:St}{ρ ρ':aE}{v:V}
def Ck:I PV->I PV
 |some (.fz d)=>M (.fz d)
 |_=>S
def cR(ρ:aE):aE:=ρ.map Ck
def xw{i:Nat}(h:(cR ρ)[i]?=M (M x)):∃d,x=.fz d/\ρ[i]?=M (M (.fz d)):=by
 unfold cR at h;rw[S3]at h;cases q:ρ[i]? with
 |none=>simp_all
 |some o=>
  rw[q]at h;let a:=Tx h;unfold Ck at a;split at a
  .ext a;show#[_,W,W]
  .ext a
def pY(ρ:aE):G Nat->I (G D×aE)
 |[]=>M ([],ρ)
 |j::r=>match tN ρ (.pl j)with
  |some (d,b)=>(match pY b r with
   |some (c,a)=>M (d::c,a)
   |none=>S)
  |none=>S
def zw(R:Rl K B X O Z H ρ)(h:tN ρ (.pl i)=M (d,ρ')):∃v,Z[i]?=M (M v):=by
 let a:toS ρ i ρ[i]?=M (d,ρ'):=h;cases q:ρ[i]? with
 |none=>rw[q]at a;ext a
 |some o=>
  cases o with
  |none=>rw[q]at a;ext a
  |some x=>let(v,b,_):=R.slot i x q;show#[v,b]
theorem ug:∀{b:G Nat} {ds:G D} {O:a5} {ρ ρ':aE},Rl K B X O Z H ρ->pY ρ b=M (ds,ρ')->∃Y k,Ev O H Y H/\Rl K B X Y Z H ρ'/\UN Y K H k ds/\b.map (λj=>(Z[j]?).join)=k.map M
 |[],_,O,_,_,R,e=>by ext e;show#[O,[],.refl,R,.nil,W]
 |j::r,_,O,ρ,ρ',R,e=>by
  unfold pY at e;cases q:tN ρ (.pl j)with
  |none=>simp_all
  |some p=>
   let(d,a):=p;rw[q]at e;dsimp only at e;cases u:pY a r with
   |none=>simp_all
   |some g=>let(c,f):=g;rw[u]at e;ext e;let(v,h):=zw R q;let(t,e1,m,l):=qB (pv:=.pl j) R h q;let(n,k,e2,R2,i,o):=ug m u;show#[n,v::k,e1.trans e2,R2,.cons (l.ev e2) i,by simp_all]
def dL(gt:FG)(c:FT)(f:FE):G D->aE->G D->Res (G D)
 |[],_,acc=>.ok acc
 |d::r,ρ,acc=>(gt (.fz d) ρ).bind λe=>(c e).bind λb=>if b.1=U then(f b.2).bind λa=>(Res.T6 (tN a.2 a.1)).bind λx=>
   if acc.length<1000000 then dL gt c f r (cR x.2) (acc++[x.1])else .bad
  else dL gt c f r (cR b.2) acc
def lj:Res α->Res α
 |.er _=>.bad
 |r=>r
def iJ(n:Nat)(b:G Nat)(e:FI)(gt:FG)(f:FT)(g:FE):FE:=λρ=>(e ρ).bind λa=>(Res.T6 (pY a.2 b)).bind λc=>
 (lj (dL gt f g a.1 (SY n S++c.1.map λd=>M (.fz d)) [])).bind λxs=>.ok (.ow xs,c.2)
def xI{own:G Str}(h:own.length=n):own.map (λ_=>(S:I V))=SY n S:=by
 subst h
 induction own with
 |nil=>rfl
 |cons x r a=>grind
def yk(h:WR K E B X P (lj r)):∃a,r=.ok a/\P a:=by
 cases r with
 |ok a=>show#[a,W,h]
 |er x=>show h.elim
 |bad=>show h.elim
def OX(K:Bn)(J:It)(O:a5)(H:Hp)(ds:G D):Prop:=∀Y H',Ev O H Y H'->U7 H H'->jI Y H'->
 (∀i,i<ds.length->J.go i H'/\∀x a,J.yld i H' x a->U7 H' a/\∃d,ds[i]?=M d/\DV Y K a x d)/\J.stop ds.length H'
def PY(K:Bn)(E:XK)(b:TI)(d:FI):Prop:=
 ∀(B:a5) (X:Hp) (O:a5) (Z:St) (H:Hp) (ρ:aE) (a:It->Hp->Prop),Rl K B X O Z H ρ->WR K E B X (λr=>∀Y J H',Ev O H Y H'->Rl K B X Y Z H' r.2->OX K J Y H' r.1->a J H') (d ρ)->b Z H a
theorem IO.s(h:IO K E wi fi):PY K E wi fi:=λB X O Z H ρ b R w=>h B X O Z H ρ b R (w.imp λr q Y J H' e R a=>q Y J H' e R λd f e2 _ n=>a d f e2 n)
def Dj(c:own.length=n)(hf:fv.map (·.2)=fj)
  (hi:PY K E wi fi) (hg:GO K E0 g gt) (ht:Zg K E0 tc ft) (he:EO K E0 te fe):EO K E (ul own fv wi g tc te) (iJ n fj fi gt ft fe):=by
 intro B X O Z H ρ Q R w;show hi B X O Z H ρ _ R (w.bind.imp λa w1 O1 J H1 e1 R1 it=>?_);let(ds,ρ1):=a;let((cs,ρ2),qc,w1):=w1.T6;dsimp only at qc it;let(G,vs,e2,R2,dvs,hvs):=ug R1 qc;let(xs,qx,w1):=yk (WR.bind w1);intro l F;let hB:∀{H':Hp},U7 H1 H'->H' l≠CL->∀a,aY G l a->H' a≠CL:=λ{H'} s nd a h z=>h.elim (λq=>R2.od a (s.free z) q) λe=>nd (by rw[<-e];show z);show#[λi m I H'=>m=ds.length - i/\i<=ds.length/\∃(A:cb D) (ys:cb V) (t:aE),U7 H1 H'/\H' l=cL (.lst ys)/\UN (aY G l) K H' ys A/\I.length=t.length/\(∀(j:Nat) (x:PV),t[j]?=cL (cL x)->∃d u,x=PV.fz d/\I[j]?=cL (cL u)/\DV (aY G l) K H' u d)/\dL gt ft fe (ds.drop i) t A=.ok xs,
  #[_,W,TX _,[],[],_,bw F _,ay,.nil,?_,λj x L=>?_,qx],?_]
 .ext fw
  rw[SQ,SQ,SI,SI,TQ,SI,c,<-dvs.length];let:=eh UQ hvs
  grind
 .let hm:fv.map (λp=>(Z[p.2]?).join)=vs.map cL:=by rw[<-hvs,<-hf,T1];rfl
  ext fw;rw[xI c,hm];by_cases hj:j<n
  .rw[Ti (by rw[TQ];show hj),Vs,ai hj]at L;ext L
  .rw[Tr (by rw[TQ];ext),TQ,S3]at L⊢
   cases qd:cs[j - n]? with
   |none=>rw[qd]at L;ext L
   |some d=>rw[qd]at L;ext L;let(u,hu,du):=dvs.get qd;show#[d,u,W,by rw[hu];rfl,du.ev (Ev.add (bw F _) F)]
 .rintro i m I H' ⟨rfl,hi,A,ys,t,s,hD,dys,hl,hsl,f⟩
  let nD:H' l≠CL:=by rw[hD];simp
  let no':=λa z h=>hB s nD a h z;let ev1:=e2.trans (Ev.add s F);let(go,stop):=it (aY G l) H' ev1 s no';by_cases WZ:i<ds.length
  .let(g1,g2):=go i WZ
   show .inr #[g1,λC M3=>i+1<=ds.length/\∃(A:cb D) (ys:cb V) (t:aE),U7 H1 M3/\M3 l=cL (.lst ys)/\UN (aY G l) K M3 ys A/\C.length=t.length/\(∀(j:Nat) (x:PV),t[j]?=cL (cL x)->∃d u,x=PV.fz d/\C[j]?=cL (cL u)/\DV (aY G l) K M3 u d)/\dL gt ft fe (ds.drop (i+1)) t A=.ok xs,
    λC M3 #[h1,h2]=>#[ds.length - (i+1),by ext,W,h1,h2],λx H3 y=>?_]
   let(s3,d,hd,dv):=g2 x H3 y;let ed:ds.drop i=d::ds.drop (i+1):=by let(_,q):=SK.mp hd;rw[Uo WZ,q]
   rw[ed]at f;let hD3:=s3 _ _ hD;let nD3:H3 l≠CL:=by rw[hD3];simp
   let sv:=s.trans s3;let RC:Rl K (aY G l) H3 (aY G l) I H3 t:=#[U7.refl _,λ_ h=>h,hB sv nD3,λa z h=>hB sv nD3 a h z,hl,λj x L=>by let(d,u,rfl,h1,h2):=hsl j x L;show#[u,h1,h2.ev (Ev.grow s3)],λj k xs ys w hj=>by let(d,u,e,_):=hsl j _ hj;ext e];unfold dL at f;let T:∀{O5:a5} {C:St} {M3:Hp} {N:aE} {Uz0:Hp},Rl K (aY G l) H3 O5 C M3 N->(∀b o,b≠l->M3 b=cL o->Uz0 b=cL o)->C.length=(cR N).length/\∀(j:Nat) (x:PV),(cR N)[j]?=cL (cL x)->∃d u,x=PV.fz d/\C[j]?=cL (cL u)/\DV (aY G l) K Uz0 u d:=λ{O5 C M3 N Uz0} S k=>by show#[by ext cR;rw[SI];show S.len,λj x L=>?_];let(d,rfl,hxx):=xw L;let(u,h1,h2):=S.slot j _ hxx;show#[d,u,W,h1,DV.ev (λb o h n=>#[k b o (λe=>n (.inr e)) h,n]) (DV.ev (Ev.sub S.bo) h2)]
   show hg _ _ _ I H3 t x (.fz d) _ RC dv ?_;cases qg:gt (.fz d) t with
   |er z=>rw[qg]at f;ext f
   |bad=>rw[qg]at f;ext f
   |ok ρ3=>
    rw[qg,eF]at f;intro O4 σ4 H4 e4 R4;show ht _ _ _ σ4 H4 ρ3 _ R4 ?_;cases qt:ft ρ3 with
    |er z=>rw[qt]at f;ext f
    |bad=>rw[qt]at f;ext f
    |ok b=>
     let(b,ρ4):=b;rw[qt,eF]at f;intro O5 M3 e5 S;cases b with
     |false=>rw[ak Td]at f⊢;let(l5,k5):=T S λb o _ h=>h;show#[WZ,A,ys,cR ρ4,sv.trans S.same,S.same _ _ hD3,?_,l5,k5,f];show dys.ev (Ev.grow (s3.trans S.same))
     |true=>
      rw[ai W]at f⊢;show he _ _ _ σ4 M3 ρ4 _ S ?_;cases qe:fe ρ4 with
      |er z=>rw[qe]at f;ext f
      |bad=>rw[qe]at f;ext f
      |ok r=>
       rw[qe,eF]at f;intro O6 yv Uz0 e6 R6 p6;cases q7:tN r.2 r.1 with
       |none=>rw[q7]at f;ext f
       |some xr=>
        let(xd,ρ7):=xr;rw[q7]at f;let(O7,e7,R7,dv7):=qB R6 p6 q7;let hD7:=R7.same _ _ hD3;let P:(if A.length<1000000 then dL gt ft fe (ds.drop (i+1)) (cR ρ7) (A++[xd])else .bad)=.ok xs:=f;by_cases hl6:A.length<1000000
        .rw[ai hl6]at P
         let up:∀b o,b≠l->Uz0 b=cL o->upd Uz0 l (.lst (ys++[yv])) b=cL o:=λb o hb h=>by rw[av hb];show h
         let evD:Ev (aY G l) Uz0 (aY G l) (upd Uz0 l (.lst (ys++[yv]))):=λb o h n=>#[up b o (λe=>n (.inr e)) h,n];let agt:=dys.ev (Ev.grow (s3.trans R7.same));let(l5,k5):=T R7 up;show#[ys,hD7,pR (by rw[dys.length];show hl6),WZ,A++[xd],ys++[yv],cR ρ7,λb o h=>?_,ay,?_,l5,k5,P]
         .rw[av (bR h F)];show R7.same _ _ (sv _ _ h)
         .show(agt.append (.cons (DV.ev (Ev.sub R7.bo) dv7) .nil)).ev evD
        .rw[ak hl6]at P;ext P
  .let e:i=ds.length:=by ext
   subst e;rw[Vc (SN _)]at f;let f:=f;ext f;show .inl #[stop,?_];show w1 (aY G l) (.ref l) H' (e1.trans ev1) (R2.add s F nD) #[l,ys,W,.inr W,R2.ab3 F,hD,dys,λk es hk z=>?_];let(u,h1,b,us,e2,g1,g2,g3,g4):=R2.slot k _ hk;rw[z]at h1;ext h1;ext e2;rw[F]at g3;ext g3
def Ks(ρ:aE):I (I PV)->Res (G D×aE)
 |some (M (.ow ds))=>.ok (ds,ρ)
 |_=>.bad
def yc(i:Nat):FI:=λρ=>Ks ρ ρ[i]?
def Ea:PY K E (zb K (gO i)) (yc i):=by
 intro B X O Z H ρ z R w;unfold yc at w;cases q:ρ[i]? with
 |none=>rw[q]at w;show w.elim
 |some o=>
  cases o with
  |none=>rw[q]at w;show w.elim
  |some x=>
   cases x with
   |fz d=>rw[q]at w;show w.elim
   |pl j=>rw[q]at w;show w.elim
   |ow ds=>rw[q]at w;let(v,h1,a,A,rfl,u,t,f,p):=R.slot i _ q;show#[_,h1,a,W,.inl #[#[A,Xl.of f],w O _ H .refl R λY H' e s n=>?_]];let k:=s _ _ f;let b:=p.ev e;show#[λj m=>?_,#[A,Xl.of k,by rw[b.length];simp_all]];let(x,l,_):=b.get (Tc m);show#[#[A,x,Xl.of k,l],?_];rintro y r ⟨rfl,C⟩;let(d,h,g):=b.abD (C A (Xl.of k));show#[U7.refl _,d,h,g]
def bL(F:FN)(n:Nat)(c:FA):FE:=λρ=>(c ρ).bind λa=>(Res.T6 (oY a.2 a.1)).bind λb=>if b.1.length=n then(lj (F b.1)).bind λd=>.ok (d.pv,b.2)else .bad
def MG(c:AO K E C fa):EO K E (qp (zj K n F) [] E0 C) (bL F n fa):=by
 intro B X O Z H ρ Q R w;show c B X O Z H ρ _ R (w.bind.imp λa f t A u e1 m i=>?_);let((ds,e),q,b):=f.T6;let(p,e2,R2,d):=qU m i q;dsimp only at b;by_cases hn:ds.length=n
 .rw[ai hn]at b;let(L,g,b):=yk (WR.bind b);rw[TC];show#[d.length.trans hn,p,ds,λa z j=>R2.od a j z,d,?_];rw[g];show iU R2 λo v r e3 l h=>b o v r (e1.trans (e2.trans e3)) l h
 .rw[ak hn]at b;show b.elim
end
def fq(N:Nat)(g:FS):FN:=λds=>(g (ds.map (λd=>M (.fz d))++SY (N - ds.length) S)).bind λa=>match a with
 |.rt b=>.ok b
 |.nx _=>.ok (.fz .none)
 |_=>.bad
def Dz(c:∀a,B a->H a≠S)(g:UN B K H C ds):Rl K B H B (L2.start N C) H (ds.map (λd=>M (.fz d))++SY (N.length - ds.length) S):=by
 let o:=g.length;show#[U7.refl _,λ_ h=>h,c,λa z h=>c a h z,?_,λi x l=>?_,λi j xs ys w p=>?_]
 .ext L2.start;simp_all
 all_goals
  let b:∀{i:Nat} {x:PV},(ds.map (λd=>M (PV.fz d))++SY (N.length - ds.length) S)[i]?=M (M x)->∃d,x=.fz d/\ds[i]?=M d:=λ{i x} h=>by
   by_cases p:i<ds.length
   .rw[Ti (by rw[SI];show p),S3]at h
    cases q:ds[i]? with
    |none=>rw[q]at h;ext h
    |some d=>rw[q]at h;ext h;show#[d,W,W]
   .rw[Tr (by rw[SI];ext),Vs]at h;split at h<;>ext h
 .let(d,rfl,m):=b l;let(v,f,n):=g.get m;show#[v,?_,n];let p:=(SK.mp f).1;ext L2.start;rw[Ti (by rw[SI];show p),S3,f];rfl
 .let(d,e,_):=b p;ext e
def Se(F:Zk K x qual st f fd)(S:Wl N C (aA st))(c:C.length=n)
  (p:∀(a:T) (A:Tv) (outer:G Env) (s:SS) (H:Hp) (E:XK),V6 k (A.deeper (Ud qual (aA st) s.heap.objs.size f a))->
   ∃t,YV (jF kP P w K mg base N qual (aA st) f a A outer s H E).nox (cZ st) t/\SO K E t g):FnOk P w K mg base kP (k+1) f fd C (zj K n (fq N.length g)):=by
 show F.ok S (λL H Q E h=>h.1.trans c.symm) (λa A outer s H L Q E j h=>?_);let(t,d,i):=p a A outer s H E j;let(u,B,ds,l,o,h):=h;show#[t,d,i B H B _ H _ _ (Dz l o) (WR.imp (WR.bind h) λm q=>?_)];cases m with
 |rt X=>show q
 |nx z=>show λv b r e R=>q .Wa r R.same .Wa
 |bk z=>show q.elim
 |ct z=>show q.elim
end L3
namespace L3
open PySem PySem.Spec PyProof.Rows L2
def OpR.or(h:OpR X f r)(c:OpR X f r'):OpR X f (λx y H Q=>r x y H Q\/r' x y H Q):=by
 intro a s b H x y v u Q I e d q;rcases q with q|q
 .show h a s b H x y v u Q I e d q
 .show c a s b H x y v u Q I e d q
def J7(I:Inv X pins σ H s)(h:WI X.K H l xs):xs.length<=S8/\∃(a:G T) (n:Nat),Vals xs a/\xs.length=a.length/\s.heap.get? l=M {cls:=.type "list",data:=.seq a.toArray n}:=by
 rcases h with(h|⟨o,h⟩)|⟨a,n,h1,d,b⟩
 .show I.aek h
 .let(_,z,a,n,r,e):=I.U9 l _ h;show#[z,a,n,r,r.length,e]
 .show#[d,a,n,b,b.length,I.ZW _ _ h1]
def IW(K:Bn):R2:=λx y H Q=>∃l b xs zs,x=.ref l/\y=.ref b/\WI K H l xs/\WI K H b zs/\xs.length+zs.length<=S8/\∀p,H p=S->Q (.ref p) (upd H p (.lst (xs++zs)))
def Gf:OpR X (U0 .Add) (IW X.K):=by
 intro a s w H x y v u Q I i g h;let(l,b,xs,A,rfl,rfl,o,p,E,q):=h;ext i;ext g;let(z,f,n,r,F,e):=J7 I o;let(B,d,C,j,m,e2):=J7 I p;show PySem.P.add_list e e2 ?_ (by simp_all);let t:f.toArray++d.toArray=(f++d).toArray:=by simp
 rw[t];show#[.ref _,_,I.adZ (r.append j) (by simp_all),W,q _ I.fresh]
def JX(K:Bn):R2:=λx y H Q=>∃l k xs,x=.ref l/\y=.int k/\WI K H l xs/\ -(2^63)<=k/\k<2^63/\xs.length*k.toNat<=S8/\
 ∀p,H p=S->Q (.ref p) (upd H p (.lst (SY k.toNat xs).flatten))
def HQ:OpR X (U0 .Mult) (JX X.K):=by
 intro j s M H x y v u Q I B A h;let(l,k,xs,rfl,rfl,E,h1,G,C,q):=h;ext B;let(t,rfl):=A;let(z,b,n,r,O,e):=J7 I E;let d:b.toArray.size*k.toNat<=S8:=by simp_all
 let f:¬b.toArray.size*k.toNat>(2^63 - 1)/8:=by
  let:(S8:Nat)<=(2^63 - 1)/8:=by decide
  ext
 let g:¬(!Builtin.List.listFitsIndex k)=U:=by rw[fitsIndex_both h1 G];simp_all
 let i:¬Builtin.List.listTooLong (b.toArray.size*k.toNat)=U:=by rw[CN d];simp_all
 let L:Xi (λp o=>p++o) #v[] (SY (if b.toArray.isEmpty=U then 0 else k.toNat) b.toArray)=(SY k.toNat b).flatten.toArray:=by
  let J:=λm=>by let:=lA b m [];rw[Xp]at this;show this
  rw[J];cases b with
  |nil=>simp
  |cons a N=>rfl
 show ZL () #[_,e,W] (λw=>W3 w k t) noFill_list_mul F.fills_int_mul F.slot_int_rmul repeat_list F.slot_int_index.lookup
  (Wi F.slot_int_rmul (W3 s k t) F.entry_int_rmul (F.args_int_rmul_2 _ _) (int___rmul___int_list k t l b.toArray n)
   #[e,W,#[_,e,W],Wi F.slot_list_mul #[_,e,W] F.entry_list_mul (F.args_list_mul_2 _ _) (AutoListH.list___mul___list_int_3 l b.toArray n k t g f i) #[e,?_]])
 rw[L];show#[.ref _,_,I.adZ (r.rep k.toNat) (by rw[xY,Nat.mul_comm];show C),W,q _ I.fresh]
section
variable{K:Bn}
def fI(g:Int->Int->Int):D->D->I RV
 |.int i,.int j=>M (.fz (.int (g i j)))
 |_,_=>S
def fB(g:Int->Int->Bool):D->D->I RV
 |.int i,.int j=>M (.fz (.bool (g i j)))
 |_,_=>S
def Pw(C:Int->Int->Bool)(g:Int->Int->Int):D->D->I RV
 |.int i,.int j=>if C i j=U then M (.fz (.int (g i j)))else S
 |_,_=>S
def uu(h:fI g dx C=M o):∃i j,dx=.int i/\C=.int j/\o=.fz (.int (g i j)):=by
 unfold fI at h;split at h
 .ext h;show#[_,_,W,W,W]
 .ext h
def ND:iG K (vh λi j=>.int (g i j)) (fI g):=by intro O H x y h d f Q n b a e q;let(i,j,rfl,rfl,rfl):=uu e;ext b;ext a;show#[i,j,W,W,q.at (.int _)]
def xE:iG K (vh λi j=>.bl (g i j)) (fB g):=by
 intro O H x y h d f Q n b a e q;unfold fB at e;split at e
 .ext e;ext b;ext a;show#[_,_,W,W,q.at (.bl _)]
 .ext e
def v4(f:∀i j,C i j=U->o i j):iG K (rI o λi j=>.int (g i j)) (Pw C g):=by
 intro O H x y m h l Q n b a e q;unfold Pw at e;split at e
 .split at e
  .rename_i d;ext e;ext b;ext a;show#[_,_,W,W,f _ _ d,q.at (.int _)]
  .ext e
 .ext e
theorem EX(h:DX O K H x (.list ds)):∃a xs,x=.ref a/\WI K H a xs/\UN O K H xs ds:=h
theorem vn(h:DX O K H x (.tuple ds)):∃a xs,x=.ref a/\XW O K H a xs/\UN O K H xs ds:=Dr h W
def Ff(K:Bn):R2:=λx y H Q=>vh (λi j=>.int (i+j)) x y H Q\/IW K x y H Q\/JR K x y H Q
theorem xx:OpR X (U0 .Add) (Ff X.K):=OpR.or KR (OpR.or Gf GW)
def bB:D->D->I RV
 |.int i,.int j=>M (.fz (.int (i+j)))
 |.list xs,.list ys=>if xs.length+ys.length<=1000000 then M (.ow (xs++ys))else S
 |.tuple xs,.tuple ys=>if xs≠[]/\xs.length+ys.length<=1000000 then M (.fz (.tuple (xs++ys)))else S
 |_,_=>S
theorem pN(h:n<=1000000):n<=S8:=S9 h ()
def UN.ne(h:UN O K H vs ds):vs=[]↔ds=[]:=by ext h<;>simp
def yD:iG K (Ff K) bB:=by
 intro O H x y p m o Q n i h e q;unfold bB at e;split at e
 .ext e;ext i;ext h;show .inl #[_,_,W,W,q.at (.int _)]
 .split at e
  .rename_i g;ext e;let(a,xs,rfl,h1,d):=EX i;let(b,ys,rfl,j,f):=EX h;show .inr (.inl #[a,b,xs,ys,W,W,h1,j,pN (by rw[d.length,f.length];show g),Fin.new (d.append f) q])
  .ext e
 .split at e
  .rename_i g;ext e;let(a,xs,rfl,h1,d):=vn i;let(b,ys,rfl,j,f):=vn h;show .inr (.inr #[a,b,xs,ys,W,W,h1.1,j.1,λz=>g.1 (d.ne.mp z),pN (by rw[d.length,f.length];show g.2),λz=>?_,λ_=>Fin.ZE (d.append f) n q]);let l:=f.ne.mp z;subst l;rw[TC]at q;show q.at (.tup h1 d)
  .ext e
 .ext e
def BV(K:Bn):R2:=λx y H Q=>rI abx (λi j=>.int (i*j)) x y H Q\/JX K x y H Q
theorem GZ:OpR X (U0 .Mult) (BV X.K):=OpR.or Nc HQ
def fL(i:Int):Bool:=decide (-(2^64)<i/\i<2^64)
theorem oP(h:fL i=U): -(2^64)<i/\i<2^64:=a8 h
def Ad:D->D->I RV
 |.int i,.int j=>if(fL i||fL j)=U then M (.fz (.int (i*j)))else S
 |.list xs,.int k=>if xs.length*k.toNat<=1000000/\ -(2^63)<=k/\k<2^63 then M (.ow (SY k.toNat xs).flatten)else S
 |_,_=>S
def IG:iG K (BV K) Ad:=by
 intro O H x y j h i Q n f d e q;unfold Ad at e;split at e
 .split at e
  .rename_i b
   ext e;ext f;ext d;show .inl #[_,_,W,W,?_,q.at (.int _)];rcases(Vy _ _).mp b with z|z
   .show .inl (oP z)
   .show .inr (oP z)
  .ext e
 .split at e
  .rename_i b;ext e;ext d;let(a,xs,rfl,h1,g):=EX f;show .inr #[a,_,xs,W,W,h1,b.2.1,b.2.2,pN (by rw[g.length];show b.1),Fin.new (g.flat _) q]
  .ext e
 .ext e
def pL:=fI λi j=>i - j
theorem F0:iG K (vh λi j=>.int (i - j)) pL:=ND
def Mj(_ j:Int):Bool:=decide (0<j)
def bf:=Pw Mj λi j=>i % j
theorem Hg:iG K (rI (λ_ j=>0<j) λi j=>.int (i % j)) bf:=v4 λi j h=>a8 h
def LJ(_ j:Int):Bool:=decide (0<j/\j<2^128)
def bT:=Pw LJ λi j=>i/j
theorem FQ:iG K (rI (λ_ j=>0<j/\j.natAbs.log2<9000) λi j=>.int (i/j)) bT:=v4 λi j h=>by
 let b:=a8 h;show#[b.1,?_];let a:j.natAbs<2^128:=by ext
 let d:=(Nat.log2_lt ()).mpr a;ext
def Bh(i j:Int):Bool:=decide (0<=j/\j<=1000000/\i.natAbs<2^64)
def HZ(i j:Int)(h:Bh i j=U):LO i j:=by unfold Bh at h;show(show 0<=j/\j<=1000000/\i.natAbs<2^64 from a8 h)
def kS:=Pw Bh λi j=>i^j.toNat
theorem Ip:iG K (rI LO λi j=>.int (i^j.toNat)) kS:=v4 HZ
def LA:=fB λi j=>decide (i<j)
def Qm:=fB λi j=>decide (i<=j)
def Ng:=fB λi j=>decide (j<i)
def Nv:=fB λi j=>decide (j<=i)
theorem M9:iG K (vh λi j=>.bl (decide (i<j))) LA:=xE
theorem K2:iG K (vh λi j=>.bl (decide (i<=j))) Qm:=xE
theorem LV:iG K (vh λi j=>.bl (decide (j<i))) Ng:=xE
theorem M8:iG K (vh λi j=>.bl (decide (j<=i))) Nv:=xE
def AJ(d:D):Bool:=d.canLay0&&decide (d.depth<=64)
def j7(d e:D):I RV:=if(AJ d&&e.canLay0)=U then M (.fz (.bool (SR.eqv d e)))else S
def tw(d e:D):I RV:=if(AJ d&&e.canLay0)=U then M (.fz (.bool (!SR.eqv d e)))else S
def La:iG K (IB K SW) j7:=by
 intro O H x y g f h Q n d b e q;unfold j7 at e;split at e
 .rename_i a;ext e;unfold AJ at a;simp only[Ld,decide_eq_true_eq]at a;show#[g,f,d.plain,b.plain,a.1.1,a.2,a.1.2,q.at (.bl _)]
 .ext e
def LP:iG K (IB K U) tw:=by
 intro O H x y g f h Q n d b e q;unfold tw at e;split at e
 .rename_i a;ext e;unfold AJ at a;simp only[Ld,decide_eq_true_eq]at a;show#[g,f,d.plain,b.plain,a.1.1,a.2,a.1.2,q.at (.bl _)]
 .ext e
def pE:D->D->I RV
 |.none,.none=>M (.fz (.bool U))
 |_,.none=>M (.fz (.bool SW))
 |_,_=>S
def AF:D->D->I RV
 |.none,.none=>M (.fz (.bool SW))
 |_,.none=>M (.fz (.bool U))
 |_,_=>S
def Fg(h:DX O K H x d)(hd:d≠.none):x≠.Wa:=by
 cases d with
 |none=>simp_all
 |list ds=>let(a,xs,rfl,_):=EX h;simp
 |tuple ds=>let(a,xs,rfl,_):=vn h;simp
 |bool b=>ext h;simp
 |int b=>ext h;simp
 |str b=>ext h;simp
 |dict b=>ext h
def FP:iG K (λx y H Q=>y=.Wa/\Q (.bl (decide (x=.Wa))) H) pE:=by
 intro O H x y h f g Q n b a e q;unfold pE at e;split at e
 .ext e;ext b;ext a;show#[W,q.at (.bl _)]
 .rename_i d;ext e;ext a;show#[W,?_];rw[a7 (Fg b d)];show q.at (.bl _)
 .ext e
def GI:iG K (λx y H Q=>y=.Wa/\Q (.bl (!decide (x=.Wa))) H) AF:=by
 intro O H x y h f g Q n b a e q;unfold AF at e;split at e
 .ext e;ext b;ext a;show#[W,q.at (.bl _)]
 .rename_i d;ext e;ext a;show#[W,?_];rw[a7 (Fg b d)];show q.at (.bl _)
 .ext e
def Fs(K:Bn)(neg:Bool):R2:=λx y H Q=>∃d ds,L2.DV K H x d/\(L2.DV K H y (.list ds)\/L2.DV K H y (.tuple ds))/\d.canLay0=U/\SR.canLayAll0 ds=U/\d.depth<=64/\Q (.bl (if neg then !(ds.any λe=>SR.eqv e d)else ds.any λe=>SR.eqv e d)) H
def LN(n:X.A.units+65<cLine):OpR X (UK .In) (Fs X.K SW):=by
 intro g s m H x y v u Q I j e h;let(d,ds,h1,a,l1,i,l,q):=h;let(as,f):=h1.reads I j;let hm:min (SR.depthAll ds) d.depth<=64:=S9 (Yl _ _) l;rcases a with a|a
 .let(bs,b):=a.reads I e;show afg b f i l1 () #[.bl _,H,I,W,q]
 .let(bs,b):=a.reads I e;show afh b f i l1 () #[.bl _,H,I,W,q]
def Fq(n:X.A.units+65<cLine):OpR X (UK .NotIn) (Fs X.K U):=by
 intro g s m H x y v u Q I j e h;let(d,ds,h1,a,l1,i,l,q):=h;let(as,f):=h1.reads I j;let hm:min (SR.depthAll ds) d.depth<=64:=S9 (Yl _ _) l;rcases a with a|a
 .let(bs,b):=a.reads I e;show afi b f i l1 () #[.bl _,H,I,W,q]
 .let(bs,b):=a.reads I e;show afj b f i l1 () #[.bl _,H,I,W,q]
def MN(d e:D):I RV:=match fW e with
 |some ds=>if(AJ d&&SR.canLayAll0 ds)=U then M (.fz (.bool (ds.any λe=>SR.eqv e d)))else S
 |none=>S
def C4(d e:D):I RV:=match fW e with
 |some ds=>if(AJ d&&SR.canLayAll0 ds)=U then M (.fz (.bool (!ds.any λe=>SR.eqv e d)))else S
 |none=>S
def E6(a:DX O K H y e)(h:fW e=M ds):L2.DV K H y (.list ds)\/L2.DV K H y (.tuple ds):=by
 unfold fW at h;split at h
 .ext h;show .inr a.plain
 .ext h;show .inl a.plain
 .ext h
def Kl:iG K (Fs K SW) MN:=by
 intro O H x y h g i Q n d b e q;unfold MN at e;split at e
 .rename_i ds f
  split at e
  .rename_i a;ext e;unfold AJ at a;simp only[Ld,decide_eq_true_eq]at a;show#[h,ds,d.plain,E6 b f,a.1.1,a.2,a.1.2,q.at (.bl _)]
  .ext e
 .ext e
def F5:iG K (Fs K U) C4:=by
 intro O H x y h g i Q n d b e q;unfold C4 at e;split at e
 .rename_i ds f
  split at e
  .rename_i a;ext e;unfold AJ at a;simp only[Ld,decide_eq_true_eq]at a;show#[h,ds,d.plain,E6 b f,a.1.1,a.2,a.1.2,q.at (.bl _)]
  .ext e
 .ext e
def dJ(d e:D):I RV:=match fW d,e with
 |some ds,.int i=>(j8 ds i).map .fz
 |_,_=>S
def De(h:UN O K H xs ds)(e:j8 ds i=M d):∃v,j8 xs i=M v/\DV O K H v d:=by
 unfold j8 at e⊢;rw[h.length];cases q:Fm ds.length i with
 |none=>simp_all
 |some j=>rw[q]at e;show h.get e
def Dn:iG K (OG K) dJ:=by
 intro O H x y r m p Q n j l e q;unfold dJ at e;split at e
 .rename_i ds i b
  ext l;cases o:j8 ds i with
  |none=>simp_all
  |some d=>
   rw[o]at e;ext e;unfold fW at b;split at b
   .ext b;let(a,xs,rfl,h1,g):=vn j;let(v,f,h):=De g o;show .inr (.inl #[a,xs,i,v,W,W,h1.1,f,q.at h])
   .ext b;let(a,xs,rfl,h1,g):=EX j;let(v,f,h):=De g o;show .inl #[a,xs,i,v,W,W,h1.sq,f,q.at h]
   .ext b
 .ext e
def fU(xs:G D)(lo a:I Int):G D:=(xs.drop (HT.sIx xs.length 0 lo)).take (HT.sIx xs.length xs.length a - HT.sIx xs.length 0 lo)
def A6{lo a:I Int}(h:UN O K H xs ds):UN O K H (Af xs lo a) (fU ds lo a):=by unfold Af fU;rw[h.length];show(h.drop _).take _
def iV(n:Nat)(lo a:I Int):Bool:=decide (HT.sIx n 0 lo=0/\HT.sIx n n a=n)
def Ll(K:Bn):V->I Int->I Int->Hp->VK->Prop:=λx lo a H Q=>PD K x lo a H Q\/Px K x lo a H Q
def BL:Ky X (Ll X.K):=by
 intro a s b H x v e d lo l f Q I g j pl i h;rcases h with h|h
 .show Hv a s b H x v e d lo l f Q I g j pl i h
 .show Lx a s b H x v e d lo l f Q I g j pl i h
def Pz:D->I Int->I Int->I RV
 |.list ds,lo,a=>M (.ow (fU ds lo a))
 |.tuple ds,lo,a=>if iV ds.length lo a=U then S else M (.fz (.tuple (fU ds lo a)))
 |_,_,_=>S
def sk:P3 K (Ll K) Pz:=by
 intro O H x lo h i g Q n d e q;unfold Pz at e;split at e
 .ext e;let(a,xs,rfl,h1,b):=EX d;show .inl #[a,xs,W,h1.sq,Fin.new (A6 b) q]
 .split at e
  .ext e
  .rename_i f;ext e;let(a,xs,rfl,h1,b):=vn d;show .inr #[a,xs,W,h1.1,λz=>f ?_,Fin.ZE (A6 b) n q];ext iV;rw[<-b.length];show a6 z
 .ext e
def zu:D->I RV
 |.int i=>M (.fz (.int (-i)))
 |_=>S
def HN:RM K (rU λi=>.int (-i)) zu:=by
 intro O H x d b Q n a e q;unfold zu at e;split at e
 .ext e;ext a;show#[_,W,q.at (.int _)]
 .ext e
def eG:G D->I RV
 |[d]=>(match fW d with
  |some ds=>M (.fz (.int ds.length))
  |none=>S)
 |_=>S
def KM:Fo K (λxs H Q=>∃x n,xs=[x]/\Pq K x H n/\Q (.int n) H) eG:=by
 intro O H xs ds g Q n f e q;unfold eG at e;split at e
 .split at e
  .rename_i es b
   ext e;cases f with
   |cons h1 d=>
    ext d;unfold fW at b;split at b
    .ext b;let(a,xs,rfl,h1,d):=vn h1;show#[_,xs.length,W,.inr #[xs,h1.1,W],by rw[d.length];show q.at (.int _)]
    .ext b;let(a,xs,rfl,h1,d):=EX h1;show#[_,xs.length,W,.inl #[xs,h1.sq,W],by rw[d.length];show q.at (.int _)]
    .ext b
  .ext e
 .ext e
def kG:G D->I RV
 |[.tuple ds]=>M (.fz (.tuple ds))
 |[.list ds]=>M (.fz (.tuple ds))
 |_=>S
def Ee:Fo K (λxs H Q=>∃p ys,xs=[.ref p]/\((Xl K H p ys/\∀l,H l=S->Q (.ref l) (upd H l (.tup ys)))\/(WY K H p ys/\Q (.ref p) H))) kG:=by
 intro O H xs ds f Q n d e q;unfold kG at e;split at e
 .ext e
  cases d with
  |cons h1 b=>ext b;let(a,xs,rfl,h1,b):=vn h1;show#[a,xs,W,.inr #[h1.1,q.at (.tup h1 b)]]
 .ext e
  cases d with
  |cons h1 b=>ext b;let(a,xs,rfl,h1,b):=EX h1;show#[a,xs,W,.inl #[h1.sq,Fin.ZE b n q]]
 .ext e
def oW:G D->I RV
 |[d]=>(fW d).map .ow
 |_=>S
def HR:Fo K (λxs H Q=>∃p ys,xs=[.ref p]/\(Xl K H p ys\/WY K H p ys)/\∀l,H l=S->Q (.ref l) (upd H l (.lst ys))) oW:=by
 intro O H xs ds h Q n f e q;unfold oW at e;split at e
 .rename_i d
  cases f with
  |cons h1 b=>
   ext b;cases g:fW d with
   |none=>simp_all
   |some es=>
    rw[g]at e;ext e;unfold fW at g;split at g
    .ext g;let(a,xs,rfl,h1,b):=vn h1;show#[a,xs,W,.inr h1.1,Fin.new b q]
    .ext g;let(a,xs,rfl,h1,b):=EX h1;show#[a,xs,W,.inl h1.sq,Fin.new b q]
    .ext g
 .ext e
def ox:G D->I RV
 |[.int i,.int j]=>M (.fz (.int (if j>i then j else i)))
 |_=>S
def Fy:Fo K (λxs H Q=>∃i j,xs=[.int i,.int j]/\Q (.int (if j>i then j else i)) H) ox:=by
 intro O H xs ds f Q n b e q;unfold ox at e;split at e
 .ext e
  cases b with
  |cons h1 a=>
   cases a with
   |cons a d=>ext d;ext h1;ext a;show#[_,_,W,q.at (.int _)]
 .ext e
end
end L3
namespace L3
open PySem PySem.Spec PyProof.Rows L2
def Ab{bs:G Bool}(r:Vals (bs.map V.bl) o){i:Nat}(h:o[i]?=M v):∃b,bs[i]?=M b/\v=.bool b:=by
 let d:=r.length;rw[SI]at d;let f:i<bs.length:=by rw[d];show(SK.mp h).1
 let(u,a,e):=r.get (by rw[S3,Tc f];rfl);rw[h]at a;ext a;show#[bs[i],Tc f,e]
def vY(bs:G Bool):((TV bs.length).all λi=>(bs[i]?).getD U)=bs.all id:=by
 rw[Bool.eq_iff_iff,TR,TR];constructor
 .intro h b a;let(i,d,e):=ZM.mp a;let:=h i (U3.mpr d);rw[Tc d,e]at this;show this
 .intro h i d;let d:=U3.mp d;rw[Tc d];show h _ (UU d)
section
variable{X:Cx}
def Bx(t:X.calm=U):fF X (.builtin "all") (λxs H Q=>∃(p:SU) (bs:cb Bool),xs=[.ref p]/\Xl X.K H p (bs.map V.bl)/\Q (.bl (bs.all id)) H):=by
 intro d s B H xs C Q I r h;let(l,bs,rfl,m,q):=h;let(u,rfl,j):=l8 r;ext j;let(g,N,pl,G):=I.list m;let a:=N.length;rw[SI]at a;let z:l<s.heap.objs.size:=by let(_,_,e,_):=pl;show cv e
 show call_all_walk (X0 pl.isList ?_);show#[s.heap.objs.size,[s.heap.objs.size,l],[s.heap.objs.size],g.toArray.size,_,_,λi=>(bs[i]?).getD U,W,Walks.list (A:=X.A.in1) (I.ok.hd t) _ l (TB z) g.toArray,
  #[#[_,c0 _ W,W,W],pl.isList.push _],λi v F L M w f=>?_,λJ E n=>?_]
 .let(b,e,rfl):=Ab N (by simpa using w);simp only[e,X7]at f;show Vo f
 .rw[Tb,<-a,vY];show#[.bl _,H,I.kept λb o e=>n b o (λhm=>?_) (cj _ e),W,q];rw[S6.mp hm]at e;show Ub _ (cv e)
end
section
variable{K:Bn}
def sY:G D->I (G Bool)
 |[]=>M []
 |.bool b::r=>(sY r).map (b::·)
 |_=>S
theorem xD:∀{xs:G V} {ds:G D} {bs:G Bool},UN O K H xs ds->sY ds=M bs->xs=bs.map V.bl
 |_,_,_,.nil,e=>by ext e;rfl
 |_,_,bs,.cons (ds:=r) h t,e=>by
  cases h with
  |bl b=>
   let a:(sY r).map (b::·)=M bs:=e;cases q:sY r with
   |none=>rw[q]at a;ext a
   |some d=>rw[q]at a;ext a;rw[xD t q];rfl
  |_=>ext e
def z8:G D->I RV
 |[.list ds]=>(sY ds).map λbs=>.fz (.bool (bs.all id))
 |_=>S
def MF:Fo K (λxs H Q=>∃(p:J) (bs:G Bool),xs=[.ref p]/\Xl K H p (bs.map V.bl)/\Q (.bl (bs.all id)) H) z8:=by
 intro O H xs ds g Q n d e q;unfold z8 at e;split at e
 .rename_i es
  cases f:sY es with
  |none=>rw[f]at e;ext e
  |some bs=>
   rw[f]at e;ext e;cases d with
   |cons h1 b=>ext b;let(a,ys,rfl,h1,b):=EX h1;let:=xD b f;subst this;show#[a,bs,W,h1.sq,q.at (.bl _)]
 .ext e
def C8(a:G Int):UN O K H (a.map V.int) (a.map .int):=by
 induction a with
 |nil=>show .nil
 |cons n r b=>show .cons (.int n) b
end
def Rg(K:Bn)(H:Hp)(x:V)(t:String):Prop:=match x with
 |.Wa=>t= "NoneType"
 |.bl _=>t= "bool"
 |.int _=>t= "int"
 |.str _=>t= "str"
 |.ref a=>(t= "list"/\∃xs,Xl K H a xs)\/(t= "tuple"/\∃xs,WY K H a xs)
 |_=>False
def Ji(K:Bn):G V->Hp->VK->Prop:=λxs H Q=>∃x n t b,xs=[x,.ty n]/\Rg K H x t/\aax K (.type t) (.type n)=M b/\Q (.bl b) H
def zJ{X:Cx}:fF X (.builtin "isinstance") (Ji X.K):=by
 intro g s m H xs A Q I r h;let(x,n,t,b,rfl,ty,e,q):=h;let(u,p,rfl,f,v):=Jj r;obtain rfl:p=OK.type n:=v;let d:∀j,EP X g m Q (.bool b) {s with toks:=j}:=λj=>#[.bl b,H,I.tok j,W,q];cases x with
 |Wa=>cases(show t= "NoneType" from ty);cases(show u=OK.none from f);show VY PySem.W.kitx_none I.ZW True.intro e (λz=>nomatch z) d
 |bl y=>cases(show t= "bool" from ty);cases(show u=OK.bool y from f);show VY PySem.W.kitx_bool I.ZW True.intro e (λz=>nomatch z) d
 |int i=>cases(show t= "int" from ty);let(t,q):=(show∃t,u=OK.int i t from f);ext q;show VY PySem.W.kitx_int I.ZW True.intro e (λz=>nomatch z) d
 |str y=>cases(show t= "str" from ty);let(t,q):=(show∃t,u=OK.str y t from f);ext q;show VY PySem.W.kitx_str I.ZW True.intro e (λz=>nomatch z) d
 |ref a=>
  cases(show u=OK.ref a from f);rcases ty with⟨rfl,xs,h⟩|⟨rfl,xs,h⟩
  .let(w,r,(o,k,h1,l,_),_):=I.list h;show VY PySem.W.kitx_list I.ZW #[_,h1,l] e (λz=>nomatch z) d
  .let(w,r,(o,h1,l,_),_):=I.tuple h;show VY PySem.W.kitx_tuple I.ZW #[o,h1,l] e (λz=>nomatch z) d
 |_=>show(show False from ty).elim
section
variable{K:Bn}{E:XK}{B O L:a5}{X H C:Hp}{P:L2.St}{Y N:aE}{v:V}
def EF:D->I String
 |.none=>M "NoneType"
 |.bool _=>M "bool"
 |.int _=>M "int"
 |.str _=>M "str"
 |.list _=>M "list"
 |.tuple _=>M "tuple"
 |.dict _=>S
def Ft(n t:String):Bool:=n==t||(n== "int"&&t== "bool")
def Hj{n t:String}(b:n= "int"\/n= "bool"\/n= "str"\/n= "list"\/n= "tuple"){d:D}(a:EF d=M t):aax K (.type t) (.type n)=M (Ft n t):=by ext d<;>(ext a;try (rcases b with rfl|rfl|rfl|rfl|rfl<;>rfl))
def Py{x:V}{d:D}{t:String}(h:DX O K H x d)(e:EF d=M t):Rg K H x t:=by
 cases d with
 |none=>ext e;ext h;rfl
 |bool b=>ext e;ext h;rfl
 |int b=>ext e;ext h;rfl
 |str b=>ext e;ext h;rfl
 |dict b=>ext e
 |list ds=>ext e;let(a,xs,rfl,h1,_):=EX h;show .inl #[W,xs,h1.sq]
 |tuple ds=>ext e;let(a,xs,rfl,h1,_):=vn h;show .inr #[W,xs,h1.1]
def pD(n:String)(b:FE):FE:=λY=>(b Y).bind λa=>(Res.T6 (qI a.2 a.1)).bind λd=>(Res.T6 (EF d)).bind λt=>.ok (.fz (.bool (Ft n t)),a.2)
def Nf{n:String}{c:TE}{j:FE}(k:n= "int"\/n= "bool"\/n= "str"\/n= "list"\/n= "tuple")(l:EO K E c j):EO K E (AM (Ji K) (dr c (dr (tC (.ty n)) jd))) (pD n j):=by intro B X O P H Y Q R w;show l B X O P H Y _ R (w.bind.imp λa b h x i e1 f g=>?_);let(d,q,b):=b.T6;let(t,e,b):=b.T6;show#[x,n,t,Ft n t,W,Py (jO f g q) e,Hj k e,b h _ i e1 f (.bl _)]
end
def Ai{P:Tg}{w:TN}{K:Bn}{D mb:Str->cc T}{k:Nat}{N a:J}{fd:UI}{x:Str}{F:FN}{b:SS}{c:cb T}{d:cb Int}
  (l:K.In b.heap) (B:b.heap.Ns T3 D) (V:b.heap.Ns builtinsNs mb) (f:∀x:Str,x≠ "__name__"->mb x=Uc x) (g:b.heap.NoLimit) (p:b.gens= #v[])
  (L:b.heap.get? a=M {cls:=.type "list",data:=.seq c.toArray}) (R:IntsAre c d) (j:d.length<=S8) (m:V6 k callerA)
  (C:∀base:Heap,K.In base->base.Ns T3 D->FnOk P w K D base kP k N fd [x] (zj K 1 F)) (i:∀(s:SS) (u:T),X6 s fd #[[u],[]] [(x,u)])
  (t:F [.list (d.map .int)]=.ok (.fz (.bool U))):
  codeAny (model P w) callerA (.call (.ref N) #[[.ref a],[]]) (λr y=>r=.ok (.ret (.bool U))/\OldK b.heap y.heap/\y.os=b.os/\AllBare y.gens) b:=by
 show B9 (sp:=λc H Q E=>zj K 1 F c H Q E\/(c.length=1/\False)) l B V f g p L R j m (λbase k1 k2=>(C base k1 k2).imp λc H Q E h=>?_) i (λH G q=>?_) λ_ _ _ h=>h
 .rcases h with h|h
  .show h
  .show h.2.elim
 .show .inl #[W,Zs,[.list (d.map .int)],λa z=>z.elim,.cons (.lst #[?_,λz=>z.elim] (C8 d)) .nil,?_]
  .rcases q with h|⟨o,T5,n,h1,h2,h3,Y,h5,X⟩
   .show .inl h
   .let e:=l a o h1;rw[L]at e;ext e;ext Y;show .inr #[c,0,h1,by rw[SI];show j,by simpa using X]
  .rw[t];show λv I s A=>by ext A;rfl
def PU{l:aam}{n k:Nat}{q:Tg}{i:cb Str}{O:(Str->cc T)->Heap->Prop}{B:TN->Heap->Prop}{d:DefRec}{K:Params->Bn}{F:FN}{x:Str}
  (y:l.most=cL n) (m:n<=S8) (r:d.params.defaults=[]) (E:V6 k callerA)
  (L:∀(w:TN) (h:Heap),B w h->(K w.params).In h)
  (P:∀(w:TN) (b:Str->cc T) (c:SU) (h:Heap),(K w.params).In h->h.Ns T3 b->b d.name=cL (.ref c)->
   ∃fd:UI,(∀(s:SS) (u:T),X6 s fd #[[u],[]] [(x,u)])/\∀base:Heap,(K w.params).In base->base.Ns T3 b->FnOk l.prog w (K w.params) b base kP k c fd [x] (zj (K w.params) 1 F))
  (M:∀ns:cb Int,ns.length<=n->F [.list (ns.map .int)]=.ok (.fz (.bool SJ))):
  PySem.W.WalkO q i O B l.row.toRowW d [] (λf g=>adm f g):=by
 show Att.attach_call y r λw A z b S c o Q Z N a g ns G Y U X I p v j e H=>?_;let C:=L w _ Y;let(fd,J,t):=P w b c _ C G.T.g p;show Ai C G.T.g G.T.b G.T.builtins G.T.nolimit H v j (S9 e m) E t J (M ns e)
def Ry{P:Tg}{w:TN}{K:Bn}{i:Str->I T}{base:Heap}{x a:Str}{st:Vz}{f:J}{fd:UI}{N c:G Str}{k n m:Nat}{g:FS}{d:FN}(F:Zk K x a st f fd)(S:Wl N c (aA st))(j:c.length=n)(hm:N.length=m)(e:d=fq m g)
  (h:∀(b:T) (A:Tv) (outer:G Env) (s:SS) (H:Hp) (E:XK),V6 k (A.deeper (Ud a (aA st) s.heap.objs.size f b))->
   ∃t,YV (jF kP P w K i base N a (aA st) f b A outer s H E).nox (cZ st) t/\SO K E t g):FnOk P w K i base kP (k+1) f fd c (zj K n d):=by
 subst e hm;show Se F S j h
abbrev QQ(P:Tg)(w:TN)(K:Bn)(b:Str->I T)(base:Heap)(k:Nat)(x:Str)(a:G Str)(n:Nat)(F:FN):Prop:=uH P w K b base k x a (zj K n F)
end L3
namespace L3
open PySem L2
abbrev nd(n:Nat):D:=.int (n:Int)
def o9(a:G Nat):G D:=a.map nd
def eL(a:G Nat):(o9 a).length=a.length:=by ext o9;rw[SI]
def ej{i:Nat}(h:(o9 ns)[i]?=M d):∃n,ns[i]?=M n/\d=nd n:=by
 unfold o9 at h;rw[S3]at h;cases e:ns[i]? with
 |none=>rw[e]at h;ext h
 |some n=>rw[e]at h;show#[n,W,(Tx h).symm]
theorem aD(a:α):Res.T6 (M a)=.ok a:=W
theorem uM(a:α):lj (Res.ok a)=.ok a:=W
theorem wA(i:Nat)(a:aE):aa i a=xV a i a[i]? :=W
theorem Ez(a:aE)(i:Nat)(d:D):xV a i (M (M (.fz d)))=.ok (.fz d,a):=W
theorem Es(a:aE)(i:Nat)(ds:G D):xV a i (M (M (.ow ds)))=.ok (.pl i,a):=W
theorem lK(ds:G D):BH (M (M (.ow ds)))=M ds:=W
theorem xB(i:Int):QD (.int i)=M i:=W
theorem vc(b:Bool):Qw (.bool b)=M b:=W
theorem nO(ds:G D):eG [.list ds]=M (.fz (nd ds.length)):=W
theorem A0(i j:Int):LA (.int i) (.int j)=M (.fz (.bool (decide (i<j)))):=W
theorem Eu(i j:Int):Ng (.int i) (.int j)=M (.fz (.bool (decide (j<i)))):=W
theorem JQ(i j:Int):Nv (.int i) (.int j)=M (.fz (.bool (decide (j<=i)))):=W
theorem qS(i j:Int):bB (.int i) (.int j)=M (.fz (.int (i+j))):=W
theorem Ef(i j:Int):pL (.int i) (.int j)=M (.fz (.int (i - j))):=W
def bj(h:0<j):bf (.int i) (.int j)=M (.fz (.int (i % j))):=by show(if Mj i j=U then _ else _)=_;rw[ai (show Mj i j=U from a6 h)]
def cf(h:0<j/\j<2^128):bT (.int i) (.int j)=M (.fz (.int (i/j))):=by show(if LJ i j=U then _ else _)=_;rw[ai (show LJ i j=U from a6 h)]
def FL(h: -(2^64)<i/\i<2^64):Ad (.int i) (.int j)=M (.fz (.int (i*j))):=by show(if(fL i||fL j)=U then _ else _)=_;rw[ai (by rw[show fL i=U from a6 h,Zl])]
def Ic(h: -(2^64)<j/\j<2^64):Ad (.int i) (.int j)=M (.fz (.int (i*j))):=by show(if(fL i||fL j)=U then _ else _)=_;rw[ai (by rw[show fL j=U from a6 h,Bool.or_true])]
def za(h:g7 j):dR [.int j]=M (ff 0 j.toNat):=by show(if g7 j then _ else _)=_;rw[ai h]
def ue(n:Nat):ff 0 n=o9 (TV n):=by unfold ff o9;apply XJ;intro k _;rw[Int.zero_add]
def rg(h:n<=1000000):dR [nd n]=M (o9 (TV n)):=by rw[za (by ext g7;ext),ue,Uz]
def B2(h:f C=.ok (.nx o)):az f g C=g o:=by ext az;rw[h];rfl
def Ml(h:f o=.ok (.rt C)):az f g o=.ok (.rt C):=by ext az;rw[h];rfl
def K9(h:fi C=.ok (ds,o)):fD fi gt b C=tE gt b ds o:=by ext fD;rw[h];rfl
def vR(h:j<=1000000/\i.natAbs<2^64):kS (.int i) (nd j)=M (.fz (.int (i^j))):=by show(if Bh i (j:Int)=U then M (RV.fz (.int (i^((j:Nat):Int).toNat)))else S)=_;rw[ai (by ext Bh;show a6 #[by ext,by ext,h.2]),Uz]
theorem DF:kS (.int 10) (.int 18)=M (.fz (.int (10^18))):=vR #[by decide,by decide]
def lV(gt:FG)(f:FT)(g:FE)(d:D)(c:aE):Res (I D×aE):=(gt (.fz d) c).bind λe=>(f e).bind λb=>if b.1=U then(g b.2).bind λa=>(Res.T6 (tN a.2 a.1)).bind λx=>.ok (M x.1,cR x.2)else .ok (S,cR b.2)
def xu(h:lV gt ft fe d ρ=.ok (o,C))(g:acc.length<1000000):dL gt ft fe (d::r) ρ acc=dL gt ft fe r C (acc++o.toList):=by
 unfold lV at h;show(gt (.fz d) ρ).bind _=_;cases l:gt (.fz d) ρ with
 |er x=>rw[l]at h;ext h
 |bad=>rw[l]at h;ext h
 |ok f=>
  rw[l,eF]at h;rw[eF];cases j:ft f with
  |er x=>rw[j]at h;ext h
  |bad=>rw[j]at h;ext h
  |ok b=>
   let(b,e):=b;rw[j,eF]at h;rw[eF];cases b with
   |false=>rw[ak Td]at h⊢;ext h;rw[Option.toList_none,TC]
   |true=>
    rw[ai W]at h⊢;cases i:fe e with
    |er x=>rw[i]at h;ext h
    |bad=>rw[i]at h;ext h
    |ok a=>
     rw[i,eF]at h;rw[eF];cases m:tN a.2 a.1 with
     |none=>rw[m]at h;ext h
     |some x=>rw[m]at h;ext h;show(if acc.length<1000000 then _ else _)=_;rw[ai g];rfl
def gZ(a b:Int):j7 (.int a) (.int b)=M (.fz (.bool (decide (a=b)))):=by rfl
theorem Lh{i:Nat}(h:xs[i]?=M v):j8 xs (i:Int)=M v:=yj h
def Fk(h:ds[i]?=M d):dJ (.list ds) (nd i)=M (.fz d):=by show(j8 ds (i:Int)).map RV.fz=_;rw[Lh h];rfl
section
variable{Q X Z N:aE}{P fb B L:FE}{Y C pv:PV}{dx dy d:D}{rv:RV}{E:cb PV}{ds:cb D}
def ae(h:Q[i]?=M (M (.fz d))):aa i Q=.ok (.fz d,Q):=by rw[wA,h,Ez]
def dW(h:Q[i]?=M (M (.ow ds))):aa i Q=.ok (.pl i,Q):=by rw[wA,h,Es]
theorem bh:pC d Q=.ok (.fz d,Q):=W
def aM(g:P Q=.ok (Y,X))(c:fb X=.ok (C,Z))(b:qI Z (im Y)=M dx)(a:qI Z C=M dy)(e:f dx dy=M rv):aC f P fb Q=.ok (rv.pv,Z):=by ext aC;rw[g,eF,c,eF,b,aD,eF,a,aD,eF,e,aD,eF]
def C0(c:P Q=.ok (Y,X))(a:qI X Y=M dx)(b:f dx=M rv):Fj f P Q=.ok (rv.pv,X):=by ext Fj;rw[c,eF,a,aD,eF,b,aD,eF]
def aV(c:P Q=.ok (Y,X))(a:qI X Y=M (.bool b)):aL P Q=.ok (b,X):=by ext aL;rw[c,eF,a,aD,eF,vc,aD,eF]
def sf(e:f Q=.ok (a,X))(c:a=U->g X=.ok (b,X)):rH f g Q=.ok (a&&b,X):=by
 ext rH;rw[e,eF];cases a with
 |true=>rw[ai W,c W,VA]
 |false=>rw[ak Td,WJ]
def kU(e:f Q=.ok (a,X))(c:a=SW->g X=.ok (b,X)):zD f g Q=.ok (a||b,X):=by
 ext zD;rw[e,eF];cases a with
 |true=>rw[ai W,Zl]
 |false=>rw[ak Td,c W,ab8]
def jz(b:f Q=.ok (a,X)):pI f Q=.ok (!a,X):=by ext pI;rw[b,eF]
def mS(e:aL P Q=.ok (a,X))(c:a=U->fb X=.ok (.fz (.bool b),X)):ut P fb Q=.ok (.fz (.bool (a&&b)),X):=by
 ext ut;rw[e,eF];cases a with
 |true=>rw[ai W,c W,VA]
 |false=>rw[ak Td,WJ]
theorem aw:au Q=.ok ([],Q):=W
def ah(b:P Q=.ok (Y,X))(a:fr X=.ok (E,Z)):af P fr Q=.ok (im Y::E,Z):=by ext af;rw[b,eF,a,eF]
def cJ(b:fr Q=.ok (E,X))(hd:sI X E=M ds)(a:f ds=M rv):iL f fr Q=.ok (rv.pv,X):=by ext iL;rw[b,eF,hd,aD,eF,a,aD,eF]
def bS(c:fr Q=.ok (E,X))(hd:oY X E=M (ds,Z))(b:ds.length=n)(a:F ds=.ok rv):bL F n fr Q=.ok (rv.pv,Z):=by ext bL;rw[c,eF,hd,aD,eF];dsimp only;rw[ai b,a,uM,eF]
def dI(b:fr Q=.ok (E,X))(hd:oY X E=M (ds,Z))(a:ds.length<=1000):cu fr Q=.ok (.fz (.tuple ds),Z):=by ext cu;rw[b,eF,hd,aD,eF];dsimp only;rw[ai a]
def wa(b:fr Q=.ok (E,X))(hd:oY X E=M (ds,Z))(a:ds.length<=1000):eR fr Q=.ok (.ow ds,Z):=by ext eR;rw[b,eF,hd,aD,eF];dsimp only;rw[ai a]
def rP(c:P Q=.ok (Y,X))(a:qI X Y=M dx)(b:EF dx=M t):pD n P Q=.ok (.fz (.bool (Ft n t)),X):=by ext pD;rw[c,eF,a,aD,eF,b,aD,eF]
theorem dX:iH Q=.ok (S,Q):=W
def b5(b:P Q=.ok (Y,X))(a:qI X Y=M (.int i)):dA P Q=.ok (M i,X):=by ext dA;rw[b,eF,a,aD,eF,xB,aD,eF]
def ji(c:P Q=.ok (Y,X))(b:fl X=.ok (lo,Z))(e:fh Z=.ok (o,N))(a:qI N (im Y)=M dx)(g:f dx lo o=M rv):uf f P fl fh Q=.ok (rv.pv,N):=by ext uf;rw[c,eF,b,eF,e,eF,a,aD,eF,g,aD,eF]
def gF(h0:Q[i]?=M (M (.ow es)))(c:L Q=.ok (Y,X))(b:tN X Y=M (d,Z))(h1:Z[i]?=M (M (.ow ds)))(e:ds.length<1000000)(a:Z.set i (M (.ow (ds++[d])))=x):gK i L Q=.ok (.fz .none,x):=by ext gK;rw[h0,lK,aD,eF,c,eF,b,aD,eF];dsimp only;rw[h1,lK,aD,eF,ai e,a]
def kl(c:fi Q=.ok (ds,X))(b:pY X o=M (cs,Z))(a:lj (dL gt ft L ds (SY n S++cs.map λd=>M (.fz d)) [])=.ok xs):iJ n o fi gt ft L Q=.ok (.ow xs,Z):=by ext iJ;rw[c,eF];dsimp only;rw[b,aD,eF];dsimp only;rw[a,eF]
theorem Lu:dJ (.list (a::r)) (.int 0)=M (.fz a):=Fk W
def gj(c:L Q=.ok (Y,X))(a:tN X Y=M (d,Z))(b:fW d=M es):gG L Q=.ok (es,Z):=by ext gG;rw[c,eF,a,aD,eF];dsimp only;rw[b,aD,eF]
def kA(b:fr Q=.ok (E,X))(hd:sI X E=M ds)(a:f ds=M es):gz f fr Q=.ok (es,X):=by ext gz;rw[b,eF,hd,aD,eF,a,aD,eF]
def qX(b:L Q=.ok (pv,X))(a:g pv X=.ok Z)(c:Z=N):aO L g Q=.ok (.nx N):=by ext aO;rw[b,eF];dsimp only;rw[a,eF,c]
def sO(a:L Q=.ok (pv,X)):de L Q=.ok (.nx X):=by ext de;rw[a,eF]
def wI(b:L Q=.ok (pv,X))(a:Ae X pv=M rv):cV L Q=.ok (.rt rv):=by ext cV;rw[b,eF];dsimp only;rw[a,aD,eF]
def GM(e:gt (.fz d) Q=.ok X)(b:ft X=.ok (U,Z))(g:L Z=.ok (pv,N))(a:tN N pv=M (x,ρ4))(f:cR ρ4=o):lV gt ft L d Q=.ok (M x,o):=by ext lV;rw[e,eF,b,eF,ai W,g,eF,a,aD,eF,f]
end
end L3
namespace PySem
open Sem (wp)
open Builtin
open AutoSeq1 (wpAny_loadPart')
theorem lg:fillsNumberSlot (.type "tuple") "mul"=pure SW:=
 fillsNumberSlot_seq F.slot_tuple_mul.lookup (by decide+kernel) F.slot_tuple_rmul.lookup (by decide+kernel)
def sX:seqRepeat? (.type "tuple")=pure (M (.builtin "tuple.__mul__")):=by unfold seqRepeat?;rw[seqSlot_of (name:= "__mul__") F.slot_tuple_mul.lookup (by decide+kernel),seqSlot_of (name:= "__rmul__") F.slot_tuple_rmul.lookup (by decide+kernel)];rfl
theorem n5(a:Int)(t:Tok)(l:J)(items:Array T)(n:Nat)(VI:I J)(e:Array (I T)):
  Meets (Builtin.«int.__rmul__» #[[.int a t,.ref l],[]]) (λ_ R s=>s.heap.get? l=M {cls:=.type "tuple",dict:=VI,data:=.seq items n,slots:=e}/\R (.ok (.ret OK.notImplemented)) s):=
 .of_wp λb w A R s h=>by let(j,g,d,f,i):=s;let(m,h):=h;wp_walk;show#[_,W,h]
theorem tK(l:J)(items:Array T)(n:Nat)(VI:I J)(b:Array (I T))(u:Tok):
  Meets (Builtin.«tuple.__mul__» #[[.ref l,.int 1 u],[]]) (λ_ R s=>s.heap.get? l=M {cls:=.type "tuple",dict:=VI,data:=.seq items n,slots:=b}/\R (.ok (.ret (OK.ref l))) s):=
 .of_wp λa w A R s h=>by
  let(i,g,d,e,f):=s;let(j,h):=h
  wp_walk
  show#[_,W,h]
theorem tM(l:SU)(items:Array T)(n:Nat)(VI:cc SU)(i:Array (cc T))(x:Int)(u:Tok)(h1:2<=x)(q:x<=1000)(f:items.isEmpty=SW)(y:items.size<=1000):
  Meets (Builtin.«tuple.__mul__» #[[.ref l,.int x u],[]]) (λ_ R s=>s.heap.get? l=M {cls:=.type "tuple",dict:=VI,data:=.seq items n,slots:=i}/\R (.ok (.ret (OK.ref s.heap.objs.size))) {s with heap:=s.heap.push {cls:=OK.type "tuple",data:=Data.seq (Xi (λk c=>k++c) #v[] (SY x.toNat items))},toks:=s.toks}):=
 .of_wp λa w A R s h=>by
  let(G,g,d,E,F):=s;let(p,h):=h;let C:¬(decide (x< -(2^63))||decide (x≥2^63))=U:=by simp;ext
  let B:(x==1)=SW:=by simp;ext
  let z:decide (x<=0)=SW:=by simp;ext
  let J:(items.isEmpty||x==1)=SW:=by rw[f,B];rfl
  let I:(decide (x<=0)||items.isEmpty)=SW:=by rw[f,z];rfl
  let e:(items.size:Int)*x<=1000000:=by let:(items.size:Int)*x<=1000*1000:=Int.mul_le_mul () q () ();ext
  let v:¬(items.size:Int)*x>(2^63 - 1)/8:=by ext
  let t:¬Tuple.tupleTooMany ((items.size:Int)*x)=U:=by
   ext Tuple.tupleTooMany;simp;let:(S8:Nat)=16777216:=by decide
   ext
  wp_walk
  rw[ak C]
  wp_walk using wpAny_loadPart' p
  rw[ak v];dsimp only;rw[ak t];let o:(Xi (λk c=>k++c) #v[] (SY x.toNat items)).size<=S8:=by
   let r:∀(m:Nat) (b:Array T),(Xi (λk c=>k++c) b (SY m items)).size=b.size+m*items.size:=by
    intro m
    induction m with
    |zero=>intro b;simp
    |succ m j=>intro b;rw[Ul,Xo,j,Array.size_append,adl];ext
   rw[r];let H:x.toNat*items.size<=1000*1000:=WO () y;let:(S8:Nat)=16777216:=by decide
   simp;ext
  wp_walk
  show#[_,W,h]
end PySem
namespace L3
open PySem PySem.Spec PyProof.Rows L2
def JK(K:Bn):R2:=λx y H Q=>∃(a:J) (k:Nat) (xs:G V),x=.ref a/\y=.int (k:Int)/\WY K H a xs/\xs≠[]/\1<=k/\k<=1000/\xs.length<=1000/\
 (k=1->Q (.ref a) H)/\(2<=k->∀p,H p=S->Q (.ref p) (upd H p (.tup (SY k xs).flatten)))
def Hn:OpR X (U0 .Mult) (JK X.K):=by
 intro g s S H x y v u Q I A z h;let(a,k,xs,rfl,rfl,E,P,h1,M,J,C,B):=h;ext A;let(t,rfl):=z;let(e,r,G,U):=I.tuple E;let((O,dd,m,f),d,l,n,j):=id G;simp only at l j;subst l j;let i:=r.length;show ZL () #[_,d,W] (λw=>W3 w k t) lg F.fills_int_mul F.slot_int_rmul sX F.slot_int_index.lookup
  (Wi F.slot_int_rmul (W3 s k t) F.entry_int_rmul (F.args_int_rmul_2 _ _) (n5 k t a e.toArray n dd f) #[d,W,#[_,d,W],?_])
 by_cases L:k=1
 .subst L;show Wi F.slot_tuple_mul #[_,d,W] F.entry_tuple_mul (F.args_tuple_mul_2 _ _) (tK a e.toArray n dd f t) #[d,#[.ref a,H,I,W,C W]]
 .show Wi F.slot_tuple_mul #[_,d,W] F.entry_tuple_mul (F.args_tuple_mul_2 _ _) (tM a e.toArray n dd f k t () () ?_ (by rw[Tb];ext)) #[d,?_]
  .cases e with
   |nil=>ext r;show b9 W P
   |cons y ys=>rfl
  .let N:Xi (λp o=>p++o) #v[] (SY ((k:Nat):Int).toNat e.toArray)=(SY k e).flatten.toArray:=by
    let:=lA e k [];rw[Xp]at this;rw[Uz];show this
   rw[N];show#[.ref s.heap.objs.size,_,I.laid (λb T q=>cj _ q) (SN _) ?_,W,B () _ (I.U9.fresh (SN _))];show#[?_,_,r.rep k,X4.new _ _];rw[xY];show S9 (WO M J) ()
def IU(K:Bn):R2:=λx y H Q=>BV K x y H Q\/JK K x y H Q
theorem Gi:OpR X (U0 .Mult) (IU X.K):=OpR.or GZ Hn
def eU:D->D->I RV
 |.tuple xs,.int k=>if xs≠[]/\1<=k/\k<=1000/\xs.length<=1000 then M (.fz (.tuple (SY k.toNat xs).flatten))else S
 |d,e=>Ad d e
def D8{K:Bn}:iG K (IU K) eU:=by
 intro O H x y j h i Q n f d e q;unfold eU at e;split at e
 .rename_i ds k
  split at e
  .rename_i g
   ext e;ext d;let(a,xs,rfl,h1,b):=vn f;obtain⟨m,rfl⟩:∃m:Nat,k=(m:Int):=#[k.toNat,by ext];rw[Uz]at q;show .inr #[a,m,xs,W,W,h1.1,λz=>g.1 (b.ne.mp z),by ext,by ext,by rw[b.length];show g.2.2.2,λe=>?_,λ_=>Fin.ZE (b.flat m) n q];subst e;let e1:(SY 1 ds).flatten=ds:=by simp
   rw[e1]at q;show q.at (.tup h1 b)
  .ext e
 .show .inl (IG O H x y j h i Q n f d e q)
theorem uB(i j:Int):eU (.int i) (.int j)=Ad (.int i) (.int j):=W
theorem fR(h: -(2^64)<i/\i<2^64):eU (.int i) (.int j)=M (.fz (.int (i*j))):=(uB i j).trans (FL h)
theorem ur(h: -(2^64)<j/\j<2^64):eU (.int i) (.int j)=M (.fz (.int (i*j))):=(uB i j).trans (Ic h)
end L3
namespace L3
open PySem PySem.Spec PyProof.Rows L2
section
variable{K:Bn}{E:XK}{B O X:a5}{P H N:Hp}{L:L2.St}{C Y:aE}{v:V}
def o8(d e:D):I RV:=match d,e with
 |.str z,.int i=>if z.length<=1000000 then(j8 z.cps.toList i).map λc=>.fz (.str #[#v[c]])else S
 |_,_=>S
def FC:iG K (OG K) o8:=by
 intro O H x y j f h Q n b a e q;unfold o8 at e;split at e
 .split at e
  .rename_i z i d
   cases g:j8 z.cps.toList i with
   |none=>rw[g]at e;ext e
   |some c=>rw[g]at e;ext e;ext b;ext a;show .inr (.inr #[z,i,c,W,W,pN d,g,q.at (.str _)])
  .ext e
 .ext e
end
end L3
namespace L3
open PySem L2
def RG(N C:aE->Prop)(T:RV->Prop):Res Fl->Prop
 |.ok (.nx a)=>N a
 |.ok (.ct a)=>C a
 |.ok (.rt v)=>T v
 |_=>False
structure Go(r:Res Fl)(N C:aE->Prop)(T:RV->Prop):Prop where
 out:RG N C T r
section
variable{ρ ρ1 Z ρ3:aE}{f g:FS}{fe:FE}{pv:PV}{d:D}{Y:RV}{ds:cb D}{N C:aE->Prop}{T:RV->Prop}
def Go.eq(e:r=r')(h:Go r' N C T):Go r N C T:=by rw[e];show h
def Go.imp(h:Go r N C T)(b:∀ρ,N ρ->N' ρ)(e:∀ρ,C ρ->C' ρ)(a:∀v,T v->T' v):Go r N' C' T':=by
 show#[?_];let h:=h.out;cases r with
 |bad=>show h
 |er x=>show h
 |ok i=>
  cases i with
  |nx r=>show b _ h
  |ct r=>show e _ h
  |rt v=>show a _ h
  |bk r=>show h
def rq(h:Go (f ρ) (λr=>Go (g r) N C T) C T):Go (az f g ρ) N C T:=by
 show#[?_];let h:=h.out;ext az;cases q:f ρ with
 |bad=>rw[q]at h;show h.elim
 |er x=>rw[q]at h;show h.elim
 |ok a=>
  rw[q]at h;cases a with
  |nx r=>show(show Go (g r) N C T from h).out
  |ct r=>show h
  |rt v=>show h
  |bk r=>show h.elim
def lU(h:c ρ=.ok (b,ρ1))(a:b=U->Go (f ρ1) N C T)(e:b=SW->Go (g ρ1) N C T):Go (kY c f g ρ) N C T:=by
 ext kY;rw[h,eF];cases b with
 |true=>show a W
 |false=>show e W
theorem xf(b:fe ρ=.ok (pv,ρ1))(a:gt pv ρ1=.ok Z)(h:N Z):Go (aO fe gt ρ) N C T:=.eq (qX b a W) #[h]
theorem fK(a:fe ρ=.ok (pv,ρ1))(h:N ρ1):Go (de fe ρ) N C T:=.eq (sO a) #[h]
theorem bZ(b:fe ρ=.ok (pv,ρ1))(a:Ae ρ1 pv=M Y)(h:T Y):Go (cV fe ρ) N C T:=.eq (wI b a) #[h]
theorem ik(h:N ρ):Go (cT ρ) N C T:=#[h]
theorem yE(I:Nat->aE->Prop):∀(ds:G D) (k:Nat) (ρ:aE),I k ρ->(∀i d ρ,ds[i]?=M d->I (k+i) ρ->∃ρ1,gt (.fz d) ρ=.ok ρ1/\Go (b ρ1) (I (k+i+1)) (I (k+i+1)) T)->Go (tE gt b ds ρ) (I (k+ds.length)) C T
 |[],k,ρ,h0,_=>#[h0]
 |d::r,k,ρ,h0,t=>by
  let(ρ1,h1,a):=t 0 d ρ W h0;let a:=a.out;let l:∀j,I (k+1) j->Go (tE gt b r j) (I (k+(r.length+1))) C T:=λj h=>by
   let e:k+(r.length+1)=k+1+r.length:=by ext
   rw[e];show yE I r (k+1) j h λi p m u n=>?_;let e:k+1+i=k+(i+1):=by ext
   rw[e]at n⊢;show t (i+1) p m (by simpa using u) n
  show#[?_];show RG _ _ _ ((gt (.fz d) ρ).bind _);rw[h1,eF];cases q:b ρ1 with
  |bad=>rw[q]at a;show a.elim
  |er x=>rw[q]at a;show a.elim
  |ok o=>
   rw[q]at a;cases o with
   |nx r=>show(l _ a).out
   |ct r=>show(l _ a).out
   |rt v=>show a
   |bk r=>show a.elim
def wm(I:Nat->aE->Prop)(j:o ρ=.ok (ds,ρ1))(h0:I 0 ρ1)(a:∀i d ρ,ds[i]?=M d->I i ρ->∃ρ1,gt (.fz d) ρ=.ok ρ1/\Go (b ρ1) (I (i+1)) (I (i+1)) T)(e:∀c,I ds.length c->N c):Go (fD o gt b ρ) N C T:=by let:=yE (C:=C) I ds 0 ρ1 h0 (by simpa using a);rw[WD]at this;show .eq (K9 j) (this.imp e (λ_ h=>h) λ_ h=>h)
def gC(a:ds.map (λd=>M (.fz d))++SY (n - ds.length) S=ρ)(h:Go (g ρ) (λ_=>T (.fz .none)) (λ_=>False) T):∃Y,fq n g ds=.ok Y/\T Y:=by
 let h:=h.out;ext fq;rw[a];cases q:g ρ with
 |bad=>rw[q]at h;show h.elim
 |er x=>rw[q]at h;show h.elim
 |ok b=>
  rw[q]at h;cases b with
  |nx r=>show#[_,W,h]
  |ct r=>show h.elim
  |rt v=>show#[_,W,h]
  |bk r=>show h.elim
def gW(a:ds.map (λd=>M (.fz d))++SY (n - ds.length) S=ρ)(h:Go (g ρ) (λ_=>RV.fz .none=v) (λ_=>False) (λr=>r=v)):fq n g ds=.ok v:=by let(Y,h1,b):=gC (T:=λr=>r=v) a h;rw[h1,b]
theorem aJ(b:fe ρ=.ok (pv,ρ1))(a:gt pv ρ1=.ok Z)(c:Z=ρ3)(h:Go (g ρ3) N C T):Go (az (aO fe gt) g ρ) N C T:=.eq (B2 (qX b a c)) h
theorem wP(b:fe ρ=.ok (pv,ρ1))(a:gt pv ρ1=.ok Z)(c:Z=ρ3)(h:N ρ3):Go (aO fe gt ρ) N C T:=.eq (qX b a c) #[h]
theorem si(a:fe ρ=.ok (pv,ρ1))(h:Go (g ρ1) N C T):Go (az (de fe) g ρ) N C T:=.eq (B2 (sO a)) h
theorem nz(b:fe ρ=.ok (pv,ρ1))(a:Ae ρ1 pv=M Y)(h:T Y):Go (az (cV fe) g ρ) N C T:=.eq (Ml (wI b a)) #[h]
theorem cX(h:Go (g ρ) N C T):Go (az cT g ρ) N C T:=.eq W h
def Am:az (az f1 f2) g ρ=az f1 (az f2 g) ρ:=by
 ext az;cases f1 ρ with
 |bad=>rfl
 |er x=>rfl
 |ok a=>ext a<;>rfl
theorem Eg(h:Go (az f1 (az f2 g) ρ) N C T):Go (az (az f1 f2) g ρ) N C T:=.eq Am h
def jN(i:c ρ=.ok (b,ρ1))(a:b=U->Go (az f1 g ρ1) N C T)(h:b=SW->Go (az f2 g ρ1) N C T):Go (az (kY c f1 f2) g ρ) N C T:=by
 let e:az (kY c f1 f2) g ρ=if b=U then az f1 g ρ1 else az f2 g ρ1:=by unfold az kY;rw[i,eF];ext b<;>rfl
 show .eq e ?_;cases b with
 |true=>show a W
 |false=>show h W
theorem eg(I:Nat->aE->Prop)(h:o ρ=.ok (ds,ρ1))(h0:I 0 ρ1)(a:∀i d ρ,ds[i]?=M d->I i ρ->∃ρ1,gt (.fz d) ρ=.ok ρ1/\Go (b ρ1) (I (i+1)) (I (i+1)) T)(e:∀c,I ds.length c->Go (g c) N C T):Go (az (fD o gt b) g ρ) N C T:=
 rq (wm I h h0 a e)
theorem pW(I:aE->Prop)(P:Nat->D->Prop):∀(ds:G D) (k:Nat) (ρ:aE) (acc:G D),I ρ->acc.length+ds.length<=1000000->(∀i d,ds[i]?=M d->∀ρ,I ρ->∃x c,lV gt ft fe d ρ=.ok (M x,c)/\I c/\P (k+i) x)->
  ∃xs,dL gt ft fe ds ρ acc=.ok (acc++xs)/\xs.length=ds.length/\∀i x,xs[i]?=M x->P (k+i) x
 |[],k,ρ,acc,_,_,_=>#[[],by show Res.ok acc=_;simp,W,λi x h=>by simp at h]
 |d::r,k,ρ,acc,h0,u,t=>by
  let(x,c,h1,m,l):=t 0 d W ρ h0;rw[S0]at u;let(xs,p,o,n):=pW I P r (k+1) c (acc++[x]) m (by rw[SQ];simp;ext) λi q v a j=>by
   let e:k+1+i=k+(i+1):=by ext
   rw[e];show t (i+1) q (by simpa using v) a j
  show#[x::xs,?_,by rw[S0,o,S0],λi y b=>?_]
  .rw[xu h1 ()];show dL gt ft fe r c (acc++[x])=_;rw[p,Tz];rfl
  .cases i with
   |zero=>cases(show M x=M y from b);show l
   |succ i=>
    let e:k+(i+1)=k+1+i:=by ext
    rw[e];show n i y (by simpa using b)
def Dg(I:aE->Prop)(P:Nat->D->Prop)(h0:I ρ)(b:ds.length<=1000000)(a:∀i d,ds[i]?=M d->∀ρ,I ρ->∃x c,lV gt ft fe d ρ=.ok (M x,c)/\I c/\P i x):
  ∃xs,lj (dL gt ft fe ds ρ [])=.ok xs/\xs.length=ds.length/\∀i x,xs[i]?=M x->P i x:=by
 let(xs,j,h,e):=pW I P ds 0 ρ [] h0 (by simpa using b) (by simpa using a);show#[xs,by rw[j];rfl,h,by simpa using e]
theorem qJ{α:Type}{xs:G α}{i:Int}{v:α}(h0:0<=i)(h:xs[i.toNat]?=M v):j8 xs i=M v:=Eo h0 h
def NS(h0:0<=i)(h:ds[i.toNat]?=M d):dJ (.tuple ds) (.int i)=M (.fz d):=by show(j8 ds i).map RV.fz=_;rw[qJ h0 h];rfl
def QM(h0:0<=i)(h:ds[i.toNat]?=M d):dJ (.list ds) (.int i)=M (.fz d):=by show(j8 ds i).map RV.fz=_;rw[qJ h0 h];rfl
def jg(h0:0<=n)(h:n<=1000000):dR [.int n]=M (o9 (TV n.toNat)):=by rw[za (by ext g7;ext),ue]
theorem Q2:kS (.int 10) (.int 8)=M (.fz (.int (10^8))):=vR #[by decide,by decide]
theorem Oc:kS (.int 10) (.int 24)=M (.fz (.int (10^24))):=vR #[by decide,by decide]
theorem cN{f:D->D->I RV}(i:fa ρ=.ok (pa,ρ1))(c:fb ρ1=.ok (o,Z))(e:qI Z (im pa)=M dx)(a:qI Z o=M dy)(h:f dx dy=M (.fz (.bool b))):aC f fa fb ρ=.ok (.fz (.bool b),Z):=aM i c e a h
theorem Ey{f:G D->I RV}(c:fr ρ=.ok (o,ρ1))(hd:sI ρ1 o=M ds)(a:f ds=M (.fz (.bool b))):iL f fr ρ=.ok (.fz (.bool b),ρ1):=cJ c hd a
theorem gX(e:fr ρ=.ok (o,ρ1))(hd:oY ρ1 o=M (ds,Z))(c:ds.length=n)(a:F ds=.ok (.fz (.bool b))):bL F n fr ρ=.ok (.fz (.bool b),Z):=bS e hd c a
end
end L3
namespace L3
open PySem PySem.Spec PyProof.Rows L2 PySem.Builtin PySem.Builtin.Str
section
variable{K:Bn}{E:XK}{B O X:a5}{P H N:Hp}{L:L2.St}{C Y:aE}{v:V}
def RZ(K:Bn)(r:V->G V->Hp->VK->Prop)(f:Str->G D->I RV):Prop:=∀(O:a5) (H:Hp) (z:Str) (xs:G V) (ds:G D) (a:RV) (Q:VK),jI O H->Paired (DX O K H) xs ds->f z ds=M a->Fin O K H Q a->r (.str z) xs H Q
def xq:D->D->I RV
 |.str i,.str j=>if i.length+j.length<=1000000 then M (.fz (.str (i++j)))else S
 |_,_=>S
def Bo:iG K (λx y H Q=>∃i j,x=.str i/\y=.str j/\i.length+j.length<=S8/\Q (.str (i++j)) H) xq:=by
 intro O H x y h f g Q n b a e q;unfold xq at e;split at e
 .split at e
  .rename_i d;ext e;ext b;ext a;show#[_,_,W,W,pN d,q.at (.str _)]
  .ext e
 .ext e
end
end L3
namespace L2
open PySem PySem.Spec PyProof.Rows
section
variable{Y:Type}[DecidableEq Y]
def iP(b:G (Y×V))(k:Y):I V:=(b.find? λa=>decide (a.1=k)).map (·.2)
def gL(b:G (Y×V))(k:Y)(v:V):G (Y×V):=
 if(b.any λa=>decide (a.1=k))=U then b.map (λa=>if a.1=k then(a.1,v)else a)else b++[(k,v)]
def nj{k:Y}(e:p.1=k):iP (p::r) k=M p.2:=by simp[iP,Tu,e]
def nR{k:Y}(e:¬p.1=k):iP (p::r) k=iP r k:=by simp[iP,Tu,e]
theorem tH(k:Y):∀a:G (Y×V),(a.any λb=>decide (b.1=k))=(iP a k).isSome
 |[]=>rfl
 |p::r=>by
  rw[Ws];by_cases e:p.1=k
  .simp only[nj e,a6 e,Zl,ZK]
  .rw[nR e,a7 e,ab8];show tH k r
def jl(a:G (Y×V))(k:Y)(v:V):(gL a k v).length<=a.length+1:=by
 ext gL;split
 .rw[SI];ext
 .rw[SQ,S0,UG];ext
def Xz.Wk(r:Xz o u):o.isSome=u.isSome:=by
 cases o with
 |none=>cases u with
  |none=>rfl
  |some _=>show(show False from r).elim
 |some _=>cases u with
  |none=>show(show False from r).elim
  |some _=>rfl
def Xz.getD(r:Xz o u)(a:RelV d d'):RelV (o.getD d) (u.getD d'):=by
 cases o with
 |none=>cases u with
  |none=>show a
  |some _=>show(show False from r).elim
 |some _=>cases u with
  |none=>show(show False from r).elim
  |some _=>show r
def KV.val{c:G (Y×V)}{g:G (Y×T)}(r:KV c g)(k:Y):Xz (iP c k) (valueAt g k):=by
 unfold KV at r
 induction r with
 |nil=>show True.intro
 | @cons p q j f h t i=>
  let(h1,d):=h;by_cases e:p.1=k
  .let a:q.1=k:=h1.symm.trans e
   let b:valueAt (q::f) k=M q.2:=by simp[valueAt,Tu,a]
   rw[nj e,b];show d
  .let a:¬q.1=k:=λz=>e (h1.trans z)
   let b:valueAt (q::f) k=valueAt f k:=by simp[valueAt,Tu,a]
   rw[nR e,b];show i
def KV.any(r:KV kvs vs)(k:Y):(kvs.any λb=>decide (b.1=k))=vs.any λb=>decide (b.1=k):=by
 unfold KV at r
 induction r with
 |nil=>rfl
 |cons h t a=>rw[Ws,Ws,a,h.1]
def KV.acu(r:KV kvs vs)(k:Y)(a:RelV y u):
  KV (kvs.map λc=>if c.1=k then(c.1,y)else c) (vs.map λc=>if c.1=k then(c.1,u)else c):=by
 unfold KV at r⊢
 induction r with
 |nil=>show .nil
 | @cons p q g f h t d=>
  rw[SX,SX];show .cons ?_ d;let(h1,b):=h;by_cases e:p.1=k
  .rw[ai e,ai (h1.symm.trans e)];show#[h1,a]
  .rw[ak e,ak (λz=>e (h1.trans z))];show#[h1,b]
def KV.put(r:KV kvs vs)(k:Y)(a:RelV y u):KV (gL kvs k y) (stored vs k u):=by
 unfold gL stored;rw[r.any k];by_cases e:(vs.any λb=>decide (b.1=k))=U
 .rw[ai e,ai e];show r.acu k a
 .rw[ak e,ak e];show Paired.snoc r #[W,a]
theorem KV.length(r:KV kvs vs):kvs.length=vs.length:=Paired.length r
end
def ni(r:RelV (kV k) u):(bU P w).is k u=U:=by
 cases k with
 |inl i=>let(t,e):=(show∃t,u=OK.int i t from r);subst e;show tY P w i t
 |inr x=>let(t,e):=(show∃t,u=OK.str x t from r);subst e;show uO P w x t
theorem pX:∀{b:G bz} {a:G T},Vals (b.map kV) a->ItemsAre (bU P w) b a
 |[],_,r=>by rw[TZ]at r;ext r;show .nil
 |k::b,_,r=>by
  rw[SX]at r;cases r with
  |cons h t=>show .cons (ni h) (pX t)
abbrev KT(H:Hp):G (G bz×V)->G (G bz×J×T)->Prop:=Paired λp q=>p.1=q.1/\H q.2.1=M (.tup (p.1.map kV))/\RelV p.2 q.2.2
def KT.val(r:KT H kvs xs)(k:G bz):Xz (iP kvs k) ((atKey xs k).map (·.2)):=by
 induction r with
 |nil=>show True.intro
 | @cons p q i f h t g=>
  let(h1,_,d):=h;by_cases e:p.1=k
  .let a:=h1.symm.trans e
   let b:atKey (q::f) k=M q.2:=by simp[atKey,Tu,a]
   rw[nj e,b];show d
  .let a:¬q.1=k:=λz=>e (h1.trans z)
   let b:atKey (q::f) k=atKey f k:=by simp[atKey,Tu,a]
   rw[nR e,b];show g
def KT.acu(r:KT H kvs xs)(k:G bz)(b:RelV y u):
  KT H (kvs.map λc=>if c.1=k then(c.1,y)else c) (xs.map (putAt k u)):=by
 induction r with
 |nil=>show .nil
 | @cons p q i g h t f=>
  rw[SX,SX];show .cons ?_ f;let(h1,a,d):=h;ext putAt;by_cases e:p.1=k
  .rw[ai e,ai (h1.symm.trans e)];show#[h1,a,b]
  .rw[ak e,ak (λz=>e (h1.trans z))];show#[h1,a,d]
def KT.put(r:KT H kvs xs)(k:G bz)(c:H b=M (.tup (k.map kV)))(a:RelV y u):
  KT H (gL kvs k y) (storedH xs k b u):=by
 let e:(kvs.any λd=>decide (d.1=k))=(atKey xs k).isSome:=by rw[tH,(r.val k).Wk,U6]
 unfold gL storedH;rw[e];by_cases q:(atKey xs k).isSome=U
 .rw[ai q,ai q];show r.acu k a
 .rw[ak q,ak q];show Paired.snoc r #[W,c,a]
theorem KT.keeps(r:KT H kvs xs)(a:∀b ys,H b=M (.tup ys)->H' b=M (.tup ys)):KT H' kvs xs:=
 Paired.WU r λ_ _ z=>#[z.1,a _ _ z.2.1,z.2.2]
section
variable{P:Tg}{w:TN}{H:Hp}{h:Heap}{a:SU}
theorem JA(ok:XB P w H h)(e:Rd H a u):ObjOk P w H h a u:=e.ok ok
theorem ud(ok:XB P w H h)(e:Rd H a (.dK o)):o.length<=S8/\(a==UE)=SW/\∃b,KV o b/\h.DictOf (bU P w) a b:=
 show ObjOk P w H h a (.dK o)from JA ok e
theorem Jz(ok:XB P w H h)(e:H a=M (.dK o)):o.length<=S8/\(a==UE)=SW/\∃b,KV o b/\h.DictOf (bU P w) a b:=ud ok (.inl e)
def oz{c:G bz}(ok:XB P w H h)(e:H a=M (.tup (c.map kV))):(tupleKind (bU P w)).is h c a:=by let(_,f,r,o,h1,(d,n,b),_):=(show ObjOk P w H h a (.tup (c.map kV))from ok a _ e);show#[o,f.toArray,n,h1,d,b,by simpa using pX r]
def ui(ok:XB P w H h)(e:Rd H a (.dT C)):C.length<=S8/\(a==UE)=SW/\
  ∃xs,KT H C xs/\h.DictOfH (tupleKind (bU P w)) a xs:=by
 let(z,y,xs,r,o,es,j,h1,i,g,f,d):=(show ObjOk P w H h a (.dT C)from JA ok e);show#[z,y,xs,r,o,es,j,h1,i,g,f,λx b=>?_,d];let all:∀{l:G (G bz×V)} {m:G (G bz×J×T)},KT H l m->∀x∈m,(tupleKind (bU P w)).is h x.1 x.2.1:=by
  intro l m q
  induction q with
  |nil=>intro x b;show nomatch b
  | @cons p q A v n t u=>
   intro x b;rcases Tf.mp b with e|b
   .subst e;show oz ok (by rw[<-n.1];show n.2.1)
   .show u x b
 show all r x b
theorem OD(ok:XB P w H h)(e:H a=M (.dT o)):o.length<=S8/\(a==UE)=SW/\
  ∃xs,KT H o xs/\h.DictOfH (tupleKind (bU P w)) a xs:=ui ok (.inl e)
end
def Yd(H:Hp)(a:J)(y:V)(r:I V):Prop:=
 (∃d k,Rd H a (.dK d)/\y=kV k/\r=iP d k)\/∃d k b,Rd H a (.dT d)/\y=.ref b/\H b=M (.tup (k.map kV))/\r=iP d k
def aaH(H:Hp)(a:J)(y v:V)(H':Hp):Prop:=
 (∃d k,H a=M (.dK d)/\y=kV k/\d.length<S8/\H'=upd H a (.dK (gL d k v)))\/
 ∃d k b,H a=M (.dT d)/\y=.ref b/\H b=M (.tup (k.map kV))/\d.length<S8/\H'=upd H a (.dT (gL d k v))
theorem Yd.k{k:bz}(e:H a=M (.dK kvs)):Yd H a (kV k) (iP kvs k):=.inl #[kvs,k,.inl e,W,W]
theorem aaH.k{k:bz}(e:H a=M (.dK kvs))(b:kvs.length<S8):aaH H a (kV k) v (upd H a (.dK (gL kvs k v))):=.inl #[kvs,k,e,W,b,W]
section
variable{X:Cx}{Z:cb (SU×Obj)}{Y:St}{H:Hp}{s:SS}{a:SU}{y v:V}{u r:OK}{o:cc V}{A:Tv}{E:OK->SS->Prop}
def Inv.big(I:Inv X Z Y H s):UE<s.heap.objs.size:=by let h:=(I.mod.glob.keeps I.bk).lt;show Vx () h
def Au{Q:T->SS->Prop}(q:A.units+1<cLine)(I:Inv X Z Y H s)(g:Yd H a y (M v))(n:RelV y u)(h:∀c x,Inv X Z Y H x->RelV v c->Q c x):
  wpAny (model X.prog X.w) A (getItem (.ref a) u) Q E s:=by
 rcases g with⟨w,k,e,j,l⟩|⟨w,k,b,e,j,C,l⟩
 .subst j;let(z,B,L,d,dd):=ud I.U9 e;let(c,f,m):=Xz.some_of (v:=v) (o:=valueAt L k) (by rw[l];show d.val k);show wpAny_getItem_of (ni n) dd.mapOf f (h c _ (I.tok _) m)
 .subst j;cases(show u=OK.ref b from n);let(z,B,xs,d,dd):=ui I.U9 e;let(c,f,m):=Xz.some_of (v:=v) (o:=(atKey xs k).map (·.2)) (by rw[l];show d.val k);let(p,t,i):=Uj.mp f;show Ym (W4 q) (oz I.U9 C) dd t ?_;rw[i];show h c _ (I.tok _) m
def Qp{Q:T->SS->Prop}(m:A.units+1<cLine)(I:Inv X Z Y H s)(g:Yd H a y o)(j:RelV y u)(h:∀c,Inv X Z Y H c->Q (.bool o.isSome) c):
  wpAny (model X.prog X.w) A (UK .In u (.ref a)) Q E s:=by
 rcases g with⟨p,k,e,i,l⟩|⟨p,k,b,e,i,n,l⟩
 .subst i;let(z,f,t,d,dd):=ud I.U9 e;show wpAny_in_of (ni j) f dd.mapOf ?_;rw[<-(d.val k).Wk,<-l];show h _ (I.tok _)
 .subst i;cases(show u=OK.ref b from j);let(z,f,xs,d,dd):=ui I.U9 e;show agX (W4 m) (oz I.U9 n) f dd ?_;let q:=(d.val k).Wk;rw[U6]at q;rw[<-q,<-l];show h _ (I.tok _)
def HE(m:A.units+1<cLine)(I:Inv X Z Y H s)(g:Yd H a y o)(j:RelV y u)(h:∀c,Inv X Z Y H c->Q (.bool (!o.isSome)) c):
  wpAny (model X.prog X.w) A (UK .NotIn u (.ref a)) Q E s:=by
 rcases g with⟨p,k,e,i,l⟩|⟨p,k,b,e,i,n,l⟩
 .subst i;let(z,f,t,d,dd):=ud I.U9 e;show wpAny_notIn_of (ni j) f dd.mapOf ?_;rw[<-(d.val k).Wk,<-l];show h _ (I.tok _)
 .subst i;cases(show u=OK.ref b from j);let(z,f,xs,d,dd):=ui I.U9 e;show wpAny_notIn_heap (W4 m) (oz I.U9 n) f dd ?_;let q:=(d.val k).Wk;rw[U6]at q;rw[<-q,<-l];show h _ (I.tok _)
theorem ku{c:Heap}{j:Nat}{d:HO}(I:Inv X Z Y H s)(f:Pm (H a))(g:Heap.SameBut a s.heap c)(h:∃q,c.get? a=M q)(new:ObjOk X.prog X.w (upd H a d) c a d):
  Inv X Z Y (upd H a d) {s with heap:=c,toks:=j}:=
 I.write (x:=a) (e:=a) f (.inl W) (λb q i z=>(g.2 b i).trans z) h new
theorem xa(z:C.length<=S8)(hd:(a==UE)=SW)(b:KV C vs)(dd:h'.DictOf (bU P w) a vs):
  ObjOk P w H' h' a (.dK C):=#[z,hd,vs,b,dd]
def zE{H':Hp}{Q:Unit->SS->Prop}(K:A.units+1<cLine)(I:Inv X Z Y H s)(g:aaH H a y v H')(C:RelV y u)(D:RelV v r)(h:∀x,Inv X Z Y H' x->Q ⟨⟩ x):
  wpAny (model X.prog X.w) A (setItem (.ref a) u r) Q E s:=by
 rcases g with⟨w,k,e,t,l,B⟩|⟨w,k,b,e,t,J,l,B⟩
 .subst t B
  let(z,p,vs,d,dd):=Jz I.U9 e;let j:vs.length<=S8:=by rw[<-d.length];show z
  let n:(gL w k v).length<=S8:=by let:=jl w k v;ext
  show wpAny_setItem_pairs (hsz:=j) (ni C) dd λF f m=>h _ ?_;let L:∃q,F.get? a=cL q:=let#[q,_,_,i,_]:=f;#[q,i]
  show ku I (by rw[e];show True.intro) m L (xa n p (d.put k D) f)
 .subst t B
  cases(show u=OK.ref b from C);let(z,p,xs,d,dd):=OD I.U9 e;let j:xs.length<=S8:=by rw[<-Paired.length d];show z
  let n:(gL w k v).length<=S8:=by let:=jl w k v;ext
  show ab9 (hsz:=j) (W4 K) (oz I.U9 J) dd λF f m=>h _ ?_;let(q,es,S,i,P,O,N,_,M):=f;show ku I (by rw[e];show True.intro) m #[q,i] #[n,p,_,(d.put k J D).keeps λc ys G=>?_,q,es,S,i,P,O,N,M];rw[av (OL G e (λz=>nomatch z))];show G
end
def Im(i:Ts):Prop:=∀a b,subscripted i SW a b=operate [a,b] (getItem a b)
def r9{T id:String}
  (l:typeLookup (.type T) "__getitem__"=pure (M (.builtin id))) (j:Im slice)
  (h:wpAny (model prog w) A (eval value env) (λo k=>wpAny (model prog w) A (eval slice env) (λi c=>c.TypeIs o T/\wpAny (model prog w) A (getItem o i) Q E c) E k) E s):
  wpAny (model prog w) A (eval (.Subscript value slice pos) env) Q E s:=by
 show Subscript_ (wpAny_mono h (λo k f=>wpAny_mono f (λi c a=>?_) λ_ _ x=>x) λ_ _ x=>x);let(g,a):=a;ext subscriptTail;show lD ?_;rw[getitemInPython_of_ne g.not_modules];show lD (XM g l ?_);let d:wpAny (model prog w) A (subscripted slice SW o i) (λr b=>wpAny (model prog w) A (letTemporaryGo value o r>>=λ_=>pure r) Q E b) E c:=by rw[j o i];show wpAny_operating (wpAny_mono a (λr b e=>lD (wpAny_letTemporaryGo (SH e))) λ_ _ x=>x)
 first
  |show SH (lD d)
  |show lD (SH (lD d))
  |show lD d
def uT(I:Inv X pins σ H s)(g:Yd H a y o):s.TypeIs (.ref a) "dict":=by
 rcases g with⟨d,k,e,_,_⟩|⟨d,k,b,e,_,_,_⟩
 .let(_,_,f,_,dd):=ud I.U9 e;show dd.typeIs
 .let(_,_,xs,_,dd):=ui I.U9 e;show dd.typeIs
def JN(e ty:TE):TE:=λb H Q=>e b H λx f=>ty b f λy d=>∃a v,x=.ref a/\Yd d a y (M v)/\Q v d
def NB(ty e:TE):TE:=λb H Q=>ty b H λy f=>e b f λx d=>∃a o,x=.ref a/\Yd d a y o/\Q (.bl o.isSome) d
def y0(ty e:TE):TE:=λb H Q=>ty b H λy f=>e b f λx d=>∃a o,x=.ref a/\Yd d a y o/\Q (.bl (!o.isSome)) d
def Jp(e ty d:TE):TS:=λD b H=>d b H λv h=>e b h λx g=>ty b g λy f=>∃a i,x=.ref a/\aaH f a y v i/\D.nx b i
section
variable{X:Cx}{o i e Z:Ts}{pos T akz:Pos}{U Y tv:TE}
def Hs(q:X.A.units+1<cLine)(t:PE X o U)(c:PE X i Y)(r:Im i):PE X (.Subscript o i pos) (JN U Y):=by intro b s d H Q I h;show r9 WE.lookup r (bG (t b s d H _ I h) λu j #[x,F,C,m,p]=>bG (c b j d F _ C p) λL K a=>?_);let(y,E,f,l,a,v,w,g,n):=a;subst w;obtain rfl:=m;show#[uT f g,Au q f g l λG J B z=>#[v,E,B,z,n]]
def Bs(q:X.A.units+1<cLine)(c:PE X i Y)(r:PE X o U):PC X .In i o (NB Y U):=by intro b s d H Q I h;show bG (c b s d H _ I h) λG f #[y,C,z,j,n]=>bG (r b f d C _ z n) λu F a=>?_;let(x,B,w,l,a,p,t,g,m):=a;subst t;obtain rfl:=l;show Qp q w g j λE v=>#[.bl p.isSome,B,v,W,m]
def qz(q:X.A.units+1<cLine)(c:PE X i Y)(r:PE X o U):PC X .NotIn i o (y0 Y U):=by intro b s d H Q I h;show bG (c b s d H _ I h) λG f #[y,C,z,j,n]=>bG (r b f d C _ z n) λu F a=>?_;let(x,B,w,l,a,p,t,g,m):=a;subst t;obtain rfl:=l;show HE q w g j λE v=>#[.bl (!p.isSome),B,v,W,m]
def Hf(w:X.A.units+1<cLine)(B:PE X o U)(c:PE X i Y)(t:PE X Z tv)(z:X5 Z (cL (.Subscript o i T)) pos.line X.env=pure SW):
  PS X (.Assign [.Subscript o i T] Z pos) (Jp U Y tv):=by
 intro b s d H D I h;show aay (bG (t b s d H _ I h) λr j #[v,M3,A,rv,q]=>bG (B b j d M3 _ A q) λu f #[x,L,G,m,p]=>bG (c b f d L _ G p) λP O a=>?_) z;let(y,Q,F,l,a,K,C,g,n):=a;subst C;obtain rfl:=m;show zE w F g l rv λN E=>#[d,K,E,n]
end
theorem AZ(h:Heap)(a:UE<h.objs.size):ObjOk P w H (h.push {cls:=.type "dict",data:=.dict #v[]}) h.objs.size (.dK []):=
 #[TX _,beq_eq_false_iff_ne.mpr (dt (TB a)),[],.nil,Heap.DictOf.new h]
def qW:G (TE×TE)->St->Hp->(G (V×V)->Hp->Prop)->Prop
 |[],_,H,Q=>Q [] H
 |(f,e)::r,σ,H,Q=>f σ H λx d=>e σ d λy b=>qW r σ b λg a=>Q ((x,y)::g) a
abbrev VV:G (V×V)->G (T×T)->Prop:=Paired λp q=>RelV p.1 q.1/\RelV p.2 q.2
def O8(X:Cx)(pos:Pos)(d:G (I Ts))(a:G Ts)(f:G (TE×TE)):Prop:=
 ∀(b:G (J×Obj)) (s:SS) (e:St) (H:Hp) (Q:G (V×V)->Hp->Prop),Inv X b e H s->qW f e H Q->
  wpAny (model X.prog X.w) X.A (evalPairs (pairTrees d a X.env pos)) (λi g=>∃h H',Inv X b e H' g/\VV h i/\Q h H') X.xe s
theorem HY:O8 X pos [] [] []:=λa s b H Q I h=>pairTrees_nil_walk #[[],H,I,.nil,h]
theorem DB(p:PE X k tk)(n:PE X v tv)(o:O8 X pos ks vs trs):
  O8 X pos (M k::ks) (v::vs) ((tk,tv)::trs):=λa s b H Q I h=>
 pairTrees_cons_walk (bG (p a s b H _ I h) λu f #[x,A,t,i,m]=>bG (n a f b A _ t m) λC e #[y,z,r,g,l]=>
  bG (o a e b z _ r l) λB E #[L,w,q,d,j]=>#[(x,y)::L,w,q,.cons #[i,g] d,j])
def gy(c a:G (bz×V)):G (bz×V):=a.foldl (λb d=>gL b d.1 d.2) c
def KV.merge:∀{a:G (bz×V)} {b:G (bz×T)} {c:G (bz×V)} {f:G (bz×T)},KV a b->KV c f->KV (gy c a) (merged f b):=by
 intro a b c f r;unfold KV at r
 induction r generalizing c f with
 |nil=>intro q;show q
 | @cons p q j i h t g=>
  intro d;let e:KV (gL c p.1 p.2) (stored f q.1 q.2):=by let:=d.put p.1 h.2;rw[<-h.1];show this
  show g e
theorem gD:∀(a c:G (bz×V)),(gy c a).length<=c.length+a.length
 |[],c=>by show c.length<=c.length+0;ext
 |p::r,c=>by let h1:=gD r (gL c p.1 p.2);let b:=jl c p.1 p.2;show(gy (gL c p.1 p.2) r).length<=_;rw[S0];ext
theorem nv:∀{f:G (bz×V)} {ws:G (T×T)},VV (f.map λg=>(kV g.1,g.2)) ws->∃rs,Carries (bU P w) ws rs/\KV f rs
 |[],_,r=>by rw[TZ]at r;ext r;show#[[],True.intro,.nil]
 |p::f,_,r=>by
  rw[SX]at r;cases r with
  | @cons a b as bs h t=>let(rs,c,q):=nv t;let(e,d):=b;show#[(p.1,d)::rs,#[ni h.1,W,c],.cons #[W,h.2] q]
def Jo(a:G (TE×TE)):TE:=λe H Q=>∀p,H p=S->qW a e (upd H p (.dK [])) λg d=>d p=M (.dK [])/\∃f:G (bz×V),g=f.map (λb=>(kV b.1,b.2))/\f.length<=15/\Q (.ref p) (upd d p (.dK (gy [] f)))
def Ir(h:O8 X pos keys values trs)(g:keys.all (·.isSome)=U)(t:keys.length=values.length)(h0:keys≠[])
  (f:keys.length<=15):PE X (.Dict keys values pos) (Jo trs):=by
 intro a s j H Q I q;let P:=I.U9.fresh (SN s.heap.objs.size);let C:=I.laid (t':=s.toks) (λ_ _ q=>cj _ q) (SN _) (AZ s.heap I.big);show wpAny_Dict_walk (knd:=bU X.prog X.w) g t h0 f (bG (h a _ j _ _ C (q _ P)) λE F a=>?_);let(Y,w,i,d,e,L,B,G,o):=a;subst B;let(m,c,rk):=nv d;let(z,v,l,n,dd):=Jz i.U9 e;ext n;show#[m,c,dd,λA b r=>#[.ref s.heap.objs.size,_,?_,W,o]];let p:(gy [] L).length<=S8:=by let h1:=gD L [];rw[UG]at h1;rw[Y3];ext
 let u:∃q,A.get? s.heap.objs.size=M q:=let#[q,_,_,N,_]:=b;#[q,N]
 show ku i (by rw[e];show True.intro) r u (xa p v (rk.merge .nil) b)
structure M1(X:Cx)(o:Ts)(m:Str)(apos:Pos)(e:Ts)(Ww:Pos):Prop where
 base:attributeBase o m X.env (eval o X.env)=eval o X.env
 few:((backTo Ww (Ua [e] X.env)).all (λx=> !x.1)&&(backToKw Ww (keywordEach [] X.env)).all (λx=>x.1.isSome)
  &&decide (([e]:G Ts).length+([]:G XD).length+(if([]:G XD).isEmpty then 0 else 1)<30))=U
 line:(apos.endLine==Ww.line)=U
 trees:backTo Ww (Ua [e] X.env)=[(SW,eval e X.env)]
structure M2(X:Cx)(o:Ts)(m:Str)(apos:Pos)(e f:Ts)(Ww:Pos):Prop where
 base:attributeBase o m X.env (eval o X.env)=eval o X.env
 few:((backTo Ww (Ua [e,f] X.env)).all (λx=> !x.1)&&(backToKw Ww (keywordEach [] X.env)).all (λx=>x.1.isSome)
  &&decide (([e,f]:G Ts).length+([]:G XD).length+(if([]:G XD).isEmpty then 0 else 1)<30))=U
 line:(apos.endLine==Ww.line)=U
 trees:backTo Ww (Ua [e,f] X.env)=[(SW,eval e X.env),(SW,eval f X.env)]
end L2
namespace HT
open PySem PySem.Spec PyProof.Rows PySem.Calls
def vI(n:Nat):Builtin.Slice.sliceAdjust S S (-1) (n:Int)=((n:Int) - 1,-1):=by
 ext Builtin.Slice.sliceAdjust;let h1:(-1:Int)<0:=by decide
 simp only[h1,if_true]
def wK(n:Nat):Builtin.Slice.slicePlaces ((n:Int) - 1) (-1) (-1)=n:=by
 ext Builtin.Slice.slicePlaces;let h1:¬((-1:Int)>0):=by decide
 simp only[h1,if_false];by_cases h:(n:Int) - 1> -1
 .rw[ai h,show(- -1:Int)=1 by decide,adk];ext
 .rw[ak h];ext
def EH(xs:Array T):((TV xs.size).filterMap λ(m:Nat)=>xs[((xs.size:Int) - 1+(m:Int)*(-1)).toNat]?).toArray=xs.toList.reverse.toArray:=by
 let e:(TV xs.size).filterMap (λ(m:Nat)=>xs[((xs.size:Int) - 1+(m:Int)*(-1)).toNat]?)=((TV xs.size).map λk=>xs.size - 1 - k).filterMap (xs[·]?):=by
  rw[aak];let a:∀l:G Nat,(∀m∈l,m<xs.size)->l.filterMap (λ(m:Nat)=>xs[((xs.size:Int) - 1+(m:Int)*(-1)).toNat]?)=l.filterMap ((xs[·]?)∘λk=>xs.size - 1 - k):=by
   intro l
   induction l with
   |nil=>intro _;rfl
   |cons m r b=>
    intro h;let hm:=h m (.head _);let e1:((xs.size:Int) - 1+(m:Int)*(-1)).toNat=xs.size - 1 - m:=by ext
    rw[Vn,Vn,b λk d=>h k (.tail _ d),e1];rfl
  show a _ λm hm=>U3.mp hm
 rw[e,PySem.W.krv_range,List.filterMap_reverse,PySem.W.krv_all]
section
variable{Y:Tg}{w:TN}{A:Tv}{E:OK->SS->Prop}{s:SS}
def lp{e:J}{d:T}{n:Nat}{Q:Int×Int×Nat->SS->Prop}(g:s.heap.IsSliceOf e .none .none d)(f:Xn d (M (-1)))
  (h:Q ((n:Int) - 1,-1,n) s):wpAny (model Y w) A (Builtin.Slice.sliceApplied (.ref e) (pure (n:Int))) Q E s:=by
 let(j,a,i,b):=id g;unfold Builtin.Slice.sliceApplied Builtin.Slice.sliceFields;show lD (lD (Vp a b (x:=.none) W (lD (Vp a b (x:=.none) W (lD (Vp a b (x:=d) W (SH ?_)))))));show lD (fQ f ?_);show wpAny _ _ (if((-1:Int)==0)=U then _ else _) _ _ s;rw[ak ()];show lD (fQ .none (lD (fQ .none (lD (SH ?_)))));show wpAny _ _ (match Builtin.Slice.sliceAdjust S S (-1) (n:Int)with|(lo,l)=>pure (lo,(-1:Int),Builtin.Slice.slicePlaces lo l (-1))) _ _ s;rw[vI n];show wpAny _ _ (pure ((n:Int) - 1,(-1:Int),Builtin.Slice.slicePlaces ((n:Int) - 1) (-1) (-1))) _ _ s;rw[wK];show SH h
def getItem_tuple_rev{t d:J}{items:Array T}{i:T}{Q:T->SS->Prop}(a:IsTup s.heap t items)(j:s.heap.IsSliceOf d .none .none i)(l:Xn i (M (-1)))
  (h:Q (.ref s.heap.objs.size) {s with heap:=s.heap.push {cls:=.type "tuple",data:=.seq items.toList.reverse.toArray}})
  (c:items.size<=S8):wpAny (model Y w) A (getItem (.ref t) (.ref d)) Q E s:=by
 let b:sizeOk (.seq items.toList.reverse.toArray):=by show items.toList.reverse.toArray.size<=S8;rw[Tb,UP,Tt];show c
 let(n,e,f,o):=id j;let g:s.TypeIs (.ref d) "slice":=#[n,e,f];ext getItem
 try with_reducible show UA ?_
 first|show lD (SH ?_)|skip
 show lD (Yy a.typeIs () ?_);show lD (UL (name:=Str.ofString "__getitem__") a.typeIs TY
  (UB TY a.typeIs entry_tuple_getitem ?_ (args_tuple_getitem _ _)))
 show wpAny _ _ (Builtin.Tuple.tupleItemsOf (.ref t)>>=_) _ _ s;show lD (tupleItemsOf_ a ?_);show lD (VF g ?_);rw[ai ()];show lD (lp j l ?_);show wpAny _ _ (if(((items.size:Int) - 1)==0&&(-1:Int)==1&&items.size==items.size)=U then _ else _) _ _ s;rw[ak (by rw[show((-1:Int)==1)=SW from by decide,YK,WJ];show Td),EH]
 first
  |show lD (m:=Builtin.Tuple.tupleExact _) (TJ (SH #[_,W,SH h]) b)
  |show lD (m:=Builtin.Tuple.tupleExact _) (TJ (lD (SH (SH #[_,W,SH h]))) b)
  |show lD (lD (m:=Builtin.Tuple.tupleExact _) (TJ (SH (SH #[_,W,SH h])) b))
  |show lD (lD (m:=Builtin.Tuple.tupleExact _) (TJ (SH #[_,W,SH h]) b))
end
end HT
namespace L2
open PySem PySem.Spec PyProof.Rows
def Cq{xs:G V}{a:G T}(h:Vals xs a):Vals xs.reverse a.reverse:=by
 induction h with
 |nil=>show .nil
 |cons h t b=>rw[U8,U8];show b.append (.cons h .nil)
def NJ(K:Bn)(c:TE)(e:TO):TE:=λd H Q=>c d H λx f=>e d f λo b=>o=M (-1)/\∃a xs,x=.ref a/\WY K b a xs/\∀p,b p=S->Q (.ref p) (upd b p (.tup xs.reverse))
def LI{X:Cx}{e st:Ts}{n pos:Pos}{c:TE}{m:TO}(L:PE X e c)(J:PO X (cL st) m):PE X (.Subscript e (.Slice CL CL (cL st) n) pos) (NJ X.K c m):=by
 intro d s i H Q I h;show Subscript_ (bG (L d s i H _ I h) λv u a=>?_);let(x,Y,P,z,C):=a;show wpAny_Slice ?_;rw[Z3];show SH ?_;show SH (bG (J d u i Y _ P C) λl f a=>?_);let(o,A,O,E,e3,a,xs,w,G,B):=a;subst e3 w;ext z;let j:Inv X d i A {f with heap:=f.heap.push {cls:=.type "slice",data:=.fields #v[.none,.none,l]}}:=O.kept (t':=f.toks) λb F q=>cj _ q;let(N,r,t,p):=j.tuple G;let g:N.toArray.size=xs.length:=by rw[Tb];show r.length.symm
 show wpAny (model X.prog X.w) X.A (subscriptTail e (.Slice CL CL (cL st) n) (.ref a) (.ref f.heap.objs.size)) (EP X d i Q) X.xe {f with heap:=f.heap.push {cls:=.type "slice",data:=.fields #v[.none,.none,l]}};show tail_any (ops:=[.ref a,.ref f.heap.objs.size]) t.typeIs TY.lookup ?_ (by with_unfolding_all rfl);show HT.getItem_tuple_rev t (Heap.IsSliceOf.new ..) E ?_ (by rw[g];show p);show#[.ref _,_,j.laid (t':=f.toks) (o:=.tup xs.reverse) (λb F q=>cj _ q) (SN _) ?_,W,B _ (j.U9.fresh (SN _))];show#[by rw[UP];show p,_,Cq r,X4.new _ _]
end L2
namespace L3
open PySem PySem.Spec PyProof.Rows L2
def IY(K:Bn):R2:=λx y H Q=>∃(a b:J) (ys:G V),x=.ref a/\y=.ref b/\WY K H a []/\WY K H b ys/\Q (.ref b) H
def FR{X:Cx}:OpR X (U0 .Add) (IY X.K):=by
 intro i s M H x y v u Q I w t h;let(a,b,ys,rfl,rfl,P,E,q):=h;ext w;ext t;let(O,z,B,_):=I.tuple P;let(L,N,A,_):=I.tuple E;ext z;let((F,dd,o,r),j,m,n,l):=id B;let((G,f,g,J),p,e,C,d):=id A;simp only at m l e d;subst m l e d;show aaw #[_,j,W] #[_,p,W] V2 WA Vb U4 (UT _ _)
  (tuple_addW0 a b _ L.toArray n C dd f r J W) #[j,p,#[.ref b,H,I,W,q]]
def Jw(K:Bn):R2:=λx y H Q=>Ff K x y H Q\/IY K x y H Q
theorem FU{X:Cx}:OpR X (U0 .Add) (Jw X.K):=OpR.or xx FR
def sr:D->D->I RV
 |.tuple [],.tuple ys=>M (.fz (.tuple ys))
 |d,e=>bB d e
def Bz{K:Bn}:iG K (Jw K) sr:=by
 intro O H x y m j l Q n f d e q;unfold sr at e;split at e
 .ext e;let(a,xs,rfl,h1,h):=vn f;let(b,ys,rfl,g,i):=vn d;ext h;show .inr #[a,b,ys,W,W,h1.1,g.1,q.at (.tup g i)]
 .show .inl (yD O H x y m j l Q n f d e q)
end L3
namespace L4
open PySem PySem.Spec PyProof.Rows L2 L3
def OM(h:Heap)(e:J)(c:OK)(i:I J)(a:OK)(hd:I J):Prop:=
 ∃d fs,h.get? e=M d/\d.cls=c/\d.dict=i/\d.data=.fields fs/\fs[0]?=M a/\
  match hd with
  |none=>fs[1]?=M .none
  |some b=>fs[1]?=M (.ref b)/\b≠e/\∃g f,h.get? b=M g/\g.data=.fields f/\f[3]?=M .none
structure Lft(l:G Env)(e:J)(hd:I J)(h h':Heap):Prop where
 keep:∀b o,h.get? b=M o->b≠e->hd≠M b->b∉wb l->h'.get? b=M o
 slot:∀b o,h.get? b=M o->b≠e->hd≠M b->∃sl,h'.get? b=M {o with slots:=sl}
 here:∀b o,h.get? b=M o->∃o',h'.get? b=M o'
section
variable{M:acL}{A:Tv}{E:OK->SS->Prop}{s:SS}
def oH
  (I:A.frames=cL (env::outer)) (B:s.heap.FunFrames base (env::outer)) (H:env.frame=cL L) (C:s.heap.get? e=cL ob) (m:ob.data=.fields fs) (l:1<fs.size) (h0:fs[0]?=cL a0)
  (k:∀y T,s.heap.objs.size<=T->OM y e ob.cls ob.dict a0 (cL T)->Lft (env::outer) e CL s.heap y->Q ⟨⟩ {s with heap:=y}):
  wpAny M A (frameOf env>>=λfr=>entryPlaceOf L nx>>=λpl=>EntryCells.newEntry hv fr .none (rawInt L) .none pl>>=λb=>setField (.ref e) 1 b) (λ_ D=>wpAny M A (setFlight (.ref e) CL) Q E D) E s:=by
 let i:e∉(env::outer).filterMap (·.frame):=λz=>by let(_,o,q,n):=B.mem z;rw[C]at q;ext q;show n fs m
 show lD (wpAny_frameOf_fun I B H λh1 S=>?_);show lD (wpAny_entryPlaceOf λpl P=>?_);unfold EntryCells.newEntry newFields;show lD (TJ ?_ (P.sizeOk5 _ _ _ _ _));let w:=(S.2.1 e i).trans C;generalize X:({cls:=.type "traceback",dict:=CL,data:=.fields ([hv,.ref L,.none,rawInt L,.none]++(if pl.isEmpty then SY 6 OK.none else pl)).toArray}:Obj)=N;let a:N.data=.fields ([hv,.ref L,.none,rawInt L,.none]++(if pl.isEmpty then SY 6 OK.none else pl)).toArray:=by rw[<-X]
 let J:=di a;let v:=cj N w;show V1 v m l ?_;let j:=UZ (cv w);let p:=c6 m (·.setIfInBounds 1 (OK.ref h1.objs.size));let h:=c4 (Obj.mapFields (·.setIfInBounds 1 (OK.ref h1.objs.size))) v (di p)
 let t:=
  (c3 (h1.push N) (Obj.mapFields (·.setIfInBounds 1 (OK.ref h1.objs.size))) j.symm).trans (c0 h1 J)
 ext setFlight;show lD (Vp h p (x:=.ref h1.objs.size) (by simp[l]) ?_);rw[ai (show(OK.ref h1.objs.size !=OK.none)=U from by simp)];let r:3<([hv,.ref L,.none,rawInt L,.none]++(if pl.isEmpty then SY 6 OK.none else pl)).toArray.size:=by simp only[Tb,SQ,S0,UG];ext
 show V1 t a r ?_;let u:=c3 ((h1.push N).update e (Obj.mapFields (·.setIfInBounds 1 (OK.ref h1.objs.size)))) (Obj.mapFields (·.setIfInBounds 3 ((CL:cc SU).elim OK.none λf=>rawInt f))) j;let F:=c4 (Obj.mapFields (·.setIfInBounds 3 ((CL:cc SU).elim OK.none λf=>rawInt f))) t (di (c6 a _));let Yq:∀b o,b≠e->h1.get? b=cL o->(((h1.push N).update e (Obj.mapFields (·.setIfInBounds 1 (OK.ref h1.objs.size)))).update h1.objs.size (Obj.mapFields (·.setIfInBounds 3 ((CL:cc SU).elim OK.none λf=>rawInt f)))).get? b=cL o:=λb o ne q=>by rw[c3 _ _ (UZ (cv q)),c3 _ _ ne.symm];show cj N q
 show k _ h1.objs.size (by rw[S.1];show SN _) #[_,_,u.trans h,Obj.cls_mapFields _ _,?_,p,?_,?_,j,_,_,F,c6 a _,?_] #[λb o q ne _ G=>Yq b o ne ((S.2.1 b G).trans q),λb o q ne _=>?_,λb o q=>?_]
 .cases ob with
  |mk c d K g=>ext K<;>rfl
 .rw[X8 ()];show h0
 .simp[l]
 .rw[Xv r];rfl
 .let(g,z):=S.2.2 b o q;show#[g,Yq b _ ne z]
 .by_cases ne:b=e
  .subst ne;show#[_,u.trans h]
  .let(g,z):=S.2.2 b o q;show#[_,Yq b _ ne z]
def zH
  (u:A.frames=cL (env::outer)) (t:s.heap.FunFrames base (env::outer)) (g:env.frame=cL L) (F:OM s.heap e c dx a0 hd)
  (k:∀x T,s.heap.objs.size<=T->OM x e c dx a0 (cL T)->Lft (env::outer) e hd s.heap x->Q ⟨⟩ {s with heap:=x}):wpAny M A (leaving env (.ref e)) Q E s:=by
 let(J,fs,q,G,C,d,h0,r):=F;subst G C;cases hd with
 |none=>let r:=r;unfold leaving noteFrame;simp only[g];show lD (lD (Vp q d r ?_));rw[ak ()];show oH u t g q d (WG.mp r).1 h0 k
 |some T=>
  let(r,w,K,v,f,dT,m):=r;unfold leaving noteFrame;simp only[g];show lD (lD (Vp q d r ?_));rw[ai (show(OK.ref T !=OK.none)=U from by simp)];show lD (Vp f dT m ?_);rw[ak (show¬((OK.none==rawInt L)=U)from by simp[rawInt])];show lD (V1 f dT (WG.mp m).1 ?_);let j9:∀b,b≠T->(s.heap.update T (Obj.mapFields (·.setIfInBounds 3 OK.none))).get? b=s.heap.get? b:=λb ne=>c3 _ _ ne.symm;let a:=c4 (Obj.mapFields (·.setIfInBounds 3 OK.none)) f (di (c6 dT _));let l:∀b o,s.heap.get? b=cL o->(∀N,o.data≠.fields N)->b≠T:=λb o z n y=>by rw[y,f]at z;ext z;show n v dT
  show oH u (t.of_keeps λb o z n=>#[o,(j9 b (l b o z n)).trans z,W]) g ((j9 e w.symm).trans q) d (WG.mp r).1 h0 λx H p I h=>k x H (by rw[Heap.size_after_update]at p;show p) I #[λb o z j i B=>?_,λb o z j i=>?_,λb o z=>?_]
  .show h.keep b o ((j9 b λy=>i (by rw[y])).trans z) j (by simp) B
  .show h.slot b o ((j9 b λy=>i (by rw[y])).trans z) j (by simp)
  .by_cases y:b=T
   .subst y;show h.here b _ a
   .show h.here b o ((j9 b y).trans z)
end
theorem Lft.U9{P:Tg}{w:TN}{l:G Env}{e:J}{hd:I J}{H:Hp}{h k:Heap}(L:Lft l e hd h k)(j:XB P w H h)(ne:H e=S)(g:∀T,hd=M T->H T=S)(i:∀b∈wb l,H b=S):XB P w H k:=λb u q=>by
 let free:∀c v,H c=M v->c≠e/\hd≠M c/\c∉wb l:=λc v z=>#[(λy=>by rw[y,ne]at z;ext z),(λy=>by rw[g c y]at z;ext z),(λy=>by rw[i c y]at z;ext z)];show(j b u q).Yq (λc v m z=>?_) (λ_ z=>z) λ_ _ z=>z;rcases m with y|y
 .rw[y]at z⊢;let(f,d,a):=free b u q;show L.keep b v z f d a
 .let(f,d,a):=free c _ y;show L.keep c v z f d a
def Hk(P:Tg)(w:TN):tt:=λa H s E x b=>
 ∃e c d a0 T H',x=.ref e/\s.heap.get? e=S/\s.heap.get? T=S/\OM b.heap e c d a0 (M T)/\H' e=S/\H' T=S/\
  b.os=s.os/\AllBare b.gens/\Un (wb a) [] H H' s.heap b.heap/\XB P w H' b.heap/\E c d H'
def Os{P:Tg}{w:TN}{K:Bn}{x:Str->cc OK}{base:Heap}{N:cb Str}{h:Str}{a:Vm}{f:SU}{u:OK}{A:Tv}{outer:cb Env}{d:SS}{C:Hp}{E:XK}
  {j:cb (SU×Obj)} {G:L2.St} {H:Hp} {s:SS} {e:SU} {c v:OK} {k hd:cc SU} (I:L2.Inv (jF (Hk P w) P w K x base N h a f u A outer d C E) j G H s)
  (F:OM s.heap e c k v hd) (t:d.heap.get? e=CL) (S:∀T,hd=cL T->d.heap.get? T=CL) (ne:H e=CL) (O:∀T,hd=cL T->H T=CL) (q:E c k H):
  (jF (Hk P w) P w K x base N h a f u A outer d C E).xe (.ref e) s:=by
 let Z:=I.ok.frames;let Y:=I.stack;show zH (L:=d.heap.objs.size) Z Y W F λh' T r F' L=>?_;let Q:=L.U9 I.U9 ne O I.YT;let X:H T=CL:=I.U9.fresh r;let m:∀b o,d.heap.get? b=cL o->b<d.heap.objs.size:=λb o z=>cv z;let g:∀b o,d.heap.get? b=cL o->b≠e/\hd≠cL b:=λb o z=>#[(λy=>by rw[y,t]at z;ext z),(λy=>by rw[S b y]at z;ext z)];let sz:=I.sz;show#[e,c,k,v,T,H,W,t,Heap.get?_none_of_le (S9 sz r),F',ne,X,I.os,I.bare,?_,Q,q];let B:=I.base;show#[λb o z n p _=>?_,λb o z n U _=>?_,λb o z n _=>?_,λb o z _=>?_,B.YH,B.Yr,B.YI]
 .let i:=B.keep b o z n p (λy=>nomatch y)
  show L.keep b o i (g b o z).1 (g b o z).2 λy=>?_;rcases Tf.mp (I.Y0 b y)with y|y
  .let y:b=d.heap.objs.size:=y;show b9 (m b o z) (by rw[y];show Ub _)
  .show p y
 .let(sl,i):=B.slot b o z n U (λy=>nomatch y);let(l,J):=L.slot b _ i (g b o z).1 (g b o z).2;show#[l,J]
 .show B.free b o z n (λy=>nomatch y)
 .let(M,i):=B.there b o z (λy=>nomatch y);show L.here b M i
def Et{P:Tg}{w:TN}{K:Bn}{k:Str->cc OK}{base:Heap}{N:G Str}{d:Str}{a:Vm}{f:J}{l:OK}{A:Tv}{outer:G Env}{h:SS}{p:Hp}{E:XK}:
  lC (Hk P w) (jF (Hk P w) P w K k base N d a f l A outer h p E) E:=by
 rintro j r H s x t I ⟨e,c,Q,v,T,B,rfl,le,L,F,ne,C,os,bare,un,U9,q⟩;let n:=I.abV (ch:=[]) os un U9 bare (λb z=>nomatch z);let g:∀b,s.heap.get? b=S->h.heap.get? b=S:=λb z=>by
  cases y:h.heap.get? b with
  |none=>rfl
  |some o=>let(u,i):=I.base.there b o y (λy=>nomatch y);rw[z]at i;ext i
 show Os n F (g e le) (λm z=>by ext z;show g T L) ne (λm z=>by ext z;show C) q
section
variable{P:Tg}{w:TN}{K:Bn}{B:Str->cc OK}{L:Heap}{N:cb Str}{C:Str}{Y:Vm}{f:SU}{z:OK}{A:Tv}{Q:cb Env}{v:SS}{u:Hp}{E:XK}{t:tt}
  {r:L2.St} {H:Hp} {s:SS} {q:Heap} {X:Cx}
end
def Ov(K:Bn)(C:J)(m:G T):Prop:=∃nm q N bs hd sn sub a col dd k0 k1 k2 k3 k5 id,K.lookup C=M (excClassObj nm q C N bs m hd sn sub a col dd k0 k1 k2 k3 k5 id)
structure Apart(X:Cx)(a:J):Prop where
 n0:X.s₀.heap.get? a=S
 nL:a≠X.env.locals
 nC:∀y c,X.env.cells.lookup y=M c->c≠a
 nP:∀p∈X.pn,p.1≠a
end L4
namespace L4
open PySem PySem.Spec PySem.W PyProof.Rows L2 L3
section
variable{Y:Tg}{w:TN}{A:Tv}{E:OK->SS->Prop}{h:Heap}{g:Array Yx}{d:acK}{t:Nat}{Q:acN}{a C:SU}{o:Obj}{K:Bn}
  {P N:Str} {L:SU} {B z:cb OK} {v:Bool} {u:cb Str} {r:cb OK} {q:Bool} {p:cc Bool} {n:cc SU} {l j i f e:cc OK} {X:String}
structure afK(K:Bn)(C:J)(m:G T):Prop where
 cl:Ov K C m
 be:m.contains (.type "BaseException")=U
 ga:findIn K (.ref C) "__getattribute__"=M (M (.builtin "BaseException.__getattribute__"))
 gt:findIn K (.ref C) "__getattr__"=M S
 cs:findIn K (.ref C) "__class__"=M (M (.builtin "object.__class__"))
 ob:mroIn K C (.type "object")=M U
end
end L4
namespace HT
open PySem PySem.Spec PyProof.Rows
section
variable{Y:Tg}{w:TN}{A:Tv}{E:OK->SS->Prop}{s:SS}
def getItem_tuple_all{t b:J}{items:Array T}{j i:T}{lo c:I Int}{Q:T->SS->Prop}(a:IsTup s.heap t items)(n:s.heap.IsSliceOf b j i .none)(pl:Xn j lo)(o:Xn i c)
  (l:sIx items.size 0 lo=0/\sIx items.size items.size c=items.size) (h:Q (.ref t) s):wpAny (model Y w) A (getItem (.ref t) (.ref b)) Q E s:=by
 let(p,d,e,q):=id n;let f:s.TypeIs (.ref b) "slice":=#[p,d,e];ext getItem
 try with_reducible show UA ?_
 first|show lD (SH ?_)|skip
 show lD (Yy a.typeIs () ?_);show lD (UL (name:=Str.ofString "__getitem__") a.typeIs TY
  (UB TY a.typeIs entry_tuple_getitem ?_ (args_tuple_getitem _ _)))
 show wpAny _ _ (Builtin.Tuple.tupleItemsOf (.ref t)>>=_) _ _ s;show lD (tupleItemsOf_ a ?_);show lD (VF f ?_);rw[ai ()];show lD (gP n pl o ?_);let g:((((sIx items.size 0 lo:Nat):Int)==0&&(1:Int)==1&&(sIx items.size items.size c - sIx items.size 0 lo)==items.size)=U):=by rw[l.1,l.2];simp
 show wpAny _ _ (if(((sIx items.size 0 lo:Nat):Int)==0&&(1:Int)==1&&(sIx items.size items.size c - sIx items.size 0 lo)==items.size)=U then _ else _) _ _ s;rw[ai g];show lD (m:=Builtin.Tuple.tupleIsExact _) ?_;ext Builtin.Tuple.tupleIsExact;show lD (VF a.typeIs (SH ?_));rw[ai ()];show lD (XF ?_);show SH #[_,W,SH h]
end
end HT
namespace L3
open PySem PySem.Spec PyProof.Rows L2
def Pb(K:Bn):V->I Int->I Int->Hp->VK->Prop:=λx lo b H Q=>∃(a:J) (xs:G V),x=.ref a/\WY K H a xs/\(HT.sIx xs.length 0 lo=0/\HT.sIx xs.length xs.length b=xs.length)/\Q (.ref a) H
def DJ{X:Cx}:Ky X (Pb X.K):=by
 intro d s n H x v p o lo w t Q I f l pl g h;let(a,xs,rfl,i,j,q):=h;ext f;let(m,r,e,u):=I.tuple i;let b:m.toArray.size=xs.length:=by rw[Tb];show r.length.symm
 show#["tuple",_,TY.lookup,e.typeIs,?_];show HT.getItem_tuple_all e l pl g (by rw[b];show j) #[.ref a,H,I,W,q]
def NP(K:Bn):V->I Int->I Int->Hp->VK->Prop:=λx lo a H Q=>Ll K x lo a H Q\/Pb K x lo a H Q
def Iy{X:Cx}:Ky X (NP X.K):=by
 intro a s b H x v e d lo j f Q I g i pl h q;rcases q with q|q
 .show BL a s b H x v e d lo j f Q I g i pl h q
 .show DJ a s b H x v e d lo j f Q I g i pl h q
def mL:D->I Int->I Int->I RV
 |.list ds,lo,a=>M (.ow (fU ds lo a))
 |.tuple ds,lo,a=>M (.fz (.tuple (fU ds lo a)))
 |_,_,_=>S
def Fv{ds:G D}{lo a:I Int}(h:HT.sIx ds.length 0 lo=0/\HT.sIx ds.length ds.length a=ds.length):fU ds lo a=ds:=by ext fU;rw[h.1,h.2,abN,ado,Uu]
def Oh{K:Bn}:P3 K (NP K) mL:=by
 intro O H x lo g i h Q n b e q;cases i with
 |list ds=>show .inl (sk O H x lo g _ h Q n b e q)
 |tuple ds=>
  ext e;by_cases d:HT.sIx ds.length 0 lo=0/\HT.sIx ds.length ds.length g=ds.length
  .let(a,xs,rfl,h1,f):=vn b;rw[Fv d]at q;show .inr #[a,xs,W,h1.1,by rw[f.length];show d,q.at (.tup h1 f)]
  .show .inl (sk O H x lo g (.tuple ds) _ Q n b ?_ q)
   show(if iV ds.length lo g=U then S else M (RV.fz (.tuple (fU ds lo g))))=_;let z:iV ds.length lo g=SW:=by ext iV;show a7 d
   rw[z,ak Td]
 |_=>ext e
section
variable{K:Bn}{E:XK}
end
end L3
namespace L9
open PySem PySem.W PyProof.Rows Builtin Builtin.ObjectAttr
abbrev Ri:G T:=[.type "ValueError",.type "Exception",.type "BaseException",.type "object"]
end L9
namespace L9
open PySem PySem.Spec PyProof.Rows L2
def Qo(v:V):Prop:=v=.Wa\/∃i:Int,v=.int i/\i.natAbs.log2<1920
def Rz(C e:J):Heap->Prop:=λh=>∃fs t0,h.get? e=M #[.ref C,S,.fields fs,#v[]]/\fs[0]?=M (.ref t0)/\fs[1]?=M .none
def Rk(C e p:J):Heap->Prop:=λh=>∃fs a0,h.get? e=M #[.ref C,M p,.fields fs,#v[]]/\fs[0]?=M a0/\fs[1]?=M .none
structure XC(K:Bn)(C B fI:J):Prop where
 obj:∃nm q N bs sn sub ab col dd k0 k1 k2 k3 k5,K.lookup C=M (excClassObj nm q C N bs (.ref B::Ri) U sn sub ab col dd k0 k1 k2 k3 k5 "ValueError.__new__")/\PySem.W.nsOkIn K N=U/\UC K N "__init__"=M (M (.ref fI))
 base:Yz K B Ri "ValueError.__new__"=U
 sa:UW K (.ref C) "__setattr__"=M (M (.builtin "object.__setattr__"))
end L9
namespace L9
open PySem PySem.Spec PySem.W PyProof.Rows L2 L3 L4
section
variable{Y:Tg}{w:TN}{A:Tv}{E:OK->SS->Prop}{h:Heap}{g:Array Yx}{d:acK}{t:Nat}{P:acN}{a C:SU}{o:Obj}{K:Bn}{N:cc Obj}{X:Str}{v:OK}
  {L B:Str} {z:SU} {u r:cb OK} {q:Bool} {p:cb Str} {n:cb OK} {m:Bool} {l:cc Bool} {j:cc SU} {i f e b i5:cc OK} {Q:String}
end
def Gu(C:J)(f:Str):Sp:=λa H Q _=>∃e v,a=[.ref e,v]/\Qo v/\H e=M (.ext (Rz C e))/\∀p,H p=S->p≠e->Q .Wa (upd (upd H e (.ext (Rk C e p))) p (.xd [(f,v)]))
end L9
namespace L3
open PySem PySem.Spec PyProof.Rows L2
mutual
def RH:SR->Bool
 |.tuple ds=>LL ds
 |.int _=>SJ
 |.str _=>SJ
 |.bool _=>SJ
 |.none=>SJ
 |_=>SW
def LL:cb SR->Bool
 |[]=>SJ
 |d::r=>RH d&&LL r
end
section
variable{K:Bn}{E:XK}{B:a5}{Y:Hp}{O Z:a5}{X:L2.St}{H Q:Hp}{P:aE}
def Ga(h:WY K H a xs)(l:H a=M (.lst ys)):WY K (λ_=>S) a xs:=by
 rcases h with(h|⟨o,h⟩)|h
 .rw[l]at h;ext h
 .rw[l]at h;ext h
 .show .inr h
mutual
theorem GL(f:∀b,O b->¬Z b->∃ys,H b=cL (.lst ys)):∀{v:V} {d:D},DV Z K H v d->RH d=SJ->DV O K H v d
 |_,_,.Wa,_=>.Wa
 |_,_,.bl b,_=>.bl b
 |_,_,.int i,_=>.int i
 |_,_,.str x,_=>.str x
 |_,_,.tup (a:=a) h hs,e=>.tup ⟨h.1,λz=>by
   by_cases y:Z a
   .exact h.2 y
   .obtain⟨ys,q⟩:=f a z y;exact Ga h.1 q⟩ (tI f hs e)
 |_,_,.lst h hs,e=>by cases e
theorem tI(a:∀b,O b->¬Z b->∃ys,H b=cL (.lst ys)):∀{vs:cb V} {ds:cb D},UN Z K H vs ds->LL ds=SJ->UN O K H vs ds
 |_,_,.nil,_=>.nil
 |_,_,.cons h hs,e=>by have d:=Bool.and_eq_true_iff.mp e;exact .cons (GL a h d.1) (tI a hs d.2)
end
end
end L3
namespace L9
open PySem PySem.Spec PyProof.Rows L2 L3
section
variable{K:Bn}{E:XK}
def JS:R2:=λx y H Q=>∃(z:Str) (n:Int),x=.str z/\y=.int n/\z.length<=1000/\0<=n/\n<=1000/\Q (.str (Txt.mul z n)) H
def HH:OpR X (U0 .Mult) JS:=by
 intro a s g H x y v u Q I e d h;let(z,n,rfl,rfl,f,h0,h1,q):=h;let(t,rfl):=e;let(b,rfl):=d;show SB.mul #[?_,λ_ _=>?_,λ_ _=>?_] λb k=>#[.str _,H,I.tok k,#[_,W],q]
 .simp;ext
 .let:(1000:Int)<=(2^63 - 1)/n:=Int.le_ediv_of_mul_le () ();ext
 .let:z.length*n.toNat<=1000*1000:=WO f ();ext Builtin.Str.tooLong;let i:=Y3;simp;ext
def tZ:D->D->I RV
 |.str z,.int n=>if z.length<=1000/\0<=n/\n<=1000 then M (.fz (.str (Txt.mul z n)))else S
 |_,_=>S
def ER:iG K JS tZ:=by
 intro O H x y h f g Q n d b e q;unfold tZ at e;split at e
 .split at e
  .rename_i a;ext e;ext d;ext b;show#[_,_,W,W,a.1,a.2.1,a.2.2,q.at (.str _)]
  .ext e
 .ext e
end
end L9
namespace L9
open PySem PySem.W PyProof.Rows Builtin Builtin.ObjectAttr
open PySem.Spec L2
open L3 L4
def DC(C:J)(f g:Str):Sp:=λa H Q _=>∃e v u,a=[.ref e,v,u]/\Qo v/\Qo u/\H e=M (.ext (Rz C e))/\∀p,H p=S->p≠e->Q .Wa (upd (upd H e (.ext (Rk C e p))) p (.xd [(g,u),(f,v)]))
def AD:D->I RV
 |.tuple ds=>M (.fz (.tuple ds.reverse))
 |_=>S
theorem yI{K:Bn}{O:a5}{H:Hp}:∀{a:G V} {ds:G D},UN O K H a ds->UN O K H a.reverse ds.reverse
 |_,_,.nil=>.nil
 |_,_,.cons h t=>by rw[U8,U8];show(yI t).append (.cons h .nil)
def Mf{K:Bn}{E:XK}{c:TE}{k:FE}(s:EO K E c k):EO K E (NJ K c (El (Q1 (rU λi=>.int (-i)) (tC (.int 1))))) (Fj AD k):=by
 intro B q O h H u Q R w;show s B q O h H u _ R (w.bind.imp λa e r x t e1 g m=>?_);let(d,j,e):=e.T6;let(C,f,e):=e.T6;let A:=jO g m j;unfold AD at f;split at f
 .ext f;let(b,z,rfl,k1,k2):=vn A;show#[1,W,-1,W,W,b,z,W,k1.1,?_];show Fin.ZE (yI k2) g.od (iU (rv:=.fz (.tuple _)) g λo v p e4 n l=>e o v p (e1.trans e4) n l)
 .ext f
end L9
namespace LD
open PySem PyProof.Rows L2 L3
mutual
def kd:SR->Bool
 |.none=>SJ
 |.int _=>SJ
 |.str x=>SR.strOk x
 |.tuple xs=>kds xs
 |_=>SW
def kds:cb SR->Bool
 |[]=>SJ
 |x::r=>kd x&&kds r
end
def keyD:SR->Bool
 |.tuple xs=>kds xs&&decide ((SR.tuple xs).depth<=8)
 |_=>SW
mutual
theorem sU:∀d:SR,kd d=SJ->d.canLay0=SJ
 |.none,_=>rfl
 |.int _,_=>rfl
 |.str x,h=>by unfold SR.canLay0;unfold kd at h;exact h
 |.tuple xs,h=>by unfold SR.canLay0;unfold kd at h;exact yx xs h
 |.bool _,h|.list _,h|.dict _,h=>by simp[kd]at h
theorem yx:∀xs:cb SR,kds xs=SJ->SR.canLayAll0 xs=SJ
 |[],_=>rfl
 |x::r,h=>by unfold kds at h;rw[Ld]at h;unfold SR.canLayAll0;rw[sU x h.1,yx r h.2];rfl
end
mutual
theorem B5:∀d e:SR,kd d=SJ->kd e=SJ->SR.eqv d e=SJ->d=e
 |.none,e,_,h,q=>by cases e<;>simp_all [kd,SR.eqv]
 |.int i,e,_,h,q=>by cases e<;>simp_all [kd,SR.eqv]
 |.str x,e,_,h,q=>by cases e<;>simp_all [kd,SR.eqv]
 |.tuple xs,e,g,h,q=>by
  cases e with
  |tuple ys=>rw[SR.eqv]at q;unfold kd at g h;rw[yA xs ys g h q]
  |_=>simp_all [kd,SR.eqv]
 |.bool _,_,h,_,_|.list _,_,h,_,_|.dict _,_,h,_,_=>by simp[kd]at h
theorem yA:∀xs ys:cb SR,kds xs=SJ->kds ys=SJ->SR.eqvAll xs ys=SJ->xs=ys
 |[],[],_,_,_=>rfl
 |[],_::_,_,_,q=>by simp[SR.eqvAll]at q
 |_::_,[],_,_,q=>by simp[SR.eqvAll]at q
 |x::xs,y::ys,g,h,q=>by unfold kds at g h;rw[SR.eqvAll]at q;rw[Ld]at g h q;rw[B5 x y g.1 h.1 q.1,yA xs ys g.2 h.2 q.2]
end
def BM[Decidable (d=e)](hd:kd d=U)(a:kd e=U):SR.eqv d e=decide (d=e):=by
 by_cases q:d=e
 .subst q;rw[a6 W];show SeqAt.eqv_refl d (sU d hd)
 .rw[a7 q]
  cases z:SR.eqv d e with
  |false=>rfl
  |true=>show b9 (B5 d e hd a z) q
def cW(h:keyD d=U):kd d=U/\d.depth<=8:=by
 cases d with
 |tuple xs=>unfold keyD at h;rw[Ld]at h;show#[by ext kd;show h.1,a8 h.2]
 |_=>simp[keyD]at h
mutual
def l7(w:TN):SR->Int
 |.none=>reduceHash 0xFCA86420
 |.int i=>hashInt i
 |.str x=>hashStr w x
 |.tuple xs=>reduceHash (Builtin.Tuple.tupleHashOf (nK w xs))
 |_=>0
def nK(w:TN):cb SR->cb Int
 |[]=>[]
 |x::r=>l7 w x::nK w r
end
mutual
def Qb:SR->Nat
 |.tuple xs=>GB xs+1
 |_=>1
def GB:cb SR->Nat
 |[]=>0
 |x::r=>Qb x+GB r
end
section
variable{prog:Tg}{w:TN}{E:OK->SS->Prop}
mutual
theorem xz:∀(d:SR) (v:OK) (as:cb SU) (A:Tv) (s:SS) (Q:Int->SS->Prop),kd d=SJ->Vq s.heap v d as->A.units+d.depth<cLine->Q (l7 w d) {s with toks:=s.toks+Qb d}->wpAny (model prog w) A (pyHash v) Q E s
 |.none,_,_,A,s,Q,_,r,hu,h=>by cases r;exact Zm (T:= "NoneType") rfl F.slot_NoneType_hash F.entry_NoneType_hash (F.args_NoneType_hash_1 _) (adp _) (.inr (by ext)) (lD (SH (lD (wpAny_mkInt (SH ⟨_,_,rfl,h⟩)))))
 |.int i,_,_,A,s,Q,_,r,_,h=>by cases r;exact adh h
 |.str x,_,_,A,s,Q,_,r,_,h=>by cases r;exact adi h
 |.tuple xs,_,_,A,s,Q,hk,r,hu,h=>by
  cases r with
  | @tuple a o vs n _ _ h1 h2 h3 h4=>
   refine Zm (T:= "tuple") ⟨_,h1,h2⟩ F.slot_tuple_hash F.entry_tuple_hash (F.args_tuple_hash_1 _) (adp _) (.inr (by ext)) ?_;show wpAny _ _ (Builtin.Tuple.tupleItemsOf (.ref a)>>=_) _ _ s;refine lD (Yn h1 h3 ?_);refine lD ?_;rw[<-Z4];unfold kd at hk;refine qm xs vs.toList _ A.in1 s #v[] _ hk h4 (by simp only[SR.depth,Tv.in1_units]at hu⊢;ext) λb e=>?_;show wpAny _ _ (retInt (Builtin.Tuple.tupleHashOf b.toList)) _ _ _;rw[e];refine lD (wpAny_mkInt (SH ⟨_,_,rfl,?_⟩));unfold l7 Qb at h
   simpa [Zb]using h
 |.bool _,_,_,_,_,_,h,_,_,_|.list _,_,_,_,_,_,h,_,_,_|.dict _,_,_,_,_,_,h,_,_,_=>by simp[kd]at h
theorem qm:∀(xs:cb SR) (vs:cb OK) (as:cb SU) (A:Tv) (s:SS) (b:Array Int) (Q:Array Int->SS->Prop),kds xs=SJ->V0 s.heap vs xs as->A.units+SR.depthAll xs<cLine->
  (∀b':Array Int,b'.toList=b.toList++nK w xs->Q b' {s with toks:=s.toks+GB xs})->
  wpAny (model prog w) A (forIn vs b λx r=>do let h<-pyHash x;pure PUnit.unit;pure (ForInStep.yield (r.push h))) Q E s
 |[],_,_,A,s,b,Q,_,x,_,h=>by cases x;exact SH (h b (by simp[nK]))
 |k::xs,_,_,A,s,b,Q,hk,x,hu,h=>by
  cases x with
  |cons d a=>
   unfold kds at hk;simp only[Ld,SR.depthAll]at hk hu;rw[Yv];refine lD (lD (xz k _ _ A s _ hk.1 d (by ext) ?_));refine lD (SH (SH ?_));refine qm xs _ _ A _ _ Q hk.2 a (by ext) λb' e=>?_;have:=h b' (by simp[e,nK]);unfold GB at this
   simpa [Zb]using this
end
theorem tP:∀(n:Nat) (d:SR) (v:T) (as:G J) (A:Tv) (s:SS) (Q:Bool->SS->Prop),kd d=U->Vq s.heap v d as->d.depth<=n->Q U s->wpAny (model prog w) A (eqIsQuiet n v) Q E s
 |n,.none,_,_,A,s,Q,_,r,_,h=>by ext r;rw[YA _ W];show SH h
 |n,.int i,_,_,A,s,Q,_,r,_,h=>by ext r;rw[YA _ W];show SH h
 |n,.str i,_,_,A,s,Q,_,r,_,h=>by ext r;rw[YA _ W];show SH h
 |0,.tuple xs,_,_,A,s,Q,t,r,q,h=>by simp only[SR.depth]at q;ext
 |n+1,.tuple xs,_,_,A,s,Q,t,r,q,h=>by
  cases r with
  | @tuple a o C m _ _ h1 B z u=>
   let g:s.TypeIs (.ref a) "tuple":=#[_,h1,B];simp only[SR.depth]at q;ext eqIsQuiet;show lD (XM g F.slot_tuple_eq.lookup ?_);show lD (Vh g aa4 ?_);simp only[UY,S4,if_false];show lD (W5 h1 z ?_);show lD ?_;rw[<-Z4];unfold kd at t;show adq _ (λb r e=>r.1=S/\e=s/\∃ys bs,kds ys=U/\V0 s.heap b ys bs/\SR.depthAll ys<=n) _ ?_ ?_ _ _ #[W,W,xs,_,t,u,by ext]
   .rintro v b r e ⟨f,rfl,ys,bs,k1,k2,k3⟩
    cases k2 with
    | @cons _ _ y p _ _ g1 g2=>unfold kds at k1;simp only[Ld,SR.depthAll]at k1 k3;show lD (tP n y v _ A e _ k1.1 g1 () ?_);simp only[UY,S4,if_false];show SH #[W,W,p,_,k1.2,g2,by ext]
   .rintro⟨l,j⟩ e ⟨f,rfl,_⟩;simp only at f;subst f;show SH h
 |_,.bool _,_,_,_,_,_,h,_,_,_|_,.list _,_,_,_,_,_,h,_,_,_|_,.dict _,_,_,_,_,_,h,_,_,_=>by simp[kd]at h
end
mutual
theorem qA{h h':Heap}{x:SU}{b:Obj}{es:Array UM}{i:Nat}(e:h.get? x=cL b)(g:b.data=.dict es i)(f:Heap.SameBut x h h'):∀(d:SR) (v:OK) (as:cb SU),kd d=SJ->Vq h v d as->Vq h' v d as
 |.none,_,_,_,r=>by cases r;exact .none
 |.int _,_,_,_,r=>by cases r;exact .int _ _
 |.str _,_,_,_,r=>by cases r;exact .str _ _
 |.tuple xs,_,_,k,r=>by
  cases r with
  | @tuple a o vs n _ _ h1 h2 h3 h4=>
   have j:a≠x:=by rintro rfl;rw[e]at h1;cases h1;rw[g]at h3;exact nomatch h3
   unfold kd at k;exact .tuple ((f.2 a j).trans h1) h2 h3 (oN e g f xs _ _ k h4)
 |.bool _,_,_,h,_|.list _,_,_,h,_|.dict _,_,_,h,_=>by simp[kd]at h
theorem oN{h h':Heap}{x:SU}{a:Obj}{es:Array UM}{j:Nat}(b:h.get? x=cL a)(f:a.data=.dict es j)(e:Heap.SameBut x h h'):∀(ds:cb SR) (vs:cb OK) (as:cb SU),kds ds=SJ->V0 h vs ds as->V0 h' vs ds as
 |[],_,_,_,r=>by cases r;exact .nil
 |d::ds,_,_,k,r=>by
  cases r with
  |cons i g=>unfold kds at k;rw[Ld]at k;exact .cons (qA b f e d _ _ k.1 i) (oN b f e ds _ _ k.2 g)
end
abbrev KD:={d:SR//keyD d=U}
noncomputable instance kdDec:DecidableEq KD:=λ_ _=>Classical.propDecidable _
def bv(prog:Tg)(w:TN):HeapKind prog w KD where
 is:=λh k a=>∃as,Vq h (.ref a) k.1 as
 hash:=λk=>l7 w k.1
 draws:=λk=>Qb k.1
 room:=λA=>A.units+8<cLine
 inj:=λ#[_,r] #[_,f]=>Subtype.ext (Vq.unique r _ _ f).1
 keeps:=λ{h l k a d o es m} #[as,r] j hd i=>#[as,qA j hd i k.1 _ _ (cW k.2).1 r]
 pyHash:=λ{A E s k a Q} g #[as,r] q=>xz k.1 _ as A s Q (cW k.2).1 r (by let:=(cW k.2).2;ext) q
 eqBool:=λ{A E s x y a b Q} g #[as,r] #[bs,f] q=>SeqAt.eqAt_reads x.1 y.1 A s _ _ as bs r f (sU _ (cW x.2).1) (sU _ (cW y.2).1) (by let:=(cW x.2).2;ext) prog w E Q (by
  haveI:Decidable (x.1=y.1):=Classical.propDecidable _
  rw[BM (cW x.2).1 (cW y.2).1];by_cases e:x=y
  .rw[a6 e]at q;rw[a6 (eh Subtype.val e)];show q
  .rw[a7 e]at q;rw[a7 λz=>e (Subtype.ext z)];show q)
 quiet:=λ{A E s k a Q} #[as,r] q=>tP 8 k.1 _ as A s Q (cW k.2).1 r (cW k.2).2 q
def Rx(a:J)(xs:G (KD×J×V))(w:TN)(h:Heap):Prop:=
 (xs.length<=S8/\(a==UE)=SW/\(xs.map (·.1)).Nodup)/\∃o es b,h.get? a=M o/\o.ExactDict/\o.data=.dict es b/\Paired (λ(x:KD×J×V) (e:UM)=>e.hash=l7 w x.1.1/\e.key=.ref x.2.1/\RelV x.2.2 e.val) xs es.toList
abbrev DkO(a:J)(xs:G (KD×J×V)):HO:=.exw (Rx a xs)
abbrev PrD(O:a5)(K:Bn)(H:Hp):G (KD×J×V)->G (D×D)->Prop:=
 Paired λx a=>x.1.1=a.1/\L3.DV O K H (.ref x.2.1) a.1/\L3.DV O K H x.2.2 a.2
end LD
namespace L10
open PySem L2 L3
inductive AV where
 |fz (d:D)
 |rf (i:Nat)
inductive SV where
 |fz (d:D)
 |rf (i:Nat)
 |tp (l:G AV)
def AV.sv:AV->SV
 |.fz d=>.fz d
 |.rf i=>.rf i
inductive Cell where
 |lst (xs:G SV)
 |VI (kvs:G (bz×SV))
 |obj (C:Str) (fs:G (Str×SV))
 |dd (kvs:G (D×D))
 |dead
abbrev aI:=G Cell
abbrev aH:=G (I SV)
inductive RS(α:Type) where
 |ok (a:α) (ω:aI)
 |er (x:Xc) (ω:aI)
 |bad
def RS.bind(r:RS α)(f:α->aI->RS β):RS β:=match r with
 |.ok a b=>f a b
 |.er x b=>.er x b
 |.bad=>.bad
def RS.T6(b:aI):I α->RS α
 |some a=>.ok a b
 |none=>.bad
theorem RS.bind_ok(a:α)(b:aI)(f:α->aI->RS β):(RS.ok a b).bind f=f a b:=W
abbrev eJ:=@RS.bind_ok
def Lv(α:G J)(a:aI):a5:=λb=>∃(i:Nat) (c:Cell),α[i]?=M b/\a[i]?=M c/\c≠Cell.dead
def ow(B:a5)(α:G J)(a:aI):a5:=λb=>B b\/Lv α a b
section
variable(O:a5)(K:Bn)(H:Hp)(Z:cb SU)
def AOk(v:V):AV->Prop
 |.fz d=>DV O K H v d
 |.rf i=>∃a,Z[i]?=M a/\v=.ref a
def Wz(v:V):SV->Prop
 |.fz d=>DV O K H v d
 |.rf i=>∃a,Z[i]?=M a/\v=.ref a
 |.tp l=>∃a xs,v=.ref a/\XW O K H a xs/\Paired (AOk O K H Z) xs l
abbrev Wo:G V->G SV->Prop:=Paired (Wz O K H Z)
def COk(a:J):Cell->Prop
 |.lst xs=>∃d,H a=M (.lst d)/\Wo O K H Z d xs
 |.VI b=>∃ws:G (bz×V),H a=M (.dK ws)/\Paired (λ(p:bz×V) (q:bz×SV)=>p.1=q.1/\Wz O K H Z p.2 q.2) ws b
 |.obj C fs=>∃e f ws,UC K T3 C=M (M (.ref e))/\H a=M (.ins e f ws)/\Paired (λ(p:Str×V) (q:Str×SV)=>p.1=q.1/\Wz O K H Z p.2 q.2) ws fs
 |.dd b=>∃xs,H a=M (LD.DkO a xs)/\LD.PrD O K H xs b
 |.dead=>True
def VX(a:L2.St)(b:aH):Prop:=a.length=b.length/\∀(i:Nat) (x:SV),b[i]?=M (M x)->∃v,a[i]?=M (M v)/\Wz O K H Z v x
end
structure TK(B:a5)(K:Bn)(H:Hp)(α:G J)(ω:aI):Prop where
 len:α.length=ω.length
 nd:∀(i j:Nat) (a:J),α[i]?=M a->α[j]?=M a->i=j
 bn:∀a,B a->H a≠S
 ba:∀a,B a->∀i:Nat,α[i]?≠M a
 al:∀(i:Nat) (a:J),α[i]?=M a->H a≠S
 YQ:∀(i:Nat) (a:J) (c:Cell),α[i]?=M a->ω[i]?=M c->COk (ow B α ω) K H α a c
structure Ve(α:G J)(ω:aI)(H:Hp)(α':G J)(ω':aI)(H':Hp):Prop where
 pre:∀(i:Nat) (a:J),α[i]?=M a->α'[i]?=M a
 kp:∀b o,H b=M o->¬Lv α ω b->H' b=M o
 lv:∀b,Lv α' ω' b->Lv α ω b\/H b=S
section
variable{B O Q:a5}{K:Bn}{E:XK}{H H' S N:Hp}{Z Y U T:cb SU}{L X t ω2:aI}{σ:L2.St}{ρ:aH}{v:V}
theorem Ve.refl:Ve Z L H Z L H:=#[λ_ _ h=>h,λ_ _ h _=>h,λ_ h=>.inl h]
def Ve.trans(a:Ve Z L H U t S)(b:Ve U t S T ω2 N):Ve Z L H T ω2 N:=by
 let d:∀b o,H b=M o->¬Lv Z L b->¬Lv U t b:=λb o h n z=>(a.lv b z).elim n λq=>by simp_all
 show#[λi p h=>b.pre i p (a.pre i p h),λp o h n=>b.kp p o (a.kp p o h n) (d p o h n),λp h=>?_];rcases b.lv p h with h|h
 .show a.lv p h
 .cases q:H p with
  |none=>simp_all
  |some o=>show .inl (Classical.byContradiction λn=>?_);rw[a.kp p o q n]at h;ext h
theorem Ve.same(s:U7 H H'):Ve Z L H Z L H':=#[λ_ _ h=>h,λb o h _=>s b o h,λ_ h=>.inl h]
theorem Ve.ev(e:Ve Z L H Y X H'):Ev (ow B Z L) H (ow B Y X) H':=λb o h n=>
 #[e.kp b o h λz=>n (.inr z),λz=>z.elim (λq=>n (.inl q)) λq=>(e.lv b q).elim (λq=>n (.inr q)) λq=>by simp_all]
def AOk.ev(e:Ev O H Q H')(p:∀(i:Nat) (a:J),Z[i]?=M a->Y[i]?=M a)(h:AOk O K H Z v x):AOk Q K H' Y v x:=by
 cases x with
 |fz d=>show DV.ev e h
 |rf i=>let(a,h1,b):=h;show#[a,p i a h1,b]
def Wz.ev(e:Ev O H Q H')(p:∀(i:Nat) (a:J),Z[i]?=M a->Y[i]?=M a)(h:Wz O K H Z v x):Wz Q K H' Y v x:=by
 cases x with
 |fz d=>show DV.ev e h
 |rf i=>let(a,h1,b):=h;show#[a,p i a h1,b]
 |tp l=>let(a,xs,h1,b,f):=h;show#[a,xs,h1,b.ev e,Paired.WU f λ_ _ q=>q.ev e p]
theorem Wz.VW(e:Ve Z L H Y X H')(h:Wz (ow B Z L) K H Z v x):Wz (ow B Y X) K H' Y v x:=h.ev e.ev e.pre
theorem Wo.VW(e:Ve Z L H Y X H')(h:Wo (ow B Z L) K H Z vs xs):Wo (ow B Y X) K H' Y vs xs:=Paired.WU h λ_ _ q=>q.VW e
theorem VX.VW(e:Ve Z L H Y X H')(h:VX (ow B Z L) K H Z σ ρ):VX (ow B Y X) K H' Y σ ρ:=#[h.1,λi x q=>let#[v,h1,a]:=h.2 i x q;#[v,h1,a.VW e]]
def COk.ev(e:Ev O H Q H')(p:∀(i:Nat) (a:J),Z[i]?=M a->Y[i]?=M a)(g:∀o,H a=M o->H' a=M o)(h:COk O K H Z a c):COk Q K H' Y a c:=by
 cases c with
 |lst xs=>let(l,h1,b):=h;show#[l,g _ h1,Paired.WU b λ_ _ q=>q.ev e p]
 |VI j=>let(d,h1,b):=h;show#[d,g _ h1,Paired.WU b λ_ _ q=>#[q.1,q.2.ev e p]]
 |obj C fs=>let(f,m,d,h0,h1,b):=h;show#[f,m,d,h0,g _ h1,Paired.WU b λ_ _ q=>#[q.1,q.2.ev e p]]
 |dd j=>let(xs,h1,b):=h;show#[xs,g _ h1,Paired.WU b λ_ _ q=>#[q.1,q.2.1.ev e,q.2.2.ev e]]
 |dead=>trivial
theorem TK.Zs(s:TK B K H Z L):jI (ow B Z L) H:=λa h z=>z.elim (λq=>s.bn a q h) λ#[i,c,q,_]=>s.al i a q h
theorem TK.owd(s:TK B K H Z L):∀a,ow B Z L a->H a≠CL:=λa z h=>s.Zs a h z
def TK.grow(s:TK B K H Z L)(e:U7 H H'):TK B K H' Z L:=by let n:∀a,H a≠CL->H' a≠CL:=λa h z=>h (e.free z);show#[s.len,s.nd,λa h=>n a (s.bn a h),s.ba,λi a h=>n a (s.al i a h),λi a c h1 b=>(s.YQ i a c h1 b).ev (Ev.grow e) (λ_ _ h=>h) λo h=>e _ _ h]
def TK.at(s:TK B K H Z L){i:Nat}(h:L[i]?=M c):∃a,Z[i]?=M a:=by let:i<L.length:=(SK.mp h).1;rw[<-s.len]at this;simp_all
theorem TK.abz(s:TK B K H Z L){i:Nat}(h:Z[i]?=M a):¬B a:=λz=>s.ba a z i h
def vF{i:Nat}{c g:Cell}(h:L[i]?=M c)(l:c≠.dead)(m:g≠.dead){b:J}:Lv Z (L.set i g) b↔Lv Z L b:=by
 constructor
 .rintro⟨j,d,h1,a,f⟩
  rcases bq a with⟨rfl,rfl⟩|⟨_,a⟩
  .show#[j,c,h1,h,l]
  .show#[j,d,h1,a,f]
 .rintro⟨j,d,h1,a,f⟩
  by_cases e:j=i
  .subst e;show#[j,g,h1,by rw[Vv (SK.mp h).1],m]
  .show#[j,d,h1,by rw[VQ (λz=>e z.symm)];show a,f]
def J4(h:L[i]?=M c)(a:c≠.dead)(d:o≠.dead):ow B Z (L.set i o)=ow B Z L:=by funext b;show propext #[λz=>z.imp id (vF h a d).mp,λz=>z.imp id (vF h a d).mpr]
theorem Ve.put(j:Z[i]?=M a)(h:L[i]?=M c)(d:c≠.dead)(f:c'≠.dead):Ve Z L H Z (L.set i c') (upd H a o):=
 #[λ_ _ h=>h,λb g q n=>by let z:b≠a:=λe=>n #[i,c,by simp_all,h,d];rw[av z];show q,λb z=>.inl ((vF h d f).mp z)]
def TK.put(s:TK B K H Z L)(k:Z[i]?=M a)(h:L[i]?=M c)(g:c≠.dead)(l:c'≠.dead)(new:COk (ow B Z L) K (upd H a o) Z a c'):TK B K (upd H a o) Z (L.set i c'):=by
 let e:Ve Z L H Z (L.set i c') (upd H a o):=Ve.put k h g l;let n:∀b,H b≠CL->upd H a o b≠CL:=λb h=>by
  by_cases z:b=a
  .subst z;rw[ay];simp
  .rw[av z];show h
 show#[by rw[UR];show s.len,s.nd,λb h=>n b (s.bn b h),s.ba,λj b h=>n b (s.al j b h),λj b d h1 f=>?_];rcases bq f with⟨rfl,rfl⟩|⟨m,f⟩
 .rw[k]at h1;ext h1;rw[J4 h g l];show new
 .show(s.YQ j b d h1 f).ev e.ev e.pre λu q=>by rw[av (λz=>m (s.nd j i a (by simp_all) k))];show q
theorem tm{i:Nat}{a:J}{c:Cell}{o:HO}(d:Z[i]?=M a)(h:L[i]?=M c)(b:c≠.dead):Ev (ow B Z L) H (ow B Z L) (upd H a o):=Ev.mut (.inr #[i,c,d,h,b]) o
def aK{Z:Type}{l:G Z}{x y:Z}{i:Nat}(h:(l++[x])[i]?=M y):l[i]?=M y\/(i=l.length/\y=x):=by
 by_cases hi:i<l.length
 .rw[Ti hi]at h;show .inl h
 .rw[Tr ()]at h
  cases q:i - l.length with
  |zero=>rw[q]at h;ext h;show .inr #[by ext,W]
  |succ n=>rw[q]at h;ext h
def eZ{Z:Type}{l:G Z}{x y:Z}{i:Nat}(h:l[i]?=M y):(l++[x])[i]?=M y:=by rw[Ti (SK.mp h).1];show h
def aG:(l++[x])[l.length]?=M x:=by simp
def nM(f:Z.length=L.length)(h:Lv (Z++[p]) (L++[c]) b):Lv Z L b\/b=p:=by
 let(i,d,h1,a,e):=h;rcases aK h1 with h1|⟨e1,e2⟩
 .rcases aK a with a|⟨e1,e2⟩
  .show .inl #[i,d,h1,a,e]
  simp_all
 .show .inr e2
theorem Ve.Yg(d:Z.length=L.length)(s:U7 H H')(f:H p=CL):Ve Z L H (Z++[p]) (L++[c]) H':=
 #[λi a h=>eZ h,λb u q _=>s b u q,λb z=>(nM d z).imp id λe=>by simp_all]
def TK.Yg(s:TK B K H Z L)(e:U7 H H')(g:H p=CL)(l:H' p≠CL)(new:COk (ow B (Z++[p]) (L++[c])) K H' (Z++[p]) p c):TK B K H' (Z++[p]) (L++[c]):=by
 let ev:Ve Z L H (Z++[p]) (L++[c]) H':=Ve.Yg s.len e g;let n:∀b,H b≠CL->H' b≠CL:=λb h z=>h (e.free z);show#[by rw[SQ,SQ,s.len];rfl,λi j a h1 f=>?_,λa h=>n a (s.bn a h),λa h i q=>?_,λi a h=>?_,λi a d h1 f=>?_]
 .rcases aK h1 with g1|⟨e1,e2⟩<;>rcases aK f with g2|⟨e3,e4⟩
  .show s.nd i j a g1 g2
  .show b9 (by rw[e4];show g) (s.al i a g1)
  .show b9 (by rw[e2];show g) (s.al j a g2)
  .omega
 .rcases aK q with q|⟨_,e2⟩
  .show s.ba a h i q
  .subst e2;show s.bn a h g
 .rcases aK h with h|⟨_,e2⟩
  .show n a (s.al i a h)
  simp_all
 .rcases aK f with f|⟨e1,e2⟩
  .rcases aK h1 with h1|⟨e1,_⟩
   .show(s.YQ i a d h1 f).ev ev.ev ev.pre λo q=>e _ _ q
   .let:=(SK.mp f).1;let:=s.len;ext
  .rcases aK h1 with h1|⟨_,e3⟩
   .let:=(SK.mp h1).1;let:=s.len;ext
   simp_all
def WS(K:Bn)(E:XK)(B:a5)(H:Hp)(Z:G J)(L:aI)(P:A->G J->aI->Hp->Prop):RS A->Prop
 |.ok a X=>∀Y H',Ve Z L H Y X H'->TK B K H' Y X->P a Y X H'
 |.er x X=>∀c b Y H',Ve Z L H Y X H'->TK B K H' Y X->XOk K (ow B Y X) H' c b x->E c b H'
 |.bad=>False
def WS.from(e:Ve Z L H U t S)(h:WS K E B H Z L P r):WS K E B S U t P r:=by
 cases r with
 |ok a ω2=>show λT N e2 b=>h T N (e.trans e2) b
 |er x ω2=>show λc d T N e2 b=>h c d T N (e.trans e2) b
 |bad=>show h
def WS.bind(h:WS K E B H Z L P (r.bind k)):WS K E B H Z L (λa U t S=>WS K E B S U t P (k a t)) r:=by
 cases r with
 |ok a t=>show λU S e1 _=>WS.from e1 h
 |er x t=>show h
 |bad=>show h
def WS.T6(h:WS K E B H Z L P ((RS.T6 L o).bind k)):∃a,o=M a/\WS K E B H Z L P (k a L):=by
 cases o with
 |none=>show h.elim
 |some a=>show#[a,W,h]
def WS.imp(h:WS K E B H Z L P r)(g:∀a Y X H',Ve Z L H Y X H'->TK B K H' Y X->P a Y X H'->P' a Y X H'):WS K E B H Z L P' r:=by
 cases r with
 |ok a t=>show λU S e1 b=>g a U t S e1 b (h U S e1 b)
 |er x t=>show h
 |bad=>show h
theorem WS.now(s:TK B K H Z L)(h:WS K E B H Z L P (.ok a L)):P a Z L H:=h Z H .refl s
end
abbrev bQ:=aH->aI->RS SV
abbrev nJ:=aH->aI->RS Bool
abbrev AC:=aH->aI->RS (G SV)
def cg(K:Bn)(E:XK)(t:TE)(f:bQ):Prop:=
 ∀(B:a5) (d:L2.St) (H:Hp) (α:G J) (g:aI) (h:aH) (Q:VK),TK B K H α g->VX (ow B α g) K H α d h->WS K E B H α g (λx a b e=>∀v,Wz (ow B a b) K e a v x->Q v e) (f h g)->t d H Q
def tU(K:Bn)(E:XK)(t:TT)(f:nJ):Prop:=
 ∀(B:a5) (a:L2.St) (H:Hp) (α:G J) (e:aI) (g:aH) (Q:Bool->Hp->Prop),TK B K H α e->VX (ow B α e) K H α a g->WS K E B H α e (λb _ _ d=>Q b d) (f g e)->t a H Q
def G3(K:Bn)(E:XK)(t:TA)(f:AC):Prop:=
 ∀(B:a5) (d:L2.St) (H:Hp) (α:G J) (g:aI) (h:aH) (Q:G V->Hp->Prop),TK B K H α g->VX (ow B α g) K H α d h->WS K E B H α g (λxs a b e=>∀i,Wo (ow B a b) K e a i xs->Q i e) (f h g)->t d H Q
section
variable{B O P:a5}{K:Bn}{E:XK}{H H' U H2:Hp}{Z T Y M:cb SU}{L N A ω2:aI}{X:L2.St}{ρ:aH}{v:V}
def JV:I SV->I PV
 |some (.fz d)=>cL (.fz d)
 |_=>S
def dB(ρ:aH):aE:=ρ.map JV
def ql{i:Nat}(h:(dB ρ)[i]?=cL (cL x)):∃d,x=.fz d/\ρ[i]?=cL (cL (.fz d)):=by
 unfold dB at h;rw[S3]at h;cases q:ρ[i]? with
 |none=>simp_all
 |some o=>
  rw[q]at h;let a:=Tx h;unfold JV at a;split at a
  .ext a;show#[_,W,W]
  .ext a
def Bq(s:TK B K H Z L)(a:VX (ow B Z L) K H Z X ρ):Rl K (ow B Z L) H (ow B Z L) X H (dB ρ):=by
 show#[U7.refl _,λ_ h=>h,s.owd,s.Zs,by ext dB;rw[SI];show a.1,λi x h=>?_,λi j ds es w h=>?_]
 .let(d,rfl,b):=ql h;let(v,h1,f):=a.2 i _ b;show#[v,h1,f]
 .let(d,e,_):=ql h;ext e
def iB(L:aI):RV->RS SV
 |.fz d=>.ok (.fz d) L
 |.ow ds=>.ok (.rf L.length) (L++[.lst (ds.map .fz)])
abbrev PQ(B:a5)(K:Bn)(Q:VK):SV->G J->aI->Hp->Prop:=λx T N H'=>∀v,Wz (ow B T N) K H' T v x->Q v H'
theorem kR(O:a5)(Z:G J):∀{a:G V} {ds:G D},UN O K H a ds->Wo O K H Z a (ds.map .fz)
 |_,_,.nil=>.nil
 |_,_,.cons h t=>.cons h (kR O Z t)
theorem vU:∀{a:G V} {ds:G D},Wo O K H Z a (ds.map .fz)->UN O K H a ds
 |_,[],.nil=>.nil
 |_,_::_,.cons h t=>.cons h (vU t)
def mW(s:TK B K H Z L)(w:WS K E B H Z L (PQ B K Q) (iB L (.ow ds)))(e:U7 H H')(a:H p=S)(h:H' p=cL (.lst o))(hd:UN P K H' o ds)(d:∀b,ow B Z L b->P b)(f:P p):Q (.ref p) H':=by
 let sub:∀b,ow B (Z++[p]) (L++[.lst (ds.map .fz)]) b->P b:=λb z=>z.elim (λq=>d b (.inl q)) λq=>(nM s.len q).elim (λq=>d b (.inr q)) λq=>by simp_all
 show w (Z++[p]) H' (Ve.Yg s.len e a) (s.Yg e a (by rw[h];simp) #[o,h,kR _ _ (hd.ev (Ev.sub sub))]) (.ref p) #[p,by rw[<-s.len];show aG,W]
def BP(s:TK B K H Z L)(w:WS K E B H Z L (PQ B K Q) (iB L o)):Fin (ow B Z L) K H Q o:=by
 cases o with
 |fz d=>show λv H' e a=>w Z H' (Ve.same e) (s.grow e) v a
 |ow ds=>show λp g H' e f h a=>mW s w e f h a (λb z=>.inl z) (.inr W)
def am(f:FE):bQ:=λρ L=>match f (dB ρ)with
 |.ok (.fz d,_)=>.ok (.fz d) L
 |.ok (.ow ds,_)=>iB L (.ow ds)
 |.ok (.pl _,_)=>.bad
 |.er x=>.er x L
 |.bad=>.bad
def E8(h:EO K E t f):cg K E t (am f):=by
 intro B X H Z L ρ Q s g w;show h (ow B Z L) H (ow B Z L) X H (dB ρ) Q (Bq s g) ?_;unfold am at w;cases q:f (dB ρ)with
 |bad=>rw[q]at w;show w.elim
 |er x=>rw[q]at w;show λc o H' e k=>w c o Z H' (Ve.same e) (s.grow e) k
 |ok r=>
  let(pv,b):=r;rw[q]at w;intro P v H' e R p;cases pv with
  |fz d=>show w Z H' (Ve.same R.same) (s.grow R.same) v (DV.ev (Ev.sub R.bo) p)
  |ow ds=>let(a,u,rfl,h1,m,l,j,n):=p;show mW s w R.same m l j R.bo h1
  |pl i=>show w.elim
def jK(f:FT):nJ:=λρ L=>match f (dB ρ)with
 |.ok (b,_)=>.ok b L
 |.er x=>.er x L
 |.bad=>.bad
def Dl(h:Zg K E t f):tU K E t (jK f):=by
 intro B X H Z L ρ Q s d w;show h (ow B Z L) H (ow B Z L) X H (dB ρ) Q (Bq s d) ?_;unfold jK at w;cases q:f (dB ρ)with
 |bad=>rw[q]at w;show w.elim
 |er x=>rw[q]at w;show λc g H' e k=>w c g Z H' (Ve.same e) (s.grow e) k
 |ok r=>let(b,a):=r;rw[q]at w;show λP H' e R=>w Z H' (Ve.same R.same) (s.grow R.same)
def aX(i:Nat):bQ:=λρ L=>match ρ[i]? with
 |some (cL x)=>.ok x L
 |_=>.bad
def Fu:cg K E (gO i) (aX i):=by
 intro B X H Z L ρ Q s a w;unfold aX at w;cases q:ρ[i]? with
 |none=>rw[q]at w;show w.elim
 |some o=>
  cases o with
  |none=>rw[q]at w;show w.elim
  |some x=>rw[q]at w;let(v,h1,b):=a.2 i x q;show#[v,h1,WS.now s w v b]
def OT(K:Bn)(C:Str)(fs:G Str):Prop:=∃a,UC K T3 C=cL (cL (.ref a))/\Cls K a/\∀f∈fs,C2 K a f
def aq{Z a:Type}(f:Z->I a):G Z->I (G a)
 |[]=>cL []
 |x::r=>match f x with
  |some y=>(match aq f r with
   |some ys=>cL (y::ys)
   |none=>S)
  |none=>S
def j5:Nat->aI->SV->I D
 |_,_,.fz d=>cL d
 |0,_,_=>S
 |n+1,L,.rf i=>match L[i]? with
  |some (.lst xs)=>(aq (j5 n L) xs).map .list
  |_=>S
 |n+1,L,.tp l=>(aq (λx=>j5 n L x.sv) l).map .tuple
theorem bV{Z a:Type}{f:Z->I a}{R:V->Z->Prop}{S:V->a->Prop}(h:∀v x y,R v x->f x=cL y->S v y):∀{c:G V} {xs:G Z} {ys:G a},Paired R c xs->aq f xs=cL ys->Paired S c ys
 |_,_,_,.nil,e=>by ext e;show .nil
 |_,_,_,.cons (b:=x) (l₂:=xs) r t,e=>by
  unfold aq at e;cases q:f x with
  |none=>simp_all
  |some y=>
   rw[q]at e;dsimp only at e;cases d:aq f xs with
   |none=>simp_all
   |some ys=>rw[d]at e;ext e;show .cons (h _ _ _ r q) (bV h t d)
def jQ:∀{b:G V} {ds:G D},Paired (DV O K H) b ds->UN O K H b ds:=by
 intro _ _ p
 induction p with
 |nil=>show .nil
 |cons h t a=>show .cons h a
theorem IM:Ev O H Zs H:=Ev.sub λ_ z=>z.elim
theorem jy(s:TK B K H Z L):∀(n:Nat) {v:V} {x:SV} {d:D},Wz (ow B Z L) K H Z v x->j5 n L x=cL d->DV Zs K H v d
 |n,v,.fz m,d,h,e=>by
  let f:cL m=cL d:=by ext n<;>show e
  ext f;show DV.ev IM h
 |0,v,.rf i,d,h,e=>by ext e
 |0,v,.tp l,d,h,e=>by ext e
 |n+1,v,.rf i,d,h,e=>by
  let(a,j,rfl):=h;unfold j5 at e;cases q:L[i]? with
  |none=>simp_all
  |some c=>
   rw[q]at e;cases c with
   |lst xs=>
    dsimp only at e;cases g:aq (j5 n L) xs with
    |none=>simp_all
    |some ds=>rw[g]at e;ext e;let(o,h1,b):=s.YQ i a _ j q;show .lst #[WI.of h1,λz=>z.elim] (jQ (bV (R:=Wz (ow B Z L) K H Z) (λv x y r e=>jy s n r e) b g))
   |_=>ext e
 |n+1,v,.tp l,d,h,e=>by
  let(a,xs,rfl,h1,b):=h;unfold j5 at e;cases g:aq (λx=>j5 n L x.sv) l with
  |none=>simp_all
  |some ds=>rw[g]at e;ext e;show .tup (h1.ev IM) (jQ (bV (λv x y r e=>jy s n (by ext x<;>show r) e) b g))
def lN:SV->I D
 |.fz d=>cL d
 |_=>S
def sh(L:aI):SV->I D
 |.fz d=>cL d
 |.rf i=>match L[i]? with
  |some (.lst xs)=>(aq lN xs).map .list
  |_=>S
 |.tp _=>S
def Cb(s:TK B K H Z L)(h:Wz (ow B Z L) K H Z v x)(e:sh L x=cL d):DX (ow B Z L) K H v d:=by
 cases x with
 |fz f=>ext e;show DV.x h
 |tp l=>ext e
 |rf i=>
  let(a,m,rfl):=h;unfold sh at e;dsimp only at e;cases q:L[i]? with
  |none=>simp_all
  |some c=>
   rw[q]at e;cases c with
   |lst xs=>
    dsimp only at e;cases g:aq lN xs with
    |none=>simp_all
    |some ds=>
     rw[g]at e;ext e;let(j,h1,b):=s.YQ i a _ m q;show#[a,j,W,WI.of h1,jQ (bV (λv x y r e=>?_) b g)];cases x with
     |fz d=>ext e;show r
     |rf i=>ext e
     |tp l=>ext e
   |_=>ext e
def AG:D->Bool
 |.none=>SJ
 |.bool _=>SJ
 |.int _=>SJ
 |.str _=>SJ
 |_=>SW
def F4(h:AG d=SJ)(a:DV O K H v d):DV P K H' v d:=by
 cases a with
 |Wa=>show .Wa
 |bl b=>show .bl b
 |int i=>show .int i
 |str x=>show .str x
 |tup _ _=>ext h
 |lst _ _=>ext h
def jJ(L:aI):RV->RS SV
 |.fz d=>if AG d=SJ then .ok (.fz d) L else .bad
 |.ow _=>.bad
def Fe(s:TK B K H Z L)(w:WS K E B H Z L (PQ B K Q) (jJ L o)):Fin Zs K H Q o:=by
 cases o with
 |fz d=>
  let w:WS K E B H Z L (PQ B K Q) (if AG d=SJ then RS.ok (SV.fz d) L else RS.bad):=w;by_cases z:AG d=SJ
  .rw[ai z]at w;show λv H' e a=>w Z H' (Ve.same e) (s.grow e) v (F4 z a)
  .rw[ak z]at w;show w.elim
 |ow ds=>show w.elim
theorem CY:jI Zs H:=λ_ _ z=>z
def oJ(f:D->D->I RV)(x y:SV)(L:aI):RS SV:=match sh L x,sh L y with
 |some e,cL b=>(RS.T6 L (f e b)).bind λd A=>iB A d
 |_,_=>(RS.T6 L (j5 6 L x)).bind λe A=>(RS.T6 A (j5 6 A y)).bind λb ω2=>(RS.T6 ω2 (f e b)).bind λd a=>jJ a d
def wQ(m:iG K r f)(s:TK B K H Z L)(l:Wz (ow B Z L) K H Z x a)(j:Wz (ow B Z L) K H Z y b)(w:WS K E B H Z L (PQ B K Q) (oJ f a b L)):r x y H Q:=by
 let n:WS K E B H Z L (PQ B K Q) ((RS.T6 L (j5 6 L a)).bind λp A=>(RS.T6 A (j5 6 A b)).bind λd ω2=>(RS.T6 ω2 (f p d)).bind λo h=>jJ h o)->r x y H Q:=λw=>by let(p,g,w):=w.T6;let(d,e,w):=w.T6;let(o,i,w):=w.T6;show m Zs H x y p d o Q CY (DV.x (jy s 6 l g)) (DV.x (jy s 6 j e)) i (Fe s w)
 unfold oJ at w;cases g:sh L a with
 |none=>simp_all
 |some p=>
  cases e:sh L b with
  |none=>simp_all
  |some d=>rw[g,e]at w;let(o,i,w):=w.T6;show m _ H x y p d o Q s.Zs (Cb s l g) (Cb s j e) i (BP s w)
def AK(f:D->D->I RV)(a fb:bQ):bQ:=λρ L=>(a ρ L).bind λx A=>(fb ρ A).bind λy ω2=>oJ f x y ω2
def Eh(j:iG K r f)(k:cg K E C fa)(c:cg K E o fb):cg K E (yS r C o) (AK f fa fb):=by intro B X H Z L ρ Q s a w;show k B X H Z L ρ _ s a (w.bind.imp λx Y A U e1 g d v h=>?_);show c B X U Y A ρ _ g (a.VW e1) (d.bind.imp λy M ω2 H2 e2 e b u i=>?_);show wQ j e (h.VW e2) i b
def Iw:SV->I Bool
 |.fz (.bool b)=>cL b
 |_=>S
def GP(e:Iw x=cL b)(h:Wz O K H Z v x):v=.bl b:=by
 unfold Iw at e;split at e
 .ext e;ext h;rfl
 .ext e
def cI(a:bQ):nJ:=λρ L=>(a ρ L).bind λx A=>RS.T6 A (Iw x)
def u3(c:cg K E o C):tU K E (yd o) (cI C):=by
 intro B X H Z L ρ Q s d w;show c B X H Z L ρ _ s d (w.bind.imp λx Y A U e1 e a v f=>?_);cases q:Iw x with
 |none=>rw[q]at a;show a.elim
 |some b=>rw[q]at a;show#[b,GP q f,WS.now e a]
theorem tJ(a:cg K E o C):tU K E (tB o) (cI C):=u3 a
def wE(a fb:nJ):nJ:=λρ L=>(a ρ L).bind λb A=>if b=SJ then fb ρ A else .ok SW A
def Nr(a fb:nJ):nJ:=λρ L=>(a ρ L).bind λb A=>if b=SJ then .ok SJ A else fb ρ A
def uJ(a:nJ):nJ:=λρ L=>(a ρ L).bind λb A=>.ok (!b) A
def Gk(h1:tU K E t f)(h:tU K E u g):tU K E (Lk t u) (wE f g):=by
 intro B X H Z L ρ Q s d w;show h1 B X H Z L ρ _ s d (w.bind.imp λb Y A U e1 e a=>?_);cases b with
 |true=>show h B X U Y A ρ Q e (d.VW e1) a
 |false=>show WS.now e a
def MM(h1:tU K E t f)(h:tU K E u g):tU K E (QL t u) (Nr f g):=by
 intro B X H Z L ρ Q s d w;show h1 B X H Z L ρ _ s d (w.bind.imp λb Y A U e1 e a=>?_);cases b with
 |true=>show WS.now e a
 |false=>show h B X U Y A ρ Q e (d.VW e1) a
def Gp(h1:tU K E t f):tU K E (HF t) (uJ f):=by intro B X H Z L ρ Q s d w;show h1 B X H Z L ρ _ s d (w.bind.imp λb Y A U e1 e a=>WS.now e a)
def C6:nJ:=λ_ L=>.ok SJ L
theorem Ed:tU K E uV C6:=λB X H Z L ρ Q s a w=>WS.now s w
def dH:AC:=λ_ L=>.ok [] L
def aQ(b:bQ)(a:AC):AC:=λρ L=>(b ρ L).bind λx A=>(a ρ A).bind λxs ω2=>.ok (x::xs) ω2
theorem GF:G3 K E jd dH:=λB X H Z L ρ Q s a w=>WS.now s w [] .nil
def DU(c:cg K E o C)(i:G3 K E tr fr):G3 K E (dr o tr) (aQ C fr):=by intro B X H Z L ρ Q s b w;show c B X H Z L ρ _ s b (w.bind.imp λx Y A U e1 g e v h=>?_);show i B X U Y A ρ _ g (b.VW e1) (e.bind.imp λxs M ω2 H2 e2 f d j a=>?_);show WS.now f d (v::j) (.cons (h.VW e2) a)
def Qg:SV->I AV
 |.fz d=>cL (.fz d)
 |.rf i=>cL (.rf i)
 |.tp _=>S
def QO(xs:G SV):I SV:=match aq lN xs with
 |some ds=>cL (.fz (.tuple ds))
 |none=>(aq Qg xs).map .tp
def BZ(a:AC):bQ:=λρ L=>(a ρ L).bind λxs A=>if xs.length<=1000 then RS.T6 A (QO xs)else .bad
def vE(r:Wz O K H Z v x)(e:lN x=cL d):DV O K H v d:=by
 cases x with
 |fz d=>ext e;show r
 |rf i=>ext e
 |tp l=>ext e
def KJ(r:Wz O K H Z v x)(e:Qg x=cL d):AOk O K H Z v d:=by
 cases x with
 |fz d=>ext e;show r
 |rf i=>ext e;show r
 |tp l=>ext e
def Hq(c:G3 K E o C):cg K E (wB o) (BZ C):=by
 intro B X H Z L ρ Q s j w;show c B X H Z L ρ _ s j (w.bind.imp λxs Y A U e1 d a m f=>?_);by_cases hn:xs.length<=1000
 .rw[ai hn]at a
  show#[by rw[f.length];show wg hn,λp i=>?_];let b:U7 U (upd U p (.tup m)):=bw i _;let e:Ve Y A U Y A (upd U p (.tup m)):=Ve.same b;let h:XW (ow B Y A) K (upd U p (.tup m)) p m:=#[WY.of ay,λz=>b9 z (d.Zs p i)];unfold QO at a;cases q:aq lN xs with
  |some ds=>rw[q]at a;show a Y _ e (d.grow b) _ (.tup h (jQ (bV (R:=Wz (ow B Y A) K U Y) (λv x y r g=>(vE r g).ev e.ev) f q)))
  |none=>
   rw[q]at a;dsimp only at a;cases n:aq Qg xs with
   |none=>rw[n]at a;show a.elim
   |some l=>rw[n]at a;show a Y _ e (d.grow b) _ #[p,m,W,h,bV (R:=Wz (ow B Y A) K U Y) (λv x y r g=>(KJ r g).ev e.ev e.pre) f n]
 .rw[ak hn]at a;show a.elim
def Ig(f:G D->I RV)(xs:G SV)(L:aI):RS SV:=match aq (sh L) xs with
 |some ds=>(RS.T6 L (f ds)).bind λb A=>iB A b
 |_=>(RS.T6 L (aq (j5 6 L) xs)).bind λds A=>(RS.T6 A (f ds)).bind λb a=>jJ a b
def zI(f:G D->I RV)(a:AC):bQ:=λρ L=>(a ρ L).bind λxs A=>Ig f xs A
def A5(h:Fo K r f)(c:G3 K E o C):cg K E (AM r o) (zI f C):=by
 intro B X H Z L ρ Q s i w;show c B X H Z L ρ _ s i (w.bind.imp λxs Y A U e1 b a n g=>?_);unfold Ig at a;cases m:aq (sh A) xs with
 |none=>rw[m]at a;let(ds,j,a):=a.T6;let(l,d,a):=a.T6;show h Zs U n ds l Q CY (bV (R:=Wz (ow B Y A) K U Y) (λv x y r e=>DV.x (jy b 6 r e)) g j) d (Fe b a)
 |some ds=>rw[m]at a;let(l,d,a):=a.T6;show h _ U n ds l Q b.Zs (bV (R:=Wz (ow B Y A) K U Y) (λv x y r e=>Cb b r e) g m) d (BP b a)
end
section
variable{B O O':a5}{K:Bn}{E:XK}{H H' S N:Hp}{Z α' X T:cb SU}{ω Y ω1 ω2:aI}{U:L2.St}{ρ:aH}{v:V}
theorem v7:∀{b:G V} {xs:G β} {i:Nat} {x:β},Paired R b xs->xs[i]?=M x->∃v,b[i]?=M v/\R v x
 |_,_,_,_,.nil,e=>by simp at e
 |_,_,0,_,.cons h _,e=>by simp_all
 |_,_,i+1,x,.cons _ t,e=>by let(v,h1,a):=v7 t (by simpa using e);simp_all
def IX{a:G V}(h:Paired R a xs)(e:j8 xs i=M x):∃v,j8 a i=M v/\R v x:=by
 unfold j8 at e⊢;rw[h.length];cases q:Fm xs.length i with
 |none=>simp_all
 |some j=>rw[q]at e;show v7 h e
def Fr:SV->I Int
 |.fz (.int i)=>M i
 |_=>CL
def yo(e:Fr x=M i)(h:Wz O K H Z v x):v=.int i:=by
 unfold Fr at e;split at e
 .ext e;ext h;rfl
 .ext e
def Pc(x y:SV)(ω:aI):RS SV:=match x with
 |.fz _=>oJ dJ x y ω
 |.rf j=>(match ω[j]? with
  |some (.lst xs)=>(RS.T6 ω (Fr y)).bind λi ω1=>RS.T6 ω1 (j8 xs i)
  |_=>.bad)
 |.tp l=>(RS.T6 ω (Fr y)).bind λi ω1=>RS.T6 ω1 ((j8 l i).map AV.sv)
def o8(a fb:bQ):bQ:=λρ ω=>(a ρ ω).bind λx ω1=>(fb ρ ω1).bind λy ω2=>Pc x y ω2
def LF(k:cg K E ta fa)(D:cg K E tb fb):cg K E (yS (OG K) ta tb) (o8 fa fb):=by
 intro B U H Z ω ρ Q s p w;show k B U H Z ω ρ _ s p (w.bind.imp λx X ω1 S e1 t r v e=>?_);show D B U S X ω1 ρ _ t (p.VW e1) (r.bind.imp λy T ω2 N e2 f b u n=>?_);let e:=e.VW e2;unfold Pc at b;cases x with
 |fz d=>show wQ Dn f e n b
 |rf j=>
  let(a,k,rfl):=e;dsimp only at b;cases q:ω2[j]? with
  |none=>rw[q]at b;show b.elim
  |some c=>
   rw[q]at b;cases c with
   |lst xs=>
    let(i,h,b):=WS.T6 b;cases A:j8 xs i with
    |none=>rw[A]at b;show b.elim
    |some x=>rw[A]at b;let(C,h1,o):=f.YQ j a _ k q;let(z,m,g):=IX o A;show .inl #[a,C,i,z,W,yo h n,Xl.of h1,m,WS.now f b z g]
   |_=>show b.elim
 |tp l=>
  let(a,xs,rfl,h1,o):=e;let(i,h,b):=WS.T6 b;cases A:j8 l i with
  |none=>rw[A]at b;show b.elim
  |some x=>rw[A]at b;let(z,m,g):=IX o A;show .inr (.inl #[a,xs,i,z,W,yo h n,h1.1,m,WS.now f b z (by ext x<;>show g)])
def Gr(h:Lv Z (ω.set i .dead) b):Lv Z ω b:=by
 let(j,c,h1,a,d):=h;rcases bq a with⟨rfl,rfl⟩|⟨_,a⟩
 .simp_all
 .show#[j,c,h1,a,d]
theorem Ve.kill:Ve Z ω H Z (ω.set i .dead) H:=#[λ_ _ h=>h,λ_ _ h _=>h,λ_ h=>.inl (Gr h)]
def TK.kill(s:TK B K H Z ω)(i:Nat):TK B K H Z (ω.set i .dead):=by
 let e:Ve Z ω H Z (ω.set i .dead) H:=Ve.kill;show#[by rw[UR];show s.len,s.nd,s.bn,s.ba,s.al,λj b d h1 a=>?_];rcases bq a with⟨rfl,rfl⟩|⟨f,a⟩
 .show trivial
 .show(s.YQ j b d h1 a).ev e.ev e.pre λu q=>q
def TK.acg(s:TK B K H Z ω)(f:Z[i]?=M a):¬ow B Z (ω.set i .dead) a:=by
 rintro(z|⟨j,c,h1,d,b⟩)
 .show s.abz f z
 .let:=s.nd j i a h1 f
  subst this;rcases bq d with⟨_,rfl⟩|⟨e,_⟩
  .show b W
  .show e W
def pA(g:aI->SV->I (D×aI)):aI->G SV->I (G D×aI)
 |ω,[]=>M ([],ω)
 |ω,x::r=>match g ω x with
  |some (d,ω1)=>(match pA g ω1 r with
   |some (ds,ω2)=>M (d::ds,ω2)
   |none=>CL)
  |none=>CL
def frz:Nat->aI->SV->I (D×aI)
 |_,ω,.fz d=>M (d,ω)
 |0,_,_=>CL
 |n+1,ω,.rf i=>match ω[i]? with
  |some (.lst xs)=>(match pA (frz n) ω xs with
   |some (ds,ω1)=>M (.list ds,ω1.set i .dead)
   |none=>CL)
  |_=>CL
 |n+1,ω,.tp l=>match pA (frz n) ω (l.map AV.sv)with
  |some (ds,ω1)=>M (.tuple ds,ω1)
  |none=>CL
theorem qL(a:∀{ω Y:aI} {v:V} {x:SV} {d:D},TK B K H Z ω->Wz (ow B Z ω) K H Z v x->g ω x=M (d,Y)->TK B K H Z Y/\Ve Z ω H Z Y H/\L3.DV (ow B Z Y) K H v d):
  ∀{c:G V} {xs:G SV} {ds:G D} {ω Y:aI},TK B K H Z ω->Wo (ow B Z ω) K H Z c xs->pA g ω xs=M (ds,Y)->TK B K H Z Y/\Ve Z ω H Z Y H/\L3.UN (ow B Z Y) K H c ds
 |_,_,_,ω,Y,s,.nil,e=>by ext e;show#[s,.refl,.nil]
 |_,_,_,ω,Y,s,.cons (b:=x) (l₂:=xs) r t,e=>by
  unfold pA at e;cases q:g ω x with
  |none=>simp_all
  |some p=>
   let(d,ω1):=p;rw[q]at e;dsimp only at e;let(h,e1,l):=a s r q;cases m:pA g ω1 xs with
   |none=>simp_all
   |some i=>let(ds,ω2):=i;rw[m]at e;ext e;let(f,e2,j):=qL a h (Wo.VW e1 t) m;show#[f,e1.trans e2,.cons (l.ev e2.ev) j]
theorem rj:∀{a:G V} {l:G AV},Paired (AOk O K H Z) a l->Wo O K H Z a (l.map AV.sv)
 |_,_,.nil=>.nil
 |_,_,.cons (b:=x) h t=>.cons (by ext x<;>show h) (rj t)
theorem qY:∀(n:Nat) {ω Y:aI} {v:V} {x:SV} {d:D},TK B K H Z ω->Wz (ow B Z ω) K H Z v x->frz n ω x=M (d,Y)->TK B K H Z Y/\Ve Z ω H Z Y H/\L3.DV (ow B Z Y) K H v d
 |n,ω,Y,v,.fz r,d,s,h,e=>by
  let j:M (r,ω)=M (d,Y):=by ext n<;>show e
  ext j;show#[s,.refl,h]
 |0,_,_,v,.rf i,d,s,h,e=>by ext e
 |0,_,_,v,.tp l,d,s,h,e=>by ext e
 |n+1,ω,Y,v,.rf i,d,s,h,e=>by
  let(a,o,rfl):=h;unfold frz at e;cases q:ω[i]? with
  |none=>simp_all
  |some c=>
   rw[q]at e;cases c with
   |lst xs=>
    dsimp only at e;let(t,h1,f):=s.YQ i a _ o q;cases m:pA (frz n) ω xs with
    |none=>simp_all
    |some p=>let(ds,ω1):=p;rw[m]at e;ext e;let(b,e1,g):=qL (λs h e=>qY n s h e) s f m;show#[b.kill i,e1.trans Ve.kill,qV h1 (b.acg o) (g.ev (Ve.kill).ev)]
   |_=>ext e
 |n+1,ω,Y,v,.tp l,d,s,h,e=>by
  let(a,xs,rfl,h1,f):=h;unfold frz at e;cases m:pA (frz n) ω (l.map AV.sv)with
  |none=>simp_all
  |some p=>let(ds,ω1):=p;rw[m]at e;ext e;let(b,e1,g):=qL (λs h e=>qY n s h e) s (rj f) m;show#[b,e1,.tup (h1.ev e1.ev) g]
def ML(x:SV)(ω:aI):RS SV:=match frz 4 ω x with
 |some (d,ω1)=>.ok (.fz d) ω1
 |none=>.bad
def mC(f:bQ):bQ:=λρ ω=>(f ρ ω).bind λx ω1=>ML x ω1
def HJ(h:cg K E t f):cg K E t (mC f):=by
 intro B U H Z ω ρ Q s b w;show h B U H Z ω ρ _ s b (w.bind.imp λx X ω1 S e1 g a v i=>?_);unfold ML at a;cases q:frz 4 ω1 x with
 |none=>rw[q]at a;show a.elim
 |some p=>let(d,ω2):=p;rw[q]at a;let(e,e2,j):=qY 4 g i q;show a X S e2 e v j
def XOk.sub(h:∀b,O' b->O b)(k:XOk K O H c dx x):XOk K O' H c dx x:=by let(h1,fs,g,a):=k;show#[h1,fs,g,λf d e=>let#[g1,v,g2,g3]:=a f d e;#[g1,v,g2,g3.ev (Ev.sub h)]]
def uN(F:FN)(n:Nat)(xs:G SV)(ω:aI):RS SV:=if xs.length=n then(match aq lN xs with
 |some ds=>(match F ds with
  |.ok a=>iB ω a
  |.er x=>.er x ω
  |.bad=>.bad)
 |none=>(RS.T6 ω (aq (j5 6 ω) xs)).bind λds ω1=>(match F ds with
  |.ok a=>jJ ω1 a
  |_=>.bad))else .bad
def gr:RS A->RS A
 |.er _ _=>.bad
 |r=>r
def vW(F:FN)(n:Nat)(a:AC):bQ:=λρ ω=>(a ρ ω).bind λxs ω1=>gr (uN F n xs ω1)
def WS.e0(h:WS K E B H Z ω P (gr r)):WS K E0 B H Z ω P r:=by
 cases r with
 |ok a ω=>show h
 |er x ω=>show h.elim
 |bad=>show h
def FV(s:TK B K H Z ω)(b:Wo (ow B Z ω) K H Z o xs)(w:WS K E B H Z ω (PQ B K Q) (uN F n xs ω)):zj K n F o H Q E:=by
 unfold uN at w;by_cases hn:xs.length=n
 .rw[ai hn]at w
  show#[b.length.trans hn,?_];cases q:aq lN xs with
  |some ds=>
   rw[q]at w;show#[ow B Z ω,ds,s.owd,jQ (bV (R:=Wz (ow B Z ω) K H Z) (λv x y r e=>vE r e) b q),?_];dsimp only at w;cases f:F ds with
   |ok g=>rw[f]at w;show BP s w
   |er x=>rw[f]at w;show λc h H' e k=>w c h Z H' (Ve.same e) (s.grow e) k
   |bad=>rw[f]at w;show w.elim
  |none=>
   rw[q]at w;let(ds,d,w):=WS.T6 w;show#[Zs,ds,λa z=>z.elim,jQ (bV (R:=Wz (ow B Z ω) K H Z) (λv x y r e=>jy s 6 r e) b d),?_];cases f:F ds with
   |ok g=>rw[f]at w;show Fe s w
   |er x=>rw[f]at w;show w.elim
   |bad=>rw[f]at w;show w.elim
 .rw[ak hn]at w;show w.elim
def Fp(c:G3 K E o C):cg K E (qp (zj K n F) [] E0 o) (vW F n C):=by intro B U H Z ω ρ Q s b w;show c B U H Z ω ρ _ s b (w.bind.imp λxs X ω1 S e1 d a f e=>?_);rw[TC];show FV d e (WS.e0 a)
abbrev kO:=G SV->aI->RS SV
def AH(K:Bn)(n:Nat)(F:kO):Sp:=λa H Q E=>a.length=n/\∃(B:a5) (Z:G J) (ω:aI) (xs:G SV),TK B K H Z ω/\Wo (ow B Z ω) K H Z a xs/\WS K E B H Z ω (PQ B K Q) (F xs ω)
def jf(F:kO)(n:Nat)(a:AC):bQ:=λρ ω=>(a ρ ω).bind λxs ω1=>if xs.length=n then gr (F xs ω1)else .bad
def zW(c:G3 K E o C):cg K E (qp (AH K n F) [] E0 o) (jf F n C):=by
 intro B U H Z ω ρ Q s d w;show c B U H Z ω ρ _ s d (w.bind.imp λxs X ω1 S e1 e a f b=>?_);rw[TC];by_cases hn:xs.length=n
 .rw[ai hn]at a;show#[b.length.trans hn,B,X,ω1,xs,e,b,WS.e0 a]
 .rw[ak hn]at a;show a.elim
def gb(ω:aI):SV->I (Nat×G SV)
 |.rf i=>match ω[i]? with
  |some (.lst xs)=>M (i,xs)
  |_=>CL
 |_=>CL
def rL(s:TK B K H Z ω)(b:Wz (ow B Z ω) K H Z v x)(h:gb ω x=M (i,xs)):ω[i]?=M (.lst xs)/\∃a g,Z[i]?=M a/\v=.ref a/\H a=M (.lst g)/\Wo (ow B Z ω) K H Z g xs:=by
 cases x with
 |fz d=>ext h
 |tp l=>ext h
 |rf j=>
  let(a,m,rfl):=b;unfold gb at h;dsimp only at h;cases q:ω[j]? with
  |none=>simp_all
  |some c=>
   rw[q]at h;cases c with
   |lst ys=>let e:=Tx h;ext e;let(g,h1,f):=s.YQ i a _ m q;show#[q,a,g,m,W,h1,f]
   |_=>ext h
def qZ(h:Paired R o xs)(r:R v x):Paired R (o++[v]) (xs++[x]):=by
 induction h with
 |nil=>show .cons r .nil
 |cons a _ b=>show .cons a b
def wC(b c:bQ):bQ:=λρ ω=>(b ρ ω).bind λo ω1=>(RS.T6 ω1 (gb ω1 o)).bind λ_ ω1=>(c ρ ω1).bind λx ω2=>(RS.T6 ω2 (gb ω2 o)).bind λp a=>
 if p.2.length<1000000 then .ok (.fz .none) (a.set p.1 (.lst (p.2++[x])))else .bad
def Hb(F:cg K E to fo)(G:cg K E te fe):cg K E (Pf K "list" rF to (dr te jd)) (wC fo fe):=by
 intro B U H Z ω ρ Q s g w;show F B U H Z ω ρ _ s g (w.bind.imp λo X ω1 S e1 l d v m=>?_);let((L,t),A,d):=WS.T6 d;let(_,p,e,_,rfl,g0,_):=rL l m A;show#[.inl #[W,e,Xl.of g0],?_];show G B U S X ω1 ρ _ l (g.VW e1) (d.bind.imp λx T ω2 N e2 j b u C=>?_);let((i,xs),q,b):=WS.T6 b;let(f,a,P,z,J,I,n):=rL j (m.VW e2) q;ext J;dsimp only at b;by_cases hn:xs.length<1000000
 .rw[ai hn]at b;let ev:Ev (ow B T ω2) N (ow B T ω2) (upd N p (.lst (P++[u]))):=tm z f (by nofun);show#[p,P,u,W,W,I,pR (by rw[n.length];show hn),?_];show b T _ (Ve.put z f (by nofun) (by nofun)) (j.put z f (by nofun) (by nofun) #[_,ay,qZ (Paired.WU n λ_ _ r=>r.ev ev λ_ _ h=>h) (C.ev ev λ_ _ h=>h)]) _ .Wa
 .rw[ak hn]at b;show b.elim
end
inductive FlS where
 |nx (ρ:aH)
 |bk (ρ:aH)
 |ct (ρ:aH)
 |rt (x:SV)
abbrev fM:=aH->aI->RS FlS
abbrev sJ:=SV->aH->aI->RS aH
abbrev zr:=G SV->aH->aI->RS aH
def tF(B:a5)(K:Bn)(D:Ends):FlS->G J->aI->Hp->Prop
 |.nx b,α,a,H=>∀σ,VX (ow B α a) K H α σ b->D.nx σ H
 |.bk b,α,a,H=>∀σ,VX (ow B α a) K H α σ b->D.bk σ H
 |.ct b,α,a,H=>∀σ,VX (ow B α a) K H α σ b->D.ct σ H
 |.rt x,α,a,H=>∀v,Wz (ow B α a) K H α v x->D.rt v H
def o7(K:Bn)(E:XK)(t:TS)(g:fM):Prop:=
 ∀(B:a5) (a:L2.St) (H:Hp) (α:G J) (b:aI) (d:aH) (D:Ends),TK B K H α b->VX (ow B α b) K H α a d->WS K E B H α b (tF B K D) (g d b)->t D a H
def JF(K:Bn)(E:XK)(g:TG)(f:sJ):Prop:=
 ∀(B:a5) (e:L2.St) (H:Hp) (α:G J) (i:aI) (l:aH) (v:V) (x:SV) (Q:L2.St->Hp->Prop),TK B K H α i->VX (ow B α i) K H α e l->Wz (ow B α i) K H α v x->WS K E B H α i (λd a b h=>∀j,VX (ow B a b) K h a j d->Q j h) (f x l i)->g v e H Q
def Ei(K:Bn)(E:XK)(g:wW)(f:zr):Prop:=
 ∀(B:a5) (e:L2.St) (H:Hp) (α:G J) (i:aI) (l:aH) (m:G V) (xs:G SV) (Q:L2.St->Hp->Prop),TK B K H α i->VX (ow B α i) K H α e l->Wo (ow B α i) K H α m xs->WS K E B H α i (λd a b h=>∀j,VX (ow B a b) K h a j d->Q j h) (f xs l i)->g m e H Q
section
variable{B O O':a5}{K:Bn}{E:XK}{H H' T S:Hp}{Y N X Z:cb SU}{ω P ω1 ω2:aI}{U:L2.St}{ρ:aH}{v:V}
def VX.set(a:VX O K H Y U ρ)(h:Wz O K H Y v x):VX O K H Y (U.set i (M v)) (ρ.set i (M x)):=by
 show#[by rw[UR,UR];show a.1,λj y d=>?_];rcases bq d with⟨rfl,e⟩|⟨g,b⟩
 .ext e;show#[v,?_,h];rw[Vv];let:=sK d;rw[a.1];show this
 .let(u,h1,f):=a.2 j y b;show#[u,by rw[VQ (λz=>g z.symm)];show h1,f]
def iC(i:Nat):sJ:=λx ρ ω=>.ok (ρ.set i (M x)) ω
theorem oB:JF K E (kj i) (iC i):=λB U H Y ω ρ v x Q s a h w=>WS.now s w _ (a.set h)
def K6:zr:=λxs ρ ω=>match xs with
 |[]=>.ok ρ ω
 |_=>.bad
def F6(f:sJ)(g:zr):zr:=λxs ρ ω=>match xs with
 |x::r=>(f x ρ ω).bind λa ω1=>g r a ω1
 |[]=>.bad
def Hl:Ei K E Ik K6:=by
 intro B U H Y ω ρ b xs Q s a h w;cases h with
 |nil=>show#[W,WS.now s w _ a]
 |cons _ _=>show w.elim
def C7(h1:JF K E t f)(n:Ei K E u g):Ei K E (yO t u) (F6 f g):=by
 intro B U H Y ω ρ o xs Q s l h w;cases h with
 |nil=>show w.elim
 |cons a b=>show#[_,_,W,h1 B U H Y ω ρ _ _ _ s l a (WS.imp (WS.bind w) λe X ω1 T e1 m j d i=>?_)];show n B d T X ω1 e _ _ _ m i (Wo.VW e1 b) j
def Br:SV->I (G SV)
 |.fz (.tuple ds)=>M (ds.map .fz)
 |.tp l=>M (l.map AV.sv)
 |_=>CL
def L0(h:Wz O K H Y v x)(e:Br x=M xs):∃a c,v=.ref a/\XW O K H a c/\Wo O K H Y c xs:=by
 unfold Br at e;split at e
 .ext e
  cases h with
  |tup h b=>show#[_,_,W,h,kR _ _ b]
 .ext e;let(a,ys,rfl,h1,d):=h;show#[a,ys,W,h1,rj d]
 .ext e
def Qt(n:Nat)(f:zr):sJ:=λx ρ ω=>(RS.T6 ω (Br x)).bind λxs ω1=>if xs.length=n then f xs ρ ω1 else .bad
def Ij(h:Ei K E t f):JF K E (Gn K n t) (Qt n f):=by
 intro B U H Y ω ρ v x Q s d e w;let(xs,q,w):=WS.T6 w;let(a,g,rfl,h1,b):=L0 e q;by_cases hn:xs.length=n
 .rw[ai hn]at w;show#[a,g,W,h1.1,b.length.trans hn,h B U H Y ω ρ g xs Q s d b w]
 .rw[ak hn]at w;show w.elim
def fG:fM:=λρ ω=>.ok (.nx ρ) ω
def aW(f g:fM):fM:=λρ ω=>(f ρ ω).bind λa ω1=>match a with
 |.nx b=>g b ω1
 |a=>.ok a ω1
def jh(f:bQ):fM:=λρ ω=>(f ρ ω).bind λ_ ω1=>.ok (.nx ρ) ω1
def dG(f:bQ)(g:sJ):fM:=λρ ω=>(f ρ ω).bind λx ω1=>(g x ρ ω1).bind λa ω2=>.ok (.nx a) ω2
def fX(c:nJ)(f g:fM):fM:=λρ ω=>(c ρ ω).bind λb ω1=>if b=SJ then f ρ ω1 else g ρ ω1
def gf(f:bQ):fM:=λρ ω=>(f ρ ω).bind λx ω1=>.ok (.rt x) ω1
def MB:fM:=λ_ _=>.bad
theorem A1:o7 K E Ew fG:=λB U H Y ω ρ D s a w=>WS.now s w U a
theorem z9:o7 K E Dx MB:=λB U H Y ω ρ D s a w=>w.elim
def Ii(h1:o7 K E t f)(j:o7 K E u g):o7 K E (GD t u) (aW f g):=by
 intro B U H Y ω ρ D s i w;show h1 B U H Y ω ρ {D with nx:=u D} s i (WS.imp (WS.bind w) λl X ω1 T e1 d b=>?_);cases l with
 |nx a=>show λe h=>j B e T X ω1 a D d h b
 |rt x=>show WS.now (E:=E) d b
 |bk a=>show WS.now (E:=E) d b
 |ct a=>show WS.now (E:=E) d b
def Ep(h:cg K E t f):o7 K E (zc t) (jh f):=by intro B U H Y ω ρ D s a w;show h B U H Y ω ρ _ s a (WS.imp (WS.bind w) λx X ω1 T e1 d b v e=>WS.now d b U (a.VW e1))
def FZ(h:cg K E t f)(n:JF K E g C):o7 K E (AE t g) (dG f C):=by intro B U H Y ω ρ D s b w;show h B U H Y ω ρ _ s b (WS.imp (WS.bind w) λx X ω1 T e1 l i v m=>?_);show n B U T X ω1 ρ v x _ l (b.VW e1) m (WS.imp (WS.bind i) λd Z ω2 S e2 j e a o=>WS.now j e a o)
def KS(h:tU K E c o)(h1:o7 K E t f)(i:o7 K E u g):o7 K E (HB c t u) (fX o f g):=by
 intro B U H Y ω ρ D s a w;show h B U H Y ω ρ _ s a (WS.imp (WS.bind w) λb X ω1 T e1 e d=>?_);cases b with
 |true=>show h1 B U T X ω1 ρ D e (a.VW e1) d
 |false=>show i B U T X ω1 ρ D e (a.VW e1) d
def Gs(h:cg K E t f):o7 K E (Gc t) (gf f):=by intro B U H Y ω ρ D s b w;show h B U H Y ω ρ _ s b (WS.imp (WS.bind w) λx X ω1 T e1 d a v e=>WS.now d a v e)
def wV(i:Nat)(f:D->D->I RV)(b:bQ):fM:=λρ ω=>(aX i ρ ω).bind λx ω1=>(b ρ ω1).bind λy ω2=>(oJ f x y ω2).bind λz a=>.ok (.nx (ρ.set i (M z))) a
def Ib(l:iG K r f)(m:cg K E C fe):o7 K E (Pt i C r) (wV i f fe):=by
 intro B U H Y ω ρ D s a w;unfold wV aX at w;cases q:ρ[i]? with
 |none=>rw[q]at w;show w.elim
 |some o=>
  cases o with
  |none=>rw[q]at w;show w.elim
  |some x=>rw[q]at w;let(v,h1,n):=a.2 i x q;show#[v,h1,m B U H Y ω ρ _ s a (WS.imp (WS.bind w) λy X ω1 T e1 g d u h=>?_)];show wQ l g (n.VW e1) h (WS.imp (WS.bind d) λz Z ω2 S e2 e b t j=>WS.now e b _ ((a.VW (e1.trans e2)).set j))
abbrev Lq:=aH->aI->RS (G D)
def NR(K:Bn)(E:XK)(b:TI)(d:Lq):Prop:=
 ∀(B:a5) (U:L2.St) (H:Hp) (Y:G SU) (ω:aI) (ρ:aH) (a:It->Hp->Prop),TK B K H Y ω->VX (ow B Y ω) K H Y U ρ->WS K E B H Y ω (λds N P H'=>∀J,z0 K J (ow B N P) H' ds->a J H') (d ρ ω)->b U H a
def iI(f:FI):Lq:=λρ ω=>match f (dB ρ)with
 |.ok (ds,_)=>.ok ds ω
 |.er x=>.er x ω
 |.bad=>.bad
def Ej(h:IO K E C f):NR K E C (iI f):=by
 intro B U H Y ω ρ i s d w;show h (ow B Y ω) H (ow B Y ω) U H (dB ρ) i (Bq s d) ?_;unfold iI at w;cases q:f (dB ρ)with
 |bad=>rw[q]at w;show w.elim
 |er x=>rw[q]at w;show λc l H' e k=>w c l Y H' (Ve.same e) (s.grow e) k
 |ok r=>let(ds,a):=r;rw[q]at w;show λO' J H' e R g=>w Y H' (Ve.same R.same) (s.grow R.same) J λj S e2 n=>g j S (λb o h z=>e2 b o h λy=>z (R.bo b y)) n
def uQ(a:bQ):Lq:=λρ ω=>(a ρ ω).bind λx ω1=>(match frz 4 ω1 x with
 |some (d,ω2)=>RS.T6 ω2 (fW d)
 |none=>.bad)
def Gx(h:cg K E o C):NR K E (zb K o) (uQ C):=by
 intro B U H Y ω ρ l s f w;show h B U H Y ω ρ _ s f (WS.imp (WS.bind w) λx X ω1 T e1 g a v i=>?_);cases q:frz 4 ω1 x with
 |none=>rw[q]at a;show a.elim
 |some p=>
  let(d,ω2):=p;rw[q]at a;let(e,e2,j):=qY 4 g i q;dsimp only at a;cases m:fW d with
  |none=>rw[m]at a;show a.elim
  |some ds=>
   rw[m]at a;cases j with
   |tup h b=>ext m;show#[_,W,.inr #[#[_,h.1],a X T e2 e _ (DY h b)]]
   |lst h b=>ext m;show#[_,W,.inl #[#[_,h.1.sq],a X T e2 e _ (zg h b)]]
   |_=>ext m
def jG(gt:sJ)(b:fM):G D->fM
 |[],ρ,ω=>.ok (.nx ρ) ω
 |d::r,ρ,ω=>(gt (.fz d) ρ ω).bind λa ω1=>(b a ω1).bind λe ω2=>match e with
  |.nx f=>jG gt b r f ω2
  |.ct f=>jG gt b r f ω2
  |.bk f=>.ok (.nx f) ω2
  |.rt x=>.ok (.rt x) ω2
def pF(a:Lq)(gt:sJ)(b:fM):fM:=λρ ω=>(a ρ ω).bind λds ω1=>jG gt b ds ρ ω1
def Gy(c:NR K E wi fi)(k:JF K E g gt)(R:o7 K E tb b):o7 K E (GG wi g tb) (pF fi gt b):=by
 intro B U H Y ω ρ D s M w;show c B U H Y ω ρ _ s M (WS.imp (WS.bind w) λds X ω1 T e1 s1 w1 J it=>?_);show#[λi m a H'=>m=ds.length - i/\i<=ds.length/\∃Z ω2 ρ2,Ve X ω1 T Z ω2 H'/\TK B K H' Z ω2/\VX (ow B Z ω2) K H' Z a ρ2/\WS K E B H' Z ω2 (tF B K D) (jG gt b (ds.drop i) ρ2 ω2),#[_,W,TX _,X,ω1,ρ,.refl,s1,M.VW e1,w1],?_];rintro i m l S ⟨rfl,c,Z,ω2,ρ2,e2,s2,YU,w2⟩;let(go,o):=it (ow B Z ω2) S e2.ev s2.Zs;by_cases u:i<ds.length
 .let(g1,g2):=go i u
  show .inr #[g1,λa H'=>i+1<=ds.length/\∃Z ω2 ρ2,Ve X ω1 T Z ω2 H'/\TK B K H' Z ω2/\VX (ow B Z ω2) K H' Z a ρ2/\WS K E B H' Z ω2 (tF B K D) (jG gt b (ds.drop (i+1)) ρ2 ω2),λa H' #[h1,h2]=>#[ds.length - (i+1),by ext,W,h1,h2],λx L y=>?_];let(Q,d,hd,dv):=g2 x L y;let ed:ds.drop i=d::ds.drop (i+1):=by let(_,q):=SK.mp hd;rw[Uo u,q]
  rw[ed]at w2;let e3:Ve Z ω2 S Z ω2 L:=Ve.same Q;show k B l L Z ω2 ρ2 x (.fz d) _ (s2.grow Q) (YU.VW e3) dv (WS.imp (WS.bind (WS.from e3 w2)) λF G z H4 e4 s4 w3 C I=>?_);show R B C H4 G z F _ s4 I (WS.imp (WS.bind w3) λfl n j H5 e5 t r=>?_);let p:=e2.trans (e3.trans (e4.trans e5));cases fl with
  |nx f=>show λA h=>#[u,n,j,f,p,t,h,r]
  |ct f=>show λA h=>#[u,n,j,f,p,t,h,r]
  |bk f=>show WS.now (E:=E) t r
  |rt x=>show WS.now (E:=E) t r
 .let e:i=ds.length:=by ext
  subst e;rw[Vc (SN _)]at w2;show .inl #[o,WS.now s2 w2 l YU]
def ph(c:nJ)(b:fM):Nat->fM
 |0,_,_=>.bad
 |n+1,ρ,ω=>(c ρ ω).bind λk ω1=>if k=SJ then(b ρ ω1).bind λa ω2=>match a with
  |.nx d=>ph c b n d ω2
  |.ct d=>ph c b n d ω2
  |.bk d=>.ok (.nx d) ω2
  |.rt x=>.ok (.rt x) ω2 else .ok (.nx ρ) ω1
def sL(c:nJ)(b:fM):fM:=ph c b 1000000
def AA(G:tU K E c fc)(y:o7 K E tb b):o7 K E (AR c tb) (sL fc b):=by
 intro B U H Y ω ρ D s C w;show#[λm d H'=>∃Z ω2 a,Ve Y ω H Z ω2 H'/\TK B K H' Z ω2/\VX (ow B Z ω2) K H' Z d a/\WS K E B H' Z ω2 (tF B K D) (ph fc b m a ω2),#[_,Y,ω,ρ,.refl,s,C,w],?_];rintro m f S ⟨Z,ω2,a,e2,F,u,z⟩;cases m with
 |zero=>show z.elim
 |succ m=>
  show G B f S Z ω2 a _ F u (WS.imp (WS.bind z) λk t p J e3 A n=>?_);cases k with
  |true=>
   rw[ai W]at n⊢;show#[λd H'=>∃Z ω2 a,Ve Y ω H Z ω2 H'/\TK B K H' Z ω2/\VX (ow B Z ω2) K H' Z d a/\WS K E B H' Z ω2 (tF B K D) (ph fc b m a ω2),λd H' q=>#[m,UX m,q],?_];show y B f J t p a _ A (u.VW e3) (WS.imp (WS.bind n) λI i h L e5 o l=>?_);let j:=e2.trans (e3.trans e5);cases I with
   |nx e=>show λr g=>#[i,h,e,j,o,g,l]
   |ct e=>show λr g=>#[i,h,e,j,o,g,l]
   |bk e=>show WS.now (E:=E) o l
   |rt x=>show WS.now (E:=E) o l
  |false=>rw[ak Td]at n⊢;show WS.now A n f (u.VW e3)
end
section
variable{B O O':a5}{K:Bn}{E:XK}{H H' U M:Hp}{X T Y Z:cb SU}{ω ω' ω1 ω2:aI}{S:L2.St}{ρ:aH}{v:V}
def cF(gt:sJ)(c:nJ)(f:bQ):G D->aH->aI->G SV->RS (G SV)
 |[],_,ω,acc=>.ok acc ω
 |d::r,ρ,ω,acc=>(gt (.fz d) ρ ω).bind λa ω1=>(c a ω1).bind λb ω2=>if b=SJ then(f a ω2).bind λx e=>(if acc.length<1000000 then cF gt c f r a e (acc++[x])else .bad)else cF gt c f r a ω2 acc
def iR(n:Nat)(a:G Nat)(ρ:aH):aH:=SY n CL++a.map λj=>(ρ[j]?).join
def uD(n:Nat)(c:G Nat)(a:Lq)(gt:sJ)(b:nJ)(d:bQ):bQ:=λρ ω=>(a ρ ω).bind λds ω1=>(gr (cF gt b d ds (iR n c ρ) ω1 [])).bind λxs ω2=>.ok (.rf ω2.length) (ω2++[.lst xs])
def G4{own:G Str}{b:G (Str×Nat)}{n:Nat}{c:G Nat}(k:own.length=n)(g:b.map (·.2)=c)(h:VX O K H X S ρ):VX O K H X (fw own b S) (iR n c ρ):=by
 unfold fw iR;rw[xI k];let i:b.length=c.length:=by rw[<-g,SI]
 show#[by simp_all,λj x a=>?_];by_cases f:j<n
 .rw[Ti (by rw[TQ];show f),Vs,ai f]at a;ext a
 .rw[Tr (by simp_all),TQ,S3]at a⊢
  subst g;rw[S3]at a;cases q:b[j - n]? with
  |none=>simp_all
  |some p=>
   rw[q]at a;let d:(ρ[p.2]?).join=cL x:=Tx a;let e:ρ[p.2]?=cL (cL x):=by
    cases m:ρ[p.2]? with
    |none=>rw[m]at d;ext d
    |some o=>rw[m]at d;show eh cL d
   let(u,h1,l):=h.2 p.2 x e;simp_all
def oO{p:J}{c:Cell}(a:X.length=ω.length)(e:c≠.dead):ow (aY B p) X ω=ow B (X++[p]) (ω++[c]):=by
 funext b;show propext #[λz=>?_,λz=>?_]
 .rcases z with(z|z)|⟨i,d,h1,g,f⟩
  .show .inl z
  .show .inr #[X.length,c,by rw[z];show aG,by rw[a];show aG,e]
  .show .inr #[i,d,eZ h1,eZ g,f]
 .rcases z with z|z
  .show .inl (.inl z)
  .rcases nM a z with z|z
   .show .inr z
   .show .inl (.inr z)
def TK.adopt{p:J}{c:G V}{xs:G SV}(s:TK (aY B p) K H X ω)(g:H p=cL (.lst c))(f:Wo (ow (aY B p) X ω) K H X c xs)(m:¬B p):TK B K H (X++[p]) (ω++[.lst xs]):=by
 let eo:ow (aY B p) X ω=ow B (X++[p]) (ω++[.lst xs]):=oO s.len (by simp_all);let b:∀(i:Nat) (a:J),X[i]?=cL a->(X++[p])[i]?=cL a:=λi a h=>eZ h;let l:∀i:Nat,X[i]?≠cL p:=s.ba p (.inr W);show#[by rw[SQ,SQ,s.len];rfl,λi j a h1 e=>?_,λa h=>s.bn a (.inl h),λa h i q=>?_,λi a h=>?_,λi a d h1 e=>?_]
 .rcases aK h1 with g1|⟨e1,e2⟩<;>rcases aK e with g2|⟨e3,e4⟩
  .show s.nd i j a g1 g2
  .simp_all
  .simp_all
  .omega
 .rcases aK q with q|⟨_,e2⟩
  .show s.ba a (.inl h) i q
  simp_all
 .rcases aK h with h|⟨_,e2⟩
  .show s.al i a h
  simp_all
 .rw[<-eo]
  rcases aK e with g2|⟨e1,e2⟩
  .rcases aK h1 with g1|⟨e1,_⟩
   .show(s.YQ i a d g1 g2).ev .refl b λo q=>q
   .let:=(SK.mp g2).1;let:=s.len;ext
  .rcases aK h1 with g1|⟨_,e3⟩
   .let:=(SK.mp g1).1;let:=s.len;ext
   .rw[e2,e3];show#[c,g,Paired.WU f λ_ _ r=>r.ev .refl b]
def TK.hide{p:J}{o:HO}(s:TK B K H X ω)(f:H p=CL):TK (aY B p) K (upd H p o) X ω:=by let d:U7 H (upd H p o):=bw f o;let g:=s.grow d;let ev:Ev (ow B X ω) H (ow (aY B p) X ω) (upd H p o):=λb u h n=>#[d b u h,λz=>z.elim (λz=>z.elim (λz=>n (.inl z)) λz=>by simp_all) λz=>n (.inr z)];show#[g.len,g.nd,λa h=>h.elim (g.bn a) λe=>by rw[e,ay];simp,λa h i q=>h.elim (λh=>g.ba a h i q) λe=>by rw[e]at q;show s.al i p q f,g.al,λi a c h1 j=>?_];show(s.YQ i a c h1 j).ev ev (λ_ _ h=>h) λo q=>d _ _ q
def TK.adA{p:J}{o d:HO}(s:TK (aY B p) K H X ω)(f:H p=cL o):TK (aY B p) K (upd H p d) X ω:=by
 let ev:Ev (ow (aY B p) X ω) H (ow (aY B p) X ω) (upd H p d):=Ev.mut (.inl (.inr W)) d;let n:∀b,H b≠CL->upd H p d b≠CL:=λb h=>by
  by_cases z:b=p
  .subst z;rw[ay];simp
  .rw[av z];show h
 show#[s.len,s.nd,λa h=>n a (s.bn a h),s.ba,λi a h=>n a (s.al i a h),λi a c h1 e=>(s.YQ i a c h1 e).ev ev (λ_ _ h=>h) λu q=>?_];let:a≠p:=λz=>s.ba p (.inr W) i (by rw[<-z];show h1);rw[av this];show q
theorem Ve.dd{p:J}{o:HO}(e:Ve Y ω1 U X ω H)(a:U p=CL):Ve Y ω1 U X ω (upd H p o):=#[e.pre,λb u h n=>by rw[av (bR h a)];show e.kp b u h n,e.lv]
theorem TK.acj{p:J}(s:TK (aY B p) K H X ω):TK B K H X ω:=
 #[s.len,s.nd,λa h=>s.bn a (.inl h),λa h=>s.ba a (.inl h),s.al,λi a c h1 d=>(s.YQ i a c h1 d).ev (λb o h n=>#[h,λy=>n (y.elim (λy=>.inl (.inl y)) .inr)]) (λ_ _ h=>h) λ_ h=>h]
def v5{own:cb Str}{fv:cb (Str×Nat)}{g:TG}{tc:TT}{te:TE}{gt:sJ}{s:nJ}{k:bQ}{n:Nat}{R:cb Nat}{J:It}{Q:VK}{ds:cb D}(hn:own.length=n)(hf:fv.map (·.2)=R)
  (hg:JF K E g gt) (ht:tU K E tc s) (he:cg K E te k) (s1:TK B K U Y ω1) (sl1:VX (ow B Y ω1) K U Y S ρ) (it:z0 K J (ow B Y ω1) U ds) (w1:WS K E B U Y ω1 (PQ B K Q) ((cF gt s k ds (iR n R ρ) ω1 []).bind λxs ω2=>.ok (.rf ω2.length) (ω2++[.lst xs]))):
  ∀D,U D=CL->x5 J D (fw own fv S) g tc te U λH'=>Q (.ref D) H':=by
 intro p hD;let slc:VX (ow B Y ω1) K U Y (fw own fv S) (iR n R ρ):=G4 hn hf sl1;generalize qr:cF gt s k ds (iR n R ρ) ω1 []=rr at w1;by_cases F:rr=.bad
 .subst F;show w1.elim
 .
  let hB:¬B p:=λz=>s1.bn p z hD;let evH:∀{Z:cb SU} {ω2:aI} {H':Hp},Ve Y ω1 U Z ω2 H'->Ev (ow B Y ω1) U (ow (aY B p) Z ω2) H':=λe b o h n=>#[e.kp b o h λz=>n (.inr z),λz=>by
   rcases z with(z|z)|z
   .show n (.inl z)
   .simp_all
   .show(e.lv b z).elim (λq=>n (.inr q)) λq=>by simp_all]
  show#[λi m σ' H'=>m=ds.length - i/\i<=ds.length/\∃Z ω2 ρc acc ys,Ve Y ω1 U Z ω2 H'/\TK (aY B p) K H' Z ω2/\VX (ow (aY B p) Z ω2) K H' Z σ' ρc/\H' p=cL (.lst ys)/\Wo (ow (aY B p) Z ω2) K H' Z ys acc/\cF gt s k (ds.drop i) ρc ω2 acc=rr,
   #[_,W,TX _,Y,ω1,iR n R ρ,[],[],Ve.same (bw hD _),s1.hide hD,?_,ay,.nil,qr],?_]
  .show#[slc.1,λj x hx=>let#[v,h1,h2]:=slc.2 j x hx;#[v,h1,h2.ev (evH (Ve.same (bw hD _))) λ_ _ h=>h]]
  .rintro i m σ2 M ⟨rfl,hi,Z,ω2,ρ2,acc,ys,e2,s2,YU,hy,vy,f⟩
   let(go,stop):=it (ow (aY B p) Z ω2) M (evH e2) s2.Zs;by_cases WZ:i<ds.length
   .let(g1,g2):=go i WZ
    show .inr #[g1,λσ5 I=>i+1<=ds.length/\∃Z ω2 ρc acc ys,Ve Y ω1 U Z ω2 I/\TK (aY B p) K I Z ω2/\VX (ow (aY B p) Z ω2) K I Z σ5 ρc/\I p=cL (.lst ys)/\Wo (ow (aY B p) Z ω2) K I Z ys acc/\cF gt s k (ds.drop (i+1)) ρc ω2 acc=rr,
     λσ5 I #[h1,h2]=>#[ds.length - (i+1),by ext,W,h1,h2],λx H3 y=>?_]
    let(s3,d,hd,dv):=g2 x H3 y;let ed:ds.drop i=d::ds.drop (i+1):=by let(_,q):=SK.mp hd;rw[Uo WZ,q]
    rw[ed]at f;unfold cF at f;let e3:Ve Z ω2 M Z ω2 H3:=Ve.same s3;let kD:∀{αx αy:cb SU} {ωx ωy:aI} {Hx Hy:Hp} {o:HO},TK (aY B p) K Hx αx ωx->Ve αx ωx Hx αy ωy Hy->Hx p=cL o->Hy p=cL o:=λsx ex h=>ex.kp _ _ h λ#[i,c,q,_]=>sx.ba p (.inr W) i q;let w:∀{P:cb SU} {u:aI} {H3:Hp} {z:Xc} {t:aI},Ve Y ω1 U P u H3->RS.er z t=rr->∀c dx T H',Ve P u H3 T t H'->TK (aY B p) K H' T t->XOk K (ow (aY B p) T t) H' c dx z->E c dx H':=λ{P u H3 z t} e3 q c dx T H' e s' x'=>by subst q;show w1 c dx T H' (e3.trans e) s'.acj (XOk.sub (λb y=>y.elim (λy=>.inl (.inl y)) .inr) x')
    show hg (aY B p) σ2 H3 Z ω2 ρ2 x (.fz d) _ (s2.grow s3) (YU.VW e3) dv ?_;cases qg:gt (.fz d) ρ2 ω2 with
    |er z t=>rw[qg]at f;show w (e2.trans e3) f
    |bad=>rw[qg]at f;show F f.symm
    |ok l L=>
     rw[qg]at f;intro α4 H4 e4 s4 σ4 sl4;show ht (aY B p) σ4 H4 α4 L l _ s4 sl4 ?_;let f:((s l L).bind λb ω2=>if b=SJ then(k l ω2).bind λx u=>(if acc.length<1000000 then cF gt s k (ds.drop (i+1)) l u (acc++[x])else .bad)else cF gt s k (ds.drop (i+1)) l ω2 acc)=rr:=f;cases qt:s l L with
     |er z t=>rw[qt]at f;show w (e2.trans (e3.trans e4)) f
     |bad=>rw[qt]at f;show F f.symm
     |ok b A=>
      rw[qt]at f;intro α5 I e5 s5;let sl5:=sl4.VW e5;let C:=e3.trans (e4.trans e5);cases b with
      |false=>let f:cF gt s k (ds.drop (i+1)) l A acc=rr:=f;show#[WZ,α5,A,l,acc,ys,e2.trans C,s5,sl5,kD s2 C hy,Wo.VW C vy,f]
      |true=>
       let f:((k l A).bind λx u=>(if acc.length<1000000 then cF gt s k (ds.drop (i+1)) l u (acc++[x])else .bad))=rr:=f;rw[ai W];show he (aY B p) σ4 I α5 A l _ s5 sl5 ?_;cases qe:k l A with
       |er z t=>rw[qe]at f;show w (e2.trans C) f
       |bad=>rw[qe]at f;show F f.symm
       |ok x6 G=>
        rw[qe]at f;intro N H6 e6 s6 v6 hv6;let f:(if acc.length<1000000 then cF gt s k (ds.drop (i+1)) l G (acc++[x6])else .bad)=rr:=f;by_cases hl6:acc.length<1000000
        .rw[ai hl6]at f;let e36:=C.trans e6;let hy6:H6 p=cL (.lst ys):=kD s2 e36 hy;let vy6:=Wo.VW e36 vy;let em:Ev (ow (aY B p) N G) H6 (ow (aY B p) N G) (upd H6 p (.lst (ys++[v6]))):=Ev.mut (.inl (.inr W)) _;let sl6:=sl5.VW e6;show#[ys,hy6,pR (by rw[vy6.length];show hl6),WZ,N,G,l,acc++[x6],ys++[v6],(e2.trans e36).dd hD,s6.adA hy6,#[sl6.1,λj x hx=>let#[v,h1,h2]:=sl6.2 j x hx;#[v,h1,h2.ev em λ_ _ h=>h]],ay,qZ (Paired.WU vy6 λ_ _ r=>r.ev em λ_ _ h=>h) (hv6.ev em λ_ _ h=>h),f]
        .rw[ak hl6]at f;show b9 f.symm F
   .let e:i=ds.length:=by ext
    subst e;rw[Vc (SN _)]at f;let f:RS.ok acc ω2=rr:=f;subst f;show .inl #[stop,?_];show w1 (Z++[p]) M #[λi a h=>eZ (e2.pre i a h),e2.kp,λb z=>(nM s2.len z).elim (e2.lv b) λz=>.inr (by rw[z];show hD)] (s2.adopt hy vy hB) (.ref p) #[p,by rw[<-s2.len];show aG,W]
def Mr{A C:Type}{P:C->G J->aI->Hp->Prop}{r:RS A}{k:A->aI->C}{m:A->aI->aI}(w:WS K E B H X ω P ((gr r).bind λa o=>.ok (k a o) (m a o))):WS K E0 B H X ω P (r.bind λa o=>.ok (k a o) (m a o)):=by
 cases r with
 |ok a o=>show w
 |er x o=>show w.elim
 |bad=>show w
def DW{own:G Str}{e:G (Str×Nat)}{a:TI}{g:TG}{b:TT}{c:TE}{f:Lq}{gt:sJ}{k:nJ}{r:bQ}{n:Nat}{q:G Nat}(t:own.length=n)(o:e.map (·.2)=q)
  (u:NR K E a f) (m:JF K E0 g gt) (l:tU K E0 b k) (p:cg K E0 c r):cg K E (ul own e a g b c) (uD n q f gt k r):=by
 intro B S H X ω ρ Q s d w;show u B S H X ω ρ _ s d (WS.imp (WS.bind w) λds Y ω1 U e1 i h J j=>?_);show v5 t o m l p i (d.VW e1) j (Mr h)
def iO(N:Nat)(g:fM):kO:=λxs ω=>(g (xs.map cL++SY (N - xs.length) CL) ω).bind λa ω1=>match a with
 |.rt x=>.ok x ω1
 |.nx _=>.ok (.fz .none) ω1
 |_=>.bad
def BW{N:G Str}{c:G V}{xs:G SV}(h:Wo O K H X c xs):VX O K H X (L2.start N c) (xs.map cL++SY (N.length - xs.length) CL):=by
 let e:c.length=xs.length:=Paired.length h;ext L2.start;show#[by simp_all,λi x a=>?_];by_cases hi:i<xs.length
 .rw[Ti (by simp_all),S3]at a
  cases q:xs[i]? with
  |none=>rw[q]at a;ext a
  |some d=>rw[q]at a;ext a;let(v,b,f):=v7 h q;show#[v,?_,f];rw[Ti (by rw[SI,e];show hi),S3,b];rfl
 .rw[Tr (by rw[SI];ext),Vs]at a;split at a<;>ext a
def K1{N:G Str}{c:G V}{xs:G SV}{g:fM}{t:TS}{Q:VK}{n:Nat}(e:o7 K E t g)(h:AH K n (iO N.length g) c H Q E):t {nx:=λ_ H'=>Q .Wa H',rt:=Q} (L2.start N c) H:=by
 let(j,B,X,ω,xs,s,d,w):=h;show e B _ H X ω _ _ s (BW d) (WS.imp (WS.bind w) λf Y ω1 U e1 b a=>?_);cases f with
 |rt x=>show WS.now (E:=E) b a
 |nx ρ=>show λS i=>WS.now (E:=E) b a .Wa .Wa
 |bk ρ=>show a.elim
 |ct ρ=>show a.elim
end
def Rq{P:Tg}{w:TN}{K:Bn}{p:Str->I T}{base:Heap}{x a:Str}{st:Vz}{f:J}{fd:UI}{N c:G Str}{k n m:Nat}{g:fM}{d:kO}(F:Zk K x a st f fd)(S:Wl N c (aA st))(r:c.length=n)(hm:N.length=m)(l:d=iO m g)
  (o:∀(b:T) (A:Tv) (outer:G Env) (s:SS) (H:Hp) (E:XK),V6 k (A.deeper (Ud a (aA st) s.heap.objs.size f b))->
   ∃t,YV (jF kP P w K p base N a (aA st) f b A outer s H E).nox (cZ st) t/\o7 K E t g):FnOk P w K p base kP (k+1) f fd c (AH K n d):=by
 subst l hm;show F.ok S (λq H Q E h=>h.1.trans r.symm) (λb A outer s H q Q E j h=>?_);let(t,e,i):=o b A outer s H E j;show#[t,e,K1 (xs:=[]) i h]
end L10
namespace L10
open PySem PySem.Spec PyProof.Rows L2 L3
def Nn(p d:J):HO:=.ext λh=>h.IsValuesView p d
theorem Oq(x:h.IsValuesView p d):ObjOk P w H h p (Nn p d):=#[x,let#[o,a,_]:=x;#[o,a],λh1 e #[o,a,b] k=>#[o,k o a,b]]
end L10
namespace PySem
open Sem (wp)
namespace F
def lk_tuple_keys:typeLookup (.type "tuple") "keys"=pure S:=by rw[VM,U1];kernel_rfl
def lk_tuple_hook:typeLookup (.type "tuple") "__getattr__"=pure S:=by rw[VM,U1];kernel_rfl
def sub_ae:isSubtype (.type "AttributeError") (.type "AttributeError")=pure U:=by rw[afk];kernel_rfl
end F
section
variable{Y:Tg}{w:TN}{A:Tv}{E:OK->SS->Prop}{h:Heap}{g:Array Yx}{d:acK}{t:Nat}{Z:acN}{a:SU}{o:Obj}
def om{α:Type}{name f:Str}{Q:α->SS->Prop}{E:T->SS->Prop}(hm:f.length<=S8)(l:A.handled=S)(i:∀e c k,(∀b o,h.get? b=M o->c.get? b=M o)->(#[c,g,d,k,Z]:SS).TypeIs e "AttributeError"->E e #[c,g,d,k,Z]):
  wpAny (model Y w) A (raiseAttrError (.ref a) name f:Sem α) Q E #[h,g,d,t,Z]:=by
 let j:¬f.length>S8:=Nat.not_lt.mpr hm;unfold raiseAttrError newExc newTuple
 repeat (any_goals (first|assumption|wp_step))
 show Xj (a:=U) F.sub_ae ?_
 repeat (any_goals (first|assumption|wp_step))
 show wpAny_raiseNew_none l (i _ _ _ (λb o e=>?_) ?_)
 .show(c3 _ _ (dt (TB (cv (cj _ e))))).trans (cj _ (cj _ e))
 .show#[_,c4 _ (c0 _ W) W,W]
def lu{f:Tok}{Q:Fin->SS->Prop}{E:T->SS->Prop}{p:Array T}{n:Nat}{i:Array (I T)}(j:h.get? a=M #[.type "tuple",S,.seq p n,i])(m:A.handled=S)(l:∀e c k,(∀b o,h.get? b=M o->c.get? b=M o)->(#[c,g,d,k,Z]:SS).TypeIs e "AttributeError"->E e #[c,g,d,k,Z]):
  wpAny (model Y w) A (Builtin.«object.__getattribute__» #[[.ref a,.str "keys" f],[]]) Q E #[h,g,d,t,Z]:=by
 let q:(#[h,g,d,t,Z]:SS).TypeIs (.ref a) "tuple":=#[_,j,W];let r:=F.lk_tuple_keys
 repeat (any_goals (first|assumption|wp_step))
 show om (by decide+kernel) m l
def pK{f:Tok}{Q:T->SS->Prop}{E:T->SS->Prop}{u:Array T}{n:Nat}{l:Array (I T)}(i:h.get? a=M #[.type "tuple",S,.seq u n,l])(q:A.handled=S)(m:∀e c k,(∀b o,h.get? b=M o->c.get? b=M o)->(#[c,g,d,k,Z]:SS).TypeIs e "AttributeError"->E e #[c,g,d,k,Z]):
  wpAny (model Y w) A (getAttrBy (.ref a) (.str "keys" f) SW) Q E #[h,g,d,t,Z]:=by
 let r:(#[h,g,d,t,Z]:SS).TypeIs (.ref a) "tuple":=#[_,i,W];let B:=F.slot_tuple_getattribute.lookup;let z:=F.slot_tuple_getattribute.bind (.ref a);let v:=F.lk_tuple_hook
 repeat (any_goals (first|assumption|wp_step))
 show abl F.slot_tuple_getattribute.plain F.entry_tuple_ga (F.slot_tuple_getattribute.check _ _ _ _ _ _ _ _ r (F.args_tuple_getattribute_2 _ _) (lu i q λe c k p j=>?_));let fs:=F.sub_ae;show wpAny (model Y w) A (getattributeRaised (OK.ref a) (OK.str (Str.ofString "keys") f) (OK.type "tuple") e S SW SW) Q E _;ext getattributeRaised;show lD (Vh j fs ?_)
 repeat (any_goals (first|assumption|wp_step))
 show m e c k p j
def mz(f:h.get? a=M #[.type "tuple",S,.seq T5 n,C])(l:A.handled=S)(i:∀c k,(∀b o,h.get? b=M o->c.get? b=M o)->Q S #[c,g,d,k,Z]):
  wpAny (model Y w) A (getAttr? (.ref a) "keys") Q E #[h,g,d,t,Z]:=by
 unfold getAttr? getAttrBy?;let fs:=F.sub_ae;show lD ?_
 repeat (any_goals (first|assumption|(with_reducible show pK f l λe c k j m=>?_)|wp_step))
 show i c k j
namespace F
theorem entry_upd_loop:entryFor table "dict.update.loop"=M Builtin.«dict.update.loop»:=entryFor_of_tree (by kernel_rfl)
def plain_upd_loop:plainId "dict.update.loop"=U:=by decide+kernel
end F
end
section
variable{prog:Tg}{w:TN}{A:Tv}{E:OK->SS->Prop}{s:SS}{K:Type}[DecidableEq K]{knd:KeyKind prog w K}{I dd ax:SU}{items:Array OK}{ks:cb (K×OK)}{R:Yk->SS->Prop}
def xi(a:G (K×T))(k:K)(v:T):(stored a k v).length<=a.length+1:=by
 ext stored;split
 .rw[SI];ext
 .rw[SQ];show SN _
theorem l6:∀(a c:G (K×T)),(merged c a).length<=c.length+a.length
 |[],c=>SN _
 |p::r,c=>by let h1:=l6 r (stored c p.1 p.2);let b:=xi c p.1 p.2;show(merged (stored c p.1 p.2) r).length<=_;rw[S0];ext
def vV(a:G (K×T)):(merged [] a).length<=a.length:=by let:=l6 a [];simpa using this
def Ci{h0:Heap}(Z:A.handled=CL)(D:ax≠I)(M:I≠dd)(L:ax≠dd)(Y:∀(i:Nat) (v:OK),items[i]?=cL v->∃q key k x,v=.ref q/\q≠dd/\q≠I/\ks[i]?=cL (k,x)/\knd.is k key=SJ/\h0.IsTuple q #v[key,x])(hs:ks.length=items.size)(V:items.size<=S8)
  (y:∀c g,c.DictOf knd dd (merged [] ks)->(∀b o,b≠dd->b≠I->h0.get? b=cL o->c.get? b=cL o)->R (.ok (.ret .none)) {s with heap:=c,toks:=g}):
  ∀(m i:Nat) (h:Heap) (g:Nat),items.size - i=m->i<=items.size->h.IsTupleIter I ax i->h.IsTuple ax items->h.DictOf knd dd (merged [] (ks.take i))->(∀b o,b≠dd->b≠I->h0.get? b=cL o->h.get? b=cL o)->
   codeAny (model prog w) A (.builtin "dict.update.loop" #[[.ref dd,.ref I,rawInt i,.none],[]]) R {s with heap:=h,toks:=g}:=by
 let W:=Walks.tuple (prog:=prog) (w:=w) (A:=A.in1) Z I ax D items;intro m
 induction m with
 |zero=>
  intro i h g hm hi u r p n;let e:i=items.size:=by ext
  subst e;show VN F.entry_upd_loop ?_;rw[Tv.under_plainId F.plain_upd_loop _];show lD (W.done _ _ _ #[u,r] λc d f=>?_);rw[Ur ()]at p;show lD (SH (SH ?_));show y c d (p.at λo e=>f dd o (by simp;show λz=>M z.symm) e) λb o h1 a e=>f b o (by simp;show a) (n b o h1 a e)
 |succ m T=>
  intro i h g hm hi u r p n;let O:i<items.size:=by ext
  show VN F.entry_upd_loop ?_;rw[Tv.under_plainId F.plain_upd_loop _];show lD (W.item i _ _ _ O #[u,r] λv c d U st f=>?_);let(q,key,k,x,rfl,C,j,G,Yf,X):=Y i v U;let B:=X.at λo e=>f q o (by simp;show j) (n q o C j e);let N:=p.at λo e=>f dd o (by simp;show λz=>M z.symm) e;let t:=λb o h1 a e=>f b o (by simp;show a) (n b o h1 a e);let(S,l,J,nq,H):=B;let(cq,dq,dtq,P):=S;ext J;ext H;let hT:({s with heap:=c,toks:=d}:SS).TypeIs (.ref q) "tuple":=#[_,l,rfl];show lD (UA (lD ?_));show Wt ?_;ext Builtin.Dict.pairItems;show lD (VF hT ?_);rw[ai ()];show lD ?_;unfold seqItems?;show lD (ab6 l (SH (SH ?_)));show UA (wpAny_dictSet_pairs Yf N (λa d2 Q=>?_) ?_)
  .show SH #[Vf F.plain_upd_loop _,?_];let e2:∀b o,b≠dd->c.get? b=cL o->a.get? b=cL o:=λb o hb e=>(Q.2 b hb).trans e;show T (i+1) a (d+1) () O (st.1.at λo e=>e2 I o M e) (st.2.at λo e=>e2 ax o L e) ?_ λb o h1 a e=>e2 b o h1 (t b o h1 a e);rw[merged_take_succ [] ks i (k,x) G];show d2
  .let:(merged [] (ks.take i)).length<=(ks.take i).length:=vV _;rw[T7]at this;ext
end
end PySem
namespace PySem
open Sem (wp)
open PyProof.Rows
section
variable{P:Tg}{w:TN}{A:Tv}{E:OK->SS->Prop}{s:SS}{K:Type}[DecidableEq K]{X:KeyKind P w K}{N:SU}{Y:Array OK}{ks:cb (K×OK)}{R:Yk->SS->Prop}
def my(C:A.handled=S)(B:s.heap.get? N=cL #[.type "tuple",S,.seq Y n,sl])(H:ks.length=Y.size)(D:Y.size<=S8)
  (I:∀(i:Nat) (v:T),Y[i]?=cL v->∃q key k x,v=.ref q/\ks[i]?=cL (k,x)/\X.is k key=U/\s.heap.IsTuple q #v[key,x])
  (h:∀c y,c.DictOf X s.heap.objs.size (merged [] ks)->(∀b o,s.heap.get? b=cL o->c.get? b=cL o)->Q (.ref s.heap.objs.size) {s with heap:=c,toks:=y}):
  wpAny (model P w) A (call (.type "dict") [.ref N]) Q E s:=by
 show Zv (Q₁:=λobj a=>obj=.ref s.heap.objs.size/\a={s with heap:=s.heap.push {cls:=.type "dict",data:=.dict #v[]}}) F.kt_called_dict (F.kt_typeCall_dict_1 _) F.entry_dict_init (ads _ #[W,W]) ?_;rintro obj a ⟨rfl,rfl⟩;let l:(s.heap.push {cls:=.type "dict",data:=.dict #v[]}).DictOf X s.heap.objs.size []:=Heap.DictOf.new s.heap;let t:(s.heap.push {cls:=.type "dict",data:=.dict #v[]}).get? N=cL #[.type "tuple",S,.seq Y n,sl]:=cj _ B;let J:({s with heap:=s.heap.push {cls:=.type "dict",data:=.dict #v[]}}:SS).TypeIs (.ref N) "tuple":=#[_,t,W];show#[l.typeIs,F.args_dict_init_2 _ _,?_];unfold Builtin.«dict.__init__»;show lD ?_;ext Builtin.Dict.selfAndRest;show lD (Vi l.typeIs ?_);show SH ?_;show wpAny _ _ (Builtin.Dict.updateFrom "dict.__init__" s.heap.objs.size (.ref N) [] .none) _ _ _;ext Builtin.Dict.updateFrom;show lD (VF J ?_);rw[ai ()];show lD (mz t C λc G g=>?_);rw[ai (show(S:cc T).isNone=U from rfl)];show lD (XF ?_);let f:=g _ _ t;let p:c.IsTuple N Y:=#[_,f,W,n,W];show lD (XQ p ?_);show SH #[Vf F.plain_upd_loop _,?_];let ltd:s.heap.objs.size<c.objs.size:=by let(o,_,_,j,_):=l;show cv (g _ _ j)
 let d:=cv B;show Ci (A:=A.in1) (knd:=X) C (TB (Vx d ltd)) (UZ ltd) (TB d) (λi v e=>?_) H D (λr m M k2=>?_) Y.size 0 _ G () (TX _) #[_,c0 _ W,W,W] #[_,cj _ f,W,n,W] ?_ λb o _ _ e=>e
 .let(q,key,k,x,rfl,h1,r,o,j,L):=I i v e;let u:=cv j;show#[q,key,k,x,W,TB u,TB (Vx u ltd),h1,r,o,cj _ (g _ _ (cj _ j)),L]
 .show#[W,h r m M λb o e=>?_];let z:=cv e;show k2 b o (TB z) (TB (Vx z ltd)) (cj _ (g _ _ (cj _ e)))
 .let:=l.at (h':=c.push {cls:=.type "tuple_iterator",data:=.fields #v[.ref N,.int 0 0]}) λo e=>cj _ (g _ _ e);show this
end
end PySem
namespace L10
open PySem PySem.Spec PyProof.Rows L2 L3
inductive YO(K:Bn)(H:Hp):G V->G (bz×V)->Prop
 |nil:YO K H [] []
 |cons {q:J} {k:bz} {v:V} {vs:G V} {kvs:G (bz×V)}:WY K H q [kV k,v]->YO K H vs kvs->YO K H (.ref q::vs) ((k,v)::kvs)
def vM(K:Bn):G V->Hp->VK->Prop:=λxs H Q=>∃p ys a,xs=[.ref p]/\WY K H p ys/\YO K H ys a/\∀d,H d=S->Q (.ref d) (upd H d (.dK (gy [] a)))
theorem D2(I:Inv X pins σ H s):∀{ys:G V} {o:G (bz×V)} {g:G T},YO X.K H ys o->Vals ys g->∃p:G (bz×T),KV o p/\p.length=g.length/\∀(i:Nat) (v:T),g[i]?=M v->∃q key k x,v=.ref q/\p[i]?=M (k,x)/\(bU X.prog X.w).is k key=U/\s.heap.IsTuple q #v[key,x]
 |_,_,_,.nil,.nil=>#[[],.nil,W,λi v e=>by simp at e]
 |_,_,_,.cons (q:=q) (k:=k) (v:=v) h t,.cons r rs=>by
  let(p,h1,m,l):=D2 I t rs;let(n,z,pl,_):=I.tuple h;ext r;obtain⟨f,d,rfl,rk,j⟩:∃f d,n=[f,d]/\RelV (kV k) f/\RelV v d:=by
   cases z with
   |cons a b=>cases b with
    |cons b c=>ext c;show#[_,_,W,a,b]
  show#[(k,d)::p,.cons #[W,j] h1,by rw[S0,S0,m],λi u e=>?_];cases i with
  |zero=>ext e;show#[q,f,k,d,W,W,ni rk,pl]
  |succ i=>show l i u (by simpa using e)
def vQ(E:X.calm=U):fF X (.type "dict") (vM X.K):=by
 intro d s F H xs G Q I r h;let(p,ys,Y,rfl,m,t,q):=h;let(u,rfl,f):=l8 r;ext f;let(P,rv,(o,w,(b,n,C),a),l):=I.acz m;let(N,k1,k2,k3):=D2 I t rv;let(M,L,j,g):=o;ext b;ext C;ext a;let z:=rv.length;let A:=k1.length;show my (I.ok.hd E) w (by rw[Tb];show k2) (by rw[Tb,<-z];show l) (λi v e=>k3 i v (by simpa using e)) λO J dd B=>?_;show#[.ref s.heap.objs.size,_,I.laid B (SN _) ?_,W,q _ (I.U9.fresh (SN _))];show xa ?_ ?_ (KV.merge k1 .nil) dd
 .let:=gD Y [];rw[UG]at this;ext
 .show beq_eq_false_iff_ne.mpr (UZ I.big)
end L10
namespace L10
open PySem PyProof.Rows L2 L3
def DS:Uc "dict"=M (.type "dict"):=by decide+kernel
section
variable{B O O':a5}{K:Bn}{E:XK}{H H' T S:Hp}{Z α' Y U:cb SU}{ω ω' ω1 ω2:aI}{X:L2.St}{ρ:aH}{v:V}
def mq:SV->I bz
 |.fz (.int i)=>M (.inl i)
 |.fz (.str x)=>M (.inr x)
 |_=>CL
def kC(e:mq x=M k)(h:Wz O K H Z v x):v=kV k:=by
 unfold mq at e;split at e
 .ext e;ext h;rfl
 .ext e;ext h;rfl
 .ext e
abbrev uy(O:a5)(K:Bn)(H:Hp)(Z:G J):G (bz×V)->G (bz×SV)->Prop:=Paired (λ(p:bz×V) (q:bz×SV)=>p.1=q.1/\Wz O K H Z p.2 q.2)
def jM(ω:aI):SV->I (Nat×G (bz×SV))
 |.rf i=>match ω[i]? with
  |some (.VI a)=>M (i,a)
  |_=>CL
 |_=>CL
def sF(s:TK B K H Z ω)(b:Wz (ow B Z ω) K H Z v x)(h:jM ω x=M (i,o)):ω[i]?=M (.VI o)/\∃a ws,Z[i]?=M a/\v=.ref a/\H a=M (.dK ws)/\uy (ow B Z ω) K H Z ws o:=by
 cases x with
 |fz d=>ext h
 |tp l=>ext h
 |rf j=>
  let(a,g,rfl):=b;unfold jM at h;dsimp only at h;cases q:ω[j]? with
  |none=>rw[q]at h;ext h
  |some c=>
   rw[q]at h;cases c with
   |VI ys=>let e:=Tx h;ext e;let(ws,h1,f):=s.YQ i a _ g q;show#[q,a,ws,g,W,h1,f]
   |_=>ext h
def ce(b:G (bz×SV))(k:bz):I SV:=(b.find? λa=>decide (a.1=k)).map (·.2)
def gh(b:G (bz×SV))(k:bz)(x:SV):G (bz×SV):=
 if(b.any λa=>decide (a.1=k))=SJ then b.map (λa=>if a.1=k then(a.1,x)else a)else b++[(k,x)]
def xR:∀{ws:G (bz×V)} {c:G (bz×SV)},uy O K H Z ws c->(∀x,ce c k=M x->∃v,iP ws k=M v/\Wz O K H Z v x)/\(ce c k=CL->iP ws k=CL):=by
 intro _ _ d
 induction d with
 |nil=>show#[λx e=>(by ext e),λ_=>W]
 | @cons j i ws c g t l=>
  let(a,u):=j;let(b,y):=i;let(h1,f):=g;ext h1;unfold ce iP;rw[Tu,Tu];by_cases e:a=k
  .simp only[a6 e];show#[λx h=>#[u,W,by ext h;show f],λh=>by ext h]
  .simp only[a7 e];show l
def QV:∀{ws:G (bz×V)} {c:G (bz×SV)},uy O K H Z ws c->(ws.any λf=>decide (f.1=k))=c.any λf=>decide (f.1=k):=by
 intro _ _ d
 induction d with
 |nil=>show W
 | @cons i h ws c g t j=>let(a,u):=i;let(b,y):=h;let(h1,e):=g;ext h1;rw[Ws,Ws,j]
def QI(f:Wz O K H Z v x):∀{ws:G (bz×V)} {c:G (bz×SV)},uy O K H Z ws c->uy O K H Z (ws.map (λh=>if h.1=k then(h.1,v)else h)) (c.map (λh=>if h.1=k then(h.1,x)else h)):=by
 intro _ _ d
 induction d with
 |nil=>show .nil
 | @cons m l ws c j t i=>
  let(a,u):=m;let(b,y):=l;let(h1,g):=j;ext h1;rw[SX,SX];by_cases e:a=k
  .rw[ai e,ai e];show .cons #[W,f] (i)
  .rw[ak e,ak e];show .cons #[W,g] (i)
def DL(h:uy O K H Z ws o)(r:p.1=q.1/\Wz O K H Z p.2 q.2):uy O K H Z (ws++[p]) (o++[q]):=by
 induction h with
 |nil=>show .cons r .nil
 |cons a _ b=>show .cons a b
def xU(a:Wz O K H Z v x)(h:uy O K H Z ws o):uy O K H Z (gL ws k v) (gh o k x):=by
 unfold gL gh;rw[QV h];split
 .show QI a h
 .show DL h #[W,a]
def jT(neg:Bool)(a fd:bQ):bQ:=λρ ω=>(a ρ ω).bind λx ω1=>(fd ρ ω1).bind λo ω2=>(RS.T6 ω2 (mq x)).bind λk ω2=>(RS.T6 ω2 (jM ω2 o)).bind λp ω2=>.ok (.fz (.bool ((ce p.2 k).isSome !=neg))) ω2
def tT(h:uy O K H Z ws o):(iP ws k).isSome=(ce o k).isSome:=by
 let(h1,a):=xR h;cases q:ce o k with
 |none=>rw[a q];rfl
 |some x=>let(u,e,_):=h1 x q;rw[e];rfl
def Io(p:cg K E C fk)(hd:cg K E td fd):cg K E (NB C td) (jT SW fk fd):=by intro B X H Z ω ρ Q s d w;show p B X H Z ω ρ _ s d (w.bind.imp λx Y ω1 T e1 h g v m=>?_);show hd B X T Y ω1 ρ _ h (d.VW e1) (g.bind.imp λo U ω2 S e2 e b u n=>?_);let(k,l,b):=WS.T6 b;let((i,t),j,b):=WS.T6 b;let(_,a,f,z,rfl,r,q):=sF e n j;show#[a,iP f k,W,by rw[kC l m];show Yd.k r,?_];rw[tT q];show WS.now e b _ ?_;rw[YL];show .bl _
def EN(p:cg K E C fk)(hd:cg K E td fd):cg K E (y0 C td) (jT SJ fk fd):=by intro B X H Z ω ρ Q s d w;show p B X H Z ω ρ _ s d (w.bind.imp λx Y ω1 T e1 h g v m=>?_);show hd B X T Y ω1 ρ _ h (d.VW e1) (g.bind.imp λo U ω2 S e2 e b u n=>?_);let(k,l,b):=WS.T6 b;let((i,t),j,b):=WS.T6 b;let(_,a,f,z,rfl,r,q):=sF e n j;show#[a,iP f k,W,by rw[kC l m];show Yd.k r,?_];rw[tT q];show WS.now e b _ ?_;rw[Y4];show .bl _
def mh(fd a:bQ):bQ:=λρ ω=>(fd ρ ω).bind λo ω1=>(a ρ ω1).bind λx ω2=>(RS.T6 ω2 (mq x)).bind λk ω2=>(RS.T6 ω2 (jM ω2 o)).bind λp ω2=>RS.T6 ω2 (ce p.2 k)
def A4(hd:cg K E td fd)(r:cg K E tk fk):cg K E (JN td tk) (mh fd fk):=by
 intro B X H Z ω ρ Q s d w;show hd B X H Z ω ρ _ s d (w.bind.imp λo Y ω1 T e1 h f u p=>?_);show r B X T Y ω1 ρ _ h (d.VW e1) (f.bind.imp λx U ω2 S e2 e b v n=>?_);let(k,l,b):=WS.T6 b;let((i,L),j,b):=WS.T6 b;let(_,a,C,N,rfl,A,t):=sF e (p.VW e2) j;dsimp only at b;cases q:ce L k with
 |none=>rw[q]at b;show b.elim
 |some y=>rw[q]at b;let(z,m,g):=(xR t).1 y q;show#[a,z,W,by rw[kC l n,<-m];show Yd.k A,WS.now e b z g]
def tR(fd c b:bQ):fM:=λρ ω=>(b ρ ω).bind λy ω1=>(fd ρ ω1).bind λo ω2=>(c ρ ω2).bind λx a=>(RS.T6 a (mq x)).bind λk a=>(RS.T6 a (jM a o)).bind λp a=>if p.2.length<1000000 then .ok (.nx ρ) (a.set p.1 (.VI (gh p.2 k y)))else .bad
def A2(hd:cg K E td fd)(N:cg K E tk fk)(L:cg K E tv fv):o7 K E (Jp td tk tv) (tR fd fk fv):=by
 intro B X H Z ω ρ D s f w;show L B X H Z ω ρ _ s f (WS.imp (WS.bind w) λy Y ω1 T e1 F A n l=>?_);show hd B X T Y ω1 ρ _ F (f.VW e1) (WS.imp (WS.bind A) λo U ω2 S e2 C t u M=>?_);show N B X S U ω2 ρ _ C (f.VW (e1.trans e2)) (WS.imp (WS.bind t) λx b d g e3 p e z J=>?_);let(k,I,e):=WS.T6 e;let((i,kvs),G,e):=WS.T6 e;let(j,a,m,ha,rfl,P,q):=sF p (M.VW e3) G;dsimp only at e;by_cases hn:kvs.length<1000000
 .rw[ai hn]at e;let ev:Ev (ow B b d) g (ow B b d) (upd g a (.dK (gL m k n))):=tm ha j (by nofun);let e4:Ve b d g b (d.set i (.VI (gh kvs k y))) (upd g a (.dK (gL m k n))):=Ve.put ha j (by nofun) (by nofun);let Q:=Paired.length q;show#[a,_,W,by rw[kC I J];show aaH.k P (pR ()),?_];show e b _ e4 (p.put ha j (by nofun) (by nofun) #[_,ay,xU ((l.VW (e2.trans e3)).ev ev λ_ _ h=>h) (Paired.WU q λ_ _ r=>#[r.1,r.2.ev ev λ_ _ h=>h])]) X ((f.VW (e1.trans (e2.trans e3))).VW e4)
 .rw[ak hn]at e;show e.elim
def nX(s:TK B K H Z ω)(a:H p=CL)(w:WS K E B H Z ω (PQ B K Q) (.ok (.rf ω.length) (ω++[c])))(d:∀e:Ve Z ω H (Z++[p]) (ω++[c]) (upd H p o),COk (ow B (Z++[p]) (ω++[c])) K (upd H p o) (Z++[p]) p c):Q (.ref p) (upd H p o):=by let b:U7 H (upd H p o):=bw a _;let e:Ve Z ω H (Z++[p]) (ω++[c]) (upd H p o):=Ve.Yg s.len b a;show w _ _ e (s.Yg b a (by rw[ay];simp) (d e)) _ #[p,by rw[<-s.len];show aG,W]
def og:D->I (bz×SV)
 |.tuple [.int i,d]=>M (.inl i,.fz d)
 |.tuple [.str x,d]=>M (.inr x,.fz d)
 |_=>CL
def nu:SV->I (G (bz×SV))
 |.fz (.tuple ds)=>aq og ds
 |_=>CL
def Ax(e:nu x=M o):∃ds,x=.fz (.tuple ds)/\aq og ds=M o:=by
 unfold nu at e;split at e
 .show#[_,W,e]
 .ext e
def eE(c a:G (bz×SV)):G (bz×SV):=a.foldl (λb d=>gh b d.1 d.2) c
def pU(b:bQ):bQ:=λρ ω=>(b ρ ω).bind λx ω1=>(RS.T6 ω1 (nu x)).bind λa ω1=>.ok (.rf ω1.length) (ω1++[.VI (eE [] a)])
theorem uq:∀{k:G V} {ds:G D} {j:G (bz×SV)},L3.UN O K H k ds->aq og ds=M j->∃g,YO K H k g/\uy O K H Z g j
 |_,_,_,.nil,e=>by ext e;show#[[],.nil,.nil]
 |_,_,_,.cons (d:=d) (ds:=ds) h t,e=>by
  unfold aq at e;cases q:og d with
  |none=>rw[q]at e;ext e
  |some p=>
   rw[q]at e;dsimp only at e;cases i:aq og ds with
   |none=>rw[i]at e;ext e
   |some j=>
    rw[i]at e;ext e;let(g,k1,k2):=uq t i;unfold og at q;split at q
    .ext q
     cases h with
     |tup h f=>cases f with
      |cons a b=>cases b with
       |cons b c=>ext c;ext a;show#[(.inl _,_)::g,.cons h.1 k1,.cons #[W,b] k2]
    .ext q
     cases h with
     |tup h f=>cases f with
      |cons a b=>cases b with
       |cons b c=>ext c;ext a;show#[(.inr _,_)::g,.cons h.1 k1,.cons #[W,b] k2]
    .ext q
theorem qN:∀{d:G (bz×V)} {e:G (bz×SV)} {ws:G (bz×V)} {c:G (bz×SV)},uy O K H Z d e->uy O K H Z ws c->uy O K H Z (gy ws d) (eE c e)
 |_,_,_,_,.nil,h=>h
 |(a,u)::d,(b,y)::e,_,_,.cons r t,h=>by let(g,f):=r;ext g;show uy O K H Z (gy (gL _ a u) d) (eE (gh _ a y) e);show qN t (xU f h)
def BQ(l:cg K E o C):cg K E (AM (vM K) (dr o jd)) (pU C):=by
 intro B X H Z ω ρ Q s f w;show l B X H Z ω ρ _ s f (w.bind.imp λx Y ω1 T e1 g b u i=>?_);let(p,q,a):=WS.T6 b;let(ds,rfl,q):=Ax q;let a:=a;cases i with
 |tup h j=>let(n,k1,k2):=uq j q;show#[_,_,n,W,h.1,k1,λd m=>nX g m a λe=>#[_,ay,qN (Paired.WU k2 λ_ _ r=>#[r.1,r.2.VW e]) .nil]]
end
end L10
namespace L10
open PySem L2 L3
section
variable{B O O':a5}{K:Bn}{E:XK}{H H' H1 H2:Hp}{X Y U α2:cb SU}{ω Z ω1 ω2:aI}{σ:L2.St}{ρ:aH}{v:V}
def fH{l r:G A}(h:(l++r)[i]?=M y):l[i]?=M y\/∃j,i=l.length+j/\r[j]?=M y:=by
 by_cases hi:i<l.length
 .rw[Ti hi]at h;show .inl h
 .rw[Tr ()]at h;show .inr #[i - l.length,by ext,h]
def HU{l r:G A}{i:Nat}(h:l[i]?=M y):(l++r)[i]?=M y:=by rw[Ti (SK.mp h).1];show h
def AW{l r:G A}(h:r[i]?=M y):(l++r)[l.length+i]?=M y:=by rw[Tr (),V7];show h
def EG(f:X.length=ω.length)(h:Lv (X++o) (ω++cs) b):Lv X ω b\/b∈o:=by
 let(i,d,h1,e,a):=h;rcases fH h1 with g1|⟨j,e1,g1⟩
 .rcases fH e with g2|⟨k,e2,g2⟩
  .show .inl #[i,d,g1,g2,a]
  .let:=(SK.mp g1).1;ext
 .show .inr (Te g1)
theorem Ve.Y2(s:TK B K H X ω)(e:U7 H H')(d:∀p∈ps,H p=S):Ve X ω H (X++ps) (ω++cs) H':=
 #[λi a h=>HU h,λb u q _=>e b u q,λb z=>(EG s.len z).imp id λz=>d b z]
def TK.Y2(s:TK B K H X ω)(e:U7 H H')(f:∀p∈ps,H p=S)(l:∀p∈ps,H' p≠S)(nd:∀(i j:Nat) (a:J),ps[i]?=M a->ps[j]?=M a->i=j)(r:ps.length=cs.length)
  (new:∀(i:Nat) (a:J) (c:Cell),ps[i]?=M a->cs[i]?=M c->COk (ow B (X++ps) (ω++cs)) K H' (X++ps) a c):TK B K H' (X++ps) (ω++cs):=by
 let ev:Ve X ω H (X++ps) (ω++cs) H':=Ve.Y2 s e f;let n:∀b,H b≠S->H' b≠S:=λb h z=>h (e.free z);show#[by rw[SQ,SQ,s.len,r],λi j a h1 g=>?_,λa h=>n a (s.bn a h),λa h i q=>?_,λi a h=>?_,λi a d h1 g=>?_]
 .rcases fH h1 with g1|⟨u,e1,g1⟩<;>rcases fH g with g2|⟨t,e2,g2⟩
  .show s.nd i j a g1 g2
  .show b9 (f a (Te g2)) (s.al i a g1)
  .show b9 (f a (Te g1)) (s.al j a g2)
  .let:=nd u t a g1 g2;ext
 .rcases fH q with q|⟨j,_,q⟩
  .show s.ba a h i q
  .show s.bn a h (f a (Te q))
 .rcases fH h with h|⟨j,_,h⟩
  .show n a (s.al i a h)
  .show l a (Te h)
 .let m:=s.len
  rcases fH g with g2|⟨j,e2,g2⟩
  .rcases fH h1 with g1|⟨k,e1,g1⟩
   .show(s.YQ i a d g1 g2).ev ev.ev ev.pre λo q=>e _ _ q
   .let:=(SK.mp g2).1;ext
  .rcases fH h1 with g1|⟨k,e1,g1⟩
   .let:=(SK.mp g1).1;ext
   .let:k=j:=by ext
    subst this;show new k a d g1 g2
def uZ(Z:aI):Nat->G AV->I (G AV×G (G D)×G Nat)
 |_,[]=>M ([],[],[])
 |n,.fz d::r=>match uZ Z n r with
  |some (l,cs,a)=>M (.fz d::l,cs,a)
  |none=>S
 |n,.rf i::r=>match sh Z (.rf i)with
  |some (.list ds)=>(match uZ Z (n+1) r with
   |some (l,cs,a)=>M (.rf n::l,ds::cs,i::a)
   |none=>S)
  |_=>S
def Ob(ds:G D):Cell:=.lst (ds.map .fz)
def dC(x:SV)(Z ω:aI):RS SV:=match x with
 |.fz d=>.ok (.fz d) ω
 |.rf i=>(match sh Z (.rf i)with
  |some (.list ds)=>iB ω (.ow ds)
  |_=>.bad)
 |.tp l=>(match uZ Z ω.length l with
  |some (a,cs,b)=>if b.Nodup then .ok (.tp a) (ω++cs.map Ob)else .bad
  |none=>.bad)
def rY(h:sh ω (.rf i)=M (.list ds)):∃xs,ω[i]?=M (.lst xs)/\aq lN xs=M ds:=by
 unfold sh at h;dsimp only at h;cases q:ω[i]? with
 |none=>rw[q]at h;ext h
 |some c=>
  rw[q]at h;cases c with
  |lst xs=>
   dsimp only at h;cases a:aq lN xs with
   |none=>rw[a]at h;ext h
   |some es=>rw[a]at h;ext h;show#[xs,W,a]
  |_=>ext h
def jS(s:TK B K H X ω)(h:sh ω (.rf i)=M (.list ds)):∃a c,X[i]?=M a/\H a=M (.lst c)/\L3.UN (ow B X ω) K H c ds/\ow B X ω a:=by let(xs,b,d):=rY h;let(a,g):=s.at b;let(c,h1,f):=s.YQ i a _ g b;show#[a,c,g,h1,jQ (bV (R:=Wz (ow B X ω) K H X) (λv x y r e=>vE r e) f d),.inr #[i,_,g,b,by intro z;ext z]]
def Oy{o:a5}(s:TK o K H' Y Z):∀{n:Nat} {l u:cb AV} {cs:cb (cb D)} {g:cb Nat} {xs:cb V},uZ Z n l=cL (u,cs,g)->Paired (AOk (ow o Y Z) K H' Y) xs l->
  ∃c:cb SU,c.length=g.length/\cs.length=g.length/\(∀(k j:Nat),g[k]?=cL j->∃a ds y,c[k]?=cL a/\cs[k]?=cL ds/\Y[j]?=cL a/\H' a=cL (.lst y)/\L3.UN (ow o Y Z) K H' y ds/\ow o Y Z a)/\
   ∀(b:cb SU),b.length=n->Paired (AOk (ow o Y Z) K H' (b++c)) xs u:=by
 intro n l u cs g xs e p
 induction p generalizing n u cs g with
 |nil=>ext e;show#[[],W,W,λk j h=>by simp at h,λb _=>.nil]
 | @cons _ x _ r h t P=>
  cases x with
  |fz d=>
   unfold uZ at e;cases q:uZ Z n r with
   |none=>rw[q]at e;ext e
   |some p=>let(l1,F,w):=p;rw[q]at e;ext e;let(c,h1,C,A,z):=P q;show#[c,h1,C,A,λb f=>.cons h (z b f)]
  |rf i=>
   unfold uZ at e;cases N:sh Z (.rf i)with
   |none=>rw[N]at e;ext e
   |some d=>
    rw[N]at e;cases d with
    |list ds=>
     dsimp only at e;cases q:uZ Z (n+1) r with
     |none=>rw[q]at e;ext e
     |some p=>
      let(l1,F,w):=p;rw[q]at e;ext e;let(c,h1,C,A,z):=P q;let(a,y,Q,I,L,J):=jS s N;show#[a::c,by rw[S0,S0,h1],by rw[S0,S0,C],λk j G=>?_,λb f=>?_]
      .cases k with
       |zero=>ext G;show#[a,ds,y,W,W,Q,I,L,J]
       |succ k=>show A k j (by simpa using G)
      .let e2:b++a::c=(b++[a])++c:=by simp
       let(M,m,rfl):=h;rw[Q]at m;ext m;show .cons #[a,by rw[<-f];show AW (l:=b) (r:=a::c) (i:=0) W,W] ?_;rw[e2];show z (b++[a]) (by rw[SQ,f];rfl)
    |_=>ext e
def zV(s:TK B K H X ω)(w:WS K E B H X ω (PQ B K Q) (dC x Z ω))(y:Ve [] [] H Y Z H')(I:TK (ow B X ω) K H' Y Z)(L:Wz (ow (ow B X ω) Y Z) K H' Y v x):Q v H':=by
 let F:=λb o h=>y.kp b o h λ#[i,c,q,_]=>by simp at q
 let sub:∀b,ow B X ω b->ow (ow B X ω) Y Z b:=λb z=>.inl z;let fr:=λi a c h1 h2 h3=>(y.lv a #[i,c,h1,h2,h3]).elim (λ#[i,c,q,_]=>by simp at q) id;cases x with
 |fz d=>show w X H' (Ve.same F) (s.grow F) v (DV.ev (Ev.sub sub) L)
 |rf i=>
  unfold dC at w;dsimp only at w;cases qs:sh Z (.rf i)with
  |none=>rw[qs]at w;show w.elim
  |some d=>
   rw[qs]at w;cases d with
   |list ds=>let(a,vs,ha,h1,hd,N):=jS I qs;let(xs,e,_):=rY qs;let(a',G,rfl):=L;rw[ha]at G;ext G;show mW s w F (fr i a _ ha e (by nofun)) h1 hd sub N
   |_=>show w.elim
 |tp l=>
  unfold dC at w;dsimp only at w;cases qg:uZ Z ω.length l with
  |none=>rw[qg]at w;show w.elim
  |some p=>
   let(l',cs,J):=p;rw[qg]at w;dsimp only at w;by_cases hn:J.Nodup
   .rw[ai hn]at w
    let(a,xs,rfl,ht,hl):=L;let(ps,g1,g2,g3,g4):=Oy I qg hl;let C:∀(k:Nat) (b:SU),ps[k]?=cL b->∃j ds vs,J[k]?=cL j/\cs[k]?=cL ds/\Y[j]?=cL b/\H' b=cL (.lst vs)/\L3.UN (ow (ow B X ω) Y Z) K H' vs ds/\ow (ow B X ω) Y Z b:=λk b hb=>by
     let f:k<J.length:=by rw[<-g1];show(SK.mp hb).1
     let(b',ds,vs,e,A,u,m,t,g):=g3 k _ (Tc f);rw[hb]at e;ext e;show#[_,ds,vs,Tc f,A,u,m,t,g]
    let nB:∀(j:Nat) (b:SU),Y[j]?=cL b->ow (ow B X ω) Y Z b->H b=CL:=λj b P N=>by
     rcases N with z|⟨i,c,z1,z2,z3⟩
     .show b9 P (I.ba b z j)
     .show fr i b c z1 z2 z3
    let fp:∀p∈ps,H p=CL:=λp M=>by let(k,f):=Wm.mp M;let(j,ds,vs,e,A,u,m,t,g):=C k p f;show nB j p u g
    let n:∀b,ow B (X++ps) (ω++cs.map Ob) b->ow (ow B X ω) Y Z b:=λb z=>by
     rcases z with z|z
     .show .inl (.inl z)
     .rcases EG s.len z with z|z
      .show .inl (.inr z)
      .let(k,f):=Wm.mp z;let(j,ds,vs,e,A,u,m,t,g):=C k b f;show g
    let ev:=Ve.Y2 (cs:=cs.map Ob) s F fp;show w (X++ps) H' ev (s.Y2 F fp (λp M=>?_) (λi j b hi P=>?_) (by rw[SI,g1,g2]) λi b c hi hc=>?_) (.ref a) #[a,xs,W,ht.ev (Ev.sub n),Paired.WU (g4 X s.len) λ_ _ r=>r.ev (Ev.sub n) λ_ _ h=>h]
    .let(k,f):=Wm.mp M;let(j,ds,vs,e,A,u,m,t,g):=C k p f;rw[m];simp
    .let(j1,_,_,T,_,p3,_):=C i b hi;let(j2,_,_,r1,_,r3,_):=C j b P;let:=I.nd j1 j2 b p3 r3;subst this;let S:=(SK.mp T).1;show(List.getElem?_inj S hn).mp (T.trans r1.symm)
    .let(j,ds,vs,e,A,u,m,t,g):=C i b hi;rw[S3,A]at hc;ext hc;show#[vs,m,kR _ _ (t.ev (Ev.sub n))]
   .rw[ak hn]at w;show w.elim
def iE(F:kO)(n:Nat)(xs:G SV)(ω:aI):RS SV:=if xs.length=n then(match aq lN xs with
 |some ds=>(match F (ds.map .fz) []with
  |.ok x Z=>dC x Z ω
  |.er x _=>.er x ω
  |.bad=>.bad)
 |none=>.bad)else .bad
def fV(F:kO)(n:Nat)(a:AC):bQ:=λρ ω=>(a ρ ω).bind λxs ω1=>gr (iE F n xs ω1)
theorem A7(h:∀a,B a->H a≠S):TK B K H [] []:=#[W,λi j a h=>by simp at h,h,λa h i=>by simp,λi a h=>by simp at h,λi a c h=>by simp at h]
theorem sR:∀{xs:G SV} {ds:G D},aq lN xs=M ds->xs=ds.map .fz
 |[],_,e=>by ext e;rfl
 |x::r,ds,e=>by
  unfold aq at e;cases x with
  |fz d=>
   dsimp only[lN]at e;cases q:aq lN r with
   |none=>rw[q]at e;ext e
   |some es=>rw[q]at e;ext e;rw[SX,<-sR q]
  |rf i=>ext e
  |tp l=>ext e
def CV(s:TK B K H X ω)(d:Wo (ow B X ω) K H X C xs)(w:WS K E B H X ω (PQ B K Q) (iE F n xs ω)):AH K n F C H Q E:=by
 unfold iE at w;by_cases hn:xs.length=n
 .rw[ai hn]at w
  show#[d.length.trans hn,?_];cases q:aq lN xs with
  |none=>rw[q]at w;show w.elim
  |some ds=>
   rw[q]at w;dsimp only at w;let j:=sR q;show#[ow B X ω,[],[],ds.map .fz,A7 s.owd,?_,?_]
   .rw[j]at d;show kR _ _ ((vU d).ev (Ev.sub λb z=>z.elim id λ#[i,c,q,_]=>by simp at q))
   .cases l:F (ds.map .fz) []with
    |bad=>rw[l]at w;show w.elim
    |ok x Z=>rw[l]at w;show λY H' e g v a=>zV s w e g a
    |er x Z=>
     rw[l]at w;intro c m Y H' e g k;let f:=λb o h=>e.kp b o h λ#[i,c,q,_]=>by simp at q
     show w c m X H' (Ve.same f) (s.grow f) (XOk.sub (λb z=>.inl z) k)
 .rw[ak hn]at w;show w.elim
def zM(c:G3 K E o C):cg K E (qp (AH K n F) [] E0 o) (fV F n C):=by intro B σ H X ω ρ Q s b w;show c B σ H X ω ρ _ s b (w.bind.imp λxs U ω1 H1 e1 d a f e=>?_);rw[TC];show CV d e (WS.e0 a)
def PF(F:kO):FN:=λds=>match F (ds.map .fz) []with
 |.ok (.fz d) _=>.ok (.fz d)
 |.ok (.rf i) ω=>(match sh ω (.rf i)with
  |some (.list ds)=>.ok (.ow ds)
  |_=>.bad)
 |.ok (.tp _) _=>.bad
 |.er x _=>.er x
 |.bad=>.bad
def Kh(h:zj K n (PF F) vs H Q E):AH K n F vs H Q E:=by
 let(u,B,ds,C,G,w):=h;show#[u,B,[],[],ds.map .fz,A7 C,kR _ _ (G.ev (Ev.sub λb z=>z.elim id λ#[i,c,q,_]=>by simp at q)),?_];unfold PF at w;cases N:F (ds.map .fz) []with
 |bad=>rw[N]at w;show w.elim
 |er x Z=>rw[N]at w;intro c dx Y H' f j k;show w c dx H' (λb o h=>f.kp b o h λ#[i,c,q,_]=>by simp at q) (XOk.sub (λb z=>.inl z) k)
 |ok x Z=>
  rw[N]at w;intro Y H' f j v m;let g:=λb o h=>f.kp b o h λ#[i,c,q,_]=>by simp at q
  cases x with
  |fz d=>show w v H' g (DV.ev (Ev.sub λb z=>.inl z) m)
  |tp l=>show w.elim
  |rf i=>
   dsimp only at w;cases L:sh Z (.rf i)with
   |none=>rw[L]at w;show w.elim
   |some d=>
    rw[L]at w;cases d with
    |list es=>let(a,p,P,h1,A,t):=jS j L;let(xs,r,_):=rY L;let(I,e,rfl):=m;rw[P]at e;ext e;show w a p H' g ((f.lv a #[i,_,P,r,by intro z;ext z]).elim (λ#[i,c,q,_]=>by simp at q) id) h1 (A.ev (Ev.sub λb z=>z.elim (λz=>.inl z) λz=>by rw[z];show t))
    |_=>show w.elim
end
def KW(P:Tg)(w:TN)(K:Bn)(d:Str->I T)(base:Heap)(a:tt)(k:Nat)(C m:Str)(c:G Str)(sp:Sp):Prop:=
 ∃b f fd,UC K T3 C=M (M (.ref b))/\Cls K b/\Meth K b m f/\FnOk P w K d base a k f fd c sp/\Binds K fd c []
def IJ(P:Tg)(w:TN)(K:Bn)(d:Str->I T)(base:Heap)(a:tt)(k:Nat)(C:Str)(c:G Str)(sp:Sp):Prop:=
 ∃b f fd,UC K T3 C=M (M (.ref b))/\d C=M (.ref b)/\Mk K b f/\FnOk P w K d base a k f fd c sp/\Binds K fd c []
section
variable{X ρ1 C:aH}{Y ω1 ω2 Q B:aI}{x y z:SV}{i n:Nat}{d L P:D}{ds:cb D}{b:Bool}
def aP(h:X[i]?=M (M x)):aX i X Y=.ok x Y:=by ext aX;rw[h]
def ar(h:f (dB X)=.ok (.fz d,o)):am f X Y=.ok (.fz d) Y:=by ext am;rw[h]
def oy(h:f (dB X)=.ok (.ow ds,o)):am f X Y=.ok (.rf Y.length) (Y++[.lst (ds.map .fz)]):=by ext am;rw[h];rfl
def eS(h:f (dB X)=.ok (b,o)):jK f X Y=.ok b Y:=by ext jK;rw[h]
def gQ(h:f (dB X)=.ok (ds,ρ')):iI f X Y=.ok ds Y:=by ext iI;rw[h]
def je(e:o X Y=.ok x ω1)(c:fb X ω1=.ok y ω2)(a:oJ f x y ω2=.ok z Q):AK f o fb X Y=.ok z Q:=by ext AK;rw[e,eJ,c,eJ,a]
def fS(h:f L P=M (.fz d)):oJ f (.fz L) (.fz P) Y=.ok (.fz d) Y:=by ext oJ;show((RS.T6 Y (f L P)).bind λa ω1=>iB ω1 a)=_;rw[h];rfl
def xl(a:sh Y x=S\/sh Y y=S)(j:j5 6 Y x=M L)(g:j5 6 Y y=M P)(h:f L P=M (.fz d))(hd:AG d=U):oJ f x y Y=.ok (.fz d) Y:=by
 let e:((RS.T6 Y (j5 6 Y x)).bind λL ω1=>(RS.T6 ω1 (j5 6 ω1 y)).bind λP ω2=>(RS.T6 ω2 (f L P)).bind λl Q=>jJ Q l)=.ok (.fz d) Y:=by rw[j];show((RS.T6 Y (j5 6 Y y)).bind λP ω2=>(RS.T6 ω2 (f L P)).bind λl Q=>jJ Q l)=_;rw[g];show((RS.T6 Y (f L P)).bind λl Q=>jJ Q l)=_;rw[h];show(if AG d=U then RS.ok (SV.fz d) Y else RS.bad)=_;rw[ai hd]
 ext oJ;rcases a with a|a
 .rw[a];show e
 .rw[a];cases sh Y x<;>show e
theorem mQ:∀ds:G D,aq lN (ds.map .fz)=M ds
 |[]=>rfl
 |d::r=>by rw[SX];ext aq;rw[mQ r];rfl
def bK(h:o X Y=.ok (.fz (.bool b)) ω1):cI o X Y=.ok b ω1:=by ext cI;rw[h];rfl
def Aa(h:o X Y=.ok U ω1)(k:fb X ω1=r):wE o fb X Y=r:=by ext wE;rw[h,eJ,ai W,k]
def Ag(h:o X Y=.ok SW ω1):wE o fb X Y=.ok SW ω1:=by ext wE;rw[h,eJ,ak Td]
def tV(h:o X Y=.ok SW ω1)(k:fb X ω1=r):Nr o fb X Y=r:=by ext Nr;rw[h,eJ,ak Td,k]
def kM(h:o X Y=.ok b ω1):uJ o X Y=.ok (!b) ω1:=by ext uJ;rw[h];rfl
theorem bJ:dH X Y=.ok [] Y:=W
def aF(c:o X Y=.ok x ω1)(a:fr X ω1=.ok xs ω2):aQ o fr X Y=.ok (x::xs) ω2:=by ext aQ;rw[c,eJ,a,eJ]
def PK(c:o X Y=.ok xs ω1)(a:xs.length<=1000)(h1:aq lN xs=S)(e:aq Qg xs=M l):BZ o X Y=.ok (.tp l) ω1:=by ext BZ;rw[c,eJ,ai a];ext QO;rw[h1];dsimp only;rw[e];rfl
def Jx(c:o X Y=.ok xs ω1)(a:aq (sh ω1) xs=M ds)(h:f ds=M (.fz d)):zI f o X Y=.ok (.fz d) ω1:=by ext zI;rw[c,eJ];ext Ig;rw[a];show((RS.T6 ω1 (f ds)).bind λe ω1=>iB ω1 e)=_;rw[h];rfl
theorem oX:gr (RS.ok a Y)=.ok a Y:=W
def tf(c:o X Y=.ok (.fz L) ω1)(a:fb X ω1=.ok (.fz P) ω2)(h:dJ L P=M (.fz d)):o8 o fb X Y=.ok (.fz d) ω2:=by ext o8;rw[c,eJ,a,eJ];show fS h
def vA(a:fo X Y=.ok (.rf i) ω1)(h1:ω1[i]?=M (.lst xs))(f:o X ω1=.ok x ω2)(g:ω2[i]?=M (.lst ys))(e:ys.length<1000000):wC fo o X Y=.ok (.fz .none) (ω2.set i (.lst (ys++[x]))):=by
 let e1:gb ω1 (.rf i)=M (i,xs):=by ext gb;dsimp only;rw[h1]
 let e2:gb ω2 (.rf i)=M (i,ys):=by ext gb;dsimp only;rw[g]
 ext wC;rw[a,eJ,e1];show((o X ω1).bind _)=_;rw[f,eJ,e2];show(if ys.length<1000000 then _ else _)=_;rw[ai e]
def xc(h:Y[i]?=M (.VI o)):jM Y (.rf i)=M (i,o):=by ext jM;dsimp only;rw[h]
def DN(a:o X Y=.ok x ω1)(hd:fd X ω1=.ok (.rf i) ω2)(h1:mq x=M k)(e:ω2[i]?=M (.VI kvs)):jT neg o fd X Y=.ok (.fz (.bool ((ce kvs k).isSome !=neg))) ω2:=by ext jT;rw[a,eJ,hd,eJ,h1];show((RS.T6 ω2 (jM ω2 (.rf i))).bind _)=_;rw[xc e];rfl
def yH(hd:fd X Y=.ok (.rf i) ω1)(a:o X ω1=.ok x ω2)(h1:mq x=M k)(f:ω2[i]?=M (.VI kvs))(e:ce kvs k=M y):mh fd o X Y=.ok y ω2:=by ext mh;rw[hd,eJ,a,eJ,h1];show((RS.T6 ω2 (jM ω2 (.rf i))).bind _)=_;rw[xc f];show RS.T6 ω2 (ce kvs k)=_;rw[e];rfl
def G5(a:o X Y=.ok y ω1)(hd:fd X ω1=.ok (.rf i) ω2)(f:fk X ω2=.ok x Q)(h1:mq x=M k)(g:Q[i]?=M (.VI kvs))(e:kvs.length<1000000):tR fd fk o X Y=.ok (.nx X) (Q.set i (.VI (gh kvs k y))):=by ext tR;rw[a,eJ,hd,eJ,f,eJ,h1];show((RS.T6 Q (jM Q (.rf i))).bind _)=_;rw[xc g];show(if kvs.length<1000000 then _ else _)=_;rw[ai e]
def yM(a:fe X Y=.ok x ω1)(h:nu x=M o):pU fe X Y=.ok (.rf ω1.length) (ω1++[.VI (eE [] o)]):=by ext pU;rw[a,eJ,h];rfl
variable{A:FlS}{r:RS FlS}
def EC(h:f X Y=.ok (.nx ρ1) ω1)(k:g ρ1 ω1=r):aW f g X Y=r:=by ext aW;rw[h,eJ];show k
def xg(h:f X Y=.ok x ω1):gf f X Y=.ok (.rt x) ω1:=by ext gf;rw[h];rfl
def F7(h:f X Y=.ok x ω1):jh f X Y=.ok (.nx X) ω1:=by ext jh;rw[h];rfl
def B8(h:f X Y=.ok x ω1)(e:X.set i (M x)=ρ1):dG f (iC i) X Y=.ok (.nx ρ1) ω1:=by subst e;ext dG;rw[h];rfl
def qM(h:f X Y=.ok x ω1)(k:frz 4 ω1 x=M (d,ω2)):mC f X Y=.ok (.fz d) ω2:=by ext mC;rw[h,eJ];ext ML;rw[k]
def EK(e:xs.map M++SY (N - xs.length) S=X)(h:g X Y=.ok (.rt x) ω1):iO N g xs Y=.ok x ω1:=by subst e;ext iO;rw[h];rfl
end
section
variable{ρ ρ1 Q:aH}{ω ω1 Y P L:aI}{x y z:SV}{i n:Nat}{d B dy:D}{ds:cb D}{b:Bool}
def GH(c:C ρ ω=.ok ds ω1)(a:cF gt o fe ds (iR n fj ρ) ω1 []=.ok xs Y):uD n fj C gt o fe ρ ω=.ok (.rf Y.length) (Y++[.lst xs]):=by ext uD;rw[c,eJ,a,oX,eJ]
theorem xA(m:Nat):∀(ds:G D),pA (frz m) ω (ds.map .fz)=M (ds,ω)
 |[]=>rfl
 |d::r=>by rw[SX];ext pA;rw[show frz m ω (.fz d)=M (d,ω) by ext m<;>rfl];dsimp only;rw[xA m r]
def rA(h:ω[i]?=M (.lst (ds.map .fz))):frz 4 ω (.rf i)=M (.list ds,ω.set i .dead):=by ext frz;rw[h];dsimp only;rw[xA]
def Ma(h:o ρ ω=.ok (.rf i) ω1)(a:ω1[i]?=M (.lst (ds.map .fz))):uQ o ρ ω=.ok ds (ω1.set i .dead):=by ext uQ;rw[h,eJ,rA a];rfl
def Oe(N C:aH->aI->Prop)(T:SV->aI->Prop):RS FlS->Prop
 |.ok (.nx ρ) ω=>N ρ ω
 |.ok (.ct ρ) ω=>C ρ ω
 |.ok (.rt v) ω=>T v ω
 |_=>False
structure Wr(r:RS FlS)(N C:aH->aI->Prop)(T:SV->aI->Prop):Prop where
 out:Oe N C T r
variable{f g:fM}{X:bQ}{N C:aH->aI->Prop}{T:SV->aI->Prop}
def Wr.eq(e:r=r')(h:Wr r' N C T):Wr r N C T:=by rw[e];show h
def Wr.imp(h:Wr r N C T)(e:∀ρ ω,N ρ ω->N' ρ ω)(j:∀ρ ω,C ρ ω->C' ρ ω)(a:∀v ω,T v ω->T' v ω):Wr r N' C' T':=by
 show#[?_];let h:=h.out;cases r with
 |bad=>show h
 |er x ω=>show h
 |ok l ω=>
  cases l with
  |nx r=>show e _ _ h
  |ct r=>show j _ _ h
  |rt v=>show a _ _ h
  |bk r=>show h
def fZ(h:Wr (f ρ ω) (λr o=>Wr (g r o) N C T) C T):Wr (aW f g ρ ω) N C T:=by
 show#[?_];let h:=h.out;ext aW;cases q:f ρ ω with
 |bad=>rw[q]at h;show h.elim
 |er x o=>rw[q]at h;show h.elim
 |ok a o=>
  rw[q]at h;cases a with
  |nx r=>show(show Wr (g r o) N C T from h).out
  |ct r=>show h
  |rt v=>show h
  |bk r=>show h.elim
def yf(h:c ρ ω=.ok b ω1)(a:b=U->Wr (f ρ ω1) N C T)(e:b=SW->Wr (g ρ ω1) N C T):Wr (fX c f g ρ ω) N C T:=by
 ext fX;rw[h,eJ];cases b with
 |true=>show a W
 |false=>show e W
theorem LK(e:c ρ ω=.ok U ω1)(a:Wr (f ρ ω1) N C T):Wr (fX c f g ρ ω) N C T:=yf e (λ_=>a) λh=>by ext h
theorem wO(e:c ρ ω=.ok SW ω1)(a:Wr (g ρ ω1) N C T):Wr (fX c f g ρ ω) N C T:=yf e (λh=>by ext h) λ_=>a
def KP(e:X ρ ω=.ok x ω1)(a:gt x ρ ω1=.ok ρ1 Y)(h:N ρ1 Y):Wr (dG X gt ρ ω) N C T:=by show#[?_];ext dG;rw[e,eJ,a,eJ];show h
theorem p9(a:f ρ ω=.ok (.nx ρ1) ω1)(h:N ρ1 ω1):Wr (f ρ ω) N C T:=#[by rw[a];show h]
theorem NY(a:f ρ ω=.ok (.rt x) ω1)(h:T x ω1):Wr (f ρ ω) N C T:=#[by rw[a];show h]
theorem rT(a:X ρ ω=.ok x ω1)(h:N ρ ω1):Wr (jh X ρ ω) N C T:=p9 (F7 a) h
theorem jb(a:X ρ ω=.ok x ω1)(h:T x ω1):Wr (gf X ρ ω) N C T:=NY (xg a) h
theorem jp(h:N ρ ω):Wr (fG ρ ω) N C T:=#[h]
theorem bA{gt:sJ}(e:X ρ ω=.ok x ω1)(a:gt x ρ ω1=.ok ρ1 Y)(h:Wr (g ρ1 Y) N C T):Wr (aW (dG X gt) g ρ ω) N C T:=fZ (KP e a h)
theorem OU(a:f ρ ω=.ok (.nx ρ1) ω1)(h:Wr (g ρ1 ω1) N C T):Wr (aW f g ρ ω) N C T:=fZ (p9 a h)
theorem sS(a:X ρ ω=.ok x ω1)(h:Wr (g ρ ω1) N C T):Wr (aW (jh X) g ρ ω) N C T:=fZ (rT a h)
def C5{h a:fM}(m:c ρ ω=.ok b ω1)(j:b=U->Wr (aW h g ρ ω1) N C T)(l:b=SW->Wr (aW a g ρ ω1) N C T):Wr (aW (fX c h a) g ρ ω) N C T:=by
 let e:aW (fX c h a) g ρ ω=if b=U then aW h g ρ ω1 else aW a g ρ ω1:=by unfold aW fX;rw[m,eJ];ext b<;>rfl
 show .eq e ?_;cases b with
 |true=>show j W
 |false=>show l W
theorem K5{a l:fM}(j:c ρ ω=.ok U ω1)(e:Wr (aW a g ρ ω1) N C T):Wr (aW (fX c a l) g ρ ω) N C T:=C5 j (λ_=>e) λh=>by ext h
theorem jc{l a:fM}(j:c ρ ω=.ok SW ω1)(e:Wr (aW a g ρ ω1) N C T):Wr (aW (fX c l a) g ρ ω) N C T:=C5 j (λh=>by ext h) λ_=>e
theorem BO(a:X ρ ω=.ok x ω1)(h:T x ω1):Wr (aW (gf X) g ρ ω) N C T:=fZ (jb a h)
theorem fJ(h:Wr (g ρ ω) N C T):Wr (aW fG g ρ ω) N C T:=fZ (jp h)
theorem rV{b:fM}(I:Nat->aH->aI->Prop):∀(ds:G D) (k:Nat) (ρ:aH) (ω:aI),I k ρ ω->(∀i d ρ ω,ds[i]?=M d->I (k+i) ρ ω->∃ρ1 ω1,gt (.fz d) ρ ω=.ok ρ1 ω1/\Wr (b ρ1 ω1) (I (k+i+1)) (I (k+i+1)) T)->Wr (jG gt b ds ρ ω) (I (k+ds.length)) C T
 |[],k,ρ,ω,h0,_=>#[h0]
 |d::r,k,ρ,ω,h0,hs=>by
  let(ρ1,ω1,h1,a):=hs 0 d ρ ω W h0;let a:=a.out;let m:∀l j,I (k+1) l j->Wr (jG gt b r l j) (I (k+(r.length+1))) C T:=λl j h=>by
   let e:k+(r.length+1)=k+1+r.length:=by ext
   rw[e];show rV I r (k+1) l j h λi A t p hi u=>?_;let e:k+1+i=k+(i+1):=by ext
   rw[e]at u⊢;show hs (i+1) A t p (by simpa using hi) u
  show#[?_];show Oe _ _ _ ((gt (.fz d) ρ ω).bind _);rw[h1,eJ];cases q:b ρ1 ω1 with
  |bad=>rw[q]at a;show a.elim
  |er x o=>rw[q]at a;show a.elim
  |ok w o=>
   rw[q]at a;cases w with
   |nx r=>show(m _ _ a).out
   |ct r=>show(m _ _ a).out
   |rt v=>show a
   |bk r=>show a.elim
def lL{b:fM}(I:Nat->aH->aI->Prop)(k:o ρ ω=.ok ds ω1)(h0:I 0 ρ ω1)(a:∀i d ρ ω,ds[i]?=M d->I i ρ ω->∃ρ1 ω1,gt (.fz d) ρ ω=.ok ρ1 ω1/\Wr (b ρ1 ω1) (I (i+1)) (I (i+1)) T)(e:∀j c,I ds.length j c->N j c):Wr (pF o gt b ρ ω) N C T:=by let:=rV (C:=C) I ds 0 ρ ω1 h0 (by simpa using a);rw[WD]at this;show .eq ?_ (this.imp e (λ_ _ h=>h) λ_ _ h=>h);ext pF;rw[k,eJ]
def jU(a:xs.map M++SY (n - xs.length) S=ρ)(h:Wr (g ρ ω) (λ_ c=>T (.fz .none) c) (λ_ _=>False) T):∃x c,iO n g xs ω=.ok x c/\T x c:=by
 let h:=h.out;ext iO;rw[a];cases q:g ρ ω with
 |bad=>rw[q]at h;show h.elim
 |er x o=>rw[q]at h;show h.elim
 |ok e o=>
  rw[q]at h;cases e with
  |nx r=>show#[_,_,W,h]
  |ct r=>show h.elim
  |rt v=>show#[_,_,W,h]
  |bk r=>show h.elim
def BG{W:aI->Prop}(a:xs.map M++SY (n - xs.length) S=ρ)(h:Wr (g ρ ω) (λ_ c=>SV.fz .none=v/\W c) (λ_ _=>False) (λr c=>r=v/\W c)):∃c,iO n g xs ω=.ok v c/\W c:=by let(x,c,h1,j,e):=jU (T:=λr c=>r=v/\W c) a h;show#[c,by rw[h1,j],e]
end
end L10
namespace L10
open PySem PyProof.Rows L2 L3
section
variable{O Z:a5}{K:Bn}{H X:Hp}{a b:SU}{xs:cb V}{Y:Heap->Prop}
def PZ(a:J)(O:a5)(H:Hp)(Z:a5)(X:Hp):Prop:=∀b o,b≠a->H b=M o->¬O b->X b=M o/\¬Z b
def YZ.evx(f:H a=M (.ext Y))(h:YZ O K H b xs)(e:PZ a O H Z X):YZ Z K X b xs:=by
 let(h,k):=h;by_cases z:O b
 .show#[WI.same (jo X) (k z),λ_=>k z]
 .rcases h with(h|⟨o,h⟩)|h
  .let(h1,d):=e b _ (λy=>by rw[y,f]at h;ext h) h z;show#[.inl (.inl h1),λy=>b9 y d]
  .let(h1,d):=e b _ (λy=>by rw[y,f]at h;ext h) h z;show#[.inl (.inr #[o,h1]),λy=>b9 y d]
  .show#[.inr h,λ_=>.inr h]
def XW.evx(f:H a=M (.ext Y))(h:XW O K H b xs)(e:PZ a O H Z X):XW Z K X b xs:=by
 let(h,k):=h;by_cases z:O b
 .show#[(jo X).tup (k z),λ_=>k z]
 .rcases h with(h|⟨o,h⟩)|h
  .let(h1,d):=e b _ (λy=>by rw[y,f]at h;ext h) h z;show#[.inl (.inl h1),λy=>b9 y d]
  .let(h1,d):=e b _ (λy=>by rw[y,f]at h;ext h) h z;show#[.inl (.inr #[o,h1]),λy=>b9 y d]
  .show#[.inr h,λ_=>.inr h]
mutual
theorem DV.evx(f:H a=cL (.ext Y))(e:PZ a O H Z X):∀{v:V} {d:D},L3.DV O K H v d->L3.DV Z K X v d
 |_,_,.Wa=>.Wa
 |_,_,.bl b=>.bl b
 |_,_,.int i=>.int i
 |_,_,.str x=>.str x
 |_,_,.tup h hs=>.tup (XW.evx f h e) (UN.evx f e hs)
 |_,_,.lst h hs=>.lst (YZ.evx f h e) (UN.evx f e hs)
theorem UN.evx(d:H a=cL (.ext Y))(e:PZ a O H Z X):∀{vs:cb V} {ds:cb D},L3.UN O K H vs ds->L3.UN Z K X vs ds
 |_,_,.nil=>.nil
 |_,_,.cons h hs=>.cons (DV.evx d e h) (UN.evx d e hs)
end
end
end L10
namespace L10
open PySem PyProof.Rows L2 L3
section
variable{B O O':a5}{K:Bn}{E:XK}{H H' H1 H2:Hp}{Z Y S T:cb SU}{P U ω1 ω2:aI}{X:L2.St}{N:aH}{v:V}
def kf:G (bQ×bQ)->aH->aI->RS (G (bz×SV))
 |[],_,P=>.ok [] P
 |(e,d)::r,N,P=>(e N P).bind λx ω1=>(RS.T6 ω1 (mq x)).bind λk ω1=>(d N ω1).bind λy ω2=>(kf r N ω2).bind λb a=>.ok ((k,y)::b) a
def oD(K:Bn)(E:XK)(a:G (TE×TE))(fs:G (bQ×bQ)):Prop:=
 ∀(B:a5) (X:L2.St) (H:Hp) (Z:G J) (P:aI) (N:aH) (Q:G (V×V)->Hp->Prop),TK B K H Z P->VX (ow B Z P) K H Z X N->WS K E B H Z P (λd Y U H'=>∀b,Paired (λ(p:V×V) (q:bz×SV)=>p.1=kV q.1/\Wz (ow B Y U) K H' Y p.2 q.2) b d->Q b H') (kf fs N P)->qW a X H Q
theorem Fx:oD K E [] []:=λB X H Z P N Q s a w=>WS.now s w [] .nil
def Ex(r:cg K E tk fk)(n:cg K E tv fv)(p:oD K E C fs):oD K E ((tk,tv)::C) ((fk,fv)::fs):=by intro B X H Z P N Q s b w;show r B X H Z P N _ s b (w.bind.imp λx S ω1 H1 e1 m a v e=>?_);let(k,q,a):=WS.T6 a;let ev:=kC q e;show n B X H1 S ω1 N _ m (b.VW e1) (a.bind.imp λy T ω2 H2 e2 l i u o=>?_);show p B X H2 T ω2 N _ l ((b.VW e1).VW e2) (i.bind.imp λA g f t e3 j h z d=>?_);show WS.now j h _ (.cons #[ev,o.VW e3] d)
def qk(fs:G (bQ×bQ)):bQ:=λN P=>(gr (kf fs N P)).bind λa ω1=>if a.length<=15 then .ok (.rf ω1.length) (ω1++[.VI (eE [] a)])else .bad
def Dy:∀{f:G (V×V)} {g:G (bz×SV)},Paired (λ(p:V×V) (q:bz×SV)=>p.1=kV q.1/\Wz O K H Z p.2 q.2) f g->∃c:G (bz×V),f=c.map (λi=>(kV i.1,i.2))/\uy O K H Z c g:=by
 intro _ _ b
 induction b with
 |nil=>show#[[],W,.nil]
 | @cons l j _ _ h t m=>let(x,y):=l;let(k,z):=j;let(c,rfl,e):=m;let(a,d):=h;dsimp only at a;subst a;show#[(k,y)::c,W,.cons #[W,d] e]
def TK.acE(s:TK (aY B p) K H Z P)(g:c≠.dead)(f:H p≠CL)(e:COk (ow (aY B p) Z P) K H Z p c)(l:¬B p):TK B K H (Z++[p]) (P++[c]):=by
 let eo:ow (aY B p) Z P=ow B (Z++[p]) (P++[c]):=oO s.len g;let r:=s.ba p (.inr W);let ev:Ev (ow (aY B p) Z P) H (ow B (Z++[p]) (P++[c])) H:=by rw[eo];show λb o h n=>#[h,n]
 show#[by rw[SQ,SQ,s.len];rfl,λi j a h1 d=>?_,λa h=>s.bn a (.inl h),λa h i z=>?_,λi a h=>?_,λi a m h1 d=>?_]
 .rcases aK h1 with g1|⟨e1,e2⟩<;>rcases aK d with g2|⟨e3,e4⟩
  .show s.nd i j a g1 g2
  .rw[e4]at g1;show b9 g1 (r i)
  .rw[e2]at g2;show b9 g2 (r j)
  .omega
 .rcases aK z with z|⟨_,rfl⟩
  .show s.ba a (.inl h) i z
  .show l h
 .rcases aK h with h|⟨_,rfl⟩
  .show s.al i a h
  .show f
 .rcases aK d with d|⟨e2,rfl⟩
  .rcases aK h1 with h1|⟨e1,rfl⟩
   .show(s.YQ i a m h1 d).ev ev (λ_ _ h=>eZ h) λ_ q=>q
   .let:=(SK.mp d).1;rw[<-s.len]at this;ext
  .rcases aK h1 with h1|⟨e1,rfl⟩
   .let:=(SK.mp h1).1;rw[s.len]at this;ext
   .show e.ev ev (λ_ _ h=>eZ h) λ_ q=>q
theorem Be(h:uy O K H Z o C):o.length=C.length:=h.length
def DZ(h:oD K E trs fs):cg K E (Jo trs) (qk fs):=by
 intro B X H Z P N Q s u w p e;let L:=λz=>s.bn p z e;let A:TK (aY B p) K (upd H p (.dK [])) Z P:=s.hide e;let g:VX (ow (aY B p) Z P) K (upd H p (.dK [])) Z X N:=by
  let ev:Ev (ow B Z P) H (ow (aY B p) Z P) (upd H p (.dK [])):=λb o h n=>by
   let F:b≠p:=λz=>by rw[z,e]at h;ext h
   show#[by rw[av F];show h,λz=>?_];rcases z with(z|z)|z
   .show n (.inl z)
   .show F z
   .show n (.inr z)
  show#[u.1,λj x J=>let#[v,h1,h2]:=u.2 j x J;#[v,h1,h2.ev ev λ_ _ h=>h]]
 unfold qk at w;cases qr:kf fs N P with
 |er x d=>rw[qr]at w;show w.elim
 |bad=>rw[qr]at w;show w.elim
 |ok ps d=>
  rw[qr]at w;let w:WS K E B H Z P (PQ B K Q) (if ps.length<=15 then .ok (.rf d.length) (d++[.VI (eE [] ps)])else .bad):=w;show h (aY B p) X _ Z P N _ A g ?_;rw[qr];intro Y H' G l vs r;let f:=G.kp p _ ay λ#[i,c,q,_]=>A.ba p (.inr W) i q;let(kvs,rfl,C):=Dy r;by_cases t:ps.length<=15
  .rw[ai t]at w;show#[f,kvs,W,by rw[Be C];show t,?_];let M:Ev (ow (aY B p) Y d) H' (ow (aY B p) Y d) (upd H' p (.dK (gy [] kvs))):=Ev.mut (.inl (.inr W)) _;let m:=qN (Paired.WU C λ_ _ q=>#[q.1,q.2.ev M λ_ _ h=>h]) .nil;let I:=(l.adA f).acE (c:=.VI (eE [] ps)) (by nofun) (by rw[ay];simp) #[_,ay,m] L;let e2:Ve Z P H Y d (upd H' p (.dK (gy [] kvs))):=((Ve.same (bw e _)).trans G).dd e;show w (Y++[p]) _ #[λi a h=>eZ (e2.pre i a h),e2.kp,λb z=>(nM l.len z).elim (e2.lv b) λz=>.inr (by rw[z];show e)] I (.ref p) #[p,by rw[<-l.len];show aG,W]
  .rw[ak t]at w;show w.elim
theorem He:kf [] N P=.ok [] P:=W
def E9(d:fk N P=.ok x ω1)(q:mq x=M k)(a:C N ω1=.ok y ω2)(b:kf fs N ω2=.ok ps o):kf ((fk,C)::fs) N P=.ok ((k,y)::ps) o:=by ext kf;rw[d,eJ,q];show((C N ω1).bind _)=_;rw[a,eJ,b,eJ]
def GX(h:kf fs N P=.ok ps ω1)(a:ps.length<=15):qk fs N P=.ok (.rf ω1.length) (ω1++[.VI (eE [] ps)]):=by ext qk;rw[h,oX,eJ,ai a]
end
end L10
namespace L3
open PySem L2
structure NI(K:Bn)(f:J)(n:Str)(t:Vz):Prop where
 a:UC K T3 n=M (M (.ref f))
 F:∃fd,Zk K n n t f fd
structure MI(K:Bn)(C f:J)(m q:Str)(t:Vz):Prop where
 a:UW K (.ref C) m=M (M (.ref f))
 i:W0 K (.ref f)=U
 F:∃fd,Zk K m q t f fd
structure CI(K:Bn)(C:J)(n:Str)(fs:G Str):Prop where
 a:UC K T3 n=M (M (.ref C))
 pg:Z2 K C Str.empty=U
 hd:ZH K C=U
 po:ZI K C=U
 sa:UW K (.ref C) "__setattr__"=M (M (.builtin "object.__setattr__"))
 mm:aaj K C=U
 kc:Vl K (.ref C)=U
 fl:∀x∈fs,C2 K C x
def BA(n q:Str)(t:Vz)(c:G Str):Prop:=∀(kV b d:T) (e:I J) (f ct:T) (a:G T),a.length=c.length->bindArgs (VL n q (jD t) (cZ t) (aA t) .none kV b d e f ct) #[a,[]]=pure (c.zip a)
section
variable{P:Tg}{w:TN}{K:Bn}{Q:Str->cc OK}{Y h:Heap}{f C:SU}{n m q:Str}{t:Vz}{L fs:cb Str}{Z k:Nat}{N B:Sp}
theorem NI.cal(i:NI K f n t)(X:K.In h)(G:h.Ns T3 Q)(a:BA n n t L)(ok:∀fd,Zk K n n t f fd->FnOk P w K Q Y kP Z f fd L N):uH P w K Q Y Z n L N:=
 let#[fd,z]:=i.F;#[f,fd,ok fd z,z.binds a,z.kp,aa5 X G i.a]
def NI.law(i:NI K f "law" t)(X:K.In h)(G:h.Ns T3 Q)(b:Q "law"=M (.ref fa))(a:BA "law" "law" t [x])(ok:∀Y fd,Zk K "law" "law" t f fd->FnOk P w K Q Y kP Z f fd [x] N):∃fd:UI,(∀(s:SS) (v:T),X6 s fd #[[v],[]] [(x,v)])/\∀Y:Heap,K.In Y->Y.Ns T3 Q->FnOk P w K Q Y kP Z fa fd [x] N:=by let e:=b.symm.trans (aa5 X G i.a);ext e;let(fd,z):=i.F;let(u,r,kV,d,g,o,p,ct,j,rfl,A,l):=z.ex;show#[_,λs v=>.of_eq (a kV d g o p ct [v] W),λY _ _=>ok Y _ z]
def yJ(a:V6 k A):A.units+65<cLine:=by let:=a.un;ext
end
end L3
namespace L10R
open PySem PySem.Calls PyProof.Rows
def MK:typeLookup (.type "list_reverseiterator") "__len__"=pure S:=by rw[VM,U1];kernel_rfl
def An:typeLookup (.type "list_reverseiterator") "__length_hint__"=pure (M (.builtin "list_reverseiterator.__length_hint__")):=by rw[VM,U1];kernel_rfl
section
variable{Y:Tg}{w:TN}{A:Tv}{E:OK->SS->Prop}{s:SS}{r l:SU}{items:Array OK}
def DH{Q:Bool->SS->Prop}(d:s.TypeIs (.ref r) "list_reverseiterator")(h:Q SW s):wpAny (model Y w) A (Builtin.List.listLengthHint (.ref r)) Q E s:=by
 ext Builtin.List.listLengthHint;show lD (XM d MK ?_);dsimp only;show Wb (λa=>b9 a ()) (λ_=>?_);show Wb (λa=>b9 a ()) (λ_=>?_);show lD (XM d An ?_);generalize e:("list_reverseiterator.__length_hint__":String)=f
 wp_delta
 rw[show splitId f=M ("list_reverseiterator","__length_hint__")from by subst e;decide+kernel];subst e;show lD (Vh (T:= "list_reverseiterator") (b:=U) d (by rw[afk];kernel_rfl) ?_);show Wb (λa=>b9 a ()) (λ_=>?_);show Wb (λ_=>?_) (λa=>b9 (by decide+kernel) a);show Wb (λa=>b9 a (by decide+kernel)) (λ_=>?_);show SH h
def vH{R:Yk->SS->Prop}(u:A.handled=CL)(K:l≠r)(t:s.heap.IsList l items)(h:s.heap.IsRevIter r l ((items.size:Int) - 1))(S:SU)(g:S≠r)(p:S≠l)(res:OK)(a:Nat)(B:s.heap.get? S=M {cls:=.type "list",data:=.seq #v[] a})
  (C:∀y D x k,(∀b o,b≠S->b≠r->s.heap.get? b=M o->y.get? b=M o)->y.get? S=M {cls:=.type "list",dict:=CL,data:=.seq x k,slots:= #v[]}->Zc (λi v=>items[items.size - 1 - i]?=M v) x items.size->R (.ok (.ret res)) {s with heap:=y,toks:=D}) (F:items.size<=S8):
  wpAny (model Y w) A.in1 (Builtin.List.listExtendWith (.ref S) (.ref r) res)
   (λfin c=>match fin with|.done f=>R (.ok f) c|.again k=>k.quiet=U/\codeAny (model Y w) A k R c) (λe c=>R (.error e) c) s:=by
 let n:S∉[r,l]:=by simp only[Tf,Wq,or_false,not_or];show#[g,p]
 let W:=Walks.listRev (prog:=Y) (w:=w) (A:=A.in1) u r l K items;let st:0<=items.size/\s.heap.IsRevIter r l ((items.size:Int) - 1 - ((0:Nat):Int))/\s.heap.IsList l items:=#[TX _,by rw[show(items.size:Int) - 1 - ((0:Nat):Int)=(items.size:Int) - 1 by ext];show h,t];let j:codeAny (model Y w) A (.builtin "list.extend.loop" #[[.ref S,.ref r,res],[]]) R s:=by
  show codeAny_extend_loopS W.toS F S n res items.size 0 _ #v[] a rfl (TX _) st B (Zc.nil _) λc x k hm I q=>?_;rw[Moved.eq_with hm];show C c.heap c.toks x k (λb o z m e=>hm.heap b o (λd=>?_) e) I q;rcases Tf.mp d with L|d
  .show z L
  .show m (S6.mp d)
 ext Builtin.List.listExtendWith;show lD (VF (T:= "list_reverseiterator") h.typeIs ?_);let h1:Builtin.List.listSameRef (.ref S) (.ref r)=SW:=by simp[Builtin.List.listSameRef,g]
 let H:(OK.type "list_reverseiterator"==OK.type "list")=SW:=by decide+kernel
 let G:(OK.type "list_reverseiterator"==OK.type "tuple")=SW:=by decide+kernel
 simp only[h1,H,G,ab7,S4,if_false];show lD (wpAny_pyIter_revIter h ?_);show lD (UA (DH h.typeIs ?_));show Wb (λJ=>b9 J (by decide+kernel)) (λ_=>SH #[Vf PySem.F.plain_extend_loop _,j])
def EW{R:Yk->SS->Prop}(u:A.handled=CL)(C:l≠r)(q:s.heap.IsList l items)(p:s.heap.IsRevIter r l ((items.size:Int) - 1))(S:J)(d:S≠r)(g:S≠l)(m:s.heap.get? S=M {cls:=.type "list",data:=.seq #v[]})
  (z:∀k D y c,(∀b o,b≠S->b≠r->s.heap.get? b=M o->k.get? b=M o)->k.get? S=M {cls:=.type "list",dict:=CL,data:=.seq y c,slots:= #v[]}->Zc (λi v=>items[items.size - 1 - i]?=M v) y items.size->R (.ok (.ret .none)) {s with heap:=k,toks:=D}) (F:items.size<=S8):
  wpAny (model Y w) A.in1 (Builtin.«list.__init__» #[[.ref S,.ref r],[]])
   (λfin x=>match fin with|.done f=>R (.ok f) x|.again c=>c.quiet=U/\codeAny (model Y w) A c R x) (λe x=>R (.error e) x) s:=by
 show wpAny _ _ (do let old<-Builtin.List.listItems (.ref S);Builtin.List.listUpdate (.ref S) (λ_=> #v[]);letGo old.toList.reverse;Builtin.List.listExtendWith (.ref S) (.ref r) .none) _ _ s;show lD ?_;ext Builtin.List.listItems;show lD (W5 m W (SH ?_));show wpAny _ _ (updateSeq S (λ_=> #v[])>>=λ_=>letGo (#v[]:Array T).toList.reverse>>=λ_=>Builtin.List.listExtendWith (.ref S) (.ref r) .none) _ _ s;show lD (XN m W ?_);let a:=c4 (Obj.mapSeq (λ_=>(#v[]:Array T))) m W
 let j9:∀b o,b≠S->s.heap.get? b=M o->(s.heap.update S (Obj.mapSeq (λ_=>(#v[]:Array T)))).get? b=M o:=
  λb o h e=>(c3 _ _ (dt h)).trans e
 show lD (Xk ?_);show vH u C (q.at λo e=>j9 l o g.symm e) (p.at λo e=>j9 r o d.symm e) S d g .none _ a (λk D y c t B n=>?_) F;show z k D y c (λb o h j e=>t b o h j (j9 b o h e)) B n
def aaL{Q:T->SS->Prop}(q:A.handled=S)(B:l≠r)(h:s.heap.IsList l items)(g:s.heap.IsRevIter r l ((items.size:Int) - 1))(C:items.size<=S8)
  (u:∀c x k y,(∀b o,b≠r->s.heap.get? b=M o->c.get? b=M o)->c.get? s.heap.objs.size=M {cls:=.type "list",dict:=S,data:=.seq k y,slots:= #v[]}->Zc (λi v=>items[items.size - 1 - i]?=M v) k items.size->Q (.ref s.heap.objs.size) {s with heap:=c,toks:=x}):
  wpAny (model Y w) A (call (.type "list") [.ref r]) Q E s:=by
 show Zv (Q₁:=λobj a=>obj=.ref s.heap.objs.size/\a={s with heap:=s.heap.push {cls:=.type "list",data:=.seq #v[]}}) PySem.F.called_list (PySem.F.typeCall_list_1 _) PySem.F.entry_list_init
  (code_list_new _ #[W,W]) λobj a d=>?_
 let(rfl,rfl):=d;let j:(s.heap.push {cls:=.type "list",data:=.seq #v[]}).get? s.heap.objs.size=M {cls:=.type "list",data:=.seq #v[]}:=c0 _ W;let m:r<s.heap.objs.size:=by let(o,e,_):=g;show cv e
 let n:l<s.heap.objs.size:=by let(o,e,_):=h;show cv e
 show#[#[_,j,W],PySem.F.args_list_init_2 _ _,EW (A:=A.in1) q B (h.at λo e=>cj _ e) (g.at λo e=>cj _ e) _ (UZ m) (UZ n) j (λc x k y p z f=>?_) C];show#[W,u c x k y (λb o t e=>p b o (TB (cv e)) t (cj _ e)) z f]
end
end L10R
namespace L2
open PySem PySem.Spec PyProof.Rows
section
variable{X:Cx}{e:Ts}{te:TE}{p q p1 p2:Pos}
def tG(K:Bn)(te:TE):TE:=λd H Q=>te d H λx b=>∃a xs,x=.ref a/\Xl K b a xs/\∀l,b l=S->Q (.ref l) (upd b l (.lst xs.reverse))
def wT:Uc "reversed"=M (.type "reversed"):=by rfl
def zz{xs:G V}{a:G T}(h:Vals xs a):Vals xs.reverse a.reverse:=by
 induction h with
 |nil=>show .nil
 |cons h _ b=>rw[U8,U8];show b.append (.cons h .nil)
def Ay{items acc:Array T}(h:Zc (λi v=>items[items.size - 1 - i]?=M v) acc items.size):acc.toList=items.toList.reverse:=by
 apply Wc;intro j;by_cases a:j<items.size
 .let h1:j<acc.size:=by rw[h.1];show a
  let e:=h.2 j _ (WQ h1);rw[T8,WQ h1,List.getElem?_reverse (by rw[Tt];show a),Tt,T8];show e.symm
 .rw[Wn (by rw[Tt,h.1];ext),Wn (by rw[UP,Tt];ext)]
def Dt{a:G (J×Obj)}{i:St}{H:Hp}{s:SS}{e:J}{o:HO}(I:Inv X a i H s)(f:oZ X a H e)(v:X.s₀.heap.get? e=S)(new:ObjOk X.prog X.w (upd H e o) s.heap e o):Inv X a i (upd H e o) s:=by
 let(ne,m,_,_,t,h):=f;let l:∀b o,X.s₀.heap.get? b=M o->b≠e:=λb o z y=>by rw[y,v]at z;ext z
 let d:∀b o,H b=M o->b≠e:=λb o z y=>by rw[y,ne]at z;ext z
 let B:=I.base;show#[I.ok,I.os,I.bare,#[B.keep,B.slot,λb o z n x=>?_,B.there,λb xs z=>?_,λb o u z=>?_,λb A z=>?_],I.loc,I.cell,?_,λx c z=>?_,λp j=>?_,λb u z=>?_,I.len]
 .rw[av (l b o z)];show B.free b o z n x
 .let:=B.YH b xs z;rw[av (d b _ this)];show this
 .let:=B.Yr b o u z;rw[av (d b _ this)];show this
 .let(g,y):=B.YI b A z;show#[g,by rw[av (d b _ y)];show y]
 .rw[av m.symm];show I.free
 .rw[av (t x c z)];show I.Xs x c z
 .let(z,n,r):=I.pin p j;show#[z,by rw[av (h p j)];show n,r]
 .by_cases y:b=e
  .subst y;rw[ay]at z;ext z;show new
  .rw[av y]at z;show(I.U9 b u z).Yq (λ_ _ _ y=>y) (λc y=>by rw[av (d c _ y)];show y) λc xs y=>by rw[av (d c _ y)];show y
def vL(T:X.calm=SJ)(B:Gl X "list")(w:X.mg "list"=CL)(A:Gl X "reversed")(k:X.mg "reversed"=CL)(S:PE X e te)
  (h1:Ua [.Call (.Name "reversed" q) [e] [] p2] X.env=[(SW,eval (.Call (.Name "reversed" q) [e] [] p2) X.env)]:=by rfl) (G:Ua [e] X.env=[(SW,eval e X.env)]:=by rfl):
  PE X (.Call (.Name "list" p) [.Call (.Name "reversed" q) [e] [] p2] [] p1) (tG X.K te):=by
 intro f s t H Q I h;show Wh (kW I B w Er ?_);show Vt ?_ h1 W;rw[h1];show wpAny _ _ (spliced ((SW,eval (.Call (.Name "reversed" q) [e] [] p2) X.env)::[])) _ _ s;show Calls.spliced_cons ?_;show Wh (kW I A k wT ?_);show Vt ?_ G W;rw[G];show wpAny _ _ (spliced ((SW,eval e X.env)::[])) _ _ s;show Calls.spliced_cons (bG (S f s t H _ I h) λu d a=>?_);let(x,n,j,L,a,xs,ex,O,M3):=a;show Calls.spliced_nil ?_;subst ex;obtain rfl:u=OK.ref a:=L;let(g,rv,pl,F):=j.list O;let v:=pl.isList;show call_reversed_list v (Calls.spliced_nil ?_);let la:a<d.heap.objs.size:=by let(o,e,_):=v;show cv e
 let m:Inv X f t n {d with heap:=d.heap.push (revObj a ((g.toArray.size:Int) - 1))}:=j.kept (t':=d.toks) λb o e=>cj _ e;let i:g.toArray.size<=S8:=by rw[Tb,<-rv.length];show F
 show L10R.aaL (r:=d.heap.objs.size) (l:=a) (items:=g.toArray) (j.ok.hd T) (TB la) (v.at λo e=>cj _ e) #[_,c0 _ W,W,W] i λZ E C c P Y hi=>?_;let(f0,f1,J,f3,f4,f5):=j.ZC (SN d.heap.objs.size) (j.U9.fresh (SN _));let I3:Inv X f t n {d with heap:=Z,toks:=E}:=Inv.turned (s:={d with heap:=d.heap.push (revObj a ((g.toArray.size:Int) - 1))}) (t':=E) (it:=d.heap.objs.size) m (λb o U e=>P b o U e) f0 f1 f3 f4 f5;let ea:=Ay hi;let hn:n (d.heap.push (revObj a ((g.toArray.size:Int) - 1))).objs.size=CL:=m.U9.fresh (SN _);show#[.ref (d.heap.push (revObj a ((g.toArray.size:Int) - 1))).objs.size,_,?_,W,M3 _ hn];let J:=m.ZC (H':=n) (SN (d.heap.push (revObj a ((g.toArray.size:Int) - 1))).objs.size) hn;let N:X.s₀.heap.get? (d.heap.push (revObj a ((g.toArray.size:Int) - 1))).objs.size=CL:=by
  cases z:X.s₀.heap.get? (d.heap.push (revObj a ((g.toArray.size:Int) - 1))).objs.size with
  |none=>rfl
  |some o=>show b9 (To (cv z) m.sz) (Ub _)
 show Dt I3 J N #[by rw[UP];show F,C.toList,c,by rw[ea];show zz rv,by rw[Array.toArray_toList];show Y]
end
end L2
namespace L10
open PySem PySem.Spec PyProof.Rows L2 L3
def kT:typeLookup (.type "tuple") (dunderI "add")=pure S:=by rw[VM,U1];kernel_rfl
def Fc(K:Bn):R2:=λx y H Q=>∃(a b:J) (xs ys:G V),x=.ref a/\y=.ref b/\WY K H a xs/\WY K H b ys/\xs.length+ys.length<=S8/\(xs=[]->Q (.ref b) H)/\(xs≠[]->ys=[]->Q (.ref a) H)/\(xs≠[]->ys≠[]->∀p,H p=S->Q (.ref p) (upd H p (.tup (xs++ys))))
def KY{X:Cx}:NX X .Add (Fc X.K):=by
 intro F s σ H x y v u Q I O N h;let(a,b,xs,ys,rfl,rfl,ha,Z,G,T,S,P):=h;ext O;ext N;let(g,w,Y,_):=I.tuple ha;let(f,t,U,_):=I.tuple Z;let((cls,dd,M,r),d,L,n,J):=id Y;let((adG,i,C,E),l,p,A,m):=id U;simp only at L J p m;subst L J p m;let e1:g=[]↔xs=[]:=by ext w<;>simp
 let e2:f=[]↔ys=[]:=by ext t<;>simp
 by_cases j:g=[]
 .show XG #[_,d,W] #[_,l,W] kT V2 WA (Wi Vb #[_,d,W] U4 (UT _ _)
   (tuple_addW0 a b g.toArray f.toArray n A dd i r E (by simp[j])) #[d,l,#[.ref b,H,I,W,T (e1.mp j)]])
 .by_cases q:f=[]
  .show XG #[_,d,W] #[_,l,W] kT V2 WA (Wi Vb #[_,d,W] U4 (UT _ _)
    (tuple_addW1 a b g.toArray f.toArray n A dd i r E (by simpa using j) (by simp[q])) #[d,l,#[.ref a,H,I,W,S (λz=>j (e1.mpr z)) (e2.mp q)]])
  .let B:g.length+f.length<=S8:=by rw[<-w.length,<-t.length];show G
   show XG #[_,d,W] #[_,l,W] kT V2 WA (Wi Vb #[_,d,W] U4 (UT _ _)
    (tuple_addW2 a b g.toArray f.toArray n A dd i r E (by simpa using j) (by simpa using q) (by rw[Tb,Tb];show B)) #[d,l,?_])
   let e:g.toArray++f.toArray=(g++f).toArray:=by simp
   rw[e];show#[.ref s.heap.objs.size,_,I.laid (t':=s.toks) (o:=.tup (xs++ys)) (λb o e=>cj _ e) (SN _) #[by rw[SQ];show G,g++f,w.append t,_,c0 _ W,#[#[W,_,W],W]],W,P (λz=>j (e1.mpr z)) (λz=>q (e2.mpr z)) _ (I.U9.fresh (SN _))]
def um:D->D->I RV
 |.tuple xs,.tuple ys=>if xs.length+ys.length<=1000000 then M (.fz (.tuple (xs++ys)))else S
 |_,_=>S
def D4{K:Bn}:iG K (Fc K) um:=by
 intro O H x y p m o Q n j i e q;unfold um at e;split at e
 .split at e
  .rename_i l
   ext e;let(a,xs,rfl,h1,d):=vn j;let(b,ys,rfl,h,f):=vn i;show#[a,b,xs,ys,W,W,h1.1,h.1,pN (by rw[d.length,f.length];show l),λz=>?_,λ_ z=>?_,λ_ _=>Fin.ZE (d.append f) n q]
   .let g:=d.ne.mp z;subst g;show q.at (.tup h f)
   .let g:=f.ne.mp z;subst g;rw[TC]at q;show q.at (.tup h1 d)
  .ext e
 .ext e
def Je:R2:=Ro λi j=>i - j
theorem Gg{X:Cx}:NX X .Sub Je:=LM
def EE{K:Bn}:iG K Je pL:=by intro O H x y g d f Q n b a e q;let(i,j,rfl,rfl,rfl):=uu e;ext b;ext a;show#[_,_,W,W,q.at (.int _)]
end L10
namespace L10
open PySem PySem.Spec PyProof.Rows L2 L3
section
variable{B O O':a5}{K:Bn}{E:XK}{H H' Y H2:Hp}{L A Z r:cb SU}{N ω' ω1 X:aI}{C:L2.St}{P:aH}{v:V}
def uI(a:bQ):bQ:=λP N=>(a P N).bind λx ω1=>(RS.T6 ω1 (gb ω1 x)).bind λp X=>.ok (.rf X.length) (X++[.lst p.2.reverse])
def Mn{a:Type}{R:V->a->Prop}{c:G V}{xs:G a}(h:Paired R c xs):Paired R c.reverse xs.reverse:=by
 induction h with
 |nil=>show .nil
 |cons h t b=>rw[U8,U8];show qZ b h
def BT{c:TE}{k:bQ}(n:cg K E c k):cg K E (tG K c) (uI k):=by intro B C H L N P Q s j w;show n B C H L N P _ s j (w.bind.imp λx Z ω1 Y e1 b f u m=>?_);let((i,xs),q,f):=WS.T6 f;let(p,a,t,z,rfl,h1,o):=rL b m q;show#[a,t,W,Xl.of h1,λl g=>?_];let h:U7 Y (upd Y l (.lst t.reverse)):=bw g _;let e:Ve Z ω1 Y (Z++[l]) (ω1++[.lst xs.reverse]) (upd Y l (.lst t.reverse)):=Ve.Yg b.len h g;show f _ _ e (b.Yg h g (by rw[ay];simp) #[_,ay,Paired.WU (Mn o) λ_ _ d=>d.VW e]) _ #[l,by rw[<-b.len];show aG,W]
def GA{i:Nat}{b:bQ}{xs:G SV}(h:b P N=.ok (.rf i) ω1)(a:ω1[i]?=M (.lst xs)):uI b P N=.ok (.rf ω1.length) (ω1++[.lst xs.reverse]):=by
 let e1:gb ω1 (.rf i)=M (i,xs):=by ext gb;dsimp only;rw[a]
 ext uI;rw[h,eJ,e1];rfl
def E2{i:Nat}{f:D->D->I RV}{c:bQ}{x y:SV}{z:SV}{ω3:aI}(a:P[i]?=M (M x))(d:c P N=.ok y ω1)(b:oJ f x y ω1=.ok z X):wV i f c P N=.ok (.nx (P.set i (M z))) X:=by ext wV;rw[aP a,eJ,d,eJ,b,eJ]
end
end L10
namespace LD
open PySem PyProof.Rows L2 L3
section
variable{X:Tg}{w:TN}{K:Type}[DecidableEq K]{Y:HeapKind X w K}{A:Tv}{E:OK->SS->Prop}{s:SS}
def se(xs:G (K×J×T))(k:K):G (K×J×T):=xs.filter λx=>decide (x.1≠k)
def zG{k:K}(h:k∉xs.map (·.1)):se xs k=xs:=by ext se;rw[List.filter_eq_self];intro x a;show a6 λe=>h (e▸S7.mpr #[x,a,W])
theorem qw:∀{xs:G (K×J×T)} {j:Nat} {p:J×T},(xs.map (·.1)).Nodup->xs[j]?=M (k,p)->xs.eraseIdx j=se xs k
 |[],_,_,_,h=>by simp at h
 |x::r,0,p,b,h=>by simp only[W7,Xy]at h;subst h;rw[SX,Uh]at b;rw[List.eraseIdx_zero,List.tail_cons];ext se;rw[Uv,ak (by simp)];show(zG b.1).symm
 |x::r,j+1,p,b,h=>by simp only[UJ]at h;rw[SX,Uh]at b;let hm:k∈r.map (·.1):=S7.mpr #[(k,p),Te h,W];let a:x.1≠k:=λe=>b.1 (e▸hm);rw[W8,qw b.2 h];ext se;rw[Uv,ai (a6 a)]
theorem pP(f:α->β):∀(l:G α) (j:Nat),(l.map f).eraseIdx j=(l.eraseIdx j).map f
 |[],_=>rfl
 |_::_,0=>rfl
 |x::r,j+1=>by rw[SX,W8,W8,SX,pP f r j]
def sM(q:Y.room A)(h:Y.is s.heap k a)(hm:s.heap.DictOfH Y d xs)(l:atKey xs k=M p)(y:xs.length<=S8)
  (u:∀(e:UM) c,e.val=p.2->c.DictOfH Y d (se xs k)->Heap.SameBut d s.heap c->Q (M e) {s with heap:=c,toks:=s.toks+Y.draws k}):wpAny (model X w) A (Builtin.Dict.takeOut d (.ref a)) Q E s:=by
 let(o,es,v,f,t,b,i,g,B):=hm;ext Builtin.Dict.takeOut
 try with_reducible show UA ?_
 show lD (Y.pyHash q h (lD (wpAny_dictFind_heap q h f b i g B ?_ ?_)))
 .intro m;rw[atKey_none_of_get m]at l;ext l
 .intro j z n
  let e:=atKey_of_get B n;rw[l]at e;ext e;show lD (UH f b ?_);rw[entry_at i j,n];show lD (wpAny_updateDictKeys (hz:=by let e:=size_of_entries i;ext) f b (SH (u _ _ W #[_,_,v+1,c4 _ f (Obj.isFreed_of_dict (Obj.data_mapDictKeys b _)),
   t.mapDictKeys _,Obj.data_mapDictKeys b _,?_,?_,?_] (Heap.SameBut.update ..))))
  .rw[<-qw B n,<-pP,<-i];simp
  .intro x r;show Y.keeps (g x (Um.mp r).1) f b (Heap.SameBut.update ..)
  .show B.sublist ((Z5).map _)
theorem xp(d a:J):MeetsIn X w (Builtin.«dict.pop» #[[.ref d,.ref a],[]]) (λA R s=>Y.room A.in1/\∃k xs p,Y.is s.heap k a/\s.heap.DictOfH Y d xs/\xs.length<=S8/\atKey xs k=M p/\
  ∀c,c.DictOfH Y d (se xs k)->Heap.SameBut d s.heap c->R (.ok (.ret p.2)) {s with heap:=c,toks:=s.toks+Y.draws k}):=
 .of_wp λA R s #[n,k,xs,p,j,hm,f,l,h]=>by
  unfold Builtin.«dict.pop»;show lD ?_;ext Builtin.Dict.keyAndDefault;show lD (Vi hm.typeIs ?_);show SH ?_;let b:=hm;let(o,es,B,t,_,v,u,_,_):=b;let z:es.isEmpty=SW:=by
   cases q:es.isEmpty with
   |false=>rfl
   |true=>
    rw[X1]at q;subst q;cases xs with
    |nil=>ext l
    |cons x r=>ext u
  let i:(keyPart (.ref a)).isSome=SW:=W;simp only[i,S4,if_false];show lD (UH t v ?_);show lD (SH ?_);rw[z];simp only[S4,if_false];show lD (sM n j hm l f λe c m b g=>?_);simp only[Option.isNone_some,S4,if_false];show lD (Xk (SH #[e.val,W,by rw[m];show h c b g]))
end
def jn(xs:G (KD×J×V))(k:KD):I V:=(xs.find? λx=>decide (x.1=k)).map (·.2.2)
def ke(xs:G (KD×J×V))(k:KD)(b:J)(v:V):G (KD×J×V):=
 if(xs.find? λx=>decide (x.1=k)).isSome=U then xs.map (λx=>if x.1=k then(x.1,x.2.1,v)else x)else xs++[(k,b,v)]
def l9(xs:G (KD×J×V))(k:KD):G (KD×J×V):=xs.filter λx=>decide (x.1≠k)
abbrev RX:G (KD×J×V)->G (KD×J×T)->Prop:=Paired λx y=>x.1=y.1/\x.2.1=y.2.1/\RelV x.2.2 y.2.2
def yG:∀{xs:G (KD×J×V)} {ys:G (KD×J×T)},RX xs ys->xs.map (·.1)=ys.map (·.1):=by
 intro _ _ a
 induction a with
 |nil=>show W
 | @cons _ _ _ _ h t b=>rw[SX,SX,h.1,b]
def lO:∀{xs:G (KD×J×V)} {ys:G (KD×J×T)},RX xs ys->Xz (jn xs k) ((atKey ys k).map (·.2)):=by
 intro _ _ a
 induction a with
 |nil=>unfold jn atKey;show trivial
 | @cons x y xs ys h t b=>
  unfold jn atKey;rw[Tu,Tu,h.1];by_cases e:y.1=k
  .rw[a6 e];show h.2.2
  .rw[a7 e];show b
def GQ:∀{xs:G (KD×J×V)} {ys:G (KD×J×T)},RX xs ys->(xs.find? λx=>decide (x.1=k)).isSome=(atKey ys k).isSome:=by
 intro _ _ a
 induction a with
 |nil=>show W
 | @cons x y xs ys h t b=>
  ext atKey;rw[Tu,Tu,h.1];by_cases e:y.1=k
  .rw[a6 e];rfl
  .rw[a7 e];show b
def Me(r:RelV v u):∀{xs:G (KD×J×V)} {ys:G (KD×J×T)},RX xs ys->RX (xs.map λx=>if x.1=k then(x.1,x.2.1,v)else x) (ys.map (putAt k u)):=by
 intro _ _ a
 induction a with
 |nil=>show .nil
 | @cons x y xs ys h t b=>
  rw[SX,SX];show .cons ?_ (b);ext putAt;by_cases e:y.1=k
  .rw[ai (h.1.trans e),ai e];show#[h.1,h.2.1,r]
  .rw[ak (by rw[h.1];show e),ak e];show h
def Gb(h:x.1=y.1/\x.2.1=y.2.1/\RelV x.2.2 y.2.2):∀{xs:G (KD×J×V)} {ys:G (KD×J×T)},RX xs ys->RX (xs++[x]) (ys++[y]):=by
 intro _ _ a
 induction a with
 |nil=>show .cons h .nil
 | @cons _ _ _ _ g t b=>show .cons g (b)
def Cr(r:RelV v u)(h:RX xs ys):RX (ke xs k b v) (storedH ys k b u):=by
 unfold ke storedH;rw[GQ h];split
 .show Me r h
 .show Gb #[W,W,r] h
def FY:∀{xs:G (KD×J×V)} {ys:G (KD×J×T)},RX xs ys->RX (l9 xs k) (se ys k):=by
 intro _ _ a
 induction a with
 |nil=>show .nil
 | @cons x y xs ys h t b=>
  unfold l9 se;rw[Uv,Uv,h.1];by_cases e:y.1≠k
  .rw[ai (a6 e),ai (a6 e)];show .cons h (b)
  .rw[ak (by simpa using e),ak (by simpa using e)];show b
def lS(xs:G (KD×J×V))(k:KD)(b:J)(v:V):(ke xs k b v).length<=xs.length+1:=by
 ext ke;split
 .rw[SI];ext
 .rw[SQ];show SN _
def kB(K:Bn)(H:Hp)(xs:G (KD×J×V)):Prop:=∀x∈xs,L2.DV K H (.ref x.2.1) x.1.1
section
variable{X:Cx}{Z:cb (SU×Obj)}{Y:L2.St}{H:Hp}{s:SS}{a b:SU}{xs:cb (KD×SU×V)}{k:KD}{v:V}{u r:OK}{A:Tv}{E:OK->SS->Prop}
def IV:∀{xs:G (KD×J×V)} {es:G UM},Paired (λ(x:KD×J×V) (e:UM)=>e.hash=l7 w x.1.1/\e.key=.ref x.2.1/\RelV x.2.2 e.val) xs es->∃ys,RX xs ys/\es=ys.map (entryOfKey (bv P w)):=by
 intro _ _ f
 induction f with
 |nil=>show#[[],.nil,W]
 | @cons x e _ _ m t n=>let(h1,d,g):=m;let(ys,i,h):=n;show#[(x.1,x.2.1,e.val)::ys,.cons #[W,W,g] i,?_];rw[SX,<-h];let(l,j,ev):=e;dsimp only at h1 d;subst h1 d;rfl
def Om:∀{xs:G (KD×J×V)} {ys:G (KD×J×T)},RX xs ys->Paired (λ(x:KD×J×V) (e:UM)=>e.hash=l7 w x.1.1/\e.key=.ref x.2.1/\RelV x.2.2 e.val) xs (ys.map (entryOfKey (bv P w))):=by
 intro _ _ d
 induction d with
 |nil=>show .nil
 | @cons _ _ _ _ h t f=>show .cons #[by rw[h.1];rfl,by rw[h.2.1];rfl,h.2.2] (f)
theorem i7(I:L2.Inv X Z Y H s)(h:L2.DV X.K H (.ref b) k.1):(bv X.prog X.w).is s.heap k b:=L2.DV.reads I h W
def nA(I:L2.Inv X Z Y H s)(e:H a=M (DkO a xs))(i:kB X.K H xs):xs.length<=S8/\(a==UE)=SW/\∃ys,RX xs ys/\s.heap.DictOfH (bv X.prog X.w) a ys:=by
 let(((z,j,nd),o,es,G,h1,C,B,n),_):=(show ObjOk X.prog X.w H s.heap a (DkO a xs)from I.U9 a _ e);let(ys,f,F):=IV n;show#[z,j,ys,f,o,es,G,h1,C,B,F,?_,by rw[<-yG f];show nd];let all:∀{l:cb (KD×J×V)} {m:cb (KD×J×T)},RX l m->(∀x∈l,L2.DV X.K H (.ref x.2.1) x.1.1)->∀y∈m,(bv X.prog X.w).is s.heap y.1 y.2.1:=by
  intro l m q
  induction q with
  |nil=>intro _ y d;show nomatch d
  | @cons p q Q P L t N=>
   intro g y d;rcases Tf.mp d with e|d
   .subst e;let:=i7 I (g p (Ta ..));rw[L.1,L.2.1]at this;show this
   .show N (λx h=>g x (S5 _ h)) y d
 show all f i
def sG(z:xs.length<=S8)(hd:(a==UE)=SW)(d:RX xs ys)(dd:C.DictOfH (bv P w) a ys):ObjOk P w H' C a (DkO a xs):=by let(o,es,e,h1,i,h,g,j,f):=dd;show#[#[#[z,hd,by rw[yG d];show f],o,es,e,h1,i,h,by rw[g];show Om d],#[o,h1],?_];rintro m l ⟨q,o,es,e,e1,e2⟩ st;show#[q,o,es,e,st o e1,e2]
def ig(d:A.units+64<cLine):(bv X.prog X.w).room A.in1:=by show A.in1.units+8<cLine;rw[Tv.in1_units];ext
def Kq(j:A.units+64<cLine)(I:L2.Inv X Z Y H s)(e:H a=M (DkO a xs))(m:kB X.K H xs)(t:L2.DV X.K H (.ref b) k.1)(g:jn xs k=M v)(h:∀c q,L2.Inv X Z Y H q->RelV v c->Q c q):
  wpAny (model X.prog X.w) A (getItem (.ref a) (.ref b)) Q E s:=by
 let(z,o,ys,d,dd):=nA I e m;let(c,i,n):=Xz.some_of (by rw[<-g];show lO d);let(p,l,f):=Uj.mp i;show Ym (ig j) (i7 I t) dd l ?_;rw[f];show h c _ (I.tok _) n
def Ot(f:A.units+64<cLine)(I:L2.Inv X Z Y H s)(e:H a=M (DkO a xs))(g:kB X.K H xs)(j:L2.DV X.K H (.ref b) k.1)(h:∀c,L2.Inv X Z Y H c->Q (.bool (jn xs k).isSome) c):
  wpAny (model X.prog X.w) A (UK .In (.ref b) (.ref a)) Q E s:=by
 let(z,i,ys,d,dd):=nA I e g;show agX (ig f) (i7 I j) i dd ?_;let q:=(lO (k:=k) d).Wk;rw[U6]at q;rw[<-q];show h _ (I.tok _)
def L8(f:A.units+64<cLine)(I:L2.Inv X Z Y H s)(e:H a=M (DkO a xs))(g:kB X.K H xs)(j:L2.DV X.K H (.ref b) k.1)(h:∀c,L2.Inv X Z Y H c->Q (.bool (!(jn xs k).isSome)) c):
  wpAny (model X.prog X.w) A (UK .NotIn (.ref b) (.ref a)) Q E s:=by
 let(z,i,ys,d,dd):=nA I e g;show wpAny_notIn_heap (ig f) (i7 I j) i dd ?_;let q:=(lO (k:=k) d).Wk;rw[U6]at q;rw[<-q];show h _ (I.tok _)
def MQ(j:A.units+64<cLine)(I:L2.Inv X Z Y H s)(e:H a=M (DkO a xs))(m:kB X.K H xs)(y:L2.DV X.K H (.ref b) k.1)(x:RelV v r)(t:xs.length<S8)(h:∀c,L2.Inv X Z Y (upd H a (DkO a (ke xs k b v))) c->Q ⟨⟩ c):
  wpAny (model X.prog X.w) A (setItem (.ref a) (.ref b) r) Q E s:=by
 let(z,o,ys,d,dd):=nA I e m;let i:ys.length<=S8:=by rw[<-Paired.length d];show z
 let g:(ke xs k b v).length<=S8:=by let:=lS xs k b v;ext
 show ab9 (hsz:=i) (ig j) (i7 I y) dd λp f l=>h _ ?_;let n:∃q,p.get? a=M q:=let#[q,_,_,B,_]:=f;#[q,B]
 show ku I (by rw[e];show True.intro) l n (sG g o (Cr x d) f)
def HM(l:A.units+64<cLine)(I:L2.Inv X Z Y H s)(e:H a=M (DkO a xs))(i:kB X.K H xs)(n:L2.DV X.K H (.ref b) k.1)(g:RelV d r)(h:∀c m,L2.Inv X Z Y H m->RelV ((jn xs k).getD d) c->Q c m):
  wpAny (model X.prog X.w) A (call (.builtin "dict.get") [.ref a,.ref b,r]) Q E s:=by
 let(z,j,ys,f,dd):=nA I e i;show aaz Y5 dd.typeIs PySem.F.entry_dict_get (PySem.F.args_dict_get_3 _ _ _) (meetsH_dict_get_default (bv X.prog X.w) a b j r) #[ig (),k,ys,i7 I n,dd,h _ _ (I.tok _) ?_];show(lO f).getD g
def KK(G:A.units+64<cLine)(I:L2.Inv X Z Y H s)(e:H a=M (DkO a xs))(n:kB X.K H xs)(y:L2.DV X.K H (.ref b) k.1)(g:jn xs k=M v)(h:∀c x,L2.Inv X Z Y (upd H a (DkO a (l9 xs k))) x->RelV v c->Q c x):
  wpAny (model X.prog X.w) A (call (.builtin "dict.pop") [.ref a,.ref b]) Q E s:=by
 let(z,t,ys,d,dd):=nA I e n;let(c,j,C):=Xz.some_of (by rw[<-g];show lO d);let(p,m,i):=Uj.mp j;show aaz Y6 dd.typeIs PySem.F.entry_dict_pop (PySem.F.args_dict_pop_2 _ _) (xp a b) #[ig (),k,ys,p,i7 I y,dd,by rw[<-Paired.length d];show z,m,λB f l=>?_];rw[i];show h c _ ?_ C;let o:∃q,B.get? a=M q:=let#[q,_,_,L,_]:=f;#[q,L]
 show ku I (by rw[e];show True.intro) l o (sG (S9 (Xw _ _) z) t (FY d) f)
def jq(I:L2.Inv X Z Y H s)(e:H a=M (DkO a xs)):s.TypeIs (.ref a) "dict"/\(∀b,OK.ref a=.ref b->∃c,s.heap.get? b=M c/\c.dict=S)/\(a==UE)=SW:=by let(((z,f,nd),o,es,i,h1,d,h,g),_):=(show ObjOk X.prog X.w H s.heap a (DkO a xs)from I.U9 a _ e);show#[#[o,h1,d.1],λb q=>?_,f];ext q;show#[o,h1,d.2.1]
end
section
variable(K:Bn)
def EI(neg:Bool)(ty f:TE):TE:=λe H Q=>ty e H λy g=>f e g λx d=>∃a b xs k,x=.ref a/\y=.ref b/\d a=M (DkO a xs)/\kB K d xs/\L2.DV K d (.ref b) k.1/\Q (.bl ((jn xs k).isSome !=neg)) d
def D9(f ty:TE):TE:=λe H Q=>f e H λx g=>ty e g λy d=>∃a b xs k v,x=.ref a/\y=.ref b/\d a=M (DkO a xs)/\kB K d xs/\L2.DV K d (.ref b) k.1/\jn xs k=M v/\Q v d
def B7(g ty f:TE):TS:=λD d H=>f d H λv i=>g d i λx h=>ty d h λy e=>∃a b xs k,x=.ref a/\y=.ref b/\e a=M (DkO a xs)/\kB K e xs/\L2.DV K e (.ref b) k.1/\xs.length<S8/\D.nx d (upd e a (DkO a (ke xs k b v)))
def yu(g ty tx:TE):TE:=λe H Q=>g e H λx f=>∃a i,x=.ref a/\f a=M (DkO a i)/\ty e f λy h=>tx e h λz d=>∃b xs k,y=.ref b/\d a=M (DkO a xs)/\kB K d xs/\L2.DV K d (.ref b) k.1/\Q ((jn xs k).getD z) d
def Cy(g ty:TE):TE:=λe H Q=>g e H λx f=>∃a h,x=.ref a/\f a=M (DkO a h)/\ty e f λy d=>∃b xs k v,y=.ref b/\d a=M (DkO a xs)/\kB K d xs/\L2.DV K d (.ref b) k.1/\jn xs k=M v/\Q v (upd d a (DkO a (l9 xs k)))
def AQ:TE:=λ_ H Q=>∀p,H p=S->Q (.ref p) (upd H p (DkO p []))
end
section
variable{X:Cx}{o i e f Z:Ts}{T U tx tv:TE}{pos S Y P:Pos}
def pc_ddin(t:X.A.units+64<cLine)(c:PE X i U)(v:PE X o T):PC X .In i o (EI X.K SW U T):=by intro d s g H Q I h;show bG (c d s g H _ I h) λM l #[y,G,E,m,p]=>bG (v d l g G _ E p) λu L a=>?_;let(x,F,C,n,a,b,xs,k,z,w,e,q,r,j):=a;subst z w;obtain rfl:=n;obtain rfl:=m;rw[YL]at j;show Ot t C e q r λJ B=>#[.bl _,F,B,W,j]
def pc_ddnin(t:X.A.units+64<cLine)(c:PE X i U)(v:PE X o T):PC X .NotIn i o (EI X.K SJ U T):=by intro d s g H Q I h;show bG (c d s g H _ I h) λM l #[y,G,E,m,p]=>bG (v d l g G _ E p) λu L a=>?_;let(x,F,C,n,a,b,xs,k,z,w,e,q,r,j):=a;subst z w;obtain rfl:=n;obtain rfl:=m;rw[Y4]at j;show L8 t C e q r λJ B=>#[.bl _,F,B,W,j]
def pe_ddget(z:X.A.units+64<cLine)(C:PE X o T)(c:PE X i U)(B:Im i):PE X (.Subscript o i pos) (D9 X.K T U):=by intro d s j H Q I h;show r9 WE.lookup B (bG (C d s j H _ I h) λu m #[x,N,L,p,r]=>bG (c d m j N _ L r) λiv s2 a=>?_);let(y,A,l,n,a,b,xs,k,v,F,E,e,t,w,g,q):=a;subst F E;obtain rfl:=p;obtain rfl:=n;show#[(jq l e).1,Kq z l e t w g λO s3 J G=>#[v,A,J,G,q]]
def ps_ddput(C:X.A.units+64<cLine)(F:PE X o T)(c:PE X i U)(B:PE X Z tv)(E:X5 Z (cL (.Subscript o i S)) pos.line X.env=pure SW):
  PS X (.Assign [.Subscript o i S] Z pos) (B7 X.K T U tv):=by
 intro d s g H D I h;show aay (bG (B d s g H _ I h) λr l #[v,H1,Q,rv,t]=>bG (F d l g H1 _ Q t) λu j #[x,H2,O,n,q]=>bG (c d j g H2 _ O q) λiv s3 a=>?_) E;let(y,H3,N,m,a,b,xs,k,L,A,e,w,z,G,p):=a;subst L A;obtain rfl:=n;obtain rfl:=m;show MQ C N e w z rv G λs4 M=>#[g,_,M,p]
def pe_ddget2(J:X.A.units+64<cLine)(L:PE X o T)(N:PE X e U)(M:PE X f tx)(m:M2 X o "get" Y e f P):PE X (.Call (.Attribute o "get" Y) [e,f] [] P) (yu X.K T U tx):=by
 intro d s g H Q I h;show acO m.base m.few m.line WT Y5 PySem.F.type_dict_get (bG (L d s g H _ I h) λu r a=>?_);let(x,H1,j,v,a,l,ex,e0,C):=a;subst ex;obtain rfl:=v;let(p,n,_):=jq j e0;show#[p,n,?_];rw[m.trees];show Calls.callWith_builtin W (Calls.evalArgs_plain (Calls.spliced_cons (bG (N d r g H1 _ j C) λiv q #[y,H2,I2,t,B]=>
  Calls.spliced_cons (bG (M d q g H2 _ I2 B) λfv s3 a=>?_))));let(z,H3,I3,A,b,xs,k,O,e3,E,G,w):=a;show Calls.spliced_nil ?_
 subst O;obtain rfl:=t;show HM J I3 e3 E G A λw' s4 I4 YG=>#[_,H3,I4,YG,w]
def pe_ddpop(G:X.A.units+64<cLine)(J:PE X o T)(L:PE X e U)(m:M1 X o "pop" Y e P):PE X (.Call (.Attribute o "pop" Y) [e] [] P) (Cy X.K T U):=by intro d s j H Q I h;show acO m.base m.few m.line WT Y6 PySem.F.type_dict_pop (bG (J d s j H _ I h) λu r a=>?_);let(x,H1,l,w,a,n,N,e0,B):=a;subst N;obtain rfl:=w;let(q,p,_):=jq l e0;show#[q,p,?_];rw[m.trees];show Calls.callWith_builtin W (Calls.evalArgs_plain (Calls.spliced_cons (bG (L d r j H1 _ l B) λiv s2 a=>?_)));let(y,H2,I2,t,b,xs,k,v,A,e2,C,E,g,z):=a;show Calls.spliced_nil ?_;subst A;obtain rfl:=t;show KK G I2 e2 C E g λw' s3 I3 O=>#[v,_,I3,O,z]
theorem pe_ddnew:PE X (.Dict [] [] pos) AQ:=λa s b H Q I h=>
 wpAny_Dict_empty #[.ref s.heap.objs.size,_,I.laid (λ_ _ q=>cj _ q) (SN _) (sG (TX _) (beq_eq_false_iff_ne.mpr (dt (TB I.big))) .nil (Heap.DictOfH.new s.heap)),W,h _ (I.U9.fresh (SN _))]
end
mutual
def ltd:SR->SR->cc Bool
 |.int i,.int j=>cL (decide (i<j))
 |.str x,.str y=>cL (decide (x.cps.toList<y.cps.toList))
 |.tuple xs,.tuple ys=>ltds xs ys
 |_,_=>CL
def ltds:cb SR->cb SR->cc Bool
 |[],[]=>cL SW
 |[],_::_=>cL SJ
 |_::_,[]=>cL SW
 |x::xs,y::ys=>if SR.eqv x y=SJ then ltds xs ys else ltd x y
end
section
variable{Y:Tg}{w:TN}{E:OK->SS->Prop}
theorem DE:∀(n:Nat) (x y:SR) (u v:T) (as bs:cb SU) (A:Tv) (s:SS) (Q:T->SS->Prop) (r:Bool),x.depth<=n->y.depth<=n->x.canLay0=U->y.canLay0=U->Vq s.heap u x as->Vq s.heap v y bs->A.units+n<cLine->ltd x y=M r->Q (.bool r) s->wpAny (model Y w) A (richCompare .Lt u v) Q E s
 |n,.int i,.int j=>by intro _ _ _ _ A s Q r _ _ _ _ g rv _ e h;ext g;ext rv;rw[ltd]at e;ext e;show acP (W3 s _ _) (W3 s _ _) F.slot_int_lt F.entry_int_lt (F.args_int_lt_2 _ _) (gives_int_lt _ _ _ _) (λx=>nomatch x) h
 |n,.str i,.str j=>by intro _ _ _ _ A s Q r _ _ _ _ g rv _ e h;ext g;ext rv;rw[ltd]at e;ext e;show acP (Zu s _ _) (Zu s _ _) F.slot_str_lt F.entry_str_lt (F.args_str_lt_2 _ _) (gives_str_lt _ _ _ _) (λx=>nomatch x) h
 |0,.tuple xs,_=>by intro _ _ _ _ _ _ _ _ o;simp only[SR.depth]at o;ext
 |n+1,.tuple xs,.tuple ys=>by
  intro _ _ _ _ A s Q r o H C B g rv L e h;cases g with
  | @tuple a oa va na _ _ a1 a2 a3 a4=>
  cases rv with
  | @tuple b ob vb nb _ _ b1 b2 b3 b4=>
   let m:s.TypeIs (.ref a) "tuple":=#[_,a1,a2];let l:s.TypeIs (.ref b) "tuple":=#[_,b1,b2];rw[ltd]at e;simp only[SR.depth]at o H;unfold SR.canLay0 at C B;show Zn m l F.slot_tuple_lt (UB F.slot_tuple_lt m F.entry_tuple_lt ?_ (F.args_tuple_lt_2 _ _)) ();show wpAny _ _ (isInstance (.ref b) (.type "tuple")>>=_) _ _ s;show lD (Vh l aa4 ?_);simp only[UY,S4,if_false];show lD (Yn a1 a3 ?_);show lD (Yn b1 b3 ?_);show lD ?_;let la:va.size=xs.length:=by let:=SeqAt.ReadsAll.length _ _ _ a4;rw[Tt]at this;show this
   let G:vb.size=ys.length:=by let:=SeqAt.ReadsAll.length _ _ _ b4;rw[Tt]at this;show this
   show adq _
    (λd q f=>q.1=S/\f=s/\∃x' P X N cs ds,d=List.zip X N/\V0 s.heap X x' cs/\V0 s.heap N P ds/\SR.depthAll x'<=n/\SR.depthAll P<=n/\SR.canLayAll0 x'=U/\SR.canLayAll0 P=U/\ltds x' P=ltds xs ys/\(x'.length<P.length↔xs.length<ys.length))
    _ ?_ ?_ _ _ #[W,W,xs,ys,_,_,_,_,W,a4,b4,by ext,by ext,C,B,W,Iff.rfl]
   .rintro⟨p,q⟩ d K f ⟨t,rfl,x',P,X,N,cs,ds,hz,Y8,hy',dx,dy,cx,cy,hl,hlen⟩
    cases Y8 with
    |nil=>simp at hz
    | @cons p' ps k1 x'' c1 c2 h1 afy=>
     cases hy' with
     |nil=>simp at hz
     | @cons q' qs k2 y'' d1 d2 h2 agN=>
      simp only[Us,ZN,Prod.mk.injEq]at hz;let((rfl,rfl),rfl):=hz;simp only[SR.depthAll]at dx dy;unfold SR.canLayAll0 at cx cy;rw[Ld]at cx cy;show lD (SeqAt.eqAt_reads k1 k2 A.in1 f p q _ _ h1 h2 cx.1 cy.1 (by rw[Tv.in1_units];ext) Y w _ _ ?_);rw[ltds]at hl;cases z:SR.eqv k1 k2 with
      |true=>rw[ai z]at hl;simp only[UY,S4,if_false];show SH #[W,W,x'',y'',ps,qs,_,_,W,afy,agN,by ext,by ext,cx.2,cy.2,hl,?_];rw[<-hlen,S0,S0];ext
      |false=>rw[ak (by rw[z];simp)]at hl;simp only[YM,if_true];show lD (XF (lD (DE n k1 k2 p q _ _ A.in1 f _ r () () cx.1 cy.1 h1 h2 (by rw[Tv.in1_units];ext) (hl.trans e) ?_)));show lD (SH (SH (SH #[_,W,(λx=>nomatch x),h])))
   .rintro⟨J,I⟩ f ⟨t,rfl,x',P,X,N,cs,ds,hz,Y8,hy',dx,dy,cx,cy,hl,hlen⟩
    simp only at t;subst t;show SH #[_,W,(λx=>nomatch x),?_];let er:r=decide (xs.length<ys.length):=by
     let:ltds x' P=M (decide (x'.length<P.length)):=by
      cases Y8 with
      |nil=>ext hy'<;>simp[ltds]
      |cons _ _=>
       cases hy' with
       |nil=>simp[ltds]
       |cons _ _=>simp at hz
     rw[<-hl,this]at e;ext e;show decide_eq_decide.mpr hlen
    rw[er]at h;rw[la,G];show h
 |_,.none,_|_,.bool _,_|_,.list _,_|_,.dict _,_=>by
  intros;rename_i e _
  simp[ltd]at e
 |_,.int _,.none|_,.int _,.bool _|_,.int _,.str _|_,.int _,.tuple _|_,.int _,.list _|_,.int _,.dict _=>by
  intros;rename_i e _
  simp[ltd]at e
 |_,.str _,.none|_,.str _,.bool _|_,.str _,.int _|_,.str _,.tuple _|_,.str _,.list _|_,.str _,.dict _=>by
  intros;rename_i e _
  simp[ltd]at e
 |_,.tuple _,.none|_,.tuple _,.bool _|_,.tuple _,.int _|_,.tuple _,.str _|_,.tuple _,.list _|_,.tuple _,.dict _=>by
  intros;rename_i e _
  simp[ltd]at e
end
end LD
namespace LD
open PySem PyProof.Rows
structure VE(es:G UM)(kvs:G (Unit×T)):Prop where
 vals:es.map (·.val)=kvs.map (·.2)
def VE.length{es:G UM}{a:G (Unit×T)}(h:VE es a):es.length=a.length:=by let:=eh UQ h.vals;rw[SI,SI]at this;show this
def VE.get?{es:G UM}{c:G (Unit×T)}(h:VE es c){i:Nat}{e:UM}{k:Unit}{v:T}(b:es[i]?=M e)(a:c[i]?=M (k,v)):True/\e.val=v:=by let:=eh (λl=>l[i]?) h.vals;simp only[S3,b,a,Yi,Xy]at this;show#[trivial,this]
def RawAt(h:Heap)(d:J)(b:G (Unit×T))(a:Nat):Prop:=∃o es,h.get? d=M o/\o.ExactDict/\o.data=.dict es a/\True/\VE es.toList b/\True
theorem RawAt.at'{h d:Heap}{a:J}{c:G (Unit×T)}{b:Nat}(x:RawAt h a c b)(e:∀o,h.get? a=M o->d.get? a=M o):RawAt d a c b:=let#[o,es,f,r]:=x;#[o,es,e _ f,r]
def Kp(h0 h:Heap):Prop:=∀b o,h0.get? b=M o->h.get? b=M o
theorem Kp.step{h0 h c:Heap}{wr:G J}(a:∀b∈wr,h0.get? b=S)(k:Kp h0 h)(d:∀b o,b∉wr->h.get? b=M o->c.get? b=M o):Kp h0 c:=λb o e=>d b o (λm=>by rw[a b m]at e;ext e) (k b o e)
theorem Kp.upd{h0 h:Heap}{S:J}{f:Obj->Obj}(a:h0.get? S=CL)(k:Kp h0 h):Kp h0 (h.update S f):=λb o e=>(c3 _ _ (λz:S=b=>by rw[z,e]at a;ext a)).trans (k b o e)
def Bj(prog:Tg)(w:TN)(A:Tv)(h0:Heap)(P:Nat->T->Prop)(a:Nat->Nat->Bool):Prop:=
 ∀i j d b (s:SS) (Q:T->SS->Prop) (E:T->SS->Prop),P i d->P j b->Kp h0 s.heap->Q (.bool (a i j)) s->wpAny (model prog w) A (richCompare .Lt d b) Q E s
section
variable{Y:Tg}{w:TN}{A:Tv}{E:OK->SS->Prop}{s:SS}
def kw{v d:J}{c:G (Unit×T)}{j:Nat}{Q:T->SS->Prop}(b:s.heap.IsValuesView v d)(hm:RawAt s.heap d c j)
  (n:Q (.ref s.heap.objs.size) {s with heap:=s.heap.push {cls:=.type "dict_valueiterator",data:=.fields #v[.ref d,.int 0 0,.int c.length 0,.int j 0]}}):
  wpAny (model Y w) A (pyIter (.ref v)) Q E s:=by
 let(p,f,m,g):=id b;let(o,es,i,r,a,q,l,t):=id hm;show acQ b.typeIs F.slot_dict_values_iter (UB F.slot_dict_values_iter b.typeIs F.entry_dict_values_iter ?_ (F.args_dict_values_iter_1 _));unfold Builtin.«dict_values.__iter__»;show lD (SH ?_);show lD ?_;ext Builtin.Dict_items.dictOf;show lD (Vp f g (x:=.ref d) W (SH ?_));show lD ?_;ext Builtin.Dict_items.newIterator;show lD (UH i a ?_);show lD (VO i a ?_);let e:es.size=c.length:=by rw[<-l.length];simp
 let h:Builtin.Dict_items.ownsTuple "dict_valueiterator"=SW:=by decide
 simp only[h,S4,if_false];show TJ (SH #[_,W,"dict_valueiterator",_,#[_,c0 _ W,W],F.slot_dict_valueiterator_next.lookup,?_])
 simpa [rawInt,e]using n
def ir{it d:J}{i n:Nat}{c:cb (Unit×T)}{k:Unit}{v:T}{Q:cc T->SS->Prop}(a:s.heap.IsValIter it d i c.length n)
  (hm:RawAt s.heap d c n) (t:c[i]?=M (k,v))
  (C:∀x,x.IsValIter it d (i+1) c.length n->Heap.SameBut it s.heap x->Q (M v) {s with heap:=x}):
  wpAny (model Y w) A (pyNext (.ref it)) Q E s:=by
 let(o,p,B,m):=id a;let(H,es,g,z,j,I,u,L):=id hm;ext pyNext;show lD (Xq (UL (name:=Str.ofString "__next__") a.typeIs F.slot_dict_valueiterator_next
  (UB F.slot_dict_valueiterator_next a.typeIs F.entry_dict_valueiterator_next ?_ (F.args_dict_valueiterator_next_1 _))))
 show lD (SH ?_);show lD ?_;show lD ?_
 first|show lD (VC a.typeIs (SH ?_))|show lD (V8 a.typeIs (SH ?_))
 show lD (X2 p m ?_);let r:Builtin.Dict_items.ownsTuple "dict_valueiterator"=SW:=by decide
 simp only[r,S4,if_false];show wpAny _ _ (if(OK.ref d==OK.none)=U then _ else _) _ _ s;rw[ak (show¬((OK.ref d==OK.none)=U)from Td)];show lD (SH ?_);show lD (UH g j ?_);let f:es.size=c.length:=by rw[<-u.length];simp
 rw[ak (by rw[f];simp)];show lD (SH ?_);show lD (VO g j ?_);rw[ak (by simp)];show SH ?_;let G:i<c.length:=by
  rcases Nat.lt_or_ge i c.length with h|h
  .show h
  .simp[Wn h]at t
 let l:i<es.size:=by rw[f];show G
 let q:es[i].val=v:=(u.get? (e:=es[i]) (by simp[l]) t).2;simp only[show¬((i:Int)<0)from by ext,if_false,Uz,WQ l];show lD ?_
 first|show lD (VC a.typeIs (SH ?_))|show lD (V8 a.typeIs (SH ?_))
 show lD (XR a.typeIs ?_);show wpAny _ _ (setField (.ref it) 1 (rawInt ((i:Int)+1))>>=_) _ _ s;show lD (V1 p m (by simp) ?_)
 let b:(s.heap.update it (Obj.mapFields (·.setIfInBounds 1 (rawInt ((i:Int)+1))))).IsValIter it d (i+1) c.length n:=
  #[_,c4 _ p (di (c6 m _)),(Obj.cls_mapFields ..).trans B,by rw[c6 m];simp[rawInt]]
 show lD (UA ?_);show lD (XR (s:={s with heap:=s.heap.update it (Obj.mapFields (·.setIfInBounds 1 (rawInt ((i:Int)+1))))}) b.typeIs ?_);show lD (XR (s:={s with heap:=s.heap.update it (Obj.mapFields (·.setIfInBounds 1 (rawInt ((i:Int)+1))))}) b.typeIs ?_);show wpAny _ _ (pure es[i].val) _ _ _;show SH (SH #[_,W,SH (q▸C _ b (Heap.SameBut.update ..))])
def iM{it d:J}{i q:Nat}{c:cb (Unit×OK)}{Q:I OK->SS->Prop}(u:A.handled=S)(e:s.heap.IsValIter it d i c.length q)
  (hm:RawAt s.heap d c q) (r:c[i]?=S)
  (z:∀k,Heap.ExtBut it s.heap k->Q S {s with heap:=k}):wpAny (model Y w) A (pyNext (.ref it)) Q E s:=by
 let(o,n,G,p):=id e;let(B,es,g,v,h,C,t,L):=id hm;ext pyNext;show lD (Xq (UL (name:=Str.ofString "__next__") e.typeIs F.slot_dict_valueiterator_next
  (UB F.slot_dict_valueiterator_next e.typeIs F.entry_dict_valueiterator_next ?_ (F.args_dict_valueiterator_next_1 _))))
 show lD (SH ?_);show lD ?_;show lD ?_
 first|show lD (VC e.typeIs (SH ?_))|show lD (V8 e.typeIs (SH ?_))
 show lD (X2 n p ?_);let l:Builtin.Dict_items.ownsTuple "dict_valueiterator"=SW:=by decide
 simp only[l,S4,if_false];show wpAny _ _ (if(OK.ref d==OK.none)=U then _ else _) _ _ s;rw[ak (show¬((OK.ref d==OK.none)=U)from Td)];show lD (SH ?_);show lD (UH g h ?_);let f:es.size=c.length:=by rw[<-t.length];simp
 rw[ak (by rw[f];simp)];show lD (SH ?_);show lD (VO g h ?_);rw[ak (by simp)];show SH ?_;let j:es.size<=i:=by rw[f];simpa using r
 simp only[show¬((i:Int)<0)from by ext,if_false,Uz,Zd j];show lD ?_
 first|show lD (VC e.typeIs (SH ?_))|show lD (V8 e.typeIs (SH ?_))
 show wpAny _ _ (setField (.ref it) 0 .none>>=_) _ _ s;show lD (V1 n p (by simp) ?_);show wpAny _ _ (newExc (.type "StopIteration") []>>=_) _ _ _;show lD ?_;simp only[newExc,newTuple];show lD (TJ ?_ (by size_fits));show lD (m:=firstArgMember _ _) (Xj (a:=OK.none) (by first|rfl|(simp only[firstArgMember];rfl)) ?_);show TJ ?_ (by size_fits);simp only[raiseNew];show lD (agY ?_);rw[show A.in1.handled=S from u];show lD (SH (wpAny_throw ?_));show lD (Vh (T:= "StopIteration") (b:=U) #[_,c0 _ W,W] afl ?_);show SH (z _ (((Heap.SameBut.update ..).extBut.push _).push _))
theorem zo(t:A.handled=S)(I d:J)(u:d≠I)(c:G (Unit×T))(r:Nat):
  Walks Y w A I [I,d] [I] c.length (λi v=>∃k,c[i]?=M (k,v)) (λi h=>h.IsValIter I d i c.length r/\RawAt h d c r) where
 sub:=λb a=>by simp at a;simp[a]
 frame:=λ_ _ _ st q=>#[st.1.at λo e=>q I (by simp) o e,st.2.at' λo e=>q d (by simp) o e]
 item:=λi s Q E z st g=>by obtain⟨⟨k,x⟩,n⟩:∃p,c[i]?=M p:=#[c[i],by simp[z]];show ir st.1 st.2 n λl m f=>?_;show g x l s.toks #[k,n] #[m,st.2.at' λo e=>f.extBut d o u e] λb o a e=>f.extBut b o (λh=>a (by simp[h])) e
 done:=λs Q E st g=>iM t st.1 st.2 (by simp) λl j=>g l s.toks λb o a e=>j b o (λh=>a (by simp[h])) e
 self:=λ_ _ _ _ st g=>wpAny_pyIter_valiter st.1 g
end
section
variable{prog:Tg}{w:TN}{A:Tv}{R:Yk->SS->Prop}{I:SU}{fp wr:cb SU}{n:Nat}{P:Nat->OK->Prop}{St:Nat->Heap->Prop}
def sB(W:Walks prog w A.in1 I fp wr n P St)(r:Nat->Nat->Bool){h0:Heap}(Z:Bj prog w A.in1 h0 P r)(M:∀b∈wr,h0.get? b=CL)(S:SU)(L:h0.get? S=CL)(z:S∉fp):
  ∀(k j:Nat) (s:SS) (d:OK) (c:Nat),n - (j+1)=k->j+1<=n->St (j+1) s.heap->P (argBest r j) d->Kp h0 s.heap->
  s.heap.get? S=cL {cls:=.type "list",dict:=CL,data:=.seq #v[d,d] c,slots:= #v[]}->
  (∀v y x,P (argBest r (n - 1)) v->(∀b o,b∉wr->b≠S->s.heap.get? b=cL o->y.get? b=cL o)->R (.ok (.ret v)) {s with heap:=y,toks:=x})->
  codeAny (model prog w) A (.builtin "min.loop" #[[.ref I,.none,.ref S],[]]) R s:=by
 let u:S∉wr:=λh=>z (W.sub _ h);let U:(toString "min"++toString ".loop":String)= "min.loop":=by decide
 intro k
 induction k with
 |zero=>
  intro j s d c X Y N f H B G;let t:j+1=n:=by ext
  show VN F.entry_min_loop ?_;rw[Tv.under_plainId F.plain_min_loop _];show wpAny _ A.in1 (seqItems? (.ref S)>>=_) _ _ s;show lD (W5 B rfl ?_);show wpAny _ A.in1 (tryCatch (pyNext (.ref I)) _>>=_) _ _ s;show lD (Wt (W.done s _ _ (t▸N) λy x g=>?_));let E:=g S _ u B;show wpAny _ A.in1 (updateSeq S (λ_=> #v[])>>=_) _ _ _;show lD ?_;show XN E rfl (lD (Xk (SH ?_)));show G d _ x (by rw[<-t];show f) λb o q a e=>(c3 _ _ (dt a)).trans (g b o q e)
 |succ k Q=>
  intro j s d c X Y N f H B G;let O:j+1<n:=by ext
  show VN F.entry_min_loop ?_;rw[Tv.under_plainId F.plain_min_loop _];show wpAny _ A.in1 (seqItems? (.ref S)>>=_) _ _ s;show lD (W5 B rfl ?_);show wpAny _ A.in1 (tryCatch (pyNext (.ref I)) _>>=_) _ _ s;show lD (Wt (W.item (j+1) s _ _ O N λv y x T C g=>?_));let E:=g S _ u B;show wpAny _ A.in1 (tryCatch (holding [v,v] (richCompare .Lt v d>>=_)) _>>=_) _ _ _;show lD (Wt (UA (lD (Z (j+1) (argBest r j) v d _ _ _ T f (Kp.step M H g) ?_))));show lD (UA (Vo ?_));show lD (Xk (SH ?_));cases hb:r (j+1) (argBest r j)with
  |true=>
   simp only[if_true];show lD ?_;show XN E rfl (lD (Xk ?_));rw[U];show SH #[Vf F.plain_min_loop _,Q (j+1) _ v _ () O (W.frame _ _ _ C λb K o e=>?_) (by simp only[argBest,hb,if_true];show T) (Kp.upd L (Kp.step M H g)) (c4 _ E rfl)
    λJ l m i p=>?_]
   .show(c3 _ _ (λh:S=b=>z (by rw[h];show K))).trans e
   .show G J l m i λb o q a e=>p b o q a ((c3 _ _ (dt a)).trans (g b o q e))
  |false=>simp only[S4,if_false];show lD (Xk ?_);rw[U];show SH #[Vf F.plain_min_loop _,Q (j+1) _ d c () O C (by simp only[argBest,hb,S4,if_false];show f) (Kp.step M H g) E λJ l m i p=>?_];show G J l m i λb o q a e=>p b o q a (g b o q e)
def fP(W:Walks prog w A.in1 I fp wr n P St)(m:Nat->Nat->Bool){h0:Heap}(K:Bj prog w A.in1 h0 P m)(B:∀b∈wr,h0.get? b=CL)(S:SU)(f:h0.get? S=CL)(a:S∉fp)(y:0<n){s:SS}{c:Nat}(M:St 0 s.heap)(J:Kp h0 s.heap)
  (u:s.heap.get? S=cL {cls:=.type "list",dict:=CL,data:=.seq #v[] c,slots:= #v[]})
  (G:∀v k x,P (argBest m (n - 1)) v->(∀b o,b∉wr->b≠S->s.heap.get? b=cL o->k.get? b=cL o)->R (.ok (.ret v)) {s with heap:=k,toks:=x}):
  codeAny (model prog w) A (.builtin "min.loop" #[[.ref I,.none,.ref S],[]]) R s:=by
 let i:S∉wr:=λh=>a (W.sub _ h);let L:(toString "min"++toString ".loop":String)= "min.loop":=by decide
 show VN F.entry_min_loop ?_;rw[Tv.under_plainId F.plain_min_loop _];show wpAny _ A.in1 (seqItems? (.ref S)>>=_) _ _ s;show lD (W5 u rfl ?_);show wpAny _ A.in1 (tryCatch (pyNext (.ref I)) _>>=_) _ _ s;show lD (Wt (W.item 0 s _ _ y M λv k x H p t=>?_));let z:=t S _ i u;show wpAny _ A.in1 (updateSeq S (λ_=> #v[v,v])>>=_) _ _ _;show lD ?_;show XN z rfl ?_;rw[L];show SH #[Vf F.plain_min_loop _,sB W m K B S f a _ 0 _ v _ rfl y (W.frame _ _ _ p λb g o e=>?_) H (Kp.upd f (Kp.step B J t)) (c4 _ z rfl) λE l q j r=>?_]
 .show(c3 _ _ (λh:S=b=>a (by rw[h];show g))).trans e
 .show G E l q j λb o C d e=>r b o C d ((c3 _ _ (dt d)).trans (t b o C e))
end
section
variable{Y:Tg}{w:TN}{A:Tv}{E:OK->SS->Prop}{s:SS}
def uj{h0 h:Heap}(k:Kp h0 h):h0.get? h.objs.size=S:=by
 cases q:h0.get? h.objs.size with
 |none=>rfl
 |some o=>show b9 (cv (k _ _ q)) (Ub _)
def rR{x:T}{Q:T->SS->Prop}
  (h:wpAny (model Y w) A.in1 (pyIter x) (λit c=>∃I u wr n P St y h0,it=.ref I/\Walks Y w A.in1 I u wr n P St/\St 0 c.heap/\(∀b∈u,b<c.heap.objs.size)/\0<n/\Bj Y w A.in1 h0 P y/\Kp h0 c.heap/\(∀b∈wr,h0.get? b=S)/\
   ∀v k z,P (argBest y (n - 1)) v->(∀b o,b∉wr->c.heap.get? b=M o->k.get? b=M o)->Q v {c with heap:=k,toks:=z}) E s):
  wpAny (model Y w) A (call (.builtin "min") [x]) Q E s:=by
 let r:(toString "min"++toString ".loop":String)= "min.loop":=by decide
 show aca F.kind_min F.plain_min F.entry_min (F.args_min1 _) ?_;show wpAny _ A.in1 (Builtin.Builtins.bindParams "min" ["key","default"] 0 #[[],[]]>>=_) _ _ s;show lD (Xj (show Builtin.Builtins.bindParams "min" ["key","default"] 0 #[[],[]]=pure [S,S]from rfl) ?_);show lD (SH ?_);show lD (wpAny_mono h (λit c a=>?_) λ_ _ e=>e);let(I,u,wr,n,P,St,y,h0,rfl,W,t,d,B,p,g,m,j):=a;show lD (TJ ?_);let f:c.heap.objs.size∉u:=λhm=>Ub _ (d _ hm);rw[r];show SH #[Vf F.plain_min_loop _,fP W y p m c.heap.objs.size (uj g) f B (W.frame _ _ _ t λb _ o e=>cj _ e) (λb o e=>cj _ (g b o e)) (c0 _ rfl) λv k z l i=>?_];show j v k z l λb o q e=>i b o q (TB (cv e)) (cj _ e)
def u4{a b:T}{Q:T->SS->Prop}
  (h:wpAny (model Y w) A.in1 (pyIter (.ref s.heap.objs.size)) (λit c=>∃I x wr n P St y h0,it=.ref I/\Walks Y w A.in1 I x wr n P St/\St 0 c.heap/\(∀b∈x,b<c.heap.objs.size)/\0<n/\Bj Y w A.in1 h0 P y/\Kp h0 c.heap/\(∀b∈wr,h0.get? b=S)/\
   ∀v k z,P (argBest y (n - 1)) v->(∀b o,b∉wr->c.heap.get? b=M o->k.get? b=M o)->Q v {c with heap:=k,toks:=z}) E
   {s with heap:=s.heap.push {cls:=.type "tuple",data:=.seq #v[a,b]}}):
  wpAny (model Y w) A (call (.builtin "min") [a,b]) Q E s:=by
 let t:(toString "min"++toString ".loop":String)= "min.loop":=by decide
 show aca F.kind_min F.plain_min F.entry_min (F.args_min2 _ _) ?_;show wpAny _ A.in1 (Builtin.Builtins.bindParams "min" ["key","default"] 0 #[[],[]]>>=_) _ _ s;show lD (Xj (show Builtin.Builtins.bindParams "min" ["key","default"] 0 #[[],[]]=pure [S,S]from rfl) ?_);show wpAny _ A.in1 (newTuple [a,b]>>=_) _ _ s;show lD (TJ ?_);show lD (wpAny_mono h (λit c d=>?_) λ_ _ e=>e);let(I,x,wr,n,P,St,y,h0,rfl,W,u,f,B,q,i,p,l):=d;show lD (TJ ?_);let g:c.heap.objs.size∉x:=λhm=>Ub _ (f _ hm);rw[t];show SH #[Vf F.plain_min_loop _,fP W y q p c.heap.objs.size (uj i) g B (W.frame _ _ _ u λb _ o e=>cj _ e) (λb o e=>cj _ (i b o e)) (c0 _ rfl) λv k z m j=>?_];show l v k z m λb o r e=>j b o r (TB (cv e)) (cj _ e)
end
end LD
namespace LD
open PySem PyProof.Rows L2 L3 L10
def okO(ds:G D):Bool:=ds.all λa=>a.canLay0&&decide (a.depth<=32)&&ds.all λb=>(ltd a b).isSome
def btD(ds:G D)(i j:Nat):Bool:=(ltd (ds.getD i .none) (ds.getD j .none)).getD SW
def minI(ds:G D):Nat:=argBest (btD ds) (ds.length - 1)
def kz{ds:G D}(h:okO ds=U){i:Nat}{a:D}(e:ds[i]?=M a):a.canLay0=U/\a.depth<=32:=by unfold okO at h;rw[TR]at h;let:=h a (Te e);rw[Ld,Ld]at this;show#[this.1.1,a8 this.1.2]
def sT{ds:G D}(h:okO ds=U){i j:Nat}{a b:D}(f:ds[i]?=M a)(e:ds[j]?=M b):ltd a b=M (btD ds i j):=by unfold okO at h;rw[TR]at h;let:=h a (Te f);rw[Ld]at this;let d:=this.2;rw[TR]at d;let l:=d b (Te e);ext btD;rw[VR,VR,f,e];let(r,g):=UD.mp l;show ltd a b=M ((ltd a b).getD SW);rw[g];rfl
def tS{prog:Tg}{w:TN}{A:Tv}{h0:Heap}{P:Nat->T->Prop}{ds:G D}(p:A.units+32<cLine)(h:okO ds=U)(m:∀i v,P i v->∃d as,ds[i]?=M d/\Vq h0 v d as):Bj prog w A h0 P (btD ds):=by intro i j l g s Q E t r k q;let(a,as,f,o):=m i l t;let(b,bs,e,n):=m j g r;show DE 32 a b l g as bs A s Q _ (kz h f).2 (kz h e).2 (kz h f).1 (kz h e).1 (Reads.keeps k o) (Reads.keeps k n) p (sT h f e) q
def Ba:V->G V->Hp->VK->Prop:=λx b H Q=>∃a xs,x=.ref a/\b=[]/\H a=M (DkO a xs)/\∀p,H p=S->Q (.ref p) (upd H p (Nn p a))
theorem rC{prog:Tg}{w:TN}(d:J)(hd:(d==UE)=SW):MeetsIn prog w (Builtin.«dict.values» #[[.ref d],[]]) (λ_ R s=>s.TypeIs (.ref d) "dict"/\R (.ok (.ret (.ref s.heap.objs.size))) {s with heap:=s.heap.push {cls:=.type "dict_values",data:=.fields #v[.ref d]}}):=
 .of_wp λA R s #[a,h]=>by show lD ?_;ext Builtin.Dict.noArgs;show lD (Vi a ?_);show wpAny _ _ (pure d) _ _ s;show SH ?_;show wpAny _ _ (Builtin.Dict.showsAll d>>=_) _ _ s;ext Builtin.Dict.showsAll;rw[ak (by rw[hd];show Td)];show lD (SH (lD (TJ (SH #[_,W,h]))))
def vO{X:Cx}:Qa X "dict.values" Ba:=by intro g s l H x xs v m Q I i d h;let(a,ys,rfl,rfl,e,q):=h;ext i;ext d;let(f,_,j):=jq I e;show aaz YB f PySem.F.entry_dict_values (PySem.F.args_dict_values_1 _) (rC a j) #[f,?_];show#[.ref s.heap.objs.size,_,I.laid (t':=s.toks) (o:=Nn s.heap.objs.size a) (λb o e=>cj _ e) (SN _) (Oq #[_,c0 _ W,W,W]),W,q _ (I.U9.fresh (SN _))]
def JY(K:Bn):G V->Hp->VK->Prop:=λxs H Q=>∃(p a:J) (ys:G (KD×J×V)) (ds:G D),xs=[.ref p]/\H p=M (Nn p a)/\H a=M (DkO a ys)/\L2.UN K H (ys.map (·.2.2)) ds/\0<ds.length/\okO ds=U/\∀(v:V) (d:D),(ys.map (·.2.2))[minI ds]?=M v->ds[minI ds]?=M d->L2.DV K H v d->Q v H
theorem vx{K:Bn}{H:Hp}:∀{b:G V} {ds:G D} {i:Nat} {v:V},L2.UN K H b ds->b[i]?=M v->∃d,ds[i]?=M d/\L2.DV K H v d
 |_,_,0,_,.cons h _,e=>by ext e;show#[_,W,h]
 |_,_,n+1,_,.cons _ t,e=>by let(d,h1,a):=vx (i:=n) t (by simpa using e);show#[d,by simpa using h1,a]
theorem sP{K:Bn}{H:Hp}:∀{a:G V} {ds:G D},L2.UN K H a ds->a.length=ds.length
 |_,_,.nil=>rfl
 |_,_,.cons _ t=>by rw[S0,S0,sP t]
def yr{c:G V}{a:G T}{i:Nat}{u:T}(h:Vals c a)(e:a[i]?=M u):∃v,c[i]?=M v/\RelV v u:=by
 induction h generalizing i with
 |nil=>simp at e
 |cons r _ b=>
  cases i with
  |zero=>simp at e;subst e;show#[_,W,r]
  |succ n=>let(v,h1,d):=b (i:=n) (by simpa using e);show#[v,by simpa using h1,d]
theorem y3:∀{xs:G (KD×J×V)} {ys:G (KD×J×T)},RX xs ys->Vals (xs.map (·.2.2)) (ys.map (·.2.2))
 |_,_,.nil=>.nil
 |_,_,.cons h t=>.cons h.2.2 (y3 t)
def call_minV{X:Cx}(S:X.calm=SJ)(c:X.A.units+64<cLine):fF X (.builtin "min") (JY X.K):=by
 intro E s σ H xs us Q I r h;let(p,a,ys,ds,rfl,ep,e,C,h0,N,q):=h;let(u,rfl,L):=l8 r;ext L;obtain⟨J,_,_⟩:ObjOk X.prog X.w H s.heap p (Nn p a):=I.U9 p _ ep;let(((z,hd,nd),o,es,G,F,Z,Y,U),_):=(show ObjOk X.prog X.w H s.heap a (DkO a ys)from I.U9 a _ e);let(j,k1,k2):=IV (P:=X.prog) U;let m:=y3 k1;let t:ds.length=j.length:=by rw[<-sP C,SI,Paired.length k1]
 let n:RawAt s.heap a (j.map λy=>(⟨⟩,y.2.2)) G:=#[o,es,F,Z,Y,trivial,#[by rw[k2,T1,T1];rfl],trivial];show rR (kw (A:=X.A.in1) J n ?_);let la:a<s.heap.objs.size:=cv F;show#[_,_,_,_,_,_,_,s.heap,W,zo (A:=X.A.in1) (I.ok.hd S) s.heap.objs.size a (TB la) (j.map λy=>(⟨⟩,y.2.2)) G,#[#[_,c0 _ W,W,W],n.at' λo e=>cj _ e],λb g=>?_,by rw[SI];ext,tS (ds:=ds) (by rw[Tv.in1_units];ext) N (λi v f=>?_),λb o e=>cj _ e,λb g=>?_,λv h' tk T O=>?_]
 .show b<(s.heap.push _).objs.size
  rw[c5];rcases Tf.mp g with rfl|g
  .show UX _
  .rcases Tf.mp g with rfl|g
   .show Wj la
   .ext g
 .let(k,f):=f
  rw[S3]at f;let l:(j.map (·.2.2))[i]?=cL v:=by
   rw[S3];cases q:j[i]? with
   |none=>rw[q]at f;ext f
   |some y=>rw[q]at f;ext f;rfl
  let(x,e1,B):=yr m l;let(d,e2,dx):=vx C e1;let(as,M):=L2.DV.reads I dx B;show#[d,as,e2,M]
 .rcases Tf.mp g with rfl|g
  .cases q:s.heap.get? s.heap.objs.size with
   |none=>rfl
   |some o=>show b9 (cv q) (Ub _)
  .ext g
 .let(k,f):=T
  rw[S3]at f;let l:(j.map (·.2.2))[minI ds]?=cL v:=by
   rw[SI,<-t]at f;rw[S3];show ZO _ j[argBest (btD ds) (ds.length - 1)]?=cL v;cases q:j[argBest (btD ds) (ds.length - 1)]? with
   |none=>rw[q]at f;ext f
   |some y=>rw[q]at f;ext f;rfl
  let(x,e1,B):=yr m l;let(d,e2,dx):=vx C e1;show#[x,H,I.kept (λb o e=>O b o (λhm=>?_) (cj _ e)),B,q x d e1 e2 dx];rcases Tf.mp hm with e1|hm
  .show b9 (e1▸cv e) (Ub _)
  .ext hm
def Jr(K:Bn):G V->Hp->VK->Prop:=λxs H Q=>∃(x y:V) (d e:D),xs=[x,y]/\L2.DV K H x d/\L2.DV K H y e/\okO [d,e]=U/\Q (if ltd e d=M U then y else x) H
def call_min2{X:Cx}(M:X.calm=SJ)(U:X.A.units+64<cLine):fF X (.builtin "min") (Jr X.K):=by
 intro p s S H xs F Q I r h;let(x,y,d,e,rfl,dx,P,C,q):=h;obtain⟨u,v,rfl,m,rv⟩:∃u v,F=[u,v]/\RelV x u/\RelV y v:=by
  cases r with
  |cons a b=>cases b with
   |cons b c=>ext c;show#[_,_,W,a,b]
 let(as,J):=L2.DV.reads I dx m;let(bs,G):=L2.DV.reads I P rv;let B:(s.heap.push {cls:=.type "tuple",data:=.seq #v[u,v]}).IsTuple s.heap.objs.size #v[u,v]:=#[_,c0 _ W,W,_,W];show u4 (XQ B ?_);let sz:(s.heap.push {cls:=.type "tuple",data:=.seq #v[u,v]}).objs.size=s.heap.objs.size+1:=c5 ..;show#[_,_,_,_,_,_,_,s.heap,W,Walks.tuple (A:=X.A.in1) (I.ok.hd M) _ s.heap.objs.size (by rw[sz];show TB (UX _)) #v[u,v],#[#[_,c0 _ W,W,W],B.push _],λb f=>?_,(show 0<2 from by decide),tS (ds:=[d,e]) (by rw[Tv.in1_units];ext) C (λi w g=>?_),λb o e=>cj _ (cj _ e),λb f=>?_,λw N T l L=>?_]
 .show b<((s.heap.push _).push _).objs.size
  rw[c5,sz];rcases Tf.mp f with rfl|f
  .rw[sz];show UX _
  .rcases Tf.mp f with rfl|f
   .show Wj (UX _)
   .ext f
 .match i,g with
  |0,g=>ext g;show#[d,as,W,J]
  |1,g=>ext g;show#[e,bs,W,G]
  |n+2,g=>ext g
 .rcases Tf.mp f with rfl|f
  .rw[sz]
   cases q:s.heap.get? (s.heap.objs.size+1)with
   |none=>rfl
   |some o=>show b9 (cv q) (abm (UX _))
  .ext f
 .let t:∀b o,s.heap.get? b=cL o->N.get? b=cL o:=λb o e=>by
   show L b o (λhm=>?_) (cj _ (cj _ e));let:=cv e;rcases Tf.mp hm with e1|hm
   .rw[sz]at e1;rw[e1]at this;show b9 this (abm (UX _))
   .ext hm
  let Y:btD [d,e] 1 0=(ltd e d).getD SW:=W;let l:(#v[u,v]:Array OK)[argBest (btD [d,e]) 1]?=cL w:=l;let O:argBest (btD [d,e]) 1=if btD [d,e] 1 0=SJ then 1 else 0:=W
  let E:=sT C (i:=1) (j:=0) (a:=e) (b:=d) W W;rw[O]at l;cases z:btD [d,e] 1 0 with
  |true=>rw[z,ai W]at l;ext l;rw[E,z,ai W]at q;show#[y,H,I.kept t,rv,q]
  |false=>rw[z,ak (by simp)]at l;ext l;rw[E,z,ak (by simp)]at q;show#[x,H,I.kept t,m,q]
def JZ(e:TE):TE:=λd H Q=>e d H λx b=>∃a xs,x=.ref a/\b a=M (DkO a xs)/\∀p,b p=S->Q (.bl (!xs.isEmpty)) (upd b p (DkO p []))
def Lm{prog:Tg}{w:TN}{A:Tv}{E:OK->SS->Prop}{s:SS}{a b:J}{g f:Obj}{d:Array UM}{na nb:Nat}{Q:OK->SS->Prop}(k:(a==UE)=SW)(c:(b==UE)=SW)(h1:s.heap.get? a=M g)(n:g.ExactDict)(i:g.data=.dict d na)(j:s.heap.get? b=M f)(p:f.ExactDict)(o:f.data=.dict #v[] nb)(m:A.units<cLine)(h:Q (.bool (!d.isEmpty)) s):
  wpAny (model prog w) A (UK .NotEq (.ref a) (.ref b)) Q E s:=by
 let e:s.TypeIs (.ref a) "dict":=#[_,h1,n.1];let tB:s.TypeIs (.ref b) "dict":=#[_,j,p.1];show Zn (op:=.NotEq) e tB Ze (UB Ze e PySem.F.entry_dict_ne ?_ (PySem.F.args_dict_ne_2 _ _)) m;show wpAny _ _ (Builtin.Dict.dictSlotArgs "__ne__" #[[.ref a,.ref b],[]]>>=_) _ _ s;show lD ?_;ext Builtin.Dict.dictSlotArgs;show lD (Vi e ?_);show wpAny _ _ (pure (OK.ref a,OK.ref b)) _ _ s;show SH ?_;show lD (Vh (T:= "dict") tB PySem.F.sub_dict_dict ?_);simp only[UY,S4,if_false];show lD (SH (lD (SH ?_)));unfold Builtin.Dict.samePairs Builtin.Dict.showsAll;rw[ak (by rw[k];show Td),ak (by rw[c];show Td)];show lD (lD (SH (lD (SH ?_))));show lD (UH h1 i ?_);show lD (UH j o ?_);cases q:d.isEmpty with
 |true=>rw[X1]at q;subst q;show wpAny _ _ (dictEpoch a>>=_) _ _ s;show lD (VO h1 i ?_);show lD (Xj (a:=(S,⟨⟩)) (by simp) ?_);show SH (SH #[_,W,(λx=>nomatch x),h])
 |false=>
  rw[q]at h;let l:d.size≠0:=λz=>by rw[YC]at q;show q (Yc z)
  show wpAny _ _ (if(d.size !=0)=U then _ else _) _ _ s;rw[ai (by simpa using l)];show lD (XF (SH (SH #[_,W,(λx=>nomatch x),h])))
def pc_ddne{X:Cx}{o:Ts}{C:TE}{pos:Pos}(c:X.A.units+64<cLine)(O:PE X o C):PC X .NotEq o (.Dict [] [] pos) (JZ C):=by
 intro b s B H Q I h;show bG (O b s B H _ I h) λu G a=>?_;let(x,i,I1,K,a,xs,ex,e,L):=a;subst ex;obtain rfl:u=OK.ref a:=K;show bG (pe_ddnew (pos:=pos) b G B i (λy F=>∃p,i p=CL/\y=.ref p/\F=upd i p (DkO p [])) I1 (λp g=>#[p,g,W,W])) λv E a=>?_;let(y,F,t,A,p,g,Z,eH):=a;subst Z eH;obtain rfl:v=OK.ref p:=A;let e2:(upd i p (DkO p [])) a=cL (DkO a xs):=by rw[av (bR e g)];show e
 let(((z,P,nd),o1,es,en,Y,U,T,S),_):=(show ObjOk X.prog X.w _ E.heap a (DkO a xs)from t.U9 a _ e2);let(((z',j,N),M,f,en',q,n,m,d),_):=(show ObjOk X.prog X.w _ E.heap p (DkO p [])from t.U9 p _ ay);let e0:f= #v[]:=by generalize hq:f.toList=l at d;ext d;show Array.toList_eq_nil_iff.mp hq
 subst e0;show Lm P j Y U T q n m () #[.bl _,_,t,W,?_];let:es.isEmpty=xs.isEmpty:=by
  let:=Paired.length S;cases xs with
  |nil=>show es.isEmpty=SJ;rw[X1];show Yc (by simpa using this.symm)
  |cons x r=>show es.isEmpty=SW;rw[YC];intro z;subst z;simp at this
 rw[this];show L p g
def yK(b:TE):TE:=λa H Q=>b a H λx d=>Ba x [] d Q
def pe_ddvals{X:Cx}{o:Ts}{l:TE}{d n:Pos}(t:PE X o l)(i:attributeBase o "values" X.env (eval o X.env)=eval o X.env)(g:(d.endLine==n.line)=U):PE X (.Call (.Attribute o "values" d) [] [] n) (yK l):=by intro b s j H Q I h;show wpAny_Call_method0_late i g (bG (t b s j H _ I h) λv q a=>?_);let(x,w,p,r,m):=a;let f:=m;let(a,xs,rfl,_,e,_):=f;obtain rfl:v=OK.ref a:=r;let(h1,u,_):=jq p e;show#["dict","dict.values",WT,YB,PySem.F.type_dict_values,h1,u,Calls.callWith_builtin W (PySem.evalArgs_none (vO b q j w (.ref a) [] _ [] Q p W .nil m))]
end LD
namespace L10
open PySem PyProof.Rows L2 L3 LD
def gM:SV->I D
 |.fz d=>if keyD d=U then M d else S
 |_=>S
def GN:SV->I D
 |.fz d=>M d
 |_=>S
def gA(b:aI):SV->I (Nat×G (D×D))
 |.rf i=>match b[i]? with
  |some (.dd a)=>M (i,a)
  |_=>S
 |_=>S
def bx(b:G (D×D))(k:D):I D:=(b.find? λa=>SR.eqv a.1 k).map (·.2)
def ja(b:G (D×D))(k v:D):G (D×D):=if(b.find? λa=>SR.eqv a.1 k).isSome=U then b.map (λa=>if SR.eqv a.1 k=U then(a.1,v)else a)else b++[(k,v)]
def jX(b:G (D×D))(k:D):G (D×D):=b.filter λa=> !SR.eqv a.1 k
section
variable{B O O':a5}{K:Bn}{E:XK}{H H' T S:Hp}{U α' Z Y:cb SU}{ω ω' ω1 ω2:aI}{X:L2.St}{ρ:aH}{v:V}{k:KD}
def iZ(e:gM x=M d)(h:Wz O K H U v x):∃(k:KD) (b:J),k.1=d/\v=.ref b/\L3.DV O K H (.ref b) d:=by
 cases x with
 |fz z=>
  let e:(if keyD z=SJ then M z else CL)=M d:=e;by_cases a:keyD z=SJ
  .rw[ai a]at e
   ext e;let h:=h;cases d with
   |tuple xs=>cases h with
    |tup h1 f=>show#[#[_,a],_,W,W,.tup h1 f]
   |_=>simp[keyD]at a
  .rw[ak a]at e;ext e
 |rf i=>ext e
 |tp l=>ext e
def jH(s:TK B K H U ω)(f:Wz (ow B U ω) K H U v x)(h:gA ω x=M (i,o)):ω[i]?=M (.dd o)/\∃a xs,U[i]?=M a/\v=.ref a/\H a=M (DkO a xs)/\PrD (ow B U ω) K H xs o:=by
 cases x with
 |fz d=>ext h
 |tp l=>ext h
 |rf j=>
  let(a,m,rfl):=f;unfold gA at h;dsimp only at h;cases q:ω[j]? with
  |none=>rw[q]at h;ext h
  |some c=>
   rw[q]at h;cases c with
   |dd ys=>let e:=Tx h;ext e;let(b,h1,g):=s.YQ i a _ m q;show#[q,a,b,m,W,h1,g]
   |_=>ext h
def qj:∀{xs:G (KD×J×V)} {c:G (D×D)},PrD O K H xs c->kB K H xs:=by
 intro _ _ b
 induction b with
 |nil=>show λ_ h=>nomatch h
 | @cons x f xs c h t d=>
  intro y a;rcases Tf.mp a with e|a
  .subst e;rw[h.1];show h.2.1.plain
  .show d y a
def mD{x:KD×J×V}{a:D×D}(h:x.1.1=a.1):decide (x.1=k)=SR.eqv a.1 k.1:=by
 rw[<-h]
 haveI:Decidable (x.1.1=k.1):=Classical.propDecidable _
 rw[BM (cW x.1.2).1 (cW k.2).1];by_cases e:x.1=k
 .rw[a6 e,a6 (eh Subtype.val e)]
 .rw[a7 e,a7 λz=>e (Subtype.ext z)]
def i4:∀{xs:G (KD×J×V)} {b:G (D×D)},PrD O K H xs b->(∀d,bx b k.1=M d->∃v,jn xs k=M v/\L3.DV O K H v d)/\(bx b k.1=CL->jn xs k=CL):=by
 intro _ _ a
 induction a with
 |nil=>show#[λx e=>(by ext e),λ_=>W]
 | @cons x f xs b h t g=>
  unfold bx jn;rw[Tu,Tu,mD h.1];cases SR.eqv f.1 k.1 with
  |true=>show#[λd e=>#[x.2.2,W,by ext e;show h.2.2],λe=>by ext e]
  |false=>show g
def wu(h:PrD O K H xs o):(jn xs k).isSome=(bx o k.1).isSome:=by
 let(h1,a):=i4 h;cases q:bx o k.1 with
 |none=>rw[a q];rfl
 |some x=>let(u,e,_):=h1 x q;rw[e];rfl
def Kv:∀{xs:G (KD×J×V)} {b:G (D×D)},PrD O K H xs b->(xs.find? λx=>decide (x.1=k)).isSome=(b.find? λc=>SR.eqv c.1 k.1).isSome:=by
 intro _ _ a
 induction a with
 |nil=>show W
 | @cons x c xs b h t d=>
  rw[Tu,Tu,mD h.1];cases SR.eqv c.1 k.1 with
  |true=>rfl
  |false=>show d
def NM(b:L3.DV O K H v d):∀{xs:G (KD×J×V)} {c:G (D×D)},PrD O K H xs c->PrD O K H (xs.map λx=>if x.1=k then(x.1,x.2.1,v)else x) (c.map λf=>if SR.eqv f.1 k.1=SJ then(f.1,d)else f):=by
 intro _ _ a
 induction a with
 |nil=>show .nil
 | @cons x f xs c h t g=>
  rw[SX,SX];show .cons ?_ (g);let e:=mD (k:=k) h.1;by_cases z:x.1=k
  .rw[ai z,ai (by rw[<-e];show a6 z)];show#[h.1,h.2.1,b]
  .rw[ak z,ak (by rw[<-e,a7 z];simp)];show h
def EY(r:x.1.1=o.1/\L3.DV O K H (.ref x.2.1) o.1/\L3.DV O K H x.2.2 o.2):∀{xs:G (KD×J×V)} {b:G (D×D)},PrD O K H xs b->PrD O K H (xs++[x]) (b++[o]):=by
 intro _ _ a
 induction a with
 |nil=>show .cons r .nil
 | @cons _ _ _ _ g t d=>show .cons g (d)
def uX(c:L3.DV O K H (.ref b) k.1)(a:L3.DV O K H v d)(h:PrD O K H xs o):PrD O K H (ke xs k b v) (ja o k.1 d):=by
 unfold ke ja;rw[Kv h];split
 .show NM a h
 .show EY #[W,c,a] h
def zT:∀{xs:G (KD×J×V)} {b:G (D×D)},PrD O K H xs b->PrD O K H (l9 xs k) (jX b k.1):=by
 intro _ _ a
 induction a with
 |nil=>show .nil
 | @cons x f xs b h t d=>
  unfold l9 jX;rw[Uv,Uv];let e:=mD (k:=k) h.1;by_cases z:x.1=k
  .rw[a6 z]at e;rw[ak (by simpa using z),ak (by rw[<-e];simp)];show d
  .rw[a7 z]at e;rw[ai (by simpa using z),ai (by rw[<-e];rfl)];show .cons h (d)
theorem xh(e:Ev O H O' H')(h:PrD O K H xs o):PrD O' K H' xs o:=Paired.WU h λ_ _ q=>#[q.1,q.2.1.ev e,q.2.2.ev e]
def BE:∀{xs:G (KD×J×V)} {b:G (D×D)},PrD O K H xs b->L3.UN O K H (xs.map (·.2.2)) (b.map (·.2)):=by
 intro _ _ a
 induction a with
 |nil=>show .nil
 | @cons _ _ _ _ h t d=>show .cons h.2.2 (d)
def jL(neg:Bool)(a fd:bQ):bQ:=λρ ω=>(a ρ ω).bind λx ω1=>(fd ρ ω1).bind λo ω2=>(RS.T6 ω2 (gM x)).bind λk ω2=>(RS.T6 ω2 (gA ω2 o)).bind λp ω2=>.ok (.fz (.bool ((bx p.2 k).isSome !=neg))) ω2
def vf(r:cg K E C fk)(hd:cg K E td fd):cg K E (EI K neg C td) (jL neg fk fd):=by intro B X H U ω ρ Q s f w;show r B X H U ω ρ _ s f (w.bind.imp λx Z ω1 T e1 l j v p=>?_);show hd B X T Z ω1 ρ _ l (f.VW e1) (j.bind.imp λo Y ω2 S e2 g e u q=>?_);let(d,n,e):=WS.T6 e;let((i,A),m,e):=WS.T6 e;let(_,a,xs,L,rfl,z,h):=jH g q m;let(k,b,rfl,rfl,t):=iZ n (p.VW e2);show#[a,b,xs,k,W,W,z,qj h,t.plain,?_];rw[wu h];show WS.now g e _ (.bl _)
def gv(fd a:bQ):bQ:=λρ ω=>(fd ρ ω).bind λo ω1=>(a ρ ω1).bind λx ω2=>(RS.T6 ω2 (gM x)).bind λk ω2=>(RS.T6 ω2 (gA ω2 o)).bind λp ω2=>(RS.T6 ω2 (bx p.2 k)).bind λd ω2=>.ok (.fz d) ω2
def zt(hd:cg K E td fd)(C:cg K E tk fk):cg K E (D9 K td tk) (gv fd fk):=by intro B X H U ω ρ Q s f w;show hd B X H U ω ρ _ s f (w.bind.imp λo Z ω1 T e1 m j u A=>?_);show C B X T Z ω1 ρ _ m (f.VW e1) (j.bind.imp λx Y ω2 S e2 g e v t=>?_);let(d,q,e):=WS.T6 e;let((i,L),p,e):=WS.T6 e;let(_,a,xs,N,rfl,G,h):=jH g (A.VW e2) p;let(k,b,rfl,rfl,F):=iZ q t;let(y,n,e):=WS.T6 e;let(z,r,l):=(i4 h).1 y n;show#[a,b,xs,k,z,W,W,G,qj h,F.plain,r,WS.now g e z l]
def lF(fd c b:bQ):fM:=λρ ω=>(b ρ ω).bind λy ω1=>(fd ρ ω1).bind λo ω2=>(c ρ ω2).bind λx a=>(RS.T6 a (gM x)).bind λk a=>(RS.T6 a (gA a o)).bind λp a=>(RS.T6 a (GN y)).bind λd a=>if p.2.length<1000000 then .ok (.nx ρ) (a.set p.1 (.dd (ja p.2 k d)))else .bad
def ET(e:GN x=M d)(h:Wz O K H U v x):L3.DV O K H v d:=by
 cases x with
 |fz z=>ext e;show h
 |rf i=>ext e
 |tp l=>ext e
def Av(hd:cg K E td fd)(Q:cg K E tk fk)(N:cg K E tv fv):o7 K E (B7 K td tk tv) (lF fd fk fv):=by
 intro B X H U ω ρ D s h w;show N B X H U ω ρ _ s h (WS.imp (WS.bind w) λy Z ω1 T e1 F A p m=>?_);show hd B X T Z ω1 ρ _ F (h.VW e1) (WS.imp (WS.bind A) λo Y ω2 S e2 C t u P=>?_);show Q B X S Y ω2 ρ _ C (h.VW (e1.trans e2)) (WS.imp (WS.bind t) λx e g j e3 q f z L=>?_);let(kd,J,f):=WS.T6 f;let((i,kvs),I,f):=WS.T6 f;let(d,G,f):=WS.T6 f;let(l,a,xs,ha,rfl,g1,n):=jH q (P.VW e3) I;let(k,b,rfl,rfl,r):=iZ J L;let M:=ET G (m.VW (e2.trans e3));dsimp only at f;by_cases hn:kvs.length<1000000
 .rw[ai hn]at f;let ev:Ev (ow B e g) j (ow B e g) (upd j a (DkO a (ke xs k b p))):=tm ha l (by nofun);let e4:Ve e g j e (g.set i (.dd (ja kvs k.1 d))) (upd j a (DkO a (ke xs k b p))):=Ve.put ha l (by nofun) (by nofun);let hl:=Paired.length n;show#[a,b,xs,k,W,W,g1,qj n,r.plain,pR (),?_];show f e _ e4 (q.put ha l (by nofun) (by nofun) #[_,ay,uX (r.ev ev) (M.ev ev) (xh ev n)]) X ((h.VW (e1.trans (e2.trans e3))).VW e4)
 .rw[ak hn]at f;show f.elim
def kK(fd c b:bQ):bQ:=λρ ω=>(fd ρ ω).bind λo ω1=>(RS.T6 ω1 (gA ω1 o)).bind λ_ ω1=>(c ρ ω1).bind λx ω2=>(b ρ ω2).bind λz a=>(RS.T6 a (gM x)).bind λk a=>(RS.T6 a (gA a o)).bind λp a=>.ok (match bx p.2 k with|some d=>.fz d|none=>z) a
def v3(hd:cg K E td fd)(P:cg K E tk fk)(M:cg K E tx fx):cg K E (yu K td tk tx) (kK fd fk fx):=by
 intro B X H U ω ρ Q s l w;show hd B X H U ω ρ _ s l (w.bind.imp λo Z ω1 T e1 n j u p=>?_);let((i0,aaY),J,j):=WS.T6 j;let(_,a,g,_,rfl,g0,_):=jH n p J;show#[a,g,W,g0,?_];show P B X T Z ω1 ρ _ n (l.VW e1) (j.bind.imp λx Y ω2 S e2 F C v N=>?_);show M B X S Y ω2 ρ _ F (l.VW (e1.trans e2)) (C.bind.imp λz A t H3 e3 m f vz L=>?_);let(d,I,f):=WS.T6 f;let((i,kvs),G,f):=WS.T6 f;let(_,a',xs,ha,ea,g1,r):=jH m (p.VW (e2.trans e3)) G;ext ea;let(k,b,rfl,rfl,hb):=iZ I (N.VW e3);show#[b,xs,k,W,g1,qj r,hb.plain,WS.now m f _ ?_];let(h1,h2):=i4 r;dsimp only;cases q:bx kvs k.1 with
 |none=>rw[h2 q];show L
 |some y=>let(u,e,h):=h1 y q;rw[e];show h
def nr(fd a:bQ):bQ:=λρ ω=>(fd ρ ω).bind λo ω1=>(RS.T6 ω1 (gA ω1 o)).bind λ_ ω1=>(a ρ ω1).bind λx ω2=>(RS.T6 ω2 (gM x)).bind λk ω2=>(RS.T6 ω2 (gA ω2 o)).bind λp ω2=>(RS.T6 ω2 (bx p.2 k)).bind λd ω2=>.ok (.fz d) (ω2.set p.1 (.dd (jX p.2 k)))
def Ak(hd:cg K E td fd)(I:cg K E tk fk):cg K E (Cy K td tk) (nr fd fk):=by intro B X H U ω ρ Q s l w;show hd B X H U ω ρ _ s l (w.bind.imp λo Z ω1 T e1 n g u p=>?_);let((P,N),C,g):=WS.T6 g;let(_,a,f,_,rfl,g0,_):=jH n p C;show#[a,f,W,g0,?_];show I B X T Z ω1 ρ _ n (l.VW e1) (g.bind.imp λx Y ω2 S e2 m e v G=>?_);let(d,A,e):=WS.T6 e;let((i,kvs),t,e):=WS.T6 e;let(h,a',xs,ha,M,L,j):=jH m (p.VW e2) t;ext M;let(k,b,rfl,rfl,J):=iZ A G;let(y,r,e):=WS.T6 e;let(z,F,q):=(i4 j).1 y r;let ev:Ev (ow B Y ω2) S (ow B Y ω2) (upd S a (DkO a (l9 xs k))):=tm ha h (by nofun);let e4:Ve Y ω2 S Y (ω2.set i (.dd (jX kvs k.1))) (upd S a (DkO a (l9 xs k))):=Ve.put ha h (by nofun) (by nofun);show#[b,xs,k,z,W,L,qj j,J.plain,F,?_];show e Y _ e4 (m.put ha h (by nofun) (by nofun) #[_,ay,zT (xh ev j)]) z (Wz.VW e4 q)
def oC:bQ:=λ_ ω=>.ok (.rf ω.length) (ω++[.dd []])
def zn:cg K E AQ oC:=by intro B X H U ω ρ Q s b w;show λp a=>nX s a w λ_=>#[[],ay,.nil]
def qG(fd:bQ):bQ:=λρ ω=>(fd ρ ω).bind λo ω1=>(RS.T6 ω1 (gA ω1 o)).bind λp ω1=>.ok (.fz (.bool (!p.2.isEmpty))) ω1
def Bi(hd:cg K E C fd):cg K E (JZ C) (qG fd):=by
 intro B X H U ω ρ Q s f w;show hd B X H U ω ρ _ s f (w.bind.imp λo Z ω1 T e1 e b u h=>?_);let((i,q),g,b):=WS.T6 b;let(_,a,xs,r,rfl,m,l):=jH e h g;show#[a,xs,W,m,λp j=>?_];let d:U7 T (upd T p (DkO p [])):=bw j _;let n:xs.isEmpty=q.isEmpty:=by ext l<;>rfl
 rw[n];show b Z _ (Ve.same d) (e.grow d) _ (.bl _)
def oh(fd:bQ):bQ:=λρ ω=>(fd ρ ω).bind λo ω1=>(RS.T6 ω1 (gA ω1 o)).bind λp ω1=>if okO (p.2.map (·.2))=SJ then(RS.T6 ω1 (p.2.map (·.2))[minI (p.2.map (·.2))]?).bind λd ω1=>.ok (.fz d) ω1 else .bad
def Ac(hd:cg K E td fd):cg K E (AM (JY K) (dr (yK td) jd)) (oh fd):=by
 intro B X H U ω ρ Q s n w;show hd B X H U ω ρ _ s n (w.bind.imp λo Z ω1 T e1 h b u z=>?_);let((i,L),t,b):=WS.T6 b;let(_,a,xs,N,rfl,m,G):=jH h z t;show#[a,xs,W,W,m,λp A=>?_];let e:U7 T (upd T p (Nn p a)):=bw A _;let q:=h.grow e;dsimp only at b;by_cases f:okO (L.map (·.2))=SJ
 .rw[ai f]at b
  let(d,j,b):=WS.T6 b;let l:=(BE G).ev (Ev.grow e);let C:0<(L.map (·.2)).length:=by
   cases L with
   |nil=>ext j
   |cons x r=>rw[SX,S0];ext
  show#[p,a,xs,L.map (·.2),W,ay,e _ _ m,l.plain,C,f,λv J ev g _=>?_];let(I,h1,F):=l.get g;rw[ev]at h1;ext h1;rw[j]at g;ext g;show b Z _ (Ve.same e) q _ F
 .rw[ak f]at b;show b.elim
end
end L10
namespace PySem
open Sem (wp)
namespace F
def lk_list_keys:typeLookup (.type "list") "keys"=pure S:=by rw[VM,U1];kernel_rfl
def lk_list_hook:typeLookup (.type "list") "__getattr__"=pure S:=by rw[VM,U1];kernel_rfl
end F
section
variable{Y:Tg}{w:TN}{A:Tv}{E:OK->SS->Prop}{h:Heap}{g:Array Yx}{d:acK}{t:Nat}{Z:acN}{a:SU}{o:Obj}
def mj{f:Tok}{Q:Fin->SS->Prop}{E:T->SS->Prop}{p:Array T}{n:Nat}{i:Array (I T)}(j:h.get? a=M #[.type "list",S,.seq p n,i])(m:A.handled=S)(l:∀e c k,(∀b o,h.get? b=M o->c.get? b=M o)->(#[c,g,d,k,Z]:SS).TypeIs e "AttributeError"->E e #[c,g,d,k,Z]):
  wpAny (model Y w) A (Builtin.«object.__getattribute__» #[[.ref a,.str "keys" f],[]]) Q E #[h,g,d,t,Z]:=by
 let q:(#[h,g,d,t,Z]:SS).TypeIs (.ref a) "list":=#[_,j,W];let r:=F.lk_list_keys
 repeat (any_goals (first|assumption|wp_step))
 show om (by decide+kernel) m l
def qO{f:Tok}{Q:T->SS->Prop}{E:T->SS->Prop}{u:Array T}{n:Nat}{l:Array (I T)}(i:h.get? a=M #[.type "list",S,.seq u n,l])(q:A.handled=S)(m:∀e c k,(∀b o,h.get? b=M o->c.get? b=M o)->(#[c,g,d,k,Z]:SS).TypeIs e "AttributeError"->E e #[c,g,d,k,Z]):
  wpAny (model Y w) A (getAttrBy (.ref a) (.str "keys" f) SW) Q E #[h,g,d,t,Z]:=by
 let r:(#[h,g,d,t,Z]:SS).TypeIs (.ref a) "list":=#[_,i,W];let B:=F.slot_list_getattribute.lookup;let z:=F.slot_list_getattribute.bind (.ref a);let v:=F.lk_list_hook
 repeat (any_goals (first|assumption|wp_step))
 show abl F.slot_list_getattribute.plain F.entry_list_ga (F.slot_list_getattribute.check _ _ _ _ _ _ _ _ r (F.args_list_getattribute_2 _ _) (mj i q λe c k p j=>?_));let fs:=F.sub_ae;show wpAny (model Y w) A (getattributeRaised (OK.ref a) (OK.str (Str.ofString "keys") f) (OK.type "list") e S SW SW) Q E _;ext getattributeRaised;show lD (Vh j fs ?_)
 repeat (any_goals (first|assumption|wp_step))
 show m e c k p j
def oG{Q:I T->SS->Prop}{p:Array T}{n:Nat}{f:Array (I T)}(i:h.get? a=M #[.type "list",S,.seq p n,f])(m:A.handled=S)(j:∀c k,(∀b o,h.get? b=M o->c.get? b=M o)->Q S #[c,g,d,k,Z]):
  wpAny (model Y w) A (getAttr? (.ref a) "keys") Q E #[h,g,d,t,Z]:=by
 unfold getAttr? getAttrBy?;let fs:=F.sub_ae;show lD ?_
 repeat (any_goals (first|assumption|(with_reducible show qO i m λe c k l q=>?_)|wp_step))
 show j c k l
end
end PySem
namespace L10
open PySem PySem.Spec PyProof.Rows L2 L3 LD
def u8:G D->I RV
 |[d,e]=>if okO [d,e]=U then M (.fz (if ltd e d=M U then e else d))else S
 |_=>S
def Dk{a b:D}{l:G D}(h:a=.list l\/b=.list l):ltd a b=S:=by rcases h with h|h<;>subst h<;>cases ‹D›<;>simp[ltd]
def IS{O:a5}{K:Bn}{H:Hp}{v:V}{d:D}(h:DX O K H v d)(n:∀l,d≠.list l):L3.DV O K H v d:=by
 cases d with
 |list l=>show b9 W (n l)
 |_=>show h
def Dp{K:Bn}:Fo K (Jr K) u8:=by
 intro O H xs ds u Q n p e q;unfold u8 at e;split at e
 .rename_i d e1
  split at e
  .rename_i a
   ext e;let l1:=sT a (i:=0) (j:=0) W W;let o:=sT a (i:=1) (j:=1) W W;let h:∀z:D,(∃r,ltd z z=M r)->∀l,z≠.list l:=λz #[r,m] l e=>by rw[Dk (.inl e)]at m;ext m
   cases p with
   |cons h1 b=>cases b with
    |cons b t=>
     ext t;let g:=IS h1 (h _ #[_,l1]);let f:=IS b (h _ #[_,o]);show#[_,_,d,e1,W,g.plain,f.plain,a,?_];split
     .rename_i z;rw[ai z]at q;show q.at f
     .rename_i z;rw[ak z]at q;show q.at g
  .ext e
 .ext e
end L10
namespace L10
open PySem PyProof.Rows L2 L3 LD
section
variable{B O A:a5}{K:Bn}{E:XK}{H z u r:Hp}{Y X Q P:cb SU}{p N L C:aI}{o:L2.St}{n:aH}{v:V}
theorem yi:∀{c:G V} {xs:G SV} {ds:G D},Wo O K H Y c xs->aq GN xs=M ds->L3.UN O K H c ds
 |_,_,_,.nil,e=>by ext e;show .nil
 |_,_,_,.cons (a:=v) (b:=x) (l₂:=xs) h t,e=>by
  unfold aq at e;cases q:GN x with
  |none=>rw[q]at e;ext e
  |some d=>
   rw[q]at e;dsimp only at e;cases f:aq GN xs with
   |none=>rw[f]at e;ext e
   |some ds=>rw[f]at e;ext e;show .cons (ET q h) (yi t f)
end
end L10
namespace L3
open PySem PyProof.Rows L2
structure agH(K:Bn)(x qual:Str)(st:Vz)(f:J)(fd:UI)(T:J)(T5:Array OK):Prop where
 ex:∃(oc:OK) (od:I J) (kV doc pm:OK) (an:I J) (VU ct:OK) (osl:Array (I OK)),
  fd=VL x qual (jD st) (cZ st) (aA st) (.ref T) kV doc pm an VU ct/\K.lookup f=M #[oc,od,.func fd,osl]/\Xm K VU qual=U
 kp:Vl K (.ref f)=U
 tp:∃o n,K.lookup T=M o/\o.data=.seq T5 n
end L3
namespace L10
open PySem L2 L3
def Q0(T:A->aI->Prop)(X:Xc->Prop):RS A->Prop
 |.ok a b=>T a b
 |.er x _=>X x
 |.bad=>False
structure Out{A:Type}(r:RS A)(T:A->aI->Prop)(X:Xc->Prop):Prop where
 out:Q0 T X r
end L10
namespace L3
open PySem PyProof.Rows L2
section
variable{P:Tg}{w:TN}{K:Bn}{X:Str->cc OK}{Y h:Heap}{f T:SU}{n:Str}{t:Vz}{Q:cb Str}{N:Nat}{L:Sp}{C:tt}{T5:Array OK}
structure DI(K:Bn)(f T:J)(n:Str)(t:Vz)(T5:Array OK):Prop where
 a:UC K T3 n=M (M (.ref f))
 F:∃fd,agH K n n t f fd T T5
end
structure Tp(P:Tg)(w:TN)(K:Bn)(mg:Str->I T)(base h:Heap):Prop where
 X:K.In h
 G:h.Ns T3 mg
section
variable{P:Tg}{w:TN}{K:Bn}{X:Str->cc OK}{Y h:Heap}{f C T:SU}{n m q:Str}{t:Vz}{Q fs:cb Str}{N:Nat}{L:Sp}{B:tt}{A:Array OK}
theorem NI.c(i:NI K f n t)(W:Tp P w K X Y h)(ok:∀fd,Zk K n n t f fd->FnOk P w K X Y kP N f fd Q L)(a:BA n n t Q:=by walk_at "ba"):uH P w K X Y N n Q L:=i.cal W.X W.G a ok
end
end L3
namespace LD
open PySem PyProof.Rows L2 L3 L10
section
variable{Y:Tg}{w:TN}{A:Tv}{E:OK->SS->Prop}{s:SS}
def F3{d:J}{o:Obj}{es:Array UM}{a:Nat}{Q:T->SS->Prop}(nd:(d==UE)=SW)(g:s.heap.get? d=M o)(c:o.ExactDict)(e:o.data=.dict es a)
  (q:Q (.ref s.heap.objs.size) {s with heap:=s.heap.push {cls:=.type "dict_keyiterator",data:=.fields #v[.ref d,.int 0 0,.int es.size 0,.int a 0]}}):wpAny (model Y w) A (pyIter (.ref d)) Q E s:=by
 let ty:s.TypeIs (.ref d) "dict":=#[o,g,c.1];show acQ ty F.slot_dict_iter (UB F.slot_dict_iter ty F.entry_dict_iter ?_ (F.args_dict_iter_1 _));unfold Builtin.«dict.__iter__» Builtin.Dict.dictSlotNone;show lD (lD (Vi ty (SH ?_)));show wpAny _ _ (Builtin.Dict.showsAll d>>=_) _ _ s;ext Builtin.Dict.showsAll;rw[ak (by rw[nd];show Td)];show lD (SH (lD (UH g e (lD (VO g e ?_)))));show lD (TJ (SH #[_,W,"dict_keyiterator",_,#[_,c0 _ W,W],F.slot_dict_keyiterator_next.lookup,?_]))
 simpa [rawInt]using q
def GY{it d:J}{o:Obj}{es:Array UM}{i f:Nat}{x:UM}{Q:I T->SS->Prop}(a:s.heap.IsKeyIter it d i es.size f)(g:s.heap.get? d=M o)(e:o.data=.dict es f)(j:es[i]?=M x)
  (q:∀c,c.IsKeyIter it d (i+1) es.size f->Heap.SameBut it s.heap c->Q (M x.key) {s with heap:=c}):wpAny (model Y w) A (pyNext (.ref it)) Q E s:=by
 let(t,h1,l,b):=id a;ext pyNext;show lD (Xq (UL (name:=Str.ofString "__next__") a.typeIs F.slot_dict_keyiterator_next (UB F.slot_dict_keyiterator_next a.typeIs F.entry_dict_keyiterator_next ?_ (F.args_dict_keyiterator_next_1 _))));show lD (SH (lD (lD ?_)));show lD (VD a.typeIs (SH (lD (X2 h1 b ?_))));let h:Builtin.Dict_items.ownsTuple "dict_keyiterator"=SW:=by decide
 simp only[h,S4,if_false];show wpAny _ _ (if(OK.ref d==OK.none)=U then _ else _) _ _ s;rw[ak (show¬((OK.ref d==OK.none)=U)from Td)];show lD (SH (lD (UH g e ?_)));rw[ak (by simp)];show lD (SH (lD (VO g e ?_)));rw[ak (by simp)];show SH ?_;simp only[show¬((i:Int)<0)from by ext,if_false,Uz,j];show lD (lD (VD a.typeIs (SH ?_)));show lD (aa6 a.typeIs ?_);show wpAny _ _ (setField (.ref it) 1 (rawInt ((i:Int)+1))>>=_) _ _ s;show lD (V1 h1 b (by simp) ?_)
 let k2:(s.heap.update it (Obj.mapFields (·.setIfInBounds 1 (rawInt ((i:Int)+1))))).IsKeyIter it d (i+1) es.size f:=
  #[_,c4 _ h1 (di (c6 b _)),(Obj.cls_mapFields ..).trans l,by rw[c6 b];simp[rawInt]]
 show lD (UA (lD (aa6 (s:={s with heap:=s.heap.update it (Obj.mapFields (·.setIfInBounds 1 (rawInt ((i:Int)+1))))}) k2.typeIs ?_)));show wpAny _ _ (pure x.key) _ _ _;show SH (SH #[_,W,SH (q _ k2 (Heap.SameBut.update ..))])
def Kw{it d:J}{o:Obj}{es:Array UM}{i j:Nat}{Q:I OK->SS->Prop}(p:A.handled=S)(f:s.heap.IsKeyIter it d i es.size j)(g:s.heap.get? d=M o)(e:o.data=.dict es j)(n:es.size<=i)
  (q:∀c,Heap.ExtBut it s.heap c->Q S {s with heap:=c}):wpAny (model Y w) A (pyNext (.ref it)) Q E s:=by
 let(t,h1,r,h):=id f;ext pyNext;show lD (Xq (UL (name:=Str.ofString "__next__") f.typeIs F.slot_dict_keyiterator_next (UB F.slot_dict_keyiterator_next f.typeIs F.entry_dict_keyiterator_next ?_ (F.args_dict_keyiterator_next_1 _))));show lD (SH (lD (lD ?_)));show lD (VD f.typeIs (SH (lD (X2 h1 h ?_))));let l:Builtin.Dict_items.ownsTuple "dict_keyiterator"=SW:=by decide
 simp only[l,S4,if_false];show wpAny _ _ (if(OK.ref d==OK.none)=U then _ else _) _ _ s;rw[ak (show¬((OK.ref d==OK.none)=U)from Td)];show lD (SH (lD (UH g e ?_)));rw[ak (by simp)];show lD (SH (lD (VO g e ?_)));rw[ak (by simp)];show SH ?_;simp only[show¬((i:Int)<0)from by ext,if_false,Uz,Zd n];show lD (lD (VD f.typeIs (SH ?_)));show wpAny _ _ (setField (.ref it) 0 .none>>=_) _ _ s;show lD (V1 h1 h (by simp) ?_);show wpAny _ _ (newExc (.type "StopIteration") []>>=_) _ _ _;simp only[newExc,newTuple];show lD (lD (TJ ?_ (by size_fits)));show lD (m:=firstArgMember _ _) (Xj (a:=OK.none) (by first|rfl|(simp only[firstArgMember];rfl)) ?_);show TJ ?_ (by size_fits);simp only[raiseNew];show lD (agY ?_);rw[show A.in1.handled=S from p];show lD (SH (wpAny_throw ?_));show lD (Vh (T:= "StopIteration") (b:=U) #[_,c0 _ W,W] afl ?_);show SH (q _ (((Heap.SameBut.update ..).extBut.push _).push _))
end
def xK(b:Obj)(a:J)(xs:G (KD×J×V)):HO:=.exw λw h=>Rx a xs w h/\h.get? a=M b
def Pk{P:Tg}{w:TN}{H H':Hp}{h:Heap}{a:J}{b:Obj}{xs:G (KD×J×V)}(g:h.get? a=M b)(o:ObjOk P w H' h a (DkO a xs)):ObjOk P w H h a (xK b a xs):=by let(p,_,_):=o;show#[#[p,g],#[b,g],?_];rintro f e ⟨⟨q,o,es,d,e1,e2⟩,e3⟩ st;show#[#[q,o,es,d,st o e1,e2],st _ e3]
def Jm{P:Tg}{w:TN}{H H':Hp}{h:Heap}{a:J}{b:Obj}{xs:G (KD×J×V)}(o:ObjOk P w H h a (xK b a xs)):ObjOk P w H' h a (DkO a xs):=by let((p,g),_,_):=o;show#[p,#[b,g],?_];rintro f e ⟨q,o,es,d,e1,e2⟩ st;show#[q,o,es,d,st o e1,e2]
def yX{P:Tg}{w:TN}{H:Hp}{h:Heap}{a:J}{b:Obj}{xs:G (KD×J×V)}(o:ObjOk P w H h a (xK b a xs)):(a==UE)=SW/\b.ExactDict/\h.get? a=M b/\∃es c,b.data=.dict es c/\Paired (λ(x:KD×J×V) (e:UM)=>e.hash=l7 w x.1.1/\e.key=.ref x.2.1/\RelV x.2.2 e.val) xs es.toList:=by let((((_,n,_),o,es,c,e1,e2,e3,e4),g),_,_):=o;rw[g]at e1;ext e1;show#[n,e2,g,es,c,e3,e4]
theorem fT{α a:Type}{R:α->a->Prop}:∀{xs:G α} {ys:G a} {i:Nat} {x:α},Paired R xs ys->xs[i]?=M x->∃y,ys[i]?=M y/\R x y
 |_,_,_,_,.nil,e=>by simp at e
 |_,_,0,_,.cons h _,e=>by simp at e;subst e;show#[_,W,h]
 |_,_,i+1,_,.cons _ t,e=>by let(y,h1,b):=fT (i:=i) t (by simpa using e);show#[y,by simpa using h1,b]
def RF(d:Obj)(a:J)(xs:G (KD×J×V)):It:=
 #[λi H=>H a=M (xK d a xs)/\i<xs.length,λi H x e=>e=H/\∃k b v,xs[i]?=M (k,b,v)/\x=.ref b,λi H=>H a=M (xK d a xs)/\xs.length<=i]
theorem zB{P:Tg}{w:TN}{K:Bn}{x:Ts}(a it:SU)(m:Obj)(es:Array UM)(U:Nat)(f:m.data=.dict es U)(xs:cb (KD×SU×V))(D:es.size=xs.length):Turn P w K x (RF m a xs) [it] it (λi h=>h.IsKeyIter it a i es.size U) where
 mem:=by simp
 obj:=λi h st b l=>by
  let e:b=it:=by simpa using l
  subst e;let(o,e,c,d):=st;show#[o,e,λv z=>by rw[d]at z;ext z]
 keep:=λi h q st k=>st.at λo e=>k it (by simp) o e
 item:=by intro X A r B T i j s O H E I n st t;subst A r B;let(u,hi):=t;let(_,_,g,M,N,e,Q):=yX (show ObjOk X.prog X.w H s.heap a (xK m a xs)from I.U9 a _ u);rw[f]at e;ext e;obtain⟨⟨k,b,v⟩,S⟩:∃p,xs[i]?=cL p:=#[xs[i],Tc hi];let(y,hy,_,ky,_):=fT Q S;let(L,J,f2,G,F,C):=n it (by simp);show GY st g f (by rw[<-T8];show hy) λq Y Z=>?_;let I1:Inv X j O H {s with heap:=q}:=I.turned (t':=s.toks) (λb o l e=>(Z.2 b l).trans e) L J G F C;let(o',e',c',d'):=id Y;show#[_,W,ye (s:={s with heap:=q}) e' c' d' () #[.ref b,H,I1,ky,#[W,k,b,v,S,W],Y,λb l=>(n b l).1]]
 done:=by intro X A r B T i j s O H E I n st t;subst A r B;let(u,hi):=t;let(_,_,g,M,N,e,Q):=yX (show ObjOk X.prog X.w H s.heap a (xK m a xs)from I.U9 a _ u);rw[f]at e;ext e;let(L,J,f2,G,F,C):=n it (by simp);show Kw (I.ok.hd T) st g f () λq eb=>#[W,I.turned (t':=s.toks) (λb o l e=>eb b o l e) L J G F C]
 self:=λ_ _ _ _ _ st h=>wpAny_pyIter_keyiter st h
def AY(e:TE):TI:=λd H R=>e d H λx b=>∃a xs,x=.ref a/\b a=M (DkO a xs)/\∀f,R (RF f a xs) (upd b a (xK f a xs))
def JE(t:TE):TE:=λd H Q=>t d H λx b=>∃a e xs,b a=M (xK e a xs)/\Q x (upd b a (DkO a xs))
def tPDGet(K:Bn)(f ty:TE):TE:=λe H Q=>f e H λx g=>ty e g λy d=>∃a b h xs k v,x=.ref a/\y=.ref b/\d a=M (xK h a xs)/\kB K (upd d a (DkO a xs)) xs/\L2.DV K (upd d a (DkO a xs)) (.ref b) k.1/\jn xs k=M v/\Q v d
section
variable{X:Cx}{tg:Ts}
def pi_keysD{l:Ts}{p:TE}(G:PE X l p):PI X tg l (AY p):=by
 intro f s B H R I h;show bG (G f s B H _ I h) λv d a=>?_;let(x,A,j,C,E):=a;let(a,xs,e,i,q):=E;subst e;ext C;let F:ObjOk X.prog X.w A d.heap a (DkO a xs):=j.U9 a _ i;let(((z,y,nd),g,es,n,e,L,r,K),_):=id F;let m:es.size=xs.length:=by rw[Paired.length K,Tt]
 show F3 y e L r ?_;let k:∀b o,d.heap.get? b=cL o->(d.heap.push {cls:=.type "dict_keyiterator",data:=.fields #v[.ref a,.int 0 0,.int es.size 0,.int n 0]}).get? b=cL o:=λb o e=>cj _ e;let t:=j.kept (t':=d.toks) k;let M:=t.write (x:=a) (e:=a) (o:=xK g a xs) (t':=d.toks) (h':=d.heap.push {cls:=.type "dict_keyiterator",data:=.fields #v[.ref a,.int 0 0,.int es.size 0,.int n 0]}) (by rw[i];trivial) (.inl W) (λb u _ e=>e) #[g,k _ _ e] (Pk (k _ _ e) (show ObjOk X.prog X.w A _ a (DkO a xs)from t.U9 a _ i));show#[d.heap.objs.size,[d.heap.objs.size],_,_,_,W,M,zB a _ g es n r xs m,#[_,c0 _ W,W,W],λb J=>?_,q g];let e:b=d.heap.objs.size:=by simpa using J
 subst e;let N:=j.U9.fresh (SN d.heap.objs.size);show j.ZC (SN _) ?_;rw[av (λz=>by rw[z,i]at N;ext N)];show N
def pe_unpD{l:Ts}{g:TE}(r:PE X l g):PE X l (JE g):=by intro d s n H Q I h;show bG (r d s n H _ I h) λv f a=>?_;let(x,t,m,p,a,i,xs,j,q):=a;let o:=(show ObjOk X.prog X.w t f.heap a (xK i a xs)from m.U9 a _ j);show#[x,_,m.write (x:=a) (e:=a) (o:=DkO a xs) (t':=f.toks) (h':=f.heap) (by rw[j];trivial) (.inl W) (λb u _ e=>e) #[i,(yX o).2.2.1] (Jm o),p,q]
def pe_pdget{o i:Ts}{pos:Pos}{r ty:TE}(P:X.A.units+64<cLine)(U:PE X o r)(c:PE X i ty)(S:Im i):PE X (.Subscript o i pos) (tPDGet X.K r ty):=by intro d s q H Q I h;show r9 WE.lookup S (bG (U d s q H _ I h) λu C #[x,H1,I1,F,A]=>bG (c d C q H1 _ I1 A) λN f a=>?_);let(y,B,n,E,a,b,t,xs,k,v,Z,Y,e,L,M3,g,G):=a;subst Z Y;obtain rfl:u=OK.ref a:=F;obtain rfl:N=OK.ref b:=E;let oo:=(show ObjOk X.prog X.w B f.heap a (xK t a xs)from n.U9 a _ e);let m:=n.write (x:=a) (e:=a) (o:=DkO a xs) (t':=f.toks) (h':=f.heap) (by rw[e];trivial) (.inl W) (λb u _ e=>e) #[t,(yX oo).2.2.1] (Jm oo);show#[(jq m ay).1,?_];let(z,hd,ys,j,dd):=nA m ay L;let(w',O,YG):=Xz.some_of (v:=v) (o:=(atKey ys k).map (·.2)) (by rw[<-g];show lO j);let(p,T,l):=Uj.mp O;show Ym (ig P) (i7 m M3) dd T ?_;rw[l];show#[v,B,n.tok _,YG,G]
end
def restOf(a:G (D×D))(k:D):I D:=match bx a k with
 |some (.tuple (x::_))=>M (.tuple [k,x])
 |_=>S
def restsL(a:G (D×D)):I (G D):=if a.length<1000000 then aq (restOf a) (a.map (·.1))else S
def restK(j:Nat):bQ:=λd b=>(aX j d b).bind λo a=>(RS.T6 a (gA a o)).bind λp a=>(RS.T6 a (restsL p.2)).bind λds a=>.ok (.rf a.length) (a++[.lst (ds.map SV.fz)])
theorem nQ{α b:Type}{f:α->I b}:∀{l:G α} {m:G b} {i:Nat} {x:α},aq f l=M m->l[i]?=M x->∃y,m[i]?=M y/\f x=M y
 |[],_,_,_,_,e=>by simp at e
 |a::l,m,i,x,h,e=>by
  unfold aq at h;cases q:f a with
  |none=>rw[q]at h;ext h
  |some y=>
   rw[q]at h;dsimp only at h;cases g:aq f l with
   |none=>rw[g]at h;ext h
   |some ys=>
    rw[g]at h;ext h;cases i with
    |zero=>simp at e;subst e;show#[y,W,q]
    |succ i=>let(z,h1,d):=nQ g (by simpa using e);show#[z,by simpa using h1,d]
theorem nF{α b:Type}{f:α->I b}:∀{l:G α} {m:G b},aq f l=M m->m.length=l.length
 |[],_,h=>by ext h;rfl
 |a::l,m,h=>by
  unfold aq at h;cases q:f a with
  |none=>rw[q]at h;ext h
  |some y=>
   rw[q]at h;dsimp only at h;cases d:aq f l with
   |none=>rw[d]at h;ext h
   |some ys=>rw[d]at h;ext h;rw[S0,S0,nF d]
theorem u6{O:a5}{K:Bn}{H:Hp}{v:V}{d:D}(h:L3.DV O K H v d):∀{b:G V} {ds:G D},L3.UN O K H b ds->L3.UN O K H (b++[v]) (ds++[d])
 |_,_,.nil=>.cons h .nil
 |_,_,.cons a t=>.cons a (u6 h t)
theorem wS{O:a5}{K:Bn}{H:Hp}{α:G J}:∀{b:G V} {ds:G D},L3.UN O K H b ds->Wo O K H α b (ds.map SV.fz)
 |_,_,.nil=>.nil
 |_,_,.cons a t=>.cons a (wS t)
section
variable{K:Bn}{E:XK}
def eos_restK{x y:Str}{j:Nat}:cg K E (JE (ul [x] [(y,j)] (AY (gO j)) (kj 0) uV (wB (dr (gO 0) (dr (yS (zO K) (tPDGet K (gO 1) (gO 0)) (tC (.int 0))) jd))))) (restK j):=by
 intro B σ H α ω ρ Q s sl w;unfold restK aX at w;cases q:ρ[j]? with
 |none=>rw[q]at w;show w.elim
 |some o=>
  cases o with
  |none=>rw[q]at w;show w.elim
  |some z=>
   rw[q]at w;let(v,h1,h2):=sl.2 j z q;let((i0,kvs),q2,w):=WS.T6 w;let(ds,C,w):=WS.T6 w;let(qi,a,xs,ha,rfl,Z,M):=jH s h2 q2;unfold restsL at C;dsimp only at C;by_cases hm:kvs.length<1000000
   case neg=>rw[ak hm]at C;ext C
   rw[ai hm]at C;let hl:xs.length=kvs.length:=Paired.length M;let hdl:ds.length=xs.length:=by rw[nF C,SI,hl]
   let X:ow B α ω a:=.inr #[i0,_,ha,qi,by intro z;ext z];show#[_,h1,a,xs,W,Z,λS D L=>?_];let N:D≠a:=λe=>by rw[e,ay]at L;ext L
   let m:H D=CL:=by rw[av N]at L;show L
   let big:(1000000:Nat)<=S8:=by decide
   let ev:∀{H':Hp},(∀b o,b≠a->H b=cL o->H' b=cL o)->Ev (ow B α ω) H (ow (aY B D) α ω) H':=λk b o h n=>
    #[k b o (λe=>n (by rw[e];show X)) h,λz=>by
     rcases z with(z|z)|z
     .show n (.inl z)
     .rw[z,m]at h;ext h
     .show n (.inr z)]
   let fresh:∀{H':Hp} {p:SU},(∀b o,b≠a->H b=cL o->H' b=cL o)->H' a≠CL->H' D≠CL->H' p=CL->¬ow (aY B D) α ω p:=λ{H' p} k ka kD hp z=>by
    let Y:p≠a:=λe=>ka (by rw[<-e];show hp);let hn:∀{b:SU},H b≠CL->b≠a->H' b≠CL:=λ{b} h n e=>by
     cases q:H b with
     |none=>show h q
     |some o=>rw[k b o n q]at e;ext e
    rcases z with(z|z)|⟨i,c,z,_⟩
    .show hn (s.bn p z) Y hp
    .show kD (by rw[<-z];show hp)
    .show hn (s.al i p z) Y hp
   show F9 xs.length (λn g H'=>(∃u,g=[u,cL (.ref a)])/\H' a=cL (xK S a xs)/\(∀b o,b≠a->H b=cL o->H' b=cL o)/\∃ys,H' D=cL (.lst ys)/\ys.length=n/\L3.UN (ow (aY B D) α ω) K H' ys (ds.take n)) ?_ ?_ ?_ ?_ ?_
   .show#[#[CL,?_],by rw[av N.symm,ay],λb o nb h=>?_,[],ay,W,.nil]
    .show fw [x] [(y,j)] σ=_;ext fw;simp[h1]
    .rw[av (λe=>by rw[e,m]at h;ext h),av nb];show h
   .rintro i g H' hi ⟨_,h,_⟩;show#[h,hi]
   .rintro g H' ⟨_,h,_⟩;show#[h,SN _]
   .rintro i g H' x' I hi ⟨⟨u,rfl⟩,e1,e2,ys,e3,e4,e5⟩ ⟨rfl,k,b,v,hx,rfl⟩
    unfold kj uV;dsimp only;rw[ai W];let((kd,vd),T,J,P,p3):=fT M hx;dsimp only at J P p3;let(r,hr,A):=nQ C (by rw[S3,T];rfl);dsimp only at A;let O:PrD (ow (aY B D) α ω) K (upd I a (DkO a xs)) xs kvs:=Paired.WU M λ_ _ t=>#[t.1,t.2.1.ev (ev λb o nb h=>by rw[av nb];show e2 b o nb h),t.2.2.ev (ev λb o nb h=>by rw[av nb];show e2 b o nb h)];unfold restOf at A;rw[<-J]at A;cases gd:bx kvs k.1 with
    |none=>rw[gd]at A;ext A
    |some d=>
     rw[gd]at A;let(vv,gx,G):=(i4 (k:=k) M).1 d gd;cases d with
     |tuple l=>
      cases l with
      |nil=>ext A
      |cons x0 l=>
       ext A;let G:=G.ev (ev e2);cases G with
       | @tup p us _ sq hs=>
        cases hs with
        | @cons u0 _ us' _ d0 ht=>
         let db:L3.DV (ow (aY B D) α ω) K I (.ref b) k.1:=by rw[J];show P.ev (ev e2)
         show#[.ref b,W,.ref a,W,.ref b,W,a,b,S,xs,k,_,W,W,e1,qj O,?_,gx,p,_,0,u0,W,W,sq.1,Eo (aet 0) W,?_]
         .let:=(P.ev (ev (H':=upd I a (DkO a xs)) λb o nb h=>by rw[av nb];show e2 b o nb h)).plain;rw[<-J]at this;show this
         .show#[by show 2<=_;ext,λt f=>?_]
          let ta:t≠a:=λe=>by rw[e,e1]at f;ext f
          let tD:t≠D:=λe=>by rw[e,e3]at f;ext f
          let nt:=fresh e2 (by rw[e1];simp) (by rw[e3];simp) f;show#[ys,by rw[av tD.symm];show e3,by ext,#[_,W],by rw[av N.symm,av ta.symm];show e1,λc o nc h=>?_,ys++[.ref t],ay,by simp[e4],?_]
          .let:=e2 c o nc h;rw[av (λe=>by rw[e,m]at h;ext h),av (λe=>by rw[e,f]at this;ext this)];show this
          .let F:Ev (ow (aY B D) α ω) I (ow (aY B D) α ω) (upd (upd I t (.tup [.ref b,u0])) D (.lst (ys++[.ref t]))):=λc o h n=>
            #[by rw[av (λe=>n (.inl (.inr e))),av (λe=>by rw[e,f]at h;ext h)];show h,n]
           let et:ds.take (i+1)=ds.take i++[.tuple [k.1,x0]]:=by rw[X9,hr];rfl
           rw[et];show u6 (.tup #[.inl (.inl ?_),λz=>b9 z nt] (.cons (db.ev F) (.cons (d0.ev F) .nil))) (e5.ev F);rw[av tD,ay]
     |_=>ext A
   .rintro g H' ⟨_,e1,e2,ys,e3,e4,e5⟩
    show#[a,S,xs,e1,?_];let U:U7 H (upd H' a (DkO a xs)):=λb o h=>by
     by_cases nb:b=a
     .subst nb;rw[ay];rw[Z]at h;show h
     .rw[av nb];show e2 b o nb h
    let eD:(upd H' a (DkO a xs)) D=cL (.lst ys):=by rw[av N];show e3
    let eo:ow (aY B D) α ω=ow B (α++[D]) (ω++[.lst (ds.map SV.fz)]):=oO s.len (by nofun);let G:L3.UN (ow B (α++[D]) (ω++[.lst (ds.map SV.fz)])) K (upd H' a (DkO a xs)) ys ds:=by rw[<-eo];let t:ds.take xs.length=ds:=Ur ();rw[t]at e5;show e5.ev λb o h n=>#[by rw[av (λe=>n (by rw[e];rcases X with z|z;show .inl (.inl z);show .inr z))];show h,n]
    show w (α++[D]) _ (Ve.Yg s.len U m) (s.Yg U m (by rw[eD];simp) #[ys,eD,wS G]) (.ref D) #[D,by rw[<-s.len];show aG,W]
end
end LD
namespace TS
open PySem PyProof.Rows
set_option autoImplicit true
def gu(M:acL)(A:Tv)(E:T->SS->Prop)(J:SS->Prop){a α:Type}(m:StateT a Sem α)(Q:α->a->Prop)(st:a):Prop:=
 ∀s,J s->wpAny M A (m.run st) (λr z=>J z/\Q r.1 r.2) E s
section
variable{M:acL}{A:Tv}{E:OK->SS->Prop}{J:SS->Prop}{Z:Type}
def aj{α:Type}{a:α}{Q:α->Z->Prop}{st:Z}(h:Q a st):gu M A E J (pure a:StateT Z Sem α) Q st:=by intro s j;rw[StateT.run_pure];show SH #[j,h]
def ag{α b:Type}{m:StateT Z Sem α}{f:α->StateT Z Sem b}{Q:b->Z->Prop}{st:Z}
  (h:gu M A E J m (λa c=>gu M A E J (f a) Q c) st):gu M A E J (m>>=f) Q st:=by
 intro s j;rw[StateT.run_bind];show lD (wpAny_mono (h s j) (λr z q=>q.2 z q.1) λ_ _ e=>e)
theorem bi{α:Type}{m:StateT Z Sem α}{Q R:α->Z->Prop}{st:Z}(h:gu M A E J m Q st)(q:∀a b,Q a b->R a b):gu M A E J m R st:=
 λs j=>wpAny_mono (h s j) (λr _ z=>#[z.1,q _ _ z.2]) λ_ _ e=>e
def fu{Q:Z->Z->Prop}{st:Z}(h:Q st st):gu M A E J (get:StateT Z Sem Z) Q st:=by intro s j;rw[StateT.run_get];show SH #[j,h]
def M5{Q:PUnit->Z->Prop}{st x:Z}(h:Q ⟨⟩ x):gu M A E J (set x:StateT Z Sem PUnit) Q st:=by intro s j;rw[StateT.run_set];show SH #[j,h]
def gB{f:Z->Z}{Q:PUnit->Z->Prop}{st:Z}(h:Q ⟨⟩ (f st)):gu M A E J (modify f:StateT Z Sem PUnit) Q st:=by intro s j;rw[StateT.run_modify];show SH #[j,h]
def ju{n:String}{Q:PUnit->Z->Prop}{st:Z}(h:Q ⟨⟩ st):gu M A E J (liftM (rule n):StateT Z Sem PUnit) Q st:=by intro s j;show wpAny M A ((StateT.lift (rule n):StateT Z Sem PUnit).run st) _ E s;rw[StateT.run_lift];show lD (XF (SH #[j,h]))
def cG{g:Type}{a b:Nat}{f:Nat->g->StateT Z Sem (ForInStep g)}(I:Nat->g->Z->Prop){Q:g->Z->Prop}
  (l:∀i c st,a<=i->i<b->I i c st->gu M A E J (f i c) (λr z=>match r with|.done d=>Q d z|.yield d=>I (i+1) d z) st)
  (m:∀c st,I (max a b) c st->Q c st) {c:g} {st:Z} (h:I a c st):gu M A E J (forIn [a:b] c f) Q st:=by
 rw[Std.Legacy.Range.forIn_eq_forIn_range'];let sz:([a:b]:Std.Legacy.Range).size=b - a:=by simp[Std.Legacy.Range.size]
 show gu M A E J (forIn (adt a ([a:b]:Std.Legacy.Range).size 1) c f) Q st;rw[sz];let go:∀(n i:Nat) (c:g) (st:Z),a<=i->i+n=max a b->I i c st->gu M A E J (forIn (adt i n 1) c f) Q st:=by
  intro n
  induction n with
  |zero=>intro i c st _ e h;rw[List.range'_zero,abM];show aj (m _ _ (by rw[<-e];show h))
  |succ n j=>
   intro i c st o e h;rw[List.range'_succ,Yv];show ag (bi (l i c st o () h) λr z q=>?_);cases r with
   |done d=>show aj q
   |yield d=>show j (i+1) d z () () q
 show go _ a c st (SN _) () h
end
structure Ask(prog:Tg)(w:TN)(A:Tv)(E:T->SS->Prop)(J:SS->Prop)(κ:SortKind)(S:Keyed->Prop)(f:Keyed->Nat):Prop where
 ask:∀x y s,S x->S y->J s->wpAny (model prog w) A (keyLt' κ x.1 y.1) (λb z=>b=decide (f x<f y)/\J z) (λ_ _=>False) s
def R(f:Keyed->Nat)(xs:Array Keyed)(i:Nat):Nat:=match xs[i]? with
 |some p=>f p
 |none=>0
def c8{f:Keyed->Nat}{xs ys:Array Keyed}{i j:Nat}(h:xs[i]?=ys[j]?):R f xs i=R f ys j:=by ext R;rw[h]
def R_at{f:Keyed->Nat}{xs:Array Keyed}{i:Nat}(h:i<xs.size):R f xs i=f xs[i]:=by ext R;rw[getElem?_pos xs i h]
structure Gd(κ:SortKind)(a₀:Array Keyed)(st:SortSt):Prop where
 kind:kindOf st=κ
 failed:failedOf st=S
 perm:(arrOf st).Perm a₀
theorem Gd.size{b:SortKind}{a:Array Keyed}{st:SortSt}(g:Gd b a st):(arrOf st).size=a.size:=g.perm.size_eq
theorem Gd.mem{b:SortKind}{a:Array Keyed}{st:SortSt}(g:Gd b a st){i:Nat}(h:i<(arrOf st).size):(arrOf st)[i]∈a.toList:=
 (VP.mp g.perm).mem_iff.mp (by simp)
theorem Gd.arr{b:SortKind}{a:Array Keyed}{st:SortSt}(g:Gd b a st){xs:Array Keyed}(h:xs.Perm (arrOf st)):Gd b a (setArr st xs):=
 #[g.kind,g.failed,h.trans g.perm]
def So(f:Keyed->Nat)(xs:Array Keyed)(a b:Nat):Prop:=∀i j,a<=i->i<=j->j<b->R f xs i<=R f xs j
section
variable{Y:Tg}{w:TN}{A:Tv}{E:OK->SS->Prop}{J:SS->Prop}{X:SortKind}{Z:Array Keyed}{f:Keyed->Nat}
def uw(C:Ask Y w A E J X (·∈Z.toList) f){x y:Keyed}(d:x∈Z.toList)(a:y∈Z.toList){st:SortSt}(k:kindOf st=X){Q:I Bool->SortSt->Prop}
  (h:Q (M (decide (f x<f y))) st):gu (model Y w) A E J (lt' x y) Q st:=by
 rw[lt'_eq];show ag (fu (ag ?_));intro s j;rw[k];show wpAny _ A ((StateT.lift ((keyLt' X x.1 y.1).attempt):StateT SortSt Sem _).run st) _ E s;rw[StateT.run_lift];show lD (Xq (wpAny_mono (C.ask x y s d a j) ?_ λ_ _ e=>e.elim));rintro b z ⟨rfl,g⟩;show SH #[g,aj h]
def a9{xs:Array Keyed}{i:Nat}{x:Keyed}(e:xs[i]?=M x){st:SortSt}{Q:Keyed->SortSt->Prop}(h:Q x st):gu (model Y w) A E J (elem' xs i) Q st:=by rw[elem'_eq,e];show aj h
def kN(C:Ask Y w A E J X (·∈Z.toList) f){st:SortSt}(g:Gd X Z st){i j:Nat}(b:i<Z.size)(a:j<Z.size){Q:I Bool->SortSt->Prop}
  (h:Q (M (decide (R f (arrOf st) i<R f (arrOf st) j))) st):gu (model Y w) A E J (ltAt' i j) Q st:=by
 rw[ltAt'_eq];rw[<-g.size]at b a;rw[R_at b,R_at a]at h;show ag (fu ?_);dsimp only;show ag (a9 (getElem?_pos (arrOf st) i b) (ag (a9 (getElem?_pos (arrOf st) j a) ?_)));show uw C (g.mem b) (g.mem a) g.kind h
def rE{st:SortSt}{i j:Nat}{Q:Unit->SortSt->Prop}(h:Q ⟨⟩ (setArr st (mirror (arrOf st) i j ((j - i)/2)))):
  gu (model Y w) A E J (reverseSlice' i j) Q st:=by
 rw[reverseSlice'_eq];show gB h
def oU{xs:Array Keyed}{i j:Nat}(a:j<=xs.size)(k:Nat):
  R f (mirror xs i j ((j - i)/2)) k=if i<=k/\k<j then R f xs (i+j - 1 - k)else R f xs k:=by
 let e:=getElem?_mirror_all (i:=i) a k;split<;>rename_i h<;>simp only[h,if_true,if_false,not_false_eq_true]at e<;>show c8 (by simpa [h]using e)
def tW{xs:Array Keyed}{a d:Nat}(b:a<xs.size)(hd:d<=a)(k:Nat):
  R f (bubble xs a d) k=if k=a - d then R f xs a else if a - d<k/\k<=a then R f xs (k - 1)else R f xs k:=by
 let e:=getElem?_bubble b d hd k;split
 .rw[ai (by assumption)]at e;show c8 e
 .rw[ak (by assumption)]at e
  split
  .rw[ai (by assumption)]at e;show c8 e
  .rw[ak (by assumption)]at e;show c8 e
end
end TS
namespace TS
open PySem PyProof.Rows
set_option autoImplicit true
section
variable{Y:Tg}{w:TN}{A:Tv}{E:OK->SS->Prop}{J:SS->Prop}{κ:SortKind}{Z:Array Keyed}{f:Keyed->Nat}
structure Up(κ:SortKind)(Z:Array Keyed)(f:Keyed->Nat)(lo:Nat)(st z:SortSt):Prop where
 gd:Gd κ Z z
 pend:pendingOf z=pendingOf st
 low:∀k,k<lo->(arrOf z)[k]?=(arrOf st)[k]?
theorem Up.rfl{lo:Nat}{st:SortSt}(g:Gd κ Z st):Up κ Z f lo st st:=#[g,Eq.refl _,λ_ _=>Eq.refl _]
theorem Up.mir{lo i j:Nat}{st z:SortSt}(u:Up κ Z f lo st z)(c:lo<=i)(b:j<=Z.size):Up κ Z f lo st (setArr z (mirror (arrOf z) i j ((j - i)/2))):=
 #[u.gd.arr (mirror_perm _ _ _ _),u.pend,λk a=>by show(mirror (arrOf z) i j ((j - i)/2))[k]?=_;rw[getElem?_mirror_all (by rw[u.gd.size];show b),ak ()];show u.low k a]
def Ih(C:Ask Y w A E J κ (·∈Z.toList) f){st:SortSt}{lo n ok:Nat}{Q:Bool->SortSt->Prop}(s:lo+n<=Z.size)(U9:ok<=n)(g:Gd κ Z st)(t:So f (arrOf st) lo (lo+ok))
  (h:∀z,Up κ Z f lo st z->So f (arrOf z) lo (lo+n)->Q U z):gu (model Y w) A E J (binarySort' lo n ok) Q st:=by
 rw[binarySort'_eq];show ag (bi (cG (I:=λk c z=>c=(S,⟨⟩)/\Up κ Z f lo st z/\So f (arrOf z) lo (lo+min k n))
  (Q:=λc z=>c=(S,⟨⟩)/\Up κ Z f lo st z/\So f (arrOf z) lo (lo+n)) ?step ?fin ?init) ?post)
 case post=>rintro c z ⟨rfl,u,k⟩;show aj (h z u k)
 case init=>
  show#[W,.rfl g,λi j h1 b K=>?_];by_cases o:ok=0
  .let:i=j:=by ext
   subst this;show SN _
  .show t i j h1 b ()
 case fin=>
  rintro c z ⟨v,u,k⟩;show#[v,u,?_];rwa [show min (max (max ok 1) n) n=n by ext]at k
 case step=>
  rintro k c z B p ⟨rfl,u,q⟩;rw[show min k n=k by ext]at q;let k1:k<n:=by ext
  clear B p;show ag (bi (cG (I:=λx c y=>y=z/\∃l r,c=(S,l,r)/\l<=r/\r<=k/\r - l<=k - x/\
    (∀i,i<l->R f (arrOf z) (lo+i)<=R f (arrOf z) (lo+k))/\(∀i,r<=i->i<k->R f (arrOf z) (lo+k)<R f (arrOf z) (lo+i)))
   (Q:=λc y=>y=z/\∃l r,c=(S,l,r)/\l<=k/\
    (∀i,i<l->R f (arrOf z) (lo+i)<=R f (arrOf z) (lo+k))/\(∀i,l<=i->i<k->R f (arrOf z) (lo+k)<R f (arrOf z) (lo+i))) ?is ?ifn ?ii) ?ip)
  case ii=>show#[W,0,k,W,by ext,by ext,by ext,λi hi=>by ext,λi h1 b=>by ext]
  case ifn=>
   rintro c y ⟨rfl,l,r,rfl,lr,rk,m,X,P⟩;let:l=r:=by ext
   subst this;show#[W,l,l,W,rk,X,P]
  case is=>
   rintro x c y _ H ⟨rfl,l,r,rfl,lr,rk,m,X,P⟩;dsimp only;by_cases e:l≥r
   .rw[ai e]
    let:l=r:=by ext
    subst this;show aj #[W,l,l,W,rk,X,P]
   .rw[ak e]
    show ag (kN C u.gd () () ?_);by_cases a:R f (arrOf y) (lo+k)<R f (arrOf y) (lo+(l+r)/2)
    .simp only[a,decide_true,if_true];show aj #[W,l,(l+r)/2,W,by ext,by ext,by ext,X,λi h1 b=>?_];show To a (q _ _ () () ())
    .simp only[a,decide_false,S4,if_false];show aj #[W,(l+r)/2+1,r,W,by ext,by ext,by ext,λi h1=>?_,P];show S9 (q (lo+i) (lo+(l+r)/2) () () ()) (Vu a)
  case ip=>
   rintro c y ⟨rfl,l,r,rfl,lk,X,P⟩;show gu _ _ _ _ (do moveDown' (lo+k) (lo+l);pure (ForInStep.yield (S,Unit.unit))) _ _;rw[moveDown'_eq];let d:lo+k<(arrOf y).size:=by rw[u.gd.size];ext
   show ag (gB (aj #[W,#[u.gd.arr (bubble_perm _ _ _),u.pend,λi hi=>?_],?_]))
   .show(bubble (arrOf y) (lo+k) (lo+k - (lo+l)))[i]?=_;rw[getElem?_bubble d _ (),ak (),ak ()];show u.low i hi
   rw[show min (k+1) n=k+1 by ext];intro i j N M L;show R f (bubble (arrOf y) (lo+k) (lo+k - (lo+l))) i<=R f (bubble (arrOf y) (lo+k) (lo+k - (lo+l))) j;rw[tW d (),tW d (),show lo+k - (lo+k - (lo+l))=lo+l by ext];let G:∀i,lo<=i->i<lo+l->R f (arrOf y) i<=R f (arrOf y) (lo+k):=λi h1 b=>by let:=X (i - lo) ();rwa [show lo+(i - lo)=i by ext]at this
   let F:∀i,lo+l<=i->i<lo+k->R f (arrOf y) (lo+k)<=R f (arrOf y) i:=λi h1 b=>by let:=P (i - lo) () ();rw[show lo+(i - lo)=i by ext]at this;ext
   repeat' split
   all_goals first
    |(exfalso;ext)
    |show SN _
    |show G _ () ()
    |show F _ () ()
    |show q _ _ () () ()
end
end TS
namespace TS
open PySem PyProof.Rows
set_option autoImplicit true
def JM:Bool->Keyed->Array Keyed->Nat->Nat->Nat->StateT SortSt Sem (I Nat):=sortPriv% PySem.Builtin.gallop
def QX(left:Bool)(a:Keyed)(arr:Array Keyed)(base i:Nat):StateT SortSt Sem (I Bool):=do
 let x<-elem' arr (base+i)
 if left then lt' x a else return(<-lt' a x).map (!·)
section
variable{Y:Tg}{w:TN}{A:Tv}{E:OK->SS->Prop}{J:SS->Prop}{X:SortKind}{Z:Array Keyed}{f:Keyed->Nat}
def Bt(f:Keyed->Nat)(left:Bool)(a:Keyed)(x:Keyed):Bool:=if left then decide (f x<f a)else decide (f x<=f a)
def MU(C:Ask Y w A E J X (·∈Z.toList) f){left:Bool}{a x:Keyed}{arr:Array Keyed}{base i:Nat}{st:SortSt}(k:kindOf st=X)(d:a∈Z.toList)(b:x∈Z.toList)(e:arr[base+i]?=M x){Q:I Bool->SortSt->Prop}
  (h:Q (M (Bt f left a x)) st):gu (model Y w) A E J (QX left a arr base i) Q st:=by
 ext QX;show ag (a9 e ?_);cases left with
 |true=>simp only[if_true];show uw C b d k h
 |false=>
  simp only[S4,if_false];show ag (uw C d b k (aj ?_));let:ZO (λx=> !x) (M (decide (f a<f x)))=M (Bt f SW a x):=by
   ext Bt;simp only[S4,if_false,ZO];congr 1;by_cases q:f a<f x
   .rw[a6 q,a7 ()];rfl
   .rw[a7 q,a6 ()];rfl
  rw[this];show h
def lQ(C:Ask Y w A E J X (·∈Z.toList) f){left:Bool}{d:Keyed}{arr:Array Keyed}{base n a:Nat}{st:SortSt}(k:kindOf st=X)(K:d∈Z.toList)
  (B:Nat->Bool) (s:∀i,i<n->∃x,x∈Z.toList/\arr[base+i]?=M x/\B i=Bt f left d x) (hm:∀i j,i<=j->j<n->B j=U->B i=U) (L:a<n)
  {Q:cc Nat->SortSt->Prop} (h:∀m,m<=n->(∀i,i<m->B i=U)->(∀i,m<=i->i<n->B i=SW)->Q (M m) st):
  gu (model Y w) A E J (JM left d arr base n a) Q st:=by
 let g:∀{i:Nat} {Q:cc Bool->SortSt->Prop},i<n->Q (M (B i)) st->gu (model Y w) A E J (QX left d arr base i) Q st:=by intro i Q N q;let(x,G,F,v):=s i N;rw[v]at q;show MU C k K G F q
 let l:∀i j,i<=j->j<n->B i=SW->B j=SW:=λi j h1 e u=>by
  cases q:B j with
  |false=>rfl
  |true=>rw[hm i j h1 e q]at u;ext u
 show gu _ _ _ _ (bind _ _:StateT SortSt Sem (cc Nat)) _ _;show ag (g L ?_);cases q:B a with
 |true=>
  dsimp only;simp only[if_true];show ag (bi (cG (I:=λx c z=>z=st/\∃la o,c=(S,la,o)/\la<o/\x+1<=o/\a+la<n/\B (a+la)=U)
   (Q:=λc z=>z=st/\∃la o,c=(S,la,o)/\la<o/\a+la<n/\B (a+la)=U/\(a+o<n->B (a+o)=SW)) ?s2 ?f2 #[W,0,1,W,by ext,by ext,by ext,q]) ?p2)
  case p2=>
   rintro c z ⟨rfl,la,o,rfl,a1,a2,P,a4⟩;dsimp only;let t:(a+la+1)<=(a+min o (n - a)):=by ext
   let hn:(a+min o (n - a))<=n:=by ext
   let r:∀i,i<(a+la+1)->B i=U:=λi N=>by show hm i _ () a2 P
   let p2:∀i,(a+min o (n - a))<=i->i<n->B i=SW:=λi h1 e=>by show l (a+o) i () e (a4 ())
   show ag (bi (cG (I:=λx c y=>y=z/\∃lo N,c=(S,lo,N)/\lo<=N/\N<=n/\N - lo<=n - x/\(∀i,i<lo->B i=U)/\(∀i,N<=i->i<n->B i=SW))
    (Q:=λc y=>y=z/\∃m,c=(S,m,m)/\m<=n/\(∀i,i<m->B i=U)/\(∀i,m<=i->i<n->B i=SW)) ?s11 ?f11 #[W,(a+la+1),(a+min o (n - a)),W,t,hn,by ext,r,p2]) ?p11)
   case p11=>
    rintro c z ⟨rfl,m,rfl,a1,a2,P⟩;show aj (h m a1 a2 P)
   case f11=>
    rintro c z ⟨rfl,lo,N,rfl,a0,a1,a2,P,a4⟩;let:lo=N:=by ext
    subst this;show#[W,lo,W,a1,P,a4]
   case s11=>
    rintro x c z _ p ⟨rfl,lo,N,rfl,a0,a1,a2,P,a4⟩;dsimp only;by_cases b:lo≥N
    .rw[ai b]
     let:lo=N:=by ext
     subst this;show aj #[W,lo,W,a1,P,a4]
    .rw[ak b]
     show ag (g () ?_);cases q:B (lo+(N - lo)/2)with
     |true=>simp only[if_true];show aj #[W,_,_,W,by ext,by ext,by ext,λi N=>?_,a4];show hm i _ () () q
     |false=>simp only[S4,if_false];show aj #[W,_,_,W,by ext,by ext,by ext,P,λi h1 e=>?_];show l _ i h1 e q
  case f2=>
   rintro c z ⟨rfl,la,o,rfl,a1,a2,P,a4⟩;show#[W,la,o,W,a1,P,a4,λh=>by ext]
  case s2=>
   rintro x c z _ p ⟨rfl,la,o,rfl,a1,a2,P,a4⟩;dsimp only;by_cases b:o≥n - a
   .rw[ai b];show aj #[W,la,o,W,a1,P,a4,λh=>by ext]
   .rw[ak b]
    show ag (g () ?_);cases q2:B (a+o)with
    |true=>simp only[UY,S4,if_false];show aj #[W,_,_,W,by ext,by ext,by ext,q2]
    |false=>simp only[YM,if_true];show aj #[W,la,o,W,a1,P,a4,λ_=>q2]
 |false=>
  dsimp only;simp only[S4,if_false];show ag (bi (cG (I:=λx c z=>z=st/\∃la o,c=(S,la,o)/\la<o/\x+1<=o/\la<=a/\B (a - la)=SW)
   (Q:=λc z=>z=st/\∃la o,c=(S,la,o)/\la<o/\la<=a/\B (a - la)=SW/\(o<a+1->B (a - o)=U)) ?s3 ?f3 #[W,0,1,W,by ext,by ext,by ext,q]) ?p3)
  case p3=>
   rintro c z ⟨rfl,la,o,rfl,a1,a2,P,a4⟩;dsimp only;let t:(a+1 - min o (a+1))<=(a - la):=by ext
   let hn:(a - la)<=n:=by ext
   let r:∀i,i<(a+1 - min o (a+1))->B i=U:=λi N=>by
    let H:o<a+1:=by ext
    show hm i (a - o) () () (a4 H)
   let p2:∀i,(a - la)<=i->i<n->B i=SW:=λi h1 e=>by show l (a - la) i () e P
   show ag (bi (cG (I:=λx c y=>y=z/\∃lo N,c=(S,lo,N)/\lo<=N/\N<=n/\N - lo<=n - x/\(∀i,i<lo->B i=U)/\(∀i,N<=i->i<n->B i=SW))
    (Q:=λc y=>y=z/\∃m,c=(S,m,m)/\m<=n/\(∀i,i<m->B i=U)/\(∀i,m<=i->i<n->B i=SW)) ?s12 ?f12 #[W,(a+1 - min o (a+1)),(a - la),W,t,hn,by ext,r,p2]) ?p12)
   case p12=>
    rintro c z ⟨rfl,m,rfl,a1,a2,P⟩;show aj (h m a1 a2 P)
   case f12=>
    rintro c z ⟨rfl,lo,N,rfl,a0,a1,a2,P,a4⟩;let:lo=N:=by ext
    subst this;show#[W,lo,W,a1,P,a4]
   case s12=>
    rintro x c z _ p ⟨rfl,lo,N,rfl,a0,a1,a2,P,a4⟩;dsimp only;by_cases b:lo≥N
    .rw[ai b]
     let:lo=N:=by ext
     subst this;show aj #[W,lo,W,a1,P,a4]
    .rw[ak b]
     show ag (g () ?_);cases q:B (lo+(N - lo)/2)with
     |true=>simp only[if_true];show aj #[W,_,_,W,by ext,by ext,by ext,λi N=>?_,a4];show hm i _ () () q
     |false=>simp only[S4,if_false];show aj #[W,_,_,W,by ext,by ext,by ext,P,λi h1 e=>?_];show l _ i h1 e q
  case f3=>
   rintro c z ⟨rfl,la,o,rfl,a1,a2,P,a4⟩;show#[W,la,o,W,a1,P,a4,λh=>by ext]
  case s3=>
   rintro x c z _ p ⟨rfl,la,o,rfl,a1,a2,P,a4⟩;dsimp only;by_cases b:o≥a+1
   .rw[ai b];show aj #[W,la,o,W,a1,P,a4,λh=>by ext]
   .rw[ak b]
    show ag (g () ?_);cases q2:B (a - o)with
    |true=>simp only[if_true];show aj #[W,la,o,W,a1,P,a4,λ_=>q2]
    |false=>simp only[S4,if_false];show aj #[W,_,_,W,by ext,by ext,by ext,q2]
end
end TS
namespace TS
open PySem PyProof.Rows
set_option autoImplicit true
abbrev KL:=Array Keyed
abbrev SM:=StateT SortSt Sem
def QJ:KL->KL->SM KL:=sortPriv% PySem.Builtin.mergeLo
def Aq(g:Nat):SM Unit:=(sortPriv% PySem.Builtin.setMinGallop) g
abbrev LS:=I KL×KL×Nat×Nat×Nat
abbrev P9:=I KL×KL×Nat×Nat×Nat×Nat
abbrev Ke:=I KL×KL×Nat×Nat×Nat×Nat×Nat
def dn(a b d:KL)(f e:Nat):KL:=d++a.extract f a.size++b.extract e b.size
def la(a b d:KL)(f e:Nat):KL:=d++b.extract e b.size++a.extract f a.size
def Qh(a b d:KL)(e f g ac bc:Nat):SM (ForInStep Ke):=do
 let x<-elem' a e
 if e+1+1==a.size then pure (.done (M (la a b (d.push x) (e+1) f),d.push x,e+1,f,g,ac,bc))
 else if ac<7&&bc<7 then pure (.done (S,d.push x,e+1,f,g,ac,bc))else pure (.yield (S,d.push x,e+1,f,g,ac,bc))
def Fh(a b e:KL)(f d g ac bc:Nat):SM (ForInStep Ke):=do
 let y<-elem' b d
 if d+1==b.size then pure (.done (M (dn a b (e.push y) f (d+1)),e.push y,f,d+1,g,ac,bc))
 else do
  let x<-elem' a f
  match<-JM U x b (d+1) (b.size - (d+1)) 0 with
  |some k=>
   if k>0 then
    if d+1+k==b.size then pure (.done (M (dn a b (e.push y++b.extract (d+1) (d+1+k)) f (d+1+k)),e.push y++b.extract (d+1) (d+1+k),f,d+1+k,g,ac,k))
    else Qh a b (e.push y++b.extract (d+1) (d+1+k)) f (d+1+k) g ac k
   else Qh a b (e.push y) f (d+1) g ac k
  |none=>pure (.done (M (dn a b (e.push y) f (d+1)),e.push y,f,d+1,g,ac,bc))
def NW(a b e:KL)(d f g ac bc:Nat):SM (ForInStep Ke):=do
 Aq g
 let y<-elem' b f
 match<-JM SW y a d (a.size - d) 0 with
 |some k=>
  if k>0 then
   if d+k+1==a.size then pure (.done (M (la a b (e++a.extract d (d+k)) (d+k) f),e++a.extract d (d+k),d+k,f,g,k,bc))
   else if d+k==a.size then pure (.done (M (dn a b (e++a.extract d (d+k)) (d+k) f),e++a.extract d (d+k),d+k,f,g,k,bc))
   else Fh a b (e++a.extract d (d+k)) (d+k) f g k bc
  else Fh a b e d f g k bc
 |none=>pure (.done (M (dn a b e d f),e,d,f,g,ac,bc))
def l1(a b:KL)(g:Nat)(c:P9):SM (ForInStep P9):=do
 let y<-elem' b c.2.2.2.1
 let x<-elem' a c.2.2.1
 match<-lt' y x with
 |some w=>
  if w=U then do
   let y<-elem' b c.2.2.2.1
   if c.2.2.2.1+1==b.size then pure (.done (M (dn a b (c.2.1.push y) c.2.2.1 (c.2.2.2.1+1)),c.2.1.push y,c.2.2.1,c.2.2.2.1+1,0,c.2.2.2.2.2+1))
   else if c.2.2.2.2.2+1≥g then pure (.done (S,c.2.1.push y,c.2.2.1,c.2.2.2.1+1,0,c.2.2.2.2.2+1))else pure (.yield (S,c.2.1.push y,c.2.2.1,c.2.2.2.1+1,0,c.2.2.2.2.2+1))
  else do
   let x<-elem' a c.2.2.1
   if c.2.2.1+1+1==a.size then pure (.done (M (la a b (c.2.1.push x) (c.2.2.1+1) c.2.2.2.1),c.2.1.push x,c.2.2.1+1,c.2.2.2.1,c.2.2.2.2.1+1,0))
   else if c.2.2.2.2.1+1≥g then pure (.done (S,c.2.1.push x,c.2.2.1+1,c.2.2.2.1,c.2.2.2.2.1+1,0))else pure (.yield (S,c.2.1.push x,c.2.2.1+1,c.2.2.2.1,c.2.2.2.2.1+1,0))
 |none=>pure (.done (M (dn a b c.2.1 c.2.2.1 c.2.2.2.1),c.2.1,c.2.2.1,c.2.2.2.1,c.2.2.2.2.1,c.2.2.2.2.2))
def l0(a b:KL)(s:LS):SM (ForInStep LS):=do
 let c<-forIn [0:a.size+b.size] ((S,s.2.1,s.2.2.1,s.2.2.2.1,0,0):P9) λ_ c=>l1 a b s.2.2.2.2 c
 match c.1 with
 |some r=>pure (.done (M r,c.2.1,c.2.2.1,c.2.2.2.1,s.2.2.2.2))
 |none=>do
  rule "list.sort.gallop"
  let d<-forIn [0:a.size+b.size] ((S,c.2.1,c.2.2.1,c.2.2.2.1,s.2.2.2.2+1,c.2.2.2.2.1,c.2.2.2.2.2):Ke) λ_ d=>
   if d.2.2.2.2.1>1 then NW a b d.2.1 d.2.2.1 d.2.2.2.1 (d.2.2.2.2.1 - 1) d.2.2.2.2.2.1 d.2.2.2.2.2.2 else NW a b d.2.1 d.2.2.1 d.2.2.2.1 d.2.2.2.2.1 d.2.2.2.2.2.1 d.2.2.2.2.2.2
  match d.1 with
  |some r=>pure (.done (M r,d.2.1,d.2.2.1,d.2.2.2.1,d.2.2.2.2.1))
  |none=>do
   Aq (d.2.2.2.2.1+1)
   pure (.yield (S,d.2.1,d.2.2.1,d.2.2.2.1,d.2.2.2.2.1+1))
def KQ(a b:KL):QJ a b=(do
 rule "list.sort.merge-lo"
 let y<-elem' b 0
 if(1==b.size)=U then pure (dn a b #v[y] 0 1)
 else if(0+1==a.size)=U then pure (la a b #v[y] 0 1)
 else do
  let g<-get
  let s<-forIn [0:a.size+b.size] ((S,#v[y],0,1,gallopOf g):LS) λ_ s=>l0 a b s
  match s.1 with
  |some r=>pure r
  |none=>unsupported "internal:list.sort.merge-bound"):=by
 show(bind _ _:SM KL)=bind _ _;dsimp only;congr 1;funext _u;congr 1;funext y;show ite_congr W (λ_=>W) λ_=>?_;show ite_congr W (λ_=>W) λ_=>?_;congr 1;funext g;congr 1
 .congr 1;funext _x s
  ext l0;congr 1
  .congr 1;funext _x c
   ext l1;congr 1;funext y;congr 1;funext x;congr 1;funext v;cases v with
   |none=>rfl
   |some v=>rfl
  .funext c
   let(r,c):=c;cases r with
   |some r=>rfl
   |none=>
    dsimp only;congr 1;funext _v;congr 1
    .congr 1;funext _x d
     let e:∀f,(do
       Aq f
       let y<-elem' b d.2.2.2.1
       match<-JM SW y a d.2.2.1 (a.size - d.2.2.1) 0 with
       |some k=>
        if k>0 then
         if d.2.2.1+k+1==a.size then pure (.done (M (la a b (d.2.1++a.extract d.2.2.1 (d.2.2.1+k)) (d.2.2.1+k) d.2.2.2.1),d.2.1++a.extract d.2.2.1 (d.2.2.1+k),d.2.2.1+k,d.2.2.2.1,f,k,d.2.2.2.2.2.2))
         else if d.2.2.1+k==a.size then pure (.done (M (dn a b (d.2.1++a.extract d.2.2.1 (d.2.2.1+k)) (d.2.2.1+k) d.2.2.2.1),d.2.1++a.extract d.2.2.1 (d.2.2.1+k),d.2.2.1+k,d.2.2.2.1,f,k,d.2.2.2.2.2.2))
         else Fh a b (d.2.1++a.extract d.2.2.1 (d.2.2.1+k)) (d.2.2.1+k) d.2.2.2.1 f k d.2.2.2.2.2.2
        else Fh a b d.2.1 d.2.2.1 d.2.2.2.1 f k d.2.2.2.2.2.2
       |none=>pure (.done (M (dn a b d.2.1 d.2.2.1 d.2.2.2.1),d.2.1,d.2.2.1,d.2.2.2.1,f,d.2.2.2.2.2.1,d.2.2.2.2.2.2)):SM (ForInStep Ke))=NW a b d.2.1 d.2.2.1 d.2.2.2.1 f d.2.2.2.2.2.1 d.2.2.2.2.2.2:=λ_=>W
     show ite_congr W (λ_=>?_) λ_=>?_
     .rw[<-e]
      congr 1;funext _z;congr 1;funext y;congr 1;funext k;cases k with
      |none=>rfl
      |some k=>
       dsimp only;show ite_congr W (λ_=>?_) λ_=>?_
       .show ite_congr W (λ_=>W) λ_=>?_
        show ite_congr W (λ_=>W) λ_=>?_;ext Fh;congr 1;funext y;show ite_congr W (λ_=>W) λ_=>?_;congr 1;funext x;congr 1;funext k1;cases k1 with
        |none=>rfl
        |some k1=>rfl
       .ext Fh;congr 1;funext y
        show ite_congr W (λ_=>W) λ_=>?_;congr 1;funext x;congr 1;funext k1;cases k1 with
        |none=>rfl
        |some k1=>rfl
     .rw[<-e]
      congr 1;funext _z;congr 1;funext y;congr 1;funext k;cases k with
      |none=>rfl
      |some k=>
       dsimp only;show ite_congr W (λ_=>?_) λ_=>?_
       .show ite_congr W (λ_=>W) λ_=>?_
        show ite_congr W (λ_=>W) λ_=>?_;ext Fh;congr 1;funext y;show ite_congr W (λ_=>W) λ_=>?_;congr 1;funext x;congr 1;funext k1;cases k1 with
        |none=>rfl
        |some k1=>rfl
       .ext Fh;congr 1;funext y
        show ite_congr W (λ_=>W) λ_=>?_;congr 1;funext x;congr 1;funext k1;cases k1 with
        |none=>rfl
        |some k1=>rfl
    .funext d
     let(r,d):=d;cases r with
     |some r=>rfl
     |none=>rfl
 .funext s
  let(r,s):=s;cases r with
  |some r=>rfl
  |none=>rfl
end TS
namespace TS
open PySem PyProof.Rows
set_option autoImplicit true
abbrev Le(f:Keyed->Nat)(x y:Keyed):Prop:=f x<=f y
structure Ok(f:Keyed->Nat)(T o:G Keyed):Prop where
 perm:o.Perm T
 so:o.Pairwise (Le f)
structure Mi(f:Keyed->Nat)(T o X Y:G Keyed):Prop where
 perm:(o++(X++Y)).Perm T
 so:o.Pairwise (Le f)
 bd:∀p∈o,∀z,z∈X\/z∈Y->f p<=f z
 sx:X.Pairwise (Le f)
 sy:Y.Pairwise (Le f)
section
variable{f:Keyed->Nat}{T o X Y P:cb Keyed}
theorem Mi.x(m:Mi f T o (P++X) Y)(h:∀p∈P,∀y∈Y,f p<=f y):Mi f T (o++P) X Y where
 perm:=by let:=m.perm;rwa [Tz]at this⊢
 so:=T4.mpr #[m.so,(T4.mp m.sx).1,λp b z a=>m.bd p b z (.inl (Uk _ a))]
 bd:=λp b z a=>by
  rcases Th.mp b with q|q
  .show m.bd p q z (a.imp (Tw _) id)
  .rcases a with a|a
   .show(T4.mp m.sx).2.2 p q z a
   .show h p q z a
 sx:=(T4.mp m.sx).2.1
 sy:=m.sy
theorem Mi.swap(m:Mi f T o X Y):Mi f T o Y X where
 perm:=(aih o Xx).trans m.perm
 so:=m.so
 bd:=λp b z a=>m.bd p b z a.symm
 sx:=m.sy
 sy:=m.sx
theorem Mi.y(m:Mi f T o X (P++Y))(h:∀p∈P,∀x∈X,f p<=f x):Mi f T (o++P) X Y:=(m.swap.x h).swap
theorem Mi.dn(m:Mi f T o X Y)(h:∀x∈X,∀y∈Y,f x<=f y):Ok f T (o++X++Y) where
 perm:=by rw[Tz];show m.perm
 so:=by rw[Tz];show T4.mpr #[m.so,T4.mpr #[m.sx,m.sy,h],λp b z a=>m.bd p b z (Th.mp a)]
theorem Mi.la(m:Mi f T o X Y)(h:∀y∈Y,∀x∈X,f y<=f x):Ok f T (o++Y++X):=m.swap.dn h
end
section
variable{Y:Tg}{w:TN}{A:Tv}{E:OK->SS->Prop}{J:SS->Prop}{X:SortKind}{Z:Array Keyed}{f:Keyed->Nat}
structure Ge(st z:SortSt):Prop where
 kind:kindOf z=kindOf st
 failed:failedOf z=failedOf st
 arr:arrOf z=arrOf st
 pend:pendingOf z=pendingOf st
theorem Ge.rfl{st:SortSt}:Ge st st:=#[Eq.refl _,Eq.refl _,Eq.refl _,Eq.refl _]
theorem mJ{st z:SortSt}(e:Ge st z){g:Nat}{Q:Unit->SortSt->Prop}(h:∀y,Ge st y->Q ⟨⟩ y):gu (model Y w) A E J (Aq g) Q z:=
 gB (h _ #[e.kind,e.failed,e.arr,e.pend])
variable{a b:KL}
def pf(i j:Nat):(a.extract i j).toList=(a.toList.drop i).take (j - i):=by rw[Array.toList_extract]
def IH(i:Nat):(a.extract i a.size).toList=a.toList.drop i:=by rw[pf,Ur];simp
def Ra(d:KL)(g e:Nat):(dn a b d g e).toList=d.toList++a.toList.drop g++b.toList.drop e:=by ext dn;rw[Ug,Ug,IH,IH]
def Qv(d:KL)(g e:Nat):(la a b d g e).toList=d.toList++b.toList.drop e++a.toList.drop g:=by ext la;rw[Ug,Ug,IH,IH]
def AN{i:Nat}(h:i<a.size):a.toList.drop i=[a[i]]++a.toList.drop (i+1):=by rw[Uo (by simpa using h)];simp
def Bl(i k:Nat):a.toList.drop i=(a.toList.drop i).take k++a.toList.drop (i+k):=by rw[<-abO];show(Uw k _).symm
structure Two(f:Keyed->Nat)(Z:Array Keyed)(a b:KL):Prop where
 sa:a.toList.Pairwise (Le f)
 sb:b.toList.Pairwise (Le f)
 ma:∀x∈a.toList,x∈Z.toList
 mb:∀x∈b.toList,x∈Z.toList
 na:0<a.size
 nb:0<b.size
 last:∀y∈b.toList,f y<=f a[a.size - 1]
 first:∀x∈a.toList,f b[0]<=f x
def Two.xs(t:Two f Z a b){i j:Nat}(h:i<=j)(d:j<a.size):f a[i]<=f a[j]:=by
 by_cases e:i=j
 .subst e;show SN _
 .let:=US.mp t.sa i j (by simp;ext) (by simp;ext) ()
  simpa using this
def Two.ys(t:Two f Z a b){i j:Nat}(h:i<=j)(d:j<b.size):f b[i]<=f b[j]:=by
 by_cases e:i=j
 .subst e;show SN _
 .let:=US.mp t.sb i j (by simp;ext) (by simp;ext) ()
  simpa using this
def iu{i:Nat}{x:Keyed}(h:x∈a.toList.drop i):∃j,∃c:j<a.size,i<=j/\x=a[j]:=by let(j,c,e):=Vr h;rw[aaA]at e;show#[i+j,by simp at c;ext,by ext,by simpa using e.symm]
def hV{i:Nat}{x:Keyed}(h:x∈a.toList.take i):∃j,∃c:j<a.size,j<i/\x=a[j]:=by let(j,c,e):=Vr h;rw[Ya]at e;simp at c;show#[j,by ext,by ext,by simpa using e.symm]
def qH{i k:Nat}{x:Keyed}(h:x∈(a.toList.drop i).take k):∃j,∃c:j<a.size,i<=j/\j<i+k/\x=a[j]:=by let(j,c,e):=Vr h;rw[Ya,aaA]at e;simp at c;show#[i+j,by ext,by ext,by ext,by simpa using e.symm]
structure Hd(f:Keyed->Nat)(a b out:KL)(ia ib:Nat):Prop where
 mi:Mi f (a.toList++b.toList) out.toList (a.toList.drop ia) (b.toList.drop ib)
 ia:ia<a.size
 ib:ib<b.size
def Mi.px{d:KL}{e g:Nat}(m:Mi f (a.toList++b.toList) d.toList (a.toList.drop e) (b.toList.drop g))(h:e<a.size)(q:∀j (i:j<b.size),g<=j->f a[e]<=f b[j]):
  Mi f (a.toList++b.toList) (d.push a[e]).toList (a.toList.drop (e+1)) (b.toList.drop g):=by
 rw[AN h]at m;rw[V9];show m.x λp n y l=>?_;rw[S6.mp n];let(j,i,h1,rfl):=iu l;show q j i h1
def Mi.py{d:KL}{g e:Nat}(m:Mi f (a.toList++b.toList) d.toList (a.toList.drop g) (b.toList.drop e))(h:e<b.size)(q:∀j (i:j<a.size),g<=j->f b[e]<=f a[j]):
  Mi f (a.toList++b.toList) (d.push b[e]).toList (a.toList.drop g) (b.toList.drop (e+1)):=by
 rw[AN h]at m;rw[V9];show m.y λp n y l=>?_;rw[S6.mp n];let(j,i,h1,rfl):=iu l;show q j i h1
def Mi.kx{e:KL}{d g k:Nat}(m:Mi f (a.toList++b.toList) e.toList (a.toList.drop d) (b.toList.drop g))(q:∀i (c:i<a.size),d<=i->i<d+k->∀j (h:j<b.size),g<=j->f a[i]<=f b[j]):
  Mi f (a.toList++b.toList) (e++a.extract d (d+k)).toList (a.toList.drop (d+k)) (b.toList.drop g):=by
 rw[Bl d k]at m;rw[Ug,pf,V7];show m.x λp n y l=>?_;let(i,c,h1,r,rfl):=qH n;let(j,h,o,rfl):=iu l;show q i c h1 r j h o
def Mi.ky{e:KL}{g d k:Nat}(m:Mi f (a.toList++b.toList) e.toList (a.toList.drop g) (b.toList.drop d))(q:∀i (c:i<b.size),d<=i->i<d+k->∀j (h:j<a.size),g<=j->f b[i]<=f a[j]):
  Mi f (a.toList++b.toList) (e++b.extract d (d+k)).toList (a.toList.drop g) (b.toList.drop (d+k)):=by
 rw[Bl d k]at m;rw[Ug,pf,V7];show m.y λp n y l=>?_;let(i,c,h1,r,rfl):=qH n;let(j,h,o,rfl):=iu l;show q i c h1 r j h o
def Mi.nb{d:KL}{g e:Nat}(m:Mi f (a.toList++b.toList) d.toList (a.toList.drop g) (b.toList.drop e))(h:b.size<=e\/a.size<=g):Ok f (a.toList++b.toList) (TS.dn a b d g e).toList:=by rw[Ra];show m.dn λx l y i=>?_;let(j,n,h1,rfl):=iu l;let(j,n,h1,rfl):=iu i;ext
def Mi.l1(t:Two f Z a b){d:KL}{e g:Nat}(m:Mi f (a.toList++b.toList) d.toList (a.toList.drop e) (b.toList.drop g))(h:e+1=a.size):Ok f (a.toList++b.toList) (TS.la a b d e g).toList:=by
 rw[Qv];show m.la λy i x l=>?_;let(j,n,h1,rfl):=iu l;let:j=a.size - 1:=by ext
 subst this;show t.last y (ZP i)
end
end TS
namespace TS
open PySem PyProof.Rows
set_option autoImplicit true
section
variable{Y:Tg}{w:TN}{A:Tv}{E:OK->SS->Prop}{J:SS->Prop}{X:SortKind}{Z:Array Keyed}{f:Keyed->Nat}{a b:KL}
theorem Two.ina(t:Two f Z a b){i:Nat}(h:i<a.size):a[i]∈Z.toList:=t.ma _ (by simp)
theorem Two.inb(t:Two f Z a b){i:Nat}(h:i<b.size):b[i]∈Z.toList:=t.mb _ (by simp)
def T2(f:Keyed->Nat)(a b:KL)(st:SortSt)(n:Nat)(d:Ke)(z:SortSt):Prop:=Ge st z/\((∃r,d.1=M r/\Ok f (a.toList++b.toList) r.toList)\/(d.1=S/\Hd f a b d.2.1 d.2.2.1 d.2.2.2.1/\d.2.2.1+1<a.size/\n<=d.2.2.1+d.2.2.2.1))
abbrev F2(f:Keyed->Nat)(a b:KL)(st:SortSt)(n:Nat)(r:ForInStep Ke)(z:SortSt):Prop:=match r with
 |.done d=>T2 f a b st n d z
 |.yield d=>d.1=S/\T2 f a b st n d z
def DP(t:Two f Z a b){l:KL}{h i g ac bc n:Nat}{st z:SortSt}(e:Ge st z)(m:Mi f (a.toList++b.toList) l.toList (a.toList.drop h) (b.toList.drop i))(h1:h+1<a.size)(o:i<b.size)(k:n<=h+i)
  (q:∀j (p:j<b.size),i<=j->f a[h]<=f b[j]):gu (model Y w) A E J (Qh a b l h i g ac bc) (F2 f a b st n) z:=by
 ext Qh;show ag (a9 (getElem?_pos a h ()) ?_);let m:=m.px () q;by_cases c:h+1+1=a.size
 .rw[ai (by simpa using c)];show aj #[e,.inl #[_,W,m.l1 t c]]
 .rw[ak (by simpa using c)]
  by_cases d:(decide (ac<7)&&decide (bc<7))=U
  .rw[ai d];show aj #[e,.inr #[W,#[m,by ext,o],by show h+1+1<_;ext,by show n<=h+1+i;ext]]
  .rw[ak d];show aj #[W,e,.inr #[W,#[m,by ext,o],by show h+1+1<_;ext,by show n<=h+1+i;ext]]
def Cs(C:Ask Y w A E J X (·∈Z.toList) f)(t:Two f Z a b){o:KL}{l d g ac bc n:Nat}{st z:SortSt}(k:kindOf st=X)(e:Ge st z)(m:Mi f (a.toList++b.toList) o.toList (a.toList.drop l) (b.toList.drop d))(h1:l+1<a.size)(v:d<b.size)(s:n<=l+d)
  (q:∀j (p:j<a.size),l<=j->f b[d]<=f a[j]):gu (model Y w) A E J (Fh a b o l d g ac bc) (F2 f a b st n) z:=by
 ext Fh;show ag (a9 (getElem?_pos b d v) ?_);let m:=m.py v q;by_cases c:d+1=b.size
 .rw[ai (by simpa using c)];show aj #[e,.inl #[_,W,m.nb (.inl ())]]
 .rw[ak (by simpa using c)]
  show ag (a9 (getElem?_pos a l ()) ?_);show ag (lQ C (e.kind.trans k) (t.ina ()) (λi=>decide (if h:d+1+i<b.size then f b[d+1+i]<f a[l]else False)) (λi L=>#[b[d+1+i],t.inb _,getElem?_pos b _ (),?_]) (λi j I p q=>?_) () λk1 k2 k3 k4=>?_)
  .ext Bt;simp only[if_true];show decide_eq_decide.mpr (by rw[dif_pos ()])
  .let q:=a8 q;rw[dif_pos ()]at q;show a6 ?_;rw[dif_pos ()];show WN (t.ys () ()) q
  let H:∀i (L:i<b.size),d+1<=i->i<d+1+k1->f b[i]<f a[l]:=λi L r u=>by
   let:=a8 (k3 (i - (d+1)) ());rw[dif_pos ()]at this;let e:d+1+(i - (d+1))=i:=by ext
   simp only[e]at this;show this
  let F:∀i (L:i<b.size),d+1+k1<=i->f a[l]<=f b[i]:=λi L r=>by
   let:=of_decide_eq_false (k4 (i - (d+1)) () ());rw[dif_pos ()]at this;let e:d+1+(i - (d+1))=i:=by ext
   simp only[e]at this;show Vu this
  dsimp only;by_cases k0:k1>0
  .rw[ai k0]
   let m:=m.ky (k:=k1) λi L r u j p G=>S9 (Uy (H i L r u)) (t.xs G p);by_cases B:d+1+k1=b.size
   .rw[ai (by simpa using B)];show aj #[e,.inl #[_,W,m.nb (.inl ())]]
   .rw[ak (by simpa using B)];show DP t e m h1 () () F
  .rw[ak k0]
   let:k1=0:=by ext
   subst this;show DP t e m h1 () () F
def M7(C:Ask Y w A E J X (·∈Z.toList) f)(t:Two f Z a b){o:KL}{d l g ac bc n:Nat}{st z:SortSt}(k:kindOf st=X)(e:Ge st z)(m:Mi f (a.toList++b.toList) o.toList (a.toList.drop d) (b.toList.drop l))(h1:d+1<a.size)(p:l<b.size)(s:n<=d+l):
  gu (model Y w) A E J (NW a b o d l g ac bc) (F2 f a b st n) z:=by
 ext NW;show ag (mJ e λy e=>?_);show ag (a9 (getElem?_pos b l p) ?_);show ag (lQ C (e.kind.trans k) (t.inb p) (λi=>decide (if h:d+i<a.size then f a[d+i]<=f b[l]else False)) (λi L=>#[a[d+i],t.ina _,getElem?_pos a _ (),?_]) (λi j I u q=>?_) () λk1 k2 k3 k4=>?_)
 .ext Bt;simp only[S4,if_false];show decide_eq_decide.mpr (by rw[dif_pos ()])
 .let q:=a8 q;rw[dif_pos ()]at q;show a6 ?_;rw[dif_pos ()];show S9 (t.xs () ()) q
 let H:∀i (L:i<a.size),d<=i->i<d+k1->f a[i]<=f b[l]:=λi L r v=>by
  let:=a8 (k3 (i - d) ());rw[dif_pos ()]at this;let e:d+(i - d)=i:=by ext
  simp only[e]at this;show this
 let F:∀i (L:i<a.size),d+k1<=i->f b[l]<=f a[i]:=λi L r=>by
  let:=of_decide_eq_false (k4 (i - d) () ());rw[dif_pos ()]at this;let e:d+(i - d)=i:=by ext
  simp only[e]at this;ext
 dsimp only;by_cases k0:k1>0
 .rw[ai k0]
  let m:=m.kx (k:=k1) λi L r v j u G=>S9 (H i L r v) (t.ys G u);by_cases c:d+k1+1=a.size
  .rw[ai (by simpa using c)];show aj #[e,.inl #[_,W,m.l1 t c]]
  .rw[ak (by simpa using c)]
   by_cases B:d+k1=a.size
   .rw[ai (by simpa using B)];show aj #[e,.inl #[_,W,m.nb (.inr ())]]
   .rw[ak (by simpa using B)];show Cs C t k e m () p () F
 .rw[ak k0]
  let:k1=0:=by ext
  subst this;show Cs C t k e m h1 p s F
def NZ(C:Ask Y w A E J X (·∈Z.toList) f)(t:Two f Z a b){q:KL}{h p g ac bc:Nat}{st z:SortSt}(k:kindOf st=X)(e:Ge st z)(m:Mi f (a.toList++b.toList) q.toList (a.toList.drop h) (b.toList.drop p))(h1:h+1<a.size)(u:p<b.size)
  {Q:ForInStep P9->SortSt->Prop} (F:∀r c,Ok f (a.toList++b.toList) r.toList->Q (.done (M r,c)) z)
  (n:∀o i j x y,Hd f a b o i j->i+1<a.size->i+j=h+p+1->Q (.done (S,o,i,j,x,y)) z/\Q (.yield (S,o,i,j,x,y)) z):
  gu (model Y w) A E J (l1 a b g (S,q,h,p,ac,bc)) Q z:=by
 ext l1;dsimp only;let d:h<a.size:=by ext
 show ag (a9 (getElem?_pos b p u) ?_);show ag (a9 (getElem?_pos a h d) ?_);show ag (uw C (t.inb u) (t.ina d) (e.kind.trans k) ?_);dsimp only;by_cases l:f b[p]<f a[h]
 .rw[ai (a6 l)]
  show ag (a9 (getElem?_pos b p u) ?_);let m:=m.py u λj v B=>S9 (Uy l) (t.xs B v);by_cases c:p+1=b.size
  .rw[ai (by simpa using c)];show aj (F _ _ (m.nb (.inl ())))
  .rw[ak (by simpa using c)]
   let n:=λx y=>n _ _ _ x y #[m,d,by ext] h1 ();split
   .show aj (n _ _).1
   .show aj (n _ _).2
 .rw[ak (by simpa using l)]
  show ag (a9 (getElem?_pos a h d) ?_);let m:=m.px d λj v B=>S9 (Vu l) (t.ys B v);by_cases c:h+1+1=a.size
  .rw[ai (by simpa using c)];show aj (F _ _ (m.l1 t c))
  .rw[ak (by simpa using c)]
   let n:=λx y=>n _ _ _ x y #[m,by ext,u] () ();split
   .show aj (n _ _).1
   .show aj (n _ _).2
def MO(C:Ask Y w A E J X (·∈Z.toList) f)(t:Two f Z a b){st:SortSt}(k:kindOf st=X){Q:KL->SortSt->Prop}(h:∀r z,Ge st z->Ok f (a.toList++b.toList) r.toList->Q r z):
  gu (model Y w) A E J (QJ a b) Q st:=by
 rw[KQ];show ag (ju ?_);show ag (a9 (getElem?_pos b 0 t.nb) ?_);let G:Mi f (a.toList++b.toList) (#v[]:KL).toList (a.toList.drop 0) (b.toList.drop 0):=#[by simp,.nil,λp H=>by simp at H,t.sa,t.sb];let m:=G.py t.nb λj M _=>t.first _ (by simp);let nb:=t.nb;let e1:(#v[]:KL).push (b[0])= #v[b[0]]:=W;rw[e1]at m;by_cases c:1=b.size
 .rw[ai (by simpa using c)];show aj (h _ _ .rfl (m.nb (.inl ())))
 rw[ak (by simpa using c)];by_cases c:0+1=a.size
 .rw[ai (by simpa using c)];show aj (h _ _ .rfl (m.l1 t c))
 rw[ak (by simpa using c)];let nb:=t.nb;let K:=t.na;show ag (fu (ag (bi (cG (I:=λx c z=>Ge st z/\c.1=S/\Hd f a b c.2.1 c.2.2.1 c.2.2.2.1/\c.2.2.1+1<a.size/\x+1<=c.2.2.1+c.2.2.2.1)
  (Q:=λc z=>Ge st z/\∃r,c.1=cL r/\Ok f (a.toList++b.toList) r.toList) ?zs ?zf #[.rfl,W,#[m,by show 0<_;ext,by show 1<_;ext],by show 0+1<_;ext,SN _]) ?P)))
 case P=>
  rintro⟨_,c⟩ z ⟨e,r,rfl,o⟩;show aj (h r z e o)
 case zf=>
  rintro c z ⟨e,_,d,h1,l⟩;let:=d.ib;ext
 case zs=>
  rintro x ⟨_,n,v,u,g⟩ z _ B ⟨e,rfl,d,h1,l⟩;dsimp only at d h1 l⊢;ext l0;dsimp only;show ag (bi (cG (I:=λy c z=>Ge st z/\c.1=S/\Hd f a b c.2.1 c.2.2.1 c.2.2.2.1/\c.2.2.1+1<a.size/\y+(x+1)<=c.2.2.1+c.2.2.2.1)
   (Q:=λc z=>Ge st z/\((∃r,c.1=cL r/\Ok f (a.toList++b.toList) r.toList)\/(c.1=S/\Hd f a b c.2.1 c.2.2.1 c.2.2.2.1/\c.2.2.1+1<a.size/\x+1+1<=c.2.2.1+c.2.2.2.1))) ?s1 ?f1 #[e,W,d,h1,by show 0+(x+1)<=v+u;ext]) ?p1)
  case f1=>
   rintro c z ⟨e,_,d,h1,l⟩;let:=d.ib;ext
  case s1=>
   rintro y ⟨_,n,v,u,ac,bc⟩ z _ B ⟨e,rfl,d,h1,l⟩;dsimp only at d h1 l;show NZ C t k e d.mi h1 d.ib (λr c o=>#[e,.inl #[r,W,o]]) λo i j x y d F N=>#[#[e,.inr #[W,d,F,by dsimp only;ext]],#[e,W,d,F,by dsimp only;ext]]
  case p1=>
   rintro⟨_,n,v,u,ac,bc⟩ z ⟨e,⟨r,rfl,o⟩|⟨rfl,d,h1,l⟩⟩
   .show aj #[e,r,W,o]
   dsimp only at d h1 l⊢;show ag (ju ?_);show ag (bi (cG (I:=λy c z=>c.1=S/\T2 f a b st (x+1+1) c z) (Q:=λc z=>T2 f a b st (x+1+1) c z) ?s2 (λc z q=>q.2) #[W,e,.inr #[W,d,h1,l]]) ?p2)
   case s2=>
    rintro y ⟨_,n,v,u,g,ac,bc⟩ z _ B ⟨rfl,e,⟨r,c,_⟩|⟨_,d,h1,l⟩⟩
    .ext c
    dsimp only at d h1 l⊢;let L:=λg=>M7 C t (g:=g) (ac:=ac) (bc:=bc) k e d.mi h1 d.ib l;split
    .show bi (L _) λr z q=>?_;ext r<;>show q
    .show bi (L _) λr z q=>?_;ext r<;>show q
   case p2=>
    rintro⟨_,n,v,u,g,ac,bc⟩ z ⟨e,⟨r,rfl,o⟩|⟨rfl,d,h1,l⟩⟩
    .show aj #[e,r,W,o]
    show ag (mJ e λy e=>aj #[e,W,d,h1,l])
end
end TS
namespace TS
open PySem PyProof.Rows
set_option autoImplicit true
def QE:KL->KL->SM KL:=sortPriv% PySem.Builtin.mergeHi
abbrev HS:=I KL×Nat×Nat×KL×Nat
abbrev Qe:=I KL×Nat×Nat×KL×Nat×Nat
abbrev Nu:=I KL×Nat×Nat×KL×Nat×Nat×Nat
def dh(a b d:KL)(na nb:Nat):KL:=a.extract 0 na++b.extract 0 nb++d.reverse
def fb(a b d:KL)(na nb:Nat):KL:=b.extract 0 nb++a.extract 0 na++d.reverse
def P7(a b d:KL)(na nb g ac bc:Nat):SM (ForInStep Nu):=do
 let x<-elem' a (na - 1)
 if na - 1==0 then pure (.done (M (dh a b (d.push x) (na - 1) nb),na - 1,nb,d.push x,g,ac,bc))
 else if ac<7&&bc<7 then pure (.done (S,na - 1,nb,d.push x,g,ac,bc))else pure (.yield (S,na - 1,nb,d.push x,g,ac,bc))
def Nw(a b d:KL)(na nb g ac bc:Nat):SM (ForInStep Nu):=do
 let y<-elem' b (nb - 1)
 if nb - 1==1 then pure (.done (M (fb a b (d.push y) na (nb - 1)),na,nb - 1,d.push y,g,ac,bc))
 else do
  let x<-elem' a (na - 1)
  match<-JM U x b 0 (nb - 1) (nb - 1 - 1)with
  |some k=>
   if nb - 1 - k>0 then
    if k==1 then pure (.done (M (fb a b (d.push y++(b.extract k (nb - 1)).reverse) na k),na,k,d.push y++(b.extract k (nb - 1)).reverse,g,ac,nb - 1 - k))
    else if k==0 then pure (.done (M (dh a b (d.push y++(b.extract k (nb - 1)).reverse) na k),na,k,d.push y++(b.extract k (nb - 1)).reverse,g,ac,nb - 1 - k))
    else P7 a b (d.push y++(b.extract k (nb - 1)).reverse) na k g ac (nb - 1 - k)
   else P7 a b (d.push y) na (nb - 1) g ac (nb - 1 - k)
  |none=>pure (.done (M (dh a b (d.push y) na (nb - 1)),na,nb - 1,d.push y,g,ac,bc))
def Po(a b d:KL)(na nb g ac bc:Nat):SM (ForInStep Nu):=do
 Aq g
 let y<-elem' b (nb - 1)
 match<-JM SW y a 0 na (na - 1)with
 |some k=>
  if na - k>0 then
   if k==0 then pure (.done (M (dh a b (d++(a.extract k na).reverse) k nb),k,nb,d++(a.extract k na).reverse,g,na - k,bc))
   else Nw a b (d++(a.extract k na).reverse) k nb g (na - k) bc
  else Nw a b d na nb g (na - k) bc
 |none=>pure (.done (M (dh a b d na nb),na,nb,d,g,ac,bc))
def h1(a b:KL)(g:Nat)(c:Qe):SM (ForInStep Qe):=do
 let y<-elem' b (c.2.2.1 - 1)
 let x<-elem' a (c.2.1 - 1)
 match<-lt' y x with
 |some w=>
  if w=U then do
   let x<-elem' a (c.2.1 - 1)
   if c.2.1 - 1==0 then pure (.done (M (dh a b (c.2.2.2.1.push x) (c.2.1 - 1) c.2.2.1),c.2.1 - 1,c.2.2.1,c.2.2.2.1.push x,c.2.2.2.2.1+1,0))
   else if c.2.2.2.2.1+1≥g then pure (.done (S,c.2.1 - 1,c.2.2.1,c.2.2.2.1.push x,c.2.2.2.2.1+1,0))else pure (.yield (S,c.2.1 - 1,c.2.2.1,c.2.2.2.1.push x,c.2.2.2.2.1+1,0))
  else do
   let y<-elem' b (c.2.2.1 - 1)
   if c.2.2.1 - 1==1 then pure (.done (M (fb a b (c.2.2.2.1.push y) c.2.1 (c.2.2.1 - 1)),c.2.1,c.2.2.1 - 1,c.2.2.2.1.push y,0,c.2.2.2.2.2+1))
   else if c.2.2.2.2.2+1≥g then pure (.done (S,c.2.1,c.2.2.1 - 1,c.2.2.2.1.push y,0,c.2.2.2.2.2+1))else pure (.yield (S,c.2.1,c.2.2.1 - 1,c.2.2.2.1.push y,0,c.2.2.2.2.2+1))
 |none=>pure (.done (M (dh a b c.2.2.2.1 c.2.1 c.2.2.1),c.2.1,c.2.2.1,c.2.2.2.1,c.2.2.2.2.1,c.2.2.2.2.2))
def h0(a b:KL)(s:HS):SM (ForInStep HS):=do
 let c<-forIn [0:a.size+b.size] ((S,s.2.1,s.2.2.1,s.2.2.2.1,0,0):Qe) λ_ c=>h1 a b s.2.2.2.2 c
 match c.1 with
 |some r=>pure (.done (M r,c.2.1,c.2.2.1,c.2.2.2.1,s.2.2.2.2))
 |none=>do
  rule "list.sort.gallop"
  let d<-forIn [0:a.size+b.size] ((S,c.2.1,c.2.2.1,c.2.2.2.1,s.2.2.2.2+1,c.2.2.2.2.1,c.2.2.2.2.2):Nu) λ_ d=>
   if d.2.2.2.2.1>1 then Po a b d.2.2.2.1 d.2.1 d.2.2.1 (d.2.2.2.2.1 - 1) d.2.2.2.2.2.1 d.2.2.2.2.2.2 else Po a b d.2.2.2.1 d.2.1 d.2.2.1 d.2.2.2.2.1 d.2.2.2.2.2.1 d.2.2.2.2.2.2
  match d.1 with
  |some r=>pure (.done (M r,d.2.1,d.2.2.1,d.2.2.2.1,d.2.2.2.2.1))
  |none=>do
   Aq (d.2.2.2.2.1+1)
   pure (.yield (S,d.2.1,d.2.2.1,d.2.2.2.1,d.2.2.2.2.1+1))
def Mw(a b:KL):QE a b=(do
 rule "list.sort.merge-hi"
 let x<-elem' a (a.size - 1)
 if(a.size - 1==0)=U then pure (dh a b #v[x] (a.size - 1) b.size)
 else if(b.size==1)=U then pure (fb a b #v[x] (a.size - 1) b.size)
 else do
  let g<-get
  let s<-forIn [0:a.size+b.size] ((S,a.size - 1,b.size,#v[x],gallopOf g):HS) λ_ s=>h0 a b s
  match s.1 with
  |some r=>pure r
  |none=>unsupported "internal:list.sort.merge-bound"):=by
 show(bind _ _:SM KL)=bind _ _;dsimp only;congr 1;funext _u;congr 1;funext y;show ite_congr W (λ_=>W) λ_=>?_;show ite_congr W (λ_=>W) λ_=>?_;congr 1;funext g;congr 1
 .congr 1;funext _x s
  ext h0;congr 1
  .congr 1;funext _x c
   ext h1;congr 1;funext y;congr 1;funext x;congr 1;funext v;cases v with
   |none=>rfl
   |some v=>rfl
  .funext c
   let(r,c):=c;cases r with
   |some r=>rfl
   |none=>
    dsimp only;congr 1;funext _v;congr 1
    .congr 1;funext _x d
     show ite_congr W (λ_=>?_) λ_=>?_
     all_goals
      ext Po;congr 1;funext _z;congr 1;funext y;congr 1;funext k;cases k with
      |none=>rfl
      |some k=>
       dsimp only;show ite_congr W (λ_=>?_) λ_=>?_
       .show ite_congr W (λ_=>W) λ_=>?_
        ext Nw;congr 1;funext y;show ite_congr W (λ_=>W) λ_=>?_;congr 1;funext x;congr 1;funext k1;cases k1 with
        |none=>rfl
        |some k1=>rfl
       .ext Nw;congr 1;funext y
        show ite_congr W (λ_=>W) λ_=>?_;congr 1;funext x;congr 1;funext k1;cases k1 with
        |none=>rfl
        |some k1=>rfl
    .funext d
     let(r,d):=d;cases r with
     |some r=>rfl
     |none=>rfl
 .funext s
  let(r,s):=s;cases r with
  |some r=>rfl
  |none=>rfl
end TS
namespace TS
open PySem PyProof.Rows
set_option autoImplicit true
structure Mh(f:Keyed->Nat)(T o X Y:G Keyed):Prop where
 perm:(X++Y++o).Perm T
 so:o.Pairwise (Le f)
 bd:∀z,z∈X\/z∈Y->∀p∈o,f z<=f p
 sx:X.Pairwise (Le f)
 sy:Y.Pairwise (Le f)
section
variable{f:Keyed->Nat}{T o X Y P:cb Keyed}
theorem Mh.swap(m:Mh f T o X Y):Mh f T o Y X where
 perm:=(aii o Xx).trans m.perm
 so:=m.so
 bd:=λz a=>m.bd z a.symm
 sx:=m.sy
 sy:=m.sx
theorem Mh.y(m:Mh f T o X (Y++P))(h:∀x∈X,∀p∈P,f x<=f p):Mh f T (P++o) X Y where
 perm:=by let:=m.perm;simpa only[Tz]using this
 so:=T4.mpr #[(T4.mp m.sy).2.1,m.so,λp b z a=>m.bd p (.inr (Tw _ b)) z a]
 bd:=λz a p b=>by
  rcases Th.mp b with q|q
  .rcases a with a|a
   .show h z a p q
   .show(T4.mp m.sy).2.2 z a p q
  .show m.bd z (a.imp id (Uk _)) p q
 sx:=m.sx
 sy:=(T4.mp m.sy).1
theorem Mh.x(m:Mh f T o (X++P) Y)(h:∀y∈Y,∀p∈P,f y<=f p):Mh f T (P++o) X Y:=(m.swap.y h).swap
theorem Mh.dn(m:Mh f T o X Y)(h:∀x∈X,∀y∈Y,f x<=f y):Ok f T (X++Y++o) where
 perm:=m.perm
 so:=T4.mpr #[T4.mpr #[m.sx,m.sy,h],m.so,λp b z a=>m.bd p (Th.mp b) z a]
end
section
variable{Y:Tg}{w:TN}{A:Tv}{E:OK->SS->Prop}{J:SS->Prop}{X:SortKind}{Z:Array Keyed}{f:Keyed->Nat}{a b:KL}
abbrev MH(f:Keyed->Nat)(a b d:KL)(na nb:Nat):Prop:=Mh f (a.toList++b.toList) d.toList.reverse (a.toList.take na) (b.toList.take nb)
def Il(i:Nat):(a.extract 0 i).toList=a.toList.take i:=by rw[pf];simp
def Qy(d:KL)(na nb:Nat):(dh a b d na nb).toList=a.toList.take na++b.toList.take nb++d.toList.reverse:=by ext dh;rw[Ug,Ug,Il,Il,Wu]
def Qu(d:KL)(na nb:Nat):(fb a b d na nb).toList=b.toList.take nb++a.toList.take na++d.toList.reverse:=by ext fb;rw[Ug,Ug,Il,Il,Wu]
def Bv{i:Nat}(h0:0<i)(h:i<=a.size):a.toList.take i=a.toList.take (i - 1)++[a[i - 1]]:=by let:=UO (l:=a.toList) (i:=i - 1) (by simp;ext);rw[show i - 1+1=i by ext]at this;rw[this];simp
def BC{i k:Nat}(h:k<=i):a.toList.take i=a.toList.take k++(a.toList.drop k).take (i - k):=by
 let:i=k+(i - k):=by ext
 conv=>lhs;rw[this]
 show List.take_add
def Mh.px{d:KL}{na nb:Nat}(m:MH f a b d na nb)(h0:0<na)(h:na<=a.size)(q:∀j (e:j<b.size),j<nb->f b[j]<=f a[na - 1]):MH f a b (d.push a[na - 1]) (na - 1) nb:=by unfold MH at m⊢;rw[Bv h0 h]at m;rw[V9,VZ];show Mh.x m λy g p i=>?_;rw[S6.mp i];let(j,e,h1,rfl):=hV g;show q j e h1
def Mh.py{d:KL}{na nb:Nat}(m:MH f a b d na nb)(h0:0<nb)(h:nb<=b.size)(q:∀j (e:j<a.size),j<na->f a[j]<=f b[nb - 1]):MH f a b (d.push b[nb - 1]) na (nb - 1):=by unfold MH at m⊢;rw[Bv h0 h]at m;rw[V9,VZ];show Mh.y m λy g p i=>?_;rw[S6.mp i];let(j,e,h1,rfl):=hV g;show q j e h1
def Mh.kx{d:KL}{na nb k:Nat}(m:MH f a b d na nb)(h:k<=na)(q:∀i (c:i<a.size),k<=i->i<na->∀j (e:j<b.size),j<nb->f b[j]<=f a[i]):MH f a b (d++(a.extract k na).reverse) k nb:=by unfold MH at m⊢;rw[BC h]at m;rw[Ug,Wu,VZ,ZQ,pf];show Mh.x m λy g p l=>?_;let(i,c,h1,o,rfl):=qH l;let(j,e,n,rfl):=hV g;show q i c h1 () j e n
def Mh.ky{d:KL}{na nb k:Nat}(m:MH f a b d na nb)(h:k<=nb)(q:∀i (c:i<b.size),k<=i->i<nb->∀j (e:j<a.size),j<na->f a[j]<=f b[i]):MH f a b (d++(b.extract k nb).reverse) na k:=by unfold MH at m⊢;rw[BC h]at m;rw[Ug,Wu,VZ,ZQ,pf];show Mh.y m λy g p l=>?_;let(i,c,h1,o,rfl):=qH l;let(j,e,n,rfl):=hV g;show q i c h1 () j e n
def Mh.nb{d:KL}{na nb:Nat}(m:MH f a b d na nb)(h:na=0\/nb=0):Ok f (a.toList++b.toList) (dh a b d na nb).toList:=by rw[Qy];show Mh.dn m λx g y e=>?_;let(j,l,h1,rfl):=hV g;let(i,o,n,rfl):=hV e;ext
def Mh.l1(t:Two f Z a b){d:KL}{na nb:Nat}(m:MH f a b d na nb)(h:nb=1):Ok f (a.toList++b.toList) (fb a b d na nb).toList:=by
 rw[Qu];show m.swap.dn λy e x g=>?_;let(j,i,h1,rfl):=hV e;let:j=0:=by ext
 subst this;show t.first x (Wx g)
structure Hh(f:Keyed->Nat)(a b out:KL)(na nb:Nat):Prop where
 mi:MH f a b out na nb
 a0:0<na
 a1:na<=a.size
 b0:1<nb
 b1:nb<=b.size
def U2(f:Keyed->Nat)(a b:KL)(st:SortSt)(n:Nat)(d:Nu)(z:SortSt):Prop:=Ge st z/\((∃r,d.1=M r/\Ok f (a.toList++b.toList) r.toList)\/(d.1=S/\Hh f a b d.2.2.2.1 d.2.1 d.2.2.1/\d.2.1+d.2.2.1<=n))
abbrev G2(f:Keyed->Nat)(a b:KL)(st:SortSt)(n:Nat)(r:ForInStep Nu)(z:SortSt):Prop:=match r with
 |.done d=>U2 f a b st n d z
 |.yield d=>d.1=S/\U2 f a b st n d z
def E5(t:Two f Z a b){h:KL}{na nb g ac bc n:Nat}{st z:SortSt}(e:Ge st z)(m:Hh f a b h na nb)(k:na+nb<=n)(r:na - 1<a.size)
  (q:∀j (u:j<b.size),j<nb->f b[j]<=f a[na - 1]):gu (model Y w) A E J (P7 a b h na nb g ac bc) (G2 f a b st n) z:=by
 let(m,p,o,l,i):=m;ext P7;show ag (a9 (getElem?_pos a (na - 1) ()) ?_);let m:=m.px p o q;by_cases c:na - 1=0
 .rw[ai (by simpa using c)];show aj #[e,.inl #[_,W,m.nb (.inl c)]]
 .rw[ak (by simpa using c)]
  by_cases d:(decide (ac<7)&&decide (bc<7))=U
  .rw[ai d];show aj #[e,.inr #[W,#[m,by dsimp only;ext,by dsimp only;ext,l,i],by dsimp only;ext]]
  .rw[ak d];show aj #[W,e,.inr #[W,#[m,by dsimp only;ext,by dsimp only;ext,l,i],by dsimp only;ext]]
def Cm(C:Ask Y w A E J X (·∈Z.toList) f)(t:Two f Z a b){d:KL}{na nb g ac bc n:Nat}{st z:SortSt}(k:kindOf st=X)(e:Ge st z)(m:Hh f a b d na nb)(s:na+nb<=n)(K:nb - 1<b.size)
  (q:∀j (u:j<a.size),j<na->f a[j]<=f b[nb - 1]):gu (model Y w) A E J (Nw a b d na nb g ac bc) (G2 f a b st n) z:=by
 let(m,B,v,M,G):=m;ext Nw;show ag (a9 (getElem?_pos b (nb - 1) ()) ?_);let m:=m.py () G q;by_cases c:nb - 1=1
 .rw[ai (by simpa using c)];show aj #[e,.inl #[_,W,m.l1 t c]]
 .rw[ak (by simpa using c)]
  show ag (a9 (getElem?_pos a (na - 1) ()) ?_);show ag (lQ C (e.kind.trans k) (t.ina ()) (λi=>decide (if h:i<b.size then f b[i]<f a[na - 1]else False)) (λi N=>#[b[i],t.inb _,by rw[WD];show getElem?_pos b _ (),?_]) (λi j I u q=>?_) () λk1 k2 k3 k4=>?_)
  .ext Bt;simp only[if_true];show decide_eq_decide.mpr (by rw[dif_pos ()])
  .let q:=a8 q;rw[dif_pos ()]at q;show a6 ?_;rw[dif_pos ()];show WN (t.ys () ()) q
  let F:∀i (N:i<b.size),i<k1->f b[i]<=f a[na - 1]:=λi N l=>by let:=a8 (k3 i l);rw[dif_pos ()]at this;show Uy this
  let H:∀i (N:i<b.size),k1<=i->i<nb - 1->f a[na - 1]<=f b[i]:=λi N o l=>by let:=of_decide_eq_false (k4 i o l);rw[dif_pos ()]at this;show Vu this
  dsimp only;by_cases k0:nb - 1 - k1>0
  .rw[ai k0]
   let m:=m.ky (k:=k1) k2 λi N o l j u L=>S9 (t.xs (j:=na - 1) () ()) (H i N o l);by_cases r:k1=1
   .rw[ai (by simpa using r)];show aj #[e,.inl #[_,W,m.l1 t r]]
   .rw[ak (by simpa using r)]
    by_cases p:k1=0
    .rw[ai (by simpa using p)];show aj #[e,.inl #[_,W,m.nb (.inr p)]]
    .rw[ak (by simpa using p)];show E5 t e #[m,B,v,by ext,by ext] () () F
  .rw[ak k0]
   let:k1=nb - 1:=by ext
   subst this;show E5 t e #[m,B,v,by ext,by ext] () () F
def K7(C:Ask Y w A E J X (·∈Z.toList) f)(t:Two f Z a b){d:KL}{na nb g ac bc n:Nat}{st z:SortSt}(k:kindOf st=X)(e:Ge st z)(m:Hh f a b d na nb)(s:na+nb<=n):
  gu (model Y w) A E J (Po a b d na nb g ac bc) (G2 f a b st n) z:=by
 let(m,F,B,r,p):=m;ext Po;show ag (mJ e λy e=>?_);show ag (a9 (getElem?_pos b (nb - 1) ()) ?_);show ag (lQ C (e.kind.trans k) (t.inb ()) (λi=>decide (if h:i<a.size then f a[i]<=f b[nb - 1]else False)) (λi L=>#[a[i],t.ina _,by rw[WD];show getElem?_pos a _ (),?_]) (λi j H v q=>?_) () λk1 k2 k3 k4=>?_)
 .ext Bt;simp only[S4,if_false];show decide_eq_decide.mpr (by rw[dif_pos ()])
 .let q:=a8 q;rw[dif_pos ()]at q;show a6 ?_;rw[dif_pos ()];show S9 (t.xs () ()) q
 let u:∀i (L:i<a.size),i<k1->f a[i]<=f b[nb - 1]:=λi L l=>by let:=a8 (k3 i l);rw[dif_pos ()]at this;show this
 let G:∀i (L:i<a.size),k1<=i->i<na->f b[nb - 1]<=f a[i]:=λi L o l=>by let:=of_decide_eq_false (k4 i o l);rw[dif_pos ()]at this;ext
 dsimp only;by_cases k0:na - k1>0
 .rw[ai k0]
  let m:=m.kx (k:=k1) k2 λi L o l j v I=>S9 (t.ys (j:=nb - 1) () ()) (G i L o l);by_cases c:k1=0
  .rw[ai (by simpa using c)];show aj #[e,.inl #[_,W,m.nb (.inl c)]]
  .rw[ak (by simpa using c)];show Cm C t k e #[m,by ext,by ext,r,p] () () u
 .rw[ak k0]
  let:k1=na:=by ext
  subst this;show Cm C t k e #[m,F,B,r,p] s () u
def Oz(C:Ask Y w A E J X (·∈Z.toList) f)(t:Two f Z a b){p:KL}{na nb g ac bc:Nat}{st z:SortSt}(k:kindOf st=X)(e:Ge st z)(m:Hh f a b p na nb)
  {Q:ForInStep Qe->SortSt->Prop} (q:∀r c,Ok f (a.toList++b.toList) r.toList->Q (.done (M r,c)) z)
  (n:∀o i j x y,Hh f a b o i j->i+j+1=na+nb->Q (.done (S,i,j,o,x,y)) z/\Q (.yield (S,i,j,o,x,y)) z):
  gu (model Y w) A E J (h1 a b g (S,na,nb,p,ac,bc)) Q z:=by
 let(m,B,v,H,u):=m;ext h1;dsimp only;let h:na - 1<a.size:=by ext
 let d:nb - 1<b.size:=by ext
 show ag (a9 (getElem?_pos b (nb - 1) d) ?_);show ag (a9 (getElem?_pos a (na - 1) h) ?_);show ag (uw C (t.inb d) (t.ina h) (e.kind.trans k) ?_);dsimp only;by_cases l:f b[nb - 1]<f a[na - 1]
 .rw[ai (a6 l)]
  show ag (a9 (getElem?_pos a (na - 1) h) ?_);let m:=m.px B v λj F G=>S9 (t.ys () d) (Uy l);by_cases c:na - 1=0
  .rw[ai (by simpa using c)];show aj (q _ _ (m.nb (.inl c)))
  .rw[ak (by simpa using c)]
   let n:=λx y=>n _ _ _ x y #[m,by ext,by ext,H,u] ();split
   .show aj (n _ _).1
   .show aj (n _ _).2
 .rw[ak (by simpa using l)]
  show ag (a9 (getElem?_pos b (nb - 1) d) ?_);let m:=m.py () u λj F G=>S9 (t.xs () h) (Vu l);by_cases c:nb - 1=1
  .rw[ai (by simpa using c)];show aj (q _ _ (m.l1 t c))
  .rw[ak (by simpa using c)]
   let n:=λx y=>n _ _ _ x y #[m,B,v,by ext,by ext] ();split
   .show aj (n _ _).1
   .show aj (n _ _).2
def J3(C:Ask Y w A E J X (·∈Z.toList) f)(t:Two f Z a b){st:SortSt}(k:kindOf st=X){Q:KL->SortSt->Prop}(h:∀r z,Ge st z->Ok f (a.toList++b.toList) r.toList->Q r z):
  gu (model Y w) A E J (QE a b) Q st:=by
 rw[Mw];let nb:=t.nb;let u:=t.na;show ag (ju ?_);show ag (a9 (getElem?_pos a (a.size - 1) ()) ?_);let P:a.toList.take a.size=a.toList:=Ur (by simp);let N:b.toList.take b.size=b.toList:=Ur (by simp);let B:MH f a b (#v[]:KL) a.size b.size:=#[by rw[P,N];simp,.nil,λz _ p F=>by simp at F,by rw[P];show t.sa,by rw[N];show t.sb];let m:=B.px u (SN _) λj G _=>t.last _ (by simp);let e1:(#v[]:KL).push (a[a.size - 1])= #v[a[a.size - 1]]:=W;rw[e1]at m;by_cases c:a.size - 1=0
 .rw[ai (by simpa using c)];show aj (h _ _ .rfl (m.nb (.inl c)))
 rw[ak (by simpa using c)];by_cases c:b.size=1
 .rw[ai (by simpa using c)];show aj (h _ _ .rfl (m.l1 t c))
 rw[ak (by simpa using c)];show ag (fu (ag (bi (cG (I:=λx c z=>Ge st z/\c.1=S/\Hh f a b c.2.2.2.1 c.2.1 c.2.2.1/\c.2.1+c.2.2.1+x+1<=a.size+b.size)
  (Q:=λc z=>Ge st z/\∃r,c.1=M r/\Ok f (a.toList++b.toList) r.toList) ?zs ?zf #[.rfl,W,#[m,by dsimp only;ext,by dsimp only;ext,by dsimp only;ext,SN _],by dsimp only;ext]) ?zp)))
 case zp=>
  rintro⟨_,c⟩ z ⟨e,r,rfl,o⟩;show aj (h r z e o)
 case zf=>
  rintro c z ⟨e,_,d,l⟩;let:=d.b0;ext
 case zs=>
  rintro x ⟨_,u,nb,n,g⟩ z _ v ⟨e,rfl,d,l⟩;dsimp only at d l⊢;ext h0;dsimp only;show ag (bi (cG (I:=λy c z=>Ge st z/\c.1=S/\Hh f a b c.2.2.2.1 c.2.1 c.2.2.1/\c.2.1+c.2.2.1+y+(x+1)<=a.size+b.size)
   (Q:=λc z=>Ge st z/\((∃r,c.1=M r/\Ok f (a.toList++b.toList) r.toList)\/(c.1=S/\Hh f a b c.2.2.2.1 c.2.1 c.2.2.1/\c.2.1+c.2.2.1<=a.size+b.size - (x+1+1)))) ?s1 ?f1 #[e,W,d,by dsimp only;ext]) ?p1)
  case f1=>
   rintro c z ⟨e,_,d,l⟩;let:=d.b0;ext
  case s1=>
   rintro y ⟨_,u,nb,n,ac,bc⟩ z _ v ⟨e,rfl,d,l⟩;dsimp only at d l;show Oz C t k e d (λr c o=>#[e,.inl #[r,W,o]]) λo i j x y d H=>#[#[e,.inr #[W,d,by dsimp only;ext]],#[e,W,d,by dsimp only;ext]]
  case p1=>
   rintro⟨_,u,nb,n,ac,bc⟩ z ⟨e,⟨r,rfl,o⟩|⟨rfl,d,l⟩⟩
   .show aj #[e,r,W,o]
   dsimp only at d l⊢;show ag (ju ?_);show ag (bi (cG (I:=λy c z=>c.1=S/\U2 f a b st (a.size+b.size - (x+1+1)) c z) (Q:=λc z=>U2 f a b st (a.size+b.size - (x+1+1)) c z) ?s2 (λc z q=>q.2) #[W,e,.inr #[W,d,l]]) ?p2)
   case s2=>
    rintro y ⟨_,u,nb,n,g,ac,bc⟩ z _ v ⟨rfl,e,⟨r,c,_⟩|⟨_,d,l⟩⟩
    .ext c
    dsimp only at d l⊢;let L:=λg=>K7 C t (g:=g) (ac:=ac) (bc:=bc) k e d l;split
    .show bi (L _) λr z q=>?_;ext r<;>show q
    .show bi (L _) λr z q=>?_;ext r<;>show q
   case p2=>
    rintro⟨_,u,nb,n,g,ac,bc⟩ z ⟨e,⟨r,rfl,o⟩|⟨rfl,d,l⟩⟩
    .show aj #[e,r,W,o]
    dsimp only at d l;let:=d.b0;show ag (mJ e λy e=>aj #[e,W,d,by dsimp only;ext])
end
end TS
namespace TS
open PySem PyProof.Rows
set_option autoImplicit true
def cA(lo a n:Nat):SM (I (I Nat)×Nat):=
 forIn [a:n] ((S,a):I (I Nat)×Nat) λ_ c=>do
  match<-ltAt' (lo+c.2) (lo+c.2 - 1)with
  |some s=>if s=U then pure (.done (S,c.2))else pure (.yield (S,c.2+1))
  |none=>pure (.done (M S,c.2))
def cC(lo a n:Nat):SM (I Nat):=do
 reverseSlice' lo (lo+a)
 let c<-cA lo a n
 match c.1 with
 |some r=>pure r
 |none=>pure (M c.2)
def cD(lo a n:Nat):SM (I (I Nat)×Nat×Nat):=
 forIn [a:n] ((S,a,0):I (I Nat)×Nat×Nat) λ_ c=>do
  match<-ltAt' (lo+c.2.1) (lo+c.2.1 - 1)with
  |some s=>
   if s=U then
    if c.2.2>0 then do
     reverseSlice' (lo+c.2.1 - (c.2.2+1)) (lo+c.2.1)
     pure (.yield (S,c.2.1+1,0))
    else pure (.yield (S,c.2.1+1,0))
   else do
    match<-ltAt' (lo+c.2.1 - 1) (lo+c.2.1)with
    |some g=>if g=U then pure (.done (S,c.2.1,c.2.2))else pure (.yield (S,c.2.1+1,c.2.2+1))
    |none=>pure (.done (M S,c.2.1,c.2.2))
  |none=>pure (.done (M S,c.2.1,c.2.2))
def cB(lo a n:Nat):SM (I Nat):=do
 rule "list.sort.descending-run"
 let c<-cD lo (a+1) n
 match c.1 with
 |some r=>pure r
 |none=>
  if c.2.2>0 then do
   reverseSlice' (lo+c.2.1 - (c.2.2+1)) (lo+c.2.1)
   cC lo c.2.1 n
  else cC lo c.2.1 n
def bc{α d:Type}{m a:SM α}{k b:α->SM d}(h:m=a)(q:∀x,k x=b x):m>>=k=a>>=b:=by subst h;congr 1;funext x;show q x
def Ou(lo n:Nat):countRun' lo n=(do
  let c<-cA lo 1 n
  match c.1 with
  |some r=>pure r
  |none=>
   if(c.2==n)=U then pure (M c.2)
   else if c.2>1 then do
    match<-ltAt' lo (lo+c.2 - 1)with
    |some s=>if s=U then pure (M c.2)else do
      reverseSlice' lo (lo+c.2)
      cB lo c.2 n
    |none=>pure S
   else cB lo c.2 n):=by
 rw[countRun'_eq];dsimp only;show bc (by ext cA;congr 1;funext _x c;show bc W λv=>?_;ext v<;>rfl) λc=>?_;let(r,a):=c;cases r with
 |some r=>rfl
 |none=>
  dsimp only;show ite_congr W (λ_=>W) λ_=>?_;show ite_congr W (λ_=>bc W λv=>?_) λ_=>?_
  .cases v with
   |none=>rfl
   |some v=>
    show ite_congr W (λ_=>W) λ_=>bc W λ_=>?_;unfold cB cC;show bc W λ_=>bc (by ext cD;congr 1;funext _x c;show bc W λv=>?_;cases v with|none=>rfl|some v=>show ite_congr W (λ_=>W) λ_=>bc W λv=>by ext v<;>rfl) λd=>?_;let(r,d,q):=d;cases r with
    |some r=>rfl
    |none=>
     dsimp only;show ite_congr W (λ_=>bc W λ_=>bc W λ_=>bc (by ext cA;congr 1;funext _x c;show bc W λv=>?_;ext v<;>rfl) λe=>?_) λ_=>bc W λ_=>bc (by ext cA;congr 1;funext _x c;show bc W λv=>?_;ext v<;>rfl) λe=>?_
     .let(r,e):=e;ext r<;>rfl
     .let(r,e):=e;ext r<;>rfl
  .unfold cB cC
   show bc W λ_=>bc (by ext cD;congr 1;funext _x c;show bc W λv=>?_;cases v with|none=>rfl|some v=>show ite_congr W (λ_=>W) λ_=>bc W λv=>by ext v<;>rfl) λd=>?_;let(r,d,q):=d;cases r with
   |some r=>rfl
   |none=>
    dsimp only;show ite_congr W (λ_=>bc W λ_=>bc W λ_=>bc (by ext cA;congr 1;funext _x c;show bc W λv=>?_;ext v<;>rfl) λe=>?_) λ_=>bc W λ_=>bc (by ext cA;congr 1;funext _x c;show bc W λv=>?_;ext v<;>rfl) λe=>?_
    .let(r,e):=e;ext r<;>rfl
    .let(r,e):=e;ext r<;>rfl
section
variable{Y:Tg}{w:TN}{A:Tv}{E:OK->SS->Prop}{J:SS->Prop}{X:SortKind}{Z:Array Keyed}{f:Keyed->Nat}
def Fa(f:Keyed->Nat)(xs:Array Keyed)(a b:Nat):Prop:=∀i j,a<=i->i<=j->j<b->R f xs j<=R f xs i
def kt{xs:Array Keyed}{i j:Nat}(a:j<=xs.size)(h:∀k,i<=k->k<j->R f xs k=R f xs (j - 1))(k:Nat):
  R f (mirror xs i j ((j - i)/2)) k=R f xs k:=by
 rw[oU a];split
 .rw[h _ () (),h k () ()]
 .rfl
def Jq(C:Ask Y w A E J X (·∈Z.toList) f){st:SortSt}{lo a n:Nat}{Q:cc (cc Nat)×Nat->SortSt->Prop}(y:lo+n<=Z.size)(h1:1<=a)(t:a<=n)(g:Gd X Z st)(p:So f (arrOf st) lo (lo+a))
  (h:∀m,a<=m->m<=n->So f (arrOf st) lo (lo+m)->(m=n\/R f (arrOf st) (lo+m)<R f (arrOf st) (lo+m - 1))->Q (S,m) st):
  gu (model Y w) A E J (cA lo a n) Q st:=by
 ext cA;show cG (I:=λx c z=>z=st/\c=(S,x)/\So f (arrOf st) lo (lo+x)) ?s ?f #[W,W,p]
 case f=>
  rintro c z ⟨rfl,rfl,k⟩;rw[show max a n=n by ext]at k⊢;show h n t (SN _) k (.inl W)
 case s=>
  rintro x c z r u ⟨rfl,rfl,k⟩;dsimp only;show ag (kN C g () () ?_);by_cases l:R f (arrOf z) (lo+x)<R f (arrOf z) (lo+x - 1)
  .simp only[l,decide_true,if_true];show aj (h x r () k (.inr l))
  .simp only[l,decide_false,S4,if_false]
   show aj #[W,W,λi j b o v=>?_];by_cases q:j<lo+x
   .show k i j b o q
   .let e:j=lo+x:=by ext
    subst e;by_cases d:i=lo+x
    .rw[d];show SN _
    .show S9 (k i (lo+x - 1) b () ()) (Vu l)
def Jb(C:Ask Y w A E J X (·∈Z.toList) f){st z:SortSt}{lo a n:Nat}{Q:I Nat->SortSt->Prop}(c:lo+n<=Z.size)(h1:1<=a)(g:a<=n)(u:Up X Z f lo st z)(e:Fa f (arrOf z) lo (lo+a))
  (h:∀m y,Up X Z f lo st y->1<=m->m<=n->So f (arrOf y) lo (lo+m)->Q (M m) y):gu (model Y w) A E J (cC lo a n) Q z:=by
 ext cC;show ag (rE ?_);let b:=u.mir (i:=lo) (j:=lo+a) (SN _) ();show ag (Jq C c h1 g b.gd (λi j p o l=>?_) λm q d k _=>aj (h m _ b () d k));show R f (mirror (arrOf z) lo (lo+a) _) i<=R f (mirror (arrOf z) lo (lo+a) _) j;let sz:lo+a<=(arrOf z).size:=by rw[u.gd.size];ext
 rw[oU sz,oU sz,ai (),ai ()];show e _ _ () () ()
def Ow(C:Ask Y w A E J X (·∈Z.toList) f){st z:SortSt}{lo a n:Nat}{Q:cc (cc Nat)×Nat×Nat->SortSt->Prop}(D:lo+n<=Z.size)(h1:1<=a)(B:a<=n)(u:Up X Z f lo st z)(t:Fa f (arrOf z) lo (lo+a))
  (h:∀m q y,Up X Z f lo st y->a<=m->m<=n->Fa f (arrOf y) lo (lo+m)->q+1<=m->(∀i,lo+m - (q+1)<=i->i<lo+m->R f (arrOf y) i=R f (arrOf y) (lo+m - 1))->Q (S,m,q) y):
  gu (model Y w) A E J (cD lo a n) Q z:=by
 ext cD;show cG (I:=λx c y=>∃q,c=(S,x,q)/\Up X Z f lo st y/\Fa f (arrOf y) lo (lo+x)/\q+1<=x/\
   (∀i,lo+x - (q+1)<=i->i<lo+x->R f (arrOf y) i=R f (arrOf y) (lo+x - 1))) ?s ?f #[0,W,u,t,by ext,λi b d=>by congr 1;ext]
 case f=>
  rintro c y ⟨q,rfl,u,k,N,L⟩;rw[show max a n=n by ext]at k N L⊢;show h n q y u B (SN _) k N L
 case s=>
  rintro x c y v F ⟨q,rfl,u,k,N,L⟩;dsimp only;let sz:lo+x<=(arrOf y).size:=by rw[u.gd.size];ext
  show ag (kN C u.gd () () ?_);by_cases l:R f (arrOf y) (lo+x)<R f (arrOf y) (lo+x - 1)
  .simp only[l,decide_true,if_true]
   let one:∀xs:Array Keyed,(∀k,R f xs k=R f (arrOf y) k)->Fa f xs lo (lo+(x+1)):=by
    intro xs e i j b d r;rw[e,e];by_cases c:j<lo+x
    .show k i j b d c
    .let e:j=lo+x:=by ext
     subst e;by_cases g:i=lo+x
     .rw[g];show SN _
     .show S9 (Uy l) (k i (lo+x - 1) b () ())
   by_cases c:q>0
   .rw[ai c];show ag (rE (aj #[0,W,u.mir () (),one _ (kt sz L),by ext,λi b d=>by congr 1;ext]))
   .rw[ak c];show aj #[0,W,u,one _ (λ_=>W),by ext,λi b d=>by congr 1;ext]
  .simp only[l,decide_false,S4,if_false]
   show ag (kN C u.gd () () ?_);by_cases o:R f (arrOf y) (lo+x - 1)<R f (arrOf y) (lo+x)
   .simp only[o,decide_true,if_true];show aj (h x q y u v () k N L)
   .simp only[o,decide_false,S4,if_false]
    let p:R f (arrOf y) (lo+x)=R f (arrOf y) (lo+x - 1):=by ext
    show aj #[q+1,W,u,λi j b d r=>?_,by ext,λi b d=>?_]
    .by_cases c:j<lo+x
     .show k i j b d c
     .let e:j=lo+x:=by ext
      subst e;by_cases g:i=lo+x
      .rw[g];show SN _
      .rw[p];show k i _ b () ()
    .rw[show lo+(x+1) - 1=lo+x by ext]
     by_cases c:i=lo+x
     .rw[c]
     .rw[p];show L i () ()
def Jh(C:Ask Y w A E J X (·∈Z.toList) f){st z:SortSt}{lo a n:Nat}{Q:I Nat->SortSt->Prop}(s:lo+n<=Z.size)(p:a+1<=n)(u:Up X Z f lo st z)(o:Fa f (arrOf z) lo (lo+(a+1)))
  (h:∀m y,Up X Z f lo st y->1<=m->m<=n->So f (arrOf y) lo (lo+m)->Q (M m) y):gu (model Y w) A E J (cB lo a n) Q z:=by
 ext cB;show ag (ju ?_);show ag (Ow C s () p u o λm q y u t d k r b=>?_);dsimp only;let sz:lo+m<=(arrOf y).size:=by rw[u.gd.size];ext
 by_cases c:q>0
 .rw[ai c];show ag (rE (Jb C s () d (u.mir () ()) (λi j l g e=>?_) h));show R f (mirror (arrOf y) _ _ _) j<=R f (mirror (arrOf y) _ _ _) i;rw[kt sz b,kt sz b];show k i j l g e
 .rw[ak c];show Jb C s () d u k h
def PJ(C:Ask Y w A E J X (·∈Z.toList) f){st:SortSt}{lo n:Nat}{Q:I Nat->SortSt->Prop}(s:lo+n<=Z.size)(h1:1<=n)(g:Gd X Z st)
  (h:∀m y,Up X Z f lo st y->1<=m->m<=n->So f (arrOf y) lo (lo+m)->Q (M m) y):gu (model Y w) A E J (countRun' lo n) Q st:=by
 rw[Ou];let u:Up X Z f lo st st:=.rfl g;show ag (Jq C s (SN 1) h1 g (λi j a d q=>by rw[show i=j by ext];show SN _) λm v t k o=>?_);dsimp only;by_cases c:m=n
 .rw[ai (by simpa using c)];show aj (h m st u v t k)
 .rw[ak (by simpa using c)]
  let l:=o.resolve_left c;by_cases z:m>1
  .rw[ai z]
   show ag (kN C g () () ?_);by_cases r:R f (arrOf st) lo<R f (arrOf st) (lo+m - 1)
   .simp only[r,decide_true,if_true];show aj (h m st u v t k)
   .simp only[r,decide_false,S4,if_false]
    let sz:lo+m<=(arrOf st).size:=by rw[g.size];ext
    let b:∀i,lo<=i->i<lo+m->R f (arrOf st) i=R f (arrOf st) (lo+m - 1):=λi a d=>by let G:=k lo i (SN _) a d;let F:=k i (lo+m - 1) a () ();ext
    show ag (rE (Jh C s () (u.mir (SN _) ()) (λi j a d q=>?_) h));show R f (mirror (arrOf st) _ _ _) j<=R f (mirror (arrOf st) _ _ _) i;rw[kt sz b,kt sz b];by_cases B:j<lo+m
    .rw[b i () (),b j () B];show SN _
    .let e:j=lo+m:=by ext
     subst e;by_cases p:i=lo+m
     .rw[p];show SN _
     .rw[b i a ()];show Uy l
  .rw[ak z]
   let e:m=1:=by ext
   subst e;show Jh C s () u (λi j a d q=>?_) h;by_cases p:i=j
   .rw[p];show SN _
   .let e1:i=lo:=by ext
    let e2:j=lo+1:=by ext
    rw[e1,e2];show Uy l
end
end TS
namespace TS
open PySem PyProof.Rows
set_option autoImplicit true
def vK(xs:Array Keyed)(s:Nat)(l:G Keyed):Array Keyed:=l.zipIdx.foldl (λa (p,j)=>a.setIfInBounds (s+j) p) xs
theorem Ki(i:Nat):mergeAt' i=(do
 let s<-get
 let(M (sa,na,power),M (sb,nb,_)):=((pendingOf s)[i]?,(pendingOf s)[i+1]?)|unsupported "internal:list.sort.pending"
 set (setPending s (((pendingOf s).setIfInBounds i (sa,na+nb,power)).eraseIdxIfInBounds (i+1)))
 let M k<-JM SW (<-elem' (arrOf s) sb) (arrOf s) sa na 0|return SW
 let(sa,na):=(sa+k,na - k)
 if na==0 then return U
 let M nb<-JM U (<-elem' (arrOf s) (sa+na - 1)) (arrOf s) sb nb (nb - 1)|return SW
 if nb==0 then return U
 let x:=(arrOf s).extract sa sb
 let y:=(arrOf s).extract sb (sb+nb)
 let merged<-if na<=nb then QJ x y else QE x y
 modify λs=>setArr s (vK (arrOf s) sa merged.toList)
 return(failedOf (<-get)).isNone):=W
theorem Ec:∀(l:G Keyed) (xs:Array Keyed) (s n:Nat),s+n+l.length<=xs.size->∀k:Nat,
  ((l.zipIdx n).foldl (λa (p,j)=>a.setIfInBounds (s+j) p) xs)[k]?=if s+n<=k/\k<s+n+l.length then l[k - (s+n)]? else xs[k]?
 |[],xs,s,n,h,k=>by rw[ak (by simp)];rfl
 |x::l,xs,s,n,h,k=>by
  rw[List.zipIdx_cons,Xo];let b:s+n+(l.length+1)<=xs.size:=h;rw[Ec l _ s (n+1) (by rw[Array.size_setIfInBounds];ext) k];simp only[S0];by_cases c:k=s+n
  .subst c;rw[ak (),ai (),WH,W7];rw[Xv ()]
  .by_cases d:s+n<=k/\k<s+n+(l.length+1)
   .rw[ai (),ai d,show k - (s+n)=k - (s+(n+1))+1 by ext,UJ]
   .rw[ak (),ak d,X8 ()]
def mU{l:G Keyed}{xs:Array Keyed}{s:Nat}(h:s+l.length<=xs.size)(k:Nat):(vK xs s l)[k]?=if s<=k/\k<s+l.length then l[k - s]? else xs[k]? :=by let:=Ec l xs s 0 () k;ext vK;rw[Nat.add_zero]at this;show this
def EU{l:G Keyed}{xs:Array Keyed}{s:Nat}(h:s+l.length<=xs.size):(vK xs s l).toList=xs.toList.take s++l++xs.toList.drop (s+l.length):=by
 apply Wc;intro k;rw[T8,mU h];let len:(xs.toList.take s).length=s:=by simp;ext
 by_cases c:s<=k/\k<s+l.length
 .rw[ai c,Tz,Tr (),len,Ti ()]
 .rw[ak c]
  by_cases d:k<s
  .rw[Tz,Ti (),Vj d,T8]
  .rw[Tr (by simp[len] at*;ext),WK,<-T8];congr 1;simp[len] at*;ext
def Cc{xs:Array Keyed}{s m e:Nat}(h1:s<=m)(h:m<=e)(f:e<=xs.size):xs.toList=xs.toList.take s++((xs.extract s m).toList++(xs.extract m e).toList)++xs.toList.drop e:=by
 rw[pf,pf];apply Wc;intro k;let l1:(xs.toList.take s).length=s:=by simp;ext
 let a:((xs.toList.drop s).take (m - s)).length=m - s:=by simp;ext
 let b:((xs.toList.drop m).take (e - m)).length=e - m:=by simp;ext
 by_cases c:k<s
 .rw[Tz,Ti (),Vj c]
 .rw[Tz,Tr (),l1]
  by_cases d:k<m
  .rw[Tz,Ti (),Vj (),WK];congr 1;ext
  .by_cases g:k<e
   .rw[Tz,Tr (),a,Ti (),Vj (),WK];congr 1;ext
   .rw[Tr (by simp[a,b] at*;ext),SQ,a,b,WK];congr 1;ext
section
variable{prog:Tg}{w:TN}{A:Tv}{E:OK->SS->Prop}{J:SS->Prop}{κ:SortKind}{Z:Array Keyed}{f:Keyed->Nat}
def JW{xs:Array Keyed}{s e:Nat}(h:So f xs s e)(d:e<=xs.size):(xs.extract s e).toList.Pairwise (Le f):=by
 rw[US];intro i j g a b;let:(xs.extract s e).size=e - s:=by simp;ext
 simp only[Tt,this]at g a;let:=h (s+i) (s+j) () () ();rw[R_at (),R_at ()]at this
 simpa using this
def yt{xs:Array Keyed}{s e:Nat}(b:e<=xs.size){x:Keyed}(h:x∈(xs.extract s e).toList):∃t,s<=t/\t<e/\R f xs t=f x:=by rw[pf]at h;let(j,a,h1,d,rfl):=qH h;show#[j,h1,by ext,R_at a]
def Mz(C:Ask prog w A E J κ (·∈Z.toList) f){st:SortSt}(g:Gd κ Z st){i sa na H sb nb P:Nat}(e1:(pendingOf st)[i]?=cL (sa,na,H))(e2:(pendingOf st)[i+1]?=cL (sb,nb,P))(D:sb=sa+na)(n1:1<=na)(V:1<=nb)(le:sb+nb<=Z.size)
  (s1:So f (arrOf st) sa sb) (F:So f (arrOf st) sb (sb+nb)) {Q:Bool->SortSt->Prop}
  (h:∀z,Gd κ Z z->pendingOf z=((pendingOf st).setIfInBounds i (sa,na+nb,H)).eraseIdxIfInBounds (i+1)->So f (arrOf z) sa (sb+nb)->(∀k,k<sa\/sb+nb<=k->(arrOf z)[k]?=(arrOf st)[k]?)->Q SJ z):
  gu (model prog w) A E J (mergeAt' i) Q st:=by
 rw[Ki];show ag (fu ?_);rw[e1,e2];dsimp only;show ag (M5 ?_);let sz:=g.size;let K:Gd κ Z (setPending st (((pendingOf st).setIfInBounds i (sa,na+nb,H)).eraseIdxIfInBounds (i+1))):=#[g.kind,g.failed,g.perm];let S:sb<(arrOf st).size:=by ext
 let rb:=R_at (f:=f) S;show ag (a9 (getElem?_pos (arrOf st) sb S) ?_);show ag (lQ C K.kind (g.mem S) (λi=>decide (R f (arrOf st) (sa+i)<=R f (arrOf st) sb)) (λi hi=>#[(arrOf st)[sa+i]'(),g.mem _,getElem?_pos _ _ (),?_]) (λi j ij p q=>?_) () λk k2 k3 k4=>?_)
 .ext Bt;simp only[S4,if_false];rw[rb,R_at ()]
 .show a6 (S9 (s1 _ _ () () ()) (a8 q))
 let X:∀t,sa<=t->t<sa+k->R f (arrOf st) t<=R f (arrOf st) sb:=λt a b=>by let:=a8 (k3 (t - sa) ());rwa [show sa+(t - sa)=t by ext]at this
 let K4:∀t,sa+k<=t->t<sb->R f (arrOf st) sb<R f (arrOf st) t:=λt a b=>by let:=of_decide_eq_false (k4 (t - sa) () ());rw[show sa+(t - sa)=t by ext]at this;ext
 dsimp only;let l:(∀t,sa<=t->t<sb->R f (arrOf st) t<=R f (arrOf st) sb)->Q SJ (setPending st (((pendingOf st).setIfInBounds i (sa,na+nb,H)).eraseIdxIfInBounds (i+1))):=λq=>by
  show h _ K W (λx y B v u=>?_) λ_ _=>W;show R f (arrOf st) x<=R f (arrOf st) y;by_cases c:y<sb
  .show s1 x y B v c
  .by_cases d:sb<=x
   .show F x y d v u
   .show S9 (q x B ()) (F sb y (SN _) () u)
 by_cases c:na - k=0
 .rw[ai (by simpa using c)];show aj (l λt a b=>X t a ())
 rw[ak (by simpa using c)];let ck:k<na:=by ext
 clear c;let hl:sa+k+(na - k) - 1=sb - 1:=by ext
 rw[hl];clear hl;let ra:=R_at (f:=f) (xs:=arrOf st) (i:=sb - 1) ();show ag (a9 (getElem?_pos (arrOf st) (sb - 1) ()) ?_);show ag (lQ C K.kind (g.mem _) (λi=>decide (R f (arrOf st) (sb+i)<R f (arrOf st) (sb - 1))) (λi hi=>#[(arrOf st)[sb+i]'(),g.mem _,getElem?_pos _ _ (),?_]) (λi j ij p q=>?_) () λm m2 m3 m4=>?_)
 .ext Bt;simp only[if_true];rw[ra,R_at ()]
 .show a6 (WN (F _ _ () () ()) (a8 q))
 let M3:∀t,sb<=t->t<sb+m->R f (arrOf st) t<R f (arrOf st) (sb - 1):=λt a b=>by let:=a8 (m3 (t - sb) ());rwa [show sb+(t - sb)=t by ext]at this
 let M4:∀t,sb+m<=t->t<sb+nb->R f (arrOf st) (sb - 1)<=R f (arrOf st) t:=λt a b=>by let:=of_decide_eq_false (m4 (t - sb) () ());rw[show sb+(t - sb)=t by ext]at this;ext
 dsimp only;by_cases c2:m=0
 .rw[ai (by simpa using c2)];show aj (l λt a b=>S9 (s1 t (sb - 1) a () ()) (M4 sb () ()))
 rw[ak (by simpa using c2)];let zx:((arrOf st).extract (sa+k) sb).size=sb - (sa+k):=by simp;ext
 let Y:((arrOf st).extract sb (sb+m)).size=m:=by simp;ext
 let px:=JW (s:=sa+k) (e:=sb) (λx y B v u=>s1 x y () v u) ();let py:=JW (s:=sb) (e:=sb+m) (λx y B v u=>F x y () v ()) ();let mm:∀{x:Keyed} {s e:Nat},x∈((arrOf st).extract s e).toList->x∈Z.toList:=λ{x s e} G=>by rw[pf]at G;let(j,p,_,_,rfl):=qH G;show g.mem p
 let I:Two f Z ((arrOf st).extract (sa+k) sb) ((arrOf st).extract sb (sb+m)):={
  sa:=px,sb:=py,ma:=λx G=>mm G,mb:=λx G=>mm G,na:=by ext,nb:=by ext
  last:=λy hy=>by
   let(t,a,b,n):=yt (f:=f) () hy;rw[<-n];let:=M3 t a b;rw[ra]at this;let e:f ((arrOf st).extract (sa+k) sb)[((arrOf st).extract (sa+k) sb).size - 1]=f (arrOf st)[sb - 1]:=by rw[Zo];congr 2;ext
   rw[e];show Uy this
  first:=λx G=>by
   let(t,a,b,n):=yt (f:=f) () G;rw[<-n];let e:f ((arrOf st).extract sb (sb+m))[0]=R f (arrOf st) sb:=by rw[Zo,rb];congr 2
   rw[e];show Uy (K4 t a b)}
 let T:∀(r:KL) z,Ge (setPending st (((pendingOf st).setIfInBounds i (sa,na+nb,H)).eraseIdxIfInBounds (i+1))) z->Ok f (((arrOf st).extract (sa+k) sb).toList++((arrOf st).extract sb (sb+m)).toList) r.toList->
   Q SJ (setArr z (vK (arrOf z) (sa+k) r.toList)):=by
  intro r z O o;let U:arrOf z=arrOf st:=O.arr;let len:sa+k+r.toList.length=sb+m:=by rw[o.perm.length_eq,SQ,Tt,Tt,zx,Y];ext
  clear zx Y;let rr:∀j,sa+k<=j->j<sb+m->∃t,sa+k<=t/\t<sb+m/\R f (vK (arrOf st) (sa+k) r.toList) j=R f (arrOf st) t:=λj j1 j2=>by
   let p:j - (sa+k)<r.toList.length:=by ext
   let e:(vK (arrOf st) (sa+k) r.toList)[j]?=cL r.toList[j - (sa+k)]:=by rw[mU (),ai (),Tc p]
   let hm:r.toList[j - (sa+k)]∈_:=o.perm.mem_iff.mp (UU p);let e3:R f (vK (arrOf st) (sa+k) r.toList) j=f r.toList[j - (sa+k)]:=by ext R;rw[e]
   rcases Th.mp hm with q|q
   .let(t,a,b,n):=yt (f:=f) () q;show#[t,a,by ext,by rw[e3,n]]
   .let(t,a,b,n):=yt (f:=f) () q;show#[t,by ext,b,by rw[e3,n]]
  let N:∀j,¬(sa+k<=j/\j<sb+m)->(vK (arrOf st) (sa+k) r.toList)[j]?=(arrOf st)[j]? :=λj p=>by rw[mU (),ak ()]
  show h _ #[O.kind.trans g.kind,O.failed.trans g.failed,?_] O.pend ?_ ?_
  .show(vK (arrOf z) (sa+k) r.toList).Perm Z
   rw[U];show agZ (VP.mpr ?_) g.perm;rw[EU (),len]
   conv=>rhs;rw[Cc (s:=sa+k) (m:=sb) (e:=sb+m) () () ()]
   show(o.perm.append_left _).append_right _
  .show So f (vK (arrOf z) (sa+k) r.toList) sa (sb+nb)
   rw[U];intro x y B v u;by_cases M:sa+k<=x/\x<sb+m
   .by_cases L:y<sb+m
    .by_cases xy:x=y
     .rw[xy];show SN _
     .let:=US.mp o.so (x - (sa+k)) (y - (sa+k)) () () ()
      let e:∀j (p:j - (sa+k)<r.toList.length),sa+k<=j->j<sb+m->R f (vK (arrOf st) (sa+k) r.toList) j=f r.toList[j - (sa+k)]:=λj p j1 j2=>by ext R;rw[mU (),ai (),Tc p]
      rw[e x () M.1 M.2,e y () () L];show this
    .let(t,a,b,n):=rr x M.1 M.2
     rw[n,c8 (N y ())];by_cases ct:t<sb
     .show S9 (s1 t (sb - 1) () () ()) (M4 y () u)
     .show F t y () () u
   .rw[c8 (N x M)]
    by_cases L:sa+k<=y/\y<sb+m
    .let(t,a,b,n):=rr y L.1 L.2
     rw[n];by_cases ct:t<sb
     .show s1 x t B () ct
     .show S9 (X x B ()) (F sb t (SN _) () ())
    .rw[c8 (N y L)]
     by_cases xb:sb+m<=x
     .show F x y () v u
     .by_cases yb:y<sb
      .show s1 x y B v yb
      .show S9 (X x B ()) (F sb y (SN _) () u)
  .intro j p;show(vK (arrOf z) (sa+k) r.toList)[j]?=_;rw[U];show N j ()
 let go:∀(r:KL) z,Ge (setPending st (((pendingOf st).setIfInBounds i (sa,na+nb,H)).eraseIdxIfInBounds (i+1))) z->Ok f (((arrOf st).extract (sa+k) sb).toList++((arrOf st).extract sb (sb+m)).toList) r.toList->
   gu (model prog w) A E J (do
    modify λs=>setArr s (vK (arrOf s) (sa+k) r.toList)
    let x<-get
    pure (failedOf x).isNone) Q z:=by
  intro r z q1 q2;show ag (gB (ag (fu ?_)));let ef:failedOf (setArr z (vK (arrOf z) (sa+k) r.toList))=CL:=q1.failed.trans g.failed;rw[ef];show aj (T r z q1 q2)
 split
 .show ag (MO C I K.kind go)
 .show ag (J3 C I K.kind go)
end
end TS
namespace TS
open PySem PyProof.Rows
set_option autoImplicit true
def Ch(f:Keyed->Nat)(xs:Array Keyed):Nat->G (Nat×Nat×Nat)->Nat->Prop
 |s,[],e=>s=e
 |s,t::l,e=>t.1=s/\1<=t.2.1/\So f xs s (s+t.2.1)/\Ch f xs (s+t.2.1) l e
section
variable{f:Keyed->Nat}{xs ys:Array Keyed}
theorem Ch.le:∀{l:G (Nat×Nat×Nat)} {s e:Nat},Ch f xs s l e->s+l.length<=e
 |[],_,_,h=>by let:_=_:=h;simp;ext
 |t::l,s,e,h=>by let:=Ch.le h.2.2.2;let:=h.2.1;simp only[S0];ext
theorem Ch.app:∀{l k:G (Nat×Nat×Nat)} {s e:Nat},Ch f xs s (l++k) e↔∃m,Ch f xs s l m/\Ch f xs m k e
 |[],k,s,e=>#[λh=>#[s,W,h],λ#[m,h1,a]=>by let:s=m:=h1;subst this;show a]
 |t::l,k,s,e=>by
  constructor
  .intro h;let(m,h1,a):=Ch.app.mp h.2.2.2;show#[m,#[h.1,h.2.1,h.2.2.1,h1],a]
  .rintro⟨m,h1,a⟩;show#[h1.1,h1.2.1,h1.2.2.1,Ch.app.mpr #[m,h1.2.2.2,a]]
theorem Ch.same:∀{l:G (Nat×Nat×Nat)} {s e:Nat},Ch f xs s l e->(∀k,s<=k->k<e->ys[k]?=xs[k]?)->Ch f ys s l e
 |[],_,_,h,_=>h
 |t::l,s,e,h,q=>by let:=h.2.2.2.le;show#[h.1,h.2.1,λi j a d b=>?_,Ch.same h.2.2.2 λk k1 k2=>q k () k2];rw[c8 (q i a ()),c8 (q j () ())];show h.2.2.1 i j a d b
theorem Ch.pow:∀{l k:G (Nat×Nat×Nat)} {s e:Nat},l.map (λt=>(t.1,t.2.1))=k.map (λt=>(t.1,t.2.1))->Ch f xs s l e->Ch f xs s k e
 |[],[],_,_,_,h=>h
 |[],_::_,_,_,q,_=>by ext q
 |_::_,[],_,_,q,_=>by ext q
 |t::l,u::k,s,e,q,h=>by rw[SX,SX]at q;let(g,d):=VT q;let(b,a):=Prod.mk.inj g;show#[b▸h.1,a▸h.2.1,a▸h.2.2.1,?_];rw[<-a];show Ch.pow d h.2.2.2
end
def two_at{p:Array (Nat×Nat×Nat)}{i:Nat}(h:i+1<p.size):∃l x y k,p.toList=l++x::y::k/\l.length=i:=by show#[p.toList.take i,p[i],p[i+1],p.toList.drop (i+2),?_,by simp;ext];rw[show p[i]=p.toList[i]'(by simp;ext) by simp,show p[i+1]=p.toList[i+1]'(by simp;ext) by simp];rw[<-Uo,<-Uo,Uw]
def J8{p:Array (Nat×Nat×Nat)}{l k:G (Nat×Nat×Nat)}{x y z:Nat×Nat×Nat}(h:p.toList=l++x::y::k):((p.setIfInBounds l.length z).eraseIdxIfInBounds (l.length+1)).toList=l++z::k:=by let⟨q⟩:=p;let h:q=l++x::y::k:=h;subst h;rw[List.setIfInBounds_toArray,List.eraseIdxIfInBounds_toArray];show((l++x::y::k).set l.length z).eraseIdx (l.length+1)=_;rw[Zw _ _ (SN _),WH,XY,List.eraseIdx_append_of_length_le (),show l.length+1 - l.length=1 by ext];rfl
section
variable{prog:Tg}{w:TN}{A:Tv}{E:OK->SS->Prop}{J:SS->Prop}{κ:SortKind}{Z:Array Keyed}{f:Keyed->Nat}
def Bc(C:Ask prog w A E J κ (·∈Z.toList) f){st:SortSt}(g:Gd κ Z st){i lo:Nat}(ch:Ch f (arrOf st) 0 (pendingOf st).toList lo)(N:lo<=Z.size)(c:i+1<(pendingOf st).size){Q:Bool->SortSt->Prop}
  (h:∀z,Gd κ Z z->Ch f (arrOf z) 0 (pendingOf z).toList lo->(pendingOf z).size+1=(pendingOf st).size->(∀k,lo<=k->(arrOf z)[k]?=(arrOf st)[k]?)->Q U z):
  gu (model prog w) A E J (mergeAt' i) Q st:=by
 let(l,(a,b,p),(M,nb,d),k,e,rfl):=two_at c;rw[e]at ch;let(m,G,K):=Ch.app.mp ch;let(h1,F,B,v,u,t,n):=K;dsimp only at h1 F B v u t n;subst h1;subst v;let le:=n.le;let e1:(pendingOf st)[l.length]?=cL (a,b,p):=by rw[<-T8,e];simp
 let e2:(pendingOf st)[l.length+1]?=cL (a+b,nb,d):=by rw[<-T8,e];simp
 show Mz C g e1 e2 W F u () B t λz I H so o=>?_;let pl:=J8 (z:=(a,b+nb,p)) e;rw[<-H]at pl;let L:=G.le;show h z I ?_ ?_ λj O=>o j (.inr ())
 .rw[pl]
  show Ch.app.mpr #[a,G.same λj r q=>o j (.inl q),W,by dsimp only;ext,?_,?_]
  .dsimp only;rw[show a+(b+nb)=a+b+nb by ext];show so
  .dsimp only;rw[show a+(b+nb)=a+b+nb by ext];show n.same λj r q=>o j (.inr r)
 .rw[<-Tt,pl,<-Tt,e];simp;ext
def HC(p:Array (Nat×Nat×Nat))(i a:Nat):p.toList.map (λt=>(t.1,t.2.1))=(p.modify i λ(s,n,_)=>(s,n,a)).toList.map (λt=>(t.1,t.2.1)):=by
 apply Wc;intro k;rw[S3,S3,T8,T8,Array.getElem?_modify];split
 .cases p[k]? <;>rfl
 .rfl
theorem OV:∀(k n r:Nat),1<=n->1<=minRun' k n r
 |0,n,r,h=>by show 1<=n+r;ext
 |k+1,n,r,h=>by
  rw[minRun'_succ];split
  .omega
  .show OV k _ _ ()
def FB(C:Ask prog w A E J κ (·∈Z.toList) f){st:SortSt}(g:Gd κ Z st)(U:pendingOf st= #v[])(D:1<=Z.size){Q:Unit->SortSt->Prop}
  (h:∀z,Gd κ Z z->So f (arrOf z) 0 Z.size->Q ⟨⟩ z):gu (model prog w) A E J sortRuns' Q st:=by
 rw[sortRuns'_eq];show ag (fu ?_);dsimp only;simp only[g.size];generalize hm:minRun' Z.size Z.size 0=mr;let mr1:1<=mr:=by rw[<-hm];show OV _ _ _ D
 show ag (bi (cG (I:=λx c z=>∃lo,c=(CL,lo)/\x<=lo/\lo<=Z.size/\Gd κ Z z/\Ch f (arrOf z) 0 (pendingOf z).toList lo)
  (Q:=λc z=>c=(CL,Z.size)/\Gd κ Z z/\Ch f (arrOf z) 0 (pendingOf z).toList Z.size) ?zs ?zf #[0,W,SN _,by ext,g,by rw[U];rfl]) ?zp)
 case zf=>
  rintro c z ⟨lo,rfl,a1,a2,g,ch⟩;let:lo=Z.size:=by ext
  subst this;show#[W,g,ch]
 case zs=>
  rintro x c z _ S ⟨lo,rfl,a1,a2,g,ch⟩;dsimp only;by_cases P:lo≥Z.size
  .rw[ai P]
   let:lo=Z.size:=by ext
   subst this;show aj #[W,g,ch]
  rw[ak P];show ag (PJ C () () g λm y u m1 m2 so=>?_);dsimp only;let o:Ch f (arrOf y) 0 (pendingOf y).toList lo:=by rw[u.pend];show ch.same λk _ k2=>u.low k k2
  let a:∀(n:Nat) (y:SortSt),1<=n->lo+n<=Z.size->Gd κ Z y->Ch f (arrOf y) 0 (pendingOf y).toList lo->So f (arrOf y) lo (lo+n)->
    ∃lo',(CL,lo+n)=((CL:cc Unit),lo')/\x+1<=lo'/\lo'<=Z.size/\Gd κ Z (setPending y ((pendingOf y).push (lo,n,0)))/\Ch f (arrOf (setPending y ((pendingOf y).push (lo,n,0)))) 0 (pendingOf (setPending y ((pendingOf y).push (lo,n,0)))).toList lo':=by
   intro n y H O g c so;show#[lo+n,W,by ext,O,#[g.kind,g.failed,g.perm],?_];show Ch f (arrOf y) 0 ((pendingOf y).push (lo,n,0)).toList (lo+n);rw[V9];show Ch.app.mpr #[lo,c,W,H,so,W]
  let d:∀(n:Nat) (y:SortSt),1<=n->lo+n<=Z.size->Gd κ Z y->Ch f (arrOf y) 0 (pendingOf y).toList lo->So f (arrOf y) lo (lo+n)->∀K i,
    Gd κ Z (setPending y ((pendingOf y).modify i λ(s,n,_)=>(s,n,K)))/\Ch f (arrOf y) 0 ((pendingOf y).modify i λ(s,n,_)=>(s,n,K)).toList lo:=
   λn y H O g c so K i=>#[#[g.kind,g.failed,g.perm],c.pow (HC _ _ _)]
  by_cases lt:m<mr
  .rw[ai lt]
   show ag (ju ?_);show ag (Ih C () () u.gd so λF G r=>?_);simp only[UY,S4,if_false];let B:Ch f (arrOf F) 0 (pendingOf F).toList lo:=by rw[G.pend];show o.same λk _ k2=>G.low k k2
   show ag (fu ?_);cases hb:(pendingOf F).back? with
   |none=>dsimp only;show ag (gB (aj (a _ F () () G.gd B r)))
   |some t=>
    let(s1,H,T):=t;dsimp only;show ag (bi (cG (I:=λx c z=>c=(CL,⟨⟩)/\Gd κ Z z/\Ch f (arrOf z) 0 (pendingOf z).toList lo/\So f (arrOf z) lo (lo+min (Z.size - lo) mr)) (Q:=λc z=>c=(CL,⟨⟩)/\Gd κ Z z/\Ch f (arrOf z) 0 (pendingOf z).toList lo/\So f (arrOf z) lo (lo+min (Z.size - lo) mr)) ?s1 (λ_ _ q=>q) #[W,G.gd,B,r]) ?p1)
    case p1=>
     rintro c z ⟨rfl,g,ch,so⟩;dsimp only;let bk:=d (min (Z.size - lo) mr) z () () g ch so;show ag (gB (ag (gB (aj (a _ (setPending z _) () () (bk _ _).1 (bk _ _).2 so)))))
    case s1=>
     rintro x c z _ _ ⟨rfl,g,ch,so⟩;show ag (fu ?_);by_cases p1:(pendingOf z).size>1
     .rw[ai p1]
      obtain⟨⟨X,Y,M⟩,L⟩:∃t,(pendingOf z)[(pendingOf z).size - 2]?=cL t:=#[_,getElem?_pos _ _ ()];rw[L];dsimp only;split
      .show aj #[W,g,ch,so]
      .show ag (Bc C g ch a2 () λN v b _ p=>?_);simp only[UY,S4,if_false];show aj #[W,v,b,λi j p1 p2 p3=>by rw[c8 (p i p1),c8 (p j ())];show so i j p1 p2 p3]
     .rw[ak p1];show aj #[W,g,ch,so]
  .rw[ak lt]
   show ag (fu ?_);cases hb:(pendingOf y).back? with
   |none=>dsimp only;show ag (gB (aj (a _ y m1 () u.gd o so)))
   |some t=>
    let(s1,H,T):=t;dsimp only;show ag (bi (cG (I:=λx c z=>c=(CL,⟨⟩)/\Gd κ Z z/\Ch f (arrOf z) 0 (pendingOf z).toList lo/\So f (arrOf z) lo (lo+m)) (Q:=λc z=>c=(CL,⟨⟩)/\Gd κ Z z/\Ch f (arrOf z) 0 (pendingOf z).toList lo/\So f (arrOf z) lo (lo+m)) ?s2 (λ_ _ q=>q) #[W,u.gd,o,so]) ?p2)
    case p2=>
     rintro c z ⟨rfl,g,ch,so⟩;dsimp only;let bk:=d m z () () g ch so;show ag (gB (ag (gB (aj (a _ (setPending z _) () () (bk _ _).1 (bk _ _).2 so)))))
    case s2=>
     rintro x c z _ _ ⟨rfl,g,ch,so⟩;show ag (fu ?_);by_cases p1:(pendingOf z).size>1
     .rw[ai p1]
      obtain⟨⟨X,Y,M⟩,L⟩:∃t,(pendingOf z)[(pendingOf z).size - 2]?=cL t:=#[_,getElem?_pos _ _ ()];rw[L];dsimp only;split
      .show aj #[W,g,ch,so]
      .show ag (Bc C g ch a2 () λN v b _ p=>?_);simp only[UY,S4,if_false];show aj #[W,v,b,λi j p1 p2 p3=>by rw[c8 (p i p1),c8 (p j ())];show so i j p1 p2 p3]
     .rw[ak p1];show aj #[W,g,ch,so]
 case zp=>
  rintro c z ⟨rfl,g,ch⟩;dsimp only;let len:=ch.le;rw[Tt]at len;show ag (bi (cG (I:=λx c z=>c=(CL,⟨⟩)/\Gd κ Z z/\Ch f (arrOf z) 0 (pendingOf z).toList Z.size/\(pendingOf z).size+x<=Z.size+1)
   (Q:=λc z=>c=(CL,⟨⟩)/\Gd κ Z z/\Ch f (arrOf z) 0 (pendingOf z).toList Z.size/\(pendingOf z).size<=1) ?s3 ?f3 #[W,g,ch,by ext]) ?p3)
  case f3=>
   rintro c z ⟨rfl,g,ch,l⟩;show#[W,g,ch,by ext]
  case p3=>
   rintro c z ⟨rfl,g,ch,l⟩;show aj (h z g ?_);cases hp:(pendingOf z).toList with
   |nil=>rw[hp]at ch;let:0=Z.size:=ch;ext
   |cons t l'=>
    rw[hp]at ch;let:l'=[]:=by let:=eh UQ hp;rw[Tt,S0]at this;show V4.mp ()
    subst this;let e:0+t.2.1=Z.size:=ch.2.2.2;rw[<-e];show ch.2.2.1
  case s3=>
   rintro x c z _ S ⟨rfl,g,ch,l⟩;show ag (fu ?_);by_cases p1:(pendingOf z).size<=1
   .rw[ai p1];show aj #[W,g,ch,p1]
   .rw[ak p1]
    show ag (Bc C g ch (SN _) ?_ λN v b ls p=>?_)
    .let q:∀(c:Prop) [Decidable c],(if c then(pendingOf z).size - 2 - 1 else(pendingOf z).size - 2)+1<(pendingOf z).size:=λc _=>by split<;>ext
     show q _
    .simp only[UY,S4,if_false];show aj #[W,v,b,by ext]
end
end TS
namespace TS
open PySem PyProof.Rows
set_option autoImplicit true
section
variable{Y:Tg}{w:TN}{A:Tv}{E:OK->SS->Prop}{s:SS}{κ:SortKind}{f:Keyed->Nat}
abbrev Kb(s:SS)(a:J)(h:Heap):Prop:=∀b o,b≠a->s.heap.get? b=M o->h.get? b=M o
def AU{a:J}{c:G T}{n:Nat}{P:PySem.Fin->SS->Prop}(l:s.heap.get? a=M (seqObj "list" c.toArray n))(v:c.length<1000000)
  (p:∀x,Kb s a x->2<=c.length->wpAny (model Y w) A (keyKind' c.toArray) (λk z=>k=κ/\z={s with heap:=x}) E {s with heap:=x})
  (C:∀x,Kb s a x->Ask Y w A E (λz=>z={s with heap:=x}) κ (·∈(pairsOf c).toList) f)
  (h:∀st:SortSt,(arrOf st).Perm (pairsOf c)->So f (arrOf st) 0 c.length->P (.done (.ret .none)) {s with heap:=sortedHeap s.heap a c ((arrOf st).map (·.2))}):
  wpAny (model Y w) A (Builtin.«list.sort» #[[.ref a],[]]) P E s:=by
 let la:a<s.heap.objs.size:=cv l;let big:(1000000:Nat)<=S8:=by decide
 rw[list_sort_plain];show lD (listItems_at l W (lD (listUpdate_at l W ?_ (by rw[Tb];ext) (TX _))));obtain⟨e1,h1⟩:∃e1,(s.heap.update a (Obj.mapSeq λ_=>(#v[]:Array T))).get? a=M (seqObj "list" #v[] e1):=#[_,get?_update_seq l (λ_=> #v[])];show lD (seqEpoch_at h1 W (lD (wpAny_newTuple ?_ (by show c.length<=_;ext))));show lD (ag0 ?_ (TX _));show UA ?_;let g:(((s.heap.update a (Obj.mapSeq λ_=>(#v[]:Array T))).push (seqObj "tuple" c.toArray 0)).push (seqObj "list" #v[] 0)).get? a=M (seqObj "list" #v[] e1):=cj _ (cj _ h1);let m:Kb s a (((s.heap.update a (Obj.mapSeq λ_=>(#v[]:Array T))).push (seqObj "tuple" c.toArray 0)).push (seqObj "list" #v[] 0)):=λb o nb e=>
  cj _ (cj _ (by rw[Heap.get?_update_ne _ _ _ _ nb];show e))
 show wpAny (model Y w) A _ P E {s with heap:=((s.heap.update a (Obj.mapSeq λ_=>(#v[]:Array T))).push (seqObj "tuple" c.toArray 0)).push (seqObj "list" #v[] 0)};dsimp only;let sz:c.toArray.size=c.length:=Tb;by_cases d:c.toArray.size<2
 .rw[ai d,ai d];show lD (SH ?_);rw[StateT.run_pure];show lD (SH ?_);dsimp only;show lD (seqEpoch_at g W (lD (listUpdate_at g W ?_ (TX _) (by rw[abn];show(pairsOf c).size<=_;rw[pairsOf_size];ext))));simp only[bne_self_eq_false,S4,if_false];show SH (h (SortSt.mk' general' (c.toArray.zip c.toArray) #v[] 7 S) (Zx _) λi j u t r=>?_);rw[show i=j by ext];show SN _
 .rw[ak d,ak d];show lD (wpAny_mono (p _ m ()) ?_ λ_ _ e=>e);rintro k z ⟨rfl,rfl⟩;let q:Gd k (pairsOf c) (SortSt.mk' k (c.toArray.zip c.toArray) #v[] 7 S):=#[W,W,Zx _];show lD (wpAny_mono (FB (C _ m) q W (by rw[pairsOf_size];ext) (Q:=λ_ st=>Gd k (pairsOf c) st/\So f (arrOf st) 0 (pairsOf c).size) (λz a b=>#[a,b]) _ W) ?_ λ_ _ e=>e);rintro⟨⟨⟩,st⟩ z ⟨rfl,B,so⟩;rw[pairsOf_size]at so;dsimp only;show lD (seqEpoch_at g W (lD (listUpdate_at g W ?_ (TX _) (by show S9 (adn ((abn ..).trans (B.perm.size_eq.trans (pairsOf_size _)))) ?_;ext))));rw[B.failed];simp only[bne_self_eq_false,S4,if_false];show SH (h st B.perm so)
def sorted_any{l:J}{c:G T}{Q:T->SS->Prop}(i:s.heap.IsList l c.toArray)(g:c.length<1000000)
  (j:∀r,(∀b o,s.heap.get? b=M o->r.get? b=M o)->2<=c.length->wpAny (model Y w) A.in1.in1 (keyKind' c.toArray) (λk z=>k=κ/\z={s with heap:=r}) (λ_ _=>False) {s with heap:=r})
  (C:∀r,(∀b o,s.heap.get? b=M o->r.get? b=M o)->Ask Y w A.in1.in1 (λ_ _=>False) (λz=>z={s with heap:=r}) κ (·∈(pairsOf c).toList) f)
  (h:∀st:SortSt,(arrOf st).Perm (pairsOf c)->So f (arrOf st) 0 c.length->Q (.ref (s.heap.objs.size+1)) {s with heap:=sortedAll s.heap c ((arrOf st).map (·.2))}):
  wpAny (model Y w) A (call (.builtin "sorted") [.ref l]) Q E s:=by
 let big:(1000000:Nat)<=S8:=by decide
 show Calls.call_function_entry kind_sorted plain_sorted entry_sorted (args_sorted1 _) ?_;unfold Builtin.«sorted»;show lD (m:=checkCount "sorted" 1 1 _) (SH ?_);show lD (collect_list i ?_ ());show lD (ag0 ?_ (by show c.length<=_;ext));let a:((s.heap.push (seqObj "list" #v[] 0)).update s.heap.objs.size (Obj.mapSeq (·++c.toArray))).objs.size=s.heap.objs.size+1:=by rw[Heap.size_update,size_push']
 let d:(((s.heap.push (seqObj "list" #v[] 0)).update s.heap.objs.size (Obj.mapSeq (·++c.toArray))).push (seqObj "list" c.toArray 0)).get? (s.heap.objs.size+1)=M (seqObj "list" c.toArray 0):=by rw[<-a];show c0 _ W
 let keep:∀b o,s.heap.get? b=M o->(((s.heap.push (seqObj "list" #v[] 0)).update s.heap.objs.size (Obj.mapSeq (·++c.toArray))).push (seqObj "list" c.toArray 0)).get? b=M o:=λb o q=>
  cj _ (by rw[Heap.get?_update_ne _ _ _ _ (TB (cv q))];show cj _ q)
 let ne:∀b o,s.heap.get? b=M o->b≠s.heap.objs.size+1:=λb o q=>TB (Wj (cv q));show wpAny _ _ _ _ _ {s with heap:=((s.heap.push (seqObj "list" #v[] 0)).update s.heap.objs.size (Obj.mapSeq (·++c.toArray))).push (seqObj "list" c.toArray 0)};rw[a];show lD (UA (UB slot_list_sort #[_,d,W] entry_list_sort (wpAny_mono (AU (E:=λ_ _=>False) d g (λr e z=>j r (λb o q=>e b o (ne b o q) (keep b o q)) z) (λr e=>C r λb o q=>e b o (ne b o q) (keep b o q)) λst p n=>#[_,W,?_]) (λ_ _ z=>z) λ_ _ z=>z.elim) (args_list_sort _)));show SH #[_,W,h st p n]
end
end TS
namespace LD
open PySem PyProof.Rows L2 L3 L10
structure Lin(ds:G D):Prop where
 ok:okO ds=U
 irr:∀a∈ds,ltd a a=M SW
 tr:∀a∈ds,∀b∈ds,∀c∈ds,ltd a b=M U->ltd b c=M U->ltd a c=M U
 tot:∀a∈ds,∀b∈ds,ltd a b=M SW->ltd b a=M SW->a=b
 tup:∀a∈ds,∃xs ys,a=.tuple (.tuple xs::ys)
def Srt(ds:G D):Prop:=ds.Pairwise λa b=>ltd b a=M SW
open Classical in
def sortD(ds:cb D):cb D:=if h:∃l:cb D,l.Perm ds/\Srt l then h.choose else ds
def sortD_eq{ds l:G D}(L:Lin ds)(p:l.Perm ds)(h:Srt l):sortD ds=l:=by let d:∃l:G D,l.Perm ds/\Srt l:=#[l,p,h];ext sortD;rw[dif_pos d];show(d.choose_spec.1.trans p.symm).eq_of_pairwise (λa b g e h1 f=>?_) d.choose_spec.2 h;show L.tot a (d.choose_spec.1.mem_iff.mp g) b (p.mem_iff.mp e) f h1
def rk(ds:G D)(d:D):Nat:=(ds.filter λe=>ltd e d==M U).length
theorem xM{α:Type}{p q:α->Bool}:∀{l:G α},(∀x∈l,p x=U->q x=U)->(l.filter p).length<=(l.filter q).length
 |[],_=>SN _
 |a::l,h=>by
  let b:=xM (p:=p) (q:=q) (l:=l) λx d=>h x (S5 _ d);let:=h a Ta;rw[Uv,Uv];split
  .rename_i z;rw[ai (this z)];simp only[S0];ext
  .split
   .simp only[S0];ext
   .show b
theorem yn{α:Type}{p q:α->Bool}:∀{l:G α},(∀x∈l,p x=U->q x=U)->(∃x∈l,q x=U/\p x=SW)->(l.filter p).length<(l.filter q).length
 |[],_,#[_,h,_]=>nomatch h
 |a::l,h,#[x,b,h1,e]=>by
  let le:=xM (p:=p) (q:=q) (l:=l) λx b=>h x (S5 _ b);let:=h a Ta;rw[Uv,Uv];rcases Tf.mp b with rfl|b
  .rw[e,ak Td,ai h1,S0];ext
  .let d:=yn (l:=l) (λx b=>h x (S5 _ b)) #[x,b,h1,e]
   split
   .rename_i z;rw[ai (this z)];simp only[S0];ext
   .split
    .simp only[S0];ext
    .show d
def Lin.lt{ds:G D}(L:Lin ds){a b:D}(c:a∈ds)(k:b∈ds):ltd a b=M (decide (rk ds a<rk ds b)):=by
 let f:∀{a b:D},a∈ds->b∈ds->ltd a b=M U->rk ds a<rk ds b:=λ{a b} c k h=>by
  show yn (λx j q=>?_) #[a,c,by rw[h];rfl,by rw[L.irr a c];rfl];let q:ltd x a=M U:=by simpa using q
  rw[L.tr x j a c b k q h];rfl
 let so:(ltd a b).isSome=U/\(ltd b a).isSome=U:=by let ok:=L.ok;unfold okO at ok;rw[TR]at ok;let h1:=ok a c;let g:=ok b k;rw[Ld]at h1 g;show#[TR.mp h1.2 b k,TR.mp g.2 a c]
 let(r,e):=UD.mp so.1;let(i,d):=UD.mp so.2;rw[e];congr 1;cases r with
 |true=>show(a6 (f c k e)).symm
 |false=>
  show(a7 ?_).symm;cases i with
  |true=>let:=f k c d;ext
  |false=>rw[L.tot a c b k e d];ext
def vP{ds:G D}(L:Lin ds){a:D}(h:a∈ds):a.canLay0=U/\a.depth<=32:=by let(i,b,e):=Vr h;show kz L.ok (SK.mpr #[b,e])
open Classical in
def Qj(h:Heap)(ds:cb D)(p:Keyed):Nat:=if q:∃d,d∈ds/\∃as,Vq h p.1 d as then rk ds q.choose else 0
def vt{h:Heap}{ds:G D}(L:Lin ds){p:Keyed}{d:D}{as:G J}(hd:d∈ds)(r:Vq h p.1 d as):Qj h ds p=rk ds d:=by let q:∃d,d∈ds/\∃as,Vq h p.1 d as:=#[d,hd,as,r];ext Qj;rw[dif_pos q];let(b,e,a):=q.choose_spec;rw[SeqAt.Reads.unique _ _ _ _ _ (vP L b).1 a r]
section
variable{prog:Tg}{w:TN}{A:Tv}{E:OK->SS->Prop}{s:SS}
theorem CM{Q:Bool->SS->Prop}{r a:Bool}(j:A.units+40<cLine)(q:Q r s):∀{xs ys:G D} {h c:G T} {as bs:G J} (i:Nat),V0 s.heap h xs as->V0 s.heap c ys bs->SR.depthAll xs<=32->SR.depthAll ys<=32->SR.canLayAll0 xs=U->SR.canLayAll0 ys=U->ltds xs ys=M r->(a=decide (xs.length<ys.length))->PySem.W.KatLex prog w A SW a Q (h.zip c) i s
 |[],ys=>by
  intro i d m _ _ _ _ e b;ext d;show Q a s;cases m with
  |nil=>simp[ltds]at e;subst e;subst b;show q
  |cons _ _=>simp[ltds]at e;subst e;subst b;simpa using q
 |x::xs,[]=>by intro i d m _ _ _ _ e b;ext d;ext m;show Q a s;simp[ltds]at e;subst e;subst b;simpa using q
 |x::xs,y::ys=>by
  intro i d m t l g f e b;cases d with
  | @cons u h _ _ _ _ h1 p=>
  cases m with
  | @cons v c _ _ _ _ n o=>
  simp only[SR.depthAll]at t l;unfold SR.canLayAll0 at g f;rw[Ld]at g f;show wpAny (model prog w) A (eqBool u v) _ _ s;show SeqAt.eqAt_reads x y A s u v _ _ h1 n g.1 f.1 () prog w _ _ ?_;rw[ltds]at e;cases z:SR.eqv x y with
  |true=>rw[ai z]at e;rw[ai W];show CM j q (i+1) p o () () g.2 f.2 e (by rw[b];simp)
  |false=>rw[ak (by rw[z];simp)]at e;rw[ak Td];rw[WJ,oneLt'_eq];simp only[S4,if_false];show lD (DE 32 x y u v _ _ A s _ r () () g.1 f.1 h1 n () e (Vo q))
def Ls{Q:Bool->SS->Prop}{x y:T}{d e:D}{as bs:G J}{r:Bool}(m:A.units+40<cLine)(k:d.depth<=32)(c:e.depth<=32)(g:d.canLay0=U)(f:e.canLay0=U)(tx:∃xs,d=.tuple xs)(ty:∃xs,e=.tuple xs)
  (j:Vq s.heap x d as) (i:Vq s.heap y e bs) (h:ltd d e=M r) (q:Q r s):wpAny (model prog w) A (keyLt' (tuples' SW) x y) Q E s:=by
 let(xs,rfl):=tx;let(ys,rfl):=ty;cases j with
 | @tuple a B t na _ _ a1 a2 v o=>
 cases i with
 | @tuple b z p nb _ _ b1 C u n=>
  simp only[SR.depth]at k c;unfold SR.canLay0 at g f;rw[ltd]at h;let la:t.size=xs.length:=by let:=SeqAt.ReadsAll.length _ _ _ o;rw[Tt]at this;show this
  let l:p.size=ys.length:=by let:=SeqAt.ReadsAll.length _ _ _ n;rw[Tt]at this;show this
  show PySem.W.kat_lt a1 v b1 u (CM m q 0 o n () () g f h (by rw[la,l]))
theorem y4{h:Heap}:∀{g:G T} {ds:G D},Paired (λu d=>(∃xs ys,d=SR.tuple (.tuple xs::ys))/\∃as,Vq h u d as) g ds->∃fs,PySem.W.KatTups h g fs/\fs.length=g.length/\∀v∈fs,∃a o,v=.ref a/\h.get? a=M o/\o.cls=.type "tuple"
 |_,_,.nil=>#[[],.nil,W,λ_ h=>nomatch h]
 |_,_,.cons #[#[xs,ys,e],as,r] t=>by
  let(fs,m,l,j):=y4 t;subst e;cases r with
  | @tuple a Q p na _ _ a1 a2 C n=>
   generalize ev:p.toList=L at n;cases n with
   | @cons f fr _ _ _ _ q P=>
    cases q with
    | @tuple b z N nb _ _ b1 B Y X=>
     show#[.ref b::fs,.cons a1 a2 C ?_ m,by simp[l],λv i=>?_]
     .rw[<-T8,ev];rfl
     .rcases Tf.mp i with rfl|i
      .show#[b,z,W,b1,B]
      .show j v i
def p7{α d:Type}(g:α->d){l:G d}{m:G d}(p:l.Perm m):∀{L:G α},L.map g=m->∃c:G α,c.Perm L/\c.map g=l:=by
 induction p with
 |nil=>intro L e;show#[L,.refl _,e]
 | @cons x l m _ r=>
  intro L e;cases L with
  |nil=>ext e
  |cons a L=>rw[SX]at e;let(e1,e2):=VT e;let(c,n,o):=r e2;show#[a::c,n.cons a,by rw[SX,o,e1]]
 |swap x y l=>
  intro L e
  match L,e with
  |a::b::L,e=>simp only[SX,ZN]at e;let(e1,e2,e3):=e;show#[b::a::L,.swap a b L,by simp[e1,e2,e3]]
 |trans _ _ h f=>intro L e;let(L2,i,e2):=f e;let(q,j,e1):=h e2;show#[q,j.trans i,e1]
def lH{b:G T}{p:Keyed}(h:p∈(pairsOf b).toList):p.1=p.2/\p.1∈b:=by
 unfold pairsOf at h;rw[aaB]at h;let e:∀{l:G T} {p:T×T},p∈l.zip l->p.1=p.2/\p.1∈l:=by
  intro l
  induction l with
  |nil=>intro p h;simp at h
  |cons a l d=>
   intro p h;rw[Us]at h;rcases Tf.mp h with rfl|h
   .show#[W,Ta]
   .show#[(d h).1,S5 _ (d h).2]
 show e h
def zZ{l:SU}{B:cb OK}{ds:cb D}{Q:OK->SS->Prop}(hu:A.units+60<cLine)(V:s.heap.IsList l B.toArray)(R:B.length<1000000)(L:Lin ds)(M:Paired (λu d=>∃as,Vq s.heap u d as) B ds)
  (h:∀(F:cb OK) (G:cb D),Srt G->G.length=F.length->(F.zip G).Perm (B.zip ds)->Q (.ref (s.heap.objs.size+1)) {s with heap:=sortedAll s.heap B F.toArray}):
  wpAny (model prog w) A (call (.builtin "sorted") [.ref l]) Q E s:=by
 let hlen:=Paired.length M;let up:∀{C:Heap},(∀b o,s.heap.get? b=cL o->C.get? b=cL o)->∀u∈B,∃d∈ds,(∃as,Vq s.heap u d as)/\∃as,Vq C u d as:=λ{C} k u hu'=>by let(i,hi,e):=Vr hu';let(d,e2,as,r):=fT M (SK.mpr #[hi,e]);show#[d,Te e2,#[as,r],as,Reads.keeps k r]
 show TS.sorted_any (κ:=tuples' SW) (f:=Qj s.heap ds) V R (λC k h2=>?_) (λC k=>#[λx y z hx hy hz=>?_]) λst p so=>?_
 .let U:Paired (λu d=>(∃xs ys,d=SR.tuple (.tuple xs::ys))/\∃as,Vq C u d as) B ds:=by
   let all:∀{B:cb OK} {es:cb D},Paired (λu d=>∃as,Vq s.heap u d as) B es->(∀d∈es,d∈ds)->Paired (λu d=>(∃xs ys,d=SR.tuple (.tuple xs::ys))/\∃as,Vq C u d as) B es:=by
    intro B es q
    induction q with
    |nil=>show λ_=>.nil
    |cons r _ X=>show λm=>.cons #[L.tup _ (m _ Ta),let#[as,r]:=r;#[as,Reads.keeps k r]] (X λd I=>m d (S5 _ I))
   show all M λ_ h=>h
  let(fs,f1,f2,f3):=y4 U;show PySem.W.kat_kind (T:=.type "tuple") f1 () (λv hv=>?_) () #[by rfl,W];let(a,o,rfl,g,c):=f3 v hv;rw[<-c];show(show PySem.W.Looks (model prog w) C (typeOf (.ref a)) o.cls from(adu g).andThen .now)
 .subst hz;let(x1,x2):=lH hx;let(y1,y2):=lH hy;let(d,I,(as0,S),as,J):=up k _ x2;let(e,N,(bs0,P),bs,re):=up k _ y2;let od:=vP L I;let oe:=vP L N;show Ls (by rw[Tv.in1_units,Tv.in1_units];ext) od.2 oe.2 od.1 oe.1 (let#[xs,ys,e]:=L.tup d I;#[_,e]) (let#[xs,ys,e]:=L.tup e N;#[_,e]) J re (L.lt I N) #[?_,W];rw[vt L I S,vt L N P]
 .let sz:(arrOf st).size=B.length:=by rw[p.size_eq,pairsOf_size]
  let pu:((arrOf st).map (·.2)).toList.Perm B:=by
   let q:=(VP.mp p).map (·.2);let e:(pairsOf B).toList.map (·.2)=B:=by ext pairsOf;rw[aaB];show W9 (SN _)
   rw[e]at q;rw[aaC];show q
  let ez:(B.zip ds).map (·.1)=B:=aa7 ();let(Z,z1,O):=p7 (λx:OK×D=>x.1) pu ez;let e1:∀Y:cb (OK×D),Y=(Y.map (·.1)).zip (Y.map (·.2)):=λY=>by
   induction Y with
   |nil=>rfl
   |cons a Y X=>rw[SX,SX,Us,<-X]
  let:=h (Z.map (·.1)) (Z.map (·.2)) ?_ (by simp) (by rw[<-e1 Z];show z1)
  .rw[O]at this;let e:((arrOf st).map (·.2)).toList.toArray=(arrOf st).map (·.2):=W;rw[e]at this;show this
  .let zl:Z.length=B.length:=by rw[<-SI (f:=(·.1)),O];simp[sz]
   ext Srt;rw[US];intro i j hi hj ij;simp only[SI]at hi hj;let J:∀t (H:t<Z.length),Z[t].2∈ds/\∃as,Vq s.heap Z[t].1 Z[t].2 as:=λt H=>by
    let m:Z[t]∈B.zip ds:=z1.mem_iff.mp (UU H);let(n,R,e):=Vr m;rw[List.getElem_zip]at e;let hn':n<B.length/\n<ds.length:=by simp at R;ext
    let(d,e2,r):=fT M (SK.mpr #[hn'.1,W]);let e3:ds[n]=d:=(SK.mp e2).2;rw[<-e];show#[UU _,by rw[e3];show r]
   let fz:∀t (H:t<Z.length),TS.R (Qj s.heap ds) (arrOf st) t=rk ds Z[t].2:=λt H=>by
    let K:t<(arrOf st).size:=by ext
    rw[TS.R_at K];let(m,as,r):=J t H;let e:(arrOf st)[t].2=Z[t].1:=by let:=eh (λl=>l[t]?) O;simp only[S3,Tc H,aaC,T8,getElem?_pos (arrOf st) t K,Yi,Xy]at this;show this.symm
    let e':(arrOf st)[t].1=(arrOf st)[t].2:=(lH ((VP.mp p).mem_iff.mp (by simp))).1;show vt L m (by rw[e',e];show r)
   let:=so i j (TX _) () ();rw[fz i hi,fz j hj]at this;rw[Xa,Xa,L.lt (J j hj).1 (J i hi).1];congr 1;show a7 ()
end
end LD
namespace LD
open PySem PyProof.Rows L2 L3 L10
def Cj(K:Bn):G V->Hp->VK->Prop:=λxs H Q=>∃(p:J) (b:G V) (ds:G D),xs=[.ref p]/\Xl K H p b/\L2.UN K H b ds/\b.length<1000000/\Lin ds/\
 ∀(l:J) (a:G V),H l=S->a.length=ds.length->(a.zip (sortD ds)).Perm (b.zip ds)->(sortD ds).length=ds.length->Q (.ref l) (upd H l (.lst a))
theorem Oo{α e d:Type}:∀{a:G α} {b:G e} {c:G d},a.length=b.length->b.length=c.length->(a.zip (b.zip c)).map (·.2)=b.zip c/\(a.zip (b.zip c)).map (λt=>(t.1,t.2.2))=a.zip c
 |[],[],[],_,_=>#[W,W]
 |x::a,y::b,z::c,h1,f=>by let(e1,e2):=Oo (a:=a) (b:=b) (c:=c) (by simpa using h1) (by simpa using f);simp only[Us,SX];show#[by rw[e1],by rw[e2]]
 |[],_::_,_,h,_=>by ext h
 |_::_,[],_,h,_=>by ext h
 |[],[],_::_,_,h=>by ext h
 |_::_,_::_,[],_,h=>by ext h
def AX{e:G V}{b:G T}(h:Vals e b){a:Type}:∀{c:G a} {t:V×T×a},t∈e.zip (b.zip c)->RelV t.1 t.2.1:=by
 induction h with
 |nil=>intro c t h;simp at h
 |cons r _ d=>
  intro c t h;cases c with
  |nil=>simp at h
  |cons z c=>
   rw[Us,Us]at h;rcases Tf.mp h with rfl|h
   .show r
   .show d h
theorem ub{a:Type}:∀{d:G (V×OK×a)},(∀t∈d,RelV t.1 t.2.1)->Vals (d.map (·.1)) (d.map (·.2.1))
 |[],_=>.nil
 |t::d,h=>.cons (h t Ta) (ub λx b=>h x (S5 _ b))
def call_sortP{X:Cx}(k:X.A.units+64<cLine):fF X (.builtin "sorted") (Cj X.K):=by
 intro E s U H xs Y Q I r h;let(p,vs,ds,rfl,F,w,hn,L,q):=h;let(u,rfl,G):=l8 r;ext G;let(B,A,pl,M):=I.list F;let P:=A.length;let v:=sP w;let J:Paired (λu d=>∃as,Vq s.heap u d as) B ds:=by
  clear F pl M q L hn P v
  induction A generalizing ds with
  |nil=>ext w;show .nil
  |cons r _ n=>cases w with
   |cons d t=>show .cons (L2.DV.reads I d r) (n _ t)
 show zZ () pl.isList () L J λg i so O C=>?_;let z:=Oo (a:=vs) (b:=B) (c:=ds) () ();let(T,l,j):=p7 (λt:V×OK×D=>t.2) C z.1;let e1:T.map (·.2.1)=g:=by let:=eh (ag1 (·.1)) j;rw[T1,aa7 ()]at this;show this
 let e2:T.map (·.2.2)=i:=by let:=eh (ag1 (·.2)) j;rw[T1,W9 ()]at this;show this
 let e3:(T.map (·.1)).zip i=T.map λt=>(t.1,t.2.2):=by
  rw[<-e2];clear l j e1 e2
  induction T with
  |nil=>rfl
  |cons a T n=>rw[SX,SX,Us,n];rfl
 let m:i.Perm ds:=by let:=C.map (·.2);rw[W9 (),W9 ()]at this;show this
 let es:=sortD_eq L m so;let lt:(T.map (·.1)).length=ds.length:=by rw[SI,<-SI (f:=(·.2.2)) (as:=T),e2];show m.length_eq
 let(e,S):=sortedAll_at s.heap B g.toArray;show#[.ref (s.heap.objs.size+1),_,I.laid (t':=s.toks) (o:=.lst (T.map (·.1))) (λb Z z=>sortedAll_old z) (aeu _) ?_,W,q _ (T.map (·.1)) (I.U9.fresh (aeu _)) lt ?_ (by rw[es];show m.length_eq)]
 .show#[?_,g,e,by rw[<-e1];show ub λt N=>AX A (l.mem_iff.mp N),S]
  let:(1000000:Nat)<=S8:=by decide
  ext
 .rw[es,e3,<-z.2];show l.map _
def lstAt(a:aI):SV->I (G SV)
 |.rf i=>match a[i]? with
  |some (.lst xs)=>M xs
  |_=>S
 |_=>S
open Classical in
def sortS(fa:bQ):bQ:=λρ ω=>(fa ρ ω).bind λo a=>(RS.T6 a (lstAt a o)).bind λxs a=>(RS.T6 a (aq lN xs)).bind λds a=>if Lin ds/\ds.length<1000000 then .ok (.rf a.length) (a++[.lst ((sortD ds).map SV.fz)])else .bad
theorem xZ{O:a5}{K:Bn}{H:Hp}:∀{b:G V} {ds:G D},(∀t∈b.zip ds,L3.DV O K H t.1 t.2)->b.length=ds.length->L3.UN O K H b ds
 |[],[],_,_=>.nil
 |v::b,d::ds,h,e=>.cons (h (v,d) (by rw[Us];show Ta)) (xZ (λt a=>h t (by rw[Us];show S5 _ a)) (by simpa using e))
 |[],_::_,_,e=>by ext e
 |_::_,[],_,e=>by ext e
theorem yW{O:a5}{K:Bn}{H:Hp}:∀{b:G V} {ds:G D},L3.UN O K H b ds->∀t∈b.zip ds,L3.DV O K H t.1 t.2
 |_,_,.nil,_,h=>nomatch h
 |_,_,.cons a t,x,h=>by
  rw[Us]at h;rcases Tf.mp h with rfl|h
  .show a
  .show yW t x h
section
variable{K:Bn}{E:XK}{B:a5}{H:Hp}{Z:cb SU}{Y:aI}{v:V}
def MY{x:SV}{xs:G SV}(s:TK B K H Z Y)(e:Wz (ow B Z Y) K H Z v x)(h:lstAt Y x=M xs):∃a g,v=.ref a/\H a=M (.lst g)/\Wo (ow B Z Y) K H Z g xs:=by
 cases x with
 |fz d=>ext h
 |tp l=>ext h
 |rf j=>
  let(a,i,rfl):=e;unfold lstAt at h;dsimp only at h;cases q:Y[j]? with
  |none=>rw[q]at h;ext h
  |some c=>
   rw[q]at h;cases c with
   |lst ys=>ext h;let(b,h1,f):=s.YQ j a _ i q;show#[a,b,W,h1,f]
   |_=>ext h
def eos_sortS{k:TE}{x:bQ}(y:cg K E k x):cg K E (AM (Cj K) (dr k jd)) (sortS x):=by
 intro B q H Z Y X Q s z w;show y B q H Z Y X _ s z (w.bind.imp λo f d g e1 i b u G=>?_);let(xs,C,b):=WS.T6 b;let(ds,A,b):=WS.T6 b;let(a,P,rfl,J,j):=MY i G C;rw[sR A]at j;let p:=vU j;let M:P.length=ds.length:=by let:=Paired.length j;rwa [SI]at this
 by_cases c:Lin ds/\ds.length<1000000
 .rw[ai c]at b;show#[a,P,ds,W,.inl (.inl J),p.plain,by ext,c.1,λl h N L F r=>?_];let n:U7 g (upd g l (.lst h)):=bw N _;let e:Ve f d g (f++[l]) (d++[.lst ((sortD ds).map SV.fz)]) (upd g l (.lst h)):=Ve.Yg i.len n N;let m:L3.UN (ow B f d) K g h (sortD ds):=xZ (λt I=>yW p t (F.mem_iff.mp I)) ();show b _ _ e (i.Yg n N (by rw[ay];simp) #[h,ay,wS (m.ev e.ev)]) _ #[l,by rw[<-i.len];show aG,W]
 .rw[ak c]at b;show b.elim
end
end LD
namespace LD
open PySem PyProof.Rows L2 L3
mutual
def Sc:SR->SR->cc Bool
 |.int i,.int j=>cL (decide (j<=i))
 |.tuple xs,.tuple ys=>Pj xs ys
 |_,_=>CL
def Pj:cb SR->cb SR->cc Bool
 |[],[]=>cL SJ
 |[],_::_=>cL SW
 |_::_,[]=>cL SJ
 |x::xs,y::ys=>if SR.eqv x y=SJ then Pj xs ys else Sc x y
end
end LD
namespace LD
open PySem PyProof.Rows
mutual
theorem pO{h h':Heap}{P:SU->Prop}(e:∀b o,h.get? b=cL o->¬P b->h'.get? b=cL o)(hd:∀b o,P b->h.get? b=cL o->o.cls≠.type "tuple"):∀(d:SR) (v:OK) (as:cb SU),kd d=SJ->Vq h v d as->Vq h' v d as
 |.none,_,_,_,r=>by cases r;exact .none
 |.int _,_,_,_,r=>by cases r;exact .int _ _
 |.str _,_,_,_,r=>by cases r;exact .str _ _
 |.tuple xs,_,_,k,r=>by
  cases r with
  | @tuple a o vs n _ _ h1 h2 h3 h4=>unfold kd at k;exact .tuple (e a o h1 λz=>hd a o z h1 h2) h2 h3 (nH e hd xs _ _ k h4)
 |.bool _,_,_,k,_=>by simp[kd]at k
 |.list _,_,_,k,_=>by simp[kd]at k
 |.dict _,_,_,k,_=>by simp[kd]at k
theorem nH{h h':Heap}{P:SU->Prop}(a:∀b o,h.get? b=cL o->¬P b->h'.get? b=cL o)(hd:∀b o,P b->h.get? b=cL o->o.cls≠.type "tuple"):∀(ds:cb SR) (vs:cb OK) (as:cb SU),kds ds=SJ->V0 h vs ds as->V0 h' vs ds as
 |[],_,_,_,r=>by cases r;exact .nil
 |d::ds,_,_,k,r=>by
  cases r with
  |cons f e=>unfold kds at k;rw[Ld]at k;exact .cons (pO a hd d _ _ k.1 f) (nH a hd ds _ _ k.2 e)
end
section
variable{prog:Tg}{w:TN}{A:Tv}{E:OK->SS->Prop}{s:SS}{I dd ax:SU}{items:Array OK}{ks:cb (KD×SU×OK)}{R:Yk->SS->Prop}
def II(xs ks:G (KD×J×T)):G (KD×J×T):=ks.foldl (λxs p=>storedH xs p.1 p.2.1 p.2.2) xs
def HG(xs:G (KD×J×T))(k:KD)(a:J)(v:T):(storedH xs k a v).length<=xs.length+1:=by
 ext storedH;split
 .rw[SI];ext
 .rw[SQ];show SN _
theorem yP:∀(ks xs:G (KD×J×T)),(II xs ks).length<=xs.length+ks.length
 |[],_=>SN _
 |p::r,xs=>by let h1:=yP r (storedH xs p.1 p.2.1 p.2.2);let a:=HG xs p.1 p.2.1 p.2.2;show(II (storedH xs p.1 p.2.1 p.2.2) r).length<=_;rw[S0];ext
def xW{h c:Heap}{xs:G (KD×J×T)}(u:h.DictOfH (bv prog w) dd xs)(g:I≠dd)(f:∀o,h.get? I=M o->o.cls≠.type "tuple")(a:∀b o,b∉[I]->h.get? b=M o->c.get? b=M o):c.DictOfH (bv prog w) dd xs:=by let(o,es,t,q,p,m,l,j,i):=u;show#[o,es,t,a dd o (by simp;show λz=>g z.symm) q,p,m,l,λx d=>?_,i];let(as,r):=j x d;show#[as,pO (P:=(·=I)) (λb o e n=>a b o (by simp;show n) e) (λb o z e=>by subst z;show f o e) x.1.1 _ _ (cW x.1.2).1 r]
def z7{hb:Heap}(D:A.in1.units+8<cLine)(hh:A.handled=CL)(V5:ax≠I)(J:I≠dd)(H:ax≠dd)(L:hb.get? I=CL)(nd:hb.get? dd=CL)
  (V:∀(i:Nat) (v:OK),items[i]?=cL v->∃q a k x,v=.ref q/\ks[i]?=cL (k,a,x)/\(∃as,Vq hb (.ref a) k.1 as)/\hb.IsTuple q #v[.ref a,x]) (hs:ks.length=items.size) (hz:items.size<=S8)
  (hR:∀y l,y.DictOfH (bv prog w) dd (II [] ks)->(∀b o,hb.get? b=cL o->y.get? b=cL o)->R (.ok (.ret .none)) {s with heap:=y,toks:=l}):
  ∀(m i:Nat) (h:Heap) (l:Nat),items.size - i=m->i<=items.size->h.IsListIter I ax i->h.IsList ax items->h.DictOfH (bv prog w) dd (II [] (ks.take i))->(∀b o,hb.get? b=cL o->h.get? b=cL o)->
   codeAny (model prog w) A (.builtin "dict.update.loop" #[[.ref dd,.ref I,rawInt i,.none],[]]) R {s with heap:=h,toks:=l}:=by
 let W:=Walks.list (prog:=prog) (w:=w) (A:=A.in1) hh I ax V5 items;let nb:∀{b:SU} {o:Obj} {c:SU},hb.get? c=CL->hb.get? b=cL o->b≠c:=λ{b o c} n e z=>by rw[z,n]at e;ext e
 let M:∀{h:Heap} {i:Nat},h.IsListIter I ax i->∀o,h.get? I=cL o->o.cls≠.type "tuple":=λ{h i} j o e=>by let(o',O,c,_):=j;rw[e]at O;ext O;rw[c];decide
 intro m
 induction m with
 |zero=>
  intro i h l hm hi j t r u;let e:i=items.size:=by ext
  subst e;show VN F.entry_upd_loop ?_;rw[Tv.under_plainId F.plain_upd_loop _];show wpAny _ A.in1 (pyNext (.ref I)>>=_) _ _ _;show lD (W.done _ _ _ #[j,t] λy d p=>?_);rw[Ur ()]at r;show wpAny _ A.in1 (Builtin.Dict.addKeywords dd []>>=λ_=>ret .none) _ _ _;show lD (SH (SH ?_));show hR y d (xW r J (M j) p) λb o e=>p b o (by simp;show nb L e) (u b o e)
 |succ m Y=>
  intro i h l hm hi j t r u;let P:i<items.size:=by ext
  show VN F.entry_upd_loop ?_;rw[Tv.under_plainId F.plain_upd_loop _];show wpAny _ A.in1 (pyNext (.ref I)>>=_) _ _ _;show lD (W.item i _ _ _ P #[j,t] λv y d Z st p=>?_);let(q,a,k,x,rfl,B,(as,T),ht):=V i v Z;let g:∀b o,hb.get? b=cL o->y.get? b=cL o:=λb o e=>p b o (by simp;show nb L e) (u b o e);let K:=xW r J (M j) p;let(U,f,G,nq,C):=ht;let f:=g q _ f;let(cq,dq,dtq,Q):=U;ext G;ext C;let hT:({s with heap:=y,toks:=d}:SS).TypeIs (.ref q) "tuple":=#[_,f,rfl];show lD (UA (lD ?_));show Wt ?_;ext Builtin.Dict.pairItems;show lD (VF hT ?_);rw[ai ()];show lD ?_;unfold seqItems?;show lD (ab6 f (SH (SH ?_)));show wpAny _ A.in1 (holding [.ref a,x] (dictSet dd (.ref a) x)) _ _ _;let X:(II [] (ks.take i)).length<=S8:=by let:=yP (ks.take i) [];rw[T7,UG]at this;ext
  show UA (wpAny_dictSet_heap (knd:=bv prog w) (s:={s with heap:=y,toks:=d}) (hsz:=X) D #[as,Reads.keeps g T] K λN d2 S=>?_);show SH #[Vf F.plain_upd_loop _,?_];let e2:∀b o,b≠dd->y.get? b=cL o->N.get? b=cL o:=λb o hb e=>(S.2 b hb).trans e;show Y (i+1) N _ () P (st.1.at λo e=>e2 I o J e) (st.2.at λo e=>e2 ax o H e) ?_ λb o e=>e2 b o (nb nd e) (g b o e);let et:ks.take (i+1)=ks.take i++[(k,a,x)]:=by rw[X9,B];rfl
  rw[et];ext II;rw[aaD];show d2
def ou{Q:OK->SS->Prop}{n:Nat}{C:Array (cc OK)}(Z:A.units+32<cLine)(H:A.handled=CL)(G:s.heap.get? ax=cL #[.type "list",CL,.seq items n,C])(J:ks.length=items.size)(V:items.size<=S8)
  (K:∀(i:Nat) (v:OK),items[i]?=cL v->∃q a k x,v=.ref q/\ks[i]?=cL (k,a,x)/\(∃as,Vq s.heap (.ref a) k.1 as)/\s.heap.IsTuple q #v[.ref a,x])
  (h:∀y D,y.DictOfH (bv prog w) s.heap.objs.size (II [] ks)->(∀b o,s.heap.get? b=cL o->y.get? b=cL o)->Q (.ref s.heap.objs.size) {s with heap:=y,toks:=D}):
  wpAny (model prog w) A (call (.type "dict") [.ref ax]) Q E s:=by
 show Zv (Q₁:=λobj d=>obj=.ref s.heap.objs.size/\d={s with heap:=s.heap.push {cls:=.type "dict",data:=.dict #v[]}}) F.kt_called_dict (F.kt_typeCall_dict_1 _) F.entry_dict_init (ads _ #[W,W]) ?_;rintro obj d ⟨rfl,rfl⟩;let m:(s.heap.push {cls:=.type "dict",data:=.dict #v[]}).DictOfH (bv prog w) s.heap.objs.size []:=#[_,#v[],0,c0 _ W,#[W,W,W],W,W,(λ_ z=>nomatch z),VS];let B:(s.heap.push {cls:=.type "dict",data:=.dict #v[]}).get? ax=cL #[.type "list",CL,.seq items n,C]:=cj _ G;let M:({s with heap:=s.heap.push {cls:=.type "dict",data:=.dict #v[]}}:SS).TypeIs (.ref ax) "list":=#[_,B,W];show#[m.typeIs,F.args_dict_init_2 _ _,?_];unfold Builtin.«dict.__init__»;show lD ?_;ext Builtin.Dict.selfAndRest;show lD (Vi m.typeIs ?_);show wpAny _ _ (pure (s.heap.objs.size,[OK.ref ax])) _ _ _;show SH ?_;show wpAny _ _ (Builtin.Dict.updateFrom "dict.__init__" s.heap.objs.size (.ref ax) [] .none) _ _ _;ext Builtin.Dict.updateFrom;show lD (VF M ?_);rw[ai ()];show lD (oG B H λy t l=>?_);rw[ai (show(CL:cc OK).isNone=SJ from rfl)];show lD (XF ?_);let j:=l _ _ B;let u:y.IsList ax items:=#[_,j,W,n,W];show lD (X0 (s:={s with heap:=y,toks:=t}) u ?_);show SH #[Vf F.plain_upd_loop _,?_];let ltd:s.heap.objs.size<y.objs.size:=by let(o,_,_,L,_):=id m;show cv (l _ _ L)
 let g:ax<s.heap.objs.size:=cv G;let Wa:∀{c:SU},s.heap.objs.size<=c->s.heap.get? c=CL:=λ{c} hc=>by
  cases q:s.heap.get? c with
  |none=>rfl
  |some o=>show b9 (To (cv q) hc) (Ub _)
 show z7 (A:=A.in1) (prog:=prog) (w:=w) (ks:=ks) (items:=items) (ax:=ax) (R:=wants (λr f=>r=OK.none/\Q (OK.ref s.heap.objs.size) f) E) (hb:=s.heap) (s:={s with heap:=y,toks:=t}) (by rw[Tv.in1_units,Tv.in1_units];ext) H (TB (Vx g ltd)) (UZ ltd) (TB g) (Wa (Uy ltd)) (Wa (SN _)) K J V (λN p Y k2=>#[W,h N p Y k2]) items.size 0 _ t () (TX _) #[_,c0 _ W,W,W] #[_,cj _ j,W,n,W] ?_ λb o e=>cj _ (l _ _ (cj _ e));let(o,es,X,U,T,S,P,g5,O):=m;show#[o,es,X,cj _ (l _ _ U),T,S,P,(λ_ z=>nomatch z),O]
end
open L2 L3 L10
def Nt(xs a:G (KD×J×V)):G (KD×J×V):=a.foldl (λxs p=>ke xs p.1 p.2.1 p.2.2) xs
inductive PrsD(K:Bn)(H:Hp):G V->G (KD×J×V)->Prop
 |nil:PrsD K H [] []
 |cons {q b:J} {k:KD} {v:V} {vs:G V} {kvs:G (KD×J×V)}:WY K H q [.ref b,v]->L2.DV K H (.ref b) k.1->PrsD K H vs kvs->PrsD K H (.ref q::vs) ((k,b,v)::kvs)
def yT(K:Bn):G V->Hp->VK->Prop:=λxs H Q=>∃p ys a,xs=[.ref p]/\Xl K H p ys/\PrsD K H ys a/\ys.length<1000000/\∀d,H d=S->Q (.ref d) (upd H d (DkO d (Nt [] a)))
theorem IP:∀{c:G (KD×J×V)} {i:G (KD×J×T)} {xs:G (KD×J×V)} {ys:G (KD×J×T)},RX c i->RX xs ys->RX (Nt xs c) (II ys i)
 |_,_,_,_,.nil,h=>h
 |_,_,_,_,.cons (a:=p) (b:=q) hd t,h=>by let(k,b,v):=p;let(f,g,u):=q;let(h1,e,d):=hd;dsimp only at h1 e d;subst h1 e;let z:=IP t (Cr (k:=k) (b:=b) d h);show z
theorem yN:∀(b xs:G (KD×J×V)),(Nt xs b).length<=xs.length+b.length
 |[],_=>SN _
 |p::r,xs=>by let h1:=yN r (ke xs p.1 p.2.1 p.2.2);let a:=lS xs p.1 p.2.1 p.2.2;show(Nt (ke xs p.1 p.2.1 p.2.2) r).length<=_;rw[S0];ext
theorem yB{X:Cx}{g:G (J×Obj)}{m:L2.St}{H:Hp}{s:SS}(I:Inv X g m H s):∀{ys:G V} {y:G (KD×J×V)} {j:G T},PrsD X.K H ys y->Vals ys j->∃z:G (KD×J×T),RX y z/\z.length=j.length/\y.length=j.length/\∀(i:Nat) (v:T),j[i]?=M v->∃q a k x,v=.ref q/\z[i]?=M (k,a,x)/\(∃as,Vq s.heap (.ref a) k.1 as)/\s.heap.IsTuple q #v[.ref a,x]
 |_,_,_,.nil,.nil=>#[[],.nil,W,W,λi v e=>by simp at e]
 |_,_,_,.cons (q:=q) (b:=b) (k:=k) (v:=v) h B t,.cons r rs=>by
  let(z,h1,p,l,o):=yB I t rs;let(w,A,pl,_):=I.tuple h;ext r;obtain⟨f,rfl,n⟩:∃f,w=[.ref b,f]/\RelV v f:=by
   cases A with
   |cons a c=>ext a;cases c with
    |cons c d=>ext d;show#[_,W,c]
  show#[(k,b,f)::z,.cons #[W,W,n] h1,by rw[S0,S0,p],by rw[S0,S0,l],λi u e=>?_];cases i with
  |zero=>ext e;show#[q,b,k,f,W,W,L2.DV.reads I B W,pl]
  |succ i=>show o i u (by simpa using e)
def call_dictLD{X:Cx}(G:X.calm=U)(O:X.A.units+64<cLine):fF X (.type "dict") (yT X.K):=by
 intro d s J H xs L Q I r h;let(p,ys,A,rfl,w,z,hn,q):=h;let(u,rfl,g):=l8 r;ext g;let(S,Y,(o,n,B,b,a,F),t):=I.list w;let(ks,k1,k2,m,k3):=yB I z Y;let(N,M,l,j):=o;ext b;ext F;ext a;let C:=Y.length;show ou (ks:=ks) () (I.ok.hd G) B (by rw[Tb];show k2) (by rw[Tb,<-C];show t) (λi v e=>k3 i v (by simpa using e)) λP f dd E=>?_;show#[.ref s.heap.objs.size,_,I.laid (t':=f) (o:=DkO s.heap.objs.size (Nt [] A)) E (SN _) ?_,W,q _ (I.U9.fresh (SN _))];show sG ?_ (beq_eq_false_iff_ne.mpr (UZ I.big)) (IP k1 .nil) dd;let:=yN A [];let:(1000000:Nat)<=S8:=by decide
 rw[UG] at*;ext
def pairDD:D->I (D×D)
 |.tuple [k,v]=>if keyD k=U then M (k,v)else S
 |_=>S
def pairsDL(a:aI):SV->I (G (D×D))
 |.rf i=>match a[i]? with
  |some (.lst xs)=>(aq GN xs).bind λds=>aq pairDD ds
  |_=>S
 |_=>S
def mgD(a b:G (D×D)):G (D×D):=b.foldl (λm p=>ja m p.1 p.2) a
def ddlS(c:bQ):bQ:=λe d=>(c e d).bind λx a=>(RS.T6 a (pairsDL a x)).bind λb a=>if b.length<1000000 then .ok (.rf a.length) (a++[.dd (mgD [] b)])else .bad
section
variable{B O O':a5}{K:Bn}{E:XK}{H H' C H2:Hp}{X A Z r:cb SU}{P ω' Y ω2:aI}{N:L2.St}{L:aH}{v:V}
theorem nU:∀{j:G V} {ds:G D} {i:G (D×D)},L3.UN O K H j ds->aq pairDD ds=M i->∃c,PrsD K H j c/\PrD O K H c i/\j.length=i.length
 |_,_,_,.nil,e=>by ext e;show#[[],.nil,.nil,W]
 |_,_,i,.cons (d:=d) (ds:=ds) hd t,e=>by
  unfold aq at e;cases q:pairDD d with
  |none=>rw[q]at e;ext e
  |some p=>
   rw[q]at e;dsimp only at e;cases m:aq pairDD ds with
   |none=>rw[m]at e;ext e
   |some g=>
    rw[m]at e;ext e;let(c,k1,k2,k3):=nU t m;unfold pairDD at q;split at q
    .rename_i k v
     split at q
     .rename_i f
      ext q;cases hd with
      | @tup a us _ sq h=>
       cases h with
       | @cons Q _ _ _ z h=>
        cases h with
        | @cons o _ _ _ u h=>
         ext h;cases k with
         |tuple l=>
          cases z with
          | @tup b bs _ sb n=>show#[(#[.tuple l,f],b,o)::c,.cons sq.1 (.tup sb.1 (UN.plain n)) k1,.cons #[W,.tup sb n,u] k2,by rw[S0,S0,k3]]
         |_=>simp[keyD]at f
     .ext q
    .ext q
theorem D7:∀{c:G (KD×J×V)} {g:G (D×D)} {xs:G (KD×J×V)} {m:G (D×D)},PrD O K H c g->PrD O K H xs m->PrD O K H (Nt xs c) (mgD m g)
 |_,_,_,_,.nil,h=>h
 |_,_,_,_,.cons (a:=p) (b:=q) hd t,h=>by
  let(h1,f,e):=hd;let d:L3.DV O K H (.ref p.2.1) p.1.1:=by rw[h1];show f
  let:=uX d e h;rw[h1]at this;let z:=D7 t this;show z
def eos_ddl{k:TE}{y:bQ}(m:cg K E k y):cg K E (AM (yT K) (dr k jd)) (ddlS y):=by
 intro B N H X P L Q s h w;show m B N H X P L _ s h (w.bind.imp λx Z Y C e1 f g u j=>?_);let(ps,q,b):=WS.T6 g;by_cases hn:ps.length<1000000
 case neg=>rw[ak hn]at b;show b.elim
 rw[ai hn]at b;cases x with
 |fz d=>ext q
 |tp l=>ext q
 |rf i=>
  let(a,ha,rfl):=j;unfold pairsDL at q;dsimp only at q;cases z:Y[i]? with
  |none=>rw[z]at q;ext q
  |some c=>
   rw[z]at q;cases c with
   |lst xs=>
    dsimp only at q;let(vs,h1,o):=f.YQ i a _ ha z;cases p:aq GN xs with
    |none=>rw[p]at q;ext q
    |some ds=>rw[p]at q;let(t,k1,k2,k3):=nU (yi o p) q;show#[a,vs,t,W,Xl.of h1,k1,by ext,λd n=>nX f n b λe=>#[_,ay,D7 (xh e.ev k2) .nil]]
   |_=>ext q
end
end LD
namespace LD
open PySem PyProof.Rows L2 L3 L10
section
variable{B O C:a5}{K:Bn}{E:XK}{H A z u:Hp}{t Y X Q:cb SU}{r P N L:aI}{q:L2.St}{p:aH}{v:V}{a:SU}{o:Heap->Prop}
end
end LD
namespace PySem
namespace SetTable
def RE(xs:Array Nat):Prop:=xs.toList.Pairwise (·<·)
structure TI(b:Bool)(t:SetTable):Prop where
 led:t.led=b
 dm:t.dummies= #v[]
 ris:RE t.place
end SetTable
end PySem
namespace PySem
open SetTable
section
variable{prog:Tg}{w:TN}{K:Type}[DecidableEq K]{knd:KeyKind prog w K}{A:Tv}{E:OK->SS->Prop}{s:SS}{b:Bool}{a:SU}{es:Array (Int×OK)}
structure SetX(knd:KeyKind prog w K)(b:Bool)(h:Heap)(a:J)(es:Array (Int×T)):Prop where
 x:∃o ep t,h.get? a=M o/\o.ExactSet/\o.data=.set es ep t/\t.fits es.size=U/\TI b t
 el:ElemsOf knd es.toList
 sz:es.size<scanBound
end
end PySem
namespace PySem
namespace SetTable
structure TT(t:SetTable)(n:Nat):Prop where
 k:∃k,t.mask+1=2^k
 dm:t.dummies= #v[]
 ris:RE t.place
 le:∀v∈t.place.toList,v<=t.mask
 sz:t.place.size=n
 few:n*5<t.mask*3
section
variable{t:SetTable}{n:Nat}{p:Probe}
structure PI(t:SetTable)(p:Probe):Prop where
 nine:p.more<=9
 jm:p.j+p.more<=t.mask
 pt:p.perturb<2^64
 dm:p.dummy=S
end
end SetTable
end PySem
namespace LD
open PySem PySem.SetTable PyProof.Rows L2 L3
section
variable{prog:Tg}{w:TN}{E:OK->SS->Prop}
variable{A:Tv}{s:SS}
structure SetH(prog:Tg)(w:TN)(b:Bool)(h:Heap)(a:J)(es:Array (Int×T))(ks:G (KD×J)):Prop where
 x:∃o ep t,h.get? a=M o/\o.ExactSet/\o.data=.set es ep t/\TT t es.size/\t.led=b/\t.mask<=8*es.size+8
 el:∀e∈es.toList,∃k c,(k,c)∈ks/\e.2=.ref c/\(bv prog w).is h k c
mutual
theorem zY{h h':Heap}{x:SU}{b:Obj}(e:h.get? x=cL b)(g:∀vs n,b.data≠.seq vs n)(f:Heap.SameBut x h h'):∀(d:SR) (v:OK) (as:cb SU),kd d=SJ->Vq h v d as->Vq h' v d as
 |.none,_,_,_,r=>by cases r;exact .none
 |.int _,_,_,_,r=>by cases r;exact .int _ _
 |.str _,_,_,_,r=>by cases r;exact .str _ _
 |.tuple xs,_,_,k,r=>by
  cases r with
  | @tuple a o vs n _ _ h1 h2 h3 h4=>
   have i:a≠x:=by rintro rfl;rw[e]at h1;cases h1;exact g _ _ h3
   unfold kd at k;exact .tuple ((f.2 a i).trans h1) h2 h3 (n9 e g f xs _ _ k h4)
 |.bool _,_,_,h,_|.list _,_,_,h,_|.dict _,_,_,h,_=>by simp[kd]at h
theorem n9{h h':Heap}{x:SU}{a:Obj}(b:h.get? x=cL a)(f:∀vs n,a.data≠.seq vs n)(e:Heap.SameBut x h h'):∀(ds:cb SR) (vs:cb OK) (as:cb SU),kds ds=SJ->V0 h vs ds as->V0 h' vs ds as
 |[],_,_,_,r=>by cases r;exact .nil
 |d::ds,_,_,k,r=>by
  cases r with
  |cons i g=>unfold kds at k;rw[Ld]at k;exact .cons (zY b f e d _ _ k.1 i) (n9 b f e ds _ _ k.2 g)
end
end
end LD
namespace L2
open PySem PySem.Spec PyProof.Rows
variable{X:Cx}{a b:Ts}{Y:cb Ts}{pos:Pos}{Q P:TE}
end L2
namespace CC
open PySem L2 L3 L10
def gR:Ts->Bool
 |.BinOp .. |.UnaryOp .. |.IfExp .. |.ListComp .. |.Compare .. |.Call .. |.Constant .. |.Attribute .. |.Subscript .. |.Name .. |.List .. |.Tuple .. |.BoolOp .. |.JoinedStr .. |.Dict .. =>U
 |_=>SW
def OJ:Ts->Bool
 |.BinOp .. |.Call .. |.Attribute .. |.Subscript .. |.Name .. =>U
 |_=>SW
def Ku:Ts->Bool
 |.ListComp .. =>U
 |_=>SW
def QC:Ts->Bool
 |.Constant .. |.Attribute .. |.Subscript .. |.Name .. =>U
 |_=>SW
section
variable{e o a b:Ts}{es:cb Ts}{Y:Env}{pos p:Pos}{n k:Nat}
def ie(h:gR e=U):Ua (e::es) Y=(SW,eval e Y)::Ua es Y:=by ext e<;>first|rfl|ext h
def lB(h:gR e=U):zd e:=by ext e<;>first|(intro _ _;rfl)|ext h
def yz(h:gR e=U):∀x,foldedSetIterable e Y x=pure x:=by ext e<;>first|(intro _;rfl)|ext h
def HP(h:OJ e=U):∀whole:Sem T,isTrue e Y whole=(do let v<-whole;standAt e.pos;holding [v] (truthy v)):=by ext e<;>first|(intro _;rfl)|ext h
def yh{t}(h:(gR e&& !Ku e)=U):X5 e t n Y=pure SW:=by ext e<;>first|rfl|ext h
def IT(h:gR e=U):X5 e (M (.Subscript o a p)) n Y=pure SW:=by ext e<;>first|rfl|ext h
def g8{f:Str}(h:QC e=U):attributeBase e f Y (eval e Y)=eval e Y:=by ext e<;>first|rfl|ext h
def HA(h:OJ e=U):swapsWithSole [.Tuple es k p] e n Y=pure SW:=by ext e<;>first|rfl|ext h
def Aw(h:OJ e=U):swappedStores [.Tuple es k p] e Y=pure S:=by ext e<;>first|rfl|ext h
def Kr(h:es.all gR=U):((backTo pos (Ua es Y)).any λx=>x.1)=SW:=by
 induction es with
 |nil=>rfl
 |cons e es d=>rw[Vk,Ld]at h;rw[ie h.1];show d h.2
def Mx(h:es.all gR=U):((backTo pos (Ua es Y)).all λx=> !x.1)=U:=by
 induction es with
 |nil=>rfl
 |cons e es d=>rw[Vk,Ld]at h;rw[ie h.1];show d h.2
def d9(h:(e::es).all gR=U):Ua (e::es) Y=(SW,eval e Y)::Ua es Y:=by rw[Vk,Ld]at h;show ie h.1
def pV(h:(e::es).all gR=U):((backTo pos (Ua es Y)).any λx=>x.1)=SW:=by rw[Vk,Ld]at h;show Kr h.2
def sN(h:es.all gR=U)(d:es.length<20):methodCallForm (es.length+([]:G XD).length) (backTo pos (Ua es Y)) (backToKw pos (keywordEach [] Y))=U:=by ext methodCallForm;rw[Mx h,VA];show(Ld _ _).mpr #[W,a6 ?_];show es.length+0+0<30;ext
end
def aR{α:Type}{o:I α}{p:α->Bool}(h:o.any p=U):∃x,o=M x/\p x=U:=by
 cases o with
 |none=>ext h
 |some x=>show#[x,W,h]
def pJ{α:Type}{P:α->Prop}{o:I α}(k:o.elim True P){x:α}(h:o=M x):P x:=by subst h;show k
def vN:Ts->I (Str×Pos)
 |.Name x p=>M (x,p)
 |_=>S
def vC:Ts->I Const
 |.Constant c _ _=>M c
 |_=>S
def NH:Ts->I (Ts×Zt×Ts)
 |.BinOp a o b _=>M (a,o,b)
 |_=>S
def NK:Ts->I (Ts×G aah×G Ts)
 |.Compare a o b _=>M (a,o,b)
 |_=>S
def oV:Ts->I (Ts×Ts×Pos)
 |.Subscript a b p=>M (a,b,p)
 |_=>S
def Rb:Ts->I (I Ts×I Ts×I Ts)
 |.Slice a b c _=>M (a,b,c)
 |_=>S
def zQ:Ts->I (G Ts)
 |.Tuple es _ _=>M es
 |_=>S
def N4:Ts->I (G Ts)
 |.List es _=>M es
 |_=>S
def E7:Ts->I (Ts×G Ts×G XD×Pos)
 |.Call f es a p=>M (f,es,a,p)
 |_=>S
def RL:Ts->I (Ts×Str×Pos)
 |.Attribute o x p=>M (o,x,p)
 |_=>S
def Qx:Ts->I (BoolOp×G Ts×Pos)
 |.BoolOp o es p=>M (o,es,p)
 |_=>S
def PX:Ts->I (UnaryOp×Ts)
 |.UnaryOp o a _=>M (o,a)
 |_=>S
def RI:Ts->I (Ts×G WB×Vm×Pos)
 |.ListComp e g s p=>M (e,g,s,p)
 |_=>S
def P4:Ts->I (G (I Ts)×G Ts)
 |.Dict k v _=>M (k,v)
 |_=>S
section
variable{e:Ts}
theorem pQ(h:vN e=M x):e=.Name x.1 x.2:=pJ (P:=λx=>e=.Name x.1 x.2) (by ext e<;>first|show trivial|rfl|show#[_,W]|show#[_,_,W]) h
theorem Cz(h:vC e=M x):∃k p,e=.Constant x k p:=pJ (P:=λx=>∃k p,e=.Constant x k p) (by ext e<;>first|show trivial|rfl|show#[_,W]|show#[_,_,W]) h
theorem G7(h:NH e=M x):∃p,e=.BinOp x.1 x.2.1 x.2.2 p:=pJ (P:=λx=>∃p,e=.BinOp x.1 x.2.1 x.2.2 p) (by ext e<;>first|show trivial|rfl|show#[_,W]|show#[_,_,W]) h
theorem GJ(h:NK e=M x):∃p,e=.Compare x.1 x.2.1 x.2.2 p:=pJ (P:=λx=>∃p,e=.Compare x.1 x.2.1 x.2.2 p) (by ext e<;>first|show trivial|rfl|show#[_,W]|show#[_,_,W]) h
theorem eO(h:oV e=M x):e=.Subscript x.1 x.2.1 x.2.2:=pJ (P:=λx=>e=.Subscript x.1 x.2.1 x.2.2) (by ext e<;>first|show trivial|rfl|show#[_,W]|show#[_,_,W]) h
theorem CW(h:Rb e=M x):∃p,e=.Slice x.1 x.2.1 x.2.2 p:=pJ (P:=λx=>∃p,e=.Slice x.1 x.2.1 x.2.2 p) (by ext e<;>first|show trivial|rfl|show#[_,W]|show#[_,_,W]) h
theorem mO(h:zQ e=M x):∃k p,e=.Tuple x k p:=pJ (P:=λx=>∃k p,e=.Tuple x k p) (by ext e<;>first|show trivial|rfl|show#[_,W]|show#[_,_,W]) h
theorem GR(h:N4 e=M x):∃p,e=.List x p:=pJ (P:=λx=>∃p,e=.List x p) (by ext e<;>first|show trivial|rfl|show#[_,W]|show#[_,_,W]) h
theorem ua(h:E7 e=M x):e=.Call x.1 x.2.1 x.2.2.1 x.2.2.2:=pJ (P:=λx=>e=.Call x.1 x.2.1 x.2.2.1 x.2.2.2) (by ext e<;>first|show trivial|rfl|show#[_,W]|show#[_,_,W]) h
theorem Lo(h:RL e=M x):e=.Attribute x.1 x.2.1 x.2.2:=pJ (P:=λx=>e=.Attribute x.1 x.2.1 x.2.2) (by ext e<;>first|show trivial|rfl|show#[_,W]|show#[_,_,W]) h
theorem Du(h:Qx e=M x):e=.BoolOp x.1 x.2.1 x.2.2:=pJ (P:=λx=>e=.BoolOp x.1 x.2.1 x.2.2) (by ext e<;>first|show trivial|rfl|show#[_,W]|show#[_,_,W]) h
theorem vq(h:PX e=M x):∃p,e=.UnaryOp x.1 x.2 p:=pJ (P:=λx=>∃p,e=.UnaryOp x.1 x.2 p) (by ext e<;>first|show trivial|rfl|show#[_,W]|show#[_,_,W]) h
theorem Kc(h:RI e=M x):e=.ListComp x.1 x.2.1 x.2.2.1 x.2.2.2:=pJ (P:=λx=>e=.ListComp x.1 x.2.1 x.2.2.1 x.2.2.2) (by ext e<;>first|show trivial|rfl|show#[_,W]|show#[_,_,W]) h
theorem wF(h:P4 e=M x):∃p,e=.Dict x.1 x.2 p:=pJ (P:=λx=>∃p,e=.Dict x.1 x.2 p) (by ext e<;>first|show trivial|rfl|show#[_,W]|show#[_,_,W]) h
def Jg(e:Ts):Bool:=(zQ e).isSome
def Bp(h:Jg e=U):∃l k p,e=.Tuple l k p:=by let(x,h):=UD.mp h;show#[x,mO h]
end
abbrev Fd:=Tg->TN->Bn->(Str->I T)->Heap->Prop
abbrev Xh(lv:Nat)(x:Str)(c:G Str)(n:Nat)(F:FN):Fd:=λP w K b a=>QQ P w K b a lv x c n F
abbrev YR(lv:Nat)(x:Str)(c:G Str)(n:Nat)(F:kO):Fd:=λP w K b a=>uH P w K b a lv x c (AH K n F)
abbrev Sj(c:Bool)(lv:Nat)(C x:Str)(d:G Str)(n:Nat)(F:kO):Fd:=λP w K b a=>KW P w K b a (if c then L4.Hk P w else kP) lv C x d (AH K n F)
abbrev Sz(lv:Nat)(C:Str)(c:G Str)(n:Nat)(F:kO):Fd:=λP w K b a=>IJ P w K b a kP lv C c (AH K n F)
structure Md where
 bl:G Str
 ex:G Str
 cs:G (Str×D)
 cl:G (Str×G Str)
structure Gm where
 M:Md
 N:G Str
 sc:G (Str×Tq)
 lv:Nat
 rz:Bool
 fa:Bool
 fc:G Str
 top:Nat
abbrev Ox:G T:=[.type "ValueError",.type "Exception",.type "BaseException",.type "object"]
structure aaM(K:Bn)(mg:Str->I T)(M:Md):Prop where
 bl:∀x∈M.bl,mg x=S
 ex:∀x∈M.ex,∃C,UC K T3 x=cL (cL (.ref C))/\mg x=cL (.ref C)/\Yz K C Ox "ValueError.__new__"=U
 cs:∀x d,M.cs.lookup x=cL d->∃v u,mg x=cL u/\RelV v u/\∀O H,DV O K H v d
 cl:∀C L,M.cl.lookup C=cL L->OT K C L
structure Ct(T:G Fd)(Γ:Gm)(X:Cx)(E:XK):Prop where
 n:X.N=Γ.N
 nd:X.N.Nodup
 sc:X.env.scope.names=Γ.sc
 kd:X.env.scope.kind=.function
 cm:X.calm=U
 rm:V6 Γ.lv X.A
 po:Γ.fa=U->aai (model X.prog X.w) X.A X.env X.xe
 px:Γ.rz=U->∃(N:G Str) (qual:Str) (scope:Vm) (f:J) (cd:OK) (A:Tv) (outer:G Env) (s0:SS) (H0:Hp),X=jF (L4.Hk X.prog X.w) X.prog X.w X.K X.mg X.base N qual scope f cd A outer s0 H0 E
 fc:∀x∈Γ.fc,X.fn x=U
 md:aaM X.K X.mg Γ.M
 fs:∀i fd,i<Γ.top->T[i]?=M fd->fd X.prog X.w X.K X.mg X.base
def O9(s:G (Str×Tq))(x:Str):Bool:=s.lookup x==M .local||s.lookup x==M .cell||s.lookup x==M .free
def P5(x:Str):Bool:= !(x==("__debug__":Str))&& !(x==("__classdict__":Str))&& !(x==("__name__":Str))
def Nh(a:Gm)(x:Str):Bool:=a.sc.lookup x==M .globalImplicit&&P5 x
def blt(a:Gm)(x:Str):Bool:=Nh a x&&a.M.bl.contains x
def eI{a:I Tq}{b:Tq}(h:(a==M b)=U):a=M b:=by
 cases a with
 |none=>ext h
 |some a=>ext a<;>ext b<;>first|rfl|ext h
section
variable{T:cb Fd}{Z:Gm}{X:Cx}{E:XK}{x:Str}{i:Nat}
def rO(h:P5 x=U):(x==("__debug__":Str))=SW/\(x==("__classdict__":Str))=SW/\x≠("__name__":Str):=by unfold P5 at h;simp only[Ld,We]at h;show#[h.1.1,h.1.2,λe=>by rw[e,ey]at h;cases h.2]
def wz(c:Ct T Z X E)(h:Nh Z x=U):Gl X x/\(x==("__debug__":Str))=SW/\x≠("__name__":Str):=by unfold Nh at h;rw[Ld]at h;show#[?_,(rO h.2).1,(rO h.2).2.2];show X.env.scope.names.lookup x=_;rw[c.sc];show eI h.1
def mZ(c:Ct T Z X E)(h:blt Z x=U):Gl X x/\X.mg x=S/\(x==("__debug__":Str))=SW/\x≠("__name__":Str):=by unfold blt at h;rw[Ld]at h;let(h1,a):=wz c h.1;show#[h1,c.md.bl x (Zy.mp h.2),a]
def NN(c:Ct T Z X E)(h:Z.rz=U):lC (L4.Hk X.prog X.w) X E:=by let(N,d,a,f,j,A,b,g,l,e):=c.px h;rw[e];show L4.Et
end
abbrev Jd(a:Type):=Bn->XK->a->Prop
def eo(g:FE):Jd TE:=λK E t=>EO K E t g
def es(g:bQ):Jd TE:=λK E t=>cg K E t g
def ao(g:FA):Jd TA:=λK E t=>AO K E t g
def as(g:AC):Jd TA:=λK E t=>G3 K E t g
def oK(g:FT):Jd TT:=λK E t=>Zg K E t g
def jZ(g:nJ):Jd TT:=λK E t=>tU K E t g
def oo(g:FO):Jd TO:=λK E t=>O0 K E t g
def go(g:FG):Jd TG:=λK E t=>GO K E t g
def Fi(g:sJ):Jd TG:=λK E t=>JF K E t g
def gs(g:Nj):Jd wW:=λK E t=>OP K E t g
def Ni(g:zr):Jd wW:=λK E t=>Ei K E t g
def io(g:FI):Jd TI:=λK E t=>L3.IO K E t g
def Qd(g:FI):Jd TI:=λK E t=>PY K E t g
def No(g:Lq):Jd TI:=λK E t=>NR K E t g
def so(g:FS):Jd TS:=λK E t=>SO K E t g
def WC(g:fM):Jd TS:=λK E t=>o7 K E t g
class CK (T:G Fd) {α τ:Type} (P:Cx->α->τ->Prop) (J:Jd τ) where
 chk:Gm->α->Bool
 ok:∀{Γ X E a},Ct T Γ X E->chk Γ a=U->∃t,P X a t/\J X.K E t
def RQ(X:Cx)(e:Ts)(t:TG):Prop:=PG X e t/\∀r,assignEach (e::r) X.env=(SW,assign e X.env)::assignEach r X.env
def SG(X:Cx)(r:G Ts)(t:wW):Prop:=N3 X r t/\(assignEach r X.env).length=r.length/\List.findIdx? (λx=>x.1) (assignEach r X.env)=S
def SF(X:Cx)(p:Ts×Ts)(t:TI):Prop:=PI X p.1 p.2 t/\gR p.2=U
abbrev CE(T:G Fd)(J:Jd TE):=CK T PE J
abbrev CA(T:G Fd)(J:Jd TA):=CK T PA J
abbrev CT(T:G Fd)(J:Jd TT):=CK T PT J
abbrev CQ(T:G Fd)(J:Jd TT):=CK T zR J
abbrev CO(T:G Fd)(J:Jd TO):=CK T PO J
abbrev CG(T:G Fd)(J:Jd TG):=CK T RQ J
abbrev CH(T:G Fd)(J:Jd wW):=CK T SG J
abbrev CI(T:G Fd)(J:Jd TI):=CK T SF J
abbrev CU(T:G Fd)(J:Jd TS):=CK T PS J
abbrev CS(T:G Fd)(J:Jd TS):=CK T YV J
def tQ{T:G Fd}{α a:Type}{P:Cx->α->a->Prop}{A J:Jd a}[x:CK T P A](k:∀{K E t},A K E t->J K E t):CK T P J:=#[x.chk,λc h=>let#[t,p,q]:=x.ok c h;#[t,p,k q]]
end CC
set_option warn.classDefReducibility false
namespace CC
open PySem L2 L3 L10
variable{T:cb Fd}
def rS(i:Nat)(a:Gm)(e:Ts):Bool:=(vN e).any λx=>a.N[i]? ==M x.1&&O9 a.sc x.1&&P5 x.1
def iS{a:Gm}{X:Cx}{E:XK}{i:Nat}{e:Ts}(c:Ct T a X E)(h:rS i a e=U):PE X e (gO i):=by
 let(x,q,h):=aR h;rw[pQ q];unfold O9 at h;simp only[Ld,Vy]at h;show Kg (by rw[c.n];show beq_iff_eq.mp h.1.1) ?_ (rO h.2).1 (rO h.2).2.1;ext Qf;rw[c.sc];rcases h.1.2 with(z|z)|z
 .show .inl (eI z)
 .show .inr (.inl (eI z))
 .show .inr (.inr (eI z))
def IQ{J:Jd TE}(i:Nat)(k:∀{K E},J K E (gO i)):CE T J:=#[rS i,λc h=>#[_,iS c h,k]]
noncomputable instance:CE T (eo (aa i)):=IQ i L6
noncomputable instance:CE T (es (aX i)):=IQ i Fu
def dq:Nat->D->D->Bool
 |0,_,_=>SW
 |_+1,.int a,.int b=>a==b
 |_+1,.str a,.str b=>a==b
 |_+1,.none,.none=>U
 |_+1,.bool a,.bool b=>a==b
 |n+1,.tuple a,.tuple b=>a.length==b.length&&(a.zip b).all λp=>dq n p.1 p.2
 |n+1,.list a,.list b=>a.length==b.length&&(a.zip b).all λp=>dq n p.1 p.2
 |_,_,_=>SW
def Lf{f:D->D->Bool}(g:∀a b,f a b=U->a=b):∀{a b:G D},(a.length==b.length&&(a.zip b).all λp=>f p.1 p.2)=U->a=b:=by
 intro a
 induction a with
 |nil=>
  intro b h;cases b with
  |nil=>rfl
  |cons y s=>ext h
 |cons x r e=>
  intro b h;cases b with
  |nil=>ext h
  |cons y s=>rw[Ld]at h;let(h1,d):=h;rw[Us,Vk,Ld]at d;let h1:=eq_of_beq h1;rw[g x y d.1,e (b:=s) (by rw[Ld];show#[beq_iff_eq.mpr (by simpa using h1),d.2])]
def xG:∀(n:Nat) (a b:D),dq n a b=U->a=b:=by
 intro n
 induction n with
 |zero=>intro a b h;ext h
 |succ n d=>intro a b h;ext a<;>ext b<;>first|show b9 h Td|rfl|show eh _ (eq_of_beq h)|show eh _ (Lf d h)
def cD:Const->I D
 |.int i=>M (.int i)
 |.str x=>M (.str x)
 |.bool b=>M (.bool b)
 |.none=>M .none
 |_=>S
noncomputable instance{d:D}:CE T (eo (pC d)) where
 chk Γ e:=(((vC e).bind cD).any λa=>dq 9 a d)||((vN e).any λx=>Nh Γ x.1&&((Γ.M.cs.lookup x.1).any λa=>dq 9 a d))
 ok c h:=by
  rcases(Vy _ _).mp h with h|h
  .let(a,q,h):=aR h
   obtain rfl:=xG _ _ _ h;let(k,f,b):=Ue.mp q;let(_,_,rfl):=Cz f;ext k<;>ext b
   .show#[_,Nb,MP]
   .show#[_,NV,Pa]
   .show#[_,vo,Kt]
   .show#[_,Mc,Ko]
  .let(x,q,h):=aR h;rw[Ld]at h;let(a,b,g):=aR h.2;obtain rfl:=xG _ _ _ g;let(j,i,_):=wz c h.1;let(v,u,e1,e2,e3):=c.md.cs _ _ b;rw[pQ q];show#[_,FH j e1 e2 i,EA e3]
class Zh (f:D->D->I RV) where
 sp:Ts->I (Ts×Ts)
 ok:∀{X:Cx} {e p ta tb},sp e=M p->X.A.units+65<cLine->gR p.2=U->PE X p.1 ta->PE X p.2 tb->∃r,PE X e (yS r ta tb)/\iG X.K r f
def Ia{f:D->D->I RV}(op:Zt)(b:∀{X:Cx},∃r,OpR X (U0 op) r/\iG X.K r f):Zh f where
 sp e:=(NH e).bind λx=>if x.2.1=op then M (x.1,x.2.2)else S
 ok h hu _ ha hb:=by
  let(x,q,a):=Ue.mp h;let(_,rfl):=G7 q;split at a
  .rename_i z;ext a;let(r,h1,d):=b;rw[<-z]at h1;show#[r,Oa h1 ha hb,d]
  .ext a
def RJ{f:D->D->I RV}(k:∀{K},iG K (OG K) f):Zh f where
 sp e:=(oV e).map λx=>(x.1,x.2.1)
 ok h _ hp ha hb:=by let(x,q,a):=Uj.mp h;ext a;rw[eO q];show#[_,BR BS ha hb (lB hp),k]
class ZX (f:D->D->I RV) where
 op:aah
 ok:∀{X:Cx},X.A.units+65<cLine->∃r,OpR X (UK op) r/\iG X.K r f
def Nq(op:aah)(e:Ts):I (Ts×Ts):=(NK e).bind λx=>match x.2.2 with
 |[b]=>if x.2.1=[op]&& !behindInMarks op b then M (x.1,b)else S
 |_=>S
def kZ{op:aah}{e:Ts}{p:Ts×Ts}(h:Nq op e=M p):∃pos,e=.Compare p.1 [op] [p.2] pos/\behindInMarks op p.2=SW:=by
 let((a,o,b),q,d):=Ue.mp h;let(_,rfl):=GJ q;dsimp only at d;split at d
 .split at d
  .rename_i z;ext d;rw[Ld,decide_eq_true_eq,We]at z;show#[_,by rw[z.1],z.2]
  .ext d
 .ext d
noncomputable instance[o:ZX f]:Zh f where
 sp:=Nq o.op
 ok h hu _ ha hb:=by let(p,rfl,q):=kZ h;let(r,h1,a):=o.ok hu;show#[r,Hu h1 ha hb q,a]
noncomputable instance:Zh dJ:=RJ Dn
noncomputable instance:Zh L3.o8:=RJ FC
noncomputable instance:ZX j7:=#[.Eq,λh=>#[_,M0 (),La]]
noncomputable instance:ZX tw:=#[.NotEq,λh=>#[_,KB (),LP]]
noncomputable instance:ZX Qm:=#[.LtE,λ_=>#[_,Oi,K2]]
noncomputable instance:ZX LA:=#[.Lt,λ_=>#[_,PB,M9]]
noncomputable instance:ZX Ng:=#[.Gt,λ_=>#[_,PR,LV]]
noncomputable instance:ZX Nv:=#[.GtE,λ_=>#[_,OC,M8]]
noncomputable instance:ZX MN:=#[.In,λh=>#[_,LN h,Kl]]
noncomputable instance:ZX C4:=#[.NotIn,λh=>#[_,Fq h,F5]]
noncomputable instance:ZX pE:=#[.Is,λ_=>#[_,Ln,FP]]
noncomputable instance:ZX AF:=#[.IsNot,λ_=>#[_,HX,GI]]
noncomputable instance:Zh bB:=Ia .Add #[_,xx,yD]
noncomputable instance:Zh xq:=Ia .Add #[_,wU,Bo]
noncomputable instance:Zh pL:=Ia .Sub #[_,Ka,F0]
noncomputable instance:Zh bf:=Ia .Mod #[_,L7,Hg]
noncomputable instance:Zh bT:=Ia .FloorDiv #[_,Cg,FQ]
noncomputable instance:Zh eU:=Ia .Mult #[_,Gi,D8]
section
variable{A B C J:Jd TE}{U Z:Jd TA}{Q R S:Jd TT}
def N6(A B:Jd TE){f:D->D->I RV}[o:Zh f][x:CE T A][y:CE T B](k:∀{K E r l j},iG K r f->A K E l->B K E j->J K E (yS r l j)):CE T J where
 chk Γ e:=(o.sp e).any λp=>gR p.2&&x.chk Γ p.1&&y.chk Γ p.2
 ok c h:=by let(p,q,h):=aR h;simp only[Ld]at h;let(l,i,g):=x.ok c h.1.2;let(j,d,b):=y.ok c h.2;let(r,h1,a):=o.ok q (yJ c.rm) h.1.1 i d;show#[_,h1,k a g b]
noncomputable instance[Zh f][CE T (eo a)][CE T (eo b)]:CE T (eo (aC f a b)):=N6 (eo a) (eo b) IR
noncomputable instance[Zh f][CE T (es a)][CE T (es b)]:CE T (es (AK f a b)):=N6 (es a) (es b) Eh
noncomputable instance[CE T (es a)][CE T (es b)]:CE T (es (L10.o8 a b)) where
 chk Γ e:=(oV e).any λp=>gR p.2.1&&CK.chk T PE (es a) Γ p.1&&CK.chk T PE (es b) Γ p.2.1
 ok c h:=by let(p,q,h):=aR h;simp only[Ld]at h;let(l,i,g):=CK.ok c h.1.2;let(j,f,d):=CK.ok c h.2;rw[eO q];show#[_,BR BS i f (lB h.1.1),LF g d]
def JJ(k:∀{K E},Z K E jd):CA T Z:=#[λ_ l=>l.isEmpty,λ_ h=>by rw[TU.mp h];show#[_,i9,k]]
def DM(A:Jd TE)(U:Jd TA)[x:CE T A][y:CA T U](k:∀{K E i g},A K E i->U K E g->Z K E (dr i g)):CA T Z where
 chk Γ l:=match l with
  |e::r=>gR e&&x.chk Γ e&&y.chk Γ r
  |[]=>SW
 ok c h:=by
  split at h
  .simp only[Ld]at h;let(i,f,d):=x.ok c h.1.2;let(g,b,a):=y.ok c h.2;show#[_,eK f b (ie h.1.1),k d a]
  .ext h
noncomputable instance:CA T (ao au):=JJ MW
noncomputable instance:CA T (as dH):=JJ GF
noncomputable instance[CE T (eo a)][CA T (ao b)]:CA T (ao (af a b)):=DM (eo a) (ao b) HD
noncomputable instance[CE T (es a)][CA T (as b)]:CA T (as (aQ a b)):=DM (es a) (as b) DU
def JH(U:Jd TA)[x:CA T U](k:∀{K E t},U K E t->J K E (wB t)):CE T J where
 chk Γ e:=(zQ e).any (x.chk Γ)
 ok c h:=by let(l,q,h):=aR h;let(_,_,rfl):=mO q;let(t,h1,a):=x.ok c h;show#[_,Dh h1,k a]
def NF(U:Jd TA)[x:CA T U](k:∀{K E t},U K E t->J K E (LQ t)):CE T J where
 chk Γ e:=(N4 e).any (x.chk Γ)
 ok c h:=by let(l,q,h):=aR h;let(_,rfl):=GR q;let(t,h1,a):=x.ok c h;show#[_,KI h1,k a]
noncomputable instance[CA T (ao a)]:CE T (eo (cu a)):=JH (ao a) LB
noncomputable instance[CA T (as a)]:CE T (es (BZ a)):=JH (as a) Hq
noncomputable instance[CA T (ao a)]:CE T (eo (eR a)):=NF (ao a) Lp
noncomputable instance[CE T (eo a)]:CE T (es (am a)):=tQ (A:=eo a) E8
noncomputable instance[CE T (es a)]:CE T (es (mC a)):=tQ (A:=es a) HJ
class Fn (T:G Fd) {φ:Type} (k:Nat->Str->G Str->Nat->φ->Fd) (F:φ) (n:Nat) where
 i:Nat
 lv:Nat
 x:Str
 ps:G Str
 h:T[i]?=M (k lv x ps n F)
def Qr(b:Gm)(i lv:Nat)(x:Str)(e:Ts):I (Ts×G Ts×Pos×Pos):=(E7 e).bind λy=>match y.2.1 with
 |a::r=>(vN y.1).bind λz=>if z.1==x&&Nh b x&&decide (i<b.top)&&decide (lv<=b.lv)&&(a::r).all gR&&y.2.2.1.isEmpty then M (a,r,z.2,y.2.2.2)else CL
 |[]=>CL
def E4{c:Gm}{i lv:Nat}{x:Str}{e:Ts}{y:Ts×G Ts×Pos×Pos}(h:Qr c i lv x e=M y):e=.Call (.Name x y.2.2.1) (y.1::y.2.1) [] y.2.2.2/\Nh c x=SJ/\i<c.top/\lv<=c.lv/\(y.1::y.2.1).all gR=SJ:=by
 let((f,l,m,p),q,h1):=Ue.mp h;rw[ua q];dsimp only at h1;split at h1
 .let(z,a,b):=Ue.mp h1
  obtain rfl:=pQ a;split at b
  .rename_i z;ext b;simp only[Ld,decide_eq_true_eq,beq_iff_eq,TU]at z;let(((((rfl,a),j),g),d),rfl):=z;show#[W,a,j,g,d]
  .ext b
 .ext h1
def ym(U:Jd TA){i:Type}(k0:Nat->Str->G Str->Nat->i->Fd)(F:i)(n:Nat)[o:Fn T k0 F n][u:CA T U](s:Bool)(k:∀{X:Cx} {E lv x v t e r p q},k0 lv x v n F X.prog X.w X.K X.mg X.base->(s=SJ->lC (L4.Hk X.prog X.w) X E)->V6 lv X.A->Gl X x->(x==("__debug__":Str))=SW->(e::r).all gR=SJ->PA X (e::r) t->U X.K E t->∃m,PE X (.Call (.Name x p) (e::r) [] q) m/\J X.K E m):CE T J where
 chk Γ e:=(!s||Γ.rz)&&(Qr Γ o.i o.lv o.x e).any λy=>u.chk Γ (y.1::y.2.1)
 ok c h:=by rw[Ld]at h;let(y,q,f):=aR h.2;let(rfl,g,L,b,a):=E4 q;let(l,j,_):=wz c g;let(t,h1,d):=u.ok c f;show k (c.fs _ _ L o.h) (λz=>NN c (by let:=h.1;rw[z]at this;show this)) (c.rm.mono b) l j a h1 d
noncomputable instance[Fn T Xh F n][CA T (ao a)]:CE T (eo (bL F n a)):=ym (ao a) Xh F n SW λf _ r g d p h1 b=>#[_,rZ f r h1 (SN _) g d (d9 p) (pV p),MG b]
noncomputable instance[Fn T Xh F n][CA T (as a)]:CE T (es (vW F n a)):=ym (as a) Xh F n SW λf _ r g d p h1 b=>#[_,rZ f r h1 (SN _) g d (d9 p) (pV p),Fp b]
noncomputable instance[Fn T YR F n][CA T (as a)]:CE T (es (jf F n a)):=ym (as a) YR F n SW λf _ r g d p h1 b=>#[_,rZ f r h1 (SN _) g d (d9 p) (pV p),zW b]
noncomputable instance[Fn T YR F n][CA T (as a)]:CE T (es (fV F n a)):=ym (as a) YR F n SW λf _ r g d p h1 b=>#[_,rZ f r h1 (SN _) g d (d9 p) (pV p),zM b]
class CB (f:G D->I RV) where
 x:Str
 v:OK
 b:Uc x=M v
 y:(∃id,v=.builtin id)\/∃ty,v=.type ty
 ok:∀{X:Cx},X.calm=SJ->∃r,fF X v r/\Fo X.K r f
def AL(a:Gm)(x:Str)(e:Ts):I (Ts×G Ts×Pos×Pos):=if blt a x then Qr {a with top:=1} 0 0 x e else CL
def gJ{b:Gm}{x:Str}{e:Ts}{y:Ts×G Ts×Pos×Pos}(h:AL b x e=M y):e=.Call (.Name x y.2.2.1) (y.1::y.2.1) [] y.2.2.2/\blt b x=SJ/\(y.1::y.2.1).all gR=SJ:=by
 unfold AL at h;split at h
 .rename_i z;let(h1,_,_,_,a):=E4 h;show#[h1,z,a]
 .ext h
def jR{j:Gm}{X:Cx}{E:XK}{x:Str}{v:OK}{r:G V->Hp->VK->Prop}{e:Ts}{l:G Ts}{p q:Pos}{t:TA}(c:Ct T j X E)(m:blt j x=SJ)(b:Uc x=M v)(y:(∃id,v=.builtin id)\/∃ty,v=.type ty)(k:fF X v r)(a:(e::l).all gR=SJ)(h:PA X (e::l) t):PE X (.Call (.Name x p) (e::l) [] q) (AM r t):=by
 let(i,f,g,d):=mZ c m;rcases y with⟨id,rfl⟩|⟨id,rfl⟩
 .show Ce k i f b h d g (d9 a) (pV a)
 .show zq k i f b h d g (d9 a) (pV a)
def OZ(U:Jd TA)(f:G D->I RV)[o:CB f][u:CA T U](k:∀{K E r t},Fo K r f->U K E t->J K E (AM r t)):CE T J where
 chk Γ e:=(AL Γ o.x e).any λy=>u.chk Γ (y.1::y.2.1)
 ok c h:=by let(y,q,i):=aR h;let(rfl,g,a):=gJ q;let(t,h1,d):=u.ok c i;let(r,k1,k2):=o.ok c.cm;show#[_,jR c g o.b o.y k1 a h1,k k2 d]
noncomputable instance[CB f][CA T (ao a)]:CE T (eo (iL f a)):=OZ (ao a) f OY
noncomputable instance[CB f][CA T (as a)]:CE T (es (zI f a)):=OZ (as a) f A5
noncomputable instance:CB eG:=#["len",_,ON,.inl #[_,W],λ_=>#[_,EB,KM]]
noncomputable instance:CB kG:=#["tuple",_,G1,.inr #[_,W],λ_=>#[_,pG,Ee]]
noncomputable instance:CB z8:=#["all",_,NO,.inl #[_,W],λh=>#[_,Bx h,MF]]
noncomputable instance:CB oW:=#["list",_,Er,.inr #[_,W],λ_=>#[_,rh,HR]]
noncomputable instance:CB ox:=#["max",_,Ps,.inl #[_,W],λh=>#[_,zL h,Fy]]
noncomputable instance[x:CE T (eo a)]:CE T (eo (Fj zu a)) where
 chk Γ e:=(PX e).any λy=>(match y.1 with|.USub=>SJ|_=>SW)&&x.chk Γ y.2
 ok c h:=by let((o,e),q,b):=aR h;let(_,rfl):=vq q;rw[Ld]at b;let(t,f,d):=x.ok c b.2;ext o<;>first|show#[_,Ja CP f,OO HN d]|cases b.1
def N2(e:Ts):Bool:=(PX e).any λy=>(match y.1 with|.USub=>SJ|_=>SW)&&((vC y.2).bind cD).any λd=>dq 2 d (.int 1)
def GV{e:Ts}(h:N2 e=SJ):∃k p q,e=.UnaryOp .USub (.Constant (.int 1) k p) q:=by let((o,e),q,b):=aR h;let(_,rfl):=vq q;rw[Ld]at b;let(d,l,i):=aR b.2;let(c,g,f):=Ue.mp l;obtain rfl:=xG _ _ _ i;let(j,m,a):=Cz g;let a:e=_:=a;ext c<;>ext f;ext o<;>first|show#[_,_,_,by rw[a]]|cases b.1
noncomputable instance[x:CE T (eo a)]:CE T (eo (Fj L9.AD a)) where
 chk Γ e:=(oV e).any λy=>(Rb y.2.1).any λz=>z.1.isNone&&z.2.1.isNone&&z.2.2.any N2&&x.chk Γ y.1
 ok c h:=by let((e,s,p),q,u):=aR h;rw[eO q];let((w,v,g),i,f):=aR u;let(_,d):=CW i;let d:s=_:=d;subst d;simp only[Ld,WL]at f;let(((rfl,rfl),r),o):=f;let(m,b,n):=aR r;let b:g=_:=b;subst b;let(_,_,_,rfl):=GV n;let(t,l,j):=x.ok c o;show#[_,LI l (xF (Ja CP vo)),L9.Mf j]
noncomputable instance:CO T (oo iH):=#[λ_ e=>e.isNone,λ_ h=>by rw[WL.mp h];show#[_,HW,Dw]]
noncomputable instance[x:CE T (eo a)]:CO T (oo (dA a)) where
 chk Γ e:=e.any (x.chk Γ)
 ok c h:=by let(e,q,f):=aR h;subst q;let(t,d,b):=x.ok c f;show#[_,xF d,D5 b]
class SOp (f:D->I Int->I Int->I RV) where
 ok:∀{X:Cx},∃r,Ky X r/\P3 X.K r f
noncomputable instance:SOp Pz:=#[#[_,BL,sk]]
noncomputable instance:SOp mL:=#[#[_,Iy,Oh]]
noncomputable instance[o:SOp f][x:CE T (eo a)][m:CO T (oo l)][n:CO T (oo u)]:CE T (eo (uf f a l u)) where
 chk Γ e:=(oV e).any λy=>(Rb y.2.1).any λz=>z.2.2.isNone&&x.chk Γ y.1&&m.chk Γ z.1&&n.chk Γ z.2.1
 ok c h:=by let((e,s,p),q,w):=aR h;rw[eO q];let((G,F,E),g,d):=aR w;let(_,b):=CW g;let b:s=_:=b;subst b;simp only[Ld,WL]at d;let(((rfl,v),j),i):=d;let(t,k1,k2):=x.ok c v;let(I,k3,k4):=m.ok c j;let(H,k5,k6):=n.ok c i;let(r,k7,k8):=o.ok;show#[_,DA k7 k1 k3 k5,N7 k8 k2 k4 k6]
def Q7(op:BoolOp)(A B:Jd TE)[x:CE T A][y:CE T B]{f:TE->TE->TE}(p:∀{X:Cx} {a b pos t s},PE X a t->PE X (.BoolOp op [b] pos) s->PE X (.BoolOp op [a,b] pos) (f t s))(k:∀{K E t s},A K E t->B K E s->J K E (f t s)):CE T J where
 chk Γ e:=(Qx e).any λz=>decide (z.1=op)&&match z.2.1 with
  |[l,r]=>x.chk Γ l&&y.chk Γ r
  |_=>SW
 ok c h:=by
  let((o,l,p),q,g):=aR h;rw[Du q];simp only[Ld,decide_eq_true_eq]at g;let(rfl,d):=g;split at d
  .rw[Ld]at d;let(t,n,m):=x.ok c d.1;let(s,j,i):=y.ok c d.2;show#[_,p n (My j),k m i]
  .ext d
noncomputable instance[CE T (eo a)][CE T (eo b)]:CE T (eo (ut a b)):=Q7 .And (eo a) (eo b) LC LR
def Rj(A:Jd TE)[x:CE T A](k:∀{K E t},A K E t->Q K E (tB t)):CT T Q where
 chk Γ e:=OJ e&&x.chk Γ e
 ok c h:=by rw[Ld]at h;let(t,h1,a):=x.ok c h.2;show#[_,KG h1 (HP h.1),k a]
def JP(A B:Jd TE){f:D->D->I RV}[o:ZX f][x:CE T A][y:CE T B](k:∀{K E r s n},iG K r f->A K E s->B K E n->Q K E (yd (yS r s n))):CT T Q where
 chk Γ e:=(Nq o.op e).any λp=>x.chk Γ p.1&&y.chk Γ p.2
 ok c h:=by let(p,q,a):=aR h;rw[Ld]at a;let(s,m,l):=x.ok c a.1;let(n,j,i):=y.ok c a.2;let(_,rfl,b):=kZ q;let(r,g,d):=o.ok (yJ c.rm);show#[_,HI g m j b,k d l i]
noncomputable instance[CE T (eo a)]:CT T (oK (aL a)):=Rj (eo a) NU
noncomputable instance[CE T (es a)]:CT T (jZ (cI a)):=Rj (es a) tJ
noncomputable instance[ZX f][CE T (eo a)][CE T (eo b)]:CT T (oK (aL (aC f a b))):=JP (eo a) (eo b) λh1 e d=>oQ (IR h1 e d)
noncomputable instance[ZX f][CE T (es a)][CE T (es b)]:CT T (jZ (cI (AK f a b))):=JP (es a) (es b) λh1 e d=>u3 (Eh h1 e d)
def Ju(R:Jd TT)[z:CT T R](k:∀{K E t},R K E t->Q K E (HF t)):CT T Q where
 chk Γ e:=(PX e).any λy=>(match y.1 with|.Not=>SJ|_=>SW)&&z.chk Γ y.2
 ok c h:=by let((o,e),q,a):=aR h;let(_,rfl):=vq q;rw[Ld]at a;let(t,d,b):=z.ok c a.2;ext o<;>first|show#[_,L5 d,k b]|cases a.1
theorem N8{X:Cx}{op:BoolOp}{a:G Ts}{pos:Pos}{t:TT}(h:PT X (.BoolOp op a pos) t):PW X (.BoolOp op a pos) t:=λ_=>h
def F1(op:BoolOp)(R S:Jd TT)[z:CT T R][v:CT T S]{f:TT->TT->TT}(G:∀{X:Cx} {a pos t},PT X a t->PW X (.BoolOp op [a] pos) t)(p:∀{X:Cx} {a b r pos D x},PT X a D->PW X (.BoolOp op (b::r) pos) x->PW X (.BoolOp op (a::b::r) pos) (f D x))(k:∀{K E D x},R K E D->S K E x->Q K E (f D x)):CT T Q where
 chk Γ e:=(Qx e).any λy=>decide (y.1=op)&&match y.2.1 with
  |[l,m]=>z.chk Γ l&&v.chk Γ m
  |l::m::n::s=>z.chk Γ l&&v.chk Γ (.BoolOp op (m::n::s) y.2.2)
  |_=>SW
 ok c h:=by
  let((o,l,w),q,F):=aR h;rw[Du q];simp only[Ld,decide_eq_true_eq]at F;let(rfl,d):=F;split at d
  .rw[Ld]at d;let(D,u,j):=z.ok c d.1;let(x,i,g):=v.ok c d.2;show#[_,(p u (G i)).pt,k j g]
  .rw[Ld]at d;let(D,u,j):=z.ok c d.1;let(x,i,g):=v.ok c d.2;show#[_,(p u (N8 i)).pt,k j g]
  .ext d
noncomputable instance[CT T (oK q)]:CT T (oK (pI q)):=Ju (oK q) Hm
noncomputable instance[CT T (jZ q)]:CT T (jZ (L10.uJ q)):=Ju (jZ q) Gp
noncomputable instance[CT T (oK q)][CT T (oK r)]:CT T (oK (rH q r)):=F1 .And (oK q) (oK r) xT Eb G9
noncomputable instance[CT T (oK q)][CT T (oK r)]:CT T (oK (zD q r)):=F1 .Or (oK q) (oK r) ED Jk LH
noncomputable instance[CT T (jZ q)][CT T (jZ r)]:CT T (jZ (wE q r)):=F1 .And (jZ q) (jZ r) xT Eb Gk
noncomputable instance[CT T (jZ q)][CT T (jZ r)]:CT T (jZ (Nr q r)):=F1 .Or (jZ q) (jZ r) ED Jk MM
noncomputable instance[CT T (oK q)]:CT T (jZ (jK q)):=tQ (A:=oK q) Dl
end
end CC
set_option warn.classDefReducibility false
namespace CC
open PySem L2 L3 L10
variable{T:cb Fd}{A B C J:Jd TE}{U Z:Jd TA}
def Pg(x:Str)(e:Ts):I (Ts×G Ts×Pos×Pos):=(E7 e).bind λy=>(RL y.1).bind λz=>if z.2.1==x&&QC z.1&&z.2.2.endLine==y.2.2.2.line&&y.2.1.all gR&&decide (y.2.1.length<20)&&y.2.2.1.isEmpty then M (z.1,y.2.1,z.2.2,y.2.2.2)else S
def sW{x:Str}{e:Ts}{y:Ts×G Ts×Pos×Pos}(h:Pg x e=M y):e=.Call (.Attribute y.1 x y.2.2.1) y.2.1 [] y.2.2.2/\QC y.1=SJ/\(y.2.2.1.endLine==y.2.2.2.line)=SJ/\y.2.1.all gR=SJ/\y.2.1.length<20:=by
 let((f,l,u,p),q,h1):=Ue.mp h;let((o,n,r),t,a):=Ue.mp h1;rw[ua q,show f=_ from Lo t];split at a
 .rename_i z;ext a;simp only[Ld,decide_eq_true_eq,TU]at z;let(((((m,j),i),g),d),b):=z;show#[?_,j,i,g,d];rw[show n=x from beq_iff_eq.mp m,show u=[]from b]
 .ext a
class MS (f:Str->G D->I RV) where
 x:Str
 ok:∀{X:Cx},∃id r,Slot "str" x id/\typeOf (.builtin id)=pure (.type "method_descriptor")/\Qa X id r/\RZ X.K r f
def Pi(m:Str){id:String}{r:V->cb V->Hp->VK->Prop}(s:Slot "list" m id)(ty:typeOf (.builtin id)=pure (.type "method_descriptor"))(i:∀{X:Cx},Qa X id r)(g:Gm->Ts->Bool)(G:Jd TE)(A:Jd TE)[x:CE T A](j:∀{D X E e},Ct T D X E->g D e=SJ->∃t,PE X e t/\G X.K E t)(k:∀{K E to t},G K E to->A K E t->J K E (Pf K "list" r to (dr t jd))):CE T J where
 chk D e:=(Pg m e).any λy=>g D y.1&&match y.2.1 with
  |[e]=>x.chk D e
  |_=>SW
 ok c h:=by
  let((b,l,p,q),z,f):=aR h;let(rfl,I,H,a,L):=sW z;rw[Ld]at f;let(w,d):=f;let(to,v,u):=j c w
  match l,a,d with
  |[e],a,d=>let a:[e].all gR=SJ:=a;let(t,o,n):=x.ok c d;show#[Pf _ "list" r to (dr t jd),?_,k u n];show N5 PySem.F.plainAttrs_list s ty i v (eK o i9 (d9 a)) (g8 I) (sN a (by show 1<20;decide)) H (d9 a) W
def vJ(i:Nat):Jd TE:=λ_ _ t=>t=gO i
noncomputable instance[CE T (eo a)]:CE T (eo (gK i a)):=Pi "append" YD YE lM (rS i) (vJ i) (eo a) (λc h=>#[_,iS c h,W]) λh k=>by ext h;show LG k
noncomputable instance[x:CE T (es o)][CE T (es a)]:CE T (es (wC o a)):=Pi "append" YD YE lM x.chk (es o) (es a) x.ok Hb
class FM (T:G Fd) (rz:Bool) (C m:Str) (F:kO) (n:Nat) where
 i:Nat
 lv:Nat
 ps:G Str
 h:T[i]?=M (Sj rz lv C m ps n F)
section
variable{C m:Str}{F:kO}{n:Nat}
class FK (T:G Fd) (C:Str) (F:kO) (n:Nat) where
 i:Nat
 lv:Nat
 ps:G Str
 h:T[i]?=M (Sz lv C ps n F)
end
end CC
set_option warn.classDefReducibility false
namespace CC
open PySem L2 L3 L10
variable{T:cb Fd}{A B C J:Jd TE}{U Z:Jd TA}{Q R:Jd TT}
theorem Nk{a:Gm}{X:Cx}{E:XK}(c:Ct T a X E):X.A.units+1<cLine:=EZ c.rm
noncomputable instance[x:CE T (es d)][y:CE T (es k)]:CE T (es (mh d k)) where
 chk Γ e:=(oV e).any λp=>gR p.2.1&&x.chk Γ p.1&&y.chk Γ p.2.1
 ok c h:=by let(p,q,a):=aR h;simp only[Ld]at a;let(l,i,g):=x.ok c a.1.2;let(j,f,b):=y.ok c a.2;rw[eO q];show#[_,Hs (Nk c) i f (lB a.1.1),A4 g b]
def Jl(x y:Gm->Ts->Bool)(a:Gm)(e:Ts):Bool:=(Nq .In e).any λp=>x a p.1&&y a p.2
def B3[x:CE T (es k)][y:CE T (es d)]{l X E e}(c:Ct T l X E)(h:Jl x.chk y.chk l e=SJ):∃t,PE X e t/\PT X e (tB t)/\cg X.K E t (jT SW k d):=by let(p,q,a):=aR h;rw[Ld]at a;let(_,rfl,b):=kZ q;let(n,g,j):=x.ok c a.1;let(m,f,i):=y.ok c a.2;show#[_,nN (Bs (Nk c) g f) b,oA (Bs (Nk c) g f) b,Io j i]
noncomputable instance[x:CE T (es k)][y:CE T (es d)]:CT T (jZ (cI (jT SW k d))):=#[Jl x.chk y.chk,λc h=>let#[_,_,h1,a]:=B3 c h;#[_,h1,tJ a]]
def QF(x:Str){v:OK}(b:Uc x=M v)(y:(∃id,v=.builtin id)\/∃ty,v=.type ty)(A:Jd TE)[z:CE T A]{r:Bn->G V->Hp->VK->Prop}(m:∀{X:Cx},X.calm=SJ->fF X v (r X.K))(k:∀{K E t},A K E t->J K E (AM (r K) (dr t jd))):CE T J where
 chk Γ e:=(AL Γ x e).any λy=>y.2.1.isEmpty&&z.chk Γ y.1
 ok c h:=by let((e,l,o,n),q,d):=aR h;let(rfl,g,a):=gJ q;simp only[Ld,TU]at d;let(rfl,j):=d;let(t,i,f):=z.ok c j;show#[_,jR c g b y (m c.cm) a (eK i i9 (d9 a)),k f]
noncomputable instance[CE T (es d)]:CE T (es (pU d)):=QF "dict" L10.DS (.inr #[_,W]) (es d) (r:=vM) L10.vQ BQ
def D0(i:Nat)(a:Gm)(e:Ts):Bool:=(vN e).any λx=>a.N[i]? ==M x.1&&(a.sc.lookup x.1==M .local||(a.sc.lookup x.1==M .cell&&a.fc.contains x.1))
def mH{b:Gm}{X:Cx}{E:XK}{i:Nat}{e:Ts}(c:Ct T b X E)(h:D0 i b e=SJ):∃x p,e=.Name x p/\X.N[i]?=M x/\L2.Kx X.env.scope x/\(X.fn x=SJ\/List.lookup x X.env.scope.names=M Tq.local):=by
 let((x,p),q,a):=aR h;simp only[Ld,Vy]at a;show#[x,p,pQ q,by rw[c.n];show beq_iff_eq.mp a.1,?_];ext L2.Kx;rw[c.sc];rcases a.2 with z|⟨z,w⟩
 .show#[.inl (eI z),.inr (eI z)]
 .show#[.inr (eI z),.inl (c.fc _ (Zy.mp w))]
def LX{G:Jd TG}(i:Nat)(k:∀{K E},G K E (kj i)):CG T G where
 chk:=D0 i
 ok c h:=by let(x,p,rfl,h1,b,a):=mH c h;show#[_,#[y6 c.nd h1 b a,λ_=>W],k]
noncomputable instance:CG T (go (gN i)):=LX i yL
noncomputable instance:CG T (Fi (iC i)):=LX i oB
def PP{G:Jd wW}(k:∀{K E},G K E Ik):CH T G:=#[λ_ l=>l.isEmpty,λ_ h=>by rw[TU.mp h];show#[_,#[FD,W,W],k]]
noncomputable instance:CH T (gs vg):=PP Na
noncomputable instance:CH T (Ni K6):=PP Hl
def Pn{I:Jd wW}(G:Jd TG)(H:Jd wW)[x:CG T G][y:CH T H](k:∀{K E t u},G K E t->H K E u->I K E (yO t u)):CH T I where
 chk Γ l:=match l with
  |e::r=>x.chk Γ e&&y.chk Γ r
  |[]=>SW
 ok c h:=by
  split at h
  .rw[Ld]at h;let(n,(j,a),i):=x.ok c h.1;let(m,(g,d,b),f):=y.ok c h.2;show#[_,#[DD j g (by rw[a];rfl),by rw[a,S0,S0,d],by rw[a,List.findIdx?_cons,b];rfl],k i f]
  .ext h
noncomputable instance[CG T (go g)][CH T (gs r)]:CH T (gs (kH g r)):=Pn (go g) (gs r) Hw
noncomputable instance[CG T (Fi g)][CH T (Ni r)]:CH T (Ni (F6 g r)):=Pn (Fi g) (Ni r) C7
def OW{I:Jd TG}(n:Nat)(H:Jd wW)[y:CH T H](k:∀{K E t},H K E t->I K E (Gn K n t)):CG T I where
 chk Γ e:=(zQ e).any λl=>decide (l.length=n)&&y.chk Γ l
 ok c h:=by let(l,q,a):=aR h;let(_,_,rfl):=mO q;simp only[Ld,decide_eq_true_eq]at a;let(rfl,b):=a;let(t,(i,f,d),g):=y.ok c b;show#[_,#[Kd c.cm i f d,λ_=>W],k g]
noncomputable instance[CH T (gs r)]:CG T (go (gT n r)):=OW n (gs r) KN
noncomputable instance[CH T (Ni r)]:CG T (Fi (Qt n r)):=OW n (Ni r) Ij
def Oj(A:Jd TE){I:Jd TI}[x:CE T A]{f:Bn->TE->TI}(p:∀{X:Cx} {b e t},PE X e t->PI X b e (f X.K t))(k:∀{K E t},A K E t->I K E (f K t)):CI T I where
 chk Γ p:=gR p.2&&x.chk Γ p.2
 ok c h:=by rw[Ld]at h;let(t,h1,a):=x.ok c h.2;show#[_,#[p h1,h.1],k a]
noncomputable instance[CE T (eo a)]:CI T (io (gG a)):=Oj (eo a) wR J1
noncomputable instance[CE T (es a)]:CI T (No (uQ a)):=Oj (es a) wR Gx
noncomputable instance[CI T (io f)]:CI T (Qd f):=tQ (A:=io f) λh=>L3.IO.s h
noncomputable instance:CI T (Qd (yc i)):=#[λa p=>gR p.2&&rS i a p.2,λc h=>by rw[Ld]at h;show#[_,#[wR (iS c h.2),h.1],Ea]]
noncomputable instance[CI T (io f)]:CI T (No (iI f)):=tQ (A:=io f) Ej
noncomputable instance[u:CA T (ao a)]:CI T (io (gz dR a)) where
 chk L p:=(AL L "range" p.2).any λy=>y.2.1.isEmpty&&u.chk L [y.1]
 ok {L X E p} c h:=by let((e,l,w,v),q,b):=aR h;let(z,g,f):=gJ q;simp only[Ld,TU]at b;let(rfl,m):=b;let(o,n,_):=mZ c g;let(t,j,i):=u.ok c m;let(r,d):=p;let z:d=_:=z;subst z;show#[_,#[zK o n j (d9 f),W],GS i]
end CC
set_option warn.classDefReducibility false
namespace CC
open PySem L2 L3 L10
variable{T:cb Fd}{A B C J:Jd TE}{U Z:Jd TA}{Q R:Jd TT}{G:Jd TG}{I:Jd TI}
noncomputable instance:CQ T (oK d5):=#[λ_ l=>l.isEmpty,λ_ h=>by rw[TU.mp h];show#[_,mX,BJ]]
noncomputable instance:CQ T (jZ C6):=#[λ_ l=>l.isEmpty,λ_ h=>by rw[TU.mp h];show#[_,mX,Ed]]
def SA(Q:Jd TT)[z:CT T Q]:CQ T Q where
 chk Γ l:=match l with
  |[e]=>z.chk Γ e
  |_=>SW
 ok c h:=by
  split at h
  .let(t,h1,a):=z.ok c h;show#[_,E1 h1,a]
  .ext h
noncomputable instance[CT T (jZ q)]:CQ T (jZ q):=SA (jZ q)
def t0{b:Type}(P:Jd (St->Hp->b->Prop))(K:Bn)(E:XK):St->Hp->b->Prop:=λa H Q=>∀t,P K E t->t a H Q
def g0(P:Jd TG)(K:Bn)(E:XK):TG:=λv a H Q=>∀t,P K E t->t v a H Q
class Cl {τ:Type} (P:Jd (St->Hp->τ->Prop)):Prop where
 cl:∀{K E},P K E (t0 P K E)
class ClG (P:Jd TG):Prop where
 cl:∀{K E},P K E (g0 P K E)
noncomputable instance:Cl (eo g):=#[λB b O a H d Q R w _ h=>h B b O a H d Q R w]
noncomputable instance:Cl (es g):=#[λB a H α b d Q s l w _ h=>h B a H α b d Q s l w]
noncomputable instance:Cl (oK g):=#[λB b O a H d Q R w _ h=>h B b O a H d Q R w]
noncomputable instance:Cl (jZ g):=#[λB a H α b d Q s l w _ h=>h B a H α b d Q s l w]
noncomputable instance:ClG (go g):=#[λB b O a H d v pv Q R p w _ h=>h B b O a H d v pv Q R p w]
noncomputable instance:ClG (Fi g):=#[λB a H α b d v x Q s l p w _ h=>h B a H α b d v x Q s l p w]
def Hr(e:Ts):cb Str:=((vN e).map (·.1)).toList++((zQ e).getD []).filterMap λe=>(vN e).map (·.1)
def Kk(l:cb (Str×Tq)):cb Str:=(l.filter λy=>y.2==Tq.cell&&l.all λp=> !(p.1==y.1)|| !(p.2==Tq.free)).map (·.1)
def Qz(a:Gm)(l:cb (Str×Tq)):cb (Str×Tq):=l.map λp=>if(p.2==Tq.free&&(ScopeKind.function==ScopeKind.function)&&a.sc.lookup p.1==M .cell)then(p.1,.cell)else p
def Gm.inn(b:Gm)(own:cb Str)(a:cb (Str×Nat))(sc:cb (Str×Tq)):Gm:={b with N:=own++a.map (·.1),sc:=Qz b sc,rz:=SW,fa:=SW,fc:=Kk sc}
def rB(a:Gm)(b:cb Nat):cb (Str×Nat):=b.filterMap λj=>(a.N[j]?).map λx=>(x,j)
def Q5(b:Gm)(sc:Vm)(a:cb (Str×Nat)):Bool:=a.all λp=>b.N[p.2]? ==M p.1&&sc.names.lookup p.1==M .free&&(b.sc.lookup p.1==M .cell||b.sc.lookup p.1==M .free)
theorem JO{f:Gm}{X:Cx}{E:XK}{sc:Vm}(c:Ct T f X E):∀{a:cb (Str×Nat)},Q5 f sc a=SJ->Zj X sc a
 |[],_=>trivial
 |p::r,h=>by unfold Q5 at h;simp only[Vk,Ld,Vy]at h;let(((h1,e),d),b):=h;show#[#[by rw[c.n];show beq_iff_eq.mp h1,eI e,?_],JO c b];rw[c.sc];show d.imp eI eI
theorem xC{env:Env}{y:Str}:∀{l:cb (Str×Tq)} {acc:cb (Str×SU)},(∀p∈l,p.1=y->(p.2==Tq.free)=SW)->acc.lookup y=S->(fE env l acc).lookup y=S
 |[],_,_,h=>h
 |(n,k)::r,acc,h,d=>by
  let a:=λacc=>xC (env:=env) (y:=y) (l:=r) (acc:=acc) λp b=>h p (S5 _ b);ext fE;split
  .rename_i q
   let ne:n≠y:=λe=>by rw[h (n,k) Ta e]at q;ext q
   split
   .show a _ (by rw[Ui,show(y==n)=SW from beq_eq_false_iff_ne.mpr (dt ne)];show d)
   .show a _ d
  .show a _ d
def Cn{env:Env}{l:cb (Str×Tq)}{y:Str}(h:y∈Kk l):((fE env l []).lookup y).isNone=SJ:=by
 let(p,d,rfl):=S7.mp h;let(_,a):=Um.mp d;rw[Ld]at a;rw[xC (λq b e=>?_) W]
 .rfl
 .let:=TR.mp a.2 q b;rw[e,ey]at this;revert this;cases q.2==Tq.free<;>intro h<;>first|rfl|ext h
structure Lc(T:cb Fd)(Γ':Gm)(X:Cx)(E:XK)(n:Nat)(fj:cb Nat)(I:Jd TI)(G:Jd TG)(Q:Jd TT)(A:Jd TE)(sc:Vm)(elt:Ts)(cp:WB) where
 own:cb Str
 fv:cb (Str×Nat)
 wi:TI
 e:cp.is_async=0
 ln:own.length=n
 fj:fv.map (·.2)=fj
 pi:PI X cp.target cp.iter wi
 i:I X.K E wi
 pg:∀s H C fp,PG (bC X s H sc C (cH own fv) fp) cp.target (g0 G X.K E0)
 g:G X.K E0 (g0 G X.K E0)
 pq:∀s H C fp,zR (bC X s H sc C (cH own fv) fp) cp.ifs (t0 Q X.K E0)
 q:Q X.K E0 (t0 Q X.K E0)
 pe:∀s H C fp,PE (bC X s H sc C (cH own fv) fp) elt (t0 A X.K E0)
 a:A X.K E0 (t0 A X.K E0)
 fvk:Zj X sc fv
 fr:(sc.names.all λy=> !(y.2==Tq.free)||X.env.scope.names.lookup y.1==M .cell||X.env.scope.names.lookup y.1==M .free)=SJ
 kd:sc.kind=.function
 nd:(sc.names.map (·.1)).Nodup
 nm:∀y∈sc.names,y.2=.local->sc.names.lookup y.1=M .local
 fold:∀z,foldedSetIterable cp.iter X.env z=pure z
 ct:∀s H C fp W E',Ct T Γ' ((bC X s H sc C (cH own fv) fp).XS W) E'
def G6(n:Nat)(e:cb Nat)(i:CI T I)(g:CG T G)(w:CQ T Q)(x:CE T A)(b:Gm)(elt:Ts)(c:WB)(sc:Vm):Bool:=
 let own:=Hr c.target
 let d:=rB b e
 let a:=b.inn own d sc.names
 decide (own.length=n)&&decide (d.map (·.2)=e)&&decide (c.is_async=0)&&Q5 b sc d&&(sc.names.all λy=> !(y.2==Tq.free)||b.sc.lookup y.1==M .cell||b.sc.lookup y.1==M .free)&&decide (sc.kind=.function)&&decide ((sc.names.map (·.1)).Nodup)&&(sc.names.all λy=> !(y.2==Tq.local)||sc.names.lookup y.1==M .local)&&decide ((own++d.map (·.1)).Nodup)&&i.chk b (c.target,c.iter)&&g.chk a c.target&&w.chk a c.ifs&&x.chk a elt
def xN[Cl A][Cl Q][ClG G]{i:CI T I}{g:CG T G}{w:CQ T Q}{x:CE T A}{n:Nat}{D:cb Nat}{k:Gm}{X:Cx}{E:XK}{elt:Ts}{d:WB}{sc:Vm}(c:Ct T k X E)(h:G6 n D i g w x k elt d sc=SJ):Nonempty (Lc T (k.inn (Hr d.target) (rB k D) sc.names) X E n D I G Q A sc elt d):=by
 unfold G6 at h;simp only[Ld,decide_eq_true_eq]at h;let((((((((((((h1,Y),S),k1),k2),k3),k4),k5),k6),P),O),N),M):=h;let(q,(L,F),K):=i.ok c P;let ct:∀s H C a W p,Ct T (k.inn (Hr d.target) (rB k D) sc.names) ((bC X s H sc C (cH (Hr d.target) (rB k D)) a).XS W) p:=λs H C a W p=>
  #[rfl,k6,by show(relabel sc X.env).names=Qz k sc.names;unfold relabel Qz Env.kindOf;rw[c.kd,c.sc],k3,c.cm,c.rm,λz=>(Yj z),λz=>(Yj z),λy l=>Cn l,c.md,c.fs]
 let m:∀s H C a,Ct T (k.inn (Hr d.target) (rB k D) sc.names) (bC X s H sc C (cH (Hr d.target) (rB k D)) a) E0:=λs H C a=>ct s H C a _ E0;show#[#[Hr d.target,rB k D,q,S,h1,Y,L,K,λs H C a=>?_,ClG.cl,λs H C a=>?_,Cl.cl,λs H C a=>?_,Cl.cl,JO c k1,?_,k3,k4,λy l e=>?_,yz F,ct]]
 .let(t,(j,_),f):=g.ok (m s H C a) O;show λb s o H v u Q I r z=>j _ _ _ _ _ _ _ I r (z _ f)
 .let(t,j,f):=w.ok (m s H C a) N;show λb s o H Q I z=>j _ _ _ _ _ I (z _ f)
 .let(t,j,f):=x.ok (m s H C a) M;show λb s o H Q I z=>j _ _ _ _ _ I (z _ f)
 .rw[c.sc];show k2
 .let:=TR.mp k5 y l;rw[e]at this;show eI this
def KZ(e:Ts):cc (Ts×WB×Vm×Pos):=(RI e).bind λy=>match y.2.1 with
 |[a]=>M (y.1,a,y.2.2)
 |_=>S
def yw{e:Ts}{y:Ts×WB×Vm×Pos}(h:KZ e=M y):e=.ListComp y.1 [y.2.1] y.2.2.1 y.2.2.2:=by
 let((a,l,s,p),q,b):=Ue.mp h;rw[Kc q]
 match l,b with
 |[d],b=>ext b;rfl
def Og(I:Jd TI)(G:Jd TG)(Q:Jd TT)(A:Jd TE)[Cl A][Cl Q][ClG G][i:CI T I][g:CG T G][w:CQ T Q][x:CE T A](n:Nat)(v:cb Nat)(k:∀{K E own u a g t s},own.length=n->u.map (·.2)=v->I K E a->G K E0 g->Q K E0 t->A K E0 s->J K E (ul own u a g t s)):CE T J where
 chk Γ e:=(KZ e).any λy=>G6 n v i g w x Γ y.1 y.2.1 y.2.2.1
 ok c h:=by let((j,m,r,p),q,f):=aR h;rw[yw q];let⟨l⟩:=xN c f;let(o,b,d,as):=m;obtain rfl:as=0:=l.e;show#[_,yZ l.own l.fv c.cm l.pi l.pg l.pq l.pe l.fvk l.fr l.kd l.nd l.nm l.fold,k l.ln l.fj l.i l.g l.q l.a]
noncomputable instance[CI T (Qd f)][CG T (go g)][CQ T (oK q)][CE T (eo a)]:CE T (eo (iJ n l f g q a)):=Og (Qd f) (go g) (oK q) (eo a) n l Dj
noncomputable instance[CI T (No f)][CG T (Fi g)][CQ T (jZ q)][CE T (es a)]:CE T (es (uD n l f g q a)):=Og (No f) (Fi g) (jZ q) (es a) n l DW
end CC
set_option warn.classDefReducibility false
namespace CC
open PySem L2 L3 L10
variable{T:cb Fd}{A B C J:Jd TE}{U Z:Jd TA}{Q R:Jd TT}{G:Jd TG}{I:Jd TI}{S Y X:Jd TS}
def OS:Vz->cc (Ts×cb Vz×cb Vz)
 |.If c a b _=>M (c,a,b)
 |_=>CL
def Js:Vz->cc (cc Ts)
 |.Return e _=>M e
 |_=>CL
def IZ:Vz->cc Ts
 |.Expr e _=>M e
 |_=>CL
def uG:Vz->cc (Ts×Ts)
 |.Assign [t] e _=>M (t,e)
 |_=>CL
def Jn:Vz->cc (Ts×Ts×cb Vz)
 |.For t i b [] _=>M (t,i,b)
 |_=>CL
def OE:Vz->cc (Ts×cb Vz)
 |.While c b [] _=>M (c,b)
 |_=>CL
section
variable{s:Vz}
theorem Gj(h:OS s=M x):∃p,s=.If x.1 x.2.1 x.2.2 p:=pJ (P:=λx=>∃p,s=.If x.1 x.2.1 x.2.2 p) (by ext s<;>first|show trivial|show#[_,W]) h
theorem En(h:Js s=M x):∃p,s=.Return x p:=pJ (P:=λx=>∃p,s=.Return x p) (by ext s<;>first|show trivial|show#[_,W]) h
theorem Cu(h:IZ s=M x):∃p,s=.Expr x p:=pJ (P:=λx=>∃p,s=.Expr x p) (by ext s<;>first|show trivial|show#[_,W]) h
theorem kh(h:uG s=M x):∃p,s=.Assign [x.1] x.2 p:=pJ (P:=λx=>∃p,s=.Assign [x.1] x.2 p) (by ext s<;>first|show trivial|(rename_i l _ _;rcases l with _|⟨t,_|⟨_,_⟩⟩<;>first|show trivial|show#[_,W])) h
theorem B6(h:Jn s=M x):∃p,s=.For x.1 x.2.1 x.2.2 [] p:=pJ (P:=λx=>∃p,s=.For x.1 x.2.1 x.2.2 [] p) (by ext s<;>first|show trivial|(rename_i l _;ext l<;>first|show trivial|show#[_,W])) h
theorem F8(h:OE s=M x):∃p,s=.While x.1 x.2 [] p:=pJ (P:=λx=>∃p,s=.While x.1 x.2 [] p) (by ext s<;>first|show trivial|(rename_i l _;ext l<;>first|show trivial|show#[_,W])) h
end
def Rm(S:Jd TS)[o:CU T S]:CS T S where
 chk Γ b:=match b with
  |[s]=>o.chk Γ s
  |_=>SW
 ok c h:=by
  split at h
  .let(t,h1,a):=o.ok c h;show#[_,Ha h1,a]
  .ext h
noncomputable instance[CU T (so f)]:CS T (so f):=Rm (so f)
noncomputable instance[CU T (WC f)]:CS T (WC f):=Rm (WC f)
noncomputable instance:CS T (so cT):=#[λ_ b=>b.isEmpty,λ_ h=>by rw[TU.mp h];show#[_,yg,HL]]
noncomputable instance:CS T (WC fG):=#[λ_ b=>b.isEmpty,λ_ h=>by rw[TU.mp h];show#[_,yg,A1]]
def IK(Y X:Jd TS)[o:CU T Y][n:CS T X](k:∀{K E t u},Y K E t->X K E u->S K E (GD t u)):CS T S where
 chk Γ b:=match b with
  |s::r=>o.chk Γ s&&n.chk Γ r
  |_=>SW
 ok c h:=by
  split at h
  .rw[Ld]at h;let(t,h1,e):=o.ok c h.1;let(f,d,a):=n.ok c h.2;show#[_,Ds h1 d,k e a]
  .ext h
noncomputable instance[CU T (so f)][CS T (so g)]:CS T (so (az f g)):=IK (so f) (so g) Mu
noncomputable instance[CU T (WC f)][CS T (WC g)]:CS T (WC (aW f g)):=IK (WC f) (WC g) Ii
def J0(Q:Jd TT)(Y X:Jd TS)[z:CT T Q][m:CS T Y][n:CS T X](k:∀{K E c t u},Q K E c->Y K E t->X K E u->S K E (HB c t u)):CU T S where
 chk Γ s:=(OS s).any λy=>z.chk Γ y.1&&m.chk Γ y.2.1&&n.chk Γ y.2.2
 ok c h:=by let(y,q,a):=aR h;let(_,rfl):=Gj q;simp only[Ld]at a;let(t,i,g):=z.ok c a.1.1;let(l,f,e):=m.ok c a.1.2;let(j,d,b):=n.ok c a.2;show#[_,Ol i f d,k g e b]
noncomputable instance[CT T (oK q)][CS T (so f)][CS T (so g)]:CU T (so (kY q f g)):=J0 (oK q) (so f) (so g) Pp
noncomputable instance[CT T (jZ q)][CS T (WC f)][CS T (WC g)]:CU T (WC (fX q f g)):=J0 (jZ q) (WC f) (WC g) KS
def Jv(A:Jd TE)[x:CE T A](k:∀{K E t},A K E t->S K E (Gc t)):CU T S where
 chk Γ s:=(Js s).any λy=>y.any (x.chk Γ)
 ok c h:=by let(y,q,g):=aR h;let(e,a,f):=aR g;let(_,rfl):=En q;subst a;let(t,d,b):=x.ok c f;show#[_,Lr d,k b]
noncomputable instance[CE T (eo a)]:CU T (so (cV a)):=Jv (eo a) KH
noncomputable instance[CE T (es a)]:CU T (WC (L10.gf a)):=Jv (es a) Gs
def A3(A:Jd TE)[x:CE T A](k:∀{K E t},A K E t->S K E (zc t)):CU T S where
 chk Γ s:=(IZ s).any λe=>(gR e&& !Ku e)&&x.chk Γ e
 ok c h:=by let(y,q,a):=aR h;let(_,rfl):=Cu q;let a:=(Ld _ _).mp a;let(t,d,b):=x.ok c a.2;show#[_,G0 d (yh a.1),k b]
noncomputable instance[CE T (eo a)]:CU T (so (de a)):=A3 (eo a) Fw
noncomputable instance[CE T (es a)]:CU T (WC (jh a)):=A3 (es a) Ep
noncomputable instance:CU T (WC MB):=#[λ_ _=>SJ,λ_ _=>#[_,Df,z9]]
def JU(i:Nat)(A:Jd TE)[x:CE T A](k:∀{K E t},A K E t->S K E (AE t (kj i))):CU T S where
 chk Γ s:=(uG s).any λy=>(gR y.2&& !Ku y.2)&&(D0 i Γ y.1&&x.chk Γ y.2)
 ok c h:=by let((d,e),q,a):=aR h;let(_,rfl):=kh q;let a:=(Ld _ _).mp a;let b:=(Ld _ _).mp a.2;let(t,g,f):=x.ok c b.2;let(y,p,z,k1,k2,k3):=mH c b.1;let z:d=_:=z;subst z;show#[_,M6 c.nd k1 k2 g (yh a.1) k3,k f]
noncomputable instance[CE T (eo a)]:CU T (so (aO a (gN i))):=JU i (eo a) λh=>D3 h yL
noncomputable instance[CE T (es a)]:CU T (WC (dG a (iC i))):=JU i (es a) λh=>FZ h oB
def Q6(A:Jd TE)(G:Jd TG)[x:CE T A][y:CG T G](k:∀{K E t g},A K E t->G K E g->S K E (AE t g)):CU T S where
 chk Γ s:=(uG s).any λz=>OJ z.2&&Jg z.1&&y.chk Γ z.1&&x.chk Γ z.2
 ok c h:=by let((i,e),q,a):=aR h;let(_,rfl):=kh q;simp only[Ld]at a;let(((h0,f),d),b):=a;let(t,h1,a):=x.ok c b;let(j,(k1,k3),k2):=y.ok c d;let(_,_,_,rfl):=Bp f;show#[_,KA h1 k1 (HA h0) (Aw h0) (by rw[k3];rfl),k a k2]
noncomputable instance[CE T (eo a)][CH T (gs r)]:CU T (so (aO a (gT n r))):=Q6 (eo a) (go (gT n r)) D3
noncomputable instance[x:CE T (es d)][y:CE T (es k)][z:CE T (es v)]:CU T (WC (tR d k v)) where
 chk Γ s:=(uG s).any λr=>(oV r.1).any λw=>gR r.2&&x.chk Γ w.1&&y.chk Γ w.2.1&&z.chk Γ r.2
 ok c h:=by let((b,e),q,m):=aR h;let(_,rfl):=kh q;let(w,f,a):=aR m;let z:b=_:=eO f;subst z;simp only[Ld]at a;let(((l,j),i),g):=a;let(t,k1,k2):=x.ok c j;let(o,k3,k4):=y.ok c i;let(n,k5,k6):=CK.ok c g;show#[_,Hf (Nk c) k1 k3 k5 (IT l),A2 k2 k4 k6]
def Jc(I:Jd TI)(G:Jd TG)(Y:Jd TS)[v:CI T I][y:CG T G][m:CS T Y](k:∀{K E j g t},I K E j->G K E g->Y K E t->S K E (GG j g t)):CU T S where
 chk Γ s:=Γ.fa&&(Jn s).any λz=>v.chk Γ (z.1,z.2.1)&&y.chk Γ z.1&&m.chk Γ z.2.2
 ok c h:=by rw[Ld]at h;let(z,q,a):=aR h.2;let(_,rfl):=B6 q;simp only[Ld]at a;let(t,(e,b),d):=v.ok c a.1.1;let(i,(k1,_),k2):=y.ok c a.1.2;let(f,k3,k4):=m.ok c a.2;show#[_,ME (c.po h.1) c.cm e k1 k3 (yz b),k d k2 k4]
noncomputable instance[CI T (io f)][CG T (go g)][CS T (so b)]:CU T (so (fD f g b)):=Jc (io f) (go g) (so b) K0
noncomputable instance[CI T (No f)][CG T (Fi g)][CS T (WC b)]:CU T (WC (pF f g b)):=Jc (No f) (Fi g) (WC b) Gy
def gm(M:Md)(N:cb Str)(st:Vz)(lv top:Nat)(a:Bool):Gm:=#[M,N,(aA st).names,lv,a,SJ,Kk (aA st).names,top]
def QN(N a:cb Str)(sc:Vm):Bool:=decide (sc.kind=.function)&& !sc.isCoroutine&& !sc.isGenerator&&decide N.Nodup&&decide (N.take a.length=a)&&a.all (λx=>sc.names.lookup x==M .local||sc.names.lookup x==M .cell)&&sc.names.all (λy=> !(y.2==.free))
def BK{N c:cb Str}{sc:Vm}(h:QN N c sc=SJ):Wl N c sc:=by
 unfold QN at h;simp only[Ld,decide_eq_true_eq,We]at h;let((((((h1,l),j),i),g),f),d):=h;show#[h1,l,j,i,g,λx b=>?_,λy a e=>?_]
 .let:=TR.mp f x b;rw[Vy]at this;show this.imp eI eI
 .let:=TR.mp d y a;rw[e]at this;ext this
section
variable{P:Tg}{w:TN}{K:Bn}{u:Str->cc OK}{L:Heap}{f:SU}{v:UI}{M:Md}{Z x:Str}{N t:cb Str}{k n top:Nat}{st:Vz}
def XZ(T:cb Fd)(S:Jd TS)[c:CS T S](M:Md)(N t:cb Str)(st:Vz)(k top:Nat)(a:Bool):Bool:=QN N t (aA st)&&c.chk (gm M N st k top a) (cZ st)
theorem Rv(a:aaM K u M)(fs:∀i v,i<top->T[i]?=cL v->v P w K u L)(S:Wl N t (aA st)){c A outer s H E}(b:V6 k (A.deeper (Ud Z (aA st) s.heap.objs.size f c))):Ct T (gm M N st k top SW) (jF kP P w K u L N Z (aA st) f c A outer s H E).nox E:=
 #[W,S.nd,W,S.kind,W,b,λ_=>aai.never,λz=>Yj z,λ_ _=>W,a,fs]
def Xt{g:FS}{b:FN}[c:CS T (so g)](d:aaM K u M)(fs:∀i v,i<top->T[i]?=cL v->v P w K u L)(F:Zk K x Z st f v)(h:XZ T (so g) M N t st k top SW=SJ)(m:t.length=n:=by rfl)(j:b=fq N.length g:=by rfl):FnOk P w K u L kP (k+1) f v t (zj K n b):=by let h:=(Ld _ _).mp h;let S:=BK h.1;show Ry F S m W j λl A a s H E e=>c.ok (Rv d fs S e) h.2
def YY{g:fM}{b:kO}[c:CS T (WC g)](d:aaM K u M)(fs:∀i v,i<top->T[i]?=cL v->v P w K u L)(F:Zk K x Z st f v)(h:XZ T (WC g) M N t st k top SW=SJ)(m:t.length=n:=by rfl)(j:b=iO N.length g:=by rfl):FnOk P w K u L kP (k+1) f v t (AH K n b):=by let h:=(Ld _ _).mp h;let S:=BK h.1;show Rq F S m W j λl A a s H E e=>c.ok (Rv d fs S e) h.2
end
section
variable{T:cb Fd}{P:Tg}{w:TN}{K:Bn}{mg:Str->cc OK}{base:Heap}
theorem fs0:∀i fd,i<0->T[i]?=M fd->fd P w K mg base:=λ_ _ h=>b9 h (Nat.not_lt_zero _)
theorem Yh{n:Nat}{x:Fd}(h:∀i fd,i<n->T[i]?=M fd->fd P w K mg base)(e:T[n]?=M x)(a:x P w K mg base):∀i fd,i<n+1->T[i]?=M fd->fd P w K mg base:=λi fd b q=>by
 rcases Nat.lt_succ_iff_lt_or_eq.mp b with z|rfl
 .show h i fd z q
 .rw[e]at q;ext q;show a
abbrev Sm(K:Bn)(mg:Str->cc OK):Str->D->Prop:=λx d=>∃v u,mg x=M u/\RelV v u/\∀O H,DV O K H v d
theorem csN:∀x d,([]:cb (Str×D)).lookup x=M d->Sm K mg x d:=λ_ _ h=>nomatch h
theorem clN:∀C L,([]:cb (Str×cb Str)).lookup C=M L->OT K C L:=λ_ _ h=>nomatch h
abbrev RO(K:Bn)(mg:Str->cc OK)(x:Str):Prop:=∃C,UC K T3 x=M (M (.ref C))/\mg x=M (.ref C)/\Yz K C Ox "ValueError.__new__"=SJ
theorem exN:∀x∈([]:cb Str),RO K mg x:=λ_ h=>nomatch h
end
end CC
set_option warn.classDefReducibility false
namespace CC
open PySem L2 L3 L10
variable{T:cb Fd}
def QB(n:String):Bool:=n== "int"||n== "bool"||n== "str"||n== "list"||n== "tuple"
def KU{n:String}(h:QB n=U):(n= "int"\/n= "bool"\/n= "str"\/n= "list"\/n= "tuple")/\Uc (Str.ofString n)=M (.type n):=by unfold QB at h;simp only[Vy,beq_iff_eq]at h;rcases h with(((rfl|rfl)|rfl)|rfl)|rfl<;>show#[by simp,W]
noncomputable instance[x:CE T (eo a)]:CE T (eo (pD n a)) where
 chk L e:=(AL L "isinstance" e).any λy=>match y.2.1 with
  |[b]=>(vN b).any (λz=>z.1==Str.ofString n)&&blt L (Str.ofString n)&&QB n&&x.chk L y.1
  |_=>SW
 ok {L X E e} c h:=by
  let((e,l,J,I),q,i):=aR h;let(rfl,g,f):=gJ q
  match l,f,i with
  |[b],f,i=>simp only[Ld]at i;let(((d,A),w),u):=i;let(z,o,d):=aR d;let j:=pQ o;let(m,H):=z;let d:=beq_iff_eq.mp d;let d:m=_:=d;subst d;let j:b=_:=j;subst j;let(k1,k2):=KU w;let(G,C,F,B):=mZ c A;let(t,r,p):=x.ok c u;simp only[Vk,Ld]at f;show#[_,jR c g su (.inl #[_,W]) zJ (by simp only[Vk,Ld];show f) (eK r (eK (IE (v:=.ty _) G C k2 W B F) i9 (ie f.2.1)) (ie f.1)),Nf k1 p]
noncomputable instance:Zh kS:=Ia .Pow #[_,Li,Ip]
end CC
set_option warn.classDefReducibility false
namespace CC
open PySem L2 L3 L10
variable{T:cb Fd}{A B C J:Jd TE}{U Z:Jd TA}{Q R:Jd TT}
def Sb(X:Cx)(a:G (I Ts)×G Ts)(t:G (TE×TE)):Prop:=(∀pos,O8 X pos a.1 a.2 t)/\a.1.all (·.isSome)=SJ/\a.1.length=a.2.length
def pos(l:G (bQ×bQ)):Jd (G (TE×TE)):=λK E t=>oD K E t l
abbrev CD(T:G Fd)(J:Jd (G (TE×TE))):=CK T Sb J
noncomputable instance:CD T (pos []):=#[λ_ a=>a.1.isEmpty&&a.2.isEmpty,λ{b X E a} _ h=>by let(k,v):=a;simp only[Ld,TU]at h;let(rfl,rfl):=h;show#[_,#[λ_=>HY,W,W],Fx]]
noncomputable instance[x:CE T (es a)][y:CE T (es b)][r:CD T (pos l)]:CD T (pos ((a,b)::l)) where
 chk z a:=match a.1,a.2 with
  |some k::d,v::L=>x.chk z k&&y.chk z v&&r.chk z (d,L)
  |_,_=>SW
 ok {z X E a} c h:=by
  let(d,L):=a
  match d,L,h with
  |some k::d,v::L,h=>simp only[Ld]at h;let(u,o,n):=x.ok c h.1.1;let(t,m,j):=y.ok c h.1.2;let(q,(i,g,f),e):=r.ok c h.2;show#[_,#[λp=>DB o m (i p),g,eh (·+1) f],Ex n j e]
noncomputable instance[r:CD T (pos l)]:CE T (es (qk l)) where
 chk Γ e:=(P4 e).any λy=> !y.1.isEmpty&&decide (y.1.length<=15)&&r.chk Γ y
 ok c h:=by let(y,q,a):=aR h;let(_,rfl):=wF q;simp only[Ld,decide_eq_true_eq,We]at a;let(t,(g,f,d),b):=r.ok c a.2;show#[_,Ir (g _) f d (λz=>by let:=a.1.1;rw[z]at this;ext this) a.1.2,DZ b]
def QU:Jd TI:=λ_ _ _=>True
end CC
set_option warn.classDefReducibility false
namespace CC
open PySem L2 L3 L10
variable{T:cb Fd}{A B C J:Jd TE}{U Z:Jd TA}{Q R:Jd TT}
theorem jW{a:Gm}{X:Cx}{E:XK}(c:Ct T a X E):X.A.units+64<cLine:=c.rm.units
noncomputable instance:CE T (es oC) where
 chk _ e:=(P4 e).any λy=>y.1.isEmpty&&y.2.isEmpty
 ok _ h:=by let((k,v),q,a):=aR h;let(_,rfl):=wF q;simp only[Ld,TU]at a;let(rfl,rfl):=a;show#[_,LD.pe_ddnew,zn]
noncomputable instance[x:CE T (es d)][y:CE T (es k)]:CE T (es (gv d k)) where
 chk Γ e:=(oV e).any λp=>gR p.2.1&&x.chk Γ p.1&&y.chk Γ p.2.1
 ok c h:=by let(p,q,a):=aR h;simp only[Ld]at a;let(l,i,g):=x.ok c a.1.2;let(j,f,b):=y.ok c a.2;rw[eO q];show#[_,LD.pe_ddget (jW c) i f (lB a.1.1),zt g b]
def uS(op:aah)(x y:Gm->Ts->Bool)(a:Gm)(e:Ts):Bool:=(Nq op e).any λp=>x a p.1&&y a p.2
def Mq(neg:Bool):aah:=if neg then .NotIn else .In
def uc{neg:Bool}[x:CE T (es k)][y:CE T (es d)]{l X E e}(c:Ct T l X E)(h:uS (Mq neg) x.chk y.chk l e=SJ):∃t,PE X e t/\PT X e (tB t)/\cg X.K E t (jL neg k d):=by
 let(p,q,g):=aR h;rw[Ld]at g;let(_,rfl,a):=kZ q;let(n,f,j):=x.ok c g.1;let(m,b,i):=y.ok c g.2;cases neg with
 |false=>show#[_,nN (LD.pc_ddin (jW c) f b) a,oA (LD.pc_ddin (jW c) f b) a,vf j i]
 |true=>show#[_,nN (LD.pc_ddnin (jW c) f b) a,oA (LD.pc_ddnin (jW c) f b) a,vf j i]
noncomputable instance[x:CE T (es k)][y:CE T (es d)]:CE T (es (jL neg k d)):=#[uS (Mq neg) x.chk y.chk,λc h=>let#[_,h1,_,a]:=uc c h;#[_,h1,a]]
noncomputable instance[x:CE T (es k)][y:CE T (es d)]:CT T (jZ (cI (jL neg k d))):=#[uS (Mq neg) x.chk y.chk,λc h=>let#[_,_,h1,a]:=uc c h;#[_,h1,tJ a]]
noncomputable instance[x:CE T (es d)][y:CE T (es k)][z:CE T (es f)]:CE T (es (kK d k f)) where
 chk L e:=(Pg "get" e).any λw=>x.chk L w.1&&match w.2.1 with
  |[e,f]=>y.chk L e&&z.chk L f
  |_=>SW
 ok {L X E e} c h:=by
  let((b,l,p,q),w,i):=aR h;let(rfl,o,n,a,I):=sW w;rw[Ld]at i;let(j,g):=i;let(P,G,F):=x.ok c j
  match l,a,g with
  |[e,f],a,g=>let a:[e,f].all gR=SJ:=a;rw[Ld]at g;let(N,v,u):=y.ok c g.1;let(H,t,r):=z.ok c g.2;show#[_,LD.pe_ddget2 (jW c) G v t #[g8 o,sN a (by show 2<20;decide),n,?_],v3 F u r];let m:[f].all gR=SJ:=(Ld _ _▸a:_/\_).2;rw[d9 a,d9 m];rfl
noncomputable instance[x:CE T (es d)][y:CE T (es k)][z:CE T (es v)]:CU T (WC (lF d k v)) where
 chk Γ s:=(uG s).any λr=>(oV r.1).any λw=>gR r.2&&x.chk Γ w.1&&y.chk Γ w.2.1&&z.chk Γ r.2
 ok c h:=by let((b,e),q,m):=aR h;let(_,rfl):=kh q;let(w,f,a):=aR m;let z:b=_:=eO f;subst z;simp only[Ld]at a;let(((l,j),i),g):=a;let(t,k1,k2):=x.ok c j;let(o,k3,k4):=y.ok c i;let(n,k5,k6):=CK.ok c g;show#[_,LD.ps_ddput (jW c) k1 k3 k5 (IT l),Av k2 k4 k6]
def Jf:Vz->I (Ts×Zt×Ts)
 |.AugAssign t o e _=>M (t,o,e)
 |_=>S
theorem ES{s:Vz}(h:Jf s=M x):∃p,s=.AugAssign x.1 x.2.1 x.2.2 p:=pJ (P:=λx=>∃p,s=.AugAssign x.1 x.2.1 x.2.2 p) (by ext s<;>first|show trivial|show#[_,W]) h
class IOp (f:D->D->I RV) where
 op:Zt
 ok:∀{X:Cx},∃ti,NX X op ti/\iG X.K ti f
noncomputable instance[o:IOp f][x:CE T (es a)]:CU T (WC (wV i f a)) where
 chk Γ s:=(Jf s).any λy=>decide (y.2.1=o.op)&&(D0 i Γ y.1&&x.chk Γ y.2.2)
 ok c h:=by let((d,op,e),q,b):=aR h;let(_,rfl):=ES q;simp only[Ld,decide_eq_true_eq]at b;let(rfl,r,n):=b;let(t,m,l):=x.ok c n;let(y,p,z,k1,k2,k3):=mH c r;let z:d=_:=z;subst z;let(u,j,g):=o.ok;show#[_,MZ c.nd k1 k2 m j k3,Ib g l]
noncomputable instance[z:CT T (jZ q)][m:CS T (WC b)]:CU T (WC (sL q b)) where
 chk Γ s:=Γ.fa&&(OE s).any λy=>z.chk Γ y.1&&m.chk Γ y.2
 ok c h:=by rw[Ld]at h;let(y,q,a):=aR h.2;let(_,rfl):=F8 q;rw[Ld]at a;let(t,e,d):=z.ok c a.1;let(f,k1,k2):=m.ok c a.2;show#[_,DG (c.po h.1) e k1,AA d k2]
def vD:D->V
 |.int i=>.int i
 |_=>.Wa
class aj7 (l:G D):Prop where
 h:∀K O H,UN O K H (l.map vD) l
abbrev Q4(lv:Nat)(C:Str)(c:G Str)(n:Nat)(F:kO):Fd:=λP w K b a=>IJ P w K b a (L4.Hk P w) lv C c (AH K n F)
class FKE (T:G Fd) (C:Str) (F:kO) (n:Nat) where
 i:Nat
 lv:Nat
 ps:G Str
 h:T[i]?=M (Q4 lv C ps n F)
abbrev RN(lv:Nat)(x f:Str):Fd:=λP w K d b=>∃(C B fI:SU) (e:Obj) (a:UI) (g:G Str),L9.XC K C B fI/\K.lookup fI=M e/\W0 K (.ref fI)=SJ/\FnOk P w K d b kP lv fI a g (L9.Gu C f)/\Binds K a g []/\UC K T3 x=M (M (.ref C))/\d x=M (.ref C)
class FX (T:G Fd) (x f:Str) where
 i:Nat
 lv:Nat
 h:T[i]?=M (RN lv x f)
end CC
set_option warn.classDefReducibility false
namespace CC
open PySem L2 L3 L10
variable{T:cb Fd}{A B C J:Jd TE}{U Z:Jd TA}{Q R:Jd TT}
abbrev Q8(lv:Nat)(x f g:Str):Fd:=λP w K d b=>∃(C B fI:SU) (e:Obj) (a:UI) (h:G Str),L9.XC K C B fI/\K.lookup fI=M e/\W0 K (.ref fI)=SJ/\FnOk P w K d b kP lv fI a h (L9.DC C f g)/\Binds K a h []/\UC K T3 x=M (M (.ref C))/\d x=M (.ref C)
class FX2 (T:G Fd) (x f g:Str) where
 i:Nat
 lv:Nat
 h:T[i]?=M (Q8 lv x f g)
end CC
set_option warn.classDefReducibility false
namespace CC
open PySem L2 L3 L10
variable{T:cb Fd}{A B C J:Jd TE}{U Z:Jd TA}{Q R:Jd TT}
noncomputable instance:Zh sr:=Ia .Add #[_,FU,Bz]
noncomputable instance[x:CE T (es a)]:CE T (es (uI a)) where
 chk N e:=(AL N "list" e).any λy=>y.2.1.isEmpty&&(AL N "reversed" y.1).any λz=>z.2.1.isEmpty&&x.chk N z.1
 ok {N X E e} c h:=by let((e,l,K,I),q,f):=aR h;let(rfl,g,j):=gJ q;simp only[Ld,TU]at f;let(rfl,p):=f;let((e2,L,H,G),i,d):=aR p;let(z,r,b):=gJ i;let z:e=_:=z;subst z;simp only[Ld,TU]at d;let(rfl,o):=d;let(t,n,m):=x.ok c o;let(F,w,_):=mZ c g;let(v,u,_):=mZ c r;show#[_,vL c.cm F w v u n (d9 j) (d9 b),BT m]
end CC
set_option warn.classDefReducibility false
namespace CC
open PySem L2 L3 L10
variable{T:cb Fd}
def Sx:CE T (eo (pC .none)):=inferInstance
def QG:Ts:=.Constant .none 0 #[0,0,0,0]
end CC
set_option warn.classDefReducibility false
namespace CC
open PySem L2 L3 L10
variable{T:cb Fd}{A B:Jd TE}
end CC
set_option warn.classDefReducibility false
namespace CC
open PySem L2 L3 L10
variable{T:cb Fd}
end CC
set_option warn.classDefReducibility false
namespace CC
open PySem L2 L3 L10
variable{T:cb Fd}
noncomputable instance:Zh L9.tZ:=Ia .Mult #[_,L9.HH,L9.ER]
noncomputable instance:IOp um:=#[.Add,#[_,KY,D4]]
noncomputable instance:IOp pL:=#[.Sub,#[_,Gg,EE]]
def Cd[x:CE T (es k)][y:CE T (es d)]{l X E e}(c:Ct T l X E)(h:uS .NotIn x.chk y.chk l e=U):∃t,PE X e t/\PT X e (tB t)/\cg X.K E t (jT U k d):=by let(p,q,a):=aR h;rw[Ld]at a;let(_,rfl,b):=kZ q;let(n,g,j):=x.ok c a.1;let(m,f,i):=y.ok c a.2;show#[_,nN (qz (Nk c) g f) b,oA (qz (Nk c) g f) b,EN j i]
noncomputable instance[x:CE T (es k)][y:CE T (es d)]:CT T (jZ (cI (jT U k d))):=#[uS .NotIn x.chk y.chk,λc h=>let#[_,_,h1,a]:=Cd c h;#[_,h1,tJ a]]
def Pd(x:Gm->Ts->Bool)(a:Gm)(e:Ts):Bool:=(Nq .NotEq e).any λp=>x a p.1&&(P4 p.2).any λy=>y.1.isEmpty&&y.2.isEmpty
def Hc[x:CE T (es d)]{l X E e}(c:Ct T l X E)(h:Pd x.chk l e=U):∃t,PE X e t/\PT X e (tB t)/\cg X.K E t (qG d):=by let((a,b),q,f):=aR h;rw[Ld]at f;let(_,rfl,g):=kZ q;let(m,i,j):=x.ok c f.1;let((k,v),k1,k2):=aR f.2;let(_,k3):=wF k1;let k3:b=_:=k3;subst k3;simp only[Ld,TU]at k2;let(rfl,rfl):=k2;show#[_,nN (LD.pc_ddne (jW c) i) g,oA (LD.pc_ddne (jW c) i) g,Bi j]
noncomputable instance[x:CE T (es d)]:CT T (jZ (cI (qG d))):=#[Pd x.chk,λc h=>let#[_,_,h1,a]:=Hc c h;#[_,h1,tJ a]]
noncomputable instance[x:CE T (es d)][y:CE T (es k)]:CE T (es (nr d k)) where
 chk u e:=(Pg "pop" e).any λz=>x.chk u z.1&&match z.2.1 with
  |[e]=>y.chk u e
  |_=>SW
 ok {u X E e} c h:=by
  let((o,l,p,q),z,f):=aR h;let(rfl,j,i,a,_):=sW z;rw[Ld]at f;let(g,b):=f;let(A,t,r):=x.ok c g
  match l,a,b with
  |[e],a,b=>let a:[e].all gR=U:=a;let(v,n,m):=y.ok c b;show#[_,LD.pe_ddpop (jW c) t n #[g8 j,sN a (by show 1<20;decide),i,?_],Ak r m];rw[d9 a];rfl
noncomputable instance[x:CE T (es d)]:CE T (es (oh d)) where
 chk Γ e:=(AL Γ "min" e).any λy=>y.2.1.isEmpty&&(Pg "values" y.1).any λz=>z.2.1.isEmpty&&x.chk Γ z.1
 ok c h:=by let((e,l,A,w),q,f):=aR h;let(rfl,g,i):=gJ q;simp only[Ld,TU]at f;let(rfl,o):=f;let((b,l,v,u),z,a):=aR o;let(rfl,r,p,C,B):=sW z;simp only[Ld,TU]at a;let(rfl,n):=a;let(t,m,j):=x.ok c n;show#[_,jR c g JB (.inl #[_,W]) (LD.call_minV c.cm (jW c)) i (eK (LD.pe_ddvals m (g8 r) p) i9 (ie W)),Ac j]
noncomputable instance[u:CA T (as a)]:CE T (es (zI u8 a)) where
 chk Γ e:=(AL Γ "min" e).any λy=>u.chk Γ (y.1::y.2.1)
 ok c h:=by let(y,q,f):=aR h;let(rfl,g,b):=gJ q;let(t,h1,d):=u.ok c f;show#[_,jR c g JB (.inl #[_,W]) (LD.call_min2 c.cm (jW c)) b h1,A5 Dp d]
noncomputable instance[x:CE T (es a)]:CE T (es (LD.ddlS a)) where
 chk Γ e:=(AL Γ "dict" e).any λy=>y.2.1.isEmpty&&x.chk Γ y.1
 ok c h:=by let((e,l,n,m),q,d):=aR h;let(rfl,g,b):=gJ q;simp only[Ld,TU]at d;let(rfl,j):=d;let(t,i,f):=x.ok c j;show#[_,jR c g L10.DS (.inr #[_,W]) (LD.call_dictLD c.cm (jW c)) b (eK i i9 (d9 b)),LD.eos_ddl f]
def Ss(j:Nat):CI T QU:=#[λa p=>gR p.2&&rS j a p.2,λc h=>by rw[Ld]at h;show#[_,#[LD.pi_keysD (iS c h.2),h.1],trivial]]
def OA(c:Gm)(e:Ts):Bool:=(zQ e).any λl=>match l with
 |[a,b]=>gR b&&rS 0 c a&&(oV b).any λu=>gR u.2.1&&((vC u.2.1).bind cD).any (λz=>dq 2 z (.int 0))&&(oV u.1).any λv=>gR v.2.1&&rS 1 c v.1&&rS 0 c v.2.1
 |_=>SW
def FW{s:Gm}{X:Cx}{E:XK}{e:Ts}(c:Ct T s X E)(h:OA s e=U):PE X e (wB (dr (gO 0) (dr (yS (zO X.K) (LD.tPDGet X.K (gO 1) (gO 0)) (tC (.int 0))) jd))):=by
 let(l,q,h):=aR h;let(_,_,rfl):=mO q
 match l,h with
 |[a,b],h=>
  let h:=(Ld _ _).mp h;let(h1,F):=h;let h1:=((Ld _ _).mp h1).2;let(u,i,j):=aR F;let i:=eO i;subst i;simp only[Ld]at j;let((C,B),A):=j;let(d,t,r):=aR B;let(k,p,o):=Ue.mp t;obtain rfl:=xG _ _ _ r;let(_,_,n):=Cz p;ext k<;>ext o;let(v,m,f):=aR A;simp only[Ld]at f;let w:PE X (.Subscript u.1 u.2.1 u.2.2) (yS (zO X.K) (LD.tPDGet X.K (gO 1) (gO 0)) (tC (.int 0))):=by show BR Db ?_ (by rw[n];show vo) (lB C);rw[eO m];show LD.pe_pdget (jW c) (iS c f.1.2) (iS c f.2) (lB f.1.1)
  let g:[.Subscript u.1 u.2.1 u.2.2].all gR=U:=W;show Dh (eK (iS c h1) (eK w i9 (d9 g)) (d9 (show[a,.Subscript u.1 u.2.1 u.2.2].all gR=U by rw[Vk,Ld];show#[?_,g];let(x,z,_):=aR h1;rw[pQ z];rfl)))
def SE:CQ T (jZ C6):=inferInstance
def RY:CG T (Fi (iC 0)):=LX 0 oB
noncomputable instance:CE T (es (LD.sortS (LD.restK j))) where
 chk Y e:=(AL Y "sorted" e).any λy=>y.2.1.isEmpty&&(KZ y.1).any λz=>z.2.1.ifs.isEmpty&&G6 1 [j] (Ss (T:=T) j) RY SE Sx Y QG z.2.1 z.2.2.1&&D0 0 (Y.inn (Hr z.2.1.target) (rB Y [j]) z.2.2.1.names) z.2.1.target&&rS j Y z.2.1.iter&&OA (Y.inn (Hr z.2.1.target) (rB Y [j]) z.2.2.1.names) z.1
 ok {Y X E e} c h:=by
  let((e,l,P,O),q,v):=aR h;let(rfl,g,t):=gJ q;simp only[Ld,TU]at v;let(rfl,J):=v;let((elt,L,m,p),d,u):=aR J;simp only[Ld,TU,decide_eq_true_eq]at u;let((((o,I),G),B),F):=u;let⟨l⟩:=xN c I;let(b,iter,n,r):=L;obtain rfl:r=0:=l.e;let o:n=[]:=o;subst o;let M:=yZ (X:=X) (elt:=elt) (tg:=b) (iter:=iter) (pos:=p) l.own l.fv c.cm (LD.pi_keysD (iS c B)) (g:=kj 0) (te:=wB (dr (gO 0) (dr (yS (zO X.K) (LD.tPDGet X.K (gO 1) (gO 0)) (tC (.int 0))) jd))) (λs H C a=>by let(N,Q,z,k1,k2,k3):=mH (l.ct s H C a (bC X s H m C (cH l.own l.fv) a).xe E0) G;let z:b=_:=z;subst z;show y6 (l.ct s H C a (bC X s H m C (cH l.own l.fv) a).xe E0).nd k1 k2 k3) (λ_ _ _ _=>mX) (λs H C a=>FW (l.ct s H C a (bC X s H m C (cH l.own l.fv) a).xe E0) F) l.fvk l.fr l.kd l.nd l.nm l.fold;let(x,A):=List.length_eq_one_iff.mp l.ln;obtain⟨y,w⟩:∃y,l.fv=[(y,j)]:=by
   let i:=l.fj;generalize l.fv=f at i
   match f,i with
   |[(y,k)],i=>ext i;show#[y,W]
  let d:=yw d;let d:e=_:=d;subst d;show#[_,jR c g BU (.inl #[_,W]) (LD.call_sortP (jW c)) t (eK (LD.pe_unpD M) i9 (d9 t)),LD.eos_sortS (by rw[A,w];show LD.eos_restK)]
end CC
local macro_rules| `(tactic|walk_at "nm")=> `(tactic|first|((simp only[XY,aan]);rfl)|rfl)| `(tactic|walk_at "evf")=> `(tactic|first|with_reducible assumption|with_reducible exact L3.qS _ _|with_reducible exact L3.Ef _ _|with_reducible exact L3.A0 _ _|with_reducible exact L3.adH _ _|with_reducible exact L3.Eu _ _|with_reducible exact L3.JQ _ _|with_reducible exact L3.afZ _ _|with_reducible exact L3.agU _ _|with_reducible exact L3.gZ _ _|with_reducible exact L3.abA _ _|with_reducible exact L3.aaU _ _|with_reducible exact L3.aaX _ _|with_reducible exact L3.ae4 _ _|with_reducible exact L3.ae9 _ _|with_reducible exact L3.aeA _ _|with_reducible exact L3.ae8 _ _|with_reducible exact L3.aeB _ _|with_reducible exact L3.aef _ _|with_reducible exact L3.aeQ _ _|with_reducible exact L3.aep _ _|with_reducible exact L3.ad1 _ _|with_reducible exact L3.aex _ _|with_reducible exact L3.agP _ _|with_reducible exact L3.akI|with_reducible exact L3.akC|with_reducible exact L3.ajD|with_reducible exact L3.Lu|with_reducible exact L3.aiu|with_reducible exact L3.DF|with_reducible exact L3.aaJ _|with_reducible exact L3.nO _|(with_reducible rfl))| `(tactic|walk_at "ev")=> `(tactic|first
 |with_reducible exact L3.bh
 |((with_reducible apply L3.ae);rfl)
 |((with_reducible apply L3.dW);rfl)
 |with_reducible exact L3.aw
 |with_reducible exact L3.dX
 |((with_reducible apply L3.aM);(·walk_at "ev");(·walk_at "ev");(·rfl);(·rfl);(·walk_at "evf"))
 |((with_reducible apply L3.C0);(·walk_at "ev");(·rfl);(·rfl))
 |((with_reducible apply L3.ah);(·walk_at "ev");(·walk_at "ev"))
 |((with_reducible apply L3.aV);(·walk_at "ev");(·rfl))
 |((with_reducible apply L3.cJ);(·walk_at "ev");(·rfl);(·first|walk_at "evf"|rfl))
 |((with_reducible apply L3.bS);(·walk_at "ev");(·rfl);(·rfl);(·with_reducible assumption))
 |((with_reducible apply L3.dI);(·walk_at "ev");(·rfl);(·exact TH rfl))
 |((with_reducible apply L3.wa);(·walk_at "ev");(·rfl);(·exact TH rfl))
 |((with_reducible apply L3.rP);(·walk_at "ev");(·rfl);(·rfl))
 |((with_reducible apply L3.b5);(·walk_at "ev");(·rfl))
 |((with_reducible apply L3.ji);(·walk_at "ev");(·walk_at "ev");(·walk_at "ev");(·rfl);(·first|with_reducible assumption|rfl))
 |((with_reducible apply L3.jz);(·walk_at "ev"))
 |((with_reducible apply L3.sf);(·walk_at "ev");(·intro _;walk_at "ev"))
 |((with_reducible apply L3.kU);(·walk_at "ev");(·intro _;walk_at "ev"))
 |((with_reducible apply L3.aeD);(·walk_at "ev"))
 |((with_reducible apply L3.mS);(·walk_at "ev");(·intro _;walk_at "ev"))
 |((with_reducible apply L3.acf);(·walk_at "ev");(·intro _;walk_at "ev"))
 |((with_reducible apply L3.kA);(·walk_at "ev");(·rfl);(·first|with_reducible assumption|rfl))
 |((with_reducible apply L3.gj);(·walk_at "ev");(·rfl);(·rfl))
 |((with_reducible apply L3.aed);(·walk_at "ev");(·rfl);(·rfl))
 |((with_reducible apply L3.gF);(·rfl);(·walk_at "ev");(·rfl);(·rfl);(·first|with_reducible assumption|(simp only[UG,S0,L3.eL] at*;ext));(·walk_at "nm"))
 |((with_reducible apply L3.afP);(·rfl);(·walk_at "ev");(·rfl);(·rfl);(·with_reducible assumption);(·with_reducible assumption);(·with_reducible assumption);(·walk_at "nm"))
 |((with_reducible apply L3.qX);(·walk_at "ev");(·rfl);(·walk_at "nm"))
 |((with_reducible apply L3.sO);(·walk_at "ev"))
 |((with_reducible apply L3.wI);(·walk_at "ev");(·rfl)))
local macro_rules| `(tactic|walk_at "evb")=> `(tactic|first
 |((with_reducible apply L3.cN);(·walk_at "ev");(·walk_at "ev");(·rfl);(·rfl);(·walk_at "evf"))
 |((with_reducible apply L3.gX);(·walk_at "ev");(·rfl);(·rfl);(·with_reducible assumption))
 |((with_reducible apply L3.Ey);(·walk_at "ev");(·rfl);(·first|walk_at "evf"|rfl))
 |walk_at "ev")
local macro_rules| `(tactic|walk_at "ev")=> `(tactic|first
 |with_reducible assumption
 |((with_reducible apply L3.mS);(·walk_at "ev");(·intro _;walk_at "evb"))
 |((with_reducible apply L3.acf);(·walk_at "ev");(·intro _;walk_at "evb"))
 |((with_reducible apply L3.adO);(·walk_at "ev");(·walk_at "ev");(·walk_at "ev");(·rfl);(·rfl);(·rfl);(·walk_at "evf");(·intro _;walk_at "evf"))
 |((with_reducible apply L3.aeR);(·walk_at "ev");(·rfl);(·rfl);(·rfl)))
local macro_rules| `(tactic|walk_at "go")=> `(tactic|first
 |((with_reducible apply L3.aJ);(·walk_at "ev");(·rfl);(·walk_at "nm");try walk_at "go")
 |((with_reducible apply L3.si);(·walk_at "ev");try walk_at "go")
 |((with_reducible apply L3.Eg);try walk_at "go")
 |((with_reducible apply L3.cX);try walk_at "go")
 |((with_reducible apply L3.nz);(·walk_at "ev");(·rfl))
 |((with_reducible apply L3.jN);(·walk_at "ev"))
 |((with_reducible apply L3.wP);(·walk_at "ev");(·rfl);(·walk_at "nm"))
 |((with_reducible apply L3.fK);(·walk_at "ev"))
 |((with_reducible apply L3.bZ);(·walk_at "ev");(·rfl))
 |((with_reducible apply L3.lU);(·walk_at "ev"))
 |(with_reducible apply L3.ik))
local macro_rules| `(tactic|walk_at "evp")=> `(tactic|((apply Eq.trans);(·walk_at "ev");(·rfl)))
local macro_rules(kind:=«term{_}»)|`({$a})=>`(L3.af $a L3.au)|`({$a,$b})=>`(L3.af $a (L3.af $b L3.au))|`({$a,$b,$c})=>`(L3.af $a (L3.af $b (L3.af $c L3.au)))|`({$a,$b,$c,$d})=>`(L3.af $a (L3.af $b (L3.af $c (L3.af $d L3.au))))
local macro_rules|`(~~~$n)=>`(L3.pC (.int $n))
local macro_rules|`(-($x))=>`(Option.some (.fz $x))
namespace K64
open PySem L2 L3
def eW:FS:=(cV (aC dJ (aC bB (uf Pz (aa 0) (dA (aa 1)) (dA (aC bB (aa 1) (~~~1)))) (eR {~~~0})) (~~~0)))
def bP:FN:=fq 2 eW
def cS:FS:=(az (aO (aC bB (aC bf (aa 0) (~~~1000000007)) (aC eU (~~~13) (aa 1))) (gN 2))
 (az (aO (aC bf (aC bB (aC bB (aC eU (aa 2) (aC bB (aC bB (aa 2) (aC eU (aa 1) (aa 1))) (~~~11))) (aC eU (~~~40487) (aa 1))) (~~~7)) (~~~1000000033)) (gN 2))
 (cV (aC bT (aC bf (aC bB (aC eU (aa 2) (aC bB (aC bT (aa 2) (~~~7)) (~~~31))) (~~~90001)) (~~~999999937)) (~~~3)))))
def bI:FN:=fq 3 cS
def cz:FS:=(az (aO (eR au) (gN 2))
 (az (aO (iL ox {aa 0,aC pL (~~~0) (aa 0)}) (gN 3))
 (az (fD (gz dR {aa 1}) (gN 4) (az (aO (~~~0) (gN 5))
 (az (fD (gz dR {~~~3}) (gN 6) (aO (aC bB (aC eU (aa 5) (aC kS (~~~10) (~~~8))) (aC bf (bL bI 2 {aa 0,aC bB (aC eU (~~~3) (aa 4)) (aa 6)}) (aC kS (~~~10) (~~~8)))) (gN 5)))
 (az (kY (rH (aL (aC Ng (aa 3) (~~~0))) (zD (aL (aC LA (aa 0) (~~~0))) (aL (aC Nv (aa 0) (aC kS (~~~10) (~~~18)))))) (az (aO (aC bf (aa 3) (aC kS (~~~10) (~~~24))) (gN 5))
 (aO (aC bT (aa 3) (aC kS (~~~10) (~~~24))) (gN 3))) cT)
 (de (gK 2 (aa 5)))))))
 (cV (aa 2)))))
def eP:FN:=fq 7 cz
def bX:FS:=(az (aO (pC (.str "")) (gN 1))
 (az (aO (aC bB (~~~1) (aC bf (aa 0) (~~~8))) (gN 2))
 (az (aO (aC bT (aa 0) (~~~8)) (gN 0))
 (az (fD (gz dR {aa 2}) (gN 3) (az (aO (aC xq (aa 1) (aC o8 (pC (.str "abcdefghijklmnopqrstuvwxyz")) (aC bf (aa 0) (~~~26)))) (gN 1))
 (aO (aC bT (aa 0) (~~~26)) (gN 0))))
 (cV (aa 1))))))
def ei:FN:=fq 4 bX
def bF:FS:=(az (aO (aC bB (~~~1) (aa 0)) (gN 1))
 (az (aO (eR au) (gN 2))
 (az (fD (gz dR {~~~12}) (gN 3) (az (kY (aL (aC j7 (aC bf (aa 1) (~~~2)) (~~~1))) (de (gK 2 (aa 3))) cT)
 (aO (aC bT (aa 1) (~~~2)) (gN 1))))
 (cV (iL kG {aa 2})))))
def c7:FN:=fq 4 bF
def bE:FS:=(az (aO (eR au) (gN 1))
 (az (fD (gz dR {aC bB (~~~1) (aC bf (aC dJ (aa 0) (~~~0)) (~~~20))}) (gN 2) (az (aO (bL ei 1 {aC dJ (aa 0) (aC bB (~~~1) (aC eU (~~~2) (aa 2)))}) (gN 3))
 (az (aO (eR au) (gN 4))
 (az (aO (aC bT (aC dJ (aa 0) (aC bB (~~~2) (aC eU (~~~2) (aa 2)))) (~~~6)) (gN 5))
 (az (fD (gz dR {aC bB (~~~1) (aC bf (aC dJ (aa 0) (aC bB (~~~2) (aC eU (~~~2) (aa 2)))) (~~~6))}) (gN 6) (az (de (gK 4 (bL c7 1 {aC bf (aa 5) (~~~4095)})))
 (aO (aC bT (aa 5) (~~~4095)) (gN 5))))
 (kY (aL (aC C4 (aa 3) (iJ 2 [] (yc 1) (gT 2 (kH (gN 0) (kH (gN 1) vg))) d5 (aa 0)))) (de (gK 1 (cu {aa 3,iL kG {aa 4}}))) cT))))))
 (cV (iL kG {aa 1}))))
def c9:FN:=fq 7 bE
def dM:FS:=(az (kY (zD (aL (aC LA (aa 0) (~~~0))) (aL (aC Nv (aa 0) (aC kS (~~~10) (~~~18))))) (cV (iL ox {aa 0,aC pL (~~~0) (aa 0)})) cT)
 (cV (bL bI 2 {bL bI 2 {aa 0,aa 1},~~~3})))
def bD:FN:=fq 2 dM
def dc:FS:=(az (aO (pC (.str "abcdefghijklmnopqrstuvwxyz")) (gN 2))
 (az (aO (aC o8 (aa 2) (aC bf (aC bT (aa 0) (~~~3)) (~~~26))) (gN 3))
 (az (kY (rH (aL (aC j7 (aC bf (aa 0) (~~~3)) (~~~0))) (aL (aC LA (aa 1) (~~~9)))) (cV (iJ 1 [3] (gz dR {aa 1}) (gN 0) d5 (aC L9.tZ (aa 1) (aC bB (aa 0) (~~~1))))) cT)
 (az (aO (aC bf (aC bT (aa 0) (~~~78)) (~~~8)) (gN 4))
 (az (aO (aC bf (aC bT (aa 0) (~~~624)) (aC bB (aa 4) (~~~1))) (gN 5))
 (az (aO (eR au) (gN 6))
 (az (fD (gz dR {aa 1}) (gN 7) (az (aO (aC o8 (aa 2) (aC bf (aC bB (aC eU (aa 7) (~~~7)) (aC bT (aa 0) (~~~5616))) (~~~26))) (gN 8))
 (de (gK 6 (aC xq (aC xq (aC L9.tZ (aa 3) (aa 5)) (aa 8)) (aC L9.tZ (aa 3) (aC pL (aa 4) (aa 5))))))))
 (cV (aa 6)))))))))
def d7:FN:=fq 9 dc
def cE:FS:=(az (aO (eR {cu {~~~0},cu {~~~1},cu {~~~0,~~~1},cu {~~~2,~~~11}}) (gN 2))
 (az (kY (aL (aa 1)) (az (aO (aC bT (aa 0) (~~~4)) (gN 3))
 (az (aO (eR au) (gN 4))
 (az (fD (gz dR {~~~12}) (gN 5) (az (kY (aL (aC j7 (aC bf (aa 3) (~~~2)) (~~~1))) (de (gK 4 (aa 5))) cT)
 (aO (aC bT (aa 3) (~~~2)) (gN 3))))
 (kY (aL (aC Ng (iL eG {aa 4}) (~~~0))) (cV (iL kG {aa 4})) cT)))) cT)
 (cV (aC dJ (aa 2) (aC bf (aa 0) (~~~4))))))
def df:FN:=fq 6 cE
def dP:FS:=(az (aO (bL bP 2 {aa 0,aa 1}) (gN 2))
 (az (kY (zD (aL (aC LA (aa 2) (~~~0))) (aL (aC Nv (aa 2) (aC kS (~~~10) (~~~18))))) (cV (bL c9 1 {bL eP 2 {aa 2,~~~41}})) cT)
 (az (aO (bL bD 2 {aa 2,~~~1}) (gN 2))
 (az (aO (aC bf (aC bT (aa 2) (~~~6)) (~~~4)) (gN 3))
 (az (aO (aC bB (~~~1) (aC bf (aa 2) (~~~6))) (gN 4))
 (az (aO (~~~4) (gN 5))
 (az (kY (aL (aC j7 (aC bf (aC bT (aa 2) (~~~24)) (~~~8)) (~~~3))) (az (aO (aC bB (~~~12) (aC bf (aC bT (aa 2) (~~~192)) (~~~9))) (gN 4))
 (aO (~~~6) (gN 5))) cT)
 (az (aO (bL d7 2 {bL bD 2 {bL bP 2 {aa 0,aC bB (aa 1) (~~~1)},~~~2},aa 4}) (gN 6))
 (az (aO (eR au) (gN 7))
 (az (fD (gz dR {aa 4}) (gN 8) (az (aO (bL bD 2 {bL bP 2 {aa 0,aC bB (aC bB (aa 1) (~~~2)) (aC bf (aa 8) (~~~6))},aC bB (~~~3) (aa 8)}) (gN 9))
 (az (aO (eR au) (gN 10))
 (az (fD (gz dR {aC bB (~~~1) (aC bf (aa 9) (aa 5))}) (gN 11) (az (aO (aC bT (aa 9) (~~~4)) (gN 9))
 (de (gK 10 (bL df 2 {aC dJ (eR {aC bf (aa 9) (~~~2),aa 9,aa 9,aa 9}) (aa 3),aC j7 (aa 3) (~~~1)})))))
 (de (gK 7 (cu {aC dJ (aa 6) (aa 8),iL kG {aa 10}})))))))
 (cV (iL kG {aa 7}))))))))))))
def gl:FN:=fq 12 dP
def iW:FS:=(cV (aC j7 (uf mL (aa 1) iH (dA (iL eG {aa 0}))) (aa 0)))
def fY:FN:=fq 2 iW
def dZ:FS:=(az (aO (eR au) (gN 1))
 (az (fD (gG (aa 0)) (gT 2 (kH (gN 2) (kH (gN 3) vg))) (fD (gG (aa 0)) (gT 2 (kH (gN 4) (kH (gN 5) vg))) (kY (rH (aL (aC tw (aa 2) (aa 4))) (aL (bL fY 2 {aa 3,aa 5}))) (de (gK 1 (cu {iL eG {aa 5},uf mL (aa 5) (dA (iL eG {aa 3})) iH,cu {aa 4},cu {aa 2}}))) cT)))
 (cV (aa 1))))
def d8:FN:=fq 6 dZ
def eV:FS:=(az (aO (aC dJ (aa 1) (~~~0)) (gN 2))
 (az (aO (aC dJ (aa 1) (~~~1)) (gN 3))
 (az (kY (aL (aC j7 (aa 3) (cu au))) (cV (eR au)) cT)
 (az (aO (eR au) (gN 4))
 (az (fD (gG (aa 0)) (gT 2 (kH (gN 5) (kH (gN 6) vg))) (kY (aL (bL fY 2 {aa 6,aa 3})) (de (gK 4 (cu {aa 2,uf mL (aa 3) (dA (iL eG {aa 6})) iH,aC dJ (aa 1) (~~~2),aC bB (aC dJ (aa 1) (~~~3)) (cu {aa 5})}))) (kY (aL (bL fY 2 {aa 3,aa 6})) (az (aO (uf mL (aa 6) (dA (iL eG {aa 3})) iH) (gN 7))
 (de (gK 4 (cu {aC bB (aa 2) (iL eG {aa 7}),aa 7,aC bB (aC dJ (aa 1) (~~~3)) (cu {aa 5}),aC dJ (aa 1) (~~~2)})))) cT)))
 (cV (aa 4)))))))
def eX:FN:=fq 8 eV
def cM:FS:=(az (aO (cu au) (gN 2))
 (az (fD (gG (aa 1)) (gN 3) (fD (gG (aa 0)) (gT 2 (kH (gN 4) (kH (gN 5) vg))) (kY (aL (aC j7 (aa 4) (aa 3))) (aO (aC sr (aa 2) (aa 5)) (gN 2)) cT)))
 (cV (aa 2))))
def bp:FN:=fq 6 cM
def gc:FS:=(az (kY (pI (aL (pD "list" (aa 0)))) (cV (pC (.bool SW))) cT)
 (cV (iL z8 {iJ 1 [1] (gG (aa 0)) (gN 0) d5 (ut (pD "str" (aa 0)) (aC MN (aa 0) (iJ 2 [] (gG (aa 1)) (gT 2 (kH (gN 0) (kH (gN 1) vg))) d5 (aa 0))))})))
def dF:FN:=fq 2 gc
def cQ:FS:=(az (kY (zD (pI (aL (pD "tuple" (aa 1)))) (aL (aC tw (iL eG {aa 1}) (~~~2)))) (cV (pC (.bool SW))) cT)
 (az (kY (zD (pI (aL (bL dF 2 {aC dJ (aa 1) (~~~0),aa 0}))) (zD (pI (aL (bL dF 2 {aC dJ (aa 1) (~~~1),aa 0}))) (aL (aC j7 (aC dJ (aa 1) (~~~0)) (aC dJ (aa 1) (~~~1)))))) (cV (pC (.bool SW))) cT)
 (az (aO (bL bp 2 {aa 0,aC dJ (aa 1) (~~~0)}) (gN 3))
 (cV (ut (aC j7 (aa 3) (bL bp 2 {aa 0,aC dJ (aa 1) (~~~1)})) (aC j7 (iL eG {aa 3}) (aa 2)))))))
def bW:FN:=fq 4 cQ
def da:FS:=(az (aO (eR au) (gN 3))
 (az (aO (~~~0) (gN 4))
 (az (fD (gG (aa 1)) (gN 5) (az (aO (aC dJ (aa 0) (aC bf (aC bT (bL bD 2 {aa 5,aa 2}) (aa 2)) (iL eG {aa 0}))) (gT 2 (kH (gN 6) (kH (gN 7) vg))))
 (kY (aL (aC Qm (aC bB (aa 4) (iL eG {aa 7})) (~~~190))) (az (de (gK 3 (aa 6)))
 (aO (aC bB (aa 4) (iL eG {aa 7})) (gN 4))) cT)))
 (cV (aa 3)))))
def eu:FN:=fq 8 da
end K64
namespace K64
open PySem L2 L3 L10
def jv:fM:=(pF (uQ (aX 1)) (iC 2) (aW (dG (am (aC dJ (aa 2) (~~~1))) (iC 3))
 (lF (aX 0) (am (aa 3)) (zI u8 (aQ (am (aa 2)) (aQ (kK (aX 0) (am (aa 3)) (am (aa 2))) dH))))))
def kr:kO:=iO 4 jv
def bM:fM:=(aW (dG oC (iC 1))
 (aW (dG oC (iC 2))
 (aW (jh (jf kr 2 (aQ (aX 2) (aQ (am (bL d8 1 {aa 0})) dH))))
 (aW (sL (cI (qG (aX 2))) (aW (dG (oh (aX 2)) (iC 3))
 (aW (lF (aX 1) (am (aC dJ (aa 3) (~~~1))) (nr (aX 2) (am (aC dJ (aa 3) (~~~1)))))
 (jh (jf kr 2 (aQ (aX 2) (aQ (uD 1 [1] (iI (gG (bL eX 2 {aa 0,aa 3}))) (iC 0) (cI (jL U (am (aC dJ (aa 0) (~~~1))) (aX 1))) (am (aa 0))) dH)))))))
 (gf (aX 1))))))
def bu:kO:=iO 4 bM
def jx:fM:=(aW (dG (jf bu 1 (aQ (am (aa 0)) dH)) (iC 1))
 (gf (LD.sortS (LD.restK 1))))
def dE:kO:=iO 2 jx
def fO:fM:=(aW (dG (jf bu 1 (aQ (am (aa 0)) dH)) (iC 1))
 (aW (fX (cI (jL U (am (cu au)) (aX 1))) (gf (am (pC .none))) fG)
 (gf (BZ (aQ (zI oW (aQ (o8 (gv (aX 1) (am (cu au))) (am (~~~2))) dH)) (aQ (zI oW (aQ (o8 (gv (aX 1) (am (cu au))) (am (~~~3))) dH)) dH))))))
def aN:kO:=iO 2 fO
def dY:fM:=(aW (dG (LD.ddlS (fV dE 1 (aQ (am (aa 0)) dH))) (iC 1))
 (aW (pF (iI (gz dR {~~~2})) (iC 2) (aW (dG (fV aN 1 (aQ (am (aa 0)) dH)) (iC 3))
 (aW (fX (cI (AK tw (AK pE (aX 3) (am (pC .none))) (jL U (am (cu au)) (aX 1)))) (gf (am (pC (.bool SW)))) fG)
 (fX (cI (AK AF (aX 3) (am (pC .none)))) (aW (fX (uJ (cI (vW bW 3 (aQ (am (aa 0)) (aQ (aX 3) (aQ (gv (aX 1) (am (cu au))) dH)))))) (gf (am (pC (.bool SW)))) fG)
 (aW (jh (wC (o8 (aX 3) (am (~~~0))) (am (aC dJ (aC dJ (aa 0) (~~~0)) (~~~0)))))
 (jh (wC (o8 (aX 3) (am (~~~1))) (am (aC dJ (aC dJ (aa 0) (Fj zu (~~~1))) (~~~0))))))) fG))))
 (gf (am (pC (.bool U))))))
def aU:kO:=iO 4 dY
def cn:fM:=(aW (dG (qk [((am (~~~0)),(am (pC .none)))]) (iC 2))
 (aW (pF (iI (gz dR {iL eG {aa 1}})) (iC 3) (fX (cI (jT SW (am (aa 3)) (aX 2))) (pF (iI (gG (aa 0))) (Qt 2 (F6 (iC 4) (F6 (iC 5) K6))) (aW (dG (am (aC bB (aa 3) (iL eG {aa 5}))) (iC 6))
 (fX (jK (aL (aC j7 (uf mL (aa 1) (dA (aa 3)) (dA (aa 6))) (aa 5)))) (tR (aX 2) (am (aa 6)) (am (aa 4))) fG))) fG))
 (gf (aX 2))))
def bN:kO:=iO 7 cn
def cP:fM:=(aW (dG (pU (am (aa 0))) (iC 2))
 (aW (dG (jf bN 2 (aQ (am (aa 0)) (aQ (am (aa 1)) dH))) (iC 3))
 (aW (dG (am (iL eG {aa 1})) (iC 4))
 (aW (fX (cI (jT U (am (aa 4)) (aX 3))) (gf (am (pC .none))) fG)
 (aW (dG (am (eR au)) (iC 5))
 (aW (sL (jK (aL (aC Ng (aa 4) (~~~0)))) (aW (dG (mh (aX 3) (am (aa 4))) (iC 6))
 (aW (jh (wC (aX 5) (am (aa 6))))
 (wV 4 pL (zI eG (aQ (mh (aX 2) (am (aa 6))) dH))))))
 (gf (uI (aX 5)))))))))
def bH:kO:=iO 7 cP
def jt:fM:=(aW (dG (pU (am (aa 0))) (iC 2))
 (aW (dG (am (cu au)) (iC 3))
 (aW (pF (iI (gG (aa 1))) (iC 4) (aW (fX (cI (jT U (am (aa 4)) (aX 2))) MB fG)
 (wV 3 um (mh (aX 2) (am (aa 4))))))
 (gf (am (aa 3))))))
def dQ:kO:=iO 5 jt
def uU:fM:=(aW (dG (am (bL gl 2 {aa 0,~~~0})) (iC 1))
 (aW (dG (mC (am (iL kG {iJ 2 [] (gG (aC sr (uf mL (aa 1) (dA (~~~1)) iH) (uf mL (aa 1) iH (dA (~~~1))))) (gT 2 (kH (gN 0) (kH (gN 1) vg))) d5 (cu {aa 0,Fj L9.AD (aa 1)})}))) (iC 2))
 (aW (fX (Nr (uJ (cI (fV aU 1 (aQ (am (aa 1)) dH)))) (Nr (uJ (cI (fV aU 1 (aQ (am (aa 2)) dH)))) (uJ (cI (fV aU 1 (aQ (am (aa 1)) dH)))))) (gf (am (pC (.bool SW)))) fG)
 (aW (dG (AK pE (fV aN 1 (aQ (am (aa 1)) dH)) (am (pC .none))) (iC 3))
 (aW (dG (mC (am (bL eu 3 {aa 1,uf mL (aa 0) (dA (~~~14)) (dA (~~~63)),~~~1}))) (iC 4))
 (aW (dG (mC (am (bL eu 3 {aa 1,uf mL (aa 0) (dA (~~~40)) (dA (~~~63)),~~~7}))) (iC 2))
 (aW (pF (iI (gG (eR {aa 4,aa 2,uf mL (aa 4) iH (dA (iL eG {aa 2})),uf mL (aa 2) iH (dA (~~~3))}))) (iC 5) (aW (dG (mC (fV dQ 2 (aQ (am (aa 1)) (aQ (mC (am (iL oW {aa 5}))) dH)))) (iC 6))
 (aW (fX (jK (aL (aC tw (aa 6) (bL bp 2 {aa 1,aa 5})))) (gf (am (pC (.bool SW)))) fG)
 (aW (dG (mC (fV bH 2 (aQ (am (aa 1)) (aQ (am (aa 6)) dH)))) (iC 7))
 (aW (fX (jK (zD (pI (aL (bL dF 2 {aa 7,aa 1}))) (zD (aL (aC tw (bL bp 2 {aa 1,aa 7}) (aa 6))) (rH (aL (aa 3)) (aL (aC tw (aa 7) (aa 5))))))) (gf (am (pC (.bool SW)))) fG)
 (fX (wE (jK (aL (aa 3))) (cI (AK tw (am (aC j7 (aa 5) (aa 4))) (AK j7 (am (aa 6)) (fV dQ 2 (aQ (am (aa 1)) (aQ (mC (am (iL oW {aa 4}))) dH))))))) (gf (am (pC (.bool SW)))) fG))))))
 (gf (am (pC (.bool U)))))))))))
def F_law:kO:=iO 8 uU
def lI(a:G Int)(lo b:I Int):G Int:=(a.drop (HT.sIx a.length 0 lo)).take (HT.sIx a.length a.length b - HT.sIx a.length 0 lo)
def rJ(a:G Int)(k:Int)(f:0<=k)(e:a.length<=63):∃c:Int,bP [.list (a.map .int),.int k]=.ok (.fz (.int c)):=by
 unfold bP eW;let e1:Pz (.list (a.map .int)) (M k) (M (k+1))=M (.ow (fU (a.map .int) (M k) (M (k+1)))):=W;let d:fU (a.map SR.int) (M k) (M (k+1))=(lI a (M k) (M (k+1))).map .int:=by unfold fU lI;rw[SI,Wv,WX]
 rw[d]at e1;let b:(lI a (M k) (M (k+1))).length<=63:=by ext lI;rw[T7,Ut];ext
 generalize lI a (M k) (M (k+1))=cs at e1 b;let e2:bB (.list (cs.map .int)) (.list [.int 0])=M (.ow (cs.map .int++[.int 0])):=by show(if(cs.map SR.int).length+1<=1000000 then _ else _)=_;rw[SI,ai ()]
 cases cs with
 |nil=>let e3:dJ (.list (([]:G Int).map SR.int++[.int 0])) (.int 0)=-(.int 0):=Lu;show#[0,gW (ρ:=[-(.list (a.map .int)),-(.int k)]) W (bZ (by walk_at "ev") W W)]
 |cons c r=>let e3:dJ (.list ((c::r).map SR.int++[.int 0])) (.int 0)=-(.int c):=Lu;show#[c,gW (ρ:=[-(.list (a.map .int)),-(.int k)]) W (bZ (by walk_at "ev") W W)]
def j0(c s:Int)(h0:0<=s)(h1:s<=1000):∃r:Int,0<=r/\bI [.int c,.int s]=.ok (.fz (.int r)):=by unfold bI cS;let i:0<=c % 1000000007/\c % 1000000007<1000000007:=#[TF _ (),TL _ ()];let g:bf (.int c) (.int 1000000007)=-(.int (c % 1000000007)):=bj ();let n:eU (.int 13) (.int s)=-(.int (13*s)):=fR #[by ext,by ext];generalize c % 1000000007=x at i g;let e:eU (.int s) (.int s)=-(.int (s*s)):=fR #[by ext,by ext];generalize s*s=ss at e;let d:eU (.int (x+13*s)) (.int (x+13*s+ss+11))=-(.int ((x+13*s)*(x+13*s+ss+11))):=fR #[by ext,by ext];generalize (x+13*s)*(x+13*s+ss+11)=y at d;let m:eU (.int 40487) (.int s)=-(.int (40487*s)):=fR #[by ext,by ext];let h:0<=(y+40487*s+7) % 1000000033/\(y+40487*s+7) % 1000000033<1000000033:=#[TF _ (),TL _ ()];let b:bf (.int (y+40487*s+7)) (.int 1000000033)=-(.int ((y+40487*s+7) % 1000000033)):=bj ();generalize (y+40487*s+7) % 1000000033=z at h b;let l:bT (.int z) (.int 7)=-(.int (z/7)):=cf #[by ext,by ext];let a:eU (.int z) (.int (z/7+31))=-(.int (z*(z/7+31))):=fR #[by ext,by ext];generalize z*(z/7+31)=u at a;let o:0<=(u+90001) % 999999937:=TF _ ();let j:bf (.int (u+90001)) (.int 999999937)=-(.int ((u+90001) % 999999937)):=bj ();let f:bT (.int ((u+90001) % 999999937)) (.int 3)=-(.int ((u+90001) % 999999937/3)):=cf #[by ext,by ext];show#[(u+90001) % 999999937/3,by ext,gW (ρ:=[-(.int c),-(.int s),S]) W (rq (xf (by walk_at "ev") W (rq (xf (by walk_at "ev") W (bZ (by walk_at "ev") W W)))))]
def Dq(c:Int):0<=if 0 - c>c then 0 - c else c:=by split<;>ext
def mG(c s:Int)(h0:0<=s)(h1:s<=1000):∃r:Int,0<=r/\bD [.int c,.int s]=.ok (.fz (.int r)):=by
 unfold bD dM;let(r,f,er):=j0 c s h0 h1;let(q,b,eq):=j0 r 3 () ();let d:ox [.int c,.int (0 - c)]=-(.int (if 0 - c>c then 0 - c else c)):=W;let a:=Dq c;generalize (if 0 - c>c then 0 - c else c)=i at d a;let(j,e,t):=gC (ds:=[.int c,.int s]) (ρ:=[-(.int c),-(.int s)]) (n:=2) (g:=dM) (T:=λv=>∃r:Int,0<=r/\v=.fz (.int r)) W
  (rq (lU (by walk_at "ev") (λ_=>bZ (by walk_at "ev") W #[i,a,W]) (λ_=>ik (bZ (by walk_at "ev") W #[q,b,W]))))
 let(r,h,rfl):=t;show#[r,h,e]
def zX(c:Int):∃xs:cb Int,xs.length=41/\(∀x∈xs,0<=x)/\eP [.int c,.int 41]=.ok (.ow (xs.map .int)):=by
 let p:=Dq c;let K:ox [.int c,.int (0 - c)]=-(.int (if 0 - c>c then 0 - c else c)):=W;generalize (if 0 - c>c then 0 - c else c)=mx at K p;let O:=Q2;let B:=Oc;let A:dR [.int 41]=cL (o9 (TV 41)):=jg (n:=41) () ();let N:dR [.int 3]=cL (o9 (TV 3)):=jg (n:=3) () ();let(rv,e,xs,h1,J,rfl):=gC (ds:=[.int c,.int 41]) (ρ:=[-(.int c),-(.int 41),CL,CL,CL,CL,CL]) (n:=7) (g:=cz) (T:=λv=>∃xs:cb Int,xs.length=41/\(∀x∈xs,0<=x)/\v=.ow (xs.map .int)) W (by
  ext cz;walk_at "go"
  with_reducible apply eg (λi X=>∃(xs:cb Int) (l:Int) (f b a:cc PV),X=[-(.int c),-(.int 41),cL (.ow (xs.map .int)),-(.int l),f,b,a]/\xs.length=i/\(∀x∈xs,0<=x)/\0<=l)
  .walk_at "ev"
  .show#[[],mx,CL,CL,CL,W,W,λx h=>(by ext h),p]
  .rintro i d X hi ⟨xs,l,f,b,a,rfl,Y,hx,hl⟩
   let(k,w,rfl):=ej hi;let L:k<41:=U3.mp (Te w);let M:i<41:=by let:=(SK.mp w).1;simpa using this
   show#[[-(.int c),-(.int 41),cL (.ow (xs.map .int)),-(.int l),-(nd k),b,a],W,?_];show aJ (ρ3:=[-(.int c),-(.int 41),cL (.ow (xs.map .int)),-(.int l),-(nd k),-(.int 0),a]) bh W W ?_
   with_reducible apply eg (λi X=>∃(x:Int) (a:cc PV),X=[-(.int c),-(.int 41),cL (.ow (xs.map .int)),-(.int l),-(nd k),-(.int x),a]/\0<=x)
   .walk_at "ev"
   .show#[0,a,W,by decide]
   .rintro j d X I ⟨x,a,rfl,hx0⟩;let(t,o,rfl):=ej I;let H:t<3:=U3.mp (Te o);let(r,U,er):=j0 c (3*(k:Int)+(t:Int)) () ();let S:eU (.int 3) (nd k)=-(.int (3*(k:Int))):=fR #[by ext,by ext];let Q:eU (.int x) (.int (10^8))=-(.int (x*10^8)):=ur #[by decide,by decide];let F:bf (.int r) (.int (10^8))=-(.int (r % 10^8)):=bj ();let q:0<=r % 10^8:=TF _ ();show#[_,W,?_];walk_at "go";show#[x*10^8+r % 10^8,_,W,?_];let:0<=x*10^8:=Int.mul_nonneg hx0 ();ext
   .rintro X ⟨x,a,rfl,hx0⟩
    let F:bf (.int l) (.int (10^24))=-(.int (l % 10^24)):=bj ();let P:bT (.int l) (.int (10^24))=-(.int (l/10^24)):=cf #[by decide,by decide];let q:0<=l % 10^24:=TF _ ();let E:0<=l/10^24:=VB hl ()
    let m:∀(x l:Int) (a:cc PV),0<=x->0<=l->Go (de (gK 2 (aa 5)) [-(.int c),-(.int 41),cL (.ow (xs.map .int)),-(.int l),-(nd k),-(.int x),a])
      (λX=>∃(xs:cb Int) (l:Int) (f b a:cc PV),X=[-(.int c),-(.int 41),cL (.ow (xs.map .int)),-(.int l),f,b,a]/\xs.length=i+1/\(∀x∈xs,0<=x)/\0<=l)
      (λX=>∃(xs:cb Int) (l:Int) (f b a:cc PV),X=[-(.int c),-(.int 41),cL (.ow (xs.map .int)),-(.int l),f,b,a]/\xs.length=i+1/\(∀x∈xs,0<=x)/\0<=l)
      (λv=>∃xs:cb Int,xs.length=41/\(∀x∈xs,0<=x)/\v=.ow (xs.map .int)):=λx l a h0 h1=>by
     let u:(xs.map SR.int).length<1000000:=by rw[SI];ext
     show fK (by walk_at "ev") #[xs++[x],l,_,_,_,by rw[Tj];rfl,by rw[SQ,Y];rfl,λy G=>?_,h1];rcases Th.mp G with z|z
     .show hx y z
     .rw[S6.mp z];show h0
    let C:=DF;walk_at "go"
    .intro _;walk_at "go";show m _ _ _ q E
    .intro _;show cX (m _ _ _ hx0 hl)
  .rintro X ⟨xs,l,f,b,a,rfl,Y,hx,hl⟩;show bZ (by walk_at "ev") W #[xs,Y,hx,W])
 show#[xs,h1,J,e]
def tx(l:G Nat):Str:=#[l.toArray]
def MJ(a b:G Nat):tx a++tx b=tx (a++b):=by show(#[a.toArray++b.toArray]:Str)=#[(a++b).toArray];rw[List.append_toArray]
def lR(l:G Nat):(tx l).length=l.length:=by rfl
def lW{l:G Nat}(h:∀c∈l,c<1114112):SR.strOk (tx l)=U:=by show l.toArray.all (λc=>decide (c<0x110000))=U;rw[<-aaE,TR];show λc a=>a6 (h c a)
theorem Co{a b:G Nat}(h:tx a=tx b):a=b:=eh (λz:Str=>z.cps.toList) h
def rK{a b:G Nat}(h:a.length+b.length<=1000):xq (.str (tx a)) (.str (tx b))=-(.str (tx (a++b))):=by show(if(tx a).length+(tx b).length<=1000000 then M (RV.fz (.str (tx a++tx b)))else S)=_;rw[lR,lR,ai (),MJ]
theorem xP(c:Nat):∀(n:Nat) (a:Array Nat),(SY n (#v[c]:Array Nat)).foldl (·++·) a=a++(SY n c).toArray
 |0,a=>by simp
 |n+1,a=>by rw[Ul,Xo,xP c n,Ul];apply Array.toList_inj.mp;simp
def KF(c:Nat)(n:Nat):Txt.mul (tx [c]) (n:Int)=tx (SY n c):=by
 ext Txt.mul;by_cases h0:n=0
 .subst h0;rfl
 rw[ak ()];by_cases h1:n=1
 .subst h1;rfl
 rw[ak (by intro z;let z:(((n:Int)==1)||((tx [c]).length==0))=U:=z;rw[lR]at z;simp at z;ext)];show(#[(SY (n:Int).toNat (#v[c]:Array Nat)).foldl (·++·) #v[]]:Str)=_;rw[xP,Uz];simp;rfl
def sC{c:Nat}{i:Int}(h0:0<=i)(h1:i<=1000):L9.tZ (.str (tx [c])) (.int i)=-(.str (tx (SY i.toNat c))):=by show(if(tx [c]).length<=1000/\0<=i/\i<=1000 then M (RV.fz (.str (Txt.mul (tx [c]) i)))else S)=_;rw[ai #[by rw[lR];show TH W,h0,h1]];obtain⟨n,rfl⟩:∃n:Nat,i=(n:Int):=#[i.toNat,by ext];rw[KF,Uz]
abbrev Wd:=G Nat×G (G Int)
def kD(a:G Int):D:=.tuple (a.map .int)
def wD(e:Wd):D:=.tuple [.str (tx e.1),.tuple (e.2.map kD)]
def aB(B:G Wd):D:=.tuple (B.map wD)
def mK{α:Type}{f g:α->D}{gt:FG}{p:FE}{a:aE}(I:aE->Prop)(xs:G α)(o:xs.length<=1000000)(h0:I a)(h:∀x∈xs,∀k,I k->∃c,lV gt d5 p (f x) k=.ok (M (g x),c)/\I c):lj (dL gt d5 p (xs.map f) a [])=.ok (xs.map g):=by
 let(ys,h1,n,m):=Dg (gt:=gt) (ft:=d5) (fe:=p) (ds:=xs.map f) (ρ:=a) I (λi y=>∃x,xs[i]?=M x/\y=g x) h0 (by simp_all) (by
  intro i d r k j;rw[S3]at r;cases q:xs[i]? with
  |none=>simp_all
  |some x=>
   obtain rfl:d=f x:=by simp_all
   let(c,e,b):=h x (Te q) k j;show#[_,_,e,b,x,W,W])
 rw[h1];congr 1;show Wc λi=>?_;rw[S3];cases q:ys[i]? with
 |none=>
  let:xs.length<=i:=by let:=List.getElem?_eq_none_iff.mp q;rw[n,SI]at this;show this
  rw[Wn this];rfl
 |some y=>let(x,l,rfl):=m i y q;rw[l];rfl
def y9{α:Type}{f g:α->D}{c:FE}{a:aE}(xs:G α)(d:xs.length<=1000000)(h:cR a=a)(e:∀x∈xs,c (-(f x)::a)=.ok (.fz (g x),-(f x)::a)):lj (dL (gN 0) d5 c (xs.map f) (S::a) [])=.ok (xs.map g):=by
 show mK (λj=>∃o,j=o::a) xs d #[S,W] ?_;rintro x b j ⟨o,rfl⟩;let i:cR (M (PV.fz (f x))::a)=-(f x)::a:=by show Ck _::cR a=_;rw[h];rfl
 show#[_,GM W W (e x b) W i,_,W]
theorem tO(p:α->Bool):∀l:G α,sY (l.map λc=>SR.bool (p c))=M (l.map p)
 |[]=>rfl
 |c::r=>by show(sY (r.map λc=>SR.bool (p c))).map (p c::·)=_;rw[tO p r];rfl
def Cw(p:α->Bool)(l:G α):z8 [.list (l.map λc=>SR.bool (p c))]=-(.bool (l.all p)):=by show(sY _).map (λbs=>RV.fz (.bool (bs.all id)))=_;rw[tO];simp_all
def zS(a:G Int):Bool:=(a.zip (a.drop 1)).all λp=>decide (p.1<p.2)
def Rr(k:Int):Bool:=decide (0<=k)&&decide (k<12)
def AI(a:G Int):Bool:=decide ((a.length:Int)≥1)&&(zS a&&a.all Rr)
def mM(a b:G Nat):SR.eqv (.str (tx a)) (.str (tx b))=decide (a=b):=by show decide (tx a=tx b)=_;show decide_eq_decide.mpr #[Co,λh=>by rw[h]]
theorem rQ:∀{L:G (G Nat)},(∀l∈L,∀c∈l,c<1114112)->SR.canLayAll0 (L.map λl=>SR.str (tx l))=U
 |[],_=>rfl
 |l::r,h=>by show(SR.strOk (tx l)&&SR.canLayAll0 (r.map λl=>SR.str (tx l)))=U;rw[lW (h l Ta),rQ λm hm=>h m (S5 _ hm)];rfl
theorem sw(w:G Nat):∀L:G (G Nat),((L.map λl=>SR.str (tx l)).any λe=>SR.eqv e (.str (tx w)))=decide (w∈L)
 |[]=>rfl
 |l::r=>by
  rw[SX,Ws,sw w r,mM];by_cases h:l=w
  .subst h;simp
  .let:¬w=l:=λz=>h z.symm;simp[h,this]
def Mb{w:G Nat}{L:G (G Nat)}(a:∀c∈w,c<1114112)(b:∀l∈L,∀c∈l,c<1114112):MN (.str (tx w)) (.list (L.map λl=>SR.str (tx l)))=-(.bool (decide (w∈L))):=by show(if((SR.strOk (tx w)&&decide (0<=64))&&SR.canLayAll0 (L.map λl=>SR.str (tx l)))=U then M (RV.fz (.bool ((L.map λl=>SR.str (tx l)).any λe=>SR.eqv e (.str (tx w)))))else S)=_;rw[lW a,rQ b,sw];rfl
def GU{w:G Nat}{L:G (G Nat)}(a:∀c∈w,c<1114112)(b:∀l∈L,∀c∈l,c<1114112):C4 (.str (tx w)) (.list (L.map λl=>SR.str (tx l)))=-(.bool (!decide (w∈L))):=by show(if((SR.strOk (tx w)&&decide (0<=64))&&SR.canLayAll0 (L.map λl=>SR.str (tx l)))=U then M (RV.fz (.bool (!(L.map λl=>SR.str (tx l)).any λe=>SR.eqv e (.str (tx w)))))else S)=_;rw[lW a,rQ b,sw];rfl
section
variable{n:Nat}{B:cb Wd}
def QZ(B:G Wd):eG [aB B]=-(.int (B.length:Int)):=by show M (RV.fz (.int ((B.map wD).length:Int)))=_;rw[SI]
end
theorem uC:∀c:G Int,zS c=U↔c.Pairwise (·<·)
 |[]=>by simp[zS]
 |[a]=>by simp[zS]
 |a::b::r=>by
  let g:=uC (b::r);let e:zS (a::b::r)=(decide (a<b)&&zS (b::r)):=W;rw[e,Ld,decide_eq_true_iff,g];constructor
  .rintro⟨h1,f⟩
   show Vd.mpr #[λx d=>?_,f];rcases Tf.mp d with rfl|d
   .show h1
   .show adw h1 ((Vd.mp f).1 x d)
  .show λh=>have z:=Vd.mp h;#[z.1 b Ta,z.2]
theorem RB:∀a:G Int,SR.canLayAll0 (a.map SR.int)=U
 |[]=>rfl
 |k::r=>by show(U&&SR.canLayAll0 (r.map SR.int))=U;rw[RB r];rfl
theorem Nz:∀a:G Int,SR.depthAll (a.map SR.int)=0
 |[]=>rfl
 |k::r=>by show max 0 (SR.depthAll (r.map SR.int))=0;rw[Nz r];rfl
theorem MD:∀a b:G Int,SR.eqvAll (a.map SR.int) (b.map SR.int)=decide (a=b)
 |[],[]=>rfl
 |[],_::_=>rfl
 |_::_,[]=>rfl
 |x::r,y::t=>by show(decide (x=y)&&SR.eqvAll (r.map SR.int) (t.map SR.int))=_;rw[MD r t];by_cases h:x=y<;>by_cases g:r=t<;>simp[h,g]
section
variable{n:Nat}{B:cb Wd}
theorem o0:∀ss:G (G Int),SR.canLayAll0 (ss.map kD)=U
 |[]=>rfl
 |a::r=>by show(SR.canLayAll0 (a.map SR.int)&&SR.canLayAll0 (r.map kD))=U;rw[RB,o0 r];rfl
theorem oS:∀ss:G (G Int),SR.depthAll (ss.map kD)<=1
 |[]=>TX _
 |a::r=>by show max (SR.depthAll (a.map SR.int)+1) (SR.depthAll (r.map kD))<=1;rw[Nz];let:=oS r;ext
end
def rN{i:Int}(h0:0<=i)(h1:i<26):o8 (.str "abcdefghijklmnopqrstuvwxyz") (.int i)=-(.str (tx [97+i.toNat])):=by
 let a:∀c,c<26->(("abcdefghijklmnopqrstuvwxyz":Str).cps.toList)[c]?=M (97+c):=by decide+kernel
 let b:("abcdefghijklmnopqrstuvwxyz":Str).length<=1000000:=by decide+kernel
 show(if("abcdefghijklmnopqrstuvwxyz":Str).length<=1000000 then(j8 ("abcdefghijklmnopqrstuvwxyz":Str).cps.toList i).map (λc=>RV.fz (.str #[#v[c]]))else S)=_;rw[ai b,qJ h0 (a i.toNat ())];rfl
def CJ(l:G Nat):Prop:=∀c∈l,97<=c/\c<=122
theorem sV{a b:G Nat}(h:CJ a)(g:CJ b):CJ (a++b):=λc d=>by
 rcases Th.mp d with z|z
 .show h c z
 .show g c z
theorem xO{i:Int}(h0:0<=i)(h1:i<26):CJ [97+i.toNat]:=λc a=>by rw[S6.mp a];ext
theorem HK{i:Int}(h0:0<=i)(h1:i<26)(n:Nat):CJ (SY n (97+i.toNat)):=λc a=>by rw[(List.mem_replicate.mp a).2];ext
def Ho:(SR.str "")=.str (tx []):=by
 let:("":Str)=tx []:=by decide+kernel
 rw[this]
def vS{x:Int}(u:0<=x):∃l:cb Nat,CJ l/\1<=l.length/\l.length<=8/\ei [.int x]=.ok (.fz (.str (tx l))):=by
 let C:0<=x % 8/\x % 8<8:=#[TF _ (),TL _ ()];let t:bf (.int x) (.int 8)=-(.int (x % 8)):=bj ();let r:bT (.int x) (.int 8)=-(.int (x/8)):=cf #[by decide,by decide];let p:dR [.int (1+x % 8)]=M (o9 (TV (1+x % 8).toNat)):=jg () ();let o:0<=x/8:=VB u ();generalize x/8=Y at r o;generalize x % 8=Q at t C p;let(rv,e,l,h1,B,A,rfl):=gC (ds:=[.int x]) (ρ:=[-(.int x),S,S,S]) (n:=4) (g:=bX) (T:=λv=>∃l:cb Nat,CJ l/\1<=l.length/\l.length<=8/\v=.fz (.str (tx l))) W (by
  ext bX;rw[Ho];walk_at "go"
  with_reducible apply eg (λi L=>∃(y:Int) (l:cb Nat) (j:I PV),L=[-(.int y),-(.str (tx l)),-(.int (1+Q)),j]/\l.length=i/\CJ l/\0<=y)
  .walk_at "ev"
  .show#[Y,[],S,W,W,(λc h=>by ext h),o]
  .rintro i d L hi ⟨y,l,j,rfl,N,P,X⟩
   let(k,w,rfl):=ej hi;let z:i<(1+Q).toNat:=by let:=(SK.mp w).1;simpa using this
   let f:0<=y % 26/\y % 26<26:=#[TF _ (),TL _ ()];let H:bf (.int y) (.int 26)=-(.int (y % 26)):=bj ();let G:bT (.int y) (.int 26)=-(.int (y/26)):=cf #[by decide,by decide];let q:0<=y/26:=VB X ();let E:=rN f.1 f.2;let m:=xO f.1 f.2;let F:=rK (a:=l) (b:=[97+(y % 26).toNat]) (by rw[T9];ext);generalize 97+(y % 26).toNat=c at E m F;show#[_,W,?_];walk_at "go";show#[y/26,l++[c],_,W,by rw[SQ,N];rfl,sV P m,q]
  .rintro L ⟨y,l,j,rfl,N,P,X⟩;rw[eL,TM]at N;show bZ (ae W) W #[l,P,by ext,by ext,W])
 show#[l,h1,B,A,e]
structure ZS(i:Nat)(ks:G Int):Prop where
 pw:ks.Pairwise (·<·)
 lo:∀k∈ks,0<=k/\k<i
theorem ZS.nil:ZS 0 []:=#[YJ,λk h=>by ext h]
theorem ZS.same{i:Nat}{b:G Int}(h:ZS i b):ZS (i+1) b:=#[h.pw,λk a=>by let:=h.lo k a;ext]
def ZS.snoc{i:Nat}{c:G Int}(h:ZS i c):ZS (i+1) (c++[(i:Int)]):=by
 show#[T4.mpr #[h.pw,Zf _ _,λa f b e=>?_],λk d=>?_]
 .rw[S6.mp e];show(h.lo a f).2
 .rcases Th.mp d with z|z
  .let:=h.lo k z;ext
  .rw[S6.mp z];ext
theorem A8:∀{c:G Int} {a b:Int},c.Pairwise (·<·)->(∀k∈c,a<=k/\k<b)->a<=b->(c.length:Int)<=b - a
 |[],a,b,_,_,h=>by rw[UG];ext
 |k::r,a,b,i,g,h=>by let(h1,e):=Vd.mp i;let f:=g k Ta;let:=A8 (a:=k+1) (b:=b) e (λx d=>#[by let:=h1 x d;ext,(g x (S5 _ d)).2]) ();rw[S0];ext
def ZS.len{i:Nat}{a:G Int}(h:ZS i a):a.length<=i:=by let:=A8 h.pw h.lo ();ext
def ZS.st{c:G Int}(h:ZS 12 c)(b:1<=c.length):AI c=U:=by
 ext AI;rw[a6 (),(uC c).mpr h.pw,TR.mpr λk a=>?_]
 .rfl
 .let:=h.lo k a;ext Rr;rw[a6 this.1,a6 (show k<12 by ext)];rfl
theorem Ph(m:Int):j7 (.int (m % 2)) (.int 1)=-(.bool (decide (m % 2=1))):=gZ _ _
def sE{x:Int}(w:0<=x)(f:x<4095):∃c:G Int,AI c=U/\c.length<=12/\c7 [.int x]=.ok (.fz (kD c)):=by
 let r:dR [.int 12]=M (o9 (TV 12)):=jg (n:=12) () ();let(N,e,c,h1,o,rfl):=gC (ds:=[.int x]) (ρ:=[-(.int x),S,S,S]) (n:=4) (g:=bF) (T:=λv=>∃c:G Int,AI c=U/\c.length<=12/\v=.fz (kD c)) W (by
  ext bF;walk_at "go"
  with_reducible apply eg (λi B=>∃(m:Int) (c:G Int) (a:I PV),B=[-(.int x),-(.int m),M (.ow (c.map .int)),a]/\ZS i c/\0<=m/\m<2^(12 - i)/\(1<=c.length\/1<=m))
  .walk_at "ev"
  .show#[1+x,[],S,W,.nil,by ext,by show 1+x<4096;ext,.inr ()]
  .rintro i d B L ⟨m,c,a,rfl,A,h0,hm,C⟩
   let(k,l,rfl):=ej L;let(j,e):=SK.mp l;rw[Vw]at e;subst e;rw[TM]at j;let u:bf (.int m) (.int 2)=-(.int (m % 2)):=bj ();let t:bT (.int m) (.int 2)=-(.int (m/2)):=cf #[by decide,by decide];let e2:=Ph m;let h:(2:Int)^(12 - i)=2*2^(12 - (i+1)):=by rw[show 12 - i=(12 - (i+1))+1 by ext,Int.pow_succ,Int.mul_comm]
   rw[h]at hm;generalize (2:Int)^(12 - (i+1))=p at hm;let b:(c.map SR.int).length<1000000:=by rw[SI];let:=A.len;ext
   show#[_,W,?_];walk_at "go"
   .intro q;let q:=a8 q;walk_at "go";show#[m/2,c++[(i:Int)],_,by rw[Tj];rfl,A.snoc,by ext,by ext,.inl (by rw[SQ,T9];ext)]
   .intro q;let q:=of_decide_eq_false q;show cX ?_;walk_at "go";show#[m/2,c,_,W,A.same,by ext,by ext,C.imp id λz=>by ext]
  .rintro B ⟨m,c,a,rfl,A,h0,hm,C⟩;rw[eL,TM]at hm A;let hm:m<1:=hm;show bZ (pv:=.fz (kD c)) (cJ (rv:=.fz (kD c)) (ah (dW W) aw) W W) W #[c,A.st (),A.len,W])
 show#[c,h1,o,e]
def Az{c:Int}(J:0<=c)(w:Bool):∃s:cb Int,AI s=U/\s.length<=12/\df [.int c,.bool w]=.ok (.fz (kD s)):=by
 let E:dR [.int 12]=M (o9 (TV 12)):=jg (n:=12) () ();let I:bT (.int c) (.int 4)=-(.int (c/4)):=cf #[by decide,by decide];let F:bf (.int c) (.int 4)=-(.int (c % 4)):=bj ();let t:0<=c % 4/\c % 4<4:=#[TF _ (),TL _ ()];obtain⟨f,k1,k2,z⟩:∃s:cb Int,AI s=U/\s.length<=12/\dJ (.list [kD [0],kD [1],kD [0,1],kD [2,11]]) (.int (c % 4))=-(kD s):=by
  generalize c % 4=j at t;obtain⟨n,rfl⟩:∃n:Nat,j=(n:Int):=#[j.toNat,by ext]
  match n,t with
  |0,_=>show#[[0],W,by decide,Fk (i:=0) W]
  |1,_=>show#[[1],W,by decide,Fk (i:=1) W]
  |2,_=>show#[[0,1],W,by decide,Fk (i:=2) W]
  |3,_=>show#[[2,11],W,by decide,Fk (i:=3) W]
  |n+4,h=>ext
 let a:∀(p o l:cc PV),Go (cV (aC dJ (aa 2) (aC bf (aa 0) (~~~4))) [-(.int c),-(.bool w),M (.ow [kD [0],kD [1],kD [0,1],kD [2,11]]),p,o,l]) (λ_=>∃s:cb Int,AI s=U/\s.length<=12/\RV.fz SR.none=.fz (kD s)) (λ_=>False) (λv=>∃s:cb Int,AI s=U/\s.length<=12/\v=.fz (kD s)):=λp o l=>
  bZ (pv:=.fz (kD f)) (aM (rv:=.fz (kD f)) (dW W) (by walk_at "ev") W W z) W #[f,k1,k2,W]
 let(Q,e,s,h1,C,rfl):=gC (ds:=[.int c,.bool w]) (ρ:=[-(.int c),-(.bool w),S,S,S,S]) (n:=6) (g:=cE) (T:=λv=>∃s:cb Int,AI s=U/\s.length<=12/\v=.fz (kD s)) W (by
  ext cE;show aJ (pv:=.ow [kD [0],kD [1],kD [0,1],kD [2,11]]) (ρ3:=[-(.int c),-(.bool w),M (.ow [kD [0],kD [1],kD [0,1],kD [2,11]]),S,S,S]) (by walk_at "ev") W W ?_;show jN (aV (ae W) W) (λ_=>?_) λ_=>cX (a _ _ _);walk_at "go"
  with_reducible apply eg (λi N=>∃(m:Int) (s:cb Int) (l:cc PV),N=[-(.int c),-(.bool w),M (.ow [kD [0],kD [1],kD [0,1],kD [2,11]]),-(.int m),M (.ow (s.map .int)),l]/\ZS i s)
  .walk_at "ev"
  .show#[c/4,[],S,W,.nil]
  .rintro i d N P ⟨m,s,l,rfl,L⟩
   let(k,B,rfl):=ej P;let(A,e):=SK.mp B;rw[Vw]at e;subst e;rw[TM]at A;let H:bf (.int m) (.int 2)=-(.int (m % 2)):=bj ();let G:bT (.int m) (.int 2)=-(.int (m/2)):=cf #[by decide,by decide];let e2:=Ph m;let r:(s.map SR.int).length<1000000:=by rw[SI];let:=L.len;ext
   show#[_,W,?_];walk_at "go"
   .intro _;walk_at "go";show#[m/2,s++[(i:Int)],_,by rw[Tj];rfl,L.snoc]
   .intro _;show cX ?_;walk_at "go";show#[m/2,s,_,W,L.same]
  .rintro N ⟨m,s,l,rfl,L⟩
   rw[eL,TM]at L;let u:eG [.list (s.map SR.int)]=-(.int (s.length:Int)):=by show M (RV.fz (.int ((s.map SR.int).length:Int)))=_;rw[SI]
   show jN (b:=decide ((s.length:Int)>0)) (aV (cN (dx:=.int (s.length:Int)) (dy:=.int 0) (cJ (rv:=.fz (.int (s.length:Int))) (ah (dW W) aw) W u) bh W W (Eu _ _)) W) (λq=>?_) λ_=>cX (a _ _ _);let q:=a8 q;show nz (pv:=.fz (kD s)) (cJ (rv:=.fz (kD s)) (ah (dW W) aw) W W) W #[s,L.st (),L.len,W])
 show#[s,h1,C,e]
structure GE(e:Wd):Prop where
 wd:CJ e.1
 w1:1<=e.1.length
 w8:e.1.length<=8
 s1:1<=e.2.length
 s6:e.2.length<=6
 st:∀ks∈e.2,AI ks=U/\ks.length<=12
structure Bk(B:G Wd):Prop where
 l1:1<=B.length
 ZF:B.length<=20
 ge:∀e∈B,GE e
 nd:(B.map (·.1)).Nodup
theorem GK{α:Type}{l:G α}{a:α}(h:l.Nodup)(c:a∉l):(l++[a]).Nodup:=Wf.mpr #[h,Uh.mpr #[Wq,VS],λx d y b z=>by rw[S6.mp b]at z;subst z;show c d]
abbrev eB(l:G Nat):D:=.str (tx l)
def Qq{s o p:Nat}{a b:Nat}(h:SY a s++[o]++SY b s=SY a s++[p]++SY b s):o=p:=by rw[Tz,Tz]at h;let:=Xb h;show(VT this).1
def C9{c:Int}(Y:0<=c){m:Nat}(hm:m<=20):∃N:cb (cb Nat),N.length=m/\N.Nodup/\(∀l∈N,CJ l/\1<=l.length/\l.length<=8)/\d7 [.int c,nd m]=.ok (.ow (N.map eB)):=by
 let f:0<=c/3 % 26/\c/3 % 26<26:=#[TF _ (),TL _ ()];let d3:bT (.int c) (.int 3)=-(.int (c/3)):=cf #[by decide,by decide];let I:bf (.int (c/3)) (.int 26)=-(.int (c/3 % 26)):=bj ();let K:=rN f.1 f.2;let rp:=HK f.1 f.2;generalize c/3 % 26=j at f I K rp;generalize 97+j.toNat=s at K rp;let m3:bf (.int c) (.int 3)=-(.int (c % 3)):=bj ();let e3:j7 (.int (c % 3)) (.int 0)=-(.bool (decide (c % 3=0))):=gZ _ _;let O:=rg (n:=m) ();let d78:bT (.int c) (.int 78)=-(.int (c/78)):=cf #[by decide,by decide];let X:bf (.int (c/78)) (.int 8)=-(.int (c/78 % 8)):=bj ();let b8:0<=c/78 % 8/\c/78 % 8<8:=#[TF _ (),TL _ ()];generalize c/78 % 8=sz at X b8;let aky:bT (.int c) (.int 624)=-(.int (c/624)):=cf #[by decide,by decide];let H:bf (.int (c/624)) (.int (sz+1))=-(.int (c/624 % (sz+1))):=bj ();let E:0<=c/624 % (sz+1)/\c/624 % (sz+1)<sz+1:=#[TF _ (),TL _ ()];generalize c/624 % (sz+1)=a at H E;let B:bT (.int c) (.int 5616)=-(.int (c/5616)):=cf #[by decide,by decide];let G:0<=c/5616:=VB Y ();generalize c/5616=dd at B G;let w:=sC (c:=s) E.1 (show a<=1000 by ext);let u:=sC (c:=s) (show 0<=sz - a by ext) (show sz - a<=1000 by ext);let(rv,e,N,h1,h2,Z,rfl):=gC (ds:=[.int c,nd m]) (ρ:=[-(.int c),-(nd m),CL,CL,CL,CL,CL,CL,CL]) (n:=9) (g:=dc) (T:=λv=>∃N:cb (cb Nat),N.length=m/\N.Nodup/\(∀l∈N,CJ l/\1<=l.length/\l.length<=8)/\v=.ow (N.map eB)) W (by
  ext dc;show aJ (pv:=.fz (.str "abcdefghijklmnopqrstuvwxyz")) (ρ3:=[-(.int c),-(nd m),-(.str "abcdefghijklmnopqrstuvwxyz"),CL,CL,CL,CL,CL,CL]) bh W W ?_;show aJ (pv:=.fz (eB [s])) (ρ3:=[-(.int c),-(nd m),-(.str "abcdefghijklmnopqrstuvwxyz"),-(eB [s]),CL,CL,CL,CL,CL]) (aM (rv:=.fz (eB [s])) (ae W) (by walk_at "ev") W W K) W W ?_;show jN (b:=decide (c % 3=0)&&decide ((m:Int)<9)) (by walk_at "ev") (λq=>?_) λ_=>cX ?_
  .rw[Ld,decide_eq_true_iff,decide_eq_true_iff]at q
   let J:lj (dL (gN 0) d5 (aC L9.tZ (aa 1) (aC bB (aa 0) (~~~1))) ((TV m).map nd) [CL,-(eB [s])] [])=.ok ((TV m).map λk=>eB (SY (k+1) s)):=by show y9 (TV m) (by rw[TM];ext) W λk p=>?_;let p:=U3.mp p;let F:=sC (c:=s) (i:=(k:Int)+1) () ();rw[show((k:Int)+1).toNat=k+1 by ext]at F;show aM (rv:=.fz (eB (SY (k+1) s))) (ae W) (aM (rv:=.fz (.int ((k:Int)+1))) (ae W) bh W W (qS _ _)) W W F
   show nz (kl (xs:=(TV m).map λk=>eB (SY (k+1) s)) (kA (ds:=[nd m]) (ah (ae W) aw) W O) W J) W #[(TV m).map λk=>SY (k+1) s,by rw[SI,TM],?_,λl A=>?_,by rw[T1];rfl]
   .show YN.mpr (Wg.mpr (aa9.imp λ{x y} M z=>M ?_));let:=eh UQ z;rw[TQ,TQ]at this;ext
   .let(k,p,rfl):=S7.mp A;let p:=U3.mp p;rw[TQ];show#[rp _,by ext,by ext]
  .show aJ (pv:=.fz (.int sz)) (ρ3:=[-(.int c),-(nd m),-(.str "abcdefghijklmnopqrstuvwxyz"),-(eB [s]),-(.int sz),CL,CL,CL,CL]) (by walk_at "evp") W W ?_
   show aJ (pv:=.fz (.int a)) (ρ3:=[-(.int c),-(nd m),-(.str "abcdefghijklmnopqrstuvwxyz"),-(eB [s]),-(.int sz),-(.int a),CL,CL,CL]) (by walk_at "evp") W W ?_;show aJ (pv:=.ow []) (ρ3:=[-(.int c),-(nd m),-(.str "abcdefghijklmnopqrstuvwxyz"),-(eB [s]),-(.int sz),-(.int a),cL (.ow []),CL,CL]) (by walk_at "evp") W W ?_;show eg (λi ρ=>∃(t r:cc PV),ρ=[-(.int c),-(nd m),-(.str "abcdefghijklmnopqrstuvwxyz"),-(eB [s]),-(.int sz),-(.int a),cL (.ow (((TV i).map λk:Nat=>SY a.toNat s++[97+(((k:Int)*7+dd) % 26).toNat]++SY (sz - a).toNat s).map eB)),t,r]) (ds:=o9 (TV m)) (ρ1:=[-(.int c),-(nd m),-(.str "abcdefghijklmnopqrstuvwxyz"),-(eB [s]),-(.int sz),-(.int a),cL (.ow []),CL,CL]) (kA (ds:=[nd m]) (ah (ae W) aw) W O) #[CL,CL,W] ?_ ?_
   .rintro i d ρ hi ⟨t,r,rfl⟩
    let(k,p,rfl):=ej hi;let(A,e):=SK.mp p;rw[Vw]at e;subst e;rw[TM]at A;let C:0<=((i:Int)*7+dd) % 26/\((i:Int)*7+dd) % 26<26:=#[TF _ (),TL _ ()];let F:eU (nd i) (.int 7)=-(.int ((i:Int)*7)):=ur #[by decide,by decide];let U:bf (.int ((i:Int)*7+dd)) (.int 26)=-(.int (((i:Int)*7+dd) % 26)):=bj ();let ao:=rN C.1 C.2;rw[List.range_succ,Tj,Tj];show∃ρ1,_/\Go _ (λρ=>∃(t r:cc PV),ρ=[_,_,_,_,_,_,cL (.ow (_++[eB (SY a.toNat s++[97+(((i:Int)*7+dd) % 26).toNat]++SY (sz - a).toNat s)])),t,r]) _ _;let h:(((TV i).map λk:Nat=>SY a.toNat s++[97+(((k:Int)*7+dd) % 26).toNat]++SY (sz - a).toNat s).map eB).length<1000000:=by rw[SI,SI,TM];ext
    generalize ((TV i).map λk:Nat=>SY a.toNat s++[97+(((k:Int)*7+dd) % 26).toNat]++SY (sz - a).toNat s).map eB=pre at h;generalize 97+(((i:Int)*7+dd) % 26).toNat=o at ao;let S:=rK (a:=SY a.toNat s) (b:=[o]) (by rw[TQ,T9];ext);let L:=rK (a:=SY a.toNat s++[o]) (b:=SY (sz - a).toNat s) (by rw[SQ,TQ,TQ,T9];ext);generalize SY a.toNat s=ra at w S L;generalize SY (sz - a).toNat s=rb at u L;show#[_,W,?_];show aJ (pv:=.fz (eB [o])) (ρ3:=[-(.int c),-(nd m),-(.str "abcdefghijklmnopqrstuvwxyz"),-(eB [s]),-(.int sz),-(.int a),cL (.ow pre),-(nd i),-(eB [o])]) (aM (rv:=.fz (eB [o])) (ae W) (aM (rv:=.fz (.int (((i:Int)*7+dd) % 26))) (aM (rv:=.fz (.int ((i:Int)*7+dd))) (aM (rv:=.fz (.int ((i:Int)*7))) (ae W) bh W W F) (aM (rv:=.fz (.int dd)) (ae W) bh W W B) W W (qS _ _)) bh W W U) W W ao) W W ?_;show fK (gF (d:=eB (ra++[o]++rb)) (x:=[-(.int c),-(nd m),-(.str "abcdefghijklmnopqrstuvwxyz"),-(eB [s]),-(.int sz),-(.int a),cL (.ow (pre++[eB (ra++[o]++rb)])),-(nd i),-(eB [o])]) W (aM (rv:=.fz (eB (ra++[o]++rb))) (aM (rv:=.fz (eB (ra++[o]))) (aM (rv:=.fz (eB ra)) (ae W) (ae W) W W w) (ae W) W W S) (aM (rv:=.fz (eB rb)) (ae W) (by walk_at "ev") W W u) W W L) W W h W) #[_,_,W]
   .rintro ρ ⟨t,r,rfl⟩
    rw[eL,TM];show bZ (dW W) W #[(TV m).map λk:Nat=>SY a.toNat s++[97+(((k:Int)*7+dd) % 26).toNat]++SY (sz - a).toNat s,by rw[SI,TM],?_,λl A=>?_,W]
    .show YN.mpr (Wg.mpr ?_);show adx ?_ (aa9 (n:=m));intro x y Q P M z;let Q:=U3.mp Q;let P:=U3.mp P;let:=Qq z;apply M;ext
    .let(k,p,rfl):=S7.mp A;let C:0<=((k:Int)*7+dd) % 26/\((k:Int)*7+dd) % 26<26:=#[TF _ (),TL _ ()];show#[sV (sV (rp _) (xO C.1 C.2)) (rp _),?_,?_]<;>rw[SQ,SQ,TQ,TQ,T9]<;>ext)
 show#[N,h1,h2,Z,e]
theorem sQ{xs:G Int}{i:Int}(h0:0<=i)(h:i.toNat<xs.length):dJ (.list (xs.map .int)) (.int i)=-(.int xs[i.toNat]):=QM h0 (by rw[S3,Tc h];rfl)
def tj(xs:cb Int)(N:xs.length=41)(M:∀x∈xs,0<=x):∃B,Bk B/\c9 [.list (xs.map .int)]=.ok (.fz (aB B)):=by
 let e0:dJ (.list (xs.map .int)) (.int 0)=-(.int xs[0]):=sQ (i:=0) () (by rw[N];decide);let L:0<=xs[0]:=M _ (UU _);generalize xs[0]=x0 at e0 L;let m1:bf (.int x0) (.int 20)=-(.int (x0 % 20)):=bj ();let b1:0<=x0 % 20/\x0 % 20<20:=#[TF _ (),TL _ ()];generalize x0 % 20=xm at m1 b1;let r1:dR [.int (1+xm)]=cL (o9 (TV (1+xm).toNat)):=jg () ();let(rv,e,B,hB,rfl):=gC (ds:=[.list (xs.map .int)]) (ρ:=[-(.list (xs.map .int)),CL,CL,CL,CL,CL,CL]) (n:=7) (g:=bE) (T:=λv=>∃B,Bk B/\v=.fz (aB B)) W (by
  ext bE;show aJ (pv:=.ow []) (ρ3:=[-(.list (xs.map .int)),cL (.ow []),CL,CL,CL,CL,CL]) (by walk_at "evp") W W ?_;show eg (λi ρ=>∃(B:cb Wd) (G F E u f:cc PV),ρ=[-(.list (xs.map .int)),cL (.ow (B.map wD)),G,F,E,u,f]/\B.length<=i/\(1<=i->1<=B.length)/\(∀e∈B,GE e)/\(B.map (·.1)).Nodup) (ds:=o9 (TV (1+xm).toNat)) (ρ1:=[-(.list (xs.map .int)),cL (.ow []),CL,CL,CL,CL,CL]) (by walk_at "ev") #[[],CL,CL,CL,CL,CL,W,SN _,(λh=>b9 h ()),(λe h=>by ext h),VS] ?_ ?_
  .rintro i d ρ hi ⟨B,G,F,E,u,f,rfl,hBl,hB1,hG,hN⟩
   let(k,O,rfl):=ej hi;let(P,e):=SK.mp O;rw[Vw]at e;subst e;rw[TM]at P;let mu:eU (.int 2) (nd i)=-(.int (2*(i:Int))):=fR #[by decide,by decide];let K:=sQ (xs:=xs) (i:=1+2*(i:Int)) () ();let C:0<=xs[(1+2*(i:Int)).toNat]:=M _ (UU _);generalize xs[(1+2*(i:Int)).toNat]=y1 at K C;let(w,Z,w1,w8,en):=vS C;let J:=sQ (xs:=xs) (i:=2+2*(i:Int)) () ();let A:0<=xs[(2+2*(i:Int)).toNat]:=M _ (UU _);generalize xs[(2+2*(i:Int)).toNat]=y2 at J A;let d6:bT (.int y2) (.int 6)=-(.int (y2/6)):=cf #[by decide,by decide];let m6:bf (.int y2) (.int 6)=-(.int (y2 % 6)):=bj ();let b6:0<=y2 % 6/\y2 % 6<6:=#[TF _ (),TL _ ()];let Y:0<=y2/6:=VB A ();generalize y2/6=z6 at d6 Y;generalize y2 % 6=zm at m6 b6;let r6:dR [.int (1+zm)]=cL (o9 (TV (1+zm).toNat)):=jg () ();show#[_,W,?_];show aJ (pv:=.fz (eB w)) (ρ3:=[-(.list (xs.map .int)),cL (.ow (B.map wD)),-(nd i),-(eB w),E,u,f]) (bS (rv:=.fz (eB w)) (by walk_at "ev") W W en) W W ?_;show aJ (pv:=.ow []) (ρ3:=[-(.list (xs.map .int)),cL (.ow (B.map wD)),-(nd i),-(eB w),cL (.ow []),u,f]) (by walk_at "evp") W W ?_;show aJ (pv:=.fz (.int z6)) (ρ3:=[-(.list (xs.map .int)),cL (.ow (B.map wD)),-(nd i),-(eB w),cL (.ow []),-(.int z6),f]) (by walk_at "evp") W W ?_;show eg (λj ρ=>∃(a:cb (cb Int)) (r:Int) (f:cc PV),ρ=[-(.list (xs.map .int)),cL (.ow (B.map wD)),-(nd i),-(eB w),cL (.ow (a.map kD)),-(.int r),f]/\a.length=j/\0<=r/\∀t∈a,AI t=SJ/\t.length<=12) (ds:=o9 (TV (1+zm).toNat)) (ρ1:=[-(.list (xs.map .int)),cL (.ow (B.map wD)),-(nd i),-(eB w),cL (.ow []),-(.int z6),f]) (by walk_at "ev") #[[],z6,f,W,W,Y,λt h=>by ext h] ?_ ?_
   .rintro j d ρ hj ⟨a,r,f,rfl,hsl,hr,Y1⟩
    let(k,O,rfl):=ej hj;let hjl:j<(1+zm).toNat:=by let:=(SK.mp O).1;simpa using this
    let b4:0<=r % 4095/\r % 4095<4095:=#[TF _ (),TL _ ()];let m4:bf (.int r) (.int 4095)=-(.int (r % 4095)):=bj ();let d4:bT (.int r) (.int 4095)=-(.int (r/4095)):=cf #[by decide,by decide];let n4:0<=r/4095:=VB hr ();let(t,k1,k2,ek):=sE b4.1 b4.2;let m:(a.map kD).length<1000000:=by rw[SI];ext
    show#[_,W,?_];show si (gF (d:=kD t) (x:=[-(.list (xs.map .int)),cL (.ow (B.map wD)),-(nd i),-(eB w),cL (.ow (a.map kD++[kD t])),-(.int r),-(nd k)]) W (bS (rv:=.fz (kD t)) (by walk_at "ev") W W ek) W W m W) ?_;show wP (pv:=.fz (.int (r/4095))) (ρ3:=[-(.list (xs.map .int)),cL (.ow (B.map wD)),-(nd i),-(eB w),cL (.ow (a.map kD++[kD t])),-(.int (r/4095)),-(nd k)]) (by walk_at "evp") W W #[a++[t],r/4095,_,by rw[Tj];rfl,by rw[SQ,hsl];rfl,n4,λI Yf=>?_];rcases Th.mp Yf with z|z
    .show Y1 I z
    .rw[S6.mp z];show#[k1,k2]
   .rintro ρ ⟨a,r,f,rfl,hsl,hr,Y1⟩
    rw[eL,TM]at hsl;let U:∀l∈B.map (·.1),∀c∈l,c<1114112:=λl N c S=>by let(e,Q,rfl):=S7.mp N;let:=(hG e Q).wd c S;ext
    let H:=GU (w:=w) (λc S=>by let:=Z c S;ext) U;let X:lj (dL (gT 2 (kH (gN 0) (kH (gN 1) vg))) d5 (aa 0) (B.map wD) [CL,CL] [])=.ok ((B.map (·.1)).map λl=>SR.str (tx l)):=by rw[T1];show mK (λρ=>∃o p,ρ=[o,p]) B () #[CL,CL,W] ?_;rintro e _ ρ ⟨o,p,rfl⟩;show#[_,GM W W (ae W) W W,_,_,W]
    let m:(B.map wD).length<1000000:=by rw[SI];ext
    show lU (b:= !decide (w∈B.map (·.1))) (aV (cN (dx:=.str (tx w)) (dy:=.list ((B.map (·.1)).map λl=>SR.str (tx l))) (ae W) (kl (ds:=B.map wD) W W X) W W H) W) (λq=>?_) λq=>?_
    .let q:w∉B.map (·.1):=by simpa using q
     show fK (gF (d:=wD (w,a)) (x:=[-(.list (xs.map .int)),cL (.ow (B.map wD++[wD (w,a)])),-(nd i),-(eB w),cL (.ow (a.map kD)),-(.int r),f]) W (dI (ds:=[eB w,.tuple (a.map kD)]) (ah (ae W) (ah (cJ (rv:=.fz (.tuple (a.map kD))) (ah (dW W) aw) W W) aw)) W (TH W)) W W m W) #[B++[(w,a)],_,_,_,_,_,by rw[Tj];rfl,by rw[SQ,T9];ext,λ_=>by rw[SQ,T9];ext,λe Q=>?_,?_]
     .rcases Th.mp Q with z|z
      .show hG e z
      .rw[S6.mp z];show#[Z,w1,w8,by show 1<=a.length;ext,by show a.length<=6;ext,Y1]
     .rw[Tj];show GK hN q
    .show ik #[B,_,_,_,_,_,W,by ext,λ_=>?_,hG,hN]
     let q:w∈B.map (·.1):=by simpa using q
     let:=Zp q;rw[SI]at this;show this
  .rintro ρ ⟨B,G,F,E,u,f,rfl,hBl,hB1,hG,hN⟩;rw[eL,TM]at hBl hB1;show bZ (pv:=.fz (aB B)) (cJ (rv:=.fz (aB B)) (ah (dW W) aw) W W) W #[B,#[hB1 (),by ext,hG,hN],W])
 show#[B,hB,e]
def NG{c:Int}(a:0<=c){s:Int}(h0:0<=s)(b:s<4):∃x:Int,0<=x/\dJ (.list [.int (c % 2),.int c,.int c,.int c]) (.int s)=-(.int x):=by
 obtain⟨n,rfl⟩:∃n:Nat,s=(n:Int):=#[s.toNat,by ext]
 match n,b with
 |0,_=>show#[c % 2,TF _ (),Fk (i:=0) W]
 |1,_=>show#[c,a,Fk (i:=1) W]
 |2,_=>show#[c,a,Fk (i:=2) W]
 |3,_=>show#[c,a,Fk (i:=3) W]
 |n+4,h=>ext
abbrev Sw:FS:=(az (aO (bL d7 2 {bL bD 2 {bL bP 2 {aa 0,aC bB (aa 1) (~~~1)},~~~2},aa 4}) (gN 6))
 (az (aO (eR au) (gN 7))
 (az (fD (gz dR {aa 4}) (gN 8) (az (aO (bL bD 2 {bL bP 2 {aa 0,aC bB (aC bB (aa 1) (~~~2)) (aC bf (aa 8) (~~~6))},aC bB (~~~3) (aa 8)}) (gN 9))
 (az (aO (eR au) (gN 10))
 (az (fD (gz dR {aC bB (~~~1) (aC bf (aa 9) (aa 5))}) (gN 11) (az (aO (aC bT (aa 9) (~~~4)) (gN 9))
 (de (gK 10 (bL df 2 {aC dJ (eR {aC bf (aa 9) (~~~2),aa 9,aa 9,aa 9}) (aa 3),aC j7 (aa 3) (~~~1)})))))
 (de (gK 7 (cu {aC dJ (aa 6) (aa 8),iL kG {aa 10}})))))))
 (cV (iL kG {aa 7})))))
def Aj(E:cb Int)(c:E.length<=63){a:Int}(R:0<=a){x2 so:Int}(Q:0<=so)(P:so<4){m:Nat}(y:1<=m)(hm:m<=20){g:Int}(s:1<=g)(D:g<=6){N C:aE->Prop}:
  Go (Sw [-(.list (E.map .int)),-(.int a),-(.int x2),-(.int so),-(nd m),-(.int g),CL,CL,CL,CL,CL,CL]) N C (λv=>∃B,Bk B/\v=.fz (aB B)):=by
 let(c1,e1):=rJ E (a+1) () c;let(v1,O,ev1):=mG c1 2 () ();let(f,n1,n2,n3,en):=C9 O hm;let rm:=rg (n:=m) ();let q1:j7 (.int so) (.int 1)=-(.bool (decide (so=1))):=gZ _ _;generalize hLD:SR.list (E.map SR.int)=LD at*;show aJ (pv:=.ow (f.map eB)) (ρ3:=[-(LD),-(.int a),-(.int x2),-(.int so),-(nd m),-(.int g),cL (.ow (f.map eB)),CL,CL,CL,CL,CL]) (bS (rv:=.ow (f.map eB)) (by walk_at "ev") W W en) W W ?_;show aJ (pv:=.ow []) (ρ3:=[-(LD),-(.int a),-(.int x2),-(.int so),-(nd m),-(.int g),cL (.ow (f.map eB)),cL (.ow []),CL,CL,CL,CL]) (by walk_at "evp") W W ?_;show eg (λi ρ=>∃(B:cb Wd) (I H t b:cc PV),ρ=[-(LD),-(.int a),-(.int x2),-(.int so),-(nd m),-(.int g),cL (.ow (f.map eB)),cL (.ow (B.map wD)),I,H,t,b]/\B.map (·.1)=f.take i/\∀e∈B,GE e) (ds:=o9 (TV m)) (ρ1:=[-(LD),-(.int a),-(.int x2),-(.int so),-(nd m),-(.int g),cL (.ow (f.map eB)),cL (.ow []),CL,CL,CL,CL]) (kA (ds:=[nd m]) (ah (ae W) aw) W rm) #[[],CL,CL,CL,CL,W,W,λe h=>by ext h] ?_ ?_
 .rintro i d ρ hi ⟨B,I,H,t,b,rfl,o,hG⟩
  let(k,T,rfl):=ej hi;let(U,e):=SK.mp T;rw[Vw]at e;subst e;rw[TM]at U;let X:B.length=i:=by let:=eh UQ o;rw[SI,T7]at this;ext
  let m6:bf (nd i) (.int 6)=-(.int ((i:Int) % 6)):=bj ();let b6:0<=(i:Int) % 6:=TF _ ();let(c2,e2):=rJ E (a+2+(i:Int) % 6) () c;rw[hLD]at e2;let(p,M,Y):=mG c2 (3+(i:Int)) () ();let mm:bf (.int p) (.int g)=-(.int (p % g)):=bj ();let bm:0<=p % g/\p % g<g:=#[TF _ (),TL _ ()];generalize p % g=vm at mm bm;let r6:dR [.int (1+vm)]=cL (o9 (TV (1+vm).toNat)):=jg () ();let A:i<f.length:=by ext
  let F:dJ (.list (f.map eB)) (nd i)=-(eB f[i]):=Fk (by rw[S3,Tc A];rfl);let G:=n3 _ (UU A);let Z:f.take (i+1)=f.take i++[f[i]]:=by rw[List.take_succ,Tc A];rfl
  generalize f[i]=w at F G Z;show#[_,W,?_];show aJ (pv:=.fz (.int p)) (ρ3:=[-(LD),-(.int a),-(.int x2),-(.int so),-(nd m),-(.int g),cL (.ow (f.map eB)),cL (.ow (B.map wD)),-(nd i),-(.int p),t,b]) (bS (rv:=.fz (.int p)) (by walk_at "ev") W W Y) W W ?_;show aJ (pv:=.ow []) (ρ3:=[-(LD),-(.int a),-(.int x2),-(.int so),-(nd m),-(.int g),cL (.ow (f.map eB)),cL (.ow (B.map wD)),-(nd i),-(.int p),cL (.ow []),b]) (by walk_at "evp") W W ?_;show eg (λj ρ=>∃(l:cb (cb Int)) (r:Int) (b:cc PV),ρ=[-(LD),-(.int a),-(.int x2),-(.int so),-(nd m),-(.int g),cL (.ow (f.map eB)),cL (.ow (B.map wD)),-(nd i),-(.int r),cL (.ow (l.map kD)),b]/\l.length=j/\0<=r/\∀u∈l,AI u=SJ/\u.length<=12) (ds:=o9 (TV (1+vm).toNat)) (ρ1:=[-(LD),-(.int a),-(.int x2),-(.int so),-(nd m),-(.int g),cL (.ow (f.map eB)),cL (.ow (B.map wD)),-(nd i),-(.int p),cL (.ow []),b]) (by walk_at "ev") #[[],p,b,W,W,M,λu h=>by ext h] ?_ ?_
  .rintro j d ρ hj ⟨l,r,b,rfl,hsl,hr,Y1⟩
   let(k,T,rfl):=ej hj;let hjl:j<(1+vm).toNat:=by let:=(SK.mp T).1;simpa using this
   let d4:bT (.int r) (.int 4)=-(.int (r/4)):=cf #[by decide,by decide];let J:0<=r/4:=VB hr ();generalize r/4=r4 at d4 J;let m2:bf (.int r4) (.int 2)=-(.int (r4 % 2)):=bj ();let(px,S,L):=NG J Q P;let(u,k1,k2,ek):=Az S (decide (so=1));let q:(l.map kD).length<1000000:=by rw[SI];ext
   show#[_,W,?_];show aJ (pv:=.fz (.int r4)) (ρ3:=[-(LD),-(.int a),-(.int x2),-(.int so),-(nd m),-(.int g),cL (.ow (f.map eB)),cL (.ow (B.map wD)),-(nd i),-(.int r4),cL (.ow (l.map kD)),-(nd k)]) (by walk_at "evp") W W ?_;show fK (gF (d:=kD u) (x:=[-(LD),-(.int a),-(.int x2),-(.int so),-(nd m),-(.int g),cL (.ow (f.map eB)),cL (.ow (B.map wD)),-(nd i),-(.int r4),cL (.ow (l.map kD++[kD u])),-(nd k)]) W (bS (ds:=[.int px,.bool (decide (so=1))]) (rv:=.fz (kD u)) (ah (aM (rv:=.fz (.int px)) (wa (ds:=[.int (r4 % 2),.int r4,.int r4,.int r4]) (by walk_at "ev") W (TH W)) (ae W) W W L) (ah (cN (dx:=.int so) (dy:=.int 1) (ae W) bh W W q1) aw)) W W ek) W W q W) #[l++[u],r4,_,by rw[Tj];rfl,by rw[SQ,hsl];rfl,J,λK Yf=>?_];rcases Th.mp Yf with z|z
   .show Y1 K z
   .rw[S6.mp z];show#[k1,k2]
  .rintro ρ ⟨l,r,b,rfl,hsl,hr,Y1⟩
   rw[eL,TM]at hsl;let q:(B.map wD).length<1000000:=by rw[SI];ext
   show fK (gF (d:=wD (w,l)) (x:=[-(LD),-(.int a),-(.int x2),-(.int so),-(nd m),-(.int g),cL (.ow (f.map eB)),cL (.ow (B.map wD++[wD (w,l)])),-(nd i),-(.int r),cL (.ow (l.map kD)),b]) W (dI (ds:=[eB w,.tuple (l.map kD)]) (ah (aM (rv:=.fz (eB w)) (dW W) (ae W) W W F) (ah (cJ (rv:=.fz (.tuple (l.map kD))) (ah (dW W) aw) W W) aw)) W (TH W)) W W q W) #[B++[(w,l)],_,_,_,_,by rw[Tj];rfl,by rw[Tj,o,Z];rfl,λe he=>?_];rcases Th.mp he with z|z
   .show hG e z
   .rw[S6.mp z];show#[G.1,G.2.1,G.2.2,by show 1<=l.length;ext,by show l.length<=6;ext,Y1]
 .rintro ρ ⟨B,I,H,t,b,rfl,o,hG⟩
  rw[eL,TM]at o;let o:B.map (·.1)=f:=by rw[o,<-n1,Uu]
  let X:B.length=m:=by let:=eh UQ o;rw[SI]at this;ext
  show bZ (pv:=.fz (aB B)) (cJ (rv:=.fz (aB B)) (ah (dW W) aw) W W) W #[B,#[by ext,by ext,hG,by rw[o];show n2],W]
def IC(d:cb Int)(r:d.length<=63){a:Int}(c:0<=a):∃B,Bk B/\gl [.list (d.map .int),.int a]=.ok (.fz (aB B)):=by
 let(f,e0):=rJ d a c r;let(xs,t,x2,O):=zX f;let(o,h,j):=tj xs t x2;let(b,G,i):=mG f 1 () ();let w:=DF;let X:bT (.int b) (.int 6)=-(.int (b/6)):=cf #[by decide,by decide];let F:bf (.int (b/6)) (.int 4)=-(.int (b/6 % 4)):=bj ();let l:0<=b/6 % 4/\b/6 % 4<4:=#[TF _ (),TL _ ()];generalize b/6 % 4=so at F l;let E:bf (.int b) (.int 6)=-(.int (b % 6)):=bj ();let S:0<=b % 6/\b % 6<6:=#[TF _ (),TL _ ()];generalize b % 6=v6 at E S;let P:bT (.int b) (.int 24)=-(.int (b/24)):=cf #[by decide,by decide];let A:bf (.int (b/24)) (.int 8)=-(.int (b/24 % 8)):=bj ();let u:j7 (.int (b/24 % 8)) (.int 3)=-(.bool (decide (b/24 % 8=3))):=gZ _ _;generalize b/24 % 8=v8 at A u;let U:bT (.int b) (.int 192)=-(.int (b/192)):=cf #[by decide,by decide];let z:bf (.int (b/192)) (.int 9)=-(.int (b/192 % 9)):=bj ();let Q:0<=b/192 % 9/\b/192 % 9<9:=#[TF _ (),TL _ ()];generalize b/192 % 9=v9 at z Q;let M:(SR.int (1+v6))=nd (1+v6).toNat:=by show SR.int _=.int _;congr 1;ext
 let L:(SR.int (12+v9))=nd (12+v9).toNat:=by show SR.int _=.int _;congr 1;ext
 let(rv,e,B,H,rfl):=gC (ds:=[.list (d.map .int),.int a]) (ρ:=[-(.list (d.map .int)),-(.int a),CL,CL,CL,CL,CL,CL,CL,CL,CL,CL]) (n:=12) (g:=dP) (T:=λv=>∃B,Bk B/\v=.fz (aB B)) W (by
  ext dP;let p:=λ(x2 q:Int) (m:Nat) (h1:1<=m) (K:m<=20) (Y:1<=q) (I:q<=6)=>Aj d r c (x2:=x2) l.1 l.2 h1 K Y I (N:=λ_=>∃B,Bk B/\RV.fz SR.none=.fz (aB B)) (C:=λ_=>False);show aJ (pv:=.fz (.int f)) (ρ3:=[-(.list (d.map .int)),-(.int a),-(.int f),CL,CL,CL,CL,CL,CL,CL,CL,CL]) (bS (rv:=.fz (.int f)) (by walk_at "ev") W W e0) W W ?_;show jN (by walk_at "ev") (λ_=>?_) λ_=>cX ?_
  .show nz (pv:=.fz (aB o)) (bS (ds:=[.list (xs.map .int)]) (rv:=.fz (aB o)) (ah (bS (rv:=.ow (xs.map .int)) (by walk_at "ev") W W O) aw) W W j) W #[o,h,W]
  show aJ (pv:=.fz (.int b)) (ρ3:=[-(.list (d.map .int)),-(.int a),-(.int b),CL,CL,CL,CL,CL,CL,CL,CL,CL]) (bS (rv:=.fz (.int b)) (by walk_at "ev") W W i) W W ?_;show aJ (pv:=.fz (.int so)) (ρ3:=[-(.list (d.map .int)),-(.int a),-(.int b),-(.int so),CL,CL,CL,CL,CL,CL,CL,CL]) (by walk_at "evp") W W ?_;show aJ (pv:=.fz (.int (1+v6))) (ρ3:=[-(.list (d.map .int)),-(.int a),-(.int b),-(.int so),-(.int (1+v6)),CL,CL,CL,CL,CL,CL,CL]) (by walk_at "evp") W W ?_;show aJ (pv:=.fz (.int 4)) (ρ3:=[-(.list (d.map .int)),-(.int a),-(.int b),-(.int so),-(.int (1+v6)),-(.int 4),CL,CL,CL,CL,CL,CL]) (by walk_at "evp") W W ?_;show jN (by walk_at "ev") (λ_=>?_) λ_=>cX ?_
  .show Eg ?_;show aJ (pv:=.fz (.int (12+v9))) (ρ3:=[-(.list (d.map .int)),-(.int a),-(.int b),-(.int so),-(.int (12+v9)),-(.int 4),CL,CL,CL,CL,CL,CL]) (by walk_at "evp") W W ?_;show aJ (pv:=.fz (.int 6)) (ρ3:=[-(.list (d.map .int)),-(.int a),-(.int b),-(.int so),-(.int (12+v9)),-(.int 6),CL,CL,CL,CL,CL,CL]) (by walk_at "evp") W W ?_;rw[L];show p _ 6 _ () () () ()
  .rw[M];show p _ 4 _ () () () ())
 show#[B,H,e]
def Fb(xs ys:G D)(h:xs.length+ys.length<=1000):sr (.tuple xs) (.tuple ys)=-(.tuple (xs++ys)):=by
 cases xs with
 |nil=>rfl
 |cons x r=>show(if x::r≠[]/\(x::r).length+ys.length<=1000000 then M (RV.fz (.tuple (x::r++ys)))else S)=_;rw[ai #[List.cons_ne_nil x r,by ext]]
def wq(xs:G D)(p:Nat):mL (.tuple xs) S (M (p:Int))=-(.tuple (xs.take p)):=by show M (RV.fz (.tuple (fU xs S (M (p:Int)))))=_;ext fU;rw[HT.sIx_none,abN,HT.sIx_nat,ado];congr 3;rw[List.take_eq_take_iff];ext
def tX(xs:G D)(p:Nat):mL (.tuple xs) (M (p:Int)) S=-(.tuple (xs.drop p)):=by
 show M (RV.fz (.tuple (fU xs (M (p:Int)) S)))=_;ext fU;rw[HT.sIx_none,HT.sIx_nat];congr 3;by_cases h:p<=xs.length
 .rw[YF h,Ur (by rw[Ut];show SN _)]
 .rw[Yo (),WH,XA,List.drop_of_length_le ()]
def sD(ss:G (G Int)):D:=.tuple (ss.map kD)
def tD(w:G Nat):D:=.str (tx w)
theorem qK:∀a b:G (G Int),SR.eqvAll (a.map kD) (b.map kD)=decide (a=b)
 |[],[]=>rfl
 |[],_::_=>rfl
 |_::_,[]=>rfl
 |x::r,y::t=>by
  show(SR.eqvAll (x.map SR.int) (y.map SR.int)&&SR.eqvAll (r.map kD) (t.map kD))=_;rw[MD,qK r t];by_cases h1:x=y
  .by_cases d:r=t
   .rw[a6 h1,a6 d,a6 (by rw[h1,d])];rfl
   .rw[a7 d,a7 (λz=>d (VT z).2),YK]
  .rw[a7 h1,a7 (λz=>h1 (VT z).1)];rfl
def JD(a b:G (G Int)):(AJ (sD a)&&(sD b).canLay0)=U:=by show((SR.canLayAll0 (a.map kD)&&decide (SR.depthAll (a.map kD)+1<=64))&&SR.canLayAll0 (b.map kD))=U;let:=oS a;rw[o0,o0,a6 ()];rfl
def nG(a b:G (G Int)):j7 (sD a) (sD b)=-(.bool (decide (a=b))):=by ext j7;rw[ai (JD a b),show SR.eqv (sD a) (sD b)=_ from qK a b]
def KC(a b:G (G Int)):tw (sD a) (sD b)=-(.bool (!decide (a=b))):=by ext tw;rw[ai (JD a b),show SR.eqv (sD a) (sD b)=_ from qK a b]
def fy(a:G (G Int)):eG [sD a]=-(nd a.length):=by show M (RV.fz (.int ((a.map kD).length:Int)))=_;rw[SI]
def QP{α:Type}(xs:G α)(p q:Nat)(h:p<=q):(xs.drop (min p xs.length)).take (min q xs.length - min p xs.length)=(xs.drop p).take (q - p):=by
 by_cases h1:p<xs.length
 .rw[YF (Uy h1)]
  by_cases b:q<=xs.length
  .rw[YF b]
  .rw[Yo (),Ur (l:=xs.drop p) (by rw[Ut];ext),Ur (by rw[Ut];ext)]
 .rw[Yo (a:=p) (),Vc (SN _),Vc (),acb,acb]
def Pl(a:G (G Int))(p q:Nat)(h:p<=q):mL (sD a) (M (p:Int)) (M (q:Int))=-(sD ((a.drop p).take (q - p))):=by show M (RV.fz (.tuple (fU (a.map kD) (M (p:Int)) (M (q:Int)))))=_;ext fU;rw[HT.sIx_nat,HT.sIx_nat,QP _ _ _ h,<-WX,<-Wv];rfl
def dz:G Wd->G Nat->I (G (G Int))
 |[],_=>S
 |e::r,w=>if e.1=w then M e.2 else dz r w
theorem lc(e:Wd)(r:G Wd)(w:G Nat):dz (e::r) w=if e.1=w then M e.2 else dz r w:=W
def wr(B:G Wd)(ws:G (G Nat)):G (G Int):=(ws.map λw=>(dz B w).getD []).flatten
theorem cU:∀{B:G Wd} {w:G Nat} {s:G (G Int)},dz B w=M s->(w,s)∈B
 |e::r,w,s,h=>by
  unfold dz at h;by_cases q:e.1=w
  .rw[ai q]at h;ext h;rw[<-q];show Ta
  .rw[ak q]at h;show S5 _ (cU h)
theorem iq:∀{B:G Wd} {e:Wd},(B.map (·.1)).Nodup->e∈B->dz B e.1=M e.2
 |a::r,e,b,h=>by
  rw[SX,Uh]at b;ext dz;rcases Tf.mp h with h|h
  .subst h;rw[ai W]
  .rw[ak (λz=>b.1 (by rw[z];show S7.mpr #[e,h,W]))];show iq b.2 h
theorem lG:∀{B:G Wd} {w:G Nat},w∉B.map (·.1)->dz B w=S
 |[],_,_=>rfl
 |a::r,w,h=>by rw[SX,Tf,not_or]at h;ext dz;rw[ak (λz=>h.1 z.symm)];show lG h.2
def gg{B:G Wd}{w:G Nat}(h:w∈B.map (·.1)):∃s,dz B w=M s:=by
 cases q:dz B w with
 |some s=>show#[s,W]
 |none=>
  exfalso;revert h q
  induction B with
  |nil=>intro h;simp at h
  |cons a r b=>
   intro h q;unfold dz at q;by_cases z:a.1=w
   .rw[ai z]at q;ext q
   .rw[ak z]at q;rw[SX,Tf]at h;show b (h.resolve_left λy=>z y.symm) q
theorem i8(B:G Wd):wr B []=[]:=W
def jw(B:G Wd)(ws:G (G Nat))(w:G Nat):wr B (ws++[w])=wr B ws++(dz B w).getD []:=by ext wr;rw[Tj,Z6,List.map_singleton,List.flatten_singleton]
theorem dD(B:G Wd)(ws:G (G Nat))(w:G Nat):wr B (w::ws)=(dz B w).getD []++wr B ws:=W
def iK(B:G Wd)(ws:G (G Nat)):Prop:=∀w∈ws,w∈B.map (·.1)
structure BB(B:G Wd):Prop where
 ZF:B.length<=20
 nd:(B.map (·.1)).Nodup
 s1:∀e∈B,1<=e.2.length
 s6:∀e∈B,e.2.length<=6
 wc:∀e∈B,∀c∈e.1,c<1114112
theorem Bk.bb{B:G Wd}(h:Bk B):BB B:=#[h.ZF,h.nd,λe a=>(h.ge e a).s1,λe a=>(h.ge e a).s6,λe a c b=>by let:=(h.ge e a).wd c b;ext]
theorem CF{B:G Wd}(h:BB B):∀ws:G (G Nat),(wr B ws).length<=6*ws.length
 |[]=>TX _
 |w::r=>by
  rw[dD,SQ,S0];let a:=CF h r;cases q:dz B w with
  |none=>show 0+_<=_;ext
  |some s=>let:s.length<=6:=h.s6 _ (cU q);show s.length+_<=_;ext
def kg(c:G (bz×SV))(k j:bz)(x:SV):ce (gh c k x) j=if j=k then M x else ce c j:=by
 ext gh;by_cases a:(c.any λd=>decide (d.1=k))=U
 .rw[ai a]
  let(q,e,m):=aba.mp a;let m:=a8 m;let g:∀l:G (bz×SV),ce (l.map λd=>if d.1=k then(d.1,x)else d) j=if j=k then(ce l j).map (λ_=>x)else ce l j:=by
   intro l
   induction l with
   |nil=>ext ce;simp
   |cons p r i=>
    unfold ce at i⊢;rw[SX,Tu,Tu];by_cases f:p.1=k
    .rw[ai f]
     by_cases b:p.1=j
     .rw[a6 b,ai (b.symm.trans f)];rfl
     .rw[a7 b];show i
    .rw[ak f]
     by_cases b:p.1=j
     .rw[a6 b,ak (λz=>f (b.trans z))]
     .rw[a7 b];show i
  rw[g];by_cases b:j=k
  .rw[ai b,ai b]
   let:∃y,ce c j=M y:=by
    ext ce;rw[b];cases h:c.find? λd=>decide (d.1=k)with
    |none=>show b9 (WM.mp h q e) (by rw[a6 m];simp)
    |some p=>show#[_,W]
   let(y,n):=this;rw[n];rfl
  .rw[ak b,ak b]
 .rw[ak a]
  let o:∀q∈c,¬q.1=k:=λq e z=>a (aba.mpr #[q,e,a6 z]);ext ce;rw[List.find?_append];by_cases b:j=k
  .rw[ai b,WM.mpr λq e=>by rw[b];simp[o q e],Option.none_or,Tu,a6 (show k=j from b.symm)];rfl
  .rw[ak b,Tu,a7 (show¬k=j from λz=>b z.symm),List.find?_nil,Option.or_none]
def Gz(a:G (bz×SV))(k:bz)(x:SV):(gh a k x).length<=a.length+1:=by
 ext gh;split
 .rw[SI];ext
 .rw[SQ];show SN _
def Mv(B:G Wd):G (bz×SV):=B.map λe=>(.inr (tx e.1),.fz (sD e.2))
def uz(B:G Wd):nu (.fz (aB B))=M (Mv B):=by
 show aq og (B.map wD)=M (Mv B)
 induction B with
 |nil=>rfl
 |cons e r a=>rw[SX];ext aq;rw[a];rfl
def uh(B:G Wd)(c:(B.map (·.1)).Nodup)(w:G Nat):ce (eE [] (Mv B)) (.inr (tx w))=(dz B w).map λs=>SV.fz (sD s):=by
 let b:∀(B:G Wd) (a:G (bz×SV)),(B.map (·.1)).Nodup->ce (eE a (Mv B)) (.inr (tx w))=match dz B w with
   |some s=>-(sD s)
   |none=>ce a (.inr (tx w)):=by
  intro B
  induction B with
  |nil=>intro a _;rfl
  |cons e r d=>
   intro a c;rw[SX,Uh]at c;show ce (eE (gh a (.inr (tx e.1)) (.fz (sD e.2))) (Mv r)) (.inr (tx w))=_;rw[d _ c.2,lc];by_cases q:e.1=w
   .subst q;rw[ai W,lG c.1];dsimp only;rw[kg,ai W]
   .rw[ak q]
    cases dz r w with
    |some s=>rfl
    |none=>dsimp only;rw[kg,ak (λz=>q (Co (Sum.inr.inj z)).symm)]
 rw[b B [] c];cases dz B w with
 |none=>rfl
 |some s=>rfl
abbrev Rs:=G (G Int)
structure Wy where
 p:Nat
 r:Rs
 lo:G (G Nat)
 sh:G (G Nat)
def bg(a b:Rs):Bool:=decide (b.take a.length=a)
def aZ(e f:Wd):I Wy:=if e.1≠f.1/\bg e.2 f.2=U then M #[f.2.length,f.2.drop e.2.length,[f.1],[e.1]]else S
def b7(B:G Wd):G Wy:=B.flatMap λe=>B.filterMap (aZ e)
def nx(w:Wy)(e:Wd):I Wy:=if bg e.2 w.r=U then M #[w.p,w.r.drop e.2.length,w.lo,w.sh++[e.1]]else if bg w.r e.2=U then M #[w.p+(e.2.drop w.r.length).length,e.2.drop w.r.length,w.sh++[e.1],w.lo]else S
def cO(B:G Wd)(w:Wy):G Wy:=if w.r=[]then[]else B.filterMap (nx w)
def g9{a b:Rs}:bg a b=U↔∃c,b=a++c:=by
 ext bg;rw[decide_eq_true_iff];constructor
 .intro h;show#[b.drop a.length,by let:=Uw a.length b;rw[h]at this;show this.symm]
 .rintro⟨c,rfl⟩;simp
def br(w:Wy):D:=.tuple [nd w.p,sD w.r,.tuple (w.lo.map tD),.tuple (w.sh.map tD)]
theorem yC:∀a b:G Int,∃r,LD.ltds (a.map SR.int) (b.map SR.int)=M r
 |[],[]=>#[_,by rw[TZ,LD.ltds]]
 |[],_::_=>#[_,by rw[TZ,SX,LD.ltds]]
 |_::_,[]=>#[_,by rw[TZ,SX,LD.ltds]]
 |x::a,y::b=>by
  let(r,h):=yC a b;rw[SX,SX,LD.ltds];split
  .show#[r,h]
  .show#[_,by rw[LD.ltd]]
theorem JG:∀a b:Rs,∃r,LD.ltds (a.map kD) (b.map kD)=M r
 |[],[]=>#[_,by rw[TZ,LD.ltds]]
 |[],_::_=>#[_,by rw[TZ,SX,LD.ltds]]
 |_::_,[]=>#[_,by rw[TZ,SX,LD.ltds]]
 |x::a,y::b=>by
  let(r,h):=JG a b;rw[SX,SX,LD.ltds];split
  .show#[r,h]
  .let(q,d):=yC x y;show#[q,by ext kD;rw[LD.ltd];show d]
theorem wG:∀a b:G (G Nat),∃r,LD.ltds (a.map tD) (b.map tD)=M r
 |[],[]=>#[_,by rw[TZ,LD.ltds]]
 |[],_::_=>#[_,by rw[TZ,SX,LD.ltds]]
 |_::_,[]=>#[_,by rw[TZ,SX,LD.ltds]]
 |x::a,y::b=>by
  let(r,h):=wG a b;rw[SX,SX,LD.ltds];split
  .show#[r,h]
  .show#[_,by ext tD;rw[LD.ltd]]
def EJ(a b:Wy):∃r,LD.ltd (br a) (br b)=M r/\(r=U->a.p<=b.p)/\(r=SW->b.p<=a.p):=by
 ext br;rw[LD.ltd,LD.ltds];by_cases e:a.p=b.p
 .rw[e]
  let:SR.eqv (nd b.p) (nd b.p)=U:=by ext nd;rw[SR.eqv];simp
  rw[ai this];let d:∃r,LD.ltds [sD a.r,.tuple (a.lo.map tD),.tuple (a.sh.map tD)] [sD b.r,.tuple (b.lo.map tD),.tuple (b.sh.map tD)]=M r:=by
   rw[LD.ltds];split
   .rw[LD.ltds]
    split
    .rw[LD.ltds]
     split
     .show#[_,by rw[LD.ltds]]
     .rw[LD.ltd];show wG _ _
    .rw[LD.ltd];show wG _ _
   .ext sD;rw[LD.ltd];show JG _ _
  let(r,h):=d;show#[r,h,λ_=>SN _,λ_=>SN _]
 .let:¬SR.eqv (nd a.p) (nd b.p)=U:=by ext nd;rw[SR.eqv];simp;ext
  rw[ak this];show#[decide ((a.p:Int)<b.p),by ext nd;rw[LD.ltd],λh=>?_,λh=>?_]
  .let:=a8 h;ext
  .let:=of_decide_eq_false h;ext
def kE(a b:Wy):Wy:=if LD.ltd (br b) (br a)=M U then b else a
def x9(a b:Wy):kE a b=a\/kE a b=b:=by ext kE;split<;>simp
def xS(a b:Wy):(kE a b).p<=a.p/\(kE a b).p<=b.p:=by
 let(r,h,h1,d):=EJ b a;ext kE;rw[h];cases r with
 |true=>rw[ai W];show#[h1 W,SN _]
 |false=>rw[ak (by simp)];show#[SN _,d W]
abbrev Mp:=G (Rs×Wy)
def eC(M:Mp)(r:Rs):I Wy:=(M.find? λq=>decide (q.1=r)).map (·.2)
def jY(M:Mp)(r:Rs)(w:Wy):Mp:=if(M.find? λq=>decide (q.1=r)).isSome=U then M.map (λq=>if q.1=r then(q.1,w)else q)else M++[(r,w)]
def gk(M:Mp)(r:Rs):Mp:=M.filter λq=> !decide (q.1=r)
def Gt(M:Mp)(r:Rs)(p:Nat):Prop:=∃q∈M,q.1=r/\q.2.p<=p
def j4(O:Mp)(w:Wy):Mp:=jY O w.r (kE w ((eC O w.r).getD w))
def iT{M:Mp}{r:Rs}{w:Wy}(h:eC M r=cL w):(r,w)∈M:=by unfold eC at h;let(q,h1,b):=Uj.mp h;let e:=abo h1;let d:=YS h1;let a:q.1=r:=a8 e;let(g,f):=q;dsimp only at b a;subst b a;show d
theorem pZ{M:Mp}{r:Rs}(h:(M.find? λq=>decide (q.1=r)).isSome≠U):∀q∈M,q.1≠r:=λq a e=>h (by rw[VH];show#[q,a,a6 e])
def Gv{M:Mp}{r:Rs}{w:Wy}{q:Rs×Wy}(h:q∈jY M r w):q=(r,w)\/(q∈M/\q.1≠r):=by
 unfold jY at h;split at h
 .let(z,a,e):=S7.mp h
  by_cases k:z.1=r
  .rw[ai k]at e;subst e;show .inl (by rw[k])
  .rw[ak k]at e;subst e;show .inr #[a,k]
 .rename_i b
  rcases Th.mp h with h|h
  .show .inr #[h,pZ b q h]
  .show .inl (S6.mp h)
def rc{M:Mp}{r:Rs}{w:Wy}:(r,w)∈jY M r w/\∀q∈M,q.1≠r->q∈jY M r w:=by
 ext jY;split
 .rename_i h;rw[VH]at h;let(z,b,e):=h;let e:=a8 e;show#[S7.mpr #[z,b,by rw[ai e,e]],λq a k=>S7.mpr #[q,a,by rw[ak k]]]
 .show#[Tw _ (S6.mpr W),λq a _=>Uk _ a]
def DQ(M:Mp)(r:Rs)(w:Wy):(jY M r w).map (·.1)=if r∈M.map (·.1)then M.map (·.1)else M.map (·.1)++[r]:=by
 ext jY;let b:(M.find? λq=>decide (q.1=r)).isSome=U↔r∈M.map (·.1):=by rw[VH,S7];show#[λ#[q,h1,a]=>#[q,h1,a8 a],λ#[q,h1,a]=>#[q,h1,a6 a]]
 by_cases h:r∈M.map (·.1)
 .rw[ai (b.mpr h),ai h,T1];apply XJ;intro q _;show(if q.1=r then(q.1,w)else q).1=q.1;split<;>rfl
 .rw[ak (λz=>h (b.mp z)),ak h,Tj];rfl
def J5{M:Mp}{r:Rs}{w:Wy}(h:(M.map (·.1)).Nodup):((jY M r w).map (·.1)).Nodup:=by
 rw[DQ];split
 .show h
 .rename_i f;show Wf.mpr #[h,Uh.mpr #[Wq,VS],λa g b d e=>f (by rw[<-S6.mp d,<-e];show g)]
def Iu{M:Mp}{r:Rs}{w:Wy}(h:r∉M.map (·.1)):jY M r w=M++[(r,w)]:=by ext jY;rw[ak];rw[VH];rintro⟨q,h1,a⟩;show h (S7.mpr #[q,h1,a8 a])
def vT{M:Mp}(h:(M.map (·.1)).Nodup){a b:Rs×Wy}(i:a∈M)(j:b∈M)(e:a.1=b.1):a=b:=by
 induction M with
 |nil=>ext i
 |cons c r d=>
  rw[SX,Uh]at h;rcases Tf.mp i with g|g<;>rcases Tf.mp j with f|f
  .rw[g,f]
  .show b9 (S7.mpr #[b,f,by rw[<-e,g]]) h.1
  .show b9 (S7.mpr #[a,g,by rw[e,f]]) h.1
  .show d h.2 g f
structure Ok1(B:G Wd)(q:Rs×Wy):Prop where
 k:q.2.r=q.1
 p:q.2.p=(wr B q.2.lo).length
 i:iK B q.2.lo
 j:iK B q.2.sh
 s:∃e∈B,∃c,e.2=c++q.1
 e:wr B q.2.lo=wr B q.2.sh++q.1
 n:q.2.lo≠[]/\q.2.sh≠[]
 u:q.2.lo.head?≠q.2.sh.head?
structure Iv(B:G Wd)(W O:Mp):Prop where
 wk:∀q∈W,Ok1 B q
 ok:∀q∈O,Ok1 B q
 wn:(W.map (·.1)).Nodup
 on:(O.map (·.1)).Nodup
 dj:∀a∈W,∀b∈O,a.1≠b.1
 le:∀a∈W,∀b∈O,a.2.p<=b.2.p
def MV{O:Mp}{w:Wy}(c:(O.map (·.1)).Nodup):Gt (j4 O w) w.r w.p/\∀r p,Gt O r p->Gt (j4 O w) r p:=by
 ext j4;show#[#[_,rc.1,W,(xS _ _).1],?_];rintro r p ⟨q,a,rfl,b⟩;by_cases e:q.1=w.r
 .show#[_,rc.1,e.symm,?_]
  cases g:eC O w.r with
  |none=>exfalso;unfold eC at g;rw[Xf,WM]at g;show g q a (a6 e)
  |some z=>let:=vT c a (iT g) e;subst this;show S9 (xS _ _).2 b
 .show#[q,rc.2 q a e,W,b]
def kJ{O:Mp}{w:Wy}{q:Rs×Wy}(h:q∈j4 O w):q=(w.r,w)\/q∈O:=by
 unfold j4 at h;rcases Gv h with h|h
 .cases g:eC O w.r with
  |none=>
   rw[g]at h;let:kE w (Option.getD (S:I Wy) w)=w:=by rcases x9 w w with z|z<;>show z
   rw[this]at h;show .inl h
  |some z=>
   rw[g]at h;let:kE w ((M z:I Wy).getD w)=w\/kE w ((M z:I Wy).getD w)=z:=x9 w z;rcases this with e|e
   .rw[e]at h;show .inl h
   .rw[e]at h;subst h;show .inr (iT g)
 .show .inr h.1
def gI(O:Mp)(ws:G Wy):Mp:=ws.foldl j4 O
theorem sH{B:G Wd}{W:Mp}:∀{ws:G Wy} {O:Mp},Iv B W O->(∀w∈ws,Ok1 B (w.r,w)/\(∀a∈W,a.1≠w.r)/\∀a∈W,a.2.p<=w.p)->Iv B W (gI O ws)/\(∀w∈ws,Gt (gI O ws) w.r w.p)/\∀r p,Gt O r p->Gt (gI O ws) r p
 |[],O,h,_=>#[h,λ_ z=>(by ext z),λ_ _ z=>z]
 |w::ws,O,h,g=>by
  let(u,t,o):=g w (Ta ..);let j:Iv B W (j4 O w):=by
   show#[h.wk,λq n=>?_,h.wn,J5 h.on,λa v b f=>?_,λa v b f=>?_]
   .rcases kJ n with e|e
    .subst e;show u
    .show h.ok q e
   .rcases kJ f with e|e
    .subst e;show t a v
    .show h.dj a v b e
   .rcases kJ f with e|e
    .subst e;show o a v
    .show h.le a v b e
  let(k1,k2):=MV (O:=O) (w:=w) h.on;let(m,l,i):=sH (ws:=ws) j λz d=>g z (S5 _ d);show#[m,λz d=>?_,λr p z=>i r p (k2 r p z)];rcases Tf.mp d with e|e
  .subst e;show i _ _ k1
  .show l z e
def lz{B:G Wd}(l:BB B){w:Wy}(h:w∈b7 B):Ok1 B (w.r,w):=by
 let(e,g,h):=Xg.mp h;let(f,b,h):=Uq.mp h;unfold aZ at h;split at h
 .rename_i j
  ext h;let(c,i):=g9.mp j.2;let n:=iq l.nd b;let le:=iq l.nd g;let d:wr B [f.1]=f.2:=by rw[dD,n,i8,TC];rfl
  let m:wr B [e.1]=e.2:=by rw[dD,le,i8,TC];rfl
  show#[W,by show f.2.length=_;rw[d],λx a=>?_,λx a=>?_,#[f,b,e.2,?_],?_,#[by simp,by simp],λz=>j.1 (Tx z).symm]
  .rw[S6.mp a];show S7.mpr #[f,b,W]
  .rw[S6.mp a];show S7.mpr #[e,g,W]
  .show f.2=e.2++f.2.drop e.2.length;rw[i,U5]
  .show wr B [f.1]=wr B [e.1]++f.2.drop e.2.length;rw[d,m,i,U5]
 .ext h
def nY{B:cb Wd}(H:BB B){a w:Wy}(k:Ok1 B (a.r,a))(h:w∈cO B a):Ok1 B (w.r,w)/\a.p<=w.p:=by
 unfold cO at h;split at h
 .ext h
 .let(e,m,h):=Uq.mp h
  let le:=iq H.nd m;let(I,z,v,F,(g,G,c,E),u,j,t):=k;dsimp only at z v F E u j t;let C:(a.sh++[e.1]).head? =a.sh.head? :=by let(x,y,l):=List.exists_cons_of_ne_nil j.2;rw[l];rfl
  let d:wr B (a.sh++[e.1])=wr B a.sh++e.2:=by rw[jw,le];rfl
  let f:iK B (a.sh++[e.1]):=λx i=>by
   rcases Th.mp i with i|i
   .show F x i
   .rw[S6.mp i];show S7.mpr #[e,m,W]
  unfold nx at h;split at h
  .rename_i n
   ext h;let(o,b):=g9.mp n;show#[#[W,z,v,f,#[g,G,c++e.2,?_],?_,#[j.1,by simp],by show a.lo.head?≠(a.sh++[e.1]).head?;rw[C];show t],SN _]
   .show g.2=c++e.2++a.r.drop e.2.length;rw[E,b,U5,Tz]
   .show wr B a.lo=wr B (a.sh++[e.1])++a.r.drop e.2.length;rw[u,d,b,U5,Tz]
  .split at h
   .rename_i n
    ext h;let(o,b):=g9.mp n;let q:e.2.drop a.r.length=o:=by rw[b,U5]
    let A:wr B (a.sh++[e.1])=wr B a.lo++o:=by rw[d,b,u,Tz]
    show#[#[W,?_,f,v,#[e,m,a.r,?_],?_,#[by simp,j.1],by show(a.sh++[e.1]).head?≠a.lo.head?;rw[C];show dt t],Yp _ _]
    .show a.p+(e.2.drop a.r.length).length=_;rw[q];show a.p+o.length=(wr B (a.sh++[e.1])).length;rw[A,SQ,z]
    .show e.2=a.r++e.2.drop a.r.length;rw[q];show b
    .show wr B (a.sh++[e.1])=wr B a.lo++e.2.drop a.r.length;rw[q];show A
   .ext h
structure Full(B:G Wd)(W O:Mp):Prop where
 iv:Iv B W O
 fst:∀f∈b7 B,Gt (W++O) f.r f.p
 nxt:∀a∈W,∀n∈cO B a.2,Gt (W++O) n.r n.p
def Gt.app{W O b:Mp}(h:∀r p,Gt O r p->Gt b r p){r:Rs}{p:Nat}(g:Gt (W++O) r p):Gt (W++b) r p:=by
 let(q,a,e,l):=g;rcases Th.mp a with a|a
 .show#[q,Uk _ a,e,l]
 .let(z,f,e2,d):=h r p #[q,a,e,l];show#[z,Tw _ f,e2,d]
def Cf{B:G Wd}(h:BB B):Full B [] (gI [] (b7 B)):=by let a:Iv B [] []:=#[λ_ z=>(by ext z),λ_ z=>(by ext z),VS,VS,λ_ z=>(by ext z),λ_ z=>(by ext z)];let(d,b,i):=sH (ws:=b7 B) a λw e=>#[lz h e,λ_ z=>(by ext z),λ_ z=>(by ext z)];show#[d,λf g=>b f g,λ_ z=>(by ext z)]
def xt(B:G Wd)(W:Mp)(b:Rs×Wy):G Wy:=(cO B b.2).filter λn=> !decide (n.r∈(W++[b]).map (·.1))
def IA{B:cb Wd}(E:BB B){W O:Mp}(h:Full B W O){b:Rs×Wy}(k:b∈O)(hm:∀q∈O,b.2.p<=q.2.p):Full B (W++[b]) (gI (gk O b.1) (xt B W b)):=by
 let u:=h.iv.ok b k;let v:Iv B (W++[b]) (gk O b.1):=by
  let o:∀q∈gk O b.1,q∈O/\q.1≠b.1:=λq d=>by let(h1,m):=Um.mp d;show#[h1,λe=>by rw[a6 e]at m;ext m]
  show#[λq d=>?_,λq d=>h.iv.ok q (o q d).1,?_,h.iv.on.sublist ((Z5).map _),λa N c j=>?_,λa N c j=>?_]
  .rcases Th.mp d with d|d
   .show h.iv.wk q d
   .rw[S6.mp d];show u
  .rw[Tj];show Wf.mpr #[h.iv.wn,Uh.mpr #[Wq,VS],λx J y A e=>by let(a,N,rfl):=S7.mp J;let A:y=b.1:=S6.mp A;show h.iv.dj a N b k (e.trans A)]
  .rcases Th.mp N with N|N
   .show h.iv.dj a N c (o c j).1
   .rw[S6.mp N];show dt (o c j).2
  .rcases Th.mp N with N|N
   .show h.iv.le a N c (o c j).1
   .rw[S6.mp N];show hm c (o c j).1
 let i:Ok1 B (b.2.r,b.2):=by rw[u.k];show u
 let(I,H,G):=sH (ws:=xt B W b) v λw K=>by
  let(h1,m):=Um.mp K;let(F,t):=nY E i h1;show#[F,λa N e=>?_,λa N=>S9 ?_ t]
  .rw[a6 (S7.mpr #[a,N,e])]at m;ext m
  .rcases Th.mp N with N|N
   .show h.iv.le a N b k
   .rw[S6.mp N];show SN _
 let C:∀r p,Gt (W++O) r p->Gt (W++[b]++gI (gk O b.1) (xt B W b)) r p:=λr p g=>by
  show Gt.app G ?_;let(q,d,e,l):=g;rcases Th.mp d with d|d
  .show#[q,Uk _ (Uk _ d),e,l]
  .by_cases z:q.1=b.1
   .let:=vT h.iv.on d k z;subst this;show#[q,Uk _ (Tw _ (S6.mpr rfl)),e,l]
   .show#[q,Tw _ (Um.mpr #[d,by rw[a7 z];rfl]),e,l]
 show#[I,λf L=>C _ _ (h.fst f L),λa N n P=>?_];rcases Th.mp N with N|N
 .show C _ _ (h.nxt a N n P)
 .rw[S6.mp N]at P
  let(_,t):=nY E i P;by_cases z:n.r∈(W++[b]).map (·.1)
  .let(q,d,e):=S7.mp z
   show#[q,Uk _ d,e,S9 ?_ t];rcases Th.mp d with d|d
   .show h.iv.le q d b k
   .rw[S6.mp d];show SN _
  .let(q,d,e,l):=H n (Um.mpr #[P,by rw[a7 z];rfl]);show#[q,Tw _ d,e,l]
def CZ(B:G Wd):G Rs:=B.flatMap λe=>[e.2,e.2.drop 1,e.2.drop 2,e.2.drop 3,e.2.drop 4,e.2.drop 5,e.2.drop 6]
def wM{B:G Wd}(f:BB B){q:Rs×Wy}(h:Ok1 B q):q.1∈CZ B:=by
 let(e,a,c,b):=h.s;let g:=f.s6 e a;let i:q.1=e.2.drop c.length:=by rw[b,U5]
 let d:c.length<=6:=by rw[b,SQ]at g;ext
 show Xg.mpr #[e,a,?_];rw[i]
 match c.length,d with
 |0,_=>simp
 |1,_=>simp
 |2,_=>simp
 |3,_=>simp
 |4,_=>simp
 |5,_=>simp
 |6,_=>simp
 |n+7,h=>ext
theorem uP{α:Type}[DecidableEq α]:∀{a b:G α},a.Nodup->(∀x∈a,x∈b)->a.length<=b.length
 |[],_,_,_=>TX _
 |x::a,b,g,h=>by rw[Uh]at g;let:=uP (a:=a) (b:=b.erase x) g.2 λy d=>(List.mem_erase_of_ne (λe:y=x=>g.1 (by rw[<-e];show d))).mpr (h y (S5 _ d));let f:=h x (Ta ..);rw[List.length_erase_of_mem f]at this;let:0<b.length:=Zp f;rw[S0];ext
theorem uY:∀B:G Wd,(CZ B).length=7*B.length
 |[]=>rfl
 |e::r=>by let:=uY r;unfold CZ at*;rw[aaF,SQ,this,S0];simp;ext
def j6{B:G Wd}(g:BB B){W O:Mp}(h:Iv B W O):W.length+O.length<=140:=by
 let nd:((W++O).map (·.1)).Nodup:=by rw[Tj];show Wf.mpr #[h.wn,h.on,λx f y i e=>?_];let(a,l,rfl):=S7.mp f;let(b,j,rfl):=S7.mp i;show h.dj a l b j e
 let:=uP (b:=CZ B) nd λx f=>by
  let(q,d,rfl):=S7.mp f;rcases Th.mp d with d|d
  .show wM g (h.wk q d)
  .show wM g (h.ok q d)
 rw[uY,SI,SQ]at this;let:=g.ZF;ext
def mR{a b c d:Rs}(h:a++c=b++d)(e:a.length<=b.length):∃o,b=a++o/\c=o++d:=by
 let h1:b=a++b.drop a.length:=by
  let:=eh (List.take a.length) h;rw[abP,List.take_append_of_le_length e]at this
  conv=>lhs;rw[<-Uw a.length b]
  rw[<-this]
 show#[b.drop a.length,h1,?_];rw[h1,Tz]at h;show Xb h
section
variable{B:cb Wd}{G:Rs->Nat->Prop}
def Pr(F:BB B)(mono:∀r p q,G r p->p<=q->G r q)
  (A:∀r p,r≠[]->G r p->∀e∈B,(bg e.2 r=U->G (r.drop e.2.length) p)/\(¬bg e.2 r=U->bg r e.2=U->G (e.2.drop r.length) (p+(e.2.drop r.length).length))):
  ∀(n:Nat) (xs ys:cb (cb Nat)) (r:Rs) (p:Nat),xs.length+ys.length=n->iK B xs->iK B ys->wr B ys=r++wr B xs->G r p->G [] (p+(wr B xs).length):=by
 intro n
 induction n with
 |zero=>intro xs ys r p L i f h g;let e1:xs=[]:=V4.mp ();let e2:ys=[]:=V4.mp ();subst e1 e2;rw[i8,TC]at h;rw[<-h]at g;show g
 |succ n t=>
  intro xs ys r p L i f h g;by_cases d:r=[]
  .subst d;show mono _ _ _ g ()
  .cases ys with
   |nil=>rw[i8]at h;show b9 (List.append_eq_nil_iff.mp h.symm).1 d
   |cons w ys=>
    let(s,u):=gg (f w (Ta ..));let hm:=cU u;let b:iK B ys:=λz C=>f z (S5 _ C);rw[dD,u]at h;let h:s++wr B ys=r++wr B xs:=h;rw[S0]at L;by_cases v:s.length<=r.length
    .let(o,e1,e2):=mR h v
     let l:bg s r=U:=g9.mpr #[o,e1];let a:=(A r p d g (w,s) hm).1 l;let m:r.drop s.length=o:=by rw[e1,U5]
     let a:G o p:=by rw[<-m];show a
     show t xs ys o p () i b e2 a
    .let(o,e1,e2):=mR h.symm ()
     let l:bg r s=U:=g9.mpr #[o,e1];let j:¬bg s r=U:=λz=>by let(c,E):=g9.mp z;rw[E,SQ]at v;ext
     let a:=(A r p d g (w,s) hm).2 j l;let m:s.drop r.length=o:=by rw[e1,U5]
     let a:G o (p+o.length):=by rw[<-m];show a
     let:=t ys xs o (p+o.length) () b i e2 a;rw[e2,SQ,<-Zb];show this
def NA(n:BB B)(mono:∀r p q,G r p->p<=q->G r q)(h1:∀f∈b7 B,G f.r f.p)
  (L:∀r p,r≠[]->G r p->∀e∈B,(bg e.2 r=U->G (r.drop e.2.length) p)/\(¬bg e.2 r=U->bg r e.2=U->G (e.2.drop r.length) (p+(e.2.drop r.length).length))):
  ∀(X Y:cb (cb Nat)),iK B X->iK B Y->X≠Y->wr B X=wr B Y->G [] (wr B X).length:=by
 let M:∀{a b:cb Nat} {g d o:Rs},(a,g)∈B->(b,d)∈B->a≠b->d=g++o->G o d.length:=by
  intro a b g d o ha Q l e;let:=h1 #[d.length,d.drop g.length,[b],[a]] (Xg.mpr #[(a,g),ha,Uq.mpr #[(b,d),Q,by ext aZ;rw[ai #[l,g9.mpr #[o,e]]]]]);let S:d.drop g.length=o:=by rw[e,U5]
  rw[<-S];show this
 intro X
 induction X with
 |nil=>
  intro Y _ m l h;cases Y with
  |nil=>show b9 W l
  |cons b Y=>let(s,K):=gg (m b (Ta ..));rw[dD,K,i8]at h;let E:=eh UQ h;let C:=n.s1 _ (cU K);dsimp only at C;rw[X7,SQ,UG]at E;ext
 |cons a X N=>
  intro Y J m l h;let(g,u):=gg (J a (Ta ..));let w:=cU u;let j:iK B X:=λz A=>J z (S5 _ A);cases Y with
  |nil=>rw[dD,u,i8]at h;let E:=eh UQ h;let C:=n.s1 _ w;dsimp only at C;rw[X7,SQ,UG]at E;ext
  |cons b Y=>
   let(d,t):=gg (m b (Ta ..));let I:=cU t;let i:iK B Y:=λz A=>m z (S5 _ A);let v:wr B (a::X)=g++wr B X:=by rw[dD,u];rfl
   let H:wr B (b::Y)=d++wr B Y:=by rw[dD,t];rfl
   let P:=h;rw[v,H]at h;by_cases F:a=b
   .subst F;rw[u]at t;ext t;let:=N Y j i (λz=>l (by rw[z])) (Xb h);show mono _ _ _ this (by rw[v,SQ];ext)
   .by_cases O:g.length<=d.length
    .let(o,e1,e2):=mR h O;let:=Pr n mono L _ Y X o d.length W i j e2 (M w I F e1);rw[P,H,SQ];show this
    .let(o,e1,e2):=mR h.symm ();let:=Pr n mono L _ X Y o g.length W j i e2 (M I w (dt F) e1);rw[v,SQ];show this
end
def MX{B:cb Wd}(C:BB B){W:Mp}(h:Full B W []){X Y:cb (cb Nat)}(v:iK B X)(u:iK B Y)(E:X≠Y)(e:wr B X=wr B Y):Gt W [] (wr B X).length:=by
 let t:=h.fst;let o:=h.nxt;rw[TC]at t o;show NA C (G:=Gt W) (λr p q #[z,h1,b,a] l=>#[z,h1,b,S9 a l]) t (λr p w #[q,j,e,l] f A=>?_) X Y v u E e;let m:=(h.iv.wk q j).k;let d:q.2.r≠[]:=by rw[m,e];show w
 let nm:∀{n:Wy},nx q.2 f=M n->Gt W n.r n.p:=λ{n} L=>o q j n (by ext cO;rw[ak d];show Uq.mpr #[f,A,L]);let er:q.2.r=r:=m.trans e;show#[λi=>?_,λg i=>?_]
 .let:=nm (n:=#[q.2.p,q.2.r.drop f.2.length,q.2.lo,q.2.sh++[f.1]]) (by ext nx;rw[ai (by rw[er];show i)]);let(z,h1,b,a):=this;show#[z,h1,by rw[b];show q.2.r.drop f.2.length=_;rw[er],S9 a l]
 .let:=nm (n:=#[q.2.p+(f.2.drop q.2.r.length).length,f.2.drop q.2.r.length,q.2.sh++[f.1],q.2.lo]) (by ext nx;rw[ak (by rw[er];show g),ai (by rw[er];show i)]);let(z,h1,b,a):=this;show#[z,h1,by rw[b];show f.2.drop q.2.r.length=_;rw[er],S9 a ?_];show q.2.p+(f.2.drop q.2.r.length).length<=_;rw[er];ext
def kX(a b:Rs):fY [sD a,sD b]=.ok (.fz (.bool (bg a b))):=by
 unfold fY iW;let d:=fy a;let ct:mL (sD b) S (M (a.length:Int))=-(sD (b.take a.length)):=by ext sD;rw[wq,Wv]
 let eq:=nG (b.take a.length) a;show gW (ρ:=[-(sD a),-(sD b)]) W (bZ (cN (b:=bg a b) (ji (rv:=.fz (sD (b.take a.length))) (ae W) dX (b5 (cJ (rv:=.fz (nd a.length)) (ah (ae W) aw) W d) W) W ct) (ae W) W W eq) W W)
def sA(b:Rs)(n:Nat):mL (sD b) (M (n:Int)) S=-(sD (b.drop n)):=by ext sD;rw[tX,WX]
def Ny{a b:G Nat}(e:∀c∈a,c<1114112)(d:∀c∈b,c<1114112):tw (tD a) (tD b)=-(.bool (!decide (a=b))):=by unfold tw tD;rw[ai,mM];ext AJ;rw[SR.canLay0,SR.canLay0,lW e,lW d];rfl
def wN{B:G Wd}{i:Nat}{d:D}(h:(B.map wD)[i]?=M d):∃e,B[i]?=M e/\d=wD e:=by rw[S3]at h;let(e,h1,a):=Uj.mp h;show#[e,h1,a.symm]
def ko{α:Type}{l:G α}{i:Nat}{e:α}(h:l[i]?=M e):l.take (i+1)=l.take i++[e]:=by rw[X9,h];rfl
theorem oM{α a:Type}(f:α->I a)(l:G α):(l.filterMap f).length<=l.length:=List.length_filterMap_le f l
def D6{α a:Type}(f:α->I a)(x:α):[x].filterMap f=match f x with|some w=>[w]|none=>[]:=by rw[Vn,aao];cases f x<;>rfl
theorem nW{α a:Type}(f:α->G a)(n:Nat)(h:∀x,(f x).length<=n):∀l:G α,(l.flatMap f).length<=n*l.length
 |[]=>by simp
 |x::r=>by let:=nW f n h r;let:=h x;rw[aaF,SQ,S0,Nat.mul_add,Nat.mul_one];ext
def wL{B:G Wd}(b:BB B):(b7 B).length<=400:=by let:=nW (λe=>B.filterMap (aZ e)) B.length (λe=>oM _ _) B;let a:=b.ZF;let:B.length*B.length<=20*20:=WO a a;ext b7;ext
def E3{B:cb Wd}(m:BB B):d8 [aB B]=.ok (.ow ((b7 B).map br)):=by
 show gW (ρ:=[-(aB B),S,S,S,S,S]) W ?_;ext dZ;show aJ (pv:=.ow []) (ρ3:=[-(aB B),cL (.ow []),S,S,S,S]) (by walk_at "evp") W W ?_;show eg (λi L=>∃o n g a,L=[-(aB B),cL (.ow (((B.take i).flatMap λe=>B.filterMap (aZ e)).map br)),o,n,g,a]) (ds:=B.map wD) (ρ1:=[-(aB B),cL (.ow []),S,S,S,S]) (gj (d:=aB B) (ae W) W W) #[S,S,S,S,W] ?_ ?_
 .rintro i d L p ⟨o,n,g,a,rfl⟩
  let(e,t,rfl):=wN p;let C:=Te t;show#[_,W,?_];let E:((B.take i).flatMap λe=>B.filterMap (aZ e)).length<=400:=by
   let h1:=nW (λe=>B.filterMap (aZ e)) B.length (λe=>oM _ _) (B.take i);let v:=m.ZF;let u:(B.take i).length<=20:=by rw[T7];ext
   let:B.length*(B.take i).length<=20*20:=WO v u;ext
  let z:(B.take (i+1)).flatMap (λe=>B.filterMap (aZ e))=((B.take i).flatMap λe=>B.filterMap (aZ e))++B.filterMap (aZ e):=by rw[ko t,List.flatMap_append];simp
  generalize ((B.take i).flatMap λe=>B.filterMap (aZ e))=P at E z;show wm (λj L=>∃g a,L=[-(aB B),cL (.ow ((P++(B.take j).filterMap (aZ e)).map br)),-(tD e.1),-(sD e.2),g,a]) (ds:=B.map wD) (ρ1:=[-(aB B),cL (.ow (P.map br)),-(tD e.1),-(sD e.2),g,a]) (gj (d:=aB B) (ae W) W W) #[g,a,by rw[XA,aao,TC]] ?_ ?_
  .rintro j d L p ⟨g,a,rfl⟩
   let(f,r,rfl):=wN p;let A:=Te r;show#[_,W,?_];let l:P++(B.take (j+1)).filterMap (aZ e)=P++(B.take j).filterMap (aZ e)++(match aZ e f with|some w=>[w]|none=>[]):=by rw[ko r,Zz,Tz];rw[D6];cases aZ e f<;>rfl
   let F:(P++(B.take j).filterMap (aZ e)).length<=420:=by
    let h1:=oM (aZ e) (B.take j);let v:=m.ZF;let u:(B.take j).length<=20:=by rw[T7];ext
    rw[SQ];ext
   generalize P++(B.take j).filterMap (aZ e)=M at l F;let ne:=Ny (m.wc e C) (m.wc f A);let I:=kX e.2 f.2;show lU (b:= !decide (e.1=f.1)&&bg e.2 f.2) (sf (aV (cN (ae W) (ae W) W W ne) W) λ_=>aV (gX (ah (ae W) (ah (ae W) aw)) W W I) W) (λh=>?_) λh=>?_
   .rw[Ld,We,decide_eq_false_iff_not]at h
    let q:aZ e f=cL #[f.2.length,f.2.drop e.2.length,[f.1],[e.1]]:=by ext aZ;rw[ai h]
    rw[q]at l;let l1:=fy f.2;let G:=fy e.2;let ct:=sA f.2 e.2.length;show fK (gF (d:=br #[f.2.length,f.2.drop e.2.length,[f.1],[e.1]]) (x:=[-(aB B),cL (.ow (M.map br++[br #[f.2.length,f.2.drop e.2.length,[f.1],[e.1]]])),-(tD e.1),-(sD e.2),-(tD f.1),-(sD f.2)]) W (dI (ds:=[nd f.2.length,sD (f.2.drop e.2.length),.tuple [tD f.1],.tuple [tD e.1]]) (ah (cJ (rv:=.fz (nd f.2.length)) (ah (ae W) aw) W l1) (ah (ji (rv:=.fz (sD (f.2.drop e.2.length))) (ae W) (b5 (cJ (rv:=.fz (nd e.2.length)) (ah (ae W) aw) W G) W) dX W ct) (ah (dI (ds:=[tD f.1]) (ah (ae W) aw) W (TH W)) (ah (dI (ds:=[tD e.1]) (ah (ae W) aw) W (TH W)) aw)))) W (TH W)) W W (by rw[SI];ext) W) #[_,_,by rw[l,Tj];rfl]
   .let q:aZ e f=S:=by
     ext aZ;rw[ak];rintro⟨h1,H⟩;rw[a7 h1,H]at h;ext h
    rw[q]at l;show ik #[_,_,by rw[l,TC];rfl]
  .rintro L ⟨g,a,rfl⟩;show#[-(tD e.1),-(sD e.2),g,a,?_];rw[z,SI,Uu]
 .rintro L ⟨o,n,g,a,rfl⟩;rw[SI,Uu];show bZ (dW W) W W
theorem Op(w:Wy):dJ (br w) (.int 0)=-(nd w.p)/\dJ (br w) (.int 1)=-(sD w.r)/\dJ (br w) (.int 2)=-(.tuple (w.lo.map tD))/\dJ (br w) (.int 3)=-(.tuple (w.sh.map tD)):=#[W,W,W,W]
theorem Bu(a b:Nat):bB (nd a) (nd b)=-(nd (a+b)):=W
def Hz{B:cb Wd}(G:BB B){w:Wy}(h1:w.sh≠[])(Q:w.sh.length<=1000):eX [aB B,br w]=.ok (.ow ((cO B w).map br)):=by
 let(u,t,o,n):=Op w;show gW (ρ:=[-(aB B),-(br w),S,S,S,S,S,S]) W ?_;ext eV;show aJ (pv:=.fz (nd w.p)) (ρ3:=[-(aB B),-(br w),-(nd w.p),S,S,S,S,S]) (aM (rv:=.fz (nd w.p)) (ae W) bh W W u) W W ?_;show aJ (pv:=.fz (sD w.r)) (ρ3:=[-(aB B),-(br w),-(nd w.p),-(sD w.r),S,S,S,S]) (aM (rv:=.fz (sD w.r)) (ae W) bh W W t) W W ?_;let H:=nG w.r [];show jN (b:=decide (w.r=[])) (aV (cN (dy:=sD []) (ae W) (dI (ds:=[]) aw W (TX _)) W W H) W) (λa=>?_) λa=>cX ?_
 .let e:cO B w=[]:=by ext cO;rw[ai (a8 a)]
  rw[e];show nz (pv:=.ow []) (by walk_at "evp") W W
 let I:cO B w=B.filterMap (nx w):=by ext cO;rw[ak (of_decide_eq_false a)]
 rw[I];show aJ (pv:=.ow []) (ρ3:=[-(aB B),-(br w),-(nd w.p),-(sD w.r),cL (.ow []),S,S,S]) (by walk_at "evp") W W ?_;show eg (λi p=>∃l j h,p=[-(aB B),-(br w),-(nd w.p),-(sD w.r),cL (.ow (((B.take i).filterMap (nx w)).map br)),l,j,h]) (ds:=B.map wD) (ρ1:=[-(aB B),-(br w),-(nd w.p),-(sD w.r),cL (.ow []),S,S,S]) (gj (d:=aB B) (ae W) W W) #[S,S,S,W] ?_ ?_
 .rintro i d p F ⟨l,j,h,rfl⟩
  let(e,E,rfl):=wN F;show#[_,W,?_];let f:(B.take (i+1)).filterMap (nx w)=(B.take i).filterMap (nx w)++(match nx w e with|some w=>[w]|none=>[]):=by rw[ko E,Zz];rw[D6];cases nx w e<;>rfl
  let v:((B.take i).filterMap (nx w)).length<=20:=by let h1:=oM (nx w) (B.take i);let P:=G.ZF;rw[T7]at h1;ext
  generalize (B.take i).filterMap (nx w)=M at f v;let N:=kX e.2 w.r;let L:=kX w.r e.2;let l1:=fy e.2;let C:=fy w.r;let K:=sA w.r e.2.length;let J:=sA e.2 w.r.length;let A:=fy (e.2.drop w.r.length);let q:bB (.tuple (w.sh.map tD)) (.tuple [tD e.1])=-(.tuple ((w.sh++[e.1]).map tD)):=by show(if w.sh.map tD≠[]/\(w.sh.map tD).length+1<=1000000 then _ else _)=_;rw[ai #[by intro z;show h1 (List.map_eq_nil_iff.mp z),by rw[SI];ext],Tj];rfl
  let O:=Bu w.p (e.2.drop w.r.length).length;show lU (b:=bg e.2 w.r) (aV (gX (ah (ae W) (ah (ae W) aw)) W W N) W) (λa=>?_) λa=>?_
  .let g:nx w e=cL #[w.p,w.r.drop e.2.length,w.lo,w.sh++[e.1]]:=by ext nx;rw[ai a]
   rw[g]at f;show fK (gF (d:=br #[w.p,w.r.drop e.2.length,w.lo,w.sh++[e.1]]) (x:=[-(aB B),-(br w),-(nd w.p),-(sD w.r),cL (.ow (M.map br++[br #[w.p,w.r.drop e.2.length,w.lo,w.sh++[e.1]]])),-(tD e.1),-(sD e.2),h]) W (dI (ds:=[nd w.p,sD (w.r.drop e.2.length),.tuple (w.lo.map tD),.tuple ((w.sh++[e.1]).map tD)]) (ah (ae W) (ah (ji (rv:=.fz (sD (w.r.drop e.2.length))) (ae W) (b5 (cJ (rv:=.fz (nd e.2.length)) (ah (ae W) aw) W l1) W) dX W K) (ah (aM (rv:=.fz (.tuple (w.lo.map tD))) (ae W) bh W W o) (ah (aM (rv:=.fz (.tuple ((w.sh++[e.1]).map tD))) (dx:=.tuple (w.sh.map tD)) (dy:=.tuple [tD e.1]) (aM (rv:=.fz (.tuple (w.sh.map tD))) (ae W) bh W W n) (dI (ds:=[tD e.1]) (ah (ae W) aw) W (TH W)) W W q) aw)))) W (TH W)) W W (by rw[SI];ext) W) #[_,_,_,by rw[f,Tj];rfl]
  .show lU (b:=bg w.r e.2) (aV (gX (ah (ae W) (ah (ae W) aw)) W W L) W) (λm=>?_) λm=>?_
   .let g:nx w e=cL #[w.p+(e.2.drop w.r.length).length,e.2.drop w.r.length,w.sh++[e.1],w.lo]:=by ext nx;rw[ak (by rw[a];simp),ai m]
    rw[g]at f;show aJ (pv:=.fz (sD (e.2.drop w.r.length))) (ρ3:=[-(aB B),-(br w),-(nd w.p),-(sD w.r),cL (.ow (M.map br)),-(tD e.1),-(sD e.2),-(sD (e.2.drop w.r.length))]) (ji (rv:=.fz (sD (e.2.drop w.r.length))) (ae W) (b5 (cJ (rv:=.fz (nd w.r.length)) (ah (ae W) aw) W C) W) dX W J) W W ?_;show fK (gF (d:=br #[w.p+(e.2.drop w.r.length).length,e.2.drop w.r.length,w.sh++[e.1],w.lo]) (x:=[-(aB B),-(br w),-(nd w.p),-(sD w.r),cL (.ow (M.map br++[br #[w.p+(e.2.drop w.r.length).length,e.2.drop w.r.length,w.sh++[e.1],w.lo]])),-(tD e.1),-(sD e.2),-(sD (e.2.drop w.r.length))]) W (dI (ds:=[nd (w.p+(e.2.drop w.r.length).length),sD (e.2.drop w.r.length),.tuple ((w.sh++[e.1]).map tD),.tuple (w.lo.map tD)]) (ah (aM (rv:=.fz (nd (w.p+(e.2.drop w.r.length).length))) (ae W) (cJ (rv:=.fz (nd (e.2.drop w.r.length).length)) (ah (ae W) aw) W A) W W O) (ah (ae W) (ah (aM (rv:=.fz (.tuple ((w.sh++[e.1]).map tD))) (dx:=.tuple (w.sh.map tD)) (dy:=.tuple [tD e.1]) (aM (rv:=.fz (.tuple (w.sh.map tD))) (ae W) bh W W n) (dI (ds:=[tD e.1]) (ah (ae W) aw) W (TH W)) W W q) (ah (aM (rv:=.fz (.tuple (w.lo.map tD))) (ae W) bh W W o) aw)))) W (TH W)) W W (by rw[SI];ext) W) #[_,_,_,by rw[f,Tj];rfl]
   .let g:nx w e=S:=by ext nx;rw[ak (by rw[a];simp),ak (by rw[m];simp)]
    rw[g]at f;show ik #[_,_,_,by rw[f,TC];rfl]
 .rintro p ⟨l,j,h,rfl⟩;rw[SI,Uu];show bZ (dW W) W W
def Rf:I D->SV->SV
 |some d,_=>.fz d
 |none,z=>z
section
variable{ρ N:aH}{ω X Q P:aI}{x y z:SV}{i:Nat}{d:D}{Y:cb (D×D)}
def jk(h:ω[i]?=M (.dd Y)):gA ω (.rf i)=M (i,Y):=by ext gA;dsimp only;rw[h]
def mN(a:fk ρ ω=.ok x X)(hd:fd ρ X=.ok (.rf i) Q)(h1:gM x=M k)(b:Q[i]?=M (.dd Y)):jL neg fk fd ρ ω=.ok (.fz (.bool ((bx Y k).isSome !=neg))) Q:=by ext jL;rw[a,eJ,hd,eJ,h1];show((RS.T6 Q (gA Q (.rf i))).bind _)=_;rw[jk b];rfl
def oE(hd:fd ρ ω=.ok (.rf i) X)(a:fk ρ X=.ok x Q)(h1:gM x=M k)(e:Q[i]?=M (.dd Y))(b:bx Y k=M d):gv fd fk ρ ω=.ok (.fz d) Q:=by ext gv;rw[hd,eJ,a,eJ,h1];show((RS.T6 Q (gA Q (.rf i))).bind _)=_;rw[jk e];show((RS.T6 Q (bx Y k)).bind _)=_;rw[b];rfl
def uF(a:o ρ ω=.ok (.fz d) X)(hd:fd ρ X=.ok (.rf i) Q)(e:fk ρ Q=.ok x P)(h1:gM x=M k)(f:P[i]?=M (.dd Y))(b:Y.length<1000000):lF fd fk o ρ ω=.ok (.nx ρ) (P.set i (.dd (ja Y k d))):=by ext lF;rw[a,eJ,hd,eJ,e,eJ,h1];show((RS.T6 P (gA P (.rf i))).bind _)=_;rw[jk f];show(if Y.length<1000000 then _ else _)=_;rw[ai b]
def Ap{fd fk fx:bQ}{k:D}{a:G (D×D)}(hd:fd ρ ω=.ok (.rf i) X)(h0:X[i]?=M (.dd a))(e:fk ρ X=.ok x Q)(b:fx ρ Q=.ok z P)(h1:gM x=M k)(f:P[i]?=M (.dd Y)):kK fd fk fx ρ ω=.ok (Rf (bx Y k) z) P:=by ext kK;rw[hd,eJ,jk h0];show((fk ρ X).bind _)=_;rw[e,eJ,b,eJ,h1];show((RS.T6 P (gA P (.rf i))).bind _)=_;rw[jk f];show RS.ok (match bx Y k with|some d=>SV.fz d|none=>z) P=_;cases bx Y k<;>rfl
def Ek{fd fk:bQ}{k:D}{a:G (D×D)}(hd:fd ρ ω=.ok (.rf i) X)(h0:X[i]?=M (.dd a))(b:fk ρ X=.ok x Q)(h1:gM x=M k)(f:Q[i]?=M (.dd Y))(e:bx Y k=M d):nr fd fk ρ ω=.ok (.fz d) (Q.set i (.dd (jX Y k))):=by ext nr;rw[hd,eJ,jk h0];show((fk ρ X).bind _)=_;rw[b,eJ,h1];show((RS.T6 Q (gA Q (.rf i))).bind _)=_;rw[jk f];show((RS.T6 Q (bx Y k)).bind _)=_;rw[e];rfl
def Ht{fd:bQ}(hd:fd ρ ω=.ok (.rf i) X)(a:X[i]?=M (.dd Y)):qG fd ρ ω=.ok (.fz (.bool (!Y.isEmpty))) X:=by ext qG;rw[hd,eJ,jk a];rfl
def C3{fd:bQ}(hd:fd ρ ω=.ok (.rf i) X)(b:X[i]?=M (.dd Y))(a:LD.okO (Y.map (·.2))=U)(hm:(Y.map (·.2))[LD.minI (Y.map (·.2))]?=M d):oh fd ρ ω=.ok (.fz d) X:=by ext oh;rw[hd,eJ,jk b];show(if LD.okO (Y.map (·.2))=U then((RS.T6 X ((Y.map (·.2))[LD.minI (Y.map (·.2))]?)).bind _)else _)=_;rw[ai a,hm];rfl
def kL(c:o ρ ω=.ok xs X)(b:xs.length=n)(a:F xs X=.ok x Q):jf F n o ρ ω=.ok x Q:=by ext jf;rw[c,eJ,ai b,a,oX]
end
def dS(M:Mp):G (D×D):=M.map λq=>(sD q.1,br q.2)
def gH(a b:Rs):SR.eqv (sD a) (sD b)=decide (a=b):=by ext sD;rw[SR.eqv];show qK a b
def gY(M:Mp)(r:Rs):bx (dS M) (sD r)=(eC M r).map br:=by
 unfold bx eC dS
 induction M with
 |nil=>rfl
 |cons q M a=>
  rw[SX,Tu,Tu,gH];by_cases e:q.1=r
  .rw[a6 e];rfl
  .rw[a7 e];show a
def Bb(M:Mp)(r:Rs):((dS M).find? λb=>SR.eqv b.1 (sD r)).isSome=(M.find? λq=>decide (q.1=r)).isSome:=by
 ext dS
 induction M with
 |nil=>rfl
 |cons q M a=>
  rw[SX,Tu,Tu,gH];by_cases e:q.1=r
  .rw[a6 e];rfl
  .rw[a7 e];show a
def yU(M:Mp)(r:Rs)(w:Wy):ja (dS M) (sD r) (br w)=dS (jY M r w):=by
 unfold ja jY;rw[Bb];split
 .ext dS
  rw[T1,T1];apply XJ;intro q _;show(if SR.eqv (sD q.1) (sD r)=U then(sD q.1,br w)else(sD q.1,br q.2))=_;rw[gH];by_cases e:q.1=r
  .rw[ai (a6 e)];show _=(sD (if q.1=r then(q.1,w)else q).1,br (if q.1=r then(q.1,w)else q).2);rw[ai e]
  .rw[ak (by simpa using e)];show _=(sD (if q.1=r then(q.1,w)else q).1,br (if q.1=r then(q.1,w)else q).2);rw[ak e]
 .ext dS;rw[Tj];rfl
def B4(M:Mp)(r:Rs):jX (dS M) (sD r)=dS (gk M r):=by unfold jX gk dS;rw[List.filter_map];congr 1;apply List.filter_congr;intro q _;show(!SR.eqv (sD q.1) (sD r))=_;rw[gH]
theorem yY:∀l:G Int,LD.kds (l.map SR.int)=U
 |[]=>by rw[TZ,LD.kds]
 |i::r=>by rw[SX,LD.kds,LD.kd,yY r];rfl
theorem JL:∀l:Rs,LD.kds (l.map kD)=U
 |[]=>by rw[TZ,LD.kds]
 |i::r=>by rw[SX,LD.kds,JL r];ext kD;rw[LD.kd,yY];rfl
def fC(r:Rs):gM (.fz (sD r))=M (sD r):=by show(if LD.keyD (sD r)=U then M (sD r)else S)=_;rw[ai];ext sD;rw[LD.keyD,JL,VA];apply a6;rw[SR.depth];let:=oS r;ext
theorem kI:∀{L:G (G Nat)},(∀l∈L,∀c∈l,c<1114112)->SR.canLayAll0 (L.map tD)=U
 |[],_=>by rw[TZ,SR.canLayAll0]
 |l::r,h=>by rw[SX,SR.canLayAll0,kI λx a=>h x (S5 _ a)];ext tD;rw[SR.canLay0,lW (h l (Ta ..))];rfl
theorem mP:∀L:G (G Nat),SR.depthAll (L.map tD)=0
 |[]=>by rw[TZ,SR.depthAll]
 |l::r=>by rw[SX,SR.depthAll,mP r];ext tD;rw[SR.depth];rfl
def jE(L:G (G Nat)):Prop:=∀l∈L,∀c∈l,c<1114112
theorem eA{B:G Wd}(f:BB B){L:G (G Nat)}(h:iK B L):jE L:=λl a c d=>by let(e,b,rfl):=S7.mp (h l a);show f.wc e b c d
def LY{w:Wy}(h1:jE w.lo)(a:jE w.sh):(br w).canLay0=U/\(br w).depth<=32:=by
 unfold br sD nd;constructor
 .rw[SR.canLay0,SR.canLayAll0,SR.canLayAll0,SR.canLayAll0,SR.canLayAll0,SR.canLayAll0,SR.canLay0,SR.canLay0,SR.canLay0,SR.canLay0,o0,kI h1,kI a];rfl
 .rw[SR.depth,SR.depthAll,SR.depthAll,SR.depthAll,SR.depthAll,SR.depthAll,SR.depth,SR.depth,SR.depth,SR.depth,mP,mP];let:=oS w.r;ext
def Dm{L:G Wy}(h:∀w∈L,jE w.lo/\jE w.sh):LD.okO (L.map br)=U:=by ext LD.okO;rw[TR];intro a i;let(w,d,rfl):=S7.mp i;let(h1,g):=LY (h w d).1 (h w d).2;rw[h1,a6 g,VA,VA,TR];intro b f;let(v,_,rfl):=S7.mp f;let(r,e,_):=EJ w v;rw[e];rfl
theorem yR(L:G Wy):∀k,k<L.length->∃(m:Nat) (b:Wy),argBest (LD.btD (L.map br)) k=m/\m<=k/\L[m]?=M b/\∀(j:Nat) (w:Wy),j<=k->L[j]?=M w->b.p<=w.p
 |0,h=>#[0,L[0],W,SN _,Tc h,λj w f e=>by
   let:j=0:=by ext
   subst this;rw[Tc h]at e;ext e;show SN _]
 |k+1,h=>by
  let(m,b,e1,e2,e3,e4):=yR L k ();let a:L[k+1]?=M L[k+1]:=Tc h;let g:LD.btD (L.map br) (k+1) m=(LD.ltd (br L[k+1]) (br b)).getD SW:=by ext LD.btD;rw[VR,VR,S3,S3,a,e3];rfl
  let(r,n,l,i):=EJ L[k+1] b;rw[n]at g;let d:argBest (LD.btD (L.map br)) (k+1)=if r=U then k+1 else m:=by show(if LD.btD (L.map br) (k+1) (argBest (LD.btD (L.map br)) k)=U then k+1 else argBest (LD.btD (L.map br)) k)=_;rw[e1,g];rfl
  cases r with
  |true=>
   rw[ai W]at d;show#[k+1,L[k+1],d,SN _,a,λj w f e=>?_];by_cases z:j=k+1
   .subst z;rw[a]at e;ext e;show SN _
   .show S9 (l W) (e4 j w () e)
  |false=>
   rw[ak (by simp)]at d;show#[m,b,d,by ext,e3,λj w f e=>?_];by_cases z:j=k+1
   .subst z;rw[a]at e;ext e;show i W
   .show e4 j w () e
def Ly{O:Mp}(f:O≠[]):∃b∈O,((dS O).map (·.2))[LD.minI ((dS O).map (·.2))]?=M (br b.2)/\∀q∈O,b.2.p<=q.2.p:=by
 let g:(dS O).map (·.2)=(O.map (·.2)).map br:=by ext dS;rw[T1,T1];rfl
 rw[g];let h:0<O.length:=List.length_pos_iff.mpr f;let(m,b,e1,e2,e3,e4):=yR (O.map (·.2)) (O.length - 1) (by rw[SI];ext);rw[S3]at e3;let(q,a,rfl):=Uj.mp e3;show#[q,Te a,?_,λz e=>?_]
 .ext LD.minI;rw[SI,SI,e1,S3,S3,a];rfl
 .let(j,d):=Wm.mp e;let:=(SK.mp d).1;show e4 j z.2 () (by rw[S3,d];rfl)
def mI(M:Mp):(dS M).length=M.length:=by ext dS;rw[SI]
def BF(M:Mp)(r:Rs)(w:Wy):(jY M r w).length<=M.length+1:=by
 ext jY;split
 .rw[SI];ext
 .rw[SQ];show SN _
theorem tL:∀(ws:G Wy) (O:Mp),(gI O ws).length<=O.length+ws.length
 |[],O=>SN _
 |w::ws,O=>by let h1:=tL ws (j4 O w);let a:=BF O w.r (kE w ((eC O w.r).getD w));show(gI (j4 O w) ws).length<=_;unfold j4 at h1⊢;rw[S0];ext
theorem fA{α:Type}{l:G α}{i j:Nat}{x:α}(h:i≠j):(l.set i x)[j]?=l[j]? :=VQ h
def mY{α:Type}{l:G α}{i:Nat}{x y:α}(h:l[i]?=M y):(l.set i x)[i]?=M x:=by rw[Vv (SK.mp h).1]
def B1{α:Type}{l:G α}{i:Nat}{x:α}(h:l[i]?=M x):l.set i x=l:=by let(a,rfl):=SK.mp h;show List.set_getElem_self a
def vB{α b:Type}(f:α->b->α)(a:α)(l:G b)(x:b):(l++[x]).foldl f a=f (l.foldl f a) x:=by rw[aaD];rfl
def Kf{L:G Wy}{i:Nat}{d:D}(h:(L.map br)[i]?=M d):∃w,L[i]?=M w/\d=br w:=by rw[S3]at h;let(e,h1,a):=Uj.mp h;show#[e,h1,a.symm]
theorem G8{O:Mp}{w:Wy}(a:jE w.lo/\jE w.sh)(d:∀q∈O,jE q.2.lo/\jE q.2.sh):∀q∈j4 O w,jE q.2.lo/\jE q.2.sh:=λq b=>by
 rcases kJ b with e|e
 .subst e;show a
 .show d q e
theorem ve:∀{ws:G Wy} {O:Mp},(∀w∈ws,jE w.lo/\jE w.sh)->(∀q∈O,jE q.2.lo/\jE q.2.sh)->∀q∈gI O ws,jE q.2.lo/\jE q.2.sh
 |[],_,_,h=>h
 |w::ws,O,hw,b=>ve (ws:=ws) (O:=j4 O w) (λz a=>hw z (S5 _ a)) (G8 (hw w (Ta ..)) b)
def uA{O:Mp}{ws:cb Wy}{ω:aI}{i j:Nat}(b:i≠j)(c:ω[i]?=cL (.dd (dS O)))(I:ω[j]?=cL (.lst ((ws.map br).map .fz)))(C:∀w∈ws,jE w.lo/\jE w.sh)(M:∀q∈O,jE q.2.lo/\jE q.2.sh)(S:O.length+ws.length<=1000):
  kr [.rf i,.rf j] ω=.ok (.fz .none) ((ω.set j .dead).set i (.dd (dS (gI O ws)))):=by
 let(x,a,e,rfl,rfl):=jU (n:=4) (g:=jv) (xs:=[.rf i,.rf j]) (ω:=ω) (ρ:=[cL (.rf i),cL (.rf j),CL,CL]) (T:=λx a=>x=.fz .none/\a=(ω.set j .dead).set i (.dd (dS (gI O ws)))) W (by
  ext jv;show lL (λn r a=>(∃m l,r=[cL (.rf i),cL (.rf j),m,l])/\a=(ω.set j .dead).set i (.dd (dS (gI O (ws.take n))))) (ds:=ws.map br) (ω1:=ω.set j .dead) (Ma (i:=j) (aP W) I) #[#[CL,CL,W],?_] ?_ ?_
  .rw[XA];show ω.set j .dead=(ω.set j .dead).set i (.dd (dS O));let h:(ω.set j .dead)[i]?=cL (.dd (dS O)):=(fA (dt b)).trans c;show(B1 h).symm
  .rintro n d r a K ⟨⟨m,l,rfl⟩,rfl⟩
   let(w,A,rfl):=Kf K;let U:=(SK.mp A).1;let f:=ve (ws:=ws.take n) (O:=O) (λw hm=>C w (Wx hm)) M;let p:(gI O (ws.take n)).length<=1000:=by let:=tL (ws.take n) O;rw[T7]at this;ext
   let N:gI O (ws.take (n+1))=j4 (gI O (ws.take n)) w:=by rw[ko A];ext gI;rw[vB]
   rw[N];generalize gI O (ws.take n)=P at f p;let t:((ω.set j .dead).set i (.dd (dS P)))[i]?=cL (.dd (dS P)):=mY ((fA (dt b)).trans c);show#[[cL (.rf i),cL (.rf j),-(br w),l],_,W,?_];let F:=(Op w).2.1;show bA (x:=.fz (sD w.r)) (ω1:=(ω.set j .dead).set i (.dd (dS P))) (ρ1:=[cL (.rf i),cL (.rf j),-(br w),-(sD w.r)]) (ar (aM (rv:=.fz (sD w.r)) (ae W) bh W W F)) W ?_;let B:=C w (Te A);let J:∃v:Wy,Rf (bx (dS P) (sD w.r)) (.fz (br w))=.fz (br v)/\v=(eC P w.r).getD w/\jE v.lo/\jE v.sh:=by
    rw[gY];cases g:eC P w.r with
    |none=>show#[w,W,W,B]
    |some v=>show#[v,W,W,f _ (iT g)]
   let(v,ev,u,Q):=J;let E:=Ap (ρ:=[cL (.rf i),cL (.rf j),-(br w),-(sD w.r)]) (fd:=aX 0) (fk:=am (aa 3)) (fx:=am (aa 2)) (aP W) t (ar (ae W)) (ar (ae W)) (fC w.r) t;rw[ev]at E;let G:u8 [br w,br v]=-(br (kE w v)):=by
    let H:LD.okO [br w,br v]=SJ:=Dm (L:=[w,v]) λz o=>by
     rcases Tf.mp o with e|o
     .subst e;show B
     .rw[S6.mp o];show Q
    show(if LD.okO [br w,br v]=SJ then cL (RV.fz (if LD.ltd (br v) (br w)=cL SJ then br v else br w))else CL)=_;rw[ai H];ext kE;split<;>rfl
   show p9 (uF (d:=br (kE w v)) (k:=sD w.r) (Jx (xs:=[.fz (br w),.fz (br v)]) (ds:=[br w,br v]) (aF (ar (ae W)) (aF E bJ)) W G) (aP W) (ar (ae W)) (fC w.r) t (by rw[mI];ext)) #[#[_,_,W],?_];rw[List.set_set,yU];ext j4;rw[<-u]
  .rintro r a ⟨⟨m,l,rfl⟩,rfl⟩;rw[SI,Uu];show#[W,W])
 show e
def P8(B:G Wd)(W:Mp)(w:Wy):Prop:=w∈b7 B\/∃a∈W,w∈cO B a.2
inductive Rc(B:G Wd):Wy->Prop
 |fst {w}:w∈b7 B->Rc B w
 |nxt {a w}:Rc B a->w∈cO B a->Rc B w
structure Bd(B:G Wd)(W O:Mp):Prop where
 w:∀q∈W,q.2.p<=6+6*W.length
 o:∀q∈O,q.2.p<=6+6*W.length
 gw:∀q∈W,P8 B W q.2/\Rc B q.2
 go:∀q∈O,P8 B W q.2/\Rc B q.2
theorem nV{B:G Wd}(b:BB B):∀{L:G (G Nat)},iK B L->L.length<=(wr B L).length
 |[],_=>TX _
 |w::L,h=>by let(s,a):=gg (h w (Ta ..));let h1:1<=s.length:=b.s1 _ (cU a);let e:=nV b (L:=L) λz d=>h z (S5 _ d);rw[dD,a,S0,SQ];show L.length+1<=s.length+_;ext
def sj{B:G Wd}(a:BB B){q:Rs×Wy}(h:Ok1 B q):q.2.lo.length<=q.2.p/\q.2.sh.length<=q.2.p:=by let h1:=nV a h.i;let d:=nV a h.j;let b:=eh UQ h.e;rw[SQ]at b;let:=h.p;ext
def Km{B:G Wd}(d:BB B){a w:Wy}(h:w∈cO B a):w.p<=a.p+6:=by
 unfold cO at h;split at h
 .ext h
 .let(e,b,h):=Uq.mp h
  let f:=d.s6 e b;unfold nx at h;split at h
  .ext h;show Yp _ _
  .split at h
   .ext h;show a.p+(e.2.drop a.r.length).length<=_;rw[Ut];ext
   .ext h
theorem i6:∀{ws:G Wy} {O:Mp} {q:Rs×Wy},q∈gI O ws->q∈O\/∃w∈ws,q=(w.r,w)
 |[],_,_,h=>.inl h
 |w::ws,O,q,h=>by
  rcases i6 (ws:=ws) (O:=j4 O w) h with h|⟨z,a,e⟩
  .rcases kJ h with e|e
   .show .inr #[w,Ta ..,e]
   .show .inl e
  .show .inr #[z,S5 _ a,e]
theorem Ar{B:G Wd}(g:BB B):∀q∈gI [] (b7 B),q.2.p<=6+6*([]:Mp).length:=λq b=>by
 rcases i6 b with h|⟨w,a,rfl⟩
 .ext h
 .let(e,i,a):=Xg.mp a
  let(f,d,a):=Uq.mp a;unfold aZ at a;split at a
  .ext a;let:=g.s6 f d;show f.2.length<=6+6*0;ext
  .ext a
theorem BI{B:G Wd}(b:BB B):Bd B [] (gI [] (b7 B)):=#[λ_ z=>(by ext z),(Ar b),λ_ z=>(by ext z),λq a=>by
 rcases i6 a with h|⟨w,hw,rfl⟩
 .ext h
 .show#[.inl hw,.fst hw]]
def HV{B:G Wd}(j:BB B){W O:Mp}(h:Bd B W O){b:Rs×Wy}(c:b∈O):Bd B (W++[b]) (gI (gk O b.1) (xt B W b)):=by
 let g:(W++[b]).length=W.length+1:=by rw[SQ];rfl
 let f:∀{w:Wy},P8 B W w->P8 B (W++[b]) w:=λh=>h.imp id λ#[a,h1,i]=>#[a,Uk _ h1,i];show#[λq d=>?_,λq d=>?_,λq d=>?_,λq d=>?_]
 .rw[g]
  rcases Th.mp d with d|d
  .let:=h.w q d;ext
  .rw[S6.mp d];let:=h.o b c;ext
 .rw[g]
  rcases i6 d with d|⟨w,e,rfl⟩
  .let:=h.o q (Um.mp d).1;ext
  .let h1:=Km j (Um.mp e).1;let i:=h.o b c;show w.p<=_;ext
 .rcases Th.mp d with d|d
  .show#[f (h.gw q d).1,(h.gw q d).2]
  .rw[S6.mp d];show#[f (h.go b c).1,(h.go b c).2]
 .rcases i6 d with d|⟨w,e,rfl⟩
  .let:=h.go q (Um.mp d).1;show#[f this.1,this.2]
  .let e:=(Um.mp e).1;show#[.inr #[b,Tw _ (S6.mpr rfl),e],.nxt (h.go b c).2 e]
theorem Ms{B:G Wd}(b:BB B){W O:Mp}(h:Iv B W O):(∀q∈W,jE q.2.lo/\jE q.2.sh)/\∀q∈O,jE q.2.lo/\jE q.2.sh:=
 #[λq a=>#[eA b (h.wk q a).i,eA b (h.wk q a).j],λq a=>#[eA b (h.ok q a).i,eA b (h.ok q a).j]]
theorem vX{c:nJ}{b:fM}{N C:aH->aI->Prop}{T:SV->aI->Prop}(I:Nat->aH->aI->Prop)(f:∀m j i,I m j i->(c j i=.ok SW i/\N j i)\/(c j i=.ok U i/\Wr (b j i) (λs p=>∃k,k<m/\I k s p) (λ_ _=>False) T)):∀(n m:Nat) (j:aH) (i:aI),m<n->I m j i->Wr (ph c b n j i) N C T
 |0,m,_,_,h,_=>by ext
 |n+1,m,j,i,h,h0=>by
  rcases f m j i h0 with⟨h1,a⟩|⟨h1,a⟩
  .show#[?_];ext ph;rw[h1,eJ,ak Td];show a
  .let a:=a.out
   ext ph;show .eq (r':=(b j i).bind λe d=>match e with
    |.nx l=>ph c b n l d
    |.ct l=>ph c b n l d
    |.bk l=>.ok (.nx l) d
    |.rt x=>.ok (.rt x) d) (by rw[h1,eJ,ai W]<;>rfl) ?_
   cases q:b j i with
   |bad=>rw[q]at a;show a.elim
   |er x o=>rw[q]at a;show a.elim
   |ok e o=>
    rw[q]at a;cases e with
    |nx r=>let(k,hm,g):=a;show vX I f n k r o () g
    |ct r=>show a.elim
    |rt v=>show#[a]
    |bk r=>show a.elim
theorem jP{gt:sJ}{ft:nJ}{fe:bQ}{ω:aI}{α:Type}(e:α->D)(f:α->SV)(p:α->Bool)(I:aH->Prop):∀(xs:G α) (h:aH) (acc:G SV),I h->acc.length+xs.length<=1000000->(∀x∈xs,∀h,I h->∃c,gt (.fz (e x)) h ω=.ok c ω/\ft c ω=.ok (p x) ω/\fe c ω=.ok (f x) ω/\I c)->cF gt ft fe (xs.map e) h ω acc=.ok (acc++(xs.filter p).map f) ω
 |[],h,acc,_,_,_=>by show RS.ok acc ω=_;rw[List.filter_nil,TZ,TC]
 |x::r,h,acc,h0,l,i=>by
  let(c,h1,g,d,b):=i x Ta h h0;rw[S0]at l;show((gt (.fz (e x)) h ω).bind _)=_;rw[h1,eJ,g,eJ];cases j:p x with
  |true=>rw[ai W,d,eJ,ai (),jP e f p I r c _ b (by rw[SQ,T9];ext) λy a=>i y (S5 _ a),Uv,ai j,Tz];rfl
  |false=>rw[ak Td,jP e f p I r c _ b () λy a=>i y (S5 _ a),Uv,ak (by rw[j];show Td)]
def ya(M:Mp)(r:Rs):(eC M r).isSome=decide (r∈M.map (·.1)):=by
 ext eC;rw[U6];by_cases h:r∈M.map (·.1)
 .rw[a6 h,VH];let(q,h1,a):=S7.mp h;show#[q,h1,a6 a]
 .rw[a7 h]
  cases q:(M.find? λq=>decide (q.1=r)).isSome with
  |false=>rfl
  |true=>rw[VH]at q;let(z,h1,a):=q;show b9 (S7.mpr #[z,h1,a8 a]) h
def rM{M:Mp}(h:(M.map (·.1)).Nodup){q:Rs×Wy}(a:q∈M):eC M q.1=cL q.2:=by
 cases g:eC M q.1 with
 |none=>let:=ya M q.1;rw[g,a6 (S7.mpr #[q,a,W])]at this;ext this
 |some w=>let:=vT h a (iT g) W;rw[this]
def hW{α:Type}{l m:G α}{i:Nat}{x:α}(h:l[i]?=M x):(l++m)[i]?=M x:=by rw[Ti (SK.mp h).1];show h
theorem nZ{α:Type}{l:G α}{i:Nat}{x:α}(h:l[i]?=M x):i<l.length:=(SK.mp h).1
def Ao{B:G Wd}(a:BB B)(w:Wy):(cO B w).length<=20:=by
 ext cO;split
 .show TX _
 .show S9 (oM _ _) a.ZF
structure Tn(B:G Wd)(a b m:Nat)(ρ:aH)(ω:aI):Prop where
 ex:∃(W O:Mp) (t3:I SV),ρ=[-(aB B),M (.rf a),M (.rf b),t3]/\ω[a]?=M (.dd (dS W))/\ω[b]?=M (.dd (dS O))/\Full B W O/\Bd B W O/\m=150 - W.length
def lZ{B:cb Wd}(f:BB B)(b:aI):∃(W:Mp) (h:aI),bu [.fz (aB B)] b=.ok (.rf b.length) h/\h[b.length]?=cL (.dd (dS W))/\Full B W []/\Bd B W []:=by
 let fo:=E3 f;let(x,h,e,W,rfl,h1,N,h3):=jU (n:=4) (g:=bM) (xs:=[.fz (aB B)]) (ω:=b) (ρ:=[-(aB B),CL,CL,CL]) (T:=λx h=>∃W,x=.rf b.length/\h[b.length]?=cL (.dd (dS W))/\Full B W []/\Bd B W []) rfl (by
  ext bM;show bA (x:=.rf b.length) (ω1:=b++[.dd []]) (ρ1:=[-(aB B),cL (.rf b.length),CL,CL]) rfl rfl ?_;let l1:(b++[Cell.dd []]).length=b.length+1:=by rw[SQ];rfl
  show bA (x:=.rf (b.length+1)) (ω1:=b++[.dd []]++[.dd []]) (ρ1:=[-(aB B),cL (.rf b.length),cL (.rf (b.length+1)),CL]) (by ext oC;rw[l1]) rfl ?_;let l2:(b++[Cell.dd []]++[Cell.dd []]).length=b.length+2:=by rw[SQ,l1];rfl
  let Y:(b++[Cell.dd []]++[Cell.dd []])[b.length]?=cL (.dd (dS [])):=hW aG;let Q:(b++[Cell.dd []]++[Cell.dd []])[b.length+1]?=cL (.dd (dS [])):=by rw[<-l1];show aG
  generalize b++[Cell.dd []]++[Cell.dd []]=o at l2 Y Q;let lf:=wL f;let fl:am (bL d8 1 {aa 0}) [-(aB B),cL (.rf b.length),cL (.rf (b.length+1)),CL] o=.ok (.rf o.length) (o++[.lst (((b7 B).map br).map .fz)]):=oy (bS (rv:=.ow ((b7 B).map br)) (ah (ae rfl) aw) rfl rfl fo);let P:(o++[Cell.lst (((b7 B).map br).map .fz)])[o.length]?=cL (.lst (((b7 B).map br).map .fz)):=aG;let of:=uA (i:=b.length+1) (j:=o.length) (ω:=o++[Cell.lst (((b7 B).map br).map .fz)]) (O:=[]) (ws:=b7 B) () (hW Q) P (λw t=>#[eA f (lz f t).i,eA f (lz f t).j]) (λ_ z=>(by ext z)) (by show 0+_<=_;ext);show sS (x:=.fz .none) (kL (xs:=[.rf (b.length+1),.rf o.length]) (aF (aP rfl) (aF fl bJ)) rfl of) ?_;show fZ (vX (Tn B b.length (b.length+1)) (λm ρ ω hT=>?_) 1000000 150 _ _ () #[[],_,CL,rfl,?_,?_,Cf f,BI f,rfl])
  .let(W,O,t3,rfl,ha,F,v,M,rfl):=hT.ex
   let l16:=j6 f v.iv;let ne:=Ht (fd:=aX 2) (ρ:=[-(aB B),cL (.rf b.length),cL (.rf (b.length+1)),t3]) (aP rfl) F;cases O with
   |nil=>show .inl #[bK ne,jb (aP rfl) #[W,rfl,ha,v,M]]
   |cons S Z=>
    show .inr #[bK ne,?_];let(q,A,hm,hp):=Ly (O:=S::Z) (by simp);generalize S::Z=O at*;let(cw,X):=Ms f v.iv;let C:=v.iv.ok q A;let(_,H,_,_):=Op q.2;rw[C.k]at H;let I:LD.okO ((dS O).map (·.2))=SJ:=by
     let ec:(dS O).map (·.2)=(O.map (·.2)).map br:=by ext dS;rw[T1,T1];rfl
     rw[ec];show Dm λw t=>by let(z,L,rfl):=S7.mp t;show X z L
    show bA (x:=.fz (br q.2)) (ω1:=ω) (ρ1:=[-(aB B),cL (.rf b.length),cL (.rf (b.length+1)),-(br q.2)]) (C3 (aP rfl) F I hm) rfl ?_;let gq:bx (dS O) (sD q.1)=cL (br q.2):=by rw[gY,rM v.iv.on A];rfl
    let p:=Ek (fd:=aX 2) (fk:=am (aC dJ (aa 3) (~~~1))) (ρ:=[-(aB B),cL (.rf b.length),cL (.rf (b.length+1)),-(br q.2)]) (aP rfl) F (ar (aM (rv:=.fz (sD q.1)) (ae rfl) bh rfl rfl H)) (fC q.1) F gq;rw[B4]at p;let u:(ω.set (b.length+1) (.dd (dS (gk O q.1))))[b.length]?=cL (.dd (dS W)):=(fA ()).trans ha;let E:(ω.set (b.length+1) (.dd (dS (gk O q.1))))[b.length+1]?=cL (.dd (dS (gk O q.1))):=mY F;generalize ω.set (b.length+1) (.dd (dS (gk O q.1)))=ω2 at p u E;let nw:q.1∉W.map (·.1):=λz=>by let(a,h1,N):=S7.mp z;show v.iv.dj a h1 q A N
    let pt:=uF (fd:=aX 1) (fk:=am (aC dJ (aa 3) (~~~1))) (d:=br q.2) p (aP rfl) (ar (aM (rv:=.fz (sD q.1)) (ae rfl) bh rfl rfl H)) (fC q.1) u (by rw[mI];ext);rw[yU,Iu nw]at pt;show OU pt ?_;let l:(ω2.set b.length (.dd (dS (W++[(q.1,q.2)]))))[b.length]?=cL (.dd (dS (W++[q]))):=mY u;let G:(ω2.set b.length (.dd (dS (W++[(q.1,q.2)]))))[b.length+1]?=cL (.dd (dS (gk O q.1))):=(fA ()).trans E;generalize ω2.set b.length (.dd (dS (W++[(q.1,q.2)])))=ω3 at l G;let sl:=sj f C;let pb:=M.o q A;let J:=Hz f C.n.2 ();let nl:=Ao f q.2;let it:iI (gG (bL eX 2 {aa 0,aa 3})) [-(aB B),cL (.rf b.length),cL (.rf (b.length+1)),-(br q.2)] ω3=.ok ((cO B q.2).map br) ω3:=gQ (gj (d:=.list ((cO B q.2).map br)) (bS (rv:=.ow ((cO B q.2).map br)) (ah (ae rfl) (ah (ae rfl) aw)) rfl rfl J) rfl rfl);let U:=jP (gt:=iC 0) (ft:=cI (jL SJ (am (aC dJ (aa 0) (~~~1))) (aX 1))) (fe:=am (aa 0)) (ω:=ω3) br (λw=>SV.fz (br w)) (λn=> !decide (n.r∈(W++[q]).map (·.1))) (λρ=>∃t0,ρ=[t0,cL (.rf b.length)]) (cO B q.2) [CL,cL (.rf b.length)] [] #[CL,rfl] (by show 0+_<=_;ext) (by rintro w t ρ ⟨t0,rfl⟩;show#[[-(br w),cL (.rf b.length)],rfl,?_,ar (ae rfl),_,rfl];let:=mN (neg:=SJ) (fk:=am (aC dJ (aa 0) (~~~1))) (fd:=aX 1) (ρ:=[-(br w),cL (.rf b.length)]) (ar (aM (rv:=.fz (sD w.r)) (ae rfl) bh rfl rfl (Op w).2.1)) (aP rfl) (fC w.r) l;rw[gY,U6,ya,Y4]at this;show bK this);rw[Xp]at U;let cl:=GH (n:=1) (fj:=[1]) (ρ:=[-(aB B),cL (.rf b.length),cL (.rf (b.length+1)),-(br q.2)]) it U;let nf:(xt B W q).length<=20:=S9 (Xw _ _) nl;let P:(ω3++[Cell.lst (((cO B q.2).filter λn=> !decide (n.r∈(W++[q]).map (·.1))).map λw=>SV.fz (br w))])[ω3.length]?=cL (.lst (((xt B W q).map br).map .fz)):=by rw[T1];show aG
    let ol:(gk O q.1).length<=140:=S9 (Xw _ _) ();let K:Ok1 B (q.2.r,q.2):=by rw[C.k];show C
    let of:=uA (i:=b.length+1) (j:=ω3.length) (O:=gk O q.1) (ws:=xt B W q) (by let:=nZ G;ext) (hW G) P (λw t=>by let:=(nY f K (Um.mp t).1).1;show#[eA f this.i,eA f this.j]) (λz L=>X z (Um.mp L).1) ();show rT (x:=.fz .none) (kL (xs:=[.rf (b.length+1),.rf ω3.length]) (aF (aP rfl) (aF cl bJ)) rfl of) #[150 - (W++[q]).length,by rw[SQ,T9];ext,#[W++[q],_,_,rfl,?_,?_,IA f v A hp,HV f M A,rfl]]
    .rw[fA (),fA (by let:=nZ l;ext)];show hW l
    .show mY ((fA (by let:=nZ G;ext)).trans (hW G))
  .rw[fA (),fA ()];show hW Y
  .show mY ((fA ()).trans (hW Q)))
 show#[W,h,e,h1,N,h3]
def pB{α:Type}[DecidableEq α](lt:α->α->Bool):G α->G α->Bool
 |[],[]=>SW
 |[],_::_=>U
 |_::_,[]=>SW
 |x::xs,y::ys=>if x=y then pB lt xs ys else lt x y
structure STO{α:Type}(lt:α->α->Bool):Prop where
 irr:∀a,lt a a=SW
 tr:∀a b c,lt a b=U->lt b c=U->lt a c=U
 tot:∀a b,lt a b=SW->lt b a=SW->a=b
def STO.af6{α:Type}{lt:α->α->Bool}(h:STO lt){a b:α}(k:lt a b=U):lt b a=SW:=by
 cases q:lt b a with
 |false=>rfl
 |true=>let:=h.tr a b a k q;rw[h.irr]at this;ext this
theorem STO.lex{α:Type}[DecidableEq α]{lt:α->α->Bool}(h:STO lt):STO (pB lt) where
 irr:=λa=>by
  induction a with
  |nil=>rfl
  |cons x a f=>rw[pB,ai W];show f
 tr:=λa=>by
  induction a with
  |nil=>
   intro b c h1 d;cases b with
   |nil=>ext h1
   |cons y b=>cases c with
    |nil=>ext d
    |cons z c=>rfl
  |cons x a f=>
   intro b c h1 d;cases b with
   |nil=>ext h1
   |cons y b=>cases c with
    |nil=>ext d
    |cons z c=>
     rw[pB]at h1 d⊢;by_cases e1:x=y
     .subst e1
      rw[ai W]at h1;by_cases e2:x=z
      .rw[ai e2]at d⊢;show f b c h1 d
      .rw[ak e2]at d⊢;show d
     .rw[ak e1]at h1
      by_cases e2:y=z
      .subst e2;rw[ak e1];show h1
      .rw[ak e2]at d;let:=h.tr x y z h1 d;rw[ak (λe=>by rw[e,h.irr]at this;ext this)];show this
 tot:=λa=>by
  induction a with
  |nil=>intro b h1 _;cases b with
   |nil=>rfl
   |cons y b=>ext h1
  |cons x a f=>
   intro b h1 d;cases b with
   |nil=>ext d
   |cons y b=>
    rw[pB]at h1 d;by_cases e:x=y
    .subst e;rw[ai W]at h1 d;rw[f b h1 d]
    .rw[ak e]at h1;rw[ak (dt e)]at d;show b9 (h.tot x y h1 d) e
def P0(a b:Int):Bool:=decide (a<b)
theorem OH:STO P0 where
 irr:=λa=>a7 (Int.lt_irrefl a)
 tr:=λa b c h1 d=>a6 (adw (a8 h1) (a8 d))
 tot:=λa b h1 d=>by let:=of_decide_eq_false h1;let:=of_decide_eq_false d;ext
abbrev Nl:Rs->Rs->Bool:=pB (pB P0)
theorem xL:STO Nl:=OH.lex.lex
theorem BN:∀a b:G Int,LD.ltds (a.map SR.int) (b.map SR.int)=M (pB P0 a b)
 |[],[]=>by rw[TZ,LD.ltds];rfl
 |[],_::_=>by rw[TZ,SX,LD.ltds];rfl
 |_::_,[]=>by rw[TZ,SX,LD.ltds];rfl
 |x::a,y::b=>by
  rw[SX,SX,LD.ltds,pB];let e:SR.eqv (.int x) (.int y)=decide (x=y):=by rw[SR.eqv];by_cases h:x=y<;>simp[h]
  rw[e];by_cases h:x=y
  .rw[ai (a6 h),ai h];show BN a b
  .rw[ak (by rw[a7 h];show Td),ak h,LD.ltd];rfl
def PM(x y:G Int):SR.eqv (kD x) (kD y)=decide (x=y):=by ext kD;rw[SR.eqv];show MD x y
theorem Bg:∀a b:Rs,LD.ltds (a.map kD) (b.map kD)=M (Nl a b)
 |[],[]=>by rw[TZ,LD.ltds];rfl
 |[],_::_=>by rw[TZ,SX,LD.ltds];rfl
 |_::_,[]=>by rw[TZ,SX,LD.ltds];rfl
 |x::a,y::b=>by
  rw[SX,SX,LD.ltds,PM];show _=M (if x=y then Nl a b else pB P0 x y);by_cases h:x=y
  .rw[ai (a6 h),ai h];show Bg a b
  .rw[ak (by rw[a7 h];show Td),ak h];ext kD;rw[LD.ltd];show BN x y
abbrev Rp:=Rs×Nat
def cK(a:Rp):D:=.tuple [sD a.1,nd a.2]
def Jt(a b:Rp):Bool:=if a.1=b.1 then decide (a.2<b.2)else Nl a.1 b.1
theorem u7:STO Jt where
 irr:=λa=>by ext Jt;rw[ai W];show a7 (Ub _)
 tr:=λa b c h1 d=>by
  unfold Jt at*;by_cases e1:a.1=b.1
  .rw[ai e1]at h1
   rw[e1];by_cases e2:b.1=c.1
   .rw[ai e2]at d⊢;show a6 (Vx (a8 h1) (a8 d))
   .rw[ak e2]at d⊢;show d
  .rw[ak e1]at h1
   by_cases e2:b.1=c.1
   .rw[<-e2,ak e1];show h1
   .rw[ak e2]at d;let:=xL.tr _ _ _ h1 d;rw[ak (λe=>by rw[e,xL.irr]at this;ext this)];show this
 tot:=λa b h1 d=>by
  unfold Jt at*;by_cases e:a.1=b.1
  .rw[ai e]at h1;rw[ai e.symm]at d;let:=of_decide_eq_false h1;let:=of_decide_eq_false d;show Prod.ext e ()
  .rw[ak e]at h1;rw[ak (dt e)]at d;show b9 (xL.tot _ _ h1 d) e
def qu(a b:Rp):LD.ltd (cK a) (cK b)=M (Jt a b):=by
 unfold cK Jt;rw[LD.ltd,LD.ltds,gH];by_cases e:a.1=b.1
 .rw[ai (a6 e),ai e,LD.ltds]
  by_cases e2:a.2=b.2
  .let:SR.eqv (nd a.2) (nd b.2)=U:=by rw[e2];ext nd;rw[SR.eqv];simp
   rw[ai this,LD.ltds,e2];simp
  .let:¬SR.eqv (nd a.2) (nd b.2)=U:=by ext nd;rw[SR.eqv];simp;ext
   rw[ak this];ext nd;rw[LD.ltd];congr 1;show decide_eq_decide.mpr ()
 .rw[ak (by rw[a7 e];show Td),ak e];ext sD;rw[LD.ltd];show Bg _ _
def J6(a:Rp):(cK a).canLay0=U/\(cK a).depth<=32:=by
 unfold cK sD nd;constructor
 .rw[SR.canLay0,SR.canLayAll0,SR.canLayAll0,SR.canLayAll0,SR.canLay0,SR.canLay0,o0];rfl
 .rw[SR.depth,SR.depthAll,SR.depthAll,SR.depthAll,SR.depth,SR.depth];let:=oS a.1;ext
theorem yp(L:G Rp):LD.Lin (L.map cK) where
 ok:=by ext LD.okO;rw[TR];intro a g;let(x,_,rfl):=S7.mp g;let(h1,d):=J6 x;rw[h1,a6 d,VA,VA,TR];intro b e;let(y,_,rfl):=S7.mp e;rw[qu];rfl
 irr:=λa g=>by let(x,_,rfl):=S7.mp g;rw[qu,u7.irr]
 tr:=λa g b e c f h1 d=>by let(x,_,rfl):=S7.mp g;let(y,_,rfl):=S7.mp e;let(z,_,rfl):=S7.mp f;rw[qu] at*;rw[u7.tr x y z (Tx h1) (Tx d)]
 tot:=λa g b e h1 d=>by let(x,_,rfl):=S7.mp g;let(y,_,rfl):=S7.mp e;rw[qu]at h1 d;rw[u7.tot x y (Tx h1) (Tx d)]
 tup:=λa g=>by let(x,_,rfl):=S7.mp g;show#[_,_,W]
theorem rG{α:Type}{lt:α->α->Bool}(h:STO lt):∀l:G α,∃m:G α,m.Perm l/\m.Pairwise λa b=>lt b a=SW
 |[]=>#[[],.refl _,.nil]
 |x::l=>by
  let(m,p,s):=rG h l;let ins:∀m:G α,m.Pairwise (λa b=>lt b a=SW)->∃k:G α,k.Perm (x::m)/\k.Pairwise λa b=>lt b a=SW:=by
   intro m
   induction m with
   |nil=>intro _;show#[[x],.refl _,Zf _ _]
   |cons y m j=>
    intro s;let(f,e):=Vd.mp s;cases q:lt y x with
    |false=>
     show#[x::y::m,.refl _,Vd.mpr #[λz d=>?_,s]];rcases Tf.mp d with rfl|d
     .show q
     .cases n:lt z x with
      |false=>rfl
      |true=>
       cases o:lt x y with
       |true=>let:=h.tr z x y n o;rw[f z d]at this;ext this
       |false=>rw[h.tot x y o q,f z d]at n;ext n
    |true=>
     let(k,p,g):=j e;show#[y::k,(p.cons y).trans (.swap x y m),Vd.mpr #[λz d=>?_,g]];rcases Tf.mp (p.mem_iff.mp d)with rfl|d
     .show h.af6 q
     .show f z d
  let(k,i,e):=ins m s;show#[k,i.trans (p.cons x),e]
structure Sol(B:G Wd)(L:G Rp):Prop where
 up:L.Pairwise λa b=>Nl a.1 b.1=U
 fst:∀f∈b7 B,∃a∈L,a.1=f.r/\a.2<=f.p
 nxt:∀a∈L,∀e∈B,a.1≠[]->(bg e.2 a.1=U->∃b∈L,b.1=a.1.drop e.2.length/\b.2<=a.2)/\(bg a.1 e.2=U->∃b∈L,b.1=e.2.drop a.1.length/\b.2<=a.2+(e.2.length - a.1.length))
 org:∀a∈L,(∃f∈b7 B,f.r=a.1/\f.p=a.2)\/∃b∈L,b.1≠[]/\∃e∈B,(bg e.2 b.1=U/\a=(b.1.drop e.2.length,b.2))\/(bg b.1 e.2=U/\a=(e.2.drop b.1.length,b.2+(e.2.length - b.1.length)))
 len:L.length<=140
 suf:∀a∈L,a.1∈CZ B
def rp(q:Rs×Wy):Rp:=(q.1,q.2.p)
theorem jr{α d b:Type}{f:d->I b}{g:α->d}{h:α->b}:∀{l:G α},(∀x∈l,f (g x)=M (h x))->aq f (l.map g)=M (l.map h)
 |[],_=>rfl
 |a::l,k=>by rw[SX];ext aq;rw[k a Ta];dsimp only;rw[jr λx e=>k x (S5 _ e)];rfl
theorem qD{b:aH}{a:aI}{n:Nat}{d:D}(h:b[n]?=M (-(d))):am (aa n) b a=.ok (.fz d) a:=ar (ae (by ext dB;rw[S3,h];rfl))
theorem OI{f:aH}{c:aI}{n j i:Nat}{d:D}{k:bz}{kvs:G (bz×SV)}(neg:Bool)(h1:f[n]?=M (-(d)))(e:f[j]?=M (M (.rf i)))(a:mq (.fz d)=M k)(b:c[i]?=M (.VI kvs)):jT neg (am (aa n)) (aX j) f c=.ok (.fz (.bool ((ce kvs k).isSome !=neg))) c:=DN (qD h1) (aP e) a b
theorem Jy{g:aH}{c:aI}{n j i:Nat}{d:D}{k:bz}{kvs:G (bz×SV)}{y:SV}(h1:g[n]?=M (-(d)))(f:g[j]?=M (M (.rf i)))(a:mq (.fz d)=M k)(e:c[i]?=M (.VI kvs))(b:ce kvs k=M y):mh (aX j) (am (aa n)) g c=.ok y c:=yH (aP f) (qD h1) a e b
section
variable{B:cb Wd}
def Ix(a b:G (G Int))(h:a.length+b.length<=1000000):um (sD a) (sD b)=-(sD (a++b)):=by show(if(a.map kD).length+(b.map kD).length<=1000000 then M (RV.fz (.tuple (a.map kD++b.map kD)))else S)=_;rw[SI,SI,ai h,<-Tj];rfl
def w6(h:BB B){ws:G (G Nat)}(v:iK B ws)(p:ws.length<=1000):∃c,dQ [.fz (aB B),.fz (.list (ws.map tD))] []=.ok (.fz (sD (wr B ws))) c:=by
 let g:=uh B h.nd;generalize A:eE [] (Mv B)=M at g;obtain⟨c,e,_⟩:∃c,dQ [.fz (aB B),.fz (.list (ws.map tD))] []=.ok (.fz (sD (wr B ws))) c/\True:=by
  show BG (ρ:=[-(aB B),-(.list (ws.map tD)),S,S,S]) W ?_;show bA (yM (x:=.fz (aB B)) (ω1:=[]) (ar (ae W)) (uz B)) W ?_;rw[A];show bA (x:=.fz (sD [])) (ω1:=[Cell.VI M]) (ar (d:=sD []) W) W ?_;show fZ (lL (λk t r=>r=[Cell.VI M]/\∃q,t=[-(aB B),-(.list (ws.map tD)),cL (.rf 0),-(sD (wr B (ws.take k))),q]) (ds:=ws.map tD) (ω1:=[Cell.VI M]) (gQ (ρ':=dB [-(aB B),-(.list (ws.map tD)),cL (.rf 0),-(sD []),S]) W) #[W,S,W] ?_ ?_)
  .rintro k d t r a ⟨rfl,q,rfl⟩
   rw[S3]at a;cases hw:ws[k]? with
   |none=>rw[hw]at a;ext a
   |some w=>
    rw[hw]at a;ext a;show#[_,_,W,?_];let(s,f):=gg (v w (Te hw));let j:ce M (.inr (tx w))=-(sD s):=by rw[g,f];rfl
    let n:jT U (am (aa 4)) (aX 2) [-(aB B),-(.list (ws.map tD)),cL (.rf 0),-(sD (wr B (ws.take k))),-(tD w)] [Cell.VI M]=.ok (.fz (.bool SW)) [Cell.VI M]:=by rw[DN (x:=.fz (tD w)) (k:=.inr (tx w)) (i:=0) (kvs:=M) (ω1:=[Cell.VI M]) (ω2:=[Cell.VI M]) (ar (ae W)) (aP W) W W,j];rfl
    show jc (bK n) (fJ ?_);let l:s.length<=6:=h.s6 _ (cU f);let b:=CF h (ws.take k);rw[T7]at b;show p9 (E2 (x:=.fz (sD (wr B (ws.take k)))) (y:=.fz (sD s)) (z:=.fz (sD (wr B (ws.take k)++s))) (ω3:=[]) W (yH (x:=.fz (tD w)) (k:=.inr (tx w)) (i:=0) (kvs:=M) (ω1:=[Cell.VI M]) (aP W) (ar (ae W)) W W j) (fS (Ix _ _ ()))) #[W,-(tD w),?_];let m:ws.take (k+1)=ws.take k++[w]:=by let(o,e2):=SK.mp hw;rw[UO o,e2]
    rw[m,jw,f];rfl
  .rintro u c ⟨rfl,q,rfl⟩;rw[SI,Uu];show jb (ar (ae W)) #[W,trivial]
 show#[c,e]
def QK(B:G Wd)(l:G (G Int)):Prop:=∃ws,iK B ws/\wr B ws=l
def pc(a:G (bz×SV))(q:Nat):Prop:=(ce a (.inl (q:Int))).isSome=U
def gU{a:G (bz×SV)}{k q:Nat}{x:SV}:pc (gh a (.inl (k:Int)) x) q↔q=k\/pc a q:=by
 ext pc;rw[kg];by_cases h:q=k
 .subst h;rw[ai W];show#[λ_=>.inl W,λ_=>W]
 .rw[ak (λz=>h (by let:=Sum.inl.inj z;ext))];show#[λz=>.inr z,λz=>z.resolve_left h]
structure LW(B:G Wd)(ss:G (G Int))(kvs:G (bz×SV)):Prop where
 z:pc kvs 0
 g:∀q:Nat,0<q->∀x,ce kvs (.inl (q:Int))=M x->q<=ss.length/\∃w s,x=.fz (tD w)/\dz B w=M s/\s.length<=q/\(ss.drop (q - s.length)).take s.length=s/\pc kvs (q - s.length)
def LW.put{ss:G (G Int)}{c:G (bz×SV)}(l:LW B ss c){p:Nat}{w:G Nat}{s:G (G Int)}(i:pc c p)(e:dz B w=M s)(h1:1<=s.length)(hm:(ss.drop p).take s.length=s):LW B ss (gh c (.inl ((p+s.length:Nat):Int)) (.fz (tD w))):=by
 show#[gU.mpr (.inr l.z),λq f x a=>?_];rw[kg]at a;by_cases h:q=p+s.length
 .subst h
  rw[ai W]at a;ext a;let u:s.length<=ss.length - p:=by let:=eh UQ hm;rw[T7,Ut]at this;ext
  show#[by ext,w,s,W,e,by ext,?_,?_]
  .rw[X3];show hm
  .rw[X3];show gU.mpr (.inr i)
 .rw[ak (λz=>h (by let:=Sum.inl.inj z;ext))]at a;let(t,b,d,r,o,n,m,j):=l.g q f x a;show#[t,b,d,r,o,n,m,gU.mpr (.inr j)]
def On(B:G Wd)(ss:G (G Int))(a:G (bz×SV))(p:Nat):Prop:=pc a p->∀e∈B,(ss.drop p).take e.2.length=e.2->pc a (p+e.2.length)
theorem Kn(a b:Nat):bB (nd a) (nd b)=-(nd (a+b)):=W
def Od(h:BB B)(ss:cb (cb Int))(Z:ss.length<=1000)(a:aI):∃c,bN [.fz (aB B),.fz (sD ss)] a=.ok (.rf a.length) (a++[.VI c])/\LW B ss c/\∀p,p<ss.length->On B ss c p:=by
 obtain⟨x,o,e,c,rfl,rfl,h1,G⟩:∃x o,bN [.fz (aB B),.fz (sD ss)] a=.ok x o/\∃c,x=.rf a.length/\o=a++[.VI c]/\LW B ss c/\∀p,p<ss.length->On B ss c p:=by
  show jU (n:=7) (g:=cn) (xs:=[.fz (aB B),.fz (sD ss)]) (T:=λx o=>∃c,x=.rf a.length/\o=a++[.VI c]/\LW B ss c/\∀p,p<ss.length->On B ss c p) (ρ:=[-(aB B),-(sD ss),CL,CL,CL,CL,CL]) W ?_;show bA (GX (ps:=[(.inl 0,.fz .none)]) (ω1:=a) (E9 (x:=.fz (.int 0)) (y:=.fz .none) (ω1:=a) (ω2:=a) (ar W) W (ar W) He) ()) W ?_;let F:∀c:cb (bz×SV),(a++[Cell.VI c])[a.length]?=cL (.VI c):=λc=>aG;let M:∀k1 k2:cb (bz×SV),(a++[Cell.VI k1]).set a.length (.VI k2)=a++[.VI k2]:=λk1 k2=>by rw[Zw _ _ (SN _),WH];rfl
  let Q:gz dR {iL eG {aa 1}} [-(aB B),-(sD ss),CL,CL,CL,CL,CL]=.ok (o9 (TV ss.length),[-(aB B),-(sD ss),CL,CL,CL,CL,CL]):=by let e1:=fy ss;let e2:=rg (n:=ss.length) ();walk_at "ev"
  show fZ (lL (λp ρ ω=>∃c J v u r,ω=a++[.VI c]/\c.length<=1+20*p/\LW B ss c/\(∀j,j<p->On B ss c j)/\ρ=[-(aB B),-(sD ss),cL (.rf a.length),J,v,u,r]) (gQ Q) #[[(.inl 0,.fz .none)],CL,CL,CL,CL,W,by decide,#[W,λq P x O=>?_],λj E=>by ext,W] ?_ ?_)
  .let:ce [((.inl 0:bz),SV.fz .none)] (.inl (q:Int))=CL:=by
    ext ce;rw[Tu,a7 (λz=>by let:=Sum.inl.inj z;ext)];rfl
   rw[this]at O;ext O
  .rintro p d ρ ω U ⟨c,J,v,u,r,rfl,hk,lw,on,rfl⟩
   let(l,K,rfl):=ej U;obtain⟨S,rfl⟩:p<ss.length/\l=p:=by let(h1,G):=SK.mp K;rw[TM]at h1;rw[Vw]at G;show#[h1,G.symm]
   show#[_,_,W,?_];let Y:jT SW (am (aa 3)) (aX 2) [-(aB B),-(sD ss),cL (.rf a.length),-(nd l),v,u,r] (a++[.VI c])=.ok (.fz (.bool (ce c (.inl (l:Int))).isSome)) (a++[.VI c]):=by show(OI SW (i:=a.length) (kvs:=c) (k:=.inl (l:Int)) (d:=nd l) W W W (F c)).trans ?_;rw[YL]
   show yf (bK Y) (λw=>?_) (λw=>?_)
   .let L:pc c l:=w
    show lL (λj ρ ω=>∃m v u r,ω=a++[.VI m]/\m.length<=c.length+j/\LW B ss m/\(∀q,pc c q->pc m q)/\(∀q,q<l+1->pc m q->pc c q)/\(∀e∈B.take j,(ss.drop l).take e.2.length=e.2->pc m (l+e.2.length))/\ρ=[-(aB B),-(sD ss),cL (.rf a.length),-(nd l),v,u,r]) (ds:=B.map wD) (ω1:=a++[.VI c]) (gQ (ρ':=dB [-(aB B),-(sD ss),cL (.rf a.length),-(nd l),v,u,r]) W) #[c,v,u,r,W,SN _,lw,λq z=>z,λq _ z=>z,λe A=>by simp at A,W] ?_ ?_
    .rintro j d ρ ω E ⟨m,v,u,r,rfl,I,lw2,up,dn,hm,rfl⟩
     rw[S3]at E;cases hw:B[j]? with
     |none=>rw[hw]at E;ext E
     |some e=>
      rw[hw]at E;ext E;let A:e∈B:=Te hw;show#[[-(aB B),-(sD ss),cL (.rf a.length),-(nd l),-(tD e.1),-(sD e.2),r],_,W,?_];let e1:=fy e.2;let e2:=Kn l e.2.length;show bA (x:=.fz (nd (l+e.2.length))) (ω1:=a++[.VI m]) (ar (d:=nd (l+e.2.length)) (by walk_at "evp")) W ?_;let e3:=Pl ss l (l+e.2.length) ();rw[V7]at e3;let e4:=nG ((ss.drop l).take e.2.length) e.2;let N:B.take (j+1)=B.take j++[e]:=by let(I,e2):=SK.mp hw;rw[UO I,e2]
      show yf (b:=decide ((ss.drop l).take e.2.length=e.2)) (ω1:=a++[.VI m]) (eS (by show aL _ _=_;let X:mL (sD ss) (cL ((l:Nat):Int)) (cL ((l+e.2.length:Nat):Int))=-(sD ((ss.drop l).take e.2.length)):=e3;walk_at "ev")) (λw=>?_) (λw=>?_)
      .let w:=a8 w
       show p9 (G5 (x:=.fz (nd (l+e.2.length))) (y:=.fz (tD e.1)) (k:=.inl ((l+e.2.length:Nat):Int)) (i:=a.length) (kvs:=m) (ω1:=a++[.VI m]) (ω2:=a++[.VI m]) (ar (ae W)) (aP W) (ar (ae W)) W (F m) (by let:=(SK.mp hw).1;let:=h.ZF;ext)) ?_;show#[_,-(tD e.1),-(sD e.2),-(nd (l+e.2.length)),M _ _,?_,lw2.put (up l L) (iq h.nd A) (h.s1 e A) w,λq z=>gU.mpr (.inr (up q z)),λq P z=>?_,λf t C=>?_,W]
       .let:=Gz m (.inl ((l+e.2.length:Nat):Int)) (.fz (tD e.1));ext
       .let h1:=h.s1 e A
        rcases gU.mp z with z|z
        .omega
        .show dn q P z
       .rw[N]at t
        rcases Th.mp t with t|t
        .show gU.mpr (.inr (hm f t C))
        .rw[S6.mp t];show gU.mpr (.inl W)
      .let w:=of_decide_eq_false w
       show jp #[m,-(tD e.1),-(sD e.2),-(nd (l+e.2.length)),W,by ext,lw2,up,dn,λf t C=>?_,W];rw[N]at t;rcases Th.mp t with t|t
       .show hm f t C
       .rw[S6.mp t]at C;show b9 C w
    .rintro ρ' o ⟨m,v,u,r,rfl,I,lw2,up,dn,hm,rfl⟩
     rw[SI]at I hm;rw[Uu]at hm;let hB:=h.ZF;show#[m,_,v,u,r,W,by ext,lw2,λj E H e A C=>?_,W];by_cases q:j=l
     .subst q;show hm e A C
     .show up _ (on j () (dn j () H) e A C)
   .show jp #[c,_,v,u,r,W,by ext,lw,λj E H e A C=>?_,W]
    by_cases q:j=l
    .subst q;let:(ce c (.inl (j:Int))).isSome=SJ:=H;rw[w]at this;ext this
    .show on j () H e A C
  .rintro ρ' o ⟨c,J,v,u,r,rfl,hk,lw,on,rfl⟩;rw[eL,TM]at on;show jb (aP W) #[c,W,W,lw,on]
 show#[c,e,h1,G]
def jA{α:Type}{l:G α}{k:Nat}{a:α}(h:l[k]?=M a):l.take (k+1)=l.take k++[a]:=by let(b,e):=SK.mp h;rw[UO b,e]
def wH(B:G Wd)(a b:G (G Nat)):wr B (a++b)=wr B a++wr B b:=by ext wr;rw[Tj,Z6]
def Lz{ss:G (G Int)}{o:G (bz×SV)}(h:BB B)(j:LW B ss o)(i:∀p,p<ss.length->On B ss o p)(c:QK B ss):pc o ss.length:=by
 let(a,q,e):=c;let b:∀k,k<=a.length->pc o (wr B (a.take k)).length:=by
  intro k
  induction k with
  |zero=>intro _;show j.z
  |succ k l=>
   intro m;let g:k<a.length:=m;let f:a[k]?=M a[k]:=Tc g;let(s,d):=gg (q _ (Te f));let e1:=jA f;let e2:a=a.take k++(a[k]::a.drop (k+1)):=by rw[<-Uo g,Uw]
   let e3:ss=wr B (a.take k)++(s++wr B (a.drop (k+1))):=by
    rw[<-e]
    conv=>lhs;rw[e2]
    rw[wH,dD,d];rfl
   let mem:=cU d;let h1:1<=s.length:=h.s1 _ mem;let n:(wr B (a.take k)).length+s.length<=ss.length:=by rw[e3,SQ,SQ];ext
   let:=i (wr B (a.take k)).length () (l ()) _ mem (by show(ss.drop _).take s.length=s;rw[e3,U5,abP]);rw[e1,jw,d,SQ];show this
 let:=b a.length (SN _);rw[Uu,e]at this;show this
def Gw(h:BB B)(ss:cb (cb Int))(H:ss.length<=1000):(¬QK B ss)\/∃ws i D,iK B ws/\ws.length<=ss.length/\wr B ws=ss/\bH [.fz (aB B),.fz (sD ss)] []=.ok (.rf i) D/\D[i]?=cL (.lst ((ws.map tD).map .fz)):=by
 let A:=uh B h.nd;generalize hM:eE [] (Mv B)=M at A;let(Q,L,u,C):=Od h ss H [Cell.VI M];let o:∃x D,bH [.fz (aB B),.fz (sD ss)] []=.ok x D/\((x=.fz .none/\¬pc Q ss.length)\/∃i ws,x=.rf i/\iK B ws/\ws.length<=ss.length/\wr B ws=ss/\D[i]?=cL (.lst ((ws.map tD).map .fz))):=by
  show jU (n:=7) (g:=cP) (xs:=[.fz (aB B),.fz (sD ss)]) (T:=λx D=>(x=.fz .none/\¬pc Q ss.length)\/∃i ws,x=.rf i/\iK B ws/\ws.length<=ss.length/\wr B ws=ss/\D[i]?=cL (.lst ((ws.map tD).map .fz))) (ρ:=[-(aB B),-(sD ss),S,S,S,S,S]) W ?_;show bA (yM (x:=.fz (aB B)) (ω1:=[]) (qD W) (uz B)) W ?_;rw[hM];let cl:jf bN 2 (aQ (am (aa 0)) (aQ (am (aa 1)) dH)) [-(aB B),-(sD ss),cL (.rf 0),S,S,S,S] [Cell.VI M]=.ok (.rf 1) [Cell.VI M,Cell.VI Q]:=by ext jf;rw[aF (x:=.fz (aB B)) (xs:=[.fz (sD ss)]) (ω1:=[Cell.VI M]) (ω2:=[Cell.VI M]) (qD W) (aF (x:=.fz (sD ss)) (xs:=[]) (ω1:=[Cell.VI M]) (ω2:=[Cell.VI M]) (qD W) bJ),eJ,ai (show[SV.fz (aB B),SV.fz (sD ss)].length=2 from rfl),L];rfl
  show bA cl W ?_;let e1:=fy ss;show bA (x:=.fz (nd ss.length)) (ω1:=[Cell.VI M,Cell.VI Q]) (ar (d:=nd ss.length) (by walk_at "evp")) W ?_;let O:jT U (am (aa 4)) (aX 3) [-(aB B),-(sD ss),cL (.rf 0),cL (.rf 1),-(nd ss.length),S,S] [Cell.VI M,Cell.VI Q]=.ok (.fz (.bool ((ce Q (.inl (ss.length:Int))).isSome !=U))) [Cell.VI M,Cell.VI Q]:=OI U (d:=nd ss.length) (k:=.inl (ss.length:Int)) W W W W;show C5 (bK O) (λl=>?_) (λl=>?_)
  .show BO (ar W) (.inl #[W,λz=>?_]);let z:(ce Q (.inl (ss.length:Int))).isSome=U:=z;rw[z]at l;ext l
  .let I:pc Q ss.length:=by
    show(ce Q (.inl (ss.length:Int))).isSome=U;cases q:(ce Q (.inl (ss.length:Int))).isSome with
    |true=>rfl
    |false=>rw[q]at l;ext l
   show fJ ?_;show bA (oy (ds:=[]) (f:=eR au) W) W ?_;show fZ ?_;show vX (λm ρ ω=>∃a t,ρ=[-(aB B),-(sD ss),cL (.rf 0),cL (.rf 1),-(nd m),cL (.rf 2),t]/\ω=[Cell.VI M,Cell.VI Q,Cell.lst ((a.map tD).map .fz)]/\pc Q m/\m<=ss.length/\iK B a/\a.length<=ss.length - m/\wr B a.reverse=ss.drop m) ?_ 1000000 ss.length _ _ () #[[],S,W,W,I,SN _,λw b=>(by ext b),by simp,by simp[i8]];rintro m ρ ω ⟨a,t,rfl,rfl,hm,hml,X,hal,b⟩;let g0:Ng (nd m) (.int 0)=-(.bool (decide ((0:Int)<m))):=W;by_cases h0:m=0
   .subst h0;show .inl #[eS (by walk_at "ev"),?_];show jb (GA (i:=2) (xs:=(a.map tD).map .fz) (ω1:=[Cell.VI M,Cell.VI Q,Cell.lst ((a.map tD).map .fz)]) (aP W) W) (.inr #[3,a.reverse,W,λw b=>X w (Xe.mp b),by rw[UP];ext,b,?_]);show cL (Cell.lst ((a.map tD).map SV.fz).reverse)=_;rw[Xd,Xd]
   .let N:decide ((0:Int)<m)=U:=a6 ()
    rw[N]at g0;show .inr #[eS (by walk_at "ev"),?_];cases Y:ce Q (.inl (m:Int))with
    |none=>unfold pc at hm;rw[Y]at hm;ext hm
    |some x=>
     let(_,w,s,rfl,r,F,P,G):=u.g m () x Y;show bA (Jy (d:=nd m) (k:=.inl (m:Int)) (kvs:=Q) (i:=1) (y:=.fz (tD w)) W W W W Y) W ?_;show sS (vA (xs:=(a.map tD).map .fz) (ys:=(a.map tD).map .fz) (x:=.fz (tD w)) (i:=2) (ω2:=[Cell.VI M,Cell.VI Q,Cell.lst ((a.map tD).map .fz)]) (aP W) W (qD W) W (by rw[SI,SI];ext)) ?_;let J:ce M (.inr (tx w))=-(sD s):=by rw[A,r];rfl
     let e2:=fy s;let e3:pL (nd m) (nd s.length)=-(nd (m - s.length)):=by show cL (RV.fz (.int ((m:Int) - (s.length:Int))))=cL (RV.fz (.int ((m - s.length:Nat):Int)));rw[show((m - s.length:Nat):Int)=(m:Int) - (s.length:Int) by ext]
     let mem:=cU r;let h1:1<=s.length:=h.s1 _ mem;show p9 (E2 (x:=.fz (nd m)) (y:=.fz (nd s.length)) (z:=.fz (nd (m - s.length))) (ω3:=[]) W (Jx (xs:=[.fz (sD s)]) (ds:=[sD s]) (aF (Jy (d:=tD w) (k:=.inr (tx w)) (kvs:=M) (i:=0) (y:=.fz (sD s)) W W W W J) bJ) W e2) (fS e3)) #[m - s.length,by ext,a++[w],-(tD w),W,?_,G,by ext,λv j=>?_,?_,?_]
     .rw[Tj,Tj];rfl
     .rcases Th.mp j with j|j
      .show X v j
      .rw[S6.mp j];show S7.mpr #[_,mem,W]
     .rw[SQ,T9];ext
     .rw[VZ,List.reverse_singleton,List.singleton_append,dD,r,b];show s++ss.drop m=ss.drop (m - s.length);let:=Uw s.length (ss.drop (m - s.length));rw[P,abO,show m - s.length+s.length=m by ext]at this;show this
 obtain⟨x,D,e,(⟨rfl,E⟩|⟨i,ws,rfl,X,p,b,K⟩)⟩:=o
 .show .inl λc=>E (Lz h u C c)
 .show .inr #[ws,i,D,X,p,b,e,K]
def K8{a b:G Nat}(f:∀c∈a,c<1114112)(e:∀c∈b,c<1114112):j7 (tD a) (tD b)=-(.bool (decide (a=b))):=by
 let d:(AJ (tD a)&&(tD b).canLay0)=U:=by show((SR.strOk (tx a)&&decide (0<=64))&&SR.strOk (tx b))=U;rw[lW f,lW e];rfl
 ext j7;rw[ai d,show SR.eqv (tD a) (tD b)=_ from mM a b]
theorem BB.nm(h:BB B):∀l∈B.map (·.1),∀c∈l,c<1114112:=λl a=>by let(e,b,rfl):=S7.mp a;show h.wc e b
def Iz(a b:G (G Int))(h:a.length+b.length<=1000):sr (sD a) (sD b)=-(sD (a++b)):=by let:=Fb (a.map kD) (b.map kD) (by rw[SI,SI];show h);rw[<-Tj]at this;show this
def dU(h:BB B){ws:cb (cb Nat)}(c:iK B ws)(M:(wr B ws).length<=1000):bp [aB B,.list (ws.map tD)]=.ok (.fz (sD (wr B ws))):=by
 ext bp;show gW (ρ:=[-(aB B),-(.list (ws.map tD)),S,S,S,S]) W ?_;ext cM;show aJ (pv:=.fz (sD [])) (ρ3:=[-(aB B),-(.list (ws.map tD)),-(sD []),S,S,S]) W W W ?_;show eg (λk N=>∃v l g,N=[-(aB B),-(.list (ws.map tD)),-(sD (wr B (ws.take k))),v,l,g]) (ds:=ws.map tD) (ρ1:=[-(aB B),-(.list (ws.map tD)),-(sD []),S,S,S]) W #[S,S,S,W] ?_ ?_
 .rintro k d N o ⟨v,l,g,rfl⟩
  rw[S3]at o;cases hw:ws[k]? with
  |none=>rw[hw]at o;ext o
  |some w=>
   rw[hw]at o;ext o;let J:=(SK.mp hw).1;let u:=c w (Te hw);let n:(wr B (ws.take k)).length+((dz B w).getD []).length<=1000:=by
    let z:wr B ws=wr B (ws.take (k+1))++wr B (ws.drop (k+1)):=by rw[<-wH,Uw]
    rw[jA hw,jw]at z;let:=eh UQ z;rw[SQ,SQ]at this;ext
   show#[[-(aB B),-(.list (ws.map tD)),-(sD (wr B (ws.take k))),-(tD w),l,g],W,?_];show wm (λj N=>∃l g,N=[-(aB B),-(.list (ws.map tD)),-(sD (wr B (ws.take k)++(dz (B.take j) w).getD [])),-(tD w),l,g]) (ds:=B.map wD) (ρ1:=[-(aB B),-(.list (ws.map tD)),-(sD (wr B (ws.take k))),-(tD w),l,g]) W #[l,g,by rw[XA];show _=[_,_,cL (PV.fz (sD (wr B (ws.take k)++[]))),_,_,_];rw[TC]] ?_ ?_
   .rintro j d N p ⟨l,g,rfl⟩
    rw[S3]at p;cases he:B[j]? with
    |none=>rw[he]at p;ext p
    |some e=>
     rw[he]at p;ext p;let G:e∈B:=Te he;show#[[-(aB B),-(.list (ws.map tD)),-(sD (wr B (ws.take k)++(dz (B.take j) w).getD [])),-(tD w),-(tD e.1),-(sD e.2)],W,?_];let e1:=K8 (h.wc e G) (h.nm w u);let E:B.take (j+1)=B.take j++[e]:=jA he;let F:∀(A:cb Wd),dz (A++[e]) w=match dz A w with|some s=>cL s|none=>if e.1=w then cL e.2 else S:=by
      intro A
      induction A with
      |nil=>rfl
      |cons a r I=>
       rw[aa8,lc,lc];by_cases q:a.1=w
       .rw[ai q,ai q]
       .rw[ak q,ak q,I]
     show lU (b:=decide (e.1=w)) (by walk_at "ev") (λm=>?_) (λm=>?_)
     .let m:=a8 m
      let P:dz (B.take j) w=S:=by show lG λz=>?_;let(f,K,q):=S7.mp z;let(i,C,rfl):=ZM.mp K;rw[T7]at C;rw[Ya]at q;let(L,e2):=SK.mp he;let:=US.mp h.nd i j (by rw[SI];ext) (by rw[SI];show L) ();rw[Xa,Xa,e2]at this;show this (q.trans m.symm)
      let H:dz B w=cL e.2:=by rw[<-m];show iq h.nd G
      rw[H]at n;let e2:=Iz (wr B (ws.take k)) e.2 n;show wP (pv:=.fz (sD (wr B (ws.take k)++e.2))) (ρ3:=[-(aB B),-(.list (ws.map tD)),-(sD (wr B (ws.take k)++e.2)),-(tD w),-(tD e.1),-(sD e.2)]) (by rw[P];show aC sr (aa 2) (aa 5) [-(aB B),-(.list (ws.map tD)),-(sD (wr B (ws.take k)++[])),-(tD w),-(tD e.1),-(sD e.2)]=_;rw[TC];walk_at "evp") W W #[-(tD e.1),-(sD e.2),?_];rw[E,F,P,ai m];rfl
     .let m:=of_decide_eq_false m
      show ik #[-(tD e.1),-(sD e.2),?_];let:dz (B.take (j+1)) w=dz (B.take j) w:=by
       rw[E,F];cases dz (B.take j) w with
       |some s=>rfl
       |none=>show ak m
      rw[this]
   .rintro t ⟨l,g,rfl⟩;rw[SI,Uu];show#[_,l,g,by rw[jA hw,jw]]
 .rintro t ⟨v,l,g,rfl⟩;rw[SI,Uu];show bZ (ae W) W W
def wv(h:BB B):lj (dL (gT 2 (kH (gN 0) (kH (gN 1) vg))) d5 (aa 0) (B.map wD) [S,S] [])=.ok ((B.map (·.1)).map λl=>SR.str (tx l)):=by let:=h.ZF;rw[T1];show mK (λa=>∃o p,a=[o,p]) B () #[S,S,W] ?_;rintro e _ a ⟨o,p,rfl⟩;show#[_,GM W W (ae W) W W,_,_,W]
def w9(h:BB B){ws:G (G Nat)}(c:iK B ws)(m:ws.length<=1000):dF [.list (ws.map tD),aB B]=.ok (.fz (.bool U)):=by
 ext dF;show gW (ρ:=[-(.list (ws.map tD)),-(aB B)]) W ?_;ext gc;let j:lj (dL (gN 0) d5 (ut (pD "str" (aa 0)) (aC MN (aa 0) (iJ 2 [] (gG (aa 1)) (gT 2 (kH (gN 0) (kH (gN 1) vg))) d5 (aa 0)))) (ws.map tD) [S,-(aB B)] [])=.ok (ws.map λ_=>SR.bool U):=by show y9 (f:=tD) (g:=λ_=>SR.bool U) ws () W λw d=>?_;let e1:=Mb (w:=w) (L:=B.map (·.1)) (h.nm w (c w d)) h.nm;rw[a6 (c w d)]at e1;let e2:=cN (f:=MN) (fa:=aa 0) (fb:=iJ 2 [] (gG (aa 1)) (gT 2 (kH (gN 0) (kH (gN 1) vg))) d5 (aa 0)) (ρ:=[-(tD w),-(aB B)]) (dx:=.str (tx w)) (dy:=.list ((B.map (·.1)).map λl=>SR.str (tx l))) (ae W) (kl (ds:=B.map wD) W W (wv h)) W W e1;show mS (a:=U) (b:=U) (aV (rP (ae W) W W) W) λ_=>e2
 let i:pD "list" (aa 0) [-(.list (ws.map tD)),-(aB B)]=.ok (.fz (.bool U),[-(.list (ws.map tD)),-(aB B)]):=rP (n:= "list") (t:= "list") (ae W) W W;show jN (b:=SW) (jz (a:=U) (aV i W)) (λq=>by ext q) (λ_=>?_);show cX ?_;let e:z8 [.list (ws.map λ_=>SR.bool U)]=-(.bool (ws.all λ_=>U)):=Cw (λ_=>U) ws;rw[show(ws.all λ_=>U)=U from TR.mpr λ_ _=>W]at e;show bZ (pv:=.fz (.bool U)) (Ey (ah (kl (ds:=ws.map tD) W W j) aw) W e) W W
end
def Bf{B:G Wd}(t:BB B){W:Mp}{c:aI}(e:bu [.fz (aB B)] []=.ok (.rf 0) c)(h1:c[0]?=M (.dd (dS W)))(r:Full B W []):∃(L:G Rp) (j:Nat) (m:aI),dE [.fz (aB B)] []=.ok (.rf j) m/\m[j]?=M (.lst ((L.map cK).map .fz))/\L.Perm (W.map rp):=by
 let(L,p,s):=rG u7 (W.map rp);show#[L,c.length+1,c++[.lst ((W.map λq=>cK (rp q)).map .fz)]++[.lst ((L.map cK).map .fz)],?_,by rw[show c.length+1=(c++[Cell.lst ((W.map λq=>cK (rp q)).map .fz)]).length by simp];show aG,p];unfold dE jx;let v:LD.restsL (dS W)=M (W.map λq=>cK (rp q)):=by
  ext LD.restsL;let l1:=j6 t r.iv;rw[ai (by rw[mI];ext)];let n:(dS W).map (·.1)=W.map λq=>sD q.1:=by ext dS;rw[T1];rfl
  rw[n];show jr λq w=>?_;ext LD.restOf;rw[gY,rM r.iv.wn w];rfl
 let rk:LD.restK 1 [-(aB B),M (.rf 0)] c=.ok (.rf c.length) (c++[.lst ((W.map λq=>cK (rp q)).map .fz)]):=by ext LD.restK;show((RS.T6 c (gA c (.rf 0))).bind _)=_;rw[jk h1];show((RS.T6 c (LD.restsL (dS W))).bind _)=_;rw[v];rfl
 let n:(W.map λq=>cK (rp q))=(W.map rp).map cK:=by rw[T1];rfl
 let u:LD.sortD (W.map λq=>cK (rp q))=L.map cK:=by rw[n];show LD.sortD_eq (yp _) (p.map cK) ?_;ext LD.Srt;show Wg.mpr (s.imp λ{a b} h=>by rw[qu,h])
 let o:LD.sortS (LD.restK 1) [-(aB B),M (.rf 0)] c=.ok (.rf (c.length+1)) (c++[.lst ((W.map λq=>cK (rp q)).map .fz)]++[.lst ((L.map cK).map .fz)]):=by
  ext LD.sortS;rw[rk,eJ];let la:LD.lstAt (c++[.lst ((W.map λq=>cK (rp q)).map .fz)]) (.rf c.length)=M ((W.map λq=>cK (rp q)).map .fz):=by ext LD.lstAt;dsimp only;rw[show(c++[Cell.lst ((W.map λq=>cK (rp q)).map .fz)])[c.length]?=M (.lst ((W.map λq=>cK (rp q)).map .fz))from aG]
  rw[la];show((RS.T6 _ (aq lN ((W.map λq=>cK (rp q)).map .fz))).bind _)=_;rw[show aq lN ((W.map λq=>cK (rp q)).map SV.fz)=M (W.map λq=>cK (rp q)) by let:=jr (f:=lN) (g:=SV.fz) (h:=λd=>d) (l:=W.map λq=>cK (rp q)) λ_ _=>rfl;rw[this,acR]];let l1:=j6 t r.iv;show Eq.trans (ai #[by rw[n];show yp _,by rw[SI];ext]) ?_;rw[u];simp
 show EK rfl (EC (B8 (i:=1) (ρ1:=[-(aB B),M (.rf 0)]) (kL (xs:=[.fz (aB B)]) (aF (ar (ae rfl)) bJ) rfl e) rfl) (xg o))
section
variable{ρ X:aH}{ω ω1 Y Q:aI}{x y z:SV}{i:Nat}{d:D}{ds:cb D}
def dw(b:fa ρ ω=.ok xs ω1)(a:iE F n xs ω1=.ok x Y):fV F n fa ρ ω=.ok x Y:=by ext fV;rw[b,eJ,a];rfl
def EL{f:G D->I RV}{b:AC}{xs:G SV}{es:G D}(c:b ρ ω=.ok xs ω1)(a:aq (sh ω1) xs=M ds)(h:f ds=M (.ow es)):zI f b ρ ω=.ok (.rf ω1.length) (ω1++[.lst (es.map .fz)]):=by ext zI;rw[c,eJ];ext Ig;rw[a];show((RS.T6 ω1 (f ds)).bind λe ω1=>iB ω1 e)=_;rw[h];rfl
theorem Dv(n:Nat):∀ds:G D,aq (j5 n ω) (ds.map .fz)=M ds
 |[]=>rfl
 |d::r=>by rw[SX];ext aq;rw[show j5 n ω (.fz d)=M d by ext n<;>rfl];dsimp only;rw[Dv n r]
def mV(n:Nat)(h:ω[i]?=M (.lst (ds.map .fz))):j5 (n+1) ω (.rf i)=M (.list ds):=by ext j5;rw[h];dsimp only;rw[Dv];rfl
def jV(h:ω[i]?=M (.lst (ds.map .fz))):sh ω (.rf i)=M (.list ds):=by ext sh;dsimp only;rw[h];dsimp only;rw[mQ];rfl
def Lj{fe:bQ}{c:G (D×D)}(g:fe ρ ω=.ok (.rf i) ω1)(b:ω1[i]?=M (.lst (ds.map .fz)))(h:aq LD.pairDD ds=M c)(j:c.length<1000000):LD.ddlS fe ρ ω=.ok (.rf ω1.length) (ω1++[.dd (LD.mgD [] c)]):=by
 let e:LD.pairsDL ω1 (.rf i)=M c:=by
  ext LD.pairsDL;dsimp only;rw[b];dsimp only;let:aq GN (ds.map SV.fz)=M ds:=by
   clear b h
   induction ds with
   |nil=>rfl
   |cons a r f=>rw[SX];ext aq;rw[show GN (SV.fz a)=M a from rfl];dsimp only;rw[f]
  rw[this];show h
 ext LD.ddlS;rw[g,eJ,e];show ai j
theorem mE{f:FE}{a:aE}(h:f (dB ρ)=.ok (.ow ds,a)):mC (am f) ρ ω=.ok (.fz (.list ds)) (ω++[.dead]):=qM (oy h) (by rw[rA aG];simp)
end
def y8{B:cb Wd}(t:BB B):∃(W:Mp) (L:cb Rp) (j:Nat) (a:aI),Full B W []/\Bd B W []/\L.Perm (W.map rp)/\dE [.fz (aB B)] []=.ok (.rf j) a/\a[j]?=M (.lst ((L.map cK).map .fz))/\
  ((eC W []=S/\∃c,aN [.fz (aB B)] []=.ok (.fz .none) c)\/∃w i j c,eC W []=M w/\aN [.fz (aB B)] []=.ok (.tp [.rf i,.rf j]) c/\i≠j/\c[i]?=M (.lst ((w.lo.map tD).map .fz))/\c[j]?=M (.lst ((w.sh.map tD).map .fz))):=by
 let(W,N,f,b,r,E):=lZ t [];let f:bu [.fz (aB B)] []=.ok (.rf 0) N:=f;let b:N[0]?=M (.dd (dS W)):=b;let(L,j,a,A,C,p):=Bf t f b r;show#[W,L,j,a,r,E,p,A,C,?_];let(x,c,e,h):=jU (n:=2) (g:=fO) (xs:=[.fz (aB B)]) (ω:=[]) (ρ:=[-(aB B),S]) (T:=λx c=>(eC W []=S/\x=.fz .none)\/∃w i j,eC W []=M w/\x=.tp [.rf i,.rf j]/\i≠j/\c[i]?=M (.lst ((w.lo.map tD).map .fz))/\c[j]?=M (.lst ((w.sh.map tD).map .fz))) rfl (by
  ext fO;show bA (x:=.rf 0) (ω1:=N) (ρ1:=[-(aB B),M (.rf 0)]) (kL (xs:=[.fz (aB B)]) (aF (ar (ae rfl)) bJ) rfl f) rfl ?_;let q:am (cu au) [-(aB B),M (.rf 0)] N=.ok (.fz (sD [])) N:=ar (dI (ds:=[]) aw rfl (TX _));let d:=mN (neg:=U) (fd:=aX 1) (ρ:=[-(aB B),M (.rf 0)]) q (aP rfl) (fC []) b;rw[gY,U6]at d;cases g:eC W []with
  |none=>rw[g]at d;show K5 (bK d) (BO (ar bh) (.inl #[rfl,rfl]))
  |some w=>
   rw[g]at d;show jc (bK d) (fJ ?_);let u:bx (dS W) (sD [])=M (br w):=by rw[gY,g];rfl
   let G:=oE (fd:=aX 1) (ρ:=[-(aB B),M (.rf 0)]) (aP rfl) q (fC []) b u;let(_,_,z,v):=Op w;let m:(N++[Cell.lst ((w.lo.map tD).map .fz)])[0]?=M (.dd (dS W)):=hW b;let l:am (cu au) [-(aB B),M (.rf 0)] (N++[Cell.lst ((w.lo.map tD).map .fz)])=.ok (.fz (sD [])) (N++[Cell.lst ((w.lo.map tD).map .fz)]):=ar (dI (ds:=[]) aw rfl (TX _));let o:=oE (fd:=aX 1) (ρ:=[-(aB B),M (.rf 0)]) (aP rfl) l (fC []) m u;let I:zI oW (aQ (o8 (gv (aX 1) (am (cu au))) (am (~~~2))) dH) [-(aB B),M (.rf 0)] N=.ok (.rf N.length) (N++[.lst ((w.lo.map tD).map .fz)]):=EL (xs:=[.fz (.tuple (w.lo.map tD))]) (ds:=[.tuple (w.lo.map tD)]) (aF (tf G (ar bh) z) bJ) rfl rfl;let H:zI oW (aQ (o8 (gv (aX 1) (am (cu au))) (am (~~~3))) dH) [-(aB B),M (.rf 0)] (N++[Cell.lst ((w.lo.map tD).map .fz)])=.ok (.rf (N++[Cell.lst ((w.lo.map tD).map .fz)]).length) (N++[Cell.lst ((w.lo.map tD).map .fz)]++[.lst ((w.sh.map tD).map .fz)]):=EL (xs:=[.fz (.tuple (w.sh.map tD))]) (ds:=[.tuple (w.sh.map tD)]) (aF (tf o (ar bh) v) bJ) rfl rfl;let l1:(N++[Cell.lst ((w.lo.map tD).map SV.fz)]).length=N.length+1:=by rw[SQ];rfl
   show jb (x:=.tp [.rf N.length,.rf (N++[Cell.lst ((w.lo.map tD).map .fz)]).length]) (PK (xs:=[.rf N.length,.rf (N++[Cell.lst ((w.lo.map tD).map .fz)]).length]) (aF I (aF H bJ)) (TH rfl) rfl rfl) (.inr #[w,_,_,rfl,rfl,by rw[l1];ext,hW aG,aG]))
 rcases h with⟨h1,rfl⟩|⟨w,i,j,h1,rfl,F⟩
 .show .inl #[h1,c,e]
 .show .inr #[w,i,j,c,h1,e,F]
def iz(L:G Rp):G (D×D):=L.map λa=>(sD a.1,nd a.2)
theorem JT:∀(C A:G Rp),((A++C).map (·.1)).Nodup->LD.mgD (iz A) (iz C)=iz (A++C)
 |[],A,_=>by rw[TC];rfl
 |c::C,A,h=>by
  show LD.mgD (ja (iz A) (sD c.1) (nd c.2)) (iz C)=_;let e:ja (iz A) (sD c.1) (nd c.2)=iz (A++[c]):=by
   ext ja;rw[ak]
   .ext iz;rw[Tj];rfl
   .intro z;let(f,d):=UD.mp z;let h1:=YS d;let b:=abo d;let(a,g,rfl):=S7.mp h1;let b:SR.eqv (sD a.1) (sD c.1)=U:=b;rw[gH]at b;rw[Tj,Wf]at h;show h.2.2 a.1 (S7.mpr #[a,g,W]) c.1 (S7.mpr #[c,Ta,W]) (a8 b)
  rw[e,JT C (A++[c]) (by rw[Tz];show h),Tz];rfl
theorem Dc:∀{L:G Rp},(L.map (·.1)).Nodup->∀a∈L,bx (iz L) (sD a.1)=M (nd a.2)
 |b::L,h,a,f=>by
  let e:bx (iz (b::L)) (sD a.1)=if b.1=a.1 then M (nd b.2)else bx (iz L) (sD a.1):=by
   unfold bx iz;rw[SX,Tu,gH];by_cases q:b.1=a.1
   .rw[a6 q,ai q];rfl
   .rw[a7 q,ak q]
  rw[e];let(h1,d):=Uh.mp h;rcases Tf.mp f with rfl|f
  .rw[ai W]
  .rw[ak (λz=>h1 (S7.mpr #[a,f,z.symm]))];show Dc d a f
def Gh(r:Rs):LD.keyD (sD r)=U:=by
 let:=fC r;by_cases h:LD.keyD (sD r)=U
 .show h
 .let z:gM (.fz (sD r))=S:=ak h;rw[z]at this;ext this
theorem Ie(L:G Rp):aq LD.pairDD (L.map cK)=M (iz L):=jr λa _=>by show(if LD.keyD (sD a.1)=U then M (sD a.1,nd a.2)else S)=_;rw[ai (Gh a.1)]
theorem r8:∀a b:G (G Nat),SR.eqvAll (a.map tD) (b.map tD)=decide (a=b)
 |[],[]=>rfl
 |[],_::_=>rfl
 |_::_,[]=>rfl
 |x::r,y::t=>by
  show(SR.eqv (.str (tx x)) (.str (tx y))&&SR.eqvAll (r.map tD) (t.map tD))=_;rw[mM,r8 r t];by_cases h1:x=y
  .by_cases d:r=t
   .rw[a6 h1,a6 d,a6 (by rw[h1,d])];rfl
   .rw[a7 d,a7 (λz=>d (VT z).2),YK]
  .rw[a7 h1,a7 (λz=>h1 (VT z).1)];rfl
def D1{a b:G (G Nat)}(d:jE a)(c:jE b):(AJ (.list (a.map tD))&&SR.canLay0 (.list (b.map tD)))=U:=by show((SR.canLayAll0 (a.map tD)&&decide (SR.depthAll (a.map tD)+1<=64))&&SR.canLayAll0 (b.map tD))=U;rw[mP,kI d,kI c];rfl
def xJ{a b:G (G Nat)}(d:jE a)(c:jE b):j7 (.list (a.map tD)) (.list (b.map tD))=-(.bool (decide (a=b))):=by ext j7;rw[ai (D1 d c),show SR.eqv (.list (a.map tD)) (.list (b.map tD))=_ from r8 a b]
def FJ{a b:G (G Nat)}(d:jE a)(c:jE b):tw (.list (a.map tD)) (.list (b.map tD))=-(.bool (!decide (a=b))):=by ext tw;rw[ai (D1 d c),show SR.eqv (.list (a.map tD)) (.list (b.map tD))=_ from r8 a b]
def NL(a b:Nat):j7 (nd a) (nd b)=-(.bool (decide (a=b))):=by rw[gZ];congr 3;show decide_eq_decide.mpr ()
def zh{B:cb Wd}(d:BB B){w:Wy}(f:Ok1 B ([],w))(J:w.p<=1000):bW [aB B,.tuple [.list (w.lo.map tD),.list (w.sh.map tD)],nd w.p]=.ok (.fz (.bool U)):=by
 let h:iK B w.lo:=f.i;let g:iK B w.sh:=f.j;let o:w.p=(wr B w.lo).length:=f.p;let r:wr B w.lo=wr B w.sh:=by let:=f.e;rw[TC]at this;show this
 let l1:=nV d h;let n:=nV d g;rw[<-r]at n;let G:=w9 d h ();let F:=w9 d g ();let E:=dU d h ();let C:=dU d g (by rw[<-r];ext);let ne:w.lo≠w.sh:=λz=>f.u (by show w.lo.head? =w.sh.head?;rw[z]);let A:=xJ (eA d h) (eA d g);rw[a7 ne]at A;let v:=nG (wr B w.lo) (wr B w.sh);rw[a6 r]at v;let I:=fy (wr B w.lo);let t:=NL (wr B w.lo).length w.p;rw[a6 o.symm]at t;let m:dJ (.tuple [.list (w.lo.map tD),.list (w.sh.map tD)]) (.int 0)=-(.list (w.lo.map tD)):=W;let l:dJ (.tuple [.list (w.lo.map tD),.list (w.sh.map tD)]) (.int 1)=-(.list (w.sh.map tD)):=W;let n:eG [.tuple [.list (w.lo.map tD),.list (w.sh.map tD)]]=-(nd 2):=W;let H:tw (nd 2) (.int 2)=-(.bool SW):=W;show gW (ρ:=[-(aB B),-(.tuple [.list (w.lo.map tD),.list (w.sh.map tD)]),-(nd w.p),S]) W ?_;ext cQ;show jN (b:= !U||false) (kU (jz (aV (rP (ae W) W W) W)) λ_=>aV (cN (cJ (rv:=.fz (nd 2)) (ah (ae W) aw) W n) bh W W H) W) (λq=>by ext q) λ_=>cX ?_;show jN (b:= !U||(!U||false)) (kU (jz (aV (gX (ah (aM (rv:=.fz (.list (w.lo.map tD))) (ae W) bh W W m) (ah (ae W) aw)) W W G) W)) λ_=>kU (jz (aV (gX (ah (aM (rv:=.fz (.list (w.sh.map tD))) (ae W) bh W W l) (ah (ae W) aw)) W W F) W)) λ_=>aV (cN (aM (rv:=.fz (.list (w.lo.map tD))) (ae W) bh W W m) (aM (rv:=.fz (.list (w.sh.map tD))) (ae W) bh W W l) W W A) W) (λq=>by ext q) λ_=>cX ?_;show aJ (pv:=.fz (sD (wr B w.lo))) (ρ3:=[-(aB B),-(.tuple [.list (w.lo.map tD),.list (w.sh.map tD)]),-(nd w.p),-(sD (wr B w.lo))]) (bS (rv:=.fz (sD (wr B w.lo))) (ah (ae W) (ah (aM (rv:=.fz (.list (w.lo.map tD))) (ae W) bh W W m) aw)) W W E) W W ?_;show bZ (mS (a:=U) (b:=U) (aV (cN (ae W) (bS (rv:=.fz (sD (wr B w.sh))) (ah (ae W) (ah (aM (rv:=.fz (.list (w.sh.map tD))) (ae W) bh W W l) aw)) W W C) W W v) W) λ_=>cN (cJ (rv:=.fz (nd (wr B w.lo).length)) (ah (ae W) aw) W I) (ae W) W W t) W W
def Mo{L:G Rp}{r:Rs}(h:∀a∈L,a.1≠r):bx (iz L) (sD r)=S:=by unfold bx iz;rw[Xf,WM];intro d b;let(a,e,rfl):=S7.mp b;show¬SR.eqv (sD a.1) (sD r)=U;rw[gH,decide_eq_true_eq];show h a e
def yl{M:Mp}{r:Rs}(h:eC M r=S):∀q∈M,q.1≠r:=by unfold eC at h;rw[Xf]at h;show pZ (by rw[h];simp)
def ri(a b:Bool):tw (.bool a) (.bool b)=-(.bool (!(a==b))):=by ext a<;>ext b<;>rfl
def Bw{n:Nat}(h:0<n):Fm n (-1)=M (n - 1):=by
 ext Fm
 grind
def EV{ds:G D}{d:D}:dJ (.tuple (ds++[d])) (.int (-1))=-(d):=by show(j8 (ds++[d]) (-1)).map RV.fz=_;ext j8;rw[Bw (by simp)];show((ds++[d])[(ds++[d]).length - 1]?).map RV.fz=_;rw[SQ,T9,X3,Tr (SN _),WH];rfl
def u5{B:cb Wd}(n:BB B)(h1:1<=B.length){W:Mp}{L:cb Rp}{j:Nat}{f:aI}(E:Full B W [])(Y:Bd B W [])(p:L.Perm (W.map rp))(T:dE [.fz (aB B)] []=.ok (.rf j) f)(X:f[j]?=cL (.lst ((L.map cK).map .fz)))
  (S:(eC W []=CL/\∃c,aN [.fz (aB B)] []=.ok (.fz .none) c)\/∃w i j c,eC W []=cL w/\aN [.fz (aB B)] []=.ok (.tp [.rf i,.rf j]) c/\i≠j/\c[i]?=cL (.lst ((w.lo.map tD).map .fz))/\c[j]?=cL (.lst ((w.sh.map tD).map .fz))):
  ∃c,aU [.fz (aB B)] []=.ok (.fz (.bool SJ)) c:=by
 let aiG:=j6 n E.iv;let hl:L.length<=140:=by rw[p.length_eq,SI];ext
 let h:(L.map (·.1)).Nodup:=by
  let:(L.map (·.1)).Perm (W.map (·.1)):=by let:=p.map (·.1);rwa [T1]at this
  show this.nodup_iff.mpr E.iv.wn
 obtain⟨c,e,_⟩:∃c,aU [.fz (aB B)] []=.ok (.fz (.bool SJ)) c/\True:=by
  show BG (ρ:=[-(aB B),CL,CL,CL]) rfl ?_;ext dY;let c1:iE dE 1 [.fz (aB B)] []=.ok (.rf 0) [.lst ((L.map cK).map .fz)]:=by show(match dE [.fz (aB B)] []with|.ok x c=>dC x c []|.er x _=>.er x []|.bad=>.bad)=_;rw[T];show(match sh f (.rf j)with|some (.list ds)=>iB [] (.ow ds)|_=>.bad)=_;rw[jV X];rfl
  let K:=Lj (fe:=fV dE 1 (aQ (am (aa 0)) dH)) (ρ:=[-(aB B),CL,CL,CL]) (ω:=[]) (ω1:=[.lst ((L.map cK).map .fz)]) (i:=0) (dw (xs:=[.fz (aB B)]) (aF (ar (ae rfl)) bJ) c1) rfl (Ie L) (by ext iz;rw[SI];ext);rw[show LD.mgD [] (iz L)=iz L from JT L [] h]at K;show bA (x:=.rf 1) (ω1:=[.lst ((L.map cK).map .fz),.dd (iz L)]) (ρ1:=[-(aB B),cL (.rf 1),CL,CL]) K rfl ?_;show fZ (lL (λ_ ρ ω=>∃(t m:cc SV) (J:aI),ρ=[-(aB B),cL (.rf 1),t,m]/\ω=.lst ((L.map cK).map .fz):: .dd (iz L)::J) (ds:=[nd 0,nd 1]) (ω1:=[.lst ((L.map cK).map .fz),.dd (iz L)]) (gQ (kA (ds:=[.int 2]) (ah bh aw) rfl rfl)) #[CL,CL,[],rfl,rfl] ?_ ?_)
  .rintro k d ρ ω hd ⟨t,m,J,rfl,rfl⟩
   show#[[-(aB B),cL (.rf 1),-(d),m],.lst ((L.map cK).map .fz):: .dd (iz L)::J,rfl,?_];let u:∀(a b:cc SV) (ω:aI),am (cu au) [-(aB B),cL (.rf 1),a,b] ω=.ok (.fz (sD [])) ω:=λa b ω=>ar (dI (ds:=[]) aw rfl (TX _));rcases S with⟨hn,c,F⟩|⟨w,i,j,c,Q,F,C,hi,Yw⟩
   .let G:iE aN 1 [.fz (aB B)] (.lst ((L.map cK).map .fz):: .dd (iz L)::J)=.ok (.fz .none) (.lst ((L.map cK).map .fz):: .dd (iz L)::J):=by
     show(match aN [.fz (aB B)] []with|.ok x c=>dC x c _|.er x _=>.er x _|.bad=>.bad)=_;rw[F];rfl
    show bA (x:=.fz .none) (ρ1:=[-(aB B),cL (.rf 1),-(d),-(.none)]) (dw (xs:=[.fz (aB B)]) (aF (ar (ae rfl)) bJ) G) rfl ?_;let Z:bx (iz L) (sD [])=CL:=Mo λa ha=>by let(q,U,rfl):=S7.mp (p.mem_iff.mp ha);show yl hn q U
    let l:=mN (neg:=SJ) (fk:=am (cu au)) (fd:=aX 1) (ρ:=[-(aB B),cL (.rf 1),-(d),-(.none)]) (ω:=.lst ((L.map cK).map .fz):: .dd (iz L)::J) (u _ _ _) (i:=1) (aP rfl) (fC []) rfl;rw[Z]at l;let z:pE .none .none=-(.bool SJ):=rfl;let v:AF .none .none=-(.bool SW):=rfl;show jc (bK (je (x:=.fz (.bool SJ)) (y:=.fz (.bool SJ)) (je (aP rfl) (ar bh) (fS z)) l (fS (ri SJ SJ)))) (fJ ?_);show wO (bK (je (aP rfl) (ar bh) (fS v))) (jp #[_,_,J,rfl,rfl])
   .let G:iE aN 1 [.fz (aB B)] (.lst ((L.map cK).map .fz):: .dd (iz L)::J)=.ok (.tp [.rf (J.length+2),.rf (J.length+3)]) (.lst ((L.map cK).map .fz):: .dd (iz L)::(J++[.lst ((w.lo.map tD).map .fz),.lst ((w.sh.map tD).map .fz)])):=by
     show(match aN [.fz (aB B)] []with|.ok x c=>dC x c _|.er x _=>.er x _|.bad=>.bad)=_;rw[F];show(match uZ c (J.length+2) [.rf i,.rf j]with|some (l',cs,js)=>if js.Nodup then RS.ok (SV.tp l') (_++cs.map Ob)else .bad|none=>.bad)=_;let g:uZ c (J.length+2) [.rf i,.rf j]=cL ([.rf (J.length+2),.rf (J.length+3)],[w.lo.map tD,w.sh.map tD],[i,j]):=by ext uZ;rw[jV hi];dsimp only;ext uZ;rw[jV Yw];rfl
     rw[g];show ai (by simp[C])
    show bA (x:=.tp [.rf (J.length+2),.rf (J.length+3)]) (ρ1:=[-(aB B),cL (.rf 1),-(d),cL (.tp [.rf (J.length+2),.rf (J.length+3)])]) (dw (xs:=[.fz (aB B)]) (aF (ar (ae rfl)) bJ) G) rfl ?_;let r:(Cell.lst ((L.map cK).map .fz)::Cell.dd (iz L)::(J++[Cell.lst ((w.lo.map tD).map .fz),Cell.lst ((w.sh.map tD).map .fz)]))[J.length+2]?=cL (.lst ((w.lo.map tD).map .fz)):=by rw[UJ,UJ];simp
    let o:(Cell.lst ((L.map cK).map .fz)::Cell.dd (iz L)::(J++[Cell.lst ((w.lo.map tD).map .fz),Cell.lst ((w.sh.map tD).map .fz)]))[J.length+3]?=cL (.lst ((w.sh.map tD).map .fz)):=by rw[UJ,UJ];simp
    generalize hJ:J++[Cell.lst ((w.lo.map tD).map SV.fz),Cell.lst ((w.sh.map tD).map .fz)]=J2 at r o;let hm:=iT Q;let A:=E.iv.wk _ hm;let hp:w.p<=6+6*W.length:=Y.w _ hm;let P:((([]:Rs),w.p):Rp)∈L:=p.mem_iff.mpr (S7.mpr #[_,hm,rfl]);let I:bx (iz L) (sD [])=cL (nd w.p):=Dc h _ P;let rt:j5 6 (Cell.lst ((L.map cK).map .fz)::Cell.dd (iz L)::J2) (.tp [.rf (J.length+2),.rf (J.length+3)])=cL (.tuple [.list (w.lo.map tD),.list (w.sh.map tD)]):=by ext j5;let e1:=mV 4 r;let e2:=mV 4 o;show(aq _ [AV.rf (J.length+2),AV.rf (J.length+3)]).map _=_;ext aq;rw[show AV.sv (AV.rf (J.length+2))=.rf (J.length+2)from rfl,e1];dsimp only;ext aq;rw[show AV.sv (AV.rf (J.length+3))=.rf (J.length+3)from rfl,e2];rfl
    let l:=mN (neg:=SJ) (fk:=am (cu au)) (fd:=aX 1) (ρ:=[-(aB B),cL (.rf 1),-(d),cL (.tp [.rf (J.length+2),.rf (J.length+3)])]) (ω:=.lst ((L.map cK).map .fz):: .dd (iz L)::J2) (u _ _ _) (i:=1) (aP rfl) (fC []) rfl;rw[I]at l;let dg:=oE (fk:=am (cu au)) (fd:=aX 1) (ρ:=[-(aB B),cL (.rf 1),-(d),cL (.tp [.rf (J.length+2),.rf (J.length+3)])]) (ω:=.lst ((L.map cK).map .fz):: .dd (iz L)::J2) (i:=1) (aP rfl) (u _ _ _) (fC []) rfl I;let z:pE (.tuple [.list (w.lo.map tD),.list (w.sh.map tD)]) .none=-(.bool SW):=rfl;let v:AF (.tuple [.list (w.lo.map tD),.list (w.sh.map tD)]) .none=-(.bool SJ):=rfl;show jc (bK (je (x:=.fz (.bool SW)) (y:=.fz (.bool SW)) (je (aP rfl) (ar bh) (xl (.inl rfl) rt rfl z rfl)) l (fS (ri SW SW)))) (fJ ?_);show LK (bK (je (aP rfl) (ar bh) (xl (.inl rfl) rt rfl v rfl))) ?_;let lt:=zh n A ();let cl:vW bW 3 (aQ (am (aa 0)) (aQ (aX 3) (aQ (gv (aX 1) (am (cu au))) dH))) [-(aB B),cL (.rf 1),-(d),cL (.tp [.rf (J.length+2),.rf (J.length+3)])] (.lst ((L.map cK).map .fz):: .dd (iz L)::J2)=.ok (.fz (.bool SJ)) (.lst ((L.map cK).map .fz):: .dd (iz L)::J2):=by
     ext vW;rw[aF (x:=.fz (aB B)) (xs:=[.tp [.rf (J.length+2),.rf (J.length+3)],.fz (nd w.p)]) (ar (ae rfl)) (aF (x:=.tp [.rf (J.length+2),.rf (J.length+3)]) (aP rfl) (aF dg bJ)),eJ];ext uN;rw[ai (show[SV.fz (aB B),.tp [.rf (J.length+2),.rf (J.length+3)],.fz (nd w.p)].length=3 from rfl)];let:aq (j5 6 (Cell.lst ((L.map cK).map .fz)::Cell.dd (iz L)::J2)) [SV.fz (aB B),.tp [.rf (J.length+2),.rf (J.length+3)],.fz (nd w.p)]=cL [aB B,.tuple [.list (w.lo.map tD),.list (w.sh.map tD)],nd w.p]:=by ext aq;rw[show j5 6 (Cell.lst ((L.map cK).map .fz)::Cell.dd (iz L)::J2) (.fz (aB B))=cL (aB B)from rfl];dsimp only;ext aq;rw[rt];rfl
     show gr ((RS.T6 _ (aq (j5 6 (Cell.lst ((L.map cK).map .fz)::Cell.dd (iz L)::J2)) [SV.fz (aB B),.tp [.rf (J.length+2),.rf (J.length+3)],.fz (nd w.p)])).bind _)=_;rw[this];show gr (match bW [aB B,.tuple [.list (w.lo.map tD),.list (w.sh.map tD)],nd w.p]with|.ok rv=>jJ _ rv|_=>.bad)=_;rw[lt];rfl
    show jc (kM (b:=SJ) (bK cl)) (fJ ?_);let b0:dJ (aB B) (.int 0)=-(wD B[0]):=NS () (by rw[S3];show(B[0]?).map wD=_;rw[Tc h1];rfl);let H:∀e:Wd,dJ (wD e) (.int 0)=-(tD e.1):=λ_=>rfl;let O:zu (.int 1)=-(.int (-1)):=rfl;let bl:dJ (aB B) (.int (-1))=-(wD B[B.length - 1]):=by
     let e:B.map wD=(B.take (B.length - 1)).map wD++[wD B[B.length - 1]]:=by
      let:B=B.take (B.length - 1)++[B[B.length - 1]]:=by rw[<-UO (show B.length - 1<B.length by ext),show B.length - 1+1=B.length by ext,Uu]
      conv=>lhs;rw[this]
      rw[Tj];rfl
     ext aB;rw[e];show EV
    let ll:w.lo.length<=w.p:=(sj n A).1;let ls:w.sh.length<=w.p:=(sj n A).2;let N:∀ω:aI,L10.o8 (aX 3) (am (~~~0)) [-(aB B),cL (.rf 1),-(d),cL (.tp [.rf (J.length+2),.rf (J.length+3)])] ω=.ok (.rf (J.length+2)) ω:=λω=>by ext L10.o8;rw[aP (x:=.tp [.rf (J.length+2),.rf (J.length+3)]) rfl,eJ,ar (d:=.int 0) bh,eJ];rfl
    let M:∀ω:aI,L10.o8 (aX 3) (am (~~~1)) [-(aB B),cL (.rf 1),-(d),cL (.tp [.rf (J.length+2),.rf (J.length+3)])] ω=.ok (.rf (J.length+3)) ω:=λω=>by ext L10.o8;rw[aP (x:=.tp [.rf (J.length+2),.rf (J.length+3)]) rfl,eJ,ar (d:=.int 1) bh,eJ];rfl
    show sS (vA (x:=.fz (tD B[0].1)) (N _) r (ar (aM (rv:=.fz (tD B[0].1)) (dx:=wD B[0]) (aM (rv:=.fz (wD B[0])) (ae rfl) bh rfl rfl b0) bh rfl rfl (H _))) r (by rw[SI,SI];ext)) ?_;show rT (vA (x:=.fz (tD (B[B.length - 1]).1)) (ys:=(w.sh.map tD).map .fz) (M _) (by rw[fA ()];show o) (ar (aM (rv:=.fz (tD (B[B.length - 1]).1)) (dx:=wD B[B.length - 1]) (aM (rv:=.fz (wD B[B.length - 1])) (dy:=.int (-1)) (ae rfl) (C0 (rv:=.fz (.int (-1))) bh rfl O) rfl rfl bl) bh rfl rfl (H _))) (by rw[fA ()];show o) (by rw[SI,SI];ext)) ?_;show#[_,_,_,rfl,by rw[show J.length+2=(J.length+1)+1 from rfl,show J.length+3=(J.length+2)+1 from rfl];rfl]
  .rintro ρ ω ⟨t,m,J,rfl,rfl⟩;show jb (ar bh) #[rfl,trivial]
 show#[c,e]
def j9(B:G Wd):G Wd:=(B.drop 1++B.take 1).map λe=>(e.1,e.2.reverse)
def tq{B:G Wd}{e:Wd}(h:e∈j9 B):∃f∈B,e=(f.1,f.2.reverse):=by
 let(f,a,rfl):=S7.mp h;show#[f,?_,W];rcases Th.mp a with a|a
 .show ZP a
 .show Wx a
theorem km(B:G Wd):(B.drop 1++B.take 1).Perm B:=Xx.trans (by rw[Uw])
theorem KO{B:G Wd}(h:BB B):BB (j9 B) where
 ZF:=by ext j9;rw[SI,(km B).length_eq];show h.ZF
 nd:=by
  let e:(j9 B).map (·.1)=(B.drop 1++B.take 1).map (·.1):=by ext j9;rw[T1];rfl
  rw[e];show((km B).map (·.1)).nodup_iff.mpr h.nd
 s1:=λe b=>by let(f,a,rfl):=tq b;show 1<=f.2.reverse.length;rw[UP];show h.s1 f a
 s6:=λe b=>by let(f,a,rfl):=tq b;show f.2.reverse.length<=6;rw[UP];show h.s6 f a
 wc:=λe b=>by let(f,a,rfl):=tq b;show h.wc f a
theorem Pu{B:G Wd}{i:Int}(h0:0<=i)(h:i.toNat<B.length):dJ (aB B) (.int i)=-(wD B[i.toNat]):=NS h0 (by rw[S3,Tc h];rfl)
def uW(d:G Int)(a b:Nat):(lI d (M (a:Int)) (M (b:Int))).length<=b - a:=by ext lI;rw[HT.sIx_nat,HT.sIx_nat,T7,Ut];ext
def xQ(xs:G D)(p:Nat):mL (.list xs) S (M (p:Int))=M (.ow (xs.take p)):=by
 let h:M (RV.fz (.tuple (fU xs S (M (p:Int)))))=-(.tuple (xs.take p)):=wq xs p;let:fU xs S (M (p:Int))=xs.take p:=by injection h with h;injection h with h;injection h
 show M (RV.ow (fU xs S (M (p:Int))))=_;rw[this]
def NC(a:Nat):L3.Qm (nd a) (.int 190)=-(.bool (decide (a<=190))):=by show M (RV.fz (.bool (decide ((a:Int)<=190))))=_;congr 3;show decide_eq_decide.mpr ()
def uE{B:cb Wd}(L:BB B)(h1:1<=B.length)(cs:cb Int)(O:cs.length<=63){b:Int}(K:1<=b)(J:b<=7):∃ws,iK B ws/\(wr B ws).length<=190/\eu [aB B,.list (cs.map .int),.int b]=.ok (.ow (ws.map tD)):=by
 let(X,e,ws,P,j,rfl):=gC (ds:=[aB B,.list (cs.map .int),.int b]) (n:=8) (g:=da) (ρ:=[-(aB B),-(.list (cs.map .int)),-(.int b),S,S,S,S,S]) (T:=λv=>∃ws,iK B ws/\(wr B ws).length<=190/\v=.ow (ws.map tD)) W (by
  ext da;show aJ (pv:=.ow []) (ρ3:=[-(aB B),-(.list (cs.map .int)),-(.int b),cL (.ow []),S,S,S,S]) (by walk_at "evp") W W ?_;show aJ (pv:=.fz (.int 0)) (ρ3:=[-(aB B),-(.list (cs.map .int)),-(.int b),cL (.ow []),-(nd 0),S,S,S]) bh W W ?_;show eg (λi Q=>∃ws p m l,iK B ws/\(wr B ws).length<=190/\ws.length<=i/\Q=[-(aB B),-(.list (cs.map .int)),-(.int b),cL (.ow (ws.map tD)),-(nd (wr B ws).length),p,m,l]) (ds:=cs.map .int) (ρ1:=[-(aB B),-(.list (cs.map .int)),-(.int b),cL (.ow []),-(nd 0),S,S,S]) (gj (d:=.list (cs.map .int)) (ae W) W W) #[[],S,S,S,λ_ h=>(by ext h),by rw[i8];show TX _,SN _,W] ?_ ?_
  .rintro i d Q t ⟨ws,p,m,l,P,j,z,rfl⟩
   let H:i<cs.length:=by let:=(SK.mp t).1;rwa [SI]at this
   rw[S3]at t;let(c,I,rfl):=Uj.mp t;show#[[-(aB B),-(.list (cs.map .int)),-(.int b),cL (.ow (ws.map tD)),-(nd (wr B ws).length),-(.int c),m,l],W,?_];let(r,N,er):=mG c b () ();let M:bT (.int r) (.int b)=-(.int (r/b)):=cf #[by ext,by ext];let G:=QZ B;let F:bf (.int (r/b)) (.int (B.length:Int))=-(.int (r/b % (B.length:Int))):=bj ();let E:0<=r/b % (B.length:Int):=TF _ ();let a:(r/b % (B.length:Int)).toNat<B.length:=by let:=TL (r/b) (show(0:Int)<(B.length:Int) by ext);ext
   let w:=Pu (B:=B) E a;let q:B[(r/b % (B.length:Int)).toNat]∈B:=UU _;generalize B[(r/b % (B.length:Int)).toNat]=f at w q;show aJ (pv:=.fz (wD f)) (ρ3:=[-(aB B),-(.list (cs.map .int)),-(.int b),cL (.ow (ws.map tD)),-(nd (wr B ws).length),-(.int c),-(tD f.1),-(sD f.2)]) (aM (rv:=.fz (wD f)) (ae W) (aM (rv:=.fz (.int (r/b % (B.length:Int)))) (aM (rv:=.fz (.int (r/b))) (bS (rv:=.fz (.int r)) (ah (ae W) (ah (ae W) aw)) W W er) (ae W) W W M) (cJ (rv:=.fz (.int (B.length:Int))) (ah (ae W) aw) W G) W W F) W W w) W W ?_;let u:=fy f.2;let C:=Bu (wr B ws).length f.2.length;let le:=NC ((wr B ws).length+f.2.length);show lU (b:=decide ((wr B ws).length+f.2.length<=190)) (aV (cN (dx:=nd ((wr B ws).length+f.2.length)) (aM (rv:=.fz (nd ((wr B ws).length+f.2.length))) (ae W) (cJ (rv:=.fz (nd f.2.length)) (ah (ae W) aw) W u) W W C) bh W W le) W) (λo=>?_) λo=>?_
   .let o:=a8 o
    let A:wr B (ws++[f.1])=wr B ws++f.2:=by rw[jw,iq L.nd q];rfl
    show si (gF (d:=tD f.1) (x:=[-(aB B),-(.list (cs.map .int)),-(.int b),cL (.ow (ws.map tD++[tD f.1])),-(nd (wr B ws).length),-(.int c),-(tD f.1),-(sD f.2)]) W (ae W) W W (by rw[SI];ext) W) ?_;show xf (pv:=.fz (nd ((wr B ws).length+f.2.length))) (aM (rv:=.fz (nd ((wr B ws).length+f.2.length))) (ae W) (cJ (rv:=.fz (nd f.2.length)) (ah (ae W) aw) W u) W W C) W #[ws++[f.1],-(.int c),-(tD f.1),-(sD f.2),λx a=>?_,?_,?_,?_]
    .rcases Th.mp a with a|a
     .show P x a
     .rw[S6.mp a];show S7.mpr #[f,q,W]
    .rw[A,SQ];show o
    .rw[SQ];simp;show z
    .rw[A,SQ,Tj];rfl
   .show ik #[ws,_,_,_,P,j,by ext,W]
  .rintro Q ⟨ws,p,m,l,P,j,z,rfl⟩;show bZ (dW W) W #[ws,P,j,W])
 show#[ws,P,j,e]
theorem uo{B:G Wd}{ws:G (G Nat)}(h:iK B ws)(n:Nat):iK B (ws.take n):=λx a=>h x (Wx a)
def yq{B:G Wd}(ws:G (G Nat))(n:Nat):(wr B (ws.take n)).length<=(wr B ws).length:=by
 conv=>rhs;rw[<-Uw n ws,wH,SQ]
 ext
def PN{B:G Wd}(a:aI)(h:aU [.fz (aB B)] []=.ok (.fz (.bool U)) a)(b:aI):iE aU 1 [.fz (aB B)] b=.ok (.fz (.bool U)) b:=by show(match aU [.fz (aB B)] []with|.ok x a=>dC x a b|.er x _=>.er x b|.bad=>.bad)=_;rw[h];rfl
def RA{B:G Wd}(d:BB B){ws:G (G Nat)}(e:iK B ws)(b:ws.length<=1000)(c:aI):iE dQ 2 [.fz (aB B),.fz (.list (ws.map tD))] c=.ok (.fz (sD (wr B ws))) c:=by let(a,h):=w6 d e b;show(match dQ [.fz (aB B),.fz (.list (ws.map tD))] []with|.ok x a=>dC x a c|.er x _=>.er x c|.bad=>.bad)=_;rw[h];rfl
def Sq{B:G Wd}(d:BB B){ss:Rs}(a:ss.length<=1000)(b:QK B ss)(c:aI):∃ws,iK B ws/\ws.length<=ss.length/\wr B ws=ss/\iE bH 2 [.fz (aB B),.fz (sD ss)] c=.ok (.rf c.length) (c++[.lst ((ws.map tD).map .fz)]):=by
 rcases Gw d ss a with h|⟨ws,i,e,h1,l,j,g,f⟩
 .show b9 b h
 .show#[ws,h1,l,j,?_];show(match bH [.fz (aB B),.fz (sD ss)] []with|.ok x e=>dC x e c|.er x _=>.er x c|.bad=>.bad)=_;rw[g];show(match sh e (.rf i)with|some (.list ds)=>iB c (.ow ds)|_=>.bad)=_;rw[jV f];rfl
theorem QR{B:G Wd}(g:BB B){W:Mp}(f:Full B W [])(c:eC W []=S){X Y:G (G Nat)}(b:iK B X)(a:iK B Y)(e:wr B X=wr B Y):X=Y:=Classical.byContradiction λi=>by let(q,d,h,_):=MX g f b a i e;show yl c q d h
def Cv{B:G Wd}(p:BB B){W:Mp}(o:Full B W []){ρ:aH}(a:am (aa 1) ρ []=.ok (.fz (aB B)) [])
  (n:(eC W []=S/\∃c,aN [.fz (aB B)] []=.ok (.fz .none) c)\/∃w i j c,eC W []=M w/\aN [.fz (aB B)] []=.ok (.tp [.rf i,.rf j]) c/\i≠j/\c[i]?=M (.lst ((w.lo.map tD).map .fz))/\c[j]?=M (.lst ((w.sh.map tD).map .fz))):
  ∃(cl:Bool) (k:aI),AK pE (fV aN 1 (aQ (am (aa 1)) dH)) (am (pC .none)) ρ []=.ok (.fz (.bool cl)) k/\(cl=U->∀X Y,iK B X->iK B Y->wr B X=wr B Y->X=Y):=by
 rcases n with⟨v,c,f⟩|⟨w,i,j,c,r,f,d,A,q⟩
 .let h:iE aN 1 [.fz (aB B)] []=.ok (.fz .none) []:=by
   show(match aN [.fz (aB B)] []with|.ok x c=>dC x c _|.er x _=>.er x _|.bad=>.bad)=_;rw[f];rfl
  let b:pE .none .none=-(.bool U):=rfl;show#[U,[],je (dw (xs:=[.fz (aB B)]) (aF a bJ) h) (ar bh) (fS b),λ_ X Y m l e=>QR p o v m l e]
 .let h:iE aN 1 [.fz (aB B)] []=.ok (.tp [.rf 0,.rf 1]) [.lst ((w.lo.map tD).map .fz),.lst ((w.sh.map tD).map .fz)]:=by
   show(match aN [.fz (aB B)] []with|.ok x c=>dC x c _|.er x _=>.er x _|.bad=>.bad)=_;rw[f];show(match uZ c 0 [.rf i,.rf j]with|some (t,cs,u)=>if u.Nodup then RS.ok (SV.tp t) (_++cs.map Ob)else .bad|none=>.bad)=_;let g:uZ c 0 [.rf i,.rf j]=M ([.rf 0,.rf 1],[w.lo.map tD,w.sh.map tD],[i,j]):=by ext uZ;rw[jV A];dsimp only;ext uZ;rw[jV q];rfl
   rw[g];show ai (by simp[d])
  let rt:j5 6 [.lst ((w.lo.map tD).map .fz),.lst ((w.sh.map tD).map .fz)] (.tp [.rf 0,.rf 1])=M (.tuple [.list (w.lo.map tD),.list (w.sh.map tD)]):=by ext j5;let e1:=mV (ω:=[.lst ((w.lo.map tD).map .fz),.lst ((w.sh.map tD).map .fz)]) (i:=0) (ds:=w.lo.map tD) 4 rfl;let e2:=mV (ω:=[.lst ((w.lo.map tD).map .fz),.lst ((w.sh.map tD).map .fz)]) (i:=1) (ds:=w.sh.map tD) 4 rfl;show(aq _ [AV.rf 0,AV.rf 1]).map _=_;ext aq;rw[show AV.sv (AV.rf 0)=.rf 0 from rfl,e1];dsimp only;ext aq;rw[show AV.sv (AV.rf 1)=.rf 1 from rfl,e2];rfl
  let b:pE (.tuple [.list (w.lo.map tD),.list (w.sh.map tD)]) .none=-(.bool SW):=rfl;show#[SW,_,je (dw (xs:=[.fz (aB B)]) (aF a bJ) h) (ar bh) (xl (.inl rfl) rt rfl b rfl),λz=>by ext z]
theorem JI(d:D)(a:aI):frz 4 a (.fz d)=M (d,a):=W
def main(i:cb Int)(c:i.length<=63):L10.PF F_law [.list (i.map .int)]=.ok (.fz (.bool SJ)):=by
 let(B,r,eb):=IC i c (a:=0) (aet _);let g:=r.bb;let h1:=r.l1;let hO:=KO g;let K:1<=(j9 B).length:=by ext j9;rw[SI,(km B).length_eq];show h1
 let(W,L,j,ωr,hF,hD,p,hr,hj,ht):=y8 g;let(W2,L2,j2,Q,M,N,p2,J,Yw,I):=y8 hO;let(A,ea):=u5 g h1 hF hD p hr hj ht;let(w,ec):=u5 hO K M N p2 J Yw I;let H:∃x m,F_law [.fz (.list (i.map .int))] []=.ok x m/\x=.fz (.bool SJ):=by
  show jU (T:=λx _=>x=.fz (.bool SJ)) (ρ:=[-(.list (i.map .int)),CL,CL,CL,CL,CL,CL,CL]) rfl ?_;ext uU;let s3:∀a b:Int,mL (.list (i.map .int)) (cL a) (cL b)=cL (.ow ((lI i (cL a) (cL b)).map .int)):=λa b=>by show cL (RV.ow (fU _ _ _))=_;congr 2;unfold fU lI;rw[SI,Wv,WX]
  let P:=s3 14 63;let O:=s3 40 63;let n1:(lI i (cL 14) (cL 63)).length<=49:=uW i 14 63;let n2:(lI i (cL 40) (cL 63)).length<=23:=uW i 40 63;generalize lI i (cL 14) (cL 63)=cs1 at P n1;generalize lI i (cL 40) (cL 63)=cs2 at O n2;let(one,io,Z,eo):=uE g h1 cs1 () (b:=1) () ();let(f,iw,U,ew):=uE g h1 cs2 () (b:=7) () ();generalize hS:SR.list (i.map .int)=S at eb P O;show bA (x:=.fz (aB B)) (ω1:=[]) (ρ1:=[-(S),-(aB B),CL,CL,CL,CL,CL,CL]) (ar (bS (rv:=.fz (aB B)) (ah (ae rfl) (ah bh aw)) rfl rfl eb)) rfl ?_;let h20:=g.ZF;let s1:mL (aB B) (cL 1) CL=-(.tuple ((B.map wD).drop 1)):=tX (B.map wD) 1;let s2:mL (aB B) CL (cL 1)=-(.tuple ((B.map wD).take 1)):=wq (B.map wD) 1;let ad:sr (.tuple ((B.map wD).drop 1)) (.tuple ((B.map wD).take 1))=-(.tuple ((B.drop 1++B.take 1).map wD)):=by rw[Fb _ _ (by rw[Ut,T7,SI];ext),Tj,WX,Wv]
  let t:lj (dL (gT 2 (kH (gN 0) (kH (gN 1) vg))) d5 (cu {aa 0,Fj L9.AD (aa 1)}) ((B.drop 1++B.take 1).map wD) [CL,CL] [])=.ok ((B.drop 1++B.take 1).map λe=>wD (e.1,e.2.reverse)):=by
   show mK (λρ=>∃o p,ρ=[o,p]) _ (by rw[(km B).length_eq];ext) #[CL,CL,rfl] ?_;rintro e _ ρ ⟨o,p,rfl⟩;let rv:L9.AD (sD e.2)=-(sD e.2.reverse):=by show cL (RV.fz (.tuple (e.2.map kD).reverse))=_;ext sD;rw[Xd]
   show#[_,GM rfl rfl (dI (ds:=[tD e.1,sD e.2.reverse]) (ah (ae rfl) (ah (C0 (rv:=.fz (sD e.2.reverse)) (ae rfl) rfl rv) aw)) rfl (TH rfl)) rfl rfl,_,_,rfl]
  let em:((B.drop 1++B.take 1).map λe=>wD (e.1,e.2.reverse))=(j9 B).map wD:=by ext j9;rw[T1];rfl
  rw[em]at t;let tp:kG [.list ((j9 B).map wD)]=-(aB (j9 B)):=rfl;show bA (x:=.fz (aB (j9 B))) (ω1:=[]) (ρ1:=[-(S),-(aB B),-(aB (j9 B)),CL,CL,CL,CL,CL]) (qM (ar (cJ (rv:=.fz (aB (j9 B))) (ah (kl (gj (d:=.tuple ((B.drop 1++B.take 1).map wD)) (aM (rv:=.fz (.tuple ((B.drop 1++B.take 1).map wD))) (ji (rv:=.fz (.tuple ((B.map wD).drop 1))) (ae rfl) (b5 bh rfl) dX rfl s1) (ji (rv:=.fz (.tuple ((B.map wD).take 1))) (ae rfl) dX (b5 bh rfl) rfl s2) rfl rfl ad) rfl rfl) rfl t) aw) rfl tp)) (JI _ _)) rfl ?_;let k1:=dw (F:=aU) (n:=1) (fa:=aQ (am (aa 1)) dH) (ρ:=[-(S),-(aB B),-(aB (j9 B)),CL,CL,CL,CL,CL]) (ω:=[]) (xs:=[.fz (aB B)]) (aF (ar (ae rfl)) bJ) (PN A ea []);let k2:=dw (F:=aU) (n:=1) (fa:=aQ (am (aa 2)) dH) (ρ:=[-(S),-(aB B),-(aB (j9 B)),CL,CL,CL,CL,CL]) (ω:=[]) (xs:=[.fz (aB (j9 B))]) (aF (ar (ae rfl)) bJ) (PN w ec []);show jc (tV (kM (b:=SJ) (bK k1)) (tV (kM (b:=SJ) (bK k2)) (kM (b:=SJ) (bK k1)))) (fJ ?_);let(cl,ω3,ek,hu):=Cv g hF (ρ:=[-(S),-(aB B),-(aB (j9 B)),CL,CL,CL,CL,CL]) (ar (ae rfl)) ht;show bA (ρ1:=[-(S),-(aB B),-(aB (j9 B)),-(.bool cl),CL,CL,CL,CL]) ek rfl ?_;show bA (ρ1:=[-(S),-(aB B),-(aB (j9 B)),-(.bool cl),-(.list (one.map tD)),CL,CL,CL]) (mE (bS (rv:=.ow (one.map tD)) (ah (ae rfl) (ah (ji (rv:=.ow (cs1.map .int)) (ae rfl) (b5 bh rfl) (b5 bh rfl) rfl P) (ah bh aw))) rfl rfl eo)) rfl ?_;show bA (ρ1:=[-(S),-(aB B),-(.list (f.map tD)),-(.bool cl),-(.list (one.map tD)),CL,CL,CL]) (mE (bS (rv:=.ow (f.map tD)) (ah (ae rfl) (ah (ji (rv:=.ow (cs2.map .int)) (ae rfl) (b5 bh rfl) (b5 bh rfl) rfl O) (ah bh aw))) rfl rfl ew)) rfl ?_;let ln:eG [.list (f.map tD)]=-(nd f.length):=by let:=nO (f.map tD);rw[SI]at this;show this
  let t1:=xQ (one.map tD) f.length;let t2:mL (.list (f.map tD)) CL (cL 3)=cL (.ow ((f.map tD).take 3)):=xQ (f.map tD) 3;rw[<-Wv]at t1 t2;show fZ (lL (λ_ ρ _=>∃(E u q:cc SV),ρ=[-(S),-(aB B),-(.list (f.map tD)),-(.bool cl),-(.list (one.map tD)),E,u,q]) (ds:=[.list (one.map tD),.list (f.map tD),.list ((one.take f.length).map tD),.list ((f.take 3).map tD)]) (gQ (gj (d:=.list [.list (one.map tD),.list (f.map tD),.list ((one.take f.length).map tD),.list ((f.take 3).map tD)]) (wa (ah (ae rfl) (ah (ae rfl) (ah (ji (rv:=.ow ((one.take f.length).map tD)) (ae rfl) dX (b5 (cJ (rv:=.fz (nd f.length)) (ah (ae rfl) aw) rfl ln) rfl) rfl t1) (ah (ji (rv:=.ow ((f.take 3).map tD)) (ae rfl) dX (b5 bh rfl) rfl t2) aw)))) rfl (TH rfl)) rfl rfl)) #[CL,CL,CL,rfl] ?_ ?_)
  .rintro k d ρ ω hd ⟨E,u,q,rfl⟩
   obtain⟨X,l,wX,rfl⟩:∃X,iK B X/\(wr B X).length<=190/\d=.list (X.map tD):=by
    let hm:=Te hd;simp only[Tf,Wq,or_false]at hm;rcases hm with rfl|rfl|rfl|rfl
    .show#[one,io,Z,rfl]
    .show#[f,iw,U,rfl]
    .show#[_,uo io _,S9 (yq _ _) Z,rfl]
    .show#[_,uo iw _,S9 (yq _ _) U,rfl]
   show#[[-(S),-(aB B),-(.list (f.map tD)),-(.bool cl),-(.list (one.map tD)),-(.list (X.map tD)),u,q],ω,rfl,?_];let lX:=nV g l;let lo:=nV g io;let li:∀ws:cb (cb Nat),oW [.list (ws.map tD)]=cL (.ow (ws.map tD)):=λ_=>rfl;show bA (x:=.fz (sD (wr B X))) (ω1:=ω++[.dead]) (ρ1:=[-(S),-(aB B),-(.list (f.map tD)),-(.bool cl),-(.list (one.map tD)),-(.list (X.map tD)),-(sD (wr B X)),q]) (qM (dw (xs:=[.fz (aB B),.fz (.list (X.map tD))]) (aF (ar (ae rfl)) (aF (mE (cJ (rv:=.ow (X.map tD)) (ah (ae rfl) aw) rfl (li X))) bJ)) (RA g l () _)) (JI _ _)) rfl ?_;let w1:=dU g l ();let G:=KC (wr B X) (wr B X);rw[a6 rfl]at G;show jc (eS (b:=SW) (aV (cN (ae rfl) (bS (rv:=.fz (sD (wr B X))) (ah (ae rfl) (ah (ae rfl) aw)) rfl rfl w1) rfl rfl G) rfl)) (fJ ?_);let(Y,v,lY,C,eY):=Sq g (ss:=wr B X) () #[X,l,rfl] (ω++[.dead]);show bA (x:=.fz (.list (Y.map tD))) (ω1:=ω++[.dead]++[.dead]) (ρ1:=[-(S),-(aB B),-(.list (f.map tD)),-(.bool cl),-(.list (one.map tD)),-(.list (X.map tD)),-(sD (wr B X)),-(.list (Y.map tD))]) (qM (dw (xs:=[.fz (aB B),.fz (sD (wr B X))]) (aF (ar (ae rfl)) (aF (ar (ae rfl)) bJ)) eY) (by rw[rA aG];simp)) rfl ?_;let r1:=w9 g v ();let w2:=dU g v (by rw[C];ext);rw[C]at w2;let q2:=FJ (eA g v) (eA g l);let cY:cl=SJ->Y=X:=λh=>hu h Y X v l C;let b0:(!SJ||(SW||(cl&& !decide (Y=X))))=SW:=by
    cases hc:cl with
    |false=>rfl
    |true=>rw[a6 (cY hc)];rfl
   show jc (eS (b:=SW) (b0▸kU (jz (aV (gX (ah (ae rfl) (ah (ae rfl) aw)) rfl rfl r1) rfl)) λ_=>kU (aV (cN (bS (rv:=.fz (sD (wr B X))) (ah (ae rfl) (ah (ae rfl) aw)) rfl rfl w2) (ae rfl) rfl rfl G) rfl) λ_=>sf (aV (ae rfl) rfl) λ_=>aV (cN (ae rfl) (ae rfl) rfl rfl q2) rfl)) (fJ ?_);cases hc:cl with
   |false=>show wO (Ag (eS (aV (ae rfl) rfl))) (jp #[_,_,_,rfl])
   |true=>let q3:=xJ (eA g l) (eA g io);let q4:=nG (wr B X) (wr B one);let same:decide (X=one)=decide (wr B X=wr B one):=decide_eq_decide.mpr #[λz=>by rw[z],λz=>hu hc X one l io z];let nb:=ri (decide (X=one)) (decide (wr B X=wr B one));rw[same,ey]at nb;rw[same]at q3;show wO (Aa (eS (aV (ae rfl) rfl)) (bK (je (x:=.fz (.bool (decide (wr B X=wr B one)))) (y:=.fz (.bool (decide (wr B X=wr B one)))) (ar (cN (ae rfl) (ae rfl) rfl rfl q3)) (je (ar (ae rfl)) (dw (xs:=[.fz (aB B),.fz (.list (one.map tD))]) (aF (ar (ae rfl)) (aF (mE (cJ (rv:=.ow (one.map tD)) (ah (ae rfl) aw) rfl (li one))) bJ)) (RA g io () _)) (fS q4)) (fS nb)))) (jp #[_,_,_,rfl])
  .rintro ρ ω ⟨E,u,q,rfl⟩;show jb (ar bh) rfl
 let(x,m,h1,rfl):=H;ext L10.PF;rw[show([SR.list (i.map .int)].map SV.fz)=[.fz (.list (i.map .int))]from rfl,h1]
end K64
namespace K64
open PySem L2 L3 L10 CC
set_option synthInstance.maxHeartbeats 400000
set_option synthInstance.maxSize 4000
def top(i:Nat):Vz:=PySem.Challenge.pw_chordbed_k64_whole_clear_or_twofold.main.body.getD i (.Pass ⟨0,0,0,0⟩)
def ci:G CC.Fd:=[CC.Xh 1 "_law_cell" ["_law_script","_law_k"] 2 bP,
 CC.Xh 1 "_law_stirred" ["_law_cell_here","_law_salt"] 2 bI,
 CC.Xh 2 "_law_stream" ["_law_cell_here","_law_many"] 2 eP,
 CC.Xh 1 "_law_name_of" ["_law_rest"] 1 ei,
 CC.Xh 1 "_law_stroke_of" ["_law_rest"] 1 c7,
 CC.Xh 2 "_law_read_book" ["_law_xs"] 1 c9,
 CC.Xh 2 "_law_wide" ["_law_cell_here","_law_salt"] 2 bD,
 CC.Xh 1 "_law_names" ["_law_cell_here","_law_many"] 2 d7,
 CC.Xh 1 "_law_stroke" ["_law_cell_here","_law_wide_here"] 2 df,
 CC.Xh 3 "_law_book" ["_law_script","_law_at"] 2 gl,
 CC.Xh 1 "begins" ["part","whole"] 2 fY,
 CC.Xh 2 "first_ways" ["book"] 1 d8,
 CC.Xh 2 "next_ways" ["book","way"] 2 eX,
 CC.Xh 1 "_law_written" ["_law_book_here","_law_words"] 2 bp,
 CC.Xh 1 "_law_row" ["_law_found","_law_book_here"] 2 dF,
 CC.Xh 2 "_law_twofold" ["_law_book_here","_law_found","_law_price"] 3 bW,
 CC.Xh 3 "_law_drawn" ["_law_book_here","_law_cells","_law_by"] 3 eu,
 CC.YR 3 "offer" ["offers","ways"] 2 kr,
 CC.YR 4 "cheapest_ways" ["book"] 1 bu,
 CC.YR 5 "rests" ["book"] 1 dE,
 CC.YR 5 "twofold" ["book"] 1 aN,
 CC.YR 6 "_law_asked" ["_law_book_here"] 1 aU,
 CC.YR 3 "last_words_of" ["book","strokes"] 2 bN,
 CC.YR 4 "read_strokes" ["book","strokes"] 2 bH,
 CC.YR 3 "written" ["book","words"] 2 dQ]
def kQ:CC.Md:=⟨["max","range","tuple","len","isinstance","list","all","str","min","sorted","dict","reversed"],[],[],[]⟩
noncomputable instance:CC.Fn ci CC.Xh bP 2:=⟨0,1,"_law_cell",["_law_script","_law_k"],W⟩
noncomputable instance:CC.Fn ci CC.Xh bI 2:=⟨1,1,"_law_stirred",["_law_cell_here","_law_salt"],W⟩
noncomputable instance:CC.Fn ci CC.Xh eP 2:=⟨2,2,"_law_stream",["_law_cell_here","_law_many"],W⟩
noncomputable instance:CC.Fn ci CC.Xh ei 1:=⟨3,1,"_law_name_of",["_law_rest"],W⟩
noncomputable instance:CC.Fn ci CC.Xh c7 1:=⟨4,1,"_law_stroke_of",["_law_rest"],W⟩
noncomputable instance:CC.Fn ci CC.Xh c9 1:=⟨5,2,"_law_read_book",["_law_xs"],W⟩
noncomputable instance:CC.Fn ci CC.Xh bD 2:=⟨6,2,"_law_wide",["_law_cell_here","_law_salt"],W⟩
noncomputable instance:CC.Fn ci CC.Xh d7 2:=⟨7,1,"_law_names",["_law_cell_here","_law_many"],W⟩
noncomputable instance:CC.Fn ci CC.Xh df 2:=⟨8,1,"_law_stroke",["_law_cell_here","_law_wide_here"],W⟩
noncomputable instance:CC.Fn ci CC.Xh gl 2:=⟨9,3,"_law_book",["_law_script","_law_at"],W⟩
noncomputable instance:CC.Fn ci CC.Xh fY 2:=⟨10,1,"begins",["part","whole"],W⟩
noncomputable instance:CC.Fn ci CC.Xh d8 1:=⟨11,2,"first_ways",["book"],W⟩
noncomputable instance:CC.Fn ci CC.Xh eX 2:=⟨12,2,"next_ways",["book","way"],W⟩
noncomputable instance:CC.Fn ci CC.Xh bp 2:=⟨13,1,"_law_written",["_law_book_here","_law_words"],W⟩
noncomputable instance:CC.Fn ci CC.Xh dF 2:=⟨14,1,"_law_row",["_law_found","_law_book_here"],W⟩
noncomputable instance:CC.Fn ci CC.Xh bW 3:=⟨15,2,"_law_twofold",["_law_book_here","_law_found","_law_price"],W⟩
noncomputable instance:CC.Fn ci CC.Xh eu 3:=⟨16,3,"_law_drawn",["_law_book_here","_law_cells","_law_by"],W⟩
noncomputable instance:CC.Fn ci CC.YR kr 2:=⟨17,3,"offer",["offers","ways"],W⟩
noncomputable instance:CC.Fn ci CC.YR bu 1:=⟨18,4,"cheapest_ways",["book"],W⟩
noncomputable instance:CC.Fn ci CC.YR dE 1:=⟨19,5,"rests",["book"],W⟩
noncomputable instance:CC.Fn ci CC.YR aN 1:=⟨20,5,"twofold",["book"],W⟩
noncomputable instance:CC.Fn ci CC.YR aU 1:=⟨21,6,"_law_asked",["_law_book_here"],W⟩
noncomputable instance:CC.Fn ci CC.YR bN 2:=⟨22,3,"last_words_of",["book","strokes"],W⟩
noncomputable instance:CC.Fn ci CC.YR bH 2:=⟨23,4,"read_strokes",["book","strokes"],W⟩
noncomputable instance:CC.Fn ci CC.YR dQ 2:=⟨24,3,"written",["book","words"],W⟩
noncomputable instance k0:CC.CS ci (CC.so eW):=by delta eW;infer_instance
def e0:CC.XZ ci (CC.so eW) kQ ["_law_script","_law_k"] ["_law_script","_law_k"] (top 16) 0 0 SW=U:=by decide+kernel
noncomputable instance k1:CC.CS ci (CC.so cS):=by delta cS;infer_instance
def e1:CC.XZ ci (CC.so cS) kQ ["_law_cell_here","_law_salt","_law_number"] ["_law_cell_here","_law_salt"] (top 17) 0 1 SW=U:=by decide+kernel
noncomputable instance k2:CC.CS ci (CC.so cz):=by delta cz;infer_instance
def e2:CC.XZ ci (CC.so cz) kQ ["_law_cell_here","_law_many","_law_found","_law_left","_law_k","_law_x","_law_j"] ["_law_cell_here","_law_many"] (top 19) 1 2 SW=U:=by decide+kernel
noncomputable instance k3:CC.CS ci (CC.so bX):=by delta bX;infer_instance
def e3:CC.XZ ci (CC.so bX) kQ ["_law_rest","_law_word","_law_many","_law_k"] ["_law_rest"] (top 23) 0 3 SW=U:=by decide+kernel
noncomputable instance k4:CC.CS ci (CC.so bF):=by delta bF;infer_instance
def e4:CC.XZ ci (CC.so bF) kQ ["_law_rest","_law_mask","_law_found","_law_key"] ["_law_rest"] (top 24) 0 4 SW=U:=by decide+kernel
noncomputable instance k5:CC.CS ci (CC.so bE):=by delta bE;infer_instance
def e5:CC.XZ ci (CC.so bE) kQ ["_law_xs","_law_found","_law_k","_law_word","_law_strokes_here","_law_rest","_law_j"] ["_law_xs"] (top 25) 1 5 SW=U:=by decide+kernel
noncomputable instance k6:CC.CS ci (CC.so dM):=by delta dM;infer_instance
def e6:CC.XZ ci (CC.so dM) kQ ["_law_cell_here","_law_salt"] ["_law_cell_here","_law_salt"] (top 18) 1 6 SW=U:=by decide+kernel
noncomputable instance k7:CC.CS ci (CC.so dc):=by delta dc;infer_instance
def e7:CC.XZ ci (CC.so dc) kQ ["_law_cell_here","_law_many","_law_letters","_law_sign","_law_size","_law_at","_law_found","_law_k","_law_other"] ["_law_cell_here","_law_many"] (top 22) 0 7 SW=U:=by decide+kernel
noncomputable instance k8:CC.CS ci (CC.so cE):=by delta cE;infer_instance
def e8:CC.XZ ci (CC.so cE) kQ ["_law_cell_here","_law_wide_here","_law_some","_law_bits","_law_keys","_law_key"] ["_law_cell_here","_law_wide_here"] (top 21) 0 8 SW=U:=by decide+kernel
noncomputable instance k9:CC.CS ci (CC.so dP):=by delta dP;infer_instance
def e9:CC.XZ ci (CC.so dP) kQ ["_law_script","_law_at","_law_first","_law_sort","_law_many","_law_most","_law_names_here","_law_found","_law_k","_law_cell_here","_law_strokes_here","_law_j"] ["_law_script","_law_at"] (top 26) 2 9 SW=U:=by decide+kernel
noncomputable instance k10:CC.CS ci (CC.so iW):=by delta iW;infer_instance
def Sv:CC.XZ ci (CC.so iW) kQ ["part","whole"] ["part","whole"] (top 7) 0 10 SW=U:=by decide+kernel
noncomputable instance k11:CC.CS ci (CC.so dZ):=by delta dZ;infer_instance
def RT:CC.XZ ci (CC.so dZ) kQ ["book","ways","one","part","other","whole"] ["book"] (top 5) 1 11 SW=U:=by decide+kernel
noncomputable instance k12:CC.CS ci (CC.so eV):=by delta eV;infer_instance
def Sf:CC.XZ ci (CC.so eV) kQ ["book","way","price","rest","ways","word","strokes","over"] ["book","way"] (top 6) 1 12 SW=U:=by decide+kernel
noncomputable instance k13:CC.CS ci (CC.so cM):=by delta cM;infer_instance
def Sy:CC.XZ ci (CC.so cM) kQ ["_law_book_here","_law_words","_law_found","_law_word","_law_name","_law_strokes_here"] ["_law_book_here","_law_words"] (top 27) 0 13 SW=U:=by decide+kernel
noncomputable instance k14:CC.CS ci (CC.so gc):=by delta gc;infer_instance
def Sn:CC.XZ ci (CC.so gc) kQ ["_law_found","_law_book_here"] ["_law_found","_law_book_here"] (top 28) 0 14 SW=U:=by decide+kernel
noncomputable instance k15:CC.CS ci (CC.so cQ):=by delta cQ;infer_instance
def RP:CC.XZ ci (CC.so cQ) kQ ["_law_book_here","_law_found","_law_price","_law_strokes_here"] ["_law_book_here","_law_found","_law_price"] (top 30) 1 15 SW=U:=by decide+kernel
noncomputable instance k16:CC.CS ci (CC.so da):=by delta da;infer_instance
def Sa:CC.XZ ci (CC.so da) kQ ["_law_book_here","_law_cells","_law_by","_law_words","_law_many","_law_cell_here","_law_name","_law_strokes_here"] ["_law_book_here","_law_cells","_law_by"] (top 31) 2 16 SW=U:=by decide+kernel
noncomputable instance k17:CC.CS ci (CC.WC jv):=by delta jv;infer_instance
def Su:CC.XZ ci (CC.WC jv) kQ ["offers","ways","way","rest"] ["offers","ways"] (top 4) 2 17 SW=U:=by decide+kernel
noncomputable instance k18:CC.CS ci (CC.WC bM):=by delta bM;infer_instance
def SC:CC.XZ ci (CC.WC bM) kQ ["book","ways","offers","way"] ["book"] (top 3) 3 18 SW=U:=by decide+kernel
noncomputable instance k19:CC.CS ci (CC.WC jx):=by delta jx;infer_instance
def R9:CC.XZ ci (CC.WC jx) kQ ["book","ways"] ["book"] (top 1) 4 19 SW=U:=by decide+kernel
noncomputable instance k20:CC.CS ci (CC.WC fO):=by delta fO;infer_instance
def Sd:CC.XZ ci (CC.WC fO) kQ ["book","ways"] ["book"] (top 2) 4 20 SW=U:=by decide+kernel
noncomputable instance k21:CC.CS ci (CC.WC dY):=by delta dY;infer_instance
def Sh:CC.XZ ci (CC.WC dY) kQ ["_law_book_here","_law_prices","_law_turn","_law_found"] ["_law_book_here"] (top 32) 5 21 SW=U:=by decide+kernel
noncomputable instance k22:CC.CS ci (CC.WC cn):=by delta cn;infer_instance
def Sg:CC.XZ ci (CC.WC cn) kQ ["book","strokes","last_words","place","word","part","end"] ["book","strokes"] (top 14) 2 22 SW=U:=by decide+kernel
noncomputable instance k23:CC.CS ci (CC.WC cP):=by delta cP;infer_instance
def RU:CC.XZ ci (CC.WC cP) kQ ["book","strokes","strokes_of","last_words","place","words","word"] ["book","strokes"] (top 13) 3 23 SW=U:=by decide+kernel
noncomputable instance k24:CC.CS ci (CC.WC jt):=by delta jt;infer_instance
def Sr:CC.XZ ci (CC.WC jt) kQ ["book","words","strokes_of","strokes","word"] ["book","words"] (top 12) 2 24 SW=U:=by decide+kernel
noncomputable instance k25:CC.CS ci (CC.WC uU):=by delta uU;infer_instance
def Sk:CC.XZ ci (CC.WC uU) kQ ["_law_script","_law_book_here","_law_other","_law_clear","_law_one","_law_words","_law_strokes_here","_law_read"] ["_law_script"] (top 33) 6 25 SW=U:=by decide+kernel
end K64
theorem QW{α:Type}:∀{l:G α},l.length=1->∃a,l=[a]
 |[a],_=>⟨a,W⟩
theorem QA{α:Type}:∀{l:G α},l.length=2->∃a b,l=[a,b]
 |[a,b],_=>⟨a,b,W⟩
theorem Ru{α:Type}:∀{l:G α},l.length=3->∃a b c,l=[a,b,c]
 |[a,b,c],_=>⟨a,b,c,W⟩
theorem Si{α:Type}:∀{l:G α},l.length=4->∃a b c d,l=[a,b,c,d]
 |[a,b,c,d],_=>⟨a,b,c,d,W⟩
local macro_rules| `(tactic|walk_at "ba")=> `(tactic|(intro _ _ _ _ _ _ us hl;first|(obtain⟨_,h⟩:=QW hl;subst h;kernel_rfl)|(obtain⟨_,_,h⟩:=QA hl;subst h;kernel_rfl)|(obtain⟨_,_,_,h⟩:=Ru hl;subst h;kernel_rfl)|(obtain⟨_,_,_,_,h⟩:=Si hl;subst h;kernel_rfl)|(match us,hl with|[_,_,_,_,_],_=>rfl)|(match us,hl with|[_,_,_,_,_,_],_=>rfl)|(match us,hl with|[],_=>rfl)))| `(tactic|walk_at "fl")=> `(tactic|first|exact List.forall_mem_nil _|(refine List.forall_mem_cons.mpr ⟨?_,?_⟩;(·first|(show UW _ _ _=_;k_is)|(show UC _ _ _=_;k_is));walk_at "fl"))| `(tactic|walk_at "ki")=> `(tactic|first|(refine' L3.NI.mk ?a' ⟨_,L2.DR ?b' ?c' ?d'⟩;(case a'=>k_is);(case b'=>k_is);(case c'=>k_is);(case d'=>k_is))|(refine' L3.MI.mk ?a' ?e' ⟨_,L2.DR ?b' ?c' ?d'⟩;(case a'=>k_is);(case e'=>k_is);(case b'=>k_is);(case c'=>k_is);(case d'=>k_is))|(refine' L3.CI.mk ?a' ?b' ?c' ?d' ?e' ?f' ?g' ?i';(case a'=>k_is);(case b'=>k_is);(case c'=>k_is);(case d'=>k_is);(case e'=>k_is);(case f'=>k_is);(case g'=>k_is);(case i'=>walk_at "fl"))|(refine' L3.DI.mk ?a' ⟨_,L3.aeT ?b' ?c' ?d' ?e'⟩;(case a'=>k_is);(case b'=>k_is);(case c'=>k_is);(case d'=>k_is);(case e'=>k_is))|k_is|k_exc|rfl|walk_at "fl"|decide+kernel|(rw[<-aaE];rfl))
namespace K64
open PySem L2 L3 CC
def F_lawH:FN:=L10.PF F_law
def all_mk{l:aam}{w:TN}{K:Bn}{h:Heap}{c:Str->cc OK}{fa:SU}
  {f0 f1 f2 f3 f4 f5 f6 f7 f8 f9 f10 f11 f12 f13 f14 f15 f16 f17 f18 f19 f20 f21 V R D y:SU} (X:K.In h) (G:h.Ns T3 c) (B:c "law"=cL (.ref fa))
  (h0:NI K f0 "_law_cell" (top 16))
  (h1:NI K f1 "_law_stirred" (top 17))
  (h2:NI K f2 "_law_stream" (top 19))
  (h3:NI K f3 "_law_name_of" (top 23))
  (h4:NI K f4 "_law_stroke_of" (top 24))
  (h5:NI K f5 "_law_read_book" (top 25))
  (h6:NI K f6 "_law_wide" (top 18))
  (h7:NI K f7 "_law_names" (top 22))
  (h8:NI K f8 "_law_stroke" (top 21))
  (h9:NI K f9 "_law_book" (top 26))
  (k:NI K f10 "begins" (top 7))
  (Z:NI K f11 "first_ways" (top 5))
  (Y:NI K f12 "next_ways" (top 6))
  (U:NI K f13 "_law_written" (top 27))
  (S:NI K f14 "_law_row" (top 28))
  (Q:NI K f15 "_law_twofold" (top 30))
  (O:NI K f16 "_law_drawn" (top 31))
  (N:NI K f17 "offer" (top 4))
  (M:NI K f18 "cheapest_ways" (top 3))
  (L:NI K f19 "rests" (top 1))
  (J:NI K f20 "twofold" (top 2))
  (I:NI K f21 "_law_asked" (top 32))
  (H:NI K V "last_words_of" (top 14))
  (F:NI K R "read_strokes" (top 13))
  (E:NI K D "written" (top 12))
  (C:NI K y "law" (top 33))
  (yb:∀x∈kQ.bl,UC K T3 x=cL CL):
  ∃fd:UI,(∀(s:SS) (v:OK),X6 s fd ⟨[v],[]⟩ [("_law_script",v)])/\∀base:Heap,K.In base->base.Ns T3 c->FnOk l.prog w K c base kP 7 fa fd ["_law_script"] (L3.zj K 1 F_lawH):=by
 show C.law X G B (by walk_at "ba") λbase fd acm=>?_;let W:Tp l.prog w K c base h:=⟨X,G⟩;let a:aaM K c kQ:=⟨λx hx=>PySem.W.mg_none_of X G (yb x hx),CC.exN,CC.csN,CC.clN⟩;let s0:=CC.fs0 (T:=ci) (P:=l.prog) (w:=w) (K:=K) (mg:=c) (base:=base);let s1:=CC.Yh s0 rfl (h0.c W λ_ z=>CC.Xt a s0 z e0);let s2:=CC.Yh s1 rfl (h1.c W λ_ z=>CC.Xt a s1 z e1);let s3:=CC.Yh s2 rfl (h2.c W λ_ z=>CC.Xt a s2 z e2);let s4:=CC.Yh s3 rfl (h3.c W λ_ z=>CC.Xt a s3 z e3);let s5:=CC.Yh s4 rfl (h4.c W λ_ z=>CC.Xt a s4 z e4);let s6:=CC.Yh s5 rfl (h5.c W λ_ z=>CC.Xt a s5 z e5);let s7:=CC.Yh s6 rfl (h6.c W λ_ z=>CC.Xt a s6 z e6);let s8:=CC.Yh s7 rfl (h7.c W λ_ z=>CC.Xt a s7 z e7);let s9:=CC.Yh s8 rfl (h8.c W λ_ z=>CC.Xt a s8 z e8);let u:=CC.Yh s9 rfl (h9.c W λ_ z=>CC.Xt a s9 z e9);let t:=CC.Yh u rfl (k.c W λ_ z=>CC.Xt a u z Sv);let r:=CC.Yh t rfl (Z.c W λ_ z=>CC.Xt a t z RT);let q:=CC.Yh r rfl (Y.c W λ_ z=>CC.Xt a r z Sf);let p:=CC.Yh q rfl (U.c W λ_ z=>CC.Xt a q z Sy);let o:=CC.Yh p rfl (S.c W λ_ z=>CC.Xt a p z Sn);let n:=CC.Yh o rfl (Q.c W λ_ z=>CC.Xt a o z RP);let m:=CC.Yh n rfl (O.c W λ_ z=>CC.Xt a n z Sa);let j:=CC.Yh m rfl (N.c W λ_ z=>CC.YY a m z Su);let i:=CC.Yh j rfl (M.c W λ_ z=>CC.YY a j z SC);let g:=CC.Yh i rfl (L.c W λ_ z=>CC.YY a i z R9);let f:=CC.Yh g rfl (J.c W λ_ z=>CC.YY a g z Sd);let e:=CC.Yh f rfl (I.c W λ_ z=>CC.YY a f z Sh);let d:=CC.Yh e rfl (H.c W λ_ z=>CC.YY a e z Sg);let b:=CC.Yh d rfl (F.c W λ_ z=>CC.YY a d z RU);let A:=CC.Yh b rfl (E.c W λ_ z=>CC.YY a b z Sr);show(CC.YY a A acm Sk).imp λ_ _ _ _ h=>L10.Kh h
end K64
local macro_rules|`(universe $i*)=>do
 let t:=fun (c:Lean.Name)=>`(theorem $(Lean.mkIdent ((`PySem.W.Fast).str ("tw"++toString c.hash))):ident:True:=trivial)
 let b:=`PySem.Challenge.cw_chordbed_k64_whole_clear_or_twofold_holds
 let o←(List.range 274).mapM fun n=>t (b.str ("o_"++toString n))
 let l←i.mapM fun j=>t (b++j.getId)
 return Lean.mkNullNode (((o.toArray++l).push (←t `PySem.Challenge.pw_chordbed_k64_whole_clear_or_twofold)))
universe heap_39 heap_274 view_39 tree_273 tree_240 sts_161 sts_241 tree_160 sts_49 sts_111 tree_110 tree_95 heap_46 sts_96 tree_47 env_41
open PySem PySem.W PyProof.Rows
set_option maxRecDepth 100000 in
set_option maxHeartbeats 0 in
theorem PySem.Challenge.cw_chordbed_k64_whole_clear_or_twofold_holds : PySem.Challenge.rw_chordbed_k64_whole_clear_or_twofold.Holds := by
 w_on;o_law;k_head;(case hw=>w_witness2)
 k_fill
 refine L3.PU (l:=PySem.Challenge.rw_chordbed_k64_whole_clear_or_twofold) (n:=63) (k:=7) (x:= "_law_script") (F:=K64.F_lawH) rfl (by decide) rfl ⟨rfl,by decide,by decide⟩ (λw h Y=>PySem.W.kIn_of Y) ?F K64.main
 case F=>
  intro w d e h b G a
  apply K64.all_mk b G a
  all_goals walk_at "ki"
